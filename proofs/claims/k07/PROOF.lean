import PyProof.Rows.All
import Wide.All
import OpenK.AllK
import Wide.FinOn
import Lean
import PyProof.EqAt
import PyProof.EqKinds
import PyProof.TupleCall
import PyProof.CompMap
import PyProof.ZipIter
import PyProof.TupleIter
import PyProof.ExcAttrAll.ValueError
import KE.KSortKey
import KE.KRevIter
import KE.KLam
import KE.KNestM
import PyProof.Rows.Range3
import PyProof.EnumMake
import PyProof.JoinWalk
import PyProof.Rows.StrSplitJoin
import PyProof.Rows.StrWeight2
import PyProof.StrOps2
import KE.KSortTup
import KE.KIntText
import PyProof.StrLawsFirst
import PyProof.StrBlockL
import PyProof.Rows.StrNews2
import PyProof.StrWalks
import PySem.Challenge.RW_tuningyard_k07_rising
set_option Elab.async false
set_option linter.all false
set_option maxRecDepth 100000
namespace L2
open PySem PySem.Spec PyProof.Rows
abbrev Key:=Sum Int Str
def keyIs:Key→Value→Bool
 | .inl k,v=>Value.isInt k v
 | .inr x,v=>Value.isStrOf x v
def keyH (w:World):Key→Int
 | .inl k=>hashInt k
 | .inr x=>hashStr w x
theorem keyIs_shape:∀ {k:Key} {v:Value},keyIs k v = true→(∃ i t,k = Sum.inl i∧v = Value.int i t)∨(∃ x t,k = Sum.inr x∧v = Value.str x t)
 | .inl i,v,h=>by
  obtain ⟨t,e⟩:=Value.isInt_shape (k:=i) (v:=v) h
  exact .inl ⟨i,t,rfl,e⟩
 | .inr x,v,h=>by
  obtain ⟨t,e⟩:=Value.isStrOf_shape (x:=x) (v:=v) h
  exact .inr ⟨x,t,rfl,e⟩
theorem key_ll (a b:Int):decide ((Sum.inl a:Key) = Sum.inl b) = (a == b):=by
 by_cases e:a = b
 ·subst e; simp
 ·have h:¬ (Sum.inl a:Key) = Sum.inl b:=fun q=>e (Sum.inl.inj q)
  rw [decide_eq_false h]
  exact (beq_eq_false_iff_ne.mpr e).symm
theorem key_rr (a b:Str):decide ((Sum.inr a:Key) = Sum.inr b) = decide (a = b):=by
 by_cases e:a = b
 ·subst e; simp
 ·have h:¬ (Sum.inr a:Key) = Sum.inr b:=fun q=>e (Sum.inr.inj q)
  rw [decide_eq_false h,decide_eq_false e]
theorem key_lr (a:Int) (b:Str):decide ((Sum.inl a:Key) = Sum.inr b) = false:=decide_eq_false (fun q=>nomatch q)
theorem key_rl (a:Str) (b:Int):decide ((Sum.inr a:Key) = Sum.inl b) = false:=decide_eq_false (fun q=>nomatch q)
def mixKind (prog:Program) (w:World):PySem.KeyKind prog w Key where
 is:=keyIs
 hash:=keyH w
 inj:=fun v a b ha hb=>by
  rcases keyIs_shape ha with ⟨i,t,rfl,rfl⟩ | ⟨x,t,rfl,rfl⟩
  ·rcases keyIs_shape hb with ⟨j,u,rfl,e⟩ | ⟨y,u,rfl,e⟩
   ·injection e with e1 _; rw [e1]
   ·exact nomatch e
  ·rcases keyIs_shape hb with ⟨j,u,rfl,e⟩ | ⟨y,u,rfl,e⟩
   ·exact nomatch e
   ·injection e with e1 _; rw [e1]
 byValue:=fun k v h=>by
  rcases keyIs_shape h with ⟨i,t,rfl,rfl⟩ | ⟨x,t,rfl,rfl⟩ <;> rfl
 pyHash:=fun hv h=>by
  rcases keyIs_shape hv with ⟨i,t,rfl,rfl⟩ | ⟨x,t,rfl,rfl⟩
  ·exact wpAny_pyHash_int h
  ·exact wpAny_pyHash_str h
 eqBool:=fun hu hv h=>by
  rcases keyIs_shape hu with ⟨i,t,rfl,rfl⟩ | ⟨x,t,rfl,rfl⟩
  ·rcases keyIs_shape hv with ⟨j,u,rfl,rfl⟩ | ⟨y,u,rfl,rfl⟩
   ·rw [key_ll] at h; exact wpAny_eqBool_int h
   ·rw [key_lr] at h; exact SeqAt.EqAt.int_str i t y u _ _ _ _ h
  ·rcases keyIs_shape hv with ⟨j,u,rfl,rfl⟩ | ⟨y,u,rfl,rfl⟩
   ·rw [key_rl] at h; exact SeqAt.EqAt.str_int x t j u _ _ _ _ h
   ·rw [key_rr] at h; exact wpAny_eqBool_str h
 «strs»:=fun k x t v h=>by
  rcases keyIs_shape h with ⟨i,u,rfl,e⟩ | ⟨y,u,rfl,e⟩
  ·exact nomatch e
  ·injection e with e1 _
   subst e1
   cases v <;> rfl
end L2
namespace L2
open PySem PySem.Spec PyProof.Rows
inductive V where
 | non | bl (b:Bool) | int (i:Int) | str (x:Str) | byt (b:Array UInt8) | flt (b:UInt64) | ref (a:Addr) | ty (n:String)
 deriving DecidableEq
def RelV:V→Value→Prop
 | .non,u=>u = Value.none
 | .bl b,u=>u = Value.bool b
 | .int i,u=>∃ t,u = Value.int i t
 | .str x,u=>∃ t,u = Value.str x t
 | .byt b,u=>∃ t,u = Value.bytes b t
 | .flt b,u=>∃ t,u = Value.float b t
 | .ref a,u=>u = Value.ref a
 | .ty n,u=>u = Value.type n
abbrev Vals:List V→List Value→Prop:=Paired RelV
theorem Vals.length {xs:List V} {us:List Value} (r:Vals xs us):xs.length = us.length:=Paired.length r
theorem Vals.get:∀ {xs:List V} {us:List Value} {i:Nat} {x:V},Vals xs us→xs[i]? = some x→∃ u,us[i]? = some u∧RelV x u
 | _,_,_,_,.nil,e=>by simp at e
 | _,_,0,_,.cons r _,e=>by simp at e; subst e; exact ⟨_,rfl,r⟩
 | _,_,i + 1,x,.cons _ t,e=>by
  obtain ⟨u,h1,h2⟩:=Vals.get (i:=i) (x:=x) t (by simpa using e)
  exact ⟨u,by simpa using h1,h2⟩
theorem Vals.append:∀ {xs ys:List V} {us ws:List Value},Vals xs us→Vals ys ws→Vals (xs ++ ys) (us ++ ws)
 | _,_,_,_,.nil,s=>s
 | _,_,_,_,.cons r t,s=>.cons r (Vals.append t s)
theorem Vals.take:∀ {xs:List V} {us:List Value} (n:Nat),Vals xs us→Vals (xs.take n) (us.take n)
 | _,_,0,_=>.nil
 | _,_,_ + 1,.nil=>.nil
 | _,_,n + 1,.cons r t=>.cons r (Vals.take n t)
theorem Vals.drop:∀ {xs:List V} {us:List Value} (n:Nat),Vals xs us→Vals (xs.drop n) (us.drop n)
 | _,_,0,r=>r
 | _,_,_ + 1,.nil=>.nil
 | _,_,n + 1,.cons _ t=>Vals.drop n t
def RelO:Option V→Option Value→Prop
 | some v,some u=>RelV v u
 | none,none=>True
 | _,_=>False
def KV {κ:Type}:List (κ×V)→List (κ×Value)→Prop:=Paired fun (p:κ×V) (q:κ×Value)=>p.1 = q.1∧RelV p.2 q.2
def kV:Key→V
 | .inl i=>.int i
 | .inr x=>.str x
inductive HO where
 /-- a list -/
 | lst (xs:List V)
 /-- a tuple (never changes) -/
 | tup (xs:List V)
 /-- a dict whose keys are ints and texts; one whose keys are tuples of ints and texts (the empty one is both) -/
 | dK (kvs:List (Key×V)) | dT (kvs:List (List Key×V))
 /-- a set of ints: its members,its size -/
 | set (S:Int→Bool) (n:Nat)
 /-- an instance of the class at C,its dict at dx,its attributes -/
 | ins (C dx:Addr) (fs:List (Str×V))
 /-- the dict of the instance at x -/
 | own (x:Addr)
 /-- the dict of an exception -/
 | xd (fs:List (Str×V))
 /-- a bound method,f of x -/
 | met (f x:Addr)
 /-- a range object lo,lo + 1,.. below hi -/
 | rng (lo hi:Int)
 /-- a thing that is known to the object (the script; a dict while a loop walks it): read,never written while it is so -/
 | frz (o:Obj) (u:HO)
 /-- a code object's table -/
 | tbl (ps:Array Value)
 /-- any other thing,by what is true of its one object (a def of one's own: SetO a S n:=HO.ext fun h=>..) -/
 | ext (φ:Heap→Prop)
abbrev Hp:=Addr→Option HO
def upd (H:Hp) (a:Addr) (o:HO):Hp:=fun b=>if b = a then some o else H b
theorem upd_same {H:Hp} {a:Addr} {o:HO}:upd H a o a = some o:=by unfold upd; rw [if_pos rfl]
theorem upd_ne {H:Hp} {a b:Addr} {o:HO} (h:b≠a):upd H a o b = H b:=by unfold upd; rw [if_neg h]
theorem ne_of_none {H:Hp} {a b:Addr} {o:HO} (h:H a = some o) (h':H b = none):a≠b:=by
 intro e; subst e; rw [h] at h'; cases h'
section
variable (P:Program) (w:World)
def ObjOk (H:Hp) (h:Heap) (a:Addr):HO→Prop
 | .lst xs=>xs.length≤sizeLine∧∃ (its:List Value) (n:Nat),Vals xs its∧h.get? a = some { cls:=.type "list",data:=.seq its.toArray n }
 | .tup xs=>xs.length≤sizeLine∧∃ its:List Value,Vals xs its∧IsTup h a its.toArray
 | .dK kvs=>kvs.length≤sizeLine∧(a == sysModules) = false∧∃ vs,KV kvs vs∧h.DictOf (mixKind P w) a vs
 | .dT kvs=>kvs.length≤sizeLine∧(a == sysModules) = false∧∃ xs:List (List Key×Addr×Value),
   Paired (fun (p:List Key×V) (q:List Key×Addr×Value)=>p.1 = q.1∧H q.2.1 = some (.tup (p.1.map kV))∧RelV p.2 q.2.2) kvs xs ∧
   ∃ o es ep,h.get? a = some o∧o.ExactDict∧o.data = .dict es ep∧es.toList = xs.map (entryOfKey (tupleKind (mixKind P w)))∧(xs.map (·.1)).Nodup
 | .set S n=>h.SetOf (intKind P w) a S n
 | .ins C dx fs=>H dx = some (.own a)∧fs.length≤1000∧dx≠a∧h.get? a = some (PySem.W.instObj C dx) ∧
   ∃ mA,h.Ns1 dx mA∧(∀ f,RelO (fs.lookup f) (mA f))∧PySem.Within mA (fs.map (·.1))
 | .own _=>∃ o,h.get? a = some o
 | .xd fs=>∃ mA,h.Ns1 a mA∧∀ f,RelO (fs.lookup f) (mA f)
 | .rng lo hi=>∃ t u v,h.get? a = some { cls:=.type "range",data:=.fields #[.int lo t,.int hi u,.int 1 v] }
 | .frz o u=>h.get? a = some o∧ObjOk H h a u
 | .tbl ps=>h.get? a = some { cls:=.none,data:=.fields ps }
 | .met f x=>h.get? a = some (PySem.W.methodObj (.ref f) (.ref x))
 | .ext φ=>φ h∧(∃ o,h.get? a = some o)∧∀ h1 h2:Heap,φ h1→(∀ o,h1.get? a = some o→h2.get? a = some o)→φ h2
def HOk (H:Hp) (h:Heap):Prop:=∀ a o,H a = some o→ObjOk P w H h a o
end
section
variable {P:Program} {w:World} {H H':Hp} {h h':Heap} {a:Addr} {o:HO}
theorem ObjOk.lt (x:ObjOk P w H h a o):a < h.objs.size:=by
 cases o with
 | lst xs=>obtain ⟨_,_,_,_,e⟩:=x; exact Heap.lt_size e
 | tup xs=>obtain ⟨_,_,_,p⟩:=x; exact p.lt
 | dK kvs=>obtain ⟨_,_,_,_,o,_,_,e,_⟩:=x; exact Heap.lt_size e
 | dT kvs=>obtain ⟨_,_,_,_,o,_,_,e,_⟩:=x; exact Heap.lt_size e
 | set S n=>obtain ⟨o,_,_,_,e,_⟩:=x; exact Heap.lt_size e
 | ins C dx fs=>obtain ⟨_,_,_,e,_⟩:=x; exact Heap.lt_size e
 | own y=>obtain ⟨_,e⟩:=x; exact Heap.lt_size e
 | xd fs=>obtain ⟨_,⟨_,_,_,e,_⟩,_⟩:=x; exact Heap.lt_size e
 | rng lo hi=>obtain ⟨_,_,_,e⟩:=x; exact Heap.lt_size e
 | frz ob u=>obtain ⟨e,_⟩:=x; exact Heap.lt_size e
 | tbl ps=>exact Heap.lt_size (show h.get? a = some _ from x)
 | met f y=>exact Heap.lt_size (show h.get? a = some _ from x)
 | ext φ=>obtain ⟨_,⟨_,e⟩,_⟩:=x; exact Heap.lt_size e
theorem Paired.mapP {α β:Type} {F G:α→β→Prop}:∀ {l₁:List α} {l₂:List β},Paired F l₁ l₂→(∀ a b,F a b→G a b)→Paired G l₁ l₂
 | _,_,.nil,_=>.nil
 | _,_,.cons r t,f=>.cons (f _ _ r) (Paired.mapP t f)
theorem ObjOk.stay (x:ObjOk P w H h a o) (k:∀ b u,(b = a∨H b = some (.own a))→h.get? b = some u→h'.get? b = some u)
  (ho:∀ b,H b = some (.own a)→H' b = some (.own a)) (ht:∀ b xs,H b = some (.tup xs)→H' b = some (.tup xs)):ObjOk P w H' h' a o:=by
 induction o with
 | lst xs=>obtain ⟨z,its,n,r,e⟩:=x; exact ⟨z,its,n,r,k _ _ (.inl rfl) e⟩
 | tup xs=>obtain ⟨z,its,r,ob,e,c⟩:=x; exact ⟨z,its,r,ob,k _ _ (.inl rfl) e,c⟩
 | dK kvs=>obtain ⟨z,y,vs,r,ob,es,ep,e,c⟩:=x; exact ⟨z,y,vs,r,ob,es,ep,k _ _ (.inl rfl) e,c⟩
 | dT kvs =>
  obtain ⟨z,y,xs,r,ob,es,ep,e,c⟩:=x
  exact ⟨z,y,xs,Paired.mapP r fun p q z=>⟨z.1,ht _ _ z.2.1,z.2.2⟩,ob,es,ep,k _ _ (.inl rfl) e,c⟩
 | set S n=>obtain ⟨ob,es,ep,t,e,c⟩:=x; exact ⟨ob,es,ep,t,k _ _ (.inl rfl) e,c⟩
 | ins C dx fs =>
  obtain ⟨d,z,ne,e,mA,⟨od,es,ep,e2,c⟩,r⟩:=x
  exact ⟨ho _ d,z,ne,k _ _ (.inl rfl) e,mA,⟨od,es,ep,k _ _ (.inr d) e2,c⟩,r⟩
 | own y=>obtain ⟨ob,e⟩:=x; exact ⟨ob,k _ _ (.inl rfl) e⟩
 | xd fs=>obtain ⟨mA,⟨od,es,ep,e,c⟩,r⟩:=x; exact ⟨mA,⟨od,es,ep,k _ _ (.inl rfl) e,c⟩,r⟩
 | rng lo hi=>obtain ⟨t,u,v,e⟩:=x; exact ⟨t,u,v,k _ _ (.inl rfl) e⟩
 | frz ob u ih=>obtain ⟨e,q⟩:=x; exact ⟨k _ _ (.inl rfl) e,ih q⟩
 | tbl ps =>
  have e:h.get? a = some { cls:=.none,data:=.fields ps }:=x
  show h'.get? a = some { cls:=.none,data:=.fields ps }
  exact k a _ (.inl rfl) e
 | met f y =>
  have e:h.get? a = some (PySem.W.methodObj (.ref f) (.ref y)):=x
  show h'.get? a = some (PySem.W.methodObj (.ref f) (.ref y))
  exact k a _ (.inl rfl) e
 | ext φ=>obtain ⟨p,⟨o,e⟩,st⟩:=x; exact ⟨st _ _ p fun o q=>k _ _ (.inl rfl) q,⟨o,k _ _ (.inl rfl) e⟩,st⟩
theorem HOk.lt (x:HOk P w H h) (e:H a = some o):a < h.objs.size:=(x a o e).lt
theorem HOk.fresh (x:HOk P w H h) (e:h.objs.size≤a):H a = none:=by
 cases q:H a with
 | none=>rfl
 | some u=>exact absurd (Nat.lt_of_lt_of_le (x.lt q) e) (Nat.lt_irrefl _)
theorem HOk.kept (x:HOk P w H h) (k:∀ b u,h.get? b = some u→h'.get? b = some u):HOk P w H h':=fun a o e =>
 (x a o e).stay (fun b u _ q=>k b u q) (fun _ q=>q) fun _ _ q=>q
theorem HOk.laid (x:HOk P w H h) (k:∀ b u,h.get? b = some u→h'.get? b = some u) (hp:h.objs.size≤a) (new:ObjOk P w (upd H a o) h' a o):HOk P w (upd H a o) h':=fun b u e=>by
 have hn:=x.fresh hp
 by_cases hb:b = a
 ·subst hb; rw [upd_same] at e; cases e; exact new
 ·rw [upd_ne hb] at e
  exact (x b u e).stay (fun c v _ q=>k c v q) (fun c q=>by rw [upd_ne (ne_of_none q hn)]; exact q) fun c xs q=>by rw [upd_ne (ne_of_none q hn)]; exact q
end
def Rd (H:Hp) (a:Addr) (u:HO):Prop:=H a = some u∨∃ o,H a = some (.frz o u)
theorem Rd.ok {P:Program} {w:World} {H:Hp} {h:Heap} {a:Addr} {u:HO} (r:Rd H a u) (x:HOk P w H h):ObjOk P w H h a u:=by
 rcases r with r | ⟨o,r⟩
 ·exact x a u r
 ·obtain ⟨_,q⟩:=x a _ r
  exact q
def Mut:Option HO→Prop
 | some (.lst _)=>True
 | some (.dK _)=>True
 | some (.dT _)=>True
 | some (.set _ _)=>True
 | some (.ins _ _ _)=>True
 | some (.ext _)=>True
 | _=>False
section
variable {P:Program} {w:World} {H:Hp} {h h':Heap} {x e:Addr} {o':HO}
theorem HOk.write (ok:HOk P w H h) (mu:Mut (H x)) (he:e = x∨H e = some (.own x)) (k:∀ b u,b≠e→h.get? b = some u→h'.get? b = some u) (heo:∃ u,h'.get? e = some u)
  (new:ObjOk P w (upd H x o') h' x o'):HOk P w (upd H x o') h':=fun b u q=>by
 have nown:∀ c y,H c = some (.own y)→c≠x:=fun c y r z=>by subst z; rw [r] at mu; exact mu
 have ntup:∀ c xs,H c = some (.tup xs)→c≠x:=fun c xs r z=>by subst z; rw [r] at mu; exact mu
 by_cases hb:b = x
 ·subst hb; rw [upd_same] at q; cases q; exact new
 ·rw [upd_ne hb] at q
  by_cases hbe:b = e
  ·have q':H b = some (.own x):=by
    rcases he with z | z
    ·exact absurd (hbe.trans z) hb
    ·rw [hbe]; exact z
   rw [q] at q'; cases q'
   obtain ⟨v,hv⟩:=heo
   exact ⟨v,by rw [hbe]; exact hv⟩
  ·refine (ok b u q).stay (fun c v hc r=>k c v ?_ r) (fun c r=>by rw [upd_ne (nown c b r)]; exact r) fun c xs r=>by rw [upd_ne (ntup c xs r)]; exact r
   rcases hc with rfl | hc
   ·exact hbe
   ·rintro rfl
    rcases he with z | z
    ·exact nown c b hc z
    ·rw [hc] at z; cases z; exact hb rfl
end
structure Un (fs ex:List Addr) (H H':Hp) (h h':Heap):Prop where
 keep:∀ b o,h.get? b = some o→H b = none→b∉fs→b∉ex→h'.get? b = some o
 slot:∀ b o,h.get? b = some o→H b = none→b∈fs→b∉ex→∃ sl,h'.get? b = some { o with slots:=sl }
 free:∀ b o,h.get? b = some o→H b = none→b∉ex→H' b = none
 there:∀ b o,h.get? b = some o→b∉ex→∃ o',h'.get? b = some o'
 tups:∀ b xs,H b = some (.tup xs)→H' b = some (.tup xs)
 frzs:∀ b o u,H b = some (.frz o u)→H' b = some (.frz o u)
 tbls:∀ b ps,H b = some (.tbl ps)→∃ more,H' b = some (.tbl (ps ++ more))
section
variable {fs fs' ex ex':List Addr} {H H1 H2:Hp} {h h1 h2 h':Heap} {a x e:Addr} {o:HO}
theorem Un.any (u:Un fs ex H H1 h h1) {b:Addr} {ob:Obj} (q:h.get? b = some ob) (n:H b = none) (hx:b∉ex):∃ sl,h1.get? b = some { ob with slots:=sl }:=by
 by_cases hb:b∈fs
 ·exact u.slot b ob q n hb hx
 ·exact ⟨ob.slots,u.keep b ob q n hb hx⟩
theorem Un.kept (k:∀ b u,h.get? b = some u→h'.get? b = some u):Un fs ex H H h h' :=
 ⟨fun b ob q _ _ _=>k b ob q,fun b ob q _ _ _=>⟨ob.slots,k b ob q⟩,fun _ _ _ n _=>n,fun b ob q _=>⟨ob,k b ob q⟩,fun _ _ q=>q,fun _ _ _ q=>q,fun _ ps q=>⟨#[],by rw [q]; simp⟩⟩
theorem Un.refl:Un fs ex H H h h:=Un.kept fun _ _ q=>q
theorem Un.laid (k:∀ b u,h.get? b = some u→h'.get? b = some u) (hp:h.objs.size≤a) (hn:H a = none):Un fs ex H (upd H a o) h h' where
 keep:=fun b u q _ _ _=>k b u q
 slot:=fun b u q _ _ _=>⟨u.slots,k b u q⟩
 free:=fun b u q n _=>by rw [upd_ne (Nat.ne_of_lt (Nat.lt_of_lt_of_le (Heap.lt_size q) hp))]; exact n
 there:=fun b u q _=>⟨u,k b u q⟩
 tups:=fun b xs q=>by rw [upd_ne (ne_of_none q hn)]; exact q
 frzs:=fun b u xs q=>by rw [upd_ne (ne_of_none q hn)]; exact q
 tbls:=fun b ps q=>⟨#[],by rw [upd_ne (ne_of_none q hn),q]; simp⟩
theorem Un.write (mu:Mut (H x)) (he:e = x∨H e = some (.own x)) (k:∀ b u,b≠e→h.get? b = some u→h'.get? b = some u) (heo:∃ u,h'.get? e = some u):Un fs ex H (upd H x o) h h':=by
 have hx:∀ b,H b = none→b≠x:=fun b n z=>by subst z; rw [n] at mu; exact mu
 have hb:∀ b,H b = none→b≠e:=fun b n z=>by
  subst z
  rcases he with r | r
  ·exact hx b n r
  ·rw [n] at r; cases r
 have hm:∀ b u,H b = some u→¬ Mut (some u)→b≠x:=fun b u q nm z=>by subst z; rw [q] at mu; exact nm mu
 refine ⟨fun b u q n _ _=>k b u (hb b n) q,fun b u q n _ _=>⟨u.slots,k b u (hb b n) q⟩,fun b u q n _=>by rw [upd_ne (hx b n)]; exact n,fun b u q _=>?_,
  fun b xs q=>by rw [upd_ne (hm b _ q fun z=>z)]; exact q,fun b u xs q=>by rw [upd_ne (hm b _ q fun z=>z)]; exact q,fun b ps q=>⟨#[],by rw [upd_ne (hm b _ q fun z=>z),q]; simp⟩⟩
 by_cases hbe:b = e
 ·subst hbe; exact heo
 ·exact ⟨u,k b u hbe q⟩
end
def trk (h:Heap) (H:Hp):List Addr:=(List.range h.objs.size).filter fun a=>(H a).isSome
def hidT (h:Heap) (H:Hp):Heap:=PySem.W.hideAll h (trk h H)
theorem hidT_size (h:Heap) (H:Hp):(hidT h H).objs.size = h.objs.size:=PySem.W.hideAll_size _ _
theorem hidT_get {h:Heap} {H:Hp} {b:Addr} {o:Obj} (e:h.get? b = some o) (n:H b = none):(hidT h H).get? b = some o :=
 PySem.W.hideAll_get _ e fun hm=>by
  have q:(H b).isSome = true:=(List.mem_filter.mp hm).2
  rw [n] at q; simp at q
theorem of_hidT {h:Heap} {H:Hp} {b:Addr} {o:Obj} (e:(hidT h H).get? b = some o):h.get? b = some o∧H b = none:=by
 have e':h.get? b = some o:=PySem.W.of_hideAll (trk h H) e
 refine ⟨e',?_⟩
 cases q:H b with
 | none=>rfl
 | some x =>
  have hm:b∈trk h H:=List.mem_filter.mpr ⟨List.mem_range.mpr (Heap.lt_size e'),by simp [q]⟩
  have z:(hidT h H).get? b = none:=PySem.W.hideAll_none (trk h H) hm
  rw [z] at e; cases e
def allNews (g h:Heap) (L:Addr):List (Addr×Obj):=(List.range h.objs.size).filterMap fun a=>if a = L∨(g.get? a).isSome = true then none else (h.get? a).map fun o=>(a,o)
def rest (g h:Heap) (L d:Addr):List (Addr×Obj):=(allNews g h L).filter fun p=>decide (p.1≠d)
end L2
namespace L2
open PySem PySem.Spec PyProof.Rows
structure Mod (K:PySem.W.Frag) (mg:Str→Option Value) (base:Heap):Prop where
 kin:K.In base
 glob:base.Ns mainGlobals mg
 blt:∃ mb,base.Ns builtinsNs mb∧∀ x:Str,x≠"__name__"→mb x = bootBuiltins x
 nolimit:base.NoLimit
structure Cx where
 prog:Program
 w:World
 K:PySem.W.Frag
 mg:Str→Option Value
 base:Heap
 A:Around
 N:List Str
 s₀:Shared
 H₀:Hp
 env:Env
 outer:List Env
 stack:List Env
 ex:List Addr
 fn:Str→Bool
 calm:Bool
 pn:List (Addr×Obj)
 xe:Value→Shared→Prop
def frs (l:List Env):List Addr:=l.filterMap (·.frame)
abbrev Cx.fs (X:Cx):List Addr:=frs X.outer
def Vis (sc:Scope) (x:Str):Prop:=sc.names.lookup x = some .local∨sc.names.lookup x = some .cell∨sc.names.lookup x = some .free
def Loc (sc:Scope) (x:Str):Prop:=sc.names.lookup x = some .local∨sc.names.lookup x = some .cell
def Look (env:Env) (h:Heap) (m:Str→Option Value) (x:Str) (u:Value):Prop :=
 (env.kindOf x = some .local∧m x = some u)∨((env.kindOf x = some .cell∨env.kindOf x = some .free)∧∃ c,env.cells.lookup x = some c∧h.IsCell c (some u))
structure Cx.Ok (X:Cx):Prop where
 mod:Mod X.K X.mg X.base
 kind:X.env.scope.kind = .function
 glob:X.env.globals = mainGlobals
 blt:X.env.builtins = builtinsNs
 above:X.s₀.heap.objs.size≤X.env.locals
 inj:∀ x y c,X.env.cells.lookup x = some c→X.env.cells.lookup y = some c→x = y
 has:∀ x,(X.env.kindOf x = some .cell∨X.env.kindOf x = some .free)→∃ c,X.env.cells.lookup x = some c
 cab:∀ x c,X.fn x = true→X.env.cells.lookup x = some c→X.s₀.heap.objs.size≤c
 hd:X.calm = true→X.A.handled = none
 frames:X.A.frames = some X.stack
 stk:X.stack = X.outer∨(X.stack = X.env :: X.outer∧X.env.frame = some X.env.locals)
 exf:∀ b∈X.ex,b≠X.env.locals∧∀ x c,X.env.cells.lookup x = some c→c≠b
 bs:∀ b o,X.base.get? b = some o→X.s₀.heap.get? b = some o∧X.H₀ b = none
 bsz:X.base.objs.size≤X.s₀.heap.objs.size
 noex:∀ b o,X.base.get? b = some o→b∉X.ex
 exfs:∀ b∈X.ex,b∉X.fs
 funs:X.s₀.heap.FunFrames X.base X.outer
 frf:∀ b∈X.fs,X.H₀ b = none
structure Inv (X:Cx) (pins:List (Addr×Obj)) (σ:List (Option V)) (H:Hp) (s:Shared):Prop where
 ok:X.Ok
 os:s.os = X.s₀.os
 bare:AllBare s.gens
 base:Un X.fs X.ex X.H₀ H X.s₀.heap s.heap
 loc:∃ m,s.heap.Ns X.env.locals m∧∀ (i:Nat) (x:Str) (v:V),X.N[i]? = some x→σ[i]? = some (some v)→Vis X.env.scope x→∃ u,RelV v u∧Look X.env s.heap m x u
 cell:∀ x c,X.env.cells.lookup x = some c→∃ v,s.heap.IsCell c v
 free:H X.env.locals = none
 freeC:∀ x c,X.env.cells.lookup x = some c→H c = none
 pin:∀ p∈X.pn ++ pins,s.heap.get? p.1 = some p.2∧H p.1 = none∧p.1≠X.env.locals∧p.1∉X.fs∧∀ v,p.2.data≠.cell v
 hok:HOk X.prog X.w H s.heap
 len:σ.length = X.N.length
section
variable {X:Cx} {pins:List (Addr×Obj)} {σ:List (Option V)} {H H':Hp} {s:Shared} {h':Heap}
theorem Cx.Ok.nofr (ok:X.Ok) {b:Addr} {o:Obj} (e:X.base.get? b = some o):b∉X.fs:=fun hb=>by
 have:=(ok.funs.mem hb).1
 rw [e] at this; cases this
theorem Inv.bs (I:Inv X pins σ H s):∀ b o,X.base.get? b = some o→s.heap.get? b = some o∧H b = none:=fun b o e =>
 ⟨I.base.keep b o (I.ok.bs b o e).1 (I.ok.bs b o e).2 (I.ok.nofr e) (I.ok.noex b o e),I.base.free b o (I.ok.bs b o e).1 (I.ok.bs b o e).2 (I.ok.noex b o e)⟩
theorem Inv.bk (I:Inv X pins σ H s):∀ b o,X.base.get? b = some o→s.heap.get? b = some o:=fun b o e=>(I.bs b o e).1
theorem Inv.mod (I:Inv X pins σ H s):Mod X.K X.mg X.base:=I.ok.mod
theorem Inv.kIn (I:Inv X pins σ H s):X.K.In s.heap:=I.ok.mod.kin.keeps I.bk
theorem Inv.lt (I:Inv X pins σ H s):X.env.locals < s.heap.objs.size:=let ⟨_,hn,_⟩:=I.loc; hn.lt
theorem Inv.sz (I:Inv X pins σ H s):X.s₀.heap.objs.size≤s.heap.objs.size:=Nat.le_trans I.ok.above (Nat.le_of_lt I.lt)
theorem Inv.nofs (I:Inv X pins σ H s) {a:Addr} (h:s.heap.objs.size≤a):a∉X.fs:=fun hb=>by
 obtain ⟨_,o,ho,_⟩:=I.ok.funs.mem hb
 exact absurd (Nat.lt_of_lt_of_le (Heap.lt_size ho) (Nat.le_trans I.sz h)) (Nat.lt_irrefl _)
theorem Inv.cne (I:Inv X pins σ H s):∀ x c,X.env.cells.lookup x = some c→c≠X.env.locals:=fun x c e z=>by
 obtain ⟨v,o,ho,hd⟩:=I.cell x c e
 obtain ⟨m,⟨o',es,ep,ho',hd',_⟩,_⟩:=I.loc
 rw [z,ho'] at ho; cases ho; rw [hd'] at hd; cases hd
theorem Inv.funs (I:Inv X pins σ H s):s.heap.FunFrames X.base X.outer:=by
 have all:∀ (l:List Env),(∀ b∈frs l,b∈X.fs)→X.s₀.heap.FunFrames X.base l→s.heap.FunFrames X.base l:=by
  intro l
  induction l with
  | nil=>intro _ _; trivial
  | cons env r ih =>
   intro hs hl
   obtain ⟨hk,⟨L,o,hf,hn,ho,hd⟩,hr⟩:=hl
   have hL:L∈X.fs:=hs L (by unfold frs; rw [List.filterMap_cons,hf]; exact List.mem_cons_self)
   obtain ⟨sl,e⟩:=I.base.slot L o ho (I.ok.frf L hL) hL fun z=>I.ok.exfs L z hL
   exact ⟨hk,⟨L,_,hf,hn,e,hd⟩,ih (fun b hb=>hs b (by unfold frs; rw [List.filterMap_cons,hf]; exact List.mem_cons_of_mem _ hb)) hr⟩
 exact all X.outer (fun _ hb=>hb) I.ok.funs
theorem Inv.stack (I:Inv X pins σ H s):s.heap.FunFrames X.base X.stack:=by
 rcases I.ok.stk with e | ⟨e,hf⟩
 ·rw [e]; exact I.funs
 ·rw [e]
  obtain ⟨m,hn,_⟩:=I.loc
  refine .cons (by rw [I.ok.kind]; decide) hf hn ?_ I.funs
  exact Heap.get?_none_of_le (Nat.le_trans I.ok.bsz I.ok.above)
theorem Inv.stkSub (I:Inv X pins σ H s):∀ b∈frs X.stack,b∈X.env.locals :: X.fs:=fun b hb=>by
 rcases I.ok.stk with e | ⟨e,hf⟩
 ·rw [e] at hb; exact List.mem_cons_of_mem _ hb
 ·rw [e] at hb
  unfold frs at hb
  rw [List.filterMap_cons,hf] at hb
  exact hb
theorem Inv.stkFree (I:Inv X pins σ H s):∀ b∈frs X.stack,H b = none:=fun b hb=>by
 rcases List.mem_cons.mp (I.stkSub b hb) with e | hb
 ·rw [e]; exact I.free
 ·obtain ⟨_,o,ho,_⟩:=I.ok.funs.mem hb
  exact I.base.free b o ho (I.ok.frf b hb) fun z=>I.ok.exfs b z hb
theorem Inv.step {g':Array GenState} {t':Nat} {d':Drawn} {ch:List Addr} (I:Inv X pins σ H s)
  (hch:∀ b∈ch,(b∈X.ex∨X.s₀.heap.objs.size≤b)∧b≠X.env.locals∧(∀ x c,X.env.cells.lookup x = some c→c≠b)∧∀ p∈X.pn ++ pins,p.1≠b)
  (keep:∀ b o,b≠X.env.locals→b∉X.fs→b∉ch→s.heap.get? b = some o→H b = none→h'.get? b = some o)
  (slot:∀ b o,b≠X.env.locals→b∈X.fs→b∉ch→s.heap.get? b = some o→H b = none→∃ sl,h'.get? b = some { o with slots:=sl }) (free:∀ b o,b∉ch→s.heap.get? b = some o→H b = none→H' b = none)
  (there:∀ b o,b∉ch→s.heap.get? b = some o→∃ o',h'.get? b = some o')
  (tups:∀ b xs,H b = some (.tup xs)→H' b = some (.tup xs)) (frzs:∀ b o u,H b = some (.frz o u)→H' b = some (.frz o u)) (tbls:∀ b ps,H b = some (.tbl ps)→∃ more,H' b = some (.tbl (ps ++ more)))
  (ns:∀ m,s.heap.Ns X.env.locals m→h'.Ns X.env.locals m) (hok:HOk X.prog X.w H' h') (hg:AllBare g') :
  Inv X pins σ H' { s with heap:=h',gens:=g',drawn:=d',toks:=t' }:=by
 have neL:∀ b o,X.s₀.heap.get? b = some o→b≠X.env.locals:=fun b o e=>Nat.ne_of_lt (Nat.lt_of_lt_of_le (Heap.lt_size e) I.ok.above)
 have neC:∀ b o,X.s₀.heap.get? b = some o→b∉X.ex→b∉ch:=fun b o e hx hb=>by
  rcases (hch b hb).1 with z | z
  ·exact hx z
  ·exact absurd (Nat.lt_of_lt_of_le (Heap.lt_size e) z) (Nat.lt_irrefl _)
 have cellK:∀ x c,X.env.cells.lookup x = some c→∀ v,s.heap.IsCell c v→h'.IsCell c v:=fun x c e v ⟨o,ho,hd⟩=>by
  have nch:c∉ch:=fun z=>(hch c z).2.2.1 x c e rfl
  by_cases hc:c∈X.fs
  ·obtain ⟨sl,q⟩:=slot c o (I.cne x c e) hc nch ho (I.freeC x c e)
   exact ⟨_,q,hd⟩
  ·exact ⟨o,keep c o (I.cne x c e) hc nch ho (I.freeC x c e),hd⟩
 refine ⟨I.ok,I.os,hg,⟨fun b o e n hb hx=>?_,fun b o e n hb hx=>?_,fun b o e n hx=>?_,fun b o e hx=>?_,fun b xs e=>tups b xs (I.base.tups b xs e),fun b o xs e=>frzs b o xs (I.base.frzs b o xs e),fun b ps e=>?_⟩,?_,fun x c e=>?_,?_,fun x c e=>?_,fun p hp=>?_,hok,I.len⟩
 ·exact keep b o (neL b o e) hb (neC b o e hx) (I.base.keep b o e n hb hx) (I.base.free b o e n hx)
 ·obtain ⟨sl,e1⟩:=I.base.slot b o e n hb hx
  obtain ⟨sl',e2⟩:=slot b _ (neL b o e) hb (neC b o e hx) e1 (I.base.free b o e n hx)
  exact ⟨sl',e2⟩
 ·obtain ⟨o',e1⟩:=I.base.there b o e hx
  exact free b o' (neC b o e hx) e1 (I.base.free b o e n hx)
 ·obtain ⟨o',e1⟩:=I.base.there b o e hx
  exact there b o' (neC b o e hx) e1
 ·obtain ⟨m1,e1⟩:=I.base.tbls b ps e
  obtain ⟨m2,e2⟩:=tbls b _ e1
  exact ⟨m1 ++ m2,by rw [e2,Array.append_assoc]⟩
 ·obtain ⟨m,hn,hl⟩:=I.loc
  refine ⟨m,ns m hn,fun i x v e1 e2 e3=>?_⟩
  obtain ⟨u,r,l⟩:=hl i x v e1 e2 e3
  refine ⟨u,r,?_⟩
  rcases l with l | ⟨k,c,e,z⟩
  ·exact .inl l
  ·exact .inr ⟨k,c,e,cellK x c e _ z⟩
 ·obtain ⟨v,z⟩:=I.cell x c e
  exact ⟨v,cellK x c e v z⟩
 ·obtain ⟨m,⟨o,_,_,ho,_⟩,_⟩:=I.loc
  exact free _ o (fun z=>(hch _ z).2.1 rfl) ho I.free
 ·obtain ⟨v,o,ho,hd⟩:=I.cell x c e
  exact free c o (fun z=>(hch c z).2.2.1 x c e rfl) ho (I.freeC x c e)
 ·obtain ⟨e,n,ne,nf,d⟩:=I.pin p hp
  have nch:p.1∉ch:=fun z=>(hch p.1 z).2.2.2 p hp rfl
  exact ⟨keep p.1 p.2 ne nf nch e n,free p.1 p.2 nch e n,ne,nf,d⟩
theorem Inv.un {t':Nat} (I:Inv X pins σ H s) (u:Un X.fs [] H H' s.heap h') (hok:HOk X.prog X.w H' h'):Inv X pins σ H' { s with heap:=h',toks:=t' }:=by
 obtain ⟨m,⟨o,es,ep,ho,r⟩,_⟩:=id I.loc
 obtain ⟨sl,hL⟩:=u.any ho I.free (by simp)
 exact I.step (g':=s.gens) (d':=s.drawn) (ch:=[]) (fun _ z=>nomatch z) (fun b o _ hb _ e n=>u.keep b o e n hb (by simp)) (fun b o _ hb _ e n=>u.slot b o e n hb (by simp)) (fun b o _ e n=>u.free b o e n (by simp)) (fun b o _ e=>u.there b o e (by simp)) u.tups u.frzs u.tbls (fun m' hm=>by
  obtain ⟨o',es',ep',ho',r'⟩:=hm
  rw [ho] at ho'; cases ho'
  exact ⟨_,es',ep',hL,r'⟩) hok I.bare
theorem Inv.call {g':Array GenState} {t':Nat} {d':Drawn} {ch:List Addr} (I:Inv X pins σ H s) (u:Un (frs X.stack) ch H H' s.heap h') (hok:HOk X.prog X.w H' h') (hg:AllBare g')
  (hch:∀ b∈ch,(b∈X.ex∨X.s₀.heap.objs.size≤b)∧b≠X.env.locals∧(∀ x c,X.env.cells.lookup x = some c→c≠b)∧∀ p∈X.pn ++ pins,p.1≠b) :
  Inv X pins σ H' { s with heap:=h',gens:=g',drawn:=d',toks:=t' }:=by
 obtain ⟨m,⟨o,es,ep,ho,r⟩,_⟩:=id I.loc
 obtain ⟨sl,hL⟩:=u.any ho I.free fun z=>(hch _ z).2.1 rfl
 exact I.step (ch:=ch) hch (fun b o hL hb hc e n=>u.keep b o e n (fun z=>(List.mem_cons.mp (I.stkSub b z)).elim hL hb) hc) (fun b o _ _ hc e n=>u.any e n hc) (fun b o hc e n=>u.free b o e n hc) (fun b o hc e=>u.there b o e hc) u.tups u.frzs u.tbls (fun m' hm=>by
  obtain ⟨o',es',ep',ho',r'⟩:=hm
  rw [ho] at ho'; cases ho'
  exact ⟨_,es',ep',hL,r'⟩) hok hg
theorem Inv.turned {t':Nat} {it:Addr} (I:Inv X pins σ H s) (k:∀ b o,b≠it→s.heap.get? b = some o→h'.get? b = some o) (hn:H it = none) (hL:it≠X.env.locals)
  (h1:it∈X.ex∨X.s₀.heap.objs.size≤it) (h2:∀ x c,X.env.cells.lookup x = some c→c≠it) (h3:∀ p∈X.pn ++ pins,p.1≠it):Inv X pins σ H { s with heap:=h',toks:=t' }:=by
 have nit:∀ b u,H b = some u→b≠it:=fun b u e z=>by rw [z,hn] at e; cases e
 refine I.step (g':=s.gens) (d':=s.drawn) (ch:=[it]) (fun b hb=>?_) (fun b o _ _ hc e _=>k b o (fun z=>hc (by simp [z])) e) (fun b o _ _ hc e _=>⟨o.slots,k b o (fun z=>hc (by simp [z])) e⟩) (fun _ _ _ _ n=>n)
  (fun b o hc e=>⟨o,k b o (fun z=>hc (by simp [z])) e⟩) (fun _ _ e=>e) (fun _ _ _ e=>e) (fun b ps e=>⟨#[],by rw [e]; simp⟩) (fun m hm=>?_) (fun b u e=>?_) I.bare
 ·have e:b = it:=by simpa using hb
  subst e
  exact ⟨h1,hL,h2,h3⟩
 ·obtain ⟨o,es,ep,ho,r⟩:=hm
  exact ⟨o,es,ep,k _ o (Ne.symm hL) ho,r⟩
 ·refine (I.hok b u e).stay (fun c v hc q=>k c v ?_ q) (fun _ q=>q) fun _ _ q=>q
  rcases hc with z | z
  ·rw [z]; exact nit b u e
  ·exact nit c _ z
theorem Inv.tok (I:Inv X pins σ H s) (t:Nat):Inv X pins σ H { s with toks:=t }:=I.un (h':=s.heap) (t':=t) Un.refl I.hok
theorem Inv.kept {t':Nat} (I:Inv X pins σ H s) (k:∀ b u,s.heap.get? b = some u→h'.get? b = some u):Inv X pins σ H { s with heap:=h',toks:=t' }:=I.un (Un.kept k) (I.hok.kept k)
theorem Inv.laid {a:Addr} {o:HO} {t':Nat} (I:Inv X pins σ H s) (k:∀ b u,s.heap.get? b = some u→h'.get? b = some u) (hp:s.heap.objs.size≤a) (new:ObjOk X.prog X.w (upd H a o) h' a o) :
  Inv X pins σ (upd H a o) { s with heap:=h',toks:=t' }:=I.un (Un.laid k hp (I.hok.fresh hp)) (I.hok.laid k hp new)
theorem Inv.write {x e:Addr} {o:HO} {t':Nat} (I:Inv X pins σ H s) (mu:Mut (H x)) (he:e = x∨H e = some (.own x)) (k:∀ b u,b≠e→s.heap.get? b = some u→h'.get? b = some u) (heo:∃ u,h'.get? e = some u)
  (new:ObjOk X.prog X.w (upd H x o) h' x o):Inv X pins σ (upd H x o) { s with heap:=h',toks:=t' }:=I.un (Un.write mu he k heo) (I.hok.write mu he k heo new)
theorem Inv.pins_of {pins':List (Addr×Obj)} (I:Inv X pins σ H s) (h:∀ p∈pins',s.heap.get? p.1 = some p.2∧H p.1 = none∧p.1≠X.env.locals∧p.1∉X.fs∧∀ v,p.2.data≠.cell v):Inv X pins' σ H s :=
 ⟨I.ok,I.os,I.bare,I.base,I.loc,I.cell,I.free,I.freeC,fun p hp=>(List.mem_append.mp hp).elim (fun z=>I.pin p (List.mem_append_left _ z)) (h p),I.hok,I.len⟩
theorem nodup_ix {N:List Str} (hN:N.Nodup) {i j:Nat} {x:Str} (a:N[i]? = some x) (b:N[j]? = some x):i = j:=by
 obtain ⟨h1,e1⟩:=List.getElem?_eq_some_iff.mp a
 obtain ⟨h2,e2⟩:=List.getElem?_eq_some_iff.mp b
 exact (List.getElem_inj hN).mp (e1.trans e2.symm)
theorem store_ok2 {M:Model} {A:Around} {E:Value→Shared→Prop} {i:Nat} {x:Str} {v:V} {u:Value} {Q:Unit→Shared→Prop} (I:Inv X pins σ H s) (hN:X.N.Nodup) (hi:X.N[i]? = some x) (hx:Loc X.env.scope x) (r:RelV v u)
  (h:∀ s',Inv X pins (σ.set i (some v)) H s'→(∃ a,Heap.SameBut a s.heap s'.heap∧(a = X.env.locals∨X.env.cells.lookup x = some a))→Q () s') (hf:X.fn x = true∨X.env.scope.names.lookup x = some .local:=by first | exact .inl rfl | exact .inr rfl | assumption):wpAny M A (storeName X.env x u) Q E s:=by
 obtain ⟨m,hn,hl⟩:=id I.loc
 have hcls:(X.env.scope.kind == .class || (X.env.scope.kind == .module && X.env.locals != X.env.globals)) = false:=by rw [I.ok.kind]; rfl
 have hiσ:i < σ.length:=by rw [I.len]; exact (List.getElem?_eq_some_iff.mp hi).1
 have cne:=I.cne
 have tracked:∀ {a:Addr} {h':Heap},(∃ o,s.heap.get? a = some o∧H a = none)→Heap.SameBut a s.heap h'→HOk X.prog X.w H h':=fun {a h'} ha hs b ob e=>by
  obtain ⟨_,_,hfree⟩:=ha
  refine (I.hok b ob e).stay (fun c w' hc q=>(hs.2 c ?_).trans q) (fun _ q=>q) fun _ _ q=>q
  rintro rfl
  rcases hc with rfl | hc
  ·rw [hfree] at e; cases e
  ·rw [hfree] at hc; cases hc
 rcases hx with hk | hk
 ·refine wpAny_storeName_local hk hn (fun h' hn' hs=>?_) hcls
  obtain ⟨oL,_,_,hoL,_⟩:=id hn
  refine h _ ⟨I.ok,I.os,I.bare,⟨fun b o e n hb hx=>?_,fun b o e n hb hx=>?_,I.base.free,fun b o e hx=>?_,I.base.tups,I.base.frzs,I.base.tbls⟩,⟨_,hn',fun j y v' e1 e2 e3=>?_⟩,fun y c e=>?_,I.free,I.freeC,fun p hp=>?_,tracked ⟨oL,hoL,I.free⟩ hs,by simpa using I.len⟩ ⟨_,hs,.inl rfl⟩
  ·exact (hs.2 b (Nat.ne_of_lt (Nat.lt_of_lt_of_le (Heap.lt_size e) I.ok.above))).trans (I.base.keep b o e n hb hx)
  ·obtain ⟨sl,e1⟩:=I.base.slot b o e n hb hx
   exact ⟨sl,(hs.2 b (Nat.ne_of_lt (Nat.lt_of_lt_of_le (Heap.lt_size e) I.ok.above))).trans e1⟩
  ·obtain ⟨o',e1⟩:=I.base.there b o e hx
   exact ⟨o',(hs.2 b (Nat.ne_of_lt (Nat.lt_of_lt_of_le (Heap.lt_size e) I.ok.above))).trans e1⟩
  ·by_cases hj:j = i
   ·subst hj
    rw [hi] at e1; cases e1
    rw [List.getElem?_set_self hiσ] at e2
    cases e2
    exact ⟨u,r,.inl ⟨hk,by simp⟩⟩
   ·rw [List.getElem?_set_ne (Ne.symm hj)] at e2
    obtain ⟨u',r',q⟩:=hl j y v' e1 e2 e3
    refine ⟨u',r',?_⟩
    rcases q with ⟨k,e⟩ | ⟨k,c,e,z⟩
    ·refine .inl ⟨k,?_⟩
     have:y≠x:=fun e=>hj (nodup_ix hN e1 (e ▸ hi))
     simp [this,e]
    ·exact .inr ⟨k,c,e,z.sameBut hs (cne y c e)⟩
  ·obtain ⟨w',z⟩:=I.cell y c e
   exact ⟨w',z.sameBut hs (cne y c e)⟩
  ·obtain ⟨e,n,ne,nf,d⟩:=I.pin p hp
   exact ⟨(hs.2 p.1 ne).trans e,n,ne,nf,d⟩
 ·have hfn:X.fn x = true:=by
   rcases hf with z | z
   ·exact z
   ·rw [z] at hk; cases hk
  obtain ⟨c,hc⟩:=I.ok.has x (.inl hk)
  obtain ⟨w',z⟩:=I.cell x c hc
  refine wpAny_storeName_cell I.ok.kind hk hc z (fun h' hc' hs=>?_)
  obtain ⟨oc,hoc,hocd⟩:=id z
  refine h { s with heap:=h' } ⟨I.ok,I.os,I.bare,⟨fun b o e n hb hx=>?_,fun b o e n hb hx=>?_,I.base.free,fun b o e hx=>?_,I.base.tups,I.base.frzs,I.base.tbls⟩,⟨m,hn.sameBut hs (Ne.symm (cne x c hc)),fun j y v' e1 e2 e3=>?_⟩,fun y c' e=>?_,I.free,I.freeC,fun p hp=>?_,tracked ⟨oc,hoc,I.freeC x c hc⟩ hs,by simpa using I.len⟩ ⟨c,hs,.inr hc⟩
  ·exact (hs.2 b (Nat.ne_of_lt (Nat.lt_of_lt_of_le (Heap.lt_size e) (I.ok.cab x c hfn hc)))).trans (I.base.keep b o e n hb hx)
  ·obtain ⟨sl,e1⟩:=I.base.slot b o e n hb hx
   exact ⟨sl,(hs.2 b (Nat.ne_of_lt (Nat.lt_of_lt_of_le (Heap.lt_size e) (I.ok.cab x c hfn hc)))).trans e1⟩
  ·obtain ⟨o',e1⟩:=I.base.there b o e hx
   exact ⟨o',(hs.2 b (Nat.ne_of_lt (Nat.lt_of_lt_of_le (Heap.lt_size e) (I.ok.cab x c hfn hc)))).trans e1⟩
  ·by_cases hj:j = i
   ·subst hj
    rw [hi] at e1; cases e1
    rw [List.getElem?_set_self hiσ] at e2
    cases e2
    exact ⟨u,r,.inr ⟨.inl hk,c,hc,hc'⟩⟩
   ·rw [List.getElem?_set_ne (Ne.symm hj)] at e2
    obtain ⟨u',r',q⟩:=hl j y v' e1 e2 e3
    refine ⟨u',r',?_⟩
    rcases q with q | ⟨k,c',e,z'⟩
    ·exact .inl q
    ·refine .inr ⟨k,c',e,z'.sameBut hs ?_⟩
     rintro rfl
     exact hj (nodup_ix hN e1 (I.ok.inj _ _ _ e hc ▸ hi))
  ·by_cases hcc:c' = c
   ·subst hcc; exact ⟨_,hc'⟩
   ·obtain ⟨w2,z2⟩:=I.cell y c' e
    exact ⟨w2,z2.sameBut hs hcc⟩
  ·obtain ⟨e,n,ne,nf,d⟩:=I.pin p hp
   refine ⟨(hs.2 p.1 ?_).trans e,n,ne,nf,d⟩
   intro q
   rw [q,hoc] at e
   have q':oc = p.2:=Option.some.inj e
   exact d w' (by rw [← q']; exact hocd)
theorem store_ok {M:Model} {A:Around} {E:Value→Shared→Prop} {i:Nat} {x:Str} {v:V} {u:Value} {Q:Unit→Shared→Prop} (I:Inv X pins σ H s) (hN:X.N.Nodup) (hi:X.N[i]? = some x) (hx:Loc X.env.scope x) (r:RelV v u)
  (h:∀ s',Inv X pins (σ.set i (some v)) H s'→Q () s') (hf:X.fn x = true∨X.env.scope.names.lookup x = some .local:=by first | exact .inl rfl | exact .inr rfl | assumption):wpAny M A (storeName X.env x u) Q E s :=
 store_ok2 I hN hi hx r (fun s' I' _=>h s' I') hf
theorem Inv.call' {s':Shared} {ch:List Addr} (I:Inv X pins σ H s) (ho:s'.os = s.os) (u:Un (frs X.stack) ch H H' s.heap s'.heap) (hok:HOk X.prog X.w H' s'.heap) (hg:AllBare s'.gens)
  (hch:∀ b∈ch,(b∈X.ex∨X.s₀.heap.objs.size≤b)∧b≠X.env.locals∧(∀ x c,X.env.cells.lookup x = some c→c≠b)∧∀ p∈X.pn ++ pins,p.1≠b):Inv X pins σ H' s':=by
 obtain ⟨h',g',d',t',o'⟩:=s'
 have e:o' = s.os:=ho
 subst e
 exact I.call (g':=g') (t':=t') (d':=d') u hok hg hch
end
abbrev XK:=Value→Option Addr→Hp→Prop
abbrev St:=List (Option V)
abbrev VK:=V→Hp→Prop
abbrev TE:=St→Hp→VK→Prop
abbrev TT:=St→Hp→(Bool→Hp→Prop)→Prop
abbrev TA:=St→Hp→(List V→Hp→Prop)→Prop
structure Ends where
 nx:St→Hp→Prop
 rt:VK
 bk:St→Hp→Prop:=fun _ _=>False
 ct:St→Hp→Prop:=fun _ _=>False
abbrev TS:=Ends→St→Hp→Prop
def EP (X:Cx) (pins:List (Addr×Obj)) (σ:St) (Q:VK) (u:Value) (s':Shared):Prop:=∃ v H',Inv X pins σ H' s'∧RelV v u∧Q v H'
def TP (X:Cx) (pins:List (Addr×Obj)) (σ:St) (Q:Bool→Hp→Prop) (b:Bool) (s':Shared):Prop:=∃ H',Inv X pins σ H' s'∧Q b H'
def AP (X:Cx) (pins:List (Addr×Obj)) (σ:St) (Q:List V→Hp→Prop) (us:List Value) (s':Shared):Prop:=∃ vs H',Inv X pins σ H' s'∧Vals vs us∧Q vs H'
def SP (X:Cx) (pins:List (Addr×Obj)) (D:Ends) (f:Flow) (s':Shared):Prop :=
 match f with
 | .next=>∃ σ' H',Inv X pins σ' H' s'∧D.nx σ' H'
 | .brk=>∃ σ' H',Inv X pins σ' H' s'∧D.bk σ' H'
 | .cont=>∃ σ' H',Inv X pins σ' H' s'∧D.ct σ' H'
 | .ret u=>∃ v σ' H',Inv X pins σ' H' s'∧RelV v u∧D.rt v H'
def PE (X:Cx) (e:Expr) (t:TE):Prop :=
 ∀ (pins:List (Addr×Obj)) (s:Shared) (σ:St) (H:Hp) (Q:VK),Inv X pins σ H s→t σ H Q→wpAny (model X.prog X.w) X.A (eval e X.env) (EP X pins σ Q) X.xe s
def PT (X:Cx) (e:Expr) (t:TT):Prop :=
 ∀ (pins:List (Addr×Obj)) (s:Shared) (σ:St) (H:Hp) (Q:Bool→Hp→Prop),Inv X pins σ H s→t σ H Q→wpAny (model X.prog X.w) X.A (isTrue e X.env (eval e X.env)) (TP X pins σ Q) X.xe s
def PW (X:Cx) (e:Expr) (t:TT):Prop :=
 ∀ (whole:Sem Value) (pins:List (Addr×Obj)) (s:Shared) (σ:St) (H:Hp) (Q:Bool→Hp→Prop),Inv X pins σ H s→t σ H Q→wpAny (model X.prog X.w) X.A (isTrue e X.env whole) (TP X pins σ Q) X.xe s
theorem PW.pt {X:Cx} {e:Expr} {t:TT} (h:PW X e t):PT X e t:=h _
def PA (X:Cx) (es:List Expr) (t:TA):Prop :=
 ∀ (pos:Pos) (pins:List (Addr×Obj)) (s:Shared) (σ:St) (H:Hp) (Q:List V→Hp→Prop),Inv X pins σ H s→t σ H Q→wpAny (model X.prog X.w) X.A (spliced (backTo pos (starEach es X.env))) (AP X pins σ Q) X.xe s
def PS (X:Cx) (st:Stmt) (t:TS):Prop :=
 ∀ (pins:List (Addr×Obj)) (s:Shared) (σ:St) (H:Hp) (D:Ends),Inv X pins σ H s→t D σ H→wpAny (model X.prog X.w) X.A (exec st X.env) (SP X pins D) X.xe s
def PSs (X:Cx) (st:List Stmt) (t:TS):Prop :=
 ∀ (pins:List (Addr×Obj)) (s:Shared) (σ:St) (H:Hp) (D:Ends),Inv X pins σ H s→t D σ H→wpAny (model X.prog X.w) X.A (execs st X.env) (SP X pins D) X.xe s
theorem thn {α:Type} {t:Sem α} {Q Q':α→Shared→Prop} {M:Model} {A:Around} {E:Value→Shared→Prop} {s:Shared} (h:wpAny M A t Q E s) (hQ:∀ a s,Q a s→Q' a s):wpAny M A t Q' E s:=wpAny_mono h hQ fun _ _ x=>x
end L2
namespace L2
open PySem PySem.Spec PyProof.Rows
section
variable {X:Cx}
theorem bin {a b:Expr} {ta tb:TE} (ha:PE X a ta) (hb:PE X b tb) {pins:List (Addr×Obj)} {s:Shared} {σ:St} {H:Hp} {R:V→V→Hp→Prop} (I:Inv X pins σ H s) (h:ta σ H fun x H1=>tb σ H1 fun y H2=>R x y H2)
  {α:Type} {Q:α→Shared→Prop} {f:Value→Value→Sem α}
  (hf:∀ v u s2 x y H2,Inv X pins σ H2 s2→RelV x v→RelV y u→R x y H2→wpAny (model X.prog X.w) X.A (f v u) Q X.xe s2) :
  wpAny (model X.prog X.w) X.A (eval a X.env) (fun v s₁=>wpAny (model X.prog X.w) X.A (eval b X.env) (fun u s₂=>wpAny (model X.prog X.w) X.A (f v u) Q X.xe s₂) X.xe s₁) X.xe s:=by
 refine thn (ha pins s σ H _ I h) fun v s1 ⟨x,H1,I1,r1,q1⟩=>?_
 refine thn (hb pins s1 σ H1 _ I1 q1) fun u s2 ⟨y,H2,I2,r2,q2⟩=>?_
 exact hf v u s2 x y H2 I2 r1 r2 q2
def tVar (i:Nat):TE:=fun σ H Q=>∃ v,σ[i]? = some (some v)∧Q v H
def tC (v:V):TE:=fun _ H Q=>Q v H
theorem pe_var {i:Nat} {x:Str} {pos:Pos} (hN:X.N[i]? = some x) (hv:Vis X.env.scope x) (hd:(x == ("__debug__":Str)) = false:=by decide) (hcd:(x == ("__classdict__":Str)) = false:=by decide):PE X (.Name x pos) (tVar i):=by
 intro pins s σ H Q I h
 obtain ⟨v,e,h⟩:=h
 obtain ⟨m,hn,hl⟩:=I.loc
 obtain ⟨u,r,l⟩:=hl i x v hN e hv
 have fin:EP X pins σ Q u s:=⟨v,H,I,r,h⟩
 rcases l with ⟨hk,hm⟩ | ⟨hk,c,hc,hcell⟩
 ·exact wpAny_Name (wpAny_loadName_local I.ok.kind hk hn hm fin) hd
 ·rcases hk with hk | hk
  ·exact wpAny_Name (wpAny_loadName_cell I.ok.kind hk hc hcell fin) hd
  ·exact wpAny_Name (wpAny_loadName_free I.ok.kind hk hc hcell fin hcd) hd
theorem pe_int {i j pos}:PE X (.Constant (.int i) j pos) (tC (.int i)):=fun _ _ _ H _ I h=>wpAny_Constant_int ⟨.int i,H,I.tok _,⟨_,rfl⟩,h⟩
theorem pe_bl {b j pos}:PE X (.Constant (.bool b) j pos) (tC (.bl b)):=fun _ _ _ H _ I h=>Constant_bool ⟨.bl b,H,I,rfl,h⟩
def Gl (X:Cx) (x:Str):Prop:=X.env.kindOf x = some .globalImplicit
theorem ld_glob {E:Value→Shared→Prop} {pins:List (Addr×Obj)} {s:Shared} {σ:St} {H:Hp} {x:Str} {u:Value} {pos:Pos} {Q:Value→Shared→Prop} (I:Inv X pins σ H s) (hg:Gl X x) (hm:X.mg x = some u) (h:Q u s)
  (hd:(x == ("__debug__":Str)) = false:=by decide):wpAny (model X.prog X.w) X.A (eval (.Name x pos) X.env) Q E s :=
 Calls.Name_function_global I.ok.kind hg (Calls.loadGlobal_global (by rw [I.ok.glob]; exact I.mod.glob.keeps I.bk) hm h) hd
theorem ld_blt {E:Value→Shared→Prop} {pins:List (Addr×Obj)} {s:Shared} {σ:St} {H:Hp} {x:Str} {u:Value} {pos:Pos} {Q:Value→Shared→Prop} (I:Inv X pins σ H s) (hg:Gl X x) (hm:X.mg x = none) (hv:bootBuiltins x = some u) (h:Q u s)
  (hn:x≠"__name__":=by decide) (hd:(x == ("__debug__":Str)) = false:=by decide):wpAny (model X.prog X.w) X.A (eval (.Name x pos) X.env) Q E s:=by
 obtain ⟨mb,h1,h2⟩:=I.mod.blt
 exact Calls.Name_function_global I.ok.kind hg (Calls.loadGlobal_builtin (by rw [I.ok.glob]; exact I.mod.glob.keeps I.bk) hm (by rw [I.ok.blt]; exact h1.keeps I.bk) ((h2 x hn).trans hv) h) hd
theorem pe_glob {x:Str} {v:V} {u:Value} {pos:Pos} (hg:Gl X x) (hm:X.mg x = some u) (r:RelV v u) (hd:(x == ("__debug__":Str)) = false:=by decide):PE X (.Name x pos) (tC v) :=
 fun _ _ _ H _ I h=>ld_glob I hg hm ⟨v,H,I,r,h⟩ hd
theorem pe_bltn {x:Str} {v:V} {u:Value} {pos:Pos} (hg:Gl X x) (hm:X.mg x = none) (hv:bootBuiltins x = some u) (r:RelV v u) (hn:x≠"__name__":=by decide) (hd:(x == ("__debug__":Str)) = false:=by decide):PE X (.Name x pos) (tC v) :=
 fun _ _ _ H _ I h=>ld_blt I hg hm hv ⟨v,H,I,r,h⟩ hn hd
variable {a b:Expr} {ta tb:TE} {pos:Pos}
def PC (X:Cx) (op:CmpOp) (a b:Expr) (t:TE):Prop :=
 ∀ (pins:List (Addr×Obj)) (s:Shared) (σ:St) (H:Hp) (Q:VK),Inv X pins σ H s→t σ H Q →
  wpAny (model X.prog X.w) X.A (eval a X.env) (fun v s₁=>wpAny (model X.prog X.w) X.A (eval b X.env) (fun u s₂=>wpAny (model X.prog X.w) X.A (compareOp op v u) (EP X pins σ Q) X.xe s₂) X.xe s₁) X.xe s
def tB (t:TE):TT:=fun σ H Q=>t σ H fun x H1=>∃ c,x = .bl c∧Q c H1
theorem pt_cmp {op:CmpOp} {t:TE} (h:PC X op a b t) (h1:behindInMarks op b = false:=by first | exact nobehind _ (by decide) (by decide) | rfl):PT X (.Compare a [op] [b] pos) (tB t):=by
 intro pins s σ H Q I hw
 refine wpAny_isTrue_Compare1 (thn (h pins s σ H _ I hw) fun v s1 h1=>thn h1 fun u s2 h2=>thn h2 fun c s3 ⟨x,H1,I1,r1,q1⟩=>?_) h1
 obtain ⟨d,rfl,q⟩:=q1
 cases r1
 exact wpAny_truthy_bool ⟨H1,I1,q⟩
theorem pt_val {e:Expr} {t:TE} (h:PE X e t) (he:∀ whole,isTrue e X.env whole = (do let v ← whole; standAt e.pos; holding [v] (truthy v)):=by intro _; rfl):PT X e (tB t):=by
 intro pins s σ H Q I hw
 refine isTrue_plain (thn (h pins s σ H _ I hw) fun v s1 ⟨x,H1,I1,r1,q1⟩=>?_) (he _)
 obtain ⟨d,rfl,q⟩:=q1
 cases r1
 exact wpAny_truthy_bool ⟨H1,I1,q⟩
variable {tA tB':TT} {rest:List Expr}
def tOr (t u:TT):TT:=fun σ H Q=>t σ H fun c H1=>if c = true then Q true H1 else u σ H1 Q
def tNot (t:TT):TT:=fun σ H Q=>t σ H fun c H1=>Q (!c) H1
theorem pw_or1 (ha:PT X a tA):PW X (.BoolOp .Or [a] pos) tA:=by
 intro wh pins s σ H Q I h
 refine isTrue_or (thn (ha pins s σ H Q I h) fun c s1 e=>?_)
 cases c with
 | false=>exact isTrue_or_nil e
 | true=>exact e
theorem pw_or (ha:PT X a tA) (hb:PW X (.BoolOp .Or (b :: rest) pos) tB'):PW X (.BoolOp .Or (a :: b :: rest) pos) (tOr tA tB'):=by
 intro wh pins s σ H Q I h
 refine isTrue_or (thn (ha pins s σ H _ I h) fun c s1 ⟨H1,I1,q1⟩=>?_)
 cases c with
 | true=>exact ⟨H1,I1,q1⟩
 | false=>exact hb wh pins s1 σ H1 Q I1 q1
theorem pt_not (ha:PT X a tA):PT X (.UnaryOp .Not a pos) (tNot tA):=by
 intro pins s σ H Q I h
 exact isTrue_not (ha pins s σ H (fun c H1=>Q (!c) H1) I h)
end
end L2
namespace L2
open PySem PySem.Spec PyProof.Rows
def SqL (K:PySem.W.Frag) (H:Hp) (a:Addr) (xs:List V):Prop :=
 Rd H a (.lst xs) ∨
  ∃ (o:Obj) (its:Array Value) (n:Nat),K.lookup a = some o∧o.cls = .type "list"∧o.dict = none∧o.data = .seq its n∧its.size≤sizeLine∧Vals xs its.toList
def SqT (K:PySem.W.Frag) (H:Hp) (a:Addr) (xs:List V):Prop :=
 Rd H a (.tup xs) ∨
  ∃ (o:Obj) (its:Array Value) (n:Nat),K.lookup a = some o∧o.cls = .type "tuple"∧o.data = .seq its n∧its.size≤sizeLine∧Vals xs its.toList
def absV:Value→Option V
 | .none=>some .non
 | .bool b=>some (.bl b)
 | .int i _=>some (.int i)
 | .str x _=>some (.str x)
 | .bytes b _=>some (.byt b)
 | .float b _=>some (.flt b)
 | .ref a=>some (.ref a)
 | .type n=>some (.ty n)
 | _=>none
theorem RelV.abs {x:V} {u:Value} (r:RelV x u):absV u = some x:=by
 cases x with
 | non=>cases r; rfl
 | bl _=>cases r; rfl
 | int _=>obtain ⟨t,rfl⟩:=r; rfl
 | str _=>obtain ⟨t,rfl⟩:=r; rfl
 | byt _=>obtain ⟨t,rfl⟩:=r; rfl
 | flt _=>obtain ⟨t,rfl⟩:=r; rfl
 | ref _=>cases r; rfl
 | ty _=>cases r; rfl
theorem RelV.inj {x y:V} {u:Value} (r:RelV x u) (q:RelV y u):x = y:=Option.some.inj (r.abs.symm.trans q.abs)
theorem Vals.inj:∀ {xs ys:List V} {us:List Value},Vals xs us→Vals ys us→xs = ys
 | _,_,_,.nil,.nil=>rfl
 | _,_,_,.cons r t,.cons r' t'=>by rw [r.inj r',Vals.inj t t']
section
variable {X:Cx} {pins:List (Addr×Obj)} {σ:St} {H:Hp} {s:Shared} {a:Addr} {xs ys:List V}
theorem SqL.of {K:PySem.W.Frag} (h:H a = some (.lst xs)):SqL K H a xs:=.inl (.inl h)
theorem SqT.of {K:PySem.W.Frag} (h:H a = some (.tup xs)):SqT K H a xs:=.inl (.inl h)
theorem Inv.list (I:Inv X pins σ H s) (h:SqL X.K H a xs):∃ its:List Value,Vals xs its∧PlainL s.heap a its.toArray∧xs.length≤sizeLine:=by
 rcases h with h | ⟨o,its,n,hk,hc,hd,hs,hz,r⟩
 ·obtain ⟨z,its,n,r,e⟩:=h.ok I.hok
  exact ⟨its,r,⟨_,n,e,rfl,rfl,rfl⟩,z⟩
 ·refine ⟨its.toList,r,⟨o,n,I.kIn a o hk,hc,hd,by simpa using hs⟩,?_⟩
  have e:=r.length
  simp only [Array.length_toList] at e
  omega
theorem Inv.tuple (I:Inv X pins σ H s) (h:SqT X.K H a xs):∃ its:List Value,Vals xs its∧IsTup s.heap a its.toArray∧xs.length≤sizeLine:=by
 rcases h with h | ⟨o,its,n,hk,hc,hs,hz,r⟩
 ·obtain ⟨z,its,r,p⟩:=h.ok I.hok
  exact ⟨its,r,p,z⟩
 ·refine ⟨its.toList,r,⟨o,I.kIn a o hk,hc,n,by simpa using hs⟩,?_⟩
  have e:=r.length
  simp only [Array.length_toList] at e
  omega
theorem Inv.list_inj (I:Inv X pins σ H s) (h:SqL X.K H a xs) (h':SqL X.K H a ys):xs = ys:=by
 obtain ⟨its,r,⟨o,n,e,_,_,d⟩,_⟩:=I.list h
 obtain ⟨its',r',⟨o',n',e',_,_,d'⟩,_⟩:=I.list h'
 rw [e] at e'; cases e'
 rw [d] at d'
 injection d' with d1 _
 have:its = its':=by simpa using congrArg Array.toList d1
 subst this
 exact r.inj r'
theorem Inv.tuple_inj (I:Inv X pins σ H s) (h:SqT X.K H a xs) (h':SqT X.K H a ys):xs = ys:=by
 obtain ⟨its,r,⟨o,e,_,n,d⟩,_⟩:=I.tuple h
 obtain ⟨its',r',⟨o',e',_,n',d'⟩,_⟩:=I.tuple h'
 rw [e] at e'; cases e'
 rw [d] at d'
 injection d' with d1 _
 have:its = its':=by simpa using congrArg Array.toList d1
 subst this
 exact r.inj r'
end
abbrev Cx.wish (X:Cx) (E:Value→Shared→Prop):Cx:={ X with xe:=E }
abbrev Cx.nox (X:Cx):Cx:=X.wish fun _ _=>False
theorem Cx.Ok.wish {X:Cx} (ok:X.Ok) (E:Value→Shared→Prop):(X.wish E).Ok :=
 ⟨ok.mod,ok.kind,ok.glob,ok.blt,ok.above,ok.inj,ok.has,ok.cab,ok.hd,ok.frames,ok.stk,ok.exf,ok.bs,ok.bsz,ok.noex,ok.exfs,ok.funs,ok.frf⟩
theorem Cx.Ok.unwish {X:Cx} {E:Value→Shared→Prop} (ok:(X.wish E).Ok):X.Ok :=
 ⟨ok.mod,ok.kind,ok.glob,ok.blt,ok.above,ok.inj,ok.has,ok.cab,ok.hd,ok.frames,ok.stk,ok.exf,ok.bs,ok.bsz,ok.noex,ok.exfs,ok.funs,ok.frf⟩
section
variable {X:Cx} {pins:List (Addr×Obj)} {σ:St} {H:Hp} {s:Shared} {E:Value→Shared→Prop}
theorem Inv.wish (I:Inv X pins σ H s) (E:Value→Shared→Prop):Inv (X.wish E) pins σ H s:=⟨I.ok.wish E,I.os,I.bare,I.base,I.loc,I.cell,I.free,I.freeC,I.pin,I.hok,I.len⟩
theorem Inv.unwish (I:Inv (X.wish E) pins σ H s):Inv X pins σ H s:=⟨I.ok.unwish,I.os,I.bare,I.base,I.loc,I.cell,I.free,I.freeC,I.pin,I.hok,I.len⟩
theorem SP.unwish {D:Ends} {f:Flow} {s':Shared} (h:SP (X.wish E) pins D f s'):SP X pins D f s':=by
 cases f with
 | next=>obtain ⟨σ',H',I,q⟩:=h; exact ⟨σ',H',I.unwish,q⟩
 | brk=>obtain ⟨σ',H',I,q⟩:=h; exact ⟨σ',H',I.unwish,q⟩
 | cont=>obtain ⟨σ',H',I,q⟩:=h; exact ⟨σ',H',I.unwish,q⟩
 | ret u=>obtain ⟨v,σ',H',I,r,q⟩:=h; exact ⟨v,σ',H',I.unwish,r,q⟩
theorem PSs.nox {st:List Stmt} {t:TS} (h:PSs X.nox st t):PSs X st t:=fun pins s σ H D I hw =>
 wpAny_mono (h pins s σ H D (I.wish _) hw) (fun _ _ q=>q.unwish) fun _ _ z=>False.elim z
end
section
variable {X:Cx} {st:Stmt} {rest:List Stmt} {t u:TS} {e:Expr} {te:TE} {pos:Pos}
def tNext:TS:=fun D σ H=>D.nx σ H
def tSeq (t u:TS):TS:=fun D σ H=>t { D with nx:=u D } σ H
theorem pss_nil:PSs X [] tNext:=fun _ _ σ H _ I h=>wpAny_execs_nil ⟨σ,H,I,h⟩
theorem pss_cons (h1:PS X st t) (h2:PSs X rest u):PSs X (st :: rest) (tSeq t u):=by
 intro pins s σ H D I h
 refine wpAny_execs_cons (thn (h1 pins s σ H { D with nx:=u D } I h) fun f s1 q=>?_)
 cases f with
 | next =>
  obtain ⟨σ',H',I',q⟩:=q
  exact h2 pins s1 σ' H' D I' q
 | ret v=>exact q
 | brk=>exact q
 | cont=>exact q
theorem pss_one (h1:PS X st t):PSs X [st] t:=by
 intro pins s σ H D I h
 refine wpAny_execs_cons (thn (h1 pins s σ H D I h) fun f s1 q=>?_)
 cases f with
 | next=>exact wpAny_execs_nil q
 | ret v=>exact q
 | brk=>exact q
 | cont=>exact q
theorem Inv.quiet {pins:List (Addr×Obj)} {σ:St} {H:Hp} {s:Shared} (I:Inv X pins σ H s):interactive X.env = false:=by simp [interactive,I.ok.kind]
def tDrop (te:TE):TS:=fun D σ H=>te σ H fun _ H1=>D.nx σ H1
theorem ps_expr (he:PE X e te) (hs:swapsWith e none pos.line X.env = pure false:=by rfl):PS X (.Expr e pos) (tDrop te):=by
 intro pins s σ H D I h
 exact wpAny_Expr_any (thn (he pins s σ H _ I h) fun v s1 ⟨x,H1,I1,r1,q1⟩=>⟨σ,H1,I1,q1⟩) I.quiet hs
def tRet (te:TE):TS:=fun D σ H=>te σ H D.rt
theorem ps_ret (he:PE X e te):PS X (.Return (some e) pos) (tRet te):=by
 intro pins s σ H D I h
 exact wpAny_Return_some (thn (he pins s σ H _ I h) fun v s1 ⟨x,H1,I1,r1,q1⟩=>⟨x,σ,H1,I1,r1,q1⟩)
def tIfS (c:TT) (t u:TS):TS:=fun D σ H=>c σ H fun b H1=>if b = true then t D σ H1 else u D σ H1
theorem ps_if {c:Expr} {a b:List Stmt} {tc:TT} (hc:PT X c tc) (ha:PSs X a t) (hb:PSs X b u):PS X (.If c a b pos) (tIfS tc t u):=by
 intro pins s σ H D I h
 refine wpAny_If (thn (hc pins s σ H _ I h) fun d s1 ⟨H1,I1,q1⟩=>?_)
 cases d with
 | true=>exact ha pins s1 σ H1 D I1 q1
 | false=>exact hb pins s1 σ H1 D I1 q1
end
abbrev TG:=V→St→Hp→(St→Hp→Prop)→Prop
abbrev TGs:=List V→St→Hp→(St→Hp→Prop)→Prop
def PG (X:Cx) (target:Expr) (t:TG):Prop :=
 ∀ (pins:List (Addr×Obj)) (s:Shared) (σ:St) (H:Hp) (v:V) (u:Value) (Q:St→Hp→Prop),Inv X pins σ H s→RelV v u→t v σ H Q →
  wpAny (model X.prog X.w) X.A (assign target X.env u) (fun _ s'=>∃ σ' H',Inv X pins σ' H' s'∧Q σ' H') X.xe s
def PGs (X:Cx) (ts:List Expr) (t:TGs):Prop :=
 ∀ (pins:List (Addr×Obj)) (s:Shared) (σ:St) (H:Hp) (vs:List V) (us:List Value) (Q:St→Hp→Prop),Inv X pins σ H s→Vals vs us→t vs σ H Q →
  wpAny (model X.prog X.w) X.A (assignInOrder ((assignEach ts X.env).map (·.2)) us) (fun _ s'=>∃ σ' H',Inv X pins σ' H' s'∧Q σ' H') X.xe s
section
variable {X:Cx} {pos:Pos}
def gName (i:Nat):TG:=fun v σ H Q=>Q (σ.set i (some v)) H
theorem pg_name {i:Nat} {x:Str} (hN:X.N.Nodup) (hi:X.N[i]? = some x) (hx:Loc X.env.scope x) (hf:X.fn x = true∨X.env.scope.names.lookup x = some .local:=by first | exact .inl rfl | exact .inr rfl | assumption):PG X (.Name x pos) (gName i):=by
 intro pins s σ H v u Q I r h
 exact wpAny_assign_Name (store_ok I hN hi hx r (fun s' I'=>⟨_,H,I',h⟩) hf)
def gNil:TGs:=fun vs σ H Q=>vs = []∧Q σ H
def gCons (t:TG) (u:TGs):TGs:=fun vs σ H Q=>∃ v r,vs = v :: r∧t v σ H fun σ' H'=>u r σ' H' Q
theorem pgs_nil:PGs X [] gNil:=by
 intro pins s σ H vs us Q I r h
 obtain ⟨e,h⟩:=h
 subst e
 cases r
 exact assignInOrder_nil ⟨σ,H,I,h⟩
theorem pgs_cons {e:Expr} {es:List Expr} {t:TG} {u:TGs} (h1:PG X e t) (h2:PGs X es u)
  (hs:(assignEach (e :: es) X.env).map (·.2) = assign e X.env :: (assignEach es X.env).map (·.2):=by rfl):PGs X (e :: es) (gCons t u):=by
 intro pins s σ H vs us Q I r h
 obtain ⟨v,vr,e1,h⟩:=h
 subst e1
 cases r with
 | cons r rr =>
  rw [hs]
  refine assignInOrder_cons (thn (h1 pins s σ H _ _ _ I r h) fun _ s1 ⟨σ1,H1,I1,q1⟩=>?_)
  exact h2 pins s1 σ1 H1 _ _ Q I1 rr q1
def gTup (K:PySem.W.Frag) (n:Nat) (t:TGs):TG:=fun v σ H Q=>∃ a xs,v = .ref a∧SqT K H a xs∧xs.length = n∧t xs σ H Q
theorem pg_tup {es:List Expr} {k:Nat} {t:TGs} {n:Nat} (hc:X.calm = true) (h:PGs X es t)
  (hn:(assignEach es X.env).length = n:=by rfl) (hst:(assignEach es X.env).findIdx? (·.1) = none:=by rfl):PG X (.Tuple es k pos) (gTup X.K n t):=by
 intro pins s σ H v u Q I r hw
 obtain ⟨a,xs,e1,hq,hl,hw⟩:=hw
 subst e1
 cases r
 obtain ⟨its,rv,ht,hz⟩:=I.tuple hq
 refine assign_Tuple_tuple (I.ok.hd hc) ht (by simp [hn,← hl,rv.length]) hst fun h' hx=>?_
 have I1:Inv X pins σ H { s with heap:=h' }:=I.kept (t':=s.toks) fun b o e=>hx b o (Nat.ne_of_lt (Heap.lt_size e)) e
 exact h pins _ σ H xs _ Q I1 (by simpa using rv) hw
def tAsg (te:TE) (g:TG):TS:=fun D σ H=>te σ H fun x H1=>g x σ H1 D.nx
theorem ps_set {i:Nat} {x:Str} {e:Expr} {te:TE} {pos':Pos} (hN:X.N.Nodup) (hi:X.N[i]? = some x) (hx:Loc X.env.scope x) (he:PE X e te) (hs:swapsWith e (some (.Name x pos')) pos.line X.env = pure false:=by rfl) (hf:X.fn x = true∨X.env.scope.names.lookup x = some .local:=by first | exact .inl rfl | exact .inr rfl | assumption) :
  PS X (.Assign [.Name x pos'] e pos) (tAsg te (gName i)):=by
 intro pins s σ H D I h
 refine wpAny_Assign_Name (thn (he pins s σ H _ I h) fun v s1 ⟨y,H1,I1,r1,q1⟩=>?_) hs
 exact store_ok I1 hN hi hx r1 (fun s2 I2=>⟨_,H1,I2,q1⟩) hf
end
section
variable {X:Cx} {pos:Pos}
end
structure It where
 go:Nat→Hp→Prop
 yld:Nat→Hp→V→Hp→Prop
 stop:Nat→Hp→Prop
def FpOk (X:Cx) (pins:List (Addr×Obj)) (H:Hp) (b:Addr):Prop :=
 H b = none∧b≠X.env.locals∧b∉X.fs∧(b∈X.ex∨X.s₀.heap.objs.size≤b)∧(∀ x c,X.env.cells.lookup x = some c→c≠b)∧∀ p∈X.pn ++ pins,p.1≠b
theorem Inv.fpOk {X:Cx} {pins:List (Addr×Obj)} {σ:St} {H H':Hp} {s:Shared} {b:Addr} (I:Inv X pins σ H s) (hb:s.heap.objs.size≤b) (hn:H' b = none):FpOk X pins H' b:=by
 refine ⟨hn,Nat.ne_of_gt (Nat.lt_of_lt_of_le I.lt hb),I.nofs hb,.inr (Nat.le_trans I.sz hb),fun x c e z=>?_,fun p hp z=>?_⟩
 ·obtain ⟨v,q⟩:=I.cell x c e
  exact absurd (Nat.lt_of_lt_of_le q.lt (by rw [z]; exact hb)) (Nat.lt_irrefl _)
 ·exact absurd (Nat.lt_of_lt_of_le (Heap.lt_size (I.pin p hp).1) (by rw [z]; exact hb)) (Nat.lt_irrefl _)
structure Turn (P:Program) (w:World) (K:PySem.W.Frag) (tg:Expr) (J:It) (fp:List Addr) (it:Addr) (tn:Nat→Heap→Prop):Prop where
 mem:it∈fp
 obj:∀ i h,tn i h→∀ b∈fp,∃ o,h.get? b = some o∧∀ v,o.data≠.cell v
 keep:∀ i h h',tn i h→(∀ b∈fp,∀ o,h.get? b = some o→h'.get? b = some o)→tn i h'
 item:∀ (X:Cx),X.prog = P→X.w = w→X.K = K→X.calm = true→∀ (i:Nat) (pins:List (Addr×Obj)) (s:Shared) (σ:St) (H:Hp) (E:Value→Shared→Prop),Inv X pins σ H s→(∀ b∈fp,FpOk X pins H b)→tn i s.heap→J.go i H →
  wpAny (model P w) X.A (pyNext (.ref it)) (fun r s1=>∃ u,r = some u ∧
   wpAny (model P w) X.A (letOwnedTupleGo tg (.ref it) u) (fun _ s2=>∃ x H',Inv X pins σ H' s2∧RelV x u∧J.yld i H x H'∧tn (i + 1) s2.heap∧∀ b∈fp,H' b = none) E s1) E s
 done:∀ (X:Cx),X.prog = P→X.w = w→X.K = K→X.calm = true→∀ (i:Nat) (pins:List (Addr×Obj)) (s:Shared) (σ:St) (H:Hp) (E:Value→Shared→Prop),Inv X pins σ H s→(∀ b∈fp,FpOk X pins H b)→tn i s.heap→J.stop i H →
  wpAny (model P w) X.A (pyNext (.ref it)) (fun r s1=>r = none∧Inv X pins σ H s1) E s
 self:∀ (A:Around) (i:Nat) (s:Shared) (Q:Value→Shared→Prop) (E:Value→Shared→Prop),tn i s.heap→Q (.ref it) s→wpAny (model P w) A (pyIter (.ref it)) Q E s
abbrev TI:=St→Hp→(It→Hp→Prop)→Prop
def PIE (X:Cx) (pins:List (Addr×Obj)) (σ:St) (tg:Expr) (R:It→Hp→Prop) (itv:Value) (s2:Shared):Prop :=
 ∃ (it:Addr) (fp:List Addr) (tn:Nat→Heap→Prop) (J:It) (H':Hp),itv = .ref it∧Inv X pins σ H' s2∧Turn X.prog X.w X.K tg J fp it tn∧tn 0 s2.heap∧(∀ b∈fp,FpOk X pins H' b)∧R J H'
def PI (X:Cx) (tg iter:Expr) (wi:TI):Prop :=
 ∀ (pins:List (Addr×Obj)) (s:Shared) (σ:St) (H:Hp) (R:It→Hp→Prop),Inv X pins σ H s→wi σ H R →
  wpAny (model X.prog X.w) X.A (eval iter X.env) (fun v s1=>wpAny (model X.prog X.w) X.A (pyIter v) (PIE X pins σ tg R) X.xe s1) X.xe s
theorem go_of {M : Model} {A : Around} {E : Value → Shared → Prop} {s : Shared} {tg : Expr} {it : Addr} {u : Value} {o : Obj} {n : String} {vs : Array Value} {Q : Unit → Shared → Prop} (ho : s.heap.get? it = some o) (hc : o.cls = .type n) (hd : o.data = .fields vs)
    (hn : ["enumerate", "zip", "dict_itemiterator", "dict_reverseitemiterator", "odict_iterator", "itertools.zip_longest", "itertools.pairwise"].contains n = false) (hQ : Q () s) : wpAny M A (letOwnedTupleGo tg (.ref it) u) Q E s := by
  unfold letOwnedTupleGo
  cases tg <;> first
    | exact wpAny_pure hQ
    | (cases u <;> first
        | exact wpAny_pure hQ
        | (refine wpAny_bind (wpAny_load ho ?_)
           rw [hc, hd]
           show wpAny M A (if (["enumerate", "zip", "dict_itemiterator", "dict_reverseitemiterator", "odict_iterator", "itertools.zip_longest", "itertools.pairwise"].contains n && vs[0]? == some (rawInt _)) = true then _ else _) Q E s
           rw [if_neg (by intro h; rw [hn, Bool.false_and] at h; cases h)]
           exact wpAny_pure hQ))
def Itl (K:PySem.W.Frag) (a:Addr):It :=
 ⟨fun i H=>∃ xs x,SqL K H a xs∧xs[i]? = some x,fun i H x H'=>H' = H∧∀ xs,SqL K H a xs→xs[i]? = some x,fun i H=>∃ xs,SqL K H a xs∧xs.length≤i⟩
def Itt (K:PySem.W.Frag) (a:Addr):It :=
 ⟨fun i H=>∃ xs x,SqT K H a xs∧xs[i]? = some x,fun i H x H'=>H' = H∧∀ xs,SqT K H a xs→xs[i]? = some x,fun i H=>∃ xs,SqT K H a xs∧xs.length≤i⟩
def Itr (lo:Int) (n:Nat):It:=⟨fun i _=>i < n,fun i H x H'=>H' = H∧x = .int (lo + i),fun i _=>n≤i⟩
theorem turn_list {P:Program} {w:World} {K:PySem.W.Frag} {tg:Expr} (a it:Addr):Turn P w K tg (Itl K a) [it] it (fun i h=>h.IsListIter it a i) where
 mem:=by simp
 obj:=fun i h st b hb=>by
  have e:b = it:=by simpa using hb
  subst e
  obtain ⟨o,e,c,d⟩:=st
  exact ⟨o,e,fun v z=>by rw [d] at z; cases z⟩
 keep:=fun i h h' st k=>st.at fun o e=>k it (by simp) o e
 item:=by
  intro X hP hw hK hc i pins s σ H E I hf st hg
  subst hP hw hK
  obtain ⟨xs,x,hq,hx⟩:=hg
  obtain ⟨its,rv,p,hz⟩:=I.list hq
  obtain ⟨u,hu,ru⟩:=rv.get hx
  obtain ⟨f0,f1,f2,f3,f4,f5⟩:=hf it (by simp)
  refine wpAny_pyNext_list_item st p.isList (x:=u) (by simpa using hu) fun h' st' sb=>?_
  have I1:Inv X pins σ H { s with heap:=h' }:=I.turned (t':=s.toks) (fun b o hb e=>(sb.2 b hb).trans e) f0 f1 f3 f4 f5
  obtain ⟨o,e,c,d⟩:=id st'
  exact ⟨u,rfl,go_of (s:={ s with heap:=h' }) e c d (by decide) ⟨x,H,I1,ru,⟨rfl,fun ys hy=>by rw [I.list_inj hy hq]; exact hx⟩,st',fun b hb=>(hf b hb).1⟩⟩
 done:=by
  intro X hP hw hK hc i pins s σ H E I hf st hg
  subst hP hw hK
  obtain ⟨xs,hq,hx⟩:=hg
  obtain ⟨its,rv,p,hz⟩:=I.list hq
  obtain ⟨f0,f1,f2,f3,f4,f5⟩:=hf it (by simp)
  have hl:=rv.length
  exact wpAny_pyNext_list_end (I.ok.hd hc) st p.isList (by simp; omega) fun h' eb=>⟨rfl,I.turned (t':=s.toks) (fun b o hb e=>eb b o hb e) f0 f1 f3 f4 f5⟩
 self:=fun _ _ _ _ _ st h=>wpAny_pyIter_listiter st h
theorem turn_tuple {P:Program} {w:World} {K:PySem.W.Frag} {tg:Expr} (a it:Addr):Turn P w K tg (Itt K a) [it] it (fun i h=>h.IsTupleIter it a i) where
 mem:=by simp
 obj:=fun i h st b hb=>by
  have e:b = it:=by simpa using hb
  subst e
  obtain ⟨o,e,c,d⟩:=st
  exact ⟨o,e,fun v z=>by rw [d] at z; cases z⟩
 keep:=fun i h h' st k=>st.at fun o e=>k it (by simp) o e
 item:=by
  intro X hP hw hK hc i pins s σ H E I hf st hg
  subst hP hw hK
  obtain ⟨xs,x,hq,hx⟩:=hg
  obtain ⟨its,rv,p,hz⟩:=I.tuple hq
  obtain ⟨u,hu,ru⟩:=rv.get hx
  obtain ⟨f0,f1,f2,f3,f4,f5⟩:=hf it (by simp)
  refine wpAny_pyNext_tuple_item st (show s.heap.IsTuple a its.toArray from p) (x:=u) (by simpa using hu) fun h' st' sb=>?_
  have I1:Inv X pins σ H { s with heap:=h' }:=I.turned (t':=s.toks) (fun b o hb e=>(sb.2 b hb).trans e) f0 f1 f3 f4 f5
  obtain ⟨o,e,c,d⟩:=id st'
  exact ⟨u,rfl,go_of (s:={ s with heap:=h' }) e c d (by decide) ⟨x,H,I1,ru,⟨rfl,fun ys hy=>by rw [I.tuple_inj hy hq]; exact hx⟩,st',fun b hb=>(hf b hb).1⟩⟩
 done:=by
  intro X hP hw hK hc i pins s σ H E I hf st hg
  subst hP hw hK
  obtain ⟨xs,hq,hx⟩:=hg
  obtain ⟨its,rv,p,hz⟩:=I.tuple hq
  obtain ⟨f0,f1,f2,f3,f4,f5⟩:=hf it (by simp)
  have hl:=rv.length
  exact wpAny_pyNext_tuple_end (I.ok.hd hc) st (show s.heap.IsTuple a its.toArray from p) (by simp; omega) fun h' eb=>⟨rfl,I.turned (t':=s.toks) (fun b o hb e=>eb b o hb e) f0 f1 f3 f4 f5⟩
 self:=fun _ _ _ _ _ st h=>wpAny_pyIter_tupleiter st h
theorem turn_range {P:Program} {w:World} {K:PySem.W.Frag} {tg:Expr} (it:Addr) (lo:Int) (n:Nat):Turn P w K tg (Itr lo n) [it] it (fun i h=>IsRangeIter h it (lo + (i:Nat) * 1) ((n:Int) - (i:Nat)) 1) where
 mem:=by simp
 obj:=fun i h st b hb=>by
  have e:b = it:=by simpa using hb
  subst e
  exact ⟨_,st,fun v z=>by
   have z':Data.fields _ = Data.cell v:=z
   cases z'⟩
 keep:=fun i h h' st k=>k it (by simp) _ st
 item:=by
  intro X hP hw hK hc i pins s σ H E I hf st hg
  subst hP hw hK
  obtain ⟨f0,f1,f2,f3,f4,f5⟩:=hf it (by simp)
  have W:=Walks.range (prog:=X.prog) (w:=X.w) (I.ok.hd hc) it lo 1 n
  refine W.item i s _ _ hg st fun v h' tk hv st' kk=>?_
  obtain ⟨t,rfl⟩:=hv
  have I1:Inv X pins σ H { s with heap:=h',toks:=tk }:=I.turned (fun b o hb e=>kk b o (by simpa using hb) e) f0 f1 f3 f4 f5
  refine ⟨_,rfl,go_of (s:={ s with heap:=h',toks:=tk }) (n:="range_iterator") st' rfl rfl (by decide) ⟨.int (lo + i),H,I1,⟨t,?_⟩,⟨rfl,rfl⟩,st',fun b hb=>(hf b hb).1⟩⟩
  rw [Int.mul_one]
 done:=by
  intro X hP hw hK hc i pins s σ H E I hf st hg
  subst hP hw hK
  obtain ⟨f0,f1,f2,f3,f4,f5⟩:=hf it (by simp)
  exact wpAny_pyNext_range_end (I.ok.hd hc) st (by have:n≤i:=hg; omega) fun h' eb=>⟨rfl,I.turned (t':=s.toks) (fun b o hb e=>eb b o hb e) f0 f1 f3 f4 f5⟩
 self:=fun _ _ _ _ _ st h=>wpAny_pyIter_rangeiter st h
end L2
namespace L2
open PySem PySem.Spec PyProof.Rows
section
variable {X:Cx} {tg:Expr}
def iList (K:PySem.W.Frag) (tl:TE):TI:=fun σ H R=>tl σ H fun x H1=>∃ a,x = .ref a∧(∃ xs,SqL K H1 a xs)∧R (Itl K a) H1
def iTup (K:PySem.W.Frag) (tl:TE):TI:=fun σ H R=>tl σ H fun x H1=>∃ a,x = .ref a∧(∃ xs,SqT K H1 a xs)∧R (Itt K a) H1
theorem pi_list {l:Expr} {tl:TE} (hl:PE X l tl):PI X tg l (iList X.K tl):=by
 intro pins s σ H R I h
 refine thn (hl pins s σ H _ I h) fun v s1 ⟨x,H1,I1,r1,q1⟩=>?_
 obtain ⟨a,e,⟨xs,hq⟩,q⟩:=q1
 subst e
 cases r1
 obtain ⟨its,rv,p,hz⟩:=I1.list hq
 refine wpAny_pyIter_list p.isList ?_
 refine ⟨s1.heap.objs.size,[s1.heap.objs.size],_,_,H1,rfl,I1.kept (t':=s1.toks) fun b o e=>Heap.get?_push_of_some _ e,turn_list a _,⟨_,Heap.get?_push_size _ rfl,rfl,rfl⟩,fun b hb=>?_,q⟩
 have e:b = s1.heap.objs.size:=by simpa using hb
 subst e
 exact I1.fpOk (Nat.le_refl _) (I1.hok.fresh (Nat.le_refl _))
theorem pi_tup {l:Expr} {tl:TE} (hl:PE X l tl):PI X tg l (iTup X.K tl):=by
 intro pins s σ H R I h
 refine thn (hl pins s σ H _ I h) fun v s1 ⟨x,H1,I1,r1,q1⟩=>?_
 obtain ⟨a,e,⟨xs,hq⟩,q⟩:=q1
 subst e
 cases r1
 obtain ⟨its,rv,p,hz⟩:=I1.tuple hq
 refine wpAny_pyIter_tuple (show s1.heap.IsTuple a its.toArray from p) ?_
 refine ⟨s1.heap.objs.size,[s1.heap.objs.size],_,_,H1,rfl,I1.kept (t':=s1.toks) fun b o e=>Heap.get?_push_of_some _ e,turn_tuple a _,⟨_,Heap.get?_push_size _ rfl,rfl,rfl⟩,fun b hb=>?_,q⟩
 have e:b = s1.heap.objs.size:=by simpa using hb
 subst e
 exact I1.fpOk (Nat.le_refl _) (I1.hok.fresh (Nat.le_refl _))
theorem range_it {pins:List (Addr×Obj)} {σ:St} {H:Hp} {s:Shared} {R:It→Hp→Prop} {E:Value→Shared→Prop} {lo hi:Int} {t u v:Tok} {tk:Nat} (I:Inv X pins σ H s) (h1:-(2 ^ 62)≤lo) (h2:lo < 2 ^ 62) (h3:-(2 ^ 62)≤hi) (h4:hi < 2 ^ 62)
  (q:R (Itr lo (hi - lo).toNat) H):wpAny (model X.prog X.w) X.A (pyIter (.ref s.heap.objs.size)) (PIE X pins σ tg R) E { s with heap:=s.heap.push { cls:=.type "range",data:=.fields #[.int lo t,.int hi u,.int 1 v] },toks:=tk }:=by
 refine wpAny_pyIter_range (IsRange.new ..) (small_one h1 h2 h3 h4) ?_
 have I1:Inv X pins σ H { s with heap:=s.heap.push { cls:=.type "range",data:=.fields #[.int lo t,.int hi u,.int 1 v] },toks:=tk }:=I.kept fun b o e=>Heap.get?_push_of_some _ e
 refine ⟨(s.heap.push { cls:=.type "range",data:=.fields #[.int lo t,.int hi u,.int 1 v] }).objs.size,[(s.heap.push { cls:=.type "range",data:=.fields #[.int lo t,.int hi u,.int 1 v] }).objs.size],_,_,H,rfl,
  I1.kept (t':=tk) fun b o e=>Heap.get?_push_of_some _ e,turn_range _ lo (hi - lo).toNat,?_,fun b hb=>?_,q⟩
 ·have e1:lo + ((0:Nat):Int) * 1 = lo:=by simp
  have e2:(((hi - lo).toNat:Nat):Int) - ((0:Nat):Int) = Builtin.Range.rangeSize lo hi 1:=by rw [rangeSize_one]; split <;> omega
  show IsRangeIter _ _ (lo + ((0:Nat):Int) * 1) ((((hi - lo).toNat:Nat):Int) - ((0:Nat):Int)) 1
  rw [e1,e2]
  exact Heap.get?_push_size _ rfl
 ·have e:b = (s.heap.push { cls:=.type "range",data:=.fields #[.int lo t,.int hi u,.int 1 v] }).objs.size:=by simpa using hb
  subst e
  exact I1.fpOk (Nat.le_refl _) (I1.hok.fresh (Nat.le_refl _))
def iRng1 (ta:TA):TI:=fun σ H R=>ta σ H fun vs H1=>∃ j:Int,vs = [.int j]∧-(2 ^ 62)≤j∧j < 2 ^ 62∧R (Itr 0 j.toNat) H1
theorem pi_range1 {a:Expr} {ta:TA} {p pos:Pos} (hg:Gl X "range") (hm:X.mg "range" = none) (ha:PA X [a] ta) (hs:starEach [a] X.env = [(false,eval a X.env)]:=by rfl):PI X tg (.Call (.Name "range" p) [a] [] pos) (iRng1 ta):=by
 intro pins s σ H R I h
 refine Call_ (ld_blt I hg hm boot_range (PyProof.Rows.callWith_type1 (thn (ha pos pins s σ H _ I h) fun us s1 ⟨vs,H1,I1,r1,q1⟩=>?_) hs rfl))
 obtain ⟨j,e,q1,q2,q⟩:=q1
 subst e
 cases r1 with
 | cons r rr =>
  cases rr
  obtain ⟨t,rfl⟩:=r
  exact call_range_1 (range_it I1 (by omega) (by omega) q1 q2 (by simpa using q))
def tFor (wi:TI) (g:TG) (tb:TS):TS:=fun D σ H=>wi σ H fun J H1=>∃ W:Nat→Nat→St→Hp→Prop,(∃ m,W 0 m σ H1)∧∀ i m σ H,W i m σ H →
 (J.stop i H∧D.nx σ H)∨(J.go i H∧∃ N:St→Hp→Prop,(∀ σ' H',N σ' H'→∃ m',m' < m∧W (i + 1) m' σ' H')∧∀ x H',J.yld i H x H'→g x σ H' fun σ2 H2=>tb { D with nx:=N,ct:=N,bk:=D.nx } σ2 H2)
def pinsAt (fp:List Addr) (h:Heap):List (Addr×Obj):=fp.filterMap fun b=>(h.get? b).map fun o=>(b,o)
theorem mem_pinsAt {fp:List Addr} {h:Heap} {b:Addr} {o:Obj} (hb:b∈fp) (e:h.get? b = some o):(b,o)∈pinsAt fp h:=List.mem_filterMap.mpr ⟨b,hb,by rw [e]; rfl⟩
theorem of_pinsAt {fp:List Addr} {h:Heap} {p:Addr×Obj} (hp:p∈pinsAt fp h):p.1∈fp∧h.get? p.1 = some p.2:=by
 obtain ⟨b,hb,e⟩:=List.mem_filterMap.mp hp
 cases q:h.get? b with
 | none=>rw [q] at e; cases e
 | some o =>
  rw [q] at e
  have e':(b,o) = p:=Option.some.inj e
  subst e'
  exact ⟨hb,q⟩
theorem Inv.pinned {pins:List (Addr×Obj)} {σ:St} {H:Hp} {s:Shared} {fp:List Addr} (I:Inv X pins σ H s) (hf:∀ b∈fp,FpOk X pins H b) (ho:∀ b∈fp,∃ o,s.heap.get? b = some o∧∀ v,o.data≠.cell v):Inv X (pins ++ pinsAt fp s.heap) σ H s :=
 I.pins_of fun p hp=>(List.mem_append.mp hp).elim (fun z=>I.pin p (List.mem_append_right _ z)) fun z=>by
  obtain ⟨hb,e⟩:=of_pinsAt z
  obtain ⟨f0,f1,f2,_⟩:=hf p.1 hb
  obtain ⟨o,e',d⟩:=ho p.1 hb
  rw [e] at e'; cases e'
  exact ⟨e,f0,f1,f2,d⟩
theorem Inv.unpinned {pins pl:List (Addr×Obj)} {σ:St} {H:Hp} {s:Shared} (I:Inv X (pins ++ pl) σ H s):Inv X pins σ H s:=I.pins_of fun p hp=>I.pin p (List.mem_append_right _ (List.mem_append_left _ hp))
theorem ps_for {iter:Expr} {body:List Stmt} {wi:TI} {g:TG} {tb:TS} {pos:Pos} (hp:PassesOwn (model X.prog X.w) X.A X.env X.xe) (hc:X.calm = true) (hi:PI X tg iter wi) (hg:PG X tg g) (hb:PSs X body tb)
  (hs:∀ x,foldedSetIterable iter X.env x = pure x:=by intro _; rfl):PS X (.For tg iter body [] pos) (tFor wi g tb):=by
 intro pins s σ H D I h
 refine wpAny_For (thn (hi pins s σ H _ I h) fun v s1 h1=>thn h1 fun itv s2 h2=>?_) hs
 obtain ⟨it,fp,tn,J,H2,e,I2,T,st2,f2,W,⟨m0,w0⟩,turn⟩:=h2
 subst e
 have stat:∀ {H':Hp},(∀ b∈fp,H' b = none)→∀ b∈fp,FpOk X pins H' b:=fun hn b hb=>⟨hn b hb,(f2 b hb).2⟩
 refine codeAny_forLoop_any (fun n s'=>∃ i σ' H',Inv X pins σ' H' s'∧tn i s'.heap∧(∀ b∈fp,H' b = none)∧W i n σ' H') ?_ m0 ⟨0,σ,H2,I2,st2,fun b hb=>(f2 b hb).1,w0⟩
 rintro n s3 ⟨i,σ3,H3,I3,st3,fr3,w3⟩
 rcases turn i n σ3 H3 w3 with ⟨stop,qn⟩ | ⟨go,N,hN,step⟩
 ·refine wpAny_passesOwn hp (thn (T.done X rfl rfl rfl hc i pins s3 σ3 H3 X.xe I3 (stat fr3) st3 stop) fun r s4 ⟨hr,I4⟩=>?_)
  subst hr
  exact wpAny_execs_nil ⟨σ3,H3,I4,qn⟩
 ·refine wpAny_passesOwn hp (thn (T.item X rfl rfl rfl hc i pins s3 σ3 H3 X.xe I3 (stat fr3) st3 go) fun r s4 ⟨u,hr,h4⟩=>?_)
  subst hr
  refine wpAny_passesOwn hp (thn h4 fun _ s5 ⟨x,H5,I5,r5,y5,st5,fr5⟩=>?_)
  have I5':=I5.pinned (stat fr5) (T.obj _ _ st5)
  refine wpAny_passesOwn hp (thn (hg _ s5 σ3 H5 x u _ I5' r5 (step x H5 y5)) fun _ s6 ⟨σ6,H6,I6,q6⟩=>?_)
  refine wpAny_passesOwn hp (thn (hb _ s6 σ6 H6 _ I6 q6) fun f s7 q7=>?_)
  have again:∀ {σ7:St} {H7:Hp},Inv X (pins ++ pinsAt fp s5.heap) σ7 H7 s7→N σ7 H7→∃ m,m < n∧∃ i σ' H',Inv X pins σ' H' s7∧tn i s7.heap∧(∀ b∈fp,H' b = none)∧W i m σ' H':=fun {σ7 H7} I7 n7=>by
   obtain ⟨m',hm,w7⟩:=hN σ7 H7 n7
   refine ⟨m',hm,i + 1,σ7,H7,I7.unpinned,T.keep _ _ _ st5 fun b hb o e=>(I7.pin (b,o) (List.mem_append_right _ (List.mem_append_right _ (mem_pinsAt hb e)))).1,fun b hb=>?_,w7⟩
   obtain ⟨o,e,d⟩:=T.obj _ _ st5 b hb
   exact (I7.pin (b,o) (List.mem_append_right _ (List.mem_append_right _ (mem_pinsAt hb e)))).2.1
  cases f with
  | next=>obtain ⟨σ7,H7,I7,n7⟩:=q7; exact again I7 n7
  | cont=>obtain ⟨σ7,H7,I7,n7⟩:=q7; exact again I7 n7
  | brk=>obtain ⟨σ7,H7,I7,q7⟩:=q7; exact ⟨σ7,H7,I7.unpinned,q7⟩
  | ret v=>obtain ⟨x7,σ7,H7,I7,r7,q7⟩:=q7; exact ⟨x7,σ7,H7,I7.unpinned,r7,q7⟩
end
theorem for_list {K:PySem.W.Frag} {a:Addr} {xs:List V} {g:TG} {tb:TS} {D:Ends} {σ:St} {H:Hp} (Pv:Nat→St→Hp→Prop) (h0:Pv 0 σ H) (hl:∀ i σ H,i≤xs.length→Pv i σ H→SqL K H a xs)
  (hs:∀ i x σ H,xs[i]? = some x→Pv i σ H→g x σ H fun σ2 H2=>tb { D with nx:=Pv (i + 1),ct:=Pv (i + 1),bk:=D.nx } σ2 H2) (hd:∀ σ H,Pv xs.length σ H→D.nx σ H) :
  ∃ W:Nat→Nat→St→Hp→Prop,(∃ m,W 0 m σ H)∧∀ i m σ H,W i m σ H →
   ((Itl K a).stop i H∧D.nx σ H)∨((Itl K a).go i H∧∃ N:St→Hp→Prop,(∀ σ' H',N σ' H'→∃ m',m' < m∧W (i + 1) m' σ' H')∧∀ x H',(Itl K a).yld i H x H'→g x σ H' fun σ2 H2=>tb { D with nx:=N,ct:=N,bk:=D.nx } σ2 H2):=by
 refine ⟨fun i m σ H=>m = xs.length - i∧i≤xs.length∧Pv i σ H,⟨xs.length,by simp,Nat.zero_le _,h0⟩,?_⟩
 rintro i m σ H ⟨rfl,hi,p⟩
 have q:=hl i σ H hi p
 by_cases hlt:i < xs.length
 ·refine .inr ⟨⟨xs,xs[i],q,by simp [hlt]⟩,Pv (i + 1),fun σ' H' p'=>⟨xs.length - (i + 1),by omega,rfl,hlt,p'⟩,fun x H' y=>?_⟩
  obtain ⟨e,y⟩:=y
  subst e
  exact hs i x σ _ (y xs q) p
 ·have e:i = xs.length:=by omega
  subst e
  exact .inl ⟨⟨xs,q,Nat.le_refl _⟩,hd σ H p⟩
theorem for_tup {K:PySem.W.Frag} {a:Addr} {xs:List V} {g:TG} {tb:TS} {D:Ends} {σ:St} {H:Hp} (Pv:Nat→St→Hp→Prop) (h0:Pv 0 σ H) (hl:∀ i σ H,i≤xs.length→Pv i σ H→SqT K H a xs)
  (hs:∀ i x σ H,xs[i]? = some x→Pv i σ H→g x σ H fun σ2 H2=>tb { D with nx:=Pv (i + 1),ct:=Pv (i + 1),bk:=D.nx } σ2 H2) (hd:∀ σ H,Pv xs.length σ H→D.nx σ H) :
  ∃ W:Nat→Nat→St→Hp→Prop,(∃ m,W 0 m σ H)∧∀ i m σ H,W i m σ H →
   ((Itt K a).stop i H∧D.nx σ H)∨((Itt K a).go i H∧∃ N:St→Hp→Prop,(∀ σ' H',N σ' H'→∃ m',m' < m∧W (i + 1) m' σ' H')∧∀ x H',(Itt K a).yld i H x H'→g x σ H' fun σ2 H2=>tb { D with nx:=N,ct:=N,bk:=D.nx } σ2 H2):=by
 refine ⟨fun i m σ H=>m = xs.length - i∧i≤xs.length∧Pv i σ H,⟨xs.length,by simp,Nat.zero_le _,h0⟩,?_⟩
 rintro i m σ H ⟨rfl,hi,p⟩
 have q:=hl i σ H hi p
 by_cases hlt:i < xs.length
 ·refine .inr ⟨⟨xs,xs[i],q,by simp [hlt]⟩,Pv (i + 1),fun σ' H' p'=>⟨xs.length - (i + 1),by omega,rfl,hlt,p'⟩,fun x H' y=>?_⟩
  obtain ⟨e,y⟩:=y
  subst e
  exact hs i x σ _ (y xs q) p
 ·have e:i = xs.length:=by omega
  subst e
  exact .inl ⟨⟨xs,q,Nat.le_refl _⟩,hd σ H p⟩
theorem for_range {lo:Int} {n:Nat} {g:TG} {tb:TS} {D:Ends} {σ:St} {H:Hp} (Pv:Nat→St→Hp→Prop) (h0:Pv 0 σ H)
  (hs:∀ i σ H,i < n→Pv i σ H→g (.int (lo + i)) σ H fun σ2 H2=>tb { D with nx:=Pv (i + 1),ct:=Pv (i + 1),bk:=D.nx } σ2 H2) (hd:∀ σ H,Pv n σ H→D.nx σ H) :
  ∃ W:Nat→Nat→St→Hp→Prop,(∃ m,W 0 m σ H)∧∀ i m σ H,W i m σ H →
   ((Itr lo n).stop i H∧D.nx σ H)∨((Itr lo n).go i H∧∃ N:St→Hp→Prop,(∀ σ' H',N σ' H'→∃ m',m' < m∧W (i + 1) m' σ' H')∧∀ x H',(Itr lo n).yld i H x H'→g x σ H' fun σ2 H2=>tb { D with nx:=N,ct:=N,bk:=D.nx } σ2 H2):=by
 refine ⟨fun i m σ H=>m = n - i∧i≤n∧Pv i σ H,⟨n,by simp,Nat.zero_le _,h0⟩,?_⟩
 rintro i m σ H ⟨rfl,hi,p⟩
 by_cases hlt:i < n
 ·refine .inr ⟨hlt,Pv (i + 1),fun σ' H' p'=>⟨n - (i + 1),by omega,rfl,hlt,p'⟩,fun x H' y=>?_⟩
  obtain ⟨e,y⟩:=y
  subst e y
  exact hs i σ _ hlt p
 ·have e:i = n:=by omega
  subst e
  exact .inl ⟨Nat.le_refl _,hd σ H p⟩
end L2
namespace L2
open PySem PySem.Spec PyProof.Rows
abbrev R2:=V→V→Hp→VK→Prop
def OpR (X:Cx) (f:Value→Value→Sem Value) (r:R2):Prop :=
 ∀ (pins:List (Addr×Obj)) (s:Shared) (σ:St) (H:Hp) (x y:V) (v u:Value) (Q:VK),Inv X pins σ H s→RelV x v→RelV y u→r x y H Q →
  wpAny (model X.prog X.w) X.A (f v u) (EP X pins σ Q) X.xe s
def UnR (X:Cx) (f:Value→Sem Value) (r:V→Hp→VK→Prop):Prop :=
 ∀ (pins:List (Addr×Obj)) (s:Shared) (σ:St) (H:Hp) (x:V) (v:Value) (Q:VK),Inv X pins σ H s→RelV x v→r x H Q →
  wpAny (model X.prog X.w) X.A (f v) (EP X pins σ Q) X.xe s
def CallR (X:Cx) (f:Value) (r:List V→Hp→VK→Prop):Prop :=
 ∀ (pins:List (Addr×Obj)) (s:Shared) (σ:St) (H:Hp) (xs:List V) (us:List Value) (Q:VK),Inv X pins σ H s→Vals xs us→r xs H Q →
  wpAny (model X.prog X.w) X.A (call f us) (EP X pins σ Q) X.xe s
def tOp (r:R2) (ta tb:TE):TE:=fun σ H Q=>ta σ H fun x H1=>tb σ H1 fun y H2=>r x y H2 Q
def tUn (r:V→Hp→VK→Prop) (ta:TE):TE:=fun σ H Q=>ta σ H fun x H1=>r x H1 Q
def rI (C:Int→Int→Prop) (g:Int→Int→V):R2:=fun x y H Q=>∃ i j,x = .int i∧y = .int j∧C i j∧Q (g i j) H
def rI0 (g:Int→Int→V):R2:=fun x y H Q=>∃ i j,x = .int i∧y = .int j∧Q (g i j) H
def rU (g:Int→V):V→Hp→VK→Prop:=fun x H Q=>∃ i,x = .int i∧Q (g i) H
section
variable {X:Cx} {a b c:Expr} {ta tb tc:TE} {pos:Pos}
theorem binT (ha:PE X a ta) (hb:PE X b tb) {pins:List (Addr×Obj)} {s:Shared} {σ:St} {H:Hp} {R:V→V→Hp→Prop} (I:Inv X pins σ H s)
  (h:ta σ H fun x H1=>tb σ H1 fun y H2=>R x y H2) {Q:Value→Shared→Prop} {f:Value→Value→Sem Value}
  (hf:∀ v u s2 x y H2,Inv X pins σ H2 s2→RelV x v→RelV y u→R x y H2→wpAny (model X.prog X.w) X.A (f v u) Q X.xe s2) :
  wpAny (model X.prog X.w) X.A (eval a X.env) (fun v s₁=>wpAny (model X.prog X.w) X.A (eval b X.env) (fun u s₂=>wpAny (model X.prog X.w) X.A (f v u) Q X.xe s₂) X.xe s₁) X.xe s:=by
 refine thn (ha pins s σ H _ I h) fun v s1 ⟨x,H1,I1,r1,q1⟩=>?_
 refine thn (hb pins s1 σ H1 _ I1 q1) fun u s2 ⟨y,H2,I2,r2,q2⟩=>?_
 exact hf v u s2 x y H2 I2 r1 r2 q2
theorem pe_op {op:Operator} {r:R2} (ho:OpR X (binaryOp op) r) (ha:PE X a ta) (hb:PE X b tb):PE X (.BinOp a op b pos) (tOp r ta tb):=by
 intro pins s σ H Q I h
 exact wpAny_BinOp (binT ha hb I h fun v u s2 x y H2 I2 rx ry q=>ho pins s2 σ H2 x y v u Q I2 rx ry q)
theorem pe_un {op:UnaryOp} {r:V→Hp→VK→Prop} (ho:UnR X (unaryOp op) r) (ha:PE X a ta):PE X (.UnaryOp op a pos) (tUn r ta):=by
 intro pins s σ H Q I h
 exact UnaryOp_ (thn (ha pins s σ H _ I h) fun v s1 ⟨x,H1,I1,r1,q1⟩=>ho pins s1 σ H1 x v Q I1 r1 q1)
theorem opI {f:Value→Value→Sem Value} {C:Int→Int→Prop} {g:Int→Int→Int}
  (rule:∀ (i j:Int) (t u:Tok) (s:Shared) (Q:Value→Shared→Prop) (E:Value→Shared→Prop),C i j→Q (.int (g i j) s.toks) { s with toks:=s.toks + 1 }→wpAny (model X.prog X.w) X.A (f (.int i t) (.int j u)) Q E s) :
  OpR X f (rI C fun i j=>.int (g i j)):=by
 intro pins s σ H x y v u Q I rx ry h
 obtain ⟨i,j,rfl,rfl,hc,q⟩:=h
 obtain ⟨t,rfl⟩:=rx
 obtain ⟨t',rfl⟩:=ry
 exact rule i j t t' s _ _ hc ⟨.int (g i j),H,I.tok _,⟨_,rfl⟩,q⟩
theorem opI0 {f:Value→Value→Sem Value} {g:Int→Int→Int}
  (rule:∀ (i j:Int) (t u:Tok) (s:Shared) (Q:Value→Shared→Prop) (E:Value→Shared→Prop),Q (.int (g i j) s.toks) { s with toks:=s.toks + 1 }→wpAny (model X.prog X.w) X.A (f (.int i t) (.int j u)) Q E s) :
  OpR X f (rI0 fun i j=>.int (g i j)):=by
 intro pins s σ H x y v u Q I rx ry h
 obtain ⟨i,j,rfl,rfl,q⟩:=h
 obtain ⟨t,rfl⟩:=rx
 obtain ⟨t',rfl⟩:=ry
 exact rule i j t t' s _ _ ⟨.int (g i j),H,I.tok _,⟨_,rfl⟩,q⟩
theorem opB0 {f:Value→Value→Sem Value} {g:Int→Int→Bool}
  (rule:∀ (i j:Int) (t u:Tok) (s:Shared) (Q:Value→Shared→Prop) (E:Value→Shared→Prop),Q (.bool (g i j)) s→wpAny (model X.prog X.w) X.A (f (.int i t) (.int j u)) Q E s) :
  OpR X f (rI0 fun i j=>.bl (g i j)):=by
 intro pins s σ H x y v u Q I rx ry h
 obtain ⟨i,j,rfl,rfl,q⟩:=h
 obtain ⟨t,rfl⟩:=rx
 obtain ⟨t',rfl⟩:=ry
 exact rule i j t t' s _ _ ⟨.bl (g i j),H,I,rfl,q⟩
def CMul (i j:Int):Prop:=(-(2 ^ 64) < i∧i < 2 ^ 64)∨(-(2 ^ 64) < j∧j < 2 ^ 64)
theorem CMul.ok {i j:Int} (h:CMul i j):IntMulOk i j:=by
 rcases h with ⟨h1,h2⟩ | ⟨h1,h2⟩
 ·exact .of_left (intBits_le_64 h1 h2)
 ·exact .of_right (intBits_le_64 h1 h2)
theorem op_add:OpR X (binaryOp .Add) (rI0 fun i j=>.int (i + j)):=opI0 fun _ _ _ _ _ _ _ q=>add_int q
theorem op_sub:OpR X (binaryOp .Sub) (rI0 fun i j=>.int (i - j)):=opI0 fun _ _ _ _ _ _ _ q=>sub_int q
theorem op_mul:OpR X (binaryOp .Mult) (rI CMul fun i j=>.int (i * j)):=opI fun _ _ _ _ _ _ _ hc q=>mul_int q hc.ok
theorem op_mod:OpR X (binaryOp .Mod) (rI (fun _ j=>0 < j) fun i j=>.int (i % j)):=opI fun i j _ _ _ _ _ hc q=>by
 have h1:(0:Int) < j:=hc
 exact mod_int' (by omega) (by rw [Int.fmod_eq_emod_of_nonneg i (by omega)]; exact q)
theorem unI {f:Value→Sem Value} {g:Int→Int}
  (rule:∀ (i:Int) (t:Tok) (s:Shared) (Q:Value→Shared→Prop) (E:Value→Shared→Prop),Q (.int (g i) s.toks) { s with toks:=s.toks + 1 }→wpAny (model X.prog X.w) X.A (f (.int i t)) Q E s) :
  UnR X f (rU fun i=>.int (g i)):=by
 intro pins s σ H x v Q I rx h
 obtain ⟨i,rfl,q⟩:=h
 obtain ⟨t,rfl⟩:=rx
 exact rule i t s _ _ ⟨.int (g i),H,I.tok _,⟨_,rfl⟩,q⟩
theorem un_neg:UnR X (unaryOp .USub) (rU fun i=>.int (-i)):=unI fun _ _ _ _ _ q=>neg_int q
end
def scal:V→V→Bool
 | .non,.non=>true | .non,.int _=>true | .int _,.non=>true | .non,.bl _=>true | .bl _,.non=>true | .non,.str _=>true | .str _,.non=>true
 | .int _,.int _=>true | .bl _,.bl _=>true | .str _,.str _=>true | .byt _,.byt _=>true
 | .int _,.str _=>true | .str _,.int _=>true | .bl _,.str _=>true | .str _,.bl _=>true
 | _,_=>false
def rEq:R2:=fun x y H Q=>scal x y = true∧Q (.bl (decide (x = y))) H
def rNe:R2:=fun x y H Q=>scal x y = true∧Q (.bl (!decide (x = y))) H
theorem dec_int {i j:Int}:decide (V.int i = V.int j) = (i == j):=by
 rw [Bool.eq_iff_iff]
 simp
theorem dec_bl {i j:Bool}:decide (V.bl i = V.bl j) = (i == j):=by
 rw [Bool.eq_iff_iff]
 simp
theorem dec_str {i j:Str}:decide (V.str i = V.str j) = (i == j):=by
 rw [Bool.eq_iff_iff]
 simp
theorem dec_byt {i j:Array UInt8}:decide (V.byt i = V.byt j) = (i.toList == j.toList):=by
 rw [Bool.eq_iff_iff]
 cases i
 cases j
 simp
section
variable {X:Cx} {a b c:Expr} {ta tb tc:TE} {pos:Pos}
theorem fin_bl {pins:List (Addr×Obj)} {σ:St} {H:Hp} {s:Shared} {Q:VK} {k k':Bool} (I:Inv X pins σ H s) (q:Q (.bl k) H) (e:k = k'):EP X pins σ Q (.bool k') s:=by
 subst e
 exact ⟨.bl k,H,I,rfl,q⟩
theorem op_eq:OpR X (compareOp .Eq) rEq:=by
 intro pins s σ H x y v u Q I rx ry h
 obtain ⟨hs,q⟩:=h
 cases x with
 | non =>
  cases rx
  cases y with
  | non=>cases ry; exact PySem.EqNone.eq_none_none (fin_bl I q (by simp))
  | bl j=>cases ry; exact PySem.EqNone.eq_none_bool (fin_bl I q (by simp))
  | int j=>obtain ⟨t',rfl⟩:=ry; exact PySem.EqNone.eq_none_int (fin_bl I q (by simp))
  | str j=>obtain ⟨t',rfl⟩:=ry; exact PySem.EqNone.eq_none_str (fin_bl I q (by simp))
  | _=>exact absurd (show false = true from hs) Bool.false_ne_true
 | bl i =>
  cases rx
  cases y with
  | non=>cases ry; exact PySem.EqNone.eq_bool_none (fin_bl I q (by simp))
  | bl j=>cases ry; exact eq_bool (fin_bl I q dec_bl)
  | str j=>obtain ⟨t',rfl⟩:=ry; exact PySem.EqMixed.eq_bool_str (fin_bl I q (by simp))
  | _=>exact absurd (show false = true from hs) Bool.false_ne_true
 | int i =>
  obtain ⟨t,rfl⟩:=rx
  cases y with
  | non=>cases ry; exact PySem.EqNone.eq_int_none (fin_bl I q (by simp))
  | int j=>obtain ⟨t',rfl⟩:=ry; exact eq_int (fin_bl I q dec_int)
  | str j=>obtain ⟨t',rfl⟩:=ry; exact PySem.EqMixed.eq_int_str (fin_bl I q (by simp))
  | _=>exact absurd (show false = true from hs) Bool.false_ne_true
 | str i =>
  obtain ⟨t,rfl⟩:=rx
  cases y with
  | non=>cases ry; exact PySem.EqNone.eq_str_none (fin_bl I q (by simp))
  | bl j=>cases ry; exact PySem.EqMixed.eq_str_bool (fin_bl I q (by simp))
  | int j=>obtain ⟨t',rfl⟩:=ry; exact PySem.EqMixed.eq_str_int (fin_bl I q (by simp))
  | str j=>obtain ⟨t',rfl⟩:=ry; exact eq_str (fin_bl I q dec_str)
  | _=>exact absurd (show false = true from hs) Bool.false_ne_true
 | byt i =>
  obtain ⟨t,rfl⟩:=rx
  cases y with
  | byt j=>obtain ⟨t',rfl⟩:=ry; exact PySem.W.eq_bytes (fin_bl I q dec_byt)
  | _=>exact absurd (show false = true from hs) Bool.false_ne_true
 | _=>cases y <;> exact absurd (show false = true from hs) Bool.false_ne_true
theorem op_ne:OpR X (compareOp .NotEq) rNe:=by
 intro pins s σ H x y v u Q I rx ry h
 obtain ⟨hs,q⟩:=h
 cases x with
 | non =>
  cases rx
  cases y with
  | non=>cases ry; exact PySem.EqNone.ne_none_none (fin_bl I q (by simp))
  | bl j=>cases ry; exact PySem.EqNone.ne_none_bool (fin_bl I q (by simp))
  | int j=>obtain ⟨t',rfl⟩:=ry; exact PySem.EqNone.ne_none_int (fin_bl I q (by simp))
  | str j=>obtain ⟨t',rfl⟩:=ry; exact PySem.EqNone.ne_none_str (fin_bl I q (by simp))
  | _=>exact absurd (show false = true from hs) Bool.false_ne_true
 | bl i =>
  cases rx
  cases y with
  | non=>cases ry; exact PySem.EqNone.ne_bool_none (fin_bl I q (by simp))
  | bl j=>cases ry; exact ne_bool (fin_bl I q (congrArg not dec_bl))
  | str j=>obtain ⟨t',rfl⟩:=ry; exact PySem.EqMixed.ne_bool_str (fin_bl I q (by simp))
  | _=>exact absurd (show false = true from hs) Bool.false_ne_true
 | int i =>
  obtain ⟨t,rfl⟩:=rx
  cases y with
  | non=>cases ry; exact PySem.EqNone.ne_int_none (fin_bl I q (by simp))
  | int j=>obtain ⟨t',rfl⟩:=ry; exact ne_int (fin_bl I q (congrArg not dec_int))
  | str j=>obtain ⟨t',rfl⟩:=ry; exact PySem.EqMixed.ne_int_str (fin_bl I q (by simp))
  | _=>exact absurd (show false = true from hs) Bool.false_ne_true
 | str i =>
  obtain ⟨t,rfl⟩:=rx
  cases y with
  | non=>cases ry; exact PySem.EqNone.ne_str_none (fin_bl I q (by simp))
  | bl j=>cases ry; exact PySem.EqMixed.ne_str_bool (fin_bl I q (by simp))
  | int j=>obtain ⟨t',rfl⟩:=ry; exact PySem.EqMixed.ne_str_int (fin_bl I q (by simp))
  | str j=>obtain ⟨t',rfl⟩:=ry; exact ne_str (fin_bl I q (congrArg not dec_str))
  | _=>exact absurd (show false = true from hs) Bool.false_ne_true
 | byt i =>
  obtain ⟨t,rfl⟩:=rx
  cases y with
  | byt j=>obtain ⟨t',rfl⟩:=ry; exact PySem.W.ne_bytes (fin_bl I q (congrArg not dec_byt))
  | _=>exact absurd (show false = true from hs) Bool.false_ne_true
 | _=>cases y <;> exact absurd (show false = true from hs) Bool.false_ne_true
theorem op_lt:OpR X (compareOp .Lt) (rI0 fun i j=>.bl (decide (i < j))):=opB0 fun _ _ _ _ _ _ _ q=>lt_int q
theorem op_gt:OpR X (compareOp .Gt) (rI0 fun i j=>.bl (decide (j < i))):=opB0 fun _ _ _ _ _ _ _ q=>gt_int q
theorem nomark (b:Expr) {op:CmpOp} (h:op≠.In:=by decide) (h2:op≠.NotIn:=by decide):behindInMarks op b = false:=by
 have e1:(op == CmpOp.In) = false:=by cases op <;> first | rfl | exact absurd rfl h
 have e2:(op == CmpOp.NotIn) = false:=by cases op <;> first | rfl | exact absurd rfl h2
 cases b <;> simp [behindInMarks,e1,e2]
theorem pe_cmpR {op:CmpOp} {r:R2} (ho:OpR X (compareOp op) r) (ha:PE X a ta) (hb:PE X b tb) (hm:behindInMarks op b = false):PE X (.Compare a [op] [b] pos) (tOp r ta tb):=by
 intro pins s σ H Q I h
 exact wpAny_Compare1 (binT ha hb I h fun v u s2 x y H2 I2 rx ry q=>ho pins s2 σ H2 x y v u Q I2 rx ry q) hm
def tTest (t:TE):TT:=fun σ H Q=>t σ H fun x H'=>∃ k,x = .bl k∧Q k H'
theorem pt_cmpR {op:CmpOp} {r:R2} (ho:OpR X (compareOp op) r) (ha:PE X a ta) (hb:PE X b tb) (hm:behindInMarks op b = false):PT X (.Compare a [op] [b] pos) (tTest (tOp r ta tb)):=by
 intro pins s σ H Q I h
 refine wpAny_isTrue_Compare1 (thn (ha pins s σ H _ I h) fun v s1 ⟨x,H1,I1,r1,q1⟩=>thn (hb pins s1 σ H1 _ I1 q1) fun u s2 ⟨y,H2,I2,r2,q2⟩ =>
  thn (ho pins s2 σ H2 x y v u _ I2 r1 r2 q2) fun c s3 ⟨z,H3,I3,r3,k,e,q3⟩=>?_) hm
 subst e
 cases r3
 exact wpAny_truthy_bool ⟨H3,I3,q3⟩
theorem line63:(sizeLine:Nat) < 2 ^ 63:=by rw [sizeLine_eq]; decide
theorem vals1 {x:V} {us:List Value} (r:Vals [x] us):∃ u,us = [u]∧RelV x u:=by
 cases r with
 | cons r1 r2=>cases r2; exact ⟨_,rfl,r1⟩
theorem vals2 {x y:V} {us:List Value} (r:Vals [x,y] us):∃ u w',us = [u,w']∧RelV x u∧RelV y w':=by
 cases r with
 | cons r1 r2 =>
  cases r2 with
  | cons r3 r4=>cases r4; exact ⟨_,_,rfl,r1,r3⟩
theorem call_max2 (hc:X.calm = true):CallR X (.builtin "max") (fun xs H Q=>∃ i j,xs = [.int i,.int j]∧Q (.int (if j > i then j else i)) H):=by
 intro pins s σ H xs us Q I r h
 obtain ⟨i,j,rfl,q⟩:=h
 obtain ⟨u,w',rfl,⟨t,rfl⟩,⟨t',rfl⟩⟩:=vals2 r
 refine max_two_ints (I.ok.hd hc) fun h' tk k=>⟨_,H,I.kept k,?_,q⟩
 by_cases hj:j > i
 ·rw [if_pos hj,if_pos hj]; exact ⟨_,rfl⟩
 ·rw [if_neg hj,if_neg hj]; exact ⟨_,rfl⟩
theorem call_int1:CallR X (.type "int") (fun xs H Q=>(∃ i,xs = [.int i]∧Q (.int i) H)∨∃ k,xs = [.bl k]∧Q (.int (if k then 1 else 0)) H):=by
 intro pins s σ H xs us Q I r h
 rcases h with ⟨i,rfl,q⟩ | ⟨k,rfl,q⟩
 ·obtain ⟨u,rfl,t,rfl⟩:=vals1 r
  exact call_int_int ⟨.int i,H,I,⟨_,rfl⟩,q⟩
 ·obtain ⟨u,rfl,r1⟩:=vals1 r
  cases r1
  exact call_int_bool ⟨.int (if k then 1 else 0),H,I.tok _,⟨_,rfl⟩,q⟩
end
end L2
namespace L2
open PySem PySem.Spec PyProof.Rows
structure ObjM (h:Heap) (x dx C:Addr) (mA:Str→Option Value):Prop where
 obj:h.get? x = some (PySem.W.instObj C dx)
 ns:h.Ns1 dx mA
 ne:dx≠x
theorem lookIn_ns {h:Heap} {dx:Addr} {mA:Str→Option Value} (n:h.Ns1 dx mA):∃ od,h.get? dx = some od∧∀ name,PySem.W.lookIn name od = some (mA name):=by
 obtain ⟨o,es,ep,ho,hd,hk,_,hm⟩:=n
 refine ⟨o,ho,fun name=>?_⟩
 have e:=hm name
 unfold nsFind findBy at e
 rw [← Array.find?_toList] at e
 unfold PySem.W.lookIn
 rw [hd]
 dsimp only
 split
 ·rename_i y q
  rw [q] at e
  exact congrArg some e
 ·rename_i q
  rw [q] at e
  have a:es.toList.any (·.refKey) = false:=by
   rw [List.any_eq_false]
   intro y hy
   obtain ⟨z,t,hkey⟩:=hk y (Array.mem_toList_iff.mp hy)
   simp [DictEntry.refKey,hkey]
  have a':¬ es.toList.any (·.refKey) = true:=by rw [a]; exact Bool.false_ne_true
  rw [if_neg a']
  exact congrArg some e
theorem ObjM.look {h:Heap} {x dx C:Addr} {mA:Str→Option Value} (I:ObjM h x dx C mA):∃ od,PySem.W.InstAt h x (PySem.W.instObj C dx) C (some od)∧∀ name,PySem.W.lookIn name od = some (mA name) :=
 let ⟨od,ho,hl⟩:=lookIn_ns I.ns
 ⟨od,⟨I.obj,rfl,rfl,ho⟩,hl⟩
section
variable {prog:Program} {w:World} {A:Around} {E:Value→Shared→Prop} {s:Shared} {K:PySem.W.Frag} {x dx C f:Addr} {mA:Str→Option Value} {name:Str} {v:Value}
end
section
variable {P:Program} {w:World} {H H':Hp} {h h':Heap} {a C dx:Addr} {fs fs':List (Str×V)}
theorem ins_get (hok:HOk P w H h) (e:H a = some (.ins C dx fs)):∃ mA,ObjM h a dx C mA∧(∀ f,RelO (fs.lookup f) (mA f))∧PySem.Within mA (fs.map (·.1))∧fs.length≤1000∧H dx = some (.own a):=by
 obtain ⟨d,z,ne,ob,mA,n,r,q⟩:=(show ObjOk P w H h a (.ins C dx fs) from hok a _ e)
 exact ⟨mA,⟨ob,n,ne⟩,r,q,z,d⟩
end
structure Cls (K:PySem.W.Frag) (C:Addr):Prop where
 pg:PySem.W.plainGet K C Str.empty = true
 hd:PySem.W.hasDictIn K C = true
 po:PySem.W.plainOver K C = true
 sa:PySem.W.findIn K (.ref C) "__setattr__" = some (some (.builtin "object.__setattr__"))
theorem Cls.get {K:PySem.W.Frag} {C:Addr} (c:Cls K C) (f:Str):PySem.W.plainGet K C f = true:=c.pg
section
variable {X:Cx} {pins:List (Addr×Obj)} {σ:St} {H:Hp} {s:Shared} {a C dx:Addr} {fs:List (Str×V)} {f:Str} {v:V} {A:Around} {E:Value→Shared→Prop}
end
section
variable {X:Cx} {o e value:Expr} {f:Str} {pos pos' tpos:Pos} {ta tv:TE}
end
section
variable {X:Cx} {pins:List (Addr×Obj)} {σ:St} {H:Hp} {s:Shared} {A:Around} {E:Value→Shared→Prop} {Q:Value→Shared→Prop} {c:Value} {b:Bool}
inductive TyOf (K:PySem.W.Frag) (H:Hp):V→Value→Prop where
 | non:TyOf K H .non (.type "NoneType")
 | bl (x:Bool):TyOf K H (.bl x) (.type "bool")
 | int (i:Int):TyOf K H (.int i) (.type "int")
 | str (x:Str):TyOf K H (.str x) (.type "str")
 | flt (x:UInt64):TyOf K H (.flt x) (.type "float")
 | lst {a:Addr} {xs:List V} (e:H a = some (.lst xs)):TyOf K H (.ref a) (.type "list")
 | frz {a:Addr} {o:Obj} {xs:List V} (e:H a = some (.frz o (.lst xs))):TyOf K H (.ref a) (.type "list")
 | tup {a:Addr} {xs:List V} (e:H a = some (.tup xs)):TyOf K H (.ref a) (.type "tuple")
 | dK {a:Addr} {kvs:List (Key×V)} (e:H a = some (.dK kvs)):TyOf K H (.ref a) (.type "dict")
 | dT {a:Addr} {kvs:List (List Key×V)} (e:H a = some (.dT kvs)):TyOf K H (.ref a) (.type "dict")
 | ins {a C dx:Addr} {fs:List (Str×V)} (e:H a = some (.ins C dx fs)) (cl:Cls K C) (ha:PySem.W.findIn K (.ref C) "__class__" = some (some (.builtin "object.__class__")))
   (hn:PySem.W.specialIn K (.builtin "object.__class__") "__get__" = some (some (.builtin "getset_descriptor.__get__"))) (htk:PySem.W.takesIn K (.builtin "object.__class__") = some true)
   (hm:PySem.W.mroIn K C (.type "object") = some true):TyOf K H (.ref a) (.ref C)
theorem isinst_ok {x:V} {u t:Value} (I:Inv X pins σ H s) (rx:RelV x u) (ty:TyOf X.K H x t) (e:PySem.W.kitOne X.K t c = some b) (h:∀ tk,Q (.bool b) { s with toks:=tk }) :
  wpAny (model X.prog X.w) A (call (.builtin "isinstance") [u,c]) Q E s:=by
 cases ty with
 | non=>cases (show u = Value.none from rx); exact PySem.W.kia_one PySem.W.kitx_none I.kIn True.intro e (fun z=>nomatch z) h
 | bl y=>cases (show u = Value.bool y from rx); exact PySem.W.kia_one PySem.W.kitx_bool I.kIn True.intro e (fun z=>nomatch z) h
 | int i=>obtain ⟨t,q⟩:=(show ∃ t,u = Value.int i t from rx); cases q; exact PySem.W.kia_one PySem.W.kitx_int I.kIn True.intro e (fun z=>nomatch z) h
 | str y=>obtain ⟨t,q⟩:=(show ∃ t,u = Value.str y t from rx); cases q; exact PySem.W.kia_one PySem.W.kitx_str I.kIn True.intro e (fun z=>nomatch z) h
 | flt y=>obtain ⟨t,q⟩:=(show ∃ t,u = Value.float y t from rx); cases q; exact PySem.W.kia_one PySem.W.kitx_float I.kIn True.intro e (fun z=>nomatch z) h
 | @lst a xs ea =>
  cases (show u = Value.ref a from rx)
  obtain ⟨_,_,n,_,h1⟩:=(show ObjOk X.prog X.w H s.heap a (.lst xs) from I.hok a _ ea)
  exact PySem.W.kia_one PySem.W.kitx_list I.kIn ⟨_,h1,rfl⟩ e (fun z=>nomatch z) h
 | @frz a ob xs ea =>
  cases (show u = Value.ref a from rx)
  obtain ⟨_,_,_,n,_,h1⟩:=(show ObjOk X.prog X.w H s.heap a (.frz ob (.lst xs)) from I.hok a _ ea)
  exact PySem.W.kia_one PySem.W.kitx_list I.kIn ⟨_,h1,rfl⟩ e (fun z=>nomatch z) h
 | @tup a xs ea =>
  cases (show u = Value.ref a from rx)
  obtain ⟨_,_,_,p⟩:=(show ObjOk X.prog X.w H s.heap a (.tup xs) from I.hok a _ ea)
  obtain ⟨o,h1,h2,_⟩:=p
  exact PySem.W.kia_one PySem.W.kitx_tuple I.kIn ⟨o,h1,h2⟩ e (fun z=>nomatch z) h
 | @dK a kvs ea =>
  cases (show u = Value.ref a from rx)
  obtain ⟨_,_,vs,_,p⟩:=(show ObjOk X.prog X.w H s.heap a (.dK kvs) from I.hok a _ ea)
  obtain ⟨o,es,ep,h1,h2,_⟩:=p
  exact PySem.W.kia_one PySem.W.kitx_dict I.kIn ⟨o,h1,h2.1⟩ e (fun z=>nomatch z) h
 | @dT a kvs ea =>
  cases (show u = Value.ref a from rx)
  obtain ⟨_,_,xs,_,o,es,ep,h1,h2,_⟩:=(show ObjOk X.prog X.w H s.heap a (.dT kvs) from I.hok a _ ea)
  exact PySem.W.kia_one PySem.W.kitx_dict I.kIn ⟨o,h1,h2.1⟩ e (fun z=>nomatch z) h
 | @ins a C dx fs ea cl ha hn htk hm =>
  cases (show u = Value.ref a from rx)
  obtain ⟨mA,O,_⟩:=ins_get I.hok ea
  obtain ⟨od,J,_⟩:=O.look
  exact PySem.W.kia_one (PySem.W.kitx_own (cl.get _) cl.hd ha hn htk hm) I.kIn J e (fun z=>nomatch z) h
end
end L2
namespace L2
open PySem PySem.Spec PyProof.Rows
structure Room (k:Nat) (A:Around):Prop where
 hd:A.handled = none
 dp:A.depth + 3 * k + 5 < recursionLimit
 un:A.units + 16 * k + 200 < cLine
theorem Room.mono {j k:Nat} {A:Around} (r:Room k A) (h:j≤k):Room j A:=⟨r.hd,by have:=r.dp; omega,by have:=r.un; omega⟩
theorem Room.deeper {k:Nat} {A:Around} (r:Room (k + 1) A) (env:Env):Room k (A.deeper env) :=
 ⟨r.hd,by have:=r.dp; show A.depth + 1 + 3 * k + 5 < _; omega,by have:=r.un; show A.units + 3 + 16 * k + 200 < _; omega⟩
theorem Room.in1 {k:Nat} {A:Around} (r:Room (k + 1) A):Room k A.in1 :=
 ⟨r.hd,by have:=r.dp; show A.depth + 3 * k + 5 < _; omega,by have:=r.un; show A.units + 1 + 16 * k + 200 < _; omega⟩
theorem Room.depth {k:Nat} {A:Around} (r:Room k A):A.depth < recursionLimit:=by have:=r.dp; omega
theorem Room.units {k:Nat} {A:Around} (r:Room k A):A.units + 64 < cLine:=by have:=r.un; omega
def tNil:TA:=fun _ H Q=>Q [] H
def tCons (ta:TE) (tr:TA):TA:=fun σ H Q=>ta σ H fun x H1=>tr σ H1 fun xs H2=>Q (x :: xs) H2
section
variable {X:Cx} {e:Expr} {es:List Expr} {te:TE} {t:TA} {pos:Pos}
theorem pa_nil:PA X [] tNil:=fun _ _ _ _ H Q I h=>Calls.spliced_nil ⟨[],H,I,.nil,h⟩
theorem pa_cons (ha:PE X e te) (hr:PA X es t) (hs:starEach (e :: es) X.env = (false,eval e X.env) :: starEach es X.env:=by rfl):PA X (e :: es) (tCons te t):=by
 intro pos pins s σ H Q I h
 rw [hs]
 show wpAny _ _ (spliced ((false,eval e X.env) :: backTo pos (starEach es X.env))) _ _ s
 refine Calls.spliced_cons (thn (ha pins s σ H _ I h) fun u s1 ⟨x,H1,I1,r1,q1⟩=>?_)
 exact thn (hr pos pins s1 σ H1 _ I1 q1) fun us s2 ⟨xs,H2,I2,r2,q2⟩=>⟨x :: xs,H2,I2,.cons r1 r2,q2⟩
def tTup (t:TA):TE:=fun σ H Q=>t σ H fun xs H1=>xs.length≤sizeLine∧∀ p,H1 p = none→Q (.ref p) (upd H1 p (.tup xs))
def tLst (t:TA):TE:=fun σ H Q=>t σ H fun xs H1=>xs.length≤sizeLine∧∀ p,H1 p = none→Q (.ref p) (upd H1 p (.lst xs))
theorem pe_tup {x1} (h:PA X es t):PE X (.Tuple es x1 pos) (tTup t):=by
 intro pins s σ H Q I hq
 refine wpAny_Tuple_spliced (thn (h pos pins s σ H _ I hq) fun us s1 ⟨xs,H1,I1,r,z,q⟩=>⟨by rw [← r.length]; exact z,?_⟩)
 have hf:H1 s1.heap.objs.size = none:=I1.hok.fresh (Nat.le_refl _)
 refine ⟨.ref s1.heap.objs.size,upd H1 s1.heap.objs.size (.tup xs),I1.laid (t':=s1.toks) (fun b u e=>Heap.get?_push_of_some _ e) (Nat.le_refl _) ?_,rfl,q _ hf⟩
 exact ⟨z,us,r,⟨_,Heap.get?_push_size _ rfl,rfl,_,rfl⟩⟩
theorem pe_lst (h:PA X es t):PE X (.List es pos) (tLst t):=by
 intro pins s σ H Q I hq
 refine wpAny_List_spliced (thn (h pos pins s σ H _ I hq) fun us s1 ⟨xs,H1,I1,r,z,q⟩=>⟨by rw [← r.length]; exact z,?_⟩)
 have hf:H1 s1.heap.objs.size = none:=I1.hok.fresh (Nat.le_refl _)
 refine ⟨.ref s1.heap.objs.size,upd H1 s1.heap.objs.size (.lst xs),I1.laid (t':=s1.toks) (fun b u e=>Heap.get?_push_of_some _ e) (Nat.le_refl _) ?_,rfl,q _ hf⟩
 exact ⟨z,us,0,r,Heap.get?_push_size _ rfl⟩
end
abbrev Sp:=List V→Hp→VK→XK→Prop
abbrev CXT:=List Env→Hp→Shared→XK→Value→Shared→Prop
structure Env0 (P:Program) (w:World) (K:PySem.W.Frag) (mg:Str→Option Value) (base:Heap) (A:Around) (outer:List Env) (s:Shared) (H:Hp):Prop where
 frames:A.frames = some outer
 mod:Mod K mg base
 bs:∀ b o,base.get? b = some o→s.heap.get? b = some o∧H b = none
 bsz:base.objs.size≤s.heap.objs.size
 funs:s.heap.FunFrames base outer
 frf:∀ b∈frs outer,H b = none
 hok:HOk P w H s.heap
 bare:AllBare s.gens
def CE (outer:List Env) (P:Program) (w:World) (H:Hp) (s:Shared) (Q:VK) (u:Value) (s':Shared):Prop :=
 ∃ v H',s'.os = s.os∧AllBare s'.gens∧Un (frs outer) [] H H' s.heap s'.heap∧HOk P w H' s'.heap∧RelV v u∧Q v H'
def CR (CX:CXT) (outer:List Env) (P:Program) (w:World) (H:Hp) (s:Shared) (Q:VK) (E:XK) (r:Result) (s':Shared):Prop :=
 match r with
 | .ok (.ret u)=>CE outer P w H s Q u s'
 | .ok _=>False
 | .error e=>CX outer H s E e s'
structure FnOk (P:Program) (w:World) (K:PySem.W.Frag) (mg:Str→Option Value) (base:Heap) (CX:CXT) (k:Nat) (f:Addr) (fd:FuncData) (ps:List Str) (sp:Sp):Prop where
 len:∀ vs H Q E,sp vs H Q E→vs.length = ps.length
 run:∀ (A:Around) (outer:List Env) (s:Shared) (H:Hp) (args:Args) (us:List Value) (vs:List V) (Q:VK) (E:XK),Room k A→Env0 P w K mg base A outer s H→BindsTo s fd args (ps.zip us)→Vals vs us→sp vs H Q E →
  codeAny (model P w) A (.call (.ref f) args) (CR CX outer P w H s Q E) s
section
variable {X:Cx} {pins:List (Addr×Obj)} {σ:St} {H:Hp} {s s':Shared}
theorem Inv.env0 (I:Inv X pins σ H s):Env0 X.prog X.w X.K X.mg X.base X.A X.stack s H :=
 ⟨I.ok.frames,I.ok.mod,I.bs,Nat.le_trans I.ok.bsz I.sz,I.stack,I.stkFree,I.hok,I.bare⟩
theorem Inv.after {Q:VK} {u:Value} (I:Inv X pins σ H s) (h:CE X.stack X.prog X.w H s Q u s'):EP X pins σ Q u s':=by
 obtain ⟨v,H',os,bare,un,hok,r,q⟩:=h
 obtain ⟨hh,g,d,t,os'⟩:=s'
 obtain rfl:os' = s.os:=os
 exact ⟨v,H',I.call (h':=hh) (g':=g) (d':=d) (t':=t) (ch:=[]) un hok bare (fun b z=>absurd z (by simp)),r,q⟩
end
def tCall (sp:Sp) (dvs:List V) (E:XK) (t:TA):TE:=fun σ H Q=>t σ H fun vs H1=>sp (vs ++ dvs) H1 Q E
def Binds (K:PySem.W.Frag) (fd:FuncData) (ps:List Str) (ds:List Value):Prop :=
 ∀ (s:Shared) (us:List Value),K.In s.heap→(us ++ ds).length = ps.length→BindsTo s fd ⟨us,[]⟩ (ps.zip (us ++ ds))
theorem Binds.all {K:PySem.W.Frag} {fd:FuncData} {ps:List Str} (h:∀ us:List Value,us.length = ps.length→bindArgs fd ⟨us,[]⟩ = pure (ps.zip us)):Binds K fd ps []:=fun s us _ hl=>by
 rw [List.append_nil] at hl ⊢
 exact .of_eq (h us hl)
def Passes (CX:CXT) (X:Cx) (E:XK):Prop:=∀ (pins:List (Addr×Obj)) (σ:St) (H:Hp) (s:Shared) (e:Value) (s':Shared),Inv X pins σ H s→CX X.stack H s E e s'→X.xe e s'
section
variable {X:Cx} {CX:CXT} {k:Nat} {f C:Addr} {fd:FuncData} {ps:List Str} {sp:Sp} {dvs:List V} {ds:List Value} {E:XK} {x m:Str} {p pos apos:Pos} {e o:Expr} {es:List Expr} {ta:TE} {t:TA}
theorem run_fn {pins:List (Addr×Obj)} {σ:St} {H:Hp} {s:Shared} {Q:VK} {us:List Value} {vs:List V} (F:FnOk X.prog X.w X.K X.mg X.base CX k f fd ps sp) (hr:Room k X.A) (hb:Binds X.K fd ps ds) (hd:Vals dvs ds) (hx:Passes CX X E)
  (I:Inv X pins σ H s) (r:Vals vs us) (h:sp (vs ++ dvs) H Q E):wpAny (model X.prog X.w) X.A (call (.ref f) us) (EP X pins σ Q) X.xe s:=by
 have r2:Vals (vs ++ dvs) (us ++ ds):=r.append hd
 have hl:(us ++ ds).length = ps.length:=by rw [← r2.length]; exact F.len _ _ _ _ h
 refine wpAny_call (codeAny_mono (F.run X.A X.stack s H ⟨us,[]⟩ (us ++ ds) (vs ++ dvs) Q E hr I.env0 (hb s us I.kIn hl) r2 h) fun r s' hq=>?_)
 cases r with
 | error e=>exact hx pins σ H s e s' I hq
 | ok fl =>
  cases fl with
  | ret u=>exact I.after hq
  | next=>exact False.elim hq
  | brk=>exact False.elim hq
  | cont=>exact False.elim hq
theorem pe_call (F:FnOk X.prog X.w X.K X.mg X.base CX k f fd ps sp) (hr:Room k X.A) (hg:Gl X x) (hm:X.mg x = some (.ref f)) (hk:PySem.W.keepIn X.K (.ref f) = true) (hb:Binds X.K fd ps ds) (hd:Vals dvs ds) (hx:Passes CX X E)
  (ha:PA X (e :: es) t) (hdb:(x == ("__debug__":Str)) = false:=by decide) (he:starEach (e :: es) X.env = (false,eval e X.env) :: starEach es X.env:=by rfl) (hpl:(backTo pos (starEach es X.env)).any (·.1) = false:=by rfl) :
  PE X (.Call (.Name x p) (e :: es) [] pos) (tCall sp dvs E t):=by
 intro pins s σ H Q I h
 refine wpAny_Call_Name_kw (ld_glob I hg hm ?_ hdb)
 refine PySem.W.callWith_K (h₀:=X.base) I.ok.mod.kin hk (thn (ha pos pins s σ H _ I h) fun us s1 ⟨vs,H1,I1,r,q⟩=>⟨I1.kIn,?_⟩) he hpl
 exact run_fn F hr hb hd hx I1 r q
end
def PK (X:Cx) (kws:List Keyword) (t:TA):Prop :=
 ∀ (pos:Pos) (pins:List (Addr×Obj)) (s:Shared) (σ:St) (H:Hp) (Q:List V→Hp→Prop),Inv X pins σ H s→t σ H Q→wpAny (model X.prog X.w) X.A (evalAll ((backToKw pos (keywordEach kws X.env)).map (·.2))) (AP X pins σ Q) X.xe s
section
variable {X:Cx} {CX:CXT} {k:Nat} {f C:Addr} {fd:FuncData} {ps ks:List Str} {sp:Sp} {E:XK} {x m:Str} {p pos apos kpos:Pos} {e o:Expr} {es:List Expr} {kws:List Keyword} {te ta:TE} {t tk:TA} {nm:Option Str}
theorem pk_nil:PK X [] tNil:=fun _ _ _ _ H Q I h=>wpAny_evalAll_nil ⟨[],H,I,.nil,h⟩
theorem pk_cons (ha:PE X e te) (hr:PK X kws t):PK X (⟨nm,e,kpos⟩ :: kws) (tCons te t):=by
 intro pos pins s σ H Q I h
 show wpAny _ _ (evalAll ((do let v ← eval e X.env; standAt pos; pure v) :: (backToKw pos (keywordEach kws X.env)).map (·.2))) _ _ s
 refine wpAny_evalAll_cons (wpAny_bind (thn (ha pins s σ H _ I h) fun u s1 ⟨x,H1,I1,r1,q1⟩=>wpAny_bind (wpAny_standAt (wpAny_pure ?_))))
 exact thn (hr pos pins s1 σ H1 _ I1 q1) fun us s2 ⟨xs,H2,I2,r2,q2⟩=>⟨x :: xs,H2,I2,.cons r1 r2,q2⟩
variable {g:List Value→List Value→List Value} {gV:List V→List V→List V}
end
structure FnScope (N P:List Str) (sc:Scope):Prop where
 kind:sc.kind = .function
 co:sc.isCoroutine = false
 gen:sc.isGenerator = false
 nd:N.Nodup
 pre:N.take P.length = P
 par:∀ x∈P,sc.names.lookup x = some .local∨sc.names.lookup x = some .cell
 nofree:∀ y∈sc.names,y.2≠.free
theorem bindL_out {kindOf:Str→Option NameKind} {x:Str}:∀ {binds:List (Str×Value)} {m:Str→Option Value},(∀ v,(x,v)∉binds)→bindL kindOf binds m x = m x
 | [],_,_=>rfl
 | (n,v) :: r,m,h=>by
  unfold bindL
  rw [bindL_out fun w hw=>h w (List.mem_cons_of_mem _ hw)]
  split
  ·have:x≠n:=by rintro rfl; exact h v List.mem_cons_self
   simp [this]
  ·rfl
theorem bindC_out {kindOf:Str→Option NameKind} {x:Str}:∀ {binds:List (Str×Value)} {m:Str→Option Value},(∀ v,(x,v)∉binds)→bindC kindOf binds m x = m x
 | [],_,_=>rfl
 | (n,v) :: r,m,h=>by
  unfold bindC
  rw [bindC_out fun w hw=>h w (List.mem_cons_of_mem _ hw)]
  split
  ·rfl
  ·have:x≠n:=by rintro rfl; exact h v List.mem_cons_self
   simp [this]
theorem bindL_get {kindOf:Str→Option NameKind} {x:Str} {v:Value}:∀ {P:List Str} {vs:List Value} {i:Nat} {m:Str→Option Value},P.Nodup→P[i]? = some x→vs[i]? = some v→kindOf x = some .local →
  bindL kindOf (P.zip vs) m x = some v
 | [],_,_,_,_,h,_,_=>by simp at h
 | _ :: _,[],_,_,_,_,h,_=>by simp at h
 | p :: P,w :: vs,0,m,nd,h1,h2,hk=>by
  simp at h1 h2; subst h1; subst h2
  show bindL kindOf ((p,w) :: P.zip vs) m p = _
  unfold bindL
  rw [bindL_out fun v hv=>(List.nodup_cons.mp nd).1 (List.of_mem_zip hv).1,if_pos hk]
  simp
 | p :: P,w :: vs,i + 1,m,nd,h1,h2,hk=>by
  show bindL kindOf ((p,w) :: P.zip vs) m x = _
  unfold bindL
  exact bindL_get (i:=i) (List.nodup_cons.mp nd).2 (by simpa using h1) (by simpa using h2) hk
theorem bindC_get {kindOf:Str→Option NameKind} {x:Str} {v:Value}:∀ {P:List Str} {vs:List Value} {i:Nat} {m:Str→Option Value},P.Nodup→P[i]? = some x→vs[i]? = some v→kindOf x≠some .local →
  bindC kindOf (P.zip vs) m x = some v
 | [],_,_,_,_,h,_,_=>by simp at h
 | _ :: _,[],_,_,_,_,h,_=>by simp at h
 | p :: P,w :: vs,0,m,nd,h1,h2,hk=>by
  simp at h1 h2; subst h1; subst h2
  show bindC kindOf ((p,w) :: P.zip vs) m p = _
  unfold bindC
  rw [bindC_out fun v hv=>(List.nodup_cons.mp nd).1 (List.of_mem_zip hv).1,if_neg hk]
  simp
 | p :: P,w :: vs,i + 1,m,nd,h1,h2,hk=>by
  show bindC kindOf ((p,w) :: P.zip vs) m x = _
  unfold bindC
  exact bindC_get (i:=i) (List.nodup_cons.mp nd).2 (by simpa using h1) (by simpa using h2) hk
def start (N:List Str) (vs:List V):St:=vs.map some ++ List.replicate (N.length - vs.length) none
def cxOf (CX:CXT) (P:Program) (w:World) (K:PySem.W.Frag) (mg:Str→Option Value) (base:Heap) (N:List Str) (qual:Str) (scope:Scope) (f:Addr) (cd:Value) (A:Around) (outer:List Env) (s:Shared) (H:Hp) (E:XK):Cx where
 prog:=P
 w:=w
 K:=K
 mg:=mg
 base:=base
 A:=A.deeper (envOfC qual scope s.heap.objs.size f cd)
 N:=N
 s₀:=s
 H₀:=H
 env:=envOfC qual scope s.heap.objs.size f cd
 outer:=outer
 stack:=envOfC qual scope s.heap.objs.size f cd :: outer
 ex:=[]
 calm:=true
 fn:=fun _=>true
 pn:=[]
 xe:=fun e s'=>wpAny (model P w) (A.deeper (envOfC qual scope s.heap.objs.size f cd)) (leaving (envOfC qual scope s.heap.objs.size f cd) e) (fun _ s''=>CX outer H s E e s'') (fun e' s''=>CX outer H s E e' s'') s'
theorem cell_has {sc:Scope} {n:Nat} {x:Str} (h:sc.names.lookup x = some .cell):∃ c,(cellsFrom n sc.names []).lookup x = some c:=by
 have q:=PySem.W.cellsFrom_some sc.names n [] (.inl h)
 exact Option.isSome_iff_exists.mp q
theorem inv_start {CX:CXT} {P:Program} {w:World} {K:PySem.W.Frag} {mg:Str→Option Value} {base:Heap} {N ps:List Str} {qual:Str} {scope:Scope} {f:Addr} {cd:Value} {A:Around} {outer:List Env} {s s1:Shared} {H:Hp} {E:XK} {us:List Value} {vs:List V}
  (S:FnScope N ps scope) (hd:A.handled = none) (e0:Env0 P w K mg base A outer s H) (hl:vs.length = ps.length) (r:Vals vs us)
  (x:InCallC s s.heap.objs.size (bindL (envOfC qual scope s.heap.objs.size f cd).kindOf (ps.zip us) fun _=>none) (cellsFrom (s.heap.objs.size + 1) scope.names []) (bindC (envOfC qual scope s.heap.objs.size f cd).kindOf (ps.zip us) fun _=>none) s1) :
  Inv (cxOf CX P w K mg base N qual scope f cd A outer s H E) [] (start N vs) H s1:=by
 have hpl:ps.length≤N.length:=by have:=congrArg List.length S.pre; rw [List.length_take] at this; omega
 obtain ⟨h1,tk,rfl,hk⟩:=x.done
 have noA:∀ b:Addr,b∉(cxOf CX P w K mg base N qual scope f cd A outer s H E).ex:=fun b z=>absurd (show b∈([]:List Addr) from z) (by simp)
 refine ⟨⟨e0.mod,S.kind,rfl,rfl,Nat.le_refl _,fun y z c h1 h2=>?_,fun y hy=>?_,fun y c _ h=>?_,fun _=>hd,Around.frames_deeper e0.frames,.inr ⟨rfl,rfl⟩,fun b z=>absurd z (noA b),e0.bs,e0.bsz,fun b _ _=>noA b,fun b z=>absurd z (noA b),e0.funs,e0.frf⟩,
  rfl,e0.bare,Un.kept hk,⟨_,x.toInCall.ns,fun i y v h1 h2 h3=>?_⟩,fun y c h=>⟨_,x.cell y c h⟩,e0.hok.fresh (Nat.le_refl _),fun y c h=>?_,fun p hp=>absurd (show p∈([]:List (Addr×Obj)) from hp) (by simp),e0.hok.kept hk,?_⟩
 ·exact name_of_addr x.apart (PySem.mem_of_lookup h1) (PySem.mem_of_lookup h2)
 ·have hy:scope.names.lookup y = some .cell∨scope.names.lookup y = some .free:=hy
  rcases hy with hy | hy
  ·exact cell_has hy
  ·exact absurd rfl (S.nofree _ (PySem.mem_of_lookup hy))
 ·exact Nat.le_of_lt (x.above y c (PySem.mem_of_lookup h))
 ·have hi:i < vs.length:=by
   unfold start at h2
   by_cases hi:i < vs.length
   ·exact hi
   ·rw [List.getElem?_append_right (by simpa using hi)] at h2
    rw [List.getElem?_replicate] at h2
    split at h2 <;> cases h2
  have ha:vs[i]? = some v:=by
   unfold start at h2
   rw [List.getElem?_append_left (by simpa using hi),List.getElem?_map] at h2
   cases e:vs[i]? with
   | none=>rw [e] at h2; cases h2
   | some a=>rw [e] at h2; cases h2; rfl
  obtain ⟨u,hu,rv⟩:=r.get ha
  have hp:ps[i]? = some y:=by
   rw [← S.pre,List.getElem?_take_of_lt (by omega)]; exact h1
  have ndP:ps.Nodup:=by rw [← S.pre]; exact S.nd.sublist (List.take_sublist _ _)
  refine ⟨u,rv,?_⟩
  rcases S.par y (List.mem_of_getElem? hp) with k | k
  ·exact .inl ⟨k,bindL_get ndP hp hu k⟩
  ·obtain ⟨c,e⟩:=cell_has (n:=s.heap.objs.size + 1) k
   refine .inr ⟨.inl k,c,e,?_⟩
   have q:=x.cell y c e
   rw [bindC_get ndP hp hu (by show scope.names.lookup y≠_; rw [k]; decide)] at q
   exact q
 ·exact e0.hok.fresh (Nat.le_of_lt (x.above y c (PySem.mem_of_lookup h)))
 ·unfold start
  show _ = N.length
  rw [List.length_append,List.length_map,List.length_replicate]
  omega
theorem fn_of {CX:CXT} {P:Program} {w:World} {K:PySem.W.Frag} {mg:Str→Option Value} {base:Heap} {k:Nat} {f:Addr} {name qual:Str} {params:Arguments} {body:List Stmt} {scope:Scope} {dV kV doc pm cdv ct oc:Value} {an od:Option Addr}
  {osl:Array (Option Value)} {N ps:List Str} {sp:Sp} (lk:K.lookup f = some ⟨oc,od,.func (PySem.W.fnOf name qual params body scope dV kV doc pm an cdv ct),osl⟩) (hcd:PySem.W.codeIn K cdv qual = true) (S:FnScope N ps scope)
  (len:∀ vs H Q E,sp vs H Q E→vs.length = ps.length)
  (hbody:∀ (A:Around) (outer:List Env) (s:Shared) (H:Hp) (vs:List V) (Q:VK) (E:XK),Room k (A.deeper (envOfC qual scope s.heap.objs.size f cdv))→sp vs H Q E →
   ∃ t,PSs (cxOf CX P w K mg base N qual scope f cdv A outer s H E) body t∧t { nx:=fun _ H'=>Q .non H',rt:=Q } (start N vs) H) :
  FnOk P w K mg base CX (k + 1) f (PySem.W.fnOf name qual params body scope dV kV doc pm an cdv ct) ps sp:=by
 refine ⟨len,fun A outer s H args us vs Q E hr e0 hb r hsp=>?_⟩
 have hl:=len _ _ _ _ hsp
 have KX:K.In s.heap:=e0.mod.kin.keeps fun b o e=>(e0.bs b o e).1
 have lim:s.heap.NoLimit:=e0.mod.nolimit.keeps fun b o e=>(e0.bs b o e).1
 have hkind:∀ y∈ps.zip us,scope.names.lookup y.1 = some .local∨(scope.names.lookup y.1 = some .cell∧((cellsFrom (s.heap.objs.size + 1) scope.names []).lookup y.1).isSome = true):=fun ⟨n,v⟩ hy=>by
  rcases S.par n (List.of_mem_zip hy).1 with q | q
  ·exact .inl q
  ·exact .inr ⟨q,PySem.W.cellsFrom_some _ _ _ (.inl q)⟩
 refine codeAny_call_function hr.depth (KX _ _ lk) rfl S.co S.gen rfl (PySem.W.codeRec_of KX hcd) (hb _ _ _ _ ?_)
 refine wpAny_newFunctionEnv_cells S.kind hkind fun env he s1 x=>?_
 subst he
 refine ⟨lim.keeps x.toInCall.keep,codeAny_func ?_⟩
 obtain ⟨t,ht,hq⟩:=hbody A outer s H vs Q E (hr.deeper _) hsp
 have I:Inv (cxOf CX P w K mg base N qual scope f cdv A outer s H E) [] (start N vs) H s1:=inv_start S hr.hd e0 hl r x
 refine wpAny_mono (ht [] s1 (start N vs) H _ I hq) (fun fl s' hs=>?_) fun e s' hs=>hs
 have fin:∀ {σ':St} {H':Hp} {v:V} {u:Value},Inv (cxOf CX P w K mg base N qual scope f cdv A outer s H E) [] σ' H' s'→RelV v u→Q v H'→CE outer P w H s Q u s' :=
  fun {σ' H' v u} J rv q=>⟨v,H',J.os,J.bare,J.base,J.hok,rv,q⟩
 cases fl with
 | ret u =>
  obtain ⟨v,σ',H',J,rv,q⟩:=hs
  exact fin J rv q
 | next =>
  obtain ⟨σ',H',J,q⟩:=hs
  exact fin (v:=V.non) (u:=Value.none) J rfl q
 | brk =>
  obtain ⟨_,_,_,q⟩:=hs
  exact False.elim q
 | cont =>
  obtain ⟨_,_,_,q⟩:=hs
  exact False.elim q
end L2
namespace L2
open PySem PySem.Spec PyProof.Rows
section
variable {X:Cx} {x:Str} {p pos:Pos} {e:Expr} {es:List Expr} {t:TA} {id T:String} {r:List V→Hp→VK→Prop}
def tCB (r:List V→Hp→VK→Prop) (t:TA):TE:=fun σ H Q=>t σ H fun vs H1=>r vs H1 Q
theorem pe_callB (hc:CallR X (.builtin id) r) (hg:Gl X x) (hm:X.mg x = none) (hv:bootBuiltins x = some (.builtin id)) (ha:PA X (e :: es) t) (hn:x≠"__name__":=by decide) (hdb:(x == ("__debug__":Str)) = false:=by decide)
  (he:starEach (e :: es) X.env = (false,eval e X.env) :: starEach es X.env:=by rfl) (hpl:(backTo pos (starEach es X.env)).any (·.1) = false:=by rfl):PE X (.Call (.Name x p) (e :: es) [] pos) (tCB r t):=by
 intro pins s σ H Q I h
 refine wpAny_Call_Name_kw (ld_blt I hg hm hv ?_ hn hdb)
 exact PyProof.Rows.callWith_builtin1 (thn (ha pos pins s σ H _ I h) fun us s1 ⟨vs,H1,I1,r1,q1⟩=>hc pins s1 σ H1 vs us Q I1 r1 q1) he hpl
theorem pe_callTy (hc:CallR X (.type T) r) (hg:Gl X x) (hm:X.mg x = none) (hv:bootBuiltins x = some (.type T)) (ha:PA X (e :: es) t) (hn:x≠"__name__":=by decide) (hdb:(x == ("__debug__":Str)) = false:=by decide)
  (he:starEach (e :: es) X.env = (false,eval e X.env) :: starEach es X.env:=by rfl) (hpl:(backTo pos (starEach es X.env)).any (·.1) = false:=by rfl):PE X (.Call (.Name x p) (e :: es) [] pos) (tCB r t):=by
 intro pins s σ H Q I h
 refine wpAny_Call_Name_kw (ld_blt I hg hm hv ?_ hn hdb)
 exact PyProof.Rows.callWith_type1 (thn (ha pos pins s σ H _ I h) fun us s1 ⟨vs,H1,I1,r1,q1⟩=>hc pins s1 σ H1 vs us Q I1 r1 q1) he hpl
end
end L2
namespace HT
open PySem PyProof.Rows
section
open PySem.SeqAt
open PySem.AutoSeq1 (wpAny_loadPart')
open PySem.MeetsSeq PySem.MeetsSeq2 PySem.MeetsSeq3
end
section
variable {prog:Program} {w:World} {A:Around} {E:Value→Shared→Prop} {s:Shared}
def sIx (n d:Nat):Option Int→Nat
 | none=>d
 | some v=>if v < 0 then (v + (n:Int)).toNat else min v.toNat n
theorem sIx_none (n d:Nat):sIx n d none = d:=rfl
theorem sIx_nat (n d k:Nat):sIx n d (some (k:Int)) = min k n:=by
 show (if (k:Int) < 0 then ((k:Int) + (n:Int)).toNat else min (k:Int).toNat n) = min k n
 rw [if_neg (by omega),Int.toNat_natCast]
end
end HT
namespace L2
open PySem PySem.Spec PyProof.Rows
abbrev TO:=St→Hp→(Option Int→Hp→Prop)→Prop
def PO (X:Cx) (e:Option Expr) (t:TO):Prop :=
 ∀ (pins:List (Addr×Obj)) (s:Shared) (σ:St) (H:Hp) (Q:Option Int→Hp→Prop),Inv X pins σ H s→t σ H Q →
  wpAny (model X.prog X.w) X.A (evalPart e X.env) (fun u s'=>∃ o H',Inv X pins σ H' s'∧IsPart u o∧Q o H') X.xe s
def tNoPart:TO:=fun _ H Q=>Q none H
def tPart (t:TE):TO:=fun σ H Q=>t σ H fun x H1=>∃ i,x = .int i∧Q (some i) H1
section
variable {X:Cx} {e:Expr} {te:TE} {lo hi:Option Expr} {tl th:TO} {pos p2:Pos}
theorem po_none:PO X none tNoPart:=by
 intro pins s σ H Q I h
 rw [evalPart_none]
 exact wpAny_pure ⟨none,H,I,.none,h⟩
theorem po_some (h:PE X e te):PO X (some e) (tPart te):=by
 intro pins s σ H Q I hw
 rw [evalPart_some]
 refine thn (h pins s σ H _ I hw) fun u s1 ⟨x,H1,I1,r1,q1⟩=>?_
 obtain ⟨i,rfl,q⟩:=q1
 obtain ⟨t,rfl⟩:=r1
 exact ⟨some i,H1,I1,.int i t,q⟩
def SlR (X:Cx) (r:V→Option Int→Option Int→Hp→VK→Prop):Prop :=
 ∀ (pins:List (Addr×Obj)) (s:Shared) (σ:St) (H:Hp) (x:V) (v vl vu:Value) (lo hi:Option Int) (sl:Addr) (Q:VK),Inv X pins σ H s→RelV x v→s.heap.IsSliceOf sl vl vu .none→IsPart vl lo→IsPart vu hi→r x lo hi H Q →
  ∃ T id,typeLookup (.type T) "__getitem__" = pure (some (.builtin id))∧s.TypeIs v T∧wpAny (model X.prog X.w) X.A (getItem v (.ref sl)) (EP X pins σ Q) X.xe s
def tSl (r:V→Option Int→Option Int→Hp→VK→Prop) (te:TE) (tl th:TO):TE:=fun σ H Q=>te σ H fun x H1=>tl σ H1 fun l H2=>th σ H2 fun u H3=>r x l u H3 Q
theorem pe_slice {r:V→Option Int→Option Int→Hp→VK→Prop} (hr:SlR X r) (he:PE X e te) (hl:PO X lo tl) (hu:PO X hi th):PE X (.Subscript e (.Slice lo hi none p2) pos) (tSl r te tl th):=by
 intro pins s σ H Q I h
 refine Subscript_ (thn (he pins s σ H _ I h) fun v s1 ⟨x,H1,I1,r1,q1⟩=>?_)
 refine wpAny_Slice (thn (hl pins s1 σ H1 _ I1 q1) fun vl s2 ⟨l,H2,I2,pl,q2⟩=>thn (hu pins s2 σ H2 _ I2 q2) fun vu s3 ⟨u,H3,I3,pu,q3⟩=>?_)
 rw [evalPart_none]
 refine wpAny_pure ?_
 have I4:Inv X pins σ H3 { s3 with heap:=s3.heap.push { cls:=.type "slice",data:=.fields #[vl,vu,.none] } }:=I3.kept (t':=s3.toks) fun b ob q=>Heap.get?_push_of_some _ q
 obtain ⟨T,id,hT,ht,hg⟩:=hr pins { s3 with heap:=s3.heap.push { cls:=.type "slice",data:=.fields #[vl,vu,.none] } } σ H3 x v vl vu l u s3.heap.objs.size Q I4 r1 (Heap.IsSliceOf.new ..) pl pu q3
 show wpAny (model X.prog X.w) X.A (subscriptTail e (.Slice lo hi none p2) v (.ref s3.heap.objs.size)) (EP X pins σ Q) X.xe { s3 with heap:=s3.heap.push { cls:=.type "slice",data:=.fields #[vl,vu,.none] } }
 exact tail_any (ops:=[.ref s3.heap.objs.size,v]) ht hT hg (by with_unfolding_all rfl)
def cutV (xs:List V) (lo hi:Option Int):List V:=(xs.drop (HT.sIx xs.length 0 lo)).take (HT.sIx xs.length xs.length hi - HT.sIx xs.length 0 lo)
theorem cutV_length (xs:List V) (lo hi:Option Int):(cutV xs lo hi).length≤xs.length:=by
 unfold cutV
 rw [List.length_take,List.length_drop]
 omega
end
end L2
namespace L2
open PySem PySem.Spec PyProof.Rows
def ixN (n:Nat) (i:Int):Option Nat:=if 0≤i then (if i < n then some i.toNat else none) else if -(n:Int)≤i then some (i + n).toNat else none
def atI {α:Type} (xs:List α) (i:Int):Option α:=(ixN xs.length i).bind fun j=>xs[j]?
theorem ixN_seq {n:Nat} {i:Int} {j:Nat} (h:ixN n i = some j):seqIndex? i n = some j∧j < n∧-(n:Int)≤i∧i < n:=by
 unfold ixN at h
 by_cases h0:0≤i
 ·rw [if_pos h0] at h
  by_cases h1:i < n
  ·rw [if_pos h1] at h
   have e:i.toNat = j:=Option.some.inj h
   exact ⟨by rw [seqIndex_of h0 h1,e],by omega,by omega,h1⟩
  ·rw [if_neg h1] at h; cases h
 ·rw [if_neg h0] at h
  by_cases h1:-(n:Int)≤i
  ·rw [if_pos h1] at h
   have e:(i + n).toNat = j:=Option.some.inj h
   exact ⟨by rw [seqIndex_neg (by omega) h1,e],by omega,h1,by omega⟩
  ·rw [if_neg h1] at h; cases h
theorem atI_get {α:Type} {xs:List α} {i:Int} {v:α} (h:atI xs i = some v):∃ j,seqIndex? i xs.length = some j∧xs[j]? = some v∧j < xs.length∧-(xs.length:Int)≤i∧i < xs.length:=by
 unfold atI at h
 cases e:ixN xs.length i with
 | none=>rw [e] at h; cases h
 | some j =>
  rw [e] at h
  obtain ⟨h1,h2,h3,h4⟩:=ixN_seq e
  exact ⟨j,h1,h,h2,h3,h4⟩
theorem atI_nat {α:Type} {xs:List α} {j:Nat} {v:α} (h:xs[j]? = some v):atI xs (j:Int) = some v:=by
 have hj:j < xs.length:=(List.getElem?_eq_some_iff.mp h).1
 have e:ixN xs.length (j:Int) = some j:=by
  unfold ixN
  rw [if_pos (by omega),if_pos (by omega)]; simp
 unfold atI; rw [e]; exact h
def PlainIx (b:Expr):Prop:=∀ o i,subscripted b false o i = operate [o,i] (getItem o i)
def IxR (X:Cx) (r:R2):Prop :=
 ∀ (value slice:Expr) (pins:List (Addr×Obj)) (s:Shared) (σ:St) (H:Hp) (x y:V) (v u:Value) (Q:VK),Inv X pins σ H s→RelV x v→RelV y u→r x y H Q →
  subscripted slice false v u = operate [v,u] (getItem v u)→wpAny (model X.prog X.w) X.A (subscriptTail value slice v u) (EP X pins σ Q) X.xe s
def MtR (X:Cx) (id:String) (r:V→List V→Hp→VK→Prop):Prop :=
 ∀ (pins:List (Addr×Obj)) (s:Shared) (σ:St) (H:Hp) (x:V) (xs:List V) (v:Value) (us:List Value) (Q:VK),Inv X pins σ H s→RelV x v→Vals xs us→r x xs H Q →
  wpAny (model X.prog X.w) X.A (call (.builtin id) (v :: us)) (EP X pins σ Q) X.xe s
section
variable {X:Cx} {a b:Expr} {ta tb:TE} {pos:Pos}
theorem IxR.or {r r':R2} (h:IxR X r) (h':IxR X r'):IxR X (fun x y H Q=>r x y H Q∨r' x y H Q):=by
 intro value slice pins s σ H x y v u Q I rx ry q hs
 rcases q with q | q
 ·exact h value slice pins s σ H x y v u Q I rx ry q hs
 ·exact h' value slice pins s σ H x y v u Q I rx ry q hs
theorem pe_ix {r:R2} (hr:IxR X r) (ha:PE X a ta) (hb:PE X b tb) (hs:PlainIx b):PE X (.Subscript a b pos) (tOp r ta tb):=by
 intro pins s σ H Q I h
 exact Subscript_ (binT ha hb I h fun v u s2 x y H2 I2 rx ry q=>hr a b pins s2 σ H2 x y v u Q I2 rx ry q (hs _ _))
def rIxL (K:PySem.W.Frag):R2:=fun x y H Q=>∃ p xs i v,x = .ref p∧y = .int i∧SqL K H p xs∧atI xs i = some v∧Q v H
def rIxT (K:PySem.W.Frag):R2:=fun x y H Q=>∃ p xs i v,x = .ref p∧y = .int i∧SqT K H p xs∧atI xs i = some v∧Q v H
def rIxS:R2:=fun x y H Q=>∃ z i c,x = .str z∧y = .int i∧z.length≤sizeLine∧atI z.cps.toList i = some c∧Q (.str ⟨#[c]⟩) H
theorem ix_list:IxR X (rIxL X.K):=by
 intro value slice pins s σ H x y v u Q I rx ry h hs
 obtain ⟨p,xs,i,z,rfl,rfl,hq,he,q⟩:=h
 cases rx
 obtain ⟨t,rfl⟩:=ry
 obtain ⟨its,r,pl,hz⟩:=I.list hq
 obtain ⟨j,h1,h2,h3,h4,h5⟩:=atI_get he
 obtain ⟨w,ew,rw'⟩:=r.get h2
 have hl:=r.length
 have hn:=line63
 have fin:EP X pins σ Q w s:=⟨z,H,I,rw',q⟩
 by_cases h0:0≤i
 ·have hj:i.toNat = j:=by
   rw [seqIndex_of h0 h5] at h1
   exact Option.some.inj h1
  exact item_listR pl.isList h0 (by omega) (by rw [hj]; simpa using ew) fin hs
 ·have hj:(i + (its.toArray.size:Int)).toNat = j:=by
   rw [seqIndex_neg (by omega) h4] at h1
   rw [List.size_toArray,← hl]
   exact Option.some.inj h1
  exact subscriptTail_builtinR (x:=w) pl.isList.typeIs slot_list_getitem.lookup
   (wpAny_getItem_list_neg (Q:=fun r s'=>r = w∧EP X pins σ Q r s') pl.isList (by omega) (by rw [List.size_toArray] <;> omega) (by omega) (by rw [hj]; simpa using ew) ⟨rfl,fin⟩) hs
theorem ix_tup:IxR X (rIxT X.K):=by
 intro value slice pins s σ H x y v u Q I rx ry h hs
 obtain ⟨p,xs,i,z,rfl,rfl,hq,he,q⟩:=h
 cases rx
 obtain ⟨t,rfl⟩:=ry
 obtain ⟨its,r,pl,hz⟩:=I.tuple hq
 obtain ⟨j,h1,h2,h3,h4,h5⟩:=atI_get he
 obtain ⟨w,ew,rw'⟩:=r.get h2
 have hl:=r.length
 have hn:=line63
 have fin:EP X pins σ Q w s:=⟨z,H,I,rw',q⟩
 exact subscriptTail_builtinR (x:=w) pl.typeIs slot_tuple_getitem.lookup
  (getItem_tuple (j:=j) (Q:=fun r s'=>r = w∧EP X pins σ Q r s') pl (by omega) (by omega) (by rw [List.size_toArray,← hl]; exact h1) (by simpa using ew) ⟨rfl,fin⟩) hs
theorem ix_str:IxR X rIxS:=by
 intro value slice pins s σ H x y v u Q I rx ry h hs
 obtain ⟨z,i,c,rfl,rfl,hz,he,q⟩:=h
 obtain ⟨t,rfl⟩:=rx
 obtain ⟨t',rfl⟩:=ry
 obtain ⟨j,h1,h2,h3,h4,h5⟩:=atI_get he
 have hl:z.cps.toList.length = z.length:=by simp [Str.length]
 rw [hl] at h1 h4 h5
 have hn:=line63
 exact tail_any (typeIs_str s z t) slot_str_getitem.lookup (getItem_str (c:=c) (by
  have e1:decide (i < -(2 ^ 63:Int)) = false:=decide_eq_false (by omega)
  have e2:decide (i ≥ 2 ^ 63) = false:=decide_eq_false (by omega)
  rw [e1,e2,Bool.or_false]) (by rw [h1]; simpa using h2) ⟨.str ⟨#[c]⟩,H,I.tok _,⟨_,rfl⟩,q⟩) hs
def rIx (K:PySem.W.Frag):R2:=fun x y H Q=>rIxL K x y H Q∨rIxT K x y H Q∨rIxS x y H Q
theorem ix_seq:IxR X (rIx X.K):=ix_list.or (ix_tup.or ix_str)
theorem slice_bounds (lo hi:Option Int) (n:Nat):(sliceBounds lo hi none n).1 = ((HT.sIx n 0 lo:Nat):Int)∧(sliceBounds lo hi none n).2.1 = ((HT.sIx n n hi:Nat):Int)∧(sliceBounds lo hi none n).2.2 = 1:=by
 refine ⟨?_,?_,rfl⟩
 ·cases lo with
  | none=>simp [sliceBounds,HT.sIx]
  | some i =>
   simp only [sliceBounds,HT.sIx,Option.getD_none,show (1:Int) > 0 by decide,if_true]
   by_cases h:i < 0
   ·simp only [h,if_true] <;> omega
   ·simp only [h,if_false] <;> omega
 ·cases hi with
  | none=>simp [sliceBounds,HT.sIx]
  | some i =>
   simp only [sliceBounds,HT.sIx,Option.getD_none,show (1:Int) > 0 by decide,if_true]
   by_cases h:i < 0
   ·simp only [h,if_true] <;> omega
   ·simp only [h,if_false] <;> omega
theorem slicePick_cut (its:List Value) (lo hi:Option Int):slicePick its.toArray lo hi none = ((its.drop (HT.sIx its.length 0 lo)).take (HT.sIx its.length its.length hi - HT.sIx its.length 0 lo)).toArray:=by
 obtain ⟨h1,h2,h3⟩:=slice_bounds lo hi its.toArray.size
 unfold slicePick
 rw [h1,h2,h3]
 simp only [sliceRange_one,pick_run,List.size_toArray] <;> rfl
def rSlL (K:PySem.W.Frag):V→Option Int→Option Int→Hp→VK→Prop:=fun x lo hi H Q=>∃ a xs,x = .ref a∧SqL K H a xs∧∀ p,H p = none→Q (.ref p) (upd H p (.lst (cutV xs lo hi)))
theorem sl_list:SlR X (rSlL X.K):=by
 intro pins s σ H x v vl vu lo hi sl Q I rx hs pl pu h
 obtain ⟨a,xs,rfl,hx,q⟩:=h
 cases rx
 obtain ⟨its,r,ht,hz⟩:=I.list hx
 have hlen:=r.length
 refine ⟨"list",_,slot_list_getitem.lookup,ht.isList.typeIs,?_⟩
 refine wpAny_getItem_list_slice ht.isList hs pl pu .none (by simp) ?_ (by rw [List.size_toArray] <;> omega)
 rw [slicePick_cut,← hlen]
 refine ⟨.ref s.heap.objs.size,_,I.laid (t':=s.toks) (o:=.lst (cutV xs lo hi)) (fun b ob q=>Heap.get?_push_of_some _ q) (Nat.le_refl _) ?_,rfl,q _ (I.hok.fresh (Nat.le_refl _))⟩
 exact ⟨Nat.le_trans (cutV_length xs lo hi) hz,_,0,(r.drop (HT.sIx xs.length 0 lo)).take (HT.sIx xs.length xs.length hi - HT.sIx xs.length 0 lo),Heap.get?_push_size _ rfl⟩
theorem call_len_seq:CallR X (.builtin "len") (fun xs H Q=>∃ p ys,xs = [.ref p]∧(SqL X.K H p ys∨SqT X.K H p ys)∧Q (.int ys.length) H):=by
 intro pins s σ H xs us Q I r h
 obtain ⟨p,ys,rfl,hq,q⟩:=h
 obtain ⟨u,rfl,rx⟩:=vals1 r
 cases rx
 have hn:=line63
 rcases hq with hq | hq
 ·obtain ⟨its,r',pl,hz⟩:=I.list hq
  have hlen:=r'.length
  exact Calls.call_len_list pl.isList (by simp only [List.size_toArray] <;> omega) ⟨.int ys.length,H,I.tok _,⟨s.toks + 1,by rw [List.size_toArray,hlen]⟩,q⟩
 ·obtain ⟨its,r',pl,hz⟩:=I.tuple hq
  have hlen:=r'.length
  exact len_tuple pl (by simp only [List.size_toArray] <;> omega) ⟨.int ys.length,H,I.tok _,⟨s.toks + 1,by rw [List.size_toArray,hlen]⟩,q⟩
theorem call_list_of:CallR X (.type "list") (fun xs H Q=>∃ p ys,xs = [.ref p]∧(SqL X.K H p ys∨SqT X.K H p ys)∧∀ l,H l = none→Q (.ref l) (upd H l (.lst ys))):=by
 intro pins s σ H xs us Q I r h
 obtain ⟨p,ys,rfl,hq,q⟩:=h
 obtain ⟨u,rfl,rx⟩:=vals1 r
 cases rx
 have fin:∀ (its:List Value),Vals ys its→ys.length≤sizeLine→∀ (h':Heap) (c':Nat),(∀ b o',s.heap.get? b = some o'→h'.get? b = some o') →
   h'.get? s.heap.objs.size = some { cls:=.type "list",dict:=none,data:=.seq its.toArray c',slots:=#[] }→EP X pins σ Q (.ref s.heap.objs.size) { s with heap:=h' }:=fun its r' hz h' c' kp e =>
  ⟨.ref s.heap.objs.size,_,I.laid (t':=s.toks) kp (Nat.le_refl _) (show ObjOk X.prog X.w _ h' _ (.lst ys) from ⟨hz,its,c',r',e⟩),rfl,q _ (I.hok.fresh (Nat.le_refl _))⟩
 rcases hq with hq | hq
 ·obtain ⟨its,r',pl,hz⟩:=I.list hq
  have hlen:=r'.length
  obtain ⟨o,ho,hc,n,hd⟩:=pl.isList
  exact call_list_seq p (.inl rfl) ho hc hd (fun h' c' kp e=>fin its r' hz h' c' kp e) (by simp only [List.size_toArray] <;> omega)
 ·obtain ⟨its,r',pl,hz⟩:=I.tuple hq
  have hlen:=r'.length
  obtain ⟨o,ho,hc,n,hd⟩:=pl
  exact call_list_seq p (.inr rfl) ho hc hd (fun h' c' kp e=>fin its r' hz h' c' kp e) (by simp only [List.size_toArray] <;> omega)
theorem call_tuple_of:CallR X (.type "tuple") (fun xs H Q=>∃ p ys,xs = [.ref p]∧((SqL X.K H p ys∧∀ l,H l = none→Q (.ref l) (upd H l (.tup ys)))∨(SqT X.K H p ys∧Q (.ref p) H))):=by
 intro pins s σ H xs us Q I r h
 obtain ⟨p,ys,rfl,h⟩:=h
 obtain ⟨u,rfl,rx⟩:=vals1 r
 cases rx
 rcases h with ⟨hq,q⟩ | ⟨hq,q⟩
 ·obtain ⟨its,r',pl,hz⟩:=I.list hq
  have hlen:=r'.length
  refine call_tuple_list pl.isList (fun h' kp=>?_) (by simp only [List.size_toArray] <;> omega)
  have I1:Inv X pins σ H { s with heap:=h' }:=I.kept (t':=s.toks) kp
  have I2:Inv X pins σ (upd H h'.objs.size (.tup ys)) { s with heap:=h'.push { cls:=.type "tuple",data:=.seq its.toArray } } :=
   I1.laid (t':=s.toks) (fun b o e=>Heap.get?_push_of_some _ e) (Nat.le_refl _) (show ObjOk X.prog X.w _ _ _ (.tup ys) from ⟨hz,its,r',IsTup.new _ _⟩)
  exact ⟨.ref h'.objs.size,_,I2,rfl,q _ (I1.hok.fresh (Nat.le_refl _))⟩
 ·obtain ⟨its,r',pl,hz⟩:=I.tuple hq
  exact call_tuple_same pl ⟨.ref p,H,I,rfl,q⟩
def tyV (K:PySem.W.Frag) (T:String) (x:V) (H:Hp):Prop:=match x with
 | .str _=>T = "str"
 | .int _=>T = "int"
 | .ref p=>(T = "list"∧∃ xs,SqL K H p xs)∨(T = "tuple"∧∃ o,K.lookup p = some o∧o.cls = .type "tuple"∧o.dict = none) ∨
   (T = "dict"∧((∃ kvs,H p = some (.dK kvs))∨∃ kvs,H p = some (.dT kvs)))∨(T = "set"∧∃ S n,H p = some (.set S n))
 | _=>False
theorem tyV_is {pins:List (Addr×Obj)} {σ:St} {H:Hp} {s:Shared} {T:String} {x:V} {v:Value} (I:Inv X pins σ H s) (r:RelV x v) (ty:tyV X.K T x H) :
  s.TypeIs v T∧∀ a,v = .ref a→∃ ob,s.heap.get? a = some ob∧ob.dict = none:=by
 cases x with
 | str z =>
  obtain ⟨t,rfl⟩:=r
  cases (show T = "str" from ty)
  exact ⟨typeIs_str s z t,fun _ e=>nomatch e⟩
 | int i =>
  obtain ⟨t,rfl⟩:=r
  cases (show T = "int" from ty)
  exact ⟨typeIs_int s i t,fun _ e=>nomatch e⟩
 | ref p =>
  cases r
  rcases ty with ⟨rfl,xs,hq⟩ | ⟨rfl,o,hk,hc,hd⟩ | ⟨rfl,hk⟩ | ⟨rfl,S,n,hk⟩
  ·obtain ⟨its,_,pl,_⟩:=I.list hq
   refine ⟨pl.isList.typeIs,fun a e=>?_⟩
   cases e
   obtain ⟨o,n,e,c,hd,_⟩:=pl
   exact ⟨o,e,hd⟩
  ·refine ⟨⟨o,I.kIn p o hk,hc⟩,fun a e=>?_⟩
   cases e
   exact ⟨o,I.kIn _ o hk,hd⟩
  ·have z:∃ o,s.heap.get? p = some o∧o.ExactDict:=by
    rcases hk with ⟨kvs,hk⟩ | ⟨kvs,hk⟩
    ·obtain ⟨_,_,_,_,o,_,_,e,ex,_⟩:=I.hok p _ hk
     exact ⟨o,e,ex⟩
    ·obtain ⟨_,_,_,_,o,_,_,e,ex,_⟩:=I.hok p _ hk
     exact ⟨o,e,ex⟩
   obtain ⟨o,e,ex⟩:=z
   refine ⟨⟨o,e,ex.1⟩,fun a e2=>?_⟩
   cases e2
   exact ⟨o,e,ex.2.1⟩
  ·obtain ⟨o,_,_,_,e,ex,_⟩:=I.hok p _ hk
   refine ⟨⟨o,e,ex.1⟩,fun a e2=>?_⟩
   cases e2
   exact ⟨o,e,ex.2.1⟩
 | _=>exact False.elim ty
def tBM (K:PySem.W.Frag) (T:String) (r:V→List V→Hp→VK→Prop) (to:TE) (t:TA):TE:=fun σ H Q=>to σ H fun x H1=>tyV K T x H1∧t σ H1 fun xs H2=>r x xs H2 Q
variable {o e:Expr} {es:List Expr} {to:TE} {t:TA} {name:Str} {apos cpos:Pos} {T id:String} {r:V→List V→Hp→VK→Prop}
theorem pe_bm (pa:PlainAttrs T) (slot:Slot T name id) (hty:typeOf (.builtin id) = pure (.type "method_descriptor")) (hm:MtR X id r) (ho:PE X o to) (ha:PA X (e :: es) t)
  (hbase:attributeBase o name X.env (eval o X.env) = eval o X.env:=by rfl)
  (hfew:((backTo cpos (starEach (e :: es) X.env)).all (fun x=>!x.1) && (backToKw cpos (keywordEach [] X.env)).all (fun x=>x.1.isSome)
   && decide ((e :: es).length + ([]:List Keyword).length + (if ([]:List Keyword).isEmpty then 0 else 1) < 30)) = true:=by rfl)
  (hline:(apos.endLine == cpos.line) = true:=by rfl) (hs:starEach (e :: es) X.env = (false,eval e X.env) :: starEach es X.env:=by rfl) (hplain:(backTo cpos (starEach es X.env)).any (·.1) = false:=by rfl) :
  PE X (.Call (.Attribute o name apos) (e :: es) [] cpos) (tBM X.K T r to t):=by
 intro pins s σ H Q I h
 refine wpAny_Call_method_late hbase hfew hline rfl (thn (ho pins s σ H _ I h) fun v s1 ⟨x,H1,I1,r1,ty,q1⟩=>?_)
 obtain ⟨h1,h2⟩:=tyV_is I1 r1 ty
 refine ⟨T,id,pa,slot,hty,h1,h2,?_⟩
 have hA:=ha cpos pins s1 σ H1 _ I1 q1
 rw [hs] at hA ⊢
 refine Calls.callWith_builtin (by show (false || (backTo cpos (starEach es X.env)).any (·.1)) = false; rw [hplain] <;> rfl) (Calls.evalArgs_plain ?_)
 exact thn hA fun us s2 ⟨vs,H2,I2,r2,q2⟩=>hm pins s2 σ H2 x vs v us Q I2 r1 r2 q2
/- xs.append(e),list.index on a module's tuple .. are MtR facts of 06m -/
end
end L2
namespace L2
open PySem PySem.Spec PyProof.Rows
def MtM (X:Cx) (id:String) (r:V→List V→Hp→VK→Prop):Prop :=
 ∀ (pins:List (Addr×Obj)) (s:Shared) (σ:St) (H:Hp) (x:V) (xs:List V) (v:Value) (us:List Value) (Q:VK),Inv X pins σ H s→RelV x v→Vals xs us→r x xs H Q →
  wpAny (model X.prog X.w) X.A (call (.builtin id) (v :: us)) (EP X pins σ Q) X.xe s
theorem Vals.one:∀ {x:V} {us:List Value},Vals [x] us→∃ u,us = [u]∧RelV x u
 | _,_,.cons r .nil=>⟨_,rfl,r⟩
section
variable {X:Cx} {pins:List (Addr×Obj)} {σ:St} {H:Hp} {s:Shared} {l b:Addr} {xs ys zs:List V}
theorem Inv.lset {its its':List Value} {n:Nat} {f:Array Value→Array Value} {t':Nat} (I:Inv X pins σ H s) (hH:H l = some (.lst xs))
  (e:s.heap.get? l = some { cls:=.type "list",data:=.seq its.toArray n }) (hf:f its.toArray = its'.toArray) (hv:Vals ys its') (hz:ys.length≤sizeLine) :
  Inv X pins σ (upd H l (.lst ys)) { s with heap:=s.heap.update l (Obj.mapSeq f),toks:=t' }:=by
 have q:=PySem.IsL.update e f
 rw [hf] at q
 refine I.write (x:=l) (e:=l) (by rw [hH]; exact trivial) (.inl rfl) (fun b' u hb hu=>(Heap.get?_update_other s.heap (Obj.mapSeq f) (Ne.symm hb)).trans hu) ⟨_,q⟩ ?_
 exact ⟨hz,its',_,hv,q⟩
theorem Inv.lnew {its:List Value} {t':Nat} (I:Inv X pins σ H s) (hv:Vals ys its) (hz:ys.length≤sizeLine) :
  Inv X pins σ (upd H s.heap.objs.size (.lst ys)) { s with heap:=s.heap.push { cls:=.type "list",data:=.seq its.toArray },toks:=t' } :=
 I.laid (fun _ _ q=>Heap.get?_push_of_some _ q) (Nat.le_refl _) ⟨hz,its,0,hv,Heap.get?_push_size _ rfl⟩
theorem Inv.fresh (I:Inv X pins σ H s):H s.heap.objs.size = none:=I.hok.fresh (Nat.le_refl _)
theorem Inv.lstM (I:Inv X pins σ H s) (hH:H l = some (.lst xs)):xs.length≤sizeLine∧∃ (its:List Value) (n:Nat),Vals xs its∧xs.length = its.length∧s.heap.get? l = some { cls:=.type "list",data:=.seq its.toArray n }:=by
 obtain ⟨z,its,n,r,e⟩:=I.hok l _ hH
 exact ⟨z,its,n,r,r.length,e⟩
theorem notLongL {n:Nat} (h:n≤sizeLine):Builtin.List.listTooLong n = false:=by
 unfold Builtin.List.listTooLong
 exact decide_eq_false (by omega)
end
section
variable {X:Cx}
def rAppend:V→List V→Hp→VK→Prop:=fun x vs H Q=>∃ l xs y,x = .ref l∧vs = [y]∧H l = some (.lst xs)∧xs.length < sizeLine∧Q .non (upd H l (.lst (xs ++ [y])))
theorem mt_append:MtM X "list.append" rAppend:=by
 intro pins s σ H x vs v us Q I rx rv h
 obtain ⟨l,xs,y,rfl,rfl,hH,hz,q⟩:=h
 cases rx
 obtain ⟨u,rfl,ru⟩:=rv.one
 obtain ⟨z,its,n,r,hl,e⟩:=I.lstM hH
 refine call_meets F.slot_list_append ⟨_,e,rfl⟩ F.entry_list_append (F.args_list_append_2 _ _) (PySem.list_append l its.toArray n u (by rw [List.size_toArray]; omega)) ⟨e,?_⟩
 refine ⟨.non,_,I.lset (its':=its ++ [u]) hH e (by simp) (r.append (.cons ru .nil)) ?_,rfl,q⟩
 rw [List.length_append,List.length_singleton]
 omega
def rExtend:V→List V→Hp→VK→Prop:=fun x vs H Q=>∃ l b xs zs,x = .ref l∧vs = [.ref b]∧H l = some (.lst xs)∧H b = some (.lst zs)∧xs.length + zs.length≤sizeLine∧Q .non (upd H l (.lst (xs ++ zs)))
theorem mt_extend:MtM X "list.extend" rExtend:=by
 intro pins s σ H x vs v us Q I rx rv h
 obtain ⟨l,b,xs,zs,rfl,rfl,hH,hB,hz,q⟩:=h
 cases rx
 obtain ⟨u,rfl,ru⟩:=rv.one
 cases ru
 obtain ⟨z,its,n,r,hl,e⟩:=I.lstM hH
 obtain ⟨z2,its2,n2,r2,hl2,e2⟩:=I.lstM hB
 have hsz:its.toArray.size + its2.toArray.size≤sizeLine:=by rw [List.size_toArray,List.size_toArray]; omega
 have hlong:¬ (!its.toArray.isEmpty && Builtin.List.listTooLong (its.toArray.size + its2.toArray.size)) = true:=by
  rw [notLongL hsz,Bool.and_false]
  exact Bool.false_ne_true
 refine call_meets F.slot_list_extend ⟨_,e,rfl⟩ F.entry_list_extend (F.args_list_extend_2 _ _)
  (AutoSeq1.list_extend_list_list_0 l its.toArray n b its2.toArray n2 hlong (by rw [List.size_toArray]; omega) (by omega)) ⟨e,e2,?_⟩
 refine ⟨.non,_,I.lset (its':=its ++ its2) hH e (by simp) (r.append r2) ?_,rfl,q⟩
 rw [List.length_append]
 omega
def rCat:R2:=fun x y H Q=>∃ l b xs zs,x = .ref l∧y = .ref b∧H l = some (.lst xs)∧H b = some (.lst zs)∧xs.length + zs.length≤sizeLine∧∀ p,H p = none→Q (.ref p) (upd H p (.lst (xs ++ zs)))
theorem op_cat:OpR X (binaryOp .Add) rCat:=by
 intro pins s σ H x y v u Q I rx ry h
 obtain ⟨l,b,xs,zs,rfl,rfl,hH,hB,hz,q⟩:=h
 cases rx
 cases ry
 obtain ⟨z,its,n,r,hl,e⟩:=I.lstM hH
 obtain ⟨z2,its2,n2,r2,hl2,e2⟩:=I.lstM hB
 refine PySem.P.add_list e e2 ?_ (by rw [List.size_toArray,List.size_toArray]; omega)
 have ea:its.toArray ++ its2.toArray = (its ++ its2).toArray:=by simp
 rw [ea]
 exact ⟨.ref _,_,I.lnew (t':=s.toks) (r.append r2) (by rw [List.length_append]; omega),rfl,q _ I.fresh⟩
end
section
variable {prog:Program} {w:World} {A:Around} {E:Value→Shared→Prop} {s:Shared}
end
section
variable {X:Cx}
end
end L2
namespace Att
open PySem PySem.W PySem.Calls PyProof.Rows
theorem ints_of_wellAll {P:Params} {h:Heap}:∀ (ns:List Int) (vs:List Value),WellAll P h vs (ns.map WData.int)→IntsAre vs ns:=by
 intro ns
 induction ns with
 | nil =>
  intro vs w
  rw [List.map_nil] at w
  cases w
  exact .nil
 | cons n ns ih =>
  intro vs w
  rw [List.map_cons] at w
  cases w with
  | cons a b =>
   cases a
   exact .cons _ _ (ih _ b)
theorem script_of {l:OpenLaw} {n:Nat} (hn:l.most = some n) {P:Params} {h:Heap} {args:List WData} {vals:List Value}
  (hpre:l.row.toRowW.claim.pre args = true) (hwl:WellAll P h vals args) :
  ∃ a vs ns,vals = [Value.ref a]∧args = [WData.list (ns.map WData.int)]∧h.get? a = some { cls:=.type "list",data:=.seq vs.toArray }∧IntsAre vs ns∧ns.length≤n:=by
 have hsh:WShape.hasAll [] args [.list .int] = true:=(pre_splitW hpre).1
 have hc:l.pre.holds [] { args:=args } = true:=(pre_splitW hpre).2
 obtain ⟨d,r,rfl,h1,h2⟩:=hasAllW_cons hsh
 obtain rfl:=hasAllW_nil h2
 obtain ⟨xs,rfl,h3⟩:=hasW_list h1
 obtain ⟨ns,rfl⟩:=items_int h3
 have hlen:ns.length≤n:=by
  unfold OpenLaw.pre at hc
  have h4:(WTm.not (.lt (.lit (.int (n:Int))) (.len (.arg 0)))).holds [] { args:=[.list (ns.map .int)] } = true:=by
   have h4:=(holds_andW hc).1
   rw [hn] at h4
   exact h4
  have h5:=condW_of h4 (w_not (w_lt w_lit (w_len_list (w_arg rfl))))
  rw [List.length_map] at h5
  refine Nat.le_of_not_lt fun q=>?_
  have q':(n:Int) < ((ns.length:Nat):Int):=by omega
  first
   | (rw [decide_eq_true q'] at h5; exact absurd h5 (by decide))
   | (simp at h5; omega)
 cases hwl with
 | cons w1 w2 =>
  cases w2
  cases w1 with
  | list ho hall=>exact ⟨_,_,ns,rfl,rfl,ho,ints_of_wellAll ns _ hall,hlen⟩
theorem post_true (l:OpenLaw) (args:List WData):l.row.toRowW.claim.post args (.bool true) args = true :=
 postW_of (r:=l.row.toRowW) (X:=(true == true))
  (show WShape.has [] (.bool true) .bool = true by first | rfl | decide | simp [WShape.has,WShape.arms,WShape.armsAll])
  (show (WTm.eq .res (.lit (.bool true))).value [] { args:=args,res:=some (.bool true),after:=args } = some (.bool (true == true)) from w_eq_bool (w_res rfl) w_lit) rfl
theorem attach_call {l:OpenLaw} {n:Nat} {q:Program} {loose:List Str} {XP:(Str→Option Value)→Heap→Prop} {YP:World→Heap→Prop} {d:DefRec}
  (hn:l.most = some n) (hdf:d.params.defaults = [])
  (call:∀ (w:World) (s₀ s₁:Shared) (mg mb:Str→Option Value) (fa:Addr) (o:Obj) (pm cd doc:Value) (a:Addr) (vs:List Value) (ns:List Int),
   Ground q loose [] XP w s₀ mg mb s₁.heap→YP w s₁.heap →
   s₁.heap.get? fa = some o→o.data = .func (docDef d.name d.params d.body d.scope pm cd doc)→s₁.heap.CodeRec cd d.name→mg d.name = some (.ref fa) →
   s₁.heap.get? a = some { cls:=.type "list",data:=.seq vs.toArray }→IntsAre vs ns→ns.length≤n→s₁.gens = #[] →
   codeAny (model l.prog w) callerA (.call (.ref fa) ⟨[.ref a],[]⟩) (fun r s'=>r = .ok (.ret (.bool true))∧OldK s₁.heap s'.heap∧s'.os = s₁.os∧AllBare s'.gens) s₁) :
  WalkO q loose XP YP l.row.toRowW d [] (fun f vs=>PySem.call f vs):=by
 intro w s₀ s₁ mg mb G Y fa o pm cd doc dV kV ho hd hcd hD hmg hg args vals as hpre hlay hrd hwl hlo
 obtain rfl:dV = .none:=Dflts.none hD hdf
 obtain rfl:kV = .none:=Dflts.noKw hD
 obtain ⟨a,vs,ns,rfl,rfl,hobj,hints,hlen⟩:=script_of hn hpre hwl
 refine enter_call (codeAny_mono (call w s₀ s₁ mg mb fa o pm cd doc a vs ns G Y ho (fd_plain hd) hcd hmg hobj hints hlen hg) fun r s' hq=>?_)
 obtain ⟨rfl,h2,h3,h4⟩:=hq
 exact ⟨.inl ⟨.bool true,.bool true,[],rfl,fun _=>rfl,.bool true,post_true l _,fun _=>⟨List.Pairwise.nil,fun _ hm=>(nomatch hm)⟩⟩,h2,h3,h4⟩
section
variable {prog:Program} {w:World} {A:Around} {E:Value→Shared→Prop} {s:Shared} {K:Frag}
end
end Att
namespace L2
open PySem PySem.Spec PyProof.Rows
theorem vals_ints:∀ {vs:List Value} {ns:List Int},IntsAre vs ns→Vals (ns.map V.int) vs
 | _,_,.nil=>.nil
 | _,_,.cons n t h=>.cons ⟨t,rfl⟩ (vals_ints h)
def Only (H:Hp):Prop:=∀ b,H b = none∨∃ o xs,H b = some (.frz o (.lst xs))
theorem law_call {P:Program} {w:World} {K:PySem.W.Frag} {mg mb:Str→Option Value} {CX:CXT} {k:Nat} {fa a:Addr} {fd:FuncData} {x:Str} {sp:Sp} {s₁:Shared} {vs:List Value} {ns:List Int}
  (KX:K.In s₁.heap) (hns:s₁.heap.Ns mainGlobals mg) (hb:s₁.heap.Ns builtinsNs mb) (hbb:∀ x:Str,x≠"__name__"→mb x = bootBuiltins x) (hlim:s₁.heap.NoLimit) (hg:s₁.gens = #[])
  (ha:s₁.heap.get? a = some { cls:=.type "list",data:=.seq vs.toArray }) (hi:IntsAre vs ns) (hl:ns.length≤sizeLine) (hr:Room k callerA)
  (F:∀ base:Heap,K.In base→base.Ns mainGlobals mg→FnOk P w K mg base CX k fa fd [x] sp) (hbind:∀ (s:Shared) (u:Value),BindsTo s fd ⟨[u],[]⟩ [(x,u)])
  (hsp:∀ H:Hp,Only H→SqL K H a (ns.map V.int)→sp [.ref a] H (fun v _=>v = .bl true) fun _ _ _=>False)
  (hCX:∀ H e s',CX [] H s₁ (fun _ _ _=>False) e s'→False) :
  codeAny (model P w) callerA (.call (.ref fa) ⟨[.ref a],[]⟩) (fun r s'=>r = .ok (.ret (.bool true))∧OldK s₁.heap s'.heap∧s'.os = s₁.os∧AllBare s'.gens) s₁:=by
 have rv:=vals_ints hi
 have lenV:=hi.length
 have core:∀ H:Hp,Only H→SqL K H a (ns.map V.int)→HOk P w H s₁.heap→(∀ b,H b≠none→b = a)→(H a≠none→K.lookup a = none) →
   codeAny (model P w) callerA (.call (.ref fa) ⟨[.ref a],[]⟩) (fun r s'=>r = .ok (.ret (.bool true))∧OldK s₁.heap s'.heap∧s'.os = s₁.os∧AllBare s'.gens) s₁:=by
  intro H hO hS hok hA hK
  have base_of:∀ {b:Addr} {o:Obj},s₁.heap.get? b = some o→H b = none→(hidT s₁.heap H).get? b = some o:=fun e n=>hidT_get e n
  have noA:∀ {b:Addr} {o:Obj} {es:Array DictEntry} {ep:Nat},s₁.heap.get? b = some o→o.data = .dict es ep→H b = none:=fun {b o es ep} e d=>by
   cases q:H b with
   | none=>rfl
   | some u =>
    have e':b = a:=hA b (by rw [q]; simp)
    subst e'
    rw [ha] at e; cases e
    have d':Data.seq vs.toArray _ = Data.dict es ep:=d
    cases d'
  have nsK:∀ {b:Addr} {m:Str→Option Value},s₁.heap.Ns b m→(hidT s₁.heap H).Ns b m:=fun {b m} ⟨o,es,ep,e,d,r⟩=>⟨o,es,ep,base_of e (noA e d),d,r⟩
  have hKb:K.In (hidT s₁.heap H):=fun b o e=>base_of (KX b o e) (by
   cases q:H b with
   | none=>rfl
   | some u =>
    have e':b = a:=hA b (by rw [q]; simp)
    subst e'
    rw [hK (by rw [q]; simp)] at e; cases e)
  have hM:Mod K mg (hidT s₁.heap H):=⟨hKb,nsK hns,⟨mb,nsK hb,hbb⟩,let ⟨mc,h1,h2⟩:=hlim; ⟨mc,nsK h1,h2⟩⟩
  have e0:Env0 P w K mg (hidT s₁.heap H) callerA [] s₁ H:=⟨rfl,hM,fun b o e=>of_hidT e,Nat.le_of_eq (hidT_size _ _),trivial,fun b hb=>absurd (show b∈([]:List Addr) from hb) (by simp),hok,.of_eq hg⟩
  refine codeAny_mono ((F _ hKb (nsK hns)).run callerA [] s₁ H ⟨[.ref a],[]⟩ [.ref a] [.ref a] _ _ hr e0 (hbind s₁ (.ref a)) (.cons rfl .nil) (hsp H hO hS)) fun r s' h=>?_
  cases r with
  | error e=>exact (hCX H e s' h).elim
  | ok fl =>
   cases fl with
   | next=>exact False.elim h
   | brk=>exact False.elim h
   | cont=>exact False.elim h
   | ret u =>
    obtain ⟨v,H',os,bare,un,hok',r',q⟩:=h
    have q':v = .bl true:=q
    subst q'
    obtain rfl:u = Value.bool true:=r'
    refine ⟨rfl,OldK.of_keep fun b o e=>?_,os,bare⟩
    cases q:H b with
    | none=>exact un.keep b o e q (by intro z; exact absurd (show b∈([]:List Addr) from z) (by simp)) (by simp)
    | some u =>
     rcases hO b with z | ⟨ob,xs,z⟩
     ·rw [q] at z; cases z
     ·have z2:=un.frzs b ob _ z
      obtain ⟨e1,_⟩:=hok b _ z
      obtain ⟨e2,_⟩:=hok' b _ z2
      rw [e] at e1; cases e1
      exact e2
 cases hk:K.lookup a with
 | some o =>
  have e:=KX a o hk
  rw [ha] at e
  cases e
  refine core (fun _=>none) (fun _=>.inl rfl) (.inr ⟨_,vs.toArray,_,hk,rfl,rfl,rfl,by rw [List.size_toArray,lenV]; exact hl,by simpa using rv⟩) (fun b u z=>by have z':(none:Option HO) = some u:=z; cases z') (fun b z=>absurd rfl z) fun z=>absurd rfl z
 | none =>
  refine core (fun b=>if b = a then some (.frz { cls:=.type "list",data:=.seq vs.toArray } (.lst (ns.map V.int))) else none) (fun b=>?_) (.inl (.inr ⟨{ cls:=.type "list",data:=.seq vs.toArray },if_pos rfl⟩)) (fun b u z=>?_) (fun b z=>?_) fun _=>hk
  ·by_cases hb:b = a
   ·exact .inr ⟨_,_,if_pos hb⟩
   ·exact .inl (if_neg hb)
  ·by_cases hb:b = a
   ·have z':=(if_pos hb).symm.trans z
    cases z'
    subst hb
    exact ⟨ha,by rw [List.length_map]; exact hl,vs,_,rv,ha⟩
   ·have z':=(if_neg hb).symm.trans z
    cases z'
  ·by_cases hb:b = a
   ·exact hb
   ·exact absurd (if_neg hb) z
end L2
namespace L2
open PySem PySem.Spec PyProof.Rows
theorem walk_of {l:PySem.W.OpenLaw} {n k:Nat} {q:Program} {loose:List Str} {XP:(Str→Option Value)→Heap→Prop} {YP:World→Heap→Prop} {d:DefRec} {K:Params→PySem.W.Frag} {CX:World→CXT} {sp:World→Sp} {x:Str}
  (hn:l.most = some n) (hn2:n≤sizeLine) (hdf:d.params.defaults = []) (hr:Room k callerA)
  (hY:∀ (w:World) (h:Heap),YP w h→(K w.params).In h)
  (F:∀ (w:World) (mg:Str→Option Value) (fa:Addr) (h:Heap),(K w.params).In h→h.Ns mainGlobals mg→mg d.name = some (.ref fa) →
   ∃ fd:FuncData,(∀ (s:Shared) (u:Value),BindsTo s fd ⟨[u],[]⟩ [(x,u)]) ∧
    ∀ base:Heap,(K w.params).In base→base.Ns mainGlobals mg→FnOk l.prog w (K w.params) mg base (CX w) k fa fd [x] (sp w))
  (hsp:∀ (w:World) (H:Hp) (a:Addr) (ns:List Int),ns.length≤n→Only H→SqL (K w.params) H a (ns.map V.int)→sp w [.ref a] H (fun v _=>v = .bl true) fun _ _ _=>False)
  (hCX:∀ (w:World) (H:Hp) (s:Shared) (e:Value) (s':Shared),CX w [] H s (fun _ _ _=>False) e s'→False) :
  PySem.W.WalkO q loose XP YP l.row.toRowW d [] (fun f vs=>PySem.call f vs):=by
 refine Att.attach_call hn hdf fun w s₀ s₁ mg mb fa o pm cd doc a vs ns G Y ho hd hcd hmg hobj hints hlen hg=>?_
 have KX:=hY w _ Y
 obtain ⟨fd,hb,hF⟩:=F w mg fa _ KX G.T.g hmg
 exact law_call KX G.T.g G.T.b G.T.builtins G.T.nolimit hg hobj hints (Nat.le_trans hlen hn2) hr hF hb (fun H hO hS=>hsp w H a ns hlen hO hS) fun H e s'=>hCX w H s₁ e s'
theorem walk_ofK {l:PySem.W.OpenLaw} {n k:Nat} {q:Program} {loose:List Str} {XP:(Str→Option Value)→Heap→Prop} {YP:World→Heap→Prop} {d:DefRec} {K:Params→PySem.W.Frag} {CX:CXT} {sp:PySem.W.Frag→Sp} {x:Str}
  (hn:l.most = some n) (hn2:n≤sizeLine) (hdf:d.params.defaults = []) (hr:Room k callerA)
  (hY:∀ (w:World) (h:Heap),YP w h→(K w.params).In h)
  (F:∀ (w:World) (mg:Str→Option Value) (fa:Addr) (h:Heap),(K w.params).In h→h.Ns mainGlobals mg→mg d.name = some (.ref fa) →
   ∃ fd:FuncData,(∀ (s:Shared) (u:Value),BindsTo s fd ⟨[u],[]⟩ [(x,u)]) ∧
    ∀ base:Heap,(K w.params).In base→base.Ns mainGlobals mg→FnOk l.prog w (K w.params) mg base CX k fa fd [x] (sp (K w.params)))
  (hsp:∀ (K:PySem.W.Frag) (H:Hp) (a:Addr) (ns:List Int),ns.length≤n→Only H→SqL K H a (ns.map V.int)→sp K [.ref a] H (fun v _=>v = .bl true) fun _ _ _=>False)
  (hCX:∀ (H:Hp) (s:Shared) (e:Value) (s':Shared),CX [] H s (fun _ _ _=>False) e s'→False) :
  PySem.W.WalkO q loose XP YP l.row.toRowW d [] (fun f vs=>PySem.call f vs) :=
 walk_of (K:=K) (CX:=fun _=>CX) (sp:=fun w=>sp (K w.params)) hn hn2 hdf hr hY F (fun w H a ns h1 h2 h3=>hsp (K w.params) H a ns h1 h2 h3) fun _ H s e s'=>hCX H s e s'
end L2
namespace L2
open PySem PySem.Spec PyProof.Rows
def defArgs (s:Stmt):Arguments:=match s with
 | .FunctionDef _ a _ _ _ _ _ _ _ _=>a
 | _=>{ posonlyargs:=[],args:=[],vararg:=none,kwonlyargs:=[],kw_defaults:=[],kwarg:=none,defaults:=[] }
def defBody (s:Stmt):List Stmt:=match s with
 | .FunctionDef _ _ b _ _ _ _ _ _ _=>b
 | _=>[]
def defScope (s:Stmt):Scope:=match s with
 | .FunctionDef _ _ _ _ _ _ sc _ _ _=>sc
 | _=>{ kind:=.function,names:=[],isGenerator:=false,isCoroutine:=false }
abbrev CX0:CXT:=fun _ _ _ _ _ _=>False
abbrev E0:XK:=fun _ _ _=>False
theorem pass0 {X:Cx}:Passes CX0 X E0:=fun _ _ _ _ _ _ _ h=>h.elim
structure Fun (K:PySem.W.Frag) (x qual:Str) (st:Stmt) (f:Addr) (fd:FuncData):Prop where
 ex:∃ (oc:Value) (od:Option Addr) (kV doc pm:Value) (an:Option Addr) (cdv ct:Value) (osl:Array (Option Value)),
  fd = PySem.W.fnOf x qual (defArgs st) (defBody st) (defScope st) .none kV doc pm an cdv ct∧K.lookup f = some ⟨oc,od,.func fd,osl⟩∧PySem.W.codeIn K cdv qual = true
 kp:PySem.W.keepIn K (.ref f) = true
section
variable {P:Program} {w:World} {K:PySem.W.Frag} {mg:Str→Option Value} {base:Heap}
theorem Fun.ok {x qual:Str} {st:Stmt} {f:Addr} {fd:FuncData} {N ps:List Str} {k:Nat} {sp:Sp} (F:Fun K x qual st f fd) (S:FnScope N ps (defScope st)) (len:∀ vs H Q E,sp vs H Q E→vs.length = ps.length)
  (hbody:∀ (cdv:Value) (A:Around) (outer:List Env) (s:Shared) (H:Hp) (vs:List V) (Q:VK) (E:XK),Room k (A.deeper (envOfC qual (defScope st) s.heap.objs.size f cdv))→sp vs H Q E →
   ∃ t,PSs (cxOf CX0 P w K mg base N qual (defScope st) f cdv A outer s H E).nox (defBody st) t∧t { nx:=fun _ H'=>Q .non H',rt:=Q } (start N vs) H):FnOk P w K mg base CX0 (k + 1) f fd ps sp:=by
 obtain ⟨oc,od,kV,doc,pm,an,cdv,ct,osl,rfl,lk,hcd⟩:=F.ex
 refine fn_of lk hcd S len fun A outer s H vs Q E hr hsp=>?_
 obtain ⟨t,h,q⟩:=hbody cdv A outer s H vs Q E hr hsp
 exact ⟨t,h.nox,q⟩
theorem Fun.binds {x qual:Str} {st:Stmt} {f:Addr} {fd:FuncData} {ps:List Str} (F:Fun K x qual st f fd)
  (h:∀ (kV doc pm:Value) (an:Option Addr) (cdv ct:Value) (us:List Value),us.length = ps.length→bindArgs (PySem.W.fnOf x qual (defArgs st) (defBody st) (defScope st) .none kV doc pm an cdv ct) ⟨us,[]⟩ = pure (ps.zip us)):Binds K fd ps []:=by
 obtain ⟨oc,od,kV,doc,pm,an,cdv,ct,osl,rfl,lk,hcd⟩:=F.ex
 exact .all (h kV doc pm an cdv ct)
theorem fun_mk {x qual:Str} {st:Stmt} {f:Addr} {oc:Value} {od an:Option Addr} {osl:Array (Option Value)} {kV doc pm cdv ct:Value} (l:K.lookup f = some ⟨oc,od,.func (PySem.W.fnOf x qual (defArgs st) (defBody st) (defScope st) .none kV doc pm an cdv ct),osl⟩)
  (c:PySem.W.codeIn K cdv qual = true) (k:PySem.W.keepIn K (.ref f) = true):Fun K x qual st f (PySem.W.fnOf x qual (defArgs st) (defBody st) (defScope st) .none kV doc pm an cdv ct):=⟨⟨oc,od,kV,doc,pm,an,cdv,ct,osl,rfl,l,c⟩,k⟩
end
theorem hu_of {A:Around} {k:Nat} (hr:Room k A):A.units + 1 < cLine:=Nat.lt_of_le_of_lt (Nat.add_le_add_left (by decide:1≤64) _) hr.units
theorem small1000 {n:Nat} (h:n≤1000):n < sizeLine:=Nat.lt_of_le_of_lt h (by decide)
section
variable {X:Cx}
theorem pv (i:Nat) {x:Str} {pos:Pos} (hN:X.N[i]? = some x:=by rfl) (hv:Vis X.env.scope x:=by first | exact Or.inl rfl | exact Or.inr (Or.inl rfl) | exact Or.inr (Or.inr rfl)) (hd:(x == ("__debug__":Str)) = false:=by decide)
  (hcd:(x == ("__classdict__":Str)) = false:=by decide):PE X (.Name x pos) (tVar i):=pe_var hN hv hd hcd
end
theorem iteF {A B:Prop} (h:B):if false = true then A else B:=by
 rw [if_neg Bool.false_ne_true]
 exact h
theorem iteT {A B:Prop} (h:A):if true = true then A else B:=by
 rw [if_pos rfl]
 exact h
def Same (H H':Hp):Prop:=∀ b o,H b = some o→H' b = some o
theorem Same.refl (H:Hp):Same H H:=fun _ _ h=>h
theorem Same.trans {H H1 H2:Hp} (a:Same H H1) (b:Same H1 H2):Same H H2:=fun c o h=>b c o (a c o h)
theorem Same.seq {K:PySem.W.Frag} {H H':Hp} {a:Addr} {xs:List V} (e:Same H H') (h:SqL K H a xs):SqL K H' a xs:=by
 rcases h with (h | ⟨o,h⟩) | h
 ·exact .inl (.inl (e _ _ h))
 ·exact .inl (.inr ⟨o,e _ _ h⟩)
 ·exact .inr h
end L2
namespace L2
open PySem
def clOf (cells:List (Str×Addr)):List (Str×NameKind)→List (Str×Addr)→List (Str×Addr)
 | [],acc=>acc
 | (n,k) :: r,acc=>clOf cells r (if k == .free then (match cells.lookup n with | some c=>(n,c) :: acc | none=>acc) else acc)
theorem closure_eq {scope:Scope} {env:Env} (h:∀ p∈scope.names,p.2 = .free→∃ c,env.cells.lookup p.1 = some c):closureFor scope env = pure (clOf env.cells scope.names []):=by
 have key:∀ (names:List (Str×NameKind)) (acc:List (Str×Addr)),(∀ p∈names,p.2 = .free→∃ c,env.cells.lookup p.1 = some c) →
   (forIn names acc (fun (x:Str×NameKind) (cs:List (Str×Addr))=>if (x.2 == NameKind.free) = true then (do let c ← cellOf env x.1; pure (ForInStep.yield ((x.1,c) :: cs))) else pure (ForInStep.yield cs)):Sem (List (Str×Addr))) = pure (clOf env.cells names acc):=by
  intro names
  induction names with
  | nil=>intro acc _; rfl
  | cons p r ih =>
   intro acc hp
   obtain ⟨n,k⟩:=p
   rw [List.forIn_cons]
   by_cases hk:k = .free
   ·subst hk
    obtain ⟨c,hc⟩:=hp (n,.free) List.mem_cons_self rfl
    have e:cellOf env n = pure c:=by unfold cellOf; rw [show env.cells.lookup n = some c from hc]
    show (if (NameKind.free == NameKind.free) = true then _ else _) >>= _ = _
    rw [if_pos (by rfl)]
    dsimp only
    rw [e]
    show (forIn r ((n,c) :: acc) _:Sem _) = _
    rw [ih _ fun q hq=>hp q (List.mem_cons_of_mem _ hq)]
    simp [clOf,show env.cells.lookup n = some c from hc]
   ·have hk':(k == NameKind.free) = false:=by simpa using hk
    show (if (k == NameKind.free) = true then _ else _) >>= _ = _
    rw [if_neg (by rw [hk']; exact Bool.false_ne_true)]
    show (forIn r acc _:Sem _) = _
    rw [ih _ fun q hq=>hp q (List.mem_cons_of_mem _ hq)]
    simp [clOf,hk']
 unfold closureFor
 have k:=key scope.names [] h
 exact (congrArg (fun m:Sem (List (Str×Addr))=>m >>= fun cs=>pure cs) k).trans rfl
theorem clOf_sub {cells:List (Str×Addr)}:∀ {names:List (Str×NameKind)} {acc:List (Str×Addr)},(∀ x c,acc.lookup x = some c→cells.lookup x = some c)→∀ x c,(clOf cells names acc).lookup x = some c→cells.lookup x = some c
 | [],acc,h,x,c,e=>h x c e
 | (n,k) :: r,acc,h,x,c,e=>by
  refine clOf_sub (names:=r) (fun y d q=>?_) x c e
  split at q
  ·split at q
   ·rename_i c0 hc0
    rw [List.lookup_cons] at q
    split at q
    ·rename_i hy
     have hy':y = n:=by simpa using hy
     subst hy'
     rw [hc0]; exact q
    ·exact h y d q
   ·exact h y d q
  ·exact h y d q
theorem clOf_has {cells:List (Str×Addr)}:∀ {names:List (Str×NameKind)} {acc:List (Str×Addr)} {x:Str},(acc.lookup x).isSome = true∨((x,NameKind.free)∈names∧(cells.lookup x).isSome = true)→((clOf cells names acc).lookup x).isSome = true
 | [],acc,x,h=>by
  rcases h with h | h
  ·exact h
  ·exact absurd h.1 (by simp)
 | (n,k) :: r,acc,x,h=>by
  refine clOf_has (names:=r) ?_
  rcases h with h | ⟨hm,hc⟩
  ·left
   split
   ·split
    ·rw [List.lookup_cons]; split
     ·rfl
     ·exact h
    ·exact h
   ·exact h
  ·rcases List.mem_cons.mp hm with e | hm
   ·injection e with e1 e2
    subst e1; subst e2
    left
    rw [if_pos (by rfl)]
    cases hq:cells.lookup x with
    | none=>rw [hq] at hc; cases hc
    | some c=>simp
   ·exact .inr ⟨hm,hc⟩
section
variable {prog:Program} {w:World} {A:Around}
theorem comp_loop {R:Result→Shared→Prop} {s:Shared} {elt target iter:Expr} {ifs:List Expr} {scope:Scope} {pos:Pos} {it acc:Value} {env:Env} {E:Value→Shared→Prop} (hE:∀ e s',E e s'→notedBy (model prog w) A env (fun e s'=>R (.error e) s') e s') (I:Nat→Shared→Prop)
  (turn:∀ n s,I n s→wpAny (model prog w) A (pyNext it) (fun r s₁=>match r with
   | none=>R (.ok .next) s₁
   | some v=>wpAny (model prog w) A (letOwnedTupleGo target it v) (fun _ s₁'=>wpAny (model prog w) A (assign target env v) (fun _ s₂ =>
     wpAny (model prog w) A (forIn ifs true fun c r=>if r = true then do let ok ← isTrue c env (eval c env); pure (ForInStep.yield ok) else pure (ForInStep.yield r)) (fun ok s₃ =>
      if ok = true then wpAny (model prog w) A (eval elt env) (fun x s₄ =>
       wpAny (model prog w) A (call (.builtin "list.append") [acc,x]) (fun _ s₅=>∃ m,m < n∧I m s₅) E s₄) E s₃
      else ∃ m,m < n∧I m s₃) E s₂) E s₁') E s₁) E s)
  (n:Nat) (h:I n s) :
  codeAny (model prog w) A (.compLoop (.ListComp elt [⟨target,iter,ifs,0⟩] scope pos) 0 it acc env) R s:=by
 have noted:∀ {α:Type} {t:Sem α} {Q:α→Shared→Prop} {s:Shared},wpAny (model prog w) A t Q E s→wpAny (model prog w) A t Q (notedBy (model prog w) A env fun e s'=>R (.error e) s') s:=fun q=>wpAny_mono q (fun _ _ z=>z) hE
 refine codeAny_loop rfl I (fun n s hI=>?_) n h
 show wpAny _ A ((compTurn (.ListComp elt [⟨target,iter,ifs,0⟩] scope pos) 0 it acc env).onRaise (fun x=>do noteFrame x env; theTreesLotGoes x)) _ _ s
 refine wpAny_noted ?_
 rw [compTurn_list]
 refine wpAny_bind (wpAny_standAt (wpAny_bind (wpAny_mono (noted (turn n s hI)) (fun r s₁ h₁=>?_) fun _ _ h'=>h')))
 cases r with
 | none=>exact wpAny_pure h₁
 | some v =>
  refine wpAny_bind (wpAny_mono (noted h₁) (fun _ s₁' h₁'=>?_) fun _ _ h'=>h')
  refine wpAny_bind (wpAny_mono (noted h₁') (fun _ s₂ h₂=>wpAny_bind (wpAny_mono (noted h₂) (fun ok s₃ h₃=>?_) fun _ _ h'=>h')) fun _ _ h'=>h')
  cases ok with
  | false=>exact wpAny_pure ⟨rfl,h₃⟩
  | true =>
   simp only [if_true] at h₃ ⊢
   exact wpAny_bind (wpAny_bind (wpAny_mono (noted h₃) (fun x s₄ h₄=>wpAny_bind (wpAny_mono (noted h₄) (fun _ s₅ h₅=>wpAny_pure (wpAny_pure ⟨rfl,h₅⟩)) fun _ _ h'=>h')) fun _ _ h'=>h'))
end
end L2
namespace L2
open PySem PySem.Spec PyProof.Rows
abbrev compCx (X:Cx) (pins:List (Addr×Obj)) (N:List Str) (scope:Scope) (C:Addr) (s:Shared) (H:Hp) (fp:List Addr):Cx :=
 { X with N:=N,s₀:=s,H₀:=H,env:=compEnvC scope (clOf X.env.cells scope.names []) C X.env,outer:=X.stack,stack:=X.stack,ex:=fp,fn:=fun _=>false,pn:=X.pn ++ pins,xe:=fun _ _=>False }
def pick (ix:List (Option Nat)) (σ:St):St:=ix.map fun o=>o.bind fun j=>(σ[j]?).join
def IxOk (X:Cx) (scope:Scope):List Str→List (Option Nat)→Prop
 | [],[]=>True
 | _ :: N,none :: ix=>IxOk X scope N ix
 | x :: N,some j :: ix=>(X.N[j]? = some x∧Vis X.env.scope x∧(X.env.scope.names.lookup x == some .local) = false∧scope.names.lookup x = some .free)∧IxOk X scope N ix
 | _,_=>False
theorem IxOk.len {X:Cx} {scope:Scope}:∀ {N:List Str} {ix:List (Option Nat)},IxOk X scope N ix→ix.length = N.length
 | [],[],_=>rfl
 | [],none :: _,h=>h.elim
 | [],some _ :: _,h=>h.elim
 | _ :: _,[],h=>h.elim
 | _ :: N,none :: ix,h=>by simp only [List.length_cons]; rw [IxOk.len (N:=N) (ix:=ix) h]
 | _ :: N,some _ :: ix,h=>by simp only [List.length_cons]; rw [IxOk.len (N:=N) (ix:=ix) h.2]
theorem IxOk.get {X:Cx} {scope:Scope}:∀ {N:List Str} {ix:List (Option Nat)} {i j:Nat} {x:Str},IxOk X scope N ix→N[i]? = some x→ix[i]? = some (some j) →
  X.N[j]? = some x∧Vis X.env.scope x∧(X.env.scope.names.lookup x == some .local) = false∧scope.names.lookup x = some .free
 | [],[],_,_,_,_,h,_=>by simp at h
 | [],none :: _,_,_,_,h,_,_=>h.elim
 | [],some _ :: _,_,_,_,h,_,_=>h.elim
 | _ :: _,[],_,_,_,h,_,_=>h.elim
 | _ :: N,none :: ix,0,_,_,_,_,e=>by simp at e
 | _ :: N,none :: ix,i + 1,_,_,h,h1,e=>IxOk.get (N:=N) (ix:=ix) (i:=i) h (by simpa using h1) (by simpa using e)
 | y :: N,some k :: ix,0,j,x,h,h1,e=>by
  simp at h1 e
  subst h1; subst e
  exact h.1
 | _ :: N,some _ :: ix,i + 1,_,_,h,h1,e=>IxOk.get (N:=N) (ix:=ix) (i:=i) h.2 (by simpa using h1) (by simpa using e)
theorem pick_get {ix:List (Option Nat)} {σ:St} {i:Nat} {v:V} (h:(pick ix σ)[i]? = some (some v)):∃ j,ix[i]? = some (some j)∧σ[j]? = some (some v):=by
 unfold pick at h
 rw [List.getElem?_map] at h
 cases e:ix[i]? with
 | none=>rw [e] at h; cases h
 | some o =>
  rw [e] at h
  cases o with
  | none=>cases h
  | some j =>
   refine ⟨j,rfl,?_⟩
   have h':(σ[j]?).join = some v:=Option.some.inj h
   cases q:σ[j]? with
   | none=>rw [q] at h'; cases h'
   | some z=>rw [q] at h'; have h2:z = some v:=h'; rw [h2]
theorem relabel_not_local {env : Env} : ∀ {names : List (Str × NameKind)} {x : Str}, (∀ y ∈ names, y.2 ≠ .cell) →
    ((names.map fun (n, k) => if (k == NameKind.free && env.scope.kind == .function && env.kindOf n == some .cell) then (n, NameKind.cell) else (n, k)).lookup x = some .cell ∨
     (names.map fun (n, k) => if (k == NameKind.free && env.scope.kind == .function && env.kindOf n == some .cell) then (n, NameKind.cell) else (n, k)).lookup x = some .free) → names.lookup x = some .free
  | [], _, _, h => by simp at h
  | (n, k) :: r, x, hc, h => by
    have ih := @relabel_not_local env r x fun y hy => hc y (List.mem_cons_of_mem _ hy)
    have hk : k ≠ .cell := hc (n, k) List.mem_cons_self
    rw [List.map_cons] at h
    cases hx : x == n with
    | true =>
      rw [List.lookup_cons, hx]
      by_cases hcnd : (k == NameKind.free && env.scope.kind == .function && env.kindOf n == some .cell) = true
      · have : k = .free := by
          simp only [Bool.and_eq_true, beq_iff_eq] at hcnd
          exact hcnd.1.1
        rw [this]
      · simp only [hcnd, Bool.false_eq_true, if_false, List.lookup_cons, hx] at h
        rcases h with h | h
        · exact absurd (Option.some.inj h) hk
        · exact h
    | false =>
      rw [List.lookup_cons, hx]
      refine ih ?_
      by_cases hcnd : (k == NameKind.free && env.scope.kind == .function && env.kindOf n == some .cell) = true
      · simp only [hcnd, if_true, List.lookup_cons, hx] at h
        exact h
      · simp only [hcnd, Bool.false_eq_true, if_false, List.lookup_cons, hx] at h
        exact h
theorem relabel_free {env : Env} : ∀ {names : List (Str × NameKind)} {x : Str}, names.lookup x = some .free →
    ((names.map fun (n, k) => if (k == NameKind.free && env.scope.kind == .function && env.kindOf n == some .cell) then (n, NameKind.cell) else (n, k)).lookup x = some .cell ∨
     (names.map fun (n, k) => if (k == NameKind.free && env.scope.kind == .function && env.kindOf n == some .cell) then (n, NameKind.cell) else (n, k)).lookup x = some .free)
  | [], _, h => by simp at h
  | (n, k) :: r, x, h => by
    have ih := @relabel_free env r x
    rw [List.map_cons]
    cases hx : x == n with
    | true =>
      rw [List.lookup_cons, hx] at h
      have hk : k = .free := Option.some.inj h
      subst hk
      by_cases hcnd : (NameKind.free == NameKind.free && env.scope.kind == .function && env.kindOf n == some .cell) = true
      · simp only [hcnd, if_true, List.lookup_cons, hx]; exact .inl trivial
      · simp only [hcnd, Bool.false_eq_true, if_false, List.lookup_cons, hx]; exact .inr trivial
    | false =>
      rw [List.lookup_cons, hx] at h
      by_cases hcnd : (k == NameKind.free && env.scope.kind == .function && env.kindOf n == some .cell) = true
      · simp only [hcnd, if_true, List.lookup_cons, hx]; exact ih h
      · simp only [hcnd, Bool.false_eq_true, if_false, List.lookup_cons, hx]; exact ih h
def PTs (Y:Cx):List Expr→TT→Prop
 | [],t=>t = fun _ H Q=>Q true H
 | [c],t=>PT Y c t
 | _,_=>False
def CompGoal (ix:List (Option Nat)) (g:TG) (tt:TT) (te:TE) (σ:St) (Q:VK) (J:It) (H1:Hp):Prop:=∀ l,H1 l = none→∃ W:Nat→Nat→St→List V→Hp→Prop,
 (∃ m,W 0 m (pick ix σ) [] (upd H1 l (.lst [])))∧∀ i m σ1 ys H',W i m σ1 ys H'→H' l = some (.lst ys)∧((J.stop i H'∧Q (.ref l) H') ∨
  (J.go i H'∧∃ m',m' < m∧∀ x H2,J.yld i H' x H2→g x σ1 H2 fun σ2 H3=>tt σ2 H3 fun b H4=>if b = true then te σ2 H4 fun y H5=>H5 l = some (.lst ys)∧ys.length < sizeLine∧W (i + 1) m' σ2 (ys ++ [y]) (upd H5 l (.lst (ys ++ [y]))) else W (i + 1) m' σ2 ys H4))
def tComp (ix:List (Option Nat)) (wi:TI) (g:TG) (tt:TT) (te:TE):TE:=fun σ H Q=>wi σ H fun J H1=>CompGoal ix g tt te σ Q J H1
theorem Un.letGo {fs ex:List Addr} {H H':Hp} {h h1 h2:Heap} {C:Addr} (u:Un fs ex H H' h h1) (hC:h.objs.size≤C) (sb:Heap.SameBut C h1 h2):Un fs ex H H' h h2:=by
 have ne:∀ b o,h.get? b = some o→b≠C:=fun b o e=>Nat.ne_of_lt (Nat.lt_of_lt_of_le (Heap.lt_size e) hC)
 refine ⟨fun b o e n hb hx=>(sb.2 b (ne b o e)).trans (u.keep b o e n hb hx),fun b o e n hb hx=>?_,u.free,fun b o e hx=>?_,u.tups,u.frzs,u.tbls⟩
 ·obtain ⟨sl,q⟩:=u.slot b o e n hb hx
  exact ⟨sl,(sb.2 b (ne b o e)).trans q⟩
 ·obtain ⟨o',q⟩:=u.there b o e hx
  exact ⟨o',(sb.2 b (ne b o e)).trans q⟩
theorem HOk.letGo {P:Program} {w:World} {H:Hp} {h h':Heap} {C:Addr} (x:HOk P w H h) (hC:H C = none) (sb:Heap.SameBut C h h'):HOk P w H h':=fun a o e=>by
 have na:∀ b u,H b = some u→b≠C:=fun b u q z=>by rw [z,hC] at q; cases q
 refine (x a o e).stay (fun b u hb q=>(sb.2 b ?_).trans q) (fun _ q=>q) fun _ _ q=>q
 rcases hb with rfl | hb
 ·exact na _ _ e
 ·exact na _ _ hb
section
variable {X:Cx}
theorem wp_tests {Y:Cx} {ifs:List Expr} {tt:TT} (ht:PTs Y ifs tt) {pins:List (Addr×Obj)} {s:Shared} {σ:St} {H:Hp} {Q:Bool→Hp→Prop} (I:Inv Y pins σ H s) (h:tt σ H Q) :
  wpAny (model Y.prog Y.w) Y.A (forIn ifs true fun c r=>if r = true then do let ok ← isTrue c Y.env (eval c Y.env); pure (ForInStep.yield ok) else pure (ForInStep.yield r)) (TP Y pins σ Q) Y.xe s:=by
 match ifs,ht with
 | [],ht =>
  have e:tt = fun _ H Q=>Q true H:=ht
  subst e
  exact wpAny_tests_nil ⟨H,I,h⟩
 | [c],ht=>exact wpAny_tests_one ((show PT Y c tt from ht) pins s σ H Q I h)
 | _ :: _ :: _,ht=>exact False.elim ht
theorem pe_comp {tg iter elt:Expr} {ifs:List Expr} {scope:Scope} {pos:Pos} {N:List Str} {ix:List (Option Nat)} {wi:TI} {g:TG} {tt:TT} {te:TE}
  (hc:X.calm = true) (hi:PI X tg iter wi)
  (hg:∀ pins C s H fp,PG (compCx X pins N scope C s H fp) tg g)
  (ht:∀ pins C s H fp,PTs (compCx X pins N scope C s H fp) ifs tt)
  (he:∀ pins C s H fp,PE (compCx X pins N scope C s H fp) elt te)
  (hk:scope.kind = .function) (hcell:∀ y∈scope.names,y.2≠.cell) (hnames:∀ y∈scope.names,y.2 = .local→scope.names.lookup y.1 = some .local)
  (hfr0:(scope.names.all fun y=>!(y.2 == NameKind.free) || (X.env.cells.lookup y.1).isSome) = true) (hix:IxOk X scope N ix)
  (hs:∀ x,foldedSetIterable iter X.env x = pure x:=by intro _; rfl) :
  PE X (.ListComp elt [⟨tg,iter,ifs,0⟩] scope pos) (tComp ix wi g tt te):=by
 intro pins s σ H Q I h
 have hfr:∀ y∈scope.names,y.2 = .free→(X.env.cells.lookup y.1).isSome = true:=fun y hy e=>by
  have z:=List.all_eq_true.mp hfr0 y hy
  rw [e] at z
  simpa using z
 have hfr':∀ p∈scope.names,p.2 = .free→∃ c,X.env.cells.lookup p.1 = some c:=fun p hp e=>Option.isSome_iff_exists.mp (hfr p hp e)
 have clsub:∀ x c,(clOf X.env.cells scope.names []).lookup x = some c→X.env.cells.lookup x = some c:=clOf_sub (fun x c q=>by simp at q)
 have clhas:∀ x,scope.names.lookup x = some .free→∃ c,(clOf X.env.cells scope.names []).lookup x = some c:=fun x hx=>by
  have hm:=PySem.mem_of_lookup hx
  exact Option.isSome_iff_exists.mp (clOf_has (.inr ⟨hm,hfr _ hm rfl⟩))
 rw [eval_ListComp]
 refine wpAny_comprehension_free (use:=none) rfl hs (closure_eq hfr') hk hnames (thn (hi pins s σ H _ I h) fun v s1 h1=>thn h1 fun itv s2 h2=>?_)
 obtain ⟨it,fp,tn,J,H2,e,I2,T,st2,f2,hW⟩:=h2
 subst e
 have hfree2:H2 s2.heap.objs.size = none:=I2.hok.fresh (Nat.le_refl _)
 obtain ⟨W,⟨m0,w0⟩,turn⟩:=hW s2.heap.objs.size hfree2
 refine wpAny_newObj_type ?_
 have I3:Inv X pins σ (upd H2 s2.heap.objs.size (.lst [])) { s2 with heap:=s2.heap.push { cls:=.type "list",data:=.seq ([]:List Value).toArray } }:=I2.lnew (its:=[]) (t':=s2.toks) .nil (Nat.zero_le _)
 have f3:∀ b∈fp,FpOk X pins (upd H2 s2.heap.objs.size (.lst [])) b:=fun b hb=>by
  refine ⟨?_,(f2 b hb).2⟩
  obtain ⟨o,eo,_⟩:=T.obj _ _ st2 b hb
  rw [upd_ne (Nat.ne_of_lt (Heap.lt_size eo))]
  exact (f2 b hb).1
 have st3:tn 0 (s2.heap.push { cls:=.type "list",data:=.seq ([]:List Value).toArray }):=T.keep _ _ _ st2 fun b _ o e=>Heap.get?_push_of_some _ e
 generalize hs3:({ s2 with heap:=s2.heap.push { cls:=.type "list",data:=.seq ([]:List Value).toArray } }:Shared) = s3 at I3
 have st3:tn 0 s3.heap:=by rw [← hs3]; exact st3
 generalize hH3:upd H2 s2.heap.objs.size (.lst []) = H3 at I3 f3 w0
 generalize hacc:s2.heap.objs.size = acc at *
 refine wpAny_newFunctionEnv hcell (by intro y hy; simp at hy) (fun h₁ hns₁ hsb₁=>?_) hk
 have old:∀ b o,s3.heap.get? b = some o→h₁.get? b = some o:=fun b o q=>hsb₁.extBut b o (Nat.ne_of_lt (Heap.lt_size q)) (Heap.get?_push_of_some _ q)
 have hCfree:H3 s3.heap.objs.size = none:=I3.hok.fresh (Nat.le_refl _)
 have fpl:∀ b∈fp,b < s3.heap.objs.size:=fun b hb=>by
  obtain ⟨o,eo,_⟩:=T.obj _ _ st3 b hb
  exact Heap.lt_size eo
 have nstk:∀ b,b≠X.env.locals→b∉X.fs→b∉frs X.stack:=fun b h1 h2 z=>by
  rcases List.mem_cons.mp (I3.stkSub b z) with q | q
  ·exact h1 q
  ·exact h2 q
 have clt:∀ x c,X.env.cells.lookup x = some c→c < s3.heap.objs.size:=fun x c q=>by
  obtain ⟨v,z⟩:=I3.cell x c q
  exact z.lt
 have YI:∀ (h':Heap) (m:Str→Option Value),(∀ b o,s3.heap.get? b = some o→h'.get? b = some o)→h'.Ns s3.heap.objs.size m →
   Inv (compCx X pins N scope s3.heap.objs.size s3 H3 fp) [] (pick ix σ) H3 { s3 with heap:=h',toks:=s3.toks + ([]:List (Str×Value)).length }:=by
  intro h' m hk' hn
  refine ⟨⟨I3.ok.mod,hk,I3.ok.glob,I3.ok.blt,Nat.le_refl _,fun x y c q1 q2=>I3.ok.inj x y c (clsub x c q1) (clsub y c q2),fun x hx=>clhas x (relabel_not_local hcell hx),fun x c hf _=>absurd hf Bool.false_ne_true,
   I3.ok.hd,I3.ok.frames,.inl rfl,fun b hb=>⟨Nat.ne_of_lt (fpl b hb),fun x c q=>(f3 b hb).2.2.2.2.1 x c (clsub x c q)⟩,I3.bs,Nat.le_trans I3.ok.bsz I3.sz,fun b o e hb=>?_,fun b hb=>nstk b (f3 b hb).2.1 (f3 b hb).2.2.1,I3.stack,I3.stkFree⟩,
   rfl,I3.bare,Un.kept hk',⟨m,hn,fun i x v h1 h2 h3=>?_⟩,fun x c q=>?_,hCfree,fun x c q=>I3.freeC x c (clsub x c q),fun p hp=>?_,I3.hok.kept hk',?_⟩
  ·have q:=(I3.bs b o e).2
   rcases (f3 b hb).2.2.2.1 with z | z
   ·exact I3.ok.noex b o e z
   ·exact absurd (Nat.lt_of_lt_of_le (Heap.lt_size e) (Nat.le_trans I3.ok.bsz z)) (Nat.lt_irrefl _)
  ·obtain ⟨j,e1,e2⟩:=pick_get h2
   obtain ⟨a1,a2,a3,a4⟩:=hix.get h1 e1
   obtain ⟨mX,hnX,hlX⟩:=I3.loc
   obtain ⟨u,ru,l⟩:=hlX j x v a1 e2 a2
   refine ⟨u,ru,?_⟩
   rcases l with ⟨l1,_⟩ | ⟨_,c,lc,z⟩
   ·have l1':X.env.scope.names.lookup x = some .local:=l1
    rw [l1'] at a3
    exact absurd a3 (by decide)
   ·obtain ⟨c',hc'⟩:=clhas x a4
    have ec:=clsub x c' hc'
    rw [lc] at ec
    have ec':c = c':=Option.some.inj ec
    subst ec'
    exact .inr ⟨relabel_free a4,c,hc',z.keeps hk'⟩
  ·obtain ⟨v,z⟩:=I3.cell x c (clsub x c q)
   exact ⟨v,z.keeps hk'⟩
  ·have hp':p∈X.pn ++ pins:=by simpa using hp
   obtain ⟨a1,a2,a3,a4,a5⟩:=I3.pin p hp'
   exact ⟨hk' _ _ a1,a2,Nat.ne_of_lt (Heap.lt_size a1),nstk p.1 a3 a4,a5⟩
  ·show (pick ix σ).length = N.length
   unfold pick
   rw [List.length_map]
   exact hix.len
 have fpY:∀ {pl:List (Addr×Obj)} {H':Hp},pl = []→(∀ b∈fp,H' b = none)→∀ b∈fp,FpOk (compCx X pins N scope s3.heap.objs.size s3 H3 fp) pl H' b:=fun {pl H'} epl hn b hb=>by
  obtain ⟨f0,f1,f2',f3',f4,f5⟩:=f3 b hb
  subst epl
  exact ⟨hn b hb,Nat.ne_of_lt (fpl b hb),nstk b f1 f2',.inl hb,fun x c q=>f4 x c (clsub x c q),fun p hp=>f5 p (by simpa using hp)⟩
 have loop:∀ s4:Shared,(∃ m,s4 = { s3 with heap:=h₁,toks:=s3.toks + ([]:List (Str×Value)).length }∧h₁.Ns s3.heap.objs.size m) →
   codeAny (model X.prog X.w) X.A (.compLoop (.ListComp elt [⟨tg,iter,ifs,0⟩] scope pos) 0 (.ref it) (.ref acc) (compEnvC scope (clOf X.env.cells scope.names []) s3.heap.objs.size X.env))
    (compPost (model X.prog X.w) X.A X.xe none (EP X pins σ Q) (.ref acc) s3.heap.objs.size) s4:=by
  rintro s4 ⟨m4,rfl,hn4⟩
  refine comp_loop (E:=fun _ _=>False) (fun _ _ z=>z.elim)
   (fun n s'=>∃ i σ' ys H',Inv (compCx X pins N scope s3.heap.objs.size s3 H3 fp) [] σ' H' s'∧tn i s'.heap∧(∀ b∈fp,H' b = none)∧W i n σ' ys H') ?_ m0
   ⟨0,pick ix σ,[],H3,YI h₁ m4 old hn4,T.keep _ _ _ st3 fun b _ o q=>old b o q,fun b hb=>(f3 b hb).1,w0⟩
  rintro n s5 ⟨i,σ5,ys,H5,I5,st5,fr5,w5⟩
  obtain ⟨hl5,hstep⟩:=turn i n σ5 ys H5 w5
  rcases hstep with ⟨stop,q⟩ | ⟨go,m',hm',step⟩
  ·refine thn (T.done (compCx X pins N scope s3.heap.objs.size s3 H3 fp) rfl rfl rfl hc i [] s5 σ5 H5 (fun _ _=>False) I5 (fpY rfl fr5) st5 stop) fun r s6 ⟨hr,I6⟩=>?_
   subst hr
   obtain ⟨m6,hn6,_⟩:=I6.loc
   refine ⟨m6,hn6,fun h' sb=>?_⟩
   refine ⟨.ref acc,H5,I3.call' (ch:=fp) I6.os (I6.base.letGo (Nat.le_refl _) sb) (I6.hok.letGo I6.free sb) I6.bare fun b hb=>?_,rfl,q⟩
   obtain ⟨f0,f1,f2',f3',f4,f5⟩:=f3 b hb
   exact ⟨f3',f1,f4,f5⟩
  ·refine thn (T.item (compCx X pins N scope s3.heap.objs.size s3 H3 fp) rfl rfl rfl hc i [] s5 σ5 H5 (fun _ _=>False) I5 (fpY rfl fr5) st5 go) fun r s6 ⟨u,hr,h6⟩=>?_
   subst hr
   refine thn h6 fun _ s7 ⟨x,H7,I7,r7,y7,st7,fr7⟩=>?_
   have I7':=I7.pinned (fpY rfl fr7) (T.obj _ _ st7)
   refine thn (hg pins s3.heap.objs.size s3 H3 fp _ s7 σ5 H7 x u _ I7' r7 (step x H7 y7)) fun _ s8 ⟨σ8,H8,I8,q8⟩=>?_
   refine thn (wp_tests (ht pins s3.heap.objs.size s3 H3 fp) I8 q8) fun b s9 ⟨H9,I9,q9⟩=>?_
   have back:∀ {σz:St} {Hz:Hp} {sz:Shared} {yz:List V},Inv (compCx X pins N scope s3.heap.objs.size s3 H3 fp) ([] ++ pinsAt fp s7.heap) σz Hz sz→W (i + 1) m' σz yz Hz →
     ∃ m,m < n∧∃ i σ' ys H',Inv (compCx X pins N scope s3.heap.objs.size s3 H3 fp) [] σ' H' sz∧tn i sz.heap∧(∀ b∈fp,H' b = none)∧W i m σ' ys H':=fun {σz Hz sz yz} Iz wz=>by
    refine ⟨m',hm',i + 1,σz,yz,Hz,Iz.unpinned,T.keep _ _ _ st7 fun b hb o e=>(Iz.pin (b,o) (List.mem_append_right _ (List.mem_append_right _ (mem_pinsAt hb e)))).1,fun b hb=>?_,wz⟩
    obtain ⟨o,e,d⟩:=T.obj _ _ st7 b hb
    exact (Iz.pin (b,o) (List.mem_append_right _ (List.mem_append_right _ (mem_pinsAt hb e)))).2.1
   cases b with
   | false=>exact back I9 q9
   | true =>
    refine thn (he pins s3.heap.objs.size s3 H3 fp _ s9 σ8 H9 _ I9 q9) fun v s10 ⟨y,H10,I10,r10,hl10,hz10,w10⟩=>?_
    refine thn (mt_append _ s10 σ8 H10 (.ref acc) [y] (.ref acc) [v] (fun _ H'=>H' = upd H10 acc (.lst (ys ++ [y]))) I10 rfl (.cons r10 .nil) ⟨acc,ys,y,rfl,rfl,hl10,hz10,rfl⟩) fun _ s11 ⟨_,H11,I11,_,e11⟩=>?_
    subst e11
    exact back I11 w10
 have hn4:∃ m,h₁.Ns s3.heap.objs.size m:=⟨_,hns₁⟩
 obtain ⟨m4,hn4⟩:=hn4
 have L:=loop _ ⟨m4,rfl,hn4⟩
 exact codeAny_compStart_list L (T.self _ 0 _ _ _ (T.keep _ _ _ st3 fun b _ o q=>old b o q) L)
end
end L2
namespace L2
open PySem
theorem nne {a b:Nat} (h:@Ne Nat a b):@Ne Addr a b:=h
def SrcOf (k:Bool) (h:Heap) (a:Addr) (xs:Array Value):Prop:=match k with | true=>h.IsTuple a xs | false=>h.IsList a xs
def ItAt (k:Bool) (h:Heap) (it a:Addr) (i:Nat):Prop:=match k with | true=>h.IsTupleIter it a i | false=>h.IsListIter it a i
def itObj (k:Bool) (a:Addr):Obj:=match k with | true=>{ cls:=.type "tuple_iterator",data:=.fields #[.ref a,.int 0 0] } | false=>{ cls:=.type "list_iterator",data:=.fields #[.ref a,.int 0 0] }
abbrev IsT (h:Heap) (T:Addr) (vs:Array Value):Prop:=h.get? T = some { cls:=.type "tuple",data:=.seq vs }
theorem SrcOf.keep {k:Bool} {h h':Heap} {a:Addr} {xs:Array Value} (x:SrcOf k h a xs) (hk:∀ o,h.get? a = some o→h'.get? a = some o):SrcOf k h' a xs:=by
 cases k with
 | true=>obtain ⟨o,e,r⟩:=x; exact ⟨o,hk o e,r⟩
 | false=>obtain ⟨o,e,r⟩:=x; exact ⟨o,hk o e,r⟩
theorem ItAt.keep {k:Bool} {h h':Heap} {it a:Addr} {i:Nat} (x:ItAt k h it a i) (hk:∀ o,h.get? it = some o→h'.get? it = some o):ItAt k h' it a i:=by
 cases k with
 | true=>obtain ⟨o,e,r⟩:=x; exact ⟨o,hk o e,r⟩
 | false=>obtain ⟨o,e,r⟩:=x; exact ⟨o,hk o e,r⟩
theorem ItAt.obj {k:Bool} {h:Heap} {it a:Addr} {i:Nat} (x:ItAt k h it a i):∃ o,h.get? it = some o∧∀ v,o.data≠.cell v:=by
 cases k with
 | true=>obtain ⟨o,e,_,d⟩:=x; exact ⟨o,e,fun v z=>by rw [d] at z; cases z⟩
 | false=>obtain ⟨o,e,_,d⟩:=x; exact ⟨o,e,fun v z=>by rw [d] at z; cases z⟩
theorem SrcOf.lt {k:Bool} {h:Heap} {a:Addr} {xs:Array Value} (x:SrcOf k h a xs):a < h.objs.size:=by
 cases k with
 | true=>obtain ⟨o,e,_⟩:=x; exact Heap.lt_size e
 | false=>obtain ⟨o,e,_⟩:=x; exact Heap.lt_size e
theorem itObj_at {k:Bool} {h:Heap} {it a:Addr} (e:h.get? it = some (itObj k a)):ItAt k h it a 0:=by
 cases k with
 | true=>exact ⟨_,e,rfl,rfl⟩
 | false=>exact ⟨_,e,rfl,rfl⟩
section
variable {prog:Program} {w:World} {A:Around} {E:Value→Shared→Prop} {s:Shared}
theorem src_iter {k:Bool} {a:Addr} {xs:Array Value} {Q:Value→Shared→Prop} (h:SrcOf k s.heap a xs) (hQ:Q (.ref s.heap.objs.size) { s with heap:=s.heap.push (itObj k a) }):wpAny (model prog w) A (pyIter (.ref a)) Q E s:=by
 cases k with
 | true=>exact wpAny_pyIter_tuple h hQ
 | false=>exact wpAny_pyIter_list h hQ
theorem nextOf_tuple_item {it t:Addr} {i:Nat} {items} {x:Value} {Q:Value→Shared→Prop} (hit:s.heap.IsTupleIter it t i)
  (ht:s.heap.IsTuple t items) (hx:items[i]? = some x)
  (hQ:∀ h',h'.IsTupleIter it t (i + 1)→Heap.SameBut it s.heap h'→Q x { s with heap:=h' }) :
  wpAny (model prog w) A (Builtin.SmallTypes.nextOf (.ref it)) Q E s:=by
 obtain ⟨o,ho,hc,hd⟩:=id hit
 obtain ⟨ol,hol,_,nl,hdl⟩:=ht
 unfold Builtin.SmallTypes.nextOf
 refine wpAny_bind (wpAny_callSpecial?_slot (name:=Str.ofString "__next__") hit.typeIs F.slot_tuple_iterator_next
  (wpAny_call_entry F.slot_tuple_iterator_next hit.typeIs F.entry_tuple_iterator_next ?_ (F.args_tuple_iterator_next_1 _)))
 show wpAny _ _ (field (.ref it) 0 >>= _) _ _ s
 refine wpAny_bind (wpAny_field ho hd (x:=.ref t) rfl ?_)
 show wpAny _ _ (if (Value.ref t == Value.none) = true then _ else _) _ _ s
 rw [if_neg (show ¬ ((Value.ref t == Value.none) = true) from Bool.false_ne_true)]
 show wpAny _ _ (field (.ref it) 1 >>= _) _ _ s
 refine wpAny_bind (wpAny_field ho hd (x:=.int i 0) rfl ?_)
 show wpAny _ _ (seqItems? (.ref t) >>= _) _ _ s
 refine wpAny_bind (wpAny_seqItems hol hdl ?_)
 simp only [Int.toNat_natCast,hx]
 refine wpAny_bind (wpAny_setField ho hd (by simp) (wpAny_pure ⟨x,rfl,wpAny_pure (hQ _ ?_ (Heap.SameBut.update ..))⟩))
 exact ⟨_,Heap.get?_update_self _ ho (Obj.isFreed_of_fields (Obj.data_mapFields hd _)),(Obj.cls_mapFields ..).trans hc,by
  rw [Obj.data_mapFields hd]; simp [rawInt]⟩
theorem nextOf_tuple_end {it t:Addr} {i:Nat} {items} {Q:Value→Shared→Prop} (hh:A.handled = none)
  (hit:s.heap.IsTupleIter it t i) (ht:s.heap.IsTuple t items) (hx:items[i]? = none)
  (hE:∀ h' e,Heap.ExtBut it s.heap h'→(∃ o,h'.get? e = some o∧o.cls = .type "StopIteration")→E (.ref e) { s with heap:=h' }) :
  wpAny (model prog w) A (Builtin.SmallTypes.nextOf (.ref it)) Q E s:=by
 obtain ⟨o,ho,hc,hd⟩:=id hit
 obtain ⟨ol,hol,_,nl,hdl⟩:=ht
 unfold Builtin.SmallTypes.nextOf
 refine wpAny_bind (wpAny_callSpecial?_slot (name:=Str.ofString "__next__") hit.typeIs F.slot_tuple_iterator_next
  (wpAny_call_entry F.slot_tuple_iterator_next hit.typeIs F.entry_tuple_iterator_next ?_ (F.args_tuple_iterator_next_1 _)))
 show wpAny _ _ (field (.ref it) 0 >>= _) _ _ s
 refine wpAny_bind (wpAny_field ho hd (x:=.ref t) rfl ?_)
 show wpAny _ _ (if (Value.ref t == Value.none) = true then _ else _) _ _ s
 rw [if_neg (show ¬ ((Value.ref t == Value.none) = true) from Bool.false_ne_true)]
 show wpAny _ _ (field (.ref it) 1 >>= _) _ _ s
 refine wpAny_bind (wpAny_field ho hd (x:=.int i 0) rfl ?_)
 show wpAny _ _ (seqItems? (.ref t) >>= _) _ _ s
 refine wpAny_bind (wpAny_seqItems hol hdl ?_)
 simp only [Int.toNat_natCast,hx]
 refine wpAny_bind (wpAny_rule (wpAny_bind (wpAny_setField ho hd (by simp) ?_)))
 show wpAny _ _ (newExc (.type "StopIteration") [] >>= _) _ _ _
 refine wpAny_bind ?_
 simp only [newExc,newTuple]
 refine wpAny_bind (wpAny_newObj_type ?_ (by size_fits))
 refine wpAny_bind (m:=firstArgMember _ _) (wpAny_of_eq (a:=Value.none) (by first | rfl | (simp only [firstArgMember]; rfl)) ?_)
 refine wpAny_newObj_type ?_ (by size_fits)
 simp only [raiseNew]
 refine wpAny_bind (wpAny_handled ?_)
 first | rw [show A.in1.handled = none from hh] | rw [hh]
 refine wpAny_bind (wpAny_pure (wpAny_throw ?_))
 exact hE _ _ (((Heap.SameBut.update ..).extBut.push _).push _) ⟨_,Heap.get?_push_size _ rfl,rfl⟩
theorem sub_item {k:Bool} {it a:Addr} {i:Nat} {xs:Array Value} {x:Value} {Q:Value→Shared→Prop} (hit:ItAt k s.heap it a i) (hs:SrcOf k s.heap a xs) (hx:xs[i]? = some x)
  (hQ:∀ h',ItAt k h' it a (i + 1)→Heap.SameBut it s.heap h'→Q x { s with heap:=h' }):wpAny (model prog w) A (Builtin.SmallTypes.nextOf (.ref it)) Q E s:=by
 cases k with
 | true=>exact nextOf_tuple_item hit hs hx hQ
 | false=>exact wpAny_nextOf_list_item hit hs hx hQ
theorem sub_end {k:Bool} {it a:Addr} {i:Nat} {xs:Array Value} {Q:Value→Shared→Prop} (hh:A.handled = none) (hit:ItAt k s.heap it a i) (hs:SrcOf k s.heap a xs) (hx:xs[i]? = none)
  (hE:∀ h' e,Heap.ExtBut it s.heap h'→(∃ o,h'.get? e = some o∧o.cls = .type "StopIteration")→E (.ref e) { s with heap:=h' }):wpAny (model prog w) A (Builtin.SmallTypes.nextOf (.ref it)) Q E s:=by
 cases k with
 | true=>exact nextOf_tuple_end hh hit hs hx hE
 | false=>exact wpAny_nextOf_list_end hh hit hs hx hE
theorem upd_tup {T:Addr} {vs:Array Value} {x:Value} {k:Nat} {Q:Unit→Shared→Prop} (hT:IsT s.heap T vs) (hz:vs.size≤8)
  (h:∀ h',IsT h' T (vs.setIfInBounds k x)→Heap.SameBut T s.heap h'→Q () { s with heap:=h' }):wpAny (model prog w) A (updateSeq T (·.setIfInBounds k x)) Q E s:=by
 have hz2:vs.size≤sizeLine:=Nat.le_trans hz (by decide)
 refine wpAny_updateSeq (hz:=hz2) (_hz':=by simp only [Array.size_setIfInBounds]; omega) hT rfl (h _ ?_ (Heap.SameBut.update ..))
 show (s.heap.update T _).get? T = _
 rw [Heap.get?_update_self _ hT rfl]
 simp [Obj.mapSeq]
structure Zip2 (k1 k2:Bool) (n a b:Nat) (i:Nat) (f0:Value) (h:Heap):Prop where
 z:IsZip h (n + 4) (n + 2) (n + 3) f0
 ti:IsT h (n + 2) #[.ref n,.ref (n + 1)]
 to:∃ u v,IsT h (n + 3) #[u,v]
 i1:ItAt k1 h n a i
 i2:ItAt k2 h (n + 1) b i
def Off (l:List Addr) (h h':Heap):Prop:=∀ c o,c∉l→h.get? c = some o→h'.get? c = some o
theorem Off.of {c:Addr} {l:List Addr} {h h':Heap} (s:Heap.SameBut c h h') (hc:c∈l):Off l h h':=fun b o hb e=>(s.2 b fun z=>hb (z ▸ hc)).trans e
theorem Off.trans {l:List Addr} {h h1 h2:Heap} (a:Off l h h1) (b:Off l h1 h2):Off l h h2:=fun c o hc e=>b c o hc (a c o hc e)
theorem zip2_next {k1 k2:Bool} {n a b:Nat} {i:Nat} {xs ys:Array Value} {x y:Value} {Q:Value→Shared→Prop} (Z:Zip2 k1 k2 n a b i .none s.heap) (ha:a < n) (hb:b < n)
  (h1:SrcOf k1 s.heap a xs) (h2:SrcOf k2 s.heap b ys) (hx:xs[i]? = some x) (hy:ys[i]? = some y)
  (hQ:∀ h',Zip2 k1 k2 n a b (i + 1) (rawInt s.heap.objs.size) h'→IsT h' s.heap.objs.size #[x,y]→h'.objs.size = s.heap.objs.size + 1→Off [n,n + 1,n + 3,n + 4] s.heap h'→Q (.ref s.heap.objs.size) { s with heap:=h' }) :
  wpAny (model prog w) A (Builtin.«zip.__next__» ⟨[.ref (n + 4)],[]⟩) (fun fin s'=>∃ v,fin = .done (.ret v)∧Q v s') E s:=by
 obtain ⟨hz,hTI,⟨u,v,hTO⟩,hi1,hi2⟩:=Z
 show wpAny _ _ (field (.ref (n + 4)) 2 >>= _) _ _ _
 refine wpAny_bind (wpAny_field hz rfl (x:=.bool false) rfl ?_)
 show wpAny _ _ (field (.ref (n + 4)) 3 >>= _) _ _ _
 refine wpAny_bind (wpAny_field hz rfl (x:=.ref (n + 2)) rfl ?_)
 refine wpAny_bind (wpAny_seqItems hTI rfl ?_)
 show wpAny _ _ (Builtin.SmallTypes.ownedTupleIsFree (.ref (n + 4)) >>= _) _ _ _
 refine wpAny_bind ?_
 unfold Builtin.SmallTypes.ownedTupleIsFree
 refine wpAny_bind (wpAny_field hz rfl (x:=.none) rfl (wpAny_pure ?_))
 simp only [if_true]
 refine wpAny_bind (wpAny_rule ?_)
 refine wpAny_bind (wpAny_field hz rfl (x:=.ref (n + 3)) rfl ?_)
 refine wpAny_bind (wpAny_setField_rec hz (by simp) fun g1 hz1 hs1=>?_)
 replace hz1:IsZip g1 (n + 4) (n + 2) (n + 3) .ellipsis:=hz1
 refine wpAny_bind ?_
 simp only [List.zipIdx_cons,List.zipIdx_nil,List.forIn_cons,List.forIn_nil]
 refine wpAny_bind (wpAny_bind (wpAny_onRaise ?_))
 show wpAny _ _ (Builtin.SmallTypes.nextOf (.ref n) >>= _) _ _ _
 refine wpAny_bind (sub_item (hi1.keep fun o e=>(hs1.2 _ (nne (by omega))).trans e) (h1.keep fun o e=>(hs1.2 _ (nne (by omega))).trans e) hx fun g2 hi1' hs2=>wpAny_pure ?_)
 have hTO2:IsT g2 (n + 3) #[u,v]:=(hs2.2 _ (nne (by omega))).trans ((hs1.2 _ (nne (by omega))).trans hTO)
 refine wpAny_bind (wpAny_seqItems hTO2 rfl ?_)
 refine wpAny_bind (upd_tup hTO2 (by simp) fun g3 hTO3 hs3=>?_)
 replace hTO3:IsT g3 (n + 3) #[x,v]:=hTO3
 refine wpAny_bind (wpAny_letGo (wpAny_pure ?_))
 refine wpAny_bind (wpAny_bind (wpAny_onRaise ?_))
 show wpAny _ _ (Builtin.SmallTypes.nextOf (.ref (n + 1)) >>= _) _ _ _
 refine wpAny_bind (sub_item (hi2.keep fun o e=>(hs3.2 _ (nne (by omega))).trans ((hs2.2 _ (nne (by omega))).trans ((hs1.2 _ (nne (by omega))).trans e))) (h2.keep fun o e=>(hs3.2 _ (nne (by omega))).trans ((hs2.2 _ (nne (by omega))).trans ((hs1.2 _ (nne (by omega))).trans e))) hy fun g4 hi2' hs4=>wpAny_pure ?_)
 have hTO4:IsT g4 (n + 3) #[x,v]:=(hs4.2 _ (nne (by omega))).trans hTO3
 refine wpAny_bind (wpAny_seqItems hTO4 rfl ?_)
 refine wpAny_bind (upd_tup hTO4 (by simp) fun g5 hTO5 hs5=>?_)
 replace hTO5:IsT g5 (n + 3) #[x,y]:=hTO5
 refine wpAny_bind (wpAny_letGo (wpAny_pure (wpAny_pure ?_)))
 refine wpAny_bind (wpAny_seqItems hTO5 rfl ?_)
 refine wpAny_bind (wpAny_newTuple ?_)
 have hsz:g5.objs.size = s.heap.objs.size:=by rw [hs5.1,hs4.1,hs3.1,hs2.1,hs1.1]
 have hz5:IsZip g5 (n + 4) (n + 2) (n + 3) .ellipsis:=(hs5.2 _ (nne (by omega))).trans ((hs4.2 _ (nne (by omega))).trans ((hs3.2 _ (nne (by omega))).trans ((hs2.2 _ (nne (by omega))).trans hz1)))
 have off5:Off [n,n + 1,n + 3,n + 4] s.heap g5:=((((Off.of hs1 (by simp)).trans (Off.of hs2 (by simp))).trans (Off.of hs3 (by simp))).trans (Off.of hs4 (by simp))).trans (Off.of hs5 (by simp))
 have hzlt:n + 4 < g5.objs.size:=Heap.lt_size hz5
 show wpAny _ _ (Builtin.SmallTypes.ownedTupleHandOut (.ref (n + 4)) (.ref g5.objs.size) >>= _) _ _ _
 refine wpAny_bind ?_
 unfold Builtin.SmallTypes.ownedTupleHandOut
 have hz6:IsZip (g5.push { cls:=.type "tuple",data:=.seq #[x,y] }) (n + 4) (n + 2) (n + 3) .ellipsis:=Heap.get?_push_of_some _ hz5
 refine wpAny_bind (wpAny_setField_rec hz6 (by simp) fun g7 hz7 hs7=>?_)
 replace hz7:IsZip g7 (n + 4) (n + 2) (n + 3) (rawInt g5.objs.size):=hz7
 refine wpAny_setField_rec hz7 (by simp) fun g8 hz8 hs8=>?_
 replace hz8:IsZip g8 (n + 4) (n + 2) (n + 3) (rawInt g5.objs.size):=hz8
 have up:∀ c o,c≠n + 4→g5.get? c = some o→g8.get? c = some o:=fun c o c1 e=>(hs8.2 _ c1).trans ((hs7.2 _ c1).trans (Heap.get?_push_of_some _ e))
 have hT8:IsT g8 g5.objs.size #[x,y]:=(hs8.2 _ (Nat.ne_of_gt hzlt)).trans ((hs7.2 _ (Nat.ne_of_gt hzlt)).trans (Heap.get?_push_size _ rfl))
 have hz8':g8.objs.size = g5.objs.size + 1:=by rw [hs8.1,hs7.1,Heap.size_push]
 rw [hsz] at hz8 hT8 hz8'
 refine wpAny_pure ⟨_,rfl,?_⟩
 show Q (.ref g5.objs.size) _
 rw [hsz]
 refine hQ g8 ⟨hz8,up _ _ (nne (by omega)) (off5 _ _ (by simp) hTI),⟨x,y,up _ _ (nne (by omega)) hTO5⟩,?_,?_⟩ hT8 hz8' fun c o hc e=>?_
 ·exact hi1'.keep fun o e=>up _ o (nne (by omega)) ((hs5.2 _ (nne (by omega))).trans ((hs4.2 _ (nne (by omega))).trans ((hs3.2 _ (nne (by omega))).trans e)))
 ·exact hi2'.keep fun o e=>up _ o (nne (by omega)) ((hs5.2 _ (nne (by omega))).trans e)
 ·exact up c o (fun z=>hc (by simp [z])) (off5 c o hc e)
theorem zip2_stop {k1 k2:Bool} {n a b:Nat} {i:Nat} {xs ys:Array Value} {Q:Fin→Shared→Prop} (hh:A.handled = none) (Z:Zip2 k1 k2 n a b i .none s.heap) (ha:a < n) (hb:b < n)
  (h1:SrcOf k1 s.heap a xs) (h2:SrcOf k2 s.heap b ys) (hend:xs[i]? = none∨ys[i]? = none)
  (hE:∀ h' e,Off [n,n + 1,n + 3,n + 4] s.heap h'→(∃ o,h'.get? e = some o∧o.cls = .type "StopIteration")→E (.ref e) { s with heap:=h' }) :
  wpAny (model prog w) A (Builtin.«zip.__next__» ⟨[.ref (n + 4)],[]⟩) Q E s:=by
 obtain ⟨hz,hTI,⟨u,v,hTO⟩,hi1,hi2⟩:=Z
 show wpAny _ _ (field (.ref (n + 4)) 2 >>= _) _ _ _
 refine wpAny_bind (wpAny_field hz rfl (x:=.bool false) rfl ?_)
 show wpAny _ _ (field (.ref (n + 4)) 3 >>= _) _ _ _
 refine wpAny_bind (wpAny_field hz rfl (x:=.ref (n + 2)) rfl ?_)
 refine wpAny_bind (wpAny_seqItems hTI rfl ?_)
 show wpAny _ _ (Builtin.SmallTypes.ownedTupleIsFree (.ref (n + 4)) >>= _) _ _ _
 refine wpAny_bind ?_
 unfold Builtin.SmallTypes.ownedTupleIsFree
 refine wpAny_bind (wpAny_field hz rfl (x:=.none) rfl (wpAny_pure ?_))
 simp only [if_true]
 refine wpAny_bind (wpAny_rule ?_)
 refine wpAny_bind (wpAny_field hz rfl (x:=.ref (n + 3)) rfl ?_)
 refine wpAny_bind (wpAny_setField_rec hz (by simp) fun g1 hz1 hs1=>?_)
 replace hz1:IsZip g1 (n + 4) (n + 2) (n + 3) .ellipsis:=hz1
 refine wpAny_bind ?_
 simp only [List.zipIdx_cons,List.zipIdx_nil,List.forIn_cons,List.forIn_nil]
 refine wpAny_bind (wpAny_bind (wpAny_onRaise ?_))
 show wpAny _ _ (Builtin.SmallTypes.nextOf (.ref n) >>= _) _ _ _
 have fin:∀ {g h':Heap} {e:Addr},IsZip g (n + 4) (n + 2) (n + 3) .ellipsis→(∃ o,g.get? e = some o∧o.cls = .type "StopIteration")→Off [n,n + 1,n + 3,n + 4] s.heap g→∀ s':Shared,s' = { s with heap:=g } →
   wpAny (model prog w) A (setField (.ref (n + 4)) 0 .none) (fun _ s'=>E (.ref e) s') E s':=by
  intro g h' e hzg ⟨oe,hoe,hce⟩ off s' es
  subst es
  have hez:e≠n + 4:=fun z=>by subst z; rw [hzg] at hoe; cases hoe; simp at hce
  exact wpAny_setField_rec hzg (by simp) fun g9 _ hs9=>hE g9 e (off.trans (Off.of hs9 (by simp))) ⟨oe,(hs9.2 _ hez).trans hoe,hce⟩
 cases hx:xs[i]? with
 | none =>
  refine wpAny_bind (sub_end hh (hi1.keep fun o e=>(hs1.2 _ (nne (by omega))).trans e) (h1.keep fun o e=>(hs1.2 _ (nne (by omega))).trans e) hx fun g2 e hs2 he=>?_)
  exact fin (h':=g2) (hs2 _ _ (nne (by omega)) hz1) he ((Off.of hs1 (by simp)).trans fun c o hc q=>hs2 c o (fun z=>hc (by simp [z])) q) _ rfl
 | some x =>
  have hy:ys[i]? = none:=by rcases hend with h | h; rw [hx] at h; cases h; exact h
  refine wpAny_bind (sub_item (hi1.keep fun o e=>(hs1.2 _ (nne (by omega))).trans e) (h1.keep fun o e=>(hs1.2 _ (nne (by omega))).trans e) hx fun g2 hi1' hs2=>wpAny_pure ?_)
  have hTO2:IsT g2 (n + 3) #[u,v]:=(hs2.2 _ (nne (by omega))).trans ((hs1.2 _ (nne (by omega))).trans hTO)
  refine wpAny_bind (wpAny_seqItems hTO2 rfl ?_)
  refine wpAny_bind (upd_tup hTO2 (by simp) fun g3 hTO3 hs3=>?_)
  refine wpAny_bind (wpAny_letGo (wpAny_pure ?_))
  refine wpAny_bind (wpAny_bind (wpAny_onRaise ?_))
  show wpAny _ _ (Builtin.SmallTypes.nextOf (.ref (n + 1)) >>= _) _ _ _
  refine wpAny_bind (sub_end hh (hi2.keep fun o e=>(hs3.2 _ (nne (by omega))).trans ((hs2.2 _ (nne (by omega))).trans ((hs1.2 _ (nne (by omega))).trans e))) (h2.keep fun o e=>(hs3.2 _ (nne (by omega))).trans ((hs2.2 _ (nne (by omega))).trans ((hs1.2 _ (nne (by omega))).trans e))) hy fun g4 e hs4 he=>?_)
  exact fin (h':=g4) (hs4 _ _ (nne (by omega)) ((hs3.2 _ (nne (by omega))).trans ((hs2.2 _ (nne (by omega))).trans hz1))) he ((((Off.of hs1 (by simp)).trans (Off.of hs2 (by simp))).trans (Off.of hs3 (by simp))).trans fun c o hc q=>hs4 c o (fun z=>hc (by simp [z])) q) _ rfl
theorem pyNext_zip2 {k1 k2:Bool} {n a b:Nat} {i:Nat} {xs ys:Array Value} {x y:Value} {Q:Option Value→Shared→Prop} (Z:Zip2 k1 k2 n a b i .none s.heap) (ha:a < n) (hb:b < n)
  (h1:SrcOf k1 s.heap a xs) (h2:SrcOf k2 s.heap b ys) (hx:xs[i]? = some x) (hy:ys[i]? = some y)
  (hQ:∀ h',Zip2 k1 k2 n a b (i + 1) (rawInt s.heap.objs.size) h'→IsT h' s.heap.objs.size #[x,y]→h'.objs.size = s.heap.objs.size + 1→Off [n,n + 1,n + 3,n + 4] s.heap h'→Q (some (.ref s.heap.objs.size)) { s with heap:=h' }) :
  wpAny (model prog w) A (pyNext (.ref (n + 4))) Q E s:=by
 have hT:s.TypeIs (.ref (n + 4)) "zip":=⟨_,Z.z,rfl⟩
 unfold pyNext
 exact wpAny_bind (wpAny_attempt (wpAny_callSpecial?_slot (name:=Str.ofString "__next__") hT F.slot_zip_next
  (wpAny_call_entry F.slot_zip_next hT F.entry_zip_next
   (zip2_next Z ha hb h1 h2 hx hy fun h' a1 a2 a3 a4=>wpAny_pure (hQ h' a1 a2 a3 a4)) (F.args_zip_next_1 _))))
theorem pyNext_zip2_end {k1 k2:Bool} {n a b:Nat} {i:Nat} {xs ys:Array Value} {Q:Option Value→Shared→Prop} (hh:A.handled = none) (Z:Zip2 k1 k2 n a b i .none s.heap) (ha:a < n) (hb:b < n)
  (h1:SrcOf k1 s.heap a xs) (h2:SrcOf k2 s.heap b ys) (hend:xs[i]? = none∨ys[i]? = none)
  (hQ:∀ h',Off [n,n + 1,n + 3,n + 4] s.heap h'→Q none { s with heap:=h' }):wpAny (model prog w) A (pyNext (.ref (n + 4))) Q E s:=by
 have hT:s.TypeIs (.ref (n + 4)) "zip":=⟨_,Z.z,rfl⟩
 unfold pyNext
 refine wpAny_bind (wpAny_attempt (wpAny_callSpecial?_slot (name:=Str.ofString "__next__") hT F.slot_zip_next
  (wpAny_call_entry F.slot_zip_next hT F.entry_zip_next (zip2_stop (A:=A.in1) hh Z ha hb h1 h2 hend fun h' e hk he=>?_) (F.args_zip_next_1 _))))
 obtain ⟨o,ho,hc⟩:=he
 refine wpAny_bind (wpAny_isInstance (T:="StopIteration") (b:=true) ⟨o,ho,hc⟩ isSubtype_stop ?_)
 exact wpAny_pure (hQ _ hk)
end
abbrev zh5 (k1 k2:Bool) (h:Heap) (a b:Addr):Heap:=((((h.push (itObj k1 a)).push (itObj k2 b)).push { cls:=.type "tuple",data:=.seq #[.ref h.objs.size,.ref (h.objs.size + 1)] }).push { cls:=.type "tuple",data:=.seq #[.none,.none] }).push
 { cls:=.type "zip",data:=.fields #[.none,.bool false,.bool false,.ref (h.objs.size + 2),.ref (h.objs.size + 3)] }
theorem zip2_made (k1 k2:Bool) (a b:Addr) (xs ys:Array Value) :
  Meets (Builtin.«zip.__new__» ⟨[.type "zip",.ref a,.ref b],[]⟩) (fun _ R s=>SrcOf k1 s.heap a xs∧SrcOf k2 s.heap b ys ∧
   R (.ok (.ret (.ref (s.heap.objs.size + 4)))) { s with heap:=zh5 k1 k2 s.heap a b }) :=
 .of_wp fun prog w A R s h=>by
  obtain ⟨hp,g,d,tk,os⟩:=s; obtain ⟨hl1,hl2,h⟩:=h
  have hsub:=sub_zip
  have hL1:SrcOf k1 (Shared.heap ⟨hp,g,d,tk,os⟩) a xs:=hl1
  have hL2:SrcOf k2 (Shared.heap ⟨hp.push (itObj k1 a),g,d,tk,os⟩) b ys:=SrcOf.keep hl2 fun o e=>Heap.get?_push_of_some _ e
  wp_walk using src_iter hL1,src_iter hL2
  refine ⟨_,rfl,?_⟩
  simp only [Heap.size_push]
  exact h
end L2
namespace L2
open PySem PySem.Spec PyProof.Rows
def Sq (k:Bool) (K:PySem.W.Frag) (H:Hp) (a:Addr) (xs:List V):Prop:=match k with | true=>SqT K H a xs | false=>SqL K H a xs
section
variable {X:Cx} {pins:List (Addr×Obj)} {σ:St} {H H':Hp} {s:Shared}
theorem Inv.sq {k:Bool} {a:Addr} {xs:List V} (I:Inv X pins σ H s) (h:Sq k X.K H a xs):∃ its:List Value,Vals xs its∧SrcOf k s.heap a its.toArray∧xs.length≤sizeLine:=by
 cases k with
 | true=>exact I.tuple h
 | false =>
  obtain ⟨its,r,p,z⟩:=I.list h
  exact ⟨its,r,p.isList,z⟩
theorem Inv.sq_inj {k:Bool} {a:Addr} {xs ys:List V} (I:Inv X pins σ H s) (h:Sq k X.K H a xs) (h':Sq k X.K H a ys):xs = ys:=by
 cases k with
 | true=>exact I.tuple_inj h h'
 | false=>exact I.list_inj h h'
theorem Inv.off {h':Heap} {t':Nat} {ch:List Addr} (I:Inv X pins σ H s) (hf:∀ b∈ch,FpOk X pins H b) (off:Off ch s.heap h') (hok:HOk X.prog X.w H' h')
  (free:∀ b o,b∉ch→s.heap.get? b = some o→H b = none→H' b = none) (same:∀ b o,H b = some o→H' b = some o):Inv X pins σ H' { s with heap:=h',toks:=t' }:=by
 refine I.step (g':=s.gens) (d':=s.drawn) (ch:=ch) (fun b hb=>?_) (fun b o _ _ hc e _=>off b o hc e) (fun b o _ _ hc e _=>⟨o.slots,off b o hc e⟩) (fun b o hc e n=>free b o hc e n) (fun b o hc e=>⟨o,off b o hc e⟩)
  (fun b xs e=>same b _ e) (fun b o u e=>same b _ e) (fun b ps e=>⟨#[],by rw [same b _ e]; simp⟩) (fun m hm=>?_) hok I.bare
 ·obtain ⟨f0,f1,f2,f3,f4,f5⟩:=hf b hb
  exact ⟨f3,f1,f4,f5⟩
 ·obtain ⟨o,es,ep,ho,r⟩:=hm
  exact ⟨o,es,ep,off _ o (fun z=>(hf _ z).2.1 rfl) ho,r⟩
theorem HOk.off {P:Program} {w:World} {h h':Heap} {ch:List Addr} (x:HOk P w H h) (hn:∀ b∈ch,H b = none) (off:Off ch h h'):HOk P w H h':=fun a o e=>by
 have na:∀ b u,H b = some u→b∉ch:=fun b u q z=>by rw [hn b z] at q; cases q
 refine (x a o e).stay (fun b u hb q=>off b u ?_ q) (fun _ q=>q) fun _ _ q=>q
 rcases hb with rfl | hb
 ·exact na _ _ e
 ·exact na _ _ hb
theorem HOk.offNew {P:Program} {w:World} {h h':Heap} {ch:List Addr} {T:Addr} {ob:HO} (x:HOk P w H h) (hn:∀ b∈ch,H b = none) (off:Off ch h h') (hT:h.objs.size≤T) (new:ObjOk P w (upd H T ob) h' T ob):HOk P w (upd H T ob) h':=fun a o e=>by
 have hTn:=x.fresh hT
 have na:∀ b u,H b = some u→b∉ch:=fun b u q z=>by rw [hn b z] at q; cases q
 by_cases ha:a = T
 ·subst ha; rw [upd_same] at e; cases e; exact new
 ·rw [upd_ne ha] at e
  refine (x a o e).stay (fun b u hb q=>off b u ?_ q) (fun c q=>by rw [upd_ne (ne_of_none q hTn)]; exact q) fun c xs q=>by rw [upd_ne (ne_of_none q hTn)]; exact q
  rcases hb with rfl | hb
  ·exact na _ _ e
  ·exact na _ _ hb
end
theorem off_mem {c:Addr} {n:Nat} (z:c∈([n,n + 1,n + 3,n + 4]:List Addr)):c∈([n + 4,n + 2,n + 3,n,n + 1]:List Addr):=by
 simp only [List.mem_cons,List.not_mem_nil,or_false] at z ⊢
 rcases z with h | h | h | h <;> simp [h]
def Itz (K : PySem.W.Frag) (k1 k2 : Bool) (a b : Addr) : It :=
  ⟨fun i H => ∃ xs ys x y, Sq k1 K H a xs ∧ Sq k2 K H b ys ∧ xs[i]? = some x ∧ ys[i]? = some y,
   fun i H v H' => ∃ p x y, v = .ref p ∧ H p = none ∧ (∀ xs, Sq k1 K H a xs → xs[i]? = some x) ∧ (∀ ys, Sq k2 K H b ys → ys[i]? = some y) ∧ H' = upd H p (.tup [x, y]),
   fun i H => ∃ xs ys, Sq k1 K H a xs ∧ Sq k2 K H b ys ∧ (xs.length ≤ i ∨ ys.length ≤ i)⟩
theorem turn_zip2 {P:Program} {w:World} {K:PySem.W.Frag} {es:List Expr} {kk:Nat} {pos:Pos} {k1 k2:Bool} (n a b:Nat) (ha:a < n) (hb:b < n) :
  Turn P w K (.Tuple es kk pos) (Itz K k1 k2 a b) [n + 4,n + 2,n + 3,n,n + 1] (n + 4) (fun i h=>Zip2 k1 k2 n a b i .none h) where
 mem:=by simp
 obj:=fun i h st c hc=>by
  obtain ⟨hz,hTI,⟨u,v,hTO⟩,hi1,hi2⟩:=st
  simp only [List.mem_cons,List.not_mem_nil,or_false] at hc
  rcases hc with rfl | rfl | rfl | rfl | rfl
  ·exact ⟨_,hz,fun v z=>nomatch z⟩
  ·exact ⟨_,hTI,fun v z=>nomatch z⟩
  ·exact ⟨_,hTO,fun v z=>nomatch z⟩
  ·exact hi1.obj
  ·exact hi2.obj
 keep:=fun i h h' st k=>by
  obtain ⟨hz,hTI,⟨u,v,hTO⟩,hi1,hi2⟩:=st
  exact ⟨k _ (by simp) _ hz,k _ (by simp) _ hTI,⟨u,v,k _ (by simp) _ hTO⟩,hi1.keep fun o e=>k _ (by simp) o e,hi2.keep fun o e=>k _ (by simp) o e⟩
 item:=by
  intro X hP hw hK hc i pins s σ H E I hf st hg
  subst hP hw hK
  obtain ⟨xs,ys,x,y,qx,qy,ex,ey⟩:=hg
  obtain ⟨is1,r1,s1,_⟩:=I.sq qx
  obtain ⟨is2,r2,s2,_⟩:=I.sq qy
  obtain ⟨u,hu,ru⟩:=r1.get ex
  obtain ⟨v,hv,rv⟩:=r2.get ey
  refine pyNext_zip2 st ha hb s1 s2 (x:=u) (y:=v) (by simpa using hu) (by simpa using hv) fun h' Z hT hsz off=>⟨_,rfl,?_⟩
  have hTn:H s.heap.objs.size = none:=I.hok.fresh (Nat.le_refl _)
  have zlt:n + 4 < s.heap.objs.size:=Heap.lt_size st.z
  refine wpAny_letOwnedTupleGo_zip Z.z fun h2 hz2 hs2=>?_
  have off2:Off [n + 4,n + 2,n + 3,n,n + 1] s.heap h2:=fun c o hc e=>(hs2.2 c fun z=>hc (by simp [z])).trans (off c o (fun z=>hc (off_mem z)) e)
  have hT2:IsT h2 s.heap.objs.size #[u,v]:=(hs2.2 _ (Nat.ne_of_gt zlt)).trans hT
  refine ⟨.ref s.heap.objs.size,upd H s.heap.objs.size (.tup [x,y]),?_,rfl,⟨_,x,y,rfl,hTn,fun zs hzs=>by rw [I.sq_inj hzs qx]; exact ex,fun zs hzs=>by rw [I.sq_inj hzs qy]; exact ey,rfl⟩,?_,fun c hc=>?_⟩
  ·refine Inv.off (s:=s) (h':=h2) (t':=s.toks) (ch:=[n + 4,n + 2,n + 3,n,n + 1]) I hf off2 (I.hok.offNew (fun c hc=>(hf c hc).1) off2 (Nat.le_refl _) ?_) (fun c o _ e hn=>?_) fun c o e=>?_
   ·exact ⟨by show 2≤sizeLine; decide,[u,v],.cons ru (.cons rv .nil),⟨_,hT2,rfl,_,rfl⟩⟩
   ·rw [upd_ne (Nat.ne_of_lt (Heap.lt_size e))]; exact hn
   ·rw [upd_ne (ne_of_none e hTn)]; exact e
  ·obtain ⟨z1,z2,⟨a1,a2,z3⟩,z4,z5⟩:=Z
   exact ⟨hz2,(hs2.2 _ (nne (by omega))).trans z2,⟨a1,a2,(hs2.2 _ (nne (by omega))).trans z3⟩,z4.keep fun o e=>(hs2.2 _ (nne (by omega))).trans e,z5.keep fun o e=>(hs2.2 _ (nne (by omega))).trans e⟩
  ·have cn:c≠s.heap.objs.size:=by
    simp only [List.mem_cons,List.not_mem_nil,or_false] at hc
    rcases hc with rfl | rfl | rfl | rfl | rfl <;> exact nne (by omega)
   rw [upd_ne cn]; exact (hf c hc).1
 done:=by
  intro X hP hw hK hc i pins s σ H E I hf st hg
  subst hP hw hK
  obtain ⟨xs,ys,qx,qy,hend⟩:=hg
  obtain ⟨is1,r1,s1,_⟩:=I.sq qx
  obtain ⟨is2,r2,s2,_⟩:=I.sq qy
  have e1:=r1.length
  have e2:=r2.length
  refine pyNext_zip2_end (I.ok.hd hc) st ha hb s1 s2 ?_ fun h' off=>⟨rfl,?_⟩
  ·rcases hend with z | z
   ·exact .inl (by simp; omega)
   ·exact .inr (by simp; omega)
  ·have off2:Off [n + 4,n + 2,n + 3,n,n + 1] s.heap h':=fun c o hc e=>off c o (fun z=>hc (off_mem z)) e
   exact Inv.off (s:=s) (t':=s.toks) I hf off2 (I.hok.off (fun c hc=>(hf c hc).1) off2) (fun _ _ _ _ q=>q) fun _ _ q=>q
 self:=fun _ _ _ _ _ st h=>wpAny_pyIter_zip st.z h
section
variable {X:Cx}
def iZip2 (K:PySem.W.Frag) (k1 k2:Bool) (ta:TA):TI:=fun σ H R=>ta σ H fun vs H1=>∃ a b,vs = [.ref a,.ref b]∧(∃ xs,Sq k1 K H1 a xs)∧(∃ ys,Sq k2 K H1 b ys)∧R (Itz K k1 k2 a b) H1
theorem pi_zip2 (k1 k2:Bool) {es:List Expr} {kk:Nat} {tpos:Pos} {a b:Expr} {ta:TA} {p pos:Pos} (hg:Gl X "zip") (hm:X.mg "zip" = none) (ha:PA X [a,b] ta) (hs:starEach [a,b] X.env = [(false,eval a X.env),(false,eval b X.env)]:=by rfl) (hs2:starEach [b] X.env = [(false,eval b X.env)]:=by rfl) :
  PI X (.Tuple es kk tpos) (.Call (.Name "zip" p) [a,b] [] pos) (iZip2 X.K k1 k2 ta):=by
 intro pins s σ H R I h
 refine Call_ (ld_blt I hg hm boot_zip (PyProof.Rows.callWith_type1 (thn (ha pos pins s σ H _ I h) fun us s1 ⟨vs,H1,I1,r1,q1⟩=>?_) (by rw [hs,hs2]) (by rw [hs2]; rfl)))
 obtain ⟨a',b',e,⟨xs,qx⟩,⟨ys,qy⟩,q⟩:=q1
 subst e
 obtain ⟨u,v,rfl,ru,rv⟩:=vals2 r1
 cases ru
 cases rv
 obtain ⟨is1,r1,s1',_⟩:=I1.sq qx
 obtain ⟨is2,r2,s2',_⟩:=I1.sq qy
 refine callType_new PySem.F.called_zip (by decide) (PySem.F.typeCall_zip_2 _ _) (PySem.F.newCall_zip_2 _ _) (fun obj=>PySem.F.args_object_init_3 obj _ _) PySem.F.entry_zip_new (zip2_made k1 k2 a' b' is1.toArray is2.toArray) ⟨s1',s2',?_⟩
 have z1:(s1.heap.push (itObj k1 a')).objs.size = s1.heap.objs.size + 1:=Heap.size_push ..
 have z2:((s1.heap.push (itObj k1 a')).push (itObj k2 b')).objs.size = s1.heap.objs.size + 2:=by rw [Heap.size_push,z1]
 have z3:(((s1.heap.push (itObj k1 a')).push (itObj k2 b')).push { cls:=.type "tuple",data:=.seq #[.ref s1.heap.objs.size,.ref (s1.heap.objs.size + 1)] }).objs.size = s1.heap.objs.size + 3:=by rw [Heap.size_push,z2]
 have z4:((((s1.heap.push (itObj k1 a')).push (itObj k2 b')).push { cls:=.type "tuple",data:=.seq #[.ref s1.heap.objs.size,.ref (s1.heap.objs.size + 1)] }).push { cls:=.type "tuple",data:=.seq #[.none,.none] }).objs.size = s1.heap.objs.size + 4:=by rw [Heap.size_push,z3]
 have g5:(zh5 k1 k2 s1.heap a' b').get? (s1.heap.objs.size + 4) = some { cls:=.type "zip",data:=.fields #[.none,.bool false,.bool false,.ref (s1.heap.objs.size + 2),.ref (s1.heap.objs.size + 3)] }:=by rw [← z4]; exact Heap.get?_push_size _ rfl
 have g4:(zh5 k1 k2 s1.heap a' b').get? (s1.heap.objs.size + 3) = some { cls:=.type "tuple",data:=.seq #[.none,.none] }:=by rw [← z3]; exact Heap.get?_push_of_some _ (Heap.get?_push_size _ rfl)
 have g3:(zh5 k1 k2 s1.heap a' b').get? (s1.heap.objs.size + 2) = some { cls:=.type "tuple",data:=.seq #[.ref s1.heap.objs.size,.ref (s1.heap.objs.size + 1)] }:=by rw [← z2]; exact Heap.get?_push_of_some _ (Heap.get?_push_of_some _ (Heap.get?_push_size _ rfl))
 have g2:(zh5 k1 k2 s1.heap a' b').get? (s1.heap.objs.size + 1) = some (itObj k2 b'):=by rw [← z1]; exact Heap.get?_push_of_some _ (Heap.get?_push_of_some _ (Heap.get?_push_of_some _ (Heap.get?_push_size _ (by cases k2 <;> rfl))))
 have g1:(zh5 k1 k2 s1.heap a' b').get? s1.heap.objs.size = some (itObj k1 a'):=Heap.get?_push_of_some _ (Heap.get?_push_of_some _ (Heap.get?_push_of_some _ (Heap.get?_push_of_some _ (Heap.get?_push_size _ (by cases k1 <;> rfl)))))
 have old:∀ c o,s1.heap.get? c = some o→(zh5 k1 k2 s1.heap a' b').get? c = some o:=fun c o x=>Heap.get?_push_of_some _ (Heap.get?_push_of_some _ (Heap.get?_push_of_some _ (Heap.get?_push_of_some _ (Heap.get?_push_of_some _ x))))
 have Z:Zip2 k1 k2 s1.heap.objs.size a' b' 0 .none (zh5 k1 k2 s1.heap a' b'):=⟨g5,g3,⟨_,_,g4⟩,itObj_at g1,itObj_at g2⟩
 show _∧_
 refine ⟨⟨_,g5,rfl⟩,wpAny_pyIter_zip Z.z ?_⟩
 refine ⟨_,_,_,_,H1,rfl,I1.kept (t':=s1.toks) old,turn_zip2 s1.heap.objs.size a' b' s1'.lt s2'.lt,Z,fun c hc=>?_,q⟩
 have hcl:s1.heap.objs.size≤c:=by
  simp only [List.mem_cons,List.not_mem_nil,or_false] at hc
  rcases hc with rfl | rfl | rfl | rfl | rfl <;> first | exact Nat.le_add_right _ _ | exact Nat.le_refl _
 exact I1.fpOk hcl (I1.hok.fresh hcl)
end
end L2
namespace L2
open PySem PySem.Spec PyProof.Rows
def bitsI (i:Int):Nat:=Builtin.Int.intBits i
def CMulB (i j:Int):Prop:=bitsI i + bitsI j≤1000000
theorem CMulB.ok {i j:Int} (h:CMulB i j):IntMulOk i j:=by
 unfold IntMulOk
 intro z
 simp only [Bool.and_eq_true,decide_eq_true_eq] at z
 have z2:=z.2
 unfold Builtin.Int.intTooBig at z2
 have h':Builtin.Int.intBits i + Builtin.Int.intBits j≤1000000:=h
 have b:(1000000:Int)≤bitsLine:=by decide
 simp only [decide_eq_true_eq] at z2
 omega
def CDivB (i j:Int):Prop:=0 < j∧j.natAbs.log2 < 9000
section
variable {X:Cx}
theorem op_mulB:OpR X (binaryOp .Mult) (rI CMulB fun i j=>.int (i * j)):=opI fun _ _ _ _ _ _ _ hc q=>mul_int q hc.ok
theorem op_fdivB:OpR X (binaryOp .FloorDiv) (rI CDivB fun i j=>.int (i / j)):=opI fun i j _ _ _ _ _ hc q=>by
 have h1:(0:Int) < j:=hc.1
 exact floordiv_int (by omega) (by rw [Int.fdiv_eq_ediv_of_nonneg i (by omega)]; exact q) (.inl (PyProof.noPylong_of_log2 hc.2))
def TyR (K:PySem.W.Frag) (H:Hp) (x:V) (t:Value):Prop:=TyOf K H x t∨(∃ a xs,x = .ref a∧SqT K H a xs∧t = .type "tuple")∨(∃ a xs,x = .ref a∧SqL K H a xs∧t = .type "list")
theorem call_isinst:CallR X (.builtin "isinstance") (fun xs H Q=>∃ x n t b,xs = [x,.ty n]∧TyR X.K H x t∧PySem.W.kitOne X.K t (.type n) = some b∧Q (.bl b) H):=by
 intro pins s σ H xs us Q I r h
 obtain ⟨x,n,t,b,rfl,ty,e,q⟩:=h
 obtain ⟨u,c,rfl,ru,rc⟩:=vals2 r
 obtain rfl:c = Value.type n:=rc
 have fin:∀ tk,EP X pins σ Q (.bool b) { s with toks:=tk }:=fun tk=>⟨.bl b,H,I.tok tk,rfl,q⟩
 rcases ty with ty | ⟨a,ys,rfl,hs,rfl⟩ | ⟨a,ys,rfl,hs,rfl⟩
 ·exact isinst_ok I ru ty e fin
 ·obtain rfl:u = Value.ref a:=ru
  obtain ⟨its,_,p,_⟩:=I.tuple hs
  obtain ⟨o,h1,h2,_⟩:=p
  exact PySem.W.kia_one PySem.W.kitx_tuple I.kIn ⟨o,h1,h2⟩ e (fun z=>nomatch z) fin
 ·obtain rfl:u = Value.ref a:=ru
  obtain ⟨its,_,p,_⟩:=I.list hs
  obtain ⟨o,n',h1,h2,_⟩:=p
  exact PySem.W.kia_one PySem.W.kitx_list I.kIn ⟨o,h1,h2⟩ e (fun z=>nomatch z) fin
end
theorem kit_same (K:PySem.W.Frag) (t:Value):PySem.W.kitOne K t t = some true:=by
 unfold PySem.W.kitOne
 rw [if_pos (by simp)]
def rEqT (K:PySem.W.Frag):R2:=fun x y H Q=>∃ (a b:Addr) (ns ms:List Int),x = .ref a∧y = .ref b∧SqT K H a (ns.map V.int)∧SqT K H b (ms.map V.int)∧Q (.bl (decide (ns = ms))) H
theorem all_eq_ints:∀ (ns ms:List Int),ns.length = ms.length→(List.range ns.length).all (fun j=>ns.getD j 0 == ms.getD j 0) = decide (ns = ms):=by
 intro ns ms hl
 rw [Bool.eq_iff_iff]
 simp only [List.all_eq_true,List.mem_range,beq_iff_eq,decide_eq_true_eq]
 constructor
 ·intro h
  apply List.ext_getElem hl
  intro i h1 h2
  have:=h i h1
  simpa [List.getD,h1,h2] using this
 ·intro h i hi
  rw [h]
section
variable {X:Cx}
theorem op_eqT (hu:X.A.units + 1 < cLine):OpR X (compareOp .Eq) (rEqT X.K):=by
 intro pins s σ H x y v u Q I rx ry h
 obtain ⟨a,b,ns,ms,rfl,rfl,ha,hb,q⟩:=h
 cases rx
 cases ry
 obtain ⟨its,r1,p1,_⟩:=I.tuple ha
 obtain ⟨its2,r2,p2,_⟩:=I.tuple hb
 have l1:its.length = ns.length:=by rw [← r1.length]; simp
 have l2:its2.length = ms.length:=by rw [← r2.length]; simp
 refine SeqAt.eq_tupleAt (e:=fun j=>ns.getD j 0 == ms.getD j 0) (show s.heap.IsTuple a its.toArray from p1) (show s.heap.IsTuple b its2.toArray from p2) (by omega) (fun j h1 h2=>?_) ?_
 ·have j1:j < ns.length:=by simp at h1; omega
  have j2:j < ms.length:=by simp at h2; omega
  obtain ⟨u1,e1,t1,f1⟩:=r1.get (i:=j) (x:=.int (ns[j])) (by simp [j1])
  obtain ⟨u2,e2,t2,f2⟩:=r2.get (i:=j) (x:=.int (ms[j])) (by simp [j2])
  have g1:its.toArray[j] = u1:=by
   have:=List.getElem?_eq_some_iff.mp e1
   obtain ⟨_,z⟩:=this
   simpa using z
  have g2:its2.toArray[j] = u2:=by
   have:=List.getElem?_eq_some_iff.mp e2
   obtain ⟨_,z⟩:=this
   simpa using z
  rw [g1,g2,f1,f2]
  have k1:ns.getD j 0 = ns[j]:=by simp [List.getD,j1]
  have k2:ms.getD j 0 = ms[j]:=by simp [List.getD,j2]
  show SeqAt.EqAt _ _ _ _ (ns.getD j 0 == ms.getD j 0)
  rw [k1,k2]
  exact SeqAt.EqAt.int_int _ _ _ _
 ·refine ⟨.bl (decide (ns = ms)),H,I,?_,q⟩
  show Value.bool _ = Value.bool _
  congr 1
  simp only [List.size_toArray,l1,l2]
  by_cases hl:ns.length = ms.length
  ·rw [hl,Nat.min_self,← hl,all_eq_ints ns ms hl]; simp
  ·have:ns≠ms:=fun z=>hl (by rw [z])
   rw [decide_eq_false this]
   simp [hl]
end
end L2
namespace L2
open PySem PySem.Spec PyProof.Rows
def Def (K:PySem.W.Frag) (mg:Str→Option Value) (x:Str) (st:Stmt) (ps:List Str):Prop:=∃ f fd,Fun K x x st f fd∧mg x = some (.ref f)∧Binds K fd ps []
def Ok (P:Program) (w:World) (K:PySem.W.Frag) (mg:Str→Option Value) (base:Heap) (k:Nat) (x:Str) (ps:List Str) (sp:Sp):Prop :=
 ∃ f fd,FnOk P w K mg base CX0 k f fd ps sp∧mg x = some (.ref f)∧PySem.W.keepIn K (.ref f) = true∧Binds K fd ps []
section
variable {P:Program} {w:World} {K:PySem.W.Frag} {mg:Str→Option Value} {base:Heap}
theorem Def.ok {x:Str} {st:Stmt} {N ps:List Str} {k:Nat} {sp:Sp} (D:Def K mg x st ps) (S:FnScope N ps (defScope st)) (len:∀ vs H Q E,sp vs H Q E→vs.length = ps.length)
  (hbody:∀ (f:Addr) (cdv:Value) (A:Around) (outer:List Env) (s:Shared) (H:Hp) (vs:List V) (Q:VK) (E:XK),Room k (A.deeper (envOfC x (defScope st) s.heap.objs.size f cdv))→sp vs H Q E →
   ∃ t,PSs (cxOf CX0 P w K mg base N x (defScope st) f cdv A outer s H E).nox (defBody st) t∧t { nx:=fun _ H'=>Q .non H',rt:=Q } (start N vs) H):Ok P w K mg base (k + 1) x ps sp:=by
 obtain ⟨f,fd,F,hm,hb⟩:=D
 exact ⟨f,fd,F.ok S len fun cdv A outer s H vs Q E hr h=>hbody f cdv A outer s H vs Q E hr h,hm,F.kp,hb⟩
end
section
variable {X:Cx} {k:Nat} {x:Str} {ps:List Str} {sp:Sp} {p pos:Pos} {e:Expr} {es:List Expr} {t:TA}
theorem pcall (O:Ok X.prog X.w X.K X.mg X.base k x ps sp) (hr:Room k X.A) (ha:PA X (e :: es) t) (hg:Gl X x:=by rfl)
  (hdb:(x == ("__debug__":Str)) = false:=by decide) (he:starEach (e :: es) X.env = (false,eval e X.env) :: starEach es X.env:=by rfl) (hpl:(backTo pos (starEach es X.env)).any (·.1) = false:=by rfl) :
  PE X (.Call (.Name x p) (e :: es) [] pos) (tCall sp [] E0 t):=by
 obtain ⟨f,fd,F,hm,hk,hb⟩:=O
 exact pe_call F hr hg hm hk hb .nil pass0 ha hdb he hpl
end
def spLaw (K:PySem.W.Frag):Sp:=fun vs H Q _=>∃ (a:Addr) (ns:List Int),vs = [.ref a]∧SqL K H a (ns.map V.int)∧ns.length≤63∧∀ H',Q (.bl true) H'
theorem Same.upd_new {H:Hp} {a:Addr} {o:HO} (h:H a = none):Same H (upd H a o):=fun b u e=>by rw [upd_ne (ne_of_none e h)]; exact e
theorem Same.at {K:PySem.W.Frag} {H H':Hp} {a:Addr} {xs:List V} (e:Same H H') (h:SqT K H a xs):SqT K H' a xs:=by
 rcases h with (h | ⟨o,h⟩) | h
 ·exact .inl (.inl (e _ _ h))
 ·exact .inl (.inr ⟨o,e _ _ h⟩)
 ·exact .inr h
theorem Same.sq {k:Bool} {K:PySem.W.Frag} {H H':Hp} {a:Addr} {xs:List V} (e:Same H H') (h:Sq k K H a xs):Sq k K H' a xs:=by
 cases k with
 | true=>exact Same.at e h
 | false=>exact Same.seq e h
def CW (t:Nat) (l:Addr) (n:Nat) (f:Nat→V) (fr:St) (H1:Hp) (i m:Nat) (σ1:St) (ys:List V) (H':Hp):Prop :=
 m = n - i∧i≤n∧(∃ own:St,own.length = t∧σ1 = own ++ fr)∧ys = (List.range i).map f∧Same H1 H'∧H' l = some (.lst ys)
theorem CW.next {t:Nat} {l:Addr} {n:Nat} {f:Nat→V} {fr:St} {H1 H' H5:Hp} {i:Nat} {y:V} (own:St) (ho:own.length = t) (hi:i < n) (hn:n≤1000000) (hl:H1 l = none) (hs:Same H1 H') (hl':H' l = some (.lst ((List.range i).map f))) (s5:Same H' H5) (ey:y = f i) :
  H5 l = some (.lst ((List.range i).map f))∧((List.range i).map f).length < sizeLine∧CW t l n f fr H1 (i + 1) (n - (i + 1)) (own ++ fr) ((List.range i).map f ++ [y]) (upd H5 l (.lst ((List.range i).map f ++ [y]))):=by
 subst ey
 refine ⟨s5 _ _ hl',?_,rfl,hi,⟨own,ho,rfl⟩,?_,fun b o e=>?_,upd_same⟩
 ·rw [List.length_map,List.length_range]
  exact Nat.lt_of_lt_of_le (Nat.lt_of_lt_of_le hi hn) (by decide)
 ·rw [List.range_succ,List.map_append]; rfl
 ·rw [upd_ne (ne_of_none e hl)]
  exact s5 _ _ (hs _ _ e)
theorem comp_by {J:It} {H1:Hp} {ix:List (Option Nat)} {σ:St} {g:TG} {tt:TT} {te:TE} {Q:VK} (t:Nat) (fr:St) (n:Nat) (f:Nat→V) (hpk:pick ix σ = List.replicate t none ++ fr)
  (hstop:∀ H',Same H1 H'→J.stop n H') (hgo:∀ i H',i < n→Same H1 H'→J.go i H')
  (step:∀ i x l H' H2 own,own.length = t→i < n→H1 l = none→Same H1 H'→H' l = some (.lst ((List.range i).map f))→J.yld i H' x H2 →
   g x (own ++ fr) H2 fun σ2 H3=>tt σ2 H3 fun b H4=>if b = true then te σ2 H4 fun y H5=>H5 l = some (.lst ((List.range i).map f))∧((List.range i).map f).length < sizeLine∧CW t l n f fr H1 (i + 1) (n - (i + 1)) σ2 ((List.range i).map f ++ [y]) (upd H5 l (.lst ((List.range i).map f ++ [y])))
    else CW t l n f fr H1 (i + 1) (n - (i + 1)) σ2 ((List.range i).map f) H4)
  (hQ:∀ l H',H1 l = none→Same H1 H'→H' l = some (.lst ((List.range n).map f))→Q (.ref l) H') :
  CompGoal ix g tt te σ Q J H1:=by
 intro l hl
 refine ⟨CW t l n f fr H1,⟨n,by simp,Nat.zero_le _,⟨_,List.length_replicate,hpk⟩,rfl,Same.upd_new hl,upd_same⟩,?_⟩
 rintro i m σ1 ys H' ⟨rfl,hi,⟨own,ho,rfl⟩,rfl,hs,hl'⟩
 refine ⟨hl',?_⟩
 by_cases hlt:i < n
 ·exact .inr ⟨hgo i H' hlt hs,n - (i + 1),by omega,fun x H2 hy=>step i x l H' H2 own ho hlt hl hs hl' hy⟩
 ·obtain rfl:i = n:=by omega
  exact .inl ⟨hstop H' hs,hQ l H' hl hs hl'⟩
theorem rd_comp1 {J:It} {H1:Hp} {ix:List (Option Nat)} {σ:St} {te:TE} {Q:VK} (fr:St) (n:Nat) (f:Nat→V) (hpk:pick ix σ = none :: fr) (hn:n≤1000000)
  (hstop:∀ H',Same H1 H'→J.stop n H') (hgo:∀ i H',i < n→Same H1 H'→J.go i H')
  (step:∀ i x H' H2 (Qc:VK),i < n→Same H1 H'→J.yld i H' x H2→(∀ H5,Same H' H5→Qc (f i) H5)→te (some x :: fr) H2 Qc)
  (hQ:∀ l H',H1 l = none→Same H1 H'→H' l = some (.lst ((List.range n).map f))→Q (.ref l) H'):CompGoal ix (gName 0) (fun _ H Q=>Q true H) te σ Q J H1:=by
 refine comp_by 1 fr n f hpk hstop hgo (fun i x l H' H2 own ho hi hl hs hl' hy=>?_) hQ
 obtain ⟨o1,rfl⟩:∃ o1,own = [o1]:=by match own,ho with | [o1],_=>exact ⟨o1,rfl⟩
 dsimp only [gName]
 rw [if_pos rfl]
 exact step i x H' H2 _ hi hs hy fun H5 s5=>CW.next (fr:=fr) [some x] rfl hi hn hl hs hl' s5 rfl
theorem rd_compZ {K:PySem.W.Frag} {k1 k2:Bool} {a b:Addr} {xs ys:List V} {H1:Hp} {ix:List (Option Nat)} {σ:St} {te:TE} {Q:VK} (fr:St) (f:Nat→V) (hpk:pick ix σ = none :: none :: fr) (ha:Sq k1 K H1 a xs) (hb:Sq k2 K H1 b ys) (hlen:xs.length = ys.length) (hn:xs.length≤1000000)
  (step:∀ i x y H' (Qc:VK),xs[i]? = some x→ys[i]? = some y→Same H1 H'→(∀ H5,Same H' H5→Qc (f i) H5)→te (some x :: some y :: fr) H' Qc)
  (hQ:∀ l H',H1 l = none→Same H1 H'→H' l = some (.lst ((List.range xs.length).map f))→Q (.ref l) H'):CompGoal ix (gTup K 2 (gCons (gName 0) (gCons (gName 1) gNil))) (fun _ H Q=>Q true H) te σ Q (Itz K k1 k2 a b) H1:=by
 refine comp_by 2 fr xs.length f hpk (fun H' s=>⟨_,_,s.sq ha,s.sq hb,.inl (Nat.le_refl _)⟩) (fun i H' hi s=>?_) (fun i x l H' H2 own ho hi hl hs hl' hy=>?_) hQ
 ·exact ⟨_,_,xs[i],ys[i]'(hlen ▸ hi),s.sq ha,s.sq hb,List.getElem?_eq_getElem hi,List.getElem?_eq_getElem (hlen ▸ hi)⟩
 ·obtain ⟨o1,o2,rfl⟩:∃ o1 o2,own = [o1,o2]:=by match own,ho with | [o1,o2],_=>exact ⟨o1,o2,rfl⟩
  obtain ⟨p,x',y',rfl,hp,e1,e2,rfl⟩:=hy
  have g1:=e1 _ (hs.sq ha)
  have g2:=e2 _ (hs.sq hb)
  refine ⟨p,_,rfl,SqT.of upd_same,rfl,_,_,rfl,_,_,rfl,rfl,?_⟩
  show ite (true = true) _ _
  rw [if_pos rfl]
  exact step i x' y' _ _ g1 g2 (hs.trans (Same.upd_new hp)) fun H5 s5=>CW.next (fr:=fr) [some x',some y'] rfl hi hn hl hs hl' ((Same.upd_new hp).trans s5) rfl
theorem int_get {r:List Int} {i:Nat} {x:V} (h:(r.map V.int)[i]? = some x):x = .int (r.getD i 0)∧i < r.length:=by
 rw [List.getElem?_map] at h
 cases e:r[i]? with
 | none=>rw [e] at h; cases h
 | some z =>
  rw [e] at h
  have hl:=(List.getElem?_eq_some_iff.mp e).1
  refine ⟨?_,hl⟩
  rw [← (Option.some.inj h),List.getD,e]; rfl
theorem int_at {r:List Int} {i:Nat} (h:i < r.length):(r.map V.int)[i]? = some (.int (r.getD i 0)):=by
 rw [List.getElem?_map,List.getD,List.getElem?_eq_getElem h]; rfl
theorem range_getD {α:Type} (f:Int→α) (r:List Int):(List.range r.length).map (fun i=>f (r.getD i 0)) = r.map f:=by
 apply List.ext_getElem
 ·simp
 ·intro i h1 h2
  simp at h1 h2
  simp [List.getD,h1]
theorem range_zip {α:Type} (f:Int→Int→α) (r q:List Int) (h:r.length = q.length):(List.range r.length).map (fun i=>f (r.getD i 0) (q.getD i 0)) = List.zipWith f r q:=by
 apply List.ext_getElem
 ·simp [h]
 ·intro i h1 h2
  simp at h1 h2
  have:i < q.length:=by omega
  simp [List.getD,h1,this]
theorem rd_zipRows {K:PySem.W.Frag} {a b:Addr} {r q:List Int} {H1:Hp} {ix:List (Option Nat)} {σ:St} {Q:VK} (op:Int→Int→Int) (hpk:pick ix σ = [none,none]) (ha:SqT K H1 a (r.map V.int)) (hb:SqT K H1 b (q.map V.int)) (hlen:r.length = q.length) (hn:r.length≤1000)
  (hQ:∀ l H',H1 l = none→Same H1 H'→H' l = some (.lst ((List.zipWith op r q).map V.int))→Q (.ref l) H') :
  CompGoal ix (gTup K 2 (gCons (gName 0) (gCons (gName 1) gNil))) (fun _ H Q=>Q true H) (tOp (rI0 fun i j=>.int (op i j)) (tVar 0) (tVar 1)) σ Q (Itz K true true a b) H1:=by
 refine rd_compZ (k1:=true) (k2:=true) [] (fun i=>.int (op (r.getD i 0) (q.getD i 0))) hpk ha hb (by simpa using hlen) (by rw [List.length_map]; omega) (fun i x y H' Qc ex ey hs kc=>?_) fun l H' hl hs hl'=>hQ l H' hl hs ?_
 ·obtain ⟨rfl,_⟩:=int_get ex
  obtain ⟨rfl,_⟩:=int_get ey
  exact ⟨_,rfl,_,rfl,_,_,rfl,rfl,kc _ (Same.refl _)⟩
 ·rw [hl',List.length_map,range_zip (fun x y=>V.int (op x y)) r q hlen,List.map_zipWith]
theorem rd_mapRow {K:PySem.W.Frag} {a:Addr} {r:List Int} {H1:Hp} {ix:List (Option Nat)} {σ:St} {te:TE} {Q:VK} (F:Int→V) (fr:St) (hpk:pick ix σ = none :: fr) (ha:SqT K H1 a (r.map V.int)) (hn:r.length≤1000)
  (step:∀ x H' (Qc:VK),x∈r→Same H1 H'→(∀ H5,Same H' H5→Qc (F x) H5)→te (some (.int x) :: fr) H' Qc)
  (hQ:∀ l H',H1 l = none→Same H1 H'→H' l = some (.lst (r.map F))→Q (.ref l) H'):CompGoal ix (gName 0) (fun _ H Q=>Q true H) te σ Q (Itt K a) H1:=by
 refine rd_comp1 fr r.length (fun i=>F (r.getD i 0)) hpk (by omega) (fun H' s=>⟨_,s.at ha,by simp⟩) (fun i H' hi s=>⟨_,_,s.at ha,int_at hi⟩) (fun i x H' H2 Qc hi hs hy kc=>?_) fun l H' hl hs hl'=>hQ l H' hl hs ?_
 ·obtain ⟨rfl,e1⟩:=hy
  obtain ⟨rfl,_⟩:=int_get (e1 _ (hs.at ha))
  exact step _ _ Qc (by rw [List.getD,List.getElem?_eq_getElem hi]; exact List.getElem_mem hi) hs kc
 ·rw [hl',range_getD F r]
end L2
namespace Mth
def prod5 (a b c d e:Nat):Int:=2 ^ a * 3 ^ b * 5 ^ c * 7 ^ d * 11 ^ e
theorem pw {p:Int} {n:Nat} (h:0 < p):0 < p ^ n:=by
 induction n with
 | zero=>rw [Int.pow_zero]; decide
 | succ n ih=>rw [Int.pow_succ]; exact Int.mul_pos ih h
theorem prod5_pos (a b c d e:Nat):0 < prod5 a b c d e:=by
 unfold prod5
 have h2:=pw (n:=a) (show (0:Int) < 2 by decide)
 have h3:=pw (n:=b) (show (0:Int) < 3 by decide)
 have h5:=pw (n:=c) (show (0:Int) < 5 by decide)
 have h7:=pw (n:=d) (show (0:Int) < 7 by decide)
 have h11:=pw (n:=e) (show (0:Int) < 11 by decide)
 exact Int.mul_pos (Int.mul_pos (Int.mul_pos (Int.mul_pos h2 h3) h5) h7) h11
theorem prod5_mul (a b c d e a' b' c' d' e':Nat):prod5 a b c d e * prod5 a' b' c' d' e' = prod5 (a + a') (b + b') (c + c') (d + d') (e + e'):=by
 unfold prod5
 simp only [Int.pow_add]
 ac_rfl
def P5 (p:Int):Prop:=p = 2∨p = 3∨p = 5∨p = 7∨p = 11
def Cop (m:Int):Prop:=∀ p,P5 p→m % p≠0
end Mth
namespace Mth
def bl (x:Int):Nat:=if x == 0 then 0 else x.natAbs.log2 + 1
theorem bl_le {x:Int} {k:Nat} (h:x.natAbs < 2 ^ k):bl x≤k:=by
 unfold bl
 split
 ·omega
 ·rename_i hx
  have hx':x.natAbs≠0:=by simpa using hx
  have:=(Nat.log2_lt hx').mpr h
  omega
theorem pow_lt {p:Nat} (hp:p < 16) (e:Nat):p ^ e < 2 ^ (4 * e + 1):=by
 have h1:p ^ e≤16 ^ e:=Nat.pow_le_pow_left (by omega) e
 have h2:(16:Nat) ^ e = 2 ^ (4 * e):=by rw [show (16:Nat) = 2 ^ 4 by decide,← Nat.pow_mul]
 have h3:(2:Nat) ^ (4 * e) < 2 ^ (4 * e + 1):=Nat.pow_lt_pow_right (by decide) (by omega)
 omega
theorem natAbs_pow (p:Int) (e:Nat):(p ^ e).natAbs = p.natAbs ^ e:=by
 induction e with
 | zero=>simp
 | succ e ih=>rw [Int.pow_succ,Int.natAbs_mul,ih,Nat.pow_succ]
theorem powI_lt {p:Int} (hp:p.natAbs < 16) (e:Nat):(p ^ e).natAbs < 2 ^ (4 * e + 1):=by
 rw [natAbs_pow]
 exact pow_lt hp e
theorem mul_lt {x y:Int} {a b:Nat} (hx:x.natAbs < 2 ^ a) (hy:y.natAbs < 2 ^ b):(x * y).natAbs < 2 ^ (a + b):=by
 rw [Int.natAbs_mul,Nat.pow_add]
 exact Nat.mul_lt_mul'' hx hy
end Mth
namespace Mth
def top5 (a b c d e:Int):Int:=prod5 a.toNat b.toNat c.toNat d.toNat e.toNat
def bot5 (a b c d e:Int):Int:=prod5 (-a).toNat (-b).toNat (-c).toNat (-d).toNat (-e).toNat
theorem bot5_pos (a b c d e:Int):1≤bot5 a b c d e:=prod5_pos ..
theorem prod5_congr {a b c d e a' b' c' d' e':Nat} (h1:a = a') (h2:b = b') (h3:c = c') (h4:d = d') (h5:e = e'):prod5 a b c d e = prod5 a' b' c' d' e':=by
 subst h1 h2 h3 h4 h5; rfl
theorem meas {a b c d e:Int} (ha:-700≤a) (hb:-60≤b) (hc:-60≤c) (hd:-60≤d) (he:-60≤e) :
  top5 a b c d e * prod5 700 60 60 60 60 / bot5 a b c d e = prod5 (a + 700).toNat (b + 60).toNat (c + 60).toNat (d + 60).toNat (e + 60).toNat:=by
 have h:top5 a b c d e * prod5 700 60 60 60 60 = bot5 a b c d e * prod5 (a + 700).toNat (b + 60).toNat (c + 60).toNat (d + 60).toNat (e + 60).toNat:=by
  unfold top5 bot5
  rw [prod5_mul,prod5_mul]
  exact prod5_congr (by omega) (by omega) (by omega) (by omega) (by omega)
 rw [h,Int.mul_ediv_cancel_left]
 have:=bot5_pos a b c d e
 omega
def F (m:Int) (x y:Int):Prop:=2 ^ (-m).toNat * y≤2 ^ m.toNat * x
def rt (b c d e:Int):Int:=prod5 0 b.toNat c.toNat d.toNat e.toNat
def rb (b c d e:Int):Int:=prod5 0 (-b).toNat (-c).toNat (-d).toNat (-e).toNat
theorem pwmono {p:Int} (hp:1≤p) {m n:Nat} (h:m≤n):p ^ m≤p ^ n:=by
 obtain ⟨k,rfl⟩:=Nat.exists_eq_add_of_le h
 rw [Int.pow_add]
 have h1:0 < p ^ m:=pw (by omega)
 have h2:0 < p ^ k:=pw (by omega)
 have:p ^ m * 1≤p ^ m * p ^ k:=Int.mul_le_mul_of_nonneg_left (by omega) (by omega)
 omega
theorem mul_le2 {x y u v:Int} (h1:x≤u) (h2:y≤v) (hx:0 < x) (hy:0 < y):x * y≤u * v :=
 Int.le_trans (Int.mul_le_mul_of_nonneg_right h1 (by omega)) (Int.mul_le_mul_of_nonneg_left h2 (by omega))
theorem prod5_mono {a b c d e a' b' c' d' e':Nat} (h1:a≤a') (h2:b≤b') (h3:c≤c') (h4:d≤d') (h5:e≤e'):prod5 a b c d e≤prod5 a' b' c' d' e':=by
 unfold prod5
 have p2:=pw (n:=a) (show (0:Int) < 2 by decide)
 have p3:=pw (n:=b) (show (0:Int) < 3 by decide)
 have p5:=pw (n:=c) (show (0:Int) < 5 by decide)
 have p7:=pw (n:=d) (show (0:Int) < 7 by decide)
 have p11:=pw (n:=e) (show (0:Int) < 11 by decide)
 exact mul_le2 (mul_le2 (mul_le2 (mul_le2 (pwmono (by decide) h1) (pwmono (by decide) h2) p2 p3) (pwmono (by decide) h3) (Int.mul_pos p2 p3) p5) (pwmono (by decide) h4) (Int.mul_pos (Int.mul_pos p2 p3) p5) p7) (pwmono (by decide) h5) (Int.mul_pos (Int.mul_pos (Int.mul_pos p2 p3) p5) p7) p11
def Bd (a b c d e:Int):Prop:=(-4000≤a∧a≤4000)∧(-100≤b∧b≤100)∧(-100≤c∧c≤100)∧(-100≤d∧d≤100)∧(-100≤e∧e≤100)
theorem prod5_lt {a b c d e:Nat} (h1:a≤4000) (h2:b≤100) (h3:c≤100) (h4:d≤100) (h5:e≤100):(prod5 a b c d e).natAbs < 2 ^ 5100:=by
 have h:=prod5_mono h1 h2 h3 h4 h5
 have hp:=prod5_pos a b c d e
 have hb:prod5 4000 100 100 100 100 < 2 ^ 5100:=by decide +kernel
 have c:((2 ^ 5100:Nat):Int) = 2 ^ 5100:=by decide +kernel
 omega
theorem top5_lt {a b c d e:Int} (h:Bd a b c d e):(top5 a b c d e).natAbs < 2 ^ 5100:=by
 obtain ⟨⟨_,_⟩,⟨_,_⟩,⟨_,_⟩,⟨_,_⟩,⟨_,_⟩⟩:=h
 exact prod5_lt (by omega) (by omega) (by omega) (by omega) (by omega)
theorem bot5_lt {a b c d e:Int} (h:Bd a b c d e):(bot5 a b c d e).natAbs < 2 ^ 5100:=by
 obtain ⟨⟨_,_⟩,⟨_,_⟩,⟨_,_⟩,⟨_,_⟩,⟨_,_⟩⟩:=h
 exact prod5_lt (by omega) (by omega) (by omega) (by omega) (by omega)
theorem log2_of {x:Int} {k:Nat} (h:x.natAbs < 2 ^ k) (h0:x≠0):x.natAbs.log2 < k:=(Nat.log2_lt (by omega)).mpr h
end Mth
namespace Mth
def PPn (e0 e1 e2 e3 e4:Int):Nat→Int
 | 0=>1
 | 1=>1 * 2 ^ e0.toNat
 | 2=>1 * 2 ^ e0.toNat * 3 ^ e1.toNat
 | 3=>1 * 2 ^ e0.toNat * 3 ^ e1.toNat * 5 ^ e2.toNat
 | 4=>1 * 2 ^ e0.toNat * 3 ^ e1.toNat * 5 ^ e2.toNat * 7 ^ e3.toNat
 | _=>1 * 2 ^ e0.toNat * 3 ^ e1.toNat * 5 ^ e2.toNat * 7 ^ e3.toNat * 11 ^ e4.toNat
theorem PPn_5 (e0 e1 e2 e3 e4:Int):PPn e0 e1 e2 e3 e4 5 = prod5 e0.toNat e1.toNat e2.toNat e3.toNat e4.toNat:=by
 show 1 * 2 ^ e0.toNat * 3 ^ e1.toNat * 5 ^ e2.toNat * 7 ^ e3.toNat * 11 ^ e4.toNat = _
 unfold prod5; rw [Int.one_mul]
theorem mx_toNat (x:Int):(if 0 > x then 0 else x).toNat = x.toNat:=by split <;> omega
theorem pw_bd {p:Int} (hp:p.natAbs < 16) {e:Int} (he:e≤4000):(p ^ e.toNat).natAbs < 2 ^ 16001 :=
 Nat.lt_of_lt_of_le (powI_lt hp e.toNat) (Nat.pow_le_pow_right (by decide) (by omega))
theorem PPn_lt {e0 e1 e2 e3 e4:Int} (h0:e0≤4000) (h1:e1≤4000) (h2:e2≤4000) (h3:e3≤4000) (h4:e4≤4000) (i:Nat):(PPn e0 e1 e2 e3 e4 i).natAbs < 2 ^ (1 + 16001 + 16001 + 16001 + 16001 + 16001):=by
 have up:∀ {x:Int} {a b:Nat},x.natAbs < 2 ^ a→a≤b→x.natAbs < 2 ^ b:=fun h z=>Nat.lt_of_lt_of_le h (Nat.pow_le_pow_right (by decide) z)
 have g0:(1:Int).natAbs < 2 ^ 1:=by decide
 have g1:=mul_lt g0 (pw_bd (p:=2) (by decide) h0)
 have g2:=mul_lt g1 (pw_bd (p:=3) (by decide) h1)
 have g3:=mul_lt g2 (pw_bd (p:=5) (by decide) h2)
 have g4:=mul_lt g3 (pw_bd (p:=7) (by decide) h3)
 have g5:=mul_lt g4 (pw_bd (p:=11) (by decide) h4)
 match i with
 | 0=>exact up g0 (by omega)
 | 1=>exact up g1 (by omega)
 | 2=>exact up g2 (by omega)
 | 3=>exact up g3 (by omega)
 | 4=>exact up g4 (by omega)
 | _ + 5=>exact up g5 (by omega)
theorem PPn_bits {e0 e1 e2 e3 e4:Int} (hb:e0≤4000∧e1≤4000∧e2≤4000∧e3≤4000∧e4≤4000∧-100000≤e0∧-100000≤e1∧-100000≤e2∧-100000≤e3∧-100000≤e4) {i:Nat} {p e:Int} (hp:p.natAbs < 16) (he:e≤4000):bl (PPn e0 e1 e2 e3 e4 i) + bl (p ^ e.toNat)≤1000000:=by
 obtain ⟨h0,h1,h2,h3,h4,_⟩:=hb
 have a:=bl_le (PPn_lt h0 h1 h2 h3 h4 i)
 have b:=bl_le (pw_bd hp he)
 omega
end Mth
namespace Mth
def sgn (x y:Int):Int:=(if decide (y < x) = true then 1 else 0) - (if decide (x < y) = true then 1 else 0)
theorem PPn_top (e0 e1 e2 e3 e4:Int):PPn e0 e1 e2 e3 e4 5 = top5 e0 e1 e2 e3 e4:=PPn_5 ..
theorem PPn_bot (e0 e1 e2 e3 e4:Int):PPn (0 - e0) (0 - e1) (0 - e2) (0 - e3) (0 - e4) 5 = bot5 e0 e1 e2 e3 e4:=by
 rw [PPn_5]; unfold bot5; simp only [Int.zero_sub]
end Mth
namespace Mth
section
variable (c0 c1 c2 c3 c4:Nat) {m:Int} (h:Cop m)
include h
end
end Mth
namespace Mth
def NS (a b c d e:Int):Int:=prod5 (a + 4000).toNat (b + 100).toNat (c + 100).toNat (d + 100).toNat (e + 100).toNat
theorem cross {a b c d e a' b' c' d' e':Int} (h:Bd a b c d e) (h':Bd a' b' c' d' e'):top5 (a - a') (b - b') (c - c') (d - d') (e - e') * NS a' b' c' d' e' = bot5 (a - a') (b - b') (c - c') (d - d') (e - e') * NS a b c d e:=by
 obtain ⟨⟨_,_⟩,⟨_,_⟩,⟨_,_⟩,⟨_,_⟩,⟨_,_⟩⟩:=h
 obtain ⟨⟨_,_⟩,⟨_,_⟩,⟨_,_⟩,⟨_,_⟩,⟨_,_⟩⟩:=h'
 unfold top5 bot5 NS
 rw [prod5_mul,prod5_mul]
 exact prod5_congr (by omega) (by omega) (by omega) (by omega) (by omega)
end Mth
namespace Mth
end Mth
namespace Mth
end Mth
namespace Mth
end Mth
namespace Mth
theorem ms_NS {a b c d e:Int} (ha:-700≤a) (hb:-60≤b) (hc:-60≤c) (hd:-60≤d) (he:-60≤e):NS a b c d e = prod5 (a + 700).toNat (b + 60).toNat (c + 60).toNat (d + 60).toNat (e + 60).toNat * prod5 3300 40 40 40 40:=by
 unfold NS
 rw [prod5_mul]
 exact prod5_congr (by omega) (by omega) (by omega) (by omega) (by omega)
theorem perm_of_map {α β:Type} {f:α→β} {qs ps:List β} (h:qs.Perm ps):∀ {l:List α},ps = l.map f→∃ m:List α,m.Perm l∧qs = m.map f:=by
 induction h with
 | nil=>intro l e; exact ⟨[],by rw [List.map_eq_nil_iff.mp e.symm],rfl⟩
 | cons x _ ih =>
  intro l e
  cases l with
  | nil=>cases e
  | cons a l =>
   rw [List.map_cons] at e
   injection e with e1 e2
   obtain ⟨m,p,q⟩:=ih e2
   exact ⟨a :: m,p.cons a,by rw [List.map_cons,q,e1]⟩
 | swap x y l0 =>
  intro l e
  match l,e with
  | a :: b :: l,e =>
   simp only [List.map_cons,List.cons.injEq] at e
   obtain ⟨e1,e2,e3⟩:=e
   exact ⟨b :: a :: l,.swap _ _ _,by rw [List.map_cons,List.map_cons,e1,e2,e3]⟩
 | trans _ _ ih1 ih2 =>
  intro l e
  obtain ⟨m,p,q⟩:=ih2 e
  obtain ⟨m',p',q'⟩:=ih1 q
  exact ⟨m',p'.trans p,q'⟩
end Mth
namespace Mth
def sub (a b:List Int):List Int:=List.zipWith (· - ·) a b
def mulv (r:List Int) (k:Int):List Int:=r.map (· * k)
def low (v s:List Int) (q:Int):List Int:=sub v (mulv s q)
end Mth
namespace Mth
end Mth
namespace Mth
def BdM (M:Nat) (r:List Int):Prop:=∀ i,(r.getD i 0).natAbs≤M
def at' (p:Nat) (v:List Int):Nat:=(v.getD p 0).natAbs
structure PS (n p M m l:Nat) (led os:List (List Int)):Prop where
 len:∀ v∈led ++ os,v.length = n
 bd:∀ v∈led ++ os,BdM M v
 lo:∀ v∈led,l≤at' p v∧at' p v≤m
 pos:0 < l
 big:∃ v∈led,at' p v = m
 low:∃ v∈led,at' p v = l
 one:(∀ v∈led,0 < v.getD p 0)∨∀ v∈led,v.getD p 0 < 0
 zero:∀ v∈os,v.getD p 0 = 0
end Mth
namespace Mth
def mz (p:Nat) (rs:List (List Int)):Nat:=(rs.map (at' p)).sum
def PI (n p M:Nat) (led os:List (List Int)):Prop :=
 (∀ v∈led ++ os,v.length = n)∧(∀ v∈led,v.getD p 0≠0)∧(∀ v∈os,v.getD p 0 = 0) ∧
  ((∀ v∈led ++ os,BdM M v)∨(∃ m l M',PS n p M' m l led os∧M' * m * m * l≤3 * (M * M * M * M))∨(led.length≤1∧∀ v∈led ++ os,BdM (6 * (M * M * M * M)) v))
end Mth
namespace Mth
end Mth
namespace Mth
def r2 (p:Nat×Nat):List Int:=[(p.1:Int),(p.2:Int)]
end Mth
namespace Mth
def gr (b:Nat):Nat→Nat
 | 0=>b
 | i + 1=>4 * gr b i + 3
def sb (b:Nat):Nat→Nat
 | 0=>0
 | i + 1=>sb b i + gr b (i + 1) + 1
end Mth
namespace Mth
structure PT (p X m k:Nat) (led os:List (List Int)):Prop where
 bd:∀ v∈led ++ os,BdM X v
 hi:∀ v∈led,at' p v≤m
 one:(∀ v∈led,0 < v.getD p 0)∨∀ v∈led,v.getD p 0 < 0
 low:∃ v∈led,at' p v + m≤k
end Mth
namespace Mth
end Mth
namespace Mth
end Mth
namespace Mth
end Mth
namespace Mth
end Mth
namespace Mth
end Mth
namespace Mth
end Mth
namespace Mth
end Mth
namespace Mth
end Mth
namespace Mth
end Mth
namespace Mth
end Mth
namespace Mth
end Mth
namespace Sgn
open PySem PySem.Builtin PySem.Builtin.Str PySem.StrLaws
end Sgn
namespace Sgn
open PySem PySem.Builtin PySem.Builtin.Str PySem.StrLaws
end Sgn
namespace Sgn
open PySem PySem.Builtin PySem.Builtin.Str PySem.StrLaws PySem.NumText PySem.W.KIN PyProof.Rows
end Sgn
namespace Sgn
open PySem PySem.Builtin PySem.Builtin.Str PySem.StrLaws
end Sgn
namespace Sgn
open PySem
end Sgn
namespace Sgn
open PySem
end Sgn
namespace Sgn
open PySem PySem.Builtin PySem.Builtin.Str PySem.StrLaws PySem.NumText PySem.W.KIN PyProof.Rows
end Sgn
namespace Mth
end Mth
namespace Mth
end Mth
namespace Nam
open PySem PySem.Builtin PySem.Builtin.Str PySem.StrLaws PyProof.Rows
end Nam
namespace Nam
open PySem PySem.Builtin PySem.Builtin.Str PySem.StrLaws PySem.NumText PySem.W.KIN PyProof.Rows
end Nam
namespace Nam
open PySem PySem.Builtin PySem.Builtin.Str PySem.StrLaws PyProof.Rows
end Nam
namespace Nam
open PySem
end Nam
namespace Nam
open PySem PySem.NumText PySem.W.KIN PyProof.Rows
end Nam
namespace Mth
def gens (ms:List Int) (rs:List (List Int)):List (List Int):=(List.range 5).map fun i=>mulv (rs.getD i []) (ms.getD i 0)
end Mth
namespace L2
open PySem PySem.Spec PyProof.Rows
def Fixed (K:PySem.W.Frag) (a:Addr) (xs:List V):Prop:=∀ H,SqT K H a xs
theorem Fixed.at {K:PySem.W.Frag} {a:Addr} {xs:List V} {H:Hp} (h:Fixed K a xs):SqT K H a xs:=h H
theorem Same.upd_old {H H2:Hp} {l:Addr} {o:HO} (s:Same H H2) (h:H l = none):Same H (upd H2 l o):=fun b u e=>by
 rw [upd_ne (ne_of_none e h)]; exact s _ _ e
def rBl:V→Hp→(Bool→Hp→Prop)→Prop:=fun x H R=>∃ c,x = .bl c∧R c H
def rIn1:V→Hp→(Option Int→Hp→Prop)→Prop:=fun x H R=>∃ i,x = .int i∧R (some i) H
def rNewT:List V→Hp→VK→Prop:=fun xs H Q=>xs.length≤sizeLine∧∀ p,H p = none→Q (.ref p) (upd H p (.tup xs))
def rNewL:List V→Hp→VK→Prop:=fun xs H Q=>xs.length≤sizeLine∧∀ p,H p = none→Q (.ref p) (upd H p (.lst xs))
def rLen (K:PySem.W.Frag):List V→Hp→VK→Prop:=fun xs H Q=>∃ p ys,xs = [.ref p]∧(SqL K H p ys∨SqT K H p ys)∧Q (.int ys.length) H
def rTupleOf (K:PySem.W.Frag):List V→Hp→VK→Prop:=fun xs H Q=>∃ p ys,xs = [.ref p]∧((SqL K H p ys∧∀ l,H l = none→Q (.ref l) (upd H l (.tup ys)))∨(SqT K H p ys∧Q (.ref p) H))
def rListOf (K:PySem.W.Frag):List V→Hp→VK→Prop:=fun xs H Q=>∃ p ys,xs = [.ref p]∧(SqL K H p ys∨SqT K H p ys)∧∀ l,H l = none→Q (.ref l) (upd H l (.lst ys))
def rIsInst (K:PySem.W.Frag):List V→Hp→VK→Prop:=fun xs H Q=>∃ x n t b,xs = [x,.ty n]∧TyR K H x t∧PySem.W.kitOne K t (.type n) = some b∧Q (.bl b) H
def rMax:List V→Hp→VK→Prop:=fun xs H Q=>∃ i j,xs = [.int i,.int j]∧Q (.int (if j > i then j else i)) H
def rInt1:List V→Hp→VK→Prop:=fun xs H Q=>(∃ i,xs = [.int i]∧Q (.int i) H)∨∃ k,xs = [.bl k]∧Q (.int (if k then 1 else 0)) H
def rItL (K:PySem.W.Frag):V→Hp→(It→Hp→Prop)→Prop:=fun x H R=>∃ a,x = .ref a∧(∃ xs,SqL K H a xs)∧R (Itl K a) H
def rItT (K:PySem.W.Frag):V→Hp→(It→Hp→Prop)→Prop:=fun x H R=>∃ a,x = .ref a∧(∃ xs,SqT K H a xs)∧R (Itt K a) H
def rItR:List V→Hp→(It→Hp→Prop)→Prop:=fun vs H R=>∃ j:Int,vs = [.int j]∧-(2 ^ 62)≤j∧j < 2 ^ 62∧R (Itr 0 j.toNat) H
def rItZ (K:PySem.W.Frag) (k1 k2:Bool):List V→Hp→(It→Hp→Prop)→Prop:=fun vs H R=>∃ a b,vs = [.ref a,.ref b]∧(∃ xs,Sq k1 K H a xs)∧(∃ ys,Sq k2 K H b ys)∧R (Itz K k1 k2 a b) H
def rTyped (K:PySem.W.Frag) (T:String) (ts:TA) (r:V→List V→Hp→VK→Prop) (σ:St) (Q:VK):V→Hp→Prop:=fun x H1=>tyV K T x H1∧ts σ H1 fun xs H2=>r x xs H2 Q
def ForGoal (g:TG) (tb:TS) (D:Ends) (J:It) (σ:St) (H:Hp):Prop:=∃ W:Nat→Nat→St→Hp→Prop,(∃ m,W 0 m σ H)∧∀ i m σ H,W i m σ H →
 (J.stop i H∧D.nx σ H)∨(J.go i H∧∃ N:St→Hp→Prop,(∀ σ' H',N σ' H'→∃ m',m' < m∧W (i + 1) m' σ' H')∧∀ x H',J.yld i H x H'→g x σ H' fun σ2 H2=>tb { D with nx:=N,ct:=N,bk:=D.nx } σ2 H2)
section
variable {X:Cx}
theorem callN_len:CallR X (.builtin "len") (rLen X.K):=call_len_seq
theorem callN_tuple:CallR X (.type "tuple") (rTupleOf X.K):=call_tuple_of
theorem callN_list:CallR X (.type "list") (rListOf X.K):=call_list_of
theorem callN_isinst:CallR X (.builtin "isinstance") (rIsInst X.K):=call_isinst
theorem callN_max (hc:X.calm = true):CallR X (.builtin "max") rMax:=call_max2 hc
theorem callN_int:CallR X (.type "int") rInt1:=call_int1
end
section
variable {t u:TS} {D:Ends} {σ:St} {H:Hp} {te ta tb:TE} {g:TG} {tt tu:TT} {Q:VK} {i j:Int} {x y v w:V} {K:PySem.W.Frag}
theorem r_seq (h:t { D with nx:=u D } σ H):tSeq t u D σ H:=h
theorem r_asg (h:te σ H fun x H1=>g x σ H1 D.nx):tAsg te g D σ H:=h
theorem r_gname {n:Nat} {R:St→Hp→Prop} (h:R (σ.set n (some v)) H):gName n v σ H R:=h
theorem r_ret (h:te σ H D.rt):tRet te D σ H:=h
theorem r_drop (h:te σ H fun _ H1=>D.nx σ H1):tDrop te D σ H:=h
theorem r_next (h:D.nx σ H):tNext D σ H:=h
theorem r_ifs {c:TT} (h:c σ H fun b H1=>if b = true then t D σ H1 else u D σ H1):tIfS c t u D σ H:=h
theorem r_var {n:Nat} (e:σ[n]? = some (some v)) (h:Q v H):tVar n σ H Q:=⟨v,e,h⟩
theorem r_c (h:Q v H):tC v σ H Q:=h
theorem r_op {r:R2} (h:ta σ H fun x H1=>tb σ H1 fun y H2=>r x y H2 Q):tOp r ta tb σ H Q:=h
theorem r_un {r:V→Hp→VK→Prop} (h:ta σ H fun x H1=>r x H1 Q):tUn r ta σ H Q:=h
theorem r_b {R:Bool→Hp→Prop} (h:te σ H fun x H1=>rBl x H1 R):tB te σ H R:=h
theorem r_test {R:Bool→Hp→Prop} (h:te σ H fun x H1=>rBl x H1 R):tTest te σ H R:=h
theorem r_isbl {b:Bool} {R:Bool→Hp→Prop} (h:R b H):rBl (.bl b) H R:=⟨b,rfl,h⟩
theorem r_or {R:Bool→Hp→Prop} (h:tt σ H fun c H1=>if c = true then R true H1 else tu σ H1 R):tOr tt tu σ H R:=h
theorem r_not {R:Bool→Hp→Prop} (h:tt σ H fun c H1=>R (!c) H1):tNot tt σ H R:=h
theorem r_I0 {f:Int→Int→V} (h:Q (f i j) H):rI0 f (.int i) (.int j) H Q:=⟨i,j,rfl,rfl,h⟩
theorem r_I {C:Int→Int→Prop} {f:Int→Int→V} (c:C i j) (h:Q (f i j) H):rI C f (.int i) (.int j) H Q:=⟨i,j,rfl,rfl,c,h⟩
theorem r_U {f:Int→V} (h:Q (f i) H):rU f (.int i) H Q:=⟨i,rfl,h⟩
theorem decI {i j:Int}:decide (V.int i = V.int j) = decide (i = j):=by
 by_cases e:i = j
 ·subst e; simp
 ·rw [decide_eq_false e]; exact decide_eq_false fun z=>e (by injection z)
theorem r_eqI (h:Q (.bl (decide (i = j))) H):rEq (.int i) (.int j) H Q:=⟨rfl,by rw [decI]; exact h⟩
theorem r_neI (h:Q (.bl (!decide (i = j))) H):rNe (.int i) (.int j) H Q:=⟨rfl,by rw [decI]; exact h⟩
theorem r_nil {R:List V→Hp→Prop} (h:R [] H):tNil σ H R:=h
theorem r_cons {ts:TA} {R:List V→Hp→Prop} (h:te σ H fun x H1=>ts σ H1 fun xs H2=>R (x :: xs) H2):tCons te ts σ H R:=h
theorem r_tup {ts:TA} (h:ts σ H fun xs H1=>rNewT xs H1 Q):tTup ts σ H Q:=h
theorem r_lst {ts:TA} (h:ts σ H fun xs H1=>rNewL xs H1 Q):tLst ts σ H Q:=h
theorem r_newT {xs:List V} (hl:xs.length≤1000) (h:∀ p H2,Same H H2→H2 p = some (.tup xs)→Q (.ref p) H2):rNewT xs H Q :=
 ⟨Nat.le_of_lt (small1000 hl),fun p hp=>h p _ (Same.upd_new hp) upd_same⟩
theorem r_newL {xs:List V} (hl:xs.length≤1000) (h:∀ p H2,H p = none→Same H H2→H2 p = some (.lst xs)→Q (.ref p) H2):rNewL xs H Q :=
 ⟨Nat.le_of_lt (small1000 hl),fun p hp=>h p _ hp (Same.upd_new hp) upd_same⟩
theorem r_cb {r:List V→Hp→VK→Prop} {ts:TA} (h:ts σ H fun vs H1=>r vs H1 Q):tCB r ts σ H Q:=h
theorem r_comp {ix:List (Option Nat)} {wi:TI} (h:wi σ H fun J H1=>CompGoal ix g tt te σ Q J H1):tComp ix wi g tt te σ H Q:=h
theorem r_sl {r:V→Option Int→Option Int→Hp→VK→Prop} {tl th:TO} (h:te σ H fun x H1=>tl σ H1 fun l H2=>th σ H2 fun u H3=>r x l u H3 Q):tSl r te tl th σ H Q:=h
theorem r_nopart {R:Option Int→Hp→Prop} (h:R none H):tNoPart σ H R:=h
theorem r_part {R:Option Int→Hp→Prop} (h:te σ H fun x H1=>rIn1 x H1 R):tPart te σ H R:=h
theorem r_isint {R:Option Int→Hp→Prop} (h:R (some i) H):rIn1 (.int i) H R:=⟨i,rfl,h⟩
theorem r_bm {T:String} {r:V→List V→Hp→VK→Prop} {ts:TA} (h:te σ H fun x H1=>rTyped K T ts r σ Q x H1):tBM K T r te ts σ H Q:=h
theorem r_for {wi:TI} {tb:TS} (h:wi σ H fun J H1=>ForGoal g tb D J σ H1):tFor wi g tb D σ H:=h
theorem r_ilist {R:It→Hp→Prop} (h:te σ H fun x H1=>rItL K x H1 R):iList K te σ H R:=h
theorem r_itup {R:It→Hp→Prop} (h:te σ H fun x H1=>rItT K x H1 R):iTup K te σ H R:=h
theorem r_irng {ts:TA} {R:It→Hp→Prop} (h:ts σ H fun vs H1=>rItR vs H1 R):iRng1 ts σ H R:=h
theorem r_izip {k1 k2:Bool} {ts:TA} {R:It→Hp→Prop} (h:ts σ H fun vs H1=>rItZ K k1 k2 vs H1 R):iZip2 K k1 k2 ts σ H R:=h
theorem r_isl {a:Addr} {xs:List V} {R:It→Hp→Prop} (e:SqL K H a xs) (h:R (Itl K a) H):rItL K (.ref a) H R:=⟨a,rfl,⟨_,e⟩,h⟩
theorem r_ist {a:Addr} {xs:List V} {R:It→Hp→Prop} (e:SqT K H a xs) (h:R (Itt K a) H):rItT K (.ref a) H R:=⟨a,rfl,⟨_,e⟩,h⟩
theorem r_isr {R:It→Hp→Prop} (h1:-1000000≤j) (h2:j≤1000000) (h:R (Itr 0 j.toNat) H):rItR [.int j] H R:=⟨j,rfl,by omega,by omega,h⟩
theorem r_isz {k1 k2:Bool} {a b:Addr} {xs ys:List V} {R:It→Hp→Prop} (e1:Sq k1 K H a xs) (e2:Sq k2 K H b ys) (h:R (Itz K k1 k2 a b) H):rItZ K k1 k2 [.ref a,.ref b] H R:=⟨a,b,rfl,⟨_,e1⟩,⟨_,e2⟩,h⟩
theorem sqt_sq {a:Addr} {xs:List V} (h:SqT K H a xs):Sq true K H a xs:=h
theorem sql_sq {a:Addr} {xs:List V} (h:SqL K H a xs):Sq false K H a xs:=h
theorem r_ixT {a:Addr} {xs:List V} (e:SqT K H a xs) (n:atI xs i = some v) (h:Q v H):rIx K (.ref a) (.int i) H Q:=.inr (.inl ⟨a,xs,i,v,rfl,rfl,e,n,h⟩)
theorem r_ixL {a:Addr} {xs:List V} (e:SqL K H a xs) (n:atI xs i = some v) (h:Q v H):rIx K (.ref a) (.int i) H Q:=.inl ⟨a,xs,i,v,rfl,rfl,e,n,h⟩
theorem r_lenT {a:Addr} {xs:List V} (e:SqT K H a xs) (h:Q (.int xs.length) H):rLen K [.ref a] H Q:=⟨a,xs,rfl,.inr e,h⟩
theorem r_lenL {a:Addr} {xs:List V} (e:SqL K H a xs) (h:Q (.int xs.length) H):rLen K [.ref a] H Q:=⟨a,xs,rfl,.inl e,h⟩
theorem r_tupleL {a:Addr} {xs:List V} (e:SqL K H a xs) (h:∀ p H2,Same H H2→H2 p = some (.tup xs)→Q (.ref p) H2):rTupleOf K [.ref a] H Q :=
 ⟨a,xs,rfl,.inl ⟨e,fun p hp=>h p _ (Same.upd_new hp) upd_same⟩⟩
theorem r_listL {a:Addr} {xs:List V} (e:SqL K H a xs) (h:∀ p H2,H p = none→Same H H2→H2 p = some (.lst xs)→Q (.ref p) H2):rListOf K [.ref a] H Q:=⟨a,xs,rfl,.inl e,fun p hp=>h p _ hp (Same.upd_new hp) upd_same⟩
theorem r_max (h:Q (.int (if j > i then j else i)) H):rMax [.int i,.int j] H Q:=⟨i,j,rfl,h⟩
theorem r_int1b {b:Bool} (h:Q (.int (if b then 1 else 0)) H):rInt1 [.bl b] H Q:=.inr ⟨b,rfl,h⟩
theorem r_typed {T:String} {ts:TA} {r:V→List V→Hp→VK→Prop} (e:tyV K T x H) (h:ts σ H fun xs H2=>r x xs H2 Q):rTyped K T ts r σ Q x H:=⟨e,h⟩
theorem r_append {l:Addr} {xs:List V} (e:H l = some (.lst xs)) (n:xs.length≤1000) (h:Q .non (upd H l (.lst (xs ++ [y])))):rAppend (.ref l) [y] H Q:=⟨l,xs,y,rfl,rfl,e,small1000 n,h⟩
theorem r_eqT {a b:Addr} {ns ms:List Int} (e1:SqT K H a (ns.map V.int)) (e2:SqT K H b (ms.map V.int)) (h:Q (.bl (decide (ns = ms))) H):rEqT K (.ref a) (.ref b) H Q:=⟨a,b,ns,ms,rfl,rfl,e1,e2,h⟩
theorem r_cat {a b:Addr} {xs ys:List V} (e1:H a = some (.lst xs)) (e2:H b = some (.lst ys)) (n:xs.length + ys.length≤1000) (h:∀ p H2,H p = none→Same H H2→H2 p = some (.lst (xs ++ ys))→Q (.ref p) H2):rCat (.ref a) (.ref b) H Q :=
 ⟨a,b,xs,ys,rfl,rfl,e1,e2,Nat.le_of_lt (small1000 n),fun p hp=>h p _ hp (Same.upd_new hp) upd_same⟩
theorem r_slL {a:Addr} {xs:List V} {lo hi:Option Int} (e:SqL K H a xs) (h:∀ p H2,H p = none→Same H H2→H2 p = some (.lst (cutV xs lo hi))→Q (.ref p) H2):rSlL K (.ref a) lo hi H Q :=
 ⟨a,xs,rfl,e,fun p hp=>h p _ hp (Same.upd_new hp) upd_same⟩
theorem r_isiT {a:Addr} {xs:List V} {n:String} {b:Bool} (e:SqT K H a xs) (k:PySem.W.kitOne K (.type "tuple") (.type n) = some b) (h:Q (.bl b) H):rIsInst K [.ref a,.ty n] H Q:=⟨_,n,_,b,rfl,.inr (.inl ⟨a,xs,rfl,e,rfl⟩),k,h⟩
theorem r_isiL {a:Addr} {xs:List V} {n:String} {b:Bool} (e:SqL K H a xs) (k:PySem.W.kitOne K (.type "list") (.type n) = some b) (h:Q (.bl b) H):rIsInst K [.ref a,.ty n] H Q:=⟨_,n,_,b,rfl,.inr (.inr ⟨a,xs,rfl,e,rfl⟩),k,h⟩
theorem r_isiI {n:String} {b:Bool} (k:PySem.W.kitOne K (.type "int") (.type n) = some b) (h:Q (.bl b) H):rIsInst K [.int i,.ty n] H Q:=⟨_,n,_,b,rfl,.inl (.int _),k,h⟩
theorem f_any {J:It} {tb:TS} (n:Nat) (Pv:Nat→St→Prop) (h0:Pv 0 σ) (hgo:∀ i H2,i < n→Same H H2→J.go i H2) (hstop:∀ H2,Same H H2→J.stop n H2)
  (hs:∀ i x σ H2 H3,i < n→Pv i σ→Same H H2→J.yld i H2 x H3→g x σ H3 fun σ2 H4=>tb { D with nx:=fun σ' H'=>Pv (i + 1) σ'∧Same H H',ct:=fun σ' H'=>Pv (i + 1) σ'∧Same H H',bk:=D.nx } σ2 H4) (hd:∀ σ H2,Pv n σ→Same H H2→D.nx σ H2):ForGoal g tb D J σ H:=by
 refine ⟨fun i m σ2 H2=>m = n - i∧i≤n∧Pv i σ2∧Same H H2,⟨n,by simp,Nat.zero_le _,h0,Same.refl _⟩,?_⟩
 rintro i m σ2 H2 ⟨rfl,hi,p,s⟩
 by_cases hlt:i < n
 ·exact .inr ⟨hgo i H2 hlt s,fun σ' H'=>Pv (i + 1) σ'∧Same H H',fun σ' H' p'=>⟨n - (i + 1),by omega,rfl,hlt,p'.1,p'.2⟩,fun x H' y=>hs i x σ2 H2 H' hlt p s y⟩
 ·have e:i = n:=by omega
  subst e
  exact .inl ⟨hstop H2 s,hd σ2 H2 p s⟩
theorem f_zip {k1 k2:Bool} {a b:Addr} {xs ys:List V} {m n:Nat} {tb:TS} (ha:Sq k1 K H a xs) (hb:Sq k2 K H b ys) (hlen:xs.length = ys.length) (Pv:Nat→St→Prop) (h0:Pv 0 σ)
  (hs:∀ i x y σ H2,xs[i]? = some x→ys[i]? = some y→Pv i σ→Same H H2→tb { D with nx:=fun σ' H'=>Pv (i + 1) σ'∧Same H H',ct:=fun σ' H'=>Pv (i + 1) σ'∧Same H H',bk:=D.nx } ((σ.set m (some x)).set n (some y)) H2)
  (hd:∀ σ H2,Pv xs.length σ→Same H H2→D.nx σ H2):ForGoal (gTup K 2 (gCons (gName m) (gCons (gName n) gNil))) tb D (Itz K k1 k2 a b) σ H:=by
 refine f_any xs.length Pv h0 (fun i H2 hi s=>?_) (fun H2 s=>?_) (fun i x σ H2 H3 hi p s hy=>?_) hd
 ·exact ⟨_,_,xs[i],ys[i]'(hlen ▸ hi),s.sq ha,s.sq hb,List.getElem?_eq_getElem hi,List.getElem?_eq_getElem (hlen ▸ hi)⟩
 ·exact ⟨_,_,s.sq ha,s.sq hb,.inl (Nat.le_refl _)⟩
 ·obtain ⟨q,x',y',rfl,hq,e1,e2,rfl⟩:=hy
  refine ⟨q,_,rfl,SqT.of upd_same,rfl,_,_,rfl,_,_,rfl,rfl,?_⟩
  have s2:Same H2 (upd H2 q (.tup [x',y'])):=Same.upd_new hq
  exact hs i x' y' σ _ (e1 _ (s.sq ha)) (e2 _ (s.sq hb)) p (s.trans s2)
end
theorem if_ff {c:Bool} {A B:Prop} (e:c = false) (h:B):if c = true then A else B:=by rw [e]; exact iteF h
theorem if_both {c:Bool} {A B:Prop} (h1:c = true→A) (h2:c = false→B):if c = true then A else B:=by
 cases c with
 | true=>exact iteT (h1 rfl)
 | false=>exact iteF (h2 rfl)
end L2
namespace L2
open PySem PySem.Spec PyProof.Rows
section
variable {t u:TS} {D:Ends} {σ:St} {H:Hp} {te ta tb:TE} {g:TG} {tt tu:TT} {Q:VK} {i j:Int} {x y v w:V} {K:PySem.W.Frag} {X:Cx}
theorem r_call0 {sp:Sp} {E:XK} {ts:TA} (h:ts σ H fun vs H1=>sp vs H1 Q E):tCall sp [] E ts σ H Q:=by
 unfold tCall
 simp only [List.append_nil]
 exact h
theorem f_rngE {lo:Int} {n:Nat} {tb:TS} (Pv:Nat→St→Prop) (h0:Pv 0 σ) (hs:∀ i σ,i < n→Pv i σ→g (.int (lo + i)) σ H fun σ2 H4=>tb { D with nx:=fun σ' H'=>Pv (i + 1) σ'∧H' = H,ct:=fun σ' H'=>Pv (i + 1) σ'∧H' = H,bk:=D.nx } σ2 H4)
  (hd:∀ σ,Pv n σ→D.nx σ H):ForGoal g tb D (Itr lo n) σ H:=by
 refine for_range (fun i σ2 H2=>Pv i σ2∧H2 = H) ⟨h0,rfl⟩ (fun i σ2 H2 hi p=>?_) (fun σ2 H2 p=>?_)
 ·obtain ⟨p,rfl⟩:=p
  exact hs i σ2 hi p
 ·obtain ⟨p,rfl⟩:=p
  exact hd σ2 p
theorem f_tupE {a:Addr} {xs:List V} {tb:TS} (ha:SqT K H a xs) (Pv:Nat→St→Prop) (h0:Pv 0 σ) (hs:∀ i x σ,xs[i]? = some x→Pv i σ→g x σ H fun σ2 H4=>tb { D with nx:=fun σ' H'=>Pv (i + 1) σ'∧H' = H,ct:=fun σ' H'=>Pv (i + 1) σ'∧H' = H,bk:=D.nx } σ2 H4)
  (hd:∀ σ,Pv xs.length σ→D.nx σ H):ForGoal g tb D (Itt K a) σ H:=by
 refine for_tup (xs:=xs) (fun i σ2 H2=>Pv i σ2∧H2 = H) ⟨h0,rfl⟩ (fun i σ2 H2 _ p=>?_) (fun i x σ2 H2 hi p=>?_) (fun σ2 H2 p=>?_)
 ·obtain ⟨p,rfl⟩:=p
  exact ha
 ·obtain ⟨p,rfl⟩:=p
  exact hs i x σ2 hi p
 ·obtain ⟨p,rfl⟩:=p
  exact hd σ2 p
end
end L2
namespace L2
open PySem PySem.Spec PyProof.Rows
section
variable {X:Cx} (K:PySem.W.Frag) (hK:X.K = K)
include hK
theorem kN_len:CallR X (.builtin "len") (rLen K):=hK ▸ callN_len
theorem kN_tuple:CallR X (.type "tuple") (rTupleOf K):=hK ▸ callN_tuple
theorem kN_list:CallR X (.type "list") (rListOf K):=hK ▸ callN_list
theorem kN_isinst:CallR X (.builtin "isinstance") (rIsInst K):=hK ▸ callN_isinst
theorem kx_seq:IxR X (rIx K):=hK ▸ ix_seq
theorem ksl_list:SlR X (rSlL K):=hK ▸ sl_list
theorem kop_eqT (hu:X.A.units + 1 < cLine):OpR X (compareOp .Eq) (rEqT K):=hK ▸ op_eqT hu
theorem kpi_list {tg l:Expr} {tl:TE} (hl:PE X l tl):PI X tg l (iList K tl):=hK ▸ pi_list hl
theorem kpi_tup {tg l:Expr} {tl:TE} (hl:PE X l tl):PI X tg l (iTup K tl):=hK ▸ pi_tup hl
theorem kpi_zip2 (k1 k2:Bool) {es:List Expr} {kk:Nat} {tpos:Pos} {a b:Expr} {ta:TA} {p pos:Pos} (hg:Gl X "zip") (hm:X.mg "zip" = none) (ha:PA X [a,b] ta) (hs:starEach [a,b] X.env = [(false,eval a X.env),(false,eval b X.env)]:=by rfl) (hs2:starEach [b] X.env = [(false,eval b X.env)]:=by rfl) :
  PI X (.Tuple es kk tpos) (.Call (.Name "zip" p) [a,b] [] pos) (iZip2 K k1 k2 ta):=hK ▸ pi_zip2 k1 k2 hg hm ha hs hs2
theorem kpg_tup {es:List Expr} {k:Nat} {t:TGs} {n:Nat} {pos:Pos} (hc:X.calm = true) (h:PGs X es t)
  (hn:(assignEach es X.env).length = n:=by rfl) (hst:(assignEach es X.env).findIdx? (·.1) = none:=by rfl):PG X (.Tuple es k pos) (gTup K n t):=hK ▸ pg_tup hc h hn hst
end
end L2
namespace Mth
theorem bits_bl (x:Int):L2.bitsI x = bl x:=rfl
theorem PPn_mul {e0 e1 e2 e3 e4:Int} (hb:e0≤4000∧e1≤4000∧e2≤4000∧e3≤4000∧e4≤4000∧-100000≤e0∧-100000≤e1∧-100000≤e2∧-100000≤e3∧-100000≤e4) {i:Nat} {p e:Int} (hp:p.natAbs < 16) (he:e≤4000):L2.CMulB (PPn e0 e1 e2 e3 e4 i) (p ^ e.toNat):=PPn_bits hb hp he
end Mth
namespace L2
open PySem PySem.Spec PyProof.Rows
section
variable {σ:St} {H:Hp} {te:TE} {Q:VK} {K:PySem.W.Frag} {ix:List (Option Nat)}
end
end L2
namespace Mth
end Mth
namespace L2
open PySem PySem.Spec PyProof.Rows
section
variable {σ:St} {H:Hp} {te:TE} {Q:VK} {K:PySem.W.Frag} {ix:List (Option Nat)}
end
end L2
namespace L2
open PySem PySem.Spec PyProof.Rows
section
variable {H:Hp} {Q:VK} {K:PySem.W.Frag}
end
end L2
namespace Mth
end Mth
namespace PySem.F
end PySem.F
namespace L2
open PySem
section
variable {prog:Program} {w:World} {A:Around} {E:Value→Shared→Prop} {s:Shared}
end
end L2
namespace PySem.F
end PySem.F
namespace L2
open PySem PySem.Spec PyProof.Rows
section
variable {X:Cx}
end
section
variable {D:Ends} {σ:St} {H:Hp} {K:PySem.W.Frag}
end
end L2
namespace L2
open PySem PySem.Spec PyProof.Rows
def rm (H:Hp) (l:Addr):Hp:=fun b=>if b = l then none else H b
theorem rm_at {H:Hp} {l:Addr}:rm H l l = none:=by unfold rm; rw [if_pos rfl]
theorem rm_ne {H:Hp} {l b:Addr} (h:b≠l):rm H l b = H b:=by unfold rm; rw [if_neg h]
theorem rm_same {H:Hp} {l:Addr}:Same (rm H l) H:=fun b o e=>by
 by_cases h:b = l
 ·subst h; rw [rm_at] at e; cases e
 ·rw [rm_ne h] at e; exact e
theorem rm_sqT {K:PySem.W.Frag} {H:Hp} {l a:Addr} {xs ys:List V} (h:SqT K H a xs) (hl:H l = some (.lst ys)):SqT K (rm H l) a xs:=by
 have ne:∀ {o},H a = some o→(∀ zs,o≠.lst zs)→a≠l:=fun {o} e n z=>by subst z; rw [hl] at e; exact n _ (Option.some.inj e).symm
 rcases h with (h | ⟨o,h⟩) | h
 ·exact .inl (.inl (by rw [rm_ne (ne h fun _ z=>nomatch z)]; exact h))
 ·exact .inl (.inr ⟨o,by rw [rm_ne (ne h fun _ z=>nomatch z)]; exact h⟩)
 ·exact .inr h
section
variable {H:Hp} {Q:VK} {K:PySem.W.Frag}
theorem r_eqT5 {a b:Addr} {a0 a1 a2 a3 a4 b0 b1 b2 b3 b4:Int} (e1:SqT K H a [.int a0,.int a1,.int a2,.int a3,.int a4]) (e2:SqT K H b [.int b0,.int b1,.int b2,.int b3,.int b4]) (h:Q (.bl (decide ([a0,a1,a2,a3,a4] = [b0,b1,b2,b3,b4]))) H):rEqT K (.ref a) (.ref b) H Q :=
 r_eqT (ns:=[a0,a1,a2,a3,a4]) (ms:=[b0,b1,b2,b3,b4]) e1 e2 h
end
end L2
namespace L2
open PySem PySem.Spec PyProof.Rows PySem.W
section
variable {prog:Program} {w:World} {A:Around} {E:Value→Shared→Prop} {s:Shared} {K:Frag} {x C:Addr} {ox:Obj}
end
end L2
namespace L2
open PySem PySem.Spec PyProof.Rows PySem.W
section
variable {M:Model} {A:Around} {E:Value→Shared→Prop} {s:Shared}
def HeadOk (h:Heap) (e:Addr) (vs:Array Value):Option Addr→Prop
 | none=>vs[1]? = some .none
 | some T=>vs[1]? = some (.ref T)∧T≠e∧∃ oT ts,h.get? T = some oT∧oT.data = .fields ts∧ts[3]? = some .none
end
end L2
namespace L2
open PySem PySem.Spec PyProof.Rows PySem.W
def Exc (h:Heap) (H:Hp) (h0:Heap) (ps:List (Addr×Obj)) (a C:Addr):Prop:=∃ oe vs T0,h.get? a = some oe∧oe.cls = .ref C∧oe.dict = none∧oe.data = .fields vs∧1 < vs.size∧HeadOk h a vs T0∧H a = none∧(h0.get? a = none∧∀ p∈ps,p.1≠a) ∧
 ∀ T,T0 = some T→H T = none∧h0.get? T = none∧∀ p∈ps,p.1≠T
abbrev EXT:=Addr→St→Hp→Prop
def XW (X:Cx) (EX:EXT):Value→Shared→Prop:=fun e s'=>∃ a C σ' H',e = .ref a∧Inv X.nox [] σ' H' s'∧Exc s'.heap H' X.s₀.heap X.pn a C∧EX C σ' H'
section
variable {P:Program} {w:World} {K:PySem.W.Frag} {mg:Str→Option Value} {base:Heap}
end
section
variable {X:Cx} {EX:EXT} {k:Nat} {x:Str} {ps:List Str} {sp:Sp} {p pos:Pos} {e:Expr} {es:List Expr} {t:TA}
end
end L2
namespace L2
open PySem PySem.Spec PyProof.Rows PySem.W
section
variable {X:Cx} {pins:List (Addr×Obj)} {σ:List (Option V)} {H H':Hp} {s:Shared} {h':Heap}
theorem Inv.step2 {t':Nat} {ch:List Addr} (I:Inv X pins σ H s)
  (hch:∀ b∈ch,X.s₀.heap.get? b = none∧b≠X.env.locals∧(∀ x c,X.env.cells.lookup x = some c→c≠b)∧∀ p∈X.pn ++ pins,p.1≠b)
  (keep:∀ b o,b≠X.env.locals→b∉X.fs→b∉ch→s.heap.get? b = some o→H b = none→h'.get? b = some o)
  (slot:∀ b o,b≠X.env.locals→b∈X.fs→b∉ch→s.heap.get? b = some o→H b = none→∃ sl,h'.get? b = some { o with slots:=sl }) (free:∀ b o,b∉ch→s.heap.get? b = some o→H b = none→H' b = none)
  (there:∀ b o,b∉ch→s.heap.get? b = some o→∃ o',h'.get? b = some o')
  (tups:∀ b xs,H b = some (.tup xs)→H' b = some (.tup xs)) (frzs:∀ b o u,H b = some (.frz o u)→H' b = some (.frz o u)) (tbls:∀ b ps,H b = some (.tbl ps)→∃ more,H' b = some (.tbl (ps ++ more)))
  (ns:∀ m,s.heap.Ns X.env.locals m→h'.Ns X.env.locals m) (hok:HOk X.prog X.w H' h') :
  Inv X pins σ H' { s with heap:=h',toks:=t' }:=by
 have neL:∀ b o,X.s₀.heap.get? b = some o→b≠X.env.locals:=fun b o e=>Nat.ne_of_lt (Nat.lt_of_lt_of_le (Heap.lt_size e) I.ok.above)
 have neC:∀ b o,X.s₀.heap.get? b = some o→b∉ch:=fun b o e hb=>by rw [(hch b hb).1] at e; cases e
 have cellK:∀ x c,X.env.cells.lookup x = some c→∀ v,s.heap.IsCell c v→h'.IsCell c v:=fun x c e v ⟨o,ho,hd⟩=>by
  have nch:c∉ch:=fun z=>(hch c z).2.2.1 x c e rfl
  by_cases hc:c∈X.fs
  ·obtain ⟨sl,q⟩:=slot c o (I.cne x c e) hc nch ho (I.freeC x c e)
   exact ⟨_,q,hd⟩
  ·exact ⟨o,keep c o (I.cne x c e) hc nch ho (I.freeC x c e),hd⟩
 refine ⟨I.ok,I.os,I.bare,⟨fun b o e n hb hx=>?_,fun b o e n hb hx=>?_,fun b o e n hx=>?_,fun b o e hx=>?_,fun b xs e=>tups b xs (I.base.tups b xs e),fun b o xs e=>frzs b o xs (I.base.frzs b o xs e),fun b ps e=>?_⟩,?_,fun x c e=>?_,?_,fun x c e=>?_,fun p hp=>?_,hok,I.len⟩
 ·exact keep b o (neL b o e) hb (neC b o e) (I.base.keep b o e n hb hx) (I.base.free b o e n hx)
 ·obtain ⟨sl,e1⟩:=I.base.slot b o e n hb hx
  obtain ⟨sl',e2⟩:=slot b _ (neL b o e) hb (neC b o e) e1 (I.base.free b o e n hx)
  exact ⟨sl',e2⟩
 ·obtain ⟨o',e1⟩:=I.base.there b o e hx
  exact free b o' (neC b o e) e1 (I.base.free b o e n hx)
 ·obtain ⟨o',e1⟩:=I.base.there b o e hx
  exact there b o' (neC b o e) e1
 ·obtain ⟨m1,e1⟩:=I.base.tbls b ps e
  obtain ⟨m2,e2⟩:=tbls b _ e1
  exact ⟨m1 ++ m2,by rw [e2,Array.append_assoc]⟩
 ·obtain ⟨m,hn,hl⟩:=I.loc
  refine ⟨m,ns m hn,fun i x v e1 e2 e3=>?_⟩
  obtain ⟨u,r,l⟩:=hl i x v e1 e2 e3
  refine ⟨u,r,?_⟩
  rcases l with l | ⟨k,c,e,z⟩
  ·exact .inl l
  ·exact .inr ⟨k,c,e,cellK x c e _ z⟩
 ·obtain ⟨v,z⟩:=I.cell x c e
  exact ⟨v,cellK x c e v z⟩
 ·obtain ⟨m,⟨o,_,_,ho,_⟩,_⟩:=I.loc
  exact free _ o (fun z=>(hch _ z).2.1 rfl) ho I.free
 ·obtain ⟨v,o,ho,hd⟩:=I.cell x c e
  exact free c o (fun z=>(hch c z).2.2.1 x c e rfl) ho (I.freeC x c e)
 ·obtain ⟨e,n,ne,nf,d⟩:=I.pin p hp
  have nch:p.1∉ch:=fun z=>(hch p.1 z).2.2.2 p hp rfl
  exact ⟨keep p.1 p.2 ne nf nch e n,free p.1 p.2 nch e n,ne,nf,d⟩
end
section
variable {X:Cx} {EX:EXT}
end
end L2
namespace L2
open PySem PySem.Spec PyProof.Rows PySem.W
end L2
namespace L2
open PySem PySem.Spec PyProof.Rows PySem.W
section
variable {X:Cx} {pins:List (Addr×Obj)} {σ:St} {H:Hp} {s:Shared}
end
end L2
namespace L2
open PySem PySem.Spec PyProof.Rows PySem.W
section
variable {X:Cx}
variable {K:Frag} {H:Hp} {Q:VK}
end
section
variable {K:Frag} {D:Ends} {σ:St} {H:Hp} {Q:VK} {EX:EXT}
end
end L2
namespace L2
open PySem PySem.Spec PyProof.Rows PySem.W
section
variable {K:Frag} {C D:Addr} {cd:ClassData}
end
end L2
namespace L2
open PySem PySem.Spec PyProof.Rows
section
variable {X:Cx}
end
end L2
namespace L2
open PySem PySem.Spec PyProof.Rows
section
variable {K:PySem.W.Frag} {H:Hp} {Q:VK} {D:Ends} {σ:St}
theorem join {t:TS} {u:St→Hp→Prop} (P:St→Hp→Prop) (h1:∀ nx:St→Hp→Prop,(∀ σ' H',P σ' H'→nx σ' H')→t { D with nx:=nx } σ H) (h2:∀ σ' H',P σ' H'→u σ' H'):t { D with nx:=u } σ H:=h1 u h2
end
end L2
namespace L2
open PySem PySem.Spec PyProof.Rows
section
variable {X:Cx}
end
section
variable {K:PySem.W.Frag} {H:Hp} {Q:VK} {σ:St}
end
end L2
namespace L2
open PySem PySem.Spec PyProof.Rows
abbrev inCx (X:Cx):Cx:={ X with A:=X.A.in1.in1,xe:=fun _ _=>False }
section
variable {X:Cx} {pins:List (Addr×Obj)} {σ:St} {H:Hp} {s:Shared}
theorem Inv.toIn (I:Inv X pins σ H s):Inv (inCx X) pins σ H s :=
 ⟨⟨I.ok.mod,I.ok.kind,I.ok.glob,I.ok.blt,I.ok.above,I.ok.inj,I.ok.has,I.ok.cab,I.ok.hd,I.ok.frames,I.ok.stk,I.ok.exf,I.ok.bs,I.ok.bsz,I.ok.noex,I.ok.exfs,I.ok.funs,I.ok.frf⟩,I.os,I.bare,I.base,I.loc,I.cell,I.free,I.freeC,I.pin,I.hok,I.len⟩
theorem Inv.ofIn (I:Inv (inCx X) pins σ H s):Inv X pins σ H s :=
 ⟨⟨I.ok.mod,I.ok.kind,I.ok.glob,I.ok.blt,I.ok.above,I.ok.inj,I.ok.has,I.ok.cab,I.ok.hd,I.ok.frames,I.ok.stk,I.ok.exf,I.ok.bs,I.ok.bsz,I.ok.noex,I.ok.exfs,I.ok.funs,I.ok.frf⟩,I.os,I.bare,I.base,I.loc,I.cell,I.free,I.freeC,I.pin,I.hok,I.len⟩
theorem key_call {k:Nat} {f:Addr} {fd:FuncData} {ps:List Str} {sp:Sp} {x:V} {u:Value} {Q:VK} (F:FnOk X.prog X.w X.K X.mg X.base CX0 k f fd ps sp) (hr:Room (k + 2) X.A) (hb:Binds X.K fd ps []) (I:Inv X pins σ H s) (r:RelV x u) (h:sp [x] H Q E0) :
  wpAny (model X.prog X.w) X.A.in1.in1 (call (.ref f) [u]) (EP X pins σ Q) (fun _ _=>False) s :=
 thn (run_fn (X:=inCx X) F (Room.in1 (Room.in1 hr)) hb .nil pass0 I.toIn (.cons r .nil) h) fun v s' ⟨y,H',J,z,q⟩=>⟨y,H',J.ofIn,z,q⟩
theorem Inv.wrote {a:Addr} {o o':Obj} {h':Heap} {t':Nat} (I:Inv X (pins ++ [(a,o)]) σ H s) (h0:X.s₀.heap.get? a = none) (hc:∀ x c,X.env.cells.lookup x = some c→c≠a) (hp:∀ p∈X.pn ++ pins,p.1≠a)
  (sb:Heap.SameBut a s.heap h') (e:h'.get? a = some o') (d:∀ v,o'.data≠.cell v):Inv X (pins ++ [(a,o')]) σ H { s with heap:=h',toks:=t' }:=by
 obtain ⟨g1,g2,g3,g4,g5⟩:=I.pin (a,o) (List.mem_append_right _ (List.mem_append_right _ (List.mem_singleton.mpr rfl)))
 have I1:Inv X pins σ H s:=I.unpinned
 have nm:∀ {b:Addr},b∉[a]→b≠a:=fun nb z=>nb (List.mem_singleton.mpr z)
 have I2:Inv X pins σ H { s with heap:=h',toks:=t' }:=Inv.step2 (ch:=[a]) I1 (fun b hb=>by
   have eb:b = a:=List.mem_singleton.mp hb
   subst eb
   exact ⟨h0,g3,hc,hp⟩) (fun b ob _ _ nb q _=>(sb.2 b (nm nb)).trans q) (fun b ob _ _ nb q _=>⟨ob.slots,(sb.2 b (nm nb)).trans q⟩)
   (fun _ _ _ _ q=>q) (fun b ob nb q=>⟨ob,(sb.2 b (nm nb)).trans q⟩) (fun _ _ q=>q) (fun _ _ _ q=>q) (fun b ps q=>⟨#[],by simpa using q⟩) (fun m hm=>hm.sameBut sb (Ne.symm g3)) (I1.hok.letGo g2 sb)
 exact I2.pins_of fun p hp=>(List.mem_append.mp hp).elim (fun z=>I2.pin p (List.mem_append_right _ z)) fun z=>by
  rw [List.mem_singleton.mp z]
  exact ⟨e,g2,g3,g4,d⟩
end
end L2
namespace L2
open PySem PySem.Spec PyProof.Rows
inductive PV:List (Int×V)→List (Int×Value)→Prop where
 | nil:PV [] []
 | cons {k:Int} {x:V} {u:Value} {qs ps} (r:RelV x u) (t:PV qs ps):PV ((k,x) :: qs) ((k,u) :: ps)
theorem PV.zip:∀ {kz:List Int} {xs:List V} {vs:List Value},Vals xs vs→PV (kz.zip xs) (kz.zip vs)
 | [],_,_,_=>.nil
 | _ :: _,_,_,.nil=>.nil
 | _ :: _,_,_,.cons r t=>.cons r (PV.zip t)
theorem PV.perm {ps ps':List (Int×Value)} (h:ps'.Perm ps):∀ {qs:List (Int×V)},PV qs ps→∃ qs':List (Int×V),qs'.Perm qs∧PV qs' ps':=by
 induction h with
 | nil=>intro qs h; exact ⟨qs,.refl _,h⟩
 | cons x _ ih =>
  intro qs h
  cases h with
  | cons r t =>
   obtain ⟨qs',p,z⟩:=ih t
   exact ⟨_ :: qs',p.cons _,.cons r z⟩
 | swap x y l =>
  intro qs h
  cases h with
  | cons r t =>
   cases t with
   | cons r2 t2=>exact ⟨_ :: _ :: _,.swap _ _ _,.cons r2 (.cons r t2)⟩
 | trans _ _ ih1 ih2 =>
  intro qs h
  obtain ⟨q1,p1,z1⟩:=ih2 h
  obtain ⟨q2,p2,z2⟩:=ih1 z1
  exact ⟨q2,p2.trans p1,z2⟩
theorem PV.vals:∀ {qs:List (Int×V)} {ps:List (Int×Value)},PV qs ps→Vals (qs.map Prod.snd) (ps.map Prod.snd)∧qs.map Prod.fst = ps.map Prod.fst
 | _,_,.nil=>⟨.nil,rfl⟩
 | _,_,.cons r t=>⟨.cons r t.vals.1,by rw [List.map_cons,List.map_cons,t.vals.2]⟩
section
variable {X:Cx} {pins:List (Addr×Obj)} {σ:St} {H:Hp} {s:Shared}
theorem top_pin {p:Addr×Obj} (I:Inv X (pins ++ [p]) σ H s):s.heap.get? p.1 = some p.2:=(I.pin p (List.mem_append_right _ (List.mem_append_right _ (List.mem_singleton.mpr rfl)))).1
theorem took {kA:Array Value} {kz:List Int} {j:Nat} {n:Int} {t:Tok} (hk:IntsAre kA.toList (kz.take j)) (hn:kz[j]? = some n):IntsAre (kA.push (.int n t)).toList (kz.take (j + 1)):=by
 rw [Array.toList_push,List.take_add_one,hn]
 exact ksk_snoc hk
theorem sort_rest {a kS f:Addr} {e1 k:Nat} {fd:FuncData} {ps:List Str} {sp:Sp} {b:Bool} {vs:List Value} {xs:List V} {kz:List Int} {P:PySem.Fin→Shared→Prop} {E:Value→Shared→Prop}
  (F:FnOk X.prog X.w X.K X.mg X.base CX0 k f fd ps sp) (hr:Room (k + 2) X.A) (hb:Binds X.K fd ps [])
  (I:Inv X ((pins ++ [(a,seqObj "list" #[] e1)]) ++ [(kS,seqObj "list" #[] 0)]) σ H s) (h0:X.s₀.heap.get? kS = none) (hc:∀ x c,X.env.cells.lookup x = some c→c≠kS) (hp:∀ p∈X.pn ++ (pins ++ [(a,seqObj "list" #[] e1)]),p.1≠kS)
  (hv:Vals xs vs) (hlen:kz.length = vs.length) (h64:vs.length < 64)
  (turn:∀ (i:Nat) (x:V) (n:Int),xs[i]? = some x→kz[i]? = some n→∀ H',Same H H'→sp [x] H' (fun v H''=>v = .int n∧Same H' H'') E0)
  (done:∀ H' s' kA e,Inv X ((pins ++ [(a,seqObj "list" #[] e1)]) ++ [(kS,seqObj "list" kA e)]) σ H' s'→Same H H'→IntsAre kA.toList kz→wpAny (model X.prog X.w) X.A.in1.in1 (ksk_end a b vs.toArray e1 (.ref kS) kA) P E s') :
  wpAny (model X.prog X.w) X.A.in1.in1 (ksk_rest a (.ref f) b vs.toArray e1 (.ref kS)) P E s:=by
 have lens:xs.length = vs.length:=hv.length
 let Wk:Nat→Shared→Prop:=fun i s'=>∃ H' kA e,Inv X ((pins ++ [(a,seqObj "list" #[] e1)]) ++ [(kS,seqObj "list" kA e)]) σ H' s'∧Same H H'∧IntsAre kA.toList (kz.take i)
 have start:Wk 0 s:=⟨H,#[],0,I,Same.refl _,by rw [List.take_zero]; exact .nil⟩
 have last:∀ s',Wk (0 + vs.length) s'→wpAny (model X.prog X.w) X.A.in1.in1 (do let keys ← Builtin.List.listItems (.ref kS); ksk_end a b vs.toArray e1 (.ref kS) keys) P E s':=by
  rintro s' ⟨H',kA,e,I',sm,hk⟩
  rw [Nat.zero_add,List.take_of_length_le (Nat.le_of_eq hlen)] at hk
  exact wpAny_bind (listItems_at (top_pin I') rfl (done H' s' kA e I' sm hk))
 rw [ksk_rest]
 refine wpAny_bind (wpAny_rule ?_)
 rw [List.forIn_toArray]
 refine wpAny_bind (ksk_fold Wk vs 0 s start (fun j u s' hu w=>?_) last)
 rw [Nat.zero_add] at w ⊢
 obtain ⟨H',kA,e,I',sm,hk⟩:=w
 have hj:=(List.getElem?_eq_some_iff.mp hu).1
 have few:kA.size + 1≤64:=by
  have q:=hk.length
  rw [Array.length_toList,List.length_take] at q
  omega
 obtain ⟨u',eu,ru⟩:=hv.get (List.getElem?_eq_getElem (lens.symm ▸ hj:j < xs.length))
 cases hu.symm.trans eu
 have hn:kz[j]? = some (kz[j]'(hlen.symm ▸ hj)):=List.getElem?_eq_getElem _
 refine wpAny_bind (wpAny_attempt (wpAny_mono (key_call F hr hb I' ru (turn j _ _ (List.getElem?_eq_getElem _) hn H' sm)) ?_ fun _ _ no=>no.elim))
 rintro _ s2 ⟨y,H2,I2,ry,rfl,sm2⟩
 obtain ⟨t2,rfl⟩:=ry
 have at2:=top_pin I2
 refine wpAny_bind (listUpdate_at at2 rfl ?_ (by rw [sizeLine_eq]; omega) (by rw [Array.size_push,sizeLine_eq]; omega))
 exact wpAny_pure ⟨rfl,H2,_,_,I2.wrote h0 hc hp (Heap.SameBut.update _ _ _) (get?_update_seq at2 _) (fun _ z=>nomatch z),sm.trans sm2,took hk hn⟩
end
end L2
namespace L2
open PySem PySem.Spec PyProof.Rows
theorem ns_uniq {h:Heap} {a:Addr} {m m':Str→Option Value} (x:h.Ns a m) (y:h.Ns a m'):m = m':=by
 obtain ⟨o1,es1,ep1,ho1,hd1,_,hf1⟩:=x
 obtain ⟨o2,es2,ep2,ho2,hd2,_,hf2⟩:=y
 rw [ho1] at ho2; cases ho2; rw [hd1] at hd2; cases hd2
 funext z
 rw [← hf1,← hf2]
def SortedBy (b:Bool) (kz:List Int) (xs ys:List V):Prop:=∃ qs:List (Int×V),qs.Perm (kz.zip xs)∧ys = qs.map Prod.snd∧qs.Pairwise (fun p q=>if b then q.1≤p.1 else p.1≤q.1)
theorem pair_fst {b:Bool}:∀ {qs:List (Int×V)} {ps:List (Int×Value)},PV qs ps→ps.Pairwise (fun p q=>if b then q.1≤p.1 else p.1≤q.1)→qs.Pairwise (fun p q=>if b then q.1≤p.1 else p.1≤q.1)
 | _,_,.nil,_=>.nil
 | _,_,.cons (k:=k) (qs:=qs) (ps:=ps) r t,h=>by
  obtain ⟨h1,h2⟩:=List.pairwise_cons.mp h
  refine List.pairwise_cons.mpr ⟨fun q hq=>?_,pair_fst t h2⟩
  have hm:q.1∈ps.map Prod.fst:=by rw [← t.vals.2]; exact List.mem_map.mpr ⟨q,hq,rfl⟩
  obtain ⟨p,hp,e⟩:=List.mem_map.mp hm
  have:=h1 p hp
  rw [e] at this
  exact this
theorem sorted_of {b:Bool} {kz:List Int} {xs:List V} {vs out:List Value} (hv:Vals xs vs) (h:KskOut b kz vs out):∃ ys,Vals ys out∧SortedBy b kz xs ys:=by
 obtain ⟨ps,hp,rfl,hw⟩:=h
 obtain ⟨qs,h1,h2⟩:=PV.perm hp (PV.zip hv)
 exact ⟨qs.map Prod.snd,h2.vals.1,qs,h1,rfl,pair_fst h2 hw⟩
theorem SortedBy.length {b:Bool} {kz:List Int} {xs ys:List V} (h:SortedBy b kz xs ys) (hl:kz.length = xs.length):ys.length = xs.length:=by
 obtain ⟨qs,p,rfl,_⟩:=h
 rw [List.length_map,p.length_eq,List.length_zip,hl,Nat.min_self]
section
variable {X:Cx} {pins:List (Addr×Obj)} {σ:St} {H:Hp} {s:Shared}
def others (h:Heap) (L k a:Addr):List (Addr×Obj):=(List.range h.objs.size).filterMap fun b=>if b = L∨b = k∨b = a then none else (h.get? b).map fun o=>(b,o)
theorem mem_others {h:Heap} {L k a b:Addr} {o:Obj} (e:h.get? b = some o) (n1:b≠L) (n2:b≠k) (n3:b≠a):(b,o)∈others h L k a :=
 List.mem_filterMap.mpr ⟨b,List.mem_range.mpr (Heap.lt_size e),by rw [if_neg (by simp [n1,n2,n3]),e]; rfl⟩
theorem of_others {h:Heap} {L k a:Addr} {p:Addr×Obj} (hp:p∈others h L k a):h.get? p.1 = some p.2∧p.1≠L∧p.1≠k∧p.1≠a:=by
 obtain ⟨b,_,e⟩:=List.mem_filterMap.mp hp
 by_cases hb:b = L∨b = k∨b = a
 ·rw [if_pos hb] at e; cases e
 ·rw [if_neg hb] at e
  cases q:h.get? b with
  | none=>rw [q] at e; cases e
  | some o =>
   rw [q] at e
   cases e
   exact ⟨q,fun z=>hb (.inl z),fun z=>hb (.inr (.inl z)),fun z=>hb (.inr (.inr z))⟩
theorem sort_end {a kS:Addr} {e1 e:Nat} {kA:Array Value} {b:Bool} {vs:List Value} {xs:List V} {kz:List Int} {P:PySem.Fin→Shared→Prop} {E:Value→Shared→Prop}
  (I:Inv X ((pins ++ [(a,seqObj "list" #[] e1)]) ++ [(kS,seqObj "list" kA e)]) σ H s)
  (ha:X.s₀.heap.get? a = none∧(∀ x c,X.env.cells.lookup x = some c→c≠a)∧∀ p∈X.pn ++ pins,p.1≠a)
  (hkS:X.s₀.heap.get? kS = none∧(∀ x c,X.env.cells.lookup x = some c→c≠kS)∧∀ p∈X.pn ++ (pins ++ [(a,seqObj "list" #[] e1)]),p.1≠kS)
  (hk:IntsAre kA.toList kz) (hv:Vals xs vs) (hlen:kz.length = vs.length) (h64:vs.length < 64)
  (hP:∀ h' tk ys,Inv X pins σ (upd H a (.lst ys)) { s with heap:=h',toks:=tk }→SortedBy b kz xs ys→P (.done (.ret .none)) { s with heap:=h',toks:=tk }) :
  wpAny (model X.prog X.w) X.A.in1.in1 (ksk_end a b vs.toArray e1 (.ref kS) kA) P E s:=by
 obtain ⟨k1,k2,k3,k4,_⟩:=I.pin (kS,seqObj "list" kA e) (List.mem_append_right _ (List.mem_append_right _ (List.mem_singleton.mpr rfl)))
 obtain ⟨a1,a2,a3,a4,_⟩:=I.pin (a,seqObj "list" #[] e1) (List.mem_append_right _ (List.mem_append_left _ (List.mem_append_right _ (List.mem_singleton.mpr rfl))))
 have hka:kS≠a:=fun z=>hkS.2.2 (a,seqObj "list" #[] e1) (List.mem_append_right _ (List.mem_append_right _ (List.mem_singleton.mpr rfl))) z.symm
 have I1:Inv X pins σ H s:=I.unpinned.unpinned
 obtain ⟨m,hn,_⟩:=id I1.loc
 have em:∀ b:Addr,({}:Heap).get? b = none:=fun b=>Heap.get?_none_of_le (Nat.zero_le _)
 refine ksk_end_ (h₀:=({}:Heap)) (L:=X.env.locals) (m:=m) (news:=others s.heap X.env.locals kS a) (e:=e) ⟨hn,fun b o q=>(by rw [em b] at q; cases q),Nat.zero_le _⟩ (fun p hp=>?_) hka (fun p hp=>(of_others hp).2.2.1) (fun p hp=>(of_others hp).2.2.2) hk hlen h64 (fun h' tk out c F' N' ko=>?_)
 ·rcases List.mem_append.mp hp with z | z
  ·exact ⟨(of_others z).1,(of_others z).2.1,em _⟩
  ·rcases List.mem_cons.mp z with rfl | z
   ·exact ⟨k1,k3,em _⟩
   ·rw [List.mem_singleton.mp z]
    exact ⟨a1,a3,em _⟩
 ·obtain ⟨ys,ry,so⟩:=sorted_of hv ko
  have kp:∀ b o,s.heap.get? b = some o→b≠X.env.locals→b≠kS→b≠a→h'.get? b = some o:=fun b o q n1 n2 n3=>(N' (b,o) (.tail _ (mem_others q n1 n2 n3))).1
  have na:h'.get? a = some (seqObj "list" out c):=(N' (a,seqObj "list" out c) (.head _)).1
  have nm:∀ {b:Addr},b∉[a,kS]→b≠a∧b≠kS:=fun nb=>⟨fun z=>nb (by rw [z]; exact .head _),fun z=>nb (by rw [z]; exact .tail _ (.head _))⟩
  refine hP h' tk ys (Inv.step2 (ch:=[a,kS]) I1 (fun b hb=>?_) (fun b o nL _ nb q _=>kp b o q nL (nm nb).2 (nm nb).1) (fun b o nL _ nb q _=>⟨o.slots,kp b o q nL (nm nb).2 (nm nb).1⟩)
   (fun b o nb _ q=>by rw [upd_ne (nm nb).1]; exact q) (fun b o nb q=>?_) (fun b ys q=>by rw [upd_ne (ne_of_none q a2)]; exact q) (fun b o u q=>by rw [upd_ne (ne_of_none q a2)]; exact q) (fun b ps q=>⟨#[],by rw [upd_ne (ne_of_none q a2)]; simpa using q⟩)
   (fun m0 h0=>ns_uniq hn h0 ▸ F'.ns) (fun b o q=>?_)) so
  ·rcases List.mem_cons.mp hb with rfl | hb
   ·exact ⟨ha.1,a3,ha.2.1,ha.2.2⟩
   ·have eb:b = kS:=List.mem_singleton.mp hb
    subst eb
    exact ⟨hkS.1,k3,hkS.2.1,fun p hp=>hkS.2.2 p ((List.mem_append.mp hp).elim (fun z=>List.mem_append_left _ z) fun z=>List.mem_append_right _ (List.mem_append_left _ z))⟩
  ·by_cases nL:b = X.env.locals
   ·subst nL
    obtain ⟨oL,_,_,hoL,_⟩:=F'.ns
    exact ⟨oL,hoL⟩
   ·exact ⟨o,kp b o q nL (nm nb).2 (nm nb).1⟩
  ·by_cases hb:b = a
   ·subst hb
    rw [upd_same] at q
    cases q
    refine ⟨?_,out.toList,c,ry,by simpa using na⟩
    have:=so.length (hlen.trans hv.length.symm)
    rw [this,hv.length,sizeLine_eq]
    omega
   ·rw [upd_ne hb] at q
    have tr:∀ d u,H d = some u→d≠X.env.locals∧d≠kS∧d≠a:=fun d u z=>⟨fun w=>(by rw [w,I1.free] at z; cases z),fun w=>(by rw [w,k2] at z; cases z),fun w=>(by rw [w,a2] at z; cases z)⟩
    refine (I1.hok b o q).stay (fun d u hd z=>?_) (fun d z=>by rw [upd_ne (ne_of_none z a2)]; exact z) fun d xs z=>by rw [upd_ne (ne_of_none z a2)]; exact z
    have td:d≠X.env.locals∧d≠kS∧d≠a:=by
     rcases hd with rfl | hd
     ·exact tr _ _ q
     ·exact tr _ _ hd
    exact kp d u z td.1 td.2.1 td.2.2
end
end L2
namespace L2
open PySem PySem.Spec PyProof.Rows
section
variable {X:Cx} {pins:List (Addr×Obj)} {σ:St} {H:Hp} {s:Shared}
theorem sort_tree {a f:Addr} {n k:Nat} {fd:FuncData} {ps:List Str} {sp:Sp} {b:Bool} {vs:List Value} {xs:List V} {kz:List Int} {P:PySem.Fin→Shared→Prop} {E:Value→Shared→Prop}
  (F:FnOk X.prog X.w X.K X.mg X.base CX0 k f fd ps sp) (hr:Room (k + 2) X.A) (hb:Binds X.K fd ps []) (I:Inv X pins σ H s) (ho:s.heap.get? a = some (seqObj "list" vs.toArray n)) (hfp:FpOk X pins H a) (hs0:X.s₀.heap.objs.size≤a)
  (hv:Vals xs vs) (hlen:kz.length = vs.length) (h64:vs.length < 64)
  (turn:∀ (i:Nat) (x:V) (n:Int),xs[i]? = some x→kz[i]? = some n→∀ H',Same H H'→sp [x] H' (fun v H''=>v = .int n∧Same H' H'') E0)
  (hP:∀ s' H' ys,Same H H'→H' a = none→Inv X pins σ (upd H' a (.lst ys)) s'→SortedBy b kz xs ys→P (.done (.ret .none)) s') :
  wpAny (model X.prog X.w) X.A.in1.in1 (ksk_tree a (.ref f) b) P E s:=by
 obtain ⟨g0,g1,g2,_,g4,g5⟩:=hfp
 have a0:X.s₀.heap.get? a = none:=Heap.get?_none_of_le hs0
 have s1:=Heap.SameBut.update s.heap a (Obj.mapSeq fun _=>(#[]:Array Value))
 obtain ⟨e1,ho1⟩:∃ e1,(s.heap.update a (Obj.mapSeq fun _=>(#[]:Array Value))).get? a = some (seqObj "list" #[] e1):=⟨_,get?_update_seq ho fun _=>#[]⟩
 have I0:Inv X (pins ++ [(a,seqObj "list" vs.toArray n)]) σ H s:=I.pins_of fun p hp=>(List.mem_append.mp hp).elim (fun z=>I.pin p (List.mem_append_right _ z)) fun z=>by
  rw [List.mem_singleton.mp z]
  exact ⟨ho,g0,g1,g2,fun v z=>nomatch z⟩
 have I1:Inv X (pins ++ [(a,seqObj "list" #[] e1)]) σ H { s with heap:=s.heap.update a (Obj.mapSeq fun _=>(#[]:Array Value)),toks:=s.toks }:=I0.wrote a0 g4 g5 s1 ho1 fun v z=>nomatch z
 unfold ksk_tree
 refine wpAny_bind (listItems_at ho rfl ?_)
 refine wpAny_bind (listUpdate_at ho rfl ?_ (by rw [List.size_toArray,sizeLine_eq]; omega) (Nat.zero_le _))
 refine wpAny_bind (seqEpoch_at ho1 rfl ?_)
 refine wpAny_bind (wpAny_newTuple ?_ (by show vs.length≤_; rw [sizeLine_eq]; omega))
 refine wpAny_bind (wpAny_newList ?_ (Nat.zero_le _))
 refine wpAny_holding ?_
 generalize hh1:s.heap.update a (Obj.mapSeq fun _=>(#[]:Array Value)) = h1 at I1
 have lk:h1.objs.size≤(h1.push (seqObj "tuple" vs.toArray 0)).objs.size:=by rw [size_push']; exact Nat.le_succ _
 have I2:Inv X (pins ++ [(a,seqObj "list" #[] e1)]) σ H { s with heap:=(h1.push (seqObj "tuple" vs.toArray 0)).push (seqObj "list" #[] 0),toks:=s.toks } :=
  I1.kept (t':=s.toks) fun b o q=>Heap.get?_push_of_some _ (Heap.get?_push_of_some _ q)
 have hkn:H (h1.push (seqObj "tuple" vs.toArray 0)).objs.size = none:=I1.hok.fresh lk
 obtain ⟨_,q1,q2,_,q4,q5⟩:FpOk X (pins ++ [(a,seqObj "list" #[] e1)]) H (h1.push (seqObj "tuple" vs.toArray 0)).objs.size:=I1.fpOk lk hkn
 have k0:X.s₀.heap.get? (h1.push (seqObj "tuple" vs.toArray 0)).objs.size = none:=Heap.get?_none_of_le (Nat.le_trans I1.sz lk)
 have I3:Inv X ((pins ++ [(a,seqObj "list" #[] e1)]) ++ [((h1.push (seqObj "tuple" vs.toArray 0)).objs.size,seqObj "list" #[] 0)]) σ H { s with heap:=(h1.push (seqObj "tuple" vs.toArray 0)).push (seqObj "list" #[] 0),toks:=s.toks } :=
  I2.pins_of fun p hp=>(List.mem_append.mp hp).elim (fun z=>I2.pin p (List.mem_append_right _ z)) fun z=>by
   rw [List.mem_singleton.mp z]
   exact ⟨Heap.get?_push_size _ rfl,hkn,q1,q2,fun v z=>nomatch z⟩
 refine sort_rest F hr hb I3 k0 q4 q5 hv hlen h64 turn fun H' s' kA e I' sm hk=>?_
 obtain ⟨_,an,_⟩:=I'.pin (a,seqObj "list" #[] e1) (List.mem_append_right _ (List.mem_append_left _ (List.mem_append_right _ (List.mem_singleton.mpr rfl))))
 exact sort_end I' ⟨a0,g4,g5⟩ ⟨k0,q4,q5⟩ hk hv hlen h64 fun h' tk ys J so=>hP _ H' ys sm an J so
theorem call_sortedK {l f:Addr} {k:Nat} {fd:FuncData} {ps:List Str} {sp:Sp} {xs:List V} {kz:List Int} {Q:VK}
  (F:FnOk X.prog X.w X.K X.mg X.base CX0 k f fd ps sp) (hr:Room (k + 2) X.A) (hb:Binds X.K fd ps []) (I:Inv X pins σ H s) (hs:SqL X.K H l xs) (hlen:kz.length = xs.length) (h64:xs.length < 64)
  (turn:∀ (i:Nat) (x:V) (n:Int),xs[i]? = some x→kz[i]? = some n→∀ H',Same H H'→sp [x] H' (fun v H''=>v = .int n∧Same H' H'') E0)
  (hQ:∀ p H' ys,H p = none→Same H H'→H' p = some (.lst ys)→SortedBy false kz xs ys→Q (.ref p) H') :
  wpAny (model X.prog X.w) X.A (call (.builtin "sorted") [.ref l] [(Str.ofString "key",.ref f)]) (EP X pins σ Q) X.xe s:=by
 obtain ⟨vs,hv,pl,_⟩:=I.list hs
 have hl:s.heap.IsList l vs.toArray:=by
  obtain ⟨o,n,h1,h2,h3⟩:=pl
  exact ⟨o,h1,h2,n,h3.2⟩
 have hvl:vs.length < 64:=by rw [← hv.length]; exact h64
 have few:vs.length≤sizeLine:=by rw [sizeLine_eq]; omega
 refine call_function_entry_kw kind_sorted plain_sorted entry_sorted (ksk_s1 _ _) ?_
 rw [Builtin.«sorted»]
 refine wpAny_bind (m:=checkCount "sorted" 1 1 _) (wpAny_pure (wpAny_bind (collect_list hl ?_ few)))
 generalize hc:(s.heap.push (seqObj "list" #[] 0)).update s.heap.objs.size (Obj.mapSeq (· ++ vs.toArray)) = hcol
 have ecol:hcol.objs.size = s.heap.objs.size + 1:=by rw [← hc,Heap.size_update,size_push']
 have kcol:∀ b o,s.heap.get? b = some o→hcol.get? b = some o:=fun b o q=>by
  rw [← hc,(Heap.SameBut.update _ _ _).2 b (Nat.ne_of_lt (Heap.lt_size q))]
  exact Heap.get?_push_of_some _ q
 have low:s.heap.objs.size≤hcol.objs.size:=by omega
 have I2:Inv X pins σ H { s with heap:=hcol.push (seqObj "list" vs.toArray 0),toks:=s.toks }:=I.kept fun b o q=>Heap.get?_push_of_some _ (kcol b o q)
 have own:(hcol.push (seqObj "list" vs.toArray 0)).get? hcol.objs.size = some (seqObj "list" vs.toArray 0):=Heap.get?_push_size _ rfl
 refine wpAny_bind (wpAny_newList ?_ few)
 refine wpAny_bind (wpAny_holding (wpAny_call_entry_kw (s:={ s with heap:=hcol.push (seqObj "list" vs.toArray 0) }) slot_list_sort ⟨_,own,rfl⟩ entry_list_sort ?_ (ksk_l1 _ _)))
 show wpAny (model X.prog X.w) X.A.in1.in1 (Builtin.«list.sort» ⟨[.ref hcol.objs.size],[(Str.ofString "key",.ref f)]⟩) _ _ _
 rw [ksk_t1]
 refine sort_tree F hr hb I2 own (I.fpOk low (I.hok.fresh low)) (Nat.le_trans I.sz low) hv (hlen.trans hv.length) hvl turn fun s' H' ys sm hn J so=>⟨_,rfl,?_⟩
 exact wpAny_pure ⟨_,rfl,.ref hcol.objs.size,_,J,rfl,hQ _ _ ys (I.hok.fresh low) (sm.trans (Same.upd_new hn)) upd_same so⟩
end
end L2
namespace L2
open PySem PySem.Spec PyProof.Rows
def rSortK (K:PySem.W.Frag) (sp:Sp):V→Hp→VK→Prop:=fun x H Q=>∃ (l:Addr) (xs:List V) (kz:List Int),x = .ref l∧SqL K H l xs∧kz.length = xs.length∧xs.length < 64 ∧
 (∀ (i:Nat) (x:V) (n:Int),xs[i]? = some x→kz[i]? = some n→∀ H',Same H H'→sp [x] H' (fun v H''=>v = .int n∧Same H' H'') E0) ∧
 ∀ p H' ys,H p = none→Same H H'→H' p = some (.lst ys)→SortedBy false kz xs ys→Q (.ref p) H'
def tSortK (K:PySem.W.Frag) (sp:Sp) (t:TE):TE:=fun σ H Q=>t σ H fun x H1=>rSortK K sp x H1 Q
section
variable {X:Cx} {k:Nat} {y:Str} {ps:List Str} {sp:Sp} {p py kpos pos:Pos} {e:Expr} {t:TE}
theorem pe_sortK (O:Ok X.prog X.w X.K X.mg X.base k y ps sp) (hr:Room (k + 2) X.A) (ha:PE X e t) (hg:Gl X (Str.ofString "sorted")) (hm:X.mg "sorted" = none) (hv:bootBuiltins "sorted" = some (.builtin "sorted")) (hgy:Gl X y:=by rfl)
  (hdby:(y == ("__debug__":Str)) = false:=by decide) (hst:starEach [e] X.env = (false,eval e X.env) :: starEach [] X.env:=by rfl) :
  PE X (.Call (.Name "sorted" p) [e] [⟨some (Str.ofString "key"),.Name y py,kpos⟩] pos) (tSortK X.K sp t):=by
 obtain ⟨f,fd,F,hmy,hk,hb⟩:=O
 intro pins s σ H Q I h
 refine wpAny_Call_Name_kw (ld_blt I hg hm hv ?_ (by decide) (by decide))
 have hpa:PA X [e] (tCons t tNil):=pa_cons ha pa_nil hst
 have hpk:PK X [⟨some (Str.ofString "key"),.Name y py,kpos⟩] (tCons (tC (V.ref f)) tNil):=pk_cons (pe_glob (v:=V.ref f) hgy hmy rfl hdby) pk_nil
 refine callWith_kw (thn (hpa pos pins s σ H (fun vs H1=>∃ x,vs = [x]∧rSortK X.K sp x H1 Q) I ?_) fun us s1 ⟨vs,H1,I1,r,x,ev,q⟩=>?_) (by rw [hst]; rfl) (by rw [hst]; rfl) rfl rfl
 ·show t σ H fun x H1=>∃ z,[x] = [z]∧rSortK X.K sp z H1 Q
  have e:(fun (x:V) (H1:Hp)=>∃ z,[x] = [z]∧rSortK X.K sp z H1 Q) = fun x H1=>rSortK X.K sp x H1 Q:=by
   funext x H1
   apply propext
   constructor
   ·rintro ⟨z,e,q⟩
    cases e
    exact q
   ·intro q
    exact ⟨x,rfl,q⟩
  rw [e]
  exact h
 ·subst ev
  obtain ⟨u,rfl,ru⟩:=vals1 r
  refine thn (hpk pos pins s1 σ H1 (fun zs H2=>zs = [V.ref f]∧H2 = H1) I1 ⟨rfl,rfl⟩) fun ws s2 ⟨zs,H2,I2,rz,ez,eH⟩=>?_
  subst ez
  subst eH
  obtain ⟨w,rfl,rw_⟩:=vals1 rz
  cases rw_
  obtain ⟨l,xs,kz,rfl,hs,h1,h2,turn,hQ⟩:=q
  cases ru
  exact call_sortedK F hr hb I2 hs h1 h2 turn hQ
variable {K:PySem.W.Frag}
theorem kpe_sortK (hK:X.K = K) (O:Ok X.prog X.w K X.mg X.base k y ps sp) (hr:Room (k + 2) X.A) (ha:PE X e t) (hg:Gl X (Str.ofString "sorted")) (hm:X.mg "sorted" = none) (hv:bootBuiltins "sorted" = some (.builtin "sorted")) (hgy:Gl X y:=by rfl)
  (hdby:(y == ("__debug__":Str)) = false:=by decide) (hst:starEach [e] X.env = (false,eval e X.env) :: starEach [] X.env:=by rfl) :
  PE X (.Call (.Name "sorted" p) [e] [⟨some (Str.ofString "key"),.Name y py,kpos⟩] pos) (tSortK K sp t):=by
 subst hK
 exact pe_sortK O hr ha hg hm hv hgy hdby hst
end
section
variable {K:PySem.W.Frag} {H:Hp} {Q:VK} {σ:St} {sp:Sp}
theorem r_sortK {t:TE} (h:t σ H fun x H1=>rSortK K sp x H1 Q):tSortK K sp t σ H Q:=h
theorem rd_sortKF {l:Addr} {xs:List V} (kz:List Int) (hs:SqL K H l xs) (h1:kz.length = xs.length) (h2:xs.length < 64)
  (turn:∀ (i:Nat) (x:V) (n:Int),xs[i]? = some x→kz[i]? = some n→∀ H',Same H H'→sp [x] H' (fun v H''=>v = .int n∧Same H' H'') E0)
  (k:∀ p H' ys,H p = none→Same H H'→H' p = some (.lst ys)→SortedBy false kz xs ys→Q (.ref p) H'):rSortK K sp (.ref l) H Q:=⟨l,xs,kz,rfl,hs,h1,h2,turn,k⟩
end
end L2
namespace L2
open PySem PySem.Spec PyProof.Rows
mutual
inductive Tell (K:PySem.W.Frag) (H:Hp):V→PyData→Prop where
 | non:Tell K H .non .none
 | bl (b:Bool):Tell K H (.bl b) (.bool b)
 | int (i:Int):Tell K H (.int i) (.int i)
 | str (x:Str):Tell K H (.str x) (.str x)
 | tup {a:Addr} {xs:List V} {ds:List PyData} (h:SqT K H a xs) (t:Tells K H xs ds):Tell K H (.ref a) (.tuple ds)
 | lst {a:Addr} {xs:List V} {ds:List PyData} (h:SqL K H a xs) (t:Tells K H xs ds):Tell K H (.ref a) (.list ds)
inductive Tells (K:PySem.W.Frag) (H:Hp):List V→List PyData→Prop where
 | nil:Tells K H [] []
 | cons {x:V} {d:PyData} {xs:List V} {ds:List PyData} (h:Tell K H x d) (t:Tells K H xs ds):Tells K H (x :: xs) (d :: ds)
end
section
variable {X:Cx} {pins:List (Addr×Obj)} {σ:St} {H:Hp} {s:Shared}
mutual
theorem Tell.reads (I:Inv X pins σ H s):∀ {v:V} {d:PyData} {u:Value},Tell X.K H v d→RelV v u→∃ as,Reads s.heap u d as
 | _,_,u,.non,r=>by cases (show u = Value.none from r); exact ⟨_,.none⟩
 | _,_,u,.bl b,r=>by cases (show u = Value.bool b from r); exact ⟨_,.bool b⟩
 | _,_,u,.int i,r=>by
  obtain ⟨t,q⟩:=(show ∃ t,u = Value.int i t from r)
  cases q
  exact ⟨_,.int i t⟩
 | _,_,u,.str x,r=>by
  obtain ⟨t,q⟩:=(show ∃ t,u = Value.str x t from r)
  cases q
  exact ⟨_,.str x t⟩
 | _,_,u,.tup (a:=a) h t,r=>by
  cases (show u = Value.ref a from r)
  obtain ⟨its,rv,p,_⟩:=I.tuple h
  obtain ⟨o,h1,h2,n,h3⟩:=p
  obtain ⟨as,ra⟩:=Tells.reads I t rv
  exact ⟨_,reads_tuple_at h1 h2 h3 (by simpa using ra)⟩
 | _,_,u,.lst (a:=a) h t,r=>by
  cases (show u = Value.ref a from r)
  obtain ⟨its,rv,p,_⟩:=I.list h
  obtain ⟨o,n,h1,h2,h3⟩:=p
  obtain ⟨as,ra⟩:=Tells.reads I t rv
  exact ⟨_,reads_list_at h1 h2 h3.2 (by simpa using ra)⟩
theorem Tells.reads (I:Inv X pins σ H s):∀ {vs:List V} {ds:List PyData} {us:List Value},Tells X.K H vs ds→Vals vs us→∃ as,ReadsAll s.heap us ds as
 | _,_,_,.nil,.nil=>⟨_,.nil⟩
 | _,_,_,.cons h t,.cons r rs=>by
  obtain ⟨as,ra⟩:=Tell.reads I h r
  obtain ⟨bs,rb⟩:=Tells.reads I t rs
  exact ⟨_,.cons ra rb⟩
end
def rEqD (K:PySem.W.Frag) (neg:Bool):R2:=fun x y H Q=>∃ d e,Tell K H x d∧Tell K H y e∧SeqAt.shaped d = true∧SeqAt.shaped e = true∧Q (.bl (if neg then !PyData.eqv d e else PyData.eqv d e)) H
theorem op_neD (hu:X.A.units + 64 < cLine):OpR X (compareOp .NotEq) (rEqD X.K true):=by
 intro pins s σ H x y v u Q I rx ry h
 obtain ⟨d,e,hd,he,sd,se,q⟩:=h
 obtain ⟨as,ra⟩:=hd.reads I rx
 obtain ⟨bs,rb⟩:=he.reads I ry
 exact ne_dataH ra rb sd se hu ⟨.bl (!PyData.eqv d e),H,I,rfl,q⟩
variable {K:PySem.W.Frag}
theorem kop_neD (K:PySem.W.Frag) (hK:X.K = K) (hu:X.A.units + 64 < cLine):OpR X (compareOp .NotEq) (rEqD K true):=hK ▸ op_neD hu
end
section
variable {K:PySem.W.Frag} {H:Hp} {Q:VK}
theorem r_neD {x y:V} {d e:PyData} (hd:Tell K H x d) (he:Tell K H y e) (sd:SeqAt.shaped d = true) (se:SeqAt.shaped e = true) (h:Q (.bl (!PyData.eqv d e)) H):rEqD K true x y H Q:=⟨d,e,hd,he,sd,se,h⟩
def Rows (K:PySem.W.Frag) (H:Hp) (xs:List V) (rs:List (List Int)):Prop:=Tells K H xs (rs.map fun r=>.tuple (r.map PyData.int))
theorem Tells.ints:∀ (r:List Int),Tells K H (r.map V.int) (r.map PyData.int)
 | []=>.nil
 | i :: r=>.cons (.int i) (Tells.ints r)
theorem Tell.row {a:Addr} {r:List Int} (h:SqT K H a (r.map V.int)):Tell K H (.ref a) (.tuple (r.map PyData.int)):=.tup h (Tells.ints r)
end
end L2
namespace L2
open PySem PySem.Spec PyProof.Rows
section
variable {K:PySem.W.Frag} {g:TG} {D:Ends} {σ:St} {H:Hp}
theorem f_inv {J:It} {tb:TS} (n:Nat) (Pv:Nat→St→Hp→Prop) (h0:Pv 0 σ H) (hgo:∀ i σ H2,i < n→Pv i σ H2→J.go i H2) (hstop:∀ σ H2,Pv n σ H2→J.stop n H2)
  (hs:∀ i x σ H2 H3,i < n→Pv i σ H2→J.yld i H2 x H3→g x σ H3 fun σ2 H4=>tb { D with nx:=Pv (i + 1),ct:=Pv (i + 1),bk:=D.nx } σ2 H4) (hd:∀ σ H2,Pv n σ H2→D.nx σ H2):ForGoal g tb D J σ H:=by
 refine ⟨fun i m σ2 H2=>m = n - i∧i≤n∧Pv i σ2 H2,⟨n,by simp,Nat.zero_le _,h0⟩,?_⟩
 rintro i m σ2 H2 ⟨rfl,hi,p⟩
 by_cases hlt:i < n
 ·exact .inr ⟨hgo i σ2 H2 hlt p,Pv (i + 1),fun σ' H' p'=>⟨n - (i + 1),by omega,rfl,hlt,p'⟩,fun x H' y=>hs i x σ2 H2 H' hlt p y⟩
 ·have e:i = n:=by omega
  subst e
  exact .inl ⟨hstop σ2 H2 p,hd σ2 H2 p⟩
theorem f_invR {lo:Int} {n:Nat} {tb:TS} (Pv:Nat→St→Hp→Prop) (h0:Pv 0 σ H) (hs:∀ i σ H2,i < n→Pv i σ H2→g (.int (lo + i)) σ H2 fun σ2 H4=>tb { D with nx:=Pv (i + 1),ct:=Pv (i + 1),bk:=D.nx } σ2 H4) (hd:∀ σ H2,Pv n σ H2→D.nx σ H2):ForGoal g tb D (Itr lo n) σ H:=by
 refine f_inv n Pv h0 (fun i σ H2 hi _=>hi) (fun σ H2 _=>Nat.le_refl _) (fun i x σ H2 H3 hi p y=>?_) hd
 obtain ⟨rfl,rfl⟩:=y
 exact hs i σ _ hi p
theorem f_invL {a:Addr} {xs:List V} {tb:TS} (Pv:Nat→St→Hp→Prop) (h0:Pv 0 σ H) (ha:∀ i σ H2,Pv i σ H2→SqL K H2 a xs) (hs:∀ i x σ H2,xs[i]? = some x→Pv i σ H2→g x σ H2 fun σ2 H4=>tb { D with nx:=Pv (i + 1),ct:=Pv (i + 1),bk:=D.nx } σ2 H4) (hd:∀ σ H2,Pv xs.length σ H2→D.nx σ H2):ForGoal g tb D (Itl K a) σ H:=by
 refine f_inv xs.length Pv h0 (fun i σ H2 hi p=>⟨xs,xs[i],ha i σ H2 p,List.getElem?_eq_getElem hi⟩) (fun σ H2 p=>⟨xs,ha _ σ H2 p,Nat.le_refl _⟩) (fun i x σ H2 H3 hi p y=>?_) hd
 obtain ⟨rfl,e⟩:=y
 exact hs i x σ _ (e xs (ha i σ _ p)) p
end
end L2
namespace L2
open PySem PySem.Spec PyProof.Rows
section
variable {X:Cx}
end
section
variable {K:PySem.W.Frag} {H:Hp} {Q:VK} {σ:St} {ix:List (Option Nat)}
end
end L2
namespace L2
open PySem
section
variable {prog:Program} {w:World} {A:Around} {E:Value→Shared→Prop} {s:Shared}
end
end L2
namespace L2
open PySem
open AutoSeq1 (wpAny_loadPart')
end L2
namespace L2
open PySem PySem.Spec PyProof.Rows
section
variable {X:Cx}
end
section
variable {K:PySem.W.Frag} {H:Hp} {σ:St} {D:Ends}
end
end L2
namespace L2
open PySem PySem.Spec PyProof.Rows
inductive RowsL (K:PySem.W.Frag) (H:Hp):List V→List (List Int)→Prop where
 | nil:RowsL K H [] []
 | cons {a:Addr} {r:List Int} {xs:List V} {rs:List (List Int)} (h:SqT K H a (r.map V.int)) (t:RowsL K H xs rs):RowsL K H (.ref a :: xs) (r :: rs)
namespace RowsL
variable {K:PySem.W.Frag} {H H':Hp}
theorem length:∀ {xs:List V} {rs:List (List Int)},RowsL K H xs rs→rs.length = xs.length
 | _,_,.nil=>rfl
 | _,_,.cons _ t=>by rw [List.length_cons,List.length_cons,t.length]
theorem get:∀ {xs:List V} {rs:List (List Int)} {i:Nat} {x:V},RowsL K H xs rs→xs[i]? = some x→∃ a r,x = .ref a∧SqT K H a (r.map V.int)∧rs[i]? = some r
 | _,_,_,_,.nil,h=>by simp at h
 | _,_,0,_,.cons (a:=a) (r:=r) h _,e=>by
  simp at e
  exact ⟨a,r,e.symm,h,rfl⟩
 | _,_,i + 1,_,.cons _ t,e=>by
  obtain ⟨a,r,h1,h2,h3⟩:=get (i:=i) t (by simpa using e)
  exact ⟨a,r,h1,h2,by simpa using h3⟩
theorem row:∀ {xs:List V} {rs:List (List Int)} {i:Nat} {r:List Int},RowsL K H xs rs→rs[i]? = some r→∃ a,xs[i]? = some (.ref a)∧SqT K H a (r.map V.int)
 | _,_,_,_,.nil,h=>by simp at h
 | _,_,0,_,.cons (a:=a) (r:=r) h _,e=>by
  simp at e
  subst e
  exact ⟨a,rfl,h⟩
 | _,_,i + 1,_,.cons _ t,e=>by
  obtain ⟨a,h1,h2⟩:=row (i:=i) t (by simpa using e)
  exact ⟨a,by simpa using h1,h2⟩
theorem same:∀ {xs:List V} {rs:List (List Int)},RowsL K H xs rs→Same H H'→RowsL K H' xs rs
 | _,_,.nil,_=>.nil
 | _,_,.cons h t,s=>.cons (s.at h) (t.same s)
theorem append:∀ {xs ys:List V} {rs qs:List (List Int)},RowsL K H xs rs→RowsL K H ys qs→RowsL K H (xs ++ ys) (rs ++ qs)
 | _,_,_,_,.nil,u=>u
 | _,_,_,_,.cons h t,u=>.cons h (t.append u)
theorem snoc {xs:List V} {rs:List (List Int)} {a:Addr} {r:List Int} (t:RowsL K H xs rs) (h:SqT K H a (r.map V.int)):RowsL K H (xs ++ [.ref a]) (rs ++ [r]):=t.append (.cons h .nil)
theorem off {l:Addr} {ys zs:List V}:∀ {xs:List V} {rs:List (List Int)},RowsL K H xs rs→H l = some (.lst ys)→RowsL K (upd H l (.lst zs)) xs rs
 | _,_,.nil,_=>.nil
 | _,_,.cons h t,e=>.cons ((rm_sqT h e).imp (fun q=>q.imp (fun q=>by rw [upd_ne (fun z=>by rw [z,rm_at] at q; cases q)]; exact rm_same _ _ q) fun ⟨o,q⟩=>⟨o,by rw [upd_ne (fun z=>by rw [z,rm_at] at q; cases q)]; exact rm_same _ _ q⟩) id) (t.off e)
theorem take:∀ {xs:List V} {rs:List (List Int)} (n:Nat),RowsL K H xs rs→RowsL K H (xs.take n) (rs.take n)
 | _,_,0,_=>.nil
 | _,_,_ + 1,.nil=>.nil
 | _,_,n + 1,.cons h t=>.cons h (t.take n)
theorem tells:∀ {xs:List V} {rs:List (List Int)},RowsL K H xs rs→Tells K H xs (rs.map fun r=>.tuple (r.map PyData.int))
 | _,_,.nil=>.nil
 | _,_,.cons h t=>.cons (Tell.row h) t.tells
end RowsL
theorem upd_sqT {K:PySem.W.Frag} {H:Hp} {l a:Addr} {xs ys zs:List V} (h:SqT K H a xs) (e:H l = some (.lst ys)):SqT K (upd H l (.lst zs)) a xs :=
 (rm_sqT h e).imp (fun q=>q.imp (fun q=>by rw [upd_ne (fun z=>by rw [z,rm_at] at q; cases q)]; exact rm_same _ _ q) fun ⟨o,q⟩=>⟨o,by rw [upd_ne (fun z=>by rw [z,rm_at] at q; cases q)]; exact rm_same _ _ q⟩) id
section
variable {K:PySem.W.Frag} {H:Hp} {σ:St} {Q:VK} {ix:List (Option Nat)}
end
end L2
namespace L2
open PySem PySem.Spec PyProof.Rows
section
variable {K:PySem.W.Frag} {H:Hp} {σ:St} {Q:VK} {ix:List (Option Nat)}
end
end L2
namespace L2
open PySem PySem.Spec PyProof.Rows PySem.W
section
variable {M:Model} {A:Around} {E:Value→Shared→Prop} {s:Shared}
end
def ExcM (h:Heap) (H:Hp) (h0:Heap) (ps:List (Addr×Obj)) (L a C:Addr):Prop:=∃ oe vs T oT ts,h.get? a = some oe∧oe.cls = .ref C∧oe.dict = none∧oe.data = .fields vs∧1 < vs.size∧vs[1]? = some (.ref T)∧T≠a∧h.get? T = some oT∧oT.data = .fields ts∧ts[3]? = some (rawInt L) ∧
 H a = none∧(h0.get? a = none∧∀ p∈ps,p.1≠a)∧H T = none∧h0.get? T = none∧∀ p∈ps,p.1≠T
def XM (X:Cx) (EX:EXT):Value→Shared→Prop:=fun e s'=>∃ a C σ' H',e = .ref a∧Inv X.nox [] σ' H' s'∧ExcM s'.heap H' X.s₀.heap X.pn X.env.locals a C∧EX C σ' H'
def XP (X:Cx) (EX:EXT):Value→Shared→Prop:=fun e s'=>XW X EX e s'∨XM X EX e s'
section
variable {X:Cx} {EX:EXT} {σ:St} {H:Hp} {s:Shared}
end
section
variable {P:Program} {w:World} {K:PySem.W.Frag} {mg:Str→Option Value} {base:Heap}
end
end L2
set_option maxRecDepth 100000
namespace L2
open PySem PySem.Spec PyProof.Rows
section
variable {X:Cx}
end
section
variable {K:PySem.W.Frag} {H:Hp} {Q:VK} {σ:St}
theorem cutV_hi {xs:List V} {j:Nat}:cutV xs none (some (j:Int)) = xs.take j:=by
 unfold cutV
 rw [HT.sIx_none,HT.sIx_nat,Nat.sub_zero,List.drop_zero]
 by_cases h:j≤xs.length
 ·rw [Nat.min_eq_left h]
 ·rw [Nat.min_eq_right (by omega),List.take_of_length_le (by omega),List.take_of_length_le (by omega)]
theorem r_slHi {a:Addr} {xs:List V} {j:Nat} (e:SqL K H a xs) (h:∀ p H2,H p = none→Same H H2→H2 p = some (.lst (xs.take j))→Q (.ref p) H2):rSlL K (.ref a) none (some (j:Int)) H Q :=
 r_slL e fun p H2 n s m=>h p H2 n s (by rw [cutV_hi] at m; exact m)
theorem eqv_ints:∀ (r q:List Int),PyData.eqvAll (r.map PyData.int) (q.map PyData.int) = decide (r = q)
 | [],[]=>rfl
 | [],_ :: _=>rfl
 | _ :: _,[]=>rfl
 | x :: r,y :: q=>by
  have h:=eqv_ints r q
  simp only [List.map_cons,PyData.eqvAll,h,PyData.eqv]
  by_cases e:x = y
  ·subst e; by_cases e2:r = q <;> simp [e2]
  ·simp [e]
theorem eqv_row (r q:List Int):PyData.eqv (.tuple (r.map PyData.int)) (.tuple (q.map PyData.int)) = decide (r = q):=by
 rw [← eqv_ints r q]
 simp [PyData.eqv]
theorem eqv_rows:∀ (rs qs:List (List Int)),PyData.eqvAll (rs.map fun r=>.tuple (r.map PyData.int)) (qs.map fun r=>.tuple (r.map PyData.int)) = decide (rs = qs)
 | [],[]=>rfl
 | [],_ :: _=>rfl
 | _ :: _,[]=>rfl
 | x :: r,y :: q=>by
  have h:=eqv_rows r q
  simp only [List.map_cons,PyData.eqvAll,h,eqv_row]
  by_cases e:x = y
  ·subst e; by_cases e2:r = q <;> simp [e2]
  ·simp [e]
theorem eqv_listR (rs qs:List (List Int)):PyData.eqv (.list (rs.map fun r=>.tuple (r.map PyData.int))) (.list (qs.map fun r=>.tuple (r.map PyData.int))) = decide (rs = qs):=by
 rw [← eqv_rows rs qs]
 simp [PyData.eqv]
theorem lay_ints:∀ r:List Int,PyData.canLayAll0 (r.map PyData.int) = true
 | []=>rfl
 | _ :: r=>by simp only [List.map_cons,PyData.canLayAll0,lay_ints r,PyData.canLay0,Bool.and_self]
theorem lay_row (r:List Int):PyData.canLay0 (.tuple (r.map PyData.int)) = true:=by simp only [PyData.canLay0,lay_ints]
theorem lay_rows:∀ rs:List (List Int),PyData.canLayAll0 (rs.map fun r=>.tuple (r.map PyData.int)) = true
 | []=>rfl
 | r :: rs=>by simp only [List.map_cons,PyData.canLayAll0,lay_rows rs,lay_row,Bool.and_self]
theorem deep_ints:∀ r:List Int,PyData.depthAll (r.map PyData.int)≤1
 | []=>by simp [PyData.depthAll]
 | _ :: r=>by
  have:=deep_ints r
  simp only [List.map_cons,PyData.depthAll,PyData.depth]
  omega
theorem deep_row (r:List Int):PyData.depth (.tuple (r.map PyData.int))≤2:=by
 have:=deep_ints r
 simp only [PyData.depth]
 omega
theorem deep_rows:∀ rs:List (List Int),PyData.depthAll (rs.map fun r=>.tuple (r.map PyData.int))≤2
 | []=>by simp [PyData.depthAll]
 | r :: rs=>by
  have:=deep_rows rs
  have:=deep_row r
  simp only [List.map_cons,PyData.depthAll]
  omega
theorem shaped_rows (rs:List (List Int)):SeqAt.shaped (.list (rs.map fun r=>.tuple (r.map PyData.int))) = true:=by
 unfold SeqAt.shaped
 have h:PyData.canLay0 (.list (rs.map fun r=>PyData.tuple (r.map PyData.int))) = true:=by simp only [PyData.canLay0,lay_rows]
 have d:PyData.depth (.list (rs.map fun r=>PyData.tuple (r.map PyData.int)))≤64:=by
  have:=deep_rows rs
  simp only [PyData.depth]
  omega
 rw [h,decide_eq_true d]; rfl
end
end L2
set_option maxRecDepth 100000
namespace L2
open PySem PySem.Spec PyProof.Rows PySem.W
section
variable {P:Program} {w:World} {K:Frag} {mg:Str→Option Value} {base:Heap}
end
section
variable {X:Cx} {EX:EXT} {k:Nat} {x:Str} {ps:List Str} {sp:Sp} {p pos:Pos} {e:Expr} {es:List Expr} {t:TA} {ds:List Value} {dvs:List V}
end
end L2
set_option maxRecDepth 100000
namespace L2
open PySem PySem.Spec PyProof.Rows
section
variable {κ:Type} [DecidableEq κ]
end
section
variable {P:Program} {w:World} {H:Hp} {h:Heap} {a:Addr}
end
section
variable {X:Cx} {pins:List (Addr×Obj)} {σ:St} {H:Hp} {s:Shared} {a:Addr} {y v:V} {u r:Value} {o:Option V} {A:Around} {E:Value→Shared→Prop}
end
section
variable {X:Cx} {pins:List (Addr×Obj)} {σ:St} {H:Hp} {s:Shared} {a:Addr} {kvs:List (Key×V)} {k:Key} {u:Value} {A:Around} {E:Value→Shared→Prop}
end
section
variable {X:Cx} {o i e value:Expr} {pos pos' tpos:Pos} {td ty tv:TE}
end
section
variable {X:Cx} {pos:Pos}
end
end L2
set_option maxRecDepth 100000
namespace L2
open PySem PySem.Spec PyProof.Rows PySem.W
section
variable {prog:Program} {w:World} {A:Around} {E:Value→Shared→Prop} {s:Shared} {d I:Addr} {es:Array DictEntry} {ep i:Nat}
end
section
variable {H:Hp} {Q:VK}
end
end L2
namespace L2
open PySem PySem.Spec PyProof.Rows
section
variable {K:PySem.W.Frag} {H H':Hp}
theorem rows_of_pairs:∀ {zs:List (List Int×V)},(∀ p∈zs,∃ a,p.2 = .ref a∧SqT K H a (p.1.map V.int))→RowsL K H (zs.map Prod.snd) (zs.map Prod.fst)
 | [],_=>.nil
 | p :: zs,h=>by
  obtain ⟨a,e,q⟩:=h p (List.mem_cons_self ..)
  rw [List.map_cons,List.map_cons,e]
  exact .cons q (rows_of_pairs fun z hz=>h z (List.mem_cons_of_mem _ hz))
theorem RowsL.pair:∀ {xs:List V} {rs:List (List Int)},RowsL K H xs rs→∀ p∈rs.zip xs,∃ a,p.2 = .ref a∧SqT K H a (p.1.map V.int)
 | _,_,.nil=>fun p hp=>by cases hp
 | _,_,.cons h t=>fun p hp=>by
  rcases List.mem_cons.mp hp with rfl | hp
  ·exact ⟨_,rfl,h⟩
  ·exact t.pair p hp
theorem sorted_rows {xs ys:List V} {rs:List (List Int)} (f:List Int→Int) (hr:RowsL K H xs rs) (so:SortedBy false (rs.map f) xs ys) (s:Same H H'):∃ qs,RowsL K H' ys qs∧qs.Perm rs∧qs.Pairwise fun a b=>f a≤f b:=by
 obtain ⟨ps,hp,rfl,hw⟩:=so
 have ez:(rs.map f).zip xs = (rs.zip xs).map fun p=>(f p.1,p.2):=by rw [List.zip_map_left]; rfl
 obtain ⟨zs,pz,rfl⟩:=Mth.perm_of_map hp ez
 refine ⟨zs.map Prod.fst,?_,?_,?_⟩
 ·rw [List.map_map]
  exact (rows_of_pairs (zs:=zs) fun p h=>hr.pair p (pz.mem_iff.mp h)).same s
 ·have:=pz.map Prod.fst
  rw [List.map_fst_zip (by rw [hr.length]; exact Nat.le_refl _)] at this
  exact this
 ·rw [List.pairwise_map] at hw ⊢
  exact hw.imp fun h=>h
end
section
variable {H:Hp} {σ:St} {D:Ends} {Q:VK}
end
end L2
set_option maxRecDepth 100000
namespace L2
open PySem PySem.Spec PyProof.Rows PySem.W
section
variable {prog:Program} {w:World} {A:Around} {E:Value→Shared→Prop} {s:Shared} {I l:Addr} {its:Array Value}
end
section
variable {X:Cx} {p p2 pos pos2:Pos} {e:Expr} {t:TE}
variable {K:Frag}
end
section
variable {K:Frag} {H:Hp} {Q:VK} {σ:St}
end
end L2
set_option maxRecDepth 100000
namespace L2
open PySem PySem.Spec PyProof.Rows
inductive KeysL (K:PySem.W.Frag) (H:Hp):List V→List (List Int×Int)→Prop where
 | nil:KeysL K H [] []
 | cons {a w:Addr} {r:List Int} {m:Int} {xs:List V} {ks:List (List Int×Int)} (h:SqT K H a [.ref w,.int m]) (hw:SqT K H w (r.map V.int)) (t:KeysL K H xs ks):KeysL K H (.ref a :: xs) ((r,m) :: ks)
namespace KeysL
variable {K:PySem.W.Frag} {H H':Hp}
end KeysL
end L2
set_option maxRecDepth 100000
namespace L2
open PySem PySem.Spec PyProof.Rows
section
variable {X:Cx} {pins:List (Addr×Obj)} {σ:St} {H:Hp} {s:Shared}
end
end L2
set_option maxRecDepth 100000
namespace L2
open PySem PySem.Spec PyProof.Rows PySem.W
section
variable {X:Cx} {pins:List (Addr×Obj)} {σ:St} {H:Hp} {s:Shared}
end
end L2
set_option maxRecDepth 100000
namespace L2
open PySem PySem.Spec PyProof.Rows PySem.W
section
variable {X:Cx} {pins:List (Addr×Obj)} {σ:St} {H:Hp} {s:Shared}
end
end L2
set_option maxRecDepth 100000
namespace L2
open PySem PySem.Spec PyProof.Rows PySem.W
section
variable {K:PySem.W.Frag} {H H':Hp} {P a:Addr} {lp:Pos} {q:Str} {xs:List V}
end
section
variable {X:Cx} {k:Nat} {q y:Str} {fns:List Str} {ixs:List (Option Nat)} {params:Arguments} {body:Expr} {scope:Scope} {p lp kpos pos:Pos} {e:Expr} {t te:TE} {c P:Addr}
variable {K:PySem.W.Frag}
end
section
variable {K:PySem.W.Frag} {H:Hp} {Q:VK} {σ:St} {P:Addr} {lp:Pos} {q:Str} {ixs:List (Option Nat)} {te:TE}
end
end L2
set_option maxRecDepth 100000
namespace L2
open PySem PySem.Spec PyProof.Rows PySem.W
section
variable {Pr:Program} {w:World} {K:PySem.W.Frag} {mg:Str→Option Value} {base:Heap}
end
end L2
set_option maxRecDepth 100000
namespace L2
open PySem PySem.Spec PyProof.Rows PySem.W
end L2
set_option maxRecDepth 100000
namespace L2
open PySem PySem.Spec PyProof.Rows
section
variable {X:Cx} {tg:Expr}
end
section
variable {H:Hp} {σ:St} {R:It→Hp→Prop}
variable {g:TG} {D:Ends}
end
end L2
set_option maxRecDepth 100000
namespace L2
open PySem PySem.Spec PyProof.Rows
section
variable {K:PySem.W.Frag} {H:Hp} {σ:St} {Q:VK} {ix:List (Option Nat)} {l:Addr} {xs:List V} {rs:List (List Int)}
end
end L2
namespace L2
open PySem PySem.Spec PyProof.Rows PySem.W
end L2
namespace L2
open PySem PySem.Spec PyProof.Rows
end L2
namespace L2
open PySem PySem.Spec PyProof.Rows
end L2
namespace L2
open PySem PySem.Spec PyProof.Rows
end L2
namespace L2
open PySem PySem.Spec PyProof.Rows
end L2
namespace L2
open PySem PySem.Spec PyProof.Rows
end L2
namespace L2
open PySem PySem.Spec PyProof.Rows
section
variable {K:PySem.W.Frag} {H:Hp} {σ:St} {Q:VK} {ix:List (Option Nat)}
end
inductive LstsL (H:Hp):List V→List (List Int)→Prop where
 | nil:LstsL H [] []
 | cons {a:Addr} {r:List Int} {xs:List V} {rs:List (List Int)} (h:H a = some (.lst (r.map V.int))) (t:LstsL H xs rs):LstsL H (.ref a :: xs) (r :: rs)
namespace LstsL
variable {H H':Hp}
end LstsL
section
variable {K:PySem.W.Frag} {H:Hp} {σ:St} {Q:VK} {ix:List (Option Nat)} {l:Addr} {xs:List V} {rs:List (List Int)}
end
end L2
namespace HT
open PySem PySem.Spec PyProof.Rows
section
variable {prog:Program} {w:World} {A:Around} {E:Value→Shared→Prop} {s:Shared}
end
end HT
namespace L2
open PySem PySem.Spec PyProof.Rows
section
variable {X:Cx} {K:PySem.W.Frag} {H:Hp} {Q:VK}
end
end L2
namespace L2
open PySem PySem.Spec PyProof.Rows
section
variable {K:PySem.W.Frag} {H:Hp} {σ:St} {Q:VK} {ix:List (Option Nat)}
end
end L2
namespace L2
open PySem PySem.Spec PyProof.Rows
section
variable {P:Program} {w:World} {K:PySem.W.Frag} {mg:Str→Option Value} {base:Heap}
end
section
variable {X:Cx} {k:Nat} {f C:Addr} {x m:Str} {ps:List Str} {sp:Sp} {p pos apos:Pos} {e o:Expr} {es:List Expr} {ta:TE} {t:TA}
end
section
variable {K:PySem.W.Frag} {H:Hp} {σ:St} {Q:VK} {D:Ends} {ta tv:TE} {t:TA} {C:Addr} {m f:Str} {sp:Sp} {x:V}
end
end L2
namespace L2
open PySem PySem.Spec PyProof.Rows
end L2
namespace L2
open PySem PySem.Spec PyProof.Rows
section
variable {K:PySem.W.Frag} {H:Hp} {σ:St} {Q:VK} {ix:List (Option Nat)}
end
end L2
namespace L2
open PySem PySem.Spec PyProof.Rows
section
variable {K:PySem.W.Frag} {H:Hp} {σ:St} {Q:VK} {ix:List (Option Nat)}
end
end L2
set_option maxRecDepth 100000
namespace L2
open PySem PySem.Spec PyProof.Rows PySem.W
end L2
namespace L2
open PySem PySem.Spec PyProof.Rows PySem.W
end L2
set_option maxRecDepth 100000
namespace L2
open PySem PySem.Spec PyProof.Rows
section
variable {K:PySem.W.Frag} {H:Hp} {σ:St} {Q:VK} {ix:List (Option Nat)} {l:Addr} {xs:List V} {rs:List (List Int)}
end
end L2
namespace L2
open PySem PySem.Spec PyProof.Rows
section
variable {K:PySem.W.Frag} {H:Hp} {σ:St} {Q:VK} {ix:List (Option Nat)}
end
end L2
set_option maxRecDepth 100000
namespace L2
open PySem PySem.Spec PyProof.Rows PySem.Builtin PySem.Builtin.Str
section
variable {X:Cx}
end
section
variable {D:Ends} {σ:St} {H:Hp} {te:TE} {g:TG} {Q:VK} {z y:Str} {K:PySem.W.Frag}
end
end L2
namespace L2
open PySem PySem.Spec PyProof.Rows
end L2
namespace L2
open PySem PySem.Spec PyProof.Rows
section
variable {Q:VK} {H:Hp} {z y:Str}
end
end L2
namespace L2
open PySem PySem.Spec PyProof.Rows
section
variable {X:Cx}
end
section
variable {K:PySem.W.Frag} {H:Hp} {Q:VK}
end
end L2
namespace L2
open PySem PySem.Spec PyProof.Rows
section
variable {X:Cx}
end
section
variable {H:Hp} {Q:VK}
end
end L2
namespace L2
open PySem PySem.Spec PyProof.Rows
section
variable {X:Cx} {a:Addr} {kvs:List (Key×V)}
end
section
variable {H:Hp} {Q:VK} {a:Addr} {kvs:List (Key×V)} {z y:Str}
end
end L2
namespace L2
open PySem PySem.Spec PyProof.Rows PySem.W
section
variable {X:Cx}
end
section
variable {H:Hp} {Q:VK} {a:Addr} {z y:Str}
end
end L2
namespace Nam
open PySem PySem.Builtin PySem.Builtin.Str PySem.StrLaws
end Nam
namespace L2
open PySem PySem.Spec PyProof.Rows
section
variable {K:PySem.W.Frag} {H:Hp} {σ:St} {Q:VK} {ix:List (Option Nat)}
end
end L2
namespace L2
open PySem PySem.Spec PyProof.Rows PySem.W
section
variable {K:Frag} {D:Ends} {σ:St} {H:Hp}
end
end L2
namespace L2
open PySem PySem.Spec PyProof.Rows
section
variable {X:Cx}
end
end L2
namespace L2
open PySem PySem.Spec PyProof.Rows
end L2
set_option maxRecDepth 100000
namespace L2
open PySem PySem.Spec PyProof.Rows PySem.W
section
variable {prog:Program} {w:World} {A:Around} {E:Value→Shared→Prop} {s:Shared} {I:Addr} {x:Str} {t:Tok}
end
section
variable {X:Cx} {p2 apos cpos pos2:Pos} {o e:Expr} {t:TE}
variable {σ:St} {H:Hp} {Q:VK}
end
end L2
namespace L2
open PySem PySem.Spec PyProof.Rows
section
variable {M:Model} {A:Around} {E:Value→Shared→Prop} {s:Shared} {env:Env}
end
section
variable {X:Cx} {EX:EXT}
end
end L2
namespace L2
open PySem PySem.Spec PyProof.Rows
end L2
namespace L2
open PySem PySem.Spec PyProof.Rows
end L2
namespace Srt
open PySem PySem.W PyProof.Rows
def Wp (n:Nat) (key:Nat→Int) {α:Type}:KasT α→(α→Prop)→Prop
 | .ret a,Q=>Q a
 | .ask i j k,Q=>(i < n∧j < n)∧Wp n key (k (decide (key i < key j))) Q
section
variable {n:Nat} {key:Nat→Int}
theorem Wp.mono {α:Type} {Q Q':α→Prop} (h:∀ a,Q a→Q' a):∀ {t:KasT α},Wp n key t Q→Wp n key t Q'
 | .ret a,q=>h a q
 | .ask _ _ _,⟨b,q⟩=>⟨b,Wp.mono h q⟩
theorem Wp.seq {α β:Type} {f:α→KasT β} {Q:β→Prop}:∀ {t:KasT α},Wp n key t (fun a=>Wp n key (f a) Q)→Wp n key (t.bind f) Q
 | .ret _,q=>q
 | .ask _ _ _,⟨b,q⟩=>⟨b,Wp.seq q⟩
theorem Wp.run {cmp:Nat→Nat→(Bool→Shared→Prop)→Shared→Prop} {s:Shared} (hc:∀ i j C,i < n→j < n→C (decide (key i < key j)) s→cmp i j C s) {α:Type} {Q:α→Prop} {R:α→Shared→Prop} (hQ:∀ a,Q a→R a s):∀ {t:KasT α},Wp n key t Q→t.kasWp cmp R s
 | .ret a,q=>hQ a q
 | .ask i j _,⟨b,q⟩=>hc i j _ b.1 b.2 (Wp.run hc hQ q)
theorem yes {α:Type} {T₁ T₂:KasT α} {Q:α→Prop} (h:Wp n key T₁ Q):Wp n key (if true = true then T₁ else T₂) Q:=by rw [if_pos rfl]; exact h
theorem no {α:Type} {T₁ T₂:KasT α} {Q:α→Prop} (h:Wp n key T₂ Q):Wp n key (if false = true then T₁ else T₂) Q:=by rw [if_neg Bool.false_ne_true]; exact h
def Ord (n:Nat) (p:Array Nat):Prop:=p.toList.Perm (List.range n)
theorem Ord.size {p:Array Nat} (h:Ord n p):p.size = n:=by have:=List.Perm.length_eq h; simpa using this
theorem Ord.lt {p:Array Nat} (h:Ord n p) (h0:0 < n) (i:Nat):p.getD i 0 < n:=by
 by_cases hi:i < p.size
 ·have e:p.getD i 0 = p[i]:=by simp [Array.getD,hi]
  rw [e]
  exact List.mem_range.mp ((List.Perm.mem_iff h).mp (by simp))
 ·have e:p.getD i 0 = 0:=by simp [Array.getD,hi]
  rw [e]; exact h0
theorem Ord.of {p q:Array Nat} (h:Ord n p) (hq:q.Perm p):Ord n q:=(Array.perm_iff_toList_perm.mp hq).trans h
def ky (key:Nat→Int) (p:Array Nat) (i:Nat):Int:=key (p.getD i 0)
theorem getD_of {p q:Array Nat} {i j:Nat} (h:p[i]? = q[j]?):p.getD i 0 = q.getD j 0:=by rw [Array.getD_eq_getD_getElem?,Array.getD_eq_getD_getElem?,h]
theorem ky_rev {p:Array Nat} {i j:Nat} (hj:j≤p.size) (k:Nat):ky key (kas_rev p i j) k = if i≤k∧k < j then ky key p (i + j - 1 - k) else ky key p k:=by
 have e:=getElem?_mirror_all (i:=i) hj k
 by_cases c:i≤k∧k < j
 ·rw [if_pos c] at e ⊢; unfold ky; rw [show kas_rev p i j = mirror p i j ((j - i) / 2) from rfl,getD_of e]
 ·rw [if_neg c] at e ⊢; unfold ky; rw [show kas_rev p i j = mirror p i j ((j - i) / 2) from rfl,getD_of e]
theorem ky_bub {p:Array Nat} {src d:Nat} (hs:src < p.size) (hd:d≤src) (k:Nat):ky key (bubble p src d) k = if k = src - d then ky key p src else if src - d < k∧k≤src then ky key p (k - 1) else ky key p k:=by
 have e:=getElem?_bubble hs d hd k
 by_cases c:k = src - d
 ·rw [if_pos c] at e ⊢; unfold ky; rw [getD_of e]
 ·rw [if_neg c] at e ⊢
  by_cases c2:src - d < k∧k≤src
  ·rw [if_pos c2] at e ⊢; unfold ky; rw [getD_of e]
  ·rw [if_neg c2] at e ⊢; unfold ky; rw [getD_of e]
def Up (key:Nat→Int) (p:Array Nat) (m:Nat):Prop:=∀ i j,i≤j→j < m→ky key p i≤ky key p j
def Dn (key:Nat→Int) (p:Array Nat) (m:Nat):Prop:=∀ i j,i≤j→j < m→ky key p j≤ky key p i
theorem Up.snoc {p:Array Nat} {m:Nat} (h:Up key p m) (h1:1≤m) (hm:ky key p (m - 1)≤ky key p m):Up key p (m + 1):=fun i j hij hj=>by
 by_cases e:j = m
 ·subst e
  by_cases e2:i = j
  ·rw [e2]; exact Int.le_refl _
  ·exact Int.le_trans (h i (j - 1) (by omega) (by omega)) hm
 ·exact h i j hij (by omega)
theorem Dn.snoc {p:Array Nat} {m:Nat} (h:Dn key p m) (h1:1≤m) (hm:ky key p m≤ky key p (m - 1)):Dn key p (m + 1):=fun i j hij hj=>by
 by_cases e:j = m
 ·subst e
  by_cases e2:i = j
  ·rw [e2]; exact Int.le_refl _
  ·exact Int.le_trans hm (h i (j - 1) (by omega) (by omega))
 ·exact h i j hij (by omega)
theorem w_asc {p:Array Nat} (hp:Ord n p) (h0:0 < n):∀ (f m:Nat),1≤m→m + f≤n→Up key p m→Wp n key (kas_asc p f m) fun r=>(m≤r∧r≤m + f)∧Up key p r∧(r < m + f→ky key p r < ky key p (r - 1))
 | 0,m,_,_,u=>⟨⟨Nat.le_refl _,Nat.le_refl _⟩,u,fun h=>absurd h (Nat.lt_irrefl _)⟩
 | f + 1,m,h1,hf,u=>by
  refine ⟨⟨hp.lt h0 _,hp.lt h0 _⟩,?_⟩
  by_cases c:key (p.getD m 0) < key (p.getD (m - 1) 0)
  ·rw [decide_eq_true c]; refine yes ?_
   exact ⟨⟨Nat.le_refl _,by omega⟩,u,fun _=>c⟩
  ·rw [decide_eq_false c]; refine no ?_
   exact (w_asc hp h0 f (m + 1) (by omega) (by omega) (u.snoc h1 (Int.not_lt.mp c))).mono fun r ⟨a,b,d⟩=>⟨⟨by omega,by omega⟩,b,fun z=>d (by omega)⟩
def Eqs (key:Nat→Int) (p:Array Nat) (m q:Nat):Prop:=∀ k,m - (q + 1)≤k→k < m→ky key p k = ky key p (m - 1)
theorem eqs_rev {p:Array Nat} {m q:Nat} (h:Eqs key p m q) (hm:m≤p.size) (hq:q + 1≤m) (k:Nat):ky key (kas_rev p (m - (q + 1)) m) k = ky key p k:=by
 rw [ky_rev hm]
 by_cases c:m - (q + 1)≤k∧k < m
 ·rw [if_pos c,h _ (by omega) (by omega),h k c.1 c.2]
 ·rw [if_neg c]
theorem rev_ord {p:Array Nat} (hp:Ord n p) (i j:Nat):Ord n (kas_rev p i j):=hp.of (mirror_perm _ _ _ _)
theorem dn_of {p q:Array Nat} {m:Nat} (h:Dn key p m) (e:∀ k,ky key q k = ky key p k):Dn key q m:=fun i j a b=>by rw [e,e]; exact h i j a b
theorem eqs0 {p:Array Nat} {m:Nat}:Eqs key p m 0:=fun k a b=>by rw [show k = m - 1 by omega]
theorem w_desc (h0:0 < n):∀ (f:Nat) (p:Array Nat) (m q:Nat),Ord n p→1≤m→q + 1≤m→m + f≤n→Dn key p m→Eqs key p m q→Wp n key (kas_desc f p m q) fun r=>Ord n r.1∧(1≤r.2.1∧r.2.1≤n)∧r.2.2 + 1≤r.2.1∧Dn key r.1 r.2.1∧Eqs key r.1 r.2.1 r.2.2
 | 0,p,m,q,hp,h1,hq,hf,d,e=>⟨hp,⟨h1,by omega⟩,hq,d,e⟩
 | f + 1,p,m,q,hp,h1,hq,hf,d,e=>by
  refine ⟨⟨hp.lt h0 _,hp.lt h0 _⟩,?_⟩
  by_cases c:key (p.getD m 0) < key (p.getD (m - 1) 0)
  ·have c':ky key p m < ky key p (m - 1):=c
   rw [decide_eq_true c]; refine yes ?_
   by_cases hq0:q > 0
   ·rw [if_pos hq0]
    have er:=eqs_rev e (by rw [hp.size]; omega) hq
    exact w_desc h0 f _ (m + 1) 0 (rev_ord hp _ _) (by omega) (by omega) (by omega) (dn_of (d.snoc h1 (Int.le_of_lt c')) er) eqs0
   ·rw [if_neg hq0]
    exact w_desc h0 f p (m + 1) 0 hp (by omega) (by omega) (by omega) (d.snoc h1 (Int.le_of_lt c')) eqs0
  ·have c':ky key p (m - 1)≤ky key p m:=Int.not_lt.mp c
   rw [decide_eq_false c]; refine no ?_
   refine ⟨⟨hp.lt h0 _,hp.lt h0 _⟩,?_⟩
   by_cases c2:key (p.getD (m - 1) 0) < key (p.getD m 0)
   ·rw [decide_eq_true c2]; refine yes ?_
    exact ⟨hp,⟨h1,(by omega:m≤n)⟩,hq,d,e⟩
   ·have c3:ky key p m≤ky key p (m - 1):=Int.not_lt.mp c2
    rw [decide_eq_false c2]; refine no ?_
    refine w_desc h0 f p (m + 1) (q + 1) hp (by omega) (by omega) (by omega) (d.snoc h1 c3) fun k a b=>?_
    rw [Nat.add_sub_cancel]
    by_cases ek:k = m
    ·rw [ek]
    ·rw [e k (by omega) (by omega)]; exact Int.le_antisymm c' c3
theorem up_rev {p:Array Nat} {m:Nat} (d:Dn key p m) (hm:m≤p.size):Up key (kas_rev p 0 m) m:=fun i j hij hj=>by
 rw [ky_rev hm,ky_rev hm,if_pos ⟨Nat.zero_le _,by omega⟩,if_pos ⟨Nat.zero_le _,hj⟩]
 exact d _ _ (by omega) (by omega)
def Run (n:Nat) (key:Nat→Int) (r:Nat×Array Nat):Prop:=Ord n r.2∧(1≤r.1∧r.1≤n)∧Up key r.2 r.1
theorem w_tail {p:Array Nat} {m:Nat} (hp:Ord n p) (h0:0 < n) (h1:1≤m) (hm:m≤n) (d:Dn key p m):Wp n key (kas_tail3 m n p) (Run n key) :=
 Wp.seq ((w_asc (rev_ord hp 0 m) h0 (n - m) m h1 (by omega) (up_rev d (by rw [hp.size]; exact hm))).mono fun r ⟨a,b,_⟩=>⟨rev_ord hp 0 m,⟨by omega,by omega⟩,b⟩)
theorem w_down {p:Array Nat} {m:Nat} (hp:Ord n p) (h1:1≤m) (hm:m < n) (d:Dn key p (m + 1)):Wp n key (kas_descPart m n p) (Run n key):=by
 have h0:0 < n:=by omega
 refine Wp.seq ((w_desc h0 (n - (m + 1)) p (m + 1) 0 hp (by omega) (by omega) (by omega) d eqs0).mono fun r ⟨o,b,q,dn,eq⟩=>?_)
 by_cases c:r.2.2 > 0
 ·rw [if_pos c]
  exact w_tail (rev_ord o _ _) h0 b.1 b.2 (dn_of dn (eqs_rev eq (by rw [o.size]; exact b.2) q))
 ·rw [if_neg c]
  exact w_tail o h0 b.1 b.2 dn
theorem w_count (h2:2≤n) {p:Array Nat} (hp:Ord n p):Wp n key (kas_count n p) (Run n key):=by
 have h0:0 < n:=by omega
 refine Wp.seq ((w_asc hp h0 (n - 1) 1 (Nat.le_refl _) (by omega) fun i j a b=>by rw [show i = j by omega]; exact Int.le_refl _).mono fun m ⟨a,u,l⟩=>?_)
 by_cases c:(m == n) = true
 ·rw [if_pos c]
  exact ⟨hp,⟨a.1,by omega⟩,u⟩
 ·rw [if_neg c]
  have hne:m≠n:=fun z=>c (by rw [z]; exact beq_self_eq_true n)
  have hl:=l (by omega)
  by_cases c1:m > 1
  ·rw [if_pos c1]
   refine ⟨⟨hp.lt h0 _,hp.lt h0 _⟩,?_⟩
   by_cases c2:key (p.getD 0 0) < key (p.getD (m - 1) 0)
   ·rw [decide_eq_true c2]; refine yes ?_
    exact ⟨hp,⟨a.1,by omega⟩,u⟩
   ·rw [decide_eq_false c2]; refine no ?_
    have c3:ky key p (m - 1)≤ky key p 0:=Int.not_lt.mp c2
    have al:∀ k,k < m→ky key p k = ky key p (m - 1):=fun k hk=>by
     have g1:=u 0 k (Nat.zero_le _) hk
     have g2:=u k (m - 1) (by omega) (by omega)
     omega
    have er:∀ k,ky key (kas_rev p 0 m) k = ky key p k:=fun k=>by
     rw [ky_rev (by rw [hp.size]; omega)]
     by_cases z:0≤k∧k < m
     ·rw [if_pos z,al _ (by omega),al k z.2]
     ·rw [if_neg z]
    exact w_down (rev_ord hp 0 m) (by omega) (by omega) (dn_of (Dn.snoc (fun i j x y=>by rw [al j y,al i (by omega)]; exact Int.le_refl _) (by omega) (Int.le_of_lt hl)) er)
  ·rw [if_neg c1]
   have e1:m = 1:=by omega
   subst e1
   exact w_down hp (Nat.le_refl _) (by omega) (Dn.snoc (fun i j x y=>by rw [show i = j by omega]; exact Int.le_refl _) (Nat.le_refl _) (Int.le_of_lt hl))
theorem w_place {p:Array Nat} (hp:Ord n p) (h0:0 < n) {k:Nat}:∀ (f l r:Nat),l≤r→r≤k→r - l≤f→(∀ i,i < l→ky key p i≤ky key p k)→(∀ i,r≤i→i < k→ky key p k < ky key p i)→Up key p k →
  Wp n key (kas_place p k f l r) fun x=>x≤k∧(∀ i,i < x→ky key p i≤ky key p k)∧∀ i,x≤i→i < k→ky key p k < ky key p i
 | 0,l,r,h1,h2,h3,a,b,_=>⟨by omega,a,fun i x y=>b i (by omega) y⟩
 | f + 1,l,r,h1,h2,h3,a,b,u=>by
  unfold kas_place
  by_cases c:l ≥ r
  ·rw [if_pos c]
   exact ⟨by omega,a,fun i x y=>b i (by omega) y⟩
  ·rw [if_neg c]
   refine ⟨⟨hp.lt h0 _,hp.lt h0 _⟩,?_⟩
   by_cases d:key (p.getD k 0) < key (p.getD ((l + r) / 2) 0)
   ·have d':ky key p k < ky key p ((l + r) / 2):=d
    rw [decide_eq_true d]; refine yes ?_
    refine w_place hp h0 f l ((l + r) / 2) (by omega) (by omega) (by omega) a (fun i x y=>?_) u
    have:=u ((l + r) / 2) i x y
    omega
   ·have d':ky key p ((l + r) / 2)≤ky key p k:=Int.not_lt.mp d
    rw [decide_eq_false d]; refine no ?_
    refine w_place hp h0 f ((l + r) / 2 + 1) r (by omega) h2 (by omega) (fun i x=>?_) b u
    have:=u i ((l + r) / 2) (by omega) (by omega)
    omega
theorem w_bin (h0:0 < n):∀ (f:Nat) (p:Array Nat) (k:Nat),Ord n p→k + f = n→Up key p k→Wp n key (kas_bin f p k) fun r=>Ord n r∧Up key r n
 | 0,p,k,hp,hk,u=>⟨hp,by rw [← hk]; exact u⟩
 | f + 1,p,k,hp,hk,u=>by
  refine Wp.seq ((w_place hp h0 k 0 k (Nat.zero_le _) (Nat.le_refl _) (by omega) (fun i z=>absurd z (Nat.not_lt_zero _)) (fun i x y=>absurd y (by omega)) u).mono fun x ⟨hx,a,b⟩=>?_)
  have hs:k < p.size:=by rw [hp.size]; omega
  refine w_bin h0 f (bubble p k (k - x)) (k + 1) (hp.of (bubble_perm _ _ _)) (by omega) fun i j hij hj=>?_
  rw [ky_bub hs (by omega),ky_bub hs (by omega)]
  rw [show k - (k - x) = x by omega]
  by_cases i1:i = x
  ·rw [if_pos i1]
   by_cases j1:j = x
   ·rw [if_pos j1]; exact Int.le_refl _
   ·rw [if_neg j1,if_pos ⟨by omega,by omega⟩]
    exact Int.le_of_lt (b _ (by omega) (by omega))
  ·rw [if_neg i1]
   by_cases j1:j = x
   ·rw [if_pos j1,if_neg (by omega)]
    exact a i (by omega)
   ·rw [if_neg j1]
    by_cases i2:x < i∧i≤k
    ·rw [if_pos i2,if_pos ⟨by omega,by omega⟩]
     exact u _ _ (by omega) (by omega)
    ·rw [if_neg i2]
     by_cases j2:x < j∧j≤k
     ·rw [if_pos j2]
      by_cases q:i≤j - 1
      ·exact u _ _ q (by omega)
      ·omega
     ·rw [if_neg j2]
      exact u _ _ hij (by omega)
theorem w_sort (h2:2≤n):Wp n key (kas_sort n) fun r=>Ord n r∧Up key r n:=by
 have h0:0 < n:=by omega
 refine Wp.seq ((w_count h2 (List.Perm.refl _)).mono fun r ⟨o,b,u⟩=>?_)
 by_cases c:r.1 < n
 ·rw [if_pos c,Nat.max_eq_left b.1]
  exact w_bin h0 _ _ _ o (by omega) u
 ·rw [if_neg c]
  exact ⟨o,by rw [show n = r.1 by omega]; exact u⟩
end
end Srt
namespace L2
open PySem PySem.Spec PySem.W PyProof.Rows
def lexB:List Int→List Int→Bool
 | a :: as,b :: bs=>if a = b then lexB as bs else decide (a < b)
 | _,_=>false
theorem lex_ints {prog:Program} {w:World} {A:Around} {s:Shared} {Q:Bool→Shared→Prop}:∀ (as bs:List Int) (us vs:List Value) (i:Nat),Vals (as.map V.int) us→Vals (bs.map V.int) vs→as.length = bs.length→Q (lexB as bs) s→KatLex prog w A true false Q (us.zip vs) i s
 | [],_,_,_,_,hu,_,_,h=>by cases hu; exact h
 | _ :: _,[],_,_,_,_,_,hl,_=>by cases hl
 | a :: as,b :: bs,_,_,i,hu,hv,hl,h=>by
  cases hu with
  | cons ru hu' =>
   cases hv with
   | cons rv hv' =>
    obtain ⟨t,rfl⟩:=ru
    obtain ⟨t',rfl⟩:=rv
    refine kat_cons (wpAny_eqBool_int ?_)
    by_cases e:a = b
    ·rw [beq_iff_eq.mpr e]
     refine kat_yes (lex_ints as bs _ _ _ hu' hv' (Nat.succ.inj hl) ?_)
     rw [lexB,if_pos e] at h
     exact h
    ·rw [beq_eq_false_iff_ne.mpr e]
     refine kat_no ?_
     rw [lexB,if_neg e] at h
     cases i with
     | zero=>exact oneLt_int h
     | succ i=>exact kat_one _ _ (wpAny_lt_int h)
def lk (r:List Int):Int:=r.foldl (fun k a=>k * 4000001 + a) 0
def Row5 (r:List Int):Prop:=∃ a0 a1 a2 a3 a4:Int,r = [a0,a1,a2,a3,a4]∧(-1000000≤a0∧a0≤1000000)∧(-1000000≤a1∧a1≤1000000)∧(-1000000≤a2∧a2≤1000000)∧(-1000000≤a3∧a3≤1000000)∧-1000000≤a4∧a4≤1000000
theorem lk_step {x y a b:Int} (ha:-1000000≤a∧a≤1000000) (hb:-1000000≤b∧b≤1000000):(x < y→x * 4000001 + a < y * 4000001 + b)∧(x * 4000001 + a = y * 4000001 + b→x = y∧a = b):=by omega
theorem lexB_lk {a b:List Int} (ha:Row5 a) (hb:Row5 b):lexB a b = decide (lk a < lk b):=by
 obtain ⟨a0,a1,a2,a3,a4,rfl,p0,p1,p2,p3,p4⟩:=ha
 obtain ⟨b0,b1,b2,b3,b4,rfl,q0,q1,q2,q3,q4⟩:=hb
 show lexB _ _ = decide (((((0 * 4000001 + a0) * 4000001 + a1) * 4000001 + a2) * 4000001 + a3) * 4000001 + a4 < ((((0 * 4000001 + b0) * 4000001 + b1) * 4000001 + b2) * 4000001 + b3) * 4000001 + b4)
 simp only [lexB]
 by_cases e0:a0 = b0
 ·rw [if_pos e0]
  by_cases e1:a1 = b1
  ·rw [if_pos e1]
   by_cases e2:a2 = b2
   ·rw [if_pos e2]
    by_cases e3:a3 = b3
    ·rw [if_pos e3]
     by_cases e4:a4 = b4
     ·rw [if_pos e4]; exact (decide_eq_false (by omega)).symm
     ·rw [if_neg e4]; exact decide_eq_decide.mpr (by omega)
    ·rw [if_neg e3]; exact decide_eq_decide.mpr (by omega)
   ·rw [if_neg e2]; exact decide_eq_decide.mpr (by omega)
  ·rw [if_neg e1]; exact decide_eq_decide.mpr (by omega)
 ·rw [if_neg e0]; exact decide_eq_decide.mpr (by omega)
theorem lk_inj {a b:List Int} (ha:Row5 a) (hb:Row5 b) (h:lk a = lk b):a = b:=by
 obtain ⟨a0,a1,a2,a3,a4,rfl,p0,p1,p2,p3,p4⟩:=ha
 obtain ⟨b0,b1,b2,b3,b4,rfl,q0,q1,q2,q3,q4⟩:=hb
 have h':((((0 * 4000001 + a0) * 4000001 + a1) * 4000001 + a2) * 4000001 + a3) * 4000001 + a4 = ((((0 * 4000001 + b0) * 4000001 + b1) * 4000001 + b2) * 4000001 + b3) * 4000001 + b4:=h
 obtain ⟨h3,rfl⟩:=(lk_step p4 q4).2 h'
 obtain ⟨h2,rfl⟩:=(lk_step p3 q3).2 h3
 obtain ⟨h1,rfl⟩:=(lk_step p2 q2).2 h2
 obtain ⟨h0,rfl⟩:=(lk_step p1 q1).2 h1
 obtain ⟨_,rfl⟩:=(lk_step p0 q0).2 h0
 rfl
theorem lk_same {a b:List (List Int)} (h:a.Perm b) (hb:∀ r∈b,Row5 r) (sa:a.Pairwise fun x y=>lk x≤lk y) (sb:b.Pairwise fun x y=>lk x≤lk y):a = b:=by
 have e:a.map lk = b.map lk:=lks_uniq (h.map lk) (List.pairwise_map.mpr sa) (List.pairwise_map.mpr sb)
 have go:∀ (x y:List (List Int)),(∀ r∈x,Row5 r)→(∀ r∈y,Row5 r)→x.map lk = y.map lk→x = y:=by
  intro x
  induction x with
  | nil=>intro y _ _ q; cases y with
   | nil=>rfl
   | cons _ _=>cases q
  | cons r x ih=>intro y hx hy q; cases y with
   | nil=>cases q
   | cons t y =>
    rw [List.map_cons,List.map_cons] at q
    rw [lk_inj (hx r (List.mem_cons_self ..)) (hy t (List.mem_cons_self ..)) (List.cons.inj q).1,ih y (fun z hz=>hx z (List.mem_cons_of_mem _ hz)) (fun z hz=>hy z (List.mem_cons_of_mem _ hz)) (List.cons.inj q).2]
 exact go a b (fun r hr=>hb r (h.mem_iff.mp hr)) hb e
theorem rows_picked {K:PySem.W.Frag} {H:Hp} {xs:List V} {rs:List (List Int)} (hr:RowsL K H xs rs):∀ (ps:List Nat),(∀ i∈ps,i < rs.length)→RowsL K H (ps.map fun i=>xs.getD i .non) (ps.map fun i=>rs.getD i [])
 | [],_=>.nil
 | i :: ps,h=>by
  have hi:=h i (List.mem_cons_self ..)
  obtain ⟨a,e,ha⟩:=hr.row (List.getElem?_eq_getElem hi)
  rw [List.map_cons,List.map_cons]
  have e1:xs.getD i .non = .ref a:=by rw [List.getD_eq_getElem?_getD,e]; rfl
  have e2:rs.getD i [] = rs[i]:=by rw [List.getD_eq_getElem?_getD,List.getElem?_eq_getElem hi]; rfl
  rw [e1,e2]
  exact .cons ha (rows_picked hr ps fun j hj=>h j (List.mem_cons_of_mem _ hj))
theorem vals_picked {xs:List V} {vs:List Value} (hv:Vals xs vs):∀ (ps:List Nat),(∀ i∈ps,i < xs.length)→Vals (ps.map fun i=>xs.getD i .non) (ps.map fun i=>vs.getD i Value.none)
 | [],_=>.nil
 | i :: ps,h=>by
  have hi:=h i (List.mem_cons_self ..)
  obtain ⟨u,e,ru⟩:=hv.get (List.getElem?_eq_getElem hi)
  rw [List.map_cons,List.map_cons]
  have e1:xs.getD i .non = xs[i]:=by rw [List.getD_eq_getElem?_getD,List.getElem?_eq_getElem hi]; rfl
  have e2:vs.getD i Value.none = u:=by rw [List.getD_eq_getElem?_getD,e]; rfl
  rw [e1,e2]
  exact .cons ru (vals_picked hv ps fun j hj=>h j (List.mem_cons_of_mem _ hj))
theorem range_picked:∀ (rs:List (List Int)),((List.range rs.length).map fun i=>rs.getD i []) = rs:=fun rs=>by
 apply List.ext_getElem?
 intro i
 rw [List.getElem?_map]
 by_cases h:i < rs.length
 ·rw [List.getElem?_range h,List.getElem?_eq_getElem h]
  simp [h]
 ·rw [List.getElem?_eq_none (by simpa using h),List.getElem?_eq_none (Nat.le_of_not_lt h)]; rfl
end L2
namespace L2
open PySem PySem.Spec PySem.W PyProof.Rows
section
variable {X:Cx} {pins:List (Addr×Obj)} {σ:St} {H:Hp} {s:Shared}
theorem Inv.filled {D:Addr} {h':Heap} {m:Str→Option Value} {out:List Value} {ys:List V} {c:Nat} (I:Inv X pins σ H s) (fp:FpOk X pins H D) (d0:X.s₀.heap.get? D = none) (hn:s.heap.Ns X.env.locals m) (hn':h'.Ns X.env.locals m)
  (kp:∀ b o,s.heap.get? b = some o→b≠X.env.locals→b≠D→h'.get? b = some o) (na:h'.get? D = some (listOf out.toArray c)) (ry:Vals ys out) (few:ys.length≤sizeLine):Inv X pins σ (upd H D (.lst ys)) { s with heap:=h',toks:=s.toks }:=by
 obtain ⟨a2,a3,_,_,g4,g5⟩:=fp
 have nm:∀ {b:Addr},b∉[D]→b≠D:=fun nb z=>nb (by rw [z]; exact .head _)
 refine Inv.step2 (ch:=[D]) I (fun b hb=>?_) (fun b o nL _ nb q _=>kp b o q nL (nm nb)) (fun b o nL _ nb q _=>⟨o.slots,kp b o q nL (nm nb)⟩)
  (fun b o nb _ q=>by rw [upd_ne (nm nb)]; exact q) (fun b o nb q=>?_) (fun b ys q=>by rw [upd_ne (ne_of_none q a2)]; exact q) (fun b o u q=>by rw [upd_ne (ne_of_none q a2)]; exact q) (fun b ps q=>⟨#[],by rw [upd_ne (ne_of_none q a2)]; simpa using q⟩)
  (fun m0 h0=>ns_uniq hn h0 ▸ hn') (fun b o q=>?_)
 ·rw [List.mem_singleton.mp hb]
  exact ⟨d0,a3,g4,g5⟩
 ·by_cases nL:b = X.env.locals
  ·subst nL
   obtain ⟨oL,_,_,hoL,_⟩:=hn'
   exact ⟨oL,hoL⟩
  ·exact ⟨o,kp b o q nL (nm nb)⟩
 ·by_cases hb:b = D
  ·subst hb
   rw [upd_same] at q
   cases q
   exact ⟨few,out,c,ry,na⟩
  ·rw [upd_ne hb] at q
   have tr:∀ d u,H d = some u→d≠X.env.locals∧d≠D:=fun d u z=>⟨fun w=>(by rw [w,I.free] at z; cases z),fun w=>(by rw [w,a2] at z; cases z)⟩
   refine (I.hok b o q).stay (fun d u hd z=>?_) (fun d z=>by rw [upd_ne (ne_of_none z a2)]; exact z) fun d xs z=>by rw [upd_ne (ne_of_none z a2)]; exact z
   have td:d≠X.env.locals∧d≠D:=by
    rcases hd with rfl | hd
    ·exact tr _ _ q
    ·exact tr _ _ hd
   exact kp d u z td.1 td.2
theorem tups_of {K:PySem.W.Frag} {h:Heap} (hx:∀ a (r:List Int),SqT K H a (r.map V.int)→∃ o its n,h.get? a = some o∧o.cls = .type "tuple"∧o.data = .seq its n∧Vals (r.map V.int) its.toList) :
  ∀ {xs:List V} {rs:List (List Int)} {vs:List Value},RowsL K H xs rs→Vals xs vs→(∀ r∈rs,Row5 r)→∃ fs:List Value,fs.length = xs.length∧KatTups h vs fs∧∀ f∈fs,∃ (n:Int) (t:Tok),f = .int n t
 | _,_,_,.nil,.nil,_=>⟨[],rfl,.nil,fun _ z=>nomatch z⟩
 | _,_,_,.cons (a:=a) (r:=r) ha t,.cons ru hv,h5=>by
  obtain ⟨fs,e1,e2,e3⟩:=tups_of hx t hv fun r hr=>h5 r (List.mem_cons_of_mem _ hr)
  obtain ⟨o,its,n,g1,g2,g3,g4⟩:=hx a r ha
  obtain ⟨a0,_,_,_,_,rfl,_⟩:=h5 _ (List.mem_cons_self ..)
  cases ru
  obtain ⟨u,e,t',rfl⟩:=g4.get (i:=0) rfl
  exact ⟨.int a0 t' :: fs,by rw [List.length_cons,List.length_cons,e1],.cons g1 g2 g3 (by rw [← Array.getElem?_toList]; exact e) e2,fun f hf=>(List.mem_cons.mp hf).elim (fun z=>⟨_,_,z⟩) (e3 f)⟩
theorem row5_len {a b:List Int} (ha:Row5 a) (hb:Row5 b):a.length = b.length:=by
 obtain ⟨_,_,_,_,_,rfl,_⟩:=ha
 obtain ⟨_,_,_,_,_,rfl,_⟩:=hb
 rfl
theorem sort_rows {D:Addr} {xs:List V} {vs:List Value} {rs:List (List Int)} {P:PySem.Fin→Shared→Prop} {E:Value→Shared→Prop} (I:Inv X pins σ H s) (own:s.heap.get? D = some (seqObj "list" vs.toArray 0)) (fp:FpOk X pins H D) (d0:X.s₀.heap.get? D = none)
  (tup:∀ a (r:List Int),SqT X.K H a (r.map V.int)→∃ o its n,a≠X.env.locals∧a≠D∧s.heap.get? a = some o∧o.cls = .type "tuple"∧o.data = .seq its n∧Vals (r.map V.int) its.toList)
  (hv:Vals xs vs) (hr:RowsL X.K H xs rs) (h5:∀ r∈rs,Row5 r) (h64:vs.length < 64)
  (hP:∀ s' ys qs,Inv X pins σ (upd H D (.lst ys)) s'→RowsL X.K H ys qs→qs.Perm rs→(qs.Pairwise fun a b=>lk a≤lk b)→P (.done (.ret .none)) s') :
  wpAny (model X.prog X.w) X.A.in1.in1 (Builtin.«list.sort» ⟨[.ref D],[]⟩) P E s:=by
 have lxv:xs.length = vs.length:=hv.length
 have lrx:rs.length = xs.length:=hr.length
 have few:vs.length≤sizeLine:=by rw [sizeLine_eq]; omega
 have hDL:D≠X.env.locals:=fp.2.1
 obtain ⟨m,hn,_⟩:=id I.loc
 have em:∀ b:Addr,({}:Heap).get? b = none:=fun b=>Heap.get?_none_of_le (Nat.zero_le _)
 have F:Fr ({}:Heap) X.env.locals s.heap m:=⟨hn,fun b o q=>(by rw [em b] at q; cases q),Nat.zero_le _⟩
 by_cases h2:2≤vs.length
 ·have N:News ({}:Heap) X.env.locals s.heap (others s.heap X.env.locals D D):=fun p hp=>⟨(of_others hp).1,(of_others hp).2.1,em _⟩
  refine kat_list_sort F N own hDL (em _) (fun p hp=>(of_others hp).2.2.1) h2 h64 fun e1 h' F' N'=>?_
  have kp:∀ b o,s.heap.get? b = some o→b≠X.env.locals→b≠D→h'.get? b = some o:=fun b o q n1 n3=>(N' (b,o) (.tail _ (mem_others q n1 n3 n3))).1
  have tup':∀ a (r:List Int),SqT X.K H a (r.map V.int)→∃ o its n,h'.get? a = some o∧o.cls = .type "tuple"∧o.data = .seq its n∧Vals (r.map V.int) its.toList:=fun a r ha=>by
   obtain ⟨o,its,n,z1,z2,g1,g2,g3,g4⟩:=tup a r ha
   exact ⟨o,its,n,kp a o g1 z1 z2,g2,g3,g4⟩
  obtain ⟨fs,lf,ht,hf⟩:=tups_of tup' hr hv h5
  refine kat_kind (T:=.type "int") ht (by omega) (fun v hv=>?_) rfl ?_
  ·obtain ⟨n,t,rfl⟩:=hf v hv
   exact Looks.of_pure rfl
  refine Srt.Wp.run (n:=vs.length) (key:=fun i=>lk (rs.getD i [])) (fun i j C hi hj hC=>?_) (fun p hp=>?_) (Srt.w_sort h2)
  ·have hi':i < rs.length:=by omega
   have hj':j < rs.length:=by omega
   obtain ⟨a,ea,ha⟩:=hr.row (List.getElem?_eq_getElem hi')
   obtain ⟨b,eb,hb⟩:=hr.row (List.getElem?_eq_getElem hj')
   obtain ⟨u,eu,ru⟩:=hv.get ea
   obtain ⟨u',eu',ru'⟩:=hv.get eb
   cases ru
   cases ru'
   obtain ⟨o,its,n,g1,g2,g3,g4⟩:=tup' a _ ha
   obtain ⟨o',its',n',k1,k2,k3,k4⟩:=tup' b _ hb
   have ri:=h5 _ (List.getElem_mem hi')
   have rj:=h5 _ (List.getElem_mem hj')
   have e1:vs.getD i Value.none = .ref a:=by rw [List.getD_eq_getElem?_getD,eu]; rfl
   have e2:vs.getD j Value.none = .ref b:=by rw [List.getD_eq_getElem?_getD,eu']; rfl
   have e3:rs.getD i [] = rs[i]:=by rw [List.getD_eq_getElem?_getD,List.getElem?_eq_getElem hi']; rfl
   have e4:rs.getD j [] = rs[j]:=by rw [List.getD_eq_getElem?_getD,List.getElem?_eq_getElem hj']; rfl
   rw [e3,e4,← lexB_lk ri rj] at hC
   unfold kas_ask
   rw [e1,e2]
   have sz:its.size = its'.size:=by
    rw [← Array.length_toList,← Array.length_toList,← g4.length,← k4.length,List.length_map,List.length_map]
    exact row5_len ri rj
   refine kat_lt g1 g3 k1 k3 ?_
   rw [sz,decide_eq_false (Nat.lt_irrefl _)]
   exact lex_ints _ _ _ _ _ g4 k4 (row5_len ri rj) hC
  ·obtain ⟨o,u⟩:=hp
   have hin:∀ i∈p.toList,i < rs.length:=fun i hi=>by rw [lrx,lxv]; exact List.mem_range.mp (o.mem_iff.mp hi)
   have hix:∀ i∈p.toList,i < xs.length:=fun i hi=>by rw [← lrx]; exact hin i hi
   refine KasFin.intro F' N' (.head fun q hq=>(of_others hq).2.2.1) fun h3 c F3 N3=>?_
   refine hP { s with heap:=h3,toks:=s.toks } _ _ (I.filled fp d0 hn F3.ns (fun b o q n1 n3=>(N3 (b,o) (.tail _ (mem_others q n1 n3 n3))).1) (N3 _ (.head _)).1 (vals_picked hv p.toList hix) ?_) (rows_picked hr p.toList hin) ?_ ?_
   ·have z:=List.Perm.length_eq o
    rw [List.length_range] at z
    rw [List.length_map,z]
    exact few
   ·have z:=List.Perm.map (fun i=>rs.getD i []) o
    rw [← lxv,← lrx,range_picked] at z
    exact z
   ·rw [List.pairwise_map,List.pairwise_iff_getElem]
    intro i j hi hj hij
    have hs:p.toList.length = vs.length:=by have z:=List.Perm.length_eq o; rw [List.length_range] at z; exact z
    have q:=u i j (Nat.le_of_lt hij) (by omega)
    unfold Srt.ky at q
    have gd:∀ k (hk:k < p.toList.length),p.getD k 0 = p.toList[k]:=fun k hk=>by
     rw [Array.length_toList] at hk
     simp [Array.getD,hk]
    rw [gd i hi,gd j hj] at q
    exact q
 ·have s1:=Heap.SameBut.update s.heap D (Obj.mapSeq fun _=>(#[]:Array Value))
  obtain ⟨e1,ho1⟩:∃ e1,(s.heap.update D (Obj.mapSeq fun _=>(#[]:Array Value))).get? D = some (seqObj "list" #[] e1):=⟨_,get?_update_seq own fun _=>#[]⟩
  rw [list_sort_plain]
  refine wpAny_bind (listItems_at own rfl (wpAny_bind (listUpdate_at own rfl ?_ (by rw [List.size_toArray]; exact few) (Nat.zero_le _))))
  refine wpAny_bind (seqEpoch_at ho1 rfl (wpAny_bind (wpAny_newTuple ?_ few)))
  refine wpAny_bind (wpAny_newList ?_ (Nat.zero_le _))
  refine wpAny_holding ?_
  have hlt:vs.toArray.size < 2:=by rw [List.size_toArray]; omega
  dsimp only
  rw [if_pos hlt,if_pos hlt]
  have F3:=((kas_fr F s1 hDL (em _)).push (seqObj "tuple" vs.toArray 0)).push (seqObj "list" #[] 0)
  have ho3:(((s.heap.update D (Obj.mapSeq fun _=>(#[]:Array Value))).push (seqObj "tuple" vs.toArray 0)).push (seqObj "list" #[] 0)).get? D = some (seqObj "list" #[] e1):=Heap.get?_push_of_some _ (Heap.get?_push_of_some _ ho1)
  have kp:∀ b o,s.heap.get? b = some o→b≠X.env.locals→b≠D→(((s.heap.update D (Obj.mapSeq fun _=>(#[]:Array Value))).push (seqObj "tuple" vs.toArray 0)).push (seqObj "list" #[] 0)).get? b = some o:=fun b o q _ n3=>Heap.get?_push_of_some _ (Heap.get?_push_of_some _ ((s1.2 b n3).trans q))
  refine wpAny_bind (wpAny_pure (wpAny_bind ?_))
  show wpAny _ _ (pure ((),SortSt.mk' general' (vs.toArray.zip vs.toArray) #[] 7 none)) _ _ { s with heap:=((s.heap.update D (Obj.mapSeq fun _=>(#[]:Array Value))).push (seqObj "tuple" vs.toArray 0)).push (seqObj "list" #[] 0) }
  generalize ((s.heap.update D (Obj.mapSeq fun _=>(#[]:Array Value))).push (seqObj "tuple" vs.toArray 0)).push (seqObj "list" #[] 0) = h3 at F3 ho3 kp
  refine wpAny_pure (wpAny_bind (seqEpoch_at ho3 rfl ?_))
  have eo:Array.map (fun x:Keyed=>x.snd) (arrOf (SortSt.mk' general' (vs.toArray.zip vs.toArray) #[] 7 none)) = vs.toArray:=by
   show Array.map (fun x:Keyed=>x.snd) (vs.toArray.zip vs.toArray) = vs.toArray
   apply Array.toList_inj.mp
   rw [Array.toList_map,ksk_zip]
   exact List.map_snd_zip (Nat.le_refl _)
  rw [eo]
  have s2:=Heap.SameBut.update h3 D (Obj.mapSeq fun _=>vs.toArray)
  obtain ⟨c2,hc2⟩:∃ c2,(h3.update D (Obj.mapSeq fun _=>vs.toArray)).get? D = some (seqObj "list" vs.toArray c2):=⟨_,get?_update_seq ho3 fun _=>vs.toArray⟩
  refine wpAny_bind (listUpdate_at ho3 rfl ?_ (Nat.zero_le _) (by rw [List.size_toArray]; exact Nat.le_succ_of_le few))
  have F4:=kas_fr F3 s2 hDL (em _)
  show wpAny _ _ (if (e1 != e1) = true then _ else _) _ _ _
  rw [if_neg (by simp)]
  refine wpAny_pure (hP { s with heap:=h3.update D (Obj.mapSeq fun _=>vs.toArray),toks:=s.toks } xs rs (I.filled fp d0 hn F4.ns (fun b o q n1 n3=>(s2.2 b n3).trans (kp b o q n1 n3)) hc2 hv (by rw [lxv]; exact few)) hr (List.Perm.refl _) ?_)
  match rs,lrx with
  | [],_=>exact .nil
  | [r],_=>exact List.pairwise_singleton _ _
  | _ :: _ :: _,z=>simp at z; omega
theorem call_sortedT {l:Addr} {xs:List V} {rs:List (List Int)} {Q:VK} (I:Inv X pins σ H s) (hs:SqL X.K H l xs) (hr:RowsL X.K H xs rs) (h5:∀ r∈rs,Row5 r) (h64:xs.length < 64)
  (hQ:∀ p H' ys qs,Same H H'→H' p = some (.lst ys)→RowsL X.K H' ys qs→qs.Perm rs→(qs.Pairwise fun a b=>lk a≤lk b)→Q (.ref p) H') :
  wpAny (model X.prog X.w) X.A (call (.builtin "sorted") [.ref l]) (EP X pins σ Q) X.xe s:=by
 obtain ⟨vs,hv,pl,_⟩:=I.list hs
 have hl:s.heap.IsList l vs.toArray:=by
  obtain ⟨o,n,h1,h2,h3⟩:=pl
  exact ⟨o,h1,h2,n,h3.2⟩
 have lxv:xs.length = vs.length:=hv.length
 have lrx:rs.length = xs.length:=hr.length
 have hvl:vs.length < 64:=by rw [← hv.length]; exact h64
 have few:vs.length≤sizeLine:=by rw [sizeLine_eq]; omega
 refine Calls.call_function_entry kind_sorted plain_sorted entry_sorted (args_sorted1 _) ?_
 rw [Builtin.«sorted»]
 refine wpAny_bind (m:=checkCount "sorted" 1 1 _) (wpAny_pure (wpAny_bind (collect_list hl ?_ few)))
 generalize hc:(s.heap.push (seqObj "list" #[] 0)).update s.heap.objs.size (Obj.mapSeq (· ++ vs.toArray)) = hcol
 have ecol:hcol.objs.size = s.heap.objs.size + 1:=by rw [← hc,Heap.size_update,size_push']
 have kcol:∀ b o,s.heap.get? b = some o→hcol.get? b = some o:=fun b o q=>by
  rw [← hc,(Heap.SameBut.update _ _ _).2 b (Nat.ne_of_lt (Heap.lt_size q))]
  exact Heap.get?_push_of_some _ q
 have low:s.heap.objs.size≤hcol.objs.size:=by omega
 have I2:Inv X pins σ H { s with heap:=hcol.push (seqObj "list" vs.toArray 0),toks:=s.toks }:=I.kept fun b o q=>Heap.get?_push_of_some _ (kcol b o q)
 have own:(hcol.push (seqObj "list" vs.toArray 0)).get? hcol.objs.size = some (seqObj "list" vs.toArray 0):=Heap.get?_push_size _ rfl
 have fp:FpOk X pins H hcol.objs.size:=I.fpOk low (I.hok.fresh low)
 have d0:X.s₀.heap.get? hcol.objs.size = none:=Heap.get?_none_of_le (Nat.le_trans I.sz low)
 have tup:∀ a (r:List Int),SqT X.K H a (r.map V.int)→∃ o its n,a≠X.env.locals∧a≠hcol.objs.size∧(hcol.push (seqObj "list" vs.toArray 0)).get? a = some o∧o.cls = .type "tuple"∧o.data = .seq its n∧Vals (r.map V.int) its.toList:=fun a r ha=>by
  obtain ⟨its,hi,⟨o,e1,e2,n,e3⟩,_⟩:=I.tuple ha
  refine ⟨o,its.toArray,n,fun z=>?_,fun z=>?_,Heap.get?_push_of_some _ (kcol _ _ e1),e2,e3,hi⟩
  ·obtain ⟨m,hn,_⟩:=id I.loc
   obtain ⟨o',_,_,g1,g2,_⟩:=hn
   rw [z,g1] at e1
   cases e1
   rw [g2] at e3
   cases e3
  ·exact absurd (Heap.lt_size e1) (by rw [z]; exact Nat.not_lt.mpr low)
 refine wpAny_bind (wpAny_newList ?_ few)
 refine wpAny_bind (wpAny_holding (wpAny_call_entry (s:={ s with heap:=hcol.push (seqObj "list" vs.toArray 0) }) slot_list_sort ⟨_,own,rfl⟩ entry_list_sort ?_ (args_list_sort _)))
 show wpAny (model X.prog X.w) X.A.in1.in1 (Builtin.«list.sort» ⟨[.ref hcol.objs.size],[]⟩) _ _ _
 refine sort_rows I2 own fp d0 tup hv hr h5 hvl fun s' ys qs J ry pm so=>⟨_,rfl,?_⟩
 have sm:Same H (upd H hcol.objs.size (.lst ys)):=Same.upd_new fp.1
 exact wpAny_pure ⟨_,rfl,.ref hcol.objs.size,_,J,rfl,hQ _ _ ys qs sm upd_same (ry.same sm) pm so⟩
end
end L2
namespace L2
open PySem PySem.Spec PyProof.Rows
def rSortT (K:PySem.W.Frag):List V→Hp→VK→Prop:=fun vs H Q=>∃ (l:Addr) (xs:List V) (rs:List (List Int)),vs = [.ref l]∧SqL K H l xs∧RowsL K H xs rs∧(∀ r∈rs,Row5 r)∧xs.length < 64∧∀ p H' ys qs,Same H H'→H' p = some (.lst ys)→RowsL K H' ys qs→qs.Perm rs→(qs.Pairwise fun a b=>lk a≤lk b)→Q (.ref p) H'
theorem kN_sortT {X:Cx} (K:PySem.W.Frag) (hK:X.K = K):CallR X (.builtin "sorted") (rSortT K):=by
 subst hK
 rintro pins s σ H xs us Q I r ⟨l,ys,rs,rfl,h1,h2,h3,h4,k⟩
 obtain ⟨u,rfl,ru⟩:=vals1 r
 cases ru
 exact call_sortedT I h1 h2 h3 h4 k
theorem rd_sortT {K:PySem.W.Frag} {H:Hp} {Q:VK} {l:Addr} {xs:List V} {rs:List (List Int)} (hs:SqL K H l xs) (hr:RowsL K H xs rs) (h5:∀ r∈rs,Row5 r) (h64:xs.length < 64)
  (k:∀ p H' ys qs,Same H H'→H' p = some (.lst ys)→RowsL K H' ys qs→qs.Perm rs→(qs.Pairwise fun a b=>lk a≤lk b)→Q (.ref p) H'):rSortT K [.ref l] H Q:=⟨l,xs,rs,rfl,hs,hr,h5,h64,k⟩
end L2

namespace Law
open PySem L2
def top (i:Nat):Stmt:=PySem.Challenge.pw_tuningyard_k07_rising.main.body.getD i (.Pass ⟨0,0,0,0⟩)
abbrev s_raised:Stmt:=top 3
abbrev s_number_of:Stmt:=top 4
abbrev s_fraction_of:Stmt:=top 5
abbrev s_measure:Stmt:=top 7
abbrev s_rising:Stmt:=top 8
abbrev s_law_cell_at:Stmt:=top 10
abbrev s_law_row_is:Stmt:=top 11
abbrev s_law_sign_of:Stmt:=top 12
abbrev s_law_mixed:Stmt:=top 13
abbrev s_law_tones:Stmt:=top 14
abbrev s_law:Stmt:=top 15
@[elab_as_elim] theorem of_len1 {α : Type} {P : List α → Prop} (us : List α) (hl : us.length = 1) (h : ∀ a0 : α, P [a0]) : P us :=
 match us,hl with | [a0],_=>h a0
@[elab_as_elim] theorem of_len2 {α : Type} {P : List α → Prop} (us : List α) (hl : us.length = 2) (h : ∀ a0 a1 : α, P [a0, a1]) : P us :=
 match us,hl with | [a0,a1],_=>h a0 a1
def RB (f h:Int) (r:List Int):Prop:=∃ a0 a1 a2 a3 a4:Int,r = [a0,a1,a2,a3,a4]∧(-f≤a0∧a0≤f)∧(-h≤a1∧a1≤h)∧(-h≤a2∧a2≤h)∧(-h≤a3∧a3≤h)∧(-h≤a4∧a4≤h)
theorem RB.mono {f h f' h':Int} {r:List Int} (x:RB f h r) (h1:f≤f') (h2:h≤h'):RB f' h' r:=by
 obtain ⟨a0,a1,a2,a3,a4,rfl,⟨_,_⟩,⟨_,_⟩,⟨_,_⟩,⟨_,_⟩,⟨_,_⟩⟩:=x
 exact ⟨a0,a1,a2,a3,a4,rfl,by omega,by omega,by omega,by omega,by omega⟩
theorem RB.bd {r:List Int} {f h:Int} (x:RB f h r) (hf:f≤4000) (hh:h≤100):Mth.Bd (r.getD 0 0) (r.getD 1 0) (r.getD 2 0) (r.getD 3 0) (r.getD 4 0):=by
 obtain ⟨a0,a1,a2,a3,a4,rfl,⟨_,_⟩,⟨_,_⟩,⟨_,_⟩,⟨_,_⟩,⟨_,_⟩⟩:=x
 show Mth.Bd a0 a1 a2 a3 a4
 unfold Mth.Bd
 omega
def msr (r:List Int):Int:=Mth.prod5 ((r.getD 0 0) + 700).toNat ((r.getD 1 0) + 60).toNat ((r.getD 2 0) + 60).toNat ((r.getD 3 0) + 60).toNat ((r.getD 4 0) + 60).toNat
def Win (f r:List Int):Prop:=∃ f0 f1 f2 f3 f4 a0 a1 a2 a3 a4:Int,f = [f0,f1,f2,f3,f4]∧r = [a0,a1,a2,a3,a4]∧(f0 - 20≤a0∧a0≤f0 + 20)∧(f1 - 6≤a1∧a1≤f1 + 6)∧(f2 - 6≤a2∧a2≤f2 + 6)∧(f3 - 6≤a3∧a3≤f3 + 6)∧(f4 - 6≤a4∧a4≤f4 + 6)
theorem Win.rb {f r:List Int} (h:Win f r) (b:RB 600 50 f):RB 620 56 r:=by
 obtain ⟨f0,f1,f2,f3,f4,a0,a1,a2,a3,a4,rfl,rfl,_,_,_,_,_⟩:=h
 obtain ⟨_,_,_,_,_,e,_,_,_,_,_⟩:=b
 cases e
 exact ⟨a0,a1,a2,a3,a4,rfl,by omega,by omega,by omega,by omega,by omega⟩
theorem RB.row5 {f h:Int} {r:List Int} (x:RB f h r) (hf:f≤1000000) (hh:h≤1000000):Row5 r:=by
 obtain ⟨a0,a1,a2,a3,a4,rfl,_,_,_,_,_⟩:=x
 exact ⟨a0,a1,a2,a3,a4,rfl,by omega,by omega,by omega,by omega,by omega⟩
theorem cut_ints (ns:List Int):∃ cs:List Int,cutV (ns.map V.int) (some 1) (some 25) = cs.map V.int∧cs.length≤24:=by
 refine ⟨(ns.drop (HT.sIx (ns.map V.int).length 0 (some 1))).take (HT.sIx (ns.map V.int).length (ns.map V.int).length (some 25) - HT.sIx (ns.map V.int).length 0 (some 1)),?_,?_⟩
 ·unfold cutV
  rw [List.map_take,List.map_drop]
 ·rw [List.length_take,List.length_drop,show (some 1:Option Int) = some ((1:Nat):Int) from rfl,show (some 25:Option Int) = some ((25:Nat):Int) from rfl,HT.sIx_nat,HT.sIx_nat]
  omega
theorem upd_snoc {H:Hp} {l:Addr} {xs:List Int} {z:Int}:upd H l (.lst (xs.map V.int ++ [.int z])) l = some (.lst ((xs ++ [z]).map V.int)):=by rw [upd_same,List.map_append]; rfl
theorem none_back {H H':Hp} {p:Addr} (s:Same H H') (n:H' p = none):H p = none:=by
 cases e:H p with
 | none=>rfl
 | some v=>rw [s _ _ e] at n; cases n
theorem sgn_up {a0 a1 a2 a3 a4 b0 b1 b2 b3 b4:Int} (ha:RB 620 56 [a0,a1,a2,a3,a4]) (hb:RB 620 56 [b0,b1,b2,b3,b4]) (h:msr [a0,a1,a2,a3,a4]≤msr [b0,b1,b2,b3,b4]):0≤Mth.sgn (Mth.top5 (b0 - a0) (b1 - a1) (b2 - a2) (b3 - a3) (b4 - a4)) (Mth.bot5 (b0 - a0) (b1 - a1) (b2 - a2) (b3 - a3) (b4 - a4)):=by
 have ba:=ha.bd (by decide) (by decide)
 have bb:=hb.bd (by decide) (by decide)
 have c:Mth.top5 (b0 - a0) (b1 - a1) (b2 - a2) (b3 - a3) (b4 - a4) * Mth.NS a0 a1 a2 a3 a4 = Mth.bot5 (b0 - a0) (b1 - a1) (b2 - a2) (b3 - a3) (b4 - a4) * Mth.NS b0 b1 b2 b3 b4:=Mth.cross bb ba
 obtain ⟨_,_,_,_,_,ea,_,_,_,_,_⟩:=ha
 cases ea
 obtain ⟨_,_,_,_,_,eb,_,_,_,_,_⟩:=hb
 cases eb
 have e1:Mth.NS a0 a1 a2 a3 a4 = msr [a0,a1,a2,a3,a4] * Mth.prod5 3300 40 40 40 40:=Mth.ms_NS (by omega) (by omega) (by omega) (by omega) (by omega)
 have e2:Mth.NS b0 b1 b2 b3 b4 = msr [b0,b1,b2,b3,b4] * Mth.prod5 3300 40 40 40 40:=Mth.ms_NS (by omega) (by omega) (by omega) (by omega) (by omega)
 have hp:0 < Mth.prod5 3300 40 40 40 40:=Mth.prod5_pos ..
 have hm:0 < msr [a0,a1,a2,a3,a4]:=Mth.prod5_pos ..
 have hl:Mth.NS a0 a1 a2 a3 a4≤Mth.NS b0 b1 b2 b3 b4:=by rw [e1,e2]; exact Int.mul_le_mul_of_nonneg_right h (Int.le_of_lt hp)
 have hn:0 < Mth.NS a0 a1 a2 a3 a4:=by rw [e1]; exact Int.mul_pos hm hp
 have hb2:=Mth.bot5_pos (b0 - a0) (b1 - a1) (b2 - a2) (b3 - a3) (b4 - a4)
 generalize Mth.top5 (b0 - a0) (b1 - a1) (b2 - a2) (b3 - a3) (b4 - a4) = t at c ⊢
 generalize Mth.bot5 (b0 - a0) (b1 - a1) (b2 - a2) (b3 - a3) (b4 - a4) = u at c hb2 ⊢
 have:u≤t:=by
  apply Int.not_lt.mp
  intro z
  have q1:t * Mth.NS a0 a1 a2 a3 a4 < u * Mth.NS a0 a1 a2 a3 a4:=Int.mul_lt_mul_of_pos_right z hn
  have q2:u * Mth.NS a0 a1 a2 a3 a4≤u * Mth.NS b0 b1 b2 b3 b4:=Int.mul_le_mul_of_nonneg_left hl (by omega)
  omega
 unfold Mth.sgn
 rw [decide_eq_false (by omega:¬ t < u),if_neg Bool.false_ne_true]
 split <;> omega
structure Adr where
 a_PRIMES:Addr
 a_BOUNDS:Addr
structure Txt (K:PySem.W.Frag) (mg:Str→Option Value) (G:Adr):Prop where
 b_bool:mg "bool" = none
 b_int:mg "int" = none
 b_isinstance:mg "isinstance" = none
 b_len:mg "len" = none
 b_list:mg "list" = none
 b_max:mg "max" = none
 b_range:mg "range" = none
 b_sorted:mg "sorted" = none
 b_tuple:mg "tuple" = none
 b_zip:mg "zip" = none
 g_PRIMES:mg "PRIMES" = some (.ref G.a_PRIMES)
 q_PRIMES:Fixed K G.a_PRIMES [.int 2,.int 3,.int 5,.int 7,.int 11]
 g_BOUNDS:mg "BOUNDS" = some (.ref G.a_BOUNDS)
 q_BOUNDS:Fixed K G.a_BOUNDS [.int 700,.int 60,.int 60,.int 60,.int 60]
def sp_raised (K:PySem.W.Frag):Sp:=fun vs H Q _=>∃ b e:Int,vs = [.int b,.int e]∧(-16 < b∧b < 16)∧(-100000≤e∧e≤100000)∧Q (.int (b ^ e.toNat)) H
def sp_number_of (K:PySem.W.Frag):Sp:=fun vs H Q _=>∃ a kk e0 e1 e2 e3 e4,vs = [.ref a]∧Sq kk K H a [.int e0,.int e1,.int e2,.int e3,.int e4]∧(e0≤4000∧e1≤4000∧e2≤4000∧e3≤4000∧e4≤4000∧-100000≤e0∧-100000≤e1∧-100000≤e2∧-100000≤e3∧-100000≤e4)∧∀ H',Same H H'→Q (.int (Mth.prod5 e0.toNat e1.toNat e2.toNat e3.toNat e4.toNat)) H'
def sp_fraction_of (K:PySem.W.Frag):Sp:=fun vs H Q _=>∃ a a0 a1 a2 a3 a4,vs = [.ref a]∧SqT K H a [.int a0,.int a1,.int a2,.int a3,.int a4]∧Mth.Bd a0 a1 a2 a3 a4∧∀ p H',Same H H'→H' p = some (.tup [.int (Mth.top5 a0 a1 a2 a3 a4),.int (Mth.bot5 a0 a1 a2 a3 a4)])→Q (.ref p) H'
def sp_measure (K:PySem.W.Frag):Sp:=fun vs H Q _=>∃ a a0 a1 a2 a3 a4,vs = [.ref a]∧SqT K H a [.int a0,.int a1,.int a2,.int a3,.int a4]∧((-700≤a0∧a0≤700)∧(-60≤a1∧a1≤60)∧(-60≤a2∧a2≤60)∧(-60≤a3∧a3≤60)∧(-60≤a4∧a4≤60))∧∀ H',Same H H'→Q (.int (Mth.prod5 (a0 + 700).toNat (a1 + 60).toNat (a2 + 60).toNat (a3 + 60).toNat (a4 + 60).toNat)) H'
def sp_rising (K:PySem.W.Frag):Sp:=fun vs H Q _=>∃ (l:Addr) (xs:List V) (rs:List (List Int)),vs = [.ref l]∧SqL K H l xs∧RowsL K H xs rs∧(∀ r∈rs,RB 700 60 r)∧xs.length < 64∧∀ p ys qs H',H p = none→Same H H'→H' p = some (.lst ys)→RowsL K H' ys qs→qs.Perm rs→(qs.Pairwise fun a b=>msr a≤msr b)→Q (.ref p) H'
def sp_law_cell_at (K:PySem.W.Frag):Sp:=fun vs H Q _=>∃ (a:Addr) (ns:List Int) (k:Int),vs = [.ref a,.int k]∧SqL K H a (ns.map V.int)∧0≤k∧Q (.int (ns.getD k.toNat 0)) H
def sp_law_row_is (K:PySem.W.Frag):Sp:=fun vs H Q _=>∃ a b a0 a1 a2 a3 a4 b0 b1 b2 b3 b4,vs = [.ref a,.ref b]∧SqT K H a [.int a0,.int a1,.int a2,.int a3,.int a4]∧SqT K H b [.int b0,.int b1,.int b2,.int b3,.int b4]∧Q (.bl (decide ([a0,a1,a2,a3,a4] = [b0,b1,b2,b3,b4]))) H
def sp_law_sign_of (K:PySem.W.Frag):Sp:=fun vs H Q _=>∃ a kk e0 e1 e2 e3 e4,vs = [.ref a]∧Sq kk K H a [.int e0,.int e1,.int e2,.int e3,.int e4]∧Mth.Bd e0 e1 e2 e3 e4∧∀ H',Same H H'→Q (.int (Mth.sgn (Mth.top5 e0 e1 e2 e3 e4) (Mth.bot5 e0 e1 e2 e3 e4))) H'
def sp_law_mixed (K:PySem.W.Frag):Sp:=fun vs H Q E=>∃ c j:Int,vs = [.int c,.int j]∧(0≤j∧j≤4)∧∀ (n:Int) H',Same H H'→Q (.int n) H'
def sp_law_tones (K:PySem.W.Frag):Sp:=fun vs H Q E=>∃ (a:Addr) (ns:List Int),vs = [.ref a]∧SqL K H a (ns.map V.int)∧∀ p ys rs fs H',Same H H'→H p = none→H' p = some (.lst ys)→RowsL K H' ys rs→RB 600 50 fs→(∀ r∈rs,Win fs r)→rs.length≤27→Q (.ref p) H'
section
variable {K:PySem.W.Frag} {H:Hp} {Q:VK} {E:XK}
theorem c_raised {b e:Int} (hb:-16 < b∧b < 16) (he:-100000≤e∧e≤100000) (k:Q (.int (b ^ e.toNat)) H):sp_raised K [.int b,.int e] H Q E:=⟨b,e,rfl,hb,he,k⟩
theorem c_number_of {a:Addr} {kk:Bool} {e0 e1 e2 e3 e4:Int} (ha:Sq kk K H a [.int e0,.int e1,.int e2,.int e3,.int e4]) (hb:e0≤4000∧e1≤4000∧e2≤4000∧e3≤4000∧e4≤4000∧-100000≤e0∧-100000≤e1∧-100000≤e2∧-100000≤e3∧-100000≤e4) (k:∀ H',Same H H'→Q (.int (Mth.prod5 e0.toNat e1.toNat e2.toNat e3.toNat e4.toNat)) H'):sp_number_of K [.ref a] H Q E:=⟨a,kk,e0,e1,e2,e3,e4,rfl,ha,hb,k⟩
theorem c_fraction_of {a:Addr} {a0 a1 a2 a3 a4:Int} (ha:SqT K H a [.int a0,.int a1,.int a2,.int a3,.int a4]) (hb:Mth.Bd a0 a1 a2 a3 a4) (k:∀ p H',Same H H'→H' p = some (.tup [.int (Mth.top5 a0 a1 a2 a3 a4),.int (Mth.bot5 a0 a1 a2 a3 a4)])→Q (.ref p) H'):sp_fraction_of K [.ref a] H Q E:=⟨a,a0,a1,a2,a3,a4,rfl,ha,hb,k⟩
theorem c_measure {a:Addr} {a0 a1 a2 a3 a4:Int} (ha:SqT K H a [.int a0,.int a1,.int a2,.int a3,.int a4]) (hb:((-700≤a0∧a0≤700)∧(-60≤a1∧a1≤60)∧(-60≤a2∧a2≤60)∧(-60≤a3∧a3≤60)∧(-60≤a4∧a4≤60))) (k:∀ H',Same H H'→Q (.int (Mth.prod5 (a0 + 700).toNat (a1 + 60).toNat (a2 + 60).toNat (a3 + 60).toNat (a4 + 60).toNat)) H'):sp_measure K [.ref a] H Q E:=⟨a,a0,a1,a2,a3,a4,rfl,ha,hb,k⟩
theorem c_rising {l:Addr} {xs:List V} {rs:List (List Int)} (hs:SqL K H l xs) (hr:RowsL K H xs rs) (hb:∀ r∈rs,RB 700 60 r) (h64:xs.length < 64) (k:∀ p ys qs H',H p = none→Same H H'→H' p = some (.lst ys)→RowsL K H' ys qs→qs.Perm rs→(qs.Pairwise fun a b=>msr a≤msr b)→Q (.ref p) H'):sp_rising K [.ref l] H Q E:=⟨l,xs,rs,rfl,hs,hr,hb,h64,k⟩
theorem c_law_cell_at {a:Addr} {ns:List Int} {j:Int} (ha:SqL K H a (ns.map V.int)) (h0:0≤j) (k:Q (.int (ns.getD j.toNat 0)) H):sp_law_cell_at K [.ref a,.int j] H Q E:=⟨a,ns,j,rfl,ha,h0,k⟩
theorem c_law_row_is {a b:Addr} {a0 a1 a2 a3 a4 b0 b1 b2 b3 b4:Int} (ha:SqT K H a [.int a0,.int a1,.int a2,.int a3,.int a4]) (hb:SqT K H b [.int b0,.int b1,.int b2,.int b3,.int b4]) (k:Q (.bl (decide ([a0,a1,a2,a3,a4] = [b0,b1,b2,b3,b4]))) H):sp_law_row_is K [.ref a,.ref b] H Q E:=⟨a,b,a0,a1,a2,a3,a4,b0,b1,b2,b3,b4,rfl,ha,hb,k⟩
theorem c_law_sign_of {a:Addr} {kk:Bool} {e0 e1 e2 e3 e4:Int} (ha:Sq kk K H a [.int e0,.int e1,.int e2,.int e3,.int e4]) (hb:Mth.Bd e0 e1 e2 e3 e4) (k:∀ H',Same H H'→Q (.int (Mth.sgn (Mth.top5 e0 e1 e2 e3 e4) (Mth.bot5 e0 e1 e2 e3 e4))) H'):sp_law_sign_of K [.ref a] H Q E:=⟨a,kk,e0,e1,e2,e3,e4,rfl,ha,hb,k⟩
theorem c_law_mixed {c j:Int} (hj:0≤j∧j≤4) (k:∀ (n:Int) H',Same H H'→Q (.int n) H'):sp_law_mixed K [.int c,.int j] H Q E:=⟨c,j,rfl,hj,k⟩
theorem c_law_tones {a:Addr} {ns:List Int} (ha:SqL K H a (ns.map V.int)) (k:∀ p ys rs fs H',Same H H'→H p = none→H' p = some (.lst ys)→RowsL K H' ys rs→RB 600 50 fs→(∀ r∈rs,Win fs r)→rs.length≤27→Q (.ref p) H'):sp_law_tones K [.ref a] H Q E:=⟨a,ns,rfl,ha,k⟩
end
local macro_rules | `(tactic| walk_at "hf") => `(tactic| first | assumption | exact L2.SqT.of (by assumption) | exact L2.SqL.of (by assumption) | exact L2.Fixed.at (by assumption) | ((with_reducible apply L2.sqt_sq); (walk_at "hf")) | ((with_reducible apply L2.sql_sq); (walk_at "hf")) | ((with_reducible apply L2.Same.at); (assumption); (walk_at "hf")) | ((with_reducible apply L2.Same.seq); (assumption); (walk_at "hf")) | ((with_reducible apply L2.Same.lst); (assumption); (walk_at "hf")) | ((with_reducible apply L2.Same.sq); (assumption); (walk_at "hf")))
local macro_rules | `(tactic| walk_at "sm") => `(tactic| first | exact L2.Same.refl _ | assumption | ((refine L2.Same.trans ?_ (by assumption)); walk_at "sm"))
local macro_rules | `(tactic| walk_at "side") => `(tactic| first | (show (0 : Int) < _; first | decide | omega) | exact ⟨by decide, by decide⟩ | exact ⟨by omega, by omega⟩ | exact Or.inl ⟨by decide, by decide⟩ | exact Or.inr ⟨by decide, by decide⟩ | exact Or.inr ⟨by omega, by omega⟩ | exact Or.inl ⟨by omega, by omega⟩ | exact ⟨by decide, by decide, by decide⟩ | assumption)
local macro_rules | `(tactic| walk_at "p") => `(tactic| first
 | (with_reducible refine L2.r_seq ?_) | (with_reducible refine L2.r_asg ?_) | (with_reducible refine L2.r_gname ?_) | (with_reducible refine L2.r_ret ?_) | (with_reducible refine L2.r_drop ?_) | (with_reducible refine L2.r_next ?_)
 | ((with_reducible apply L2.r_var); (exact rfl)) | (with_reducible refine L2.r_c ?_) | (with_reducible refine L2.r_op ?_) | (with_reducible refine L2.r_un ?_) | (with_reducible refine L2.r_b ?_) | (with_reducible refine L2.r_test ?_) | (with_reducible refine L2.r_isbl ?_)
 | (with_reducible refine L2.r_or ?_) | (with_reducible refine L2.r_not ?_) | (with_reducible refine L2.r_I0 ?_) | ((with_reducible refine L2.r_I ?_ ?_); (walk_at "side")) | (with_reducible refine L2.r_U ?_) | (with_reducible refine L2.r_eqI ?_) | (with_reducible refine L2.r_neI ?_) | (with_reducible refine L2.r_nil ?_) | (with_reducible refine L2.r_cons ?_) | (with_reducible refine L2.r_tup ?_) | (with_reducible refine L2.r_lst ?_) | ((with_reducible refine L2.r_newT ?_ ?_); (first | exact Nat.le_of_ble_eq_true rfl | (focus (simp; done)) | (focus (simp; omega))); intro p_ H_ s_ m_) | ((with_reducible refine L2.r_newL ?_ ?_); (first | exact Nat.le_of_ble_eq_true rfl | (focus (simp; done)) | (focus (simp; omega))); intro p_ H_ n_ s_ m_)
 | (with_reducible refine L2.r_cb ?_) | (with_reducible refine L2.r_call0 ?_) | (with_reducible refine L2.r_comp ?_) | (with_reducible refine L2.r_sl ?_) | (with_reducible refine L2.r_nopart ?_) | (with_reducible refine L2.r_part ?_) | (with_reducible refine L2.r_isint ?_) | (with_reducible refine L2.r_bm ?_) | (with_reducible refine L2.r_for ?_) | (with_reducible refine L2.r_ilist ?_) | (with_reducible refine L2.r_itup ?_) | (with_reducible refine L2.r_irng ?_) | (with_reducible refine L2.r_izip ?_)
 | ((with_reducible apply L2.r_isl); (walk_at "hf")) | ((with_reducible apply L2.r_ist); (walk_at "hf")) | ((with_reducible refine L2.r_isr ?_ ?_ ?_); (first | decide | omega); (first | decide | omega)) | ((with_reducible apply L2.r_isz); (walk_at "hf"); (walk_at "hf"))
 | ((with_reducible apply L2.r_lenT); (walk_at "hf")) | ((with_reducible apply L2.r_lenL); (walk_at "hf"))
 | ((with_reducible apply L2.r_tupleL); (walk_at "hf"); intro p_ H_ s_ m_) | ((with_reducible apply L2.r_listL); (walk_at "hf"); intro p_ H_ n_ s_ m_) | (with_reducible refine L2.r_max ?_) | (with_reducible refine L2.r_int1b ?_) | ((with_reducible apply L2.r_isiT); (walk_at "hf"); (first | exact L2.kit_same _ _ | exact rfl)) | ((with_reducible apply L2.r_isiL); (walk_at "hf"); (first | exact L2.kit_same _ _ | exact rfl)) | ((with_reducible apply L2.r_isiI); (first | exact L2.kit_same _ _ | exact rfl)) | ((with_reducible refine L2.r_typed ?_ ?_); (first | exact rfl | exact Or.inl ⟨rfl,_,by walk_at "hf"⟩))
 | ((with_reducible apply L2.r_cat); (walk_at "hf"); (walk_at "hf"); (first | exact Nat.le_of_ble_eq_true rfl | (focus (simp; done)) | (focus (simp; omega))); intro p_ H_ n_ s_ m_)
 | ((with_reducible apply L2.r_eqT5); (walk_at "hf"); (walk_at "hf"))
 | (with_reducible refine L2.r_sortK ?_)
 )
local macro_rules | `(tactic| walk_at "q") => `(tactic| first | (walk_at "p") | (with_reducible refine L2.r_ifs ?_))
local macro_rules | `(tactic| walk_at "x") => `(tactic| first | ((with_reducible apply L2.r_ixT); (walk_at "hf"); (exact rfl)) | ((with_reducible apply L2.r_ixL); (walk_at "hf"); (exact rfl)))
local macro_rules | `(tactic| walk_at "r") => `(tactic| first | (walk_at "q") | (walk_at "x"))
local macro_rules | `(tactic| walk_at "v") => `(tactic| repeat walk_at "q")
local macro_rules | `(tactic| walk_at "j") => `(tactic| repeat (first | (walk_at "p") | (walk_at "x")))
local macro_rules | `(tactic| walk_at "p") => `(tactic| ((with_reducible apply c_raised); (first | (exact ⟨by decide, by decide⟩) | (exact ⟨by omega, by omega⟩)); (exact ⟨by omega, by omega⟩)))
local macro_rules | `(tactic| walk_at "p") => `(tactic| ((with_reducible apply c_fraction_of); (walk_at "hf"); (first | assumption | (unfold Mth.Bd; omega)); intro p_ H_ s_ m_))
local macro_rules | `(tactic| walk_at "p") => `(tactic| ((with_reducible apply c_measure); (walk_at "hf"); (first | assumption | omega); intro H_ s_))
local macro_rules | `(tactic| walk_at "p") => `(tactic| ((with_reducible apply c_law_cell_at); (walk_at "hf"); (first | decide | omega)))
local macro_rules | `(tactic| walk_at "p") => `(tactic| ((with_reducible apply c_law_row_is); (walk_at "hf"); (walk_at "hf")))
local macro_rules | `(tactic| walk_at "w") => `(tactic| repeat walk_at "r")
section
variable {P:Program} {w:World} {K:PySem.W.Frag} {mg:Str→Option Value} {base:Heap} {G:Adr}
theorem sc_raised:FnScope ["base","exponent","product","step"] ["base","exponent"] (defScope s_raised):=⟨rfl,rfl,rfl,by decide +kernel,rfl,by decide +kernel,by decide +kernel⟩
theorem ok_raised (D:Def K mg "raised" s_raised ["base","exponent"]) (T:Txt K mg G):Ok P w K mg base 1 "raised" ["base","exponent"] (sp_raised K):=by
 have S:=sc_raised
 refine D.ok S (fun vs H Q E h=>?_) (fun f cdv A outer s H vs Q E hr h=>?_)
 ·obtain ⟨b,e,rfl,hb,he,k⟩:=h; rfl
 ·obtain ⟨b,e,rfl,hb,he,k⟩:=h
  have hu:=hu_of hr
  have q_PRIMES:=T.q_PRIMES
  have q_BOUNDS:=T.q_BOUNDS
  refine ⟨_,(pss_cons (ps_set (i:=2) S.nd rfl (Or.inl rfl) pe_int) (pss_cons (ps_for PassesOwn.never rfl (pi_range1 rfl T.b_range (pa_cons (pv 1) pa_nil)) (pg_name (i:=3) S.nd rfl (Or.inl rfl)) (pss_one (ps_set (i:=2) S.nd rfl (Or.inl rfl) (pe_op op_mul (pv 2) (pv 0))))) (pss_one (ps_ret (pv 2))))),?_⟩
  walk_at "w"
  refine f_rngE (fun i σ=>∃ o,σ = [some (.int b),some (.int e),some (.int (b ^ i)),o]) ⟨_,by rw [Int.pow_zero] <;> rfl⟩ (fun i σ hi hp=>?_) (fun σ hp=>?_)
  ·obtain ⟨o,rfl⟩:=hp
   walk_at "w"
   exact ⟨⟨_,by rw [Int.pow_succ] <;> rfl⟩,rfl⟩
  ·obtain ⟨o,rfl⟩:=hp
   walk_at "w"
   exact k
theorem sc_number_of:FnScope ["row","product","prime","exponent"] ["row"] (defScope s_number_of):=⟨rfl,rfl,rfl,by decide +kernel,rfl,by decide +kernel,by decide +kernel⟩
structure Os_number_of (P:Program) (w:World) (K:PySem.W.Frag) (mg:Str→Option Value) (base:Heap) (G:Adr):Prop where
 raised:Ok P w K mg base 1 "raised" ["base","exponent"] (sp_raised K)
theorem ok_number_of (D:Def K mg "number_of" s_number_of ["row"]) (T:Txt K mg G) (O:Os_number_of P w K mg base G):Ok P w K mg base 2 "number_of" ["row"] (sp_number_of K):=by
 have S:=sc_number_of
 refine D.ok S (fun vs H Q E h=>?_) (fun f cdv A outer s H vs Q E hr h=>?_)
 ·obtain ⟨a,kk,e0,e1,e2,e3,e4,rfl,ha,hb,k⟩:=h; rfl
 ·obtain ⟨a,kk,e0,e1,e2,e3,e4,rfl,ha,hb,k⟩:=h
  have hu:=hu_of hr
  have q_PRIMES:=T.q_PRIMES
  have q_BOUNDS:=T.q_BOUNDS
  refine ⟨_,(pss_cons (ps_set (i:=1) S.nd rfl (Or.inl rfl) pe_int) (pss_cons (ps_for PassesOwn.never rfl (kpi_zip2 K rfl true kk rfl T.b_zip (pa_cons (pe_glob (v:=V.ref G.a_PRIMES) rfl T.g_PRIMES rfl) (pa_cons (pv 0) pa_nil))) (kpg_tup (n:=2) K rfl rfl (pgs_cons (pg_name (i:=2) S.nd rfl (Or.inl rfl)) (pgs_cons (pg_name (i:=3) S.nd rfl (Or.inl rfl)) pgs_nil))) (pss_one (ps_set (i:=1) S.nd rfl (Or.inl rfl) (pe_op op_mulB (pv 1) (pcall O.raised (hr.mono (by decide)) (pa_cons (pv 2) (pa_cons (pv 3) pa_nil))))))) (pss_one (ps_ret (pv 1))))),?_⟩
  repeat walk_at "r"
  refine f_zip (sqt_sq (q_PRIMES _)) ha rfl (fun i σ=>∃ o1 o2,σ = [some (.ref a),some (.int (Mth.PPn e0 e1 e2 e3 e4 i)),o1,o2]) ⟨_,_,rfl⟩ (fun i x y σ H2 hx hy hp s=>?_) (fun σ H2 hp s=>?_)
  ·obtain ⟨o1,o2,rfl⟩:=hp
   have hi:i < 5:=by have:=(List.getElem?_eq_some_iff.mp hx).1; simpa using this
   match i,hi with
   | 0,_ | 1,_ | 2,_ | 3,_ | 4,_ =>
    cases hx
    cases hy
    walk_at "w"
    refine r_I (Mth.PPn_mul hb (by decide) (by omega)) ?_
    walk_at "w"
    exact ⟨⟨_,_,rfl⟩,s⟩
  ·obtain ⟨o1,o2,rfl⟩:=hp
   walk_at "w"
   exact (Mth.PPn_5 e0 e1 e2 e3 e4) ▸ k H2 s
theorem sc_fraction_of:FnScope ["tone","top","bottom"] ["tone"] (defScope s_fraction_of):=⟨rfl,rfl,rfl,by decide +kernel,rfl,by decide +kernel,by decide +kernel⟩
structure Os_fraction_of (P:Program) (w:World) (K:PySem.W.Frag) (mg:Str→Option Value) (base:Heap) (G:Adr):Prop where
 number_of:Ok P w K mg base 2 "number_of" ["row"] (sp_number_of K)
theorem ok_fraction_of (D:Def K mg "fraction_of" s_fraction_of ["tone"]) (T:Txt K mg G) (O:Os_fraction_of P w K mg base G):Ok P w K mg base 3 "fraction_of" ["tone"] (sp_fraction_of K):=by
 have S:=sc_fraction_of
 refine D.ok S (fun vs H Q E h=>?_) (fun f cdv A outer s H vs Q E hr h=>?_)
 ·obtain ⟨a,a0,a1,a2,a3,a4,rfl,ha,hb,k⟩:=h; rfl
 ·obtain ⟨a,a0,a1,a2,a3,a4,rfl,ha,hb,k⟩:=h
  have hu:=hu_of hr
  have q_PRIMES:=T.q_PRIMES
  have q_BOUNDS:=T.q_BOUNDS
  refine ⟨_,(pss_cons (ps_set (i:=1) S.nd rfl (Or.inl rfl) (pcall O.number_of (hr.mono (by decide)) (pa_cons (pe_comp (N:=["number"]) (ix:=[none]) rfl (kpi_tup K rfl (pv 0)) (fun _ _ _ _ _=>(pg_name (i:=0) (show List.Nodup (["number"]:List Str) by decide +kernel) rfl (Or.inl rfl))) (fun _ _ _ _ _=>rfl) (fun _ _ _ _ _=>(pe_callB (callN_max rfl) rfl T.b_max PyProof.Rows.boot_max (pa_cons (pv 0) (pa_cons pe_int pa_nil)))) rfl (by decide +kernel) (by decide +kernel) rfl True.intro) pa_nil))) (pss_cons (ps_set (i:=2) S.nd rfl (Or.inl rfl) (pcall O.number_of (hr.mono (by decide)) (pa_cons (pe_comp (N:=["number"]) (ix:=[none]) rfl (kpi_tup K rfl (pv 0)) (fun _ _ _ _ _=>(pg_name (i:=0) (show List.Nodup (["number"]:List Str) by decide +kernel) rfl (Or.inl rfl))) (fun _ _ _ _ _=>rfl) (fun _ _ _ _ _=>(pe_callB (callN_max rfl) rfl T.b_max PyProof.Rows.boot_max (pa_cons (pe_un un_neg (pv 0)) (pa_cons pe_int pa_nil)))) rfl (by decide +kernel) (by decide +kernel) rfl True.intro) pa_nil))) (pss_one (ps_ret (pe_tup (pa_cons (pv 1) (pa_cons (pv 2) pa_nil))))))),?_⟩
  obtain ⟨⟨h1,h2⟩,⟨h3,h4⟩,⟨h5,h6⟩,⟨h7,h8⟩,⟨h9,h10⟩⟩:=hb
  repeat walk_at "r"
  refine rd_mapRow (r:=[a0,a1,a2,a3,a4]) (fun x=>.int (if 0 > x then 0 else x)) [] rfl ha (by show 5≤1000; decide) (fun x H' Qc _ s kc=>?_) (fun l H1 hl s1 m1=>?_)
  ·walk_at "w"
   exact kc _ (Same.refl _)
  walk_at "w"
  refine c_number_of (sql_sq (SqL.of m1)) (by refine ⟨?_,?_,?_,?_,?_,?_,?_,?_,?_,?_⟩ <;> split <;> omega) fun H2 s2=>?_
  rw [Mth.mx_toNat,Mth.mx_toNat,Mth.mx_toNat,Mth.mx_toNat,Mth.mx_toNat]
  walk_at "w"
  refine rd_mapRow (r:=[a0,a1,a2,a3,a4]) (fun x=>.int (if 0 > -x then 0 else -x)) [] rfl (s2.at (s1.at ha)) (by show 5≤1000; decide) (fun x H' Qc _ s kc=>?_) (fun l2 H3 hl2 s3 m3=>?_)
  ·walk_at "w"
   exact kc _ (Same.refl _)
  walk_at "w"
  refine c_number_of (sql_sq (SqL.of m3)) (by refine ⟨?_,?_,?_,?_,?_,?_,?_,?_,?_,?_⟩ <;> split <;> omega) fun H4 s4=>?_
  rw [Mth.mx_toNat,Mth.mx_toNat,Mth.mx_toNat,Mth.mx_toNat,Mth.mx_toNat]
  walk_at "w"
  exact k _ _ (by walk_at "sm") (by assumption)
theorem sc_measure:FnScope ["tone","fraction"] ["tone"] (defScope s_measure):=⟨rfl,rfl,rfl,by decide +kernel,rfl,by decide +kernel,by decide +kernel⟩
structure Os_measure (P:Program) (w:World) (K:PySem.W.Frag) (mg:Str→Option Value) (base:Heap) (G:Adr):Prop where
 number_of:Ok P w K mg base 2 "number_of" ["row"] (sp_number_of K)
 fraction_of:Ok P w K mg base 3 "fraction_of" ["tone"] (sp_fraction_of K)
theorem ok_measure (D:Def K mg "measure" s_measure ["tone"]) (T:Txt K mg G) (O:Os_measure P w K mg base G):Ok P w K mg base 4 "measure" ["tone"] (sp_measure K):=by
 have S:=sc_measure
 refine D.ok S (fun vs H Q E h=>?_) (fun f cdv A outer s H vs Q E hr h=>?_)
 ·obtain ⟨a,a0,a1,a2,a3,a4,rfl,ha,hb,k⟩:=h; rfl
 ·obtain ⟨a,a0,a1,a2,a3,a4,rfl,ha,hb,k⟩:=h
  have hu:=hu_of hr
  have q_PRIMES:=T.q_PRIMES
  have q_BOUNDS:=T.q_BOUNDS
  refine ⟨_,(pss_cons (ps_set (i:=1) S.nd rfl (Or.inl rfl) (pcall O.fraction_of (hr.mono (by decide)) (pa_cons (pv 0) pa_nil))) (pss_one (ps_ret (pe_op op_fdivB (pe_op op_mulB (pe_ix (kx_seq K rfl) (pv 1) pe_int (fun _ _=>rfl)) (pcall O.number_of (hr.mono (by decide)) (pa_cons (pe_glob (v:=V.ref G.a_BOUNDS) rfl T.g_BOUNDS rfl) pa_nil))) (pe_ix (kx_seq K rfl) (pv 1) pe_int (fun _ _=>rfl)))))),?_⟩
  obtain ⟨⟨h1,h2⟩,⟨h3,h4⟩,⟨h5,h6⟩,⟨h7,h8⟩,⟨h9,h10⟩⟩:=hb
  have bd:Mth.Bd a0 a1 a2 a3 a4:=by unfold Mth.Bd; omega
  have t1:=Mth.bl_le (Mth.top5_lt bd)
  have n1:=Mth.bl_le (Mth.prod5_lt (a:=700) (b:=60) (c:=60) (d:=60) (e:=60) (by decide) (by decide) (by decide) (by decide) (by decide))
  have b2:=Mth.bot5_pos a0 a1 a2 a3 a4
  have b3:=Mth.log2_of (Mth.bot5_lt bd) (by omega)
  walk_at "w"
  refine c_number_of (kk:=true) (sqt_sq (q_BOUNDS _)) (by decide) fun H2 s2=>?_
  walk_at "w"
  refine r_I ?_ ?_
  ·show L2.bitsI _ + L2.bitsI _≤1000000
   rw [Mth.bits_bl,Mth.bits_bl]
   exact Nat.le_trans (Nat.add_le_add t1 n1) (by decide)
  walk_at "w"
  have q:∀ H',Same H H'→Q (.int (Mth.top5 a0 a1 a2 a3 a4 * Mth.prod5 700 60 60 60 60 / Mth.bot5 a0 a1 a2 a3 a4)) H':=fun H' s=>by rw [Mth.meas h1 h3 h5 h7 h9]; exact k H' s
  exact q _ (by walk_at "sm")
theorem sc_rising:FnScope ["tones"] ["tones"] (defScope s_rising):=⟨rfl,rfl,rfl,by decide +kernel,rfl,by decide +kernel,by decide +kernel⟩
structure Os_rising (P:Program) (w:World) (K:PySem.W.Frag) (mg:Str→Option Value) (base:Heap) (G:Adr):Prop where
 measure:Ok P w K mg base 4 "measure" ["tone"] (sp_measure K)
theorem ok_rising (D:Def K mg "rising" s_rising ["tones"]) (T:Txt K mg G) (O:Os_rising P w K mg base G):Ok P w K mg base 7 "rising" ["tones"] (sp_rising K):=by
 have S:=sc_rising
 refine D.ok S (fun vs H Q E h=>?_) (fun f cdv A outer s H vs Q E hr h=>?_)
 ·obtain ⟨l,xs,rs,rfl,hs,hra,hb,h64,k⟩:=h; rfl
 ·obtain ⟨l,xs,rs,rfl,hs,hra,hb,h64,k⟩:=h
  have hu:=hu_of hr
  have q_PRIMES:=T.q_PRIMES
  have q_BOUNDS:=T.q_BOUNDS
  refine ⟨_,(pss_one (ps_ret (kpe_sortK rfl O.measure (hr.mono (by decide)) (pv 0) rfl T.b_sorted PyProof.Rows.boot_sorted))),?_⟩
  walk_at "w"
  refine rd_sortKF (rs.map msr) hs (by rw [List.length_map,hra.length]) h64 (fun i x n hx hn H' s=>?_) (fun p H' ys nn s m so=>?_)
  ·obtain ⟨a,r,rfl,ha,hr1⟩:=hra.get hx
   have en:msr r = n:=by rw [List.getElem?_map,hr1] at hn; exact Option.some.inj hn
   subst en
   obtain ⟨a0,a1,a2,a3,a4,rfl,b⟩:=hb r (List.mem_of_getElem? hr1)
   exact c_measure (s.at ha) b fun H'' s2=>⟨rfl,s2⟩
  ·obtain ⟨qs,h1,h2,h3⟩:=sorted_rows msr hra so s
   walk_at "w"
   exact k _ ys qs _ nn s m h1 h2 h3
theorem sc_law_cell_at:FnScope ["_law_script","_law_k"] ["_law_script","_law_k"] (defScope s_law_cell_at):=⟨rfl,rfl,rfl,by decide +kernel,rfl,by decide +kernel,by decide +kernel⟩
theorem ok_law_cell_at (D:Def K mg "_law_cell_at" s_law_cell_at ["_law_script","_law_k"]) (T:Txt K mg G):Ok P w K mg base 1 "_law_cell_at" ["_law_script","_law_k"] (sp_law_cell_at K):=by
 have S:=sc_law_cell_at
 refine D.ok S (fun vs H Q E h=>?_) (fun f cdv A outer s H vs Q E hr h=>?_)
 ·obtain ⟨a,ns,k,rfl,hs,h0,hQ⟩:=h; rfl
 ·obtain ⟨a,ns,k,rfl,hs,h0,hQ⟩:=h
  have hu:=hu_of hr
  have q_PRIMES:=T.q_PRIMES
  have q_BOUNDS:=T.q_BOUNDS
  refine ⟨_,(pss_cons (ps_if (pt_cmpR op_lt (pv 1) (pe_callB (kN_len K rfl) rfl T.b_len PySem.boot_len (pa_cons (pv 0) pa_nil)) (nomark _)) (pss_one (ps_ret (pe_ix (kx_seq K rfl) (pv 0) (pv 1) (fun _ _=>rfl)))) pss_nil) (pss_one (ps_ret pe_int))),?_⟩
  walk_at "w"
  refine if_both (fun hc=>?_) (fun hc=>?_)
  ·have hlt:k.toNat < ns.length:=by simp at hc; omega
   obtain ⟨j,rfl⟩:=Int.eq_ofNat_of_zero_le h0
   repeat walk_at "r"
   exact r_ixL hs (atI_nat (int_at (by simpa using hlt))) hQ
  ·have hge:ns.length≤k.toNat:=by simp at hc; omega
   have e:ns.getD k.toNat 0 = 0:=by rw [List.getD,List.getElem?_eq_none hge]; rfl
   rw [e] at hQ
   walk_at "w"
   exact hQ
theorem sc_law_row_is:FnScope ["_law_found","_law_due","_law_number"] ["_law_found","_law_due"] (defScope s_law_row_is):=⟨rfl,rfl,rfl,by decide +kernel,rfl,by decide +kernel,by decide +kernel⟩
theorem ok_law_row_is (D:Def K mg "_law_row_is" s_law_row_is ["_law_found","_law_due"]) (T:Txt K mg G):Ok P w K mg base 1 "_law_row_is" ["_law_found","_law_due"] (sp_law_row_is K):=by
 have S:=sc_law_row_is
 refine D.ok S (fun vs H Q E h=>?_) (fun f cdv A outer s H vs Q E hr h=>?_)
 ·obtain ⟨a,b,a0,a1,a2,a3,a4,b0,b1,b2,b3,b4,rfl,ha,hb,k⟩:=h; rfl
 ·obtain ⟨a,b,a0,a1,a2,a3,a4,b0,b1,b2,b3,b4,rfl,ha,hb,k⟩:=h
  have hu:=hu_of hr
  have q_PRIMES:=T.q_PRIMES
  have q_BOUNDS:=T.q_BOUNDS
  refine ⟨_,(pss_cons (ps_if (PW.pt (pw_or (pt_not (pt_val (pe_callB (kN_isinst K rfl) rfl T.b_isinstance PyProof.Rows.boot_isinstance (pa_cons (pv 0) (pa_cons (pe_bltn (v:=V.ty "tuple") rfl T.b_tuple PyProof.Rows.boot_tuple rfl) pa_nil))))) (pw_or1 (pt_cmpR op_ne (pe_callB (kN_len K rfl) rfl T.b_len PySem.boot_len (pa_cons (pv 0) pa_nil)) pe_int (nomark _))))) (pss_one (ps_ret pe_bl)) pss_nil) (pss_cons (ps_for PassesOwn.never rfl (kpi_tup K rfl (pv 0)) (pg_name (i:=2) S.nd rfl (Or.inl rfl)) (pss_one (ps_if (PW.pt (pw_or (pt_not (pt_val (pe_callB (kN_isinst K rfl) rfl T.b_isinstance PyProof.Rows.boot_isinstance (pa_cons (pv 2) (pa_cons (pe_bltn (v:=V.ty "int") rfl T.b_int PyProof.Rows.boot_int rfl) pa_nil))))) (pw_or1 (pt_val (pe_callB (kN_isinst K rfl) rfl T.b_isinstance PyProof.Rows.boot_isinstance (pa_cons (pv 2) (pa_cons (pe_bltn (v:=V.ty "bool") rfl T.b_bool PyProof.Rows.boot_bool rfl) pa_nil))))))) (pss_one (ps_ret pe_bl)) pss_nil))) (pss_one (ps_ret (pe_cmpR (kop_eqT K rfl hu) (pv 0) (pv 1) (nomark _)))))),?_⟩
  walk_at "w"
  refine if_ff rfl ?_
  walk_at "w"
  refine if_ff rfl ?_
  walk_at "w"
  refine f_tupE ha (fun i σ=>∃ o,σ = [some (.ref a),some (.ref b),o]) ⟨_,rfl⟩ (fun i y σ hi hp=>?_) (fun σ hp=>?_)
  ·obtain ⟨o,rfl⟩:=hp
   obtain ⟨rfl,_⟩:=int_get (r:=[a0,a1,a2,a3,a4]) hi
   walk_at "w"
   refine if_ff rfl ?_
   walk_at "w"
   refine if_ff rfl ?_
   walk_at "w"
   exact ⟨⟨_,rfl⟩,rfl⟩
  ·obtain ⟨o,rfl⟩:=hp
   walk_at "w"
   first | exact r_eqT (ns:=[a0,a1,a2,a3,a4]) (ms:=[b0,b1,b2,b3,b4]) ha hb k | exact k
theorem sc_law_sign_of:FnScope ["_law_row","_law_above","_law_below","_law_prime","_law_number","_law_k"] ["_law_row"] (defScope s_law_sign_of):=⟨rfl,rfl,rfl,by decide +kernel,rfl,by decide +kernel,by decide +kernel⟩
theorem ok_law_sign_of (D:Def K mg "_law_sign_of" s_law_sign_of ["_law_row"]) (T:Txt K mg G):Ok P w K mg base 1 "_law_sign_of" ["_law_row"] (sp_law_sign_of K):=by
 have S:=sc_law_sign_of
 refine D.ok S (fun vs H Q E h=>?_) (fun f cdv A outer s H vs Q E hr h=>?_)
 ·obtain ⟨a,kk,e0,e1,e2,e3,e4,rfl,ha,hb,k⟩:=h; rfl
 ·obtain ⟨a,kk,e0,e1,e2,e3,e4,rfl,ha,hb,k⟩:=h
  have hu:=hu_of hr
  have q_PRIMES:=T.q_PRIMES
  have q_BOUNDS:=T.q_BOUNDS
  refine ⟨_,(pss_cons (ps_set (i:=1) S.nd rfl (Or.inl rfl) pe_int) (pss_cons (ps_set (i:=2) S.nd rfl (Or.inl rfl) pe_int) (pss_cons (ps_for PassesOwn.never rfl (kpi_zip2 K rfl false kk rfl T.b_zip (@pa_cons _ _ _ _ _ (pe_lst (pa_cons pe_int (pa_cons pe_int (pa_cons pe_int (pa_cons pe_int (pa_cons pe_int pa_nil)))))) (@pa_cons _ _ _ _ _ (pv 0) pa_nil (by rfl)) (by rfl))) (kpg_tup (n:=2) K rfl rfl (pgs_cons (pg_name (i:=3) S.nd rfl (Or.inl rfl)) (pgs_cons (pg_name (i:=4) S.nd rfl (Or.inl rfl)) pgs_nil))) (pss_cons (ps_for PassesOwn.never rfl (pi_range1 rfl T.b_range (pa_cons (pv 4) pa_nil)) (pg_name (i:=5) S.nd rfl (Or.inl rfl)) (pss_one (ps_set (i:=1) S.nd rfl (Or.inl rfl) (pe_op op_mul (pv 1) (pv 3))))) (pss_one (ps_for PassesOwn.never rfl (pi_range1 rfl T.b_range (pa_cons (pe_op op_sub pe_int (pv 4)) pa_nil)) (pg_name (i:=5) S.nd rfl (Or.inl rfl)) (pss_one (ps_set (i:=2) S.nd rfl (Or.inl rfl) (pe_op op_mul (pv 2) (pv 3)))))))) (pss_one (ps_ret (pe_op op_sub (pe_callTy callN_int rfl T.b_int PyProof.Rows.boot_int (pa_cons (pe_cmpR op_gt (pv 1) (pv 2) (nomark _)) pa_nil)) (pe_callTy callN_int rfl T.b_int PyProof.Rows.boot_int (pa_cons (pe_cmpR op_lt (pv 1) (pv 2) (nomark _)) pa_nil)))))))),?_⟩
  obtain ⟨⟨h1,h2⟩,⟨h3,h4⟩,⟨h5,h6⟩,⟨h7,h8⟩,⟨h9,h10⟩⟩:=hb
  walk_at "w"
  refine f_zip (by walk_at "hf") (by walk_at "hf") (by rfl) (fun i σ=>∃ o1 o2 o3,σ = [some (.ref a),some (.int (Mth.PPn e0 e1 e2 e3 e4 i)),some (.int (Mth.PPn (0 - e0) (0 - e1) (0 - e2) (0 - e3) (0 - e4) i)),o1,o2,o3]) ⟨_,_,_,rfl⟩ (fun i x y σ H2 hx hy hp s=>?_) (fun σ H2 hp s=>?_)
  ·obtain ⟨o1,o2,o3,rfl⟩:=hp
   have hi:i < 5:=by have:=(List.getElem?_eq_some_iff.mp hx).1; simpa using this
   obtain ⟨p,e,rfl,rfl,hp,he,q1,q2⟩:∃ p e:Int,x = .int p∧y = .int e∧(-16 < p∧p < 16)∧(-4000≤e∧e≤4000)∧Mth.PPn e0 e1 e2 e3 e4 (i + 1) = Mth.PPn e0 e1 e2 e3 e4 i * p ^ e.toNat∧Mth.PPn (0 - e0) (0 - e1) (0 - e2) (0 - e3) (0 - e4) (i + 1) = Mth.PPn (0 - e0) (0 - e1) (0 - e2) (0 - e3) (0 - e4) i * p ^ (0 - e).toNat:=by
    match i,hi with
    | 0,_ | 1,_ | 2,_ | 3,_ | 4,_ =>
     cases hx
     cases hy
     exact ⟨_,_,rfl,rfl,⟨by decide,by decide⟩,⟨by omega,by omega⟩,rfl,rfl⟩
   walk_at "w"
   refine f_rngE (fun j σ=>∃ o4,σ = [some (.ref a),some (.int (Mth.PPn e0 e1 e2 e3 e4 i * p ^ j)),some (.int (Mth.PPn (0 - e0) (0 - e1) (0 - e2) (0 - e3) (0 - e4) i)),some (.int p),some (.int e),o4]) ⟨o3,by rw [Int.pow_zero,Int.mul_one] <;> rfl⟩ (fun j σ hj hp=>?_) (fun σ hp=>?_)
   ·obtain ⟨o4,rfl⟩:=hp
    walk_at "w"
    exact ⟨⟨_,by rw [Int.pow_succ,← Int.mul_assoc] <;> rfl⟩,rfl⟩
   obtain ⟨o4,rfl⟩:=hp
   walk_at "w"
   refine f_rngE (fun j σ=>∃ o5,σ = [some (.ref a),some (.int (Mth.PPn e0 e1 e2 e3 e4 i * p ^ e.toNat)),some (.int (Mth.PPn (0 - e0) (0 - e1) (0 - e2) (0 - e3) (0 - e4) i * p ^ j)),some (.int p),some (.int e),o5]) ⟨o4,by rw [Int.pow_zero,Int.mul_one] <;> rfl⟩ (fun j σ hj hp=>?_) (fun σ hp=>?_)
   ·obtain ⟨o5,rfl⟩:=hp
    walk_at "w"
    exact ⟨⟨_,by rw [Int.pow_succ,← Int.mul_assoc] <;> rfl⟩,rfl⟩
   obtain ⟨o5,rfl⟩:=hp
   exact ⟨⟨_,_,_,by rw [q1,q2]⟩,by walk_at "sm"⟩
  ·obtain ⟨o1,o2,o3,rfl⟩:=hp
   walk_at "w"
   have q:=k H2 (by walk_at "sm")
   rw [← Mth.PPn_top,← Mth.PPn_bot] at q
   exact q
theorem sc_law_mixed:FnScope ["_law_cell","_law_k"] ["_law_cell","_law_k"] (defScope s_law_mixed):=⟨rfl,rfl,rfl,by decide +kernel,rfl,by decide +kernel,by decide +kernel⟩
theorem ok_law_mixed (D:Def K mg "_law_mixed" s_law_mixed ["_law_cell","_law_k"]) (T:Txt K mg G):Ok P w K mg base 1 "_law_mixed" ["_law_cell","_law_k"] (sp_law_mixed K):=by
 have S:=sc_law_mixed
 refine D.ok S (fun vs H Q E h=>?_) (fun f cdv A outer s H vs Q E hr h=>?_)
 ·obtain ⟨c,j,rfl,hj,k⟩:=h; rfl
 ·obtain ⟨c,j,rfl,hj,k⟩:=h
  have hu:=hu_of hr
  have q_PRIMES:=T.q_PRIMES
  have q_BOUNDS:=T.q_BOUNDS
  refine ⟨_,(pss_one (ps_ret (pe_op op_mod (pe_op op_add (pe_op op_mul (pe_op op_mod (pv 0) pe_int) pe_int) (pe_op op_mul (pe_op op_mul (pv 1) (pv 1)) pe_int)) (pe_ix (kx_seq K rfl) (pe_lst (pa_cons pe_int (pa_cons pe_int (pa_cons pe_int (pa_cons pe_int (pa_cons pe_int pa_nil)))))) (pv 1) (fun _ _=>rfl))))),?_⟩
  walk_at "w"
  rename_i l1 H1 n1 s1 m1
  obtain ⟨i,rfl⟩:=Int.eq_ofNat_of_zero_le hj.1
  have hi:i < 5:=by omega
  obtain ⟨q,hq,hat⟩:∃ q:Int,1≤q∧atI [V.int 10007,V.int 10009,V.int 10037,V.int 10039,V.int 10061] (i:Int) = some (.int q):=by
   match i,hi with
   | 0,_=>exact ⟨10007,by decide,rfl⟩
   | 1,_=>exact ⟨10009,by decide,rfl⟩
   | 2,_=>exact ⟨10037,by decide,rfl⟩
   | 3,_=>exact ⟨10039,by decide,rfl⟩
   | 4,_=>exact ⟨10061,by decide,rfl⟩
  refine r_ixL (SqL.of m1) hat ?_
  walk_at "w"
  exact k _ _ s1
theorem sc_law_tones:FnScope ["_law_script","_law_far","_law_k","_law_tones_here","_law_cell","_law_tone"] ["_law_script"] (defScope s_law_tones):=⟨rfl,rfl,rfl,by decide +kernel,rfl,by decide +kernel,by decide +kernel⟩
structure Os_law_tones (P:Program) (w:World) (K:PySem.W.Frag) (mg:Str→Option Value) (base:Heap) (G:Adr):Prop where
 law_cell_at:Ok P w K mg base 1 "_law_cell_at" ["_law_script","_law_k"] (sp_law_cell_at K)
 law_mixed:Ok P w K mg base 1 "_law_mixed" ["_law_cell","_law_k"] (sp_law_mixed K)
set_option maxHeartbeats 4000000 in
theorem ok_law_tones (D:Def K mg "_law_tones" s_law_tones ["_law_script"]) (T:Txt K mg G) (O:Os_law_tones P w K mg base G):Ok P w K mg base 2 "_law_tones" ["_law_script"] (sp_law_tones K):=by
 have S:=sc_law_tones
 refine D.ok S (fun vs H Q E h=>?_) (fun f cdv A outer s H vs Q E hr h=>?_)
 ·obtain ⟨a,ns,rfl,ha,k⟩:=h; rfl
 ·obtain ⟨a,ns,rfl,ha,k⟩:=h
  have hu:=hu_of hr
  have q_PRIMES:=T.q_PRIMES
  have q_BOUNDS:=T.q_BOUNDS
  refine ⟨_,(pss_cons (ps_set (i:=1) S.nd rfl (Or.inl rfl) (pe_lst (pa_cons (pe_op op_sub (pe_op op_mod (pcall O.law_cell_at (hr.mono (by decide)) (pa_cons (pv 0) (pa_cons pe_int pa_nil))) pe_int) pe_int) pa_nil))) (pss_cons (ps_for PassesOwn.never rfl (pi_range1 rfl T.b_range (pa_cons pe_int pa_nil)) (pg_name (i:=2) S.nd rfl (Or.inl rfl)) (pss_one (ps_expr (pe_bm PySem.F.plainAttrs_list PySem.F.slot_list_append PySem.F.type_list_append mt_append (pv 1) (pa_cons (pe_op op_sub (pe_op op_mod (pcall O.law_cell_at (hr.mono (by decide)) (pa_cons (pv 0) (pa_cons (pe_op op_add pe_int (pv 2)) pa_nil))) pe_int) pe_int) pa_nil))))) (pss_cons (ps_set (i:=3) S.nd rfl (Or.inl rfl) (pe_lst pa_nil)) (pss_cons (ps_for PassesOwn.never rfl (kpi_list K rfl (pe_slice (ksl_list K rfl) (pv 0) (po_some pe_int) (po_some pe_int))) (pg_name (i:=4) S.nd rfl (Or.inl rfl)) (pss_cons (ps_set (i:=5) S.nd rfl (Or.inl rfl) (pe_lst (pa_cons (pe_op op_add (pe_op op_sub (pe_op op_mod (pcall O.law_mixed (hr.mono (by decide)) (pa_cons (pv 4) (pa_cons pe_int pa_nil))) pe_int) pe_int) (pe_ix (kx_seq K rfl) (pv 1) pe_int (fun _ _=>rfl))) pa_nil))) (pss_cons (ps_for PassesOwn.never rfl (pi_range1 rfl T.b_range (pa_cons pe_int pa_nil)) (pg_name (i:=2) S.nd rfl (Or.inl rfl)) (pss_one (ps_expr (pe_bm PySem.F.plainAttrs_list PySem.F.slot_list_append PySem.F.type_list_append mt_append (pv 5) (pa_cons (pe_op op_add (pe_op op_sub (pe_op op_mod (pcall O.law_mixed (hr.mono (by decide)) (pa_cons (pv 4) (pa_cons (pe_op op_add pe_int (pv 2)) pa_nil))) pe_int) pe_int) (pe_ix (kx_seq K rfl) (pv 1) (pe_op op_add pe_int (pv 2)) (fun _ _=>rfl))) pa_nil))))) (pss_one (ps_expr (pe_bm PySem.F.plainAttrs_list PySem.F.slot_list_append PySem.F.type_list_append mt_append (pv 3) (pa_cons (pe_callTy (kN_tuple K rfl) rfl T.b_tuple PyProof.Rows.boot_tuple (pa_cons (pv 5) pa_nil)) pa_nil))))))) (pss_cons (ps_if (pt_cmpR op_eq (pe_op op_mod (pcall O.law_cell_at (hr.mono (by decide)) (pa_cons (pv 0) (pa_cons pe_int pa_nil))) pe_int) pe_int (nomark _)) (pss_one (ps_set (i:=3) S.nd rfl (Or.inl rfl) (pe_op op_cat (pv 3) (pe_slice (ksl_list K rfl) (pv 3) po_none (po_some pe_int))))) pss_nil) (pss_one (ps_ret (pv 3)))))))),?_⟩
  walk_at "w"
  rename_i l1 H1 n1 s1 m1
  have hf0:-600≤ns.getD (Int.toNat 25) 0 % 1201 - 600∧ns.getD (Int.toNat 25) 0 % 1201 - 600≤600:=by omega
  generalize ns.getD (Int.toNat 25) 0 % 1201 - 600 = f0 at m1 hf0
  refine f_invR (fun i σ H2=>∃ (o:Option V) (zs:List Int),σ = [some (.ref a),some (.ref l1),o,none,none,none]∧Same H H2∧H2 l1 = some (.lst ((f0 :: zs).map V.int))∧zs.length = i∧∀ z∈zs,-50≤z∧z≤50) ⟨_,[],rfl,s1,m1,rfl,fun _ z=>nomatch z⟩ (fun i σ H2 hi hp=>?_) (fun σ H2 hp=>?_)
  ·obtain ⟨o,zs,rfl,s2,m2,hz,hb⟩:=hp
   have hi4:i < 4:=hi
   have ha2:=s2.seq ha
   walk_at "w"
   refine r_append m2 (by simp; omega) ?_
   walk_at "w"
   refine ⟨_,zs ++ [_],rfl,s2.upd_old n1,upd_snoc (xs:=f0 :: zs),by simp [hz],fun z hz=>?_⟩
   rcases List.mem_append.mp hz with q | q
   ·exact hb z q
   ·rw [List.mem_singleton.mp q]; omega
  obtain ⟨o,zs,rfl,s2,m2,hz,hb⟩:=hp
  obtain ⟨f1,f2,f3,f4,rfl⟩:∃ f1 f2 f3 f4,zs = [f1,f2,f3,f4]:=by
   match zs,hz with
   | [f1,f2,f3,f4],_=>exact ⟨f1,f2,f3,f4,rfl⟩
  have g1:=hb f1 (by simp)
  have g2:=hb f2 (by simp)
  have g3:=hb f3 (by simp)
  have g4:=hb f4 (by simp)
  have n1':H2 l1≠none:=by rw [m2]; exact fun z=>nomatch z
  have hfar:∀ H',Same H2 H'→H' l1 = some (.lst [.int f0,.int f1,.int f2,.int f3,.int f4]):=fun H' z=>z _ _ m2
  walk_at "w"
  rename_i l3 H3 n3 s3 m3
  have s03:Same H H3:=s2.trans s3
  refine r_slL (s03.seq ha) fun l4 H4 n4 s4 m4=>?_
  obtain ⟨cs,ec,lc⟩:=cut_ints ns
  rw [ec] at m4
  have s24:Same H2 H4:=s3.trans s4
  have n3':H l3 = none:=none_back s2 n3
  have ne43:l4≠l3:=fun z=>by rw [z,m3] at n4; cases n4
  walk_at "w"
  refine f_invL (xs:=cs.map V.int) (fun i σ H5=>∃ (o2 o4 o5:Option V) (ys:List V) (rs:List (List Int)),σ = [some (.ref a),some (.ref l1),o2,some (.ref l3),o4,o5]∧Same H2 H5∧H5 l4 = some (.lst (cs.map V.int))∧H5 l3 = some (.lst ys)∧RowsL K H5 ys rs∧(∀ r∈rs,Win [f0,f1,f2,f3,f4] r)∧rs.length = i) ⟨_,_,_,[],[],rfl,s24,m4,s4 _ _ m3,.nil,(fun _ z=>nomatch z),rfl⟩ (fun i σ H5 hp=>?_) (fun i x σ H5 hi hp=>?_) (fun σ H5 hp=>?_)
  ·obtain ⟨o2,o4,o5,ys,rs,rfl,s5,m45,m35,r5,w5,z5⟩:=hp
   exact SqL.of m45
  ·obtain ⟨o2,o4,o5,ys,rs,rfl,s5,m45,m35,r5,w5,z5⟩:=hp
   have hil:i < cs.length:=by have:=(List.getElem?_eq_some_iff.mp hi).1; rwa [List.length_map] at this
   have hl5:=r5.length
   rw [List.getElem?_map,List.getElem?_eq_getElem hil] at hi
   obtain rfl:x = .int cs[i]:=(Option.some.inj hi).symm
   walk_at "w"
   refine c_law_mixed (by decide) fun m0 H6 s6=>?_
   have far6:=hfar H6 (s5.trans s6)
   walk_at "w"
   rename_i l7 H7 n7 s7 m7
   have s57:Same H5 H7:=s6.trans s7
   have n7':H5 l7 = none:=none_back s6 n7
   have hx0:f0 - 20≤m0 % 41 - 20 + f0∧m0 % 41 - 20 + f0≤f0 + 20:=by omega
   generalize m0 % 41 - 20 + f0 = x0 at m7 hx0
   refine f_invR (fun j σ H8=>∃ (o:Option V) (zs:List Int),σ = [some (.ref a),some (.ref l1),o,some (.ref l3),some (.int cs[i]),some (.ref l7)]∧Same H5 H8∧H8 l7 = some (.lst ((x0 :: zs).map V.int))∧zs.length = j∧∀ (q:Nat) (z:Int),zs[q]? = some z→[f1,f2,f3,f4].getD q 0 - 6≤z∧z≤[f1,f2,f3,f4].getD q 0 + 6) ⟨_,[],rfl,s57,m7,rfl,fun _ _ z=>nomatch z⟩ (fun j σ H8 hj hp=>?_) (fun σ H8 hp=>?_)
   ·obtain ⟨o,zs,rfl,s8,m8,hz,hb⟩:=hp
    have hj4:j < 4:=hj
    walk_at "w"
    refine c_law_mixed (by omega) fun m1 H9 s9=>?_
    have far9:=hfar H9 ((s5.trans s8).trans s9)
    have m89:=s9 _ _ m8
    walk_at "v"
    obtain ⟨q,hat,eq⟩:∃ q:Int,atI [V.int f0,V.int f1,V.int f2,V.int f3,V.int f4] (1 + (0 + (j:Int))) = some (.int q)∧[f1,f2,f3,f4].getD j 0 = q:=by
     match j,hj4 with
     | 0,_=>exact ⟨f1,rfl,rfl⟩
     | 1,_=>exact ⟨f2,rfl,rfl⟩
     | 2,_=>exact ⟨f3,rfl,rfl⟩
     | 3,_=>exact ⟨f4,rfl,rfl⟩
    refine r_ixL (SqL.of far9) hat ?_
    walk_at "w"
    refine r_append m89 (by simp; omega) ?_
    walk_at "w"
    refine ⟨_,zs ++ [_],rfl,(s8.trans s9).upd_old n7',upd_snoc (xs:=x0 :: zs),by simp [hz],fun c z hz'=>?_⟩
    by_cases hc:c < zs.length
    ·rw [List.getElem?_append_left hc] at hz'
     exact hb c z hz'
    ·have hcl:=(List.getElem?_eq_some_iff.mp hz').1
     rw [List.length_append,List.length_singleton] at hcl
     have ec:c = j:=by omega
     subst ec
     rw [← hz,List.getElem?_concat_length] at hz'
     rw [← Option.some.inj hz',eq]
     omega
   obtain ⟨o,zs,rfl,s8,m8,hz,hb⟩:=hp
   obtain ⟨x1,x2,x3,x4,rfl⟩:∃ f1 f2 f3 f4,zs = [f1,f2,f3,f4]:=by
    match zs,hz with
    | [f1,f2,f3,f4],_=>exact ⟨f1,f2,f3,f4,rfl⟩
   have m38:=s8 _ _ m35
   walk_at "w"
   rename_i l9 H9 s9 m9
   have m39:=s9 _ _ m38
   refine r_append m39 (by omega) ?_
   have s59:Same H5 H9:=s8.trans s9
   refine ⟨_,_,_,ys ++ [.ref l9],rs ++ [[x0,x1,x2,x3,x4]],rfl,(s5.trans s59).upd_old n3,(upd_ne ne43).trans (s59 _ _ m45),upd_same,((r5.same s59).off m39).snoc (upd_sqT (SqT.of m9) m39),fun r hr=>?_,by rw [List.length_append,List.length_singleton,z5]⟩
   rcases List.mem_append.mp hr with q | q
   ·exact w5 r q
   ·rw [List.mem_singleton.mp q]
    exact ⟨f0,f1,f2,f3,f4,x0,x1,x2,x3,x4,rfl,rfl,hx0,hb 0 x1 rfl,hb 1 x2 rfl,hb 2 x3 rfl,hb 3 x4 rfl⟩
  obtain ⟨o2,o4,o5,ys,rs,rfl,s5,m45,m35,r5,w5,z5⟩:=hp
  rw [List.length_map] at z5
  have hl5:=r5.length
  have s05:Same H H5:=s2.trans s5
  have ha5:=s05.seq ha
  have fb:RB 600 50 [f0,f1,f2,f3,f4]:=⟨f0,f1,f2,f3,f4,rfl,hf0,g1,g2,g3,g4⟩
  walk_at "j"
  refine join (fun σ' H'=>∃ (p:Addr) (ys:List V) (rs:List (List Int)),σ' = [some (.ref a),some (.ref l1),o2,some (.ref p),o4,o5]∧Same H H'∧H p = none∧H' p = some (.lst ys)∧RowsL K H' ys rs∧(∀ r∈rs,Win [f0,f1,f2,f3,f4] r)∧rs.length≤27) (fun nx kn=>?_) (fun σ' H6 hp=>?_)
  ·walk_at "w"
   refine if_both (fun hc=>?_) (fun hc=>?_)
   ·walk_at "w"
    refine r_slHi (j:=3) (SqL.of m35) fun p6 H6 n6 s6 m6=>?_
    have m36:=s6 _ _ m35
    walk_at "w"
    rename_i p7 H7 n7 s7 m7
    have r7:=r5.same (s6.trans s7)
    exact kn _ _ ⟨p7,_,rs ++ rs.take 3,rfl,(s05.trans s6).trans s7,none_back (s05.trans s6) n7,m7,r7.append (r7.take 3),fun r hr=>(List.mem_append.mp hr).elim (w5 r) fun z=>w5 r (List.mem_of_mem_take z),by simp; omega⟩
   ·walk_at "w"
    exact kn _ _ ⟨l3,ys,rs,rfl,s05,n3',m35,r5,w5,by omega⟩
  obtain ⟨p,ys6,rs6,rfl,s6,n6,m6,r6,w6,z6⟩:=hp
  walk_at "w"
  exact k p ys6 rs6 _ _ s6 n6 m6 r6 fb w6 z6
theorem sc_law:FnScope ["_law_script","_law_tones_here","_law_handed","_law_found","_law_tone","_law_kept","_law_again","_law_k"] ["_law_script"] (defScope s_law):=⟨rfl,rfl,rfl,by decide +kernel,rfl,by decide +kernel,by decide +kernel⟩
structure Os_law (P:Program) (w:World) (K:PySem.W.Frag) (mg:Str→Option Value) (base:Heap) (G:Adr):Prop where
 rising:Ok P w K mg base 7 "rising" ["tones"] (sp_rising K)
 law_row_is:Ok P w K mg base 1 "_law_row_is" ["_law_found","_law_due"] (sp_law_row_is K)
 law_sign_of:Ok P w K mg base 1 "_law_sign_of" ["_law_row"] (sp_law_sign_of K)
 law_tones:Ok P w K mg base 2 "_law_tones" ["_law_script"] (sp_law_tones K)
set_option maxHeartbeats 16000000 in
theorem fn_law {f:Addr} {fd:FuncData} (F:Fun K "law" "law" s_law f fd) (T:Txt K mg G) (O:Os_law P w K mg base G):FnOk P w K mg base CX0 8 f fd ["_law_script"] (spLaw K):=by
 have S:=sc_law
 refine F.ok S (fun vs H Q E h=>?_) (fun cdv A outer s H vs Q E hr h=>?_)
 ·obtain ⟨a,ns,rfl,hS,hlen,k⟩:=h; rfl
 ·obtain ⟨a,ns,rfl,hS,hlen,k⟩:=h
  have hu:=hu_of hr
  have q_PRIMES:=T.q_PRIMES
  have q_BOUNDS:=T.q_BOUNDS
  refine ⟨_,(pss_cons (ps_set (i:=1) S.nd rfl (Or.inl rfl) (pcall O.law_tones (hr.mono (by decide)) (pa_cons (pv 0) pa_nil))) (pss_cons (ps_set (i:=2) S.nd rfl (Or.inl rfl) (pe_callTy (kN_list K rfl) rfl T.b_list PyProof.Rows.boot_list (pa_cons (pv 1) pa_nil))) (pss_cons (ps_set (i:=3) S.nd rfl (Or.inl rfl) (pcall O.rising (hr.mono (by decide)) (pa_cons (pv 2) pa_nil))) (pss_cons (ps_if (PW.pt (pw_or (pt_not (pt_val (pe_callB (kN_isinst K rfl) rfl T.b_isinstance PyProof.Rows.boot_isinstance (pa_cons (pv 3) (pa_cons (pe_bltn (v:=V.ty "list") rfl T.b_list PyProof.Rows.boot_list rfl) pa_nil))))) (pw_or (pt_cmpR op_ne (pe_callB (kN_len K rfl) rfl T.b_len PySem.boot_len (pa_cons (pv 3) pa_nil)) (pe_callB (kN_len K rfl) rfl T.b_len PySem.boot_len (pa_cons (pv 1) pa_nil)) (nomark _)) (pw_or1 (pt_cmpR (kop_neD K rfl hr.units) (pv 2) (pv 1) (nomark _)))))) (pss_one (ps_ret pe_bl)) pss_nil) (pss_cons (ps_for PassesOwn.never rfl (kpi_list K rfl (pv 3)) (pg_name (i:=4) S.nd rfl (Or.inl rfl)) (pss_one (ps_if (pt_not (pt_val (pcall O.law_row_is (hr.mono (by decide)) (pa_cons (pv 4) (pa_cons (pv 4) pa_nil))))) (pss_one (ps_ret pe_bl)) pss_nil))) (pss_cons (ps_set (i:=5) S.nd rfl (Or.inl rfl) (pe_callTy (kN_list K rfl) rfl T.b_list PyProof.Rows.boot_list (pa_cons (pv 3) pa_nil))) (pss_cons (ps_expr (pe_bm PySem.F.plainAttrs_list PySem.F.slot_list_append PySem.F.type_list_append mt_append (pv 2) (@pa_cons _ _ _ _ _ (@pe_tup _ _ _ _ _ (pa_cons pe_int (pa_cons pe_int (pa_cons pe_int (pa_cons pe_int (pa_cons pe_int pa_nil)))))) pa_nil (by rfl)))) (pss_cons (ps_set (i:=6) S.nd rfl (Or.inl rfl) (pcall O.rising (hr.mono (by decide)) (pa_cons (pv 2) pa_nil))) (pss_cons (ps_if (PW.pt (pw_or (pt_not (pt_val (pe_callB (kN_isinst K rfl) rfl T.b_isinstance PyProof.Rows.boot_isinstance (pa_cons (pv 6) (pa_cons (pe_bltn (v:=V.ty "list") rfl T.b_list PyProof.Rows.boot_list rfl) pa_nil))))) (pw_or (pt_cmpR op_ne (pe_callB (kN_len K rfl) rfl T.b_len PySem.boot_len (pa_cons (pv 6) pa_nil)) (pe_callB (kN_len K rfl) rfl T.b_len PySem.boot_len (pa_cons (pv 2) pa_nil)) (nomark _)) (pw_or1 (pt_cmpR (kop_neD K rfl hr.units) (pv 3) (pv 5) (nomark _)))))) (pss_one (ps_ret pe_bl)) pss_nil) (pss_cons (ps_if (PW.pt (pw_or (pt_cmpR (kop_neD K rfl hr.units) (pe_callB (kN_sortT K rfl) rfl T.b_sorted PyProof.Rows.boot_sorted (pa_cons (pv 3) pa_nil)) (pe_callB (kN_sortT K rfl) rfl T.b_sorted PyProof.Rows.boot_sorted (pa_cons (pv 1) pa_nil)) (nomark _)) (pw_or1 (pt_cmpR (kop_neD K rfl hr.units) (pe_callB (kN_sortT K rfl) rfl T.b_sorted PyProof.Rows.boot_sorted (pa_cons (pv 6) pa_nil)) (pe_callB (kN_sortT K rfl) rfl T.b_sorted PyProof.Rows.boot_sorted (pa_cons (pv 2) pa_nil)) (nomark _))))) (pss_one (ps_ret pe_bl)) pss_nil) (pss_cons (ps_for PassesOwn.never rfl (pi_range1 rfl T.b_range (pa_cons (pe_op op_sub (pe_callB (kN_len K rfl) rfl T.b_len PySem.boot_len (pa_cons (pv 3) pa_nil)) pe_int) pa_nil)) (pg_name (i:=7) S.nd rfl (Or.inl rfl)) (pss_one (ps_if (pt_cmpR op_lt (pcall O.law_sign_of (hr.mono (by decide)) (pa_cons (pe_comp (N:=["_law_x","_law_y"]) (ix:=[none,none]) rfl (kpi_zip2 K rfl true true rfl T.b_zip (pa_cons (pe_ix (kx_seq K rfl) (pv 3) (pe_op op_add (pv 7) pe_int) (fun _ _=>rfl)) (pa_cons (pe_ix (kx_seq K rfl) (pv 3) (pv 7) (fun _ _=>rfl)) pa_nil))) (fun _ _ _ _ _=>(kpg_tup (n:=2) K rfl rfl (pgs_cons (pg_name (i:=0) (show List.Nodup (["_law_x","_law_y"]:List Str) by decide +kernel) rfl (Or.inl rfl)) (pgs_cons (pg_name (i:=1) (show List.Nodup (["_law_x","_law_y"]:List Str) by decide +kernel) rfl (Or.inl rfl)) pgs_nil)))) (fun _ _ _ _ _=>rfl) (fun _ _ _ _ _=>(pe_op op_sub (pv 0) (pv 1))) rfl (by decide +kernel) (by decide +kernel) rfl True.intro) pa_nil)) pe_int (nomark _)) (pss_one (ps_ret pe_bl)) pss_nil))) (pss_one (ps_ret pe_bl))))))))))))),?_⟩
  walk_at "w"
  refine c_law_tones hS fun p1 ys1 rs fs H1 s1 n1 m1 r1 bf w1 z1=>?_
  have l1:=r1.length
  have b1:∀ r∈rs,RB 620 56 r:=fun r hr=>(w1 r hr).rb bf
  walk_at "w"
  rename_i p2 H2 n2 s2 m2
  have r2:=r1.same s2
  refine c_rising (SqL.of m2) r2 (fun r hr=>(b1 r hr).mono (by decide) (by decide)) (by omega) fun p3 ys3 qs H3 n3 s3 m3 r3 pm3 so3=>?_
  have l3:=r3.length
  have lp:=pm3.length_eq
  have m13:=(s2.trans s3) _ _ m1
  have m23:=s3 _ _ m2
  walk_at "w"
  refine if_ff rfl ?_
  walk_at "w"
  refine if_ff (by rw [Bool.not_eq_false',decide_eq_true (by omega)]) ?_
  walk_at "w"
  refine r_neD (.lst (SqL.of m23) (r2.same s3).tells) (.lst (SqL.of m13) (r1.same (s2.trans s3)).tells) (shaped_rows _) (shaped_rows _) ?_
  rw [eqv_listR,decide_eq_true rfl]
  walk_at "w"
  refine iteF ?_
  walk_at "w"
  refine f_invL (xs:=ys3) (fun i σ H4=>∃ o:Option V,σ = [some (.ref a),some (.ref p1),some (.ref p2),some (.ref p3),o,none,none,none]∧Same H3 H4) ⟨_,rfl,Same.refl _⟩ (fun i σ H4 hp=>?_) (fun i x σ H4 hi hp=>?_) (fun σ H4 hp=>?_)
  ·obtain ⟨o,rfl,s4⟩:=hp
   exact SqL.of (s4 _ _ m3)
  ·obtain ⟨o,rfl,s4⟩:=hp
   obtain ⟨c,r,rfl,hc,hri⟩:=(r3.same s4).get hi
   obtain ⟨a0,a1,a2,a3,a4,rfl,_⟩:=b1 r (pm3.mem_iff.mp (List.mem_of_getElem? hri))
   walk_at "w"
   rw [decide_eq_true rfl]
   refine iteF ?_
   walk_at "w"
   exact ⟨_,rfl,s4⟩
  obtain ⟨o,rfl,s4⟩:=hp
  have m14:=s4 _ _ m13
  have m24:=s4 _ _ m23
  have m34:=s4 _ _ m3
  have r34:=r3.same s4
  have r14:=r1.same ((s2.trans s3).trans s4)
  walk_at "w"
  rename_i p5 H5 n5 s5 m5 p6 H6 s6 m6
  have s46:Same H4 H6:=s5.trans s6
  have m26:=s46 _ _ m24
  have ne12:p1≠p2:=fun z=>by rw [← z,m1] at n2; cases n2
  have ne32:p3≠p2:=fun z=>by rw [z,m2] at n3; cases n3
  have ne52:p5≠p2:=fun z=>by rw [z,m24] at n5; cases n5
  refine r_append m26 (by omega) ?_
  have s16:Same H1 H6:=((s2.trans s3).trans s4).trans s46
  have t0:Same H1 (upd H6 p2 (.lst (ys1 ++ [.ref p6]))):=s16.upd_old n2
  have t2:upd H6 p2 (.lst (ys1 ++ [.ref p6])) p2 = _:=upd_same
  have t3:upd H6 p2 (.lst (ys1 ++ [.ref p6])) p3 = _:=(upd_ne ne32).trans (s46 _ _ m34)
  have t5:upd H6 p2 (.lst (ys1 ++ [.ref p6])) p5 = _:=(upd_ne ne52).trans (s6 _ _ m5)
  have u3:RowsL K (upd H6 p2 (.lst (ys1 ++ [.ref p6]))) ys3 qs:=(r34.same s46).off m26
  have u6:SqT K (upd H6 p2 (.lst (ys1 ++ [.ref p6]))) p6 (([0,0,0,0,0]:List Int).map V.int):=upd_sqT (SqT.of m6) m26
  have u1:=r1.same t0
  have t1:=t0 _ _ m1
  generalize upd H6 p2 (.lst (ys1 ++ [.ref p6])) = H7 at t0 t1 t2 t3 t5 u1 u3 u6 ⊢
  have b7:∀ r∈rs ++ [[0,0,0,0,0]],RB 620 56 r:=fun r hr=>(List.mem_append.mp hr).elim (b1 r) fun z=>by rw [List.mem_singleton.mp z]; exact ⟨0,0,0,0,0,rfl,by decide,by decide,by decide,by decide,by decide⟩
  have u7:=u1.snoc u6
  walk_at "w"
  refine c_rising (SqL.of t2) u7 (fun r hr=>(b7 r hr).mono (by decide) (by decide)) (by simp; omega) fun p8 ys8 qs8 H8 n8 s8 m8 r8 pm8 so8=>?_
  have l8:=r8.length
  have lp8:=pm8.length_eq
  rw [List.length_append,List.length_singleton] at lp8
  have e1:=s8 _ _ t1
  have e2:=s8 _ _ t2
  have e3:=s8 _ _ t3
  have e5:=s8 _ _ t5
  walk_at "w"
  refine if_ff rfl ?_
  walk_at "w"
  refine if_ff (by rw [Bool.not_eq_false',decide_eq_true (by simp; omega)]) ?_
  walk_at "w"
  refine r_neD (.lst (SqL.of e3) (u3.same s8).tells) (.lst (SqL.of e5) (u3.same s8).tells) (shaped_rows _) (shaped_rows _) ?_
  rw [eqv_listR,decide_eq_true rfl]
  walk_at "w"
  refine iteF ?_
  walk_at "w"
  have q5:∀ r∈rs,Row5 r:=fun r hr=>(b1 r hr).row5 (by decide) (by decide)
  have q7:∀ r∈rs ++ [[0,0,0,0,0]],Row5 r:=fun r hr=>(b7 r hr).row5 (by decide) (by decide)
  refine rd_sortT (SqL.of e3) (u3.same s8) (fun r hr=>q5 r (pm3.mem_iff.mp hr)) (by omega) fun pA HA ysA qsA sA mA rA pmA soA=>?_
  have e1A:=sA _ _ e1
  walk_at "w"
  refine rd_sortT (SqL.of e1A) (u1.same (s8.trans sA)) q5 (by omega) fun pB HB ysB qsB sB mB rB pmB soB=>?_
  have eAB:qsA = qsB:=lk_same ((pmA.trans pm3).trans pmB.symm) (fun r hr=>q5 r (pmB.mem_iff.mp hr)) soA soB
  refine r_neD (.lst (SqL.of (sB _ _ mA)) (rA.same sB).tells) (.lst (SqL.of mB) rB.tells) (shaped_rows _) (shaped_rows _) ?_
  rw [eqv_listR,decide_eq_true eAB]
  have sAB:Same H8 HB:=sA.trans sB
  have m8B:=sAB _ _ m8
  walk_at "w"
  refine iteF ?_
  walk_at "w"
  refine rd_sortT (SqL.of m8B) (r8.same sAB) (fun r hr=>q7 r (pm8.mem_iff.mp hr)) (by omega) fun pC HC ysC qsC sC mC rC pmC soC=>?_
  have e2C:=(sAB.trans sC) _ _ e2
  walk_at "w"
  refine rd_sortT (SqL.of e2C) (u7.same ((s8.trans sAB).trans sC)) q7 (by simp; omega) fun pD HD ysD qsD sD mD rD pmD soD=>?_
  have eCD:qsC = qsD:=lk_same ((pmC.trans pm8).trans pmD.symm) (fun r hr=>q7 r (pmD.mem_iff.mp hr)) soC soD
  refine r_neD (.lst (SqL.of (sD _ _ mC)) (rC.same sD).tells) (.lst (SqL.of mD) rD.tells) (shaped_rows _) (shaped_rows _) ?_
  rw [eqv_listR,decide_eq_true eCD]
  walk_at "w"
  refine iteF ?_
  have s8D:Same H8 HD:=(sAB.trans sC).trans sD
  have f3:=s8D _ _ e3
  have v3:=u3.same (s8.trans s8D)
  walk_at "w"
  refine f_invR (fun i σ H9=>∃ ok:Option V,σ = [some (.ref a),some (.ref p1),some (.ref p2),some (.ref p3),o,some (.ref p5),some (.ref p8),ok]∧Same HD H9) ⟨_,rfl,Same.refl _⟩ (fun i σ H9 hi hp=>?_) (fun σ H9 hp=>?_)
  ·obtain ⟨ok,rfl,s9⟩:=hp
   have hi1:i + 1 < qs.length:=by omega
   obtain ⟨ca,ea,ha⟩:=(v3.same s9).row (List.getElem?_eq_getElem (by omega:i < qs.length))
   obtain ⟨cb,eb,hb⟩:=(v3.same s9).row (List.getElem?_eq_getElem hi1)
   have ba:=b1 _ (pm3.mem_iff.mp (List.getElem_mem (by omega:i < qs.length)))
   have bb:=b1 _ (pm3.mem_iff.mp (List.getElem_mem hi1))
   have wa:=w1 _ (pm3.mem_iff.mp (List.getElem_mem (by omega:i < qs.length)))
   have wb:=w1 _ (pm3.mem_iff.mp (List.getElem_mem hi1))
   have le:=List.pairwise_iff_getElem.mp so3 i (i + 1) (by omega) hi1 (by omega)
   generalize qs[i] = ra at *
   generalize qs[i + 1] = rb at *
   obtain ⟨f0,f1,f2,f3',f4,a0,a1,a2,a3,a4,rfl,rfl,_,_,_,_,_⟩:=wa
   obtain ⟨_,_,_,_,_,b0,b1',b2,b3,b4,ef,rfl,_,_,_,_,_⟩:=wb
   cases ef
   have up:=sgn_up ba bb le
   have ha':SqT K H9 ca [.int a0,.int a1,.int a2,.int a3,.int a4]:=ha
   have hb':SqT K H9 cb [.int b0,.int b1',.int b2,.int b3,.int b4]:=hb
   have f39:=s9 _ _ f3
   walk_at "v"
   rw [show (0:Int) + (i:Int) + 1 = ((i + 1:Nat):Int) by omega]
   refine r_ixL (SqL.of f39) (atI_nat eb) ?_
   walk_at "v"
   rw [show (0:Int) + (i:Int) = ((i:Nat):Int) by omega]
   refine r_ixL (SqL.of f39) (atI_nat ea) ?_
   walk_at "w"
   refine rd_zipRows (r:=[b0,b1',b2,b3,b4]) (q:=[a0,a1,a2,a3,a4]) (· - ·) rfl hb' ha' rfl (by show 5≤1000; decide) fun lz Hz nz sz mz=>?_
   walk_at "w"
   refine c_law_sign_of (kk:=false) (e0:=b0 - a0) (e1:=b1' - a1) (e2:=b2 - a2) (e3:=b3 - a3) (e4:=b4 - a4) (sql_sq (SqL.of mz)) (by unfold Mth.Bd; omega) fun Hy sy=>?_
   walk_at "w"
   refine if_ff (decide_eq_false (by omega)) ?_
   walk_at "w"
   exact ⟨_,rfl,(s9.trans sz).trans sy⟩
  ·obtain ⟨ok,rfl,s9⟩:=hp
   walk_at "w"
   exact k _
end
set_option maxHeartbeats 2000000
theorem all_mk {l : PySem.W.OpenLaw} {w : World} {K : PySem.W.Frag} {h : Heap} {mg : Str → Option Value} {fa : Addr} (X : K.In h) (G0 : h.Ns mainGlobals mg) (hfa : mg "law" = some (.ref fa)) {f0 f1 f2 f3 f4 f5 f6 f7 f8 f9 f10 : Addr} {od0 an0 od1 an1 od2 an2 od3 an3 od4 an4 od5 an5 od6 an6 od7 an7 od8 an8 od9 an9 od10 an10 : Option Addr} {sl0 sl1 sl2 sl3 sl4 sl5 sl6 sl7 sl8 sl9 sl10 : Array (Option Value)} {oc0 kV0 dc0 pm0 cd0 ct0 oc1 kV1 dc1 pm1 cd1 ct1 oc2 kV2 dc2 pm2 cd2 ct2 oc3 kV3 dc3 pm3 cd3 ct3 oc4 kV4 dc4 pm4 cd4 ct4 oc5 kV5 dc5 pm5 cd5 ct5 oc6 kV6 dc6 pm6 cd6 ct6 oc7 kV7 dc7 pm7 cd7 ct7 oc8 kV8 dc8 pm8 cd8 ct8 oc9 kV9 dc9 pm9 cd9 ct9 oc10 kV10 dc10 pm10 cd10 ct10 : Value} {u_PRIMES : Addr} {uo_PRIMES : Option Addr} {un_PRIMES : Nat} {us_PRIMES : Array (Option Value)} {t_PRIMES0 t_PRIMES1 t_PRIMES2 t_PRIMES3 t_PRIMES4 : Tok} {u_BOUNDS : Addr} {uo_BOUNDS : Option Addr} {un_BOUNDS : Nat} {us_BOUNDS : Array (Option Value)} {t_BOUNDS0 t_BOUNDS1 t_BOUNDS2 t_BOUNDS3 t_BOUNDS4 : Tok}
    (a0 : PySem.W.nsIn K mainGlobals "raised" = some (some (.ref f0))) (l0 : K.lookup f0 = some ⟨oc0, od0, .func (PySem.W.fnOf "raised" "raised" (defArgs s_raised) (defBody s_raised) (defScope s_raised) .none kV0 dc0 pm0 an0 cd0 ct0), sl0⟩) (c0 : PySem.W.codeIn K cd0 "raised" = true) (k0 : PySem.W.keepIn K (.ref f0) = true)
    (a1 : PySem.W.nsIn K mainGlobals "number_of" = some (some (.ref f1))) (l1 : K.lookup f1 = some ⟨oc1, od1, .func (PySem.W.fnOf "number_of" "number_of" (defArgs s_number_of) (defBody s_number_of) (defScope s_number_of) .none kV1 dc1 pm1 an1 cd1 ct1), sl1⟩) (c1 : PySem.W.codeIn K cd1 "number_of" = true) (k1 : PySem.W.keepIn K (.ref f1) = true)
    (a2 : PySem.W.nsIn K mainGlobals "fraction_of" = some (some (.ref f2))) (l2 : K.lookup f2 = some ⟨oc2, od2, .func (PySem.W.fnOf "fraction_of" "fraction_of" (defArgs s_fraction_of) (defBody s_fraction_of) (defScope s_fraction_of) .none kV2 dc2 pm2 an2 cd2 ct2), sl2⟩) (c2 : PySem.W.codeIn K cd2 "fraction_of" = true) (k2 : PySem.W.keepIn K (.ref f2) = true)
    (a3 : PySem.W.nsIn K mainGlobals "measure" = some (some (.ref f3))) (l3 : K.lookup f3 = some ⟨oc3, od3, .func (PySem.W.fnOf "measure" "measure" (defArgs s_measure) (defBody s_measure) (defScope s_measure) .none kV3 dc3 pm3 an3 cd3 ct3), sl3⟩) (c3 : PySem.W.codeIn K cd3 "measure" = true) (k3 : PySem.W.keepIn K (.ref f3) = true)
    (a4 : PySem.W.nsIn K mainGlobals "rising" = some (some (.ref f4))) (l4 : K.lookup f4 = some ⟨oc4, od4, .func (PySem.W.fnOf "rising" "rising" (defArgs s_rising) (defBody s_rising) (defScope s_rising) .none kV4 dc4 pm4 an4 cd4 ct4), sl4⟩) (c4 : PySem.W.codeIn K cd4 "rising" = true) (k4 : PySem.W.keepIn K (.ref f4) = true)
    (a5 : PySem.W.nsIn K mainGlobals "_law_cell_at" = some (some (.ref f5))) (l5 : K.lookup f5 = some ⟨oc5, od5, .func (PySem.W.fnOf "_law_cell_at" "_law_cell_at" (defArgs s_law_cell_at) (defBody s_law_cell_at) (defScope s_law_cell_at) .none kV5 dc5 pm5 an5 cd5 ct5), sl5⟩) (c5 : PySem.W.codeIn K cd5 "_law_cell_at" = true) (k5 : PySem.W.keepIn K (.ref f5) = true)
    (a6 : PySem.W.nsIn K mainGlobals "_law_row_is" = some (some (.ref f6))) (l6 : K.lookup f6 = some ⟨oc6, od6, .func (PySem.W.fnOf "_law_row_is" "_law_row_is" (defArgs s_law_row_is) (defBody s_law_row_is) (defScope s_law_row_is) .none kV6 dc6 pm6 an6 cd6 ct6), sl6⟩) (c6 : PySem.W.codeIn K cd6 "_law_row_is" = true) (k6 : PySem.W.keepIn K (.ref f6) = true)
    (a7 : PySem.W.nsIn K mainGlobals "_law_sign_of" = some (some (.ref f7))) (l7 : K.lookup f7 = some ⟨oc7, od7, .func (PySem.W.fnOf "_law_sign_of" "_law_sign_of" (defArgs s_law_sign_of) (defBody s_law_sign_of) (defScope s_law_sign_of) .none kV7 dc7 pm7 an7 cd7 ct7), sl7⟩) (c7 : PySem.W.codeIn K cd7 "_law_sign_of" = true) (k7 : PySem.W.keepIn K (.ref f7) = true)
    (a8 : PySem.W.nsIn K mainGlobals "_law_mixed" = some (some (.ref f8))) (l8 : K.lookup f8 = some ⟨oc8, od8, .func (PySem.W.fnOf "_law_mixed" "_law_mixed" (defArgs s_law_mixed) (defBody s_law_mixed) (defScope s_law_mixed) .none kV8 dc8 pm8 an8 cd8 ct8), sl8⟩) (c8 : PySem.W.codeIn K cd8 "_law_mixed" = true) (k8 : PySem.W.keepIn K (.ref f8) = true)
    (a9 : PySem.W.nsIn K mainGlobals "_law_tones" = some (some (.ref f9))) (l9 : K.lookup f9 = some ⟨oc9, od9, .func (PySem.W.fnOf "_law_tones" "_law_tones" (defArgs s_law_tones) (defBody s_law_tones) (defScope s_law_tones) .none kV9 dc9 pm9 an9 cd9 ct9), sl9⟩) (c9 : PySem.W.codeIn K cd9 "_law_tones" = true) (k9 : PySem.W.keepIn K (.ref f9) = true)
    (a10 : PySem.W.nsIn K mainGlobals "law" = some (some (.ref f10))) (l10 : K.lookup f10 = some ⟨oc10, od10, .func (PySem.W.fnOf "law" "law" (defArgs s_law) (defBody s_law) (defScope s_law) .none kV10 dc10 pm10 an10 cd10 ct10), sl10⟩) (c10 : PySem.W.codeIn K cd10 "law" = true) (k10 : PySem.W.keepIn K (.ref f10) = true)
     (x_PRIMES : PySem.W.nsIn K mainGlobals "PRIMES" = some (some (.ref u_PRIMES))) (y_PRIMES : K.lookup u_PRIMES = some ⟨.type "tuple", uo_PRIMES, .seq #[.int 2 t_PRIMES0, .int 3 t_PRIMES1, .int 5 t_PRIMES2, .int 7 t_PRIMES3, .int 11 t_PRIMES4] un_PRIMES, us_PRIMES⟩) (x_BOUNDS : PySem.W.nsIn K mainGlobals "BOUNDS" = some (some (.ref u_BOUNDS))) (y_BOUNDS : K.lookup u_BOUNDS = some ⟨.type "tuple", uo_BOUNDS, .seq #[.int 700 t_BOUNDS0, .int 60 t_BOUNDS1, .int 60 t_BOUNDS2, .int 60 t_BOUNDS3, .int 60 t_BOUNDS4] un_BOUNDS, us_BOUNDS⟩) (z_bool : PySem.W.nsIn K mainGlobals "bool" = some none) (z_int : PySem.W.nsIn K mainGlobals "int" = some none) (z_isinstance : PySem.W.nsIn K mainGlobals "isinstance" = some none) (z_len : PySem.W.nsIn K mainGlobals "len" = some none) (z_list : PySem.W.nsIn K mainGlobals "list" = some none) (z_max : PySem.W.nsIn K mainGlobals "max" = some none) (z_range : PySem.W.nsIn K mainGlobals "range" = some none) (z_sorted : PySem.W.nsIn K mainGlobals "sorted" = some none) (z_tuple : PySem.W.nsIn K mainGlobals "tuple" = some none) (z_zip : PySem.W.nsIn K mainGlobals "zip" = some none) :
    ∃ fd : FuncData, (∀ (s : Shared) (v : Value), BindsTo s fd ⟨[v], []⟩ [("_law_script", v)]) ∧ ∀ base : Heap, K.In base → base.Ns mainGlobals mg → FnOk l.prog w K mg base CX0 8 fa fd ["_law_script"] (spLaw K) := by
  have e := hfa.symm.trans (PySem.W.mg_of X G0 a10)
  cases e
  have T : Txt K mg ⟨u_PRIMES, u_BOUNDS⟩ := ⟨PySem.W.mg_none_of X G0 z_bool, PySem.W.mg_none_of X G0 z_int, PySem.W.mg_none_of X G0 z_isinstance, PySem.W.mg_none_of X G0 z_len, PySem.W.mg_none_of X G0 z_list, PySem.W.mg_none_of X G0 z_max, PySem.W.mg_none_of X G0 z_range, PySem.W.mg_none_of X G0 z_sorted, PySem.W.mg_none_of X G0 z_tuple, PySem.W.mg_none_of X G0 z_zip, PySem.W.mg_of X G0 x_PRIMES, fun H => .inr ⟨_, _, _, y_PRIMES, rfl, rfl, by show 5 ≤ sizeLine; decide, (.cons ⟨_, rfl⟩ (.cons ⟨_, rfl⟩ (.cons ⟨_, rfl⟩ (.cons ⟨_, rfl⟩ (.cons ⟨_, rfl⟩ .nil)))))⟩, PySem.W.mg_of X G0 x_BOUNDS, fun H => .inr ⟨_, _, _, y_BOUNDS, rfl, rfl, by show 5 ≤ sizeLine; decide, (.cons ⟨_, rfl⟩ (.cons ⟨_, rfl⟩ (.cons ⟨_, rfl⟩ (.cons ⟨_, rfl⟩ (.cons ⟨_, rfl⟩ .nil)))))⟩⟩
  have F0 := fun_mk (st := s_raised) l0 c0 k0
  have D_raised : Def K mg "raised" s_raised ["base", "exponent"] := ⟨_, _, F0, PySem.W.mg_of X G0 a0, F0.binds (ps := ["base", "exponent"]) fun _ _ _ _ _ _ us hl => of_len2 us hl fun _ _ => rfl⟩
  have F1 := fun_mk (st := s_number_of) l1 c1 k1
  have D_number_of : Def K mg "number_of" s_number_of ["row"] := ⟨_, _, F1, PySem.W.mg_of X G0 a1, F1.binds (ps := ["row"]) fun _ _ _ _ _ _ us hl => of_len1 us hl fun _ => rfl⟩
  have F2 := fun_mk (st := s_fraction_of) l2 c2 k2
  have D_fraction_of : Def K mg "fraction_of" s_fraction_of ["tone"] := ⟨_, _, F2, PySem.W.mg_of X G0 a2, F2.binds (ps := ["tone"]) fun _ _ _ _ _ _ us hl => of_len1 us hl fun _ => rfl⟩
  have F3 := fun_mk (st := s_measure) l3 c3 k3
  have D_measure : Def K mg "measure" s_measure ["tone"] := ⟨_, _, F3, PySem.W.mg_of X G0 a3, F3.binds (ps := ["tone"]) fun _ _ _ _ _ _ us hl => of_len1 us hl fun _ => rfl⟩
  have F4 := fun_mk (st := s_rising) l4 c4 k4
  have D_rising : Def K mg "rising" s_rising ["tones"] := ⟨_, _, F4, PySem.W.mg_of X G0 a4, F4.binds (ps := ["tones"]) fun _ _ _ _ _ _ us hl => of_len1 us hl fun _ => rfl⟩
  have F5 := fun_mk (st := s_law_cell_at) l5 c5 k5
  have D_law_cell_at : Def K mg "_law_cell_at" s_law_cell_at ["_law_script", "_law_k"] := ⟨_, _, F5, PySem.W.mg_of X G0 a5, F5.binds (ps := ["_law_script", "_law_k"]) fun _ _ _ _ _ _ us hl => of_len2 us hl fun _ _ => rfl⟩
  have F6 := fun_mk (st := s_law_row_is) l6 c6 k6
  have D_law_row_is : Def K mg "_law_row_is" s_law_row_is ["_law_found", "_law_due"] := ⟨_, _, F6, PySem.W.mg_of X G0 a6, F6.binds (ps := ["_law_found", "_law_due"]) fun _ _ _ _ _ _ us hl => of_len2 us hl fun _ _ => rfl⟩
  have F7 := fun_mk (st := s_law_sign_of) l7 c7 k7
  have D_law_sign_of : Def K mg "_law_sign_of" s_law_sign_of ["_law_row"] := ⟨_, _, F7, PySem.W.mg_of X G0 a7, F7.binds (ps := ["_law_row"]) fun _ _ _ _ _ _ us hl => of_len1 us hl fun _ => rfl⟩
  have F8 := fun_mk (st := s_law_mixed) l8 c8 k8
  have D_law_mixed : Def K mg "_law_mixed" s_law_mixed ["_law_cell", "_law_k"] := ⟨_, _, F8, PySem.W.mg_of X G0 a8, F8.binds (ps := ["_law_cell", "_law_k"]) fun _ _ _ _ _ _ us hl => of_len2 us hl fun _ _ => rfl⟩
  have F9 := fun_mk (st := s_law_tones) l9 c9 k9
  have D_law_tones : Def K mg "_law_tones" s_law_tones ["_law_script"] := ⟨_, _, F9, PySem.W.mg_of X G0 a9, F9.binds (ps := ["_law_script"]) fun _ _ _ _ _ _ us hl => of_len1 us hl fun _ => rfl⟩
  have F10 := fun_mk (st := s_law) l10 c10 k10
  refine ⟨PySem.W.fnOf "law" "law" (defArgs s_law) (defBody s_law) (defScope s_law) .none kV10 dc10 pm10 an10 cd10 ct10, fun s v => .of_eq rfl, fun base _ _ => ?_⟩
  have O_raised := ok_raised (P := l.prog) (w := w) (base := base) D_raised T
  have O_law_cell_at := ok_law_cell_at (P := l.prog) (w := w) (base := base) D_law_cell_at T
  have O_law_row_is := ok_law_row_is (P := l.prog) (w := w) (base := base) D_law_row_is T
  have O_law_sign_of := ok_law_sign_of (P := l.prog) (w := w) (base := base) D_law_sign_of T
  have O_law_mixed := ok_law_mixed (P := l.prog) (w := w) (base := base) D_law_mixed T
  have O_number_of := ok_number_of (P := l.prog) (w := w) (base := base) D_number_of T ⟨O_raised⟩
  have O_law_tones := ok_law_tones (P := l.prog) (w := w) (base := base) D_law_tones T ⟨O_law_cell_at, O_law_mixed⟩
  have O_fraction_of := ok_fraction_of (P := l.prog) (w := w) (base := base) D_fraction_of T ⟨O_number_of⟩
  have O_measure := ok_measure (P := l.prog) (w := w) (base := base) D_measure T ⟨O_number_of, O_fraction_of⟩
  have O_rising := ok_rising (P := l.prog) (w := w) (base := base) D_rising T ⟨O_measure⟩
  exact fn_law F10 T ⟨O_rising, O_law_row_is, O_law_sign_of, O_law_tones⟩
end Law
open PySem PySem.W PyProof.Rows
set_option maxRecDepth 100000 in
set_option maxHeartbeats 0 in
theorem PySem.Challenge.cw_tuningyard_k07_rising_holds : PySem.Challenge.rw_tuningyard_k07_rising.Holds := by
 w_on; o_law; k_head; (case hw=>w_witness2)
 k_fill
 refine L2.walk_ofK (l:=PySem.Challenge.rw_tuningyard_k07_rising) (n:=63) (k:=8) (x:="_law_script") (CX:=L2.CX0) (sp:=L2.spLaw) rfl (by decide) rfl ⟨rfl,by decide,by decide⟩ (fun w h Y=>PySem.W.kIn_of Y) ?F (fun _ _ a ns hl _ hS=>⟨a,ns,rfl,hS,hl,fun _=>rfl⟩) fun _ _ _ _ z=>z
 case F =>
  intro w mg fa h KX G hmg
  refine' Law.all_mk KX G hmg ?a0 ?l0 ?c0 ?k0 ?a1 ?l1 ?c1 ?k1 ?a2 ?l2 ?c2 ?k2 ?a3 ?l3 ?c3 ?k3 ?a4 ?l4 ?c4 ?k4 ?a5 ?l5 ?c5 ?k5 ?a6 ?l6 ?c6 ?k6 ?a7 ?l7 ?c7 ?k7 ?a8 ?l8 ?c8 ?k8 ?a9 ?l9 ?c9 ?k9 ?a10 ?l10 ?c10 ?k10 ?x_PRIMES ?y_PRIMES ?x_BOUNDS ?y_BOUNDS ?z_bool ?z_int ?z_isinstance ?z_len ?z_list ?z_max ?z_range ?z_sorted ?z_tuple ?z_zip
  (case a0=>k_is)
  (case l0=>k_is)
  (case c0=>k_is)
  (case k0=>k_is)
  (case a1=>k_is)
  (case l1=>k_is)
  (case c1=>k_is)
  (case k1=>k_is)
  (case a2=>k_is)
  (case l2=>k_is)
  (case c2=>k_is)
  (case k2=>k_is)
  (case a3=>k_is)
  (case l3=>k_is)
  (case c3=>k_is)
  (case k3=>k_is)
  (case a4=>k_is)
  (case l4=>k_is)
  (case c4=>k_is)
  (case k4=>k_is)
  (case a5=>k_is)
  (case l5=>k_is)
  (case c5=>k_is)
  (case k5=>k_is)
  (case a6=>k_is)
  (case l6=>k_is)
  (case c6=>k_is)
  (case k6=>k_is)
  (case a7=>k_is)
  (case l7=>k_is)
  (case c7=>k_is)
  (case k7=>k_is)
  (case a8=>k_is)
  (case l8=>k_is)
  (case c8=>k_is)
  (case k8=>k_is)
  (case a9=>k_is)
  (case l9=>k_is)
  (case c9=>k_is)
  (case k9=>k_is)
  (case a10=>k_is)
  (case l10=>k_is)
  (case c10=>k_is)
  (case k10=>k_is)
  (case x_PRIMES=>k_is)
  (case y_PRIMES=>k_is)
  (case x_BOUNDS=>k_is)
  (case y_BOUNDS=>k_is)
  (case z_bool=>k_is)
  (case z_int=>k_is)
  (case z_isinstance=>k_is)
  (case z_len=>k_is)
  (case z_list=>k_is)
  (case z_max=>k_is)
  (case z_range=>k_is)
  (case z_sorted=>k_is)
  (case z_tuple=>k_is)
  (case z_zip=>k_is)
