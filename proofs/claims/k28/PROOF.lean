import PyProof.Rows.All
import Wide.All
import OpenK.AllK
import Wide.FinOn
import Lean
import PyProof.EqAt
import PyProof.EqKinds
import PyProof.TupleCall
import PyProof.CompMap
import PyProof.ZipIter
import PyProof.TupleIter
import PyProof.ExcAttrAll.ValueError
import KE.KSortKey
import KE.KRevIter
import KE.KLam
import KE.KNestM
import PyProof.Rows.Range3
import PyProof.EnumMake
import PyProof.JoinWalk
import PyProof.Rows.StrSplitJoin
import PyProof.Rows.StrWeight2
import PyProof.StrOps2
import KE.KIntText
import PyProof.StrLawsFirst
import PyProof.StrBlockL
import PyProof.Rows.StrNews2
import PyProof.StrWalks
import PySem.Challenge.RW_tuningyard_k28_whole_apart_or_moved
set_option Elab.async false
set_option linter.all false
set_option maxRecDepth 100000
namespace L2
open PySem PySem.Spec PyProof.Rows
abbrev Key:=Sum Int Str
def keyIs:Key→Value→Bool
 | .inl k,v=>Value.isInt k v
 | .inr x,v=>Value.isStrOf x v
def keyH (w:World):Key→Int
 | .inl k=>hashInt k
 | .inr x=>hashStr w x
theorem keyIs_shape:∀ {k:Key} {v:Value},keyIs k v = true→(∃ i t,k = Sum.inl i∧v = Value.int i t)∨(∃ x t,k = Sum.inr x∧v = Value.str x t)
 | .inl i,v,h=>by
  obtain ⟨t,e⟩:=Value.isInt_shape (k:=i) (v:=v) h
  exact .inl ⟨i,t,rfl,e⟩
 | .inr x,v,h=>by
  obtain ⟨t,e⟩:=Value.isStrOf_shape (x:=x) (v:=v) h
  exact .inr ⟨x,t,rfl,e⟩
theorem key_ll (a b:Int):decide ((Sum.inl a:Key) = Sum.inl b) = (a == b):=by
 by_cases e:a = b
 ·subst e; simp
 ·have h:¬ (Sum.inl a:Key) = Sum.inl b:=fun q=>e (Sum.inl.inj q)
  rw [decide_eq_false h]
  exact (beq_eq_false_iff_ne.mpr e).symm
theorem key_rr (a b:Str):decide ((Sum.inr a:Key) = Sum.inr b) = decide (a = b):=by
 by_cases e:a = b
 ·subst e; simp
 ·have h:¬ (Sum.inr a:Key) = Sum.inr b:=fun q=>e (Sum.inr.inj q)
  rw [decide_eq_false h,decide_eq_false e]
theorem key_lr (a:Int) (b:Str):decide ((Sum.inl a:Key) = Sum.inr b) = false:=decide_eq_false (fun q=>nomatch q)
theorem key_rl (a:Str) (b:Int):decide ((Sum.inr a:Key) = Sum.inl b) = false:=decide_eq_false (fun q=>nomatch q)
def mixKind (prog:Program) (w:World):PySem.KeyKind prog w Key where
 is:=keyIs
 hash:=keyH w
 inj:=fun v a b ha hb=>by
  rcases keyIs_shape ha with ⟨i,t,rfl,rfl⟩ | ⟨x,t,rfl,rfl⟩
  ·rcases keyIs_shape hb with ⟨j,u,rfl,e⟩ | ⟨y,u,rfl,e⟩
   ·injection e with e1 _; rw [e1]
   ·exact nomatch e
  ·rcases keyIs_shape hb with ⟨j,u,rfl,e⟩ | ⟨y,u,rfl,e⟩
   ·exact nomatch e
   ·injection e with e1 _; rw [e1]
 byValue:=fun k v h=>by
  rcases keyIs_shape h with ⟨i,t,rfl,rfl⟩ | ⟨x,t,rfl,rfl⟩ <;> rfl
 pyHash:=fun hv h=>by
  rcases keyIs_shape hv with ⟨i,t,rfl,rfl⟩ | ⟨x,t,rfl,rfl⟩
  ·exact wpAny_pyHash_int h
  ·exact wpAny_pyHash_str h
 eqBool:=fun hu hv h=>by
  rcases keyIs_shape hu with ⟨i,t,rfl,rfl⟩ | ⟨x,t,rfl,rfl⟩
  ·rcases keyIs_shape hv with ⟨j,u,rfl,rfl⟩ | ⟨y,u,rfl,rfl⟩
   ·rw [key_ll] at h; exact wpAny_eqBool_int h
   ·rw [key_lr] at h; exact SeqAt.EqAt.int_str i t y u _ _ _ _ h
  ·rcases keyIs_shape hv with ⟨j,u,rfl,rfl⟩ | ⟨y,u,rfl,rfl⟩
   ·rw [key_rl] at h; exact SeqAt.EqAt.str_int x t j u _ _ _ _ h
   ·rw [key_rr] at h; exact wpAny_eqBool_str h
 «strs»:=fun k x t v h=>by
  rcases keyIs_shape h with ⟨i,u,rfl,e⟩ | ⟨y,u,rfl,e⟩
  ·exact nomatch e
  ·injection e with e1 _
   subst e1
   cases v <;> rfl
end L2
namespace L2
open PySem PySem.Spec PyProof.Rows
inductive V where
 | non | bl (b:Bool) | int (i:Int) | str (x:Str) | byt (b:Array UInt8) | flt (b:UInt64) | ref (a:Addr) | ty (n:String)
 deriving DecidableEq
def RelV:V→Value→Prop
 | .non,u=>u = Value.none
 | .bl b,u=>u = Value.bool b
 | .int i,u=>∃ t,u = Value.int i t
 | .str x,u=>∃ t,u = Value.str x t
 | .byt b,u=>∃ t,u = Value.bytes b t
 | .flt b,u=>∃ t,u = Value.float b t
 | .ref a,u=>u = Value.ref a
 | .ty n,u=>u = Value.type n
abbrev Vals:List V→List Value→Prop:=Paired RelV
theorem Vals.length {xs:List V} {us:List Value} (r:Vals xs us):xs.length = us.length:=Paired.length r
theorem Vals.get:∀ {xs:List V} {us:List Value} {i:Nat} {x:V},Vals xs us→xs[i]? = some x→∃ u,us[i]? = some u∧RelV x u
 | _,_,_,_,.nil,e=>by simp at e
 | _,_,0,_,.cons r _,e=>by simp at e; subst e; exact ⟨_,rfl,r⟩
 | _,_,i + 1,x,.cons _ t,e=>by
  obtain ⟨u,h1,h2⟩:=Vals.get (i:=i) (x:=x) t (by simpa using e)
  exact ⟨u,by simpa using h1,h2⟩
theorem Vals.append:∀ {xs ys:List V} {us ws:List Value},Vals xs us→Vals ys ws→Vals (xs ++ ys) (us ++ ws)
 | _,_,_,_,.nil,s=>s
 | _,_,_,_,.cons r t,s=>.cons r (Vals.append t s)
theorem Vals.take:∀ {xs:List V} {us:List Value} (n:Nat),Vals xs us→Vals (xs.take n) (us.take n)
 | _,_,0,_=>.nil
 | _,_,_ + 1,.nil=>.nil
 | _,_,n + 1,.cons r t=>.cons r (Vals.take n t)
theorem Vals.drop:∀ {xs:List V} {us:List Value} (n:Nat),Vals xs us→Vals (xs.drop n) (us.drop n)
 | _,_,0,r=>r
 | _,_,_ + 1,.nil=>.nil
 | _,_,n + 1,.cons _ t=>Vals.drop n t
def RelO:Option V→Option Value→Prop
 | some v,some u=>RelV v u
 | none,none=>True
 | _,_=>False
def KV {κ:Type}:List (κ×V)→List (κ×Value)→Prop:=Paired fun (p:κ×V) (q:κ×Value)=>p.1 = q.1∧RelV p.2 q.2
def kV:Key→V
 | .inl i=>.int i
 | .inr x=>.str x
inductive HO where
 /-- a list -/
 | lst (xs:List V)
 /-- a tuple (never changes) -/
 | tup (xs:List V)
 /-- a dict whose keys are ints and texts; one whose keys are tuples of ints and texts (the empty one is both) -/
 | dK (kvs:List (Key×V)) | dT (kvs:List (List Key×V))
 /-- a set of ints: its members,its size -/
 | set (S:Int→Bool) (n:Nat)
 /-- an instance of the class at C,its dict at dx,its attributes -/
 | ins (C dx:Addr) (fs:List (Str×V))
 /-- the dict of the instance at x -/
 | own (x:Addr)
 /-- the dict of an exception -/
 | xd (fs:List (Str×V))
 /-- a bound method,f of x -/
 | met (f x:Addr)
 /-- a range object lo,lo + 1,.. below hi -/
 | rng (lo hi:Int)
 /-- a thing that is known to the object (the script; a dict while a loop walks it): read,never written while it is so -/
 | frz (o:Obj) (u:HO)
 /-- a code object's table -/
 | tbl (ps:Array Value)
 /-- any other thing,by what is true of its one object (a def of one's own: SetO a S n:=HO.ext fun h=>..) -/
 | ext (φ:Heap→Prop)
abbrev Hp:=Addr→Option HO
def upd (H:Hp) (a:Addr) (o:HO):Hp:=fun b=>if b = a then some o else H b
theorem upd_same {H:Hp} {a:Addr} {o:HO}:upd H a o a = some o:=by unfold upd; rw [if_pos rfl]
theorem upd_ne {H:Hp} {a b:Addr} {o:HO} (h:b≠a):upd H a o b = H b:=by unfold upd; rw [if_neg h]
theorem ne_of_none {H:Hp} {a b:Addr} {o:HO} (h:H a = some o) (h':H b = none):a≠b:=by
 intro e; subst e; rw [h] at h'; cases h'
section
variable (P:Program) (w:World)
def ObjOk (H:Hp) (h:Heap) (a:Addr):HO→Prop
 | .lst xs=>xs.length≤sizeLine∧∃ (its:List Value) (n:Nat),Vals xs its∧h.get? a = some { cls:=.type "list",data:=.seq its.toArray n }
 | .tup xs=>xs.length≤sizeLine∧∃ its:List Value,Vals xs its∧IsTup h a its.toArray
 | .dK kvs=>kvs.length≤sizeLine∧(a == sysModules) = false∧∃ vs,KV kvs vs∧h.DictOf (mixKind P w) a vs
 | .dT kvs=>kvs.length≤sizeLine∧(a == sysModules) = false∧∃ xs:List (List Key×Addr×Value),
   Paired (fun (p:List Key×V) (q:List Key×Addr×Value)=>p.1 = q.1∧H q.2.1 = some (.tup (p.1.map kV))∧RelV p.2 q.2.2) kvs xs ∧
   ∃ o es ep,h.get? a = some o∧o.ExactDict∧o.data = .dict es ep∧es.toList = xs.map (entryOfKey (tupleKind (mixKind P w)))∧(xs.map (·.1)).Nodup
 | .set S n=>h.SetOf (intKind P w) a S n
 | .ins C dx fs=>H dx = some (.own a)∧fs.length≤1000∧dx≠a∧h.get? a = some (PySem.W.instObj C dx) ∧
   ∃ mA,h.Ns1 dx mA∧(∀ f,RelO (fs.lookup f) (mA f))∧PySem.Within mA (fs.map (·.1))
 | .own _=>∃ o,h.get? a = some o
 | .xd fs=>∃ mA,h.Ns1 a mA∧∀ f,RelO (fs.lookup f) (mA f)
 | .rng lo hi=>∃ t u v,h.get? a = some { cls:=.type "range",data:=.fields #[.int lo t,.int hi u,.int 1 v] }
 | .frz o u=>h.get? a = some o∧ObjOk H h a u
 | .tbl ps=>h.get? a = some { cls:=.none,data:=.fields ps }
 | .met f x=>h.get? a = some (PySem.W.methodObj (.ref f) (.ref x))
 | .ext φ=>φ h∧(∃ o,h.get? a = some o)∧∀ h1 h2:Heap,φ h1→(∀ o,h1.get? a = some o→h2.get? a = some o)→φ h2
def HOk (H:Hp) (h:Heap):Prop:=∀ a o,H a = some o→ObjOk P w H h a o
end
section
variable {P:Program} {w:World} {H H':Hp} {h h':Heap} {a:Addr} {o:HO}
theorem ObjOk.lt (x:ObjOk P w H h a o):a < h.objs.size:=by
 cases o with
 | lst xs=>obtain ⟨_,_,_,_,e⟩:=x; exact Heap.lt_size e
 | tup xs=>obtain ⟨_,_,_,p⟩:=x; exact p.lt
 | dK kvs=>obtain ⟨_,_,_,_,o,_,_,e,_⟩:=x; exact Heap.lt_size e
 | dT kvs=>obtain ⟨_,_,_,_,o,_,_,e,_⟩:=x; exact Heap.lt_size e
 | set S n=>obtain ⟨o,_,_,_,e,_⟩:=x; exact Heap.lt_size e
 | ins C dx fs=>obtain ⟨_,_,_,e,_⟩:=x; exact Heap.lt_size e
 | own y=>obtain ⟨_,e⟩:=x; exact Heap.lt_size e
 | xd fs=>obtain ⟨_,⟨_,_,_,e,_⟩,_⟩:=x; exact Heap.lt_size e
 | rng lo hi=>obtain ⟨_,_,_,e⟩:=x; exact Heap.lt_size e
 | frz ob u=>obtain ⟨e,_⟩:=x; exact Heap.lt_size e
 | tbl ps=>exact Heap.lt_size (show h.get? a = some _ from x)
 | met f y=>exact Heap.lt_size (show h.get? a = some _ from x)
 | ext φ=>obtain ⟨_,⟨_,e⟩,_⟩:=x; exact Heap.lt_size e
theorem Paired.mapP {α β:Type} {F G:α→β→Prop}:∀ {l₁:List α} {l₂:List β},Paired F l₁ l₂→(∀ a b,F a b→G a b)→Paired G l₁ l₂
 | _,_,.nil,_=>.nil
 | _,_,.cons r t,f=>.cons (f _ _ r) (Paired.mapP t f)
theorem ObjOk.stay (x:ObjOk P w H h a o) (k:∀ b u,(b = a∨H b = some (.own a))→h.get? b = some u→h'.get? b = some u)
  (ho:∀ b,H b = some (.own a)→H' b = some (.own a)) (ht:∀ b xs,H b = some (.tup xs)→H' b = some (.tup xs)):ObjOk P w H' h' a o:=by
 induction o with
 | lst xs=>obtain ⟨z,its,n,r,e⟩:=x; exact ⟨z,its,n,r,k _ _ (.inl rfl) e⟩
 | tup xs=>obtain ⟨z,its,r,ob,e,c⟩:=x; exact ⟨z,its,r,ob,k _ _ (.inl rfl) e,c⟩
 | dK kvs=>obtain ⟨z,y,vs,r,ob,es,ep,e,c⟩:=x; exact ⟨z,y,vs,r,ob,es,ep,k _ _ (.inl rfl) e,c⟩
 | dT kvs =>
  obtain ⟨z,y,xs,r,ob,es,ep,e,c⟩:=x
  exact ⟨z,y,xs,Paired.mapP r fun p q z=>⟨z.1,ht _ _ z.2.1,z.2.2⟩,ob,es,ep,k _ _ (.inl rfl) e,c⟩
 | set S n=>obtain ⟨ob,es,ep,t,e,c⟩:=x; exact ⟨ob,es,ep,t,k _ _ (.inl rfl) e,c⟩
 | ins C dx fs =>
  obtain ⟨d,z,ne,e,mA,⟨od,es,ep,e2,c⟩,r⟩:=x
  exact ⟨ho _ d,z,ne,k _ _ (.inl rfl) e,mA,⟨od,es,ep,k _ _ (.inr d) e2,c⟩,r⟩
 | own y=>obtain ⟨ob,e⟩:=x; exact ⟨ob,k _ _ (.inl rfl) e⟩
 | xd fs=>obtain ⟨mA,⟨od,es,ep,e,c⟩,r⟩:=x; exact ⟨mA,⟨od,es,ep,k _ _ (.inl rfl) e,c⟩,r⟩
 | rng lo hi=>obtain ⟨t,u,v,e⟩:=x; exact ⟨t,u,v,k _ _ (.inl rfl) e⟩
 | frz ob u ih=>obtain ⟨e,q⟩:=x; exact ⟨k _ _ (.inl rfl) e,ih q⟩
 | tbl ps =>
  have e:h.get? a = some { cls:=.none,data:=.fields ps }:=x
  show h'.get? a = some { cls:=.none,data:=.fields ps }
  exact k a _ (.inl rfl) e
 | met f y =>
  have e:h.get? a = some (PySem.W.methodObj (.ref f) (.ref y)):=x
  show h'.get? a = some (PySem.W.methodObj (.ref f) (.ref y))
  exact k a _ (.inl rfl) e
 | ext φ=>obtain ⟨p,⟨o,e⟩,st⟩:=x; exact ⟨st _ _ p fun o q=>k _ _ (.inl rfl) q,⟨o,k _ _ (.inl rfl) e⟩,st⟩
theorem HOk.lt (x:HOk P w H h) (e:H a = some o):a < h.objs.size:=(x a o e).lt
theorem HOk.fresh (x:HOk P w H h) (e:h.objs.size≤a):H a = none:=by
 cases q:H a with
 | none=>rfl
 | some u=>exact absurd (Nat.lt_of_lt_of_le (x.lt q) e) (Nat.lt_irrefl _)
theorem HOk.kept (x:HOk P w H h) (k:∀ b u,h.get? b = some u→h'.get? b = some u):HOk P w H h':=fun a o e =>
 (x a o e).stay (fun b u _ q=>k b u q) (fun _ q=>q) fun _ _ q=>q
theorem HOk.laid (x:HOk P w H h) (k:∀ b u,h.get? b = some u→h'.get? b = some u) (hp:h.objs.size≤a) (new:ObjOk P w (upd H a o) h' a o):HOk P w (upd H a o) h':=fun b u e=>by
 have hn:=x.fresh hp
 by_cases hb:b = a
 ·subst hb; rw [upd_same] at e; cases e; exact new
 ·rw [upd_ne hb] at e
  exact (x b u e).stay (fun c v _ q=>k c v q) (fun c q=>by rw [upd_ne (ne_of_none q hn)]; exact q) fun c xs q=>by rw [upd_ne (ne_of_none q hn)]; exact q
end
def Rd (H:Hp) (a:Addr) (u:HO):Prop:=H a = some u∨∃ o,H a = some (.frz o u)
theorem Rd.ok {P:Program} {w:World} {H:Hp} {h:Heap} {a:Addr} {u:HO} (r:Rd H a u) (x:HOk P w H h):ObjOk P w H h a u:=by
 rcases r with r | ⟨o,r⟩
 ·exact x a u r
 ·obtain ⟨_,q⟩:=x a _ r
  exact q
def Mut:Option HO→Prop
 | some (.lst _)=>True
 | some (.dK _)=>True
 | some (.dT _)=>True
 | some (.set _ _)=>True
 | some (.ins _ _ _)=>True
 | some (.ext _)=>True
 | _=>False
section
variable {P:Program} {w:World} {H:Hp} {h h':Heap} {x e:Addr} {o':HO}
theorem HOk.write (ok:HOk P w H h) (mu:Mut (H x)) (he:e = x∨H e = some (.own x)) (k:∀ b u,b≠e→h.get? b = some u→h'.get? b = some u) (heo:∃ u,h'.get? e = some u)
  (new:ObjOk P w (upd H x o') h' x o'):HOk P w (upd H x o') h':=fun b u q=>by
 have nown:∀ c y,H c = some (.own y)→c≠x:=fun c y r z=>by subst z; rw [r] at mu; exact mu
 have ntup:∀ c xs,H c = some (.tup xs)→c≠x:=fun c xs r z=>by subst z; rw [r] at mu; exact mu
 by_cases hb:b = x
 ·subst hb; rw [upd_same] at q; cases q; exact new
 ·rw [upd_ne hb] at q
  by_cases hbe:b = e
  ·have q':H b = some (.own x):=by
    rcases he with z | z
    ·exact absurd (hbe.trans z) hb
    ·rw [hbe]; exact z
   rw [q] at q'; cases q'
   obtain ⟨v,hv⟩:=heo
   exact ⟨v,by rw [hbe]; exact hv⟩
  ·refine (ok b u q).stay (fun c v hc r=>k c v ?_ r) (fun c r=>by rw [upd_ne (nown c b r)]; exact r) fun c xs r=>by rw [upd_ne (ntup c xs r)]; exact r
   rcases hc with rfl | hc
   ·exact hbe
   ·rintro rfl
    rcases he with z | z
    ·exact nown c b hc z
    ·rw [hc] at z; cases z; exact hb rfl
end
structure Un (fs ex:List Addr) (H H':Hp) (h h':Heap):Prop where
 keep:∀ b o,h.get? b = some o→H b = none→b∉fs→b∉ex→h'.get? b = some o
 slot:∀ b o,h.get? b = some o→H b = none→b∈fs→b∉ex→∃ sl,h'.get? b = some { o with slots:=sl }
 free:∀ b o,h.get? b = some o→H b = none→b∉ex→H' b = none
 there:∀ b o,h.get? b = some o→b∉ex→∃ o',h'.get? b = some o'
 tups:∀ b xs,H b = some (.tup xs)→H' b = some (.tup xs)
 frzs:∀ b o u,H b = some (.frz o u)→H' b = some (.frz o u)
 tbls:∀ b ps,H b = some (.tbl ps)→∃ more,H' b = some (.tbl (ps ++ more))
section
variable {fs fs' ex ex':List Addr} {H H1 H2:Hp} {h h1 h2 h':Heap} {a x e:Addr} {o:HO}
theorem Un.any (u:Un fs ex H H1 h h1) {b:Addr} {ob:Obj} (q:h.get? b = some ob) (n:H b = none) (hx:b∉ex):∃ sl,h1.get? b = some { ob with slots:=sl }:=by
 by_cases hb:b∈fs
 ·exact u.slot b ob q n hb hx
 ·exact ⟨ob.slots,u.keep b ob q n hb hx⟩
theorem Un.kept (k:∀ b u,h.get? b = some u→h'.get? b = some u):Un fs ex H H h h' :=
 ⟨fun b ob q _ _ _=>k b ob q,fun b ob q _ _ _=>⟨ob.slots,k b ob q⟩,fun _ _ _ n _=>n,fun b ob q _=>⟨ob,k b ob q⟩,fun _ _ q=>q,fun _ _ _ q=>q,fun _ ps q=>⟨#[],by rw [q]; simp⟩⟩
theorem Un.refl:Un fs ex H H h h:=Un.kept fun _ _ q=>q
theorem Un.laid (k:∀ b u,h.get? b = some u→h'.get? b = some u) (hp:h.objs.size≤a) (hn:H a = none):Un fs ex H (upd H a o) h h' where
 keep:=fun b u q _ _ _=>k b u q
 slot:=fun b u q _ _ _=>⟨u.slots,k b u q⟩
 free:=fun b u q n _=>by rw [upd_ne (Nat.ne_of_lt (Nat.lt_of_lt_of_le (Heap.lt_size q) hp))]; exact n
 there:=fun b u q _=>⟨u,k b u q⟩
 tups:=fun b xs q=>by rw [upd_ne (ne_of_none q hn)]; exact q
 frzs:=fun b u xs q=>by rw [upd_ne (ne_of_none q hn)]; exact q
 tbls:=fun b ps q=>⟨#[],by rw [upd_ne (ne_of_none q hn),q]; simp⟩
theorem Un.write (mu:Mut (H x)) (he:e = x∨H e = some (.own x)) (k:∀ b u,b≠e→h.get? b = some u→h'.get? b = some u) (heo:∃ u,h'.get? e = some u):Un fs ex H (upd H x o) h h':=by
 have hx:∀ b,H b = none→b≠x:=fun b n z=>by subst z; rw [n] at mu; exact mu
 have hb:∀ b,H b = none→b≠e:=fun b n z=>by
  subst z
  rcases he with r | r
  ·exact hx b n r
  ·rw [n] at r; cases r
 have hm:∀ b u,H b = some u→¬ Mut (some u)→b≠x:=fun b u q nm z=>by subst z; rw [q] at mu; exact nm mu
 refine ⟨fun b u q n _ _=>k b u (hb b n) q,fun b u q n _ _=>⟨u.slots,k b u (hb b n) q⟩,fun b u q n _=>by rw [upd_ne (hx b n)]; exact n,fun b u q _=>?_,
  fun b xs q=>by rw [upd_ne (hm b _ q fun z=>z)]; exact q,fun b u xs q=>by rw [upd_ne (hm b _ q fun z=>z)]; exact q,fun b ps q=>⟨#[],by rw [upd_ne (hm b _ q fun z=>z),q]; simp⟩⟩
 by_cases hbe:b = e
 ·subst hbe; exact heo
 ·exact ⟨u,k b u hbe q⟩
end
def trk (h:Heap) (H:Hp):List Addr:=(List.range h.objs.size).filter fun a=>(H a).isSome
def hidT (h:Heap) (H:Hp):Heap:=PySem.W.hideAll h (trk h H)
theorem hidT_size (h:Heap) (H:Hp):(hidT h H).objs.size = h.objs.size:=PySem.W.hideAll_size _ _
theorem hidT_get {h:Heap} {H:Hp} {b:Addr} {o:Obj} (e:h.get? b = some o) (n:H b = none):(hidT h H).get? b = some o :=
 PySem.W.hideAll_get _ e fun hm=>by
  have q:(H b).isSome = true:=(List.mem_filter.mp hm).2
  rw [n] at q; simp at q
theorem of_hidT {h:Heap} {H:Hp} {b:Addr} {o:Obj} (e:(hidT h H).get? b = some o):h.get? b = some o∧H b = none:=by
 have e':h.get? b = some o:=PySem.W.of_hideAll (trk h H) e
 refine ⟨e',?_⟩
 cases q:H b with
 | none=>rfl
 | some x =>
  have hm:b∈trk h H:=List.mem_filter.mpr ⟨List.mem_range.mpr (Heap.lt_size e'),by simp [q]⟩
  have z:(hidT h H).get? b = none:=PySem.W.hideAll_none (trk h H) hm
  rw [z] at e; cases e
def allNews (g h:Heap) (L:Addr):List (Addr×Obj):=(List.range h.objs.size).filterMap fun a=>if a = L∨(g.get? a).isSome = true then none else (h.get? a).map fun o=>(a,o)
def rest (g h:Heap) (L d:Addr):List (Addr×Obj):=(allNews g h L).filter fun p=>decide (p.1≠d)
end L2
namespace L2
open PySem PySem.Spec PyProof.Rows
structure Mod (K:PySem.W.Frag) (mg:Str→Option Value) (base:Heap):Prop where
 kin:K.In base
 glob:base.Ns mainGlobals mg
 blt:∃ mb,base.Ns builtinsNs mb∧∀ x:Str,x≠"__name__"→mb x = bootBuiltins x
 nolimit:base.NoLimit
structure Cx where
 prog:Program
 w:World
 K:PySem.W.Frag
 mg:Str→Option Value
 base:Heap
 A:Around
 N:List Str
 s₀:Shared
 H₀:Hp
 env:Env
 outer:List Env
 stack:List Env
 ex:List Addr
 fn:Str→Bool
 calm:Bool
 pn:List (Addr×Obj)
 xe:Value→Shared→Prop
def frs (l:List Env):List Addr:=l.filterMap (·.frame)
abbrev Cx.fs (X:Cx):List Addr:=frs X.outer
def Vis (sc:Scope) (x:Str):Prop:=sc.names.lookup x = some .local∨sc.names.lookup x = some .cell∨sc.names.lookup x = some .free
def Loc (sc:Scope) (x:Str):Prop:=sc.names.lookup x = some .local∨sc.names.lookup x = some .cell
def Look (env:Env) (h:Heap) (m:Str→Option Value) (x:Str) (u:Value):Prop :=
 (env.kindOf x = some .local∧m x = some u)∨((env.kindOf x = some .cell∨env.kindOf x = some .free)∧∃ c,env.cells.lookup x = some c∧h.IsCell c (some u))
structure Cx.Ok (X:Cx):Prop where
 mod:Mod X.K X.mg X.base
 kind:X.env.scope.kind = .function
 glob:X.env.globals = mainGlobals
 blt:X.env.builtins = builtinsNs
 above:X.s₀.heap.objs.size≤X.env.locals
 inj:∀ x y c,X.env.cells.lookup x = some c→X.env.cells.lookup y = some c→x = y
 has:∀ x,(X.env.kindOf x = some .cell∨X.env.kindOf x = some .free)→∃ c,X.env.cells.lookup x = some c
 cab:∀ x c,X.fn x = true→X.env.cells.lookup x = some c→X.s₀.heap.objs.size≤c
 hd:X.calm = true→X.A.handled = none
 frames:X.A.frames = some X.stack
 stk:X.stack = X.outer∨(X.stack = X.env :: X.outer∧X.env.frame = some X.env.locals)
 exf:∀ b∈X.ex,b≠X.env.locals∧∀ x c,X.env.cells.lookup x = some c→c≠b
 bs:∀ b o,X.base.get? b = some o→X.s₀.heap.get? b = some o∧X.H₀ b = none
 bsz:X.base.objs.size≤X.s₀.heap.objs.size
 noex:∀ b o,X.base.get? b = some o→b∉X.ex
 exfs:∀ b∈X.ex,b∉X.fs
 funs:X.s₀.heap.FunFrames X.base X.outer
 frf:∀ b∈X.fs,X.H₀ b = none
structure Inv (X:Cx) (pins:List (Addr×Obj)) (σ:List (Option V)) (H:Hp) (s:Shared):Prop where
 ok:X.Ok
 os:s.os = X.s₀.os
 bare:AllBare s.gens
 base:Un X.fs X.ex X.H₀ H X.s₀.heap s.heap
 loc:∃ m,s.heap.Ns X.env.locals m∧∀ (i:Nat) (x:Str) (v:V),X.N[i]? = some x→σ[i]? = some (some v)→Vis X.env.scope x→∃ u,RelV v u∧Look X.env s.heap m x u
 cell:∀ x c,X.env.cells.lookup x = some c→∃ v,s.heap.IsCell c v
 free:H X.env.locals = none
 freeC:∀ x c,X.env.cells.lookup x = some c→H c = none
 pin:∀ p∈X.pn ++ pins,s.heap.get? p.1 = some p.2∧H p.1 = none∧p.1≠X.env.locals∧p.1∉X.fs∧∀ v,p.2.data≠.cell v
 hok:HOk X.prog X.w H s.heap
 len:σ.length = X.N.length
section
variable {X:Cx} {pins:List (Addr×Obj)} {σ:List (Option V)} {H H':Hp} {s:Shared} {h':Heap}
theorem Cx.Ok.nofr (ok:X.Ok) {b:Addr} {o:Obj} (e:X.base.get? b = some o):b∉X.fs:=fun hb=>by
 have:=(ok.funs.mem hb).1
 rw [e] at this; cases this
theorem Inv.bs (I:Inv X pins σ H s):∀ b o,X.base.get? b = some o→s.heap.get? b = some o∧H b = none:=fun b o e =>
 ⟨I.base.keep b o (I.ok.bs b o e).1 (I.ok.bs b o e).2 (I.ok.nofr e) (I.ok.noex b o e),I.base.free b o (I.ok.bs b o e).1 (I.ok.bs b o e).2 (I.ok.noex b o e)⟩
theorem Inv.bk (I:Inv X pins σ H s):∀ b o,X.base.get? b = some o→s.heap.get? b = some o:=fun b o e=>(I.bs b o e).1
theorem Inv.mod (I:Inv X pins σ H s):Mod X.K X.mg X.base:=I.ok.mod
theorem Inv.kIn (I:Inv X pins σ H s):X.K.In s.heap:=I.ok.mod.kin.keeps I.bk
theorem Inv.lt (I:Inv X pins σ H s):X.env.locals < s.heap.objs.size:=let ⟨_,hn,_⟩:=I.loc; hn.lt
theorem Inv.sz (I:Inv X pins σ H s):X.s₀.heap.objs.size≤s.heap.objs.size:=Nat.le_trans I.ok.above (Nat.le_of_lt I.lt)
theorem Inv.nofs (I:Inv X pins σ H s) {a:Addr} (h:s.heap.objs.size≤a):a∉X.fs:=fun hb=>by
 obtain ⟨_,o,ho,_⟩:=I.ok.funs.mem hb
 exact absurd (Nat.lt_of_lt_of_le (Heap.lt_size ho) (Nat.le_trans I.sz h)) (Nat.lt_irrefl _)
theorem Inv.cne (I:Inv X pins σ H s):∀ x c,X.env.cells.lookup x = some c→c≠X.env.locals:=fun x c e z=>by
 obtain ⟨v,o,ho,hd⟩:=I.cell x c e
 obtain ⟨m,⟨o',es,ep,ho',hd',_⟩,_⟩:=I.loc
 rw [z,ho'] at ho; cases ho; rw [hd'] at hd; cases hd
theorem Inv.funs (I:Inv X pins σ H s):s.heap.FunFrames X.base X.outer:=by
 have all:∀ (l:List Env),(∀ b∈frs l,b∈X.fs)→X.s₀.heap.FunFrames X.base l→s.heap.FunFrames X.base l:=by
  intro l
  induction l with
  | nil=>intro _ _; trivial
  | cons env r ih =>
   intro hs hl
   obtain ⟨hk,⟨L,o,hf,hn,ho,hd⟩,hr⟩:=hl
   have hL:L∈X.fs:=hs L (by unfold frs; rw [List.filterMap_cons,hf]; exact List.mem_cons_self)
   obtain ⟨sl,e⟩:=I.base.slot L o ho (I.ok.frf L hL) hL fun z=>I.ok.exfs L z hL
   exact ⟨hk,⟨L,_,hf,hn,e,hd⟩,ih (fun b hb=>hs b (by unfold frs; rw [List.filterMap_cons,hf]; exact List.mem_cons_of_mem _ hb)) hr⟩
 exact all X.outer (fun _ hb=>hb) I.ok.funs
theorem Inv.stack (I:Inv X pins σ H s):s.heap.FunFrames X.base X.stack:=by
 rcases I.ok.stk with e | ⟨e,hf⟩
 ·rw [e]; exact I.funs
 ·rw [e]
  obtain ⟨m,hn,_⟩:=I.loc
  refine .cons (by rw [I.ok.kind]; decide) hf hn ?_ I.funs
  exact Heap.get?_none_of_le (Nat.le_trans I.ok.bsz I.ok.above)
theorem Inv.stkSub (I:Inv X pins σ H s):∀ b∈frs X.stack,b∈X.env.locals :: X.fs:=fun b hb=>by
 rcases I.ok.stk with e | ⟨e,hf⟩
 ·rw [e] at hb; exact List.mem_cons_of_mem _ hb
 ·rw [e] at hb
  unfold frs at hb
  rw [List.filterMap_cons,hf] at hb
  exact hb
theorem Inv.stkFree (I:Inv X pins σ H s):∀ b∈frs X.stack,H b = none:=fun b hb=>by
 rcases List.mem_cons.mp (I.stkSub b hb) with e | hb
 ·rw [e]; exact I.free
 ·obtain ⟨_,o,ho,_⟩:=I.ok.funs.mem hb
  exact I.base.free b o ho (I.ok.frf b hb) fun z=>I.ok.exfs b z hb
theorem Inv.step {g':Array GenState} {t':Nat} {d':Drawn} {ch:List Addr} (I:Inv X pins σ H s)
  (hch:∀ b∈ch,(b∈X.ex∨X.s₀.heap.objs.size≤b)∧b≠X.env.locals∧(∀ x c,X.env.cells.lookup x = some c→c≠b)∧∀ p∈X.pn ++ pins,p.1≠b)
  (keep:∀ b o,b≠X.env.locals→b∉X.fs→b∉ch→s.heap.get? b = some o→H b = none→h'.get? b = some o)
  (slot:∀ b o,b≠X.env.locals→b∈X.fs→b∉ch→s.heap.get? b = some o→H b = none→∃ sl,h'.get? b = some { o with slots:=sl }) (free:∀ b o,b∉ch→s.heap.get? b = some o→H b = none→H' b = none)
  (there:∀ b o,b∉ch→s.heap.get? b = some o→∃ o',h'.get? b = some o')
  (tups:∀ b xs,H b = some (.tup xs)→H' b = some (.tup xs)) (frzs:∀ b o u,H b = some (.frz o u)→H' b = some (.frz o u)) (tbls:∀ b ps,H b = some (.tbl ps)→∃ more,H' b = some (.tbl (ps ++ more)))
  (ns:∀ m,s.heap.Ns X.env.locals m→h'.Ns X.env.locals m) (hok:HOk X.prog X.w H' h') (hg:AllBare g') :
  Inv X pins σ H' { s with heap:=h',gens:=g',drawn:=d',toks:=t' }:=by
 have neL:∀ b o,X.s₀.heap.get? b = some o→b≠X.env.locals:=fun b o e=>Nat.ne_of_lt (Nat.lt_of_lt_of_le (Heap.lt_size e) I.ok.above)
 have neC:∀ b o,X.s₀.heap.get? b = some o→b∉X.ex→b∉ch:=fun b o e hx hb=>by
  rcases (hch b hb).1 with z | z
  ·exact hx z
  ·exact absurd (Nat.lt_of_lt_of_le (Heap.lt_size e) z) (Nat.lt_irrefl _)
 have cellK:∀ x c,X.env.cells.lookup x = some c→∀ v,s.heap.IsCell c v→h'.IsCell c v:=fun x c e v ⟨o,ho,hd⟩=>by
  have nch:c∉ch:=fun z=>(hch c z).2.2.1 x c e rfl
  by_cases hc:c∈X.fs
  ·obtain ⟨sl,q⟩:=slot c o (I.cne x c e) hc nch ho (I.freeC x c e)
   exact ⟨_,q,hd⟩
  ·exact ⟨o,keep c o (I.cne x c e) hc nch ho (I.freeC x c e),hd⟩
 refine ⟨I.ok,I.os,hg,⟨fun b o e n hb hx=>?_,fun b o e n hb hx=>?_,fun b o e n hx=>?_,fun b o e hx=>?_,fun b xs e=>tups b xs (I.base.tups b xs e),fun b o xs e=>frzs b o xs (I.base.frzs b o xs e),fun b ps e=>?_⟩,?_,fun x c e=>?_,?_,fun x c e=>?_,fun p hp=>?_,hok,I.len⟩
 ·exact keep b o (neL b o e) hb (neC b o e hx) (I.base.keep b o e n hb hx) (I.base.free b o e n hx)
 ·obtain ⟨sl,e1⟩:=I.base.slot b o e n hb hx
  obtain ⟨sl',e2⟩:=slot b _ (neL b o e) hb (neC b o e hx) e1 (I.base.free b o e n hx)
  exact ⟨sl',e2⟩
 ·obtain ⟨o',e1⟩:=I.base.there b o e hx
  exact free b o' (neC b o e hx) e1 (I.base.free b o e n hx)
 ·obtain ⟨o',e1⟩:=I.base.there b o e hx
  exact there b o' (neC b o e hx) e1
 ·obtain ⟨m1,e1⟩:=I.base.tbls b ps e
  obtain ⟨m2,e2⟩:=tbls b _ e1
  exact ⟨m1 ++ m2,by rw [e2,Array.append_assoc]⟩
 ·obtain ⟨m,hn,hl⟩:=I.loc
  refine ⟨m,ns m hn,fun i x v e1 e2 e3=>?_⟩
  obtain ⟨u,r,l⟩:=hl i x v e1 e2 e3
  refine ⟨u,r,?_⟩
  rcases l with l | ⟨k,c,e,z⟩
  ·exact .inl l
  ·exact .inr ⟨k,c,e,cellK x c e _ z⟩
 ·obtain ⟨v,z⟩:=I.cell x c e
  exact ⟨v,cellK x c e v z⟩
 ·obtain ⟨m,⟨o,_,_,ho,_⟩,_⟩:=I.loc
  exact free _ o (fun z=>(hch _ z).2.1 rfl) ho I.free
 ·obtain ⟨v,o,ho,hd⟩:=I.cell x c e
  exact free c o (fun z=>(hch c z).2.2.1 x c e rfl) ho (I.freeC x c e)
 ·obtain ⟨e,n,ne,nf,d⟩:=I.pin p hp
  have nch:p.1∉ch:=fun z=>(hch p.1 z).2.2.2 p hp rfl
  exact ⟨keep p.1 p.2 ne nf nch e n,free p.1 p.2 nch e n,ne,nf,d⟩
theorem Inv.un {t':Nat} (I:Inv X pins σ H s) (u:Un X.fs [] H H' s.heap h') (hok:HOk X.prog X.w H' h'):Inv X pins σ H' { s with heap:=h',toks:=t' }:=by
 obtain ⟨m,⟨o,es,ep,ho,r⟩,_⟩:=id I.loc
 obtain ⟨sl,hL⟩:=u.any ho I.free (by simp)
 exact I.step (g':=s.gens) (d':=s.drawn) (ch:=[]) (fun _ z=>nomatch z) (fun b o _ hb _ e n=>u.keep b o e n hb (by simp)) (fun b o _ hb _ e n=>u.slot b o e n hb (by simp)) (fun b o _ e n=>u.free b o e n (by simp)) (fun b o _ e=>u.there b o e (by simp)) u.tups u.frzs u.tbls (fun m' hm=>by
  obtain ⟨o',es',ep',ho',r'⟩:=hm
  rw [ho] at ho'; cases ho'
  exact ⟨_,es',ep',hL,r'⟩) hok I.bare
theorem Inv.call {g':Array GenState} {t':Nat} {d':Drawn} {ch:List Addr} (I:Inv X pins σ H s) (u:Un (frs X.stack) ch H H' s.heap h') (hok:HOk X.prog X.w H' h') (hg:AllBare g')
  (hch:∀ b∈ch,(b∈X.ex∨X.s₀.heap.objs.size≤b)∧b≠X.env.locals∧(∀ x c,X.env.cells.lookup x = some c→c≠b)∧∀ p∈X.pn ++ pins,p.1≠b) :
  Inv X pins σ H' { s with heap:=h',gens:=g',drawn:=d',toks:=t' }:=by
 obtain ⟨m,⟨o,es,ep,ho,r⟩,_⟩:=id I.loc
 obtain ⟨sl,hL⟩:=u.any ho I.free fun z=>(hch _ z).2.1 rfl
 exact I.step (ch:=ch) hch (fun b o hL hb hc e n=>u.keep b o e n (fun z=>(List.mem_cons.mp (I.stkSub b z)).elim hL hb) hc) (fun b o _ _ hc e n=>u.any e n hc) (fun b o hc e n=>u.free b o e n hc) (fun b o hc e=>u.there b o e hc) u.tups u.frzs u.tbls (fun m' hm=>by
  obtain ⟨o',es',ep',ho',r'⟩:=hm
  rw [ho] at ho'; cases ho'
  exact ⟨_,es',ep',hL,r'⟩) hok hg
theorem Inv.turned {t':Nat} {it:Addr} (I:Inv X pins σ H s) (k:∀ b o,b≠it→s.heap.get? b = some o→h'.get? b = some o) (hn:H it = none) (hL:it≠X.env.locals)
  (h1:it∈X.ex∨X.s₀.heap.objs.size≤it) (h2:∀ x c,X.env.cells.lookup x = some c→c≠it) (h3:∀ p∈X.pn ++ pins,p.1≠it):Inv X pins σ H { s with heap:=h',toks:=t' }:=by
 have nit:∀ b u,H b = some u→b≠it:=fun b u e z=>by rw [z,hn] at e; cases e
 refine I.step (g':=s.gens) (d':=s.drawn) (ch:=[it]) (fun b hb=>?_) (fun b o _ _ hc e _=>k b o (fun z=>hc (by simp [z])) e) (fun b o _ _ hc e _=>⟨o.slots,k b o (fun z=>hc (by simp [z])) e⟩) (fun _ _ _ _ n=>n)
  (fun b o hc e=>⟨o,k b o (fun z=>hc (by simp [z])) e⟩) (fun _ _ e=>e) (fun _ _ _ e=>e) (fun b ps e=>⟨#[],by rw [e]; simp⟩) (fun m hm=>?_) (fun b u e=>?_) I.bare
 ·have e:b = it:=by simpa using hb
  subst e
  exact ⟨h1,hL,h2,h3⟩
 ·obtain ⟨o,es,ep,ho,r⟩:=hm
  exact ⟨o,es,ep,k _ o (Ne.symm hL) ho,r⟩
 ·refine (I.hok b u e).stay (fun c v hc q=>k c v ?_ q) (fun _ q=>q) fun _ _ q=>q
  rcases hc with z | z
  ·rw [z]; exact nit b u e
  ·exact nit c _ z
theorem Inv.tok (I:Inv X pins σ H s) (t:Nat):Inv X pins σ H { s with toks:=t }:=I.un (h':=s.heap) (t':=t) Un.refl I.hok
theorem Inv.kept {t':Nat} (I:Inv X pins σ H s) (k:∀ b u,s.heap.get? b = some u→h'.get? b = some u):Inv X pins σ H { s with heap:=h',toks:=t' }:=I.un (Un.kept k) (I.hok.kept k)
theorem Inv.laid {a:Addr} {o:HO} {t':Nat} (I:Inv X pins σ H s) (k:∀ b u,s.heap.get? b = some u→h'.get? b = some u) (hp:s.heap.objs.size≤a) (new:ObjOk X.prog X.w (upd H a o) h' a o) :
  Inv X pins σ (upd H a o) { s with heap:=h',toks:=t' }:=I.un (Un.laid k hp (I.hok.fresh hp)) (I.hok.laid k hp new)
theorem Inv.write {x e:Addr} {o:HO} {t':Nat} (I:Inv X pins σ H s) (mu:Mut (H x)) (he:e = x∨H e = some (.own x)) (k:∀ b u,b≠e→s.heap.get? b = some u→h'.get? b = some u) (heo:∃ u,h'.get? e = some u)
  (new:ObjOk X.prog X.w (upd H x o) h' x o):Inv X pins σ (upd H x o) { s with heap:=h',toks:=t' }:=I.un (Un.write mu he k heo) (I.hok.write mu he k heo new)
theorem Inv.pins_of {pins':List (Addr×Obj)} (I:Inv X pins σ H s) (h:∀ p∈pins',s.heap.get? p.1 = some p.2∧H p.1 = none∧p.1≠X.env.locals∧p.1∉X.fs∧∀ v,p.2.data≠.cell v):Inv X pins' σ H s :=
 ⟨I.ok,I.os,I.bare,I.base,I.loc,I.cell,I.free,I.freeC,fun p hp=>(List.mem_append.mp hp).elim (fun z=>I.pin p (List.mem_append_left _ z)) (h p),I.hok,I.len⟩
theorem nodup_ix {N:List Str} (hN:N.Nodup) {i j:Nat} {x:Str} (a:N[i]? = some x) (b:N[j]? = some x):i = j:=by
 obtain ⟨h1,e1⟩:=List.getElem?_eq_some_iff.mp a
 obtain ⟨h2,e2⟩:=List.getElem?_eq_some_iff.mp b
 exact (List.getElem_inj hN).mp (e1.trans e2.symm)
theorem store_ok2 {M:Model} {A:Around} {E:Value→Shared→Prop} {i:Nat} {x:Str} {v:V} {u:Value} {Q:Unit→Shared→Prop} (I:Inv X pins σ H s) (hN:X.N.Nodup) (hi:X.N[i]? = some x) (hx:Loc X.env.scope x) (r:RelV v u)
  (h:∀ s',Inv X pins (σ.set i (some v)) H s'→(∃ a,Heap.SameBut a s.heap s'.heap∧(a = X.env.locals∨X.env.cells.lookup x = some a))→Q () s') (hf:X.fn x = true∨X.env.scope.names.lookup x = some .local:=by first | exact .inl rfl | exact .inr rfl | assumption):wpAny M A (storeName X.env x u) Q E s:=by
 obtain ⟨m,hn,hl⟩:=id I.loc
 have hcls:(X.env.scope.kind == .class || (X.env.scope.kind == .module && X.env.locals != X.env.globals)) = false:=by rw [I.ok.kind]; rfl
 have hiσ:i < σ.length:=by rw [I.len]; exact (List.getElem?_eq_some_iff.mp hi).1
 have cne:=I.cne
 have tracked:∀ {a:Addr} {h':Heap},(∃ o,s.heap.get? a = some o∧H a = none)→Heap.SameBut a s.heap h'→HOk X.prog X.w H h':=fun {a h'} ha hs b ob e=>by
  obtain ⟨_,_,hfree⟩:=ha
  refine (I.hok b ob e).stay (fun c w' hc q=>(hs.2 c ?_).trans q) (fun _ q=>q) fun _ _ q=>q
  rintro rfl
  rcases hc with rfl | hc
  ·rw [hfree] at e; cases e
  ·rw [hfree] at hc; cases hc
 rcases hx with hk | hk
 ·refine wpAny_storeName_local hk hn (fun h' hn' hs=>?_) hcls
  obtain ⟨oL,_,_,hoL,_⟩:=id hn
  refine h _ ⟨I.ok,I.os,I.bare,⟨fun b o e n hb hx=>?_,fun b o e n hb hx=>?_,I.base.free,fun b o e hx=>?_,I.base.tups,I.base.frzs,I.base.tbls⟩,⟨_,hn',fun j y v' e1 e2 e3=>?_⟩,fun y c e=>?_,I.free,I.freeC,fun p hp=>?_,tracked ⟨oL,hoL,I.free⟩ hs,by simpa using I.len⟩ ⟨_,hs,.inl rfl⟩
  ·exact (hs.2 b (Nat.ne_of_lt (Nat.lt_of_lt_of_le (Heap.lt_size e) I.ok.above))).trans (I.base.keep b o e n hb hx)
  ·obtain ⟨sl,e1⟩:=I.base.slot b o e n hb hx
   exact ⟨sl,(hs.2 b (Nat.ne_of_lt (Nat.lt_of_lt_of_le (Heap.lt_size e) I.ok.above))).trans e1⟩
  ·obtain ⟨o',e1⟩:=I.base.there b o e hx
   exact ⟨o',(hs.2 b (Nat.ne_of_lt (Nat.lt_of_lt_of_le (Heap.lt_size e) I.ok.above))).trans e1⟩
  ·by_cases hj:j = i
   ·subst hj
    rw [hi] at e1; cases e1
    rw [List.getElem?_set_self hiσ] at e2
    cases e2
    exact ⟨u,r,.inl ⟨hk,by simp⟩⟩
   ·rw [List.getElem?_set_ne (Ne.symm hj)] at e2
    obtain ⟨u',r',q⟩:=hl j y v' e1 e2 e3
    refine ⟨u',r',?_⟩
    rcases q with ⟨k,e⟩ | ⟨k,c,e,z⟩
    ·refine .inl ⟨k,?_⟩
     have:y≠x:=fun e=>hj (nodup_ix hN e1 (e ▸ hi))
     simp [this,e]
    ·exact .inr ⟨k,c,e,z.sameBut hs (cne y c e)⟩
  ·obtain ⟨w',z⟩:=I.cell y c e
   exact ⟨w',z.sameBut hs (cne y c e)⟩
  ·obtain ⟨e,n,ne,nf,d⟩:=I.pin p hp
   exact ⟨(hs.2 p.1 ne).trans e,n,ne,nf,d⟩
 ·have hfn:X.fn x = true:=by
   rcases hf with z | z
   ·exact z
   ·rw [z] at hk; cases hk
  obtain ⟨c,hc⟩:=I.ok.has x (.inl hk)
  obtain ⟨w',z⟩:=I.cell x c hc
  refine wpAny_storeName_cell I.ok.kind hk hc z (fun h' hc' hs=>?_)
  obtain ⟨oc,hoc,hocd⟩:=id z
  refine h { s with heap:=h' } ⟨I.ok,I.os,I.bare,⟨fun b o e n hb hx=>?_,fun b o e n hb hx=>?_,I.base.free,fun b o e hx=>?_,I.base.tups,I.base.frzs,I.base.tbls⟩,⟨m,hn.sameBut hs (Ne.symm (cne x c hc)),fun j y v' e1 e2 e3=>?_⟩,fun y c' e=>?_,I.free,I.freeC,fun p hp=>?_,tracked ⟨oc,hoc,I.freeC x c hc⟩ hs,by simpa using I.len⟩ ⟨c,hs,.inr hc⟩
  ·exact (hs.2 b (Nat.ne_of_lt (Nat.lt_of_lt_of_le (Heap.lt_size e) (I.ok.cab x c hfn hc)))).trans (I.base.keep b o e n hb hx)
  ·obtain ⟨sl,e1⟩:=I.base.slot b o e n hb hx
   exact ⟨sl,(hs.2 b (Nat.ne_of_lt (Nat.lt_of_lt_of_le (Heap.lt_size e) (I.ok.cab x c hfn hc)))).trans e1⟩
  ·obtain ⟨o',e1⟩:=I.base.there b o e hx
   exact ⟨o',(hs.2 b (Nat.ne_of_lt (Nat.lt_of_lt_of_le (Heap.lt_size e) (I.ok.cab x c hfn hc)))).trans e1⟩
  ·by_cases hj:j = i
   ·subst hj
    rw [hi] at e1; cases e1
    rw [List.getElem?_set_self hiσ] at e2
    cases e2
    exact ⟨u,r,.inr ⟨.inl hk,c,hc,hc'⟩⟩
   ·rw [List.getElem?_set_ne (Ne.symm hj)] at e2
    obtain ⟨u',r',q⟩:=hl j y v' e1 e2 e3
    refine ⟨u',r',?_⟩
    rcases q with q | ⟨k,c',e,z'⟩
    ·exact .inl q
    ·refine .inr ⟨k,c',e,z'.sameBut hs ?_⟩
     rintro rfl
     exact hj (nodup_ix hN e1 (I.ok.inj _ _ _ e hc ▸ hi))
  ·by_cases hcc:c' = c
   ·subst hcc; exact ⟨_,hc'⟩
   ·obtain ⟨w2,z2⟩:=I.cell y c' e
    exact ⟨w2,z2.sameBut hs hcc⟩
  ·obtain ⟨e,n,ne,nf,d⟩:=I.pin p hp
   refine ⟨(hs.2 p.1 ?_).trans e,n,ne,nf,d⟩
   intro q
   rw [q,hoc] at e
   have q':oc = p.2:=Option.some.inj e
   exact d w' (by rw [← q']; exact hocd)
theorem store_ok {M:Model} {A:Around} {E:Value→Shared→Prop} {i:Nat} {x:Str} {v:V} {u:Value} {Q:Unit→Shared→Prop} (I:Inv X pins σ H s) (hN:X.N.Nodup) (hi:X.N[i]? = some x) (hx:Loc X.env.scope x) (r:RelV v u)
  (h:∀ s',Inv X pins (σ.set i (some v)) H s'→Q () s') (hf:X.fn x = true∨X.env.scope.names.lookup x = some .local:=by first | exact .inl rfl | exact .inr rfl | assumption):wpAny M A (storeName X.env x u) Q E s :=
 store_ok2 I hN hi hx r (fun s' I' _=>h s' I') hf
theorem Inv.call' {s':Shared} {ch:List Addr} (I:Inv X pins σ H s) (ho:s'.os = s.os) (u:Un (frs X.stack) ch H H' s.heap s'.heap) (hok:HOk X.prog X.w H' s'.heap) (hg:AllBare s'.gens)
  (hch:∀ b∈ch,(b∈X.ex∨X.s₀.heap.objs.size≤b)∧b≠X.env.locals∧(∀ x c,X.env.cells.lookup x = some c→c≠b)∧∀ p∈X.pn ++ pins,p.1≠b):Inv X pins σ H' s':=by
 obtain ⟨h',g',d',t',o'⟩:=s'
 have e:o' = s.os:=ho
 subst e
 exact I.call (g':=g') (t':=t') (d':=d') u hok hg hch
end
abbrev XK:=Value→Option Addr→Hp→Prop
abbrev St:=List (Option V)
abbrev VK:=V→Hp→Prop
abbrev TE:=St→Hp→VK→Prop
abbrev TT:=St→Hp→(Bool→Hp→Prop)→Prop
abbrev TA:=St→Hp→(List V→Hp→Prop)→Prop
structure Ends where
 nx:St→Hp→Prop
 rt:VK
 bk:St→Hp→Prop:=fun _ _=>False
 ct:St→Hp→Prop:=fun _ _=>False
abbrev TS:=Ends→St→Hp→Prop
def EP (X:Cx) (pins:List (Addr×Obj)) (σ:St) (Q:VK) (u:Value) (s':Shared):Prop:=∃ v H',Inv X pins σ H' s'∧RelV v u∧Q v H'
def TP (X:Cx) (pins:List (Addr×Obj)) (σ:St) (Q:Bool→Hp→Prop) (b:Bool) (s':Shared):Prop:=∃ H',Inv X pins σ H' s'∧Q b H'
def AP (X:Cx) (pins:List (Addr×Obj)) (σ:St) (Q:List V→Hp→Prop) (us:List Value) (s':Shared):Prop:=∃ vs H',Inv X pins σ H' s'∧Vals vs us∧Q vs H'
def SP (X:Cx) (pins:List (Addr×Obj)) (D:Ends) (f:Flow) (s':Shared):Prop :=
 match f with
 | .next=>∃ σ' H',Inv X pins σ' H' s'∧D.nx σ' H'
 | .brk=>∃ σ' H',Inv X pins σ' H' s'∧D.bk σ' H'
 | .cont=>∃ σ' H',Inv X pins σ' H' s'∧D.ct σ' H'
 | .ret u=>∃ v σ' H',Inv X pins σ' H' s'∧RelV v u∧D.rt v H'
def PE (X:Cx) (e:Expr) (t:TE):Prop :=
 ∀ (pins:List (Addr×Obj)) (s:Shared) (σ:St) (H:Hp) (Q:VK),Inv X pins σ H s→t σ H Q→wpAny (model X.prog X.w) X.A (eval e X.env) (EP X pins σ Q) X.xe s
def PT (X:Cx) (e:Expr) (t:TT):Prop :=
 ∀ (pins:List (Addr×Obj)) (s:Shared) (σ:St) (H:Hp) (Q:Bool→Hp→Prop),Inv X pins σ H s→t σ H Q→wpAny (model X.prog X.w) X.A (isTrue e X.env (eval e X.env)) (TP X pins σ Q) X.xe s
def PW (X:Cx) (e:Expr) (t:TT):Prop :=
 ∀ (whole:Sem Value) (pins:List (Addr×Obj)) (s:Shared) (σ:St) (H:Hp) (Q:Bool→Hp→Prop),Inv X pins σ H s→t σ H Q→wpAny (model X.prog X.w) X.A (isTrue e X.env whole) (TP X pins σ Q) X.xe s
theorem PW.pt {X:Cx} {e:Expr} {t:TT} (h:PW X e t):PT X e t:=h _
def PA (X:Cx) (es:List Expr) (t:TA):Prop :=
 ∀ (pos:Pos) (pins:List (Addr×Obj)) (s:Shared) (σ:St) (H:Hp) (Q:List V→Hp→Prop),Inv X pins σ H s→t σ H Q→wpAny (model X.prog X.w) X.A (spliced (backTo pos (starEach es X.env))) (AP X pins σ Q) X.xe s
def PS (X:Cx) (st:Stmt) (t:TS):Prop :=
 ∀ (pins:List (Addr×Obj)) (s:Shared) (σ:St) (H:Hp) (D:Ends),Inv X pins σ H s→t D σ H→wpAny (model X.prog X.w) X.A (exec st X.env) (SP X pins D) X.xe s
def PSs (X:Cx) (st:List Stmt) (t:TS):Prop :=
 ∀ (pins:List (Addr×Obj)) (s:Shared) (σ:St) (H:Hp) (D:Ends),Inv X pins σ H s→t D σ H→wpAny (model X.prog X.w) X.A (execs st X.env) (SP X pins D) X.xe s
theorem thn {α:Type} {t:Sem α} {Q Q':α→Shared→Prop} {M:Model} {A:Around} {E:Value→Shared→Prop} {s:Shared} (h:wpAny M A t Q E s) (hQ:∀ a s,Q a s→Q' a s):wpAny M A t Q' E s:=wpAny_mono h hQ fun _ _ x=>x
end L2
namespace L2
open PySem PySem.Spec PyProof.Rows
section
variable {X:Cx}
theorem bin {a b:Expr} {ta tb:TE} (ha:PE X a ta) (hb:PE X b tb) {pins:List (Addr×Obj)} {s:Shared} {σ:St} {H:Hp} {R:V→V→Hp→Prop} (I:Inv X pins σ H s) (h:ta σ H fun x H1=>tb σ H1 fun y H2=>R x y H2)
  {α:Type} {Q:α→Shared→Prop} {f:Value→Value→Sem α}
  (hf:∀ v u s2 x y H2,Inv X pins σ H2 s2→RelV x v→RelV y u→R x y H2→wpAny (model X.prog X.w) X.A (f v u) Q X.xe s2) :
  wpAny (model X.prog X.w) X.A (eval a X.env) (fun v s₁=>wpAny (model X.prog X.w) X.A (eval b X.env) (fun u s₂=>wpAny (model X.prog X.w) X.A (f v u) Q X.xe s₂) X.xe s₁) X.xe s:=by
 refine thn (ha pins s σ H _ I h) fun v s1 ⟨x,H1,I1,r1,q1⟩=>?_
 refine thn (hb pins s1 σ H1 _ I1 q1) fun u s2 ⟨y,H2,I2,r2,q2⟩=>?_
 exact hf v u s2 x y H2 I2 r1 r2 q2
def tVar (i:Nat):TE:=fun σ H Q=>∃ v,σ[i]? = some (some v)∧Q v H
def tC (v:V):TE:=fun _ H Q=>Q v H
theorem pe_var {i:Nat} {x:Str} {pos:Pos} (hN:X.N[i]? = some x) (hv:Vis X.env.scope x) (hd:(x == ("__debug__":Str)) = false:=by decide) (hcd:(x == ("__classdict__":Str)) = false:=by decide):PE X (.Name x pos) (tVar i):=by
 intro pins s σ H Q I h
 obtain ⟨v,e,h⟩:=h
 obtain ⟨m,hn,hl⟩:=I.loc
 obtain ⟨u,r,l⟩:=hl i x v hN e hv
 have fin:EP X pins σ Q u s:=⟨v,H,I,r,h⟩
 rcases l with ⟨hk,hm⟩ | ⟨hk,c,hc,hcell⟩
 ·exact wpAny_Name (wpAny_loadName_local I.ok.kind hk hn hm fin) hd
 ·rcases hk with hk | hk
  ·exact wpAny_Name (wpAny_loadName_cell I.ok.kind hk hc hcell fin) hd
  ·exact wpAny_Name (wpAny_loadName_free I.ok.kind hk hc hcell fin hcd) hd
theorem pe_int {i j pos}:PE X (.Constant (.int i) j pos) (tC (.int i)):=fun _ _ _ H _ I h=>wpAny_Constant_int ⟨.int i,H,I.tok _,⟨_,rfl⟩,h⟩
theorem pe_bl {b j pos}:PE X (.Constant (.bool b) j pos) (tC (.bl b)):=fun _ _ _ H _ I h=>Constant_bool ⟨.bl b,H,I,rfl,h⟩
theorem pe_non {j pos}:PE X (.Constant .none j pos) (tC .non):=fun _ _ _ H _ I h=>Constant_none ⟨.non,H,I,rfl,h⟩
theorem pe_str {x j pos}:PE X (.Constant (.str x) j pos) (tC (.str x)):=fun _ _ _ H _ I h=>Calls.Constant_str ⟨.str x,H,I.tok _,⟨_,rfl⟩,h⟩
def Gl (X:Cx) (x:Str):Prop:=X.env.kindOf x = some .globalImplicit
theorem ld_glob {E:Value→Shared→Prop} {pins:List (Addr×Obj)} {s:Shared} {σ:St} {H:Hp} {x:Str} {u:Value} {pos:Pos} {Q:Value→Shared→Prop} (I:Inv X pins σ H s) (hg:Gl X x) (hm:X.mg x = some u) (h:Q u s)
  (hd:(x == ("__debug__":Str)) = false:=by decide):wpAny (model X.prog X.w) X.A (eval (.Name x pos) X.env) Q E s :=
 Calls.Name_function_global I.ok.kind hg (Calls.loadGlobal_global (by rw [I.ok.glob]; exact I.mod.glob.keeps I.bk) hm h) hd
theorem ld_blt {E:Value→Shared→Prop} {pins:List (Addr×Obj)} {s:Shared} {σ:St} {H:Hp} {x:Str} {u:Value} {pos:Pos} {Q:Value→Shared→Prop} (I:Inv X pins σ H s) (hg:Gl X x) (hm:X.mg x = none) (hv:bootBuiltins x = some u) (h:Q u s)
  (hn:x≠"__name__":=by decide) (hd:(x == ("__debug__":Str)) = false:=by decide):wpAny (model X.prog X.w) X.A (eval (.Name x pos) X.env) Q E s:=by
 obtain ⟨mb,h1,h2⟩:=I.mod.blt
 exact Calls.Name_function_global I.ok.kind hg (Calls.loadGlobal_builtin (by rw [I.ok.glob]; exact I.mod.glob.keeps I.bk) hm (by rw [I.ok.blt]; exact h1.keeps I.bk) ((h2 x hn).trans hv) h) hd
theorem pe_glob {x:Str} {v:V} {u:Value} {pos:Pos} (hg:Gl X x) (hm:X.mg x = some u) (r:RelV v u) (hd:(x == ("__debug__":Str)) = false:=by decide):PE X (.Name x pos) (tC v) :=
 fun _ _ _ H _ I h=>ld_glob I hg hm ⟨v,H,I,r,h⟩ hd
theorem pe_bltn {x:Str} {v:V} {u:Value} {pos:Pos} (hg:Gl X x) (hm:X.mg x = none) (hv:bootBuiltins x = some u) (r:RelV v u) (hn:x≠"__name__":=by decide) (hd:(x == ("__debug__":Str)) = false:=by decide):PE X (.Name x pos) (tC v) :=
 fun _ _ _ H _ I h=>ld_blt I hg hm hv ⟨v,H,I,r,h⟩ hn hd
variable {a b:Expr} {ta tb:TE} {pos:Pos}
def PC (X:Cx) (op:CmpOp) (a b:Expr) (t:TE):Prop :=
 ∀ (pins:List (Addr×Obj)) (s:Shared) (σ:St) (H:Hp) (Q:VK),Inv X pins σ H s→t σ H Q →
  wpAny (model X.prog X.w) X.A (eval a X.env) (fun v s₁=>wpAny (model X.prog X.w) X.A (eval b X.env) (fun u s₂=>wpAny (model X.prog X.w) X.A (compareOp op v u) (EP X pins σ Q) X.xe s₂) X.xe s₁) X.xe s
def tB (t:TE):TT:=fun σ H Q=>t σ H fun x H1=>∃ c,x = .bl c∧Q c H1
theorem pt_cmp {op:CmpOp} {t:TE} (h:PC X op a b t) (h1:behindInMarks op b = false:=by first | exact nobehind _ (by decide) (by decide) | rfl):PT X (.Compare a [op] [b] pos) (tB t):=by
 intro pins s σ H Q I hw
 refine wpAny_isTrue_Compare1 (thn (h pins s σ H _ I hw) fun v s1 h1=>thn h1 fun u s2 h2=>thn h2 fun c s3 ⟨x,H1,I1,r1,q1⟩=>?_) h1
 obtain ⟨d,rfl,q⟩:=q1
 cases r1
 exact wpAny_truthy_bool ⟨H1,I1,q⟩
theorem pt_val {e:Expr} {t:TE} (h:PE X e t) (he:∀ whole,isTrue e X.env whole = (do let v ← whole; standAt e.pos; holding [v] (truthy v)):=by intro _; rfl):PT X e (tB t):=by
 intro pins s σ H Q I hw
 refine isTrue_plain (thn (h pins s σ H _ I hw) fun v s1 ⟨x,H1,I1,r1,q1⟩=>?_) (he _)
 obtain ⟨d,rfl,q⟩:=q1
 cases r1
 exact wpAny_truthy_bool ⟨H1,I1,q⟩
variable {tA tB':TT} {rest:List Expr}
def tAnd (t u:TT):TT:=fun σ H Q=>t σ H fun c H1=>if c = true then u σ H1 Q else Q false H1
def tOr (t u:TT):TT:=fun σ H Q=>t σ H fun c H1=>if c = true then Q true H1 else u σ H1 Q
def tNot (t:TT):TT:=fun σ H Q=>t σ H fun c H1=>Q (!c) H1
theorem pw_and1 (ha:PT X a tA):PW X (.BoolOp .And [a] pos) tA:=by
 intro wh pins s σ H Q I h
 refine isTrue_and (thn (ha pins s σ H Q I h) fun c s1 e=>?_)
 cases c with
 | true=>exact isTrue_and_nil e
 | false=>exact e
theorem pw_or1 (ha:PT X a tA):PW X (.BoolOp .Or [a] pos) tA:=by
 intro wh pins s σ H Q I h
 refine isTrue_or (thn (ha pins s σ H Q I h) fun c s1 e=>?_)
 cases c with
 | false=>exact isTrue_or_nil e
 | true=>exact e
theorem pw_and (ha:PT X a tA) (hb:PW X (.BoolOp .And (b :: rest) pos) tB'):PW X (.BoolOp .And (a :: b :: rest) pos) (tAnd tA tB'):=by
 intro wh pins s σ H Q I h
 refine isTrue_and (thn (ha pins s σ H _ I h) fun c s1 ⟨H1,I1,q1⟩=>?_)
 cases c with
 | true=>exact hb wh pins s1 σ H1 Q I1 q1
 | false=>exact ⟨H1,I1,q1⟩
theorem pw_or (ha:PT X a tA) (hb:PW X (.BoolOp .Or (b :: rest) pos) tB'):PW X (.BoolOp .Or (a :: b :: rest) pos) (tOr tA tB'):=by
 intro wh pins s σ H Q I h
 refine isTrue_or (thn (ha pins s σ H _ I h) fun c s1 ⟨H1,I1,q1⟩=>?_)
 cases c with
 | true=>exact ⟨H1,I1,q1⟩
 | false=>exact hb wh pins s1 σ H1 Q I1 q1
theorem pt_not (ha:PT X a tA):PT X (.UnaryOp .Not a pos) (tNot tA):=by
 intro pins s σ H Q I h
 exact isTrue_not (ha pins s σ H (fun c H1=>Q (!c) H1) I h)
def tAndV (ta tb:TE):TE:=fun σ H Q=>ta σ H fun x H1=>∃ c,x = .bl c∧if c = true then tb σ H1 Q else Q (.bl false) H1
def tNotV (ta:TE):TE:=fun σ H Q=>ta σ H fun x H1=>∃ c,x = .bl c∧Q (.bl (!c)) H1
theorem pe_one {op} {t:TE} (h:PE X a t):PE X (.BoolOp op [a] pos) t:=fun pins s σ H Q I hw=>BoolOp_one (h pins s σ H Q I hw)
theorem pe_and (ha:PE X a ta) (hb:PE X (.BoolOp .And (b :: rest) pos) tb):PE X (.BoolOp .And (a :: b :: rest) pos) (tAndV ta tb):=by
 intro pins s σ H Q I h
 refine BoolOp_and (thn (ha pins s σ H _ I h) fun v s1 ⟨x,H1,I1,r1,q1⟩=>?_)
 obtain ⟨c,rfl,q1⟩:=q1
 cases r1
 refine wpAny_truthy_bool ?_
 cases c with
 | true=>exact hb pins s1 σ H1 Q I1 q1
 | false=>exact ⟨.bl false,H1,I1,rfl,q1⟩
theorem pe_not (ha:PE X a ta):PE X (.UnaryOp .Not a pos) (tNotV ta):=by
 intro pins s σ H Q I h
 refine UnaryOp_ (thn (ha pins s σ H _ I h) fun v s1 ⟨x,H1,I1,r1,q1⟩=>?_)
 obtain ⟨c,rfl,q1⟩:=q1
 cases r1
 exact not_of (wpAny_truthy_bool ⟨.bl (!c),H1,I1,rfl,q1⟩)
def tIf (t:TT) (ta tb:TE):TE:=fun σ H Q=>t σ H fun c H1=>if c = true then ta σ H1 Q else tb σ H1 Q
theorem pe_ifExp {c:Expr} (hc:PT X c tA) (ha:PE X a ta) (hb:PE X b tb):PE X (.IfExp c a b pos) (tIf tA ta tb):=by
 intro pins s σ H Q I h
 refine wpAny_IfExp (thn (hc pins s σ H _ I h) fun d s1 ⟨H1,I1,q1⟩=>?_)
 cases d with
 | true=>exact ha pins s1 σ H1 Q I1 q1
 | false=>exact hb pins s1 σ H1 Q I1 q1
end
end L2
namespace L2
open PySem PySem.Spec PyProof.Rows
def SqL (K:PySem.W.Frag) (H:Hp) (a:Addr) (xs:List V):Prop :=
 Rd H a (.lst xs) ∨
  ∃ (o:Obj) (its:Array Value) (n:Nat),K.lookup a = some o∧o.cls = .type "list"∧o.dict = none∧o.data = .seq its n∧its.size≤sizeLine∧Vals xs its.toList
def SqT (K:PySem.W.Frag) (H:Hp) (a:Addr) (xs:List V):Prop :=
 Rd H a (.tup xs) ∨
  ∃ (o:Obj) (its:Array Value) (n:Nat),K.lookup a = some o∧o.cls = .type "tuple"∧o.data = .seq its n∧its.size≤sizeLine∧Vals xs its.toList
def absV:Value→Option V
 | .none=>some .non
 | .bool b=>some (.bl b)
 | .int i _=>some (.int i)
 | .str x _=>some (.str x)
 | .bytes b _=>some (.byt b)
 | .float b _=>some (.flt b)
 | .ref a=>some (.ref a)
 | .type n=>some (.ty n)
 | _=>none
theorem RelV.abs {x:V} {u:Value} (r:RelV x u):absV u = some x:=by
 cases x with
 | non=>cases r; rfl
 | bl _=>cases r; rfl
 | int _=>obtain ⟨t,rfl⟩:=r; rfl
 | str _=>obtain ⟨t,rfl⟩:=r; rfl
 | byt _=>obtain ⟨t,rfl⟩:=r; rfl
 | flt _=>obtain ⟨t,rfl⟩:=r; rfl
 | ref _=>cases r; rfl
 | ty _=>cases r; rfl
theorem RelV.inj {x y:V} {u:Value} (r:RelV x u) (q:RelV y u):x = y:=Option.some.inj (r.abs.symm.trans q.abs)
theorem Vals.inj:∀ {xs ys:List V} {us:List Value},Vals xs us→Vals ys us→xs = ys
 | _,_,_,.nil,.nil=>rfl
 | _,_,_,.cons r t,.cons r' t'=>by rw [r.inj r',Vals.inj t t']
section
variable {X:Cx} {pins:List (Addr×Obj)} {σ:St} {H:Hp} {s:Shared} {a:Addr} {xs ys:List V}
theorem SqL.of {K:PySem.W.Frag} (h:H a = some (.lst xs)):SqL K H a xs:=.inl (.inl h)
theorem SqT.of {K:PySem.W.Frag} (h:H a = some (.tup xs)):SqT K H a xs:=.inl (.inl h)
theorem Inv.list (I:Inv X pins σ H s) (h:SqL X.K H a xs):∃ its:List Value,Vals xs its∧PlainL s.heap a its.toArray∧xs.length≤sizeLine:=by
 rcases h with h | ⟨o,its,n,hk,hc,hd,hs,hz,r⟩
 ·obtain ⟨z,its,n,r,e⟩:=h.ok I.hok
  exact ⟨its,r,⟨_,n,e,rfl,rfl,rfl⟩,z⟩
 ·refine ⟨its.toList,r,⟨o,n,I.kIn a o hk,hc,hd,by simpa using hs⟩,?_⟩
  have e:=r.length
  simp only [Array.length_toList] at e
  omega
theorem Inv.tuple (I:Inv X pins σ H s) (h:SqT X.K H a xs):∃ its:List Value,Vals xs its∧IsTup s.heap a its.toArray∧xs.length≤sizeLine:=by
 rcases h with h | ⟨o,its,n,hk,hc,hs,hz,r⟩
 ·obtain ⟨z,its,r,p⟩:=h.ok I.hok
  exact ⟨its,r,p,z⟩
 ·refine ⟨its.toList,r,⟨o,I.kIn a o hk,hc,n,by simpa using hs⟩,?_⟩
  have e:=r.length
  simp only [Array.length_toList] at e
  omega
theorem Inv.list_inj (I:Inv X pins σ H s) (h:SqL X.K H a xs) (h':SqL X.K H a ys):xs = ys:=by
 obtain ⟨its,r,⟨o,n,e,_,_,d⟩,_⟩:=I.list h
 obtain ⟨its',r',⟨o',n',e',_,_,d'⟩,_⟩:=I.list h'
 rw [e] at e'; cases e'
 rw [d] at d'
 injection d' with d1 _
 have:its = its':=by simpa using congrArg Array.toList d1
 subst this
 exact r.inj r'
theorem Inv.tuple_inj (I:Inv X pins σ H s) (h:SqT X.K H a xs) (h':SqT X.K H a ys):xs = ys:=by
 obtain ⟨its,r,⟨o,e,_,n,d⟩,_⟩:=I.tuple h
 obtain ⟨its',r',⟨o',e',_,n',d'⟩,_⟩:=I.tuple h'
 rw [e] at e'; cases e'
 rw [d] at d'
 injection d' with d1 _
 have:its = its':=by simpa using congrArg Array.toList d1
 subst this
 exact r.inj r'
end
abbrev Cx.wish (X:Cx) (E:Value→Shared→Prop):Cx:={ X with xe:=E }
abbrev Cx.nox (X:Cx):Cx:=X.wish fun _ _=>False
theorem Cx.Ok.wish {X:Cx} (ok:X.Ok) (E:Value→Shared→Prop):(X.wish E).Ok :=
 ⟨ok.mod,ok.kind,ok.glob,ok.blt,ok.above,ok.inj,ok.has,ok.cab,ok.hd,ok.frames,ok.stk,ok.exf,ok.bs,ok.bsz,ok.noex,ok.exfs,ok.funs,ok.frf⟩
theorem Cx.Ok.unwish {X:Cx} {E:Value→Shared→Prop} (ok:(X.wish E).Ok):X.Ok :=
 ⟨ok.mod,ok.kind,ok.glob,ok.blt,ok.above,ok.inj,ok.has,ok.cab,ok.hd,ok.frames,ok.stk,ok.exf,ok.bs,ok.bsz,ok.noex,ok.exfs,ok.funs,ok.frf⟩
section
variable {X:Cx} {pins:List (Addr×Obj)} {σ:St} {H:Hp} {s:Shared} {E:Value→Shared→Prop}
theorem Inv.wish (I:Inv X pins σ H s) (E:Value→Shared→Prop):Inv (X.wish E) pins σ H s:=⟨I.ok.wish E,I.os,I.bare,I.base,I.loc,I.cell,I.free,I.freeC,I.pin,I.hok,I.len⟩
theorem Inv.unwish (I:Inv (X.wish E) pins σ H s):Inv X pins σ H s:=⟨I.ok.unwish,I.os,I.bare,I.base,I.loc,I.cell,I.free,I.freeC,I.pin,I.hok,I.len⟩
theorem SP.unwish {D:Ends} {f:Flow} {s':Shared} (h:SP (X.wish E) pins D f s'):SP X pins D f s':=by
 cases f with
 | next=>obtain ⟨σ',H',I,q⟩:=h; exact ⟨σ',H',I.unwish,q⟩
 | brk=>obtain ⟨σ',H',I,q⟩:=h; exact ⟨σ',H',I.unwish,q⟩
 | cont=>obtain ⟨σ',H',I,q⟩:=h; exact ⟨σ',H',I.unwish,q⟩
 | ret u=>obtain ⟨v,σ',H',I,r,q⟩:=h; exact ⟨v,σ',H',I.unwish,r,q⟩
theorem PSs.nox {st:List Stmt} {t:TS} (h:PSs X.nox st t):PSs X st t:=fun pins s σ H D I hw =>
 wpAny_mono (h pins s σ H D (I.wish _) hw) (fun _ _ q=>q.unwish) fun _ _ z=>False.elim z
end
section
variable {X:Cx} {st:Stmt} {rest:List Stmt} {t u:TS} {e:Expr} {te:TE} {pos:Pos}
def tNext:TS:=fun D σ H=>D.nx σ H
def tSeq (t u:TS):TS:=fun D σ H=>t { D with nx:=u D } σ H
theorem pss_nil:PSs X [] tNext:=fun _ _ σ H _ I h=>wpAny_execs_nil ⟨σ,H,I,h⟩
theorem pss_cons (h1:PS X st t) (h2:PSs X rest u):PSs X (st :: rest) (tSeq t u):=by
 intro pins s σ H D I h
 refine wpAny_execs_cons (thn (h1 pins s σ H { D with nx:=u D } I h) fun f s1 q=>?_)
 cases f with
 | next =>
  obtain ⟨σ',H',I',q⟩:=q
  exact h2 pins s1 σ' H' D I' q
 | ret v=>exact q
 | brk=>exact q
 | cont=>exact q
theorem pss_one (h1:PS X st t):PSs X [st] t:=by
 intro pins s σ H D I h
 refine wpAny_execs_cons (thn (h1 pins s σ H D I h) fun f s1 q=>?_)
 cases f with
 | next=>exact wpAny_execs_nil q
 | ret v=>exact q
 | brk=>exact q
 | cont=>exact q
theorem Inv.quiet {pins:List (Addr×Obj)} {σ:St} {H:Hp} {s:Shared} (I:Inv X pins σ H s):interactive X.env = false:=by simp [interactive,I.ok.kind]
def tDrop (te:TE):TS:=fun D σ H=>te σ H fun _ H1=>D.nx σ H1
theorem ps_expr (he:PE X e te) (hs:swapsWith e none pos.line X.env = pure false:=by rfl):PS X (.Expr e pos) (tDrop te):=by
 intro pins s σ H D I h
 exact wpAny_Expr_any (thn (he pins s σ H _ I h) fun v s1 ⟨x,H1,I1,r1,q1⟩=>⟨σ,H1,I1,q1⟩) I.quiet hs
def tRet (te:TE):TS:=fun D σ H=>te σ H D.rt
theorem ps_ret (he:PE X e te):PS X (.Return (some e) pos) (tRet te):=by
 intro pins s σ H D I h
 exact wpAny_Return_some (thn (he pins s σ H _ I h) fun v s1 ⟨x,H1,I1,r1,q1⟩=>⟨x,σ,H1,I1,r1,q1⟩)
def tIfS (c:TT) (t u:TS):TS:=fun D σ H=>c σ H fun b H1=>if b = true then t D σ H1 else u D σ H1
theorem ps_if {c:Expr} {a b:List Stmt} {tc:TT} (hc:PT X c tc) (ha:PSs X a t) (hb:PSs X b u):PS X (.If c a b pos) (tIfS tc t u):=by
 intro pins s σ H D I h
 refine wpAny_If (thn (hc pins s σ H _ I h) fun d s1 ⟨H1,I1,q1⟩=>?_)
 cases d with
 | true=>exact ha pins s1 σ H1 D I1 q1
 | false=>exact hb pins s1 σ H1 D I1 q1
end
abbrev TG:=V→St→Hp→(St→Hp→Prop)→Prop
abbrev TGs:=List V→St→Hp→(St→Hp→Prop)→Prop
def PG (X:Cx) (target:Expr) (t:TG):Prop :=
 ∀ (pins:List (Addr×Obj)) (s:Shared) (σ:St) (H:Hp) (v:V) (u:Value) (Q:St→Hp→Prop),Inv X pins σ H s→RelV v u→t v σ H Q →
  wpAny (model X.prog X.w) X.A (assign target X.env u) (fun _ s'=>∃ σ' H',Inv X pins σ' H' s'∧Q σ' H') X.xe s
def PGs (X:Cx) (ts:List Expr) (t:TGs):Prop :=
 ∀ (pins:List (Addr×Obj)) (s:Shared) (σ:St) (H:Hp) (vs:List V) (us:List Value) (Q:St→Hp→Prop),Inv X pins σ H s→Vals vs us→t vs σ H Q →
  wpAny (model X.prog X.w) X.A (assignInOrder ((assignEach ts X.env).map (·.2)) us) (fun _ s'=>∃ σ' H',Inv X pins σ' H' s'∧Q σ' H') X.xe s
section
variable {X:Cx} {pos:Pos}
def gName (i:Nat):TG:=fun v σ H Q=>Q (σ.set i (some v)) H
theorem pg_name {i:Nat} {x:Str} (hN:X.N.Nodup) (hi:X.N[i]? = some x) (hx:Loc X.env.scope x) (hf:X.fn x = true∨X.env.scope.names.lookup x = some .local:=by first | exact .inl rfl | exact .inr rfl | assumption):PG X (.Name x pos) (gName i):=by
 intro pins s σ H v u Q I r h
 exact wpAny_assign_Name (store_ok I hN hi hx r (fun s' I'=>⟨_,H,I',h⟩) hf)
def gNil:TGs:=fun vs σ H Q=>vs = []∧Q σ H
def gCons (t:TG) (u:TGs):TGs:=fun vs σ H Q=>∃ v r,vs = v :: r∧t v σ H fun σ' H'=>u r σ' H' Q
theorem pgs_nil:PGs X [] gNil:=by
 intro pins s σ H vs us Q I r h
 obtain ⟨e,h⟩:=h
 subst e
 cases r
 exact assignInOrder_nil ⟨σ,H,I,h⟩
theorem pgs_cons {e:Expr} {es:List Expr} {t:TG} {u:TGs} (h1:PG X e t) (h2:PGs X es u)
  (hs:(assignEach (e :: es) X.env).map (·.2) = assign e X.env :: (assignEach es X.env).map (·.2):=by rfl):PGs X (e :: es) (gCons t u):=by
 intro pins s σ H vs us Q I r h
 obtain ⟨v,vr,e1,h⟩:=h
 subst e1
 cases r with
 | cons r rr =>
  rw [hs]
  refine assignInOrder_cons (thn (h1 pins s σ H _ _ _ I r h) fun _ s1 ⟨σ1,H1,I1,q1⟩=>?_)
  exact h2 pins s1 σ1 H1 _ _ Q I1 rr q1
def gTup (K:PySem.W.Frag) (n:Nat) (t:TGs):TG:=fun v σ H Q=>∃ a xs,v = .ref a∧SqT K H a xs∧xs.length = n∧t xs σ H Q
theorem pg_tup {es:List Expr} {k:Nat} {t:TGs} {n:Nat} (hc:X.calm = true) (h:PGs X es t)
  (hn:(assignEach es X.env).length = n:=by rfl) (hst:(assignEach es X.env).findIdx? (·.1) = none:=by rfl):PG X (.Tuple es k pos) (gTup X.K n t):=by
 intro pins s σ H v u Q I r hw
 obtain ⟨a,xs,e1,hq,hl,hw⟩:=hw
 subst e1
 cases r
 obtain ⟨its,rv,ht,hz⟩:=I.tuple hq
 refine assign_Tuple_tuple (I.ok.hd hc) ht (by simp [hn,← hl,rv.length]) hst fun h' hx=>?_
 have I1:Inv X pins σ H { s with heap:=h' }:=I.kept (t':=s.toks) fun b o e=>hx b o (Nat.ne_of_lt (Heap.lt_size e)) e
 exact h pins _ σ H xs _ Q I1 (by simpa using rv) hw
def tAsg (te:TE) (g:TG):TS:=fun D σ H=>te σ H fun x H1=>g x σ H1 D.nx
theorem ps_set {i:Nat} {x:Str} {e:Expr} {te:TE} {pos':Pos} (hN:X.N.Nodup) (hi:X.N[i]? = some x) (hx:Loc X.env.scope x) (he:PE X e te) (hs:swapsWith e (some (.Name x pos')) pos.line X.env = pure false:=by rfl) (hf:X.fn x = true∨X.env.scope.names.lookup x = some .local:=by first | exact .inl rfl | exact .inr rfl | assumption) :
  PS X (.Assign [.Name x pos'] e pos) (tAsg te (gName i)):=by
 intro pins s σ H D I h
 refine wpAny_Assign_Name (thn (he pins s σ H _ I h) fun v s1 ⟨y,H1,I1,r1,q1⟩=>?_) hs
 exact store_ok I1 hN hi hx r1 (fun s2 I2=>⟨_,H1,I2,q1⟩) hf
end
section
variable {X:Cx} {pos:Pos}
def tWhile (c:TT) (tb:TS):TS:=fun D σ H=>∃ W:Nat→St→Hp→Prop,(∃ m,W m σ H)∧∀ m σ H,W m σ H →
 c σ H fun b H1=>if b = true then ∃ N:St→Hp→Prop,(∀ σ' H',N σ' H'→∃ m',m' < m∧W m' σ' H')∧tb { D with nx:=N,ct:=N,bk:=D.nx } σ H1 else D.nx σ H1
theorem ps_while {c:Expr} {body:List Stmt} {tc:TT} {tb:TS} (hp:PassesOwn (model X.prog X.w) X.A X.env X.xe) (hc:PT X c tc) (hb:PSs X body tb):PS X (.While c body [] pos) (tWhile tc tb):=by
 intro pins s σ H D I h
 obtain ⟨W,⟨m0,w0⟩,turn⟩:=h
 refine wpAny_While (codeAny_whileLoop (fun n s'=>∃ σ' H',Inv X pins σ' H' s'∧W n σ' H') ?_ m0 ⟨σ,H,I,w0⟩)
 rintro n s1 ⟨σ1,H1,I1,w1⟩
 refine wpAny_passesOwn hp (thn (hc pins s1 σ1 H1 _ I1 (turn n σ1 H1 w1)) fun b s2 ⟨H2,I2,q2⟩=>?_)
 cases b with
 | true =>
  obtain ⟨N,hN,q2⟩:=q2
  rw [if_pos rfl]
  refine wpAny_passesOwn hp (thn (hb pins s2 σ1 H2 _ I2 q2) fun f s3 q3=>?_)
  cases f with
  | next =>
   obtain ⟨σ3,H3,I3,n3⟩:=q3
   obtain ⟨m',hm,w3⟩:=hN σ3 H3 n3
   exact ⟨m',hm,σ3,H3,I3,w3⟩
  | cont =>
   obtain ⟨σ3,H3,I3,n3⟩:=q3
   obtain ⟨m',hm,w3⟩:=hN σ3 H3 n3
   exact ⟨m',hm,σ3,H3,I3,w3⟩
  | brk=>exact q3
  | ret v=>exact q3
 | false =>
  rw [if_neg Bool.false_ne_true]
  exact wpAny_execs_nil ⟨σ1,H2,I2,q2⟩
end
structure It where
 go:Nat→Hp→Prop
 yld:Nat→Hp→V→Hp→Prop
 stop:Nat→Hp→Prop
def FpOk (X:Cx) (pins:List (Addr×Obj)) (H:Hp) (b:Addr):Prop :=
 H b = none∧b≠X.env.locals∧b∉X.fs∧(b∈X.ex∨X.s₀.heap.objs.size≤b)∧(∀ x c,X.env.cells.lookup x = some c→c≠b)∧∀ p∈X.pn ++ pins,p.1≠b
theorem Inv.fpOk {X:Cx} {pins:List (Addr×Obj)} {σ:St} {H H':Hp} {s:Shared} {b:Addr} (I:Inv X pins σ H s) (hb:s.heap.objs.size≤b) (hn:H' b = none):FpOk X pins H' b:=by
 refine ⟨hn,Nat.ne_of_gt (Nat.lt_of_lt_of_le I.lt hb),I.nofs hb,.inr (Nat.le_trans I.sz hb),fun x c e z=>?_,fun p hp z=>?_⟩
 ·obtain ⟨v,q⟩:=I.cell x c e
  exact absurd (Nat.lt_of_lt_of_le q.lt (by rw [z]; exact hb)) (Nat.lt_irrefl _)
 ·exact absurd (Nat.lt_of_lt_of_le (Heap.lt_size (I.pin p hp).1) (by rw [z]; exact hb)) (Nat.lt_irrefl _)
structure Turn (P:Program) (w:World) (K:PySem.W.Frag) (tg:Expr) (J:It) (fp:List Addr) (it:Addr) (tn:Nat→Heap→Prop):Prop where
 mem:it∈fp
 obj:∀ i h,tn i h→∀ b∈fp,∃ o,h.get? b = some o∧∀ v,o.data≠.cell v
 keep:∀ i h h',tn i h→(∀ b∈fp,∀ o,h.get? b = some o→h'.get? b = some o)→tn i h'
 item:∀ (X:Cx),X.prog = P→X.w = w→X.K = K→X.calm = true→∀ (i:Nat) (pins:List (Addr×Obj)) (s:Shared) (σ:St) (H:Hp) (E:Value→Shared→Prop),Inv X pins σ H s→(∀ b∈fp,FpOk X pins H b)→tn i s.heap→J.go i H →
  wpAny (model P w) X.A (pyNext (.ref it)) (fun r s1=>∃ u,r = some u ∧
   wpAny (model P w) X.A (letOwnedTupleGo tg (.ref it) u) (fun _ s2=>∃ x H',Inv X pins σ H' s2∧RelV x u∧J.yld i H x H'∧tn (i + 1) s2.heap∧∀ b∈fp,H' b = none) E s1) E s
 done:∀ (X:Cx),X.prog = P→X.w = w→X.K = K→X.calm = true→∀ (i:Nat) (pins:List (Addr×Obj)) (s:Shared) (σ:St) (H:Hp) (E:Value→Shared→Prop),Inv X pins σ H s→(∀ b∈fp,FpOk X pins H b)→tn i s.heap→J.stop i H →
  wpAny (model P w) X.A (pyNext (.ref it)) (fun r s1=>r = none∧Inv X pins σ H s1) E s
 self:∀ (A:Around) (i:Nat) (s:Shared) (Q:Value→Shared→Prop) (E:Value→Shared→Prop),tn i s.heap→Q (.ref it) s→wpAny (model P w) A (pyIter (.ref it)) Q E s
abbrev TI:=St→Hp→(It→Hp→Prop)→Prop
def PIE (X:Cx) (pins:List (Addr×Obj)) (σ:St) (tg:Expr) (R:It→Hp→Prop) (itv:Value) (s2:Shared):Prop :=
 ∃ (it:Addr) (fp:List Addr) (tn:Nat→Heap→Prop) (J:It) (H':Hp),itv = .ref it∧Inv X pins σ H' s2∧Turn X.prog X.w X.K tg J fp it tn∧tn 0 s2.heap∧(∀ b∈fp,FpOk X pins H' b)∧R J H'
def PI (X:Cx) (tg iter:Expr) (wi:TI):Prop :=
 ∀ (pins:List (Addr×Obj)) (s:Shared) (σ:St) (H:Hp) (R:It→Hp→Prop),Inv X pins σ H s→wi σ H R →
  wpAny (model X.prog X.w) X.A (eval iter X.env) (fun v s1=>wpAny (model X.prog X.w) X.A (pyIter v) (PIE X pins σ tg R) X.xe s1) X.xe s
theorem go_of {M : Model} {A : Around} {E : Value → Shared → Prop} {s : Shared} {tg : Expr} {it : Addr} {u : Value} {o : Obj} {n : String} {vs : Array Value} {Q : Unit → Shared → Prop} (ho : s.heap.get? it = some o) (hc : o.cls = .type n) (hd : o.data = .fields vs)
    (hn : ["enumerate", "zip", "dict_itemiterator", "dict_reverseitemiterator", "odict_iterator", "itertools.zip_longest", "itertools.pairwise"].contains n = false) (hQ : Q () s) : wpAny M A (letOwnedTupleGo tg (.ref it) u) Q E s := by
  unfold letOwnedTupleGo
  cases tg <;> first
    | exact wpAny_pure hQ
    | (cases u <;> first
        | exact wpAny_pure hQ
        | (refine wpAny_bind (wpAny_load ho ?_)
           rw [hc, hd]
           show wpAny M A (if (["enumerate", "zip", "dict_itemiterator", "dict_reverseitemiterator", "odict_iterator", "itertools.zip_longest", "itertools.pairwise"].contains n && vs[0]? == some (rawInt _)) = true then _ else _) Q E s
           rw [if_neg (by intro h; rw [hn, Bool.false_and] at h; cases h)]
           exact wpAny_pure hQ))
def Itl (K:PySem.W.Frag) (a:Addr):It :=
 ⟨fun i H=>∃ xs x,SqL K H a xs∧xs[i]? = some x,fun i H x H'=>H' = H∧∀ xs,SqL K H a xs→xs[i]? = some x,fun i H=>∃ xs,SqL K H a xs∧xs.length≤i⟩
def Itt (K:PySem.W.Frag) (a:Addr):It :=
 ⟨fun i H=>∃ xs x,SqT K H a xs∧xs[i]? = some x,fun i H x H'=>H' = H∧∀ xs,SqT K H a xs→xs[i]? = some x,fun i H=>∃ xs,SqT K H a xs∧xs.length≤i⟩
def Itr (lo:Int) (n:Nat):It:=⟨fun i _=>i < n,fun i H x H'=>H' = H∧x = .int (lo + i),fun i _=>n≤i⟩
theorem turn_list {P:Program} {w:World} {K:PySem.W.Frag} {tg:Expr} (a it:Addr):Turn P w K tg (Itl K a) [it] it (fun i h=>h.IsListIter it a i) where
 mem:=by simp
 obj:=fun i h st b hb=>by
  have e:b = it:=by simpa using hb
  subst e
  obtain ⟨o,e,c,d⟩:=st
  exact ⟨o,e,fun v z=>by rw [d] at z; cases z⟩
 keep:=fun i h h' st k=>st.at fun o e=>k it (by simp) o e
 item:=by
  intro X hP hw hK hc i pins s σ H E I hf st hg
  subst hP hw hK
  obtain ⟨xs,x,hq,hx⟩:=hg
  obtain ⟨its,rv,p,hz⟩:=I.list hq
  obtain ⟨u,hu,ru⟩:=rv.get hx
  obtain ⟨f0,f1,f2,f3,f4,f5⟩:=hf it (by simp)
  refine wpAny_pyNext_list_item st p.isList (x:=u) (by simpa using hu) fun h' st' sb=>?_
  have I1:Inv X pins σ H { s with heap:=h' }:=I.turned (t':=s.toks) (fun b o hb e=>(sb.2 b hb).trans e) f0 f1 f3 f4 f5
  obtain ⟨o,e,c,d⟩:=id st'
  exact ⟨u,rfl,go_of (s:={ s with heap:=h' }) e c d (by decide) ⟨x,H,I1,ru,⟨rfl,fun ys hy=>by rw [I.list_inj hy hq]; exact hx⟩,st',fun b hb=>(hf b hb).1⟩⟩
 done:=by
  intro X hP hw hK hc i pins s σ H E I hf st hg
  subst hP hw hK
  obtain ⟨xs,hq,hx⟩:=hg
  obtain ⟨its,rv,p,hz⟩:=I.list hq
  obtain ⟨f0,f1,f2,f3,f4,f5⟩:=hf it (by simp)
  have hl:=rv.length
  exact wpAny_pyNext_list_end (I.ok.hd hc) st p.isList (by simp; omega) fun h' eb=>⟨rfl,I.turned (t':=s.toks) (fun b o hb e=>eb b o hb e) f0 f1 f3 f4 f5⟩
 self:=fun _ _ _ _ _ st h=>wpAny_pyIter_listiter st h
theorem turn_tuple {P:Program} {w:World} {K:PySem.W.Frag} {tg:Expr} (a it:Addr):Turn P w K tg (Itt K a) [it] it (fun i h=>h.IsTupleIter it a i) where
 mem:=by simp
 obj:=fun i h st b hb=>by
  have e:b = it:=by simpa using hb
  subst e
  obtain ⟨o,e,c,d⟩:=st
  exact ⟨o,e,fun v z=>by rw [d] at z; cases z⟩
 keep:=fun i h h' st k=>st.at fun o e=>k it (by simp) o e
 item:=by
  intro X hP hw hK hc i pins s σ H E I hf st hg
  subst hP hw hK
  obtain ⟨xs,x,hq,hx⟩:=hg
  obtain ⟨its,rv,p,hz⟩:=I.tuple hq
  obtain ⟨u,hu,ru⟩:=rv.get hx
  obtain ⟨f0,f1,f2,f3,f4,f5⟩:=hf it (by simp)
  refine wpAny_pyNext_tuple_item st (show s.heap.IsTuple a its.toArray from p) (x:=u) (by simpa using hu) fun h' st' sb=>?_
  have I1:Inv X pins σ H { s with heap:=h' }:=I.turned (t':=s.toks) (fun b o hb e=>(sb.2 b hb).trans e) f0 f1 f3 f4 f5
  obtain ⟨o,e,c,d⟩:=id st'
  exact ⟨u,rfl,go_of (s:={ s with heap:=h' }) e c d (by decide) ⟨x,H,I1,ru,⟨rfl,fun ys hy=>by rw [I.tuple_inj hy hq]; exact hx⟩,st',fun b hb=>(hf b hb).1⟩⟩
 done:=by
  intro X hP hw hK hc i pins s σ H E I hf st hg
  subst hP hw hK
  obtain ⟨xs,hq,hx⟩:=hg
  obtain ⟨its,rv,p,hz⟩:=I.tuple hq
  obtain ⟨f0,f1,f2,f3,f4,f5⟩:=hf it (by simp)
  have hl:=rv.length
  exact wpAny_pyNext_tuple_end (I.ok.hd hc) st (show s.heap.IsTuple a its.toArray from p) (by simp; omega) fun h' eb=>⟨rfl,I.turned (t':=s.toks) (fun b o hb e=>eb b o hb e) f0 f1 f3 f4 f5⟩
 self:=fun _ _ _ _ _ st h=>wpAny_pyIter_tupleiter st h
theorem turn_range {P:Program} {w:World} {K:PySem.W.Frag} {tg:Expr} (it:Addr) (lo:Int) (n:Nat):Turn P w K tg (Itr lo n) [it] it (fun i h=>IsRangeIter h it (lo + (i:Nat) * 1) ((n:Int) - (i:Nat)) 1) where
 mem:=by simp
 obj:=fun i h st b hb=>by
  have e:b = it:=by simpa using hb
  subst e
  exact ⟨_,st,fun v z=>by
   have z':Data.fields _ = Data.cell v:=z
   cases z'⟩
 keep:=fun i h h' st k=>k it (by simp) _ st
 item:=by
  intro X hP hw hK hc i pins s σ H E I hf st hg
  subst hP hw hK
  obtain ⟨f0,f1,f2,f3,f4,f5⟩:=hf it (by simp)
  have W:=Walks.range (prog:=X.prog) (w:=X.w) (I.ok.hd hc) it lo 1 n
  refine W.item i s _ _ hg st fun v h' tk hv st' kk=>?_
  obtain ⟨t,rfl⟩:=hv
  have I1:Inv X pins σ H { s with heap:=h',toks:=tk }:=I.turned (fun b o hb e=>kk b o (by simpa using hb) e) f0 f1 f3 f4 f5
  refine ⟨_,rfl,go_of (s:={ s with heap:=h',toks:=tk }) (n:="range_iterator") st' rfl rfl (by decide) ⟨.int (lo + i),H,I1,⟨t,?_⟩,⟨rfl,rfl⟩,st',fun b hb=>(hf b hb).1⟩⟩
  rw [Int.mul_one]
 done:=by
  intro X hP hw hK hc i pins s σ H E I hf st hg
  subst hP hw hK
  obtain ⟨f0,f1,f2,f3,f4,f5⟩:=hf it (by simp)
  exact wpAny_pyNext_range_end (I.ok.hd hc) st (by have:n≤i:=hg; omega) fun h' eb=>⟨rfl,I.turned (t':=s.toks) (fun b o hb e=>eb b o hb e) f0 f1 f3 f4 f5⟩
 self:=fun _ _ _ _ _ st h=>wpAny_pyIter_rangeiter st h
end L2
namespace L2
open PySem PySem.Spec PyProof.Rows
section
variable {X:Cx} {tg:Expr}
def iList (K:PySem.W.Frag) (tl:TE):TI:=fun σ H R=>tl σ H fun x H1=>∃ a,x = .ref a∧(∃ xs,SqL K H1 a xs)∧R (Itl K a) H1
def iTup (K:PySem.W.Frag) (tl:TE):TI:=fun σ H R=>tl σ H fun x H1=>∃ a,x = .ref a∧(∃ xs,SqT K H1 a xs)∧R (Itt K a) H1
theorem pi_list {l:Expr} {tl:TE} (hl:PE X l tl):PI X tg l (iList X.K tl):=by
 intro pins s σ H R I h
 refine thn (hl pins s σ H _ I h) fun v s1 ⟨x,H1,I1,r1,q1⟩=>?_
 obtain ⟨a,e,⟨xs,hq⟩,q⟩:=q1
 subst e
 cases r1
 obtain ⟨its,rv,p,hz⟩:=I1.list hq
 refine wpAny_pyIter_list p.isList ?_
 refine ⟨s1.heap.objs.size,[s1.heap.objs.size],_,_,H1,rfl,I1.kept (t':=s1.toks) fun b o e=>Heap.get?_push_of_some _ e,turn_list a _,⟨_,Heap.get?_push_size _ rfl,rfl,rfl⟩,fun b hb=>?_,q⟩
 have e:b = s1.heap.objs.size:=by simpa using hb
 subst e
 exact I1.fpOk (Nat.le_refl _) (I1.hok.fresh (Nat.le_refl _))
theorem pi_tup {l:Expr} {tl:TE} (hl:PE X l tl):PI X tg l (iTup X.K tl):=by
 intro pins s σ H R I h
 refine thn (hl pins s σ H _ I h) fun v s1 ⟨x,H1,I1,r1,q1⟩=>?_
 obtain ⟨a,e,⟨xs,hq⟩,q⟩:=q1
 subst e
 cases r1
 obtain ⟨its,rv,p,hz⟩:=I1.tuple hq
 refine wpAny_pyIter_tuple (show s1.heap.IsTuple a its.toArray from p) ?_
 refine ⟨s1.heap.objs.size,[s1.heap.objs.size],_,_,H1,rfl,I1.kept (t':=s1.toks) fun b o e=>Heap.get?_push_of_some _ e,turn_tuple a _,⟨_,Heap.get?_push_size _ rfl,rfl,rfl⟩,fun b hb=>?_,q⟩
 have e:b = s1.heap.objs.size:=by simpa using hb
 subst e
 exact I1.fpOk (Nat.le_refl _) (I1.hok.fresh (Nat.le_refl _))
theorem range_it {pins:List (Addr×Obj)} {σ:St} {H:Hp} {s:Shared} {R:It→Hp→Prop} {E:Value→Shared→Prop} {lo hi:Int} {t u v:Tok} {tk:Nat} (I:Inv X pins σ H s) (h1:-(2 ^ 62)≤lo) (h2:lo < 2 ^ 62) (h3:-(2 ^ 62)≤hi) (h4:hi < 2 ^ 62)
  (q:R (Itr lo (hi - lo).toNat) H):wpAny (model X.prog X.w) X.A (pyIter (.ref s.heap.objs.size)) (PIE X pins σ tg R) E { s with heap:=s.heap.push { cls:=.type "range",data:=.fields #[.int lo t,.int hi u,.int 1 v] },toks:=tk }:=by
 refine wpAny_pyIter_range (IsRange.new ..) (small_one h1 h2 h3 h4) ?_
 have I1:Inv X pins σ H { s with heap:=s.heap.push { cls:=.type "range",data:=.fields #[.int lo t,.int hi u,.int 1 v] },toks:=tk }:=I.kept fun b o e=>Heap.get?_push_of_some _ e
 refine ⟨(s.heap.push { cls:=.type "range",data:=.fields #[.int lo t,.int hi u,.int 1 v] }).objs.size,[(s.heap.push { cls:=.type "range",data:=.fields #[.int lo t,.int hi u,.int 1 v] }).objs.size],_,_,H,rfl,
  I1.kept (t':=tk) fun b o e=>Heap.get?_push_of_some _ e,turn_range _ lo (hi - lo).toNat,?_,fun b hb=>?_,q⟩
 ·have e1:lo + ((0:Nat):Int) * 1 = lo:=by simp
  have e2:(((hi - lo).toNat:Nat):Int) - ((0:Nat):Int) = Builtin.Range.rangeSize lo hi 1:=by rw [rangeSize_one]; split <;> omega
  show IsRangeIter _ _ (lo + ((0:Nat):Int) * 1) ((((hi - lo).toNat:Nat):Int) - ((0:Nat):Int)) 1
  rw [e1,e2]
  exact Heap.get?_push_size _ rfl
 ·have e:b = (s.heap.push { cls:=.type "range",data:=.fields #[.int lo t,.int hi u,.int 1 v] }).objs.size:=by simpa using hb
  subst e
  exact I1.fpOk (Nat.le_refl _) (I1.hok.fresh (Nat.le_refl _))
def iRng1 (ta:TA):TI:=fun σ H R=>ta σ H fun vs H1=>∃ j:Int,vs = [.int j]∧-(2 ^ 62)≤j∧j < 2 ^ 62∧R (Itr 0 j.toNat) H1
theorem pi_range1 {a:Expr} {ta:TA} {p pos:Pos} (hg:Gl X "range") (hm:X.mg "range" = none) (ha:PA X [a] ta) (hs:starEach [a] X.env = [(false,eval a X.env)]:=by rfl):PI X tg (.Call (.Name "range" p) [a] [] pos) (iRng1 ta):=by
 intro pins s σ H R I h
 refine Call_ (ld_blt I hg hm boot_range (PyProof.Rows.callWith_type1 (thn (ha pos pins s σ H _ I h) fun us s1 ⟨vs,H1,I1,r1,q1⟩=>?_) hs rfl))
 obtain ⟨j,e,q1,q2,q⟩:=q1
 subst e
 cases r1 with
 | cons r rr =>
  cases rr
  obtain ⟨t,rfl⟩:=r
  exact call_range_1 (range_it I1 (by omega) (by omega) q1 q2 (by simpa using q))
def tFor (wi:TI) (g:TG) (tb:TS):TS:=fun D σ H=>wi σ H fun J H1=>∃ W:Nat→Nat→St→Hp→Prop,(∃ m,W 0 m σ H1)∧∀ i m σ H,W i m σ H →
 (J.stop i H∧D.nx σ H)∨(J.go i H∧∃ N:St→Hp→Prop,(∀ σ' H',N σ' H'→∃ m',m' < m∧W (i + 1) m' σ' H')∧∀ x H',J.yld i H x H'→g x σ H' fun σ2 H2=>tb { D with nx:=N,ct:=N,bk:=D.nx } σ2 H2)
def pinsAt (fp:List Addr) (h:Heap):List (Addr×Obj):=fp.filterMap fun b=>(h.get? b).map fun o=>(b,o)
theorem mem_pinsAt {fp:List Addr} {h:Heap} {b:Addr} {o:Obj} (hb:b∈fp) (e:h.get? b = some o):(b,o)∈pinsAt fp h:=List.mem_filterMap.mpr ⟨b,hb,by rw [e]; rfl⟩
theorem of_pinsAt {fp:List Addr} {h:Heap} {p:Addr×Obj} (hp:p∈pinsAt fp h):p.1∈fp∧h.get? p.1 = some p.2:=by
 obtain ⟨b,hb,e⟩:=List.mem_filterMap.mp hp
 cases q:h.get? b with
 | none=>rw [q] at e; cases e
 | some o =>
  rw [q] at e
  have e':(b,o) = p:=Option.some.inj e
  subst e'
  exact ⟨hb,q⟩
theorem Inv.pinned {pins:List (Addr×Obj)} {σ:St} {H:Hp} {s:Shared} {fp:List Addr} (I:Inv X pins σ H s) (hf:∀ b∈fp,FpOk X pins H b) (ho:∀ b∈fp,∃ o,s.heap.get? b = some o∧∀ v,o.data≠.cell v):Inv X (pins ++ pinsAt fp s.heap) σ H s :=
 I.pins_of fun p hp=>(List.mem_append.mp hp).elim (fun z=>I.pin p (List.mem_append_right _ z)) fun z=>by
  obtain ⟨hb,e⟩:=of_pinsAt z
  obtain ⟨f0,f1,f2,_⟩:=hf p.1 hb
  obtain ⟨o,e',d⟩:=ho p.1 hb
  rw [e] at e'; cases e'
  exact ⟨e,f0,f1,f2,d⟩
theorem Inv.unpinned {pins pl:List (Addr×Obj)} {σ:St} {H:Hp} {s:Shared} (I:Inv X (pins ++ pl) σ H s):Inv X pins σ H s:=I.pins_of fun p hp=>I.pin p (List.mem_append_right _ (List.mem_append_left _ hp))
theorem ps_for {iter:Expr} {body:List Stmt} {wi:TI} {g:TG} {tb:TS} {pos:Pos} (hp:PassesOwn (model X.prog X.w) X.A X.env X.xe) (hc:X.calm = true) (hi:PI X tg iter wi) (hg:PG X tg g) (hb:PSs X body tb)
  (hs:∀ x,foldedSetIterable iter X.env x = pure x:=by intro _; rfl):PS X (.For tg iter body [] pos) (tFor wi g tb):=by
 intro pins s σ H D I h
 refine wpAny_For (thn (hi pins s σ H _ I h) fun v s1 h1=>thn h1 fun itv s2 h2=>?_) hs
 obtain ⟨it,fp,tn,J,H2,e,I2,T,st2,f2,W,⟨m0,w0⟩,turn⟩:=h2
 subst e
 have stat:∀ {H':Hp},(∀ b∈fp,H' b = none)→∀ b∈fp,FpOk X pins H' b:=fun hn b hb=>⟨hn b hb,(f2 b hb).2⟩
 refine codeAny_forLoop_any (fun n s'=>∃ i σ' H',Inv X pins σ' H' s'∧tn i s'.heap∧(∀ b∈fp,H' b = none)∧W i n σ' H') ?_ m0 ⟨0,σ,H2,I2,st2,fun b hb=>(f2 b hb).1,w0⟩
 rintro n s3 ⟨i,σ3,H3,I3,st3,fr3,w3⟩
 rcases turn i n σ3 H3 w3 with ⟨stop,qn⟩ | ⟨go,N,hN,step⟩
 ·refine wpAny_passesOwn hp (thn (T.done X rfl rfl rfl hc i pins s3 σ3 H3 X.xe I3 (stat fr3) st3 stop) fun r s4 ⟨hr,I4⟩=>?_)
  subst hr
  exact wpAny_execs_nil ⟨σ3,H3,I4,qn⟩
 ·refine wpAny_passesOwn hp (thn (T.item X rfl rfl rfl hc i pins s3 σ3 H3 X.xe I3 (stat fr3) st3 go) fun r s4 ⟨u,hr,h4⟩=>?_)
  subst hr
  refine wpAny_passesOwn hp (thn h4 fun _ s5 ⟨x,H5,I5,r5,y5,st5,fr5⟩=>?_)
  have I5':=I5.pinned (stat fr5) (T.obj _ _ st5)
  refine wpAny_passesOwn hp (thn (hg _ s5 σ3 H5 x u _ I5' r5 (step x H5 y5)) fun _ s6 ⟨σ6,H6,I6,q6⟩=>?_)
  refine wpAny_passesOwn hp (thn (hb _ s6 σ6 H6 _ I6 q6) fun f s7 q7=>?_)
  have again:∀ {σ7:St} {H7:Hp},Inv X (pins ++ pinsAt fp s5.heap) σ7 H7 s7→N σ7 H7→∃ m,m < n∧∃ i σ' H',Inv X pins σ' H' s7∧tn i s7.heap∧(∀ b∈fp,H' b = none)∧W i m σ' H':=fun {σ7 H7} I7 n7=>by
   obtain ⟨m',hm,w7⟩:=hN σ7 H7 n7
   refine ⟨m',hm,i + 1,σ7,H7,I7.unpinned,T.keep _ _ _ st5 fun b hb o e=>(I7.pin (b,o) (List.mem_append_right _ (List.mem_append_right _ (mem_pinsAt hb e)))).1,fun b hb=>?_,w7⟩
   obtain ⟨o,e,d⟩:=T.obj _ _ st5 b hb
   exact (I7.pin (b,o) (List.mem_append_right _ (List.mem_append_right _ (mem_pinsAt hb e)))).2.1
  cases f with
  | next=>obtain ⟨σ7,H7,I7,n7⟩:=q7; exact again I7 n7
  | cont=>obtain ⟨σ7,H7,I7,n7⟩:=q7; exact again I7 n7
  | brk=>obtain ⟨σ7,H7,I7,q7⟩:=q7; exact ⟨σ7,H7,I7.unpinned,q7⟩
  | ret v=>obtain ⟨x7,σ7,H7,I7,r7,q7⟩:=q7; exact ⟨x7,σ7,H7,I7.unpinned,r7,q7⟩
end
theorem for_range {lo:Int} {n:Nat} {g:TG} {tb:TS} {D:Ends} {σ:St} {H:Hp} (Pv:Nat→St→Hp→Prop) (h0:Pv 0 σ H)
  (hs:∀ i σ H,i < n→Pv i σ H→g (.int (lo + i)) σ H fun σ2 H2=>tb { D with nx:=Pv (i + 1),ct:=Pv (i + 1),bk:=D.nx } σ2 H2) (hd:∀ σ H,Pv n σ H→D.nx σ H) :
  ∃ W:Nat→Nat→St→Hp→Prop,(∃ m,W 0 m σ H)∧∀ i m σ H,W i m σ H →
   ((Itr lo n).stop i H∧D.nx σ H)∨((Itr lo n).go i H∧∃ N:St→Hp→Prop,(∀ σ' H',N σ' H'→∃ m',m' < m∧W (i + 1) m' σ' H')∧∀ x H',(Itr lo n).yld i H x H'→g x σ H' fun σ2 H2=>tb { D with nx:=N,ct:=N,bk:=D.nx } σ2 H2):=by
 refine ⟨fun i m σ H=>m = n - i∧i≤n∧Pv i σ H,⟨n,by simp,Nat.zero_le _,h0⟩,?_⟩
 rintro i m σ H ⟨rfl,hi,p⟩
 by_cases hlt:i < n
 ·refine .inr ⟨hlt,Pv (i + 1),fun σ' H' p'=>⟨n - (i + 1),by omega,rfl,hlt,p'⟩,fun x H' y=>?_⟩
  obtain ⟨e,y⟩:=y
  subst e y
  exact hs i σ _ hlt p
 ·have e:i = n:=by omega
  subst e
  exact .inl ⟨Nat.le_refl _,hd σ H p⟩
end L2
namespace L2
open PySem PySem.Spec PyProof.Rows
abbrev R2:=V→V→Hp→VK→Prop
def OpR (X:Cx) (f:Value→Value→Sem Value) (r:R2):Prop :=
 ∀ (pins:List (Addr×Obj)) (s:Shared) (σ:St) (H:Hp) (x y:V) (v u:Value) (Q:VK),Inv X pins σ H s→RelV x v→RelV y u→r x y H Q →
  wpAny (model X.prog X.w) X.A (f v u) (EP X pins σ Q) X.xe s
def UnR (X:Cx) (f:Value→Sem Value) (r:V→Hp→VK→Prop):Prop :=
 ∀ (pins:List (Addr×Obj)) (s:Shared) (σ:St) (H:Hp) (x:V) (v:Value) (Q:VK),Inv X pins σ H s→RelV x v→r x H Q →
  wpAny (model X.prog X.w) X.A (f v) (EP X pins σ Q) X.xe s
def CallR (X:Cx) (f:Value) (r:List V→Hp→VK→Prop):Prop :=
 ∀ (pins:List (Addr×Obj)) (s:Shared) (σ:St) (H:Hp) (xs:List V) (us:List Value) (Q:VK),Inv X pins σ H s→Vals xs us→r xs H Q →
  wpAny (model X.prog X.w) X.A (call f us) (EP X pins σ Q) X.xe s
def tOp (r:R2) (ta tb:TE):TE:=fun σ H Q=>ta σ H fun x H1=>tb σ H1 fun y H2=>r x y H2 Q
def tUn (r:V→Hp→VK→Prop) (ta:TE):TE:=fun σ H Q=>ta σ H fun x H1=>r x H1 Q
def rI (C:Int→Int→Prop) (g:Int→Int→V):R2:=fun x y H Q=>∃ i j,x = .int i∧y = .int j∧C i j∧Q (g i j) H
def rI0 (g:Int→Int→V):R2:=fun x y H Q=>∃ i j,x = .int i∧y = .int j∧Q (g i j) H
def rU (g:Int→V):V→Hp→VK→Prop:=fun x H Q=>∃ i,x = .int i∧Q (g i) H
section
variable {X:Cx} {a b c:Expr} {ta tb tc:TE} {pos:Pos}
theorem binT (ha:PE X a ta) (hb:PE X b tb) {pins:List (Addr×Obj)} {s:Shared} {σ:St} {H:Hp} {R:V→V→Hp→Prop} (I:Inv X pins σ H s)
  (h:ta σ H fun x H1=>tb σ H1 fun y H2=>R x y H2) {Q:Value→Shared→Prop} {f:Value→Value→Sem Value}
  (hf:∀ v u s2 x y H2,Inv X pins σ H2 s2→RelV x v→RelV y u→R x y H2→wpAny (model X.prog X.w) X.A (f v u) Q X.xe s2) :
  wpAny (model X.prog X.w) X.A (eval a X.env) (fun v s₁=>wpAny (model X.prog X.w) X.A (eval b X.env) (fun u s₂=>wpAny (model X.prog X.w) X.A (f v u) Q X.xe s₂) X.xe s₁) X.xe s:=by
 refine thn (ha pins s σ H _ I h) fun v s1 ⟨x,H1,I1,r1,q1⟩=>?_
 refine thn (hb pins s1 σ H1 _ I1 q1) fun u s2 ⟨y,H2,I2,r2,q2⟩=>?_
 exact hf v u s2 x y H2 I2 r1 r2 q2
theorem pe_op {op:Operator} {r:R2} (ho:OpR X (binaryOp op) r) (ha:PE X a ta) (hb:PE X b tb):PE X (.BinOp a op b pos) (tOp r ta tb):=by
 intro pins s σ H Q I h
 exact wpAny_BinOp (binT ha hb I h fun v u s2 x y H2 I2 rx ry q=>ho pins s2 σ H2 x y v u Q I2 rx ry q)
theorem pe_un {op:UnaryOp} {r:V→Hp→VK→Prop} (ho:UnR X (unaryOp op) r) (ha:PE X a ta):PE X (.UnaryOp op a pos) (tUn r ta):=by
 intro pins s σ H Q I h
 exact UnaryOp_ (thn (ha pins s σ H _ I h) fun v s1 ⟨x,H1,I1,r1,q1⟩=>ho pins s1 σ H1 x v Q I1 r1 q1)
theorem opI {f:Value→Value→Sem Value} {C:Int→Int→Prop} {g:Int→Int→Int}
  (rule:∀ (i j:Int) (t u:Tok) (s:Shared) (Q:Value→Shared→Prop) (E:Value→Shared→Prop),C i j→Q (.int (g i j) s.toks) { s with toks:=s.toks + 1 }→wpAny (model X.prog X.w) X.A (f (.int i t) (.int j u)) Q E s) :
  OpR X f (rI C fun i j=>.int (g i j)):=by
 intro pins s σ H x y v u Q I rx ry h
 obtain ⟨i,j,rfl,rfl,hc,q⟩:=h
 obtain ⟨t,rfl⟩:=rx
 obtain ⟨t',rfl⟩:=ry
 exact rule i j t t' s _ _ hc ⟨.int (g i j),H,I.tok _,⟨_,rfl⟩,q⟩
theorem opI0 {f:Value→Value→Sem Value} {g:Int→Int→Int}
  (rule:∀ (i j:Int) (t u:Tok) (s:Shared) (Q:Value→Shared→Prop) (E:Value→Shared→Prop),Q (.int (g i j) s.toks) { s with toks:=s.toks + 1 }→wpAny (model X.prog X.w) X.A (f (.int i t) (.int j u)) Q E s) :
  OpR X f (rI0 fun i j=>.int (g i j)):=by
 intro pins s σ H x y v u Q I rx ry h
 obtain ⟨i,j,rfl,rfl,q⟩:=h
 obtain ⟨t,rfl⟩:=rx
 obtain ⟨t',rfl⟩:=ry
 exact rule i j t t' s _ _ ⟨.int (g i j),H,I.tok _,⟨_,rfl⟩,q⟩
theorem opB0 {f:Value→Value→Sem Value} {g:Int→Int→Bool}
  (rule:∀ (i j:Int) (t u:Tok) (s:Shared) (Q:Value→Shared→Prop) (E:Value→Shared→Prop),Q (.bool (g i j)) s→wpAny (model X.prog X.w) X.A (f (.int i t) (.int j u)) Q E s) :
  OpR X f (rI0 fun i j=>.bl (g i j)):=by
 intro pins s σ H x y v u Q I rx ry h
 obtain ⟨i,j,rfl,rfl,q⟩:=h
 obtain ⟨t,rfl⟩:=rx
 obtain ⟨t',rfl⟩:=ry
 exact rule i j t t' s _ _ ⟨.bl (g i j),H,I,rfl,q⟩
def CDiv (i j:Int):Prop:=0 < j∧j < 1073741824
def CPow (i j:Int):Prop:=0≤j∧j≤1000000∧i.natAbs < 2 ^ 64
def CMul (i j:Int):Prop:=(-(2 ^ 64) < i∧i < 2 ^ 64)∨(-(2 ^ 64) < j∧j < 2 ^ 64)
theorem CMul.ok {i j:Int} (h:CMul i j):IntMulOk i j:=by
 rcases h with ⟨h1,h2⟩ | ⟨h1,h2⟩
 ·exact .of_left (intBits_le_64 h1 h2)
 ·exact .of_right (intBits_le_64 h1 h2)
theorem op_add:OpR X (binaryOp .Add) (rI0 fun i j=>.int (i + j)):=opI0 fun _ _ _ _ _ _ _ q=>add_int q
theorem op_sub:OpR X (binaryOp .Sub) (rI0 fun i j=>.int (i - j)):=opI0 fun _ _ _ _ _ _ _ q=>sub_int q
theorem op_mul:OpR X (binaryOp .Mult) (rI CMul fun i j=>.int (i * j)):=opI fun _ _ _ _ _ _ _ hc q=>mul_int q hc.ok
theorem op_fdiv:OpR X (binaryOp .FloorDiv) (rI CDiv fun i j=>.int (i / j)):=opI fun i j _ _ _ _ _ hc q=>by
 have h1:(0:Int) < j:=hc.1
 have h2:j < 1073741824:=hc.2
 exact floordiv_int (by omega) (by rw [Int.fdiv_eq_ediv_of_nonneg i (by omega)]; exact q) (.inl (PyProof.noPylong_small (by omega)))
theorem op_mod:OpR X (binaryOp .Mod) (rI (fun _ j=>0 < j) fun i j=>.int (i % j)):=opI fun i j _ _ _ _ _ hc q=>by
 have h1:(0:Int) < j:=hc
 exact mod_int' (by omega) (by rw [Int.fmod_eq_emod_of_nonneg i (by omega)]; exact q)
theorem op_pow:OpR X (binaryOp .Pow) (rI CPow fun i j=>.int (i ^ j.toNat)):=opI fun _ _ _ _ _ _ _ hc q=>pow_int_small hc.1 hc.2.1 hc.2.2 q
theorem unI {f:Value→Sem Value} {g:Int→Int}
  (rule:∀ (i:Int) (t:Tok) (s:Shared) (Q:Value→Shared→Prop) (E:Value→Shared→Prop),Q (.int (g i) s.toks) { s with toks:=s.toks + 1 }→wpAny (model X.prog X.w) X.A (f (.int i t)) Q E s) :
  UnR X f (rU fun i=>.int (g i)):=by
 intro pins s σ H x v Q I rx h
 obtain ⟨i,rfl,q⟩:=h
 obtain ⟨t,rfl⟩:=rx
 exact rule i t s _ _ ⟨.int (g i),H,I.tok _,⟨_,rfl⟩,q⟩
theorem un_neg:UnR X (unaryOp .USub) (rU fun i=>.int (-i)):=unI fun _ _ _ _ _ q=>neg_int q
end
def scal:V→V→Bool
 | .non,.non=>true | .non,.int _=>true | .int _,.non=>true | .non,.bl _=>true | .bl _,.non=>true | .non,.str _=>true | .str _,.non=>true
 | .int _,.int _=>true | .bl _,.bl _=>true | .str _,.str _=>true | .byt _,.byt _=>true
 | .int _,.str _=>true | .str _,.int _=>true | .bl _,.str _=>true | .str _,.bl _=>true
 | _,_=>false
def rEq:R2:=fun x y H Q=>scal x y = true∧Q (.bl (decide (x = y))) H
def rNe:R2:=fun x y H Q=>scal x y = true∧Q (.bl (!decide (x = y))) H
theorem dec_int {i j:Int}:decide (V.int i = V.int j) = (i == j):=by
 rw [Bool.eq_iff_iff]
 simp
theorem dec_bl {i j:Bool}:decide (V.bl i = V.bl j) = (i == j):=by
 rw [Bool.eq_iff_iff]
 simp
theorem dec_str {i j:Str}:decide (V.str i = V.str j) = (i == j):=by
 rw [Bool.eq_iff_iff]
 simp
theorem dec_byt {i j:Array UInt8}:decide (V.byt i = V.byt j) = (i.toList == j.toList):=by
 rw [Bool.eq_iff_iff]
 cases i
 cases j
 simp
section
variable {X:Cx} {a b c:Expr} {ta tb tc:TE} {pos:Pos}
theorem fin_bl {pins:List (Addr×Obj)} {σ:St} {H:Hp} {s:Shared} {Q:VK} {k k':Bool} (I:Inv X pins σ H s) (q:Q (.bl k) H) (e:k = k'):EP X pins σ Q (.bool k') s:=by
 subst e
 exact ⟨.bl k,H,I,rfl,q⟩
theorem op_eq:OpR X (compareOp .Eq) rEq:=by
 intro pins s σ H x y v u Q I rx ry h
 obtain ⟨hs,q⟩:=h
 cases x with
 | non =>
  cases rx
  cases y with
  | non=>cases ry; exact PySem.EqNone.eq_none_none (fin_bl I q (by simp))
  | bl j=>cases ry; exact PySem.EqNone.eq_none_bool (fin_bl I q (by simp))
  | int j=>obtain ⟨t',rfl⟩:=ry; exact PySem.EqNone.eq_none_int (fin_bl I q (by simp))
  | str j=>obtain ⟨t',rfl⟩:=ry; exact PySem.EqNone.eq_none_str (fin_bl I q (by simp))
  | _=>exact absurd (show false = true from hs) Bool.false_ne_true
 | bl i =>
  cases rx
  cases y with
  | non=>cases ry; exact PySem.EqNone.eq_bool_none (fin_bl I q (by simp))
  | bl j=>cases ry; exact eq_bool (fin_bl I q dec_bl)
  | str j=>obtain ⟨t',rfl⟩:=ry; exact PySem.EqMixed.eq_bool_str (fin_bl I q (by simp))
  | _=>exact absurd (show false = true from hs) Bool.false_ne_true
 | int i =>
  obtain ⟨t,rfl⟩:=rx
  cases y with
  | non=>cases ry; exact PySem.EqNone.eq_int_none (fin_bl I q (by simp))
  | int j=>obtain ⟨t',rfl⟩:=ry; exact eq_int (fin_bl I q dec_int)
  | str j=>obtain ⟨t',rfl⟩:=ry; exact PySem.EqMixed.eq_int_str (fin_bl I q (by simp))
  | _=>exact absurd (show false = true from hs) Bool.false_ne_true
 | str i =>
  obtain ⟨t,rfl⟩:=rx
  cases y with
  | non=>cases ry; exact PySem.EqNone.eq_str_none (fin_bl I q (by simp))
  | bl j=>cases ry; exact PySem.EqMixed.eq_str_bool (fin_bl I q (by simp))
  | int j=>obtain ⟨t',rfl⟩:=ry; exact PySem.EqMixed.eq_str_int (fin_bl I q (by simp))
  | str j=>obtain ⟨t',rfl⟩:=ry; exact eq_str (fin_bl I q dec_str)
  | _=>exact absurd (show false = true from hs) Bool.false_ne_true
 | byt i =>
  obtain ⟨t,rfl⟩:=rx
  cases y with
  | byt j=>obtain ⟨t',rfl⟩:=ry; exact PySem.W.eq_bytes (fin_bl I q dec_byt)
  | _=>exact absurd (show false = true from hs) Bool.false_ne_true
 | _=>cases y <;> exact absurd (show false = true from hs) Bool.false_ne_true
theorem op_ne:OpR X (compareOp .NotEq) rNe:=by
 intro pins s σ H x y v u Q I rx ry h
 obtain ⟨hs,q⟩:=h
 cases x with
 | non =>
  cases rx
  cases y with
  | non=>cases ry; exact PySem.EqNone.ne_none_none (fin_bl I q (by simp))
  | bl j=>cases ry; exact PySem.EqNone.ne_none_bool (fin_bl I q (by simp))
  | int j=>obtain ⟨t',rfl⟩:=ry; exact PySem.EqNone.ne_none_int (fin_bl I q (by simp))
  | str j=>obtain ⟨t',rfl⟩:=ry; exact PySem.EqNone.ne_none_str (fin_bl I q (by simp))
  | _=>exact absurd (show false = true from hs) Bool.false_ne_true
 | bl i =>
  cases rx
  cases y with
  | non=>cases ry; exact PySem.EqNone.ne_bool_none (fin_bl I q (by simp))
  | bl j=>cases ry; exact ne_bool (fin_bl I q (congrArg not dec_bl))
  | str j=>obtain ⟨t',rfl⟩:=ry; exact PySem.EqMixed.ne_bool_str (fin_bl I q (by simp))
  | _=>exact absurd (show false = true from hs) Bool.false_ne_true
 | int i =>
  obtain ⟨t,rfl⟩:=rx
  cases y with
  | non=>cases ry; exact PySem.EqNone.ne_int_none (fin_bl I q (by simp))
  | int j=>obtain ⟨t',rfl⟩:=ry; exact ne_int (fin_bl I q (congrArg not dec_int))
  | str j=>obtain ⟨t',rfl⟩:=ry; exact PySem.EqMixed.ne_int_str (fin_bl I q (by simp))
  | _=>exact absurd (show false = true from hs) Bool.false_ne_true
 | str i =>
  obtain ⟨t,rfl⟩:=rx
  cases y with
  | non=>cases ry; exact PySem.EqNone.ne_str_none (fin_bl I q (by simp))
  | bl j=>cases ry; exact PySem.EqMixed.ne_str_bool (fin_bl I q (by simp))
  | int j=>obtain ⟨t',rfl⟩:=ry; exact PySem.EqMixed.ne_str_int (fin_bl I q (by simp))
  | str j=>obtain ⟨t',rfl⟩:=ry; exact ne_str (fin_bl I q (congrArg not dec_str))
  | _=>exact absurd (show false = true from hs) Bool.false_ne_true
 | byt i =>
  obtain ⟨t,rfl⟩:=rx
  cases y with
  | byt j=>obtain ⟨t',rfl⟩:=ry; exact PySem.W.ne_bytes (fin_bl I q (congrArg not dec_byt))
  | _=>exact absurd (show false = true from hs) Bool.false_ne_true
 | _=>cases y <;> exact absurd (show false = true from hs) Bool.false_ne_true
theorem op_lt:OpR X (compareOp .Lt) (rI0 fun i j=>.bl (decide (i < j))):=opB0 fun _ _ _ _ _ _ _ q=>lt_int q
theorem op_le:OpR X (compareOp .LtE) (rI0 fun i j=>.bl (decide (i≤j))):=opB0 fun _ _ _ _ _ _ _ q=>le_int q
theorem op_gt:OpR X (compareOp .Gt) (rI0 fun i j=>.bl (decide (j < i))):=opB0 fun _ _ _ _ _ _ _ q=>gt_int q
theorem op_ge:OpR X (compareOp .GtE) (rI0 fun i j=>.bl (decide (j≤i))):=opB0 fun _ _ _ _ _ _ _ q=>ge_int q
theorem op_isN:OpR X (compareOp .Is) (fun x y H Q=>y = .non∧Q (.bl (decide (x = .non))) H):=by
 intro pins s σ H x y v u Q I rx ry h
 obtain ⟨rfl,q⟩:=h
 cases ry
 refine is_none_gen (fin_bl I q ?_)
 cases x <;> first
  | (cases rx; rfl)
  | (obtain ⟨t,rfl⟩:=rx; rfl)
theorem nomark (b:Expr) {op:CmpOp} (h:op≠.In:=by decide) (h2:op≠.NotIn:=by decide):behindInMarks op b = false:=by
 have e1:(op == CmpOp.In) = false:=by cases op <;> first | rfl | exact absurd rfl h
 have e2:(op == CmpOp.NotIn) = false:=by cases op <;> first | rfl | exact absurd rfl h2
 cases b <;> simp [behindInMarks,e1,e2]
theorem pe_cmpR {op:CmpOp} {r:R2} (ho:OpR X (compareOp op) r) (ha:PE X a ta) (hb:PE X b tb) (hm:behindInMarks op b = false):PE X (.Compare a [op] [b] pos) (tOp r ta tb):=by
 intro pins s σ H Q I h
 exact wpAny_Compare1 (binT ha hb I h fun v u s2 x y H2 I2 rx ry q=>ho pins s2 σ H2 x y v u Q I2 rx ry q) hm
def tTest (t:TE):TT:=fun σ H Q=>t σ H fun x H'=>∃ k,x = .bl k∧Q k H'
theorem pt_cmpR {op:CmpOp} {r:R2} (ho:OpR X (compareOp op) r) (ha:PE X a ta) (hb:PE X b tb) (hm:behindInMarks op b = false):PT X (.Compare a [op] [b] pos) (tTest (tOp r ta tb)):=by
 intro pins s σ H Q I h
 refine wpAny_isTrue_Compare1 (thn (ha pins s σ H _ I h) fun v s1 ⟨x,H1,I1,r1,q1⟩=>thn (hb pins s1 σ H1 _ I1 q1) fun u s2 ⟨y,H2,I2,r2,q2⟩ =>
  thn (ho pins s2 σ H2 x y v u _ I2 r1 r2 q2) fun c s3 ⟨z,H3,I3,r3,k,e,q3⟩=>?_) hm
 subst e
 cases r3
 exact wpAny_truthy_bool ⟨H3,I3,q3⟩
theorem line63:(sizeLine:Nat) < 2 ^ 63:=by rw [sizeLine_eq]; decide
theorem vals1 {x:V} {us:List Value} (r:Vals [x] us):∃ u,us = [u]∧RelV x u:=by
 cases r with
 | cons r1 r2=>cases r2; exact ⟨_,rfl,r1⟩
theorem vals2 {x y:V} {us:List Value} (r:Vals [x,y] us):∃ u w',us = [u,w']∧RelV x u∧RelV y w':=by
 cases r with
 | cons r1 r2 =>
  cases r2 with
  | cons r3 r4=>cases r4; exact ⟨_,_,rfl,r1,r3⟩
theorem call_abs:CallR X (.builtin "abs") (fun xs H Q=>∃ i,xs = [.int i]∧Q (.int (if i < 0 then -i else i)) H):=by
 intro pins s σ H xs us Q I r h
 obtain ⟨i,rfl,q⟩:=h
 obtain ⟨u,rfl,t,rfl⟩:=vals1 r
 exact call_abs_int fun u tk=>⟨.int (if i < 0 then -i else i),H,I.tok _,⟨_,rfl⟩,q⟩
theorem call_max2 (hc:X.calm = true):CallR X (.builtin "max") (fun xs H Q=>∃ i j,xs = [.int i,.int j]∧Q (.int (if j > i then j else i)) H):=by
 intro pins s σ H xs us Q I r h
 obtain ⟨i,j,rfl,q⟩:=h
 obtain ⟨u,w',rfl,⟨t,rfl⟩,⟨t',rfl⟩⟩:=vals2 r
 refine max_two_ints (I.ok.hd hc) fun h' tk k=>⟨_,H,I.kept k,?_,q⟩
 by_cases hj:j > i
 ·rw [if_pos hj,if_pos hj]; exact ⟨_,rfl⟩
 ·rw [if_neg hj,if_neg hj]; exact ⟨_,rfl⟩
theorem call_min2 (hc:X.calm = true):CallR X (.builtin "min") (fun xs H Q=>∃ i j,xs = [.int i,.int j]∧Q (.int (if j < i then j else i)) H):=by
 intro pins s σ H xs us Q I r h
 obtain ⟨i,j,rfl,q⟩:=h
 obtain ⟨u,w',rfl,⟨t,rfl⟩,⟨t',rfl⟩⟩:=vals2 r
 refine min_two_ints (I.ok.hd hc) fun h' tk k=>⟨_,H,I.kept k,?_,q⟩
 by_cases hj:j < i
 ·rw [if_pos hj,if_pos hj]; exact ⟨_,rfl⟩
 ·rw [if_neg hj,if_neg hj]; exact ⟨_,rfl⟩
end
end L2
namespace L2
open PySem PySem.Spec PyProof.Rows
structure ObjM (h:Heap) (x dx C:Addr) (mA:Str→Option Value):Prop where
 obj:h.get? x = some (PySem.W.instObj C dx)
 ns:h.Ns1 dx mA
 ne:dx≠x
theorem lookIn_ns {h:Heap} {dx:Addr} {mA:Str→Option Value} (n:h.Ns1 dx mA):∃ od,h.get? dx = some od∧∀ name,PySem.W.lookIn name od = some (mA name):=by
 obtain ⟨o,es,ep,ho,hd,hk,_,hm⟩:=n
 refine ⟨o,ho,fun name=>?_⟩
 have e:=hm name
 unfold nsFind findBy at e
 rw [← Array.find?_toList] at e
 unfold PySem.W.lookIn
 rw [hd]
 dsimp only
 split
 ·rename_i y q
  rw [q] at e
  exact congrArg some e
 ·rename_i q
  rw [q] at e
  have a:es.toList.any (·.refKey) = false:=by
   rw [List.any_eq_false]
   intro y hy
   obtain ⟨z,t,hkey⟩:=hk y (Array.mem_toList_iff.mp hy)
   simp [DictEntry.refKey,hkey]
  have a':¬ es.toList.any (·.refKey) = true:=by rw [a]; exact Bool.false_ne_true
  rw [if_neg a']
  exact congrArg some e
theorem ObjM.look {h:Heap} {x dx C:Addr} {mA:Str→Option Value} (I:ObjM h x dx C mA):∃ od,PySem.W.InstAt h x (PySem.W.instObj C dx) C (some od)∧∀ name,PySem.W.lookIn name od = some (mA name) :=
 let ⟨od,ho,hl⟩:=lookIn_ns I.ns
 ⟨od,⟨I.obj,rfl,rfl,ho⟩,hl⟩
section
variable {prog:Program} {w:World} {A:Around} {E:Value→Shared→Prop} {s:Shared} {K:PySem.W.Frag} {x dx C f:Addr} {mA:Str→Option Value} {name:Str} {v:Value}
end
section
variable {P:Program} {w:World} {H H':Hp} {h h':Heap} {a C dx:Addr} {fs fs':List (Str×V)}
theorem ins_get (hok:HOk P w H h) (e:H a = some (.ins C dx fs)):∃ mA,ObjM h a dx C mA∧(∀ f,RelO (fs.lookup f) (mA f))∧PySem.Within mA (fs.map (·.1))∧fs.length≤1000∧H dx = some (.own a):=by
 obtain ⟨d,z,ne,ob,mA,n,r,q⟩:=(show ObjOk P w H h a (.ins C dx fs) from hok a _ e)
 exact ⟨mA,⟨ob,n,ne⟩,r,q,z,d⟩
end
structure Cls (K:PySem.W.Frag) (C:Addr):Prop where
 pg:PySem.W.plainGet K C Str.empty = true
 hd:PySem.W.hasDictIn K C = true
 po:PySem.W.plainOver K C = true
 sa:PySem.W.findIn K (.ref C) "__setattr__" = some (some (.builtin "object.__setattr__"))
theorem Cls.get {K:PySem.W.Frag} {C:Addr} (c:Cls K C) (f:Str):PySem.W.plainGet K C f = true:=c.pg
section
variable {X:Cx} {pins:List (Addr×Obj)} {σ:St} {H:Hp} {s:Shared} {a C dx:Addr} {fs:List (Str×V)} {f:Str} {v:V} {A:Around} {E:Value→Shared→Prop}
end
section
variable {X:Cx} {o e value:Expr} {f:Str} {pos pos' tpos:Pos} {ta tv:TE}
end
section
variable {X:Cx} {pins:List (Addr×Obj)} {σ:St} {H:Hp} {s:Shared} {A:Around} {E:Value→Shared→Prop} {Q:Value→Shared→Prop} {c:Value} {b:Bool}
inductive TyOf (K:PySem.W.Frag) (H:Hp):V→Value→Prop where
 | non:TyOf K H .non (.type "NoneType")
 | bl (x:Bool):TyOf K H (.bl x) (.type "bool")
 | int (i:Int):TyOf K H (.int i) (.type "int")
 | str (x:Str):TyOf K H (.str x) (.type "str")
 | flt (x:UInt64):TyOf K H (.flt x) (.type "float")
 | lst {a:Addr} {xs:List V} (e:H a = some (.lst xs)):TyOf K H (.ref a) (.type "list")
 | frz {a:Addr} {o:Obj} {xs:List V} (e:H a = some (.frz o (.lst xs))):TyOf K H (.ref a) (.type "list")
 | tup {a:Addr} {xs:List V} (e:H a = some (.tup xs)):TyOf K H (.ref a) (.type "tuple")
 | dK {a:Addr} {kvs:List (Key×V)} (e:H a = some (.dK kvs)):TyOf K H (.ref a) (.type "dict")
 | dT {a:Addr} {kvs:List (List Key×V)} (e:H a = some (.dT kvs)):TyOf K H (.ref a) (.type "dict")
 | ins {a C dx:Addr} {fs:List (Str×V)} (e:H a = some (.ins C dx fs)) (cl:Cls K C) (ha:PySem.W.findIn K (.ref C) "__class__" = some (some (.builtin "object.__class__")))
   (hn:PySem.W.specialIn K (.builtin "object.__class__") "__get__" = some (some (.builtin "getset_descriptor.__get__"))) (htk:PySem.W.takesIn K (.builtin "object.__class__") = some true)
   (hm:PySem.W.mroIn K C (.type "object") = some true):TyOf K H (.ref a) (.ref C)
theorem isinst_ok {x:V} {u t:Value} (I:Inv X pins σ H s) (rx:RelV x u) (ty:TyOf X.K H x t) (e:PySem.W.kitOne X.K t c = some b) (h:∀ tk,Q (.bool b) { s with toks:=tk }) :
  wpAny (model X.prog X.w) A (call (.builtin "isinstance") [u,c]) Q E s:=by
 cases ty with
 | non=>cases (show u = Value.none from rx); exact PySem.W.kia_one PySem.W.kitx_none I.kIn True.intro e (fun z=>nomatch z) h
 | bl y=>cases (show u = Value.bool y from rx); exact PySem.W.kia_one PySem.W.kitx_bool I.kIn True.intro e (fun z=>nomatch z) h
 | int i=>obtain ⟨t,q⟩:=(show ∃ t,u = Value.int i t from rx); cases q; exact PySem.W.kia_one PySem.W.kitx_int I.kIn True.intro e (fun z=>nomatch z) h
 | str y=>obtain ⟨t,q⟩:=(show ∃ t,u = Value.str y t from rx); cases q; exact PySem.W.kia_one PySem.W.kitx_str I.kIn True.intro e (fun z=>nomatch z) h
 | flt y=>obtain ⟨t,q⟩:=(show ∃ t,u = Value.float y t from rx); cases q; exact PySem.W.kia_one PySem.W.kitx_float I.kIn True.intro e (fun z=>nomatch z) h
 | @lst a xs ea =>
  cases (show u = Value.ref a from rx)
  obtain ⟨_,_,n,_,h1⟩:=(show ObjOk X.prog X.w H s.heap a (.lst xs) from I.hok a _ ea)
  exact PySem.W.kia_one PySem.W.kitx_list I.kIn ⟨_,h1,rfl⟩ e (fun z=>nomatch z) h
 | @frz a ob xs ea =>
  cases (show u = Value.ref a from rx)
  obtain ⟨_,_,_,n,_,h1⟩:=(show ObjOk X.prog X.w H s.heap a (.frz ob (.lst xs)) from I.hok a _ ea)
  exact PySem.W.kia_one PySem.W.kitx_list I.kIn ⟨_,h1,rfl⟩ e (fun z=>nomatch z) h
 | @tup a xs ea =>
  cases (show u = Value.ref a from rx)
  obtain ⟨_,_,_,p⟩:=(show ObjOk X.prog X.w H s.heap a (.tup xs) from I.hok a _ ea)
  obtain ⟨o,h1,h2,_⟩:=p
  exact PySem.W.kia_one PySem.W.kitx_tuple I.kIn ⟨o,h1,h2⟩ e (fun z=>nomatch z) h
 | @dK a kvs ea =>
  cases (show u = Value.ref a from rx)
  obtain ⟨_,_,vs,_,p⟩:=(show ObjOk X.prog X.w H s.heap a (.dK kvs) from I.hok a _ ea)
  obtain ⟨o,es,ep,h1,h2,_⟩:=p
  exact PySem.W.kia_one PySem.W.kitx_dict I.kIn ⟨o,h1,h2.1⟩ e (fun z=>nomatch z) h
 | @dT a kvs ea =>
  cases (show u = Value.ref a from rx)
  obtain ⟨_,_,xs,_,o,es,ep,h1,h2,_⟩:=(show ObjOk X.prog X.w H s.heap a (.dT kvs) from I.hok a _ ea)
  exact PySem.W.kia_one PySem.W.kitx_dict I.kIn ⟨o,h1,h2.1⟩ e (fun z=>nomatch z) h
 | @ins a C dx fs ea cl ha hn htk hm =>
  cases (show u = Value.ref a from rx)
  obtain ⟨mA,O,_⟩:=ins_get I.hok ea
  obtain ⟨od,J,_⟩:=O.look
  exact PySem.W.kia_one (PySem.W.kitx_own (cl.get _) cl.hd ha hn htk hm) I.kIn J e (fun z=>nomatch z) h
end
end L2
namespace L2
open PySem PySem.Spec PyProof.Rows
structure Room (k:Nat) (A:Around):Prop where
 hd:A.handled = none
 dp:A.depth + 3 * k + 5 < recursionLimit
 un:A.units + 16 * k + 200 < cLine
theorem Room.mono {j k:Nat} {A:Around} (r:Room k A) (h:j≤k):Room j A:=⟨r.hd,by have:=r.dp; omega,by have:=r.un; omega⟩
theorem Room.deeper {k:Nat} {A:Around} (r:Room (k + 1) A) (env:Env):Room k (A.deeper env) :=
 ⟨r.hd,by have:=r.dp; show A.depth + 1 + 3 * k + 5 < _; omega,by have:=r.un; show A.units + 3 + 16 * k + 200 < _; omega⟩
theorem Room.depth {k:Nat} {A:Around} (r:Room k A):A.depth < recursionLimit:=by have:=r.dp; omega
theorem Room.units {k:Nat} {A:Around} (r:Room k A):A.units + 64 < cLine:=by have:=r.un; omega
def tNil:TA:=fun _ H Q=>Q [] H
def tCons (ta:TE) (tr:TA):TA:=fun σ H Q=>ta σ H fun x H1=>tr σ H1 fun xs H2=>Q (x :: xs) H2
section
variable {X:Cx} {e:Expr} {es:List Expr} {te:TE} {t:TA} {pos:Pos}
theorem pa_nil:PA X [] tNil:=fun _ _ _ _ H Q I h=>Calls.spliced_nil ⟨[],H,I,.nil,h⟩
theorem pa_cons (ha:PE X e te) (hr:PA X es t) (hs:starEach (e :: es) X.env = (false,eval e X.env) :: starEach es X.env:=by rfl):PA X (e :: es) (tCons te t):=by
 intro pos pins s σ H Q I h
 rw [hs]
 show wpAny _ _ (spliced ((false,eval e X.env) :: backTo pos (starEach es X.env))) _ _ s
 refine Calls.spliced_cons (thn (ha pins s σ H _ I h) fun u s1 ⟨x,H1,I1,r1,q1⟩=>?_)
 exact thn (hr pos pins s1 σ H1 _ I1 q1) fun us s2 ⟨xs,H2,I2,r2,q2⟩=>⟨x :: xs,H2,I2,.cons r1 r2,q2⟩
def tTup (t:TA):TE:=fun σ H Q=>t σ H fun xs H1=>xs.length≤sizeLine∧∀ p,H1 p = none→Q (.ref p) (upd H1 p (.tup xs))
def tLst (t:TA):TE:=fun σ H Q=>t σ H fun xs H1=>xs.length≤sizeLine∧∀ p,H1 p = none→Q (.ref p) (upd H1 p (.lst xs))
theorem pe_tup {x1} (h:PA X es t):PE X (.Tuple es x1 pos) (tTup t):=by
 intro pins s σ H Q I hq
 refine wpAny_Tuple_spliced (thn (h pos pins s σ H _ I hq) fun us s1 ⟨xs,H1,I1,r,z,q⟩=>⟨by rw [← r.length]; exact z,?_⟩)
 have hf:H1 s1.heap.objs.size = none:=I1.hok.fresh (Nat.le_refl _)
 refine ⟨.ref s1.heap.objs.size,upd H1 s1.heap.objs.size (.tup xs),I1.laid (t':=s1.toks) (fun b u e=>Heap.get?_push_of_some _ e) (Nat.le_refl _) ?_,rfl,q _ hf⟩
 exact ⟨z,us,r,⟨_,Heap.get?_push_size _ rfl,rfl,_,rfl⟩⟩
theorem pe_lst (h:PA X es t):PE X (.List es pos) (tLst t):=by
 intro pins s σ H Q I hq
 refine wpAny_List_spliced (thn (h pos pins s σ H _ I hq) fun us s1 ⟨xs,H1,I1,r,z,q⟩=>⟨by rw [← r.length]; exact z,?_⟩)
 have hf:H1 s1.heap.objs.size = none:=I1.hok.fresh (Nat.le_refl _)
 refine ⟨.ref s1.heap.objs.size,upd H1 s1.heap.objs.size (.lst xs),I1.laid (t':=s1.toks) (fun b u e=>Heap.get?_push_of_some _ e) (Nat.le_refl _) ?_,rfl,q _ hf⟩
 exact ⟨z,us,0,r,Heap.get?_push_size _ rfl⟩
end
abbrev Sp:=List V→Hp→VK→XK→Prop
abbrev CXT:=List Env→Hp→Shared→XK→Value→Shared→Prop
structure Env0 (P:Program) (w:World) (K:PySem.W.Frag) (mg:Str→Option Value) (base:Heap) (A:Around) (outer:List Env) (s:Shared) (H:Hp):Prop where
 frames:A.frames = some outer
 mod:Mod K mg base
 bs:∀ b o,base.get? b = some o→s.heap.get? b = some o∧H b = none
 bsz:base.objs.size≤s.heap.objs.size
 funs:s.heap.FunFrames base outer
 frf:∀ b∈frs outer,H b = none
 hok:HOk P w H s.heap
 bare:AllBare s.gens
def CE (outer:List Env) (P:Program) (w:World) (H:Hp) (s:Shared) (Q:VK) (u:Value) (s':Shared):Prop :=
 ∃ v H',s'.os = s.os∧AllBare s'.gens∧Un (frs outer) [] H H' s.heap s'.heap∧HOk P w H' s'.heap∧RelV v u∧Q v H'
def CR (CX:CXT) (outer:List Env) (P:Program) (w:World) (H:Hp) (s:Shared) (Q:VK) (E:XK) (r:Result) (s':Shared):Prop :=
 match r with
 | .ok (.ret u)=>CE outer P w H s Q u s'
 | .ok _=>False
 | .error e=>CX outer H s E e s'
structure FnOk (P:Program) (w:World) (K:PySem.W.Frag) (mg:Str→Option Value) (base:Heap) (CX:CXT) (k:Nat) (f:Addr) (fd:FuncData) (ps:List Str) (sp:Sp):Prop where
 len:∀ vs H Q E,sp vs H Q E→vs.length = ps.length
 run:∀ (A:Around) (outer:List Env) (s:Shared) (H:Hp) (args:Args) (us:List Value) (vs:List V) (Q:VK) (E:XK),Room k A→Env0 P w K mg base A outer s H→BindsTo s fd args (ps.zip us)→Vals vs us→sp vs H Q E →
  codeAny (model P w) A (.call (.ref f) args) (CR CX outer P w H s Q E) s
section
variable {X:Cx} {pins:List (Addr×Obj)} {σ:St} {H:Hp} {s s':Shared}
theorem Inv.env0 (I:Inv X pins σ H s):Env0 X.prog X.w X.K X.mg X.base X.A X.stack s H :=
 ⟨I.ok.frames,I.ok.mod,I.bs,Nat.le_trans I.ok.bsz I.sz,I.stack,I.stkFree,I.hok,I.bare⟩
theorem Inv.after {Q:VK} {u:Value} (I:Inv X pins σ H s) (h:CE X.stack X.prog X.w H s Q u s'):EP X pins σ Q u s':=by
 obtain ⟨v,H',os,bare,un,hok,r,q⟩:=h
 obtain ⟨hh,g,d,t,os'⟩:=s'
 obtain rfl:os' = s.os:=os
 exact ⟨v,H',I.call (h':=hh) (g':=g) (d':=d) (t':=t) (ch:=[]) un hok bare (fun b z=>absurd z (by simp)),r,q⟩
end
def tCall (sp:Sp) (dvs:List V) (E:XK) (t:TA):TE:=fun σ H Q=>t σ H fun vs H1=>sp (vs ++ dvs) H1 Q E
def Binds (K:PySem.W.Frag) (fd:FuncData) (ps:List Str) (ds:List Value):Prop :=
 ∀ (s:Shared) (us:List Value),K.In s.heap→(us ++ ds).length = ps.length→BindsTo s fd ⟨us,[]⟩ (ps.zip (us ++ ds))
theorem Binds.all {K:PySem.W.Frag} {fd:FuncData} {ps:List Str} (h:∀ us:List Value,us.length = ps.length→bindArgs fd ⟨us,[]⟩ = pure (ps.zip us)):Binds K fd ps []:=fun s us _ hl=>by
 rw [List.append_nil] at hl ⊢
 exact .of_eq (h us hl)
def Passes (CX:CXT) (X:Cx) (E:XK):Prop:=∀ (pins:List (Addr×Obj)) (σ:St) (H:Hp) (s:Shared) (e:Value) (s':Shared),Inv X pins σ H s→CX X.stack H s E e s'→X.xe e s'
section
variable {X:Cx} {CX:CXT} {k:Nat} {f C:Addr} {fd:FuncData} {ps:List Str} {sp:Sp} {dvs:List V} {ds:List Value} {E:XK} {x m:Str} {p pos apos:Pos} {e o:Expr} {es:List Expr} {ta:TE} {t:TA}
theorem run_fn {pins:List (Addr×Obj)} {σ:St} {H:Hp} {s:Shared} {Q:VK} {us:List Value} {vs:List V} (F:FnOk X.prog X.w X.K X.mg X.base CX k f fd ps sp) (hr:Room k X.A) (hb:Binds X.K fd ps ds) (hd:Vals dvs ds) (hx:Passes CX X E)
  (I:Inv X pins σ H s) (r:Vals vs us) (h:sp (vs ++ dvs) H Q E):wpAny (model X.prog X.w) X.A (call (.ref f) us) (EP X pins σ Q) X.xe s:=by
 have r2:Vals (vs ++ dvs) (us ++ ds):=r.append hd
 have hl:(us ++ ds).length = ps.length:=by rw [← r2.length]; exact F.len _ _ _ _ h
 refine wpAny_call (codeAny_mono (F.run X.A X.stack s H ⟨us,[]⟩ (us ++ ds) (vs ++ dvs) Q E hr I.env0 (hb s us I.kIn hl) r2 h) fun r s' hq=>?_)
 cases r with
 | error e=>exact hx pins σ H s e s' I hq
 | ok fl =>
  cases fl with
  | ret u=>exact I.after hq
  | next=>exact False.elim hq
  | brk=>exact False.elim hq
  | cont=>exact False.elim hq
theorem pe_call (F:FnOk X.prog X.w X.K X.mg X.base CX k f fd ps sp) (hr:Room k X.A) (hg:Gl X x) (hm:X.mg x = some (.ref f)) (hk:PySem.W.keepIn X.K (.ref f) = true) (hb:Binds X.K fd ps ds) (hd:Vals dvs ds) (hx:Passes CX X E)
  (ha:PA X (e :: es) t) (hdb:(x == ("__debug__":Str)) = false:=by decide) (he:starEach (e :: es) X.env = (false,eval e X.env) :: starEach es X.env:=by rfl) (hpl:(backTo pos (starEach es X.env)).any (·.1) = false:=by rfl) :
  PE X (.Call (.Name x p) (e :: es) [] pos) (tCall sp dvs E t):=by
 intro pins s σ H Q I h
 refine wpAny_Call_Name_kw (ld_glob I hg hm ?_ hdb)
 refine PySem.W.callWith_K (h₀:=X.base) I.ok.mod.kin hk (thn (ha pos pins s σ H _ I h) fun us s1 ⟨vs,H1,I1,r,q⟩=>⟨I1.kIn,?_⟩) he hpl
 exact run_fn F hr hb hd hx I1 r q
end
section
variable {X:Cx} {CX:CXT} {k:Nat} {f C:Addr} {fd:FuncData} {ps ks:List Str} {sp:Sp} {E:XK} {x m:Str} {p pos apos kpos:Pos} {e o:Expr} {es:List Expr} {kws:List Keyword} {te ta:TE} {t tk:TA} {nm:Option Str}
variable {g:List Value→List Value→List Value} {gV:List V→List V→List V}
end
structure FnScope (N P:List Str) (sc:Scope):Prop where
 kind:sc.kind = .function
 co:sc.isCoroutine = false
 gen:sc.isGenerator = false
 nd:N.Nodup
 pre:N.take P.length = P
 par:∀ x∈P,sc.names.lookup x = some .local∨sc.names.lookup x = some .cell
 nofree:∀ y∈sc.names,y.2≠.free
theorem bindL_out {kindOf:Str→Option NameKind} {x:Str}:∀ {binds:List (Str×Value)} {m:Str→Option Value},(∀ v,(x,v)∉binds)→bindL kindOf binds m x = m x
 | [],_,_=>rfl
 | (n,v) :: r,m,h=>by
  unfold bindL
  rw [bindL_out fun w hw=>h w (List.mem_cons_of_mem _ hw)]
  split
  ·have:x≠n:=by rintro rfl; exact h v List.mem_cons_self
   simp [this]
  ·rfl
theorem bindC_out {kindOf:Str→Option NameKind} {x:Str}:∀ {binds:List (Str×Value)} {m:Str→Option Value},(∀ v,(x,v)∉binds)→bindC kindOf binds m x = m x
 | [],_,_=>rfl
 | (n,v) :: r,m,h=>by
  unfold bindC
  rw [bindC_out fun w hw=>h w (List.mem_cons_of_mem _ hw)]
  split
  ·rfl
  ·have:x≠n:=by rintro rfl; exact h v List.mem_cons_self
   simp [this]
theorem bindL_get {kindOf:Str→Option NameKind} {x:Str} {v:Value}:∀ {P:List Str} {vs:List Value} {i:Nat} {m:Str→Option Value},P.Nodup→P[i]? = some x→vs[i]? = some v→kindOf x = some .local →
  bindL kindOf (P.zip vs) m x = some v
 | [],_,_,_,_,h,_,_=>by simp at h
 | _ :: _,[],_,_,_,_,h,_=>by simp at h
 | p :: P,w :: vs,0,m,nd,h1,h2,hk=>by
  simp at h1 h2; subst h1; subst h2
  show bindL kindOf ((p,w) :: P.zip vs) m p = _
  unfold bindL
  rw [bindL_out fun v hv=>(List.nodup_cons.mp nd).1 (List.of_mem_zip hv).1,if_pos hk]
  simp
 | p :: P,w :: vs,i + 1,m,nd,h1,h2,hk=>by
  show bindL kindOf ((p,w) :: P.zip vs) m x = _
  unfold bindL
  exact bindL_get (i:=i) (List.nodup_cons.mp nd).2 (by simpa using h1) (by simpa using h2) hk
theorem bindC_get {kindOf:Str→Option NameKind} {x:Str} {v:Value}:∀ {P:List Str} {vs:List Value} {i:Nat} {m:Str→Option Value},P.Nodup→P[i]? = some x→vs[i]? = some v→kindOf x≠some .local →
  bindC kindOf (P.zip vs) m x = some v
 | [],_,_,_,_,h,_,_=>by simp at h
 | _ :: _,[],_,_,_,_,h,_=>by simp at h
 | p :: P,w :: vs,0,m,nd,h1,h2,hk=>by
  simp at h1 h2; subst h1; subst h2
  show bindC kindOf ((p,w) :: P.zip vs) m p = _
  unfold bindC
  rw [bindC_out fun v hv=>(List.nodup_cons.mp nd).1 (List.of_mem_zip hv).1,if_neg hk]
  simp
 | p :: P,w :: vs,i + 1,m,nd,h1,h2,hk=>by
  show bindC kindOf ((p,w) :: P.zip vs) m x = _
  unfold bindC
  exact bindC_get (i:=i) (List.nodup_cons.mp nd).2 (by simpa using h1) (by simpa using h2) hk
def start (N:List Str) (vs:List V):St:=vs.map some ++ List.replicate (N.length - vs.length) none
def cxOf (CX:CXT) (P:Program) (w:World) (K:PySem.W.Frag) (mg:Str→Option Value) (base:Heap) (N:List Str) (qual:Str) (scope:Scope) (f:Addr) (cd:Value) (A:Around) (outer:List Env) (s:Shared) (H:Hp) (E:XK):Cx where
 prog:=P
 w:=w
 K:=K
 mg:=mg
 base:=base
 A:=A.deeper (envOfC qual scope s.heap.objs.size f cd)
 N:=N
 s₀:=s
 H₀:=H
 env:=envOfC qual scope s.heap.objs.size f cd
 outer:=outer
 stack:=envOfC qual scope s.heap.objs.size f cd :: outer
 ex:=[]
 calm:=true
 fn:=fun _=>true
 pn:=[]
 xe:=fun e s'=>wpAny (model P w) (A.deeper (envOfC qual scope s.heap.objs.size f cd)) (leaving (envOfC qual scope s.heap.objs.size f cd) e) (fun _ s''=>CX outer H s E e s'') (fun e' s''=>CX outer H s E e' s'') s'
theorem cell_has {sc:Scope} {n:Nat} {x:Str} (h:sc.names.lookup x = some .cell):∃ c,(cellsFrom n sc.names []).lookup x = some c:=by
 have q:=PySem.W.cellsFrom_some sc.names n [] (.inl h)
 exact Option.isSome_iff_exists.mp q
theorem inv_start {CX:CXT} {P:Program} {w:World} {K:PySem.W.Frag} {mg:Str→Option Value} {base:Heap} {N ps:List Str} {qual:Str} {scope:Scope} {f:Addr} {cd:Value} {A:Around} {outer:List Env} {s s1:Shared} {H:Hp} {E:XK} {us:List Value} {vs:List V}
  (S:FnScope N ps scope) (hd:A.handled = none) (e0:Env0 P w K mg base A outer s H) (hl:vs.length = ps.length) (r:Vals vs us)
  (x:InCallC s s.heap.objs.size (bindL (envOfC qual scope s.heap.objs.size f cd).kindOf (ps.zip us) fun _=>none) (cellsFrom (s.heap.objs.size + 1) scope.names []) (bindC (envOfC qual scope s.heap.objs.size f cd).kindOf (ps.zip us) fun _=>none) s1) :
  Inv (cxOf CX P w K mg base N qual scope f cd A outer s H E) [] (start N vs) H s1:=by
 have hpl:ps.length≤N.length:=by have:=congrArg List.length S.pre; rw [List.length_take] at this; omega
 obtain ⟨h1,tk,rfl,hk⟩:=x.done
 have noA:∀ b:Addr,b∉(cxOf CX P w K mg base N qual scope f cd A outer s H E).ex:=fun b z=>absurd (show b∈([]:List Addr) from z) (by simp)
 refine ⟨⟨e0.mod,S.kind,rfl,rfl,Nat.le_refl _,fun y z c h1 h2=>?_,fun y hy=>?_,fun y c _ h=>?_,fun _=>hd,Around.frames_deeper e0.frames,.inr ⟨rfl,rfl⟩,fun b z=>absurd z (noA b),e0.bs,e0.bsz,fun b _ _=>noA b,fun b z=>absurd z (noA b),e0.funs,e0.frf⟩,
  rfl,e0.bare,Un.kept hk,⟨_,x.toInCall.ns,fun i y v h1 h2 h3=>?_⟩,fun y c h=>⟨_,x.cell y c h⟩,e0.hok.fresh (Nat.le_refl _),fun y c h=>?_,fun p hp=>absurd (show p∈([]:List (Addr×Obj)) from hp) (by simp),e0.hok.kept hk,?_⟩
 ·exact name_of_addr x.apart (PySem.mem_of_lookup h1) (PySem.mem_of_lookup h2)
 ·have hy:scope.names.lookup y = some .cell∨scope.names.lookup y = some .free:=hy
  rcases hy with hy | hy
  ·exact cell_has hy
  ·exact absurd rfl (S.nofree _ (PySem.mem_of_lookup hy))
 ·exact Nat.le_of_lt (x.above y c (PySem.mem_of_lookup h))
 ·have hi:i < vs.length:=by
   unfold start at h2
   by_cases hi:i < vs.length
   ·exact hi
   ·rw [List.getElem?_append_right (by simpa using hi)] at h2
    rw [List.getElem?_replicate] at h2
    split at h2 <;> cases h2
  have ha:vs[i]? = some v:=by
   unfold start at h2
   rw [List.getElem?_append_left (by simpa using hi),List.getElem?_map] at h2
   cases e:vs[i]? with
   | none=>rw [e] at h2; cases h2
   | some a=>rw [e] at h2; cases h2; rfl
  obtain ⟨u,hu,rv⟩:=r.get ha
  have hp:ps[i]? = some y:=by
   rw [← S.pre,List.getElem?_take_of_lt (by omega)]; exact h1
  have ndP:ps.Nodup:=by rw [← S.pre]; exact S.nd.sublist (List.take_sublist _ _)
  refine ⟨u,rv,?_⟩
  rcases S.par y (List.mem_of_getElem? hp) with k | k
  ·exact .inl ⟨k,bindL_get ndP hp hu k⟩
  ·obtain ⟨c,e⟩:=cell_has (n:=s.heap.objs.size + 1) k
   refine .inr ⟨.inl k,c,e,?_⟩
   have q:=x.cell y c e
   rw [bindC_get ndP hp hu (by show scope.names.lookup y≠_; rw [k]; decide)] at q
   exact q
 ·exact e0.hok.fresh (Nat.le_of_lt (x.above y c (PySem.mem_of_lookup h)))
 ·unfold start
  show _ = N.length
  rw [List.length_append,List.length_map,List.length_replicate]
  omega
theorem fn_of {CX:CXT} {P:Program} {w:World} {K:PySem.W.Frag} {mg:Str→Option Value} {base:Heap} {k:Nat} {f:Addr} {name qual:Str} {params:Arguments} {body:List Stmt} {scope:Scope} {dV kV doc pm cdv ct oc:Value} {an od:Option Addr}
  {osl:Array (Option Value)} {N ps:List Str} {sp:Sp} (lk:K.lookup f = some ⟨oc,od,.func (PySem.W.fnOf name qual params body scope dV kV doc pm an cdv ct),osl⟩) (hcd:PySem.W.codeIn K cdv qual = true) (S:FnScope N ps scope)
  (len:∀ vs H Q E,sp vs H Q E→vs.length = ps.length)
  (hbody:∀ (A:Around) (outer:List Env) (s:Shared) (H:Hp) (vs:List V) (Q:VK) (E:XK),Room k (A.deeper (envOfC qual scope s.heap.objs.size f cdv))→sp vs H Q E →
   ∃ t,PSs (cxOf CX P w K mg base N qual scope f cdv A outer s H E) body t∧t { nx:=fun _ H'=>Q .non H',rt:=Q } (start N vs) H) :
  FnOk P w K mg base CX (k + 1) f (PySem.W.fnOf name qual params body scope dV kV doc pm an cdv ct) ps sp:=by
 refine ⟨len,fun A outer s H args us vs Q E hr e0 hb r hsp=>?_⟩
 have hl:=len _ _ _ _ hsp
 have KX:K.In s.heap:=e0.mod.kin.keeps fun b o e=>(e0.bs b o e).1
 have lim:s.heap.NoLimit:=e0.mod.nolimit.keeps fun b o e=>(e0.bs b o e).1
 have hkind:∀ y∈ps.zip us,scope.names.lookup y.1 = some .local∨(scope.names.lookup y.1 = some .cell∧((cellsFrom (s.heap.objs.size + 1) scope.names []).lookup y.1).isSome = true):=fun ⟨n,v⟩ hy=>by
  rcases S.par n (List.of_mem_zip hy).1 with q | q
  ·exact .inl q
  ·exact .inr ⟨q,PySem.W.cellsFrom_some _ _ _ (.inl q)⟩
 refine codeAny_call_function hr.depth (KX _ _ lk) rfl S.co S.gen rfl (PySem.W.codeRec_of KX hcd) (hb _ _ _ _ ?_)
 refine wpAny_newFunctionEnv_cells S.kind hkind fun env he s1 x=>?_
 subst he
 refine ⟨lim.keeps x.toInCall.keep,codeAny_func ?_⟩
 obtain ⟨t,ht,hq⟩:=hbody A outer s H vs Q E (hr.deeper _) hsp
 have I:Inv (cxOf CX P w K mg base N qual scope f cdv A outer s H E) [] (start N vs) H s1:=inv_start S hr.hd e0 hl r x
 refine wpAny_mono (ht [] s1 (start N vs) H _ I hq) (fun fl s' hs=>?_) fun e s' hs=>hs
 have fin:∀ {σ':St} {H':Hp} {v:V} {u:Value},Inv (cxOf CX P w K mg base N qual scope f cdv A outer s H E) [] σ' H' s'→RelV v u→Q v H'→CE outer P w H s Q u s' :=
  fun {σ' H' v u} J rv q=>⟨v,H',J.os,J.bare,J.base,J.hok,rv,q⟩
 cases fl with
 | ret u =>
  obtain ⟨v,σ',H',J,rv,q⟩:=hs
  exact fin J rv q
 | next =>
  obtain ⟨σ',H',J,q⟩:=hs
  exact fin (v:=V.non) (u:=Value.none) J rfl q
 | brk =>
  obtain ⟨_,_,_,q⟩:=hs
  exact False.elim q
 | cont =>
  obtain ⟨_,_,_,q⟩:=hs
  exact False.elim q
end L2
namespace L2
open PySem PySem.Spec PyProof.Rows
section
variable {X:Cx} {x:Str} {p pos:Pos} {e:Expr} {es:List Expr} {t:TA} {id T:String} {r:List V→Hp→VK→Prop}
def tCB (r:List V→Hp→VK→Prop) (t:TA):TE:=fun σ H Q=>t σ H fun vs H1=>r vs H1 Q
theorem pe_callB (hc:CallR X (.builtin id) r) (hg:Gl X x) (hm:X.mg x = none) (hv:bootBuiltins x = some (.builtin id)) (ha:PA X (e :: es) t) (hn:x≠"__name__":=by decide) (hdb:(x == ("__debug__":Str)) = false:=by decide)
  (he:starEach (e :: es) X.env = (false,eval e X.env) :: starEach es X.env:=by rfl) (hpl:(backTo pos (starEach es X.env)).any (·.1) = false:=by rfl):PE X (.Call (.Name x p) (e :: es) [] pos) (tCB r t):=by
 intro pins s σ H Q I h
 refine wpAny_Call_Name_kw (ld_blt I hg hm hv ?_ hn hdb)
 exact PyProof.Rows.callWith_builtin1 (thn (ha pos pins s σ H _ I h) fun us s1 ⟨vs,H1,I1,r1,q1⟩=>hc pins s1 σ H1 vs us Q I1 r1 q1) he hpl
theorem pe_callTy (hc:CallR X (.type T) r) (hg:Gl X x) (hm:X.mg x = none) (hv:bootBuiltins x = some (.type T)) (ha:PA X (e :: es) t) (hn:x≠"__name__":=by decide) (hdb:(x == ("__debug__":Str)) = false:=by decide)
  (he:starEach (e :: es) X.env = (false,eval e X.env) :: starEach es X.env:=by rfl) (hpl:(backTo pos (starEach es X.env)).any (·.1) = false:=by rfl):PE X (.Call (.Name x p) (e :: es) [] pos) (tCB r t):=by
 intro pins s σ H Q I h
 refine wpAny_Call_Name_kw (ld_blt I hg hm hv ?_ hn hdb)
 exact PyProof.Rows.callWith_type1 (thn (ha pos pins s σ H _ I h) fun us s1 ⟨vs,H1,I1,r1,q1⟩=>hc pins s1 σ H1 vs us Q I1 r1 q1) he hpl
end
end L2
namespace HT
open PySem PyProof.Rows
section
open PySem.SeqAt
open PySem.AutoSeq1 (wpAny_loadPart')
open PySem.MeetsSeq PySem.MeetsSeq2 PySem.MeetsSeq3
end
section
variable {prog:Program} {w:World} {A:Around} {E:Value→Shared→Prop} {s:Shared}
theorem cat_tup {t b:Addr} {vs ws:List Value} {Q:Value→Shared→Prop} (ht:IsTup s.heap t vs.toArray) (hb:IsTup s.heap b ws.toArray) (hv:vs≠[])
  (h1:ws = []→Q (.ref t) s) (h2:ws≠[]→Q (.ref s.heap.objs.size) { s with heap:=s.heap.push { cls:=.type "tuple",data:=.seq (vs ++ ws).toArray } })
  (hsz:vs.length + ws.length≤sizeLine):wpAny (model prog w) A (binaryOp .Add (.ref t) (.ref b)) Q E s:=by
 obtain ⟨⟨cls,dd,data,sl⟩,ho,hc,n,hd⟩:=id ht
 obtain ⟨⟨cls2,dd2,data2,sl2⟩,ho2,hc2,n2,hd2⟩:=id hb
 simp only at hc hd hc2 hd2
 subst hc hd hc2 hd2
 have e:vs.toArray ++ ws.toArray = (vs ++ ws).toArray:=by simp
 by_cases hw:ws = []
 ·exact concat_meets ⟨_,ho,rfl⟩ ⟨_,ho2,rfl⟩ noFill_tuple_add seq_tuple_add PySem.F.slot_tuple_add PySem.F.entry_tuple_add (PySem.F.args_tuple_add_2 _ _)
   (tuple_addW1 t b vs.toArray ws.toArray n n2 dd dd2 sl sl2 (by simpa using hv) (by simp [hw])) ⟨ho,ho2,h1 hw⟩
 ·refine concat_meets ⟨_,ho,rfl⟩ ⟨_,ho2,rfl⟩ noFill_tuple_add seq_tuple_add PySem.F.slot_tuple_add PySem.F.entry_tuple_add (PySem.F.args_tuple_add_2 _ _)
   (tuple_addW2 t b vs.toArray ws.toArray n n2 dd dd2 sl sl2 (by simpa using hv) (by simpa using hw) (by rw [List.size_toArray,List.size_toArray]; exact hsz)) ⟨ho,ho2,?_⟩
  rw [e]
  exact h2 hw
def sIx (n d:Nat):Option Int→Nat
 | none=>d
 | some v=>if v < 0 then (v + (n:Int)).toNat else min v.toNat n
theorem sIx_none (n d:Nat):sIx n d none = d:=rfl
theorem sIx_nat (n d k:Nat):sIx n d (some (k:Int)) = min k n:=by
 show (if (k:Int) < 0 then ((k:Int) + (n:Int)).toNat else min (k:Int).toNat n) = min k n
 rw [if_neg (by omega),Int.toNat_natCast]
theorem sIx_le (n d:Nat) (hd:d≤n) (o:Option Int):sIx n d o≤n:=by
 cases o with
 | none=>exact hd
 | some v =>
  show (if v < 0 then (v + (n:Int)).toNat else min v.toNat n)≤n
  by_cases hv:v < 0
  ·rw [if_pos hv]; omega
  ·rw [if_neg hv]; exact Nat.min_le_right _ _
theorem clip_eq (v:Int) (n d:Nat):(if v < 0 then max (v + (n:Int)) 0 else min v (n:Int)) = ((sIx n d (some v):Nat):Int):=by
 show (if v < 0 then max (v + (n:Int)) 0 else min v (n:Int)) = (((if v < 0 then (v + (n:Int)).toNat else min v.toNat n):Nat):Int)
 by_cases hv:v < 0
 ·simp only [if_pos hv]; omega
 ·simp only [if_neg hv]; omega
theorem adjust_gen (lo hi:Option Int) (n:Nat):Builtin.Slice.sliceAdjust lo hi 1 (n:Int) = (((sIx n 0 lo:Nat):Int),((sIx n n hi:Nat):Int)):=by
 have h1:¬ ((1:Int) < 0):=by omega
 unfold Builtin.Slice.sliceAdjust
 simp only [h1,if_false]
 refine Prod.ext ?_ ?_
 ·cases lo with
  | none=>rfl
  | some v=>exact clip_eq v n 0
 ·cases hi with
  | none=>rfl
  | some v=>exact clip_eq v n n
theorem places_gen (i j:Nat):Builtin.Slice.slicePlaces (i:Int) (j:Int) 1 = j - i:=by
 unfold Builtin.Slice.slicePlaces
 have h1:(1:Int) > 0:=by omega
 simp only [h1,if_true,Int.ediv_one]
 split <;> omega
theorem slicePart_ {v:Value} {o:Option Int} {Q:Option Int→Shared→Prop} (p:IsPart v o) (h:Q o s):wpAny (model prog w) A (Builtin.Slice.slicePartIndex v) Q E s:=by
 cases p with
 | none=>exact slicePart_none h
 | int i t=>exact slicePart_int h
theorem sliceApplied_gen {sl:Addr} {vl vu:Value} {lo hi:Option Int} {n:Nat} {Q:Int×Int×Nat→Shared→Prop} (hs:s.heap.IsSliceOf sl vl vu .none) (pl:IsPart vl lo) (pu:IsPart vu hi)
  (h:Q (((sIx n 0 lo:Nat):Int),1,sIx n n hi - sIx n 0 lo) s):wpAny (model prog w) A (Builtin.Slice.sliceApplied (.ref sl) (pure (n:Int))) Q E s:=by
 obtain ⟨os,hos,hcs,hds⟩:=id hs
 unfold Builtin.Slice.sliceApplied Builtin.Slice.sliceFields
 refine wpAny_bind (wpAny_bind (wpAny_field hos hds (x:=vl) rfl (wpAny_bind (wpAny_field hos hds (x:=vu) rfl (wpAny_bind (wpAny_field hos hds (x:=.none) rfl (wpAny_pure ?_)))))))
 refine wpAny_bind (slicePart_none ?_)
 show wpAny _ _ (if ((1:Int) == 0) = true then _ else _) _ _ s
 rw [if_neg (by decide)]
 refine wpAny_bind (slicePart_ pl (wpAny_bind (slicePart_ pu (wpAny_bind (wpAny_pure ?_)))))
 show wpAny _ _ (match Builtin.Slice.sliceAdjust lo hi 1 (n:Int) with | (lo,hi)=>pure (lo,(1:Int),Builtin.Slice.slicePlaces lo hi 1)) _ _ s
 rw [adjust_gen lo hi n]
 show wpAny _ _ (pure (((sIx n 0 lo:Nat):Int),(1:Int),Builtin.Slice.slicePlaces ((sIx n 0 lo:Nat):Int) ((sIx n n hi:Nat):Int) 1)) _ _ s
 rw [places_gen]
 exact wpAny_pure h
theorem pick_gen (xs:Array Value) (i k:Nat):((List.range k).filterMap fun (m:Nat)=>xs[((i:Int) + (m:Int) * 1).toNat]?).toArray = ((xs.toList.drop i).take k).toArray:=by
 have e:(fun (m:Nat)=>xs[((i:Int) + (m:Int) * 1).toNat]?) = fun m=>xs[i + m]?:=by
  funext m
  have:((i:Int) + (m:Int) * 1).toNat = i + m:=by omega
  rw [this]
 rw [e]
 have:=pick_run xs i k
 rw [List.filterMap_map] at this
 have e2:((fun x=>xs[x]?) ∘ fun x=>i + x) = fun m=>xs[i + m]?:=rfl
 rw [e2] at this
 rw [this]
theorem getItem_tuple_cut {t sl:Addr} {items:Array Value} {vl vu:Value} {lo hi:Option Int} {Q:Value→Shared→Prop} (ht:IsTup s.heap t items) (hs:s.heap.IsSliceOf sl vl vu .none) (pl:IsPart vl lo) (pu:IsPart vu hi)
  (hw:¬ (sIx items.size 0 lo = 0∧sIx items.size items.size hi = items.size))
  (h:Q (.ref s.heap.objs.size) { s with heap:=s.heap.push { cls:=.type "tuple",data:=.seq ((items.toList.drop (sIx items.size 0 lo)).take (sIx items.size items.size hi - sIx items.size 0 lo)).toArray } })
  (hsz:items.size≤sizeLine):wpAny (model prog w) A (getItem (.ref t) (.ref sl)) Q E s:=by
 have htake:sizeOk (.seq ((items.toList.drop (sIx items.size 0 lo)).take (sIx items.size items.size hi - sIx items.size 0 lo)).toArray):=by
  show ((items.toList.drop (sIx items.size 0 lo)).take (sIx items.size items.size hi - sIx items.size 0 lo)).toArray.size≤sizeLine
  rw [List.size_toArray,List.length_take,List.length_drop,Array.length_toList]
  omega
 have hj:sIx items.size items.size hi≤items.size:=sIx_le _ _ (Nat.le_refl _) hi
 obtain ⟨os,hos,hcs,hds⟩:=id hs
 have hTs:s.TypeIs (.ref sl) "slice":=⟨os,hos,hcs⟩
 unfold getItem
 try with_reducible refine wpAny_holding ?_
 first | refine wpAny_bind (wpAny_pure ?_) | skip
 refine wpAny_bind (wpAny_sequenceKey ht.typeIs (by decide) ?_)
 refine wpAny_bind (wpAny_callSpecial?_slot (name:=Str.ofString "__getitem__") ht.typeIs PyProof.Rows.slot_tuple_getitem
  (wpAny_call_entry PyProof.Rows.slot_tuple_getitem ht.typeIs entry_tuple_getitem ?_ (args_tuple_getitem _ _)))
 show wpAny _ _ (Builtin.Tuple.tupleItemsOf (.ref t) >>= _) _ _ s
 refine wpAny_bind (tupleItemsOf_ ht ?_)
 refine wpAny_bind (wpAny_typeOf hTs ?_)
 rw [if_pos (by decide)]
 refine wpAny_bind (sliceApplied_gen hs pl pu ?_)
 have hno:¬ ((((sIx items.size 0 lo:Nat):Int) == 0 && (1:Int) == 1 && (sIx items.size items.size hi - sIx items.size 0 lo) == items.size) = true):=by
  intro q
  rw [Bool.and_eq_true,Bool.and_eq_true] at q
  have q1:((sIx items.size 0 lo:Nat):Int) = 0:=eq_of_beq q.1.1
  have q2:sIx items.size items.size hi - sIx items.size 0 lo = items.size:=eq_of_beq q.2
  exact hw ⟨by omega,by omega⟩
 show wpAny _ _ (if (((sIx items.size 0 lo:Nat):Int) == 0 && (1:Int) == 1 && (sIx items.size items.size hi - sIx items.size 0 lo) == items.size) = true then _ else _) _ _ s
 rw [if_neg hno,pick_gen]
 first
  | exact wpAny_bind (m:=Builtin.Tuple.tupleExact _) (wpAny_newObj_type (wpAny_pure ⟨_,rfl,wpAny_pure h⟩) htake)
  | exact wpAny_bind (m:=Builtin.Tuple.tupleExact _) (wpAny_newObj_type (wpAny_bind (wpAny_pure (wpAny_pure ⟨_,rfl,wpAny_pure h⟩))) htake)
  | exact wpAny_bind (wpAny_bind (m:=Builtin.Tuple.tupleExact _) (wpAny_newObj_type (wpAny_pure (wpAny_pure ⟨_,rfl,wpAny_pure h⟩)) htake))
  | exact wpAny_bind (wpAny_bind (m:=Builtin.Tuple.tupleExact _) (wpAny_newObj_type (wpAny_pure ⟨_,rfl,wpAny_pure h⟩) htake))
end
end HT
namespace L2
open PySem PySem.Spec PyProof.Rows
abbrev TO:=St→Hp→(Option Int→Hp→Prop)→Prop
def PO (X:Cx) (e:Option Expr) (t:TO):Prop :=
 ∀ (pins:List (Addr×Obj)) (s:Shared) (σ:St) (H:Hp) (Q:Option Int→Hp→Prop),Inv X pins σ H s→t σ H Q →
  wpAny (model X.prog X.w) X.A (evalPart e X.env) (fun u s'=>∃ o H',Inv X pins σ H' s'∧IsPart u o∧Q o H') X.xe s
def tNoPart:TO:=fun _ H Q=>Q none H
def tPart (t:TE):TO:=fun σ H Q=>t σ H fun x H1=>∃ i,x = .int i∧Q (some i) H1
theorem intsAre_of {ns:List Int}:∀ {us:List Value},Vals (ns.map V.int) us→IntsAre us ns:=by
 induction ns with
 | nil=>intro us r; rw [List.map_nil] at r; cases r; exact .nil
 | cons n ns ih =>
  intro us r
  rw [List.map_cons] at r
  cases r with
  | cons r1 r2 =>
   obtain ⟨t,e⟩:=r1
   subst e
   exact .cons n t (ih r2)
section
variable {X:Cx} {e:Expr} {te:TE} {lo hi:Option Expr} {tl th:TO} {pos p2:Pos}
theorem po_none:PO X none tNoPart:=by
 intro pins s σ H Q I h
 rw [evalPart_none]
 exact wpAny_pure ⟨none,H,I,.none,h⟩
theorem po_some (h:PE X e te):PO X (some e) (tPart te):=by
 intro pins s σ H Q I hw
 rw [evalPart_some]
 refine thn (h pins s σ H _ I hw) fun u s1 ⟨x,H1,I1,r1,q1⟩=>?_
 obtain ⟨i,rfl,q⟩:=q1
 obtain ⟨t,rfl⟩:=r1
 exact ⟨some i,H1,I1,.int i t,q⟩
def SlR (X:Cx) (r:V→Option Int→Option Int→Hp→VK→Prop):Prop :=
 ∀ (pins:List (Addr×Obj)) (s:Shared) (σ:St) (H:Hp) (x:V) (v vl vu:Value) (lo hi:Option Int) (sl:Addr) (Q:VK),Inv X pins σ H s→RelV x v→s.heap.IsSliceOf sl vl vu .none→IsPart vl lo→IsPart vu hi→r x lo hi H Q →
  ∃ T id,typeLookup (.type T) "__getitem__" = pure (some (.builtin id))∧s.TypeIs v T∧wpAny (model X.prog X.w) X.A (getItem v (.ref sl)) (EP X pins σ Q) X.xe s
def tSl (r:V→Option Int→Option Int→Hp→VK→Prop) (te:TE) (tl th:TO):TE:=fun σ H Q=>te σ H fun x H1=>tl σ H1 fun l H2=>th σ H2 fun u H3=>r x l u H3 Q
theorem pe_slice {r:V→Option Int→Option Int→Hp→VK→Prop} (hr:SlR X r) (he:PE X e te) (hl:PO X lo tl) (hu:PO X hi th):PE X (.Subscript e (.Slice lo hi none p2) pos) (tSl r te tl th):=by
 intro pins s σ H Q I h
 refine Subscript_ (thn (he pins s σ H _ I h) fun v s1 ⟨x,H1,I1,r1,q1⟩=>?_)
 refine wpAny_Slice (thn (hl pins s1 σ H1 _ I1 q1) fun vl s2 ⟨l,H2,I2,pl,q2⟩=>thn (hu pins s2 σ H2 _ I2 q2) fun vu s3 ⟨u,H3,I3,pu,q3⟩=>?_)
 rw [evalPart_none]
 refine wpAny_pure ?_
 have I4:Inv X pins σ H3 { s3 with heap:=s3.heap.push { cls:=.type "slice",data:=.fields #[vl,vu,.none] } }:=I3.kept (t':=s3.toks) fun b ob q=>Heap.get?_push_of_some _ q
 obtain ⟨T,id,hT,ht,hg⟩:=hr pins { s3 with heap:=s3.heap.push { cls:=.type "slice",data:=.fields #[vl,vu,.none] } } σ H3 x v vl vu l u s3.heap.objs.size Q I4 r1 (Heap.IsSliceOf.new ..) pl pu q3
 show wpAny (model X.prog X.w) X.A (subscriptTail e (.Slice lo hi none p2) v (.ref s3.heap.objs.size)) (EP X pins σ Q) X.xe { s3 with heap:=s3.heap.push { cls:=.type "slice",data:=.fields #[vl,vu,.none] } }
 exact tail_any (ops:=[.ref s3.heap.objs.size,v]) ht hT hg (by with_unfolding_all rfl)
def cutV (xs:List V) (lo hi:Option Int):List V:=(xs.drop (HT.sIx xs.length 0 lo)).take (HT.sIx xs.length xs.length hi - HT.sIx xs.length 0 lo)
theorem cutV_length (xs:List V) (lo hi:Option Int):(cutV xs lo hi).length≤xs.length:=by
 unfold cutV
 rw [List.length_take,List.length_drop]
 omega
def rSlT (K:PySem.W.Frag):V→Option Int→Option Int→Hp→VK→Prop:=fun x lo hi H Q=>∃ a xs,x = .ref a∧SqT K H a xs ∧
 ¬ (HT.sIx xs.length 0 lo = 0∧HT.sIx xs.length xs.length hi = xs.length)∧∀ p,H p = none→Q (.ref p) (upd H p (.tup (cutV xs lo hi)))
theorem sl_tup:SlR X (rSlT X.K):=by
 intro pins s σ H x v vl vu lo hi sl Q I rx hs pl pu h
 obtain ⟨a,xs,rfl,hx,hw,q⟩:=h
 cases rx
 obtain ⟨its,r,ht,hz⟩:=I.tuple hx
 have hlen:its.toArray.size = xs.length:=by rw [List.size_toArray]; exact r.length.symm
 refine ⟨"tuple",_,PyProof.Rows.slot_tuple_getitem.lookup,ht.typeIs,?_⟩
 refine HT.getItem_tuple_cut ht hs pl pu (by rw [hlen]; exact hw) ?_ (by rw [hlen]; exact hz)
 rw [hlen]
 refine ⟨.ref s.heap.objs.size,_,I.laid (t':=s.toks) (o:=.tup (cutV xs lo hi)) (fun b ob q=>Heap.get?_push_of_some _ q) (Nat.le_refl _) ?_,rfl,q _ (I.hok.fresh (Nat.le_refl _))⟩
 exact ⟨Nat.le_trans (cutV_length xs lo hi) hz,_,(r.drop (HT.sIx xs.length 0 lo)).take (HT.sIx xs.length xs.length hi - HT.sIx xs.length 0 lo),IsTup.new _ _⟩
def rCatT (K:PySem.W.Frag):R2:=fun x y H Q=>∃ a b xs ys,x = .ref a∧y = .ref b∧SqT K H a xs∧SqT K H b ys∧xs≠[]∧xs.length + ys.length≤sizeLine ∧
 (ys = []→Q (.ref a) H)∧(ys≠[]→∀ p,H p = none→Q (.ref p) (upd H p (.tup (xs ++ ys))))
theorem Vals.nil_iff {xs:List V} {us:List Value} (r:Vals xs us):us = []↔xs = []:=by
 cases r with
 | nil=>simp
 | cons _ _=>simp
theorem op_catT:OpR X (binaryOp .Add) (rCatT X.K):=by
 intro pins s σ H x y v u Q I rx ry h
 obtain ⟨a,b,xs,ys,rfl,rfl,ha,hb,hx,hz,q1,q2⟩:=h
 cases rx
 cases ry
 obtain ⟨its,r1,p1,_⟩:=I.tuple ha
 obtain ⟨its2,r2,p2,_⟩:=I.tuple hb
 refine HT.cat_tup p1 p2 (fun z=>hx (r1.nil_iff.mp z)) (fun z=>⟨.ref a,H,I,rfl,q1 (r2.nil_iff.mp z)⟩) (fun z=>?_) (by rw [← r1.length,← r2.length]; exact hz)
 refine ⟨.ref s.heap.objs.size,_,I.laid (t':=s.toks) (o:=.tup (xs ++ ys)) (fun b ob q=>Heap.get?_push_of_some _ q) (Nat.le_refl _) ?_,rfl,q2 (fun w=>z (r2.nil_iff.mpr w)) _ (I.hok.fresh (Nat.le_refl _))⟩
 exact ⟨by rw [List.length_append]; exact hz,_,r1.append r2,IsTup.new _ _⟩
end
end L2
namespace L2
open PySem PySem.Spec PyProof.Rows
def ixN (n:Nat) (i:Int):Option Nat:=if 0≤i then (if i < n then some i.toNat else none) else if -(n:Int)≤i then some (i + n).toNat else none
def atI {α:Type} (xs:List α) (i:Int):Option α:=(ixN xs.length i).bind fun j=>xs[j]?
theorem ixN_seq {n:Nat} {i:Int} {j:Nat} (h:ixN n i = some j):seqIndex? i n = some j∧j < n∧-(n:Int)≤i∧i < n:=by
 unfold ixN at h
 by_cases h0:0≤i
 ·rw [if_pos h0] at h
  by_cases h1:i < n
  ·rw [if_pos h1] at h
   have e:i.toNat = j:=Option.some.inj h
   exact ⟨by rw [seqIndex_of h0 h1,e],by omega,by omega,h1⟩
  ·rw [if_neg h1] at h; cases h
 ·rw [if_neg h0] at h
  by_cases h1:-(n:Int)≤i
  ·rw [if_pos h1] at h
   have e:(i + n).toNat = j:=Option.some.inj h
   exact ⟨by rw [seqIndex_neg (by omega) h1,e],by omega,h1,by omega⟩
  ·rw [if_neg h1] at h; cases h
theorem atI_get {α:Type} {xs:List α} {i:Int} {v:α} (h:atI xs i = some v):∃ j,seqIndex? i xs.length = some j∧xs[j]? = some v∧j < xs.length∧-(xs.length:Int)≤i∧i < xs.length:=by
 unfold atI at h
 cases e:ixN xs.length i with
 | none=>rw [e] at h; cases h
 | some j =>
  rw [e] at h
  obtain ⟨h1,h2,h3,h4⟩:=ixN_seq e
  exact ⟨j,h1,h,h2,h3,h4⟩
theorem atI_nat {α:Type} {xs:List α} {j:Nat} {v:α} (h:xs[j]? = some v):atI xs (j:Int) = some v:=by
 have hj:j < xs.length:=(List.getElem?_eq_some_iff.mp h).1
 have e:ixN xs.length (j:Int) = some j:=by
  unfold ixN
  rw [if_pos (by omega),if_pos (by omega)]; simp
 unfold atI; rw [e]; exact h
def PlainIx (b:Expr):Prop:=∀ o i,subscripted b false o i = operate [o,i] (getItem o i)
def IxR (X:Cx) (r:R2):Prop :=
 ∀ (value slice:Expr) (pins:List (Addr×Obj)) (s:Shared) (σ:St) (H:Hp) (x y:V) (v u:Value) (Q:VK),Inv X pins σ H s→RelV x v→RelV y u→r x y H Q →
  subscripted slice false v u = operate [v,u] (getItem v u)→wpAny (model X.prog X.w) X.A (subscriptTail value slice v u) (EP X pins σ Q) X.xe s
def MtR (X:Cx) (id:String) (r:V→List V→Hp→VK→Prop):Prop :=
 ∀ (pins:List (Addr×Obj)) (s:Shared) (σ:St) (H:Hp) (x:V) (xs:List V) (v:Value) (us:List Value) (Q:VK),Inv X pins σ H s→RelV x v→Vals xs us→r x xs H Q →
  wpAny (model X.prog X.w) X.A (call (.builtin id) (v :: us)) (EP X pins σ Q) X.xe s
section
variable {X:Cx} {a b:Expr} {ta tb:TE} {pos:Pos}
theorem IxR.or {r r':R2} (h:IxR X r) (h':IxR X r'):IxR X (fun x y H Q=>r x y H Q∨r' x y H Q):=by
 intro value slice pins s σ H x y v u Q I rx ry q hs
 rcases q with q | q
 ·exact h value slice pins s σ H x y v u Q I rx ry q hs
 ·exact h' value slice pins s σ H x y v u Q I rx ry q hs
theorem pe_ix {r:R2} (hr:IxR X r) (ha:PE X a ta) (hb:PE X b tb) (hs:PlainIx b):PE X (.Subscript a b pos) (tOp r ta tb):=by
 intro pins s σ H Q I h
 exact Subscript_ (binT ha hb I h fun v u s2 x y H2 I2 rx ry q=>hr a b pins s2 σ H2 x y v u Q I2 rx ry q (hs _ _))
def rIxL (K:PySem.W.Frag):R2:=fun x y H Q=>∃ p xs i v,x = .ref p∧y = .int i∧SqL K H p xs∧atI xs i = some v∧Q v H
def rIxT (K:PySem.W.Frag):R2:=fun x y H Q=>∃ p xs i v,x = .ref p∧y = .int i∧SqT K H p xs∧atI xs i = some v∧Q v H
def rIxS:R2:=fun x y H Q=>∃ z i c,x = .str z∧y = .int i∧z.length≤sizeLine∧atI z.cps.toList i = some c∧Q (.str ⟨#[c]⟩) H
theorem ix_list:IxR X (rIxL X.K):=by
 intro value slice pins s σ H x y v u Q I rx ry h hs
 obtain ⟨p,xs,i,z,rfl,rfl,hq,he,q⟩:=h
 cases rx
 obtain ⟨t,rfl⟩:=ry
 obtain ⟨its,r,pl,hz⟩:=I.list hq
 obtain ⟨j,h1,h2,h3,h4,h5⟩:=atI_get he
 obtain ⟨w,ew,rw'⟩:=r.get h2
 have hl:=r.length
 have hn:=line63
 have fin:EP X pins σ Q w s:=⟨z,H,I,rw',q⟩
 by_cases h0:0≤i
 ·have hj:i.toNat = j:=by
   rw [seqIndex_of h0 h5] at h1
   exact Option.some.inj h1
  exact item_listR pl.isList h0 (by omega) (by rw [hj]; simpa using ew) fin hs
 ·have hj:(i + (its.toArray.size:Int)).toNat = j:=by
   rw [seqIndex_neg (by omega) h4] at h1
   rw [List.size_toArray,← hl]
   exact Option.some.inj h1
  exact subscriptTail_builtinR (x:=w) pl.isList.typeIs slot_list_getitem.lookup
   (wpAny_getItem_list_neg (Q:=fun r s'=>r = w∧EP X pins σ Q r s') pl.isList (by omega) (by rw [List.size_toArray] <;> omega) (by omega) (by rw [hj]; simpa using ew) ⟨rfl,fin⟩) hs
theorem ix_tup:IxR X (rIxT X.K):=by
 intro value slice pins s σ H x y v u Q I rx ry h hs
 obtain ⟨p,xs,i,z,rfl,rfl,hq,he,q⟩:=h
 cases rx
 obtain ⟨t,rfl⟩:=ry
 obtain ⟨its,r,pl,hz⟩:=I.tuple hq
 obtain ⟨j,h1,h2,h3,h4,h5⟩:=atI_get he
 obtain ⟨w,ew,rw'⟩:=r.get h2
 have hl:=r.length
 have hn:=line63
 have fin:EP X pins σ Q w s:=⟨z,H,I,rw',q⟩
 exact subscriptTail_builtinR (x:=w) pl.typeIs slot_tuple_getitem.lookup
  (getItem_tuple (j:=j) (Q:=fun r s'=>r = w∧EP X pins σ Q r s') pl (by omega) (by omega) (by rw [List.size_toArray,← hl]; exact h1) (by simpa using ew) ⟨rfl,fin⟩) hs
theorem ix_str:IxR X rIxS:=by
 intro value slice pins s σ H x y v u Q I rx ry h hs
 obtain ⟨z,i,c,rfl,rfl,hz,he,q⟩:=h
 obtain ⟨t,rfl⟩:=rx
 obtain ⟨t',rfl⟩:=ry
 obtain ⟨j,h1,h2,h3,h4,h5⟩:=atI_get he
 have hl:z.cps.toList.length = z.length:=by simp [Str.length]
 rw [hl] at h1 h4 h5
 have hn:=line63
 exact tail_any (typeIs_str s z t) slot_str_getitem.lookup (getItem_str (c:=c) (by
  have e1:decide (i < -(2 ^ 63:Int)) = false:=decide_eq_false (by omega)
  have e2:decide (i ≥ 2 ^ 63) = false:=decide_eq_false (by omega)
  rw [e1,e2,Bool.or_false]) (by rw [h1]; simpa using h2) ⟨.str ⟨#[c]⟩,H,I.tok _,⟨_,rfl⟩,q⟩) hs
def rIx (K:PySem.W.Frag):R2:=fun x y H Q=>rIxL K x y H Q∨rIxT K x y H Q∨rIxS x y H Q
theorem ix_seq:IxR X (rIx X.K):=ix_list.or (ix_tup.or ix_str)
theorem slice_bounds (lo hi:Option Int) (n:Nat):(sliceBounds lo hi none n).1 = ((HT.sIx n 0 lo:Nat):Int)∧(sliceBounds lo hi none n).2.1 = ((HT.sIx n n hi:Nat):Int)∧(sliceBounds lo hi none n).2.2 = 1:=by
 refine ⟨?_,?_,rfl⟩
 ·cases lo with
  | none=>simp [sliceBounds,HT.sIx]
  | some i =>
   simp only [sliceBounds,HT.sIx,Option.getD_none,show (1:Int) > 0 by decide,if_true]
   by_cases h:i < 0
   ·simp only [h,if_true] <;> omega
   ·simp only [h,if_false] <;> omega
 ·cases hi with
  | none=>simp [sliceBounds,HT.sIx]
  | some i =>
   simp only [sliceBounds,HT.sIx,Option.getD_none,show (1:Int) > 0 by decide,if_true]
   by_cases h:i < 0
   ·simp only [h,if_true] <;> omega
   ·simp only [h,if_false] <;> omega
theorem slicePick_cut (its:List Value) (lo hi:Option Int):slicePick its.toArray lo hi none = ((its.drop (HT.sIx its.length 0 lo)).take (HT.sIx its.length its.length hi - HT.sIx its.length 0 lo)).toArray:=by
 obtain ⟨h1,h2,h3⟩:=slice_bounds lo hi its.toArray.size
 unfold slicePick
 rw [h1,h2,h3]
 simp only [sliceRange_one,pick_run,List.size_toArray] <;> rfl
def rSlL (K:PySem.W.Frag):V→Option Int→Option Int→Hp→VK→Prop:=fun x lo hi H Q=>∃ a xs,x = .ref a∧SqL K H a xs∧∀ p,H p = none→Q (.ref p) (upd H p (.lst (cutV xs lo hi)))
theorem sl_list:SlR X (rSlL X.K):=by
 intro pins s σ H x v vl vu lo hi sl Q I rx hs pl pu h
 obtain ⟨a,xs,rfl,hx,q⟩:=h
 cases rx
 obtain ⟨its,r,ht,hz⟩:=I.list hx
 have hlen:=r.length
 refine ⟨"list",_,slot_list_getitem.lookup,ht.isList.typeIs,?_⟩
 refine wpAny_getItem_list_slice ht.isList hs pl pu .none (by simp) ?_ (by rw [List.size_toArray] <;> omega)
 rw [slicePick_cut,← hlen]
 refine ⟨.ref s.heap.objs.size,_,I.laid (t':=s.toks) (o:=.lst (cutV xs lo hi)) (fun b ob q=>Heap.get?_push_of_some _ q) (Nat.le_refl _) ?_,rfl,q _ (I.hok.fresh (Nat.le_refl _))⟩
 exact ⟨Nat.le_trans (cutV_length xs lo hi) hz,_,0,(r.drop (HT.sIx xs.length 0 lo)).take (HT.sIx xs.length xs.length hi - HT.sIx xs.length 0 lo),Heap.get?_push_size _ rfl⟩
theorem call_len_seq:CallR X (.builtin "len") (fun xs H Q=>∃ p ys,xs = [.ref p]∧(SqL X.K H p ys∨SqT X.K H p ys)∧Q (.int ys.length) H):=by
 intro pins s σ H xs us Q I r h
 obtain ⟨p,ys,rfl,hq,q⟩:=h
 obtain ⟨u,rfl,rx⟩:=vals1 r
 cases rx
 have hn:=line63
 rcases hq with hq | hq
 ·obtain ⟨its,r',pl,hz⟩:=I.list hq
  have hlen:=r'.length
  exact Calls.call_len_list pl.isList (by simp only [List.size_toArray] <;> omega) ⟨.int ys.length,H,I.tok _,⟨s.toks + 1,by rw [List.size_toArray,hlen]⟩,q⟩
 ·obtain ⟨its,r',pl,hz⟩:=I.tuple hq
  have hlen:=r'.length
  exact len_tuple pl (by simp only [List.size_toArray] <;> omega) ⟨.int ys.length,H,I.tok _,⟨s.toks + 1,by rw [List.size_toArray,hlen]⟩,q⟩
theorem call_list_of:CallR X (.type "list") (fun xs H Q=>∃ p ys,xs = [.ref p]∧(SqL X.K H p ys∨SqT X.K H p ys)∧∀ l,H l = none→Q (.ref l) (upd H l (.lst ys))):=by
 intro pins s σ H xs us Q I r h
 obtain ⟨p,ys,rfl,hq,q⟩:=h
 obtain ⟨u,rfl,rx⟩:=vals1 r
 cases rx
 have fin:∀ (its:List Value),Vals ys its→ys.length≤sizeLine→∀ (h':Heap) (c':Nat),(∀ b o',s.heap.get? b = some o'→h'.get? b = some o') →
   h'.get? s.heap.objs.size = some { cls:=.type "list",dict:=none,data:=.seq its.toArray c',slots:=#[] }→EP X pins σ Q (.ref s.heap.objs.size) { s with heap:=h' }:=fun its r' hz h' c' kp e =>
  ⟨.ref s.heap.objs.size,_,I.laid (t':=s.toks) kp (Nat.le_refl _) (show ObjOk X.prog X.w _ h' _ (.lst ys) from ⟨hz,its,c',r',e⟩),rfl,q _ (I.hok.fresh (Nat.le_refl _))⟩
 rcases hq with hq | hq
 ·obtain ⟨its,r',pl,hz⟩:=I.list hq
  have hlen:=r'.length
  obtain ⟨o,ho,hc,n,hd⟩:=pl.isList
  exact call_list_seq p (.inl rfl) ho hc hd (fun h' c' kp e=>fin its r' hz h' c' kp e) (by simp only [List.size_toArray] <;> omega)
 ·obtain ⟨its,r',pl,hz⟩:=I.tuple hq
  have hlen:=r'.length
  obtain ⟨o,ho,hc,n,hd⟩:=pl
  exact call_list_seq p (.inr rfl) ho hc hd (fun h' c' kp e=>fin its r' hz h' c' kp e) (by simp only [List.size_toArray] <;> omega)
theorem call_tuple_of:CallR X (.type "tuple") (fun xs H Q=>∃ p ys,xs = [.ref p]∧((SqL X.K H p ys∧∀ l,H l = none→Q (.ref l) (upd H l (.tup ys)))∨(SqT X.K H p ys∧Q (.ref p) H))):=by
 intro pins s σ H xs us Q I r h
 obtain ⟨p,ys,rfl,h⟩:=h
 obtain ⟨u,rfl,rx⟩:=vals1 r
 cases rx
 rcases h with ⟨hq,q⟩ | ⟨hq,q⟩
 ·obtain ⟨its,r',pl,hz⟩:=I.list hq
  have hlen:=r'.length
  refine call_tuple_list pl.isList (fun h' kp=>?_) (by simp only [List.size_toArray] <;> omega)
  have I1:Inv X pins σ H { s with heap:=h' }:=I.kept (t':=s.toks) kp
  have I2:Inv X pins σ (upd H h'.objs.size (.tup ys)) { s with heap:=h'.push { cls:=.type "tuple",data:=.seq its.toArray } } :=
   I1.laid (t':=s.toks) (fun b o e=>Heap.get?_push_of_some _ e) (Nat.le_refl _) (show ObjOk X.prog X.w _ _ _ (.tup ys) from ⟨hz,its,r',IsTup.new _ _⟩)
  exact ⟨.ref h'.objs.size,_,I2,rfl,q _ (I1.hok.fresh (Nat.le_refl _))⟩
 ·obtain ⟨its,r',pl,hz⟩:=I.tuple hq
  exact call_tuple_same pl ⟨.ref p,H,I,rfl,q⟩
def tyV (K:PySem.W.Frag) (T:String) (x:V) (H:Hp):Prop:=match x with
 | .str _=>T = "str"
 | .int _=>T = "int"
 | .ref p=>(T = "list"∧∃ xs,SqL K H p xs)∨(T = "tuple"∧∃ o,K.lookup p = some o∧o.cls = .type "tuple"∧o.dict = none) ∨
   (T = "dict"∧((∃ kvs,H p = some (.dK kvs))∨∃ kvs,H p = some (.dT kvs)))∨(T = "set"∧∃ S n,H p = some (.set S n))
 | _=>False
theorem tyV_is {pins:List (Addr×Obj)} {σ:St} {H:Hp} {s:Shared} {T:String} {x:V} {v:Value} (I:Inv X pins σ H s) (r:RelV x v) (ty:tyV X.K T x H) :
  s.TypeIs v T∧∀ a,v = .ref a→∃ ob,s.heap.get? a = some ob∧ob.dict = none:=by
 cases x with
 | str z =>
  obtain ⟨t,rfl⟩:=r
  cases (show T = "str" from ty)
  exact ⟨typeIs_str s z t,fun _ e=>nomatch e⟩
 | int i =>
  obtain ⟨t,rfl⟩:=r
  cases (show T = "int" from ty)
  exact ⟨typeIs_int s i t,fun _ e=>nomatch e⟩
 | ref p =>
  cases r
  rcases ty with ⟨rfl,xs,hq⟩ | ⟨rfl,o,hk,hc,hd⟩ | ⟨rfl,hk⟩ | ⟨rfl,S,n,hk⟩
  ·obtain ⟨its,_,pl,_⟩:=I.list hq
   refine ⟨pl.isList.typeIs,fun a e=>?_⟩
   cases e
   obtain ⟨o,n,e,c,hd,_⟩:=pl
   exact ⟨o,e,hd⟩
  ·refine ⟨⟨o,I.kIn p o hk,hc⟩,fun a e=>?_⟩
   cases e
   exact ⟨o,I.kIn _ o hk,hd⟩
  ·have z:∃ o,s.heap.get? p = some o∧o.ExactDict:=by
    rcases hk with ⟨kvs,hk⟩ | ⟨kvs,hk⟩
    ·obtain ⟨_,_,_,_,o,_,_,e,ex,_⟩:=I.hok p _ hk
     exact ⟨o,e,ex⟩
    ·obtain ⟨_,_,_,_,o,_,_,e,ex,_⟩:=I.hok p _ hk
     exact ⟨o,e,ex⟩
   obtain ⟨o,e,ex⟩:=z
   refine ⟨⟨o,e,ex.1⟩,fun a e2=>?_⟩
   cases e2
   exact ⟨o,e,ex.2.1⟩
  ·obtain ⟨o,_,_,_,e,ex,_⟩:=I.hok p _ hk
   refine ⟨⟨o,e,ex.1⟩,fun a e2=>?_⟩
   cases e2
   exact ⟨o,e,ex.2.1⟩
 | _=>exact False.elim ty
def tBM0 (K:PySem.W.Frag) (T:String) (r:V→List V→Hp→VK→Prop) (to:TE):TE:=fun σ H Q=>to σ H fun x H1=>tyV K T x H1∧r x [] H1 Q
def tBM (K:PySem.W.Frag) (T:String) (r:V→List V→Hp→VK→Prop) (to:TE) (t:TA):TE:=fun σ H Q=>to σ H fun x H1=>tyV K T x H1∧t σ H1 fun xs H2=>r x xs H2 Q
variable {o e:Expr} {es:List Expr} {to:TE} {t:TA} {name:Str} {apos cpos:Pos} {T id:String} {r:V→List V→Hp→VK→Prop}
theorem pe_bm0 (pa:PlainAttrs T) (slot:Slot T name id) (hty:typeOf (.builtin id) = pure (.type "method_descriptor")) (hm:MtR X id r) (ho:PE X o to)
  (hbase:attributeBase o name X.env (eval o X.env) = eval o X.env:=by rfl) (hline:(apos.endLine == cpos.line) = true:=by rfl):PE X (.Call (.Attribute o name apos) [] [] cpos) (tBM0 X.K T r to):=by
 intro pins s σ H Q I h
 refine wpAny_Call_method0_late hbase hline (thn (ho pins s σ H _ I h) fun v s1 ⟨x,H1,I1,r1,ty,q1⟩=>?_)
 obtain ⟨h1,h2⟩:=tyV_is I1 r1 ty
 exact ⟨T,id,pa,slot,hty,h1,h2,Calls.callWith_builtin rfl (PySem.evalArgs_none (hm pins s1 σ H1 x [] v [] Q I1 r1 .nil q1))⟩
theorem pe_bm (pa:PlainAttrs T) (slot:Slot T name id) (hty:typeOf (.builtin id) = pure (.type "method_descriptor")) (hm:MtR X id r) (ho:PE X o to) (ha:PA X (e :: es) t)
  (hbase:attributeBase o name X.env (eval o X.env) = eval o X.env:=by rfl)
  (hfew:((backTo cpos (starEach (e :: es) X.env)).all (fun x=>!x.1) && (backToKw cpos (keywordEach [] X.env)).all (fun x=>x.1.isSome)
   && decide ((e :: es).length + ([]:List Keyword).length + (if ([]:List Keyword).isEmpty then 0 else 1) < 30)) = true:=by rfl)
  (hline:(apos.endLine == cpos.line) = true:=by rfl) (hs:starEach (e :: es) X.env = (false,eval e X.env) :: starEach es X.env:=by rfl) (hplain:(backTo cpos (starEach es X.env)).any (·.1) = false:=by rfl) :
  PE X (.Call (.Attribute o name apos) (e :: es) [] cpos) (tBM X.K T r to t):=by
 intro pins s σ H Q I h
 refine wpAny_Call_method_late hbase hfew hline rfl (thn (ho pins s σ H _ I h) fun v s1 ⟨x,H1,I1,r1,ty,q1⟩=>?_)
 obtain ⟨h1,h2⟩:=tyV_is I1 r1 ty
 refine ⟨T,id,pa,slot,hty,h1,h2,?_⟩
 have hA:=ha cpos pins s1 σ H1 _ I1 q1
 rw [hs] at hA ⊢
 refine Calls.callWith_builtin (by show (false || (backTo cpos (starEach es X.env)).any (·.1)) = false; rw [hplain] <;> rfl) (Calls.evalArgs_plain ?_)
 exact thn hA fun us s2 ⟨vs,H2,I2,r2,q2⟩=>hm pins s2 σ H2 x vs v us Q I2 r1 r2 q2
/- xs.append(e),list.index on a module's tuple .. are MtR facts of 06m -/
end
end L2
namespace L2
open PySem PySem.Spec PyProof.Rows
def MtM (X:Cx) (id:String) (r:V→List V→Hp→VK→Prop):Prop :=
 ∀ (pins:List (Addr×Obj)) (s:Shared) (σ:St) (H:Hp) (x:V) (xs:List V) (v:Value) (us:List Value) (Q:VK),Inv X pins σ H s→RelV x v→Vals xs us→r x xs H Q →
  wpAny (model X.prog X.w) X.A (call (.builtin id) (v :: us)) (EP X pins σ Q) X.xe s
theorem Vals.one:∀ {x:V} {us:List Value},Vals [x] us→∃ u,us = [u]∧RelV x u
 | _,_,.cons r .nil=>⟨_,rfl,r⟩
theorem Vals.rep {xs:List V} {us:List Value} (h:Vals xs us):∀ k:Nat,Vals (List.replicate k xs).flatten (List.replicate k us).flatten
 | 0=>.nil
 | k + 1=>by
  rw [List.replicate_succ,List.replicate_succ,List.flatten_cons,List.flatten_cons]
  exact Vals.append h (Vals.rep h k)
section
variable {X:Cx} {pins:List (Addr×Obj)} {σ:St} {H:Hp} {s:Shared} {l b:Addr} {xs ys zs:List V}
theorem Inv.lset {its its':List Value} {n:Nat} {f:Array Value→Array Value} {t':Nat} (I:Inv X pins σ H s) (hH:H l = some (.lst xs))
  (e:s.heap.get? l = some { cls:=.type "list",data:=.seq its.toArray n }) (hf:f its.toArray = its'.toArray) (hv:Vals ys its') (hz:ys.length≤sizeLine) :
  Inv X pins σ (upd H l (.lst ys)) { s with heap:=s.heap.update l (Obj.mapSeq f),toks:=t' }:=by
 have q:=PySem.IsL.update e f
 rw [hf] at q
 refine I.write (x:=l) (e:=l) (by rw [hH]; exact trivial) (.inl rfl) (fun b' u hb hu=>(Heap.get?_update_other s.heap (Obj.mapSeq f) (Ne.symm hb)).trans hu) ⟨_,q⟩ ?_
 exact ⟨hz,its',_,hv,q⟩
theorem Inv.lnew {its:List Value} {t':Nat} (I:Inv X pins σ H s) (hv:Vals ys its) (hz:ys.length≤sizeLine) :
  Inv X pins σ (upd H s.heap.objs.size (.lst ys)) { s with heap:=s.heap.push { cls:=.type "list",data:=.seq its.toArray },toks:=t' } :=
 I.laid (fun _ _ q=>Heap.get?_push_of_some _ q) (Nat.le_refl _) ⟨hz,its,0,hv,Heap.get?_push_size _ rfl⟩
theorem Inv.fresh (I:Inv X pins σ H s):H s.heap.objs.size = none:=I.hok.fresh (Nat.le_refl _)
theorem Inv.lstM (I:Inv X pins σ H s) (hH:H l = some (.lst xs)):xs.length≤sizeLine∧∃ (its:List Value) (n:Nat),Vals xs its∧xs.length = its.length∧s.heap.get? l = some { cls:=.type "list",data:=.seq its.toArray n }:=by
 obtain ⟨z,its,n,r,e⟩:=I.hok l _ hH
 exact ⟨z,its,n,r,r.length,e⟩
theorem notLongL {n:Nat} (h:n≤sizeLine):Builtin.List.listTooLong n = false:=by
 unfold Builtin.List.listTooLong
 exact decide_eq_false (by omega)
end
section
variable {X:Cx}
def rAppend:V→List V→Hp→VK→Prop:=fun x vs H Q=>∃ l xs y,x = .ref l∧vs = [y]∧H l = some (.lst xs)∧xs.length < sizeLine∧Q .non (upd H l (.lst (xs ++ [y])))
theorem mt_append:MtM X "list.append" rAppend:=by
 intro pins s σ H x vs v us Q I rx rv h
 obtain ⟨l,xs,y,rfl,rfl,hH,hz,q⟩:=h
 cases rx
 obtain ⟨u,rfl,ru⟩:=rv.one
 obtain ⟨z,its,n,r,hl,e⟩:=I.lstM hH
 refine call_meets F.slot_list_append ⟨_,e,rfl⟩ F.entry_list_append (F.args_list_append_2 _ _) (PySem.list_append l its.toArray n u (by rw [List.size_toArray]; omega)) ⟨e,?_⟩
 refine ⟨.non,_,I.lset (its':=its ++ [u]) hH e (by simp) (r.append (.cons ru .nil)) ?_,rfl,q⟩
 rw [List.length_append,List.length_singleton]
 omega
def rExtend:V→List V→Hp→VK→Prop:=fun x vs H Q=>∃ l b xs zs,x = .ref l∧vs = [.ref b]∧H l = some (.lst xs)∧H b = some (.lst zs)∧xs.length + zs.length≤sizeLine∧Q .non (upd H l (.lst (xs ++ zs)))
theorem mt_extend:MtM X "list.extend" rExtend:=by
 intro pins s σ H x vs v us Q I rx rv h
 obtain ⟨l,b,xs,zs,rfl,rfl,hH,hB,hz,q⟩:=h
 cases rx
 obtain ⟨u,rfl,ru⟩:=rv.one
 cases ru
 obtain ⟨z,its,n,r,hl,e⟩:=I.lstM hH
 obtain ⟨z2,its2,n2,r2,hl2,e2⟩:=I.lstM hB
 have hsz:its.toArray.size + its2.toArray.size≤sizeLine:=by rw [List.size_toArray,List.size_toArray]; omega
 have hlong:¬ (!its.toArray.isEmpty && Builtin.List.listTooLong (its.toArray.size + its2.toArray.size)) = true:=by
  rw [notLongL hsz,Bool.and_false]
  exact Bool.false_ne_true
 refine call_meets F.slot_list_extend ⟨_,e,rfl⟩ F.entry_list_extend (F.args_list_extend_2 _ _)
  (AutoSeq1.list_extend_list_list_0 l its.toArray n b its2.toArray n2 hlong (by rw [List.size_toArray]; omega) (by omega)) ⟨e,e2,?_⟩
 refine ⟨.non,_,I.lset (its':=its ++ its2) hH e (by simp) (r.append r2) ?_,rfl,q⟩
 rw [List.length_append]
 omega
def rCat:R2:=fun x y H Q=>∃ l b xs zs,x = .ref l∧y = .ref b∧H l = some (.lst xs)∧H b = some (.lst zs)∧xs.length + zs.length≤sizeLine∧∀ p,H p = none→Q (.ref p) (upd H p (.lst (xs ++ zs)))
theorem op_cat:OpR X (binaryOp .Add) rCat:=by
 intro pins s σ H x y v u Q I rx ry h
 obtain ⟨l,b,xs,zs,rfl,rfl,hH,hB,hz,q⟩:=h
 cases rx
 cases ry
 obtain ⟨z,its,n,r,hl,e⟩:=I.lstM hH
 obtain ⟨z2,its2,n2,r2,hl2,e2⟩:=I.lstM hB
 refine PySem.P.add_list e e2 ?_ (by rw [List.size_toArray,List.size_toArray]; omega)
 have ea:its.toArray ++ its2.toArray = (its ++ its2).toArray:=by simp
 rw [ea]
 exact ⟨.ref _,_,I.lnew (t':=s.toks) (r.append r2) (by rw [List.length_append]; omega),rfl,q _ I.fresh⟩
end
section
variable {prog:Program} {w:World} {A:Around} {E:Value→Shared→Prop} {s:Shared}
end
section
variable {X:Cx}
end
end L2
namespace Att
open PySem PySem.W PySem.Calls PyProof.Rows
theorem ints_of_wellAll {P:Params} {h:Heap}:∀ (ns:List Int) (vs:List Value),WellAll P h vs (ns.map WData.int)→IntsAre vs ns:=by
 intro ns
 induction ns with
 | nil =>
  intro vs w
  rw [List.map_nil] at w
  cases w
  exact .nil
 | cons n ns ih =>
  intro vs w
  rw [List.map_cons] at w
  cases w with
  | cons a b =>
   cases a
   exact .cons _ _ (ih _ b)
theorem script_of {l:OpenLaw} {n:Nat} (hn:l.most = some n) {P:Params} {h:Heap} {args:List WData} {vals:List Value}
  (hpre:l.row.toRowW.claim.pre args = true) (hwl:WellAll P h vals args) :
  ∃ a vs ns,vals = [Value.ref a]∧args = [WData.list (ns.map WData.int)]∧h.get? a = some { cls:=.type "list",data:=.seq vs.toArray }∧IntsAre vs ns∧ns.length≤n:=by
 have hsh:WShape.hasAll [] args [.list .int] = true:=(pre_splitW hpre).1
 have hc:l.pre.holds [] { args:=args } = true:=(pre_splitW hpre).2
 obtain ⟨d,r,rfl,h1,h2⟩:=hasAllW_cons hsh
 obtain rfl:=hasAllW_nil h2
 obtain ⟨xs,rfl,h3⟩:=hasW_list h1
 obtain ⟨ns,rfl⟩:=items_int h3
 have hlen:ns.length≤n:=by
  unfold OpenLaw.pre at hc
  have h4:(WTm.not (.lt (.lit (.int (n:Int))) (.len (.arg 0)))).holds [] { args:=[.list (ns.map .int)] } = true:=by
   have h4:=(holds_andW hc).1
   rw [hn] at h4
   exact h4
  have h5:=condW_of h4 (w_not (w_lt w_lit (w_len_list (w_arg rfl))))
  rw [List.length_map] at h5
  refine Nat.le_of_not_lt fun q=>?_
  have q':(n:Int) < ((ns.length:Nat):Int):=by omega
  first
   | (rw [decide_eq_true q'] at h5; exact absurd h5 (by decide))
   | (simp at h5; omega)
 cases hwl with
 | cons w1 w2 =>
  cases w2
  cases w1 with
  | list ho hall=>exact ⟨_,_,ns,rfl,rfl,ho,ints_of_wellAll ns _ hall,hlen⟩
theorem post_true (l:OpenLaw) (args:List WData):l.row.toRowW.claim.post args (.bool true) args = true :=
 postW_of (r:=l.row.toRowW) (X:=(true == true))
  (show WShape.has [] (.bool true) .bool = true by first | rfl | decide | simp [WShape.has,WShape.arms,WShape.armsAll])
  (show (WTm.eq .res (.lit (.bool true))).value [] { args:=args,res:=some (.bool true),after:=args } = some (.bool (true == true)) from w_eq_bool (w_res rfl) w_lit) rfl
theorem attach_call {l:OpenLaw} {n:Nat} {q:Program} {loose:List Str} {XP:(Str→Option Value)→Heap→Prop} {YP:World→Heap→Prop} {d:DefRec}
  (hn:l.most = some n) (hdf:d.params.defaults = [])
  (call:∀ (w:World) (s₀ s₁:Shared) (mg mb:Str→Option Value) (fa:Addr) (o:Obj) (pm cd doc:Value) (a:Addr) (vs:List Value) (ns:List Int),
   Ground q loose [] XP w s₀ mg mb s₁.heap→YP w s₁.heap →
   s₁.heap.get? fa = some o→o.data = .func (docDef d.name d.params d.body d.scope pm cd doc)→s₁.heap.CodeRec cd d.name→mg d.name = some (.ref fa) →
   s₁.heap.get? a = some { cls:=.type "list",data:=.seq vs.toArray }→IntsAre vs ns→ns.length≤n→s₁.gens = #[] →
   codeAny (model l.prog w) callerA (.call (.ref fa) ⟨[.ref a],[]⟩) (fun r s'=>r = .ok (.ret (.bool true))∧OldK s₁.heap s'.heap∧s'.os = s₁.os∧AllBare s'.gens) s₁) :
  WalkO q loose XP YP l.row.toRowW d [] (fun f vs=>PySem.call f vs):=by
 intro w s₀ s₁ mg mb G Y fa o pm cd doc dV kV ho hd hcd hD hmg hg args vals as hpre hlay hrd hwl hlo
 obtain rfl:dV = .none:=Dflts.none hD hdf
 obtain rfl:kV = .none:=Dflts.noKw hD
 obtain ⟨a,vs,ns,rfl,rfl,hobj,hints,hlen⟩:=script_of hn hpre hwl
 refine enter_call (codeAny_mono (call w s₀ s₁ mg mb fa o pm cd doc a vs ns G Y ho (fd_plain hd) hcd hmg hobj hints hlen hg) fun r s' hq=>?_)
 obtain ⟨rfl,h2,h3,h4⟩:=hq
 exact ⟨.inl ⟨.bool true,.bool true,[],rfl,fun _=>rfl,.bool true,post_true l _,fun _=>⟨List.Pairwise.nil,fun _ hm=>(nomatch hm)⟩⟩,h2,h3,h4⟩
section
variable {prog:Program} {w:World} {A:Around} {E:Value→Shared→Prop} {s:Shared} {K:Frag}
end
end Att
namespace L2
open PySem PySem.Spec PyProof.Rows
theorem vals_ints:∀ {vs:List Value} {ns:List Int},IntsAre vs ns→Vals (ns.map V.int) vs
 | _,_,.nil=>.nil
 | _,_,.cons n t h=>.cons ⟨t,rfl⟩ (vals_ints h)
def Only (H:Hp):Prop:=∀ b,H b = none∨∃ o xs,H b = some (.frz o (.lst xs))
theorem law_call {P:Program} {w:World} {K:PySem.W.Frag} {mg mb:Str→Option Value} {CX:CXT} {k:Nat} {fa a:Addr} {fd:FuncData} {x:Str} {sp:Sp} {s₁:Shared} {vs:List Value} {ns:List Int}
  (KX:K.In s₁.heap) (hns:s₁.heap.Ns mainGlobals mg) (hb:s₁.heap.Ns builtinsNs mb) (hbb:∀ x:Str,x≠"__name__"→mb x = bootBuiltins x) (hlim:s₁.heap.NoLimit) (hg:s₁.gens = #[])
  (ha:s₁.heap.get? a = some { cls:=.type "list",data:=.seq vs.toArray }) (hi:IntsAre vs ns) (hl:ns.length≤sizeLine) (hr:Room k callerA)
  (F:∀ base:Heap,K.In base→base.Ns mainGlobals mg→FnOk P w K mg base CX k fa fd [x] sp) (hbind:∀ (s:Shared) (u:Value),BindsTo s fd ⟨[u],[]⟩ [(x,u)])
  (hsp:∀ H:Hp,Only H→SqL K H a (ns.map V.int)→sp [.ref a] H (fun v _=>v = .bl true) fun _ _ _=>False)
  (hCX:∀ H e s',CX [] H s₁ (fun _ _ _=>False) e s'→False) :
  codeAny (model P w) callerA (.call (.ref fa) ⟨[.ref a],[]⟩) (fun r s'=>r = .ok (.ret (.bool true))∧OldK s₁.heap s'.heap∧s'.os = s₁.os∧AllBare s'.gens) s₁:=by
 have rv:=vals_ints hi
 have lenV:=hi.length
 have core:∀ H:Hp,Only H→SqL K H a (ns.map V.int)→HOk P w H s₁.heap→(∀ b,H b≠none→b = a)→(H a≠none→K.lookup a = none) →
   codeAny (model P w) callerA (.call (.ref fa) ⟨[.ref a],[]⟩) (fun r s'=>r = .ok (.ret (.bool true))∧OldK s₁.heap s'.heap∧s'.os = s₁.os∧AllBare s'.gens) s₁:=by
  intro H hO hS hok hA hK
  have base_of:∀ {b:Addr} {o:Obj},s₁.heap.get? b = some o→H b = none→(hidT s₁.heap H).get? b = some o:=fun e n=>hidT_get e n
  have noA:∀ {b:Addr} {o:Obj} {es:Array DictEntry} {ep:Nat},s₁.heap.get? b = some o→o.data = .dict es ep→H b = none:=fun {b o es ep} e d=>by
   cases q:H b with
   | none=>rfl
   | some u =>
    have e':b = a:=hA b (by rw [q]; simp)
    subst e'
    rw [ha] at e; cases e
    have d':Data.seq vs.toArray _ = Data.dict es ep:=d
    cases d'
  have nsK:∀ {b:Addr} {m:Str→Option Value},s₁.heap.Ns b m→(hidT s₁.heap H).Ns b m:=fun {b m} ⟨o,es,ep,e,d,r⟩=>⟨o,es,ep,base_of e (noA e d),d,r⟩
  have hKb:K.In (hidT s₁.heap H):=fun b o e=>base_of (KX b o e) (by
   cases q:H b with
   | none=>rfl
   | some u =>
    have e':b = a:=hA b (by rw [q]; simp)
    subst e'
    rw [hK (by rw [q]; simp)] at e; cases e)
  have hM:Mod K mg (hidT s₁.heap H):=⟨hKb,nsK hns,⟨mb,nsK hb,hbb⟩,let ⟨mc,h1,h2⟩:=hlim; ⟨mc,nsK h1,h2⟩⟩
  have e0:Env0 P w K mg (hidT s₁.heap H) callerA [] s₁ H:=⟨rfl,hM,fun b o e=>of_hidT e,Nat.le_of_eq (hidT_size _ _),trivial,fun b hb=>absurd (show b∈([]:List Addr) from hb) (by simp),hok,.of_eq hg⟩
  refine codeAny_mono ((F _ hKb (nsK hns)).run callerA [] s₁ H ⟨[.ref a],[]⟩ [.ref a] [.ref a] _ _ hr e0 (hbind s₁ (.ref a)) (.cons rfl .nil) (hsp H hO hS)) fun r s' h=>?_
  cases r with
  | error e=>exact (hCX H e s' h).elim
  | ok fl =>
   cases fl with
   | next=>exact False.elim h
   | brk=>exact False.elim h
   | cont=>exact False.elim h
   | ret u =>
    obtain ⟨v,H',os,bare,un,hok',r',q⟩:=h
    have q':v = .bl true:=q
    subst q'
    obtain rfl:u = Value.bool true:=r'
    refine ⟨rfl,OldK.of_keep fun b o e=>?_,os,bare⟩
    cases q:H b with
    | none=>exact un.keep b o e q (by intro z; exact absurd (show b∈([]:List Addr) from z) (by simp)) (by simp)
    | some u =>
     rcases hO b with z | ⟨ob,xs,z⟩
     ·rw [q] at z; cases z
     ·have z2:=un.frzs b ob _ z
      obtain ⟨e1,_⟩:=hok b _ z
      obtain ⟨e2,_⟩:=hok' b _ z2
      rw [e] at e1; cases e1
      exact e2
 cases hk:K.lookup a with
 | some o =>
  have e:=KX a o hk
  rw [ha] at e
  cases e
  refine core (fun _=>none) (fun _=>.inl rfl) (.inr ⟨_,vs.toArray,_,hk,rfl,rfl,rfl,by rw [List.size_toArray,lenV]; exact hl,by simpa using rv⟩) (fun b u z=>by have z':(none:Option HO) = some u:=z; cases z') (fun b z=>absurd rfl z) fun z=>absurd rfl z
 | none =>
  refine core (fun b=>if b = a then some (.frz { cls:=.type "list",data:=.seq vs.toArray } (.lst (ns.map V.int))) else none) (fun b=>?_) (.inl (.inr ⟨{ cls:=.type "list",data:=.seq vs.toArray },if_pos rfl⟩)) (fun b u z=>?_) (fun b z=>?_) fun _=>hk
  ·by_cases hb:b = a
   ·exact .inr ⟨_,_,if_pos hb⟩
   ·exact .inl (if_neg hb)
  ·by_cases hb:b = a
   ·have z':=(if_pos hb).symm.trans z
    cases z'
    subst hb
    exact ⟨ha,by rw [List.length_map]; exact hl,vs,_,rv,ha⟩
   ·have z':=(if_neg hb).symm.trans z
    cases z'
  ·by_cases hb:b = a
   ·exact hb
   ·exact absurd (if_neg hb) z
end L2
namespace L2
open PySem PySem.Spec PyProof.Rows
theorem walk_of {l:PySem.W.OpenLaw} {n k:Nat} {q:Program} {loose:List Str} {XP:(Str→Option Value)→Heap→Prop} {YP:World→Heap→Prop} {d:DefRec} {K:Params→PySem.W.Frag} {CX:World→CXT} {sp:World→Sp} {x:Str}
  (hn:l.most = some n) (hn2:n≤sizeLine) (hdf:d.params.defaults = []) (hr:Room k callerA)
  (hY:∀ (w:World) (h:Heap),YP w h→(K w.params).In h)
  (F:∀ (w:World) (mg:Str→Option Value) (fa:Addr) (h:Heap),(K w.params).In h→h.Ns mainGlobals mg→mg d.name = some (.ref fa) →
   ∃ fd:FuncData,(∀ (s:Shared) (u:Value),BindsTo s fd ⟨[u],[]⟩ [(x,u)]) ∧
    ∀ base:Heap,(K w.params).In base→base.Ns mainGlobals mg→FnOk l.prog w (K w.params) mg base (CX w) k fa fd [x] (sp w))
  (hsp:∀ (w:World) (H:Hp) (a:Addr) (ns:List Int),ns.length≤n→Only H→SqL (K w.params) H a (ns.map V.int)→sp w [.ref a] H (fun v _=>v = .bl true) fun _ _ _=>False)
  (hCX:∀ (w:World) (H:Hp) (s:Shared) (e:Value) (s':Shared),CX w [] H s (fun _ _ _=>False) e s'→False) :
  PySem.W.WalkO q loose XP YP l.row.toRowW d [] (fun f vs=>PySem.call f vs):=by
 refine Att.attach_call hn hdf fun w s₀ s₁ mg mb fa o pm cd doc a vs ns G Y ho hd hcd hmg hobj hints hlen hg=>?_
 have KX:=hY w _ Y
 obtain ⟨fd,hb,hF⟩:=F w mg fa _ KX G.T.g hmg
 exact law_call KX G.T.g G.T.b G.T.builtins G.T.nolimit hg hobj hints (Nat.le_trans hlen hn2) hr hF hb (fun H hO hS=>hsp w H a ns hlen hO hS) fun H e s'=>hCX w H s₁ e s'
theorem walk_ofK {l:PySem.W.OpenLaw} {n k:Nat} {q:Program} {loose:List Str} {XP:(Str→Option Value)→Heap→Prop} {YP:World→Heap→Prop} {d:DefRec} {K:Params→PySem.W.Frag} {CX:CXT} {sp:PySem.W.Frag→Sp} {x:Str}
  (hn:l.most = some n) (hn2:n≤sizeLine) (hdf:d.params.defaults = []) (hr:Room k callerA)
  (hY:∀ (w:World) (h:Heap),YP w h→(K w.params).In h)
  (F:∀ (w:World) (mg:Str→Option Value) (fa:Addr) (h:Heap),(K w.params).In h→h.Ns mainGlobals mg→mg d.name = some (.ref fa) →
   ∃ fd:FuncData,(∀ (s:Shared) (u:Value),BindsTo s fd ⟨[u],[]⟩ [(x,u)]) ∧
    ∀ base:Heap,(K w.params).In base→base.Ns mainGlobals mg→FnOk l.prog w (K w.params) mg base CX k fa fd [x] (sp (K w.params)))
  (hsp:∀ (K:PySem.W.Frag) (H:Hp) (a:Addr) (ns:List Int),ns.length≤n→Only H→SqL K H a (ns.map V.int)→sp K [.ref a] H (fun v _=>v = .bl true) fun _ _ _=>False)
  (hCX:∀ (H:Hp) (s:Shared) (e:Value) (s':Shared),CX [] H s (fun _ _ _=>False) e s'→False) :
  PySem.W.WalkO q loose XP YP l.row.toRowW d [] (fun f vs=>PySem.call f vs) :=
 walk_of (K:=K) (CX:=fun _=>CX) (sp:=fun w=>sp (K w.params)) hn hn2 hdf hr hY F (fun w H a ns h1 h2 h3=>hsp (K w.params) H a ns h1 h2 h3) fun _ H s e s'=>hCX H s e s'
end L2
namespace L2
open PySem PySem.Spec PyProof.Rows
def defArgs (s:Stmt):Arguments:=match s with
 | .FunctionDef _ a _ _ _ _ _ _ _ _=>a
 | _=>{ posonlyargs:=[],args:=[],vararg:=none,kwonlyargs:=[],kw_defaults:=[],kwarg:=none,defaults:=[] }
def defBody (s:Stmt):List Stmt:=match s with
 | .FunctionDef _ _ b _ _ _ _ _ _ _=>b
 | _=>[]
def defScope (s:Stmt):Scope:=match s with
 | .FunctionDef _ _ _ _ _ _ sc _ _ _=>sc
 | _=>{ kind:=.function,names:=[],isGenerator:=false,isCoroutine:=false }
abbrev CX0:CXT:=fun _ _ _ _ _ _=>False
abbrev E0:XK:=fun _ _ _=>False
theorem pass0 {X:Cx}:Passes CX0 X E0:=fun _ _ _ _ _ _ _ h=>h.elim
structure Fun (K:PySem.W.Frag) (x qual:Str) (st:Stmt) (f:Addr) (fd:FuncData):Prop where
 ex:∃ (oc:Value) (od:Option Addr) (kV doc pm:Value) (an:Option Addr) (cdv ct:Value) (osl:Array (Option Value)),
  fd = PySem.W.fnOf x qual (defArgs st) (defBody st) (defScope st) .none kV doc pm an cdv ct∧K.lookup f = some ⟨oc,od,.func fd,osl⟩∧PySem.W.codeIn K cdv qual = true
 kp:PySem.W.keepIn K (.ref f) = true
section
variable {P:Program} {w:World} {K:PySem.W.Frag} {mg:Str→Option Value} {base:Heap}
theorem Fun.ok {x qual:Str} {st:Stmt} {f:Addr} {fd:FuncData} {N ps:List Str} {k:Nat} {sp:Sp} (F:Fun K x qual st f fd) (S:FnScope N ps (defScope st)) (len:∀ vs H Q E,sp vs H Q E→vs.length = ps.length)
  (hbody:∀ (cdv:Value) (A:Around) (outer:List Env) (s:Shared) (H:Hp) (vs:List V) (Q:VK) (E:XK),Room k (A.deeper (envOfC qual (defScope st) s.heap.objs.size f cdv))→sp vs H Q E →
   ∃ t,PSs (cxOf CX0 P w K mg base N qual (defScope st) f cdv A outer s H E).nox (defBody st) t∧t { nx:=fun _ H'=>Q .non H',rt:=Q } (start N vs) H):FnOk P w K mg base CX0 (k + 1) f fd ps sp:=by
 obtain ⟨oc,od,kV,doc,pm,an,cdv,ct,osl,rfl,lk,hcd⟩:=F.ex
 refine fn_of lk hcd S len fun A outer s H vs Q E hr hsp=>?_
 obtain ⟨t,h,q⟩:=hbody cdv A outer s H vs Q E hr hsp
 exact ⟨t,h.nox,q⟩
theorem Fun.binds {x qual:Str} {st:Stmt} {f:Addr} {fd:FuncData} {ps:List Str} (F:Fun K x qual st f fd)
  (h:∀ (kV doc pm:Value) (an:Option Addr) (cdv ct:Value) (us:List Value),us.length = ps.length→bindArgs (PySem.W.fnOf x qual (defArgs st) (defBody st) (defScope st) .none kV doc pm an cdv ct) ⟨us,[]⟩ = pure (ps.zip us)):Binds K fd ps []:=by
 obtain ⟨oc,od,kV,doc,pm,an,cdv,ct,osl,rfl,lk,hcd⟩:=F.ex
 exact .all (h kV doc pm an cdv ct)
theorem fun_mk {x qual:Str} {st:Stmt} {f:Addr} {oc:Value} {od an:Option Addr} {osl:Array (Option Value)} {kV doc pm cdv ct:Value} (l:K.lookup f = some ⟨oc,od,.func (PySem.W.fnOf x qual (defArgs st) (defBody st) (defScope st) .none kV doc pm an cdv ct),osl⟩)
  (c:PySem.W.codeIn K cdv qual = true) (k:PySem.W.keepIn K (.ref f) = true):Fun K x qual st f (PySem.W.fnOf x qual (defArgs st) (defBody st) (defScope st) .none kV doc pm an cdv ct):=⟨⟨oc,od,kV,doc,pm,an,cdv,ct,osl,rfl,l,c⟩,k⟩
end
theorem hu_of {A:Around} {k:Nat} (hr:Room k A):A.units + 1 < cLine:=Nat.lt_of_le_of_lt (Nat.add_le_add_left (by decide:1≤64) _) hr.units
theorem small1000 {n:Nat} (h:n≤1000):n < sizeLine:=Nat.lt_of_le_of_lt h (by decide)
section
variable {X:Cx}
theorem pv (i:Nat) {x:Str} {pos:Pos} (hN:X.N[i]? = some x:=by rfl) (hv:Vis X.env.scope x:=by first | exact Or.inl rfl | exact Or.inr (Or.inl rfl) | exact Or.inr (Or.inr rfl)) (hd:(x == ("__debug__":Str)) = false:=by decide)
  (hcd:(x == ("__classdict__":Str)) = false:=by decide):PE X (.Name x pos) (tVar i):=pe_var hN hv hd hcd
end
theorem iteF {A B:Prop} (h:B):if false = true then A else B:=by
 rw [if_neg Bool.false_ne_true]
 exact h
theorem iteT {A B:Prop} (h:A):if true = true then A else B:=by
 rw [if_pos rfl]
 exact h
def Same (H H':Hp):Prop:=∀ b o,H b = some o→H' b = some o
theorem Same.refl (H:Hp):Same H H:=fun _ _ h=>h
theorem Same.trans {H H1 H2:Hp} (a:Same H H1) (b:Same H1 H2):Same H H2:=fun c o h=>b c o (a c o h)
theorem Same.seq {K:PySem.W.Frag} {H H':Hp} {a:Addr} {xs:List V} (e:Same H H') (h:SqL K H a xs):SqL K H' a xs:=by
 rcases h with (h | ⟨o,h⟩) | h
 ·exact .inl (.inl (e _ _ h))
 ·exact .inl (.inr ⟨o,e _ _ h⟩)
 ·exact .inr h
end L2
namespace L2
open PySem
def clOf (cells:List (Str×Addr)):List (Str×NameKind)→List (Str×Addr)→List (Str×Addr)
 | [],acc=>acc
 | (n,k) :: r,acc=>clOf cells r (if k == .free then (match cells.lookup n with | some c=>(n,c) :: acc | none=>acc) else acc)
theorem closure_eq {scope:Scope} {env:Env} (h:∀ p∈scope.names,p.2 = .free→∃ c,env.cells.lookup p.1 = some c):closureFor scope env = pure (clOf env.cells scope.names []):=by
 have key:∀ (names:List (Str×NameKind)) (acc:List (Str×Addr)),(∀ p∈names,p.2 = .free→∃ c,env.cells.lookup p.1 = some c) →
   (forIn names acc (fun (x:Str×NameKind) (cs:List (Str×Addr))=>if (x.2 == NameKind.free) = true then (do let c ← cellOf env x.1; pure (ForInStep.yield ((x.1,c) :: cs))) else pure (ForInStep.yield cs)):Sem (List (Str×Addr))) = pure (clOf env.cells names acc):=by
  intro names
  induction names with
  | nil=>intro acc _; rfl
  | cons p r ih =>
   intro acc hp
   obtain ⟨n,k⟩:=p
   rw [List.forIn_cons]
   by_cases hk:k = .free
   ·subst hk
    obtain ⟨c,hc⟩:=hp (n,.free) List.mem_cons_self rfl
    have e:cellOf env n = pure c:=by unfold cellOf; rw [show env.cells.lookup n = some c from hc]
    show (if (NameKind.free == NameKind.free) = true then _ else _) >>= _ = _
    rw [if_pos (by rfl)]
    dsimp only
    rw [e]
    show (forIn r ((n,c) :: acc) _:Sem _) = _
    rw [ih _ fun q hq=>hp q (List.mem_cons_of_mem _ hq)]
    simp [clOf,show env.cells.lookup n = some c from hc]
   ·have hk':(k == NameKind.free) = false:=by simpa using hk
    show (if (k == NameKind.free) = true then _ else _) >>= _ = _
    rw [if_neg (by rw [hk']; exact Bool.false_ne_true)]
    show (forIn r acc _:Sem _) = _
    rw [ih _ fun q hq=>hp q (List.mem_cons_of_mem _ hq)]
    simp [clOf,hk']
 unfold closureFor
 have k:=key scope.names [] h
 exact (congrArg (fun m:Sem (List (Str×Addr))=>m >>= fun cs=>pure cs) k).trans rfl
theorem clOf_sub {cells:List (Str×Addr)}:∀ {names:List (Str×NameKind)} {acc:List (Str×Addr)},(∀ x c,acc.lookup x = some c→cells.lookup x = some c)→∀ x c,(clOf cells names acc).lookup x = some c→cells.lookup x = some c
 | [],acc,h,x,c,e=>h x c e
 | (n,k) :: r,acc,h,x,c,e=>by
  refine clOf_sub (names:=r) (fun y d q=>?_) x c e
  split at q
  ·split at q
   ·rename_i c0 hc0
    rw [List.lookup_cons] at q
    split at q
    ·rename_i hy
     have hy':y = n:=by simpa using hy
     subst hy'
     rw [hc0]; exact q
    ·exact h y d q
   ·exact h y d q
  ·exact h y d q
theorem clOf_has {cells:List (Str×Addr)}:∀ {names:List (Str×NameKind)} {acc:List (Str×Addr)} {x:Str},(acc.lookup x).isSome = true∨((x,NameKind.free)∈names∧(cells.lookup x).isSome = true)→((clOf cells names acc).lookup x).isSome = true
 | [],acc,x,h=>by
  rcases h with h | h
  ·exact h
  ·exact absurd h.1 (by simp)
 | (n,k) :: r,acc,x,h=>by
  refine clOf_has (names:=r) ?_
  rcases h with h | ⟨hm,hc⟩
  ·left
   split
   ·split
    ·rw [List.lookup_cons]; split
     ·rfl
     ·exact h
    ·exact h
   ·exact h
  ·rcases List.mem_cons.mp hm with e | hm
   ·injection e with e1 e2
    subst e1; subst e2
    left
    rw [if_pos (by rfl)]
    cases hq:cells.lookup x with
    | none=>rw [hq] at hc; cases hc
    | some c=>simp
   ·exact .inr ⟨hm,hc⟩
section
variable {prog:Program} {w:World} {A:Around}
theorem comp_loop {R:Result→Shared→Prop} {s:Shared} {elt target iter:Expr} {ifs:List Expr} {scope:Scope} {pos:Pos} {it acc:Value} {env:Env} {E:Value→Shared→Prop} (hE:∀ e s',E e s'→notedBy (model prog w) A env (fun e s'=>R (.error e) s') e s') (I:Nat→Shared→Prop)
  (turn:∀ n s,I n s→wpAny (model prog w) A (pyNext it) (fun r s₁=>match r with
   | none=>R (.ok .next) s₁
   | some v=>wpAny (model prog w) A (letOwnedTupleGo target it v) (fun _ s₁'=>wpAny (model prog w) A (assign target env v) (fun _ s₂ =>
     wpAny (model prog w) A (forIn ifs true fun c r=>if r = true then do let ok ← isTrue c env (eval c env); pure (ForInStep.yield ok) else pure (ForInStep.yield r)) (fun ok s₃ =>
      if ok = true then wpAny (model prog w) A (eval elt env) (fun x s₄ =>
       wpAny (model prog w) A (call (.builtin "list.append") [acc,x]) (fun _ s₅=>∃ m,m < n∧I m s₅) E s₄) E s₃
      else ∃ m,m < n∧I m s₃) E s₂) E s₁') E s₁) E s)
  (n:Nat) (h:I n s) :
  codeAny (model prog w) A (.compLoop (.ListComp elt [⟨target,iter,ifs,0⟩] scope pos) 0 it acc env) R s:=by
 have noted:∀ {α:Type} {t:Sem α} {Q:α→Shared→Prop} {s:Shared},wpAny (model prog w) A t Q E s→wpAny (model prog w) A t Q (notedBy (model prog w) A env fun e s'=>R (.error e) s') s:=fun q=>wpAny_mono q (fun _ _ z=>z) hE
 refine codeAny_loop rfl I (fun n s hI=>?_) n h
 show wpAny _ A ((compTurn (.ListComp elt [⟨target,iter,ifs,0⟩] scope pos) 0 it acc env).onRaise (fun x=>do noteFrame x env; theTreesLotGoes x)) _ _ s
 refine wpAny_noted ?_
 rw [compTurn_list]
 refine wpAny_bind (wpAny_standAt (wpAny_bind (wpAny_mono (noted (turn n s hI)) (fun r s₁ h₁=>?_) fun _ _ h'=>h')))
 cases r with
 | none=>exact wpAny_pure h₁
 | some v =>
  refine wpAny_bind (wpAny_mono (noted h₁) (fun _ s₁' h₁'=>?_) fun _ _ h'=>h')
  refine wpAny_bind (wpAny_mono (noted h₁') (fun _ s₂ h₂=>wpAny_bind (wpAny_mono (noted h₂) (fun ok s₃ h₃=>?_) fun _ _ h'=>h')) fun _ _ h'=>h')
  cases ok with
  | false=>exact wpAny_pure ⟨rfl,h₃⟩
  | true =>
   simp only [if_true] at h₃ ⊢
   exact wpAny_bind (wpAny_bind (wpAny_mono (noted h₃) (fun x s₄ h₄=>wpAny_bind (wpAny_mono (noted h₄) (fun _ s₅ h₅=>wpAny_pure (wpAny_pure ⟨rfl,h₅⟩)) fun _ _ h'=>h')) fun _ _ h'=>h'))
end
end L2
namespace L2
open PySem PySem.Spec PyProof.Rows
abbrev compCx (X:Cx) (pins:List (Addr×Obj)) (N:List Str) (scope:Scope) (C:Addr) (s:Shared) (H:Hp) (fp:List Addr):Cx :=
 { X with N:=N,s₀:=s,H₀:=H,env:=compEnvC scope (clOf X.env.cells scope.names []) C X.env,outer:=X.stack,stack:=X.stack,ex:=fp,fn:=fun _=>false,pn:=X.pn ++ pins,xe:=fun _ _=>False }
def pick (ix:List (Option Nat)) (σ:St):St:=ix.map fun o=>o.bind fun j=>(σ[j]?).join
def IxOk (X:Cx) (scope:Scope):List Str→List (Option Nat)→Prop
 | [],[]=>True
 | _ :: N,none :: ix=>IxOk X scope N ix
 | x :: N,some j :: ix=>(X.N[j]? = some x∧Vis X.env.scope x∧(X.env.scope.names.lookup x == some .local) = false∧scope.names.lookup x = some .free)∧IxOk X scope N ix
 | _,_=>False
theorem IxOk.len {X:Cx} {scope:Scope}:∀ {N:List Str} {ix:List (Option Nat)},IxOk X scope N ix→ix.length = N.length
 | [],[],_=>rfl
 | [],none :: _,h=>h.elim
 | [],some _ :: _,h=>h.elim
 | _ :: _,[],h=>h.elim
 | _ :: N,none :: ix,h=>by simp only [List.length_cons]; rw [IxOk.len (N:=N) (ix:=ix) h]
 | _ :: N,some _ :: ix,h=>by simp only [List.length_cons]; rw [IxOk.len (N:=N) (ix:=ix) h.2]
theorem IxOk.get {X:Cx} {scope:Scope}:∀ {N:List Str} {ix:List (Option Nat)} {i j:Nat} {x:Str},IxOk X scope N ix→N[i]? = some x→ix[i]? = some (some j) →
  X.N[j]? = some x∧Vis X.env.scope x∧(X.env.scope.names.lookup x == some .local) = false∧scope.names.lookup x = some .free
 | [],[],_,_,_,_,h,_=>by simp at h
 | [],none :: _,_,_,_,h,_,_=>h.elim
 | [],some _ :: _,_,_,_,h,_,_=>h.elim
 | _ :: _,[],_,_,_,h,_,_=>h.elim
 | _ :: N,none :: ix,0,_,_,_,_,e=>by simp at e
 | _ :: N,none :: ix,i + 1,_,_,h,h1,e=>IxOk.get (N:=N) (ix:=ix) (i:=i) h (by simpa using h1) (by simpa using e)
 | y :: N,some k :: ix,0,j,x,h,h1,e=>by
  simp at h1 e
  subst h1; subst e
  exact h.1
 | _ :: N,some _ :: ix,i + 1,_,_,h,h1,e=>IxOk.get (N:=N) (ix:=ix) (i:=i) h.2 (by simpa using h1) (by simpa using e)
theorem pick_get {ix:List (Option Nat)} {σ:St} {i:Nat} {v:V} (h:(pick ix σ)[i]? = some (some v)):∃ j,ix[i]? = some (some j)∧σ[j]? = some (some v):=by
 unfold pick at h
 rw [List.getElem?_map] at h
 cases e:ix[i]? with
 | none=>rw [e] at h; cases h
 | some o =>
  rw [e] at h
  cases o with
  | none=>cases h
  | some j =>
   refine ⟨j,rfl,?_⟩
   have h':(σ[j]?).join = some v:=Option.some.inj h
   cases q:σ[j]? with
   | none=>rw [q] at h'; cases h'
   | some z=>rw [q] at h'; have h2:z = some v:=h'; rw [h2]
theorem relabel_not_local {env : Env} : ∀ {names : List (Str × NameKind)} {x : Str}, (∀ y ∈ names, y.2 ≠ .cell) →
    ((names.map fun (n, k) => if (k == NameKind.free && env.scope.kind == .function && env.kindOf n == some .cell) then (n, NameKind.cell) else (n, k)).lookup x = some .cell ∨
     (names.map fun (n, k) => if (k == NameKind.free && env.scope.kind == .function && env.kindOf n == some .cell) then (n, NameKind.cell) else (n, k)).lookup x = some .free) → names.lookup x = some .free
  | [], _, _, h => by simp at h
  | (n, k) :: r, x, hc, h => by
    have ih := @relabel_not_local env r x fun y hy => hc y (List.mem_cons_of_mem _ hy)
    have hk : k ≠ .cell := hc (n, k) List.mem_cons_self
    rw [List.map_cons] at h
    cases hx : x == n with
    | true =>
      rw [List.lookup_cons, hx]
      by_cases hcnd : (k == NameKind.free && env.scope.kind == .function && env.kindOf n == some .cell) = true
      · have : k = .free := by
          simp only [Bool.and_eq_true, beq_iff_eq] at hcnd
          exact hcnd.1.1
        rw [this]
      · simp only [hcnd, Bool.false_eq_true, if_false, List.lookup_cons, hx] at h
        rcases h with h | h
        · exact absurd (Option.some.inj h) hk
        · exact h
    | false =>
      rw [List.lookup_cons, hx]
      refine ih ?_
      by_cases hcnd : (k == NameKind.free && env.scope.kind == .function && env.kindOf n == some .cell) = true
      · simp only [hcnd, if_true, List.lookup_cons, hx] at h
        exact h
      · simp only [hcnd, Bool.false_eq_true, if_false, List.lookup_cons, hx] at h
        exact h
theorem relabel_free {env : Env} : ∀ {names : List (Str × NameKind)} {x : Str}, names.lookup x = some .free →
    ((names.map fun (n, k) => if (k == NameKind.free && env.scope.kind == .function && env.kindOf n == some .cell) then (n, NameKind.cell) else (n, k)).lookup x = some .cell ∨
     (names.map fun (n, k) => if (k == NameKind.free && env.scope.kind == .function && env.kindOf n == some .cell) then (n, NameKind.cell) else (n, k)).lookup x = some .free)
  | [], _, h => by simp at h
  | (n, k) :: r, x, h => by
    have ih := @relabel_free env r x
    rw [List.map_cons]
    cases hx : x == n with
    | true =>
      rw [List.lookup_cons, hx] at h
      have hk : k = .free := Option.some.inj h
      subst hk
      by_cases hcnd : (NameKind.free == NameKind.free && env.scope.kind == .function && env.kindOf n == some .cell) = true
      · simp only [hcnd, if_true, List.lookup_cons, hx]; exact .inl trivial
      · simp only [hcnd, Bool.false_eq_true, if_false, List.lookup_cons, hx]; exact .inr trivial
    | false =>
      rw [List.lookup_cons, hx] at h
      by_cases hcnd : (k == NameKind.free && env.scope.kind == .function && env.kindOf n == some .cell) = true
      · simp only [hcnd, if_true, List.lookup_cons, hx]; exact ih h
      · simp only [hcnd, Bool.false_eq_true, if_false, List.lookup_cons, hx]; exact ih h
def PTs (Y:Cx):List Expr→TT→Prop
 | [],t=>t = fun _ H Q=>Q true H
 | [c],t=>PT Y c t
 | _,_=>False
def CompGoal (ix:List (Option Nat)) (g:TG) (tt:TT) (te:TE) (σ:St) (Q:VK) (J:It) (H1:Hp):Prop:=∀ l,H1 l = none→∃ W:Nat→Nat→St→List V→Hp→Prop,
 (∃ m,W 0 m (pick ix σ) [] (upd H1 l (.lst [])))∧∀ i m σ1 ys H',W i m σ1 ys H'→H' l = some (.lst ys)∧((J.stop i H'∧Q (.ref l) H') ∨
  (J.go i H'∧∃ m',m' < m∧∀ x H2,J.yld i H' x H2→g x σ1 H2 fun σ2 H3=>tt σ2 H3 fun b H4=>if b = true then te σ2 H4 fun y H5=>H5 l = some (.lst ys)∧ys.length < sizeLine∧W (i + 1) m' σ2 (ys ++ [y]) (upd H5 l (.lst (ys ++ [y]))) else W (i + 1) m' σ2 ys H4))
def tComp (ix:List (Option Nat)) (wi:TI) (g:TG) (tt:TT) (te:TE):TE:=fun σ H Q=>wi σ H fun J H1=>CompGoal ix g tt te σ Q J H1
theorem Un.letGo {fs ex:List Addr} {H H':Hp} {h h1 h2:Heap} {C:Addr} (u:Un fs ex H H' h h1) (hC:h.objs.size≤C) (sb:Heap.SameBut C h1 h2):Un fs ex H H' h h2:=by
 have ne:∀ b o,h.get? b = some o→b≠C:=fun b o e=>Nat.ne_of_lt (Nat.lt_of_lt_of_le (Heap.lt_size e) hC)
 refine ⟨fun b o e n hb hx=>(sb.2 b (ne b o e)).trans (u.keep b o e n hb hx),fun b o e n hb hx=>?_,u.free,fun b o e hx=>?_,u.tups,u.frzs,u.tbls⟩
 ·obtain ⟨sl,q⟩:=u.slot b o e n hb hx
  exact ⟨sl,(sb.2 b (ne b o e)).trans q⟩
 ·obtain ⟨o',q⟩:=u.there b o e hx
  exact ⟨o',(sb.2 b (ne b o e)).trans q⟩
theorem HOk.letGo {P:Program} {w:World} {H:Hp} {h h':Heap} {C:Addr} (x:HOk P w H h) (hC:H C = none) (sb:Heap.SameBut C h h'):HOk P w H h':=fun a o e=>by
 have na:∀ b u,H b = some u→b≠C:=fun b u q z=>by rw [z,hC] at q; cases q
 refine (x a o e).stay (fun b u hb q=>(sb.2 b ?_).trans q) (fun _ q=>q) fun _ _ q=>q
 rcases hb with rfl | hb
 ·exact na _ _ e
 ·exact na _ _ hb
section
variable {X:Cx}
theorem wp_tests {Y:Cx} {ifs:List Expr} {tt:TT} (ht:PTs Y ifs tt) {pins:List (Addr×Obj)} {s:Shared} {σ:St} {H:Hp} {Q:Bool→Hp→Prop} (I:Inv Y pins σ H s) (h:tt σ H Q) :
  wpAny (model Y.prog Y.w) Y.A (forIn ifs true fun c r=>if r = true then do let ok ← isTrue c Y.env (eval c Y.env); pure (ForInStep.yield ok) else pure (ForInStep.yield r)) (TP Y pins σ Q) Y.xe s:=by
 match ifs,ht with
 | [],ht =>
  have e:tt = fun _ H Q=>Q true H:=ht
  subst e
  exact wpAny_tests_nil ⟨H,I,h⟩
 | [c],ht=>exact wpAny_tests_one ((show PT Y c tt from ht) pins s σ H Q I h)
 | _ :: _ :: _,ht=>exact False.elim ht
theorem pe_comp {tg iter elt:Expr} {ifs:List Expr} {scope:Scope} {pos:Pos} {N:List Str} {ix:List (Option Nat)} {wi:TI} {g:TG} {tt:TT} {te:TE}
  (hc:X.calm = true) (hi:PI X tg iter wi)
  (hg:∀ pins C s H fp,PG (compCx X pins N scope C s H fp) tg g)
  (ht:∀ pins C s H fp,PTs (compCx X pins N scope C s H fp) ifs tt)
  (he:∀ pins C s H fp,PE (compCx X pins N scope C s H fp) elt te)
  (hk:scope.kind = .function) (hcell:∀ y∈scope.names,y.2≠.cell) (hnames:∀ y∈scope.names,y.2 = .local→scope.names.lookup y.1 = some .local)
  (hfr0:(scope.names.all fun y=>!(y.2 == NameKind.free) || (X.env.cells.lookup y.1).isSome) = true) (hix:IxOk X scope N ix)
  (hs:∀ x,foldedSetIterable iter X.env x = pure x:=by intro _; rfl) :
  PE X (.ListComp elt [⟨tg,iter,ifs,0⟩] scope pos) (tComp ix wi g tt te):=by
 intro pins s σ H Q I h
 have hfr:∀ y∈scope.names,y.2 = .free→(X.env.cells.lookup y.1).isSome = true:=fun y hy e=>by
  have z:=List.all_eq_true.mp hfr0 y hy
  rw [e] at z
  simpa using z
 have hfr':∀ p∈scope.names,p.2 = .free→∃ c,X.env.cells.lookup p.1 = some c:=fun p hp e=>Option.isSome_iff_exists.mp (hfr p hp e)
 have clsub:∀ x c,(clOf X.env.cells scope.names []).lookup x = some c→X.env.cells.lookup x = some c:=clOf_sub (fun x c q=>by simp at q)
 have clhas:∀ x,scope.names.lookup x = some .free→∃ c,(clOf X.env.cells scope.names []).lookup x = some c:=fun x hx=>by
  have hm:=PySem.mem_of_lookup hx
  exact Option.isSome_iff_exists.mp (clOf_has (.inr ⟨hm,hfr _ hm rfl⟩))
 rw [eval_ListComp]
 refine wpAny_comprehension_free (use:=none) rfl hs (closure_eq hfr') hk hnames (thn (hi pins s σ H _ I h) fun v s1 h1=>thn h1 fun itv s2 h2=>?_)
 obtain ⟨it,fp,tn,J,H2,e,I2,T,st2,f2,hW⟩:=h2
 subst e
 have hfree2:H2 s2.heap.objs.size = none:=I2.hok.fresh (Nat.le_refl _)
 obtain ⟨W,⟨m0,w0⟩,turn⟩:=hW s2.heap.objs.size hfree2
 refine wpAny_newObj_type ?_
 have I3:Inv X pins σ (upd H2 s2.heap.objs.size (.lst [])) { s2 with heap:=s2.heap.push { cls:=.type "list",data:=.seq ([]:List Value).toArray } }:=I2.lnew (its:=[]) (t':=s2.toks) .nil (Nat.zero_le _)
 have f3:∀ b∈fp,FpOk X pins (upd H2 s2.heap.objs.size (.lst [])) b:=fun b hb=>by
  refine ⟨?_,(f2 b hb).2⟩
  obtain ⟨o,eo,_⟩:=T.obj _ _ st2 b hb
  rw [upd_ne (Nat.ne_of_lt (Heap.lt_size eo))]
  exact (f2 b hb).1
 have st3:tn 0 (s2.heap.push { cls:=.type "list",data:=.seq ([]:List Value).toArray }):=T.keep _ _ _ st2 fun b _ o e=>Heap.get?_push_of_some _ e
 generalize hs3:({ s2 with heap:=s2.heap.push { cls:=.type "list",data:=.seq ([]:List Value).toArray } }:Shared) = s3 at I3
 have st3:tn 0 s3.heap:=by rw [← hs3]; exact st3
 generalize hH3:upd H2 s2.heap.objs.size (.lst []) = H3 at I3 f3 w0
 generalize hacc:s2.heap.objs.size = acc at *
 refine wpAny_newFunctionEnv hcell (by intro y hy; simp at hy) (fun h₁ hns₁ hsb₁=>?_) hk
 have old:∀ b o,s3.heap.get? b = some o→h₁.get? b = some o:=fun b o q=>hsb₁.extBut b o (Nat.ne_of_lt (Heap.lt_size q)) (Heap.get?_push_of_some _ q)
 have hCfree:H3 s3.heap.objs.size = none:=I3.hok.fresh (Nat.le_refl _)
 have fpl:∀ b∈fp,b < s3.heap.objs.size:=fun b hb=>by
  obtain ⟨o,eo,_⟩:=T.obj _ _ st3 b hb
  exact Heap.lt_size eo
 have nstk:∀ b,b≠X.env.locals→b∉X.fs→b∉frs X.stack:=fun b h1 h2 z=>by
  rcases List.mem_cons.mp (I3.stkSub b z) with q | q
  ·exact h1 q
  ·exact h2 q
 have clt:∀ x c,X.env.cells.lookup x = some c→c < s3.heap.objs.size:=fun x c q=>by
  obtain ⟨v,z⟩:=I3.cell x c q
  exact z.lt
 have YI:∀ (h':Heap) (m:Str→Option Value),(∀ b o,s3.heap.get? b = some o→h'.get? b = some o)→h'.Ns s3.heap.objs.size m →
   Inv (compCx X pins N scope s3.heap.objs.size s3 H3 fp) [] (pick ix σ) H3 { s3 with heap:=h',toks:=s3.toks + ([]:List (Str×Value)).length }:=by
  intro h' m hk' hn
  refine ⟨⟨I3.ok.mod,hk,I3.ok.glob,I3.ok.blt,Nat.le_refl _,fun x y c q1 q2=>I3.ok.inj x y c (clsub x c q1) (clsub y c q2),fun x hx=>clhas x (relabel_not_local hcell hx),fun x c hf _=>absurd hf Bool.false_ne_true,
   I3.ok.hd,I3.ok.frames,.inl rfl,fun b hb=>⟨Nat.ne_of_lt (fpl b hb),fun x c q=>(f3 b hb).2.2.2.2.1 x c (clsub x c q)⟩,I3.bs,Nat.le_trans I3.ok.bsz I3.sz,fun b o e hb=>?_,fun b hb=>nstk b (f3 b hb).2.1 (f3 b hb).2.2.1,I3.stack,I3.stkFree⟩,
   rfl,I3.bare,Un.kept hk',⟨m,hn,fun i x v h1 h2 h3=>?_⟩,fun x c q=>?_,hCfree,fun x c q=>I3.freeC x c (clsub x c q),fun p hp=>?_,I3.hok.kept hk',?_⟩
  ·have q:=(I3.bs b o e).2
   rcases (f3 b hb).2.2.2.1 with z | z
   ·exact I3.ok.noex b o e z
   ·exact absurd (Nat.lt_of_lt_of_le (Heap.lt_size e) (Nat.le_trans I3.ok.bsz z)) (Nat.lt_irrefl _)
  ·obtain ⟨j,e1,e2⟩:=pick_get h2
   obtain ⟨a1,a2,a3,a4⟩:=hix.get h1 e1
   obtain ⟨mX,hnX,hlX⟩:=I3.loc
   obtain ⟨u,ru,l⟩:=hlX j x v a1 e2 a2
   refine ⟨u,ru,?_⟩
   rcases l with ⟨l1,_⟩ | ⟨_,c,lc,z⟩
   ·have l1':X.env.scope.names.lookup x = some .local:=l1
    rw [l1'] at a3
    exact absurd a3 (by decide)
   ·obtain ⟨c',hc'⟩:=clhas x a4
    have ec:=clsub x c' hc'
    rw [lc] at ec
    have ec':c = c':=Option.some.inj ec
    subst ec'
    exact .inr ⟨relabel_free a4,c,hc',z.keeps hk'⟩
  ·obtain ⟨v,z⟩:=I3.cell x c (clsub x c q)
   exact ⟨v,z.keeps hk'⟩
  ·have hp':p∈X.pn ++ pins:=by simpa using hp
   obtain ⟨a1,a2,a3,a4,a5⟩:=I3.pin p hp'
   exact ⟨hk' _ _ a1,a2,Nat.ne_of_lt (Heap.lt_size a1),nstk p.1 a3 a4,a5⟩
  ·show (pick ix σ).length = N.length
   unfold pick
   rw [List.length_map]
   exact hix.len
 have fpY:∀ {pl:List (Addr×Obj)} {H':Hp},pl = []→(∀ b∈fp,H' b = none)→∀ b∈fp,FpOk (compCx X pins N scope s3.heap.objs.size s3 H3 fp) pl H' b:=fun {pl H'} epl hn b hb=>by
  obtain ⟨f0,f1,f2',f3',f4,f5⟩:=f3 b hb
  subst epl
  exact ⟨hn b hb,Nat.ne_of_lt (fpl b hb),nstk b f1 f2',.inl hb,fun x c q=>f4 x c (clsub x c q),fun p hp=>f5 p (by simpa using hp)⟩
 have loop:∀ s4:Shared,(∃ m,s4 = { s3 with heap:=h₁,toks:=s3.toks + ([]:List (Str×Value)).length }∧h₁.Ns s3.heap.objs.size m) →
   codeAny (model X.prog X.w) X.A (.compLoop (.ListComp elt [⟨tg,iter,ifs,0⟩] scope pos) 0 (.ref it) (.ref acc) (compEnvC scope (clOf X.env.cells scope.names []) s3.heap.objs.size X.env))
    (compPost (model X.prog X.w) X.A X.xe none (EP X pins σ Q) (.ref acc) s3.heap.objs.size) s4:=by
  rintro s4 ⟨m4,rfl,hn4⟩
  refine comp_loop (E:=fun _ _=>False) (fun _ _ z=>z.elim)
   (fun n s'=>∃ i σ' ys H',Inv (compCx X pins N scope s3.heap.objs.size s3 H3 fp) [] σ' H' s'∧tn i s'.heap∧(∀ b∈fp,H' b = none)∧W i n σ' ys H') ?_ m0
   ⟨0,pick ix σ,[],H3,YI h₁ m4 old hn4,T.keep _ _ _ st3 fun b _ o q=>old b o q,fun b hb=>(f3 b hb).1,w0⟩
  rintro n s5 ⟨i,σ5,ys,H5,I5,st5,fr5,w5⟩
  obtain ⟨hl5,hstep⟩:=turn i n σ5 ys H5 w5
  rcases hstep with ⟨stop,q⟩ | ⟨go,m',hm',step⟩
  ·refine thn (T.done (compCx X pins N scope s3.heap.objs.size s3 H3 fp) rfl rfl rfl hc i [] s5 σ5 H5 (fun _ _=>False) I5 (fpY rfl fr5) st5 stop) fun r s6 ⟨hr,I6⟩=>?_
   subst hr
   obtain ⟨m6,hn6,_⟩:=I6.loc
   refine ⟨m6,hn6,fun h' sb=>?_⟩
   refine ⟨.ref acc,H5,I3.call' (ch:=fp) I6.os (I6.base.letGo (Nat.le_refl _) sb) (I6.hok.letGo I6.free sb) I6.bare fun b hb=>?_,rfl,q⟩
   obtain ⟨f0,f1,f2',f3',f4,f5⟩:=f3 b hb
   exact ⟨f3',f1,f4,f5⟩
  ·refine thn (T.item (compCx X pins N scope s3.heap.objs.size s3 H3 fp) rfl rfl rfl hc i [] s5 σ5 H5 (fun _ _=>False) I5 (fpY rfl fr5) st5 go) fun r s6 ⟨u,hr,h6⟩=>?_
   subst hr
   refine thn h6 fun _ s7 ⟨x,H7,I7,r7,y7,st7,fr7⟩=>?_
   have I7':=I7.pinned (fpY rfl fr7) (T.obj _ _ st7)
   refine thn (hg pins s3.heap.objs.size s3 H3 fp _ s7 σ5 H7 x u _ I7' r7 (step x H7 y7)) fun _ s8 ⟨σ8,H8,I8,q8⟩=>?_
   refine thn (wp_tests (ht pins s3.heap.objs.size s3 H3 fp) I8 q8) fun b s9 ⟨H9,I9,q9⟩=>?_
   have back:∀ {σz:St} {Hz:Hp} {sz:Shared} {yz:List V},Inv (compCx X pins N scope s3.heap.objs.size s3 H3 fp) ([] ++ pinsAt fp s7.heap) σz Hz sz→W (i + 1) m' σz yz Hz →
     ∃ m,m < n∧∃ i σ' ys H',Inv (compCx X pins N scope s3.heap.objs.size s3 H3 fp) [] σ' H' sz∧tn i sz.heap∧(∀ b∈fp,H' b = none)∧W i m σ' ys H':=fun {σz Hz sz yz} Iz wz=>by
    refine ⟨m',hm',i + 1,σz,yz,Hz,Iz.unpinned,T.keep _ _ _ st7 fun b hb o e=>(Iz.pin (b,o) (List.mem_append_right _ (List.mem_append_right _ (mem_pinsAt hb e)))).1,fun b hb=>?_,wz⟩
    obtain ⟨o,e,d⟩:=T.obj _ _ st7 b hb
    exact (Iz.pin (b,o) (List.mem_append_right _ (List.mem_append_right _ (mem_pinsAt hb e)))).2.1
   cases b with
   | false=>exact back I9 q9
   | true =>
    refine thn (he pins s3.heap.objs.size s3 H3 fp _ s9 σ8 H9 _ I9 q9) fun v s10 ⟨y,H10,I10,r10,hl10,hz10,w10⟩=>?_
    refine thn (mt_append _ s10 σ8 H10 (.ref acc) [y] (.ref acc) [v] (fun _ H'=>H' = upd H10 acc (.lst (ys ++ [y]))) I10 rfl (.cons r10 .nil) ⟨acc,ys,y,rfl,rfl,hl10,hz10,rfl⟩) fun _ s11 ⟨_,H11,I11,_,e11⟩=>?_
    subst e11
    exact back I11 w10
 have hn4:∃ m,h₁.Ns s3.heap.objs.size m:=⟨_,hns₁⟩
 obtain ⟨m4,hn4⟩:=hn4
 have L:=loop _ ⟨m4,rfl,hn4⟩
 exact codeAny_compStart_list L (T.self _ 0 _ _ _ (T.keep _ _ _ st3 fun b _ o q=>old b o q) L)
end
end L2
namespace L2
open PySem
theorem nne {a b:Nat} (h:@Ne Nat a b):@Ne Addr a b:=h
def SrcOf (k:Bool) (h:Heap) (a:Addr) (xs:Array Value):Prop:=match k with | true=>h.IsTuple a xs | false=>h.IsList a xs
def ItAt (k:Bool) (h:Heap) (it a:Addr) (i:Nat):Prop:=match k with | true=>h.IsTupleIter it a i | false=>h.IsListIter it a i
def itObj (k:Bool) (a:Addr):Obj:=match k with | true=>{ cls:=.type "tuple_iterator",data:=.fields #[.ref a,.int 0 0] } | false=>{ cls:=.type "list_iterator",data:=.fields #[.ref a,.int 0 0] }
abbrev IsT (h:Heap) (T:Addr) (vs:Array Value):Prop:=h.get? T = some { cls:=.type "tuple",data:=.seq vs }
theorem SrcOf.keep {k:Bool} {h h':Heap} {a:Addr} {xs:Array Value} (x:SrcOf k h a xs) (hk:∀ o,h.get? a = some o→h'.get? a = some o):SrcOf k h' a xs:=by
 cases k with
 | true=>obtain ⟨o,e,r⟩:=x; exact ⟨o,hk o e,r⟩
 | false=>obtain ⟨o,e,r⟩:=x; exact ⟨o,hk o e,r⟩
theorem ItAt.keep {k:Bool} {h h':Heap} {it a:Addr} {i:Nat} (x:ItAt k h it a i) (hk:∀ o,h.get? it = some o→h'.get? it = some o):ItAt k h' it a i:=by
 cases k with
 | true=>obtain ⟨o,e,r⟩:=x; exact ⟨o,hk o e,r⟩
 | false=>obtain ⟨o,e,r⟩:=x; exact ⟨o,hk o e,r⟩
theorem ItAt.obj {k:Bool} {h:Heap} {it a:Addr} {i:Nat} (x:ItAt k h it a i):∃ o,h.get? it = some o∧∀ v,o.data≠.cell v:=by
 cases k with
 | true=>obtain ⟨o,e,_,d⟩:=x; exact ⟨o,e,fun v z=>by rw [d] at z; cases z⟩
 | false=>obtain ⟨o,e,_,d⟩:=x; exact ⟨o,e,fun v z=>by rw [d] at z; cases z⟩
theorem SrcOf.lt {k:Bool} {h:Heap} {a:Addr} {xs:Array Value} (x:SrcOf k h a xs):a < h.objs.size:=by
 cases k with
 | true=>obtain ⟨o,e,_⟩:=x; exact Heap.lt_size e
 | false=>obtain ⟨o,e,_⟩:=x; exact Heap.lt_size e
theorem itObj_at {k:Bool} {h:Heap} {it a:Addr} (e:h.get? it = some (itObj k a)):ItAt k h it a 0:=by
 cases k with
 | true=>exact ⟨_,e,rfl,rfl⟩
 | false=>exact ⟨_,e,rfl,rfl⟩
section
variable {prog:Program} {w:World} {A:Around} {E:Value→Shared→Prop} {s:Shared}
theorem src_iter {k:Bool} {a:Addr} {xs:Array Value} {Q:Value→Shared→Prop} (h:SrcOf k s.heap a xs) (hQ:Q (.ref s.heap.objs.size) { s with heap:=s.heap.push (itObj k a) }):wpAny (model prog w) A (pyIter (.ref a)) Q E s:=by
 cases k with
 | true=>exact wpAny_pyIter_tuple h hQ
 | false=>exact wpAny_pyIter_list h hQ
theorem nextOf_tuple_item {it t:Addr} {i:Nat} {items} {x:Value} {Q:Value→Shared→Prop} (hit:s.heap.IsTupleIter it t i)
  (ht:s.heap.IsTuple t items) (hx:items[i]? = some x)
  (hQ:∀ h',h'.IsTupleIter it t (i + 1)→Heap.SameBut it s.heap h'→Q x { s with heap:=h' }) :
  wpAny (model prog w) A (Builtin.SmallTypes.nextOf (.ref it)) Q E s:=by
 obtain ⟨o,ho,hc,hd⟩:=id hit
 obtain ⟨ol,hol,_,nl,hdl⟩:=ht
 unfold Builtin.SmallTypes.nextOf
 refine wpAny_bind (wpAny_callSpecial?_slot (name:=Str.ofString "__next__") hit.typeIs F.slot_tuple_iterator_next
  (wpAny_call_entry F.slot_tuple_iterator_next hit.typeIs F.entry_tuple_iterator_next ?_ (F.args_tuple_iterator_next_1 _)))
 show wpAny _ _ (field (.ref it) 0 >>= _) _ _ s
 refine wpAny_bind (wpAny_field ho hd (x:=.ref t) rfl ?_)
 show wpAny _ _ (if (Value.ref t == Value.none) = true then _ else _) _ _ s
 rw [if_neg (show ¬ ((Value.ref t == Value.none) = true) from Bool.false_ne_true)]
 show wpAny _ _ (field (.ref it) 1 >>= _) _ _ s
 refine wpAny_bind (wpAny_field ho hd (x:=.int i 0) rfl ?_)
 show wpAny _ _ (seqItems? (.ref t) >>= _) _ _ s
 refine wpAny_bind (wpAny_seqItems hol hdl ?_)
 simp only [Int.toNat_natCast,hx]
 refine wpAny_bind (wpAny_setField ho hd (by simp) (wpAny_pure ⟨x,rfl,wpAny_pure (hQ _ ?_ (Heap.SameBut.update ..))⟩))
 exact ⟨_,Heap.get?_update_self _ ho (Obj.isFreed_of_fields (Obj.data_mapFields hd _)),(Obj.cls_mapFields ..).trans hc,by
  rw [Obj.data_mapFields hd]; simp [rawInt]⟩
theorem nextOf_tuple_end {it t:Addr} {i:Nat} {items} {Q:Value→Shared→Prop} (hh:A.handled = none)
  (hit:s.heap.IsTupleIter it t i) (ht:s.heap.IsTuple t items) (hx:items[i]? = none)
  (hE:∀ h' e,Heap.ExtBut it s.heap h'→(∃ o,h'.get? e = some o∧o.cls = .type "StopIteration")→E (.ref e) { s with heap:=h' }) :
  wpAny (model prog w) A (Builtin.SmallTypes.nextOf (.ref it)) Q E s:=by
 obtain ⟨o,ho,hc,hd⟩:=id hit
 obtain ⟨ol,hol,_,nl,hdl⟩:=ht
 unfold Builtin.SmallTypes.nextOf
 refine wpAny_bind (wpAny_callSpecial?_slot (name:=Str.ofString "__next__") hit.typeIs F.slot_tuple_iterator_next
  (wpAny_call_entry F.slot_tuple_iterator_next hit.typeIs F.entry_tuple_iterator_next ?_ (F.args_tuple_iterator_next_1 _)))
 show wpAny _ _ (field (.ref it) 0 >>= _) _ _ s
 refine wpAny_bind (wpAny_field ho hd (x:=.ref t) rfl ?_)
 show wpAny _ _ (if (Value.ref t == Value.none) = true then _ else _) _ _ s
 rw [if_neg (show ¬ ((Value.ref t == Value.none) = true) from Bool.false_ne_true)]
 show wpAny _ _ (field (.ref it) 1 >>= _) _ _ s
 refine wpAny_bind (wpAny_field ho hd (x:=.int i 0) rfl ?_)
 show wpAny _ _ (seqItems? (.ref t) >>= _) _ _ s
 refine wpAny_bind (wpAny_seqItems hol hdl ?_)
 simp only [Int.toNat_natCast,hx]
 refine wpAny_bind (wpAny_rule (wpAny_bind (wpAny_setField ho hd (by simp) ?_)))
 show wpAny _ _ (newExc (.type "StopIteration") [] >>= _) _ _ _
 refine wpAny_bind ?_
 simp only [newExc,newTuple]
 refine wpAny_bind (wpAny_newObj_type ?_ (by size_fits))
 refine wpAny_bind (m:=firstArgMember _ _) (wpAny_of_eq (a:=Value.none) (by first | rfl | (simp only [firstArgMember]; rfl)) ?_)
 refine wpAny_newObj_type ?_ (by size_fits)
 simp only [raiseNew]
 refine wpAny_bind (wpAny_handled ?_)
 first | rw [show A.in1.handled = none from hh] | rw [hh]
 refine wpAny_bind (wpAny_pure (wpAny_throw ?_))
 exact hE _ _ (((Heap.SameBut.update ..).extBut.push _).push _) ⟨_,Heap.get?_push_size _ rfl,rfl⟩
theorem sub_item {k:Bool} {it a:Addr} {i:Nat} {xs:Array Value} {x:Value} {Q:Value→Shared→Prop} (hit:ItAt k s.heap it a i) (hs:SrcOf k s.heap a xs) (hx:xs[i]? = some x)
  (hQ:∀ h',ItAt k h' it a (i + 1)→Heap.SameBut it s.heap h'→Q x { s with heap:=h' }):wpAny (model prog w) A (Builtin.SmallTypes.nextOf (.ref it)) Q E s:=by
 cases k with
 | true=>exact nextOf_tuple_item hit hs hx hQ
 | false=>exact wpAny_nextOf_list_item hit hs hx hQ
theorem sub_end {k:Bool} {it a:Addr} {i:Nat} {xs:Array Value} {Q:Value→Shared→Prop} (hh:A.handled = none) (hit:ItAt k s.heap it a i) (hs:SrcOf k s.heap a xs) (hx:xs[i]? = none)
  (hE:∀ h' e,Heap.ExtBut it s.heap h'→(∃ o,h'.get? e = some o∧o.cls = .type "StopIteration")→E (.ref e) { s with heap:=h' }):wpAny (model prog w) A (Builtin.SmallTypes.nextOf (.ref it)) Q E s:=by
 cases k with
 | true=>exact nextOf_tuple_end hh hit hs hx hE
 | false=>exact wpAny_nextOf_list_end hh hit hs hx hE
theorem upd_tup {T:Addr} {vs:Array Value} {x:Value} {k:Nat} {Q:Unit→Shared→Prop} (hT:IsT s.heap T vs) (hz:vs.size≤8)
  (h:∀ h',IsT h' T (vs.setIfInBounds k x)→Heap.SameBut T s.heap h'→Q () { s with heap:=h' }):wpAny (model prog w) A (updateSeq T (·.setIfInBounds k x)) Q E s:=by
 have hz2:vs.size≤sizeLine:=Nat.le_trans hz (by decide)
 refine wpAny_updateSeq (hz:=hz2) (_hz':=by simp only [Array.size_setIfInBounds]; omega) hT rfl (h _ ?_ (Heap.SameBut.update ..))
 show (s.heap.update T _).get? T = _
 rw [Heap.get?_update_self _ hT rfl]
 simp [Obj.mapSeq]
structure Zip2 (k1 k2:Bool) (n a b:Nat) (i:Nat) (f0:Value) (h:Heap):Prop where
 z:IsZip h (n + 4) (n + 2) (n + 3) f0
 ti:IsT h (n + 2) #[.ref n,.ref (n + 1)]
 to:∃ u v,IsT h (n + 3) #[u,v]
 i1:ItAt k1 h n a i
 i2:ItAt k2 h (n + 1) b i
def Off (l:List Addr) (h h':Heap):Prop:=∀ c o,c∉l→h.get? c = some o→h'.get? c = some o
theorem Off.of {c:Addr} {l:List Addr} {h h':Heap} (s:Heap.SameBut c h h') (hc:c∈l):Off l h h':=fun b o hb e=>(s.2 b fun z=>hb (z ▸ hc)).trans e
theorem Off.trans {l:List Addr} {h h1 h2:Heap} (a:Off l h h1) (b:Off l h1 h2):Off l h h2:=fun c o hc e=>b c o hc (a c o hc e)
theorem zip2_next {k1 k2:Bool} {n a b:Nat} {i:Nat} {xs ys:Array Value} {x y:Value} {Q:Value→Shared→Prop} (Z:Zip2 k1 k2 n a b i .none s.heap) (ha:a < n) (hb:b < n)
  (h1:SrcOf k1 s.heap a xs) (h2:SrcOf k2 s.heap b ys) (hx:xs[i]? = some x) (hy:ys[i]? = some y)
  (hQ:∀ h',Zip2 k1 k2 n a b (i + 1) (rawInt s.heap.objs.size) h'→IsT h' s.heap.objs.size #[x,y]→h'.objs.size = s.heap.objs.size + 1→Off [n,n + 1,n + 3,n + 4] s.heap h'→Q (.ref s.heap.objs.size) { s with heap:=h' }) :
  wpAny (model prog w) A (Builtin.«zip.__next__» ⟨[.ref (n + 4)],[]⟩) (fun fin s'=>∃ v,fin = .done (.ret v)∧Q v s') E s:=by
 obtain ⟨hz,hTI,⟨u,v,hTO⟩,hi1,hi2⟩:=Z
 show wpAny _ _ (field (.ref (n + 4)) 2 >>= _) _ _ _
 refine wpAny_bind (wpAny_field hz rfl (x:=.bool false) rfl ?_)
 show wpAny _ _ (field (.ref (n + 4)) 3 >>= _) _ _ _
 refine wpAny_bind (wpAny_field hz rfl (x:=.ref (n + 2)) rfl ?_)
 refine wpAny_bind (wpAny_seqItems hTI rfl ?_)
 show wpAny _ _ (Builtin.SmallTypes.ownedTupleIsFree (.ref (n + 4)) >>= _) _ _ _
 refine wpAny_bind ?_
 unfold Builtin.SmallTypes.ownedTupleIsFree
 refine wpAny_bind (wpAny_field hz rfl (x:=.none) rfl (wpAny_pure ?_))
 simp only [if_true]
 refine wpAny_bind (wpAny_rule ?_)
 refine wpAny_bind (wpAny_field hz rfl (x:=.ref (n + 3)) rfl ?_)
 refine wpAny_bind (wpAny_setField_rec hz (by simp) fun g1 hz1 hs1=>?_)
 replace hz1:IsZip g1 (n + 4) (n + 2) (n + 3) .ellipsis:=hz1
 refine wpAny_bind ?_
 simp only [List.zipIdx_cons,List.zipIdx_nil,List.forIn_cons,List.forIn_nil]
 refine wpAny_bind (wpAny_bind (wpAny_onRaise ?_))
 show wpAny _ _ (Builtin.SmallTypes.nextOf (.ref n) >>= _) _ _ _
 refine wpAny_bind (sub_item (hi1.keep fun o e=>(hs1.2 _ (nne (by omega))).trans e) (h1.keep fun o e=>(hs1.2 _ (nne (by omega))).trans e) hx fun g2 hi1' hs2=>wpAny_pure ?_)
 have hTO2:IsT g2 (n + 3) #[u,v]:=(hs2.2 _ (nne (by omega))).trans ((hs1.2 _ (nne (by omega))).trans hTO)
 refine wpAny_bind (wpAny_seqItems hTO2 rfl ?_)
 refine wpAny_bind (upd_tup hTO2 (by simp) fun g3 hTO3 hs3=>?_)
 replace hTO3:IsT g3 (n + 3) #[x,v]:=hTO3
 refine wpAny_bind (wpAny_letGo (wpAny_pure ?_))
 refine wpAny_bind (wpAny_bind (wpAny_onRaise ?_))
 show wpAny _ _ (Builtin.SmallTypes.nextOf (.ref (n + 1)) >>= _) _ _ _
 refine wpAny_bind (sub_item (hi2.keep fun o e=>(hs3.2 _ (nne (by omega))).trans ((hs2.2 _ (nne (by omega))).trans ((hs1.2 _ (nne (by omega))).trans e))) (h2.keep fun o e=>(hs3.2 _ (nne (by omega))).trans ((hs2.2 _ (nne (by omega))).trans ((hs1.2 _ (nne (by omega))).trans e))) hy fun g4 hi2' hs4=>wpAny_pure ?_)
 have hTO4:IsT g4 (n + 3) #[x,v]:=(hs4.2 _ (nne (by omega))).trans hTO3
 refine wpAny_bind (wpAny_seqItems hTO4 rfl ?_)
 refine wpAny_bind (upd_tup hTO4 (by simp) fun g5 hTO5 hs5=>?_)
 replace hTO5:IsT g5 (n + 3) #[x,y]:=hTO5
 refine wpAny_bind (wpAny_letGo (wpAny_pure (wpAny_pure ?_)))
 refine wpAny_bind (wpAny_seqItems hTO5 rfl ?_)
 refine wpAny_bind (wpAny_newTuple ?_)
 have hsz:g5.objs.size = s.heap.objs.size:=by rw [hs5.1,hs4.1,hs3.1,hs2.1,hs1.1]
 have hz5:IsZip g5 (n + 4) (n + 2) (n + 3) .ellipsis:=(hs5.2 _ (nne (by omega))).trans ((hs4.2 _ (nne (by omega))).trans ((hs3.2 _ (nne (by omega))).trans ((hs2.2 _ (nne (by omega))).trans hz1)))
 have off5:Off [n,n + 1,n + 3,n + 4] s.heap g5:=((((Off.of hs1 (by simp)).trans (Off.of hs2 (by simp))).trans (Off.of hs3 (by simp))).trans (Off.of hs4 (by simp))).trans (Off.of hs5 (by simp))
 have hzlt:n + 4 < g5.objs.size:=Heap.lt_size hz5
 show wpAny _ _ (Builtin.SmallTypes.ownedTupleHandOut (.ref (n + 4)) (.ref g5.objs.size) >>= _) _ _ _
 refine wpAny_bind ?_
 unfold Builtin.SmallTypes.ownedTupleHandOut
 have hz6:IsZip (g5.push { cls:=.type "tuple",data:=.seq #[x,y] }) (n + 4) (n + 2) (n + 3) .ellipsis:=Heap.get?_push_of_some _ hz5
 refine wpAny_bind (wpAny_setField_rec hz6 (by simp) fun g7 hz7 hs7=>?_)
 replace hz7:IsZip g7 (n + 4) (n + 2) (n + 3) (rawInt g5.objs.size):=hz7
 refine wpAny_setField_rec hz7 (by simp) fun g8 hz8 hs8=>?_
 replace hz8:IsZip g8 (n + 4) (n + 2) (n + 3) (rawInt g5.objs.size):=hz8
 have up:∀ c o,c≠n + 4→g5.get? c = some o→g8.get? c = some o:=fun c o c1 e=>(hs8.2 _ c1).trans ((hs7.2 _ c1).trans (Heap.get?_push_of_some _ e))
 have hT8:IsT g8 g5.objs.size #[x,y]:=(hs8.2 _ (Nat.ne_of_gt hzlt)).trans ((hs7.2 _ (Nat.ne_of_gt hzlt)).trans (Heap.get?_push_size _ rfl))
 have hz8':g8.objs.size = g5.objs.size + 1:=by rw [hs8.1,hs7.1,Heap.size_push]
 rw [hsz] at hz8 hT8 hz8'
 refine wpAny_pure ⟨_,rfl,?_⟩
 show Q (.ref g5.objs.size) _
 rw [hsz]
 refine hQ g8 ⟨hz8,up _ _ (nne (by omega)) (off5 _ _ (by simp) hTI),⟨x,y,up _ _ (nne (by omega)) hTO5⟩,?_,?_⟩ hT8 hz8' fun c o hc e=>?_
 ·exact hi1'.keep fun o e=>up _ o (nne (by omega)) ((hs5.2 _ (nne (by omega))).trans ((hs4.2 _ (nne (by omega))).trans ((hs3.2 _ (nne (by omega))).trans e)))
 ·exact hi2'.keep fun o e=>up _ o (nne (by omega)) ((hs5.2 _ (nne (by omega))).trans e)
 ·exact up c o (fun z=>hc (by simp [z])) (off5 c o hc e)
theorem zip2_stop {k1 k2:Bool} {n a b:Nat} {i:Nat} {xs ys:Array Value} {Q:Fin→Shared→Prop} (hh:A.handled = none) (Z:Zip2 k1 k2 n a b i .none s.heap) (ha:a < n) (hb:b < n)
  (h1:SrcOf k1 s.heap a xs) (h2:SrcOf k2 s.heap b ys) (hend:xs[i]? = none∨ys[i]? = none)
  (hE:∀ h' e,Off [n,n + 1,n + 3,n + 4] s.heap h'→(∃ o,h'.get? e = some o∧o.cls = .type "StopIteration")→E (.ref e) { s with heap:=h' }) :
  wpAny (model prog w) A (Builtin.«zip.__next__» ⟨[.ref (n + 4)],[]⟩) Q E s:=by
 obtain ⟨hz,hTI,⟨u,v,hTO⟩,hi1,hi2⟩:=Z
 show wpAny _ _ (field (.ref (n + 4)) 2 >>= _) _ _ _
 refine wpAny_bind (wpAny_field hz rfl (x:=.bool false) rfl ?_)
 show wpAny _ _ (field (.ref (n + 4)) 3 >>= _) _ _ _
 refine wpAny_bind (wpAny_field hz rfl (x:=.ref (n + 2)) rfl ?_)
 refine wpAny_bind (wpAny_seqItems hTI rfl ?_)
 show wpAny _ _ (Builtin.SmallTypes.ownedTupleIsFree (.ref (n + 4)) >>= _) _ _ _
 refine wpAny_bind ?_
 unfold Builtin.SmallTypes.ownedTupleIsFree
 refine wpAny_bind (wpAny_field hz rfl (x:=.none) rfl (wpAny_pure ?_))
 simp only [if_true]
 refine wpAny_bind (wpAny_rule ?_)
 refine wpAny_bind (wpAny_field hz rfl (x:=.ref (n + 3)) rfl ?_)
 refine wpAny_bind (wpAny_setField_rec hz (by simp) fun g1 hz1 hs1=>?_)
 replace hz1:IsZip g1 (n + 4) (n + 2) (n + 3) .ellipsis:=hz1
 refine wpAny_bind ?_
 simp only [List.zipIdx_cons,List.zipIdx_nil,List.forIn_cons,List.forIn_nil]
 refine wpAny_bind (wpAny_bind (wpAny_onRaise ?_))
 show wpAny _ _ (Builtin.SmallTypes.nextOf (.ref n) >>= _) _ _ _
 have fin:∀ {g h':Heap} {e:Addr},IsZip g (n + 4) (n + 2) (n + 3) .ellipsis→(∃ o,g.get? e = some o∧o.cls = .type "StopIteration")→Off [n,n + 1,n + 3,n + 4] s.heap g→∀ s':Shared,s' = { s with heap:=g } →
   wpAny (model prog w) A (setField (.ref (n + 4)) 0 .none) (fun _ s'=>E (.ref e) s') E s':=by
  intro g h' e hzg ⟨oe,hoe,hce⟩ off s' es
  subst es
  have hez:e≠n + 4:=fun z=>by subst z; rw [hzg] at hoe; cases hoe; simp at hce
  exact wpAny_setField_rec hzg (by simp) fun g9 _ hs9=>hE g9 e (off.trans (Off.of hs9 (by simp))) ⟨oe,(hs9.2 _ hez).trans hoe,hce⟩
 cases hx:xs[i]? with
 | none =>
  refine wpAny_bind (sub_end hh (hi1.keep fun o e=>(hs1.2 _ (nne (by omega))).trans e) (h1.keep fun o e=>(hs1.2 _ (nne (by omega))).trans e) hx fun g2 e hs2 he=>?_)
  exact fin (h':=g2) (hs2 _ _ (nne (by omega)) hz1) he ((Off.of hs1 (by simp)).trans fun c o hc q=>hs2 c o (fun z=>hc (by simp [z])) q) _ rfl
 | some x =>
  have hy:ys[i]? = none:=by rcases hend with h | h; rw [hx] at h; cases h; exact h
  refine wpAny_bind (sub_item (hi1.keep fun o e=>(hs1.2 _ (nne (by omega))).trans e) (h1.keep fun o e=>(hs1.2 _ (nne (by omega))).trans e) hx fun g2 hi1' hs2=>wpAny_pure ?_)
  have hTO2:IsT g2 (n + 3) #[u,v]:=(hs2.2 _ (nne (by omega))).trans ((hs1.2 _ (nne (by omega))).trans hTO)
  refine wpAny_bind (wpAny_seqItems hTO2 rfl ?_)
  refine wpAny_bind (upd_tup hTO2 (by simp) fun g3 hTO3 hs3=>?_)
  refine wpAny_bind (wpAny_letGo (wpAny_pure ?_))
  refine wpAny_bind (wpAny_bind (wpAny_onRaise ?_))
  show wpAny _ _ (Builtin.SmallTypes.nextOf (.ref (n + 1)) >>= _) _ _ _
  refine wpAny_bind (sub_end hh (hi2.keep fun o e=>(hs3.2 _ (nne (by omega))).trans ((hs2.2 _ (nne (by omega))).trans ((hs1.2 _ (nne (by omega))).trans e))) (h2.keep fun o e=>(hs3.2 _ (nne (by omega))).trans ((hs2.2 _ (nne (by omega))).trans ((hs1.2 _ (nne (by omega))).trans e))) hy fun g4 e hs4 he=>?_)
  exact fin (h':=g4) (hs4 _ _ (nne (by omega)) ((hs3.2 _ (nne (by omega))).trans ((hs2.2 _ (nne (by omega))).trans hz1))) he ((((Off.of hs1 (by simp)).trans (Off.of hs2 (by simp))).trans (Off.of hs3 (by simp))).trans fun c o hc q=>hs4 c o (fun z=>hc (by simp [z])) q) _ rfl
theorem pyNext_zip2 {k1 k2:Bool} {n a b:Nat} {i:Nat} {xs ys:Array Value} {x y:Value} {Q:Option Value→Shared→Prop} (Z:Zip2 k1 k2 n a b i .none s.heap) (ha:a < n) (hb:b < n)
  (h1:SrcOf k1 s.heap a xs) (h2:SrcOf k2 s.heap b ys) (hx:xs[i]? = some x) (hy:ys[i]? = some y)
  (hQ:∀ h',Zip2 k1 k2 n a b (i + 1) (rawInt s.heap.objs.size) h'→IsT h' s.heap.objs.size #[x,y]→h'.objs.size = s.heap.objs.size + 1→Off [n,n + 1,n + 3,n + 4] s.heap h'→Q (some (.ref s.heap.objs.size)) { s with heap:=h' }) :
  wpAny (model prog w) A (pyNext (.ref (n + 4))) Q E s:=by
 have hT:s.TypeIs (.ref (n + 4)) "zip":=⟨_,Z.z,rfl⟩
 unfold pyNext
 exact wpAny_bind (wpAny_attempt (wpAny_callSpecial?_slot (name:=Str.ofString "__next__") hT F.slot_zip_next
  (wpAny_call_entry F.slot_zip_next hT F.entry_zip_next
   (zip2_next Z ha hb h1 h2 hx hy fun h' a1 a2 a3 a4=>wpAny_pure (hQ h' a1 a2 a3 a4)) (F.args_zip_next_1 _))))
theorem pyNext_zip2_end {k1 k2:Bool} {n a b:Nat} {i:Nat} {xs ys:Array Value} {Q:Option Value→Shared→Prop} (hh:A.handled = none) (Z:Zip2 k1 k2 n a b i .none s.heap) (ha:a < n) (hb:b < n)
  (h1:SrcOf k1 s.heap a xs) (h2:SrcOf k2 s.heap b ys) (hend:xs[i]? = none∨ys[i]? = none)
  (hQ:∀ h',Off [n,n + 1,n + 3,n + 4] s.heap h'→Q none { s with heap:=h' }):wpAny (model prog w) A (pyNext (.ref (n + 4))) Q E s:=by
 have hT:s.TypeIs (.ref (n + 4)) "zip":=⟨_,Z.z,rfl⟩
 unfold pyNext
 refine wpAny_bind (wpAny_attempt (wpAny_callSpecial?_slot (name:=Str.ofString "__next__") hT F.slot_zip_next
  (wpAny_call_entry F.slot_zip_next hT F.entry_zip_next (zip2_stop (A:=A.in1) hh Z ha hb h1 h2 hend fun h' e hk he=>?_) (F.args_zip_next_1 _))))
 obtain ⟨o,ho,hc⟩:=he
 refine wpAny_bind (wpAny_isInstance (T:="StopIteration") (b:=true) ⟨o,ho,hc⟩ isSubtype_stop ?_)
 exact wpAny_pure (hQ _ hk)
end
abbrev zh5 (k1 k2:Bool) (h:Heap) (a b:Addr):Heap:=((((h.push (itObj k1 a)).push (itObj k2 b)).push { cls:=.type "tuple",data:=.seq #[.ref h.objs.size,.ref (h.objs.size + 1)] }).push { cls:=.type "tuple",data:=.seq #[.none,.none] }).push
 { cls:=.type "zip",data:=.fields #[.none,.bool false,.bool false,.ref (h.objs.size + 2),.ref (h.objs.size + 3)] }
theorem zip2_made (k1 k2:Bool) (a b:Addr) (xs ys:Array Value) :
  Meets (Builtin.«zip.__new__» ⟨[.type "zip",.ref a,.ref b],[]⟩) (fun _ R s=>SrcOf k1 s.heap a xs∧SrcOf k2 s.heap b ys ∧
   R (.ok (.ret (.ref (s.heap.objs.size + 4)))) { s with heap:=zh5 k1 k2 s.heap a b }) :=
 .of_wp fun prog w A R s h=>by
  obtain ⟨hp,g,d,tk,os⟩:=s; obtain ⟨hl1,hl2,h⟩:=h
  have hsub:=sub_zip
  have hL1:SrcOf k1 (Shared.heap ⟨hp,g,d,tk,os⟩) a xs:=hl1
  have hL2:SrcOf k2 (Shared.heap ⟨hp.push (itObj k1 a),g,d,tk,os⟩) b ys:=SrcOf.keep hl2 fun o e=>Heap.get?_push_of_some _ e
  wp_walk using src_iter hL1,src_iter hL2
  refine ⟨_,rfl,?_⟩
  simp only [Heap.size_push]
  exact h
end L2
namespace L2
open PySem PySem.Spec PyProof.Rows
def Sq (k:Bool) (K:PySem.W.Frag) (H:Hp) (a:Addr) (xs:List V):Prop:=match k with | true=>SqT K H a xs | false=>SqL K H a xs
section
variable {X:Cx} {pins:List (Addr×Obj)} {σ:St} {H H':Hp} {s:Shared}
theorem Inv.sq {k:Bool} {a:Addr} {xs:List V} (I:Inv X pins σ H s) (h:Sq k X.K H a xs):∃ its:List Value,Vals xs its∧SrcOf k s.heap a its.toArray∧xs.length≤sizeLine:=by
 cases k with
 | true=>exact I.tuple h
 | false =>
  obtain ⟨its,r,p,z⟩:=I.list h
  exact ⟨its,r,p.isList,z⟩
theorem Inv.sq_inj {k:Bool} {a:Addr} {xs ys:List V} (I:Inv X pins σ H s) (h:Sq k X.K H a xs) (h':Sq k X.K H a ys):xs = ys:=by
 cases k with
 | true=>exact I.tuple_inj h h'
 | false=>exact I.list_inj h h'
theorem Inv.off {h':Heap} {t':Nat} {ch:List Addr} (I:Inv X pins σ H s) (hf:∀ b∈ch,FpOk X pins H b) (off:Off ch s.heap h') (hok:HOk X.prog X.w H' h')
  (free:∀ b o,b∉ch→s.heap.get? b = some o→H b = none→H' b = none) (same:∀ b o,H b = some o→H' b = some o):Inv X pins σ H' { s with heap:=h',toks:=t' }:=by
 refine I.step (g':=s.gens) (d':=s.drawn) (ch:=ch) (fun b hb=>?_) (fun b o _ _ hc e _=>off b o hc e) (fun b o _ _ hc e _=>⟨o.slots,off b o hc e⟩) (fun b o hc e n=>free b o hc e n) (fun b o hc e=>⟨o,off b o hc e⟩)
  (fun b xs e=>same b _ e) (fun b o u e=>same b _ e) (fun b ps e=>⟨#[],by rw [same b _ e]; simp⟩) (fun m hm=>?_) hok I.bare
 ·obtain ⟨f0,f1,f2,f3,f4,f5⟩:=hf b hb
  exact ⟨f3,f1,f4,f5⟩
 ·obtain ⟨o,es,ep,ho,r⟩:=hm
  exact ⟨o,es,ep,off _ o (fun z=>(hf _ z).2.1 rfl) ho,r⟩
theorem HOk.off {P:Program} {w:World} {h h':Heap} {ch:List Addr} (x:HOk P w H h) (hn:∀ b∈ch,H b = none) (off:Off ch h h'):HOk P w H h':=fun a o e=>by
 have na:∀ b u,H b = some u→b∉ch:=fun b u q z=>by rw [hn b z] at q; cases q
 refine (x a o e).stay (fun b u hb q=>off b u ?_ q) (fun _ q=>q) fun _ _ q=>q
 rcases hb with rfl | hb
 ·exact na _ _ e
 ·exact na _ _ hb
theorem HOk.offNew {P:Program} {w:World} {h h':Heap} {ch:List Addr} {T:Addr} {ob:HO} (x:HOk P w H h) (hn:∀ b∈ch,H b = none) (off:Off ch h h') (hT:h.objs.size≤T) (new:ObjOk P w (upd H T ob) h' T ob):HOk P w (upd H T ob) h':=fun a o e=>by
 have hTn:=x.fresh hT
 have na:∀ b u,H b = some u→b∉ch:=fun b u q z=>by rw [hn b z] at q; cases q
 by_cases ha:a = T
 ·subst ha; rw [upd_same] at e; cases e; exact new
 ·rw [upd_ne ha] at e
  refine (x a o e).stay (fun b u hb q=>off b u ?_ q) (fun c q=>by rw [upd_ne (ne_of_none q hTn)]; exact q) fun c xs q=>by rw [upd_ne (ne_of_none q hTn)]; exact q
  rcases hb with rfl | hb
  ·exact na _ _ e
  ·exact na _ _ hb
end
theorem off_mem {c:Addr} {n:Nat} (z:c∈([n,n + 1,n + 3,n + 4]:List Addr)):c∈([n + 4,n + 2,n + 3,n,n + 1]:List Addr):=by
 simp only [List.mem_cons,List.not_mem_nil,or_false] at z ⊢
 rcases z with h | h | h | h <;> simp [h]
def Itz (K : PySem.W.Frag) (k1 k2 : Bool) (a b : Addr) : It :=
  ⟨fun i H => ∃ xs ys x y, Sq k1 K H a xs ∧ Sq k2 K H b ys ∧ xs[i]? = some x ∧ ys[i]? = some y,
   fun i H v H' => ∃ p x y, v = .ref p ∧ H p = none ∧ (∀ xs, Sq k1 K H a xs → xs[i]? = some x) ∧ (∀ ys, Sq k2 K H b ys → ys[i]? = some y) ∧ H' = upd H p (.tup [x, y]),
   fun i H => ∃ xs ys, Sq k1 K H a xs ∧ Sq k2 K H b ys ∧ (xs.length ≤ i ∨ ys.length ≤ i)⟩
theorem turn_zip2 {P:Program} {w:World} {K:PySem.W.Frag} {es:List Expr} {kk:Nat} {pos:Pos} {k1 k2:Bool} (n a b:Nat) (ha:a < n) (hb:b < n) :
  Turn P w K (.Tuple es kk pos) (Itz K k1 k2 a b) [n + 4,n + 2,n + 3,n,n + 1] (n + 4) (fun i h=>Zip2 k1 k2 n a b i .none h) where
 mem:=by simp
 obj:=fun i h st c hc=>by
  obtain ⟨hz,hTI,⟨u,v,hTO⟩,hi1,hi2⟩:=st
  simp only [List.mem_cons,List.not_mem_nil,or_false] at hc
  rcases hc with rfl | rfl | rfl | rfl | rfl
  ·exact ⟨_,hz,fun v z=>nomatch z⟩
  ·exact ⟨_,hTI,fun v z=>nomatch z⟩
  ·exact ⟨_,hTO,fun v z=>nomatch z⟩
  ·exact hi1.obj
  ·exact hi2.obj
 keep:=fun i h h' st k=>by
  obtain ⟨hz,hTI,⟨u,v,hTO⟩,hi1,hi2⟩:=st
  exact ⟨k _ (by simp) _ hz,k _ (by simp) _ hTI,⟨u,v,k _ (by simp) _ hTO⟩,hi1.keep fun o e=>k _ (by simp) o e,hi2.keep fun o e=>k _ (by simp) o e⟩
 item:=by
  intro X hP hw hK hc i pins s σ H E I hf st hg
  subst hP hw hK
  obtain ⟨xs,ys,x,y,qx,qy,ex,ey⟩:=hg
  obtain ⟨is1,r1,s1,_⟩:=I.sq qx
  obtain ⟨is2,r2,s2,_⟩:=I.sq qy
  obtain ⟨u,hu,ru⟩:=r1.get ex
  obtain ⟨v,hv,rv⟩:=r2.get ey
  refine pyNext_zip2 st ha hb s1 s2 (x:=u) (y:=v) (by simpa using hu) (by simpa using hv) fun h' Z hT hsz off=>⟨_,rfl,?_⟩
  have hTn:H s.heap.objs.size = none:=I.hok.fresh (Nat.le_refl _)
  have zlt:n + 4 < s.heap.objs.size:=Heap.lt_size st.z
  refine wpAny_letOwnedTupleGo_zip Z.z fun h2 hz2 hs2=>?_
  have off2:Off [n + 4,n + 2,n + 3,n,n + 1] s.heap h2:=fun c o hc e=>(hs2.2 c fun z=>hc (by simp [z])).trans (off c o (fun z=>hc (off_mem z)) e)
  have hT2:IsT h2 s.heap.objs.size #[u,v]:=(hs2.2 _ (Nat.ne_of_gt zlt)).trans hT
  refine ⟨.ref s.heap.objs.size,upd H s.heap.objs.size (.tup [x,y]),?_,rfl,⟨_,x,y,rfl,hTn,fun zs hzs=>by rw [I.sq_inj hzs qx]; exact ex,fun zs hzs=>by rw [I.sq_inj hzs qy]; exact ey,rfl⟩,?_,fun c hc=>?_⟩
  ·refine Inv.off (s:=s) (h':=h2) (t':=s.toks) (ch:=[n + 4,n + 2,n + 3,n,n + 1]) I hf off2 (I.hok.offNew (fun c hc=>(hf c hc).1) off2 (Nat.le_refl _) ?_) (fun c o _ e hn=>?_) fun c o e=>?_
   ·exact ⟨by show 2≤sizeLine; decide,[u,v],.cons ru (.cons rv .nil),⟨_,hT2,rfl,_,rfl⟩⟩
   ·rw [upd_ne (Nat.ne_of_lt (Heap.lt_size e))]; exact hn
   ·rw [upd_ne (ne_of_none e hTn)]; exact e
  ·obtain ⟨z1,z2,⟨a1,a2,z3⟩,z4,z5⟩:=Z
   exact ⟨hz2,(hs2.2 _ (nne (by omega))).trans z2,⟨a1,a2,(hs2.2 _ (nne (by omega))).trans z3⟩,z4.keep fun o e=>(hs2.2 _ (nne (by omega))).trans e,z5.keep fun o e=>(hs2.2 _ (nne (by omega))).trans e⟩
  ·have cn:c≠s.heap.objs.size:=by
    simp only [List.mem_cons,List.not_mem_nil,or_false] at hc
    rcases hc with rfl | rfl | rfl | rfl | rfl <;> exact nne (by omega)
   rw [upd_ne cn]; exact (hf c hc).1
 done:=by
  intro X hP hw hK hc i pins s σ H E I hf st hg
  subst hP hw hK
  obtain ⟨xs,ys,qx,qy,hend⟩:=hg
  obtain ⟨is1,r1,s1,_⟩:=I.sq qx
  obtain ⟨is2,r2,s2,_⟩:=I.sq qy
  have e1:=r1.length
  have e2:=r2.length
  refine pyNext_zip2_end (I.ok.hd hc) st ha hb s1 s2 ?_ fun h' off=>⟨rfl,?_⟩
  ·rcases hend with z | z
   ·exact .inl (by simp; omega)
   ·exact .inr (by simp; omega)
  ·have off2:Off [n + 4,n + 2,n + 3,n,n + 1] s.heap h':=fun c o hc e=>off c o (fun z=>hc (off_mem z)) e
   exact Inv.off (s:=s) (t':=s.toks) I hf off2 (I.hok.off (fun c hc=>(hf c hc).1) off2) (fun _ _ _ _ q=>q) fun _ _ q=>q
 self:=fun _ _ _ _ _ st h=>wpAny_pyIter_zip st.z h
section
variable {X:Cx}
def iZip2 (K:PySem.W.Frag) (k1 k2:Bool) (ta:TA):TI:=fun σ H R=>ta σ H fun vs H1=>∃ a b,vs = [.ref a,.ref b]∧(∃ xs,Sq k1 K H1 a xs)∧(∃ ys,Sq k2 K H1 b ys)∧R (Itz K k1 k2 a b) H1
theorem pi_zip2 (k1 k2:Bool) {es:List Expr} {kk:Nat} {tpos:Pos} {a b:Expr} {ta:TA} {p pos:Pos} (hg:Gl X "zip") (hm:X.mg "zip" = none) (ha:PA X [a,b] ta) (hs:starEach [a,b] X.env = [(false,eval a X.env),(false,eval b X.env)]:=by rfl) (hs2:starEach [b] X.env = [(false,eval b X.env)]:=by rfl) :
  PI X (.Tuple es kk tpos) (.Call (.Name "zip" p) [a,b] [] pos) (iZip2 X.K k1 k2 ta):=by
 intro pins s σ H R I h
 refine Call_ (ld_blt I hg hm boot_zip (PyProof.Rows.callWith_type1 (thn (ha pos pins s σ H _ I h) fun us s1 ⟨vs,H1,I1,r1,q1⟩=>?_) (by rw [hs,hs2]) (by rw [hs2]; rfl)))
 obtain ⟨a',b',e,⟨xs,qx⟩,⟨ys,qy⟩,q⟩:=q1
 subst e
 obtain ⟨u,v,rfl,ru,rv⟩:=vals2 r1
 cases ru
 cases rv
 obtain ⟨is1,r1,s1',_⟩:=I1.sq qx
 obtain ⟨is2,r2,s2',_⟩:=I1.sq qy
 refine callType_new PySem.F.called_zip (by decide) (PySem.F.typeCall_zip_2 _ _) (PySem.F.newCall_zip_2 _ _) (fun obj=>PySem.F.args_object_init_3 obj _ _) PySem.F.entry_zip_new (zip2_made k1 k2 a' b' is1.toArray is2.toArray) ⟨s1',s2',?_⟩
 have z1:(s1.heap.push (itObj k1 a')).objs.size = s1.heap.objs.size + 1:=Heap.size_push ..
 have z2:((s1.heap.push (itObj k1 a')).push (itObj k2 b')).objs.size = s1.heap.objs.size + 2:=by rw [Heap.size_push,z1]
 have z3:(((s1.heap.push (itObj k1 a')).push (itObj k2 b')).push { cls:=.type "tuple",data:=.seq #[.ref s1.heap.objs.size,.ref (s1.heap.objs.size + 1)] }).objs.size = s1.heap.objs.size + 3:=by rw [Heap.size_push,z2]
 have z4:((((s1.heap.push (itObj k1 a')).push (itObj k2 b')).push { cls:=.type "tuple",data:=.seq #[.ref s1.heap.objs.size,.ref (s1.heap.objs.size + 1)] }).push { cls:=.type "tuple",data:=.seq #[.none,.none] }).objs.size = s1.heap.objs.size + 4:=by rw [Heap.size_push,z3]
 have g5:(zh5 k1 k2 s1.heap a' b').get? (s1.heap.objs.size + 4) = some { cls:=.type "zip",data:=.fields #[.none,.bool false,.bool false,.ref (s1.heap.objs.size + 2),.ref (s1.heap.objs.size + 3)] }:=by rw [← z4]; exact Heap.get?_push_size _ rfl
 have g4:(zh5 k1 k2 s1.heap a' b').get? (s1.heap.objs.size + 3) = some { cls:=.type "tuple",data:=.seq #[.none,.none] }:=by rw [← z3]; exact Heap.get?_push_of_some _ (Heap.get?_push_size _ rfl)
 have g3:(zh5 k1 k2 s1.heap a' b').get? (s1.heap.objs.size + 2) = some { cls:=.type "tuple",data:=.seq #[.ref s1.heap.objs.size,.ref (s1.heap.objs.size + 1)] }:=by rw [← z2]; exact Heap.get?_push_of_some _ (Heap.get?_push_of_some _ (Heap.get?_push_size _ rfl))
 have g2:(zh5 k1 k2 s1.heap a' b').get? (s1.heap.objs.size + 1) = some (itObj k2 b'):=by rw [← z1]; exact Heap.get?_push_of_some _ (Heap.get?_push_of_some _ (Heap.get?_push_of_some _ (Heap.get?_push_size _ (by cases k2 <;> rfl))))
 have g1:(zh5 k1 k2 s1.heap a' b').get? s1.heap.objs.size = some (itObj k1 a'):=Heap.get?_push_of_some _ (Heap.get?_push_of_some _ (Heap.get?_push_of_some _ (Heap.get?_push_of_some _ (Heap.get?_push_size _ (by cases k1 <;> rfl)))))
 have old:∀ c o,s1.heap.get? c = some o→(zh5 k1 k2 s1.heap a' b').get? c = some o:=fun c o x=>Heap.get?_push_of_some _ (Heap.get?_push_of_some _ (Heap.get?_push_of_some _ (Heap.get?_push_of_some _ (Heap.get?_push_of_some _ x))))
 have Z:Zip2 k1 k2 s1.heap.objs.size a' b' 0 .none (zh5 k1 k2 s1.heap a' b'):=⟨g5,g3,⟨_,_,g4⟩,itObj_at g1,itObj_at g2⟩
 show _∧_
 refine ⟨⟨_,g5,rfl⟩,wpAny_pyIter_zip Z.z ?_⟩
 refine ⟨_,_,_,_,H1,rfl,I1.kept (t':=s1.toks) old,turn_zip2 s1.heap.objs.size a' b' s1'.lt s2'.lt,Z,fun c hc=>?_,q⟩
 have hcl:s1.heap.objs.size≤c:=by
  simp only [List.mem_cons,List.not_mem_nil,or_false] at hc
  rcases hc with rfl | rfl | rfl | rfl | rfl <;> first | exact Nat.le_add_right _ _ | exact Nat.le_refl _
 exact I1.fpOk hcl (I1.hok.fresh hcl)
end
end L2
namespace L2
open PySem PySem.Spec PyProof.Rows
def bitsI (i:Int):Nat:=Builtin.Int.intBits i
def CMulB (i j:Int):Prop:=bitsI i + bitsI j≤1000000
theorem CMulB.ok {i j:Int} (h:CMulB i j):IntMulOk i j:=by
 unfold IntMulOk
 intro z
 simp only [Bool.and_eq_true,decide_eq_true_eq] at z
 have z2:=z.2
 unfold Builtin.Int.intTooBig at z2
 have h':Builtin.Int.intBits i + Builtin.Int.intBits j≤1000000:=h
 have b:(1000000:Int)≤bitsLine:=by decide
 simp only [decide_eq_true_eq] at z2
 omega
def CDivB (i j:Int):Prop:=0 < j∧j.natAbs.log2 < 9000
def CShlB (i j:Int):Prop:=0≤j∧(bitsI i:Int) + j≤1000000
section
variable {X:Cx}
theorem op_mulB:OpR X (binaryOp .Mult) (rI CMulB fun i j=>.int (i * j)):=opI fun _ _ _ _ _ _ _ hc q=>mul_int q hc.ok
theorem op_fdivB:OpR X (binaryOp .FloorDiv) (rI CDivB fun i j=>.int (i / j)):=opI fun i j _ _ _ _ _ hc q=>by
 have h1:(0:Int) < j:=hc.1
 exact floordiv_int (by omega) (by rw [Int.fdiv_eq_ediv_of_nonneg i (by omega)]; exact q) (.inl (PyProof.noPylong_of_log2 hc.2))
theorem op_shlB:OpR X (binaryOp .LShift) (rI CShlB fun i j=>.int (i * 2 ^ j.toNat)):=opI fun i j _ _ _ _ _ hc q=>lshift_int hc.1 (by have h:=hc.2; unfold bitsI at h; omega) q
theorem mt_bitlen:MtR X "int.bit_length" (fun x xs H Q=>∃ i,x = .int i∧xs = []∧Q (.int (bitsI i)) H):=by
 intro pins s σ H x xs v us Q I rx rs h
 obtain ⟨i,rfl,rfl,q⟩:=h
 obtain ⟨t,rfl⟩:=rx
 cases rs
 exact call_int_bit_length ⟨.int (bitsI i),H,I.tok _,⟨_,rfl⟩,q⟩
def TyR (K:PySem.W.Frag) (H:Hp) (x:V) (t:Value):Prop:=TyOf K H x t∨(∃ a xs,x = .ref a∧SqT K H a xs∧t = .type "tuple")∨(∃ a xs,x = .ref a∧SqL K H a xs∧t = .type "list")
theorem call_isinst:CallR X (.builtin "isinstance") (fun xs H Q=>∃ x n t b,xs = [x,.ty n]∧TyR X.K H x t∧PySem.W.kitOne X.K t (.type n) = some b∧Q (.bl b) H):=by
 intro pins s σ H xs us Q I r h
 obtain ⟨x,n,t,b,rfl,ty,e,q⟩:=h
 obtain ⟨u,c,rfl,ru,rc⟩:=vals2 r
 obtain rfl:c = Value.type n:=rc
 have fin:∀ tk,EP X pins σ Q (.bool b) { s with toks:=tk }:=fun tk=>⟨.bl b,H,I.tok tk,rfl,q⟩
 rcases ty with ty | ⟨a,ys,rfl,hs,rfl⟩ | ⟨a,ys,rfl,hs,rfl⟩
 ·exact isinst_ok I ru ty e fin
 ·obtain rfl:u = Value.ref a:=ru
  obtain ⟨its,_,p,_⟩:=I.tuple hs
  obtain ⟨o,h1,h2,_⟩:=p
  exact PySem.W.kia_one PySem.W.kitx_tuple I.kIn ⟨o,h1,h2⟩ e (fun z=>nomatch z) fin
 ·obtain rfl:u = Value.ref a:=ru
  obtain ⟨its,_,p,_⟩:=I.list hs
  obtain ⟨o,n',h1,h2,_⟩:=p
  exact PySem.W.kia_one PySem.W.kitx_list I.kIn ⟨o,h1,h2⟩ e (fun z=>nomatch z) fin
end
theorem kit_same (K:PySem.W.Frag) (t:Value):PySem.W.kitOne K t t = some true:=by
 unfold PySem.W.kitOne
 rw [if_pos (by simp)]
section
variable {X:Cx}
end
end L2
namespace L2
open PySem PySem.Spec PyProof.Rows
def Def (K:PySem.W.Frag) (mg:Str→Option Value) (x:Str) (st:Stmt) (ps:List Str):Prop:=∃ f fd,Fun K x x st f fd∧mg x = some (.ref f)∧Binds K fd ps []
def Ok (P:Program) (w:World) (K:PySem.W.Frag) (mg:Str→Option Value) (base:Heap) (k:Nat) (x:Str) (ps:List Str) (sp:Sp):Prop :=
 ∃ f fd,FnOk P w K mg base CX0 k f fd ps sp∧mg x = some (.ref f)∧PySem.W.keepIn K (.ref f) = true∧Binds K fd ps []
section
variable {P:Program} {w:World} {K:PySem.W.Frag} {mg:Str→Option Value} {base:Heap}
theorem Def.ok {x:Str} {st:Stmt} {N ps:List Str} {k:Nat} {sp:Sp} (D:Def K mg x st ps) (S:FnScope N ps (defScope st)) (len:∀ vs H Q E,sp vs H Q E→vs.length = ps.length)
  (hbody:∀ (f:Addr) (cdv:Value) (A:Around) (outer:List Env) (s:Shared) (H:Hp) (vs:List V) (Q:VK) (E:XK),Room k (A.deeper (envOfC x (defScope st) s.heap.objs.size f cdv))→sp vs H Q E →
   ∃ t,PSs (cxOf CX0 P w K mg base N x (defScope st) f cdv A outer s H E).nox (defBody st) t∧t { nx:=fun _ H'=>Q .non H',rt:=Q } (start N vs) H):Ok P w K mg base (k + 1) x ps sp:=by
 obtain ⟨f,fd,F,hm,hb⟩:=D
 exact ⟨f,fd,F.ok S len fun cdv A outer s H vs Q E hr h=>hbody f cdv A outer s H vs Q E hr h,hm,F.kp,hb⟩
end
section
variable {X:Cx} {k:Nat} {x:Str} {ps:List Str} {sp:Sp} {p pos:Pos} {e:Expr} {es:List Expr} {t:TA}
theorem pcall (O:Ok X.prog X.w X.K X.mg X.base k x ps sp) (hr:Room k X.A) (ha:PA X (e :: es) t) (hg:Gl X x:=by rfl)
  (hdb:(x == ("__debug__":Str)) = false:=by decide) (he:starEach (e :: es) X.env = (false,eval e X.env) :: starEach es X.env:=by rfl) (hpl:(backTo pos (starEach es X.env)).any (·.1) = false:=by rfl) :
  PE X (.Call (.Name x p) (e :: es) [] pos) (tCall sp [] E0 t):=by
 obtain ⟨f,fd,F,hm,hk,hb⟩:=O
 exact pe_call F hr hg hm hk hb .nil pass0 ha hdb he hpl
end
def spLaw (K:PySem.W.Frag):Sp:=fun vs H Q _=>∃ (a:Addr) (ns:List Int),vs = [.ref a]∧SqL K H a (ns.map V.int)∧ns.length≤63∧∀ H',Q (.bl true) H'
theorem Same.upd_new {H:Hp} {a:Addr} {o:HO} (h:H a = none):Same H (upd H a o):=fun b u e=>by rw [upd_ne (ne_of_none e h)]; exact e
theorem Same.at {K:PySem.W.Frag} {H H':Hp} {a:Addr} {xs:List V} (e:Same H H') (h:SqT K H a xs):SqT K H' a xs:=by
 rcases h with (h | ⟨o,h⟩) | h
 ·exact .inl (.inl (e _ _ h))
 ·exact .inl (.inr ⟨o,e _ _ h⟩)
 ·exact .inr h
theorem Same.sq {k:Bool} {K:PySem.W.Frag} {H H':Hp} {a:Addr} {xs:List V} (e:Same H H') (h:Sq k K H a xs):Sq k K H' a xs:=by
 cases k with
 | true=>exact Same.at e h
 | false=>exact Same.seq e h
def CW (t:Nat) (l:Addr) (n:Nat) (f:Nat→V) (fr:St) (H1:Hp) (i m:Nat) (σ1:St) (ys:List V) (H':Hp):Prop :=
 m = n - i∧i≤n∧(∃ own:St,own.length = t∧σ1 = own ++ fr)∧ys = (List.range i).map f∧Same H1 H'∧H' l = some (.lst ys)
theorem CW.next {t:Nat} {l:Addr} {n:Nat} {f:Nat→V} {fr:St} {H1 H' H5:Hp} {i:Nat} {y:V} (own:St) (ho:own.length = t) (hi:i < n) (hn:n≤1000000) (hl:H1 l = none) (hs:Same H1 H') (hl':H' l = some (.lst ((List.range i).map f))) (s5:Same H' H5) (ey:y = f i) :
  H5 l = some (.lst ((List.range i).map f))∧((List.range i).map f).length < sizeLine∧CW t l n f fr H1 (i + 1) (n - (i + 1)) (own ++ fr) ((List.range i).map f ++ [y]) (upd H5 l (.lst ((List.range i).map f ++ [y]))):=by
 subst ey
 refine ⟨s5 _ _ hl',?_,rfl,hi,⟨own,ho,rfl⟩,?_,fun b o e=>?_,upd_same⟩
 ·rw [List.length_map,List.length_range]
  exact Nat.lt_of_lt_of_le (Nat.lt_of_lt_of_le hi hn) (by decide)
 ·rw [List.range_succ,List.map_append]; rfl
 ·rw [upd_ne (ne_of_none e hl)]
  exact s5 _ _ (hs _ _ e)
theorem comp_by {J:It} {H1:Hp} {ix:List (Option Nat)} {σ:St} {g:TG} {tt:TT} {te:TE} {Q:VK} (t:Nat) (fr:St) (n:Nat) (f:Nat→V) (hpk:pick ix σ = List.replicate t none ++ fr)
  (hstop:∀ H',Same H1 H'→J.stop n H') (hgo:∀ i H',i < n→Same H1 H'→J.go i H')
  (step:∀ i x l H' H2 own,own.length = t→i < n→H1 l = none→Same H1 H'→H' l = some (.lst ((List.range i).map f))→J.yld i H' x H2 →
   g x (own ++ fr) H2 fun σ2 H3=>tt σ2 H3 fun b H4=>if b = true then te σ2 H4 fun y H5=>H5 l = some (.lst ((List.range i).map f))∧((List.range i).map f).length < sizeLine∧CW t l n f fr H1 (i + 1) (n - (i + 1)) σ2 ((List.range i).map f ++ [y]) (upd H5 l (.lst ((List.range i).map f ++ [y])))
    else CW t l n f fr H1 (i + 1) (n - (i + 1)) σ2 ((List.range i).map f) H4)
  (hQ:∀ l H',H1 l = none→Same H1 H'→H' l = some (.lst ((List.range n).map f))→Q (.ref l) H') :
  CompGoal ix g tt te σ Q J H1:=by
 intro l hl
 refine ⟨CW t l n f fr H1,⟨n,by simp,Nat.zero_le _,⟨_,List.length_replicate,hpk⟩,rfl,Same.upd_new hl,upd_same⟩,?_⟩
 rintro i m σ1 ys H' ⟨rfl,hi,⟨own,ho,rfl⟩,rfl,hs,hl'⟩
 refine ⟨hl',?_⟩
 by_cases hlt:i < n
 ·exact .inr ⟨hgo i H' hlt hs,n - (i + 1),by omega,fun x H2 hy=>step i x l H' H2 own ho hlt hl hs hl' hy⟩
 ·obtain rfl:i = n:=by omega
  exact .inl ⟨hstop H' hs,hQ l H' hl hs hl'⟩
theorem rd_comp1 {J:It} {H1:Hp} {ix:List (Option Nat)} {σ:St} {te:TE} {Q:VK} (fr:St) (n:Nat) (f:Nat→V) (hpk:pick ix σ = none :: fr) (hn:n≤1000000)
  (hstop:∀ H',Same H1 H'→J.stop n H') (hgo:∀ i H',i < n→Same H1 H'→J.go i H')
  (step:∀ i x H' H2 (Qc:VK),i < n→Same H1 H'→J.yld i H' x H2→(∀ H5,Same H' H5→Qc (f i) H5)→te (some x :: fr) H2 Qc)
  (hQ:∀ l H',H1 l = none→Same H1 H'→H' l = some (.lst ((List.range n).map f))→Q (.ref l) H'):CompGoal ix (gName 0) (fun _ H Q=>Q true H) te σ Q J H1:=by
 refine comp_by 1 fr n f hpk hstop hgo (fun i x l H' H2 own ho hi hl hs hl' hy=>?_) hQ
 obtain ⟨o1,rfl⟩:∃ o1,own = [o1]:=by match own,ho with | [o1],_=>exact ⟨o1,rfl⟩
 dsimp only [gName]
 rw [if_pos rfl]
 exact step i x H' H2 _ hi hs hy fun H5 s5=>CW.next (fr:=fr) [some x] rfl hi hn hl hs hl' s5 rfl
theorem rd_compZ {K:PySem.W.Frag} {k1 k2:Bool} {a b:Addr} {xs ys:List V} {H1:Hp} {ix:List (Option Nat)} {σ:St} {te:TE} {Q:VK} (fr:St) (f:Nat→V) (hpk:pick ix σ = none :: none :: fr) (ha:Sq k1 K H1 a xs) (hb:Sq k2 K H1 b ys) (hlen:xs.length = ys.length) (hn:xs.length≤1000000)
  (step:∀ i x y H' (Qc:VK),xs[i]? = some x→ys[i]? = some y→Same H1 H'→(∀ H5,Same H' H5→Qc (f i) H5)→te (some x :: some y :: fr) H' Qc)
  (hQ:∀ l H',H1 l = none→Same H1 H'→H' l = some (.lst ((List.range xs.length).map f))→Q (.ref l) H'):CompGoal ix (gTup K 2 (gCons (gName 0) (gCons (gName 1) gNil))) (fun _ H Q=>Q true H) te σ Q (Itz K k1 k2 a b) H1:=by
 refine comp_by 2 fr xs.length f hpk (fun H' s=>⟨_,_,s.sq ha,s.sq hb,.inl (Nat.le_refl _)⟩) (fun i H' hi s=>?_) (fun i x l H' H2 own ho hi hl hs hl' hy=>?_) hQ
 ·exact ⟨_,_,xs[i],ys[i]'(hlen ▸ hi),s.sq ha,s.sq hb,List.getElem?_eq_getElem hi,List.getElem?_eq_getElem (hlen ▸ hi)⟩
 ·obtain ⟨o1,o2,rfl⟩:∃ o1 o2,own = [o1,o2]:=by match own,ho with | [o1,o2],_=>exact ⟨o1,o2,rfl⟩
  obtain ⟨p,x',y',rfl,hp,e1,e2,rfl⟩:=hy
  have g1:=e1 _ (hs.sq ha)
  have g2:=e2 _ (hs.sq hb)
  refine ⟨p,_,rfl,SqT.of upd_same,rfl,_,_,rfl,_,_,rfl,rfl,?_⟩
  show ite (true = true) _ _
  rw [if_pos rfl]
  exact step i x' y' _ _ g1 g2 (hs.trans (Same.upd_new hp)) fun H5 s5=>CW.next (fr:=fr) [some x',some y'] rfl hi hn hl hs hl' ((Same.upd_new hp).trans s5) rfl
theorem int_get {r:List Int} {i:Nat} {x:V} (h:(r.map V.int)[i]? = some x):x = .int (r.getD i 0)∧i < r.length:=by
 rw [List.getElem?_map] at h
 cases e:r[i]? with
 | none=>rw [e] at h; cases h
 | some z =>
  rw [e] at h
  have hl:=(List.getElem?_eq_some_iff.mp e).1
  refine ⟨?_,hl⟩
  rw [← (Option.some.inj h),List.getD,e]; rfl
theorem int_at {r:List Int} {i:Nat} (h:i < r.length):(r.map V.int)[i]? = some (.int (r.getD i 0)):=by
 rw [List.getElem?_map,List.getD,List.getElem?_eq_getElem h]; rfl
theorem range_getD {α:Type} (f:Int→α) (r:List Int):(List.range r.length).map (fun i=>f (r.getD i 0)) = r.map f:=by
 apply List.ext_getElem
 ·simp
 ·intro i h1 h2
  simp at h1 h2
  simp [List.getD,h1]
theorem range_zip {α:Type} (f:Int→Int→α) (r q:List Int) (h:r.length = q.length):(List.range r.length).map (fun i=>f (r.getD i 0) (q.getD i 0)) = List.zipWith f r q:=by
 apply List.ext_getElem
 ·simp [h]
 ·intro i h1 h2
  simp at h1 h2
  have:i < q.length:=by omega
  simp [List.getD,h1,this]
theorem rd_zipRows {K:PySem.W.Frag} {a b:Addr} {r q:List Int} {H1:Hp} {ix:List (Option Nat)} {σ:St} {Q:VK} (op:Int→Int→Int) (hpk:pick ix σ = [none,none]) (ha:SqT K H1 a (r.map V.int)) (hb:SqT K H1 b (q.map V.int)) (hlen:r.length = q.length) (hn:r.length≤1000)
  (hQ:∀ l H',H1 l = none→Same H1 H'→H' l = some (.lst ((List.zipWith op r q).map V.int))→Q (.ref l) H') :
  CompGoal ix (gTup K 2 (gCons (gName 0) (gCons (gName 1) gNil))) (fun _ H Q=>Q true H) (tOp (rI0 fun i j=>.int (op i j)) (tVar 0) (tVar 1)) σ Q (Itz K true true a b) H1:=by
 refine rd_compZ (k1:=true) (k2:=true) [] (fun i=>.int (op (r.getD i 0) (q.getD i 0))) hpk ha hb (by simpa using hlen) (by rw [List.length_map]; omega) (fun i x y H' Qc ex ey hs kc=>?_) fun l H' hl hs hl'=>hQ l H' hl hs ?_
 ·obtain ⟨rfl,_⟩:=int_get ex
  obtain ⟨rfl,_⟩:=int_get ey
  exact ⟨_,rfl,_,rfl,_,_,rfl,rfl,kc _ (Same.refl _)⟩
 ·rw [hl',List.length_map,range_zip (fun x y=>V.int (op x y)) r q hlen,List.map_zipWith]
theorem rd_mapRow {K:PySem.W.Frag} {a:Addr} {r:List Int} {H1:Hp} {ix:List (Option Nat)} {σ:St} {te:TE} {Q:VK} (F:Int→V) (fr:St) (hpk:pick ix σ = none :: fr) (ha:SqT K H1 a (r.map V.int)) (hn:r.length≤1000)
  (step:∀ x H' (Qc:VK),x∈r→Same H1 H'→(∀ H5,Same H' H5→Qc (F x) H5)→te (some (.int x) :: fr) H' Qc)
  (hQ:∀ l H',H1 l = none→Same H1 H'→H' l = some (.lst (r.map F))→Q (.ref l) H'):CompGoal ix (gName 0) (fun _ H Q=>Q true H) te σ Q (Itt K a) H1:=by
 refine rd_comp1 fr r.length (fun i=>F (r.getD i 0)) hpk (by omega) (fun H' s=>⟨_,s.at ha,by simp⟩) (fun i H' hi s=>⟨_,_,s.at ha,int_at hi⟩) (fun i x H' H2 Qc hi hs hy kc=>?_) fun l H' hl hs hl'=>hQ l H' hl hs ?_
 ·obtain ⟨rfl,e1⟩:=hy
  obtain ⟨rfl,_⟩:=int_get (e1 _ (hs.at ha))
  exact step _ _ Qc (by rw [List.getD,List.getElem?_eq_getElem hi]; exact List.getElem_mem hi) hs kc
 ·rw [hl',range_getD F r]
end L2
namespace Mth
def prod5 (a b c d e:Nat):Int:=2 ^ a * 3 ^ b * 5 ^ c * 7 ^ d * 11 ^ e
theorem pw {p:Int} {n:Nat} (h:0 < p):0 < p ^ n:=by
 induction n with
 | zero=>rw [Int.pow_zero]; decide
 | succ n ih=>rw [Int.pow_succ]; exact Int.mul_pos ih h
theorem prod5_pos (a b c d e:Nat):0 < prod5 a b c d e:=by
 unfold prod5
 have h2:=pw (n:=a) (show (0:Int) < 2 by decide)
 have h3:=pw (n:=b) (show (0:Int) < 3 by decide)
 have h5:=pw (n:=c) (show (0:Int) < 5 by decide)
 have h7:=pw (n:=d) (show (0:Int) < 7 by decide)
 have h11:=pw (n:=e) (show (0:Int) < 11 by decide)
 exact Int.mul_pos (Int.mul_pos (Int.mul_pos (Int.mul_pos h2 h3) h5) h7) h11
theorem prod5_mul (a b c d e a' b' c' d' e':Nat):prod5 a b c d e * prod5 a' b' c' d' e' = prod5 (a + a') (b + b') (c + c') (d + d') (e + e'):=by
 unfold prod5
 simp only [Int.pow_add]
 ac_rfl
theorem nd_mul2 {x y:Int} (hx:x % 2≠0) (hy:y % 2≠0):x * y % 2≠0:=by
 rw [Int.mul_emod]
 have h1:x % 2 = 1:=by omega
 have h2:y % 2 = 1:=by omega
 rw [h1,h2]; decide
theorem nd_mul3 {x y:Int} (hx:x % 3≠0) (hy:y % 3≠0):x * y % 3≠0:=by
 rw [Int.mul_emod]
 have h1:x % 3 = 1∨x % 3 = 2:=by omega
 have h2:y % 3 = 1∨y % 3 = 2:=by omega
 rcases h1 with h1 | h1 <;> rcases h2 with h2 | h2 <;> rw [h1,h2] <;> decide
theorem nd_mul5 {x y:Int} (hx:x % 5≠0) (hy:y % 5≠0):x * y % 5≠0:=by
 rw [Int.mul_emod]
 have h1:x % 5 = 1∨x % 5 = 2∨x % 5 = 3∨x % 5 = 4:=by omega
 have h2:y % 5 = 1∨y % 5 = 2∨y % 5 = 3∨y % 5 = 4:=by omega
 rcases h1 with h1 | h1 | h1 | h1 <;> rcases h2 with h2 | h2 | h2 | h2 <;> rw [h1,h2] <;> decide
theorem nd_mul7 {x y:Int} (hx:x % 7≠0) (hy:y % 7≠0):x * y % 7≠0:=by
 rw [Int.mul_emod]
 have h1:x % 7 = 1∨x % 7 = 2∨x % 7 = 3∨x % 7 = 4∨x % 7 = 5∨x % 7 = 6:=by omega
 have h2:y % 7 = 1∨y % 7 = 2∨y % 7 = 3∨y % 7 = 4∨y % 7 = 5∨y % 7 = 6:=by omega
 rcases h1 with h1 | h1 | h1 | h1 | h1 | h1 <;> rcases h2 with h2 | h2 | h2 | h2 | h2 | h2 <;> rw [h1,h2] <;> decide
theorem nd_mul11 {x y:Int} (hx:x % 11≠0) (hy:y % 11≠0):x * y % 11≠0:=by
 rw [Int.mul_emod]
 have k:∀ i:_root_.Fin 11,∀ j:_root_.Fin 11,i.val≠0→j.val≠0→(((i.val:Nat):Int) * ((j.val:Nat):Int)) % 11≠0:=by decide
 obtain ⟨i,hi⟩:=Int.eq_ofNat_of_zero_le (Int.emod_nonneg x (show (11:Int)≠0 by decide))
 obtain ⟨j,hj⟩:=Int.eq_ofNat_of_zero_le (Int.emod_nonneg y (show (11:Int)≠0 by decide))
 have h1:=Int.emod_lt_of_pos x (show (0:Int) < 11 by decide)
 have h2:=Int.emod_lt_of_pos y (show (0:Int) < 11 by decide)
 rw [hi,hj]
 exact k ⟨i,by omega⟩ ⟨j,by omega⟩ (by show i≠0; omega) (by show j≠0; omega)
def P5 (p:Int):Prop:=p = 2∨p = 3∨p = 5∨p = 7∨p = 11
theorem P5.pos {p:Int} (h:P5 p):2≤p:=by rcases h with rfl | rfl | rfl | rfl | rfl <;> decide
theorem nd_mul {p x y:Int} (hp:P5 p) (hx:x % p≠0) (hy:y % p≠0):x * y % p≠0:=by
 rcases hp with rfl | rfl | rfl | rfl | rfl
 ·exact nd_mul2 hx hy
 ·exact nd_mul3 hx hy
 ·exact nd_mul5 hx hy
 ·exact nd_mul7 hx hy
 ·exact nd_mul11 hx hy
theorem nd_pow {p x:Int} (hp:P5 p) (hx:x % p≠0):∀ n:Nat,x ^ n % p≠0
 | 0=>by rw [Int.pow_zero]; rcases hp with rfl | rfl | rfl | rfl | rfl <;> decide
 | n + 1=>by rw [Int.pow_succ]; exact nd_mul hp (nd_pow hp hx n) hx
theorem pow_split {p m m':Int} (hp:P5 p):∀ {a a':Nat},p ^ a * m = p ^ a' * m'→m % p≠0→m' % p≠0→a = a'∧m = m'
 | 0,0,h,_,_=>⟨rfl,by simpa using h⟩
 | 0,a' + 1,h,hm,_=>by
  exfalso; apply hm
  rw [Int.pow_zero,Int.one_mul] at h
  rw [h,Int.pow_succ,Int.mul_assoc,Int.mul_left_comm]
  exact Int.mul_emod_right _ _
 | a + 1,0,h,_,hm'=>by
  exfalso; apply hm'
  rw [Int.pow_zero,Int.one_mul] at h
  rw [← h,Int.pow_succ,Int.mul_assoc,Int.mul_left_comm]
  exact Int.mul_emod_right _ _
 | a + 1,a' + 1,h,hm,hm'=>by
  have h2:=hp.pos
  have h':p * (p ^ a * m) = p * (p ^ a' * m'):=by
   rw [Int.pow_succ,Int.pow_succ] at h
   rw [← Int.mul_assoc,← Int.mul_assoc,Int.mul_comm p,Int.mul_comm p]; exact h
  obtain ⟨e1,e2⟩:=pow_split hp (Int.eq_of_mul_eq_mul_left (by omega) h') hm hm'
  exact ⟨by omega,e2⟩
theorem prod5_inj {a b c d e a' b' c' d' e':Nat} (h:prod5 a b c d e = prod5 a' b' c' d' e'):a = a'∧b = b'∧c = c'∧d = d'∧e = e':=by
 unfold prod5 at h
 have p2:P5 2:=.inl rfl
 have p3:P5 3:=.inr (.inl rfl)
 have p5:P5 5:=.inr (.inr (.inl rfl))
 have p7:P5 7:=.inr (.inr (.inr (.inl rfl)))
 have p11:P5 11:=.inr (.inr (.inr (.inr rfl)))
 have r1:∀ a b c d e:Nat,(2:Int) ^ a * 3 ^ b * 5 ^ c * 7 ^ d * 11 ^ e = 2 ^ a * (3 ^ b * 5 ^ c * 7 ^ d * 11 ^ e):=fun a b c d e=>by ac_rfl
 have r2:∀ b c d e:Nat,(3:Int) ^ b * 5 ^ c * 7 ^ d * 11 ^ e = 3 ^ b * (5 ^ c * 7 ^ d * 11 ^ e):=fun b c d e=>by ac_rfl
 have r3:∀ c d e:Nat,(5:Int) ^ c * 7 ^ d * 11 ^ e = 5 ^ c * (7 ^ d * 11 ^ e):=fun c d e=>by ac_rfl
 have n2:∀ b c d e:Nat,(3:Int) ^ b * 5 ^ c * 7 ^ d * 11 ^ e % 2≠0:=fun b c d e=>nd_mul p2 (nd_mul p2 (nd_mul p2 (nd_pow p2 (by decide) _) (nd_pow p2 (by decide) _)) (nd_pow p2 (by decide) _)) (nd_pow p2 (by decide) _)
 have n3:∀ c d e:Nat,(5:Int) ^ c * 7 ^ d * 11 ^ e % 3≠0:=fun c d e=>nd_mul p3 (nd_mul p3 (nd_pow p3 (by decide) _) (nd_pow p3 (by decide) _)) (nd_pow p3 (by decide) _)
 have n5:∀ d e:Nat,(7:Int) ^ d * 11 ^ e % 5≠0:=fun d e=>nd_mul p5 (nd_pow p5 (by decide) _) (nd_pow p5 (by decide) _)
 have n7:∀ e:Nat,(11:Int) ^ e % 7≠0:=fun e=>nd_pow p7 (by decide) _
 rw [r1,r1] at h
 obtain ⟨ha,h⟩:=pow_split p2 h (n2 _ _ _ _) (n2 _ _ _ _)
 rw [r2,r2] at h
 obtain ⟨hb,h⟩:=pow_split p3 h (n3 _ _ _) (n3 _ _ _)
 rw [r3,r3] at h
 obtain ⟨hc,h⟩:=pow_split p5 h (n5 _ _) (n5 _ _)
 obtain ⟨hd,h⟩:=pow_split p7 h (n7 _) (n7 _)
 have h':(11:Int) ^ e * 1 = 11 ^ e' * 1:=by rw [Int.mul_one,Int.mul_one]; exact h
 obtain ⟨he,_⟩:=pow_split p11 h' (by decide) (by decide)
 exact ⟨ha,hb,hc,hd,he⟩
def Cop (m:Int):Prop:=∀ p,P5 p→m % p≠0
end Mth
namespace Mth
def bl (x:Int):Nat:=if x == 0 then 0 else x.natAbs.log2 + 1
theorem bl_le {x:Int} {k:Nat} (h:x.natAbs < 2 ^ k):bl x≤k:=by
 unfold bl
 split
 ·omega
 ·rename_i hx
  have hx':x.natAbs≠0:=by simpa using hx
  have:=(Nat.log2_lt hx').mpr h
  omega
theorem pow_lt {p:Nat} (hp:p < 16) (e:Nat):p ^ e < 2 ^ (4 * e + 1):=by
 have h1:p ^ e≤16 ^ e:=Nat.pow_le_pow_left (by omega) e
 have h2:(16:Nat) ^ e = 2 ^ (4 * e):=by rw [show (16:Nat) = 2 ^ 4 by decide,← Nat.pow_mul]
 have h3:(2:Nat) ^ (4 * e) < 2 ^ (4 * e + 1):=Nat.pow_lt_pow_right (by decide) (by omega)
 omega
theorem natAbs_pow (p:Int) (e:Nat):(p ^ e).natAbs = p.natAbs ^ e:=by
 induction e with
 | zero=>simp
 | succ e ih=>rw [Int.pow_succ,Int.natAbs_mul,ih,Nat.pow_succ]
theorem powI_lt {p:Int} (hp:p.natAbs < 16) (e:Nat):(p ^ e).natAbs < 2 ^ (4 * e + 1):=by
 rw [natAbs_pow]
 exact pow_lt hp e
theorem mul_lt {x y:Int} {a b:Nat} (hx:x.natAbs < 2 ^ a) (hy:y.natAbs < 2 ^ b):(x * y).natAbs < 2 ^ (a + b):=by
 rw [Int.natAbs_mul,Nat.pow_add]
 exact Nat.mul_lt_mul'' hx hy
theorem bl_spec {x:Int} (h:1≤x):(2:Int) ^ (bl x - 1)≤x∧x < 2 ^ bl x∧1≤bl x:=by
 have hx:x.natAbs≠0:=by omega
 have e:bl x = x.natAbs.log2 + 1:=by unfold bl; rw [if_neg (by simp; omega)]
 have e1:(2:Nat) ^ x.natAbs.log2≤x.natAbs:=Nat.log2_self_le hx
 have e2:x.natAbs < 2 ^ (x.natAbs.log2 + 1):=Nat.lt_log2_self
 have c1:((2 ^ x.natAbs.log2:Nat):Int) = 2 ^ x.natAbs.log2:=by push_cast; rfl
 have c2:((2 ^ (x.natAbs.log2 + 1):Nat):Int) = 2 ^ (x.natAbs.log2 + 1):=by push_cast; rfl
 rw [e]
 refine ⟨?_,?_,by omega⟩
 ·rw [Nat.add_sub_cancel,← c1]; omega
 ·rw [← c2]; omega
theorem pow2_pos (n:Nat):(0:Int) < 2 ^ n:=pw (by decide)
theorem pow2_mono {a b:Nat} (h:a≤b):(2:Int) ^ a≤2 ^ b:=by
 obtain ⟨c,rfl⟩:=Nat.exists_eq_add_of_le h
 rw [Int.pow_add]
 have h1:=pow2_pos a
 have h2:=pow2_pos c
 have:(2:Int) ^ a * 1≤2 ^ a * 2 ^ c:=Int.mul_le_mul_of_nonneg_left (by omega) (by omega)
 omega
def octR (top bot:Int):Int:=(bl (top * 2 ^ (bl bot) / bot):Int) - 1 - (bl bot:Int)
def GeP (n:Int) (top bot:Int):Prop:=2 ^ n.toNat * bot≤2 ^ (-n).toNat * top
theorem ge_shift {u v:Nat} {n x y:Int} (h:(v:Int) - (u:Int) = n):(2 ^ v * x≤2 ^ u * y)↔(2 ^ n.toNat * x≤2 ^ (-n).toNat * y):=by
 have key:∀ (c a b:Nat),(2 ^ (c + a) * x≤2 ^ (c + b) * y)↔(2 ^ a * x≤2 ^ b * y):=by
  intro c a b
  rw [Int.pow_add,Int.pow_add,Int.mul_assoc,Int.mul_assoc]
  have h2:=pow2_pos c
  constructor
  ·intro q; exact Int.le_of_mul_le_mul_left q h2
  ·intro q; exact Int.mul_le_mul_of_nonneg_left q (by omega)
 by_cases hn:0≤n
 ·have e1:(-n).toNat = 0:=by omega
  have e2:v = u + n.toNat:=by omega
  have:=key u n.toNat 0
  rw [e1,e2]; simpa using this
 ·have e1:n.toNat = 0:=by omega
  have e2:u = v + (-n).toNat:=by omega
  have:=key v 0 (-n).toNat
  rw [e1,e2]; simpa using this
theorem oct_spec {top bot:Int} (ht:1≤top) (hb:1≤bot):GeP (octR top bot) top bot∧¬ GeP (octR top bot + 1) top bot:=by
 obtain ⟨_,b2,b3⟩:=bl_spec hb
 have hp:=pow2_pos (bl bot)
 have hx:bot≤top * 2 ^ bl bot:=by
  have:1 * 2 ^ bl bot≤top * 2 ^ bl bot:=Int.mul_le_mul_of_nonneg_right ht (by omega)
  omega
 have hw:1≤top * 2 ^ bl bot / bot:=by
  apply (Int.le_ediv_iff_mul_le (by omega)).mpr
  omega
 obtain ⟨w1,w2,w3⟩:=bl_spec hw
 have w1':2 ^ (bl (top * 2 ^ bl bot / bot) - 1) * bot≤top * 2 ^ bl bot:=(Int.le_ediv_iff_mul_le (by omega)).mp w1
 have w2':¬ 2 ^ bl (top * 2 ^ bl bot / bot) * bot≤top * 2 ^ bl bot:=fun z=>by
  have:=(Int.le_ediv_iff_mul_le (show 0 < bot by omega)).mpr z
  omega
 unfold GeP
 constructor
 ·refine (ge_shift (u:=bl bot) (v:=bl (top * 2 ^ bl bot / bot) - 1) ?_).mp ?_
  ·unfold octR; omega
  ·rw [Int.mul_comm (2 ^ bl bot)]; exact w1'
 ·intro z
  apply w2'
  have q:=(ge_shift (u:=bl bot) (v:=bl (top * 2 ^ bl bot / bot)) (n:=octR top bot + 1) (by unfold octR; omega)).mpr z
  rw [Int.mul_comm (2 ^ bl bot) top] at q
  exact q
end Mth
namespace Mth
def top5 (a b c d e:Int):Int:=prod5 a.toNat b.toNat c.toNat d.toNat e.toNat
def bot5 (a b c d e:Int):Int:=prod5 (-a).toNat (-b).toNat (-c).toNat (-d).toNat (-e).toNat
theorem top5_pos (a b c d e:Int):1≤top5 a b c d e:=prod5_pos ..
theorem bot5_pos (a b c d e:Int):1≤bot5 a b c d e:=prod5_pos ..
theorem prod5_congr {a b c d e a' b' c' d' e':Nat} (h1:a = a') (h2:b = b') (h3:c = c') (h4:d = d') (h5:e = e'):prod5 a b c d e = prod5 a' b' c' d' e':=by
 subst h1 h2 h3 h4 h5; rfl
def F (m:Int) (x y:Int):Prop:=2 ^ (-m).toNat * y≤2 ^ m.toNat * x
def rt (b c d e:Int):Int:=prod5 0 b.toNat c.toNat d.toNat e.toNat
def rb (b c d e:Int):Int:=prod5 0 (-b).toNat (-c).toNat (-d).toNat (-e).toNat
theorem top5_rt (a b c d e:Int):top5 a b c d e = 2 ^ a.toNat * rt b c d e:=by
 unfold top5 rt prod5
 rw [Int.pow_zero,Int.one_mul]; ac_rfl
theorem bot5_rb (a b c d e:Int):bot5 a b c d e = 2 ^ (-a).toNat * rb b c d e:=by
 unfold bot5 rb prod5
 rw [Int.pow_zero,Int.one_mul]; ac_rfl
theorem le_F (a b c d e:Int):bot5 a b c d e≤top5 a b c d e↔F a (rt b c d e) (rb b c d e):=by
 rw [top5_rt,bot5_rb]; exact Iff.rfl
theorem F_mul {m:Int} {x y:Int} {u v:Nat} (h:(u:Int) - (v:Int) = m):(2 ^ v * y≤2 ^ u * x)↔F m x y:=by
 unfold F
 have:=ge_shift (u:=u) (v:=v) (n:=-m) (x:=y) (y:=x) (by omega)
 rw [Int.neg_neg] at this
 exact this
theorem GeP_F (n a b c d e:Int):GeP n (top5 a b c d e) (bot5 a b c d e)↔F (a - n) (rt b c d e) (rb b c d e):=by
 unfold GeP
 rw [top5_rt,bot5_rb,← Int.mul_assoc,← Int.mul_assoc,← Int.pow_add,← Int.pow_add]
 exact F_mul (by omega)
theorem oct_F (a b c d e:Int):F (a - octR (top5 a b c d e) (bot5 a b c d e)) (rt b c d e) (rb b c d e)∧¬ F (a - octR (top5 a b c d e) (bot5 a b c d e) - 1) (rt b c d e) (rb b c d e):=by
 obtain ⟨h1,h2⟩:=oct_spec (top5_pos a b c d e) (bot5_pos a b c d e)
 refine ⟨(GeP_F ..).mp h1,fun z=>h2 ((GeP_F ..).mpr ?_)⟩
 have:a - (octR (top5 a b c d e) (bot5 a b c d e) + 1) = a - octR (top5 a b c d e) (bot5 a b c d e) - 1:=by omega
 rw [this]; exact z
theorem pwmono {p:Int} (hp:1≤p) {m n:Nat} (h:m≤n):p ^ m≤p ^ n:=by
 obtain ⟨k,rfl⟩:=Nat.exists_eq_add_of_le h
 rw [Int.pow_add]
 have h1:0 < p ^ m:=pw (by omega)
 have h2:0 < p ^ k:=pw (by omega)
 have:p ^ m * 1≤p ^ m * p ^ k:=Int.mul_le_mul_of_nonneg_left (by omega) (by omega)
 omega
theorem mul_le2 {x y u v:Int} (h1:x≤u) (h2:y≤v) (hx:0 < x) (hy:0 < y):x * y≤u * v :=
 Int.le_trans (Int.mul_le_mul_of_nonneg_right h1 (by omega)) (Int.mul_le_mul_of_nonneg_left h2 (by omega))
theorem prod5_mono {a b c d e a' b' c' d' e':Nat} (h1:a≤a') (h2:b≤b') (h3:c≤c') (h4:d≤d') (h5:e≤e'):prod5 a b c d e≤prod5 a' b' c' d' e':=by
 unfold prod5
 have p2:=pw (n:=a) (show (0:Int) < 2 by decide)
 have p3:=pw (n:=b) (show (0:Int) < 3 by decide)
 have p5:=pw (n:=c) (show (0:Int) < 5 by decide)
 have p7:=pw (n:=d) (show (0:Int) < 7 by decide)
 have p11:=pw (n:=e) (show (0:Int) < 11 by decide)
 exact mul_le2 (mul_le2 (mul_le2 (mul_le2 (pwmono (by decide) h1) (pwmono (by decide) h2) p2 p3) (pwmono (by decide) h3) (Int.mul_pos p2 p3) p5) (pwmono (by decide) h4) (Int.mul_pos (Int.mul_pos p2 p3) p5) p7) (pwmono (by decide) h5) (Int.mul_pos (Int.mul_pos (Int.mul_pos p2 p3) p5) p7) p11
def Bd (a b c d e:Int):Prop:=(-4000≤a∧a≤4000)∧(-100≤b∧b≤100)∧(-100≤c∧c≤100)∧(-100≤d∧d≤100)∧(-100≤e∧e≤100)
theorem prod5_lt {a b c d e:Nat} (h1:a≤4000) (h2:b≤100) (h3:c≤100) (h4:d≤100) (h5:e≤100):(prod5 a b c d e).natAbs < 2 ^ 5100:=by
 have h:=prod5_mono h1 h2 h3 h4 h5
 have hp:=prod5_pos a b c d e
 have hb:prod5 4000 100 100 100 100 < 2 ^ 5100:=by decide +kernel
 have c:((2 ^ 5100:Nat):Int) = 2 ^ 5100:=by decide +kernel
 omega
theorem top5_lt {a b c d e:Int} (h:Bd a b c d e):(top5 a b c d e).natAbs < 2 ^ 5100:=by
 obtain ⟨⟨_,_⟩,⟨_,_⟩,⟨_,_⟩,⟨_,_⟩,⟨_,_⟩⟩:=h
 exact prod5_lt (by omega) (by omega) (by omega) (by omega) (by omega)
theorem bot5_lt {a b c d e:Int} (h:Bd a b c d e):(bot5 a b c d e).natAbs < 2 ^ 5100:=by
 obtain ⟨⟨_,_⟩,⟨_,_⟩,⟨_,_⟩,⟨_,_⟩,⟨_,_⟩⟩:=h
 exact prod5_lt (by omega) (by omega) (by omega) (by omega) (by omega)
theorem log2_of {x:Int} {k:Nat} (h:x.natAbs < 2 ^ k) (h0:x≠0):x.natAbs.log2 < k:=(Nat.log2_lt (by omega)).mpr h
end Mth
namespace Mth
def PPn (e0 e1 e2 e3 e4:Int):Nat→Int
 | 0=>1
 | 1=>1 * 2 ^ e0.toNat
 | 2=>1 * 2 ^ e0.toNat * 3 ^ e1.toNat
 | 3=>1 * 2 ^ e0.toNat * 3 ^ e1.toNat * 5 ^ e2.toNat
 | 4=>1 * 2 ^ e0.toNat * 3 ^ e1.toNat * 5 ^ e2.toNat * 7 ^ e3.toNat
 | _=>1 * 2 ^ e0.toNat * 3 ^ e1.toNat * 5 ^ e2.toNat * 7 ^ e3.toNat * 11 ^ e4.toNat
theorem PPn_5 (e0 e1 e2 e3 e4:Int):PPn e0 e1 e2 e3 e4 5 = prod5 e0.toNat e1.toNat e2.toNat e3.toNat e4.toNat:=by
 show 1 * 2 ^ e0.toNat * 3 ^ e1.toNat * 5 ^ e2.toNat * 7 ^ e3.toNat * 11 ^ e4.toNat = _
 unfold prod5; rw [Int.one_mul]
theorem mx_toNat (x:Int):(if 0 > x then 0 else x).toNat = x.toNat:=by split <;> omega
theorem pw_bd {p:Int} (hp:p.natAbs < 16) {e:Int} (he:e≤4000):(p ^ e.toNat).natAbs < 2 ^ 16001 :=
 Nat.lt_of_lt_of_le (powI_lt hp e.toNat) (Nat.pow_le_pow_right (by decide) (by omega))
theorem PPn_lt {e0 e1 e2 e3 e4:Int} (h0:e0≤4000) (h1:e1≤4000) (h2:e2≤4000) (h3:e3≤4000) (h4:e4≤4000) (i:Nat):(PPn e0 e1 e2 e3 e4 i).natAbs < 2 ^ (1 + 16001 + 16001 + 16001 + 16001 + 16001):=by
 have up:∀ {x:Int} {a b:Nat},x.natAbs < 2 ^ a→a≤b→x.natAbs < 2 ^ b:=fun h z=>Nat.lt_of_lt_of_le h (Nat.pow_le_pow_right (by decide) z)
 have g0:(1:Int).natAbs < 2 ^ 1:=by decide
 have g1:=mul_lt g0 (pw_bd (p:=2) (by decide) h0)
 have g2:=mul_lt g1 (pw_bd (p:=3) (by decide) h1)
 have g3:=mul_lt g2 (pw_bd (p:=5) (by decide) h2)
 have g4:=mul_lt g3 (pw_bd (p:=7) (by decide) h3)
 have g5:=mul_lt g4 (pw_bd (p:=11) (by decide) h4)
 match i with
 | 0=>exact up g0 (by omega)
 | 1=>exact up g1 (by omega)
 | 2=>exact up g2 (by omega)
 | 3=>exact up g3 (by omega)
 | 4=>exact up g4 (by omega)
 | _ + 5=>exact up g5 (by omega)
theorem PPn_bits {e0 e1 e2 e3 e4:Int} (hb:e0≤4000∧e1≤4000∧e2≤4000∧e3≤4000∧e4≤4000∧-100000≤e0∧-100000≤e1∧-100000≤e2∧-100000≤e3∧-100000≤e4) {i:Nat} {p e:Int} (hp:p.natAbs < 16) (he:e≤4000):bl (PPn e0 e1 e2 e3 e4 i) + bl (p ^ e.toNat)≤1000000:=by
 obtain ⟨h0,h1,h2,h3,h4,_⟩:=hb
 have a:=bl_le (PPn_lt h0 h1 h2 h3 h4 i)
 have b:=bl_le (pw_bd hp he)
 omega
end Mth
namespace Mth
theorem PPn_top (e0 e1 e2 e3 e4:Int):PPn e0 e1 e2 e3 e4 5 = top5 e0 e1 e2 e3 e4:=PPn_5 ..
theorem PPn_bot (e0 e1 e2 e3 e4:Int):PPn (0 - e0) (0 - e1) (0 - e2) (0 - e3) (0 - e4) 5 = bot5 e0 e1 e2 e3 e4:=by
 rw [PPn_5]; unfold bot5; simp only [Int.zero_sub]
end Mth
namespace Mth
section
variable (c0 c1 c2 c3 c4:Nat) {m:Int} (h:Cop m)
include h
end
end Mth
namespace Mth
def NS (a b c d e:Int):Int:=prod5 (a + 4000).toNat (b + 100).toNat (c + 100).toNat (d + 100).toNat (e + 100).toNat
theorem NS_pos (a b c d e:Int):0 < NS a b c d e:=prod5_pos ..
theorem cross {a b c d e a' b' c' d' e':Int} (h:Bd a b c d e) (h':Bd a' b' c' d' e'):top5 (a - a') (b - b') (c - c') (d - d') (e - e') * NS a' b' c' d' e' = bot5 (a - a') (b - b') (c - c') (d - d') (e - e') * NS a b c d e:=by
 obtain ⟨⟨_,_⟩,⟨_,_⟩,⟨_,_⟩,⟨_,_⟩,⟨_,_⟩⟩:=h
 obtain ⟨⟨_,_⟩,⟨_,_⟩,⟨_,_⟩,⟨_,_⟩,⟨_,_⟩⟩:=h'
 unfold top5 bot5 NS
 rw [prod5_mul,prod5_mul]
 exact prod5_congr (by omega) (by omega) (by omega) (by omega) (by omega)
theorem lt_NS {a b c d e a' b' c' d' e':Int} (h:Bd a b c d e) (h':Bd a' b' c' d' e'):top5 (a - a') (b - b') (c - c') (d - d') (e - e') < bot5 (a - a') (b - b') (c - c') (d - d') (e - e')↔NS a b c d e < NS a' b' c' d' e':=by
 have k:=cross h h'
 have p1:=top5_pos (a - a') (b - b') (c - c') (d - d') (e - e')
 have p2:=bot5_pos (a - a') (b - b') (c - c') (d - d') (e - e')
 have q1:=NS_pos a b c d e
 have q2:=NS_pos a' b' c' d' e'
 generalize top5 (a - a') (b - b') (c - c') (d - d') (e - e') = t at *
 generalize bot5 (a - a') (b - b') (c - c') (d - d') (e - e') = u at *
 generalize NS a b c d e = x at *
 generalize NS a' b' c' d' e' = y at *
 constructor
 ·intro z
  refine Int.lt_of_not_ge fun w=>?_
  have h1:t * y < u * y:=Int.mul_lt_mul_of_pos_right z q2
  have h2:u * y≤u * x:=Int.mul_le_mul_of_nonneg_left w (by omega)
  omega
 ·intro z
  refine Int.lt_of_not_ge fun w=>?_
  have h1:u * x < u * y:=Int.mul_lt_mul_of_pos_left z (by omega)
  have h2:u * y≤t * y:=Int.mul_le_mul_of_nonneg_right w (by omega)
  omega
theorem NS_inj {a b c d e a' b' c' d' e':Int} (h:Bd a b c d e) (h':Bd a' b' c' d' e') (z:NS a b c d e = NS a' b' c' d' e'):a = a'∧b = b'∧c = c'∧d = d'∧e = e':=by
 obtain ⟨⟨_,_⟩,⟨_,_⟩,⟨_,_⟩,⟨_,_⟩,⟨_,_⟩⟩:=h
 obtain ⟨⟨_,_⟩,⟨_,_⟩,⟨_,_⟩,⟨_,_⟩,⟨_,_⟩⟩:=h'
 obtain ⟨h1,h2,h3,h4,h5⟩:=prod5_inj z
 omega
def Fold (a b c d e:Int):Prop:=bot5 a b c d e≤top5 a b c d e∧top5 a b c d e < 2 * bot5 a b c d e
theorem NS_oct {a b c d e:Int} (h:Bd a b c d e):NS (a + 1) b c d e = 2 * NS a b c d e:=by
 obtain ⟨⟨h1,_⟩,_⟩:=h
 unfold NS prod5
 rw [show (a + 1 + 4000).toNat = (a + 4000).toNat + 1 by omega,Int.pow_succ]
 simp only [Int.mul_assoc,Int.mul_comm,Int.mul_left_comm]
theorem fold_NS {a b c d e:Int} (h:Bd a b c d e):Fold a b c d e↔(NS 0 0 0 0 0≤NS a b c d e∧NS a b c d e < 2 * NS 0 0 0 0 0):=by
 have z:Bd 0 0 0 0 0:=by unfold Bd; omega
 have k:=cross h z
 simp only [Int.sub_zero] at k
 have p1:=top5_pos a b c d e
 have p2:=bot5_pos a b c d e
 have q1:=NS_pos a b c d e
 have q2:=NS_pos 0 0 0 0 0
 unfold Fold
 generalize top5 a b c d e = t at *
 generalize bot5 a b c d e = u at *
 generalize NS a b c d e = x at *
 generalize NS 0 0 0 0 0 = y at *
 constructor
 ·rintro ⟨w1,w2⟩
  have h1:u * y≤t * y:=Int.mul_le_mul_of_nonneg_right w1 (by omega)
  have h2:t * y < 2 * u * y:=Int.mul_lt_mul_of_pos_right w2 q2
  refine ⟨?_,?_⟩
  ·refine Int.le_of_not_gt fun w=>?_
   have:u * x < u * y:=Int.mul_lt_mul_of_pos_left w (by omega)
   omega
  ·refine Int.lt_of_not_ge fun w=>?_
   have h3:u * (2 * y)≤u * x:=Int.mul_le_mul_of_nonneg_left w (by omega)
   have h4:u * (2 * y) = 2 * u * y:=by rw [Int.mul_left_comm,Int.mul_assoc]
   omega
 ·rintro ⟨w1,w2⟩
  have h1:u * y≤u * x:=Int.mul_le_mul_of_nonneg_left w1 (by omega)
  have h2:u * x < u * (2 * y):=Int.mul_lt_mul_of_pos_left w2 (by omega)
  have h4:u * (2 * y) = 2 * u * y:=by rw [Int.mul_left_comm,Int.mul_assoc]
  refine ⟨?_,?_⟩
  ·refine Int.le_of_not_gt fun w=>?_
   have:t * y < u * y:=Int.mul_lt_mul_of_pos_right w q2
   omega
  ·refine Int.lt_of_not_ge fun w=>?_
   have:2 * u * y≤t * y:=Int.mul_le_mul_of_nonneg_right w (by omega)
   omega
end Mth
namespace Mth
theorem fold_ij {b c d e:Int} {i j:Nat} (h1:2 ^ j * rb b c d e≤2 ^ i * rt b c d e) (h2:2 ^ i * rt b c d e < 2 * (2 ^ j * rb b c d e)):Fold ((i:Int) - j) b c d e:=by
 have g1:F ((i:Int) - j) (rt b c d e) (rb b c d e):=(F_mul rfl).mp h1
 have g2:¬ F ((i:Int) - j - 1) (rt b c d e) (rb b c d e):=fun z=>by
  have z':=(F_mul (u:=i) (v:=j + 1) (by omega)).mpr z
  rw [Int.pow_succ] at z'
  have:2 ^ j * 2 * rb b c d e = 2 * (2 ^ j * rb b c d e):=by rw [Int.mul_comm (2 ^ j) 2,Int.mul_assoc]
  omega
 generalize ((i:Int) - j) = n at g1 g2
 refine ⟨(le_F ..).mpr g1,Int.lt_of_not_ge fun z=>g2 ?_⟩
 rw [top5_rt,bot5_rb] at z
 refine (F_mul (u:=n.toNat) (v:=(-n).toNat + 1) (by omega)).mp ?_
 rw [Int.pow_succ]
 have:2 ^ (-n).toNat * 2 * rb b c d e = 2 * (2 ^ (-n).toNat * rb b c d e):=by rw [Int.mul_comm (2 ^ (-n).toNat) 2,Int.mul_assoc]
 omega
theorem rt_lt {b c d e:Int} (hb:b≤30) (hc:c≤30) (hd:d≤30) (he:e≤30):rt b c d e < 2 ^ 400:=by
 have h:rt b c d e≤prod5 0 30 30 30 30:=prod5_mono (Nat.le_refl _) (by omega) (by omega) (by omega) (by omega)
 have:prod5 0 30 30 30 30 < 2 ^ 400:=by decide
 omega
theorem rb_lt {b c d e:Int} (hb:-30≤b) (hc:-30≤c) (hd:-30≤d) (he:-30≤e):rb b c d e < 2 ^ 400:=by
 have h:rb b c d e≤prod5 0 30 30 30 30:=prod5_mono (Nat.le_refl _) (by omega) (by omega) (by omega) (by omega)
 have:prod5 0 30 30 30 30 < 2 ^ 400:=by decide
 omega
theorem top5_0 (b c d e:Int):top5 0 b c d e = rt b c d e:=by rw [top5_rt]; simp
theorem bot5_0 (b c d e:Int):bot5 0 b c d e = rb b c d e:=by rw [bot5_rb]; simp
theorem rt_pos (b c d e:Int):1≤rt b c d e:=prod5_pos ..
theorem rb_pos (b c d e:Int):1≤rb b c d e:=prod5_pos ..
theorem pow2_lt {i n:Nat} {x:Int} (h1:(2:Int) ^ i≤x) (h2:x < 2 ^ n):i < n:=by
 refine Nat.lt_of_not_ge fun z=>?_
 have:=pow2_mono z
 omega
end Mth
namespace Mth
end Mth
namespace Mth
theorem pw_ins {α:Type} (f:α→Int) {qs:List α} {r:α} {n:Nat} (hs:qs.Pairwise fun a b=>f a < f b) (h1:∀ j q,j < n→qs[j]? = some q→f q < f r) (h2:∀ q,qs[n]? = some q→f r < f q) :
  (qs.take n ++ r :: qs.drop n).Pairwise fun a b=>f a < f b:=by
 have hd:∀ q∈qs.drop n,f r < f q:=fun q hq=>by
  cases e:qs.drop n with
  | nil=>rw [e] at hq; cases hq
  | cons z zs =>
   have hz:qs[n]? = some z:=by rw [← List.head?_drop,e]; rfl
   have hzr:=h2 z hz
   rw [e] at hq
   rcases List.mem_cons.mp hq with rfl | hq
   ·exact hzr
   ·have p:(z :: zs).Pairwise fun a b=>f a < f b:=e ▸ hs.sublist (List.drop_sublist n qs)
    have:=(List.pairwise_cons.mp p).1 q hq
    omega
 have ht:∀ q∈qs.take n,f q < f r:=fun q hq=>by
  obtain ⟨j,hj,rfl⟩:=List.getElem_of_mem hq
  have hj':j < n:=by rw [List.length_take] at hj; omega
  refine h1 j _ hj' ?_
  rw [List.getElem_take,List.getElem?_eq_getElem (by rw [List.length_take] at hj; omega)]
 refine List.pairwise_append.mpr ⟨hs.sublist (List.take_sublist n qs),List.pairwise_cons.mpr ⟨hd,hs.sublist (List.drop_sublist n qs)⟩,fun a ha b hb=>?_⟩
 rcases List.mem_cons.mp hb with rfl | hb
 ·exact ht a ha
 ·have:=ht a ha
  have:=hd b hb
  omega
end Mth
namespace Mth
theorem NS_mono {a a' b c d e:Int} (h:a≤a'):NS a b c d e≤NS a' b c d e:=prod5_mono (by omega) (Nat.le_refl _) (Nat.le_refl _) (Nat.le_refl _) (Nat.le_refl _)
theorem fold_lt {n n' b c d e:Int} (h:Bd n b c d e) (h':Bd n' b c d e) (f:Fold n b c d e) (f':Fold n' b c d e):¬ n < n':=fun z=>by
 have g:=(fold_NS h).mp f
 have g':=(fold_NS h').mp f'
 have k:=NS_oct h
 have m:=NS_mono (b:=b) (c:=c) (d:=d) (e:=e) (show n + 1≤n' by omega)
 omega
theorem fold_uniq {n n' b c d e:Int} (h:Bd n b c d e) (h':Bd n' b c d e) (f:Fold n b c d e) (f':Fold n' b c d e):n = n':=by
 have h1:=fold_lt h h' f f'
 have h2:=fold_lt h' h f' f
 omega
theorem fold_oct (a b c d e:Int):Fold (a - octR (top5 a b c d e) (bot5 a b c d e)) b c d e:=by
 obtain ⟨h1,h2⟩:=oct_F a b c d e
 generalize a - octR (top5 a b c d e) (bot5 a b c d e) = n at h1 h2
 refine ⟨(le_F ..).mpr h1,Int.lt_of_not_ge fun z=>h2 ?_⟩
 rw [top5_rt,bot5_rb] at z
 refine (F_mul (u:=n.toNat) (v:=(-n).toNat + 1) (by omega)).mp ?_
 rw [Int.pow_succ]
 have:2 ^ (-n).toNat * 2 * rb b c d e = 2 * (2 ^ (-n).toNat * rb b c d e):=by rw [Int.mul_comm (2 ^ (-n).toNat) 2,Int.mul_assoc]
 omega
theorem fold_bd {n b c d e:Int} (hb:-30≤b∧b≤30) (hc:-30≤c∧c≤30) (hd:-30≤d∧d≤30) (he:-30≤e∧e≤30) (f:Fold n b c d e):-400≤n∧n≤400:=by
 obtain ⟨f1,f2⟩:=f
 rw [top5_rt,bot5_rb] at f1 f2
 have t1:=rt_lt (b:=b) (c:=c) (d:=d) (e:=e) (by omega) (by omega) (by omega) (by omega)
 have b1:=rb_lt (b:=b) (c:=c) (d:=d) (e:=e) (by omega) (by omega) (by omega) (by omega)
 have t2:=rt_pos b c d e
 have b2:=rb_pos b c d e
 generalize rt b c d e = t at *
 generalize rb b c d e = u at *
 refine ⟨Int.le_of_not_gt fun z=>?_,Int.le_of_not_gt fun z=>?_⟩
 ·have e0:n.toNat = 0:=by omega
  have m:(2:Int) ^ 400≤2 ^ (-n).toNat:=pow2_mono (by omega)
  have k:2 ^ (-n).toNat * 1≤2 ^ (-n).toNat * u:=Int.mul_le_mul_of_nonneg_left b2 (Int.le_of_lt (pow2_pos _))
  rw [e0,Int.pow_zero,Int.one_mul] at f1
  omega
 ·have e0:(-n).toNat = 0:=by omega
  have m:(2:Int) ^ 401≤2 ^ n.toNat:=pow2_mono (by omega)
  have k:2 ^ n.toNat * 1≤2 ^ n.toNat * t:=Int.mul_le_mul_of_nonneg_left t2 (Int.le_of_lt (pow2_pos _))
  rw [e0,Int.pow_zero,Int.one_mul] at f2
  have q:(2:Int) ^ 401 = 2 * 2 ^ 400:=by rw [Int.pow_succ,Int.mul_comm]
  omega
theorem eq_of_order {α:Type} (f:α→Int):∀ {l m:List α},(l.Pairwise fun a b=>f a < f b)→(m.Pairwise fun a b=>f a < f b)→(∀ x,x∈l↔x∈m)→l = m
 | [],[],_,_,_=>rfl
 | [],y :: m,_,_,h=>absurd ((h y).mpr (List.mem_cons_self ..)) (by simp)
 | x :: l,[],_,_,h=>absurd ((h x).mp (List.mem_cons_self ..)) (by simp)
 | x :: l,y :: m,hl,hm,h=>by
  obtain ⟨l1,l2⟩:=List.pairwise_cons.mp hl
  obtain ⟨m1,m2⟩:=List.pairwise_cons.mp hm
  have exy:x = y:=by
   rcases List.mem_cons.mp ((h x).mp (List.mem_cons_self ..)) with z | z
   ·exact z
   ·rcases List.mem_cons.mp ((h y).mpr (List.mem_cons_self ..)) with z2 | z2
    ·exact z2.symm
    ·have:=m1 x z
     have:=l1 y z2
     omega
  subst exy
  have hlm:∀ z,z∈l↔z∈m:=fun z=>by
   constructor
   ·intro hz
    rcases List.mem_cons.mp ((h z).mp (List.mem_cons_of_mem _ hz)) with e | e
    ·subst e; have:=l1 z hz; omega
    ·exact e
   ·intro hz
    rcases List.mem_cons.mp ((h z).mpr (List.mem_cons_of_mem _ hz)) with e | e
    ·subst e; have:=m1 z hz; omega
    ·exact e
  rw [eq_of_order f l2 m2 hlm]
end Mth
namespace Mth
def sub (a b:List Int):List Int:=List.zipWith (· - ·) a b
def mulv (r:List Int) (k:Int):List Int:=r.map (· * k)
def low (v s:List Int) (q:Int):List Int:=sub v (mulv s q)
end Mth
namespace Mth
end Mth
namespace Mth
def Alike (a b:Int):Prop:=(0 < a∧0 < b)∨(a < 0∧b < 0)
def BdM (M:Nat) (r:List Int):Prop:=∀ i,(r.getD i 0).natAbs≤M
def at' (p:Nat) (v:List Int):Nat:=(v.getD p 0).natAbs
structure PS (n p M m l:Nat) (led os:List (List Int)):Prop where
 len:∀ v∈led ++ os,v.length = n
 bd:∀ v∈led ++ os,BdM M v
 lo:∀ v∈led,l≤at' p v∧at' p v≤m
 pos:0 < l
 big:∃ v∈led,at' p v = m
 low:∃ v∈led,at' p v = l
 one:(∀ v∈led,0 < v.getD p 0)∨∀ v∈led,v.getD p 0 < 0
 zero:∀ v∈os,v.getD p 0 = 0
end Mth
namespace Mth
def mz (p:Nat) (rs:List (List Int)):Nat:=(rs.map (at' p)).sum
def PI (n p M:Nat) (led os:List (List Int)):Prop :=
 (∀ v∈led ++ os,v.length = n)∧(∀ v∈led,v.getD p 0≠0)∧(∀ v∈os,v.getD p 0 = 0) ∧
  ((∀ v∈led ++ os,BdM M v)∨(∃ m l M',PS n p M' m l led os∧M' * m * m * l≤3 * (M * M * M * M))∨(led.length≤1∧∀ v∈led ++ os,BdM (6 * (M * M * M * M)) v))
end Mth
namespace Mth
end Mth
namespace Mth
def r2 (p:Nat×Nat):List Int:=[(p.1:Int),(p.2:Int)]
end Mth
namespace Mth
def gr (b:Nat):Nat→Nat
 | 0=>b
 | i + 1=>4 * gr b i + 3
def sb (b:Nat):Nat→Nat
 | 0=>0
 | i + 1=>sb b i + gr b (i + 1) + 1
end Mth
namespace Mth
structure PT (p X m k:Nat) (led os:List (List Int)):Prop where
 bd:∀ v∈led ++ os,BdM X v
 hi:∀ v∈led,at' p v≤m
 one:(∀ v∈led,0 < v.getD p 0)∨∀ v∈led,v.getD p 0 < 0
 low:∃ v∈led,at' p v + m≤k
end Mth
namespace Mth
end Mth
namespace Mth
end Mth
namespace Mth
end Mth
namespace Mth
end Mth
namespace Mth
end Mth
namespace Mth
end Mth
namespace Mth
end Mth
namespace Mth
end Mth
namespace Mth
end Mth
namespace Mth
end Mth
namespace Mth
end Mth
namespace Sgn
open PySem PySem.Builtin PySem.Builtin.Str PySem.StrLaws
end Sgn
namespace Sgn
open PySem PySem.Builtin PySem.Builtin.Str PySem.StrLaws
end Sgn
namespace Sgn
open PySem PySem.Builtin PySem.Builtin.Str PySem.StrLaws PySem.NumText PySem.W.KIN PyProof.Rows
end Sgn
namespace Sgn
open PySem PySem.Builtin PySem.Builtin.Str PySem.StrLaws
end Sgn
namespace Sgn
open PySem
end Sgn
namespace Sgn
open PySem
end Sgn
namespace Sgn
open PySem PySem.Builtin PySem.Builtin.Str PySem.StrLaws PySem.NumText PySem.W.KIN PyProof.Rows
end Sgn
namespace Mth
end Mth
namespace Mth
end Mth
namespace Nam
open PySem PySem.Builtin PySem.Builtin.Str PySem.StrLaws PyProof.Rows
end Nam
namespace Nam
open PySem PySem.Builtin PySem.Builtin.Str PySem.StrLaws PySem.NumText PySem.W.KIN PyProof.Rows
end Nam
namespace Nam
open PySem PySem.Builtin PySem.Builtin.Str PySem.StrLaws PyProof.Rows
end Nam
namespace Nam
open PySem
end Nam
namespace Nam
open PySem PySem.NumText PySem.W.KIN PyProof.Rows
end Nam
namespace Mth
def gens (ms:List Int) (rs:List (List Int)):List (List Int):=(List.range 5).map fun i=>mulv (rs.getD i []) (ms.getD i 0)
end Mth
namespace L2
open PySem PySem.Spec PyProof.Rows
def Fixed (K:PySem.W.Frag) (a:Addr) (xs:List V):Prop:=∀ H,SqT K H a xs
theorem Fixed.at {K:PySem.W.Frag} {a:Addr} {xs:List V} {H:Hp} (h:Fixed K a xs):SqT K H a xs:=h H
theorem Same.lst {H H':Hp} {a:Addr} {xs:List V} (e:Same H H') (h:H a = some (.lst xs)):H' a = some (.lst xs):=e _ _ h
theorem Same.upd_old {H H2:Hp} {l:Addr} {o:HO} (s:Same H H2) (h:H l = none):Same H (upd H2 l o):=fun b u e=>by
 rw [upd_ne (ne_of_none e h)]; exact s _ _ e
def rBl:V→Hp→(Bool→Hp→Prop)→Prop:=fun x H R=>∃ c,x = .bl c∧R c H
def rIn1:V→Hp→(Option Int→Hp→Prop)→Prop:=fun x H R=>∃ i,x = .int i∧R (some i) H
def rNewT:List V→Hp→VK→Prop:=fun xs H Q=>xs.length≤sizeLine∧∀ p,H p = none→Q (.ref p) (upd H p (.tup xs))
def rNewL:List V→Hp→VK→Prop:=fun xs H Q=>xs.length≤sizeLine∧∀ p,H p = none→Q (.ref p) (upd H p (.lst xs))
def rLen (K:PySem.W.Frag):List V→Hp→VK→Prop:=fun xs H Q=>∃ p ys,xs = [.ref p]∧(SqL K H p ys∨SqT K H p ys)∧Q (.int ys.length) H
def rTupleOf (K:PySem.W.Frag):List V→Hp→VK→Prop:=fun xs H Q=>∃ p ys,xs = [.ref p]∧((SqL K H p ys∧∀ l,H l = none→Q (.ref l) (upd H l (.tup ys)))∨(SqT K H p ys∧Q (.ref p) H))
def rListOf (K:PySem.W.Frag):List V→Hp→VK→Prop:=fun xs H Q=>∃ p ys,xs = [.ref p]∧(SqL K H p ys∨SqT K H p ys)∧∀ l,H l = none→Q (.ref l) (upd H l (.lst ys))
def rIsInst (K:PySem.W.Frag):List V→Hp→VK→Prop:=fun xs H Q=>∃ x n t b,xs = [x,.ty n]∧TyR K H x t∧PySem.W.kitOne K t (.type n) = some b∧Q (.bl b) H
def rAbs:List V→Hp→VK→Prop:=fun xs H Q=>∃ i,xs = [.int i]∧Q (.int (if i < 0 then -i else i)) H
def rMax:List V→Hp→VK→Prop:=fun xs H Q=>∃ i j,xs = [.int i,.int j]∧Q (.int (if j > i then j else i)) H
def rMin:List V→Hp→VK→Prop:=fun xs H Q=>∃ i j,xs = [.int i,.int j]∧Q (.int (if j < i then j else i)) H
def rBitLen:V→List V→Hp→VK→Prop:=fun x xs H Q=>∃ i,x = .int i∧xs = []∧Q (.int (bitsI i)) H
def rItL (K:PySem.W.Frag):V→Hp→(It→Hp→Prop)→Prop:=fun x H R=>∃ a,x = .ref a∧(∃ xs,SqL K H a xs)∧R (Itl K a) H
def rItT (K:PySem.W.Frag):V→Hp→(It→Hp→Prop)→Prop:=fun x H R=>∃ a,x = .ref a∧(∃ xs,SqT K H a xs)∧R (Itt K a) H
def rItR:List V→Hp→(It→Hp→Prop)→Prop:=fun vs H R=>∃ j:Int,vs = [.int j]∧-(2 ^ 62)≤j∧j < 2 ^ 62∧R (Itr 0 j.toNat) H
def rItZ (K:PySem.W.Frag) (k1 k2:Bool):List V→Hp→(It→Hp→Prop)→Prop:=fun vs H R=>∃ a b,vs = [.ref a,.ref b]∧(∃ xs,Sq k1 K H a xs)∧(∃ ys,Sq k2 K H b ys)∧R (Itz K k1 k2 a b) H
def rTyped (K:PySem.W.Frag) (T:String) (ts:TA) (r:V→List V→Hp→VK→Prop) (σ:St) (Q:VK):V→Hp→Prop:=fun x H1=>tyV K T x H1∧ts σ H1 fun xs H2=>r x xs H2 Q
def rTyped0 (K:PySem.W.Frag) (T:String) (r:V→List V→Hp→VK→Prop) (Q:VK):V→Hp→Prop:=fun x H1=>tyV K T x H1∧r x [] H1 Q
def ForGoal (g:TG) (tb:TS) (D:Ends) (J:It) (σ:St) (H:Hp):Prop:=∃ W:Nat→Nat→St→Hp→Prop,(∃ m,W 0 m σ H)∧∀ i m σ H,W i m σ H →
 (J.stop i H∧D.nx σ H)∨(J.go i H∧∃ N:St→Hp→Prop,(∀ σ' H',N σ' H'→∃ m',m' < m∧W (i + 1) m' σ' H')∧∀ x H',J.yld i H x H'→g x σ H' fun σ2 H2=>tb { D with nx:=N,ct:=N,bk:=D.nx } σ2 H2)
section
variable {X:Cx}
theorem callN_len:CallR X (.builtin "len") (rLen X.K):=call_len_seq
theorem callN_tuple:CallR X (.type "tuple") (rTupleOf X.K):=call_tuple_of
theorem callN_list:CallR X (.type "list") (rListOf X.K):=call_list_of
theorem callN_isinst:CallR X (.builtin "isinstance") (rIsInst X.K):=call_isinst
theorem callN_abs:CallR X (.builtin "abs") rAbs:=call_abs
theorem callN_max (hc:X.calm = true):CallR X (.builtin "max") rMax:=call_max2 hc
theorem callN_min (hc:X.calm = true):CallR X (.builtin "min") rMin:=call_min2 hc
theorem mtN_bitlen:MtR X "int.bit_length" rBitLen:=mt_bitlen
end
section
variable {t u:TS} {D:Ends} {σ:St} {H:Hp} {te ta tb:TE} {g:TG} {tt tu:TT} {Q:VK} {i j:Int} {x y v w:V} {K:PySem.W.Frag}
theorem r_seq (h:t { D with nx:=u D } σ H):tSeq t u D σ H:=h
theorem r_asg (h:te σ H fun x H1=>g x σ H1 D.nx):tAsg te g D σ H:=h
theorem r_gname {n:Nat} {R:St→Hp→Prop} (h:R (σ.set n (some v)) H):gName n v σ H R:=h
theorem r_ret (h:te σ H D.rt):tRet te D σ H:=h
theorem r_drop (h:te σ H fun _ H1=>D.nx σ H1):tDrop te D σ H:=h
theorem r_next (h:D.nx σ H):tNext D σ H:=h
theorem r_ifs {c:TT} (h:c σ H fun b H1=>if b = true then t D σ H1 else u D σ H1):tIfS c t u D σ H:=h
theorem r_var {n:Nat} (e:σ[n]? = some (some v)) (h:Q v H):tVar n σ H Q:=⟨v,e,h⟩
theorem r_c (h:Q v H):tC v σ H Q:=h
theorem r_op {r:R2} (h:ta σ H fun x H1=>tb σ H1 fun y H2=>r x y H2 Q):tOp r ta tb σ H Q:=h
theorem r_un {r:V→Hp→VK→Prop} (h:ta σ H fun x H1=>r x H1 Q):tUn r ta σ H Q:=h
theorem r_b {R:Bool→Hp→Prop} (h:te σ H fun x H1=>rBl x H1 R):tB te σ H R:=h
theorem r_test {R:Bool→Hp→Prop} (h:te σ H fun x H1=>rBl x H1 R):tTest te σ H R:=h
theorem r_isbl {b:Bool} {R:Bool→Hp→Prop} (h:R b H):rBl (.bl b) H R:=⟨b,rfl,h⟩
theorem r_and {R:Bool→Hp→Prop} (h:tt σ H fun c H1=>if c = true then tu σ H1 R else R false H1):tAnd tt tu σ H R:=h
theorem r_or {R:Bool→Hp→Prop} (h:tt σ H fun c H1=>if c = true then R true H1 else tu σ H1 R):tOr tt tu σ H R:=h
theorem r_not {R:Bool→Hp→Prop} (h:tt σ H fun c H1=>R (!c) H1):tNot tt σ H R:=h
theorem r_andV (h:ta σ H fun x H1=>rBl x H1 fun c H2=>if c = true then tb σ H2 Q else Q (.bl false) H2):tAndV ta tb σ H Q:=h
theorem r_notV (h:ta σ H fun x H1=>rBl x H1 fun c H2=>Q (.bl (!c)) H2):tNotV ta σ H Q:=h
theorem r_ife (h:tt σ H fun c H1=>if c = true then ta σ H1 Q else tb σ H1 Q):tIf tt ta tb σ H Q:=h
theorem r_I0 {f:Int→Int→V} (h:Q (f i j) H):rI0 f (.int i) (.int j) H Q:=⟨i,j,rfl,rfl,h⟩
theorem r_I {C:Int→Int→Prop} {f:Int→Int→V} (c:C i j) (h:Q (f i j) H):rI C f (.int i) (.int j) H Q:=⟨i,j,rfl,rfl,c,h⟩
theorem r_U {f:Int→V} (h:Q (f i) H):rU f (.int i) H Q:=⟨i,rfl,h⟩
theorem decI {i j:Int}:decide (V.int i = V.int j) = decide (i = j):=by
 by_cases e:i = j
 ·subst e; simp
 ·rw [decide_eq_false e]; exact decide_eq_false fun z=>e (by injection z)
theorem r_eqI (h:Q (.bl (decide (i = j))) H):rEq (.int i) (.int j) H Q:=⟨rfl,by rw [decI]; exact h⟩
theorem r_neI (h:Q (.bl (!decide (i = j))) H):rNe (.int i) (.int j) H Q:=⟨rfl,by rw [decI]; exact h⟩
theorem r_nil {R:List V→Hp→Prop} (h:R [] H):tNil σ H R:=h
theorem r_cons {ts:TA} {R:List V→Hp→Prop} (h:te σ H fun x H1=>ts σ H1 fun xs H2=>R (x :: xs) H2):tCons te ts σ H R:=h
theorem r_tup {ts:TA} (h:ts σ H fun xs H1=>rNewT xs H1 Q):tTup ts σ H Q:=h
theorem r_lst {ts:TA} (h:ts σ H fun xs H1=>rNewL xs H1 Q):tLst ts σ H Q:=h
theorem r_newT {xs:List V} (hl:xs.length≤1000) (h:∀ p H2,Same H H2→H2 p = some (.tup xs)→Q (.ref p) H2):rNewT xs H Q :=
 ⟨Nat.le_of_lt (small1000 hl),fun p hp=>h p _ (Same.upd_new hp) upd_same⟩
theorem r_newL {xs:List V} (hl:xs.length≤1000) (h:∀ p H2,H p = none→Same H H2→H2 p = some (.lst xs)→Q (.ref p) H2):rNewL xs H Q :=
 ⟨Nat.le_of_lt (small1000 hl),fun p hp=>h p _ hp (Same.upd_new hp) upd_same⟩
theorem r_cb {r:List V→Hp→VK→Prop} {ts:TA} (h:ts σ H fun vs H1=>r vs H1 Q):tCB r ts σ H Q:=h
theorem r_comp {ix:List (Option Nat)} {wi:TI} (h:wi σ H fun J H1=>CompGoal ix g tt te σ Q J H1):tComp ix wi g tt te σ H Q:=h
theorem r_sl {r:V→Option Int→Option Int→Hp→VK→Prop} {tl th:TO} (h:te σ H fun x H1=>tl σ H1 fun l H2=>th σ H2 fun u H3=>r x l u H3 Q):tSl r te tl th σ H Q:=h
theorem r_nopart {R:Option Int→Hp→Prop} (h:R none H):tNoPart σ H R:=h
theorem r_part {R:Option Int→Hp→Prop} (h:te σ H fun x H1=>rIn1 x H1 R):tPart te σ H R:=h
theorem r_isint {R:Option Int→Hp→Prop} (h:R (some i) H):rIn1 (.int i) H R:=⟨i,rfl,h⟩
theorem r_bm {T:String} {r:V→List V→Hp→VK→Prop} {ts:TA} (h:te σ H fun x H1=>rTyped K T ts r σ Q x H1):tBM K T r te ts σ H Q:=h
theorem r_bm0 {T:String} {r:V→List V→Hp→VK→Prop} (h:te σ H fun x H1=>rTyped0 K T r Q x H1):tBM0 K T r te σ H Q:=h
theorem r_for {wi:TI} {tb:TS} (h:wi σ H fun J H1=>ForGoal g tb D J σ H1):tFor wi g tb D σ H:=h
theorem r_ilist {R:It→Hp→Prop} (h:te σ H fun x H1=>rItL K x H1 R):iList K te σ H R:=h
theorem r_itup {R:It→Hp→Prop} (h:te σ H fun x H1=>rItT K x H1 R):iTup K te σ H R:=h
theorem r_irng {ts:TA} {R:It→Hp→Prop} (h:ts σ H fun vs H1=>rItR vs H1 R):iRng1 ts σ H R:=h
theorem r_izip {k1 k2:Bool} {ts:TA} {R:It→Hp→Prop} (h:ts σ H fun vs H1=>rItZ K k1 k2 vs H1 R):iZip2 K k1 k2 ts σ H R:=h
theorem r_isl {a:Addr} {xs:List V} {R:It→Hp→Prop} (e:SqL K H a xs) (h:R (Itl K a) H):rItL K (.ref a) H R:=⟨a,rfl,⟨_,e⟩,h⟩
theorem r_ist {a:Addr} {xs:List V} {R:It→Hp→Prop} (e:SqT K H a xs) (h:R (Itt K a) H):rItT K (.ref a) H R:=⟨a,rfl,⟨_,e⟩,h⟩
theorem r_isr {R:It→Hp→Prop} (h1:-1000000≤j) (h2:j≤1000000) (h:R (Itr 0 j.toNat) H):rItR [.int j] H R:=⟨j,rfl,by omega,by omega,h⟩
theorem r_isz {k1 k2:Bool} {a b:Addr} {xs ys:List V} {R:It→Hp→Prop} (e1:Sq k1 K H a xs) (e2:Sq k2 K H b ys) (h:R (Itz K k1 k2 a b) H):rItZ K k1 k2 [.ref a,.ref b] H R:=⟨a,b,rfl,⟨_,e1⟩,⟨_,e2⟩,h⟩
theorem sqt_sq {a:Addr} {xs:List V} (h:SqT K H a xs):Sq true K H a xs:=h
theorem sql_sq {a:Addr} {xs:List V} (h:SqL K H a xs):Sq false K H a xs:=h
theorem r_ixT {a:Addr} {xs:List V} (e:SqT K H a xs) (n:atI xs i = some v) (h:Q v H):rIx K (.ref a) (.int i) H Q:=.inr (.inl ⟨a,xs,i,v,rfl,rfl,e,n,h⟩)
theorem r_ixL {a:Addr} {xs:List V} (e:SqL K H a xs) (n:atI xs i = some v) (h:Q v H):rIx K (.ref a) (.int i) H Q:=.inl ⟨a,xs,i,v,rfl,rfl,e,n,h⟩
theorem r_lenT {a:Addr} {xs:List V} (e:SqT K H a xs) (h:Q (.int xs.length) H):rLen K [.ref a] H Q:=⟨a,xs,rfl,.inr e,h⟩
theorem r_lenL {a:Addr} {xs:List V} (e:SqL K H a xs) (h:Q (.int xs.length) H):rLen K [.ref a] H Q:=⟨a,xs,rfl,.inl e,h⟩
theorem r_tupleL {a:Addr} {xs:List V} (e:SqL K H a xs) (h:∀ p H2,Same H H2→H2 p = some (.tup xs)→Q (.ref p) H2):rTupleOf K [.ref a] H Q :=
 ⟨a,xs,rfl,.inl ⟨e,fun p hp=>h p _ (Same.upd_new hp) upd_same⟩⟩
theorem r_listL {a:Addr} {xs:List V} (e:SqL K H a xs) (h:∀ p H2,H p = none→Same H H2→H2 p = some (.lst xs)→Q (.ref p) H2):rListOf K [.ref a] H Q:=⟨a,xs,rfl,.inl e,fun p hp=>h p _ hp (Same.upd_new hp) upd_same⟩
theorem r_abs (h:Q (.int (if i < 0 then -i else i)) H):rAbs [.int i] H Q:=⟨i,rfl,h⟩
theorem r_max (h:Q (.int (if j > i then j else i)) H):rMax [.int i,.int j] H Q:=⟨i,j,rfl,h⟩
theorem r_min (h:Q (.int (if j < i then j else i)) H):rMin [.int i,.int j] H Q:=⟨i,j,rfl,h⟩
theorem r_bitlen (h:Q (.int (bitsI i)) H):rBitLen (.int i) [] H Q:=⟨i,rfl,rfl,h⟩
theorem r_typed {T:String} {ts:TA} {r:V→List V→Hp→VK→Prop} (e:tyV K T x H) (h:ts σ H fun xs H2=>r x xs H2 Q):rTyped K T ts r σ Q x H:=⟨e,h⟩
theorem r_typed0 {T:String} {r:V→List V→Hp→VK→Prop} (e:tyV K T x H) (h:r x [] H Q):rTyped0 K T r Q x H:=⟨e,h⟩
theorem r_append {l:Addr} {xs:List V} (e:H l = some (.lst xs)) (n:xs.length≤1000) (h:Q .non (upd H l (.lst (xs ++ [y])))):rAppend (.ref l) [y] H Q:=⟨l,xs,y,rfl,rfl,e,small1000 n,h⟩
theorem r_cat {a b:Addr} {xs ys:List V} (e1:H a = some (.lst xs)) (e2:H b = some (.lst ys)) (n:xs.length + ys.length≤1000) (h:∀ p H2,H p = none→Same H H2→H2 p = some (.lst (xs ++ ys))→Q (.ref p) H2):rCat (.ref a) (.ref b) H Q :=
 ⟨a,b,xs,ys,rfl,rfl,e1,e2,Nat.le_of_lt (small1000 n),fun p hp=>h p _ hp (Same.upd_new hp) upd_same⟩
theorem r_catT {a b:Addr} {xs ys:List V} (e1:SqT K H a xs) (e2:SqT K H b ys) (n1:xs≠[]) (n2:ys≠[]) (n:xs.length + ys.length≤1000) (h:∀ p H2,Same H H2→H2 p = some (.tup (xs ++ ys))→Q (.ref p) H2):rCatT K (.ref a) (.ref b) H Q :=
 ⟨a,b,xs,ys,rfl,rfl,e1,e2,n1,Nat.le_of_lt (small1000 n),fun z=>absurd z n2,fun _ p hp=>h p _ (Same.upd_new hp) upd_same⟩
theorem r_slT {a:Addr} {xs:List V} {lo hi:Option Int} (e:SqT K H a xs) (n:¬ (HT.sIx xs.length 0 lo = 0∧HT.sIx xs.length xs.length hi = xs.length)) (h:∀ p H2,Same H H2→H2 p = some (.tup (cutV xs lo hi))→Q (.ref p) H2):rSlT K (.ref a) lo hi H Q :=
 ⟨a,xs,rfl,e,n,fun p hp=>h p _ (Same.upd_new hp) upd_same⟩
theorem r_slL {a:Addr} {xs:List V} {lo hi:Option Int} (e:SqL K H a xs) (h:∀ p H2,H p = none→Same H H2→H2 p = some (.lst (cutV xs lo hi))→Q (.ref p) H2):rSlL K (.ref a) lo hi H Q :=
 ⟨a,xs,rfl,e,fun p hp=>h p _ hp (Same.upd_new hp) upd_same⟩
theorem r_isiT {a:Addr} {xs:List V} {n:String} {b:Bool} (e:SqT K H a xs) (k:PySem.W.kitOne K (.type "tuple") (.type n) = some b) (h:Q (.bl b) H):rIsInst K [.ref a,.ty n] H Q:=⟨_,n,_,b,rfl,.inr (.inl ⟨a,xs,rfl,e,rfl⟩),k,h⟩
theorem r_isiL {a:Addr} {xs:List V} {n:String} {b:Bool} (e:SqL K H a xs) (k:PySem.W.kitOne K (.type "list") (.type n) = some b) (h:Q (.bl b) H):rIsInst K [.ref a,.ty n] H Q:=⟨_,n,_,b,rfl,.inr (.inr ⟨a,xs,rfl,e,rfl⟩),k,h⟩
theorem r_isiI {n:String} {b:Bool} (k:PySem.W.kitOne K (.type "int") (.type n) = some b) (h:Q (.bl b) H):rIsInst K [.int i,.ty n] H Q:=⟨_,n,_,b,rfl,.inl (.int _),k,h⟩
theorem f_any {J:It} {tb:TS} (n:Nat) (Pv:Nat→St→Prop) (h0:Pv 0 σ) (hgo:∀ i H2,i < n→Same H H2→J.go i H2) (hstop:∀ H2,Same H H2→J.stop n H2)
  (hs:∀ i x σ H2 H3,i < n→Pv i σ→Same H H2→J.yld i H2 x H3→g x σ H3 fun σ2 H4=>tb { D with nx:=fun σ' H'=>Pv (i + 1) σ'∧Same H H',ct:=fun σ' H'=>Pv (i + 1) σ'∧Same H H',bk:=D.nx } σ2 H4) (hd:∀ σ H2,Pv n σ→Same H H2→D.nx σ H2):ForGoal g tb D J σ H:=by
 refine ⟨fun i m σ2 H2=>m = n - i∧i≤n∧Pv i σ2∧Same H H2,⟨n,by simp,Nat.zero_le _,h0,Same.refl _⟩,?_⟩
 rintro i m σ2 H2 ⟨rfl,hi,p,s⟩
 by_cases hlt:i < n
 ·exact .inr ⟨hgo i H2 hlt s,fun σ' H'=>Pv (i + 1) σ'∧Same H H',fun σ' H' p'=>⟨n - (i + 1),by omega,rfl,hlt,p'.1,p'.2⟩,fun x H' y=>hs i x σ2 H2 H' hlt p s y⟩
 ·have e:i = n:=by omega
  subst e
  exact .inl ⟨hstop H2 s,hd σ2 H2 p s⟩
theorem f_rng {lo:Int} {n:Nat} {tb:TS} (Pv:Nat→St→Prop) (h0:Pv 0 σ) (hs:∀ i σ H2,i < n→Pv i σ→Same H H2→g (.int (lo + i)) σ H2 fun σ2 H4=>tb { D with nx:=fun σ' H'=>Pv (i + 1) σ'∧Same H H',ct:=fun σ' H'=>Pv (i + 1) σ'∧Same H H',bk:=D.nx } σ2 H4)
  (hd:∀ σ H2,Pv n σ→Same H H2→D.nx σ H2):ForGoal g tb D (Itr lo n) σ H:=by
 refine f_any n Pv h0 (fun i H2 hi _=>hi) (fun H2 _=>Nat.le_refl _) (fun i x σ H2 H3 hi p s y=>?_) hd
 obtain ⟨rfl,rfl⟩:=y
 exact hs i σ _ hi p s
theorem f_zip {k1 k2:Bool} {a b:Addr} {xs ys:List V} {m n:Nat} {tb:TS} (ha:Sq k1 K H a xs) (hb:Sq k2 K H b ys) (hlen:xs.length = ys.length) (Pv:Nat→St→Prop) (h0:Pv 0 σ)
  (hs:∀ i x y σ H2,xs[i]? = some x→ys[i]? = some y→Pv i σ→Same H H2→tb { D with nx:=fun σ' H'=>Pv (i + 1) σ'∧Same H H',ct:=fun σ' H'=>Pv (i + 1) σ'∧Same H H',bk:=D.nx } ((σ.set m (some x)).set n (some y)) H2)
  (hd:∀ σ H2,Pv xs.length σ→Same H H2→D.nx σ H2):ForGoal (gTup K 2 (gCons (gName m) (gCons (gName n) gNil))) tb D (Itz K k1 k2 a b) σ H:=by
 refine f_any xs.length Pv h0 (fun i H2 hi s=>?_) (fun H2 s=>?_) (fun i x σ H2 H3 hi p s hy=>?_) hd
 ·exact ⟨_,_,xs[i],ys[i]'(hlen ▸ hi),s.sq ha,s.sq hb,List.getElem?_eq_getElem hi,List.getElem?_eq_getElem (hlen ▸ hi)⟩
 ·exact ⟨_,_,s.sq ha,s.sq hb,.inl (Nat.le_refl _)⟩
 ·obtain ⟨q,x',y',rfl,hq,e1,e2,rfl⟩:=hy
  refine ⟨q,_,rfl,SqT.of upd_same,rfl,_,_,rfl,_,_,rfl,rfl,?_⟩
  have s2:Same H2 (upd H2 q (.tup [x',y'])):=Same.upd_new hq
  exact hs i x' y' σ _ (e1 _ (s.sq ha)) (e2 _ (s.sq hb)) p (s.trans s2)
end
theorem if_tt {c:Bool} {A B:Prop} (e:c = true) (h:A):if c = true then A else B:=by rw [if_pos e]; exact h
theorem if_ff {c:Bool} {A B:Prop} (e:c = false) (h:B):if c = true then A else B:=by rw [e]; exact iteF h
theorem if_both {c:Bool} {A B:Prop} (h1:c = true→A) (h2:c = false→B):if c = true then A else B:=by
 cases c with
 | true=>exact iteT (h1 rfl)
 | false=>exact iteF (h2 rfl)
end L2
namespace L2
open PySem PySem.Spec PyProof.Rows
section
variable {t u:TS} {D:Ends} {σ:St} {H:Hp} {te ta tb:TE} {g:TG} {tt tu:TT} {Q:VK} {i j:Int} {x y v w:V} {K:PySem.W.Frag} {X:Cx}
theorem r_call0 {sp:Sp} {E:XK} {ts:TA} (h:ts σ H fun vs H1=>sp vs H1 Q E):tCall sp [] E ts σ H Q:=by
 unfold tCall
 simp only [List.append_nil]
 exact h
def WGo (tb:TS) (D:Ends) (W:Nat→St→Hp→Prop) (m:Nat) (σ:St) (H1:Hp):Prop:=∃ N:St→Hp→Prop,(∀ σ' H',N σ' H'→∃ m',m' < m∧W m' σ' H')∧tb { D with nx:=N,ct:=N,bk:=D.nx } σ H1
theorem f_while {c:TT} {tb:TS} (W:Nat→St→Hp→Prop) (m:Nat) (h0:W m σ H) (hs:∀ m σ H,W m σ H→c σ H fun b H1=>if b = true then WGo tb D W m σ H1 else D.nx σ H1):tWhile c tb D σ H:=⟨W,⟨m,h0⟩,hs⟩
theorem w_go {tb:TS} {W:Nat→St→Hp→Prop} {m:Nat} (h:tb { D with nx:=fun σ' H'=>∃ m',m' < m∧W m' σ' H',ct:=fun σ' H'=>∃ m',m' < m∧W m' σ' H',bk:=D.nx } σ H):WGo tb D W m σ H:=⟨_,fun _ _ z=>z,h⟩
theorem f_rngE {lo:Int} {n:Nat} {tb:TS} (Pv:Nat→St→Prop) (h0:Pv 0 σ) (hs:∀ i σ,i < n→Pv i σ→g (.int (lo + i)) σ H fun σ2 H4=>tb { D with nx:=fun σ' H'=>Pv (i + 1) σ'∧H' = H,ct:=fun σ' H'=>Pv (i + 1) σ'∧H' = H,bk:=D.nx } σ2 H4)
  (hd:∀ σ,Pv n σ→D.nx σ H):ForGoal g tb D (Itr lo n) σ H:=by
 refine for_range (fun i σ2 H2=>Pv i σ2∧H2 = H) ⟨h0,rfl⟩ (fun i σ2 H2 hi p=>?_) (fun σ2 H2 p=>?_)
 ·obtain ⟨p,rfl⟩:=p
  exact hs i σ2 hi p
 ·obtain ⟨p,rfl⟩:=p
  exact hd σ2 p
end
end L2
namespace L2
open PySem PySem.Spec PyProof.Rows
section
variable {X:Cx} (K:PySem.W.Frag) (hK:X.K = K)
include hK
theorem kN_len:CallR X (.builtin "len") (rLen K):=hK ▸ callN_len
theorem kN_tuple:CallR X (.type "tuple") (rTupleOf K):=hK ▸ callN_tuple
theorem kN_list:CallR X (.type "list") (rListOf K):=hK ▸ callN_list
theorem kN_isinst:CallR X (.builtin "isinstance") (rIsInst K):=hK ▸ callN_isinst
theorem kx_seq:IxR X (rIx K):=hK ▸ ix_seq
theorem ksl_tup:SlR X (rSlT K):=hK ▸ sl_tup
theorem ksl_list:SlR X (rSlL K):=hK ▸ sl_list
theorem kop_catT:OpR X (binaryOp .Add) (rCatT K):=hK ▸ op_catT
theorem kpi_list {tg l:Expr} {tl:TE} (hl:PE X l tl):PI X tg l (iList K tl):=hK ▸ pi_list hl
theorem kpi_tup {tg l:Expr} {tl:TE} (hl:PE X l tl):PI X tg l (iTup K tl):=hK ▸ pi_tup hl
theorem kpi_zip2 (k1 k2:Bool) {es:List Expr} {kk:Nat} {tpos:Pos} {a b:Expr} {ta:TA} {p pos:Pos} (hg:Gl X "zip") (hm:X.mg "zip" = none) (ha:PA X [a,b] ta) (hs:starEach [a,b] X.env = [(false,eval a X.env),(false,eval b X.env)]:=by rfl) (hs2:starEach [b] X.env = [(false,eval b X.env)]:=by rfl) :
  PI X (.Tuple es kk tpos) (.Call (.Name "zip" p) [a,b] [] pos) (iZip2 K k1 k2 ta):=hK ▸ pi_zip2 k1 k2 hg hm ha hs hs2
theorem kpg_tup {es:List Expr} {k:Nat} {t:TGs} {n:Nat} {pos:Pos} (hc:X.calm = true) (h:PGs X es t)
  (hn:(assignEach es X.env).length = n:=by rfl) (hst:(assignEach es X.env).findIdx? (·.1) = none:=by rfl):PG X (.Tuple es k pos) (gTup K n t):=hK ▸ pg_tup hc h hn hst
end
end L2
namespace Mth
theorem bits_bl (x:Int):L2.bitsI x = bl x:=rfl
theorem PPn_mul {e0 e1 e2 e3 e4:Int} (hb:e0≤4000∧e1≤4000∧e2≤4000∧e3≤4000∧e4≤4000∧-100000≤e0∧-100000≤e1∧-100000≤e2∧-100000≤e3∧-100000≤e4) {i:Nat} {p e:Int} (hp:p.natAbs < 16) (he:e≤4000):L2.CMulB (PPn e0 e1 e2 e3 e4 i) (p ^ e.toNat):=PPn_bits hb hp he
end Mth
namespace L2
open PySem PySem.Spec PyProof.Rows
section
variable {σ:St} {H:Hp} {te:TE} {Q:VK} {K:PySem.W.Frag} {ix:List (Option Nat)}
theorem rd_row5 {a:Addr} {x0 x1 x2 x3 x4:Int} (F:Int→V) (fr:St) (hpk:pick ix σ = none :: fr) (ha:SqT K H a [.int x0,.int x1,.int x2,.int x3,.int x4])
  (step:∀ x H' (Qc:VK),Same H H'→(∀ H5,Same H' H5→Qc (F x) H5)→te (some (.int x) :: fr) H' Qc)
  (hQ:∀ l H',H l = none→Same H H'→H' l = some (.lst [F x0,F x1,F x2,F x3,F x4])→Q (.ref l) H'):CompGoal ix (gName 0) (fun _ H Q=>Q true H) te σ Q (Itt K a) H :=
 rd_mapRow (r:=[x0,x1,x2,x3,x4]) F fr hpk ha (by show 5≤1000; decide) (fun x H' Qc _ s k=>step x H' Qc s k) hQ
end
end L2
namespace Mth
end Mth
namespace L2
open PySem PySem.Spec PyProof.Rows
section
variable {σ:St} {H:Hp} {te:TE} {Q:VK} {K:PySem.W.Frag} {ix:List (Option Nat)}
end
end L2
namespace L2
open PySem PySem.Spec PyProof.Rows
section
variable {H:Hp} {Q:VK} {K:PySem.W.Frag}
theorem cut_tail (x:V) (xs:List V):cutV (x :: xs) (some 1) none = xs:=by
 have e:HT.sIx (x :: xs).length 0 (some 1) = 1:=by
  have h:=HT.sIx_nat (x :: xs).length 0 1
  simp only [List.length_cons] at h ⊢
  have h2:min 1 (xs.length + 1) = 1:=by omega
  rw [h2] at h
  exact h
 unfold cutV
 rw [e,HT.sIx_none]
 simp
theorem r_slT1 {a:Addr} {x:V} {xs:List V} (e:SqT K H a (x :: xs)) (h:∀ p H2,Same H H2→H2 p = some (.tup xs)→Q (.ref p) H2):rSlT K (.ref a) (some 1) none H Q :=
 r_slT e (fun z=>by
  have h2:=HT.sIx_nat (x :: xs).length 0 1
  have h3:HT.sIx (x :: xs).length 0 (some 1) = min 1 (x :: xs).length:=h2
  rw [h3] at z
  have:=z.1
  simp only [List.length_cons] at this
  omega) fun p H2 s m=>h p H2 s (by rw [cut_tail] at m; exact m)
end
end L2
namespace Mth
end Mth
namespace PySem.F
end PySem.F
namespace L2
open PySem
section
variable {prog:Program} {w:World} {A:Around} {E:Value→Shared→Prop} {s:Shared}
end
end L2
namespace PySem.F
end PySem.F
namespace L2
open PySem PySem.Spec PyProof.Rows
section
variable {X:Cx}
end
section
variable {D:Ends} {σ:St} {H:Hp} {K:PySem.W.Frag}
end
end L2
namespace L2
open PySem PySem.Spec PyProof.Rows
def rm (H:Hp) (l:Addr):Hp:=fun b=>if b = l then none else H b
theorem rm_at {H:Hp} {l:Addr}:rm H l l = none:=by unfold rm; rw [if_pos rfl]
theorem rm_ne {H:Hp} {l b:Addr} (h:b≠l):rm H l b = H b:=by unfold rm; rw [if_neg h]
theorem rm_same {H:Hp} {l:Addr}:Same (rm H l) H:=fun b o e=>by
 by_cases h:b = l
 ·subst h; rw [rm_at] at e; cases e
 ·rw [rm_ne h] at e; exact e
theorem rm_sqT {K:PySem.W.Frag} {H:Hp} {l a:Addr} {xs ys:List V} (h:SqT K H a xs) (hl:H l = some (.lst ys)):SqT K (rm H l) a xs:=by
 have ne:∀ {o},H a = some o→(∀ zs,o≠.lst zs)→a≠l:=fun {o} e n z=>by subst z; rw [hl] at e; exact n _ (Option.some.inj e).symm
 rcases h with (h | ⟨o,h⟩) | h
 ·exact .inl (.inl (by rw [rm_ne (ne h fun _ z=>nomatch z)]; exact h))
 ·exact .inl (.inr ⟨o,by rw [rm_ne (ne h fun _ z=>nomatch z)]; exact h⟩)
 ·exact .inr h
section
variable {H:Hp} {Q:VK} {K:PySem.W.Frag}
end
end L2
namespace L2
open PySem PySem.Spec PyProof.Rows PySem.W
section
variable {prog:Program} {w:World} {A:Around} {E:Value→Shared→Prop} {s:Shared} {K:Frag} {x C:Addr} {ox:Obj}
end
end L2
namespace L2
open PySem PySem.Spec PyProof.Rows PySem.W
section
variable {M:Model} {A:Around} {E:Value→Shared→Prop} {s:Shared}
def HeadOk (h:Heap) (e:Addr) (vs:Array Value):Option Addr→Prop
 | none=>vs[1]? = some .none
 | some T=>vs[1]? = some (.ref T)∧T≠e∧∃ oT ts,h.get? T = some oT∧oT.data = .fields ts∧ts[3]? = some .none
end
end L2
namespace L2
open PySem PySem.Spec PyProof.Rows PySem.W
def Exc (h:Heap) (H:Hp) (h0:Heap) (ps:List (Addr×Obj)) (a C:Addr):Prop:=∃ oe vs T0,h.get? a = some oe∧oe.cls = .ref C∧oe.dict = none∧oe.data = .fields vs∧1 < vs.size∧HeadOk h a vs T0∧H a = none∧(h0.get? a = none∧∀ p∈ps,p.1≠a) ∧
 ∀ T,T0 = some T→H T = none∧h0.get? T = none∧∀ p∈ps,p.1≠T
abbrev EXT:=Addr→St→Hp→Prop
def XW (X:Cx) (EX:EXT):Value→Shared→Prop:=fun e s'=>∃ a C σ' H',e = .ref a∧Inv X.nox [] σ' H' s'∧Exc s'.heap H' X.s₀.heap X.pn a C∧EX C σ' H'
section
variable {P:Program} {w:World} {K:PySem.W.Frag} {mg:Str→Option Value} {base:Heap}
end
section
variable {X:Cx} {EX:EXT} {k:Nat} {x:Str} {ps:List Str} {sp:Sp} {p pos:Pos} {e:Expr} {es:List Expr} {t:TA}
end
end L2
namespace L2
open PySem PySem.Spec PyProof.Rows PySem.W
section
variable {X:Cx} {pins:List (Addr×Obj)} {σ:List (Option V)} {H H':Hp} {s:Shared} {h':Heap}
theorem Inv.step2 {t':Nat} {ch:List Addr} (I:Inv X pins σ H s)
  (hch:∀ b∈ch,X.s₀.heap.get? b = none∧b≠X.env.locals∧(∀ x c,X.env.cells.lookup x = some c→c≠b)∧∀ p∈X.pn ++ pins,p.1≠b)
  (keep:∀ b o,b≠X.env.locals→b∉X.fs→b∉ch→s.heap.get? b = some o→H b = none→h'.get? b = some o)
  (slot:∀ b o,b≠X.env.locals→b∈X.fs→b∉ch→s.heap.get? b = some o→H b = none→∃ sl,h'.get? b = some { o with slots:=sl }) (free:∀ b o,b∉ch→s.heap.get? b = some o→H b = none→H' b = none)
  (there:∀ b o,b∉ch→s.heap.get? b = some o→∃ o',h'.get? b = some o')
  (tups:∀ b xs,H b = some (.tup xs)→H' b = some (.tup xs)) (frzs:∀ b o u,H b = some (.frz o u)→H' b = some (.frz o u)) (tbls:∀ b ps,H b = some (.tbl ps)→∃ more,H' b = some (.tbl (ps ++ more)))
  (ns:∀ m,s.heap.Ns X.env.locals m→h'.Ns X.env.locals m) (hok:HOk X.prog X.w H' h') :
  Inv X pins σ H' { s with heap:=h',toks:=t' }:=by
 have neL:∀ b o,X.s₀.heap.get? b = some o→b≠X.env.locals:=fun b o e=>Nat.ne_of_lt (Nat.lt_of_lt_of_le (Heap.lt_size e) I.ok.above)
 have neC:∀ b o,X.s₀.heap.get? b = some o→b∉ch:=fun b o e hb=>by rw [(hch b hb).1] at e; cases e
 have cellK:∀ x c,X.env.cells.lookup x = some c→∀ v,s.heap.IsCell c v→h'.IsCell c v:=fun x c e v ⟨o,ho,hd⟩=>by
  have nch:c∉ch:=fun z=>(hch c z).2.2.1 x c e rfl
  by_cases hc:c∈X.fs
  ·obtain ⟨sl,q⟩:=slot c o (I.cne x c e) hc nch ho (I.freeC x c e)
   exact ⟨_,q,hd⟩
  ·exact ⟨o,keep c o (I.cne x c e) hc nch ho (I.freeC x c e),hd⟩
 refine ⟨I.ok,I.os,I.bare,⟨fun b o e n hb hx=>?_,fun b o e n hb hx=>?_,fun b o e n hx=>?_,fun b o e hx=>?_,fun b xs e=>tups b xs (I.base.tups b xs e),fun b o xs e=>frzs b o xs (I.base.frzs b o xs e),fun b ps e=>?_⟩,?_,fun x c e=>?_,?_,fun x c e=>?_,fun p hp=>?_,hok,I.len⟩
 ·exact keep b o (neL b o e) hb (neC b o e) (I.base.keep b o e n hb hx) (I.base.free b o e n hx)
 ·obtain ⟨sl,e1⟩:=I.base.slot b o e n hb hx
  obtain ⟨sl',e2⟩:=slot b _ (neL b o e) hb (neC b o e) e1 (I.base.free b o e n hx)
  exact ⟨sl',e2⟩
 ·obtain ⟨o',e1⟩:=I.base.there b o e hx
  exact free b o' (neC b o e) e1 (I.base.free b o e n hx)
 ·obtain ⟨o',e1⟩:=I.base.there b o e hx
  exact there b o' (neC b o e) e1
 ·obtain ⟨m1,e1⟩:=I.base.tbls b ps e
  obtain ⟨m2,e2⟩:=tbls b _ e1
  exact ⟨m1 ++ m2,by rw [e2,Array.append_assoc]⟩
 ·obtain ⟨m,hn,hl⟩:=I.loc
  refine ⟨m,ns m hn,fun i x v e1 e2 e3=>?_⟩
  obtain ⟨u,r,l⟩:=hl i x v e1 e2 e3
  refine ⟨u,r,?_⟩
  rcases l with l | ⟨k,c,e,z⟩
  ·exact .inl l
  ·exact .inr ⟨k,c,e,cellK x c e _ z⟩
 ·obtain ⟨v,z⟩:=I.cell x c e
  exact ⟨v,cellK x c e v z⟩
 ·obtain ⟨m,⟨o,_,_,ho,_⟩,_⟩:=I.loc
  exact free _ o (fun z=>(hch _ z).2.1 rfl) ho I.free
 ·obtain ⟨v,o,ho,hd⟩:=I.cell x c e
  exact free c o (fun z=>(hch c z).2.2.1 x c e rfl) ho (I.freeC x c e)
 ·obtain ⟨e,n,ne,nf,d⟩:=I.pin p hp
  have nch:p.1∉ch:=fun z=>(hch p.1 z).2.2.2 p hp rfl
  exact ⟨keep p.1 p.2 ne nf nch e n,free p.1 p.2 nch e n,ne,nf,d⟩
end
section
variable {X:Cx} {EX:EXT}
end
end L2
namespace L2
open PySem PySem.Spec PyProof.Rows PySem.W
end L2
namespace L2
open PySem PySem.Spec PyProof.Rows PySem.W
section
variable {X:Cx} {pins:List (Addr×Obj)} {σ:St} {H:Hp} {s:Shared}
end
end L2
namespace L2
open PySem PySem.Spec PyProof.Rows PySem.W
section
variable {X:Cx}
variable {K:Frag} {H:Hp} {Q:VK}
end
section
variable {K:Frag} {D:Ends} {σ:St} {H:Hp} {Q:VK} {EX:EXT}
end
end L2
namespace L2
open PySem PySem.Spec PyProof.Rows PySem.W
section
variable {K:Frag} {C D:Addr} {cd:ClassData}
end
end L2
namespace L2
open PySem PySem.Spec PyProof.Rows
section
variable {X:Cx}
theorem ps_setC {y:Str} {py spos:Pos} {k:Nat} {tg iter elt:Expr} {ifs:List Expr} {scope:Scope} {pos:Pos} {N:List Str} {ix:List (Option Nat)} {wi:TI} {g:TG} {tt:TT} {te:TE}
  (hN:X.N.Nodup) (hk0:X.N[k]? = some y) (hy:Loc X.env.scope y) (hc:X.calm = true) (hi:PI X tg iter wi)
  (hg:∀ pins C s H fp,PG (compCx X pins N scope C s H fp) tg g)
  (ht:∀ pins C s H fp,PTs (compCx X pins N scope C s H fp) ifs tt)
  (he:∀ pins C s H fp,PE (compCx X pins N scope C s H fp) elt te)
  (hk:scope.kind = .function) (hcell:∀ y∈scope.names,y.2≠.cell) (hnames:∀ y∈scope.names,y.2 = .local→scope.names.lookup y.1 = some .local)
  (hfr0:(scope.names.all fun y=>!(y.2 == NameKind.free) || (X.env.cells.lookup y.1).isSome) = true) (hix:IxOk X scope N ix)
  (hs:∀ x,foldedSetIterable iter X.env x = pure x:=by intro _; rfl)
  (hsw:swapsWith (.ListComp elt [⟨tg,iter,ifs,0⟩] scope pos) (some (.Name y py)) spos.line X.env = pure true:=by rfl)
  (hf:X.fn y = true∨X.env.scope.names.lookup y = some .local:=by first | exact .inl rfl | exact .inr rfl | assumption) :
  PS X (.Assign [.Name y py] (.ListComp elt [⟨tg,iter,ifs,0⟩] scope pos) spos) (tAsg (tComp ix wi g tt te) (gName k)):=by
 intro pins s σ H D I h
 replace h:wi σ H fun J H1=>CompGoal ix g tt te σ (fun x H1=>D.nx (σ.set k (some x)) H1) J H1:=h
 have hfr:∀ y∈scope.names,y.2 = .free→(X.env.cells.lookup y.1).isSome = true:=fun y hy e=>by
  have z:=List.all_eq_true.mp hfr0 y hy
  rw [e] at z
  simpa using z
 have hfr':∀ p∈scope.names,p.2 = .free→∃ c,X.env.cells.lookup p.1 = some c:=fun p hp e=>Option.isSome_iff_exists.mp (hfr p hp e)
 have clsub:∀ x c,(clOf X.env.cells scope.names []).lookup x = some c→X.env.cells.lookup x = some c:=clOf_sub (fun x c q=>by simp at q)
 have clhas:∀ x,scope.names.lookup x = some .free→∃ c,(clOf X.env.cells scope.names []).lookup x = some c:=fun x hx=>by
  have hm:=PySem.mem_of_lookup hx
  exact Option.isSome_iff_exists.mp (clOf_has (.inr ⟨hm,hfr _ hm rfl⟩))
 rw [exec_Assign_Name_used _ _ _ _ hsw]
 refine wpAny_bind (wpAny_standAt (wpAny_bind ?_))
 show wpAny _ X.A (do let _ ← comprehension (.ListComp elt [⟨tg,iter,ifs,0⟩] scope pos) scope X.env _ (newList []) false (eval iter X.env) (some (assign (.Name y py) X.env))) _ _ s
 refine wpAny_bind (wpAny_mono (wpAny_comprehension_free (use:=some (assign (.Name y py) X.env)) (Q:=fun _ s'=>SP X pins D .next s') rfl hs (closure_eq hfr') hk hnames (thn (hi pins s σ H _ I h) fun v s1 h1=>thn h1 fun itv s2 h2=>?_)) (fun _ s' hq=>wpAny_pure (wpAny_pure hq)) fun _ _ e=>e)
 obtain ⟨it,fp,tn,J,H2,e,I2,T,st2,f2,hW⟩:=h2
 subst e
 have hfree2:H2 s2.heap.objs.size = none:=I2.hok.fresh (Nat.le_refl _)
 obtain ⟨W,⟨m0,w0⟩,turn⟩:=hW s2.heap.objs.size hfree2
 refine wpAny_newObj_type ?_
 have I3:Inv X pins σ (upd H2 s2.heap.objs.size (.lst [])) { s2 with heap:=s2.heap.push { cls:=.type "list",data:=.seq ([]:List Value).toArray } }:=I2.lnew (its:=[]) (t':=s2.toks) .nil (Nat.zero_le _)
 have f3:∀ b∈fp,FpOk X pins (upd H2 s2.heap.objs.size (.lst [])) b:=fun b hb=>by
  refine ⟨?_,(f2 b hb).2⟩
  obtain ⟨o,eo,_⟩:=T.obj _ _ st2 b hb
  rw [upd_ne (Nat.ne_of_lt (Heap.lt_size eo))]
  exact (f2 b hb).1
 have st3:tn 0 (s2.heap.push { cls:=.type "list",data:=.seq ([]:List Value).toArray }):=T.keep _ _ _ st2 fun b _ o e=>Heap.get?_push_of_some _ e
 generalize hs3:({ s2 with heap:=s2.heap.push { cls:=.type "list",data:=.seq ([]:List Value).toArray } }:Shared) = s3 at I3
 have st3:tn 0 s3.heap:=by rw [← hs3]; exact st3
 generalize hH3:upd H2 s2.heap.objs.size (.lst []) = H3 at I3 f3 w0
 generalize hacc:s2.heap.objs.size = acc at *
 refine wpAny_newFunctionEnv hcell (by intro y hy; simp at hy) (fun h₁ hns₁ hsb₁=>?_) hk
 have old:∀ b o,s3.heap.get? b = some o→h₁.get? b = some o:=fun b o q=>hsb₁.extBut b o (Nat.ne_of_lt (Heap.lt_size q)) (Heap.get?_push_of_some _ q)
 have hCfree:H3 s3.heap.objs.size = none:=I3.hok.fresh (Nat.le_refl _)
 have fpl:∀ b∈fp,b < s3.heap.objs.size:=fun b hb=>by
  obtain ⟨o,eo,_⟩:=T.obj _ _ st3 b hb
  exact Heap.lt_size eo
 have nstk:∀ b,b≠X.env.locals→b∉X.fs→b∉frs X.stack:=fun b h1 h2 z=>by
  rcases List.mem_cons.mp (I3.stkSub b z) with q | q
  ·exact h1 q
  ·exact h2 q
 have clt:∀ x c,X.env.cells.lookup x = some c→c < s3.heap.objs.size:=fun x c q=>by
  obtain ⟨v,z⟩:=I3.cell x c q
  exact z.lt
 have YI:∀ (h':Heap) (m:Str→Option Value),(∀ b o,s3.heap.get? b = some o→h'.get? b = some o)→h'.Ns s3.heap.objs.size m →
   Inv (compCx X pins N scope s3.heap.objs.size s3 H3 fp) [] (pick ix σ) H3 { s3 with heap:=h',toks:=s3.toks + ([]:List (Str×Value)).length }:=by
  intro h' m hk' hn
  refine ⟨⟨I3.ok.mod,hk,I3.ok.glob,I3.ok.blt,Nat.le_refl _,fun x y c q1 q2=>I3.ok.inj x y c (clsub x c q1) (clsub y c q2),fun x hx=>clhas x (relabel_not_local hcell hx),fun x c hf _=>absurd hf Bool.false_ne_true,
   I3.ok.hd,I3.ok.frames,.inl rfl,fun b hb=>⟨Nat.ne_of_lt (fpl b hb),fun x c q=>(f3 b hb).2.2.2.2.1 x c (clsub x c q)⟩,I3.bs,Nat.le_trans I3.ok.bsz I3.sz,fun b o e hb=>?_,fun b hb=>nstk b (f3 b hb).2.1 (f3 b hb).2.2.1,I3.stack,I3.stkFree⟩,
   rfl,I3.bare,Un.kept hk',⟨m,hn,fun i x v h1 h2 h3=>?_⟩,fun x c q=>?_,hCfree,fun x c q=>I3.freeC x c (clsub x c q),fun p hp=>?_,I3.hok.kept hk',?_⟩
  ·have q:=(I3.bs b o e).2
   rcases (f3 b hb).2.2.2.1 with z | z
   ·exact I3.ok.noex b o e z
   ·exact absurd (Nat.lt_of_lt_of_le (Heap.lt_size e) (Nat.le_trans I3.ok.bsz z)) (Nat.lt_irrefl _)
  ·obtain ⟨j,e1,e2⟩:=pick_get h2
   obtain ⟨a1,a2,a3,a4⟩:=hix.get h1 e1
   obtain ⟨mX,hnX,hlX⟩:=I3.loc
   obtain ⟨u,ru,l⟩:=hlX j x v a1 e2 a2
   refine ⟨u,ru,?_⟩
   rcases l with ⟨l1,_⟩ | ⟨_,c,lc,z⟩
   ·have l1':X.env.scope.names.lookup x = some .local:=l1
    rw [l1'] at a3
    exact absurd a3 (by decide)
   ·obtain ⟨c',hc'⟩:=clhas x a4
    have ec:=clsub x c' hc'
    rw [lc] at ec
    have ec':c = c':=Option.some.inj ec
    subst ec'
    exact .inr ⟨relabel_free a4,c,hc',z.keeps hk'⟩
  ·obtain ⟨v,z⟩:=I3.cell x c (clsub x c q)
   exact ⟨v,z.keeps hk'⟩
  ·have hp':p∈X.pn ++ pins:=by simpa using hp
   obtain ⟨a1,a2,a3,a4,a5⟩:=I3.pin p hp'
   exact ⟨hk' _ _ a1,a2,Nat.ne_of_lt (Heap.lt_size a1),nstk p.1 a3 a4,a5⟩
  ·show (pick ix σ).length = N.length
   unfold pick
   rw [List.length_map]
   exact hix.len
 have fpY:∀ {pl:List (Addr×Obj)} {H':Hp},pl = []→(∀ b∈fp,H' b = none)→∀ b∈fp,FpOk (compCx X pins N scope s3.heap.objs.size s3 H3 fp) pl H' b:=fun {pl H'} epl hn b hb=>by
  obtain ⟨f0,f1,f2',f3',f4,f5⟩:=f3 b hb
  subst epl
  exact ⟨hn b hb,Nat.ne_of_lt (fpl b hb),nstk b f1 f2',.inl hb,fun x c q=>f4 x c (clsub x c q),fun p hp=>f5 p (by simpa using hp)⟩
 have loop:∀ s4:Shared,(∃ m,s4 = { s3 with heap:=h₁,toks:=s3.toks + ([]:List (Str×Value)).length }∧h₁.Ns s3.heap.objs.size m) →
   codeAny (model X.prog X.w) X.A (.compLoop (.ListComp elt [⟨tg,iter,ifs,0⟩] scope pos) 0 (.ref it) (.ref acc) (compEnvC scope (clOf X.env.cells scope.names []) s3.heap.objs.size X.env))
    (compPost (model X.prog X.w) X.A X.xe (some (assign (.Name y py) X.env)) (fun _ s'=>SP X pins D .next s') (.ref acc) s3.heap.objs.size) s4:=by
  rintro s4 ⟨m4,rfl,hn4⟩
  refine comp_loop (E:=fun _ _=>False) (fun _ _ z=>z.elim)
   (fun n s'=>∃ i σ' ys H',Inv (compCx X pins N scope s3.heap.objs.size s3 H3 fp) [] σ' H' s'∧tn i s'.heap∧(∀ b∈fp,H' b = none)∧W i n σ' ys H') ?_ m0
   ⟨0,pick ix σ,[],H3,YI h₁ m4 old hn4,T.keep _ _ _ st3 fun b _ o q=>old b o q,fun b hb=>(f3 b hb).1,w0⟩
  rintro n s5 ⟨i,σ5,ys,H5,I5,st5,fr5,w5⟩
  obtain ⟨hl5,hstep⟩:=turn i n σ5 ys H5 w5
  rcases hstep with ⟨stop,q⟩ | ⟨go,m',hm',step⟩
  ·refine thn (T.done (compCx X pins N scope s3.heap.objs.size s3 H3 fp) rfl rfl rfl hc i [] s5 σ5 H5 (fun _ _=>False) I5 (fpY rfl fr5) st5 stop) fun r s6 ⟨hr,I6⟩=>?_
   subst hr
   obtain ⟨m6,hn6,_⟩:=I6.loc
   have I6X:Inv X pins σ H5 s6:=I3.call' (ch:=fp) I6.os I6.base I6.hok I6.bare fun b hb=>by
    obtain ⟨f0,f1,f2',f3',f4,f5⟩:=f3 b hb
    exact ⟨f3',f1,f4,f5⟩
   have neL:X.env.locals≠s3.heap.objs.size:=fun z=>by
    obtain ⟨m,⟨o,_,_,ho,_⟩,_⟩:=I3.loc
    exact Nat.lt_irrefl _ (z ▸ Heap.lt_size ho)
   have neCl:∀ x c,X.env.cells.lookup x = some c→c≠s3.heap.objs.size:=fun x c e=>Nat.ne_of_lt (clt x c e)
   refine wpAny_assign_Name (store_ok2 (u:=.ref acc) (v:=.ref acc) I6X hN hk0 hy rfl (fun s7 I7 ⟨a7,sb7,ha7⟩=>?_) hf)
   have na7:s3.heap.objs.size≠a7:=by
    rcases ha7 with z | z
    ·exact fun w=>neL (z ▸ w.symm)
    ·exact fun w=>neCl _ _ z w.symm
   refine ⟨m6,hn6.sameBut sb7 na7,fun h' sb=>?_⟩
   refine ⟨σ.set k (some (.ref acc)),H5,Inv.step2 (ch:=[s3.heap.objs.size]) I7 (fun b hb=>?_) (fun b o _ _ nb e _=>(sb.2 b (fun z=>nb (by rw [z]; exact List.mem_singleton.mpr rfl))).trans e) (fun b o _ _ nb e _=>⟨o.slots,(sb.2 b (fun z=>nb (by rw [z]; exact List.mem_singleton.mpr rfl))).trans e⟩)
    (fun _ _ _ _ e=>e) (fun b o nb e=>⟨o,(sb.2 b (fun z=>nb (by rw [z]; exact List.mem_singleton.mpr rfl))).trans e⟩) (fun _ _ e=>e) (fun _ _ _ e=>e) (fun b ps e=>⟨#[],by simpa using e⟩) (fun m hm=>hm.sameBut sb neL) (I7.hok.letGo I6.free sb),q⟩
   have eb:b = s3.heap.objs.size:=List.mem_singleton.mp hb
   subst eb
   refine ⟨?_,Ne.symm neL,neCl,fun p hp=>Nat.ne_of_lt (Heap.lt_size (I3.pin p hp).1)⟩
   cases q9:X.s₀.heap.get? s3.heap.objs.size with
   | none=>rfl
   | some o=>exact absurd (Nat.lt_of_lt_of_le (Heap.lt_size q9) I3.sz) (Nat.lt_irrefl _)
  ·refine thn (T.item (compCx X pins N scope s3.heap.objs.size s3 H3 fp) rfl rfl rfl hc i [] s5 σ5 H5 (fun _ _=>False) I5 (fpY rfl fr5) st5 go) fun r s6 ⟨u,hr,h6⟩=>?_
   subst hr
   refine thn h6 fun _ s7 ⟨x,H7,I7,r7,y7,st7,fr7⟩=>?_
   have I7':=I7.pinned (fpY rfl fr7) (T.obj _ _ st7)
   refine thn (hg pins s3.heap.objs.size s3 H3 fp _ s7 σ5 H7 x u _ I7' r7 (step x H7 y7)) fun _ s8 ⟨σ8,H8,I8,q8⟩=>?_
   refine thn (wp_tests (ht pins s3.heap.objs.size s3 H3 fp) I8 q8) fun b s9 ⟨H9,I9,q9⟩=>?_
   have back:∀ {σz:St} {Hz:Hp} {sz:Shared} {yz:List V},Inv (compCx X pins N scope s3.heap.objs.size s3 H3 fp) ([] ++ pinsAt fp s7.heap) σz Hz sz→W (i + 1) m' σz yz Hz →
     ∃ m,m < n∧∃ i σ' ys H',Inv (compCx X pins N scope s3.heap.objs.size s3 H3 fp) [] σ' H' sz∧tn i sz.heap∧(∀ b∈fp,H' b = none)∧W i m σ' ys H':=fun {σz Hz sz yz} Iz wz=>by
    refine ⟨m',hm',i + 1,σz,yz,Hz,Iz.unpinned,T.keep _ _ _ st7 fun b hb o e=>(Iz.pin (b,o) (List.mem_append_right _ (List.mem_append_right _ (mem_pinsAt hb e)))).1,fun b hb=>?_,wz⟩
    obtain ⟨o,e,d⟩:=T.obj _ _ st7 b hb
    exact (Iz.pin (b,o) (List.mem_append_right _ (List.mem_append_right _ (mem_pinsAt hb e)))).2.1
   cases b with
   | false=>exact back I9 q9
   | true =>
    refine thn (he pins s3.heap.objs.size s3 H3 fp _ s9 σ8 H9 _ I9 q9) fun v s10 ⟨y,H10,I10,r10,hl10,hz10,w10⟩=>?_
    refine thn (mt_append _ s10 σ8 H10 (.ref acc) [y] (.ref acc) [v] (fun _ H'=>H' = upd H10 acc (.lst (ys ++ [y]))) I10 rfl (.cons r10 .nil) ⟨acc,ys,y,rfl,rfl,hl10,hz10,rfl⟩) fun _ s11 ⟨_,H11,I11,_,e11⟩=>?_
    subst e11
    exact back I11 w10
 have hn4:∃ m,h₁.Ns s3.heap.objs.size m:=⟨_,hns₁⟩
 obtain ⟨m4,hn4⟩:=hn4
 have L:=loop _ ⟨m4,rfl,hn4⟩
 exact codeAny_compStart_list L (T.self _ 0 _ _ _ (T.keep _ _ _ st3 fun b _ o q=>old b o q) L)
end
end L2
namespace L2
open PySem PySem.Spec PyProof.Rows
section
variable {K:PySem.W.Frag} {H:Hp} {Q:VK} {D:Ends} {σ:St}
theorem join {t:TS} {u:St→Hp→Prop} (P:St→Hp→Prop) (h1:∀ nx:St→Hp→Prop,(∀ σ' H',P σ' H'→nx σ' H')→t { D with nx:=nx } σ H) (h2:∀ σ' H',P σ' H'→u σ' H'):t { D with nx:=u } σ H:=h1 u h2
end
end L2
namespace L2
open PySem PySem.Spec PyProof.Rows
def rAll (K:PySem.W.Frag):List V→Hp→VK→Prop:=fun xs H Q=>∃ (a:Addr) (bs:List Bool),xs = [.ref a]∧SqL K H a (bs.map V.bl)∧Q (.bl (bs.all id)) H
theorem range_allB (bs:List Bool):((List.range bs.length).all fun i=>(bs[i]?).getD true) = bs.all id:=by
 rw [Bool.eq_iff_iff,List.all_eq_true,List.all_eq_true]
 constructor
 ·intro h b hb
  obtain ⟨i,hi,rfl⟩:=List.getElem_of_mem hb
  have:=h i (List.mem_range.mpr hi)
  simpa [List.getElem?_eq_getElem hi] using this
 ·intro h i hi
  have hi':=List.mem_range.mp hi
  simpa [List.getElem?_eq_getElem hi'] using h _ (List.getElem_mem hi')
section
variable {X:Cx}
theorem call_allB (hc:X.calm = true):CallR X (.builtin "all") (rAll X.K):=by
 intro pins s σ H xs us Q I r h
 obtain ⟨a,bs,rfl,hs,q⟩:=h
 obtain ⟨u,rfl,ru⟩:=vals1 r
 cases ru
 obtain ⟨its,rv,p,_⟩:=I.list hs
 have hl:s.heap.IsList a its.toArray:=by
  obtain ⟨o,n,h1,h2,h3⟩:=p
  exact ⟨o,h1,h2,n,h3.2⟩
 have hlt:a < s.heap.objs.size:=by obtain ⟨_,e,_⟩:=hl; exact Heap.lt_size e
 have hh:X.A.handled = none:=I.ok.hd hc
 refine call_all_walk (wpAny_pyIter_list hl ?_)
 refine ⟨s.heap.objs.size,[s.heap.objs.size,a],[s.heap.objs.size],its.toArray.size,_,_,fun i=>(bs[i]?).getD true,rfl,Walks.list (A:=X.A.in1) hh _ a (Nat.ne_of_lt hlt) its.toArray,
  ⟨⟨_,Heap.get?_push_size _ rfl,rfl,rfl⟩,hl.push _⟩,fun i v s' Q' E' hP hQ=>?_,fun h' tk hk=>?_⟩
 ·have hP':its[i]? = some v:=by simpa using hP
  have hi:i < its.length:=(List.getElem?_eq_some_iff.mp hP').1
  have hb:i < bs.length:=by have:=rv.length; simp at this; omega
  obtain ⟨u1,e1,r1⟩:=rv.get (i:=i) (x:=.bl bs[i]) (by simp [hb])
  rw [hP'] at e1
  cases e1
  cases r1
  simp only [List.getElem?_eq_getElem hb,Option.getD_some] at hQ
  exact wpAny_truthy_bool hQ
 ·have e:((List.range its.toArray.size).all fun i=>(bs[i]?).getD true) = bs.all id:=by
   have:=rv.length
   simp at this
   rw [List.size_toArray,← this]; exact range_allB bs
  rw [e]
  exact ⟨.bl (bs.all id),H,I.kept (t':=tk) (fun b x e=>hk b x (fun hm=>by rw [List.mem_singleton.mp hm] at e; exact Nat.lt_irrefl _ (Heap.lt_size e)) (Heap.get?_push_of_some _ e)),rfl,q⟩
theorem kN_all (K:PySem.W.Frag) (hK:X.K = K) (hc:X.calm = true):CallR X (.builtin "all") (rAll K):=hK ▸ call_allB hc
end
section
variable {K:PySem.W.Frag} {H:Hp} {Q:VK} {σ:St}
theorem r_all {a:Addr} {bs:List Bool} (e:SqL K H a (bs.map V.bl)) (h:Q (.bl (bs.all id)) H):rAll K [.ref a] H Q:=⟨a,bs,rfl,e,h⟩
end
end L2
namespace L2
open PySem PySem.Spec PyProof.Rows
section
variable {X:Cx} {pins:List (Addr×Obj)} {σ:St} {H:Hp} {s:Shared}
end
end L2
namespace L2
open PySem PySem.Spec PyProof.Rows
section
variable {X:Cx} {pins:List (Addr×Obj)} {σ:St} {H:Hp} {s:Shared}
end
end L2
namespace L2
open PySem PySem.Spec PyProof.Rows
section
variable {X:Cx} {pins:List (Addr×Obj)} {σ:St} {H:Hp} {s:Shared}
def others (h:Heap) (L k a:Addr):List (Addr×Obj):=(List.range h.objs.size).filterMap fun b=>if b = L∨b = k∨b = a then none else (h.get? b).map fun o=>(b,o)
end
end L2
namespace L2
open PySem PySem.Spec PyProof.Rows
section
variable {X:Cx} {pins:List (Addr×Obj)} {σ:St} {H:Hp} {s:Shared}
end
end L2
namespace L2
open PySem PySem.Spec PyProof.Rows
section
variable {X:Cx} {k:Nat} {y:Str} {ps:List Str} {sp:Sp} {p py kpos pos:Pos} {e:Expr} {t:TE}
variable {K:PySem.W.Frag}
end
section
variable {K:PySem.W.Frag} {H:Hp} {Q:VK} {σ:St} {sp:Sp}
end
end L2
namespace L2
open PySem PySem.Spec PyProof.Rows
mutual
inductive Tell (K:PySem.W.Frag) (H:Hp):V→PyData→Prop where
 | non:Tell K H .non .none
 | bl (b:Bool):Tell K H (.bl b) (.bool b)
 | int (i:Int):Tell K H (.int i) (.int i)
 | str (x:Str):Tell K H (.str x) (.str x)
 | tup {a:Addr} {xs:List V} {ds:List PyData} (h:SqT K H a xs) (t:Tells K H xs ds):Tell K H (.ref a) (.tuple ds)
 | lst {a:Addr} {xs:List V} {ds:List PyData} (h:SqL K H a xs) (t:Tells K H xs ds):Tell K H (.ref a) (.list ds)
inductive Tells (K:PySem.W.Frag) (H:Hp):List V→List PyData→Prop where
 | nil:Tells K H [] []
 | cons {x:V} {d:PyData} {xs:List V} {ds:List PyData} (h:Tell K H x d) (t:Tells K H xs ds):Tells K H (x :: xs) (d :: ds)
end
section
variable {X:Cx} {pins:List (Addr×Obj)} {σ:St} {H:Hp} {s:Shared}
mutual
theorem Tell.reads (I:Inv X pins σ H s):∀ {v:V} {d:PyData} {u:Value},Tell X.K H v d→RelV v u→∃ as,Reads s.heap u d as
 | _,_,u,.non,r=>by cases (show u = Value.none from r); exact ⟨_,.none⟩
 | _,_,u,.bl b,r=>by cases (show u = Value.bool b from r); exact ⟨_,.bool b⟩
 | _,_,u,.int i,r=>by
  obtain ⟨t,q⟩:=(show ∃ t,u = Value.int i t from r)
  cases q
  exact ⟨_,.int i t⟩
 | _,_,u,.str x,r=>by
  obtain ⟨t,q⟩:=(show ∃ t,u = Value.str x t from r)
  cases q
  exact ⟨_,.str x t⟩
 | _,_,u,.tup (a:=a) h t,r=>by
  cases (show u = Value.ref a from r)
  obtain ⟨its,rv,p,_⟩:=I.tuple h
  obtain ⟨o,h1,h2,n,h3⟩:=p
  obtain ⟨as,ra⟩:=Tells.reads I t rv
  exact ⟨_,reads_tuple_at h1 h2 h3 (by simpa using ra)⟩
 | _,_,u,.lst (a:=a) h t,r=>by
  cases (show u = Value.ref a from r)
  obtain ⟨its,rv,p,_⟩:=I.list h
  obtain ⟨o,n,h1,h2,h3⟩:=p
  obtain ⟨as,ra⟩:=Tells.reads I t rv
  exact ⟨_,reads_list_at h1 h2 h3.2 (by simpa using ra)⟩
theorem Tells.reads (I:Inv X pins σ H s):∀ {vs:List V} {ds:List PyData} {us:List Value},Tells X.K H vs ds→Vals vs us→∃ as,ReadsAll s.heap us ds as
 | _,_,_,.nil,.nil=>⟨_,.nil⟩
 | _,_,_,.cons h t,.cons r rs=>by
  obtain ⟨as,ra⟩:=Tell.reads I h r
  obtain ⟨bs,rb⟩:=Tells.reads I t rs
  exact ⟨_,.cons ra rb⟩
end
def rEqD (K:PySem.W.Frag) (neg:Bool):R2:=fun x y H Q=>∃ d e,Tell K H x d∧Tell K H y e∧SeqAt.shaped d = true∧SeqAt.shaped e = true∧Q (.bl (if neg then !PyData.eqv d e else PyData.eqv d e)) H
theorem op_eqD (hu:X.A.units + 64 < cLine):OpR X (compareOp .Eq) (rEqD X.K false):=by
 intro pins s σ H x y v u Q I rx ry h
 obtain ⟨d,e,hd,he,sd,se,q⟩:=h
 obtain ⟨as,ra⟩:=hd.reads I rx
 obtain ⟨bs,rb⟩:=he.reads I ry
 exact eq_dataH ra rb sd se hu ⟨.bl (PyData.eqv d e),H,I,rfl,q⟩
theorem op_neD (hu:X.A.units + 64 < cLine):OpR X (compareOp .NotEq) (rEqD X.K true):=by
 intro pins s σ H x y v u Q I rx ry h
 obtain ⟨d,e,hd,he,sd,se,q⟩:=h
 obtain ⟨as,ra⟩:=hd.reads I rx
 obtain ⟨bs,rb⟩:=he.reads I ry
 exact ne_dataH ra rb sd se hu ⟨.bl (!PyData.eqv d e),H,I,rfl,q⟩
variable {K:PySem.W.Frag}
theorem kop_eqD (K:PySem.W.Frag) (hK:X.K = K) (hu:X.A.units + 64 < cLine):OpR X (compareOp .Eq) (rEqD K false):=hK ▸ op_eqD hu
theorem kop_neD (K:PySem.W.Frag) (hK:X.K = K) (hu:X.A.units + 64 < cLine):OpR X (compareOp .NotEq) (rEqD K true):=hK ▸ op_neD hu
end
section
variable {K:PySem.W.Frag} {H:Hp} {Q:VK}
theorem r_eqD {x y:V} {d e:PyData} (hd:Tell K H x d) (he:Tell K H y e) (sd:SeqAt.shaped d = true) (se:SeqAt.shaped e = true) (h:Q (.bl (PyData.eqv d e)) H):rEqD K false x y H Q:=⟨d,e,hd,he,sd,se,h⟩
theorem r_neD {x y:V} {d e:PyData} (hd:Tell K H x d) (he:Tell K H y e) (sd:SeqAt.shaped d = true) (se:SeqAt.shaped e = true) (h:Q (.bl (!PyData.eqv d e)) H):rEqD K true x y H Q:=⟨d,e,hd,he,sd,se,h⟩
def Rows (K:PySem.W.Frag) (H:Hp) (xs:List V) (rs:List (List Int)):Prop:=Tells K H xs (rs.map fun r=>.tuple (r.map PyData.int))
theorem Tells.ints:∀ (r:List Int),Tells K H (r.map V.int) (r.map PyData.int)
 | []=>.nil
 | i :: r=>.cons (.int i) (Tells.ints r)
theorem Tell.row {a:Addr} {r:List Int} (h:SqT K H a (r.map V.int)):Tell K H (.ref a) (.tuple (r.map PyData.int)):=.tup h (Tells.ints r)
end
end L2
namespace L2
open PySem PySem.Spec PyProof.Rows
section
variable {K:PySem.W.Frag} {g:TG} {D:Ends} {σ:St} {H:Hp}
theorem f_inv {J:It} {tb:TS} (n:Nat) (Pv:Nat→St→Hp→Prop) (h0:Pv 0 σ H) (hgo:∀ i σ H2,i < n→Pv i σ H2→J.go i H2) (hstop:∀ σ H2,Pv n σ H2→J.stop n H2)
  (hs:∀ i x σ H2 H3,i < n→Pv i σ H2→J.yld i H2 x H3→g x σ H3 fun σ2 H4=>tb { D with nx:=Pv (i + 1),ct:=Pv (i + 1),bk:=D.nx } σ2 H4) (hd:∀ σ H2,Pv n σ H2→D.nx σ H2):ForGoal g tb D J σ H:=by
 refine ⟨fun i m σ2 H2=>m = n - i∧i≤n∧Pv i σ2 H2,⟨n,by simp,Nat.zero_le _,h0⟩,?_⟩
 rintro i m σ2 H2 ⟨rfl,hi,p⟩
 by_cases hlt:i < n
 ·exact .inr ⟨hgo i σ2 H2 hlt p,Pv (i + 1),fun σ' H' p'=>⟨n - (i + 1),by omega,rfl,hlt,p'⟩,fun x H' y=>hs i x σ2 H2 H' hlt p y⟩
 ·have e:i = n:=by omega
  subst e
  exact .inl ⟨hstop σ2 H2 p,hd σ2 H2 p⟩
theorem f_invR {lo:Int} {n:Nat} {tb:TS} (Pv:Nat→St→Hp→Prop) (h0:Pv 0 σ H) (hs:∀ i σ H2,i < n→Pv i σ H2→g (.int (lo + i)) σ H2 fun σ2 H4=>tb { D with nx:=Pv (i + 1),ct:=Pv (i + 1),bk:=D.nx } σ2 H4) (hd:∀ σ H2,Pv n σ H2→D.nx σ H2):ForGoal g tb D (Itr lo n) σ H:=by
 refine f_inv n Pv h0 (fun i σ H2 hi _=>hi) (fun σ H2 _=>Nat.le_refl _) (fun i x σ H2 H3 hi p y=>?_) hd
 obtain ⟨rfl,rfl⟩:=y
 exact hs i σ _ hi p
theorem f_invL {a:Addr} {xs:List V} {tb:TS} (Pv:Nat→St→Hp→Prop) (h0:Pv 0 σ H) (ha:∀ i σ H2,Pv i σ H2→SqL K H2 a xs) (hs:∀ i x σ H2,xs[i]? = some x→Pv i σ H2→g x σ H2 fun σ2 H4=>tb { D with nx:=Pv (i + 1),ct:=Pv (i + 1),bk:=D.nx } σ2 H4) (hd:∀ σ H2,Pv xs.length σ H2→D.nx σ H2):ForGoal g tb D (Itl K a) σ H:=by
 refine f_inv xs.length Pv h0 (fun i σ H2 hi p=>⟨xs,xs[i],ha i σ H2 p,List.getElem?_eq_getElem hi⟩) (fun σ H2 p=>⟨xs,ha _ σ H2 p,Nat.le_refl _⟩) (fun i x σ H2 H3 hi p y=>?_) hd
 obtain ⟨rfl,e⟩:=y
 exact hs i x σ _ (e xs (ha i σ _ p)) p
end
end L2
namespace L2
open PySem PySem.Spec PyProof.Rows
def rMaxL (K:PySem.W.Frag):List V→Hp→VK→Prop:=fun xs H Q=>∃ (a:Addr) (ns:List Int),xs = [.ref a]∧SqL K H a (ns.map V.int)∧ns≠[]∧∀ m,m∈ns→(∀ x∈ns,x≤m)→Q (.int m) H
section
variable {X:Cx}
theorem call_maxL (hc:X.calm = true):CallR X (.builtin "max") (rMaxL X.K):=by
 intro pins s σ H xs us Q I r h
 obtain ⟨a,ns,rfl,hs,hne,q⟩:=h
 obtain ⟨u,rfl,ru⟩:=vals1 r
 cases ru
 obtain ⟨its,rv,p,_⟩:=I.list hs
 have hl:s.heap.IsList a its.toArray:=by
  obtain ⟨o,n,h1,h2,h3⟩:=p
  exact ⟨o,h1,h2,n,h3.2⟩
 have hh:X.A.handled = none:=I.ok.hd hc
 have hi:IntsAre its ns:=intsAre_of rv
 obtain ⟨zs,hx⟩:=hi.allInts.items
 have hn:numsOf its.toArray.toList = ns:=by rw [show its.toArray.toList = its from rfl,hi.numsOf]
 rw [hx] at hl hn
 rw [nums_intItems] at hn
 have hsz:0 < zs.size:=by
  rcases Nat.eq_zero_or_pos zs.size with z | z
  ·exfalso; apply hne; rw [← hn]; apply List.eq_nil_of_length_eq_zero; rw [List.length_map,Array.length_toList,z]
  ·exact z
 refine max_intList hh hl hsz fun v h' tk hv hk=>?_
 obtain ⟨t,rfl⟩:=intItems_at hv
 obtain ⟨h1,h2⟩:=argBest_gt (numAt zs) (zs.size - 1)
 refine ⟨.int _,H,I.kept (t':=tk) hk,⟨t,rfl⟩,q _ ?_ fun b hb=>?_⟩
 ·rw [← hn,numAt_eq]; exact getD_mem (by rw [List.length_map,Array.length_toList]; omega)
 ·rw [← hn] at hb
  obtain ⟨j,hj,rfl⟩:=mem_getD hb
  rw [List.length_map,Array.length_toList] at hj
  rw [← numAt_eq]; exact h2 j (by omega)
theorem kN_maxL (K:PySem.W.Frag) (hK:X.K = K) (hc:X.calm = true):CallR X (.builtin "max") (rMaxL K):=hK ▸ call_maxL hc
end
section
variable {K:PySem.W.Frag} {H:Hp} {Q:VK} {σ:St} {ix:List (Option Nat)}
theorem r_maxL {a:Addr} {ns:List Int} (e:SqL K H a (ns.map V.int)) (n:ns≠[]) (h:∀ m,m∈ns→(∀ x∈ns,x≤m)→Q (.int m) H):rMaxL K [.ref a] H Q:=⟨a,ns,rfl,e,n,h⟩
end
end L2
namespace L2
open PySem
section
variable {prog:Program} {w:World} {A:Around} {E:Value→Shared→Prop} {s:Shared}
end
end L2
namespace L2
open PySem
open AutoSeq1 (wpAny_loadPart')
end L2
namespace L2
open PySem PySem.Spec PyProof.Rows
section
variable {X:Cx}
end
section
variable {K:PySem.W.Frag} {H:Hp} {σ:St} {D:Ends}
end
end L2
namespace L2
open PySem PySem.Spec PyProof.Rows
inductive RowsL (K:PySem.W.Frag) (H:Hp):List V→List (List Int)→Prop where
 | nil:RowsL K H [] []
 | cons {a:Addr} {r:List Int} {xs:List V} {rs:List (List Int)} (h:SqT K H a (r.map V.int)) (t:RowsL K H xs rs):RowsL K H (.ref a :: xs) (r :: rs)
namespace RowsL
variable {K:PySem.W.Frag} {H H':Hp}
theorem length:∀ {xs:List V} {rs:List (List Int)},RowsL K H xs rs→rs.length = xs.length
 | _,_,.nil=>rfl
 | _,_,.cons _ t=>by rw [List.length_cons,List.length_cons,t.length]
theorem get:∀ {xs:List V} {rs:List (List Int)} {i:Nat} {x:V},RowsL K H xs rs→xs[i]? = some x→∃ a r,x = .ref a∧SqT K H a (r.map V.int)∧rs[i]? = some r
 | _,_,_,_,.nil,h=>by simp at h
 | _,_,0,_,.cons (a:=a) (r:=r) h _,e=>by
  simp at e
  exact ⟨a,r,e.symm,h,rfl⟩
 | _,_,i + 1,_,.cons _ t,e=>by
  obtain ⟨a,r,h1,h2,h3⟩:=get (i:=i) t (by simpa using e)
  exact ⟨a,r,h1,h2,by simpa using h3⟩
theorem row:∀ {xs:List V} {rs:List (List Int)} {i:Nat} {r:List Int},RowsL K H xs rs→rs[i]? = some r→∃ a,xs[i]? = some (.ref a)∧SqT K H a (r.map V.int)
 | _,_,_,_,.nil,h=>by simp at h
 | _,_,0,_,.cons (a:=a) (r:=r) h _,e=>by
  simp at e
  subst e
  exact ⟨a,rfl,h⟩
 | _,_,i + 1,_,.cons _ t,e=>by
  obtain ⟨a,h1,h2⟩:=row (i:=i) t (by simpa using e)
  exact ⟨a,by simpa using h1,h2⟩
theorem same:∀ {xs:List V} {rs:List (List Int)},RowsL K H xs rs→Same H H'→RowsL K H' xs rs
 | _,_,.nil,_=>.nil
 | _,_,.cons h t,s=>.cons (s.at h) (t.same s)
theorem append:∀ {xs ys:List V} {rs qs:List (List Int)},RowsL K H xs rs→RowsL K H ys qs→RowsL K H (xs ++ ys) (rs ++ qs)
 | _,_,_,_,.nil,u=>u
 | _,_,_,_,.cons h t,u=>.cons h (t.append u)
theorem snoc {xs:List V} {rs:List (List Int)} {a:Addr} {r:List Int} (t:RowsL K H xs rs) (h:SqT K H a (r.map V.int)):RowsL K H (xs ++ [.ref a]) (rs ++ [r]):=t.append (.cons h .nil)
theorem off {l:Addr} {ys zs:List V}:∀ {xs:List V} {rs:List (List Int)},RowsL K H xs rs→H l = some (.lst ys)→RowsL K (upd H l (.lst zs)) xs rs
 | _,_,.nil,_=>.nil
 | _,_,.cons h t,e=>.cons ((rm_sqT h e).imp (fun q=>q.imp (fun q=>by rw [upd_ne (fun z=>by rw [z,rm_at] at q; cases q)]; exact rm_same _ _ q) fun ⟨o,q⟩=>⟨o,by rw [upd_ne (fun z=>by rw [z,rm_at] at q; cases q)]; exact rm_same _ _ q⟩) id) (t.off e)
theorem take:∀ {xs:List V} {rs:List (List Int)} (n:Nat),RowsL K H xs rs→RowsL K H (xs.take n) (rs.take n)
 | _,_,0,_=>.nil
 | _,_,_ + 1,.nil=>.nil
 | _,_,n + 1,.cons h t=>.cons h (t.take n)
theorem drop:∀ {xs:List V} {rs:List (List Int)} (n:Nat),RowsL K H xs rs→RowsL K H (xs.drop n) (rs.drop n)
 | _,_,0,t=>t
 | _,_,_ + 1,.nil=>.nil
 | _,_,n + 1,.cons _ t=>t.drop n
theorem tells:∀ {xs:List V} {rs:List (List Int)},RowsL K H xs rs→Tells K H xs (rs.map fun r=>.tuple (r.map PyData.int))
 | _,_,.nil=>.nil
 | _,_,.cons h t=>.cons (Tell.row h) t.tells
end RowsL
theorem upd_sqT {K:PySem.W.Frag} {H:Hp} {l a:Addr} {xs ys zs:List V} (h:SqT K H a xs) (e:H l = some (.lst ys)):SqT K (upd H l (.lst zs)) a xs :=
 (rm_sqT h e).imp (fun q=>q.imp (fun q=>by rw [upd_ne (fun z=>by rw [z,rm_at] at q; cases q)]; exact rm_same _ _ q) fun ⟨o,q⟩=>⟨o,by rw [upd_ne (fun z=>by rw [z,rm_at] at q; cases q)]; exact rm_same _ _ q⟩) id
section
variable {K:PySem.W.Frag} {H:Hp} {σ:St} {Q:VK} {ix:List (Option Nat)}
theorem comp_rows {J:It} {g:TG} {tt:TT} {te:TE} (t:Nat) (fr:St) (n:Nat) (rs:Nat→List (List Int)) (hpk:pick ix σ = List.replicate t none ++ fr) (h0:rs 0 = []) (hn:∀ i,(rs i).length≤1000)
  (hstop:∀ H',Same H H'→J.stop n H') (hgo:∀ i H',i < n→Same H H'→J.go i H')
  (step:∀ i x H' H2 own,own.length = t→i < n→Same H H'→J.yld i H' x H2→∀ (Qy:St→VK) (Qn:St→Hp→Prop),
   (∀ own2 a r H5,own2.length = t→Same H' H5→SqT K H5 a (r.map V.int)→rs (i + 1) = rs i ++ [r]→Qy (own2 ++ fr) (.ref a) H5)→(∀ own2 H4,own2.length = t→Same H' H4→rs (i + 1) = rs i→Qn (own2 ++ fr) H4) →
   g x (own ++ fr) H2 fun σ2 H3=>tt σ2 H3 fun b H4=>if b = true then te σ2 H4 (Qy σ2) else Qn σ2 H4)
  (hQ:∀ l H' ys,H l = none→Same H H'→H' l = some (.lst ys)→RowsL K H' ys (rs n)→Q (.ref l) H'):CompGoal ix g tt te σ Q J H:=by
 intro l hl
 refine ⟨fun i m σ1 ys H'=>m = n - i∧i≤n∧(∃ own:St,own.length = t∧σ1 = own ++ fr)∧Same H H'∧H' l = some (.lst ys)∧RowsL K H' ys (rs i),⟨n,by simp,Nat.zero_le _,⟨_,List.length_replicate,hpk⟩,Same.upd_new hl,upd_same,by rw [h0]; exact .nil⟩,?_⟩
 rintro i m σ1 ys H' ⟨rfl,hi,⟨own,ho,rfl⟩,hs,hl',hr⟩
 refine ⟨hl',?_⟩
 by_cases hlt:i < n
 ·refine .inr ⟨hgo i H' hlt hs,n - (i + 1),by omega,fun x H2 hy=>step i x H' H2 own ho hlt hs hy _ _ (fun own2 a r H5 ho2 s5 ha er=>?_) fun own2 H4 ho2 s4 er=>?_⟩
  ·have l5:=s5 _ _ hl'
   refine ⟨l5,Nat.lt_of_le_of_lt (by rw [← hr.length]; exact hn i) (small1000 (Nat.le_refl 1000)),rfl,hlt,⟨own2,ho2,rfl⟩,fun b o e=>?_,upd_same,?_⟩
   ·rw [upd_ne (ne_of_none e hl)]
    exact s5 _ _ (hs _ _ e)
   ·rw [er]
    exact ((hr.same s5).off l5).snoc (upd_sqT ha l5)
  ·exact ⟨rfl,hlt,⟨own2,ho2,rfl⟩,hs.trans s4,s4 _ _ hl',by rw [er]; exact hr.same s4⟩
 ·obtain rfl:i = n:=by omega
  exact .inl ⟨hstop H' hs,hQ l H' ys hl hs hl' hr⟩
end
end L2
namespace L2
open PySem PySem.Spec PyProof.Rows
section
variable {K:PySem.W.Frag} {H:Hp} {σ:St} {Q:VK} {ix:List (Option Nat)}
end
end L2
namespace L2
open PySem PySem.Spec PyProof.Rows PySem.W
section
variable {M:Model} {A:Around} {E:Value→Shared→Prop} {s:Shared}
end
def ExcM (h:Heap) (H:Hp) (h0:Heap) (ps:List (Addr×Obj)) (L a C:Addr):Prop:=∃ oe vs T oT ts,h.get? a = some oe∧oe.cls = .ref C∧oe.dict = none∧oe.data = .fields vs∧1 < vs.size∧vs[1]? = some (.ref T)∧T≠a∧h.get? T = some oT∧oT.data = .fields ts∧ts[3]? = some (rawInt L) ∧
 H a = none∧(h0.get? a = none∧∀ p∈ps,p.1≠a)∧H T = none∧h0.get? T = none∧∀ p∈ps,p.1≠T
def XM (X:Cx) (EX:EXT):Value→Shared→Prop:=fun e s'=>∃ a C σ' H',e = .ref a∧Inv X.nox [] σ' H' s'∧ExcM s'.heap H' X.s₀.heap X.pn X.env.locals a C∧EX C σ' H'
def XP (X:Cx) (EX:EXT):Value→Shared→Prop:=fun e s'=>XW X EX e s'∨XM X EX e s'
section
variable {X:Cx} {EX:EXT} {σ:St} {H:Hp} {s:Shared}
end
section
variable {P:Program} {w:World} {K:PySem.W.Frag} {mg:Str→Option Value} {base:Heap}
end
end L2
set_option maxRecDepth 100000
namespace L2
open PySem PySem.Spec PyProof.Rows
def rInD (K:PySem.W.Frag) (neg:Bool):R2:=fun x y H Q=>∃ (p:Addr) (ys:List V) (d:PyData) (ds:List PyData),y = .ref p∧SqL K H p ys∧Tells K H ys ds∧Tell K H x d∧PyData.canLayAll0 ds = true∧d.canLay0 = true∧d.depth≤60∧Q (.bl (if neg then !ds.any fun z=>PyData.eqv z d else ds.any fun z=>PyData.eqv z d)) H
def rInsert:V→List V→Hp→VK→Prop:=fun x vs H Q=>∃ (l:Addr) (xs:List V) (i:Nat) (y:V),x = .ref l∧vs = [.int i,y]∧H l = some (.lst xs)∧xs.length≤1000∧i≤1000∧Q .non (upd H l (.lst (xs.take i ++ y :: xs.drop i)))
section
variable {X:Cx}
theorem op_inD (hu:X.A.units + 64 < cLine):OpR X (compareOp .In) (rInD X.K false):=by
 intro pins s σ H x y v u Q I rx ry h
 obtain ⟨p,ys,d,ds,rfl,hs,ht,hd,c1,c2,hz,q⟩:=h
 obtain ⟨as,ra⟩:=(Tell.lst hs ht).reads I ry
 obtain ⟨bs,rb⟩:=hd.reads I rx
 exact SeqAt.in_list_reads ra rb c1 c2 (by have:=Nat.min_le_right (PyData.depthAll ds) d.depth; omega) ⟨.bl _,H,I,rfl,q⟩
theorem op_notInD (hu:X.A.units + 64 < cLine):OpR X (compareOp .NotIn) (rInD X.K true):=by
 intro pins s σ H x y v u Q I rx ry h
 obtain ⟨p,ys,d,ds,rfl,hs,ht,hd,c1,c2,hz,q⟩:=h
 obtain ⟨as,ra⟩:=(Tell.lst hs ht).reads I ry
 obtain ⟨bs,rb⟩:=hd.reads I rx
 exact SeqAt.notIn_list_reads ra rb c1 c2 (by have:=Nat.min_le_right (PyData.depthAll ds) d.depth; omega) ⟨.bl _,H,I,rfl,q⟩
theorem kop_inD (K:PySem.W.Frag) (hK:X.K = K) (hu:X.A.units + 64 < cLine):OpR X (compareOp .In) (rInD K false):=hK ▸ op_inD hu
theorem kop_notInD (K:PySem.W.Frag) (hK:X.K = K) (hu:X.A.units + 64 < cLine):OpR X (compareOp .NotIn) (rInD K true):=hK ▸ op_notInD hu
theorem ins_arr (its:List Value) (i:Nat) (u:Value):(fun xs:Array Value=>have k:=if (i:Int) < 0 then ((i:Int) + (xs.size:Int)).toNat else min (i:Int).toNat xs.size; (xs.extract 0 k).push u ++ xs.extract k) its.toArray = (its.take i ++ u :: its.drop i).toArray:=by
 have h0:¬ (i:Int) < 0:=by omega
 simp only [h0,if_false,Int.toNat_natCast,List.size_toArray]
 apply Array.ext'
 simp only [Array.toList_append,Array.toList_push,Array.toList_extract,List.extract_eq_take_drop,Nat.sub_zero,List.drop_zero,List.size_toArray]
 by_cases h:i≤its.length
 ·rw [Nat.min_eq_left h]
  rw [List.take_of_length_le (l:=its.drop i) (by rw [List.length_drop]; omega)]
  simp
 ·have h':its.length≤i:=by omega
  rw [Nat.min_eq_right h',List.take_of_length_le (l:=its) (Nat.le_refl _),List.take_of_length_le (l:=its) h',List.drop_of_length_le (Nat.le_refl _),List.drop_of_length_le h']
  simp
theorem mt_insert:MtM X "list.insert" rInsert:=by
 intro pins s σ H x vs v us Q I rx rv h
 obtain ⟨l,xs,i,y,rfl,rfl,hH,hz,hi,q⟩:=h
 cases rx
 obtain ⟨ui,u,rfl,ri,ru⟩:=vals2 rv
 obtain ⟨t,rfl⟩:=ri
 obtain ⟨z,its,n,r,hl,e⟩:=I.lstM hH
 have hlen:=r.length
 have e64:Builtin.List.listFitsIndex (i:Int) = true:=by
  unfold Builtin.List.listFitsIndex
  simp only [Bool.and_eq_true,decide_eq_true_eq]
  omega
 refine call_meets F.slot_list_insert ⟨_,e,rfl⟩ F.entry_list_insert (F.args_list_insert_3 _ _ _) (@AutoSeq1.list_insert_list_int_val_1 l its.toArray n (i:Int) t u (by rw [e64]; decide) (by rw [List.size_toArray,← hlen]; exact Nat.le_of_lt (small1000 hz))) ⟨e,?_⟩
 refine ⟨.non,_,I.lset (its':=its.take i ++ u :: its.drop i) hH e (ins_arr its i u) ((r.take i).append (.cons ru (r.drop i))) ?_,rfl,q⟩
 simp only [List.length_append,List.length_cons,List.length_take,List.length_drop]
 have:xs.length + 1≤sizeLine:=Nat.succ_le_of_lt (small1000 hz)
 omega
end
section
variable {K:PySem.W.Frag} {H:Hp} {Q:VK} {σ:St}
theorem r_notInD {x:V} {p:Addr} {ys:List V} {d:PyData} {ds:List PyData} (hs:SqL K H p ys) (ht:Tells K H ys ds) (hd:Tell K H x d) (c1:PyData.canLayAll0 ds = true) (c2:d.canLay0 = true) (hz:d.depth≤60) (h:Q (.bl (!ds.any fun z=>PyData.eqv z d)) H):rInD K true x (.ref p) H Q:=⟨p,ys,d,ds,rfl,hs,ht,hd,c1,c2,hz,h⟩
theorem r_inD {x:V} {p:Addr} {ys:List V} {d:PyData} {ds:List PyData} (hs:SqL K H p ys) (ht:Tells K H ys ds) (hd:Tell K H x d) (c1:PyData.canLayAll0 ds = true) (c2:d.canLay0 = true) (hz:d.depth≤60) (h:Q (.bl (ds.any fun z=>PyData.eqv z d)) H):rInD K false x (.ref p) H Q:=⟨p,ys,d,ds,rfl,hs,ht,hd,c1,c2,hz,h⟩
theorem r_insert {l:Addr} {xs:List V} {i:Nat} {y:V} (e:H l = some (.lst xs)) (n:xs.length≤1000) (hi:i≤1000) (h:Q .non (upd H l (.lst (xs.take i ++ y :: xs.drop i)))):rInsert (.ref l) [.int i,y] H Q:=⟨l,xs,i,y,rfl,rfl,e,n,hi,h⟩
theorem cutV_hi {xs:List V} {j:Nat}:cutV xs none (some (j:Int)) = xs.take j:=by
 unfold cutV
 rw [HT.sIx_none,HT.sIx_nat,Nat.sub_zero,List.drop_zero]
 by_cases h:j≤xs.length
 ·rw [Nat.min_eq_left h]
 ·rw [Nat.min_eq_right (by omega),List.take_of_length_le (by omega),List.take_of_length_le (by omega)]
theorem cutV_lo {xs:List V} {j:Nat}:cutV xs (some (j:Int)) none = xs.drop j:=by
 unfold cutV
 rw [HT.sIx_none,HT.sIx_nat]
 by_cases h:j≤xs.length
 ·rw [Nat.min_eq_left h,List.take_of_length_le (by rw [List.length_drop]; omega)]
 ·rw [Nat.min_eq_right (by omega),Nat.sub_self,List.take_zero,List.drop_of_length_le (by omega)]
theorem r_slHi {a:Addr} {xs:List V} {j:Nat} (e:SqL K H a xs) (h:∀ p H2,H p = none→Same H H2→H2 p = some (.lst (xs.take j))→Q (.ref p) H2):rSlL K (.ref a) none (some (j:Int)) H Q :=
 r_slL e fun p H2 n s m=>h p H2 n s (by rw [cutV_hi] at m; exact m)
theorem r_slLo {a:Addr} {xs:List V} {j:Nat} (e:SqL K H a xs) (h:∀ p H2,H p = none→Same H H2→H2 p = some (.lst (xs.drop j))→Q (.ref p) H2):rSlL K (.ref a) (some (j:Int)) none H Q :=
 r_slL e fun p H2 n s m=>h p H2 n s (by rw [cutV_lo] at m; exact m)
theorem eqv_ints:∀ (r q:List Int),PyData.eqvAll (r.map PyData.int) (q.map PyData.int) = decide (r = q)
 | [],[]=>rfl
 | [],_ :: _=>rfl
 | _ :: _,[]=>rfl
 | x :: r,y :: q=>by
  have h:=eqv_ints r q
  simp only [List.map_cons,PyData.eqvAll,h,PyData.eqv]
  by_cases e:x = y
  ·subst e; by_cases e2:r = q <;> simp [e2]
  ·simp [e]
theorem eqv_row (r q:List Int):PyData.eqv (.tuple (r.map PyData.int)) (.tuple (q.map PyData.int)) = decide (r = q):=by
 rw [← eqv_ints r q]
 simp [PyData.eqv]
theorem eqv_rows:∀ (rs qs:List (List Int)),PyData.eqvAll (rs.map fun r=>.tuple (r.map PyData.int)) (qs.map fun r=>.tuple (r.map PyData.int)) = decide (rs = qs)
 | [],[]=>rfl
 | [],_ :: _=>rfl
 | _ :: _,[]=>rfl
 | x :: r,y :: q=>by
  have h:=eqv_rows r q
  simp only [List.map_cons,PyData.eqvAll,h,eqv_row]
  by_cases e:x = y
  ·subst e; by_cases e2:r = q <;> simp [e2]
  ·simp [e]
theorem eqv_listR (rs qs:List (List Int)):PyData.eqv (.list (rs.map fun r=>.tuple (r.map PyData.int))) (.list (qs.map fun r=>.tuple (r.map PyData.int))) = decide (rs = qs):=by
 rw [← eqv_rows rs qs]
 simp [PyData.eqv]
theorem any_rows (rs:List (List Int)) (q:List Int):((rs.map fun r=>PyData.tuple (r.map PyData.int)).any fun z=>PyData.eqv z (.tuple (q.map PyData.int))) = decide (q∈rs):=by
 rw [List.any_map]
 rw [Bool.eq_iff_iff,List.any_eq_true,decide_eq_true_eq]
 constructor
 ·rintro ⟨r,hr,e⟩
  have e':PyData.eqv (.tuple (r.map PyData.int)) (.tuple (q.map PyData.int)) = true:=e
  rw [eqv_row,decide_eq_true_eq] at e'
  exact e' ▸ hr
 ·intro h
  exact ⟨q,h,by show PyData.eqv (.tuple (q.map PyData.int)) (.tuple (q.map PyData.int)) = true; rw [eqv_row]; simp⟩
theorem lay_ints:∀ r:List Int,PyData.canLayAll0 (r.map PyData.int) = true
 | []=>rfl
 | _ :: r=>by simp only [List.map_cons,PyData.canLayAll0,lay_ints r,PyData.canLay0,Bool.and_self]
theorem lay_row (r:List Int):PyData.canLay0 (.tuple (r.map PyData.int)) = true:=by simp only [PyData.canLay0,lay_ints]
theorem lay_rows:∀ rs:List (List Int),PyData.canLayAll0 (rs.map fun r=>.tuple (r.map PyData.int)) = true
 | []=>rfl
 | r :: rs=>by simp only [List.map_cons,PyData.canLayAll0,lay_rows rs,lay_row,Bool.and_self]
theorem deep_ints:∀ r:List Int,PyData.depthAll (r.map PyData.int)≤1
 | []=>by simp [PyData.depthAll]
 | _ :: r=>by
  have:=deep_ints r
  simp only [List.map_cons,PyData.depthAll,PyData.depth]
  omega
theorem deep_row (r:List Int):PyData.depth (.tuple (r.map PyData.int))≤2:=by
 have:=deep_ints r
 simp only [PyData.depth]
 omega
theorem deep_rows:∀ rs:List (List Int),PyData.depthAll (rs.map fun r=>.tuple (r.map PyData.int))≤2
 | []=>by simp [PyData.depthAll]
 | r :: rs=>by
  have:=deep_rows rs
  have:=deep_row r
  simp only [List.map_cons,PyData.depthAll]
  omega
theorem shaped_row (r:List Int):SeqAt.shaped (.tuple (r.map PyData.int)) = true:=by
 unfold SeqAt.shaped
 rw [lay_row,decide_eq_true (Nat.le_trans (deep_row r) (by decide))]; rfl
theorem shaped_rows (rs:List (List Int)):SeqAt.shaped (.list (rs.map fun r=>.tuple (r.map PyData.int))) = true:=by
 unfold SeqAt.shaped
 have h:PyData.canLay0 (.list (rs.map fun r=>PyData.tuple (r.map PyData.int))) = true:=by simp only [PyData.canLay0,lay_rows]
 have d:PyData.depth (.list (rs.map fun r=>PyData.tuple (r.map PyData.int)))≤64:=by
  have:=deep_rows rs
  simp only [PyData.depth]
  omega
 rw [h,decide_eq_true d]; rfl
end
end L2
set_option maxRecDepth 100000
namespace L2
open PySem PySem.Spec PyProof.Rows PySem.W
section
variable {P:Program} {w:World} {K:Frag} {mg:Str→Option Value} {base:Heap}
end
section
variable {X:Cx} {EX:EXT} {k:Nat} {x:Str} {ps:List Str} {sp:Sp} {p pos:Pos} {e:Expr} {es:List Expr} {t:TA} {ds:List Value} {dvs:List V}
end
end L2
set_option maxRecDepth 100000
namespace L2
open PySem PySem.Spec PyProof.Rows
section
variable {κ:Type} [DecidableEq κ]
end
section
variable {P:Program} {w:World} {H:Hp} {h:Heap} {a:Addr}
end
section
variable {X:Cx} {pins:List (Addr×Obj)} {σ:St} {H:Hp} {s:Shared} {a:Addr} {y v:V} {u r:Value} {o:Option V} {A:Around} {E:Value→Shared→Prop}
end
section
variable {X:Cx} {pins:List (Addr×Obj)} {σ:St} {H:Hp} {s:Shared} {a:Addr} {kvs:List (Key×V)} {k:Key} {u:Value} {A:Around} {E:Value→Shared→Prop}
end
section
variable {X:Cx} {o i e value:Expr} {pos pos' tpos:Pos} {td ty tv:TE}
end
section
variable {X:Cx} {pos:Pos}
end
end L2
set_option maxRecDepth 100000
namespace L2
open PySem PySem.Spec PyProof.Rows PySem.W
section
variable {prog:Program} {w:World} {A:Around} {E:Value→Shared→Prop} {s:Shared} {d I:Addr} {es:Array DictEntry} {ep i:Nat}
end
section
variable {H:Hp} {Q:VK}
end
end L2
namespace L2
open PySem PySem.Spec PyProof.Rows
section
variable {K:PySem.W.Frag} {H H':Hp}
end
section
variable {H:Hp} {σ:St} {D:Ends} {Q:VK}
end
end L2
set_option maxRecDepth 100000
namespace L2
open PySem PySem.Spec PyProof.Rows PySem.W
section
variable {prog:Program} {w:World} {A:Around} {E:Value→Shared→Prop} {s:Shared} {I l:Addr} {its:Array Value}
end
section
variable {X:Cx} {p p2 pos pos2:Pos} {e:Expr} {t:TE}
variable {K:Frag}
end
section
variable {K:Frag} {H:Hp} {Q:VK} {σ:St}
end
end L2
set_option maxRecDepth 100000
namespace L2
open PySem PySem.Spec PyProof.Rows
inductive KeysL (K:PySem.W.Frag) (H:Hp):List V→List (List Int×Int)→Prop where
 | nil:KeysL K H [] []
 | cons {a w:Addr} {r:List Int} {m:Int} {xs:List V} {ks:List (List Int×Int)} (h:SqT K H a [.ref w,.int m]) (hw:SqT K H w (r.map V.int)) (t:KeysL K H xs ks):KeysL K H (.ref a :: xs) ((r,m) :: ks)
namespace KeysL
variable {K:PySem.W.Frag} {H H':Hp}
end KeysL
end L2
set_option maxRecDepth 100000
namespace L2
open PySem PySem.Spec PyProof.Rows
section
variable {X:Cx} {pins:List (Addr×Obj)} {σ:St} {H:Hp} {s:Shared}
end
end L2
set_option maxRecDepth 100000
namespace L2
open PySem PySem.Spec PyProof.Rows PySem.W
section
variable {X:Cx} {pins:List (Addr×Obj)} {σ:St} {H:Hp} {s:Shared}
end
end L2
set_option maxRecDepth 100000
namespace L2
open PySem PySem.Spec PyProof.Rows PySem.W
section
variable {X:Cx} {pins:List (Addr×Obj)} {σ:St} {H:Hp} {s:Shared}
end
end L2
set_option maxRecDepth 100000
namespace L2
open PySem PySem.Spec PyProof.Rows PySem.W
section
variable {K:PySem.W.Frag} {H H':Hp} {P a:Addr} {lp:Pos} {q:Str} {xs:List V}
end
section
variable {X:Cx} {k:Nat} {q y:Str} {fns:List Str} {ixs:List (Option Nat)} {params:Arguments} {body:Expr} {scope:Scope} {p lp kpos pos:Pos} {e:Expr} {t te:TE} {c P:Addr}
variable {K:PySem.W.Frag}
end
section
variable {K:PySem.W.Frag} {H:Hp} {Q:VK} {σ:St} {P:Addr} {lp:Pos} {q:Str} {ixs:List (Option Nat)} {te:TE}
end
end L2
set_option maxRecDepth 100000
namespace L2
open PySem PySem.Spec PyProof.Rows PySem.W
section
variable {Pr:Program} {w:World} {K:PySem.W.Frag} {mg:Str→Option Value} {base:Heap}
end
end L2
set_option maxRecDepth 100000
namespace L2
open PySem PySem.Spec PyProof.Rows PySem.W
end L2
set_option maxRecDepth 100000
namespace L2
open PySem PySem.Spec PyProof.Rows
section
variable {X:Cx} {tg:Expr}
end
section
variable {H:Hp} {σ:St} {R:It→Hp→Prop}
variable {g:TG} {D:Ends}
end
end L2
set_option maxRecDepth 100000
namespace L2
open PySem PySem.Spec PyProof.Rows
theorem take_filter {α:Type} {rs:List α} {f:α→Bool} {i:Nat} {r:α} (h:rs[i]? = some r):(rs.take (i + 1)).filter f = (rs.take i).filter f ++ (if f r then [r] else []):=by
 rw [List.take_add_one,h,List.filter_append]
 cases e:f r <;> simp [e]
theorem take_map' {α β:Type} {rs:List α} {g:α→β} {i:Nat} {r:α} (h:rs[i]? = some r):(rs.take (i + 1)).map g = (rs.take i).map g ++ [g r]:=by
 rw [List.take_add_one,h,List.map_append]
 rfl
section
variable {K:PySem.W.Frag} {H:Hp} {σ:St} {Q:VK} {ix:List (Option Nat)} {l:Addr} {xs:List V} {rs:List (List Int)}
theorem rd_filterRows {tt:TT} {te:TE} (fr:St) (f:List Int→Bool) (hpk:pick ix σ = none :: fr) (hl:SqL K H l xs) (hr:RowsL K H xs rs) (hn:rs.length≤1000)
  (test:∀ (a:Addr) (r:List Int) (H':Hp) (Qt:Bool→Hp→Prop),r∈rs→Same H H'→SqT K H' a (r.map V.int)→(∀ H5,Same H' H5→Qt (f r) H5)→tt (some (.ref a) :: fr) H' Qt)
  (elt:∀ (a:Addr) (H':Hp) (Qc:VK),Same H H'→Qc (.ref a) H'→te (some (.ref a) :: fr) H' Qc)
  (hQ:∀ l2 H' ys,H l2 = none→Same H H'→H' l2 = some (.lst ys)→RowsL K H' ys (rs.filter f)→Q (.ref l2) H'):CompGoal ix (gName 0) tt te σ Q (Itl K l) H:=by
 have hlen:=hr.length
 refine comp_rows (K:=K) 1 fr rs.length (fun i=>(rs.take i).filter f) hpk rfl (fun i=>Nat.le_trans (List.length_filter_le _ _) (Nat.le_trans (List.length_take_le' _ _) hn)) (fun H' s=>⟨xs,s.seq hl,by omega⟩) (fun i H' hi s=>⟨xs,xs[i]'(by omega),s.seq hl,List.getElem?_eq_getElem (by omega)⟩) (fun i x H' H2 own ho hi s hy Qy Qn ky kn=>?_) (fun l2 H' ys a b c d=>hQ l2 H' ys a b c (by rw [List.take_length] at d; exact d))
 obtain ⟨o1,rfl⟩:∃ o1,own = [o1]:=by match own,ho with | [o1],_=>exact ⟨o1,rfl⟩
 obtain ⟨rfl,e⟩:=hy
 obtain ⟨a,r,rfl,ha,hi2⟩:=hr.get (e xs (s.seq hl))
 have hmem:r∈rs:=by
  obtain ⟨h1,h2⟩:=List.getElem?_eq_some_iff.mp hi2
  rw [← h2]
  exact List.getElem_mem h1
 have et:=take_filter (f:=f) hi2
 dsimp only [gName]
 refine test a r _ _ hmem s (s.at ha) fun H5 s5=>?_
 cases ef:f r with
 | true =>
  rw [ef] at et
  rw [if_pos rfl]
  exact elt a H5 _ (s.trans s5) (ky [some (.ref a)] a r H5 rfl s5 ((s.trans s5).at ha) et)
 | false =>
  rw [ef] at et
  rw [if_neg (by decide)]
  exact kn [some (.ref a)] H5 rfl s5 (by rw [et]; simp)
theorem rd_mapRows {te:TE} (fr:St) (g:List Int→List Int) (hpk:pick ix σ = none :: fr) (hl:SqL K H l xs) (hr:RowsL K H xs rs) (hn:rs.length≤1000)
  (elt:∀ (a:Addr) (r:List Int) (H':Hp) (Qc:VK),r∈rs→Same H H'→SqT K H' a (r.map V.int)→(∀ p H5,Same H' H5→SqT K H5 p ((g r).map V.int)→Qc (.ref p) H5)→te (some (.ref a) :: fr) H' Qc)
  (hQ:∀ l2 H' ys,H l2 = none→Same H H'→H' l2 = some (.lst ys)→RowsL K H' ys (rs.map g)→Q (.ref l2) H'):CompGoal ix (gName 0) (fun _ H Q=>Q true H) te σ Q (Itl K l) H:=by
 have hlen:=hr.length
 refine comp_rows (K:=K) 1 fr rs.length (fun i=>(rs.take i).map g) hpk rfl (fun i=>by rw [List.length_map]; exact Nat.le_trans (List.length_take_le' _ _) hn) (fun H' s=>⟨xs,s.seq hl,by omega⟩) (fun i H' hi s=>⟨xs,xs[i]'(by omega),s.seq hl,List.getElem?_eq_getElem (by omega)⟩) (fun i x H' H2 own ho hi s hy Qy Qn ky kn=>?_) (fun l2 H' ys a b c d=>hQ l2 H' ys a b c (by rw [List.take_length] at d; exact d))
 obtain ⟨o1,rfl⟩:∃ o1,own = [o1]:=by match own,ho with | [o1],_=>exact ⟨o1,rfl⟩
 obtain ⟨rfl,e⟩:=hy
 obtain ⟨a,r,rfl,ha,hi2⟩:=hr.get (e xs (s.seq hl))
 have hmem:r∈rs:=by
  obtain ⟨h1,h2⟩:=List.getElem?_eq_some_iff.mp hi2
  rw [← h2]
  exact List.getElem_mem h1
 dsimp only [gName]
 rw [if_pos rfl]
 exact elt a r _ _ hmem s (s.at ha) fun p H5 s5 hp=>ky [some (.ref a)] p (g r) H5 rfl s5 hp (take_map' hi2)
end
end L2
namespace L2
open PySem PySem.Spec PyProof.Rows PySem.W
end L2
namespace L2
open PySem PySem.Spec PyProof.Rows
end L2
namespace L2
open PySem PySem.Spec PyProof.Rows
end L2
namespace L2
open PySem PySem.Spec PyProof.Rows
end L2
namespace L2
open PySem PySem.Spec PyProof.Rows
end L2
namespace L2
open PySem PySem.Spec PyProof.Rows
end L2
namespace L2
open PySem PySem.Spec PyProof.Rows
section
variable {K:PySem.W.Frag} {H:Hp} {σ:St} {Q:VK} {ix:List (Option Nat)}
end
inductive LstsL (H:Hp):List V→List (List Int)→Prop where
 | nil:LstsL H [] []
 | cons {a:Addr} {r:List Int} {xs:List V} {rs:List (List Int)} (h:H a = some (.lst (r.map V.int))) (t:LstsL H xs rs):LstsL H (.ref a :: xs) (r :: rs)
namespace LstsL
variable {H H':Hp}
end LstsL
section
variable {K:PySem.W.Frag} {H:Hp} {σ:St} {Q:VK} {ix:List (Option Nat)} {l:Addr} {xs:List V} {rs:List (List Int)}
end
end L2
namespace HT
open PySem PySem.Spec PyProof.Rows
section
variable {prog:Program} {w:World} {A:Around} {E:Value→Shared→Prop} {s:Shared}
end
end HT
namespace L2
open PySem PySem.Spec PyProof.Rows
section
variable {X:Cx} {K:PySem.W.Frag} {H:Hp} {Q:VK}
end
end L2
namespace L2
open PySem PySem.Spec PyProof.Rows
section
variable {K:PySem.W.Frag} {H:Hp} {σ:St} {Q:VK} {ix:List (Option Nat)}
end
end L2
namespace L2
open PySem PySem.Spec PyProof.Rows
section
variable {P:Program} {w:World} {K:PySem.W.Frag} {mg:Str→Option Value} {base:Heap}
end
section
variable {X:Cx} {k:Nat} {f C:Addr} {x m:Str} {ps:List Str} {sp:Sp} {p pos apos:Pos} {e o:Expr} {es:List Expr} {ta:TE} {t:TA}
end
section
variable {K:PySem.W.Frag} {H:Hp} {σ:St} {Q:VK} {D:Ends} {ta tv:TE} {t:TA} {C:Addr} {m f:Str} {sp:Sp} {x:V}
end
end L2
namespace L2
open PySem PySem.Spec PyProof.Rows
end L2
namespace L2
open PySem PySem.Spec PyProof.Rows
section
variable {K:PySem.W.Frag} {H:Hp} {σ:St} {Q:VK} {ix:List (Option Nat)}
end
end L2
namespace L2
open PySem PySem.Spec PyProof.Rows
section
variable {K:PySem.W.Frag} {H:Hp} {σ:St} {Q:VK} {ix:List (Option Nat)}
end
end L2
set_option maxRecDepth 100000
namespace L2
open PySem PySem.Spec PyProof.Rows PySem.W
end L2
namespace L2
open PySem PySem.Spec PyProof.Rows PySem.W
end L2
set_option maxRecDepth 100000
namespace L2
open PySem PySem.Spec PyProof.Rows
section
variable {K:PySem.W.Frag} {H:Hp} {σ:St} {Q:VK} {ix:List (Option Nat)} {l:Addr} {xs:List V} {rs:List (List Int)}
end
end L2
namespace L2
open PySem PySem.Spec PyProof.Rows
section
variable {K:PySem.W.Frag} {H:Hp} {σ:St} {Q:VK} {ix:List (Option Nat)}
end
end L2
set_option maxRecDepth 100000
namespace L2
open PySem PySem.Spec PyProof.Rows PySem.Builtin PySem.Builtin.Str
section
variable {X:Cx}
end
section
variable {D:Ends} {σ:St} {H:Hp} {te:TE} {g:TG} {Q:VK} {z y:Str} {K:PySem.W.Frag}
end
end L2
namespace L2
open PySem PySem.Spec PyProof.Rows
end L2
namespace L2
open PySem PySem.Spec PyProof.Rows
section
variable {Q:VK} {H:Hp} {z y:Str}
end
end L2
namespace L2
open PySem PySem.Spec PyProof.Rows
section
variable {X:Cx}
end
section
variable {K:PySem.W.Frag} {H:Hp} {Q:VK}
end
end L2
namespace L2
open PySem PySem.Spec PyProof.Rows
section
variable {X:Cx}
end
section
variable {H:Hp} {Q:VK}
end
end L2
namespace L2
open PySem PySem.Spec PyProof.Rows
section
variable {X:Cx} {a:Addr} {kvs:List (Key×V)}
end
section
variable {H:Hp} {Q:VK} {a:Addr} {kvs:List (Key×V)} {z y:Str}
end
end L2
namespace L2
open PySem PySem.Spec PyProof.Rows PySem.W
section
variable {X:Cx}
end
section
variable {H:Hp} {Q:VK} {a:Addr} {z y:Str}
end
end L2
namespace Nam
open PySem PySem.Builtin PySem.Builtin.Str PySem.StrLaws
end Nam
namespace L2
open PySem PySem.Spec PyProof.Rows
section
variable {K:PySem.W.Frag} {H:Hp} {σ:St} {Q:VK} {ix:List (Option Nat)}
end
end L2
namespace L2
open PySem PySem.Spec PyProof.Rows PySem.W
section
variable {K:Frag} {D:Ends} {σ:St} {H:Hp}
end
end L2
namespace L2
open PySem PySem.Spec PyProof.Rows
section
variable {X:Cx}
end
end L2
namespace L2
open PySem PySem.Spec PyProof.Rows
end L2
set_option maxRecDepth 100000
namespace L2
open PySem PySem.Spec PyProof.Rows PySem.W
section
variable {prog:Program} {w:World} {A:Around} {E:Value→Shared→Prop} {s:Shared} {I:Addr} {x:Str} {t:Tok}
end
section
variable {X:Cx} {p2 apos cpos pos2:Pos} {o e:Expr} {t:TE}
variable {σ:St} {H:Hp} {Q:VK}
end
end L2
namespace L2
open PySem PySem.Spec PyProof.Rows
section
variable {M:Model} {A:Around} {E:Value→Shared→Prop} {s:Shared} {env:Env}
end
section
variable {X:Cx} {EX:EXT}
end
end L2
namespace L2
open PySem PySem.Spec PyProof.Rows
theorem r_extend {H:Hp} {Q:VK} {l b:Addr} {xs zs:List V} (e1:H l = some (.lst xs)) (e2:H b = some (.lst zs)) (n:xs.length + zs.length≤1000) (h:Q .non (upd H l (.lst (xs ++ zs)))):rExtend (.ref l) [.ref b] H Q:=⟨l,b,xs,zs,rfl,rfl,e1,e2,Nat.le_of_lt (small1000 n),h⟩
end L2
namespace L2
open PySem PySem.Spec PyProof.Rows
theorem if_joinE {σ:St} {H:Hp} {Q:VK} {c:Bool} {t1 t2:TE} (P:V→Hp→Prop) (h1:c = true→∀ Q':VK,(∀ v H',P v H'→Q' v H')→t1 σ H Q') (h2:c = false→∀ Q':VK,(∀ v H',P v H'→Q' v H')→t2 σ H Q') (h3:∀ v H',P v H'→Q v H'):if c = true then t1 σ H Q else t2 σ H Q:=by
 cases c with
 | true=>exact h1 rfl Q h3
 | false=>exact h2 rfl Q h3
end L2

namespace Law
open PySem L2
def top (i:Nat):Stmt:=PySem.Challenge.pw_tuningyard_k28_whole_apart_or_moved.main.body.getD i (.Pass ⟨0,0,0,0⟩)
abbrev s_over:Stmt:=top 3
abbrev s_raised:Stmt:=top 4
abbrev s_number_of:Stmt:=top 5
abbrev s_fraction_of:Stmt:=top 6
abbrev s_octaves:Stmt:=top 8
abbrev s_folded:Stmt:=top 9
abbrev s_reach:Stmt:=top 11
abbrev s_only_one_has:Stmt:=top 12
abbrev s_move_between:Stmt:=top 13
abbrev s_law_mixed:Stmt:=top 15
abbrev s_law_number:Stmt:=top 16
abbrev s_law_row:Stmt:=top 17
abbrev s_law_fraction:Stmt:=top 18
abbrev s_law_folded:Stmt:=top 19
abbrev s_law_plus:Stmt:=top 20
abbrev s_law_less:Stmt:=top 21
abbrev s_law_lower:Stmt:=top 22
abbrev s_law_scale:Stmt:=top 23
abbrev s_law_is_row:Stmt:=top 24
abbrev s_law_rows:Stmt:=top 25
abbrev s_law_tones:Stmt:=top 26
abbrev s_law_made:Stmt:=top 27
abbrev s_law_changed:Stmt:=top 28
abbrev s_law_pair:Stmt:=top 29
abbrev s_law_is_folded:Stmt:=top 30
abbrev s_law_told:Stmt:=top 31
abbrev s_law:Stmt:=top 32
@[elab_as_elim] theorem of_len1 {α : Type} {P : List α → Prop} (us : List α) (hl : us.length = 1) (h : ∀ a0 : α, P [a0]) : P us :=
 match us,hl with | [a0],_=>h a0
@[elab_as_elim] theorem of_len2 {α : Type} {P : List α → Prop} (us : List α) (hl : us.length = 2) (h : ∀ a0 a1 : α, P [a0, a1]) : P us :=
 match us,hl with | [a0,a1],_=>h a0 a1
@[elab_as_elim] theorem of_len3 {α : Type} {P : List α → Prop} (us : List α) (hl : us.length = 3) (h : ∀ a0 a1 a2 : α, P [a0, a1, a2]) : P us :=
 match us,hl with | [a0,a1,a2],_=>h a0 a1 a2
@[elab_as_elim] theorem of_len4 {α : Type} {P : List α → Prop} (us : List α) (hl : us.length = 4) (h : ∀ a0 a1 a2 a3 : α, P [a0, a1, a2, a3]) : P us :=
 match us,hl with | [a0,a1,a2,a3],_=>h a0 a1 a2 a3
def RB (f h:Int) (r:List Int):Prop:=∃ a0 a1 a2 a3 a4:Int,r = [a0,a1,a2,a3,a4]∧(-f≤a0∧a0≤f)∧(-h≤a1∧a1≤h)∧(-h≤a2∧a2≤h)∧(-h≤a3∧a3≤h)∧(-h≤a4∧a4≤h)
theorem RB.mono {f h f' h':Int} {r:List Int} (x:RB f h r) (h1:f≤f') (h2:h≤h'):RB f' h' r:=by
 obtain ⟨a0,a1,a2,a3,a4,rfl,⟨_,_⟩,⟨_,_⟩,⟨_,_⟩,⟨_,_⟩,⟨_,_⟩⟩:=x
 exact ⟨a0,a1,a2,a3,a4,rfl,by omega,by omega,by omega,by omega,by omega⟩
def nsr (r:List Int):Int:=Mth.NS (r.getD 0 0) (r.getD 1 0) (r.getD 2 0) (r.getD 3 0) (r.getD 4 0)
def FoldR (r:List Int):Prop:=Mth.Fold (r.getD 0 0) (r.getD 1 0) (r.getD 2 0) (r.getD 3 0) (r.getD 4 0)
theorem RB.bd {r:List Int} {f h:Int} (x:RB f h r) (hf:f≤4000) (hh:h≤100):Mth.Bd (r.getD 0 0) (r.getD 1 0) (r.getD 2 0) (r.getD 3 0) (r.getD 4 0):=by
 obtain ⟨a0,a1,a2,a3,a4,rfl,⟨_,_⟩,⟨_,_⟩,⟨_,_⟩,⟨_,_⟩,⟨_,_⟩⟩:=x
 show Mth.Bd a0 a1 a2 a3 a4
 unfold Mth.Bd
 omega
theorem nsr_inj {r q:List Int} {f h:Int} (x:RB f h r) (y:RB f h q) (hf:f≤4000) (hh:h≤100) (e:nsr r = nsr q):r = q:=by
 have b1:=x.bd hf hh
 have b2:=y.bd hf hh
 obtain ⟨a0,a1,a2,a3,a4,rfl,_⟩:=x
 obtain ⟨c0,c1,c2,c3,c4,rfl,_⟩:=y
 obtain ⟨e0,e1,e2,e3,e4⟩:=Mth.NS_inj b1 b2 e
 have e0':a0 = c0:=e0
 have e1':a1 = c1:=e1
 have e2':a2 = c2:=e2
 have e3':a3 = c3:=e3
 have e4':a4 = c4:=e4
 rw [e0',e1',e2',e3',e4']
def wh:V→Bool
 | .int _=>true
 | _=>false
def ok30 (r:List Int):Bool:=[decide ((if r.getD 1 0 < 0 then -r.getD 1 0 else r.getD 1 0)≤30),decide ((if r.getD 2 0 < 0 then -r.getD 2 0 else r.getD 2 0)≤30),decide ((if r.getD 3 0 < 0 then -r.getD 3 0 else r.getD 3 0)≤30),decide ((if r.getD 4 0 < 0 then -r.getD 4 0 else r.getD 4 0)≤30)].all id
def foldR (r:List Int):List Int:=[r.getD 0 0 - Mth.octR (Mth.top5 (r.getD 0 0) (r.getD 1 0) (r.getD 2 0) (r.getD 3 0) (r.getD 4 0)) (Mth.bot5 (r.getD 0 0) (r.getD 1 0) (r.getD 2 0) (r.getD 3 0) (r.getD 4 0)),r.getD 1 0,r.getD 2 0,r.getD 3 0,r.getD 4 0]
theorem ok30_max {x0 x1 x2 x3 x4 m:Int} (h1:m∈[if x1 < 0 then -x1 else x1,if x2 < 0 then -x2 else x2,if x3 < 0 then -x3 else x3,if x4 < 0 then -x4 else x4]) (h2:∀ x∈[if x1 < 0 then -x1 else x1,if x2 < 0 then -x2 else x2,if x3 < 0 then -x3 else x3,if x4 < 0 then -x4 else x4],x≤m):decide (m≤30) = ok30 [x0,x1,x2,x3,x4]:=by
 have g1:=h2 _ (List.mem_cons_self ..)
 have g2:=h2 (if x2 < 0 then -x2 else x2) (by simp)
 have g3:=h2 (if x3 < 0 then -x3 else x3) (by simp)
 have g4:=h2 (if x4 < 0 then -x4 else x4) (by simp)
 show _ = [decide ((if x1 < 0 then -x1 else x1)≤30),decide ((if x2 < 0 then -x2 else x2)≤30),decide ((if x3 < 0 then -x3 else x3)≤30),decide ((if x4 < 0 then -x4 else x4)≤30)].all id
 simp only [List.mem_cons,List.not_mem_nil,or_false] at h1
 rw [Bool.eq_iff_iff]
 simp only [List.all_cons,List.all_nil,Bool.and_eq_true,decide_eq_true_eq,id,Bool.and_true]
 constructor
 ·intro z
  exact ⟨by omega,by omega,by omega,by omega⟩
 ·rintro ⟨z1,z2,z3,z4⟩
  rcases h1 with rfl | rfl | rfl | rfl <;> assumption
theorem rt_lt60 {b c d e:Int} (hb:b≤60) (hc:c≤60) (hd:d≤60) (he:e≤60):Mth.rt b c d e < 2 ^ 700:=by
 have h:Mth.rt b c d e≤Mth.prod5 0 60 60 60 60:=Mth.prod5_mono (Nat.le_refl _) (by omega) (by omega) (by omega) (by omega)
 exact Int.lt_of_le_of_lt h (by decide +kernel)
theorem rb_lt60 {b c d e:Int} (hb:-60≤b) (hc:-60≤c) (hd:-60≤d) (he:-60≤e):Mth.rb b c d e < 2 ^ 700:=by
 have h:Mth.rb b c d e≤Mth.prod5 0 60 60 60 60:=Mth.prod5_mono (Nat.le_refl _) (by omega) (by omega) (by omega) (by omega)
 exact Int.lt_of_le_of_lt h (by decide +kernel)
theorem fold_bd60 {n b c d e:Int} (hb:-60≤b∧b≤60) (hc:-60≤c∧c≤60) (hd:-60≤d∧d≤60) (he:-60≤e∧e≤60) (f:Mth.Fold n b c d e):-700≤n∧n≤700:=by
 obtain ⟨f1,f2⟩:=f
 rw [Mth.top5_rt,Mth.bot5_rb] at f1 f2
 have t1:=rt_lt60 (b:=b) (c:=c) (d:=d) (e:=e) (by omega) (by omega) (by omega) (by omega)
 have b1:=rb_lt60 (b:=b) (c:=c) (d:=d) (e:=e) (by omega) (by omega) (by omega) (by omega)
 have t2:=Mth.rt_pos b c d e
 have b2:=Mth.rb_pos b c d e
 generalize Mth.rt b c d e = t at *
 generalize Mth.rb b c d e = u at *
 refine ⟨Int.le_of_not_gt fun z=>?_,Int.le_of_not_gt fun z=>?_⟩
 ·have e0:n.toNat = 0:=by omega
  have m:(2:Int) ^ 700≤2 ^ (-n).toNat:=Mth.pow2_mono (by omega)
  have k:2 ^ (-n).toNat * 1≤2 ^ (-n).toNat * u:=Int.mul_le_mul_of_nonneg_left b2 (Int.le_of_lt (Mth.pow2_pos _))
  rw [e0,Int.pow_zero,Int.one_mul] at f1
  generalize (2:Int) ^ 700 = w at *
  omega
 ·have e0:(-n).toNat = 0:=by omega
  have m:(2:Int) ^ 701≤2 ^ n.toNat:=Mth.pow2_mono (by omega)
  have k:2 ^ n.toNat * 1≤2 ^ n.toNat * t:=Int.mul_le_mul_of_nonneg_left t2 (Int.le_of_lt (Mth.pow2_pos _))
  rw [e0,Int.pow_zero,Int.one_mul] at f2
  have q:(2:Int) ^ 701 = 2 * 2 ^ 700:=by rw [Int.pow_succ,Int.mul_comm]
  rw [q] at m
  generalize (2:Int) ^ 700 = w at *
  omega
theorem foldR_tail {a b:List Int} {f f':Int} (x:RB f 60 a) (y:RB f' 60 b) (e1:a.getD 1 0 = b.getD 1 0) (e2:a.getD 2 0 = b.getD 2 0) (e3:a.getD 3 0 = b.getD 3 0) (e4:a.getD 4 0 = b.getD 4 0):foldR a = foldR b:=by
 obtain ⟨a0,a1,a2,a3,a4,rfl,_,b1,b2,b3,b4⟩:=x
 obtain ⟨c0,c1,c2,c3,c4,rfl,_⟩:=y
 obtain rfl:a1 = c1:=e1
 obtain rfl:a2 = c2:=e2
 obtain rfl:a3 = c3:=e3
 obtain rfl:a4 = c4:=e4
 have f1:=Mth.fold_oct a0 a1 a2 a3 a4
 have f2:=Mth.fold_oct c0 a1 a2 a3 a4
 have g1:=fold_bd60 b1 b2 b3 b4 f1
 have g2:=fold_bd60 b1 b2 b3 b4 f2
 have e:=Mth.fold_uniq (by unfold Mth.Bd; omega) (by unfold Mth.Bd; omega) f1 f2
 exact congrArg (fun n=>[n,a1,a2,a3,a4]) e
theorem foldR_60 {r:List Int} {f:Int} (x:RB f 60 r):RB 700 60 (foldR r):=by
 obtain ⟨a0,a1,a2,a3,a4,rfl,_,b1,b2,b3,b4⟩:=x
 exact ⟨_,_,_,_,_,rfl,fold_bd60 b1 b2 b3 b4 (Mth.fold_oct a0 a1 a2 a3 a4),b1,b2,b3,b4⟩
theorem foldR_id {r:List Int} {f:Int} (x:RB f 60 r) (hf:f≤4000) (h:FoldR r):foldR r = r:=by
 obtain ⟨a0,a1,a2,a3,a4,rfl,b0,b1,b2,b3,b4⟩:=x
 have f1:=Mth.fold_oct a0 a1 a2 a3 a4
 have g1:=fold_bd60 b1 b2 b3 b4 f1
 have e:=Mth.fold_uniq (by unfold Mth.Bd; omega) (by unfold Mth.Bd; omega) f1 (show Mth.Fold a0 a1 a2 a3 a4 from h)
 exact congrArg (fun n=>[n,a1,a2,a3,a4]) e
def addR (a b:List Int):List Int:=[a.getD 0 0 + b.getD 0 0,a.getD 1 0 + b.getD 1 0,a.getD 2 0 + b.getD 2 0,a.getD 3 0 + b.getD 3 0,a.getD 4 0 + b.getD 4 0]
def subR (a b:List Int):List Int:=[a.getD 0 0 - b.getD 0 0,a.getD 1 0 - b.getD 1 0,a.getD 2 0 - b.getD 2 0,a.getD 3 0 - b.getD 3 0,a.getD 4 0 - b.getD 4 0]
theorem subR_rb {a b:List Int} (x:RB 400 30 a) (y:RB 400 30 b):RB 800 60 (subR a b):=by
 obtain ⟨a0,a1,a2,a3,a4,rfl,_,_,_,_,_⟩:=x
 obtain ⟨c0,c1,c2,c3,c4,rfl,_,_,_,_,_⟩:=y
 exact ⟨a0 - c0,a1 - c1,a2 - c2,a3 - c3,a4 - c4,rfl,by omega,by omega,by omega,by omega,by omega⟩
theorem getD_foldR {r:List Int}:(foldR r).getD 1 0 = r.getD 1 0∧(foldR r).getD 2 0 = r.getD 2 0∧(foldR r).getD 3 0 = r.getD 3 0∧(foldR r).getD 4 0 = r.getD 4 0:=⟨rfl,rfl,rfl,rfl⟩
def Alike (rs qs:List (List Int)) (r0 t:List Int):Prop:=∀ x,(x∈rs.map fun r=>foldR (subR r r0))↔(x∈qs.map fun q=>foldR (subR q t))
def Moved (rs qs:List (List Int)) (s:List Int):Prop:=∀ q,q∈qs↔∃ r∈rs,q = foldR (addR r s)
theorem rb_of {x0 x1 x2 x3 x4:Int} (h1:-60≤x1∧x1≤60) (h2:-60≤x2∧x2≤60) (h3:-60≤x3∧x3≤60) (h4:-60≤x4∧x4≤60):RB (x0.natAbs:Int) 60 [x0,x1,x2,x3,x4]:=⟨_,_,_,_,_,rfl,by omega,h1,h2,h3,h4⟩
theorem only_nil (ps qs:List (List Int)):(ps.filter (fun r=>!decide (r∈qs)) ++ qs.filter (fun r=>!decide (r∈ps)) = [])↔∀ x,x∈ps↔x∈qs:=by
 rw [List.append_eq_nil_iff,List.filter_eq_nil_iff,List.filter_eq_nil_iff]
 constructor
 ·rintro ⟨h1,h2⟩ x
  exact ⟨fun h=>by simpa using h1 x h,fun h=>by simpa using h2 x h⟩
 ·intro h
  exact ⟨fun x hx=>by simpa using (h x).mp hx,fun x hx=>by simpa using (h x).mpr hx⟩
theorem moved_none (s:List Int):Moved [] [] s:=fun q=>⟨fun h=>absurd h (by simp),fun ⟨_,h,_⟩=>absurd h (by simp)⟩
theorem fold_one:foldR [0,0,0,0,0] = [0,0,0,0,0]:=foldR_id (f:=400) ⟨0,0,0,0,0,rfl,by decide,by decide,by decide,by decide,by decide⟩ (by decide) (show Mth.Fold 0 0 0 0 0 by unfold Mth.Fold; decide)
theorem fold_700 {r:List Int} {f:Int} (x:RB f 30 r):RB 400 30 (foldR r):=by
 obtain ⟨a0,a1,a2,a3,a4,rfl,_,b1,b2,b3,b4⟩:=x
 exact ⟨_,_,_,_,_,rfl,Mth.fold_bd b1 b2 b3 b4 (Mth.fold_oct a0 a1 a2 a3 a4),b1,b2,b3,b4⟩
theorem num_div {m B d:Int} (h0:0≤m) (h1:m≤B) (hd:d = 1∨d = 2):0≤m / d∧m / d≤B:=by rcases hd with rfl | rfl <;> omega
theorem only_mem (ps qs:List (List Int)):∀ z∈ps.filter (fun r=>!decide (r∈qs)) ++ qs.filter (fun r=>!decide (r∈ps)),(z∈ps∧z∉qs)∨(z∈qs∧z∉ps):=fun z hz=>by
 rcases List.mem_append.mp hz with h | h
 ·exact .inl (by simpa using List.mem_filter.mp h)
 ·exact .inr (by simpa using List.mem_filter.mp h)
theorem fold_fold {r:List Int} {f:Int} (x:RB f 60 r):foldR (foldR r) = foldR r:=foldR_tail (foldR_60 x) x rfl rfl rfl rfl
def JustOne (rs qs:List (List Int)) (r0 t z:List Int):Prop:=(z∈(rs.map fun r=>foldR (subR r r0))∧z∉(qs.map fun q=>foldR (subR q t)))∨(z∈(qs.map fun q=>foldR (subR q t))∧z∉(rs.map fun r=>foldR (subR r r0)))
theorem in_span {rs:List (List Int)} {r0 z:List Int} (hb:∀ r∈rs,RB 400 15 r∧FoldR r) (h0:RB 400 15 r0) (hz:RB 400 30 z) (hf:foldR z = z):foldR (addR r0 z)∈rs↔z∈rs.map fun r=>foldR (subR r r0):=by
 obtain ⟨x0,x1,x2,x3,x4,rfl,_,_,_,_,_⟩:=h0
 obtain ⟨z0,z1,z2,z3,z4,rfl,_,_,_,_,_⟩:=hz
 constructor
 ·intro h
  refine List.mem_map.mpr ⟨_,h,Eq.trans ?_ hf⟩
  refine foldR_tail (rb_of ?_ ?_ ?_ ?_) (rb_of (x0:=z0) (by omega) (by omega) (by omega) (by omega)) ?_ ?_ ?_ ?_
  ·show -60≤x1 + z1 - x1∧x1 + z1 - x1≤60; omega
  ·show -60≤x2 + z2 - x2∧x2 + z2 - x2≤60; omega
  ·show -60≤x3 + z3 - x3∧x3 + z3 - x3≤60; omega
  ·show -60≤x4 + z4 - x4∧x4 + z4 - x4≤60; omega
  ·show x1 + z1 - x1 = z1; omega
  ·show x2 + z2 - x2 = z2; omega
  ·show x3 + z3 - x3 = z3; omega
  ·show x4 + z4 - x4 = z4; omega
 ·intro h
  obtain ⟨r,hr,e⟩:=List.mem_map.mp h
  obtain ⟨x,f⟩:=hb r hr
  have i:=foldR_id (x.mono (by decide) (by decide):RB 400 60 r) (by decide) f
  obtain ⟨y0,y1,y2,y3,y4,rfl,_,_,_,_,_⟩:=x
  have e1:y1 - x1 = z1:=congrArg (fun l=>l.getD 1 0) e
  have e2:y2 - x2 = z2:=congrArg (fun l=>l.getD 2 0) e
  have e3:y3 - x3 = z3:=congrArg (fun l=>l.getD 3 0) e
  have e4:y4 - x4 = z4:=congrArg (fun l=>l.getD 4 0) e
  have g:foldR (addR [x0,x1,x2,x3,x4] [z0,z1,z2,z3,z4]) = foldR [y0,y1,y2,y3,y4]:=by
   refine foldR_tail (rb_of ?_ ?_ ?_ ?_) (rb_of (x0:=y0) (by omega) (by omega) (by omega) (by omega)) ?_ ?_ ?_ ?_
   ·show -60≤x1 + z1∧x1 + z1≤60; omega
   ·show -60≤x2 + z2∧x2 + z2≤60; omega
   ·show -60≤x3 + z3∧x3 + z3≤60; omega
   ·show -60≤x4 + z4∧x4 + z4≤60; omega
   ·show x1 + z1 = y1; omega
   ·show x2 + z2 = y2; omega
   ·show x3 + z3 = y3; omega
   ·show x4 + z4 = y4; omega
  rw [g,i]; exact hr
theorem eqv_bools (a b:Bool):PyData.eqv (.bool a) (.bool b) = (a == b):=by cases a <;> cases b <;> decide +kernel
theorem fold_13 {r:List Int} {f:Int} (x:RB f 13 r):RB 400 13 (foldR r):=by
 obtain ⟨a0,a1,a2,a3,a4,rfl,_,b1,b2,b3,b4⟩:=x
 exact ⟨_,_,_,_,_,rfl,Mth.fold_bd (by omega) (by omega) (by omega) (by omega) (Mth.fold_oct a0 a1 a2 a3 a4),b1,b2,b3,b4⟩
theorem len_sub:∀ (as bs:List (List Int)),as.Pairwise (fun x y=>x≠y)→(∀ x∈as,x∈bs)→as.length≤bs.length
 | [],_,_,_=>Nat.zero_le _
 | a :: as,bs,hp,hs=>by
  obtain ⟨h1,h2⟩:=List.pairwise_cons.mp hp
  have hm:=hs a (List.mem_cons_self ..)
  have:=len_sub as (bs.erase a) h2 fun x hx=>(List.mem_erase_of_ne fun e=>h1 x hx e.symm).mpr (hs x (List.mem_cons_of_mem _ hx))
  rw [List.length_erase_of_mem hm] at this
  have hp:0 < bs.length:=List.length_pos_of_mem hm
  rw [List.length_cons]; omega
theorem len_map_le {rs qs:List (List Int)} (so:qs.Pairwise fun x y=>nsr x < nsr y) (me:∀ q,q∈qs↔∃ r∈rs,q = foldR r):qs.length≤rs.length:=by
 have:=len_sub qs (rs.map foldR) (so.imp fun h e=>by rw [e] at h; omega) fun x hx=>by
  obtain ⟨r,hr,e⟩:=(me x).mp hx
  exact List.mem_map.mpr ⟨r,hr,e.symm⟩
 rwa [List.length_map] at this
theorem none_back {H H':Hp} {p:Addr} (s:Same H H') (n:H' p = none):H p = none:=by
 cases e:H p with
 | none=>rfl
 | some v=>rw [s _ _ e] at n; cases n
theorem fold_15 {r:List Int} {f:Int} (x:RB f 15 r):RB 400 15 (foldR r):=by
 obtain ⟨a0,a1,a2,a3,a4,rfl,_,b1,b2,b3,b4⟩:=x
 exact ⟨_,_,_,_,_,rfl,Mth.fold_bd (by omega) (by omega) (by omega) (by omega) (Mth.fold_oct a0 a1 a2 a3 a4),b1,b2,b3,b4⟩
theorem sub_15 {a b:List Int} (x:RB 400 15 a) (y:RB 400 15 b):RB 800 30 (subR a b):=by
 obtain ⟨a0,a1,a2,a3,a4,rfl,_,_,_,_,_⟩:=x
 obtain ⟨c0,c1,c2,c3,c4,rfl,_,_,_,_,_⟩:=y
 exact ⟨a0 - c0,a1 - c1,a2 - c2,a3 - c3,a4 - c4,rfl,by omega,by omega,by omega,by omega,by omega⟩
theorem apart_z {rs qs:List (List Int)} {r0 t z:List Int} (h:JustOne rs qs r0 t z) (b1:∀ r∈rs,RB 400 15 r) (b2:∀ r∈qs,RB 400 15 r) (h0:RB 400 15 r0) (ht:RB 400 15 t):RB 400 30 z∧foldR z = z:=by
 have key:∀ u v:List Int,RB 400 15 u→RB 400 15 v→RB 400 30 (foldR (subR u v))∧foldR (foldR (subR u v)) = foldR (subR u v):=fun u v hu hv=>by
  have w:=sub_15 hu hv
  exact ⟨fold_700 w,fold_fold (w.mono (by decide) (by decide):RB 800 60 _)⟩
 rcases h with ⟨h,_⟩ | ⟨h,_⟩
 ·obtain ⟨r,hr,rfl⟩:=List.mem_map.mp h
  exact key _ _ (b1 r hr) h0
 ·obtain ⟨r,hr,rfl⟩:=List.mem_map.mp h
  exact key _ _ (b2 r hr) ht
theorem foldR_f {r:List Int} {f h:Int} (x:RB f h r):FoldR (foldR r):=by
 obtain ⟨a0,a1,a2,a3,a4,rfl,_⟩:=x
 exact Mth.fold_oct a0 a1 a2 a3 a4
theorem alike_moved {rs qs:List (List Int)} {r0 t:List Int} (h:Alike rs qs r0 t) (b1:∀ r∈rs,RB 400 30 r) (b2:∀ r∈qs,RB 400 30 r∧FoldR r) (ht:t∈qs):Moved rs qs (foldR (subR t r0)):=fun q=>by
 have key:∀ r∈rs,∀ q∈qs,foldR (subR r r0) = foldR (subR q t)→q = foldR (addR r (foldR (subR t r0))):=fun r hr q hq e=>by
  obtain ⟨xq,fq⟩:=b2 q hq
  have e1:=congrArg (fun l=>l.getD 1 0) e
  have e2:=congrArg (fun l=>l.getD 2 0) e
  have e3:=congrArg (fun l=>l.getD 3 0) e
  have e4:=congrArg (fun l=>l.getD 4 0) e
  simp only [getD_foldR.1,getD_foldR.2.1,getD_foldR.2.2.1,getD_foldR.2.2.2] at e1 e2 e3 e4
  have i:=foldR_id (xq.mono (by decide) (by decide):RB 400 60 q) (by decide) fq
  obtain ⟨q0,q1,q2,q3,q4,rfl,_,_,_,_,_⟩:=xq
  have f1:r.getD 1 0 - r0.getD 1 0 = q1 - t.getD 1 0:=e1
  have f2:r.getD 2 0 - r0.getD 2 0 = q2 - t.getD 2 0:=e2
  have f3:r.getD 3 0 - r0.getD 3 0 = q3 - t.getD 3 0:=e3
  have f4:r.getD 4 0 - r0.getD 4 0 = q4 - t.getD 4 0:=e4
  refine i.symm.trans (foldR_tail (rb_of (by omega) (by omega) (by omega) (by omega)) (rb_of ?_ ?_ ?_ ?_) ?_ ?_ ?_ ?_)
  ·show -60≤r.getD 1 0 + (t.getD 1 0 - r0.getD 1 0)∧r.getD 1 0 + (t.getD 1 0 - r0.getD 1 0)≤60; omega
  ·show -60≤r.getD 2 0 + (t.getD 2 0 - r0.getD 2 0)∧r.getD 2 0 + (t.getD 2 0 - r0.getD 2 0)≤60; omega
  ·show -60≤r.getD 3 0 + (t.getD 3 0 - r0.getD 3 0)∧r.getD 3 0 + (t.getD 3 0 - r0.getD 3 0)≤60; omega
  ·show -60≤r.getD 4 0 + (t.getD 4 0 - r0.getD 4 0)∧r.getD 4 0 + (t.getD 4 0 - r0.getD 4 0)≤60; omega
  ·show q1 = r.getD 1 0 + (t.getD 1 0 - r0.getD 1 0); omega
  ·show q2 = r.getD 2 0 + (t.getD 2 0 - r0.getD 2 0); omega
  ·show q3 = r.getD 3 0 + (t.getD 3 0 - r0.getD 3 0); omega
  ·show q4 = r.getD 4 0 + (t.getD 4 0 - r0.getD 4 0); omega
 constructor
 ·intro hq
  obtain ⟨r,hr,e⟩:=List.mem_map.mp ((h _).mpr (List.mem_map.mpr ⟨q,hq,rfl⟩))
  exact ⟨r,hr,key r hr q hq e⟩
 ·rintro ⟨r,hr,rfl⟩
  obtain ⟨q,hq,e⟩:=List.mem_map.mp ((h _).mp (List.mem_map.mpr ⟨r,hr,rfl⟩))
  rw [← key r hr q hq e.symm]; exact hq
structure Adr where
 a_ONE:Addr
 a_PRIMES:Addr
structure Txt (K:PySem.W.Frag) (mg:Str→Option Value) (G:Adr):Prop where
 b_abs:mg "abs" = none
 b_all:mg "all" = none
 b_bool:mg "bool" = none
 b_int:mg "int" = none
 b_isinstance:mg "isinstance" = none
 b_len:mg "len" = none
 b_list:mg "list" = none
 b_max:mg "max" = none
 b_min:mg "min" = none
 b_range:mg "range" = none
 b_tuple:mg "tuple" = none
 b_zip:mg "zip" = none
 g_ONE:mg "ONE" = some (.ref G.a_ONE)
 q_ONE:Fixed K G.a_ONE [.int 0,.int 0,.int 0,.int 0,.int 0]
 g_PRIMES:mg "PRIMES" = some (.ref G.a_PRIMES)
 q_PRIMES:Fixed K G.a_PRIMES [.int 2,.int 3,.int 5,.int 7,.int 11]
def sp_over (K:PySem.W.Frag):Sp:=fun vs H Q _=>∃ a b a0 a1 a2 a3 a4 b0 b1 b2 b3 b4,vs = [.ref a,.ref b]∧SqT K H a [.int a0,.int a1,.int a2,.int a3,.int a4]∧SqT K H b [.int b0,.int b1,.int b2,.int b3,.int b4]∧∀ p H',Same H H'→H' p = some (.tup [.int (a0 - b0),.int (a1 - b1),.int (a2 - b2),.int (a3 - b3),.int (a4 - b4)])→Q (.ref p) H'
def sp_raised (K:PySem.W.Frag):Sp:=fun vs H Q _=>∃ b e:Int,vs = [.int b,.int e]∧(-16 < b∧b < 16)∧(-100000≤e∧e≤100000)∧Q (.int (b ^ e.toNat)) H
def sp_number_of (K:PySem.W.Frag):Sp:=fun vs H Q _=>∃ a kk e0 e1 e2 e3 e4,vs = [.ref a]∧Sq kk K H a [.int e0,.int e1,.int e2,.int e3,.int e4]∧(e0≤4000∧e1≤4000∧e2≤4000∧e3≤4000∧e4≤4000∧-100000≤e0∧-100000≤e1∧-100000≤e2∧-100000≤e3∧-100000≤e4)∧∀ H',Same H H'→Q (.int (Mth.prod5 e0.toNat e1.toNat e2.toNat e3.toNat e4.toNat)) H'
def sp_fraction_of (K:PySem.W.Frag):Sp:=fun vs H Q _=>∃ a a0 a1 a2 a3 a4,vs = [.ref a]∧SqT K H a [.int a0,.int a1,.int a2,.int a3,.int a4]∧Mth.Bd a0 a1 a2 a3 a4∧∀ p H',Same H H'→H' p = some (.tup [.int (Mth.top5 a0 a1 a2 a3 a4),.int (Mth.bot5 a0 a1 a2 a3 a4)])→Q (.ref p) H'
def sp_octaves (K:PySem.W.Frag):Sp:=fun vs H Q _=>∃ a a0 a1 a2 a3 a4,vs = [.ref a]∧SqT K H a [.int a0,.int a1,.int a2,.int a3,.int a4]∧Mth.Bd a0 a1 a2 a3 a4∧∀ H',Same H H'→Q (.int (Mth.octR (Mth.top5 a0 a1 a2 a3 a4) (Mth.bot5 a0 a1 a2 a3 a4))) H'
def sp_folded (K:PySem.W.Frag):Sp:=fun vs H Q _=>∃ a a0 a1 a2 a3 a4,vs = [.ref a]∧SqT K H a [.int a0,.int a1,.int a2,.int a3,.int a4]∧Mth.Bd a0 a1 a2 a3 a4∧∀ p H',Same H H'→H' p = some (.tup [.int (a0 - Mth.octR (Mth.top5 a0 a1 a2 a3 a4) (Mth.bot5 a0 a1 a2 a3 a4)),.int a1,.int a2,.int a3,.int a4])→Q (.ref p) H'
def sp_reach (K:PySem.W.Frag):Sp:=fun vs H Q E=>∃ (a b:Addr) (xs:List V) (rs:List (List Int)) (t:List Int),vs = [.ref a,.ref b]∧SqL K H a xs∧RowsL K H xs rs∧(∀ r∈rs,RB 400 30 r)∧rs.length≤60∧SqT K H b (t.map V.int)∧RB 400 30 t∧∀ p ys H',Same H H'→H' p = some (.lst ys)→RowsL K H' ys (rs.map fun r=>foldR (subR r t))→Q (.ref p) H'
def sp_only_one_has (K:PySem.W.Frag):Sp:=fun vs H Q E=>∃ (a b:Addr) (xs ys:List V) (ps qs:List (List Int)),vs = [.ref a,.ref b]∧SqL K H a xs∧RowsL K H xs ps∧SqL K H b ys∧RowsL K H ys qs∧ps.length≤60∧qs.length≤60∧∀ v H',Same H H'→(((∀ x,x∈ps↔x∈qs)∧v = .non)∨((¬ ∀ x,x∈ps↔x∈qs)∧∃ c z,v = .ref c∧SqT K H' c (z.map V.int)∧((z∈ps∧z∉qs)∨(z∈qs∧z∉ps))))→Q v H'
def sp_move_between (K:PySem.W.Frag):Sp:=fun vs H Q E=>∃ (a b:Addr) (xs ys:List V) (rs qs:List (List Int)),vs = [.ref a,.ref b]∧(SqL K H a xs)∧(RowsL K H xs rs)∧(SqL K H b ys)∧(RowsL K H ys qs)∧(rs.length≤60)∧(qs.length≤60)∧(∀ r∈rs,RB 400 15 r∧FoldR r)∧(∀ r∈qs,RB 400 15 r∧FoldR r)∧(∀ p c s H',Same H H'→H' p = some (.tup [.str "move",.ref c])→SqT K H' c (s.map V.int)→RB 400 30 s→foldR s = s→Moved rs qs s→(rs = []→s = [0,0,0,0,0])→Q (.ref p) H')∧(∀ p c ws zs H',Same H H'→H' p = some (.tup [.str "apart",.ref c])→H' c = some (.lst ws)→RowsL K H' ws zs→(((rs = []∨qs = [])∧rs≠qs∧zs = [])∨(rs≠[]∧qs≠[]∧zs.length = qs.length∧∃ r0,rs[(0:Nat)]? = some r0∧∀ (i:Nat) t z,qs[i]? = some t→zs[i]? = some z→JustOne rs qs r0 t z))→Q (.ref p) H')
def sp_law_mixed (K:PySem.W.Frag):Sp:=fun vs H Q E=>∃ (a:Addr) (ns:List Int) (j:Int),vs = [.ref a,.int j]∧SqL K H a (ns.map V.int)∧(0≤j∧j≤1000)∧∀ n:Int,0≤n∧n < 2147483629→Q (.int n) H
def sp_law_number (K:PySem.W.Frag):Sp:=fun vs H Q E=>∃ (a:Addr) (ns:List Int) (j:Int),vs = [.ref a,.int j]∧SqL K H a (ns.map V.int)∧(0≤j∧j≤100)∧∀ n:Int,0≤n∧n≤2 * 10 ^ 60→Q (.int n) H
def sp_law_row (K:PySem.W.Frag):Sp:=fun vs H Q E=>∃ n f h:Int,vs = [.int n,.int f,.int h]∧0≤n∧(0≤f∧f≤1000)∧(0≤h∧h≤60)∧∀ p r H',Same H H'→H' p = some (.tup (r.map V.int))→RB f h r→Q (.ref p) H'
def sp_law_fraction (K:PySem.W.Frag):Sp:=fun vs H Q _=>∃ a e0 e1 e2 e3 e4,vs = [.ref a]∧SqT K H a [.int e0,.int e1,.int e2,.int e3,.int e4]∧Mth.Bd e0 e1 e2 e3 e4∧∀ p H',Same H H'→H' p = some (.tup [.int (Mth.top5 e0 e1 e2 e3 e4),.int (Mth.bot5 e0 e1 e2 e3 e4)])→Q (.ref p) H'
def sp_law_folded (K:PySem.W.Frag):Sp:=fun vs H Q _=>∃ (a:Addr) (r:List Int),vs = [.ref a]∧SqT K H a (r.map V.int)∧RB 1000 60 r∧∀ p H',Same H H'→H' p = some (.tup ((foldR r).map V.int))→Q (.ref p) H'
def sp_law_plus (K:PySem.W.Frag):Sp:=fun vs H Q _=>∃ a b a0 a1 a2 a3 a4 b0 b1 b2 b3 b4,vs = [.ref a,.ref b]∧SqT K H a [.int a0,.int a1,.int a2,.int a3,.int a4]∧SqT K H b [.int b0,.int b1,.int b2,.int b3,.int b4]∧∀ p H',Same H H'→H' p = some (.tup [.int (a0 + b0),.int (a1 + b1),.int (a2 + b2),.int (a3 + b3),.int (a4 + b4)])→Q (.ref p) H'
def sp_law_less (K:PySem.W.Frag):Sp:=fun vs H Q _=>∃ a b a0 a1 a2 a3 a4 b0 b1 b2 b3 b4,vs = [.ref a,.ref b]∧SqT K H a [.int a0,.int a1,.int a2,.int a3,.int a4]∧SqT K H b [.int b0,.int b1,.int b2,.int b3,.int b4]∧∀ p H',Same H H'→H' p = some (.tup [.int (a0 - b0),.int (a1 - b1),.int (a2 - b2),.int (a3 - b3),.int (a4 - b4)])→Q (.ref p) H'
def sp_law_lower (K:PySem.W.Frag):Sp:=fun vs H Q _=>∃ (a b:Addr) (r q:List Int),vs = [.ref a,.ref b]∧SqT K H a (r.map V.int)∧SqT K H b (q.map V.int)∧RB 1000 30 r∧RB 1000 30 q∧∀ H',Same H H'→Q (.bl (decide (nsr r < nsr q))) H'
def sp_law_scale (K:PySem.W.Frag):Sp:=fun vs H Q _=>∃ (a:Addr) (xs:List V) (rs:List (List Int)),vs = [.ref a]∧SqL K H a xs∧RowsL K H xs rs∧(∀ r∈rs,RB 1000 30 r∧FoldR r)∧rs.length≤60∧∀ p ys qs H',Same H H'→H' p = some (.lst ys)→RowsL K H' ys qs→(qs.Pairwise fun x y=>nsr x < nsr y)→(∀ q,q∈qs↔q∈rs)→qs.length≤60→Q (.ref p) H'
def sp_law_is_row (K:PySem.W.Frag):Sp:=fun vs H Q _=>∃ a e0 e1 e2 e3 e4,vs = [.ref a]∧SqT K H a [.int e0,.int e1,.int e2,.int e3,.int e4]∧∀ H',Same H H'→Q (.bl true) H'
def sp_law_rows (K:PySem.W.Frag):Sp:=fun vs H Q _=>∃ (l m:Addr) (xs ys:List V) (rs:List (List Int)),vs = [.ref l,.ref m]∧SqL K H l xs∧SqL K H m ys∧RowsL K H xs rs∧RowsL K H ys rs∧(∀ r∈rs,∃ a0 a1 a2 a3 a4:Int,r = [a0,a1,a2,a3,a4])∧rs.length≤60∧∀ H',Same H H'→Q (.bl true) H'
def sp_law_tones (K:PySem.W.Frag):Sp:=fun vs H Q E=>∃ (a:Addr) (ns:List Int) (j n h:Int),vs = [.ref a,.int j,.int n,.int h]∧(SqL K H a (ns.map V.int))∧(0≤j∧j≤20)∧(0≤n∧n≤20)∧(0≤h∧h≤30)∧(∀ p ys rs H',Same H H'→H' p = some (.lst ys)→RowsL K H' ys rs→(∀ r∈rs,RB 30 h r)→rs.length≤20→Q (.ref p) H')
def sp_law_made (K:PySem.W.Frag):Sp:=fun vs H Q E=>∃ (a:Addr) (xs:List V) (rs:List (List Int)),vs = [.ref a]∧SqL K H a xs∧RowsL K H xs rs∧(∀ r∈rs,RB 1000 60 r∧RB 1000 30 (foldR r))∧rs.length≤60∧∀ p ys qs H',Same H H'→H' p = some (.lst ys)→RowsL K H' ys qs→(qs.Pairwise fun x y=>nsr x < nsr y)→(∀ q,q∈qs↔∃ r∈rs,q = foldR r)→qs.length≤60→Q (.ref p) H'
def sp_law_changed (K:PySem.W.Frag):Sp:=fun vs H Q E=>∃ (a b:Addr) (ns:List Int) (xs:List V) (rs:List (List Int)) (d:Int),vs = [.ref a,.ref b,.int d]∧(SqL K H a (ns.map V.int))∧(H b = some (.lst xs))∧(RowsL K H xs rs)∧(rs.length≤20)∧(∀ r∈rs,RB 400 13 r)∧(0≤d)∧(∀ p ys qs H',Same H H'→H' p = some (.lst ys)→RowsL K H' ys qs→(qs.Pairwise fun x y=>nsr x < nsr y)→(∀ q∈qs,RB 400 15 q∧FoldR q)→qs.length≤60→Q (.ref p) H')
def sp_law_pair (K:PySem.W.Frag):Sp:=fun vs H Q E=>∃ (a:Addr) (ns:List Int) (c:Int),vs = [.ref a,.int c]∧(SqL K H a (ns.map V.int))∧(0≤c)∧(∀ p c1 c2 ys1 ys2 rs qs H',Same H H'→H' p = some (.tup [.ref c1,.ref c2])→H' c1 = some (.lst ys1)→H' c2 = some (.lst ys2)→RowsL K H' ys1 rs→RowsL K H' ys2 qs→(qs.Pairwise fun x y=>nsr x < nsr y)→(∀ r∈rs,RB 400 15 r∧FoldR r)→(∀ r∈qs,RB 400 15 r∧FoldR r)→rs.length≤60→qs.length≤60→Q (.ref p) H')
def sp_law_is_folded (K:PySem.W.Frag):Sp:=fun vs H Q E=>∃ (a:Addr) (z:List Int),vs = [.ref a]∧SqT K H a (z.map V.int)∧RB 700 60 z∧foldR z = z∧∀ H',Same H H'→Q (.bl true) H'
def sp_law_told (K:PySem.W.Frag):Sp:=fun vs H Q E=>∃ (a b c:Addr) (xs ys ws:List V) (rs qs zs:List (List Int)),vs = [.ref a,.ref b,.ref c]∧(SqL K H a xs)∧(RowsL K H xs rs)∧(SqL K H b ys)∧(RowsL K H ys qs)∧(SqL K H c ws)∧(RowsL K H ws zs)∧(rs.length≤60)∧(qs.length≤60)∧(∀ r∈rs,RB 400 15 r∧FoldR r)∧(∀ r∈qs,RB 400 15 r∧FoldR r)∧(((rs = []∨qs = [])∧rs≠qs∧zs = [])∨(rs≠[]∧qs≠[]∧zs.length = qs.length∧∃ r0,rs[(0:Nat)]? = some r0∧∀ (i:Nat) t z,qs[i]? = some t→zs[i]? = some z→JustOne rs qs r0 t z))∧(∀ H',Same H H'→Q (.bl true) H')
section
variable {K:PySem.W.Frag} {H:Hp} {Q:VK} {E:XK}
theorem c_over {a b:Addr} {a0 a1 a2 a3 a4 b0 b1 b2 b3 b4:Int} (ha:SqT K H a [.int a0,.int a1,.int a2,.int a3,.int a4]) (hb:SqT K H b [.int b0,.int b1,.int b2,.int b3,.int b4]) (k:∀ p H',Same H H'→H' p = some (.tup [.int (a0 - b0),.int (a1 - b1),.int (a2 - b2),.int (a3 - b3),.int (a4 - b4)])→Q (.ref p) H'):sp_over K [.ref a,.ref b] H Q E:=⟨a,b,a0,a1,a2,a3,a4,b0,b1,b2,b3,b4,rfl,ha,hb,k⟩
theorem c_raised {b e:Int} (hb:-16 < b∧b < 16) (he:-100000≤e∧e≤100000) (k:Q (.int (b ^ e.toNat)) H):sp_raised K [.int b,.int e] H Q E:=⟨b,e,rfl,hb,he,k⟩
theorem c_number_of {a:Addr} {kk:Bool} {e0 e1 e2 e3 e4:Int} (ha:Sq kk K H a [.int e0,.int e1,.int e2,.int e3,.int e4]) (hb:e0≤4000∧e1≤4000∧e2≤4000∧e3≤4000∧e4≤4000∧-100000≤e0∧-100000≤e1∧-100000≤e2∧-100000≤e3∧-100000≤e4) (k:∀ H',Same H H'→Q (.int (Mth.prod5 e0.toNat e1.toNat e2.toNat e3.toNat e4.toNat)) H'):sp_number_of K [.ref a] H Q E:=⟨a,kk,e0,e1,e2,e3,e4,rfl,ha,hb,k⟩
theorem c_fraction_of {a:Addr} {a0 a1 a2 a3 a4:Int} (ha:SqT K H a [.int a0,.int a1,.int a2,.int a3,.int a4]) (hb:Mth.Bd a0 a1 a2 a3 a4) (k:∀ p H',Same H H'→H' p = some (.tup [.int (Mth.top5 a0 a1 a2 a3 a4),.int (Mth.bot5 a0 a1 a2 a3 a4)])→Q (.ref p) H'):sp_fraction_of K [.ref a] H Q E:=⟨a,a0,a1,a2,a3,a4,rfl,ha,hb,k⟩
theorem c_octaves {a:Addr} {a0 a1 a2 a3 a4:Int} (ha:SqT K H a [.int a0,.int a1,.int a2,.int a3,.int a4]) (hb:Mth.Bd a0 a1 a2 a3 a4) (k:∀ H',Same H H'→Q (.int (Mth.octR (Mth.top5 a0 a1 a2 a3 a4) (Mth.bot5 a0 a1 a2 a3 a4))) H'):sp_octaves K [.ref a] H Q E:=⟨a,a0,a1,a2,a3,a4,rfl,ha,hb,k⟩
theorem c_folded {a:Addr} {a0 a1 a2 a3 a4:Int} (ha:SqT K H a [.int a0,.int a1,.int a2,.int a3,.int a4]) (hb:Mth.Bd a0 a1 a2 a3 a4) (k:∀ p H',Same H H'→H' p = some (.tup [.int (a0 - Mth.octR (Mth.top5 a0 a1 a2 a3 a4) (Mth.bot5 a0 a1 a2 a3 a4)),.int a1,.int a2,.int a3,.int a4])→Q (.ref p) H'):sp_folded K [.ref a] H Q E:=⟨a,a0,a1,a2,a3,a4,rfl,ha,hb,k⟩
theorem c_reach {a b:Addr} {xs:List V} {rs:List (List Int)} {t:List Int} (ha:SqL K H a xs) (hr:RowsL K H xs rs) (hb:∀ r∈rs,RB 400 30 r) (hn:rs.length≤60) (ht:SqT K H b (t.map V.int)) (bt:RB 400 30 t) (k:∀ p ys H',Same H H'→H' p = some (.lst ys)→RowsL K H' ys (rs.map fun r=>foldR (subR r t))→Q (.ref p) H'):sp_reach K [.ref a,.ref b] H Q E:=⟨a,b,xs,rs,t,rfl,ha,hr,hb,hn,ht,bt,k⟩
theorem c_only_one_has {a b:Addr} {xs ys:List V} {ps qs:List (List Int)} (ha:SqL K H a xs) (hp:RowsL K H xs ps) (hb:SqL K H b ys) (hq:RowsL K H ys qs) (n1:ps.length≤60) (n2:qs.length≤60) (k:∀ v H',Same H H'→(((∀ x,x∈ps↔x∈qs)∧v = .non)∨((¬ ∀ x,x∈ps↔x∈qs)∧∃ c z,v = .ref c∧SqT K H' c (z.map V.int)∧((z∈ps∧z∉qs)∨(z∈qs∧z∉ps))))→Q v H'):sp_only_one_has K [.ref a,.ref b] H Q E:=⟨a,b,xs,ys,ps,qs,rfl,ha,hp,hb,hq,n1,n2,k⟩
theorem c_move_between {a b:Addr} {xs ys:List V} {rs qs:List (List Int)} (ha:SqL K H a xs) (hr:RowsL K H xs rs) (hb:SqL K H b ys) (hq:RowsL K H ys qs) (n1:rs.length≤60) (n2:qs.length≤60) (b1:∀ r∈rs,RB 400 15 r∧FoldR r) (b2:∀ r∈qs,RB 400 15 r∧FoldR r) (k1:∀ p c s H',Same H H'→H' p = some (.tup [.str "move",.ref c])→SqT K H' c (s.map V.int)→RB 400 30 s→foldR s = s→Moved rs qs s→(rs = []→s = [0,0,0,0,0])→Q (.ref p) H') (k2:∀ p c ws zs H',Same H H'→H' p = some (.tup [.str "apart",.ref c])→H' c = some (.lst ws)→RowsL K H' ws zs→(((rs = []∨qs = [])∧rs≠qs∧zs = [])∨(rs≠[]∧qs≠[]∧zs.length = qs.length∧∃ r0,rs[(0:Nat)]? = some r0∧∀ (i:Nat) t z,qs[i]? = some t→zs[i]? = some z→JustOne rs qs r0 t z))→Q (.ref p) H'):sp_move_between K [.ref a,.ref b] H Q E:=⟨a,b,xs,ys,rs,qs,rfl,ha,hr,hb,hq,n1,n2,b1,b2,k1,k2⟩
theorem c_law_mixed {a:Addr} {ns:List Int} {j:Int} (ha:SqL K H a (ns.map V.int)) (hj:0≤j∧j≤1000) (k:∀ n:Int,0≤n∧n < 2147483629→Q (.int n) H):sp_law_mixed K [.ref a,.int j] H Q E:=⟨a,ns,j,rfl,ha,hj,k⟩
theorem c_law_number {a:Addr} {ns:List Int} {j:Int} (ha:SqL K H a (ns.map V.int)) (hj:0≤j∧j≤100) (k:∀ n:Int,0≤n∧n≤2 * 10 ^ 60→Q (.int n) H):sp_law_number K [.ref a,.int j] H Q E:=⟨a,ns,j,rfl,ha,hj,k⟩
theorem c_law_row {n f h:Int} (hn:0≤n) (hf:0≤f∧f≤1000) (hh:0≤h∧h≤60) (k:∀ p r H',Same H H'→H' p = some (.tup (r.map V.int))→RB f h r→Q (.ref p) H'):sp_law_row K [.int n,.int f,.int h] H Q E:=⟨n,f,h,rfl,hn,hf,hh,k⟩
theorem c_law_fraction {a:Addr} {e0 e1 e2 e3 e4:Int} (ha:SqT K H a [.int e0,.int e1,.int e2,.int e3,.int e4]) (hb:Mth.Bd e0 e1 e2 e3 e4) (k:∀ p H',Same H H'→H' p = some (.tup [.int (Mth.top5 e0 e1 e2 e3 e4),.int (Mth.bot5 e0 e1 e2 e3 e4)])→Q (.ref p) H'):sp_law_fraction K [.ref a] H Q E:=⟨a,e0,e1,e2,e3,e4,rfl,ha,hb,k⟩
theorem c_law_folded {a:Addr} {r:List Int} (ha:SqT K H a (r.map V.int)) (hb:RB 1000 60 r) (k:∀ p H',Same H H'→H' p = some (.tup ((foldR r).map V.int))→Q (.ref p) H'):sp_law_folded K [.ref a] H Q E:=⟨a,r,rfl,ha,hb,k⟩
theorem c_law_plus {a b:Addr} {a0 a1 a2 a3 a4 b0 b1 b2 b3 b4:Int} (ha:SqT K H a [.int a0,.int a1,.int a2,.int a3,.int a4]) (hb:SqT K H b [.int b0,.int b1,.int b2,.int b3,.int b4]) (k:∀ p H',Same H H'→H' p = some (.tup [.int (a0 + b0),.int (a1 + b1),.int (a2 + b2),.int (a3 + b3),.int (a4 + b4)])→Q (.ref p) H'):sp_law_plus K [.ref a,.ref b] H Q E:=⟨a,b,a0,a1,a2,a3,a4,b0,b1,b2,b3,b4,rfl,ha,hb,k⟩
theorem c_law_less {a b:Addr} {a0 a1 a2 a3 a4 b0 b1 b2 b3 b4:Int} (ha:SqT K H a [.int a0,.int a1,.int a2,.int a3,.int a4]) (hb:SqT K H b [.int b0,.int b1,.int b2,.int b3,.int b4]) (k:∀ p H',Same H H'→H' p = some (.tup [.int (a0 - b0),.int (a1 - b1),.int (a2 - b2),.int (a3 - b3),.int (a4 - b4)])→Q (.ref p) H'):sp_law_less K [.ref a,.ref b] H Q E:=⟨a,b,a0,a1,a2,a3,a4,b0,b1,b2,b3,b4,rfl,ha,hb,k⟩
theorem c_law_lower {a b:Addr} {r q:List Int} (ha:SqT K H a (r.map V.int)) (hb:SqT K H b (q.map V.int)) (h1:RB 1000 30 r) (h2:RB 1000 30 q) (k:∀ H',Same H H'→Q (.bl (decide (nsr r < nsr q))) H'):sp_law_lower K [.ref a,.ref b] H Q E:=⟨a,b,r,q,rfl,ha,hb,h1,h2,k⟩
theorem c_law_scale {a:Addr} {xs:List V} {rs:List (List Int)} (ha:SqL K H a xs) (hr:RowsL K H xs rs) (hb:∀ r∈rs,RB 1000 30 r∧FoldR r) (hn:rs.length≤60) (k:∀ p ys qs H',Same H H'→H' p = some (.lst ys)→RowsL K H' ys qs→(qs.Pairwise fun x y=>nsr x < nsr y)→(∀ q,q∈qs↔q∈rs)→qs.length≤60→Q (.ref p) H'):sp_law_scale K [.ref a] H Q E:=⟨a,xs,rs,rfl,ha,hr,hb,hn,k⟩
theorem c_law_is_row {a:Addr} {e0 e1 e2 e3 e4:Int} (ha:SqT K H a [.int e0,.int e1,.int e2,.int e3,.int e4]) (k:∀ H',Same H H'→Q (.bl true) H'):sp_law_is_row K [.ref a] H Q E:=⟨a,e0,e1,e2,e3,e4,rfl,ha,k⟩
theorem c_law_rows {l m:Addr} {xs ys:List V} {rs:List (List Int)} (h1:SqL K H l xs) (h2:SqL K H m ys) (h3:RowsL K H xs rs) (h4:RowsL K H ys rs) (hb:∀ r∈rs,∃ a0 a1 a2 a3 a4:Int,r = [a0,a1,a2,a3,a4]) (hn:rs.length≤60) (k:∀ H',Same H H'→Q (.bl true) H'):sp_law_rows K [.ref l,.ref m] H Q E:=⟨l,m,xs,ys,rs,rfl,h1,h2,h3,h4,hb,hn,k⟩
theorem c_law_tones {a:Addr} {ns:List Int} {j n h:Int} (ha:SqL K H a (ns.map V.int)) (hj:0≤j∧j≤20) (hn:0≤n∧n≤20) (hh:0≤h∧h≤30) (k:∀ p ys rs H',Same H H'→H' p = some (.lst ys)→RowsL K H' ys rs→(∀ r∈rs,RB 30 h r)→rs.length≤20→Q (.ref p) H'):sp_law_tones K [.ref a,.int j,.int n,.int h] H Q E:=⟨a,ns,j,n,h,rfl,ha,hj,hn,hh,k⟩
theorem c_law_made {a:Addr} {xs:List V} {rs:List (List Int)} (ha:SqL K H a xs) (hr:RowsL K H xs rs) (hb:∀ r∈rs,RB 1000 60 r∧RB 1000 30 (foldR r)) (hn:rs.length≤60) (k:∀ p ys qs H',Same H H'→H' p = some (.lst ys)→RowsL K H' ys qs→(qs.Pairwise fun x y=>nsr x < nsr y)→(∀ q,q∈qs↔∃ r∈rs,q = foldR r)→qs.length≤60→Q (.ref p) H'):sp_law_made K [.ref a] H Q E:=⟨a,xs,rs,rfl,ha,hr,hb,hn,k⟩
theorem c_law_changed {a b:Addr} {ns:List Int} {xs:List V} {rs:List (List Int)} {d:Int} (ha:SqL K H a (ns.map V.int)) (hb:H b = some (.lst xs)) (hr:RowsL K H xs rs) (hn:rs.length≤20) (b1:∀ r∈rs,RB 400 13 r) (hd:0≤d) (k:∀ p ys qs H',Same H H'→H' p = some (.lst ys)→RowsL K H' ys qs→(qs.Pairwise fun x y=>nsr x < nsr y)→(∀ q∈qs,RB 400 15 q∧FoldR q)→qs.length≤60→Q (.ref p) H'):sp_law_changed K [.ref a,.ref b,.int d] H Q E:=⟨a,b,ns,xs,rs,d,rfl,ha,hb,hr,hn,b1,hd,k⟩
theorem c_law_pair {a:Addr} {ns:List Int} {c:Int} (ha:SqL K H a (ns.map V.int)) (hc:0≤c) (k:∀ p c1 c2 ys1 ys2 rs qs H',Same H H'→H' p = some (.tup [.ref c1,.ref c2])→H' c1 = some (.lst ys1)→H' c2 = some (.lst ys2)→RowsL K H' ys1 rs→RowsL K H' ys2 qs→(qs.Pairwise fun x y=>nsr x < nsr y)→(∀ r∈rs,RB 400 15 r∧FoldR r)→(∀ r∈qs,RB 400 15 r∧FoldR r)→rs.length≤60→qs.length≤60→Q (.ref p) H'):sp_law_pair K [.ref a,.int c] H Q E:=⟨a,ns,c,rfl,ha,hc,k⟩
theorem c_law_is_folded {a:Addr} {z:List Int} (ha:SqT K H a (z.map V.int)) (hb:RB 700 60 z) (hf:foldR z = z) (k:∀ H',Same H H'→Q (.bl true) H'):sp_law_is_folded K [.ref a] H Q E:=⟨a,z,rfl,ha,hb,hf,k⟩
theorem c_law_told {a b c:Addr} {xs ys ws:List V} {rs qs zs:List (List Int)} (ha:SqL K H a xs) (hr:RowsL K H xs rs) (hb:SqL K H b ys) (hq:RowsL K H ys qs) (hc:SqL K H c ws) (hz:RowsL K H ws zs) (n1:rs.length≤60) (n2:qs.length≤60) (b1:∀ r∈rs,RB 400 15 r∧FoldR r) (b2:∀ r∈qs,RB 400 15 r∧FoldR r) (ap:((rs = []∨qs = [])∧rs≠qs∧zs = [])∨(rs≠[]∧qs≠[]∧zs.length = qs.length∧∃ r0,rs[(0:Nat)]? = some r0∧∀ (i:Nat) t z,qs[i]? = some t→zs[i]? = some z→JustOne rs qs r0 t z)) (k:∀ H',Same H H'→Q (.bl true) H'):sp_law_told K [.ref a,.ref b,.ref c] H Q E:=⟨a,b,c,xs,ys,ws,rs,qs,zs,rfl,ha,hr,hb,hq,hc,hz,n1,n2,b1,b2,ap,k⟩
end
local macro_rules | `(tactic| walk_at "hf") => `(tactic| first | assumption | exact L2.SqT.of (by assumption) | exact L2.SqL.of (by assumption) | exact L2.Fixed.at (by assumption) | ((with_reducible apply L2.sqt_sq); (walk_at "hf")) | ((with_reducible apply L2.sql_sq); (walk_at "hf")) | ((with_reducible apply L2.Same.at); (assumption); (walk_at "hf")) | ((with_reducible apply L2.Same.seq); (assumption); (walk_at "hf")) | ((with_reducible apply L2.Same.lst); (assumption); (walk_at "hf")) | ((with_reducible apply L2.Same.sq); (assumption); (walk_at "hf")))
local macro_rules | `(tactic| walk_at "sm") => `(tactic| first | exact L2.Same.refl _ | assumption | ((refine L2.Same.trans ?_ (by assumption)); walk_at "sm"))
local macro_rules | `(tactic| walk_at "side") => `(tactic| first | (show (0 : Int) < _; first | decide | omega) | exact ⟨by decide, by decide⟩ | exact ⟨by omega, by omega⟩ | exact Or.inl ⟨by decide, by decide⟩ | exact Or.inr ⟨by decide, by decide⟩ | exact Or.inr ⟨by omega, by omega⟩ | exact Or.inl ⟨by omega, by omega⟩ | exact ⟨by decide, by decide, by decide⟩ | assumption)
local macro_rules | `(tactic| walk_at "p") => `(tactic| first
 | (with_reducible refine L2.r_seq ?_) | (with_reducible refine L2.r_asg ?_) | (with_reducible refine L2.r_gname ?_) | (with_reducible refine L2.r_ret ?_) | (with_reducible refine L2.r_drop ?_) | (with_reducible refine L2.r_next ?_)
 | ((with_reducible apply L2.r_var); (exact rfl)) | (with_reducible refine L2.r_c ?_) | (with_reducible refine L2.r_op ?_) | (with_reducible refine L2.r_un ?_) | (with_reducible refine L2.r_b ?_) | (with_reducible refine L2.r_test ?_) | (with_reducible refine L2.r_isbl ?_)
 | (with_reducible refine L2.r_and ?_) | (with_reducible refine L2.r_or ?_) | (with_reducible refine L2.r_not ?_) | (with_reducible refine L2.r_andV ?_) | (with_reducible refine L2.r_notV ?_) | (with_reducible refine L2.r_ife ?_)
 | (with_reducible refine L2.r_I0 ?_) | ((with_reducible refine L2.r_I ?_ ?_); (walk_at "side")) | (with_reducible refine L2.r_U ?_) | (with_reducible refine L2.r_eqI ?_) | (with_reducible refine L2.r_neI ?_) | (with_reducible refine L2.r_nil ?_) | (with_reducible refine L2.r_cons ?_) | (with_reducible refine L2.r_tup ?_) | (with_reducible refine L2.r_lst ?_) | ((with_reducible refine L2.r_newT ?_ ?_); (first | exact Nat.le_of_ble_eq_true rfl | (focus (simp; done)) | (focus (simp; omega))); intro p_ H_ s_ m_) | ((with_reducible refine L2.r_newL ?_ ?_); (first | exact Nat.le_of_ble_eq_true rfl | (focus (simp; done)) | (focus (simp; omega))); intro p_ H_ n_ s_ m_)
 | (with_reducible refine L2.r_cb ?_) | (with_reducible refine L2.r_call0 ?_) | (with_reducible refine L2.r_comp ?_) | (with_reducible refine L2.r_sl ?_) | (with_reducible refine L2.r_nopart ?_) | (with_reducible refine L2.r_part ?_) | (with_reducible refine L2.r_isint ?_) | (with_reducible refine L2.r_bm ?_) | (with_reducible refine L2.r_bm0 ?_)
 | (with_reducible refine L2.r_for ?_) | (with_reducible refine L2.r_ilist ?_) | (with_reducible refine L2.r_itup ?_) | (with_reducible refine L2.r_irng ?_) | (with_reducible refine L2.r_izip ?_)
 | ((with_reducible apply L2.r_isl); (walk_at "hf")) | ((with_reducible apply L2.r_ist); (walk_at "hf")) | ((with_reducible refine L2.r_isr ?_ ?_ ?_); (first | decide | omega); (first | decide | omega)) | ((with_reducible apply L2.r_isz); (walk_at "hf"); (walk_at "hf"))
 | ((with_reducible apply L2.r_lenT); (walk_at "hf")) | ((with_reducible apply L2.r_lenL); (walk_at "hf"))
 | ((with_reducible apply L2.r_tupleL); (walk_at "hf"); intro p_ H_ s_ m_) | ((with_reducible apply L2.r_listL); (walk_at "hf"); intro p_ H_ n_ s_ m_) | (with_reducible refine L2.r_abs ?_) | (with_reducible refine L2.r_max ?_) | (with_reducible refine L2.r_min ?_) | (with_reducible refine L2.r_bitlen ?_)
 | ((with_reducible apply L2.r_isiT); (walk_at "hf"); (first | exact L2.kit_same _ _ | exact rfl)) | ((with_reducible apply L2.r_isiL); (walk_at "hf"); (first | exact L2.kit_same _ _ | exact rfl)) | ((with_reducible apply L2.r_isiI); (first | exact L2.kit_same _ _ | exact rfl)) | ((with_reducible refine L2.r_typed0 ?_ ?_); (first | exact rfl | exact Or.inl ⟨rfl,_,by walk_at "hf"⟩)) | ((with_reducible refine L2.r_typed ?_ ?_); (first | exact rfl | exact Or.inl ⟨rfl,_,by walk_at "hf"⟩))
 | ((with_reducible apply L2.r_cat); (walk_at "hf"); (walk_at "hf"); (first | exact Nat.le_of_ble_eq_true rfl | (focus (simp; done)) | (focus (simp; omega))); intro p_ H_ n_ s_ m_)
 | ((with_reducible apply L2.r_slT1); (walk_at "hf"); intro p_ H_ s_ m_)
 | ((with_reducible apply L2.r_catT); (walk_at "hf"); (walk_at "hf"); (exact List.cons_ne_nil _ _); (exact List.cons_ne_nil _ _); (first | exact Nat.le_of_ble_eq_true rfl | (focus (simp; done)) | (focus (simp; omega))); intro p_ H_ s_ m_)
 )
local macro_rules | `(tactic| walk_at "q") => `(tactic| first | (walk_at "p") | (with_reducible refine L2.r_ifs ?_))
local macro_rules | `(tactic| walk_at "x") => `(tactic| first | ((with_reducible apply L2.r_ixT); (walk_at "hf"); (exact rfl)) | ((with_reducible apply L2.r_ixL); (walk_at "hf"); (exact rfl)))
local macro_rules | `(tactic| walk_at "r") => `(tactic| first | (walk_at "q") | (walk_at "x"))
local macro_rules | `(tactic| walk_at "v") => `(tactic| repeat walk_at "q")
local macro_rules | `(tactic| walk_at "j") => `(tactic| repeat (first | (walk_at "p") | (walk_at "x")))
local macro_rules | `(tactic| walk_at "p") => `(tactic| ((with_reducible apply c_over); (walk_at "hf"); (walk_at "hf"); intro p_ H_ s_ m_))
local macro_rules | `(tactic| walk_at "p") => `(tactic| ((with_reducible apply c_raised); (first | (exact ⟨by decide, by decide⟩) | (exact ⟨by omega, by omega⟩)); (exact ⟨by omega, by omega⟩)))
local macro_rules | `(tactic| walk_at "p") => `(tactic| ((with_reducible apply c_fraction_of); (walk_at "hf"); (first | assumption | (unfold Mth.Bd; omega)); intro p_ H_ s_ m_))
local macro_rules | `(tactic| walk_at "p") => `(tactic| ((with_reducible apply c_octaves); (walk_at "hf"); (first | assumption | (unfold Mth.Bd; omega)); intro H_ s_))
local macro_rules | `(tactic| walk_at "p") => `(tactic| ((with_reducible apply c_folded); (walk_at "hf"); (first | assumption | (unfold Mth.Bd; omega)); intro p_ H_ s_ m_))
local macro_rules | `(tactic| walk_at "p") => `(tactic| ((with_reducible apply c_law_plus); (walk_at "hf"); (walk_at "hf"); intro p_ H_ s_ m_))
local macro_rules | `(tactic| walk_at "p") => `(tactic| ((with_reducible apply c_law_less); (walk_at "hf"); (walk_at "hf"); intro p_ H_ s_ m_))
local macro_rules | `(tactic| walk_at "p") => `(tactic| ((with_reducible apply c_law_is_row); (walk_at "hf"); intro H_ s_))
local macro_rules | `(tactic| walk_at "w") => `(tactic| repeat walk_at "r")
section
variable {P:Program} {w:World} {K:PySem.W.Frag} {mg:Str→Option Value} {base:Heap} {G:Adr}
theorem sc_over:FnScope ["one","other"] ["one","other"] (defScope s_over):=⟨rfl,rfl,rfl,by decide +kernel,rfl,by decide +kernel,by decide +kernel⟩
theorem ok_over (D:Def K mg "over" s_over ["one","other"]) (T:Txt K mg G):Ok P w K mg base 1 "over" ["one","other"] (sp_over K):=by
 have S:=sc_over
 refine D.ok S (fun vs H Q E h=>?_) (fun f cdv A outer s H vs Q E hr h=>?_)
 ·obtain ⟨a,b,a0,a1,a2,a3,a4,b0,b1,b2,b3,b4,rfl,ha,hb,k⟩:=h; rfl
 ·obtain ⟨a,b,a0,a1,a2,a3,a4,b0,b1,b2,b3,b4,rfl,ha,hb,k⟩:=h
  have hu:=hu_of hr
  have q_ONE:=T.q_ONE
  have q_PRIMES:=T.q_PRIMES
  refine ⟨_,(pss_one (ps_ret (pe_callTy (kN_tuple K rfl) rfl T.b_tuple PyProof.Rows.boot_tuple (pa_cons (pe_comp (N:=["number","taken"]) (ix:=[none,none]) rfl (kpi_zip2 K rfl true true rfl T.b_zip (pa_cons (pv 0) (pa_cons (pv 1) pa_nil))) (fun _ _ _ _ _=>(kpg_tup (n:=2) K rfl rfl (pgs_cons (pg_name (i:=0) (show List.Nodup (["number","taken"]:List Str) by decide +kernel) rfl (Or.inl rfl)) (pgs_cons (pg_name (i:=1) (show List.Nodup (["number","taken"]:List Str) by decide +kernel) rfl (Or.inl rfl)) pgs_nil)))) (fun _ _ _ _ _=>rfl) (fun _ _ _ _ _=>(pe_op op_sub (pv 0) (pv 1))) rfl (by decide +kernel) (by decide +kernel) rfl True.intro) pa_nil)))),?_⟩
  refine ⟨_,rfl,_,rfl,a,b,rfl,⟨_,ha⟩,⟨_,hb⟩,rd_zipRows (r:=[a0,a1,a2,a3,a4]) (q:=[b0,b1,b2,b3,b4]) (· - ·) rfl ha hb rfl (by show 5≤1000; decide) fun l H' hl hs hl'=>?_⟩
  exact r_tupleL (SqL.of hl') fun p H2 s2 m=>k p H2 (hs.trans s2) m
theorem sc_raised:FnScope ["base","exponent","product","step"] ["base","exponent"] (defScope s_raised):=⟨rfl,rfl,rfl,by decide +kernel,rfl,by decide +kernel,by decide +kernel⟩
theorem ok_raised (D:Def K mg "raised" s_raised ["base","exponent"]) (T:Txt K mg G):Ok P w K mg base 1 "raised" ["base","exponent"] (sp_raised K):=by
 have S:=sc_raised
 refine D.ok S (fun vs H Q E h=>?_) (fun f cdv A outer s H vs Q E hr h=>?_)
 ·obtain ⟨b,e,rfl,hb,he,k⟩:=h; rfl
 ·obtain ⟨b,e,rfl,hb,he,k⟩:=h
  have hu:=hu_of hr
  have q_ONE:=T.q_ONE
  have q_PRIMES:=T.q_PRIMES
  refine ⟨_,(pss_cons (ps_set (i:=2) S.nd rfl (Or.inl rfl) pe_int) (pss_cons (ps_for PassesOwn.never rfl (pi_range1 rfl T.b_range (pa_cons (pv 1) pa_nil)) (pg_name (i:=3) S.nd rfl (Or.inl rfl)) (pss_one (ps_set (i:=2) S.nd rfl (Or.inl rfl) (pe_op op_mul (pv 2) (pv 0))))) (pss_one (ps_ret (pv 2))))),?_⟩
  walk_at "w"
  refine f_rngE (fun i σ=>∃ o,σ = [some (.int b),some (.int e),some (.int (b ^ i)),o]) ⟨_,by rw [Int.pow_zero] <;> rfl⟩ (fun i σ hi hp=>?_) (fun σ hp=>?_)
  ·obtain ⟨o,rfl⟩:=hp
   walk_at "w"
   exact ⟨⟨_,by rw [Int.pow_succ] <;> rfl⟩,rfl⟩
  ·obtain ⟨o,rfl⟩:=hp
   walk_at "w"
   exact k
theorem sc_number_of:FnScope ["row","product","prime","exponent"] ["row"] (defScope s_number_of):=⟨rfl,rfl,rfl,by decide +kernel,rfl,by decide +kernel,by decide +kernel⟩
structure Os_number_of (P:Program) (w:World) (K:PySem.W.Frag) (mg:Str→Option Value) (base:Heap) (G:Adr):Prop where
 raised:Ok P w K mg base 1 "raised" ["base","exponent"] (sp_raised K)
theorem ok_number_of (D:Def K mg "number_of" s_number_of ["row"]) (T:Txt K mg G) (O:Os_number_of P w K mg base G):Ok P w K mg base 2 "number_of" ["row"] (sp_number_of K):=by
 have S:=sc_number_of
 refine D.ok S (fun vs H Q E h=>?_) (fun f cdv A outer s H vs Q E hr h=>?_)
 ·obtain ⟨a,kk,e0,e1,e2,e3,e4,rfl,ha,hb,k⟩:=h; rfl
 ·obtain ⟨a,kk,e0,e1,e2,e3,e4,rfl,ha,hb,k⟩:=h
  have hu:=hu_of hr
  have q_ONE:=T.q_ONE
  have q_PRIMES:=T.q_PRIMES
  refine ⟨_,(pss_cons (ps_set (i:=1) S.nd rfl (Or.inl rfl) pe_int) (pss_cons (ps_for PassesOwn.never rfl (kpi_zip2 K rfl true kk rfl T.b_zip (pa_cons (pe_glob (v:=V.ref G.a_PRIMES) rfl T.g_PRIMES rfl) (pa_cons (pv 0) pa_nil))) (kpg_tup (n:=2) K rfl rfl (pgs_cons (pg_name (i:=2) S.nd rfl (Or.inl rfl)) (pgs_cons (pg_name (i:=3) S.nd rfl (Or.inl rfl)) pgs_nil))) (pss_one (ps_set (i:=1) S.nd rfl (Or.inl rfl) (pe_op op_mulB (pv 1) (pcall O.raised (hr.mono (by decide)) (pa_cons (pv 2) (pa_cons (pv 3) pa_nil))))))) (pss_one (ps_ret (pv 1))))),?_⟩
  repeat walk_at "r"
  refine f_zip (sqt_sq (q_PRIMES _)) ha rfl (fun i σ=>∃ o1 o2,σ = [some (.ref a),some (.int (Mth.PPn e0 e1 e2 e3 e4 i)),o1,o2]) ⟨_,_,rfl⟩ (fun i x y σ H2 hx hy hp s=>?_) (fun σ H2 hp s=>?_)
  ·obtain ⟨o1,o2,rfl⟩:=hp
   have hi:i < 5:=by have:=(List.getElem?_eq_some_iff.mp hx).1; simpa using this
   match i,hi with
   | 0,_ | 1,_ | 2,_ | 3,_ | 4,_ =>
    cases hx
    cases hy
    walk_at "w"
    refine r_I (Mth.PPn_mul hb (by decide) (by omega)) ?_
    walk_at "w"
    exact ⟨⟨_,_,rfl⟩,s⟩
  ·obtain ⟨o1,o2,rfl⟩:=hp
   walk_at "w"
   exact (Mth.PPn_5 e0 e1 e2 e3 e4) ▸ k H2 s
theorem sc_fraction_of:FnScope ["tone","top","bottom"] ["tone"] (defScope s_fraction_of):=⟨rfl,rfl,rfl,by decide +kernel,rfl,by decide +kernel,by decide +kernel⟩
structure Os_fraction_of (P:Program) (w:World) (K:PySem.W.Frag) (mg:Str→Option Value) (base:Heap) (G:Adr):Prop where
 number_of:Ok P w K mg base 2 "number_of" ["row"] (sp_number_of K)
theorem ok_fraction_of (D:Def K mg "fraction_of" s_fraction_of ["tone"]) (T:Txt K mg G) (O:Os_fraction_of P w K mg base G):Ok P w K mg base 3 "fraction_of" ["tone"] (sp_fraction_of K):=by
 have S:=sc_fraction_of
 refine D.ok S (fun vs H Q E h=>?_) (fun f cdv A outer s H vs Q E hr h=>?_)
 ·obtain ⟨a,a0,a1,a2,a3,a4,rfl,ha,hb,k⟩:=h; rfl
 ·obtain ⟨a,a0,a1,a2,a3,a4,rfl,ha,hb,k⟩:=h
  have hu:=hu_of hr
  have q_ONE:=T.q_ONE
  have q_PRIMES:=T.q_PRIMES
  refine ⟨_,(pss_cons (ps_set (i:=1) S.nd rfl (Or.inl rfl) (pcall O.number_of (hr.mono (by decide)) (pa_cons (pe_comp (N:=["number"]) (ix:=[none]) rfl (kpi_tup K rfl (pv 0)) (fun _ _ _ _ _=>(pg_name (i:=0) (show List.Nodup (["number"]:List Str) by decide +kernel) rfl (Or.inl rfl))) (fun _ _ _ _ _=>rfl) (fun _ _ _ _ _=>(pe_callB (callN_max rfl) rfl T.b_max PyProof.Rows.boot_max (pa_cons (pv 0) (pa_cons pe_int pa_nil)))) rfl (by decide +kernel) (by decide +kernel) rfl True.intro) pa_nil))) (pss_cons (ps_set (i:=2) S.nd rfl (Or.inl rfl) (pcall O.number_of (hr.mono (by decide)) (pa_cons (pe_comp (N:=["number"]) (ix:=[none]) rfl (kpi_tup K rfl (pv 0)) (fun _ _ _ _ _=>(pg_name (i:=0) (show List.Nodup (["number"]:List Str) by decide +kernel) rfl (Or.inl rfl))) (fun _ _ _ _ _=>rfl) (fun _ _ _ _ _=>(pe_callB (callN_max rfl) rfl T.b_max PyProof.Rows.boot_max (pa_cons (pe_un un_neg (pv 0)) (pa_cons pe_int pa_nil)))) rfl (by decide +kernel) (by decide +kernel) rfl True.intro) pa_nil))) (pss_one (ps_ret (pe_tup (pa_cons (pv 1) (pa_cons (pv 2) pa_nil))))))),?_⟩
  obtain ⟨⟨h1,h2⟩,⟨h3,h4⟩,⟨h5,h6⟩,⟨h7,h8⟩,⟨h9,h10⟩⟩:=hb
  repeat walk_at "r"
  refine rd_mapRow (r:=[a0,a1,a2,a3,a4]) (fun x=>.int (if 0 > x then 0 else x)) [] rfl ha (by show 5≤1000; decide) (fun x H' Qc _ s kc=>?_) (fun l H1 hl s1 m1=>?_)
  ·walk_at "w"
   exact kc _ (Same.refl _)
  walk_at "w"
  refine c_number_of (sql_sq (SqL.of m1)) (by refine ⟨?_,?_,?_,?_,?_,?_,?_,?_,?_,?_⟩ <;> split <;> omega) fun H2 s2=>?_
  rw [Mth.mx_toNat,Mth.mx_toNat,Mth.mx_toNat,Mth.mx_toNat,Mth.mx_toNat]
  walk_at "w"
  refine rd_mapRow (r:=[a0,a1,a2,a3,a4]) (fun x=>.int (if 0 > -x then 0 else -x)) [] rfl (s2.at (s1.at ha)) (by show 5≤1000; decide) (fun x H' Qc _ s kc=>?_) (fun l2 H3 hl2 s3 m3=>?_)
  ·walk_at "w"
   exact kc _ (Same.refl _)
  walk_at "w"
  refine c_number_of (sql_sq (SqL.of m3)) (by refine ⟨?_,?_,?_,?_,?_,?_,?_,?_,?_,?_⟩ <;> split <;> omega) fun H4 s4=>?_
  rw [Mth.mx_toNat,Mth.mx_toNat,Mth.mx_toNat,Mth.mx_toNat,Mth.mx_toNat]
  walk_at "w"
  exact k _ _ (by walk_at "sm") (by assumption)
theorem sc_octaves:FnScope ["tone","fraction","shift","whole"] ["tone"] (defScope s_octaves):=⟨rfl,rfl,rfl,by decide +kernel,rfl,by decide +kernel,by decide +kernel⟩
structure Os_octaves (P:Program) (w:World) (K:PySem.W.Frag) (mg:Str→Option Value) (base:Heap) (G:Adr):Prop where
 fraction_of:Ok P w K mg base 3 "fraction_of" ["tone"] (sp_fraction_of K)
theorem ok_octaves (D:Def K mg "octaves" s_octaves ["tone"]) (T:Txt K mg G) (O:Os_octaves P w K mg base G):Ok P w K mg base 4 "octaves" ["tone"] (sp_octaves K):=by
 have S:=sc_octaves
 refine D.ok S (fun vs H Q E h=>?_) (fun f cdv A outer s H vs Q E hr h=>?_)
 ·obtain ⟨a,a0,a1,a2,a3,a4,rfl,ha,hb,k⟩:=h; rfl
 ·obtain ⟨a,a0,a1,a2,a3,a4,rfl,ha,hb,k⟩:=h
  have hu:=hu_of hr
  have q_ONE:=T.q_ONE
  have q_PRIMES:=T.q_PRIMES
  refine ⟨_,(pss_cons (ps_set (i:=1) S.nd rfl (Or.inl rfl) (pcall O.fraction_of (hr.mono (by decide)) (pa_cons (pv 0) pa_nil))) (pss_cons (ps_set (i:=2) S.nd rfl (Or.inl rfl) (pe_bm0 PySem.F.plainAttrs_int PySem.F.slot_int_bit_length PySem.F.type_int_bit_length mtN_bitlen (pe_ix (kx_seq K rfl) (pv 1) pe_int (fun _ _=>rfl)))) (pss_cons (ps_set (i:=3) S.nd rfl (Or.inl rfl) (pe_op op_fdivB (pe_op op_shlB (pe_ix (kx_seq K rfl) (pv 1) pe_int (fun _ _=>rfl)) (pv 2)) (pe_ix (kx_seq K rfl) (pv 1) pe_int (fun _ _=>rfl)))) (pss_one (ps_ret (pe_op op_sub (pe_op op_sub (pe_bm0 PySem.F.plainAttrs_int PySem.F.slot_int_bit_length PySem.F.type_int_bit_length mtN_bitlen (pv 3)) pe_int) (pv 2))))))),?_⟩
  have t1:=Mth.bl_le (Mth.top5_lt hb)
  have b1:=Mth.bl_le (Mth.bot5_lt hb)
  have b2:=Mth.bot5_pos a0 a1 a2 a3 a4
  have b3:=Mth.log2_of (Mth.bot5_lt hb) (by omega)
  walk_at "w"
  refine r_I ?_ ?_
  ·exact ⟨Int.natCast_nonneg _,by rw [Mth.bits_bl,Mth.bits_bl]; omega⟩
  walk_at "w"
  exact k _ (by walk_at "sm")
theorem sc_folded:FnScope ["tone"] ["tone"] (defScope s_folded):=⟨rfl,rfl,rfl,by decide +kernel,rfl,by decide +kernel,by decide +kernel⟩
structure Os_folded (P:Program) (w:World) (K:PySem.W.Frag) (mg:Str→Option Value) (base:Heap) (G:Adr):Prop where
 over:Ok P w K mg base 1 "over" ["one","other"] (sp_over K)
 octaves:Ok P w K mg base 4 "octaves" ["tone"] (sp_octaves K)
theorem ok_folded (D:Def K mg "folded" s_folded ["tone"]) (T:Txt K mg G) (O:Os_folded P w K mg base G):Ok P w K mg base 5 "folded" ["tone"] (sp_folded K):=by
 have S:=sc_folded
 refine D.ok S (fun vs H Q E h=>?_) (fun f cdv A outer s H vs Q E hr h=>?_)
 ·obtain ⟨a,a0,a1,a2,a3,a4,rfl,ha,hb,k⟩:=h; rfl
 ·obtain ⟨a,a0,a1,a2,a3,a4,rfl,ha,hb,k⟩:=h
  have hu:=hu_of hr
  have q_ONE:=T.q_ONE
  have q_PRIMES:=T.q_PRIMES
  refine ⟨_,(pss_one (ps_ret (pcall O.over (hr.mono (by decide)) (@pa_cons _ _ _ _ _ (pv 0) (@pa_cons _ _ _ _ _ (@pe_tup _ _ _ _ _ (pa_cons (pcall O.octaves (hr.mono (by decide)) (pa_cons (pv 0) pa_nil)) (pa_cons pe_int (pa_cons pe_int (pa_cons pe_int (pa_cons pe_int pa_nil)))))) pa_nil (by rfl)) (by rfl))))),?_⟩
  walk_at "w"
  rename_i pz Hz sz mz
  simp only [Int.sub_zero] at mz
  exact k _ _ (by walk_at "sm") mz
theorem sc_reach:FnScope ["scale","tone"] ["scale","tone"] (defScope s_reach):=⟨rfl,rfl,rfl,by decide +kernel,rfl,by decide +kernel,by decide +kernel⟩
structure Os_reach (P:Program) (w:World) (K:PySem.W.Frag) (mg:Str→Option Value) (base:Heap) (G:Adr):Prop where
 over:Ok P w K mg base 1 "over" ["one","other"] (sp_over K)
 folded:Ok P w K mg base 5 "folded" ["tone"] (sp_folded K)
set_option maxHeartbeats 4000000 in
theorem ok_reach (D:Def K mg "reach" s_reach ["scale","tone"]) (T:Txt K mg G) (O:Os_reach P w K mg base G):Ok P w K mg base 6 "reach" ["scale","tone"] (sp_reach K):=by
 have S:=sc_reach
 refine D.ok S (fun vs H Q E h=>?_) (fun f cdv A outer s H vs Q E hr h=>?_)
 ·obtain ⟨a,b,xs,rs,t,rfl,ha,hra,hb,hn,ht,bt,k⟩:=h; rfl
 ·obtain ⟨a,b,xs,rs,t,rfl,ha,hra,hb,hn,ht,bt,k⟩:=h
  have hu:=hu_of hr
  have q_ONE:=T.q_ONE
  have q_PRIMES:=T.q_PRIMES
  refine ⟨_,(pss_one (ps_ret (pe_comp (N:=["other","tone"]) (ix:=[none,some 1]) rfl (kpi_list K rfl (pv 0)) (fun _ _ _ _ _=>(pg_name (i:=0) (show List.Nodup (["other","tone"]:List Str) by decide +kernel) rfl (Or.inl rfl))) (fun _ _ _ _ _=>rfl) (fun _ _ _ _ _=>(pcall O.folded (hr.mono (by decide)) (pa_cons (pcall O.over (hr.mono (by decide)) (pa_cons (pv 0) (pa_cons (pv 1) pa_nil))) pa_nil))) rfl (by decide +kernel) (by decide +kernel) rfl ⟨⟨rfl,Or.inr (Or.inl rfl),rfl,rfl⟩,True.intro⟩))),?_⟩
  obtain ⟨t0,t1,t2,t3,t4,rfl,_,_,_,_,_⟩:=bt
  have ht':SqT K H b [.int t0,.int t1,.int t2,.int t3,.int t4]:=ht
  walk_at "w"
  refine rd_mapRows [some (.ref b)] (fun r=>foldR (subR r [t0,t1,t2,t3,t4])) rfl ha hra (by omega) (fun c r H2 Qc hrm s2 hc kc=>?_) (fun p H3 ys n3 s3 m3 r3=>?_)
  ·obtain ⟨x0,x1,x2,x3,x4,rfl,_,_,_,_,_⟩:=hb r hrm
   have hc':SqT K _ c [.int x0,.int x1,.int x2,.int x3,.int x4]:=hc
   have hb':=s2.at ht'
   walk_at "w"
   rename_i p5 H5 s5 m5 p6 H6 s6 m6
   exact kc _ _ (s5.trans s6) (SqT.of m6)
  walk_at "w"
  exact k _ ys _ s3 m3 r3
theorem sc_only_one_has:FnScope ["spans","others","only"] ["spans","others"] (defScope s_only_one_has):=⟨rfl,rfl,rfl,by decide +kernel,rfl,by decide +kernel,by decide +kernel⟩
set_option maxHeartbeats 4000000 in
theorem ok_only_one_has (D:Def K mg "only_one_has" s_only_one_has ["spans","others"]) (T:Txt K mg G):Ok P w K mg base 1 "only_one_has" ["spans","others"] (sp_only_one_has K):=by
 have S:=sc_only_one_has
 refine D.ok S (fun vs H Q E h=>?_) (fun f cdv A outer s H vs Q E hr h=>?_)
 ·obtain ⟨a,b,xs,ys,ps,qs,rfl,ha,hp,hb,hq,n1,n2,k⟩:=h; rfl
 ·obtain ⟨a,b,xs,ys,ps,qs,rfl,ha,hp,hb,hq,n1,n2,k⟩:=h
  have hu:=hu_of hr
  have q_ONE:=T.q_ONE
  have q_PRIMES:=T.q_PRIMES
  refine ⟨_,(pss_cons (ps_set (i:=2) S.nd rfl (Or.inl rfl) (pe_op op_cat (pe_comp (N:=["span","others"]) (ix:=[none,some 1]) rfl (kpi_list K rfl (pv 0)) (fun _ _ _ _ _=>(pg_name (i:=0) (show List.Nodup (["span","others"]:List Str) by decide +kernel) rfl (Or.inl rfl))) (fun _ _ _ _ _=>(pt_cmpR (kop_notInD K rfl hr.units) (pv 0) (pv 1) (by with_unfolding_all rfl))) (fun _ _ _ _ _=>(pv 0)) rfl (by decide +kernel) (by decide +kernel) rfl ⟨⟨rfl,Or.inr (Or.inl rfl),rfl,rfl⟩,True.intro⟩) (pe_comp (N:=["span","spans"]) (ix:=[none,some 0]) rfl (kpi_list K rfl (pv 1)) (fun _ _ _ _ _=>(pg_name (i:=0) (show List.Nodup (["span","spans"]:List Str) by decide +kernel) rfl (Or.inl rfl))) (fun _ _ _ _ _=>(pt_cmpR (kop_notInD K rfl hr.units) (pv 0) (pv 1) (by with_unfolding_all rfl))) (fun _ _ _ _ _=>(pv 0)) rfl (by decide +kernel) (by decide +kernel) rfl ⟨⟨rfl,Or.inr (Or.inl rfl),rfl,rfl⟩,True.intro⟩))) (pss_one (ps_ret (pe_ifExp (pt_cmpR (kop_neD K rfl hr.units) (pv 2) (pe_lst pa_nil) (nomark _)) (pe_ix (kx_seq K rfl) (pv 2) pe_int (fun _ _=>rfl)) pe_non)))),?_⟩
  walk_at "w"
  refine rd_filterRows [some (.ref b)] (fun r=>!decide (r∈qs)) rfl ha hp (by omega) (fun c r H2 Qt hrm s2 hc kt=>?_) (fun c H2 Qc s2 kc=>?_) (fun l1 H1 ys1 n1' s1 m1 r1=>?_)
  ·walk_at "w"
   refine r_notInD (s2.seq hb) (hq.same s2).tells (Tell.row hc) (lay_rows _) (lay_row _) (Nat.le_trans (deep_row r) (by decide)) ?_
   rw [any_rows]
   walk_at "w"
   exact kt _ (Same.refl _)
  ·walk_at "w"
   exact kc
  walk_at "w"
  refine rd_filterRows [some (.ref a)] (fun r=>!decide (r∈ps)) rfl (s1.seq hb) (hq.same s1) (by omega) (fun c r H2 Qt hrm s2 hc kt=>?_) (fun c H2 Qc s2 kc=>?_) (fun l2 H2 ys2 n2' s2 m2 r2=>?_)
  ·walk_at "w"
   refine r_notInD ((s1.trans s2).seq ha) (hp.same (s1.trans s2)).tells (Tell.row hc) (lay_rows _) (lay_row _) (Nat.le_trans (deep_row r) (by decide)) ?_
   rw [any_rows]
   walk_at "w"
   exact kt _ (Same.refl _)
  ·walk_at "w"
   exact kc
  have g1:=r1.length
  have g2:=r2.length
  have f1:=List.length_filter_le (fun r=>!decide (r∈qs)) ps
  have f2:=List.length_filter_le (fun r=>!decide (r∈ps)) qs
  walk_at "w"
  refine r_cat (s2 _ _ m1) m2 (by omega) fun p H3 n3 s3 m3=>?_
  have r3:RowsL K H3 (ys1 ++ ys2) (ps.filter (fun r=>!decide (r∈qs)) ++ qs.filter (fun r=>!decide (r∈ps))):=((r1.same s2).append r2).same s3
  have ez:=only_nil ps qs
  have ew:=only_mem ps qs
  generalize (ps.filter (fun r=>!decide (r∈qs)) ++ qs.filter (fun r=>!decide (r∈ps))) = zs at r3 ez ew
  have s03:Same H H3:=(s1.trans s2).trans s3
  walk_at "w"
  rename_i p4 H4 n4 s4 m4
  refine r_neD (.lst (SqL.of (s4 _ _ m3)) (r3.same s4).tells) (.lst (SqL.of m4) (RowsL.nil (K:=K) (H:=H4)).tells) (shaped_rows zs) (shaped_rows []) ?_
  rw [eqv_listR]
  walk_at "w"
  refine if_both (fun hc=>?_) (fun hc=>?_)
  ·have hne:zs≠[]:=by simpa using hc
   match zs,ys1 ++ ys2,r3,m3,hne with
   | z :: zs',.ref c :: ws,.cons hz hws,m3,_ =>
    have m3':=s4 _ _ m3
    walk_at "v"
    refine r_ixL (SqL.of m3') (atI_nat (j:=0) rfl) ?_
    walk_at "w"
    exact k _ _ (s03.trans s4) (.inr ⟨fun h=>absurd (ez.mpr h) (List.cons_ne_nil _ _),c,z,rfl,s4.at hz,ew z (List.mem_cons_self ..)⟩)
  ·have he:zs = []:=by simpa using hc
   walk_at "w"
   exact k _ _ (s03.trans s4) (.inl ⟨ez.mp he,rfl⟩)
theorem sc_move_between:FnScope ["one","other","spans","why","tone","found"] ["one","other"] (defScope s_move_between):=⟨rfl,rfl,rfl,by decide +kernel,rfl,by decide +kernel,by decide +kernel⟩
structure Os_move_between (P:Program) (w:World) (K:PySem.W.Frag) (mg:Str→Option Value) (base:Heap) (G:Adr):Prop where
 over:Ok P w K mg base 1 "over" ["one","other"] (sp_over K)
 folded:Ok P w K mg base 5 "folded" ["tone"] (sp_folded K)
 reach:Ok P w K mg base 6 "reach" ["scale","tone"] (sp_reach K)
 only_one_has:Ok P w K mg base 1 "only_one_has" ["spans","others"] (sp_only_one_has K)
set_option maxHeartbeats 4000000 in
theorem ok_move_between (D:Def K mg "move_between" s_move_between ["one","other"]) (T:Txt K mg G) (O:Os_move_between P w K mg base G):Ok P w K mg base 7 "move_between" ["one","other"] (sp_move_between K):=by
 have S:=sc_move_between
 refine D.ok S (fun vs H Q E h=>?_) (fun f cdv A outer s H vs Q E hr h=>?_)
 ·obtain ⟨a,b,xs,ys,rs,qs,rfl,ha,hr1,hb,hq,n1,n2,fb1,fb2,k1,k2⟩:=h; rfl
 ·obtain ⟨a,b,xs,ys,rs,qs,rfl,ha,hr1,hb,hq,n1,n2,fb1,fb2,k1,k2⟩:=h
  have hu:=hu_of hr
  have q_ONE:=T.q_ONE
  have q_PRIMES:=T.q_PRIMES
  refine ⟨_,(pss_cons (ps_if (PW.pt (pw_or (pt_cmpR (kop_eqD K rfl hr.units) (pv 0) (pe_lst pa_nil) (nomark _)) (pw_or1 (pt_cmpR (kop_eqD K rfl hr.units) (pv 1) (pe_lst pa_nil) (nomark _))))) (pss_one (ps_ret (pe_ifExp (pt_cmpR (kop_eqD K rfl hr.units) (pv 0) (pv 1) (nomark _)) (pe_tup (pa_cons pe_str (pa_cons (pe_glob (v:=V.ref G.a_ONE) rfl T.g_ONE rfl) pa_nil))) (pe_tup (@pa_cons _ _ _ _ _ pe_str (@pa_cons _ _ _ _ _ (pe_lst pa_nil) pa_nil (by rfl)) (by rfl)))))) pss_nil) (pss_cons (ps_set (i:=2) S.nd rfl (Or.inl rfl) (pcall O.reach (hr.mono (by decide)) (pa_cons (pv 0) (pa_cons (pe_ix (kx_seq K rfl) (pv 0) pe_int (fun _ _=>rfl)) pa_nil)))) (pss_cons (ps_set (i:=3) S.nd rfl (Or.inl rfl) (pe_lst pa_nil)) (pss_cons (ps_for PassesOwn.never rfl (kpi_list K rfl (pv 1)) (pg_name (i:=4) S.nd rfl (Or.inl rfl)) (pss_cons (ps_set (i:=5) S.nd rfl (Or.inl rfl) (pcall O.only_one_has (hr.mono (by decide)) (pa_cons (pv 2) (pa_cons (pcall O.reach (hr.mono (by decide)) (pa_cons (pv 1) (pa_cons (pv 4) pa_nil))) pa_nil)))) (pss_cons (ps_if (pt_cmpR op_isN (pv 5) pe_non (nomark _)) (pss_one (ps_ret (pe_tup (pa_cons pe_str (pa_cons (pcall O.folded (hr.mono (by decide)) (pa_cons (pcall O.over (hr.mono (by decide)) (pa_cons (pv 4) (pa_cons (pe_ix (kx_seq K rfl) (pv 0) pe_int (fun _ _=>rfl)) pa_nil))) pa_nil)) pa_nil))))) pss_nil) (pss_one (ps_expr (pe_bm PySem.F.plainAttrs_list PySem.F.slot_list_append PySem.F.type_list_append mt_append (pv 3) (pa_cons (pv 5) pa_nil))))))) (pss_one (ps_ret (pe_tup (pa_cons pe_str (pa_cons (pv 3) pa_nil))))))))),?_⟩
  have lx:=hr1.length
  have ly:=hq.length
  have b1:∀ r∈rs,RB 400 30 r:=fun r hr=>(fb1 r hr).1.mono (by decide) (by decide)
  have b2:∀ r∈qs,RB 400 30 r:=fun r hr=>(fb2 r hr).1.mono (by decide) (by decide)
  by_cases hne:rs = []
  ·subst hne
   walk_at "w"
   rename_i p4 H4 n4 s4 m4
   refine r_eqD (.lst (s4.seq ha) (hr1.same s4).tells) (.lst (SqL.of m4) (RowsL.nil (K:=K) (H:=H4)).tells) (shaped_rows []) (shaped_rows []) ?_
   rw [eqv_listR]
   walk_at "w"
   refine iteT ?_
   walk_at "w"
   refine iteT ?_
   walk_at "w"
   refine r_eqD (.lst (s4.seq ha) (hr1.same s4).tells) (.lst (s4.seq hb) (hq.same s4).tells) (shaped_rows []) (shaped_rows qs) ?_
   rw [eqv_listR]
   by_cases h2:qs = []
   ·subst h2
    walk_at "w"
    refine iteT ?_
    walk_at "w"
    rename_i p9 H9 s9 m9
    exact k1 p9 _ [0,0,0,0,0] H9 (s4.trans s9) m9 (by walk_at "hf") ⟨0,0,0,0,0,rfl,by decide,by decide,by decide,by decide,by decide⟩ fold_one (moved_none _) (fun _=>rfl)
   ·rw [decide_eq_false (fun e=>h2 e.symm)]
    walk_at "w"
    refine iteF ?_
    walk_at "w"
    rename_i p9 H9 n9 s9 m9 p10 H10 s10 m10
    exact k2 p10 p9 [] [] H10 ((s4.trans s9).trans s10) m10 (s10 _ _ m9) .nil (.inl ⟨.inl rfl,fun e=>h2 e.symm,rfl⟩)
  walk_at "w"
  rename_i p4 H4 n4 s4 m4
  refine r_eqD (.lst (s4.seq ha) (hr1.same s4).tells) (.lst (SqL.of m4) (RowsL.nil (K:=K) (H:=H4)).tells) (shaped_rows rs) (shaped_rows []) ?_
  rw [eqv_listR,decide_eq_false hne]
  walk_at "w"
  refine iteF ?_
  walk_at "w"
  rename_i p5 H5 n5 s5 m5
  have s45:Same H H5:=s4.trans s5
  refine r_eqD (.lst (s45.seq hb) (hq.same s45).tells) (.lst (SqL.of m5) (RowsL.nil (K:=K) (H:=H5)).tells) (shaped_rows qs) (shaped_rows []) ?_
  rw [eqv_listR]
  by_cases hne2:qs = []
  ·subst hne2
   walk_at "w"
   refine iteT ?_
   walk_at "w"
   refine r_eqD (.lst (s45.seq ha) (hr1.same s45).tells) (.lst (s45.seq hb) (hq.same s45).tells) (shaped_rows rs) (shaped_rows []) ?_
   rw [eqv_listR,decide_eq_false hne]
   walk_at "w"
   refine iteF ?_
   walk_at "w"
   rename_i p9 H9 n9 s9 m9 p10 H10 s10 m10
   exact k2 p10 p9 [] [] H10 ((s45.trans s9).trans s10) m10 (s10 _ _ m9) .nil (.inl ⟨.inr rfl,hne,rfl⟩)
  rw [decide_eq_false hne2]
  walk_at "w"
  refine iteF ?_
  obtain ⟨x,hx0⟩:∃ x,xs[0]? = some x:=⟨_,List.getElem?_eq_getElem (by have:=List.length_pos_iff.mpr hne; omega)⟩
  obtain ⟨c0,r0,rfl,hc0,hr0⟩:=hr1.get hx0
  have hrm:r0∈rs:=List.mem_of_getElem? hr0
  have br0:=b1 r0 hrm
  walk_at "v"
  refine r_ixL (s45.seq ha) (atI_nat (j:=0) hx0) ?_
  walk_at "w"
  refine c_reach (s45.seq ha) (hr1.same s45) b1 n1 (s45.at hc0) br0 fun p6 ys6 H6 s6 m6 r6=>?_
  have s46:Same H H6:=s45.trans s6
  walk_at "w"
  rename_i w H7 n7 s7 m7
  refine f_invL (xs:=ys) (fun i σ H2=>∃ (o1 o2:Option V) (ws:List V) (zs:List (List Int)),σ = [some (.ref a),some (.ref b),some (.ref p6),some (.ref w),o1,o2]∧Same H6 H2∧H2 w = some (.lst ws)∧RowsL K H2 ws zs∧zs.length = i∧∀ (j:Nat) t z,qs[j]? = some t→zs[j]? = some z→JustOne rs qs r0 t z) ⟨_,_,[],[],rfl,s7,m7,.nil,rfl,by simp⟩ (fun i σ H2 hp=>?_) (fun i x σ H2 hx hp=>?_) (fun σ H2 hp=>?_)
  ·obtain ⟨_,_,_,_,_,s2,_⟩:=hp
   exact (s46.trans s2).seq hb
  ·obtain ⟨o1,o2,ws,zs,rfl,s2,m2,rw2,hzl,hap⟩:=hp
   have s02:Same H H2:=s46.trans s2
   have hi:i < ys.length:=(List.getElem?_eq_some_iff.mp hx).1
   obtain ⟨d,t,rfl,hd,hti⟩:=(hq.same s02).get hx
   have htm:t∈qs:=List.mem_of_getElem? hti
   have btt:=b2 t htm
   have lw:=rw2.length
   walk_at "w"
   refine c_reach (s02.seq hb) (hq.same s02) b2 n2 hd btt fun p8 ys8 H8 s8 m8 r8=>?_
   walk_at "w"
   refine c_only_one_has (SqL.of ((s2.trans s8) _ _ m6)) (r6.same (s2.trans s8)) (SqL.of m8) r8 (by rw [List.length_map]; exact n1) (by rw [List.length_map]; exact n2) fun v H9 s9 hv=>?_
   have s89:=s8.trans s9
   have s09:Same H H9:=s02.trans s89
   walk_at "w"
   refine ⟨rfl,?_⟩
   rcases hv with ⟨hal,rfl⟩ | ⟨hnal,c,z,rfl,hcz,hz⟩
   ·have mv:=alike_moved hal b1 (fun r hr=>⟨b2 r hr,(fb2 r hr).2⟩) htm
    have bs:=fold_700 (sub_15 (fb2 t htm).1 (fb1 r0 hrm).1)
    have ff:=fold_fold (subR_rb btt br0)
    obtain ⟨x0,x1,x2,x3,x4,rfl,_,_,_,_,_⟩:=br0
    obtain ⟨t0,t1,t2,t3,t4,rfl,_,_,_,_,_⟩:=btt
    have hd9:SqT K H9 d [.int t0,.int t1,.int t2,.int t3,.int t4]:=s89.at hd
    have hc9:SqT K H9 c0 [.int x0,.int x1,.int x2,.int x3,.int x4]:=s09.at hc0
    have ha9:=s09.seq ha
    walk_at "w"
    refine iteT ?_
    walk_at "v"
    refine r_ixL ha9 (atI_nat (j:=0) hx0) ?_
    walk_at "w"
    rename_i pA HA sA mA pB HB sB mB pC HC sC mC
    exact k1 pC pB (foldR (subR [t0,t1,t2,t3,t4] [x0,x1,x2,x3,x4])) HC (s09.trans ((sA.trans sB).trans sC)) mC (SqT.of (sC _ _ mB)) bs ff mv (fun z=>absurd z hne)
   ·walk_at "w"
    refine iteF ?_
    have m9:=s89 _ _ m2
    walk_at "w"
    refine r_append m9 (by omega) ?_
    refine ⟨_,_,ws ++ [.ref c],zs ++ [z],rfl,(s2.trans s89).upd_old n7,upd_same,((rw2.same s89).off m9).snoc (upd_sqT hcz m9),by rw [List.length_append,List.length_singleton]; omega,fun j t' z' h1 h2=>?_⟩
    by_cases hj:j < zs.length
    ·rw [List.getElem?_append_left hj] at h2
     exact hap j t' z' h1 h2
    ·have hj':j = i:=by
      have:=(List.getElem?_eq_some_iff.mp h2).1
      rw [List.length_append,List.length_singleton] at this
      omega
     subst hj'
     rw [List.getElem?_append_right (by omega),hzl,Nat.sub_self] at h2
     obtain rfl:t = t':=Option.some.inj (hti.symm.trans h1)
     obtain rfl:z = z':=Option.some.inj h2
     exact hz
  ·obtain ⟨o1,o2,ws,zs,rfl,s2,m2,rw2,hzl,hap⟩:=hp
   walk_at "w"
   rename_i p9 H9 s9 m9
   exact k2 p9 w ws zs H9 ((s46.trans s2).trans s9) m9 (s9 _ _ m2) (rw2.same s9) (.inr ⟨hne,hne2,by omega,r0,hr0,hap⟩)
theorem sc_law_mixed:FnScope ["_law_script","_law_k","_law_cell","_law_mixed_here"] ["_law_script","_law_k"] (defScope s_law_mixed):=⟨rfl,rfl,rfl,by decide +kernel,rfl,by decide +kernel,by decide +kernel⟩
theorem ok_law_mixed (D:Def K mg "_law_mixed" s_law_mixed ["_law_script","_law_k"]) (T:Txt K mg G):Ok P w K mg base 1 "_law_mixed" ["_law_script","_law_k"] (sp_law_mixed K):=by
 have S:=sc_law_mixed
 refine D.ok S (fun vs H Q E h=>?_) (fun f cdv A outer s H vs Q E hr h=>?_)
 ·obtain ⟨a,ns,j,rfl,ha,hj,k⟩:=h; rfl
 ·obtain ⟨a,ns,j,rfl,ha,hj,k⟩:=h
  have hu:=hu_of hr
  have q_ONE:=T.q_ONE
  have q_PRIMES:=T.q_PRIMES
  refine ⟨_,(pss_cons (ps_set (i:=2) S.nd rfl (Or.inl rfl) pe_int) (pss_cons (ps_if (pt_cmpR op_gt (pe_callB (kN_len K rfl) rfl T.b_len PySem.boot_len (pa_cons (pv 0) pa_nil)) pe_int (nomark _)) (pss_one (ps_set (i:=2) S.nd rfl (Or.inl rfl) (pe_ix (kx_seq K rfl) (pv 0) (pe_op op_mod (pv 1) (pe_callB (kN_len K rfl) rfl T.b_len PySem.boot_len (pa_cons (pv 0) pa_nil))) (fun _ _=>rfl)))) pss_nil) (pss_cons (ps_set (i:=3) S.nd rfl (Or.inl rfl) (pe_op op_mod (pe_op op_mul (pe_op op_add (pe_op op_mod (pv 2) pe_int) (pe_op op_mul pe_int (pe_op op_add (pv 1) pe_int))) pe_int) pe_int)) (pss_one (ps_ret (pe_op op_mod (pe_op op_mul (pv 3) pe_int) pe_int)))))),?_⟩
  walk_at "j"
  refine join (fun σ' H'=>∃ c:Int,σ' = [some (.ref a),some (.int j),some (.int c),none]∧H = H') (fun nx kn=>?_) (fun σ' H' hp=>?_)
  ·walk_at "w"
   refine if_both (fun hc=>?_) (fun hc=>?_)
   ·have hpos:0 < ns.length:=by simp at hc; omega
    walk_at "v"
    rw [List.length_map]
    walk_at "v"
    have hm0:=Int.emod_nonneg j (show (ns.length:Int)≠0 by omega)
    have hm1:=Int.emod_lt_of_pos j (show (0:Int) < (ns.length:Int) by omega)
    obtain ⟨z,hz⟩:∃ z:Nat,j % (ns.length:Int) = (z:Int):=Int.eq_ofNat_of_zero_le hm0
    rw [hz]
    refine r_ixL ha (atI_nat (int_at (by omega))) ?_
    walk_at "w"
    exact kn _ _ ⟨_,rfl,rfl⟩
   ·walk_at "w"
    exact kn _ _ ⟨_,rfl,rfl⟩
  obtain ⟨c,rfl,rfl⟩:=hp
  walk_at "w"
  exact k _ (by omega)
theorem sc_law_number:FnScope ["_law_script","_law_k","_law_number_here","_law_turn"] ["_law_script","_law_k"] (defScope s_law_number):=⟨rfl,rfl,rfl,by decide +kernel,rfl,by decide +kernel,by decide +kernel⟩
structure Os_law_number (P:Program) (w:World) (K:PySem.W.Frag) (mg:Str→Option Value) (base:Heap) (G:Adr):Prop where
 law_mixed:Ok P w K mg base 1 "_law_mixed" ["_law_script","_law_k"] (sp_law_mixed K)
set_option maxHeartbeats 4000000 in
theorem ok_law_number (D:Def K mg "_law_number" s_law_number ["_law_script","_law_k"]) (T:Txt K mg G) (O:Os_law_number P w K mg base G):Ok P w K mg base 2 "_law_number" ["_law_script","_law_k"] (sp_law_number K):=by
 have S:=sc_law_number
 refine D.ok S (fun vs H Q E h=>?_) (fun f cdv A outer s H vs Q E hr h=>?_)
 ·obtain ⟨a,ns,j,rfl,ha,hj,k⟩:=h; rfl
 ·obtain ⟨a,ns,j,rfl,ha,hj,k⟩:=h
  have hu:=hu_of hr
  have q_ONE:=T.q_ONE
  have q_PRIMES:=T.q_PRIMES
  refine ⟨_,(pss_cons (ps_set (i:=2) S.nd rfl (Or.inl rfl) pe_int) (pss_cons (ps_if (PW.pt (pw_and (pt_cmpR op_gt (pe_callB (kN_len K rfl) rfl T.b_len PySem.boot_len (pa_cons (pv 0) pa_nil)) pe_int (nomark _)) (pw_and1 (pt_cmpR op_eq (pe_op op_mod (pe_ix (kx_seq K rfl) (pv 0) pe_int (fun _ _=>rfl)) pe_int) pe_int (nomark _))))) (pss_cons (ps_if (pt_cmpR op_lt (pv 1) (pe_callB (kN_len K rfl) rfl T.b_len PySem.boot_len (pa_cons (pv 0) pa_nil)) (nomark _)) (pss_one (ps_set (i:=2) S.nd rfl (Or.inl rfl) (pe_op op_fdiv (pe_op op_mod (pe_ix (kx_seq K rfl) (pv 0) (pv 1) (fun _ _=>rfl)) (pe_op op_mul pe_int (pe_op op_pow pe_int pe_int))) (pe_op op_sub pe_int (pe_callB (callN_min rfl) rfl T.b_min PyProof.Rows.boot_min (pa_cons (pv 1) (pa_cons pe_int pa_nil))))))) pss_nil) (pss_one (ps_ret (pv 2)))) pss_nil) (pss_cons (ps_for PassesOwn.never rfl (pi_range1 rfl T.b_range (pa_cons pe_int pa_nil)) (pg_name (i:=3) S.nd rfl (Or.inl rfl)) (pss_one (ps_set (i:=2) S.nd rfl (Or.inl rfl) (pe_op op_add (pe_op op_mul (pv 2) pe_int) (pcall O.law_mixed (hr.mono (by decide)) (pa_cons (pv 0) (pa_cons (pe_op op_add (pe_op op_mul pe_int (pv 1)) (pv 3)) pa_nil))))))) (pss_one (ps_ret (pe_op op_mod (pv 2) (pe_op op_pow pe_int pe_int))))))),?_⟩
  walk_at "j"
  refine join (fun σ' H'=>σ' = [some (.ref a),some (.int j),some (.int 0),none]∧H = H') (fun nx kn=>?_) (fun σ' H' hp=>?_)
  ·walk_at "w"
   refine if_both (fun hc=>?_) (fun hc=>?_)
   ·have hpos:0 < ns.length:=by simp at hc; omega
    walk_at "v"
    refine r_ixL ha (atI_nat (j:=0) (int_at hpos)) ?_
    walk_at "w"
    refine if_both (fun hc2=>?_) (fun hc2=>?_)
    ·walk_at "j"
     refine join (fun σ' H'=>∃ n:Int,σ' = [some (.ref a),some (.int j),some (.int n),none]∧H = H'∧0≤n∧n≤2 * 10 ^ 60) (fun nx2 kn2=>?_) (fun σ' H' hp=>?_)
     ·walk_at "w"
      refine if_both (fun hc3=>?_) (fun hc3=>?_)
      ·obtain ⟨i,rfl⟩:=Int.eq_ofNat_of_zero_le hj.1
       have hlt:i < ns.length:=by simp at hc3; omega
       walk_at "v"
       refine r_ixL ha (atI_nat (int_at hlt)) ?_
       walk_at "w"
       refine kn2 _ _ ⟨_,rfl,rfl,num_div (B:=2 * 10 ^ 60) (Int.emod_nonneg _ (by decide)) (Int.le_of_lt (Int.emod_lt_of_pos _ (by decide))) ?_⟩
       split <;> omega
      ·walk_at "w"
       exact kn2 _ _ ⟨_,rfl,rfl,by decide,by decide⟩
     obtain ⟨n,rfl,rfl,h1,h2⟩:=hp
     walk_at "w"
     exact k _ ⟨h1,h2⟩
    ·walk_at "w"
     exact kn _ _ ⟨rfl,rfl⟩
   ·walk_at "w"
    exact kn _ _ ⟨rfl,rfl⟩
  obtain ⟨rfl,rfl⟩:=hp
  walk_at "w"
  refine f_invR (fun i σ H3=>∃ (n:Int) (o:Option V),σ = [some (.ref a),some (.int j),some (.int n),o]∧H = H3∧0≤n) ⟨_,_,rfl,rfl,by decide⟩ (fun i σ H3 hi hp=>?_) (fun σ H3 hp=>?_)
  ·obtain ⟨n,o,rfl,rfl,h1⟩:=hp
   have hi7:i < 7:=hi
   walk_at "w"
   refine c_law_mixed ha (by omega) fun m hm=>?_
   walk_at "w"
   exact ⟨_,_,rfl,rfl,by omega⟩
  ·obtain ⟨n,o,rfl,rfl,h1⟩:=hp
   walk_at "w"
   exact k _ ⟨Int.emod_nonneg _ (by decide),Int.le_trans (Int.le_of_lt (Int.emod_lt_of_pos _ (by decide))) (show (10:Int) ^ Int.toNat 60≤2 * 10 ^ 60 by decide)⟩
theorem sc_law_row:FnScope ["_law_number_here","_law_first","_law_half","_law_row_here","_law_digits","_law_k"] ["_law_number_here","_law_first","_law_half"] (defScope s_law_row):=⟨rfl,rfl,rfl,by decide +kernel,rfl,by decide +kernel,by decide +kernel⟩
set_option maxHeartbeats 4000000 in
theorem ok_law_row (D:Def K mg "_law_row" s_law_row ["_law_number_here","_law_first","_law_half"]) (T:Txt K mg G):Ok P w K mg base 1 "_law_row" ["_law_number_here","_law_first","_law_half"] (sp_law_row K):=by
 have S:=sc_law_row
 refine D.ok S (fun vs H Q E h=>?_) (fun f cdv A outer s H vs Q E hr h=>?_)
 ·obtain ⟨n,f,h,rfl,hn,hf,hh,k⟩:=h; rfl
 ·obtain ⟨n,f,h,rfl,hn,hf,hh,k⟩:=h
  have hu:=hu_of hr
  have q_ONE:=T.q_ONE
  have q_PRIMES:=T.q_PRIMES
  refine ⟨_,(pss_cons (ps_set (i:=3) S.nd rfl (Or.inl rfl) (pe_lst (pa_cons (pe_op op_sub (pe_op op_mod (pv 0) (pe_op op_add (pe_op op_mul pe_int (pv 1)) pe_int)) (pv 1)) pa_nil))) (pss_cons (ps_set (i:=4) S.nd rfl (Or.inl rfl) (pe_op op_fdiv (pv 0) (pe_op op_add (pe_op op_mul pe_int (pv 1)) pe_int))) (pss_cons (ps_for PassesOwn.never rfl (pi_range1 rfl T.b_range (pa_cons pe_int pa_nil)) (pg_name (i:=5) S.nd rfl (Or.inl rfl)) (pss_cons (ps_expr (pe_bm PySem.F.plainAttrs_list PySem.F.slot_list_append PySem.F.type_list_append mt_append (pv 3) (pa_cons (pe_op op_sub (pe_op op_mod (pv 4) (pe_op op_add (pe_op op_mul pe_int (pv 2)) pe_int)) (pv 2)) pa_nil))) (pss_one (ps_set (i:=4) S.nd rfl (Or.inl rfl) (pe_op op_fdiv (pv 4) (pe_op op_add (pe_op op_mul pe_int (pv 2)) pe_int)))))) (pss_one (ps_ret (pe_callTy (kN_tuple K rfl) rfl T.b_tuple PyProof.Rows.boot_tuple (pa_cons (pv 3) pa_nil))))))),?_⟩
  walk_at "w"
  rename_i l H2 n2 s2 m2
  refine f_invR (fun i σ H3=>∃ (o:Option V) (d:Int) (zs:List Int),σ = [some (.int n),some (.int f),some (.int h),some (.ref l),some (.int d),o]∧Same H H3∧H3 l = some (.lst (((n % (2 * f + 1) - f) :: zs).map V.int))∧zs.length = i∧∀ z∈zs,-h≤z∧z≤h) ⟨_,_,[],rfl,s2,m2,rfl,fun _ z=>nomatch z⟩ (fun i σ H3 hi hp=>?_) (fun σ H3 hp=>?_)
  ·obtain ⟨o,d,zs,rfl,s3,m3,hz,hb⟩:=hp
   have hi4:i < 4:=hi
   walk_at "w"
   refine r_append m3 (by simp; omega) ?_
   walk_at "w"
   refine ⟨_,_,zs ++ [d % (2 * h + 1) - h],rfl,s3.upd_old n2,by rw [upd_same]; simp,by simp [hz],fun z hz=>?_⟩
   rcases List.mem_append.mp hz with q | q
   ·exact hb z q
   ·rw [List.mem_singleton.mp q]
    have g1:=Int.emod_nonneg d (show 2 * h + 1≠0 by omega)
    have g2:=Int.emod_lt_of_pos d (show 0 < 2 * h + 1 by omega)
    omega
  ·obtain ⟨o,d,zs,rfl,s3,m3,hz,hb⟩:=hp
   have g1:=Int.emod_nonneg n (show 2 * f + 1≠0 by omega)
   have g2:=Int.emod_lt_of_pos n (show 0 < 2 * f + 1 by omega)
   match zs,hz,hb,m3 with
   | [z1,z2,z3,z4],_,hb,m3 =>
    walk_at "w"
    exact k _ [_,z1,z2,z3,z4] _ (by walk_at "sm") (by assumption) ⟨_,z1,z2,z3,z4,rfl,by omega,hb _ (by simp),hb _ (by simp),hb _ (by simp),hb _ (by simp)⟩
theorem sc_law_fraction:FnScope ["_law_row_here","_law_top","_law_bottom","_law_prime","_law_count","_law_turn"] ["_law_row_here"] (defScope s_law_fraction):=⟨rfl,rfl,rfl,by decide +kernel,rfl,by decide +kernel,by decide +kernel⟩
set_option maxHeartbeats 4000000 in
theorem ok_law_fraction (D:Def K mg "_law_fraction" s_law_fraction ["_law_row_here"]) (T:Txt K mg G):Ok P w K mg base 1 "_law_fraction" ["_law_row_here"] (sp_law_fraction K):=by
 have S:=sc_law_fraction
 refine D.ok S (fun vs H Q E h=>?_) (fun f cdv A outer s H vs Q E hr h=>?_)
 ·obtain ⟨a,e0,e1,e2,e3,e4,rfl,ha,hb,k⟩:=h; rfl
 ·obtain ⟨a,e0,e1,e2,e3,e4,rfl,ha,hb,k⟩:=h
  have hu:=hu_of hr
  have q_ONE:=T.q_ONE
  have q_PRIMES:=T.q_PRIMES
  refine ⟨_,(pss_cons (ps_set (i:=1) S.nd rfl (Or.inl rfl) pe_int) (pss_cons (ps_set (i:=2) S.nd rfl (Or.inl rfl) pe_int) (pss_cons (ps_for PassesOwn.never rfl (kpi_zip2 K rfl false true rfl T.b_zip (@pa_cons _ _ _ _ _ (pe_lst (pa_cons pe_int (pa_cons pe_int (pa_cons pe_int (pa_cons pe_int (pa_cons pe_int pa_nil)))))) (@pa_cons _ _ _ _ _ (pv 0) pa_nil (by rfl)) (by rfl))) (kpg_tup (n:=2) K rfl rfl (pgs_cons (pg_name (i:=3) S.nd rfl (Or.inl rfl)) (pgs_cons (pg_name (i:=4) S.nd rfl (Or.inl rfl)) pgs_nil))) (pss_one (ps_for PassesOwn.never rfl (pi_range1 rfl T.b_range (pa_cons (pe_callB callN_abs rfl T.b_abs PyProof.Rows.boot_abs (pa_cons (pv 4) pa_nil)) pa_nil)) (pg_name (i:=5) S.nd rfl (Or.inl rfl)) (pss_one (ps_if (pt_cmpR op_gt (pv 4) pe_int (nomark _)) (pss_one (ps_set (i:=1) S.nd rfl (Or.inl rfl) (pe_op op_mul (pv 1) (pv 3)))) (pss_one (ps_set (i:=2) S.nd rfl (Or.inl rfl) (pe_op op_mul (pv 2) (pv 3))))))))) (pss_one (ps_ret (pe_tup (pa_cons (pv 1) (pa_cons (pv 2) pa_nil)))))))),?_⟩
  obtain ⟨⟨h1,h2⟩,⟨h3,h4⟩,⟨h5,h6⟩,⟨h7,h8⟩,⟨h9,h10⟩⟩:=hb
  walk_at "w"
  refine f_zip (by walk_at "hf") (by walk_at "hf") (by rfl) (fun i σ=>∃ o1 o2 o3,σ = [some (.ref a),some (.int (Mth.PPn e0 e1 e2 e3 e4 i)),some (.int (Mth.PPn (0 - e0) (0 - e1) (0 - e2) (0 - e3) (0 - e4) i)),o1,o2,o3]) ⟨_,_,_,rfl⟩ (fun i x y σ H2 hx hy hp s=>?_) (fun σ H2 hp s=>?_)
  ·obtain ⟨o1,o2,o3,rfl⟩:=hp
   have hi:i < 5:=by have:=(List.getElem?_eq_some_iff.mp hx).1; simpa using this
   obtain ⟨p,e,rfl,rfl,hp,he,q1,q2⟩:∃ p e:Int,x = .int p∧y = .int e∧(-16 < p∧p < 16)∧(-4000≤e∧e≤4000)∧Mth.PPn e0 e1 e2 e3 e4 (i + 1) = Mth.PPn e0 e1 e2 e3 e4 i * p ^ e.toNat∧Mth.PPn (0 - e0) (0 - e1) (0 - e2) (0 - e3) (0 - e4) (i + 1) = Mth.PPn (0 - e0) (0 - e1) (0 - e2) (0 - e3) (0 - e4) i * p ^ (0 - e).toNat:=by
    match i,hi with
    | 0,_ | 1,_ | 2,_ | 3,_ | 4,_ =>
     cases hx
     cases hy
     exact ⟨_,_,rfl,rfl,⟨by decide,by decide⟩,⟨by omega,by omega⟩,rfl,rfl⟩
   walk_at "w"
   refine f_rngE (fun j σ=>∃ o4,σ = [some (.ref a),some (.int (Mth.PPn e0 e1 e2 e3 e4 i * p ^ (if 0 < e then j else 0))),some (.int (Mth.PPn (0 - e0) (0 - e1) (0 - e2) (0 - e3) (0 - e4) i * p ^ (if 0 < e then 0 else j))),some (.int p),some (.int e),o4]) ⟨o3,by split <;> simp <;> rfl⟩ (fun j σ hj hp=>?_) (fun σ hp=>?_)
   ·obtain ⟨o4,rfl⟩:=hp
    walk_at "w"
    refine if_both (fun hc=>?_) (fun hc=>?_)
    ·have hc':0 < e:=of_decide_eq_true hc
     simp only [hc',if_true]
     walk_at "w"
     exact ⟨⟨_,by rw [Int.pow_succ,← Int.mul_assoc] <;> rfl⟩,rfl⟩
    ·have hc':¬ 0 < e:=of_decide_eq_false hc
     simp only [hc',if_false]
     walk_at "w"
     exact ⟨⟨_,by rw [Int.pow_succ,← Int.mul_assoc] <;> rfl⟩,rfl⟩
   obtain ⟨o4,rfl⟩:=hp
   rw [q1,q2]
   by_cases hc:0 < e
   ·have t1:(if e < 0 then -e else e).toNat = e.toNat:=by split <;> omega
    have t2:(0 - e).toNat = 0:=by omega
    simp only [hc,if_true,t1,t2]
    exact ⟨⟨_,_,_,rfl⟩,by walk_at "sm"⟩
   ·have t1:(if e < 0 then -e else e).toNat = (0 - e).toNat:=by split <;> omega
    have t2:e.toNat = 0:=by omega
    simp only [hc,if_false,t1,t2]
    exact ⟨⟨_,_,_,rfl⟩,by walk_at "sm"⟩
  ·obtain ⟨o1,o2,o3,rfl⟩:=hp
   have k2:∀ p H',Same H H'→H' p = some (.tup [.int (Mth.PPn e0 e1 e2 e3 e4 5),.int (Mth.PPn (0 - e0) (0 - e1) (0 - e2) (0 - e3) (0 - e4) 5)])→Q (.ref p) H':=fun p H' s m=>k p H' s (by rw [Mth.PPn_top,Mth.PPn_bot] at m; exact m)
   walk_at "w"
   rename_i p9 H9 s9 m9
   exact k2 _ _ (by walk_at "sm") m9
theorem sc_law_folded:FnScope ["_law_row_here","_law_pair_here","_law_top","_law_bottom","_law_first"] ["_law_row_here"] (defScope s_law_folded):=⟨rfl,rfl,rfl,by decide +kernel,rfl,by decide +kernel,by decide +kernel⟩
structure Os_law_folded (P:Program) (w:World) (K:PySem.W.Frag) (mg:Str→Option Value) (base:Heap) (G:Adr):Prop where
 law_fraction:Ok P w K mg base 1 "_law_fraction" ["_law_row_here"] (sp_law_fraction K)
set_option maxHeartbeats 7000000 in
theorem ok_law_folded (D:Def K mg "_law_folded" s_law_folded ["_law_row_here"]) (T:Txt K mg G) (O:Os_law_folded P w K mg base G):Ok P w K mg base 2 "_law_folded" ["_law_row_here"] (sp_law_folded K):=by
 have S:=sc_law_folded
 refine D.ok S (fun vs H Q E h=>?_) (fun f cdv A outer s H vs Q E hr h=>?_)
 ·obtain ⟨a,r,rfl,ha,hb,k⟩:=h; rfl
 ·obtain ⟨a,r,rfl,ha,hb,k⟩:=h
  have hu:=hu_of hr
  have q_ONE:=T.q_ONE
  have q_PRIMES:=T.q_PRIMES
  refine ⟨_,(pss_cons (ps_set (i:=1) S.nd rfl (Or.inl rfl) (pcall O.law_fraction (hr.mono (by decide)) (pa_cons (pe_op (kop_catT K rfl) (pe_tup (pa_cons pe_int pa_nil)) (pe_slice (ksl_tup K rfl) (pv 0) (po_some pe_int) po_none)) pa_nil))) (pss_cons (ps_set (i:=2) S.nd rfl (Or.inl rfl) (pe_ix (kx_seq K rfl) (pv 1) pe_int (fun _ _=>rfl))) (pss_cons (ps_set (i:=3) S.nd rfl (Or.inl rfl) (pe_ix (kx_seq K rfl) (pv 1) pe_int (fun _ _=>rfl))) (pss_cons (ps_set (i:=4) S.nd rfl (Or.inl rfl) pe_int) (pss_cons (ps_while PassesOwn.never (pt_cmpR op_lt (pv 2) (pv 3) (nomark _)) (pss_cons (ps_set (i:=2) S.nd rfl (Or.inl rfl) (pe_op op_mul (pv 2) pe_int)) (pss_one (ps_set (i:=4) S.nd rfl (Or.inl rfl) (pe_op op_add (pv 4) pe_int))))) (pss_cons (ps_while PassesOwn.never (pt_cmpR op_ge (pv 2) (pe_op op_mul pe_int (pv 3)) (nomark _)) (pss_cons (ps_set (i:=3) S.nd rfl (Or.inl rfl) (pe_op op_mul (pv 3) pe_int)) (pss_one (ps_set (i:=4) S.nd rfl (Or.inl rfl) (pe_op op_sub (pv 4) pe_int))))) (pss_one (ps_ret (pe_op (kop_catT K rfl) (pe_tup (pa_cons (pv 4) pa_nil)) (pe_slice (ksl_tup K rfl) (pv 0) (po_some pe_int) po_none)))))))))),?_⟩
  obtain ⟨e0,e1,e2,e3,e4,rfl,b0,b1,b2,b3,b4⟩:=hb
  have ha':SqT K H a [.int e0,.int e1,.int e2,.int e3,.int e4]:=ha
  walk_at "w"
  refine c_law_fraction (e0:=0) (e1:=e1) (e2:=e2) (e3:=e3) (e4:=e4) (by walk_at "hf") (by unfold Mth.Bd; omega) fun p1 H1 s1 m1=>?_
  rw [Mth.top5_0,Mth.bot5_0] at m1
  have tb:=rt_lt60 (b:=e1) (c:=e2) (d:=e3) (e:=e4) (by omega) (by omega) (by omega) (by omega)
  have bb:=rb_lt60 (b:=e1) (c:=e2) (d:=e3) (e:=e4) (by omega) (by omega) (by omega) (by omega)
  have tp:=Mth.rt_pos e1 e2 e3 e4
  have bp:=Mth.rb_pos e1 e2 e3 e4
  have fij:=fun i j=>Mth.fold_ij (b:=e1) (c:=e2) (d:=e3) (e:=e4) (i:=i) (j:=j)
  generalize Mth.rt e1 e2 e3 e4 = t at *
  generalize Mth.rb e1 e2 e3 e4 = u at *
  have p2:∀ n:Nat,(0:Int) < 2 ^ n:=Mth.pow2_pos
  repeat (first | with_reducible refine r_gname ?_ | with_reducible refine r_seq ?_ | with_reducible refine r_asg ?_ | (with_reducible refine r_op ?_) | ((with_reducible apply r_var); (exact rfl)) | (with_reducible refine r_c ?_) | ((with_reducible apply r_ixT); (walk_at "hf"); (exact rfl)))
  refine join (fun σ' H'=>∃ i:Nat,σ' = [some (.ref a),some (.ref p1),some (.int (2 ^ i * t)),some (.int u),some (.int i)]∧H1 = H'∧i≤700∧u≤2 ^ i * t) (fun nx kn=>?_) (fun σ' H' hp=>?_)
  ·refine f_while (fun m σ' H'=>∃ i:Nat,σ' = [some (.ref a),some (.ref p1),some (.int (2 ^ i * t)),some (.int u),some (.int i)]∧H1 = H'∧i≤700∧m = 700 - i) 700 ⟨0,by rw [Int.pow_zero,Int.one_mul] <;> rfl,rfl,by decide,rfl⟩ (fun m σ' H' hw=>?_)
   obtain ⟨i,rfl,rfl,hi,rfl⟩:=hw
   walk_at "w"
   refine if_both (fun hc=>?_) (fun hc=>?_)
   ·have hc':=of_decide_eq_true hc
    have hi2:i < 700:=by
     refine Mth.pow2_lt (x:=2 ^ i * t) ?_ (by omega)
     have:=Int.mul_le_mul_of_nonneg_left tp (Int.le_of_lt (p2 i))
     omega
    refine w_go ?_
    walk_at "w"
    refine ⟨_,by omega,i + 1,?_,rfl,by omega,rfl⟩
    rw [Int.pow_succ,Int.mul_right_comm]
    rfl
   ·exact kn _ _ ⟨i,rfl,rfl,hi,Int.not_lt.mp (of_decide_eq_false hc)⟩
  obtain ⟨i,rfl,rfl,hi,hui⟩:=hp
  have hti:2 ^ i * t < 2 ^ 1401:=by
   have h1:(2:Int) ^ i≤2 ^ 700:=Mth.pow2_mono hi
   have h2:2 ^ i * t≤2 ^ 700 * t:=Int.mul_le_mul_of_nonneg_right h1 (by omega)
   have h3:(2:Int) ^ 700 * t < 2 ^ 700 * 2 ^ 700:=Int.mul_lt_mul_of_pos_left tb (p2 700)
   have h4:(2:Int) ^ 700 * 2 ^ 700 < 2 ^ 1401:=by decide +kernel
   omega
  with_reducible refine r_seq ?_
  refine join (fun σ' H'=>∃ j:Nat,σ' = [some (.ref a),some (.ref p1),some (.int (2 ^ i * t)),some (.int (2 ^ j * u)),some (.int ((i:Int) - j))]∧H1 = H'∧j≤1401∧2 ^ j * u≤2 ^ i * t∧2 ^ i * t < 2 * (2 ^ j * u)) (fun nx kn=>?_) (fun σ' H' hp=>?_)
  ·refine f_while (fun m σ' H'=>∃ j:Nat,σ' = [some (.ref a),some (.ref p1),some (.int (2 ^ i * t)),some (.int (2 ^ j * u)),some (.int ((i:Int) - j))]∧H1 = H'∧j≤1401∧2 ^ j * u≤2 ^ i * t∧m = 1401 - j) 1401 ⟨0,by rw [Int.pow_zero,Int.one_mul,show (i:Int) - ((0:Nat):Int) = i by omega] <;> rfl,rfl,by decide,by simpa using hui,rfl⟩ (fun m σ' H' hw=>?_)
   obtain ⟨j,rfl,rfl,hj,hju,rfl⟩:=hw
   walk_at "w"
   refine if_both (fun hc=>?_) (fun hc=>?_)
   ·have hc':=of_decide_eq_true hc
    have hj2:j < 1401:=by
     refine Mth.pow2_lt (x:=2 ^ i * t) ?_ hti
     have:=Int.mul_le_mul_of_nonneg_left bp (Int.le_of_lt (p2 j))
     omega
    refine w_go ?_
    walk_at "w"
    refine ⟨_,by omega,j + 1,?_,rfl,by omega,?_,rfl⟩
    ·rw [Int.pow_succ,Int.mul_right_comm,show (i:Int) - ((j + 1:Nat):Int) = (i:Int) - j - 1 by omega]
     rfl
    ·rw [Int.pow_succ,Int.mul_right_comm]; omega
   ·exact kn _ _ ⟨j,rfl,rfl,hj,hju,Int.not_le.mp (of_decide_eq_false hc)⟩
  obtain ⟨j,rfl,rfl,hj,hj1,hj2⟩:=hp
  walk_at "w"
  rename_i p9 H9 s9 m9
  have fo:=Mth.fold_oct e0 e1 e2 e3 e4
  have fb:=fold_bd60 b1 b2 b3 b4 fo
  have en:(i:Int) - j = e0 - Mth.octR (Mth.top5 e0 e1 e2 e3 e4) (Mth.bot5 e0 e1 e2 e3 e4):=Mth.fold_uniq (by unfold Mth.Bd; omega) (by unfold Mth.Bd; omega) (fij i j hj1 hj2) fo
  rw [en] at m9
  exact k _ _ (by walk_at "sm") m9
theorem sc_law_plus:FnScope ["_law_one","_law_other"] ["_law_one","_law_other"] (defScope s_law_plus):=⟨rfl,rfl,rfl,by decide +kernel,rfl,by decide +kernel,by decide +kernel⟩
theorem ok_law_plus (D:Def K mg "_law_plus" s_law_plus ["_law_one","_law_other"]) (T:Txt K mg G):Ok P w K mg base 1 "_law_plus" ["_law_one","_law_other"] (sp_law_plus K):=by
 have S:=sc_law_plus
 refine D.ok S (fun vs H Q E h=>?_) (fun f cdv A outer s H vs Q E hr h=>?_)
 ·obtain ⟨a,b,a0,a1,a2,a3,a4,b0,b1,b2,b3,b4,rfl,ha,hb,k⟩:=h; rfl
 ·obtain ⟨a,b,a0,a1,a2,a3,a4,b0,b1,b2,b3,b4,rfl,ha,hb,k⟩:=h
  have hu:=hu_of hr
  have q_ONE:=T.q_ONE
  have q_PRIMES:=T.q_PRIMES
  refine ⟨_,(pss_one (ps_ret (pe_callTy (kN_tuple K rfl) rfl T.b_tuple PyProof.Rows.boot_tuple (pa_cons (pe_comp (N:=["_law_x","_law_y"]) (ix:=[none,none]) rfl (kpi_zip2 K rfl true true rfl T.b_zip (pa_cons (pv 0) (pa_cons (pv 1) pa_nil))) (fun _ _ _ _ _=>(kpg_tup (n:=2) K rfl rfl (pgs_cons (pg_name (i:=0) (show List.Nodup (["_law_x","_law_y"]:List Str) by decide +kernel) rfl (Or.inl rfl)) (pgs_cons (pg_name (i:=1) (show List.Nodup (["_law_x","_law_y"]:List Str) by decide +kernel) rfl (Or.inl rfl)) pgs_nil)))) (fun _ _ _ _ _=>rfl) (fun _ _ _ _ _=>(pe_op op_add (pv 0) (pv 1))) rfl (by decide +kernel) (by decide +kernel) rfl True.intro) pa_nil)))),?_⟩
  refine ⟨_,rfl,_,rfl,a,b,rfl,⟨_,ha⟩,⟨_,hb⟩,rd_zipRows (r:=[a0,a1,a2,a3,a4]) (q:=[b0,b1,b2,b3,b4]) (· + ·) rfl ha hb rfl (by show 5≤1000; decide) fun l H' hl hs hl'=>?_⟩
  exact r_tupleL (SqL.of hl') fun p H2 s2 m=>k p H2 (hs.trans s2) m
theorem sc_law_less:FnScope ["_law_one","_law_other"] ["_law_one","_law_other"] (defScope s_law_less):=⟨rfl,rfl,rfl,by decide +kernel,rfl,by decide +kernel,by decide +kernel⟩
theorem ok_law_less (D:Def K mg "_law_less" s_law_less ["_law_one","_law_other"]) (T:Txt K mg G):Ok P w K mg base 1 "_law_less" ["_law_one","_law_other"] (sp_law_less K):=by
 have S:=sc_law_less
 refine D.ok S (fun vs H Q E h=>?_) (fun f cdv A outer s H vs Q E hr h=>?_)
 ·obtain ⟨a,b,a0,a1,a2,a3,a4,b0,b1,b2,b3,b4,rfl,ha,hb,k⟩:=h; rfl
 ·obtain ⟨a,b,a0,a1,a2,a3,a4,b0,b1,b2,b3,b4,rfl,ha,hb,k⟩:=h
  have hu:=hu_of hr
  have q_ONE:=T.q_ONE
  have q_PRIMES:=T.q_PRIMES
  refine ⟨_,(pss_one (ps_ret (pe_callTy (kN_tuple K rfl) rfl T.b_tuple PyProof.Rows.boot_tuple (pa_cons (pe_comp (N:=["_law_x","_law_y"]) (ix:=[none,none]) rfl (kpi_zip2 K rfl true true rfl T.b_zip (pa_cons (pv 0) (pa_cons (pv 1) pa_nil))) (fun _ _ _ _ _=>(kpg_tup (n:=2) K rfl rfl (pgs_cons (pg_name (i:=0) (show List.Nodup (["_law_x","_law_y"]:List Str) by decide +kernel) rfl (Or.inl rfl)) (pgs_cons (pg_name (i:=1) (show List.Nodup (["_law_x","_law_y"]:List Str) by decide +kernel) rfl (Or.inl rfl)) pgs_nil)))) (fun _ _ _ _ _=>rfl) (fun _ _ _ _ _=>(pe_op op_sub (pv 0) (pv 1))) rfl (by decide +kernel) (by decide +kernel) rfl True.intro) pa_nil)))),?_⟩
  refine ⟨_,rfl,_,rfl,a,b,rfl,⟨_,ha⟩,⟨_,hb⟩,rd_zipRows (r:=[a0,a1,a2,a3,a4]) (q:=[b0,b1,b2,b3,b4]) (· - ·) rfl ha hb rfl (by show 5≤1000; decide) fun l H' hl hs hl'=>?_⟩
  exact r_tupleL (SqL.of hl') fun p H2 s2 m=>k p H2 (hs.trans s2) m
theorem sc_law_lower:FnScope ["_law_one","_law_other","_law_pair_here"] ["_law_one","_law_other"] (defScope s_law_lower):=⟨rfl,rfl,rfl,by decide +kernel,rfl,by decide +kernel,by decide +kernel⟩
structure Os_law_lower (P:Program) (w:World) (K:PySem.W.Frag) (mg:Str→Option Value) (base:Heap) (G:Adr):Prop where
 law_fraction:Ok P w K mg base 1 "_law_fraction" ["_law_row_here"] (sp_law_fraction K)
 law_less:Ok P w K mg base 1 "_law_less" ["_law_one","_law_other"] (sp_law_less K)
theorem ok_law_lower (D:Def K mg "_law_lower" s_law_lower ["_law_one","_law_other"]) (T:Txt K mg G) (O:Os_law_lower P w K mg base G):Ok P w K mg base 2 "_law_lower" ["_law_one","_law_other"] (sp_law_lower K):=by
 have S:=sc_law_lower
 refine D.ok S (fun vs H Q E h=>?_) (fun f cdv A outer s H vs Q E hr h=>?_)
 ·obtain ⟨a,b,r,q,rfl,ha,hb,h1,h2,k⟩:=h; rfl
 ·obtain ⟨a,b,r,q,rfl,ha,hb,h1,h2,k⟩:=h
  have hu:=hu_of hr
  have q_ONE:=T.q_ONE
  have q_PRIMES:=T.q_PRIMES
  refine ⟨_,(pss_cons (ps_set (i:=2) S.nd rfl (Or.inl rfl) (pcall O.law_fraction (hr.mono (by decide)) (pa_cons (pcall O.law_less (hr.mono (by decide)) (pa_cons (pv 0) (pa_cons (pv 1) pa_nil))) pa_nil))) (pss_one (ps_ret (pe_cmpR op_lt (pe_ix (kx_seq K rfl) (pv 2) pe_int (fun _ _=>rfl)) (pe_ix (kx_seq K rfl) (pv 2) pe_int (fun _ _=>rfl)) (nomark _))))),?_⟩
  have d1:=h1.bd (by decide) (by decide)
  have d2:=h2.bd (by decide) (by decide)
  obtain ⟨a0,a1,a2,a3,a4,rfl,_⟩:=h1
  obtain ⟨c0,c1,c2,c3,c4,rfl,_⟩:=h2
  have ha':SqT K H a [.int a0,.int a1,.int a2,.int a3,.int a4]:=ha
  have hb':SqT K H b [.int c0,.int c1,.int c2,.int c3,.int c4]:=hb
  walk_at "w"
  refine c_law_fraction (by walk_at "hf") (by unfold Mth.Bd; omega) fun p1 H1 s1 m1=>?_
  walk_at "w"
  have e:decide (Mth.top5 (a0 - c0) (a1 - c1) (a2 - c2) (a3 - c3) (a4 - c4) < Mth.bot5 (a0 - c0) (a1 - c1) (a2 - c2) (a3 - c3) (a4 - c4)) = decide (nsr [a0,a1,a2,a3,a4] < nsr [c0,c1,c2,c3,c4]):=decide_eq_decide.mpr (Mth.lt_NS d1 d2)
  rw [e]
  exact k _ (by walk_at "sm")
theorem sc_law_scale:FnScope ["_law_rows_here","_law_scale_here","_law_row_here","_law_at"] ["_law_rows_here"] (defScope s_law_scale):=⟨rfl,rfl,rfl,by decide +kernel,rfl,by decide +kernel,by decide +kernel⟩
structure Os_law_scale (P:Program) (w:World) (K:PySem.W.Frag) (mg:Str→Option Value) (base:Heap) (G:Adr):Prop where
 law_lower:Ok P w K mg base 2 "_law_lower" ["_law_one","_law_other"] (sp_law_lower K)
set_option maxHeartbeats 4000000 in
theorem ok_law_scale (D:Def K mg "_law_scale" s_law_scale ["_law_rows_here"]) (T:Txt K mg G) (O:Os_law_scale P w K mg base G):Ok P w K mg base 3 "_law_scale" ["_law_rows_here"] (sp_law_scale K):=by
 have S:=sc_law_scale
 refine D.ok S (fun vs H Q E h=>?_) (fun f cdv A outer s H vs Q E hr h=>?_)
 ·obtain ⟨a,xs,rs,rfl,ha,hra,hb,hn,k⟩:=h; rfl
 ·obtain ⟨a,xs,rs,rfl,ha,hra,hb,hn,k⟩:=h
  have hu:=hu_of hr
  have q_ONE:=T.q_ONE
  have q_PRIMES:=T.q_PRIMES
  refine ⟨_,(pss_cons (ps_set (i:=1) S.nd rfl (Or.inl rfl) (pe_lst pa_nil)) (pss_cons (ps_for PassesOwn.never rfl (kpi_list K rfl (pv 0)) (pg_name (i:=2) S.nd rfl (Or.inl rfl)) (pss_one (ps_if (pt_cmpR (kop_notInD K rfl hr.units) (pv 2) (pv 1) (by with_unfolding_all rfl)) (pss_cons (ps_set (i:=3) S.nd rfl (Or.inl rfl) pe_int) (pss_cons (ps_while PassesOwn.never (PW.pt (pw_and (pt_cmpR op_lt (pv 3) (pe_callB (kN_len K rfl) rfl T.b_len PySem.boot_len (pa_cons (pv 1) pa_nil)) (nomark _)) (pw_and1 (pt_val (pcall O.law_lower (hr.mono (by decide)) (pa_cons (pe_ix (kx_seq K rfl) (pv 1) (pv 3) (fun _ _=>rfl)) (pa_cons (pv 2) pa_nil))))))) (pss_one (ps_set (i:=3) S.nd rfl (Or.inl rfl) (pe_op op_add (pv 3) pe_int)))) (pss_one (ps_expr (pe_bm PySem.F.plainAttrs_list PySem.F.slot_list_insert PySem.F.type_list_insert mt_insert (pv 1) (pa_cons (pv 3) (pa_cons (pv 2) pa_nil))))))) pss_nil))) (pss_one (ps_ret (pv 1))))),?_⟩
  walk_at "w"
  rename_i l H1 n1 s1 m1
  refine f_invL (xs:=xs) (fun i σ H2=>∃ (o1 o2:Option V) (ys:List V) (qs:List (List Int)),σ = [some (.ref a),some (.ref l),o1,o2]∧Same H H2∧H2 l = some (.lst ys)∧RowsL K H2 ys qs∧(qs.Pairwise fun x y=>nsr x < nsr y)∧(∀ q,q∈qs↔q∈rs.take i)∧qs.length≤i) ⟨_,_,[],[],rfl,s1,m1,.nil,.nil,(by simp),Nat.le_refl _⟩ (fun i σ H2 hp=>?_) (fun i x σ H2 hx hp=>?_) (fun σ H2 hp=>?_)
  ·obtain ⟨_,_,_,_,_,s2,_⟩:=hp
   exact s2.seq ha
  ·obtain ⟨o1,o2,ys,qs,rfl,s2,m2,hr2,hso,hqi,hle⟩:=hp
   have hqr:∀ q∈qs,q∈rs:=fun q hq=>List.mem_of_mem_take ((hqi q).mp hq)
   have hi:i < xs.length:=(List.getElem?_eq_some_iff.mp hx).1
   have hlx:=hra.length
   obtain ⟨b,r,rfl,hbr,hri⟩:=(hra.same s2).get hx
   have hrm:r∈rs:=List.mem_of_getElem? hri
   have htk:rs.take (i + 1) = rs.take i ++ [r]:=by rw [List.take_add_one,hri]; rfl
   have hly:=hr2.length
   walk_at "w"
   refine r_notInD (SqL.of m2) hr2.tells (Tell.row hbr) (lay_rows _) (lay_row _) (Nat.le_trans (deep_row r) (by decide)) ?_
   rw [any_rows]
   walk_at "w"
   refine if_both (fun hc=>?_) (fun hc=>?_)
   ·have hc':r∉qs:=by simpa using hc
    repeat (first | with_reducible refine r_gname ?_ | with_reducible refine r_seq ?_ | with_reducible refine r_asg ?_ | (with_reducible refine r_c ?_))
    refine join (fun σ' H'=>∃ n:Nat,σ' = [some (.ref a),some (.ref l),some (.ref b),some (.int n)]∧Same H2 H'∧n≤qs.length∧(∀ j q,j < n→qs[j]? = some q→nsr q < nsr r)∧∀ q,qs[n]? = some q→¬ nsr q < nsr r) (fun nx kn=>?_) (fun σ' H3 hp=>?_)
    ·refine f_while (fun m σ' H'=>∃ n:Nat,σ' = [some (.ref a),some (.ref l),some (.ref b),some (.int n)]∧Same H2 H'∧n≤qs.length∧(∀ j q,j < n→qs[j]? = some q→nsr q < nsr r)∧m = qs.length - n) qs.length ⟨0,rfl,Same.refl _,Nat.zero_le _,(fun j q h=>absurd h (Nat.not_lt_zero _)),rfl⟩ (fun m σ' H3 hw=>?_)
     obtain ⟨n,rfl,s3,hn1,hn2,rfl⟩:=hw
     have m3:=s3 _ _ m2
     walk_at "w"
     refine if_both (fun hc1=>?_) (fun hc1=>?_)
     ·have hlt:n < qs.length:=by have:=of_decide_eq_true hc1; omega
      obtain ⟨b2,hx2,hb2⟩:=(hr2.same s3).row (List.getElem?_eq_getElem hlt)
      walk_at "w"
      refine r_ixL (SqL.of m3) (atI_nat hx2) ?_
      walk_at "w"
      refine c_law_lower hb2 (s3.at hbr) (hb _ (hqr _ (List.getElem_mem hlt))).1 (hb r hrm).1 fun H4 s4=>?_
      walk_at "w"
      refine if_both (fun hc2=>?_) (fun hc2=>?_)
      ·have hc2':=of_decide_eq_true hc2
       refine w_go ?_
       walk_at "w"
       refine ⟨_,by omega,n + 1,rfl,s3.trans s4,hlt,fun j q hj hq=>?_,rfl⟩
       rcases Nat.lt_succ_iff_lt_or_eq.mp hj with z | rfl
       ·exact hn2 j q z hq
       ·rw [List.getElem?_eq_getElem hlt] at hq
        cases hq
        exact hc2'
      ·refine kn _ _ ⟨n,rfl,s3.trans s4,hn1,hn2,fun q hq=>?_⟩
       rw [List.getElem?_eq_getElem hlt] at hq
       cases hq
       exact of_decide_eq_false hc2
     ·refine iteF ?_
      refine kn _ _ ⟨n,rfl,s3,hn1,hn2,fun q hq=>?_⟩
      have:=(List.getElem?_eq_some_iff.mp hq).1
      have:=of_decide_eq_false hc1
      omega
    obtain ⟨n,rfl,s3,hn1,hn2,hn3⟩:=hp
    have m3:=s3 _ _ m2
    walk_at "w"
    refine r_insert m3 (by omega) (by omega) ?_
    refine ⟨_,_,_,qs.take n ++ r :: qs.drop n,rfl,(s2.trans s3).upd_old n1,upd_same,?_,?_,fun q=>?_,?_⟩
    ·have hr3:=hr2.same s3
     exact ((hr3.take n).append (.cons (s3.at hbr) (hr3.drop n))).off m3
    ·refine Mth.pw_ins nsr hso hn2 fun q hq=>?_
     have h1:=hn3 q hq
     have h2:nsr q≠nsr r:=fun z=>by
      have e:=nsr_inj (hb q (hqr q (List.mem_of_getElem? hq))).1 (hb r hrm).1 (by decide) (by decide) z
      rw [e] at hq
      exact hc' (List.mem_of_getElem? hq)
     omega
    ·have e1:(q∈rs.take (i + 1))↔(q∈qs∨q = r):=by rw [htk,List.mem_append,List.mem_singleton,← hqi q]
     rw [e1,List.mem_append,List.mem_cons]
     have hsp:q∈qs↔(q∈qs.take n∨q∈qs.drop n):=by rw [← List.mem_append,List.take_append_drop]
     rw [hsp]
     constructor
     ·rintro (z | rfl | z)
      ·exact .inl (.inl z)
      ·exact .inr rfl
      ·exact .inl (.inr z)
     ·rintro ((z | z) | rfl)
      ·exact .inl z
      ·exact .inr (.inr z)
      ·exact .inr (.inl rfl)
    ·simp only [List.length_append,List.length_cons,List.length_take,List.length_drop]
     omega
   ·walk_at "w"
    refine ⟨_,_,ys,qs,rfl,s2,m2,hr2,hso,fun q=>?_,by omega⟩
    have hc':r∈qs:=by simpa using hc
    have e1:(q∈rs.take (i + 1))↔(q∈qs∨q = r):=by rw [htk,List.mem_append,List.mem_singleton,← hqi q]
    rw [e1]
    exact ⟨.inl,fun w=>w.elim id fun e=>e ▸ hc'⟩
  ·obtain ⟨o1,o2,ys,qs,rfl,s2,m2,hr2,hso,hqi,hle⟩:=hp
   have hlx:=hra.length
   rw [List.take_of_length_le (by omega)] at hqi
   walk_at "w"
   exact k _ ys qs _ s2 m2 hr2 hso hqi (by omega)
theorem sc_law_is_row:FnScope ["_law_found"] ["_law_found"] (defScope s_law_is_row):=⟨rfl,rfl,rfl,by decide +kernel,rfl,by decide +kernel,by decide +kernel⟩
theorem ok_law_is_row (D:Def K mg "_law_is_row" s_law_is_row ["_law_found"]) (T:Txt K mg G):Ok P w K mg base 1 "_law_is_row" ["_law_found"] (sp_law_is_row K):=by
 have S:=sc_law_is_row
 refine D.ok S (fun vs H Q E h=>?_) (fun f cdv A outer s H vs Q E hr h=>?_)
 ·obtain ⟨a,e0,e1,e2,e3,e4,rfl,ha,k⟩:=h; rfl
 ·obtain ⟨a,e0,e1,e2,e3,e4,rfl,ha,k⟩:=h
  have hu:=hu_of hr
  have q_ONE:=T.q_ONE
  have q_PRIMES:=T.q_PRIMES
  refine ⟨_,(pss_cons (ps_if (PW.pt (pw_or (pt_not (pt_val (pe_callB (kN_isinst K rfl) rfl T.b_isinstance PyProof.Rows.boot_isinstance (pa_cons (pv 0) (pa_cons (pe_bltn (v:=V.ty "tuple") rfl T.b_tuple PyProof.Rows.boot_tuple rfl) pa_nil))))) (pw_or1 (pt_cmpR op_ne (pe_callB (kN_len K rfl) rfl T.b_len PySem.boot_len (pa_cons (pv 0) pa_nil)) pe_int (nomark _))))) (pss_one (ps_ret pe_bl)) pss_nil) (pss_one (ps_ret (pe_callB (kN_all K rfl rfl) rfl T.b_all PyProof.Rows.boot_all (pa_cons (pe_comp (N:=["_law_number_here"]) (ix:=[none]) rfl (kpi_tup K rfl (pv 0)) (fun _ _ _ _ _=>(pg_name (i:=0) (show List.Nodup (["_law_number_here"]:List Str) by decide +kernel) rfl (Or.inl rfl))) (fun _ _ _ _ _=>rfl) (fun _ _ _ _ _=>(pe_and (pe_callB (kN_isinst K rfl) rfl T.b_isinstance PyProof.Rows.boot_isinstance (pa_cons (pv 0) (pa_cons (pe_bltn (v:=V.ty "int") rfl T.b_int PyProof.Rows.boot_int rfl) pa_nil))) (pe_one (pe_not (pe_callB (kN_isinst K rfl) rfl T.b_isinstance PyProof.Rows.boot_isinstance (pa_cons (pv 0) (pa_cons (pe_bltn (v:=V.ty "bool") rfl T.b_bool PyProof.Rows.boot_bool rfl) pa_nil))))))) rfl (by decide +kernel) (by decide +kernel) rfl True.intro) pa_nil))))),?_⟩
  walk_at "w"
  refine if_ff rfl ?_
  walk_at "w"
  refine if_ff rfl ?_
  walk_at "w"
  refine rd_row5 (fun _=>.bl true) [] rfl ha (fun x H' Qc s kc=>?_) (fun l H1 hl s1 m1=>?_)
  ·walk_at "w"
   refine iteT ?_
   walk_at "w"
   exact kc _ (Same.refl _)
  walk_at "w"
  refine r_all (bs:=[true,true,true,true,true]) (SqL.of m1) ?_
  exact k _ s1
theorem sc_law_rows:FnScope ["_law_found","_law_due","_law_k"] ["_law_found","_law_due"] (defScope s_law_rows):=⟨rfl,rfl,rfl,by decide +kernel,rfl,by decide +kernel,by decide +kernel⟩
structure Os_law_rows (P:Program) (w:World) (K:PySem.W.Frag) (mg:Str→Option Value) (base:Heap) (G:Adr):Prop where
 law_is_row:Ok P w K mg base 1 "_law_is_row" ["_law_found"] (sp_law_is_row K)
theorem ok_law_rows (D:Def K mg "_law_rows" s_law_rows ["_law_found","_law_due"]) (T:Txt K mg G) (O:Os_law_rows P w K mg base G):Ok P w K mg base 2 "_law_rows" ["_law_found","_law_due"] (sp_law_rows K):=by
 have S:=sc_law_rows
 refine D.ok S (fun vs H Q E h=>?_) (fun f cdv A outer s H vs Q E hr h=>?_)
 ·obtain ⟨l,m,xs,ys,rs,rfl,h1,h2,h3,h4,hb,hn,k⟩:=h; rfl
 ·obtain ⟨l,m,xs,ys,rs,rfl,h1,h2,h3,h4,hb,hn,k⟩:=h
  have hu:=hu_of hr
  have q_ONE:=T.q_ONE
  have q_PRIMES:=T.q_PRIMES
  refine ⟨_,(pss_cons (ps_if (PW.pt (pw_or (pt_not (pt_val (pe_callB (kN_isinst K rfl) rfl T.b_isinstance PyProof.Rows.boot_isinstance (pa_cons (pv 0) (pa_cons (pe_bltn (v:=V.ty "list") rfl T.b_list PyProof.Rows.boot_list rfl) pa_nil))))) (pw_or1 (pt_cmpR op_ne (pe_callB (kN_len K rfl) rfl T.b_len PySem.boot_len (pa_cons (pv 0) pa_nil)) (pe_callB (kN_len K rfl) rfl T.b_len PySem.boot_len (pa_cons (pv 1) pa_nil)) (nomark _))))) (pss_one (ps_ret pe_bl)) pss_nil) (pss_cons (ps_for PassesOwn.never rfl (pi_range1 rfl T.b_range (pa_cons (pe_callB (kN_len K rfl) rfl T.b_len PySem.boot_len (pa_cons (pv 1) pa_nil)) pa_nil)) (pg_name (i:=2) S.nd rfl (Or.inl rfl)) (pss_one (ps_if (PW.pt (pw_or (pt_not (pt_val (pcall O.law_is_row (hr.mono (by decide)) (pa_cons (pe_ix (kx_seq K rfl) (pv 0) (pv 2) (fun _ _=>rfl)) pa_nil)))) (pw_or1 (pt_cmpR (kop_neD K rfl hr.units) (pe_ix (kx_seq K rfl) (pv 0) (pv 2) (fun _ _=>rfl)) (pe_ix (kx_seq K rfl) (pv 1) (pv 2) (fun _ _=>rfl)) (nomark _))))) (pss_one (ps_ret pe_bl)) pss_nil))) (pss_one (ps_ret pe_bl)))),?_⟩
  have l3:=h3.length
  have l4:=h4.length
  walk_at "w"
  refine if_ff rfl ?_
  walk_at "w"
  refine if_ff (by simp; omega) ?_
  walk_at "w"
  refine f_rng (fun i σ=>∃ o,σ = [some (.ref l),some (.ref m),o]) ⟨_,rfl⟩ (fun i σ H2 hi hp s=>?_) (fun σ H2 hp s=>?_)
  ·obtain ⟨o,rfl⟩:=hp
   have hi':i < rs.length:=by simp at hi; omega
   obtain ⟨b,hxb,hb1⟩:=(h3.same s).row (List.getElem?_eq_getElem hi')
   obtain ⟨c,hyc,hc1⟩:=(h4.same s).row (List.getElem?_eq_getElem hi')
   rw [show (0:Int) + (i:Int) = (i:Int) by omega]
   have rbi:=hb _ (List.getElem_mem hi')
   generalize rs[i] = r at *
   obtain ⟨a0,a1,a2,a3,a4,rfl⟩:=rbi
   have hb2:SqT K H2 b [.int a0,.int a1,.int a2,.int a3,.int a4]:=hb1
   walk_at "w"
   refine r_ixL (s.seq h1) (atI_nat hxb) ?_
   walk_at "w"
   rename_i H3 s3
   refine iteF ?_
   walk_at "w"
   refine r_ixL (by walk_at "hf") (atI_nat hxb) ?_
   walk_at "w"
   refine r_ixL (by walk_at "hf") (atI_nat hyc) ?_
   refine r_neD (Tell.row (s3.at hb1)) (Tell.row (s3.at hc1)) (shaped_row _) (shaped_row _) ?_
   rw [eqv_row,decide_eq_true rfl]
   walk_at "w"
   refine iteF ?_
   walk_at "w"
   exact ⟨⟨_,rfl⟩,by walk_at "sm"⟩
  ·obtain ⟨o,rfl⟩:=hp
   walk_at "w"
   exact k _ s
theorem sc_law_tones:FnScope ["_law_script","_law_at","_law_count","_law_half","_law_made_here","_law_k","_law_number_here","_law_row_here"] ["_law_script","_law_at","_law_count","_law_half"] (defScope s_law_tones):=⟨rfl,rfl,rfl,by decide +kernel,rfl,by decide +kernel,by decide +kernel⟩
structure Os_law_tones (P:Program) (w:World) (K:PySem.W.Frag) (mg:Str→Option Value) (base:Heap) (G:Adr):Prop where
 law_number:Ok P w K mg base 2 "_law_number" ["_law_script","_law_k"] (sp_law_number K)
 law_row:Ok P w K mg base 1 "_law_row" ["_law_number_here","_law_first","_law_half"] (sp_law_row K)
set_option maxHeartbeats 4000000 in
theorem ok_law_tones (D:Def K mg "_law_tones" s_law_tones ["_law_script","_law_at","_law_count","_law_half"]) (T:Txt K mg G) (O:Os_law_tones P w K mg base G):Ok P w K mg base 3 "_law_tones" ["_law_script","_law_at","_law_count","_law_half"] (sp_law_tones K):=by
 have S:=sc_law_tones
 refine D.ok S (fun vs H Q E h=>?_) (fun f cdv A outer s H vs Q E hr h=>?_)
 ·obtain ⟨a,ns,j,n,h,rfl,ha,hj,hn,hh,k⟩:=h; rfl
 ·obtain ⟨a,ns,j,n,h,rfl,ha,hj,hn,hh,k⟩:=h
  have hu:=hu_of hr
  have q_ONE:=T.q_ONE
  have q_PRIMES:=T.q_PRIMES
  refine ⟨_,(pss_cons (ps_set (i:=4) S.nd rfl (Or.inl rfl) (pe_lst pa_nil)) (pss_cons (ps_for PassesOwn.never rfl (pi_range1 rfl T.b_range (pa_cons (pv 2) pa_nil)) (pg_name (i:=5) S.nd rfl (Or.inl rfl)) (pss_cons (ps_set (i:=6) S.nd rfl (Or.inl rfl) (pcall O.law_number (hr.mono (by decide)) (pa_cons (pv 0) (pa_cons (pe_op op_add (pv 1) (pv 5)) pa_nil)))) (pss_cons (ps_set (i:=7) S.nd rfl (Or.inl rfl) (pcall O.law_row (hr.mono (by decide)) (pa_cons (pe_op op_fdiv (pv 6) pe_int) (pa_cons pe_int (pa_cons (pv 3) pa_nil))))) (pss_cons (ps_if (PW.pt (pw_and (pt_cmpR op_eq (pe_op op_mod (pv 6) pe_int) pe_int (nomark _)) (pw_and1 (pt_cmpR (kop_neD K rfl hr.units) (pv 4) (pe_lst pa_nil) (nomark _))))) (pss_one (ps_set (i:=7) S.nd rfl (Or.inl rfl) (pe_op (kop_catT K rfl) (pe_slice (ksl_tup K rfl) (pv 7) po_none (po_some pe_int)) (pe_slice (ksl_tup K rfl) (pe_ix (kx_seq K rfl) (pv 4) (pe_op op_mod (pe_op op_fdiv (pv 6) (pe_op op_pow pe_int pe_int)) (pe_callB (kN_len K rfl) rfl T.b_len PySem.boot_len (pa_cons (pv 4) pa_nil))) (fun _ _=>rfl)) (po_some pe_int) po_none)))) pss_nil) (pss_one (ps_expr (pe_bm PySem.F.plainAttrs_list PySem.F.slot_list_append PySem.F.type_list_append mt_append (pv 4) (pa_cons (pv 7) pa_nil)))))))) (pss_one (ps_ret (pv 4))))),?_⟩
  walk_at "w"
  rename_i l H1 n1 s1 m1
  refine f_invR (fun i σ H2=>∃ (o1 o2 o3:Option V) (ys:List V) (rs:List (List Int)),σ = [some (.ref a),some (.int j),some (.int n),some (.int h),some (.ref l),o1,o2,o3]∧Same H H2∧H2 l = some (.lst ys)∧RowsL K H2 ys rs∧(∀ r∈rs,RB 30 h r)∧rs.length = i) ⟨_,_,_,[],[],rfl,s1,m1,.nil,(fun _ z=>nomatch z),rfl⟩ (fun i σ H2 hi hp=>?_) (fun σ H2 hp=>?_)
  ·obtain ⟨o1,o2,o3,ys,rs,rfl,s2,m2,hr2,hb2,hl2⟩:=hp
   have hly:=hr2.length
   have hi':i < 20:=by have:i < n.toNat:=hi; omega
   walk_at "w"
   refine c_law_number (s2.seq ha) (by omega) fun c hc=>?_
   walk_at "w"
   refine c_law_row (by omega) (by decide) (by omega) fun p r H3 s3 m3 hr3=>?_
   have m3l:=s3 _ _ m2
   repeat (first | with_reducible refine r_gname ?_ | with_reducible refine r_seq ?_)
   refine join (fun σ' H'=>∃ (q:Addr) (t:List Int),σ' = [some (.ref a),some (.int j),some (.int n),some (.int h),some (.ref l),some (.int (0 + (i:Int))),some (.int c),some (.ref q)]∧Same H3 H'∧SqT K H' q (t.map V.int)∧RB 30 h t) (fun nx kn=>?_) (fun σ' H4 hp=>?_)
   ·walk_at "w"
    refine if_both (fun hc=>?_) (fun hc=>?_)
    ·walk_at "w"
     rename_i p4 H4 n4 s4 m4
     refine r_neD (.lst (SqL.of (s4 _ _ m3l)) ((hr2.same (s3.trans s4)).tells)) (.lst (SqL.of m4) (RowsL.nil (K:=K) (H:=H4)).tells) (shaped_rows rs) (shaped_rows []) ?_
     rw [eqv_listR]
     walk_at "w"
     refine if_both (fun hc2=>?_) (fun hc2=>?_)
     ·have hne:rs≠[]:=by simpa using hc2
      have hpos:0 < rs.length:=List.length_pos_iff.mpr hne
      obtain ⟨y0,y1,y2,y3,y4,rfl,_,_,_,_,_⟩:=id hr3
      have m3':SqT K H4 p [.int y0,.int y1,.int y2,.int y3,.int y4]:=SqT.of (s4 _ _ m3)
      walk_at "v"
      refine r_slT m3' (show ¬ (HT.sIx 5 0 none = 0∧HT.sIx 5 5 (some 1) = 5) by decide) fun p7 H7 s7 m7'=>?_
      have m7:H7 p7 = some (.tup [.int y0]):=m7'
      walk_at "v"
      have hm0:=Int.emod_nonneg (c / 10 ^ Int.toNat 9) (show (ys.length:Int)≠0 by omega)
      have hm1:=Int.emod_lt_of_pos (c / 10 ^ Int.toNat 9) (show (0:Int) < (ys.length:Int) by omega)
      obtain ⟨z,hz⟩:∃ z:Nat,c / 10 ^ Int.toNat 9 % (ys.length:Int) = (z:Int):=Int.eq_ofNat_of_zero_le hm0
      rw [hz] at hm1 ⊢
      have hzl:z < rs.length:=by omega
      have s37:Same H3 H7:=s4.trans s7
      have sA:Same H2 H7:=s3.trans s37
      obtain ⟨b6,hx6,hb6⟩:=(hr2.same sA).row (List.getElem?_eq_getElem hzl)
      have rb6:=hb2 _ (List.getElem_mem hzl)
      generalize rs[z] = r6 at *
      obtain ⟨a0,a1,a2,a3,a4,rfl,_,_,_,_,_⟩:=rb6
      have hb7:SqT K H7 b6 [.int a0,.int a1,.int a2,.int a3,.int a4]:=hb6
      refine r_ixL (SqL.of (sA _ _ m2)) (atI_nat hx6) ?_
      walk_at "w"
      rename_i p8 H8 s8 m8 p9 H9 s9 m9
      exact kn _ _ ⟨_,[y0,a1,a2,a3,a4],rfl,(s37.trans s8).trans s9,SqT.of m9,_,_,_,_,_,rfl,by omega,by omega,by omega,by omega,by omega⟩
     ·walk_at "w"
      exact kn _ _ ⟨p,r,rfl,s4,SqT.of (s4 _ _ m3),hr3⟩
    ·refine iteF ?_
     walk_at "w"
     exact kn _ _ ⟨p,r,rfl,Same.refl _,SqT.of m3,hr3⟩
   obtain ⟨q,t,rfl,s4,hq,bt⟩:=hp
   have m4l:=s4 _ _ m3l
   walk_at "w"
   refine r_append m4l (by omega) ?_
   have s34:=s3.trans s4
   refine ⟨_,_,_,ys ++ [.ref q],rs ++ [t],rfl,(s2.trans s34).upd_old n1,upd_same,((hr2.same s34).off m4l).snoc (upd_sqT hq m4l),fun z hz=>?_,by rw [List.length_append,List.length_singleton]; omega⟩
   rcases List.mem_append.mp hz with g | g
   ·exact hb2 z g
   ·rw [List.mem_singleton.mp g]; exact bt
  ·obtain ⟨o1,o2,o3,ys,rs,rfl,s2,m2,hr2,hb2,hl2⟩:=hp
   walk_at "w"
   exact k _ ys rs _ s2 m2 hr2 hb2 (by omega)
theorem sc_law_made:FnScope ["_law_rows_here"] ["_law_rows_here"] (defScope s_law_made):=⟨rfl,rfl,rfl,by decide +kernel,rfl,by decide +kernel,by decide +kernel⟩
structure Os_law_made (P:Program) (w:World) (K:PySem.W.Frag) (mg:Str→Option Value) (base:Heap) (G:Adr):Prop where
 law_folded:Ok P w K mg base 2 "_law_folded" ["_law_row_here"] (sp_law_folded K)
 law_scale:Ok P w K mg base 3 "_law_scale" ["_law_rows_here"] (sp_law_scale K)
set_option maxHeartbeats 4000000 in
theorem ok_law_made (D:Def K mg "_law_made" s_law_made ["_law_rows_here"]) (T:Txt K mg G) (O:Os_law_made P w K mg base G):Ok P w K mg base 4 "_law_made" ["_law_rows_here"] (sp_law_made K):=by
 have S:=sc_law_made
 refine D.ok S (fun vs H Q E h=>?_) (fun f cdv A outer s H vs Q E hr h=>?_)
 ·obtain ⟨a,xs,rs,rfl,ha,hra,hb,hn,k⟩:=h; rfl
 ·obtain ⟨a,xs,rs,rfl,ha,hra,hb,hn,k⟩:=h
  have hu:=hu_of hr
  have q_ONE:=T.q_ONE
  have q_PRIMES:=T.q_PRIMES
  refine ⟨_,(pss_one (ps_ret (pcall O.law_scale (hr.mono (by decide)) (pa_cons (pe_comp (N:=["_law_row_here"]) (ix:=[none]) rfl (kpi_list K rfl (pv 0)) (fun _ _ _ _ _=>(pg_name (i:=0) (show List.Nodup (["_law_row_here"]:List Str) by decide +kernel) rfl (Or.inl rfl))) (fun _ _ _ _ _=>rfl) (fun _ _ _ _ _=>(pcall O.law_folded (hr.mono (by decide)) (pa_cons (pv 0) pa_nil))) rfl (by decide +kernel) (by decide +kernel) rfl True.intro) pa_nil)))),?_⟩
  walk_at "w"
  refine rd_mapRows [] foldR rfl ha hra (by omega) (fun c r H2 Qc hrm s2 hc kc=>?_) (fun p11 H11 ys11 n11 s11 m11 r11=>?_)
  ·walk_at "w"
   refine c_law_folded hc (hb r hrm).1 fun p4 H7 s7 m7=>?_
   exact kc _ _ s7 (SqT.of m7)
  have fb:∀ q∈rs.map foldR,RB 1000 30 q∧FoldR q:=fun q hq=>by
   obtain ⟨r,hr,rfl⟩:=List.mem_map.mp hq
   exact ⟨(hb r hr).2,foldR_f (hb r hr).1⟩
  walk_at "w"
  refine c_law_scale (SqL.of m11) r11 fb (by rw [List.length_map]; exact hn) fun p12 ys12 qs12 H12 s12 m12 r12 so12 me12 z12=>?_
  walk_at "w"
  refine k _ ys12 qs12 _ (s11.trans s12) m12 r12 so12 (fun q=>?_) z12
  rw [me12 q,List.mem_map]
  exact ⟨fun ⟨r,hr,e⟩=>⟨r,hr,e.symm⟩,fun ⟨r,hr,e⟩=>⟨r,hr,e.symm⟩⟩
theorem sc_law_changed:FnScope ["_law_script","_law_one","_law_digits","_law_span","_law_rows_here","_law_at"] ["_law_script","_law_one","_law_digits"] (defScope s_law_changed):=⟨rfl,rfl,rfl,by decide +kernel,rfl,by decide +kernel,by decide +kernel⟩
structure Os_law_changed (P:Program) (w:World) (K:PySem.W.Frag) (mg:Str→Option Value) (base:Heap) (G:Adr):Prop where
 law_number:Ok P w K mg base 2 "_law_number" ["_law_script","_law_k"] (sp_law_number K)
 law_row:Ok P w K mg base 1 "_law_row" ["_law_number_here","_law_first","_law_half"] (sp_law_row K)
 law_plus:Ok P w K mg base 1 "_law_plus" ["_law_one","_law_other"] (sp_law_plus K)
 law_less:Ok P w K mg base 1 "_law_less" ["_law_one","_law_other"] (sp_law_less K)
 law_made:Ok P w K mg base 4 "_law_made" ["_law_rows_here"] (sp_law_made K)
set_option maxHeartbeats 4000000 in
theorem ok_law_changed (D:Def K mg "_law_changed" s_law_changed ["_law_script","_law_one","_law_digits"]) (T:Txt K mg G) (O:Os_law_changed P w K mg base G):Ok P w K mg base 5 "_law_changed" ["_law_script","_law_one","_law_digits"] (sp_law_changed K):=by
 have S:=sc_law_changed
 refine D.ok S (fun vs H Q E h=>?_) (fun f cdv A outer s H vs Q E hr h=>?_)
 ·obtain ⟨a,b,ns,xs,rs,d,rfl,ha,hb,hr1,hn,b1,hd,k⟩:=h; rfl
 ·obtain ⟨a,b,ns,xs,rs,d,rfl,ha,hb,hr1,hn,b1,hd,k⟩:=h
  have hu:=hu_of hr
  have q_ONE:=T.q_ONE
  have q_PRIMES:=T.q_PRIMES
  refine ⟨_,(pss_cons (ps_set (i:=3) S.nd rfl (Or.inr rfl) (pcall O.law_row (hr.mono (by decide)) (pa_cons (pcall O.law_number (hr.mono (by decide)) (pa_cons (pv 0) (pa_cons pe_int pa_nil))) (pa_cons pe_int (pa_cons pe_int pa_nil))))) (pss_cons (ps_setC (k:=4) (N:=["_law_row_here","_law_span"]) (ix:=[none,some 3]) S.nd rfl (Or.inl rfl) rfl (kpi_list K rfl (pv 1)) (fun _ _ _ _ _=>(pg_name (i:=0) (show List.Nodup (["_law_row_here","_law_span"]:List Str) by decide +kernel) rfl (Or.inl rfl))) (fun _ _ _ _ _=>rfl) (fun _ _ _ _ _=>(pcall O.law_plus (hr.mono (by decide)) (pa_cons (pv 0) (pa_cons (pv 1) pa_nil)))) rfl (by decide +kernel) (by decide +kernel) rfl ⟨⟨rfl,Or.inr (Or.inl rfl),rfl,rfl⟩,True.intro⟩) (pss_cons (ps_if (PW.pt (pw_and (pt_cmpR op_eq (pe_op op_mod (pv 2) pe_int) pe_int (nomark _)) (pw_and1 (pt_cmpR (kop_neD K rfl hr.units) (pv 4) (pe_lst pa_nil) (nomark _))))) (pss_cons (ps_set (i:=5) S.nd rfl (Or.inl rfl) (pe_op op_mod (pe_op op_fdiv (pv 2) pe_int) (pe_callB (kN_len K rfl) rfl T.b_len PySem.boot_len (pa_cons (pv 4) pa_nil)))) (pss_one (ps_set (i:=4) S.nd rfl (Or.inl rfl) (pe_op op_cat (pe_slice (ksl_list K rfl) (pv 4) po_none (po_some (pv 5))) (pe_slice (ksl_list K rfl) (pv 4) (po_some (pe_op op_add (pv 5) pe_int)) po_none))))) pss_nil) (pss_cons (ps_if (pt_cmpR op_eq (pe_op op_mod (pv 2) pe_int) pe_int (nomark _)) (pss_one (ps_set (i:=4) S.nd rfl (Or.inl rfl) (pe_op op_cat (pv 4) (pe_lst (pa_cons (pcall O.law_row (hr.mono (by decide)) (pa_cons (pcall O.law_number (hr.mono (by decide)) (pa_cons (pv 0) (pa_cons pe_int pa_nil))) (pa_cons pe_int (pa_cons pe_int pa_nil)))) pa_nil))))) pss_nil) (pss_cons (ps_if (PW.pt (pw_and (pt_cmpR op_eq (pe_op op_mod (pv 2) pe_int) pe_int (nomark _)) (pw_and1 (pt_cmpR (kop_neD K rfl hr.units) (pv 4) (pe_lst pa_nil) (nomark _))))) (pss_cons (ps_set (i:=5) S.nd rfl (Or.inl rfl) (pe_op op_mod (pe_op op_fdiv (pv 2) pe_int) (pe_callB (kN_len K rfl) rfl T.b_len PySem.boot_len (pa_cons (pv 4) pa_nil)))) (pss_one (ps_set (i:=4) S.nd rfl (Or.inl rfl) (pe_op op_cat (pe_op op_cat (pe_slice (ksl_list K rfl) (pv 4) po_none (po_some (pv 5))) (pe_lst (pa_cons (pcall O.law_row (hr.mono (by decide)) (pa_cons (pcall O.law_number (hr.mono (by decide)) (pa_cons (pv 0) (pa_cons pe_int pa_nil))) (pa_cons pe_int (pa_cons pe_int pa_nil)))) pa_nil))) (pe_slice (ksl_list K rfl) (pv 4) (po_some (pe_op op_add (pv 5) pe_int)) po_none))))) pss_nil) (pss_cons (ps_if (pt_cmpR op_eq (pe_op op_mod (pv 2) pe_int) pe_int (nomark _)) (pss_one (ps_setC (k:=4) (N:=["_law_row_here","_law_span"]) (ix:=[none,some 3]) S.nd rfl (Or.inl rfl) rfl (kpi_list K rfl (pv 1)) (fun _ _ _ _ _=>(pg_name (i:=0) (show List.Nodup (["_law_row_here","_law_span"]:List Str) by decide +kernel) rfl (Or.inl rfl))) (fun _ _ _ _ _=>rfl) (fun _ _ _ _ _=>(pcall O.law_less (hr.mono (by decide)) (pa_cons (pv 1) (pa_cons (pv 0) pa_nil)))) rfl (by decide +kernel) (by decide +kernel) rfl ⟨⟨rfl,Or.inr (Or.inl rfl),rfl,rfl⟩,True.intro⟩)) pss_nil) (pss_one (ps_ret (pcall O.law_made (hr.mono (by decide)) (pa_cons (pv 4) pa_nil)))))))))),?_⟩
  have lx:=hr1.length
  walk_at "w"
  refine c_law_number ha (by decide) fun c hc=>?_
  walk_at "w"
  refine c_law_row (by omega) (by decide) (by decide) fun p1 s H1 s1 m1 bs=>?_
  obtain ⟨t0,t1,t2,t3,t4,rfl,_,_,_,_,_⟩:=id bs
  have ht1:SqT K H1 p1 [.int t0,.int t1,.int t2,.int t3,.int t4]:=SqT.of m1
  walk_at "w"
  refine rd_mapRows [some (.ref p1)] (fun r=>addR r [t0,t1,t2,t3,t4]) rfl (SqL.of (s1 _ _ hb)) (hr1.same s1) (by omega) (fun c r H2 Qc hrm s2 hc kc=>?_) (fun p2 H2 ys2 n2 s2 m2 r2=>?_)
  ·obtain ⟨x0,x1,x2,x3,x4,rfl,_,_,_,_,_⟩:=b1 r hrm
   have hc':SqT K _ c [.int x0,.int x1,.int x2,.int x3,.int x4]:=hc
   have ht':=s2.at ht1
   walk_at "w"
   rename_i p5 H5 s5 m5
   exact kc _ _ s5 (SqT.of m5)
  have z2:(rs.map fun r=>addR r [t0,t1,t2,t3,t4]).length≤20:=by rw [List.length_map]; exact hn
  have g2:∀ r∈(rs.map fun r=>addR r [t0,t1,t2,t3,t4]),RB 500 15 r:=fun r hr=>by
   obtain ⟨q,hq,rfl⟩:=List.mem_map.mp hr
   obtain ⟨x0,x1,x2,x3,x4,rfl,_,_,_,_,_⟩:=b1 q hq
   exact ⟨x0 + t0,x1 + t1,x2 + t2,x3 + t3,x4 + t4,rfl,by omega,by omega,by omega,by omega,by omega⟩
  generalize (rs.map fun r=>addR r [t0,t1,t2,t3,t4]) = qs2 at r2 z2 g2
  have s02:Same H H2:=s1.trans s2
  walk_at "j"
  refine join (fun σ' H'=>∃ (p:Addr) (ys:List V) (ps:List (List Int)) (o:Option V),σ' = [some (.ref a),some (.ref b),some (.int d),some (.ref p1),some (.ref p),o]∧Same H2 H'∧H' p = some (.lst ys)∧RowsL K H' ys ps∧(∀ r∈ps,RB 500 15 r)∧ps.length≤40) (fun nx kn=>?_) (fun σ' H3 hp=>?_)
  ·walk_at "w"
   refine if_both (fun hc=>?_) (fun hc=>?_)
   ·walk_at "w"
    rename_i p4 H4 n4 s4 m4
    refine r_neD (.lst (SqL.of (s4 _ _ m2)) ((r2.same s4).tells)) (.lst (SqL.of m4) (RowsL.nil (K:=K) (H:=H4)).tells) (shaped_rows qs2) (shaped_rows []) ?_
    rw [eqv_listR]
    walk_at "w"
    refine if_both (fun hc2=>?_) (fun hc2=>?_)
    ·have hne:qs2≠[]:=by simpa using hc2
     have hpos:=List.length_pos_iff.mpr hne
     have lyy:=r2.length
     have mm:=s4 _ _ m2
     have rr:=r2.same s4
     walk_at "w"
     have hm0:=Int.emod_nonneg (d / 5) (show (ys2.length:Int)≠0 by omega)
     have hm1:=Int.emod_lt_of_pos (d / 5) (show (0:Int) < (ys2.length:Int) by omega)
     obtain ⟨z,hz⟩:∃ z:Nat,d / 5 % (ys2.length:Int) = (z:Int):=Int.eq_ofNat_of_zero_le hm0
     rw [hz] at hm1 ⊢
     refine r_slHi (j:=z) (SqL.of mm) fun p5 H5 n5 s5 m5=>?_
     walk_at "w"
     rw [show (z:Int) + 1 = ((z + 1:Nat):Int) by omega]
     refine r_slLo (j:=z + 1) (SqL.of (s5 _ _ mm)) fun p6 H6 n6 s6 m6=>?_
     walk_at "w"
     rename_i p7 H7 n7 s7 m7
     have rA:=rr.same ((s5.trans s6).trans s7)
     exact kn _ _ ⟨p7,_,qs2.take z ++ qs2.drop (z + 1),_,rfl,s4.trans ((s5.trans s6).trans s7),m7,(rA.take z).append (rA.drop (z + 1)),fun r hr=>(List.mem_append.mp hr).elim (fun h=>g2 r (List.mem_of_mem_take h)) fun h=>g2 r (List.mem_of_mem_drop h),by simp; omega⟩
    ·walk_at "w"
     exact kn _ _ ⟨p2,ys2,qs2,_,rfl,s4,s4 _ _ m2,r2.same s4,g2,by omega⟩
   ·refine iteF ?_
    walk_at "w"
    exact kn _ _ ⟨p2,ys2,qs2,_,rfl,Same.refl _,m2,r2,g2,by omega⟩
  obtain ⟨p3,ys3,ps3,o3,rfl,s3,m3,r3,g3,z3⟩:=hp
  walk_at "j"
  refine join (fun σ' H'=>∃ (p:Addr) (ys:List V) (ps:List (List Int)) (o:Option V),σ' = [some (.ref a),some (.ref b),some (.int d),some (.ref p1),some (.ref p),o]∧Same H2 H'∧H' p = some (.lst ys)∧RowsL K H' ys ps∧(∀ r∈ps,RB 500 15 r)∧ps.length≤41) (fun nx kn=>?_) (fun σ' H6 hp=>?_)
  ·walk_at "w"
   refine if_both (fun hc=>?_) (fun hc=>?_)
   ·walk_at "w"
    refine c_law_number ((s02.trans s3).seq ha) (by decide) fun c hc=>?_
    walk_at "w"
    refine c_law_row (by omega) (by decide) (by decide) fun p4 q H4 s4 m4 bq=>?_
    have mm:=s4 _ _ m3
    have l3:=r3.length
    walk_at "w"
    rename_i p5 H5 n5 s5 m5 p7 H7 n7 s7 m7
    have s47:=(s4.trans s5).trans s7
    exact kn _ _ ⟨p7,_,ps3 ++ [q],_,rfl,s3.trans s47,m7,(r3.same s47).snoc (SqT.of ((s5.trans s7) _ _ m4)),fun r hr=>(List.mem_append.mp hr).elim (g3 r) fun h=>by rw [List.mem_singleton.mp h]; exact bq.mono (by decide) (by decide),by simp; omega⟩
   ·walk_at "w"
    exact kn _ _ ⟨p3,ys3,ps3,_,rfl,s3,m3,r3,g3,by omega⟩
  obtain ⟨p6,ys6,ps6,o6,rfl,s6,m6,r6,g6,z6⟩:=hp
  walk_at "j"
  refine join (fun σ' H'=>∃ (p:Addr) (ys:List V) (ps:List (List Int)) (o:Option V),σ' = [some (.ref a),some (.ref b),some (.int d),some (.ref p1),some (.ref p),o]∧Same H2 H'∧H' p = some (.lst ys)∧RowsL K H' ys ps∧(∀ r∈ps,RB 500 15 r)∧ps.length≤42) (fun nx kn=>?_) (fun σ' H8 hp=>?_)
  ·walk_at "w"
   refine if_both (fun hc=>?_) (fun hc=>?_)
   ·walk_at "w"
    rename_i p4 H4 n4 s4 m4
    refine r_neD (.lst (SqL.of (s4 _ _ m6)) ((r6.same s4).tells)) (.lst (SqL.of m4) (RowsL.nil (K:=K) (H:=H4)).tells) (shaped_rows ps6) (shaped_rows []) ?_
    rw [eqv_listR]
    walk_at "w"
    refine if_both (fun hc2=>?_) (fun hc2=>?_)
    ·have hne:ps6≠[]:=by simpa using hc2
     have hpos:=List.length_pos_iff.mpr hne
     have lyy:=r6.length
     have mm:=s4 _ _ m6
     have rr:=r6.same s4
     walk_at "w"
     have hm0:=Int.emod_nonneg (d / 5) (show (ys6.length:Int)≠0 by omega)
     have hm1:=Int.emod_lt_of_pos (d / 5) (show (0:Int) < (ys6.length:Int) by omega)
     obtain ⟨z,hz⟩:∃ z:Nat,d / 5 % (ys6.length:Int) = (z:Int):=Int.eq_ofNat_of_zero_le hm0
     rw [hz] at hm1 ⊢
     refine r_slHi (j:=z) (SqL.of mm) fun p5 H5 n5 s5 m5=>?_
     walk_at "w"
     refine c_law_number (((s02.trans s6).trans (s4.trans s5)).seq ha) (by decide) fun c hc=>?_
     walk_at "w"
     refine c_law_row (by omega) (by decide) (by decide) fun p9 q H9 s9 m9 bq=>?_
     walk_at "w"
     rename_i pA HA nA sA mA pB HB nB sB mB
     have s5B:Same H5 HB:=(s9.trans sA).trans sB
     rw [show (z:Int) + 1 = ((z + 1:Nat):Int) by omega]
     refine r_slLo (j:=z + 1) (SqL.of ((s5.trans s5B) _ _ mm)) fun pC HC nC sC mC=>?_
     walk_at "w"
     rename_i pD HD nD sD mD
     have sBD:Same HB HD:=sC.trans sD
     have s5D:Same H5 HD:=s5B.trans sBD
     have rD:=rr.same (s5.trans s5D)
     refine kn _ _ ⟨pD,_,ps6.take z ++ [q] ++ ps6.drop (z + 1),_,rfl,(s6.trans s4).trans (s5.trans s5D),mD,((rD.take z).append (.cons (SqT.of (((sA.trans sB).trans sBD) _ _ m9)) .nil)).append (rD.drop (z + 1)),fun r hr=>?_,by simp; omega⟩
     rcases List.mem_append.mp hr with y | y
     ·rcases List.mem_append.mp y with y | y
      ·exact g6 r (List.mem_of_mem_take y)
      ·rw [List.mem_singleton.mp y]; exact bq.mono (by decide) (by decide)
     ·exact g6 r (List.mem_of_mem_drop y)
    ·walk_at "w"
     exact kn _ _ ⟨p6,ys6,ps6,_,rfl,s6.trans s4,s4 _ _ m6,r6.same s4,g6,by omega⟩
   ·refine iteF ?_
    walk_at "w"
    exact kn _ _ ⟨p6,ys6,ps6,_,rfl,s6,m6,r6,g6,by omega⟩
  obtain ⟨p8,ys8,ps8,o8,rfl,s8,m8,r8,g8,z8⟩:=hp
  walk_at "j"
  refine join (fun σ' H'=>∃ (p:Addr) (ys:List V) (ps:List (List Int)) (o:Option V),σ' = [some (.ref a),some (.ref b),some (.int d),some (.ref p1),some (.ref p),o]∧Same H2 H'∧H' p = some (.lst ys)∧RowsL K H' ys ps∧(∀ r∈ps,RB 500 15 r)∧ps.length≤42) (fun nx kn=>?_) (fun σ' H9 hp=>?_)
  ·walk_at "w"
   refine if_both (fun hc=>?_) (fun hc=>?_)
   ·have s08:Same H H8:=s02.trans s8
    have ht8:=(s2.trans s8).at ht1
    walk_at "w"
    refine rd_mapRows [some (.ref p1)] (fun r=>subR [t0,t1,t2,t3,t4] r) rfl (SqL.of (s08 _ _ hb)) (hr1.same s08) (by omega) (fun c r H2 Qc hrm s2 hc kc=>?_) (fun p9 H9 ys9 n9 s9 m9 r9=>?_)
    ·obtain ⟨x0,x1,x2,x3,x4,rfl,_,_,_,_,_⟩:=b1 r hrm
     have hc':SqT K _ c [.int x0,.int x1,.int x2,.int x3,.int x4]:=hc
     have ht':=s2.at ht8
     walk_at "w"
     rename_i p5 H5 s5 m5
     exact kc _ _ s5 (SqT.of m5)
    walk_at "w"
    refine kn _ _ ⟨p9,ys9,_,_,rfl,s8.trans s9,m9,r9,fun r hr=>?_,by simp; omega⟩
    obtain ⟨q,hq,rfl⟩:=List.mem_map.mp hr
    obtain ⟨x0,x1,x2,x3,x4,rfl,_,_,_,_,_⟩:=b1 q hq
    exact ⟨t0 - x0,t1 - x1,t2 - x2,t3 - x3,t4 - x4,rfl,by omega,by omega,by omega,by omega,by omega⟩
   ·walk_at "w"
    exact kn _ _ ⟨p8,ys8,ps8,_,rfl,s8,m8,r8,g8,z8⟩
  obtain ⟨p10,ys10,ps10,o10,rfl,s10,m10,r10,g10,z10⟩:=hp
  walk_at "w"
  refine c_law_made (SqL.of m10) r10 (fun r hr=>⟨(g10 r hr).mono (by decide) (by decide),((fold_15 (g10 r hr)).mono (by decide) (by decide))⟩) (by omega) fun p11 ys11 qs11 H11 s11 m11 r11 so11 me11 z11=>?_
  refine k p11 ys11 qs11 H11 ((s02.trans s10).trans s11) m11 r11 so11 (fun q hq=>?_) z11
  obtain ⟨r,hr,rfl⟩:=(me11 q).mp hq
  exact ⟨fold_15 (g10 r hr),foldR_f (g10 r hr)⟩
theorem sc_law_pair:FnScope ["_law_script","_law_number_here","_law_many","_law_half","_law_rows_here","_law_kind","_law_digits","_law_other","_law_spans","_law_ones","_law_others","_law_row_here","_law_one"] ["_law_script","_law_number_here"] (defScope s_law_pair):=⟨rfl,rfl,rfl,by decide +kernel,rfl,by decide +kernel,by decide +kernel⟩
structure Os_law_pair (P:Program) (w:World) (K:PySem.W.Frag) (mg:Str→Option Value) (base:Heap) (G:Adr):Prop where
 law_plus:Ok P w K mg base 1 "_law_plus" ["_law_one","_law_other"] (sp_law_plus K)
 law_less:Ok P w K mg base 1 "_law_less" ["_law_one","_law_other"] (sp_law_less K)
 law_tones:Ok P w K mg base 3 "_law_tones" ["_law_script","_law_at","_law_count","_law_half"] (sp_law_tones K)
 law_made:Ok P w K mg base 4 "_law_made" ["_law_rows_here"] (sp_law_made K)
 law_changed:Ok P w K mg base 5 "_law_changed" ["_law_script","_law_one","_law_digits"] (sp_law_changed K)
set_option maxHeartbeats 4000000 in
theorem ok_law_pair (D:Def K mg "_law_pair" s_law_pair ["_law_script","_law_number_here"]) (T:Txt K mg G) (O:Os_law_pair P w K mg base G):Ok P w K mg base 6 "_law_pair" ["_law_script","_law_number_here"] (sp_law_pair K):=by
 have S:=sc_law_pair
 refine D.ok S (fun vs H Q E h=>?_) (fun f cdv A outer s H vs Q E hr h=>?_)
 ·obtain ⟨a,ns,c,rfl,ha,hc,k⟩:=h; rfl
 ·obtain ⟨a,ns,c,rfl,ha,hc,k⟩:=h
  have hu:=hu_of hr
  have q_ONE:=T.q_ONE
  have q_PRIMES:=T.q_PRIMES
  refine ⟨_,(pss_cons (ps_set (i:=2) S.nd rfl (Or.inl rfl) (pe_op op_mod (pv 1) pe_int)) (pss_cons (ps_set (i:=3) S.nd rfl (Or.inl rfl) pe_int) (pss_cons (ps_if (pt_cmpR op_eq (pe_op op_mod (pe_op op_fdiv (pv 1) pe_int) pe_int) pe_int (nomark _)) (pss_cons (ps_set (i:=2) S.nd rfl (Or.inl rfl) (pe_callB (callN_min rfl) rfl T.b_min PyProof.Rows.boot_min (pa_cons (pv 2) (pa_cons pe_int pa_nil)))) (pss_one (ps_set (i:=3) S.nd rfl (Or.inl rfl) pe_int))) pss_nil) (pss_cons (ps_set (i:=4) S.nd rfl (Or.inl rfl) (pcall O.law_tones (hr.mono (by decide)) (pa_cons (pv 0) (pa_cons pe_int (pa_cons (pv 2) (pa_cons (pv 3) pa_nil)))))) (pss_cons (ps_set (i:=5) S.nd rfl (Or.inl rfl) (pe_op op_mod (pe_op op_fdiv (pv 1) pe_int) pe_int)) (pss_cons (ps_set (i:=6) S.nd rfl (Or.inl rfl) (pe_op op_fdiv (pv 1) pe_int)) (pss_cons (ps_if (pt_cmpR op_eq (pv 5) pe_int (nomark _)) (pss_cons (ps_set (i:=7) S.nd rfl (Or.inl rfl) (pcall O.law_tones (hr.mono (by decide)) (pa_cons (pv 0) (pa_cons pe_int (pa_cons (pe_op op_mod (pv 6) pe_int) (pa_cons (pe_ifExp (pt_cmpR op_lt (pv 2) pe_int (nomark _)) (pv 3) pe_int) pa_nil)))))) (pss_one (ps_ret (pe_tup (pa_cons (pcall O.law_made (hr.mono (by decide)) (pa_cons (pv 4) pa_nil)) (pa_cons (pcall O.law_made (hr.mono (by decide)) (pa_cons (pv 7) pa_nil)) pa_nil)))))) pss_nil) (pss_cons (ps_if (pt_cmpR op_eq (pv 5) pe_int (nomark _)) (pss_cons (ps_set (i:=8) S.nd rfl (Or.inl rfl) (pcall O.law_tones (hr.mono (by decide)) (pa_cons (pv 0) (pa_cons pe_int (pa_cons (pe_op op_add pe_int (pe_op op_mod (pv 6) pe_int)) (pa_cons pe_int pa_nil)))))) (pss_cons (ps_set (i:=9) S.nd rfl (Or.inl rfl) (pe_lst pa_nil)) (pss_cons (ps_set (i:=10) S.nd rfl (Or.inl rfl) (pe_lst pa_nil)) (pss_cons (ps_for PassesOwn.never rfl (kpi_list K rfl (pe_slice (ksl_list K rfl) (pv 4) po_none (po_some pe_int))) (pg_name (i:=11) S.nd rfl (Or.inr rfl)) (pss_cons (ps_expr (pe_bm PySem.F.plainAttrs_list PySem.F.slot_list_extend PySem.F.type_list_extend mt_extend (pv 9) (pa_cons (pe_comp (N:=["_law_span","_law_row_here"]) (ix:=[none,some 11]) rfl (kpi_list K rfl (pv 8)) (fun _ _ _ _ _=>(pg_name (i:=0) (show List.Nodup (["_law_span","_law_row_here"]:List Str) by decide +kernel) rfl (Or.inl rfl))) (fun _ _ _ _ _=>rfl) (fun _ _ _ _ _=>(pcall O.law_plus (hr.mono (by decide)) (pa_cons (pv 1) (pa_cons (pv 0) pa_nil)))) rfl (by decide +kernel) (by decide +kernel) rfl ⟨⟨rfl,Or.inr (Or.inl rfl),rfl,rfl⟩,True.intro⟩) pa_nil))) (pss_one (ps_expr (pe_bm PySem.F.plainAttrs_list PySem.F.slot_list_extend PySem.F.type_list_extend mt_extend (pv 10) (pa_cons (pe_comp (N:=["_law_span","_law_row_here"]) (ix:=[none,some 11]) rfl (kpi_list K rfl (pv 8)) (fun _ _ _ _ _=>(pg_name (i:=0) (show List.Nodup (["_law_span","_law_row_here"]:List Str) by decide +kernel) rfl (Or.inl rfl))) (fun _ _ _ _ _=>rfl) (fun _ _ _ _ _=>(pcall O.law_less (hr.mono (by decide)) (pa_cons (pv 1) (pa_cons (pv 0) pa_nil)))) rfl (by decide +kernel) (by decide +kernel) rfl ⟨⟨rfl,Or.inr (Or.inl rfl),rfl,rfl⟩,True.intro⟩) pa_nil)))))) (pss_one (ps_ret (pe_tup (pa_cons (pcall O.law_made (hr.mono (by decide)) (pa_cons (pv 9) pa_nil)) (pa_cons (pcall O.law_made (hr.mono (by decide)) (pa_cons (pv 10) pa_nil)) pa_nil))))))))) pss_nil) (pss_cons (ps_set (i:=12) S.nd rfl (Or.inl rfl) (pcall O.law_made (hr.mono (by decide)) (pa_cons (pv 4) pa_nil))) (pss_one (ps_ret (pe_tup (pa_cons (pv 12) (pa_cons (pcall O.law_changed (hr.mono (by decide)) (pa_cons (pv 0) (pa_cons (pv 12) (pa_cons (pv 6) pa_nil)))) pa_nil)))))))))))))),?_⟩
  walk_at "j"
  refine join (fun σ' H'=>∃ (m h:Int),σ' = [some (.ref a),some (.int c),some (.int m),some (.int h),none,none,none,none,none,none,none,none,none]∧H = H'∧(0≤m∧m≤5)∧(0≤h∧h≤7)) (fun nx kn=>?_) (fun σ' H' hp=>?_)
  ·walk_at "w"
   refine if_both (fun hc1=>?_) (fun hc1=>?_)
   ·walk_at "w"
    exact kn _ _ ⟨_,_,rfl,rfl,by split <;> omega,by decide⟩
   ·walk_at "w"
    exact kn _ _ ⟨_,_,rfl,rfl,by omega,by decide⟩
  obtain ⟨m,h,rfl,rfl,hm,hh⟩:=hp
  walk_at "w"
  refine c_law_tones ha (by decide) (by omega) (by omega) fun p1 ys1 rs1 H1 s1 m1 r1 b1 n1=>?_
  have l1:=r1.length
  have b1':∀ r∈rs1,RB 500 13 r:=fun r hr=>(b1 r hr).mono (by decide) (by omega)
  walk_at "j"
  refine join (fun σ' H'=>∃ o7:Option V,σ' = [some (.ref a),some (.int c),some (.int m),some (.int h),some (.ref p1),some (.int (c / 24 % 4)),some (.int (c / 96)),o7,none,none,none,none,none]∧H1 = H') (fun nx kn=>?_) (fun σ' H' hp=>?_)
  ·walk_at "w"
   refine if_both (fun hc1=>?_) (fun hc1=>?_)
   ·walk_at "w"
    refine if_joinE (fun v H'=>∃ h2:Int,v = .int h2∧H1 = H'∧(0≤h2∧h2≤7)) (fun hc2 Q' kq=>?_) (fun hc2 Q' kq=>?_) (fun v H' hp=>?_)
    ·walk_at "w"
     exact kq _ _ ⟨_,rfl,rfl,hh⟩
    ·walk_at "w"
     exact kq _ _ ⟨_,rfl,rfl,by decide⟩
    obtain ⟨h2,rfl,rfl,hh2⟩:=hp
    walk_at "w"
    refine c_law_tones (s1.seq ha) (by decide) (by omega) (by omega) fun p2 ys2 rs2 H2 s2 m2 r2 b2 n2=>?_
    have b2':∀ r∈rs2,RB 500 15 r:=fun r hr=>(b2 r hr).mono (by decide) (by omega)
    walk_at "w"
    refine c_law_made (SqL.of (s2 _ _ m1)) (r1.same s2) (fun r hr=>⟨(b1' r hr).mono (by decide) (by decide),((fold_13 (b1' r hr)).mono (by decide) (by decide))⟩) (by omega) fun p3 ys3 qs3 H3 s3 m3 r3 so3 me3 z3=>?_
    walk_at "w"
    refine c_law_made (SqL.of (s3 _ _ m2)) (r2.same s3) (fun r hr=>⟨(b2' r hr).mono (by decide) (by decide),((fold_15 (b2' r hr)).mono (by decide) (by decide))⟩) (by omega) fun p4 ys4 qs4 H4 s4 m4 r4 so4 me4 z4=>?_
    walk_at "w"
    rename_i p5 H5 s5 m5
    have s45:=s4.trans s5
    refine k p5 p3 p4 ys3 ys4 qs3 qs4 H5 (((s1.trans s2).trans s3).trans s45) m5 (s45 _ _ m3) (s5 _ _ m4) (r3.same s45) (r4.same s5) so4 (fun q hq=>?_) (fun q hq=>?_) z3 z4
    ·obtain ⟨r,hr,rfl⟩:=(me3 q).mp hq
     exact ⟨(fold_13 (b1' r hr)).mono (by decide) (by decide),foldR_f (b1' r hr)⟩
    ·obtain ⟨r,hr,rfl⟩:=(me4 q).mp hq
     exact ⟨fold_15 (b2' r hr),foldR_f (b2' r hr)⟩
   ·walk_at "w"
    exact kn _ _ ⟨_,rfl,rfl⟩
  obtain ⟨o7,rfl,rfl⟩:=hp
  walk_at "j"
  refine join (fun σ' H'=>∃ o8 o9 o10 o11:Option V,σ' = [some (.ref a),some (.int c),some (.int m),some (.int h),some (.ref p1),some (.int (c / 24 % 4)),some (.int (c / 96)),o7,o8,o9,o10,o11,none]∧H1 = H') (fun nx kn=>?_) (fun σ' H' hp=>?_)
  ·walk_at "w"
   refine if_both (fun hc1=>?_) (fun hc1=>?_)
   ·walk_at "w"
    refine c_law_tones (s1.seq ha) (by decide) (by omega) (by decide) fun p2 ys2 rs2 H2 s2 m2 r2 b2 n2=>?_
    have l2:=r2.length
    walk_at "w"
    rename_i p3 H3 n3 s3 m3 p4 H4 n4 s4 m4
    have s24:=s3.trans s4
    refine r_slHi (j:=3) (SqL.of ((s2.trans s24) _ _ m1)) fun p5 H5 n5 s5 m5=>?_
    have m3':=(s4.trans s5) _ _ m3
    have m4':=s5 _ _ m4
    have ne34:p3≠p4:=fun z=>by rw [z,n4] at m3; cases m3
    have ne53:p5≠p3:=fun z=>by rw [z,s4 _ _ m3] at n5; cases n5
    have ne54:p5≠p4:=fun z=>by rw [z,m4] at n5; cases n5
    have n4':H2 p4 = none:=none_back s3 n4
    walk_at "w"
    refine f_invL (xs:=ys1.take 3) (fun i σ H'=>∃ (o:Option V) (xs1 xs2:List V) (q1 q2:List (List Int)),σ = [some (.ref a),some (.int c),some (.int m),some (.int h),some (.ref p1),some (.int (c / 24 % 4)),some (.int (c / 96)),o7,some (.ref p2),some (.ref p3),some (.ref p4),o,none]∧Same H2 H'∧H' p5 = some (.lst (ys1.take 3))∧H' p3 = some (.lst xs1)∧RowsL K H' xs1 q1∧H' p4 = some (.lst xs2)∧RowsL K H' xs2 q2∧((∀ r∈q1,RB 500 15 r)∧(∀ r∈q2,RB 500 15 r)∧q1.length≤20 * i∧q2.length≤20 * i)) ⟨_,[],[],[],[],rfl,s24.trans s5,m5,m3',.nil,m4',.nil,(fun _ z=>nomatch z),(fun _ z=>nomatch z),Nat.le_refl _,Nat.le_refl _⟩ (fun i σ H' hp=>?_) (fun i x σ H6 hi hp=>?_) (fun σ H6 hp=>?_)
    ·obtain ⟨o,xs1,xs2,q1,q2,rfl,s6,m56,m36,r36,m46,r46,bq1,bq2,z1,z2⟩:=hp
     exact SqL.of m56
    ·obtain ⟨o,xs1,xs2,q1,q2,rfl,s6,m56,m36,r36,m46,r46,bq1,bq2,z1,z2⟩:=hp
     have hi3:i < 3:=by have:=(List.getElem?_eq_some_iff.mp hi).1; simp at this; omega
     rw [List.getElem?_take,if_pos hi3] at hi
     have hil:i < rs1.length:=by have:=(List.getElem?_eq_some_iff.mp hi).1; omega
     obtain ⟨b6,hx6,hb6⟩:=(r1.same (s2.trans s6)).row (List.getElem?_eq_getElem hil)
     have rb6:=b1 _ (List.getElem_mem hil)
     generalize rs1[i] = r6 at *
     obtain rfl:x = .ref b6:=Option.some.inj (hi.symm.trans hx6)
     obtain ⟨a0,a1,a2,a3,a4,rfl,_,_,_,_,_⟩:=rb6
     have hb7:SqT K H6 b6 [.int a0,.int a1,.int a2,.int a3,.int a4]:=hb6
     walk_at "w"
     refine rd_mapRows [some (.ref b6)] (fun r=>addR [a0,a1,a2,a3,a4] r) rfl (SqL.of (s6 _ _ m2)) (r2.same s6) (by omega) (fun c r H2 Qc hrm s2 hc kc=>?_) (fun p7 H7 ys7 n7 s7 m7 r7=>?_)
     ·obtain ⟨x0,x1,x2,x3,x4,rfl,_,_,_,_,_⟩:=b2 r hrm
      have hc':SqT K _ c [.int x0,.int x1,.int x2,.int x3,.int x4]:=hc
      have ht':=s2.at hb7
      walk_at "w"
      rename_i p5 H5 s5 m5
      exact kc _ _ s5 (SqT.of m5)
     have m37:=s7 _ _ m36
     have l36:=r36.length
     have l46:=r46.length
     have l7:=r7.length
     rw [List.length_map] at l7
     walk_at "w"
     refine r_extend m37 m7 (by omega) ?_
     have s8:Same H2 (upd H7 p3 (.lst (xs1 ++ ys7))):=(s6.trans s7).upd_old n3
     have hb8:SqT K (upd H7 p3 (.lst (xs1 ++ ys7))) b6 [.int a0,.int a1,.int a2,.int a3,.int a4]:=upd_sqT (s7.at hb7) m37
     have m58:upd H7 p3 (.lst (xs1 ++ ys7)) p5 = _:=(upd_ne ne53).trans (s7 _ _ m56)
     have m48:upd H7 p3 (.lst (xs1 ++ ys7)) p4 = _:=(upd_ne ne34.symm).trans (s7 _ _ m46)
     have m38:upd H7 p3 (.lst (xs1 ++ ys7)) p3 = _:=upd_same
     have r38:RowsL K (upd H7 p3 (.lst (xs1 ++ ys7))) _ _:=((r36.same s7).append r7).off m37
     have r48:RowsL K (upd H7 p3 (.lst (xs1 ++ ys7))) _ _:=(r46.same s7).off m37
     generalize upd H7 p3 (.lst (xs1 ++ ys7)) = H8 at *
     walk_at "w"
     refine rd_mapRows [some (.ref b6)] (fun r=>subR [a0,a1,a2,a3,a4] r) rfl (SqL.of (s8 _ _ m2)) (r2.same s8) (by omega) (fun c r H2 Qc hrm s2 hc kc=>?_) (fun p9 H9 ys9 n9 s9 m9 r9=>?_)
     ·obtain ⟨x0,x1,x2,x3,x4,rfl,_,_,_,_,_⟩:=b2 r hrm
      have hc':SqT K _ c [.int x0,.int x1,.int x2,.int x3,.int x4]:=hc
      have ht':=s2.at hb8
      walk_at "w"
      rename_i p5 H5 s5 m5
      exact kc _ _ s5 (SqT.of m5)
     have m49:=s9 _ _ m48
     have l9:=r9.length
     rw [List.length_map] at l9
     walk_at "w"
     refine r_extend m49 m9 (by omega) ?_
     refine ⟨_,xs1 ++ ys7,xs2 ++ ys9,_,_,rfl,(s8.trans s9).upd_old n4',(upd_ne ne54).trans (s9 _ _ m58),(upd_ne ne34).trans (s9 _ _ m38),(r38.same s9).off m49,upd_same,((r48.same s9).append r9).off m49,fun r hr=>?_,fun r hr=>?_,by simp; omega,by simp; omega⟩
     ·rcases List.mem_append.mp hr with y | y
      ·exact bq1 r y
      ·obtain ⟨q,hq,rfl⟩:=List.mem_map.mp y
       obtain ⟨x0,x1,x2,x3,x4,rfl,_,_,_,_,_⟩:=b2 q hq
       exact ⟨a0 + x0,a1 + x1,a2 + x2,a3 + x3,a4 + x4,rfl,by omega,by omega,by omega,by omega,by omega⟩
     ·rcases List.mem_append.mp hr with y | y
      ·exact bq2 r y
      ·obtain ⟨q,hq,rfl⟩:=List.mem_map.mp y
       obtain ⟨x0,x1,x2,x3,x4,rfl,_,_,_,_,_⟩:=b2 q hq
       exact ⟨a0 - x0,a1 - x1,a2 - x2,a3 - x3,a4 - x4,rfl,by omega,by omega,by omega,by omega,by omega⟩
    ·obtain ⟨o,xs1,xs2,q1,q2,rfl,s6,m56,m36,r36,m46,r46,bq1,bq2,z1,z2⟩:=hp
     have hl3:(ys1.take 3).length≤3:=by simp; omega
     walk_at "w"
     refine c_law_made (SqL.of m36) r36 (fun r hr=>⟨(bq1 r hr).mono (by decide) (by decide),((fold_15 (bq1 r hr)).mono (by decide) (by decide))⟩) (by omega) fun pA ysA qsA HA sA mA rA soA meA zA=>?_
     walk_at "w"
     refine c_law_made (SqL.of (sA _ _ m46)) (r46.same sA) (fun r hr=>⟨(bq2 r hr).mono (by decide) (by decide),((fold_15 (bq2 r hr)).mono (by decide) (by decide))⟩) (by omega) fun pB ysB qsB HB sB mB rB soB meB zB=>?_
     walk_at "w"
     rename_i pC HC sC mC
     have sBC:=sB.trans sC
     refine k pC pA pB ysA ysB qsA qsB HC (((s1.trans s2).trans s6).trans (sA.trans sBC)) mC (sBC _ _ mA) (sC _ _ mB) (rA.same sBC) (rB.same sC) soB (fun q hq=>?_) (fun q hq=>?_) zA zB
     ·obtain ⟨r,hr,rfl⟩:=(meA q).mp hq
      exact ⟨fold_15 (bq1 r hr),foldR_f (bq1 r hr)⟩
     ·obtain ⟨r,hr,rfl⟩:=(meB q).mp hq
      exact ⟨fold_15 (bq2 r hr),foldR_f (bq2 r hr)⟩
   ·walk_at "w"
    exact kn _ _ ⟨_,_,_,_,rfl,rfl⟩
  obtain ⟨o8,o9,o10,o11,rfl,rfl⟩:=hp
  walk_at "w"
  refine c_law_made (SqL.of m1) r1 (fun r hr=>⟨(b1' r hr).mono (by decide) (by decide),((fold_13 (b1' r hr)).mono (by decide) (by decide))⟩) (by omega) fun p2 ys2 qs2 H2 s2 m2 r2 so2 me2 z2=>?_
  walk_at "w"
  have s02:Same H H2:=s1.trans s2
  have z2':qs2.length≤20:=Nat.le_trans (len_map_le so2 me2) n1
  have f2:∀ r∈qs2,RB 400 13 r∧FoldR r:=fun q hq=>by
   obtain ⟨r,hr,rfl⟩:=(me2 q).mp hq
   exact ⟨fold_13 (b1' r hr),foldR_f (b1' r hr)⟩
  refine c_law_changed (s02.seq ha) m2 r2 z2' (fun r hr=>(f2 r hr).1) (by omega) fun p3 ys3 qs3 H3 s3 m3 r3 so3 f3 z3=>?_
  walk_at "w"
  rename_i p4 H4 s4 m4
  have s34:=s3.trans s4
  exact k p4 p2 p3 ys2 ys3 qs2 qs3 H4 (s02.trans s34) m4 (s34 _ _ m2) (s4 _ _ m3) (r2.same s34) (r3.same s4) so3 (fun q hq=>⟨(f2 q hq).1.mono (by decide) (by decide),(f2 q hq).2⟩) f3 z2 z3
theorem sc_law_is_folded:FnScope ["_law_found"] ["_law_found"] (defScope s_law_is_folded):=⟨rfl,rfl,rfl,by decide +kernel,rfl,by decide +kernel,by decide +kernel⟩
structure Os_law_is_folded (P:Program) (w:World) (K:PySem.W.Frag) (mg:Str→Option Value) (base:Heap) (G:Adr):Prop where
 law_folded:Ok P w K mg base 2 "_law_folded" ["_law_row_here"] (sp_law_folded K)
 law_is_row:Ok P w K mg base 1 "_law_is_row" ["_law_found"] (sp_law_is_row K)
set_option maxHeartbeats 4000000 in
theorem ok_law_is_folded (D:Def K mg "_law_is_folded" s_law_is_folded ["_law_found"]) (T:Txt K mg G) (O:Os_law_is_folded P w K mg base G):Ok P w K mg base 3 "_law_is_folded" ["_law_found"] (sp_law_is_folded K):=by
 have S:=sc_law_is_folded
 refine D.ok S (fun vs H Q E h=>?_) (fun f cdv A outer s H vs Q E hr h=>?_)
 ·obtain ⟨a,z,rfl,ha,hb0,hff,k⟩:=h; rfl
 ·obtain ⟨a,z,rfl,ha,hb0,hff,k⟩:=h
  have hu:=hu_of hr
  have q_ONE:=T.q_ONE
  have q_PRIMES:=T.q_PRIMES
  refine ⟨_,(pss_one (ps_ret (pe_and (pcall O.law_is_row (hr.mono (by decide)) (pa_cons (pv 0) pa_nil)) (pe_and (pe_cmpR op_le (pe_callB (kN_maxL K rfl rfl) rfl T.b_max PyProof.Rows.boot_max (pa_cons (pe_comp (N:=["_law_number_here"]) (ix:=[none]) rfl (kpi_tup K rfl (pe_slice (ksl_tup K rfl) (pv 0) (po_some pe_int) po_none)) (fun _ _ _ _ _=>(pg_name (i:=0) (show List.Nodup (["_law_number_here"]:List Str) by decide +kernel) rfl (Or.inl rfl))) (fun _ _ _ _ _=>rfl) (fun _ _ _ _ _=>(pe_callB callN_abs rfl T.b_abs PyProof.Rows.boot_abs (pa_cons (pv 0) pa_nil))) rfl (by decide +kernel) (by decide +kernel) rfl True.intro) pa_nil)) pe_int (nomark _)) (pe_one (pe_cmpR (kop_eqD K rfl hr.units) (pcall O.law_folded (hr.mono (by decide)) (pa_cons (pv 0) pa_nil)) (pv 0) (nomark _))))))),?_⟩
  obtain ⟨x0,x1,x2,x3,x4,rfl,b0,b1,b2,b3,b4⟩:=id hb0
  have ha':SqT K H a [.int x0,.int x1,.int x2,.int x3,.int x4]:=ha
  walk_at "w"
  refine iteT ?_
  walk_at "w"
  refine rd_mapRow (r:=[x1,x2,x3,x4]) (fun x=>.int (if x < 0 then -x else x)) [] rfl (by walk_at "hf") (Nat.le_of_ble_eq_true rfl) (fun x H' Qc _ s kc=>?_) (fun l H2 hl s2 m2=>?_)
  ·walk_at "w"
   exact kc _ (Same.refl _)
  walk_at "w"
  refine r_maxL (ns:=[if x1 < 0 then -x1 else x1,if x2 < 0 then -x2 else x2,if x3 < 0 then -x3 else x3,if x4 < 0 then -x4 else x4]) (SqL.of m2) (List.cons_ne_nil _ _) fun m hm1 hm2=>?_
  have hm:m≤60:=by
   simp only [List.mem_cons,List.not_mem_nil,or_false] at hm1
   rcases hm1 with rfl | rfl | rfl | rfl <;> split <;> omega
  walk_at "w"
  refine if_tt (decide_eq_true hm) ?_
  walk_at "w"
  refine c_law_folded (r:=[x0,x1,x2,x3,x4]) (show SqT K _ a [.int x0,.int x1,.int x2,.int x3,.int x4] by walk_at "hf") (hb0.mono (by decide) (by decide)) fun p H3 s3 m3=>?_
  walk_at "w"
  refine r_eqD (Tell.row (SqT.of m3)) (Tell.row (r:=[x0,x1,x2,x3,x4]) (show SqT K H3 a [.int x0,.int x1,.int x2,.int x3,.int x4] by walk_at "hf")) (shaped_row _) (shaped_row _) ?_
  rw [eqv_row,decide_eq_true hff]
  exact k _ (by walk_at "sm")
theorem sc_law_told:FnScope ["_law_one","_law_other","_law_spans","_law_k","_law_left","_law_right"] ["_law_one","_law_other","_law_spans"] (defScope s_law_told):=⟨rfl,rfl,rfl,by decide +kernel,rfl,by decide +kernel,by decide +kernel⟩
structure Os_law_told (P:Program) (w:World) (K:PySem.W.Frag) (mg:Str→Option Value) (base:Heap) (G:Adr):Prop where
 law_folded:Ok P w K mg base 2 "_law_folded" ["_law_row_here"] (sp_law_folded K)
 law_plus:Ok P w K mg base 1 "_law_plus" ["_law_one","_law_other"] (sp_law_plus K)
 law_is_folded:Ok P w K mg base 3 "_law_is_folded" ["_law_found"] (sp_law_is_folded K)
set_option maxHeartbeats 4000000 in
theorem ok_law_told (D:Def K mg "_law_told" s_law_told ["_law_one","_law_other","_law_spans"]) (T:Txt K mg G) (O:Os_law_told P w K mg base G):Ok P w K mg base 4 "_law_told" ["_law_one","_law_other","_law_spans"] (sp_law_told K):=by
 have S:=sc_law_told
 refine D.ok S (fun vs H Q E h=>?_) (fun f cdv A outer s H vs Q E hr h=>?_)
 ·obtain ⟨a,b,c,xs,ys,ws,rs,qs,zs,rfl,ha,hr1,hb,hq,hc,hz,n1,n2,fb1,fb2,ap,k⟩:=h; rfl
 ·obtain ⟨a,b,c,xs,ys,ws,rs,qs,zs,rfl,ha,hr1,hb,hq,hc,hz,n1,n2,fb1,fb2,ap,k⟩:=h
  have hu:=hu_of hr
  have q_ONE:=T.q_ONE
  have q_PRIMES:=T.q_PRIMES
  refine ⟨_,(pss_cons (ps_if (PW.pt (pw_or (pt_cmpR (kop_eqD K rfl hr.units) (pv 0) (pe_lst pa_nil) (nomark _)) (pw_or1 (pt_cmpR (kop_eqD K rfl hr.units) (pv 1) (pe_lst pa_nil) (nomark _))))) (pss_one (ps_ret (pe_and (pe_cmpR (kop_eqD K rfl hr.units) (pv 2) (pe_lst pa_nil) (nomark _)) (pe_one (pe_cmpR (kop_neD K rfl hr.units) (pv 0) (pv 1) (nomark _)))))) pss_nil) (pss_cons (ps_if (pt_cmpR op_ne (pe_callB (kN_len K rfl) rfl T.b_len PySem.boot_len (pa_cons (pv 2) pa_nil)) (pe_callB (kN_len K rfl) rfl T.b_len PySem.boot_len (pa_cons (pv 1) pa_nil)) (nomark _)) (pss_one (ps_ret pe_bl)) pss_nil) (pss_cons (ps_for PassesOwn.never rfl (pi_range1 rfl T.b_range (pa_cons (pe_callB (kN_len K rfl) rfl T.b_len PySem.boot_len (pa_cons (pv 1) pa_nil)) pa_nil)) (pg_name (i:=3) S.nd rfl (Or.inl rfl)) (pss_cons (ps_if (pt_not (pt_val (pcall O.law_is_folded (hr.mono (by decide)) (pa_cons (pe_ix (kx_seq K rfl) (pv 2) (pv 3) (fun _ _=>rfl)) pa_nil)))) (pss_one (ps_ret pe_bl)) pss_nil) (pss_cons (ps_set (i:=4) S.nd rfl (Or.inl rfl) (pe_cmpR (kop_inD K rfl hr.units) (pcall O.law_folded (hr.mono (by decide)) (pa_cons (pcall O.law_plus (hr.mono (by decide)) (pa_cons (pe_ix (kx_seq K rfl) (pv 0) pe_int (fun _ _=>rfl)) (pa_cons (pe_ix (kx_seq K rfl) (pv 2) (pv 3) (fun _ _=>rfl)) pa_nil))) pa_nil)) (pv 0) (by with_unfolding_all rfl))) (pss_cons (ps_set (i:=5) S.nd rfl (Or.inl rfl) (pe_cmpR (kop_inD K rfl hr.units) (pcall O.law_folded (hr.mono (by decide)) (pa_cons (pcall O.law_plus (hr.mono (by decide)) (pa_cons (pe_ix (kx_seq K rfl) (pv 1) (pv 3) (fun _ _=>rfl)) (pa_cons (pe_ix (kx_seq K rfl) (pv 2) (pv 3) (fun _ _=>rfl)) pa_nil))) pa_nil)) (pv 1) (by with_unfolding_all rfl))) (pss_one (ps_if (pt_cmpR (kop_eqD K rfl hr.units) (pv 4) (pv 5) (nomark _)) (pss_one (ps_ret pe_bl)) pss_nil)))))) (pss_one (ps_ret pe_bl))))),?_⟩
  have lx:=hr1.length
  have ly:=hq.length
  have lz:=hz.length
  by_cases hne:rs = []
  ·subst hne
   obtain ⟨hd,rfl⟩:[]≠qs∧zs = []:=by
    rcases ap with ⟨_,h⟩ | ⟨h,_⟩
    ·exact h
    ·exact absurd rfl h
   walk_at "w"
   rename_i p4 H4 n4 s4 m4
   refine r_eqD (.lst (s4.seq ha) (hr1.same s4).tells) (.lst (SqL.of m4) (RowsL.nil (K:=K) (H:=H4)).tells) (shaped_rows []) (shaped_rows []) ?_
   rw [eqv_listR]
   walk_at "w"
   refine iteT ?_
   walk_at "w"
   refine iteT ?_
   walk_at "w"
   rename_i p5 H5 n5 s5 m5
   have s45:Same H H5:=s4.trans s5
   refine r_eqD (.lst (s45.seq hc) (hz.same s45).tells) (.lst (SqL.of m5) (RowsL.nil (K:=K) (H:=H5)).tells) (shaped_rows []) (shaped_rows []) ?_
   rw [eqv_listR]
   walk_at "w"
   refine iteT ?_
   walk_at "w"
   refine r_neD (.lst (s45.seq ha) (hr1.same s45).tells) (.lst (s45.seq hb) (hq.same s45).tells) (shaped_rows []) (shaped_rows qs) ?_
   rw [eqv_listR,decide_eq_false hd]
   exact k _ s45
  by_cases hne2:qs = []
  ·subst hne2
   obtain rfl:zs = []:=by
    rcases ap with ⟨_,_,h⟩ | ⟨_,h,_⟩
    ·exact h
    ·exact absurd rfl h
   walk_at "w"
   rename_i p4 H4 n4 s4 m4
   refine r_eqD (.lst (s4.seq ha) (hr1.same s4).tells) (.lst (SqL.of m4) (RowsL.nil (K:=K) (H:=H4)).tells) (shaped_rows rs) (shaped_rows []) ?_
   rw [eqv_listR,decide_eq_false hne]
   walk_at "w"
   refine iteF ?_
   walk_at "w"
   rename_i p6 H6 n6 s6 m6
   have s46:Same H H6:=s4.trans s6
   refine r_eqD (.lst (s46.seq hb) (hq.same s46).tells) (.lst (SqL.of m6) (RowsL.nil (K:=K) (H:=H6)).tells) (shaped_rows []) (shaped_rows []) ?_
   rw [eqv_listR]
   walk_at "w"
   refine iteT ?_
   walk_at "w"
   rename_i p5 H5 n5 s5 m5
   have s45:Same H H5:=s46.trans s5
   refine r_eqD (.lst (s45.seq hc) (hz.same s45).tells) (.lst (SqL.of m5) (RowsL.nil (K:=K) (H:=H5)).tells) (shaped_rows []) (shaped_rows []) ?_
   rw [eqv_listR]
   walk_at "w"
   refine iteT ?_
   walk_at "w"
   refine r_neD (.lst (s45.seq ha) (hr1.same s45).tells) (.lst (s45.seq hb) (hq.same s45).tells) (shaped_rows rs) (shaped_rows []) ?_
   rw [eqv_listR,decide_eq_false hne]
   exact k _ s45
  obtain ⟨_,_,hl,r0,hr0,hap⟩:rs≠[]∧qs≠[]∧zs.length = qs.length∧∃ r0,rs[(0:Nat)]? = some r0∧∀ (i:Nat) t z,qs[i]? = some t→zs[i]? = some z→JustOne rs qs r0 t z:=by
   rcases ap with ⟨h,_⟩ | h
   ·exact absurd h (fun z=>z.elim hne hne2)
   ·exact h
  walk_at "w"
  rename_i p4 H4 n4 s4 m4
  refine r_eqD (.lst (s4.seq ha) (hr1.same s4).tells) (.lst (SqL.of m4) (RowsL.nil (K:=K) (H:=H4)).tells) (shaped_rows rs) (shaped_rows []) ?_
  rw [eqv_listR,decide_eq_false hne]
  walk_at "w"
  refine iteF ?_
  walk_at "w"
  rename_i p5 H5 n5 s5 m5
  have s45:Same H H5:=s4.trans s5
  refine r_eqD (.lst (s45.seq hb) (hq.same s45).tells) (.lst (SqL.of m5) (RowsL.nil (K:=K) (H:=H5)).tells) (shaped_rows qs) (shaped_rows []) ?_
  rw [eqv_listR,decide_eq_false hne2]
  walk_at "w"
  refine iteF ?_
  have b1:∀ r∈rs,RB 400 15 r:=fun r hr=>(fb1 r hr).1
  have b2:∀ r∈qs,RB 400 15 r:=fun r hr=>(fb2 r hr).1
  obtain ⟨x,hx0⟩:∃ x,xs[0]? = some x:=⟨_,List.getElem?_eq_getElem (by have:=List.length_pos_iff.mpr hne; omega)⟩
  obtain ⟨c0,r0',rfl,hc0,hr0'⟩:=hr1.get hx0
  obtain rfl:r0' = r0:=Option.some.inj (hr0'.symm.trans hr0)
  have hrm:r0'∈rs:=List.mem_of_getElem? hr0'
  have br0:=b1 r0' hrm
  walk_at "w"
  refine if_ff (by simp; omega) ?_
  walk_at "w"
  refine f_rng (fun i σ=>∃ o1 o2 o3,σ = [some (.ref a),some (.ref b),some (.ref c),o1,o2,o3]) ⟨_,_,_,rfl⟩ (fun i σ H2 hi hp s2=>?_) (fun σ H2 hp s2=>?_)
  ·obtain ⟨o1,o2,o3,rfl⟩:=hp
   have hi':i < qs.length:=by simp at hi; omega
   have s02:Same H H2:=s45.trans s2
   obtain ⟨y,hyi⟩:∃ y,ys[i]? = some y:=⟨_,List.getElem?_eq_getElem (by omega)⟩
   obtain ⟨w,hwi⟩:∃ w,ws[i]? = some w:=⟨_,List.getElem?_eq_getElem (by omega)⟩
   obtain ⟨d,t,rfl,hd,hti⟩:=hq.get hyi
   obtain ⟨e,z,rfl,he,hzi⟩:=hz.get hwi
   have hA:=hap i t z hti hzi
   have btt:=b2 t (List.mem_of_getElem? hti)
   obtain ⟨bz,fz⟩:=apart_z hA b1 b2 br0 btt
   have i1:=in_span fb1 br0 bz fz
   have i2:=in_span fb2 btt bz fz
   obtain ⟨x0,x1,x2,x3,x4,rfl,_,_,_,_,_⟩:=id br0
   obtain ⟨t0,t1,t2,t3,t4,rfl,_,_,_,_,_⟩:=id btt
   obtain ⟨z0,z1,z2,z3,z4,rfl,_,_,_,_,_⟩:=id bz
   have q0:SqT K H c0 [.int x0,.int x1,.int x2,.int x3,.int x4]:=hc0
   have qd:SqT K H d [.int t0,.int t1,.int t2,.int t3,.int t4]:=hd
   have qe:SqT K H e [.int z0,.int z1,.int z2,.int z3,.int z4]:=he
   have nb:(decide (foldR (addR [x0,x1,x2,x3,x4] [z0,z1,z2,z3,z4])∈rs) == decide (foldR (addR [t0,t1,t2,t3,t4] [z0,z1,z2,z3,z4])∈qs)) = false:=by
    rcases hA with ⟨g1,g2⟩ | ⟨g1,g2⟩
    ·rw [decide_eq_true (i1.mpr g1),decide_eq_false (fun h=>g2 (i2.mp h))]; rfl
    ·rw [decide_eq_true (i2.mpr g1),decide_eq_false (fun h=>g2 (i1.mp h))]; rfl
   have ez:(0:Int) + (i:Int) = (i:Int):=Int.zero_add _
   walk_at "v"
   rw [ez]
   refine r_ixL (s02.seq hc) (atI_nat hwi) ?_
   walk_at "w"
   refine c_law_is_folded (s02.at he) (bz.mono (by decide) (by decide)) fz fun H3 s3=>?_
   have s03:Same H H3:=s02.trans s3
   have q03:=s03.at q0
   have qe3:=s03.at qe
   walk_at "w"
   refine iteF ?_
   walk_at "v"
   refine r_ixL (s03.seq ha) (atI_nat (j:=0) hx0) ?_
   walk_at "v"
   refine r_ixL (s03.seq hc) (atI_nat hwi) ?_
   walk_at "w"
   rename_i p6 H6 s6 m6
   refine c_law_folded (r:=addR [x0,x1,x2,x3,x4] [z0,z1,z2,z3,z4]) (SqT.of m6) ⟨x0 + z0,x1 + z1,x2 + z2,x3 + z3,x4 + z4,rfl,by omega,by omega,by omega,by omega,by omega⟩ fun p7 H7 s7 m7=>?_
   have s07:Same H H7:=(s03.trans s6).trans s7
   have qd7:=s07.at qd
   have qe7:=s07.at qe
   walk_at "w"
   refine r_inD (s07.seq ha) (hr1.same s07).tells (Tell.row (SqT.of m7)) (lay_rows _) (lay_row _) (Nat.le_trans (deep_row _) (by decide)) ?_
   rw [any_rows]
   walk_at "v"
   refine r_ixL (s07.seq hb) (atI_nat hyi) ?_
   walk_at "v"
   refine r_ixL (s07.seq hc) (atI_nat hwi) ?_
   walk_at "w"
   rename_i p8 H8 s8 m8
   refine c_law_folded (r:=addR [t0,t1,t2,t3,t4] [z0,z1,z2,z3,z4]) (SqT.of m8) ⟨t0 + z0,t1 + z1,t2 + z2,t3 + z3,t4 + z4,rfl,by omega,by omega,by omega,by omega,by omega⟩ fun p9 H9 s9 m9=>?_
   have s09:Same H H9:=(s07.trans s8).trans s9
   walk_at "w"
   refine r_inD (s09.seq hb) (hq.same s09).tells (Tell.row (SqT.of m9)) (lay_rows _) (lay_row _) (Nat.le_trans (deep_row _) (by decide)) ?_
   rw [any_rows]
   walk_at "w"
   refine r_eqD (.bl _) (.bl _) rfl rfl ?_
   rw [eqv_bools,nb]
   walk_at "w"
   refine iteF ?_
   walk_at "w"
   exact ⟨⟨_,_,_,rfl⟩,((s2.trans s3).trans (s6.trans s7)).trans (s8.trans s9)⟩
  ·obtain ⟨o1,o2,o3,rfl⟩:=hp
   walk_at "w"
   exact k _ (s45.trans s2)
theorem sc_law:FnScope ["_law_script","_law_pair_here","_law_handed","_law_found"] ["_law_script"] (defScope s_law):=⟨rfl,rfl,rfl,by decide +kernel,rfl,by decide +kernel,by decide +kernel⟩
structure Os_law (P:Program) (w:World) (K:PySem.W.Frag) (mg:Str→Option Value) (base:Heap) (G:Adr):Prop where
 move_between:Ok P w K mg base 7 "move_between" ["one","other"] (sp_move_between K)
 law_number:Ok P w K mg base 2 "_law_number" ["_law_script","_law_k"] (sp_law_number K)
 law_plus:Ok P w K mg base 1 "_law_plus" ["_law_one","_law_other"] (sp_law_plus K)
 law_rows:Ok P w K mg base 2 "_law_rows" ["_law_found","_law_due"] (sp_law_rows K)
 law_made:Ok P w K mg base 4 "_law_made" ["_law_rows_here"] (sp_law_made K)
 law_pair:Ok P w K mg base 6 "_law_pair" ["_law_script","_law_number_here"] (sp_law_pair K)
 law_is_folded:Ok P w K mg base 3 "_law_is_folded" ["_law_found"] (sp_law_is_folded K)
 law_told:Ok P w K mg base 4 "_law_told" ["_law_one","_law_other","_law_spans"] (sp_law_told K)
set_option maxHeartbeats 16000000 in
theorem fn_law {f:Addr} {fd:FuncData} (F:Fun K "law" "law" s_law f fd) (T:Txt K mg G) (O:Os_law P w K mg base G):FnOk P w K mg base CX0 8 f fd ["_law_script"] (spLaw K):=by
 have S:=sc_law
 refine F.ok S (fun vs H Q E h=>?_) (fun cdv A outer s H vs Q E hr h=>?_)
 ·obtain ⟨a,ns,rfl,hS,hlen,k⟩:=h; rfl
 ·obtain ⟨a,ns,rfl,hS,hlen,k⟩:=h
  have hu:=hu_of hr
  have q_ONE:=T.q_ONE
  have q_PRIMES:=T.q_PRIMES
  refine ⟨_,(pss_cons (ps_set (i:=1) S.nd rfl (Or.inl rfl) (pcall O.law_pair (hr.mono (by decide)) (pa_cons (pv 0) (pa_cons (pcall O.law_number (hr.mono (by decide)) (pa_cons (pv 0) (pa_cons pe_int pa_nil))) pa_nil)))) (pss_cons (ps_set (i:=2) S.nd rfl (Or.inl rfl) (pe_lst (pa_cons (pe_callTy (kN_list K rfl) rfl T.b_list PyProof.Rows.boot_list (pa_cons (pe_ix (kx_seq K rfl) (pv 1) pe_int (fun _ _=>rfl)) pa_nil)) (pa_cons (pe_callTy (kN_list K rfl) rfl T.b_list PyProof.Rows.boot_list (pa_cons (pe_ix (kx_seq K rfl) (pv 1) pe_int (fun _ _=>rfl)) pa_nil)) pa_nil)))) (pss_cons (ps_set (i:=3) S.nd rfl (Or.inr rfl) (pcall O.move_between (hr.mono (by decide)) (pa_cons (pe_ix (kx_seq K rfl) (pv 2) pe_int (fun _ _=>rfl)) (pa_cons (pe_ix (kx_seq K rfl) (pv 2) pe_int (fun _ _=>rfl)) pa_nil)))) (pss_cons (ps_if (PW.pt (pw_or (pt_not (pt_val (pcall O.law_rows (hr.mono (by decide)) (pa_cons (pe_ix (kx_seq K rfl) (pv 2) pe_int (fun _ _=>rfl)) (pa_cons (pe_ix (kx_seq K rfl) (pv 1) pe_int (fun _ _=>rfl)) pa_nil))))) (pw_or1 (pt_not (pt_val (pcall O.law_rows (hr.mono (by decide)) (pa_cons (pe_ix (kx_seq K rfl) (pv 2) pe_int (fun _ _=>rfl)) (pa_cons (pe_ix (kx_seq K rfl) (pv 1) pe_int (fun _ _=>rfl)) pa_nil)))))))) (pss_one (ps_ret pe_bl)) pss_nil) (pss_cons (ps_if (PW.pt (pw_or (pt_not (pt_val (pe_callB (kN_isinst K rfl) rfl T.b_isinstance PyProof.Rows.boot_isinstance (pa_cons (pv 3) (pa_cons (pe_bltn (v:=V.ty "tuple") rfl T.b_tuple PyProof.Rows.boot_tuple rfl) pa_nil))))) (pw_or1 (pt_cmpR op_ne (pe_callB (kN_len K rfl) rfl T.b_len PySem.boot_len (pa_cons (pv 3) pa_nil)) pe_int (nomark _))))) (pss_one (ps_ret pe_bl)) pss_nil) (pss_cons (ps_if (PW.pt (pw_and (pt_cmpR (kop_eqD K rfl hr.units) (pe_ix (kx_seq K rfl) (pv 3) pe_int (fun _ _=>rfl)) pe_str (nomark _)) (pw_and1 (pt_val (pe_callB (kN_isinst K rfl) rfl T.b_isinstance PyProof.Rows.boot_isinstance (pa_cons (pe_ix (kx_seq K rfl) (pv 3) pe_int (fun _ _=>rfl)) (pa_cons (pe_bltn (v:=V.ty "list") rfl T.b_list PyProof.Rows.boot_list rfl) pa_nil))))))) (pss_one (ps_ret (pcall O.law_told (hr.mono (by decide)) (pa_cons (pe_ix (kx_seq K rfl) (pv 1) pe_int (fun _ _=>rfl)) (pa_cons (pe_ix (kx_seq K rfl) (pv 1) pe_int (fun _ _=>rfl)) (pa_cons (pe_ix (kx_seq K rfl) (pv 3) pe_int (fun _ _=>rfl)) pa_nil)))))) pss_nil) (pss_cons (ps_if (PW.pt (pw_or (pt_cmpR (kop_neD K rfl hr.units) (pe_ix (kx_seq K rfl) (pv 3) pe_int (fun _ _=>rfl)) pe_str (nomark _)) (pw_or1 (pt_not (pt_val (pcall O.law_is_folded (hr.mono (by decide)) (pa_cons (pe_ix (kx_seq K rfl) (pv 3) pe_int (fun _ _=>rfl)) pa_nil))))))) (pss_one (ps_ret pe_bl)) pss_nil) (pss_cons (ps_if (PW.pt (pw_and (pt_cmpR (kop_eqD K rfl hr.units) (pe_ix (kx_seq K rfl) (pv 1) pe_int (fun _ _=>rfl)) (pe_lst pa_nil) (nomark _)) (pw_and1 (pt_cmpR (kop_neD K rfl hr.units) (pe_ix (kx_seq K rfl) (pv 3) pe_int (fun _ _=>rfl)) (pe_tup (pa_cons pe_int (pa_cons pe_int (pa_cons pe_int (pa_cons pe_int (pa_cons pe_int pa_nil)))))) (nomark _))))) (pss_one (ps_ret pe_bl)) pss_nil) (pss_one (ps_ret (pe_cmpR (kop_eqD K rfl hr.units) (pcall O.law_made (hr.mono (by decide)) (pa_cons (pe_comp (N:=["_law_row_here","_law_found"]) (ix:=[none,some 3]) rfl (kpi_list K rfl (pe_ix (kx_seq K rfl) (pv 1) pe_int (fun _ _=>rfl))) (fun _ _ _ _ _=>(pg_name (i:=0) (show List.Nodup (["_law_row_here","_law_found"]:List Str) by decide +kernel) rfl (Or.inl rfl))) (fun _ _ _ _ _=>rfl) (fun _ _ _ _ _=>(pcall O.law_plus (hr.mono (by decide)) (pa_cons (pv 0) (pa_cons (pe_ix (kx_seq K rfl) (pv 1) pe_int (fun _ _=>rfl)) pa_nil)))) rfl (by decide +kernel) (by decide +kernel) rfl ⟨⟨rfl,Or.inr (Or.inl rfl),rfl,rfl⟩,True.intro⟩) pa_nil)) (pe_ix (kx_seq K rfl) (pv 1) pe_int (fun _ _=>rfl)) (nomark _)))))))))))),?_⟩
  walk_at "w"
  refine c_law_number hS (by decide) fun c hc=>?_
  walk_at "w"
  refine c_law_pair hS hc.1 fun p c1 c2 ys1 ys2 rs qs H1 s1 m1 l1 l2 r1 r2 so2 f1 f2 n1 n2=>?_
  have g1:=r1.length
  have g2:=r2.length
  have b1:∀ r∈rs,RB 400 30 r∧FoldR r:=fun r hr=>⟨(f1 r hr).1.mono (by decide) (by decide),(f1 r hr).2⟩
  have b2:∀ r∈qs,RB 400 30 r∧FoldR r:=fun r hr=>⟨(f2 r hr).1.mono (by decide) (by decide),(f2 r hr).2⟩
  have sh1:∀ r∈rs,∃ a0 a1 a2 a3 a4:Int,r = [a0,a1,a2,a3,a4]:=fun r hr=>by obtain ⟨a0,a1,a2,a3,a4,e,_⟩:=(f1 r hr).1; exact ⟨a0,a1,a2,a3,a4,e⟩
  have sh2:∀ r∈qs,∃ a0 a1 a2 a3 a4:Int,r = [a0,a1,a2,a3,a4]:=fun r hr=>by obtain ⟨a0,a1,a2,a3,a4,e,_⟩:=(f2 r hr).1; exact ⟨a0,a1,a2,a3,a4,e⟩
  walk_at "w"
  rename_i p3 H3 n3 s3 m3 p4 H4 n4 s4 m4 p5 H5 n5 s5 m5
  have s15:Same H1 H5:=(s3.trans s4).trans s5
  have q3:=(s4.trans s5) _ _ m3
  have q4:=s5 _ _ m4
  refine c_move_between (SqL.of q3) (r1.same s15) (SqL.of q4) (r2.same s15) n1 n2 f1 f2 (fun p6 c6 s H6 s6 m6 hs6 bs ff mv h0=>?_) (fun p6 c6 ws zs H6 s6 m6 mc rc ap=>?_)
  ·have s16:Same H1 H6:=s15.trans s6
   have e1:=s16 _ _ m1
   have e5:=s6 _ _ m5
   walk_at "w"
   refine c_law_rows (SqL.of (s6 _ _ q3)) (SqL.of (s16 _ _ l1)) (r1.same s16) (r1.same s16) sh1 n1 fun H7 s7=>?_
   have e1':=s7 _ _ e1
   have e5':=s7 _ _ e5
   have m6':=s7 _ _ m6
   have s17:Same H1 H7:=s16.trans s7
   walk_at "w"
   refine iteF ?_
   walk_at "w"
   refine c_law_rows (SqL.of ((s6.trans s7) _ _ q4)) (SqL.of (s17 _ _ l2)) (r2.same s17) (r2.same s17) sh2 n2 fun H8 s8=>?_
   have e1'':=s8 _ _ e1'
   have m6'':=s8 _ _ m6'
   have s18:Same H1 H8:=s17.trans s8
   have hs8:SqT K H8 c6 (s.map V.int):=(s7.trans s8).at hs6
   walk_at "w"
   refine iteF ?_
   walk_at "w"
   refine if_ff rfl ?_
   walk_at "w"
   refine if_ff rfl ?_
   walk_at "w"
   refine r_eqD (.str _) (.str _) (by decide +kernel) (by decide +kernel) ?_
   rw [show PyData.eqv (.str "move") (.str "apart") = false by decide +kernel]
   walk_at "w"
   refine iteF ?_
   walk_at "w"
   refine iteF ?_
   walk_at "w"
   refine r_neD (.str _) (.str _) (by decide +kernel) (by decide +kernel) ?_
   rw [show PyData.eqv (.str "move") (.str "move") = true by decide +kernel]
   walk_at "w"
   refine iteF ?_
   walk_at "w"
   refine c_law_is_folded hs8 (bs.mono (by decide) (by decide)) ff fun H9 s9=>?_
   have e19:=s9 _ _ e1''
   have m69:=s9 _ _ m6''
   have hs9:=s9.at hs8
   have s19:Same H1 H9:=s18.trans s9
   walk_at "w"
   refine iteF ?_
   walk_at "j"
   refine join (fun σ' H'=>σ' = [some (.ref a),some (.ref p),some (.ref p5),some (.ref p6)]∧Same H9 H') (fun nx kn=>?_) (fun σ' HA hp=>?_)
   ·walk_at "w"
    rename_i p10 H10 n10 s10 m10
    refine r_eqD (.lst (SqL.of ((s19.trans s10) _ _ l1)) (r1.same (s19.trans s10)).tells) (.lst (SqL.of m10) (RowsL.nil (K:=K) (H:=H10)).tells) (shaped_rows rs) (shaped_rows []) ?_
    rw [eqv_listR]
    walk_at "w"
    refine if_both (fun hc=>?_) (fun hc=>?_)
    ·have he:rs = []:=of_decide_eq_true hc
     have es:=h0 he
     have m6b:=s10 _ _ m69
     walk_at "w"
     rename_i p11 H11 s11 m11
     refine r_neD (Tell.row ((s10.trans s11).at hs9)) (Tell.row (r:=[0,0,0,0,0]) (SqT.of m11)) (shaped_row _) (shaped_row _) ?_
     rw [eqv_row,decide_eq_true es]
     walk_at "w"
     refine iteF ?_
     walk_at "w"
     exact kn _ _ ⟨rfl,s10.trans s11⟩
    ·refine iteF ?_
     walk_at "w"
     exact kn _ _ ⟨rfl,s10⟩
   obtain ⟨rfl,sA⟩:=hp
   have s1A:Same H1 HA:=s19.trans sA
   have eA:=sA _ _ e19
   have mA:=sA _ _ m69
   have hsA:=sA.at hs9
   obtain ⟨t0,t1,t2,t3,t4,rfl,_,_,_,_,_⟩:=id bs
   have hsA':SqT K HA c6 [.int t0,.int t1,.int t2,.int t3,.int t4]:=hsA
   walk_at "w"
   refine rd_mapRows [some (.ref p6)] (fun r=>addR r [t0,t1,t2,t3,t4]) rfl (SqL.of (s1A _ _ l1)) (r1.same s1A) (by omega) (fun c r H2 Qc hrm s2 hc kc=>?_) (fun p9 H9 ys9 n9 s9 m9 r9=>?_)
   ·obtain ⟨x0,x1,x2,x3,x4,rfl,_,_,_,_,_⟩:=(f1 r hrm).1
    have hc':SqT K _ c [.int x0,.int x1,.int x2,.int x3,.int x4]:=hc
    have ht':=s2.at hsA'
    have mA':=s2 _ _ mA
    walk_at "w"
    rename_i p5 H5 s5 m5
    exact kc _ _ s5 (SqT.of m5)
   walk_at "w"
   refine c_law_made (SqL.of m9) r9 (fun q hq=>?_) (by rw [List.length_map]; exact n1) fun pM ysM qsM HM sM mM rM soM meM zM=>?_
   ·obtain ⟨r,hr,rfl⟩:=List.mem_map.mp hq
    have hin:=(f2 _ ((mv _).mpr ⟨r,hr,rfl⟩)).1
    refine ⟨?_,hin.mono (by decide) (by decide)⟩
    obtain ⟨x0,x1,x2,x3,x4,rfl,_,_,_,_,_⟩:=(f1 r hr).1
    exact ⟨x0 + t0,x1 + t1,x2 + t2,x3 + t3,x4 + t4,rfl,by omega,by omega,by omega,by omega,by omega⟩
   have eqq:qsM = qs:=Mth.eq_of_order nsr soM so2 fun x=>by
    rw [meM x,mv x]
    constructor
    ·rintro ⟨y,hy,e⟩
     obtain ⟨r,hr,rfl⟩:=List.mem_map.mp hy
     exact ⟨r,hr,e⟩
    ·rintro ⟨r,hr,e⟩
     exact ⟨_,List.mem_map.mpr ⟨r,hr,rfl⟩,e⟩
   subst eqq
   have s1M:Same H1 HM:=(s1A.trans s9).trans sM
   have eM:=(s9.trans sM) _ _ eA
   walk_at "w"
   refine r_eqD (.lst (SqL.of mM) rM.tells) (.lst (SqL.of (s1M _ _ l2)) (r2.same s1M).tells) (shaped_rows _) (shaped_rows _) ?_
   rw [eqv_listR,decide_eq_true rfl]
   exact k _
  ·have s16:Same H1 H6:=s15.trans s6
   have e1:=s16 _ _ m1
   have e5:=s6 _ _ m5
   walk_at "w"
   refine c_law_rows (SqL.of (s6 _ _ q3)) (SqL.of (s16 _ _ l1)) (r1.same s16) (r1.same s16) sh1 n1 fun H7 s7=>?_
   have e1':=s7 _ _ e1
   have e5':=s7 _ _ e5
   have m6':=s7 _ _ m6
   have s17:Same H1 H7:=s16.trans s7
   walk_at "w"
   refine iteF ?_
   walk_at "w"
   refine c_law_rows (SqL.of ((s6.trans s7) _ _ q4)) (SqL.of (s17 _ _ l2)) (r2.same s17) (r2.same s17) sh2 n2 fun H8 s8=>?_
   have e1'':=s8 _ _ e1'
   have m6'':=s8 _ _ m6'
   have s18:Same H1 H8:=s17.trans s8
   have s68:Same H6 H8:=s7.trans s8
   have mc8:=s68 _ _ mc
   walk_at "w"
   refine iteF ?_
   walk_at "w"
   refine if_ff rfl ?_
   walk_at "w"
   refine if_ff rfl ?_
   walk_at "w"
   refine r_eqD (.str _) (.str _) (by decide +kernel) (by decide +kernel) ?_
   rw [show PyData.eqv (.str "apart") (.str "apart") = true by decide +kernel]
   walk_at "w"
   refine iteT ?_
   walk_at "w"
   refine iteT ?_
   walk_at "w"
   refine c_law_told (SqL.of (s18 _ _ l1)) (r1.same s18) (SqL.of (s18 _ _ l2)) (r2.same s18) (SqL.of mc8) (rc.same s68) n1 n2 f1 f2 ap fun H9 s9=>?_
   exact k _
end
set_option maxHeartbeats 2000000
theorem all_mk {l : PySem.W.OpenLaw} {w : World} {K : PySem.W.Frag} {h : Heap} {mg : Str → Option Value} {fa : Addr} (X : K.In h) (G0 : h.Ns mainGlobals mg) (hfa : mg "law" = some (.ref fa)) {f0 f1 f2 f3 f4 f5 f6 f7 f8 f9 f10 f11 f12 f13 f14 f15 f16 f17 f18 f19 f20 f21 f22 f23 f24 f25 f26 : Addr} {od0 an0 od1 an1 od2 an2 od3 an3 od4 an4 od5 an5 od6 an6 od7 an7 od8 an8 od9 an9 od10 an10 od11 an11 od12 an12 od13 an13 od14 an14 od15 an15 od16 an16 od17 an17 od18 an18 od19 an19 od20 an20 od21 an21 od22 an22 od23 an23 od24 an24 od25 an25 od26 an26 : Option Addr} {sl0 sl1 sl2 sl3 sl4 sl5 sl6 sl7 sl8 sl9 sl10 sl11 sl12 sl13 sl14 sl15 sl16 sl17 sl18 sl19 sl20 sl21 sl22 sl23 sl24 sl25 sl26 : Array (Option Value)} {oc0 kV0 dc0 pm0 cd0 ct0 oc1 kV1 dc1 pm1 cd1 ct1 oc2 kV2 dc2 pm2 cd2 ct2 oc3 kV3 dc3 pm3 cd3 ct3 oc4 kV4 dc4 pm4 cd4 ct4 oc5 kV5 dc5 pm5 cd5 ct5 oc6 kV6 dc6 pm6 cd6 ct6 oc7 kV7 dc7 pm7 cd7 ct7 oc8 kV8 dc8 pm8 cd8 ct8 oc9 kV9 dc9 pm9 cd9 ct9 oc10 kV10 dc10 pm10 cd10 ct10 oc11 kV11 dc11 pm11 cd11 ct11 oc12 kV12 dc12 pm12 cd12 ct12 oc13 kV13 dc13 pm13 cd13 ct13 oc14 kV14 dc14 pm14 cd14 ct14 oc15 kV15 dc15 pm15 cd15 ct15 oc16 kV16 dc16 pm16 cd16 ct16 oc17 kV17 dc17 pm17 cd17 ct17 oc18 kV18 dc18 pm18 cd18 ct18 oc19 kV19 dc19 pm19 cd19 ct19 oc20 kV20 dc20 pm20 cd20 ct20 oc21 kV21 dc21 pm21 cd21 ct21 oc22 kV22 dc22 pm22 cd22 ct22 oc23 kV23 dc23 pm23 cd23 ct23 oc24 kV24 dc24 pm24 cd24 ct24 oc25 kV25 dc25 pm25 cd25 ct25 oc26 kV26 dc26 pm26 cd26 ct26 : Value} {u_ONE : Addr} {uo_ONE : Option Addr} {un_ONE : Nat} {us_ONE : Array (Option Value)} {t_ONE0 t_ONE1 t_ONE2 t_ONE3 t_ONE4 : Tok} {u_PRIMES : Addr} {uo_PRIMES : Option Addr} {un_PRIMES : Nat} {us_PRIMES : Array (Option Value)} {t_PRIMES0 t_PRIMES1 t_PRIMES2 t_PRIMES3 t_PRIMES4 : Tok}
    (a0 : PySem.W.nsIn K mainGlobals "over" = some (some (.ref f0))) (l0 : K.lookup f0 = some ⟨oc0, od0, .func (PySem.W.fnOf "over" "over" (defArgs s_over) (defBody s_over) (defScope s_over) .none kV0 dc0 pm0 an0 cd0 ct0), sl0⟩) (c0 : PySem.W.codeIn K cd0 "over" = true) (k0 : PySem.W.keepIn K (.ref f0) = true)
    (a1 : PySem.W.nsIn K mainGlobals "raised" = some (some (.ref f1))) (l1 : K.lookup f1 = some ⟨oc1, od1, .func (PySem.W.fnOf "raised" "raised" (defArgs s_raised) (defBody s_raised) (defScope s_raised) .none kV1 dc1 pm1 an1 cd1 ct1), sl1⟩) (c1 : PySem.W.codeIn K cd1 "raised" = true) (k1 : PySem.W.keepIn K (.ref f1) = true)
    (a2 : PySem.W.nsIn K mainGlobals "number_of" = some (some (.ref f2))) (l2 : K.lookup f2 = some ⟨oc2, od2, .func (PySem.W.fnOf "number_of" "number_of" (defArgs s_number_of) (defBody s_number_of) (defScope s_number_of) .none kV2 dc2 pm2 an2 cd2 ct2), sl2⟩) (c2 : PySem.W.codeIn K cd2 "number_of" = true) (k2 : PySem.W.keepIn K (.ref f2) = true)
    (a3 : PySem.W.nsIn K mainGlobals "fraction_of" = some (some (.ref f3))) (l3 : K.lookup f3 = some ⟨oc3, od3, .func (PySem.W.fnOf "fraction_of" "fraction_of" (defArgs s_fraction_of) (defBody s_fraction_of) (defScope s_fraction_of) .none kV3 dc3 pm3 an3 cd3 ct3), sl3⟩) (c3 : PySem.W.codeIn K cd3 "fraction_of" = true) (k3 : PySem.W.keepIn K (.ref f3) = true)
    (a4 : PySem.W.nsIn K mainGlobals "octaves" = some (some (.ref f4))) (l4 : K.lookup f4 = some ⟨oc4, od4, .func (PySem.W.fnOf "octaves" "octaves" (defArgs s_octaves) (defBody s_octaves) (defScope s_octaves) .none kV4 dc4 pm4 an4 cd4 ct4), sl4⟩) (c4 : PySem.W.codeIn K cd4 "octaves" = true) (k4 : PySem.W.keepIn K (.ref f4) = true)
    (a5 : PySem.W.nsIn K mainGlobals "folded" = some (some (.ref f5))) (l5 : K.lookup f5 = some ⟨oc5, od5, .func (PySem.W.fnOf "folded" "folded" (defArgs s_folded) (defBody s_folded) (defScope s_folded) .none kV5 dc5 pm5 an5 cd5 ct5), sl5⟩) (c5 : PySem.W.codeIn K cd5 "folded" = true) (k5 : PySem.W.keepIn K (.ref f5) = true)
    (a6 : PySem.W.nsIn K mainGlobals "reach" = some (some (.ref f6))) (l6 : K.lookup f6 = some ⟨oc6, od6, .func (PySem.W.fnOf "reach" "reach" (defArgs s_reach) (defBody s_reach) (defScope s_reach) .none kV6 dc6 pm6 an6 cd6 ct6), sl6⟩) (c6 : PySem.W.codeIn K cd6 "reach" = true) (k6 : PySem.W.keepIn K (.ref f6) = true)
    (a7 : PySem.W.nsIn K mainGlobals "only_one_has" = some (some (.ref f7))) (l7 : K.lookup f7 = some ⟨oc7, od7, .func (PySem.W.fnOf "only_one_has" "only_one_has" (defArgs s_only_one_has) (defBody s_only_one_has) (defScope s_only_one_has) .none kV7 dc7 pm7 an7 cd7 ct7), sl7⟩) (c7 : PySem.W.codeIn K cd7 "only_one_has" = true) (k7 : PySem.W.keepIn K (.ref f7) = true)
    (a8 : PySem.W.nsIn K mainGlobals "move_between" = some (some (.ref f8))) (l8 : K.lookup f8 = some ⟨oc8, od8, .func (PySem.W.fnOf "move_between" "move_between" (defArgs s_move_between) (defBody s_move_between) (defScope s_move_between) .none kV8 dc8 pm8 an8 cd8 ct8), sl8⟩) (c8 : PySem.W.codeIn K cd8 "move_between" = true) (k8 : PySem.W.keepIn K (.ref f8) = true)
    (a9 : PySem.W.nsIn K mainGlobals "_law_mixed" = some (some (.ref f9))) (l9 : K.lookup f9 = some ⟨oc9, od9, .func (PySem.W.fnOf "_law_mixed" "_law_mixed" (defArgs s_law_mixed) (defBody s_law_mixed) (defScope s_law_mixed) .none kV9 dc9 pm9 an9 cd9 ct9), sl9⟩) (c9 : PySem.W.codeIn K cd9 "_law_mixed" = true) (k9 : PySem.W.keepIn K (.ref f9) = true)
    (a10 : PySem.W.nsIn K mainGlobals "_law_number" = some (some (.ref f10))) (l10 : K.lookup f10 = some ⟨oc10, od10, .func (PySem.W.fnOf "_law_number" "_law_number" (defArgs s_law_number) (defBody s_law_number) (defScope s_law_number) .none kV10 dc10 pm10 an10 cd10 ct10), sl10⟩) (c10 : PySem.W.codeIn K cd10 "_law_number" = true) (k10 : PySem.W.keepIn K (.ref f10) = true)
    (a11 : PySem.W.nsIn K mainGlobals "_law_row" = some (some (.ref f11))) (l11 : K.lookup f11 = some ⟨oc11, od11, .func (PySem.W.fnOf "_law_row" "_law_row" (defArgs s_law_row) (defBody s_law_row) (defScope s_law_row) .none kV11 dc11 pm11 an11 cd11 ct11), sl11⟩) (c11 : PySem.W.codeIn K cd11 "_law_row" = true) (k11 : PySem.W.keepIn K (.ref f11) = true)
    (a12 : PySem.W.nsIn K mainGlobals "_law_fraction" = some (some (.ref f12))) (l12 : K.lookup f12 = some ⟨oc12, od12, .func (PySem.W.fnOf "_law_fraction" "_law_fraction" (defArgs s_law_fraction) (defBody s_law_fraction) (defScope s_law_fraction) .none kV12 dc12 pm12 an12 cd12 ct12), sl12⟩) (c12 : PySem.W.codeIn K cd12 "_law_fraction" = true) (k12 : PySem.W.keepIn K (.ref f12) = true)
    (a13 : PySem.W.nsIn K mainGlobals "_law_folded" = some (some (.ref f13))) (l13 : K.lookup f13 = some ⟨oc13, od13, .func (PySem.W.fnOf "_law_folded" "_law_folded" (defArgs s_law_folded) (defBody s_law_folded) (defScope s_law_folded) .none kV13 dc13 pm13 an13 cd13 ct13), sl13⟩) (c13 : PySem.W.codeIn K cd13 "_law_folded" = true) (k13 : PySem.W.keepIn K (.ref f13) = true)
    (a14 : PySem.W.nsIn K mainGlobals "_law_plus" = some (some (.ref f14))) (l14 : K.lookup f14 = some ⟨oc14, od14, .func (PySem.W.fnOf "_law_plus" "_law_plus" (defArgs s_law_plus) (defBody s_law_plus) (defScope s_law_plus) .none kV14 dc14 pm14 an14 cd14 ct14), sl14⟩) (c14 : PySem.W.codeIn K cd14 "_law_plus" = true) (k14 : PySem.W.keepIn K (.ref f14) = true)
    (a15 : PySem.W.nsIn K mainGlobals "_law_less" = some (some (.ref f15))) (l15 : K.lookup f15 = some ⟨oc15, od15, .func (PySem.W.fnOf "_law_less" "_law_less" (defArgs s_law_less) (defBody s_law_less) (defScope s_law_less) .none kV15 dc15 pm15 an15 cd15 ct15), sl15⟩) (c15 : PySem.W.codeIn K cd15 "_law_less" = true) (k15 : PySem.W.keepIn K (.ref f15) = true)
    (a16 : PySem.W.nsIn K mainGlobals "_law_lower" = some (some (.ref f16))) (l16 : K.lookup f16 = some ⟨oc16, od16, .func (PySem.W.fnOf "_law_lower" "_law_lower" (defArgs s_law_lower) (defBody s_law_lower) (defScope s_law_lower) .none kV16 dc16 pm16 an16 cd16 ct16), sl16⟩) (c16 : PySem.W.codeIn K cd16 "_law_lower" = true) (k16 : PySem.W.keepIn K (.ref f16) = true)
    (a17 : PySem.W.nsIn K mainGlobals "_law_scale" = some (some (.ref f17))) (l17 : K.lookup f17 = some ⟨oc17, od17, .func (PySem.W.fnOf "_law_scale" "_law_scale" (defArgs s_law_scale) (defBody s_law_scale) (defScope s_law_scale) .none kV17 dc17 pm17 an17 cd17 ct17), sl17⟩) (c17 : PySem.W.codeIn K cd17 "_law_scale" = true) (k17 : PySem.W.keepIn K (.ref f17) = true)
    (a18 : PySem.W.nsIn K mainGlobals "_law_is_row" = some (some (.ref f18))) (l18 : K.lookup f18 = some ⟨oc18, od18, .func (PySem.W.fnOf "_law_is_row" "_law_is_row" (defArgs s_law_is_row) (defBody s_law_is_row) (defScope s_law_is_row) .none kV18 dc18 pm18 an18 cd18 ct18), sl18⟩) (c18 : PySem.W.codeIn K cd18 "_law_is_row" = true) (k18 : PySem.W.keepIn K (.ref f18) = true)
    (a19 : PySem.W.nsIn K mainGlobals "_law_rows" = some (some (.ref f19))) (l19 : K.lookup f19 = some ⟨oc19, od19, .func (PySem.W.fnOf "_law_rows" "_law_rows" (defArgs s_law_rows) (defBody s_law_rows) (defScope s_law_rows) .none kV19 dc19 pm19 an19 cd19 ct19), sl19⟩) (c19 : PySem.W.codeIn K cd19 "_law_rows" = true) (k19 : PySem.W.keepIn K (.ref f19) = true)
    (a20 : PySem.W.nsIn K mainGlobals "_law_tones" = some (some (.ref f20))) (l20 : K.lookup f20 = some ⟨oc20, od20, .func (PySem.W.fnOf "_law_tones" "_law_tones" (defArgs s_law_tones) (defBody s_law_tones) (defScope s_law_tones) .none kV20 dc20 pm20 an20 cd20 ct20), sl20⟩) (c20 : PySem.W.codeIn K cd20 "_law_tones" = true) (k20 : PySem.W.keepIn K (.ref f20) = true)
    (a21 : PySem.W.nsIn K mainGlobals "_law_made" = some (some (.ref f21))) (l21 : K.lookup f21 = some ⟨oc21, od21, .func (PySem.W.fnOf "_law_made" "_law_made" (defArgs s_law_made) (defBody s_law_made) (defScope s_law_made) .none kV21 dc21 pm21 an21 cd21 ct21), sl21⟩) (c21 : PySem.W.codeIn K cd21 "_law_made" = true) (k21 : PySem.W.keepIn K (.ref f21) = true)
    (a22 : PySem.W.nsIn K mainGlobals "_law_changed" = some (some (.ref f22))) (l22 : K.lookup f22 = some ⟨oc22, od22, .func (PySem.W.fnOf "_law_changed" "_law_changed" (defArgs s_law_changed) (defBody s_law_changed) (defScope s_law_changed) .none kV22 dc22 pm22 an22 cd22 ct22), sl22⟩) (c22 : PySem.W.codeIn K cd22 "_law_changed" = true) (k22 : PySem.W.keepIn K (.ref f22) = true)
    (a23 : PySem.W.nsIn K mainGlobals "_law_pair" = some (some (.ref f23))) (l23 : K.lookup f23 = some ⟨oc23, od23, .func (PySem.W.fnOf "_law_pair" "_law_pair" (defArgs s_law_pair) (defBody s_law_pair) (defScope s_law_pair) .none kV23 dc23 pm23 an23 cd23 ct23), sl23⟩) (c23 : PySem.W.codeIn K cd23 "_law_pair" = true) (k23 : PySem.W.keepIn K (.ref f23) = true)
    (a24 : PySem.W.nsIn K mainGlobals "_law_is_folded" = some (some (.ref f24))) (l24 : K.lookup f24 = some ⟨oc24, od24, .func (PySem.W.fnOf "_law_is_folded" "_law_is_folded" (defArgs s_law_is_folded) (defBody s_law_is_folded) (defScope s_law_is_folded) .none kV24 dc24 pm24 an24 cd24 ct24), sl24⟩) (c24 : PySem.W.codeIn K cd24 "_law_is_folded" = true) (k24 : PySem.W.keepIn K (.ref f24) = true)
    (a25 : PySem.W.nsIn K mainGlobals "_law_told" = some (some (.ref f25))) (l25 : K.lookup f25 = some ⟨oc25, od25, .func (PySem.W.fnOf "_law_told" "_law_told" (defArgs s_law_told) (defBody s_law_told) (defScope s_law_told) .none kV25 dc25 pm25 an25 cd25 ct25), sl25⟩) (c25 : PySem.W.codeIn K cd25 "_law_told" = true) (k25 : PySem.W.keepIn K (.ref f25) = true)
    (a26 : PySem.W.nsIn K mainGlobals "law" = some (some (.ref f26))) (l26 : K.lookup f26 = some ⟨oc26, od26, .func (PySem.W.fnOf "law" "law" (defArgs s_law) (defBody s_law) (defScope s_law) .none kV26 dc26 pm26 an26 cd26 ct26), sl26⟩) (c26 : PySem.W.codeIn K cd26 "law" = true) (k26 : PySem.W.keepIn K (.ref f26) = true)
     (x_ONE : PySem.W.nsIn K mainGlobals "ONE" = some (some (.ref u_ONE))) (y_ONE : K.lookup u_ONE = some ⟨.type "tuple", uo_ONE, .seq #[.int 0 t_ONE0, .int 0 t_ONE1, .int 0 t_ONE2, .int 0 t_ONE3, .int 0 t_ONE4] un_ONE, us_ONE⟩) (x_PRIMES : PySem.W.nsIn K mainGlobals "PRIMES" = some (some (.ref u_PRIMES))) (y_PRIMES : K.lookup u_PRIMES = some ⟨.type "tuple", uo_PRIMES, .seq #[.int 2 t_PRIMES0, .int 3 t_PRIMES1, .int 5 t_PRIMES2, .int 7 t_PRIMES3, .int 11 t_PRIMES4] un_PRIMES, us_PRIMES⟩) (z_abs : PySem.W.nsIn K mainGlobals "abs" = some none) (z_all : PySem.W.nsIn K mainGlobals "all" = some none) (z_bool : PySem.W.nsIn K mainGlobals "bool" = some none) (z_int : PySem.W.nsIn K mainGlobals "int" = some none) (z_isinstance : PySem.W.nsIn K mainGlobals "isinstance" = some none) (z_len : PySem.W.nsIn K mainGlobals "len" = some none) (z_list : PySem.W.nsIn K mainGlobals "list" = some none) (z_max : PySem.W.nsIn K mainGlobals "max" = some none) (z_min : PySem.W.nsIn K mainGlobals "min" = some none) (z_range : PySem.W.nsIn K mainGlobals "range" = some none) (z_tuple : PySem.W.nsIn K mainGlobals "tuple" = some none) (z_zip : PySem.W.nsIn K mainGlobals "zip" = some none) :
    ∃ fd : FuncData, (∀ (s : Shared) (v : Value), BindsTo s fd ⟨[v], []⟩ [("_law_script", v)]) ∧ ∀ base : Heap, K.In base → base.Ns mainGlobals mg → FnOk l.prog w K mg base CX0 8 fa fd ["_law_script"] (spLaw K) := by
  have e := hfa.symm.trans (PySem.W.mg_of X G0 a26)
  cases e
  have T : Txt K mg ⟨u_ONE, u_PRIMES⟩ := ⟨PySem.W.mg_none_of X G0 z_abs, PySem.W.mg_none_of X G0 z_all, PySem.W.mg_none_of X G0 z_bool, PySem.W.mg_none_of X G0 z_int, PySem.W.mg_none_of X G0 z_isinstance, PySem.W.mg_none_of X G0 z_len, PySem.W.mg_none_of X G0 z_list, PySem.W.mg_none_of X G0 z_max, PySem.W.mg_none_of X G0 z_min, PySem.W.mg_none_of X G0 z_range, PySem.W.mg_none_of X G0 z_tuple, PySem.W.mg_none_of X G0 z_zip, PySem.W.mg_of X G0 x_ONE, fun H => .inr ⟨_, _, _, y_ONE, rfl, rfl, by show 5 ≤ sizeLine; decide, (.cons ⟨_, rfl⟩ (.cons ⟨_, rfl⟩ (.cons ⟨_, rfl⟩ (.cons ⟨_, rfl⟩ (.cons ⟨_, rfl⟩ .nil)))))⟩, PySem.W.mg_of X G0 x_PRIMES, fun H => .inr ⟨_, _, _, y_PRIMES, rfl, rfl, by show 5 ≤ sizeLine; decide, (.cons ⟨_, rfl⟩ (.cons ⟨_, rfl⟩ (.cons ⟨_, rfl⟩ (.cons ⟨_, rfl⟩ (.cons ⟨_, rfl⟩ .nil)))))⟩⟩
  have F0 := fun_mk (st := s_over) l0 c0 k0
  have D_over : Def K mg "over" s_over ["one", "other"] := ⟨_, _, F0, PySem.W.mg_of X G0 a0, F0.binds (ps := ["one", "other"]) fun _ _ _ _ _ _ us hl => of_len2 us hl fun _ _ => rfl⟩
  have F1 := fun_mk (st := s_raised) l1 c1 k1
  have D_raised : Def K mg "raised" s_raised ["base", "exponent"] := ⟨_, _, F1, PySem.W.mg_of X G0 a1, F1.binds (ps := ["base", "exponent"]) fun _ _ _ _ _ _ us hl => of_len2 us hl fun _ _ => rfl⟩
  have F2 := fun_mk (st := s_number_of) l2 c2 k2
  have D_number_of : Def K mg "number_of" s_number_of ["row"] := ⟨_, _, F2, PySem.W.mg_of X G0 a2, F2.binds (ps := ["row"]) fun _ _ _ _ _ _ us hl => of_len1 us hl fun _ => rfl⟩
  have F3 := fun_mk (st := s_fraction_of) l3 c3 k3
  have D_fraction_of : Def K mg "fraction_of" s_fraction_of ["tone"] := ⟨_, _, F3, PySem.W.mg_of X G0 a3, F3.binds (ps := ["tone"]) fun _ _ _ _ _ _ us hl => of_len1 us hl fun _ => rfl⟩
  have F4 := fun_mk (st := s_octaves) l4 c4 k4
  have D_octaves : Def K mg "octaves" s_octaves ["tone"] := ⟨_, _, F4, PySem.W.mg_of X G0 a4, F4.binds (ps := ["tone"]) fun _ _ _ _ _ _ us hl => of_len1 us hl fun _ => rfl⟩
  have F5 := fun_mk (st := s_folded) l5 c5 k5
  have D_folded : Def K mg "folded" s_folded ["tone"] := ⟨_, _, F5, PySem.W.mg_of X G0 a5, F5.binds (ps := ["tone"]) fun _ _ _ _ _ _ us hl => of_len1 us hl fun _ => rfl⟩
  have F6 := fun_mk (st := s_reach) l6 c6 k6
  have D_reach : Def K mg "reach" s_reach ["scale", "tone"] := ⟨_, _, F6, PySem.W.mg_of X G0 a6, F6.binds (ps := ["scale", "tone"]) fun _ _ _ _ _ _ us hl => of_len2 us hl fun _ _ => rfl⟩
  have F7 := fun_mk (st := s_only_one_has) l7 c7 k7
  have D_only_one_has : Def K mg "only_one_has" s_only_one_has ["spans", "others"] := ⟨_, _, F7, PySem.W.mg_of X G0 a7, F7.binds (ps := ["spans", "others"]) fun _ _ _ _ _ _ us hl => of_len2 us hl fun _ _ => rfl⟩
  have F8 := fun_mk (st := s_move_between) l8 c8 k8
  have D_move_between : Def K mg "move_between" s_move_between ["one", "other"] := ⟨_, _, F8, PySem.W.mg_of X G0 a8, F8.binds (ps := ["one", "other"]) fun _ _ _ _ _ _ us hl => of_len2 us hl fun _ _ => rfl⟩
  have F9 := fun_mk (st := s_law_mixed) l9 c9 k9
  have D_law_mixed : Def K mg "_law_mixed" s_law_mixed ["_law_script", "_law_k"] := ⟨_, _, F9, PySem.W.mg_of X G0 a9, F9.binds (ps := ["_law_script", "_law_k"]) fun _ _ _ _ _ _ us hl => of_len2 us hl fun _ _ => rfl⟩
  have F10 := fun_mk (st := s_law_number) l10 c10 k10
  have D_law_number : Def K mg "_law_number" s_law_number ["_law_script", "_law_k"] := ⟨_, _, F10, PySem.W.mg_of X G0 a10, F10.binds (ps := ["_law_script", "_law_k"]) fun _ _ _ _ _ _ us hl => of_len2 us hl fun _ _ => rfl⟩
  have F11 := fun_mk (st := s_law_row) l11 c11 k11
  have D_law_row : Def K mg "_law_row" s_law_row ["_law_number_here", "_law_first", "_law_half"] := ⟨_, _, F11, PySem.W.mg_of X G0 a11, F11.binds (ps := ["_law_number_here", "_law_first", "_law_half"]) fun _ _ _ _ _ _ us hl => of_len3 us hl fun _ _ _ => rfl⟩
  have F12 := fun_mk (st := s_law_fraction) l12 c12 k12
  have D_law_fraction : Def K mg "_law_fraction" s_law_fraction ["_law_row_here"] := ⟨_, _, F12, PySem.W.mg_of X G0 a12, F12.binds (ps := ["_law_row_here"]) fun _ _ _ _ _ _ us hl => of_len1 us hl fun _ => rfl⟩
  have F13 := fun_mk (st := s_law_folded) l13 c13 k13
  have D_law_folded : Def K mg "_law_folded" s_law_folded ["_law_row_here"] := ⟨_, _, F13, PySem.W.mg_of X G0 a13, F13.binds (ps := ["_law_row_here"]) fun _ _ _ _ _ _ us hl => of_len1 us hl fun _ => rfl⟩
  have F14 := fun_mk (st := s_law_plus) l14 c14 k14
  have D_law_plus : Def K mg "_law_plus" s_law_plus ["_law_one", "_law_other"] := ⟨_, _, F14, PySem.W.mg_of X G0 a14, F14.binds (ps := ["_law_one", "_law_other"]) fun _ _ _ _ _ _ us hl => of_len2 us hl fun _ _ => rfl⟩
  have F15 := fun_mk (st := s_law_less) l15 c15 k15
  have D_law_less : Def K mg "_law_less" s_law_less ["_law_one", "_law_other"] := ⟨_, _, F15, PySem.W.mg_of X G0 a15, F15.binds (ps := ["_law_one", "_law_other"]) fun _ _ _ _ _ _ us hl => of_len2 us hl fun _ _ => rfl⟩
  have F16 := fun_mk (st := s_law_lower) l16 c16 k16
  have D_law_lower : Def K mg "_law_lower" s_law_lower ["_law_one", "_law_other"] := ⟨_, _, F16, PySem.W.mg_of X G0 a16, F16.binds (ps := ["_law_one", "_law_other"]) fun _ _ _ _ _ _ us hl => of_len2 us hl fun _ _ => rfl⟩
  have F17 := fun_mk (st := s_law_scale) l17 c17 k17
  have D_law_scale : Def K mg "_law_scale" s_law_scale ["_law_rows_here"] := ⟨_, _, F17, PySem.W.mg_of X G0 a17, F17.binds (ps := ["_law_rows_here"]) fun _ _ _ _ _ _ us hl => of_len1 us hl fun _ => rfl⟩
  have F18 := fun_mk (st := s_law_is_row) l18 c18 k18
  have D_law_is_row : Def K mg "_law_is_row" s_law_is_row ["_law_found"] := ⟨_, _, F18, PySem.W.mg_of X G0 a18, F18.binds (ps := ["_law_found"]) fun _ _ _ _ _ _ us hl => of_len1 us hl fun _ => rfl⟩
  have F19 := fun_mk (st := s_law_rows) l19 c19 k19
  have D_law_rows : Def K mg "_law_rows" s_law_rows ["_law_found", "_law_due"] := ⟨_, _, F19, PySem.W.mg_of X G0 a19, F19.binds (ps := ["_law_found", "_law_due"]) fun _ _ _ _ _ _ us hl => of_len2 us hl fun _ _ => rfl⟩
  have F20 := fun_mk (st := s_law_tones) l20 c20 k20
  have D_law_tones : Def K mg "_law_tones" s_law_tones ["_law_script", "_law_at", "_law_count", "_law_half"] := ⟨_, _, F20, PySem.W.mg_of X G0 a20, F20.binds (ps := ["_law_script", "_law_at", "_law_count", "_law_half"]) fun _ _ _ _ _ _ us hl => of_len4 us hl fun _ _ _ _ => rfl⟩
  have F21 := fun_mk (st := s_law_made) l21 c21 k21
  have D_law_made : Def K mg "_law_made" s_law_made ["_law_rows_here"] := ⟨_, _, F21, PySem.W.mg_of X G0 a21, F21.binds (ps := ["_law_rows_here"]) fun _ _ _ _ _ _ us hl => of_len1 us hl fun _ => rfl⟩
  have F22 := fun_mk (st := s_law_changed) l22 c22 k22
  have D_law_changed : Def K mg "_law_changed" s_law_changed ["_law_script", "_law_one", "_law_digits"] := ⟨_, _, F22, PySem.W.mg_of X G0 a22, F22.binds (ps := ["_law_script", "_law_one", "_law_digits"]) fun _ _ _ _ _ _ us hl => of_len3 us hl fun _ _ _ => rfl⟩
  have F23 := fun_mk (st := s_law_pair) l23 c23 k23
  have D_law_pair : Def K mg "_law_pair" s_law_pair ["_law_script", "_law_number_here"] := ⟨_, _, F23, PySem.W.mg_of X G0 a23, F23.binds (ps := ["_law_script", "_law_number_here"]) fun _ _ _ _ _ _ us hl => of_len2 us hl fun _ _ => rfl⟩
  have F24 := fun_mk (st := s_law_is_folded) l24 c24 k24
  have D_law_is_folded : Def K mg "_law_is_folded" s_law_is_folded ["_law_found"] := ⟨_, _, F24, PySem.W.mg_of X G0 a24, F24.binds (ps := ["_law_found"]) fun _ _ _ _ _ _ us hl => of_len1 us hl fun _ => rfl⟩
  have F25 := fun_mk (st := s_law_told) l25 c25 k25
  have D_law_told : Def K mg "_law_told" s_law_told ["_law_one", "_law_other", "_law_spans"] := ⟨_, _, F25, PySem.W.mg_of X G0 a25, F25.binds (ps := ["_law_one", "_law_other", "_law_spans"]) fun _ _ _ _ _ _ us hl => of_len3 us hl fun _ _ _ => rfl⟩
  have F26 := fun_mk (st := s_law) l26 c26 k26
  refine ⟨PySem.W.fnOf "law" "law" (defArgs s_law) (defBody s_law) (defScope s_law) .none kV26 dc26 pm26 an26 cd26 ct26, fun s v => .of_eq rfl, fun base _ _ => ?_⟩
  have O_over := ok_over (P := l.prog) (w := w) (base := base) D_over T
  have O_raised := ok_raised (P := l.prog) (w := w) (base := base) D_raised T
  have O_only_one_has := ok_only_one_has (P := l.prog) (w := w) (base := base) D_only_one_has T
  have O_law_mixed := ok_law_mixed (P := l.prog) (w := w) (base := base) D_law_mixed T
  have O_law_row := ok_law_row (P := l.prog) (w := w) (base := base) D_law_row T
  have O_law_fraction := ok_law_fraction (P := l.prog) (w := w) (base := base) D_law_fraction T
  have O_law_plus := ok_law_plus (P := l.prog) (w := w) (base := base) D_law_plus T
  have O_law_less := ok_law_less (P := l.prog) (w := w) (base := base) D_law_less T
  have O_law_is_row := ok_law_is_row (P := l.prog) (w := w) (base := base) D_law_is_row T
  have O_number_of := ok_number_of (P := l.prog) (w := w) (base := base) D_number_of T ⟨O_raised⟩
  have O_law_number := ok_law_number (P := l.prog) (w := w) (base := base) D_law_number T ⟨O_law_mixed⟩
  have O_law_folded := ok_law_folded (P := l.prog) (w := w) (base := base) D_law_folded T ⟨O_law_fraction⟩
  have O_law_lower := ok_law_lower (P := l.prog) (w := w) (base := base) D_law_lower T ⟨O_law_fraction, O_law_less⟩
  have O_law_rows := ok_law_rows (P := l.prog) (w := w) (base := base) D_law_rows T ⟨O_law_is_row⟩
  have O_fraction_of := ok_fraction_of (P := l.prog) (w := w) (base := base) D_fraction_of T ⟨O_number_of⟩
  have O_law_scale := ok_law_scale (P := l.prog) (w := w) (base := base) D_law_scale T ⟨O_law_lower⟩
  have O_law_tones := ok_law_tones (P := l.prog) (w := w) (base := base) D_law_tones T ⟨O_law_number, O_law_row⟩
  have O_law_is_folded := ok_law_is_folded (P := l.prog) (w := w) (base := base) D_law_is_folded T ⟨O_law_folded, O_law_is_row⟩
  have O_octaves := ok_octaves (P := l.prog) (w := w) (base := base) D_octaves T ⟨O_fraction_of⟩
  have O_law_made := ok_law_made (P := l.prog) (w := w) (base := base) D_law_made T ⟨O_law_folded, O_law_scale⟩
  have O_law_told := ok_law_told (P := l.prog) (w := w) (base := base) D_law_told T ⟨O_law_folded, O_law_plus, O_law_is_folded⟩
  have O_folded := ok_folded (P := l.prog) (w := w) (base := base) D_folded T ⟨O_over, O_octaves⟩
  have O_law_changed := ok_law_changed (P := l.prog) (w := w) (base := base) D_law_changed T ⟨O_law_number, O_law_row, O_law_plus, O_law_less, O_law_made⟩
  have O_reach := ok_reach (P := l.prog) (w := w) (base := base) D_reach T ⟨O_over, O_folded⟩
  have O_law_pair := ok_law_pair (P := l.prog) (w := w) (base := base) D_law_pair T ⟨O_law_plus, O_law_less, O_law_tones, O_law_made, O_law_changed⟩
  have O_move_between := ok_move_between (P := l.prog) (w := w) (base := base) D_move_between T ⟨O_over, O_folded, O_reach, O_only_one_has⟩
  exact fn_law F26 T ⟨O_move_between, O_law_number, O_law_plus, O_law_rows, O_law_made, O_law_pair, O_law_is_folded, O_law_told⟩
end Law
open PySem PySem.W PyProof.Rows
set_option maxRecDepth 100000 in
set_option maxHeartbeats 0 in
theorem PySem.Challenge.cw_tuningyard_k28_whole_apart_or_moved_holds : PySem.Challenge.rw_tuningyard_k28_whole_apart_or_moved.Holds := by
 w_on; o_law; k_head; (case hw=>w_witness2)
 k_fill
 refine L2.walk_ofK (l:=PySem.Challenge.rw_tuningyard_k28_whole_apart_or_moved) (n:=63) (k:=8) (x:="_law_script") (CX:=L2.CX0) (sp:=L2.spLaw) rfl (by decide) rfl ⟨rfl,by decide,by decide⟩ (fun w h Y=>PySem.W.kIn_of Y) ?F (fun _ _ a ns hl _ hS=>⟨a,ns,rfl,hS,hl,fun _=>rfl⟩) fun _ _ _ _ z=>z
 case F =>
  intro w mg fa h KX G hmg
  refine' Law.all_mk KX G hmg ?a0 ?l0 ?c0 ?k0 ?a1 ?l1 ?c1 ?k1 ?a2 ?l2 ?c2 ?k2 ?a3 ?l3 ?c3 ?k3 ?a4 ?l4 ?c4 ?k4 ?a5 ?l5 ?c5 ?k5 ?a6 ?l6 ?c6 ?k6 ?a7 ?l7 ?c7 ?k7 ?a8 ?l8 ?c8 ?k8 ?a9 ?l9 ?c9 ?k9 ?a10 ?l10 ?c10 ?k10 ?a11 ?l11 ?c11 ?k11 ?a12 ?l12 ?c12 ?k12 ?a13 ?l13 ?c13 ?k13 ?a14 ?l14 ?c14 ?k14 ?a15 ?l15 ?c15 ?k15 ?a16 ?l16 ?c16 ?k16 ?a17 ?l17 ?c17 ?k17 ?a18 ?l18 ?c18 ?k18 ?a19 ?l19 ?c19 ?k19 ?a20 ?l20 ?c20 ?k20 ?a21 ?l21 ?c21 ?k21 ?a22 ?l22 ?c22 ?k22 ?a23 ?l23 ?c23 ?k23 ?a24 ?l24 ?c24 ?k24 ?a25 ?l25 ?c25 ?k25 ?a26 ?l26 ?c26 ?k26 ?x_ONE ?y_ONE ?x_PRIMES ?y_PRIMES ?z_abs ?z_all ?z_bool ?z_int ?z_isinstance ?z_len ?z_list ?z_max ?z_min ?z_range ?z_tuple ?z_zip
  (case a0=>k_is)
  (case l0=>k_is)
  (case c0=>k_is)
  (case k0=>k_is)
  (case a1=>k_is)
  (case l1=>k_is)
  (case c1=>k_is)
  (case k1=>k_is)
  (case a2=>k_is)
  (case l2=>k_is)
  (case c2=>k_is)
  (case k2=>k_is)
  (case a3=>k_is)
  (case l3=>k_is)
  (case c3=>k_is)
  (case k3=>k_is)
  (case a4=>k_is)
  (case l4=>k_is)
  (case c4=>k_is)
  (case k4=>k_is)
  (case a5=>k_is)
  (case l5=>k_is)
  (case c5=>k_is)
  (case k5=>k_is)
  (case a6=>k_is)
  (case l6=>k_is)
  (case c6=>k_is)
  (case k6=>k_is)
  (case a7=>k_is)
  (case l7=>k_is)
  (case c7=>k_is)
  (case k7=>k_is)
  (case a8=>k_is)
  (case l8=>k_is)
  (case c8=>k_is)
  (case k8=>k_is)
  (case a9=>k_is)
  (case l9=>k_is)
  (case c9=>k_is)
  (case k9=>k_is)
  (case a10=>k_is)
  (case l10=>k_is)
  (case c10=>k_is)
  (case k10=>k_is)
  (case a11=>k_is)
  (case l11=>k_is)
  (case c11=>k_is)
  (case k11=>k_is)
  (case a12=>k_is)
  (case l12=>k_is)
  (case c12=>k_is)
  (case k12=>k_is)
  (case a13=>k_is)
  (case l13=>k_is)
  (case c13=>k_is)
  (case k13=>k_is)
  (case a14=>k_is)
  (case l14=>k_is)
  (case c14=>k_is)
  (case k14=>k_is)
  (case a15=>k_is)
  (case l15=>k_is)
  (case c15=>k_is)
  (case k15=>k_is)
  (case a16=>k_is)
  (case l16=>k_is)
  (case c16=>k_is)
  (case k16=>k_is)
  (case a17=>k_is)
  (case l17=>k_is)
  (case c17=>k_is)
  (case k17=>k_is)
  (case a18=>k_is)
  (case l18=>k_is)
  (case c18=>k_is)
  (case k18=>k_is)
  (case a19=>k_is)
  (case l19=>k_is)
  (case c19=>k_is)
  (case k19=>k_is)
  (case a20=>k_is)
  (case l20=>k_is)
  (case c20=>k_is)
  (case k20=>k_is)
  (case a21=>k_is)
  (case l21=>k_is)
  (case c21=>k_is)
  (case k21=>k_is)
  (case a22=>k_is)
  (case l22=>k_is)
  (case c22=>k_is)
  (case k22=>k_is)
  (case a23=>k_is)
  (case l23=>k_is)
  (case c23=>k_is)
  (case k23=>k_is)
  (case a24=>k_is)
  (case l24=>k_is)
  (case c24=>k_is)
  (case k24=>k_is)
  (case a25=>k_is)
  (case l25=>k_is)
  (case c25=>k_is)
  (case k25=>k_is)
  (case a26=>k_is)
  (case l26=>k_is)
  (case c26=>k_is)
  (case k26=>k_is)
  (case x_ONE=>k_is)
  (case y_ONE=>k_is)
  (case x_PRIMES=>k_is)
  (case y_PRIMES=>k_is)
  (case z_abs=>k_is)
  (case z_all=>k_is)
  (case z_bool=>k_is)
  (case z_int=>k_is)
  (case z_isinstance=>k_is)
  (case z_len=>k_is)
  (case z_list=>k_is)
  (case z_max=>k_is)
  (case z_min=>k_is)
  (case z_range=>k_is)
  (case z_tuple=>k_is)
  (case z_zip=>k_is)
