import PyProof.Rows.All
import Wide.All
import OpenK.AllK
import Wide.FinOn
import Lean
import PyProof.EqAt
import PyProof.EqKinds
import PyProof.TupleCall
import PyProof.CompMap
import PyProof.ZipIter
import PyProof.TupleIter
import PyProof.ExcAttrAll.ValueError
import KE.KSortKey
import KE.KRevIter
import KE.KLam
import KE.KNestM
import PyProof.Rows.Range3
import PyProof.EnumMake
import PyProof.JoinWalk
import PyProof.Rows.StrSplitJoin
import PyProof.Rows.StrWeight2
import PyProof.StrOps2
import KE.KSortTup
import KE.KMinKey
import PyProof.FactsAll.range_2
import PyProof.ListRange
import PyProof.Rows.StrCountLaw
import PyProof.Rows.SetFrom
import PyProof.Rows.FactsT2
import PyProof.StrLawsTight
import PyProof.StrLawsChain
import PyProof.Rows.StrItems
import KE.KIntText
import PyProof.StrLawsFirst
import PyProof.StrBlockL
import PyProof.Rows.StrNews2
import PyProof.StrWalks
import PySem.Challenge.RW_tuningyard_k63_whole_tunes_both_ways
set_option Elab.async false
set_option linter.all false
set_option maxRecDepth 100000
noncomputable section
open PySem.W (CodeHd Frag InstAt OpenLaw callWith_K cellsFrom_some clsIn codeIn excIn findIn fnOf instObj kIn_of keepIn kia_one kitOne kitx_dict kitx_list kitx_tuple lookIn methodObj mg_none_of mg_of mroIn nsIn plainGet specialIn subIn tabIn takesIn typeIn)
open PyProof.Rows (boot_abs boot_all boot_bool boot_int boot_isinstance boot_list boot_max boot_min boot_str boot_tuple callWith_type1)
open List (all_eq_true all_map append_assoc append_nil cons_append cons_ne_nil drop_drop drop_left drop_zero ext_getElem find?_cons flatten_cons foldl_cons forIn_cons forIn_nil getElem?_append_left getElem?_drop getElem?_eq_getElem getElem?_map getElem_mem length_append length_cons length_drop length_map length_replicate length_take lookup_cons map_append map_congr_left map_cons map_map map_nil mem_append mem_append_left mem_append_right mem_cons mem_cons_of_mem mem_cons_self mem_map mem_of_getElem? mem_range mem_replicate mem_singleton nil_append nodup_cons not_mem_nil of_mem_zip pairwise_cons replicate_succ size_toArray sum_append sum_cons sum_singleton take_add_one take_length take_of_length_le take_succ toList_toArray zipIdx_cons zipIdx_nil)
open Nat (div_le_self div_pos eq_zero_or_pos gcd_comm gcd_dvd_left gcd_dvd_right le_of_dvd log2_lt lt_of_le_of_lt lt_or_ge mod_lt mul_add mul_assoc mul_le_mul mul_pos ne_of_lt zero_le)
open Int (emod_lt_of_pos emod_nonneg natCast_ediv toNat_natCast)
section
open PySem PySem.Spec PyProof.Rows
abbrev Zf:=@Heap.get?_push_of_some
abbrev Zg:=@wpAny_bind
abbrev Zh:=@List.length_singleton
abbrev Zi:=@List.getElem?_eq_some_iff
abbrev Zj:=@Heap.lt_size
abbrev Zk:=@Heap.get?_push_size
abbrev Zl:=@Nat.pow_le_pow_right
abbrev Zm:=@Nat.le_trans
abbrev Zn:=@Nat.le_refl
abbrev Zo:=@Nat.le_of_lt
abbrev Zp:=@Nat.mul_le_mul_right
abbrev Zq:=@List.getElem?_append_right
abbrev Zr:=@Option.some.inj
abbrev Zs:=@of_decide_eq_true
abbrev Zt:=@of_decide_eq_false
abbrev Zu:=@decide_eq_false
abbrev Zv:=@decide_eq_true
abbrev Zw:=@Nat.le_of_ble_eq_true
abbrev Zx:=@Option.isSome_iff_exists
abbrev Zy:=@wpAny_pure
abbrev Zz:=@wpAny_mono
abbrev ZA:=@Int.fdiv_eq_ediv_of_nonneg
abbrev ZC:=@getElem?_eq_getElem
abbrev ZD:=@mem_append_right
abbrev ZE:=@mem_append_left
abbrev ZF:=@mem_singleton
abbrev ZG:=@mem_append
abbrev ZH:=@mem_of_getElem?
abbrev ZI:=@length_map
abbrev ZJ:=@length_append
abbrev ZK:=@mem_cons_of_mem
abbrev ZL:=@mem_cons
abbrev ZM:=@mem_map
abbrev ZN:=@lt_of_le_of_lt
abbrev ZO:=@mul_le_mul
abbrev ZP:=@getElem?_append_left
abbrev ZQ:=@mem_range
abbrev ZR:=@take_length
abbrev ZS:=@length_take
abbrev ZT:=@size_toArray
abbrev ZU:=@getElem?_map
abbrev ZV:=@map_append
abbrev ZW:=@map_map
abbrev ZX:=@map_congr_left
abbrev ZY:=@take_of_length_le
abbrev ZZ:=@zero_le
abbrev Z0:=@ne_of_lt
abbrev Z1:=@pairwise_cons
abbrev Z2:=@getElem_mem
abbrev Z3:=@toNat_natCast
end
abbrev jJ (l:List PySem.Str):=List.Nodup l
namespace L2
open PySem PySem.Spec PyProof.Rows
abbrev Key:=Sum Int Str
def ov:Key->Value->Bool
 | .inl k,v=>Value.isInt k v
 | .inr x,v=>Value.isStrOf x v
def QS(w:World):Key->Int
 | .inl k=>hashInt k
 | .inr x=>hashStr w x
theorem bw:∀ {k:Key} {v:Value},ov k v=true->(∃ i t,k=Sum.inl i/\v=Value.int i t)\/(∃ x t,k=Sum.inr x/\v=Value.str x t)
 | .inl i,v,h=>by
  obtain ⟨t,e⟩:=Value.isInt_shape (k:=i) (v:=v) h
  exact .inl ⟨i,t,rfl,e⟩
 | .inr x,v,h=>by
  obtain ⟨t,e⟩:=Value.isStrOf_shape (x:=x) (v:=v) h
  exact .inr ⟨x,t,rfl,e⟩
theorem BC(i:Int)(t:Tok):ov (.inl i) (.int i t)=true:=by simp [ov,Value.isInt]
theorem kJ(x:Str)(t:Tok):ov (.inr x) (.str x t)=true:=by simp [ov,Value.isStrOf]
theorem Kb(a b:Int):decide ((Sum.inl a:Key)=Sum.inl b)=(a == b):=by
 by_cases e:a=b
 ·subst e;simp
 ·have h:¬ (Sum.inl a:Key)=Sum.inl b:=fun q=>e (Sum.inl.inj q)
  rw [Zu h]
  exact (beq_eq_false_iff_ne.mpr e).symm
theorem Kc(a b:Str):decide ((Sum.inr a:Key)=Sum.inr b)=decide (a=b):=by
 by_cases e:a=b
 ·subst e;simp
 ·have h:¬ (Sum.inr a:Key)=Sum.inr b:=fun q=>e (Sum.inr.inj q)
  rw [Zu h,Zu e]
theorem Kd(a:Int)(b:Str):decide ((Sum.inl a:Key)=Sum.inr b)=false:=Zu (fun q=>nomatch q)
theorem Ke(a:Str)(b:Int):decide ((Sum.inr a:Key)=Sum.inl b)=false:=Zu (fun q=>nomatch q)
def fQ(prog:Program)(w:World):PySem.KeyKind prog w Key where
 is:=ov
 hash:=QS w
 inj:=fun v a b ha hb=>by
  rcases bw ha with ⟨i,t,rfl,rfl⟩|⟨x,t,rfl,rfl⟩
  ·rcases bw hb with ⟨j,u,rfl,e⟩|⟨y,u,rfl,e⟩
   ·injection e with e1 _;rw [e1]
   ·exact nomatch e
  ·rcases bw hb with ⟨j,u,rfl,e⟩|⟨y,u,rfl,e⟩
   ·exact nomatch e
   ·injection e with e1 _;rw [e1]
 byValue:=fun k v h=>by
  rcases bw h with ⟨i,t,rfl,rfl⟩|⟨x,t,rfl,rfl⟩ <;> rfl
 pyHash:=fun hv h=>by
  rcases bw hv with ⟨i,t,rfl,rfl⟩|⟨x,t,rfl,rfl⟩
  ·exact wpAny_pyHash_int h
  ·exact wpAny_pyHash_str h
 eqBool:=fun hu hv h=>by
  rcases bw hu with ⟨i,t,rfl,rfl⟩|⟨x,t,rfl,rfl⟩
  ·rcases bw hv with ⟨j,u,rfl,rfl⟩|⟨y,u,rfl,rfl⟩
   ·rw [Kb] at h;exact wpAny_eqBool_int h
   ·rw [Kd] at h;exact SeqAt.EqAt.int_str i t y u _ _ _ _ h
  ·rcases bw hv with ⟨j,u,rfl,rfl⟩|⟨y,u,rfl,rfl⟩
   ·rw [Ke] at h;exact SeqAt.EqAt.str_int x t j u _ _ _ _ h
   ·rw [Kc] at h;exact wpAny_eqBool_str h
 «strs»:=fun k x t v h=>by
  rcases bw h with ⟨i,u,rfl,e⟩|⟨y,u,rfl,e⟩
  ·exact nomatch e
  ·injection e with e1 _
   subst e1
   cases v <;> rfl
theorem xj(prog:Program)(w:World)(i:Int)(t:Tok):(fQ prog w).is (.inl i) (.int i t)=true:=BC i t
theorem xk(prog:Program)(w:World)(x:Str)(t:Tok):(fQ prog w).is (.inr x) (.str x t)=true:=kJ x t
inductive V where
 | dj|bl (b:Bool)|int (i:Int)|str (x:Str)|Dg (b:Array UInt8)|MC (b:UInt64)|ref (a:Addr)|ty (n:String)
 deriving DecidableEq
def RelV:V->Value->Prop
 | .dj,u=>u=Value.none
 | .bl b,u=>u=Value.bool b
 | .int i,u=>∃ t,u=Value.int i t
 | .str x,u=>∃ t,u=Value.str x t
 | .Dg b,u=>∃ t,u=Value.bytes b t
 | .MC b,u=>∃ t,u=Value.float b t
 | .ref a,u=>u=Value.ref a
 | .ty n,u=>u=Value.type n
abbrev Vals:List V->List Value->Prop:=Paired RelV
theorem Vals.length{xs:List V}{us:List Value}(r:Vals xs us):xs.length=us.length:=Paired.length r
theorem Vals.get:∀ {xs:List V} {us:List Value} {i:Nat} {x:V},Vals xs us->xs[i]?=some x->∃ u,us[i]?=some u/\RelV x u
 | _,_,_,_,.nil,e=>by simp at e
 | _,_,0,_,.cons r _,e=>by simp at e;subst e;exact⟨_,rfl,r⟩
 | _,_,i+1,x,.cons _ t,e=>by
  obtain ⟨u,h1,h2⟩:=Vals.get (i:=i) (x:=x) t (by simpa using e)
  exact⟨u,by simpa using h1,h2⟩
theorem Vals.set{x:V}{u:Value}(r:RelV x u):∀ {xs:List V} {us:List Value} (i:Nat),Vals xs us->Vals (xs.set i x) (us.set i u)
 | _,_,_,.nil=>.nil
 | _,_,0,.cons _ t=>.cons r t
 | _,_,i+1,.cons q t=>.cons q (Vals.set r i t)
theorem Vals.append:∀ {xs ys:List V} {us ws:List Value},Vals xs us->Vals ys ws->Vals (xs++ys) (us++ws)
 | _,_,_,_,.nil,s=>s
 | _,_,_,_,.cons r t,s=>.cons r (Vals.append t s)
theorem Vals.take:∀ {xs:List V} {us:List Value} (n:Nat),Vals xs us->Vals (xs.take n) (us.take n)
 | _,_,0,_=>.nil
 | _,_,_+1,.nil=>.nil
 | _,_,n+1,.cons r t=>.cons r (Vals.take n t)
theorem Vals.drop:∀ {xs:List V} {us:List Value} (n:Nat),Vals xs us->Vals (xs.drop n) (us.drop n)
 | _,_,0,r=>r
 | _,_,_+1,.nil=>.nil
 | _,_,n+1,.cons _ t=>Vals.drop n t
def ur:Option V->Option Value->Prop
 | some v,some u=>RelV v u
 | none,none=>True
 | _,_=>False
def KV{κ:Type}:List (κ×V)->List (κ×Value)->Prop:=Paired fun (p:κ×V) (q:κ×Value)=>p.1=q.1/\RelV p.2 q.2
def kV:Key->V
 | .inl i=>.int i
 | .inr x=>.str x
inductive HO where
 /-- a list -/
 | lst (xs:List V)
 /-- a tuple (never changes) -/
 | tup (xs:List V)
 /-- a dict Nc keys are ints and texts;one Nc keys are tuples of ints and texts (MD empty one is both) -/
 | dK (dw:List (Key×V))|dT (dw:List (List Key×V))
 /-- a set of ints: its members,its size -/
 | set (S:Int->Bool) (n:Nat)
 /-- an instance of MD class at C,its dict at dx,its attributes -/
 | ins (C dx:Addr) (fs:List (Str×V))
 /-- MD dict of MD instance at x -/
 | own (x:Addr)
 /-- MD dict of an exception -/
 | xd (fs:List (Str×V))
 /-- a bound method,f of x -/
 | met (f x:Addr)
 /-- a range object lo,lo+1,.. below hi -/
 | Qe (lo hi:Int)
 /-- a Nd Wk is known to MD object (MD QT;a dict while a loop walks it): read,never written while it is so -/
 | xl (o:Obj) (u:HO)
 /-- a code Nf table -/
 | F3 (ps:Array Value)
 /-- any other Nd,by Wl is true of its one object (a def of UN own: Wm a S n:=HO.ext fun h=>..) -/
 | ext (φ:Heap->Prop)
abbrev Hp:=Addr->Option HO
def upd(H:Hp)(a:Addr)(o:HO):Hp:=fun b=>if b=a then some o else H b
theorem aB{H:Hp}{a:Addr}{o:HO}:upd H a o a=some o:=by unfold upd;rw [if_pos rfl]
theorem aG{H:Hp}{a b:Addr}{o:HO}(h:b≠a):upd H a o b=H b:=by unfold upd;rw [if_neg h]
theorem ba{H:Hp}{a b:Addr}{o:HO}(h:H a=some o)(h':H b=none):a≠b:=by
 intro e;subst e;rw [h] at h';cases h'
section
variable (P:Program)(w:World)
def cq(H:Hp)(h:Heap)(a:Addr):HO->Prop
 | .lst xs=>xs.length<=sizeLine/\∃ (its:List Value) (n:Nat),Vals xs its/\h.get? a=some { cls:=.type "list",data:=.seq its.toArray n }
 | .tup xs=>xs.length<=sizeLine/\∃ its:List Value,Vals xs its/\IsTup h a its.toArray
 | .dK dw=>dw.length<=sizeLine/\(a == sysModules)=false/\∃ vs,KV dw vs/\h.DictOf (fQ P w) a vs
 | .dT dw=>dw.length<=sizeLine/\(a == sysModules)=false/\∃ xs:List (List Key×Addr×Value),
   Paired (fun (p:List Key×V) (q:List Key×Addr×Value)=>p.1=q.1/\H q.2.1=some (.tup (p.1.map kV))/\RelV p.2 q.2.2) dw xs /\
   ∃ o es ep,h.get? a=some o/\o.ExactDict/\o.data=.dict es ep/\es.toList=xs.map (entryOfKey (tupleKind (fQ P w)))/\(xs.map (·.1)).Nodup
 | .set S n=>h.SetOf (intKind P w) a S n
 | .ins C dx fs=>H dx=some (.own a)/\fs.length<=1000/\dx≠a/\h.get? a=some (instObj C dx) /\
   ∃ mA,h.Ns1 dx mA/\(∀ f,ur (fs.lookup f) (mA f))/\PySem.Within mA (fs.map (·.1))
 | .own _=>∃ o,h.get? a=some o
 | .xd fs=>∃ mA,h.Ns1 a mA/\∀ f,ur (fs.lookup f) (mA f)
 | .Qe lo hi=>∃ t u v,h.get? a=some { cls:=.type "range",data:=.fields #[.int lo t,.int hi u,.int 1 v] }
 | .xl o u=>h.get? a=some o/\cq H h a u
 | .F3 ps=>h.get? a=some { cls:=.none,data:=.fields ps }
 | .met f x=>h.get? a=some (methodObj (.ref f) (.ref x))
 | .ext φ=>φ h/\(∃ o,h.get? a=some o)/\∀ h1 h2:Heap,φ h1->(∀ o,h1.get? a=some o->h2.get? a=some o)->φ h2
def fP(H:Hp)(h:Heap):Prop:=∀ a o,H a=some o->cq P w H h a o
end
section
variable {P:Program}{w:World}{H H':Hp}{h h':Heap}{a:Addr}{o:HO}
theorem cq.lt(x:cq P w H h a o):a<h.objs.size:=by
 cases o with
 | lst xs=>obtain ⟨_,_,_,_,e⟩:=x;exact Zj e
 | tup xs=>obtain ⟨_,_,_,p⟩:=x;exact p.lt
 | dK dw=>obtain ⟨_,_,_,_,o,_,_,e,_⟩:=x;exact Zj e
 | dT dw=>obtain ⟨_,_,_,_,o,_,_,e,_⟩:=x;exact Zj e
 | set S n=>obtain ⟨o,_,_,_,e,_⟩:=x;exact Zj e
 | ins C dx fs=>obtain ⟨_,_,_,e,_⟩:=x;exact Zj e
 | own y=>obtain ⟨_,e⟩:=x;exact Zj e
 | xd fs=>obtain ⟨_,⟨_,_,_,e,_⟩,_⟩:=x;exact Zj e
 | Qe lo hi=>obtain ⟨_,_,_,e⟩:=x;exact Zj e
 | xl ob u=>obtain ⟨e,_⟩:=x;exact Zj e
 | F3 ps=>exact Zj (show h.get? a=some _ from x)
 | met f y=>exact Zj (show h.get? a=some _ from x)
 | ext φ=>obtain ⟨_,⟨_,e⟩,_⟩:=x;exact Zj e
theorem Paired.Ng{α β:Type}{F G:α->β->Prop}:∀ {l₁:List α} {l₂:List β},Paired F l₁ l₂->(∀ a b,F a b->G a b)->Paired G l₁ l₂
 | _,_,.nil,_=>.nil
 | _,_,.cons r t,f=>.cons (f _ _ r) (Paired.Ng t f)
theorem cq.kK(x:cq P w H h a o)(k:∀ b u,(b=a\/H b=some (.own a))->h.get? b=some u->h'.get? b=some u)
  (ho:∀ b,H b=some (.own a)->H' b=some (.own a)) (ht:∀ b xs,H b=some (.tup xs)->H' b=some (.tup xs)):cq P w H' h' a o:=by
 induction o with
 | lst xs=>obtain ⟨z,its,n,r,e⟩:=x;exact⟨z,its,n,r,k _ _ (.inl rfl) e⟩
 | tup xs=>obtain ⟨z,its,r,ob,e,c⟩:=x;exact⟨z,its,r,ob,k _ _ (.inl rfl) e,c⟩
 | dK dw=>obtain ⟨z,y,vs,r,ob,es,ep,e,c⟩:=x;exact⟨z,y,vs,r,ob,es,ep,k _ _ (.inl rfl) e,c⟩
 | dT dw =>
  obtain ⟨z,y,xs,r,ob,es,ep,e,c⟩:=x
  exact⟨z,y,xs,Paired.Ng r fun p q z=>⟨z.1,ht _ _ z.2.1,z.2.2⟩,ob,es,ep,k _ _ (.inl rfl) e,c⟩
 | set S n=>obtain ⟨ob,es,ep,t,e,c⟩:=x;exact⟨ob,es,ep,t,k _ _ (.inl rfl) e,c⟩
 | ins C dx fs =>
  obtain ⟨d,z,ne,e,mA,⟨od,es,ep,e2,c⟩,r⟩:=x
  exact⟨ho _ d,z,ne,k _ _ (.inl rfl) e,mA,⟨od,es,ep,k _ _ (.inr d) e2,c⟩,r⟩
 | own y=>obtain ⟨ob,e⟩:=x;exact⟨ob,k _ _ (.inl rfl) e⟩
 | xd fs=>obtain ⟨mA,⟨od,es,ep,e,c⟩,r⟩:=x;exact⟨mA,⟨od,es,ep,k _ _ (.inl rfl) e,c⟩,r⟩
 | Qe lo hi=>obtain ⟨t,u,v,e⟩:=x;exact⟨t,u,v,k _ _ (.inl rfl) e⟩
 | xl ob u ih=>obtain ⟨e,q⟩:=x;exact⟨k _ _ (.inl rfl) e,ih q⟩
 | F3 ps =>
  have e:h.get? a=some { cls:=.none,data:=.fields ps }:=x
  show h'.get? a=some { cls:=.none,data:=.fields ps }
  exact k a _ (.inl rfl) e
 | met f y =>
  have e:h.get? a=some (methodObj (.ref f) (.ref y)):=x
  show h'.get? a=some (methodObj (.ref f) (.ref y))
  exact k a _ (.inl rfl) e
 | ext φ=>obtain ⟨p,⟨o,e⟩,st⟩:=x;exact⟨st _ _ p fun o q=>k _ _ (.inl rfl) q,⟨o,k _ _ (.inl rfl) e⟩,st⟩
theorem fP.lt(x:fP P w H h)(e:H a=some o):a<h.objs.size:=(x a o e).lt
theorem fP.fresh(x:fP P w H h)(e:h.objs.size<=a):H a=none:=by
 cases q:H a with
 | none=>rfl
 | some u=>exact absurd (Nat.lt_of_lt_of_le (x.lt q) e) (Nat.lt_irrefl _)
theorem fP.kept(x:fP P w H h)(k:∀ b u,h.get? b=some u->h'.get? b=some u):fP P w H h':=fun a o e =>
 (x a o e).kK (fun b u _ q=>k b u q) (fun _ q=>q) fun _ _ q=>q
theorem fP.laid(x:fP P w H h)(k:∀ b u,h.get? b=some u->h'.get? b=some u)(hp:h.objs.size<=a)(new:cq P w (upd H a o) h' a o):fP P w (upd H a o) h':=fun b u e=>by
 have hn:=x.fresh hp
 by_cases hb:b=a
 ·subst hb;rw [aB] at e;cases e;exact new
 ·rw [aG hb] at e
  exact (x b u e).kK (fun c v _ q=>k c v q) (fun c q=>by rw [aG (ba q hn)];exact q) fun c xs q=>by rw [aG (ba q hn)];exact q
end
def Rd(H:Hp)(a:Addr)(u:HO):Prop:=H a=some u\/∃ o,H a=some (.xl o u)
theorem Rd.ok{P:Program}{w:World}{H:Hp}{h:Heap}{a:Addr}{u:HO}(r:Rd H a u)(x:fP P w H h):cq P w H h a u:=by
 rcases r with r|⟨o,r⟩
 ·exact x a u r
 ·obtain ⟨_,q⟩:=x a _ r
  exact q
def Qf:Option HO->Prop
 | some (.lst _)=>True
 | some (.dK _)=>True
 | some (.dT _)=>True
 | some (.set _ _)=>True
 | some (.ins _ _ _)=>True
 | some (.ext _)=>True
 | _=>False
section
variable {P:Program}{w:World}{H:Hp}{h h':Heap}{x e:Addr}{o':HO}
theorem fP.write(ok:fP P w H h)(mu:Qf (H x))(he:e=x\/H e=some (.own x))(k:∀ b u,b≠e->h.get? b=some u->h'.get? b=some u)(ME:∃ u,h'.get? e=some u)
  (new:cq P w (upd H x o') h' x o'):fP P w (upd H x o') h':=fun b u q=>by
 have Nh:∀ c y,H c=some (.own y)->c≠x:=fun c y r z=>by subst z;rw [r] at mu;exact mu
 have QU:∀ c xs,H c=some (.tup xs)->c≠x:=fun c xs r z=>by subst z;rw [r] at mu;exact mu
 by_cases hb:b=x
 ·subst hb;rw [aB] at q;cases q;exact new
 ·rw [aG hb] at q
  by_cases xm:b=e
  ·have q':H b=some (.own x):=by
    rcases he with z|z
    ·exact absurd (xm.trans z) hb
    ·rw [xm];exact z
   rw [q] at q';cases q'
   obtain ⟨v,hv⟩:=ME
   exact⟨v,by rw [xm];exact hv⟩
  ·refine (ok b u q).kK (fun c v hc r=>k c v ?_ r) (fun c r=>by rw [aG (Nh c b r)];exact r) fun c xs r=>by rw [aG (QU c xs r)];exact r
   rcases hc with rfl|hc
   ·exact xm
   ·rintro rfl
    rcases he with z|z
    ·exact Nh c b hc z
    ·rw [hc] at z;cases z;exact hb rfl
end
structure Un(fs ex:List Addr)(H H':Hp)(h h':Heap):Prop where
 keep:∀ b o,h.get? b=some o->H b=none->b∉fs->b∉ex->h'.get? b=some o
 slot:∀ b o,h.get? b=some o->H b=none->b∈fs->b∉ex->∃ sl,h'.get? b=some { o with slots:=sl }
 free:∀ b o,h.get? b=some o->H b=none->b∉ex->H' b=none
 there:∀ b o,h.get? b=some o->b∉ex->∃ o',h'.get? b=some o'
 jK:∀ b xs,H b=some (.tup xs)->H' b=some (.tup xs)
 jl:∀ b o u,H b=some (.xl o u)->H' b=some (.xl o u)
 jL:∀ b ps,H b=some (.F3 ps)->∃ more,H' b=some (.F3 (ps++more))
section
variable {fs Wn ex YD:List Addr}{H H1 H2:Hp}{h h1 h2 h':Heap}{a x e:Addr}{o:HO}
theorem Un.any(u:Un fs ex H H1 h h1){b:Addr}{ob:Obj}(q:h.get? b=some ob)(n:H b=none)(hx:b∉ex):∃ sl,h1.get? b=some { ob with slots:=sl }:=by
 by_cases hb:b∈fs
 ·exact u.slot b ob q n hb hx
 ·exact⟨ob.slots,u.keep b ob q n hb hx⟩
theorem Un.kept(k:∀ b u,h.get? b=some u->h'.get? b=some u):Un fs ex H H h h' :=
 ⟨fun b ob q _ _ _=>k b ob q,fun b ob q _ _ _=>⟨ob.slots,k b ob q⟩,fun _ _ _ n _=>n,fun b ob q _=>⟨ob,k b ob q⟩,fun _ _ q=>q,fun _ _ _ q=>q,fun _ ps q=>⟨#[],by rw [q];simp⟩⟩
theorem Un.refl:Un fs ex H H h h:=Un.kept fun _ _ q=>q
theorem Un.laid(k:∀ b u,h.get? b=some u->h'.get? b=some u)(hp:h.objs.size<=a)(hn:H a=none):Un fs ex H (upd H a o) h h' where
 keep:=fun b u q _ _ _=>k b u q
 slot:=fun b u q _ _ _=>⟨u.slots,k b u q⟩
 free:=fun b u q n _=>by rw [aG (Z0 (Nat.lt_of_lt_of_le (Zj q) hp))];exact n
 there:=fun b u q _=>⟨u,k b u q⟩
 jK:=fun b xs q=>by rw [aG (ba q hn)];exact q
 jl:=fun b u xs q=>by rw [aG (ba q hn)];exact q
 jL:=fun b ps q=>⟨#[],by rw [aG (ba q hn),q];simp⟩
theorem Un.write(mu:Qf (H x))(he:e=x\/H e=some (.own x))(k:∀ b u,b≠e->h.get? b=some u->h'.get? b=some u)(ME:∃ u,h'.get? e=some u):Un fs ex H (upd H x o) h h':=by
 have hx:∀ b,H b=none->b≠x:=fun b n z=>by subst z;rw [n] at mu;exact mu
 have hb:∀ b,H b=none->b≠e:=fun b n z=>by
  subst z
  rcases he with r|r
  ·exact hx b n r
  ·rw [n] at r;cases r
 have hm:∀ b u,H b=some u->¬ Qf (some u)->b≠x:=fun b u q nm z=>by subst z;rw [q] at mu;exact nm mu
 refine⟨fun b u q n _ _=>k b u (hb b n) q,fun b u q n _ _=>⟨u.slots,k b u (hb b n) q⟩,fun b u q n _=>by rw [aG (hx b n)];exact n,fun b u q _=>?_,
  fun b xs q=>by rw [aG (hm b _ q fun z=>z)];exact q,fun b u xs q=>by rw [aG (hm b _ q fun z=>z)];exact q,fun b ps q=>⟨#[],by rw [aG (hm b _ q fun z=>z),q];simp⟩⟩
 by_cases xm:b=e
 ·subst xm;exact ME
 ·exact⟨u,k b u xm q⟩
end
def Qg(h:Heap)(H:Hp):List Addr:=(List.range h.objs.size).filter fun a=>(H a).isSome
def uu(h:Heap)(H:Hp):Heap:=PySem.W.hideAll h (Qg h H)
theorem BD(h:Heap)(H:Hp):(uu h H).objs.size=h.objs.size:=PySem.W.hideAll_size _ _
theorem Dh{h:Heap}{H:Hp}{b:Addr}{o:Obj}(e:h.get? b=some o)(n:H b=none):(uu h H).get? b=some o :=
 PySem.W.hideAll_get _ e fun hm=>by
  have q:(H b).isSome=true:=(List.mem_filter.mp hm).2
  rw [n] at q;simp at q
theorem Gi{h:Heap}{H:Hp}{b:Addr}{o:Obj}(e:(uu h H).get? b=some o):h.get? b=some o/\H b=none:=by
 have e':h.get? b=some o:=PySem.W.of_hideAll (Qg h H) e
 refine⟨e',?_⟩
 cases q:H b with
 | none=>rfl
 | some x =>
  have hm:b∈Qg h H:=List.mem_filter.mpr ⟨ZQ.mpr (Zj e'),by simp [q]⟩
  have z:(uu h H).get? b=none:=PySem.W.hideAll_none (Qg h H) hm
  rw [z] at e;cases e
def Gj(g h:Heap)(L:Addr):List (Addr×Obj):=(List.range h.objs.size).filterMap fun a=>if a=L\/(g.get? a).isSome=true then none else (h.get? a).map fun o=>(a,o)
def rest(g h:Heap)(L d:Addr):List (Addr×Obj):=(Gj g h L).filter fun p=>decide (p.1≠d)
structure Mod(K:Frag)(mg:Str->Option Value)(base:Heap):Prop where
 Ni:K.In base
 glob:base.Ns mainGlobals mg
 blt:∃ mb,base.Ns builtinsNs mb/\∀ x:Str,x≠"__name__"->mb x=bootBuiltins x
 nolimit:base.NoLimit
structure Cx where
 prog:Program
 w:World
 K:Frag
 mg:Str->Option Value
 base:Heap
 A:Around
 N:List Str
 s₀:Shared
 H₀:Hp
 env:Env
 outer:List Env
 stack:List Env
 ex:List Addr
 fn:Str->Bool
 calm:Bool
 pn:List (Addr×Obj)
 xe:Value->Shared->Prop
def ow(l:List Env):List Addr:=l.filterMap (·.frame)
abbrev Cx.fs(X:Cx):List Addr:=ow X.outer
def Nj(sc:Scope)(x:Str):Prop:=sc.names.lookup x=some .local\/sc.names.lookup x=some .cell\/sc.names.lookup x=some .free
def Loc(sc:Scope)(x:Str):Prop:=sc.names.lookup x=some .local\/sc.names.lookup x=some .cell
def Look(env:Env)(h:Heap)(m:Str->Option Value)(x:Str)(u:Value):Prop :=
 (env.kindOf x=some .local/\m x=some u)\/((env.kindOf x=some .cell\/env.kindOf x=some .free)/\∃ c,env.cells.lookup x=some c/\h.IsCell c (some u))
structure Cx.Ok(X:Cx):Prop where
 mod:Mod X.K X.mg X.base
 kind:X.env.scope.kind=.function
 glob:X.env.globals=mainGlobals
 blt:X.env.builtins=builtinsNs
 above:X.s₀.heap.objs.size<=X.env.locals
 inj:∀ x y c,X.env.cells.lookup x=some c->X.env.cells.lookup y=some c->x=y
 has:∀ x,(X.env.kindOf x=some .cell\/X.env.kindOf x=some .free)->∃ c,X.env.cells.lookup x=some c
 Kf:∀ x c,X.fn x=true->X.env.cells.lookup x=some c->X.s₀.heap.objs.size<=c
 hd:X.calm=true->X.A.handled=none
 frames:X.A.frames=some X.stack
 MF:X.stack=X.outer\/(X.stack=X.env::X.outer/\X.env.frame=some X.env.locals)
 Qh:∀ b∈X.ex,b≠X.env.locals/\∀ x c,X.env.cells.lookup x=some c->c≠b
 bs:∀ b o,X.base.get? b=some o->X.s₀.heap.get? b=some o/\X.H₀ b=none
 C8:X.base.objs.size<=X.s₀.heap.objs.size
 xn:∀ b o,X.base.get? b=some o->b∉X.ex
 BE:∀ b∈X.ex,b∉X.fs
 jM:X.s₀.heap.FunFrames X.base X.outer
 IW:∀ b∈X.fs,X.H₀ b=none
structure Inv(X:Cx)(pins:List (Addr×Obj))(σ:List (Option V))(H:Hp)(s:Shared):Prop where
 ok:X.Ok
 os:s.os=X.s₀.os
 bare:AllBare s.gens
 base:Un X.fs X.ex X.H₀ H X.s₀.heap s.heap
 loc:∃ m,s.heap.Ns X.env.locals m/\∀ (i:Nat) (x:Str) (v:V),X.N[i]?=some x->σ[i]?=some (some v)->Nj X.env.scope x->∃ u,RelV v u/\Look X.env s.heap m x u
 cell:∀ x c,X.env.cells.lookup x=some c->∃ v,s.heap.IsCell c v
 free:H X.env.locals=none
 dI:∀ x c,X.env.cells.lookup x=some c->H c=none
 pin:∀ p∈X.pn++pins,s.heap.get? p.1=some p.2/\H p.1=none/\p.1≠X.env.locals/\p.1∉X.fs/\∀ v,p.2.data≠.cell v
 bf:fP X.prog X.w H s.heap
 len:σ.length=X.N.length
section
variable {X:Cx}{pins:List (Addr×Obj)}{σ:List (Option V)}{H H':Hp}{s:Shared}{h':Heap}
theorem Cx.Ok.QV(ok:X.Ok){b:Addr}{o:Obj}(e:X.base.get? b=some o):b∉X.fs:=fun hb=>by
 have:=(ok.jM.mem hb).1
 rw [e] at this;cases this
theorem Inv.bs(I:Inv X pins σ H s):∀ b o,X.base.get? b=some o->s.heap.get? b=some o/\H b=none:=fun b o e =>
 ⟨I.base.keep b o (I.ok.bs b o e).1 (I.ok.bs b o e).2 (I.ok.QV e) (I.ok.xn b o e),I.base.free b o (I.ok.bs b o e).1 (I.ok.bs b o e).2 (I.ok.xn b o e)⟩
theorem Inv.bk(I:Inv X pins σ H s):∀ b o,X.base.get? b=some o->s.heap.get? b=some o:=fun b o e=>(I.bs b o e).1
theorem Inv.mod(I:Inv X pins σ H s):Mod X.K X.mg X.base:=I.ok.mod
theorem Inv.nZ(I:Inv X pins σ H s):X.K.In s.heap:=I.ok.mod.Ni.keeps I.bk
theorem Inv.lt(I:Inv X pins σ H s):X.env.locals<s.heap.objs.size:=let ⟨_,hn,_⟩:=I.loc;hn.lt
theorem Inv.sz(I:Inv X pins σ H s):X.s₀.heap.objs.size<=s.heap.objs.size:=Zm I.ok.above (Zo I.lt)
theorem Inv.QW(I:Inv X pins σ H s){a:Addr}(h:s.heap.objs.size<=a):a∉X.fs:=fun hb=>by
 obtain ⟨_,o,ho,_⟩:=I.ok.jM.mem hb
 exact absurd (Nat.lt_of_lt_of_le (Zj ho) (Zm I.sz h)) (Nat.lt_irrefl _)
theorem Inv.Gk(I:Inv X pins σ H s):∀ x c,X.env.cells.lookup x=some c->c≠X.env.locals:=fun x c e z=>by
 obtain ⟨v,o,ho,hd⟩:=I.cell x c e
 obtain ⟨m,⟨o',es,ep,Gm,Nk,_⟩,_⟩:=I.loc
 rw [z,Gm] at ho;cases ho;rw [Nk] at hd;cases hd
theorem Inv.jM(I:Inv X pins σ H s):s.heap.FunFrames X.base X.outer:=by
 have all:∀ (l:List Env),(∀ b∈ow l,b∈X.fs)->X.s₀.heap.FunFrames X.base l->s.heap.FunFrames X.base l:=by
  intro l
  induction l with
  | nil=>intro _ _;trivial
  | cons env r ih =>
   intro hs hl
   obtain ⟨hk,⟨L,o,hf,hn,ho,hd⟩,hr⟩:=hl
   have hL:L∈X.fs:=hs L (by unfold ow;rw [List.filterMap_cons,hf];exact mem_cons_self)
   obtain ⟨sl,e⟩:=I.base.slot L o ho (I.ok.IW L hL) hL fun z=>I.ok.BE L z hL
   exact⟨hk,⟨L,_,hf,hn,e,hd⟩,ih (fun b hb=>hs b (by unfold ow;rw [List.filterMap_cons,hf];exact ZK _ hb)) hr⟩
 exact all X.outer (fun _ hb=>hb) I.ok.jM
theorem Inv.stack(I:Inv X pins σ H s):s.heap.FunFrames X.base X.stack:=by
 rcases I.ok.MF with e|⟨e,hf⟩
 ·rw [e];exact I.jM
 ·rw [e]
  obtain ⟨m,hn,_⟩:=I.loc
  refine .cons (by rw [I.ok.kind];decide) hf hn ?_ I.jM
  exact Heap.get?_none_of_le (Zm I.ok.C8 I.ok.above)
theorem Inv.kL(I:Inv X pins σ H s):∀ b∈ow X.stack,b∈X.env.locals::X.fs:=fun b hb=>by
 rcases I.ok.MF with e|⟨e,hf⟩
 ·rw [e] at hb;exact ZK _ hb
 ·rw [e] at hb
  unfold ow at hb
  rw [List.filterMap_cons,hf] at hb
  exact hb
theorem Inv.jN(I:Inv X pins σ H s):∀ b∈ow X.stack,H b=none:=fun b hb=>by
 rcases ZL.mp (I.kL b hb) with e|hb
 ·rw [e];exact I.free
 ·obtain ⟨_,o,ho,_⟩:=I.ok.jM.mem hb
  exact I.base.free b o ho (I.ok.IW b hb) fun z=>I.ok.BE b z hb
theorem Inv.step{g':Array GenState}{t':Nat}{d':Drawn}{ch:List Addr}(I:Inv X pins σ H s)
  (xh:∀ b∈ch,(b∈X.ex\/X.s₀.heap.objs.size<=b)/\b≠X.env.locals/\(∀ x c,X.env.cells.lookup x=some c->c≠b)/\∀ p∈X.pn++pins,p.1≠b)
  (keep:∀ b o,b≠X.env.locals->b∉X.fs->b∉ch->s.heap.get? b=some o->H b=none->h'.get? b=some o)
  (slot:∀ b o,b≠X.env.locals->b∈X.fs->b∉ch->s.heap.get? b=some o->H b=none->∃ sl,h'.get? b=some { o with slots:=sl }) (free:∀ b o,b∉ch->s.heap.get? b=some o->H b=none->H' b=none)
  (there:∀ b o,b∉ch->s.heap.get? b=some o->∃ o',h'.get? b=some o')
  (jK:∀ b xs,H b=some (.tup xs)->H' b=some (.tup xs)) (jl:∀ b o u,H b=some (.xl o u)->H' b=some (.xl o u)) (jL:∀ b ps,H b=some (.F3 ps)->∃ more,H' b=some (.F3 (ps++more)))
  (ns:∀ m,s.heap.Ns X.env.locals m->h'.Ns X.env.locals m) (bf:fP X.prog X.w H' h') (hg:AllBare g') :
  Inv X pins σ H' { s with heap:=h',gens:=g',drawn:=d',toks:=t' }:=by
 have Gn:∀ b o,X.s₀.heap.get? b=some o->b≠X.env.locals:=fun b o e=>Z0 (Nat.lt_of_lt_of_le (Zj e) I.ok.above)
 have Gp:∀ b o,X.s₀.heap.get? b=some o->b∉X.ex->b∉ch:=fun b o e hx hb=>by
  rcases (xh b hb).1 with z|z
  ·exact hx z
  ·exact absurd (Nat.lt_of_lt_of_le (Zj e) z) (Nat.lt_irrefl _)
 have cellK:∀ x c,X.env.cells.lookup x=some c->∀ v,s.heap.IsCell c v->h'.IsCell c v:=fun x c e v ⟨o,ho,hd⟩=>by
  have Di:c∉ch:=fun z=>(xh c z).2.2.1 x c e rfl
  by_cases hc:c∈X.fs
  ·obtain ⟨sl,q⟩:=slot c o (I.Gk x c e) hc Di ho (I.dI x c e)
   exact⟨_,q,hd⟩
  ·exact⟨o,keep c o (I.Gk x c e) hc Di ho (I.dI x c e),hd⟩
 refine⟨I.ok,I.os,hg,⟨fun b o e n hb hx=>?_,fun b o e n hb hx=>?_,fun b o e n hx=>?_,fun b o e hx=>?_,fun b xs e=>jK b xs (I.base.jK b xs e),fun b o xs e=>jl b o xs (I.base.jl b o xs e),fun b ps e=>?_⟩,?_,fun x c e=>?_,?_,fun x c e=>?_,fun p hp=>?_,bf,I.len⟩
 ·exact keep b o (Gn b o e) hb (Gp b o e hx) (I.base.keep b o e n hb hx) (I.base.free b o e n hx)
 ·obtain ⟨sl,e1⟩:=I.base.slot b o e n hb hx
  obtain ⟨MG,e2⟩:=slot b _ (Gn b o e) hb (Gp b o e hx) e1 (I.base.free b o e n hx)
  exact⟨MG,e2⟩
 ·obtain ⟨o',e1⟩:=I.base.there b o e hx
  exact free b o' (Gp b o e hx) e1 (I.base.free b o e n hx)
 ·obtain ⟨o',e1⟩:=I.base.there b o e hx
  exact there b o' (Gp b o e hx) e1
 ·obtain ⟨m1,e1⟩:=I.base.jL b ps e
  obtain ⟨m2,e2⟩:=jL b _ e1
  exact⟨m1++m2,by rw [e2,Array.append_assoc]⟩
 ·obtain ⟨m,hn,hl⟩:=I.loc
  refine⟨m,ns m hn,fun i x v e1 e2 e3=>?_⟩
  obtain ⟨u,r,l⟩:=hl i x v e1 e2 e3
  refine⟨u,r,?_⟩
  rcases l with l|⟨k,c,e,z⟩
  ·exact .inl l
  ·exact .inr ⟨k,c,e,cellK x c e _ z⟩
 ·obtain ⟨v,z⟩:=I.cell x c e
  exact⟨v,cellK x c e v z⟩
 ·obtain ⟨m,⟨o,_,_,ho,_⟩,_⟩:=I.loc
  exact free _ o (fun z=>(xh _ z).2.1 rfl) ho I.free
 ·obtain ⟨v,o,ho,hd⟩:=I.cell x c e
  exact free c o (fun z=>(xh c z).2.2.1 x c e rfl) ho (I.dI x c e)
 ·obtain ⟨e,n,ne,nf,d⟩:=I.pin p hp
  have Di:p.1∉ch:=fun z=>(xh p.1 z).2.2.2 p hp rfl
  exact⟨keep p.1 p.2 ne nf Di e n,free p.1 p.2 Di e n,ne,nf,d⟩
theorem Inv.un{t':Nat}(I:Inv X pins σ H s)(u:Un X.fs [] H H' s.heap h')(bf:fP X.prog X.w H' h'):Inv X pins σ H' { s with heap:=h',toks:=t' }:=by
 obtain ⟨m,⟨o,es,ep,ho,r⟩,_⟩:=id I.loc
 obtain ⟨sl,hL⟩:=u.any ho I.free (by simp)
 exact I.step (g':=s.gens) (d':=s.drawn) (ch:=[]) (fun _ z=>nomatch z) (fun b o _ hb _ e n=>u.keep b o e n hb (by simp)) (fun b o _ hb _ e n=>u.slot b o e n hb (by simp)) (fun b o _ e n=>u.free b o e n (by simp)) (fun b o _ e=>u.there b o e (by simp)) u.jK u.jl u.jL (fun m' hm=>by
  obtain ⟨o',QX,QY,Gm,r'⟩:=hm
  rw [ho] at Gm;cases Gm
  exact⟨_,QX,QY,hL,r'⟩) bf I.bare
theorem Inv.call{g':Array GenState}{t':Nat}{d':Drawn}{ch:List Addr}(I:Inv X pins σ H s)(u:Un (ow X.stack) ch H H' s.heap h')(bf:fP X.prog X.w H' h')(hg:AllBare g')
  (xh:∀ b∈ch,(b∈X.ex\/X.s₀.heap.objs.size<=b)/\b≠X.env.locals/\(∀ x c,X.env.cells.lookup x=some c->c≠b)/\∀ p∈X.pn++pins,p.1≠b) :
  Inv X pins σ H' { s with heap:=h',gens:=g',drawn:=d',toks:=t' }:=by
 obtain ⟨m,⟨o,es,ep,ho,r⟩,_⟩:=id I.loc
 obtain ⟨sl,hL⟩:=u.any ho I.free fun z=>(xh _ z).2.1 rfl
 exact I.step (ch:=ch) xh (fun b o hL hb hc e n=>u.keep b o e n (fun z=>(ZL.mp (I.kL b z)).elim hL hb) hc) (fun b o _ _ hc e n=>u.any e n hc) (fun b o hc e n=>u.free b o e n hc) (fun b o hc e=>u.there b o e hc) u.jK u.jl u.jL (fun m' hm=>by
  obtain ⟨o',QX,QY,Gm,r'⟩:=hm
  rw [ho] at Gm;cases Gm
  exact⟨_,QX,QY,hL,r'⟩) bf hg
theorem Inv.turned{t':Nat}{it:Addr}(I:Inv X pins σ H s)(k:∀ b o,b≠it->s.heap.get? b=some o->h'.get? b=some o)(hn:H it=none)(hL:it≠X.env.locals)
  (h1:it∈X.ex\/X.s₀.heap.objs.size<=it) (h2:∀ x c,X.env.cells.lookup x=some c->c≠it) (h3:∀ p∈X.pn++pins,p.1≠it):Inv X pins σ H { s with heap:=h',toks:=t' }:=by
 have UO:∀ b u,H b=some u->b≠it:=fun b u e z=>by rw [z,hn] at e;cases e
 refine I.step (g':=s.gens) (d':=s.drawn) (ch:=[it]) (fun b hb=>?_) (fun b o _ _ hc e _=>k b o (fun z=>hc (by simp [z])) e) (fun b o _ _ hc e _=>⟨o.slots,k b o (fun z=>hc (by simp [z])) e⟩) (fun _ _ _ _ n=>n)
  (fun b o hc e=>⟨o,k b o (fun z=>hc (by simp [z])) e⟩) (fun _ _ e=>e) (fun _ _ _ e=>e) (fun b ps e=>⟨#[],by rw [e];simp⟩) (fun m hm=>?_) (fun b u e=>?_) I.bare
 ·have e:b=it:=by simpa using hb
  subst e
  exact⟨h1,hL,h2,h3⟩
 ·obtain ⟨o,es,ep,ho,r⟩:=hm
  exact⟨o,es,ep,k _ o (Ne.symm hL) ho,r⟩
 ·refine (I.bf b u e).kK (fun c v hc q=>k c v ?_ q) (fun _ q=>q) fun _ _ q=>q
  rcases hc with z|z
  ·rw [z];exact UO b u e
  ·exact UO c _ z
theorem Inv.tok(I:Inv X pins σ H s)(t:Nat):Inv X pins σ H { s with toks:=t }:=I.un (h':=s.heap) (t':=t) Un.refl I.bf
theorem Inv.kept{t':Nat}(I:Inv X pins σ H s)(k:∀ b u,s.heap.get? b=some u->h'.get? b=some u):Inv X pins σ H { s with heap:=h',toks:=t' }:=I.un (Un.kept k) (I.bf.kept k)
theorem Inv.laid{a:Addr}{o:HO}{t':Nat}(I:Inv X pins σ H s)(k:∀ b u,s.heap.get? b=some u->h'.get? b=some u)(hp:s.heap.objs.size<=a)(new:cq X.prog X.w (upd H a o) h' a o) :
  Inv X pins σ (upd H a o) { s with heap:=h',toks:=t' }:=I.un (Un.laid k hp (I.bf.fresh hp)) (I.bf.laid k hp new)
theorem Inv.write{x e:Addr}{o:HO}{t':Nat}(I:Inv X pins σ H s)(mu:Qf (H x))(he:e=x\/H e=some (.own x))(k:∀ b u,b≠e->s.heap.get? b=some u->h'.get? b=some u)(ME:∃ u,h'.get? e=some u)
  (new:cq X.prog X.w (upd H x o) h' x o):Inv X pins σ (upd H x o) { s with heap:=h',toks:=t' }:=I.un (Un.write mu he k ME) (I.bf.write mu he k ME new)
theorem Inv.n0{IX:List (Addr×Obj)}(I:Inv X pins σ H s)(h:∀ p∈IX,s.heap.get? p.1=some p.2/\H p.1=none/\p.1≠X.env.locals/\p.1∉X.fs/\∀ v,p.2.data≠.cell v):Inv X IX σ H s :=
 ⟨I.ok,I.os,I.bare,I.base,I.loc,I.cell,I.free,I.dI,fun p hp=>(ZG.mp hp).elim (fun z=>I.pin p (ZE _ z)) (h p),I.bf,I.len⟩
theorem xo{N:List Str}(hN:N.Nodup){i j:Nat}{x:Str}(a:N[i]?=some x)(b:N[j]?=some x):i=j:=by
 obtain ⟨h1,e1⟩:=Zi.mp a
 obtain ⟨h2,e2⟩:=Zi.mp b
 exact (List.getElem_inj hN).mp (e1.trans e2.symm)
theorem tK{M:Model}{A:Around}{E:Value->Shared->Prop}{i:Nat}{x:Str}{v:V}{u:Value}{Q:Unit->Shared->Prop}(I:Inv X pins σ H s)(hN:X.N.Nodup)(hi:X.N[i]?=some x)(hx:Loc X.env.scope x)(r:RelV v u)
  (h:∀ s',Inv X pins (σ.set i (some v)) H s'->(∃ a,Heap.SameBut a s.heap s'.heap/\(a=X.env.locals\/X.env.cells.lookup x=some a))->Q () s') (hf:X.fn x=true\/X.env.scope.names.lookup x=some .local:=by first|exact .inl rfl|exact .inr rfl|assumption):wpAny M A (storeName X.env x u) Q E s:=by
 obtain ⟨m,hn,hl⟩:=id I.loc
 have QZ:(X.env.scope.kind == .class || (X.env.scope.kind == .module && X.env.locals != X.env.globals))=false:=by rw [I.ok.kind];rfl
 have UP:i<σ.length:=by rw [I.len];exact (Zi.mp hi).1
 have Gk:=I.Gk
 have tracked:∀ {a:Addr} {h':Heap},(∃ o,s.heap.get? a=some o/\H a=none)->Heap.SameBut a s.heap h'->fP X.prog X.w H h':=fun {a h'} ha hs b ob e=>by
  obtain ⟨_,_,IY⟩:=ha
  refine (I.bf b ob e).kK (fun c w' hc q=>(hs.2 c ?_).trans q) (fun _ q=>q) fun _ _ q=>q
  rintro rfl
  rcases hc with rfl|hc
  ·rw [IY] at e;cases e
  ·rw [IY] at hc;cases hc
 rcases hx with hk|hk
 ·refine wpAny_storeName_local hk hn (fun h' Wo hs=>?_) QZ
  obtain ⟨oL,_,_,Wq,_⟩:=id hn
  refine h _ ⟨I.ok,I.os,I.bare,⟨fun b o e n hb hx=>?_,fun b o e n hb hx=>?_,I.base.free,fun b o e hx=>?_,I.base.jK,I.base.jl,I.base.jL⟩,⟨_,Wo,fun j y v' e1 e2 e3=>?_⟩,fun y c e=>?_,I.free,I.dI,fun p hp=>?_,tracked ⟨oL,Wq,I.free⟩ hs,by simpa using I.len⟩ ⟨_,hs,.inl rfl⟩
  ·exact (hs.2 b (Z0 (Nat.lt_of_lt_of_le (Zj e) I.ok.above))).trans (I.base.keep b o e n hb hx)
  ·obtain ⟨sl,e1⟩:=I.base.slot b o e n hb hx
   exact⟨sl,(hs.2 b (Z0 (Nat.lt_of_lt_of_le (Zj e) I.ok.above))).trans e1⟩
  ·obtain ⟨o',e1⟩:=I.base.there b o e hx
   exact⟨o',(hs.2 b (Z0 (Nat.lt_of_lt_of_le (Zj e) I.ok.above))).trans e1⟩
  ·by_cases hj:j=i
   ·subst hj
    rw [hi] at e1;cases e1
    rw [List.getElem?_set_self UP] at e2
    cases e2
    exact⟨u,r,.inl ⟨hk,by simp⟩⟩
   ·rw [List.getElem?_set_ne (Ne.symm hj)] at e2
    obtain ⟨u',r',q⟩:=hl j y v' e1 e2 e3
    refine⟨u',r',?_⟩
    rcases q with ⟨k,e⟩|⟨k,c,e,z⟩
    ·refine .inl ⟨k,?_⟩
     have:y≠x:=fun e=>hj (xo hN e1 (e ▸ hi))
     simp [this,e]
    ·exact .inr ⟨k,c,e,z.sameBut hs (Gk y c e)⟩
  ·obtain ⟨w',z⟩:=I.cell y c e
   exact⟨w',z.sameBut hs (Gk y c e)⟩
  ·obtain ⟨e,n,ne,nf,d⟩:=I.pin p hp
   exact⟨(hs.2 p.1 ne).trans e,n,ne,nf,d⟩
 ·have Q0:X.fn x=true:=by
   rcases hf with z|z
   ·exact z
   ·rw [z] at hk;cases hk
  obtain ⟨c,hc⟩:=I.ok.has x (.inl hk)
  obtain ⟨w',z⟩:=I.cell x c hc
  refine wpAny_storeName_cell I.ok.kind hk hc z (fun h' IZ hs=>?_)
  obtain ⟨oc,UQ,Q1⟩:=id z
  refine h { s with heap:=h' } ⟨I.ok,I.os,I.bare,⟨fun b o e n hb hx=>?_,fun b o e n hb hx=>?_,I.base.free,fun b o e hx=>?_,I.base.jK,I.base.jl,I.base.jL⟩,⟨m,hn.sameBut hs (Ne.symm (Gk x c hc)),fun j y v' e1 e2 e3=>?_⟩,fun y c' e=>?_,I.free,I.dI,fun p hp=>?_,tracked ⟨oc,UQ,I.dI x c hc⟩ hs,by simpa using I.len⟩ ⟨c,hs,.inr hc⟩
  ·exact (hs.2 b (Z0 (Nat.lt_of_lt_of_le (Zj e) (I.ok.Kf x c Q0 hc)))).trans (I.base.keep b o e n hb hx)
  ·obtain ⟨sl,e1⟩:=I.base.slot b o e n hb hx
   exact⟨sl,(hs.2 b (Z0 (Nat.lt_of_lt_of_le (Zj e) (I.ok.Kf x c Q0 hc)))).trans e1⟩
  ·obtain ⟨o',e1⟩:=I.base.there b o e hx
   exact⟨o',(hs.2 b (Z0 (Nat.lt_of_lt_of_le (Zj e) (I.ok.Kf x c Q0 hc)))).trans e1⟩
  ·by_cases hj:j=i
   ·subst hj
    rw [hi] at e1;cases e1
    rw [List.getElem?_set_self UP] at e2
    cases e2
    exact⟨u,r,.inr ⟨.inl hk,c,hc,IZ⟩⟩
   ·rw [List.getElem?_set_ne (Ne.symm hj)] at e2
    obtain ⟨u',r',q⟩:=hl j y v' e1 e2 e3
    refine⟨u',r',?_⟩
    rcases q with q|⟨k,c',e,z'⟩
    ·exact .inl q
    ·refine .inr ⟨k,c',e,z'.sameBut hs ?_⟩
     rintro rfl
     exact hj (xo hN e1 (I.ok.inj _ _ _ e hc ▸ hi))
  ·by_cases UR:c'=c
   ·subst UR;exact⟨_,IZ⟩
   ·obtain ⟨w2,z2⟩:=I.cell y c' e
    exact⟨w2,z2.sameBut hs UR⟩
  ·obtain ⟨e,n,ne,nf,d⟩:=I.pin p hp
   refine⟨(hs.2 p.1 ?_).trans e,n,ne,nf,d⟩
   intro q
   rw [q,UQ] at e
   have q':oc=p.2:=Zr e
   exact d w' (by rw [<- q'];exact Q1)
theorem jO{M:Model}{A:Around}{E:Value->Shared->Prop}{i:Nat}{x:Str}{v:V}{u:Value}{Q:Unit->Shared->Prop}(I:Inv X pins σ H s)(hN:X.N.Nodup)(hi:X.N[i]?=some x)(hx:Loc X.env.scope x)(r:RelV v u)
  (h:∀ s',Inv X pins (σ.set i (some v)) H s'->Q () s') (hf:X.fn x=true\/X.env.scope.names.lookup x=some .local:=by first|exact .inl rfl|exact .inr rfl|assumption):wpAny M A (storeName X.env x u) Q E s :=
 tK I hN hi hx r (fun s' I' _=>h s' I') hf
theorem Inv.Dj{s':Shared}{ch:List Addr}(I:Inv X pins σ H s)(ho:s'.os=s.os)(u:Un (ow X.stack) ch H H' s.heap s'.heap)(bf:fP X.prog X.w H' s'.heap)(hg:AllBare s'.gens)
  (xh:∀ b∈ch,(b∈X.ex\/X.s₀.heap.objs.size<=b)/\b≠X.env.locals/\(∀ x c,X.env.cells.lookup x=some c->c≠b)/\∀ p∈X.pn++pins,p.1≠b):Inv X pins σ H' s':=by
 obtain ⟨h',g',d',t',o'⟩:=s'
 have e:o'=s.os:=ho
 subst e
 exact I.call (g':=g') (t':=t') (d':=d') u bf hg xh
end
abbrev XK:=Value->Option Addr->Hp->Prop
abbrev St:=List (Option V)
abbrev VK:=V->Hp->Prop
abbrev TE:=St->Hp->VK->Prop
abbrev TT:=St->Hp->(Bool->Hp->Prop)->Prop
abbrev TA:=St->Hp->(List V->Hp->Prop)->Prop
structure Ends where
 nx:St->Hp->Prop
 rt:VK
 bk:St->Hp->Prop:=fun _ _=>False
 ct:St->Hp->Prop:=fun _ _=>False
abbrev TS:=Ends->St->Hp->Prop
def EP(X:Cx)(pins:List (Addr×Obj))(σ:St)(Q:VK)(u:Value)(s':Shared):Prop:=∃ v H',Inv X pins σ H' s'/\RelV v u/\Q v H'
def TP(X:Cx)(pins:List (Addr×Obj))(σ:St)(Q:Bool->Hp->Prop)(b:Bool)(s':Shared):Prop:=∃ H',Inv X pins σ H' s'/\Q b H'
def AP(X:Cx)(pins:List (Addr×Obj))(σ:St)(Q:List V->Hp->Prop)(us:List Value)(s':Shared):Prop:=∃ vs H',Inv X pins σ H' s'/\Vals vs us/\Q vs H'
def SP(X:Cx)(pins:List (Addr×Obj))(D:Ends)(f:Flow)(s':Shared):Prop :=
 match f with
 | .next=>∃ σ' H',Inv X pins σ' H' s'/\D.nx σ' H'
 | .brk=>∃ σ' H',Inv X pins σ' H' s'/\D.bk σ' H'
 | .cont=>∃ σ' H',Inv X pins σ' H' s'/\D.ct σ' H'
 | .ret u=>∃ v σ' H',Inv X pins σ' H' s'/\RelV v u/\D.rt v H'
def PE(X:Cx)(e:Expr)(t:TE):Prop :=
 ∀ (pins:List (Addr×Obj)) (s:Shared) (σ:St) (H:Hp) (Q:VK),Inv X pins σ H s->t σ H Q->wpAny (model X.prog X.w) X.A (eval e X.env) (EP X pins σ Q) X.xe s
def PT(X:Cx)(e:Expr)(t:TT):Prop :=
 ∀ (pins:List (Addr×Obj)) (s:Shared) (σ:St) (H:Hp) (Q:Bool->Hp->Prop),Inv X pins σ H s->t σ H Q->wpAny (model X.prog X.w) X.A (isTrue e X.env (eval e X.env)) (TP X pins σ Q) X.xe s
def PW(X:Cx)(e:Expr)(t:TT):Prop :=
 ∀ (whole:Sem Value) (pins:List (Addr×Obj)) (s:Shared) (σ:St) (H:Hp) (Q:Bool->Hp->Prop),Inv X pins σ H s->t σ H Q->wpAny (model X.prog X.w) X.A (isTrue e X.env whole) (TP X pins σ Q) X.xe s
theorem PW.pt{X:Cx}{e:Expr}{t:TT}(h:PW X e t):PT X e t:=h _
def PA(X:Cx)(es:List Expr)(t:TA):Prop :=
 ∀ (pos:Pos) (pins:List (Addr×Obj)) (s:Shared) (σ:St) (H:Hp) (Q:List V->Hp->Prop),Inv X pins σ H s->t σ H Q->wpAny (model X.prog X.w) X.A (spliced (backTo pos (starEach es X.env))) (AP X pins σ Q) X.xe s
def PS(X:Cx)(st:Stmt)(t:TS):Prop :=
 ∀ (pins:List (Addr×Obj)) (s:Shared) (σ:St) (H:Hp) (D:Ends),Inv X pins σ H s->t D σ H->wpAny (model X.prog X.w) X.A (exec st X.env) (SP X pins D) X.xe s
def tL(X:Cx)(st:List Stmt)(t:TS):Prop :=
 ∀ (pins:List (Addr×Obj)) (s:Shared) (σ:St) (H:Hp) (D:Ends),Inv X pins σ H s->t D σ H->wpAny (model X.prog X.w) X.A (execs st X.env) (SP X pins D) X.xe s
theorem cb{α:Type}{t:Sem α}{Q Q':α->Shared->Prop}{M:Model}{A:Around}{E:Value->Shared->Prop}{s:Shared}(h:wpAny M A t Q E s)(hQ:∀ a s,Q a s->Q' a s):wpAny M A t Q' E s:=Zz h hQ fun _ _ x=>x
section
variable {X:Cx}
def Dk(i:Nat):TE:=fun σ H Q=>∃ v,σ[i]?=some (some v)/\Q v H
def tC(v:V):TE:=fun _ H Q=>Q v H
theorem Kg {i:Nat} {x:Str} {pos:Pos} (hN:X.N[i]?=some x) (hv:Nj X.env.scope x) (hd:(x == ("__debug__":Str))=false:=by decide) (ze:(x == ("__classdict__":Str))=false:=by decide):PE X (.Name x pos) (Dk i):=by
 intro pins s σ H Q I h
 obtain ⟨v,e,h⟩:=h
 obtain ⟨m,hn,hl⟩:=I.loc
 obtain ⟨u,r,l⟩:=hl i x v hN e hv
 have fin:EP X pins σ Q u s:=⟨v,H,I,r,h⟩
 rcases l with ⟨hk,hm⟩|⟨hk,c,hc,mY⟩
 ·exact wpAny_Name (wpAny_loadName_local I.ok.kind hk hn hm fin) hd
 ·rcases hk with hk|hk
  ·exact wpAny_Name (wpAny_loadName_cell I.ok.kind hk hc mY fin) hd
  ·exact wpAny_Name (wpAny_loadName_free I.ok.kind hk hc mY fin ze) hd
theorem ae{i j pos}:PE X (.Constant (.int i) j pos) (tC (.int i)):=fun _ _ _ H _ I h=>wpAny_Constant_int ⟨.int i,H,I.tok _,⟨_,rfl⟩,h⟩
theorem gu{b j pos}:PE X (.Constant (.bool b) j pos) (tC (.bl b)):=fun _ _ _ H _ I h=>Constant_bool ⟨.bl b,H,I,rfl,h⟩
theorem fR{j pos}:PE X (.Constant .none j pos) (tC .dj):=fun _ _ _ H _ I h=>Constant_none ⟨.dj,H,I,rfl,h⟩
theorem aN{x j pos}:PE X (.Constant (.str x) j pos) (tC (.str x)):=fun _ _ _ H _ I h=>Calls.Constant_str ⟨.str x,H,I.tok _,⟨_,rfl⟩,h⟩
def Gl(X:Cx)(x:Str):Prop:=X.env.kindOf x=some .globalImplicit
theorem n6{E:Value->Shared->Prop}{pins:List (Addr×Obj)}{s:Shared}{σ:St}{H:Hp}{x:Str}{u:Value}{pos:Pos}{Q:Value->Shared->Prop}(I:Inv X pins σ H s)(hg:Gl X x)(hm:X.mg x=some u)(h:Q u s)
  (hd:(x == ("__debug__":Str))=false:=by decide):wpAny (model X.prog X.w) X.A (eval (.Name x pos) X.env) Q E s :=
 Calls.Name_function_global I.ok.kind hg (Calls.loadGlobal_global (by rw [I.ok.glob];exact I.mod.glob.keeps I.bk) hm h) hd
theorem jm{E:Value->Shared->Prop}{pins:List (Addr×Obj)}{s:Shared}{σ:St}{H:Hp}{x:Str}{u:Value}{pos:Pos}{Q:Value->Shared->Prop}(I:Inv X pins σ H s)(hg:Gl X x)(hm:X.mg x=none)(hv:bootBuiltins x=some u)(h:Q u s)
  (hn:x≠"__name__":=by decide) (hd:(x == ("__debug__":Str))=false:=by decide):wpAny (model X.prog X.w) X.A (eval (.Name x pos) X.env) Q E s:=by
 obtain ⟨mb,h1,h2⟩:=I.mod.blt
 exact Calls.Name_function_global I.ok.kind hg (Calls.loadGlobal_builtin (by rw [I.ok.glob];exact I.mod.glob.keeps I.bk) hm (by rw [I.ok.blt];exact h1.keeps I.bk) ((h2 x hn).trans hv) h) hd
theorem bo {x:Str} {v:V} {u:Value} {pos:Pos} (hg:Gl X x) (hm:X.mg x=some u) (r:RelV v u) (hd:(x == ("__debug__":Str))=false:=by decide):PE X (.Name x pos) (tC v) :=
 fun _ _ _ H _ I h=>n6 I hg hm ⟨v,H,I,r,h⟩ hd
theorem cJ {x:Str} {v:V} {u:Value} {pos:Pos} (hg:Gl X x) (hm:X.mg x=none) (hv:bootBuiltins x=some u) (r:RelV v u) (hn:x≠"__name__":=by decide) (hd:(x == ("__debug__":Str))=false:=by decide):PE X (.Name x pos) (tC v) :=
 fun _ _ _ H _ I h=>jm I hg hm hv ⟨v,H,I,r,h⟩ hn hd
variable {a b:Expr}{ta tb:TE}{pos:Pos}
def tB(t:TE):TT:=fun σ H Q=>t σ H fun x H1=>∃ c,x=.bl c/\Q c H1
theorem cv{e:Expr}{t:TE}(h:PE X e t)(he:∀ whole,isTrue e X.env whole=(do let v <- whole;standAt e.pos;holding [v] (truthy v)):=by intro _;rfl):PT X e (tB t):=by
 intro pins s σ H Q I hw
 refine isTrue_plain (cb (h pins s σ H _ I hw) fun v s1 ⟨x,H1,I1,r1,q1⟩=>?_) (he _)
 obtain ⟨d,rfl,q⟩:=q1
 cases r1
 exact wpAny_truthy_bool ⟨H1,I1,q⟩
variable {tA Qi:TT}{rest:List Expr}
def Nl(t u:TT):TT:=fun σ H Q=>t σ H fun c H1=>if c=true then u σ H1 Q else Q false H1
def US(t u:TT):TT:=fun σ H Q=>t σ H fun c H1=>if c=true then Q true H1 else u σ H1 Q
def Nm(t:TT):TT:=fun σ H Q=>t σ H fun c H1=>Q (!c) H1
theorem uv(ha:PT X a tA):PW X (.BoolOp .And [a] pos) tA:=by
 intro wh pins s σ H Q I h
 refine isTrue_and (cb (ha pins s σ H Q I h) fun c s1 e=>?_)
 cases c with
 | true=>exact isTrue_and_nil e
 | false=>exact e
theorem kM(ha:PT X a tA):PW X (.BoolOp .Or [a] pos) tA:=by
 intro wh pins s σ H Q I h
 refine isTrue_or (cb (ha pins s σ H Q I h) fun c s1 e=>?_)
 cases c with
 | false=>exact isTrue_or_nil e
 | true=>exact e
theorem zf(ha:PT X a tA)(hb:PW X (.BoolOp .And (b::rest) pos) Qi):PW X (.BoolOp .And (a::b::rest) pos) (Nl tA Qi):=by
 intro wh pins s σ H Q I h
 refine isTrue_and (cb (ha pins s σ H _ I h) fun c s1 ⟨H1,I1,q1⟩=>?_)
 cases c with
 | true=>exact hb wh pins s1 σ H1 Q I1 q1
 | false=>exact⟨H1,I1,q1⟩
theorem tM(ha:PT X a tA)(hb:PW X (.BoolOp .Or (b::rest) pos) Qi):PW X (.BoolOp .Or (a::b::rest) pos) (US tA Qi):=by
 intro wh pins s σ H Q I h
 refine isTrue_or (cb (ha pins s σ H _ I h) fun c s1 ⟨H1,I1,q1⟩=>?_)
 cases c with
 | true=>exact⟨H1,I1,q1⟩
 | false=>exact hb wh pins s1 σ H1 Q I1 q1
theorem dE(ha:PT X a tA):PT X (.UnaryOp .Not a pos) (Nm tA):=by
 intro pins s σ H Q I h
 exact isTrue_not (ha pins s σ H (fun c H1=>Q (!c) H1) I h)
def Ja(ta tb:TE):TE:=fun σ H Q=>ta σ H fun x H1=>∃ c,x=.bl c/\if c=true then tb σ H1 Q else Q (.bl false) H1
def Nn(ta tb:TE):TE:=fun σ H Q=>ta σ H fun x H1=>∃ c,x=.bl c/\if c=true then Q (.bl true) H1 else tb σ H1 Q
def Jb(ta:TE):TE:=fun σ H Q=>ta σ H fun x H1=>∃ c,x=.bl c/\Q (.bl (!c)) H1
theorem kN{op}{t:TE}(h:PE X a t):PE X (.BoolOp op [a] pos) t:=fun pins s σ H Q I hw=>BoolOp_one (h pins s σ H Q I hw)
theorem kO(ha:PE X a ta)(hb:PE X (.BoolOp .And (b::rest) pos) tb):PE X (.BoolOp .And (a::b::rest) pos) (Ja ta tb):=by
 intro pins s σ H Q I h
 refine BoolOp_and (cb (ha pins s σ H _ I h) fun v s1 ⟨x,H1,I1,r1,q1⟩=>?_)
 obtain ⟨c,rfl,q1⟩:=q1
 cases r1
 refine wpAny_truthy_bool ?_
 cases c with
 | true=>exact hb pins s1 σ H1 Q I1 q1
 | false=>exact⟨.bl false,H1,I1,rfl,q1⟩
theorem Np(ha:PE X a ta)(hb:PE X (.BoolOp .Or (b::rest) pos) tb):PE X (.BoolOp .Or (a::b::rest) pos) (Nn ta tb):=by
 intro pins s σ H Q I h
 refine BoolOp_or (cb (ha pins s σ H _ I h) fun v s1 ⟨x,H1,I1,r1,q1⟩=>?_)
 obtain ⟨c,rfl,q1⟩:=q1
 cases r1
 refine wpAny_truthy_bool ?_
 cases c with
 | false=>exact hb pins s1 σ H1 Q I1 q1
 | true=>exact⟨.bl true,H1,I1,rfl,q1⟩
theorem Dl(ha:PE X a ta):PE X (.UnaryOp .Not a pos) (Jb ta):=by
 intro pins s σ H Q I h
 refine UnaryOp_ (cb (ha pins s σ H _ I h) fun v s1 ⟨x,H1,I1,r1,q1⟩=>?_)
 obtain ⟨c,rfl,q1⟩:=q1
 cases r1
 exact not_of (wpAny_truthy_bool ⟨.bl (!c),H1,I1,rfl,q1⟩)
def UT(t:TT)(ta tb:TE):TE:=fun σ H Q=>t σ H fun c H1=>if c=true then ta σ H1 Q else tb σ H1 Q
theorem jP{c:Expr}(hc:PT X c tA)(ha:PE X a ta)(hb:PE X b tb):PE X (.IfExp c a b pos) (UT tA ta tb):=by
 intro pins s σ H Q I h
 refine wpAny_IfExp (cb (hc pins s σ H _ I h) fun d s1 ⟨H1,I1,q1⟩=>?_)
 cases d with
 | true=>exact ha pins s1 σ H1 Q I1 q1
 | false=>exact hb pins s1 σ H1 Q I1 q1
end
def bj(K:Frag)(H:Hp)(a:Addr)(xs:List V):Prop :=
 Rd H a (.lst xs) \/
  ∃ (o:Obj) (its:Array Value) (n:Nat),K.lookup a=some o/\o.cls=.type "list"/\o.dict=none/\o.data=.seq its n/\its.size<=sizeLine/\Vals xs its.toList
def aL(K:Frag)(H:Hp)(a:Addr)(xs:List V):Prop :=
 Rd H a (.tup xs) \/
  ∃ (o:Obj) (its:Array Value) (n:Nat),K.lookup a=some o/\o.cls=.type "tuple"/\o.data=.seq its n/\its.size<=sizeLine/\Vals xs its.toList
def Q2:Value->Option V
 | .none=>some .dj
 | .bool b=>some (.bl b)
 | .int i _=>some (.int i)
 | .str x _=>some (.str x)
 | .bytes b _=>some (.Dg b)
 | .float b _=>some (.MC b)
 | .ref a=>some (.ref a)
 | .type n=>some (.ty n)
 | _=>none
theorem RelV.abs{x:V}{u:Value}(r:RelV x u):Q2 u=some x:=by
 cases x with
 | dj=>cases r;rfl
 | bl _=>cases r;rfl
 | int _=>obtain ⟨t,rfl⟩:=r;rfl
 | str _=>obtain ⟨t,rfl⟩:=r;rfl
 | Dg _=>obtain ⟨t,rfl⟩:=r;rfl
 | MC _=>obtain ⟨t,rfl⟩:=r;rfl
 | ref _=>cases r;rfl
 | ty _=>cases r;rfl
theorem RelV.inj{x y:V}{u:Value}(r:RelV x u)(q:RelV y u):x=y:=Zr (r.abs.symm.trans q.abs)
theorem Vals.inj:∀ {xs ys:List V} {us:List Value},Vals xs us->Vals ys us->xs=ys
 | _,_,_,.nil,.nil=>rfl
 | _,_,_,.cons r t,.cons r' t'=>by rw [r.inj r',Vals.inj t t']
section
variable {X:Cx}{pins:List (Addr×Obj)}{σ:St}{H:Hp}{s:Shared}{a:Addr}{xs ys:List V}
theorem bj.of{K:Frag}(h:H a=some (.lst xs)):bj K H a xs:=.inl (.inl h)
theorem aL.of{K:Frag}(h:H a=some (.tup xs)):aL K H a xs:=.inl (.inl h)
theorem Inv.list(I:Inv X pins σ H s)(h:bj X.K H a xs):∃ its:List Value,Vals xs its/\PlainL s.heap a its.toArray/\xs.length<=sizeLine:=by
 rcases h with h|⟨o,its,n,hk,hc,hd,hs,hz,r⟩
 ·obtain ⟨z,its,n,r,e⟩:=h.ok I.bf
  exact⟨its,r,⟨_,n,e,rfl,rfl,rfl⟩,z⟩
 ·refine⟨its.toList,r,⟨o,n,I.nZ a o hk,hc,hd,by simpa using hs⟩,?_⟩
  have e:=r.length
  simp only [Array.length_toList] at e
  lia
theorem Inv.tuple(I:Inv X pins σ H s)(h:aL X.K H a xs):∃ its:List Value,Vals xs its/\IsTup s.heap a its.toArray/\xs.length<=sizeLine:=by
 rcases h with h|⟨o,its,n,hk,hc,hs,hz,r⟩
 ·obtain ⟨z,its,r,p⟩:=h.ok I.bf
  exact⟨its,r,p,z⟩
 ·refine⟨its.toList,r,⟨o,I.nZ a o hk,hc,n,by simpa using hs⟩,?_⟩
  have e:=r.length
  simp only [Array.length_toList] at e
  lia
theorem Inv.xp(I:Inv X pins σ H s)(h:bj X.K H a xs)(h':bj X.K H a ys):xs=ys:=by
 obtain ⟨its,r,⟨o,n,e,_,_,d⟩,_⟩:=I.list h
 obtain ⟨its',r',⟨o',n',e',_,_,d'⟩,_⟩:=I.list h'
 rw [e] at e';cases e'
 rw [d] at d'
 injection d' with d1 _
 have:its=its':=by simpa using congrArg Array.toList d1
 subst this
 exact r.inj r'
theorem Inv.tN(I:Inv X pins σ H s)(h:aL X.K H a xs)(h':aL X.K H a ys):xs=ys:=by
 obtain ⟨its,r,⟨o,e,_,n,d⟩,_⟩:=I.tuple h
 obtain ⟨its',r',⟨o',e',_,n',d'⟩,_⟩:=I.tuple h'
 rw [e] at e';cases e'
 rw [d] at d'
 injection d' with d1 _
 have:its=its':=by simpa using congrArg Array.toList d1
 subst this
 exact r.inj r'
end
abbrev Cx.fS(X:Cx)(E:Value->Shared->Prop):Cx:={ X with xe:=E }
abbrev Cx.Gq(X:Cx):Cx:=X.fS fun _ _=>False
theorem Cx.Ok.fS{X:Cx}(ok:X.Ok)(E:Value->Shared->Prop):(X.fS E).Ok :=
 ⟨ok.mod,ok.kind,ok.glob,ok.blt,ok.above,ok.inj,ok.has,ok.Kf,ok.hd,ok.frames,ok.MF,ok.Qh,ok.bs,ok.C8,ok.xn,ok.BE,ok.jM,ok.IW⟩
theorem Cx.Ok.dk{X:Cx}{E:Value->Shared->Prop}(ok:(X.fS E).Ok):X.Ok :=
 ⟨ok.mod,ok.kind,ok.glob,ok.blt,ok.above,ok.inj,ok.has,ok.Kf,ok.hd,ok.frames,ok.MF,ok.Qh,ok.bs,ok.C8,ok.xn,ok.BE,ok.jM,ok.IW⟩
section
variable {X:Cx}{pins:List (Addr×Obj)}{σ:St}{H:Hp}{s:Shared}{E:Value->Shared->Prop}
theorem Inv.fS(I:Inv X pins σ H s)(E:Value->Shared->Prop):Inv (X.fS E) pins σ H s:=⟨I.ok.fS E,I.os,I.bare,I.base,I.loc,I.cell,I.free,I.dI,I.pin,I.bf,I.len⟩
theorem Inv.dk(I:Inv (X.fS E) pins σ H s):Inv X pins σ H s:=⟨I.ok.dk,I.os,I.bare,I.base,I.loc,I.cell,I.free,I.dI,I.pin,I.bf,I.len⟩
theorem SP.dk{D:Ends}{f:Flow}{s':Shared}(h:SP (X.fS E) pins D f s'):SP X pins D f s':=by
 cases f with
 | next=>obtain ⟨σ',H',I,q⟩:=h;exact⟨σ',H',I.dk,q⟩
 | brk=>obtain ⟨σ',H',I,q⟩:=h;exact⟨σ',H',I.dk,q⟩
 | cont=>obtain ⟨σ',H',I,q⟩:=h;exact⟨σ',H',I.dk,q⟩
 | ret u=>obtain ⟨v,σ',H',I,r,q⟩:=h;exact⟨v,σ',H',I.dk,r,q⟩
theorem tL.Gq{st:List Stmt}{t:TS}(h:tL X.Gq st t):tL X st t:=fun pins s σ H D I hw =>
 Zz (h pins s σ H D (I.fS _) hw) (fun _ _ q=>q.dk) fun _ _ z=>False.elim z
end
section
variable {X:Cx}{st:Stmt}{rest:List Stmt}{t u:TS}{e:Expr}{te:TE}{pos:Pos}
def Jc:TS:=fun D σ H=>D.nx σ H
def Nq(t u:TS):TS:=fun D σ H=>t { D with nx:=u D } σ H
theorem aP:tL X [] Jc:=fun _ _ σ H _ I h=>wpAny_execs_nil ⟨σ,H,I,h⟩
theorem ag(h1:PS X st t)(h2:tL X rest u):tL X (st::rest) (Nq t u):=by
 intro pins s σ H D I h
 refine wpAny_execs_cons (cb (h1 pins s σ H { D with nx:=u D } I h) fun f s1 q=>?_)
 cases f with
 | next =>
  obtain ⟨σ',H',I',q⟩:=q
  exact h2 pins s1 σ' H' D I' q
 | ret v=>exact q
 | brk=>exact q
 | cont=>exact q
theorem ak(h1:PS X st t):tL X [st] t:=by
 intro pins s σ H D I h
 refine wpAny_execs_cons (cb (h1 pins s σ H D I h) fun f s1 q=>?_)
 cases f with
 | next=>exact wpAny_execs_nil q
 | ret v=>exact q
 | brk=>exact q
 | cont=>exact q
theorem Inv.quiet{pins:List (Addr×Obj)}{σ:St}{H:Hp}{s:Shared}(I:Inv X pins σ H s):interactive X.env=false:=by simp [interactive,I.ok.kind]
def Jd(te:TE):TS:=fun D σ H=>te σ H fun _ H1=>D.nx σ H1
theorem dy(he:PE X e te)(hs:swapsWith e none pos.line X.env=pure false:=by rfl):PS X (.Expr e pos) (Jd te):=by
 intro pins s σ H D I h
 exact wpAny_Expr_any (cb (he pins s σ H _ I h) fun v s1 ⟨x,H1,I1,r1,q1⟩=>⟨σ,H1,I1,q1⟩) I.quiet hs
def Kh(te:TE):TS:=fun D σ H=>te σ H D.rt
theorem aC(he:PE X e te):PS X (.Return (some e) pos) (Kh te):=by
 intro pins s σ H D I h
 exact wpAny_Return_some (cb (he pins s σ H _ I h) fun v s1 ⟨x,H1,I1,r1,q1⟩=>⟨x,σ,H1,I1,r1,q1⟩)
def Nr(c:TT)(t u:TS):TS:=fun D σ H=>c σ H fun b H1=>if b=true then t D σ H1 else u D σ H1
theorem bJ{c:Expr}{a b:List Stmt}{tc:TT}(hc:PT X c tc)(ha:tL X a t)(hb:tL X b u):PS X (.If c a b pos) (Nr tc t u):=by
 intro pins s σ H D I h
 refine wpAny_If (cb (hc pins s σ H _ I h) fun d s1 ⟨H1,I1,q1⟩=>?_)
 cases d with
 | true=>exact ha pins s1 σ H1 D I1 q1
 | false=>exact hb pins s1 σ H1 D I1 q1
def Ki:TS:=fun _ _ _=>False
theorem jQ:PS X st Ki:=fun _ _ _ _ _ _ h=>h.elim
end
abbrev TG:=V->St->Hp->(St->Hp->Prop)->Prop
abbrev Je:=List V->St->Hp->(St->Hp->Prop)->Prop
def PG(X:Cx)(target:Expr)(t:TG):Prop :=
 ∀ (pins:List (Addr×Obj)) (s:Shared) (σ:St) (H:Hp) (v:V) (u:Value) (Q:St->Hp->Prop),Inv X pins σ H s->RelV v u->t v σ H Q ->
  wpAny (model X.prog X.w) X.A (assign target X.env u) (fun _ s'=>∃ σ' H',Inv X pins σ' H' s'/\Q σ' H') X.xe s
def Nu(X:Cx)(ts:List Expr)(t:Je):Prop :=
 ∀ (pins:List (Addr×Obj)) (s:Shared) (σ:St) (H:Hp) (vs:List V) (us:List Value) (Q:St->Hp->Prop),Inv X pins σ H s->Vals vs us->t vs σ H Q ->
  wpAny (model X.prog X.w) X.A (assignInOrder ((assignEach ts X.env).map (·.2)) us) (fun _ s'=>∃ σ' H',Inv X pins σ' H' s'/\Q σ' H') X.xe s
section
variable {X:Cx}{pos:Pos}
def br(i:Nat):TG:=fun v σ H Q=>Q (σ.set i (some v)) H
theorem av{i:Nat}{x:Str}(hN:X.N.Nodup)(hi:X.N[i]?=some x)(hx:Loc X.env.scope x)(hf:X.fn x=true\/X.env.scope.names.lookup x=some .local:=by first|exact .inl rfl|exact .inr rfl|assumption):PG X (.Name x pos) (br i):=by
 intro pins s σ H v u Q I r h
 exact wpAny_assign_Name (jO I hN hi hx r (fun s' I'=>⟨_,H,I',h⟩) hf)
def qq:Je:=fun vs σ H Q=>vs=[]/\Q σ H
def cw(t:TG)(u:Je):Je:=fun vs σ H Q=>∃ v r,vs=v::r/\t v σ H fun σ' H'=>u r σ' H' Q
theorem bX:Nu X [] qq:=by
 intro pins s σ H vs us Q I r h
 obtain ⟨e,h⟩:=h
 subst e
 cases r
 exact assignInOrder_nil ⟨σ,H,I,h⟩
theorem aE{e:Expr}{es:List Expr}{t:TG}{u:Je}(h1:PG X e t)(h2:Nu X es u)
  (hs:(assignEach (e::es) X.env).map (·.2)=assign e X.env::(assignEach es X.env).map (·.2):=by rfl):Nu X (e::es) (cw t u):=by
 intro pins s σ H vs us Q I r h
 obtain ⟨v,vr,e1,h⟩:=h
 subst e1
 cases r with
 | cons r rr =>
  rw [hs]
  refine assignInOrder_cons (cb (h1 pins s σ H _ _ _ I r h) fun _ s1 ⟨σ1,H1,I1,q1⟩=>?_)
  exact h2 pins s1 σ1 H1 _ _ Q I1 rr q1
def ox(K:Frag)(n:Nat)(t:Je):TG:=fun v σ H Q=>∃ a xs,v=.ref a/\aL K H a xs/\xs.length=n/\t xs σ H Q
theorem Kj{es:List Expr}{k:Nat}{t:Je}{n:Nat}(hc:X.calm=true)(h:Nu X es t)
  (hn:(assignEach es X.env).length=n:=by rfl) (Jf:(assignEach es X.env).findIdx? (·.1)=none:=by rfl):PG X (.Tuple es k pos) (ox X.K n t):=by
 intro pins s σ H v u Q I r hw
 obtain ⟨a,xs,e1,hq,hl,hw⟩:=hw
 subst e1
 cases r
 obtain ⟨its,rv,ht,hz⟩:=I.tuple hq
 refine assign_Tuple_tuple (I.ok.hd hc) ht (by simp [hn,<- hl,rv.length]) Jf fun h' hx=>?_
 have I1:Inv X pins σ H { s with heap:=h' }:=I.kept (t':=s.toks) fun b o e=>hx b o (Z0 (Zj e)) e
 exact h pins _ σ H xs _ Q I1 (by simpa using rv) hw
def Gr(te:TE)(g:TG):TS:=fun D σ H=>te σ H fun x H1=>g x σ H1 D.nx
theorem uw{tg e:Expr}{te:TE}{g:TG}(he:PE X e te)(hg:PG X tg g)(hs:swapsWithSole [tg] e pos.line X.env=pure false:=by rfl)(hw:swappedStores [tg] e X.env=pure none:=by rfl)
  (h1:(assignEach [tg] X.env).map (·.2)=[assign tg X.env]:=by rfl):PS X (.Assign [tg] e pos) (Gr te g):=by
 intro pins s σ H D I h
 refine wpAny_Assign_stores (cb (he pins s σ H _ I h) fun v s1 ⟨x,H1,I1,r1,q1⟩=>?_) hs hw
 rw [h1]
 exact cb (hg pins s1 σ H1 x v _ I1 r1 q1) fun _ s2 q=>q
theorem aq{i:Nat}{x:Str}{e:Expr}{te:TE}{pos':Pos}(hN:X.N.Nodup)(hi:X.N[i]?=some x)(hx:Loc X.env.scope x)(he:PE X e te)(hs:swapsWith e (some (.Name x pos')) pos.line X.env=pure false:=by rfl)(hf:X.fn x=true\/X.env.scope.names.lookup x=some .local:=by first|exact .inl rfl|exact .inr rfl|assumption) :
  PS X (.Assign [.Name x pos'] e pos) (Gr te (br i)):=by
 intro pins s σ H D I h
 refine wpAny_Assign_Name (cb (he pins s σ H _ I h) fun v s1 ⟨y,H1,I1,r1,q1⟩=>?_) hs
 exact jO I1 hN hi hx r1 (fun s2 I2=>⟨_,H1,I2,q1⟩) hf
def Nv(i j:Nat)(ta:TA):TS:=fun D σ H=>ta σ H fun vs H1=>∃ v w,vs=[v,w]/\D.nx ((σ.set i (some v)).set j (some w)) H1
theorem Kk{i j:Nat}{x y:Str}{a b:Expr}{ta:TA}{px py pt:Pos}{kt k2 Q3}(hc:X.calm=true)(hN:X.N.Nodup)(hi:X.N[i]?=some x)(hj:X.N[j]?=some y)(UU:i≠j)
  (hx:X.env.scope.names.lookup x=some .local) (hy:X.env.scope.names.lookup y=some .local) (ha:PA X [a,b] ta)
  (hw:swappedStores [.Tuple [.Name x px,.Name y py] kt pt] (.Tuple [a,b] k2 Q3) X.env=pure (some [x,y]))
  (hs:swapsWithSole [.Tuple [.Name x px,.Name y py] kt pt] (.Tuple [a,b] k2 Q3) pos.line X.env=pure false:=by rfl) :
  PS X (.Assign [.Tuple [.Name x px,.Name y py] kt pt] (.Tuple [a,b] k2 Q3) pos) (Nv i j ta):=by
 intro pins s σ H D I h
 rw [exec_Assign_arm]
 refine Zg (wpAny_standAt ?_)
 rw [hs]
 refine Zg (Zy ?_)
 rw [if_neg (by decide)]
 refine Zg (Tuple_ (cb (ha _ pins s σ H _ I h) fun us s1 ⟨vs,H1,I1,r1,q1⟩=>?_))
 obtain ⟨v,w,e1,q1⟩:=q1
 subst e1
 obtain ⟨u1,u2,rfl,rv,Gs⟩:∃ u1 u2,us=[u1,u2]/\RelV v u1/\RelV w u2:=by
  cases r1 with
  | cons p q =>
   cases q with
   | cons p' q' =>
    cases q'
    exact⟨_,_,rfl,p,p'⟩
 refine wpAny_newObj_type ?_ (by show 2<=sizeLine;decide)
 have I2:Inv X pins σ H1 { s1 with heap:=s1.heap.push { cls:=.type "tuple",data:=.seq [u1,u2].toArray } }:=I1.kept (t':=s1.toks) fun b o e=>Zf _ e
 rw [hw]
 refine Zg (Zy ?_)
 show wpAny (model X.prog X.w) X.A (do rule "assign.swapped-stores"; let items <- unpackItems (.ref s1.heap.objs.size) 2 none;assignInOrder [fun v=>bindName X.env y v,fun v=>bindName X.env x v] items.reverse;pure Flow.next) _ _ _
 refine Zg (wpAny_rule (Zg (unpackItems_tuple (items:=#[u1,u2]) (I.ok.hd hc) (IsTup.new s1.heap _) fun h' Q4=>?_)))
 have I3:=I2.kept (h':=h') (t':=s1.toks) fun b o e=>Q4 b o (Z0 (Zj e)) e
 show wpAny _ _ (assignInOrder [fun v=>bindName X.env y v,fun v=>bindName X.env x v] [u2,u1] >>= fun _=>pure Flow.next) _ _ _
 refine Zg (assignInOrder_cons (wpAny_bindName (jO I3 hN hj (.inl hy) Gs (fun s2 I4=>?_) (.inr hy))))
 refine assignInOrder_cons (wpAny_bindName (jO I4 hN hi (.inl hx) rv (fun s3 I5=>assignInOrder_nil (Zy ?_)) (.inr hx)))
 rw [List.set_comm _ _ (Ne.symm UU)] at I5
 exact⟨_,H1,I5,q1⟩
end
section
variable {X:Cx}{pos:Pos}
def Dm(c:TT)(tb:TS):TS:=fun D σ H=>∃ W:Nat->St->Hp->Prop,(∃ m,W m σ H)/\∀ m σ H,W m σ H ->
 c σ H fun b H1=>if b=true then ∃ N:St->Hp->Prop,(∀ σ' H',N σ' H'->∃ m',m'<m/\W m' σ' H')/\tb { D with nx:=N,ct:=N,bk:=D.nx } σ H1 else D.nx σ H1
theorem oy{c:Expr}{body:List Stmt}{tc:TT}{tb:TS}(hp:PassesOwn (model X.prog X.w) X.A X.env X.xe)(hc:PT X c tc)(hb:tL X body tb):PS X (.While c body [] pos) (Dm tc tb):=by
 intro pins s σ H D I h
 obtain ⟨W,⟨m0,w0⟩,turn⟩:=h
 refine wpAny_While (codeAny_whileLoop (fun n s'=>∃ σ' H',Inv X pins σ' H' s'/\W n σ' H') ?_ m0 ⟨σ,H,I,w0⟩)
 rintro n s1 ⟨σ1,H1,I1,w1⟩
 refine wpAny_passesOwn hp (cb (hc pins s1 σ1 H1 _ I1 (turn n σ1 H1 w1)) fun b s2 ⟨H2,I2,q2⟩=>?_)
 cases b with
 | true =>
  obtain ⟨N,hN,q2⟩:=q2
  rw [if_pos rfl]
  refine wpAny_passesOwn hp (cb (hb pins s2 σ1 H2 _ I2 q2) fun f s3 q3=>?_)
  cases f with
  | next =>
   obtain ⟨σ3,H3,I3,n3⟩:=q3
   obtain ⟨m',hm,w3⟩:=hN σ3 H3 n3
   exact⟨m',hm,σ3,H3,I3,w3⟩
  | cont =>
   obtain ⟨σ3,H3,I3,n3⟩:=q3
   obtain ⟨m',hm,w3⟩:=hN σ3 H3 n3
   exact⟨m',hm,σ3,H3,I3,w3⟩
  | brk=>exact q3
  | ret v=>exact q3
 | false =>
  rw [if_neg Bool.false_ne_true]
  exact wpAny_execs_nil ⟨σ1,H2,I2,q2⟩
end
structure It where
 go:Nat->Hp->Prop
 Dn:Nat->Hp->V->Hp->Prop
 stop:Nat->Hp->Prop
def nI(X:Cx)(pins:List (Addr×Obj))(H:Hp)(b:Addr):Prop :=
 H b=none/\b≠X.env.locals/\b∉X.fs/\(b∈X.ex\/X.s₀.heap.objs.size<=b)/\(∀ x c,X.env.cells.lookup x=some c->c≠b)/\∀ p∈X.pn++pins,p.1≠b
theorem Inv.zg{X:Cx}{pins:List (Addr×Obj)}{σ:St}{H H':Hp}{s:Shared}{b:Addr}(I:Inv X pins σ H s)(hb:s.heap.objs.size<=b)(hn:H' b=none):nI X pins H' b:=by
 refine⟨hn,Nat.ne_of_gt (Nat.lt_of_lt_of_le I.lt hb),I.QW hb,.inr (Zm I.sz hb),fun x c e z=>?_,fun p hp z=>?_⟩
 ·obtain ⟨v,q⟩:=I.cell x c e
  exact absurd (Nat.lt_of_lt_of_le q.lt (by rw [z];exact hb)) (Nat.lt_irrefl _)
 ·exact absurd (Nat.lt_of_lt_of_le (Zj (I.pin p hp).1) (by rw [z];exact hb)) (Nat.lt_irrefl _)
structure Turn(P:Program)(w:World)(K:Frag)(tg:Expr)(J:It)(fp:List Addr)(it:Addr)(tn:Nat->Heap->Prop):Prop where
 mem:it∈fp
 obj:∀ i h,tn i h->∀ b∈fp,∃ o,h.get? b=some o/\∀ v,o.data≠.cell v
 keep:∀ i h h',tn i h->(∀ b∈fp,∀ o,h.get? b=some o->h'.get? b=some o)->tn i h'
 item:∀ (X:Cx),X.prog=P->X.w=w->X.K=K->X.calm=true->∀ (i:Nat) (pins:List (Addr×Obj)) (s:Shared) (σ:St) (H:Hp) (E:Value->Shared->Prop),Inv X pins σ H s->(∀ b∈fp,nI X pins H b)->tn i s.heap->J.go i H ->
  wpAny (model P w) X.A (pyNext (.ref it)) (fun r s1=>∃ u,r=some u /\
   wpAny (model P w) X.A (letOwnedTupleGo tg (.ref it) u) (fun _ s2=>∃ x H',Inv X pins σ H' s2/\RelV x u/\J.Dn i H x H'/\tn (i+1) s2.heap/\∀ b∈fp,H' b=none) E s1) E s
 done:∀ (X:Cx),X.prog=P->X.w=w->X.K=K->X.calm=true->∀ (i:Nat) (pins:List (Addr×Obj)) (s:Shared) (σ:St) (H:Hp) (E:Value->Shared->Prop),Inv X pins σ H s->(∀ b∈fp,nI X pins H b)->tn i s.heap->J.stop i H ->
  wpAny (model P w) X.A (pyNext (.ref it)) (fun r s1=>r=none/\Inv X pins σ H s1) E s
 self:∀ (A:Around) (i:Nat) (s:Shared) (Q:Value->Shared->Prop) (E:Value->Shared->Prop),tn i s.heap->Q (.ref it) s->wpAny (model P w) A (pyIter (.ref it)) Q E s
abbrev TI:=St->Hp->(It->Hp->Prop)->Prop
def UW(X:Cx)(pins:List (Addr×Obj))(σ:St)(tg:Expr)(R:It->Hp->Prop)(Qj:Value)(s2:Shared):Prop :=
 ∃ (it:Addr) (fp:List Addr) (tn:Nat->Heap->Prop) (J:It) (H':Hp),Qj=.ref it/\Inv X pins σ H' s2/\Turn X.prog X.w X.K tg J fp it tn/\tn 0 s2.heap/\(∀ b∈fp,nI X pins H' b)/\R J H'
def PI(X:Cx)(tg iter:Expr)(wi:TI):Prop :=
 ∀ (pins:List (Addr×Obj)) (s:Shared) (σ:St) (H:Hp) (R:It->Hp->Prop),Inv X pins σ H s->wi σ H R ->
  wpAny (model X.prog X.w) X.A (eval iter X.env) (fun v s1=>wpAny (model X.prog X.w) X.A (pyIter v) (UW X pins σ tg R) X.xe s1) X.xe s
theorem xq{M : Model}{A : Around}{E : Value -> Shared -> Prop}{s : Shared}{tg : Expr}{it : Addr}{u : Value}{o : Obj}{n : String}{vs : Array Value}{Q : Unit -> Shared -> Prop}(ho : s.heap.get? it=some o)(hc : o.cls=.type n)(hd : o.data=.fields vs)
    (hn : ["enumerate", "zip", "dict_itemiterator", "dict_reverseitemiterator", "odict_iterator", "itertools.zip_longest", "itertools.pairwise"].contains n=false) (hQ : Q () s) : wpAny M A (letOwnedTupleGo tg (.ref it) u) Q E s := by
  unfold letOwnedTupleGo
  cases tg <;> first
    | exact Zy hQ
    | (cases u <;> first
        | exact Zy hQ
        | (refine Zg (wpAny_load ho ?_)
           rw [hc, hd]
           show wpAny M A (if (["enumerate", "zip", "dict_itemiterator", "dict_reverseitemiterator", "odict_iterator", "itertools.zip_longest", "itertools.pairwise"].contains n && vs[0]? == some (rawInt _))=true then _ else _) Q E s
           rw [if_neg (by intro h;rw [hn, Bool.false_and] at h;cases h)]
           exact Zy hQ))
def MH(K:Frag)(a:Addr):It :=
 ⟨fun i H=>∃ xs x,bj K H a xs/\xs[i]?=some x,fun i H x H'=>H'=H/\∀ xs,bj K H a xs->xs[i]?=some x,fun i H=>∃ xs,bj K H a xs/\xs.length<=i⟩
def Dp(K:Frag)(a:Addr):It :=
 ⟨fun i H=>∃ xs x,aL K H a xs/\xs[i]?=some x,fun i H x H'=>H'=H/\∀ xs,aL K H a xs->xs[i]?=some x,fun i H=>∃ xs,aL K H a xs/\xs.length<=i⟩
def Kl(lo:Int)(n:Nat):It:=⟨fun i _=>i<n,fun i H x H'=>H'=H/\x=.int (lo+i),fun i _=>n<=i⟩
theorem BF{P:Program}{w:World}{K:Frag}{tg:Expr}(a it:Addr):Turn P w K tg (MH K a) [it] it (fun i h=>h.IsListIter it a i) where
 mem:=by simp
 obj:=fun i h st b hb=>by
  have e:b=it:=by simpa using hb
  subst e
  obtain ⟨o,e,c,d⟩:=st
  exact⟨o,e,fun v z=>by rw [d] at z;cases z⟩
 keep:=fun i h h' st k=>st.at fun o e=>k it (by simp) o e
 item:=by
  intro X hP hw hK hc i pins s σ H E I hf st hg
  subst hP hw hK
  obtain ⟨xs,x,hq,hx⟩:=hg
  obtain ⟨its,rv,p,hz⟩:=I.list hq
  obtain ⟨u,hu,ru⟩:=rv.get hx
  obtain ⟨f0,f1,f2,f3,f4,f5⟩:=hf it (by simp)
  refine wpAny_pyNext_list_item st p.isList (x:=u) (by simpa using hu) fun h' AO sb=>?_
  have I1:Inv X pins σ H { s with heap:=h' }:=I.turned (t':=s.toks) (fun b o hb e=>(sb.2 b hb).trans e) f0 f1 f3 f4 f5
  obtain ⟨o,e,c,d⟩:=id AO
  exact⟨u,rfl,xq (s:={ s with heap:=h' }) e c d (by decide) ⟨x,H,I1,ru,⟨rfl,fun ys hy=>by rw [I.xp hy hq];exact hx⟩,AO,fun b hb=>(hf b hb).1⟩⟩
 done:=by
  intro X hP hw hK hc i pins s σ H E I hf st hg
  subst hP hw hK
  obtain ⟨xs,hq,hx⟩:=hg
  obtain ⟨its,rv,p,hz⟩:=I.list hq
  obtain ⟨f0,f1,f2,f3,f4,f5⟩:=hf it (by simp)
  have hl:=rv.length
  exact wpAny_pyNext_list_end (I.ok.hd hc) st p.isList (by simp;lia) fun h' eb=>⟨rfl,I.turned (t':=s.toks) (fun b o hb e=>eb b o hb e) f0 f1 f3 f4 f5⟩
 self:=fun _ _ _ _ _ st h=>wpAny_pyIter_listiter st h
theorem zh{P:Program}{w:World}{K:Frag}{tg:Expr}(a it:Addr):Turn P w K tg (Dp K a) [it] it (fun i h=>h.IsTupleIter it a i) where
 mem:=by simp
 obj:=fun i h st b hb=>by
  have e:b=it:=by simpa using hb
  subst e
  obtain ⟨o,e,c,d⟩:=st
  exact⟨o,e,fun v z=>by rw [d] at z;cases z⟩
 keep:=fun i h h' st k=>st.at fun o e=>k it (by simp) o e
 item:=by
  intro X hP hw hK hc i pins s σ H E I hf st hg
  subst hP hw hK
  obtain ⟨xs,x,hq,hx⟩:=hg
  obtain ⟨its,rv,p,hz⟩:=I.tuple hq
  obtain ⟨u,hu,ru⟩:=rv.get hx
  obtain ⟨f0,f1,f2,f3,f4,f5⟩:=hf it (by simp)
  refine wpAny_pyNext_tuple_item st (show s.heap.IsTuple a its.toArray from p) (x:=u) (by simpa using hu) fun h' AO sb=>?_
  have I1:Inv X pins σ H { s with heap:=h' }:=I.turned (t':=s.toks) (fun b o hb e=>(sb.2 b hb).trans e) f0 f1 f3 f4 f5
  obtain ⟨o,e,c,d⟩:=id AO
  exact⟨u,rfl,xq (s:={ s with heap:=h' }) e c d (by decide) ⟨x,H,I1,ru,⟨rfl,fun ys hy=>by rw [I.tN hy hq];exact hx⟩,AO,fun b hb=>(hf b hb).1⟩⟩
 done:=by
  intro X hP hw hK hc i pins s σ H E I hf st hg
  subst hP hw hK
  obtain ⟨xs,hq,hx⟩:=hg
  obtain ⟨its,rv,p,hz⟩:=I.tuple hq
  obtain ⟨f0,f1,f2,f3,f4,f5⟩:=hf it (by simp)
  have hl:=rv.length
  exact wpAny_pyNext_tuple_end (I.ok.hd hc) st (show s.heap.IsTuple a its.toArray from p) (by simp;lia) fun h' eb=>⟨rfl,I.turned (t':=s.toks) (fun b o hb e=>eb b o hb e) f0 f1 f3 f4 f5⟩
 self:=fun _ _ _ _ _ st h=>wpAny_pyIter_tupleiter st h
theorem zi{P:Program}{w:World}{K:Frag}{tg:Expr}(it:Addr)(lo:Int)(n:Nat):Turn P w K tg (Kl lo n) [it] it (fun i h=>IsRangeIter h it (lo+(i:Nat)*1) ((n:Int) - (i:Nat)) 1) where
 mem:=by simp
 obj:=fun i h st b hb=>by
  have e:b=it:=by simpa using hb
  subst e
  exact⟨_,st,fun v z=>by
   have z':Data.fields _=Data.cell v:=z
   cases z'⟩
 keep:=fun i h h' st k=>k it (by simp) _ st
 item:=by
  intro X hP hw hK hc i pins s σ H E I hf st hg
  subst hP hw hK
  obtain ⟨f0,f1,f2,f3,f4,f5⟩:=hf it (by simp)
  have W:=Walks.range (prog:=X.prog) (w:=X.w) (I.ok.hd hc) it lo 1 n
  refine W.item i s _ _ hg st fun v h' tk hv AO kk=>?_
  obtain ⟨t,rfl⟩:=hv
  have I1:Inv X pins σ H { s with heap:=h',toks:=tk }:=I.turned (fun b o hb e=>kk b o (by simpa using hb) e) f0 f1 f3 f4 f5
  refine⟨_,rfl,xq (s:={ s with heap:=h',toks:=tk }) (n:="range_iterator") AO rfl rfl (by decide) ⟨.int (lo+i),H,I1,⟨t,?_⟩,⟨rfl,rfl⟩,AO,fun b hb=>(hf b hb).1⟩⟩
  rw [Int.mul_one]
 done:=by
  intro X hP hw hK hc i pins s σ H E I hf st hg
  subst hP hw hK
  obtain ⟨f0,f1,f2,f3,f4,f5⟩:=hf it (by simp)
  exact wpAny_pyNext_range_end (I.ok.hd hc) st (by have:n<=i:=hg;lia) fun h' eb=>⟨rfl,I.turned (t':=s.toks) (fun b o hb e=>eb b o hb e) f0 f1 f3 f4 f5⟩
 self:=fun _ _ _ _ _ st h=>wpAny_pyIter_rangeiter st h
section
variable {X:Cx}{tg:Expr}
def Dq(K:Frag)(tl:TE):TI:=fun σ H R=>tl σ H fun x H1=>∃ a,x=.ref a/\(∃ xs,bj K H1 a xs)/\R (MH K a) H1
def Km(K:Frag)(tl:TE):TI:=fun σ H R=>tl σ H fun x H1=>∃ a,x=.ref a/\(∃ xs,aL K H1 a xs)/\R (Dp K a) H1
theorem Gu{l:Expr}{tl:TE}(hl:PE X l tl):PI X tg l (Dq X.K tl):=by
 intro pins s σ H R I h
 refine cb (hl pins s σ H _ I h) fun v s1 ⟨x,H1,I1,r1,q1⟩=>?_
 obtain ⟨a,e,⟨xs,hq⟩,q⟩:=q1
 subst e
 cases r1
 obtain ⟨its,rv,p,hz⟩:=I1.list hq
 refine wpAny_pyIter_list p.isList ?_
 refine⟨s1.heap.objs.size,[s1.heap.objs.size],_,_,H1,rfl,I1.kept (t':=s1.toks) fun b o e=>Zf _ e,BF a _,⟨_,Zk _ rfl,rfl,rfl⟩,fun b hb=>?_,q⟩
 have e:b=s1.heap.objs.size:=by simpa using hb
 subst e
 exact I1.zg (Zn _) (I1.bf.fresh (Zn _))
theorem Ko{l:Expr}{tl:TE}(hl:PE X l tl):PI X tg l (Km X.K tl):=by
 intro pins s σ H R I h
 refine cb (hl pins s σ H _ I h) fun v s1 ⟨x,H1,I1,r1,q1⟩=>?_
 obtain ⟨a,e,⟨xs,hq⟩,q⟩:=q1
 subst e
 cases r1
 obtain ⟨its,rv,p,hz⟩:=I1.tuple hq
 refine wpAny_pyIter_tuple (show s1.heap.IsTuple a its.toArray from p) ?_
 refine⟨s1.heap.objs.size,[s1.heap.objs.size],_,_,H1,rfl,I1.kept (t':=s1.toks) fun b o e=>Zf _ e,zh a _,⟨_,Zk _ rfl,rfl,rfl⟩,fun b hb=>?_,q⟩
 have e:b=s1.heap.objs.size:=by simpa using hb
 subst e
 exact I1.zg (Zn _) (I1.bf.fresh (Zn _))
theorem Dr{pins:List (Addr×Obj)}{σ:St}{H:Hp}{s:Shared}{R:It->Hp->Prop}{E:Value->Shared->Prop}{lo hi:Int}{t u v:Tok}{tk:Nat}(I:Inv X pins σ H s)(h1:-(2 ^ 62)<=lo)(h2:lo<2 ^ 62)(h3:-(2 ^ 62)<=hi)(h4:hi<2 ^ 62)
  (q:R (Kl lo (hi - lo).toNat) H):wpAny (model X.prog X.w) X.A (pyIter (.ref s.heap.objs.size)) (UW X pins σ tg R) E { s with heap:=s.heap.push { cls:=.type "range",data:=.fields #[.int lo t,.int hi u,.int 1 v] },toks:=tk }:=by
 refine wpAny_pyIter_range (IsRange.new ..) (small_one h1 h2 h3 h4) ?_
 have I1:Inv X pins σ H { s with heap:=s.heap.push { cls:=.type "range",data:=.fields #[.int lo t,.int hi u,.int 1 v] },toks:=tk }:=I.kept fun b o e=>Zf _ e
 refine⟨(s.heap.push { cls:=.type "range",data:=.fields #[.int lo t,.int hi u,.int 1 v] }).objs.size,[(s.heap.push { cls:=.type "range",data:=.fields #[.int lo t,.int hi u,.int 1 v] }).objs.size],_,_,H,rfl,
  I1.kept (t':=tk) fun b o e=>Zf _ e,zi _ lo (hi - lo).toNat,?_,fun b hb=>?_,q⟩
 ·have e1:lo+((0:Nat):Int)*1=lo:=by simp
  have e2:(((hi - lo).toNat:Nat):Int) - ((0:Nat):Int)=Builtin.Range.rangeSize lo hi 1:=by rw [rangeSize_one];split <;> lia
  show IsRangeIter _ _ (lo+((0:Nat):Int)*1) ((((hi - lo).toNat:Nat):Int) - ((0:Nat):Int)) 1
  rw [e1,e2]
  exact Zk _ rfl
 ·have e:b=(s.heap.push { cls:=.type "range",data:=.fields #[.int lo t,.int hi u,.int 1 v] }).objs.size:=by simpa using hb
  subst e
  exact I1.zg (Zn _) (I1.bf.fresh (Zn _))
def Jg(ta:TA):TI:=fun σ H R=>ta σ H fun vs H1=>∃ j:Int,vs=[.int j]/\-(2 ^ 62)<=j/\j<2 ^ 62/\R (Kl 0 j.toNat) H1
theorem dU {a:Expr} {ta:TA} {p pos:Pos} (hg:Gl X "range") (hm:X.mg "range"=none) (ha:PA X [a] ta) (hs:starEach [a] X.env=[(false,eval a X.env)]:=by rfl):PI X tg (.Call (.Name "range" p) [a] [] pos) (Jg ta):=by
 intro pins s σ H R I h
 refine Call_ (jm I hg hm boot_range (callWith_type1 (cb (ha pos pins s σ H _ I h) fun us s1 ⟨vs,H1,I1,r1,q1⟩=>?_) hs rfl))
 obtain ⟨j,e,q1,q2,q⟩:=q1
 subst e
 cases r1 with
 | cons r rr =>
  cases rr
  obtain ⟨t,rfl⟩:=r
  exact call_range_1 (Dr I1 (by lia) (by lia) q1 q2 (by simpa using q))
def Nw(wi:TI)(g:TG)(tb:TS):TS:=fun D σ H=>wi σ H fun J H1=>∃ W:Nat->Nat->St->Hp->Prop,(∃ m,W 0 m σ H1)/\∀ i m σ H,W i m σ H ->
 (J.stop i H/\D.nx σ H)\/(J.go i H/\∃ N:St->Hp->Prop,(∀ σ' H',N σ' H'->∃ m',m'<m/\W (i+1) m' σ' H')/\∀ x H',J.Dn i H x H'->g x σ H' fun σ2 H2=>tb { D with nx:=N,ct:=N,bk:=D.nx } σ2 H2)
def kP(fp:List Addr)(h:Heap):List (Addr×Obj):=fp.filterMap fun b=>(h.get? b).map fun o=>(b,o)
theorem dm{fp:List Addr}{h:Heap}{b:Addr}{o:Obj}(hb:b∈fp)(e:h.get? b=some o):(b,o)∈kP fp h:=List.mem_filterMap.mpr ⟨b,hb,by rw [e];rfl⟩
theorem BG{fp:List Addr}{h:Heap}{p:Addr×Obj}(hp:p∈kP fp h):p.1∈fp/\h.get? p.1=some p.2:=by
 obtain ⟨b,hb,e⟩:=List.mem_filterMap.mp hp
 cases q:h.get? b with
 | none=>rw [q] at e;cases e
 | some o =>
  rw [q] at e
  have e':(b,o)=p:=Zr e
  subst e'
  exact⟨hb,q⟩
theorem Inv.pinned{pins:List (Addr×Obj)}{σ:St}{H:Hp}{s:Shared}{fp:List Addr}(I:Inv X pins σ H s)(hf:∀ b∈fp,nI X pins H b)(ho:∀ b∈fp,∃ o,s.heap.get? b=some o/\∀ v,o.data≠.cell v):Inv X (pins++kP fp s.heap) σ H s :=
 I.n0 fun p hp=>(ZG.mp hp).elim (fun z=>I.pin p (ZD _ z)) fun z=>by
  obtain ⟨hb,e⟩:=BG z
  obtain ⟨f0,f1,f2,_⟩:=hf p.1 hb
  obtain ⟨o,e',d⟩:=ho p.1 hb
  rw [e] at e';cases e'
  exact⟨e,f0,f1,f2,d⟩
theorem Inv.gy{pins pl:List (Addr×Obj)}{σ:St}{H:Hp}{s:Shared}(I:Inv X (pins++pl) σ H s):Inv X pins σ H s:=I.n0 fun p hp=>I.pin p (ZD _ (ZE _ hp))
theorem cR{iter:Expr}{body:List Stmt}{wi:TI}{g:TG}{tb:TS}{pos:Pos}(hp:PassesOwn (model X.prog X.w) X.A X.env X.xe)(hc:X.calm=true)(hi:PI X tg iter wi)(hg:PG X tg g)(hb:tL X body tb)
  (hs:∀ x,foldedSetIterable iter X.env x=pure x:=by intro _;rfl):PS X (.For tg iter body [] pos) (Nw wi g tb):=by
 intro pins s σ H D I h
 refine wpAny_For (cb (hi pins s σ H _ I h) fun v s1 h1=>cb h1 fun Qj s2 h2=>?_) hs
 obtain ⟨it,fp,tn,J,H2,e,I2,T,Kp,f2,W,⟨m0,w0⟩,turn⟩:=h2
 subst e
 have Kq:∀ {H':Hp},(∀ b∈fp,H' b=none)->∀ b∈fp,nI X pins H' b:=fun hn b hb=>⟨hn b hb,(f2 b hb).2⟩
 refine codeAny_forLoop_any (fun n s'=>∃ i σ' H',Inv X pins σ' H' s'/\tn i s'.heap/\(∀ b∈fp,H' b=none)/\W i n σ' H') ?_ m0 ⟨0,σ,H2,I2,Kp,fun b hb=>(f2 b hb).1,w0⟩
 rintro n s3 ⟨i,σ3,H3,I3,AQ,Q5,w3⟩
 rcases turn i n σ3 H3 w3 with ⟨stop,qn⟩|⟨go,N,hN,step⟩
 ·refine wpAny_passesOwn hp (cb (T.done X rfl rfl rfl hc i pins s3 σ3 H3 X.xe I3 (Kq Q5) AQ stop) fun r s4 ⟨hr,I4⟩=>?_)
  subst hr
  exact wpAny_execs_nil ⟨σ3,H3,I4,qn⟩
 ·refine wpAny_passesOwn hp (cb (T.item X rfl rfl rfl hc i pins s3 σ3 H3 X.xe I3 (Kq Q5) AQ go) fun r s4 ⟨u,hr,h4⟩=>?_)
  subst hr
  refine wpAny_passesOwn hp (cb h4 fun _ s5 ⟨x,H5,I5,r5,y5,Gv,Kr⟩=>?_)
  have Wr:=I5.pinned (Kq Kr) (T.obj _ _ Gv)
  refine wpAny_passesOwn hp (cb (hg _ s5 σ3 H5 x u _ Wr r5 (step x H5 y5)) fun _ s6 ⟨σ6,H6,I6,q6⟩=>?_)
  refine wpAny_passesOwn hp (cb (hb _ s6 σ6 H6 _ I6 q6) fun f s7 q7=>?_)
  have again:∀ {σ7:St} {H7:Hp},Inv X (pins++kP fp s5.heap) σ7 H7 s7->N σ7 H7->∃ m,m<n/\∃ i σ' H',Inv X pins σ' H' s7/\tn i s7.heap/\(∀ b∈fp,H' b=none)/\W i m σ' H':=fun {σ7 H7} I7 n7=>by
   obtain ⟨m',hm,w7⟩:=hN σ7 H7 n7
   refine⟨m',hm,i+1,σ7,H7,I7.gy,T.keep _ _ _ Gv fun b hb o e=>(I7.pin (b,o) (ZD _ (ZD _ (dm hb e)))).1,fun b hb=>?_,w7⟩
   obtain ⟨o,e,d⟩:=T.obj _ _ Gv b hb
   exact (I7.pin (b,o) (ZD _ (ZD _ (dm hb e)))).2.1
  cases f with
  | next=>obtain ⟨σ7,H7,I7,n7⟩:=q7;exact again I7 n7
  | cont=>obtain ⟨σ7,H7,I7,n7⟩:=q7;exact again I7 n7
  | brk=>obtain ⟨σ7,H7,I7,q7⟩:=q7;exact⟨σ7,H7,I7.gy,q7⟩
  | ret v=>obtain ⟨x7,σ7,H7,I7,r7,q7⟩:=q7;exact⟨x7,σ7,H7,I7.gy,r7,q7⟩
end
theorem AR{K:Frag}{a:Addr}{xs:List V}{g:TG}{tb:TS}{D:Ends}{σ:St}{H:Hp}(Pv:Nat->St->Hp->Prop)(h0:Pv 0 σ H)(hl:∀ i σ H,i<=xs.length->Pv i σ H->aL K H a xs)
  (hs:∀ i x σ H,xs[i]?=some x->Pv i σ H->g x σ H fun σ2 H2=>tb { D with nx:=Pv (i+1),ct:=Pv (i+1),bk:=D.nx } σ2 H2) (hd:∀ σ H,Pv xs.length σ H->D.nx σ H) :
  ∃ W:Nat->Nat->St->Hp->Prop,(∃ m,W 0 m σ H)/\∀ i m σ H,W i m σ H ->
   ((Dp K a).stop i H/\D.nx σ H)\/((Dp K a).go i H/\∃ N:St->Hp->Prop,(∀ σ' H',N σ' H'->∃ m',m'<m/\W (i+1) m' σ' H')/\∀ x H',(Dp K a).Dn i H x H'->g x σ H' fun σ2 H2=>tb { D with nx:=N,ct:=N,bk:=D.nx } σ2 H2):=by
 refine⟨fun i m σ H=>m=xs.length - i/\i<=xs.length/\Pv i σ H,⟨xs.length,by simp,ZZ _,h0⟩,?_⟩
 rintro i m σ H ⟨rfl,hi,p⟩
 have q:=hl i σ H hi p
 by_cases jn:i<xs.length
 ·refine .inr ⟨⟨xs,xs[i],q,by simp [jn]⟩,Pv (i+1),fun σ' H' p'=>⟨xs.length - (i+1),by lia,rfl,jn,p'⟩,fun x H' y=>?_⟩
  obtain ⟨e,y⟩:=y
  subst e
  exact hs i x σ _ (y xs q) p
 ·have e:i=xs.length:=by lia
  subst e
  exact .inl ⟨⟨xs,q,Zn _⟩,hd σ H p⟩
abbrev R2:=V->V->Hp->VK->Prop
def gz(X:Cx)(f:Value->Value->Sem Value)(r:R2):Prop :=
 ∀ (pins:List (Addr×Obj)) (s:Shared) (σ:St) (H:Hp) (x y:V) (v u:Value) (Q:VK),Inv X pins σ H s->RelV x v->RelV y u->r x y H Q ->
  wpAny (model X.prog X.w) X.A (f v u) (EP X pins σ Q) X.xe s
def Q6(X:Cx)(f:Value->Sem Value)(r:V->Hp->VK->Prop):Prop :=
 ∀ (pins:List (Addr×Obj)) (s:Shared) (σ:St) (H:Hp) (x:V) (v:Value) (Q:VK),Inv X pins σ H s->RelV x v->r x H Q ->
  wpAny (model X.prog X.w) X.A (f v) (EP X pins σ Q) X.xe s
def bM(X:Cx)(f:Value)(r:List V->Hp->VK->Prop):Prop :=
 ∀ (pins:List (Addr×Obj)) (s:Shared) (σ:St) (H:Hp) (xs:List V) (us:List Value) (Q:VK),Inv X pins σ H s->Vals xs us->r xs H Q ->
  wpAny (model X.prog X.w) X.A (call f us) (EP X pins σ Q) X.xe s
def MI(r:R2)(ta tb:TE):TE:=fun σ H Q=>ta σ H fun x H1=>tb σ H1 fun y H2=>r x y H2 Q
def UX(r:V->Hp->VK->Prop)(ta:TE):TE:=fun σ H Q=>ta σ H fun x H1=>r x H1 Q
def rI(C:Int->Int->Prop)(g:Int->Int->V):R2:=fun x y H Q=>∃ i j,x=.int i/\y=.int j/\C i j/\Q (g i j) H
def Gw(g:Int->Int->V):R2:=fun x y H Q=>∃ i j,x=.int i/\y=.int j/\Q (g i j) H
def rU(g:Int->V):V->Hp->VK->Prop:=fun x H Q=>∃ i,x=.int i/\Q (g i) H
section
variable {X:Cx}{a b c:Expr}{ta tb tc:TE}{pos:Pos}
theorem Ks(ha:PE X a ta)(hb:PE X b tb){pins:List (Addr×Obj)}{s:Shared}{σ:St}{H:Hp}{R:V->V->Hp->Prop}(I:Inv X pins σ H s)
  (h:ta σ H fun x H1=>tb σ H1 fun y H2=>R x y H2) {Q:Value->Shared->Prop} {f:Value->Value->Sem Value}
  (hf:∀ v u s2 x y H2,Inv X pins σ H2 s2->RelV x v->RelV y u->R x y H2->wpAny (model X.prog X.w) X.A (f v u) Q X.xe s2) :
  wpAny (model X.prog X.w) X.A (eval a X.env) (fun v s₁=>wpAny (model X.prog X.w) X.A (eval b X.env) (fun u s₂=>wpAny (model X.prog X.w) X.A (f v u) Q X.xe s₂) X.xe s₁) X.xe s:=by
 refine cb (ha pins s σ H _ I h) fun v s1 ⟨x,H1,I1,r1,q1⟩=>?_
 refine cb (hb pins s1 σ H1 _ I1 q1) fun u s2 ⟨y,H2,I2,r2,q2⟩=>?_
 exact hf v u s2 x y H2 I2 r1 r2 q2
theorem aj{op:Operator}{r:R2}(ho:gz X (binaryOp op) r)(ha:PE X a ta)(hb:PE X b tb):PE X (.BinOp a op b pos) (MI r ta tb):=by
 intro pins s σ H Q I h
 exact wpAny_BinOp (Ks ha hb I h fun v u s2 x y H2 I2 rx ry q=>ho pins s2 σ H2 x y v u Q I2 rx ry q)
theorem cS{op:UnaryOp}{r:V->Hp->VK->Prop}(ho:Q6 X (unaryOp op) r)(ha:PE X a ta):PE X (.UnaryOp op a pos) (UX r ta):=by
 intro pins s σ H Q I h
 exact UnaryOp_ (cb (ha pins s σ H _ I h) fun v s1 ⟨x,H1,I1,r1,q1⟩=>ho pins s1 σ H1 x v Q I1 r1 q1)
theorem Kt{f:Value->Value->Sem Value}{C:Int->Int->Prop}{g:Int->Int->Int}
  (rule:∀ (i j:Int) (t u:Tok) (s:Shared) (Q:Value->Shared->Prop) (E:Value->Shared->Prop),C i j->Q (.int (g i j) s.toks) { s with toks:=s.toks+1 }->wpAny (model X.prog X.w) X.A (f (.int i t) (.int j u)) Q E s) :
  gz X f (rI C fun i j=>.int (g i j)):=by
 intro pins s σ H x y v u Q I rx ry h
 obtain ⟨i,j,rfl,rfl,hc,q⟩:=h
 obtain ⟨t,rfl⟩:=rx
 obtain ⟨t',rfl⟩:=ry
 exact rule i j t t' s _ _ hc ⟨.int (g i j),H,I.tok _,⟨_,rfl⟩,q⟩
theorem Nx{f:Value->Value->Sem Value}{g:Int->Int->Int}
  (rule:∀ (i j:Int) (t u:Tok) (s:Shared) (Q:Value->Shared->Prop) (E:Value->Shared->Prop),Q (.int (g i j) s.toks) { s with toks:=s.toks+1 }->wpAny (model X.prog X.w) X.A (f (.int i t) (.int j u)) Q E s) :
  gz X f (Gw fun i j=>.int (g i j)):=by
 intro pins s σ H x y v u Q I rx ry h
 obtain ⟨i,j,rfl,rfl,q⟩:=h
 obtain ⟨t,rfl⟩:=rx
 obtain ⟨t',rfl⟩:=ry
 exact rule i j t t' s _ _ ⟨.int (g i j),H,I.tok _,⟨_,rfl⟩,q⟩
theorem Ku{f:Value->Value->Sem Value}{g:Int->Int->Bool}
  (rule:∀ (i j:Int) (t u:Tok) (s:Shared) (Q:Value->Shared->Prop) (E:Value->Shared->Prop),Q (.bool (g i j)) s->wpAny (model X.prog X.w) X.A (f (.int i t) (.int j u)) Q E s) :
  gz X f (Gw fun i j=>.bl (g i j)):=by
 intro pins s σ H x y v u Q I rx ry h
 obtain ⟨i,j,rfl,rfl,q⟩:=h
 obtain ⟨t,rfl⟩:=rx
 obtain ⟨t',rfl⟩:=ry
 exact rule i j t t' s _ _ ⟨.bl (g i j),H,I,rfl,q⟩
def Q7(i j:Int):Prop:=0<j/\j<1073741824
def Q8(i j:Int):Prop:=0<=j/\j<=1000000/\i.natAbs<2 ^ 64
def Kv(i j:Int):Prop:=(-(2 ^ 64)<i/\i<2 ^ 64)\/(-(2 ^ 64)<j/\j<2 ^ 64)
theorem Kv.ok{i j:Int}(h:Kv i j):IntMulOk i j:=by
 rcases h with ⟨h1,h2⟩|⟨h1,h2⟩
 ·exact .of_left (intBits_le_64 h1 h2)
 ·exact .of_right (intBits_le_64 h1 h2)
theorem aK:gz X (binaryOp .Add) (Gw fun i j=>.int (i+j)):=Nx fun _ _ _ _ _ _ _ q=>add_int q
theorem bp:gz X (binaryOp .Sub) (Gw fun i j=>.int (i - j)):=Nx fun _ _ _ _ _ _ _ q=>sub_int q
theorem cp:gz X (binaryOp .Mult) (rI Kv fun i j=>.int (i*j)):=Kt fun _ _ _ _ _ _ _ hc q=>mul_int q hc.ok
theorem cT:gz X (binaryOp .FloorDiv) (rI Q7 fun i j=>.int (i / j)):=Kt fun i j _ _ _ _ _ hc q=>by
 have h1:(0:Int)<j:=hc.1
 have h2:j<1073741824:=hc.2
 exact floordiv_int (by lia) (by rw [ZA i (by lia)];exact q) (.inl (PyProof.noPylong_small (by lia)))
theorem aV:gz X (binaryOp .Mod) (rI (fun _ j=>0<j) fun i j=>.int (i % j)):=Kt fun i j _ _ _ _ _ hc q=>by
 have h1:(0:Int)<j:=hc
 exact mod_int' (by lia) (by rw [Int.fmod_eq_emod_of_nonneg i (by lia)];exact q)
theorem uz:gz X (binaryOp .Pow) (rI Q8 fun i j=>.int (i ^ j.toNat)):=Kt fun _ _ _ _ _ _ _ hc q=>pow_int_small hc.1 hc.2.1 hc.2.2 q
theorem Ws{f:Value->Sem Value}{g:Int->Int}
  (rule:∀ (i:Int) (t:Tok) (s:Shared) (Q:Value->Shared->Prop) (E:Value->Shared->Prop),Q (.int (g i) s.toks) { s with toks:=s.toks+1 }->wpAny (model X.prog X.w) X.A (f (.int i t)) Q E s) :
  Q6 X f (rU fun i=>.int (g i)):=by
 intro pins s σ H x v Q I rx h
 obtain ⟨i,rfl,q⟩:=h
 obtain ⟨t,rfl⟩:=rx
 exact rule i t s _ _ ⟨.int (g i),H,I.tok _,⟨_,rfl⟩,q⟩
theorem cg:Q6 X (unaryOp .USub) (rU fun i=>.int (-i)):=Ws fun _ _ _ _ _ q=>neg_int q
end
def Ny:V->V->Bool
 | .dj,.dj=>true|.dj,.int _=>true|.int _,.dj=>true|.dj,.bl _=>true|.bl _,.dj=>true|.dj,.str _=>true|.str _,.dj=>true
 | .int _,.int _=>true|.bl _,.bl _=>true|.str _,.str _=>true|.Dg _,.Dg _=>true
 | .int _,.str _=>true|.str _,.int _=>true|.bl _,.str _=>true|.str _,.bl _=>true
 | _,_=>false
def Q9:R2:=fun x y H Q=>Ny x y=true/\Q (.bl (decide (x=y))) H
def Ra:R2:=fun x y H Q=>Ny x y=true/\Q (.bl (!decide (x=y))) H
theorem AS{i j:Int}:decide (V.int i=V.int j)=(i == j):=by
 rw [Bool.eq_iff_iff]
 simp
theorem Ds{i j:Bool}:decide (V.bl i=V.bl j)=(i == j):=by
 rw [Bool.eq_iff_iff]
 simp
theorem AU{i j:Str}:decide (V.str i=V.str j)=(i == j):=by
 rw [Bool.eq_iff_iff]
 simp
theorem AV{i j:Array UInt8}:decide (V.Dg i=V.Dg j)=(i.toList == j.toList):=by
 rw [Bool.eq_iff_iff]
 cases i
 cases j
 simp
section
variable {X:Cx}{a b c:Expr}{ta tb tc:TE}{pos:Pos}
theorem aW{pins:List (Addr×Obj)}{σ:St}{H:Hp}{s:Shared}{Q:VK}{k k':Bool}(I:Inv X pins σ H s)(q:Q (.bl k) H)(e:k=k'):EP X pins σ Q (.bool k') s:=by
 subst e
 exact⟨.bl k,H,I,rfl,q⟩
theorem gB:gz X (compareOp .Eq) Q9:=by
 intro pins s σ H x y v u Q I rx ry h
 obtain ⟨hs,q⟩:=h
 cases x with
 | dj =>
  cases rx
  cases y with
  | dj=>cases ry;exact PySem.EqNone.eq_none_none (aW I q (by simp))
  | bl j=>cases ry;exact PySem.EqNone.eq_none_bool (aW I q (by simp))
  | int j=>obtain ⟨t',rfl⟩:=ry;exact PySem.EqNone.eq_none_int (aW I q (by simp))
  | str j=>obtain ⟨t',rfl⟩:=ry;exact PySem.EqNone.eq_none_str (aW I q (by simp))
  | _=>exact absurd (show false=true from hs) Bool.false_ne_true
 | bl i =>
  cases rx
  cases y with
  | dj=>cases ry;exact PySem.EqNone.eq_bool_none (aW I q (by simp))
  | bl j=>cases ry;exact eq_bool (aW I q Ds)
  | str j=>obtain ⟨t',rfl⟩:=ry;exact PySem.EqMixed.eq_bool_str (aW I q (by simp))
  | _=>exact absurd (show false=true from hs) Bool.false_ne_true
 | int i =>
  obtain ⟨t,rfl⟩:=rx
  cases y with
  | dj=>cases ry;exact PySem.EqNone.eq_int_none (aW I q (by simp))
  | int j=>obtain ⟨t',rfl⟩:=ry;exact eq_int (aW I q AS)
  | str j=>obtain ⟨t',rfl⟩:=ry;exact PySem.EqMixed.eq_int_str (aW I q (by simp))
  | _=>exact absurd (show false=true from hs) Bool.false_ne_true
 | str i =>
  obtain ⟨t,rfl⟩:=rx
  cases y with
  | dj=>cases ry;exact PySem.EqNone.eq_str_none (aW I q (by simp))
  | bl j=>cases ry;exact PySem.EqMixed.eq_str_bool (aW I q (by simp))
  | int j=>obtain ⟨t',rfl⟩:=ry;exact PySem.EqMixed.eq_str_int (aW I q (by simp))
  | str j=>obtain ⟨t',rfl⟩:=ry;exact eq_str (aW I q AU)
  | _=>exact absurd (show false=true from hs) Bool.false_ne_true
 | Dg i =>
  obtain ⟨t,rfl⟩:=rx
  cases y with
  | Dg j=>obtain ⟨t',rfl⟩:=ry;exact PySem.W.eq_bytes (aW I q AV)
  | _=>exact absurd (show false=true from hs) Bool.false_ne_true
 | _=>cases y <;> exact absurd (show false=true from hs) Bool.false_ne_true
theorem tO:gz X (compareOp .NotEq) Ra:=by
 intro pins s σ H x y v u Q I rx ry h
 obtain ⟨hs,q⟩:=h
 cases x with
 | dj =>
  cases rx
  cases y with
  | dj=>cases ry;exact PySem.EqNone.ne_none_none (aW I q (by simp))
  | bl j=>cases ry;exact PySem.EqNone.ne_none_bool (aW I q (by simp))
  | int j=>obtain ⟨t',rfl⟩:=ry;exact PySem.EqNone.ne_none_int (aW I q (by simp))
  | str j=>obtain ⟨t',rfl⟩:=ry;exact PySem.EqNone.ne_none_str (aW I q (by simp))
  | _=>exact absurd (show false=true from hs) Bool.false_ne_true
 | bl i =>
  cases rx
  cases y with
  | dj=>cases ry;exact PySem.EqNone.ne_bool_none (aW I q (by simp))
  | bl j=>cases ry;exact ne_bool (aW I q (congrArg not Ds))
  | str j=>obtain ⟨t',rfl⟩:=ry;exact PySem.EqMixed.ne_bool_str (aW I q (by simp))
  | _=>exact absurd (show false=true from hs) Bool.false_ne_true
 | int i =>
  obtain ⟨t,rfl⟩:=rx
  cases y with
  | dj=>cases ry;exact PySem.EqNone.ne_int_none (aW I q (by simp))
  | int j=>obtain ⟨t',rfl⟩:=ry;exact ne_int (aW I q (congrArg not AS))
  | str j=>obtain ⟨t',rfl⟩:=ry;exact PySem.EqMixed.ne_int_str (aW I q (by simp))
  | _=>exact absurd (show false=true from hs) Bool.false_ne_true
 | str i =>
  obtain ⟨t,rfl⟩:=rx
  cases y with
  | dj=>cases ry;exact PySem.EqNone.ne_str_none (aW I q (by simp))
  | bl j=>cases ry;exact PySem.EqMixed.ne_str_bool (aW I q (by simp))
  | int j=>obtain ⟨t',rfl⟩:=ry;exact PySem.EqMixed.ne_str_int (aW I q (by simp))
  | str j=>obtain ⟨t',rfl⟩:=ry;exact ne_str (aW I q (congrArg not AU))
  | _=>exact absurd (show false=true from hs) Bool.false_ne_true
 | Dg i =>
  obtain ⟨t,rfl⟩:=rx
  cases y with
  | Dg j=>obtain ⟨t',rfl⟩:=ry;exact PySem.W.ne_bytes (aW I q (congrArg not AV))
  | _=>exact absurd (show false=true from hs) Bool.false_ne_true
 | _=>cases y <;> exact absurd (show false=true from hs) Bool.false_ne_true
theorem Dt:gz X (compareOp .Lt) (Gw fun i j=>.bl (decide (i<j))):=Ku fun _ _ _ _ _ _ _ q=>lt_int q
theorem Du:gz X (compareOp .LtE) (Gw fun i j=>.bl (decide (i<=j))):=Ku fun _ _ _ _ _ _ _ q=>le_int q
theorem tP:gz X (compareOp .Gt) (Gw fun i j=>.bl (decide (j<i))):=Ku fun _ _ _ _ _ _ _ q=>gt_int q
theorem BH:gz X (compareOp .In) (fun x y H Q=>∃ i j,x=.str i/\y=.str j/\Q (.bl (!(Builtin.Str.occurrences j i 0 j.length 1).isEmpty)) H):=by
 intro pins s σ H x y v u Q I rx ry h
 obtain ⟨i,j,rfl,rfl,q⟩:=h
 obtain ⟨t,rfl⟩:=rx
 obtain ⟨t',rfl⟩:=ry
 exact in_str (aW I q rfl)
theorem oz:gz X (compareOp .Is) (fun x y H Q=>y=.dj/\Q (.bl (decide (x=.dj))) H):=by
 intro pins s σ H x y v u Q I rx ry h
 obtain ⟨rfl,q⟩:=h
 cases ry
 refine is_none_gen (aW I q ?_)
 cases x <;> first
  | (cases rx;rfl)
  | (obtain ⟨t,rfl⟩:=rx;rfl)
theorem aU(b:Expr){op:CmpOp}(h:op≠.In:=by decide)(h2:op≠.NotIn:=by decide):behindInMarks op b=false:=by
 have e1:(op == CmpOp.In)=false:=by cases op <;> first|rfl|exact absurd rfl h
 have e2:(op == CmpOp.NotIn)=false:=by cases op <;> first|rfl|exact absurd rfl h2
 cases b <;> simp [behindInMarks,e1,e2]
theorem iJ{op:CmpOp}{r:R2}(ho:gz X (compareOp op) r)(ha:PE X a ta)(hb:PE X b tb)(hm:behindInMarks op b=false):PE X (.Compare a [op] [b] pos) (MI r ta tb):=by
 intro pins s σ H Q I h
 exact wpAny_Compare1 (Ks ha hb I h fun v u s2 x y H2 I2 rx ry q=>ho pins s2 σ H2 x y v u Q I2 rx ry q) hm
def Dv(t:TE):TT:=fun σ H Q=>t σ H fun x H'=>∃ k,x=.bl k/\Q k H'
theorem aQ{op:CmpOp}{r:R2}(ho:gz X (compareOp op) r)(ha:PE X a ta)(hb:PE X b tb)(hm:behindInMarks op b=false):PT X (.Compare a [op] [b] pos) (Dv (MI r ta tb)):=by
 intro pins s σ H Q I h
 refine wpAny_isTrue_Compare1 (cb (ha pins s σ H _ I h) fun v s1 ⟨x,H1,I1,r1,q1⟩=>cb (hb pins s1 σ H1 _ I1 q1) fun u s2 ⟨y,H2,I2,r2,q2⟩ =>
  cb (ho pins s2 σ H2 x y v u _ I2 r1 r2 q2) fun c s3 ⟨z,H3,I3,r3,k,e,q3⟩=>?_) hm
 subst e
 cases r3
 exact wpAny_truthy_bool ⟨H3,I3,q3⟩
def Dw(r r':R2)(ta tb tc:TE):TE:=fun σ H Q=>ta σ H fun x H1=>tb σ H1 fun y H2=>r x y H2 fun z H3=>∃ k,z=.bl k /\
 (if k=true then tc σ H3 fun w' H4=>r' y w' H4 Q else Q (.bl false) H3)
theorem Dx{op Rb:CmpOp}{r r':R2}(ho:gz X (compareOp op) r)(Gm:gz X (compareOp Rb) r')(ha:PE X a ta)(hb:PE X b tb)(hc:PE X c tc)
  (hm:lastMarks [op,Rb] [b,c]=false:=by with_unfolding_all rfl):PT X (.Compare a [op,Rb] [b,c] pos) (Dv (Dw r r' ta tb tc)):=by
 intro pins s σ H Q I h
 refine isTrue_chain (cb (ha pins s σ H _ I h) fun v s1 ⟨x,H1,I1,r1,q1⟩=>test_link (cb (hb pins s1 σ H1 _ I1 q1) fun u s2 ⟨y,H2,I2,r2,q2⟩ =>
  cb (ho pins s2 σ H2 x y v u _ I2 r1 r2 q2) fun d s3 ⟨z,H3,I3,r3,k,e,q3⟩=>?_)) hm
 subst e
 cases r3
 refine wpAny_truthy_bool ?_
 cases k with
 | false =>
  obtain ⟨k',e',q'⟩:=q3
  cases e'
  exact ite_ff ⟨H3,I3,q'⟩
 | true =>
  refine ite_tt (test_last (cb (hc pins s3 σ H3 _ I3 q3) fun w' s4 ⟨z',H4,I4,r4,q4⟩=>cb (Gm pins s4 σ H4 y z' u w' _ I4 r2 r4 q4) fun d' s5 ⟨z2,H5,I5,r5,k2,e2,q5⟩=>?_))
  subst e2
  cases r5
  exact wpAny_truthy_bool ⟨H5,I5,q5⟩
theorem oA:(sizeLine:Nat)<2 ^ 63:=by rw [sizeLine_eq];decide
theorem zj:gz X (binaryOp .Add) (fun x y H Q=>∃ i j,x=.str i/\y=.str j/\i.length+j.length<=sizeLine/\Q (.str (i++j)) H):=by
 intro pins s σ H x y v u Q I rx ry h
 obtain ⟨i,j,rfl,rfl,hz,q⟩:=h
 obtain ⟨t,rfl⟩:=rx
 obtain ⟨t',rfl⟩:=ry
 exact add_str (fun t' tk=>⟨.str (i++j),H,I.tok _,⟨_,rfl⟩,q⟩) hz
theorem vals1{x:V}{us:List Value}(r:Vals [x] us):∃ u,us=[u]/\RelV x u:=by
 cases r with
 | cons r1 r2=>cases r2;exact⟨_,rfl,r1⟩
theorem vals2{x y:V}{us:List Value}(r:Vals [x,y] us):∃ u w',us=[u,w']/\RelV x u/\RelV y w':=by
 cases r with
 | cons r1 r2 =>
  cases r2 with
  | cons r3 r4=>cases r4;exact⟨_,_,rfl,r1,r3⟩
theorem Dy:bM X (.builtin "abs") (fun xs H Q=>∃ i,xs=[.int i]/\Q (.int (if i<0 then -i else i)) H):=by
 intro pins s σ H xs us Q I r h
 obtain ⟨i,rfl,q⟩:=h
 obtain ⟨u,rfl,t,rfl⟩:=vals1 r
 exact call_abs_int fun u tk=>⟨.int (if i<0 then -i else i),H,I.tok _,⟨_,rfl⟩,q⟩
theorem BI (hc:X.calm=true):bM X (.builtin "max") (fun xs H Q=>∃ i j,xs=[.int i,.int j]/\Q (.int (if j > i then j else i)) H):=by
 intro pins s σ H xs us Q I r h
 obtain ⟨i,j,rfl,q⟩:=h
 obtain ⟨u,w',rfl,⟨t,rfl⟩,⟨t',rfl⟩⟩:=vals2 r
 refine max_two_ints (I.ok.hd hc) fun h' tk k=>⟨_,H,I.kept k,?_,q⟩
 by_cases hj:j > i
 ·rw [if_pos hj,if_pos hj];exact⟨_,rfl⟩
 ·rw [if_neg hj,if_neg hj];exact⟨_,rfl⟩
theorem BJ (hc:X.calm=true):bM X (.builtin "min") (fun xs H Q=>∃ i j,xs=[.int i,.int j]/\Q (.int (if j<i then j else i)) H):=by
 intro pins s σ H xs us Q I r h
 obtain ⟨i,j,rfl,q⟩:=h
 obtain ⟨u,w',rfl,⟨t,rfl⟩,⟨t',rfl⟩⟩:=vals2 r
 refine min_two_ints (I.ok.hd hc) fun h' tk k=>⟨_,H,I.kept k,?_,q⟩
 by_cases hj:j<i
 ·rw [if_pos hj,if_pos hj];exact⟨_,rfl⟩
 ·rw [if_neg hj,if_neg hj];exact⟨_,rfl⟩
theorem uA:bM X (.type "str") (fun xs H Q=>∃ i,xs=[.int i]/\i.natAbs.log2<1920/\Q (.str (toString i)) H):=by
 intro pins s σ H xs us Q I r h
 obtain ⟨i,rfl,hz,q⟩:=h
 obtain ⟨u,rfl,t,rfl⟩:=vals1 r
 exact PySem.P.str_of_int hz ⟨.str _,H,I.tok _,⟨_,rfl⟩,q⟩
end
structure Kw(h:Heap)(x dx C:Addr)(mA:Str->Option Value):Prop where
 obj:h.get? x=some (instObj C dx)
 ns:h.Ns1 dx mA
 ne:dx≠x
theorem BK{h:Heap}{dx:Addr}{mA:Str->Option Value}(n:h.Ns1 dx mA):∃ od,h.get? dx=some od/\∀ name,lookIn name od=some (mA name):=by
 obtain ⟨o,es,ep,ho,hd,hk,_,hm⟩:=n
 refine⟨o,ho,fun name=>?_⟩
 have e:=hm name
 unfold nsFind findBy at e
 rw [<- Array.find?_toList] at e
 unfold lookIn
 rw [hd]
 dsimp only
 split
 ·rename_i y q
  rw [q] at e
  exact congrArg some e
 ·rename_i q
  rw [q] at e
  have a:es.toList.any (·.refKey)=false:=by
   rw [List.any_eq_false]
   intro y hy
   obtain ⟨z,t,Rc⟩:=hk y (Array.mem_toList_iff.mp hy)
   simp [DictEntry.refKey,Rc]
  have a':¬ es.toList.any (·.refKey)=true:=by rw [a];exact Bool.false_ne_true
  rw [if_neg a']
  exact congrArg some e
theorem Kw.look{h:Heap}{x dx C:Addr}{mA:Str->Option Value}(I:Kw h x dx C mA):∃ od,InstAt h x (instObj C dx) C (some od)/\∀ name,lookIn name od=some (mA name) :=
 let ⟨od,ho,hl⟩:=BK I.ns
 ⟨od,⟨I.obj,rfl,rfl,ho⟩,hl⟩
theorem ur.some_of{v:V}{o:Option Value}(r:ur (some v) o):∃ u,o=some u/\RelV v u:=by
 cases o with
 | none=>exact (show False from r).elim
 | some u=>exact⟨u,rfl,r⟩
section
variable {P:Program}{w:World}{H H':Hp}{h h':Heap}{a C dx:Addr}{fs Wn:List (Str×V)}
theorem Gx(bf:fP P w H h)(e:H a=some (.ins C dx fs)):∃ mA,Kw h a dx C mA/\(∀ f,ur (fs.lookup f) (mA f))/\PySem.Within mA (fs.map (·.1))/\fs.length<=1000/\H dx=some (.own a):=by
 obtain ⟨d,z,ne,ob,mA,n,r,q⟩:=(show cq P w H h a (.ins C dx fs) from bf a _ e)
 exact⟨mA,⟨ob,n,ne⟩,r,q,z,d⟩
end
structure Rf(K:Frag)(C:Addr):Prop where
 pg:plainGet K C Str.empty=true
 hd:PySem.W.hasDictIn K C=true
 po:PySem.W.plainOver K C=true
 sa:findIn K (.ref C) "__setattr__"=some (some (.builtin "object.__setattr__"))
theorem Rf.get{K:Frag}{C:Addr}(c:Rf K C)(f:Str):plainGet K C f=true:=c.pg
section
variable {X:Cx}{pins:List (Addr×Obj)}{σ:St}{H:Hp}{s:Shared}{A:Around}{E:Value->Shared->Prop}{Q:Value->Shared->Prop}{c:Value}{b:Bool}
inductive kQ(K:Frag)(H:Hp):V->Value->Prop where
 | dj:kQ K H .dj (.type "NoneType")
 | bl (x:Bool):kQ K H (.bl x) (.type "bool")
 | int (i:Int):kQ K H (.int i) (.type "int")
 | str (x:Str):kQ K H (.str x) (.type "str")
 | MC (x:UInt64):kQ K H (.MC x) (.type "float")
 | lst {a:Addr} {xs:List V} (e:H a=some (.lst xs)):kQ K H (.ref a) (.type "list")
 | xl {a:Addr} {o:Obj} {xs:List V} (e:H a=some (.xl o (.lst xs))):kQ K H (.ref a) (.type "list")
 | tup {a:Addr} {xs:List V} (e:H a=some (.tup xs)):kQ K H (.ref a) (.type "tuple")
 | dK {a:Addr} {dw:List (Key×V)} (e:H a=some (.dK dw)):kQ K H (.ref a) (.type "dict")
 | dT {a:Addr} {dw:List (List Key×V)} (e:H a=some (.dT dw)):kQ K H (.ref a) (.type "dict")
 | ins {a C dx:Addr} {fs:List (Str×V)} (e:H a=some (.ins C dx fs)) (cl:Rf K C) (ha:findIn K (.ref C) "__class__"=some (some (.builtin "object.__class__")))
   (hn:specialIn K (.builtin "object.__class__") "__get__"=some (some (.builtin "getset_descriptor.__get__"))) (UY:takesIn K (.builtin "object.__class__")=some true)
   (hm:mroIn K C (.type "object")=some true):kQ K H (.ref a) (.ref C)
theorem BL{x:V}{u t:Value}(I:Inv X pins σ H s)(rx:RelV x u)(ty:kQ X.K H x t)(e:kitOne X.K t c=some b)(h:∀ tk,Q (.bool b) { s with toks:=tk }) :
  wpAny (model X.prog X.w) A (call (.builtin "isinstance") [u,c]) Q E s:=by
 cases ty with
 | dj=>cases (show u=Value.none from rx);exact kia_one PySem.W.kitx_none I.nZ True.intro e (fun z=>nomatch z) h
 | bl y=>cases (show u=Value.bool y from rx);exact kia_one PySem.W.kitx_bool I.nZ True.intro e (fun z=>nomatch z) h
 | int i=>obtain ⟨t,q⟩:=(show ∃ t,u=Value.int i t from rx);cases q;exact kia_one PySem.W.kitx_int I.nZ True.intro e (fun z=>nomatch z) h
 | str y=>obtain ⟨t,q⟩:=(show ∃ t,u=Value.str y t from rx);cases q;exact kia_one PySem.W.kitx_str I.nZ True.intro e (fun z=>nomatch z) h
 | MC y=>obtain ⟨t,q⟩:=(show ∃ t,u=Value.float y t from rx);cases q;exact kia_one PySem.W.kitx_float I.nZ True.intro e (fun z=>nomatch z) h
 | @lst a xs ea =>
  cases (show u=Value.ref a from rx)
  obtain ⟨_,_,n,_,h1⟩:=(show cq X.prog X.w H s.heap a (.lst xs) from I.bf a _ ea)
  exact kia_one kitx_list I.nZ ⟨_,h1,rfl⟩ e (fun z=>nomatch z) h
 | @xl a ob xs ea =>
  cases (show u=Value.ref a from rx)
  obtain ⟨_,_,_,n,_,h1⟩:=(show cq X.prog X.w H s.heap a (.xl ob (.lst xs)) from I.bf a _ ea)
  exact kia_one kitx_list I.nZ ⟨_,h1,rfl⟩ e (fun z=>nomatch z) h
 | @tup a xs ea =>
  cases (show u=Value.ref a from rx)
  obtain ⟨_,_,_,p⟩:=(show cq X.prog X.w H s.heap a (.tup xs) from I.bf a _ ea)
  obtain ⟨o,h1,h2,_⟩:=p
  exact kia_one kitx_tuple I.nZ ⟨o,h1,h2⟩ e (fun z=>nomatch z) h
 | @dK a dw ea =>
  cases (show u=Value.ref a from rx)
  obtain ⟨_,_,vs,_,p⟩:=(show cq X.prog X.w H s.heap a (.dK dw) from I.bf a _ ea)
  obtain ⟨o,es,ep,h1,h2,_⟩:=p
  exact kia_one kitx_dict I.nZ ⟨o,h1,h2.1⟩ e (fun z=>nomatch z) h
 | @dT a dw ea =>
  cases (show u=Value.ref a from rx)
  obtain ⟨_,_,xs,_,o,es,ep,h1,h2,_⟩:=(show cq X.prog X.w H s.heap a (.dT dw) from I.bf a _ ea)
  exact kia_one kitx_dict I.nZ ⟨o,h1,h2.1⟩ e (fun z=>nomatch z) h
 | @ins a C dx fs ea cl ha hn UY hm =>
  cases (show u=Value.ref a from rx)
  obtain ⟨mA,O,_⟩:=Gx I.bf ea
  obtain ⟨od,J,_⟩:=O.look
  exact kia_one (PySem.W.kitx_own (cl.get _) cl.hd ha hn UY hm) I.nZ J e (fun z=>nomatch z) h
end
structure dJ(k:Nat)(A:Around):Prop where
 hd:A.handled=none
 dp:A.depth+3*k+5<recursionLimit
 un:A.units+16*k+200<cLine
theorem dJ.mono{j k:Nat}{A:Around}(r:dJ k A)(h:j<=k):dJ j A:=⟨r.hd,by have:=r.dp;lia,by have:=r.un;lia⟩
theorem dJ.deeper{k:Nat}{A:Around}(r:dJ (k+1) A)(env:Env):dJ k (A.deeper env) :=
 ⟨r.hd,by have:=r.dp;show A.depth+1+3*k+5<_;lia,by have:=r.un;show A.units+3+16*k+200<_;lia⟩
theorem dJ.depth{k:Nat}{A:Around}(r:dJ k A):A.depth<recursionLimit:=by have:=r.dp;lia
theorem dJ.units{k:Nat}{A:Around}(r:dJ k A):A.units+64<cLine:=by have:=r.un;lia
def Nz:TA:=fun _ H Q=>Q [] H
def Jh(ta:TE)(tr:TA):TA:=fun σ H Q=>ta σ H fun x H1=>tr σ H1 fun xs H2=>Q (x::xs) H2
section
variable {X:Cx}{e:Expr}{es:List Expr}{te:TE}{t:TA}{pos:Pos}
theorem af:PA X [] Nz:=fun _ _ _ _ H Q I h=>Calls.spliced_nil ⟨[],H,I,.nil,h⟩
theorem aa(ha:PE X e te)(hr:PA X es t)(hs:starEach (e::es) X.env=(false,eval e X.env)::starEach es X.env:=by rfl):PA X (e::es) (Jh te t):=by
 intro pos pins s σ H Q I h
 rw [hs]
 show wpAny _ _ (spliced ((false,eval e X.env)::backTo pos (starEach es X.env))) _ _ s
 refine Calls.spliced_cons (cb (ha pins s σ H _ I h) fun u s1 ⟨x,H1,I1,r1,q1⟩=>?_)
 exact cb (hr pos pins s1 σ H1 _ I1 q1) fun us s2 ⟨xs,H2,I2,r2,q2⟩=>⟨x::xs,H2,I2,.cons r1 r2,q2⟩
def NA(t:TA):TE:=fun σ H Q=>t σ H fun xs H1=>xs.length<=sizeLine/\∀ p,H1 p=none->Q (.ref p) (upd H1 p (.tup xs))
def NB(t:TA):TE:=fun σ H Q=>t σ H fun xs H1=>xs.length<=sizeLine/\∀ p,H1 p=none->Q (.ref p) (upd H1 p (.lst xs))
theorem aR{x1}(h:PA X es t):PE X (.Tuple es x1 pos) (NA t):=by
 intro pins s σ H Q I hq
 refine wpAny_Tuple_spliced (cb (h pos pins s σ H _ I hq) fun us s1 ⟨xs,H1,I1,r,z,q⟩=>⟨by rw [<- r.length];exact z,?_⟩)
 have hf:H1 s1.heap.objs.size=none:=I1.bf.fresh (Zn _)
 refine⟨.ref s1.heap.objs.size,upd H1 s1.heap.objs.size (.tup xs),I1.laid (t':=s1.toks) (fun b u e=>Zf _ e) (Zn _) ?_,rfl,q _ hf⟩
 exact⟨z,us,r,⟨_,Zk _ rfl,rfl,_,rfl⟩⟩
theorem bN(h:PA X es t):PE X (.List es pos) (NB t):=by
 intro pins s σ H Q I hq
 refine wpAny_List_spliced (cb (h pos pins s σ H _ I hq) fun us s1 ⟨xs,H1,I1,r,z,q⟩=>⟨by rw [<- r.length];exact z,?_⟩)
 have hf:H1 s1.heap.objs.size=none:=I1.bf.fresh (Zn _)
 refine⟨.ref s1.heap.objs.size,upd H1 s1.heap.objs.size (.lst xs),I1.laid (t':=s1.toks) (fun b u e=>Zf _ e) (Zn _) ?_,rfl,q _ hf⟩
 exact⟨z,us,0,r,Zk _ rfl⟩
end
abbrev Sp:=List V->Hp->VK->XK->Prop
abbrev C9:=List Env->Hp->Shared->XK->Value->Shared->Prop
structure Gy(P:Program)(w:World)(K:Frag)(mg:Str->Option Value)(base:Heap)(A:Around)(outer:List Env)(s:Shared)(H:Hp):Prop where
 frames:A.frames=some outer
 mod:Mod K mg base
 bs:∀ b o,base.get? b=some o->s.heap.get? b=some o/\H b=none
 C8:base.objs.size<=s.heap.objs.size
 jM:s.heap.FunFrames base outer
 IW:∀ b∈ow outer,H b=none
 bf:fP P w H s.heap
 bare:AllBare s.gens
def CE(outer:List Env)(P:Program)(w:World)(H:Hp)(s:Shared)(Q:VK)(u:Value)(s':Shared):Prop :=
 ∃ v H',s'.os=s.os/\AllBare s'.gens/\Un (ow outer) [] H H' s.heap s'.heap/\fP P w H' s'.heap/\RelV v u/\Q v H'
def CR(CX:C9)(outer:List Env)(P:Program)(w:World)(H:Hp)(s:Shared)(Q:VK)(E:XK)(r:Result)(s':Shared):Prop :=
 match r with
 | .ok (.ret u)=>CE outer P w H s Q u s'
 | .ok _=>False
 | .error e=>CX outer H s E e s'
structure oB(P:Program)(w:World)(K:Frag)(mg:Str->Option Value)(base:Heap)(CX:C9)(k:Nat)(f:Addr)(fd:FuncData)(ps:List Str)(sp:Sp):Prop where
 len:∀ vs H Q E,sp vs H Q E->vs.length=ps.length
 run:∀ (A:Around) (outer:List Env) (s:Shared) (H:Hp) (args:Args) (us:List Value) (vs:List V) (Q:VK) (E:XK),dJ k A->Gy P w K mg base A outer s H->BindsTo s fd args (ps.zip us)->Vals vs us->sp vs H Q E ->
  codeAny (model P w) A (.call (.ref f) args) (CR CX outer P w H s Q E) s
section
variable {X:Cx}{pins:List (Addr×Obj)}{σ:St}{H:Hp}{s s':Shared}
theorem Inv.NC(I:Inv X pins σ H s):Gy X.prog X.w X.K X.mg X.base X.A X.stack s H :=
 ⟨I.ok.frames,I.ok.mod,I.bs,Zm I.ok.C8 I.sz,I.stack,I.jN,I.bf,I.bare⟩
theorem Inv.after{Q:VK}{u:Value}(I:Inv X pins σ H s)(h:CE X.stack X.prog X.w H s Q u s'):EP X pins σ Q u s':=by
 obtain ⟨v,H',os,bare,un,bf,r,q⟩:=h
 obtain ⟨hh,g,d,t,Wt⟩:=s'
 obtain rfl:Wt=s.os:=os
 exact⟨v,H',I.call (h':=hh) (g':=g) (d':=d) (t':=t) (ch:=[]) un bf bare (fun b z=>absurd z (by simp)),r,q⟩
end
def AW(sp:Sp)(Ji:List V)(E:XK)(t:TA):TE:=fun σ H Q=>t σ H fun vs H1=>sp (vs++Ji) H1 Q E
def Binds(K:Frag)(fd:FuncData)(ps:List Str)(ds:List Value):Prop :=
 ∀ (s:Shared) (us:List Value),K.In s.heap->(us++ds).length=ps.length->BindsTo s fd ⟨us,[]⟩ (ps.zip (us++ds))
theorem Binds.all{K:Frag}{fd:FuncData}{ps:List Str}(h:∀ us:List Value,us.length=ps.length->bindArgs fd ⟨us,[]⟩=pure (ps.zip us)):Binds K fd ps []:=fun s us _ hl=>by
 rw [append_nil] at hl ⊢
 exact .of_eq (h us hl)
def Passes(CX:C9)(X:Cx)(E:XK):Prop:=∀ (pins:List (Addr×Obj)) (σ:St) (H:Hp) (s:Shared) (e:Value) (s':Shared),Inv X pins σ H s->CX X.stack H s E e s'->X.xe e s'
section
variable {X:Cx}{CX:C9}{k:Nat}{f C:Addr}{fd:FuncData}{ps:List Str}{sp:Sp}{Ji:List V}{ds:List Value}{E:XK}{x m:Str}{p pos apos:Pos}{e o:Expr}{es:List Expr}{ta:TE}{t:TA}
theorem Kx{pins:List (Addr×Obj)}{σ:St}{H:Hp}{s:Shared}{Q:VK}{us:List Value}{vs:List V}(F:oB X.prog X.w X.K X.mg X.base CX k f fd ps sp)(hr:dJ k X.A)(hb:Binds X.K fd ps ds)(hd:Vals Ji ds)(hx:Passes CX X E)
  (I:Inv X pins σ H s) (r:Vals vs us) (h:sp (vs++Ji) H Q E):wpAny (model X.prog X.w) X.A (call (.ref f) us) (EP X pins σ Q) X.xe s:=by
 have r2:Vals (vs++Ji) (us++ds):=r.append hd
 have hl:(us++ds).length=ps.length:=by rw [<- r2.length];exact F.len _ _ _ _ h
 refine wpAny_call (codeAny_mono (F.run X.A X.stack s H ⟨us,[]⟩ (us++ds) (vs++Ji) Q E hr I.NC (hb s us I.nZ hl) r2 h) fun r s' hq=>?_)
 cases r with
 | error e=>exact hx pins σ H s e s' I hq
 | ok fl =>
  cases fl with
  | ret u=>exact I.after hq
  | next=>exact False.elim hq
  | brk=>exact False.elim hq
  | cont=>exact False.elim hq
theorem Gz(F:oB X.prog X.w X.K X.mg X.base CX k f fd ps sp)(hr:dJ k X.A)(hg:Gl X x)(hm:X.mg x=some (.ref f))(hk:keepIn X.K (.ref f)=true)(hb:Binds X.K fd ps ds)(hd:Vals Ji ds)(hx:Passes CX X E)
  (ha:PA X (e::es) t) (Dz:(x == ("__debug__":Str))=false:=by decide) (he:starEach (e::es) X.env=(false,eval e X.env)::starEach es X.env:=by rfl) (oC:(backTo pos (starEach es X.env)).any (·.1)=false:=by rfl) :
  PE X (.Call (.Name x p) (e::es) [] pos) (AW sp Ji E t):=by
 intro pins s σ H Q I h
 refine wpAny_Call_Name_kw (n6 I hg hm ?_ Dz)
 refine callWith_K (h₀:=X.base) I.ok.mod.Ni hk (cb (ha pos pins s σ H _ I h) fun us s1 ⟨vs,H1,I1,r,q⟩=>⟨I1.nZ,?_⟩) he oC
 exact Kx F hr hb hd hx I1 r q
end
structure az(N P:List Str)(sc:Scope):Prop where
 kind:sc.kind=.function
 co:sc.isCoroutine=false
 gen:sc.isGenerator=false
 nd:N.Nodup
 pre:N.take P.length=P
 par:∀ x∈P,sc.names.lookup x=some .local\/sc.names.lookup x=some .cell
 Ky:∀ y∈sc.names,y.2≠.free
theorem tQ{kindOf:Str->Option NameKind}{x:Str}:∀ {binds:List (Str×Value)} {m:Str->Option Value},(∀ v,(x,v)∉binds)->bindL kindOf binds m x=m x
 | [],_,_=>rfl
 | (n,v)::r,m,h=>by
  unfold bindL
  rw [tQ fun w hw=>h w (ZK _ hw)]
  split
  ·have:x≠n:=by rintro rfl;exact h v mem_cons_self
   simp [this]
  ·rfl
theorem tR{kindOf:Str->Option NameKind}{x:Str}:∀ {binds:List (Str×Value)} {m:Str->Option Value},(∀ v,(x,v)∉binds)->bindC kindOf binds m x=m x
 | [],_,_=>rfl
 | (n,v)::r,m,h=>by
  unfold bindC
  rw [tR fun w hw=>h w (ZK _ hw)]
  split
  ·rfl
  ·have:x≠n:=by rintro rfl;exact h v mem_cons_self
   simp [this]
theorem tS{kindOf:Str->Option NameKind}{x:Str}{v:Value}:∀ {P:List Str} {vs:List Value} {i:Nat} {m:Str->Option Value},P.Nodup->P[i]?=some x->vs[i]?=some v->kindOf x=some .local ->
  bindL kindOf (P.zip vs) m x=some v
 | [],_,_,_,_,h,_,_=>by simp at h
 | _::_,[],_,_,_,_,h,_=>by simp at h
 | p::P,w::vs,0,m,nd,h1,h2,hk=>by
  simp at h1 h2;subst h1;subst h2
  show bindL kindOf ((p,w)::P.zip vs) m p=_
  unfold bindL
  rw [tQ fun v hv=>(nodup_cons.mp nd).1 (of_mem_zip hv).1,if_pos hk]
  simp
 | p::P,w::vs,i+1,m,nd,h1,h2,hk=>by
  show bindL kindOf ((p,w)::P.zip vs) m x=_
  unfold bindL
  exact tS (i:=i) (nodup_cons.mp nd).2 (by simpa using h1) (by simpa using h2) hk
theorem tT{kindOf:Str->Option NameKind}{x:Str}{v:Value}:∀ {P:List Str} {vs:List Value} {i:Nat} {m:Str->Option Value},P.Nodup->P[i]?=some x->vs[i]?=some v->kindOf x≠some .local ->
  bindC kindOf (P.zip vs) m x=some v
 | [],_,_,_,_,h,_,_=>by simp at h
 | _::_,[],_,_,_,_,h,_=>by simp at h
 | p::P,w::vs,0,m,nd,h1,h2,hk=>by
  simp at h1 h2;subst h1;subst h2
  show bindC kindOf ((p,w)::P.zip vs) m p=_
  unfold bindC
  rw [tR fun v hv=>(nodup_cons.mp nd).1 (of_mem_zip hv).1,if_neg hk]
  simp
 | p::P,w::vs,i+1,m,nd,h1,h2,hk=>by
  show bindC kindOf ((p,w)::P.zip vs) m x=_
  unfold bindC
  exact tT (i:=i) (nodup_cons.mp nd).2 (by simpa using h1) (by simpa using h2) hk
def start(N:List Str)(vs:List V):St:=vs.map some++List.replicate (N.length - vs.length) none
def jo(CX:C9)(P:Program)(w:World)(K:Frag)(mg:Str->Option Value)(base:Heap)(N:List Str)(qual:Str)(scope:Scope)(f:Addr)(cd:Value)(A:Around)(outer:List Env)(s:Shared)(H:Hp)(E:XK):Cx where
 prog:=P
 w:=w
 K:=K
 mg:=mg
 base:=base
 A:=A.deeper (envOfC qual scope s.heap.objs.size f cd)
 N:=N
 s₀:=s
 H₀:=H
 env:=envOfC qual scope s.heap.objs.size f cd
 outer:=outer
 stack:=envOfC qual scope s.heap.objs.size f cd::outer
 ex:=[]
 calm:=true
 fn:=fun _=>true
 pn:=[]
 xe:=fun e s'=>wpAny (model P w) (A.deeper (envOfC qual scope s.heap.objs.size f cd)) (leaving (envOfC qual scope s.heap.objs.size f cd) e) (fun _ Rg=>CX outer H s E e Rg) (fun e' Rg=>CX outer H s E e' Rg) s'
theorem xr{sc:Scope}{n:Nat}{x:Str}(h:sc.names.lookup x=some .cell):∃ c,(cellsFrom n sc.names []).lookup x=some c:=by
 have q:=cellsFrom_some sc.names n [] (.inl h)
 exact Zx.mp q
theorem BM{CX:C9}{P:Program}{w:World}{K:Frag}{mg:Str->Option Value}{base:Heap}{N ps:List Str}{qual:Str}{scope:Scope}{f:Addr}{cd:Value}{A:Around}{outer:List Env}{s s1:Shared}{H:Hp}{E:XK}{us:List Value}{vs:List V}
  (S:az N ps scope) (hd:A.handled=none) (e0:Gy P w K mg base A outer s H) (hl:vs.length=ps.length) (r:Vals vs us)
  (x:InCallC s s.heap.objs.size (bindL (envOfC qual scope s.heap.objs.size f cd).kindOf (ps.zip us) fun _=>none) (cellsFrom (s.heap.objs.size+1) scope.names []) (bindC (envOfC qual scope s.heap.objs.size f cd).kindOf (ps.zip us) fun _=>none) s1) :
  Inv (jo CX P w K mg base N qual scope f cd A outer s H E) [] (start N vs) H s1:=by
 have oC:ps.length<=N.length:=by have:=congrArg List.length S.pre;rw [ZS] at this;lia
 obtain ⟨h1,tk,rfl,hk⟩:=x.done
 have ND:∀ b:Addr,b∉(jo CX P w K mg base N qual scope f cd A outer s H E).ex:=fun b z=>absurd (show b∈([]:List Addr) from z) (by simp)
 refine⟨⟨e0.mod,S.kind,rfl,rfl,Zn _,fun y z c h1 h2=>?_,fun y hy=>?_,fun y c _ h=>?_,fun _=>hd,Around.frames_deeper e0.frames,.inr ⟨rfl,rfl⟩,fun b z=>absurd z (ND b),e0.bs,e0.C8,fun b _ _=>ND b,fun b z=>absurd z (ND b),e0.jM,e0.IW⟩,
  rfl,e0.bare,Un.kept hk,⟨_,x.toInCall.ns,fun i y v h1 h2 h3=>?_⟩,fun y c h=>⟨_,x.cell y c h⟩,e0.bf.fresh (Zn _),fun y c h=>?_,fun p hp=>absurd (show p∈([]:List (Addr×Obj)) from hp) (by simp),e0.bf.kept hk,?_⟩
 ·exact name_of_addr x.apart (PySem.mem_of_lookup h1) (PySem.mem_of_lookup h2)
 ·have hy:scope.names.lookup y=some .cell\/scope.names.lookup y=some .free:=hy
  rcases hy with hy|hy
  ·exact xr hy
  ·exact absurd rfl (S.Ky _ (PySem.mem_of_lookup hy))
 ·exact Zo (x.above y c (PySem.mem_of_lookup h))
 ·have hi:i<vs.length:=by
   unfold start at h2
   by_cases hi:i<vs.length
   ·exact hi
   ·rw [Zq (by simpa using hi)] at h2
    rw [List.getElem?_replicate] at h2
    split at h2 <;> cases h2
  have ha:vs[i]?=some v:=by
   unfold start at h2
   rw [ZP (by simpa using hi),ZU] at h2
   cases e:vs[i]? with
   | none=>rw [e] at h2;cases h2
   | some a=>rw [e] at h2;cases h2;rfl
  obtain ⟨u,hu,rv⟩:=r.get ha
  have hp:ps[i]?=some y:=by
   rw [<- S.pre,List.getElem?_take_of_lt (by lia)];exact h1
  have UZ:ps.Nodup:=by rw [<- S.pre];exact S.nd.sublist (List.take_sublist _ _)
  refine⟨u,rv,?_⟩
  rcases S.par y (ZH hp) with k|k
  ·exact .inl ⟨k,tS UZ hp hu k⟩
  ·obtain ⟨c,e⟩:=xr (n:=s.heap.objs.size+1) k
   refine .inr ⟨.inl k,c,e,?_⟩
   have q:=x.cell y c e
   rw [tT UZ hp hu (by show scope.names.lookup y≠_;rw [k];decide)] at q
   exact q
 ·exact e0.bf.fresh (Zo (x.above y c (PySem.mem_of_lookup h)))
 ·unfold start
  show _=N.length
  rw [ZJ,ZI,length_replicate]
  lia
theorem DA{CX:C9}{P:Program}{w:World}{K:Frag}{mg:Str->Option Value}{base:Heap}{k:Nat}{f:Addr}{name qual:Str}{params:Arguments}{body:List Stmt}{scope:Scope}{dV kV doc pm bO ct oc:Value}{an od:Option Addr}
  {F4:Array (Option Value)} {N ps:List Str} {sp:Sp} (lk:K.lookup f=some ⟨oc,od,.func (fnOf name qual params body scope dV kV doc pm an bO ct),F4⟩) (ze:codeIn K bO qual=true) (S:az N ps scope)
  (len:∀ vs H Q E,sp vs H Q E->vs.length=ps.length)
  (jR:∀ (A:Around) (outer:List Env) (s:Shared) (H:Hp) (vs:List V) (Q:VK) (E:XK),dJ k (A.deeper (envOfC qual scope s.heap.objs.size f bO))->sp vs H Q E ->
   ∃ t,tL (jo CX P w K mg base N qual scope f bO A outer s H E) body t/\t { nx:=fun _ H'=>Q .dj H',rt:=Q } (start N vs) H) :
  oB P w K mg base CX (k+1) f (fnOf name qual params body scope dV kV doc pm an bO ct) ps sp:=by
 refine⟨len,fun A outer s H args us vs Q E hr e0 hb r yV=>?_⟩
 have hl:=len _ _ _ _ yV
 have KX:K.In s.heap:=e0.mod.Ni.keeps fun b o e=>(e0.bs b o e).1
 have lim:s.heap.NoLimit:=e0.mod.nolimit.keeps fun b o e=>(e0.bs b o e).1
 have NF:∀ y∈ps.zip us,scope.names.lookup y.1=some .local\/(scope.names.lookup y.1=some .cell/\((cellsFrom (s.heap.objs.size+1) scope.names []).lookup y.1).isSome=true):=fun ⟨n,v⟩ hy=>by
  rcases S.par n (of_mem_zip hy).1 with q|q
  ·exact .inl q
  ·exact .inr ⟨q,cellsFrom_some _ _ _ (.inl q)⟩
 refine codeAny_call_function hr.depth (KX _ _ lk) rfl S.co S.gen rfl (PySem.W.codeRec_of KX ze) (hb _ _ _ _ ?_)
 refine wpAny_newFunctionEnv_cells S.kind NF fun env he s1 x=>?_
 subst he
 refine⟨lim.keeps x.toInCall.keep,codeAny_func ?_⟩
 obtain ⟨t,ht,hq⟩:=jR A outer s H vs Q E (hr.deeper _) yV
 have I:Inv (jo CX P w K mg base N qual scope f bO A outer s H E) [] (start N vs) H s1:=BM S hr.hd e0 hl r x
 refine Zz (ht [] s1 (start N vs) H _ I hq) (fun fl s' hs=>?_) fun e s' hs=>hs
 have fin:∀ {σ':St} {H':Hp} {v:V} {u:Value},Inv (jo CX P w K mg base N qual scope f bO A outer s H E) [] σ' H' s'->RelV v u->Q v H'->CE outer P w H s Q u s' :=
  fun {σ' H' v u} J rv q=>⟨v,H',J.os,J.bare,J.base,J.bf,rv,q⟩
 cases fl with
 | ret u =>
  obtain ⟨v,σ',H',J,rv,q⟩:=hs
  exact fin J rv q
 | next =>
  obtain ⟨σ',H',J,q⟩:=hs
  exact fin (v:=V.dj) (u:=Value.none) J rfl q
 | brk =>
  obtain ⟨_,_,_,q⟩:=hs
  exact False.elim q
 | cont =>
  obtain ⟨_,_,_,q⟩:=hs
  exact False.elim q
section
variable {X:Cx}{x:Str}{p pos:Pos}{e:Expr}{es:List Expr}{t:TA}{id T:String}{r:List V->Hp->VK->Prop}
def Rh(r:List V->Hp->VK->Prop)(t:TA):TE:=fun σ H Q=>t σ H fun vs H1=>r vs H1 Q
theorem aH (hc:bM X (.builtin id) r) (hg:Gl X x) (hm:X.mg x=none) (hv:bootBuiltins x=some (.builtin id)) (ha:PA X (e::es) t) (hn:x≠"__name__":=by decide) (Dz:(x == ("__debug__":Str))=false:=by decide)
  (he:starEach (e::es) X.env=(false,eval e X.env)::starEach es X.env:=by rfl) (oC:(backTo pos (starEach es X.env)).any (·.1)=false:=by rfl):PE X (.Call (.Name x p) (e::es) [] pos) (Rh r t):=by
 intro pins s σ H Q I h
 refine wpAny_Call_Name_kw (jm I hg hm hv ?_ hn Dz)
 exact PyProof.Rows.callWith_builtin1 (cb (ha pos pins s σ H _ I h) fun us s1 ⟨vs,H1,I1,r1,q1⟩=>hc pins s1 σ H1 vs us Q I1 r1 q1) he oC
theorem bt (hc:bM X (.type T) r) (hg:Gl X x) (hm:X.mg x=none) (hv:bootBuiltins x=some (.type T)) (ha:PA X (e::es) t) (hn:x≠"__name__":=by decide) (Dz:(x == ("__debug__":Str))=false:=by decide)
  (he:starEach (e::es) X.env=(false,eval e X.env)::starEach es X.env:=by rfl) (oC:(backTo pos (starEach es X.env)).any (·.1)=false:=by rfl):PE X (.Call (.Name x p) (e::es) [] pos) (Rh r t):=by
 intro pins s σ H Q I h
 refine wpAny_Call_Name_kw (jm I hg hm hv ?_ hn Dz)
 exact callWith_type1 (cb (ha pos pins s σ H _ I h) fun us s1 ⟨vs,H1,I1,r1,q1⟩=>hc pins s1 σ H1 vs us Q I1 r1 q1) he oC
end
end L2
namespace HT
open PySem PyProof.Rows
section
variable {prog:Program}{w:World}{A:Around}{E:Value->Shared->Prop}{s:Shared}
theorem GA{t b:Addr}{vs ws:List Value}{Q:Value->Shared->Prop}(ht:IsTup s.heap t vs.toArray)(hb:IsTup s.heap b ws.toArray)(hv:vs≠[])
  (h1:ws=[]->Q (.ref t) s) (h2:ws≠[]->Q (.ref s.heap.objs.size) { s with heap:=s.heap.push { cls:=.type "tuple",data:=.seq (vs++ws).toArray } })
  (jq:vs.length+ws.length<=sizeLine):wpAny (model prog w) A (binaryOp .Add (.ref t) (.ref b)) Q E s:=by
 obtain ⟨⟨cls,dd,data,sl⟩,ho,hc,n,hd⟩:=id ht
 obtain ⟨⟨Wu,U0,data2,U1⟩,F5,Qk,n2,hd2⟩:=id hb
 simp only at hc hd Qk hd2
 subst hc hd Qk hd2
 have e:vs.toArray++ws.toArray=(vs++ws).toArray:=by simp
 by_cases hw:ws=[]
 ·exact concat_meets ⟨_,ho,rfl⟩ ⟨_,F5,rfl⟩ noFill_tuple_add seq_tuple_add PySem.F.slot_tuple_add PySem.F.entry_tuple_add (PySem.F.args_tuple_add_2 _ _)
   (tuple_addW1 t b vs.toArray ws.toArray n n2 dd U0 sl U1 (by simpa using hv) (by simp [hw])) ⟨ho,F5,h1 hw⟩
 ·refine concat_meets ⟨_,ho,rfl⟩ ⟨_,F5,rfl⟩ noFill_tuple_add seq_tuple_add PySem.F.slot_tuple_add PySem.F.entry_tuple_add (PySem.F.args_tuple_add_2 _ _)
   (tuple_addW2 t b vs.toArray ws.toArray n n2 dd U0 sl U1 (by simpa using hv) (by simpa using hw) (by rw [ZT,ZT];exact jq)) ⟨ho,F5,?_⟩
  rw [e]
  exact h2 hw
def eF(n d:Nat):Option Int->Nat
 | none=>d
 | some v=>if v<0 then (v+(n:Int)).toNat else min v.toNat n
theorem DB(n d:Nat):eF n d none=d:=rfl
theorem AX(n d k:Nat):eF n d (some (k:Int))=min k n:=by
 show (if (k:Int)<0 then ((k:Int)+(n:Int)).toNat else min (k:Int).toNat n)=min k n
 rw [if_neg (by lia),Z3]
theorem Kz(n d:Nat)(hd:d<=n)(o:Option Int):eF n d o<=n:=by
 cases o with
 | none=>exact hd
 | some v =>
  show (if v<0 then (v+(n:Int)).toNat else min v.toNat n)<=n
  by_cases hv:v<0
  ·rw [if_pos hv];lia
  ·rw [if_neg hv];exact Nat.min_le_right _ _
theorem AY(v:Int)(n d:Nat):(if v<0 then max (v+(n:Int)) 0 else min v (n:Int))=((eF n d (some v):Nat):Int):=by
 show (if v<0 then max (v+(n:Int)) 0 else min v (n:Int))=(((if v<0 then (v+(n:Int)).toNat else min v.toNat n):Nat):Int)
 by_cases hv:v<0
 ·simp only [if_pos hv];lia
 ·simp only [if_neg hv];lia
theorem zk(lo hi:Option Int)(n:Nat):Builtin.Slice.sliceAdjust lo hi 1 (n:Int)=(((eF n 0 lo:Nat):Int),((eF n n hi:Nat):Int)):=by
 have h1:¬ ((1:Int)<0):=by lia
 unfold Builtin.Slice.sliceAdjust
 simp only [h1,if_false]
 refine Prod.ext ?_ ?_
 ·cases lo with
  | none=>rfl
  | some v=>exact AY v n 0
 ·cases hi with
  | none=>rfl
  | some v=>exact AY v n n
theorem zl(i j:Nat):Builtin.Slice.slicePlaces (i:Int) (j:Int) 1=j - i:=by
 unfold Builtin.Slice.slicePlaces
 have h1:(1:Int) > 0:=by lia
 simp only [h1,if_true,Int.ediv_one]
 split <;> lia
theorem oD{v:Value}{o:Option Int}{Q:Option Int->Shared->Prop}(p:IsPart v o)(h:Q o s):wpAny (model prog w) A (Builtin.Slice.slicePartIndex v) Q E s:=by
 cases p with
 | none=>exact slicePart_none h
 | int i t=>exact slicePart_int h
theorem kR{sl:Addr}{vl vu:Value}{lo hi:Option Int}{n:Nat}{Q:Int×Int×Nat->Shared->Prop}(hs:s.heap.IsSliceOf sl vl vu .none)(pl:IsPart vl lo)(pu:IsPart vu hi)
  (h:Q (((eF n 0 lo:Nat):Int),1,eF n n hi - eF n 0 lo) s):wpAny (model prog w) A (Builtin.Slice.sliceApplied (.ref sl) (pure (n:Int))) Q E s:=by
 obtain ⟨os,NG,BN,DC⟩:=id hs
 unfold Builtin.Slice.sliceApplied Builtin.Slice.sliceFields
 refine Zg (Zg (wpAny_field NG DC (x:=vl) rfl (Zg (wpAny_field NG DC (x:=vu) rfl (Zg (wpAny_field NG DC (x:=.none) rfl (Zy ?_)))))))
 refine Zg (slicePart_none ?_)
 show wpAny _ _ (if ((1:Int) == 0)=true then _ else _) _ _ s
 rw [if_neg (by decide)]
 refine Zg (oD pl (Zg (oD pu (Zg (Zy ?_)))))
 show wpAny _ _ (match Builtin.Slice.sliceAdjust lo hi 1 (n:Int) with|(lo,hi)=>pure (lo,(1:Int),Builtin.Slice.slicePlaces lo hi 1)) _ _ s
 rw [zk lo hi n]
 show wpAny _ _ (pure (((eF n 0 lo:Nat):Int),(1:Int),Builtin.Slice.slicePlaces ((eF n 0 lo:Nat):Int) ((eF n n hi:Nat):Int) 1)) _ _ s
 rw [zl]
 exact Zy h
theorem DD(xs:Array Value)(i k:Nat):((List.range k).filterMap fun (m:Nat)=>xs[((i:Int)+(m:Int)*1).toNat]?).toArray=((xs.toList.drop i).take k).toArray:=by
 have e:(fun (m:Nat)=>xs[((i:Int)+(m:Int)*1).toNat]?)=fun m=>xs[i+m]?:=by
  funext m
  have:((i:Int)+(m:Int)*1).toNat=i+m:=by lia
  rw [this]
 rw [e]
 have:=pick_run xs i k
 rw [List.filterMap_map] at this
 have e2:((fun x=>xs[x]?) ∘ fun x=>i+x)=fun m=>xs[i+m]?:=rfl
 rw [e2] at this
 rw [this]
theorem jS{t sl:Addr}{items:Array Value}{vl vu:Value}{lo hi:Option Int}{Q:Value->Shared->Prop}(ht:IsTup s.heap t items)(hs:s.heap.IsSliceOf sl vl vu .none)(pl:IsPart vl lo)(pu:IsPart vu hi)
  (hw:¬ (eF items.size 0 lo=0/\eF items.size items.size hi=items.size))
  (h:Q (.ref s.heap.objs.size) { s with heap:=s.heap.push { cls:=.type "tuple",data:=.seq ((items.toList.drop (eF items.size 0 lo)).take (eF items.size items.size hi - eF items.size 0 lo)).toArray } })
  (jq:items.size<=sizeLine):wpAny (model prog w) A (getItem (.ref t) (.ref sl)) Q E s:=by
 have AZ:sizeOk (.seq ((items.toList.drop (eF items.size 0 lo)).take (eF items.size items.size hi - eF items.size 0 lo)).toArray):=by
  show ((items.toList.drop (eF items.size 0 lo)).take (eF items.size items.size hi - eF items.size 0 lo)).toArray.size<=sizeLine
  rw [ZT,ZS,length_drop,Array.length_toList]
  exact Zm (Nat.min_le_right _ _) (Zm (Nat.sub_le _ _) jq)
 have hj:eF items.size items.size hi<=items.size:=Kz _ _ (Zn _) hi
 obtain ⟨os,NG,BN,DC⟩:=id hs
 have Wv:s.TypeIs (.ref sl) "slice":=⟨os,NG,BN⟩
 unfold getItem
 try with_reducible refine wpAny_holding ?_
 first|refine Zg (Zy ?_)|skip
 refine Zg (wpAny_sequenceKey ht.typeIs (by decide) ?_)
 refine Zg (wpAny_callSpecial?_slot (name:=Str.ofString "__getitem__") ht.typeIs PyProof.Rows.slot_tuple_getitem
  (wpAny_call_entry PyProof.Rows.slot_tuple_getitem ht.typeIs entry_tuple_getitem ?_ (args_tuple_getitem _ _)))
 show wpAny _ _ (Builtin.Tuple.tupleItemsOf (.ref t) >>= _) _ _ s
 refine Zg (tupleItemsOf_ ht ?_)
 refine Zg (wpAny_typeOf Wv ?_)
 rw [if_pos (by decide)]
 refine Zg (kR hs pl pu ?_)
 have Jj:¬ ((((eF items.size 0 lo:Nat):Int) == 0 && (1:Int) == 1 && (eF items.size items.size hi - eF items.size 0 lo) == items.size)=true):=by
  intro q
  rw [Bool.and_eq_true,Bool.and_eq_true] at q
  have q1:((eF items.size 0 lo:Nat):Int)=0:=eq_of_beq q.1.1
  have q2:eF items.size items.size hi - eF items.size 0 lo=items.size:=eq_of_beq q.2
  exact hw ⟨by lia,by lia⟩
 show wpAny _ _ (if (((eF items.size 0 lo:Nat):Int) == 0 && (1:Int) == 1 && (eF items.size items.size hi - eF items.size 0 lo) == items.size)=true then _ else _) _ _ s
 rw [if_neg Jj,DD]
 first
  | exact Zg (m:=Builtin.Tuple.tupleExact _) (wpAny_newObj_type (Zy ⟨_,rfl,Zy h⟩) AZ)
  | exact Zg (m:=Builtin.Tuple.tupleExact _) (wpAny_newObj_type (Zg (Zy (Zy ⟨_,rfl,Zy h⟩))) AZ)
  | exact Zg (Zg (m:=Builtin.Tuple.tupleExact _) (wpAny_newObj_type (Zy (Zy ⟨_,rfl,Zy h⟩)) AZ))
  | exact Zg (Zg (m:=Builtin.Tuple.tupleExact _) (wpAny_newObj_type (Zy ⟨_,rfl,Zy h⟩) AZ))
end
end HT
namespace L2
open PySem PySem.Spec PyProof.Rows
abbrev TO:=St->Hp->(Option Int->Hp->Prop)->Prop
def PO(X:Cx)(e:Option Expr)(t:TO):Prop :=
 ∀ (pins:List (Addr×Obj)) (s:Shared) (σ:St) (H:Hp) (Q:Option Int->Hp->Prop),Inv X pins σ H s->t σ H Q ->
  wpAny (model X.prog X.w) X.A (evalPart e X.env) (fun u s'=>∃ o H',Inv X pins σ H' s'/\IsPart u o/\Q o H') X.xe s
def A0:TO:=fun _ H Q=>Q none H
def Jk(t:TE):TO:=fun σ H Q=>t σ H fun x H1=>∃ i,x=.int i/\Q (some i) H1
theorem intsAre_of{ns:List Int}:∀ {us:List Value},Vals (ns.map V.int) us->IntsAre us ns:=by
 induction ns with
 | nil=>intro us r;rw [map_nil] at r;cases r;exact .nil
 | cons n ns ih =>
  intro us r
  rw [map_cons] at r
  cases r with
  | cons r1 r2 =>
   obtain ⟨t,e⟩:=r1
   subst e
   exact .cons n t (ih r2)
section
variable {X:Cx}{e:Expr}{te:TE}{lo hi:Option Expr}{tl th:TO}{pos p2:Pos}
theorem n8:PO X none A0:=by
 intro pins s σ H Q I h
 rw [evalPart_none]
 exact Zy ⟨none,H,I,.none,h⟩
theorem iK(h:PE X e te):PO X (some e) (Jk te):=by
 intro pins s σ H Q I hw
 rw [evalPart_some]
 refine cb (h pins s σ H _ I hw) fun u s1 ⟨x,H1,I1,r1,q1⟩=>?_
 obtain ⟨i,rfl,q⟩:=q1
 obtain ⟨t,rfl⟩:=r1
 exact⟨some i,H1,I1,.int i t,q⟩
def Ql(X:Cx)(r:V->Option Int->Option Int->Hp->VK->Prop):Prop :=
 ∀ (pins:List (Addr×Obj)) (s:Shared) (σ:St) (H:Hp) (x:V) (v vl vu:Value) (lo hi:Option Int) (sl:Addr) (Q:VK),Inv X pins σ H s->RelV x v->s.heap.IsSliceOf sl vl vu .none->IsPart vl lo->IsPart vu hi->r x lo hi H Q ->
  ∃ T id,typeLookup (.type T) "__getitem__"=pure (some (.builtin id))/\s.TypeIs v T/\wpAny (model X.prog X.w) X.A (getItem v (.ref sl)) (EP X pins σ Q) X.xe s
def U2(r:V->Option Int->Option Int->Hp->VK->Prop)(te:TE)(tl th:TO):TE:=fun σ H Q=>te σ H fun x H1=>tl σ H1 fun l H2=>th σ H2 fun u H3=>r x l u H3 Q
theorem gC{r:V->Option Int->Option Int->Hp->VK->Prop}(hr:Ql X r)(he:PE X e te)(hl:PO X lo tl)(hu:PO X hi th):PE X (.Subscript e (.Slice lo hi none p2) pos) (U2 r te tl th):=by
 intro pins s σ H Q I h
 refine Subscript_ (cb (he pins s σ H _ I h) fun v s1 ⟨x,H1,I1,r1,q1⟩=>?_)
 refine wpAny_Slice (cb (hl pins s1 σ H1 _ I1 q1) fun vl s2 ⟨l,H2,I2,pl,q2⟩=>cb (hu pins s2 σ H2 _ I2 q2) fun vu s3 ⟨u,H3,I3,pu,q3⟩=>?_)
 rw [evalPart_none]
 refine Zy ?_
 have I4:Inv X pins σ H3 { s3 with heap:=s3.heap.push { cls:=.type "slice",data:=.fields #[vl,vu,.none] } }:=I3.kept (t':=s3.toks) fun b ob q=>Zf _ q
 obtain ⟨T,id,hT,ht,hg⟩:=hr pins { s3 with heap:=s3.heap.push { cls:=.type "slice",data:=.fields #[vl,vu,.none] } } σ H3 x v vl vu l u s3.heap.objs.size Q I4 r1 (Heap.IsSliceOf.new ..) pl pu q3
 show wpAny (model X.prog X.w) X.A (subscriptTail e (.Slice lo hi none p2) v (.ref s3.heap.objs.size)) (EP X pins σ Q) X.xe { s3 with heap:=s3.heap.push { cls:=.type "slice",data:=.fields #[vl,vu,.none] } }
 exact tail_any (ops:=[.ref s3.heap.objs.size,v]) ht hT hg (by with_unfolding_all rfl)
def zm(xs:List V)(lo hi:Option Int):List V:=(xs.drop (HT.eF xs.length 0 lo)).take (HT.eF xs.length xs.length hi - HT.eF xs.length 0 lo)
theorem xt(xs:List V)(lo hi:Option Int):(zm xs lo hi).length<=xs.length:=by
 unfold zm
 rw [ZS,length_drop]
 lia
def GB(K:Frag):V->Option Int->Option Int->Hp->VK->Prop:=fun x lo hi H Q=>∃ a xs,x=.ref a/\aL K H a xs /\
 ¬ (HT.eF xs.length 0 lo=0/\HT.eF xs.length xs.length hi=xs.length)/\∀ p,H p=none->Q (.ref p) (upd H p (.tup (zm xs lo hi)))
theorem KA:Ql X (GB X.K):=by
 intro pins s σ H x v vl vu lo hi sl Q I rx hs pl pu h
 obtain ⟨a,xs,rfl,hx,hw,q⟩:=h
 cases rx
 obtain ⟨its,r,ht,hz⟩:=I.tuple hx
 have hlen:its.toArray.size=xs.length:=by rw [ZT];exact r.length.symm
 refine⟨"tuple",_,PyProof.Rows.slot_tuple_getitem.lookup,ht.typeIs,?_⟩
 refine HT.jS ht hs pl pu (by rw [hlen];exact hw) ?_ (by rw [hlen];exact hz)
 rw [hlen]
 refine⟨.ref s.heap.objs.size,_,I.laid (t':=s.toks) (o:=.tup (zm xs lo hi)) (fun b ob q=>Zf _ q) (Zn _) ?_,rfl,q _ (I.bf.fresh (Zn _))⟩
 exact⟨Zm (xt xs lo hi) hz,_,(r.drop (HT.eF xs.length 0 lo)).take (HT.eF xs.length xs.length hi - HT.eF xs.length 0 lo),IsTup.new _ _⟩
def DE(K:Frag):R2:=fun x y H Q=>∃ a b xs ys,x=.ref a/\y=.ref b/\aL K H a xs/\aL K H b ys/\xs≠[]/\xs.length+ys.length<=sizeLine /\
 (ys=[]->Q (.ref a) H)/\(ys≠[]->∀ p,H p=none->Q (.ref p) (upd H p (.tup (xs++ys))))
theorem Vals.uB{xs:List V}{us:List Value}(r:Vals xs us):us=[]↔xs=[]:=by
 cases r with
 | nil=>simp
 | cons _ _=>simp
theorem GC:gz X (binaryOp .Add) (DE X.K):=by
 intro pins s σ H x y v u Q I rx ry h
 obtain ⟨a,b,xs,ys,rfl,rfl,ha,hb,hx,hz,q1,q2⟩:=h
 cases rx
 cases ry
 obtain ⟨its,r1,p1,_⟩:=I.tuple ha
 obtain ⟨KC,r2,p2,_⟩:=I.tuple hb
 refine HT.GA p1 p2 (fun z=>hx (r1.uB.mp z)) (fun z=>⟨.ref a,H,I,rfl,q1 (r2.uB.mp z)⟩) (fun z=>?_) (by rw [<- r1.length,<- r2.length];exact hz)
 refine⟨.ref s.heap.objs.size,_,I.laid (t':=s.toks) (o:=.tup (xs++ys)) (fun b ob q=>Zf _ q) (Zn _) ?_,rfl,q2 (fun w=>z (r2.uB.mpr w)) _ (I.bf.fresh (Zn _))⟩
 exact⟨by rw [ZJ];exact hz,_,r1.append r2,IsTup.new _ _⟩
end
def KD(n:Nat)(i:Int):Option Nat:=if 0<=i then (if i<n then some i.toNat else none) else if -(n:Int)<=i then some (i+n).toNat else none
def tU{α:Type}(xs:List α)(i:Int):Option α:=(KD xs.length i).bind fun j=>xs[j]?
theorem GD{n:Nat}{i:Int}{j:Nat}(h:KD n i=some j):seqIndex? i n=some j/\j<n/\-(n:Int)<=i/\i<n:=by
 unfold KD at h
 by_cases h0:0<=i
 ·rw [if_pos h0] at h
  by_cases h1:i<n
  ·rw [if_pos h1] at h
   have e:i.toNat=j:=Zr h
   exact⟨by rw [seqIndex_of h0 h1,e],by lia,by lia,h1⟩
  ·rw [if_neg h1] at h;cases h
 ·rw [if_neg h0] at h
  by_cases h1:-(n:Int)<=i
  ·rw [if_pos h1] at h
   have e:(i+n).toNat=j:=Zr h
   exact⟨by rw [seqIndex_neg (by lia) h1,e],by lia,h1,by lia⟩
  ·rw [if_neg h1] at h;cases h
theorem uC{α:Type}{xs:List α}{i:Int}{v:α}(h:tU xs i=some v):∃ j,seqIndex? i xs.length=some j/\xs[j]?=some v/\j<xs.length/\-(xs.length:Int)<=i/\i<xs.length:=by
 unfold tU at h
 cases e:KD xs.length i with
 | none=>rw [e] at h;cases h
 | some j =>
  rw [e] at h
  obtain ⟨h1,h2,h3,h4⟩:=GD e
  exact⟨j,h1,h,h2,h3,h4⟩
theorem cU{α:Type}{xs:List α}{j:Nat}{v:α}(h:xs[j]?=some v):tU xs (j:Int)=some v:=by
 have hj:j<xs.length:=(Zi.mp h).1
 have e:KD xs.length (j:Int)=some j:=by
  unfold KD
  rw [if_pos (by lia),if_pos (by lia)];simp
 unfold tU;rw [e];exact h
def GF(b:Expr):Prop:=∀ o i,subscripted b false o i=operate [o,i] (getItem o i)
def DF(X:Cx)(r:R2):Prop :=
 ∀ (value slice:Expr) (pins:List (Addr×Obj)) (s:Shared) (σ:St) (H:Hp) (x y:V) (v u:Value) (Q:VK),Inv X pins σ H s->RelV x v->RelV y u->r x y H Q ->
  subscripted slice false v u=operate [v,u] (getItem v u)->wpAny (model X.prog X.w) X.A (subscriptTail value slice v u) (EP X pins σ Q) X.xe s
def Jl(X:Cx)(id:String)(r:V->List V->Hp->VK->Prop):Prop :=
 ∀ (pins:List (Addr×Obj)) (s:Shared) (σ:St) (H:Hp) (x:V) (xs:List V) (v:Value) (us:List Value) (Q:VK),Inv X pins σ H s->RelV x v->Vals xs us->r x xs H Q ->
  wpAny (model X.prog X.w) X.A (call (.builtin id) (v::us)) (EP X pins σ Q) X.xe s
section
variable {X:Cx}{a b:Expr}{ta tb:TE}{pos:Pos}
theorem DF.or{r r':R2}(h:DF X r)(h':DF X r'):DF X (fun x y H Q=>r x y H Q\/r' x y H Q):=by
 intro value slice pins s σ H x y v u Q I rx ry q hs
 rcases q with q|q
 ·exact h value slice pins s σ H x y v u Q I rx ry q hs
 ·exact h' value slice pins s σ H x y v u Q I rx ry q hs
theorem aD{r:R2}(hr:DF X r)(ha:PE X a ta)(hb:PE X b tb)(hs:GF b):PE X (.Subscript a b pos) (MI r ta tb):=by
 intro pins s σ H Q I h
 exact Subscript_ (Ks ha hb I h fun v u s2 x y H2 I2 rx ry q=>hr a b pins s2 σ H2 x y v u Q I2 rx ry q (hs _ _))
def NH(K:Frag):R2:=fun x y H Q=>∃ p xs i v,x=.ref p/\y=.int i/\bj K H p xs/\tU xs i=some v/\Q v H
def NI(K:Frag):R2:=fun x y H Q=>∃ p xs i v,x=.ref p/\y=.int i/\aL K H p xs/\tU xs i=some v/\Q v H
def KG:R2:=fun x y H Q=>∃ z i c,x=.str z/\y=.int i/\z.length<=sizeLine/\tU z.cps.toList i=some c/\Q (.str ⟨#[c]⟩) H
theorem GG:DF X (NH X.K):=by
 intro value slice pins s σ H x y v u Q I rx ry h hs
 obtain ⟨p,xs,i,z,rfl,rfl,hq,he,q⟩:=h
 cases rx
 obtain ⟨t,rfl⟩:=ry
 obtain ⟨its,r,pl,hz⟩:=I.list hq
 obtain ⟨j,h1,h2,h3,h4,h5⟩:=uC he
 obtain ⟨w,ew,Gs⟩:=r.get h2
 have hl:=r.length
 have hn:=oA
 have fin:EP X pins σ Q w s:=⟨z,H,I,Gs,q⟩
 by_cases h0:0<=i
 ·have hj:i.toNat=j:=by
   rw [seqIndex_of h0 h5] at h1
   exact Zr h1
  exact item_listR pl.isList h0 (by lia) (by rw [hj];simpa using ew) fin hs
 ·have hj:(i+(its.toArray.size:Int)).toNat=j:=by
   rw [seqIndex_neg (by lia) h4] at h1
   rw [ZT,<- hl]
   exact Zr h1
  exact subscriptTail_builtinR (x:=w) pl.isList.typeIs slot_list_getitem.lookup
   (wpAny_getItem_list_neg (Q:=fun r s'=>r=w/\EP X pins σ Q r s') pl.isList (by lia) (by rw [ZT] <;> lia) (by lia) (by rw [hj];simpa using ew) ⟨rfl,fin⟩) hs
theorem KH:DF X (NI X.K):=by
 intro value slice pins s σ H x y v u Q I rx ry h hs
 obtain ⟨p,xs,i,z,rfl,rfl,hq,he,q⟩:=h
 cases rx
 obtain ⟨t,rfl⟩:=ry
 obtain ⟨its,r,pl,hz⟩:=I.tuple hq
 obtain ⟨j,h1,h2,h3,h4,h5⟩:=uC he
 obtain ⟨w,ew,Gs⟩:=r.get h2
 have hl:=r.length
 have hn:=oA
 have fin:EP X pins σ Q w s:=⟨z,H,I,Gs,q⟩
 exact subscriptTail_builtinR (x:=w) pl.typeIs slot_tuple_getitem.lookup
  (getItem_tuple (j:=j) (Q:=fun r s'=>r=w/\EP X pins σ Q r s') pl (by lia) (by lia) (by rw [ZT,<- hl];exact h1) (by simpa using ew) ⟨rfl,fin⟩) hs
theorem fo:DF X KG:=by
 intro value slice pins s σ H x y v u Q I rx ry h hs
 obtain ⟨z,i,c,rfl,rfl,hz,he,q⟩:=h
 obtain ⟨t,rfl⟩:=rx
 obtain ⟨t',rfl⟩:=ry
 obtain ⟨j,h1,h2,h3,h4,h5⟩:=uC he
 have hl:z.cps.toList.length=z.length:=by simp [Str.length]
 rw [hl] at h1 h4 h5
 have hn:=oA
 exact tail_any (typeIs_str s z t) slot_str_getitem.lookup (getItem_str (c:=c) (by
  have e1:decide (i < -(2 ^ 63:Int))=false:=Zu (by lia)
  have e2:decide (i ≥ 2 ^ 63)=false:=Zu (by lia)
  rw [e1,e2,Bool.or_false]) (by rw [h1];simpa using h2) ⟨.str ⟨#[c]⟩,H,I.tok _,⟨_,rfl⟩,q⟩) hs
def Qm(K:Frag):R2:=fun x y H Q=>NH K x y H Q\/NI K x y H Q\/KG x y H Q
theorem KI:DF X (Qm X.K):=GG.or (KH.or fo)
theorem uD:bM X (.builtin "len") (fun xs H Q=>∃ p ys,xs=[.ref p]/\(bj X.K H p ys\/aL X.K H p ys)/\Q (.int ys.length) H):=by
 intro pins s σ H xs us Q I r h
 obtain ⟨p,ys,rfl,hq,q⟩:=h
 obtain ⟨u,rfl,rx⟩:=vals1 r
 cases rx
 have hn:=oA
 rcases hq with hq|hq
 ·obtain ⟨its,r',pl,hz⟩:=I.list hq
  have hlen:=r'.length
  exact Calls.call_len_list pl.isList (by simp only [ZT] <;> lia) ⟨.int ys.length,H,I.tok _,⟨s.toks+1,by rw [ZT,hlen]⟩,q⟩
 ·obtain ⟨its,r',pl,hz⟩:=I.tuple hq
  have hlen:=r'.length
  exact len_tuple pl (by simp only [ZT] <;> lia) ⟨.int ys.length,H,I.tok _,⟨s.toks+1,by rw [ZT,hlen]⟩,q⟩
theorem uE:bM X (.builtin "len") (fun xs H Q=>∃ z,xs=[.str z]/\z.length<=sizeLine/\Q (.int z.length) H):=by
 intro pins s σ H xs us Q I r h
 obtain ⟨z,rfl,hz,q⟩:=h
 obtain ⟨u,rfl,t,rfl⟩:=vals1 r
 have hn:=oA
 exact len_str (by lia) ⟨.int z.length,H,I.tok _,⟨_,rfl⟩,q⟩
theorem uF:bM X (.type "list") (fun xs H Q=>∃ p ys,xs=[.ref p]/\(bj X.K H p ys\/aL X.K H p ys)/\∀ l,H l=none->Q (.ref l) (upd H l (.lst ys))):=by
 intro pins s σ H xs us Q I r h
 obtain ⟨p,ys,rfl,hq,q⟩:=h
 obtain ⟨u,rfl,rx⟩:=vals1 r
 cases rx
 have fin:∀ (its:List Value),Vals ys its->ys.length<=sizeLine->∀ (h':Heap) (c':Nat),(∀ b o',s.heap.get? b=some o'->h'.get? b=some o') ->
   h'.get? s.heap.objs.size=some { cls:=.type "list",dict:=none,data:=.seq its.toArray c',slots:=#[] }->EP X pins σ Q (.ref s.heap.objs.size) { s with heap:=h' }:=fun its r' hz h' c' kp e =>
  ⟨.ref s.heap.objs.size,_,I.laid (t':=s.toks) kp (Zn _) (show cq X.prog X.w _ h' _ (.lst ys) from ⟨hz,its,c',r',e⟩),rfl,q _ (I.bf.fresh (Zn _))⟩
 rcases hq with hq|hq
 ·obtain ⟨its,r',pl,hz⟩:=I.list hq
  have hlen:=r'.length
  obtain ⟨o,ho,hc,n,hd⟩:=pl.isList
  exact call_list_seq p (.inl rfl) ho hc hd (fun h' c' kp e=>fin its r' hz h' c' kp e) (by simp only [ZT] <;> lia)
 ·obtain ⟨its,r',pl,hz⟩:=I.tuple hq
  have hlen:=r'.length
  obtain ⟨o,ho,hc,n,hd⟩:=pl
  exact call_list_seq p (.inr rfl) ho hc hd (fun h' c' kp e=>fin its r' hz h' c' kp e) (by simp only [ZT] <;> lia)
theorem qr:bM X (.type "tuple") (fun xs H Q=>∃ p ys,xs=[.ref p]/\((bj X.K H p ys/\∀ l,H l=none->Q (.ref l) (upd H l (.tup ys)))\/(aL X.K H p ys/\Q (.ref p) H))):=by
 intro pins s σ H xs us Q I r h
 obtain ⟨p,ys,rfl,h⟩:=h
 obtain ⟨u,rfl,rx⟩:=vals1 r
 cases rx
 rcases h with ⟨hq,q⟩|⟨hq,q⟩
 ·obtain ⟨its,r',pl,hz⟩:=I.list hq
  have hlen:=r'.length
  refine call_tuple_list pl.isList (fun h' kp=>?_) (by simp only [ZT] <;> lia)
  have I1:Inv X pins σ H { s with heap:=h' }:=I.kept (t':=s.toks) kp
  have I2:Inv X pins σ (upd H h'.objs.size (.tup ys)) { s with heap:=h'.push { cls:=.type "tuple",data:=.seq its.toArray } } :=
   I1.laid (t':=s.toks) (fun b o e=>Zf _ e) (Zn _) (show cq X.prog X.w _ _ _ (.tup ys) from ⟨hz,its,r',IsTup.new _ _⟩)
  exact⟨.ref h'.objs.size,_,I2,rfl,q _ (I1.bf.fresh (Zn _))⟩
 ·obtain ⟨its,r',pl,hz⟩:=I.tuple hq
  exact call_tuple_same pl ⟨.ref p,H,I,rfl,q⟩
def KJ(K:Frag)(T:String)(x:V)(H:Hp):Prop:=match x with
 | .str _=>T = "str"
 | .int _=>T = "int"
 | .ref p=>(T = "list"/\∃ xs,bj K H p xs)\/(T = "tuple"/\∃ o,K.lookup p=some o/\o.cls=.type "tuple"/\o.dict=none) \/
   (T = "dict"/\((∃ dw,H p=some (.dK dw))\/∃ dw,H p=some (.dT dw)))\/(T = "set"/\∃ S n,H p=some (.set S n))
 | _=>False
theorem DG{pins:List (Addr×Obj)}{σ:St}{H:Hp}{s:Shared}{T:String}{x:V}{v:Value}(I:Inv X pins σ H s)(r:RelV x v)(ty:KJ X.K T x H) :
  s.TypeIs v T/\∀ a,v=.ref a->∃ ob,s.heap.get? a=some ob/\ob.dict=none:=by
 cases x with
 | str z =>
  obtain ⟨t,rfl⟩:=r
  cases (show T = "str" from ty)
  exact⟨typeIs_str s z t,fun _ e=>nomatch e⟩
 | int i =>
  obtain ⟨t,rfl⟩:=r
  cases (show T = "int" from ty)
  exact⟨typeIs_int s i t,fun _ e=>nomatch e⟩
 | ref p =>
  cases r
  rcases ty with ⟨rfl,xs,hq⟩|⟨rfl,o,hk,hc,hd⟩|⟨rfl,hk⟩|⟨rfl,S,n,hk⟩
  ·obtain ⟨its,_,pl,_⟩:=I.list hq
   refine⟨pl.isList.typeIs,fun a e=>?_⟩
   cases e
   obtain ⟨o,n,e,c,hd,_⟩:=pl
   exact⟨o,e,hd⟩
  ·refine⟨⟨o,I.nZ p o hk,hc⟩,fun a e=>?_⟩
   cases e
   exact⟨o,I.nZ _ o hk,hd⟩
  ·have z:∃ o,s.heap.get? p=some o/\o.ExactDict:=by
    rcases hk with ⟨dw,hk⟩|⟨dw,hk⟩
    ·obtain ⟨_,_,_,_,o,_,_,e,ex,_⟩:=I.bf p _ hk
     exact⟨o,e,ex⟩
    ·obtain ⟨_,_,_,_,o,_,_,e,ex,_⟩:=I.bf p _ hk
     exact⟨o,e,ex⟩
   obtain ⟨o,e,ex⟩:=z
   refine⟨⟨o,e,ex.1⟩,fun a e2=>?_⟩
   cases e2
   exact⟨o,e,ex.2.1⟩
  ·obtain ⟨o,_,_,_,e,ex,_⟩:=I.bf p _ hk
   refine⟨⟨o,e,ex.1⟩,fun a e2=>?_⟩
   cases e2
   exact⟨o,e,ex.2.1⟩
 | _=>exact False.elim ty
def NJ(K:Frag)(T:String)(r:V->List V->Hp->VK->Prop)(to:TE):TE:=fun σ H Q=>to σ H fun x H1=>KJ K T x H1/\r x [] H1 Q
def U3(K:Frag)(T:String)(r:V->List V->Hp->VK->Prop)(to:TE)(t:TA):TE:=fun σ H Q=>to σ H fun x H1=>KJ K T x H1/\t σ H1 fun xs H2=>r x xs H2 Q
variable {o e:Expr}{es:List Expr}{to:TE}{t:TA}{name:Str}{apos jT:Pos}{T id:String}{r:V->List V->Hp->VK->Prop}
theorem KL (pa:PlainAttrs T) (slot:Slot T name id) (Ri:typeOf (.builtin id)=pure (.type "method_descriptor")) (hm:Jl X id r) (ho:PE X o to)
  (DH:attributeBase o name X.env (eval o X.env)=eval o X.env:=by rfl) (DI:(apos.endLine == jT.line)=true:=by rfl):PE X (.Call (.Attribute o name apos) [] [] jT) (NJ X.K T r to):=by
 intro pins s σ H Q I h
 refine wpAny_Call_method0_late DH DI (cb (ho pins s σ H _ I h) fun v s1 ⟨x,H1,I1,r1,ty,q1⟩=>?_)
 obtain ⟨h1,h2⟩:=DG I1 r1 ty
 exact⟨T,id,pa,slot,Ri,h1,h2,Calls.callWith_builtin rfl (PySem.evalArgs_none (hm pins s1 σ H1 x [] v [] Q I1 r1 .nil q1))⟩
theorem cP (pa:PlainAttrs T) (slot:Slot T name id) (Ri:typeOf (.builtin id)=pure (.type "method_descriptor")) (hm:Jl X id r) (ho:PE X o to) (ha:PA X (e::es) t)
  (DH:attributeBase o name X.env (eval o X.env)=eval o X.env:=by rfl)
  (Rj:((backTo jT (starEach (e::es) X.env)).all (fun x=>!x.1) && (backToKw jT (keywordEach [] X.env)).all (fun x=>x.1.isSome)
   && decide ((e::es).length+([]:List Keyword).length+(if ([]:List Keyword).isEmpty then 0 else 1)<30))=true:=by rfl)
  (DI:(apos.endLine == jT.line)=true:=by rfl) (hs:starEach (e::es) X.env=(false,eval e X.env)::starEach es X.env:=by rfl) (KN:(backTo jT (starEach es X.env)).any (·.1)=false:=by rfl) :
  PE X (.Call (.Attribute o name apos) (e::es) [] jT) (U3 X.K T r to t):=by
 intro pins s σ H Q I h
 refine wpAny_Call_method_late DH Rj DI rfl (cb (ho pins s σ H _ I h) fun v s1 ⟨x,H1,I1,r1,ty,q1⟩=>?_)
 obtain ⟨h1,h2⟩:=DG I1 r1 ty
 refine⟨T,id,pa,slot,Ri,h1,h2,?_⟩
 have hA:=ha jT pins s1 σ H1 _ I1 q1
 rw [hs] at hA ⊢
 refine Calls.callWith_builtin (by show (false || (backTo jT (starEach es X.env)).any (·.1))=false;rw [KN] <;> rfl) (Calls.evalArgs_plain ?_)
 exact cb hA fun us s2 ⟨vs,H2,I2,r2,q2⟩=>hm pins s2 σ H2 x vs v us Q I2 r1 r2 q2
/- xs.append(e),list.index on a NK tuple .. are Jl facts of 06m -/
end
def Rk(X:Cx)(id:String)(r:V->List V->Hp->VK->Prop):Prop :=
 ∀ (pins:List (Addr×Obj)) (s:Shared) (σ:St) (H:Hp) (x:V) (xs:List V) (v:Value) (us:List Value) (Q:VK),Inv X pins σ H s->RelV x v->Vals xs us->r x xs H Q ->
  wpAny (model X.prog X.w) X.A (call (.builtin id) (v::us)) (EP X pins σ Q) X.xe s
theorem Vals.one:∀ {x:V} {us:List Value},Vals [x] us->∃ u,us=[u]/\RelV x u
 | _,_,.cons r .nil=>⟨_,rfl,r⟩
theorem Vals.zero:∀ {us:List Value},Vals [] us->us=[]
 | _,.nil=>rfl
theorem Vals.eraseIdx:∀ {xs:List V} {us:List Value} (i:Nat),Vals xs us->Vals (xs.eraseIdx i) (us.eraseIdx i)
 | _,_,_,.nil=>.nil
 | _,_,0,.cons _ t=>t
 | _,_,i+1,.cons r t=>.cons r (Vals.eraseIdx i t)
theorem Vals.rep{xs:List V}{us:List Value}(h:Vals xs us):∀ k:Nat,Vals (List.replicate k xs).flatten (List.replicate k us).flatten
 | 0=>.nil
 | k+1=>by
  rw [replicate_succ,replicate_succ,flatten_cons,flatten_cons]
  exact Vals.append h (Vals.rep h k)
theorem tV{α:Type}:∀ (l:List α) (i:Nat),(l.eraseIdx i).length<=l.length
 | [],_=>Zn _
 | _::_,0=>Nat.le_succ _
 | _::r,i+1=>Nat.succ_le_succ (tV r i)
theorem foldl_rep(its:List Value):∀ (k:Nat) (acc:List Value),
  List.foldl (fun x1 x2=>x1++x2) acc.toArray (List.replicate k its.toArray)=(acc++(List.replicate k its).flatten).toArray
 | 0,acc=>by simp
 | k+1,acc=>by
  have e:acc.toArray++its.toArray=(acc++its).toArray:=by simp
  have e2:(acc++its)++(List.replicate k its).flatten=acc++(List.replicate (k+1) its).flatten:=by
   rw [replicate_succ,flatten_cons,append_assoc]
  rw [<- e2,<- foldl_rep its k (acc++its),<- e,replicate_succ,foldl_cons]
section
variable {X:Cx}{pins:List (Addr×Obj)}{σ:St}{H:Hp}{s:Shared}{l b:Addr}{xs ys zs:List V}
theorem Inv.KO{its its':List Value}{n:Nat}{f:Array Value->Array Value}{t':Nat}(I:Inv X pins σ H s)(hH:H l=some (.lst xs))
  (e:s.heap.get? l=some { cls:=.type "list",data:=.seq its.toArray n }) (hf:f its.toArray=its'.toArray) (hv:Vals ys its') (hz:ys.length<=sizeLine) :
  Inv X pins σ (upd H l (.lst ys)) { s with heap:=s.heap.update l (Obj.mapSeq f),toks:=t' }:=by
 have q:=PySem.IsL.update e f
 rw [hf] at q
 refine I.write (x:=l) (e:=l) (by rw [hH];exact trivial) (.inl rfl) (fun b' u hb hu=>(Heap.get?_update_other s.heap (Obj.mapSeq f) (Ne.symm hb)).trans hu) ⟨_,q⟩ ?_
 exact⟨hz,its',_,hv,q⟩
theorem Inv.GH{its:List Value}{t':Nat}(I:Inv X pins σ H s)(hv:Vals ys its)(hz:ys.length<=sizeLine) :
  Inv X pins σ (upd H s.heap.objs.size (.lst ys)) { s with heap:=s.heap.push { cls:=.type "list",data:=.seq its.toArray },toks:=t' } :=
 I.laid (fun _ _ q=>Zf _ q) (Zn _) ⟨hz,its,0,hv,Zk _ rfl⟩
theorem Inv.fresh(I:Inv X pins σ H s):H s.heap.objs.size=none:=I.bf.fresh (Zn _)
theorem Inv.BO (I:Inv X pins σ H s) (hH:H l=some (.lst xs)):xs.length<=sizeLine/\∃ (its:List Value) (n:Nat),Vals xs its/\xs.length=its.length/\s.heap.get? l=some { cls:=.type "list",data:=.seq its.toArray n }:=by
 obtain ⟨z,its,n,r,e⟩:=I.bf l _ hH
 exact⟨z,its,n,r,r.length,e⟩
theorem DJ{n:Nat}(h:n<=sizeLine):Builtin.List.listTooLong n=false:=by
 unfold Builtin.List.listTooLong
 exact Zu (by lia)
end
section
variable {X:Cx}
def A1:V->List V->Hp->VK->Prop:=fun x vs H Q=>∃ l xs y,x=.ref l/\vs=[y]/\H l=some (.lst xs)/\xs.length<sizeLine/\Q .dj (upd H l (.lst (xs++[y])))
theorem bZ:Rk X "list.append" A1:=by
 intro pins s σ H x vs v us Q I rx rv h
 obtain ⟨l,xs,y,rfl,rfl,hH,hz,q⟩:=h
 cases rx
 obtain ⟨u,rfl,ru⟩:=rv.one
 obtain ⟨z,its,n,r,hl,e⟩:=I.BO hH
 refine call_meets F.slot_list_append ⟨_,e,rfl⟩ F.entry_list_append (F.args_list_append_2 _ _) (PySem.list_append l its.toArray n u (by rw [ZT];lia)) ⟨e,?_⟩
 refine⟨.dj,_,I.KO (its':=its++[u]) hH e (by simp) (r.append (.cons ru .nil)) ?_,rfl,q⟩
 rw [ZJ,Zh]
 lia
def DK:V->List V->Hp->VK->Prop:=fun x vs H Q=>∃ l xs i k y,x=.ref l/\vs=[.int i]/\H l=some (.lst xs)/\-(2 ^ 63)<=i/\i<2 ^ 63/\seqIndex? i xs.length=some k/\xs[k]?=some y/\Q y (upd H l (.lst (xs.eraseIdx k)))
theorem DL:Rk X "list.pop" DK:=by
 intro pins s σ H x vs v us Q I rx rv h
 obtain ⟨l,xs,i,k,y,rfl,rfl,hH,h1,h2,hk,hy,q⟩:=h
 cases rx
 obtain ⟨u,rfl,ru⟩:=rv.one
 obtain ⟨t,rfl⟩:=ru
 obtain ⟨z,its,n,r,hl,e⟩:=I.BO hH
 obtain ⟨w,hw,Gs⟩:=r.get hy
 refine call_meets F.slot_list_pop ⟨_,e,rfl⟩ F.entry_list_pop (F.args_list_pop_2 _ _)
  (MeetsSeq.list_pop_at l its.toArray n i t k w (fitsIndex_both h1 h2) (by rw [ZT,<- hl];exact hk) (by rw [<- Array.getElem?_toList];exact hw) (by rw [ZT];lia)) ⟨e,?_⟩
 refine⟨y,_,I.KO (its':=its.eraseIdx k) hH e ?_ (r.eraseIdx k) ?_,Gs,q⟩
 ·show its.toArray.eraseIdxIfInBounds k=(its.eraseIdx k).toArray
  rw [List.eraseIdxIfInBounds_toArray]
 ·have:=tV xs k
  lia
def DM:V->List V->Hp->VK->Prop:=fun x vs H Q=>∃ l xs,x=.ref l/\vs=[]/\H l=some (.lst xs)/\Q .dj (upd H l (.lst []))
theorem DN:Rk X "list.clear" DM:=by
 intro pins s σ H x vs v us Q I rx rv h
 obtain ⟨l,xs,rfl,rfl,hH,q⟩:=h
 cases rx
 have Ww:=rv.zero
 subst Ww
 obtain ⟨z,its,n,r,hl,e⟩:=I.BO hH
 refine call_meets F.slot_list_clear ⟨_,e,rfl⟩ F.entry_list_clear (F.args_list_clear_1 _) (AutoSeq1.list_clear_list_0 l its.toArray n (by rw [ZT];lia)) ⟨e,?_⟩
 exact⟨.dj,_,I.KO (its':=[]) (ys:=[]) hH e rfl .nil (ZZ _),rfl,q⟩
def NL:R2:=fun x y H Q=>∃ l b xs zs,x=.ref l/\y=.ref b/\H l=some (.lst xs)/\H b=some (.lst zs)/\xs.length+zs.length<=sizeLine/\∀ p,H p=none->Q (.ref p) (upd H p (.lst (xs++zs)))
theorem zo:gz X (binaryOp .Add) NL:=by
 intro pins s σ H x y v u Q I rx ry h
 obtain ⟨l,b,xs,zs,rfl,rfl,hH,hB,hz,q⟩:=h
 cases rx
 cases ry
 obtain ⟨z,its,n,r,hl,e⟩:=I.BO hH
 obtain ⟨z2,KC,n2,r2,GI,e2⟩:=I.BO hB
 refine PySem.P.add_list e e2 ?_ (by rw [ZT,ZT];lia)
 have ea:its.toArray++KC.toArray=(its++KC).toArray:=by simp
 rw [ea]
 exact⟨.ref _,_,I.GH (t':=s.toks) (r.append r2) (by rw [ZJ];lia),rfl,q _ I.fresh⟩
def NM:R2:=fun x y H Q=>∃ l k xs,x=.ref l/\y=.int k/\H l=some (.lst xs)/\-(2 ^ 63)<=k/\k<2 ^ 63/\xs.length*k.toNat<=sizeLine /\
 ∀ p,H p=none->Q (.ref p) (upd H p (.lst (List.replicate k.toNat xs).flatten))
theorem len_rep{α:Type}(xs:List α)(k:Nat):(List.replicate k xs).flatten.length=k*xs.length:=by
 induction k with
 | zero=>simp
 | succ k ih=>rw [replicate_succ,flatten_cons,ZJ,ih,Nat.succ_mul,Nat.add_comm]
theorem KP:gz X (binaryOp .Mult) NM:=by
 intro pins s σ H x y v u Q I rx ry h
 obtain ⟨l,k,xs,rfl,rfl,hH,h1,h2,hz,q⟩:=h
 cases rx
 obtain ⟨t,rfl⟩:=ry
 obtain ⟨z,its,n,r,hl,e⟩:=I.BO hH
 have hlen:its.toArray.size*k.toNat<=sizeLine:=by rw [ZT,<- hl];exact hz
 have Rl:¬ its.toArray.size*k.toNat > (2 ^ 63 - 1) / 8:=by
  have:(sizeLine:Nat)<=(2 ^ 63 - 1) / 8:=by decide
  lia
 have Rm:¬ (!Builtin.List.listFitsIndex k)=true:=by
  rw [fitsIndex_both h1 h2]
  exact Bool.false_ne_true
 have NN:¬ Builtin.List.listTooLong (its.toArray.size*k.toNat)=true:=by
  rw [DJ hlen]
  exact Bool.false_ne_true
 have Rn:List.foldl (fun x1 x2=>x1++x2) #[] (List.replicate (if its.toArray.isEmpty=true then 0 else k.toNat) its.toArray)=(List.replicate k.toNat its).flatten.toArray:=by
  have f0:∀ m:Nat,List.foldl (fun x1 x2=>x1++x2) #[] (List.replicate m its.toArray)=(List.replicate m its).flatten.toArray:=fun m=>by
   have:=foldl_rep its m []
   rw [nil_append] at this
   exact this
  rw [f0]
  cases its with
  | nil=>simp
  | cons a r'=>rw [if_neg (by simp)]
 refine wpAny_binaryOp_repeat_ref (T:="list") (U:="int") (by decide) ⟨_,e,rfl⟩ (fun s'=>typeIs_int s' k t) noFill_list_mul F.fills_int_mul F.slot_int_rmul repeat_list F.slot_int_index.lookup
  (call_meets F.slot_int_rmul (typeIs_int s k t) F.entry_int_rmul (F.args_int_rmul_2 _ _) (int___rmul___int_list k t l its.toArray n)
   ⟨e,rfl,⟨_,e,rfl⟩,call_meets F.slot_list_mul ⟨_,e,rfl⟩ F.entry_list_mul (F.args_list_mul_2 _ _) (AutoListH.list___mul___list_int_3 l its.toArray n k t Rm Rl NN) ⟨e,?_⟩⟩)
 rw [Rn]
 exact⟨.ref _,_,I.GH (t':=s.toks) (r.rep k.toNat) (by rw [len_rep,Nat.mul_comm];exact hz),rfl,q _ I.fresh⟩
end
end L2
namespace U4
open PySem PySem.W PySem.Calls PyProof.Rows
theorem nJ{P:Params}{h:Heap}:∀ (ns:List Int) (vs:List Value),WellAll P h vs (ns.map WData.int)->IntsAre vs ns:=by
 intro ns
 induction ns with
 | nil =>
  intro vs w
  rw [map_nil] at w
  cases w
  exact .nil
 | cons n ns ih =>
  intro vs w
  rw [map_cons] at w
  cases w with
  | cons a b =>
   cases a
   exact .cons _ _ (ih _ b)
theorem BP{l:OpenLaw}{n:Nat}(hn:l.most=some n){P:Params}{h:Heap}{args:List WData}{vals:List Value}
  (GJ:l.row.toRowW.claim.pre args=true) (Ro:WellAll P h vals args) :
  ∃ a vs ns,vals=[Value.ref a]/\args=[WData.list (ns.map WData.int)]/\h.get? a=some { cls:=.type "list",data:=.seq vs.toArray }/\IntsAre vs ns/\ns.length<=n:=by
 have Qo:WShape.hasAll [] args [.list .int]=true:=(pre_splitW GJ).1
 have hc:l.pre.holds [] { args:=args }=true:=(pre_splitW GJ).2
 obtain ⟨d,r,rfl,h1,h2⟩:=hasAllW_cons Qo
 obtain rfl:=hasAllW_nil h2
 obtain ⟨xs,rfl,h3⟩:=hasW_list h1
 obtain ⟨ns,rfl⟩:=items_int h3
 have hlen:ns.length<=n:=by
  unfold OpenLaw.pre at hc
  have h4:(WTm.not (.lt (.lit (.int (n:Int))) (.len (.arg 0)))).holds [] { args:=[.list (ns.map .int)] }=true:=by
   have h4:=(holds_andW hc).1
   rw [hn] at h4
   exact h4
  have h5:=condW_of h4 (w_not (w_lt w_lit (w_len_list (w_arg rfl))))
  rw [ZI] at h5
  refine Nat.le_of_not_lt fun q=>?_
  have q':(n:Int)<((ns.length:Nat):Int):=by lia
  first
   | (rw [Zv q'] at h5;exact absurd h5 (by decide))
   | (simp at h5;lia)
 cases Ro with
 | cons w1 w2 =>
  cases w2
  cases w1 with
  | list ho KQ=>exact⟨_,_,ns,rfl,rfl,ho,nJ ns _ KQ,hlen⟩
theorem BQ(l:OpenLaw)(args:List WData):l.row.toRowW.claim.post args (.bool true) args=true :=
 postW_of (r:=l.row.toRowW) (X:=(true == true))
  (show WShape.has [] (.bool true) .bool=true by first|rfl|decide|simp [WShape.has,WShape.arms,WShape.armsAll])
  (show (WTm.eq .res (.lit (.bool true))).value [] { args:=args,res:=some (.bool true),after:=args }=some (.bool (true == true)) from w_eq_bool (w_res rfl) w_lit) rfl
theorem xu{l:OpenLaw}{n:Nat}{q:Program}{loose:List Str}{XP:(Str->Option Value)->Heap->Prop}{YP:World->Heap->Prop}{d:DefRec}
  (hn:l.most=some n) (NO:d.params.defaults=[])
  (call:∀ (w:World) (s₀ s₁:Shared) (mg mb:Str->Option Value) (fa:Addr) (o:Obj) (pm cd doc:Value) (a:Addr) (vs:List Value) (ns:List Int),
   Ground q loose [] XP w s₀ mg mb s₁.heap->YP w s₁.heap ->
   s₁.heap.get? fa=some o->o.data=.func (docDef d.name d.params d.body d.scope pm cd doc)->s₁.heap.CodeRec cd d.name->mg d.name=some (.ref fa) ->
   s₁.heap.get? a=some { cls:=.type "list",data:=.seq vs.toArray }->IntsAre vs ns->ns.length<=n->s₁.gens=#[] ->
   codeAny (model l.prog w) callerA (.call (.ref fa) ⟨[.ref a],[]⟩) (fun r s'=>r=.ok (.ret (.bool true))/\OldK s₁.heap s'.heap/\s'.os=s₁.os/\AllBare s'.gens) s₁) :
  WalkO q loose XP YP l.row.toRowW d [] (fun f vs=>PySem.call f vs):=by
 intro w s₀ s₁ mg mb G Y fa o pm cd doc dV kV ho hd ze hD NP hg args vals as GJ Wx YE Ro Dc
 obtain rfl:dV=.none:=Dflts.none hD NO
 obtain rfl:kV=.none:=Dflts.noKw hD
 obtain ⟨a,vs,ns,rfl,rfl,KR,hints,hlen⟩:=BP hn GJ Ro
 refine enter_call (codeAny_mono (call w s₀ s₁ mg mb fa o pm cd doc a vs ns G Y ho (fd_plain hd) ze NP KR hints hlen hg) fun r s' hq=>?_)
 obtain ⟨rfl,h2,h3,h4⟩:=hq
 exact⟨.inl ⟨.bool true,.bool true,[],rfl,fun _=>rfl,.bool true,BQ l _,fun _=>⟨List.Pairwise.nil,fun _ hm=>(nomatch hm)⟩⟩,h2,h3,h4⟩
section
variable {prog:Program}{w:World}{A:Around}{E:Value->Shared->Prop}{s:Shared}{K:Frag}
end
end U4
namespace L2
open PySem PySem.Spec PyProof.Rows
theorem tW:∀ {vs:List Value} {ns:List Int},IntsAre vs ns->Vals (ns.map V.int) vs
 | _,_,.nil=>.nil
 | _,_,.cons n t h=>.cons ⟨t,rfl⟩ (tW h)
def GK(H:Hp):Prop:=∀ b,H b=none\/∃ o xs,H b=some (.xl o (.lst xs))
theorem DO{P:Program}{w:World}{K:Frag}{mg mb:Str->Option Value}{CX:C9}{k:Nat}{fa a:Addr}{fd:FuncData}{x:Str}{sp:Sp}{s₁:Shared}{vs:List Value}{ns:List Int}
  (KX:K.In s₁.heap) (MJ:s₁.heap.Ns mainGlobals mg) (hb:s₁.heap.Ns builtinsNs mb) (NQ:∀ x:Str,x≠"__name__"->mb x=bootBuiltins x) (Rp:s₁.heap.NoLimit) (hg:s₁.gens=#[])
  (ha:s₁.heap.get? a=some { cls:=.type "list",data:=.seq vs.toArray }) (hi:IntsAre vs ns) (hl:ns.length<=sizeLine) (hr:dJ k callerA)
  (F:∀ base:Heap,K.In base->base.Ns mainGlobals mg->oB P w K mg base CX k fa fd [x] sp) (NR:∀ (s:Shared) (u:Value),BindsTo s fd ⟨[u],[]⟩ [(x,u)])
  (yV:∀ H:Hp,GK H->bj K H a (ns.map V.int)->sp [.ref a] H (fun v _=>v=.bl true) fun _ _ _=>False)
  (NS:∀ H e s',CX [] H s₁ (fun _ _ _=>False) e s'->False) :
  codeAny (model P w) callerA (.call (.ref fa) ⟨[.ref a],[]⟩) (fun r s'=>r=.ok (.ret (.bool true))/\OldK s₁.heap s'.heap/\s'.os=s₁.os/\AllBare s'.gens) s₁:=by
 have rv:=tW hi
 have Rq:=hi.length
 have core:∀ H:Hp,GK H->bj K H a (ns.map V.int)->fP P w H s₁.heap->(∀ b,H b≠none->b=a)->(H a≠none->K.lookup a=none) ->
   codeAny (model P w) callerA (.call (.ref fa) ⟨[.ref a],[]⟩) (fun r s'=>r=.ok (.ret (.bool true))/\OldK s₁.heap s'.heap/\s'.os=s₁.os/\AllBare s'.gens) s₁:=by
  intro H hO hS bf hA hK
  have A2:∀ {b:Addr} {o:Obj},s₁.heap.get? b=some o->H b=none->(uu s₁.heap H).get? b=some o:=fun e n=>Dh e n
  have ND:∀ {b:Addr} {o:Obj} {es:Array DictEntry} {ep:Nat},s₁.heap.get? b=some o->o.data=.dict es ep->H b=none:=fun {b o es ep} e d=>by
   cases q:H b with
   | none=>rfl
   | some u =>
    have e':b=a:=hA b (by rw [q];simp)
    subst e'
    rw [ha] at e;cases e
    have d':Data.seq vs.toArray _=Data.dict es ep:=d
    cases d'
  have Qp:∀ {b:Addr} {m:Str->Option Value},s₁.heap.Ns b m->(uu s₁.heap H).Ns b m:=fun {b m} ⟨o,es,ep,e,d,r⟩=>⟨o,es,ep,A2 e (ND e d),d,r⟩
  have U5:K.In (uu s₁.heap H):=fun b o e=>A2 (KX b o e) (by
   cases q:H b with
   | none=>rfl
   | some u =>
    have e':b=a:=hA b (by rw [q];simp)
    subst e'
    rw [hK (by rw [q];simp)] at e;cases e)
  have hM:Mod K mg (uu s₁.heap H):=⟨U5,Qp MJ,⟨mb,Qp hb,NQ⟩,let ⟨mc,h1,h2⟩:=Rp;⟨mc,Qp h1,h2⟩⟩
  have e0:Gy P w K mg (uu s₁.heap H) callerA [] s₁ H:=⟨rfl,hM,fun b o e=>Gi e,Nat.le_of_eq (BD _ _),trivial,fun b hb=>absurd (show b∈([]:List Addr) from hb) (by simp),bf,.of_eq hg⟩
  refine codeAny_mono ((F _ U5 (Qp MJ)).run callerA [] s₁ H ⟨[.ref a],[]⟩ [.ref a] [.ref a] _ _ hr e0 (NR s₁ (.ref a)) (.cons rfl .nil) (yV H hO hS)) fun r s' h=>?_
  cases r with
  | error e=>exact (NS H e s' h).elim
  | ok fl =>
   cases fl with
   | next=>exact False.elim h
   | brk=>exact False.elim h
   | cont=>exact False.elim h
   | ret u =>
    obtain ⟨v,H',os,bare,un,Rr,r',q⟩:=h
    have q':v=.bl true:=q
    subst q'
    obtain rfl:u=Value.bool true:=r'
    refine⟨rfl,OldK.of_keep fun b o e=>?_,os,bare⟩
    cases q:H b with
    | none=>exact un.keep b o e q (by intro z;exact absurd (show b∈([]:List Addr) from z) (by simp)) (by simp)
    | some u =>
     rcases hO b with z|⟨ob,xs,z⟩
     ·rw [q] at z;cases z
     ·have z2:=un.jl b ob _ z
      obtain ⟨e1,_⟩:=bf b _ z
      obtain ⟨e2,_⟩:=Rr b _ z2
      rw [e] at e1;cases e1
      exact e2
 cases hk:K.lookup a with
 | some o =>
  have e:=KX a o hk
  rw [ha] at e
  cases e
  refine core (fun _=>none) (fun _=>.inl rfl) (.inr ⟨_,vs.toArray,_,hk,rfl,rfl,rfl,by rw [ZT,Rq];exact hl,by simpa using rv⟩) (fun b u z=>by have z':(none:Option HO)=some u:=z;cases z') (fun b z=>absurd rfl z) fun z=>absurd rfl z
 | none =>
  refine core (fun b=>if b=a then some (.xl { cls:=.type "list",data:=.seq vs.toArray } (.lst (ns.map V.int))) else none) (fun b=>?_) (.inl (.inr ⟨{ cls:=.type "list",data:=.seq vs.toArray },if_pos rfl⟩)) (fun b u z=>?_) (fun b z=>?_) fun _=>hk
  ·by_cases hb:b=a
   ·exact .inr ⟨_,_,if_pos hb⟩
   ·exact .inl (if_neg hb)
  ·by_cases hb:b=a
   ·have z':=(if_pos hb).symm.trans z
    cases z'
    subst hb
    exact⟨ha,by rw [ZI];exact hl,vs,_,rv,ha⟩
   ·have z':=(if_neg hb).symm.trans z
    cases z'
  ·by_cases hb:b=a
   ·exact hb
   ·exact absurd (if_neg hb) z
theorem GL{l:OpenLaw}{n k:Nat}{q:Program}{loose:List Str}{XP:(Str->Option Value)->Heap->Prop}{YP:World->Heap->Prop}{d:DefRec}{K:Params->Frag}{CX:World->C9}{sp:World->Sp}{x:Str}
  (hn:l.most=some n) (KS:n<=sizeLine) (NO:d.params.defaults=[]) (hr:dJ k callerA)
  (hY:∀ (w:World) (h:Heap),YP w h->(K w.params).In h)
  (F:∀ (w:World) (mg:Str->Option Value) (fa:Addr) (h:Heap),(K w.params).In h->h.Ns mainGlobals mg->mg d.name=some (.ref fa) ->
   ∃ fd:FuncData,(∀ (s:Shared) (u:Value),BindsTo s fd ⟨[u],[]⟩ [(x,u)]) /\
    ∀ base:Heap,(K w.params).In base->base.Ns mainGlobals mg->oB l.prog w (K w.params) mg base (CX w) k fa fd [x] (sp w))
  (yV:∀ (w:World) (H:Hp) (a:Addr) (ns:List Int),ns.length<=n->GK H->bj (K w.params) H a (ns.map V.int)->sp w [.ref a] H (fun v _=>v=.bl true) fun _ _ _=>False)
  (NS:∀ (w:World) (H:Hp) (s:Shared) (e:Value) (s':Shared),CX w [] H s (fun _ _ _=>False) e s'->False) :
  PySem.W.WalkO q loose XP YP l.row.toRowW d [] (fun f vs=>PySem.call f vs):=by
 refine U4.xu hn NO fun w s₀ s₁ mg mb fa o pm cd doc a vs ns G Y ho hd ze NP KR hints hlen hg=>?_
 have KX:=hY w _ Y
 obtain ⟨fd,hb,hF⟩:=F w mg fa _ KX G.T.g NP
 exact DO KX G.T.g G.T.b G.T.builtins G.T.nolimit hg KR hints (Zm hlen KS) hr hF hb (fun H hO hS=>yV w H a ns hlen hO hS) fun H e s'=>NS w H s₁ e s'
theorem DP{l:OpenLaw}{n k:Nat}{q:Program}{loose:List Str}{XP:(Str->Option Value)->Heap->Prop}{YP:World->Heap->Prop}{d:DefRec}{K:Params->Frag}{CX:C9}{sp:Frag->Sp}{x:Str}
  (hn:l.most=some n) (KS:n<=sizeLine) (NO:d.params.defaults=[]) (hr:dJ k callerA)
  (hY:∀ (w:World) (h:Heap),YP w h->(K w.params).In h)
  (F:∀ (w:World) (mg:Str->Option Value) (fa:Addr) (h:Heap),(K w.params).In h->h.Ns mainGlobals mg->mg d.name=some (.ref fa) ->
   ∃ fd:FuncData,(∀ (s:Shared) (u:Value),BindsTo s fd ⟨[u],[]⟩ [(x,u)]) /\
    ∀ base:Heap,(K w.params).In base->base.Ns mainGlobals mg->oB l.prog w (K w.params) mg base CX k fa fd [x] (sp (K w.params)))
  (yV:∀ (K:Frag) (H:Hp) (a:Addr) (ns:List Int),ns.length<=n->GK H->bj K H a (ns.map V.int)->sp K [.ref a] H (fun v _=>v=.bl true) fun _ _ _=>False)
  (NS:∀ (H:Hp) (s:Shared) (e:Value) (s':Shared),CX [] H s (fun _ _ _=>False) e s'->False) :
  PySem.W.WalkO q loose XP YP l.row.toRowW d [] (fun f vs=>PySem.call f vs) :=
 GL (K:=K) (CX:=fun _=>CX) (sp:=fun w=>sp (K w.params)) hn KS NO hr hY F (fun w H a ns h1 h2 h3=>yV (K w.params) H a ns h1 h2 h3) fun _ H s e s'=>NS H s e s'
def eH(s:Stmt):Arguments:=match s with
 | .FunctionDef _ a _ _ _ _ _ _ _ _=>a
 | _=>{ posonlyargs:=[],args:=[],vararg:=none,kwonlyargs:=[],kw_defaults:=[],kwarg:=none,defaults:=[] }
def cK(s:Stmt):List Stmt:=match s with
 | .FunctionDef _ _ b _ _ _ _ _ _ _=>b
 | _=>[]
def ao(s:Stmt):Scope:=match s with
 | .FunctionDef _ _ _ _ _ _ sc _ _ _=>sc
 | _=>{ kind:=.function,names:=[],isGenerator:=false,isCoroutine:=false }
abbrev Jm:C9:=fun _ _ _ _ _ _=>False
abbrev E0:XK:=fun _ _ _=>False
theorem NU{X:Cx}:Passes Jm X E0:=fun _ _ _ _ _ _ _ h=>h.elim
structure Jn(K:Frag)(x qual:Str)(st:Stmt)(f:Addr)(fd:FuncData):Prop where
 ex:∃ (oc:Value) (od:Option Addr) (kV doc pm:Value) (an:Option Addr) (bO ct:Value) (F4:Array (Option Value)),
  fd=fnOf x qual (eH st) (cK st) (ao st) .none kV doc pm an bO ct/\K.lookup f=some ⟨oc,od,.func fd,F4⟩/\codeIn K bO qual=true
 kp:keepIn K (.ref f)=true
section
variable {P:Program}{w:World}{K:Frag}{mg:Str->Option Value}{base:Heap}
theorem Jn.ok{x qual:Str}{st:Stmt}{f:Addr}{fd:FuncData}{N ps:List Str}{k:Nat}{sp:Sp}(F:Jn K x qual st f fd)(S:az N ps (ao st))(len:∀ vs H Q E,sp vs H Q E->vs.length=ps.length)
  (jR:∀ (bO:Value) (A:Around) (outer:List Env) (s:Shared) (H:Hp) (vs:List V) (Q:VK) (E:XK),dJ k (A.deeper (envOfC qual (ao st) s.heap.objs.size f bO))->sp vs H Q E ->
   ∃ t,tL (jo Jm P w K mg base N qual (ao st) f bO A outer s H E).Gq (cK st) t/\t { nx:=fun _ H'=>Q .dj H',rt:=Q } (start N vs) H):oB P w K mg base Jm (k+1) f fd ps sp:=by
 obtain ⟨oc,od,kV,doc,pm,an,bO,ct,F4,rfl,lk,ze⟩:=F.ex
 refine DA lk ze S len fun A outer s H vs Q E hr yV=>?_
 obtain ⟨t,h,q⟩:=jR bO A outer s H vs Q E hr yV
 exact⟨t,h.Gq,q⟩
theorem Jn.binds{x qual:Str}{st:Stmt}{f:Addr}{fd:FuncData}{ps:List Str}(F:Jn K x qual st f fd)
  (h:∀ (kV doc pm:Value) (an:Option Addr) (bO ct:Value) (us:List Value),us.length=ps.length->bindArgs (fnOf x qual (eH st) (cK st) (ao st) .none kV doc pm an bO ct) ⟨us,[]⟩=pure (ps.zip us)):Binds K fd ps []:=by
 obtain ⟨oc,od,kV,doc,pm,an,bO,ct,F4,rfl,lk,ze⟩:=F.ex
 exact .all (h kV doc pm an bO ct)
theorem DQ{x qual:Str}{st:Stmt}{f:Addr}{oc:Value}{od an:Option Addr}{F4:Array (Option Value)}{kV doc pm bO ct:Value}(l:K.lookup f=some ⟨oc,od,.func (fnOf x qual (eH st) (cK st) (ao st) .none kV doc pm an bO ct),F4⟩)
  (c:codeIn K bO qual=true) (k:keepIn K (.ref f)=true):Jn K x qual st f (fnOf x qual (eH st) (cK st) (ao st) .none kV doc pm an bO ct):=⟨⟨oc,od,kV,doc,pm,an,bO,ct,F4,rfl,l,c⟩,k⟩
end
theorem aS{A:Around}{k:Nat}(hr:dJ k A):A.units+1<cLine:=ZN (Nat.add_le_add_left (by decide:1<=64) _) hr.units
theorem cQ{n:Nat}(h:n<=1000):n<sizeLine:=ZN h (by decide)
section
variable {X:Cx}
theorem pv (i:Nat) {x:Str} {pos:Pos} (hN:X.N[i]?=some x:=by rfl) (hv:Nj X.env.scope x:=by first|exact Or.inl rfl|exact Or.inr (Or.inl rfl)|exact Or.inr (Or.inr rfl)) (hd:(x == ("__debug__":Str))=false:=by decide)
  (ze:(x == ("__classdict__":Str))=false:=by decide):PE X (.Name x pos) (Dk i):=Kg hN hv hd ze
end
theorem DR{A B:Prop}(h:B):if false=true then A else B:=by
 rw [if_neg Bool.false_ne_true]
 exact h
theorem ja{A B:Prop}(h:A):if true=true then A else B:=by
 rw [if_pos rfl]
 exact h
def ah(H H':Hp):Prop:=∀ b o,H b=some o->H' b=some o
theorem ah.refl(H:Hp):ah H H:=fun _ _ h=>h
theorem ah.trans{H H1 H2:Hp}(a:ah H H1)(b:ah H1 H2):ah H H2:=fun c o h=>b c o (a c o h)
theorem ah.seq{K:Frag}{H H':Hp}{a:Addr}{xs:List V}(e:ah H H')(h:bj K H a xs):bj K H' a xs:=by
 rcases h with (h|⟨o,h⟩)|h
 ·exact .inl (.inl (e _ _ h))
 ·exact .inl (.inr ⟨o,e _ _ h⟩)
 ·exact .inr h
end L2
namespace L2
open PySem
def jU(cells:List (Str×Addr)):List (Str×NameKind)->List (Str×Addr)->List (Str×Addr)
 | [],acc=>acc
 | (n,k)::r,acc=>jU cells r (if k == .free then (match cells.lookup n with|some c=>(n,c)::acc|none=>acc) else acc)
theorem oE{scope:Scope}{env:Env}(h:∀ p∈scope.names,p.2=.free->∃ c,env.cells.lookup p.1=some c):closureFor scope env=pure (jU env.cells scope.names []):=by
 have key:∀ (names:List (Str×NameKind)) (acc:List (Str×Addr)),(∀ p∈names,p.2=.free->∃ c,env.cells.lookup p.1=some c) ->
   (forIn names acc (fun (x:Str×NameKind) (cs:List (Str×Addr))=>if (x.2 == NameKind.free)=true then (do let c <- cellOf env x.1;pure (ForInStep.yield ((x.1,c)::cs))) else pure (ForInStep.yield cs)):Sem (List (Str×Addr)))=pure (jU env.cells names acc):=by
  intro names
  induction names with
  | nil=>intro acc _;rfl
  | cons p r ih =>
   intro acc hp
   obtain ⟨n,k⟩:=p
   rw [forIn_cons]
   by_cases hk:k=.free
   ·subst hk
    obtain ⟨c,hc⟩:=hp (n,.free) mem_cons_self rfl
    have e:cellOf env n=pure c:=by unfold cellOf;rw [show env.cells.lookup n=some c from hc]
    show (if (NameKind.free == NameKind.free)=true then _ else _) >>= _=_
    rw [if_pos (by rfl)]
    dsimp only
    rw [e]
    show (forIn r ((n,c)::acc) _:Sem _)=_
    rw [ih _ fun q hq=>hp q (ZK _ hq)]
    simp [jU,show env.cells.lookup n=some c from hc]
   ·have A3:(k == NameKind.free)=false:=by simpa using hk
    show (if (k == NameKind.free)=true then _ else _) >>= _=_
    rw [if_neg (by rw [A3];exact Bool.false_ne_true)]
    show (forIn r acc _:Sem _)=_
    rw [ih _ fun q hq=>hp q (ZK _ hq)]
    simp [jU,A3]
 unfold closureFor
 have k:=key scope.names [] h
 exact (congrArg (fun m:Sem (List (Str×Addr))=>m >>= fun cs=>pure cs) k).trans rfl
theorem oF{cells:List (Str×Addr)}:∀ {names:List (Str×NameKind)} {acc:List (Str×Addr)},(∀ x c,acc.lookup x=some c->cells.lookup x=some c)->∀ x c,(jU cells names acc).lookup x=some c->cells.lookup x=some c
 | [],acc,h,x,c,e=>h x c e
 | (n,k)::r,acc,h,x,c,e=>by
  refine oF (names:=r) (fun y d q=>?_) x c e
  split at q
  ·split at q
   ·rename_i c0 Qq
    rw [lookup_cons] at q
    split at q
    ·rename_i hy
     have GN:y=n:=by simpa using hy
     subst GN
     rw [Qq];exact q
    ·exact h y d q
   ·exact h y d q
  ·exact h y d q
theorem oG{cells:List (Str×Addr)}:∀ {names:List (Str×NameKind)} {acc:List (Str×Addr)} {x:Str},(acc.lookup x).isSome=true\/((x,NameKind.free)∈names/\(cells.lookup x).isSome=true)->((jU cells names acc).lookup x).isSome=true
 | [],acc,x,h=>by
  rcases h with h|h
  ·exact h
  ·exact absurd h.1 (by simp)
 | (n,k)::r,acc,x,h=>by
  refine oG (names:=r) ?_
  rcases h with h|⟨hm,hc⟩
  ·left
   split
   ·split
    ·rw [lookup_cons];split
     ·rfl
     ·exact h
    ·exact h
   ·exact h
  ·rcases ZL.mp hm with e|hm
   ·injection e with e1 e2
    subst e1;subst e2
    left
    rw [if_pos (by rfl)]
    cases hq:cells.lookup x with
    | none=>rw [hq] at hc;cases hc
    | some c=>simp
   ·exact .inr ⟨hm,hc⟩
section
variable {prog:Program}{w:World}{A:Around}
theorem tX{R:Result->Shared->Prop}{s:Shared}{elt target iter:Expr}{ifs:List Expr}{scope:Scope}{pos:Pos}{it acc:Value}{env:Env}{E:Value->Shared->Prop}(hE:∀ e s',E e s'->notedBy (model prog w) A env (fun e s'=>R (.error e) s') e s')(I:Nat->Shared->Prop)
  (turn:∀ n s,I n s->wpAny (model prog w) A (pyNext it) (fun r s₁=>match r with
   | none=>R (.ok .next) s₁
   | some v=>wpAny (model prog w) A (letOwnedTupleGo target it v) (fun _ U6=>wpAny (model prog w) A (assign target env v) (fun _ s₂ =>
     wpAny (model prog w) A (forIn ifs true fun c r=>if r=true then do let ok <- isTrue c env (eval c env);pure (ForInStep.yield ok) else pure (ForInStep.yield r)) (fun ok s₃ =>
      if ok=true then wpAny (model prog w) A (eval elt env) (fun x s₄ =>
       wpAny (model prog w) A (call (.builtin "list.append") [acc,x]) (fun _ s₅=>∃ m,m<n/\I m s₅) E s₄) E s₃
      else ∃ m,m<n/\I m s₃) E s₂) E U6) E s₁) E s)
  (n:Nat) (h:I n s) :
  codeAny (model prog w) A (.compLoop (.ListComp elt [⟨target,iter,ifs,0⟩] scope pos) 0 it acc env) R s:=by
 have tY:∀ {α:Type} {t:Sem α} {Q:α->Shared->Prop} {s:Shared},wpAny (model prog w) A t Q E s->wpAny (model prog w) A t Q (notedBy (model prog w) A env fun e s'=>R (.error e) s') s:=fun q=>Zz q (fun _ _ z=>z) hE
 refine codeAny_loop rfl I (fun n s hI=>?_) n h
 show wpAny _ A ((compTurn (.ListComp elt [⟨target,iter,ifs,0⟩] scope pos) 0 it acc env).onRaise (fun x=>do noteFrame x env;theTreesLotGoes x)) _ _ s
 refine wpAny_noted ?_
 rw [compTurn_list]
 refine Zg (wpAny_standAt (Zg (Zz (tY (turn n s hI)) (fun r s₁ h₁=>?_) fun _ _ h'=>h')))
 cases r with
 | none=>exact Zy h₁
 | some v =>
  refine Zg (Zz (tY h₁) (fun _ U6 Wy=>?_) fun _ _ h'=>h')
  refine Zg (Zz (tY Wy) (fun _ s₂ h₂=>Zg (Zz (tY h₂) (fun ok s₃ h₃=>?_) fun _ _ h'=>h')) fun _ _ h'=>h')
  cases ok with
  | false=>exact Zy ⟨rfl,h₃⟩
  | true =>
   simp only [if_true] at h₃ ⊢
   exact Zg (Zg (Zz (tY h₃) (fun x s₄ h₄=>Zg (Zz (tY h₄) (fun _ s₅ h₅=>Zy (Zy ⟨rfl,h₅⟩)) fun _ _ h'=>h')) fun _ _ h'=>h'))
end
open PySem PySem.Spec PyProof.Rows
abbrev b6(X:Cx)(pins:List (Addr×Obj))(N:List Str)(scope:Scope)(C:Addr)(s:Shared)(H:Hp)(fp:List Addr):Cx :=
 { X with N:=N,s₀:=s,H₀:=H,env:=compEnvC scope (jU X.env.cells scope.names []) C X.env,outer:=X.stack,stack:=X.stack,ex:=fp,fn:=fun _=>false,pn:=X.pn++pins,xe:=fun _ _=>False }
def pick(ix:List (Option Nat))(σ:St):St:=ix.map fun o=>o.bind fun j=>(σ[j]?).join
def nK(X:Cx)(scope:Scope):List Str->List (Option Nat)->Prop
 | [],[]=>True
 | _::N,none::ix=>nK X scope N ix
 | x::N,some j::ix=>(X.N[j]?=some x/\Nj X.env.scope x/\(X.env.scope.names.lookup x == some .local)=false/\scope.names.lookup x=some .free)/\nK X scope N ix
 | _,_=>False
theorem nK.len{X:Cx}{scope:Scope}:∀ {N:List Str} {ix:List (Option Nat)},nK X scope N ix->ix.length=N.length
 | [],[],_=>rfl
 | [],none::_,h=>h.elim
 | [],some _::_,h=>h.elim
 | _::_,[],h=>h.elim
 | _::N,none::ix,h=>by simp only [length_cons];rw [nK.len (N:=N) (ix:=ix) h]
 | _::N,some _::ix,h=>by simp only [length_cons];rw [nK.len (N:=N) (ix:=ix) h.2]
theorem nK.get{X:Cx}{scope:Scope}:∀ {N:List Str} {ix:List (Option Nat)} {i j:Nat} {x:Str},nK X scope N ix->N[i]?=some x->ix[i]?=some (some j) ->
  X.N[j]?=some x/\Nj X.env.scope x/\(X.env.scope.names.lookup x == some .local)=false/\scope.names.lookup x=some .free
 | [],[],_,_,_,_,h,_=>by simp at h
 | [],none::_,_,_,_,h,_,_=>h.elim
 | [],some _::_,_,_,_,h,_,_=>h.elim
 | _::_,[],_,_,_,h,_,_=>h.elim
 | _::N,none::ix,0,_,_,_,_,e=>by simp at e
 | _::N,none::ix,i+1,_,_,h,h1,e=>nK.get (N:=N) (ix:=ix) (i:=i) h (by simpa using h1) (by simpa using e)
 | y::N,some k::ix,0,j,x,h,h1,e=>by
  simp at h1 e
  subst h1;subst e
  exact h.1
 | _::N,some _::ix,i+1,_,_,h,h1,e=>nK.get (N:=N) (ix:=ix) (i:=i) h.2 (by simpa using h1) (by simpa using e)
theorem xv{ix:List (Option Nat)}{σ:St}{i:Nat}{v:V}(h:(pick ix σ)[i]?=some (some v)):∃ j,ix[i]?=some (some j)/\σ[j]?=some (some v):=by
 unfold pick at h
 rw [ZU] at h
 cases e:ix[i]? with
 | none=>rw [e] at h;cases h
 | some o =>
  rw [e] at h
  cases o with
  | none=>cases h
  | some j =>
   refine⟨j,rfl,?_⟩
   have h':(σ[j]?).join=some v:=Zr h
   cases q:σ[j]? with
   | none=>rw [q] at h';cases h'
   | some z=>rw [q] at h';have h2:z=some v:=h';rw [h2]
theorem cV{env : Env} : ∀ {names : List (Str × NameKind)} {x : Str}, (∀ y ∈ names, y.2 ≠ .cell) ->
    ((names.map fun (n, k) => if (k == NameKind.free && env.scope.kind == .function && env.kindOf n == some .cell) then (n, NameKind.cell) else (n, k)).lookup x=some .cell \/
     (names.map fun (n, k) => if (k == NameKind.free && env.scope.kind == .function && env.kindOf n == some .cell) then (n, NameKind.cell) else (n, k)).lookup x=some .free) -> names.lookup x=some .free
  | [], _, _, h => by simp at h
  | (n, k)::r, x, hc, h => by
    have ih := @cV env r x fun y hy => hc y (ZK _ hy)
    have hk : k ≠ .cell := hc (n, k) mem_cons_self
    rw [map_cons] at h
    cases hx : x == n with
    | true =>
      rw [lookup_cons, hx]
      by_cases nM : (k == NameKind.free && env.scope.kind == .function && env.kindOf n == some .cell)=true
      · have : k=.free := by
          simp only [Bool.and_eq_true, beq_iff_eq] at nM
          exact nM.1.1
        rw [this]
      · simp only [nM, Bool.false_eq_true, if_false, lookup_cons, hx] at h
        rcases h with h|h
        · exact absurd (Zr h) hk
        · exact h
    | false =>
      rw [lookup_cons, hx]
      refine ih ?_
      by_cases nM : (k == NameKind.free && env.scope.kind == .function && env.kindOf n == some .cell)=true
      · simp only [nM, if_true, lookup_cons, hx] at h
        exact h
      · simp only [nM, Bool.false_eq_true, if_false, lookup_cons, hx] at h
        exact h
theorem fT{env : Env} : ∀ {names : List (Str × NameKind)} {x : Str}, names.lookup x=some .free ->
    ((names.map fun (n, k) => if (k == NameKind.free && env.scope.kind == .function && env.kindOf n == some .cell) then (n, NameKind.cell) else (n, k)).lookup x=some .cell \/
     (names.map fun (n, k) => if (k == NameKind.free && env.scope.kind == .function && env.kindOf n == some .cell) then (n, NameKind.cell) else (n, k)).lookup x=some .free)
  | [], _, h => by simp at h
  | (n, k)::r, x, h => by
    have ih := @fT env r x
    rw [map_cons]
    cases hx : x == n with
    | true =>
      rw [lookup_cons, hx] at h
      have hk : k=.free := Zr h
      subst hk
      by_cases nM : (NameKind.free == NameKind.free && env.scope.kind == .function && env.kindOf n == some .cell)=true
      · simp only [nM, if_true, lookup_cons, hx];exact .inl trivial
      · simp only [nM, Bool.false_eq_true, if_false, lookup_cons, hx];exact .inr trivial
    | false =>
      rw [lookup_cons, hx] at h
      by_cases nM : (k == NameKind.free && env.scope.kind == .function && env.kindOf n == some .cell)=true
      · simp only [nM, if_true, lookup_cons, hx];exact ih h
      · simp only [nM, Bool.false_eq_true, if_false, lookup_cons, hx];exact ih h
def Rt(Y:Cx):List Expr->TT->Prop
 | [],t=>t=fun _ H Q=>Q true H
 | [c],t=>PT Y c t
 | _,_=>False
def bT(ix:List (Option Nat))(g:TG)(tt:TT)(te:TE)(σ:St)(Q:VK)(J:It)(H1:Hp):Prop:=∀ l,H1 l=none->∃ W:Nat->Nat->St->List V->Hp->Prop,
 (∃ m,W 0 m (pick ix σ) [] (upd H1 l (.lst [])))/\∀ i m σ1 ys H',W i m σ1 ys H'->H' l=some (.lst ys)/\((J.stop i H'/\Q (.ref l) H') \/
  (J.go i H'/\∃ m',m'<m/\∀ x H2,J.Dn i H' x H2->g x σ1 H2 fun σ2 H3=>tt σ2 H3 fun b H4=>if b=true then te σ2 H4 fun y H5=>H5 l=some (.lst ys)/\ys.length<sizeLine/\W (i+1) m' σ2 (ys++[y]) (upd H5 l (.lst (ys++[y]))) else W (i+1) m' σ2 ys H4))
def DS(ix:List (Option Nat))(wi:TI)(g:TG)(tt:TT)(te:TE):TE:=fun σ H Q=>wi σ H fun J H1=>bT ix g tt te σ Q J H1
theorem Un.letGo{fs ex:List Addr}{H H':Hp}{h h1 h2:Heap}{C:Addr}(u:Un fs ex H H' h h1)(hC:h.objs.size<=C)(sb:Heap.SameBut C h1 h2):Un fs ex H H' h h2:=by
 have ne:∀ b o,h.get? b=some o->b≠C:=fun b o e=>Z0 (Nat.lt_of_lt_of_le (Zj e) hC)
 refine⟨fun b o e n hb hx=>(sb.2 b (ne b o e)).trans (u.keep b o e n hb hx),fun b o e n hb hx=>?_,u.free,fun b o e hx=>?_,u.jK,u.jl,u.jL⟩
 ·obtain ⟨sl,q⟩:=u.slot b o e n hb hx
  exact⟨sl,(sb.2 b (ne b o e)).trans q⟩
 ·obtain ⟨o',q⟩:=u.there b o e hx
  exact⟨o',(sb.2 b (ne b o e)).trans q⟩
theorem fP.letGo{P:Program}{w:World}{H:Hp}{h h':Heap}{C:Addr}(x:fP P w H h)(hC:H C=none)(sb:Heap.SameBut C h h'):fP P w H h':=fun a o e=>by
 have na:∀ b u,H b=some u->b≠C:=fun b u q z=>by rw [z,hC] at q;cases q
 refine (x a o e).kK (fun b u hb q=>(sb.2 b ?_).trans q) (fun _ q=>q) fun _ _ q=>q
 rcases hb with rfl|hb
 ·exact na _ _ e
 ·exact na _ _ hb
section
variable {X:Cx}
theorem xw{Y:Cx}{ifs:List Expr}{tt:TT}(ht:Rt Y ifs tt){pins:List (Addr×Obj)}{s:Shared}{σ:St}{H:Hp}{Q:Bool->Hp->Prop}(I:Inv Y pins σ H s)(h:tt σ H Q) :
  wpAny (model Y.prog Y.w) Y.A (forIn ifs true fun c r=>if r=true then do let ok <- isTrue c Y.env (eval c Y.env);pure (ForInStep.yield ok) else pure (ForInStep.yield r)) (TP Y pins σ Q) Y.xe s:=by
 match ifs,ht with
 | [],ht =>
  have e:tt=fun _ H Q=>Q true H:=ht
  subst e
  exact wpAny_tests_nil ⟨H,I,h⟩
 | [c],ht=>exact wpAny_tests_one ((show PT Y c tt from ht) pins s σ H Q I h)
 | _::_::_,ht=>exact False.elim ht
theorem bu{tg iter elt:Expr}{ifs:List Expr}{scope:Scope}{pos:Pos}{N:List Str}{ix:List (Option Nat)}{wi:TI}{g:TG}{tt:TT}{te:TE}
  (hc:X.calm=true) (hi:PI X tg iter wi)
  (hg:∀ pins C s H fp,PG (b6 X pins N scope C s H fp) tg g)
  (ht:∀ pins C s H fp,Rt (b6 X pins N scope C s H fp) ifs tt)
  (he:∀ pins C s H fp,PE (b6 X pins N scope C s H fp) elt te)
  (hk:scope.kind=.function) (mY:∀ y∈scope.names,y.2≠.cell) (zp:∀ y∈scope.names,y.2=.local->scope.names.lookup y.1=some .local)
  (KU:(scope.names.all fun y=>!(y.2 == NameKind.free) || (X.env.cells.lookup y.1).isSome)=true) (NV:nK X scope N ix)
  (hs:∀ x,foldedSetIterable iter X.env x=pure x:=by intro _;rfl) :
  PE X (.ListComp elt [⟨tg,iter,ifs,0⟩] scope pos) (DS ix wi g tt te):=by
 intro pins s σ H Q I h
 have tZ:∀ y∈scope.names,y.2=.free->(X.env.cells.lookup y.1).isSome=true:=fun y hy e=>by
  have z:=all_eq_true.mp KU y hy
  rw [e] at z
  simpa using z
 have KW:∀ p∈scope.names,p.2=.free->∃ c,X.env.cells.lookup p.1=some c:=fun p hp e=>Zx.mp (tZ p hp e)
 have d5:∀ x c,(jU X.env.cells scope.names []).lookup x=some c->X.env.cells.lookup x=some c:=oF (fun x c q=>by simp at q)
 have xx:∀ x,scope.names.lookup x=some .free->∃ c,(jU X.env.cells scope.names []).lookup x=some c:=fun x hx=>by
  have hm:=PySem.mem_of_lookup hx
  exact Zx.mp (oG (.inr ⟨hm,tZ _ hm rfl⟩))
 rw [eval_ListComp]
 refine wpAny_comprehension_free (use:=none) rfl hs (oE KW) hk zp (cb (hi pins s σ H _ I h) fun v s1 h1=>cb h1 fun Qj s2 h2=>?_)
 obtain ⟨it,fp,tn,J,H2,e,I2,T,Kp,f2,hW⟩:=h2
 subst e
 have zq:H2 s2.heap.objs.size=none:=I2.bf.fresh (Zn _)
 obtain ⟨W,⟨m0,w0⟩,turn⟩:=hW s2.heap.objs.size zq
 refine wpAny_newObj_type ?_
 have I3:Inv X pins σ (upd H2 s2.heap.objs.size (.lst [])) { s2 with heap:=s2.heap.push { cls:=.type "list",data:=.seq ([]:List Value).toArray } }:=I2.GH (its:=[]) (t':=s2.toks) .nil (ZZ _)
 have f3:∀ b∈fp,nI X pins (upd H2 s2.heap.objs.size (.lst [])) b:=fun b hb=>by
  refine⟨?_,(f2 b hb).2⟩
  obtain ⟨o,eo,_⟩:=T.obj _ _ Kp b hb
  rw [aG (Z0 (Zj eo))]
  exact (f2 b hb).1
 have AQ:tn 0 (s2.heap.push { cls:=.type "list",data:=.seq ([]:List Value).toArray }):=T.keep _ _ _ Kp fun b _ o e=>Zf _ e
 generalize t5:({ s2 with heap:=s2.heap.push { cls:=.type "list",data:=.seq ([]:List Value).toArray } }:Shared)=s3 at I3
 have AQ:tn 0 s3.heap:=by rw [<- t5];exact AQ
 generalize Wz:upd H2 s2.heap.objs.size (.lst [])=H3 at I3 f3 w0
 generalize Ru:s2.heap.objs.size=acc at *
 refine wpAny_newFunctionEnv mY (by intro y hy;simp at hy) (fun h₁ KY KZ=>?_) hk
 have old:∀ b o,s3.heap.get? b=some o->h₁.get? b=some o:=fun b o q=>KZ.extBut b o (Z0 (Zj q)) (Zf _ q)
 have zr:H3 s3.heap.objs.size=none:=I3.bf.fresh (Zn _)
 have NW:∀ b∈fp,b<s3.heap.objs.size:=fun b hb=>by
  obtain ⟨o,eo,_⟩:=T.obj _ _ AQ b hb
  exact Zj eo
 have zt:∀ b,b≠X.env.locals->b∉X.fs->b∉ow X.stack:=fun b h1 h2 z=>by
  rcases ZL.mp (I3.kL b z) with q|q
  ·exact h1 q
  ·exact h2 q
 have U7:∀ x c,X.env.cells.lookup x=some c->c<s3.heap.objs.size:=fun x c q=>by
  obtain ⟨v,z⟩:=I3.cell x c q
  exact z.lt
 have YI:∀ (h':Heap) (m:Str->Option Value),(∀ b o,s3.heap.get? b=some o->h'.get? b=some o)->h'.Ns s3.heap.objs.size m ->
   Inv (b6 X pins N scope s3.heap.objs.size s3 H3 fp) [] (pick ix σ) H3 { s3 with heap:=h',toks:=s3.toks+([]:List (Str×Value)).length }:=by
  intro h' m A3 hn
  refine⟨⟨I3.ok.mod,hk,I3.ok.glob,I3.ok.blt,Zn _,fun x y c q1 q2=>I3.ok.inj x y c (d5 x c q1) (d5 y c q2),fun x hx=>xx x (cV mY hx),fun x c hf _=>absurd hf Bool.false_ne_true,
   I3.ok.hd,I3.ok.frames,.inl rfl,fun b hb=>⟨Z0 (NW b hb),fun x c q=>(f3 b hb).2.2.2.2.1 x c (d5 x c q)⟩,I3.bs,Zm I3.ok.C8 I3.sz,fun b o e hb=>?_,fun b hb=>zt b (f3 b hb).2.1 (f3 b hb).2.2.1,I3.stack,I3.jN⟩,
   rfl,I3.bare,Un.kept A3,⟨m,hn,fun i x v h1 h2 h3=>?_⟩,fun x c q=>?_,zr,fun x c q=>I3.dI x c (d5 x c q),fun p hp=>?_,I3.bf.kept A3,?_⟩
  ·have q:=(I3.bs b o e).2
   rcases (f3 b hb).2.2.2.1 with z|z
   ·exact I3.ok.xn b o e z
   ·exact absurd (Nat.lt_of_lt_of_le (Zj e) (Zm I3.ok.C8 z)) (Nat.lt_irrefl _)
  ·obtain ⟨j,e1,e2⟩:=xv h2
   obtain ⟨a1,a2,a3,a4⟩:=NV.get h1 e1
   obtain ⟨mX,WA,Rv⟩:=I3.loc
   obtain ⟨u,ru,l⟩:=Rv j x v a1 e2 a2
   refine⟨u,ru,?_⟩
   rcases l with ⟨l1,_⟩|⟨_,c,lc,z⟩
   ·have Rw:X.env.scope.names.lookup x=some .local:=l1
    rw [Rw] at a3
    exact absurd a3 (by decide)
   ·obtain ⟨c',IZ⟩:=xx x a4
    have ec:=d5 x c' IZ
    rw [lc] at ec
    have Rx:c=c':=Zr ec
    subst Rx
    exact .inr ⟨fT a4,c,IZ,z.keeps A3⟩
  ·obtain ⟨v,z⟩:=I3.cell x c (d5 x c q)
   exact⟨v,z.keeps A3⟩
  ·have oH:p∈X.pn++pins:=by simpa using hp
   obtain ⟨a1,a2,a3,a4,a5⟩:=I3.pin p oH
   exact⟨A3 _ _ a1,a2,Z0 (Zj a1),zt p.1 a3 a4,a5⟩
  ·show (pick ix σ).length=N.length
   unfold pick
   rw [ZI]
   exact NV.len
 have K0:∀ {pl:List (Addr×Obj)} {H':Hp},pl=[]->(∀ b∈fp,H' b=none)->∀ b∈fp,nI (b6 X pins N scope s3.heap.objs.size s3 H3 fp) pl H' b:=fun {pl H'} Ry hn b hb=>by
  obtain ⟨f0,f1,NX,NY,f4,f5⟩:=f3 b hb
  subst Ry
  exact⟨hn b hb,Z0 (NW b hb),zt b f1 NX,.inl hb,fun x c q=>f4 x c (d5 x c q),fun p hp=>f5 p (by simpa using hp)⟩
 have loop:∀ s4:Shared,(∃ m,s4={ s3 with heap:=h₁,toks:=s3.toks+([]:List (Str×Value)).length }/\h₁.Ns s3.heap.objs.size m) ->
   codeAny (model X.prog X.w) X.A (.compLoop (.ListComp elt [⟨tg,iter,ifs,0⟩] scope pos) 0 (.ref it) (.ref acc) (compEnvC scope (jU X.env.cells scope.names []) s3.heap.objs.size X.env))
    (compPost (model X.prog X.w) X.A X.xe none (EP X pins σ Q) (.ref acc) s3.heap.objs.size) s4:=by
  rintro s4 ⟨m4,rfl,DT⟩
  refine tX (E:=fun _ _=>False) (fun _ _ z=>z.elim)
   (fun n s'=>∃ i σ' ys H',Inv (b6 X pins N scope s3.heap.objs.size s3 H3 fp) [] σ' H' s'/\tn i s'.heap/\(∀ b∈fp,H' b=none)/\W i n σ' ys H') ?_ m0
   ⟨0,pick ix σ,[],H3,YI h₁ m4 old DT,T.keep _ _ _ AQ fun b _ o q=>old b o q,fun b hb=>(f3 b hb).1,w0⟩
  rintro n s5 ⟨i,σ5,ys,H5,I5,Gv,Kr,w5⟩
  obtain ⟨WB,xy⟩:=turn i n σ5 ys H5 w5
  rcases xy with ⟨stop,q⟩|⟨go,m',zu,step⟩
  ·refine cb (T.done (b6 X pins N scope s3.heap.objs.size s3 H3 fp) rfl rfl rfl hc i [] s5 σ5 H5 (fun _ _=>False) I5 (K0 rfl Kr) Gv stop) fun r s6 ⟨hr,I6⟩=>?_
   subst hr
   obtain ⟨m6,Rz,_⟩:=I6.loc
   refine⟨m6,Rz,fun h' sb=>?_⟩
   refine⟨.ref acc,H5,I3.Dj (ch:=fp) I6.os (I6.base.letGo (Zn _) sb) (I6.bf.letGo I6.free sb) I6.bare fun b hb=>?_,rfl,q⟩
   obtain ⟨f0,f1,NX,NY,f4,f5⟩:=f3 b hb
   exact⟨NY,f1,f4,f5⟩
  ·refine cb (T.item (b6 X pins N scope s3.heap.objs.size s3 H3 fp) rfl rfl rfl hc i [] s5 σ5 H5 (fun _ _=>False) I5 (K0 rfl Kr) Gv go) fun r s6 ⟨u,hr,h6⟩=>?_
   subst hr
   refine cb h6 fun _ s7 ⟨x,H7,I7,r7,y7,K1,RA⟩=>?_
   have RB:=I7.pinned (K0 rfl RA) (T.obj _ _ K1)
   refine cb (hg pins s3.heap.objs.size s3 H3 fp _ s7 σ5 H7 x u _ RB r7 (step x H7 y7)) fun _ s8 ⟨σ8,H8,I8,q8⟩=>?_
   refine cb (xw (ht pins s3.heap.objs.size s3 H3 fp) I8 q8) fun b s9 ⟨H9,I9,q9⟩=>?_
   have back:∀ {σz:St} {Hz:Hp} {sz:Shared} {yz:List V},Inv (b6 X pins N scope s3.heap.objs.size s3 H3 fp) ([]++kP fp s7.heap) σz Hz sz->W (i+1) m' σz yz Hz ->
     ∃ m,m<n/\∃ i σ' ys H',Inv (b6 X pins N scope s3.heap.objs.size s3 H3 fp) [] σ' H' sz/\tn i sz.heap/\(∀ b∈fp,H' b=none)/\W i m σ' ys H':=fun {σz Hz sz yz} Iz wz=>by
    refine⟨m',zu,i+1,σz,yz,Hz,Iz.gy,T.keep _ _ _ K1 fun b hb o e=>(Iz.pin (b,o) (ZD _ (ZD _ (dm hb e)))).1,fun b hb=>?_,wz⟩
    obtain ⟨o,e,d⟩:=T.obj _ _ K1 b hb
    exact (Iz.pin (b,o) (ZD _ (ZD _ (dm hb e)))).2.1
   cases b with
   | false=>exact back I9 q9
   | true =>
    refine cb (he pins s3.heap.objs.size s3 H3 fp _ s9 σ8 H9 _ I9 q9) fun v RC ⟨y,NZ,RD,RE,K2,K3,RF⟩=>?_
    refine cb (bZ _ RC σ8 NZ (.ref acc) [y] (.ref acc) [v] (fun _ H'=>H'=upd NZ acc (.lst (ys++[y]))) RD rfl (.cons RE .nil) ⟨acc,ys,y,rfl,rfl,K2,K3,rfl⟩) fun _ WC ⟨_,WD,RG,_,RH⟩=>?_
    subst RH
    exact back RG RF
 have DT:∃ m,h₁.Ns s3.heap.objs.size m:=⟨_,KY⟩
 obtain ⟨m4,DT⟩:=DT
 have L:=loop _ ⟨m4,rfl,DT⟩
 exact codeAny_compStart_list L (T.self _ 0 _ _ _ (T.keep _ _ _ AQ fun b _ o q=>old b o q) L)
end
end L2
namespace L2
open PySem
theorem bI{a b:Nat}(h:@Ne Nat a b):@Ne Addr a b:=h
def aX(k:Bool)(h:Heap)(a:Addr)(xs:Array Value):Prop:=match k with|true=>h.IsTuple a xs|false=>h.IsList a xs
def gw(k:Bool)(h:Heap)(it a:Addr)(i:Nat):Prop:=match k with|true=>h.IsTupleIter it a i|false=>h.IsListIter it a i
def bg (k:Bool) (a:Addr):Obj:=match k with|true=>{ cls:=.type "tuple_iterator",data:=.fields #[.ref a,.int 0 0] }|false=>{ cls:=.type "list_iterator",data:=.fields #[.ref a,.int 0 0] }
abbrev IsT (h:Heap) (T:Addr) (vs:Array Value):Prop:=h.get? T=some { cls:=.type "tuple",data:=.seq vs }
theorem aX.keep{k:Bool}{h h':Heap}{a:Addr}{xs:Array Value}(x:aX k h a xs)(hk:∀ o,h.get? a=some o->h'.get? a=some o):aX k h' a xs:=by
 cases k with
 | true=>obtain ⟨o,e,r⟩:=x;exact⟨o,hk o e,r⟩
 | false=>obtain ⟨o,e,r⟩:=x;exact⟨o,hk o e,r⟩
theorem gw.keep{k:Bool}{h h':Heap}{it a:Addr}{i:Nat}(x:gw k h it a i)(hk:∀ o,h.get? it=some o->h'.get? it=some o):gw k h' it a i:=by
 cases k with
 | true=>obtain ⟨o,e,r⟩:=x;exact⟨o,hk o e,r⟩
 | false=>obtain ⟨o,e,r⟩:=x;exact⟨o,hk o e,r⟩
theorem gw.obj{k:Bool}{h:Heap}{it a:Addr}{i:Nat}(x:gw k h it a i):∃ o,h.get? it=some o/\∀ v,o.data≠.cell v:=by
 cases k with
 | true=>obtain ⟨o,e,_,d⟩:=x;exact⟨o,e,fun v z=>by rw [d] at z;cases z⟩
 | false=>obtain ⟨o,e,_,d⟩:=x;exact⟨o,e,fun v z=>by rw [d] at z;cases z⟩
theorem aX.lt{k:Bool}{h:Heap}{a:Addr}{xs:Array Value}(x:aX k h a xs):a<h.objs.size:=by
 cases k with
 | true=>obtain ⟨o,e,_⟩:=x;exact Zj e
 | false=>obtain ⟨o,e,_⟩:=x;exact Zj e
theorem fJ{k:Bool}{h:Heap}{it a:Addr}(e:h.get? it=some (bg k a)):gw k h it a 0:=by
 cases k with
 | true=>exact⟨_,e,rfl,rfl⟩
 | false=>exact⟨_,e,rfl,rfl⟩
section
variable {prog:Program}{w:World}{A:Around}{E:Value->Shared->Prop}{s:Shared}
theorem d6{k:Bool}{a:Addr}{xs:Array Value}{Q:Value->Shared->Prop}(h:aX k s.heap a xs)(hQ:Q (.ref s.heap.objs.size) { s with heap:=s.heap.push (bg k a) }):wpAny (model prog w) A (pyIter (.ref a)) Q E s:=by
 cases k with
 | true=>exact wpAny_pyIter_tuple h hQ
 | false=>exact wpAny_pyIter_list h hQ
theorem jV{it t:Addr}{i:Nat}{items}{x:Value}{Q:Value->Shared->Prop}(hit:s.heap.IsTupleIter it t i)
  (ht:s.heap.IsTuple t items) (hx:items[i]?=some x)
  (hQ:∀ h',h'.IsTupleIter it t (i+1)->Heap.SameBut it s.heap h'->Q x { s with heap:=h' }) :
  wpAny (model prog w) A (Builtin.SmallTypes.nextOf (.ref it)) Q E s:=by
 obtain ⟨o,ho,hc,hd⟩:=id hit
 obtain ⟨ol,RI,_,nl,RJ⟩:=ht
 unfold Builtin.SmallTypes.nextOf
 refine Zg (wpAny_callSpecial?_slot (name:=Str.ofString "__next__") hit.typeIs F.slot_tuple_iterator_next
  (wpAny_call_entry F.slot_tuple_iterator_next hit.typeIs F.entry_tuple_iterator_next ?_ (F.args_tuple_iterator_next_1 _)))
 show wpAny _ _ (field (.ref it) 0 >>= _) _ _ s
 refine Zg (wpAny_field ho hd (x:=.ref t) rfl ?_)
 show wpAny _ _ (if (Value.ref t == Value.none)=true then _ else _) _ _ s
 rw [if_neg (show ¬ ((Value.ref t == Value.none)=true) from Bool.false_ne_true)]
 show wpAny _ _ (field (.ref it) 1 >>= _) _ _ s
 refine Zg (wpAny_field ho hd (x:=.int i 0) rfl ?_)
 show wpAny _ _ (seqItems? (.ref t) >>= _) _ _ s
 refine Zg (wpAny_seqItems RI RJ ?_)
 simp only [Z3,hx]
 refine Zg (wpAny_setField ho hd (by simp) (Zy ⟨x,rfl,Zy (hQ _ ?_ (Heap.SameBut.update ..))⟩))
 exact⟨_,Heap.get?_update_self _ ho (Obj.isFreed_of_fields (Obj.data_mapFields hd _)),(Obj.cls_mapFields ..).trans hc,by
  rw [Obj.data_mapFields hd];simp [rawInt]⟩
theorem kS{it t:Addr}{i:Nat}{items}{Q:Value->Shared->Prop}(hh:A.handled=none)
  (hit:s.heap.IsTupleIter it t i) (ht:s.heap.IsTuple t items) (hx:items[i]?=none)
  (hE:∀ h' e,Heap.ExtBut it s.heap h'->(∃ o,h'.get? e=some o/\o.cls=.type "StopIteration")->E (.ref e) { s with heap:=h' }) :
  wpAny (model prog w) A (Builtin.SmallTypes.nextOf (.ref it)) Q E s:=by
 obtain ⟨o,ho,hc,hd⟩:=id hit
 obtain ⟨ol,RI,_,nl,RJ⟩:=ht
 unfold Builtin.SmallTypes.nextOf
 refine Zg (wpAny_callSpecial?_slot (name:=Str.ofString "__next__") hit.typeIs F.slot_tuple_iterator_next
  (wpAny_call_entry F.slot_tuple_iterator_next hit.typeIs F.entry_tuple_iterator_next ?_ (F.args_tuple_iterator_next_1 _)))
 show wpAny _ _ (field (.ref it) 0 >>= _) _ _ s
 refine Zg (wpAny_field ho hd (x:=.ref t) rfl ?_)
 show wpAny _ _ (if (Value.ref t == Value.none)=true then _ else _) _ _ s
 rw [if_neg (show ¬ ((Value.ref t == Value.none)=true) from Bool.false_ne_true)]
 show wpAny _ _ (field (.ref it) 1 >>= _) _ _ s
 refine Zg (wpAny_field ho hd (x:=.int i 0) rfl ?_)
 show wpAny _ _ (seqItems? (.ref t) >>= _) _ _ s
 refine Zg (wpAny_seqItems RI RJ ?_)
 simp only [Z3,hx]
 refine Zg (wpAny_rule (Zg (wpAny_setField ho hd (by simp) ?_)))
 show wpAny _ _ (newExc (.type "StopIteration") [] >>= _) _ _ _
 refine Zg ?_
 simp only [newExc,newTuple]
 refine Zg (wpAny_newObj_type ?_ (by size_fits))
 refine Zg (m:=firstArgMember _ _) (wpAny_of_eq (a:=Value.none) (by first|rfl|(simp only [firstArgMember];rfl)) ?_)
 refine wpAny_newObj_type ?_ (by size_fits)
 simp only [raiseNew]
 refine Zg (wpAny_handled ?_)
 first|rw [show A.in1.handled=none from hh]|rw [hh]
 refine Zg (Zy (wpAny_throw ?_))
 exact hE _ _ (((Heap.SameBut.update ..).extBut.push _).push _) ⟨_,Zk _ rfl,rfl⟩
theorem d7{k:Bool}{it a:Addr}{i:Nat}{xs:Array Value}{x:Value}{Q:Value->Shared->Prop}(hit:gw k s.heap it a i)(hs:aX k s.heap a xs)(hx:xs[i]?=some x)
  (hQ:∀ h',gw k h' it a (i+1)->Heap.SameBut it s.heap h'->Q x { s with heap:=h' }):wpAny (model prog w) A (Builtin.SmallTypes.nextOf (.ref it)) Q E s:=by
 cases k with
 | true=>exact jV hit hs hx hQ
 | false=>exact wpAny_nextOf_list_item hit hs hx hQ
theorem n9{k:Bool}{it a:Addr}{i:Nat}{xs:Array Value}{Q:Value->Shared->Prop}(hh:A.handled=none)(hit:gw k s.heap it a i)(hs:aX k s.heap a xs)(hx:xs[i]?=none)
  (hE:∀ h' e,Heap.ExtBut it s.heap h'->(∃ o,h'.get? e=some o/\o.cls=.type "StopIteration")->E (.ref e) { s with heap:=h' }):wpAny (model prog w) A (Builtin.SmallTypes.nextOf (.ref it)) Q E s:=by
 cases k with
 | true=>exact kS hh hit hs hx hE
 | false=>exact wpAny_nextOf_list_end hh hit hs hx hE
theorem iL{T:Addr}{vs:Array Value}{x:Value}{k:Nat}{Q:Unit->Shared->Prop}(hT:IsT s.heap T vs)(hz:vs.size<=8)
  (h:∀ h',IsT h' T (vs.setIfInBounds k x)->Heap.SameBut T s.heap h'->Q () { s with heap:=h' }):wpAny (model prog w) A (updateSeq T (·.setIfInBounds k x)) Q E s:=by
 have Jo:vs.size<=sizeLine:=Zm hz (by decide)
 refine wpAny_updateSeq (hz:=Jo) (_hz':=by simp only [Array.size_setIfInBounds];lia) hT rfl (h _ ?_ (Heap.SameBut.update ..))
 show (s.heap.update T _).get? T=_
 rw [Heap.get?_update_self _ hT rfl]
 simp [Obj.mapSeq]
structure xA(k1 k2:Bool)(n a b:Nat)(i:Nat)(f0:Value)(h:Heap):Prop where
 z:IsZip h (n+4) (n+2) (n+3) f0
 ti:IsT h (n+2) #[.ref n,.ref (n+1)]
 to:∃ u v,IsT h (n+3) #[u,v]
 i1:gw k1 h n a i
 i2:gw k2 h (n+1) b i
def Off(l:List Addr)(h h':Heap):Prop:=∀ c o,c∉l->h.get? c=some o->h'.get? c=some o
theorem Off.of{c:Addr}{l:List Addr}{h h':Heap}(s:Heap.SameBut c h h')(hc:c∈l):Off l h h':=fun b o hb e=>(s.2 b fun z=>hb (z ▸ hc)).trans e
theorem Off.trans{l:List Addr}{h h1 h2:Heap}(a:Off l h h1)(b:Off l h1 h2):Off l h h2:=fun c o hc e=>b c o hc (a c o hc e)
theorem Off.push{l:List Addr}{h:Heap}(o:Obj):Off l h (h.push o):=fun _ _ _ e=>Zf _ e
theorem BR{k1 k2:Bool}{n a b:Nat}{i:Nat}{xs ys:Array Value}{x y:Value}{Q:Value->Shared->Prop}(Z:xA k1 k2 n a b i .none s.heap)(ha:a<n)(hb:b<n)
  (h1:aX k1 s.heap a xs) (h2:aX k2 s.heap b ys) (hx:xs[i]?=some x) (hy:ys[i]?=some y)
  (hQ:∀ h',xA k1 k2 n a b (i+1) (rawInt s.heap.objs.size) h'->IsT h' s.heap.objs.size #[x,y]->h'.objs.size=s.heap.objs.size+1->Off [n,n+1,n+3,n+4] s.heap h'->Q (.ref s.heap.objs.size) { s with heap:=h' }) :
  wpAny (model prog w) A (Builtin.«zip.__next__» ⟨[.ref (n+4)],[]⟩) (fun fin s'=>∃ v,fin=.done (.ret v)/\Q v s') E s:=by
 obtain ⟨hz,xB,⟨u,v,A4⟩,yW,t6⟩:=Z
 show wpAny _ _ (field (.ref (n+4)) 2 >>= _) _ _ _
 refine Zg (wpAny_field hz rfl (x:=.bool false) rfl ?_)
 show wpAny _ _ (field (.ref (n+4)) 3 >>= _) _ _ _
 refine Zg (wpAny_field hz rfl (x:=.ref (n+2)) rfl ?_)
 refine Zg (wpAny_seqItems xB rfl ?_)
 show wpAny _ _ (Builtin.SmallTypes.ownedTupleIsFree (.ref (n+4)) >>= _) _ _ _
 refine Zg ?_
 unfold Builtin.SmallTypes.ownedTupleIsFree
 refine Zg (wpAny_field hz rfl (x:=.none) rfl (Zy ?_))
 simp only [if_true]
 refine Zg (wpAny_rule ?_)
 refine Zg (wpAny_field hz rfl (x:=.ref (n+3)) rfl ?_)
 refine Zg (wpAny_setField_rec hz (by simp) fun g1 yX kT=>?_)
 replace yX:IsZip g1 (n+4) (n+2) (n+3) .ellipsis:=yX
 refine Zg ?_
 simp only [zipIdx_cons,zipIdx_nil,forIn_cons,forIn_nil]
 refine Zg (Zg (wpAny_onRaise ?_))
 show wpAny _ _ (Builtin.SmallTypes.nextOf (.ref n) >>= _) _ _ _
 refine Zg (d7 (yW.keep fun o e=>(kT.2 _ (bI (by lia))).trans e) (h1.keep fun o e=>(kT.2 _ (bI (by lia))).trans e) hx fun g2 GO eE=>Zy ?_)
 have xC:IsT g2 (n+3) #[u,v]:=(eE.2 _ (bI (by lia))).trans ((kT.2 _ (bI (by lia))).trans A4)
 refine Zg (wpAny_seqItems xC rfl ?_)
 refine Zg (iL xC (by simp) fun g3 xD t5=>?_)
 replace xD:IsT g3 (n+3) #[x,v]:=xD
 refine Zg (wpAny_letGo (Zy ?_))
 refine Zg (Zg (wpAny_onRaise ?_))
 show wpAny _ _ (Builtin.SmallTypes.nextOf (.ref (n+1)) >>= _) _ _ _
 refine Zg (d7 (t6.keep fun o e=>(t5.2 _ (bI (by lia))).trans ((eE.2 _ (bI (by lia))).trans ((kT.2 _ (bI (by lia))).trans e))) (h2.keep fun o e=>(t5.2 _ (bI (by lia))).trans ((eE.2 _ (bI (by lia))).trans ((kT.2 _ (bI (by lia))).trans e))) hy fun g4 K4 Dd=>Zy ?_)
 have DU:IsT g4 (n+3) #[x,v]:=(Dd.2 _ (bI (by lia))).trans xD
 refine Zg (wpAny_seqItems DU rfl ?_)
 refine Zg (iL DU (by simp) fun g5 xE F6=>?_)
 replace xE:IsT g5 (n+3) #[x,y]:=xE
 refine Zg (wpAny_letGo (Zy (Zy ?_)))
 refine Zg (wpAny_seqItems xE rfl ?_)
 refine Zg (wpAny_newTuple ?_)
 have jq:g5.objs.size=s.heap.objs.size:=by rw [F6.1,Dd.1,t5.1,eE.1,kT.1]
 have U8:IsZip g5 (n+4) (n+2) (n+3) .ellipsis:=(F6.2 _ (bI (by lia))).trans ((Dd.2 _ (bI (by lia))).trans ((t5.2 _ (bI (by lia))).trans ((eE.2 _ (bI (by lia))).trans yX)))
 have N0:Off [n,n+1,n+3,n+4] s.heap g5:=((((Off.of kT (by simp)).trans (Off.of eE (by simp))).trans (Off.of t5 (by simp))).trans (Off.of Dd (by simp))).trans (Off.of F6 (by simp))
 have DV:n+4<g5.objs.size:=Zj U8
 show wpAny _ _ (Builtin.SmallTypes.ownedTupleHandOut (.ref (n+4)) (.ref g5.objs.size) >>= _) _ _ _
 refine Zg ?_
 unfold Builtin.SmallTypes.ownedTupleHandOut
 have WE:IsZip (g5.push { cls:=.type "tuple",data:=.seq #[x,y] }) (n+4) (n+2) (n+3) .ellipsis:=Zf _ U8
 refine Zg (wpAny_setField_rec WE (by simp) fun g7 MK GP=>?_)
 replace MK:IsZip g7 (n+4) (n+2) (n+3) (rawInt g5.objs.size):=MK
 refine wpAny_setField_rec MK (by simp) fun g8 ML RK=>?_
 replace ML:IsZip g8 (n+4) (n+2) (n+3) (rawInt g5.objs.size):=ML
 have up:∀ c o,c≠n+4->g5.get? c=some o->g8.get? c=some o:=fun c o c1 e=>(RK.2 _ c1).trans ((GP.2 _ c1).trans (Zf _ e))
 have U9:IsT g8 g5.objs.size #[x,y]:=(RK.2 _ (Nat.ne_of_gt DV)).trans ((GP.2 _ (Nat.ne_of_gt DV)).trans (Zk _ rfl))
 have N3:g8.objs.size=g5.objs.size+1:=by rw [RK.1,GP.1,Heap.size_push]
 rw [jq] at ML U9 N3
 refine Zy ⟨_,rfl,?_⟩
 show Q (.ref g5.objs.size) _
 rw [jq]
 refine hQ g8 ⟨ML,up _ _ (bI (by lia)) (N0 _ _ (by simp) xB),⟨x,y,up _ _ (bI (by lia)) xE⟩,?_,?_⟩ U9 N3 fun c o hc e=>?_
 ·exact GO.keep fun o e=>up _ o (bI (by lia)) ((F6.2 _ (bI (by lia))).trans ((Dd.2 _ (bI (by lia))).trans ((t5.2 _ (bI (by lia))).trans e)))
 ·exact K4.keep fun o e=>up _ o (bI (by lia)) ((F6.2 _ (bI (by lia))).trans e)
 ·exact up c o (fun z=>hc (by simp [z])) (N0 c o hc e)
theorem BS{k1 k2:Bool}{n a b:Nat}{i:Nat}{xs ys:Array Value}{Q:Fin->Shared->Prop}(hh:A.handled=none)(Z:xA k1 k2 n a b i .none s.heap)(ha:a<n)(hb:b<n)
  (h1:aX k1 s.heap a xs) (h2:aX k2 s.heap b ys) (zv:xs[i]?=none\/ys[i]?=none)
  (hE:∀ h' e,Off [n,n+1,n+3,n+4] s.heap h'->(∃ o,h'.get? e=some o/\o.cls=.type "StopIteration")->E (.ref e) { s with heap:=h' }) :
  wpAny (model prog w) A (Builtin.«zip.__next__» ⟨[.ref (n+4)],[]⟩) Q E s:=by
 obtain ⟨hz,xB,⟨u,v,A4⟩,yW,t6⟩:=Z
 show wpAny _ _ (field (.ref (n+4)) 2 >>= _) _ _ _
 refine Zg (wpAny_field hz rfl (x:=.bool false) rfl ?_)
 show wpAny _ _ (field (.ref (n+4)) 3 >>= _) _ _ _
 refine Zg (wpAny_field hz rfl (x:=.ref (n+2)) rfl ?_)
 refine Zg (wpAny_seqItems xB rfl ?_)
 show wpAny _ _ (Builtin.SmallTypes.ownedTupleIsFree (.ref (n+4)) >>= _) _ _ _
 refine Zg ?_
 unfold Builtin.SmallTypes.ownedTupleIsFree
 refine Zg (wpAny_field hz rfl (x:=.none) rfl (Zy ?_))
 simp only [if_true]
 refine Zg (wpAny_rule ?_)
 refine Zg (wpAny_field hz rfl (x:=.ref (n+3)) rfl ?_)
 refine Zg (wpAny_setField_rec hz (by simp) fun g1 yX kT=>?_)
 replace yX:IsZip g1 (n+4) (n+2) (n+3) .ellipsis:=yX
 refine Zg ?_
 simp only [zipIdx_cons,zipIdx_nil,forIn_cons,forIn_nil]
 refine Zg (Zg (wpAny_onRaise ?_))
 show wpAny _ _ (Builtin.SmallTypes.nextOf (.ref n) >>= _) _ _ _
 have fin:∀ {g h':Heap} {e:Addr},IsZip g (n+4) (n+2) (n+3) .ellipsis->(∃ o,g.get? e=some o/\o.cls=.type "StopIteration")->Off [n,n+1,n+3,n+4] s.heap g->∀ s':Shared,s'={ s with heap:=g } ->
   wpAny (model prog w) A (setField (.ref (n+4)) 0 .none) (fun _ s'=>E (.ref e) s') E s':=by
  intro g h' e Va ⟨oe,K5,N4⟩ off s' es
  subst es
  have RL:e≠n+4:=fun z=>by subst z;rw [Va] at K5;cases K5;simp at N4
  exact wpAny_setField_rec Va (by simp) fun g9 _ GQ=>hE g9 e (off.trans (Off.of GQ (by simp))) ⟨oe,(GQ.2 _ RL).trans K5,N4⟩
 cases hx:xs[i]? with
 | none =>
  refine Zg (n9 hh (yW.keep fun o e=>(kT.2 _ (bI (by lia))).trans e) (h1.keep fun o e=>(kT.2 _ (bI (by lia))).trans e) hx fun g2 e eE he=>?_)
  exact fin (h':=g2) (eE _ _ (bI (by lia)) yX) he ((Off.of kT (by simp)).trans fun c o hc q=>eE c o (fun z=>hc (by simp [z])) q) _ rfl
 | some x =>
  have hy:ys[i]?=none:=by rcases zv with h|h;rw [hx] at h;cases h;exact h
  refine Zg (d7 (yW.keep fun o e=>(kT.2 _ (bI (by lia))).trans e) (h1.keep fun o e=>(kT.2 _ (bI (by lia))).trans e) hx fun g2 GO eE=>Zy ?_)
  have xC:IsT g2 (n+3) #[u,v]:=(eE.2 _ (bI (by lia))).trans ((kT.2 _ (bI (by lia))).trans A4)
  refine Zg (wpAny_seqItems xC rfl ?_)
  refine Zg (iL xC (by simp) fun g3 xD t5=>?_)
  refine Zg (wpAny_letGo (Zy ?_))
  refine Zg (Zg (wpAny_onRaise ?_))
  show wpAny _ _ (Builtin.SmallTypes.nextOf (.ref (n+1)) >>= _) _ _ _
  refine Zg (n9 hh (t6.keep fun o e=>(t5.2 _ (bI (by lia))).trans ((eE.2 _ (bI (by lia))).trans ((kT.2 _ (bI (by lia))).trans e))) (h2.keep fun o e=>(t5.2 _ (bI (by lia))).trans ((eE.2 _ (bI (by lia))).trans ((kT.2 _ (bI (by lia))).trans e))) hy fun g4 e Dd he=>?_)
  exact fin (h':=g4) (Dd _ _ (bI (by lia)) ((t5.2 _ (bI (by lia))).trans ((eE.2 _ (bI (by lia))).trans yX))) he ((((Off.of kT (by simp)).trans (Off.of eE (by simp))).trans (Off.of t5 (by simp))).trans fun c o hc q=>Dd c o (fun z=>hc (by simp [z])) q) _ rfl
theorem xF{k1 k2:Bool}{n a b:Nat}{i:Nat}{xs ys:Array Value}{x y:Value}{Q:Option Value->Shared->Prop}(Z:xA k1 k2 n a b i .none s.heap)(ha:a<n)(hb:b<n)
  (h1:aX k1 s.heap a xs) (h2:aX k2 s.heap b ys) (hx:xs[i]?=some x) (hy:ys[i]?=some y)
  (hQ:∀ h',xA k1 k2 n a b (i+1) (rawInt s.heap.objs.size) h'->IsT h' s.heap.objs.size #[x,y]->h'.objs.size=s.heap.objs.size+1->Off [n,n+1,n+3,n+4] s.heap h'->Q (some (.ref s.heap.objs.size)) { s with heap:=h' }) :
  wpAny (model prog w) A (pyNext (.ref (n+4))) Q E s:=by
 have hT:s.TypeIs (.ref (n+4)) "zip":=⟨_,Z.z,rfl⟩
 unfold pyNext
 exact Zg (wpAny_attempt (wpAny_callSpecial?_slot (name:=Str.ofString "__next__") hT F.slot_zip_next
  (wpAny_call_entry F.slot_zip_next hT F.entry_zip_next
   (BR Z ha hb h1 h2 hx hy fun h' a1 a2 a3 a4=>Zy (hQ h' a1 a2 a3 a4)) (F.args_zip_next_1 _))))
theorem nN{k1 k2:Bool}{n a b:Nat}{i:Nat}{xs ys:Array Value}{Q:Option Value->Shared->Prop}(hh:A.handled=none)(Z:xA k1 k2 n a b i .none s.heap)(ha:a<n)(hb:b<n)
  (h1:aX k1 s.heap a xs) (h2:aX k2 s.heap b ys) (zv:xs[i]?=none\/ys[i]?=none)
  (hQ:∀ h',Off [n,n+1,n+3,n+4] s.heap h'->Q none { s with heap:=h' }):wpAny (model prog w) A (pyNext (.ref (n+4))) Q E s:=by
 have hT:s.TypeIs (.ref (n+4)) "zip":=⟨_,Z.z,rfl⟩
 unfold pyNext
 refine Zg (wpAny_attempt (wpAny_callSpecial?_slot (name:=Str.ofString "__next__") hT F.slot_zip_next
  (wpAny_call_entry F.slot_zip_next hT F.entry_zip_next (BS (A:=A.in1) hh Z ha hb h1 h2 zv fun h' e hk he=>?_) (F.args_zip_next_1 _))))
 obtain ⟨o,ho,hc⟩:=he
 refine Zg (wpAny_isInstance (T:="StopIteration") (b:=true) ⟨o,ho,hc⟩ isSubtype_stop ?_)
 exact Zy (hQ _ hk)
end
abbrev Jp (k1 k2:Bool) (h:Heap) (a b:Addr):Heap:=((((h.push (bg k1 a)).push (bg k2 b)).push { cls:=.type "tuple",data:=.seq #[.ref h.objs.size,.ref (h.objs.size+1)] }).push { cls:=.type "tuple",data:=.seq #[.none,.none] }).push
 { cls:=.type "zip",data:=.fields #[.none,.bool false,.bool false,.ref (h.objs.size+2),.ref (h.objs.size+3)] }
theorem BU(k1 k2:Bool)(a b:Addr)(xs ys:Array Value) :
  Meets (Builtin.«zip.__new__» ⟨[.type "zip",.ref a,.ref b],[]⟩) (fun _ R s=>aX k1 s.heap a xs/\aX k2 s.heap b ys /\
   R (.ok (.ret (.ref (s.heap.objs.size+4)))) { s with heap:=Jp k1 k2 s.heap a b }) :=
 .of_wp fun prog w A R s h=>by
  obtain ⟨hp,g,d,tk,os⟩:=s;obtain ⟨yY,GI,h⟩:=h
  have RM:=sub_zip
  have RN:aX k1 (Shared.heap ⟨hp,g,d,tk,os⟩) a xs:=yY
  have RO:aX k2 (Shared.heap ⟨hp.push (bg k1 a),g,d,tk,os⟩) b ys:=aX.keep GI fun o e=>Zf _ e
  wp_walk using d6 RN,d6 RO
  refine⟨_,rfl,?_⟩
  simp only [Heap.size_push]
  exact h
open PySem PySem.Spec PyProof.Rows
def Sq(k:Bool)(K:Frag)(H:Hp)(a:Addr)(xs:List V):Prop:=match k with|true=>aL K H a xs|false=>bj K H a xs
section
variable {X:Cx}{pins:List (Addr×Obj)}{σ:St}{H H':Hp}{s:Shared}
theorem Inv.sq{k:Bool}{a:Addr}{xs:List V}(I:Inv X pins σ H s)(h:Sq k X.K H a xs):∃ its:List Value,Vals xs its/\aX k s.heap a its.toArray/\xs.length<=sizeLine:=by
 cases k with
 | true=>exact I.tuple h
 | false =>
  obtain ⟨its,r,p,z⟩:=I.list h
  exact⟨its,r,p.isList,z⟩
theorem Inv.kU{k:Bool}{a:Addr}{xs ys:List V}(I:Inv X pins σ H s)(h:Sq k X.K H a xs)(h':Sq k X.K H a ys):xs=ys:=by
 cases k with
 | true=>exact I.tN h h'
 | false=>exact I.xp h h'
theorem Inv.off{h':Heap}{t':Nat}{ch:List Addr}(I:Inv X pins σ H s)(hf:∀ b∈ch,nI X pins H b)(off:Off ch s.heap h')(bf:fP X.prog X.w H' h')
  (free:∀ b o,b∉ch->s.heap.get? b=some o->H b=none->H' b=none) (same:∀ b o,H b=some o->H' b=some o):Inv X pins σ H' { s with heap:=h',toks:=t' }:=by
 refine I.step (g':=s.gens) (d':=s.drawn) (ch:=ch) (fun b hb=>?_) (fun b o _ _ hc e _=>off b o hc e) (fun b o _ _ hc e _=>⟨o.slots,off b o hc e⟩) (fun b o hc e n=>free b o hc e n) (fun b o hc e=>⟨o,off b o hc e⟩)
  (fun b xs e=>same b _ e) (fun b o u e=>same b _ e) (fun b ps e=>⟨#[],by rw [same b _ e];simp⟩) (fun m hm=>?_) bf I.bare
 ·obtain ⟨f0,f1,f2,f3,f4,f5⟩:=hf b hb
  exact⟨f3,f1,f4,f5⟩
 ·obtain ⟨o,es,ep,ho,r⟩:=hm
  exact⟨o,es,ep,off _ o (fun z=>(hf _ z).2.1 rfl) ho,r⟩
theorem fP.off{P:Program}{w:World}{h h':Heap}{ch:List Addr}(x:fP P w H h)(hn:∀ b∈ch,H b=none)(off:Off ch h h'):fP P w H h':=fun a o e=>by
 have na:∀ b u,H b=some u->b∉ch:=fun b u q z=>by rw [hn b z] at q;cases q
 refine (x a o e).kK (fun b u hb q=>off b u ?_ q) (fun _ q=>q) fun _ _ q=>q
 rcases hb with rfl|hb
 ·exact na _ _ e
 ·exact na _ _ hb
theorem fP.zw{P:Program}{w:World}{h h':Heap}{ch:List Addr}{T:Addr}{ob:HO}(x:fP P w H h)(hn:∀ b∈ch,H b=none)(off:Off ch h h')(hT:h.objs.size<=T)(new:cq P w (upd H T ob) h' T ob):fP P w (upd H T ob) h':=fun a o e=>by
 have BV:=x.fresh hT
 have na:∀ b u,H b=some u->b∉ch:=fun b u q z=>by rw [hn b z] at q;cases q
 by_cases ha:a=T
 ·subst ha;rw [aB] at e;cases e;exact new
 ·rw [aG ha] at e
  refine (x a o e).kK (fun b u hb q=>off b u ?_ q) (fun c q=>by rw [aG (ba q BV)];exact q) fun c xs q=>by rw [aG (ba q BV)];exact q
  rcases hb with rfl|hb
  ·exact na _ _ e
  ·exact na _ _ hb
end
theorem A5{c:Addr}{n:Nat}(z:c∈([n,n+1,n+3,n+4]:List Addr)):c∈([n+4,n+2,n+3,n,n+1]:List Addr):=by
 simp only [ZL,not_mem_nil,or_false] at z ⊢
 rcases z with h|h|h|h <;> simp [h]
def Jq(K : Frag)(k1 k2 : Bool)(a b : Addr) : It :=
  ⟨fun i H => ∃ xs ys x y, Sq k1 K H a xs /\ Sq k2 K H b ys /\ xs[i]?=some x /\ ys[i]?=some y,
   fun i H v H' => ∃ p x y, v=.ref p /\ H p=none /\ (∀ xs, Sq k1 K H a xs -> xs[i]?=some x) /\ (∀ ys, Sq k2 K H b ys -> ys[i]?=some y) /\ H'=upd H p (.tup [x, y]),
   fun i H => ∃ xs ys, Sq k1 K H a xs /\ Sq k2 K H b ys /\ (xs.length <= i \/ ys.length <= i)⟩
theorem BW{P:Program}{w:World}{K:Frag}{es:List Expr}{kk:Nat}{pos:Pos}{k1 k2:Bool}(n a b:Nat)(ha:a<n)(hb:b<n) :
  Turn P w K (.Tuple es kk pos) (Jq K k1 k2 a b) [n+4,n+2,n+3,n,n+1] (n+4) (fun i h=>xA k1 k2 n a b i .none h) where
 mem:=by simp
 obj:=fun i h st c hc=>by
  obtain ⟨hz,xB,⟨u,v,A4⟩,yW,t6⟩:=st
  simp only [ZL,not_mem_nil,or_false] at hc
  rcases hc with rfl|rfl|rfl|rfl|rfl
  ·exact⟨_,hz,fun v z=>nomatch z⟩
  ·exact⟨_,xB,fun v z=>nomatch z⟩
  ·exact⟨_,A4,fun v z=>nomatch z⟩
  ·exact yW.obj
  ·exact t6.obj
 keep:=fun i h h' st k=>by
  obtain ⟨hz,xB,⟨u,v,A4⟩,yW,t6⟩:=st
  exact⟨k _ (by simp) _ hz,k _ (by simp) _ xB,⟨u,v,k _ (by simp) _ A4⟩,yW.keep fun o e=>k _ (by simp) o e,t6.keep fun o e=>k _ (by simp) o e⟩
 item:=by
  intro X hP hw hK hc i pins s σ H E I hf st hg
  subst hP hw hK
  obtain ⟨xs,ys,x,y,qx,qy,ex,ey⟩:=hg
  obtain ⟨DW,r1,s1,_⟩:=I.sq qx
  obtain ⟨MM,r2,s2,_⟩:=I.sq qy
  obtain ⟨u,hu,ru⟩:=r1.get ex
  obtain ⟨v,hv,rv⟩:=r2.get ey
  refine xF st ha hb s1 s2 (x:=u) (y:=v) (by simpa using hu) (by simpa using hv) fun h' Z hT jq off=>⟨_,rfl,?_⟩
  have BV:H s.heap.objs.size=none:=I.bf.fresh (Zn _)
  have N5:n+4<s.heap.objs.size:=Zj st.z
  refine wpAny_letOwnedTupleGo_zip Z.z fun h2 Jo eE=>?_
  have gD:Off [n+4,n+2,n+3,n,n+1] s.heap h2:=fun c o hc e=>(eE.2 c fun z=>hc (by simp [z])).trans (off c o (fun z=>hc (A5 z)) e)
  have De:IsT h2 s.heap.objs.size #[u,v]:=(eE.2 _ (Nat.ne_of_gt N5)).trans hT
  refine⟨.ref s.heap.objs.size,upd H s.heap.objs.size (.tup [x,y]),?_,rfl,⟨_,x,y,rfl,BV,fun zs DX=>by rw [I.kU DX qx];exact ex,fun zs DX=>by rw [I.kU DX qy];exact ey,rfl⟩,?_,fun c hc=>?_⟩
  ·refine Inv.off (s:=s) (h':=h2) (t':=s.toks) (ch:=[n+4,n+2,n+3,n,n+1]) I hf gD (I.bf.zw (fun c hc=>(hf c hc).1) gD (Zn _) ?_) (fun c o _ e hn=>?_) fun c o e=>?_
   ·exact⟨by show 2<=sizeLine;decide,[u,v],.cons ru (.cons rv .nil),⟨_,De,rfl,_,rfl⟩⟩
   ·rw [aG (Z0 (Zj e))];exact hn
   ·rw [aG (ba e BV)];exact e
  ·obtain ⟨z1,z2,⟨a1,a2,z3⟩,z4,z5⟩:=Z
   exact⟨Jo,(eE.2 _ (bI (by lia))).trans z2,⟨a1,a2,(eE.2 _ (bI (by lia))).trans z3⟩,z4.keep fun o e=>(eE.2 _ (bI (by lia))).trans e,z5.keep fun o e=>(eE.2 _ (bI (by lia))).trans e⟩
  ·have cn:c≠s.heap.objs.size:=by
    simp only [ZL,not_mem_nil,or_false] at hc
    rcases hc with rfl|rfl|rfl|rfl|rfl <;> exact bI (by lia)
   rw [aG cn];exact (hf c hc).1
 done:=by
  intro X hP hw hK hc i pins s σ H E I hf st hg
  subst hP hw hK
  obtain ⟨xs,ys,qx,qy,zv⟩:=hg
  obtain ⟨DW,r1,s1,_⟩:=I.sq qx
  obtain ⟨MM,r2,s2,_⟩:=I.sq qy
  have e1:=r1.length
  have e2:=r2.length
  refine nN (I.ok.hd hc) st ha hb s1 s2 ?_ fun h' off=>⟨rfl,?_⟩
  ·rcases zv with z|z
   ·exact .inl (by simp;lia)
   ·exact .inr (by simp;lia)
  ·have gD:Off [n+4,n+2,n+3,n,n+1] s.heap h':=fun c o hc e=>off c o (fun z=>hc (A5 z)) e
   exact Inv.off (s:=s) (t':=s.toks) I hf gD (I.bf.off (fun c hc=>(hf c hc).1) gD) (fun _ _ _ _ q=>q) fun _ _ q=>q
 self:=fun _ _ _ _ _ st h=>wpAny_pyIter_zip st.z h
section
variable {X:Cx}
def DY(K:Frag)(k1 k2:Bool)(ta:TA):TI:=fun σ H R=>ta σ H fun vs H1=>∃ a b,vs=[.ref a,.ref b]/\(∃ xs,Sq k1 K H1 a xs)/\(∃ ys,Sq k2 K H1 b ys)/\R (Jq K k1 k2 a b) H1
theorem GR (k1 k2:Bool) {es:List Expr} {kk:Nat} {oI:Pos} {a b:Expr} {ta:TA} {p pos:Pos} (hg:Gl X "zip") (hm:X.mg "zip"=none) (ha:PA X [a,b] ta) (hs:starEach [a,b] X.env=[(false,eval a X.env),(false,eval b X.env)]:=by rfl) (eE:starEach [b] X.env=[(false,eval b X.env)]:=by rfl) :
  PI X (.Tuple es kk oI) (.Call (.Name "zip" p) [a,b] [] pos) (DY X.K k1 k2 ta):=by
 intro pins s σ H R I h
 refine Call_ (jm I hg hm boot_zip (callWith_type1 (cb (ha pos pins s σ H _ I h) fun us s1 ⟨vs,H1,I1,r1,q1⟩=>?_) (by rw [hs,eE]) (by rw [eE];rfl)))
 obtain ⟨a',b',e,⟨xs,qx⟩,⟨ys,qy⟩,q⟩:=q1
 subst e
 obtain ⟨u,v,rfl,ru,rv⟩:=vals2 r1
 cases ru
 cases rv
 obtain ⟨DW,r1,Jr,_⟩:=I1.sq qx
 obtain ⟨MM,r2,N6,_⟩:=I1.sq qy
 refine callType_new PySem.F.called_zip (by decide) (PySem.F.typeCall_zip_2 _ _) (PySem.F.newCall_zip_2 _ _) (fun obj=>PySem.F.args_object_init_3 obj _ _) PySem.F.entry_zip_new (BU k1 k2 a' b' DW.toArray MM.toArray) ⟨Jr,N6,?_⟩
 have z1:(s1.heap.push (bg k1 a')).objs.size=s1.heap.objs.size+1:=Heap.size_push ..
 have z2:((s1.heap.push (bg k1 a')).push (bg k2 b')).objs.size=s1.heap.objs.size+2:=by rw [Heap.size_push,z1]
 have z3:(((s1.heap.push (bg k1 a')).push (bg k2 b')).push { cls:=.type "tuple",data:=.seq #[.ref s1.heap.objs.size,.ref (s1.heap.objs.size+1)] }).objs.size=s1.heap.objs.size+3:=by rw [Heap.size_push,z2]
 have z4:((((s1.heap.push (bg k1 a')).push (bg k2 b')).push { cls:=.type "tuple",data:=.seq #[.ref s1.heap.objs.size,.ref (s1.heap.objs.size+1)] }).push { cls:=.type "tuple",data:=.seq #[.none,.none] }).objs.size=s1.heap.objs.size+4:=by rw [Heap.size_push,z3]
 have g5:(Jp k1 k2 s1.heap a' b').get? (s1.heap.objs.size+4)=some { cls:=.type "zip",data:=.fields #[.none,.bool false,.bool false,.ref (s1.heap.objs.size+2),.ref (s1.heap.objs.size+3)] }:=by rw [<- z4];exact Zk _ rfl
 have g4:(Jp k1 k2 s1.heap a' b').get? (s1.heap.objs.size+3)=some { cls:=.type "tuple",data:=.seq #[.none,.none] }:=by rw [<- z3];exact Zf _ (Zk _ rfl)
 have g3:(Jp k1 k2 s1.heap a' b').get? (s1.heap.objs.size+2)=some { cls:=.type "tuple",data:=.seq #[.ref s1.heap.objs.size,.ref (s1.heap.objs.size+1)] }:=by rw [<- z2];exact Zf _ (Zf _ (Zk _ rfl))
 have g2:(Jp k1 k2 s1.heap a' b').get? (s1.heap.objs.size+1)=some (bg k2 b'):=by rw [<- z1];exact Zf _ (Zf _ (Zf _ (Zk _ (by cases k2 <;> rfl))))
 have g1:(Jp k1 k2 s1.heap a' b').get? s1.heap.objs.size=some (bg k1 a'):=Zf _ (Zf _ (Zf _ (Zf _ (Zk _ (by cases k1 <;> rfl)))))
 have old:∀ c o,s1.heap.get? c=some o->(Jp k1 k2 s1.heap a' b').get? c=some o:=fun c o x=>Zf _ (Zf _ (Zf _ (Zf _ (Zf _ x))))
 have Z:xA k1 k2 s1.heap.objs.size a' b' 0 .none (Jp k1 k2 s1.heap a' b'):=⟨g5,g3,⟨_,_,g4⟩,fJ g1,fJ g2⟩
 show _/\_
 refine⟨⟨_,g5,rfl⟩,wpAny_pyIter_zip Z.z ?_⟩
 refine⟨_,_,_,_,H1,rfl,I1.kept (t':=s1.toks) old,BW s1.heap.objs.size a' b' Jr.lt N6.lt,Z,fun c hc=>?_,q⟩
 have xi:s1.heap.objs.size<=c:=by
  simp only [ZL,not_mem_nil,or_false] at hc
  rcases hc with rfl|rfl|rfl|rfl|rfl <;> first|exact Nat.le_add_right _ _|exact Zn _
 exact I1.zg xi (I1.bf.fresh xi)
end
def t7(i:Int):Nat:=Builtin.Int.intBits i
def je(i j:Int):Prop:=t7 i+t7 j<=1000000
theorem je.ok{i j:Int}(h:je i j):IntMulOk i j:=by
 unfold IntMulOk
 intro z
 simp only [Bool.and_eq_true,decide_eq_true_eq] at z
 have z2:=z.2
 unfold Builtin.Int.intTooBig at z2
 have h':Builtin.Int.intBits i+Builtin.Int.intBits j<=1000000:=h
 have b:(1000000:Int)<=bitsLine:=by decide
 simp only [decide_eq_true_eq] at z2
 lia
def N7(i j:Int):Prop:=0<j/\j.natAbs.log2<9000
section
variable {X:Cx}
theorem jW:gz X (binaryOp .Mult) (rI je fun i j=>.int (i*j)):=Kt fun _ _ _ _ _ _ _ hc q=>mul_int q hc.ok
theorem jX:gz X (binaryOp .FloorDiv) (rI N7 fun i j=>.int (i / j)):=Kt fun i j _ _ _ _ _ hc q=>by
 have h1:(0:Int)<j:=hc.1
 exact floordiv_int (by lia) (by rw [ZA i (by lia)];exact q) (.inl (PyProof.noPylong_of_log2 hc.2))
def Vb (K:Frag) (H:Hp) (x:V) (t:Value):Prop:=kQ K H x t\/(∃ a xs,x=.ref a/\aL K H a xs/\t=.type "tuple")\/(∃ a xs,x=.ref a/\bj K H a xs/\t=.type "list")
theorem xG:bM X (.builtin "isinstance") (fun xs H Q=>∃ x n t b,xs=[x,.ty n]/\Vb X.K H x t/\kitOne X.K t (.type n)=some b/\Q (.bl b) H):=by
 intro pins s σ H xs us Q I r h
 obtain ⟨x,n,t,b,rfl,ty,e,q⟩:=h
 obtain ⟨u,c,rfl,ru,rc⟩:=vals2 r
 obtain rfl:c=Value.type n:=rc
 have fin:∀ tk,EP X pins σ Q (.bool b) { s with toks:=tk }:=fun tk=>⟨.bl b,H,I.tok tk,rfl,q⟩
 rcases ty with ty|⟨a,ys,rfl,hs,rfl⟩|⟨a,ys,rfl,hs,rfl⟩
 ·exact BL I ru ty e fin
 ·obtain rfl:u=Value.ref a:=ru
  obtain ⟨its,_,p,_⟩:=I.tuple hs
  obtain ⟨o,h1,h2,_⟩:=p
  exact kia_one kitx_tuple I.nZ ⟨o,h1,h2⟩ e (fun z=>nomatch z) fin
 ·obtain rfl:u=Value.ref a:=ru
  obtain ⟨its,_,p,_⟩:=I.list hs
  obtain ⟨o,n',h1,h2,_⟩:=p
  exact kia_one kitx_list I.nZ ⟨o,h1,h2⟩ e (fun z=>nomatch z) fin
end
theorem jY(K:Frag)(t:Value):kitOne K t t=some true:=by
 unfold kitOne
 rw [if_pos (by simp)]
def Def(K:Frag)(mg:Str->Option Value)(x:Str)(st:Stmt)(ps:List Str):Prop:=∃ f fd,Jn K x x st f fd/\mg x=some (.ref f)/\Binds K fd ps []
def Ok(P:Program)(w:World)(K:Frag)(mg:Str->Option Value)(base:Heap)(k:Nat)(x:Str)(ps:List Str)(sp:Sp):Prop :=
 ∃ f fd,oB P w K mg base Jm k f fd ps sp/\mg x=some (.ref f)/\keepIn K (.ref f)=true/\Binds K fd ps []
section
variable {P:Program}{w:World}{K:Frag}{mg:Str->Option Value}{base:Heap}
theorem Def.ok{x:Str}{st:Stmt}{N ps:List Str}{k:Nat}{sp:Sp}(D:Def K mg x st ps)(S:az N ps (ao st))(len:∀ vs H Q E,sp vs H Q E->vs.length=ps.length)
  (jR:∀ (f:Addr) (bO:Value) (A:Around) (outer:List Env) (s:Shared) (H:Hp) (vs:List V) (Q:VK) (E:XK),dJ k (A.deeper (envOfC x (ao st) s.heap.objs.size f bO))->sp vs H Q E ->
   ∃ t,tL (jo Jm P w K mg base N x (ao st) f bO A outer s H E).Gq (cK st) t/\t { nx:=fun _ H'=>Q .dj H',rt:=Q } (start N vs) H):Ok P w K mg base (k+1) x ps sp:=by
 obtain ⟨f,fd,F,hm,hb⟩:=D
 exact⟨f,fd,F.ok S len fun bO A outer s H vs Q E hr h=>jR f bO A outer s H vs Q E hr h,hm,F.kp,hb⟩
end
section
variable {X:Cx}{k:Nat}{x:Str}{ps:List Str}{sp:Sp}{p pos:Pos}{e:Expr}{es:List Expr}{t:TA}
theorem aF(O:Ok X.prog X.w X.K X.mg X.base k x ps sp)(hr:dJ k X.A)(ha:PA X (e::es) t)(hg:Gl X x:=by rfl)
  (Dz:(x == ("__debug__":Str))=false:=by decide) (he:starEach (e::es) X.env=(false,eval e X.env)::starEach es X.env:=by rfl) (oC:(backTo pos (starEach es X.env)).any (·.1)=false:=by rfl) :
  PE X (.Call (.Name x p) (e::es) [] pos) (AW sp [] E0 t):=by
 obtain ⟨f,fd,F,hm,hk,hb⟩:=O
 exact Gz F hr hg hm hk hb .nil NU ha Dz he oC
end
def DZ(K:Frag):Sp:=fun vs H Q _=>∃ (a:Addr) (ns:List Int),vs=[.ref a]/\bj K H a (ns.map V.int)/\ns.length<=63/\∀ H',Q (.bl true) H'
theorem ah.aY{H:Hp}{a:Addr}{o:HO}(h:H a=none):ah H (upd H a o):=fun b u e=>by rw [aG (ba e h)];exact e
theorem ah.at{K:Frag}{H H':Hp}{a:Addr}{xs:List V}(e:ah H H')(h:aL K H a xs):aL K H' a xs:=by
 rcases h with (h|⟨o,h⟩)|h
 ·exact .inl (.inl (e _ _ h))
 ·exact .inl (.inr ⟨o,e _ _ h⟩)
 ·exact .inr h
theorem ah.sq{k:Bool}{K:Frag}{H H':Hp}{a:Addr}{xs:List V}(e:ah H H')(h:Sq k K H a xs):Sq k K H' a xs:=by
 cases k with
 | true=>exact ah.at e h
 | false=>exact ah.seq e h
def CW(t:Nat)(l:Addr)(n:Nat)(f:Nat->V)(fr:St)(H1:Hp)(i m:Nat)(σ1:St)(ys:List V)(H':Hp):Prop :=
 m=n - i/\i<=n/\(∃ own:St,own.length=t/\σ1=own++fr)/\ys=(List.range i).map f/\ah H1 H'/\H' l=some (.lst ys)
theorem CW.next{t:Nat}{l:Addr}{n:Nat}{f:Nat->V}{fr:St}{H1 H' H5:Hp}{i:Nat}{y:V}(own:St)(ho:own.length=t)(hi:i<n)(hn:n<=1000000)(hl:H1 l=none)(hs:ah H1 H')(dB:H' l=some (.lst ((List.range i).map f)))(s5:ah H' H5)(ey:y=f i) :
  H5 l=some (.lst ((List.range i).map f))/\((List.range i).map f).length<sizeLine/\CW t l n f fr H1 (i+1) (n - (i+1)) (own++fr) ((List.range i).map f++[y]) (upd H5 l (.lst ((List.range i).map f++[y]))):=by
 subst ey
 refine⟨s5 _ _ dB,?_,rfl,hi,⟨own,ho,rfl⟩,?_,fun b o e=>?_,aB⟩
 ·rw [ZI,List.length_range]
  exact Nat.lt_of_lt_of_le (Nat.lt_of_lt_of_le hi hn) (by decide)
 ·rw [List.range_succ,ZV];rfl
 ·rw [aG (ba e hl)]
  exact s5 _ _ (hs _ _ e)
theorem A6{J:It}{H1:Hp}{ix:List (Option Nat)}{σ:St}{g:TG}{tt:TT}{te:TE}{Q:VK}(t:Nat)(fr:St)(n:Nat)(f:Nat->V)(qt:pick ix σ=List.replicate t none++fr)
  (gE:∀ H',ah H1 H'->J.stop n H') (D0:∀ i H',i<n->ah H1 H'->J.go i H')
  (step:∀ i x l H' H2 own,own.length=t->i<n->H1 l=none->ah H1 H'->H' l=some (.lst ((List.range i).map f))->J.Dn i H' x H2 ->
   g x (own++fr) H2 fun σ2 H3=>tt σ2 H3 fun b H4=>if b=true then te σ2 H4 fun y H5=>H5 l=some (.lst ((List.range i).map f))/\((List.range i).map f).length<sizeLine/\CW t l n f fr H1 (i+1) (n - (i+1)) σ2 ((List.range i).map f++[y]) (upd H5 l (.lst ((List.range i).map f++[y])))
    else CW t l n f fr H1 (i+1) (n - (i+1)) σ2 ((List.range i).map f) H4)
  (hQ:∀ l H',H1 l=none->ah H1 H'->H' l=some (.lst ((List.range n).map f))->Q (.ref l) H') :
  bT ix g tt te σ Q J H1:=by
 intro l hl
 refine⟨CW t l n f fr H1,⟨n,by simp,ZZ _,⟨_,length_replicate,qt⟩,rfl,ah.aY hl,aB⟩,?_⟩
 rintro i m σ1 ys H' ⟨rfl,hi,⟨own,ho,rfl⟩,rfl,hs,dB⟩
 refine⟨dB,?_⟩
 by_cases jn:i<n
 ·exact .inr ⟨D0 i H' jn hs,n - (i+1),by lia,fun x H2 hy=>step i x l H' H2 own ho jn hl hs dB hy⟩
 ·obtain rfl:i=n:=by lia
  exact .inl ⟨gE H' hs,hQ l H' hl hs dB⟩
theorem jZ{J:It}{H1:Hp}{ix:List (Option Nat)}{σ:St}{te:TE}{Q:VK}(fr:St)(n:Nat)(f:Nat->V)(qt:pick ix σ=none::fr)(hn:n<=1000000)
  (gE:∀ H',ah H1 H'->J.stop n H') (D0:∀ i H',i<n->ah H1 H'->J.go i H')
  (step:∀ i x H' H2 (Qc:VK),i<n->ah H1 H'->J.Dn i H' x H2->(∀ H5,ah H' H5->Qc (f i) H5)->te (some x::fr) H2 Qc)
  (hQ:∀ l H',H1 l=none->ah H1 H'->H' l=some (.lst ((List.range n).map f))->Q (.ref l) H'):bT ix (br 0) (fun _ H Q=>Q true H) te σ Q J H1:=by
 refine A6 1 fr n f qt gE D0 (fun i x l H' H2 own ho hi hl hs dB hy=>?_) hQ
 obtain ⟨o1,rfl⟩:∃ o1,own=[o1]:=by match own,ho with|[o1],_=>exact⟨o1,rfl⟩
 dsimp only [br]
 rw [if_pos rfl]
 exact step i x H' H2 _ hi hs hy fun H5 s5=>CW.next (fr:=fr) [some x] rfl hi hn hl hs dB s5 rfl
theorem oJ{K:Frag}{k1 k2:Bool}{a b:Addr}{xs ys:List V}{H1:Hp}{ix:List (Option Nat)}{σ:St}{te:TE}{Q:VK}(fr:St)(f:Nat->V)(qt:pick ix σ=none::none::fr)(ha:Sq k1 K H1 a xs)(hb:Sq k2 K H1 b ys)(hlen:xs.length=ys.length)(hn:xs.length<=1000000)
  (step:∀ i x y H' (Qc:VK),xs[i]?=some x->ys[i]?=some y->ah H1 H'->(∀ H5,ah H' H5->Qc (f i) H5)->te (some x::some y::fr) H' Qc)
  (hQ:∀ l H',H1 l=none->ah H1 H'->H' l=some (.lst ((List.range xs.length).map f))->Q (.ref l) H'):bT ix (ox K 2 (cw (br 0) (cw (br 1) qq))) (fun _ H Q=>Q true H) te σ Q (Jq K k1 k2 a b) H1:=by
 refine A6 2 fr xs.length f qt (fun H' s=>⟨_,_,s.sq ha,s.sq hb,.inl (Zn _)⟩) (fun i H' hi s=>?_) (fun i x l H' H2 own ho hi hl hs dB hy=>?_) hQ
 ·exact⟨_,_,xs[i],ys[i]'(hlen ▸ hi),s.sq ha,s.sq hb,ZC hi,ZC (hlen ▸ hi)⟩
 ·obtain ⟨o1,o2,rfl⟩:∃ o1 o2,own=[o1,o2]:=by match own,ho with|[o1,o2],_=>exact⟨o1,o2,rfl⟩
  obtain ⟨p,x',y',rfl,hp,e1,e2,rfl⟩:=hy
  have g1:=e1 _ (hs.sq ha)
  have g2:=e2 _ (hs.sq hb)
  refine⟨p,_,rfl,aL.of aB,rfl,_,_,rfl,_,_,rfl,rfl,?_⟩
  show ite (true=true) _ _
  rw [if_pos rfl]
  exact step i x' y' _ _ g1 g2 (hs.trans (ah.aY hp)) fun H5 s5=>CW.next (fr:=fr) [some x',some y'] rfl hi hn hl hs dB ((ah.aY hp).trans s5) rfl
theorem dM{r:List Int}{i:Nat}{x:V}(h:(r.map V.int)[i]?=some x):x=.int (r.getD i 0)/\i<r.length:=by
 rw [ZU] at h
 cases e:r[i]? with
 | none=>rw [e] at h;cases h
 | some z =>
  rw [e] at h
  have hl:=(Zi.mp e).1
  refine⟨?_,hl⟩
  rw [<- (Zr h),List.getD,e];rfl
theorem int_at{r:List Int}{i:Nat}(h:i<r.length):(r.map V.int)[i]?=some (.int (r.getD i 0)):=by
 rw [ZU,List.getD,ZC h];rfl
theorem range_getD{α:Type}(f:Int->α)(r:List Int):(List.range r.length).map (fun i=>f (r.getD i 0))=r.map f:=by
 apply ext_getElem
 ·simp
 ·intro i h1 h2
  simp at h1 h2
  simp [List.getD,h1]
theorem BX{α:Type}(f:Int->Int->α)(r q:List Int)(h:r.length=q.length):(List.range r.length).map (fun i=>f (r.getD i 0) (q.getD i 0))=List.zipWith f r q:=by
 apply ext_getElem
 ·simp [h]
 ·intro i h1 h2
  simp at h1 h2
  have:i<q.length:=by lia
  simp [List.getD,h1,this]
theorem oK{K:Frag}{a b:Addr}{r q:List Int}{H1:Hp}{ix:List (Option Nat)}{σ:St}{Q:VK}(op:Int->Int->Int)(qt:pick ix σ=[none,none])(ha:aL K H1 a (r.map V.int))(hb:aL K H1 b (q.map V.int))(hlen:r.length=q.length)(hn:r.length<=1000)
  (hQ:∀ l H',H1 l=none->ah H1 H'->H' l=some (.lst ((List.zipWith op r q).map V.int))->Q (.ref l) H') :
  bT ix (ox K 2 (cw (br 0) (cw (br 1) qq))) (fun _ H Q=>Q true H) (MI (Gw fun i j=>.int (op i j)) (Dk 0) (Dk 1)) σ Q (Jq K true true a b) H1:=by
 refine oJ (k1:=true) (k2:=true) [] (fun i=>.int (op (r.getD i 0) (q.getD i 0))) qt ha hb (by simpa using hlen) (by rw [ZI];lia) (fun i x y H' Qc ex ey hs kc=>?_) fun l H' hl hs dB=>hQ l H' hl hs ?_
 ·obtain ⟨rfl,_⟩:=dM ex
  obtain ⟨rfl,_⟩:=dM ey
  exact⟨_,rfl,_,rfl,_,_,rfl,rfl,kc _ (ah.refl _)⟩
 ·rw [dB,ZI,BX (fun x y=>V.int (op x y)) r q hlen,List.map_zipWith]
theorem BY{K:Frag}{a:Addr}{r:List Int}{H1:Hp}{ix:List (Option Nat)}{σ:St}{te:TE}{Q:VK}(F:Int->V)(fr:St)(qt:pick ix σ=none::fr)(ha:aL K H1 a (r.map V.int))(hn:r.length<=1000)
  (step:∀ x H' (Qc:VK),x∈r->ah H1 H'->(∀ H5,ah H' H5->Qc (F x) H5)->te (some (.int x)::fr) H' Qc)
  (hQ:∀ l H',H1 l=none->ah H1 H'->H' l=some (.lst (r.map F))->Q (.ref l) H'):bT ix (br 0) (fun _ H Q=>Q true H) te σ Q (Dp K a) H1:=by
 refine jZ fr r.length (fun i=>F (r.getD i 0)) qt (by lia) (fun H' s=>⟨_,s.at ha,by simp⟩) (fun i H' hi s=>⟨_,_,s.at ha,int_at hi⟩) (fun i x H' H2 Qc hi hs hy kc=>?_) fun l H' hl hs dB=>hQ l H' hl hs ?_
 ·obtain ⟨rfl,e1⟩:=hy
  obtain ⟨rfl,_⟩:=dM (e1 _ (hs.at ha))
  exact step _ _ Qc (by rw [List.getD,ZC hi];exact Z2 hi) hs kc
 ·rw [dB,range_getD F r]
end L2
namespace BZ
def Js(a b c d e:Nat):Int:=2 ^ a*3 ^ b*5 ^ c*7 ^ d*11 ^ e
def RP(ps:List Int)(es:List Int):Int:=(List.zipWith (fun p e=>p ^ e.toNat) ps es).foldl (·*·) 1
def K6:List Int:=[2,3,5,7,11]
def num(es:List Int):Int:=RP K6 es
def P5(p:Int):Prop:=p=2\/p=3\/p=5\/p=7\/p=11
def WG(m:Int):Prop:=∀ p,P5 p->m % p≠0
def bl(x:Int):Nat:=if x == 0 then 0 else x.natAbs.log2+1
theorem A7{x:Int}{k:Nat}(h:x.natAbs<2 ^ k):bl x<=k:=by
 unfold bl
 split
 ·lia
 ·rename_i hx
  have Q4:x.natAbs≠0:=by simpa using hx
  have:=(log2_lt Q4).mpr h
  lia
def F(m:Int)(x y:Int):Prop:=2 ^ (-m).toNat*y<=2 ^ m.toNat*x
def rt(b c d e:Int):Int:=Js 0 b.toNat c.toNat d.toNat e.toNat
def rb(b c d e:Int):Int:=Js 0 (-b).toNat (-c).toNat (-d).toNat (-e).toNat
section
variable (c0 c1 c2 c3 c4:Nat){m:Int}(h:WG m)
include h
end
def sub(a b:List Int):List Int:=List.zipWith (· - ·) a b
def N8(r:List Int)(k:Int):List Int:=r.map (·*k)
def low(v s:List Int)(q:Int):List Int:=sub v (N8 s q)
def Qr(M:Nat)(r:List Int):Prop:=∀ i,(r.getD i 0).natAbs<=M
def at'(p:Nat)(v:List Int):Nat:=(v.getD p 0).natAbs
structure PS(n p M m l:Nat)(led os:List (List Int)):Prop where
 len:∀ v∈led++os,v.length=n
 bd:∀ v∈led++os,Qr M v
 lo:∀ v∈led,l<=at' p v/\at' p v<=m
 pos:0<l
 big:∃ v∈led,at' p v=m
 low:∃ v∈led,at' p v=l
 one:(∀ v∈led,0<v.getD p 0)\/∀ v∈led,v.getD p 0<0
 zero:∀ v∈os,v.getD p 0=0
def mz(p:Nat)(rs:List (List Int)):Nat:=(rs.map (at' p)).sum
def PI(n p M:Nat)(led os:List (List Int)):Prop :=
 (∀ v∈led++os,v.length=n)/\(∀ v∈led,v.getD p 0≠0)/\(∀ v∈os,v.getD p 0=0) /\
  ((∀ v∈led++os,Qr M v)\/(∃ m l M',PS n p M' m l led os/\M'*m*m*l<=3*(M*M*M*M))\/(led.length<=1/\∀ v∈led++os,Qr (6*(M*M*M*M)) v))
def r2(p:Nat×Nat):List Int:=[(p.1:Int),(p.2:Int)]
def mZ:List (Nat×Nat)->Nat
 | []=>1
 | p::l=>p.2*mZ l
def zx:List (Nat×Nat)->Nat
 | []=>0
 | p::l=>p.1*mZ l+p.2*zx l
theorem oM(x:Nat×Nat):∀ l,mZ (l++[x])=mZ l*x.2
 | []=>by simp [mZ]
 | p::l=>by simp only [cons_append,mZ,oM x l,mul_assoc]
theorem xH(x:Nat×Nat):∀ l,zx (l++[x])=zx l*x.2+x.1*mZ l
 | []=>by simp [mZ,zx]
 | p::l=>by
  simp only [cons_append,mZ,zx,oM x l,xH x l]
  rw [mul_add,Nat.add_mul,mul_assoc,mul_assoc,Nat.mul_left_comm x.1 p.2,<- Nat.add_assoc]
theorem uG:∀ l:List (Nat×Nat),(∀ p∈l,0<p.2)->0<mZ l
 | [],_=>Nat.one_pos
 | p::l,h=>mul_pos (h p (.head _)) (uG l fun q hq=>h q (.tail _ hq))
def A8(l:List (Nat×Nat))(n d:Nat):Prop:=0<d/\Nat.gcd n d=1/\n*mZ l=d*zx l
theorem A8.nil:A8 [] 0 1:=⟨Nat.one_pos,by decide,by simp [mZ,zx]⟩
theorem A8.snoc{l:List (Nat×Nat)}{n d:Nat}{x:Nat×Nat}(h:A8 l n d)(hx:0<x.2) :
  A8 (l++[x]) ((n*x.2+x.1*d) / Nat.gcd (n*x.2+x.1*d) (d*x.2)) (d*x.2 / Nat.gcd (n*x.2+x.1*d) (d*x.2)):=by
 obtain ⟨h1,h2,h3⟩:=h
 have hd:0<d*x.2:=mul_pos h1 hx
 have e:(n*x.2+x.1*d)*(mZ l*x.2)=(d*x.2)*(zx l*x.2+x.1*mZ l):=by
  have:n*x.2*(mZ l*x.2)=d*x.2*(zx l*x.2):=by
   rw [show n*x.2*(mZ l*x.2)=(n*mZ l)*(x.2*x.2) by ac_rfl,h3]
   ac_rfl
  rw [Nat.add_mul,mul_add,this]
  congr 1
  ac_rfl
 generalize n*x.2+x.1*d=a at e ⊢
 generalize d*x.2=b at e hd ⊢
 have hg:0<Nat.gcd a b:=Nat.gcd_pos_of_pos_right _ hd
 obtain ⟨a',ea⟩:=gcd_dvd_left a b
 obtain ⟨b',eb⟩:=gcd_dvd_right a b
 refine⟨div_pos (le_of_dvd hd (gcd_dvd_right a b)) hg,Nat.gcd_div_gcd_div_gcd_of_pos_right hd,?_⟩
 rw [oM,xH]
 have q1:a / Nat.gcd a b=a':=Nat.div_eq_of_eq_mul_right hg ea
 have q2:b / Nat.gcd a b=b':=Nat.div_eq_of_eq_mul_right hg eb
 rw [q1,q2]
 apply Nat.eq_of_mul_eq_mul_left hg
 rw [<- mul_assoc (Nat.gcd a b) a',<- mul_assoc (Nat.gcd a b) b',<- ea,<- eb]
 exact e
theorem A8.uniq{l:List (Nat×Nat)}{n d n' d':Nat}(h:A8 l n d)(k:A8 l n' d')(hp:0<mZ l):n=n'/\d=d':=by
 obtain ⟨h1,h2,h3⟩:=h
 obtain ⟨k1,k2,k3⟩:=k
 have e:n*d'=n'*d:=by
  apply Nat.eq_of_mul_eq_mul_left hp
  rw [show mZ l*(n*d')=(n*mZ l)*d' by ac_rfl,show mZ l*(n'*d)=(n'*mZ l)*d by ac_rfl,h3,k3]
  ac_rfl
 have c1:Nat.Coprime d n:=by rw [Nat.Coprime,gcd_comm];exact h2
 have c2:Nat.Coprime d' n':=by rw [Nat.Coprime,gcd_comm];exact k2
 have WH:d ∣ d':=c1.dvd_of_dvd_mul_left (show d ∣ n*d' by rw [e];exact Nat.dvd_mul_left _ _)
 have WI:d' ∣ d:=c2.dvd_of_dvd_mul_left (show d' ∣ n'*d by rw [<- e];exact Nat.dvd_mul_left _ _)
 have ed:=Nat.dvd_antisymm WH WI
 subst ed
 exact⟨Nat.eq_of_mul_eq_mul_right h1 e,rfl⟩
theorem D1{n d t b B:Nat}(hn:n<=B)(hd:d<=B)(ht:t<=9999)(hb:b<=9999):n*b+t*d<=B*32768/\d*b<=B*32768:=by
 have h1:n*b<=B*9999:=ZO hn hb
 have h2:t*d<=9999*B:=ZO ht hd
 have h3:d*b<=B*9999:=ZO hd hb
 lia
theorem D2(i:Nat):2 ^ (15*(i+1))=2 ^ (15*i)*32768:=by rw [mul_add,Nat.pow_add]
def gP(t b:Nat):Nat->Nat
 | 0=>0
 | 1=>t
 | _=>Nat.gcd t b
theorem oN(f m:Nat):Nat.gcd m (f % m)=Nat.gcd f m:=by rw [gcd_comm m,<- Nat.gcd_rec,gcd_comm]
theorem take_snoc{α:Type}{l:List α}{i:Nat}{x:α}(h:l[i]?=some x):l.take (i+1)=l.take i++[x]:=by
 rw [take_add_one,h];rfl
def gr(b:Nat):Nat->Nat
 | 0=>b
 | i+1=>4*gr b i+3
def sb(b:Nat):Nat->Nat
 | 0=>0
 | i+1=>sb b i+gr b (i+1)+1
structure PT(p X m k:Nat)(led os:List (List Int)):Prop where
 bd:∀ v∈led++os,Qr X v
 hi:∀ v∈led,at' p v<=m
 one:(∀ v∈led,0<v.getD p 0)\/∀ v∈led,v.getD p 0<0
 low:∃ v∈led,at' p v+m<=k
def lb(W:Nat):Nat->Nat
 | 0=>0
 | i+1=>3*lb W i+2*W+12
theorem uH{α:Type}{r:List α}(h:r.length=5):∃ a b c d e,r=[a,b,c,d,e]:=by
 match r,h with
 | [a,b,c,d,e],_=>exact⟨a,b,c,d,e,rfl⟩
end BZ
namespace aJ
open PySem PySem.Builtin PySem.Builtin.Str PySem.StrLaws
theorem kW{z:Str}{c i:Nat}:At z ⟨#[c]⟩ z.length i↔z.cps[i]?=some c:=by
 unfold At subAt
 show i+1<=z.cps.size/\(z.cps.extract i (i+1) == #[c])=true↔_
 constructor
 ·rintro ⟨h1,h2⟩
  have h3:=eq_of_beq h2
  have h4:(z.cps.extract i (i+1))[0]?=some c:=by rw [h3];rfl
  rw [Array.getElem?_extract] at h4
  split at h4
  ·simpa using h4
  ·cases h4
 ·intro h
  have hi:i<z.cps.size:=by
   rcases lt_or_ge i z.cps.size with h1|h1
   ·exact h1
   ·rw [Array.getElem?_eq_none h1] at h;cases h
  refine⟨hi,beq_iff_eq.mpr ?_⟩
  apply Array.ext
  ·rw [Array.size_extract];simp;lia
  ·intro j h1 h2
   have:j=0:=by simp at h2;lia
   subst this
   rw [Array.getElem_extract]
   rw [Array.getElem?_eq_getElem hi] at h
   simpa using h
theorem uI{s sub:Str}{hi limit:Nat}(h1:sub.length=1):∀ (l:List Nat) (found:Array Nat) (free:Nat),l.Pairwise (·<·)->(∀ i∈l,free<=i)->found.size+l.length<=limit ->
  ∃ q:List Nat,(forIn l (found,free) (occBody s sub hi limit)).run.fst.toList=found.toList++q/\q.Sublist l/\∀ i∈l,(i∈q↔At s sub hi i)
 | [],found,free,_,_,_=>⟨[],by simp,.slnil,fun i h=>nomatch h⟩
 | a::l,found,free,hp,hf,hn=>by
  rw [forIn_cons]
  unfold occBody
  have ha:free<=a:=hf a (.head _)
  rw [length_cons] at hn
  obtain ⟨RQ,Vc⟩:=Z1.mp hp
  by_cases hc:At s sub hi a
  ·rw [if_pos ⟨⟨⟨by show found.size<limit;lia,ha⟩,hc.1⟩,hc.2⟩]
   obtain ⟨q,e,hs,hm⟩:=uI (limit:=limit) h1 l (found.push a) (a+sub.length) Vc (fun i A9=>by have:=RQ i A9;lia) (by rw [Array.size_push];lia)
   refine⟨a::q,?_,.cons_cons a hs,fun i A9=>?_⟩
   ·refine Eq.trans e ?_
    rw [Array.toList_push,append_assoc];rfl
   ·rcases ZL.mp A9 with z|z
    ·subst z;exact⟨fun _=>hc,fun _=>.head _⟩
    ·have:=RQ i z
     refine Iff.trans ⟨fun w=>?_,.tail _⟩ (hm i z)
     rcases ZL.mp w with y|y
     ·lia
     ·exact y
  ·rw [if_neg (fun h=>hc ⟨h.1.2,h.2⟩)]
   obtain ⟨q,e,hs,hm⟩:=uI (limit:=limit) h1 l found free Vc (fun i A9=>hf i (.tail _ A9)) (by lia)
   refine⟨q,e,.cons a hs,fun i A9=>?_⟩
   rcases ZL.mp A9 with z|z
   ·subst z
    refine⟨fun w=>?_,fun w=>absurd w hc⟩
    exact absurd (RQ i (hs.subset w)) (Nat.lt_irrefl _)
   ·exact hm i z
theorem uJ(z:Str)(c:Nat):∃ q:List Nat,occurrences z ⟨#[c]⟩ 0 z.length (z.length+1)=q/\q.Pairwise (·<·)/\∀ i:Nat,(i∈q↔z.cps[i]?=some c):=by
 obtain ⟨q,e,hs,hm⟩:=uI (s:=z) (sub:=⟨#[c]⟩) (hi:=z.length) (limit:=z.length+1) rfl (List.range' 0 (z.length+1 - 0)) #[] 0 (List.pairwise_lt_range' ..) (fun _ _=>ZZ _) (by simp)
 refine⟨q,by rw [occ_eq];exact e.trans (by simp),(List.pairwise_lt_range' ..).sublist hs,fun i=>?_⟩
 rw [<- kW]
 constructor
 ·intro h
  exact (hm i (hs.subset h)).mp h
 ·intro h
  refine (hm i ?_).mpr h
  have:=h.1
  simp [List.mem_range']
  lia
theorem xI(z:Str)(c:Nat):((∀ i:Nat,z.cps[i]?≠some c)/\occurrences z ⟨#[c]⟩ 0 z.length 1=[])\/∃ i r,occurrences z ⟨#[c]⟩ 0 z.length 1=i::r/\z.cps[i]?=some c/\∀ k:Nat,k<i->z.cps[k]?≠some c:=by
 rcases occ_head z ⟨#[c]⟩ 1 (Zn _) with ⟨h1,h2⟩|⟨i,r,h1,h2,h3⟩
 ·exact .inl ⟨fun i h=>h2 i (kW.mpr h),h1⟩
 ·exact .inr ⟨i,r,h1,kW.mp h2,fun k hk h=>h3 k hk (kW.mpr h)⟩
end aJ
namespace aJ
open PySem PySem.Builtin PySem.Builtin.Str PySem.StrLaws
def Ba(c:Nat):Bool:=decide (48<=c) && decide (c<=57)
def digits:Str:=⟨#[48,49,50,51,52,53,54,55,56,57]⟩
theorem B0(c:Nat):(!(occurrences digits ⟨#[c]⟩ 0 digits.length 1).isEmpty)=Ba c:=by
 rw [Bool.eq_iff_iff,found_iff]
 have h1:(∃ i,i+Str.length ⟨#[c]⟩<=digits.length/\subAt digits ⟨#[c]⟩ i=true)↔∃ i:Nat,digits.cps[i]?=some c:=exists_congr fun i=>kW (z:=digits) (c:=c) (i:=i)
 rw [h1]
 unfold Ba
 rw [Bool.and_eq_true,decide_eq_true_eq,decide_eq_true_eq]
 constructor
 ·rintro ⟨i,h⟩
  have hi:i<10:=by
   rcases lt_or_ge i 10 with h1|h1
   ·exact h1
   ·rw [Array.getElem?_eq_none (show digits.cps.size<=i from h1)] at h;cases h
  have h2:digits.cps[i]?=some (48+i):=by
   rcases (show i=0\/i=1\/i=2\/i=3\/i=4\/i=5\/i=6\/i=7\/i=8\/i=9 by lia) with rfl|rfl|rfl|rfl|rfl|rfl|rfl|rfl|rfl|rfl <;> rfl
  rw [h2] at h
  injection h
  lia
 ·rintro ⟨h,h'⟩
  refine⟨c - 48,?_⟩
  rcases (show c=48\/c=49\/c=50\/c=51\/c=52\/c=53\/c=54\/c=55\/c=56\/c=57 by lia) with rfl|rfl|rfl|rfl|rfl|rfl|rfl|rfl|rfl|rfl <;> rfl
def cnt(z:Str)(m:Nat):Bool:=(decide (1<=z.length/\z.length<=m) && (z.cps[0]? != some 48)) && z.cps.toList.all Ba
abbrev aA:Str:=⟨#[47]⟩
theorem kind_le(z:Str):¬ Builtin.Str.strKind z<Builtin.Str.strKind aA:=by
 have h:Builtin.Str.strKind aA=1:=by simp [Builtin.Str.strKind]
 rw [h]
 unfold Builtin.Str.strKind
 split
 ·decide
 ·split <;> decide
theorem nh(z:Str):(∃ top bot,Txt.partition z aA=(top,aA,bot)/\(Txt.split z aA=[top,bot]\/((Txt.split z aA).length≠2/\bot.cps.toList.all Ba=false)))\/(Txt.partition z aA=(z,Str.empty,Str.empty)/\Txt.split z aA=[z]):=by
 obtain ⟨q,hq,hs,hm⟩:=uJ z 47
 rcases xI z 47 with ⟨h1,h2⟩|⟨i,r,h1,h2,h3⟩
 ·have WJ:q=[]:=List.eq_nil_iff_forall_not_mem.mpr fun i hi=>h1 i ((hm i).mp hi)
  refine .inr ⟨?_,?_⟩
  ·unfold Txt.partition;rw [h2]
  ·unfold Txt.split;rw [hq,WJ]
   split
   ·rfl
   ·rfl
 ·have hi:i<z.length:=by
   rcases lt_or_ge i z.cps.size with h|h
   ·exact h
   ·rw [Array.getElem?_eq_none h] at h2;cases h2
  obtain ⟨r',rfl⟩:∃ r',q=i::r':=by
   have Vd:=(hm i).mpr h2
   cases q with
   | nil=>cases Vd
   | cons a t =>
    have ha:z.cps[a]?=some 47:=(hm a).mp (.head _)
    have:¬ a<i:=fun h=>h3 a h ha
    rcases ZL.mp Vd with e|e
    ·exact⟨t,by rw [e]⟩
    ·have:=(Z1.mp hs).1 i e
     lia
  have yV:Txt.split z aA=partsBetween z (i::r') 1:=by
   unfold Txt.split
   rw [hq,if_neg (by
    rw [Bool.or_eq_true,decide_eq_true_eq,decide_eq_true_eq]
    rintro (h|h)
    ·have:Str.length aA=1:=rfl
     lia
    ·exact kind_le z h),if_neg (by simp)]
   rfl
  refine .inl ⟨strSub z 0 i,strSub z (i+1) z.length,?_,?_⟩
  ·unfold Txt.partition;rw [h1];rfl
  ·rw [yV]
   cases r' with
   | nil=>exact .inl rfl
   | cons j t =>
    refine .inr ⟨by simp [partsBetween],?_⟩
    have UU:=(Z1.mp hs).1 j (.head _)
    have hj:z.cps[j]?=some 47:=(hm j).mp (.tail _ (.head _))
    have YF:j<z.cps.size:=by
     rcases lt_or_ge j z.cps.size with h|h
     ·exact h
     ·rw [Array.getElem?_eq_none h] at hj;cases hj
    rw [Bool.eq_false_iff]
    intro KQ
    have N9:47∈(strSub z (i+1) z.length).cps.toList:=by
     have:(strSub z (i+1) z.length).cps[j - (i+1)]?=some 47:=by
      show (z.cps.extract (i+1) z.cps.size)[j - (i+1)]?=some 47
      rw [Array.getElem?_extract,if_pos (by lia),show i+1+(j - (i+1))=j by lia]
      exact hj
     rw [<- Array.getElem?_toList] at this
     exact ZH this
    exact absurd (all_eq_true.mp KQ 47 N9) (by decide)
end aJ
namespace aJ
open PySem PySem.Builtin PySem.Builtin.Str PySem.StrLaws PySem.NumText PySem.W.KIN PyProof.Rows
theorem Bb{z:Str}(h:z.cps.toList.all Ba=true):AllDigits z.cps.toList:=fun c hc=>by
 have:=all_eq_true.mp h c hc
 unfold Ba at this
 rw [Bool.and_eq_true,decide_eq_true_eq,decide_eq_true_eq] at this
 exact this
theorem D3:∀ (cs:List Nat) (a:Nat),a<=cs.foldl (fun acc c=>acc*10+(c - 48)) a
 | [],a=>Zn _
 | c::cs,a=>Zm (by lia) (D3 cs (a*10+(c - 48)))
theorem D4:∀ (cs:List Nat) (a:Nat),AllDigits cs->cs.foldl (fun acc c=>acc*10+(c - 48)) a<(a+1)*10 ^ cs.length
 | [],a,_=>by simp
 | c::cs,a,h=>by
  have h1:=h c (.head _)
  refine Nat.lt_of_lt_of_le (D4 cs _ fun d hd=>h d (.tail _ hd)) ?_
  rw [length_cons,Nat.pow_succ,Nat.mul_comm (10 ^ cs.length) 10,<- mul_assoc]
  have h2:a*10+(c - 48)+1<=(a+1)*10:=by lia
  exact Zp _ h2
def num(z:Str):Nat:=digitsVal z.cps.toList
theorem dW{z:Str}{m:Nat}(h:cnt z m=true)(hm:m<=600):PySem.intText? z=some ((num z:Nat):Int)/\0<num z/\num z<10 ^ m/\z.length<=m:=by
 unfold cnt at h
 rw [Bool.and_eq_true,Bool.and_eq_true,decide_eq_true_eq] at h
 obtain ⟨⟨⟨h1,h2⟩,h3⟩,h4⟩:=h
 have hd:=Bb h4
 have hl:z.cps.toList.length=z.length:=Array.length_toList
 have F7:z.cps.toList≠[]:=fun e=>by rw [e] at hl;simp at hl;lia
 refine⟨intText_digits hd F7 (by lia),?_,?_,h2⟩
 ·unfold num digitsVal
  have h0:z.cps.toList[0]?≠some 48:=by
   rw [Array.getElem?_toList]
   simpa using h3
  generalize z.cps.toList=cs at h0 hd F7
  cases cs with
  | nil=>exact absurd rfl F7
  | cons c cs =>
   have hc:=hd c (.head _)
   have:c≠48:=fun e=>h0 (by rw [e];rfl)
   exact Nat.lt_of_lt_of_le (show 0<0*10+(c - 48) by lia) (D3 cs _)
 ·have:=D4 z.cps.toList 0 hd
  unfold num digitsVal
  refine Nat.lt_of_lt_of_le this ?_
  rw [Nat.zero_add,Nat.one_mul]
  exact Zl (by decide) (by lia)
abbrev txt(n:Nat):Str:=PySem.Str.ofString (toString ((n:Nat):Int))
theorem D5:∀ m:Nat,0<m->((Nat.toDigits 10 m).map Char.toNat)[0]?≠some 48:=by
 intro m
 induction m using Nat.strongRecOn with
 | _ m ih =>
  intro hm
  by_cases h:m<10
  ·rw [Nat.toDigits_of_lt_base h]
   rcases (show m=1\/m=2\/m=3\/m=4\/m=5\/m=6\/m=7\/m=8\/m=9 by lia) with rfl|rfl|rfl|rfl|rfl|rfl|rfl|rfl|rfl <;> decide
  ·have zu:m % 10<10:=mod_lt m (by decide)
   have t:Nat.toDigits 10 (m / 10)++Nat.toDigits 10 (m % 10)=Nat.toDigits 10 (10*(m / 10)+m % 10):=Nat.toDigits_append_toDigits (by decide) (by lia) zu
   rw [Nat.div_add_mod] at t
   have:=ih (m / 10) (by lia) (by lia)
   rw [<- t,ZV,List.getElem?_append]
   split
   ·exact this
   ·rename_i hl
    rw [List.getElem?_eq_none (by lia)] at this
    intro _
    have h1:=digitsVal
    have hv:=val_back (m / 10)
    rw [List.eq_nil_of_length_eq_zero (show ((Nat.toDigits 10 (m / 10)).map Char.toNat).length=0 by lia)] at hv
    have:(0:Nat)=m / 10:=hv
    lia
theorem uK:∀ (k m:Nat),0<k->m<10 ^ k->(Nat.toDigits 10 m).length<=k
 | 0,_,h,_=>absurd h (by decide)
 | 1,m,_,h=>by rw [Nat.toDigits_of_lt_base (by simpa using h)];exact Zn _
 | k+2,m,_,h=>by
  by_cases WK:m<10
  ·rw [Nat.toDigits_of_lt_base WK];simp
  ·have zu:m % 10<10:=mod_lt m (by decide)
   have t:Nat.toDigits 10 (m / 10)++Nat.toDigits 10 (m % 10)=Nat.toDigits 10 (10*(m / 10)+m % 10):=Nat.toDigits_append_toDigits (by decide) (by lia) zu
   rw [Nat.div_add_mod] at t
   have:=uK (k+1) (m / 10) (by lia) (by rw [Nat.pow_succ] at h;lia)
   rw [<- t,ZJ,Nat.toDigits_of_lt_base zu]
   show _+1<=_
   lia
theorem j0{n m:Nat}(h0:0<n)(hm:0<m)(h:n<10 ^ m):cnt (txt n) m=true/\num (txt n)=n:=by
 have hs:=signs_num n
 have hl:(txt n).length=(Nat.toDigits 10 n).length:=by
  show (txt n).cps.size=_
  rw [<- Array.length_toList,hs,ZI]
 have h2:=uK m n hm h
 refine⟨?_,?_⟩
 ·unfold cnt
  rw [Bool.and_eq_true,Bool.and_eq_true,decide_eq_true_eq]
  have Ve:1<=(Nat.toDigits 10 n).length:=by
   have hv:=val_back n
   rcases eq_zero_or_pos (Nat.toDigits 10 n).length with e|e
   ·rw [List.eq_nil_of_length_eq_zero e] at hv
    have:(0:Nat)=n:=hv
    lia
   ·exact e
  refine⟨⟨⟨by lia,by lia⟩,?_⟩,?_⟩
  ·rw [bne_iff_ne,<- Array.getElem?_toList,hs]
   exact D5 n h0
  ·rw [hs,all_eq_true]
   intro c hc
   obtain ⟨ch,xh,e⟩:=ZM.mp hc
   have r:=digit_range (Nat.isDigit_of_mem_toDigits (by decide) (by decide) xh)
   unfold Ba
   rw [Bool.and_eq_true,decide_eq_true_eq,decide_eq_true_eq,<- e]
   exact r
 ·unfold num
  rw [hs]
  exact val_back n
theorem j1{z:Str}{m:Nat}(h:cnt z m=true)(i:Nat):z.cps[i]?≠some 47:=fun e=>by
 unfold cnt at h
 rw [Bool.and_eq_true] at h
 have hm:47∈z.cps.toList:=ZH (i:=i) (by rw [Array.getElem?_toList];exact e)
 exact absurd (all_eq_true.mp h.2 47 hm) (by decide)
theorem B1{a b:Str}{m:Nat}(ha:cnt a m=true)(hb:cnt b m=true):Txt.partition (a++aA++b) aA=(a,aA,b)/\Txt.split (a++aA++b) aA=[a,b]:=by
 have hz:(a++aA++b).cps=a.cps++#[47]++b.cps:=rfl
 have hn:(a++aA++b).length=a.length+1+b.length:=by
  show (a++aA++b).cps.size=_
  rw [hz,Array.size_append,Array.size_append];rfl
 have Jt:∀ i:Nat,(a++aA++b).cps[i]?=some 47↔i=a.length:=fun i=>by
  rw [hz,Array.getElem?_append,Array.getElem?_append]
  constructor
  ·intro h
   split at h
   ·split at h
    ·exact absurd h (j1 ha i)
    ·rename_i h1 h2
     rw [Array.size_append] at h1
     have:i<a.cps.size+1:=h1
     show i=a.cps.size
     lia
   ·exact absurd h (j1 hb _)
  ·intro h
   have h':i=a.cps.size:=h
   rw [if_pos (by rw [Array.size_append];show i<a.cps.size+1;lia),if_neg (by lia),h',Nat.sub_self]
   rfl
 have Ju:strSub (a++aA++b) 0 a.length=a:=by
  show (⟨(a++aA++b).cps.extract 0 a.cps.size⟩:Str)=a
  rw [hz,Array.append_assoc,Array.extract_append_left]
  simp
 have Jv:strSub (a++aA++b) (a.length+1) (a++aA++b).length=b:=by
  show (⟨(a++aA++b).cps.extract (a.cps.size+1) (a++aA++b).cps.size⟩:Str)=b
  rw [hz]
  have:a.cps.size+1=(a.cps++#[47]).size:=by simp
  rw [this]
  generalize a.cps++#[47]=x
  have h0:x.extract x.size (x++b.cps).size=#[]:=Array.extract_empty_of_size_le_start (Zn _)
  rw [Array.extract_append,h0]
  simp
 obtain ⟨q,hq,hs,hm⟩:=uJ (a++aA++b) 47
 have WL:q=[a.length]:=by
  have h1:∀ i∈q,i=a.length:=fun i hi=>(Jt i).mp ((hm i).mp hi)
  have h2:a.length∈q:=(hm _).mpr ((Jt _).mpr rfl)
  cases q with
  | nil=>cases h2
  | cons x t =>
   have e:=h1 x (.head _)
   cases t with
   | nil=>rw [e]
   | cons y t =>
    have e2:=h1 y (.tail _ (.head _))
    have:=(Z1.mp hs).1 y (.head _)
    lia
 refine⟨?_,?_⟩
 ·unfold Txt.partition
  rcases xI (a++aA++b) 47 with ⟨h1,h2⟩|⟨i,r,h1,h2,h3⟩
  ·exact absurd ((Jt a.length).mpr rfl) (h1 _)
  ·rw [h1]
   have:=(Jt i).mp h2
   subst this
   show (strSub _ 0 _,aA,strSub _ (a.length+1) _)=_
   rw [Ju,Jv]
 ·unfold Txt.split
  rw [hq,WL,if_neg (by
   rw [Bool.or_eq_true,decide_eq_true_eq,decide_eq_true_eq]
   rintro (h|h)
   ·have:Str.length aA=1:=rfl
    lia
   ·exact kind_le _ h),if_neg (by simp)]
  show [strSub _ 0 _,strSub _ (a.length+1) _]=_
  rw [Ju,Jv]
end aJ
namespace aJ
open PySem PySem.Builtin PySem.Builtin.Str PySem.StrLaws
theorem uL{c d:Nat}:(⟨#[c]⟩:Str)=⟨#[d]⟩↔c=d:=by
 constructor
 ·intro h
  injection h with h
  simpa using h
 ·rintro rfl;rfl
theorem str0:Str.ofString "0"=⟨#[48]⟩:=by decide
theorem Oa:Str.ofString "0123456789"=digits:=by decide
theorem K7:Str.ofString "/"=aA:=by decide
theorem t9{z:Str}{m:Nat}(h:¬ 1<=z.length):cnt z m=false:=by
 unfold cnt;rw [Zu (fun h'=>h h'.1)];rfl
theorem D6{z:Str}{m:Nat}(h:¬ z.length<=m):cnt z m=false:=by
 unfold cnt;rw [Zu (fun h'=>h h'.2)];rfl
theorem oO{z:Str}{m:Nat}(h:z.cps[0]?=some 48):cnt z m=false:=by
 unfold cnt;rw [h];simp
theorem GS{z:Str}{m c:Nat}(h1:1<=z.length)(h2:z.length<=m)(h3:z.cps[0]?=some c)(h4:c≠48):cnt z m=z.cps.toList.all Ba:=by
 unfold cnt
 rw [Zv ⟨h1,h2⟩,h3]
 have:(some c != some 48)=true:=by simpa using h4
 rw [this];rfl
theorem RR{z:Str}(h:1<=z.length):∃ c,z.cps[0]?=some c:=⟨_,Array.getElem?_eq_getElem (show 0<z.cps.size from h)⟩
theorem iM(l:List Nat):(List.range l.length).map (fun i=>(l[i]?).getD 0)=l:=by
 apply ext_getElem
 ·simp
 ·intro i h1 h2
  simp [h2]
theorem all_range(z:Str):((List.range z.cps.size).map fun i=>Ba ((z.cps[i]?).getD 0)).all id=z.cps.toList.all Ba:=by
 have h:=iM z.cps.toList
 rw [Array.length_toList] at h
 conv=>rhs;rw [<- h]
 rw [all_map,all_map]
 congr 1
 funext i
 simp
theorem GU{z:Str}{m:Nat}(h:z.cps.toList.all Ba=false):cnt z m=false:=by
 unfold cnt;rw [h,Bool.and_false]
theorem sub_len(z:Str)(i j:Nat):(strSub z i j).length<=z.length:=by
 show (z.cps.extract i j).size<=z.cps.size
 rw [Array.size_extract];lia
theorem D7(z y:Str):(Txt.partition z y).1.length<=z.length/\(Txt.partition z y).2.2.length<=z.length:=by
 unfold Txt.partition
 split
 ·exact⟨sub_len _ _ _,sub_len _ _ _⟩
 ·exact⟨Zn _,ZZ _⟩
theorem xJ:∀ (q:List Nat) (lo n:Nat),q.Pairwise (·<·)->(∀ i∈q,lo<=i/\i<n)->q.length<=n - lo
 | [],_,_,_,_=>ZZ _
 | a::q,lo,n,hp,hq=>by
  have h1:=Z1.mp hp
  have ha:=hq a (.head _)
  have:=xJ q (a+1) n h1.2 fun i hi=>⟨h1.1 i hi,(hq i (.tail _ hi)).2⟩
  rw [length_cons]
  lia
theorem B2(z:Str)(w:Nat):∀ q:List Nat,(partsBetween z q w).length=q.length+1:=by
 intro q
 simp [partsBetween]
theorem split_len(z:Str):(Txt.split z aA).length<=z.length+1:=by
 obtain ⟨q,hq,hs,hm⟩:=uJ z 47
 have hl:q.length<=z.length:=by
  refine xJ q 0 z.length hs fun i hi=>⟨ZZ _,?_⟩
  have:=(hm i).mp hi
  rcases lt_or_ge i z.cps.size with h|h
  ·exact h
  ·rw [Array.getElem?_eq_none h] at this;cases this
 unfold Txt.split
 rw [hq]
 split
 ·simp
 ·split
  ·simp
  ·rw [B2];lia
def yZ(z:Str)(m:Nat):Option (Nat×Nat):=match Txt.split z aA with
 | [a,b]=>if (cnt a m && cnt b m)=true then some (num a,num b) else none
 | _=>none
theorem uM{z a b:Str}{m:Nat}(h:Txt.split z aA=[a,b]):yZ z m=if (cnt a m && cnt b m)=true then some (num a,num b) else none:=by
 unfold yZ;rw [h]
theorem uN{z:Str}{m:Nat}(h:(Txt.split z aA).length≠2):yZ z m=none:=by
 unfold yZ
 split
 ·rename_i a b e
  rw [e] at h
  exact absurd rfl h
 ·rfl
theorem K8{z:Str}(h:(Txt.split z aA).length=2):∃ a b,Txt.split z aA=[a,b]/\a.length<=z.length/\b.length<=z.length:=by
 rcases nh z with ⟨a,b,h1,h2|h2⟩|⟨_,h2⟩
 ·have:=D7 z aA
  rw [h1] at this
  exact⟨a,b,h2,this⟩
 ·exact absurd h h2.1
 ·rw [h2] at h;cases h
theorem D8(z:Str)(m:Nat):yZ z m=if (cnt (Txt.partition z aA).1 m && cnt (Txt.partition z aA).2.2 m)=true then some (num (Txt.partition z aA).1,num (Txt.partition z aA).2.2) else none:=by
 rcases nh z with ⟨a,b,h1,h2|h2⟩|⟨h1,h2⟩
 ·rw [uM h2,h1]
 ·rw [uN h2.1,h1]
  show none=if (cnt a m && cnt b m)=true then _ else _
  rw [GU h2.2,Bool.and_false];rfl
 ·rw [uN (by rw [h2];exact Nat.noConfusion ∘ Nat.succ.inj),h1]
  show none=if (cnt z m && cnt Str.empty m)=true then _ else _
  rw [t9 (z:=Str.empty) (by decide),Bool.and_false];rfl
theorem D9{z:Str}{m t b:Nat}(hm:m<=600)(h:yZ z m=some (t,b)):0<t/\t<10 ^ m/\0<b/\b<10 ^ m:=by
 rw [D8] at h
 split at h
 ·rename_i hc
  rw [Bool.and_eq_true] at hc
  have h1:=dW hc.1 hm
  have h2:=dW hc.2 hm
  cases h
  exact⟨h1.2.1,h1.2.2.1,h2.2.1,h2.2.2.1⟩
 ·cases h
theorem Ea{t b m:Nat}(h0:0<m)(ht:0<t/\t<10 ^ m)(hb:0<b/\b<10 ^ m):yZ (txt t++aA++txt b) m=some (t,b):=by
 have h1:=j0 ht.1 h0 ht.2
 have h2:=j0 hb.1 h0 hb.2
 rw [uM (B1 h1.1 h2.1).2,h1.1,h2.1,h1.2,h2.2];rfl
theorem cj{n m:Nat}(hm:0<m)(h:n<10 ^ m):(txt n).length<=m:=by
 have hs:=PySem.W.KIN.signs_num n
 show (txt n).cps.size<=m
 rw [<- Array.length_toList,hs,ZI]
 exact uK m n hm h
end aJ
namespace aJ
open PySem
theorem empty_app(z:Str):Str.empty++z=z:=by
 cases z with
 | mk cs =>
  show (⟨#[]++cs⟩:Str)=⟨cs⟩
  rw [Array.empty_append]
theorem K9{n:Nat}(h:n<2 ^ 1920):((n:Nat):Int).natAbs.log2<1920:=by
 show n.log2<1920
 rcases eq_zero_or_pos n with e|e
 ·rw [e];decide
 ·exact (log2_lt (by lia)).mpr h
theorem ua{n:Nat}(h:n<=99999):((n:Nat):Int).natAbs.log2<1920:=K9 (ZN h (by decide +kernel))
end aJ
namespace aJ
open PySem PySem.Builtin PySem.Builtin.Str PySem.StrLaws PySem.NumText PySem.W.KIN PyProof.Rows
theorem jr{i:Int}(h:i.natAbs<2 ^ 1920):i.natAbs.log2<1920:=by
 rcases eq_zero_or_pos i.natAbs with e|e
 ·rw [e];decide
 ·exact (log2_lt (by lia)).mpr h
end aJ
namespace aI
open PySem PySem.Builtin PySem.Builtin.Str PySem.StrLaws PyProof.Rows
theorem La(i j n:Nat):strSliceIndices (some (i:Int)) (some (j:Int)) 1 n=strSliceIndices (some ((min i n:Nat):Int)) (some ((min j n:Nat):Int)) 1 n:=by
 have h0:¬ (i:Int)<0:=by lia
 have h1:¬ (j:Int)<0:=by lia
 have h2:(1:Int) > 0:=by decide
 have h3:¬ ((min i n:Nat):Int)<0:=by lia
 have h4:¬ ((min j n:Nat):Int)<0:=by lia
 have e1:min (i:Int) (n:Int)=min ((min i n:Nat):Int) (n:Int):=by lia
 have e2:min (j:Int) (n:Int)=min ((min j n:Nat):Int) (n:Int):=by lia
 simp only [strSliceIndices,h0,h1,h2,h3,h4,if_false,if_true,e1,e2]
theorem cut{z:Str}{i j:Nat}(h:i<=j):(Txt.slice z (some (i:Int)) (some (j:Int))).cps.toList=(z.cps.toList.drop i).take (j - i):=by
 have hl:z.cps.toList.length=z.length:=Array.length_toList
 have e:Txt.slice z (some (i:Int)) (some (j:Int))=Txt.slice z (some ((min i z.length:Nat):Int)) (some ((min j z.length:Nat):Int)):=by
  unfold Txt.slice
  rw [La]
 rw [e,beq_iff_eq.mp (slice_closes (x:=z) (i:=((min i z.length:Nat):Int)) (j:=((min j z.length:Nat):Int)) ⟨by lia,by lia,by lia⟩)]
 show (List.take _ (List.drop _ z.cps.toList)).toArray.toList=_
 rw [toList_toArray]
 rw [show ((min i z.length:Nat):Int).toNat=min i z.length from rfl,show (((min j z.length:Nat):Int) - ((min i z.length:Nat):Int)).toNat=min j z.length - min i z.length by lia]
 by_cases hi:i<=z.length
 ·rw [Nat.min_eq_left hi]
  by_cases hj:j<=z.length
  ·rw [Nat.min_eq_left hj]
  ·rw [Nat.min_eq_right (by lia)]
   rw [ZY (by rw [length_drop];lia),ZY (by rw [length_drop];lia)]
 ·rw [Nat.min_eq_right (by lia:z.length<=i),Nat.min_eq_right (by lia:z.length<=j),List.drop_of_length_le (by lia),List.drop_of_length_le (by lia)]
  simp
theorem Eb{z:Str}{i:Nat}:(Txt.slice z (some (i:Int)) none).cps.toList=z.cps.toList.drop i:=by
 have hl:z.cps.toList.length=z.length:=Array.length_toList
 by_cases h:i<=z.length
 ·rw [slice_from_eq (b:=(z.length:Int)) (by lia) (by lia) rfl]
  show (List.take _ (List.drop _ z.cps.toList)).toArray.toList=_
  rw [toList_toArray,show (i:Int).toNat=i from rfl,ZY (by rw [length_drop];lia)]
 ·rw [slice_beyond (by lia),List.drop_of_length_le (by lia)]
  rfl
def runs(ds:List Nat)(c:Nat):Nat:=(ds.takeWhile (· == c)).length
theorem fK(d:Nat)(ds:List Nat)(c:Nat):runs (d::ds) c=if d=c then runs ds c+1 else 0:=by
 unfold runs
 rw [List.takeWhile_cons]
 by_cases h:d=c
 ·rw [if_pos h,if_pos (by simpa using h)];rfl
 ·rw [if_neg h,if_neg (by simpa using h)];rfl
theorem oa:∀ (ds:List Nat) (c:Nat),runs ds c<=ds.length
 | [],_=>Zn _
 | d::ds,c=>by
  rw [fK]
  split
  ·have:=oa ds c;rw [length_cons];lia
  ·exact ZZ _
theorem Bc:∀ (ds:List Nat) (c j:Nat),j<=runs ds c->(ds[j]?=some c↔j<runs ds c)
 | [],c,j,h=>by
  have:runs [] c=0:=rfl
  rw [this] at *
  simp
 | d::ds,c,j,h=>by
  rw [fK] at *
  by_cases hd:d=c
  ·rw [if_pos hd] at *
   cases j with
   | zero=>simp [hd]
   | succ j =>
    rw [List.getElem?_cons_succ,Bc ds c j (by lia)]
    lia
  ·rw [if_neg hd] at *
   have:j=0:=by lia
   subst this
   simp [hd]
theorem oP:∀ (n c:Nat) (rest:List Nat),runs (List.replicate n c++rest) c=n+runs rest c
 | 0,c,rest=>by simp
 | n+1,c,rest=>by
  rw [replicate_succ,cons_append,fK,if_pos rfl,oP n c rest]
  lia
theorem j2{c d:Nat}(h:d≠c)(n:Nat){rest:List Nat}(hr:runs rest c=0):runs (List.replicate n d++rest) c=0:=by
 cases n with
 | zero=>simpa using hr
 | succ n=>rw [replicate_succ,cons_append,fK,if_neg h]
def seg(c d:Nat)(k:Int):List Nat:=List.replicate k.toNat c++List.replicate (-k).toNat d
theorem oQ{c d e:Nat}{k:Int}{rest:List Nat}(h1:c≠e)(h2:d≠e)(hr:runs rest e=0):runs (seg c d k++rest) e=0:=by
 unfold seg
 rw [append_assoc]
 exact j2 h1 _ (j2 h2 _ hr)
theorem j3{c d:Nat}{k:Int}{rest:List Nat}(h:c≠d)(h1:runs rest c=0)(h2:runs rest d=0):(runs (seg c d k++rest) c:Int) - runs (seg c d k++rest) d=k:=by
 unfold seg
 rw [append_assoc,oP]
 have e1:runs (List.replicate (-k).toNat d++rest) c=0:=j2 (fun e=>h e.symm) _ h1
 by_cases hk:0<k
 ·have:(-k).toNat=0:=by lia
  rw [e1,this,List.replicate_zero,nil_append,j2 h _ h2]
  lia
 ·have:k.toNat=0:=by lia
  rw [e1,this,List.replicate_zero,nil_append,oP,h2]
  lia
theorem j4(c d:Nat)(k:Int):(seg c d k).length=k.natAbs:=by
 unfold seg
 rw [ZJ,length_replicate,length_replicate]
 lia
theorem j5{c d:Nat}{k:Int}{rest:List Nat}:(seg c d k++rest).drop k.natAbs=rest:=by
 rw [<- j4 c d k,drop_left]
def xK(cs:List Nat)(s:Nat×List Int)(m:Nat×Nat×List Int):Nat×List Int :=
 (s.1+((runs (cs.drop s.1) m.1:Int) - runs (cs.drop s.1) m.2.1).natAbs,List.zipWith (·+·) s.2 (m.2.2.map (·*((runs (cs.drop s.1) m.1:Int) - runs (cs.drop s.1) m.2.1))))
def marks:List (Nat×Nat×List Int):=[(35,98,[-11,7,0,0,0]),(43,45,[-4,4,-1,0,0]),(62,60,[6,-2,0,-1,0]),(94,118,[-5,1,0,0,1])]
def qu(c:Nat):Option (List Int) :=
 if c=70 then some [2,-1,0,0,0] else if c=67 then some [0,0,0,0,0] else if c=71 then some [-1,1,0,0,0] else if c=68 then some [-3,2,0,0,0] else if c=65 then some [-4,3,0,0,0] else if c=69 then some [-6,4,0,0,0] else if c=66 then some [-7,5,0,0,0] else none
def ub(y:Str)(m:Nat):Option Int :=
 if y=⟨#[48]⟩ then some 0 else if y.cps[0]?=some 45 then (if aJ.cnt ⟨(y.cps.toList.drop 1).toArray⟩ m=true then some (-((aJ.num ⟨(y.cps.toList.drop 1).toArray⟩:Nat):Int)) else none) else if aJ.cnt y m=true then some ((aJ.num y:Nat):Int) else none
def y6(z:Str):Option (List Int) :=
 if 300<z.length then none else
 match z.cps.toList with
 | []=>none
 | c::_=>match qu c with
  | none=>none
  | some r0 =>
   if z.cps.toList[(marks.foldl (xK z.cps.toList) (1,r0)).1]?=some 46 then
    match ub ⟨(z.cps.toList.drop ((marks.foldl (xK z.cps.toList) (1,r0)).1+1)).toArray⟩ 4 with
    | none=>none
    | some o=>some (List.zipWith (·+·) (marks.foldl (xK z.cps.toList) (1,r0)).2 [o,0,0,0,0])
   else none
end aI
namespace aI
open PySem PySem.Builtin PySem.Builtin.Str PySem.StrLaws PySem.NumText PySem.W.KIN PyProof.Rows
theorem GV{y:Str}{m:Nat}{o:Int}(hm:m<=600)(h:ub y m=some o):PySem.intText? y=some o/\y.length<=m+1:=by
 unfold ub at h
 split at h
 ·rename_i e
  cases h
  subst e
  exact⟨by decide +kernel,by show 1<=m+1;lia⟩
 ·split at h
  ·rename_i Lb
   split at h
   ·rename_i hc
    cases h
    have hr:=aJ.dW hc hm
    have e1:y.cps.toList=45::y.cps.toList.drop 1:=by
     rw [<- Array.getElem?_toList] at Lb
     cases hy:y.cps.toList with
     | nil=>rw [hy] at Lb;cases Lb
     | cons a t=>rw [hy] at Lb;cases Lb;rfl
    have hl:y.length=(y.cps.toList.drop 1).length+1:=by
     show y.cps.size=_
     rw [<- Array.length_toList]
     conv=>lhs;rw [e1]
     rfl
    have GI:(⟨(y.cps.toList.drop 1).toArray⟩:Str).length=(y.cps.toList.drop 1).length:=by
     show (y.cps.toList.drop 1).toArray.size=_
     rw [ZT]
    unfold aJ.cnt at hc
    rw [Bool.and_eq_true,Bool.and_eq_true,decide_eq_true_eq] at hc
    obtain ⟨⟨⟨c1,c2⟩,c3⟩,c4⟩:=hc
    have hd:=aJ.Bb c4
    rw [show (⟨(y.cps.toList.drop 1).toArray⟩:Str).cps.toList=y.cps.toList.drop 1 from toList_toArray ..] at hd
    refine⟨?_,by lia⟩
    rw [intText_neg e1 hd (fun e=>by rw [GI,e] at c1;exact absurd c1 (by decide)) (by lia)]
    unfold aJ.num
    rw [show (⟨(y.cps.toList.drop 1).toArray⟩:Str).cps.toList=y.cps.toList.drop 1 from toList_toArray ..]
   ·cases h
  ·split at h
   ·rename_i hc
    cases h
    have hr:=aJ.dW hc hm
    exact⟨hr.1,by lia⟩
   ·cases h
theorem cx(l:List Nat):(⟨l.toArray⟩:Str).cps.toList=l:=toList_toArray ..
theorem dN{y z:Str}(h:y.cps.toList=z.cps.toList):y=z:=by
 cases y;cases z
 congr 1
 exact Array.ext' h
theorem Ec (y:Str):(decide (0+(Str.ofString "-").length<=y.length) && subAt y (Str.ofString "-") 0)=decide (y.cps[0]?=some 45):=by
 have e:Str.ofString "-"=⟨#[45]⟩:=by decide
 rw [e,Bool.eq_iff_iff,Bool.and_eq_true,decide_eq_true_eq,decide_eq_true_eq]
 exact aJ.kW (z:=y) (c:=45) (i:=0)
end aI
namespace aI
open PySem PySem.Builtin PySem.Builtin.Str PySem.StrLaws PyProof.Rows
theorem Ed{z:Str}{j:Nat}:(Txt.slice z none (some (j:Int))).cps.toList=z.cps.toList.take j:=by
 have e:Txt.slice z none (some (j:Int))=Txt.slice z (some ((0:Nat):Int)) (some (j:Int)):=by
  have hl:z.cps.toList.length=z.length:=Array.length_toList
  have h0:¬ (j:Int)<0:=by lia
  have h2:(1:Int) > 0:=by decide
  have h3:min (0:Int) (z.length:Int)=0:=by lia
  have h5:max (0:Int) 0=0:=by lia
  unfold Txt.slice
  simp only [strSliceIndices,h0,h2,if_false,if_true,Int.ofNat_zero,Int.natCast_zero,Int.lt_irrefl,h3,h5]
 rw [e,cut (ZZ _),drop_zero,Nat.sub_zero]
theorem Bd {z:Str} {p:Nat}:Txt.slice z (some (p:Int)) (some ((p:Int)+1))=Str.ofString "."↔z.cps.toList[p]?=some 46:=by
 have e:Str.ofString "."=⟨#[46]⟩:=by decide
 have h:=cut (z:=z) (i:=p) (j:=p+1) (by lia)
 rw [show ((p+1:Nat):Int)=(p:Int)+1 from rfl,show p+1 - p=1 by lia] at h
 rw [e]
 constructor
 ·intro q
  rw [q] at h
  have h':[46]=(z.cps.toList.drop p).take 1:=h
  have:(z.cps.toList.drop p)[0]?=some 46:=by
   cases hd:z.cps.toList.drop p with
   | nil=>rw [hd] at h';cases h'
   | cons a t=>rw [hd] at h';cases h';rfl
  rw [getElem?_drop] at this
  exact this
 ·intro q
  apply dN
  rw [h]
  have:(z.cps.toList.drop p)[0]?=some 46:=by rw [getElem?_drop];exact q
  cases hd:z.cps.toList.drop p with
  | nil=>rw [hd] at this;cases this
  | cons a t=>rw [hd] at this;cases this;rfl
theorem Ee{z:Str}{c:Nat}{t:List Nat}(h:z.cps.toList=c::t):Txt.slice z none (some 1)=⟨#[c]⟩:=by
 apply dN
 have:=Ed (z:=z) (j:=1)
 rw [h] at this
 exact this
theorem Be(z:Str)(p:Nat):Txt.slice z (some ((p:Int)+1)) none=⟨(z.cps.toList.drop (p+1)).toArray⟩:=by
 apply dN
 rw [cx]
 exact Eb (i:=p+1)
end aI
namespace aI
open PySem
theorem Ef{z:Str}{c p:Nat}{t:List Nat}{r0 r:List Int}(h3:¬ 300<z.length)(BN:z.cps.toList=c::t)(hl:qu c=some r0)(hf:marks.foldl (xK z.cps.toList) (1,r0)=(p,r)) :
  y6 z=if z.cps.toList[p]?=some 46 then (match ub ⟨(z.cps.toList.drop (p+1)).toArray⟩ 4 with|none=>none|some o=>some (List.zipWith (·+·) r [o,0,0,0,0])) else none:=by
 unfold y6
 rw [if_neg h3]
 split
 ·rename_i e
  rw [BN] at e
  cases e
 ·rename_i c' t' e
  rw [BN] at e
  cases e
  rw [hl]
  simp only [hf]
theorem Jw:Str.ofString "#"=⟨#[35]⟩:=by decide
theorem Jx:Str.ofString "b"=⟨#[98]⟩:=by decide
theorem Jy:Str.ofString "+"=⟨#[43]⟩:=by decide
theorem Jz:Str.ofString "-"=⟨#[45]⟩:=by decide
theorem JA:Str.ofString ">"=⟨#[62]⟩:=by decide
theorem JB:Str.ofString "<"=⟨#[60]⟩:=by decide
theorem JC:Str.ofString "^"=⟨#[94]⟩:=by decide
theorem Eg:Str.ofString "v"=⟨#[118]⟩:=by decide
end aI
namespace aI
open PySem PySem.NumText PySem.W.KIN PyProof.Rows
theorem app_list(a b:Str):(a++b).cps.toList=a.cps.toList++b.cps.toList:=by
 show (a.cps++b.cps).toList=_
 rw [Array.toList_append]
theorem xM(n:Nat):(Str.ofString (toString (-((n+1:Nat):Int)))).cps.toList=45::(aJ.txt (n+1)).cps.toList:=by
 rw [signs_num,signs_ofString]
 show ("-"++Nat.repr (n+1)).toList.map Char.toNat=_
 rw [String.toList_append,ZV,Nat.toList_repr]
 rfl
theorem oR{o:Int}(h1:-9999<=o)(h2:o<=9999):ub (Str.ofString (toString o)) 4=some o/\(Str.ofString (toString o)).length<=5:=by
 rcases Int.lt_trichotomy o 0 with h|h|h
 ·obtain ⟨n,rfl⟩:∃ n:Nat,o=-((n+1:Nat):Int):=⟨(-o).toNat - 1,by lia⟩
  have hl:=xM n
  have ht:=aJ.j0 (n:=n+1) (m:=4) (by lia) (by decide) (by lia)
  have hs:=aJ.cj (n:=n+1) (m:=4) (by decide) (by lia)
  have hlen:(Str.ofString (toString (-((n+1:Nat):Int)))).length=(aJ.txt (n+1)).length+1:=by
   show (Str.ofString (toString (-((n+1:Nat):Int)))).cps.size=_
   rw [<- Array.length_toList,hl,length_cons,Array.length_toList]
   rfl
  refine⟨?_,by lia⟩
  have hd:(⟨((Str.ofString (toString (-((n+1:Nat):Int)))).cps.toList.drop 1).toArray⟩:Str)=aJ.txt (n+1):=by
   apply dN
   rw [cx,hl]
   rfl
  unfold ub
  rw [if_neg (fun e=>by rw [e] at hl;cases hl),if_pos (by rw [<- Array.getElem?_toList,hl];rfl),hd,ht.1,ht.2,if_pos rfl]
 ·subst h
  exact⟨by decide +kernel,by decide +kernel⟩
 ·obtain ⟨n,rfl⟩:=Int.eq_ofNat_of_zero_le (Int.le_of_lt h)
  have ht:=aJ.j0 (n:=n) (m:=4) (by lia) (by decide) (by lia)
  have hs:=aJ.cj (n:=n) (m:=4) (by decide) (by lia)
  have Lb:(aJ.txt n).cps[0]?≠some 45:=fun e=>by
   have hc:=ht.1
   unfold aJ.cnt at hc
   rw [Bool.and_eq_true] at hc
   have hm:45∈(aJ.txt n).cps.toList:=ZH (i:=0) (by rw [Array.getElem?_toList];exact e)
   exact absurd (all_eq_true.mp hc.2 45 hm) (by decide)
  have WM:aJ.txt n≠⟨#[48]⟩:=fun e=>by
   have hc:=ht.1
   rw [e,aJ.oO (by rfl)] at hc
   cases hc
  refine⟨?_,Zm hs (by decide)⟩
  unfold ub
  rw [show Str.ofString (toString ((n:Nat):Int))=aJ.txt n from rfl,if_neg WM,if_neg Lb,ht.1,ht.2,if_pos rfl]
theorem made{T:Str}{L:Nat}{k0 k1 k2 k3 o r0 r1 r2 r3 r4:Int}(hT:T.cps.toList=L::(seg 35 98 k0++(seg 43 45 k1++(seg 62 60 k2++(seg 94 118 k3++(46::(Str.ofString (toString o)).cps.toList))))))(hl:qu L=some [r0,r1,r2,r3,r4])
  (h1:-9999<=o) (h2:o<=9999) (hb:k0.natAbs+k1.natAbs+k2.natAbs+k3.natAbs<=290) :
  y6 T=some [r0+-11*k0+-4*k1+6*k2+-5*k3+o,r1+7*k0+4*k1+-2*k2+1*k3+0,r2+0*k0+-1*k1+0*k2+0*k3+0,r3+0*k0+0*k1+-1*k2+0*k3+0,r4+0*k0+0*k1+0*k2+1*k3+0]/\T.length<=300:=by
 have ho:=oR h1 h2
 generalize hy:(Str.ofString (toString o))=y at hT ho
 have hlen:T.length<=300:=by
  show T.cps.size<=300
  rw [<- Array.length_toList,hT]
  simp only [length_cons,ZJ,j4]
  have:y.cps.toList.length=y.length:=Array.length_toList
  lia
 refine⟨?_,hlen⟩
 have d0:∀ c:Nat,c≠46->runs (46::y.cps.toList) c=0:=fun c h=>by rw [fK,if_neg (fun e=>h e.symm)]
 have d3:∀ c:Nat,c≠46->c≠94->c≠118->runs (seg 94 118 k3++(46::y.cps.toList)) c=0:=fun c h h1 h2=>oQ (fun e=>h1 e.symm) (fun e=>h2 e.symm) (d0 c h)
 have d2:∀ c:Nat,c≠46->c≠94->c≠118->c≠62->c≠60->runs (seg 62 60 k2++(seg 94 118 k3++(46::y.cps.toList))) c=0:=fun c h h1 h2 h3 h4=>oQ (fun e=>h3 e.symm) (fun e=>h4 e.symm) (d3 c h h1 h2)
 have d1:∀ c:Nat,c≠46->c≠94->c≠118->c≠62->c≠60->c≠43->c≠45->runs (seg 43 45 k1++(seg 62 60 k2++(seg 94 118 k3++(46::y.cps.toList)))) c=0:=fun c h h1 h2 h3 h4 h5 h6=>oQ (fun e=>h5 e.symm) (fun e=>h6 e.symm) (d2 c h h1 h2 h3 h4)
 have s0:=j3 (c:=35) (d:=98) (k:=k0) (by decide) (d1 35 (by decide) (by decide) (by decide) (by decide) (by decide) (by decide) (by decide)) (d1 98 (by decide) (by decide) (by decide) (by decide) (by decide) (by decide) (by decide))
 have s1:=j3 (c:=43) (d:=45) (k:=k1) (by decide) (d2 43 (by decide) (by decide) (by decide) (by decide) (by decide)) (d2 45 (by decide) (by decide) (by decide) (by decide) (by decide))
 have s2:=j3 (c:=62) (d:=60) (k:=k2) (by decide) (d3 62 (by decide) (by decide) (by decide)) (d3 60 (by decide) (by decide) (by decide))
 have s3:=j3 (c:=94) (d:=118) (k:=k3) (by decide) (d0 94 (by decide)) (d0 118 (by decide))
 have e0:T.cps.toList.drop 1=seg 35 98 k0++(seg 43 45 k1++(seg 62 60 k2++(seg 94 118 k3++(46::y.cps.toList)))):=by rw [hT];rfl
 have e1:T.cps.toList.drop (1+k0.natAbs)=seg 43 45 k1++(seg 62 60 k2++(seg 94 118 k3++(46::y.cps.toList))):=by rw [<- drop_drop,e0,j5]
 have e2:T.cps.toList.drop (1+k0.natAbs+k1.natAbs)=seg 62 60 k2++(seg 94 118 k3++(46::y.cps.toList)):=by rw [<- drop_drop,e1,j5]
 have e3:T.cps.toList.drop (1+k0.natAbs+k1.natAbs+k2.natAbs)=seg 94 118 k3++(46::y.cps.toList):=by rw [<- drop_drop,e2,j5]
 have e4:T.cps.toList.drop (1+k0.natAbs+k1.natAbs+k2.natAbs+k3.natAbs)=46::y.cps.toList:=by rw [<- drop_drop,e3,j5]
 have t0:xK T.cps.toList (1,[r0,r1,r2,r3,r4]) (35,98,[-11,7,0,0,0])=(1+k0.natAbs,[r0+-11*k0,r1+7*k0,r2+0*k0,r3+0*k0,r4+0*k0]):=by
  unfold xK
  rw [show T.cps.toList.drop (1,[r0,r1,r2,r3,r4]).1=_ from e0]
  simp only [s0]
  rfl
 have t1:xK T.cps.toList (1+k0.natAbs,[r0+-11*k0,r1+7*k0,r2+0*k0,r3+0*k0,r4+0*k0]) (43,45,[-4,4,-1,0,0])=(1+k0.natAbs+k1.natAbs,[r0+-11*k0+-4*k1,r1+7*k0+4*k1,r2+0*k0+-1*k1,r3+0*k0+0*k1,r4+0*k0+0*k1]):=by
  unfold xK
  simp only [e1,s1]
  rfl
 have t2:xK T.cps.toList (1+k0.natAbs+k1.natAbs,[r0+-11*k0+-4*k1,r1+7*k0+4*k1,r2+0*k0+-1*k1,r3+0*k0+0*k1,r4+0*k0+0*k1]) (62,60,[6,-2,0,-1,0])=(1+k0.natAbs+k1.natAbs+k2.natAbs,[r0+-11*k0+-4*k1+6*k2,r1+7*k0+4*k1+-2*k2,r2+0*k0+-1*k1+0*k2,r3+0*k0+0*k1+-1*k2,r4+0*k0+0*k1+0*k2]):=by
  unfold xK
  simp only [e2,s2]
  rfl
 have t3:xK T.cps.toList (1+k0.natAbs+k1.natAbs+k2.natAbs,[r0+-11*k0+-4*k1+6*k2,r1+7*k0+4*k1+-2*k2,r2+0*k0+-1*k1+0*k2,r3+0*k0+0*k1+-1*k2,r4+0*k0+0*k1+0*k2]) (94,118,[-5,1,0,0,1])=(1+k0.natAbs+k1.natAbs+k2.natAbs+k3.natAbs,[r0+-11*k0+-4*k1+6*k2+-5*k3,r1+7*k0+4*k1+-2*k2+1*k3,r2+0*k0+-1*k1+0*k2+0*k3,r3+0*k0+0*k1+-1*k2+0*k3,r4+0*k0+0*k1+0*k2+1*k3]):=by
  unfold xK
  simp only [e3,s3]
  rfl
 have hf:marks.foldl (xK T.cps.toList) (1,[r0,r1,r2,r3,r4])=(1+k0.natAbs+k1.natAbs+k2.natAbs+k3.natAbs,[r0+-11*k0+-4*k1+6*k2+-5*k3,r1+7*k0+4*k1+-2*k2+1*k3,r2+0*k0+-1*k1+0*k2+0*k3,r3+0*k0+0*k1+-1*k2+0*k3,r4+0*k0+0*k1+0*k2+1*k3]):=by
  unfold marks
  rw [foldl_cons,t0,foldl_cons,t1,foldl_cons,t2,foldl_cons,t3,List.foldl_nil]
 rw [Ef (by lia) hT hl hf]
 generalize 1+k0.natAbs+k1.natAbs+k2.natAbs+k3.natAbs=p at e4
 have hp:T.cps.toList[p]?=some 46:=by
  have:(T.cps.toList.drop p)[0]?=some 46:=by rw [e4];rfl
  rw [getElem?_drop] at this
  exact this
 have WN:(⟨(T.cps.toList.drop (p+1)).toArray⟩:Str)=y:=by
  apply dN
  rw [cx,<- drop_drop,e4]
  rfl
 rw [if_pos hp,WN,ho.1]
 rfl
end aI
namespace BZ
def gens(ms:List Int)(rs:List (List Int)):List (List Int):=(List.range 5).map fun i=>N8 (rs.getD i []) (ms.getD i 0)
end BZ
namespace WO
structure Sg(P:Int->Int->Prop):Prop where
 add:∀ {n j n' j':Int},P n j->P n' j'->P (n+n') (j+j')
 neg:∀ {n j:Int},P n j->P (-n) (-j)->False
 zx:∀ n j:Int,j≠0->P n j\/P (-n) (-j)
 oct:∀ {n:Int},P n 0->0<n
section
variable {P:Int->Int->Prop}{o:Int->Int}{N:Int}
structure Ch(P:Int->Int->Prop)(o:Int->Int)(N:Int):Prop where
 s:Sg P
 z:o 0=0
 f:∀ j,0<j->j<N->P (o j) j/\P (1 - o j) (-j)
variable (C:Ch P o N)
include C
variable {a b:Int}(a0:0<a)(a1:a<N)(mn:∀ j,0<j->j<N->j≠a->P (o j - o a) (j - a))(b0:0<b)(b1:b<N)(mx:∀ j,0<j->j<N->j≠b->P (o b - o j) (b - j))
include a0 a1 mn in
include a0 a1 mn in
include b0 b1 mx in
include b0 b1 mx in
include a0 a1 mn b0 b1 mx in
include a0 a1 mn b0 b1 mx in
include a0 a1 mn b0 b1 mx in
end
end WO
namespace aI
open PySem
def J(c:Nat):List (List Nat)->List Nat
 | []=>[]
 | [x]=>x
 | x::y::r=>x++c::J c (y::r)
end aI
namespace BZ
def eb:Nat->Nat->Nat
 | 0,e=>e
 | k+1,e=>eb k (2*e+1)
end BZ
namespace aI
open PySem PySem.Builtin PySem.Builtin.Str
def JL(y:List Nat):List (List Nat)->List Nat
 | []=>[]
 | [x]=>x
 | x::z::r=>x++(y++JL y (z::r))
theorem kX(y:Str):∀ ws:List Str,(Str.join y ws).cps.toList=JL y.cps.toList (ws.map fun w=>w.cps.toList)
 | []=>rfl
 | [x]=>rfl
 | x::z::r=>by
  have ih:=kX y (z::r)
  show (x++y++Str.join y (z::r)).cps.toList=x.cps.toList++(y.cps.toList++JL y.cps.toList ((z::r).map fun w=>w.cps.toList))
  rw [<- ih]
  show ((x.cps++y.cps)++(Str.join y (z::r)).cps).toList=_
  simp
theorem zy{z y:Str}{n k j:Nat}{d:Nat}(h:StrLaws.At z y n k)(hj:y.cps.toList[j]?=some d):z.cps.toList[k+j]?=some d:=by
 have h2:=h.2
 rw [StrLaws.subAt_eq] at h2
 have h3:=eq_of_beq h2
 have hl:j<y.length:=by
  have:=(Zi.mp hj).1
  simpa [Str.length] using this
 rw [<- h3,List.getElem?_take_of_lt hl,getElem?_drop] at hj
 exact hj
theorem at_of{z y:Str}{k:Nat}{r:List Nat}(h0:y.length≠0)(h:z.cps.toList.drop k=y.cps.toList++r):StrLaws.At z y z.length k:=by
 have hy:y.cps.toList.length=y.length:=by simp [Str.length]
 have hz:z.cps.toList.length=z.length:=by simp [Str.length]
 refine⟨?_,?_⟩
 ·have:=congrArg List.length h
  rw [length_drop,ZJ,hy,hz] at this
  lia
 ·rw [StrLaws.subAt_eq,h,<- hy,List.take_left]
  exact beq_self_eq_true _
theorem zA{z:Str}{a b:Nat}{x r:List Nat}(h:z.cps.toList.drop a=x++r)(hb:b=a+x.length):(strSub z a b).cps.toList=x:=by
 rw [StrLaws.strSub_toList,h,hb,Nat.add_sub_cancel_left,List.take_left]
theorem uc{z y:Str}{c i f:Nat}{u:List Nat}(hi:y.cps.toList[i]?=some c)(hu:y.cps.toList=u++y.cps.toList.drop i)(Qs:u.length=i)(MN:c∉u)(hn:∀ k,f<=k->¬ StrLaws.At z y z.length k) :
  ∀ (ws:List (List Nat)) (B3:List Nat) (a:Nat),ws≠[]->(∀ x∈ws,c∉x)->z.cps.toList.drop a=JL y.cps.toList ws->StrLaws.ChainG z y z.length a B3 f->(StrLaws.partsFrom z y.length a B3).map (fun w=>w.cps.toList)=ws
 | [],_,_,h,_,_,_=>absurd rfl h
 | [x],B3,a,_,hx,hd,hG=>by
  have hd:z.cps.toList.drop a=x:=hd
  have no:∀ k,a<=k->¬ StrLaws.At z y z.length k:=fun k hk hA=>by
   have:=zy hA hi
   refine hx x (.head _) ?_
   rw [<- hd]
   refine ZH (i:=k+i - a) ?_
   rw [getElem?_drop,<- this]
   congr 1
   lia
  cases B3 with
  | nil =>
   show [(strSub z a z.length).cps.toList]=[x]
   rw [StrLaws.strSub_toList,hd,ZY]
   rw [<- hd,length_drop]
   simp [Str.length]
  | cons d r=>exact absurd hG.2.1 (no d hG.1)
 | x::w::ws,B3,a,_,hx,hd,hG=>by
  have hd:z.cps.toList.drop a=x++(y.cps.toList++JL y.cps.toList (w::ws)):=hd
  have hd2:z.cps.toList.drop (a+x.length)=y.cps.toList++JL y.cps.toList (w::ws):=by
   rw [<- drop_drop,hd,drop_left]
  have RS:y.length≠0:=fun z=>by
   have:=(Zi.mp hi).1
   have e:y.cps.toList.length=y.length:=by simp [Str.length]
   lia
  have hA:=at_of RS hd2
  have no:∀ k,a<=k->k<a+x.length->¬ StrLaws.At z y z.length k:=fun k hk hk2 hA=>by
   have g:=zy hA hi
   have e:z.cps.toList[k+i]?=(x++(y.cps.toList++JL y.cps.toList (w::ws)))[k+i - a]?:=by
    rw [<- hd,getElem?_drop]
    congr 1
    lia
   rw [e] at g
   by_cases hl:k+i - a<x.length
   ·rw [ZP hl] at g
    exact hx x (.head _) (ZH g)
   ·rw [Zq (by lia),hu,append_assoc,ZP (by lia)] at g
    exact MN (ZH g)
  cases B3 with
  | nil =>
   have e:f=a:=hG
   exact absurd hA (hn _ (by lia))
  | cons d r =>
   obtain ⟨h1,h2,h3,h4⟩:=hG
   have e:d=a+x.length:=by
    rcases Nat.lt_trichotomy d (a+x.length) with q|q|q
    ·exact absurd h2 (no d h1 q)
    ·exact q
    ·exact absurd hA (h3 _ (by lia) q)
   subst e
   have RT:y.cps.toList.length=y.length:=by simp [Str.length]
   have ih:=uc hi hu Qs MN hn (w::ws) r (a+x.length+y.length) (cons_ne_nil _ _) (fun v hv=>hx v (.tail _ hv)) (by rw [<- drop_drop,hd2,<- RT,drop_left]) h4
   show (strSub z a (a+x.length)).cps.toList::(StrLaws.partsFrom z y.length (a+x.length+y.length) r).map (fun w=>w.cps.toList)=x::w::ws
   rw [ih,zA hd rfl]
theorem xN{a b:List Str}(h:(a.map fun w=>w.cps.toList)=b.map fun w=>w.cps.toList):a=b:=by
 induction a generalizing b with
 | nil=>cases b with
  | nil=>rfl
  | cons y b=>cases h
 | cons x a ih=>cases b with
  | nil=>cases h
  | cons y b =>
   obtain ⟨h1,h2⟩:=List.cons.inj h
   rw [ih h2]
   rw [show x=y from Str.ext' (Array.toList_inj.mp h1)]
theorem nj{y:Str}{c i:Nat}{u:List Nat}(hi:y.cps.toList[i]?=some c)(hu:y.cps.toList=u++y.cps.toList.drop i)(Qs:u.length=i)(MN:c∉u)(hk:Builtin.Str.strKind y=1){ws:List Str}(h:ws≠[])(hf:∀ w∈ws,c∉w.cps.toList):Txt.split (Str.join y ws) y=ws:=by
 have WQ:1<=y.length:=by
  have:=(Zi.mp hi).1
  have e:y.cps.toList.length=y.length:=by simp [Str.length]
  lia
 obtain ⟨f,hG,hn⟩:=StrLaws.occ_tight (Str.join y ws) y WQ
 have F7:(ws.map fun w=>w.cps.toList)≠[]:=by simpa using h
 have WR:∀ x∈ws.map (fun w=>w.cps.toList),c∉x:=fun x hx=>by
  obtain ⟨w,hw,rfl⟩:=ZM.mp hx
  exact hf w hw
 have key:=uc hi hu Qs MN hn (ws.map fun w=>w.cps.toList) _ 0 F7 WR (by rw [drop_zero,kX]) hG
 have kk:Builtin.Str.strKind (Str.join y ws) ≥ 1:=by unfold Builtin.Str.strKind;split <;> (try split) <;> decide
 have JD:(∀ k,¬ StrLaws.At (Str.join y ws) y (Str.join y ws).length k)->[Str.join y ws]=ws:=fun Jj=>by
  cases ho:occurrences (Str.join y ws) y 0 (Str.join y ws).length ((Str.join y ws).length+1) with
  | nil =>
   rw [ho] at key
   refine xN (Eq.trans ?_ key)
   show [_]=[_]
   rw [StrLaws.sub_whole]
  | cons d r =>
   rw [ho] at hG
   exact absurd hG.2.1 (Jj d)
 unfold Txt.split
 split
 ·rename_i hc
  rw [Bool.or_eq_true,decide_eq_true_eq,decide_eq_true_eq] at hc
  refine JD fun k hA=>?_
  rcases hc with q|q
  ·have:=hA.1;lia
  ·lia
 ·split
  ·rename_i he
   have e0:=List.isEmpty_iff.mp he
   refine JD fun k hA=>?_
   rw [e0] at hG
   have ef:f=0:=hG
   exact hn k (by lia) hA
  ·rw [StrLaws.partsBetween_eq]
   exact xN key
theorem j6{l y r:Str}{c i:Nat}{u:List Nat}(hi:y.cps.toList[i]?=some c)(hu:y.cps.toList=u++y.cps.toList.drop i)(Qs:u.length=i)(MN:c∉u)(hl:c∉l.cps.toList):Txt.partition (l++y++r) y=(l,y,r):=by
 have ez:(l++y++r).cps.toList=l.cps.toList++(y.cps.toList++r.cps.toList):=by
  show ((l.cps++y.cps)++r.cps).toList=_
  simp
 have Vf:l.cps.toList.length=l.length:=by simp [Str.length]
 have RT:y.cps.toList.length=y.length:=by simp [Str.length]
 have hd:(l++y++r).cps.toList.drop l.length=y.cps.toList++r.cps.toList:=by rw [ez,<- Vf,drop_left]
 have RS:y.length≠0:=fun z=>by
  have:=(Zi.mp hi).1
  lia
 have hA:=at_of RS hd
 have no:∀ k,k<l.length->¬ StrLaws.At (l++y++r) y (l++y++r).length k:=fun k hk hA=>by
  have g:=zy hA hi
  rw [ez] at g
  by_cases h1:k+i<l.length
  ·rw [ZP (by lia)] at g
   exact hl (ZH g)
  ·rw [Zq (by lia),hu,append_assoc,ZP (by lia)] at g
   exact MN (ZH g)
 unfold Txt.partition
 rcases StrLaws.occ_head (l++y++r) y 1 (Zn 1) with ⟨h0,hn⟩|⟨j,q,h0,hj,hn⟩
 ·exact absurd hA (hn _)
 ·rw [h0]
  have e:j=l.length:=by
   rcases Nat.lt_trichotomy j l.length with w|w|w
   ·exact absurd hj (no j w)
   ·exact w
   ·exact absurd hA (hn _ w)
  subst e
  have e1:strSub (l++y++r) 0 l.length=l:=Str.ext' (Array.toList_inj.mp (zA (x:=l.cps.toList) (by rw [drop_zero,ez]) (by rw [Vf,Nat.zero_add])))
  have e2:strSub (l++y++r) (l.length+y.length) (l++y++r).length=r:=by
   refine Str.ext' (Array.toList_inj.mp (zA (x:=r.cps.toList) (r:=[]) ?_ ?_))
   ·rw [<- drop_drop,hd,<- RT,drop_left,append_nil]
   ·rw [PySem.strLen_append,PySem.strLen_append]
    simp [Str.length]
  show (strSub (l++y++r) 0 l.length,y,strSub (l++y++r) (l.length+y.length) (l++y++r).length)=_
  rw [e1,e2]
end aI
namespace L2
open PySem PySem.Spec PyProof.Rows
def b7(K:Frag)(a:Addr)(xs:List V):Prop:=∀ H,aL K H a xs
theorem b7.at{K:Frag}{a:Addr}{xs:List V}{H:Hp}(h:b7 K a xs):aL K H a xs:=h H
theorem ah.lst{H H':Hp}{a:Addr}{xs:List V}(e:ah H H')(h:H a=some (.lst xs)):H' a=some (.lst xs):=e _ _ h
theorem ah.eI{H H2:Hp}{l:Addr}{o:HO}(s:ah H H2)(h:H l=none):ah H (upd H2 l o):=fun b u e=>by
 rw [aG (ba e h)];exact s _ _ e
def MO:V->Hp->(Bool->Hp->Prop)->Prop:=fun x H R=>∃ c,x=.bl c/\R c H
def Ob:V->Hp->(Option Int->Hp->Prop)->Prop:=fun x H R=>∃ i,x=.int i/\R (some i) H
def JE:List V->Hp->VK->Prop:=fun xs H Q=>xs.length<=sizeLine/\∀ p,H p=none->Q (.ref p) (upd H p (.tup xs))
def JF:List V->Hp->VK->Prop:=fun xs H Q=>xs.length<=sizeLine/\∀ p,H p=none->Q (.ref p) (upd H p (.lst xs))
def GW(K:Frag):List V->Hp->VK->Prop:=fun xs H Q=>∃ p ys,xs=[.ref p]/\(bj K H p ys\/aL K H p ys)/\Q (.int ys.length) H
def oS(K:Frag):List V->Hp->VK->Prop:=fun xs H Q=>∃ p ys,xs=[.ref p]/\((bj K H p ys/\∀ l,H l=none->Q (.ref l) (upd H l (.tup ys)))\/(aL K H p ys/\Q (.ref p) H))
def uO(K:Frag):List V->Hp->VK->Prop:=fun xs H Q=>∃ p ys,xs=[.ref p]/\(bj K H p ys\/aL K H p ys)/\∀ l,H l=none->Q (.ref l) (upd H l (.lst ys))
def eJ(K:Frag):List V->Hp->VK->Prop:=fun xs H Q=>∃ x n t b,xs=[x,.ty n]/\Vb K H x t/\kitOne K t (.type n)=some b/\Q (.bl b) H
def Oc:List V->Hp->VK->Prop:=fun xs H Q=>∃ i,xs=[.int i]/\Q (.int (if i<0 then -i else i)) H
def Od:List V->Hp->VK->Prop:=fun xs H Q=>∃ i j,xs=[.int i,.int j]/\Q (.int (if j > i then j else i)) H
def Oe:List V->Hp->VK->Prop:=fun xs H Q=>∃ i j,xs=[.int i,.int j]/\Q (.int (if j<i then j else i)) H
def Of(K:Frag):V->Hp->(It->Hp->Prop)->Prop:=fun x H R=>∃ a,x=.ref a/\(∃ xs,bj K H a xs)/\R (MH K a) H
def Og(K:Frag):V->Hp->(It->Hp->Prop)->Prop:=fun x H R=>∃ a,x=.ref a/\(∃ xs,aL K H a xs)/\R (Dp K a) H
def Oh:List V->Hp->(It->Hp->Prop)->Prop:=fun vs H R=>∃ j:Int,vs=[.int j]/\-(2 ^ 62)<=j/\j<2 ^ 62/\R (Kl 0 j.toNat) H
def Oi(K:Frag)(k1 k2:Bool):List V->Hp->(It->Hp->Prop)->Prop:=fun vs H R=>∃ a b,vs=[.ref a,.ref b]/\(∃ xs,Sq k1 K H a xs)/\(∃ ys,Sq k2 K H b ys)/\R (Jq K k1 k2 a b) H
def Eh(K:Frag)(T:String)(ts:TA)(r:V->List V->Hp->VK->Prop)(σ:St)(Q:VK):V->Hp->Prop:=fun x H1=>KJ K T x H1/\ts σ H1 fun xs H2=>r x xs H2 Q
def Bf(K:Frag)(T:String)(r:V->List V->Hp->VK->Prop)(Q:VK):V->Hp->Prop:=fun x H1=>KJ K T x H1/\r x [] H1 Q
def cW(g:TG)(tb:TS)(D:Ends)(J:It)(σ:St)(H:Hp):Prop:=∃ W:Nat->Nat->St->Hp->Prop,(∃ m,W 0 m σ H)/\∀ i m σ H,W i m σ H ->
 (J.stop i H/\D.nx σ H)\/(J.go i H/\∃ N:St->Hp->Prop,(∀ σ' H',N σ' H'->∃ m',m'<m/\W (i+1) m' σ' H')/\∀ x H',J.Dn i H x H'->g x σ H' fun σ2 H2=>tb { D with nx:=N,ct:=N,bk:=D.nx } σ2 H2)
section
variable {X:Cx}
theorem B4:bM X (.builtin "len") (GW X.K):=uD
theorem xO:bM X (.type "tuple") (oS X.K):=qr
theorem zB:bM X (.type "list") (uO X.K):=uF
theorem uP:bM X (.builtin "isinstance") (eJ X.K):=xG
theorem kY:bM X (.builtin "abs") Oc:=Dy
theorem B5 (hc:X.calm=true):bM X (.builtin "max") Od:=BI hc
theorem ud (hc:X.calm=true):bM X (.builtin "min") Oe:=BJ hc
end
section
variable {t u:TS}{D:Ends}{σ:St}{H:Hp}{te ta tb:TE}{g:TG}{tt tu:TT}{Q:VK}{i j:Int}{x y v w:V}{K:Frag}
theorem Oj(h:t { D with nx:=u D } σ H):Nq t u D σ H:=h
theorem Ol(h:te σ H fun x H1=>g x σ H1 D.nx):Gr te g D σ H:=h
theorem GX{n:Nat}{R:St->Hp->Prop}(h:R (σ.set n (some v)) H):br n v σ H R:=h
theorem Om(h:te σ H D.rt):Kh te D σ H:=h
theorem Lc(h:te σ H fun _ H1=>D.nx σ H1):Jd te D σ H:=h
theorem Ld(h:D.nx σ H):Jc D σ H:=h
theorem Oo{c:TT}(h:c σ H fun b H1=>if b=true then t D σ H1 else u D σ H1):Nr c t u D σ H:=h
theorem Oq{n:Nat}(e:σ[n]?=some (some v))(h:Q v H):Dk n σ H Q:=⟨v,e,h⟩
theorem WS(h:Q v H):tC v σ H Q:=h
theorem RU{r:R2}(h:ta σ H fun x H1=>tb σ H1 fun y H2=>r x y H2 Q):MI r ta tb σ H Q:=h
theorem RV{r:V->Hp->VK->Prop}(h:ta σ H fun x H1=>r x H1 Q):UX r ta σ H Q:=h
theorem WT{R:Bool->Hp->Prop}(h:te σ H fun x H1=>MO x H1 R):tB te σ H R:=h
theorem Le{R:Bool->Hp->Prop}(h:te σ H fun x H1=>MO x H1 R):Dv te σ H R:=h
theorem Lf{b:Bool}{R:Bool->Hp->Prop}(h:R b H):MO (.bl b) H R:=⟨b,rfl,h⟩
theorem Ot{R:Bool->Hp->Prop}(h:tt σ H fun c H1=>if c=true then tu σ H1 R else R false H1):Nl tt tu σ H R:=h
theorem RW{R:Bool->Hp->Prop}(h:tt σ H fun c H1=>if c=true then R true H1 else tu σ H1 R):US tt tu σ H R:=h
theorem Ou{R:Bool->Hp->Prop}(h:tt σ H fun c H1=>R (!c) H1):Nm tt σ H R:=h
theorem Lg(h:ta σ H fun x H1=>MO x H1 fun c H2=>if c=true then tb σ H2 Q else Q (.bl false) H2):Ja ta tb σ H Q:=h
theorem Ov(h:ta σ H fun x H1=>MO x H1 fun c H2=>if c=true then Q (.bl true) H2 else tb σ H2 Q):Nn ta tb σ H Q:=h
theorem Lh(h:ta σ H fun x H1=>MO x H1 fun c H2=>Q (.bl (!c)) H2):Jb ta σ H Q:=h
theorem Ow(h:tt σ H fun c H1=>if c=true then ta σ H1 Q else tb σ H1 Q):UT tt ta tb σ H Q:=h
theorem RX{f:Int->Int->V}(h:Q (f i j) H):Gw f (.int i) (.int j) H Q:=⟨i,j,rfl,rfl,h⟩
theorem RY{C:Int->Int->Prop}{f:Int->Int->V}(c:C i j)(h:Q (f i j) H):rI C f (.int i) (.int j) H Q:=⟨i,j,rfl,rfl,c,h⟩
theorem WU{f:Int->V}(h:Q (f i) H):rU f (.int i) H Q:=⟨i,rfl,h⟩
theorem Ox{i j:Int}:decide (V.int i=V.int j)=decide (i=j):=by
 by_cases e:i=j
 ·subst e;simp
 ·rw [Zu e];exact Zu fun z=>e (by injection z)
theorem Oy(h:Q (.bl (decide (i=j))) H):Q9 (.int i) (.int j) H Q:=⟨rfl,by rw [Ox];exact h⟩
theorem Oz(h:Q (.bl (!decide (i=j))) H):Ra (.int i) (.int j) H Q:=⟨rfl,by rw [Ox];exact h⟩
theorem OA{R:List V->Hp->Prop}(h:R [] H):Nz σ H R:=h
theorem Li{ts:TA}{R:List V->Hp->Prop}(h:te σ H fun x H1=>ts σ H1 fun xs H2=>R (x::xs) H2):Jh te ts σ H R:=h
theorem OB{ts:TA}(h:ts σ H fun xs H1=>JE xs H1 Q):NA ts σ H Q:=h
theorem OC{ts:TA}(h:ts σ H fun xs H1=>JF xs H1 Q):NB ts σ H Q:=h
theorem Lj{xs:List V}(hl:xs.length<=1000)(h:∀ p H2,ah H H2->H2 p=some (.tup xs)->Q (.ref p) H2):JE xs H Q :=
 ⟨Zo (cQ hl),fun p hp=>h p _ (ah.aY hp) aB⟩
theorem Lk{xs:List V}(hl:xs.length<=1000)(h:∀ p H2,H p=none->ah H H2->H2 p=some (.lst xs)->Q (.ref p) H2):JF xs H Q :=
 ⟨Zo (cQ hl),fun p hp=>h p _ hp (ah.aY hp) aB⟩
theorem RZ{r:List V->Hp->VK->Prop}{ts:TA}(h:ts σ H fun vs H1=>r vs H1 Q):Rh r ts σ H Q:=h
theorem Ll{ix:List (Option Nat)}{wi:TI}(h:wi σ H fun J H1=>bT ix g tt te σ Q J H1):DS ix wi g tt te σ H Q:=h
theorem R0{r:V->Option Int->Option Int->Hp->VK->Prop}{tl th:TO}(h:te σ H fun x H1=>tl σ H1 fun l H2=>th σ H2 fun u H3=>r x l u H3 Q):U2 r te tl th σ H Q:=h
theorem Ei{R:Option Int->Hp->Prop}(h:R none H):A0 σ H R:=h
theorem Lm{R:Option Int->Hp->Prop}(h:te σ H fun x H1=>Ob x H1 R):Jk te σ H R:=h
theorem GY{R:Option Int->Hp->Prop}(h:R (some i) H):Ob (.int i) H R:=⟨i,rfl,h⟩
theorem R1{T:String}{r:V->List V->Hp->VK->Prop}{ts:TA}(h:te σ H fun x H1=>Eh K T ts r σ Q x H1):U3 K T r te ts σ H Q:=h
theorem OD{T:String}{r:V->List V->Hp->VK->Prop}(h:te σ H fun x H1=>Bf K T r Q x H1):NJ K T r te σ H Q:=h
theorem OE{wi:TI}{tb:TS}(h:wi σ H fun J H1=>cW g tb D J σ H1):Nw wi g tb D σ H:=h
theorem GZ{R:It->Hp->Prop}(h:te σ H fun x H1=>Of K x H1 R):Dq K te σ H R:=h
theorem Ln{R:It->Hp->Prop}(h:te σ H fun x H1=>Og K x H1 R):Km K te σ H R:=h
theorem Lo{ts:TA}{R:It->Hp->Prop}(h:ts σ H fun vs H1=>Oh vs H1 R):Jg ts σ H R:=h
theorem Lp{k1 k2:Bool}{ts:TA}{R:It->Hp->Prop}(h:ts σ H fun vs H1=>Oi K k1 k2 vs H1 R):DY K k1 k2 ts σ H R:=h
theorem OF{a:Addr}{xs:List V}{R:It->Hp->Prop}(e:bj K H a xs)(h:R (MH K a) H):Of K (.ref a) H R:=⟨a,rfl,⟨_,e⟩,h⟩
theorem OG{a:Addr}{xs:List V}{R:It->Hp->Prop}(e:aL K H a xs)(h:R (Dp K a) H):Og K (.ref a) H R:=⟨a,rfl,⟨_,e⟩,h⟩
theorem OH{R:It->Hp->Prop}(h1:-1000000<=j)(h2:j<=1000000)(h:R (Kl 0 j.toNat) H):Oh [.int j] H R:=⟨j,rfl,by lia,by lia,h⟩
theorem OI{k1 k2:Bool}{a b:Addr}{xs ys:List V}{R:It->Hp->Prop}(e1:Sq k1 K H a xs)(e2:Sq k2 K H b ys)(h:R (Jq K k1 k2 a b) H):Oi K k1 k2 [.ref a,.ref b] H R:=⟨a,b,rfl,⟨_,e1⟩,⟨_,e2⟩,h⟩
theorem oU{a:Addr}{xs:List V}(h:aL K H a xs):Sq true K H a xs:=h
theorem cC{a:Addr}{xs:List V}(h:bj K H a xs):Sq false K H a xs:=h
theorem ue{a:Addr}{xs:List V}(e:aL K H a xs)(n:tU xs i=some v)(h:Q v H):Qm K (.ref a) (.int i) H Q:=.inr (.inl ⟨a,xs,i,v,rfl,rfl,e,n,h⟩)
theorem nq{a:Addr}{xs:List V}(e:bj K H a xs)(n:tU xs i=some v)(h:Q v H):Qm K (.ref a) (.int i) H Q:=.inl ⟨a,xs,i,v,rfl,rfl,e,n,h⟩
theorem Lq{a:Addr}{xs:List V}(e:aL K H a xs)(h:Q (.int xs.length) H):GW K [.ref a] H Q:=⟨a,xs,rfl,.inr e,h⟩
theorem Lr{a:Addr}{xs:List V}(e:bj K H a xs)(h:Q (.int xs.length) H):GW K [.ref a] H Q:=⟨a,xs,rfl,.inl e,h⟩
theorem oV{a:Addr}{xs:List V}(e:bj K H a xs)(h:∀ p H2,ah H H2->H2 p=some (.tup xs)->Q (.ref p) H2):oS K [.ref a] H Q :=
 ⟨a,xs,rfl,.inl ⟨e,fun p hp=>h p _ (ah.aY hp) aB⟩⟩
theorem G4{a:Addr}{xs:List V}(e:bj K H a xs)(h:∀ p H2,H p=none->ah H H2->H2 p=some (.lst xs)->Q (.ref p) H2):uO K [.ref a] H Q:=⟨a,xs,rfl,.inl e,fun p hp=>h p _ hp (ah.aY hp) aB⟩
theorem OJ(h:Q (.int (if i<0 then -i else i)) H):Oc [.int i] H Q:=⟨i,rfl,h⟩
theorem OK(h:Q (.int (if j > i then j else i)) H):Od [.int i,.int j] H Q:=⟨i,j,rfl,h⟩
theorem OL(h:Q (.int (if j<i then j else i)) H):Oe [.int i,.int j] H Q:=⟨i,j,rfl,h⟩
theorem G5{T:String}{ts:TA}{r:V->List V->Hp->VK->Prop}(e:KJ K T x H)(h:ts σ H fun xs H2=>r x xs H2 Q):Eh K T ts r σ Q x H:=⟨e,h⟩
theorem Ej{T:String}{r:V->List V->Hp->VK->Prop}(e:KJ K T x H)(h:r x [] H Q):Bf K T r Q x H:=⟨e,h⟩
theorem cX{l:Addr}{xs:List V}(e:H l=some (.lst xs))(n:xs.length<=1000)(h:Q .dj (upd H l (.lst (xs++[y])))):A1 (.ref l) [y] H Q:=⟨l,xs,y,rfl,rfl,e,cQ n,h⟩
theorem OM{a b:Addr}{xs ys:List V}(e1:H a=some (.lst xs))(e2:H b=some (.lst ys))(n:xs.length+ys.length<=1000)(h:∀ p H2,H p=none->ah H H2->H2 p=some (.lst (xs++ys))->Q (.ref p) H2):NL (.ref a) (.ref b) H Q :=
 ⟨a,b,xs,ys,rfl,rfl,e1,e2,Zo (cQ n),fun p hp=>h p _ hp (ah.aY hp) aB⟩
theorem Ls{a b:Addr}{xs ys:List V}(e1:aL K H a xs)(e2:aL K H b ys)(n1:xs≠[])(n2:ys≠[])(n:xs.length+ys.length<=1000)(h:∀ p H2,ah H H2->H2 p=some (.tup (xs++ys))->Q (.ref p) H2):DE K (.ref a) (.ref b) H Q :=
 ⟨a,b,xs,ys,rfl,rfl,e1,e2,n1,Zo (cQ n),fun z=>absurd z n2,fun _ p hp=>h p _ (ah.aY hp) aB⟩
theorem ON{a:Addr}{xs:List V}{lo hi:Option Int}(e:aL K H a xs)(n:¬ (HT.eF xs.length 0 lo=0/\HT.eF xs.length xs.length hi=xs.length))(h:∀ p H2,ah H H2->H2 p=some (.tup (zm xs lo hi))->Q (.ref p) H2):GB K (.ref a) lo hi H Q :=
 ⟨a,xs,rfl,e,n,fun p hp=>h p _ (ah.aY hp) aB⟩
theorem Lu {a:Addr} {xs:List V} {n:String} {b:Bool} (e:aL K H a xs) (k:kitOne K (.type "tuple") (.type n)=some b) (h:Q (.bl b) H):eJ K [.ref a,.ty n] H Q:=⟨_,n,_,b,rfl,.inr (.inl ⟨a,xs,rfl,e,rfl⟩),k,h⟩
theorem Lv {a:Addr} {xs:List V} {n:String} {b:Bool} (e:bj K H a xs) (k:kitOne K (.type "list") (.type n)=some b) (h:Q (.bl b) H):eJ K [.ref a,.ty n] H Q:=⟨_,n,_,b,rfl,.inr (.inr ⟨a,xs,rfl,e,rfl⟩),k,h⟩
theorem Lw {n:String} {b:Bool} (k:kitOne K (.type "int") (.type n)=some b) (h:Q (.bl b) H):eJ K [.int i,.ty n] H Q:=⟨_,n,_,b,rfl,.inl (.int _),k,h⟩
theorem Lx {c:Bool} {n:String} {b:Bool} (k:kitOne K (.type "bool") (.type n)=some b) (h:Q (.bl b) H):eJ K [.bl c,.ty n] H Q:=⟨_,n,_,b,rfl,.inl (.bl _),k,h⟩
theorem JG{a:Addr}{xs:List V}{tb:TS}(Pv:Nat->St->Hp->Prop)(h0:Pv 0 σ H)(hl:∀ i σ H,i<=xs.length->Pv i σ H->aL K H a xs)
  (hs:∀ i x σ H,xs[i]?=some x->Pv i σ H->g x σ H fun σ2 H2=>tb { D with nx:=Pv (i+1),ct:=Pv (i+1),bk:=D.nx } σ2 H2) (hd:∀ σ H,Pv xs.length σ H->D.nx σ H):cW g tb D (Dp K a) σ H:=AR Pv h0 hl hs hd
theorem OO{J:It}{tb:TS}(n:Nat)(Pv:Nat->St->Prop)(h0:Pv 0 σ)(D0:∀ i H2,i<n->ah H H2->J.go i H2)(gE:∀ H2,ah H H2->J.stop n H2)
  (hs:∀ i x σ H2 H3,i<n->Pv i σ->ah H H2->J.Dn i H2 x H3->g x σ H3 fun σ2 H4=>tb { D with nx:=fun σ' H'=>Pv (i+1) σ'/\ah H H',ct:=fun σ' H'=>Pv (i+1) σ'/\ah H H',bk:=D.nx } σ2 H4) (hd:∀ σ H2,Pv n σ->ah H H2->D.nx σ H2):cW g tb D J σ H:=by
 refine⟨fun i m σ2 H2=>m=n - i/\i<=n/\Pv i σ2/\ah H H2,⟨n,by simp,ZZ _,h0,ah.refl _⟩,?_⟩
 rintro i m σ2 H2 ⟨rfl,hi,p,s⟩
 by_cases jn:i<n
 ·exact .inr ⟨D0 i H2 jn s,fun σ' H'=>Pv (i+1) σ'/\ah H H',fun σ' H' p'=>⟨n - (i+1),by lia,rfl,jn,p'.1,p'.2⟩,fun x H' y=>hs i x σ2 H2 H' jn p s y⟩
 ·have e:i=n:=by lia
  subst e
  exact .inl ⟨gE H2 s,hd σ2 H2 p s⟩
theorem OP{k1 k2:Bool}{a b:Addr}{xs ys:List V}{m n:Nat}{tb:TS}(ha:Sq k1 K H a xs)(hb:Sq k2 K H b ys)(hlen:xs.length=ys.length)(Pv:Nat->St->Prop)(h0:Pv 0 σ)
  (hs:∀ i x y σ H2,xs[i]?=some x->ys[i]?=some y->Pv i σ->ah H H2->tb { D with nx:=fun σ' H'=>Pv (i+1) σ'/\ah H H',ct:=fun σ' H'=>Pv (i+1) σ'/\ah H H',bk:=D.nx } ((σ.set m (some x)).set n (some y)) H2)
  (hd:∀ σ H2,Pv xs.length σ->ah H H2->D.nx σ H2):cW (ox K 2 (cw (br m) (cw (br n) qq))) tb D (Jq K k1 k2 a b) σ H:=by
 refine OO xs.length Pv h0 (fun i H2 hi s=>?_) (fun H2 s=>?_) (fun i x σ H2 H3 hi p s hy=>?_) hd
 ·exact⟨_,_,xs[i],ys[i]'(hlen ▸ hi),s.sq ha,s.sq hb,ZC hi,ZC (hlen ▸ hi)⟩
 ·exact⟨_,_,s.sq ha,s.sq hb,.inl (Zn _)⟩
 ·obtain ⟨q,x',y',rfl,hq,e1,e2,rfl⟩:=hy
  refine⟨q,_,rfl,aL.of aB,rfl,_,_,rfl,_,_,rfl,rfl,?_⟩
  have s2:ah H2 (upd H2 q (.tup [x',y'])):=ah.aY hq
  exact hs i x' y' σ _ (e1 _ (s.sq ha)) (e2 _ (s.sq hb)) p (s.trans s2)
end
theorem gF{c:Bool}{A B:Prop}(e:c=true)(h:A):if c=true then A else B:=by rw [if_pos e];exact h
theorem cY{c:Bool}{A B:Prop}(e:c=false)(h:B):if c=true then A else B:=by rw [e];exact DR h
theorem cu{c:Bool}{A B:Prop}(h1:c=true->A)(h2:c=false->B):if c=true then A else B:=by
 cases c with
 | true=>exact ja (h1 rfl)
 | false=>exact DR (h2 rfl)
section
variable {t u:TS}{D:Ends}{σ:St}{H:Hp}{te ta tb:TE}{g:TG}{tt tu:TT}{Q:VK}{i j:Int}{x y v w:V}{K:Frag}{X:Cx}
theorem G6{sp:Sp}{E:XK}{ts:TA}(h:ts σ H fun vs H1=>sp vs H1 Q E):AW sp [] E ts σ H Q:=by
 unfold AW
 simp only [append_nil]
 exact h
def Vg(tb:TS)(D:Ends)(W:Nat->St->Hp->Prop)(m:Nat)(σ:St)(H1:Hp):Prop:=∃ N:St->Hp->Prop,(∀ σ' H',N σ' H'->∃ m',m'<m/\W m' σ' H')/\tb { D with nx:=N,ct:=N,bk:=D.nx } σ H1
theorem uQ{c:TT}{tb:TS}(W:Nat->St->Hp->Prop)(m:Nat)(h0:W m σ H)(hs:∀ m σ H,W m σ H->c σ H fun b H1=>if b=true then Vg tb D W m σ H1 else D.nx σ H1):Dm c tb D σ H:=⟨W,⟨m,h0⟩,hs⟩
theorem Ly{tb:TS}{W:Nat->St->Hp->Prop}{m:Nat}(h:tb { D with nx:=fun σ' H'=>∃ m',m'<m/\W m' σ' H',ct:=fun σ' H'=>∃ m',m'<m/\W m' σ' H',bk:=D.nx } σ H):Vg tb D W m σ H:=⟨_,fun _ _ z=>z,h⟩
theorem Lz{a:Addr}{xs:List V}{tb:TS}(ha:aL K H a xs)(Pv:Nat->St->Prop)(h0:Pv 0 σ)(hs:∀ i x σ,xs[i]?=some x->Pv i σ->g x σ H fun σ2 H4=>tb { D with nx:=fun σ' H'=>Pv (i+1) σ'/\H'=H,ct:=fun σ' H'=>Pv (i+1) σ'/\H'=H,bk:=D.nx } σ2 H4)
  (hd:∀ σ,Pv xs.length σ->D.nx σ H):cW g tb D (Dp K a) σ H:=by
 refine AR (xs:=xs) (fun i σ2 H2=>Pv i σ2/\H2=H) ⟨h0,rfl⟩ (fun i σ2 H2 _ p=>?_) (fun i x σ2 H2 hi p=>?_) (fun σ2 H2 p=>?_)
 ·obtain ⟨p,rfl⟩:=p
  exact ha
 ·obtain ⟨p,rfl⟩:=p
  exact hs i x σ2 hi p
 ·obtain ⟨p,rfl⟩:=p
  exact hd σ2 p
end
section
variable {X:Cx}(K:Frag)(hK:X.K=K)
include hK
theorem fU:bM X (.builtin "len") (GW K):=hK ▸ B4
theorem gG:bM X (.type "tuple") (oS K):=hK ▸ xO
theorem G7:bM X (.type "list") (uO K):=hK ▸ zB
theorem bP:bM X (.builtin "isinstance") (eJ K):=hK ▸ uP
theorem ay:DF X (Qm K):=hK ▸ KI
theorem G8:Ql X (GB K):=hK ▸ KA
theorem Ek:gz X (binaryOp .Add) (DE K):=hK ▸ GC
theorem b8{tg l:Expr}{tl:TE}(hl:PE X l tl):PI X tg l (Dq K tl):=hK ▸ Gu hl
theorem j7{tg l:Expr}{tl:TE}(hl:PE X l tl):PI X tg l (Km K tl):=hK ▸ Ko hl
theorem d8 (k1 k2:Bool) {es:List Expr} {kk:Nat} {oI:Pos} {a b:Expr} {ta:TA} {p pos:Pos} (hg:Gl X "zip") (hm:X.mg "zip"=none) (ha:PA X [a,b] ta) (hs:starEach [a,b] X.env=[(false,eval a X.env),(false,eval b X.env)]:=by rfl) (eE:starEach [b] X.env=[(false,eval b X.env)]:=by rfl) :
  PI X (.Tuple es kk oI) (.Call (.Name "zip" p) [a,b] [] pos) (DY K k1 k2 ta):=hK ▸ GR k1 k2 hg hm ha hs eE
theorem bY{es:List Expr}{k:Nat}{t:Je}{n:Nat}{pos:Pos}(hc:X.calm=true)(h:Nu X es t)
  (hn:(assignEach es X.env).length=n:=by rfl) (Jf:(assignEach es X.env).findIdx? (·.1)=none:=by rfl):PG X (.Tuple es k pos) (ox K n t):=hK ▸ Kj hc h hn Jf
end
end L2
namespace BZ
theorem og(x:Int):L2.t7 x=bl x:=rfl
end BZ
namespace L2
open PySem PySem.Spec PyProof.Rows
section
variable {H:Hp}{Q:VK}{K:Frag}
theorem El(x:V)(xs:List V):zm (x::xs) (some 1) none=xs:=by
 have e:HT.eF (x::xs).length 0 (some 1)=1:=by
  have h:=HT.AX (x::xs).length 0 1
  simp only [length_cons] at h ⊢
  have h2:min 1 (xs.length+1)=1:=by lia
  rw [h2] at h
  exact h
 unfold zm
 rw [e,HT.DB]
 simp
theorem LA{a:Addr}{x:V}{xs:List V}(e:aL K H a (x::xs))(h:∀ p H2,ah H H2->H2 p=some (.tup xs)->Q (.ref p) H2):GB K (.ref a) (some 1) none H Q :=
 ON e (fun z=>by
  have h2:=HT.AX (x::xs).length 0 1
  have h3:HT.eF (x::xs).length 0 (some 1)=min 1 (x::xs).length:=h2
  rw [h3] at z
  have:=z.1
  simp only [length_cons] at this
  lia) fun p H2 s m=>h p H2 s (by rw [El] at m;exact m)
end
end L2
namespace PySem.F
theorem oW (a b c:Value):checkTypeCall "zip" ⟨[a,b,c],[]⟩=pure ():=by kernel_rfl
theorem qv (a b c:Value):checkBuiltinCall "zip.__new__" ⟨[.type "zip",a,b,c],[]⟩=pure ():=by kernel_rfl
end PySem.F
namespace L2
open PySem
section
variable {prog:Program}{w:World}{A:Around}{E:Value->Shared->Prop}{s:Shared}
structure xP(k1 k2 k3:Bool)(n a b c:Nat)(i:Nat)(f0:Value)(h:Heap):Prop where
 z:IsZip h (n+5) (n+3) (n+4) f0
 ti:IsT h (n+3) #[.ref n,.ref (n+1),.ref (n+2)]
 to:∃ u v x,IsT h (n+4) #[u,v,x]
 i1:gw k1 h n a i
 i2:gw k2 h (n+1) b i
 i3:gw k3 h (n+2) c i
theorem B6{k1 k2 k3:Bool}{n a b c:Nat}{i:Nat}{xs ys zs:Array Value}{x y zz:Value}{Q:Value->Shared->Prop}(Z:xP k1 k2 k3 n a b c i .none s.heap)(ha:a<n)(hb:b<n)(hc:c<n)
  (h1:aX k1 s.heap a xs) (h2:aX k2 s.heap b ys) (h3:aX k3 s.heap c zs) (hx:xs[i]?=some x) (hy:ys[i]?=some y) (R3:zs[i]?=some zz)
  (hQ:∀ h',xP k1 k2 k3 n a b c (i+1) (rawInt s.heap.objs.size) h'->IsT h' s.heap.objs.size #[x,y,zz]->h'.objs.size=s.heap.objs.size+1->Off [n,n+1,n+2,n+4,n+5] s.heap h'->Q (.ref s.heap.objs.size) { s with heap:=h' }) :
  wpAny (model prog w) A (Builtin.«zip.__next__» ⟨[.ref (n+5)],[]⟩) (fun fin s'=>∃ v,fin=.done (.ret v)/\Q v s') E s:=by
 obtain ⟨hz,xB,⟨u,v,x0,A4⟩,yW,t6,MP⟩:=Z
 show wpAny _ _ (field (.ref (n+5)) 2 >>= _) _ _ _
 refine Zg (wpAny_field hz rfl (x:=.bool false) rfl ?_)
 show wpAny _ _ (field (.ref (n+5)) 3 >>= _) _ _ _
 refine Zg (wpAny_field hz rfl (x:=.ref (n+3)) rfl ?_)
 refine Zg (wpAny_seqItems xB rfl ?_)
 show wpAny _ _ (Builtin.SmallTypes.ownedTupleIsFree (.ref (n+5)) >>= _) _ _ _
 refine Zg ?_
 unfold Builtin.SmallTypes.ownedTupleIsFree
 refine Zg (wpAny_field hz rfl (x:=.none) rfl (Zy ?_))
 simp only [if_true]
 refine Zg (wpAny_rule ?_)
 refine Zg (wpAny_field hz rfl (x:=.ref (n+4)) rfl ?_)
 refine Zg (wpAny_setField_rec hz (by simp) fun g1 yX kT=>?_)
 replace yX:IsZip g1 (n+5) (n+3) (n+4) .ellipsis:=yX
 refine Zg ?_
 simp only [zipIdx_cons,zipIdx_nil,forIn_cons,forIn_nil]
 refine Zg (Zg (wpAny_onRaise ?_))
 show wpAny _ _ (Builtin.SmallTypes.nextOf (.ref n) >>= _) _ _ _
 refine Zg (d7 (yW.keep fun o e=>(kT.2 _ (bI (by lia))).trans e) (h1.keep fun o e=>(kT.2 _ (bI (by lia))).trans e) hx fun g2 GO eE=>Zy ?_)
 have OQ:∀ d o,d≠n+5->d≠n->s.heap.get? d=some o->g2.get? d=some o:=fun d o d1 d2 e=>(eE.2 _ d2).trans ((kT.2 _ d1).trans e)
 have xC:IsT g2 (n+4) #[u,v,x0]:=OQ _ _ (bI (by lia)) (bI (by lia)) A4
 refine Zg (wpAny_seqItems xC rfl ?_)
 refine Zg (iL xC (by simp) fun g3 xD t5=>?_)
 replace xD:IsT g3 (n+4) #[x,v,x0]:=xD
 refine Zg (wpAny_letGo (Zy ?_))
 refine Zg (Zg (wpAny_onRaise ?_))
 show wpAny _ _ (Builtin.SmallTypes.nextOf (.ref (n+1)) >>= _) _ _ _
 refine Zg (d7 (t6.keep fun o e=>(t5.2 _ (bI (by lia))).trans (OQ _ _ (bI (by lia)) (bI (by lia)) e)) (h2.keep fun o e=>(t5.2 _ (bI (by lia))).trans (OQ _ _ (bI (by lia)) (bI (by lia)) e)) hy fun g4 K4 Dd=>Zy ?_)
 have Qt:∀ d o,d≠n+4->d≠n+1->g2.get? d=some o->g4.get? d=some o:=fun d o d1 d2 e=>(Dd.2 _ d2).trans ((t5.2 _ d1).trans e)
 have DU:IsT g4 (n+4) #[x,v,x0]:=(Dd.2 _ (bI (by lia))).trans xD
 refine Zg (wpAny_seqItems DU rfl ?_)
 refine Zg (iL DU (by simp) fun g5 xE F6=>?_)
 replace xE:IsT g5 (n+4) #[x,y,x0]:=xE
 refine Zg (wpAny_letGo (Zy ?_))
 refine Zg (Zg (wpAny_onRaise ?_))
 show wpAny _ _ (Builtin.SmallTypes.nextOf (.ref (n+2)) >>= _) _ _ _
 refine Zg (d7 (MP.keep fun o e=>(F6.2 _ (bI (by lia))).trans (Qt _ _ (bI (by lia)) (bI (by lia)) (OQ _ _ (bI (by lia)) (bI (by lia)) e))) (h3.keep fun o e=>(F6.2 _ (bI (by lia))).trans (Qt _ _ (bI (by lia)) (bI (by lia)) (OQ _ _ (bI (by lia)) (bI (by lia)) e))) R3 fun g6 R4 R5=>Zy ?_)
 have R6:∀ d o,d≠n+4->d≠n+2->g4.get? d=some o->g6.get? d=some o:=fun d o d1 d2 e=>(R5.2 _ d2).trans ((F6.2 _ d1).trans e)
 have OR:IsT g6 (n+4) #[x,y,x0]:=(R5.2 _ (bI (by lia))).trans xE
 refine Zg (wpAny_seqItems OR rfl ?_)
 refine Zg (iL OR (by simp) fun g7 G9 GP=>?_)
 replace G9:IsT g7 (n+4) #[x,y,zz]:=G9
 refine Zg (wpAny_letGo (Zy (Zy ?_)))
 refine Zg (wpAny_seqItems G9 rfl ?_)
 refine Zg (wpAny_newTuple ?_)
 have jq:g7.objs.size=s.heap.objs.size:=by rw [GP.1,R5.1,F6.1,Dd.1,t5.1,eE.1,kT.1]
 have OS:∀ d o,d≠n->d≠n+1->d≠n+2->d≠n+4->g1.get? d=some o->g7.get? d=some o:=fun d o d0 d1 d2 d4 e=>(GP.2 _ d4).trans (R6 _ _ d4 d2 (Qt _ _ d4 d1 ((eE.2 _ d0).trans e)))
 have MK:IsZip g7 (n+5) (n+3) (n+4) .ellipsis:=OS _ _ (bI (by lia)) (bI (by lia)) (bI (by lia)) (bI (by lia)) yX
 have OT:Off [n,n+1,n+2,n+4,n+5] s.heap g7:=fun d o hd e=>by
  simp only [ZL,not_mem_nil,or_false,not_or] at hd
  exact OS d o hd.1 hd.2.1 hd.2.2.1 hd.2.2.2.1 ((kT.2 _ hd.2.2.2.2).trans e)
 have DV:n+5<g7.objs.size:=Zj MK
 show wpAny _ _ (Builtin.SmallTypes.ownedTupleHandOut (.ref (n+5)) (.ref g7.objs.size) >>= _) _ _ _
 refine Zg ?_
 unfold Builtin.SmallTypes.ownedTupleHandOut
 have ML:IsZip (g7.push { cls:=.type "tuple",data:=.seq #[x,y,zz] }) (n+5) (n+3) (n+4) .ellipsis:=Zf _ MK
 refine Zg (wpAny_setField_rec ML (by simp) fun g9 R7 GQ=>?_)
 replace R7:IsZip g9 (n+5) (n+3) (n+4) (rawInt g7.objs.size):=R7
 refine wpAny_setField_rec R7 (by simp) fun gA Qu R8=>?_
 replace Qu:IsZip gA (n+5) (n+3) (n+4) (rawInt g7.objs.size):=Qu
 have up:∀ d o,d≠n+5->g7.get? d=some o->gA.get? d=some o:=fun d o d1 e=>(R8.2 _ d1).trans ((GQ.2 _ d1).trans (Zf _ e))
 have Vh:IsT gA g7.objs.size #[x,y,zz]:=(R8.2 _ (Nat.ne_of_gt DV)).trans ((GQ.2 _ (Nat.ne_of_gt DV)).trans (Zk _ rfl))
 have OU:gA.objs.size=g7.objs.size+1:=by rw [R8.1,GQ.1,Heap.size_push]
 rw [jq] at Qu Vh OU
 refine Zy ⟨_,rfl,?_⟩
 show Q (.ref g7.objs.size) _
 rw [jq]
 refine hQ gA ⟨Qu,up _ _ (bI (by lia)) (OT _ _ (by simp) xB),⟨x,y,zz,up _ _ (bI (by lia)) G9⟩,?_,?_,?_⟩ Vh OU fun d o hd e=>?_
 ·exact GO.keep fun o e=>up _ o (bI (by lia)) ((GP.2 _ (bI (by lia))).trans (R6 _ _ (bI (by lia)) (bI (by lia)) (Qt _ _ (bI (by lia)) (bI (by lia)) e)))
 ·exact K4.keep fun o e=>up _ o (bI (by lia)) ((GP.2 _ (bI (by lia))).trans (R6 _ _ (bI (by lia)) (bI (by lia)) e))
 ·exact R4.keep fun o e=>up _ o (bI (by lia)) ((GP.2 _ (bI (by lia))).trans e)
 ·exact up d o (fun z=>hd (by simp [z])) (OT d o hd e)
theorem B7{k1 k2 k3:Bool}{n a b c:Nat}{i:Nat}{xs:Array Value}{Q:Fin->Shared->Prop}(hh:A.handled=none)(Z:xP k1 k2 k3 n a b c i .none s.heap)(ha:a<n)
  (h1:aX k1 s.heap a xs) (hx:xs[i]?=none)
  (hE:∀ h' e,Off [n,n+1,n+2,n+4,n+5] s.heap h'->(∃ o,h'.get? e=some o/\o.cls=.type "StopIteration")->E (.ref e) { s with heap:=h' }) :
  wpAny (model prog w) A (Builtin.«zip.__next__» ⟨[.ref (n+5)],[]⟩) Q E s:=by
 obtain ⟨hz,xB,⟨u,v,x0,A4⟩,yW,t6,MP⟩:=Z
 show wpAny _ _ (field (.ref (n+5)) 2 >>= _) _ _ _
 refine Zg (wpAny_field hz rfl (x:=.bool false) rfl ?_)
 show wpAny _ _ (field (.ref (n+5)) 3 >>= _) _ _ _
 refine Zg (wpAny_field hz rfl (x:=.ref (n+3)) rfl ?_)
 refine Zg (wpAny_seqItems xB rfl ?_)
 show wpAny _ _ (Builtin.SmallTypes.ownedTupleIsFree (.ref (n+5)) >>= _) _ _ _
 refine Zg ?_
 unfold Builtin.SmallTypes.ownedTupleIsFree
 refine Zg (wpAny_field hz rfl (x:=.none) rfl (Zy ?_))
 simp only [if_true]
 refine Zg (wpAny_rule ?_)
 refine Zg (wpAny_field hz rfl (x:=.ref (n+4)) rfl ?_)
 refine Zg (wpAny_setField_rec hz (by simp) fun g1 yX kT=>?_)
 replace yX:IsZip g1 (n+5) (n+3) (n+4) .ellipsis:=yX
 refine Zg ?_
 simp only [zipIdx_cons,zipIdx_nil,forIn_cons,forIn_nil]
 refine Zg (Zg (wpAny_onRaise ?_))
 show wpAny _ _ (Builtin.SmallTypes.nextOf (.ref n) >>= _) _ _ _
 refine Zg (n9 hh (yW.keep fun o e=>(kT.2 _ (bI (by lia))).trans e) (h1.keep fun o e=>(kT.2 _ (bI (by lia))).trans e) hx fun g2 e eE he=>?_)
 obtain ⟨oe,K5,N4⟩:=he
 have Jo:IsZip g2 (n+5) (n+3) (n+4) .ellipsis:=eE _ _ (bI (by lia)) yX
 have RL:e≠n+5:=fun z=>by subst z;rw [Jo] at K5;cases K5;simp at N4
 exact wpAny_setField_rec Jo (by simp) fun g9 _ GQ=>hE g9 e (((Off.of kT (by simp)).trans fun d o hd q=>eE d o (fun z=>hd (by simp [z])) q).trans (Off.of GQ (by simp))) ⟨oe,(GQ.2 _ RL).trans K5,N4⟩
theorem xQ{k1 k2 k3:Bool}{n a b c:Nat}{i:Nat}{xs ys zs:Array Value}{x y zz:Value}{Q:Option Value->Shared->Prop}(Z:xP k1 k2 k3 n a b c i .none s.heap)(ha:a<n)(hb:b<n)(hc:c<n)
  (h1:aX k1 s.heap a xs) (h2:aX k2 s.heap b ys) (h3:aX k3 s.heap c zs) (hx:xs[i]?=some x) (hy:ys[i]?=some y) (R3:zs[i]?=some zz)
  (hQ:∀ h',xP k1 k2 k3 n a b c (i+1) (rawInt s.heap.objs.size) h'->IsT h' s.heap.objs.size #[x,y,zz]->h'.objs.size=s.heap.objs.size+1->Off [n,n+1,n+2,n+4,n+5] s.heap h'->Q (some (.ref s.heap.objs.size)) { s with heap:=h' }) :
  wpAny (model prog w) A (pyNext (.ref (n+5))) Q E s:=by
 have hT:s.TypeIs (.ref (n+5)) "zip":=⟨_,Z.z,rfl⟩
 unfold pyNext
 exact Zg (wpAny_attempt (wpAny_callSpecial?_slot (name:=Str.ofString "__next__") hT F.slot_zip_next
  (wpAny_call_entry F.slot_zip_next hT F.entry_zip_next
   (B6 Z ha hb hc h1 h2 h3 hx hy R3 fun h' a1 a2 a3 a4=>Zy (hQ h' a1 a2 a3 a4)) (F.args_zip_next_1 _))))
theorem nO{k1 k2 k3:Bool}{n a b c:Nat}{i:Nat}{xs:Array Value}{Q:Option Value->Shared->Prop}(hh:A.handled=none)(Z:xP k1 k2 k3 n a b c i .none s.heap)(ha:a<n)
  (h1:aX k1 s.heap a xs) (hx:xs[i]?=none)
  (hQ:∀ h',Off [n,n+1,n+2,n+4,n+5] s.heap h'->Q none { s with heap:=h' }):wpAny (model prog w) A (pyNext (.ref (n+5))) Q E s:=by
 have hT:s.TypeIs (.ref (n+5)) "zip":=⟨_,Z.z,rfl⟩
 unfold pyNext
 refine Zg (wpAny_attempt (wpAny_callSpecial?_slot (name:=Str.ofString "__next__") hT F.slot_zip_next
  (wpAny_call_entry F.slot_zip_next hT F.entry_zip_next (B7 (A:=A.in1) hh Z ha h1 hx fun h' e hk he=>?_) (F.args_zip_next_1 _))))
 obtain ⟨o,ho,hc⟩:=he
 refine Zg (wpAny_isInstance (T:="StopIteration") (b:=true) ⟨o,ho,hc⟩ isSubtype_stop ?_)
 exact Zy (hQ _ hk)
end
abbrev Hd (k1 k2 k3:Bool) (h:Heap) (a b c:Addr):Heap:=(((((h.push (bg k1 a)).push (bg k2 b)).push (bg k3 c)).push { cls:=.type "tuple",data:=.seq #[.ref h.objs.size,.ref (h.objs.size+1),.ref (h.objs.size+2)] }).push { cls:=.type "tuple",data:=.seq #[.none,.none,.none] }).push
 { cls:=.type "zip",data:=.fields #[.none,.bool false,.bool false,.ref (h.objs.size+3),.ref (h.objs.size+4)] }
theorem B8(k1 k2 k3:Bool)(a b c:Addr)(xs ys zs:Array Value) :
  Meets (Builtin.«zip.__new__» ⟨[.type "zip",.ref a,.ref b,.ref c],[]⟩) (fun _ R s=>aX k1 s.heap a xs/\aX k2 s.heap b ys/\aX k3 s.heap c zs /\
   R (.ok (.ret (.ref (s.heap.objs.size+5)))) { s with heap:=Hd k1 k2 k3 s.heap a b c }) :=
 .of_wp fun prog w A R s h=>by
  obtain ⟨hp,g,d,tk,os⟩:=s;obtain ⟨yY,GI,Em,h⟩:=h
  have RM:=sub_zip
  have RN:aX k1 (Shared.heap ⟨hp,g,d,tk,os⟩) a xs:=yY
  have RO:aX k2 (Shared.heap ⟨hp.push (bg k1 a),g,d,tk,os⟩) b ys:=aX.keep GI fun o e=>Zf _ e
  have WV:aX k3 (Shared.heap ⟨(hp.push (bg k1 a)).push (bg k2 b),g,d,tk,os⟩) c zs:=aX.keep Em fun o e=>Zf _ (Zf _ e)
  wp_walk using d6 RN,d6 RO,d6 WV
  refine⟨_,rfl,?_⟩
  simp only [Heap.size_push]
  exact h
end L2
namespace PySem.F
theorem js (a b c d:Value):argsOk "object.__init__" ⟨[a,b,c,d],[]⟩:=by
 unfold argsOk;rw [signature?_of (id:="object.__init__") (n:=['_','_','t','i','n','i','_','_']) (o:=['t','c','e','j','b','o']) (by kernel_rfl) owner_object];kernel_rfl
end PySem.F
namespace L2
open PySem PySem.Spec PyProof.Rows
theorem xR{c:Addr}{n:Nat}(z:c∈([n,n+1,n+2,n+4,n+5]:List Addr)):c∈([n+5,n+3,n+4,n,n+1,n+2]:List Addr):=by
 simp only [ZL,not_mem_nil,or_false] at z ⊢
 rcases z with h|h|h|h|h <;> simp [h]
def He(K : Frag)(k1 k2 k3 : Bool)(a b c : Addr) : It :=
  ⟨fun i H => ∃ xs ys zs x y z, Sq k1 K H a xs /\ Sq k2 K H b ys /\ Sq k3 K H c zs /\ xs[i]?=some x /\ ys[i]?=some y /\ zs[i]?=some z,
   fun i H v H' => ∃ p x y z, v=.ref p /\ H p=none /\ (∀ xs, Sq k1 K H a xs -> xs[i]?=some x) /\ (∀ ys, Sq k2 K H b ys -> ys[i]?=some y) /\ (∀ zs, Sq k3 K H c zs -> zs[i]?=some z) /\ H'=upd H p (.tup [x, y, z]),
   fun i H => ∃ xs, Sq k1 K H a xs /\ xs.length <= i⟩
theorem B9{P:Program}{w:World}{K:Frag}{es:List Expr}{kk:Nat}{pos:Pos}{k1 k2 k3:Bool}(n a b c:Nat)(ha:a<n)(hb:b<n)(hc:c<n) :
  Turn P w K (.Tuple es kk pos) (He K k1 k2 k3 a b c) [n+5,n+3,n+4,n,n+1,n+2] (n+5) (fun i h=>xP k1 k2 k3 n a b c i .none h) where
 mem:=by simp
 obj:=fun i h st d hd=>by
  obtain ⟨hz,xB,⟨u,v,x,A4⟩,yW,t6,MP⟩:=st
  simp only [ZL,not_mem_nil,or_false] at hd
  rcases hd with rfl|rfl|rfl|rfl|rfl|rfl
  ·exact⟨_,hz,fun v z=>nomatch z⟩
  ·exact⟨_,xB,fun v z=>nomatch z⟩
  ·exact⟨_,A4,fun v z=>nomatch z⟩
  ·exact yW.obj
  ·exact t6.obj
  ·exact MP.obj
 keep:=fun i h h' st k=>by
  obtain ⟨hz,xB,⟨u,v,x,A4⟩,yW,t6,MP⟩:=st
  exact⟨k _ (by simp) _ hz,k _ (by simp) _ xB,⟨u,v,x,k _ (by simp) _ A4⟩,yW.keep fun o e=>k _ (by simp) o e,t6.keep fun o e=>k _ (by simp) o e,MP.keep fun o e=>k _ (by simp) o e⟩
 item:=by
  intro X hP hw hK xi i pins s σ H E I hf st hg
  subst hP hw hK
  obtain ⟨xs,ys,zs,x,y,z,qx,qy,qz,ex,ey,ez⟩:=hg
  obtain ⟨DW,r1,s1,_⟩:=I.sq qx
  obtain ⟨MM,r2,s2,_⟩:=I.sq qy
  obtain ⟨Vi,r3,s3,_⟩:=I.sq qz
  obtain ⟨u,hu,ru⟩:=r1.get ex
  obtain ⟨v,hv,rv⟩:=r2.get ey
  obtain ⟨t,ht,rt⟩:=r3.get ez
  refine xQ st ha hb hc s1 s2 s3 (x:=u) (y:=v) (zz:=t) (by simpa using hu) (by simpa using hv) (by simpa using ht) fun h' Z hT jq off=>⟨_,rfl,?_⟩
  have BV:H s.heap.objs.size=none:=I.bf.fresh (Zn _)
  have N5:n+5<s.heap.objs.size:=Zj st.z
  refine wpAny_letOwnedTupleGo_zip Z.z fun h2 Jo eE=>?_
  have gD:Off [n+5,n+3,n+4,n,n+1,n+2] s.heap h2:=fun d o hd e=>(eE.2 d fun z=>hd (by simp [z])).trans (off d o (fun z=>hd (xR z)) e)
  have De:IsT h2 s.heap.objs.size #[u,v,t]:=(eE.2 _ (Nat.ne_of_gt N5)).trans hT
  refine⟨.ref s.heap.objs.size,upd H s.heap.objs.size (.tup [x,y,z]),?_,rfl,⟨_,x,y,z,rfl,BV,fun OV DX=>by rw [I.kU DX qx];exact ex,fun OV DX=>by rw [I.kU DX qy];exact ey,fun OV DX=>by rw [I.kU DX qz];exact ez,rfl⟩,?_,fun d hd=>?_⟩
  ·refine Inv.off (s:=s) (h':=h2) (t':=s.toks) (ch:=[n+5,n+3,n+4,n,n+1,n+2]) I hf gD (I.bf.zw (fun d hd=>(hf d hd).1) gD (Zn _) ?_) (fun d o _ e hn=>?_) fun d o e=>?_
   ·exact⟨by show 3<=sizeLine;decide,[u,v,t],.cons ru (.cons rv (.cons rt .nil)),⟨_,De,rfl,_,rfl⟩⟩
   ·rw [aG (Z0 (Zj e))];exact hn
   ·rw [aG (ba e BV)];exact e
  ·obtain ⟨z1,z2,⟨a1,a2,a3,z3⟩,z4,z5,z6⟩:=Z
   exact⟨Jo,(eE.2 _ (bI (by lia))).trans z2,⟨a1,a2,a3,(eE.2 _ (bI (by lia))).trans z3⟩,z4.keep fun o e=>(eE.2 _ (bI (by lia))).trans e,z5.keep fun o e=>(eE.2 _ (bI (by lia))).trans e,z6.keep fun o e=>(eE.2 _ (bI (by lia))).trans e⟩
  ·have cn:d≠s.heap.objs.size:=by
    simp only [ZL,not_mem_nil,or_false] at hd
    rcases hd with rfl|rfl|rfl|rfl|rfl|rfl <;> exact bI (by lia)
   rw [aG cn];exact (hf d hd).1
 done:=by
  intro X hP hw hK xi i pins s σ H E I hf st hg
  subst hP hw hK
  obtain ⟨xs,qx,zv⟩:=hg
  obtain ⟨DW,r1,s1,_⟩:=I.sq qx
  have e1:=r1.length
  refine nO (I.ok.hd xi) st ha s1 (by simp;lia) fun h' off=>⟨rfl,?_⟩
  have gD:Off [n+5,n+3,n+4,n,n+1,n+2] s.heap h':=fun d o hd e=>off d o (fun z=>hd (xR z)) e
  exact Inv.off (s:=s) (t':=s.toks) I hf gD (I.bf.off (fun d hd=>(hf d hd).1) gD) (fun _ _ _ _ q=>q) fun _ _ q=>q
 self:=fun _ _ _ _ _ st h=>wpAny_pyIter_zip st.z h
def Eo(K:Frag)(k1 k2 k3:Bool):List V->Hp->(It->Hp->Prop)->Prop:=fun vs H R=>∃ a b c,vs=[.ref a,.ref b,.ref c]/\(∃ xs,Sq k1 K H a xs)/\(∃ ys,Sq k2 K H b ys)/\(∃ zs,Sq k3 K H c zs)/\R (He K k1 k2 k3 a b c) H
def Ep(K:Frag)(k1 k2 k3:Bool)(ta:TA):TI:=fun σ H R=>ta σ H fun vs H1=>Eo K k1 k2 k3 vs H1 R
section
variable {X:Cx}
theorem vals3{x y z:V}{us:List Value}(r:Vals [x,y,z] us):∃ u v w',us=[u,v,w']/\RelV x u/\RelV y v/\RelV z w':=by
 cases r with
 | cons r1 t=>cases t with
  | cons r2 t=>cases t with
   | cons r3 t=>cases t;exact⟨_,_,_,rfl,r1,r2,r3⟩
theorem Hf (k1 k2 k3:Bool) {es:List Expr} {kk:Nat} {oI:Pos} {a b c:Expr} {ta:TA} {p pos:Pos} (hg:Gl X "zip") (hm:X.mg "zip"=none) (ha:PA X [a,b,c] ta) (hs:starEach [a,b,c] X.env=(false,eval a X.env)::starEach [b,c] X.env:=by rfl) (oC:(backTo pos (starEach [b,c] X.env)).any (·.1)=false:=by rfl) :
  PI X (.Tuple es kk oI) (.Call (.Name "zip" p) [a,b,c] [] pos) (Ep X.K k1 k2 k3 ta):=by
 intro pins s σ H R I h
 refine Call_ (jm I hg hm boot_zip (callWith_type1 (cb (ha pos pins s σ H _ I h) fun us s1 ⟨vs,H1,I1,r1,q1⟩=>?_) hs oC))
 obtain ⟨a',b',c',e,⟨xs,qx⟩,⟨ys,qy⟩,⟨zs,qz⟩,q⟩:=q1
 subst e
 obtain ⟨u,v,t,rfl,ru,rv,rt⟩:=vals3 r1
 cases ru
 cases rv
 cases rt
 obtain ⟨DW,r1,Jr,_⟩:=I1.sq qx
 obtain ⟨MM,r2,N6,_⟩:=I1.sq qy
 obtain ⟨Vi,r3,Vj,_⟩:=I1.sq qz
 refine callType_new PySem.F.called_zip (by decide) (PySem.F.oW _ _ _) (PySem.F.qv _ _ _) (fun obj=>PySem.F.js obj _ _ _) PySem.F.entry_zip_new (B8 k1 k2 k3 a' b' c' DW.toArray MM.toArray Vi.toArray) ⟨Jr,N6,Vj,?_⟩
 have z1:(s1.heap.push (bg k1 a')).objs.size=s1.heap.objs.size+1:=Heap.size_push ..
 have z2:((s1.heap.push (bg k1 a')).push (bg k2 b')).objs.size=s1.heap.objs.size+2:=by rw [Heap.size_push,z1]
 have z3:(((s1.heap.push (bg k1 a')).push (bg k2 b')).push (bg k3 c')).objs.size=s1.heap.objs.size+3:=by rw [Heap.size_push,z2]
 have z4:((((s1.heap.push (bg k1 a')).push (bg k2 b')).push (bg k3 c')).push { cls:=.type "tuple",data:=.seq #[.ref s1.heap.objs.size,.ref (s1.heap.objs.size+1),.ref (s1.heap.objs.size+2)] }).objs.size=s1.heap.objs.size+4:=by rw [Heap.size_push,z3]
 have z5:(((((s1.heap.push (bg k1 a')).push (bg k2 b')).push (bg k3 c')).push { cls:=.type "tuple",data:=.seq #[.ref s1.heap.objs.size,.ref (s1.heap.objs.size+1),.ref (s1.heap.objs.size+2)] }).push { cls:=.type "tuple",data:=.seq #[.none,.none,.none] }).objs.size=s1.heap.objs.size+5:=by rw [Heap.size_push,z4]
 have g6:(Hd k1 k2 k3 s1.heap a' b' c').get? (s1.heap.objs.size+5)=some { cls:=.type "zip",data:=.fields #[.none,.bool false,.bool false,.ref (s1.heap.objs.size+3),.ref (s1.heap.objs.size+4)] }:=by rw [<- z5];exact Zk _ rfl
 have g5:(Hd k1 k2 k3 s1.heap a' b' c').get? (s1.heap.objs.size+4)=some { cls:=.type "tuple",data:=.seq #[.none,.none,.none] }:=by rw [<- z4];exact Zf _ (Zk _ rfl)
 have g4:(Hd k1 k2 k3 s1.heap a' b' c').get? (s1.heap.objs.size+3)=some { cls:=.type "tuple",data:=.seq #[.ref s1.heap.objs.size,.ref (s1.heap.objs.size+1),.ref (s1.heap.objs.size+2)] }:=by rw [<- z3];exact Zf _ (Zf _ (Zk _ rfl))
 have g3:(Hd k1 k2 k3 s1.heap a' b' c').get? (s1.heap.objs.size+2)=some (bg k3 c'):=by rw [<- z2];exact Zf _ (Zf _ (Zf _ (Zk _ (by cases k3 <;> rfl))))
 have g2:(Hd k1 k2 k3 s1.heap a' b' c').get? (s1.heap.objs.size+1)=some (bg k2 b'):=by rw [<- z1];exact Zf _ (Zf _ (Zf _ (Zf _ (Zk _ (by cases k2 <;> rfl)))))
 have g1:(Hd k1 k2 k3 s1.heap a' b' c').get? s1.heap.objs.size=some (bg k1 a'):=Zf _ (Zf _ (Zf _ (Zf _ (Zf _ (Zk _ (by cases k1 <;> rfl))))))
 have old:∀ d o,s1.heap.get? d=some o->(Hd k1 k2 k3 s1.heap a' b' c').get? d=some o:=fun d o x=>Zf _ (Zf _ (Zf _ (Zf _ (Zf _ (Zf _ x)))))
 have Z:xP k1 k2 k3 s1.heap.objs.size a' b' c' 0 .none (Hd k1 k2 k3 s1.heap a' b' c'):=⟨g6,g4,⟨_,_,_,g5⟩,fJ g1,fJ g2,fJ g3⟩
 show _/\_
 refine⟨⟨_,g6,rfl⟩,wpAny_pyIter_zip Z.z ?_⟩
 refine⟨_,_,_,_,H1,rfl,I1.kept (t':=s1.toks) old,B9 s1.heap.objs.size a' b' c' Jr.lt N6.lt Vj.lt,Z,fun d hd=>?_,q⟩
 have xi:s1.heap.objs.size<=d:=by
  simp only [ZL,not_mem_nil,or_false] at hd
  rcases hd with rfl|rfl|rfl|rfl|rfl|rfl <;> first|exact Nat.le_add_right _ _|exact Zn _
 exact I1.zg xi (I1.bf.fresh xi)
theorem Er (K:Frag) (hK:X.K=K) (k1 k2 k3:Bool) {es:List Expr} {kk:Nat} {oI:Pos} {a b c:Expr} {ta:TA} {p pos:Pos} (hg:Gl X "zip") (hm:X.mg "zip"=none) (ha:PA X [a,b,c] ta) (hs:starEach [a,b,c] X.env=(false,eval a X.env)::starEach [b,c] X.env:=by rfl) (oC:(backTo pos (starEach [b,c] X.env)).any (·.1)=false:=by rfl) :
  PI X (.Tuple es kk oI) (.Call (.Name "zip" p) [a,b,c] [] pos) (Ep K k1 k2 k3 ta):=hK ▸ Hf k1 k2 k3 hg hm ha hs oC
end
section
variable {D:Ends}{σ:St}{H:Hp}{K:Frag}
theorem Hg{k1 k2 k3:Bool}{ts:TA}{R:It->Hp->Prop}(h:ts σ H fun vs H1=>Eo K k1 k2 k3 vs H1 R):Ep K k1 k2 k3 ts σ H R:=h
theorem LB{k1 k2 k3:Bool}{a b c:Addr}{xs ys zs:List V}{R:It->Hp->Prop}(e1:Sq k1 K H a xs)(e2:Sq k2 K H b ys)(e3:Sq k3 K H c zs)(h:R (He K k1 k2 k3 a b c) H):Eo K k1 k2 k3 [.ref a,.ref b,.ref c] H R:=⟨a,b,c,rfl,⟨_,e1⟩,⟨_,e2⟩,⟨_,e3⟩,h⟩
end
def rm(H:Hp)(l:Addr):Hp:=fun b=>if b=l then none else H b
theorem xS{H:Hp}{l:Addr}:rm H l l=none:=by unfold rm;rw [if_pos rfl]
theorem Es{H:Hp}{l b:Addr}(h:b≠l):rm H l b=H b:=by unfold rm;rw [if_neg h]
theorem oh{H:Hp}{l:Addr}:ah (rm H l) H:=fun b o e=>by
 by_cases h:b=l
 ·subst h;rw [xS] at e;cases e
 ·rw [Es h] at e;exact e
theorem Et{K:Frag}{H:Hp}{l a:Addr}{xs ys:List V}(h:aL K H a xs)(hl:H l=some (.lst ys)):aL K (rm H l) a xs:=by
 have ne:∀ {o},H a=some o->(∀ zs,o≠.lst zs)->a≠l:=fun {o} e n z=>by subst z;rw [hl] at e;exact n _ (Zr e).symm
 rcases h with (h|⟨o,h⟩)|h
 ·exact .inl (.inl (by rw [Es (ne h fun _ z=>nomatch z)];exact h))
 ·exact .inl (.inr ⟨o,by rw [Es (ne h fun _ z=>nomatch z)];exact h⟩)
 ·exact .inr h
end L2
namespace L2
open PySem PySem.Spec PyProof.Rows PySem.W
structure xT(K:Frag)(C:Addr):Prop where
 ga:findIn K (.ref C) "__getattribute__"=some (some (.builtin "BaseException.__getattribute__"))
 gt:findIn K (.ref C) "__getattr__"=some none
 fc:findObj K C none "__class__"=some (.bind (.builtin "getset_descriptor.__get__") (.builtin "object.__class__"))
 ob:mroIn K C (.type "object")=some true
 be:subIn K (.ref C) (.type "BaseException")=some true
 cl:(clsIn K C).isSome=true
end L2
namespace L2
open PySem PySem.Spec PyProof.Rows PySem.W
section
variable {M:Model}{A:Around}{E:Value->Shared->Prop}{s:Shared}
theorem oX{base:Heap}{env:Env}{outer:List Env}{L e:Addr}{oe:Obj}{vs:Array Value}{head:Value}{uR:Bool}{Q:Unit->Shared->Prop}
  (tZ:A.frames=some (env::outer)) (hl:s.heap.FunFrames base (env::outer)) (hf:env.frame=some L)
  (he:s.heap.get? e=some oe) (hd:oe.data=.fields vs) (jq:1<vs.size)
  (h:∀ h' T,(∀ b o,b≠e->b∉ow (env::outer)->s.heap.get? b=some o->h'.get? b=some o)->(∀ b o,b≠e->s.heap.get? b=some o->∃ sl,h'.get? b=some { o with slots:=sl }) ->
   s.heap.get? T=none->T≠e->h'.get? e=some (oe.mapFields (·.setIfInBounds 1 (.ref T)))->(∃ oT ts,h'.get? T=some oT/\oT.data=.fields ts/\ts[3]?=some .none)->Q () { s with heap:=h' }) :
  wpAny M A (do let a <- frameOf env;let pl <- entryPlaceOf L uR;let b <- EntryCells.newEntry head a .none (rawInt L) .none pl;setField (.ref e) 1 b) (fun _ s'=>wpAny M A (setFlight (.ref e) none) Q E s') E s:=by
 have LC:e∉(env::outer).filterMap (·.frame):=fun hm=>by
  obtain ⟨_,o,ho,zC⟩:=hl.mem hm
  rw [he] at ho;injection ho with ho;subst ho;exact zC vs hd
 refine Zg (wpAny_frameOf_fun tZ hl hf fun h₁ Hh=>?_)
 refine Zg (wpAny_entryPlaceOf fun pl oC=>?_)
 unfold EntryCells.newEntry newFields
 refine Zg (wpAny_newObj_type ?_ (oC.sizeOk5 _ _ _ _ _))
 have OW:h₁.get? e=some oe:=(Hh.2.1 e LC).trans he
 have OX:=Zf (h:=h₁) { cls:=.type "traceback",dict:=none,data:=.fields ([head,.ref L,.none,rawInt L,.none]++(if pl.isEmpty then List.replicate 6 Value.none else pl)).toArray } OW
 refine wpAny_setField OX hd jq ?_
 have F8:h₁.objs.size≠e:=Nat.ne_of_gt (Zj OW)
 have Vk:=Obj.data_mapFields hd (·.setIfInBounds 1 (Value.ref h₁.objs.size))
 have Vl:=Heap.get?_update_self (Obj.mapFields (·.setIfInBounds 1 (Value.ref h₁.objs.size))) OX (Obj.isFreed_of_fields Vk)
 have Vm:=(Heap.get?_update_other (h₁.push { cls:=.type "traceback",dict:=none,data:=.fields ([head,.ref L,.none,rawInt L,.none]++(if pl.isEmpty then List.replicate 6 Value.none else pl)).toArray })
  (Obj.mapFields (·.setIfInBounds 1 (Value.ref h₁.objs.size))) (Ne.symm F8)).trans (Zk h₁ rfl)
 unfold setFlight
 refine Zg (wpAny_field Vl Vk (x:=.ref h₁.objs.size) (by simp [jq]) ?_)
 rw [if_pos (show (Value.ref h₁.objs.size != Value.none)=true from by simp)]
 have keep:∀ b o,b≠e->h₁.get? b=some o ->
   (((h₁.push { cls:=.type "traceback",dict:=none,data:=.fields ([head,.ref L,.none,rawInt L,.none]++(if pl.isEmpty then List.replicate 6 Value.none else pl)).toArray }).update e (Obj.mapFields (·.setIfInBounds 1 (Value.ref h₁.objs.size)))).update h₁.objs.size
    (Obj.mapFields (·.setIfInBounds 3 ((none:Option Addr).elim Value.none fun f=>rawInt f)))).get? b=some o:=fun b o xm hb=>by
  have WW:h₁.objs.size≠b:=Nat.ne_of_gt (Zj hb)
  rw [Heap.get?_update_other _ _ WW,Heap.get?_update_other _ _ (Ne.symm xm)]
  exact Zf _ hb
 refine wpAny_setField Vm rfl (by simp only [ZT,ZJ,length_cons,List.length_nil] <;> lia) (h _ h₁.objs.size (fun b o xm R9 hb=>keep b o xm ((Hh.2.1 b R9).trans hb)) (fun b o xm hb=>?_) (Heap.get?_none_of_le (by rw [Hh.1];exact Zn _)) F8 ?_ ?_)
 ·obtain ⟨sl,hs⟩:=Hh.2.2 b o hb
  exact⟨sl,keep b _ xm hs⟩
 ·rw [Heap.get?_update_other _ _ F8];exact Vl
 ·exact⟨_,_,Heap.get?_update_self _ Vm (Obj.isFreed_of_fields (Obj.data_mapFields rfl _)),Obj.data_mapFields rfl _,by first|(simp;done)|(rcases oC with rfl|⟨_,_,_,_,_,_,_,rfl⟩ <;> simp)⟩
def zD(h:Heap)(e:Addr)(vs:Array Value):Option Addr->Prop
 | none=>vs[1]?=some .none
 | some T=>vs[1]?=some (.ref T)/\T≠e/\∃ oT ts,h.get? T=some oT/\oT.data=.fields ts/\ts[3]?=some .none
theorem Ca{base:Heap}{env:Env}{outer:List Env}{L e:Addr}{oe:Obj}{vs:Array Value}{T0:Option Addr}{Q:Unit->Shared->Prop}
  (tZ:A.frames=some (env::outer)) (hl:s.heap.FunFrames base (env::outer)) (hf:env.frame=some L)
  (he:s.heap.get? e=some oe) (hd:oe.data=.fields vs) (hh:zD s.heap e vs T0)
  (h:∀ h' T,(∀ b o,b≠e->some b≠T0->b∉ow (env::outer)->s.heap.get? b=some o->h'.get? b=some o)->(∀ b o,b≠e->some b≠T0->s.heap.get? b=some o->∃ sl,h'.get? b=some { o with slots:=sl }) ->
   s.heap.get? T=none->T≠e->h'.get? e=some (oe.mapFields (·.setIfInBounds 1 (.ref T)))->(∃ oT ts,h'.get? T=some oT/\oT.data=.fields ts/\ts[3]?=some .none)->Q () { s with heap:=h' }) :
  wpAny M A (noteFrame (.ref e) env) (fun _ s'=>wpAny M A (setFlight (.ref e) none) Q E s') E s:=by
 unfold noteFrame
 simp only [hf]
 cases T0 with
 | none =>
  have h1:vs[1]?=some .none:=hh
  refine Zg (wpAny_field he hd h1 ?_)
  rw [if_neg (by decide)]
  exact oX tZ hl hf he hd (Array.getElem?_eq_some_iff.mp h1).1 fun h' T k1 k2 k3 k4 k5 k6=>h h' T (fun b o b1 _ b3 b4=>k1 b o b1 b3 b4) (fun b o b1 _ b3=>k2 b o b1 b3) k3 k4 k5 k6
 | some T =>
  obtain ⟨h1,F8,oT,ts,hT,oi,h3⟩:=hh
  refine Zg (wpAny_field he hd h1 ?_)
  rw [if_pos (show (Value.ref T != Value.none)=true from by simp)]
  refine Zg (wpAny_field hT oi h3 ?_)
  rw [if_neg (show ¬ ((Value.none == rawInt L)=true) from by simp [rawInt])]
  refine Zg (wpAny_setField hT oi (Array.getElem?_eq_some_iff.mp h3).1 ?_)
  have other:∀ b,b≠T->(s.heap.update T (Obj.mapFields (·.setIfInBounds 3 Value.none))).get? b=s.heap.get? b:=fun b hb=>Heap.get?_update_other _ _ (Ne.symm hb)
  have oY:∀ b o,s.heap.get? b=some o->(∀ vs,o.data≠.fields vs)->b≠T:=fun b o hb zC q=>by
   rw [q,hT] at hb;injection hb with hb;subst hb;exact zC ts oi
  have De:=Heap.get?_update_self (Obj.mapFields (·.setIfInBounds 3 Value.none)) hT (Obj.isFreed_of_fields (Obj.data_mapFields oi _))
  refine oX tZ (hl.of_keeps fun b o hb zC=>⟨o,(other b (oY b o hb zC)).trans hb,rfl⟩) hf ((other e (Ne.symm F8)).trans he) hd (Array.getElem?_eq_some_iff.mp h1).1 fun h' T' k1 k2 k3 k4 k5 k6=>?_
  refine h h' T' (fun b o b1 b2 b3 b4=>k1 b o b1 b3 ((other b fun z=>b2 (by rw [z])).trans b4)) (fun b o b1 b2 b4=>k2 b o b1 ((other b fun z=>b2 (by rw [z])).trans b4)) ?_ k4 k5 k6
  by_cases hq:T'=T
  ·rw [hq,De] at k3;cases k3
  ·rw [other T' hq] at k3;exact k3
end
end L2
namespace L2
open PySem PySem.Spec PyProof.Rows PySem.W
theorem cq.there{P:Program}{w:World}{H:Hp}{h:Heap}{a:Addr}{o:HO}(x:cq P w H h a o):∃ ob,h.get? a=some ob:=by
 cases o with
 | lst xs=>obtain ⟨_,_,_,_,e⟩:=x;exact⟨_,e⟩
 | tup xs=>obtain ⟨_,_,_,ob,e,_⟩:=x;exact⟨_,e⟩
 | dK dw=>obtain ⟨_,_,_,_,o,_,_,e,_⟩:=x;exact⟨_,e⟩
 | dT dw=>obtain ⟨_,_,_,_,o,_,_,e,_⟩:=x;exact⟨_,e⟩
 | set S n=>obtain ⟨o,_,_,_,e,_⟩:=x;exact⟨_,e⟩
 | ins C dx fs=>obtain ⟨_,_,_,e,_⟩:=x;exact⟨_,e⟩
 | own y=>obtain ⟨_,e⟩:=x;exact⟨_,e⟩
 | xd fs=>obtain ⟨_,⟨_,_,_,e,_⟩,_⟩:=x;exact⟨_,e⟩
 | Qe lo hi=>obtain ⟨_,_,_,e⟩:=x;exact⟨_,e⟩
 | xl ob u=>obtain ⟨e,_⟩:=x;exact⟨_,e⟩
 | F3 ps=>exact⟨_,(show h.get? a=some _ from x)⟩
 | met f y=>exact⟨_,(show h.get? a=some _ from x)⟩
 | ext φ=>obtain ⟨_,⟨_,e⟩,_⟩:=x;exact⟨_,e⟩
theorem fP.free{P:Program}{w:World}{H:Hp}{h:Heap}{a:Addr}(x:fP P w H h)(e:h.get? a=none):H a=none:=by
 cases q:H a with
 | none=>rfl
 | some o=>obtain ⟨ob,z⟩:=(x a o q).there;rw [e] at z;cases z
def Exc(h:Heap)(H:Hp)(h0:Heap)(ps:List (Addr×Obj))(a C:Addr):Prop:=∃ oe vs T0,h.get? a=some oe/\oe.cls=.ref C/\oe.dict=none/\oe.data=.fields vs/\1<vs.size/\zD h a vs T0/\H a=none/\(h0.get? a=none/\∀ p∈ps,p.1≠a) /\
 ∀ T,T0=some T->H T=none/\h0.get? T=none/\∀ p∈ps,p.1≠T
def Hi(P:Program)(w:World):C9:=fun outer H s E e s'=>∃ a C H',e=.ref a/\s'.os=s.os/\AllBare s'.gens/\Un (ow outer) [] H H' s.heap s'.heap/\fP P w H' s'.heap/\Exc s'.heap H' s.heap [] a C/\E (.ref C) none H'
abbrev Eu:=Addr->St->Hp->Prop
def XW(X:Cx)(EX:Eu):Value->Shared->Prop:=fun e s'=>∃ a C σ' H',e=.ref a/\Inv X.Gq [] σ' H' s'/\Exc s'.heap H' X.s₀.heap X.pn a C/\EX C σ' H'
theorem gH(o:Obj)(f:Array Value->Array Value):(o.mapFields f).dict=o.dict:=by
 unfold Obj.mapFields;split <;> rfl
theorem Ew{P:Program}{w:World}{K:Frag}{mg:Str->Option Value}{base:Heap}{N:List Str}{qual:Str}{scope:Scope}{f:Addr}{cd:Value}{A:Around}{outer:List Env}{s:Shared}{H:Hp}{E:XK}{e:Value}{s':Shared}
  (h:XW (jo (Hi P w) P w K mg base N qual scope f cd A outer s H E) (fun C _ H'=>E (.ref C) none H') e s'):(jo (Hi P w) P w K mg base N qual scope f cd A outer s H E).xe e s':=by
 obtain ⟨a,C,σ',H',rfl,I,⟨oe,vs,T0,he,hc,LD,hd,jq,hh,Hj,⟨JH,_⟩,hT⟩,hE⟩:=h
 have Hl:s.heap.get? a=none:=JH
 have F9:∀ T,T0=some T->H' T=none/\s.heap.get? T=none:=fun T z=>⟨(hT T z).1,(hT T z).2.1⟩
 show wpAny (model P w) (A.deeper (envOfC qual scope s.heap.objs.size f cd)) (leaving (envOfC qual scope s.heap.objs.size f cd) (.ref a)) _ _ s'
 unfold leaving
 refine Zg (Ca (L:=s.heap.objs.size) I.ok.frames I.stack rfl he hd hh fun h' T k1 k2 k3 k4 k5 k6=>?_)
 have ne:∀ b o,s.heap.get? b=some o->b≠a/\some b≠T0/\b≠s.heap.objs.size:=fun b o q=>⟨fun z=>(by rw [z,Hl] at q;cases q),fun z=>(by rw [(F9 b z.symm).2] at q;cases q),Z0 (Zj q)⟩
 have WX:∀ b o,s.heap.get? b=some o->b∉ow outer->b∉ow (envOfC qual scope s.heap.objs.size f cd::outer):=fun b o q hb z=>by
  rcases ZL.mp (I.kL b z) with r|r
  ·exact (ne b o q).2.2 r
  ·exact hb r
 have off:Off (a::(T0.toList++ow (envOfC qual scope s.heap.objs.size f cd::outer))) s'.heap h':=fun b o hb q=>by
  simp only [ZL,ZG,not_or] at hb
  exact k1 b o hb.1 (fun z=>hb.2.1 (by rw [<- z];simp)) hb.2.2 q
 refine⟨a,C,H',rfl,I.os,I.bare,⟨fun b o q n hb hx=>?_,fun b o q n hb hx=>?_,fun b o q n hx=>I.base.free b o q n hx,fun b o q hx=>?_,I.base.jK,I.base.jl,I.base.jL⟩,I.bf.off (fun b hb=>?_) off,?_,hE⟩
 ·exact k1 b o (ne b o q).1 (ne b o q).2.1 (WX b o q hb) (I.base.keep b o q n hb hx)
 ·obtain ⟨sl,q1⟩:=I.base.slot b o q n hb hx
  obtain ⟨MG,q2⟩:=k2 b _ (ne b o q).1 (ne b o q).2.1 q1
  exact⟨MG,q2⟩
 ·obtain ⟨o',q1⟩:=I.base.there b o q hx
  obtain ⟨MG,q2⟩:=k2 b _ (ne b o q).1 (ne b o q).2.1 q1
  exact⟨_,q2⟩
 ·simp only [ZL,ZG] at hb
  rcases hb with rfl|hb|hb
  ·exact Hj
  ·cases T0 with
   | none=>simp at hb
   | some T1 =>
    simp only [Option.toList_some,ZF] at hb
    rw [hb];exact (F9 T1 rfl).1
  ·exact I.jN b hb
 ·refine⟨_,_,some T,k5,(Obj.cls_mapFields _ _).trans hc,(gH _ _).trans LD,Obj.data_mapFields hd _,by simpa using jq,⟨by simp [jq],k4,k6⟩,Hj,⟨Hl,fun _ z=>nomatch z⟩,fun T' e=>?_⟩
  cases e
  refine⟨I.bf.free k3,?_,fun _ z=>nomatch z⟩
  cases q:s.heap.get? T with
  | none=>rfl
  | some o =>
   obtain ⟨o',q1⟩:=I.base.there T o q (by show T∉([]:List Addr);simp)
   rw [k3] at q1;cases q1
def Df(P:Program)(w:World)(K:Frag)(mg:Str->Option Value)(base:Heap)(k:Nat)(x:Str)(ps:List Str)(sp:Sp):Prop :=
 ∃ f fd,oB P w K mg base (Hi P w) k f fd ps sp/\mg x=some (.ref f)/\keepIn K (.ref f)=true/\Binds K fd ps []
theorem tL.xe{X:Cx}{E:Value->Shared->Prop}{st:List Stmt}{t:TS}(h:tL (X.fS E) st t)(k:∀ e s,E e s->X.xe e s):tL X st t:=fun pins s σ H D I hw =>
 Zz (h pins s σ H D (I.fS _) hw) (fun _ _ z=>z.dk) k
section
variable {P:Program}{w:World}{K:Frag}{mg:Str->Option Value}{base:Heap}
theorem Def.Sa{x:Str}{st:Stmt}{N ps:List Str}{k:Nat}{sp:Sp}(D:Def K mg x st ps)(S:az N ps (ao st))(len:∀ vs H Q E,sp vs H Q E->vs.length=ps.length)
  (jR:∀ (f:Addr) (bO:Value) (A:Around) (outer:List Env) (s:Shared) (H:Hp) (vs:List V) (Q:VK) (E:XK),dJ k (A.deeper (envOfC x (ao st) s.heap.objs.size f bO))->sp vs H Q E ->
   ∃ t,tL ((jo (Hi P w) P w K mg base N x (ao st) f bO A outer s H E).fS (XW (jo (Hi P w) P w K mg base N x (ao st) f bO A outer s H E) fun C _ H'=>E (.ref C) none H')) (cK st) t/\t { nx:=fun _ H'=>Q .dj H',rt:=Q } (start N vs) H):Df P w K mg base (k+1) x ps sp:=by
 obtain ⟨f,fd,F,hm,hb⟩:=D
 obtain ⟨oc,od,kV,doc,pm,an,bO,ct,F4,rfl,lk,ze⟩:=F.ex
 refine⟨f,_,DA lk ze S len fun A outer s H vs Q E hr yV=>?_,hm,F.kp,hb⟩
 obtain ⟨t,h,q⟩:=jR f bO A outer s H vs Q E hr yV
 exact⟨t,h.xe fun e s z=>Ew z,q⟩
end
def Ex(sp:Sp)(EX:Eu)(t:TA):TE:=fun σ H Q=>t σ H fun vs H1=>sp vs H1 Q fun C _ H2=>∃ c,C=.ref c/\EX c σ H2
section
variable {X:Cx}{EX:Eu}{k:Nat}{x:Str}{ps:List Str}{sp:Sp}{p pos:Pos}{e:Expr}{es:List Expr}{t:TA}
theorem oZ(O:Df X.prog X.w X.K X.mg X.base k x ps sp)(hr:dJ k X.A)(hX:∀ e s',XW X EX e s'->X.xe e s')(hex:X.ex=[])(ha:PA X (e::es) t)(hg:Gl X x:=by rfl)
  (Dz:(x == ("__debug__":Str))=false:=by decide) (he:starEach (e::es) X.env=(false,eval e X.env)::starEach es X.env:=by rfl) (oC:(backTo pos (starEach es X.env)).any (·.1)=false:=by rfl) :
  PE X (.Call (.Name x p) (e::es) [] pos) (Ex sp EX t):=by
 obtain ⟨f,fd,F,hm,hk,hb⟩:=O
 intro pins s σ H Q I h
 refine wpAny_Call_Name_kw (n6 I hg hm ?_ Dz)
 refine callWith_K (h₀:=X.base) I.ok.mod.Ni hk (cb (ha pos pins s σ H _ I h) fun us s1 ⟨vs,H1,I1,r,q⟩=>⟨I1.nZ,?_⟩) he oC
 have r2:Vals (vs++[]) (us++[]):=r.append .nil
 have hl:(us++[]).length=ps.length:=by rw [<- r2.length,append_nil];exact F.len _ _ _ _ q
 rw [append_nil] at r2
 refine wpAny_call (codeAny_mono (F.run X.A X.stack s1 H1 ⟨us,[]⟩ (us++[]) vs Q _ hr I1.NC (hb s1 us I1.nZ hl) r2 q) fun r s' hq=>?_)
 cases r with
 | error e =>
  obtain ⟨a,C,H',rfl,ho,WY,un,bf,⟨oe,WZ,T0,e1,e2,e3,e4,e5,e6,e7,e8,e9⟩,c,ec,hE⟩:=hq
  cases ec
  have I2:Inv X pins σ H' s':=I1.Dj (ch:=[]) ho un bf WY fun b z=>absurd z (by simp)
  have nw:∀ b,s1.heap.get? b=none->X.s₀.heap.get? b=none:=fun b z=>by
   cases q:X.s₀.heap.get? b with
   | none=>rfl
   | some o =>
    obtain ⟨o',q1⟩:=I1.base.there b o q (by rw [hex];simp)
    rw [z] at q1;cases q1
  have np:∀ b,s1.heap.get? b=none->∀ p∈X.pn,p.1≠b:=fun b z p hp q=>by
   have:=(I1.pin p (ZE _ hp)).1
   rw [q,z] at this;cases this
  exact hX _ _ ⟨a,C,σ,H',rfl,(I2.n0 fun p hp=>absurd hp (by simp)).fS _,⟨oe,WZ,T0,e1,e2,e3,e4,e5,e6,e7,⟨nw a e8.1,fun p hp=>np a e8.1 p hp⟩,fun T z=>⟨(e9 T z).1,nw T (e9 T z).2.1,fun p hp=>np T (e9 T z).2.1 p hp⟩⟩,hE⟩
 | ok fl =>
  cases fl with
  | ret u=>exact I1.after hq
  | next=>exact False.elim hq
  | brk=>exact False.elim hq
  | cont=>exact False.elim hq
end
end L2
namespace L2
open PySem PySem.Spec PyProof.Rows PySem.W
section
variable {X:Cx}{pins:List (Addr×Obj)}{σ:List (Option V)}{H H':Hp}{s:Shared}{h':Heap}
theorem Inv.Ey{t':Nat}{ch:List Addr}(I:Inv X pins σ H s)
  (xh:∀ b∈ch,X.s₀.heap.get? b=none/\b≠X.env.locals/\(∀ x c,X.env.cells.lookup x=some c->c≠b)/\∀ p∈X.pn++pins,p.1≠b)
  (keep:∀ b o,b≠X.env.locals->b∉X.fs->b∉ch->s.heap.get? b=some o->H b=none->h'.get? b=some o)
  (slot:∀ b o,b≠X.env.locals->b∈X.fs->b∉ch->s.heap.get? b=some o->H b=none->∃ sl,h'.get? b=some { o with slots:=sl }) (free:∀ b o,b∉ch->s.heap.get? b=some o->H b=none->H' b=none)
  (there:∀ b o,b∉ch->s.heap.get? b=some o->∃ o',h'.get? b=some o')
  (jK:∀ b xs,H b=some (.tup xs)->H' b=some (.tup xs)) (jl:∀ b o u,H b=some (.xl o u)->H' b=some (.xl o u)) (jL:∀ b ps,H b=some (.F3 ps)->∃ more,H' b=some (.F3 (ps++more)))
  (ns:∀ m,s.heap.Ns X.env.locals m->h'.Ns X.env.locals m) (bf:fP X.prog X.w H' h') :
  Inv X pins σ H' { s with heap:=h',toks:=t' }:=by
 have Gn:∀ b o,X.s₀.heap.get? b=some o->b≠X.env.locals:=fun b o e=>Z0 (Nat.lt_of_lt_of_le (Zj e) I.ok.above)
 have Gp:∀ b o,X.s₀.heap.get? b=some o->b∉ch:=fun b o e hb=>by rw [(xh b hb).1] at e;cases e
 have cellK:∀ x c,X.env.cells.lookup x=some c->∀ v,s.heap.IsCell c v->h'.IsCell c v:=fun x c e v ⟨o,ho,hd⟩=>by
  have Di:c∉ch:=fun z=>(xh c z).2.2.1 x c e rfl
  by_cases hc:c∈X.fs
  ·obtain ⟨sl,q⟩:=slot c o (I.Gk x c e) hc Di ho (I.dI x c e)
   exact⟨_,q,hd⟩
  ·exact⟨o,keep c o (I.Gk x c e) hc Di ho (I.dI x c e),hd⟩
 refine⟨I.ok,I.os,I.bare,⟨fun b o e n hb hx=>?_,fun b o e n hb hx=>?_,fun b o e n hx=>?_,fun b o e hx=>?_,fun b xs e=>jK b xs (I.base.jK b xs e),fun b o xs e=>jl b o xs (I.base.jl b o xs e),fun b ps e=>?_⟩,?_,fun x c e=>?_,?_,fun x c e=>?_,fun p hp=>?_,bf,I.len⟩
 ·exact keep b o (Gn b o e) hb (Gp b o e) (I.base.keep b o e n hb hx) (I.base.free b o e n hx)
 ·obtain ⟨sl,e1⟩:=I.base.slot b o e n hb hx
  obtain ⟨MG,e2⟩:=slot b _ (Gn b o e) hb (Gp b o e) e1 (I.base.free b o e n hx)
  exact⟨MG,e2⟩
 ·obtain ⟨o',e1⟩:=I.base.there b o e hx
  exact free b o' (Gp b o e) e1 (I.base.free b o e n hx)
 ·obtain ⟨o',e1⟩:=I.base.there b o e hx
  exact there b o' (Gp b o e) e1
 ·obtain ⟨m1,e1⟩:=I.base.jL b ps e
  obtain ⟨m2,e2⟩:=jL b _ e1
  exact⟨m1++m2,by rw [e2,Array.append_assoc]⟩
 ·obtain ⟨m,hn,hl⟩:=I.loc
  refine⟨m,ns m hn,fun i x v e1 e2 e3=>?_⟩
  obtain ⟨u,r,l⟩:=hl i x v e1 e2 e3
  refine⟨u,r,?_⟩
  rcases l with l|⟨k,c,e,z⟩
  ·exact .inl l
  ·exact .inr ⟨k,c,e,cellK x c e _ z⟩
 ·obtain ⟨v,z⟩:=I.cell x c e
  exact⟨v,cellK x c e v z⟩
 ·obtain ⟨m,⟨o,_,_,ho,_⟩,_⟩:=I.loc
  exact free _ o (fun z=>(xh _ z).2.1 rfl) ho I.free
 ·obtain ⟨v,o,ho,hd⟩:=I.cell x c e
  exact free c o (fun z=>(xh c z).2.2.1 x c e rfl) ho (I.dI x c e)
 ·obtain ⟨e,n,ne,nf,d⟩:=I.pin p hp
  have Di:p.1∉ch:=fun z=>(xh p.1 z).2.2.2 p hp rfl
  exact⟨keep p.1 p.2 ne nf Di e n,free p.1 p.2 Di e n,ne,nf,d⟩
theorem Inv.Ho{a:Addr}{oe:Obj}{vs:Array Value}(I:Inv X pins σ H s)(he:s.heap.get? a=some oe)(hd:oe.data=.fields vs):a≠X.env.locals/\(∀ x c,X.env.cells.lookup x=some c->c≠a)/\a∉X.fs:=by
 refine⟨fun z=>?_,fun x c e z=>?_,fun z=>?_⟩
 ·obtain ⟨m,⟨o,_,_,ho,Sb,_⟩,_⟩:=I.loc
  rw [z,ho] at he;cases he;rw [Sb] at hd;cases hd
 ·obtain ⟨v,o,ho,Sb⟩:=I.cell x c e
  rw [z,he] at ho;cases ho;rw [Sb] at hd;cases hd
 ·obtain ⟨_,o,ho,zC⟩:=I.jM.mem z
  rw [he] at ho;cases ho;exact zC vs hd
end
theorem Hq{K:Frag}{h:Heap}{C:Addr}{Vn:List Value}{newId:String}(X:K.In h)(q:excIn K C Vn newId=true) :
  ∃ bm N nm q bs hdct sn sub ab col dd k0 k1 k2 k3 k5 mN,h.get? C=some (excClassObj nm q C N bs bm hdct sn sub ab col dd k0 k1 k2 k3 k5 newId)/\h.Ns N mN/\mN "__init__"=none/\OwnTail h Vn bm:=by
 unfold excIn at q
 split at q
 ·rename_i dd cd sl ho
  split at q
  ·rename_i C' bm k0 k1 k2 k3 n k5 hm hs
   simp only [Bool.and_eq_true,beq_iff_eq,Bool.not_eq_true'] at q
   obtain ⟨⟨⟨⟨⟨rfl,rfl⟩,OY⟩,ht⟩,bf⟩,y8⟩:=q
   obtain ⟨nm,bs,mro,ns,qn,hd,sn,sub,ab,col,del⟩:=cd
   dsimp only at hm OY bf y8
   subst hm OY
   have MQ:sl=#[k0,k1,k2,k3,some (.builtin n),k5]:=by
    obtain ⟨l⟩:=sl
    simp only at hs
    rw [hs]
   subst MQ
   exact⟨bm,ns,nm,qn,bs,hd,sn,sub,ab,col,dd,k0,k1,k2,k3,k5,_,X _ _ ho,.of_isNs (isNs_of_in X bf),nsMap_none_of_in X bf y8,tail_of_in X ht⟩
  ·cases q
 ·cases q
section
variable {X:Cx}{EX:Eu}
def Ez(EX:Eu)(C:Addr)(ta:TA):TS:=fun _ σ H=>ta σ H fun vs H1=>vs.length<=1000/\EX C σ H1
theorem fL{x:Str}{np jT pos:Pos}{e0:Expr}{rest:List Expr}{C:Addr}{B Bn newId W0 LF W2:String}{bm W3:List Value}{ta:TA}(q:excIn X.K C bm newId=true)(Fn:ExcBaseFacts Bn newId W2 W3)(W4:bm.contains (.type Bn)=true)
  (FB:ExcBaseFacts B W0 LF bm) (hc:X.calm=true) (hX:∀ e s',XW X EX e s'->X.xe e s') (hex:X.ex=[]) (hg:Gl X x) (hm:X.mg x=some (.ref C)) (ha:PA X (e0::rest) ta)
  (he:starEach (e0::rest) X.env=(false,eval e0 X.env)::starEach rest X.env:=by rfl) (oC:(backTo jT (starEach rest X.env)).any (·.1)=false:=by rfl) (Dz:(x == ("__debug__":Str))=false:=by decide) :
  PS X (.Raise (some (.Call (.Name x np) (e0::rest) [] jT)) none pos) (Ez EX C ta):=by
 intro pins s σ H D I h
 obtain ⟨W5,N,nm,qn,bs,hdct,sn,sub,ab,col,dd,k0,k1,k2,k3,k5,mN,hC,hN,y8,T⟩:=Hq I.ok.mod.Ni q
 refine wpAny_Raise_call_subU (C:=C) (nm:=nm) (q:=qn) (N:=N) (bs:=bs) (bm:=W5) (hdct:=hdct) (sn:=sn) (sub:=sub) (ab:=ab) (col:=col) (dd:=dd) (k0:=k0) (k1:=k1) (k2:=k2) (k3:=k3) (k5:=k5)
  Fn W4 FB (mN:=mN) (T.hasType FB.hasBase) (I.ok.hd hc) (by rw [he];show (false || (backTo jT (starEach rest X.env)).any (·.1))=false;rw [oC];rfl) y8 (n6 I hg hm ⟨rfl,?_⟩ Dz)
 have hh:=ha jT pins s σ H _ I h
 rw [he] at hh ⊢
 refine Calls.evalArgs_plain (Zz hh (fun us s2 z=>?_) fun _ _ y=>y)
 obtain ⟨vs,H1,I1,r,hl,hE⟩:=z
 refine⟨rfl,by rw [<- r.length];exact Zo (cQ hl),I1.bk _ _ hC,hN.keeps I1.bk,T.keeps I1.bk,fun h' e zu=>hX _ _ ?_⟩
 obtain ⟨t,het,YG,YH⟩:=zu.there
 have nw:X.s₀.heap.get? e=none:=by
  cases q:X.s₀.heap.get? e with
  | none=>rfl
  | some o =>
   obtain ⟨o',q1⟩:=I1.base.there e o q (by rw [hex];simp)
   rw [zu.new] at q1;cases q1
 have np:∀ p∈X.pn,p.1≠e:=fun p hp z=>by
  have:=(I1.pin p (ZE _ hp)).1
  rw [z,zu.new] at this;cases this
 exact⟨e,C,σ,H1,rfl,((I1.kept (t':=s2.toks) zu.keeps).n0 fun p hp=>absurd hp (by simp)).fS _,⟨_,_,none,het,rfl,rfl,rfl,by simp,rfl,I1.bf.free zu.new,⟨nw,np⟩,fun T z=>nomatch z⟩,hE⟩
end
end L2
namespace L2
open PySem PySem.Spec PyProof.Rows PySem.W
structure xU(K:Frag)(D:Addr):Prop where
 ty:typeIn K (.ref D)=some (.type "type")
 cl:(clsIn K D).isSome=true
 be:subIn K (.ref D) (.type "BaseException")=some true
end L2
namespace L2
open PySem PySem.Spec PyProof.Rows PySem.W
abbrev EA(X:Cx)(pins:List (Addr×Obj)):Cx:={ X with pn:=X.pn++pins }
section
variable {X:Cx}{pins:List (Addr×Obj)}{σ:St}{H:Hp}{s:Shared}
theorem Inv.Sd(I:Inv X pins σ H s):Inv (EA X pins) [] σ H s :=
 ⟨⟨I.ok.mod,I.ok.kind,I.ok.glob,I.ok.blt,I.ok.above,I.ok.inj,I.ok.has,I.ok.Kf,I.ok.hd,I.ok.frames,I.ok.MF,I.ok.Qh,I.ok.bs,I.ok.C8,I.ok.xn,I.ok.BE,I.ok.jM,I.ok.IW⟩,I.os,I.bare,I.base,I.loc,I.cell,I.free,I.dI,fun p hp=>I.pin p (by simpa using hp),I.bf,I.len⟩
theorem Inv.Hr(I:Inv (EA X pins) [] σ H s):Inv X pins σ H s :=
 ⟨⟨I.ok.mod,I.ok.kind,I.ok.glob,I.ok.blt,I.ok.above,I.ok.inj,I.ok.has,I.ok.Kf,I.ok.hd,I.ok.frames,I.ok.MF,I.ok.Qh,I.ok.bs,I.ok.C8,I.ok.xn,I.ok.BE,I.ok.jM,I.ok.IW⟩,I.os,I.bare,I.base,I.loc,I.cell,I.free,I.dI,fun p hp=>I.pin p (by simpa using hp),I.bf,I.len⟩
end
end L2
namespace L2
open PySem PySem.Spec PyProof.Rows PySem.W
section
variable {K:Frag}{D:Ends}{σ:St}{H:Hp}{Q:VK}{EX:Eu}
theorem Hs{sp:Sp}{ts:TA}(h:ts σ H fun vs H1=>sp vs H1 Q fun C _ H2=>∃ c,C=.ref c/\EX c σ H2):Ex sp EX ts σ H Q:=h
theorem Hv{C:Addr}{ts:TA}(h:ts σ H fun vs H1=>vs.length<=1000/\EX C σ H1):Ez EX C ts D σ H:=h
end
end L2
namespace L2
open PySem PySem.Spec PyProof.Rows PySem.W
section
variable {K:Frag}{C D:Addr}{cd:ClassData}
theorem xT.mk' (q1:findIn K (.ref C) "__getattribute__"=some (some (.builtin "BaseException.__getattribute__"))) (q2:findIn K (.ref C) "__getattr__"=some none) (q3:clsIn K C=some cd)
  (q4:findIn K (.ref C) "__class__"=some (some (.builtin "object.__class__"))) (q5:specialIn K (.builtin "object.__class__") "__get__"=some (some (.builtin "getset_descriptor.__get__"))) (q6:takesIn K (.builtin "object.__class__")=some true)
  (q7:mroIn K C (.type "object")=some true) (q8:subIn K (.ref C) (.type "BaseException")=some true):xT K C :=
 ⟨q1,q2,by unfold findObj;rw [q3,Option.bind_some,q4,Option.bind_some];simp [q5,q6],q7,q8,by rw [q3];rfl⟩
theorem xU.mk' (q1:typeIn K (.ref D)=some (.type "type")) (q2:clsIn K D=some cd) (q3:subIn K (.ref D) (.type "BaseException")=some true):xU K D:=⟨q1,by rw [q2];rfl,q3⟩
end
open PySem PySem.Spec PyProof.Rows
section
variable {X:Cx}
theorem Bg{y:Str}{py OZ:Pos}{k:Nat}{tg iter elt:Expr}{ifs:List Expr}{scope:Scope}{pos:Pos}{N:List Str}{ix:List (Option Nat)}{wi:TI}{g:TG}{tt:TT}{te:TE}
  (hN:X.N.Nodup) (hk0:X.N[k]?=some y) (hy:Loc X.env.scope y) (hc:X.calm=true) (hi:PI X tg iter wi)
  (hg:∀ pins C s H fp,PG (b6 X pins N scope C s H fp) tg g)
  (ht:∀ pins C s H fp,Rt (b6 X pins N scope C s H fp) ifs tt)
  (he:∀ pins C s H fp,PE (b6 X pins N scope C s H fp) elt te)
  (hk:scope.kind=.function) (mY:∀ y∈scope.names,y.2≠.cell) (zp:∀ y∈scope.names,y.2=.local->scope.names.lookup y.1=some .local)
  (KU:(scope.names.all fun y=>!(y.2 == NameKind.free) || (X.env.cells.lookup y.1).isSome)=true) (NV:nK X scope N ix)
  (hs:∀ x,foldedSetIterable iter X.env x=pure x:=by intro _;rfl)
  (W6:swapsWith (.ListComp elt [⟨tg,iter,ifs,0⟩] scope pos) (some (.Name y py)) OZ.line X.env=pure true:=by rfl)
  (hf:X.fn y=true\/X.env.scope.names.lookup y=some .local:=by first|exact .inl rfl|exact .inr rfl|assumption) :
  PS X (.Assign [.Name y py] (.ListComp elt [⟨tg,iter,ifs,0⟩] scope pos) OZ) (Gr (DS ix wi g tt te) (br k)):=by
 intro pins s σ H D I h
 replace h:wi σ H fun J H1=>bT ix g tt te σ (fun x H1=>D.nx (σ.set k (some x)) H1) J H1:=h
 have tZ:∀ y∈scope.names,y.2=.free->(X.env.cells.lookup y.1).isSome=true:=fun y hy e=>by
  have z:=all_eq_true.mp KU y hy
  rw [e] at z
  simpa using z
 have KW:∀ p∈scope.names,p.2=.free->∃ c,X.env.cells.lookup p.1=some c:=fun p hp e=>Zx.mp (tZ p hp e)
 have d5:∀ x c,(jU X.env.cells scope.names []).lookup x=some c->X.env.cells.lookup x=some c:=oF (fun x c q=>by simp at q)
 have xx:∀ x,scope.names.lookup x=some .free->∃ c,(jU X.env.cells scope.names []).lookup x=some c:=fun x hx=>by
  have hm:=PySem.mem_of_lookup hx
  exact Zx.mp (oG (.inr ⟨hm,tZ _ hm rfl⟩))
 rw [exec_Assign_Name_used _ _ _ _ W6]
 refine Zg (wpAny_standAt (Zg ?_))
 show wpAny _ X.A (do let _ <- comprehension (.ListComp elt [⟨tg,iter,ifs,0⟩] scope pos) scope X.env _ (newList []) false (eval iter X.env) (some (assign (.Name y py) X.env))) _ _ s
 refine Zg (Zz (wpAny_comprehension_free (use:=some (assign (.Name y py) X.env)) (Q:=fun _ s'=>SP X pins D .next s') rfl hs (oE KW) hk zp (cb (hi pins s σ H _ I h) fun v s1 h1=>cb h1 fun Qj s2 h2=>?_)) (fun _ s' hq=>Zy (Zy hq)) fun _ _ e=>e)
 obtain ⟨it,fp,tn,J,H2,e,I2,T,Kp,f2,hW⟩:=h2
 subst e
 have zq:H2 s2.heap.objs.size=none:=I2.bf.fresh (Zn _)
 obtain ⟨W,⟨m0,w0⟩,turn⟩:=hW s2.heap.objs.size zq
 refine wpAny_newObj_type ?_
 have I3:Inv X pins σ (upd H2 s2.heap.objs.size (.lst [])) { s2 with heap:=s2.heap.push { cls:=.type "list",data:=.seq ([]:List Value).toArray } }:=I2.GH (its:=[]) (t':=s2.toks) .nil (ZZ _)
 have f3:∀ b∈fp,nI X pins (upd H2 s2.heap.objs.size (.lst [])) b:=fun b hb=>by
  refine⟨?_,(f2 b hb).2⟩
  obtain ⟨o,eo,_⟩:=T.obj _ _ Kp b hb
  rw [aG (Z0 (Zj eo))]
  exact (f2 b hb).1
 have AQ:tn 0 (s2.heap.push { cls:=.type "list",data:=.seq ([]:List Value).toArray }):=T.keep _ _ _ Kp fun b _ o e=>Zf _ e
 generalize t5:({ s2 with heap:=s2.heap.push { cls:=.type "list",data:=.seq ([]:List Value).toArray } }:Shared)=s3 at I3
 have AQ:tn 0 s3.heap:=by rw [<- t5];exact AQ
 generalize Wz:upd H2 s2.heap.objs.size (.lst [])=H3 at I3 f3 w0
 generalize Ru:s2.heap.objs.size=acc at *
 refine wpAny_newFunctionEnv mY (by intro y hy;simp at hy) (fun h₁ KY KZ=>?_) hk
 have old:∀ b o,s3.heap.get? b=some o->h₁.get? b=some o:=fun b o q=>KZ.extBut b o (Z0 (Zj q)) (Zf _ q)
 have zr:H3 s3.heap.objs.size=none:=I3.bf.fresh (Zn _)
 have NW:∀ b∈fp,b<s3.heap.objs.size:=fun b hb=>by
  obtain ⟨o,eo,_⟩:=T.obj _ _ AQ b hb
  exact Zj eo
 have zt:∀ b,b≠X.env.locals->b∉X.fs->b∉ow X.stack:=fun b h1 h2 z=>by
  rcases ZL.mp (I3.kL b z) with q|q
  ·exact h1 q
  ·exact h2 q
 have U7:∀ x c,X.env.cells.lookup x=some c->c<s3.heap.objs.size:=fun x c q=>by
  obtain ⟨v,z⟩:=I3.cell x c q
  exact z.lt
 have YI:∀ (h':Heap) (m:Str->Option Value),(∀ b o,s3.heap.get? b=some o->h'.get? b=some o)->h'.Ns s3.heap.objs.size m ->
   Inv (b6 X pins N scope s3.heap.objs.size s3 H3 fp) [] (pick ix σ) H3 { s3 with heap:=h',toks:=s3.toks+([]:List (Str×Value)).length }:=by
  intro h' m A3 hn
  refine⟨⟨I3.ok.mod,hk,I3.ok.glob,I3.ok.blt,Zn _,fun x y c q1 q2=>I3.ok.inj x y c (d5 x c q1) (d5 y c q2),fun x hx=>xx x (cV mY hx),fun x c hf _=>absurd hf Bool.false_ne_true,
   I3.ok.hd,I3.ok.frames,.inl rfl,fun b hb=>⟨Z0 (NW b hb),fun x c q=>(f3 b hb).2.2.2.2.1 x c (d5 x c q)⟩,I3.bs,Zm I3.ok.C8 I3.sz,fun b o e hb=>?_,fun b hb=>zt b (f3 b hb).2.1 (f3 b hb).2.2.1,I3.stack,I3.jN⟩,
   rfl,I3.bare,Un.kept A3,⟨m,hn,fun i x v h1 h2 h3=>?_⟩,fun x c q=>?_,zr,fun x c q=>I3.dI x c (d5 x c q),fun p hp=>?_,I3.bf.kept A3,?_⟩
  ·have q:=(I3.bs b o e).2
   rcases (f3 b hb).2.2.2.1 with z|z
   ·exact I3.ok.xn b o e z
   ·exact absurd (Nat.lt_of_lt_of_le (Zj e) (Zm I3.ok.C8 z)) (Nat.lt_irrefl _)
  ·obtain ⟨j,e1,e2⟩:=xv h2
   obtain ⟨a1,a2,a3,a4⟩:=NV.get h1 e1
   obtain ⟨mX,WA,Rv⟩:=I3.loc
   obtain ⟨u,ru,l⟩:=Rv j x v a1 e2 a2
   refine⟨u,ru,?_⟩
   rcases l with ⟨l1,_⟩|⟨_,c,lc,z⟩
   ·have Rw:X.env.scope.names.lookup x=some .local:=l1
    rw [Rw] at a3
    exact absurd a3 (by decide)
   ·obtain ⟨c',IZ⟩:=xx x a4
    have ec:=d5 x c' IZ
    rw [lc] at ec
    have Rx:c=c':=Zr ec
    subst Rx
    exact .inr ⟨fT a4,c,IZ,z.keeps A3⟩
  ·obtain ⟨v,z⟩:=I3.cell x c (d5 x c q)
   exact⟨v,z.keeps A3⟩
  ·have oH:p∈X.pn++pins:=by simpa using hp
   obtain ⟨a1,a2,a3,a4,a5⟩:=I3.pin p oH
   exact⟨A3 _ _ a1,a2,Z0 (Zj a1),zt p.1 a3 a4,a5⟩
  ·show (pick ix σ).length=N.length
   unfold pick
   rw [ZI]
   exact NV.len
 have K0:∀ {pl:List (Addr×Obj)} {H':Hp},pl=[]->(∀ b∈fp,H' b=none)->∀ b∈fp,nI (b6 X pins N scope s3.heap.objs.size s3 H3 fp) pl H' b:=fun {pl H'} Ry hn b hb=>by
  obtain ⟨f0,f1,NX,NY,f4,f5⟩:=f3 b hb
  subst Ry
  exact⟨hn b hb,Z0 (NW b hb),zt b f1 NX,.inl hb,fun x c q=>f4 x c (d5 x c q),fun p hp=>f5 p (by simpa using hp)⟩
 have loop:∀ s4:Shared,(∃ m,s4={ s3 with heap:=h₁,toks:=s3.toks+([]:List (Str×Value)).length }/\h₁.Ns s3.heap.objs.size m) ->
   codeAny (model X.prog X.w) X.A (.compLoop (.ListComp elt [⟨tg,iter,ifs,0⟩] scope pos) 0 (.ref it) (.ref acc) (compEnvC scope (jU X.env.cells scope.names []) s3.heap.objs.size X.env))
    (compPost (model X.prog X.w) X.A X.xe (some (assign (.Name y py) X.env)) (fun _ s'=>SP X pins D .next s') (.ref acc) s3.heap.objs.size) s4:=by
  rintro s4 ⟨m4,rfl,DT⟩
  refine tX (E:=fun _ _=>False) (fun _ _ z=>z.elim)
   (fun n s'=>∃ i σ' ys H',Inv (b6 X pins N scope s3.heap.objs.size s3 H3 fp) [] σ' H' s'/\tn i s'.heap/\(∀ b∈fp,H' b=none)/\W i n σ' ys H') ?_ m0
   ⟨0,pick ix σ,[],H3,YI h₁ m4 old DT,T.keep _ _ _ AQ fun b _ o q=>old b o q,fun b hb=>(f3 b hb).1,w0⟩
  rintro n s5 ⟨i,σ5,ys,H5,I5,Gv,Kr,w5⟩
  obtain ⟨WB,xy⟩:=turn i n σ5 ys H5 w5
  rcases xy with ⟨stop,q⟩|⟨go,m',zu,step⟩
  ·refine cb (T.done (b6 X pins N scope s3.heap.objs.size s3 H3 fp) rfl rfl rfl hc i [] s5 σ5 H5 (fun _ _=>False) I5 (K0 rfl Kr) Gv stop) fun r s6 ⟨hr,I6⟩=>?_
   subst hr
   obtain ⟨m6,Rz,_⟩:=I6.loc
   have W7:Inv X pins σ H5 s6:=I3.Dj (ch:=fp) I6.os I6.base I6.bf I6.bare fun b hb=>by
    obtain ⟨f0,f1,NX,NY,f4,f5⟩:=f3 b hb
    exact⟨NY,f1,f4,f5⟩
   have Gn:X.env.locals≠s3.heap.objs.size:=fun z=>by
    obtain ⟨m,⟨o,_,_,ho,_⟩,_⟩:=I3.loc
    exact Nat.lt_irrefl _ (z ▸ Zj ho)
   have O0:∀ x c,X.env.cells.lookup x=some c->c≠s3.heap.objs.size:=fun x c e=>Z0 (U7 x c e)
   refine wpAny_assign_Name (tK (u:=.ref acc) (v:=.ref acc) W7 hN hk0 hy rfl (fun s7 I7 ⟨a7,W8,W9⟩=>?_) hf)
   have Xa:s3.heap.objs.size≠a7:=by
    rcases W9 with z|z
    ·exact fun w=>Gn (z ▸ w.symm)
    ·exact fun w=>O0 _ _ z w.symm
   refine⟨m6,Rz.sameBut W8 Xa,fun h' sb=>?_⟩
   refine⟨σ.set k (some (.ref acc)),H5,Inv.Ey (ch:=[s3.heap.objs.size]) I7 (fun b hb=>?_) (fun b o _ _ nb e _=>(sb.2 b (fun z=>nb (by rw [z];exact ZF.mpr rfl))).trans e) (fun b o _ _ nb e _=>⟨o.slots,(sb.2 b (fun z=>nb (by rw [z];exact ZF.mpr rfl))).trans e⟩)
    (fun _ _ _ _ e=>e) (fun b o nb e=>⟨o,(sb.2 b (fun z=>nb (by rw [z];exact ZF.mpr rfl))).trans e⟩) (fun _ _ e=>e) (fun _ _ _ e=>e) (fun b ps e=>⟨#[],by simpa using e⟩) (fun m hm=>hm.sameBut sb Gn) (I7.bf.letGo I6.free sb),q⟩
   have eb:b=s3.heap.objs.size:=ZF.mp hb
   subst eb
   refine⟨?_,Ne.symm Gn,O0,fun p hp=>Z0 (Zj (I3.pin p hp).1)⟩
   cases q9:X.s₀.heap.get? s3.heap.objs.size with
   | none=>rfl
   | some o=>exact absurd (Nat.lt_of_lt_of_le (Zj q9) I3.sz) (Nat.lt_irrefl _)
  ·refine cb (T.item (b6 X pins N scope s3.heap.objs.size s3 H3 fp) rfl rfl rfl hc i [] s5 σ5 H5 (fun _ _=>False) I5 (K0 rfl Kr) Gv go) fun r s6 ⟨u,hr,h6⟩=>?_
   subst hr
   refine cb h6 fun _ s7 ⟨x,H7,I7,r7,y7,K1,RA⟩=>?_
   have RB:=I7.pinned (K0 rfl RA) (T.obj _ _ K1)
   refine cb (hg pins s3.heap.objs.size s3 H3 fp _ s7 σ5 H7 x u _ RB r7 (step x H7 y7)) fun _ s8 ⟨σ8,H8,I8,q8⟩=>?_
   refine cb (xw (ht pins s3.heap.objs.size s3 H3 fp) I8 q8) fun b s9 ⟨H9,I9,q9⟩=>?_
   have back:∀ {σz:St} {Hz:Hp} {sz:Shared} {yz:List V},Inv (b6 X pins N scope s3.heap.objs.size s3 H3 fp) ([]++kP fp s7.heap) σz Hz sz->W (i+1) m' σz yz Hz ->
     ∃ m,m<n/\∃ i σ' ys H',Inv (b6 X pins N scope s3.heap.objs.size s3 H3 fp) [] σ' H' sz/\tn i sz.heap/\(∀ b∈fp,H' b=none)/\W i m σ' ys H':=fun {σz Hz sz yz} Iz wz=>by
    refine⟨m',zu,i+1,σz,yz,Hz,Iz.gy,T.keep _ _ _ K1 fun b hb o e=>(Iz.pin (b,o) (ZD _ (ZD _ (dm hb e)))).1,fun b hb=>?_,wz⟩
    obtain ⟨o,e,d⟩:=T.obj _ _ K1 b hb
    exact (Iz.pin (b,o) (ZD _ (ZD _ (dm hb e)))).2.1
   cases b with
   | false=>exact back I9 q9
   | true =>
    refine cb (he pins s3.heap.objs.size s3 H3 fp _ s9 σ8 H9 _ I9 q9) fun v RC ⟨y,NZ,RD,RE,K2,K3,RF⟩=>?_
    refine cb (bZ _ RC σ8 NZ (.ref acc) [y] (.ref acc) [v] (fun _ H'=>H'=upd NZ acc (.lst (ys++[y]))) RD rfl (.cons RE .nil) ⟨acc,ys,y,rfl,rfl,K2,K3,rfl⟩) fun _ WC ⟨_,WD,RG,_,RH⟩=>?_
    subst RH
    exact back RG RF
 have DT:∃ m,h₁.Ns s3.heap.objs.size m:=⟨_,KY⟩
 obtain ⟨m4,DT⟩:=DT
 have L:=loop _ ⟨m4,rfl,DT⟩
 exact codeAny_compStart_list L (T.self _ 0 _ _ _ (T.keep _ _ _ AQ fun b _ o q=>old b o q) L)
end
section
variable {K:Frag}{H:Hp}{Q:VK}{D:Ends}{σ:St}
theorem join{t:TS}{u:St->Hp->Prop}(P:St->Hp->Prop)(h1:∀ nx:St->Hp->Prop,(∀ σ' H',P σ' H'->nx σ' H')->t { D with nx:=nx } σ H)(h2:∀ σ' H',P σ' H'->u σ' H'):t { D with nx:=u } σ H:=h1 u h2
end
def LG(K:Frag):List V->Hp->VK->Prop:=fun xs H Q=>∃ (a:Addr) (bs:List Bool),xs=[.ref a]/\bj K H a (bs.map V.bl)/\Q (.bl (bs.all id)) H
theorem zE(bs:List Bool):((List.range bs.length).all fun i=>(bs[i]?).getD true)=bs.all id:=by
 rw [Bool.eq_iff_iff,all_eq_true,all_eq_true]
 constructor
 ·intro h b hb
  obtain ⟨i,hi,rfl⟩:=List.getElem_of_mem hb
  have:=h i (ZQ.mpr hi)
  simpa [ZC hi] using this
 ·intro h i hi
  have A9:=ZQ.mp hi
  simpa [ZC A9] using h _ (Z2 A9)
section
variable {X:Cx}
theorem Cb (hc:X.calm=true):bM X (.builtin "all") (LG X.K):=by
 intro pins s σ H xs us Q I r h
 obtain ⟨a,bs,rfl,hs,q⟩:=h
 obtain ⟨u,rfl,ru⟩:=vals1 r
 cases ru
 obtain ⟨its,rv,p,_⟩:=I.list hs
 have hl:s.heap.IsList a its.toArray:=by
  obtain ⟨o,n,h1,h2,h3⟩:=p
  exact⟨o,h1,h2,n,h3.2⟩
 have jn:a<s.heap.objs.size:=by obtain ⟨_,e,_⟩:=hl;exact Zj e
 have hh:X.A.handled=none:=I.ok.hd hc
 refine call_all_walk (wpAny_pyIter_list hl ?_)
 refine⟨s.heap.objs.size,[s.heap.objs.size,a],[s.heap.objs.size],its.toArray.size,_,_,fun i=>(bs[i]?).getD true,rfl,Walks.list (A:=X.A.in1) hh _ a (Z0 jn) its.toArray,
  ⟨⟨_,Zk _ rfl,rfl,rfl⟩,hl.push _⟩,fun i v s' Q' E' hP hQ=>?_,fun h' tk hk=>?_⟩
 ·have Vo:its[i]?=some v:=by simpa using hP
  have hi:i<its.length:=(Zi.mp Vo).1
  have hb:i<bs.length:=by have:=rv.length;simp at this;lia
  obtain ⟨u1,e1,r1⟩:=rv.get (i:=i) (x:=.bl bs[i]) (by simp [hb])
  rw [Vo] at e1
  cases e1
  cases r1
  simp only [ZC hb,Option.getD_some] at hQ
  exact wpAny_truthy_bool hQ
 ·have e:((List.range its.toArray.size).all fun i=>(bs[i]?).getD true)=bs.all id:=by
   have:=rv.length
   simp at this
   rw [ZT,<- this];exact zE bs
  rw [e]
  exact⟨.bl (bs.all id),H,I.kept (t':=tk) (fun b x e=>hk b x (fun hm=>by rw [ZF.mp hm] at e;exact Nat.lt_irrefl _ (Zj e)) (Zf _ e)),rfl,q⟩
theorem uS (K:Frag) (hK:X.K=K) (hc:X.calm=true):bM X (.builtin "all") (LG K):=hK ▸ Cb hc
end
section
variable {K:Frag}{H:Hp}{Q:VK}{σ:St}
theorem Bh{a:Addr}{bs:List Bool}(e:bj K H a (bs.map V.bl))(h:Q (.bl (bs.all id)) H):LG K [.ref a] H Q:=⟨a,bs,rfl,e,h⟩
theorem LH {n:String} {b:Bool} (k:kitOne K (.type "NoneType") (.type n)=some b) (h:Q (.bl b) H):eJ K [.dj,.ty n] H Q:=⟨_,n,_,b,rfl,.inl .dj,k,h⟩
theorem LI {x:Str} {n:String} {b:Bool} (k:kitOne K (.type "str") (.type n)=some b) (h:Q (.bl b) H):eJ K [.str x,.ty n] H Q:=⟨_,n,_,b,rfl,.inl (.str _),k,h⟩
theorem zF{a:Addr}{xs:List V}{ix:List (Option Nat)}{te:TE}(F:V->V)(fr:St)(qt:pick ix σ=none::fr)(ha:aL K H a xs)(hn:xs.length<=1000)
  (step:∀ x H' (Qc:VK),x∈xs->ah H H'->(∀ H5,ah H' H5->Qc (F x) H5)->te (some x::fr) H' Qc)
  (hQ:∀ l H',H l=none->ah H H'->H' l=some (.lst (xs.map F))->Q (.ref l) H'):bT ix (br 0) (fun _ H Q=>Q true H) te σ Q (Dp K a) H:=by
 refine jZ fr xs.length (fun i=>F (xs.getD i .dj)) qt (by lia) (fun H' s=>⟨_,s.at ha,by simp⟩) (fun i H' hi s=>⟨_,xs[i],s.at ha,ZC hi⟩) (fun i x H' H2 Qc hi hs hy kc=>?_) fun l H' hl hs dB=>hQ l H' hl hs ?_
 ·obtain ⟨rfl,e1⟩:=hy
  have e2:=e1 _ (hs.at ha)
  have e3:xs.getD i .dj=x:=by rw [List.getD,e2];rfl
  rw [e3] at kc
  exact step _ _ Qc (ZH e2) hs kc
 ·rw [dB]
  congr 2
  apply ext_getElem (by simp)
  intro i h1 h2
  simp at h1 h2
  simp [List.getD,h2]
end
mutual
inductive gx(K:Frag)(H:Hp):V->PyData->Prop where
 | dj:gx K H .dj .none
 | bl (b:Bool):gx K H (.bl b) (.bool b)
 | int (i:Int):gx K H (.int i) (.int i)
 | str (x:Str):gx K H (.str x) (.str x)
 | tup {a:Addr} {xs:List V} {ds:List PyData} (h:aL K H a xs) (t:Tells K H xs ds):gx K H (.ref a) (.tuple ds)
 | lst {a:Addr} {xs:List V} {ds:List PyData} (h:bj K H a xs) (t:Tells K H xs ds):gx K H (.ref a) (.list ds)
inductive Tells(K:Frag)(H:Hp):List V->List PyData->Prop where
 | nil:Tells K H [] []
 | cons {x:V} {d:PyData} {xs:List V} {ds:List PyData} (h:gx K H x d) (t:Tells K H xs ds):Tells K H (x::xs) (d::ds)
end
section
variable {X:Cx}{pins:List (Addr×Obj)}{σ:St}{H:Hp}{s:Shared}
mutual
theorem gx.reads(I:Inv X pins σ H s):∀ {v:V} {d:PyData} {u:Value},gx X.K H v d->RelV v u->∃ as,Reads s.heap u d as
 | _,_,u,.dj,r=>by cases (show u=Value.none from r);exact⟨_,.none⟩
 | _,_,u,.bl b,r=>by cases (show u=Value.bool b from r);exact⟨_,.bool b⟩
 | _,_,u,.int i,r=>by
  obtain ⟨t,q⟩:=(show ∃ t,u=Value.int i t from r)
  cases q
  exact⟨_,.int i t⟩
 | _,_,u,.str x,r=>by
  obtain ⟨t,q⟩:=(show ∃ t,u=Value.str x t from r)
  cases q
  exact⟨_,.str x t⟩
 | _,_,u,.tup (a:=a) h t,r=>by
  cases (show u=Value.ref a from r)
  obtain ⟨its,rv,p,_⟩:=I.tuple h
  obtain ⟨o,h1,h2,n,h3⟩:=p
  obtain ⟨as,ra⟩:=Tells.reads I t rv
  exact⟨_,reads_tuple_at h1 h2 h3 (by simpa using ra)⟩
 | _,_,u,.lst (a:=a) h t,r=>by
  cases (show u=Value.ref a from r)
  obtain ⟨its,rv,p,_⟩:=I.list h
  obtain ⟨o,n,h1,h2,h3⟩:=p
  obtain ⟨as,ra⟩:=Tells.reads I t rv
  exact⟨_,reads_list_at h1 h2 h3.2 (by simpa using ra)⟩
theorem Tells.reads(I:Inv X pins σ H s):∀ {vs:List V} {ds:List PyData} {us:List Value},Tells X.K H vs ds->Vals vs us->∃ as,ReadsAll s.heap us ds as
 | _,_,_,.nil,.nil=>⟨_,.nil⟩
 | _,_,_,.cons h t,.cons r rs=>by
  obtain ⟨as,ra⟩:=gx.reads I h r
  obtain ⟨bs,rb⟩:=Tells.reads I t rs
  exact⟨_,.cons ra rb⟩
end
def LJ(K:Frag)(neg:Bool):R2:=fun x y H Q=>∃ d e,gx K H x d/\gx K H y e/\SeqAt.shaped d=true/\SeqAt.shaped e=true/\Q (.bl (if neg then !PyData.eqv d e else PyData.eqv d e)) H
theorem LK(hu:X.A.units+64<cLine):gz X (compareOp .NotEq) (LJ X.K true):=by
 intro pins s σ H x y v u Q I rx ry h
 obtain ⟨d,e,hd,he,sd,se,q⟩:=h
 obtain ⟨as,ra⟩:=hd.reads I rx
 obtain ⟨bs,rb⟩:=he.reads I ry
 exact ne_dataH ra rb sd se hu ⟨.bl (!PyData.eqv d e),H,I,rfl,q⟩
variable {K:Frag}
theorem Hy(K:Frag)(hK:X.K=K)(hu:X.A.units+64<cLine):gz X (compareOp .NotEq) (LJ K true):=hK ▸ LK hu
end
section
variable {K:Frag}{H:Hp}{Q:VK}
theorem O1{x y:V}{d e:PyData}(hd:gx K H x d)(he:gx K H y e)(sd:SeqAt.shaped d=true)(se:SeqAt.shaped e=true)(h:Q (.bl (!PyData.eqv d e)) H):LJ K true x y H Q:=⟨d,e,hd,he,sd,se,h⟩
def Rows(K:Frag)(H:Hp)(xs:List V)(rs:List (List Int)):Prop:=Tells K H xs (rs.map fun r=>.tuple (r.map PyData.int))
theorem Tells.ints:∀ (r:List Int),Tells K H (r.map V.int) (r.map PyData.int)
 | []=>.nil
 | i::r=>.cons (.int i) (Tells.ints r)
theorem gx.row{a:Addr}{r:List Int}(h:aL K H a (r.map V.int)):gx K H (.ref a) (.tuple (r.map PyData.int)):=.tup h (Tells.ints r)
end
end L2
namespace L2
open PySem PySem.Spec PyProof.Rows
section
variable {K:Frag}{g:TG}{D:Ends}{σ:St}{H:Hp}
theorem xV{J:It}{tb:TS}(n:Nat)(Pv:Nat->St->Hp->Prop)(h0:Pv 0 σ H)(D0:∀ i σ H2,i<n->Pv i σ H2->J.go i H2)(gE:∀ σ H2,Pv n σ H2->J.stop n H2)
  (hs:∀ i x σ H2 H3,i<n->Pv i σ H2->J.Dn i H2 x H3->g x σ H3 fun σ2 H4=>tb { D with nx:=Pv (i+1),ct:=Pv (i+1),bk:=D.nx } σ2 H4) (hd:∀ σ H2,Pv n σ H2->D.nx σ H2):cW g tb D J σ H:=by
 refine⟨fun i m σ2 H2=>m=n - i/\i<=n/\Pv i σ2 H2,⟨n,by simp,ZZ _,h0⟩,?_⟩
 rintro i m σ2 H2 ⟨rfl,hi,p⟩
 by_cases jn:i<n
 ·exact .inr ⟨D0 i σ2 H2 jn p,Pv (i+1),fun σ' H' p'=>⟨n - (i+1),by lia,rfl,jn,p'⟩,fun x H' y=>hs i x σ2 H2 H' jn p y⟩
 ·have e:i=n:=by lia
  subst e
  exact .inl ⟨gE σ2 H2 p,hd σ2 H2 p⟩
theorem uT{lo:Int}{n:Nat}{tb:TS}(Pv:Nat->St->Hp->Prop)(h0:Pv 0 σ H)(hs:∀ i σ H2,i<n->Pv i σ H2->g (.int (lo+i)) σ H2 fun σ2 H4=>tb { D with nx:=Pv (i+1),ct:=Pv (i+1),bk:=D.nx } σ2 H4)(hd:∀ σ H2,Pv n σ H2->D.nx σ H2):cW g tb D (Kl lo n) σ H:=by
 refine xV n Pv h0 (fun i σ H2 hi _=>hi) (fun σ H2 _=>Zn _) (fun i x σ H2 H3 hi p y=>?_) hd
 obtain ⟨rfl,rfl⟩:=y
 exact hs i σ _ hi p
theorem EB{a:Addr}{xs:List V}{tb:TS}(Pv:Nat->St->Hp->Prop)(h0:Pv 0 σ H)(ha:∀ i σ H2,Pv i σ H2->bj K H2 a xs)(hs:∀ i x σ H2,xs[i]?=some x->Pv i σ H2->g x σ H2 fun σ2 H4=>tb { D with nx:=Pv (i+1),ct:=Pv (i+1),bk:=D.nx } σ2 H4)(hd:∀ σ H2,Pv xs.length σ H2->D.nx σ H2):cW g tb D (MH K a) σ H:=by
 refine xV xs.length Pv h0 (fun i σ H2 hi p=>⟨xs,xs[i],ha i σ H2 p,ZC hi⟩) (fun σ H2 p=>⟨xs,ha _ σ H2 p,Zn _⟩) (fun i x σ H2 H3 hi p y=>?_) hd
 obtain ⟨rfl,e⟩:=y
 exact hs i x σ _ (e xs (ha i σ _ p)) p
end
def EC(K:Frag):List V->Hp->VK->Prop:=fun xs H Q=>∃ (a:Addr) (ns:List Int),xs=[.ref a]/\bj K H a (ns.map V.int)/\ns≠[]/\∀ m,m∈ns->(∀ x∈ns,x<=m)->Q (.int m) H
def LL(i j:Int):Prop:=j≠0/\j.natAbs.log2<9000
section
variable {X:Cx}
theorem Cc:gz X (binaryOp .FloorDiv) (rI LL fun i j=>.int (i.fdiv j)):=Kt fun _ _ _ _ _ _ _ hc q=>floordiv_int hc.1 q (.inl (PyProof.noPylong_of_log2 hc.2))
theorem Cd (hc:X.calm=true):bM X (.builtin "max") (EC X.K):=by
 intro pins s σ H xs us Q I r h
 obtain ⟨a,ns,rfl,hs,F7,q⟩:=h
 obtain ⟨u,rfl,ru⟩:=vals1 r
 cases ru
 obtain ⟨its,rv,p,_⟩:=I.list hs
 have hl:s.heap.IsList a its.toArray:=by
  obtain ⟨o,n,h1,h2,h3⟩:=p
  exact⟨o,h1,h2,n,h3.2⟩
 have hh:X.A.handled=none:=I.ok.hd hc
 have hi:IntsAre its ns:=intsAre_of rv
 obtain ⟨zs,hx⟩:=hi.allInts.items
 have hn:numsOf its.toArray.toList=ns:=by rw [show its.toArray.toList=its from rfl,hi.numsOf]
 rw [hx] at hl hn
 rw [nums_intItems] at hn
 have jq:0<zs.size:=by
  rcases eq_zero_or_pos zs.size with z|z
  ·exfalso;apply F7;rw [<- hn];apply List.eq_nil_of_length_eq_zero;rw [ZI,Array.length_toList,z]
  ·exact z
 refine max_intList hh hl jq fun v h' tk hv hk=>?_
 obtain ⟨t,rfl⟩:=intItems_at hv
 obtain ⟨h1,h2⟩:=argBest_gt (numAt zs) (zs.size - 1)
 refine⟨.int _,H,I.kept (t':=tk) hk,⟨t,rfl⟩,q _ ?_ fun b hb=>?_⟩
 ·rw [<- hn,numAt_eq];exact getD_mem (by rw [ZI,Array.length_toList];lia)
 ·rw [<- hn] at hb
  obtain ⟨j,hj,rfl⟩:=mem_getD hb
  rw [ZI,Array.length_toList] at hj
  rw [<- numAt_eq];exact h2 j (by lia)
theorem Bi (K:Frag) (hK:X.K=K) (hc:X.calm=true):bM X (.builtin "max") (EC K):=hK ▸ Cd hc
end
section
variable {K:Frag}{H:Hp}{Q:VK}{σ:St}{ix:List (Option Nat)}
theorem ED{a:Addr}{ns:List Int}(e:bj K H a (ns.map V.int))(n:ns≠[])(h:∀ m,m∈ns->(∀ x∈ns,x<=m)->Q (.int m) H):EC K [.ref a] H Q:=⟨a,ns,rfl,e,n,h⟩
end
end L2
namespace L2
open PySem
structure En(k:Bool)(n a:Nat)(i:Nat)(h:Heap):Prop where
 ob:∃ last:Value,IsEnum h (n+1) n i last
 src:gw k h n a i
section
variable {prog:Program}{w:World}{A:Around}{E:Value->Shared->Prop}{s:Shared}
theorem HF{k:Bool}{n a:Nat}{i:Nat}{xs:Array Value}{x:Value}{Q:Value->Shared->Prop}(Z:En k n a i s.heap)(ha:a<n)(hs:aX k s.heap a xs)(hx:xs[i]?=some x)
  (hQ:∀ h' t,IsEnumOut h' (n+1) n ((i:Int)+1) x s.heap.objs.size->gw k h' n a (i+1)->IsT h' s.heap.objs.size #[.int i t,x]->h'.objs.size=s.heap.objs.size+1->Off [n,n+1] s.heap h'->Q (.ref s.heap.objs.size) { s with heap:=h',toks:=s.toks+1 }) :
  wpAny (model prog w) A (Builtin.«enumerate.__next__» ⟨[.ref (n+1)],[]⟩) (fun fin s'=>∃ v,fin=.done (.ret v)/\Q v s') E s:=by
 obtain ⟨⟨last,ob⟩,src⟩:=Z
 obtain ⟨hp,gg,dd,tt,oo⟩:=s
 have n1:(n+1:Addr)≠n:=bI (by lia)
 show wpAny _ _ (field (.ref (n+1)) 2 >>= _) _ _ _
 refine Zg (wpAny_field ob rfl (x:=.ref n) rfl (Zg (d7 src hs hx fun g1 O2 q1=>?_)))
 replace q1:Heap.SameBut n hp g1:=q1
 have Qv:IsEnum g1 (n+1) n i last:=(q1.2 _ n1).trans ob
 show wpAny _ _ (field (.ref (n+1)) 3 >>= _) _ _ ⟨g1,gg,dd,tt,oo⟩
 refine Zg (wpAny_field Qv rfl (x:=rawInt i) rfl ?_)
 show wpAny _ _ (field (.ref (n+1)) 4 >>= _) _ _ ⟨g1,gg,dd,tt,oo⟩
 refine Zg (wpAny_field Qv rfl (x:=.none) rfl ?_)
 show wpAny _ _ (mkInt i >>= _) _ _ ⟨g1,gg,dd,tt,oo⟩
 refine Zg (wpAny_mkInt ?_)
 show wpAny _ _ (setField (.ref (n+1)) 3 (rawInt ((i:Int)+1)) >>= _) _ _ ⟨g1,gg,dd,tt+1,oo⟩
 refine Zg (wpAny_setField_rec Qv (by simp) fun g2 MR q2=>?_)
 replace q2:Heap.SameBut (n+1) g1 g2:=q2
 replace MR:IsEnum g2 (n+1) n ((i:Int)+1) last:=MR
 show wpAny _ _ (setField (.ref (n+1)) 4 .none >>= _) _ _ ⟨g2,gg,dd,tt+1,oo⟩
 refine Zg (wpAny_setField_rec MR (by simp) fun g3 Qw q3=>?_)
 replace q3:Heap.SameBut (n+1) g2 g3:=q3
 replace Qw:IsEnum g3 (n+1) n ((i:Int)+1) last:=Qw
 show wpAny _ _ (newTuple [.int i tt,x] >>= _) _ _ ⟨g3,gg,dd,tt+1,oo⟩
 refine Zg (wpAny_newTuple ?_)
 have z3:g3.objs.size=hp.objs.size:=by rw [q3.1,q2.1,q1.1]
 have elt:n+1<hp.objs.size:=Zj ob
 obtain ⟨g4,e4⟩:∃ g4,g4=g3.push { cls:=.type "tuple",data:=.seq #[.int i tt,x] }:=⟨_,rfl⟩
 have Se:IsEnum g4 (n+1) n ((i:Int)+1) last:=by rw [e4];exact Zf _ Qw
 have t4:IsT g4 hp.objs.size #[.int i tt,x]:=by rw [e4,<- z3];exact Zk _ rfl
 have z4:g4.objs.size=hp.objs.size+1:=by rw [e4,Heap.size_push,z3]
 have o4:Off [n,n+1] hp g4:=by
  rw [e4]
  exact (((Off.of q1 (by simp)).trans (Off.of q2 (by simp))).trans (Off.of q3 (by simp))).trans (Off.push _)
 have Sf:gw k g4 n a (i+1):=O2.keep fun o e=>by
  rw [e4]
  exact Zf _ ((q3.2 _ n1.symm).trans ((q2.2 _ n1.symm).trans e))
 show wpAny _ _ (Builtin.SmallTypes.ownedTupleIsFree (.ref (n+1)) >>= _) _ _ ⟨_,gg,dd,tt+1,oo⟩
 rw [z3,<- e4]
 clear e4 Qw q3 MR q2 Qv q1 O2 z3
 refine Zg ?_
 unfold Builtin.SmallTypes.ownedTupleIsFree
 refine Zg (wpAny_field Se rfl (x:=.none) rfl (Zy ?_))
 rw [if_pos rfl]
 refine Zg (wpAny_rule (Zg (wpAny_field Se rfl (x:=last) rfl (Zg (wpAny_setField_rec Se (by simp) fun g5 Sh q5=>?_)))))
 replace q5:Heap.SameBut (n+1) g4 g5:=q5
 replace Sh:IsEnum g5 (n+1) n ((i:Int)+1) x:=Sh
 show wpAny _ _ (Builtin.SmallTypes.ownedTupleHandOut (.ref (n+1)) (.ref hp.objs.size) >>= _) _ _ ⟨g5,gg,dd,tt+1,oo⟩
 refine Zg ?_
 unfold Builtin.SmallTypes.ownedTupleHandOut
 refine Zg (wpAny_setField_rec Sh (by simp) fun g6 Si q6=>?_)
 replace q6:Heap.SameBut (n+1) g5 g6:=q6
 replace Si:IsEnumOut g6 (n+1) n ((i:Int)+1) x hp.objs.size:=Si
 refine wpAny_setField_rec Si (by simp) fun g7 Sj q7=>?_
 replace q7:Heap.SameBut (n+1) g6 g7:=q7
 replace Sj:IsEnumOut g7 (n+1) n ((i:Int)+1) x hp.objs.size:=Sj
 have up:∀ c o,c≠n+1->g4.get? c=some o->g7.get? c=some o:=fun c o hc e=>(q7.2 _ hc).trans ((q6.2 _ hc).trans ((q5.2 _ hc).trans e))
 refine Zg (wpAny_letGo (Zy ⟨_,rfl,hQ g7 tt Sj (Sf.keep fun o e=>up _ o n1.symm e) (up _ _ (Nat.ne_of_gt elt) t4) (by rw [q7.1,q6.1,q5.1,z4]) fun c o hc e=>?_⟩))
 exact up c o (fun z=>hc (by simp [z])) (o4 c o hc e)
theorem Ce{k:Bool}{n a:Nat}{i:Nat}{xs:Array Value}{x:Value}{Q:Option Value->Shared->Prop}(Z:En k n a i s.heap)(ha:a<n)(hs:aX k s.heap a xs)(hx:xs[i]?=some x)
  (hQ:∀ h' t,IsEnumOut h' (n+1) n ((i:Int)+1) x s.heap.objs.size->gw k h' n a (i+1)->IsT h' s.heap.objs.size #[.int i t,x]->h'.objs.size=s.heap.objs.size+1->Off [n,n+1] s.heap h'->Q (some (.ref s.heap.objs.size)) { s with heap:=h',toks:=s.toks+1 }) :
  wpAny (model prog w) A (pyNext (.ref (n+1))) Q E s:=by
 have ty:s.TypeIs (.ref (n+1)) "enumerate":=by obtain ⟨last,ob⟩:=Z.ob;exact⟨_,ob,rfl⟩
 unfold pyNext
 exact Zg (wpAny_attempt (wpAny_callSpecial?_slot (name:=Str.ofString "__next__") ty F.slot_enumerate_next (wpAny_call_entry F.slot_enumerate_next ty F.entry_enumerate_next
  (HF Z ha hs hx fun h' t b1 b2 b3 b4 b5=>Zy (hQ h' t b1 b2 b3 b4 b5)) (F.args_enumerate_next_1 _))))
theorem qw{k:Bool}{n a:Nat}{i:Nat}{xs:Array Value}{Q:Option Value->Shared->Prop}(hh:A.handled=none)(Z:En k n a i s.heap)(hs:aX k s.heap a xs)(hx:xs[i]?=none)
  (hQ:∀ h',Off [n,n+1] s.heap h'->Q none { s with heap:=h' }):wpAny (model prog w) A (pyNext (.ref (n+1))) Q E s:=by
 obtain ⟨⟨last,ob⟩,src⟩:=Z
 have ty:s.TypeIs (.ref (n+1)) "enumerate":=⟨_,ob,rfl⟩
 unfold pyNext
 refine Zg (wpAny_attempt (wpAny_callSpecial?_slot (name:=Str.ofString "__next__") ty F.slot_enumerate_next (wpAny_call_entry F.slot_enumerate_next ty F.entry_enumerate_next ?_ (F.args_enumerate_next_1 _))))
 show wpAny _ _ (field (.ref (n+1)) 2 >>= _) _ _ _
 refine Zg (wpAny_field ob rfl (x:=.ref n) rfl (Zg (n9 hh src hs hx fun h' e off ⟨o,ho,hc⟩=>?_)))
 exact Zg (wpAny_isInstance (T:="StopIteration") (b:=true) ⟨o,ho,hc⟩ isSubtype_stop (Zy (hQ _ fun c u hc e=>off c u (fun z=>hc (by simp [z])) e)))
abbrev MS (k:Bool) (h:Heap) (a:Addr):Heap:=(h.push (bg k a)).push { cls:=.type "enumerate",data:=.fields #[.none,.bool false,.ref h.objs.size,rawInt 0,.none,.none] }
end
end L2
namespace L2
open PySem
open AutoSeq1 (wpAny_loadPart')
theorem HH(k:Bool)(a:Addr)(xs:Array Value) :
  Meets (Builtin.«enumerate.__new__» ⟨[.type "enumerate",.ref a],[]⟩) (fun _ R s=>aX k s.heap a xs/\R (.ok (.ret (.ref (s.heap.objs.size+1)))) { s with heap:=MS k s.heap a }) :=
 .of_wp fun prog w A R s h=>by
  obtain ⟨hp,gg,dd,tt,oo⟩:=s
  obtain ⟨src,r⟩:=h
  have sub:=sub_enumerate
  have S:aX k (Shared.heap ⟨hp,gg,dd,tt,oo⟩) a xs:=src
  obtain ⟨ob,e⟩:∃ ob,hp.get? a=some ob:=by
   cases k
   ·obtain ⟨ob,e,_⟩:=src;exact⟨ob,e⟩
   ·obtain ⟨ob,e,_⟩:=src;exact⟨ob,e⟩
  obtain ⟨oc,od,ot,os⟩:=ob
  have last:(hp.push (bg k a)).objs.size=hp.objs.size+1:=Heap.size_push ..
  have r':R (.ok (.ret (.ref (hp.push (bg k a)).objs.size))) ⟨MS k hp a,gg,dd,tt,oo⟩:=by rw [last];exact r
  wp_walk using wpAny_loadPart' e
  refine wpAny_stack_any fun st=>Zy ?_
  split
  ·rename_i c _ _ _ _ _
   cases (c == Value.type "enumerate") <;> (wp_walk using wpAny_loadPart' e,d6 S;exact⟨_,rfl,r'⟩)
  ·wp_walk using wpAny_loadPart' e,d6 S
   exact⟨_,rfl,r'⟩
open PySem PySem.Spec PyProof.Rows
def O3(K : Frag)(k : Bool)(a : Addr) : It :=
  ⟨fun i H => ∃ xs x, Sq k K H a xs /\ xs[i]?=some x,
   fun i H v H' => ∃ p x, v=.ref p /\ H p=none /\ (∀ xs, Sq k K H a xs -> xs[i]?=some x) /\ H'=upd H p (.tup [.int i, x]),
   fun i H => ∃ xs, Sq k K H a xs /\ xs.length <= i⟩
theorem HP{P:Program}{w:World}{K:Frag}{es:List Expr}{kk:Nat}{pos:Pos}{k:Bool}(n a:Nat)(ha:a<n) :
  Turn P w K (.Tuple es kk pos) (O3 K k a) [n+1,n] (n+1) (fun i h=>En k n a i h) where
 mem:=by simp
 obj:=fun i h st c hc=>by
  obtain ⟨⟨last,ob⟩,src⟩:=st
  simp only [ZL,not_mem_nil,or_false] at hc
  rcases hc with rfl|rfl
  ·exact⟨_,ob,fun v z=>nomatch z⟩
  ·exact src.obj
 keep:=fun i h h' st k=>by
  obtain ⟨⟨last,ob⟩,src⟩:=st
  exact⟨⟨last,k _ (by simp) _ ob⟩,src.keep fun o e=>k _ (by simp) o e⟩
 item:=by
  intro X hP hw hK hc i pins s σ H E I hf st hg
  subst hP hw hK
  obtain ⟨xs,x,qx,ex⟩:=hg
  obtain ⟨DW,r1,s1,_⟩:=I.sq qx
  obtain ⟨u,hu,ru⟩:=r1.get ex
  refine Ce st ha s1 (x:=u) (by simpa using hu) fun h' t ob src hT jq off=>⟨_,rfl,?_⟩
  have BV:H s.heap.objs.size=none:=I.bf.fresh (Zn _)
  have N5:n+1<s.heap.objs.size:=by obtain ⟨last,b⟩:=st.ob;exact Zj b
  refine wpAny_letOwnedTupleGo_enum ob fun h2 MR eE=>?_
  have gD:Off [n+1,n] s.heap h2:=fun c o hc e=>(eE.2 c fun z=>hc (by simp [z])).trans (off c o (fun z=>hc (by simp only [ZL,not_mem_nil,or_false] at z ⊢;exact z.symm)) e)
  have De:IsT h2 s.heap.objs.size #[.int i t,u]:=(eE.2 _ (Nat.ne_of_gt N5)).trans hT
  refine⟨.ref s.heap.objs.size,upd H s.heap.objs.size (.tup [.int i,x]),?_,rfl,⟨_,x,rfl,BV,fun zs DX=>by rw [I.kU DX qx];exact ex,rfl⟩,?_,fun c hc=>?_⟩
  ·refine Inv.off (s:=s) (h':=h2) (t':=s.toks+1) (ch:=[n+1,n]) I hf gD (I.bf.zw (fun c hc=>(hf c hc).1) gD (Zn _) ?_) (fun c o _ e hn=>?_) fun c o e=>?_
   ·exact⟨by show 2<=sizeLine;decide,[.int i t,u],.cons ⟨t,rfl⟩ (.cons ru .nil),⟨_,De,rfl,_,rfl⟩⟩
   ·rw [aG (Z0 (Zj e))];exact hn
   ·rw [aG (ba e BV)];exact e
  ·exact⟨⟨_,MR⟩,src.keep fun o e=>(eE.2 _ (bI (by lia))).trans e⟩
  ·have cn:c≠s.heap.objs.size:=by
    simp only [ZL,not_mem_nil,or_false] at hc
    rcases hc with rfl|rfl <;> exact bI (by lia)
   rw [aG cn];exact (hf c hc).1
 done:=by
  intro X hP hw hK hc i pins s σ H E I hf st hg
  subst hP hw hK
  obtain ⟨xs,qx,zv⟩:=hg
  obtain ⟨DW,r1,s1,_⟩:=I.sq qx
  have e1:=r1.length
  refine qw (I.ok.hd hc) st s1 (by simp;lia) fun h' off=>⟨rfl,?_⟩
  have gD:Off [n+1,n] s.heap h':=fun c o hc e=>off c o (fun z=>hc (by simp only [ZL,not_mem_nil,or_false] at z ⊢;exact z.symm)) e
  exact Inv.off (s:=s) (t':=s.toks) I hf gD (I.bf.off (fun c hc=>(hf c hc).1) gD) (fun _ _ _ _ q=>q) fun _ _ q=>q
 self:=fun _ _ _ _ _ st h=>by
  obtain ⟨last,ob⟩:=st.ob
  exact wpAny_pyIter_enum ob h
section
variable {X:Cx}
def EE(K:Frag)(k:Bool)(ta:TA):TI:=fun σ H R=>ta σ H fun vs H1=>∃ a,vs=[.ref a]/\(∃ xs,Sq k K H1 a xs)/\R (O3 K k a) H1
theorem HQ (k:Bool) {es:List Expr} {kk:Nat} {oI:Pos} {a:Expr} {ta:TA} {p pos:Pos} (hg:Gl X "enumerate") (hm:X.mg "enumerate"=none) (ha:PA X [a] ta) (hs:starEach [a] X.env=[(false,eval a X.env)]:=by rfl) :
  PI X (.Tuple es kk oI) (.Call (.Name "enumerate" p) [a] [] pos) (EE X.K k ta):=by
 intro pins s σ H R I h
 refine Call_ (jm I hg hm boot_enumerate (callWith_type1 (cb (ha pos pins s σ H _ I h) fun us s1 ⟨vs,H1,I1,r1,q1⟩=>?_) (by rw [hs];rfl) (by rfl)))
 obtain ⟨a',e,⟨xs,qx⟩,q⟩:=q1
 subst e
 obtain ⟨u,rfl,ru⟩:=vals1 r1
 cases ru
 obtain ⟨DW,r1,Jr,_⟩:=I1.sq qx
 refine callType_new PySem.F.called_enumerate (by decide) (PySem.F.typeCall_enumerate_1 _) (PySem.F.newCall_enumerate_1 _) (fun obj=>PySem.F.args_object_init_2 obj _) PySem.F.entry_enumerate_new (HH k a' DW.toArray) ⟨Jr,?_⟩
 have z1:(s1.heap.push (bg k a')).objs.size=s1.heap.objs.size+1:=Heap.size_push ..
 have g2:(MS k s1.heap a').get? (s1.heap.objs.size+1)=some { cls:=.type "enumerate",data:=.fields #[.none,.bool false,.ref s1.heap.objs.size,rawInt 0,.none,.none] }:=by rw [<- z1];exact Zk _ rfl
 have g1:(MS k s1.heap a').get? s1.heap.objs.size=some (bg k a'):=Zf _ (Zk _ (by cases k <;> rfl))
 have old:∀ c o,s1.heap.get? c=some o->(MS k s1.heap a').get? c=some o:=fun c o x=>Zf _ (Zf _ x)
 have Z:En k s1.heap.objs.size a' 0 (MS k s1.heap a'):=⟨⟨_,g2⟩,fJ g1⟩
 show _/\_
 refine⟨⟨_,g2,rfl⟩,wpAny_pyIter_enum g2 ?_⟩
 refine⟨_,_,_,_,H1,rfl,I1.kept (t':=s1.toks) old,HP s1.heap.objs.size a' Jr.lt,Z,fun c hc=>?_,q⟩
 have xi:s1.heap.objs.size<=c:=by
  simp only [ZL,not_mem_nil,or_false] at hc
  rcases hc with rfl|rfl <;> first|exact Nat.le_add_right _ _|exact Zn _
 exact I1.zg xi (I1.bf.fresh xi)
theorem j8 (K:Frag) (hK:X.K=K) (k:Bool) {es:List Expr} {kk:Nat} {oI:Pos} {a:Expr} {ta:TA} {p pos:Pos} (hg:Gl X "enumerate") (hm:X.mg "enumerate"=none) (ha:PA X [a] ta) (hs:starEach [a] X.env=[(false,eval a X.env)]:=by rfl) :
  PI X (.Tuple es kk oI) (.Call (.Name "enumerate" p) [a] [] pos) (EE K k ta):=hK ▸ HQ k hg hm ha hs
end
section
variable {K:Frag}{H:Hp}{σ:St}{D:Ends}
def O4(K:Frag)(k:Bool):List V->Hp->(It->Hp->Prop)->Prop:=fun vs H R=>∃ a,vs=[.ref a]/\(∃ xs,Sq k K H a xs)/\R (O3 K k a) H
theorem HR{k:Bool}{ts:TA}{R:It->Hp->Prop}(h:ts σ H fun vs H1=>O4 K k vs H1 R):EE K k ts σ H R:=h
theorem O5{k:Bool}{a:Addr}{xs:List V}{R:It->Hp->Prop}(e:Sq k K H a xs)(h:R (O3 K k a) H):O4 K k [.ref a] H R:=⟨a,rfl,⟨_,e⟩,h⟩
end
inductive dC(K:Frag)(H:Hp):List V->List (List Int)->Prop where
 | nil:dC K H [] []
 | cons {a:Addr} {r:List Int} {xs:List V} {rs:List (List Int)} (h:aL K H a (r.map V.int)) (t:dC K H xs rs):dC K H (.ref a::xs) (r::rs)
namespace dC
variable {K:Frag}{H H':Hp}
theorem length:∀ {xs:List V} {rs:List (List Int)},dC K H xs rs->rs.length=xs.length
 | _,_,.nil=>rfl
 | _,_,.cons _ t=>by rw [length_cons,length_cons,t.length]
theorem get:∀ {xs:List V} {rs:List (List Int)} {i:Nat} {x:V},dC K H xs rs->xs[i]?=some x->∃ a r,x=.ref a/\aL K H a (r.map V.int)/\rs[i]?=some r
 | _,_,_,_,.nil,h=>by simp at h
 | _,_,0,_,.cons (a:=a) (r:=r) h _,e=>by
  simp at e
  exact⟨a,r,e.symm,h,rfl⟩
 | _,_,i+1,_,.cons _ t,e=>by
  obtain ⟨a,r,h1,h2,h3⟩:=get (i:=i) t (by simpa using e)
  exact⟨a,r,h1,h2,by simpa using h3⟩
theorem append:∀ {xs ys:List V} {rs qs:List (List Int)},dC K H xs rs->dC K H ys qs->dC K H (xs++ys) (rs++qs)
 | _,_,_,_,.nil,u=>u
 | _,_,_,_,.cons h t,u=>.cons h (t.append u)
theorem snoc{xs:List V}{rs:List (List Int)}{a:Addr}{r:List Int}(t:dC K H xs rs)(h:aL K H a (r.map V.int)):dC K H (xs++[.ref a]) (rs++[r]):=t.append (.cons h .nil)
theorem off{l:Addr}{ys zs:List V}:∀ {xs:List V} {rs:List (List Int)},dC K H xs rs->H l=some (.lst ys)->dC K (upd H l (.lst zs)) xs rs
 | _,_,.nil,_=>.nil
 | _,_,.cons h t,e=>.cons ((Et h e).imp (fun q=>q.imp (fun q=>by rw [aG (fun z=>by rw [z,xS] at q;cases q)];exact oh _ _ q) fun ⟨o,q⟩=>⟨o,by rw [aG (fun z=>by rw [z,xS] at q;cases q)];exact oh _ _ q⟩) id) (t.off e)
end dC
theorem iN{K:Frag}{H:Hp}{l a:Addr}{xs ys zs:List V}(h:aL K H a xs)(e:H l=some (.lst ys)):aL K (upd H l (.lst zs)) a xs :=
 (Et h e).imp (fun q=>q.imp (fun q=>by rw [aG (fun z=>by rw [z,xS] at q;cases q)];exact oh _ _ q) fun ⟨o,q⟩=>⟨o,by rw [aG (fun z=>by rw [z,xS] at q;cases q)];exact oh _ _ q⟩) id
end L2
namespace L2
open PySem PySem.Spec PyProof.Rows PySem.W
section
variable {M:Model}{A:Around}{E:Value->Shared->Prop}{s:Shared}
theorem uf{base:Heap}{env:Env}{outer:List Env}{L e:Addr}{oe:Obj}{vs:Array Value}{head:Value}{uR:Bool}{Q:Unit->Shared->Prop}
  (tZ:A.frames=some (env::outer)) (hl:s.heap.FunFrames base (env::outer)) (hf:env.frame=some L) (he:s.heap.get? e=some oe) (hd:oe.data=.fields vs) (jq:1<vs.size)
  (h:∀ h' T,(∀ b o,b≠e->b∉ow (env::outer)->s.heap.get? b=some o->h'.get? b=some o)->(∀ b o,b≠e->s.heap.get? b=some o->∃ sl,h'.get? b=some { o with slots:=sl }) ->
   s.heap.get? T=none->T≠e->h'.get? e=some (oe.mapFields (·.setIfInBounds 1 (.ref T)))->(∃ oT ts,h'.get? T=some oT/\oT.data=.fields ts/\ts[3]?=some (rawInt L))->Q () { s with heap:=h' }) :
  wpAny M A (do let a <- frameOf env;let pl <- entryPlaceOf L uR;let b <- EntryCells.newEntry head a .none (rawInt L) .none pl;setField (.ref e) 1 b) Q E s:=by
 have LC:e∉(env::outer).filterMap (·.frame):=fun hm=>by
  obtain ⟨_,o,ho,zC⟩:=hl.mem hm
  rw [he] at ho;injection ho with ho;subst ho;exact zC vs hd
 refine Zg (wpAny_frameOf_fun tZ hl hf fun h₁ Hh=>Zg (wpAny_entryPlaceOf fun pl oC=>?_))
 unfold EntryCells.newEntry newFields
 refine Zg (wpAny_newObj_type ?_ (oC.sizeOk5 _ _ _ _ _))
 have OW:h₁.get? e=some oe:=(Hh.2.1 e LC).trans he
 obtain ⟨tb,Sk⟩:∃ tb:Obj,tb={ cls:=.type "traceback",dict:=none,data:=.fields ([head,.ref L,.none,rawInt L,.none]++(if pl.isEmpty then List.replicate 6 Value.none else pl)).toArray }:=⟨_,rfl⟩
 have Xb:∃ ts,tb.data=.fields ts/\ts[3]?=some (rawInt L):=by rw [Sk];exact⟨_,rfl,by simp⟩
 have zC:tb.isFreed=false:=by rw [Sk];rfl
 show wpAny M A (setField (.ref e) 1 (.ref h₁.objs.size)) Q E { s with heap:=h₁.push _ }
 rw [<- Sk]
 have OX:=Zf (h:=h₁) tb OW
 have F8:h₁.objs.size≠e:=Nat.ne_of_gt (Zj OW)
 refine wpAny_setField OX hd jq (h _ h₁.objs.size (fun b o xm R9 hb=>?_) (fun b o xm hb=>?_) (Heap.get?_none_of_le (by rw [Hh.1];exact Zn _)) F8 (Heap.get?_update_self _ OX (Obj.isFreed_of_fields (Obj.data_mapFields hd _))) ?_)
 ·rw [Heap.get?_update_other _ _ (Ne.symm xm)]
  exact Zf _ ((Hh.2.1 b R9).trans hb)
 ·obtain ⟨sl,hs⟩:=Hh.2.2 b o hb
  exact⟨sl,by rw [Heap.get?_update_other _ _ (Ne.symm xm)];exact Zf _ hs⟩
 ·obtain ⟨ts,q1,q2⟩:=Xb
  exact⟨tb,ts,(Heap.get?_update_other _ _ (Ne.symm F8)).trans (Zk h₁ zC),q1,q2⟩
theorem EF{base:Heap}{env:Env}{outer:List Env}{L e:Addr}{oe:Obj}{vs:Array Value}{T0:Option Addr}{Q:Unit->Shared->Prop}
  (tZ:A.frames=some (env::outer)) (hl:s.heap.FunFrames base (env::outer)) (hf:env.frame=some L) (he:s.heap.get? e=some oe) (hd:oe.data=.fields vs) (hh:zD s.heap e vs T0)
  (h:∀ h' T,(∀ b o,b≠e->some b≠T0->b∉ow (env::outer)->s.heap.get? b=some o->h'.get? b=some o)->(∀ b o,b≠e->some b≠T0->s.heap.get? b=some o->∃ sl,h'.get? b=some { o with slots:=sl }) ->
   s.heap.get? T=none->T≠e->h'.get? e=some (oe.mapFields (·.setIfInBounds 1 (.ref T)))->(∃ oT ts,h'.get? T=some oT/\oT.data=.fields ts/\ts[3]?=some (rawInt L))->Q () { s with heap:=h' }) :
  wpAny M A (noteFrame (.ref e) env) Q E s:=by
 unfold noteFrame
 simp only [hf]
 cases T0 with
 | none =>
  have h1:vs[1]?=some .none:=hh
  refine Zg (wpAny_field he hd h1 ?_)
  rw [if_neg (by decide)]
  exact uf tZ hl hf he hd (Array.getElem?_eq_some_iff.mp h1).1 fun h' T k1 k2 k3 k4 k5 k6=>h h' T (fun b o b1 _ b3 b4=>k1 b o b1 b3 b4) (fun b o b1 _ b3=>k2 b o b1 b3) k3 k4 k5 k6
 | some T =>
  obtain ⟨h1,F8,oT,ts,hT,oi,h3⟩:=hh
  refine Zg (wpAny_field he hd h1 ?_)
  rw [if_pos (show (Value.ref T != Value.none)=true from by simp)]
  refine Zg (wpAny_field hT oi h3 ?_)
  rw [if_neg (show ¬ ((Value.none == rawInt L)=true) from by simp [rawInt])]
  refine Zg (wpAny_setField hT oi (Array.getElem?_eq_some_iff.mp h3).1 ?_)
  have other:∀ b,b≠T->(s.heap.update T (Obj.mapFields (·.setIfInBounds 3 Value.none))).get? b=s.heap.get? b:=fun b hb=>Heap.get?_update_other _ _ (Ne.symm hb)
  have oY:∀ b o,s.heap.get? b=some o->(∀ vs,o.data≠.fields vs)->b≠T:=fun b o hb zC q=>by
   rw [q,hT] at hb;injection hb with hb;subst hb;exact zC ts oi
  have De:=Heap.get?_update_self (Obj.mapFields (·.setIfInBounds 3 Value.none)) hT (Obj.isFreed_of_fields (Obj.data_mapFields oi _))
  refine uf tZ (hl.of_keeps fun b o hb zC=>⟨o,(other b (oY b o hb zC)).trans hb,rfl⟩) hf ((other e (Ne.symm F8)).trans he) hd (Array.getElem?_eq_some_iff.mp h1).1 fun h' T' k1 k2 k3 k4 k5 k6=>?_
  refine h h' T' (fun b o b1 b2 b3 b4=>k1 b o b1 b3 ((other b fun z=>b2 (by rw [z])).trans b4)) (fun b o b1 b2 b4=>k2 b o b1 ((other b fun z=>b2 (by rw [z])).trans b4)) ?_ k4 k5 k6
  by_cases hq:T'=T
  ·rw [hq,De] at k3;cases k3
  ·rw [other T' hq] at k3;exact k3
theorem kZ{e T:Addr}{oe oT:Obj}{vs ts:Array Value}{fl:Option Addr}{Q:Unit->Shared->Prop}(he:s.heap.get? e=some oe)(hd:oe.data=.fields vs)(h1:vs[1]?=some (.ref T))(hT:s.heap.get? T=some oT)(oi:oT.data=.fields ts)(h3:3<ts.size)
  (h:∀ h',(∀ b o,b≠T->s.heap.get? b=some o->h'.get? b=some o)->(∃ oT ts,h'.get? T=some oT/\oT.data=.fields ts/\ts[3]?=some (fl.elim .none fun f=>rawInt f))->Q () { s with heap:=h' }):wpAny M A (setFlight (.ref e) fl) Q E s:=by
 unfold setFlight
 refine Zg (wpAny_field he hd h1 ?_)
 rw [if_pos (show (Value.ref T != Value.none)=true from by simp)]
 refine wpAny_setField hT oi h3 (h _ (fun b o hb e=>(Heap.get?_update_other _ _ (Ne.symm hb)).trans e) ⟨_,_,Heap.get?_update_self _ hT (Obj.isFreed_of_fields (Obj.data_mapFields oi _)),Obj.data_mapFields oi _,?_⟩)
 simp [h3]
theorem Bj{env:Env}{L e T:Addr}{oe oT:Obj}{vs ts:Array Value}{Q:Unit->Shared->Prop}(hf:env.frame=some L)(he:s.heap.get? e=some oe)(hd:oe.data=.fields vs)(h1:vs[1]?=some (.ref T))(hT:s.heap.get? T=some oT)(oi:oT.data=.fields ts)(h3:ts[3]?=some (rawInt L))(h:Q () s) :
  wpAny M A (noteFrame (.ref e) env) Q E s:=by
 unfold noteFrame
 simp only [hf]
 refine Zg (wpAny_field he hd h1 ?_)
 rw [if_pos (show (Value.ref T != Value.none)=true from by simp)]
 refine Zg (wpAny_field hT oi h3 ?_)
 rw [if_pos (by simp)]
 exact Zy h
end
def Sl(h:Heap)(H:Hp)(h0:Heap)(ps:List (Addr×Obj))(L a C:Addr):Prop:=∃ oe vs T oT ts,h.get? a=some oe/\oe.cls=.ref C/\oe.dict=none/\oe.data=.fields vs/\1<vs.size/\vs[1]?=some (.ref T)/\T≠a/\h.get? T=some oT/\oT.data=.fields ts/\ts[3]?=some (rawInt L) /\
 H a=none/\(h0.get? a=none/\∀ p∈ps,p.1≠a)/\H T=none/\h0.get? T=none/\∀ p∈ps,p.1≠T
def XM(X:Cx)(EX:Eu):Value->Shared->Prop:=fun e s'=>∃ a C σ' H',e=.ref a/\Inv X.Gq [] σ' H' s'/\Sl s'.heap H' X.s₀.heap X.pn X.env.locals a C/\EX C σ' H'
def XP(X:Cx)(EX:Eu):Value->Shared->Prop:=fun e s'=>XW X EX e s'\/XM X EX e s'
section
variable {X:Cx}{EX:Eu}{σ:St}{H:Hp}{s:Shared}
theorem Inv.mark{T:Addr}{oT:Obj}{ts:Array Value}{h':Heap}(I:Inv X [] σ H s)(hT:s.heap.get? T=some oT)(oi:oT.data=.fields ts)(n1:H T=none)(n2:X.s₀.heap.get? T=none)(n3:∀ p∈X.pn,p.1≠T)(f1:∀ b o,b≠T->s.heap.get? b=some o->h'.get? b=some o)(f2:∃ o,h'.get? T=some o) :
  Inv X [] σ H { s with heap:=h' }:=by
 obtain ⟨m1,m2,m3⟩:=I.Ho hT oi
 have LM:fP X.prog X.w H h':=I.bf.off (ch:=[T]) (fun b hb=>by rw [show b=T by simpa using hb];exact n1) fun b o hb q=>f1 b o (by simpa using hb) q
 refine Inv.Ey (s:=s) (h':=h') (t':=s.toks) (ch:=[T]) I (fun b hb=>?_) (fun b o b1 b2 b3 e _=>f1 b o (by simpa using b3) e) (fun b o b1 b2 b3 e _=>⟨o.slots,f1 b o (by simpa using b3) e⟩) (fun b o _ _ n=>n) (fun b o b3 e=>⟨o,f1 b o (by simpa using b3) e⟩) (fun b xs e=>e) (fun b o u e=>e) (fun b ps e=>⟨#[],by rw [e];simp⟩) (fun m hm=>?_) LM
 ·obtain rfl:b=T:=by simpa using hb
  exact⟨n2,m1,m2,fun p hp=>n3 p (by simpa using hp)⟩
 ·obtain ⟨o,es,ep,ho,Nk,r⟩:=hm
  exact⟨o,es,ep,f1 _ o (fun z=>m1 z.symm) ho,Nk,r⟩
theorem Cf(Jf:X.stack=X.env::X.outer)(tZ:X.env.frame=some X.env.locals)(hex:X.ex=[]):PassesOwn (model X.prog X.w) X.A X.env (XP X EX):=by
 rintro e s' (h|h)
 ·obtain ⟨a,C,σ',H',rfl,I0,⟨oe,vs,T0,he,hc,LD,hd,jq,hh,Hj,⟨JH,O6⟩,F9⟩,hE⟩:=h
  have Sm:X.Gq.A.frames=some (X.env::X.outer):=by rw [<- Jf];exact I0.ok.frames
  refine EF (base:=X.base) (L:=X.env.locals) Sm (Jf ▸ I0.stack) tZ he hd hh fun h1 T k1 k2 k3 k4 k5 k6=>?_
  obtain ⟨n1,n2,n3⟩:=I0.Ho he hd
  have t1:∀ T',T0=some T'->∃ oT ts,s'.heap.get? T'=some oT/\oT.data=.fields ts:=fun T' z=>by
   subst z
   obtain ⟨_,_,oT,ts,q1,q2,_⟩:=hh
   exact⟨oT,ts,q1,q2⟩
  have Sn:∀ b,b∈ow (X.env::X.outer)->b=X.env.locals\/b∈X.fs:=fun b hb=>by
   rcases ZL.mp (I0.kL b (Jf ▸ hb)) with z|z
   ·exact .inl z
   ·exact .inr z
  have off:Off (a::(T0.toList++ow (X.env::X.outer))) s'.heap h1:=fun b o hb q=>by
   simp only [ZL,ZG,not_or] at hb
   exact k1 b o hb.1 (fun z=>hb.2.1 (by rw [<- z];simp)) hb.2.2 q
  have So:fP X.prog X.w H' h1:=I0.bf.off (fun b hb=>by
   simp only [ZL,ZG] at hb
   rcases hb with rfl|hb|hb
   ·exact Hj
   ·cases T0 with
    | none=>simp at hb
    | some T1 =>
     simp only [Option.toList_some,ZF] at hb
     rw [hb];exact (F9 T1 rfl).1
   ·exact I0.jN b (Jf ▸ hb)) off
  have MT:∀ b,b∉(a::T0.toList)->b≠a/\some b≠T0:=fun b hb=>by
   simp only [ZL,not_or] at hb
   exact⟨hb.1,fun z=>hb.2 (by rw [<- z];simp)⟩
  have I2:Inv X.Gq [] σ' H' { s' with heap:=h1 }:=by
   refine I0.Ey (h':=h1) (t':=s'.toks) (ch:=a::T0.toList) (fun b hb=>?_) (fun b o b1 b2 b3 e _=>?_) (fun b o b1 b2 b3 e _=>?_) (fun b o _ _ n=>n) (fun b o b3 e=>?_) (fun b xs e=>e) (fun b o u e=>e) (fun b ps e=>⟨#[],by rw [e];simp⟩) (fun m hm=>?_) So
   ·rcases ZL.mp hb with rfl|hb
    ·exact⟨JH,n1,n2,fun p hp=>O6 p (by simpa using hp)⟩
    ·cases T0 with
     | none=>simp at hb
     | some T1 =>
      simp only [Option.toList_some,ZF] at hb
      subst hb
      obtain ⟨oT,ts,q1,q2⟩:=t1 _ rfl
      obtain ⟨m1,m2,m3⟩:=I0.Ho q1 q2
      exact⟨(F9 _ rfl).2.1,m1,m2,fun p hp=>(F9 _ rfl).2.2 p (by simpa using hp)⟩
   ·refine k1 b o (MT b b3).1 (MT b b3).2 (fun z=>?_) e
    rcases Sn b z with q|q
    ·exact b1 q
    ·exact b2 q
   ·exact k2 b o (MT b b3).1 (MT b b3).2 e
   ·obtain ⟨sl,q⟩:=k2 b o (MT b b3).1 (MT b b3).2 e
    exact⟨_,q⟩
   ·obtain ⟨o,es,ep,ho,Nk,r⟩:=hm
    obtain ⟨sl,q⟩:=k2 _ o (fun z=>n1 z.symm) (fun z=>by
     obtain ⟨oT,ts,q1,q2⟩:=t1 _ z.symm
     exact (I0.Ho q1 q2).1 rfl) ho
    exact⟨_,es,ep,q,Nk,r⟩
  have T2:H' T=none:=I0.bf.free k3
  have T3:X.s₀.heap.get? T=none:=by
   cases q:X.s₀.heap.get? T with
   | none=>rfl
   | some o =>
    obtain ⟨o',q1⟩:=I0.base.there T o q (by show T∉X.ex;rw [hex];simp)
    rw [k3] at q1;cases q1
  have T4:∀ p∈X.pn,p.1≠T:=fun p hp z=>by
   have:=(I0.pin p (ZE _ hp)).1
   rw [z,k3] at this;cases this
  obtain ⟨oT,ts,Vp,De,Qx⟩:=k6
  have Sr:=Obj.data_mapFields hd (·.setIfInBounds 1 (Value.ref T))
  have Ss:(vs.setIfInBounds 1 (Value.ref T))[1]?=some (.ref T):=by simp [jq]
  unfold cameBackBy
  refine Zg (wpAny_field k5 Sr Ss ?_)
  rw [if_neg (by simp)]
  rw [tZ]
  refine kZ k5 Sr Ss Vp De (Array.getElem?_eq_some_iff.mp Qx).1 fun h2 f1 f2=>.inr ?_
  obtain ⟨Su,Sv,q1,q2,q3⟩:=f2
  refine⟨a,C,σ',H',rfl,Inv.mark (s:={ s' with heap:=h1 }) I2 Vp De T2 T3 T4 f1 ⟨_,q1⟩,⟨_,_,T,Su,Sv,f1 _ _ (Ne.symm k4) k5,(Obj.cls_mapFields _ _).trans hc,(gH _ _).trans LD,Sr,by simpa using jq,Ss,k4,q1,q2,q3,Hj,⟨JH,O6⟩,T2,T3,T4⟩,hE⟩
 ·obtain ⟨a,C,σ',H',rfl,I0,⟨oe,vs,T,oT,ts,he,hc,LD,hd,jq,h1,O7,hT,oi,h3,Hj,⟨JH,O6⟩,T2,T3,T4⟩,hE⟩:=h
  refine Bj tZ he hd h1 hT oi h3 ?_
  unfold cameBackBy
  refine Zg (wpAny_field he hd h1 ?_)
  rw [if_neg (by simp)]
  rw [tZ]
  refine kZ he hd h1 hT oi (Array.getElem?_eq_some_iff.mp h3).1 fun h2 f1 f2=>.inr ?_
  obtain ⟨Su,Sv,q1,q2,q3⟩:=f2
  exact⟨a,C,σ',H',rfl,Inv.mark I0 hT oi T2 T3 T4 f1 ⟨_,q1⟩,⟨oe,vs,T,Su,Sv,f1 _ _ (Ne.symm O7) he,hc,LD,hd,jq,h1,O7,q1,q2,q3,Hj,⟨JH,O6⟩,T2,T3,T4⟩,hE⟩
end
theorem HS{P:Program}{w:World}{K:Frag}{mg:Str->Option Value}{base:Heap}{N:List Str}{qual:Str}{scope:Scope}{f:Addr}{cd:Value}{A:Around}{outer:List Env}{s:Shared}{H:Hp}{E:XK}{e:Value}{s':Shared}
  (h:XP (jo (Hi P w) P w K mg base N qual scope f cd A outer s H E) (fun C _ H'=>E (.ref C) none H') e s'):(jo (Hi P w) P w K mg base N qual scope f cd A outer s H E).xe e s':=by
 rcases h with h|h
 ·exact Ew h
 obtain ⟨a,C,σ',H',rfl,I,⟨oe,vs,T,oT,ts,he,hc,LD,hd,jq,h1,O7,hT,oi,h3,Hj,⟨JH,O6⟩,T2,T3,T4⟩,hE⟩:=h
 have Hl:s.heap.get? a=none:=JH
 have Vq:s.heap.get? T=none:=T3
 show wpAny (model P w) (A.deeper (envOfC qual scope s.heap.objs.size f cd)) (leaving (envOfC qual scope s.heap.objs.size f cd) (.ref a)) _ _ s'
 unfold leaving
 refine Zg (Bj (L:=s.heap.objs.size) rfl he hd h1 hT oi h3 (kZ (fl:=none) he hd h1 hT oi (Array.getElem?_eq_some_iff.mp h3).1 fun h' f1 f2=>?_))
 have neT:∀ b o,s.heap.get? b=some o->b≠T:=fun b o q z=>by rw [z,Vq] at q;cases q
 refine⟨a,C,H',rfl,I.os,I.bare,⟨fun b o q n hb hx=>f1 b o (neT b o q) (I.base.keep b o q n hb hx),fun b o q n hb hx=>?_,fun b o q n hx=>I.base.free b o q n hx,fun b o q hx=>?_,I.base.jK,I.base.jl,I.base.jL⟩,I.bf.off (ch:=[T]) (fun b hb=>by rw [show b=T by simpa using hb];exact T2) fun b o hb q=>f1 b o (by simpa using hb) q,?_,hE⟩
 ·obtain ⟨sl,q1⟩:=I.base.slot b o q n hb hx
  exact⟨sl,f1 _ _ (neT b o q) q1⟩
 ·obtain ⟨o',q1⟩:=I.base.there b o q hx
  exact⟨o',f1 _ _ (neT b o q) q1⟩
 ·exact⟨oe,vs,some T,f1 _ _ (Ne.symm O7) he,hc,LD,hd,jq,⟨h1,O7,f2⟩,Hj,⟨Hl,fun _ z=>nomatch z⟩,fun T' e=>by cases e;exact⟨T2,Vq,fun _ z=>nomatch z⟩⟩
section
variable {P:Program}{w:World}{K:Frag}{mg:Str->Option Value}{base:Heap}
theorem Def.Xc{x:Str}{st:Stmt}{N ps:List Str}{k:Nat}{sp:Sp}(D:Def K mg x st ps)(S:az N ps (ao st))(len:∀ vs H Q E,sp vs H Q E->vs.length=ps.length)
  (jR:∀ (f:Addr) (bO:Value) (A:Around) (outer:List Env) (s:Shared) (H:Hp) (vs:List V) (Q:VK) (E:XK),dJ k (A.deeper (envOfC x (ao st) s.heap.objs.size f bO))->sp vs H Q E ->
   ∃ t,tL ((jo (Hi P w) P w K mg base N x (ao st) f bO A outer s H E).fS (XP (jo (Hi P w) P w K mg base N x (ao st) f bO A outer s H E) fun C _ H'=>E (.ref C) none H')) (cK st) t/\t { nx:=fun _ H'=>Q .dj H',rt:=Q } (start N vs) H):Df P w K mg base (k+1) x ps sp:=by
 obtain ⟨f,fd,F,hm,hb⟩:=D
 obtain ⟨oc,od,kV,doc,pm,an,bO,ct,F4,rfl,lk,ze⟩:=F.ex
 refine⟨f,_,DA lk ze S len fun A outer s H vs Q E hr yV=>?_,hm,F.kp,hb⟩
 obtain ⟨t,h,q⟩:=jR f bO A outer s H vs Q E hr yV
 exact⟨t,h.xe fun e s z=>HS z,q⟩
end
open PySem PySem.Spec PyProof.Rows
section
variable {K:Frag}{H:Hp}{Q:VK}{σ:St}
theorem xW:∀ (r q:List Int),PyData.eqvAll (r.map PyData.int) (q.map PyData.int)=decide (r=q)
 | [],[]=>rfl
 | [],_::_=>rfl
 | _::_,[]=>rfl
 | x::r,y::q=>by
  have h:=xW r q
  simp only [map_cons,PyData.eqvAll,h,PyData.eqv]
  by_cases e:x=y
  ·subst e;by_cases e2:r=q <;> simp [e2]
  ·simp [e]
theorem HW(r q:List Int):PyData.eqv (.tuple (r.map PyData.int)) (.tuple (q.map PyData.int))=decide (r=q):=by
 rw [<- xW r q]
 simp [PyData.eqv]
end
section
variable {κ:Type} [DecidableEq κ]
def jt(dw:List (κ×V))(k:κ):Option V:=(dw.find? fun kv=>decide (kv.1=k)).map (·.2)
theorem EG{p:κ×V}{r:List (κ×V)}{k:κ}(e:p.1=k):jt (p::r) k=some p.2:=by simp [jt,find?_cons,e]
theorem EH{p:κ×V}{r:List (κ×V)}{k:κ}(e:¬ p.1=k):jt (p::r) k=jt r k:=by simp [jt,find?_cons,e]
theorem ur.Cg{o:Option V}{u:Option Value}(r:ur o u):o.isSome=u.isSome:=by
 cases o with
 | none=>cases u with
  | none=>rfl
  | some _=>exact (show False from r).elim
 | some _=>cases u with
  | none=>exact (show False from r).elim
  | some _=>rfl
theorem KV.val{dw:List (κ×V)}{vs:List (κ×Value)}(r:KV dw vs)(k:κ):ur (jt dw k) (valueAt vs k):=by
 unfold KV at r
 induction r with
 | nil=>exact True.intro
 | @cons p q ps qs h t ih =>
  obtain ⟨h1,h2⟩:=h
  by_cases e:p.1=k
  ·have e':q.1=k:=h1.symm.trans e
   have b:valueAt (q::qs) k=some q.2:=by simp [valueAt,find?_cons,e']
   rw [EG e,b];exact h2
  ·have e':¬ q.1=k:=fun z=>e (h1.trans z)
   have b:valueAt (q::qs) k=valueAt qs k:=by simp [valueAt,find?_cons,e']
   rw [EH e,b];exact ih
end
theorem JI{P:Program}{w:World}{k:Key}{u:Value}(r:RelV (kV k) u):(fQ P w).is k u=true:=by
 cases k with
 | inl i=>obtain ⟨t,e⟩:=(show ∃ t,u=Value.int i t from r);subst e;exact xj P w i t
 | inr x=>obtain ⟨t,e⟩:=(show ∃ t,u=Value.str x t from r);subst e;exact xk P w x t
end L2
namespace L2
open PySem PySem.Spec PyProof.Rows PySem.W
def qB(h:Heap)(d:Addr)(es:Array DictEntry)(ep:Nat):Prop:=∃ o,h.get? d=some o/\o.ExactDict/\o.data=.dict es ep
theorem qB.kK{h h':Heap}{d:Addr}{es:Array DictEntry}{ep:Nat}(x:qB h d es ep)(k:∀ o,h.get? d=some o->h'.get? d=some o):qB h' d es ep:=let ⟨o,e,r⟩:=x;⟨o,k o e,r⟩
section
variable {prog:Program}{w:World}{A:Around}{E:Value->Shared->Prop}{s:Shared}{d I:Addr}{es:Array DictEntry}{ep i:Nat}
theorem qB.ty (x:qB s.heap d es ep):s.TypeIs (.ref d) "dict":=let ⟨o,e,c,_⟩:=x;⟨o,e,c.1⟩
theorem EI{Q:Value->Shared->Prop}(lo:(d == sysModules)=false)(x:qB s.heap d es ep)
  (hQ:Q (.ref s.heap.objs.size) { s with heap:=s.heap.push { cls:=.type "dict_keyiterator",data:=.fields #[.ref d,.int 0 0,.int es.size 0,.int ep 0] } }):wpAny (model prog w) A (pyIter (.ref d)) Q E s:=by
 have ty:=x.ty
 obtain ⟨o,e,_,dat⟩:=x
 refine wpAny_pyIter_slot ty F.slot_dict_iter (wpAny_call_entry F.slot_dict_iter ty F.entry_dict_iter ?_ (F.args_dict_iter_1 _))
 unfold Builtin.«dict.__iter__» Builtin.Dict.dictSlotNone
 refine Zg (Zg (wpAny_notOrdered_dict ty ?_))
 show wpAny _ _ (pure (Value.ref d)) _ _ s
 refine Zy (?_:wpAny _ _ (Builtin.Dict.showsAll d >>= _) _ _ s)
 unfold Builtin.Dict.showsAll
 rw [if_neg (by rw [lo];exact Bool.false_ne_true)]
 refine Zg (Zy (Zg (wpAny_dictEntries e dat (Zg (wpAny_dictEpoch e dat ?_)))))
 refine Zg (wpAny_newObj_type (Zy ⟨_,rfl,"dict_keyiterator",_,⟨_,Zk _ rfl,rfl⟩,F.slot_dict_keyiterator_next.lookup,?_⟩))
 simpa [rawInt] using hQ
theorem EJ{Q:Option Value->Shared->Prop}(it:s.heap.IsKeyIter I d i es.size ep)(x:qB s.heap d es ep)(lt:i<es.size)
  (hQ:∀ h',h'.IsKeyIter I d (i+1) es.size ep->Heap.SameBut I s.heap h'->Q (some es[i].key) { s with heap:=h' }):wpAny (model prog w) A (pyNext (.ref I)) Q E s:=by
 have ty:=it.typeIs
 obtain ⟨o,e,c,f⟩:=id it
 obtain ⟨od,ed,_,dat⟩:=x
 unfold pyNext
 refine Zg (wpAny_attempt (wpAny_callSpecial?_slot (name:=Str.ofString "__next__") ty F.slot_dict_keyiterator_next (wpAny_call_entry F.slot_dict_keyiterator_next ty F.entry_dict_keyiterator_next ?_ (F.args_dict_keyiterator_next_1 _))))
 refine Zg (Zy (Zg (Zg ?_)))
 first|refine Zg (wpAny_typeNameOfWhole_keyiter ty (Zy (Zg (wpAny_fieldsOf e f ?_))))|refine Zg (wpAny_typeNameOf_keyiter ty (Zy (Zg (wpAny_fieldsOf e f ?_))))
 simp only [show Builtin.Dict_items.ownsTuple "dict_keyiterator"=false by decide,Bool.false_eq_true,if_false]
 show wpAny _ _ (if (Value.ref d == Value.none)=true then _ else _) _ _ _
 rw [if_neg (show ¬ (Value.ref d == Value.none)=true from Bool.false_ne_true)]
 refine Zg (Zy (Zg (wpAny_dictEntries ed dat ?_)))
 rw [if_neg (by simp)]
 refine Zg (Zy (Zg (wpAny_dictEpoch ed dat ?_)))
 rw [if_neg (by simp)]
 refine Zy ?_
 simp only [show ¬ (i:Int)<0 by lia,if_false,Z3,Array.getElem?_eq_getElem lt]
 refine Zg ?_
 first|refine Zg (wpAny_typeNameOfWhole_keyiter ty (Zy (Zg (wpAny_isOneOf_keyiter ty ?_))))|refine Zg (wpAny_typeNameOf_keyiter ty (Zy (Zg (wpAny_isOneOf_keyiter ty ?_))))
 show wpAny _ _ (setField (.ref I) 1 (rawInt ((i:Int)+1)) >>= _) _ _ _
 refine Zg (wpAny_setField e f (by simp) ?_)
 obtain ⟨g,eg⟩:∃ g,g=s.heap.update I (Obj.mapFields (·.setIfInBounds 1 (rawInt ((i:Int)+1)))):=⟨_,rfl⟩
 have Qz:g.IsKeyIter I d (i+1) es.size ep:=by
  rw [eg]
  exact⟨_,Heap.get?_update_self _ e (Obj.isFreed_of_fields (Obj.data_mapFields f _)),(Obj.cls_mapFields ..).trans c,by rw [Obj.data_mapFields f];simp [rawInt]⟩
 have sb:Heap.SameBut I s.heap g:=by rw [eg];exact Heap.SameBut.update ..
 rw [<- eg]
 refine Zg (wpAny_holding (Zg (wpAny_isOneOf_keyiter (s:={ s with heap:=g }) Qz.typeIs ?_)))
 show wpAny _ _ (pure es[i].key) _ _ _
 exact Zy (Zy ⟨_,rfl,Zy (hQ g Qz sb)⟩)
theorem HX{Q:Option Value->Shared->Prop}(hh:A.handled=none)(it:s.heap.IsKeyIter I d i es.size ep)(x:qB s.heap d es ep)(ge:es.size<=i)
  (hQ:∀ h',Heap.ExtBut I s.heap h'->Q none { s with heap:=h' }):wpAny (model prog w) A (pyNext (.ref I)) Q E s:=by
 have ty:=it.typeIs
 obtain ⟨o,e,c,f⟩:=id it
 obtain ⟨od,ed,_,dat⟩:=x
 unfold pyNext
 refine Zg (wpAny_attempt (wpAny_callSpecial?_slot (name:=Str.ofString "__next__") ty F.slot_dict_keyiterator_next (wpAny_call_entry F.slot_dict_keyiterator_next ty F.entry_dict_keyiterator_next ?_ (F.args_dict_keyiterator_next_1 _))))
 refine Zg (Zy (Zg (Zg ?_)))
 first|refine Zg (wpAny_typeNameOfWhole_keyiter ty (Zy (Zg (wpAny_fieldsOf e f ?_))))|refine Zg (wpAny_typeNameOf_keyiter ty (Zy (Zg (wpAny_fieldsOf e f ?_))))
 simp only [show Builtin.Dict_items.ownsTuple "dict_keyiterator"=false by decide,Bool.false_eq_true,if_false]
 show wpAny _ _ (if (Value.ref d == Value.none)=true then _ else _) _ _ _
 rw [if_neg (show ¬ (Value.ref d == Value.none)=true from Bool.false_ne_true)]
 refine Zg (Zy (Zg (wpAny_dictEntries ed dat ?_)))
 rw [if_neg (by simp)]
 refine Zg (Zy (Zg (wpAny_dictEpoch ed dat ?_)))
 rw [if_neg (by simp)]
 refine Zy ?_
 simp only [show ¬ (i:Int)<0 by lia,if_false,Z3,Array.getElem?_eq_none ge]
 refine Zg ?_
 first|refine Zg (wpAny_typeNameOfWhole_keyiter ty (Zy ?_))|refine Zg (wpAny_typeNameOf_keyiter ty (Zy ?_))
 show wpAny _ _ (setField (.ref I) 0 .none >>= _) _ _ _
 refine Zg (wpAny_setField e f (by simp) (?_:wpAny _ _ (newExc (.type "StopIteration") [] >>= _) _ _ _))
 refine Zg ?_
 simp only [newExc,newTuple]
 refine Zg (wpAny_newObj_type (Zg (m:=firstArgMember _ _) (wpAny_of_eq (a:=Value.none) (by first|rfl|(simp only [firstArgMember];rfl)) (wpAny_newObj_type ?_ (by size_fits)))) (by size_fits))
 simp only [raiseNew]
 refine Zg (wpAny_handled ?_)
 rw [show A.in1.handled=none from hh]
 refine Zg <| Zy <| wpAny_throw ?_
 exact Zg (wpAny_isInstance (T:="StopIteration") (b:=true) ⟨_,Zk _ rfl,rfl⟩ isSubtype_stop (Zy (hQ _ (((Heap.SameBut.update ..).extBut.push _).push _))))
theorem Ci(hh:A.handled=none)(I d:Addr)(ne:d≠I)(es:Array DictEntry)(ep:Nat) :
  Walks prog w A I [I,d] [I] es.size (fun i v=>∃ h:i<es.size,v=es[i].key) (fun i h=>h.IsKeyIter I d i es.size ep/\qB h d es ep) where
 sub:=fun b hb=>by simp at hb;simp [hb]
 frame:=fun _ _ _ st k=>⟨st.1.at fun o e=>k I (by simp) o e,st.2.kK fun o e=>k d (by simp) o e⟩
 item:=fun i s Q E hi st hQ=>EJ st.1 st.2 hi fun h' Qz sb=>hQ _ h' s.toks ⟨hi,rfl⟩ ⟨Qz,st.2.kK fun o e=>(sb.2 _ ne).trans e⟩ fun b o hb e=>sb.extBut b o (fun z=>hb (by simp [z])) e
 done:=fun s Q E st hQ=>HX hh st.1 st.2 (Zn _) fun h' x=>hQ h' s.toks fun b o hb e=>x b o (fun z=>hb (by simp [z])) e
 self:=fun _ _ _ _ st hQ=>wpAny_pyIter_keyiter st.1 hQ
theorem HY (lo:(d == sysModules)=false):KdlSrc prog w "dict" d d es.size (fun i v=>∃ h:i<es.size,v=es[i].key) (fun h=>qB h d es ep) where
 type:=fun _ x=>x.ty
 there:=fun _ ⟨_,e,_⟩=>⟨Zj e,Zj e⟩
 keep:=fun _ _ x k=>x.kK fun o e=>k d (.inl rfl) o e
 notList:=by decide
 notTuple:=by decide
 hint:=fun _ _ _ _ x hq=>kdl_hint_dict x.ty hq
 iter:=fun _ _ hh x=>⟨_,_,(fun _ _ hq=>EI lo x hq),Ci hh _ d (Z0 (let ⟨_,e,_⟩:=x;Zj e)) es ep,⟨⟨_,Zk _ rfl,rfl,rfl⟩,x.kK fun o e=>Zf _ e⟩⟩
end
open PySem PySem.Spec PyProof.Rows
inductive EK(K:Frag)(H:Hp):List V->List (List Int×Int)->Prop where
 | nil:EK K H [] []
 | cons {a w:Addr} {r:List Int} {m:Int} {xs:List V} {ks:List (List Int×Int)} (h:aL K H a [.ref w,.int m]) (hw:aL K H w (r.map V.int)) (t:EK K H xs ks):EK K H (.ref a::xs) ((r,m)::ks)
theorem pd{K:Frag}{a:Addr}{xs:List V}{H1:Hp}{ix:List (Option Nat)}{σ:St}{te:TE}{Q:VK}(fr:St)(f:Nat->V)(qt:pick ix σ=none::fr)(ha:bj K H1 a xs)(hn:xs.length<=1000000)
  (step:∀ (i:Nat) x H' (Qc:VK),xs[i]?=some x->ah H1 H'->(∀ H5,ah H' H5->Qc (f i) H5)->te (some x::fr) H' Qc)
  (hQ:∀ l H',H1 l=none->ah H1 H'->H' l=some (.lst ((List.range xs.length).map f))->Q (.ref l) H'):bT ix (br 0) (fun _ H Q=>Q true H) te σ Q (MH K a) H1:=by
 refine jZ fr xs.length f qt hn (fun H' s=>⟨xs,s.seq ha,Zn _⟩) (fun i H' hi s=>⟨xs,xs[i],s.seq ha,ZC hi⟩) (fun i x H' H2 Qc hi s hy kc=>?_) hQ
 obtain ⟨rfl,e⟩:=hy
 exact step i x _ Qc (e xs (s.seq ha)) s kc
theorem O8{i j:Nat}{ta:TA}{D:Ends}{σ:St}{H:Hp}(h:ta σ H fun vs H1=>∃ v w,vs=[v,w]/\D.nx ((σ.set i (some v)).set j (some w)) H1):Nv i j ta D σ H:=h
theorem O9{F:V->V->Prop}{x y:V}(h:F x y):∃ v w,[x,y]=[v,w]/\F v w:=⟨x,y,rfl,h⟩
theorem EL{K:Frag}{D:Ends}{σ:St}{H:Hp}{k:Bool}{a:Addr}{xs:List V}{m n:Nat}{tb:TS}(Pv:Nat->St->Hp->Prop)(h0:Pv 0 σ H)(ha:∀ i σ H2,Pv i σ H2->Sq k K H2 a xs)
  (hs:∀ (i:Nat) x σ H2 H3,xs[i]?=some x->Pv i σ H2->ah H2 H3->tb { D with nx:=Pv (i+1),ct:=Pv (i+1),bk:=D.nx } ((σ.set m (some (.int i))).set n (some x)) H3)
  (hd:∀ σ H2,Pv xs.length σ H2->D.nx σ H2):cW (ox K 2 (cw (br m) (cw (br n) qq))) tb D (O3 K k a) σ H:=by
 refine xV xs.length Pv h0 (fun i σ H2 hi p=>⟨_,xs[i],ha i σ H2 p,ZC hi⟩) (fun σ H2 p=>⟨_,ha _ σ H2 p,Zn _⟩) (fun i x σ H2 H3 hi p y=>?_) hd
 obtain ⟨q,x',rfl,hp,e1,rfl⟩:=y
 have g1:=e1 _ (ha i σ _ p)
 refine⟨q,_,rfl,aL.of aB,rfl,_,_,rfl,_,_,rfl,rfl,?_⟩
 exact hs i x' σ _ _ g1 p (ah.aY hp)
theorem ah.new{a:Addr}{H H':Hp}(s:ah H H')(n:H' a=none):H a=none:=by
 match e:H a with
 | none=>rfl
 | some o =>
  rw [s a o e] at n
  cases n
theorem EM{K:Frag}{D:Ends}{σ:St}{H:Hp}{k1 k2:Bool}{a b:Addr}{xs ys:List V}{m n:Nat}{tb:TS}(hlen:xs.length=ys.length)(Pv:Nat->St->Hp->Prop)(h0:Pv 0 σ H)(ha:∀ i σ H2,Pv i σ H2->Sq k1 K H2 a xs/\Sq k2 K H2 b ys)
  (hs:∀ (i:Nat) x y σ H2 H3,xs[i]?=some x->ys[i]?=some y->Pv i σ H2->ah H2 H3->tb { D with nx:=Pv (i+1),ct:=Pv (i+1),bk:=D.nx } ((σ.set m (some x)).set n (some y)) H3)
  (hd:∀ σ H2,Pv xs.length σ H2->D.nx σ H2):cW (ox K 2 (cw (br m) (cw (br n) qq))) tb D (Jq K k1 k2 a b) σ H:=by
 refine xV xs.length Pv h0 (fun i σ H2 hi p=>?_) (fun σ H2 p=>?_) (fun i x σ H2 H3 hi p hy=>?_) hd
 ·exact⟨_,_,xs[i],ys[i]'(hlen ▸ hi),(ha i σ H2 p).1,(ha i σ H2 p).2,ZC hi,ZC (hlen ▸ hi)⟩
 ·exact⟨_,_,(ha _ σ H2 p).1,(ha _ σ H2 p).2,.inl (Zn _)⟩
 ·obtain ⟨q,x',y',rfl,hq,e1,e2,rfl⟩:=hy
  refine⟨q,_,rfl,aL.of aB,rfl,_,_,rfl,_,_,rfl,rfl,?_⟩
  exact hs i x' y' σ _ _ (e1 _ (ha i σ _ p).1) (e2 _ (ha i σ _ p).2) p (ah.aY hq)
section
variable {K:Frag}{H:Hp}{σ:St}{Q:VK}{ix:List (Option Nat)}
theorem cF{J:It}{g:TG}{tt:TT}{te:TE}(t:Nat)(fr:St)(n:Nat)(Pv:Addr->Nat->List V->Hp->Prop)(qt:pick ix σ=List.replicate t none++fr)
  (h0:∀ l H',H l=none->ah H H'->H' l=some (.lst [])->Pv l 0 [] H') (hn:∀ l i ys H',Pv l i ys H'->ys.length<=1000)
  (gE:∀ H',ah H H'->J.stop n H') (D0:∀ i H',i<n->ah H H'->J.go i H')
  (step:∀ l i x H' H2 own ys,own.length=t->i<n->H l=none->ah H H'->H' l=some (.lst ys)->Pv l i ys H'->J.Dn i H' x H2->∀ (Qy:St->VK) (Qn:St->Hp->Prop),
   (∀ j9 v H5,j9.length=t->ah H' H5->Pv l (i+1) (ys++[v]) (upd H5 l (.lst (ys++[v])))->Qy (j9++fr) v H5)->(∀ j9 H4,j9.length=t->ah H' H4->Pv l (i+1) ys H4->Qn (j9++fr) H4) ->
   g x (own++fr) H2 fun σ2 H3=>tt σ2 H3 fun b H4=>if b=true then te σ2 H4 (Qy σ2) else Qn σ2 H4)
  (hQ:∀ l H' ys,H l=none->ah H H'->H' l=some (.lst ys)->Pv l n ys H'->Q (.ref l) H'):bT ix g tt te σ Q J H:=by
 intro l hl
 refine⟨fun i m σ1 ys H'=>m=n - i/\i<=n/\(∃ own:St,own.length=t/\σ1=own++fr)/\ah H H'/\H' l=some (.lst ys)/\Pv l i ys H',⟨n,by simp,ZZ _,⟨_,length_replicate,qt⟩,ah.aY hl,aB,h0 l _ hl (ah.aY hl) aB⟩,?_⟩
 rintro i m σ1 ys H' ⟨rfl,hi,⟨own,ho,rfl⟩,hs,dB,hp⟩
 refine⟨dB,?_⟩
 by_cases jn:i<n
 ·refine .inr ⟨D0 i H' jn hs,n - (i+1),by lia,fun x H2 hy=>step l i x H' H2 own ys ho jn hl hs dB hp hy _ _ (fun j9 v H5 F5 s5 Sw=>?_) fun j9 H4 F5 s4 LN=>?_⟩
  ·have l5:=s5 _ _ dB
   refine⟨l5,ZN (hn l i ys H' hp) (cQ (Zn 1000)),rfl,jn,⟨j9,F5,rfl⟩,fun b o e=>?_,aB,Sw⟩
   rw [aG (ba e hl)]
   exact s5 _ _ (hs _ _ e)
  ·exact⟨rfl,jn,⟨j9,F5,rfl⟩,hs.trans s4,s4 _ _ dB,LN⟩
 ·obtain rfl:i=n:=by lia
  exact .inl ⟨gE H' hs,hQ l H' ys hl hs dB hp⟩
end
inductive EN(H:Hp):List V->List (List Int)->Prop where
 | nil:EN H [] []
 | cons {a:Addr} {r:List Int} {xs:List V} {rs:List (List Int)} (h:H a=some (.lst (r.map V.int))) (t:EN H xs rs):EN H (.ref a::xs) (r::rs)
section
variable {K:Frag}{H:Hp}{σ:St}{Q:VK}{ix:List (Option Nat)}
theorem Bk{a:Addr}{x y:V}{m n:Nat}{R:St->Hp->Prop}(h:aL K H a [x,y])(k:R ((σ.set m (some x)).set n (some y)) H):ox K 2 (cw (br m) (cw (br n) qq)) (.ref a) σ H R:=⟨a,_,rfl,h,rfl,_,_,rfl,_,_,rfl,rfl,k⟩
end
section
variable {K:Frag}{H:Hp}{σ:St}{Q:VK}{ix:List (Option Nat)}{l:Addr}{xs:List V}{rs:List (List Int)}
theorem HZ{a:Addr}{x y z:V}{m n o:Nat}{R:St->Hp->Prop}(h:aL K H a [x,y,z])(k:R (((σ.set m (some x)).set n (some y)).set o (some z)) H):ox K 3 (cw (br m) (cw (br n) (cw (br o) qq))) (.ref a) σ H R:=⟨a,_,rfl,h,rfl,_,_,rfl,_,_,rfl,_,_,rfl,rfl,k⟩
end
end L2
namespace L2
open PySem PySem.Spec PyProof.Rows PySem.Builtin PySem.Builtin.Str
def Pa(z:Str):It:=⟨fun i _=>i<z.cps.size,fun i H x H'=>H'=H/\∃ c,z.cps[i]?=some c/\x=.str ⟨#[c]⟩,fun i _=>z.cps.size<=i⟩
theorem zG {P:Program} {w:World} {K:Frag} {tg:Expr} (it:Addr) (z:Str) (t:Tok):Turn P w K tg (Pa z) [it] it (fun i h=>h.IsStrIter it "str_ascii_iterator" z t i) where
 mem:=by simp
 obj:=fun i h st b hb=>by
  have e:b=it:=by simpa using hb
  subst e
  obtain ⟨o,e,c,d⟩:=st
  exact⟨o,e,fun v z=>by rw [d] at z;cases z⟩
 keep:=fun i h h' st k=>let ⟨o,ho,r⟩:=st;⟨o,k it (by simp) o ho,r⟩
 item:=by
  intro X hP hw hK hc i pins s σ H E I hf st hg
  subst hP hw hK
  obtain ⟨f0,f1,f2,f3,f4,f5⟩:=hf it (by simp)
  have hi:i<z.cps.size:=hg
  refine wpAny_pyNext_ascii_item st (c:=z.cps[i]) (by simp [hi]) fun h' AO sb=>?_
  have I1:Inv X pins σ H { s with heap:=h',toks:=s.toks+1 }:=I.turned (fun b o hb e=>(sb.2 b hb).trans e) f0 f1 f3 f4 f5
  obtain ⟨o,e,c,d⟩:=id AO
  exact⟨_,rfl,xq (s:={ s with heap:=h',toks:=s.toks+1 }) e c d (by decide) ⟨.str ⟨#[z.cps[i]]⟩,H,I1,⟨_,rfl⟩,⟨rfl,_,by simp [hi],rfl⟩,AO,fun b hb=>(hf b hb).1⟩⟩
 done:=by
  intro X hP hw hK hc i pins s σ H E I hf st hg
  subst hP hw hK
  obtain ⟨f0,f1,f2,f3,f4,f5⟩:=hf it (by simp)
  have hi:z.cps.size<=i:=hg
  exact wpAny_pyNext_ascii_end (I.ok.hd hc) st (by simp [hi]) fun h' eb=>⟨rfl,I.turned (t':=s.toks) (fun b o hb e=>eb b o hb e) f0 f1 f3 f4 f5⟩
 self:=fun _ _ _ _ _ st h=>wpAny_pyIter_striter_ascii st h
theorem Cj {P:Program} {w:World} {K:Frag} {tg:Expr} (it:Addr) (z:Str) (t:Tok):Turn P w K tg (Pa z) [it] it (fun i h=>h.IsStrIter it "str_iterator" z t i) where
 mem:=by simp
 obj:=fun i h st b hb=>by
  have e:b=it:=by simpa using hb
  subst e
  obtain ⟨o,e,c,d⟩:=st
  exact⟨o,e,fun v z=>by rw [d] at z;cases z⟩
 keep:=fun i h h' st k=>let ⟨o,ho,r⟩:=st;⟨o,k it (by simp) o ho,r⟩
 item:=by
  intro X hP hw hK hc i pins s σ H E I hf st hg
  subst hP hw hK
  obtain ⟨f0,f1,f2,f3,f4,f5⟩:=hf it (by simp)
  have hi:i<z.cps.size:=hg
  refine wpAny_pyNext_wide_item st (c:=z.cps[i]) (by simp [hi]) fun h' AO sb=>?_
  have I1:Inv X pins σ H { s with heap:=h',toks:=s.toks+1 }:=I.turned (fun b o hb e=>(sb.2 b hb).trans e) f0 f1 f3 f4 f5
  obtain ⟨o,e,c,d⟩:=id AO
  exact⟨_,rfl,xq (s:={ s with heap:=h',toks:=s.toks+1 }) e c d (by decide) ⟨.str ⟨#[z.cps[i]]⟩,H,I1,⟨_,rfl⟩,⟨rfl,_,by simp [hi],rfl⟩,AO,fun b hb=>(hf b hb).1⟩⟩
 done:=by
  intro X hP hw hK hc i pins s σ H E I hf st hg
  subst hP hw hK
  obtain ⟨f0,f1,f2,f3,f4,f5⟩:=hf it (by simp)
  have hi:z.cps.size<=i:=hg
  exact wpAny_pyNext_wide_end (I.ok.hd hc) st (by simp [hi]) fun h' eb=>⟨rfl,I.turned (t':=s.toks) (fun b o hb e=>eb b o hb e) f0 f1 f3 f4 f5⟩
 self:=fun _ _ _ _ _ st h=>wpAny_pyIter_striter_wide st h
def LO:V->Hp->(It->Hp->Prop)->Prop:=fun x H R=>∃ z,x=.str z/\R (Pa z) H
def Pb(tl:TE):TI:=fun σ H R=>tl σ H fun x H1=>LO x H1 R
section
variable {X:Cx}
theorem LP{tg l:Expr}{tl:TE}(hl:PE X l tl):PI X tg l (Pb tl):=by
 intro pins s σ H R I h
 refine cb (hl pins s σ H _ I h) fun v s1 ⟨x,H1,I1,r1,q1⟩=>?_
 obtain ⟨z,e,q⟩:=q1
 subst e
 obtain ⟨t,rfl⟩:=r1
 have fp:∀ b∈[s1.heap.objs.size],nI X pins H1 b:=fun b hb=>by
  have e:b=s1.heap.objs.size:=by simpa using hb
  subst e
  exact I1.zg (Zn _) (I1.bf.fresh (Zn _))
 cases ha:z.cps.all (·<128)
 ·exact wpAny_pyIter_wide ha ⟨s1.heap.objs.size,[s1.heap.objs.size],_,_,H1,rfl,I1.kept (t':=s1.toks) fun b o e=>Zf _ e,Cj _ z t,⟨_,Zk _ rfl,rfl,rfl⟩,fp,q⟩
 ·exact wpAny_pyIter_ascii ha ⟨s1.heap.objs.size,[s1.heap.objs.size],_,_,H1,rfl,I1.kept (t':=s1.toks) fun b o e=>Zf _ e,zG _ z t,⟨_,Zk _ rfl,rfl,rfl⟩,fp,q⟩
def Pc:V->Option Int->Option Int->Hp->VK->Prop:=fun x lo hi H Q=>∃ z,x=.str z/\z.length<=sizeLine/\Q (.str (Txt.slice z lo hi)) H
theorem part_of{v:Value}{o:Option Int}(h:IsPart v o):∃ l:Option (Int×Tok),v=partValue l/\o=l.map (·.1):=by
 cases h with
 | none=>exact⟨none,rfl,rfl⟩
 | int i t=>exact⟨some (i,t),rfl,rfl⟩
theorem uU:Ql X Pc:=by
 intro pins s σ H x v vl vu lo hi sl Q I rx hs pl pu h
 obtain ⟨z,rfl,hz,q⟩:=h
 obtain ⟨t,rfl⟩:=rx
 obtain ⟨l,rfl,rfl⟩:=part_of pl
 obtain ⟨u,rfl,rfl⟩:=part_of pu
 refine⟨"str",_,F.slot_str_getitem.lookup,typeIs_str _ _ _,wpAny_getItem_str_slice (l:=l) (u:=u) (st:=none) hs rfl ?_⟩
 exact post_val_or_str ⟨Zm (Txt.slice_le z _ _) hz,fun t' k=>⟨.str _,H,I.tok _,⟨_,rfl⟩,q⟩⟩
theorem k7:∀ (zs:List Str) (k:Nat),Vals (zs.map V.str) (strsFrom k zs)
 | [],_=>.nil
 | z::zs,k=>.cons ⟨_,rfl⟩ (k7 zs (k+1))
def EO:V->List V->Hp->VK->Prop:=fun x xs H Q=>∃ z y,x=.str z/\xs=[.str y]/\y.length≠0/\z.length<=2000/\(Txt.split z y).length<=2000/\∀ p,H p=none->Q (.ref p) (upd H p (.lst ((Txt.split z y).map V.str)))
theorem au{n:Nat}(h:n<=2000):n<=sizeLine:=Zm h (by decide)
theorem ER:Jl X "str.split" EO:=by
 intro pins s σ H x xs v us Q I rx rs h
 obtain ⟨z,y,rfl,rfl,hy,hz,hn,q⟩:=h
 obtain ⟨t,rfl⟩:=rx
 obtain ⟨u,rfl,t',rfl⟩:=vals1 rs
 have GN:(y.length == 0)=false:=by simpa using hy
 have Sx:z.length<=sizeLine:=au (by lia)
 have fin:∀ (k:Nat) (its:List Value),Vals ((Txt.split z y).map V.str) its->EP X pins σ Q (.ref s.heap.objs.size) { s with toks:=k,heap:=s.heap.push { cls:=.type "list",data:=.seq its.toArray } }:=fun k its r =>
  ⟨.ref s.heap.objs.size,_,I.laid (t':=k) (o:=.lst ((Txt.split z y).map V.str)) (fun b ob q=>Zf _ q) (Zn _) ⟨by rw [ZI];exact au hn,_,0,r,Zk _ rfl⟩,rfl,q _ (I.bf.fresh (Zn _))⟩
 cases h1:(decide (z.length<y.length) || decide (Builtin.Str.strKind z<Builtin.Str.strKind y))
 ·cases hf:(occurrences z y 0 z.length (z.length+1)).isEmpty
  ·have e:Txt.split z y=partsBetween z (occurrences z y 0 z.length (z.length+1)) y.length:=(if_neg (ne_true_of_eq_false h1)).trans (if_neg (ne_true_of_eq_false hf))
   refine call_meets F.slot_str_split (typeIs_str _ _ _) F.entry_str_split (F.args_str_split_2 _ _) (meets_str_split_sep z y t t' h1 GN hf Sx (by rw [<- e];exact au hn)) ?_
   rw [<- e]
   exact fin _ _ (k7 _ _)
  ·have e:Txt.split z y=[z]:=(if_neg (ne_true_of_eq_false h1)).trans (if_pos hf)
   refine call_meets F.slot_str_split (typeIs_str _ _ _) F.entry_str_split (F.args_str_split_2 _ _) (meets_str_split_not_found z y t t' h1 GN hf) ?_
   exact fin s.toks [.str z t] (by rw [e];exact .cons ⟨_,rfl⟩ .nil)
 ·have e:Txt.split z y=[z]:=if_pos h1
  refine call_meets F.slot_str_split (typeIs_str _ _ _) F.entry_str_split (F.args_str_split_2 _ _) (meets_str_split_cannot_occur z y t t' h1) ?_
  exact fin s.toks [.str z t] (by rw [e];exact .cons ⟨_,rfl⟩ .nil)
def JJ:List V->Hp->VK->Prop:=fun xs H Q=>∃ z n,xs=[.str z]/\PySem.intText? z=some n/\z.length<=640/\Q (.int n) H
theorem k8:bM X (.type "int") JJ:=by
 intro pins s σ H xs us Q I r h
 obtain ⟨z,n,rfl,hn,hl,q⟩:=h
 obtain ⟨u,rfl,t,rfl⟩:=vals1 r
 exact PySem.W.KIN.call_text hn hl ⟨.int n,H,I.tok _,⟨_,rfl⟩,q⟩
def JK:List V->Hp->VK->Prop:=fun xs H Q=>∃ i,xs=[.int i]/\i.natAbs.log2<1920/\Q (.str (toString i)) H
theorem iO:bM X (.type "str") JK:=uA
def JM:List V->Hp->VK->Prop:=fun xs H Q=>∃ z,xs=[.str z]/\z.length<=sizeLine/\Q (.int z.length) H
theorem ju:bM X (.builtin "len") JM:=uE
def JN:R2:=fun x y H Q=>∃ i j,x=.str i/\y=.str j/\i.length+j.length<=sizeLine/\Q (.str (i++j)) H
theorem bL:gz X (binaryOp .Add) JN:=zj
def Pd:R2:=fun x y H Q=>∃ i j,x=.str i/\y=.str j/\Q (.bl (!(occurrences j i 0 j.length 1).isEmpty)) H
theorem LQ:gz X (compareOp .In) Pd:=BH
abbrev TF:=St->Hp->Str->VK->Prop
def PF(X:Cx)(es:List Expr)(t:TF):Prop:=∀ (pins:List (Addr×Obj)) (s:Shared) (σ:St) (H:Hp) (out:Str) (Q:VK),Inv X pins σ H s->t σ H out Q->wpAny (model X.prog X.w) X.A (joinParts out (evalEach es X.env)) (EP X pins σ Q) X.xe s
def Pe:TF:=fun _ H out Q=>out.length<=sizeLine/\Q (.str out) H
def rPiece(tr:TF)(σ:St)(out:Str)(Q:VK):VK:=fun v H1=>∃ y,v=.str y/\(out++y).length<=sizeLine/\tr σ H1 (out++y) Q
def JO(te:TE)(tr:TF):TF:=fun σ H out Q=>te σ H (rPiece tr σ out Q)
theorem zH:PF X [] Pe:=fun pins s σ H out Q I h=>joinParts_nilE (joinParts_nil ⟨.str out,H,I.tok _,⟨_,rfl⟩,h.2⟩ h.1)
theorem dz{e:Expr}{es:List Expr}{te:TE}{tr:TF}(he:PE X e te)(hr:PF X es tr):PF X (e::es) (JO te tr):=fun pins s σ H out Q I h =>
 joinParts_consE (joinParts_cons (cb (he pins s σ H _ I h) fun v s1 ⟨x,H1,I1,r1,q1⟩=>by
  obtain ⟨y,rfl,hz,q⟩:=q1
  obtain ⟨t,rfl⟩:=r1
  exact⟨hz,hr pins s1 σ H1 _ Q I1 q⟩))
def JP(t:TF):TE:=fun σ H Q=>t σ H Str.empty Q
theorem uV{e1 e2:Expr}{es:List Expr}{pos:Pos}{t:TF}(h:PF X (e1::e2::es) t):PE X (.JoinedStr (e1::e2::es) pos) (JP t):=fun pins s σ H Q I q=>JoinedStr_many (h pins s σ H _ Q I q)
def Bl(Q:VK):VK:=fun v H1=>(∃ i,v=.int i/\i.natAbs.log2<1920/\Q (.str (toString i)) H1)\/∃ z,v=.str z/\z.length<=sizeLine/\Q (.str z) H1
def JQ(te:TE):TE:=fun σ H Q=>te σ H (Bl Q)
theorem pe{e:Expr}{pos:Pos}{te:TE}(he:PE X e te):PE X (.FormattedValue e (-1) none pos) (JQ te):=fun pins s σ H Q I q =>
 FormattedValue_plain (cb (he pins s σ H _ I q) fun v s1 ⟨x,H1,I1,r1,q1⟩=>by
  rcases q1 with ⟨i,rfl,hi,q⟩|⟨z,rfl,hz,q⟩
  ·obtain ⟨t,rfl⟩:=r1
   exact formatField_int_small hi ⟨.str _,H1,I1.tok _,⟨_,rfl⟩,q⟩
  ·obtain ⟨t,rfl⟩:=r1
   exact formatField_str (fun t' tk=>⟨.str z,H1,I1.tok _,⟨_,rfl⟩,q⟩) hz)
end
section
variable {D:Ends}{σ:St}{H:Hp}{te:TE}{g:TG}{Q:VK}{z y:Str}{K:Frag}
theorem LR{R:It->Hp->Prop}(h:te σ H fun x H1=>LO x H1 R):Pb te σ H R:=h
theorem Pf{R:It->Hp->Prop}(h:R (Pa z) H):LO (.str z) H R:=⟨z,rfl,h⟩
theorem Pg{lo hi:Option Int}(hz:z.length<=sizeLine)(h:Q (.str (Txt.slice z lo hi)) H):Pc (.str z) lo hi H Q:=⟨z,rfl,hz,h⟩
theorem Ia(hy:y.length≠0)(hz:z.length<=2000)(hn:(Txt.split z y).length<=2000)(h:∀ p H2,H p=none->ah H H2->H2 p=some (.lst ((Txt.split z y).map V.str))->Q (.ref p) H2):EO (.str z) [.str y] H Q:=⟨z,y,rfl,rfl,hy,hz,hn,fun p hp=>h p _ hp (ah.aY hp) aB⟩
theorem zI{n:Int}(hn:PySem.intText? z=some n)(hl:z.length<=640)(h:Q (.int n) H):JJ [.str z] H Q:=⟨z,n,rfl,hn,hl,h⟩
theorem k9{i:Int}(hi:i.natAbs.log2<1920)(h:Q (.str (toString i)) H):JK [.int i] H Q:=⟨i,rfl,hi,h⟩
theorem LS(hz:z.length<=sizeLine)(h:Q (.int z.length) H):JM [.str z] H Q:=⟨z,rfl,hz,h⟩
theorem cD(hz:z.length+y.length<=sizeLine)(h:Q (.str (z++y)) H):JN (.str z) (.str y) H Q:=⟨z,y,rfl,rfl,hz,h⟩
theorem Ph(h:Q (.bl (!(occurrences y z 0 y.length 1).isEmpty)) H):Pd (.str z) (.str y) H Q:=⟨z,y,rfl,rfl,h⟩
theorem LU{t:TF}(h:t σ H Str.empty Q):JP t σ H Q:=h
theorem Ib{tr:TF}{out:Str}(h:te σ H (rPiece tr σ out Q)):JO te tr σ H out Q:=h
theorem zJ{out:Str}(h1:out.length<=sizeLine)(h:Q (.str out) H):Pe σ H out Q:=⟨h1,h⟩
theorem cL{tr:TF}{out:Str}(h1:(out++y).length<=sizeLine)(h:tr σ H (out++y) Q):rPiece tr σ out Q (.str y) H:=⟨y,rfl,h1,h⟩
theorem LV(h:te σ H (Bl Q)):JQ te σ H Q:=h
theorem uW{i:Int}(hi:i.natAbs.log2<1920)(h:Q (.str (toString i)) H):Bl Q (.int i) H:=.inl ⟨i,rfl,hi,h⟩
theorem Bm(hz:z.length<=sizeLine)(h:Q (.str z) H):Bl Q (.str z) H:=.inr ⟨z,rfl,hz,h⟩
theorem ka{i:Int}{c:Nat}(hz:z.length<=sizeLine)(h1:tU z.cps.toList i=some c)(h:Q (.str ⟨#[c]⟩) H):KG (.str z) (.int i) H Q:=⟨z,i,c,rfl,rfl,hz,h1,h⟩
theorem ES{ix:List (Option Nat)}(fr:St)(f:Nat->V)(qt:pick ix σ=none::fr)(hn:z.length<=1000)
  (step:∀ (i c:Nat) (H':Hp) (Qc:VK),z.cps[i]?=some c->ah H H'->(∀ H5,ah H' H5->Qc (f i) H5)->te (some (.str ⟨#[c]⟩)::fr) H' Qc)
  (hQ:∀ l H',H l=none->ah H H'->H' l=some (.lst ((List.range z.cps.size).map f))->Q (.ref l) H'):bT ix (br 0) (fun _ H Q=>Q true H) te σ Q (Pa z) H :=
 jZ fr z.cps.size f qt (Zm hn (by decide)) (fun _ _=>Zn _) (fun i _ hi _=>hi) (fun i x H' H2 Qc hi hs hy kc=>by obtain ⟨rfl,c,hc,rfl⟩:=hy;exact step i c _ Qc hc hs kc) hQ
end
def JR(tc:TE)(r':R2)(y:V)(σ:St)(Q:VK):VK:=fun z H3=>∃ k,z=.bl k/\(if k=true then tc σ H3 fun w' H4=>r' y w' H4 Q else Q (.bl false) H3)
theorem Ic{r r':R2}{ta tb tc:TE}{σ:St}{H:Hp}{Q:VK}(h:ta σ H fun x H1=>tb σ H1 fun y H2=>r x y H2 (JR tc r' y σ Q)):Dw r r' ta tb tc σ H Q:=h
theorem LW{r':R2}{tc:TE}{y:V}{σ:St}{H:Hp}{Q:VK}{k:Bool}(h:if k=true then tc σ H fun w' H4=>r' y w' H4 Q else Q (.bl false) H):JR tc r' y σ Q (.bl k) H:=⟨k,rfl,h⟩
open PySem PySem.Spec PyProof.Rows
section
variable {Q:VK}{H:Hp}{z y:Str}
theorem Pj:decide (V.str z=V.str y)=decide (z=y):=by
 rw [Bool.eq_iff_iff];simp
theorem Pk(h:Q (.bl (decide (z=y))) H):Q9 (.str z) (.str y) H Q:=⟨rfl,by rw [Pj];exact h⟩
theorem Pl(h:Q (.bl (!decide (z=y))) H):Ra (.str z) (.str y) H Q:=⟨rfl,by rw [Pj];exact h⟩
end
theorem noraise{X:Cx}:∀ e s',XW X (fun _ _ _=>False) e s'->X.xe e s':=fun _ _ h=>by
 obtain ⟨_,_,_,_,_,_,_,z⟩:=h
 exact z.elim
def pf(P:Program)(w:World)(K:Frag)(a:Addr)(dw:List (Key×V)):Prop :=
 (a == sysModules)=false/\∀ h:Heap,K.In h->∃ vs,KV dw vs/\h.DictOf (fQ P w) a vs
def LX(w:World)(x:Str×Tok×Addr):DictEntry:=⟨PyData.keyHash w.params x.1,.str x.1 x.2.1,.ref x.2.2⟩
theorem LY {P:Program} {w:World} {K:Frag} {a:Addr} {xs:List (Str×Tok×Addr)} {ep:Nat} (lk:K.lookup a=some ⟨.type "dict",none,.dict (xs.map (LX w)).toArray ep,#[]⟩) (hs:(a == sysModules)=false) (hn:(xs.map (·.1)).Nodup) :
  pf P w K a (xs.map fun x=>(.inr x.1,.ref x.2.2)):=by
 refine⟨hs,fun h KX=>⟨xs.map fun x=>(.inr x.1,.ref x.2.2),?_,_,_,_,KX _ _ lk,⟨rfl,rfl,rfl⟩,rfl,?_,?_,?_⟩⟩
 ·clear lk hn
  induction xs with
  | nil=>exact .nil
  | cons x xs ih=>exact .cons ⟨rfl,rfl⟩ ih
 ·intro e he
  have Xd:e∈xs.map (LX w):=by simpa using he
  obtain ⟨x,_,rfl⟩:=ZM.mp Xd
  exact⟨.inr x.1,kJ x.1 x.2.1,rfl⟩
 ·show Pairs _ (xs.map (LX w)).toArray.toList _
  rw [toList_toArray]
  clear lk hn
  induction xs with
  | nil=>exact .nil
  | cons x xs ih=>exact .cons (kJ x.1 x.2.1) rfl ih
 ·rw [ZW]
  have:(xs.map (·.1)).Pairwise (·≠·):=hn
  rw [List.Nodup,List.pairwise_map] at *
  exact hn.imp fun h e=>h (Sum.inr.inj e)
section
variable {X:Cx}{a:Addr}{dw:List (Key×V)}
def Bo(a:Addr)(dw:List (Key×V)):R2:=fun x y H Q=>∃ z:Str,x=.str z/\y=.ref a/\Q (.bl (!(jt dw (.inr z)).isSome)) H
theorem Ck(F:pf X.prog X.w X.K a dw):gz X (compareOp .NotIn) (Bo a dw):=by
 intro pins s σ H x y v u Q I rx ry h
 obtain ⟨z,rfl,rfl,q⟩:=h
 obtain rfl:u=Value.ref a:=ry
 obtain ⟨hs,hF⟩:=F
 obtain ⟨vs,rel,dd⟩:=hF _ I.nZ
 refine wpAny_notIn_of (JI (k:=.inr z) rx) hs dd.mapOf ?_
 rw [<- (rel.val (.inr z)).Cg]
 exact⟨.bl _,H,I.tok _,rfl,q⟩
def Pm(a:Addr)(dw:List (Key×V)):R2:=fun x y H Q=>∃ (z:Str) (v:V),x=.ref a/\y=.str z/\jt dw (.inr z)=some v/\Q v H
theorem xX(F:pf X.prog X.w X.K a dw):DF X (Pm a dw):=by
 intro value slice pins s σ H x y v u Q I rx ry h hs
 obtain ⟨z,r,rfl,rfl,hv,q⟩:=h
 obtain rfl:v=Value.ref a:=rx
 obtain ⟨Ga,hF⟩:=F
 obtain ⟨vs,rel,dd⟩:=hF _ I.nZ
 obtain ⟨w',hw,Gs⟩:=ur.some_of (v:=r) (o:=valueAt vs (.inr z)) (by rw [<- hv];exact rel.val (.inr z))
 exact tail_any dd.typeIs PySem.F.slot_dict_getitem.lookup (wpAny_getItem_of (JI (k:=.inr z) ry) dd.mapOf hw ⟨r,H,I.tok _,Gs,q⟩) hs
def Bp:V->List V->Hp->VK->Prop:=fun x xs H Q=>∃ z y,x=.str z/\xs=[.str y]/\Q (.bl (0+y.length<=z.length && Builtin.Str.subAt z y 0)) H
theorem Cm:Jl X "str.startswith" Bp:=by
 intro pins s σ H x xs v us Q I rx rs h
 obtain ⟨z,y,rfl,rfl,q⟩:=h
 obtain ⟨t,rfl⟩:=rx
 obtain ⟨u,rfl,t',rfl⟩:=vals1 rs
 exact call_gives F.slot_str_startswith (typeIs_str _ _ _) F.entry_str_startswith (F.args_str_startswith_2 _ _) (gives_str_startswith z y t t') ⟨.bl _,H,I,rfl,q⟩
def jv(c:Nat)(n:Nat):Str:=⟨Array.replicate n c⟩
theorem ug(c:Nat):∀ (k:Nat) (b:Array Nat),(List.replicate k #[c]).foldl (·++·) b=b++Array.replicate k c
 | 0,b=>by simp
 | k+1,b=>by
  rw [replicate_succ,foldl_cons,ug c k,Array.append_assoc]
  congr 1
  apply Array.ext'
  simp [replicate_succ]
def JS:R2:=fun x y H Q=>∃ (c:Nat) (n:Int),x=.str ⟨#[c]⟩/\y=.int n/\(-1000<=n/\n<=1000)/\Q (.str (jv c n.toNat)) H
theorem iP:gz X (binaryOp .Mult) JS:=by
 intro pins s σ H x y v u Q I rx ry h
 obtain ⟨c,n,rfl,rfl,hn,q⟩:=h
 obtain ⟨t,rfl⟩:=rx
 obtain ⟨t',rfl⟩:=ry
 have l1:(⟨#[c]⟩:Str).length=1:=rfl
 refine P.mul_str (by rw [Zu (by lia),Zu (by lia)];rfl) (fun h1 _=>?_) (fun h1 _=>?_) ?_
 ·have ET:1<=n:=by lia
  have:(9000000000000:Int)<=(2 ^ 63 - 1) / n:=by
   rw [Int.le_ediv_iff_mul_le (by lia)]
   lia
  rw [l1]
  lia
 ·show decide (_ > sizeLine)=false
  rw [Zu]
  rw [l1]
  have:=au (show 1*n.toNat<=2000 by lia)
  lia
 ·split
  ·rename_i h1
   have e:jv c n.toNat=Str.empty:=by rw [show n.toNat=0 by lia];rfl
   rw [e] at q
   exact⟨by decide,⟨.str _,H,I.tok _,⟨_,rfl⟩,q⟩⟩
  ·split
   ·rename_i h1 h2
    have e:n=1:=by
     rw [Bool.or_eq_true,beq_iff_eq,beq_iff_eq,l1] at h2
     rcases h2 with h2|h2
     ·exact h2
     ·cases h2
    subst e
    exact⟨.str _,H,I,⟨_,rfl⟩,q⟩
   ·have e:(⟨(List.replicate n.toNat #[c]).foldl (·++·) #[]⟩:Str)=jv c n.toNat:=by
     unfold jv
     rw [ug,Array.empty_append]
    refine⟨?_,⟨.str _,H,I.tok _,⟨_,rfl⟩,?_⟩⟩
    ·show (⟨(List.replicate n.toNat #[c]).foldl (·++·) #[]⟩:Str).length<=sizeLine
     rw [e]
     show (Array.replicate n.toNat c).size<=sizeLine
     rw [Array.size_replicate]
     exact au (by lia)
    ·show Q (.str ⟨(List.replicate n.toNat #[c]).foldl (·++·) #[]⟩) H
     rw [e]
     exact q
end
section
variable {H:Hp}{Q:VK}{a:Addr}{dw:List (Key×V)}{z y:Str}
theorem EU(h:Q (.bl (!(jt dw (.inr z)).isSome)) H):Bo a dw (.str z) (.ref a) H Q:=⟨z,rfl,rfl,h⟩
theorem JT{v:V}(hv:jt dw (.inr z)=some v)(h:Q v H):Pm a dw (.ref a) (.str z) H Q:=⟨z,v,rfl,rfl,hv,h⟩
theorem EV(h:Q (.bl (0+y.length<=z.length && Builtin.Str.subAt z y 0)) H):Bp (.str z) [.str y] H Q:=⟨z,y,rfl,rfl,h⟩
theorem lj{c:Nat}{n:Int}(hn:-1000<=n/\n<=1000)(h:Q (.str (jv c n.toNat)) H):JS (.str ⟨#[c]⟩) (.int n) H Q:=⟨c,n,rfl,rfl,hn,h⟩
end
end L2
namespace L2
open PySem PySem.Spec PyProof.Rows PySem.W
theorem ph{P:Program}{w:World}:∀ {es:List DictEntry} {vs:List (Key×Value)} {ks:List Str},Pairs (fQ P w) es vs->vs.map (·.1)=ks.map Sum.inr->Vals (ks.map V.str) (es.map (·.key))
 | [],_,ks,.nil,h=>by
  cases ks with
  | nil=>exact .nil
  | cons a t=>cases h
 | e::es,_,ks,.cons h1 h2 t,h=>by
  cases ks with
  | nil=>cases h
  | cons a ks =>
   rw [map_cons,map_cons] at h
   injection h with h3 h4
   rw [h3] at h1
   rcases bw (show ov (Sum.inr a) e.key=true from h1) with ⟨i,t',e1,_⟩|⟨x,t',e1,e2⟩
   ·cases e1
   ·cases e1
    exact .cons ⟨t',e2⟩ (ph t h4)
theorem Bq:∀ {dw:List (Key×V)} {vs:List (Key×Value)},KV dw vs->vs.map (·.1)=dw.map (·.1)
 | _,_,.nil=>rfl
 | _,_,.cons h t=>by rw [map_cons,map_cons,Bq t,h.1]
def EW(a:Addr)(ks:List Str):List V->Hp->VK->Prop:=fun xs H Q=>xs=[.ref a]/\ks.length<=1000/\∀ l,H l=none->Q (.ref l) (upd H l (.lst (ks.map V.str)))
theorem zK {X:Cx} {a:Addr} {dw:List (Key×V)} {ks:List Str} (F:pf X.prog X.w X.K a dw) (hk:dw.map (·.1)=ks.map Sum.inr) (hc:X.calm=true):bM X (.type "list") (EW a ks):=by
 intro pins s σ H xs us Q I r h
 obtain ⟨rfl,hl,q⟩:=h
 obtain ⟨u,rfl,ru⟩:=vals1 r
 cases ru
 obtain ⟨lo,hF⟩:=F
 obtain ⟨vs,rel,o,es,ep,e,ex,dat,_,Xe,_⟩:=hF _ I.nZ
 have hv:=ph Xe ((Bq rel).trans hk)
 have Xf:es.size=ks.length:=by
  have:=hv.length
  rw [ZI,ZI,Array.length_toList] at this
  exact this.symm
 refine kdl_call (HY (es:=es) (ep:=ep) lo) (I.ok.hd hc) ⟨o,e,ex,dat⟩ (by rw [Xf];exact au (by lia)) fun h' tk acc c k hn it=>?_
 have ea:acc=(es.toList.map (·.key)).toArray:=by
  apply Array.ext
  ·rw [it.1];simp
  ·intro j h1 h2
   obtain ⟨hj,ev⟩:=it.2 j _ (Array.getElem?_eq_getElem h1)
   rw [ev]
   simp
 subst ea
 exact⟨.ref s.heap.objs.size,upd H s.heap.objs.size (.lst (ks.map V.str)),I.laid (t':=tk) k (Zn _) ⟨by rw [ZI];exact au (by lia),_,c,hv,hn⟩,rfl,q _ (I.bf.fresh (Zn _))⟩
section
variable {H:Hp}{Q:VK}{a:Addr}{z y:Str}
theorem Ie{ks:List Str}(hl:ks.length<=1000)(h:∀ l H2,H l=none->ah H H2->H2 l=some (.lst (ks.map V.str))->Q (.ref l) H2):EW a ks [.ref a] H Q:=⟨rfl,hl,fun l hn=>h l _ hn (ah.aY hn) aB⟩
end
end L2
namespace Xg
open PySem PySem.W PyProof.Rows
section
variable {n:Nat}{key:Nat->Int}
def ky(key:Nat->Int)(p:Array Nat)(i:Nat):Int:=key (p.getD i 0)
end
end Xg
namespace L2
open PySem PySem.Spec PySem.W PyProof.Rows
def lk(r:List Int):Int:=r.foldl (fun k a=>k*4000001+a) 0
end L2
namespace L2
open PySem PySem.Spec PyProof.Rows PySem.W
theorem kd:∀ {zs:List Str} {its:List Value},Vals (zs.map V.str) its->∃ l:List (Str×Tok),strValues l=its/\l.map (·.1)=zs
 | [],_,h=>by cases h;exact⟨[],rfl,rfl⟩
 | z::zs,_,h=>by
  cases h with
  | cons r h =>
   obtain ⟨t,rfl⟩:=r
   obtain ⟨l,e1,e2⟩:=kd h
   exact⟨(z,t)::l,by rw [<- e1];rfl,by rw [<- e2];rfl⟩
end L2
namespace L2
open PySem PySem.Spec PyProof.Rows PySem.W
def JU(tb:Eu->TS):TS:=fun D σ H=>tb (fun _ _ _=>False) D σ H
theorem Br{X:Cx}{body:List Stmt}{h0:ExceptHandler}{hs:List ExceptHandler}{pos:Pos}{tb:Eu->TS}
  (hb:∀ pins EX,tL ((EA X pins).fS (XW (EA X pins) EX)) body (tb EX)):PS X (.Try body (h0::hs) [] [] pos) (JU tb):=by
 intro pins s σ H D I h
 have back:∀ {f:Flow} {s':Shared} {E:Value->Shared->Prop},SP ((EA X pins).fS E) [] D f s'->SP X pins D f s':=fun {f s' E} q=>by
  cases f with
  | next=>obtain ⟨σ',H',J,z⟩:=q;exact⟨σ',H',(Inv.dk J).Hr,z⟩
  | brk=>obtain ⟨σ',H',J,z⟩:=q;exact⟨σ',H',(Inv.dk J).Hr,z⟩
  | cont=>obtain ⟨σ',H',J,z⟩:=q;exact⟨σ',H',(Inv.dk J).Hr,z⟩
  | ret u=>obtain ⟨v,σ',H',J,r,z⟩:=q;exact⟨v,σ',H',(Inv.dk J).Hr,r,z⟩
 refine wpAny_Try_except (Zz (hb pins _ [] s σ H D (I.Sd.fS _) h) (fun f s1 q=>?_) (fun e s1 q=>?_))
 ·cases f with
  | next=>exact wpAny_execs_nil (back q)
  | brk=>exact back q
  | cont=>exact back q
  | ret u=>exact back q
 obtain ⟨a,C,σ',H',rfl,I0,_,z⟩:=q
 exact z.elim
namespace Xh
def up(ts:List Nat)(a:Int)(u:Nat->Int):Nat->Int:=fun x=>if x∈ts then u x+a else u x
section
variable {n:Nat}{W:Nat->Nat->Int}{u v:Nat->Int}{g c:Nat->Option Nat}{first:Nat}{ts:List Nat}{os:List (Nat×Nat)}
def st(f:Nat->Option Nat)(i:Nat)(x:Option Nat):Nat->Option Nat:=fun k=>if k=i then x else f k
end
end Xh
end L2
namespace L2
open PySem PySem.Spec PyProof.Rows
section
variable {K:Frag}{H:Hp}{σ:St}{Q:VK}{ix:List (Option Nat)}
theorem Pn{l:Addr}{xs:List V}{n:Nat}(e:H l=some (.lst xs))(hn:xs.length*n<=1000)(h:∀ p H2,H p=none->ah H H2->H2 p=some (.lst (List.replicate n xs).flatten)->Q (.ref p) H2)(h1:n<=1000):NM (.ref l) (.int (n:Int)) H Q :=
 ⟨l,(n:Int),xs,rfl,rfl,e,by lia,by lia,Zm (by rw [Z3];exact hn) (by decide),fun p hp=>h p _ hp (ah.aY hp) (by rw [Z3];exact aB)⟩
end
inductive Sy(K:Frag)(H:Hp):List V->List (Nat×List Int)->Prop where
 | nil:Sy K H [] []
 | cons {q a:Addr} {p:Nat} {r:List Int} {xs:List V} {ps:List (Nat×List Int)} (h:aL K H q [.int (p:Int),.ref a]) (hr:aL K H a (r.map V.int)) (t:Sy K H xs ps):Sy K H (.ref q::xs) ((p,r)::ps)
inductive Sz(K:Frag)(H:Hp):List V->List (List Int×Bool)->Prop where
 | nil:Sz K H [] []
 | cons {q a:Addr} {b:Bool} {r:List Int} {xs:List V} {ps:List (List Int×Bool)} (h:aL K H q [.ref a,.bl b]) (hr:aL K H a (r.map V.int)) (t:Sz K H xs ps):Sz K H (.ref q::xs) ((r,b)::ps)
section
variable {K:Frag}{H:Hp}{Q:VK}
theorem Ig{l:Addr}{xs:List V}(e:H l=some (.lst xs))(h:Q .dj (upd H l (.lst []))):DM (.ref l) [] H Q:=⟨l,xs,rfl,rfl,e,h⟩
end
def del(H:Hp)(c:Addr):Hp:=fun b=>if b=c then none else H b
end L2
namespace L2
open PySem PySem.Spec PyProof.Rows PySem.W
def EY:V->List V->Hp->VK->Prop:=fun x xs H Q=>∃ y l zs,x=.str y/\xs=[.ref l]/\H l=some (.lst (zs.map V.str))/\y.length<=16/\((zs.map (·.length)).sum+zs.length<=1000000)/\Q (.str (Str.join y zs)) H
theorem kf {X:Cx}:Jl X "str.join" EY:=by
 intro pins s σ H x xs v us Q I rx rs h
 obtain ⟨y,l,zs,rfl,rfl,hl,hy,hw,q⟩:=h
 obtain ⟨t,rfl⟩:=rx
 obtain ⟨u,rfl,ru⟩:=vals1 rs
 cases ru
 obtain ⟨z,its,n,r,e⟩:=(show cq X.prog X.w H s.heap l (.lst (zs.map V.str)) from I.bf l _ hl)
 obtain ⟨ps,e1,e2⟩:=kd r
 subst e1
 refine SC.join (l:=ps) ⟨_,e,rfl,n,rfl⟩ e2 (joinOk_of_weight (by lia) (by lia)) fun t' k=>?_
 have ej:Txt.join y zs=Str.join y zs:=eq_of_beq (join_closes (ys:=zs) (rfl:y=y))
 rw [ej]
 exact⟨.str _,H,I.tok _,⟨_,rfl⟩,q⟩
theorem oj{H:Hp}{Q:VK}{y:Str}{l:Addr}{zs:List Str}(hl:H l=some (.lst (zs.map V.str)))(hy:y.length<=16)(hw:(zs.map (·.length)).sum+zs.length<=1000000)(h:Q (.str (Str.join y zs)) H):EY (.str y) [.ref l] H Q:=⟨y,l,zs,rfl,rfl,hl,hy,hw,h⟩
def EZ(t t':TI):TI:=fun σ H R=>t σ H R\/t' σ H R
theorem Ih{X:Cx}{tg it:Expr}{t t':TI}(h:PI X tg it t)(h':PI X tg it t'):PI X tg it (EZ t t'):=fun pins s σ H R I z=>z.elim (h pins s σ H R I) (h' pins s σ H R I)
theorem LZ{σ:St}{H:Hp}{R:It->Hp->Prop}{t t':TI}(h:t σ H R):EZ t t' σ H R:=.inl h
theorem Ii{σ:St}{H:Hp}{R:It->Hp->Prop}{t t':TI}(h:t' σ H R):EZ t t' σ H R:=.inr h
theorem Ij{K:Frag}{D:Ends}{σ:St}{H:Hp}{k1 k2 k3:Bool}{a b c:Addr}{xs ys zs:List V}{m n o:Nat}{tb:TS}(hlen:xs.length=ys.length)(JV:xs.length=zs.length)(Pv:Nat->St->Hp->Prop)(h0:Pv 0 σ H)(ha:∀ i σ H2,Pv i σ H2->Sq k1 K H2 a xs/\Sq k2 K H2 b ys/\Sq k3 K H2 c zs)
  (hs:∀ (i:Nat) x y z σ H2 H3,xs[i]?=some x->ys[i]?=some y->zs[i]?=some z->Pv i σ H2->ah H2 H3->tb { D with nx:=Pv (i+1),ct:=Pv (i+1),bk:=D.nx } (((σ.set m (some x)).set n (some y)).set o (some z)) H3)
  (hd:∀ σ H2,Pv xs.length σ H2->D.nx σ H2):cW (ox K 3 (cw (br m) (cw (br n) (cw (br o) qq)))) tb D (He K k1 k2 k3 a b c) σ H:=by
 refine xV xs.length Pv h0 (fun i σ H2 hi p=>?_) (fun σ H2 p=>⟨_,(ha _ σ H2 p).1,Zn _⟩) (fun i x σ H2 H3 hi p hy=>?_) hd
 ·obtain ⟨a1,a2,a3⟩:=ha i σ H2 p
  exact⟨_,_,_,xs[i],ys[i]'(hlen ▸ hi),zs[i]'(JV ▸ hi),a1,a2,a3,ZC hi,ZC (hlen ▸ hi),ZC (JV ▸ hi)⟩
 ·obtain ⟨a1,a2,a3⟩:=ha i σ H2 p
  obtain ⟨q,x',y',z',rfl,hq,e1,e2,e3,rfl⟩:=hy
  refine⟨q,_,rfl,aL.of aB,rfl,_,_,rfl,_,_,rfl,_,_,rfl,rfl,?_⟩
  exact hs i x' y' z' σ _ _ (e1 _ a1) (e2 _ a2) (e3 _ a3) p (ah.aY hq)
end L2
namespace L2
open PySem PySem.Spec PyProof.Rows PySem.W
open PySem PySem.Spec PyProof.Rows
section
variable {K:Frag}{H:Hp}{σ:St}{Q:VK}{ix:List (Option Nat)}
theorem uh{n:Nat}{te:TE}(fr:St)(P:Nat->Int->Prop)(qt:pick ix σ=none::fr)(hn:n<=1000)
  (step:∀ (i:Nat) H' (Qc:VK),i<n->ah H H'->(∀ x H5,P i x->ah H' H5->Qc (.int x) H5)->te (some (.int i)::fr) H' Qc)
  (hQ:∀ l H' (xs:List Int),H l=none->ah H H'->H' l=some (.lst (xs.map V.int))->xs.length=n->(∀ (i:Nat) (x:Int),xs[i]?=some x->P i x)->Q (.ref l) H'):bT ix (br 0) (fun _ H Q=>Q true H) te σ Q (Kl 0 n) H:=by
 refine cF 1 fr n (fun l i ys H'=>∃ xs:List Int,ys=xs.map V.int/\xs.length=i/\i<=n/\∀ (j:Nat) (x:Int),xs[j]?=some x->P j x) qt (fun l H' _ _ _=>⟨[],rfl,rfl,ZZ _,fun j x h=>by simp at h⟩) (fun l i ys H' ⟨xs,e,l1,l2,_⟩=>by rw [e,ZI];lia) (fun _ _=>Zn _) (fun i _ hi _=>hi) (fun l i x H' H2 own ys ho hi hl hs dB hp hy Qy Qn ky kn=>?_) (fun l H' ys hl hs dB hp=>?_)
 ·obtain ⟨xs,rfl,l1,l2,hP⟩:=hp
  obtain ⟨o,rfl⟩:∃ o,own=[o]:=by match own,ho with|[o],_=>exact⟨o,rfl⟩
  obtain ⟨rfl,rfl⟩:=hy
  dsimp only [br]
  rw [if_pos rfl,Int.zero_add]
  refine step i _ _ hi hs fun y H5 py s5=>?_
  refine ky [some (.int i)] (.int y) H5 rfl s5 ⟨xs++[y],by rw [ZV];rfl,by rw [ZJ,l1];rfl,hi,fun j z hz=>?_⟩
  by_cases hj:j<xs.length
  ·rw [ZP hj] at hz
   exact hP j z hz
  ·have jn:=(Zi.mp hz).1
   rw [ZJ,Zh] at jn
   obtain rfl:j=i:=by lia
   rw [Zq (by lia),show j - xs.length=0 by lia] at hz
   cases hz
   exact py
 ·obtain ⟨xs,rfl,l1,_,hP⟩:=hp
  exact hQ l H' xs hl hs dB l1 hP
end
end L2
namespace L2
open PySem PySem.Spec PyProof.Rows PySem.Builtin PySem.Builtin.Str
section
variable {X:Cx}
theorem Bs{n:Nat}(h:n<=1000000):n<=sizeLine:=Zm h (by decide)
def Bt:V->List V->Hp->VK->Prop:=fun x xs H Q=>∃ z y,x=.str z/\xs=[.str y]/\y.length≠0/\z.length<=1000000/\(Txt.split z y).length<=1000/\∀ p,H p=none->Q (.ref p) (upd H p (.lst ((Txt.split z y).map V.str)))
theorem ui:Jl X "str.split" Bt:=by
 intro pins s σ H x xs v us Q I rx rs h
 obtain ⟨z,y,rfl,rfl,hy,hz,hn,q⟩:=h
 obtain ⟨t,rfl⟩:=rx
 obtain ⟨u,rfl,t',rfl⟩:=vals1 rs
 have GN:(y.length == 0)=false:=by simpa using hy
 have Sx:z.length<=sizeLine:=Bs hz
 have KS:(Txt.split z y).length<=sizeLine:=Bs (by lia)
 have uX:∀ (k:Nat) (its:List Value),Vals ((Txt.split z y).map V.str) its->EP X pins σ Q (.ref s.heap.objs.size) { s with toks:=k,heap:=s.heap.push { cls:=.type "list",data:=.seq its.toArray } }:=fun k its r =>
  ⟨.ref s.heap.objs.size,_,I.laid (t':=k) (o:=.lst ((Txt.split z y).map V.str)) (fun b ob q=>Zf _ q) (Zn _) ⟨by rw [ZI];exact KS,_,0,r,Zk _ rfl⟩,rfl,q _ (I.bf.fresh (Zn _))⟩
 cases h1:(decide (z.length<y.length) || decide (Builtin.Str.strKind z<Builtin.Str.strKind y))
 ·cases hf:(occurrences z y 0 z.length (z.length+1)).isEmpty
  ·have e:Txt.split z y=partsBetween z (occurrences z y 0 z.length (z.length+1)) y.length:=(if_neg (ne_true_of_eq_false h1)).trans (if_neg (ne_true_of_eq_false hf))
   refine call_meets F.slot_str_split (typeIs_str _ _ _) F.entry_str_split (F.args_str_split_2 _ _) (meets_str_split_sep z y t t' h1 GN hf Sx (by rw [<- e];exact KS)) ?_
   rw [<- e]
   exact uX _ _ (k7 _ _)
  ·have e:Txt.split z y=[z]:=(if_neg (ne_true_of_eq_false h1)).trans (if_pos hf)
   refine call_meets F.slot_str_split (typeIs_str _ _ _) F.entry_str_split (F.args_str_split_2 _ _) (meets_str_split_not_found z y t t' h1 GN hf) ?_
   exact uX s.toks [.str z t] (by rw [e];exact .cons ⟨_,rfl⟩ .nil)
 ·have e:Txt.split z y=[z]:=if_pos h1
  refine call_meets F.slot_str_split (typeIs_str _ _ _) F.entry_str_split (F.args_str_split_2 _ _) (meets_str_split_cannot_occur z y t t' h1) ?_
  exact uX s.toks [.str z t] (by rw [e];exact .cons ⟨_,rfl⟩ .nil)
def E1:V->List V->Hp->VK->Prop:=fun x xs H Q=>∃ z y,x=.str z/\xs=[.str y]/\y.length≠0/\z.length<=1000000/\∀ p,H p=none->Q (.ref p) (upd H p (.tup [.str (Txt.partition z y).1,.str (Txt.partition z y).2.1,.str (Txt.partition z y).2.2]))
theorem xY:Jl X "str.partition" E1:=by
 intro pins s σ H x xs v us Q I rx rs h
 obtain ⟨z,y,rfl,rfl,hy,hz,q⟩:=h
 obtain ⟨t,rfl⟩:=rx
 obtain ⟨u,rfl,t',rfl⟩:=vals1 rs
 have GN:(y.length == 0)=false:=by simpa using hy
 refine call_meets F.slot_str_partition (typeIs_str _ _ _) F.entry_str_partition (F.args_str_partition_2 _ _) (meets_str_partition z y t t' GN (Bs hz)) ?_
 have uX:∀ (k:Nat) (a b c:Str) (t1 t2 t3:Tok),Txt.partition z y=(a,b,c)->EP X pins σ Q (.ref s.heap.objs.size) { s with toks:=k,heap:=s.heap.push { cls:=.type "tuple",data:=.seq [Value.str a t1,.str b t2,.str c t3].toArray } }:=fun k a b c t1 t2 t3 e=>by
  rw [e] at q
  exact⟨.ref s.heap.objs.size,_,I.laid (t':=k) (o:=.tup [.str a,.str b,.str c]) (fun b ob q=>Zf _ q) (Zn _) ⟨by show 3<=sizeLine;decide,_,.cons ⟨_,rfl⟩ (.cons ⟨_,rfl⟩ (.cons ⟨_,rfl⟩ .nil)),IsTup.new _ _⟩,rfl,q _ (I.bf.fresh (Zn _))⟩
 unfold Txt.partition at uX
 cases ho:occurrences z y 0 z.length 1 with
 | nil=>rw [ho] at uX;exact uX _ _ _ _ _ _ _ rfl
 | cons i r=>rw [ho] at uX;exact uX _ _ _ _ _ _ _ rfl
end
section
variable {H:Hp}{Q:VK}{z y:Str}
theorem xZ{ws:List Str}(hy:y.length≠0)(hz:z.length<=1000000)(hn:ws.length<=1000)(e:Txt.split z y=ws)(h:∀ p H2,H p=none->ah H H2->H2 p=some (.lst (ws.map V.str))->Q (.ref p) H2):Bt (.str z) [.str y] H Q:=⟨z,y,rfl,rfl,hy,hz,by rw [e];exact hn,fun p hp=>h p _ hp (ah.aY hp) (by rw [e];exact aB)⟩
theorem Bu{a b c:Str}(hy:y.length≠0)(hz:z.length<=1000000)(e:Txt.partition z y=(a,b,c))(h:∀ p H2,ah H H2->H2 p=some (.tup [.str a,.str b,.str c])->Q (.ref p) H2):E1 (.str z) [.str y] H Q:=⟨z,y,rfl,rfl,hy,hz,fun p hp=>h p _ (ah.aY hp) (by rw [e];exact aB)⟩
end
open PySem PySem.Spec PyProof.Rows
def dX(K:Frag)(n:Str)(st:Stmt):Prop:=∃ (f:Addr) (fd:FuncData),Jn K n n st f fd/\nsIn K mainGlobals n=some (some (.ref f))
theorem L0{K:Frag}{n:Str}{st:Stmt}{f:Addr}{oc:Value}{od an:Option Addr}{sl:Array (Option Value)}{kV dc pm cd ct:Value}(a:nsIn K mainGlobals n=some (some (.ref f)))(l:K.lookup f=some ⟨oc,od,.func (fnOf n n (eH st) (cK st) (ao st) .none kV dc pm an cd ct),sl⟩)(c:codeIn K cd n=true)(k:keepIn K (.ref f)=true):dX K n st:=⟨f,_,DQ l c k,a⟩
theorem dX.df{K:Frag}{n:Str}{st:Stmt}{mg:Str->Option Value}{h:Heap}{ps:List Str}(q:dX K n st)(X:K.In h)(G0:h.Ns mainGlobals mg)
  (b:∀ (kV doc pm:Value) (an:Option Addr) (bO ct:Value) (us:List Value),us.length=ps.length->bindArgs (fnOf n n (eH st) (cK st) (ao st) .none kV doc pm an bO ct) ⟨us,[]⟩=pure (ps.zip us)):Def K mg n st ps :=
 let ⟨f,fd,F,a⟩:=q
 ⟨f,fd,F,mg_of X G0 a,F.binds b⟩
inductive Fa{α:Type}(P:V->α->Prop):List V->List α->Prop where
 | nil:Fa P [] []
 | cons {x:V} {a:α} {xs:List V} {as:List α} (h:P x a) (t:Fa P xs as):Fa P (x::xs) (a::as)
section
variable {α:Type}{P P':V->α->Prop}
theorem Fa.length:∀ {xs:List V} {as:List α},Fa P xs as->as.length=xs.length
 | _,_,.nil=>rfl
 | _,_,.cons _ t=>by simp [t.length]
theorem Fa.get:∀ {xs:List V} {as:List α} {i:Nat} {x:V},Fa P xs as->xs[i]?=some x->∃ a,P x a/\as[i]?=some a
 | _,_,i,x,.nil,h=>by simp at h
 | _,_,0,x,.cons h t,e=>by
  rw [List.getElem?_cons_zero] at e
  cases e
  exact⟨_,h,rfl⟩
 | _,_,i+1,x,.cons h t,e=>by
  obtain ⟨n,h1,h2⟩:=t.get (i:=i) (x:=x) (by simpa using e)
  exact⟨n,h1,by simpa using h2⟩
theorem Fa.imp(f:∀ x a,P x a->P' x a):∀ {xs:List V} {as:List α},Fa P xs as->Fa P' xs as
 | _,_,.nil=>.nil
 | _,_,.cons h t=>.cons (f _ _ h) (t.imp f)
theorem Fa.snoc{x:V}{a:α}(h:P x a):∀ {xs:List V} {as:List α},Fa P xs as->Fa P (xs++[x]) (as++[a])
 | _,_,.nil=>.cons h .nil
 | _,_,.cons h1 t=>.cons h1 (t.snoc h)
end
def kg(o:Addr)(H H':Hp):Prop:=∀ b ob,b≠o->H b=some ob->H' b=some ob
section
variable {K:Frag}{H H' H2:Hp}{o:Addr}
theorem kg.trans(h:kg o H H')(g:kg o H' H2):kg o H H2:=fun b ob n e=>g b ob n (h b ob n e)
theorem kg.of(h:ah H H'):kg o H H':=fun b ob _ e=>h b ob e
theorem kg.set{x:HO}(h:kg o H H'):kg o H (L2.upd H' o x):=fun b ob n e=>by rw [aG n];exact h b ob n e
theorem kg.Po{a:Addr}{xs ys:List V}(s:kg o H H')(e:H o=some (.lst ys))(h:aL K H a xs):aL K H' a xs:=by
 rcases h with (h|⟨ob,h⟩)|h
 ·exact .inl (.inl (s a _ (fun z=>by rw [z,e] at h;cases h) h))
 ·exact .inl (.inr ⟨ob,s a _ (fun z=>by rw [z,e] at h;cases h) h⟩)
 ·exact .inr h
theorem kg.same{H0:Hp}(s:kg o H H')(h:ah H0 H)(n:H0 o=none):ah H0 H':=fun b ob e=>s b ob (fun z=>by rw [z,n] at e;cases e) (h b ob e)
theorem Cn{σ:St}{Q:VK}{ix:List (Option Nat)}{J:It}{g:TG}{tt:TT}{te:TE}(o:Addr)(ho:∃ ob,H o=some ob)(t:Nat)(fr:St)(n:Nat)(Pv:Addr->Nat->List V->Hp->Prop)(qt:pick ix σ=List.replicate t none++fr)
  (h0:∀ l H',H l=none->ah H H'->H' l=some (.lst [])->Pv l 0 [] H') (hn:∀ l i ys H',Pv l i ys H'->ys.length<=1000)
  (gE:∀ H',kg o H H'->J.stop n H') (D0:∀ i H',i<n->kg o H H'->J.go i H')
  (step:∀ l i x H' H2 own ys,own.length=t->i<n->H l=none->l≠o->kg o H H'->H' l=some (.lst ys)->Pv l i ys H'->J.Dn i H' x H2->∀ (Qy:St->VK) (Qn:St->Hp->Prop),
   (∀ j9 v H5,j9.length=t->kg o H' H5->Pv l (i+1) (ys++[v]) (L2.upd H5 l (.lst (ys++[v])))->Qy (j9++fr) v H5) ->
   g x (own++fr) H2 fun σ2 H3=>tt σ2 H3 fun b H4=>if b=true then te σ2 H4 (Qy σ2) else Qn σ2 H4)
  (hQ:∀ l H' ys,H l=none->l≠o->kg o H H'->H' l=some (.lst ys)->Pv l n ys H'->Q (.ref l) H'):bT ix g tt te σ Q J H:=by
 intro l hl
 obtain ⟨ob,Gb⟩:=ho
 have Dc:l≠o:=fun z=>by rw [z,Gb] at hl;cases hl
 refine⟨fun i m σ1 ys H'=>m=n - i/\i<=n/\(∃ own:St,own.length=t/\σ1=own++fr)/\kg o H H'/\H' l=some (.lst ys)/\Pv l i ys H',⟨n,by simp,ZZ _,⟨_,length_replicate,qt⟩,.of (ah.aY hl),aB,h0 l _ hl (ah.aY hl) aB⟩,?_⟩
 rintro i m σ1 ys H' ⟨rfl,hi,⟨own,ho,rfl⟩,hs,dB,hp⟩
 refine⟨dB,?_⟩
 by_cases jn:i<n
 ·refine .inr ⟨D0 i H' jn hs,n - (i+1),by lia,fun x H2 hy=>step l i x H' H2 own ys ho jn hl Dc hs dB hp hy _ _ fun j9 v H5 F5 s5 Sw=>?_⟩
  have l5:=s5 _ _ Dc dB
  refine⟨l5,ZN (hn l i ys H' hp) (cQ (Zn 1000)),rfl,jn,⟨j9,F5,rfl⟩,fun b ob nb e=>?_,aB,Sw⟩
  rw [aG (ba e hl)]
  exact s5 _ _ nb (hs _ _ nb e)
 ·obtain rfl:i=n:=by lia
  exact .inl ⟨gE H' hs,hQ l H' ys hl Dc hs dB hp⟩
theorem E2{Q:VK}{l:Addr}{x:V}{xs:List V}(e:H l=some (.lst (x::xs)))(h:Q x (L2.upd H l (.lst xs))):DK (.ref l) [.int 0] H Q:=⟨l,_,0,0,x,rfl,rfl,e,by decide,by decide,by simp [seqIndex?],rfl,h⟩
theorem Ik{α:Type}{xs:List α}{x:α}:tU (xs++[x]) (-1)=some x:=by
 unfold tU KD
 rw [if_neg (by decide),if_pos (by rw [ZJ];show -((xs.length+1:Nat):Int)<=-1;lia)]
 show (xs++[x])[_]?=_
 rw [show ((-1:Int)+((xs++[x]).length:Int)).toNat=xs.length by rw [ZJ];show (-1+((xs.length+1:Nat):Int)).toNat=_;lia]
 simp
end
end L2

set_option maxHeartbeats 8000000
namespace PySem.W.Fast
theorem tw16945755221862477705:True:=trivial
theorem tw874054076122939723:True:=trivial
theorem tw14879484929481324203:True:=trivial
theorem tw8270517822690229853:True:=trivial
theorem tw18025807965458398726:True:=trivial
theorem tw12168154114338843322:True:=trivial
theorem tw12687471540022411750:True:=trivial
theorem tw3373715031389007139:True:=trivial
theorem tw8734653041122809716:True:=trivial
theorem tw16107788199171588332:True:=trivial
theorem tw2191070234763943124:True:=trivial
theorem tw17137502514452514886:True:=trivial
theorem tw11718691990772846502:True:=trivial
theorem tw15231881891392344291:True:=trivial
theorem tw1986705183130138880:True:=trivial
theorem tw2489152738547122862:True:=trivial
theorem tw4864907677364461686:True:=trivial
theorem tw4876184101032169423:True:=trivial
theorem tw14231579017732062064:True:=trivial
theorem tw10873267252812303135:True:=trivial
theorem tw17303339167295803993:True:=trivial
theorem tw16799409193695215169:True:=trivial
theorem tw3756800224049324575:True:=trivial
theorem tw6344494101650892557:True:=trivial
theorem tw15045203093768657713:True:=trivial
theorem tw9105500568675782225:True:=trivial
theorem tw14867006525989272190:True:=trivial
theorem tw1772704599205972947:True:=trivial
theorem tw11827986648199424432:True:=trivial
theorem tw17839343546350055898:True:=trivial
theorem tw17280334754765538905:True:=trivial
theorem tw5387994542747526423:True:=trivial
theorem tw11037928759295526690:True:=trivial
theorem tw12112230296445627245:True:=trivial
theorem tw5457558543076150998:True:=trivial
theorem tw15515595298875913161:True:=trivial
theorem tw13944959488349552550:True:=trivial
theorem tw17735531831304007035:True:=trivial
theorem tw8313078044989931526:True:=trivial
theorem tw9796541166714238636:True:=trivial
theorem tw501111573267668597:True:=trivial
theorem tw16882153310503325630:True:=trivial
theorem tw17243746140530764976:True:=trivial
theorem tw8155176317895645139:True:=trivial
theorem tw13478235111597854823:True:=trivial
theorem tw5145841397218194952:True:=trivial
theorem tw3124962246115455645:True:=trivial
theorem tw12728554047851372084:True:=trivial
theorem tw4874098479055771624:True:=trivial
theorem tw14428426888309729272:True:=trivial
theorem tw13293441229636212020:True:=trivial
theorem tw5155418556526149536:True:=trivial
theorem tw3401005538536921923:True:=trivial
theorem tw10756611792140305574:True:=trivial
theorem tw16670163329270224031:True:=trivial
theorem tw17911702306033633753:True:=trivial
theorem tw2297609847628696034:True:=trivial
theorem tw8672780114130527465:True:=trivial
theorem tw9777748827594848203:True:=trivial
theorem tw8998313764700227106:True:=trivial
theorem tw9865941098430559550:True:=trivial
theorem tw12574304512983702985:True:=trivial
theorem tw6207565090138792988:True:=trivial
theorem tw5446012002668078646:True:=trivial
theorem tw13366425900964147364:True:=trivial
theorem tw4266760743499814590:True:=trivial
theorem tw15518383118630779089:True:=trivial
theorem tw12874856316067192700:True:=trivial
theorem tw15416398399800342997:True:=trivial
theorem tw1215283556767111158:True:=trivial
theorem tw16759436007741299237:True:=trivial
theorem tw17698468736627436436:True:=trivial
theorem tw17578927274052327278:True:=trivial
theorem tw11396277845179883352:True:=trivial
theorem tw1366580552046806217:True:=trivial
theorem tw3635448840354960526:True:=trivial
theorem tw4209127437697830184:True:=trivial
theorem tw2841501130266036085:True:=trivial
theorem tw824593301364743592:True:=trivial
theorem tw2404843772507690242:True:=trivial
theorem tw12015730251577288373:True:=trivial
theorem tw4202745528482005078:True:=trivial
theorem tw7246248699982410634:True:=trivial
theorem tw11743055128097898225:True:=trivial
theorem tw2865482841301856825:True:=trivial
theorem tw5614573429006332461:True:=trivial
theorem tw3282191430307468034:True:=trivial
theorem tw10338677508477928332:True:=trivial
theorem tw11321225399011824013:True:=trivial
theorem tw1330976142925950957:True:=trivial
theorem tw4055231546058661873:True:=trivial
theorem tw7325566833223244214:True:=trivial
theorem tw14192756198639214944:True:=trivial
theorem tw10169805607597218566:True:=trivial
theorem tw1960573532050726359:True:=trivial
theorem tw10192109336138471159:True:=trivial
theorem tw13758765410004955943:True:=trivial
theorem tw6926206118398972981:True:=trivial
theorem tw9696902408020296886:True:=trivial
theorem tw10581585851680690861:True:=trivial
theorem tw12594574814416856804:True:=trivial
theorem tw9128769336318832973:True:=trivial
theorem tw14082150430109902989:True:=trivial
theorem tw4137687618291896291:True:=trivial
theorem tw2118542807934214939:True:=trivial
theorem tw1019362099021425100:True:=trivial
theorem tw8650359468034067315:True:=trivial
theorem tw934385563446288415:True:=trivial
theorem tw9249368498292115647:True:=trivial
theorem tw2453646244300976220:True:=trivial
theorem tw18056603574769422860:True:=trivial
theorem tw15455882225749675074:True:=trivial
theorem tw13497289399164697883:True:=trivial
theorem tw4251552151767887559:True:=trivial
theorem tw2691578206610885672:True:=trivial
theorem tw8098921139268140096:True:=trivial
theorem tw4050909224310642767:True:=trivial
theorem tw13331429414654780888:True:=trivial
theorem tw5441168681471996344:True:=trivial
theorem tw3316571881120720376:True:=trivial
theorem tw16541539063610810:True:=trivial
theorem tw9964614853741837720:True:=trivial
end PySem.W.Fast
namespace Law
open BZ (A8 og A7 uH gP oN D2 mZ uG D1 take_snoc zx)
open PySem L2
def top(i:Nat):Stmt:=PySem.Challenge.pw_tuningyard_k63_whole_tunes_both_ways.main.body.getD i (.Pass ⟨0,0,0,0⟩)
abbrev fq:Stmt:=top 9
abbrev gI:Stmt:=top 10
abbrev fV:Stmt:=top 11
abbrev fW:Stmt:=top 12
abbrev pj:Stmt:=top 13
abbrev ft:Stmt:=top 16
abbrev fu:Stmt:=top 17
abbrev pk:Stmt:=top 18
abbrev jw:Stmt:=top 22
abbrev pC:Stmt:=top 23
abbrev ll:Stmt:=top 24
abbrev lq:Stmt:=top 25
abbrev uY:Stmt:=top 26
abbrev zL:Stmt:=top 27
abbrev uZ:Stmt:=top 28
abbrev fX:Stmt:=top 34
abbrev fY:Stmt:=top 35
abbrev fZ:Stmt:=top 36
abbrev fv:Stmt:=top 37
abbrev u5:Stmt:=top 38
abbrev lr:Stmt:=top 39
abbrev dF:Stmt:=top 46
abbrev gJ:Stmt:=top 47
abbrev jx:Stmt:=top 48
abbrev f6:Stmt:=top 49
abbrev gK:Stmt:=top 50
abbrev gL:Stmt:=top 51
abbrev jy:Stmt:=top 52
abbrev gM:Stmt:=top 53
abbrev fw:Stmt:=top 55
abbrev f7:Stmt:=top 56
abbrev gN:Stmt:=top 57
abbrev gO:Stmt:=top 58
abbrev d9:Stmt:=top 59
abbrev f9:Stmt:=top 60
abbrev lu:Stmt:=top 61
abbrev gb:Stmt:=top 62
abbrev dn:Stmt:=top 63
abbrev fx:Stmt:=top 64
abbrev cN:Stmt:=top 65
abbrev dG:Stmt:=top 66
abbrev dq:Stmt:=top 67
abbrev dr:Stmt:=top 68
abbrev gc:Stmt:=top 69
abbrev jz:Stmt:=top 70
abbrev kh:Stmt:=top 71
@[elab_as_elim] theorem bc {α : Type} {P : List α -> Prop} (us : List α) (hl : us.length = 1) (h : ∀ a0 : α, P [a0]) : P us :=
 match us,hl with|[a0],_=>h a0
@[elab_as_elim] theorem cM {α : Type} {P : List α -> Prop} (us : List α) (hl : us.length = 2) (h : ∀ a0 a1 : α, P [a0, a1]) : P us :=
 match us,hl with|[a0,a1],_=>h a0 a1
@[elab_as_elim] theorem gd {α : Type} {P : List α -> Prop} (us : List α) (hl : us.length = 3) (h : ∀ a0 a1 a2 : α, P [a0, a1, a2]) : P us :=
 match us,hl with|[a0,a1,a2],_=>h a0 a1 a2
@[elab_as_elim] theorem Il {α : Type} {P : List α -> Prop} (us : List α) (hl : us.length = 4) (h : ∀ a0 a1 a2 a3 : α, P [a0, a1, a2, a3]) : P us :=
 match us,hl with|[a0,a1,a2,a3],_=>h a0 a1 a2 a3
@[elab_as_elim] theorem Im {α : Type} {P : List α -> Prop} (us : List α) (hl : us.length = 5) (h : ∀ a0 a1 a2 a3 a4 : α, P [a0, a1, a2, a3, a4]) : P us :=
 match us,hl with|[a0,a1,a2,a3,a4],_=>h a0 a1 a2 a3 a4
def Kn(K:Frag)(H:Hp)(v:V):Prop:=(∃ i,v=.int i)\/(∃ b,v=.bl b)\/v=.dj\/(∃ s,v=.str s)\/(∃ a xs,v=.ref a/\bj K H a xs)\/(∃ a xs,v=.ref a/\aL K H a xs)
theorem Kn.same{K:Frag}{H H':Hp}{v:V}(h:Kn K H v)(s:ah H H'):Kn K H' v:=by
 rcases h with h|h|h|h|⟨a,xs,h,z⟩|⟨a,xs,h,z⟩
 ·exact .inl h
 ·exact .inr (.inl h)
 ·exact .inr (.inr (.inl h))
 ·exact .inr (.inr (.inr (.inl h)))
 ·exact .inr (.inr (.inr (.inr (.inl ⟨a,xs,h,s.seq z⟩))))
 ·exact .inr (.inr (.inr (.inr (.inr ⟨a,xs,h,s.at z⟩))))
def wh:V->Bool
 | .int _=>true
 | _=>false
def NT(K:Frag)(H:Hp)(v:V):Prop:=(∃ i,v=.int i)\/v=.dj\/(∃ s,v=.str s)\/(∃ a xs,v=.ref a/\bj K H a xs)
def Xi(K:Frag)(H:Hp)(v:V):Prop:=(∃ (a:Addr) (xs:List V),v=.ref a/\aL K H a xs/\xs.length<=1000/\(∀ x∈xs,Kn K H x)/\(decide (xs.length=5) && xs.all wh)=false)\/NT K H v
def fits(x0 x1 x2 x3 x4:Int):Bool:=[decide ((if x0<0 then -x0 else x0)<=700),decide ((if x1<0 then -x1 else x1)<=60),decide ((if x2<0 then -x2 else x2)<=60),decide ((if x3<0 then -x3 else x3)<=60),decide ((if x4<0 then -x4 else x4)<=60)].all id
theorem mem_of{α:Type}{ks:List α}{i:Nat}{k:α}(h:ks[i]?=some k):k∈ks:=by
 obtain ⟨h1,h2⟩:=Zi.mp h
 rw [<- h2]
 exact Z2 h1
theorem JW{n k:Nat}(h:n<2 ^ k):t7 (n:Int)<=k:=by
 rw [og]
 exact A7 (by simpa using h)
theorem Pp{n:Nat}(h0:0<n)(h:n<2 ^ 9000):(n:Int).natAbs.log2<9000:=by
 have e:(n:Int).natAbs=n:=rfl
 rw [e]
 exact (log2_lt (by lia)).mpr h
theorem L3{n m a b:Nat}(hn:n<2 ^ a)(hm:m<2 ^ b)(h:a+b<=1000000):je (n:Int) (m:Int):=by
 have:=JW hn
 have:=JW hm
 unfold je
 lia
theorem L4{n i:Nat}(h:n<=2 ^ (15*i))(hi:i<=60):n<2 ^ 901 :=
 ZN (Zm h (Zl (by decide) (show 15*i<=900 by lia))) (by decide +kernel)
theorem SA{n i:Nat}(h:n<=2 ^ (15*i)*32768)(hi:i<=60):n<2 ^ 9000 :=
 ZN (Zm h (Zp _ (Zl (by decide) (show 15*i<=900 by lia)))) (by decide +kernel)
theorem u6{n:Nat}(h:n<=9999):n<2 ^ 14:=by lia
def cZ(p:Nat×Nat):Prop:=(0<p.1/\p.1<=9999)/\(0<p.2/\p.2<=9999)
theorem zM{t b:Nat}(h:0<b):Nat.gcd t b<=b:=le_of_dvd h (gcd_dvd_right t b)
theorem Io{t b:Nat}(h:0<t):Nat.gcd t b<=t:=le_of_dvd h (gcd_dvd_left t b)
theorem E3{t b:Nat}(ht:0<t/\t<=9999)(hb:0<b/\b<=9999):cZ (t / Nat.gcd t b,b / Nat.gcd t b):=by
 have hg:0<Nat.gcd t b:=Nat.gcd_pos_of_pos_right _ hb.1
 exact⟨⟨div_pos (Io ht.1) hg,Zm (div_le_self _ _) ht.2⟩,div_pos (zM hb.1) hg,Zm (div_le_self _ _) hb.2⟩
theorem Ip{rs:List (Nat×Nat)}{i:Nat}{r:List Int}(h:(rs.map BZ.r2)[i]?=some r):∃ p,rs[i]?=some p/\r=BZ.r2 p:=by
 rw [ZU] at h
 match e:rs[i]?,h with
 | some p,h=>exact⟨p,rfl,(Zr h).symm⟩
def uj(a0 a1 a2 a3 a4 a5 a6:Addr)(c:Nat):Option V:=if c=70 then some (.ref a0) else if c=67 then some (.ref a1) else if c=71 then some (.ref a2) else if c=68 then some (.ref a3) else if c=65 then some (.ref a4) else if c=69 then some (.ref a5) else if c=66 then some (.ref a6) else none
theorem zN{s:String}{d c:Nat}(h:PySem.Str.ofString s=⟨#[d]⟩):(Sum.inr (PySem.Str.ofString s):Key)=Sum.inr ⟨#[c]⟩↔c=d:=by
 rw [h]
 constructor
 ·intro e;exact (aJ.uL.mp (Sum.inr.inj e)).symm
 ·rintro rfl;rfl
theorem c5 {a0 a1 a2 a3 a4 a5 a6:Addr} (c:Nat):jt [(.inr "F",.ref a0),(.inr "C",.ref a1),(.inr "G",.ref a2),(.inr "D",.ref a3),(.inr "A",.ref a4),(.inr "E",.ref a5),(.inr "B",.ref a6)] ((.inr ⟨#[c]⟩):Key)=uj a0 a1 a2 a3 a4 a5 a6 c:=by
 unfold jt uj
 simp only [find?_cons,List.find?_nil,zN (s:="F") (d:=70) (by decide),zN (s:="C") (d:=67) (by decide),zN (s:="G") (d:=71) (by decide),zN (s:="D") (d:=68) (by decide),zN (s:="A") (d:=65) (by decide),zN (s:="E") (d:=69) (by decide),zN (s:="B") (d:=66) (by decide)]
 by_cases h0:c=70
 ·simp [h0]
 by_cases h1:c=67
 ·simp [h0,h1]
 by_cases h2:c=71
 ·simp [h0,h1,h2]
 by_cases h3:c=68
 ·simp [h0,h1,h2,h3]
 by_cases h4:c=65
 ·simp [h0,h1,h2,h3,h4]
 by_cases h5:c=69
 ·simp [h0,h1,h2,h3,h4,h5]
 by_cases h6:c=66
 ·simp [h0,h1,h2,h3,h4,h5,h6]
 ·simp [h0,h1,h2,h3,h4,h5,h6]
theorem E4 {a0 a1 a2 a3 a4 a5 a6:Addr}:jt [(.inr "F",.ref a0),(.inr "C",.ref a1),(.inr "G",.ref a2),(.inr "D",.ref a3),(.inr "A",.ref a4),(.inr "E",.ref a5),(.inr "B",.ref a6)] ((.inr (PySem.Str.ofString "")):Key)=none:=by
 unfold jt
 have k:∀ s:String,PySem.Str.ofString s≠PySem.Str.ofString ""->((Sum.inr (PySem.Str.ofString s):Key)=Sum.inr (PySem.Str.ofString ""))=False:=fun s h=>eq_false fun e=>h (Sum.inr.inj e)
 simp only [find?_cons,List.find?_nil,k "F" (by decide),k "C" (by decide),k "G" (by decide),k "D" (by decide),k "A" (by decide),k "E" (by decide),k "B" (by decide),decide_false]
 rfl
theorem Co{a0 a1 a2 a3 a4 a5 a6:Addr}{c:Nat}(h:aI.qu c=none):uj a0 a1 a2 a3 a4 a5 a6 c=none:=by
 unfold aI.qu at h
 unfold uj
 repeat (split at h;cases h;rw [if_neg (by assumption)])
theorem Pq{x n:Int}(hx:-1000<=x/\x<=1000)(hn:-1000<=n/\n<=1000):je x n:=by
 have h1:t7 x<=10:=by rw [og];exact A7 (by lia)
 have h2:t7 n<=10:=by rw [og];exact A7 (by lia)
 unfold je
 lia
def ee(t0 t1 t2 t3 t4:Int):List Nat :=
 ([70,67,71,68,65,69,66]:List Nat).getD ((t1 - t4 - 2*t3+4*t2+1) % 7).toNat 0::(aI.seg 35 98 ((t1 - t4 - 2*t3+4*t2+1) / 7)++(aI.seg 43 45 (-t2)++(aI.seg 62 60 (-t3)++(aI.seg 94 118 t4++(46::(PySem.Str.ofString (toString (t0+5*t4+6*t3 - 4*t2+11*((t1 - t4 - 2*t3+4*t2+1) / 7) - ([2,0,-1,-3,-4,-6,-7]:List Int).getD ((t1 - t4 - 2*t3+4*t2+1) % 7).toNat 0))).cps.toList)))))
theorem u7{t0 t1 t2 t3 t4:Int}(h:(-700<=t0/\t0<=700)/\(-60<=t1/\t1<=60)/\(-60<=t2/\t2<=60)/\(-60<=t3/\t3<=60)/\(-60<=t4/\t4<=60)):fits t0 t1 t2 t3 t4=true:=by
 unfold fits
 rw [Zv (show (if t0<0 then -t0 else t0)<=700 by split <;> lia),Zv (show (if t1<0 then -t1 else t1)<=60 by split <;> lia),Zv (show (if t2<0 then -t2 else t2)<=60 by split <;> lia),Zv (show (if t3<0 then -t3 else t3)<=60 by split <;> lia),Zv (show (if t4<0 then -t4 else t4)<=60 by split <;> lia)]
 rfl
abbrev Nt:=Option (List Int)×(Int×Int)
def c6(K:Frag)(H:Hp)(v:V):Option (List Int)->Prop
 | none=>v=.dj
 | some r=>∃ a,v=.ref a/\aL K H a (r.map V.int)/\r.length=5
theorem c6.same{K:Frag}{H H':Hp}{v:V}(s:ah H H'):∀ {o:Option (List Int)},c6 K H v o->c6 K H' v o
 | none,h=>h
 | some _,⟨a,h1,h2,h3⟩=>⟨a,h1,s.at h2,h3⟩
def cy(K:Frag)(H:Hp)(v:V)(n:Nt):Prop:=∃ a t l,v=.ref a/\aL K H a [t,.ref l]/\c6 K H t n.1/\aL K H l [.int n.2.1,.int n.2.2]
theorem cy.same{K:Frag}{H H':Hp}{v:V}{n:Nt}(h:cy K H v n)(s:ah H H'):cy K H' v n:=by
 obtain ⟨a,t,l,h1,h2,h3,h4⟩:=h
 exact⟨a,t,l,h1,s.at h2,h3.same s,s.at h4⟩
def Bv(r:List Int):Bool:=fits (r.getD 0 0) (r.getD 1 0) (r.getD 2 0) (r.getD 3 0) (r.getD 4 0)
theorem c6.off{K:Frag}{H:Hp}{v:V}{l:Addr}{ys zs:List V}(e:H l=some (.lst ys)):∀ {o:Option (List Int)},c6 K H v o->c6 K (upd H l (.lst zs)) v o
 | none,h=>h
 | some _,⟨a,h1,h2,h3⟩=>⟨a,h1,iN h2 e,h3⟩
theorem cy.off{K:Frag}{H:Hp}{v:V}{n:Nt}{l:Addr}{ys zs:List V}(h:cy K H v n)(e:H l=some (.lst ys)):cy K (upd H l (.lst zs)) v n:=by
 obtain ⟨a,t,l,h1,h2,h3,h4⟩:=h
 exact⟨a,t,l,h1,iN h2 e,h3.off e,iN h4 e⟩
inductive aT(K:Frag)(H:Hp):List V->List Nt->Prop where
 | nil:aT K H [] []
 | cons {x:V} {n:Nt} {xs:List V} {ns:List Nt} (h:cy K H x n) (t:aT K H xs ns):aT K H (x::xs) (n::ns)
theorem aT.length{K:Frag}{H:Hp}:∀ {xs:List V} {ns:List Nt},aT K H xs ns->ns.length=xs.length
 | _,_,.nil=>rfl
 | _,_,.cons _ t=>by simp [t.length]
theorem aT.get{K:Frag}{H:Hp}:∀ {xs:List V} {ns:List Nt} {i:Nat} {x:V},aT K H xs ns->xs[i]?=some x->∃ n,cy K H x n/\ns[i]?=some n
 | _,_,i,x,.nil,h=>by simp at h
 | _,_,0,x,.cons h t,e=>by
  rw [List.getElem?_cons_zero] at e
  cases e
  exact⟨_,h,rfl⟩
 | _,_,i+1,x,.cons h t,e=>by
  obtain ⟨n,h1,h2⟩:=t.get (i:=i) (x:=x) (by simpa using e)
  exact⟨n,h1,by simpa using h2⟩
theorem aT.same{K:Frag}{H H':Hp}(s:ah H H'):∀ {xs:List V} {ns:List Nt},aT K H xs ns->aT K H' xs ns
 | _,_,.nil=>.nil
 | _,_,.cons h t=>.cons (h.same s) (t.same s)
theorem aT.off{K:Frag}{H:Hp}{l:Addr}{ys zs:List V}(e:H l=some (.lst ys)):∀ {xs:List V} {ns:List Nt},aT K H xs ns->aT K (upd H l (.lst zs)) xs ns
 | _,_,.nil=>.nil
 | _,_,.cons h t=>.cons (h.off e) (t.off e)
theorem aT.snoc{K:Frag}{H:Hp}{x:V}{n:Nt}(h:cy K H x n):∀ {xs:List V} {ns:List Nt},aT K H xs ns->aT K H (xs++[x]) (ns++[n])
 | _,_,.nil=>.cons h .nil
 | _,_,.cons h1 t=>.cons h1 (t.snoc h)
inductive bW(K:Frag)(H:Hp):List V->List (List Nt)->Prop where
 | nil:bW K H [] []
 | cons {a:Addr} {ns:List Nt} {zs xs:List V} {bs:List (List Nt)} (h:H a=some (.lst zs)) (hn:aT K H zs ns) (t:bW K H xs bs):bW K H (.ref a::xs) (ns::bs)
theorem bW.length{K:Frag}{H:Hp}:∀ {xs:List V} {bs:List (List Nt)},bW K H xs bs->bs.length=xs.length
 | _,_,.nil=>rfl
 | _,_,.cons _ _ t=>by simp [t.length]
theorem bW.get{K:Frag}{H:Hp}:∀ {xs:List V} {bs:List (List Nt)} {i:Nat} {x:V},bW K H xs bs->xs[i]?=some x->∃ (a:Addr) (zs:List V) (ns:List Nt),x=.ref a/\H a=some (.lst zs)/\aT K H zs ns/\bs[i]?=some ns
 | _,_,i,x,.nil,h=>by simp at h
 | _,_,0,x,.cons h hn t,e=>by
  rw [List.getElem?_cons_zero] at e
  cases e
  exact⟨_,_,_,rfl,h,hn,rfl⟩
 | _,_,i+1,x,.cons h hn t,e=>by
  obtain ⟨a,zs,ns,h1,h2,h3,h4⟩:=t.get (i:=i) (x:=x) (by simpa using e)
  exact⟨a,zs,ns,h1,h2,h3,by simpa using h4⟩
theorem bW.same{K:Frag}{H H':Hp}(s:ah H H'):∀ {xs:List V} {bs:List (List Nt)},bW K H xs bs->bW K H' xs bs
 | _,_,.nil=>.nil
 | _,_,.cons h hn t=>.cons (s _ _ h) (hn.same s) (t.same s)
theorem bW.off{K:Frag}{H:Hp}{l:Addr}{ys zs:List V}(e:H l=some (.lst ys)):∀ {xs:List V} {bs:List (List Nt)},bW K H xs bs->V.ref l∉xs->bW K (upd H l (.lst zs)) xs bs
 | _,_,.nil,_=>.nil
 | _,_,.cons (a:=a) h hn t,no=>.cons (by rw [aG (fun z=>no (by rw [z];exact .head _))];exact h) (hn.off e) (t.off e fun z=>no (.tail _ z))
theorem bW.snoc{K:Frag}{H:Hp}{a:Addr}{zs:List V}{ns:List Nt}(h:H a=some (.lst zs))(hn:aT K H zs ns):∀ {xs:List V} {bs:List (List Nt)},bW K H xs bs->bW K H (xs++[.ref a]) (bs++[ns])
 | _,_,.nil=>.cons h hn .nil
 | _,_,.cons h1 E5 t=>.cons h1 E5 (t.snoc h hn)
def eh(K:Frag)(H:Hp)(t m l:Addr)(mt:Int×Int)(xs:List V)(bs:List (List Nt)):Prop:=aL K H t [.ref m,.ref l]/\aL K H m [.int mt.1,.int mt.2]/\H l=some (.lst xs)/\bW K H xs bs
theorem eh.same{K:Frag}{H H':Hp}{t m l:Addr}{mt:Int×Int}{xs:List V}{bs:List (List Nt)}(h:eh K H t m l mt xs bs)(s:ah H H'):eh K H' t m l mt xs bs:=⟨s.at h.1,s.at h.2.1,s _ _ h.2.2.1,h.2.2.2.same s⟩
def y9(K:Frag):Nat->Hp->V->V->Prop
 | 0,_,_,_=>False
 | n+1,H,x,y=>(x=.dj/\y=.dj)\/(∃ s:Str,x=.str s/\y=.str s)\/(∃ i:Int,x=.int i/\y=.int i)\/(∃ (a b:Addr) (xs ys:List V),x=.ref a/\y=.ref b/\((aL K H a xs/\aL K H b ys)\/(H a=some (.lst xs)/\H b=some (.lst ys)))/\xs.length=ys.length/\xs.length<=1000/\∀ (i:Nat) (x' y':V),xs[i]?=some x'->ys[i]?=some y'->y9 K n H x' y')
theorem y9.same{K:Frag}{H H':Hp}(s:ah H H'):∀ {n:Nat} {x y:V},y9 K n H x y->y9 K n H' x y
 | n+1,_,_,.inl h=>.inl h
 | n+1,_,_,.inr (.inl h)=>.inr (.inl h)
 | n+1,_,_,.inr (.inr (.inl h))=>.inr (.inr (.inl h))
 | n+1,_,_,.inr (.inr (.inr ⟨a,b,xs,ys,h1,h2,h3,h4,h5,h6⟩))=>.inr (.inr (.inr ⟨a,b,xs,ys,h1,h2,h3.imp (fun z=>⟨s.at z.1,s.at z.2⟩) (fun z=>⟨s _ _ z.1,s _ _ z.2⟩),h4,h5,fun i x' y' e1 e2=>(h6 i x' y' e1 e2).same s⟩))
def Iq(z:Str):Option (List Int)->Prop
 | none=>z=PySem.Str.ofString "R"
 | some r=>∃ t0 t1 t2 t3 t4:Int,r=[t0,t1,t2,t3,t4]/\z.cps.toList=ee t0 t1 t2 t3 t4/\(-100<=t0/\t0<=100)/\(-30<=t1/\t1<=30)/\(-1<=t2/\t2<=1)/\(-1<=t3/\t3<=1)/\(-1<=t4/\t4<=1)
theorem u9{t0 t1 t2 t3 t4:Int}(h:fits t0 t1 t2 t3 t4=true):(-700<=t0/\t0<=700)/\(-60<=t1/\t1<=60)/\(-60<=t2/\t2<=60)/\(-60<=t3/\t3<=60)/\(-60<=t4/\t4<=60):=by
 have ab:∀ (t b:Int),(if t<0 then -t else t)<=b->-b<=t/\t<=b:=fun t b h=>by split at h <;> lia
 unfold fits at h
 simp only [List.all_cons,List.all_nil,id,Bool.and_true,Bool.and_eq_true,decide_eq_true_eq] at h
 exact⟨ab _ _ h.1,ab _ _ h.2.1,ab _ _ h.2.2.1,ab _ _ h.2.2.2.1,ab _ _ h.2.2.2.2⟩
def sx(r:Int)(cf:Nat->Int)(st:List Int):Nat->Int
 | 0=>r
 | i+1=>sx r cf st i+cf i*st.getD i 0
def eK(l:Int×Int):Prop:=∃ t b:Nat,l=((t:Int),(b:Int))/\t<=9999/\b<=9999
def E6(n:Nt):Bool:=match n.1 with|none=>true|some r=>Bv r
def nP:Option (List Int)->Str
 | none=>PySem.Str.ofString "R"
 | some r=>⟨(ee (r.getD 0 0) (r.getD 1 0) (r.getD 2 0) (r.getD 3 0) (r.getD 4 0)).toArray⟩
def Cp(l:Int×Int):Str:=aJ.txt l.1.toNat++aJ.aA++aJ.txt l.2.toNat
def za (n:Nt):Str:=nP n.1++PySem.Str.ofString "="++Cp n.2
theorem va{l:Int×Int}(h:eK l):(Cp l).length<=9:=by
 obtain ⟨t,b,rfl,ht,hb⟩:=h
 have l1:=aJ.cj (n:=t) (m:=4) (by decide) (by lia)
 have l2:=aJ.cj (n:=b) (m:=4) (by decide) (by lia)
 show (aJ.txt t++aJ.aA++aJ.txt b).length<=9
 rw [PySem.strLen_append,PySem.strLen_append]
 show _+1+_<=_
 lia
theorem iM{α β:Type}(f:α->β)(d:α)(l:List α):(List.range l.length).map (fun i=>f (l.getD i d))=l.map f:=by
 apply ext_getElem
 ·simp
 ·intro i h1 h2
  simp at h2
  simp [List.getD,ZC h2]
def zb (ns:List Nt):Str:=Str.join (PySem.Str.ofString " ") (ns.map za)
def QA (mt:Int×Int) (bs:List (List Nt)):Str:=Cp mt++PySem.Str.ofString ": "++Str.join (PySem.Str.ofString " | ") (bs.map zb)
theorem eM{b:Nat}:∀ {l:List Str},(∀ z∈l,z.length<=b)->(l.map (·.length)).sum<=b*l.length
 | [],_=>by simp
 | z::l,h=>by
  have h1:=h z (.head _)
  have h2:=eM (l:=l) (b:=b) fun y hy=>h y (.tail _ hy)
  rw [map_cons,sum_cons,length_cons,mul_add]
  lia
theorem dY(x:Str):∀ l:List Str,(Str.join x l).length<=(l.map (·.length)).sum+x.length*l.length
 | []=>by show 0<=_;exact ZZ _
 | [z]=>by
  show z.length<=_
  rw [map_cons,sum_cons]
  lia
 | z::y::l=>by
  have:=dY x (y::l)
  have e:Str.join x (z::y::l)=z++x++Str.join x (y::l):=rfl
  rw [e,PySem.strLen_append,PySem.strLen_append,map_cons,sum_cons,length_cons,mul_add]
  lia
theorem Cq{t0 t1 t2 t3 t4:Int}(h:(-700<=t0/\t0<=700)/\(-60<=t1/\t1<=60)/\(-60<=t2/\t2<=60)/\(-60<=t3/\t3<=60)/\(-60<=t4/\t4<=60)):(ee t0 t1 t2 t3 t4).length<=300:=by
 unfold ee
 obtain ⟨k0,hk0⟩:∃ a,(t1 - t4 - 2*t3+4*t2+1) / 7=a:=⟨_,rfl⟩
 obtain ⟨g,hg⟩:∃ a,([2,0,-1,-3,-4,-6,-7]:List Int).getD ((t1 - t4 - 2*t3+4*t2+1) % 7).toNat 0=a:=⟨_,rfl⟩
 have YJ:-7<=g/\g<=2:=by
  rw [<- hg]
  have:((t1 - t4 - 2*t3+4*t2+1) % 7).toNat<7:=by lia
  generalize ((t1 - t4 - 2*t3+4*t2+1) % 7).toNat=j at this
  match j,this with
  | 0,_=>decide
  | 1,_=>decide
  | 2,_=>decide
  | 3,_=>decide
  | 4,_=>decide
  | 5,_=>decide
  | 6,_=>decide
 rw [hk0,hg]
 have L5:=aI.oR (o:=t0+5*t4+6*t3 - 4*t2+11*k0 - g) (by lia) (by lia)
 have e:(PySem.Str.ofString (toString (t0+5*t4+6*t3 - 4*t2+11*k0 - g))).cps.toList.length=(PySem.Str.ofString (toString (t0+5*t4+6*t3 - 4*t2+11*k0 - g))).length:=Array.length_toList
 simp only [length_cons,ZJ,aI.j4]
 rw [e]
 lia
theorem Bw{n:Nt}(h1:E6 n=true)(h2:eK n.2):(za n).length<=400:=by
 obtain ⟨o,l⟩:=n
 have h3:=va h2
 have h4:(nP o).length<=300:=by
  cases o with
  | none=>decide
  | some r =>
   show (ee _ _ _ _ _).toArray.size<=300
   rw [ZT]
   exact Cq (u9 h1)
 show (nP o++PySem.Str.ofString "="++Cp l).length<=400
 have e1:(PySem.Str.ofString "=").length=1:=by decide
 rw [PySem.strLen_append,PySem.strLen_append,e1]
 have h3:(Cp l).length<=9:=h3
 lia
theorem Ir{ns:List Nt}(h1:ns.length<=24)(h2:∀ n∈ns,E6 n=true/\eK n.2):(zb ns).length<=10000:=by
 have hs:=eM (b:=400) (l:=ns.map za) (fun z hz=>by
  obtain ⟨n,E5,rfl⟩:=ZM.mp hz
  exact Bw (h2 n E5).1 (h2 n E5).2)
 have hj:=dY (PySem.Str.ofString " ") (ns.map za)
 rw [ZI] at hs hj
 have e1:(PySem.Str.ofString " ").length=1:=by decide
 rw [e1] at hj
 show (Str.join (PySem.Str.ofString " ") (ns.map za)).length<=10000
 lia
def Vr:Option (List Int)->Prop
 | none=>True
 | some r=>∃ t0 t1 t2 t3 t4:Int,r=[t0,t1,t2,t3,t4]/\(-100<=t0/\t0<=100)/\(-30<=t1/\t1<=30)/\(-1<=t2/\t2<=1)/\(-1<=t3/\t3<=1)/\(-1<=t4/\t4<=1)
theorem Iu{K:Frag}{H:Hp}{n:Nat}(i:Int):y9 K (n+1) H (.int i) (.int i):=.inr (.inr (.inl ⟨i,rfl,rfl⟩))
theorem Iv{K:Frag}{H:Hp}{n:Nat}(z:Str):y9 K (n+1) H (.str z) (.str z):=.inr (.inl ⟨z,rfl,rfl⟩)
theorem vb{K:Frag}{H:Hp}{n:Nat}{a b:Addr}{r:List Int}(h1:aL K H a (r.map V.int))(h2:aL K H b (r.map V.int))(h:r.length<=1000):y9 K (n+2) H (.ref a) (.ref b) :=
 .inr (.inr (.inr ⟨a,b,_,_,rfl,rfl,.inl ⟨h1,h2⟩,rfl,by rw [ZI];exact h,fun i x y e1 e2=>by
  rw [e1] at e2
  cases e2
  obtain ⟨rfl,_⟩:=dM e1
  exact Iu _⟩))
theorem Bx{K:Frag}{H:Hp}{n:Nat}{a b:Addr}{x y x' y':V}(h1:aL K H a [x,y])(h2:aL K H b [x',y'])(h3:y9 K n H x x')(h4:y9 K n H y y'):y9 K (n+1) H (.ref a) (.ref b) :=
 .inr (.inr (.inr ⟨a,b,_,_,rfl,rfl,.inl ⟨h1,h2⟩,rfl,by show 2<=1000;decide,fun i u v e1 e2=>by
  match i,e1,e2 with
  | 0,e1,e2=>cases e1;cases e2;exact h3
  | 1,e1,e2=>cases e1;cases e2;exact h4
  | i+2,e1,_=>simp at e1⟩))
theorem E7{K:Frag}{H:Hp}{n:Nat}{v w:V}:∀ {o:Option (List Int)},c6 K H v o->c6 K H w o->y9 K (n+2) H v w
 | none,h1,h2=>.inl ⟨h1,h2⟩
 | some _,⟨a,h1,h2,h3⟩,⟨b,h4,h5,_⟩=>by
  rw [h1,h4]
  exact vb h2 h5 (by lia)
theorem E8{K:Frag}{H:Hp}{n:Nat}{v w:V}{q:Nt}(h1:cy K H v q)(h2:cy K H w q):y9 K (n+3) H v w:=by
 obtain ⟨a,t,l,rfl,g1,g2,g3⟩:=h1
 obtain ⟨a',t',l',rfl,g4,g5,g6⟩:=h2
 exact Bx g1 g4 (E7 g2 g5) (vb (r:=[q.2.1,q.2.2]) g3 g6 (by show 2<=1000;decide))
theorem Iw{K:Frag}{H:Hp}{n:Nat}{a b:Addr}{xs ys:List V}{ns:List Nt}(h1:H a=some (.lst xs))(h2:H b=some (.lst ys))(g1:aT K H xs ns)(g2:aT K H ys ns)(h:ns.length<=100):y9 K (n+4) H (.ref a) (.ref b):=by
 have l1:=g1.length
 have l2:=g2.length
 refine .inr (.inr (.inr ⟨a,b,_,_,rfl,rfl,.inr ⟨h1,h2⟩,by lia,by lia,fun i x y e1 e2=>?_⟩))
 obtain ⟨q,q1,q2⟩:=g1.get e1
 obtain ⟨q',q3,q4⟩:=g2.get e2
 rw [q2] at q4
 cases q4
 exact E8 q1 q3
theorem ki{K:Frag}{H:Hp}{n:Nat}{t m l t' m' l':Addr}{mt:Int×Int}{xs ys:List V}{bs:List (List Nt)}(h1:eh K H t m l mt xs bs)(h2:eh K H t' m' l' mt ys bs)(h:bs.length<=100)(hn:∀ ns∈bs,ns.length<=100):y9 K (n+6) H (.ref t) (.ref t'):=by
 have l1:=h1.2.2.2.length
 have l2:=h2.2.2.2.length
 refine Bx h1.1 h2.1 (vb (r:=[mt.1,mt.2]) h1.2.1 h2.2.1 (by show 2<=1000;decide)) (.inr (.inr (.inr ⟨l,l',_,_,rfl,rfl,.inr ⟨h1.2.2.1,h2.2.2.1⟩,by lia,by lia,fun i x y e1 e2=>?_⟩)))
 obtain ⟨a,zs,ns,rfl,q1,q2,q3⟩:=h1.2.2.2.get e1
 obtain ⟨a',OV,Vs,rfl,q4,q5,q6⟩:=h2.2.2.2.get e2
 rw [q3] at q6
 cases q6
 exact Iw q1 q4 q2 q5 (hn _ (ZH q3))
theorem Vr.ok{n:Nt}(h:Vr n.1):E6 n=true:=by
 obtain ⟨o,l⟩:=n
 cases o with
 | none=>rfl
 | some r =>
  obtain ⟨t0,t1,t2,t3,t4,rfl,b0,b1,b2,b3,b4⟩:=h
  show fits t0 t1 t2 t3 t4=true
  exact u7 ⟨by lia,by lia,by lia,by lia,by lia⟩
theorem bW.head{K:Frag}{H:Hp}:∀ {xs:List V} {bs:List (List Nt)},bW K H xs bs->1<=bs.length->∃ (a:Addr) (zs SD:List V),xs=.ref a::SD/\H a=some (.lst zs)
 | _,_,.nil,h=>by simp at h
 | _,_,.cons h _ _,_=>⟨_,_,_,rfl,h⟩
abbrev Wd:=Option (List Int)×(Nat×Nat)
def bq(p:Nat×Nat):Nat×Nat:=(p.1 / Nat.gcd p.1 p.2,p.2 / Nat.gcd p.1 p.2)
def eG(p:Nat×Nat):Int×Int:=(((bq p).1:Int),((bq p).2:Int))
def wN(w:Wd):Nt:=(w.1,eG w.2)
def vc(w:Wd):Wd:=(w.1,bq w.2)
def x5(p:Nat×Nat):Str:=aJ.txt p.1++aJ.aA++aJ.txt p.2
def uk (w:Wd):Str:=nP w.1++PySem.Str.ofString "="++x5 w.2
def ei (ws:List Wd):Str:=Str.join (PySem.Str.ofString " ") (ws.map uk)
def nQ (m:Nat×Nat) (aO:List (List Wd)):Str:=x5 m++PySem.Str.ofString ": "++Str.join (PySem.Str.ofString " | ") (aO.map ei)
def MU(o:Option (List Int)):Prop:=∀ r,o=some r->r.length=5/\Bv r=true
def qp(w:Wd):Prop:=MU w.1/\cZ w.2
def jA(ws:List Wd)(m:Nat×Nat):Prop:=A8 (ws.map fun w=>bq w.2) (bq m).1 (bq m).2
def ek(m:Nat×Nat)(aO:List (List Wd)):Prop:=(1<=aO.length/\aO.length<=40)/\cZ m/\∀ ws∈aO,(1<=ws.length/\ws.length<=24)/\(∀ w∈ws,qp w)/\jA ws m
theorem ck{p:Nat×Nat}(h:cZ p):cZ (bq p):=E3 h.1 h.2
theorem x6{p:Nat×Nat}(h:cZ p):Nat.gcd (bq p).1 (bq p).2=1:=Nat.gcd_div_gcd_div_gcd_of_pos_right h.2.1
theorem kj{p:Nat×Nat}(h:cZ p):bq (bq p)=bq p:=by
 have e:=x6 h
 show ((bq p).1 / Nat.gcd (bq p).1 (bq p).2,(bq p).2 / Nat.gcd (bq p).1 (bq p).2)=bq p
 rw [e,Nat.div_one,Nat.div_one]
theorem L6{w:Wd}(h:qp w):wN (vc w)=wN w:=by
 show (w.1,eG (bq w.2))=(w.1,eG w.2)
 unfold eG
 rw [kj h.2]
theorem E9{aO:List (List Wd)}(h:∀ ws∈aO,∀ w∈ws,qp w):((aO.map fun ws=>ws.map vc).map fun ws=>ws.map wN)=aO.map fun ws=>ws.map wN:=by
 rw [ZW]
 refine ZX fun ws hw=>?_
 show (ws.map vc).map wN=ws.map wN
 rw [ZW]
 exact ZX fun w hv=>L6 (h ws hw w hv)
theorem Fb{m:Nat×Nat}{aO:List (List Wd)}(h:ek m aO):ek (bq m) (aO.map fun ws=>ws.map vc):=by
 refine⟨by rw [ZI];exact h.1,ck h.2.1,fun ws hw=>?_⟩
 obtain ⟨q,hq,rfl⟩:=ZM.mp hw
 obtain ⟨h1,h2,h3⟩:=h.2.2 q hq
 refine⟨by rw [ZI];exact h1,fun w hv=>?_,?_⟩
 ·obtain ⟨x,hx,rfl⟩:=ZM.mp hv
  exact⟨(h2 x hx).1,ck (h2 x hx).2⟩
 ·unfold jA at h3 ⊢
  rw [kj h.2.1,ZW]
  rw [show q.map ((fun w:Wd=>bq w.2) ∘ vc)=q.map fun w=>bq w.2 from ZX fun w hv=>kj (h2 w hv).2]
  exact h3
theorem By{bb:Nat}(hb:0<bb):∀ {ws:List Wd},(∀ w∈ws,qp w/\w.2.2=bb)->mZ (ws.map fun w=>bq w.2)*(ws.map fun w=>w.2.1).sum=bb*zx (ws.map fun w=>bq w.2)
 | [],_=>by simp [zx]
 | w::ws,h=>by
  have ih:=By hb (ws:=ws) fun x hx=>h x (.tail _ hx)
  obtain ⟨⟨_,hg⟩,e⟩:=h w (.head _)
  obtain ⟨o,t,b⟩:=w
  obtain rfl:b=bb:=e
  have g1:t=t / Nat.gcd t b*Nat.gcd t b:=(Nat.div_mul_cancel (gcd_dvd_left t b)).symm
  have g2:b=b / Nat.gcd t b*Nat.gcd t b:=(Nat.div_mul_cancel (gcd_dvd_right t b)).symm
  have key:b / Nat.gcd t b*t=b*(t / Nat.gcd t b):=by
   generalize hx:t / Nat.gcd t b=x at g1 ⊢
   generalize hy:b / Nat.gcd t b=y at g2 ⊢
   generalize Nat.gcd t b=g at g1 g2
   rw [g1,g2]
   ac_rfl
  simp only [map_cons,sum_cons,mZ,zx,bq]
  simp only [bq] at ih
  generalize (ws.map fun w:Wd=>w.2.1).sum=S at ih ⊢
  generalize mZ (ws.map fun w:Wd=>(w.2.1 / Nat.gcd w.2.1 w.2.2,w.2.2 / Nat.gcd w.2.1 w.2.2))=P at ih ⊢
  generalize zx (ws.map fun w:Wd=>(w.2.1 / Nat.gcd w.2.1 w.2.2,w.2.2 / Nat.gcd w.2.1 w.2.2))=T at ih ⊢
  generalize hx:t / Nat.gcd t b=x at key ⊢
  generalize hy:b / Nat.gcd t b=y at key ⊢
  rw [mul_add,mul_add,show y*P*t=(y*t)*P by ac_rfl,key,show y*P*S=y*(P*S) by ac_rfl,ih]
  ac_rfl
theorem jA.of{bb M:Nat}{ws:List Wd}(hg:cZ (M,bb))(h:∀ w∈ws,qp w/\w.2.2=bb)(hs:(ws.map fun w=>w.2.1).sum=M):jA ws (M,bb):=by
 have hb:0<bb:=hg.2.1
 have e:=By hb h
 rw [hs] at e
 have hG:0<Nat.gcd M bb:=Nat.gcd_pos_of_pos_right _ hb
 obtain ⟨a',ea⟩:=gcd_dvd_left M bb
 obtain ⟨b',eb⟩:=gcd_dvd_right M bb
 refine⟨(ck hg).2.1,x6 hg,?_⟩
 have q1:M / Nat.gcd M bb=a':=Nat.div_eq_of_eq_mul_right hG ea
 have q2:bb / Nat.gcd M bb=b':=Nat.div_eq_of_eq_mul_right hG eb
 show M / Nat.gcd M bb*_=bb / Nat.gcd M bb*_
 rw [q1,q2]
 apply Nat.eq_of_mul_eq_mul_left hG
 rw [<- mul_assoc (Nat.gcd M bb) a',<- mul_assoc (Nat.gcd M bb) b',<- ea,<- eb,Nat.mul_comm M]
 exact e
abbrev plain(c:Nat):Prop:=c≠32/\c≠124/\c≠58/\c≠61
theorem iQ{n:Nat}(h:0<n/\n<=9999):∀ c∈(aJ.txt n).cps.toList,plain c/\c≠47:=fun c hc=>by
 have h1:=(aJ.j0 (n:=n) (m:=4) h.1 (by decide) (by lia)).1
 unfold aJ.cnt at h1
 rw [Bool.and_eq_true] at h1
 have h2:=all_eq_true.mp h1.2 c hc
 unfold aJ.Ba at h2
 rw [Bool.and_eq_true,decide_eq_true_eq,decide_eq_true_eq] at h2
 exact⟨⟨by lia,by lia,by lia,by lia⟩,by lia⟩
theorem Cr{o:Int}(h1:-9999<=o)(h2:o<=9999):∀ c∈(PySem.Str.ofString (toString o)).cps.toList,plain c:=fun c hc=>by
 rcases Int.lt_trichotomy o 0 with h|h|h
 ·obtain ⟨n,rfl⟩:∃ n:Nat,o=-((n+1:Nat):Int):=⟨(-o).toNat - 1,by lia⟩
  rw [aI.xM] at hc
  rcases ZL.mp hc with rfl|hc
  ·exact⟨by decide,by decide,by decide,by decide⟩
  ·exact (iQ (n:=n+1) ⟨by lia,by lia⟩ c hc).1
 ·subst h
  have e:(PySem.Str.ofString (toString (0:Int))).cps.toList=[48]:=by decide
  rw [e] at hc
  obtain rfl:c=48:=by simpa using hc
  exact⟨by decide,by decide,by decide,by decide⟩
 ·obtain ⟨n,rfl⟩:∃ n:Nat,o=(n:Int):=⟨o.toNat,by lia⟩
  exact (iQ (n:=n) ⟨by lia,by lia⟩ c hc).1
theorem iR{c d:Nat}{k:Int}(hc:plain c)(hd:plain d):∀ x∈aI.seg c d k,plain x:=fun x hx=>by
 unfold aI.seg at hx
 rcases ZG.mp hx with z|z
 ·rw [(mem_replicate.mp z).2];exact hc
 ·rw [(mem_replicate.mp z).2];exact hd
theorem Iy:∀ j:Nat,j<7->∃ (L:Nat) (r0:Int),([70,67,71,68,65,69,66]:List Nat).getD j 0=L/\([2,0,-1,-3,-4,-6,-7]:List Int).getD j 0=r0/\aI.qu L=some [r0,(j:Int) - 1,0,0,0]/\(-7<=r0/\r0<=2)/\plain L
 | 0,_=>⟨_,_,rfl,rfl,by decide,by decide,by decide,by decide,by decide,by decide⟩
 | 1,_=>⟨_,_,rfl,rfl,by decide,by decide,by decide,by decide,by decide,by decide⟩
 | 2,_=>⟨_,_,rfl,rfl,by decide,by decide,by decide,by decide,by decide,by decide⟩
 | 3,_=>⟨_,_,rfl,rfl,by decide,by decide,by decide,by decide,by decide,by decide⟩
 | 4,_=>⟨_,_,rfl,rfl,by decide,by decide,by decide,by decide,by decide,by decide⟩
 | 5,_=>⟨_,_,rfl,rfl,by decide,by decide,by decide,by decide,by decide,by decide⟩
 | 6,_=>⟨_,_,rfl,rfl,by decide,by decide,by decide,by decide,by decide,by decide⟩
 | n+7,h=>absurd h (by lia)
theorem IA{T:Str}{t0 t1 t2 t3 t4:Int}(hT:T.cps.toList=ee t0 t1 t2 t3 t4)(hb:(-700<=t0/\t0<=700)/\(-60<=t1/\t1<=60)/\(-60<=t2/\t2<=60)/\(-60<=t3/\t3<=60)/\(-60<=t4/\t4<=60)):aI.y6 T=some [t0,t1,t2,t3,t4]/\T.length<=300/\(∀ c∈T.cps.toList,plain c)/\2<=T.length:=by
 unfold ee at hT
 obtain ⟨l1,yY⟩:∃ l1,t1 - t4 - 2*t3+4*t2=l1:=⟨_,rfl⟩
 rw [yY] at hT
 obtain ⟨j,hj⟩:∃ j:Nat,(l1+1) % 7=(j:Int):=⟨((l1+1) % 7).toNat,by lia⟩
 have JX:j<7:=by lia
 obtain ⟨L,r0,e1,e2,hl,hr,hp⟩:=Iy j JX
 obtain ⟨k0,hk0⟩:∃ k0,(l1+1) / 7=k0:=⟨_,rfl⟩
 rw [show ((l1+1) % 7).toNat=j by lia,e1,e2,hk0] at hT
 obtain ⟨o,ho⟩:∃ o,t0+5*t4+6*t3 - 4*t2+11*k0 - r0=o:=⟨_,rfl⟩
 rw [ho] at hT
 have hm:=aI.made hT hl (by lia) (by lia) (by lia)
 refine⟨hm.1.trans ?_,hm.2,fun c hc=>?_,?_⟩
 ·congr 1
  simp only [List.cons.injEq,and_true]
  lia
 ·rw [hT] at hc
  rcases ZL.mp hc with rfl|hc
  ·exact hp
  rcases ZG.mp hc with hc|hc
  ·exact iR (by decide) (by decide) c hc
  rcases ZG.mp hc with hc|hc
  ·exact iR (by decide) (by decide) c hc
  rcases ZG.mp hc with hc|hc
  ·exact iR (by decide) (by decide) c hc
  rcases ZG.mp hc with hc|hc
  ·exact iR (by decide) (by decide) c hc
  rcases ZL.mp hc with rfl|hc
  ·exact⟨by decide,by decide,by decide,by decide⟩
  ·exact Cr (by lia) (by lia) c hc
 ·have e:T.length=T.cps.toList.length:=by simp [Str.length]
  rw [e,hT]
  simp only [length_cons,ZJ]
  lia
theorem kl{r:List Int}(h:r.length=5/\Bv r=true):aI.y6 (nP (some r))=some r/\(nP (some r)).length<=300/\(∀ c∈(nP (some r)).cps.toList,plain c)/\2<=(nP (some r)).length:=by
 obtain ⟨t0,t1,t2,t3,t4,rfl⟩:=uH h.1
 exact IA (T:=nP (some [t0,t1,t2,t3,t4])) (toList_toArray ..) (u9 h.2)
theorem ly{o:Option (List Int)}(h:MU o):(∀ c∈(nP o).cps.toList,plain c)/\(nP o).length<=300:=by
 cases o with
 | none =>
  have e:(nP none).cps.toList=[82]:=by decide
  refine⟨fun c hc=>?_,by decide⟩
  rw [e] at hc
  obtain rfl:c=82:=by simpa using hc
  exact⟨by decide,by decide,by decide,by decide⟩
 | some r=>exact⟨(kl (h r rfl)).2.2.1,(kl (h r rfl)).2.1⟩
theorem om(a b:Str):(a++b).cps.toList=a.cps.toList++b.cps.toList:=by
 show (a.cps++b.cps).toList=_
 simp
theorem cA{p:Nat×Nat}(h:cZ p):(∀ c∈(x5 p).cps.toList,plain c)/\(x5 p).length<=9:=by
 have l1:=aJ.cj (n:=p.1) (m:=4) (by decide) (by have:=h.1;lia)
 have l2:=aJ.cj (n:=p.2) (m:=4) (by decide) (by have:=h.2;lia)
 refine⟨fun c hc=>?_,?_⟩
 ·unfold x5 at hc
  rw [om,om] at hc
  rcases ZG.mp hc with hc|hc
  ·rcases ZG.mp hc with hc|hc
   ·exact (iQ h.1 c hc).1
   ·have e:(aJ.aA).cps.toList=[47]:=rfl
    rw [e] at hc
    obtain rfl:c=47:=by simpa using hc
    exact⟨by decide,by decide,by decide,by decide⟩
  ·exact (iQ h.2 c hc).1
 ·unfold x5
  rw [PySem.strLen_append,PySem.strLen_append]
  show _+1+_<=_
  lia
theorem L7:(PySem.Str.ofString "=").cps.toList=[61]:=by decide
theorem L8:(PySem.Str.ofString " ").cps.toList=[32]:=by decide
theorem fM{w:Wd}(h:qp w):(∀ c∈(uk w).cps.toList,c≠32/\c≠124)/\(uk w).length<=310:=by
 have h1:=ly h.1
 have h2:=cA h.2
 refine⟨fun c hc=>?_,?_⟩
 ·unfold uk at hc
  rw [om,om,L7] at hc
  rcases ZG.mp hc with hc|hc
  ·rcases ZG.mp hc with hc|hc
   ·exact⟨(h1.1 c hc).1,(h1.1 c hc).2.1⟩
   ·obtain rfl:c=61:=by simpa using hc
    decide
  ·exact⟨(h2.1 c hc).1,(h2.1 c hc).2.1⟩
 ·unfold uk
  have e1:(PySem.Str.ofString "=").length=1:=by decide
  rw [PySem.strLen_append,PySem.strLen_append,e1]
  lia
theorem Fc {w:Wd} (h:qp w):Txt.partition (uk w) (PySem.Str.ofString "=")=(nP w.1,PySem.Str.ofString "=",x5 w.2) :=
 aI.j6 (c:=61) (i:=0) (u:=[]) (by decide) (by decide) rfl (fun z=>nomatch z) (fun z=>((ly h.1).1 61 z).2.2.2 rfl)
theorem gf{ws:List Wd}(h:∀ w∈ws,qp w)(hl:ws.length<=24):(124∉(ei ws).cps.toList)/\(ei ws).length<=7500:=by
 have hs:=eM (b:=310) (l:=ws.map uk) (fun z hz=>by
  obtain ⟨w,hw,rfl⟩:=ZM.mp hz
  exact (fM (h w hw)).2)
 have hj:=dY (PySem.Str.ofString " ") (ws.map uk)
 rw [ZI] at hs hj
 have e1:(PySem.Str.ofString " ").length=1:=by decide
 rw [e1] at hj
 refine⟨?_,by show (Str.join (PySem.Str.ofString " ") (ws.map uk)).length<=7500;lia⟩
 unfold ei
 rw [aI.kX,L8]
 clear hs hj hl
 have key:∀ l:List (List Nat),(∀ x∈l,124∉x)->124∉aI.JL [32] l:=fun l=>by
  induction l with
  | nil=>exact fun _ z=>nomatch z
  | cons x l ih =>
   intro hx
   cases l with
   | nil=>exact hx x (.head _)
   | cons y l =>
    intro z
    have z:124∈x++([32]++aI.JL [32] (y::l)):=z
    rcases ZG.mp z with z|z
    ·exact hx x (.head _) z
    ·rcases ZG.mp z with z|z
     ·exact absurd z (by decide)
     ·exact ih (fun v hv=>hx v (.tail _ hv)) z
 refine key _ fun x hx=>?_
 rw [ZW] at hx
 obtain ⟨w,hw,rfl⟩:=ZM.mp hx
 exact fun z=>((fM (h w hw)).1 124 z).2 rfl
theorem zO {ws:List Wd} (h:∀ w∈ws,qp w) (hl:1<=ws.length):Txt.split (ei ws) (PySem.Str.ofString " ")=ws.map uk :=
 aI.nj (c:=32) (i:=0) (u:=[]) (by decide) (by decide) rfl (fun z=>nomatch z) (by decide +kernel) (fun z=>by rw [List.map_eq_nil_iff] at z;rw [z] at hl;cases hl) (fun x hx=>by
  obtain ⟨w,hw,rfl⟩:=ZM.mp hx
  exact fun z=>((fM (h w hw)).1 32 z).1 rfl)
theorem Cs {m:Nat×Nat} (h:cZ m) (aO:List (List Wd)):Txt.partition (nQ m aO) (PySem.Str.ofString ": ")=(x5 m,PySem.Str.ofString ": ",Str.join (PySem.Str.ofString " | ") (aO.map ei)) :=
 aI.j6 (c:=58) (i:=0) (u:=[]) (by decide) (by decide) rfl (fun z=>nomatch z) (fun z=>((cA h).1 58 z).2.2.1 rfl)
theorem zP {m:Nat×Nat} {aO:List (List Wd)} (h:ek m aO):Txt.split (Str.join (PySem.Str.ofString " | ") (aO.map ei)) (PySem.Str.ofString " | ")=aO.map ei :=
 aI.nj (c:=124) (i:=1) (u:=[32]) (by decide) (by decide) rfl (by decide) (by decide +kernel) (fun z=>by rw [List.map_eq_nil_iff] at z;have:=h.1.1;rw [z] at this;cases this) (fun x hx=>by
  obtain ⟨ws,hw,rfl⟩:=ZM.mp hx
  exact (gf (h.2.2 ws hw).2.1 (h.2.2 ws hw).1.2).1)
theorem x8 {m:Nat×Nat} {aO:List (List Wd)} (h:ek m aO):(Str.join (PySem.Str.ofString " | ") (aO.map ei)).length<=400000/\(nQ m aO).length<=500000:=by
 have hs:=eM (b:=7500) (l:=aO.map ei) (fun z hz=>by
  obtain ⟨ws,hw,rfl⟩:=ZM.mp hz
  exact (gf (h.2.2 ws hw).2.1 (h.2.2 ws hw).1.2).2)
 have hj:=dY (PySem.Str.ofString " | ") (aO.map ei)
 rw [ZI] at hs hj
 have e1:(PySem.Str.ofString " | ").length=3:=by decide
 rw [e1] at hj
 have SE:=h.1.2
 have hp:=(cA h.2.1).2
 refine⟨by lia,?_⟩
 unfold nQ
 have e2:(PySem.Str.ofString ": ").length=2:=by decide
 rw [PySem.strLen_append,PySem.strLen_append,e2]
 lia
theorem km{p:Nat×Nat}(h:cZ p):aJ.yZ (x5 p) 4=some (p.1,p.2):=aJ.Ea (by decide) ⟨h.1.1,by have:=h.1.2;lia⟩ ⟨h.2.1,by have:=h.2.2;lia⟩
theorem vd {r:List Int} (h:r.length=5/\Bv r=true):nP (some r)≠PySem.Str.ofString "R":=fun e=>by
 have:=(kl h).2.2.2
 rw [e] at this
 exact absurd this (by decide)
def bh(K:Frag)(H:Hp)(v:V)(w:Wd):Prop:=∃ a,v=.ref a/\aL K H a [.str (nP w.1),.int (w.2.1:Int),.int (w.2.2:Int)]
theorem bh.same{K:Frag}{H H':Hp}(s:ah H H')(v:V)(w:Wd):bh K H v w->bh K H' v w:=fun ⟨a,h1,h2⟩=>⟨a,h1,s.at h2⟩
theorem bh.off{K:Frag}{H:Hp}{l:Addr}{ys zs:List V}(e:H l=some (.lst ys))(v:V)(w:Wd):bh K H v w->bh K (upd H l (.lst zs)) v w:=fun ⟨a,h1,h2⟩=>⟨a,h1,iN h2 e⟩
theorem bh.Gd{K:Frag}{H H':Hp}{o:Addr}{ys:List V}(s:kg o H H')(e:H o=some (.lst ys))(v:V)(w:Wd):bh K H v w->bh K H' v w:=fun ⟨a,h1,h2⟩=>⟨a,h1,s.Po e h2⟩
theorem c6.Gd{K:Frag}{H H':Hp}{o:Addr}{ys:List V}{v:V}(s:kg o H H')(e:H o=some (.lst ys)):∀ {t:Option (List Int)},c6 K H v t->c6 K H' v t
 | none,h=>h
 | some _,⟨a,h1,h2,h3⟩=>⟨a,h1,s.Po e h2,h3⟩
theorem aT.Gd{K:Frag}{H H':Hp}{o:Addr}{ys:List V}(s:kg o H H')(e:H o=some (.lst ys)):∀ {xs:List V} {ns:List Nt},aT K H xs ns->aT K H' xs ns
 | _,_,.nil=>.nil
 | _,_,.cons ⟨a,t,l,h1,h2,h3,h4⟩ tl=>.cons ⟨a,t,l,h1,s.Po e h2,h3.Gd s e,s.Po e h4⟩ (tl.Gd s e)
def eN(K:Frag)(H:Hp)(p lw ln:Addr)(ws:List Wd):Prop:=aL K H p [.ref lw,.ref ln]/\∃ (xs ys:List V),H lw=some (.lst xs)/\Fa (bh K H) xs ws/\H ln=some (.lst ys)/\aT K H ys (ws.map wN)
theorem eN.same{K:Frag}{H H':Hp}{p lw ln:Addr}{ws:List Wd}(s:ah H H'):eN K H p lw ln ws->eN K H' p lw ln ws:=fun ⟨h2,xs,ys,h3,h4,h5,h6⟩=>⟨s.at h2,xs,ys,s _ _ h3,h4.imp (bh.same s),s _ _ h5,h6.same s⟩
theorem eN.off{K:Frag}{H:Hp}{p lw ln l:Addr}{ws:List Wd}{vs zs:List V}(e:H l=some (.lst vs))(n1:lw≠l)(n2:ln≠l):eN K H p lw ln ws->eN K (upd H l (.lst zs)) p lw ln ws:=fun ⟨h2,xs,ys,h3,h4,h5,h6⟩=>⟨iN h2 e,xs,ys,by rw [aG n1];exact h3,h4.imp (bh.off e),by rw [aG n2];exact h5,h6.off e⟩
theorem eN.Gd{K:Frag}{H H':Hp}{p lw ln o:Addr}{ws:List Wd}{vs:List V}(s:kg o H H')(e:H o=some (.lst vs))(n1:lw≠o)(n2:ln≠o):eN K H p lw ln ws->eN K H' p lw ln ws:=fun ⟨h2,xs,ys,h3,h4,h5,h6⟩=>⟨s.Po e h2,xs,ys,s _ _ n1 h3,h4.imp (bh.Gd s e),s _ _ n2 h5,h6.Gd s e⟩
def dD(K:Frag)(H:Hp)(as:List Addr)(v:V)(ws:List Wd):Prop:=∃ (p lw ln:Addr),v=.ref p/\eN K H p lw ln ws/\∀ a∈as,lw≠a/\ln≠a
theorem dD.same{K:Frag}{H H':Hp}{as:List Addr}(s:ah H H')(v:V)(ws:List Wd):dD K H as v ws->dD K H' as v ws:=fun ⟨p,lw,ln,h1,h2,h3⟩=>⟨p,lw,ln,h1,h2.same s,h3⟩
theorem dD.off{K:Frag}{H:Hp}{as:List Addr}{l:Addr}{ys zs:List V}(e:H l=some (.lst ys))(hl:l∈as)(v:V)(ws:List Wd):dD K H as v ws->dD K (upd H l (.lst zs)) as v ws:=fun ⟨p,lw,ln,h1,h2,h3⟩=>⟨p,lw,ln,h1,h2.off e (h3 l hl).1 (h3 l hl).2,h3⟩
theorem dD.Gd{K:Frag}{H H':Hp}{as:List Addr}{o:Addr}{ys:List V}(s:kg o H H')(e:H o=some (.lst ys))(hl:o∈as)(v:V)(ws:List Wd):dD K H as v ws->dD K H' as v ws:=fun ⟨p,lw,ln,h1,h2,h3⟩=>⟨p,lw,ln,h1,h2.Gd s e (h3 o hl).1 (h3 o hl).2,h3⟩
def gh(K:Frag)(H:Hp)(v:V)(ws:List Wd):Prop:=∃ (a:Addr) (zs:List V),v=.ref a/\H a=some (.lst zs)/\Fa (bh K H) zs ws
theorem gh.same{K:Frag}{H H':Hp}(s:ah H H')(v:V)(ws:List Wd):gh K H v ws->gh K H' v ws:=fun ⟨a,zs,h1,h2,h3⟩=>⟨a,zs,h1,s _ _ h2,h3.imp (bh.same s)⟩
def lw(lo:Bool)(w:Wd):Wd:=(w.1,if lo then bq w.2 else w.2)
theorem JY{lo:Bool}{w:Wd}(h:qp w):qp (lw lo w):=by
 cases lo with
 | true=>exact⟨h.1,ck h.2⟩
 | false=>exact h
theorem Pr(aO:List (List Wd)):(aO.map fun ws=>ws.map (lw false))=aO:=by
 have e:lw false=id:=rfl
 rw [e]
 simp
theorem Pt{lo:Bool}{mt:Nat×Nat}{aO:List (List Wd)}(h:ek mt aO):ek (if lo then bq mt else mt) (aO.map fun ws=>ws.map (lw lo)):=by
 cases lo with
 | true=>exact Fb h
 | false=>rw [Pr];exact h
def Ct(M bb n:Nat)(ws:List Wd):Prop:=ws.length=n/\(∀ w∈ws,qp w/\w.2.2=bb)/\(ws.map fun w=>w.2.1).sum=M
theorem Bz{K:Frag}{H:Hp}{σ:St}{a:Addr}{x y z u:V}{m n o q:Nat}{R:St->Hp->Prop}(h:aL K H a [x,y,z,u])(k:R ((((σ.set m (some x)).set n (some y)).set o (some z)).set q (some u)) H):ox K 4 (cw (br m) (cw (br n) (cw (br o) (cw (br q) qq)))) (.ref a) σ H R:=⟨a,_,rfl,h,rfl,_,_,rfl,_,_,rfl,_,_,rfl,_,_,rfl,rfl,k⟩
theorem oq:∀ {cs:List Int},(∀ c∈cs,0<=c)->∀ j,(cs.take j).sum<=cs.sum
 | [],_,j=>by simp
 | c::cs,h,0=>by
  have:=oq (cs:=cs) (fun x hx=>h x (.tail _ hx)) 0
  have h0:=h c (.head _)
  simp at this ⊢
  lia
 | c::cs,h,j+1=>by
  have:=oq (cs:=cs) (fun x hx=>h x (.tail _ hx)) j
  simp
  exact this
theorem Fd{cs:List Int}(h:∀ c∈cs,0<=c){j:Nat}{c:Int}(hj:cs[j]?=some c):(cs.take j).sum+c<=cs.sum:=by
 have:=oq h (j+1)
 rw [take_add_one,hj,sum_append] at this
 simpa using this
def pD(M bb:Nat)(aO:List (List Wd)):Prop:=∀ ws∈aO,∃ n,(1<=n/\n<=24)/\Ct M bb n ws
theorem pD.tx{M bb:Nat}{aO:List (List Wd)}(h:pD M bb aO)(hg:cZ (M,bb))(hl:1<=aO.length/\aO.length<=40):ek (M,bb) aO:=⟨hl,hg,fun ws hw=>by
 obtain ⟨n,hn,h1,h2,h3⟩:=h ws hw
 exact⟨by lia,fun w hv=>(h2 w hv).1,jA.of hg h2 h3⟩⟩
theorem pD.snoc{M bb n:Nat}{aO:List (List Wd)}{ws:List Wd}(h:pD M bb aO)(hn:1<=n/\n<=24)(hw:Ct M bb n ws):pD M bb (aO++[ws]):=fun q hq=>by
 rcases ZG.mp hq with z|z
 ·exact h q z
 ·rw [ZF.mp z];exact⟨n,hn,hw⟩
theorem L9(p:Nat×Nat):Cp (eG p)=x5 (bq p):=rfl
theorem Ma(m:Nat×Nat)(aO:List (List Wd)):QA (eG m) (aO.map fun ws=>ws.map wN)=nQ (bq m) (aO.map fun ws=>ws.map vc):=by
 unfold QA nQ
 rw [L9,ZW,ZW]
 congr 2
 refine ZX fun ws _=>?_
 show zb (ws.map wN)=ei (ws.map vc)
 unfold zb ei
 rw [ZW,ZW]
 rfl
theorem Pu{w:Wd}(h:qp w):E6 (wN w)=true/\eK (wN w).2:=by
 obtain ⟨o,p⟩:=w
 refine⟨?_,(bq p).1,(bq p).2,rfl,(ck h.2).1.2,(ck h.2).2.2⟩
 cases o with
 | none=>rfl
 | some r=>exact (h.1 r rfl).2
theorem ek.txt{m:Nat×Nat}{aO:List (List Wd)}(h:ek m aO):(aO.map fun ws=>ws.map wN).length<=40/\(∀ ns∈(aO.map fun ws=>ws.map wN),ns.length<=24/\∀ n∈ns,E6 n=true/\eK n.2)/\eK (eG m):=by
 refine⟨by rw [ZI];exact h.1.2,fun ns hn=>?_,(bq m).1,(bq m).2,rfl,(ck h.2.1).1.2,(ck h.2.1).2.2⟩
 obtain ⟨ws,hw,rfl⟩:=ZM.mp hn
 refine⟨by rw [ZI];exact (h.2.2 ws hw).1.2,fun n hm=>?_⟩
 obtain ⟨w,hv,rfl⟩:=ZM.mp hm
 exact Pu ((h.2.2 ws hw).2.1 w hv)
theorem ek.SF{m:Nat×Nat}{aO:List (List Wd)}(h:ek m aO):(aO.map fun ws=>ws.map wN).length<=100/\∀ ns∈(aO.map fun ws=>ws.map wN),ns.length<=100:=⟨Zm h.txt.1 (by decide),fun ns hn=>Zm (h.txt.2.1 ns hn).1 (by decide)⟩
theorem Fe{m:Nat×Nat}{aO:List (List Wd)}(h:ek m aO):eG (bq m)=eG m/\((aO.map fun ws=>ws.map vc).map fun ws=>ws.map wN)=aO.map fun ws=>ws.map wN:=⟨by unfold eG;rw [kj h.2.1],E9 fun ws hw=>(h.2.2 ws hw).2.1⟩
theorem Iq.eq{z:Str}:∀ {o:Option (List Int)},Iq z o->z=nP o/\MU o
 | none,h=>⟨h,fun _ e=>nomatch e⟩
 | some _,⟨t0,t1,t2,t3,t4,rfl,h,b0,b1,b2,b3,b4⟩=>by
  refine⟨Str.ext' (Array.toList_inj.mp (h.trans (toList_toArray ..).symm)),fun r e=>?_⟩
  cases e
  refine⟨rfl,?_⟩
  show fits t0 t1 t2 t3 t4=true
  exact u7 ⟨by lia,by lia,by lia,by lia,by lia⟩
theorem Pw{z:Str}{t0 t1 t2 t3 t4:Int}(h:z.cps.toList=ee t0 t1 t2 t3 t4):z=nP (some [t0,t1,t2,t3,t4]):=Str.ext' (Array.toList_inj.mp (h.trans (toList_toArray ..).symm))
structure jf where
 Ff:Addr
 pE:Addr
 gQ:Addr
 gR:Addr
 el:Addr
 dZ:Addr
 eO:Addr
 eP:Addr
 eQ:Addr
 eR:Addr
 eS:Addr
 eU:Addr
 eV:Addr
 iS:Addr
 iT:Addr
 nr:Addr
 iU:Addr
 nu:Addr
 iV:Addr
 nv:Addr
 iW:Addr
 ny:Addr
 iX:Tok
 cB:Tok
 ve:Tok
 eW:Tok
 gi:Tok
 c7:Tok
 eX:Tok
 dO:Tok
structure Txt(P:Program)(w:World)(K:Frag)(mg:Str->Option Value)(G:jf):Prop where
 Fg:mg "abs"=none
 BA:mg "all"=none
 Fh:mg "bool"=none
 eY:mg "enumerate"=none
 um:mg "int"=none
 aZ:mg "isinstance"=none
 gv:mg "len"=none
 vf:mg "list"=none
 Fi:mg "max"=none
 JZ:mg "min"=none
 iY:mg "range"=none
 uo:mg "str"=none
 eZ:mg "tuple"=none
 nz:mg "zip"=none
 Px:mg "ONE"=some (.ref G.Ff)
 ax:b7 K G.Ff [.int 0,.int 0,.int 0,.int 0,.int 0]
 Fj:mg "BOUNDS"=some (.ref G.pE)
 ai:b7 K G.pE [.int 700,.int 60,.int 60,.int 60,.int 60]
 iZ:mg "LETTERS"=some (.ref G.dZ)
 ou:mg "MARKS"=some (.ref G.iS)
 i0:pf P w K G.dZ [(.inr "F",.ref G.eO),(.inr "C",.ref G.eP),(.inr "G",.ref G.eQ),(.inr "D",.ref G.eR),(.inr "A",.ref G.eS),(.inr "E",.ref G.eU),(.inr "B",.ref G.eV)]
 bx:b7 K G.eO [.int (2),.int (-1),.int (0),.int (0),.int (0)]
 bz:b7 K G.eP [.int (0),.int (0),.int (0),.int (0),.int (0)]
 bA:b7 K G.eQ [.int (-1),.int (1),.int (0),.int (0),.int (0)]
 bB:b7 K G.eR [.int (-3),.int (2),.int (0),.int (0),.int (0)]
 bC:b7 K G.eS [.int (-4),.int (3),.int (0),.int (0),.int (0)]
 bD:b7 K G.eU [.int (-6),.int (4),.int (0),.int (0),.int (0)]
 bE:b7 K G.eV [.int (-7),.int (5),.int (0),.int (0),.int (0)]
 dP:b7 K G.iS [.ref G.iT,.ref G.iU,.ref G.iV,.ref G.iW]
 b9:b7 K G.iT [.str "#",.str "b",.ref G.nr]
 bU:b7 K G.nr [.int (-11),.int (7),.int (0),.int (0),.int (0)]
 bQ:b7 K G.iU [.str "+",.str "-",.ref G.nu]
 bF:b7 K G.nu [.int (-4),.int (4),.int (-1),.int (0),.int (0)]
 bR:b7 K G.iV [.str ">",.str "<",.ref G.nv]
 bG:b7 K G.nv [.int (6),.int (-2),.int (0),.int (-1),.int (0)]
 bS:b7 K G.iW [.str "^",.str "v",.ref G.ny]
 bH:b7 K G.ny [.int (-5),.int (1),.int (0),.int (0),.int (1)]
 Cu:mg "LONGEST"=some (.int 300 G.iX)
 lA:mg "OCTAVE_FIGURES"=some (.int 4 G.cB)
 Fl:mg "REST"=some (.str "R" G.ve)
 nA:mg "METER_END"=some (.str ": " G.eW)
 pF:mg "BAR_LINE"=some (.str " | " G.gi)
 pH:mg "MOST_FIGURES"=some (.int 4 G.c7)
 x9:mg "MOST_BARS"=some (.int 40 G.eX)
 vh:mg "MOST_NOTES"=some (.int 24 G.dO)
 Fm:mg "TooFar"=some (.ref G.gQ)
 Fo:nsIn K mainGlobals "TooFar"=some (some (.ref G.gQ))
 Py:xU K G.gQ
 gS:xT K G.gQ
 Fp:excIn K G.gQ [.type "ValueError",.type "Exception",.type "BaseException",.type "object"] "ValueError.__new__"=true
 ko:mg "NoName"=some (.ref G.gR)
 gT:nsIn K mainGlobals "NoName"=some (some (.ref G.gR))
 Pz:xU K G.gR
 gU:xT K G.gR
 kr:excIn K G.gR [.type "ValueError",.type "Exception",.type "BaseException",.type "object"] "ValueError.__new__"=true
 zQ:mg "NoLength"=some (.ref G.el)
 zR:nsIn K mainGlobals "NoLength"=some (some (.ref G.el))
 Mb:xU K G.el
 er:xT K G.el
 zS:excIn K G.el [.type "ValueError",.type "Exception",.type "BaseException",.type "object"] "ValueError.__new__"=true
def c8(K:Frag):Sp:=fun vs H Q _=>∃ (z:Str) (m:Nat),vs=[.str z,.int m]/\z.length<=1000/\∀ H',ah H H'->Q (.bl (aJ.cnt z m)) H'
def gj(K:Frag):Sp:=fun vs H Q _=>∃ (y:Str) (m:Nat),vs=[.str y,.int m]/\y.length<=1000/\∀ H',ah H H'->Q (.bl (aI.ub y m).isSome) H'
def fy(K:Frag):Sp:=fun vs H Q _=>∃ (z:Str) (m:Nat),vs=[.str z,.int m]/\z.length<=1000/\m<=600/\(∀ t b:Nat,aJ.yZ z m=some (t,b)->∀ p H',ah H H'->H' p=some (.tup [.int t,.int b])->Q (.ref p) H')/\(aJ.yZ z m=none->∀ H',ah H H'->Q .dj H')
def fz(K:Frag):Sp:=fun vs H Q _=>∃ (a:Addr) (t b:Nat),vs=[.ref a]/\aL K H a [.int t,.int b]/\Q (.int (Nat.gcd t b:Nat)) H
def i4(K:Frag):Sp:=fun vs H Q _=>∃ (t b:Nat),vs=[.int t,.int b]/\0<b/\b<2 ^ 9000/\∀ p H',ah H H'->H' p=some (.tup [.int (t / Nat.gcd t b:Nat),.int (b / Nat.gcd t b:Nat)])->Q (.ref p) H'
def c9 (K:Frag):Sp:=fun vs H Q E=>∃ (z:Str),vs=[.str z]/\z.length<=1000/\(∀ t b:Nat,aJ.yZ z 4=some (t,b)->∀ p H',ah H H'->H' p=some (.tup [.int (t / Nat.gcd t b:Nat),.int (b / Nat.gcd t b:Nat)])->Q (.ref p) H')/\(aJ.yZ z 4=none->∀ C H',nsIn K mainGlobals "NoLength"=some (some (.ref C))->ah H H'->E (.ref C) none H')
def da(K:Frag):Sp:=fun vs H Q _=>∃ (a:Addr) (t b:Nat),vs=[.ref a]/\aL K H a [.int t,.int b]/\t<=9999/\b<=9999/\Q (.str (aJ.txt t++aJ.aA++aJ.txt b)) H
def lC(K:Frag):Sp:=fun vs H Q _=>∃ (l:Addr) (xs:List V) (rs:List (Nat×Nat)),vs=[.ref l]/\bj K H l xs/\dC K H xs (rs.map BZ.r2)/\(∀ p∈rs,cZ p)/\rs.length<=60/\∀ p H' n d,ah H H'->H' p=some (.tup [.int (n:Nat),.int (d:Nat)])->A8 rs n d->n<=2 ^ (15*rs.length)->d<=2 ^ (15*rs.length)->Q (.ref p) H'
def gV(K:Frag):Sp:=fun vs H Q _=>∃ v,vs=[v]/\Kn K H v/\Q (.bl (wh v)) H
def lD(K:Frag):Sp:=fun vs H Q _=>∃ v,vs=[v]/\((∃ (a:Addr) (xs:List V),v=.ref a/\aL K H a xs/\xs.length<=1000/\(∀ x∈xs,Kn K H x)/\∀ H',ah H H'->Q (.bl (decide (xs.length=5) && xs.all wh)) H')\/(NT K H v/\Q (.bl false) H))
def jB(K:Frag):Sp:=fun vs H Q _=>∃ v,vs=[v]/\((∃ (a:Addr) (x0 x1 x2 x3 x4:Int),v=.ref a/\aL K H a [.int x0,.int x1,.int x2,.int x3,.int x4]/\∀ H',ah H H'->Q (.bl (fits x0 x1 x2 x3 x4)) H')\/(Xi K H v/\∀ H',ah H H'->Q (.bl false) H'))
def jC (K:Frag):Sp:=fun vs H Q E=>∃ (a:Addr) (x0 x1 x2 x3 x4:Int),vs=[.ref a]/\aL K H a [.int x0,.int x1,.int x2,.int x3,.int x4]/\(fits x0 x1 x2 x3 x4=false->∀ C H',nsIn K mainGlobals "TooFar"=some (some (.ref C))->ah H H'->E (.ref C) none H')/\(fits x0 x1 x2 x3 x4=true->∀ H',ah H H'->Q (.ref a) H')
def pI(K:Frag):Sp:=fun vs H Q _=>∃ a b a0 a1 a2 a3 a4 b0 b1 b2 b3 b4,vs=[.ref a,.ref b]/\aL K H a [.int a0,.int a1,.int a2,.int a3,.int a4]/\aL K H b [.int b0,.int b1,.int b2,.int b3,.int b4]/\∀ p H',ah H H'->H' p=some (.tup [.int (a0+b0),.int (a1+b1),.int (a2+b2),.int (a3+b3),.int (a4+b4)])->Q (.ref p) H'
def vj(K:Frag):Sp:=fun vs H Q _=>∃ a b a0 a1 a2 a3 a4 b0 b1 b2 b3 b4,vs=[.ref a,.ref b]/\aL K H a [.int a0,.int a1,.int a2,.int a3,.int a4]/\aL K H b [.int b0,.int b1,.int b2,.int b3,.int b4]/\∀ p H',ah H H'->H' p=some (.tup [.int (a0 - b0),.int (a1 - b1),.int (a2 - b2),.int (a3 - b3),.int (a4 - b4)])->Q (.ref p) H'
def ku(K:Frag):Sp:=fun vs H Q _=>∃ (a:Addr) (x0 x1 x2 x3 x4 n:Int),vs=[.ref a,.int n]/\aL K H a [.int x0,.int x1,.int x2,.int x3,.int x4]/\((∀ x∈[x0,x1,x2,x3,x4],-1000<=x/\x<=1000)/\(-1000<=n/\n<=1000))/\∀ p H',ah H H'->H' p=some (.tup [.int (x0*n),.int (x1*n),.int (x2*n),.int (x3*n),.int (x4*n)])->Q (.ref p) H'
def fA(K:Frag):Sp:=fun vs H Q _=>∃ (z:Str) (s c:Nat),vs=[.str z,.int s,.str ⟨#[c]⟩]/\z.length<=1000/\Q (.int (aI.runs (z.cps.toList.drop s) c:Nat)) H
def fB(K:Frag):Sp:=fun vs H Q _=>∃ (z:Str) (s c d:Nat) (m:Addr) (r:V),vs=[.str z,.int s,.ref m]/\z.length<=1000/\aL K H m [.str ⟨#[c]⟩,.str ⟨#[d]⟩,r]/\Q (.int ((aI.runs (z.cps.toList.drop s) c:Int) - aI.runs (z.cps.toList.drop s) d)) H
def fC(K:Frag):Sp:=fun vs H Q _=>∃ (m:Addr) (c d:Nat) (r:V) (k:Int),vs=[.ref m,.int k]/\aL K H m [.str ⟨#[c]⟩,.str ⟨#[d]⟩,r]/\(-1000<=k/\k<=1000)/\Q (.str ⟨(aI.seg c d k).toArray⟩) H
def eu (K:Frag):Sp:=fun vs H Q E=>∃ y:Str,vs=[.str y]/\y.length<=1000/\(aI.ub y 4=none->∀ C H',nsIn K mainGlobals "NoName"=some (some (.ref C))->ah H H'->E (.ref C) none H')/\(∀ o,aI.ub y 4=some o->∀ H',ah H H'->Q (.int o) H')
def pJ (K:Frag):Sp:=fun vs H Q E=>∃ z:Str,vs=[.str z]/\z.length<=1000/\(aI.y6 z=none->(∀ C H',nsIn K mainGlobals "NoName"=some (some (.ref C))->ah H H'->E (.ref C) none H'))/\(∀ x0 x1 x2 x3 x4:Int,aI.y6 z=some [x0,x1,x2,x3,x4]->fits x0 x1 x2 x3 x4=false->(∀ C H',nsIn K mainGlobals "TooFar"=some (some (.ref C))->ah H H'->E (.ref C) none H'))/\(∀ x0 x1 x2 x3 x4:Int,aI.y6 z=some [x0,x1,x2,x3,x4]->fits x0 x1 x2 x3 x4=true->∀ p H',ah H H'->H' p=some (.tup [.int x0,.int x1,.int x2,.int x3,.int x4])->Q (.ref p) H')
def jD(K:Frag):Sp:=fun vs H Q _=>∃ (a:Addr) (t0 t1 t2 t3 t4:Int),vs=[.ref a]/\aL K H a [.int t0,.int t1,.int t2,.int t3,.int t4]/\((-700<=t0/\t0<=700)/\(-60<=t1/\t1<=60)/\(-60<=t2/\t2<=60)/\(-60<=t3/\t3<=60)/\(-60<=t4/\t4<=60))/\∀ (T:Str) H',ah H H'->T.cps.toList=ee t0 t1 t2 t3 t4->aI.y6 T=some [t0,t1,t2,t3,t4]->T.length<=300->Q (.str T) H'
def dt(K:Frag):Sp:=fun vs H Q _=>∃ (o:Option (List Int)),vs=[.str (nP o)]/\MU o/\∀ v H',ah H H'->c6 K H' v o->Q v H'
def gk(K:Frag):Sp:=fun vs H Q _=>∃ (w:Wd) (i j:Int),vs=[.str (uk w),.int i,.int j]/\qp w/\∀ q H',ah H H'->cy K H' (.ref q) (wN w)->Q (.ref q) H'
def gW(K:Frag):Sp:=fun vs H Q _=>∃ (ws:List Wd) (i:Int) (m:Addr) (mt:Nat×Nat),vs=[.str (ei ws),.int i,.ref m]/\aL K H m [.int (eG mt).1,.int (eG mt).2]/\(1<=ws.length/\ws.length<=24)/\(∀ w∈ws,qp w)/\jA ws mt/\∀ l H' xs,H l=none->ah H H'->H' l=some (.lst xs)->aT K H' xs (ws.map wN)->Q (.ref l) H'
def fD(K:Frag):Sp:=fun vs H Q _=>∃ (p:Nat×Nat),vs=[.str (x5 p)]/\cZ p/\∀ m H',ah H H'->H' m=some (.tup [.int (eG p).1,.int (eG p).2])->Q (.ref m) H'
def gm(K:Frag):Sp:=fun vs H Q _=>∃ (mt:Nat×Nat) (aO:List (List Wd)),vs=[.str (nQ mt aO)]/\ek mt aO/\∀ t m l H' xs,ah H H'->H l=none->(∀ y∈xs,∃ b,y=V.ref b/\H b=none)->eh K H' t m l (eG mt) xs (aO.map fun ws=>ws.map wN)->Q (.ref t) H'
def gn(K:Frag):Sp:=fun vs H Q _=>∃ (a:Addr) (n:Nt),vs=[.ref a]/\cy K H (.ref a) n/\E6 n=true/\eK n.2/\∀ H',ah H H'->(za n).length<=400->Q (.str (za n)) H'
def gX(K:Frag):Sp:=fun vs H Q _=>∃ (a:Addr) (xs:List V) (ns:List Nt),vs=[.ref a]/\bj K H a xs/\aT K H xs ns/\ns.length<=24/\(∀ n∈ns,E6 n=true/\eK n.2)/\∀ H',ah H H'->(zb ns).length<=10000->Q (.str (zb ns)) H'
def gp(K:Frag):Sp:=fun vs H Q _=>∃ (a m l:Addr) (mt:Int×Int) (xs:List V) (bs:List (List Nt)),vs=[.ref a]/\eh K H a m l mt xs bs/\bs.length<=40/\(∀ ns∈bs,ns.length<=24/\∀ n∈ns,E6 n=true/\eK n.2)/\eK mt/\∀ H',ah H H'->Q (.str (QA mt bs)) H'
def bK(K:Frag):Sp:=fun vs H Q _=>∃ (a:Addr) (ns:List Int) (k:Int),vs=[.ref a,.int k]/\bj K H a (ns.map V.int)/\0<=k/\Q (.int (ns.getD k.toNat 0)) H
def cm(K:Frag):Sp:=fun vs H Q _=>∃ (t b:Nat),vs=[.int t,.int b]/\0<b/\b<2 ^ 9000/\∀ p H',ah H H'->H' p=some (.tup [.int (t / Nat.gcd t b:Nat),.int (b / Nat.gcd t b:Nat)])->Q (.ref p) H'
def de(K:Frag):Sp:=fun vs H Q _=>∃ (c j:Int),vs=[.int c,.int j]/\(0<=j/\j<=1000)/\∀ m:Int,0<=m->m<999983->Q (.int m) H
def dQ(K:Frag)(n:Nat):Sp:=fun vs H Q _=>∃ (x y:V),vs=[x,y]/\y9 K n H x y/\∀ H',ah H H'->Q (.bl true) H'
theorem jg(K:Frag){vs:List V}{H:Hp}{Q:VK}{E:XK}:¬ dQ K 0 vs H Q E:=fun ⟨_,_,_,h,_⟩=>h
def dH(K:Frag):Sp:=fun vs H Q _=>∃ (c:Int),vs=[.int c]/\(0<=c/\c<=1000000)/\∀ (p:Addr) H' (z:Str) (v:V) (o:Option (List Int)),ah H H'->H' p=some (.tup [.str z,v])->c6 K H' v o->Iq z o->Q (.ref p) H'
def fE(K:Frag):Sp:=fun vs H Q _=>∃ (c:Int) (n t:Nat),vs=[.int c,.int n,.int t]/\1<=n/\n<=24/\n<=t/\t<=100/\∀ (l:Addr) H' (ps:List Int),H l=none->ah H H'->H' l=some (.lst (ps.map V.int))->ps.length=n->(∀ p∈ps,1<=p/\p<=t)->ps.sum=(t:Int)->Q (.ref l) H'
def jE(K:Frag):Sp:=fun vs H Q _=>∃ (c:Int) (n t y bb:Nat),vs=[.int c,.int n,.int t,.int y,.int bb]/\(1<=n/\n<=24)/\(n<=t/\t<=100)/\(1<=y/\y<=1000/\t*y<=9999)/\(1<=bb/\bb<=9999)/\∀ p lw ln H' ws,ah H H'->eN K H' p lw ln ws->H lw=none->H ln=none->Ct (t*y) bb n ws->Q (.ref p) H'
def fF(K:Frag):Sp:=fun vs H Q _=>∃ (a:Addr) (ns:List Int),vs=[.ref a]/\bj K H a (ns.map V.int)/\∀ l H' (cs:List Int),H l=none->ah H H'->H' l=some (.lst (cs.map V.int))->(1<=cs.length/\cs.length<=40)->(∀ c∈cs,1<=c/\c<=24)->Q (.ref l) H'
def dg(K:Frag):Sp:=fun vs H Q _=>∃ c:Int,vs=[.int c]/\∀ p t0 t1 t2 t3 t4 H',ah H H'->H' p=some (.tup [.int t0,.int t1,.int t2,.int t3,.int t4])->((-700<=t0/\t0<=700)/\(-60<=t1/\t1<=60)/\(-60<=t2/\t2<=60)/\(-60<=t3/\t3<=60)/\(-60<=t4/\t4<=60))->Q (.ref p) H'
def eA(K:Frag):Sp:=fun vs H Q _=>∃ (a:Addr) (t0 t1 t2 t3 t4:Int),vs=[.ref a]/\aL K H a [.int t0,.int t1,.int t2,.int t3,.int t4]/\((-700<=t0/\t0<=700)/\(-60<=t1/\t1<=60)/\(-60<=t2/\t2<=60)/\(-60<=t3/\t3<=60)/\(-60<=t4/\t4<=60))/\∀ (T:Str) H',ah H H'->T.cps.toList=ee t0 t1 t2 t3 t4->Q (.str T) H'
def cE(K:Frag):Sp:=fun vs H Q _=>∃ (a:Addr) (ns:List Int),vs=[.ref a]/\bj K H a (ns.map V.int)/\ns.length<=63/\∀ l H' (cs:List Int),ah H H'->H' l=some (.lst (cs.map V.int))->(1<=cs.length/\cs.length<=40)->(∀ c∈cs,1<=c/\c<=24)->cs.sum<=55->Q (.ref l) H'
def du(K:Frag):Sp:=fun vs H Q _=>∃ (lc:Addr) (cs:List Int) (n t bb:Nat),vs=[.ref lc,.int n,.int t,.int bb]/\H lc=some (.lst (cs.map V.int))/\(n<=cs.length/\cs.length<=60)/\(1<=n/\n<=24)/\(n<=t/\t<=9999)/\(1<=bb/\bb<=9999)/\∀ p lw ln H' ws,kg lc H H'->H' lc=some (.lst ((cs.drop n).map V.int))->eN K H' p lw ln ws->H lw=none->H ln=none->Ct t bb n ws->Q (.ref p) H'
def dh(K:Frag):Sp:=fun vs H Q _=>∃ (a:Addr) (ns:List Int),vs=[.ref a]/\bj K H a (ns.map V.int)/\ns.length<=63/\∀ p lb ln H' (M bb:Nat) aO xs ys,ah H H'->H' p=some (.tup [.int (M:Int),.int (bb:Int),.ref lb,.ref ln])->H' lb=some (.lst xs)->Fa (gh K H') xs aO->H' ln=some (.lst ys)->bW K H' ys (aO.map fun ws=>ws.map wN)->ek (M,bb) aO->Q (.ref p) H'
def di(K:Frag):Sp:=fun vs H Q _=>∃ (a:Addr) (ns:List Int),vs=[.ref a]/\bj K H a (ns.map V.int)/\ns.length<=63/\∀ p lb ln H' (M bb:Nat) aO xs ys,ah H H'->H' p=some (.tup [.int (M:Int),.int (bb:Int),.ref lb,.ref ln])->H' lb=some (.lst xs)->Fa (gh K H') xs aO->H' ln=some (.lst ys)->bW K H' ys (aO.map fun ws=>ws.map wN)->ek (M,bb) aO->Q (.ref p) H'
def fG(K:Frag):Sp:=fun vs H Q _=>∃ (p:Nat×Nat) (lo:Bool),vs=[.int (p.1:Int),.int (p.2:Int),.bl lo]/\cZ p/\∀ H',ah H H'->Q (.str (x5 (if lo then bq p else p))) H'
def gY(K:Frag):Sp:=fun vs H Q _=>∃ (m l:Addr) (mt:Nat×Nat) (xs:List V) (aO:List (List Wd)) (lo:Bool),vs=[.ref m,.ref l,.bl lo]/\aL K H m [.int (mt.1:Int),.int (mt.2:Int)]/\H l=some (.lst xs)/\Fa (gh K H) xs aO/\ek mt aO/\∀ H',ah H H'->Q (.str (nQ (if lo then bq mt else mt) (aO.map fun ws=>ws.map (lw lo)))) H'
section
variable {K:Frag}{H:Hp}{Q:VK}{E:XK}
theorem dA{z:Str}{m:Nat}(hz:z.length<=1000)(k:∀ H',ah H H'->Q (.bl (aJ.cnt z m)) H'):c8 K [.str z,.int m] H Q E:=⟨z,m,rfl,hz,k⟩
theorem ya{y:Str}{m:Nat}(hy:y.length<=1000)(k:∀ H',ah H H'->Q (.bl (aI.ub y m).isSome) H'):gj K [.str y,.int m] H Q E:=⟨y,m,rfl,hy,k⟩
theorem vk{z:Str}{m:Nat}(h:z.length<=1000/\m<=600)(k:(∀ t b:Nat,aJ.yZ z m=some (t,b)->∀ p H',ah H H'->H' p=some (.tup [.int t,.int b])->Q (.ref p) H')/\(aJ.yZ z m=none->∀ H',ah H H'->Q .dj H')):fy K [.str z,.int m] H Q E:=⟨z,m,rfl,h.1,h.2,k.1,k.2⟩
theorem vm{a:Addr}{t b:Nat}(ha:aL K H a [.int t,.int b])(k:Q (.int (Nat.gcd t b:Nat)) H):fz K [.ref a] H Q E:=⟨a,t,b,rfl,ha,k⟩
theorem yb{t b:Nat}(h0:0<b)(h9:b<2 ^ 9000)(k:∀ p H',ah H H'->H' p=some (.tup [.int (t / Nat.gcd t b:Nat),.int (b / Nat.gcd t b:Nat)])->Q (.ref p) H'):i4 K [.int t,.int b] H Q E:=⟨t,b,rfl,h0,h9,k⟩
theorem jh {z:Str} (h:z.length<=1000) (k:(∀ t b:Nat,aJ.yZ z 4=some (t,b)->∀ p H',ah H H'->H' p=some (.tup [.int (t / Nat.gcd t b:Nat),.int (b / Nat.gcd t b:Nat)])->Q (.ref p) H')/\(aJ.yZ z 4=none->∀ C H',nsIn K mainGlobals "NoLength"=some (some (.ref C))->ah H H'->E (.ref C) none H')):c9 K [.str z] H Q E:=⟨z,rfl,h,k.1,k.2⟩
theorem fH{a:Addr}{t b:Nat}(ha:aL K H a [.int t,.int b])(ht:t<=9999)(hb:b<=9999)(k:Q (.str (aJ.txt t++aJ.aA++aJ.txt b)) H):da K [.ref a] H Q E:=⟨a,t,b,rfl,ha,ht,hb,k⟩
theorem Fq{l:Addr}{xs:List V}{rs:List (Nat×Nat)}(hl:bj K H l xs)(hr:dC K H xs (rs.map BZ.r2))(hg:∀ p∈rs,cZ p)(hn:rs.length<=60)(k:∀ p H' n d,ah H H'->H' p=some (.tup [.int (n:Nat),.int (d:Nat)])->A8 rs n d->n<=2 ^ (15*rs.length)->d<=2 ^ (15*rs.length)->Q (.ref p) H'):lC K [.ref l] H Q E:=⟨l,xs,rs,rfl,hl,hr,hg,hn,k⟩
theorem zT{v:V}(hv:Kn K H v)(k:Q (.bl (wh v)) H):gV K [v] H Q E:=⟨v,rfl,hv,k⟩
theorem pK{v:V}(h:(∃ (a:Addr) (xs:List V),v=.ref a/\aL K H a xs/\xs.length<=1000/\(∀ x∈xs,Kn K H x)/\∀ H',ah H H'->Q (.bl (decide (xs.length=5) && xs.all wh)) H')\/(NT K H v/\Q (.bl false) H)):lD K [v] H Q E:=⟨v,rfl,h⟩
theorem zU{a:Addr}{x0 x1 x2 x3 x4:Int}(ha:aL K H a [.int x0,.int x1,.int x2,.int x3,.int x4])(k:∀ H',ah H H'->Q (.bl (fits x0 x1 x2 x3 x4)) H'):jB K [.ref a] H Q E:=⟨_,rfl,.inl ⟨a,x0,x1,x2,x3,x4,rfl,ha,k⟩⟩
theorem Cv {a:Addr} {x0 x1 x2 x3 x4:Int} (ha:aL K H a [.int x0,.int x1,.int x2,.int x3,.int x4]) (ke:(fits x0 x1 x2 x3 x4=false->∀ C H',nsIn K mainGlobals "TooFar"=some (some (.ref C))->ah H H'->E (.ref C) none H')) (kq:(fits x0 x1 x2 x3 x4=true->∀ H',ah H H'->Q (.ref a) H')):jC K [.ref a] H Q E:=⟨a,x0,x1,x2,x3,x4,rfl,ha,ke,kq⟩
theorem IB{a b:Addr}{a0 a1 a2 a3 a4 b0 b1 b2 b3 b4:Int}(ha:aL K H a [.int a0,.int a1,.int a2,.int a3,.int a4])(hb:aL K H b [.int b0,.int b1,.int b2,.int b3,.int b4])(k:∀ p H',ah H H'->H' p=some (.tup [.int (a0+b0),.int (a1+b1),.int (a2+b2),.int (a3+b3),.int (a4+b4)])->Q (.ref p) H'):pI K [.ref a,.ref b] H Q E:=⟨a,b,a0,a1,a2,a3,a4,b0,b1,b2,b3,b4,rfl,ha,hb,k⟩
theorem Mc{a b:Addr}{a0 a1 a2 a3 a4 b0 b1 b2 b3 b4:Int}(ha:aL K H a [.int a0,.int a1,.int a2,.int a3,.int a4])(hb:aL K H b [.int b0,.int b1,.int b2,.int b3,.int b4])(k:∀ p H',ah H H'->H' p=some (.tup [.int (a0 - b0),.int (a1 - b1),.int (a2 - b2),.int (a3 - b3),.int (a4 - b4)])->Q (.ref p) H'):vj K [.ref a,.ref b] H Q E:=⟨a,b,a0,a1,a2,a3,a4,b0,b1,b2,b3,b4,rfl,ha,hb,k⟩
theorem vn{a:Addr}{x0 x1 x2 x3 x4 n:Int}(ha:aL K H a [.int x0,.int x1,.int x2,.int x3,.int x4])(hb:(∀ x∈[x0,x1,x2,x3,x4],-1000<=x/\x<=1000)/\(-1000<=n/\n<=1000))(k:∀ p H',ah H H'->H' p=some (.tup [.int (x0*n),.int (x1*n),.int (x2*n),.int (x3*n),.int (x4*n)])->Q (.ref p) H'):ku K [.ref a,.int n] H Q E:=⟨a,x0,x1,x2,x3,x4,n,rfl,ha,hb,k⟩
theorem kx{z:Str}{s c:Nat}(hz:z.length<=1000)(k:Q (.int (aI.runs (z.cps.toList.drop s) c:Nat)) H):fA K [.str z,.int s,.str ⟨#[c]⟩] H Q E:=⟨z,s,c,rfl,hz,k⟩
theorem vo{z:Str}{s c d:Nat}{m:Addr}{r:V}(hz:z.length<=1000)(hm:aL K H m [.str ⟨#[c]⟩,.str ⟨#[d]⟩,r])(k:Q (.int ((aI.runs (z.cps.toList.drop s) c:Int) - aI.runs (z.cps.toList.drop s) d)) H):fB K [.str z,.int s,.ref m] H Q E:=⟨z,s,c,d,m,r,rfl,hz,hm,k⟩
theorem kz{m:Addr}{c d:Nat}{r:V}{n:Int}(hm:aL K H m [.str ⟨#[c]⟩,.str ⟨#[d]⟩,r])(hn:-1000<=n/\n<=1000)(k:Q (.str ⟨(aI.seg c d n).toArray⟩) H):fC K [.ref m,.int n] H Q E:=⟨m,c,d,r,n,rfl,hm,hn,k⟩
theorem qC {y:Str} (hy:y.length<=1000) (k:(aI.ub y 4=none->∀ C H',nsIn K mainGlobals "NoName"=some (some (.ref C))->ah H H'->E (.ref C) none H')/\(∀ o,aI.ub y 4=some o->∀ H',ah H H'->Q (.int o) H')):eu K [.str y] H Q E:=⟨y,rfl,hy,k.1,k.2⟩
theorem IC {z:Str} (hz:z.length<=1000) (k:(aI.y6 z=none->(∀ C H',nsIn K mainGlobals "NoName"=some (some (.ref C))->ah H H'->E (.ref C) none H'))/\(∀ x0 x1 x2 x3 x4:Int,aI.y6 z=some [x0,x1,x2,x3,x4]->fits x0 x1 x2 x3 x4=false->(∀ C H',nsIn K mainGlobals "TooFar"=some (some (.ref C))->ah H H'->E (.ref C) none H'))/\(∀ x0 x1 x2 x3 x4:Int,aI.y6 z=some [x0,x1,x2,x3,x4]->fits x0 x1 x2 x3 x4=true->∀ p H',ah H H'->H' p=some (.tup [.int x0,.int x1,.int x2,.int x3,.int x4])->Q (.ref p) H')):pJ K [.str z] H Q E:=⟨z,rfl,hz,k.1,k.2.1,k.2.2⟩
theorem Cw{a:Addr}{t0 t1 t2 t3 t4:Int}(ha:aL K H a [.int t0,.int t1,.int t2,.int t3,.int t4])(hb:(-700<=t0/\t0<=700)/\(-60<=t1/\t1<=60)/\(-60<=t2/\t2<=60)/\(-60<=t3/\t3<=60)/\(-60<=t4/\t4<=60))(k:∀ (T:Str) H',ah H H'->T.cps.toList=ee t0 t1 t2 t3 t4->aI.y6 T=some [t0,t1,t2,t3,t4]->T.length<=300->Q (.str T) H'):jD K [.ref a] H Q E:=⟨a,t0,t1,t2,t3,t4,rfl,ha,hb,k⟩
theorem nR{o:Option (List Int)}(h:MU o)(k:∀ v H',ah H H'->c6 K H' v o->Q v H'):dt K [.str (nP o)] H Q E:=⟨o,rfl,h,k⟩
theorem yc{w:Wd}{i j:Int}(h:qp w)(k:∀ q H',ah H H'->cy K H' (.ref q) (wN w)->Q (.ref q) H'):gk K [.str (uk w),.int i,.int j] H Q E:=⟨w,i,j,rfl,h,k⟩
theorem zV{ws:List Wd}{i:Int}{m:Addr}{mt:Nat×Nat}(h:aL K H m [.int (eG mt).1,.int (eG mt).2]/\(1<=ws.length/\ws.length<=24)/\(∀ w∈ws,qp w)/\jA ws mt)(k:∀ l H' xs,H l=none->ah H H'->H' l=some (.lst xs)->aT K H' xs (ws.map wN)->Q (.ref l) H'):gW K [.str (ei ws),.int i,.ref m] H Q E:=let ⟨h1,h2,h3,h4⟩:=h;⟨ws,i,m,mt,rfl,h1,h2,h3,h4,k⟩
theorem vp{p:Nat×Nat}(h:cZ p)(k:∀ m H',ah H H'->H' m=some (.tup [.int (eG p).1,.int (eG p).2])->Q (.ref m) H'):fD K [.str (x5 p)] H Q E:=⟨p,rfl,h,k⟩
theorem gZ{mt:Nat×Nat}{aO:List (List Wd)}(h:ek mt aO)(k:∀ t m l H' xs,ah H H'->H l=none->(∀ y∈xs,∃ b,y=V.ref b/\H b=none)->eh K H' t m l (eG mt) xs (aO.map fun ws=>ws.map wN)->Q (.ref t) H'):gm K [.str (nQ mt aO)] H Q E:=⟨mt,aO,rfl,h,k⟩
theorem yd{a:Addr}{n:Nt}(h:cy K H (.ref a) n/\E6 n=true/\eK n.2)(k:∀ H',ah H H'->(za n).length<=400->Q (.str (za n)) H'):gn K [.ref a] H Q E:=⟨a,n,rfl,h.1,h.2.1,h.2.2,k⟩
theorem zW{a:Addr}{xs:List V}{ns:List Nt}(h:bj K H a xs/\aT K H xs ns/\ns.length<=24/\(∀ n∈ns,E6 n=true/\eK n.2))(k:∀ H',ah H H'->(zb ns).length<=10000->Q (.str (zb ns)) H'):gX K [.ref a] H Q E:=⟨a,xs,ns,rfl,h.1,h.2.1,h.2.2.1,h.2.2.2,k⟩
theorem ye{a m l:Addr}{mt:Int×Int}{xs:List V}{bs:List (List Nt)}(h:eh K H a m l mt xs bs/\bs.length<=40/\(∀ ns∈bs,ns.length<=24/\∀ n∈ns,E6 n=true/\eK n.2)/\eK mt)(k:∀ H',ah H H'->Q (.str (QA mt bs)) H'):gp K [.ref a] H Q E:=⟨a,m,l,mt,xs,bs,rfl,h.1,h.2.1,h.2.2.1,h.2.2.2,k⟩
theorem qD{a:Addr}{ns:List Int}{j:Int}(ha:bj K H a (ns.map V.int))(h0:0<=j)(k:Q (.int (ns.getD j.toNat 0)) H):bK K [.ref a,.int j] H Q E:=⟨a,ns,j,rfl,ha,h0,k⟩
theorem dR{t b:Nat}(h0:0<b)(h9:b<2 ^ 9000)(k:∀ p H',ah H H'->H' p=some (.tup [.int (t / Nat.gcd t b:Nat),.int (b / Nat.gcd t b:Nat)])->Q (.ref p) H'):cm K [.int t,.int b] H Q E:=⟨t,b,rfl,h0,h9,k⟩
theorem g0{c j:Int}(hj:0<=j/\j<=1000)(k:∀ m:Int,0<=m->m<999983->Q (.int m) H):de K [.int c,.int j] H Q E:=⟨c,j,rfl,hj,k⟩
theorem cz{n:Nat}{x y:V}(h:y9 K n H x y)(k:∀ H',ah H H'->Q (.bl true) H'):dQ K n [x,y] H Q E:=⟨x,y,rfl,h,k⟩
theorem pM{c:Int}(hc:0<=c/\c<=1000000)(k:∀ (p:Addr) H' (z:Str) (v:V) (o:Option (List Int)),ah H H'->H' p=some (.tup [.str z,v])->c6 K H' v o->Iq z o->Q (.ref p) H'):dH K [.int c] H Q E:=⟨c,rfl,hc,k⟩
theorem vq{c:Int}{n t:Nat}(h:1<=n/\n<=24/\n<=t/\t<=100)(k:∀ (l:Addr) H' (ps:List Int),H l=none->ah H H'->H' l=some (.lst (ps.map V.int))->ps.length=n->(∀ p∈ps,1<=p/\p<=t)->ps.sum=(t:Int)->Q (.ref l) H'):fE K [.int c,.int n,.int t] H Q E:=let ⟨h1,h2,h3,h4⟩:=h;⟨c,n,t,rfl,h1,h2,h3,h4,k⟩
theorem Cy{c:Int}{n t y bb:Nat}(h:(1<=n/\n<=24)/\(n<=t/\t<=100)/\(1<=y/\y<=1000/\t*y<=9999)/\(1<=bb/\bb<=9999))(k:∀ p lw ln H' ws,ah H H'->eN K H' p lw ln ws->H lw=none->H ln=none->Ct (t*y) bb n ws->Q (.ref p) H'):jE K [.int c,.int n,.int t,.int y,.int bb] H Q E:=let ⟨h1,h2,h3,h4⟩:=h;⟨c,n,t,y,bb,rfl,h1,h2,h3,h4,k⟩
theorem vt{a:Addr}{ns:List Int}(h:bj K H a (ns.map V.int))(k:∀ l H' (cs:List Int),H l=none->ah H H'->H' l=some (.lst (cs.map V.int))->(1<=cs.length/\cs.length<=40)->(∀ c∈cs,1<=c/\c<=24)->Q (.ref l) H'):fF K [.ref a] H Q E:=⟨a,ns,rfl,h,k⟩
theorem lE{c:Int}(k:∀ p t0 t1 t2 t3 t4 H',ah H H'->H' p=some (.tup [.int t0,.int t1,.int t2,.int t3,.int t4])->((-700<=t0/\t0<=700)/\(-60<=t1/\t1<=60)/\(-60<=t2/\t2<=60)/\(-60<=t3/\t3<=60)/\(-60<=t4/\t4<=60))->Q (.ref p) H'):dg K [.int c] H Q E:=⟨c,rfl,k⟩
theorem qE{a:Addr}{t0 t1 t2 t3 t4:Int}(ha:aL K H a [.int t0,.int t1,.int t2,.int t3,.int t4])(hb:(-700<=t0/\t0<=700)/\(-60<=t1/\t1<=60)/\(-60<=t2/\t2<=60)/\(-60<=t3/\t3<=60)/\(-60<=t4/\t4<=60))(k:∀ (T:Str) H',ah H H'->T.cps.toList=ee t0 t1 t2 t3 t4->Q (.str T) H'):eA K [.ref a] H Q E:=⟨a,t0,t1,t2,t3,t4,rfl,ha,hb,k⟩
theorem jF{a:Addr}{ns:List Int}(h:bj K H a (ns.map V.int)/\ns.length<=63)(k:∀ l H' (cs:List Int),ah H H'->H' l=some (.lst (cs.map V.int))->(1<=cs.length/\cs.length<=40)->(∀ c∈cs,1<=c/\c<=24)->cs.sum<=55->Q (.ref l) H'):cE K [.ref a] H Q E:=⟨a,ns,rfl,h.1,h.2,k⟩
theorem nS{lc:Addr}{cs:List Int}{n t bb:Nat}(h:H lc=some (.lst (cs.map V.int))/\(n<=cs.length/\cs.length<=60)/\(1<=n/\n<=24)/\(n<=t/\t<=9999)/\(1<=bb/\bb<=9999))(k:∀ p lw ln H' ws,kg lc H H'->H' lc=some (.lst ((cs.drop n).map V.int))->eN K H' p lw ln ws->H lw=none->H ln=none->Ct t bb n ws->Q (.ref p) H'):du K [.ref lc,.int n,.int t,.int bb] H Q E:=let ⟨h1,h2,h3,h4,h5⟩:=h;⟨lc,cs,n,t,bb,rfl,h1,h2,h3,h4,h5,k⟩
theorem lG{a:Addr}{ns:List Int}(h:bj K H a (ns.map V.int)/\ns.length<=63)(k:∀ p lb ln H' (M bb:Nat) aO xs ys,ah H H'->H' p=some (.tup [.int (M:Int),.int (bb:Int),.ref lb,.ref ln])->H' lb=some (.lst xs)->Fa (gh K H') xs aO->H' ln=some (.lst ys)->bW K H' ys (aO.map fun ws=>ws.map wN)->ek (M,bb) aO->Q (.ref p) H'):dh K [.ref a] H Q E:=⟨a,ns,rfl,h.1,h.2,k⟩
theorem lH{a:Addr}{ns:List Int}(h:bj K H a (ns.map V.int)/\ns.length<=63)(k:∀ p lb ln H' (M bb:Nat) aO xs ys,ah H H'->H' p=some (.tup [.int (M:Int),.int (bb:Int),.ref lb,.ref ln])->H' lb=some (.lst xs)->Fa (gh K H') xs aO->H' ln=some (.lst ys)->bW K H' ys (aO.map fun ws=>ws.map wN)->ek (M,bb) aO->Q (.ref p) H'):di K [.ref a] H Q E:=⟨a,ns,rfl,h.1,h.2,k⟩
theorem kA{p:Nat×Nat}{lo:Bool}(h:cZ p)(k:∀ H',ah H H'->Q (.str (x5 (if lo then bq p else p))) H'):fG K [.int (p.1:Int),.int (p.2:Int),.bl lo] H Q E:=⟨p,lo,rfl,h,k⟩
theorem pN{m l:Addr}{mt:Nat×Nat}{xs:List V}{aO:List (List Wd)}{lo:Bool}(h:aL K H m [.int (mt.1:Int),.int (mt.2:Int)]/\H l=some (.lst xs)/\Fa (gh K H) xs aO/\ek mt aO)(k:∀ H',ah H H'->Q (.str (nQ (if lo then bq mt else mt) (aO.map fun ws=>ws.map (lw lo)))) H'):gY K [.ref m,.ref l,.bl lo] H Q E:=let ⟨h1,h2,h3,h4⟩:=h;⟨m,l,mt,xs,aO,lo,rfl,h1,h2,h3,h4,k⟩
end
local macro_rules|`(tactic| walk_at "hf") => `(tactic| first|assumption|exact L2.aL.of (by assumption)|exact L2.bj.of (by assumption)|exact L2.b7.at (by assumption)|((with_reducible apply L2.oU);(walk_at "hf"))|((with_reducible apply L2.cC);(walk_at "hf"))|((with_reducible apply L2.ah.at);(assumption);(walk_at "hf"))|((with_reducible apply L2.ah.seq);(assumption);(walk_at "hf"))|((with_reducible apply L2.ah.lst);(assumption);(walk_at "hf"))|((with_reducible apply L2.ah.sq);(assumption);(walk_at "hf")))
local macro_rules|`(tactic| walk_at "sm") => `(tactic| first|exact L2.ah.refl _|assumption|((refine L2.ah.trans ?_ (by assumption));walk_at "sm"))
local macro_rules|`(tactic| walk_at "side") => `(tactic| first|(show (0 : Int)<_;first|decide|lia)|exact⟨by decide, by decide⟩|exact⟨by lia, by lia⟩|exact Or.inl ⟨by decide, by decide⟩|exact Or.inr ⟨by decide, by decide⟩|exact Or.inr ⟨by lia, by lia⟩|exact Or.inl ⟨by lia, by lia⟩|exact⟨by decide, by decide, by decide⟩|assumption)
local macro_rules|`(tactic| walk_at "p") => `(tactic| first
 | (with_reducible refine L2.Oj ?_)|(with_reducible refine L2.Ol ?_)|(with_reducible refine L2.GX ?_)|(with_reducible refine L2.Om ?_)|(with_reducible refine L2.Lc ?_)|(with_reducible refine L2.Ld ?_)
 | ((with_reducible apply L2.Oq);(exact rfl))|(with_reducible refine L2.WS ?_)|(with_reducible refine L2.RU ?_)|(with_reducible refine L2.RV ?_)|(with_reducible refine L2.WT ?_)|(with_reducible refine L2.Le ?_)|(with_reducible refine L2.Lf ?_)
 | (with_reducible refine L2.Ot ?_)|(with_reducible refine L2.RW ?_)|(with_reducible refine L2.Ou ?_)|(with_reducible refine L2.Lg ?_)|(with_reducible refine L2.Ov ?_)|(with_reducible refine L2.Lh ?_)|(with_reducible refine L2.Ow ?_)
 | (with_reducible refine L2.RX ?_)|((with_reducible refine L2.RY ?_ ?_);(walk_at "side"))|(with_reducible refine L2.WU ?_)|(with_reducible refine L2.Oy ?_)|(with_reducible refine L2.Oz ?_)|(with_reducible refine L2.OA ?_)|(with_reducible refine L2.Li ?_)|(with_reducible refine L2.OB ?_)|(with_reducible refine L2.OC ?_)|((with_reducible refine L2.Lj ?_ ?_);(first|exact Zw rfl|(focus (simp;done))|(focus (simp;lia)));intro p_ H_ s_ m_)|((with_reducible refine L2.Lk ?_ ?_);(first|exact Zw rfl|(focus (simp;done))|(focus (simp;lia)));intro p_ H_ n_ s_ m_)
 | (with_reducible refine L2.RZ ?_)|(with_reducible refine L2.G6 ?_)|(with_reducible refine L2.Ll ?_)|(with_reducible refine L2.R0 ?_)|(with_reducible refine L2.Ei ?_)|(with_reducible refine L2.Lm ?_)|(with_reducible refine L2.GY ?_)|(with_reducible refine L2.R1 ?_)|(with_reducible refine L2.OD ?_)
 | (with_reducible refine L2.OE ?_)|(with_reducible refine L2.GZ ?_)|(with_reducible refine L2.Ln ?_)|(with_reducible refine L2.Lo ?_)|(with_reducible refine L2.Lp ?_)
 | ((with_reducible apply L2.OF);(walk_at "hf"))|((with_reducible apply L2.OG);(walk_at "hf"))|((with_reducible refine L2.OH ?_ ?_ ?_);(first|decide|lia);(first|decide|lia))|((with_reducible apply L2.OI);(walk_at "hf");(walk_at "hf"))
 | ((with_reducible apply L2.Lq);(walk_at "hf"))|((with_reducible apply L2.Lr);(walk_at "hf"))
 | ((with_reducible apply L2.oV);(walk_at "hf");intro p_ H_ s_ m_)|((with_reducible apply L2.G4);(walk_at "hf");intro p_ H_ n_ s_ m_)|(with_reducible refine L2.OJ ?_)|(with_reducible refine L2.OK ?_)|(with_reducible refine L2.OL ?_)|((with_reducible apply L2.Lu);(walk_at "hf");(first|exact L2.jY _ _|exact rfl))|((with_reducible apply L2.Lv);(walk_at "hf");(first|exact L2.jY _ _|exact rfl))|((with_reducible apply L2.Lw);(first|exact L2.jY _ _|exact rfl))|((with_reducible apply L2.Lx);(first|exact L2.jY _ _|exact rfl))
 | ((with_reducible refine L2.Ej ?_ ?_);(first|exact rfl|exact Or.inl ⟨rfl,_,by walk_at "hf"⟩))|((with_reducible refine L2.G5 ?_ ?_);(first|exact rfl|exact Or.inl ⟨rfl,_,by walk_at "hf"⟩))
 | ((with_reducible apply L2.OM);(walk_at "hf");(walk_at "hf");(first|exact Zw rfl|(focus (simp;done))|(focus (simp;lia)));intro p_ H_ n_ s_ m_)
 | ((with_reducible apply L2.LA);(walk_at "hf");intro p_ H_ s_ m_)
 | ((with_reducible apply L2.Ls);(walk_at "hf");(walk_at "hf");(exact cons_ne_nil _ _);(exact cons_ne_nil _ _);(first|exact Zw rfl|(focus (simp;done))|(focus (simp;lia)));intro p_ H_ s_ m_)
 | (with_reducible refine L2.Hg ?_)|((with_reducible apply L2.LB);(walk_at "hf");(walk_at "hf");(walk_at "hf"))|((with_reducible apply L2.LH);(exact rfl))|((with_reducible apply L2.LI);(exact rfl))|(with_reducible refine L2.Hs ?_)|(with_reducible refine L2.Hv ?_)|(with_reducible refine L2.O8 ?_)|(with_reducible refine L2.O9 ?_)
 | (with_reducible refine L2.HR ?_)|((with_reducible apply L2.O5);(walk_at "hf")))
local macro_rules|`(tactic| walk_at "q") => `(tactic| first|(walk_at "p")|(with_reducible refine L2.Oo ?_))
local macro_rules|`(tactic| walk_at "x") => `(tactic| first|((with_reducible apply L2.ue);(walk_at "hf");(exact rfl))|((with_reducible apply L2.nq);(walk_at "hf");(exact rfl)))
local macro_rules|`(tactic| walk_at "r") => `(tactic| first|(walk_at "q")|(walk_at "x"))
local macro_rules|`(tactic| walk_at "v") => `(tactic| repeat walk_at "q")
local macro_rules|`(tactic| walk_at "j") => `(tactic| repeat (first|(walk_at "p")|(walk_at "x")))
local macro_rules|`(tactic| walk_at "sz") => `(tactic| first|exact L2.au (by lia)|decide|exact L2.au (by simp only [PySem.strLen_append];lia)|assumption)
local macro_rules|`(tactic| walk_at "p") => `(tactic| first|(with_reducible refine L2.LR ?_)|(with_reducible refine L2.Pf ?_)|(with_reducible refine L2.LU ?_)|(with_reducible refine L2.Ib ?_)|(with_reducible refine L2.LV ?_)|((with_reducible refine L2.zJ ?_ ?_);(walk_at "sz"))|((with_reducible refine L2.cL ?_ ?_);(walk_at "sz"))|((with_reducible refine L2.LS ?_ ?_);(walk_at "sz"))|((with_reducible refine L2.cD ?_ ?_);(walk_at "sz"))|(with_reducible refine L2.Ph ?_)|((with_reducible refine L2.Pg ?_ ?_);(walk_at "sz"))|(with_reducible refine L2.Ic ?_)|(with_reducible refine L2.LW ?_)|(with_reducible refine L2.Pk ?_)|(with_reducible refine L2.Pl ?_)|((with_reducible refine L2.Bm ?_ ?_);(walk_at "sz")))
local macro_rules|`(tactic| walk_at "p") => `(tactic| ((with_reducible apply IB);(walk_at "hf");(walk_at "hf");intro p_ H_ s_ m_))
local macro_rules|`(tactic| walk_at "p") => `(tactic| ((with_reducible apply Mc);(walk_at "hf");(walk_at "hf");intro p_ H_ s_ m_))
local macro_rules|`(tactic| walk_at "p") => `(tactic| ((with_reducible apply qD);(walk_at "hf");(first|decide|lia)))
local macro_rules|`(tactic| walk_at "w") => `(tactic| repeat walk_at "r")
section
variable {P:Program}{w:World}{K:Frag}{mg:Str->Option Value}{base:Heap}{G:jf}
theorem pO:az ["text","most"] ["text","most"] (ao fq):=⟨rfl,rfl,rfl,by decide +kernel,rfl,by decide +kernel,by decide +kernel⟩
theorem pP (D:Def K mg "is_counting" fq ["text","most"]) (T:Txt P w K mg G):Ok P w K mg base 1 "is_counting" ["text","most"] (c8 K):=by
 have S:=pO
 refine D.ok S (fun vs H Q E h=>?_) (fun f bO A outer s H vs Q E hr h=>?_)
 ·obtain ⟨_,_,rfl,_⟩:=h;rfl
 ·obtain ⟨z,m,rfl,hz,k⟩:=h
  have hu:=aS hr
  have ax:=T.ax
  have ai:=T.ai
  refine⟨_,(ag (bJ (PW.pt (tM (dE (Dx Du Du ae (aH ju rfl T.gv PySem.boot_len (aa (pv 0) af)) (pv 1))) (kM (aQ gB (aD fo (pv 0) ae (fun _ _=>rfl)) aN (aU _))))) (ak (aC gu)) aP) (ak (aC (aH (uS K rfl rfl) rfl T.BA boot_all (aa (bu (N:=["figure"]) (ix:=[none]) rfl (LP (pv 0)) (fun _ _ _ _ _=>(av (i:=0) (show jJ ["figure"] by decide +kernel) rfl (Or.inl rfl))) (fun _ _ _ _ _=>rfl) (fun _ _ _ _ _=>(iJ LQ (pv 0) aN (by with_unfolding_all rfl))) rfl (by decide +kernel) (by decide +kernel) rfl True.intro) af))))),?_⟩
  walk_at "w"
  by_cases h1:1<=z.length
  ·rw [if_pos (Zv (by lia))]
   walk_at "w"
   by_cases h2:z.length<=m
   ·rw [if_neg (by rw [Zv (show (z.length:Int)<=(m:Int) by lia)];decide)]
    walk_at "w"
    obtain ⟨c,hc⟩:=aJ.RR h1
    refine ka (au (by lia)) (cU (j:=0) (by rw [Array.getElem?_toList];exact hc)) ?_
    walk_at "w"
    rw [aJ.str0]
    by_cases h3:c=48
    ·rw [if_pos (Zv (by rw [h3]))]
     walk_at "w"
     rw [aJ.oO (by rw [hc,h3])] at k
     exact k _ (ah.refl _)
    ·rw [if_neg (by rw [Zu (fun e=>h3 (aJ.uL.mp e))];decide)]
     walk_at "w"
     refine ES _ (fun i=>V.bl (aJ.Ba ((z.cps[i]?).getD 0))) rfl hz (fun i d H' Qc hd s1 kc=>?_) (fun l H' hl s1 m1=>?_)
     ·walk_at "w"
      rw [aJ.Oa,aJ.B0]
      have:=kc _ (ah.refl _)
      rw [hd] at this
      exact this
     ·walk_at "w"
      refine Bh (bs:=(List.range z.cps.size).map fun i=>aJ.Ba ((z.cps[i]?).getD 0)) (bj.of (by rw [ZW];exact m1)) ?_
      rw [aJ.all_range,<- aJ.GS h1 h2 hc h3]
      exact k _ s1
   ·rw [if_pos (by rw [Zu (show ¬ (z.length:Int)<=(m:Int) by lia)];rfl)]
    walk_at "w"
    rw [aJ.D6 h2] at k
    exact k _ (ah.refl _)
  ·rw [if_neg (by rw [Zu (show ¬ (1:Int)<=z.length by lia)];decide)]
   walk_at "w"
   rw [aJ.t9 h1] at k
   exact k _ (ah.refl _)
theorem vv:az ["text","most"] ["text","most"] (ao gI):=⟨rfl,rfl,rfl,by decide +kernel,rfl,by decide +kernel,by decide +kernel⟩
structure vw(P:Program)(w:World)(K:Frag)(mg:Str->Option Value)(base:Heap)(G:jf):Prop where
 hJ:Ok P w K mg base 1 "is_counting" ["text","most"] (c8 K)
theorem vx (D:Def K mg "is_signed" gI ["text","most"]) (T:Txt P w K mg G) (O:vw P w K mg base G):Ok P w K mg base 2 "is_signed" ["text","most"] (gj K):=by
 have S:=vv
 refine D.ok S (fun vs H Q E h=>?_) (fun f bO A outer s H vs Q E hr h=>?_)
 ·obtain ⟨_,_,rfl,_⟩:=h;rfl
 ·obtain ⟨y,m,rfl,hy,k⟩:=h
  have hu:=aS hr
  have ax:=T.ax
  have ai:=T.ai
  refine⟨_,(ag (bJ (aQ gB (pv 0) aN (aU _)) (ak (aC gu)) aP) (ak (aC (aF O.hJ (hr.mono (by decide)) (aa (jP (cv (cP PySem.F.plainAttrs_str PySem.F.slot_str_startswith PySem.F.type_str_startswith Cm (pv 0) (aa aN af))) (gC uU (pv 0) (iK ae) n8) (pv 0)) (aa (pv 1) af)))))),?_⟩
  walk_at "w"
  rw [aJ.str0]
  by_cases h0:y=⟨#[48]⟩
  ·rw [if_pos (Zv h0)]
   walk_at "w"
   have e:aI.ub y m=some 0:=by unfold aI.ub;rw [if_pos h0]
   rw [e] at k
   exact k _ (ah.refl _)
  rw [if_neg (by rw [Zu h0];decide)]
  walk_at "w"
  refine EV ?_
  rw [aI.Ec]
  walk_at "w"
  by_cases h1:y.cps[0]?=some 45
  ·rw [if_pos (Zv h1)]
   walk_at "w"
   refine dA (Zm (PySem.Txt.slice_le y _ _) hy) fun H1 s1=>?_
   have es:PySem.Txt.slice y (some 1) none=⟨(y.cps.toList.drop 1).toArray⟩:=aI.Be y 0
   rw [es]
   have e:(aI.ub y m).isSome=aJ.cnt ⟨(y.cps.toList.drop 1).toArray⟩ m:=by
    unfold aI.ub
    rw [if_neg h0,if_pos h1]
    cases aJ.cnt ⟨(y.cps.toList.drop 1).toArray⟩ m <;> rfl
   rw [e] at k
   exact k _ s1
  ·rw [if_neg (by rw [Zu h1];decide)]
   walk_at "w"
   refine dA hy fun H1 s1=>?_
   have e:(aI.ub y m).isSome=aJ.cnt y m:=by
    unfold aI.ub
    rw [if_neg h0,if_neg h1]
    cases aJ.cnt y m <;> rfl
   rw [e] at k
   exact k _ s1
theorem qF:az ["text","most","parts"] ["text","most"] (ao fV):=⟨rfl,rfl,rfl,by decide +kernel,rfl,by decide +kernel,by decide +kernel⟩
structure qG(P:Program)(w:World)(K:Frag)(mg:Str->Option Value)(base:Heap)(G:jf):Prop where
 hJ:Ok P w K mg base 1 "is_counting" ["text","most"] (c8 K)
theorem qH (D:Def K mg "parts_read" fV ["text","most"]) (T:Txt P w K mg G) (O:qG P w K mg base G):Ok P w K mg base 2 "parts_read" ["text","most"] (fy K):=by
 have S:=qF
 refine D.ok S (fun vs H Q E h=>?_) (fun f bO A outer s H vs Q E hr h=>?_)
 ·obtain ⟨_,_,rfl,_⟩:=h;rfl
 ·obtain ⟨z,m,rfl,hz,hm,k1,k2⟩:=h
  have hu:=aS hr
  have ax:=T.ax
  have ai:=T.ai
  refine⟨_,(ag (aq (i:=2) S.nd rfl (Or.inl rfl) (cP PySem.F.plainAttrs_str PySem.F.slot_str_split PySem.F.type_str_split ER (pv 0) (aa aN af))) (ag (bJ (PW.pt (tM (aQ tO (aH (fU K rfl) rfl T.gv PySem.boot_len (aa (pv 2) af)) ae (aU _)) (kM (dE (cv (aH (uS K rfl rfl) rfl T.BA boot_all (aa (bu (N:=["part","most"]) (ix:=[none,some 1]) rfl (b8 K rfl (pv 2)) (fun _ _ _ _ _=>(av (i:=0) (show jJ ["part","most"] by decide +kernel) rfl (Or.inl rfl))) (fun _ _ _ _ _=>rfl) (fun _ _ _ _ _=>(aF O.hJ (hr.mono (by decide)) (aa (pv 0) (aa (pv 1) af)))) rfl (by decide +kernel) (by decide +kernel) rfl ⟨⟨rfl,Or.inr (Or.inl rfl),rfl,rfl⟩,True.intro⟩) af))))))) (ak (aC fR)) aP) (ak (aC (aR (aa (bt k8 rfl T.um boot_int (aa (aD (ay K rfl) (pv 2) ae (fun _ _=>rfl)) af)) (aa (bt k8 rfl T.um boot_int (aa (aD (ay K rfl) (pv 2) ae (fun _ _=>rfl)) af)) af))))))),?_⟩
  have MQ:=aJ.split_len z
  walk_at "w"
  refine Ia (by decide) (by lia) (by rw [aJ.K7];lia) fun p1 H1 n1 s1 m1=>?_
  rw [aJ.K7] at m1
  by_cases h2:(PySem.Txt.split z aJ.aA).length=2
  ·obtain ⟨a,b,Vt,la,lb⟩:=aJ.K8 h2
   rw [Vt] at m1
   have m1:H1 p1=some (.lst [.str a,.str b]):=m1
   have Md:=aJ.uM (m:=m) Vt
   walk_at "w"
   rw [if_neg (show ¬ (!decide ((([V.str a,V.str b].length:Nat):Int)=2))=true from Bool.noConfusion)]
   walk_at "w"
   refine pd _ (fun i=>V.bl (aJ.cnt (([a,b]:List Str).getD i a) m)) rfl (bj.of m1) (show 2<=1000000 by decide) (fun i x H' Qc hx s2 kc=>?_) (fun l H' hl s2 m2=>?_)
   ·have hi:i<2:=(Zi.mp hx).1
    match i,hi with
    | 0,_ =>
     cases hx
     walk_at "w"
     exact dA (by lia) fun H5 s5=>kc _ s5
    | 1,_ =>
     cases hx
     walk_at "w"
     exact dA (by lia) fun H5 s5=>kc _ s5
   ·have m2:H' l=some (.lst ([aJ.cnt a m,aJ.cnt b m].map V.bl)):=m2
    walk_at "w"
    refine Bh (bj.of m2) ?_
    rw [show [aJ.cnt a m,aJ.cnt b m].all id=(aJ.cnt a m && aJ.cnt b m) by simp]
    walk_at "w"
    by_cases hc:(aJ.cnt a m && aJ.cnt b m)=true
    ·rw [hc] at Md ⊢
     rw [if_pos rfl] at Md
     rw [Bool.and_eq_true] at hc
     have r1:=aJ.dW hc.1 hm
     have r2:=aJ.dW hc.2 hm
     have m3:=s2 _ _ m1
     rw [if_neg (show ¬ (!true)=true by decide)]
     walk_at "w"
     refine zI r1.1 (by lia) ?_
     walk_at "w"
     refine zI r2.1 (by lia) ?_
     walk_at "w"
     rename_i p4 H4 s4 m4
     exact k1 _ _ Md _ _ ((s1.trans s2).trans s4) m4
    ·rw [if_neg hc] at Md
     rw [Bool.not_eq_true] at hc
     rw [hc]
     rw [if_pos (show (!false)=true from rfl)]
     walk_at "w"
     exact k2 Md _ (s1.trans s2)
  ·have Md:=aJ.uN (m:=m) h2
   walk_at "w"
   rw [if_pos (by rw [ZI,Zu (by lia)];rfl)]
   walk_at "w"
   exact k2 Md _ s1
theorem qI:az ["numbers","found","number","other","left"] ["numbers"] (ao fW):=⟨rfl,rfl,rfl,by decide +kernel,rfl,by decide +kernel,by decide +kernel⟩
theorem qJ (D:Def K mg "divisor_of" fW ["numbers"]) (T:Txt P w K mg G):Ok P w K mg base 1 "divisor_of" ["numbers"] (fz K):=by
 have S:=qI
 refine D.ok S (fun vs H Q E h=>?_) (fun f bO A outer s H vs Q E hr h=>?_)
 ·obtain ⟨_,_,_,rfl,_⟩:=h;rfl
 ·obtain ⟨a,t,b,rfl,ha,k⟩:=h
  have hu:=aS hr
  have ax:=T.ax
  have ai:=T.ai
  refine⟨_,(ag (aq (i:=1) S.nd rfl (Or.inl rfl) ae) (ag (cR PassesOwn.never rfl (j7 K rfl (pv 0)) (av (i:=2) S.nd rfl (Or.inl rfl)) (ag (aq (i:=3) S.nd rfl (Or.inl rfl) (aH kY rfl T.Fg boot_abs (aa (pv 2) af))) (ak (oy PassesOwn.never (aQ tO (pv 3) ae (aU _)) (ag (aq (i:=4) S.nd rfl (Or.inl rfl) (aj aV (pv 1) (pv 3))) (ag (aq (i:=1) S.nd rfl (Or.inl rfl) (pv 3)) (ak (aq (i:=3) S.nd rfl (Or.inl rfl) (pv 4))))))))) (ak (aC (pv 1))))),?_⟩
  walk_at "w"
  refine Lz ha (fun i σ=>∃ o1 o2 o3,σ=[some (.ref a),some (.int (gP t b i:Nat)),o1,o2,o3]) ⟨_,_,_,rfl⟩ (fun i x σ hx hp=>?_) (fun σ hp=>?_)
  ·obtain ⟨o1,o2,o3,rfl⟩:=hp
   have hi:i<2:=(Zi.mp hx).1
   obtain ⟨z,rfl,hz⟩:∃ z:Nat,x=.int z/\Nat.gcd (gP t b i) z=gP t b (i+1):=by
    match i,hi with
    | 0,_=>cases hx;exact⟨t,rfl,Nat.gcd_zero_left _⟩
    | 1,_=>cases hx;exact⟨b,rfl,rfl⟩
   have SG:¬ ((z:Int)<0):=by lia
   walk_at "w"
   rw [if_neg SG]
   refine uQ (fun m σ' H'=>∃ (f:Nat) (o:Option V),σ'=[some (.ref a),some (.int f),some (.int z),some (.int m),o]/\H'=H/\Nat.gcd f m=gP t b (i+1)) z ⟨_,_,rfl,rfl,hz⟩ (fun m σ' H' hw=>?_)
   obtain ⟨f,o,rfl,rfl,hg⟩:=hw
   walk_at "w"
   refine cu (fun hc=>?_) (fun hc=>?_)
   ·have hm:0<m:=by simp at hc;lia
    refine Ly ?_
    walk_at "w"
    refine⟨f % m,mod_lt _ hm,m,_,by rw [Int.natCast_emod] <;> rfl,rfl,?_⟩
    rw [oN]
    exact hg
   ·have hm:m=0:=by simp at hc;lia
    subst hm
    rw [Nat.gcd_zero_right] at hg
    subst hg
    exact⟨⟨_,_,_,rfl⟩,rfl⟩
  ·obtain ⟨o1,o2,o3,rfl⟩:=hp
   walk_at "w"
   exact k
theorem Cz:az ["top","bottom","divisor"] ["top","bottom"] (ao pj):=⟨rfl,rfl,rfl,by decide +kernel,rfl,by decide +kernel,by decide +kernel⟩
structure CA(P:Program)(w:World)(K:Frag)(mg:Str->Option Value)(base:Heap)(G:jf):Prop where
 zX:Ok P w K mg base 1 "divisor_of" ["numbers"] (fz K)
theorem CB (D:Def K mg "lowest" pj ["top","bottom"]) (T:Txt P w K mg G) (O:CA P w K mg base G):Ok P w K mg base 2 "lowest" ["top","bottom"] (i4 K):=by
 have S:=Cz
 refine D.ok S (fun vs H Q E h=>?_) (fun f bO A outer s H vs Q E hr h=>?_)
 ·obtain ⟨_,_,rfl,_⟩:=h;rfl
 ·obtain ⟨t,b,rfl,h0,h9,k⟩:=h
  have hu:=aS hr
  have ax:=T.ax
  have ai:=T.ai
  refine⟨_,(ag (aq (i:=2) S.nd rfl (Or.inl rfl) (aF O.zX (hr.mono (by decide)) (@aa _ _ _ _ _ (@aR _ _ _ _ _ (aa (pv 0) (aa (pv 1) af))) af (by rfl)))) (ak (aC (aR (aa (aj jX (pv 0) (pv 2)) (aa (aj jX (pv 1) (pv 2)) af)))))),?_⟩
  walk_at "w"
  rename_i p1 H1 s1 m1
  refine vm (aL.of m1) ?_
  have hg:0<Nat.gcd t b:=Nat.gcd_pos_of_pos_right _ h0
  have hl:=Pp hg (ZN (zM h0) h9)
  have Xj:(0:Int)<(Nat.gcd t b:Nat):=by lia
  walk_at "w"
  rename_i p2 H2 s2 m2
  refine k _ _ (s1.trans s2) ?_
  rw [m2,natCast_ediv,natCast_ediv]
theorem pQ:az ["text","parts"] ["text"] (ao ft):=⟨rfl,rfl,rfl,by decide +kernel,rfl,by decide +kernel,by decide +kernel⟩
structure pR(P:Program)(w:World)(K:Frag)(mg:Str->Option Value)(base:Heap)(G:jf):Prop where
 zY:Ok P w K mg base 2 "parts_read" ["text","most"] (fy K)
 zZ:Ok P w K mg base 2 "lowest" ["top","bottom"] (i4 K)
theorem pS (D:Def K mg "length_read" ft ["text"]) (T:Txt P w K mg G) (O:pR P w K mg base G):Df P w K mg base 3 "length_read" ["text"] (c9 K):=by
 have S:=pQ
 refine D.Sa S (fun vs H Q E h=>?_) (fun f bO A outer s H vs Q E hr h=>?_)
 ·obtain ⟨_,rfl,_⟩:=h;rfl
 ·obtain ⟨z,rfl,hz,k1,k2⟩:=h
  have hu:=aS hr
  have ax:=T.ax
  have ai:=T.ai
  refine⟨_,(ag (aq (i:=1) S.nd rfl (Or.inl rfl) (aF O.zY (hr.mono (by decide)) (aa (pv 0) (aa (bo (v:=V.int 4) rfl T.pH ⟨_,rfl⟩) af)))) (ag (bJ (aQ oz (pv 1) fR (aU _)) (ak (fL T.zS PySem.F.excBase_ValueError (by decide +kernel) PySem.F.excBase_ValueError rfl (fun _ _ z=>z) rfl rfl T.zQ (aa aN af))) aP) (ak (aC (aF O.zZ (hr.mono (by decide)) (aa (aD (ay K rfl) (pv 1) ae (fun _ _=>rfl)) (aa (aD (ay K rfl) (pv 1) ae (fun _ _=>rfl)) af))))))),?_⟩
  walk_at "w"
  refine vk ⟨hz,by decide⟩ ⟨fun t b ht p1 H1 s1 m1=>?_,fun hn H1 s1=>?_⟩
  ·have hb:=aJ.D9 (by decide) ht
   have h9:b<2 ^ 9000:=Nat.lt_trans hb.2.2.2 (by decide +kernel)
   walk_at "w"
   refine⟨rfl,?_⟩
   walk_at "w"
   rw [if_neg (show ¬ decide (V.ref p1=V.dj)=true by rw [Zu (fun h=>nomatch h)];decide)]
   walk_at "w"
   exact yb hb.2.2.1 h9 fun p2 H2 s2 m2=>k1 _ _ ht _ _ (s1.trans s2) m2
  ·walk_at "w"
   refine⟨rfl,?_⟩
   walk_at "w"
   rw [if_pos (by decide)]
   walk_at "w"
   exact⟨by decide,k2 hn _ _ T.zR s1⟩
theorem pU:az ["length","top","bottom"] ["length"] (ao fu):=⟨rfl,rfl,rfl,by decide +kernel,rfl,by decide +kernel,by decide +kernel⟩
theorem pV (D:Def K mg "length_text" fu ["length"]) (T:Txt P w K mg G):Ok P w K mg base 1 "length_text" ["length"] (da K):=by
 have S:=pU
 refine D.ok S (fun vs H Q E h=>?_) (fun f bO A outer s H vs Q E hr h=>?_)
 ·obtain ⟨_,_,_,rfl,_⟩:=h;rfl
 ·obtain ⟨a,t,b,rfl,ha,ht,hb,k⟩:=h
  have hu:=aS hr
  have ax:=T.ax
  have ai:=T.ai
  refine⟨_,(ag (aq (i:=1) S.nd rfl (Or.inl rfl) (aD (ay K rfl) (pv 0) ae (fun _ _=>rfl))) (ag (aq (i:=2) S.nd rfl (Or.inl rfl) (aD (ay K rfl) (pv 0) ae (fun _ _=>rfl))) (ak (aC (uV (dz (pe (pv 1)) (dz aN (dz (pe (pv 2)) zH)))))))),?_⟩
  have l1:=aJ.cj (n:=t) (m:=4) (by decide) (by lia)
  have l2:=aJ.cj (n:=b) (m:=4) (by decide) (by lia)
  walk_at "w"
  refine uW (aJ.ua (by lia)) ?_
  rw [show Str.ofString (toString ((t:Nat):Int))=aJ.txt t from rfl]
  refine cL (by rw [aJ.empty_app];exact au (by lia)) ?_
  rw [aJ.empty_app]
  walk_at "w"
  refine cL (by rw [aJ.K7];rw [PySem.strLen_append];exact au (by show _+1<=_;lia)) ?_
  walk_at "w"
  refine uW (aJ.ua (by lia)) ?_
  rw [show Str.ofString (toString ((b:Nat):Int))=aJ.txt b from rfl]
  have l3:(aJ.txt t++aJ.aA++aJ.txt b).length<=2000:=by
   rw [PySem.strLen_append,PySem.strLen_append];show _+1+_<=_;lia
  refine cL (au l3) ?_
  refine zJ (au l3) ?_
  exact k
theorem CC:az ["lengths","total","length"] ["lengths"] (ao pk):=⟨rfl,rfl,rfl,by decide +kernel,rfl,by decide +kernel,by decide +kernel⟩
structure CD(P:Program)(w:World)(K:Frag)(mg:Str->Option Value)(base:Heap)(G:jf):Prop where
 zZ:Ok P w K mg base 2 "lowest" ["top","bottom"] (i4 K)
theorem CF (D:Def K mg "summed" pk ["lengths"]) (T:Txt P w K mg G) (O:CD P w K mg base G):Ok P w K mg base 3 "summed" ["lengths"] (lC K):=by
 have S:=CC
 refine D.ok S (fun vs H Q E h=>?_) (fun f bO A outer s H vs Q E hr h=>?_)
 ·obtain ⟨_,_,_,rfl,_⟩:=h;rfl
 ·obtain ⟨l,xs,rs,rfl,hl,Vu,hg,hn,k⟩:=h
  have hu:=aS hr
  have ax:=T.ax
  have ai:=T.ai
  refine⟨_,(ag (aq (i:=1) S.nd rfl (Or.inl rfl) (aR (aa ae (aa ae af)))) (ag (cR PassesOwn.never rfl (b8 K rfl (pv 0)) (av (i:=2) S.nd rfl (Or.inl rfl)) (ak (aq (i:=1) S.nd rfl (Or.inl rfl) (aF O.zZ (hr.mono (by decide)) (aa (aj aK (aj jW (aD (ay K rfl) (pv 1) ae (fun _ _=>rfl)) (aD (ay K rfl) (pv 2) ae (fun _ _=>rfl))) (aj jW (aD (ay K rfl) (pv 2) ae (fun _ _=>rfl)) (aD (ay K rfl) (pv 1) ae (fun _ _=>rfl)))) (aa (aj jW (aD (ay K rfl) (pv 1) ae (fun _ _=>rfl)) (aD (ay K rfl) (pv 2) ae (fun _ _=>rfl))) af)))))) (ak (aC (pv 1))))),?_⟩
  walk_at "w"
  rename_i p1 H1 s1 m1
  refine EB (xs:=xs) (fun i σ H2=>∃ (o:Option V) (p:Addr) (n d:Nat),σ=[some (.ref l),some (.ref p),o]/\ah H H2/\H2 p=some (.tup [.int n,.int d])/\A8 (rs.take i) n d/\n<=2 ^ (15*i)/\d<=2 ^ (15*i)) ⟨_,p1,0,1,rfl,s1,m1,A8.nil,ZZ _,Zn _⟩ (fun i σ H2 hp=>by obtain ⟨o,p,n,d,rfl,s2,_⟩:=hp;exact s2.seq hl) (fun i x σ H2 hx hp=>?_) (fun σ H2 hp=>?_)
  ·obtain ⟨o,p,n,d,rfl,s2,m2,hL,bn,bd⟩:=hp
   obtain ⟨a,r,rfl,h2,h3⟩:=Vu.get hx
   obtain ⟨q,hq,rfl⟩:=Ip h3
   have g:=hg q (mem_of hq)
   have hi:i<60:=by have:=(Zi.mp hq).1;lia
   have ha:=s2.at h2
   have YK:aL K H2 a [.int (q.1:Nat),.int (q.2:Nat)]:=ha
   have SH:=D1 bn bd g.1.2 g.2.2
   have k1:je (n:Int) (q.2:Int):=L3 (L4 bn (by lia)) (u6 g.2.2) (by decide)
   have k2:je (q.1:Int) (d:Int):=L3 (u6 g.1.2) (L4 bd (by lia)) (by decide)
   have k3:je (d:Int) (q.2:Int):=L3 (L4 bd (by lia)) (u6 g.2.2) (by decide)
   walk_at "w"
   rw [<- Int.natCast_mul,<- Int.natCast_mul,<- Int.natCast_mul,<- Int.natCast_add]
   refine yb (mul_pos hL.1 g.2.1) (SA SH.2 (by lia)) fun p4 H4 s4 m4=>?_
   walk_at "w"
   refine⟨_,_,_,_,rfl,s2.trans s4,m4,?_,?_,?_⟩
   ·rw [take_snoc hq]
    exact hL.snoc g.2.1
   ·rw [D2];exact Zm (div_le_self _ _) SH.1
   ·rw [D2];exact Zm (div_le_self _ _) SH.2
  ·obtain ⟨o,p,n,d,rfl,s2,m2,hL,bn,bd⟩:=hp
   have hy:=Vu.length
   rw [ZI] at hy
   rw [<- hy] at bn bd hL
   rw [ZR] at hL
   walk_at "w"
   exact k _ _ n d s2 m2 hL bn bd
theorem yf:az ["thing"] ["thing"] (ao jw):=⟨rfl,rfl,rfl,by decide +kernel,rfl,by decide +kernel,by decide +kernel⟩
theorem yh (D:Def K mg "is_whole" jw ["thing"]) (T:Txt P w K mg G):Ok P w K mg base 1 "is_whole" ["thing"] (gV K):=by
 have S:=yf
 refine D.ok S (fun vs H Q E h=>?_) (fun f bO A outer s H vs Q E hr h=>?_)
 ·obtain ⟨_,rfl,_⟩:=h;rfl
 ·obtain ⟨v,rfl,hv,k⟩:=h
  have hu:=aS hr
  have ax:=T.ax
  have ai:=T.ai
  refine⟨_,(ak (aC (kO (aH (bP K rfl) rfl T.aZ boot_isinstance (aa (pv 0) (aa (cJ (v:=V.ty "int") rfl T.um boot_int rfl) af))) (kN (Dl (aH (bP K rfl) rfl T.aZ boot_isinstance (aa (pv 0) (aa (cJ (v:=V.ty "bool") rfl T.Fh boot_bool rfl) af)))))))),?_⟩
  rcases hv with ⟨i,rfl⟩|⟨b,rfl⟩|rfl|⟨s,rfl⟩|⟨a,xs,rfl,hs⟩|⟨a,xs,rfl,hs⟩
  ·walk_at "w"
   refine ja ?_
   walk_at "w"
   exact k
  ·walk_at "w"
   refine ja ?_
   walk_at "w"
   exact k
  all_goals
   walk_at "w"
   refine DR ?_
   walk_at "w"
   exact k
theorem CG:az ["thing"] ["thing"] (ao pC):=⟨rfl,rfl,rfl,by decide +kernel,rfl,by decide +kernel,by decide +kernel⟩
structure CH(P:Program)(w:World)(K:Frag)(mg:Str->Option Value)(base:Heap)(G:jf):Prop where
 Fs:Ok P w K mg base 1 "is_whole" ["thing"] (gV K)
theorem CI (D:Def K mg "is_row" pC ["thing"]) (T:Txt P w K mg G) (O:CH P w K mg base G):Ok P w K mg base 2 "is_row" ["thing"] (lD K):=by
 have S:=CG
 refine D.ok S (fun vs H Q E h=>?_) (fun f bO A outer s H vs Q E hr h=>?_)
 ·obtain ⟨_,rfl,_⟩:=h;rfl
 ·obtain ⟨v,rfl,h⟩:=h
  have hu:=aS hr
  have ax:=T.ax
  have ai:=T.ai
  refine⟨_,(ag (bJ (PW.pt (tM (dE (cv (aH (bP K rfl) rfl T.aZ boot_isinstance (aa (pv 0) (aa (cJ (v:=V.ty "tuple") rfl T.eZ boot_tuple rfl) af))))) (kM (aQ tO (aH (fU K rfl) rfl T.gv PySem.boot_len (aa (pv 0) af)) (aH (fU K rfl) rfl T.gv PySem.boot_len (aa (bo (v:=V.ref G.Ff) rfl T.Px rfl) af)) (aU _))))) (ak (aC gu)) aP) (ak (aC (aH (uS K rfl rfl) rfl T.BA boot_all (aa (bu (N:=["number"]) (ix:=[none]) rfl (j7 K rfl (pv 0)) (fun _ _ _ _ _=>(av (i:=0) (show jJ ["number"] by decide +kernel) rfl (Or.inl rfl))) (fun _ _ _ _ _=>rfl) (fun _ _ _ _ _=>(aF O.Fs (hr.mono (by decide)) (aa (pv 0) af))) rfl (by decide +kernel) (by decide +kernel) rfl True.intro) af))))),?_⟩
  rcases h with ⟨a,xs,rfl,hs,hl,hk,k⟩|⟨hv,k⟩
  ·walk_at "w"
   refine DR ?_
   walk_at "w"
   refine cu (fun h1=>?_) (fun h1=>?_)
   ·have ET:xs.length≠5:=fun z=>by rw [z] at h1;simp at h1
    walk_at "w"
    rw [Zu ET] at k
    exact k _ (ah.refl _)
   have ET:xs.length=5:=by simp at h1;lia
   walk_at "w"
   refine zF (fun x=>.bl (wh x)) [] rfl hs hl (fun x H' Qc hx s kc=>?_) (fun l H1 yY s1 m1=>?_)
   ·walk_at "w"
    refine zT ((hk x hx).same s) ?_
    walk_at "w"
    exact kc _ (ah.refl _)
   walk_at "w"
   refine Bh (bs:=xs.map wh) (bj.of (by rw [m1,ZW];rfl)) ?_
   walk_at "w"
   rw [Zv ET,Bool.true_and] at k
   have e:(xs.map wh).all id=xs.all wh:=by rw [all_map];rfl
   rw [e]
   exact k _ s1
  ·rcases hv with ⟨i,rfl⟩|rfl|⟨s,rfl⟩|⟨a,xs,rfl,hs⟩
   all_goals
    walk_at "w"
    refine ja ?_
    walk_at "w"
    exact k
theorem z0:az ["thing"] ["thing"] (ao ll):=⟨rfl,rfl,rfl,by decide +kernel,rfl,by decide +kernel,by decide +kernel⟩
structure z7(P:Program)(w:World)(K:Frag)(mg:Str->Option Value)(base:Heap)(G:jf):Prop where
 Me:Ok P w K mg base 2 "is_row" ["thing"] (lD K)
theorem z9 (D:Def K mg "is_tone" ll ["thing"]) (T:Txt P w K mg G) (O:z7 P w K mg base G):Ok P w K mg base 3 "is_tone" ["thing"] (jB K):=by
 have S:=z0
 refine D.ok S (fun vs H Q E h=>?_) (fun f bO A outer s H vs Q E hr h=>?_)
 ·obtain ⟨_,rfl,_⟩:=h;rfl
 ·obtain ⟨v,rfl,h⟩:=h
  have hu:=aS hr
  have ax:=T.ax
  have ai:=T.ai
  refine⟨_,(ag (bJ (dE (cv (aF O.Me (hr.mono (by decide)) (aa (pv 0) af)))) (ak (aC gu)) aP) (ak (aC (aH (uS K rfl rfl) rfl T.BA boot_all (aa (bu (N:=["number","bound"]) (ix:=[none,none]) rfl (d8 K rfl true true rfl T.nz (aa (pv 0) (aa (bo (v:=V.ref G.pE) rfl T.Fj rfl) af))) (fun _ _ _ _ _=>(bY (n:=2) K rfl rfl (aE (av (i:=0) (show jJ ["number","bound"] by decide +kernel) rfl (Or.inl rfl)) (aE (av (i:=1) (show jJ ["number","bound"] by decide +kernel) rfl (Or.inl rfl)) bX)))) (fun _ _ _ _ _=>rfl) (fun _ _ _ _ _=>(iJ Du (aH kY rfl T.Fg boot_abs (aa (pv 0) af)) (pv 1) (aU _))) rfl (by decide +kernel) (by decide +kernel) rfl True.intro) af))))),?_⟩
  rcases h with ⟨a,x0,x1,x2,x3,x4,rfl,hs,k⟩|⟨ho,k⟩
  ·walk_at "w"
   refine pK (.inl ⟨a,_,rfl,hs,(by show 5<=1000;decide),fun x hx=>?_,fun H1 s1=>?_⟩)
   ·simp only [ZL,not_mem_nil,or_false] at hx
    rcases hx with rfl|rfl|rfl|rfl|rfl <;> exact .inl ⟨_,rfl⟩
   walk_at "w"
   refine DR ?_
   walk_at "w"
   refine oJ (k1:=true) (k2:=true) [] (fun i=>.bl (decide ((if ([x0,x1,x2,x3,x4]:List Int).getD i 0<0 then -([x0,x1,x2,x3,x4]:List Int).getD i 0 else ([x0,x1,x2,x3,x4]:List Int).getD i 0)<=([700,60,60,60,60]:List Int).getD i 0))) rfl (by walk_at "hf") (by walk_at "hf") (by rfl) (by show 5<=1000000;decide) (fun i x y H' Qc ex ey hs kc=>?_) (fun l H2 hl s2 m2=>?_)
   ·have hi:i<5:=(Zi.mp ex).1
    match i,hi with
    | 0,_|1,_|2,_|3,_|4,_ =>
     cases ex
     cases ey
     walk_at "w"
     exact kc _ (ah.refl _)
   walk_at "w"
   refine Bh (bs:=[decide ((if x0<0 then -x0 else x0)<=700),decide ((if x1<0 then -x1 else x1)<=60),decide ((if x2<0 then -x2 else x2)<=60),decide ((if x3<0 then -x3 else x3)<=60),decide ((if x4<0 then -x4 else x4)<=60)]) (bj.of m2) ?_
   walk_at "w"
   exact k _ (by walk_at "sm")
  ·rcases ho with ⟨a,xs,rfl,hs,hl,hk,hf⟩|hn
   ·walk_at "w"
    refine pK (.inl ⟨a,xs,rfl,hs,hl,hk,fun H1 s1=>?_⟩)
    rw [hf]
    walk_at "w"
    refine ja ?_
    walk_at "w"
    exact k _ s1
   ·walk_at "w"
    refine pK (.inr ⟨hn,?_⟩)
    walk_at "w"
    refine ja ?_
    walk_at "w"
    exact k _ (ah.refl _)
theorem Aa:az ["row"] ["row"] (ao lq):=⟨rfl,rfl,rfl,by decide +kernel,rfl,by decide +kernel,by decide +kernel⟩
structure Ab(P:Program)(w:World)(K:Frag)(mg:Str->Option Value)(base:Heap)(G:jf):Prop where
 ID:Ok P w K mg base 3 "is_tone" ["thing"] (jB K)
theorem Ac (D:Def K mg "tone_of" lq ["row"]) (T:Txt P w K mg G) (O:Ab P w K mg base G):Df P w K mg base 4 "tone_of" ["row"] (jC K):=by
 have S:=Aa
 refine D.Sa S (fun vs H Q E h=>?_) (fun f bO A outer s H vs Q E hr h=>?_)
 ·obtain ⟨_,_,_,_,_,_,rfl,_⟩:=h;rfl
 ·obtain ⟨a,x0,x1,x2,x3,x4,rfl,ha,ke,kq⟩:=h
  have hu:=aS hr
  have ax:=T.ax
  have ai:=T.ai
  refine⟨_,(ag (bJ (dE (cv (aF O.ID (hr.mono (by decide)) (aa (pv 0) af)))) (ak (fL T.Fp PySem.F.excBase_ValueError (by decide +kernel) PySem.F.excBase_ValueError rfl (fun _ _ z=>z) rfl rfl T.Fm (aa aN af))) aP) (ak (aC (pv 0)))),?_⟩
  walk_at "w"
  refine zU (by walk_at "hf") fun H1 s1=>?_
  walk_at "w"
  refine cu (fun h1=>?_) (fun h1=>?_)
  ·walk_at "w"
   exact⟨by decide,ke (by simpa using h1) _ _ T.Fo (by walk_at "sm")⟩
  walk_at "w"
  exact kq (by simpa using h1) _ (by walk_at "sm")
theorem Ft:az ["one","other"] ["one","other"] (ao uY):=⟨rfl,rfl,rfl,by decide +kernel,rfl,by decide +kernel,by decide +kernel⟩
theorem Fu (D:Def K mg "times" uY ["one","other"]) (T:Txt P w K mg G):Ok P w K mg base 1 "times" ["one","other"] (pI K):=by
 have S:=Ft
 refine D.ok S (fun vs H Q E h=>?_) (fun f bO A outer s H vs Q E hr h=>?_)
 ·obtain ⟨_,_,_,_,_,_,_,_,_,_,_,_,rfl,_⟩:=h;rfl
 ·obtain ⟨a,b,a0,a1,a2,a3,a4,b0,b1,b2,b3,b4,rfl,ha,hb,k⟩:=h
  have hu:=aS hr
  have ax:=T.ax
  have ai:=T.ai
  refine⟨_,(ak (aC (bt (gG K rfl) rfl T.eZ boot_tuple (aa (bu (N:=["number","added"]) (ix:=[none,none]) rfl (d8 K rfl true true rfl T.nz (aa (pv 0) (aa (pv 1) af))) (fun _ _ _ _ _=>(bY (n:=2) K rfl rfl (aE (av (i:=0) (show jJ ["number","added"] by decide +kernel) rfl (Or.inl rfl)) (aE (av (i:=1) (show jJ ["number","added"] by decide +kernel) rfl (Or.inl rfl)) bX)))) (fun _ _ _ _ _=>rfl) (fun _ _ _ _ _=>(aj aK (pv 0) (pv 1))) rfl (by decide +kernel) (by decide +kernel) rfl True.intro) af)))),?_⟩
  refine⟨_,rfl,_,rfl,a,b,rfl,⟨_,ha⟩,⟨_,hb⟩,oK (r:=[a0,a1,a2,a3,a4]) (q:=[b0,b1,b2,b3,b4]) (·+·) rfl ha hb rfl (by show 5<=1000;decide) fun l H' hl hs dB=>?_⟩
  exact oV (bj.of dB) fun p H2 s2 m=>k p H2 (hs.trans s2) m
theorem IE:az ["one","other"] ["one","other"] (ao zL):=⟨rfl,rfl,rfl,by decide +kernel,rfl,by decide +kernel,by decide +kernel⟩
theorem IF (D:Def K mg "over" zL ["one","other"]) (T:Txt P w K mg G):Ok P w K mg base 1 "over" ["one","other"] (vj K):=by
 have S:=IE
 refine D.ok S (fun vs H Q E h=>?_) (fun f bO A outer s H vs Q E hr h=>?_)
 ·obtain ⟨_,_,_,_,_,_,_,_,_,_,_,_,rfl,_⟩:=h;rfl
 ·obtain ⟨a,b,a0,a1,a2,a3,a4,b0,b1,b2,b3,b4,rfl,ha,hb,k⟩:=h
  have hu:=aS hr
  have ax:=T.ax
  have ai:=T.ai
  refine⟨_,(ak (aC (bt (gG K rfl) rfl T.eZ boot_tuple (aa (bu (N:=["number","taken"]) (ix:=[none,none]) rfl (d8 K rfl true true rfl T.nz (aa (pv 0) (aa (pv 1) af))) (fun _ _ _ _ _=>(bY (n:=2) K rfl rfl (aE (av (i:=0) (show jJ ["number","taken"] by decide +kernel) rfl (Or.inl rfl)) (aE (av (i:=1) (show jJ ["number","taken"] by decide +kernel) rfl (Or.inl rfl)) bX)))) (fun _ _ _ _ _=>rfl) (fun _ _ _ _ _=>(aj bp (pv 0) (pv 1))) rfl (by decide +kernel) (by decide +kernel) rfl True.intro) af)))),?_⟩
  refine⟨_,rfl,_,rfl,a,b,rfl,⟨_,ha⟩,⟨_,hb⟩,oK (r:=[a0,a1,a2,a3,a4]) (q:=[b0,b1,b2,b3,b4]) (· - ·) rfl ha hb rfl (by show 5<=1000;decide) fun l H' hl hs dB=>?_⟩
  exact oV (bj.of dB) fun p H2 s2 m=>k p H2 (hs.trans s2) m
theorem Fv:az ["row","n"] ["row","n"] (ao uZ):=⟨rfl,rfl,rfl,by decide +kernel,rfl,by decide +kernel,by decide +kernel⟩
theorem Fw (D:Def K mg "power" uZ ["row","n"]) (T:Txt P w K mg G):Ok P w K mg base 1 "power" ["row","n"] (ku K):=by
 have S:=Fv
 refine D.ok S (fun vs H Q E h=>?_) (fun f bO A outer s H vs Q E hr h=>?_)
 ·obtain ⟨_,_,_,_,_,_,_,rfl,_⟩:=h;rfl
 ·obtain ⟨a,x0,x1,x2,x3,x4,n,rfl,ha,hb,k⟩:=h
  have hu:=aS hr
  have ax:=T.ax
  have ai:=T.ai
  refine⟨_,(ak (aC (bt (gG K rfl) rfl T.eZ boot_tuple (aa (bu (N:=["number","n"]) (ix:=[none,some 1]) rfl (j7 K rfl (pv 0)) (fun _ _ _ _ _=>(av (i:=0) (show jJ ["number","n"] by decide +kernel) rfl (Or.inl rfl))) (fun _ _ _ _ _=>rfl) (fun _ _ _ _ _=>(aj jW (pv 0) (pv 1))) rfl (by decide +kernel) (by decide +kernel) rfl ⟨⟨rfl,Or.inr (Or.inl rfl),rfl,rfl⟩,True.intro⟩) af)))),?_⟩
  walk_at "w"
  refine BY (r:=[x0,x1,x2,x3,x4]) (fun x=>.int (x*n)) [some (.int n)] rfl ha (by show 5<=1000;decide) (fun x H' Qc hx s kc=>?_) (fun l H2 hl s2 m2=>?_)
  ·walk_at "w"
   refine RY (Pq (hb.1 x hx) hb.2) ?_
   exact kc _ (ah.refl _)
  walk_at "w"
  rename_i p3 H3 s3 m3
  exact k _ _ (s2.trans s3) m3
theorem qK:az ["text","start","sign","end"] ["text","start","sign"] (ao fX):=⟨rfl,rfl,rfl,by decide +kernel,rfl,by decide +kernel,by decide +kernel⟩
theorem qL (D:Def K mg "run_length" fX ["text","start","sign"]) (T:Txt P w K mg G):Ok P w K mg base 1 "run_length" ["text","start","sign"] (fA K):=by
 have S:=qK
 refine D.ok S (fun vs H Q E h=>?_) (fun f bO A outer s H vs Q E hr h=>?_)
 ·obtain ⟨_,_,_,rfl,_⟩:=h;rfl
 ·obtain ⟨z,st,c,rfl,hz,k⟩:=h
  have hu:=aS hr
  have ax:=T.ax
  have ai:=T.ai
  refine⟨_,(ag (aq (i:=3) S.nd rfl (Or.inl rfl) (pv 1)) (ag (oy PassesOwn.never (PW.pt (zf (aQ Dt (pv 3) (aH ju rfl T.gv PySem.boot_len (aa (pv 0) af)) (aU _)) (uv (aQ gB (aD fo (pv 0) (pv 3) (fun _ _=>rfl)) (pv 2) (aU _))))) (ak (aq (i:=3) S.nd rfl (Or.inl rfl) (aj aK (pv 3) ae)))) (ak (aC (aj bp (pv 3) (pv 1)))))),?_⟩
  have xi:z.cps.toList.length=z.length:=Array.length_toList
  have Xk:=aI.Bc (z.cps.toList.drop st) c
  have Xl:=aI.oa (z.cps.toList.drop st) c
  rw [length_drop] at Xl
  generalize aI.runs (z.cps.toList.drop st) c=R at *
  walk_at "w"
  refine join (fun σ' H'=>σ'=[some (.str z),some (.int st),some (.str ⟨#[c]⟩),some (.int ((st+R:Nat):Int))]/\H'=H) (fun nx Ad=>?_) (fun σ' H' hP=>?_)
  ·refine uQ (fun mm σ' H'=>H'=H/\∃ j:Nat,j<=R/\mm=R - j/\σ'=[some (.str z),some (.int st),some (.str ⟨#[c]⟩),some (.int ((st+j:Nat):Int))]) R ⟨rfl,0,ZZ _,rfl,rfl⟩ (fun mm σ' H' hw=>?_)
   obtain ⟨rfl,j,hj,rfl,rfl⟩:=hw
   have hd:=Xk j hj
   rw [getElem?_drop] at hd
   walk_at "w"
   by_cases jn:st+j<z.length
   ·rw [if_pos (Zv (by lia))]
    walk_at "w"
    obtain ⟨d,SI⟩:∃ d,z.cps.toList[st+j]?=some d:=⟨_,ZC (by lia)⟩
    refine ka (au (by lia)) (cU SI) ?_
    walk_at "w"
    by_cases hc:d=c
    ·subst hc
     have PB:=hd.mp SI
     rw [if_pos (Zv rfl)]
     refine Ly ?_
     walk_at "w"
     exact⟨R - (j+1),by lia,rfl,j+1,PB,rfl,by rw [show ((st+(j+1):Nat):Int)=((st+j:Nat):Int)+1 by lia] <;> rfl⟩
    ·rw [if_neg (by rw [Zu (fun e=>hc (aJ.uL.mp e))];decide)]
     have PB:j=R:=by
      apply Nat.le_antisymm hj
      apply Nat.not_lt.mp
      intro h
      have:=hd.mpr h
      rw [SI] at this
      exact hc (Zr this)
     subst PB
     exact Ad _ _ ⟨rfl,rfl⟩
   ·rw [if_neg (by rw [Zu (by lia)];decide)]
    have PB:j=R:=by
     apply Nat.le_antisymm hj
     apply Nat.not_lt.mp
     intro h
     have:=hd.mpr h
     rw [List.getElem?_eq_none (by lia)] at this
     cases this
    subst PB
    rw [if_neg (show ¬ false=true by decide)]
    exact Ad _ _ ⟨rfl,rfl⟩
  obtain ⟨rfl,rfl⟩:=hP
  walk_at "w"
  rw [show ((st+R:Nat):Int) - (st:Int)=(R:Int) by lia]
  exact k
theorem qM:az ["text","start","mark"] ["text","start","mark"] (ao fY):=⟨rfl,rfl,rfl,by decide +kernel,rfl,by decide +kernel,by decide +kernel⟩
structure qN(P:Program)(w:World)(K:Frag)(mg:Str->Option Value)(base:Heap)(G:jf):Prop where
 pW:Ok P w K mg base 1 "run_length" ["text","start","sign"] (fA K)
theorem qO (D:Def K mg "count_read" fY ["text","start","mark"]) (T:Txt P w K mg G) (O:qN P w K mg base G):Ok P w K mg base 2 "count_read" ["text","start","mark"] (fB K):=by
 have S:=qM
 refine D.ok S (fun vs H Q E h=>?_) (fun f bO A outer s H vs Q E hr h=>?_)
 ·obtain ⟨_,_,_,_,_,_,rfl,_⟩:=h;rfl
 ·obtain ⟨z,st,c,d,m,r,rfl,hz,hm,k⟩:=h
  have hu:=aS hr
  have ax:=T.ax
  have ai:=T.ai
  refine⟨_,(ak (aC (aj bp (aF O.pW (hr.mono (by decide)) (aa (pv 0) (aa (pv 1) (aa (aD (ay K rfl) (pv 2) ae (fun _ _=>rfl)) af)))) (aF O.pW (hr.mono (by decide)) (aa (pv 0) (aa (pv 1) (aa (aD (ay K rfl) (pv 2) ae (fun _ _=>rfl)) af))))))),?_⟩
  walk_at "w"
  refine kx hz ?_
  walk_at "w"
  refine kx hz ?_
  walk_at "w"
  exact k
theorem qP:az ["mark","count"] ["mark","count"] (ao fZ):=⟨rfl,rfl,rfl,by decide +kernel,rfl,by decide +kernel,by decide +kernel⟩
theorem qQ (D:Def K mg "count_text" fZ ["mark","count"]) (T:Txt P w K mg G):Ok P w K mg base 1 "count_text" ["mark","count"] (fC K):=by
 have S:=qP
 refine D.ok S (fun vs H Q E h=>?_) (fun f bO A outer s H vs Q E hr h=>?_)
 ·obtain ⟨_,_,_,_,_,rfl,_⟩:=h;rfl
 ·obtain ⟨m,c,d,r,n,rfl,hm,hn,k⟩:=h
  have hu:=aS hr
  have ax:=T.ax
  have ai:=T.ai
  refine⟨_,(ak (aC (jP (aQ tP (pv 1) ae (aU _)) (aj iP (aD (ay K rfl) (pv 0) ae (fun _ _=>rfl)) (pv 1)) (aj iP (aD (ay K rfl) (pv 0) ae (fun _ _=>rfl)) (cS cg (pv 1)))))),?_⟩
  walk_at "w"
  refine cu (fun h1=>?_) (fun h1=>?_)
  ·have ET:=Zs h1
   walk_at "w"
   refine lj hn ?_
   have e:jv c n.toNat=⟨(aI.seg c d n).toArray⟩:=aI.dN (by rw [aI.cx];unfold aI.seg jv;rw [show (-n).toNat=0 by lia];simp)
   rw [e]
   exact k
  ·have ET:=Zt h1
   walk_at "w"
   refine lj (by lia) ?_
   have e:jv d (-n).toNat=⟨(aI.seg c d n).toArray⟩:=aI.dN (by rw [aI.cx];unfold aI.seg jv;rw [show n.toNat=0 by lia];simp)
   rw [e]
   exact k
theorem pX:az ["text"] ["text"] (ao fv):=⟨rfl,rfl,rfl,by decide +kernel,rfl,by decide +kernel,by decide +kernel⟩
structure pY(P:Program)(w:World)(K:Frag)(mg:Str->Option Value)(base:Heap)(G:jf):Prop where
 CJ:Ok P w K mg base 2 "is_signed" ["text","most"] (gj K)
theorem pZ (D:Def K mg "octave_read" fv ["text"]) (T:Txt P w K mg G) (O:pY P w K mg base G):Df P w K mg base 3 "octave_read" ["text"] (eu K):=by
 have S:=pX
 refine D.Sa S (fun vs H Q E h=>?_) (fun f bO A outer s H vs Q E hr h=>?_)
 ·obtain ⟨_,rfl,_⟩:=h;rfl
 ·obtain ⟨y,rfl,hy,k1,k2⟩:=h
  have hu:=aS hr
  have ax:=T.ax
  have ai:=T.ai
  refine⟨_,(ag (bJ (dE (cv (aF O.CJ (hr.mono (by decide)) (aa (pv 0) (aa (bo (v:=V.int 4) rfl T.lA ⟨_,rfl⟩) af))))) (ak (fL T.kr PySem.F.excBase_ValueError (by decide +kernel) PySem.F.excBase_ValueError rfl (fun _ _ z=>z) rfl rfl T.ko (aa aN af))) aP) (ak (aC (bt k8 rfl T.um boot_int (aa (pv 0) af))))),?_⟩
  walk_at "w"
  refine ya hy fun H1 s1=>?_
  walk_at "w"
  cases ho:aI.ub y 4 with
  | none =>
   rw [if_pos (by rfl)]
   walk_at "w"
   exact⟨by decide,k1 ho _ _ T.gT s1⟩
  | some o =>
   rw [if_neg (show ¬ (!(some o).isSome)=true from Bool.noConfusion)]
   walk_at "w"
   have h:=aI.GV (by decide) ho
   exact zI h.1 (by lia) (k2 o ho _ s1)
theorem Fx:az ["text","row","place","mark","count"] ["text"] (ao u5):=⟨rfl,rfl,rfl,by decide +kernel,rfl,by decide +kernel,by decide +kernel⟩
structure Fy(P:Program)(w:World)(K:Frag)(mg:Str->Option Value)(base:Heap)(G:jf):Prop where
 IG:Df P w K mg base 4 "tone_of" ["row"] (jC K)
 times:Ok P w K mg base 1 "times" ["one","other"] (pI K)
 power:Ok P w K mg base 1 "power" ["row","n"] (ku K)
 Ae:Ok P w K mg base 2 "count_read" ["text","start","mark"] (fB K)
 yj:Df P w K mg base 3 "octave_read" ["text"] (eu K)
theorem Fz (D:Def K mg "named" u5 ["text"]) (T:Txt P w K mg G) (O:Fy P w K mg base G):Df P w K mg base 5 "named" ["text"] (pJ K):=by
 have S:=Fx
 refine D.Xc S (fun vs H Q E h=>?_) (fun f bO A outer s H vs Q E hr h=>?_)
 ·obtain ⟨_,rfl,_⟩:=h;rfl
 ·obtain ⟨z,rfl,hz,k1,k2,k3⟩:=h
  have hu:=aS hr
  have ax:=T.ax
  have ai:=T.ai
  have bx:=T.bx
  have bz:=T.bz
  have bA:=T.bA
  have bB:=T.bB
  have bC:=T.bC
  have bD:=T.bD
  have bE:=T.bE
  have dP:=T.dP
  have b9:=T.b9
  have bU:=T.bU
  have bQ:=T.bQ
  have bF:=T.bF
  have bR:=T.bR
  have bG:=T.bG
  have bS:=T.bS
  have bH:=T.bH
  refine⟨_,(ag (bJ (aQ tP (aH ju rfl T.gv PySem.boot_len (aa (pv 0) af)) (bo (v:=V.int 300) rfl T.Cu ⟨_,rfl⟩) (aU _)) (ak (fL T.kr PySem.F.excBase_ValueError (by decide +kernel) PySem.F.excBase_ValueError rfl (fun _ _ z=>.inl z) rfl rfl T.ko (aa aN af))) aP) (ag (bJ (aQ (Ck T.i0) (gC uU (pv 0) n8 (iK ae)) (bo (v:=V.ref G.dZ) rfl T.iZ rfl) (by with_unfolding_all rfl)) (ak (fL T.kr PySem.F.excBase_ValueError (by decide +kernel) PySem.F.excBase_ValueError rfl (fun _ _ z=>.inl z) rfl rfl T.ko (aa aN af))) aP) (ag (aq (i:=1) S.nd rfl (Or.inl rfl) (aD (xX T.i0) (bo (v:=V.ref G.dZ) rfl T.iZ rfl) (aD fo (pv 0) ae (fun _ _=>rfl)) (fun _ _=>rfl))) (ag (aq (i:=2) S.nd rfl (Or.inl rfl) ae) (ag (cR (Cf rfl rfl rfl) rfl (j7 K rfl (bo (v:=V.ref G.iS) rfl T.ou rfl)) (av (i:=3) S.nd rfl (Or.inl rfl)) (ag (aq (i:=4) S.nd rfl (Or.inl rfl) (aF O.Ae (hr.mono (by decide)) (aa (pv 0) (aa (pv 2) (aa (pv 3) af))))) (ag (aq (i:=1) S.nd rfl (Or.inl rfl) (aF O.times (hr.mono (by decide)) (aa (pv 1) (aa (aF O.power (hr.mono (by decide)) (aa (aD (ay K rfl) (pv 3) ae (fun _ _=>rfl)) (aa (pv 4) af))) af)))) (ak (aq (i:=2) S.nd rfl (Or.inl rfl) (aj aK (pv 2) (aH kY rfl T.Fg boot_abs (aa (pv 4) af)))))))) (ag (bJ (aQ tO (gC uU (pv 0) (iK (pv 2)) (iK (aj aK (pv 2) ae))) aN (aU _)) (ak (fL T.kr PySem.F.excBase_ValueError (by decide +kernel) PySem.F.excBase_ValueError rfl (fun _ _ z=>.inl z) rfl rfl T.ko (aa aN af))) aP) (ak (aC (oZ O.IG (hr.mono (by decide)) (fun _ _ z=>.inl z) rfl (aa (aF O.times (hr.mono (by decide)) (@aa _ _ _ _ _ (pv 1) (@aa _ _ _ _ _ (@aR _ _ _ _ _ (aa (oZ O.yj (hr.mono (by decide)) (fun _ _ z=>.inl z) rfl (aa (gC uU (pv 0) (iK (aj aK (pv 2) ae)) n8) af)) (aa ae (aa ae (aa ae (aa ae af)))))) af (by rfl)) (by rfl))) af)))))))))),?_⟩
  have xi:z.cps.toList.length=z.length:=Array.length_toList
  walk_at "w"
  refine cu (fun h1=>?_) (fun h1=>?_)
  ·walk_at "w"
   have ET:=Zs h1
   refine⟨by decide,k1 ?_ _ _ T.gT (ah.refl _)⟩
   unfold aI.y6
   rw [if_pos (by lia)]
  have ET:=Zt h1
  have h3:¬ 300<z.length:=by lia
  walk_at "w"
  refine EU ?_
  match BN:z.cps.toList with
  | [] =>
   have e1:PySem.Txt.slice z none (some 1)=PySem.Str.ofString "":=aI.dN ((aI.Ed (z:=z) (j:=1)).trans (by rw [BN];rfl))
   rw [e1,E4]
   walk_at "w"
   rw [if_pos (by rfl)]
   walk_at "w"
   refine⟨by decide,k1 ?_ _ _ T.gT (ah.refl _)⟩
   unfold aI.y6
   rw [if_neg h3,BN]
  | c::tl =>
  rw [aI.Ee BN,c5]
  match qR:aI.qu c with
  | none =>
   rw [Co qR]
   walk_at "w"
   rw [if_pos (by rfl)]
   walk_at "w"
   refine⟨by decide,k1 ?_ _ _ T.gT (ah.refl _)⟩
   unfold aI.y6
   rw [if_neg h3,BN]
   show (match aI.qu c with|none=>none|some r0=>_)=none
   rw [qR]
  | some r0 =>
  obtain ⟨A,x0,x1,x2,x3,x4,rfl,hA,qA⟩:∃ (A:Addr) (x0 x1 x2 x3 x4:Int),r0=[x0,x1,x2,x3,x4]/\uj G.eO G.eP G.eQ G.eR G.eS G.eU G.eV c=some (.ref A)/\b7 K A [.int x0,.int x1,.int x2,.int x3,.int x4]:=by
   unfold aI.qu at qR
   unfold uj
   split at qR
   ·cases qR;rw [if_pos (by assumption)];exact⟨_,_,_,_,_,_,rfl,rfl,bx⟩
   split at qR
   ·cases qR;rw [if_neg (by assumption),if_pos (by assumption)];exact⟨_,_,_,_,_,_,rfl,rfl,bz⟩
   split at qR
   ·cases qR;rw [if_neg (by assumption),if_neg (by assumption),if_pos (by assumption)];exact⟨_,_,_,_,_,_,rfl,rfl,bA⟩
   split at qR
   ·cases qR;rw [if_neg (by assumption),if_neg (by assumption),if_neg (by assumption),if_pos (by assumption)];exact⟨_,_,_,_,_,_,rfl,rfl,bB⟩
   split at qR
   ·cases qR;rw [if_neg (by assumption),if_neg (by assumption),if_neg (by assumption),if_neg (by assumption),if_pos (by assumption)];exact⟨_,_,_,_,_,_,rfl,rfl,bC⟩
   split at qR
   ·cases qR;rw [if_neg (by assumption),if_neg (by assumption),if_neg (by assumption),if_neg (by assumption),if_neg (by assumption),if_pos (by assumption)];exact⟨_,_,_,_,_,_,rfl,rfl,bD⟩
   split at qR
   ·cases qR;rw [if_neg (by assumption),if_neg (by assumption),if_neg (by assumption),if_neg (by assumption),if_neg (by assumption),if_neg (by assumption),if_pos (by assumption)];exact⟨_,_,_,_,_,_,rfl,rfl,bE⟩
   ·cases qR
  rw [hA]
  walk_at "w"
  rw [if_neg (show ¬ (!(some (V.ref A)).isSome)=true from Bool.noConfusion)]
  walk_at "w"
  refine ka (au (by lia)) (cU (j:=0) (by rw [BN];rfl)) ?_
  refine JT ((c5 c).trans hA) ?_
  walk_at "w"
  refine JG (K:=K) (xs:=[V.ref G.iT,V.ref G.iU,V.ref G.iV,V.ref G.iW]) (fun i σ H2=>∃ (o1 o2:Option V) (p:Addr) (pl:Nat) (r0 r1 r2 r3 r4:Int),σ=[some (.str z),some (.ref p),some (.int (pl:Int)),o1,o2]/\ah H H2/\aL K H2 p [.int r0,.int r1,.int r2,.int r3,.int r4]/\(aI.marks.take i).foldl (aI.xK z.cps.toList) (1,[x0,x1,x2,x3,x4])=(pl,[r0,r1,r2,r3,r4])) ⟨_,_,A,1,x0,x1,x2,x3,x4,rfl,ah.refl _,qA.at,rfl⟩ (fun _ _ _ _ _=>dP.at) (fun i x σ H2 hx hp=>?_) (fun σ H2 hp=>?_)
  ·obtain ⟨o1,o2,p,pl,r0,r1,r2,r3,r4,rfl,s2,Ge,FA⟩:=hp
   have hi:i<4:=(Zi.mp hx).1
   obtain ⟨mA,c1,d1,rA,m0,m1,m2,m3,m4,rfl,QB,QC,Xm,SJ⟩:∃ (mA:Addr) (c1 d1:Nat) (rA:Addr) (m0 m1 m2 m3 m4:Int),x=.ref mA/\b7 K mA [.str ⟨#[c1]⟩,.str ⟨#[d1]⟩,.ref rA]/\b7 K rA [.int m0,.int m1,.int m2,.int m3,.int m4]/\aI.marks[i]?=some (c1,d1,[m0,m1,m2,m3,m4])/\∀ y∈[m0,m1,m2,m3,m4],-1000<=y/\y<=1000:=by
    rw [aI.Jw,aI.Jx] at b9
    rw [aI.Jy,aI.Jz] at bQ
    rw [aI.JA,aI.JB] at bR
    rw [aI.JC,aI.Eg] at bS
    match i,hi with
    | 0,_=>cases hx;exact⟨_,35,98,_,_,_,_,_,_,rfl,b9,bU,rfl,by decide⟩
    | 1,_=>cases hx;exact⟨_,43,45,_,_,_,_,_,_,rfl,bQ,bF,rfl,by decide⟩
    | 2,_=>cases hx;exact⟨_,62,60,_,_,_,_,_,_,rfl,bR,bG,rfl,by decide⟩
    | 3,_=>cases hx;exact⟨_,94,118,_,_,_,_,_,_,rfl,bS,bH,rfl,by decide⟩
   have xy:(aI.marks.take (i+1)).foldl (aI.xK z.cps.toList) (1,[x0,x1,x2,x3,x4])=aI.xK z.cps.toList (pl,[r0,r1,r2,r3,r4]) (c1,d1,[m0,m1,m2,m3,m4]):=by
    rw [take_succ,Xm,List.foldl_append,FA];rfl
   have Xn:=aI.oa (z.cps.toList.drop pl) c1
   have Xo:=aI.oa (z.cps.toList.drop pl) d1
   rw [length_drop] at Xn Xo
   clear dP b9 bQ bR bS bU bF bG bH bx bz bA bB bC bD bE
   have qm:=QB.at (H:=H2)
   walk_at "w"
   refine vo hz qm ?_
   obtain ⟨kc,Vv⟩:∃ kc:Int,(aI.runs (z.cps.toList.drop pl) c1:Int) - aI.runs (z.cps.toList.drop pl) d1=kc:=⟨_,rfl⟩
   have SK:(aI.marks.take (i+1)).foldl (aI.xK z.cps.toList) (1,[x0,x1,x2,x3,x4])=(pl+kc.natAbs,List.zipWith (·+·) [r0,r1,r2,r3,r4] ([m0,m1,m2,m3,m4].map (·*kc))):=by rw [xy,<- Vv];rfl
   rw [Vv]
   walk_at "w"
   refine vn QC.at ⟨SJ,by lia⟩ fun p3 H3 s3 SM=>?_
   have Mf:=s3.at Ge
   walk_at "w"
   rename_i p4 H4 s4 PC
   exact⟨_,_,p4,pl+kc.natAbs,_,_,_,_,_,by rw [show ((pl+kc.natAbs:Nat):Int)=(pl:Int)+(if kc<0 then -kc else kc) by split <;> lia] <;> rfl,(s2.trans s3).trans s4,aL.of PC,SK⟩
  ·obtain ⟨o1,o2,p,pl,r0,r1,r2,r3,r4,rfl,s2,Ge,FA⟩:=hp
   have zc:=aI.Ef h3 BN qR FA
   clear dP b9 bQ bR bS bU bF bG bH bx bz bA bB bC bD bE
   walk_at "w"
   by_cases IH:z.cps.toList[pl]?=some 46
   ·rw [if_pos IH] at zc
    rw [if_neg (by rw [Zv (aI.Bd.mpr IH)];decide)]
    walk_at "w"
    rw [aI.Be]
    have hle:(⟨(z.cps.toList.drop (pl+1)).toArray⟩:PySem.Str).length<=1000:=by
     show (z.cps.toList.drop (pl+1)).toArray.size<=1000
     rw [ZT,length_drop];lia
    refine qC hle ⟨fun hn C H3 hC s3=>?_,fun o ho H3 s3=>?_⟩
    ·rw [hn] at zc
     exact⟨_,rfl,k1 zc _ _ hC (s2.trans s3)⟩
    ·rw [ho] at zc
     have Mf:=s3.at Ge
     walk_at "w"
     rename_i p4 H4 s4 m4 p5 H5 s5 m5
     have MV:=((s2.trans s3).trans s4).trans s5
     refine Cv (aL.of m5) (fun hf C H6 hC s6=>⟨_,rfl,k2 _ _ _ _ _ zc hf _ _ hC (MV.trans s6)⟩) (fun hf H6 s6=>?_)
     exact k3 _ _ _ _ _ zc hf _ _ (MV.trans s6) (s6 _ _ m5)
   ·rw [if_neg IH] at zc
    rw [if_pos (by rw [Zu (fun e=>IH (aI.Bd.mp e))];rfl)]
    walk_at "w"
    exact⟨by decide,k1 zc _ _ T.gT s2⟩
theorem Af:az ["tone","left","signs","place","mark","count","sharps","letter","octave"] ["tone"] (ao lr):=⟨rfl,rfl,rfl,by decide +kernel,rfl,by decide +kernel,by decide +kernel⟩
structure Ag(P:Program)(w:World)(K:Frag)(mg:Str->Option Value)(base:Heap)(G:jf):Prop where
 over:Ok P w K mg base 1 "over" ["one","other"] (vj K)
 power:Ok P w K mg base 1 "power" ["row","n"] (ku K)
 p7:Ok P w K mg base 1 "count_text" ["mark","count"] (fC K)
theorem Ah (D:Def K mg "name_of" lr ["tone"]) (T:Txt P w K mg G) (O:Ag P w K mg base G):Ok P w K mg base 2 "name_of" ["tone"] (jD K):=by
 have S:=Af
 refine D.ok S (fun vs H Q E h=>?_) (fun f bO A outer s H vs Q E hr h=>?_)
 ·obtain ⟨_,_,_,_,_,_,rfl,_⟩:=h;rfl
 ·obtain ⟨a,t0,t1,t2,t3,t4,rfl,ha,hb,k⟩:=h
  have hu:=aS hr
  have ax:=T.ax
  have ai:=T.ai
  have bx:=T.bx
  have bz:=T.bz
  have bA:=T.bA
  have bB:=T.bB
  have bC:=T.bC
  have bD:=T.bD
  have bE:=T.bE
  have dP:=T.dP
  have b9:=T.b9
  have bU:=T.bU
  have bQ:=T.bQ
  have bF:=T.bF
  have bR:=T.bR
  have bG:=T.bG
  have bS:=T.bS
  have bH:=T.bH
  refine⟨_,(ag (aq (i:=1) S.nd rfl (Or.inl rfl) (pv 0)) (ag (aq (i:=2) S.nd rfl (Or.inl rfl) aN) (ag (cR PassesOwn.never rfl (j7 K rfl (aR (aa ae (aa ae (aa ae af))))) (av (i:=3) S.nd rfl (Or.inl rfl)) (ag (aq (i:=4) S.nd rfl (Or.inl rfl) (aD (ay K rfl) (bo (v:=V.ref G.iS) rfl T.ou rfl) (aj bp (pv 3) ae) (fun _ _=>rfl))) (ag (aq (i:=5) S.nd rfl (Or.inl rfl) (aj jW (aD (ay K rfl) (pv 1) (pv 3) (fun _ _=>rfl)) (aD (ay K rfl) (aD (ay K rfl) (pv 4) ae (fun _ _=>rfl)) (pv 3) (fun _ _=>rfl)))) (ag (aq (i:=1) S.nd rfl (Or.inl rfl) (aF O.over (hr.mono (by decide)) (aa (pv 1) (aa (aF O.power (hr.mono (by decide)) (aa (aD (ay K rfl) (pv 4) ae (fun _ _=>rfl)) (aa (pv 5) af))) af)))) (ak (aq (i:=2) S.nd rfl (Or.inl rfl) (aj bL (aF O.p7 (hr.mono (by decide)) (aa (pv 4) (aa (pv 5) af))) (pv 2)))))))) (ag (aq (i:=6) S.nd rfl (Or.inl rfl) (aj cT (aj aK (aD (ay K rfl) (pv 1) ae (fun _ _=>rfl)) ae) ae)) (ag (aq (i:=1) S.nd rfl (Or.inl rfl) (aF O.over (hr.mono (by decide)) (aa (pv 1) (aa (aF O.power (hr.mono (by decide)) (aa (aD (ay K rfl) (aD (ay K rfl) (bo (v:=V.ref G.iS) rfl T.ou rfl) ae (fun _ _=>rfl)) ae (fun _ _=>rfl)) (aa (pv 6) af))) af)))) (ag (aq (i:=2) S.nd rfl (Or.inl rfl) (aj bL (aF O.p7 (hr.mono (by decide)) (aa (aD (ay K rfl) (bo (v:=V.ref G.iS) rfl T.ou rfl) ae (fun _ _=>rfl)) (aa (pv 6) af))) (pv 2))) (ag (aq (i:=7) S.nd rfl (Or.inl rfl) (aD (ay K rfl) (bt (zK (ks:=["F","C","G","D","A","E","B"]) T.i0 rfl rfl) rfl T.vf boot_list (aa (bo (v:=V.ref G.dZ) rfl T.iZ rfl) af)) (aj aK (aD (ay K rfl) (pv 1) ae (fun _ _=>rfl)) ae) (fun _ _=>rfl))) (ag (aq (i:=8) S.nd rfl (Or.inl rfl) (aD (ay K rfl) (aF O.over (hr.mono (by decide)) (aa (pv 1) (aa (aD (xX T.i0) (bo (v:=V.ref G.dZ) rfl T.iZ rfl) (pv 7) (fun _ _=>rfl)) af))) ae (fun _ _=>rfl))) (ak (aC (uV (dz (pe (pv 7)) (dz (pe (pv 2)) (dz aN (dz (pe (pv 8)) zH))))))))))))))),?_⟩
  rw [aI.Jw,aI.Jx] at b9
  rw [aI.Jy,aI.Jz] at bQ
  rw [aI.JA,aI.JB] at bR
  rw [aI.JC,aI.Eg] at bS
  walk_at "w"
  rename_i pt Ht st mt
  have Jt:=st.at ha
  refine JG (K:=K) (xs:=[V.int 4,V.int 3,V.int 2]) (fun i σ Hn=>∃ (o1 o2 o3:Option V) (p:Addr) (S':PySem.Str) (r:List Int) (ds:List Nat),σ=[some (.ref a),some (.ref p),some (.str S'),o1,o2,o3,none,none,none]/\ah Ht Hn/\aL K Hn p (r.map V.int)/\S'.cps.toList=ds/\S'.length<=60*i/\([[t0,t1,t2,t3,t4],[t0+5*t4,t1 - t4,t2,t3,0],[t0+5*t4+6*t3,t1 - t4 - 2*t3,t2,0,0],[t0+5*t4+6*t3 - 4*t2,t1 - t4 - 2*t3+4*t2,0,0,0]]:List (List Int))[i]?=some r/\([[],aI.seg 94 118 t4++[],aI.seg 62 60 (-t3)++(aI.seg 94 118 t4++[]),aI.seg 43 45 (-t2)++(aI.seg 62 60 (-t3)++(aI.seg 94 118 t4++[]))]:List (List Nat))[i]?=some ds) ⟨_,_,_,a,PySem.Str.ofString "",[t0,t1,t2,t3,t4],[],rfl,ah.refl _,Jt,rfl,by decide,rfl,rfl⟩ (fun i σ Hn _ hp=>by obtain ⟨_,_,_,_,_,_,_,_,sn,_⟩:=hp;exact sn.at (aL.of mt)) (fun i x σ Hn hx hp=>?_) (fun σ Hn hp=>?_)
  ·obtain ⟨o1,o2,o3,p,S',r,ds,rfl,sn,Ge,SN,Vw,hr,DC⟩:=hp
   have hi:i<3:=(Zi.mp hx).1
   obtain ⟨pl,mA,c,d,rA,m0,m1,m2,m3,m4,mv,l0,l1,l2,l3,l4,lv,kk,r',rfl,rfl,SO,QB,QC,SQ,SR,QD,Xp,PD,SS,SJ,Xq,SU,SV⟩:∃ (pl:Int) (mA:Addr) (c d:Nat) (rA:Addr) (m0 m1 m2 m3 m4 mv l0 l1 l2 l3 l4 lv kk:Int) (r':List Int),x=.int pl/\r=[l0,l1,l2,l3,l4]/\tU [V.ref G.iT,V.ref G.iU,V.ref G.iV,V.ref G.iW] (pl - 1)=some (.ref mA)/\b7 K mA [.str ⟨#[c]⟩,.str ⟨#[d]⟩,.ref rA]/\b7 K rA [.int m0,.int m1,.int m2,.int m3,.int m4]/\tU [V.int m0,V.int m1,V.int m2,V.int m3,V.int m4] pl=some (.int mv)/\tU [V.int l0,V.int l1,V.int l2,V.int l3,V.int l4] pl=some (.int lv)/\lv*mv=kk/\(-60<=kk/\kk<=60)/\(-1000<=lv/\lv<=1000)/\(-1000<=mv/\mv<=1000)/\(∀ y∈[m0,m1,m2,m3,m4],-1000<=y/\y<=1000)/\([[t0,t1,t2,t3,t4],[t0+5*t4,t1 - t4,t2,t3,0],[t0+5*t4+6*t3,t1 - t4 - 2*t3,t2,0,0],[t0+5*t4+6*t3 - 4*t2,t1 - t4 - 2*t3+4*t2,0,0,0]]:List (List Int))[i+1]?=some r'/\r'=[l0 - m0*kk,l1 - m1*kk,l2 - m2*kk,l3 - m3*kk,l4 - m4*kk]/\([[],aI.seg 94 118 t4++[],aI.seg 62 60 (-t3)++(aI.seg 94 118 t4++[]),aI.seg 43 45 (-t2)++(aI.seg 62 60 (-t3)++(aI.seg 94 118 t4++[]))]:List (List Nat))[i+1]?=some (aI.seg c d kk++ds):=by
    match i,hi with
    | 0,_=>cases hx;cases hr;cases DC;exact⟨4,_,94,118,_,-5,1,0,0,1,1,_,_,_,_,_,t4,t4,_,rfl,rfl,rfl,bS,bH,rfl,rfl,by lia,by lia,by lia,by decide,by decide,rfl,by simp only [List.cons.injEq,and_true];lia,rfl⟩
    | 1,_=>cases hx;cases hr;cases DC;exact⟨3,_,62,60,_,6,-2,0,-1,0,-1,_,_,_,_,_,t3,-t3,_,rfl,rfl,rfl,bR,bG,rfl,rfl,by lia,by lia,by lia,by decide,by decide,rfl,by simp only [List.cons.injEq,and_true];lia,rfl⟩
    | 2,_=>cases hx;cases hr;cases DC;exact⟨2,_,43,45,_,-4,4,-1,0,0,-1,_,_,_,_,_,t2,-t2,_,rfl,rfl,rfl,bQ,bF,rfl,rfl,by lia,by lia,by lia,by decide,by decide,rfl,by simp only [List.cons.injEq,and_true];lia,rfl⟩
   subst SU
   have hq:=dP.at (H:=Hn)
   have qm:=QB.at (H:=Hn)
   have II:aL K Hn p [.int l0,.int l1,.int l2,.int l3,.int l4]:=Ge
   clear b9 bQ bR bS bU bF bG bH bx bz bA bB bC bD bE
   clear dP hr DC Ge hx
   walk_at "w"
   refine ue hq SO ?_
   clear hq
   walk_at "v"
   refine ue II SR ?_
   walk_at "w"
   refine ue QC.at SQ ?_
   refine RY (Pq PD SS) ?_
   rw [QD]
   walk_at "w"
   refine vn QC.at ⟨SJ,by lia⟩ fun p3 H3 s3 SM=>?_
   have Mf:=s3.at II
   walk_at "w"
   rename_i p4 H4 s4 PC
   refine kz QB.at (by lia) ?_
   have SW:(⟨(aI.seg c d kk).toArray⟩:PySem.Str).length=kk.natAbs:=by
    show (aI.seg c d kk).toArray.size=_
    rw [ZT,aI.j4]
   walk_at "w"
   refine⟨_,_,_,p4,_,[l0 - m0*kk,l1 - m1*kk,l2 - m2*kk,l3 - m3*kk,l4 - m4*kk],_,rfl,(sn.trans s3).trans s4,aL.of PC,?_,?_,Xq,SV⟩
   ·rw [aI.app_list,aI.cx,SN]
   ·rw [PySem.strLen_append,SW];lia
  ·obtain ⟨o1,o2,o3,p,S',r,ds,rfl,sn,Ge,SN,Vw,hr,DC⟩:=hp
   cases hr
   cases DC
   obtain ⟨l0,zd⟩:∃ l0,t0+5*t4+6*t3 - 4*t2=l0:=⟨_,rfl⟩
   obtain ⟨l1,yY⟩:∃ l1,t1 - t4 - 2*t3+4*t2=l1:=⟨_,rfl⟩
   rw [zd,yY] at Ge
   have II:aL K Hn p [.int l0,.int l1,.int 0,.int 0,.int 0]:=Ge
   obtain ⟨k0,hk0⟩:∃ k0,(l1+1) / 7=k0:=⟨_,rfl⟩
   have SX:-69<=k0/\k0<=69:=by lia
   obtain ⟨j,hj⟩:∃ j:Nat,l1 - 7*k0+1=(j:Int):=⟨(l1 - 7*k0+1).toNat,by lia⟩
   have JX:j<7:=by lia
   obtain ⟨L,A,r0,PH,PJ,SY,S0,hA,qR,PK⟩:∃ (L:Nat) (A:Addr) (r0:Int),([70,67,71,68,65,69,66]:List Nat).getD j 0=L/\([2,0,-1,-3,-4,-6,-7]:List Int).getD j 0=r0/\tU ((["F","C","G","D","A","E","B"]:List PySem.Str).map V.str) (j:Int)=some (.str ⟨#[L]⟩)/\jt [(.inr "F",.ref G.eO),(.inr "C",.ref G.eP),(.inr "G",.ref G.eQ),(.inr "D",.ref G.eR),(.inr "A",.ref G.eS),(.inr "E",.ref G.eU),(.inr "B",.ref G.eV)] ((.inr ⟨#[L]⟩):Key)=some (.ref A)/\b7 K A [.int r0,.int ((j:Int) - 1),.int 0,.int 0,.int 0]/\aI.qu L=some [r0,(j:Int) - 1,0,0,0]/\(-7<=r0/\r0<=2):=by
    match j,JX with
    | 0,_=>exact⟨70,_,2,rfl,rfl,by show some (V.str (PySem.Str.ofString "F"))=_;rw [show PySem.Str.ofString "F"=⟨#[70]⟩ by decide],(c5 70).trans rfl,bx,rfl,by decide⟩
    | 1,_=>exact⟨67,_,0,rfl,rfl,by show some (V.str (PySem.Str.ofString "C"))=_;rw [show PySem.Str.ofString "C"=⟨#[67]⟩ by decide],(c5 67).trans rfl,bz,rfl,by decide⟩
    | 2,_=>exact⟨71,_,-1,rfl,rfl,by show some (V.str (PySem.Str.ofString "G"))=_;rw [show PySem.Str.ofString "G"=⟨#[71]⟩ by decide],(c5 71).trans rfl,bA,rfl,by decide⟩
    | 3,_=>exact⟨68,_,-3,rfl,rfl,by show some (V.str (PySem.Str.ofString "D"))=_;rw [show PySem.Str.ofString "D"=⟨#[68]⟩ by decide],(c5 68).trans rfl,bB,rfl,by decide⟩
    | 4,_=>exact⟨65,_,-4,rfl,rfl,by show some (V.str (PySem.Str.ofString "A"))=_;rw [show PySem.Str.ofString "A"=⟨#[65]⟩ by decide],(c5 65).trans rfl,bC,rfl,by decide⟩
    | 5,_=>exact⟨69,_,-6,rfl,rfl,by show some (V.str (PySem.Str.ofString "E"))=_;rw [show PySem.Str.ofString "E"=⟨#[69]⟩ by decide],(c5 69).trans rfl,bD,rfl,by decide⟩
    | 6,_=>exact⟨66,_,-7,rfl,rfl,by show some (V.str (PySem.Str.ofString "B"))=_;rw [show PySem.Str.ofString "B"=⟨#[66]⟩ by decide],(c5 66).trans rfl,bE,rfl,by decide⟩
   have YL:S'.length<=180:=Vw
   clear bQ bR bS bF bG bH bx bz bA bB bC bD bE Ge
   walk_at "w"
   rw [hk0]
   refine vn bU.at ⟨by decide,by lia⟩ fun p3 H3 s3 SM=>?_
   have Mf:=s3.at II
   walk_at "w"
   rename_i p4 H4 s4 PC
   refine kz b9.at (by lia) ?_
   have SW:(⟨(aI.seg 35 98 k0).toArray⟩:PySem.Str).length=k0.natAbs:=by
    show (aI.seg 35 98 k0).toArray.size=_
    rw [ZT,aI.j4]
   walk_at "w"
   refine Ie (by decide) fun lk Hk nk sk mk=>?_
   have Xr:=sk _ _ PC
   walk_at "v"
   refine ue (aL.of Xr) rfl ?_
   walk_at "v"
   rw [hj]
   refine nq (bj.of mk) SY ?_
   have qA:=hA.at (H:=Hk)
   have S1:((⟨(aI.seg 35 98 k0).toArray⟩:PySem.Str)++S').length<=300:=by rw [PySem.strLen_append,SW];lia
   generalize MW:(⟨(aI.seg 35 98 k0).toArray⟩:PySem.Str)++S'=sg at S1 ⊢
   walk_at "w"
   refine JT S0 ?_
   walk_at "w"
   rename_i p5 H5 s5 m5
   obtain ⟨o,ho⟩:∃ o,l0 - -11*k0 - r0=o:=⟨_,rfl⟩
   have Gb:-9999<=o/\o<=9999:=by lia
   have L5:=aI.oR Gb.1 Gb.2
   rw [ho]
   refine Bm (au (show 1<=2000 by decide)) ?_
   refine cL (by rw [aJ.empty_app];exact au (show 1<=2000 by decide)) ?_
   rw [aJ.empty_app]
   walk_at "w"
   refine cL (au (by rw [PySem.strLen_append];show 1+_<=2000;lia)) ?_
   walk_at "w"
   refine cL (au (by rw [PySem.strLen_append,PySem.strLen_append];show 1+_+1<=2000;lia)) ?_
   walk_at "w"
   refine uW (aJ.jr (ZN (show o.natAbs<=9999 by lia) (by decide +kernel))) ?_
   have lT:((⟨#[L]⟩:PySem.Str)++sg++PySem.Str.ofString "."++PySem.Str.ofString (toString o)).length<=2000:=by
    rw [PySem.strLen_append,PySem.strLen_append,PySem.strLen_append];show 1+_+1+_<=2000;lia
   refine cL (au lT) ?_
   refine zJ (au lT) ?_
   have J0:(PySem.Str.ofString ".").cps.toList=[46]:=by decide
   have hT:((⟨#[L]⟩:PySem.Str)++sg++PySem.Str.ofString "."++PySem.Str.ofString (toString o)).cps.toList=L::(aI.seg 35 98 k0++(aI.seg 43 45 (-t2)++(aI.seg 62 60 (-t3)++(aI.seg 94 118 t4++(46::(PySem.Str.ofString (toString o)).cps.toList))))):=by
    rw [aI.app_list,aI.app_list,aI.app_list,<- MW,aI.app_list,aI.cx,SN,J0]
    simp [append_assoc]
   have J1:=aI.made hT qR Gb.1 Gb.2 (by lia)
   refine k _ _ (((((st.trans sn).trans s3).trans s4).trans sk).trans s5) (hT.trans ?_) (J1.1.trans ?_) J1.2
   ·unfold ee
    rw [yY,hk0,show ((l1+1) % 7).toNat=j by lia,PH,PJ,show t0+5*t4+6*t3 - 4*t2+11*k0 - r0=o by lia]
   ·congr 1
    simp only [List.cons.injEq,and_true]
    lia
theorem lI:az ["text"] ["text"] (ao dF):=⟨rfl,rfl,rfl,by decide +kernel,rfl,by decide +kernel,by decide +kernel⟩
structure lJ(P:Program)(w:World)(K:Frag)(mg:Str->Option Value)(base:Heap)(G:jf):Prop where
 named:Df P w K mg base 5 "named" ["text"] (pJ K)
theorem lK (D:Def K mg "sounding_read" dF ["text"]) (T:Txt P w K mg G) (O:lJ P w K mg base G):Ok P w K mg base 6 "sounding_read" ["text"] (dt K):=by
 have S:=lI
 refine D.ok S (fun vs H Q E h=>?_) (fun f bO A outer s H vs Q E hr h=>?_)
 ·obtain ⟨_,rfl,_⟩:=h;rfl
 ·obtain ⟨o,rfl,ho,k⟩:=h
  have hu:=aS hr
  have ax:=T.ax
  have ai:=T.ai
  refine⟨_,(ak (aC (jP (aQ gB (pv 0) (bo (v:=V.str "R") rfl T.Fl ⟨_,rfl⟩) (aU _)) fR (oZ (EX:=fun _ _ _=>False) O.named (hr.mono (by decide)) noraise rfl (aa (pv 0) af))))),?_⟩
  walk_at "w"
  cases o with
  | none =>
   refine gF (Zv rfl) ?_
   walk_at "w"
   exact k _ _ (ah.refl _) rfl
  | some r =>
   have hr:=ho r rfl
   have hm:=kl hr
   refine cY (Zu (vd hr)) ?_
   walk_at "w"
   refine IC (by lia) ⟨fun e=>?_,fun x0 x1 x2 x3 x4 e hf=>?_,fun x0 x1 x2 x3 x4 e hf p H' s m=>?_⟩
   ·rw [hm.1] at e
    cases e
   ·rw [hm.1] at e
    cases e
    exact absurd (show fits x0 x1 x2 x3 x4=true from hr.2) (by rw [hf];decide)
   ·rw [hm.1] at e
    cases e
    exact k _ _ s ⟨p,rfl,aL.of m,rfl⟩
theorem vy:az ["word","number","place","parts"] ["word","number","place"] (ao gJ):=⟨rfl,rfl,rfl,by decide +kernel,rfl,by decide +kernel,by decide +kernel⟩
structure vz(P:Program)(w:World)(K:Frag)(mg:Str->Option Value)(base:Heap)(G:jf):Prop where
 hR:Df P w K mg base 3 "length_read" ["text"] (c9 K)
 qS:Ok P w K mg base 6 "sounding_read" ["text"] (dt K)
theorem vA (D:Def K mg "note_read" gJ ["word","number","place"]) (T:Txt P w K mg G) (O:vz P w K mg base G):Ok P w K mg base 7 "note_read" ["word","number","place"] (gk K):=by
 have S:=vy
 refine D.ok S (fun vs H Q E h=>?_) (fun f bO A outer s H vs Q E hr h=>?_)
 ·obtain ⟨_,_,_,rfl,_⟩:=h;rfl
 ·obtain ⟨w,i,j,rfl,ho,k⟩:=h
  have hu:=aS hr
  have ax:=T.ax
  have ai:=T.ai
  refine⟨_,(ag (aq (i:=3) S.nd rfl (Or.inl rfl) (cP PySem.F.plainAttrs_str PySem.F.slot_str_partition PySem.F.type_str_partition xY (pv 0) (aa aN af))) (ak (Br (fun _ _=>(ak (aC (aR (aa (aF O.qS (hr.mono (by decide)) (aa (aD (ay K rfl) (pv 3) ae (fun _ _=>rfl)) af)) (aa (oZ O.hR (hr.mono (by decide)) (fun _ _ z=>z) rfl (aa (aD (ay K rfl) (pv 3) ae (fun _ _=>rfl)) af)) af))))))))),?_⟩
  have hl:=(fM ho).2
  walk_at "w"
  refine Bu (by decide) (by lia) (Fc ho) fun p1 H1 s1 m1=>?_
  have PL:=(cA ho.2).2
  walk_at "w"
  dsimp only [JU]
  walk_at "w"
  refine nR ho.1 fun v H2 s2 hv=>?_
  have m2:=s2 _ _ m1
  walk_at "w"
  refine jh (by lia) ⟨fun t b e q H3 s3 m3=>?_,fun e=>?_⟩
  ·rw [km ho.2] at e
   cases e
   walk_at "w"
   rename_i p4 H4 s4 m4
   exact k p4 H4 (((s1.trans s2).trans s3).trans s4) ⟨p4,v,q,rfl,aL.of m4,hv.same (s3.trans s4),s4.at (aL.of m3)⟩
  ·rw [km ho.2] at e
   cases e
theorem yk:az ["text","number","meter","words","notes"] ["text","number","meter"] (ao jx):=⟨rfl,rfl,rfl,by decide +kernel,rfl,by decide +kernel,by decide +kernel⟩
structure yl(P:Program)(w:World)(K:Frag)(mg:Str->Option Value)(base:Heap)(G:jf):Prop where
 Mg:Ok P w K mg base 3 "summed" ["lengths"] (lC K)
 CK:Ok P w K mg base 7 "note_read" ["word","number","place"] (gk K)
theorem ym (D:Def K mg "bar_read" jx ["text","number","meter"]) (T:Txt P w K mg G) (O:yl P w K mg base G):Ok P w K mg base 8 "bar_read" ["text","number","meter"] (gW K):=by
 have S:=yk
 refine D.ok S (fun vs H Q E h=>?_) (fun f bO A outer s H vs Q E hr h=>?_)
 ·obtain ⟨_,_,_,_,rfl,_⟩:=h;rfl
 ·obtain ⟨ws,i,m,mt,rfl,hm,hl,hw,hs,k⟩:=h
  have hu:=aS hr
  have ax:=T.ax
  have ai:=T.ai
  refine⟨_,(ag (aq (i:=3) S.nd rfl (Or.inl rfl) (cP PySem.F.plainAttrs_str PySem.F.slot_str_split PySem.F.type_str_split ui (pv 0) (aa aN af))) (ag (bJ (aQ tP (aH (fU K rfl) rfl T.gv PySem.boot_len (aa (pv 3) af)) (bo (v:=V.int 24) rfl T.vh ⟨_,rfl⟩) (aU _)) (ak jQ) aP) (ag (Bg (k:=4) (N:=["place","word","number"]) (ix:=[none,none,some 1]) S.nd rfl (Or.inl rfl) rfl (j8 K rfl false rfl T.eY (aa (pv 3) af)) (fun _ _ _ _ _=>(bY (n:=2) K rfl rfl (aE (av (i:=0) (show jJ ["place","word","number"] by decide +kernel) rfl (Or.inl rfl)) (aE (av (i:=1) (show jJ ["place","word","number"] by decide +kernel) rfl (Or.inl rfl)) bX)))) (fun _ _ _ _ _=>rfl) (fun _ _ _ _ _=>(aF O.CK (hr.mono (by decide)) (aa (pv 1) (aa (pv 2) (aa (pv 0) af))))) rfl (by decide +kernel) (by decide +kernel) rfl ⟨⟨rfl,Or.inr (Or.inl rfl),rfl,rfl⟩,True.intro⟩) (ag (bJ (aQ (Hy K rfl hr.units) (aF O.Mg (hr.mono (by decide)) (aa (bu (N:=["note"]) (ix:=[none]) rfl (b8 K rfl (pv 4)) (fun _ _ _ _ _=>(av (i:=0) (show jJ ["note"] by decide +kernel) rfl (Or.inl rfl))) (fun _ _ _ _ _=>rfl) (fun _ _ _ _ _=>(aD (ay K rfl) (pv 0) ae (fun _ _=>rfl))) rfl (by decide +kernel) (by decide +kernel) rfl True.intro) af)) (pv 2) (aU _)) (ak jQ) aP) (ak (aC (pv 4))))))),?_⟩
  have S2:=gf hw hl.2
  walk_at "w"
  refine xZ (ws:=ws.map uk) (by decide) (by lia) (by rw [ZI];lia) (zO hw hl.1) fun p1 H1 n1 s1 m1=>?_
  rw [ZW] at m1
  have PM:=s1.at hm
  have lm:(ws.map (V.str ∘ uk)).length=ws.length:=ZI ..
  walk_at "w"
  refine cY (Zu (by lia)) ?_
  walk_at "w"
  refine cF 2 [some (.int i)] ws.length (fun l j ys H'=>aT K H' ys ((ws.take j).map wN)) rfl (fun _ _ _ _ _=>.nil) (fun l j ys H' h=>by have:=h.length;rw [ZI,ZS] at this;lia) (fun H' s=>⟨_,cC (s.seq (bj.of m1)),by lia⟩) (fun j H' hj s=>⟨_,_,cC (s.seq (bj.of m1)),ZC (by lia)⟩) (fun l j x H' Vx own ys ho hj zd s9 dB hp hy Qy Qn ky kn=>?_) (fun l2 H' ys QE s2 MX hp=>?_)
  ·obtain ⟨o1,o2,rfl⟩:∃ o1 o2,own=[o1,o2]:=by match own,ho with|[o1,o2],_=>exact⟨o1,o2,rfl⟩
   obtain ⟨q,x',rfl,hq,e1,rfl⟩:=hy
   have hx:=e1 _ (cC (s9.seq (bj.of m1)))
   obtain ⟨w,uq,rfl⟩:∃ w,ws[j]?=some w/\x'=V.str (uk w):=by
    rw [ZU,ZC hj] at hx
    exact⟨_,ZC hj,by cases hx;rfl⟩
   have et:ws.take (j+1)=ws.take j++[w]:=by rw [take_add_one,uq];rfl
   have sq:=ah.aY (o:=.tup [.int (j:Nat),.str (uk w)]) hq
   refine⟨q,_,rfl,aL.of aB,rfl,_,_,rfl,_,_,rfl,rfl,?_⟩
   refine ja ?_
   walk_at "w"
   refine yc (hw w (ZH uq)) fun p3 H3 s3 S3=>?_
   have e3:=(sq.trans s3) _ _ dB
   refine ky [some (.int (j:Nat)),some (.str (uk w))] _ H3 rfl (sq.trans s3) ?_
   rw [et,ZV]
   exact ((hp.same (sq.trans s3)).off e3).snoc (n:=wN w) (S3.off e3)
  rw [ZR] at hp
  have lh:=hp.length
  rw [ZI] at lh
  walk_at "w"
  refine cF 1 [] ws.length (fun l j zs H'=>dC K H' zs (((ws.take j).map fun w=>bq w.2).map BZ.r2)) rfl (fun _ _ _ _ _=>.nil) (fun l j zs H' h=>by have:=h.length;rw [ZI,ZI,ZS] at this;lia) (fun H' s=>⟨_,s.seq (bj.of MX),by lia⟩) (fun j H' hj s=>⟨ys,ys[j]'(by lia),s.seq (bj.of MX),ZC (by lia)⟩) (fun l j x H3 H4 own zs ho hj zd s9 dB oH hy Qy Qn ky kn=>?_) (fun l3 H3 zs QF s3 Mh oH=>?_)
  ·obtain ⟨o1,rfl⟩:∃ o1,own=[o1]:=by match own,ho with|[o1],_=>exact⟨o1,rfl⟩
   obtain ⟨rfl,e⟩:=hy
   obtain ⟨n,Jj,y8⟩:=(hp.same s9).get (e ys (s9.seq (bj.of MX)))
   obtain ⟨w,uq,rfl⟩:∃ w,ws[j]?=some w/\n=wN w:=by
    rw [ZU,ZC hj] at y8
    exact⟨_,ZC hj,by cases y8;rfl⟩
   have et:ws.take (j+1)=ws.take j++[w]:=by rw [take_add_one,uq];rfl
   obtain ⟨an,tn,ln,rfl,E5,KS,S3⟩:=Jj
   walk_at "w"
   refine ja ?_
   walk_at "w"
   refine ky [some (.ref an)] _ _ rfl (ah.refl _) ?_
   rw [et,ZV,ZV]
   exact (oH.off dB).snoc (iN S3 dB)
  rw [ZR] at oH
  have hg:∀ p∈ws.map (fun w=>bq w.2),cZ p:=fun p hp=>by
   obtain ⟨w,hv,rfl⟩:=ZM.mp hp
   exact ck (hw w hv).2
  walk_at "w"
  refine Fq (bj.of Mh) oH hg (by rw [ZI];lia) fun p5 H5 n d s5 m5 S4 hn hd=>?_
  obtain ⟨e1,e2⟩:=S4.uniq hs (uG _ fun p hp=>(hg p hp).2.1)
  have Xs:aL K H5 m (([((bq mt).1:Int),((bq mt).2:Int)]:List Int).map V.int):=(s2.trans (s3.trans s5)).at PM
  walk_at "w"
  refine O1 (gx.row (r:=[(n:Int),(d:Int)]) (aL.of m5)) (gx.row Xs) rfl rfl ?_
  rw [HW,e1,e2,Zv rfl]
  walk_at "w"
  refine cY rfl ?_
  walk_at "w"
  have MV:=s3.trans s5
  exact k l2 H5 ys (s1.new QE) ((s1.trans s2).trans MV) (MV _ _ MX) (hp.same MV)
theorem qT:az ["text"] ["text"] (ao f6):=⟨rfl,rfl,rfl,by decide +kernel,rfl,by decide +kernel,by decide +kernel⟩
structure qU(P:Program)(w:World)(K:Frag)(mg:Str->Option Value)(base:Heap)(G:jf):Prop where
 hR:Df P w K mg base 3 "length_read" ["text"] (c9 K)
theorem qV (D:Def K mg "meter_read" f6 ["text"]) (T:Txt P w K mg G) (O:qU P w K mg base G):Ok P w K mg base 4 "meter_read" ["text"] (fD K):=by
 have S:=qT
 refine D.ok S (fun vs H Q E h=>?_) (fun f bO A outer s H vs Q E hr h=>?_)
 ·obtain ⟨_,rfl,_⟩:=h;rfl
 ·obtain ⟨p,rfl,hp,k⟩:=h
  have hu:=aS hr
  have ax:=T.ax
  have ai:=T.ai
  refine⟨_,(ak (Br (fun _ _=>(ak (aC (oZ O.hR (hr.mono (by decide)) (fun _ _ z=>z) rfl (aa (pv 0) af))))))),?_⟩
  have PL:=(cA hp).2
  walk_at "w"
  show Kh _ _ _ _
  walk_at "w"
  refine jh (by lia) ⟨fun t b e q H' s m=>?_,fun e=>?_⟩
  ·rw [km hp] at e
   cases e
   exact k _ _ s m
  ·rw [km hp] at e
   cases e
theorem vB:az ["text","parts","meter","texts"] ["text"] (ao gK):=⟨rfl,rfl,rfl,by decide +kernel,rfl,by decide +kernel,by decide +kernel⟩
structure vC(P:Program)(w:World)(K:Frag)(mg:Str->Option Value)(base:Heap)(G:jf):Prop where
 FC:Ok P w K mg base 8 "bar_read" ["text","number","meter"] (gW K)
 Ai:Ok P w K mg base 4 "meter_read" ["text"] (fD K)
theorem vD (D:Def K mg "tune_read" gK ["text"]) (T:Txt P w K mg G) (O:vC P w K mg base G):Ok P w K mg base 9 "tune_read" ["text"] (gm K):=by
 have S:=vB
 refine D.ok S (fun vs H Q E h=>?_) (fun f bO A outer s H vs Q E hr h=>?_)
 ·obtain ⟨_,_,rfl,_⟩:=h;rfl
 ·obtain ⟨mt,aO,rfl,hx,k⟩:=h
  have hu:=aS hr
  have ax:=T.ax
  have ai:=T.ai
  refine⟨_,(ag (aq (i:=1) S.nd rfl (Or.inl rfl) (cP PySem.F.plainAttrs_str PySem.F.slot_str_partition PySem.F.type_str_partition xY (pv 0) (aa (bo (v:=V.str ": ") rfl T.nA ⟨_,rfl⟩) af))) (ag (bJ (aQ gB (aD (ay K rfl) (pv 1) ae (fun _ _=>rfl)) aN (aU _)) (ak jQ) aP) (ag (aq (i:=2) S.nd rfl (Or.inr rfl) (aF O.Ai (hr.mono (by decide)) (aa (aD (ay K rfl) (pv 1) ae (fun _ _=>rfl)) af))) (ag (aq (i:=3) S.nd rfl (Or.inl rfl) (cP PySem.F.plainAttrs_str PySem.F.slot_str_split PySem.F.type_str_split ui (aD (ay K rfl) (pv 1) ae (fun _ _=>rfl)) (aa (bo (v:=V.str " | ") rfl T.pF ⟨_,rfl⟩) af))) (ag (bJ (aQ tP (aH (fU K rfl) rfl T.gv PySem.boot_len (aa (pv 3) af)) (bo (v:=V.int 40) rfl T.x9 ⟨_,rfl⟩) (aU _)) (ak jQ) aP) (ak (aC (aR (aa (pv 2) (aa (bu (N:=["number","bar","meter"]) (ix:=[none,none,some 2]) rfl (j8 K rfl false rfl T.eY (aa (pv 3) af)) (fun _ _ _ _ _=>(bY (n:=2) K rfl rfl (aE (av (i:=0) (show jJ ["number","bar","meter"] by decide +kernel) rfl (Or.inl rfl)) (aE (av (i:=1) (show jJ ["number","bar","meter"] by decide +kernel) rfl (Or.inl rfl)) bX)))) (fun _ _ _ _ _=>rfl) (fun _ _ _ _ _=>(aF O.FC (hr.mono (by decide)) (aa (pv 1) (aa (pv 0) (aa (pv 2) af))))) rfl (by decide +kernel) (by decide +kernel) rfl ⟨⟨rfl,Or.inr (Or.inl rfl),rfl,rfl⟩,True.intro⟩) af)))))))))),?_⟩
  have hlen:=x8 hx
  walk_at "w"
  refine Bu (by decide) (by lia) (Cs hx.2.1 aO) fun p1 H1 s1 m1=>?_
  walk_at "w"
  refine cY (by decide) ?_
  walk_at "w"
  refine vp hx.2.1 fun m H2 s2 m2=>?_
  have IJ:=s2 _ _ m1
  walk_at "w"
  refine xZ (ws:=aO.map ei) (by decide) (by lia) (by rw [ZI];have:=hx.1.2;lia) (zP hx) fun p3 H3 n3 s3 m3=>?_
  rw [ZW] at m3
  have lm:(aO.map (V.str ∘ ei)).length=aO.length:=ZI ..
  have SE:=hx.1
  walk_at "w"
  refine cY (Zu (by lia)) ?_
  walk_at "w"
  have S5:=s3 _ _ m2
  refine cF 2 [some (.ref m)] aO.length (fun l j ys H'=>bW K H' ys ((aO.take j).map fun ws=>ws.map wN)/\(V.ref l∉ys)/\∀ y∈ys,∃ b,y=V.ref b/\H b=none) rfl (fun _ _ _ _ _=>⟨.nil,(fun z=>nomatch z),fun _ z=>nomatch z⟩) (fun l j ys H' h=>by have:=h.1.length;rw [ZI,ZS] at this;lia) (fun H' s=>⟨_,cC (s.seq (bj.of m3)),by lia⟩) (fun j H' hj s=>⟨_,_,cC (s.seq (bj.of m3)),ZC (by lia)⟩) (fun l j x H' Vx own ys ho hj zd s9 dB hp hy Qy Qn ky kn=>?_) (fun l2 H' ys QE s4 MX hp=>?_)
  ·obtain ⟨o1,o2,rfl⟩:∃ o1 o2,own=[o1,o2]:=by match own,ho with|[o1,o2],_=>exact⟨o1,o2,rfl⟩
   obtain ⟨q,x',rfl,hq,e1,rfl⟩:=hy
   have Vy:=e1 _ (cC (s9.seq (bj.of m3)))
   obtain ⟨ws,uq,rfl⟩:∃ ws,aO[j]?=some ws/\x'=V.str (ei ws):=by
    rw [ZU,ZC hj] at Vy
    exact⟨_,ZC hj,by cases Vy;rfl⟩
   have et:aO.take (j+1)=aO.take j++[ws]:=by rw [take_add_one,uq];rfl
   have sq:=ah.aY (o:=.tup [.int (j:Nat),.str (ei ws)]) hq
   refine⟨q,_,rfl,aL.of aB,rfl,_,_,rfl,_,_,rfl,rfl,?_⟩
   refine ja ?_
   obtain ⟨g1,g2,g3⟩:=hx.2.2 ws (ZH uq)
   walk_at "w"
   refine zV ⟨(s9.trans sq).at (aL.of S5),g1,g2,g3⟩ fun l5 H5 zs n5 s5 m5 Xt=>?_
   have e5:=(sq.trans s5) _ _ dB
   have ne:l5≠l:=fun z=>by rw [z,sq _ _ dB] at n5;cases n5
   refine ky [some (.int (j:Nat)),some (.str (ei ws))] _ H5 rfl (sq.trans s5) ⟨?_,fun z=>?_,fun y hy=>?_⟩
   ·rw [et,ZV]
    exact ((hp.1.same (sq.trans s5)).off e5 hp.2.1).snoc (by rw [aG ne];exact m5) (Xt.off e5)
   ·rcases ZG.mp z with z|z
    ·exact hp.2.1 z
    ·have:=ZF.mp z
     cases this
     exact ne rfl
   ·rcases ZG.mp hy with z|z
    ·exact hp.2.2 y z
    ·rw [ZF.mp z]
     exact⟨l5,rfl,(s1.trans (s2.trans (s3.trans (s9.trans sq)))).new n5⟩
  rw [ZR] at hp
  walk_at "w"
  rename_i p6 H6 s6 m6
  have sA:=(s1.trans (s2.trans s3)).trans (s4.trans s6)
  exact k p6 m l2 H6 ys sA ((s1.trans (s2.trans s3)).new QE) hp.2.2 ⟨aL.of m6,(s4.trans s6).at (aL.of S5),s6 _ _ MX,hp.1.same s6⟩
theorem vE:az ["note","name","length"] ["note"] (ao gL):=⟨rfl,rfl,rfl,by decide +kernel,rfl,by decide +kernel,by decide +kernel⟩
structure vF(P:Program)(w:World)(K:Frag)(mg:Str->Option Value)(base:Heap)(G:jf):Prop where
 hU:Ok P w K mg base 1 "length_text" ["length"] (da K)
 IK:Ok P w K mg base 2 "name_of" ["tone"] (jD K)
theorem vG (D:Def K mg "note_text" gL ["note"]) (T:Txt P w K mg G) (O:vF P w K mg base G):Ok P w K mg base 3 "note_text" ["note"] (gn K):=by
 have S:=vE
 refine D.ok S (fun vs H Q E h=>?_) (fun f bO A outer s H vs Q E hr h=>?_)
 ·obtain ⟨_,_,rfl,_⟩:=h;rfl
 ·obtain ⟨a,n,rfl,⟨a',t,l,ea,ha,ht,hl⟩,bf,hlen,k⟩:=h
  have hu:=aS hr
  have ax:=T.ax
  have ai:=T.ai
  refine⟨_,(ag (aq (i:=1) S.nd rfl (Or.inl rfl) (jP (aQ oz (aD (ay K rfl) (pv 0) ae (fun _ _=>rfl)) fR (aU _)) (bo (v:=V.str "R") rfl T.Fl ⟨_,rfl⟩) (aF O.IK (hr.mono (by decide)) (aa (aD (ay K rfl) (pv 0) ae (fun _ _=>rfl)) af)))) (ag (aq (i:=2) S.nd rfl (Or.inl rfl) (aF O.hU (hr.mono (by decide)) (aa (aD (ay K rfl) (pv 0) ae (fun _ _=>rfl)) af))) (ak (aC (uV (dz (pe (pv 1)) (dz aN (dz (pe (pv 2)) zH)))))))),?_⟩
  obtain rfl:a=a':=by cases ea;rfl
  obtain ⟨n1,nt,nb⟩:=n
  obtain ⟨tt,bb,e,h1,h2⟩:=hlen
  cases e
  have l9:(Cp ((tt:Int),(bb:Int))).length<=9:=va ⟨tt,bb,rfl,h1,h2⟩
  cases n1 with
  | none =>
   obtain rfl:t=.dj:=ht
   walk_at "w"
   refine⟨rfl,?_⟩
   walk_at "w"
   refine gF rfl ?_
   walk_at "w"
   have s1:=ah.refl H
   have lz:(PySem.Str.ofString "R").length<=300:=by decide
   change ∀ H',ah H H'->(PySem.Str.ofString "R"++PySem.Str.ofString "="++Cp ((tt:Int),(bb:Int))).length<=400->Q (.str (PySem.Str.ofString "R"++PySem.Str.ofString "="++Cp ((tt:Int),(bb:Int)))) H' at k
   generalize PySem.Str.ofString "R"=z at lz k ⊢
   have yY:=s1.at hl
   have J2:=s1.at ha
   have lT:(z++PySem.Str.ofString "="++Cp ((tt:Int),(bb:Int))).length<=400:=by
    rw [PySem.strLen_append,PySem.strLen_append];show _+1+_<=_;lia
   walk_at "w"
   refine fH yY h1 h2 ?_
   change (aJ.txt tt++aJ.aA++aJ.txt bb).length<=9 at l9
   change (z++PySem.Str.ofString "="++(aJ.txt tt++aJ.aA++aJ.txt bb)).length<=400 at lT
   change ∀ H',ah H H'->(z++PySem.Str.ofString "="++(aJ.txt tt++aJ.aA++aJ.txt bb)).length<=400->Q (.str (z++PySem.Str.ofString "="++(aJ.txt tt++aJ.aA++aJ.txt bb))) H' at k
   generalize aJ.txt tt++aJ.aA++aJ.txt bb=y at l9 lT k ⊢
   walk_at "w"
   refine cL (by rw [aJ.empty_app];exact au (by lia)) ?_
   rw [aJ.empty_app]
   walk_at "w"
   refine cL (au (show (z++PySem.Str.ofString "=").length<=2000 by rw [PySem.strLen_append];show _+1<=2000;lia)) ?_
   walk_at "w"
   exact k _ s1 lT
  | some r =>
   obtain ⟨ar,rfl,Xu,l5⟩:=ht
   obtain ⟨r0,r1,r2,r3,r4,rfl⟩:=uH l5
   walk_at "w"
   refine⟨rfl,?_⟩
   walk_at "w"
   refine cY rfl ?_
   walk_at "w"
   refine Cw Xu (u9 bf) fun T1 H1 s1 e1 zc lz=>?_
   have eT:nP (some [r0,r1,r2,r3,r4])=T1:=aI.dN e1.symm
   have k:∀ H',ah H H'->(T1++PySem.Str.ofString "="++Cp ((tt:Int),(bb:Int))).length<=400->Q (.str (T1++PySem.Str.ofString "="++Cp ((tt:Int),(bb:Int)))) H':=by
    rw [<- eT];exact k
   clear e1 eT zc
   generalize T1=z at lz k ⊢
   have yY:=s1.at hl
   have J2:=s1.at ha
   have lT:(z++PySem.Str.ofString "="++Cp ((tt:Int),(bb:Int))).length<=400:=by
    rw [PySem.strLen_append,PySem.strLen_append];show _+1+_<=_;lia
   walk_at "w"
   refine fH yY h1 h2 ?_
   change (aJ.txt tt++aJ.aA++aJ.txt bb).length<=9 at l9
   change (z++PySem.Str.ofString "="++(aJ.txt tt++aJ.aA++aJ.txt bb)).length<=400 at lT
   change ∀ H',ah H H'->(z++PySem.Str.ofString "="++(aJ.txt tt++aJ.aA++aJ.txt bb)).length<=400->Q (.str (z++PySem.Str.ofString "="++(aJ.txt tt++aJ.aA++aJ.txt bb))) H' at k
   generalize aJ.txt tt++aJ.aA++aJ.txt bb=y at l9 lT k ⊢
   walk_at "w"
   refine cL (by rw [aJ.empty_app];exact au (by lia)) ?_
   rw [aJ.empty_app]
   walk_at "w"
   refine cL (au (show (z++PySem.Str.ofString "=").length<=2000 by rw [PySem.strLen_append];show _+1<=2000;lia)) ?_
   walk_at "w"
   exact k _ s1 lT
theorem yn:az ["bar"] ["bar"] (ao jy):=⟨rfl,rfl,rfl,by decide +kernel,rfl,by decide +kernel,by decide +kernel⟩
structure yo(P:Program)(w:World)(K:Frag)(mg:Str->Option Value)(base:Heap)(G:jf):Prop where
 CL:Ok P w K mg base 3 "note_text" ["note"] (gn K)
theorem yp (D:Def K mg "bar_text" jy ["bar"]) (T:Txt P w K mg G) (O:yo P w K mg base G):Ok P w K mg base 4 "bar_text" ["bar"] (gX K):=by
 have S:=yn
 refine D.ok S (fun vs H Q E h=>?_) (fun f bO A outer s H vs Q E hr h=>?_)
 ·obtain ⟨_,_,_,rfl,_⟩:=h;rfl
 ·obtain ⟨a,xs,ns,rfl,ha,hn,Xv,bf,k⟩:=h
  have hu:=aS hr
  have ax:=T.ax
  have ai:=T.ai
  refine⟨_,(ak (aC (cP PySem.F.plainAttrs_str PySem.F.slot_str_join PySem.F.type_str_join kf aN (aa (bu (N:=["note"]) (ix:=[none]) rfl (b8 K rfl (pv 0)) (fun _ _ _ _ _=>(av (i:=0) (show jJ ["note"] by decide +kernel) rfl (Or.inl rfl))) (fun _ _ _ _ _=>rfl) (fun _ _ _ _ _=>(aF O.CL (hr.mono (by decide)) (aa (pv 0) af))) rfl (by decide +kernel) (by decide +kernel) rfl True.intro) af)))),?_⟩
  have lx:=hn.length
  walk_at "w"
  refine pd [] (fun i=>V.str (za (ns.getD i (none,0,0)))) rfl ha (by lia) (fun i x H' Qc hx s kc=>?_) (fun l H' hl s m=>?_)
  ·obtain ⟨n,Jj,y8⟩:=(hn.same s).get hx
   have zc:n∈ns:=ZH y8
   have e:ns.getD i (none,0,0)=n:=by rw [List.getD,y8];rfl
   rw [e] at kc
   obtain ⟨a1,t1,l1,rfl,Xw⟩:=id Jj
   walk_at "w"
   exact yd ⟨Jj,(bf n zc).1,(bf n zc).2⟩ fun H5 s5 l5=>kc _ s5
  ·rw [<- lx,iM (fun n=>V.str (za n)) (none,0,0) ns,show ns.map (fun n=>V.str (za n))=(ns.map za).map V.str by rw [ZW];rfl] at m
   have hs:=eM (b:=400) (l:=ns.map za) (fun z hz=>by
    obtain ⟨n,E5,rfl⟩:=ZM.mp hz
    exact Bw (bf n E5).1 (bf n E5).2)
   have hj:=dY (PySem.Str.ofString " ") (ns.map za)
   rw [ZI] at hs hj
   have e1:(PySem.Str.ofString " ").length=1:=by decide
   rw [e1] at hj
   walk_at "w"
   refine oj m (by decide) (by rw [ZI];lia) ?_
   refine k _ s ?_
   show (Str.join (PySem.Str.ofString " ") (ns.map za)).length<=10000
   lia
theorem vH:az ["tune","bars"] ["tune"] (ao gM):=⟨rfl,rfl,rfl,by decide +kernel,rfl,by decide +kernel,by decide +kernel⟩
structure vI(P:Program)(w:World)(K:Frag)(mg:Str->Option Value)(base:Heap)(G:jf):Prop where
 hU:Ok P w K mg base 1 "length_text" ["length"] (da K)
 FD:Ok P w K mg base 4 "bar_text" ["bar"] (gX K)
theorem vJ (D:Def K mg "tune_text" gM ["tune"]) (T:Txt P w K mg G) (O:vI P w K mg base G):Ok P w K mg base 5 "tune_text" ["tune"] (gp K):=by
 have S:=vH
 refine D.ok S (fun vs H Q E h=>?_) (fun f bO A outer s H vs Q E hr h=>?_)
 ·obtain ⟨_,_,_,_,_,_,rfl,_⟩:=h;rfl
 ·obtain ⟨a,m,l,mt,xs,bs,rfl,⟨ha,hm,hl,S2⟩,Xv,bf,Vz,k⟩:=h
  have hu:=aS hr
  have ax:=T.ax
  have ai:=T.ai
  refine⟨_,(ag (aq (i:=1) S.nd rfl (Or.inl rfl) (cP PySem.F.plainAttrs_str PySem.F.slot_str_join PySem.F.type_str_join kf (bo (v:=V.str " | ") rfl T.pF ⟨_,rfl⟩) (aa (bu (N:=["bar"]) (ix:=[none]) rfl (b8 K rfl (aD (ay K rfl) (pv 0) ae (fun _ _=>rfl))) (fun _ _ _ _ _=>(av (i:=0) (show jJ ["bar"] by decide +kernel) rfl (Or.inl rfl))) (fun _ _ _ _ _=>rfl) (fun _ _ _ _ _=>(aF O.FD (hr.mono (by decide)) (aa (pv 0) af))) rfl (by decide +kernel) (by decide +kernel) rfl True.intro) af))) (ak (aC (aj bL (aj bL (aF O.hU (hr.mono (by decide)) (aa (aD (ay K rfl) (pv 0) ae (fun _ _=>rfl)) af)) (bo (v:=V.str ": ") rfl T.nA ⟨_,rfl⟩)) (pv 1))))),?_⟩
  have lx:=S2.length
  walk_at "w"
  refine pd [] (fun i=>V.str (zb (bs.getD i []))) rfl (bj.of hl) (by lia) (fun i x H' Qc hx s kc=>?_) (fun l2 H' GI s m2=>?_)
  ·obtain ⟨a1,zs,ns,rfl,hz,MJ,y8⟩:=(S2.same s).get hx
   have zc:ns∈bs:=ZH y8
   have e:bs.getD i []=ns:=by rw [List.getD,y8];rfl
   rw [e] at kc
   walk_at "w"
   exact zW ⟨bj.of hz,MJ,(bf ns zc).1,(bf ns zc).2⟩ fun H5 s5 l5=>kc _ s5
  ·rw [<- lx,iM (fun n=>V.str (zb n)) [] bs,show bs.map (fun n=>V.str (zb n))=(bs.map zb).map V.str by rw [ZW];rfl] at m2
   have hs:=eM (b:=10000) (l:=bs.map zb) (fun z hz=>by
    obtain ⟨ns,E5,rfl⟩:=ZM.mp hz
    exact Ir (bf ns E5).1 (bf ns E5).2)
   have hj:=dY (PySem.Str.ofString " | ") (bs.map zb)
   rw [ZI] at hs hj
   have e1:(PySem.Str.ofString " | ").length=3:=by decide
   have e2:(PySem.Str.ofString ": ").length=2:=by decide
   rw [e1] at hj
   have QG:=s.at hm
   have VA:=s.at ha
   have l9:=va Vz
   obtain ⟨tt,bb,rfl,h1,h2⟩:=Vz
   have k:∀ H',ah H H'->Q (.str (aJ.txt tt++aJ.aA++aJ.txt bb++PySem.Str.ofString ": "++Str.join (PySem.Str.ofString " | ") (bs.map zb))) H':=k
   have l9:(aJ.txt tt++aJ.aA++aJ.txt bb).length<=9:=l9
   walk_at "w"
   refine oj m2 (by decide) (by rw [ZI];lia) ?_
   generalize Str.join (PySem.Str.ofString " | ") (bs.map zb)=J at hj k ⊢
   walk_at "w"
   refine fH QG h1 h2 ?_
   generalize aJ.txt tt++aJ.aA++aJ.txt bb=y at l9 k ⊢
   walk_at "w"
   refine cD (Zm (show (y++PySem.Str.ofString ": ").length+J.length<=1000000 by rw [PySem.strLen_append,e2];lia) (show 1000000<=sizeLine by decide)) ?_
   exact k _ s
theorem qa:az ["_law_script","_law_k"] ["_law_script","_law_k"] (ao fw):=⟨rfl,rfl,rfl,by decide +kernel,rfl,by decide +kernel,by decide +kernel⟩
theorem qb (D:Def K mg "_law_cell_at" fw ["_law_script","_law_k"]) (T:Txt P w K mg G):Ok P w K mg base 1 "_law_cell_at" ["_law_script","_law_k"] (bK K):=by
 have S:=qa
 refine D.ok S (fun vs H Q E h=>?_) (fun f bO A outer s H vs Q E hr h=>?_)
 ·obtain ⟨_,_,_,rfl,_⟩:=h;rfl
 ·obtain ⟨a,ns,k,rfl,hs,h0,hQ⟩:=h
  have hu:=aS hr
  have ax:=T.ax
  have ai:=T.ai
  refine⟨_,(ag (bJ (aQ Dt (pv 1) (aH (fU K rfl) rfl T.gv PySem.boot_len (aa (pv 0) af)) (aU _)) (ak (aC (aD (ay K rfl) (pv 0) (pv 1) (fun _ _=>rfl)))) aP) (ak (aC ae))),?_⟩
  walk_at "w"
  refine cu (fun hc=>?_) (fun hc=>?_)
  ·have jn:k.toNat<ns.length:=by simp at hc;lia
   obtain ⟨j,rfl⟩:=Int.eq_ofNat_of_zero_le h0
   repeat walk_at "r"
   exact nq hs (cU (int_at (by simpa using jn))) hQ
  ·have Ve:ns.length<=k.toNat:=by simp at hc;lia
   have e:ns.getD k.toNat 0=0:=by rw [List.getD,List.getElem?_eq_none Ve];rfl
   rw [e] at hQ
   walk_at "w"
   exact hQ
theorem qW:az ["_law_top","_law_bottom","_law_one","_law_other"] ["_law_top","_law_bottom"] (ao f7):=⟨rfl,rfl,rfl,by decide +kernel,rfl,by decide +kernel,by decide +kernel⟩
theorem qX (D:Def K mg "_law_lowest" f7 ["_law_top","_law_bottom"]) (T:Txt P w K mg G):Ok P w K mg base 1 "_law_lowest" ["_law_top","_law_bottom"] (cm K):=by
 have S:=qW
 refine D.ok S (fun vs H Q E h=>?_) (fun f bO A outer s H vs Q E hr h=>?_)
 ·obtain ⟨_,_,rfl,_⟩:=h;rfl
 ·obtain ⟨t,b,rfl,h0,h9,k⟩:=h
  have hu:=aS hr
  have ax:=T.ax
  have ai:=T.ai
  refine⟨_,(ag (aq (i:=2) S.nd rfl (Or.inl rfl) (pv 0)) (ag (aq (i:=3) S.nd rfl (Or.inl rfl) (pv 1)) (ag (oy PassesOwn.never (aQ tO (pv 3) ae (aU _)) (ak (Kk (i:=2) (j:=3) rfl S.nd rfl rfl (by decide) rfl rfl (aa (pv 3) (aa (aj aV (pv 2) (pv 3)) af)) rfl))) (ak (aC (aR (aa (aj jX (pv 0) (pv 2)) (aa (aj jX (pv 1) (pv 2)) af)))))))),?_⟩
  walk_at "w"
  have hg:0<Nat.gcd t b:=Nat.gcd_pos_of_pos_right _ h0
  have hl:=Pp hg (ZN (zM h0) h9)
  have Xj:(0:Int)<(Nat.gcd t b:Nat):=by lia
  refine join (fun σ' H'=>σ'=[some (.int t),some (.int b),some (.int (Nat.gcd t b:Nat)),some (.int 0)]/\H'=H) (fun nx Ad=>?_) (fun σ' H' hP=>?_)
  ·refine uQ (fun m σ' H'=>∃ (f:Nat),σ'=[some (.int t),some (.int b),some (.int f),some (.int m)]/\H'=H/\Nat.gcd f m=Nat.gcd t b) b ⟨_,rfl,rfl,rfl⟩ (fun m σ' H' hw=>?_)
   obtain ⟨f,rfl,rfl,S6⟩:=hw
   walk_at "w"
   refine cu (fun hc=>?_) (fun hc=>?_)
   ·have hm:0<m:=by simp at hc;lia
    refine Ly ?_
    walk_at "w"
    refine⟨f % m,mod_lt _ hm,m,by rw [Int.natCast_emod] <;> rfl,rfl,?_⟩
    rw [oN]
    exact S6
   ·have hm:m=0:=by simp at hc;lia
    subst hm
    rw [Nat.gcd_zero_right] at S6
    subst S6
    exact Ad _ _ ⟨rfl,rfl⟩
  obtain ⟨rfl,rfl⟩:=hP
  walk_at "w"
  rename_i p2 H2 s2 m2
  refine k _ _ s2 ?_
  rw [m2,natCast_ediv,natCast_ediv]
theorem vK:az ["_law_cell","_law_k","_law_first"] ["_law_cell","_law_k"] (ao gN):=⟨rfl,rfl,rfl,by decide +kernel,rfl,by decide +kernel,by decide +kernel⟩
theorem vL (D:Def K mg "_law_mixed" gN ["_law_cell","_law_k"]) (T:Txt P w K mg G):Ok P w K mg base 1 "_law_mixed" ["_law_cell","_law_k"] (de K):=by
 have S:=vK
 refine D.ok S (fun vs H Q E h=>?_) (fun f bO A outer s H vs Q E hr h=>?_)
 ·obtain ⟨_,_,rfl,_⟩:=h;rfl
 ·obtain ⟨c,j,rfl,hj,k⟩:=h
  have hu:=aS hr
  have ax:=T.ax
  have ai:=T.ai
  refine⟨_,(ag (aq (i:=2) S.nd rfl (Or.inl rfl) (aj aV (aj cp (aj aV (aj aK (aj aK (aj cp (aj aV (pv 0) (aj uz ae ae)) ae) (aj cp (aj cp (pv 1) (pv 1)) ae)) ae) ae) ae) ae)) (ak (aC (aj aV (aj aK (aj aK (aj cp (pv 2) (pv 2)) (aj cp ae (pv 2))) (pv 1)) ae)))),?_⟩
  walk_at "w"
  exact k _ (emod_nonneg _ (by decide)) (emod_lt_of_pos _ (by decide))
theorem vM:az ["_law_found","_law_due","_law_one","_law_other"] ["_law_found","_law_due"] (ao gO):=⟨rfl,rfl,rfl,by decide +kernel,rfl,by decide +kernel,by decide +kernel⟩
theorem vN (D:Def K mg "_law_alike" gO ["_law_found","_law_due"]) (T:Txt P w K mg G):∀ n:Nat,Ok P w K mg base (0+n+1) "_law_alike" ["_law_found","_law_due"] (dQ K n):=by
 have S:=vM
 intro n
 induction n with
 | zero=>exact D.ok S (fun vs H Q E h=>absurd h (jg K)) (fun f bO A outer s H vs Q E hr h=>absurd h (jg K))
 | succ n ih =>
 refine D.ok (k:=0+n+1) S (fun vs H Q E h=>?_) (fun f bO A outer s H vs Q E hr h=>?_)
 ·obtain ⟨_,_,rfl,_⟩:=h;rfl
 ·obtain ⟨x,y,rfl,hA,k⟩:=h
  have hu:=aS hr
  have ax:=T.ax
  have ai:=T.ai
  refine⟨_,(ag (bJ (PW.pt (tM (aQ oz (pv 1) fR (aU _)) (kM (cv (aH (bP K rfl) rfl T.aZ boot_isinstance (aa (pv 1) (aa (cJ (v:=V.ty "str") rfl T.uo boot_str rfl) af))))))) (ak (aC (Np (kO (iJ oz (pv 1) fR (aU _)) (kN (iJ oz (pv 0) fR (aU _)))) (kN (kO (aH (bP K rfl) rfl T.aZ boot_isinstance (aa (pv 0) (aa (cJ (v:=V.ty "str") rfl T.uo boot_str rfl) af))) (kN (iJ gB (pv 0) (pv 1) (aU _)))))))) aP) (ag (bJ (cv (aH (bP K rfl) rfl T.aZ boot_isinstance (aa (pv 1) (aa (cJ (v:=V.ty "int") rfl T.um boot_int rfl) af)))) (ak (aC (kO (aH (bP K rfl) rfl T.aZ boot_isinstance (aa (pv 0) (aa (cJ (v:=V.ty "int") rfl T.um boot_int rfl) af))) (kO (Dl (aH (bP K rfl) rfl T.aZ boot_isinstance (aa (pv 0) (aa (cJ (v:=V.ty "bool") rfl T.Fh boot_bool rfl) af)))) (kN (iJ gB (pv 0) (pv 1) (aU _))))))) aP) (ag (bJ (PW.pt (tM (PW.pt (zf (cv (aH (bP K rfl) rfl T.aZ boot_isinstance (aa (pv 1) (aa (cJ (v:=V.ty "tuple") rfl T.eZ boot_tuple rfl) af)))) (uv (dE (cv (aH (bP K rfl) rfl T.aZ boot_isinstance (aa (pv 0) (aa (cJ (v:=V.ty "tuple") rfl T.eZ boot_tuple rfl) af)))))))) (kM (PW.pt (zf (cv (aH (bP K rfl) rfl T.aZ boot_isinstance (aa (pv 1) (aa (cJ (v:=V.ty "list") rfl T.vf boot_list rfl) af)))) (uv (dE (cv (aH (bP K rfl) rfl T.aZ boot_isinstance (aa (pv 0) (aa (cJ (v:=V.ty "list") rfl T.vf boot_list rfl) af))))))))))) (ak (aC gu)) aP) (ag (bJ (aQ tO (aH (fU K rfl) rfl T.gv PySem.boot_len (aa (pv 0) af)) (aH (fU K rfl) rfl T.gv PySem.boot_len (aa (pv 1) af)) (aU _)) (ak (aC gu)) aP) (ag (cR PassesOwn.never rfl (Ih (d8 K rfl true true rfl T.nz (aa (pv 0) (aa (pv 1) af))) (d8 K rfl false false rfl T.nz (aa (pv 0) (aa (pv 1) af)))) (bY (n:=2) K rfl rfl (aE (av (i:=2) S.nd rfl (Or.inl rfl)) (aE (av (i:=3) S.nd rfl (Or.inl rfl)) bX))) (ak (bJ (dE (cv (aF ih hr (aa (pv 2) (aa (pv 3) af))))) (ak (aC gu)) aP))) (ak (aC gu))))))),?_⟩
  rcases hA with ⟨rfl,rfl⟩|⟨z,rfl,rfl⟩|⟨i,rfl,rfl⟩|⟨a,b,xs,ys,rfl,rfl,hk,hl,hb,PN⟩
  ·iterate 20 (first|exact k _ (ah.refl _)|refine⟨rfl,?_⟩|refine gF rfl ?_|refine cY rfl ?_|(walk_at "w"))
  ·iterate 16 (first|exact k _ (ah.refl _)|refine⟨rfl,?_⟩|refine gF rfl ?_|refine cY rfl ?_|refine gF (Zv rfl) ?_|(walk_at "w"))
   rw [Zv rfl]
   exact k _ (ah.refl _)
  ·iterate 16 (first|exact k _ (ah.refl _)|refine⟨rfl,?_⟩|refine gF rfl ?_|refine cY rfl ?_|refine gF (Zv rfl) ?_|(walk_at "w"))
   rw [Zv rfl]
   exact k _ (ah.refl _)
  ·rcases hk with ⟨h1,h2⟩|⟨h1,h2⟩
   ·iterate 24 (first|refine⟨rfl,?_⟩|refine gF rfl ?_|refine cY rfl ?_|refine cY (by rw [Zv (by lia)];rfl) ?_|(walk_at "w"))
    refine LZ ?_
    walk_at "w"
    refine EM (k1:=true) (k2:=true) (xs:=xs) (ys:=ys) hl (fun i σ H2=>∃ o1 o2:Option V,σ=[some (.ref a),some (.ref b),o1,o2]/\ah H H2) ⟨_,_,rfl,ah.refl _⟩ (fun i σ H2 hp=>by obtain ⟨_,_,rfl,sn⟩:=hp;exact⟨oU (sn.at h1),oU (sn.at h2)⟩) (fun i x y σ H2 H3 hx hy hp s3=>?_) (fun σ H2 hp=>?_)
    ·obtain ⟨o1,o2,rfl,s2⟩:=hp
     walk_at "w"
     refine cz ((PN i x y hx hy).same (s2.trans s3)) fun H4 s4=>?_
     walk_at "w"
     refine cY rfl ?_
     walk_at "w"
     exact⟨_,_,rfl,(s2.trans s3).trans s4⟩
    ·obtain ⟨o1,o2,rfl,s2⟩:=hp
     walk_at "w"
     exact k _ s2
   ·iterate 24 (first|refine⟨rfl,?_⟩|refine gF rfl ?_|refine cY rfl ?_|refine cY (by rw [Zv (by lia)];rfl) ?_|(walk_at "w"))
    refine Ii ?_
    walk_at "w"
    refine EM (k1:=false) (k2:=false) (xs:=xs) (ys:=ys) hl (fun i σ H2=>∃ o1 o2:Option V,σ=[some (.ref a),some (.ref b),o1,o2]/\ah H H2) ⟨_,_,rfl,ah.refl _⟩ (fun i σ H2 hp=>by obtain ⟨_,_,rfl,sn⟩:=hp;exact⟨cC (bj.of (sn _ _ h1)),cC (bj.of (sn _ _ h2))⟩) (fun i x y σ H2 H3 hx hy hp s3=>?_) (fun σ H2 hp=>?_)
    ·obtain ⟨o1,o2,rfl,s2⟩:=hp
     walk_at "w"
     refine cz ((PN i x y hx hy).same (s2.trans s3)) fun H4 s4=>?_
     walk_at "w"
     refine cY rfl ?_
     walk_at "w"
     exact⟨_,_,rfl,(s2.trans s3).trans s4⟩
    ·obtain ⟨o1,o2,rfl,s2⟩:=hp
     walk_at "w"
     exact k _ s2
theorem nT:az ["_law_mixed_here","_law_rows","_law_name","_law_row","_law_steps","_law_signs","_law_step","_law_share","_law_count","_law_octave"] ["_law_mixed_here"] (ao d9):=⟨rfl,rfl,rfl,by decide +kernel,rfl,by decide +kernel,by decide +kernel⟩
theorem nU (D:Def K mg "_law_name_row" d9 ["_law_mixed_here"]) (T:Txt P w K mg G):Ok P w K mg base 1 "_law_name_row" ["_law_mixed_here"] (dH K):=by
 have S:=nT
 refine D.ok S (fun vs H Q E h=>?_) (fun f bO A outer s H vs Q E hr h=>?_)
 ·obtain ⟨_,rfl,_⟩:=h;rfl
 ·obtain ⟨c,rfl,hc,k⟩:=h
  have hu:=aS hr
  have ax:=T.ax
  have ai:=T.ai
  refine⟨_,(@ag _ _ _ _ _ (bJ (aQ gB (aj aV (aj cT (pv 0) ae) ae) ae (aU _)) (ak (aC (aR (aa aN (aa fR af))))) aP) (@ag _ _ _ _ _ (@aq _ _ 1 _ _ _ _ S.nd rfl (Or.inl rfl) (@bN _ _ _ _ (@aa _ _ _ _ _ (@aR _ _ _ _ _ (aa ae (aa (cS cg ae) (aa ae (aa ae (aa ae af)))))) (@aa _ _ _ _ _ (@aR _ _ _ _ _ (aa ae (aa ae (aa ae (aa ae (aa ae af)))))) (@aa _ _ _ _ _ (@aR _ _ _ _ _ (aa (cS cg ae) (aa ae (aa ae (aa ae (aa ae af)))))) (@aa _ _ _ _ _ (@aR _ _ _ _ _ (aa (cS cg ae) (aa ae (aa ae (aa ae (aa ae af)))))) (@aa _ _ _ _ _ (@aR _ _ _ _ _ (aa (cS cg ae) (aa ae (aa ae (aa ae (aa ae af)))))) af (by rfl)) (by rfl)) (by rfl)) (by rfl)) (by rfl))) (by rfl) (by first|exact .inl rfl|exact .inr rfl|assumption)) (@ag _ _ _ _ _ (@aq _ _ 1 _ _ _ _ S.nd rfl (Or.inl rfl) (@aj _ _ _ _ _ _ _ _ zo (pv 1) (@bN _ _ _ _ (@aa _ _ _ _ _ (@aR _ _ _ _ _ (aa (cS cg ae) (aa ae (aa ae (aa ae (aa ae af)))))) (@aa _ _ _ _ _ (@aR _ _ _ _ _ (aa (cS cg ae) (aa ae (aa ae (aa ae (aa ae af)))))) af (by rfl)) (by rfl)))) (by rfl) (by first|exact .inl rfl|exact .inr rfl|assumption)) (@ag _ _ _ _ _ (aq (i:=2) S.nd rfl (Or.inl rfl) (aD fo aN (aj aV (pv 0) ae) (fun _ _=>rfl))) (@ag _ _ _ _ _ (aq (i:=3) S.nd rfl (Or.inl rfl) (aD (ay K rfl) (pv 1) (aj aV (pv 0) ae) (fun _ _=>rfl))) (@ag _ _ _ _ _ (@aq _ _ 4 _ _ _ _ S.nd rfl (Or.inl rfl) (@bN _ _ _ _ (@aa _ _ _ _ _ (@aR _ _ _ _ _ (aa (cS cg ae) (aa ae (aa ae (aa ae (aa ae af)))))) (@aa _ _ _ _ _ (@aR _ _ _ _ _ (aa (cS cg ae) (aa ae (aa (cS cg ae) (aa ae (aa ae af)))))) (@aa _ _ _ _ _ (@aR _ _ _ _ _ (aa ae (aa (cS cg ae) (aa ae (aa (cS cg ae) (aa ae af)))))) (@aa _ _ _ _ _ (@aR _ _ _ _ _ (aa (cS cg ae) (aa ae (aa ae (aa ae (aa ae af)))))) af (by rfl)) (by rfl)) (by rfl)) (by rfl))) (by rfl) (by first|exact .inl rfl|exact .inr rfl|assumption)) (ag (cR PassesOwn.never rfl (Er K rfl false false false rfl T.nz (@aa _ _ _ _ _ (bN (aa aN (aa aN (aa aN (aa aN af))))) (@aa _ _ _ _ _ (pv 4) (@aa _ _ _ _ _ (bN (aa ae (aa ae (aa ae (aa ae af))))) af (by rfl)) (by rfl)) (by rfl))) (bY (n:=3) K rfl rfl (aE (av (i:=5) S.nd rfl (Or.inl rfl)) (aE (av (i:=6) S.nd rfl (Or.inl rfl)) (aE (av (i:=7) S.nd rfl (Or.inl rfl)) bX)))) (ag (aq (i:=8) S.nd rfl (Or.inr rfl) (aj bp (aj aV (aj cT (pv 0) (pv 7)) ae) ae)) (ag (aq (i:=2) S.nd rfl (Or.inl rfl) (aj bL (aj bL (pv 2) (aj iP (aD fo (pv 5) ae (fun _ _=>rfl)) (pv 8))) (aj iP (aD fo (pv 5) ae (fun _ _=>rfl)) (aj bp ae (pv 8))))) (ak (aq (i:=3) S.nd rfl (Or.inl rfl) (bt (gG K rfl) rfl T.eZ boot_tuple (aa (bu (N:=["_law_x","_law_y","_law_count"]) (ix:=[none,none,some 8]) rfl (d8 K rfl true true rfl T.nz (aa (pv 3) (aa (pv 6) af))) (fun _ _ _ _ _=>(bY (n:=2) K rfl rfl (aE (av (i:=0) (show jJ ["_law_x","_law_y","_law_count"] by decide +kernel) rfl (Or.inl rfl)) (aE (av (i:=1) (show jJ ["_law_x","_law_y","_law_count"] by decide +kernel) rfl (Or.inl rfl)) bX)))) (fun _ _ _ _ _=>rfl) (fun _ _ _ _ _=>(aj aK (pv 0) (aj cp (pv 2) (pv 1)))) rfl (by decide +kernel) (by decide +kernel) rfl ⟨⟨rfl,Or.inr (Or.inl rfl),rfl,rfl⟩,True.intro⟩) af))))))) (ag (aq (i:=9) S.nd rfl (Or.inl rfl) (aj bp (aj aV (aj cT (pv 0) ae) ae) ae)) (ak (aC (aR (aa (aj bL (aj bL (pv 2) aN) (bt iO rfl T.uo boot_str (aa (pv 9) af))) (aa (aj (Ek K rfl) (aR (aa (aj aK (aD (ay K rfl) (pv 3) ae (fun _ _=>rfl)) (pv 9)) af)) (gC (G8 K rfl) (pv 3) (iK ae) n8)) af))))))))))))),?_⟩
  walk_at "w"
  refine cu (fun h1=>?_) (fun h1=>?_)
  ·walk_at "w"
   rename_i p1 H1 s1 m1
   exact k p1 H1 _ _ none s1 m1 rfl rfl
  ·obtain ⟨j,hj⟩:∃ j:Nat,c % 7=(j:Int):=⟨(c % 7).toNat,by lia⟩
   have JX:j<7:=by lia
   walk_at "w"
   rw [hj]
   obtain ⟨L,hL⟩:∃ L,([70,67,71,68,65,69,66]:List Nat)[j]?=some L:=⟨_,ZC (by simpa using JX)⟩
   refine ka (c:=L) (au (by decide +kernel)) (cU (by rw [show (PySem.Str.ofString "FCGDAEB").cps.toList=[70,67,71,68,65,69,66] by decide];exact hL)) ?_
   walk_at "w"
   rename_i p0 H0 s0 m0 p1 H1 s1 m1 p2 H2 s2 m2 p3 H3 s3 m3 p4 H4 s4 m4 pa Ha na sa ma p5 H5 s5 m5 p6 H6 s6 m6 pb Hb nb sb mb pc Hc nc sc mc
   have e6:=sc _ _ (sb _ _ m6)
   have e5:=sc _ _ (sb _ _ (s6 _ _ m5))
   have sA:ah Ha Hc:=((s5.trans s6).trans sb).trans sc
   have sT:ah H Hc:=(((((s0.trans s1).trans s2).trans s3).trans s4).trans sa).trans sA
   have e4:=sA _ _ (sa _ _ m4)
   have e3:=sA _ _ (sa _ _ (s4 _ _ m3))
   have e2:=sA _ _ (sa _ _ (s4 _ _ (s3 _ _ m2)))
   have e1:=sA _ _ (sa _ _ (s4 _ _ (s3 _ _ (s2 _ _ m1))))
   have e0:=sA _ _ (sa _ _ (s4 _ _ (s3 _ _ (s2 _ _ (s1 _ _ m0)))))
   obtain ⟨q,r0,r1,hq,VB,PH,PJ,MY,PK⟩:∃ (q:Addr) (r0 r1:Int),tU ([V.ref p0,V.ref p1,V.ref p2,V.ref p3,V.ref p4]++[V.ref p5,V.ref p6]) (j:Int)=some (.ref q)/\Hc q=some (.tup [.int r0,.int r1,.int 0,.int 0,.int 0])/\([70,67,71,68,65,69,66]:List Nat).getD j 0=L/\([2,0,-1,-3,-4,-6,-7]:List Int).getD j 0=r0/\r1+1=(j:Int)/\(-7<=r0/\r0<=2):=by
    match j,JX with
    | 0,_=>cases hL;exact⟨_,_,_,rfl,e0,rfl,rfl,rfl,by decide⟩
    | 1,_=>cases hL;exact⟨_,_,_,rfl,e1,rfl,rfl,rfl,by decide⟩
    | 2,_=>cases hL;exact⟨_,_,_,rfl,e2,rfl,rfl,rfl,by decide⟩
    | 3,_=>cases hL;exact⟨_,_,_,rfl,e3,rfl,rfl,rfl,by decide⟩
    | 4,_=>cases hL;exact⟨_,_,_,rfl,e4,rfl,rfl,rfl,by decide⟩
    | 5,_=>cases hL;exact⟨_,_,_,rfl,e5,rfl,rfl,rfl,by decide⟩
    | 6,_=>cases hL;exact⟨_,_,_,rfl,e6,rfl,rfl,rfl,by decide⟩
   rw [hj]
   refine nq (bj.of mc) hq ?_
   clear e0 e1 e2 e3 e4 e5 e6 m0 m1 m2 m3 m4 ma m5 m6 mb s0 s1 s2 s3 s4 sa s5 s6 sb sc sA na nb nc hq
   walk_at "w"
   rename_i t0 T0 y0 v0 t1 T1 y1 v1 t2 T2 y2 v2 t3 T3 y3 v3 ls Ts ns ys vs lg Tg ng yg vg li Ti ni yi vi
   obtain ⟨cf,VC⟩:∃ cf:Nat->Int,cf=fun i=>c / ([7,21,63,189]:List Int).getD i 1 % 3 - 1:=⟨_,rfl⟩
   have FE:∀ i,i<4->-1<=cf i/\cf i<=1:=by
    intro i hi
    rw [VC]
    show -1<=c / _ % 3 - 1/\c / _ % 3 - 1<=1
    lia
   have sH:ah Hc Ti:=(((((y0.trans y1).trans y2).trans y3).trans ys).trans yg).trans yi
   have w3:=yi _ _ (yg _ _ (ys _ _ v3))
   have w2:=yi _ _ (yg _ _ (ys _ _ (y3 _ _ v2)))
   have w1:=yi _ _ (yg _ _ (ys _ _ (y3 _ _ (y2 _ _ v1))))
   have w0:=yi _ _ (yg _ _ (ys _ _ (y3 _ _ (y2 _ _ (y1 _ _ v0)))))
   have wg:=yi _ _ vg
   have ws:=yi _ _ (yg _ _ vs)
   have wq:=sH _ _ VB
   clear y0 y1 y2 y3 ys yg yi v0 v1 v2 v3 vg vs VB ns ng ni
   refine Ij (K:=K) (k1:=false) (k2:=false) (k3:=false) (xs:=[V.str (PySem.Str.ofString "#b"),V.str (PySem.Str.ofString "+-"),V.str (PySem.Str.ofString "><"),V.str (PySem.Str.ofString "^v")]) (ys:=[V.ref t0,V.ref t1,V.ref t2,V.ref t3]) (zs:=[V.int 7,V.int 21,V.int 63,V.int 189]) rfl rfl (fun i σ Hn=>∃ (o5 o6 o7 o8:Option V) (p:Addr) (T':PySem.Str),σ=[some (.int c),some (.ref pc),some (.str T'),some (.ref p),some (.ref ls),o5,o6,o7,o8,none]/\ah Ti Hn/\Hn p=some (.tup [.int (sx r0 cf [-11,-4,6,-5] (i)),.int (sx r1 cf [7,4,-2,1] (i)),.int (sx 0 cf [0,-1,0,0] (i)),.int (sx 0 cf [0,0,-1,0] (i)),.int (sx 0 cf [0,0,0,1] (i))])/\T'.cps.toList=L::([aI.seg 35 98 (cf 0),aI.seg 43 45 (cf 1),aI.seg 62 60 (cf 2),aI.seg 94 118 (cf 3)].take i).flatten/\T'.length<=1+2*i) ⟨_,_,_,_,q,_,rfl,ah.refl _,wq,rfl,Zn _⟩ (fun i σ Hn hp=>by obtain ⟨_,_,_,_,_,_,rfl,sn,_⟩:=hp;exact⟨cC (bj.of (sn _ _ wg)),cC (bj.of (sn _ _ ws)),cC (bj.of (sn _ _ vi))⟩) (fun i x y z σ Hn Hm hx hy hz hp sm=>?_) (fun σ Hn hp=>?_)
   ·obtain ⟨o5,o6,o7,o8,p,T',rfl,sn,mp,hT,lT⟩:=hp
    have hi:i<4:=(Zi.mp hx).1
    obtain ⟨S',c1,d1,tA,x0,x1,x2,x3,x4,sh,rfl,rfl,rfl,hS,VD,Xx,QH,J3,Xy,Xz,Qo,XA,MW,YM⟩:∃ (S':PySem.Str) (c1 d1:Nat) (tA:Addr) (x0 x1 x2 x3 x4 sh:Int),x=.str S'/\y=.ref tA/\z=.int sh/\S'.cps.toList=[c1,d1]/\Ti tA=some (.tup [.int x0,.int x1,.int x2,.int x3,.int x4])/\x0=([-11,-4,6,-5]:List Int).getD i 0/\x1=([7,4,-2,1]:List Int).getD i 0/\x2=([0,-1,0,0]:List Int).getD i 0/\x3=([0,0,-1,0]:List Int).getD i 0/\x4=([0,0,0,1]:List Int).getD i 0/\c / sh % 3 - 1=cf i/\(0<sh/\sh<=200)/\[aI.seg 35 98 (cf 0),aI.seg 43 45 (cf 1),aI.seg 62 60 (cf 2),aI.seg 94 118 (cf 3)][i]?=some (aI.seg c1 d1 (cf i))/\(∀ v∈[x0,x1,x2,x3,x4],-1000<=v/\v<=1000):=by
     rw [VC]
     match i,hi with
     | 0,_=>cases hx;cases hy;cases hz;exact⟨_,35,98,t0,_,_,_,_,_,7,rfl,rfl,rfl,by decide,w0,rfl,rfl,rfl,rfl,rfl,rfl,by decide,rfl,by decide⟩
     | 1,_=>cases hx;cases hy;cases hz;exact⟨_,43,45,t1,_,_,_,_,_,21,rfl,rfl,rfl,by decide,w1,rfl,rfl,rfl,rfl,rfl,rfl,by decide,rfl,by decide⟩
     | 2,_=>cases hx;cases hy;cases hz;exact⟨_,62,60,t2,_,_,_,_,_,63,rfl,rfl,rfl,by decide,w2,rfl,rfl,rfl,rfl,rfl,rfl,by decide,rfl,by decide⟩
     | 3,_=>cases hx;cases hy;cases hz;exact⟨_,94,118,t3,_,_,_,_,_,189,rfl,rfl,rfl,by decide,w3,rfl,rfl,rfl,rfl,rfl,rfl,by decide,rfl,by decide⟩
    have lS:S'.length=2:=by show S'.cps.size=2;rw [<- Array.length_toList,hS];rfl
    have kb:=FE i hi
    obtain ⟨kk,QD⟩:∃ kk,cf i=kk:=⟨_,rfl⟩
    rw [QD] at Qo MW kb
    have J2:=aL.of (K:=K) (sm _ _ mp)
    have S7:=aL.of (K:=K) ((sn.trans sm) _ _ VD)
    clear w0 w1 w2 w3 wg ws wq VD mp vi mc
    walk_at "w"
    rw [Qo]
    refine ka (c:=c1) (au (by lia)) (cU (j:=0) (by rw [hS];rfl)) ?_
    walk_at "w"
    refine lj (by lia) ?_
    have q1:(jv c1 kk.toNat).length=kk.toNat:=Array.size_replicate
    have q2:(jv d1 (0 - kk).toNat).length=(0 - kk).toNat:=Array.size_replicate
    walk_at "w"
    refine ka (c:=d1) (au (by lia)) (cU (j:=1) (by rw [hS];rfl)) ?_
    walk_at "w"
    refine lj (by lia) ?_
    refine cD (au (by rw [PySem.strLen_append];lia)) ?_
    walk_at "w"
    obtain ⟨a0,VE⟩:∃ a,sx r0 cf [-11,-4,6,-5] i=a:=⟨_,rfl⟩
    obtain ⟨a1,VF⟩:∃ a,sx r1 cf [7,4,-2,1] i=a:=⟨_,rfl⟩
    obtain ⟨a2,VG⟩:∃ a,sx 0 cf [0,-1,0,0] i=a:=⟨_,rfl⟩
    obtain ⟨a3,VH⟩:∃ a,sx 0 cf [0,0,-1,0] i=a:=⟨_,rfl⟩
    obtain ⟨a4,VI⟩:∃ a,sx 0 cf [0,0,0,1] i=a:=⟨_,rfl⟩
    rw [VE,VF,VG,VH,VI] at J2
    refine oJ (k1:=true) (k2:=true) [some (.int kk)] (fun n=>.int (([a0,a1,a2,a3,a4]:List Int).getD n 0+kk*([x0,x1,x2,x3,x4]:List Int).getD n 0)) rfl (oU J2) (oU S7) rfl (by show 5<=1000000;decide) (fun n x y H' Qc hx hy s kc=>?_) (fun l1 H1 yY s1 YN=>?_)
    ·obtain ⟨rfl,_⟩:=dM (r:=[a0,a1,a2,a3,a4]) hx
     obtain ⟨rfl,hn⟩:=dM (r:=[x0,x1,x2,x3,x4]) hy
     have N9:([x0,x1,x2,x3,x4]:List Int).getD n 0∈[x0,x1,x2,x3,x4]:=by rw [List.getD,ZC hn];exact Z2 _
     walk_at "w"
     exact kc _ (ah.refl _)
    walk_at "w"
    rename_i p9 H9 s9 m9
    refine⟨_,_,_,_,p9,_,rfl,((sn.trans sm).trans s1).trans s9,?_,?_,?_⟩
    ·rw [m9]
     unfold sx
     rw [VE,VF,VG,VH,VI,QD,<- Xx,<- QH,<- J3,<- Xy,<- Xz]
     rfl
    ·rw [aI.app_list,aI.app_list,hT,take_succ,MW]
     simp [aI.seg,jv,append_assoc]
    ·rw [PySem.strLen_append,PySem.strLen_append,q1,q2];lia
   ·obtain ⟨o5,o6,o7,o8,p,T',rfl,sn,mp,hT,lT⟩:=hp
    have XB:T'.length<=1+2*4:=lT
    have c0:=FE 0 (by decide)
    have c1:=FE 1 (by decide)
    have c2:=FE 2 (by decide)
    have c3:=FE 3 (by decide)
    obtain ⟨k0,S8⟩:∃ a,cf 0=a:=⟨_,rfl⟩
    obtain ⟨k1,S9⟩:∃ a,cf 1=a:=⟨_,rfl⟩
    obtain ⟨k2,Ta⟩:∃ a,cf 2=a:=⟨_,rfl⟩
    obtain ⟨k3,Tb⟩:∃ a,cf 3=a:=⟨_,rfl⟩
    rw [S8] at c0;rw [S9] at c1;rw [Ta] at c2;rw [Tb] at c3
    have QI:Hn p=some (.tup [.int (r0+k0*-11+k1*-4+k2*6+k3*-5),.int (r1+k0*7+k1*4+k2*-2+k3*1),.int (0+k0*0+k1*-1+k2*0+k3*0),.int (0+k0*0+k1*0+k2*-1+k3*0),.int (0+k0*0+k1*0+k2*0+k3*1)]):=by rw [mp,<- S8,<- S9,<- Ta,<- Tb];rfl
    have Tc:=aL.of (K:=K) QI
    clear mp QI w0 w1 w2 w3 wg ws wq vi mc
    walk_at "w"
    obtain ⟨o,ho⟩:∃ o,c / 567 % 9 - 4=o:=⟨_,rfl⟩
    have Gb:-4<=o/\o<=4:=by lia
    have L5:=aI.oR (o:=o) (by lia) (by lia)
    rw [ho]
    refine cD (au (show T'.length+1<=2000 by lia)) ?_
    walk_at "w"
    refine k9 (aJ.jr (ZN (show o.natAbs<=9999 by lia) (by decide +kernel))) ?_
    walk_at "w"
    refine cD (au (by rw [PySem.strLen_append];show T'.length+1+_<=2000;lia)) ?_
    have J0:(PySem.Str.ofString ".").cps.toList=[46]:=by decide
    have hZ:(T'++PySem.Str.ofString "."++PySem.Str.ofString (toString o)).cps.toList=L::(aI.seg 35 98 k0++(aI.seg 43 45 k1++(aI.seg 62 60 k2++(aI.seg 94 118 k3++(46::(PySem.Str.ofString (toString o)).cps.toList))))):=by
     rw [aI.app_list,aI.app_list,hT,J0,S8,S9,Ta,Tb]
     simp [append_assoc]
    generalize T'++PySem.Str.ofString "."++PySem.Str.ofString (toString o)=Z at hZ ⊢
    walk_at "w"
    rename_i pu Hu su mu pw Hw sw mw px Hx sX mx pz Hz sz mz
    obtain ⟨u0,XC⟩:∃ t,r0+k0*-11+k1*-4+k2*6+k3*-5+o=t:=⟨_,rfl⟩
    obtain ⟨u1,XD⟩:∃ t,r1+k0*7+k1*4+k2*-2+k3*1=t:=⟨_,rfl⟩
    obtain ⟨u2,XE⟩:∃ t,0+k0*0+k1*-1+k2*0+k3*0=t:=⟨_,rfl⟩
    obtain ⟨u3,XF⟩:∃ t,0+k0*0+k1*0+k2*-1+k3*0=t:=⟨_,rfl⟩
    obtain ⟨u4,XG⟩:∃ t,0+k0*0+k1*0+k2*0+k3*1=t:=⟨_,rfl⟩
    rw [XC,XD,XE,XF,XG] at mx
    refine k pz Hz Z (.ref px) (some [u0,u1,u2,u3,u4]) (sT.trans (sH.trans (sn.trans (su.trans (sw.trans (sX.trans sz)))))) mz ⟨px,rfl,sz.at (aL.of mx),rfl⟩ ⟨u0,u1,u2,u3,u4,rfl,?_,by lia,by lia,by lia,by lia,by lia⟩
    unfold ee
    rw [show (u1 - u4 - 2*u3+4*u2+1) / 7=k0 by lia,show ((u1 - u4 - 2*u3+4*u2+1) % 7).toNat=j by lia,PH,PJ,show u0+5*u4+6*u3 - 4*u2+11*k0 - r0=o by lia,show -u2=k1 by lia,show -u3=k2 by lia,show u4=k3 by lia]
    exact hZ
theorem qY:az ["_law_cell","_law_count","_law_total","_law_pieces_here","_law_left","_law_k","_law_more"] ["_law_cell","_law_count","_law_total"] (ao f9):=⟨rfl,rfl,rfl,by decide +kernel,rfl,by decide +kernel,by decide +kernel⟩
structure qZ(P:Program)(w:World)(K:Frag)(mg:Str->Option Value)(base:Heap)(G:jf):Prop where
 fN:Ok P w K mg base 1 "_law_mixed" ["_law_cell","_law_k"] (de K)
theorem q0 (D:Def K mg "_law_pieces" f9 ["_law_cell","_law_count","_law_total"]) (T:Txt P w K mg G) (O:qZ P w K mg base G):Ok P w K mg base 2 "_law_pieces" ["_law_cell","_law_count","_law_total"] (fE K):=by
 have S:=qY
 refine D.ok S (fun vs H Q E h=>?_) (fun f bO A outer s H vs Q E hr h=>?_)
 ·obtain ⟨_,_,_,rfl,_⟩:=h;rfl
 ·obtain ⟨c,n,t,rfl,h1,h2,h3,h4,k⟩:=h
  have hu:=aS hr
  have ax:=T.ax
  have ai:=T.ai
  refine⟨_,(ag (aq (i:=3) S.nd rfl (Or.inl rfl) (bN af)) (ag (aq (i:=4) S.nd rfl (Or.inl rfl) (aj bp (pv 2) (pv 1))) (ag (cR PassesOwn.never rfl (dU rfl T.iY (aa (aj bp (pv 1) ae) af)) (av (i:=5) S.nd rfl (Or.inl rfl)) (ag (aq (i:=6) S.nd rfl (Or.inl rfl) (aj aV (aF O.fN (hr.mono (by decide)) (aa (pv 0) (aa (aj aK ae (pv 5)) af))) (aj aK (pv 4) ae))) (ag (dy (cP PySem.F.plainAttrs_list PySem.F.slot_list_append PySem.F.type_list_append bZ (pv 3) (aa (aj aK ae (pv 6)) af))) (ak (aq (i:=4) S.nd rfl (Or.inl rfl) (aj bp (pv 4) (pv 6))))))) (ak (aC (aj zo (pv 3) (bN (aa (aj aK ae (pv 4)) af)))))))),?_⟩
  walk_at "w"
  rename_i p1 H1 n1 s1 m1
  refine uT (fun i σ Hn=>∃ (o1 o2:Option V) (ps:List Int) (left:Int),σ=[some (.int c),some (.int (n:Int)),some (.int (t:Int)),some (.ref p1),some (.int left),o1,o2]/\ah H Hn/\Hn p1=some (.lst (ps.map V.int))/\ps.length=i/\(∀ p∈ps,1<=p/\p<=(t:Int))/\0<=left/\(i:Int)<=ps.sum/\ps.sum+left+n=t+i) ⟨_,_,[],_,rfl,s1,m1,rfl,(fun _ z=>nomatch z),by lia,by simp,by simp <;> lia⟩ (fun i σ Hn hi hp=>?_) (fun σ Hn hp=>?_)
  ·obtain ⟨o1,o2,ps,left,rfl,sn,mp,lp,QJ,zd,XH,Mi⟩:=hp
   have A9:i+1<n:=by lia
   walk_at "w"
   refine g0 (by lia) fun q1 z1 z2=>?_
   have b1:=emod_nonneg q1 (show left+1≠0 by lia)
   have b2:=emod_lt_of_pos q1 (show 0<left+1 by lia)
   have VJ:0<left+1:=by lia
   walk_at "w"
   refine cX mp (by rw [ZI];lia) ?_
   walk_at "w"
   refine⟨_,_,ps++[1+q1 % (left+1)],_,rfl,sn.eI n1,?_,by simp [lp],fun p hp=>?_,by lia,?_,?_⟩
   ·rw [aB,ZV];rfl
   ·rcases ZG.mp hp with z|z
    ·exact QJ p z
    ·rw [ZF.mp z];lia
   ·rw [sum_append,sum_singleton];lia
   ·rw [sum_append,sum_singleton];lia
  ·obtain ⟨o1,o2,ps,left,rfl,sn,mp,lp,QJ,zd,XH,Mi⟩:=hp
   walk_at "w"
   rename_i p2 H2 n2 s2 m2 p3 H3 n3 s3 m3
   refine k p3 H3 (ps++[1+left]) ((sn.trans s2).new n3) ((sn.trans s2).trans s3) (by rw [m3,ZV];rfl) (by rw [ZJ];show ps.length+1=n;lia) (fun p hp=>?_) ?_
   ·rcases ZG.mp hp with z|z
    ·exact QJ p z
    ·rw [ZF.mp z];lia
   ·rw [sum_append,sum_singleton];lia
theorem Aj:az ["_law_cell","_law_count","_law_total","_law_by","_law_bottom","_law_words","_law_notes","_law_k","_law_piece","_law_name","_law_row"] ["_law_cell","_law_count","_law_total","_law_by","_law_bottom"] (ao lu):=⟨rfl,rfl,rfl,by decide +kernel,rfl,by decide +kernel,by decide +kernel⟩
structure Ak(P:Program)(w:World)(K:Frag)(mg:Str->Option Value)(base:Heap)(G:jf):Prop where
 cO:Ok P w K mg base 1 "_law_lowest" ["_law_top","_law_bottom"] (cm K)
 fN:Ok P w K mg base 1 "_law_mixed" ["_law_cell","_law_k"] (de K)
 vO:Ok P w K mg base 1 "_law_name_row" ["_law_mixed_here"] (dH K)
 Al:Ok P w K mg base 2 "_law_pieces" ["_law_cell","_law_count","_law_total"] (fE K)
theorem Am (D:Def K mg "_law_bar" lu ["_law_cell","_law_count","_law_total","_law_by","_law_bottom"]) (T:Txt P w K mg G) (O:Ak P w K mg base G):Ok P w K mg base 3 "_law_bar" ["_law_cell","_law_count","_law_total","_law_by","_law_bottom"] (jE K):=by
 have S:=Aj
 refine D.ok S (fun vs H Q E h=>?_) (fun f bO A outer s H vs Q E hr h=>?_)
 ·obtain ⟨_,_,_,_,_,rfl,_⟩:=h;rfl
 ·obtain ⟨c,n,t,y,bb,rfl,hn,ht,hy,hb,k⟩:=h
  have hu:=aS hr
  have ax:=T.ax
  have ai:=T.ai
  refine⟨_,(ag (aq (i:=5) S.nd rfl (Or.inl rfl) (bN af)) (ag (aq (i:=6) S.nd rfl (Or.inl rfl) (bN af)) (ag (cR PassesOwn.never rfl (j8 K rfl false rfl T.eY (aa (aF O.Al (hr.mono (by decide)) (aa (pv 0) (aa (pv 1) (aa (pv 2) af)))) af)) (bY (n:=2) K rfl rfl (aE (av (i:=7) S.nd rfl (Or.inl rfl)) (aE (av (i:=8) S.nd rfl (Or.inl rfl)) bX))) (ag (uw (aF O.vO (hr.mono (by decide)) (aa (aF O.fN (hr.mono (by decide)) (aa (pv 0) (aa (pv 7) af))) af)) (bY (n:=2) K rfl rfl (aE (av (i:=9) S.nd rfl (Or.inl rfl)) (aE (av (i:=10) S.nd rfl (Or.inl rfl)) bX)))) (ag (dy (cP PySem.F.plainAttrs_list PySem.F.slot_list_append PySem.F.type_list_append bZ (pv 5) (@aa _ _ _ _ _ (@aR _ _ _ _ _ (aa (pv 9) (aa (aj cp (pv 8) (pv 3)) (aa (pv 4) af)))) af (by rfl)))) (ak (dy (cP PySem.F.plainAttrs_list PySem.F.slot_list_append PySem.F.type_list_append bZ (pv 6) (@aa _ _ _ _ _ (@aR _ _ _ _ _ (aa (pv 10) (aa (aF O.cO (hr.mono (by decide)) (aa (aj cp (pv 8) (pv 3)) (aa (pv 4) af))) af))) af (by rfl)))))))) (ak (aC (aR (aa (pv 5) (aa (pv 6) af)))))))),?_⟩
  walk_at "w"
  rename_i p1 H1 n1 s1 m1 p2 H2 n2 s2 m2
  have IJ:=s2 _ _ m1
  have FF:p2≠p1:=fun z=>by rw [z,m1] at n2;cases n2
  refine vq ⟨hn.1,hn.2,ht.1,ht.2⟩ fun l3 H3 ps n3 s3 m3 YO PL Mi=>?_
  have Td:l3≠p1:=fun z=>by rw [z,IJ] at n3;cases n3
  have Te:l3≠p2:=fun z=>by rw [z,m2] at n3;cases n3
  have Tf:=(s1.trans s2).trans s3
  walk_at "w"
  refine EL (k:=false) (xs:=ps.map V.int) (fun i σ Hn=>∃ (o7 o8 o9 J4:Option V) (xs ys:List V) (ws:List Wd),σ=[some (.int c),some (.int (n:Int)),some (.int (t:Int)),some (.int (y:Int)),some (.int (bb:Int)),some (.ref p1),some (.ref p2),o7,o8,o9,J4]/\ah H Hn/\Hn l3=some (.lst (ps.map V.int))/\Hn p1=some (.lst xs)/\Fa (bh K Hn) xs ws/\Hn p2=some (.lst ys)/\aT K Hn ys (ws.map wN)/\ws.length=i/\(∀ w∈ws,qp w/\w.2.2=bb)/\(((ws.map fun w=>w.2.1).sum:Nat):Int)=(ps.take i).sum*(y:Int)) ⟨_,_,_,_,[],[],[],rfl,Tf,m3,s3 _ _ IJ,.nil,s3 _ _ m2,.nil,rfl,(fun _ z=>nomatch z),by simp⟩ (fun i σ Hn hp=>by obtain ⟨_,_,_,_,_,_,_,rfl,_,Em,_⟩:=hp;exact cC (bj.of Em)) (fun i x σ Hn XI hx hp MZ=>?_) (fun σ Hn hp=>?_)
  ·obtain ⟨o7,o8,o9,J4,xs,ys,ws,rfl,sn,Em,J5,hW,J6,hN,lw,bf,Ga⟩:=hp
   obtain ⟨rfl,t6⟩:=dM hx
   have QJ:=PL _ (show ps.getD i 0∈ps by rw [List.getD,ZC t6];exact Z2 _)
   obtain ⟨pp,Tc,XJ,XN⟩:∃ pp:Nat,ps.getD i 0=(pp:Int)/\1<=pp/\pp<=t:=⟨(ps.getD i 0).toNat,by lia,by lia,by lia⟩
   rw [Tc]
   have Th:pp*y<=t*y:=Zp y XN
   have Tj:1<=pp*y:=mul_pos XJ hy.1
   have J7:(pp:Int)*(y:Int)=((pp*y:Nat):Int):=by simp
   have XO:i<24:=by lia
   have lW:=hW.length
   have lN:=hN.length
   rw [ZI] at lN
   walk_at "w"
   refine g0 (by lia) fun m7 g3 g4=>?_
   walk_at "w"
   refine pM (by lia) fun p8 H8 z8 v8 o8 s8 m8 t8 XQ=>?_
   obtain ⟨ez,L5⟩:=XQ.eq
   subst ez
   refine Bk (aL.of m8) ?_
   walk_at "w"
   rename_i p9 H9 s9 m9
   rw [J7] at m9
   have M0:=(MZ.trans s8).trans s9
   have e1:=M0 _ _ J5
   refine cX e1 (by lia) ?_
   have VL:bh K (upd H9 p1 (.lst (xs++[.ref p9]))) (.ref p9) (o8,pp*y,bb):=bh.off e1 _ _ ⟨p9,rfl,aL.of m9⟩
   have VM:Fa (bh K (upd H9 p1 (.lst (xs++[.ref p9])))) xs ws:=(hW.imp (bh.same M0)).imp (bh.off e1)
   have VN:aT K (upd H9 p1 (.lst (xs++[.ref p9]))) ys (ws.map wN):=(hN.same M0).off e1
   have ht9:c6 K (upd H9 p1 (.lst (xs++[.ref p9]))) v8 o8:=(t8.same s9).off e1
   have e2:upd H9 p1 (.lst (xs++[.ref p9])) p2=some (.lst ys):=by rw [aG FF];exact M0 _ _ J6
   have e3:upd H9 p1 (.lst (xs++[.ref p9])) l3=some (.lst (ps.map V.int)):=by rw [aG Td];exact M0 _ _ Em
   have e4:upd H9 p1 (.lst (xs++[.ref p9])) p1=some (.lst (xs++[.ref p9])):=aB
   have sU:ah H (upd H9 p1 (.lst (xs++[.ref p9]))):=(sn.trans M0).eI n1
   generalize upd H9 p1 (.lst (xs++[.ref p9]))=HU at VL VM VN ht9 e2 e3 e4 sU ⊢
   walk_at "w"
   rw [J7]
   refine dR (by lia) (ZN hb.2 (by decide +kernel)) fun pA HA sA mA=>?_
   walk_at "w"
   rename_i pB HB sB mB
   have yq:=sA.trans sB
   have eB:=yq _ _ e2
   refine cX eB (by lia) ?_
   walk_at "w"
   have Mj:qp (o8,pp*y,bb):=⟨L5,⟨Tj,Zm Th hy.2.2⟩,hb.1,hb.2⟩
   refine⟨_,_,_,_,xs++[.ref p9],ys++[.ref pB],ws++[(o8,pp*y,bb)],rfl,(sU.trans yq).eI (s1.new n2),?_,?_,?_,aB,?_,by simp [lw],fun w hw=>?_,?_⟩
   ·rw [aG Te];exact yq _ _ e3
   ·rw [aG (Ne.symm FF)];exact yq _ _ e4
   ·exact ((VM.imp (bh.same yq)).imp (bh.off eB)).snoc (bh.off eB _ _ (bh.same yq _ _ VL))
   ·rw [ZV]
    exact ((VN.same yq).off eB).snoc (n:=wN (o8,pp*y,bb)) (cy.off ⟨pB,v8,pA,rfl,aL.of mB,ht9.same yq,sB.at (aL.of mA)⟩ eB)
   ·rcases ZG.mp hw with z|z
    ·exact bf w z
    ·rw [ZF.mp z]
     exact⟨Mj,rfl⟩
   ·have et:ps.take (i+1)=ps.take i++[(pp:Int)]:=by rw [take_add_one,ZC t6,<- Tc,List.getD,ZC t6];rfl
    rw [et,ZV,sum_append,sum_append,Int.add_mul,<- Ga]
    simp
  ·obtain ⟨o7,o8,o9,J4,xs,ys,ws,rfl,sn,Em,J5,hW,J6,hN,lw,bf,Ga⟩:=hp
   rw [ZI] at lw
   rw [ZI,ZR,Mi] at Ga
   walk_at "w"
   rename_i p9 H9 s9 m9
   exact k p9 p1 p2 H9 ws (sn.trans s9) ⟨aL.of m9,xs,ys,s9 _ _ J5,hW.imp (bh.same s9),s9 _ _ J6,hN.same s9⟩ n1 (s1.new n2) ⟨by lia,bf,Int.ofNat_inj.mp (Ga.trans (by simp))⟩
theorem rd:az ["_law_script","_law_form"] ["_law_script"] (ao gb):=⟨rfl,rfl,rfl,by decide +kernel,rfl,by decide +kernel,by decide +kernel⟩
structure rf(P:Program)(w:World)(K:Frag)(mg:Str->Option Value)(base:Heap)(G:jf):Prop where
 aM:Ok P w K mg base 1 "_law_cell_at" ["_law_script","_law_k"] (bK K)
 fN:Ok P w K mg base 1 "_law_mixed" ["_law_cell","_law_k"] (de K)
theorem rg (D:Def K mg "_law_counts" gb ["_law_script"]) (T:Txt P w K mg G) (O:rf P w K mg base G):Ok P w K mg base 2 "_law_counts" ["_law_script"] (fF K):=by
 have S:=rd
 refine D.ok S (fun vs H Q E h=>?_) (fun f bO A outer s H vs Q E hr h=>?_)
 ·obtain ⟨_,_,rfl,_⟩:=h;rfl
 ·obtain ⟨a,ns,rfl,ha,k⟩:=h
  have hu:=aS hr
  have ax:=T.ax
  have ai:=T.ai
  refine⟨_,(ag (aq (i:=1) S.nd rfl (Or.inl rfl) (aj aV (aj cT (aF O.aM (hr.mono (by decide)) (aa (pv 0) (aa ae af))) ae) ae)) (ag (bJ (aQ gB (pv 1) ae (aU _)) (ak (aC (bN (aa ae af)))) aP) (ag (bJ (aQ gB (pv 1) ae (aU _)) (ak (aC (aj KP (bN (aa ae af)) ae))) aP) (ak (aC (bu (N:=["_law_k","_law_script"]) (ix:=[none,some 0]) rfl (dU rfl T.iY (aa (aj aK ae (aj aV (aF O.aM (hr.mono (by decide)) (aa (pv 0) (aa ae af))) ae)) af)) (fun _ _ _ _ _=>(av (i:=0) (show jJ ["_law_k","_law_script"] by decide +kernel) rfl (Or.inl rfl))) (fun _ _ _ _ _=>rfl) (fun _ _ _ _ _=>(aj aK ae (aj aV (aF O.fN (hr.mono (by decide)) (aa (aF O.aM (hr.mono (by decide)) (aa (pv 1) (aa (aj aK ae (pv 0)) af))) (aa ae af))) ae))) rfl (by decide +kernel) (by decide +kernel) rfl ⟨⟨rfl,Or.inr (Or.inl rfl),rfl,rfl⟩,True.intro⟩)))))),?_⟩
  walk_at "w"
  refine cu (fun h1=>?_) (fun h1=>?_)
  ·walk_at "w"
   rename_i p2 H2 n2 s2 m2
   exact k p2 H2 [24] n2 s2 m2 ⟨by decide,by decide⟩ (fun c hc=>by rw [ZF.mp hc];decide)
  walk_at "w"
  refine cu (fun h2=>?_) (fun h2=>?_)
  ·walk_at "w"
   rename_i p2 H2 n2 s2 m2
   refine Pn (n:=40) m2 (by decide) (fun p3 H3 n3 s3 m3=>?_) (by decide)
   refine k p3 H3 (List.replicate 40 1) (s2.new n3) (s2.trans s3) (by rw [m3];rfl) ⟨by decide,by decide⟩ (fun c hc=>by rw [(mem_replicate.mp hc).2];decide)
  walk_at "w"
  obtain ⟨N,hN,N1,N2⟩:∃ N:Nat,1+ns.getD (Int.toNat 1) 0 % 6=(N:Int)/\1<=N/\N<=6:=⟨(1+ns.getD (Int.toNat 1) 0 % 6).toNat,by lia,by lia,by lia⟩
  rw [hN]
  refine uh [some (.ref a)] (fun _ x=>1<=x/\x<=24) rfl (by show N<=1000;lia) (fun i H' Qc hi s kc=>?_) (fun l2 H2 cs n2 s2 m2 lc hc=>?_)
  ·have A9:i<6:=by
    have:i<N:=hi
    lia
   have XR:=s.seq ha
   walk_at "w"
   refine g0 (by lia) fun mm g1 g2=>?_
   walk_at "w"
   exact kc _ _ (by lia) (ah.refl _)
  have YQ:cs.length=N:=lc
  exact k l2 H2 cs n2 s2 m2 ⟨by lia,by lia⟩ (fun c QK=>by
   obtain ⟨i,hi⟩:=List.getElem?_of_mem QK
   exact hc i c hi)
theorem kB:az ["_law_cell","_law_tone","_law_k"] ["_law_cell"] (ao dn):=⟨rfl,rfl,rfl,by decide +kernel,rfl,by decide +kernel,by decide +kernel⟩
theorem kC (D:Def K mg "_law_digit_tone" dn ["_law_cell"]) (T:Txt P w K mg G):Ok P w K mg base 1 "_law_digit_tone" ["_law_cell"] (dg K):=by
 have S:=kB
 refine D.ok S (fun vs H Q E h=>?_) (fun f bO A outer s H vs Q E hr h=>?_)
 ·obtain ⟨_,rfl,_⟩:=h;rfl
 ·obtain ⟨c,rfl,k⟩:=h
  have hu:=aS hr
  have ax:=T.ax
  have ai:=T.ai
  refine⟨_,(ag (aq (i:=1) S.nd rfl (Or.inl rfl) (bN (aa (aj bp (aj aV (pv 0) ae) ae) af))) (ag (aq (i:=0) S.nd rfl (Or.inl rfl) (aj cT (pv 0) ae)) (ag (cR PassesOwn.never rfl (dU rfl T.iY (aa ae af)) (av (i:=2) S.nd rfl (Or.inl rfl)) (ag (dy (cP PySem.F.plainAttrs_list PySem.F.slot_list_append PySem.F.type_list_append bZ (pv 1) (aa (aj bp (aj aV (pv 0) ae) ae) af))) (ak (aq (i:=0) S.nd rfl (Or.inl rfl) (aj cT (pv 0) ae))))) (ak (aC (bt (gG K rfl) rfl T.eZ boot_tuple (aa (pv 1) af))))))),?_⟩
  walk_at "w"
  rename_i lt Ht nt st mt
  refine uT (fun i σ Hn=>∃ (cc:Int) (o:Option V) (ks:List Int),σ=[some (.int cc),some (.ref lt),o]/\ah H Hn/\Hn lt=some (.lst (((c % 1401 - 700)::ks).map V.int))/\ks.length=i/\∀ x∈ks,-60<=x/\x<=60) ⟨_,_,[],rfl,st,mt,rfl,fun _ h=>nomatch h⟩ (fun i σ Hn hi hp=>?_) (fun σ Hn hp=>?_)
  ·obtain ⟨cc,o,ks,rfl,sn,mn,hl,hb⟩:=hp
   have YR:i<4:=hi
   walk_at "w"
   refine cX mn (by simp;lia) ?_
   walk_at "w"
   refine⟨_,_,ks++[cc % 121 - 60],rfl,sn.eI nt,by rw [aB];simp,by simp [hl],fun x hx=>?_⟩
   rcases ZG.mp hx with h|h
   ·exact hb x h
   ·rw [ZF.mp h];lia
  ·obtain ⟨cc,o,ks,rfl,sn,mn,hl,hb⟩:=hp
   match ks,hl,hb,mn with
   | [u1,u2,u3,u4],_,hb,mn =>
   have YS:Hn lt=some (.lst [.int (c % 1401 - 700),.int u1,.int u2,.int u3,.int u4]):=mn
   clear mn
   walk_at "w"
   rename_i pt H5 s5 m5
   exact k _ _ _ _ _ _ _ (sn.trans s5) m5 ⟨by lia,hb _ (by simp),hb _ (by simp),hb _ (by simp),hb _ (by simp)⟩
theorem qc:az ["_law_tone","_law_counts_here","_law_three","_law_letter","_law_sharps","_law_octave","_law_text_here","_law_count","_law_signs"] ["_law_tone"] (ao fx):=⟨rfl,rfl,rfl,by decide +kernel,rfl,by decide +kernel,by decide +kernel⟩
theorem qd (D:Def K mg "_law_name_of" fx ["_law_tone"]) (T:Txt P w K mg G):Ok P w K mg base 1 "_law_name_of" ["_law_tone"] (eA K):=by
 have S:=qc
 refine D.ok S (fun vs H Q E h=>?_) (fun f bO A outer s H vs Q E hr h=>?_)
 ·obtain ⟨_,_,_,_,_,_,rfl,_⟩:=h;rfl
 ·obtain ⟨a,t0,t1,t2,t3,t4,rfl,ha,hb,k⟩:=h
  have hu:=aS hr
  have ax:=T.ax
  have ai:=T.ai
  refine⟨_,(ag (aq (i:=1) S.nd rfl (Or.inl rfl) (bN (aa (aj bp ae (aD (ay K rfl) (pv 0) ae (fun _ _=>rfl))) (aa (aj bp ae (aD (ay K rfl) (pv 0) ae (fun _ _=>rfl))) (aa (aD (ay K rfl) (pv 0) ae (fun _ _=>rfl)) af))))) (ag (aq (i:=2) S.nd rfl (Or.inl rfl) (aj bp (aj aK (aj bp (aD (ay K rfl) (pv 0) ae (fun _ _=>rfl)) (aj cp ae (aD (ay K rfl) (pv 1) ae (fun _ _=>rfl)))) (aj cp ae (aD (ay K rfl) (pv 1) ae (fun _ _=>rfl)))) (aD (ay K rfl) (pv 1) ae (fun _ _=>rfl)))) (ag (aq (i:=3) S.nd rfl (Or.inl rfl) (aj aV (aj aK (pv 2) ae) ae)) (ag (aq (i:=4) S.nd rfl (Or.inl rfl) (aj cT (aj bp (aj aK (pv 2) ae) (pv 3)) ae)) (ag (aq (i:=5) S.nd rfl (Or.inl rfl) (aj aK (aj bp (aD (ay K rfl) (pv 0) ae (fun _ _=>rfl)) (aD (ay K rfl) (aR (aa ae (aa ae (aa (cS cg ae) (aa (cS cg ae) (aa (cS cg ae) (aa (cS cg ae) (aa (cS cg ae) af)))))))) (pv 3) (fun _ _=>rfl))) (aj cp ae (pv 4)))) (ag (aq (i:=5) S.nd rfl (Or.inl rfl) (aj aK (aj bp (aj aK (pv 5) (aj cp ae (aD (ay K rfl) (pv 1) ae (fun _ _=>rfl)))) (aj cp ae (aD (ay K rfl) (pv 1) ae (fun _ _=>rfl)))) (aj cp ae (aD (ay K rfl) (pv 1) ae (fun _ _=>rfl))))) (ag (aq (i:=6) S.nd rfl (Or.inl rfl) (aD fo aN (pv 3) (fun _ _=>rfl))) (ag (cR PassesOwn.never rfl (d8 K rfl false false rfl T.nz (@aa _ _ _ _ _ (aj zo (bN (aa (pv 4) af)) (pv 1)) (@aa _ _ _ _ _ (bN (aa aN (aa aN (aa aN (aa aN af))))) af (by rfl)) (by rfl))) (bY (n:=2) K rfl rfl (aE (av (i:=7) S.nd rfl (Or.inl rfl)) (aE (av (i:=8) S.nd rfl (Or.inl rfl)) bX))) (ak (aq (i:=6) S.nd rfl (Or.inl rfl) (aj bL (aj bL (pv 6) (aj iP (aD fo (pv 8) ae (fun _ _=>rfl)) (pv 7))) (aj iP (aD fo (pv 8) ae (fun _ _=>rfl)) (aj bp ae (pv 7))))))) (ak (aC (aj bL (aj bL (pv 6) aN) (bt iO rfl T.uo boot_str (aa (pv 5) af))))))))))))),?_⟩
  walk_at "w"
  rename_i pc Hc nc sc mc pt Ht st mt
  obtain ⟨l1,yY⟩:∃ l1,t1 - 4*(0 - t2)+2*(0 - t3) - t4=l1:=⟨_,rfl⟩
  have Tn:t1 - t4 - 2*t3+4*t2=l1:=by lia
  rw [yY]
  obtain ⟨j,hj⟩:∃ j:Nat,(l1+1) % 7=(j:Int):=⟨((l1+1) % 7).toNat,by lia⟩
  have JX:j<7:=by lia
  rw [hj]
  obtain ⟨k0,hk0⟩:∃ k0,(l1+1) / 7=k0:=⟨_,rfl⟩
  have SX:-69<=k0/\k0<=69:=by lia
  rw [show (l1+1 - (j:Int)) / 7=k0 by lia]
  obtain ⟨L,r0,PH,PJ,hL,Jt,PK⟩:∃ (L:Nat) (r0:Int),([70,67,71,68,65,69,66]:List Nat).getD j 0=L/\([2,0,-1,-3,-4,-6,-7]:List Int).getD j 0=r0/\([70,67,71,68,65,69,66]:List Nat)[j]?=some L/\tU [V.int 2,V.int 0,V.int (-1),V.int (-3),V.int (-4),V.int (-6),V.int (-7)] (j:Int)=some (.int r0)/\(-7<=r0/\r0<=2):=by
   match j,JX with
   | 0,_=>exact⟨_,_,rfl,rfl,rfl,rfl,by decide⟩
   | 1,_=>exact⟨_,_,rfl,rfl,rfl,rfl,by decide⟩
   | 2,_=>exact⟨_,_,rfl,rfl,rfl,rfl,by decide⟩
   | 3,_=>exact⟨_,_,rfl,rfl,rfl,rfl,by decide⟩
   | 4,_=>exact⟨_,_,rfl,rfl,rfl,rfl,by decide⟩
   | 5,_=>exact⟨_,_,rfl,rfl,rfl,rfl,by decide⟩
   | 6,_=>exact⟨_,_,rfl,rfl,rfl,rfl,by decide⟩
  refine ue (aL.of mt) Jt ?_
  obtain ⟨k1,hk1⟩:∃ k1,0 - t2=k1:=⟨_,rfl⟩
  obtain ⟨k2,hk2⟩:∃ k2,0 - t3=k2:=⟨_,rfl⟩
  rw [hk1,hk2] at mc
  have YT:=st _ _ mc
  walk_at "w"
  obtain ⟨o,ho⟩:∃ o,t0 - r0+11*k0+4*k1 - 6*k2+5*t4=o:=⟨_,rfl⟩
  have Gb:-9999<=o/\o<=9999:=by lia
  have L5:=aI.oR Gb.1 Gb.2
  rw [ho]
  refine ka (c:=L) (au (by decide +kernel)) (cU (by rw [show (PySem.Str.ofString "FCGDAEB").cps.toList=[70,67,71,68,65,69,66] by decide];exact hL)) ?_
  walk_at "w"
  rename_i q1 G1 w1 y1 v1 q2 G2 w2 y2 v2 q3 G3 w3 y3 v3
  have XS:=y3 _ _ v2
  refine OP (cC (bj.of XS)) (cC (bj.of v3)) (by rfl) (fun n σ=>∃ (o1 o2:Option V) (T:PySem.Str),σ=[some (.ref a),some (.ref pc),some (.int l1),some (.int (j:Int)),some (.int k0),some (.int o),some (.str T),o1,o2]/\T.cps.toList=L::([aI.seg 35 98 k0,aI.seg 43 45 k1,aI.seg 62 60 k2,aI.seg 94 118 t4].take n).flatten/\T.length<=1+200*n) ⟨_,_,_,rfl,rfl,Zn _⟩ (fun n x y σ H2 hx hy hp s=>?_) (fun σ H2 hp s=>?_)
  ·obtain ⟨o1,o2,T',rfl,hT,lT⟩:=hp
   have hn:n<4:=(Zi.mp hx).1
   obtain ⟨kk,S',c,d,rfl,rfl,hS,MW,Xp⟩:∃ (kk:Int) (S':PySem.Str) (c d:Nat),x=.int kk/\y=.str S'/\S'.cps.toList=[c,d]/\[aI.seg 35 98 k0,aI.seg 43 45 k1,aI.seg 62 60 k2,aI.seg 94 118 t4][n]?=some (aI.seg c d kk)/\(-200<=kk/\kk<=200):=by
    match n,hn with
    | 0,_=>cases hx;cases hy;exact⟨_,_,35,98,rfl,rfl,by decide,rfl,by lia⟩
    | 1,_=>cases hx;cases hy;exact⟨_,_,43,45,rfl,rfl,by decide,rfl,by lia⟩
    | 2,_=>cases hx;cases hy;exact⟨_,_,62,60,rfl,rfl,by decide,rfl,by lia⟩
    | 3,_=>cases hx;cases hy;exact⟨_,_,94,118,rfl,rfl,by decide,rfl,by lia⟩
   have lS:S'.length=2:=by show S'.cps.size=2;rw [<- Array.length_toList,hS];rfl
   walk_at "w"
   refine ka (c:=c) (au (by lia)) (cU (j:=0) (by rw [hS];rfl)) ?_
   walk_at "w"
   refine lj (by lia) ?_
   have q1:(jv c kk.toNat).length=kk.toNat:=Array.size_replicate
   have q2:(jv d (0 - kk).toNat).length=(0 - kk).toNat:=Array.size_replicate
   walk_at "w"
   refine ka (c:=d) (au (by lia)) (cU (j:=1) (by rw [hS];rfl)) ?_
   walk_at "w"
   refine lj (by lia) ?_
   refine cD (au (by rw [PySem.strLen_append];lia)) ?_
   walk_at "w"
   refine⟨⟨_,_,_,rfl,?_,?_⟩,s⟩
   ·rw [aI.app_list,aI.app_list,hT,take_succ,MW]
    simp [aI.seg,jv,append_assoc]
   ·rw [PySem.strLen_append,PySem.strLen_append,q1,q2];lia
  ·obtain ⟨o1,o2,T',rfl,hT,lT⟩:=hp
   have XB:T'.length<=1+200*4:=lT
   walk_at "w"
   refine cD (au (show T'.length+1<=2000 by lia)) ?_
   walk_at "w"
   refine k9 (aJ.jr (ZN (show o.natAbs<=9999 by lia) (by decide +kernel))) ?_
   walk_at "w"
   refine cD (au (by rw [PySem.strLen_append];show T'.length+1+_<=2000;lia)) ?_
   refine k _ _ (((((sc.trans st).trans y1).trans y2).trans y3).trans s) ?_
   have J0:(PySem.Str.ofString ".").cps.toList=[46]:=by decide
   unfold ee
   rw [Tn,hk0,show ((l1+1) % 7).toNat=j by lia,PH,PJ,show t0+5*t4+6*t3 - 4*t2+11*k0 - r0=o by lia,show -t2=k1 by lia,show -t3=k2 by lia,aI.app_list,aI.app_list,hT,J0]
   simp [append_assoc]
theorem jb:az ["_law_script","_law_cell","_law_left","_law_counts_here","_law_k"] ["_law_script"] (ao cN):=⟨rfl,rfl,rfl,by decide +kernel,rfl,by decide +kernel,by decide +kernel⟩
structure jc(P:Program)(w:World)(K:Frag)(mg:Str->Option Value)(base:Heap)(G:jf):Prop where
 aM:Ok P w K mg base 1 "_law_cell_at" ["_law_script","_law_k"] (bK K)
theorem jd (D:Def K mg "_law_digit_counts" cN ["_law_script"]) (T:Txt P w K mg G) (O:jc P w K mg base G):Ok P w K mg base 2 "_law_digit_counts" ["_law_script"] (cE K):=by
 have S:=jb
 refine D.ok S (fun vs H Q E h=>?_) (fun f bO A outer s H vs Q E hr h=>?_)
 ·obtain ⟨_,_,rfl,_⟩:=h;rfl
 ·obtain ⟨a,ns,rfl,ha,hl,k⟩:=h
  have hu:=aS hr
  have ax:=T.ax
  have ai:=T.ai
  refine⟨_,(ag (aq (i:=1) S.nd rfl (Or.inl rfl) (aj aV (aF O.aM (hr.mono (by decide)) (aa (pv 0) (aa ae af))) (aj uz ae ae))) (ag (aq (i:=2) S.nd rfl (Or.inl rfl) (aH (B5 rfl) rfl T.Fi boot_max (aa ae (aa (aH (ud rfl) rfl T.JZ boot_min (aa ae (aa (aj bp (aH (fU K rfl) rfl T.gv PySem.boot_len (aa (pv 0) af)) ae) af))) af)))) (ag (aq (i:=3) S.nd rfl (Or.inl rfl) (bN af)) (ag (cR PassesOwn.never rfl (dU rfl T.iY (aa (aj aK ae (aj aV (aF O.aM (hr.mono (by decide)) (aa (pv 0) (aa ae af))) ae)) af)) (av (i:=4) S.nd rfl (Or.inl rfl)) (ak (bJ (aQ tP (pv 2) ae (aU _)) (ag (dy (cP PySem.F.plainAttrs_list PySem.F.slot_list_append PySem.F.type_list_append bZ (pv 3) (aa (aH (ud rfl) rfl T.JZ boot_min (aa (aj aK ae (aj aV (pv 1) ae)) (aa (pv 2) af))) af))) (ag (aq (i:=2) S.nd rfl (Or.inl rfl) (aj bp (pv 2) (aD (ay K rfl) (pv 3) (cS cg ae) (fun _ _=>rfl)))) (ak (aq (i:=1) S.nd rfl (Or.inl rfl) (aj cT (pv 1) ae))))) aP))) (ak (aC (pv 3))))))),?_⟩
  walk_at "w"
  rename_i p1 H1 n1 s1 m1
  obtain ⟨L,hL,L1,L2⟩:∃ L:Int,(if (if (((ns.map V.int).length:Nat):Int) - 6<55 then (((ns.map V.int).length:Nat):Int) - 6 else 55) > 1 then (if (((ns.map V.int).length:Nat):Int) - 6<55 then (((ns.map V.int).length:Nat):Int) - 6 else 55) else 1)=L/\1<=L/\L<=55:=⟨_,rfl,by split <;> split <;> lia,by split <;> split <;> lia⟩
  rw [hL]
  obtain ⟨N,hN,N1,N2⟩:∃ N:Nat,1+ns.getD (Int.toNat 1) 0 % 40=(N:Int)/\1<=N/\N<=40:=⟨(1+ns.getD (Int.toNat 1) 0 % 40).toNat,by lia,by lia,by lia⟩
  rw [hN]
  refine uT (fun i σ Hn=>∃ (o4:Option V) (cc left:Int) (ks:List Int),σ=[some (.ref a),some (.int cc),some (.int left),some (.ref p1),o4]/\ah H Hn/\Hn p1=some (.lst (ks.map V.int))/\ks.length<=i/\(1<=i->1<=ks.length)/\(ks=[]->1<=left)/\(∀ c∈ks,1<=c/\c<=24)/\0<=left/\ks.sum+left<=55) ⟨_,_,L,[],rfl,s1,m1,Zn _,(fun z=>absurd z (by decide)),fun _=>L1,(fun _ z=>nomatch z),by lia,by simpa using L2⟩ (fun i σ Hn hi hp=>?_) (fun σ Hn hp=>?_)
  ·obtain ⟨o4,cc,left,ks,rfl,sn,mp,lk,VO,To,hk,VP,Ga⟩:=hp
   have A9:i<40:=by
    have:i<N:=hi
    lia
   walk_at "w"
   refine cu (fun h1=>?_) (fun h1=>?_)
   ·have ET:=Zs h1
    walk_at "w"
    obtain ⟨mn,XT,PM,QG,YU⟩:∃ mn:Int,(if left<1+cc % 24 then left else 1+cc % 24)=mn/\1<=mn/\mn<=24/\mn<=left:=⟨_,rfl,by split <;> lia,by split <;> lia,by split <;> lia⟩
    rw [XT]
    refine cX mp (by rw [ZI];lia) ?_
    walk_at "w"
    refine nq (bj.of aB) Ik ?_
    walk_at "w"
    refine⟨_,_,_,ks++[mn],rfl,sn.eI n1,by rw [aB,ZV];rfl,by simp;lia,(fun _=>by simp),(fun z=>by simp at z),fun c hc=>?_,by lia,by rw [sum_append];simp;lia⟩
    rcases ZG.mp hc with z|z
    ·exact hk c z
    ·rw [ZF.mp z];lia
   ·have ET:=Zt h1
    walk_at "w"
    refine⟨_,_,_,ks,rfl,sn,mp,by lia,fun _=>?_,To,hk,VP,Ga⟩
    cases ks with
    | nil=>exact absurd (To rfl) (by lia)
    | cons x l=>simp
  ·obtain ⟨o4,cc,left,ks,rfl,sn,mp,lk,VO,To,hk,VP,Ga⟩:=hp
   have YV:ks.length<=N:=lk
   have Tp:1<=N->1<=ks.length:=VO
   walk_at "w"
   exact k p1 Hn ks sn mp ⟨Tp N1,by lia⟩ hk (by lia)
theorem lL:az ["_law_cells","_law_count","_law_total","_law_bottom","_law_words","_law_notes","_law_left","_law_k","_law_cell","_law_tone","_law_name","_law_more"] ["_law_cells","_law_count","_law_total","_law_bottom"] (ao dG):=⟨rfl,rfl,rfl,by decide +kernel,rfl,by decide +kernel,by decide +kernel⟩
structure lM(P:Program)(w:World)(K:Frag)(mg:Str->Option Value)(base:Heap)(G:jf):Prop where
 cO:Ok P w K mg base 1 "_law_lowest" ["_law_top","_law_bottom"] (cm K)
 qe:Ok P w K mg base 1 "_law_digit_tone" ["_law_cell"] (dg K)
 yr:Ok P w K mg base 1 "_law_name_of" ["_law_tone"] (eA K)
theorem lO (D:Def K mg "_law_digit_bar" dG ["_law_cells","_law_count","_law_total","_law_bottom"]) (T:Txt P w K mg G) (O:lM P w K mg base G):Ok P w K mg base 2 "_law_digit_bar" ["_law_cells","_law_count","_law_total","_law_bottom"] (du K):=by
 have S:=lL
 refine D.ok S (fun vs H Q E h=>?_) (fun f bO A outer s H vs Q E hr h=>?_)
 ·obtain ⟨_,_,_,_,_,rfl,_⟩:=h;rfl
 ·obtain ⟨lc,cs,n,t,bb,rfl,hc,xi,hn,ht,hb,k⟩:=h
  have hu:=aS hr
  have ax:=T.ax
  have ai:=T.ai
  refine⟨_,(ag (aq (i:=4) S.nd rfl (Or.inl rfl) (bN af)) (ag (aq (i:=5) S.nd rfl (Or.inl rfl) (bN af)) (ag (aq (i:=6) S.nd rfl (Or.inl rfl) (aj bp (pv 2) (pv 1))) (ag (cR PassesOwn.never rfl (dU rfl T.iY (aa (pv 1) af)) (av (i:=7) S.nd rfl (Or.inl rfl)) (ag (aq (i:=8) S.nd rfl (Or.inl rfl) (aj aV (cP PySem.F.plainAttrs_list PySem.F.slot_list_pop PySem.F.type_list_pop DL (pv 0) (aa ae af)) (aj uz ae ae))) (ag (aq (i:=9) S.nd rfl (Or.inl rfl) fR) (ag (aq (i:=10) S.nd rfl (Or.inl rfl) aN) (ag (bJ (aQ tP (aj aV (pv 8) ae) ae (aU _)) (ag (aq (i:=9) S.nd rfl (Or.inl rfl) (aF O.qe (hr.mono (by decide)) (aa (aj cT (pv 8) ae) af))) (ak (aq (i:=10) S.nd rfl (Or.inl rfl) (aF O.yr (hr.mono (by decide)) (aa (pv 9) af))))) aP) (ag (aq (i:=11) S.nd rfl (Or.inl rfl) (pv 6)) (ag (bJ (aQ Dt (pv 7) (aj bp (pv 1) ae) (aU _)) (ak (aq (i:=11) S.nd rfl (Or.inl rfl) (aj aV (aj Cc (pv 8) (aj cp (aj cp ae ae) (aj uz ae ae))) (aj aK (pv 6) ae)))) aP) (ag (aq (i:=6) S.nd rfl (Or.inl rfl) (aj bp (pv 6) (pv 11))) (ag (dy (cP PySem.F.plainAttrs_list PySem.F.slot_list_append PySem.F.type_list_append bZ (pv 4) (@aa _ _ _ _ _ (@aR _ _ _ _ _ (aa (pv 10) (aa (aj aK ae (pv 11)) (aa (pv 3) af)))) af (by rfl)))) (ak (dy (cP PySem.F.plainAttrs_list PySem.F.slot_list_append PySem.F.type_list_append bZ (pv 5) (@aa _ _ _ _ _ (@aR _ _ _ _ _ (aa (pv 9) (aa (aF O.cO (hr.mono (by decide)) (aa (aj aK ae (pv 11)) (aa (pv 3) af))) af))) af (by rfl)))))))))))))) (ak (aC (aR (aa (pv 4) (aa (pv 5) af))))))))),?_⟩
  walk_at "w"
  rename_i p1 H1 n1 s1 m1 p2 H2 n2 s2 m2
  have IJ:=s2 _ _ m1
  have FF:p2≠p1:=fun z=>by rw [z,m1] at n2;cases n2
  have VQ:=s1.trans s2
  have Qk:=VQ _ _ hc
  have VR:p1≠lc:=fun z=>by rw [z,hc] at n1;cases n1
  have VS:p2≠lc:=fun z=>by rw [z,s1 _ _ hc] at n2;cases n2
  refine uT (fun i σ Hn=>∃ (o7 o8 o9 J4 QL:Option V) (left:Int) (xs ys:List V) (ws:List Wd),σ=[some (.ref lc),some (.int (n:Int)),some (.int (t:Int)),some (.int (bb:Int)),some (.ref p1),some (.ref p2),some (.int left),o7,o8,o9,J4,QL]/\kg lc H Hn/\Hn lc=some (.lst ((cs.drop i).map V.int))/\Hn p1=some (.lst xs)/\Fa (bh K Hn) xs ws/\Hn p2=some (.lst ys)/\aT K Hn ys (ws.map wN)/\ws.length=i/\(∀ w∈ws,qp w/\w.2.2=bb)/\0<=left/\(i=n->left=0)/\(((ws.map fun w=>w.2.1).sum:Nat):Int)+left+(n:Int)=(t:Int)+(i:Int)) ⟨_,_,_,_,_,_,[],[],[],rfl,.of VQ,by simpa using Qk,IJ,.nil,m2,.nil,rfl,(fun _ z=>nomatch z),by lia,(fun z=>by lia),by simp⟩ (fun i σ Hn hi hp=>?_) (fun σ Hn hp=>?_)
  ·obtain ⟨o7,o8,o9,J4,QL,left,xs,ys,ws,rfl,sn,FG,J5,hW,J6,hN,VT,bf,zd,M1,Ga⟩:=hp
   have A9:i<n:=by lia
   have XU:i<cs.length:=by lia
   have ed:cs.drop i=cs[i]::cs.drop (i+1):=List.drop_eq_getElem_cons XU
   rw [ed] at FG
   have lW:=hW.length
   have lN:=hN.length
   rw [ZI] at lN
   walk_at "w"
   refine E2 (x:=.int cs[i]) (xs:=(cs.drop (i+1)).map V.int) FG ?_
   have sU:kg lc H (upd Hn lc (.lst ((cs.drop (i+1)).map V.int))):=sn.set
   have eC:upd Hn lc (.lst ((cs.drop (i+1)).map V.int)) lc=some (.lst ((cs.drop (i+1)).map V.int)):=aB
   have e1:upd Hn lc (.lst ((cs.drop (i+1)).map V.int)) p1=some (.lst xs):=by rw [aG VR];exact J5
   have e2:upd Hn lc (.lst ((cs.drop (i+1)).map V.int)) p2=some (.lst ys):=by rw [aG VS];exact J6
   have VU:=hW.imp (bh.off (zs:=(cs.drop (i+1)).map V.int) FG)
   have VV:=hN.off (zs:=(cs.drop (i+1)).map V.int) FG
   generalize upd Hn lc (.lst ((cs.drop (i+1)).map V.int))=HU at sU eC e1 e2 VU VV ⊢
   clear FG J5 J6 hW hN sn
   walk_at "j"
   generalize cs[i] % 10 ^ (60:Int).toNat=cc
   refine join (fun σ' H'=>∃ (v:V) (o:Option (List Int)),σ'=[some (.ref lc),some (.int (n:Int)),some (.int (t:Int)),some (.int (bb:Int)),some (.ref p1),some (.ref p2),some (.int left),some (.int (0+(i:Int))),some (.int cc),some v,some (.str (nP o)),QL]/\ah HU H'/\c6 K H' v o/\MU o) (fun nx Ad=>?_) (fun σ' H4 hP=>?_)
   ·walk_at "w"
    refine cu (fun h1=>?_) (fun h1=>?_)
    ·walk_at "w"
     refine lE fun pT t0 t1 t2 t3 t4 HT sT mT hT=>?_
     walk_at "w"
     refine qE (aL.of mT) hT fun T' HN sN BV=>?_
     walk_at "w"
     have en:=Pw BV
     subst en
     exact Ad _ _ ⟨.ref pT,some [t0,t1,t2,t3,t4],rfl,sT.trans sN,⟨pT,rfl,sN.at (aL.of mT),rfl⟩,fun r e=>by cases e;exact⟨rfl,u7 hT⟩⟩
    ·walk_at "w"
     exact Ad _ _ ⟨.dj,none,rfl,ah.refl _,rfl,fun _ e=>nomatch e⟩
   obtain ⟨v,o,rfl,s4,hv,L5⟩:=hP
   walk_at "j"
   refine join (fun σ' H'=>∃ (more:Int),σ'=[some (.ref lc),some (.int (n:Int)),some (.int (t:Int)),some (.int (bb:Int)),some (.ref p1),some (.ref p2),some (.int left),some (.int (0+(i:Int))),some (.int cc),some v,some (.str (nP o)),some (.int more)]/\H'=H4/\0<=more/\more<=left/\(i+1=n->more=left)) (fun nx Ad=>?_) (fun σ' H5 hP=>?_)
   ·walk_at "w"
    refine cu (fun h1=>?_) (fun h1=>?_)
    ·have ET:=Zs h1
     have VJ:0<left+1:=by lia
     walk_at "w"
     exact Ad _ _ ⟨_,rfl,rfl,emod_nonneg _ (by lia),Int.le_of_lt_add_one (emod_lt_of_pos _ VJ),fun z=>by lia⟩
    ·walk_at "w"
     exact Ad _ _ ⟨left,rfl,rfl,zd,Int.le_refl _,fun _=>rfl⟩
   obtain ⟨more,rfl,rfl,YW,YX,XX⟩:=hP
   have VW:left<=t:=by lia
   obtain ⟨mo,VX,XY,XZ⟩:∃ m:Nat,1+more=(m:Int)/\1<=m/\m<=9999:=⟨(1+more).toNat,by lia,by lia,by lia⟩
   have X0:=s4 _ _ e1
   walk_at "w"
   rename_i p6 H6 s6 m6
   rw [VX] at m6
   have PQ:=s4.trans s6
   have PR:=s6 _ _ X0
   refine cX PR (by lia) ?_
   have VY:bh K (upd H6 p1 (.lst (xs++[.ref p6]))) (.ref p6) (o,mo,bb):=bh.off PR _ _ ⟨p6,rfl,aL.of m6⟩
   have VZ:Fa (bh K (upd H6 p1 (.lst (xs++[.ref p6])))) xs ws:=(VU.imp (bh.same PQ)).imp (bh.off PR)
   have V0:aT K (upd H6 p1 (.lst (xs++[.ref p6]))) ys (ws.map wN):=(VV.same PQ).off PR
   have V1:c6 K (upd H6 p1 (.lst (xs++[.ref p6]))) v o:=(hv.same s6).off PR
   have V2:upd H6 p1 (.lst (xs++[.ref p6])) p2=some (.lst ys):=by rw [aG FF];exact PQ _ _ e2
   have V3:upd H6 p1 (.lst (xs++[.ref p6])) lc=some (.lst ((cs.drop (i+1)).map V.int)):=by rw [aG (Ne.symm VR)];exact PQ _ _ eC
   have J0:upd H6 p1 (.lst (xs++[.ref p6])) p1=some (.lst (xs++[.ref p6])):=aB
   have V4:kg lc H (upd H6 p1 (.lst (xs++[.ref p6]))):=fun b ob nb eb=>by
    rw [aG (fun z=>by rw [z,n1] at eb;cases eb)]
    exact PQ _ _ (sU b ob nb eb)
   generalize upd H6 p1 (.lst (xs++[.ref p6]))=HV at VY VZ V0 V1 V2 V3 J0 V4 ⊢
   walk_at "w"
   rw [VX]
   refine dR (by lia) (ZN hb.2 (by decide +kernel)) fun pA HA sA mA=>?_
   walk_at "w"
   rename_i pB HB sB mB
   have yq:=sA.trans sB
   have eB:=yq _ _ V2
   refine cX eB (by lia) ?_
   walk_at "w"
   have Mj:qp (o,mo,bb):=⟨L5,⟨XY,XZ⟩,hb.1,hb.2⟩
   refine⟨_,_,_,_,_,_,xs++[.ref p6],ys++[.ref pB],ws++[(o,mo,bb)],rfl,?_,?_,?_,?_,aB,?_,by simp [VT],fun w hw=>?_,by lia,(fun z=>by have:=XX z;lia),?_⟩
   ·intro b ob nb eb
    rw [aG (fun z=>by rw [z,s1.new n2] at eb;cases eb)]
    exact yq _ _ (V4 b ob nb eb)
   ·rw [aG (Ne.symm VS)];exact yq _ _ V3
   ·rw [aG (Ne.symm FF)];exact yq _ _ J0
   ·exact ((VZ.imp (bh.same yq)).imp (bh.off eB)).snoc (bh.off eB _ _ (bh.same yq _ _ VY))
   ·rw [ZV]
    exact ((V0.same yq).off eB).snoc (n:=wN (o,mo,bb)) (cy.off ⟨pB,v,pA,rfl,aL.of mB,V1.same yq,sB.at (aL.of mA)⟩ eB)
   ·rcases ZG.mp hw with z|z
    ·exact bf w z
    ·rw [ZF.mp z]
     exact⟨Mj,rfl⟩
   ·rw [ZV,sum_append]
    simp
    lia
  ·obtain ⟨o7,o8,o9,J4,QL,left,xs,ys,ws,rfl,sn,FG,J5,hW,J6,hN,VT,bf,zd,M1,Ga⟩:=hp
   have X1:ws.length=n:=by lia
   have hl:=M1 (by lia)
   walk_at "w"
   rename_i p9 H9 s9 m9
   exact k p9 p1 p2 H9 ws (sn.trans (.of s9)) (s9 _ _ (by simpa using FG)) ⟨aL.of m9,xs,ys,s9 _ _ J5,hW.imp (bh.same s9),s9 _ _ J6,hN.same s9⟩ n1 (s1.new n2) ⟨X1,bf,by lia⟩
theorem kD:az ["_law_script","_law_counts_here","_law_bottom","_law_total","_law_cells","_law_bars"] ["_law_script"] (ao dq):=⟨rfl,rfl,rfl,by decide +kernel,rfl,by decide +kernel,by decide +kernel⟩
structure kE(P:Program)(w:World)(K:Frag)(mg:Str->Option Value)(base:Heap)(G:jf):Prop where
 aM:Ok P w K mg base 1 "_law_cell_at" ["_law_script","_law_k"] (bK K)
 lP:Ok P w K mg base 2 "_law_digit_counts" ["_law_script"] (cE K)
 rh:Ok P w K mg base 2 "_law_digit_bar" ["_law_cells","_law_count","_law_total","_law_bottom"] (du K)
theorem kF (D:Def K mg "_law_digit_tune" dq ["_law_script"]) (T:Txt P w K mg G) (O:kE P w K mg base G):Ok P w K mg base 3 "_law_digit_tune" ["_law_script"] (dh K):=by
 have S:=kD
 refine D.ok S (fun vs H Q E h=>?_) (fun f bO A outer s H vs Q E hr h=>?_)
 ·obtain ⟨_,_,rfl,_⟩:=h;rfl
 ·obtain ⟨a,ns,rfl,ha,hlen,k⟩:=h
  have hu:=aS hr
  have ax:=T.ax
  have ai:=T.ai
  refine⟨_,(ag (aq (i:=1) S.nd rfl (Or.inl rfl) (aF O.lP (hr.mono (by decide)) (aa (pv 0) af))) (ag (aq (i:=2) S.nd rfl (Or.inr rfl) (aj aK ae (aj aV (aF O.aM (hr.mono (by decide)) (aa (pv 0) (aa ae af))) ae))) (ag (aq (i:=3) S.nd rfl (Or.inr rfl) (aj aK (aH (Bi K rfl rfl) rfl T.Fi boot_max (aa (pv 1) af)) (aj aV (aF O.aM (hr.mono (by decide)) (aa (pv 0) (aa ae af))) (aj bp ae (aH (Bi K rfl rfl) rfl T.Fi boot_max (aa (pv 1) af)))))) (ag (aq (i:=4) S.nd rfl (Or.inr rfl) (bu (N:=["_law_k","_law_script"]) (ix:=[none,some 0]) rfl (dU rfl T.iY (aa ae af)) (fun _ _ _ _ _=>(av (i:=0) (show jJ ["_law_k","_law_script"] by decide +kernel) rfl (Or.inl rfl))) (fun _ _ _ _ _=>rfl) (fun _ _ _ _ _=>(aF O.aM (hr.mono (by decide)) (aa (pv 1) (aa (aj aK ae (pv 0)) af)))) rfl (by decide +kernel) (by decide +kernel) rfl ⟨⟨rfl,Or.inr (Or.inl rfl),rfl,rfl⟩,True.intro⟩)) (ag (Bg (k:=5) (N:=["_law_count","_law_cells","_law_total","_law_bottom"]) (ix:=[none,some 4,some 3,some 2]) S.nd rfl (Or.inl rfl) rfl (b8 K rfl (pv 1)) (fun _ _ _ _ _=>(av (i:=0) (show jJ ["_law_count","_law_cells","_law_total","_law_bottom"] by decide +kernel) rfl (Or.inl rfl))) (fun _ _ _ _ _=>rfl) (fun _ _ _ _ _=>(aF O.rh (hr.mono (by decide)) (aa (pv 1) (aa (pv 0) (aa (pv 2) (aa (pv 3) af)))))) rfl (by decide +kernel) (by decide +kernel) rfl ⟨⟨rfl,Or.inr (Or.inl rfl),rfl,rfl⟩,⟨⟨rfl,Or.inr (Or.inl rfl),rfl,rfl⟩,⟨⟨rfl,Or.inr (Or.inl rfl),rfl,rfl⟩,True.intro⟩⟩⟩) (ak (aC (aR (aa (pv 3) (aa (pv 2) (aa (bu (N:=["_law_bar_here"]) (ix:=[none]) rfl (b8 K rfl (pv 5)) (fun _ _ _ _ _=>(av (i:=0) (show jJ ["_law_bar_here"] by decide +kernel) rfl (Or.inl rfl))) (fun _ _ _ _ _=>rfl) (fun _ _ _ _ _=>(aD (ay K rfl) (pv 0) ae (fun _ _=>rfl))) rfl (by decide +kernel) (by decide +kernel) rfl True.intro) (aa (bu (N:=["_law_bar_here"]) (ix:=[none]) rfl (b8 K rfl (pv 5)) (fun _ _ _ _ _=>(av (i:=0) (show jJ ["_law_bar_here"] by decide +kernel) rfl (Or.inl rfl))) (fun _ _ _ _ _=>rfl) (fun _ _ _ _ _=>(aD (ay K rfl) (pv 0) ae (fun _ _=>rfl))) rfl (by decide +kernel) (by decide +kernel) rfl True.intro) af)))))))))))),?_⟩
  walk_at "w"
  refine jF ⟨ha,hlen⟩ fun l1 H1 cs s1 m1 xi FE BN=>?_
  have J2:=s1.seq ha
  have F7:cs≠[]:=fun z=>by rw [z] at xi;exact absurd xi.1 (by decide)
  obtain ⟨bb,NQ,PU,PV⟩:∃ b:Nat,1+ns.getD (Int.toNat 3) 0 % 9999=(b:Int)/\1<=b/\b<=9999:=⟨(1+ns.getD (Int.toNat 3) 0 % 9999).toNat,by lia,by lia,by lia⟩
  walk_at "w"
  rw [NQ]
  refine ED (bj.of m1) F7 fun x1 QH PM=>?_
  walk_at "w"
  refine ED (bj.of m1) F7 fun x2 J3 QG=>?_
  have ex:x1=x2:=Int.le_antisymm (QG x1 QH) (PM x2 J3)
  subst ex
  have b1:=FE x1 QH
  have hd:0<10000 - x1:=by lia
  have z1:=emod_nonneg (ns.getD (Int.toNat 4) 0) (show 10000 - x1≠0 by lia)
  have z2:=emod_lt_of_pos (ns.getD (Int.toNat 4) 0) hd
  walk_at "w"
  obtain ⟨T',F9,t1,t2⟩:∃ t:Nat,x1+ns.getD (Int.toNat 4) 0 % (10000 - x1)=(t:Int)/\x1<=(t:Int)/\t<=9999:=⟨(x1+ns.getD (Int.toNat 4) 0 % (10000 - x1)).toNat,by lia,by lia,by lia⟩
  rw [F9]
  refine uh [some (.ref a)] (fun _ _=>True) rfl (by decide) (fun i H' Qc hi s kc=>?_) (fun lc H2 cells Tq s2 m2 X2 _=>?_)
  ·have XR:=s.seq J2
   have X3:i<55:=hi
   walk_at "w"
   exact kc _ _ trivial (ah.refl _)
  have Tr:cells.length=55:=X2
  have IJ:=s2 _ _ m1
  have QM:l1≠lc:=fun z=>by rw [z,] at m1;rw [m1] at Tq;cases Tq
  have Qq:∀ c∈cs,0<=c:=fun c hc=>by have:=FE c hc;lia
  walk_at "w"
  refine Cn lc ⟨_,m2⟩ 1 [some (.ref lc),some (.int (T':Int)),some (.int (bb:Int))] cs.length (fun l j ys H'=>∃ (rest:List Int) (aO:List (List Wd)),H' lc=some (.lst (rest.map V.int))/\(rest.length:Int)+(cs.take j).sum=55/\Fa (dD K H' [l,lc]) ys aO/\aO.length=j/\j<=cs.length/\pD T' bb aO) rfl (fun l H' _ s _=>⟨cells,[],s _ _ m2,by simp [Tr],.nil,rfl,ZZ _,fun _ z=>nomatch z⟩) (fun l j ys H' h=>by obtain ⟨_,aO,_,_,h3,h4,h5,_⟩:=h;have:=h3.length;lia) (fun H' s=>⟨_,bj.of (s _ _ QM IJ),by simp⟩) (fun j H' hj s=>⟨_,(cs.map V.int)[j]'(by rw [ZI];exact hj),bj.of (s _ _ QM IJ),ZC _⟩) (fun l j x H' Vx own ys ho hj zd PX s9 dB hp hy Qy Qn ky=>?_) (fun lB HB ys YY X4 sB mB hp=>?_)
  ·obtain ⟨o1,rfl⟩:∃ o1,own=[o1]:=by match own,ho with|[o1],_=>exact⟨o1,rfl⟩
   obtain ⟨rfl,e⟩:=hy
   have hx:=e _ (bj.of (s9 _ _ QM IJ))
   obtain ⟨rfl,YZ⟩:=dM hx
   have M3:cs[j]?=some (cs.getD j 0):=by rw [List.getD,ZC hj];rfl
   have QK:=ZH M3
   have S7:=FE _ QK
   have X5:=PM _ QK
   have Ad:=Fd Qq M3
   obtain ⟨cn,FG,PY,PZ⟩:∃ n:Nat,cs.getD j 0=(n:Int)/\1<=n/\n<=24:=⟨(cs.getD j 0).toNat,by lia,by lia,by lia⟩
   rw [FG] at M3 X5 Ad ⊢
   obtain ⟨rest,aO,MY,X6,X7,V5,X8,Tt⟩:=hp
   have et:cs.take (j+1)=cs.take j++[(cn:Int)]:=by rw [take_add_one,M3];rfl
   have X9:=oq (cs:=cs.take j) (fun c hc=>Qq c (List.mem_of_mem_take hc)) 0
   simp at X9
   walk_at "w"
   refine ja ?_
   walk_at "w"
   refine nS ⟨MY,⟨by lia,by lia⟩,⟨PY,PZ⟩,⟨by lia,t2⟩,⟨PU,PV⟩⟩ fun pp lw ln H3 ws s3 Ya Yb nw nn Tu=>?_
   have Em:=s3 _ _ PX dB
   have Tv:lw≠l:=fun z=>by rw [z,dB] at nw;cases nw
   have Tw:ln≠l:=fun z=>by rw [z,dB] at nn;cases nn
   have Yc:lw≠lc:=fun z=>by rw [z,MY] at nw;cases nw
   have Yd:ln≠lc:=fun z=>by rw [z,MY] at nn;cases nn
   refine ky [some (.int (cn:Int))] _ H3 rfl s3 ⟨rest.drop cn,aO++[ws],?_,?_,?_,by simp [V5],hj,Tt.snoc ⟨PY,PZ⟩ Tu⟩
   ·rw [aG (Ne.symm PX)];exact Ya
   ·rw [et,sum_append,length_drop];simp;lia
   ·refine ((X7.imp (dD.Gd s3 MY (by simp))).imp (dD.off Em (.head _))).snoc (dD.off Em (.head _) _ _ ⟨pp,lw,ln,rfl,Yb,fun b hb=>?_⟩)
    rcases ZL.mp hb with rfl|hb
    ·exact⟨Tv,Tw⟩
    ·rw [ZF.mp hb];exact⟨Yc,Yd⟩
  obtain ⟨rest,aO,MY,X6,hF,V5,X8,Tt⟩:=hp
  have lF:=hF.length
  have QN:ah H HB:=(sB.same (H0:=H1) s2 Tq |> fun s=>s1.trans s)
  have Tx:ek (T',bb) aO:=Tt.tx ⟨⟨by lia,t2⟩,PU,PV⟩ ⟨by lia,by lia⟩
  walk_at "w"
  refine cF 1 [] aO.length (fun l i zs H'=>Fa (gh K HB) zs (aO.take i)) rfl (fun _ _ _ _ _=>.nil) (fun l i zs H' h=>by have:=h.length;rw [ZS] at this;lia) (fun H' s=>⟨_,s.seq (bj.of mB),by lia⟩) (fun i H' hi s=>⟨ys,ys[i]'(by lia),s.seq (bj.of mB),ZC (by lia)⟩) (fun l' j x H3 H4 own zs ho hj zd s9 dB oH hy Qy Qn ky kn=>?_) (fun l3 H3 zs QF s3 Mh oH=>?_)
  ·obtain ⟨o1,rfl⟩:∃ o1,own=[o1]:=by match own,ho with|[o1],_=>exact⟨o1,rfl⟩
   obtain ⟨rfl,e⟩:=hy
   obtain ⟨ws,⟨pp,lw,ln,rfl,FH,_⟩,uq⟩:=hF.get (e ys (s9.seq (bj.of mB)))
   have et:aO.take (j+1)=aO.take j++[ws]:=by rw [take_add_one,uq];rfl
   obtain ⟨q1,q2⟩:=FH.same s9
   obtain ⟨_,ux,uy,u1,u2,u3,u4⟩:=FH
   walk_at "w"
   refine ja ?_
   walk_at "w"
   refine ky [some (.ref pp)] _ _ rfl (ah.refl _) ?_
   rw [et]
   exact oH.snoc ⟨lw,ux,rfl,u1,u2⟩
  rw [ZR] at oH
  have Mk:=s3 _ _ mB
  walk_at "w"
  refine cF 1 [] aO.length (fun l i zs H'=>bW K HB zs ((aO.take i).map fun ws=>ws.map wN)) rfl (fun _ _ _ _ _=>.nil) (fun l i zs H' h=>by have:=h.length;rw [ZI,ZS] at this;lia) (fun H' s=>⟨_,s.seq (bj.of Mk),by lia⟩) (fun i H' hi s=>⟨ys,ys[i]'(by lia),s.seq (bj.of Mk),ZC (by lia)⟩) (fun l' j x H5 H4 own OV ho hj zd s9 dB Ml hy Qy Qn ky kn=>?_) (fun l4 H4 Tz Ye s4 TB LN=>?_)
  ·obtain ⟨o1,rfl⟩:∃ o1,own=[o1]:=by match own,ho with|[o1],_=>exact⟨o1,rfl⟩
   obtain ⟨rfl,e⟩:=hy
   obtain ⟨ws,⟨pp,lw,ln,rfl,FH,_⟩,uq⟩:=hF.get (e ys (s9.seq (bj.of Mk)))
   have et:aO.take (j+1)=aO.take j++[ws]:=by rw [take_add_one,uq];rfl
   obtain ⟨q1,q2⟩:=FH.same (s3.trans s9)
   obtain ⟨_,ux,uy,u1,u2,u3,u4⟩:=FH
   walk_at "w"
   refine ja ?_
   walk_at "w"
   refine ky [some (.ref pp)] _ _ rfl (ah.refl _) ?_
   rw [et,ZV]
   exact Ml.snoc u3 u4
  rw [ZR] at LN
  walk_at "w"
  rename_i p9 H9 s9 m9
  exact k p9 l3 l4 H9 _ _ aO zs Tz (QN.trans ((s3.trans s4).trans s9)) m9 ((s4.trans s9) _ _ Mh) (oH.imp (gh.same ((s3.trans s4).trans s9))) (s9 _ _ TB) (LN.same ((s3.trans s4).trans s9)) Tx
theorem kG:az ["_law_script","_law_size","_law_bottom","_law_by","_law_total","_law_bars","_law_k","_law_count"] ["_law_script"] (ao dr):=⟨rfl,rfl,rfl,by decide +kernel,rfl,by decide +kernel,by decide +kernel⟩
structure kH(P:Program)(w:World)(K:Frag)(mg:Str->Option Value)(base:Heap)(G:jf):Prop where
 aM:Ok P w K mg base 1 "_law_cell_at" ["_law_script","_law_k"] (bK K)
 IL:Ok P w K mg base 3 "_law_bar" ["_law_cell","_law_count","_law_total","_law_by","_law_bottom"] (jE K)
 An:Ok P w K mg base 2 "_law_counts" ["_law_script"] (fF K)
theorem kI (D:Def K mg "_law_drawn_tune" dr ["_law_script"]) (T:Txt P w K mg G) (O:kH P w K mg base G):Ok P w K mg base 4 "_law_drawn_tune" ["_law_script"] (di K):=by
 have S:=kG
 refine D.ok S (fun vs H Q E h=>?_) (fun f bO A outer s H vs Q E hr h=>?_)
 ·obtain ⟨_,_,rfl,_⟩:=h;rfl
 ·obtain ⟨a,ns,rfl,ha,hlen,k⟩:=h
  have hu:=aS hr
  have ax:=T.ax
  have ai:=T.ai
  refine⟨_,(ag (aq (i:=1) S.nd rfl (Or.inl rfl) (aF O.aM (hr.mono (by decide)) (aa (pv 0) (aa ae af)))) (ag (aq (i:=2) S.nd rfl (Or.inl rfl) (aj aK ae (aj aV (aj cT (pv 1) ae) (aD (ay K rfl) (bN (aa ae (aa ae af))) (aj aV (pv 1) ae) (fun _ _=>rfl))))) (ag (aq (i:=3) S.nd rfl (Or.inl rfl) (aj aK ae (aj aV (aF O.aM (hr.mono (by decide)) (aa (pv 0) (aa ae af))) (aD (ay K rfl) (bN (aa ae (aa ae af))) (aj aV (pv 1) ae) (fun _ _=>rfl))))) (ag (aq (i:=4) S.nd rfl (Or.inl rfl) (aj aK ae (aj aV (aF O.aM (hr.mono (by decide)) (aa (pv 0) (aa ae af))) ae))) (ag (aq (i:=5) S.nd rfl (Or.inl rfl) (bN af)) (ag (cR PassesOwn.never rfl (j8 K rfl false rfl T.eY (aa (aF O.An (hr.mono (by decide)) (aa (pv 0) af)) af)) (bY (n:=2) K rfl rfl (aE (av (i:=6) S.nd rfl (Or.inl rfl)) (aE (av (i:=7) S.nd rfl (Or.inl rfl)) bX))) (ak (dy (cP PySem.F.plainAttrs_list PySem.F.slot_list_append PySem.F.type_list_append bZ (pv 5) (aa (aF O.IL (hr.mono (by decide)) (aa (aj aK (aF O.aM (hr.mono (by decide)) (aa (pv 0) (aa (aj aK ae (pv 6)) af))) (pv 6)) (aa (pv 7) (aa (pv 4) (aa (pv 3) (aa (pv 2) af)))))) af))))) (ak (aC (aR (aa (aj cp (pv 4) (pv 3)) (aa (pv 2) (aa (bu (N:=["_law_bar_here"]) (ix:=[none]) rfl (b8 K rfl (pv 5)) (fun _ _ _ _ _=>(av (i:=0) (show jJ ["_law_bar_here"] by decide +kernel) rfl (Or.inl rfl))) (fun _ _ _ _ _=>rfl) (fun _ _ _ _ _=>(aD (ay K rfl) (pv 0) ae (fun _ _=>rfl))) rfl (by decide +kernel) (by decide +kernel) rfl True.intro) (aa (bu (N:=["_law_bar_here"]) (ix:=[none]) rfl (b8 K rfl (pv 5)) (fun _ _ _ _ _=>(av (i:=0) (show jJ ["_law_bar_here"] by decide +kernel) rfl (Or.inl rfl))) (fun _ _ _ _ _=>rfl) (fun _ _ _ _ _=>(aD (ay K rfl) (pv 0) ae (fun _ _=>rfl))) rfl (by decide +kernel) (by decide +kernel) rfl True.intro) af))))))))))))),?_⟩
  walk_at "w"
  rename_i p1 H1 n1 s1 m1
  obtain ⟨sz,jq⟩:∃ z,ns.getD (Int.toNat 2) 0=z:=⟨_,rfl⟩
  rw [jq]
  obtain ⟨v1,Yf,Y0,Y1⟩:∃ v:Int,tU [V.int 9999,V.int 16] (sz % 2)=some (.int v)/\1<=v/\v<=9999:=by
   rcases (show sz % 2=0\/sz % 2=1 by lia) with e|e <;> rw [e]
   ·exact⟨9999,rfl,by decide,by decide⟩
   ·exact⟨16,rfl,by decide,by decide⟩
  refine nq (bj.of m1) Yf ?_
  have J2:=s1.seq ha
  have y1:=emod_nonneg (sz / 2) (show v1≠0 by lia)
  have y2:=emod_lt_of_pos (sz / 2) (show 0<v1 by lia)
  have Y2:0<v1:=by lia
  walk_at "w"
  rename_i p2 H2 n2 s2 m2
  obtain ⟨v2,Yg,Y3,Y4⟩:∃ v:Int,tU [V.int 200,V.int 3] (sz % 2)=some (.int v)/\1<=v/\v<=200:=by
   rcases (show sz % 2=0\/sz % 2=1 by lia) with e|e <;> rw [e]
   ·exact⟨200,rfl,by decide,by decide⟩
   ·exact⟨3,rfl,by decide,by decide⟩
  refine nq (bj.of m2) Yg ?_
  have VA:=s2.seq J2
  have y3:=emod_nonneg (ns.getD (Int.toNat 3) 0) (show v2≠0 by lia)
  have y4:=emod_lt_of_pos (ns.getD (Int.toNat 3) 0) (show 0<v2 by lia)
  have Yh:0<v2:=by lia
  walk_at "w"
  rename_i p3 H3 n3 s3 m3
  have Tf:=(s1.trans s2).trans s3
  have Yi:=s3.seq VA
  obtain ⟨bb,NQ,PU,PV⟩:∃ b:Nat,1+sz / 2 % v1=(b:Int)/\1<=b/\b<=9999:=⟨(1+sz / 2 % v1).toNat,by lia,by lia,by lia⟩
  obtain ⟨y,hy,V6,Yj⟩:∃ b:Nat,1+ns.getD (Int.toNat 3) 0 % v2=(b:Int)/\1<=b/\b<=200:=⟨(1+ns.getD (Int.toNat 3) 0 % v2).toNat,by lia,by lia,by lia⟩
  obtain ⟨T',F9,t1,t2⟩:∃ b:Nat,24+ns.getD (Int.toNat 4) 0 % 20=(b:Int)/\24<=b/\b<=43:=⟨(24+ns.getD (Int.toNat 4) 0 % 20).toNat,by lia,by lia,by lia⟩
  rw [NQ,hy,F9]
  have Y5:T'*y<=43*200:=ZO t2 Yj
  have TC:1<=T'*y:=mul_pos (by lia) V6
  refine vt Yi fun l4 H4 cs n4 s4 m4 xi FE=>?_
  have Yk:l4≠p3:=fun z=>by rw [z,m3] at n4;cases n4
  have P0:=Tf.trans s4
  have Yl:=s4 _ _ m3
  walk_at "w"
  refine EL (k:=false) (xs:=cs.map V.int) (fun i σ Hn=>∃ (o6 o7:Option V) (ys:List V) (aO:List (List Wd)),σ=[some (.ref a),some (.int sz),some (.int (bb:Int)),some (.int (y:Int)),some (.int (T':Int)),some (.ref p3),o6,o7]/\ah H Hn/\Hn l4=some (.lst (cs.map V.int))/\Hn p3=some (.lst ys)/\Fa (dD K Hn [p3]) ys aO/\aO.length=i/\pD (T'*y) bb aO) ⟨_,_,[],[],rfl,P0,m4,Yl,.nil,rfl,fun _ z=>nomatch z⟩ (fun i σ Hn hp=>by obtain ⟨_,_,_,_,rfl,_,Em,_⟩:=hp;exact cC (bj.of Em)) (fun i x σ Hn XI hx hp MZ=>?_) (fun σ Hn hp=>?_)
  ·obtain ⟨o6,o7,ys,aO,rfl,sn,TH,mp,hF,lb,bf⟩:=hp
   obtain ⟨rfl,t6⟩:=dM hx
   have M3:cs[i]?=some (cs.getD i 0):=by rw [List.getD,ZC t6];rfl
   have S7:=FE _ (ZH M3)
   obtain ⟨cn,FG,PY,PZ⟩:∃ n:Nat,cs.getD i 0=(n:Int)/\1<=n/\n<=24:=⟨(cs.getD i 0).toNat,by lia,by lia,by lia⟩
   rw [FG]
   have Y6:=(sn.trans MZ).seq ha
   have Ym:i<40:=by lia
   have lF:=hF.length
   walk_at "w"
   refine Cy ⟨⟨PY,PZ⟩,⟨by lia,by lia⟩,⟨V6,by lia,by lia⟩,⟨PU,PV⟩⟩ fun pp lw ln H5 ws s5 Yn nw nn TJ=>?_
   have QO:=MZ.trans s5
   have e5:=QO _ _ mp
   have Tv:lw≠p3:=fun z=>by rw [z,MZ _ _ mp] at nw;cases nw
   have Tw:ln≠p3:=fun z=>by rw [z,MZ _ _ mp] at nn;cases nn
   walk_at "w"
   refine cX e5 (by lia) ?_
   walk_at "w"
   refine⟨_,_,ys++[.ref pp],aO++[ws],rfl,(sn.trans QO).eI ((s1.trans s2).new n3),by rw [aG Yk];exact QO _ _ TH,aB,((hF.imp (dD.same QO)).imp (dD.off e5 (.head _))).snoc (dD.off e5 (.head _) _ _ ⟨pp,lw,ln,rfl,Yn,fun b hb=>by rw [ZF.mp hb];exact⟨Tv,Tw⟩⟩),by simp [lb],bf.snoc ⟨PY,PZ⟩ TJ⟩
  ·obtain ⟨o6,o7,ys,aO,rfl,QN,TH,mB,hF,lb,bf⟩:=hp
   rw [ZI] at lb
   have lF:=hF.length
   have Tx:ek (T'*y,bb) aO:=bf.tx ⟨⟨TC,by lia⟩,PU,PV⟩ ⟨by lia,by lia⟩
   generalize Hn=HB at QN TH mB hF
   walk_at "w"
   refine cF 1 [] aO.length (fun l i zs H'=>Fa (gh K HB) zs (aO.take i)) rfl (fun _ _ _ _ _=>.nil) (fun l i zs H' h=>by have:=h.length;rw [ZS] at this;lia) (fun H' s=>⟨_,s.seq (bj.of mB),by lia⟩) (fun i H' hi s=>⟨ys,ys[i]'(by lia),s.seq (bj.of mB),ZC (by lia)⟩) (fun l' j x H3 H4 own zs ho hj zd s9 dB oH hy Qy Qn ky kn=>?_) (fun l3 H3 zs QF s3 Mh oH=>?_)
   ·obtain ⟨o1,rfl⟩:∃ o1,own=[o1]:=by match own,ho with|[o1],_=>exact⟨o1,rfl⟩
    obtain ⟨rfl,e⟩:=hy
    obtain ⟨ws,⟨pp,lw,ln,rfl,FH,_⟩,uq⟩:=hF.get (e ys (s9.seq (bj.of mB)))
    have et:aO.take (j+1)=aO.take j++[ws]:=by rw [take_add_one,uq];rfl
    obtain ⟨q1,q2⟩:=FH.same s9
    obtain ⟨_,ux,uy,u1,u2,u3,u4⟩:=FH
    walk_at "w"
    refine ja ?_
    walk_at "w"
    refine ky [some (.ref pp)] _ _ rfl (ah.refl _) ?_
    rw [et]
    exact oH.snoc ⟨lw,ux,rfl,u1,u2⟩
   rw [ZR] at oH
   have Mk:=s3 _ _ mB
   walk_at "w"
   refine cF 1 [] aO.length (fun l i zs H'=>bW K HB zs ((aO.take i).map fun ws=>ws.map wN)) rfl (fun _ _ _ _ _=>.nil) (fun l i zs H' h=>by have:=h.length;rw [ZI,ZS] at this;lia) (fun H' s=>⟨_,s.seq (bj.of Mk),by lia⟩) (fun i H' hi s=>⟨ys,ys[i]'(by lia),s.seq (bj.of Mk),ZC (by lia)⟩) (fun l' j x H5 H4 own OV ho hj zd s9 dB Ml hy Qy Qn ky kn=>?_) (fun l4 H4 Tz Ye s4 TB LN=>?_)
   ·obtain ⟨o1,rfl⟩:∃ o1,own=[o1]:=by match own,ho with|[o1],_=>exact⟨o1,rfl⟩
    obtain ⟨rfl,e⟩:=hy
    obtain ⟨ws,⟨pp,lw,ln,rfl,FH,_⟩,uq⟩:=hF.get (e ys (s9.seq (bj.of Mk)))
    have et:aO.take (j+1)=aO.take j++[ws]:=by rw [take_add_one,uq];rfl
    obtain ⟨q1,q2⟩:=FH.same (s3.trans s9)
    obtain ⟨_,ux,uy,u1,u2,u3,u4⟩:=FH
    walk_at "w"
    refine ja ?_
    walk_at "w"
    refine ky [some (.ref pp)] _ _ rfl (ah.refl _) ?_
    rw [et,ZV]
    exact Ml.snoc u3 u4
   rw [ZR] at LN
   walk_at "w"
   rename_i p9 H9 s9 m9
   rw [show (T':Int)*(y:Int)=((T'*y:Nat):Int) by simp] at m9
   exact k p9 l3 l4 H9 _ _ aO zs Tz (QN.trans ((s3.trans s4).trans s9)) m9 ((s4.trans s9) _ _ Mh) (oH.imp (gh.same ((s3.trans s4).trans s9))) (s9 _ _ TB) (LN.same ((s3.trans s4).trans s9)) Tx
theorem ri:az ["_law_top","_law_bottom","_law_low"] ["_law_top","_law_bottom","_law_low"] (ao gc):=⟨rfl,rfl,rfl,by decide +kernel,rfl,by decide +kernel,by decide +kernel⟩
structure rj(P:Program)(w:World)(K:Frag)(mg:Str->Option Value)(base:Heap)(G:jf):Prop where
 cO:Ok P w K mg base 1 "_law_lowest" ["_law_top","_law_bottom"] (cm K)
theorem rk (D:Def K mg "_law_length" gc ["_law_top","_law_bottom","_law_low"]) (T:Txt P w K mg G) (O:rj P w K mg base G):Ok P w K mg base 2 "_law_length" ["_law_top","_law_bottom","_law_low"] (fG K):=by
 have S:=ri
 refine D.ok S (fun vs H Q E h=>?_) (fun f bO A outer s H vs Q E hr h=>?_)
 ·obtain ⟨_,_,rfl,_⟩:=h;rfl
 ·obtain ⟨p,lo,rfl,hp,k⟩:=h
  have hu:=aS hr
  have ax:=T.ax
  have ai:=T.ai
  refine⟨_,(ag (bJ (cv (pv 2)) (ak (uw (aF O.cO (hr.mono (by decide)) (aa (pv 0) (aa (pv 1) af))) (bY (n:=2) K rfl rfl (aE (av (i:=0) S.nd rfl (Or.inl rfl)) (aE (av (i:=1) S.nd rfl (Or.inl rfl)) bX))))) aP) (ak (aC (aj bL (aj bL (bt iO rfl T.uo boot_str (aa (pv 0) af)) aN) (bt iO rfl T.uo boot_str (aa (pv 1) af)))))),?_⟩
  obtain ⟨t,b⟩:=p
  have PL:=(cA hp).2
  cases lo with
  | true =>
   walk_at "w"
   refine gF rfl ?_
   walk_at "w"
   refine dR (t:=t) (b:=b) hp.2.1 (ZN hp.2.2 (by decide +kernel)) fun p1 H1 s1 m1=>?_
   refine Bk (aL.of m1) ?_
   have Dc:=ck hp
   have M4:=(cA Dc).2
   have e1:(bq (t,b)).1=t / Nat.gcd t b:=rfl
   have e2:(bq (t,b)).2=b / Nat.gcd t b:=rfl
   rw [<- e1,<- e2]
   have b1:=Dc.1.2
   have b2:=Dc.2.2
   have k':∀ H',ah H H'->Q (.str (x5 (bq (t,b)))) H':=k
   generalize bq (t,b)=q at Dc M4 b1 b2 k' ⊢
   walk_at "w"
   have l1:=aJ.cj (n:=q.1) (m:=4) (by decide) (by lia)
   have l2:=aJ.cj (n:=q.2) (m:=4) (by decide) (by lia)
   refine k9 (aJ.jr (ZN (show ((q.1:Int)).natAbs<=9999 by lia) (by decide +kernel))) ?_
   walk_at "w"
   refine cD (au (show (aJ.txt q.1).length+1<=2000 by lia)) ?_
   walk_at "w"
   refine k9 (aJ.jr (ZN (show ((q.2:Int)).natAbs<=9999 by lia) (by decide +kernel))) ?_
   walk_at "w"
   refine cD (au (by rw [PySem.strLen_append];show (aJ.txt q.1).length+1+(aJ.txt q.2).length<=2000;lia)) ?_
   exact k' _ s1
  | false =>
   walk_at "w"
   refine cY rfl ?_
   have b1:=hp.1.2
   have b2:=hp.2.2
   generalize (t,b)=q at hp PL b1 b2 k ⊢
   walk_at "w"
   have l1:=aJ.cj (n:=q.1) (m:=4) (by decide) (by lia)
   have l2:=aJ.cj (n:=q.2) (m:=4) (by decide) (by lia)
   refine k9 (aJ.jr (ZN (show ((q.1:Int)).natAbs<=9999 by lia) (by decide +kernel))) ?_
   walk_at "w"
   refine cD (au (show (aJ.txt q.1).length+1<=2000 by lia)) ?_
   walk_at "w"
   refine k9 (aJ.jr (ZN (show ((q.2:Int)).natAbs<=9999 by lia) (by decide +kernel))) ?_
   walk_at "w"
   refine cD (au (by rw [PySem.strLen_append];show (aJ.txt q.1).length+1+(aJ.txt q.2).length<=2000;lia)) ?_
   exact k _ (ah.refl _)
theorem yt:az ["_law_meter","_law_bars","_law_low","_law_parts","_law_words"] ["_law_meter","_law_bars","_law_low"] (ao jz):=⟨rfl,rfl,rfl,by decide +kernel,rfl,by decide +kernel,by decide +kernel⟩
structure yu(P:Program)(w:World)(K:Frag)(mg:Str->Option Value)(base:Heap)(G:jf):Prop where
 qf:Ok P w K mg base 2 "_law_length" ["_law_top","_law_bottom","_law_low"] (fG K)
theorem yv (D:Def K mg "_law_text" jz ["_law_meter","_law_bars","_law_low"]) (T:Txt P w K mg G) (O:yu P w K mg base G):Ok P w K mg base 3 "_law_text" ["_law_meter","_law_bars","_law_low"] (gY K):=by
 have S:=yt
 refine D.ok S (fun vs H Q E h=>?_) (fun f bO A outer s H vs Q E hr h=>?_)
 ·obtain ⟨_,_,_,_,_,_,rfl,_⟩:=h;rfl
 ·obtain ⟨m,l,mt,xs,aO,lo,rfl,hm,hl,hB,hx,k⟩:=h
  have hu:=aS hr
  have ax:=T.ax
  have ai:=T.ai
  refine⟨_,(ag (aq (i:=3) S.nd rfl (Or.inl rfl) (bN af)) (ag (cR PassesOwn.never rfl (b8 K rfl (pv 1)) (av (i:=4) S.nd rfl (Or.inl rfl)) (ak (dy (cP PySem.F.plainAttrs_list PySem.F.slot_list_append PySem.F.type_list_append bZ (pv 3) (aa (cP PySem.F.plainAttrs_str PySem.F.slot_str_join PySem.F.type_str_join kf aN (aa (bu (N:=["_law_name","_law_top","_law_bottom","_law_low"]) (ix:=[none,none,none,some 2]) rfl (b8 K rfl (pv 4)) (fun _ _ _ _ _=>(bY (n:=3) K rfl rfl (aE (av (i:=0) (show jJ ["_law_name","_law_top","_law_bottom","_law_low"] by decide +kernel) rfl (Or.inl rfl)) (aE (av (i:=1) (show jJ ["_law_name","_law_top","_law_bottom","_law_low"] by decide +kernel) rfl (Or.inl rfl)) (aE (av (i:=2) (show jJ ["_law_name","_law_top","_law_bottom","_law_low"] by decide +kernel) rfl (Or.inl rfl)) bX))))) (fun _ _ _ _ _=>rfl) (fun _ _ _ _ _=>(aj bL (aj bL (pv 0) aN) (aF O.qf (hr.mono (by decide)) (aa (pv 1) (aa (pv 2) (aa (pv 3) af)))))) rfl (by decide +kernel) (by decide +kernel) rfl ⟨⟨rfl,Or.inr (Or.inl rfl),rfl,rfl⟩,True.intro⟩) af)) af))))) (ak (aC (aj bL (aj bL (aF O.qf (hr.mono (by decide)) (aa (aD (ay K rfl) (pv 0) ae (fun _ _=>rfl)) (aa (aD (ay K rfl) (pv 0) ae (fun _ _=>rfl)) (aa (pv 2) af)))) aN) (cP PySem.F.plainAttrs_str PySem.F.slot_str_join PySem.F.type_str_join kf aN (aa (pv 3) af))))))),?_⟩
  have lB:=hB.length
  have SE:=hx.1
  walk_at "w"
  rename_i p1 H1 n1 s1 m1
  refine EB (xs:=xs) (fun i σ Hn=>∃ (o4:Option V),σ=[some (.ref m),some (.ref l),some (.bl lo),some (.ref p1),o4]/\ah H Hn/\Hn p1=some (.lst ((((aO.take i).map fun ws=>ei (ws.map (lw lo)))).map V.str))/\i<=aO.length) ⟨_,rfl,s1,m1,ZZ _⟩ (fun i σ Hn hp=>by obtain ⟨_,rfl,sn,_⟩:=hp;exact bj.of (sn _ _ hl)) (fun i x σ Hn Yo hp=>?_) (fun σ Hn hp=>?_)
  ·obtain ⟨o4,rfl,sn,mp,hi⟩:=hp
   obtain ⟨ws,⟨aw,zs,rfl,hz,hW⟩,TK⟩:=(hB.imp (gh.same sn)).get Yo
   obtain ⟨g1,g2,g3⟩:=hx.2.2 ws (ZH TK)
   have lW:=hW.length
   walk_at "w"
   refine cF 3 [some (.bl lo)] ws.length (fun l j ys H'=>ys=((ws.take j).map fun w=>uk (lw lo w)).map V.str) rfl (fun _ _ _ _ _=>rfl) (fun l j ys H' h=>by rw [h,ZI,ZI,ZS];lia) (fun H' s=>⟨_,s.seq (bj.of hz),by lia⟩) (fun j H' hj s=>⟨zs,zs[j]'(by lia),s.seq (bj.of hz),ZC (by lia)⟩) (fun l' j x H3 H4 own ys ho hj zd s9 dB oH hy Qy Qn ky kn=>?_) (fun l3 H3 ys QF s3 Mh oH=>?_)
   ·obtain ⟨o1,o2,o3,rfl⟩:∃ o1 o2 o3,own=[o1,o2,o3]:=by match own,ho with|[o1,o2,o3],_=>exact⟨o1,o2,o3,rfl⟩
    obtain ⟨rfl,e⟩:=hy
    obtain ⟨w,⟨a,rfl,ha⟩,uq⟩:=(hW.imp (bh.same s9)).get (e zs (s9.seq (bj.of hz)))
    have Mj:=g2 w (ZH uq)
    have et:ws.take (j+1)=ws.take j++[w]:=by rw [take_add_one,uq];rfl
    have Y7:=(ly Mj.1).2
    have oC:=(cA (JY (lo:=lo) Mj).2).2
    refine HZ ha ?_
    refine ja ?_
    walk_at "w"
    refine cD (au (show (nP w.1).length+1<=2000 by lia)) ?_
    walk_at "w"
    refine kA Mj.2 fun H5 s5=>?_
    refine cD (au (by rw [PySem.strLen_append];show (nP w.1).length+1+(x5 (lw lo w).2).length<=2000;lia)) ?_
    refine ky [some (.str (nP w.1)),some (.int (w.2.1:Int)),some (.int (w.2.2:Int))] _ H5 rfl s5 ?_
    rw [et,ZV,ZV,oH]
    rfl
   rw [ZR] at oH
   subst oH
   have LM:∀ w∈ws.map (lw lo),qp w:=fun w hw=>by
    obtain ⟨x,hx,rfl⟩:=ZM.mp hw
    exact JY (g2 x hx)
   have TL:H3 l3=some (.lst (((ws.map (lw lo)).map uk).map V.str)):=by rw [Mh,ZW (f:=lw lo)];rfl
   have MQ:=eM (b:=310) (l:=(ws.map (lw lo)).map uk) (fun z hz=>by
    obtain ⟨w,hw,rfl⟩:=ZM.mp hz
    exact (fM (LM w hw)).2)
   rw [ZI,ZI] at MQ
   have Yp:=s3 _ _ mp
   walk_at "w"
   refine oj TL (by decide) (by rw [ZI,ZI];lia) ?_
   walk_at "w"
   refine cX Yp (by rw [ZI,ZI,ZS];lia) ?_
   walk_at "w"
   have jn:i<aO.length:=(Zi.mp TK).1
   refine⟨_,rfl,(sn.trans s3).eI n1,?_,jn⟩
   rw [aB,take_add_one,TK,ZV,ZV]
   rfl
  ·obtain ⟨o4,rfl,sn,mp,hi⟩:=hp
   rw [<- lB,ZR] at mp
   have zu:=sn.at hm
   have J3:=Pt (lo:=lo) hx
   have GI:=x8 J3
   have QI:Hn p1=some (.lst (((aO.map fun ws=>ws.map (lw lo)).map ei).map V.str)):=by rw [mp];simp only [ZW];rfl
   have MQ:=eM (b:=7500) (l:=(aO.map fun ws=>ws.map (lw lo)).map ei) (fun z hz=>by
    obtain ⟨ws,hw,rfl⟩:=ZM.mp hz
    exact (gf (J3.2.2 ws hw).2.1 (J3.2.2 ws hw).1.2).2)
   rw [ZI,ZI] at MQ
   have oC:=(cA J3.2.1).2
   walk_at "w"
   refine kA hx.2.1 fun H5 s5=>?_
   walk_at "w"
   refine cD (au (show (x5 (if lo=true then bq mt else mt)).length+(PySem.Str.ofString ": ").length<=2000 by rw [show (PySem.Str.ofString ": ").length=2 by decide];lia)) ?_
   have Yq:=s5 _ _ QI
   walk_at "w"
   refine oj Yq (by decide) (by rw [ZI,ZI];lia) ?_
   refine cD (Bs (by
    have:=GI.2
    unfold nQ at this
    rw [PySem.strLen_append] at this
    lia)) ?_
   exact k _ (sn.trans s5)
theorem Mm:az ["_law_script","_law_top","_law_bottom","_law_bars","_law_notes","_law_tune","_law_text_here","_law_first","_law_handed","_law_other"] ["_law_script"] (ao kh):=⟨rfl,rfl,rfl,by decide +kernel,rfl,by decide +kernel,by decide +kernel⟩
structure Mn(P:Program)(w:World)(K:Frag)(mg:Str->Option Value)(base:Heap)(G:jf):Prop where
 lQ:Ok P w K mg base 9 "tune_read" ["text"] (gm K)
 CM:Ok P w K mg base 5 "tune_text" ["tune"] (gp K)
 aM:Ok P w K mg base 1 "_law_cell_at" ["_law_script","_law_k"] (bK K)
 cO:Ok P w K mg base 1 "_law_lowest" ["_law_top","_law_bottom"] (cm K)
 fO:Ok P w K mg base 7 "_law_alike" ["_law_found","_law_due"] (dQ K 6)
 qg:Ok P w K mg base 3 "_law_digit_tune" ["_law_script"] (dh K)
 qh:Ok P w K mg base 4 "_law_drawn_tune" ["_law_script"] (di K)
 yw:Ok P w K mg base 3 "_law_text" ["_law_meter","_law_bars","_law_low"] (gY K)
theorem Mo {f:Addr} {fd:FuncData} (F:Jn K "law" "law" kh f fd) (T:Txt P w K mg G) (O:Mn P w K mg base G):oB P w K mg base Jm 10 f fd ["_law_script"] (DZ K):=by
 have S:=Mm
 refine F.ok S (fun vs H Q E h=>?_) (fun bO A outer s H vs Q E hr h=>?_)
 ·obtain ⟨_,_,rfl,_⟩:=h;rfl
 ·obtain ⟨a,ns,rfl,hS,hlen,k⟩:=h
  have hu:=aS hr
  have ax:=T.ax
  have ai:=T.ai
  refine⟨_,(ag (bJ (aQ gB (aj aV (aF O.aM (hr.mono (by decide)) (aa (pv 0) (aa ae af))) ae) ae (aU _)) (ak (uw (aF O.qg (hr.mono (by decide)) (aa (pv 0) af)) (bY (n:=4) K rfl rfl (aE (av (i:=1) S.nd rfl (Or.inl rfl)) (aE (av (i:=2) S.nd rfl (Or.inl rfl)) (aE (av (i:=3) S.nd rfl (Or.inl rfl)) (aE (av (i:=4) S.nd rfl (Or.inl rfl)) bX))))))) (ak (uw (aF O.qh (hr.mono (by decide)) (aa (pv 0) af)) (bY (n:=4) K rfl rfl (aE (av (i:=1) S.nd rfl (Or.inl rfl)) (aE (av (i:=2) S.nd rfl (Or.inl rfl)) (aE (av (i:=3) S.nd rfl (Or.inl rfl)) (aE (av (i:=4) S.nd rfl (Or.inl rfl)) bX)))))))) (ag (aq (i:=5) S.nd rfl (Or.inl rfl) (aR (aa (aF O.cO (hr.mono (by decide)) (aa (pv 1) (aa (pv 2) af))) (aa (pv 4) af)))) (ag (aq (i:=6) S.nd rfl (Or.inl rfl) (aF O.yw (hr.mono (by decide)) (@aa _ _ _ _ _ (@aR _ _ _ _ _ (aa (pv 1) (aa (pv 2) af))) (@aa _ _ _ _ _ (pv 3) (@aa _ _ _ _ _ gu af (by rfl)) (by rfl)) (by rfl)))) (ag (aq (i:=7) S.nd rfl (Or.inl rfl) (aF O.lQ (hr.mono (by decide)) (aa (pv 6) af))) (ag (bJ (dE (cv (aF O.fO (hr.mono (by decide)) (aa (pv 7) (aa (pv 5) af))))) (ak (aC gu)) aP) (ag (aq (i:=8) S.nd rfl (Or.inl rfl) (aR (aa (aD (ay K rfl) (pv 5) ae (fun _ _=>rfl)) (aa (bu (N:=["_law_bar_here"]) (ix:=[none]) rfl (b8 K rfl (pv 4)) (fun _ _ _ _ _=>(av (i:=0) (show jJ ["_law_bar_here"] by decide +kernel) rfl (Or.inl rfl))) (fun _ _ _ _ _=>rfl) (fun _ _ _ _ _=>(bt (G7 K rfl) rfl T.vf boot_list (aa (pv 0) af))) rfl (by decide +kernel) (by decide +kernel) rfl True.intro) af)))) (ag (bJ (PW.pt (tM (dE (cv (aF O.fO (hr.mono (by decide)) (aa (aF O.CM (hr.mono (by decide)) (aa (pv 8) af)) (aa (pv 6) af))))) (kM (dE (cv (aF O.fO (hr.mono (by decide)) (aa (pv 8) (aa (pv 5) af)))))))) (ak (aC gu)) aP) (ag (dy (KL PySem.F.plainAttrs_list PySem.F.slot_list_clear PySem.F.type_list_clear DN (aD (ay K rfl) (aD (ay K rfl) (pv 7) ae (fun _ _=>rfl)) ae (fun _ _=>rfl)))) (ag (aq (i:=9) S.nd rfl (Or.inl rfl) (aF O.lQ (hr.mono (by decide)) (aa (aF O.yw (hr.mono (by decide)) (@aa _ _ _ _ _ (@aR _ _ _ _ _ (aa (pv 1) (aa (pv 2) af))) (@aa _ _ _ _ _ (pv 3) (@aa _ _ _ _ _ gu af (by rfl)) (by rfl)) (by rfl))) af))) (ak (aC (kO (aF O.fO (hr.mono (by decide)) (aa (pv 9) (aa (pv 5) af))) (kN (aF O.fO (hr.mono (by decide)) (aa (aF O.lQ (hr.mono (by decide)) (aa (pv 6) af)) (aa (pv 5) af)))))))))))))))),?_⟩
  walk_at "j"
  refine join (fun σ' H'=>∃ (o5 o6 o7 o8 o9 J4:Option V) (lb ln:Addr) (M bb:Nat) (aO:List (List Wd)) (xs ys:List V),σ'=[some (.ref a),some (.int (M:Int)),some (.int (bb:Int)),some (.ref lb),some (.ref ln),o5,o6,o7,o8,o9]/\ah H H'/\H' lb=some (.lst xs)/\Fa (gh K H') xs aO/\H' ln=some (.lst ys)/\bW K H' ys (aO.map fun ws=>ws.map wN)/\ek (M,bb) aO) (fun nx Ad=>?_) (fun σ' H1 hP=>?_)
  ·walk_at "w"
   refine cu (fun h1=>?_) (fun h1=>?_)
   ·walk_at "w"
    refine lG ⟨hS,by lia⟩ fun p lb ln H2 M bb aO xs ys s2 m2 h3 h4 h5 h6 h7=>?_
    refine Bz (aL.of m2) ?_
    exact Ad _ _ ⟨_,_,_,_,_,none,lb,ln,M,bb,aO,xs,ys,rfl,s2,h3,h4,h5,h6,h7⟩
   ·walk_at "w"
    refine lH ⟨hS,by lia⟩ fun p lb ln H2 M bb aO xs ys s2 m2 h3 h4 h5 h6 h7=>?_
    refine Bz (aL.of m2) ?_
    exact Ad _ _ ⟨_,_,_,_,_,none,lb,ln,M,bb,aO,xs,ys,rfl,s2,h3,h4,h5,h6,h7⟩
  obtain ⟨o5,o6,o7,o8,o9,_,lb,ln,M,bb,aO,xs,ys,rfl,s1,PD,hW,M1,hB,hx⟩:=hP
  have hg:=hx.2.1
  have J8:=hx.SF
  have TM:=hx.txt
  have Dc:=Fb hx
  have M4:=Fe hx
  walk_at "w"
  refine dR (t:=M) (b:=bb) hg.2.1 (ZN hg.2.2 (by decide +kernel)) fun pm H2 s2 m2=>?_
  walk_at "w"
  rename_i pt H3 s3 mt pq H4 s4 mq
  have Qx:eh K H3 pt pm ln (eG (M,bb)) ys (aO.map fun ws=>ws.map wN):=⟨aL.of mt,s3.at (aL.of m2),(s2.trans s3) _ _ M1,hB.same (s2.trans s3)⟩
  have V7:=Qx.same s4
  have P0:=(s2.trans s3).trans s4
  refine pN (mt:=(M,bb)) ⟨aL.of mq,P0 _ _ PD,hW.imp (gh.same P0),hx⟩ fun H5 s5=>?_
  rw [show nQ (if true=true then bq (M,bb) else (M,bb)) (aO.map fun ws=>ws.map (lw true))=nQ (bq (M,bb)) (aO.map fun ws=>ws.map vc) from rfl]
  have QP:=V7.same s5
  have QQ:=P0.trans s5
  have TN:=QQ _ _ PD
  have Yr:=hW.imp (gh.same QQ)
  have TQ:=QQ _ _ M1
  have Ys:=hB.same QQ
  clear Qx V7 PD hW M1 hB hS
  walk_at "w"
  refine gZ Dc fun t1 m1 l1 H6 Yt s6 QM Sm M5=>?_
  rw [M4.1,M4.2] at M5
  walk_at "w"
  refine cz (n:=6) (ki (n:=0) M5 (QP.same s6) J8.1 J8.2) fun H7 s7=>?_
  walk_at "w"
  refine cY rfl ?_
  have P1:=s6.trans s7
  have V8:=QP.same P1
  have IM:=P1 _ _ TQ
  have TR:=Ys.same P1
  obtain ⟨Yu,V9,Yv,Yw⟩:=id V8
  have lY:=TR.length
  rw [ZI] at lY
  have SE:=hx.1
  walk_at "w"
  refine cF 1 [] aO.length (fun l i zs H'=>bW K H' zs ((aO.take i).map fun ws=>ws.map wN)/\(V.ref l∉zs)) rfl (fun _ _ _ _ _=>⟨.nil,fun z=>nomatch z⟩) (fun l i zs H' h=>by have:=h.1.length;rw [ZI,ZS] at this;lia) (fun H' s=>⟨_,s.seq (bj.of IM),by lia⟩) (fun i H' hi s=>⟨ys,ys[i]'(by lia),s.seq (bj.of IM),ZC (by lia)⟩) (fun l' j x Y8 Y9 own zs ho hj zd s9 dB hp hy Qy Qn ky kn=>?_) (fun l8 H8 zs Za s8 Wa hp=>?_)
  ·obtain ⟨o1,rfl⟩:∃ o1,own=[o1]:=by match own,ho with|[o1],_=>exact⟨o1,rfl⟩
   obtain ⟨rfl,e⟩:=hy
   obtain ⟨a1,us,Vs,rfl,hz,MJ,y8⟩:=(TR.same s9).get (e ys (s9.seq (bj.of IM)))
   obtain ⟨ws,uq,rfl⟩:∃ ws,aO[j]?=some ws/\Vs=ws.map wN:=by
    rw [ZU,ZC hj] at y8
    exact⟨_,ZC hj,by cases y8;rfl⟩
   have et:aO.take (j+1)=aO.take j++[ws]:=by rw [take_add_one,uq];rfl
   walk_at "w"
   refine ja ?_
   walk_at "w"
   rename_i pL HL nL sL mL
   have eL:=sL _ _ dB
   have ne:pL≠l':=fun z=>by rw [z,dB] at nL;cases nL
   refine ky [some (.ref a1)] _ HL rfl sL ⟨?_,fun z=>?_⟩
   ·rw [et,ZV]
    exact ((hp.1.same sL).off eL hp.2).snoc (by rw [aG ne];exact mL) ((MJ.same sL).off eL)
   ·rcases ZG.mp z with z|z
    ·exact hp.2 z
    ·have:=ZF.mp z
     cases this
     exact ne rfl
  rw [ZR] at hp
  walk_at "w"
  rename_i p9 H9 s9 m9
  have TU:eh K H9 p9 pm l8 (eG (M,bb)) zs (aO.map fun ws=>ws.map wN):=⟨aL.of m9,(s8.trans s9).at V9,s9 _ _ Wa,hp.1.same s9⟩
  have Wb:=P1.trans (s8.trans s9)
  refine ye ⟨TU,TM.1,TM.2.1,TM.2.2⟩ fun HA sA=>?_
  rw [Ma]
  walk_at "w"
  refine cz (n:=6) (Iv _) fun HC sC=>?_
  walk_at "w"
  refine cY rfl ?_
  walk_at "w"
  have Wc:=Wb.trans (sA.trans sC)
  refine cz (n:=6) (ki (n:=0) (TU.same (sA.trans sC)) (QP.same Wc) J8.1 J8.2) fun HD sD=>?_
  walk_at "w"
  refine cY rfl ?_
  have P2:=s7.trans ((s8.trans s9).trans ((sA.trans sC).trans sD))
  obtain ⟨b0,us,Yx,rfl,We⟩:∃ (b0:Addr) (us SD:List V),Yt=.ref b0::SD/\H6 b0=some (.lst us):=by
   obtain ⟨q1,q2,q3,q4,q5⟩:=M5.2.2.2.head (by rw [ZI];exact hx.1.1)
   exact⟨q1,q2,q3,q4,q5⟩
  obtain ⟨Zb,eb,Yy⟩:=Sm _ (.head _)
  cases eb
  have f1:=P2.at M5.1
  have f2:=P2 _ _ M5.2.2.1
  have f3:=P2 _ _ We
  have Wf:=s6.trans P2
  clear TU hp Wa V8 IM TR Yu V9 Yv Yw M5
  walk_at "w"
  refine nq (bj.of f2) (cU (j:=0) rfl) ?_
  walk_at "w"
  refine Ig f3 ?_
  have sE:ah H5 (upd HD b0 (.lst [])):=Wf.eI Yy
  generalize upd HD b0 (.lst [])=HE at sE ⊢
  have Wg:=QP.same sE
  have TV:=sE _ _ TN
  have Yz:=Yr.imp (gh.same sE)
  clear f1 f2 f3 We P2 Wf Wc Wb P1
  walk_at "w"
  rename_i pG HG sG mG
  refine pN (mt:=(M,bb)) (lo:=false) ⟨aL.of mG,sG _ _ TV,Yz.imp (gh.same sG),hx⟩ fun HI sI=>?_
  rw [Pr,show (if false=true then bq (M,bb) else (M,bb))=(M,bb) from rfl]
  walk_at "w"
  refine gZ hx fun t2 S5 l2 HJ Zc sJ QE Zd YA=>?_
  walk_at "w"
  have Wh:=(sG.trans sI).trans sJ
  refine cz (n:=6) (ki (n:=0) YA (Wg.same Wh) J8.1 J8.2) fun HK sK=>?_
  walk_at "w"
  refine gF rfl ?_
  walk_at "w"
  refine gZ Dc fun t3 SM l3 HL Ze sL QF Q5 Wi=>?_
  rw [M4.1,M4.2] at Wi
  walk_at "w"
  exact cz (n:=6) (ki (n:=0) Wi (Wg.same ((Wh.trans sK).trans sL)) J8.1 J8.2) fun HM sM=>k HM
end
set_option maxHeartbeats 2000000
theorem all_mk {l:OpenLaw} {w:World} {K:Frag} {h:Heap} {mg:Str->Option Value} {fa:Addr} (X:K.In h) (G0:h.Ns mainGlobals mg) (YB:mg "law"=some (.ref fa)) {TX:Addr} {TY P4:Option Addr} {TZ:Array (Option Value)} {T5 P6 P7 P8 Mp P9:Value} {FI:Addr} {Mq:Option Addr} {Mr:Nat} {Ms:Array (Option Value)} {Mt Mu Mv Mw Mx:Tok} {qi:Addr} {CN:Option Addr} {CO:Nat} {CP:Array (Option Value)} {CQ CS CT CU CV:Tok} {i5:Addr} {Ao:Nat} {nB nC nD nE nF nG nH:Tok} {fb:Addr} {vP:Nat} {rl rn ro rp rq:Tok} {vQ:Option Addr} {vR:Array (Option Value)} {fe:Addr} {vS:Nat} {rz rB rC rD rE:Tok} {vT:Option Addr} {vU:Array (Option Value)} {ff:Addr} {vV:Nat} {rF rG rH rJ rK:Tok} {vW:Option Addr} {vX:Array (Option Value)} {fg:Addr} {vY:Nat} {rL rM rN rO rP:Tok} {vZ:Option Addr} {v5:Array (Option Value)} {fh:Addr} {v7:Nat} {rQ rR rS rT rV:Tok} {v9:Option Addr} {wa:Array (Option Value)} {fi:Addr} {wb:Nat} {rW rX rY rZ r6:Tok} {wc:Option Addr} {wd:Array (Option Value)} {fj:Addr} {we:Nat} {r8 r9 sf si sj:Tok} {wj:Option Addr} {wk:Array (Option Value)} {wm:Addr} {FJ:Nat} {FK:Option Addr} {FL:Array (Option Value)} {lR:Addr} {Ap:Nat} {yx yy:Tok} {Aq:Option Addr} {Ar:Array (Option Value)} {hV:Addr} {wo:Nat} {sr sv sy sF sO:Tok} {wt:Option Addr} {wu:Array (Option Value)} {lU:Addr} {As:Nat} {yA yB:Tok} {Au:Option Addr} {Av:Array (Option Value)} {h8:Addr} {wx:Nat} {sP sQ sR sS sV:Tok} {wy:Option Addr} {wA:Array (Option Value)} {lV:Addr} {Aw:Nat} {yC yD:Tok} {Ax:Option Addr} {Ay:Array (Option Value)} {ia:Addr} {wB:Nat} {sW sY sZ td tf:Tok} {wC:Option Addr} {wD:Array (Option Value)} {lX:Addr} {Az:Nat} {yE yF:Tok} {AA:Option Addr} {AB:Array (Option Value)} {ib:Addr} {wF:Nat} {tj tm tp tq tv:Tok} {wG:Option Addr} {wH:Array (Option Value)} {iX:Tok} {cB:Tok} {ve:Tok} {eW:Tok} {gi:Tok} {c7:Tok} {eX:Tok} {dO:Tok} {cG:Addr} {CY:ClassData} {cH:Addr} {CZ:ClassData} {bV:Addr} {yG:ClassData}
 (a0:dX K "is_counting" fq)
 (a1:dX K "is_signed" gI)
 (a2:dX K "parts_read" fV)
 (a3:dX K "divisor_of" fW)
 (a4:dX K "lowest" pj)
 (a5:dX K "length_read" ft)
 (a6:dX K "length_text" fu)
 (a7:dX K "summed" pk)
 (a8:dX K "is_whole" jw)
 (a9:dX K "is_row" pC)
 (T6:dX K "is_tone" ll)
 (T7:dX K "tone_of" lq)
 (T8:dX K "times" uY)
 (T9:dX K "over" zL)
 (Ua:dX K "power" uZ)
 (Ub:dX K "run_length" fX)
 (Uc:dX K "count_read" fY)
 (Ud:dX K "count_text" fZ)
 (Ue:dX K "octave_read" fv)
 (Ug:dX K "named" u5)
 (Uh:dX K "name_of" lr)
 (Ui:dX K "sounding_read" dF)
 (Uj:dX K "note_read" gJ)
 (Uk:dX K "bar_read" jx)
 (Ul:dX K "meter_read" f6)
 (Um:dX K "tune_read" gK)
 (Uo:dX K "note_text" gL)
 (Up:dX K "bar_text" jy)
 (Uq:dX K "tune_text" gM)
 (Ur:dX K "_law_cell_at" fw)
 (Us:dX K "_law_lowest" f7)
 (Ut:dX K "_law_mixed" gN)
 (Uu:dX K "_law_alike" gO)
 (Uv:dX K "_law_name_row" d9)
 (Uw:dX K "_law_pieces" f9)
 (Ux:dX K "_law_bar" lu)
 (Uy:dX K "_law_counts" gb)
 (Uz:dX K "_law_digit_tone" dn)
 (UA:dX K "_law_name_of" fx)
 (UB:dX K "_law_digit_counts" cN)
 (UC:dX K "_law_digit_bar" dG)
 (UD:dX K "_law_digit_tune" dq)
 (UE:dX K "_law_drawn_tune" dr)
 (UG:dX K "_law_length" gc)
 (UH:dX K "_law_text" jz)
 (UI:nsIn K mainGlobals "law"=some (some (.ref TX))) (UJ:K.lookup TX=some ⟨T5,TY,.func (fnOf "law" "law" (eH kh) (cK kh) (ao kh) .none P6 P7 P8 P4 Mp P9),TZ⟩) (UK:codeIn K Mp "law"=true) (UL:keepIn K (.ref TX)=true)
     (FN:nsIn K mainGlobals "ONE"=some (some (.ref FI))) (FO:K.lookup FI=some ⟨.type "tuple",Mq,.seq #[.int 0 Mt,.int 0 Mu,.int 0 Mv,.int 0 Mw,.int 0 Mx] Mr,Ms⟩) (qj:nsIn K mainGlobals "BOUNDS"=some (some (.ref qi))) (qk:K.lookup qi=some ⟨.type "tuple",CN,.seq #[.int 700 CQ,.int 60 CS,.int 60 CT,.int 60 CU,.int 60 CV] CO,CP⟩) (lZ:nsIn K mainGlobals "LETTERS"=some (some (.ref i5))) (wI:nsIn K mainGlobals "MARKS"=some (some (.ref wm))) (l6:K.lookup i5=some ⟨.type "dict",none,.dict #[⟨PySem.PyData.keyHash w.params "F",.str "F" nB,.ref fb⟩,⟨PySem.PyData.keyHash w.params "C",.str "C" nC,.ref fe⟩,⟨PySem.PyData.keyHash w.params "G",.str "G" nD,.ref ff⟩,⟨PySem.PyData.keyHash w.params "D",.str "D" nE,.ref fg⟩,⟨PySem.PyData.keyHash w.params "A",.str "A" nF,.ref fh⟩,⟨PySem.PyData.keyHash w.params "E",.str "E" nG,.ref fi⟩,⟨PySem.PyData.keyHash w.params "B",.str "B" nH,.ref fj⟩] Ao,#[]⟩) (fI:(i5 == PySem.sysModules)=false) (ic:K.lookup fb=some ⟨.type "tuple",vQ,.seq #[.int (2) rl,.int (-1) rn,.int (0) ro,.int (0) rp,.int (0) rq] vP,vR⟩) (ie:K.lookup fe=some ⟨.type "tuple",vT,.seq #[.int (0) rz,.int (0) rB,.int (0) rC,.int (0) rD,.int (0) rE] vS,vU⟩) (ig:K.lookup ff=some ⟨.type "tuple",vW,.seq #[.int (-1) rF,.int (1) rG,.int (0) rH,.int (0) rJ,.int (0) rK] vV,vX⟩) (ij:K.lookup fg=some ⟨.type "tuple",vZ,.seq #[.int (-3) rL,.int (2) rM,.int (0) rN,.int (0) rO,.int (0) rP] vY,v5⟩) (ik:K.lookup fh=some ⟨.type "tuple",v9,.seq #[.int (-4) rQ,.int (3) rR,.int (0) rS,.int (0) rT,.int (0) rV] v7,wa⟩) (il:K.lookup fi=some ⟨.type "tuple",wc,.seq #[.int (-6) rW,.int (4) rX,.int (0) rY,.int (0) rZ,.int (0) r6] wb,wd⟩) (ip:K.lookup fj=some ⟨.type "tuple",wj,.seq #[.int (-7) r8,.int (5) r9,.int (0) sf,.int (0) si,.int (0) sj] we,wk⟩) (wJ:K.lookup wm=some ⟨.type "tuple",FK,.seq #[.ref lR,.ref lU,.ref lV,.ref lX] FJ,FL⟩) (l7:K.lookup lR=some ⟨.type "tuple",Aq,.seq #[.str "#" yx,.str "b" yy,.ref hV] Ap,Ar⟩) (iq:K.lookup hV=some ⟨.type "tuple",wt,.seq #[.int (-11) sr,.int (7) sv,.int (0) sy,.int (0) sF,.int (0) sO] wo,wu⟩) (md:K.lookup lU=some ⟨.type "tuple",Au,.seq #[.str "+" yA,.str "-" yB,.ref h8] As,Av⟩) (ir:K.lookup h8=some ⟨.type "tuple",wy,.seq #[.int (-4) sP,.int (4) sQ,.int (-1) sR,.int (0) sS,.int (0) sV] wx,wA⟩) (me:K.lookup lV=some ⟨.type "tuple",Ax,.seq #[.str ">" yC,.str "<" yD,.ref ia] Aw,Ay⟩) (iu:K.lookup ia=some ⟨.type "tuple",wC,.seq #[.int (6) sW,.int (-2) sY,.int (0) sZ,.int (-1) td,.int (0) tf] wB,wD⟩) (mf:K.lookup lX=some ⟨.type "tuple",AA,.seq #[.str "^" yE,.str "v" yF,.ref ib] Az,AB⟩) (iv:K.lookup ib=some ⟨.type "tuple",wG,.seq #[.int (-5) tj,.int (1) tm,.int (0) tp,.int (0) tq,.int (1) tv] wF,wH⟩) (mh:nsIn K mainGlobals "LONGEST"=some (some (.int 300 iX))) (dv:nsIn K mainGlobals "OCTAVE_FIGURES"=some (some (.int 4 cB))) (AD:nsIn K mainGlobals "REST"=some (some (.str "R" ve))) (iw:nsIn K mainGlobals "METER_END"=some (some (.str ": " eW))) (jG:nsIn K mainGlobals "BAR_LINE"=some (some (.str " | " gi))) (eD:nsIn K mainGlobals "MOST_FIGURES"=some (some (.int 4 c7))) (iy:nsIn K mainGlobals "MOST_BARS"=some (some (.int 40 eX))) (gq:nsIn K mainGlobals "MOST_NOTES"=some (some (.int 24 dO))) (gS:nsIn K mainGlobals "TooFar"=some (some (.ref cG))) (mi:typeIn K (.ref cG)=some (.type "type")) (i6:clsIn K cG=some CY) (i7:subIn K (.ref cG) (.type "BaseException")=some true) (mj:findIn K (.ref cG) "__getattribute__"=some (some (.builtin "BaseException.__getattribute__"))) (ml:findIn K (.ref cG) "__getattr__"=some none) (mr:findIn K (.ref cG) "__class__"=some (some (.builtin "object.__class__"))) (my:specialIn K (.builtin "object.__class__") "__get__"=some (some (.builtin "getset_descriptor.__get__"))) (mC:takesIn K (.builtin "object.__class__")=some true) (mD:mroIn K cG (.type "object")=some true) (mE:excIn K cG [.type "ValueError",.type "Exception",.type "BaseException",.type "object"] "ValueError.__new__"=true) (gU:nsIn K mainGlobals "NoName"=some (some (.ref cH))) (mF:typeIn K (.ref cH)=some (.type "type")) (i8:clsIn K cH=some CZ) (i9:subIn K (.ref cH) (.type "BaseException")=some true) (mH:findIn K (.ref cH) "__getattribute__"=some (some (.builtin "BaseException.__getattribute__"))) (mI:findIn K (.ref cH) "__getattr__"=some none) (mJ:findIn K (.ref cH) "__class__"=some (some (.builtin "object.__class__"))) (mK:specialIn K (.builtin "object.__class__") "__get__"=some (some (.builtin "getset_descriptor.__get__"))) (mM:takesIn K (.builtin "object.__class__")=some true) (mO:mroIn K cH (.type "object")=some true) (mP:excIn K cH [.type "ValueError",.type "Exception",.type "BaseException",.type "object"] "ValueError.__new__"=true) (er:nsIn K mainGlobals "NoLength"=some (some (.ref bV))) (iz:typeIn K (.ref bV)=some (.type "type")) (fk:clsIn K bV=some yG) (fm:subIn K (.ref bV) (.type "BaseException")=some true) (iA:findIn K (.ref bV) "__getattribute__"=some (some (.builtin "BaseException.__getattribute__"))) (iB:findIn K (.ref bV) "__getattr__"=some none) (iC:findIn K (.ref bV) "__class__"=some (some (.builtin "object.__class__"))) (iD:specialIn K (.builtin "object.__class__") "__get__"=some (some (.builtin "getset_descriptor.__get__"))) (iE:takesIn K (.builtin "object.__class__")=some true) (iF:mroIn K bV (.type "object")=some true) (iG:excIn K bV [.type "ValueError",.type "Exception",.type "BaseException",.type "object"] "ValueError.__new__"=true) (FP:nsIn K mainGlobals "abs"=some none) (FQ:nsIn K mainGlobals "all"=some none) (AE:nsIn K mainGlobals "bool"=some none) (iH:nsIn K mainGlobals "enumerate"=some none) (FR:nsIn K mainGlobals "int"=some none) (gs:nsIn K mainGlobals "isinstance"=some none) (FT:nsIn K mainGlobals "len"=some none) (AF:nsIn K mainGlobals "list"=some none) (FU:nsIn K mainGlobals "max"=some none) (FV:nsIn K mainGlobals "min"=some none) (wK:nsIn K mainGlobals "range"=some none) (FW:nsIn K mainGlobals "str"=some none) (wL:nsIn K mainGlobals "tuple"=some none) (FX:nsIn K mainGlobals "zip"=some none) :
    ∃ fd:FuncData,(∀ (s:Shared) (v:Value),BindsTo s fd ⟨[v],[]⟩ [("_law_script",v)])/\∀ base:Heap,K.In base->base.Ns mainGlobals mg->oB l.prog w K mg base Jm 10 fa fd ["_law_script"] (DZ K):=by
  have e:=YB.symm.trans (mg_of X G0 UI)
  cases e
  have T:Txt l.prog w K mg ⟨FI,qi,cG,cH,bV,i5,fb,fe,ff,fg,fh,fi,fj,wm,lR,hV,lU,h8,lV,ia,lX,ib,iX,cB,ve,eW,gi,c7,eX,dO⟩:=⟨mg_none_of X G0 FP,mg_none_of X G0 FQ,mg_none_of X G0 AE,mg_none_of X G0 iH,mg_none_of X G0 FR,mg_none_of X G0 gs,mg_none_of X G0 FT,mg_none_of X G0 AF,mg_none_of X G0 FU,mg_none_of X G0 FV,mg_none_of X G0 wK,mg_none_of X G0 FW,mg_none_of X G0 wL,mg_none_of X G0 FX,mg_of X G0 FN,fun H=>.inr ⟨_,_,_,FO,rfl,rfl,by show 5 <= sizeLine;decide,(.cons ⟨_,rfl⟩ (.cons ⟨_,rfl⟩ (.cons ⟨_,rfl⟩ (.cons ⟨_,rfl⟩ (.cons ⟨_,rfl⟩ .nil)))))⟩,mg_of X G0 qj,fun H=>.inr ⟨_,_,_,qk,rfl,rfl,by show 5 <= sizeLine;decide,(.cons ⟨_,rfl⟩ (.cons ⟨_,rfl⟩ (.cons ⟨_,rfl⟩ (.cons ⟨_,rfl⟩ (.cons ⟨_,rfl⟩ .nil)))))⟩,mg_of X G0 lZ,mg_of X G0 wI,LY (xs:=[("F",nB,fb),("C",nC,fe),("G",nD,ff),("D",nE,fg),("A",nF,fh),("E",nG,fi),("B",nH,fj)]) l6 fI (show jJ ["F","C","G","D","A","E","B"] by decide +kernel),fun H=>.inr ⟨_,_,_,ic,rfl,rfl,by show 5 <= sizeLine;decide,(.cons ⟨_,rfl⟩ (.cons ⟨_,rfl⟩ (.cons ⟨_,rfl⟩ (.cons ⟨_,rfl⟩ (.cons ⟨_,rfl⟩ .nil)))))⟩,fun H=>.inr ⟨_,_,_,ie,rfl,rfl,by show 5 <= sizeLine;decide,(.cons ⟨_,rfl⟩ (.cons ⟨_,rfl⟩ (.cons ⟨_,rfl⟩ (.cons ⟨_,rfl⟩ (.cons ⟨_,rfl⟩ .nil)))))⟩,fun H=>.inr ⟨_,_,_,ig,rfl,rfl,by show 5 <= sizeLine;decide,(.cons ⟨_,rfl⟩ (.cons ⟨_,rfl⟩ (.cons ⟨_,rfl⟩ (.cons ⟨_,rfl⟩ (.cons ⟨_,rfl⟩ .nil)))))⟩,fun H=>.inr ⟨_,_,_,ij,rfl,rfl,by show 5 <= sizeLine;decide,(.cons ⟨_,rfl⟩ (.cons ⟨_,rfl⟩ (.cons ⟨_,rfl⟩ (.cons ⟨_,rfl⟩ (.cons ⟨_,rfl⟩ .nil)))))⟩,fun H=>.inr ⟨_,_,_,ik,rfl,rfl,by show 5 <= sizeLine;decide,(.cons ⟨_,rfl⟩ (.cons ⟨_,rfl⟩ (.cons ⟨_,rfl⟩ (.cons ⟨_,rfl⟩ (.cons ⟨_,rfl⟩ .nil)))))⟩,fun H=>.inr ⟨_,_,_,il,rfl,rfl,by show 5 <= sizeLine;decide,(.cons ⟨_,rfl⟩ (.cons ⟨_,rfl⟩ (.cons ⟨_,rfl⟩ (.cons ⟨_,rfl⟩ (.cons ⟨_,rfl⟩ .nil)))))⟩,fun H=>.inr ⟨_,_,_,ip,rfl,rfl,by show 5 <= sizeLine;decide,(.cons ⟨_,rfl⟩ (.cons ⟨_,rfl⟩ (.cons ⟨_,rfl⟩ (.cons ⟨_,rfl⟩ (.cons ⟨_,rfl⟩ .nil)))))⟩,fun H=>.inr ⟨_,_,_,wJ,rfl,rfl,by show 4 <= sizeLine;decide,(.cons rfl (.cons rfl (.cons rfl (.cons rfl .nil))))⟩,fun H=>.inr ⟨_,_,_,l7,rfl,rfl,by show 3 <= sizeLine;decide,(.cons ⟨_,rfl⟩ (.cons ⟨_,rfl⟩ (.cons rfl .nil)))⟩,fun H=>.inr ⟨_,_,_,iq,rfl,rfl,by show 5 <= sizeLine;decide,(.cons ⟨_,rfl⟩ (.cons ⟨_,rfl⟩ (.cons ⟨_,rfl⟩ (.cons ⟨_,rfl⟩ (.cons ⟨_,rfl⟩ .nil)))))⟩,fun H=>.inr ⟨_,_,_,md,rfl,rfl,by show 3 <= sizeLine;decide,(.cons ⟨_,rfl⟩ (.cons ⟨_,rfl⟩ (.cons rfl .nil)))⟩,fun H=>.inr ⟨_,_,_,ir,rfl,rfl,by show 5 <= sizeLine;decide,(.cons ⟨_,rfl⟩ (.cons ⟨_,rfl⟩ (.cons ⟨_,rfl⟩ (.cons ⟨_,rfl⟩ (.cons ⟨_,rfl⟩ .nil)))))⟩,fun H=>.inr ⟨_,_,_,me,rfl,rfl,by show 3 <= sizeLine;decide,(.cons ⟨_,rfl⟩ (.cons ⟨_,rfl⟩ (.cons rfl .nil)))⟩,fun H=>.inr ⟨_,_,_,iu,rfl,rfl,by show 5 <= sizeLine;decide,(.cons ⟨_,rfl⟩ (.cons ⟨_,rfl⟩ (.cons ⟨_,rfl⟩ (.cons ⟨_,rfl⟩ (.cons ⟨_,rfl⟩ .nil)))))⟩,fun H=>.inr ⟨_,_,_,mf,rfl,rfl,by show 3 <= sizeLine;decide,(.cons ⟨_,rfl⟩ (.cons ⟨_,rfl⟩ (.cons rfl .nil)))⟩,fun H=>.inr ⟨_,_,_,iv,rfl,rfl,by show 5 <= sizeLine;decide,(.cons ⟨_,rfl⟩ (.cons ⟨_,rfl⟩ (.cons ⟨_,rfl⟩ (.cons ⟨_,rfl⟩ (.cons ⟨_,rfl⟩ .nil)))))⟩,mg_of X G0 mh,mg_of X G0 dv,mg_of X G0 AD,mg_of X G0 iw,mg_of X G0 jG,mg_of X G0 eD,mg_of X G0 iy,mg_of X G0 gq,mg_of X G0 gS,gS,xU.mk' mi i6 i7,xT.mk' mj ml i6 mr my mC mD i7,mE,mg_of X G0 gU,gU,xU.mk' mF i8 i9,xT.mk' mH mI i8 mJ mK mM mO i9,mP,mg_of X G0 er,er,xU.mk' iz fk fm,xT.mk' iA iB fk iC iD iE iF fm,iG⟩
  have tw:=a0.df (ps:=["text","most"]) X G0 fun _ _ _ _ _ _ us hl=>cM us hl fun _ _=>rfl
  have yH:=a1.df (ps:=["text","most"]) X G0 fun _ _ _ _ _ _ us hl=>cM us hl fun _ _=>rfl
  have wM:=a2.df (ps:=["text","most"]) X G0 fun _ _ _ _ _ _ us hl=>cM us hl fun _ _=>rfl
  have wO:=a3.df (ps:=["numbers"]) X G0 fun _ _ _ _ _ _ us hl=>bc us hl fun _=>rfl
  have FY:=a4.df (ps:=["top","bottom"]) X G0 fun _ _ _ _ _ _ us hl=>cM us hl fun _ _=>rfl
  have tD:=a5.df (ps:=["text"]) X G0 fun _ _ _ _ _ _ us hl=>bc us hl fun _=>rfl
  have tE:=a6.df (ps:=["length"]) X G0 fun _ _ _ _ _ _ us hl=>bc us hl fun _=>rfl
  have FZ:=a7.df (ps:=["lengths"]) X G0 fun _ _ _ _ _ _ us hl=>bc us hl fun _=>rfl
  have AG:=a8.df (ps:=["thing"]) X G0 fun _ _ _ _ _ _ us hl=>bc us hl fun _=>rfl
  have F0:=a9.df (ps:=["thing"]) X G0 fun _ _ _ _ _ _ us hl=>bc us hl fun _=>rfl
  have C0:=T6.df (ps:=["thing"]) X G0 fun _ _ _ _ _ _ us hl=>bc us hl fun _=>rfl
  have C1:=T7.df (ps:=["row"]) X G0 fun _ _ _ _ _ _ us hl=>bc us hl fun _=>rfl
  have IP:=T8.df (ps:=["one","other"]) X G0 fun _ _ _ _ _ _ us hl=>cM us hl fun _ _=>rfl
  have My:=T9.df (ps:=["one","other"]) X G0 fun _ _ _ _ _ _ us hl=>cM us hl fun _ _=>rfl
  have IQ:=Ua.df (ps:=["row","n"]) X G0 fun _ _ _ _ _ _ us hl=>cM us hl fun _ _=>rfl
  have wQ:=Ub.df (ps:=["text","start","sign"]) X G0 fun _ _ _ _ _ _ us hl=>gd us hl fun _ _ _=>rfl
  have wR:=Uc.df (ps:=["text","start","mark"]) X G0 fun _ _ _ _ _ _ us hl=>gd us hl fun _ _ _=>rfl
  have wU:=Ud.df (ps:=["mark","count"]) X G0 fun _ _ _ _ _ _ us hl=>cM us hl fun _ _=>rfl
  have tF:=Ue.df (ps:=["text"]) X G0 fun _ _ _ _ _ _ us hl=>bc us hl fun _=>rfl
  have IS:=Ug.df (ps:=["text"]) X G0 fun _ _ _ _ _ _ us hl=>bc us hl fun _=>rfl
  have C2:=Uh.df (ps:=["tone"]) X G0 fun _ _ _ _ _ _ us hl=>bc us hl fun _=>rfl
  have nV:=Ui.df (ps:=["text"]) X G0 fun _ _ _ _ _ _ us hl=>bc us hl fun _=>rfl
  have yI:=Uj.df (ps:=["word","number","place"]) X G0 fun _ _ _ _ _ _ us hl=>gd us hl fun _ _ _=>rfl
  have AH:=Uk.df (ps:=["text","number","meter"]) X G0 fun _ _ _ _ _ _ us hl=>gd us hl fun _ _ _=>rfl
  have wV:=Ul.df (ps:=["text"]) X G0 fun _ _ _ _ _ _ us hl=>bc us hl fun _=>rfl
  have yJ:=Um.df (ps:=["text"]) X G0 fun _ _ _ _ _ _ us hl=>bc us hl fun _=>rfl
  have yK:=Uo.df (ps:=["note"]) X G0 fun _ _ _ _ _ _ us hl=>bc us hl fun _=>rfl
  have AI:=Up.df (ps:=["bar"]) X G0 fun _ _ _ _ _ _ us hl=>bc us hl fun _=>rfl
  have yL:=Uq.df (ps:=["tune"]) X G0 fun _ _ _ _ _ _ us hl=>bc us hl fun _=>rfl
  have tG:=Ur.df (ps:=["_law_script","_law_k"]) X G0 fun _ _ _ _ _ _ us hl=>cM us hl fun _ _=>rfl
  have wW:=Us.df (ps:=["_law_top","_law_bottom"]) X G0 fun _ _ _ _ _ _ us hl=>cM us hl fun _ _=>rfl
  have yM:=Ut.df (ps:=["_law_cell","_law_k"]) X G0 fun _ _ _ _ _ _ us hl=>cM us hl fun _ _=>rfl
  have yN:=Uu.df (ps:=["_law_found","_law_due"]) X G0 fun _ _ _ _ _ _ us hl=>cM us hl fun _ _=>rfl
  have ql:=Uv.df (ps:=["_law_mixed_here"]) X G0 fun _ _ _ _ _ _ us hl=>bc us hl fun _=>rfl
  have wX:=Uw.df (ps:=["_law_cell","_law_count","_law_total"]) X G0 fun _ _ _ _ _ _ us hl=>gd us hl fun _ _ _=>rfl
  have C3:=Ux.df (ps:=["_law_cell","_law_count","_law_total","_law_by","_law_bottom"]) X G0 fun _ _ _ _ _ _ us hl=>Im us hl fun _ _ _ _ _=>rfl
  have wY:=Uy.df (ps:=["_law_script"]) X G0 fun _ _ _ _ _ _ us hl=>bc us hl fun _=>rfl
  have mQ:=Uz.df (ps:=["_law_cell"]) X G0 fun _ _ _ _ _ _ us hl=>bc us hl fun _=>rfl
  have tH:=UA.df (ps:=["_law_tone"]) X G0 fun _ _ _ _ _ _ us hl=>bc us hl fun _=>rfl
  have jH:=UB.df (ps:=["_law_script"]) X G0 fun _ _ _ _ _ _ us hl=>bc us hl fun _=>rfl
  have nW:=UC.df (ps:=["_law_cells","_law_count","_law_total","_law_bottom"]) X G0 fun _ _ _ _ _ _ us hl=>Il us hl fun _ _ _ _=>rfl
  have mR:=UD.df (ps:=["_law_script"]) X G0 fun _ _ _ _ _ _ us hl=>bc us hl fun _=>rfl
  have mS:=UE.df (ps:=["_law_script"]) X G0 fun _ _ _ _ _ _ us hl=>bc us hl fun _=>rfl
  have wZ:=UG.df (ps:=["_law_top","_law_bottom","_law_low"]) X G0 fun _ _ _ _ _ _ us hl=>gd us hl fun _ _ _=>rfl
  have AJ:=UH.df (ps:=["_law_meter","_law_bars","_law_low"]) X G0 fun _ _ _ _ _ _ us hl=>gd us hl fun _ _ _=>rfl
  have YC:=DQ (st:=kh) UJ UK UL
  refine⟨fnOf "law" "law" (eH kh) (cK kh) (ao kh) .none P6 P7 P8 P4 Mp P9,fun s v=>.of_eq rfl,fun base _ _=>?_⟩
  have ji:=pP (base:=base) tw T
  have w4:=qJ (base:=base) wO T
  have jj:=pV (base:=base) tE T
  have AK:=yh (base:=base) AG T
  have IT:=Fu (base:=base) IP T
  have Mz:=IF (base:=base) My T
  have BB:=Fw (base:=base) IQ T
  have w6:=qL (base:=base) wQ T
  have w8:=qQ (base:=base) wU T
  have cI:=qb (base:=base) tG T
  have dS:=qX (base:=base) wW T
  have iI:=vL (base:=base) yM T
  have qo:=nU (base:=base) ql T
  have mU:=kC (base:=base) mQ T
  have tI:=qd (base:=base) tH T
  have yO:=vx (base:=base) yH T ⟨ji⟩
  have w9:=qH (base:=base) wM T ⟨ji⟩
  have yP:=CB (base:=base) FY T ⟨w4⟩
  have F1:=CI (base:=base) F0 T ⟨AK⟩
  have xa:=qO (base:=base) wR T ⟨w6⟩
  have C4:=Ah (base:=base) C2 T ⟨Mz,BB,w8⟩
  have xb:=q0 (base:=base) wX T ⟨iI⟩
  have xc:=rg (base:=base) wY T ⟨cI,iI⟩
  have jI:=jd (base:=base) jH T ⟨cI⟩
  have nX:=lO (base:=base) nW T ⟨dS,mU,tI⟩
  have xf:=rk (base:=base) wZ T ⟨dS⟩
  have jk:=pS (base:=base) tD T ⟨w9,yP⟩
  have F2:=CF (base:=base) FZ T ⟨yP⟩
  have C5:=z9 (base:=base) C0 T ⟨F1⟩
  have tJ:=pZ (base:=base) tF T ⟨yO⟩
  have yQ:=vG (base:=base) yK T ⟨jj,C4⟩
  have C6:=Am (base:=base) C3 T ⟨dS,iI,qo,xb⟩
  have mV:=kF (base:=base) mR T ⟨cI,jI,nX⟩
  have AL:=yv (base:=base) AJ T ⟨xf⟩
  have C7:=Ac (base:=base) C1 T ⟨C5⟩
  have xg:=qV (base:=base) wV T ⟨jk⟩
  have AM:=yp (base:=base) AI T ⟨yQ⟩
  have mW:=kI (base:=base) mS T ⟨cI,C6,xc⟩
  have IU:=Fz (base:=base) IS T ⟨C7,IT,BB,xa,tJ⟩
  have yR:=vJ (base:=base) yL T ⟨jj,AM⟩
  have nY:=lK (base:=base) nV T ⟨IU⟩
  have yS:=vA (base:=base) yI T ⟨jk,nY⟩
  have yT:=vN (base:=base) yN T 6
  have AN:=ym (base:=base) AH T ⟨F2,yS⟩
  have yU:=vD (base:=base) yJ T ⟨AN,xg⟩
  exact Mo YC T ⟨yU,yR,cI,dS,yT,mV,mW,AL⟩
end Law
open PySem PySem.W PyProof.Rows
set_option maxRecDepth 100000 in
theorem PySem.Challenge.cw_tuningyard_k63_whole_tunes_both_ways_holds : PySem.Challenge.rw_tuningyard_k63_whole_tunes_both_ways.Holds := by
 w_on;o_law;k_head;(case hw=>w_witness2)
 k_fill
 refine L2.DP (l:=PySem.Challenge.rw_tuningyard_k63_whole_tunes_both_ways) (n:=63) (k:=10) (x:="_law_script") (CX:=L2.Jm) (sp:=L2.DZ) rfl (by decide) rfl ⟨rfl,by decide,by decide⟩ (fun w h Y=>kIn_of Y) ?F (fun _ _ a ns hl _ hS=>⟨a,ns,rfl,hS,hl,fun _=>rfl⟩) fun _ _ _ _ z=>z
 case F =>
  intro w mg fa h KX G NP
  refine' Law.all_mk KX G NP ?a0 ?a1 ?a2 ?a3 ?a4 ?a5 ?a6 ?a7 ?a8 ?a9 ?T6 ?T7 ?T8 ?T9 ?Ua ?Ub ?Uc ?Ud ?Ue ?Ug ?Uh ?Ui ?Uj ?Uk ?Ul ?Um ?Uo ?Up ?Uq ?Ur ?Us ?Ut ?Uu ?Uv ?Uw ?Ux ?Uy ?Uz ?UA ?UB ?UC ?UD ?UE ?UG ?UH ?UI ?UJ ?UK ?UL ?FN ?FO ?qj ?qk ?lZ ?wI ?l6 ?fI ?ic ?ie ?ig ?ij ?ik ?il ?ip ?wJ ?l7 ?iq ?md ?ir ?me ?iu ?mf ?iv ?mh ?dv ?AD ?iw ?jG ?eD ?iy ?gq ?gS ?mi ?i6 ?i7 ?mj ?ml ?mr ?my ?mC ?mD ?mE ?gU ?mF ?i8 ?i9 ?mH ?mI ?mJ ?mK ?mM ?mO ?mP ?er ?iz ?fk ?fm ?iA ?iB ?iC ?iD ?iE ?iF ?iG ?FP ?FQ ?AE ?iH ?FR ?gs ?FT ?AF ?FU ?FV ?wK ?FW ?wL ?FX
  case a0|a1|a2|a3|a4|a5|a6|a7|a8|a9|T6|T7|T8|T9|Ua|Ub|Uc|Ud|Ue|Ug|Uh|Ui|Uj|Uk|Ul|Um|Uo|Up|Uq|Ur|Us|Ut|Uu|Uv|Uw|Ux|Uy|Uz|UA|UB|UC|UD|UE|UG|UH=>refine' L2.L0 ?a ?l ?c ?k;case a|l|c|k=>k_is
  case UI|UJ|UK|UL|FN|FO|qj|qk|lZ|wI|l6=>k_is
  case fI=>decide
  case ic|ie|ig|ij|ik|il|ip|wJ|l7|iq|md|ir|me|iu|mf|iv|mh|dv|AD|iw|jG|eD|iy|gq|gS|mi|i6|i7|mj|ml|mr|my|mC|mD=>k_is
  case mE=>k_exc
  case gU|mF|i8|i9|mH|mI|mJ|mK|mM|mO=>k_is
  case mP=>k_exc
  case er|iz|fk|fm|iA|iB|iC|iD|iE|iF=>k_is
  case iG=>k_exc
  case FP|FQ|AE|iH|FR|gs|FT|AF|FU|FV|wK|FW|wL|FX=>k_is
