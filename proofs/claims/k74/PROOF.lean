import PyProof.Rows.All
import Wide.All
import OpenK.AllK
import Wide.FinOn
import Lean
import PyProof.EqAt
import PyProof.EqKinds
import PyProof.TupleCall
import PyProof.CompMap
import PyProof.ZipIter
import PyProof.TupleIter
import PyProof.ExcAttrAll.ValueError
import KE.KSortKey
import KE.KRevIter
import KE.KLam
import KE.KNestM
import PyProof.Rows.Range3
import PyProof.EnumMake
import PyProof.JoinWalk
import PyProof.Rows.StrSplitJoin
import PyProof.Rows.StrWeight2
import PyProof.StrOps2
import KE.KSortTup
import KE.KMinKey
import PyProof.FactsAll.range_2
import PyProof.ListRange
import PyProof.Rows.StrCountLaw
import PyProof.Rows.SetFrom
import PyProof.Rows.FactsT2
import PyProof.StrLawsTight
import PyProof.StrLawsChain
import PyProof.Rows.StrItems
import KE.KIntText
import PyProof.StrLawsFirst
import PyProof.StrBlockL
import PyProof.Rows.StrNews2
import PyProof.StrWalks
import PySem.Challenge.RW_tuningyard_k74_no_stack
set_option Elab.async false
set_option linter.all false
set_option maxRecDepth 100000
noncomputable section
open PySem.W (CodeHd Frag OpenLaw clsIn excIn findIn instObj kIn_of kitx_dict kitx_list kitx_tuple lookIn methodObj mg_none_of mg_of mroIn nsIn plainGet specialIn subIn tabIn takesIn typeIn)
open PyProof.Rows (boot_abs boot_all boot_bool boot_int boot_isinstance boot_list boot_max boot_str boot_tuple callWith_type1 cnt_cons)
open List (all_cons all_eq_true all_map append_assoc append_nil drop_drop drop_one ext_getElem flatten_cons forIn_cons forIn_nil getD_eq_getElem?_getD getElem?_drop getElem?_eq_getElem getElem?_map getElem_mem length_append length_cons length_drop length_map length_take lookup_cons map_append map_cons map_map map_nil mem_append mem_append_left mem_append_right mem_cons mem_cons_of_mem mem_cons_self mem_of_getElem? mem_range mem_singleton nodup_cons not_mem_nil of_mem_zip pairwise_cons range_succ replicate_succ size_toArray)
open Nat (le_of_ble_eq_true lt_of_le_of_lt lt_or_ge lt_succ_self max_le mod_lt ne_of_lt not_lt_zero sub_self sub_zero zero_le)
open Int (emod_lt_of_pos emod_nonneg eq_ofNat_of_zero_le mul_assoc mul_emod mul_emod_right mul_one mul_pos natCast_mul one_mul pow_succ pow_zero toNat_natCast)
section
open PySem PySem.Spec PyProof.Rows
abbrev RE:=@Heap.get?_push_of_some
abbrev RF:=@wpAny_bind
abbrev RG:=@List.length_singleton
abbrev RH:=@List.getElem?_eq_some_iff
abbrev RI:=@Heap.lt_size
abbrev RJ:=@Heap.get?_push_size
abbrev RK:=@Nat.pow_le_pow_right
abbrev RL:=@Nat.le_trans
abbrev RM:=@Nat.le_refl
abbrev RN:=@Nat.le_of_lt
abbrev RO:=@List.getElem?_append_left
abbrev RP:=@List.getElem?_append_right
abbrev RQ:=@List.map_congr_left
abbrev RR:=@List.take_of_length_le
abbrev RS:=@Option.some.inj
abbrev RT:=@of_decide_eq_true
abbrev RU:=@of_decide_eq_false
abbrev RV:=@decide_eq_false
abbrev RW:=@decide_eq_true
abbrev RX:=@Option.isSome_iff_exists
abbrev RY:=@wpAny_pure
abbrev RZ:=@wpAny_mono
abbrev R0:=@Int.fdiv_eq_ediv_of_nonneg
abbrev R3:=@getElem?_eq_getElem
abbrev R4:=@mem_append_right
abbrev R5:=@mem_append_left
abbrev R6:=@mem_singleton
abbrev R7:=@mem_append
abbrev R8:=@mem_of_getElem?
abbrev R9:=@length_map
abbrev Sa:=@length_append
abbrev Sb:=@mem_cons_of_mem
abbrev Sd:=@mem_cons
abbrev Se:=@lt_of_le_of_lt
abbrev Sf:=@mem_range
abbrev Sh:=@length_take
abbrev Si:=@size_toArray
abbrev Sj:=@getElem?_map
abbrev Sk:=@map_append
abbrev Sl:=@map_map
abbrev Sm:=@zero_le
abbrev Sn:=@ne_of_lt
abbrev So:=@le_of_ble_eq_true
abbrev Sr:=@pairwise_cons
abbrev Ss:=@getElem_mem
abbrev Su:=@toNat_natCast
abbrev Sv:=@not_lt_zero
end
abbrev Bo (l:List PySem.Str):=List.Nodup l
namespace L2
open PySem PySem.Spec PyProof.Rows
abbrev Key:=Sum Int Str
def CM:Key->Value->Bool
 | .inl k,v=>Value.isInt k v
 | .inr x,v=>Value.isStrOf x v
def Kp(w:World):Key->Int
 | .inl k=>hashInt k
 | .inr x=>hashStr w x
theorem bJ:∀ {k:Key} {v:Value},CM k v=true->(∃ i t,k=Sum.inl i/\v=Value.int i t)\/(∃ x t,k=Sum.inr x/\v=Value.str x t)
 | .inl i,v,h=>by
  obtain ⟨t,e⟩:=Value.isInt_shape (k:=i) (v:=v) h
  exact .inl ⟨i,t,rfl,e⟩
 | .inr x,v,h=>by
  obtain ⟨t,e⟩:=Value.isStrOf_shape (x:=x) (v:=v) h
  exact .inr ⟨x,t,rfl,e⟩
theorem DL(a b:Int):decide ((Sum.inl a:Key)=Sum.inl b)=(a == b):=by
 by_cases e:a=b
 ·subst e;simp
 ·have h:¬ (Sum.inl a:Key)=Sum.inl b:=fun q=>e (Sum.inl.inj q)
  rw [RV h]
  exact (beq_eq_false_iff_ne.mpr e).symm
theorem DM(a b:Str):decide ((Sum.inr a:Key)=Sum.inr b)=decide (a=b):=by
 by_cases e:a=b
 ·subst e;simp
 ·have h:¬ (Sum.inr a:Key)=Sum.inr b:=fun q=>e (Sum.inr.inj q)
  rw [RV h,RV e]
theorem DN(a:Int)(b:Str):decide ((Sum.inl a:Key)=Sum.inr b)=false:=RV (fun q=>nomatch q)
theorem DO(a:Str)(b:Int):decide ((Sum.inr a:Key)=Sum.inl b)=false:=RV (fun q=>nomatch q)
def vN(prog:Program)(w:World):PySem.KeyKind prog w Key where
 is:=CM
 hash:=Kp w
 inj:=fun v a b ha hb=>by
  rcases bJ ha with ⟨i,t,rfl,rfl⟩|⟨x,t,rfl,rfl⟩
  ·rcases bJ hb with ⟨j,u,rfl,e⟩|⟨y,u,rfl,e⟩
   ·injection e with e1 _;rw [e1]
   ·exact nomatch e
  ·rcases bJ hb with ⟨j,u,rfl,e⟩|⟨y,u,rfl,e⟩
   ·exact nomatch e
   ·injection e with e1 _;rw [e1]
 byValue:=fun k v h=>by
  rcases bJ h with ⟨i,t,rfl,rfl⟩|⟨x,t,rfl,rfl⟩ <;> rfl
 pyHash:=fun hv h=>by
  rcases bJ hv with ⟨i,t,rfl,rfl⟩|⟨x,t,rfl,rfl⟩
  ·exact wpAny_pyHash_int h
  ·exact wpAny_pyHash_str h
 eqBool:=fun hu hv h=>by
  rcases bJ hu with ⟨i,t,rfl,rfl⟩|⟨x,t,rfl,rfl⟩
  ·rcases bJ hv with ⟨j,u,rfl,rfl⟩|⟨y,u,rfl,rfl⟩
   ·rw [DL] at h;exact wpAny_eqBool_int h
   ·rw [DN] at h;exact SeqAt.EqAt.int_str i t y u _ _ _ _ h
  ·rcases bJ hv with ⟨j,u,rfl,rfl⟩|⟨y,u,rfl,rfl⟩
   ·rw [DO] at h;exact SeqAt.EqAt.str_int x t j u _ _ _ _ h
   ·rw [DM] at h;exact wpAny_eqBool_str h
 «strs»:=fun k x t v h=>by
  rcases bJ h with ⟨i,u,rfl,e⟩|⟨y,u,rfl,e⟩
  ·exact nomatch e
  ·injection e with e1 _
   subst e1
   cases v <;> rfl
inductive V where
 | cF|bl (b:Bool)|int (i:Int)|str (x:Str)|yN (b:Array UInt8)|GB (b:UInt64)|ref (a:Addr)|ty (n:String)
 deriving DecidableEq
def RelV:V->Value->Prop
 | .cF,u=>u=Value.none
 | .bl b,u=>u=Value.bool b
 | .int i,u=>∃ t,u=Value.int i t
 | .str x,u=>∃ t,u=Value.str x t
 | .yN b,u=>∃ t,u=Value.bytes b t
 | .GB b,u=>∃ t,u=Value.float b t
 | .ref a,u=>u=Value.ref a
 | .ty n,u=>u=Value.type n
abbrev Vals:List V->List Value->Prop:=Paired RelV
theorem Vals.length{xs:List V}{us:List Value}(r:Vals xs us):xs.length=us.length:=Paired.length r
theorem Vals.get:∀ {xs:List V} {us:List Value} {i:Nat} {x:V},Vals xs us->xs[i]?=some x->∃ u,us[i]?=some u/\RelV x u
 | _,_,_,_,.nil,e=>by simp at e
 | _,_,0,_,.cons r _,e=>by simp at e;subst e;exact⟨_,rfl,r⟩
 | _,_,i+1,x,.cons _ t,e=>by
  obtain ⟨u,h1,h2⟩:=Vals.get (i:=i) (x:=x) t (by simpa using e)
  exact⟨u,by simpa using h1,h2⟩
theorem Vals.append:∀ {xs ys:List V} {us ws:List Value},Vals xs us->Vals ys ws->Vals (xs++ys) (us++ws)
 | _,_,_,_,.nil,s=>s
 | _,_,_,_,.cons r t,s=>.cons r (Vals.append t s)
theorem Vals.take:∀ {xs:List V} {us:List Value} (n:Nat),Vals xs us->Vals (xs.take n) (us.take n)
 | _,_,0,_=>.nil
 | _,_,_+1,.nil=>.nil
 | _,_,n+1,.cons r t=>.cons r (Vals.take n t)
theorem Vals.drop:∀ {xs:List V} {us:List Value} (n:Nat),Vals xs us->Vals (xs.drop n) (us.drop n)
 | _,_,0,r=>r
 | _,_,_+1,.nil=>.nil
 | _,_,n+1,.cons _ t=>Vals.drop n t
def DP:Option V->Option Value->Prop
 | some v,some u=>RelV v u
 | none,none=>True
 | _,_=>False
def KV{κ:Type}:List (κ×V)->List (κ×Value)->Prop:=Paired fun (p:κ×V) (q:κ×Value)=>p.1=q.1/\RelV p.2 q.2
def kV:Key->V
 | .inl i=>.int i
 | .inr x=>.str x
inductive HO where
 /-- a list -/
 | lst (xs:List V)
 /-- a tuple (never changes) -/
 | tup (xs:List V)
 /-- a dict G7 keys are ints and texts;one G7 keys are tuples of ints and texts (GC empty one is both) -/
 | dK (jb:List (Key×V))|dT (jb:List (List Key×V))
 /-- a set of ints: its members,its size -/
 | set (S:Int->Bool) (n:Nat)
 /-- an instance of GC class at C,its dict at dx,its attributes -/
 | ins (C dx:Addr) (fs:List (Str×V))
 /-- GC dict of GC instance at x -/
 | own (x:Addr)
 /-- GC dict of an exception -/
 | xd (fs:List (Str×V))
 /-- a bound method,f of x -/
 | met (f x:Addr)
 /-- a range object lo,lo+1,.. below hi -/
 | JW (lo hi:Int)
 /-- a G8 OC is known to GC object (GC Kq;a dict while a loop walks it): read,never written while it is so -/
 | qV (o:Obj) (u:HO)
 /-- a code G9 table -/
 | Bc (ps:Array Value)
 /-- any other G8,by OD is true of its one object (a def of M8 own: OE a S n:=HO.ext fun h=>..) -/
 | ext (φ:Heap->Prop)
abbrev Hp:=Addr->Option HO
def upd(H:Hp)(a:Addr)(o:HO):Hp:=fun b=>if b=a then some o else H b
theorem aH{H:Hp}{a:Addr}{o:HO}:upd H a o a=some o:=by unfold upd;rw [if_pos rfl]
theorem aE{H:Hp}{a b:Addr}{o:HO}(h:b≠a):upd H a o b=H b:=by unfold upd;rw [if_neg h]
theorem aN{H:Hp}{a b:Addr}{o:HO}(h:H a=some o)(h':H b=none):a≠b:=by
 intro e;subst e;rw [h] at h';cases h'
section
variable (P:Program)(w:World)
def b6(H:Hp)(h:Heap)(a:Addr):HO->Prop
 | .lst xs=>xs.length<=sizeLine/\∃ (its:List Value) (n:Nat),Vals xs its/\h.get? a=some { cls:=.type "list",data:=.seq its.toArray n }
 | .tup xs=>xs.length<=sizeLine/\∃ its:List Value,Vals xs its/\IsTup h a its.toArray
 | .dK jb=>jb.length<=sizeLine/\(a == sysModules)=false/\∃ vs,KV jb vs/\h.DictOf (vN P w) a vs
 | .dT jb=>jb.length<=sizeLine/\(a == sysModules)=false/\∃ xs:List (List Key×Addr×Value),
   Paired (fun (p:List Key×V) (q:List Key×Addr×Value)=>p.1=q.1/\H q.2.1=some (.tup (p.1.map kV))/\RelV p.2 q.2.2) jb xs /\
   ∃ o es ep,h.get? a=some o/\o.ExactDict/\o.data=.dict es ep/\es.toList=xs.map (entryOfKey (tupleKind (vN P w)))/\(xs.map (·.1)).Nodup
 | .set S n=>h.SetOf (intKind P w) a S n
 | .ins C dx fs=>H dx=some (.own a)/\fs.length<=1000/\dx≠a/\h.get? a=some (instObj C dx) /\
   ∃ mA,h.Ns1 dx mA/\(∀ f,DP (fs.lookup f) (mA f))/\PySem.Within mA (fs.map (·.1))
 | .own _=>∃ o,h.get? a=some o
 | .xd fs=>∃ mA,h.Ns1 a mA/\∀ f,DP (fs.lookup f) (mA f)
 | .JW lo hi=>∃ t u v,h.get? a=some { cls:=.type "range",data:=.fields #[.int lo t,.int hi u,.int 1 v] }
 | .qV o u=>h.get? a=some o/\b6 H h a u
 | .Bc ps=>h.get? a=some { cls:=.none,data:=.fields ps }
 | .met f x=>h.get? a=some (methodObj (.ref f) (.ref x))
 | .ext φ=>φ h/\(∃ o,h.get? a=some o)/\∀ h1 h2:Heap,φ h1->(∀ o,h1.get? a=some o->h2.get? a=some o)->φ h2
def dO(H:Hp)(h:Heap):Prop:=∀ a o,H a=some o->b6 P w H h a o
end
section
variable {P:Program}{w:World}{H H':Hp}{h h':Heap}{a:Addr}{o:HO}
theorem b6.lt(x:b6 P w H h a o):a<h.objs.size:=by
 cases o with
 | lst xs=>obtain ⟨_,_,_,_,e⟩:=x;exact RI e
 | tup xs=>obtain ⟨_,_,_,p⟩:=x;exact p.lt
 | dK jb=>obtain ⟨_,_,_,_,o,_,_,e,_⟩:=x;exact RI e
 | dT jb=>obtain ⟨_,_,_,_,o,_,_,e,_⟩:=x;exact RI e
 | set S n=>obtain ⟨o,_,_,_,e,_⟩:=x;exact RI e
 | ins C dx fs=>obtain ⟨_,_,_,e,_⟩:=x;exact RI e
 | own y=>obtain ⟨_,e⟩:=x;exact RI e
 | xd fs=>obtain ⟨_,⟨_,_,_,e,_⟩,_⟩:=x;exact RI e
 | JW lo hi=>obtain ⟨_,_,_,e⟩:=x;exact RI e
 | qV ob u=>obtain ⟨e,_⟩:=x;exact RI e
 | Bc ps=>exact RI (show h.get? a=some _ from x)
 | met f y=>exact RI (show h.get? a=some _ from x)
 | ext φ=>obtain ⟨_,⟨_,e⟩,_⟩:=x;exact RI e
theorem Paired.Ha{α β:Type}{F G:α->β->Prop}:∀ {l₁:List α} {l₂:List β},Paired F l₁ l₂->(∀ a b,F a b->G a b)->Paired G l₁ l₂
 | _,_,.nil,_=>.nil
 | _,_,.cons r t,f=>.cons (f _ _ r) (Paired.Ha t f)
theorem b6.l8(x:b6 P w H h a o)(k:∀ b u,(b=a\/H b=some (.own a))->h.get? b=some u->h'.get? b=some u)
  (ho:∀ b,H b=some (.own a)->H' b=some (.own a)) (ht:∀ b xs,H b=some (.tup xs)->H' b=some (.tup xs)):b6 P w H' h' a o:=by
 induction o with
 | lst xs=>obtain ⟨z,its,n,r,e⟩:=x;exact⟨z,its,n,r,k _ _ (.inl rfl) e⟩
 | tup xs=>obtain ⟨z,its,r,ob,e,c⟩:=x;exact⟨z,its,r,ob,k _ _ (.inl rfl) e,c⟩
 | dK jb=>obtain ⟨z,y,vs,r,ob,es,ep,e,c⟩:=x;exact⟨z,y,vs,r,ob,es,ep,k _ _ (.inl rfl) e,c⟩
 | dT jb =>
  obtain ⟨z,y,xs,r,ob,es,ep,e,c⟩:=x
  exact⟨z,y,xs,Paired.Ha r fun p q z=>⟨z.1,ht _ _ z.2.1,z.2.2⟩,ob,es,ep,k _ _ (.inl rfl) e,c⟩
 | set S n=>obtain ⟨ob,es,ep,t,e,c⟩:=x;exact⟨ob,es,ep,t,k _ _ (.inl rfl) e,c⟩
 | ins C dx fs =>
  obtain ⟨d,z,ne,e,mA,⟨od,es,ep,e2,c⟩,r⟩:=x
  exact⟨ho _ d,z,ne,k _ _ (.inl rfl) e,mA,⟨od,es,ep,k _ _ (.inr d) e2,c⟩,r⟩
 | own y=>obtain ⟨ob,e⟩:=x;exact⟨ob,k _ _ (.inl rfl) e⟩
 | xd fs=>obtain ⟨mA,⟨od,es,ep,e,c⟩,r⟩:=x;exact⟨mA,⟨od,es,ep,k _ _ (.inl rfl) e,c⟩,r⟩
 | JW lo hi=>obtain ⟨t,u,v,e⟩:=x;exact⟨t,u,v,k _ _ (.inl rfl) e⟩
 | qV ob u ih=>obtain ⟨e,q⟩:=x;exact⟨k _ _ (.inl rfl) e,ih q⟩
 | Bc ps =>
  have e:h.get? a=some { cls:=.none,data:=.fields ps }:=x
  show h'.get? a=some { cls:=.none,data:=.fields ps }
  exact k a _ (.inl rfl) e
 | met f y =>
  have e:h.get? a=some (methodObj (.ref f) (.ref y)):=x
  show h'.get? a=some (methodObj (.ref f) (.ref y))
  exact k a _ (.inl rfl) e
 | ext φ=>obtain ⟨p,⟨o,e⟩,st⟩:=x;exact⟨st _ _ p fun o q=>k _ _ (.inl rfl) q,⟨o,k _ _ (.inl rfl) e⟩,st⟩
theorem dO.lt(x:dO P w H h)(e:H a=some o):a<h.objs.size:=(x a o e).lt
theorem dO.fresh(x:dO P w H h)(e:h.objs.size<=a):H a=none:=by
 cases q:H a with
 | none=>rfl
 | some u=>exact absurd (Nat.lt_of_lt_of_le (x.lt q) e) (Nat.lt_irrefl _)
theorem dO.kept(x:dO P w H h)(k:∀ b u,h.get? b=some u->h'.get? b=some u):dO P w H h':=fun a o e =>
 (x a o e).l8 (fun b u _ q=>k b u q) (fun _ q=>q) fun _ _ q=>q
theorem dO.laid(x:dO P w H h)(k:∀ b u,h.get? b=some u->h'.get? b=some u)(hp:h.objs.size<=a)(new:b6 P w (upd H a o) h' a o):dO P w (upd H a o) h':=fun b u e=>by
 have hn:=x.fresh hp
 by_cases hb:b=a
 ·subst hb;rw [aH] at e;cases e;exact new
 ·rw [aE hb] at e
  exact (x b u e).l8 (fun c v _ q=>k c v q) (fun c q=>by rw [aE (aN q hn)];exact q) fun c xs q=>by rw [aE (aN q hn)];exact q
end
def Rd(H:Hp)(a:Addr)(u:HO):Prop:=H a=some u\/∃ o,H a=some (.qV o u)
theorem Rd.ok{P:Program}{w:World}{H:Hp}{h:Heap}{a:Addr}{u:HO}(r:Rd H a u)(x:dO P w H h):b6 P w H h a u:=by
 rcases r with r|⟨o,r⟩
 ·exact x a u r
 ·obtain ⟨_,q⟩:=x a _ r
  exact q
def JX:Option HO->Prop
 | some (.lst _)=>True
 | some (.dK _)=>True
 | some (.dT _)=>True
 | some (.set _ _)=>True
 | some (.ins _ _ _)=>True
 | some (.ext _)=>True
 | _=>False
section
variable {P:Program}{w:World}{H:Hp}{h h':Heap}{x e:Addr}{o':HO}
theorem dO.write(ok:dO P w H h)(mu:JX (H x))(he:e=x\/H e=some (.own x))(k:∀ b u,b≠e->h.get? b=some u->h'.get? b=some u)(GD:∃ u,h'.get? e=some u)
  (new:b6 P w (upd H x o') h' x o'):dO P w (upd H x o') h':=fun b u q=>by
 have Hb:∀ c y,H c=some (.own y)->c≠x:=fun c y r z=>by subst z;rw [r] at mu;exact mu
 have Kr:∀ c xs,H c=some (.tup xs)->c≠x:=fun c xs r z=>by subst z;rw [r] at mu;exact mu
 by_cases hb:b=x
 ·subst hb;rw [aH] at q;cases q;exact new
 ·rw [aE hb] at q
  by_cases qW:b=e
  ·have q':H b=some (.own x):=by
    rcases he with z|z
    ·exact absurd (qW.trans z) hb
    ·rw [qW];exact z
   rw [q] at q';cases q'
   obtain ⟨v,hv⟩:=GD
   exact⟨v,by rw [qW];exact hv⟩
  ·refine (ok b u q).l8 (fun c v hc r=>k c v ?_ r) (fun c r=>by rw [aE (Hb c b r)];exact r) fun c xs r=>by rw [aE (Kr c xs r)];exact r
   rcases hc with rfl|hc
   ·exact qW
   ·rintro rfl
    rcases he with z|z
    ·exact Hb c b hc z
    ·rw [hc] at z;cases z;exact hb rfl
end
structure Un(fs ex:List Addr)(H H':Hp)(h h':Heap):Prop where
 keep:∀ b o,h.get? b=some o->H b=none->b∉fs->b∉ex->h'.get? b=some o
 slot:∀ b o,h.get? b=some o->H b=none->b∈fs->b∉ex->∃ sl,h'.get? b=some { o with slots:=sl }
 free:∀ b o,h.get? b=some o->H b=none->b∉ex->H' b=none
 there:∀ b o,h.get? b=some o->b∉ex->∃ o',h'.get? b=some o'
 gV:∀ b xs,H b=some (.tup xs)->H' b=some (.tup xs)
 gP:∀ b o u,H b=some (.qV o u)->H' b=some (.qV o u)
 gW:∀ b ps,H b=some (.Bc ps)->∃ more,H' b=some (.Bc (ps++more))
section
variable {fs GF ex QW:List Addr}{H H1 H2:Hp}{h h1 h2 h':Heap}{a x e:Addr}{o:HO}
theorem Un.any(u:Un fs ex H H1 h h1){b:Addr}{ob:Obj}(q:h.get? b=some ob)(n:H b=none)(hx:b∉ex):∃ sl,h1.get? b=some { ob with slots:=sl }:=by
 by_cases hb:b∈fs
 ·exact u.slot b ob q n hb hx
 ·exact⟨ob.slots,u.keep b ob q n hb hx⟩
theorem Un.kept(k:∀ b u,h.get? b=some u->h'.get? b=some u):Un fs ex H H h h' :=
 ⟨fun b ob q _ _ _=>k b ob q,fun b ob q _ _ _=>⟨ob.slots,k b ob q⟩,fun _ _ _ n _=>n,fun b ob q _=>⟨ob,k b ob q⟩,fun _ _ q=>q,fun _ _ _ q=>q,fun _ ps q=>⟨#[],by rw [q];simp⟩⟩
theorem Un.refl:Un fs ex H H h h:=Un.kept fun _ _ q=>q
theorem Un.laid(k:∀ b u,h.get? b=some u->h'.get? b=some u)(hp:h.objs.size<=a)(hn:H a=none):Un fs ex H (upd H a o) h h' where
 keep:=fun b u q _ _ _=>k b u q
 slot:=fun b u q _ _ _=>⟨u.slots,k b u q⟩
 free:=fun b u q n _=>by rw [aE (Sn (Nat.lt_of_lt_of_le (RI q) hp))];exact n
 there:=fun b u q _=>⟨u,k b u q⟩
 gV:=fun b xs q=>by rw [aE (aN q hn)];exact q
 gP:=fun b u xs q=>by rw [aE (aN q hn)];exact q
 gW:=fun b ps q=>⟨#[],by rw [aE (aN q hn),q];simp⟩
theorem Un.write(mu:JX (H x))(he:e=x\/H e=some (.own x))(k:∀ b u,b≠e->h.get? b=some u->h'.get? b=some u)(GD:∃ u,h'.get? e=some u):Un fs ex H (upd H x o) h h':=by
 have hx:∀ b,H b=none->b≠x:=fun b n z=>by subst z;rw [n] at mu;exact mu
 have hb:∀ b,H b=none->b≠e:=fun b n z=>by
  subst z
  rcases he with r|r
  ·exact hx b n r
  ·rw [n] at r;cases r
 have hm:∀ b u,H b=some u->¬ JX (some u)->b≠x:=fun b u q nm z=>by subst z;rw [q] at mu;exact nm mu
 refine⟨fun b u q n _ _=>k b u (hb b n) q,fun b u q n _ _=>⟨u.slots,k b u (hb b n) q⟩,fun b u q n _=>by rw [aE (hx b n)];exact n,fun b u q _=>?_,
  fun b xs q=>by rw [aE (hm b _ q fun z=>z)];exact q,fun b u xs q=>by rw [aE (hm b _ q fun z=>z)];exact q,fun b ps q=>⟨#[],by rw [aE (hm b _ q fun z=>z),q];simp⟩⟩
 by_cases qW:b=e
 ·subst qW;exact GD
 ·exact⟨u,k b u qW q⟩
end
def JY(h:Heap)(H:Hp):List Addr:=(List.range h.objs.size).filter fun a=>(H a).isSome
def oj(h:Heap)(H:Hp):Heap:=PySem.W.hideAll h (JY h H)
theorem wW(h:Heap)(H:Hp):(oj h H).objs.size=h.objs.size:=PySem.W.hideAll_size _ _
theorem yO{h:Heap}{H:Hp}{b:Addr}{o:Obj}(e:h.get? b=some o)(n:H b=none):(oj h H).get? b=some o :=
 PySem.W.hideAll_get _ e fun hm=>by
  have q:(H b).isSome=true:=(List.mem_filter.mp hm).2
  rw [n] at q;simp at q
theorem Bs{h:Heap}{H:Hp}{b:Addr}{o:Obj}(e:(oj h H).get? b=some o):h.get? b=some o/\H b=none:=by
 have e':h.get? b=some o:=PySem.W.of_hideAll (JY h H) e
 refine⟨e',?_⟩
 cases q:H b with
 | none=>rfl
 | some x =>
  have hm:b∈JY h H:=List.mem_filter.mpr ⟨Sf.mpr (RI e'),by simp [q]⟩
  have z:(oj h H).get? b=none:=PySem.W.hideAll_none (JY h H) hm
  rw [z] at e;cases e
def Bt(g h:Heap)(L:Addr):List (Addr×Obj):=(List.range h.objs.size).filterMap fun a=>if a=L\/(g.get? a).isSome=true then none else (h.get? a).map fun o=>(a,o)
def rest(g h:Heap)(L d:Addr):List (Addr×Obj):=(Bt g h L).filter fun p=>decide (p.1≠d)
structure Mod(K:Frag)(mg:Str->Option Value)(base:Heap):Prop where
 CN:K.In base
 glob:base.Ns mainGlobals mg
 blt:∃ mb,base.Ns builtinsNs mb/\∀ x:Str,x≠"__name__"->mb x=bootBuiltins x
 nolimit:base.NoLimit
structure Cx where
 prog:Program
 w:World
 K:Frag
 mg:Str->Option Value
 base:Heap
 A:Around
 N:List Str
 s₀:Shared
 H₀:Hp
 env:Env
 outer:List Env
 stack:List Env
 ex:List Addr
 fn:Str->Bool
 calm:Bool
 pn:List (Addr×Obj)
 xe:Value->Shared->Prop
def i8(l:List Env):List Addr:=l.filterMap (·.frame)
abbrev Cx.fs(X:Cx):List Addr:=i8 X.outer
def Hc(sc:Scope)(x:Str):Prop:=sc.names.lookup x=some .local\/sc.names.lookup x=some .cell\/sc.names.lookup x=some .free
def Loc(sc:Scope)(x:Str):Prop:=sc.names.lookup x=some .local\/sc.names.lookup x=some .cell
def Look(env:Env)(h:Heap)(m:Str->Option Value)(x:Str)(u:Value):Prop :=
 (env.kindOf x=some .local/\m x=some u)\/((env.kindOf x=some .cell\/env.kindOf x=some .free)/\∃ c,env.cells.lookup x=some c/\h.IsCell c (some u))
structure Cx.Ok(X:Cx):Prop where
 mod:Mod X.K X.mg X.base
 kind:X.env.scope.kind=.function
 glob:X.env.globals=mainGlobals
 blt:X.env.builtins=builtinsNs
 above:X.s₀.heap.objs.size<=X.env.locals
 inj:∀ x y c,X.env.cells.lookup x=some c->X.env.cells.lookup y=some c->x=y
 has:∀ x,(X.env.kindOf x=some .cell\/X.env.kindOf x=some .free)->∃ c,X.env.cells.lookup x=some c
 Be:∀ x c,X.fn x=true->X.env.cells.lookup x=some c->X.s₀.heap.objs.size<=c
 hd:X.calm=true->X.A.handled=none
 frames:X.A.frames=some X.stack
 Bu:X.stack=X.outer\/(X.stack=X.env::X.outer/\X.env.frame=some X.env.locals)
 DQ:∀ b∈X.ex,b≠X.env.locals/\∀ x c,X.env.cells.lookup x=some c->c≠b
 bs:∀ b o,X.base.get? b=some o->X.s₀.heap.get? b=some o/\X.H₀ b=none
 vO:X.base.objs.size<=X.s₀.heap.objs.size
 l9:∀ b o,X.base.get? b=some o->b∉X.ex
 om:∀ b∈X.ex,b∉X.fs
 fM:X.s₀.heap.FunFrames X.base X.outer
 yJ:∀ b∈X.fs,X.H₀ b=none
structure Inv(X:Cx)(pins:List (Addr×Obj))(σ:List (Option V))(H:Hp)(s:Shared):Prop where
 ok:X.Ok
 os:s.os=X.s₀.os
 bare:AllBare s.gens
 base:Un X.fs X.ex X.H₀ H X.s₀.heap s.heap
 loc:∃ m,s.heap.Ns X.env.locals m/\∀ (i:Nat) (x:Str) (v:V),X.N[i]?=some x->σ[i]?=some (some v)->Hc X.env.scope x->∃ u,RelV v u/\Look X.env s.heap m x u
 cell:∀ x c,X.env.cells.lookup x=some c->∃ v,s.heap.IsCell c v
 free:H X.env.locals=none
 cK:∀ x c,X.env.cells.lookup x=some c->H c=none
 pin:∀ p∈X.pn++pins,s.heap.get? p.1=some p.2/\H p.1=none/\p.1≠X.env.locals/\p.1∉X.fs/\∀ v,p.2.data≠.cell v
 bz:dO X.prog X.w H s.heap
 len:σ.length=X.N.length
section
variable {X:Cx}{pins:List (Addr×Obj)}{σ:List (Option V)}{H H':Hp}{s:Shared}{h':Heap}
theorem Cx.Ok.Ks(ok:X.Ok){b:Addr}{o:Obj}(e:X.base.get? b=some o):b∉X.fs:=fun hb=>by
 have:=(ok.fM.mem hb).1
 rw [e] at this;cases this
theorem Inv.bs(I:Inv X pins σ H s):∀ b o,X.base.get? b=some o->s.heap.get? b=some o/\H b=none:=fun b o e =>
 ⟨I.base.keep b o (I.ok.bs b o e).1 (I.ok.bs b o e).2 (I.ok.Ks e) (I.ok.l9 b o e),I.base.free b o (I.ok.bs b o e).1 (I.ok.bs b o e).2 (I.ok.l9 b o e)⟩
theorem Inv.bk(I:Inv X pins σ H s):∀ b o,X.base.get? b=some o->s.heap.get? b=some o:=fun b o e=>(I.bs b o e).1
theorem Inv.mod(I:Inv X pins σ H s):Mod X.K X.mg X.base:=I.ok.mod
theorem Inv.i9(I:Inv X pins σ H s):X.K.In s.heap:=I.ok.mod.CN.keeps I.bk
theorem Inv.lt(I:Inv X pins σ H s):X.env.locals<s.heap.objs.size:=let ⟨_,hn,_⟩:=I.loc;hn.lt
theorem Inv.sz(I:Inv X pins σ H s):X.s₀.heap.objs.size<=s.heap.objs.size:=RL I.ok.above (RN I.lt)
theorem Inv.Kt(I:Inv X pins σ H s){a:Addr}(h:s.heap.objs.size<=a):a∉X.fs:=fun hb=>by
 obtain ⟨_,o,ho,_⟩:=I.ok.fM.mem hb
 exact absurd (Nat.lt_of_lt_of_le (RI ho) (RL I.sz h)) (Nat.lt_irrefl _)
theorem Inv.wX(I:Inv X pins σ H s):∀ x c,X.env.cells.lookup x=some c->c≠X.env.locals:=fun x c e z=>by
 obtain ⟨v,o,ho,hd⟩:=I.cell x c e
 obtain ⟨m,⟨o',es,ep,Bv,uc,_⟩,_⟩:=I.loc
 rw [z,Bv] at ho;cases ho;rw [uc] at hd;cases hd
theorem Inv.fM(I:Inv X pins σ H s):s.heap.FunFrames X.base X.outer:=by
 have all:∀ (l:List Env),(∀ b∈i8 l,b∈X.fs)->X.s₀.heap.FunFrames X.base l->s.heap.FunFrames X.base l:=by
  intro l
  induction l with
  | nil=>intro _ _;trivial
  | cons env r ih =>
   intro hs hl
   obtain ⟨hk,⟨L,o,hf,hn,ho,hd⟩,hr⟩:=hl
   have hL:L∈X.fs:=hs L (by unfold i8;rw [List.filterMap_cons,hf];exact mem_cons_self)
   obtain ⟨sl,e⟩:=I.base.slot L o ho (I.ok.yJ L hL) hL fun z=>I.ok.om L z hL
   exact⟨hk,⟨L,_,hf,hn,e,hd⟩,ih (fun b hb=>hs b (by unfold i8;rw [List.filterMap_cons,hf];exact Sb _ hb)) hr⟩
 exact all X.outer (fun _ hb=>hb) I.ok.fM
theorem Inv.stack(I:Inv X pins σ H s):s.heap.FunFrames X.base X.stack:=by
 rcases I.ok.Bu with e|⟨e,hf⟩
 ·rw [e];exact I.fM
 ·rw [e]
  obtain ⟨m,hn,_⟩:=I.loc
  refine .cons (by rw [I.ok.kind];decide) hf hn ?_ I.fM
  exact Heap.get?_none_of_le (RL I.ok.vO I.ok.above)
theorem Inv.fP(I:Inv X pins σ H s):∀ b∈i8 X.stack,b∈X.env.locals::X.fs:=fun b hb=>by
 rcases I.ok.Bu with e|⟨e,hf⟩
 ·rw [e] at hb;exact Sb _ hb
 ·rw [e] at hb
  unfold i8 at hb
  rw [List.filterMap_cons,hf] at hb
  exact hb
theorem Inv.eS(I:Inv X pins σ H s):∀ b∈i8 X.stack,H b=none:=fun b hb=>by
 rcases Sd.mp (I.fP b hb) with e|hb
 ·rw [e];exact I.free
 ·obtain ⟨_,o,ho,_⟩:=I.ok.fM.mem hb
  exact I.base.free b o ho (I.ok.yJ b hb) fun z=>I.ok.om b z hb
theorem Inv.step{g':Array GenState}{t':Nat}{d':Drawn}{ch:List Addr}(I:Inv X pins σ H s)
  (tW:∀ b∈ch,(b∈X.ex\/X.s₀.heap.objs.size<=b)/\b≠X.env.locals/\(∀ x c,X.env.cells.lookup x=some c->c≠b)/\∀ p∈X.pn++pins,p.1≠b)
  (keep:∀ b o,b≠X.env.locals->b∉X.fs->b∉ch->s.heap.get? b=some o->H b=none->h'.get? b=some o)
  (slot:∀ b o,b≠X.env.locals->b∈X.fs->b∉ch->s.heap.get? b=some o->H b=none->∃ sl,h'.get? b=some { o with slots:=sl }) (free:∀ b o,b∉ch->s.heap.get? b=some o->H b=none->H' b=none)
  (there:∀ b o,b∉ch->s.heap.get? b=some o->∃ o',h'.get? b=some o')
  (gV:∀ b xs,H b=some (.tup xs)->H' b=some (.tup xs)) (gP:∀ b o u,H b=some (.qV o u)->H' b=some (.qV o u)) (gW:∀ b ps,H b=some (.Bc ps)->∃ more,H' b=some (.Bc (ps++more)))
  (ns:∀ m,s.heap.Ns X.env.locals m->h'.Ns X.env.locals m) (bz:dO X.prog X.w H' h') (hg:AllBare g') :
  Inv X pins σ H' { s with heap:=h',gens:=g',drawn:=d',toks:=t' }:=by
 have Hd:∀ b o,X.s₀.heap.get? b=some o->b≠X.env.locals:=fun b o e=>Sn (Nat.lt_of_lt_of_le (RI e) I.ok.above)
 have Bw:∀ b o,X.s₀.heap.get? b=some o->b∉X.ex->b∉ch:=fun b o e hx hb=>by
  rcases (tW b hb).1 with z|z
  ·exact hx z
  ·exact absurd (Nat.lt_of_lt_of_le (RI e) z) (Nat.lt_irrefl _)
 have cellK:∀ x c,X.env.cells.lookup x=some c->∀ v,s.heap.IsCell c v->h'.IsCell c v:=fun x c e v ⟨o,ho,hd⟩=>by
  have yP:c∉ch:=fun z=>(tW c z).2.2.1 x c e rfl
  by_cases hc:c∈X.fs
  ·obtain ⟨sl,q⟩:=slot c o (I.wX x c e) hc yP ho (I.cK x c e)
   exact⟨_,q,hd⟩
  ·exact⟨o,keep c o (I.wX x c e) hc yP ho (I.cK x c e),hd⟩
 refine⟨I.ok,I.os,hg,⟨fun b o e n hb hx=>?_,fun b o e n hb hx=>?_,fun b o e n hx=>?_,fun b o e hx=>?_,fun b xs e=>gV b xs (I.base.gV b xs e),fun b o xs e=>gP b o xs (I.base.gP b o xs e),fun b ps e=>?_⟩,?_,fun x c e=>?_,?_,fun x c e=>?_,fun p hp=>?_,bz,I.len⟩
 ·exact keep b o (Hd b o e) hb (Bw b o e hx) (I.base.keep b o e n hb hx) (I.base.free b o e n hx)
 ·obtain ⟨sl,e1⟩:=I.base.slot b o e n hb hx
  obtain ⟨Bf,e2⟩:=slot b _ (Hd b o e) hb (Bw b o e hx) e1 (I.base.free b o e n hx)
  exact⟨Bf,e2⟩
 ·obtain ⟨o',e1⟩:=I.base.there b o e hx
  exact free b o' (Bw b o e hx) e1 (I.base.free b o e n hx)
 ·obtain ⟨o',e1⟩:=I.base.there b o e hx
  exact there b o' (Bw b o e hx) e1
 ·obtain ⟨m1,e1⟩:=I.base.gW b ps e
  obtain ⟨m2,e2⟩:=gW b _ e1
  exact⟨m1++m2,by rw [e2,Array.append_assoc]⟩
 ·obtain ⟨m,hn,hl⟩:=I.loc
  refine⟨m,ns m hn,fun i x v e1 e2 e3=>?_⟩
  obtain ⟨u,r,l⟩:=hl i x v e1 e2 e3
  refine⟨u,r,?_⟩
  rcases l with l|⟨k,c,e,z⟩
  ·exact .inl l
  ·exact .inr ⟨k,c,e,cellK x c e _ z⟩
 ·obtain ⟨v,z⟩:=I.cell x c e
  exact⟨v,cellK x c e v z⟩
 ·obtain ⟨m,⟨o,_,_,ho,_⟩,_⟩:=I.loc
  exact free _ o (fun z=>(tW _ z).2.1 rfl) ho I.free
 ·obtain ⟨v,o,ho,hd⟩:=I.cell x c e
  exact free c o (fun z=>(tW c z).2.2.1 x c e rfl) ho (I.cK x c e)
 ·obtain ⟨e,n,ne,nf,d⟩:=I.pin p hp
  have yP:p.1∉ch:=fun z=>(tW p.1 z).2.2.2 p hp rfl
  exact⟨keep p.1 p.2 ne nf yP e n,free p.1 p.2 yP e n,ne,nf,d⟩
theorem Inv.un{t':Nat}(I:Inv X pins σ H s)(u:Un X.fs [] H H' s.heap h')(bz:dO X.prog X.w H' h'):Inv X pins σ H' { s with heap:=h',toks:=t' }:=by
 obtain ⟨m,⟨o,es,ep,ho,r⟩,_⟩:=id I.loc
 obtain ⟨sl,hL⟩:=u.any ho I.free (by simp)
 exact I.step (g':=s.gens) (d':=s.drawn) (ch:=[]) (fun _ z=>nomatch z) (fun b o _ hb _ e n=>u.keep b o e n hb (by simp)) (fun b o _ hb _ e n=>u.slot b o e n hb (by simp)) (fun b o _ e n=>u.free b o e n (by simp)) (fun b o _ e=>u.there b o e (by simp)) u.gV u.gP u.gW (fun m' hm=>by
  obtain ⟨o',Ku,Kv,Bv,r'⟩:=hm
  rw [ho] at Bv;cases Bv
  exact⟨_,Ku,Kv,hL,r'⟩) bz I.bare
theorem Inv.call{g':Array GenState}{t':Nat}{d':Drawn}{ch:List Addr}(I:Inv X pins σ H s)(u:Un (i8 X.stack) ch H H' s.heap h')(bz:dO X.prog X.w H' h')(hg:AllBare g')
  (tW:∀ b∈ch,(b∈X.ex\/X.s₀.heap.objs.size<=b)/\b≠X.env.locals/\(∀ x c,X.env.cells.lookup x=some c->c≠b)/\∀ p∈X.pn++pins,p.1≠b) :
  Inv X pins σ H' { s with heap:=h',gens:=g',drawn:=d',toks:=t' }:=by
 obtain ⟨m,⟨o,es,ep,ho,r⟩,_⟩:=id I.loc
 obtain ⟨sl,hL⟩:=u.any ho I.free fun z=>(tW _ z).2.1 rfl
 exact I.step (ch:=ch) tW (fun b o hL hb hc e n=>u.keep b o e n (fun z=>(Sd.mp (I.fP b z)).elim hL hb) hc) (fun b o _ _ hc e n=>u.any e n hc) (fun b o hc e n=>u.free b o e n hc) (fun b o hc e=>u.there b o e hc) u.gV u.gP u.gW (fun m' hm=>by
  obtain ⟨o',Ku,Kv,Bv,r'⟩:=hm
  rw [ho] at Bv;cases Bv
  exact⟨_,Ku,Kv,hL,r'⟩) bz hg
theorem Inv.turned{t':Nat}{it:Addr}(I:Inv X pins σ H s)(k:∀ b o,b≠it->s.heap.get? b=some o->h'.get? b=some o)(hn:H it=none)(hL:it≠X.env.locals)
  (h1:it∈X.ex\/X.s₀.heap.objs.size<=it) (h2:∀ x c,X.env.cells.lookup x=some c->c≠it) (h3:∀ p∈X.pn++pins,p.1≠it):Inv X pins σ H { s with heap:=h',toks:=t' }:=by
 have M9:∀ b u,H b=some u->b≠it:=fun b u e z=>by rw [z,hn] at e;cases e
 refine I.step (g':=s.gens) (d':=s.drawn) (ch:=[it]) (fun b hb=>?_) (fun b o _ _ hc e _=>k b o (fun z=>hc (by simp [z])) e) (fun b o _ _ hc e _=>⟨o.slots,k b o (fun z=>hc (by simp [z])) e⟩) (fun _ _ _ _ n=>n)
  (fun b o hc e=>⟨o,k b o (fun z=>hc (by simp [z])) e⟩) (fun _ _ e=>e) (fun _ _ _ e=>e) (fun b ps e=>⟨#[],by rw [e];simp⟩) (fun m hm=>?_) (fun b u e=>?_) I.bare
 ·have e:b=it:=by simpa using hb
  subst e
  exact⟨h1,hL,h2,h3⟩
 ·obtain ⟨o,es,ep,ho,r⟩:=hm
  exact⟨o,es,ep,k _ o (Ne.symm hL) ho,r⟩
 ·refine (I.bz b u e).l8 (fun c v hc q=>k c v ?_ q) (fun _ q=>q) fun _ _ q=>q
  rcases hc with z|z
  ·rw [z];exact M9 b u e
  ·exact M9 c _ z
theorem Inv.tok(I:Inv X pins σ H s)(t:Nat):Inv X pins σ H { s with toks:=t }:=I.un (h':=s.heap) (t':=t) Un.refl I.bz
theorem Inv.kept{t':Nat}(I:Inv X pins σ H s)(k:∀ b u,s.heap.get? b=some u->h'.get? b=some u):Inv X pins σ H { s with heap:=h',toks:=t' }:=I.un (Un.kept k) (I.bz.kept k)
theorem Inv.laid{a:Addr}{o:HO}{t':Nat}(I:Inv X pins σ H s)(k:∀ b u,s.heap.get? b=some u->h'.get? b=some u)(hp:s.heap.objs.size<=a)(new:b6 X.prog X.w (upd H a o) h' a o) :
  Inv X pins σ (upd H a o) { s with heap:=h',toks:=t' }:=I.un (Un.laid k hp (I.bz.fresh hp)) (I.bz.laid k hp new)
theorem Inv.write{x e:Addr}{o:HO}{t':Nat}(I:Inv X pins σ H s)(mu:JX (H x))(he:e=x\/H e=some (.own x))(k:∀ b u,b≠e->s.heap.get? b=some u->h'.get? b=some u)(GD:∃ u,h'.get? e=some u)
  (new:b6 X.prog X.w (upd H x o) h' x o):Inv X pins σ (upd H x o) { s with heap:=h',toks:=t' }:=I.un (Un.write mu he k GD) (I.bz.write mu he k GD new)
theorem Inv.gA{CO:List (Addr×Obj)}(I:Inv X pins σ H s)(h:∀ p∈CO,s.heap.get? p.1=some p.2/\H p.1=none/\p.1≠X.env.locals/\p.1∉X.fs/\∀ v,p.2.data≠.cell v):Inv X CO σ H s :=
 ⟨I.ok,I.os,I.bare,I.base,I.loc,I.cell,I.free,I.cK,fun p hp=>(R7.mp hp).elim (fun z=>I.pin p (R5 _ z)) (h p),I.bz,I.len⟩
theorem kx{N:List Str}(hN:N.Nodup){i j:Nat}{x:Str}(a:N[i]?=some x)(b:N[j]?=some x):i=j:=by
 obtain ⟨h1,e1⟩:=RH.mp a
 obtain ⟨h2,e2⟩:=RH.mp b
 exact (List.getElem_inj hN).mp (e1.trans e2.symm)
theorem wY{M:Model}{A:Around}{E:Value->Shared->Prop}{i:Nat}{x:Str}{v:V}{u:Value}{Q:Unit->Shared->Prop}(I:Inv X pins σ H s)(hN:X.N.Nodup)(hi:X.N[i]?=some x)(hx:Loc X.env.scope x)(r:RelV v u)
  (h:∀ s',Inv X pins (σ.set i (some v)) H s'->(∃ a,Heap.SameBut a s.heap s'.heap/\(a=X.env.locals\/X.env.cells.lookup x=some a))->Q () s') (hf:X.fn x=true\/X.env.scope.names.lookup x=some .local:=by first|exact .inl rfl|exact .inr rfl|assumption):wpAny M A (storeName X.env x u) Q E s:=by
 obtain ⟨m,hn,hl⟩:=id I.loc
 have wZ:(X.env.scope.kind == .class || (X.env.scope.kind == .module && X.env.locals != X.env.globals))=false:=by rw [I.ok.kind];rfl
 have JZ:i<σ.length:=by rw [I.len];exact (RH.mp hi).1
 have wX:=I.wX
 have tracked:∀ {a:Addr} {h':Heap},(∃ o,s.heap.get? a=some o/\H a=none)->Heap.SameBut a s.heap h'->dO X.prog X.w H h':=fun {a h'} ha hs b ob e=>by
  obtain ⟨_,_,CP⟩:=ha
  refine (I.bz b ob e).l8 (fun c w' hc q=>(hs.2 c ?_).trans q) (fun _ q=>q) fun _ _ q=>q
  rintro rfl
  rcases hc with rfl|hc
  ·rw [CP] at e;cases e
  ·rw [CP] at hc;cases hc
 rcases hx with hk|hk
 ·refine wpAny_storeName_local hk hn (fun h' Bx hs=>?_) wZ
  obtain ⟨oL,_,_,Na,_⟩:=id hn
  refine h _ ⟨I.ok,I.os,I.bare,⟨fun b o e n hb hx=>?_,fun b o e n hb hx=>?_,I.base.free,fun b o e hx=>?_,I.base.gV,I.base.gP,I.base.gW⟩,⟨_,Bx,fun j y v' e1 e2 e3=>?_⟩,fun y c e=>?_,I.free,I.cK,fun p hp=>?_,tracked ⟨oL,Na,I.free⟩ hs,by simpa using I.len⟩ ⟨_,hs,.inl rfl⟩
  ·exact (hs.2 b (Sn (Nat.lt_of_lt_of_le (RI e) I.ok.above))).trans (I.base.keep b o e n hb hx)
  ·obtain ⟨sl,e1⟩:=I.base.slot b o e n hb hx
   exact⟨sl,(hs.2 b (Sn (Nat.lt_of_lt_of_le (RI e) I.ok.above))).trans e1⟩
  ·obtain ⟨o',e1⟩:=I.base.there b o e hx
   exact⟨o',(hs.2 b (Sn (Nat.lt_of_lt_of_le (RI e) I.ok.above))).trans e1⟩
  ·by_cases hj:j=i
   ·subst hj
    rw [hi] at e1;cases e1
    rw [List.getElem?_set_self JZ] at e2
    cases e2
    exact⟨u,r,.inl ⟨hk,by simp⟩⟩
   ·rw [List.getElem?_set_ne (Ne.symm hj)] at e2
    obtain ⟨u',r',q⟩:=hl j y v' e1 e2 e3
    refine⟨u',r',?_⟩
    rcases q with ⟨k,e⟩|⟨k,c,e,z⟩
    ·refine .inl ⟨k,?_⟩
     have:y≠x:=fun e=>hj (kx hN e1 (e ▸ hi))
     simp [this,e]
    ·exact .inr ⟨k,c,e,z.sameBut hs (wX y c e)⟩
  ·obtain ⟨w',z⟩:=I.cell y c e
   exact⟨w',z.sameBut hs (wX y c e)⟩
  ·obtain ⟨e,n,ne,nf,d⟩:=I.pin p hp
   exact⟨(hs.2 p.1 ne).trans e,n,ne,nf,d⟩
 ·have GG:X.fn x=true:=by
   rcases hf with z|z
   ·exact z
   ·rw [z] at hk;cases hk
  obtain ⟨c,hc⟩:=I.ok.has x (.inl hk)
  obtain ⟨w',z⟩:=I.cell x c hc
  refine wpAny_storeName_cell I.ok.kind hk hc z (fun h' ud hs=>?_)
  obtain ⟨oc,Nb,Kw⟩:=id z
  refine h { s with heap:=h' } ⟨I.ok,I.os,I.bare,⟨fun b o e n hb hx=>?_,fun b o e n hb hx=>?_,I.base.free,fun b o e hx=>?_,I.base.gV,I.base.gP,I.base.gW⟩,⟨m,hn.sameBut hs (Ne.symm (wX x c hc)),fun j y v' e1 e2 e3=>?_⟩,fun y c' e=>?_,I.free,I.cK,fun p hp=>?_,tracked ⟨oc,Nb,I.cK x c hc⟩ hs,by simpa using I.len⟩ ⟨c,hs,.inr hc⟩
  ·exact (hs.2 b (Sn (Nat.lt_of_lt_of_le (RI e) (I.ok.Be x c GG hc)))).trans (I.base.keep b o e n hb hx)
  ·obtain ⟨sl,e1⟩:=I.base.slot b o e n hb hx
   exact⟨sl,(hs.2 b (Sn (Nat.lt_of_lt_of_le (RI e) (I.ok.Be x c GG hc)))).trans e1⟩
  ·obtain ⟨o',e1⟩:=I.base.there b o e hx
   exact⟨o',(hs.2 b (Sn (Nat.lt_of_lt_of_le (RI e) (I.ok.Be x c GG hc)))).trans e1⟩
  ·by_cases hj:j=i
   ·subst hj
    rw [hi] at e1;cases e1
    rw [List.getElem?_set_self JZ] at e2
    cases e2
    exact⟨u,r,.inr ⟨.inl hk,c,hc,ud⟩⟩
   ·rw [List.getElem?_set_ne (Ne.symm hj)] at e2
    obtain ⟨u',r',q⟩:=hl j y v' e1 e2 e3
    refine⟨u',r',?_⟩
    rcases q with q|⟨k,c',e,z'⟩
    ·exact .inl q
    ·refine .inr ⟨k,c',e,z'.sameBut hs ?_⟩
     rintro rfl
     exact hj (kx hN e1 (I.ok.inj _ _ _ e hc ▸ hi))
  ·by_cases Nc:c'=c
   ·subst Nc;exact⟨_,ud⟩
   ·obtain ⟨w2,z2⟩:=I.cell y c' e
    exact⟨w2,z2.sameBut hs Nc⟩
  ·obtain ⟨e,n,ne,nf,d⟩:=I.pin p hp
   refine⟨(hs.2 p.1 ?_).trans e,n,ne,nf,d⟩
   intro q
   rw [q,Nb] at e
   have q':oc=p.2:=RS e
   exact d w' (by rw [<- q'];exact Kw)
theorem fQ{M:Model}{A:Around}{E:Value->Shared->Prop}{i:Nat}{x:Str}{v:V}{u:Value}{Q:Unit->Shared->Prop}(I:Inv X pins σ H s)(hN:X.N.Nodup)(hi:X.N[i]?=some x)(hx:Loc X.env.scope x)(r:RelV v u)
  (h:∀ s',Inv X pins (σ.set i (some v)) H s'->Q () s') (hf:X.fn x=true\/X.env.scope.names.lookup x=some .local:=by first|exact .inl rfl|exact .inr rfl|assumption):wpAny M A (storeName X.env x u) Q E s :=
 wY I hN hi hx r (fun s' I' _=>h s' I') hf
theorem Inv.CQ{s':Shared}{ch:List Addr}(I:Inv X pins σ H s)(ho:s'.os=s.os)(u:Un (i8 X.stack) ch H H' s.heap s'.heap)(bz:dO X.prog X.w H' s'.heap)(hg:AllBare s'.gens)
  (tW:∀ b∈ch,(b∈X.ex\/X.s₀.heap.objs.size<=b)/\b≠X.env.locals/\(∀ x c,X.env.cells.lookup x=some c->c≠b)/\∀ p∈X.pn++pins,p.1≠b):Inv X pins σ H' s':=by
 obtain ⟨h',g',d',t',o'⟩:=s'
 have e:o'=s.os:=ho
 subst e
 exact I.call (g':=g') (t':=t') (d':=d') u bz hg tW
end
abbrev XK:=Value->Option Addr->Hp->Prop
abbrev St:=List (Option V)
abbrev VK:=V->Hp->Prop
abbrev TE:=St->Hp->VK->Prop
abbrev TT:=St->Hp->(Bool->Hp->Prop)->Prop
abbrev TA:=St->Hp->(List V->Hp->Prop)->Prop
structure Ends where
 nx:St->Hp->Prop
 rt:VK
 bk:St->Hp->Prop:=fun _ _=>False
 ct:St->Hp->Prop:=fun _ _=>False
abbrev TS:=Ends->St->Hp->Prop
def EP(X:Cx)(pins:List (Addr×Obj))(σ:St)(Q:VK)(u:Value)(s':Shared):Prop:=∃ v H',Inv X pins σ H' s'/\RelV v u/\Q v H'
def TP(X:Cx)(pins:List (Addr×Obj))(σ:St)(Q:Bool->Hp->Prop)(b:Bool)(s':Shared):Prop:=∃ H',Inv X pins σ H' s'/\Q b H'
def AP(X:Cx)(pins:List (Addr×Obj))(σ:St)(Q:List V->Hp->Prop)(us:List Value)(s':Shared):Prop:=∃ vs H',Inv X pins σ H' s'/\Vals vs us/\Q vs H'
def SP(X:Cx)(pins:List (Addr×Obj))(D:Ends)(f:Flow)(s':Shared):Prop :=
 match f with
 | .next=>∃ σ' H',Inv X pins σ' H' s'/\D.nx σ' H'
 | .brk=>∃ σ' H',Inv X pins σ' H' s'/\D.bk σ' H'
 | .cont=>∃ σ' H',Inv X pins σ' H' s'/\D.ct σ' H'
 | .ret u=>∃ v σ' H',Inv X pins σ' H' s'/\RelV v u/\D.rt v H'
def PE(X:Cx)(e:Expr)(t:TE):Prop :=
 ∀ (pins:List (Addr×Obj)) (s:Shared) (σ:St) (H:Hp) (Q:VK),Inv X pins σ H s->t σ H Q->wpAny (model X.prog X.w) X.A (eval e X.env) (EP X pins σ Q) X.xe s
def PT(X:Cx)(e:Expr)(t:TT):Prop :=
 ∀ (pins:List (Addr×Obj)) (s:Shared) (σ:St) (H:Hp) (Q:Bool->Hp->Prop),Inv X pins σ H s->t σ H Q->wpAny (model X.prog X.w) X.A (isTrue e X.env (eval e X.env)) (TP X pins σ Q) X.xe s
def PW(X:Cx)(e:Expr)(t:TT):Prop :=
 ∀ (whole:Sem Value) (pins:List (Addr×Obj)) (s:Shared) (σ:St) (H:Hp) (Q:Bool->Hp->Prop),Inv X pins σ H s->t σ H Q->wpAny (model X.prog X.w) X.A (isTrue e X.env whole) (TP X pins σ Q) X.xe s
theorem PW.pt{X:Cx}{e:Expr}{t:TT}(h:PW X e t):PT X e t:=h _
def PA(X:Cx)(es:List Expr)(t:TA):Prop :=
 ∀ (pos:Pos) (pins:List (Addr×Obj)) (s:Shared) (σ:St) (H:Hp) (Q:List V->Hp->Prop),Inv X pins σ H s->t σ H Q->wpAny (model X.prog X.w) X.A (spliced (backTo pos (starEach es X.env))) (AP X pins σ Q) X.xe s
def PS(X:Cx)(st:Stmt)(t:TS):Prop :=
 ∀ (pins:List (Addr×Obj)) (s:Shared) (σ:St) (H:Hp) (D:Ends),Inv X pins σ H s->t D σ H->wpAny (model X.prog X.w) X.A (exec st X.env) (SP X pins D) X.xe s
def jZ(X:Cx)(st:List Stmt)(t:TS):Prop :=
 ∀ (pins:List (Addr×Obj)) (s:Shared) (σ:St) (H:Hp) (D:Ends),Inv X pins σ H s->t D σ H->wpAny (model X.prog X.w) X.A (execs st X.env) (SP X pins D) X.xe s
theorem cx{α:Type}{t:Sem α}{Q Q':α->Shared->Prop}{M:Model}{A:Around}{E:Value->Shared->Prop}{s:Shared}(h:wpAny M A t Q E s)(hQ:∀ a s,Q a s->Q' a s):wpAny M A t Q' E s:=RZ h hQ fun _ _ x=>x
section
variable {X:Cx}
def yQ(i:Nat):TE:=fun σ H Q=>∃ v,σ[i]?=some (some v)/\Q v H
def tC(v:V):TE:=fun _ H Q=>Q v H
theorem DR {i:Nat} {x:Str} {pos:Pos} (hN:X.N[i]?=some x) (hv:Hc X.env.scope x) (hd:(x == ("__debug__":Str))=false:=by decide) (jc:(x == ("__classdict__":Str))=false:=by decide):PE X (.Name x pos) (yQ i):=by
 intro pins s σ H Q I h
 obtain ⟨v,e,h⟩:=h
 obtain ⟨m,hn,hl⟩:=I.loc
 obtain ⟨u,r,l⟩:=hl i x v hN e hv
 have fin:EP X pins σ Q u s:=⟨v,H,I,r,h⟩
 rcases l with ⟨hk,hm⟩|⟨hk,c,hc,qX⟩
 ·exact wpAny_Name (wpAny_loadName_local I.ok.kind hk hn hm fin) hd
 ·rcases hk with hk|hk
  ·exact wpAny_Name (wpAny_loadName_cell I.ok.kind hk hc qX fin) hd
  ·exact wpAny_Name (wpAny_loadName_free I.ok.kind hk hc qX fin jc) hd
theorem ah{i j pos}:PE X (.Constant (.int i) j pos) (tC (.int i)):=fun _ _ _ H _ I h=>wpAny_Constant_int ⟨.int i,H,I.tok _,⟨_,rfl⟩,h⟩
theorem nC{b j pos}:PE X (.Constant (.bool b) j pos) (tC (.bl b)):=fun _ _ _ H _ I h=>Constant_bool ⟨.bl b,H,I,rfl,h⟩
theorem cT{j pos}:PE X (.Constant .none j pos) (tC .cF):=fun _ _ _ H _ I h=>Constant_none ⟨.cF,H,I,rfl,h⟩
theorem aC{x j pos}:PE X (.Constant (.str x) j pos) (tC (.str x)):=fun _ _ _ H _ I h=>Calls.Constant_str ⟨.str x,H,I.tok _,⟨_,rfl⟩,h⟩
def Gl(X:Cx)(x:Str):Prop:=X.env.kindOf x=some .globalImplicit
theorem dm{E:Value->Shared->Prop}{pins:List (Addr×Obj)}{s:Shared}{σ:St}{H:Hp}{x:Str}{u:Value}{pos:Pos}{Q:Value->Shared->Prop}(I:Inv X pins σ H s)(hg:Gl X x)(hm:X.mg x=some u)(h:Q u s)
  (hd:(x == ("__debug__":Str))=false:=by decide):wpAny (model X.prog X.w) X.A (eval (.Name x pos) X.env) Q E s :=
 Calls.Name_function_global I.ok.kind hg (Calls.loadGlobal_global (by rw [I.ok.glob];exact I.mod.glob.keeps I.bk) hm h) hd
theorem jd{E:Value->Shared->Prop}{pins:List (Addr×Obj)}{s:Shared}{σ:St}{H:Hp}{x:Str}{u:Value}{pos:Pos}{Q:Value->Shared->Prop}(I:Inv X pins σ H s)(hg:Gl X x)(hm:X.mg x=none)(hv:bootBuiltins x=some u)(h:Q u s)
  (hn:x≠"__name__":=by decide) (hd:(x == ("__debug__":Str))=false:=by decide):wpAny (model X.prog X.w) X.A (eval (.Name x pos) X.env) Q E s:=by
 obtain ⟨mb,h1,h2⟩:=I.mod.blt
 exact Calls.Name_function_global I.ok.kind hg (Calls.loadGlobal_builtin (by rw [I.ok.glob];exact I.mod.glob.keeps I.bk) hm (by rw [I.ok.blt];exact h1.keeps I.bk) ((h2 x hn).trans hv) h) hd
theorem cX {x:Str} {v:V} {u:Value} {pos:Pos} (hg:Gl X x) (hm:X.mg x=some u) (r:RelV v u) (hd:(x == ("__debug__":Str))=false:=by decide):PE X (.Name x pos) (tC v) :=
 fun _ _ _ H _ I h=>dm I hg hm ⟨v,H,I,r,h⟩ hd
theorem dq {x:Str} {v:V} {u:Value} {pos:Pos} (hg:Gl X x) (hm:X.mg x=none) (hv:bootBuiltins x=some u) (r:RelV v u) (hn:x≠"__name__":=by decide) (hd:(x == ("__debug__":Str))=false:=by decide):PE X (.Name x pos) (tC v) :=
 fun _ _ _ H _ I h=>jd I hg hm hv ⟨v,H,I,r,h⟩ hn hd
variable {a b:Expr}{ta tb:TE}{pos:Pos}
def tB(t:TE):TT:=fun σ H Q=>t σ H fun x H1=>∃ c,x=.bl c/\Q c H1
theorem cU{e:Expr}{t:TE}(h:PE X e t)(he:∀ whole,isTrue e X.env whole=(do let v <- whole;standAt e.pos;holding [v] (truthy v)):=by intro _;rfl):PT X e (tB t):=by
 intro pins s σ H Q I hw
 refine isTrue_plain (cx (h pins s σ H _ I hw) fun v s1 ⟨x,H1,I1,r1,q1⟩=>?_) (he _)
 obtain ⟨d,rfl,q⟩:=q1
 cases r1
 exact wpAny_truthy_bool ⟨H1,I1,q⟩
variable {tA J0:TT}{rest:List Expr}
def He(t u:TT):TT:=fun σ H Q=>t σ H fun c H1=>if c=true then u σ H1 Q else Q false H1
def Nd(t u:TT):TT:=fun σ H Q=>t σ H fun c H1=>if c=true then Q true H1 else u σ H1 Q
def Hf(t:TT):TT:=fun σ H Q=>t σ H fun c H1=>Q (!c) H1
theorem gB(ha:PT X a tA):PW X (.BoolOp .And [a] pos) tA:=by
 intro wh pins s σ H Q I h
 refine isTrue_and (cx (ha pins s σ H Q I h) fun c s1 e=>?_)
 cases c with
 | true=>exact isTrue_and_nil e
 | false=>exact e
theorem cV(ha:PT X a tA):PW X (.BoolOp .Or [a] pos) tA:=by
 intro wh pins s σ H Q I h
 refine isTrue_or (cx (ha pins s σ H Q I h) fun c s1 e=>?_)
 cases c with
 | false=>exact isTrue_or_nil e
 | true=>exact e
theorem fR(ha:PT X a tA)(hb:PW X (.BoolOp .And (b::rest) pos) J0):PW X (.BoolOp .And (a::b::rest) pos) (He tA J0):=by
 intro wh pins s σ H Q I h
 refine isTrue_and (cx (ha pins s σ H _ I h) fun c s1 ⟨H1,I1,q1⟩=>?_)
 cases c with
 | true=>exact hb wh pins s1 σ H1 Q I1 q1
 | false=>exact⟨H1,I1,q1⟩
theorem c6(ha:PT X a tA)(hb:PW X (.BoolOp .Or (b::rest) pos) J0):PW X (.BoolOp .Or (a::b::rest) pos) (Nd tA J0):=by
 intro wh pins s σ H Q I h
 refine isTrue_or (cx (ha pins s σ H _ I h) fun c s1 ⟨H1,I1,q1⟩=>?_)
 cases c with
 | true=>exact⟨H1,I1,q1⟩
 | false=>exact hb wh pins s1 σ H1 Q I1 q1
theorem d8(ha:PT X a tA):PT X (.UnaryOp .Not a pos) (Hf tA):=by
 intro pins s σ H Q I h
 exact isTrue_not (ha pins s σ H (fun c H1=>Q (!c) H1) I h)
def CS(ta tb:TE):TE:=fun σ H Q=>ta σ H fun x H1=>∃ c,x=.bl c/\if c=true then tb σ H1 Q else Q (.bl false) H1
def CT(ta:TE):TE:=fun σ H Q=>ta σ H fun x H1=>∃ c,x=.bl c/\Q (.bl (!c)) H1
theorem oo{op}{t:TE}(h:PE X a t):PE X (.BoolOp op [a] pos) t:=fun pins s σ H Q I hw=>BoolOp_one (h pins s σ H Q I hw)
theorem oq(ha:PE X a ta)(hb:PE X (.BoolOp .And (b::rest) pos) tb):PE X (.BoolOp .And (a::b::rest) pos) (CS ta tb):=by
 intro pins s σ H Q I h
 refine BoolOp_and (cx (ha pins s σ H _ I h) fun v s1 ⟨x,H1,I1,r1,q1⟩=>?_)
 obtain ⟨c,rfl,q1⟩:=q1
 cases r1
 refine wpAny_truthy_bool ?_
 cases c with
 | true=>exact hb pins s1 σ H1 Q I1 q1
 | false=>exact⟨.bl false,H1,I1,rfl,q1⟩
theorem yR(ha:PE X a ta):PE X (.UnaryOp .Not a pos) (CT ta):=by
 intro pins s σ H Q I h
 refine UnaryOp_ (cx (ha pins s σ H _ I h) fun v s1 ⟨x,H1,I1,r1,q1⟩=>?_)
 obtain ⟨c,rfl,q1⟩:=q1
 cases r1
 exact not_of (wpAny_truthy_bool ⟨.bl (!c),H1,I1,rfl,q1⟩)
end
def b5(K:Frag)(H:Hp)(a:Addr)(xs:List V):Prop :=
 Rd H a (.lst xs) \/
  ∃ (o:Obj) (its:Array Value) (n:Nat),K.lookup a=some o/\o.cls=.type "list"/\o.dict=none/\o.data=.seq its n/\its.size<=sizeLine/\Vals xs its.toList
def aT(K:Frag)(H:Hp)(a:Addr)(xs:List V):Prop :=
 Rd H a (.tup xs) \/
  ∃ (o:Obj) (its:Array Value) (n:Nat),K.lookup a=some o/\o.cls=.type "tuple"/\o.data=.seq its n/\its.size<=sizeLine/\Vals xs its.toList
def Kx:Value->Option V
 | .none=>some .cF
 | .bool b=>some (.bl b)
 | .int i _=>some (.int i)
 | .str x _=>some (.str x)
 | .bytes b _=>some (.yN b)
 | .float b _=>some (.GB b)
 | .ref a=>some (.ref a)
 | .type n=>some (.ty n)
 | _=>none
theorem RelV.abs{x:V}{u:Value}(r:RelV x u):Kx u=some x:=by
 cases x with
 | cF=>cases r;rfl
 | bl _=>cases r;rfl
 | int _=>obtain ⟨t,rfl⟩:=r;rfl
 | str _=>obtain ⟨t,rfl⟩:=r;rfl
 | yN _=>obtain ⟨t,rfl⟩:=r;rfl
 | GB _=>obtain ⟨t,rfl⟩:=r;rfl
 | ref _=>cases r;rfl
 | ty _=>cases r;rfl
theorem RelV.inj{x y:V}{u:Value}(r:RelV x u)(q:RelV y u):x=y:=RS (r.abs.symm.trans q.abs)
theorem Vals.inj:∀ {xs ys:List V} {us:List Value},Vals xs us->Vals ys us->xs=ys
 | _,_,_,.nil,.nil=>rfl
 | _,_,_,.cons r t,.cons r' t'=>by rw [r.inj r',Vals.inj t t']
section
variable {X:Cx}{pins:List (Addr×Obj)}{σ:St}{H:Hp}{s:Shared}{a:Addr}{xs ys:List V}
theorem b5.of{K:Frag}(h:H a=some (.lst xs)):b5 K H a xs:=.inl (.inl h)
theorem aT.of{K:Frag}(h:H a=some (.tup xs)):aT K H a xs:=.inl (.inl h)
theorem Inv.list(I:Inv X pins σ H s)(h:b5 X.K H a xs):∃ its:List Value,Vals xs its/\PlainL s.heap a its.toArray/\xs.length<=sizeLine:=by
 rcases h with h|⟨o,its,n,hk,hc,hd,hs,hz,r⟩
 ·obtain ⟨z,its,n,r,e⟩:=h.ok I.bz
  exact⟨its,r,⟨_,n,e,rfl,rfl,rfl⟩,z⟩
 ·refine⟨its.toList,r,⟨o,n,I.i9 a o hk,hc,hd,by simpa using hs⟩,?_⟩
  have e:=r.length
  simp only [Array.length_toList] at e
  lia
theorem Inv.tuple(I:Inv X pins σ H s)(h:aT X.K H a xs):∃ its:List Value,Vals xs its/\IsTup s.heap a its.toArray/\xs.length<=sizeLine:=by
 rcases h with h|⟨o,its,n,hk,hc,hs,hz,r⟩
 ·obtain ⟨z,its,r,p⟩:=h.ok I.bz
  exact⟨its,r,p,z⟩
 ·refine⟨its.toList,r,⟨o,I.i9 a o hk,hc,n,by simpa using hs⟩,?_⟩
  have e:=r.length
  simp only [Array.length_toList] at e
  lia
theorem Inv.qY(I:Inv X pins σ H s)(h:b5 X.K H a xs)(h':b5 X.K H a ys):xs=ys:=by
 obtain ⟨its,r,⟨o,n,e,_,_,d⟩,_⟩:=I.list h
 obtain ⟨its',r',⟨o',n',e',_,_,d'⟩,_⟩:=I.list h'
 rw [e] at e';cases e'
 rw [d] at d'
 injection d' with d1 _
 have:its=its':=by simpa using congrArg Array.toList d1
 subst this
 exact r.inj r'
theorem Inv.nD(I:Inv X pins σ H s)(h:aT X.K H a xs)(h':aT X.K H a ys):xs=ys:=by
 obtain ⟨its,r,⟨o,e,_,n,d⟩,_⟩:=I.tuple h
 obtain ⟨its',r',⟨o',e',_,n',d'⟩,_⟩:=I.tuple h'
 rw [e] at e';cases e'
 rw [d] at d'
 injection d' with d1 _
 have:its=its':=by simpa using congrArg Array.toList d1
 subst this
 exact r.inj r'
end
abbrev Cx.dr(X:Cx)(E:Value->Shared->Prop):Cx:={ X with xe:=E }
abbrev Cx.w6(X:Cx):Cx:=X.dr fun _ _=>False
theorem Cx.Ok.dr{X:Cx}(ok:X.Ok)(E:Value->Shared->Prop):(X.dr E).Ok :=
 ⟨ok.mod,ok.kind,ok.glob,ok.blt,ok.above,ok.inj,ok.has,ok.Be,ok.hd,ok.frames,ok.Bu,ok.DQ,ok.bs,ok.vO,ok.l9,ok.om,ok.fM,ok.yJ⟩
theorem Cx.Ok.bR{X:Cx}{E:Value->Shared->Prop}(ok:(X.dr E).Ok):X.Ok :=
 ⟨ok.mod,ok.kind,ok.glob,ok.blt,ok.above,ok.inj,ok.has,ok.Be,ok.hd,ok.frames,ok.Bu,ok.DQ,ok.bs,ok.vO,ok.l9,ok.om,ok.fM,ok.yJ⟩
section
variable {X:Cx}{pins:List (Addr×Obj)}{σ:St}{H:Hp}{s:Shared}{E:Value->Shared->Prop}
theorem Inv.dr(I:Inv X pins σ H s)(E:Value->Shared->Prop):Inv (X.dr E) pins σ H s:=⟨I.ok.dr E,I.os,I.bare,I.base,I.loc,I.cell,I.free,I.cK,I.pin,I.bz,I.len⟩
theorem Inv.bR(I:Inv (X.dr E) pins σ H s):Inv X pins σ H s:=⟨I.ok.bR,I.os,I.bare,I.base,I.loc,I.cell,I.free,I.cK,I.pin,I.bz,I.len⟩
theorem SP.bR{D:Ends}{f:Flow}{s':Shared}(h:SP (X.dr E) pins D f s'):SP X pins D f s':=by
 cases f with
 | next=>obtain ⟨σ',H',I,q⟩:=h;exact⟨σ',H',I.bR,q⟩
 | brk=>obtain ⟨σ',H',I,q⟩:=h;exact⟨σ',H',I.bR,q⟩
 | cont=>obtain ⟨σ',H',I,q⟩:=h;exact⟨σ',H',I.bR,q⟩
 | ret u=>obtain ⟨v,σ',H',I,r,q⟩:=h;exact⟨v,σ',H',I.bR,r,q⟩
theorem jZ.w6{st:List Stmt}{t:TS}(h:jZ X.w6 st t):jZ X st t:=fun pins s σ H D I hw =>
 RZ (h pins s σ H D (I.dr _) hw) (fun _ _ q=>q.bR) fun _ _ z=>False.elim z
end
section
variable {X:Cx}{st:Stmt}{rest:List Stmt}{t u:TS}{e:Expr}{te:TE}{pos:Pos}
def CU:TS:=fun D σ H=>D.nx σ H
def Hg(t u:TS):TS:=fun D σ H=>t { D with nx:=u D } σ H
theorem aF:jZ X [] CU:=fun _ _ σ H _ I h=>wpAny_execs_nil ⟨σ,H,I,h⟩
theorem af(h1:PS X st t)(h2:jZ X rest u):jZ X (st::rest) (Hg t u):=by
 intro pins s σ H D I h
 refine wpAny_execs_cons (cx (h1 pins s σ H { D with nx:=u D } I h) fun f s1 q=>?_)
 cases f with
 | next =>
  obtain ⟨σ',H',I',q⟩:=q
  exact h2 pins s1 σ' H' D I' q
 | ret v=>exact q
 | brk=>exact q
 | cont=>exact q
theorem ai(h1:PS X st t):jZ X [st] t:=by
 intro pins s σ H D I h
 refine wpAny_execs_cons (cx (h1 pins s σ H D I h) fun f s1 q=>?_)
 cases f with
 | next=>exact wpAny_execs_nil q
 | ret v=>exact q
 | brk=>exact q
 | cont=>exact q
theorem Inv.quiet{pins:List (Addr×Obj)}{σ:St}{H:Hp}{s:Shared}(I:Inv X pins σ H s):interactive X.env=false:=by simp [interactive,I.ok.kind]
def CV(te:TE):TS:=fun D σ H=>te σ H fun _ H1=>D.nx σ H1
theorem bX(he:PE X e te)(hs:swapsWith e none pos.line X.env=pure false:=by rfl):PS X (.Expr e pos) (CV te):=by
 intro pins s σ H D I h
 exact wpAny_Expr_any (cx (he pins s σ H _ I h) fun v s1 ⟨x,H1,I1,r1,q1⟩=>⟨σ,H1,I1,q1⟩) I.quiet hs
def Hh(te:TE):TS:=fun D σ H=>te σ H D.rt
theorem aA(he:PE X e te):PS X (.Return (some e) pos) (Hh te):=by
 intro pins s σ H D I h
 exact wpAny_Return_some (cx (he pins s σ H _ I h) fun v s1 ⟨x,H1,I1,r1,q1⟩=>⟨x,σ,H1,I1,r1,q1⟩)
def DS(c:TT)(t u:TS):TS:=fun D σ H=>c σ H fun b H1=>if b=true then t D σ H1 else u D σ H1
theorem aS{c:Expr}{a b:List Stmt}{tc:TT}(hc:PT X c tc)(ha:jZ X a t)(hb:jZ X b u):PS X (.If c a b pos) (DS tc t u):=by
 intro pins s σ H D I h
 refine wpAny_If (cx (hc pins s σ H _ I h) fun d s1 ⟨H1,I1,q1⟩=>?_)
 cases d with
 | true=>exact ha pins s1 σ H1 D I1 q1
 | false=>exact hb pins s1 σ H1 D I1 q1
end
abbrev TG:=V->St->Hp->(St->Hp->Prop)->Prop
abbrev CY:=List V->St->Hp->(St->Hp->Prop)->Prop
def PG(X:Cx)(target:Expr)(t:TG):Prop :=
 ∀ (pins:List (Addr×Obj)) (s:Shared) (σ:St) (H:Hp) (v:V) (u:Value) (Q:St->Hp->Prop),Inv X pins σ H s->RelV v u->t v σ H Q ->
  wpAny (model X.prog X.w) X.A (assign target X.env u) (fun _ s'=>∃ σ' H',Inv X pins σ' H' s'/\Q σ' H') X.xe s
def Hi(X:Cx)(ts:List Expr)(t:CY):Prop :=
 ∀ (pins:List (Addr×Obj)) (s:Shared) (σ:St) (H:Hp) (vs:List V) (us:List Value) (Q:St->Hp->Prop),Inv X pins σ H s->Vals vs us->t vs σ H Q ->
  wpAny (model X.prog X.w) X.A (assignInOrder ((assignEach ts X.env).map (·.2)) us) (fun _ s'=>∃ σ' H',Inv X pins σ' H' s'/\Q σ' H') X.xe s
section
variable {X:Cx}{pos:Pos}
def c7(i:Nat):TG:=fun v σ H Q=>Q (σ.set i (some v)) H
theorem bu{i:Nat}{x:Str}(hN:X.N.Nodup)(hi:X.N[i]?=some x)(hx:Loc X.env.scope x)(hf:X.fn x=true\/X.env.scope.names.lookup x=some .local:=by first|exact .inl rfl|exact .inr rfl|assumption):PG X (.Name x pos) (c7 i):=by
 intro pins s σ H v u Q I r h
 exact wpAny_assign_Name (fQ I hN hi hx r (fun s' I'=>⟨_,H,I',h⟩) hf)
def By:CY:=fun vs σ H Q=>vs=[]/\Q σ H
def ky(t:TG)(u:CY):CY:=fun vs σ H Q=>∃ v r,vs=v::r/\t v σ H fun σ' H'=>u r σ' H' Q
theorem ot:Hi X [] By:=by
 intro pins s σ H vs us Q I r h
 obtain ⟨e,h⟩:=h
 subst e
 cases r
 exact assignInOrder_nil ⟨σ,H,I,h⟩
theorem eJ{e:Expr}{es:List Expr}{t:TG}{u:CY}(h1:PG X e t)(h2:Hi X es u)
  (hs:(assignEach (e::es) X.env).map (·.2)=assign e X.env::(assignEach es X.env).map (·.2):=by rfl):Hi X (e::es) (ky t u):=by
 intro pins s σ H vs us Q I r h
 obtain ⟨v,vr,e1,h⟩:=h
 subst e1
 cases r with
 | cons r rr =>
  rw [hs]
  refine assignInOrder_cons (cx (h1 pins s σ H _ _ _ I r h) fun _ s1 ⟨σ1,H1,I1,q1⟩=>?_)
  exact h2 pins s1 σ1 H1 _ _ Q I1 rr q1
def yS(K:Frag)(n:Nat)(t:CY):TG:=fun v σ H Q=>∃ a xs,v=.ref a/\aT K H a xs/\xs.length=n/\t xs σ H Q
theorem DT{es:List Expr}{k:Nat}{t:CY}{n:Nat}(hc:X.calm=true)(h:Hi X es t)
  (hn:(assignEach es X.env).length=n:=by rfl) (fJ:(assignEach es X.env).findIdx? (·.1)=none:=by rfl):PG X (.Tuple es k pos) (yS X.K n t):=by
 intro pins s σ H v u Q I r hw
 obtain ⟨a,xs,e1,hq,hl,hw⟩:=hw
 subst e1
 cases r
 obtain ⟨its,rv,ht,hz⟩:=I.tuple hq
 refine assign_Tuple_tuple (I.ok.hd hc) ht (by simp [hn,<- hl,rv.length]) fJ fun h' hx=>?_
 have I1:Inv X pins σ H { s with heap:=h' }:=I.kept (t':=s.toks) fun b o e=>hx b o (Sn (RI e)) e
 exact h pins _ σ H xs _ Q I1 (by simpa using rv) hw
def Hj(te:TE)(g:TG):TS:=fun D σ H=>te σ H fun x H1=>g x σ H1 D.nx
theorem au{i:Nat}{x:Str}{e:Expr}{te:TE}{pos':Pos}(hN:X.N.Nodup)(hi:X.N[i]?=some x)(hx:Loc X.env.scope x)(he:PE X e te)(hs:swapsWith e (some (.Name x pos')) pos.line X.env=pure false:=by rfl)(hf:X.fn x=true\/X.env.scope.names.lookup x=some .local:=by first|exact .inl rfl|exact .inr rfl|assumption) :
  PS X (.Assign [.Name x pos'] e pos) (Hj te (c7 i)):=by
 intro pins s σ H D I h
 refine wpAny_Assign_Name (cx (he pins s σ H _ I h) fun v s1 ⟨y,H1,I1,r1,q1⟩=>?_) hs
 exact fQ I1 hN hi hx r1 (fun s2 I2=>⟨_,H1,I2,q1⟩) hf
def Hk(i j:Nat)(ta:TA):TS:=fun D σ H=>ta σ H fun vs H1=>∃ v w,vs=[v,w]/\D.nx ((σ.set i (some v)).set j (some w)) H1
theorem yT{i j:Nat}{x y:Str}{a b:Expr}{ta:TA}{px py pt:Pos}{kt k2 Ky}(hc:X.calm=true)(hN:X.N.Nodup)(hi:X.N[i]?=some x)(hj:X.N[j]?=some y)(Nf:i≠j)
  (hx:X.env.scope.names.lookup x=some .local) (hy:X.env.scope.names.lookup y=some .local) (ha:PA X [a,b] ta)
  (hw:swappedStores [.Tuple [.Name x px,.Name y py] kt pt] (.Tuple [a,b] k2 Ky) X.env=pure (some [x,y]))
  (hs:swapsWithSole [.Tuple [.Name x px,.Name y py] kt pt] (.Tuple [a,b] k2 Ky) pos.line X.env=pure false:=by rfl) :
  PS X (.Assign [.Tuple [.Name x px,.Name y py] kt pt] (.Tuple [a,b] k2 Ky) pos) (Hk i j ta):=by
 intro pins s σ H D I h
 rw [exec_Assign_arm]
 refine RF (wpAny_standAt ?_)
 rw [hs]
 refine RF (RY ?_)
 rw [if_neg (by decide)]
 refine RF (Tuple_ (cx (ha _ pins s σ H _ I h) fun us s1 ⟨vs,H1,I1,r1,q1⟩=>?_))
 obtain ⟨v,w,e1,q1⟩:=q1
 subst e1
 obtain ⟨u1,u2,rfl,rv,Hm⟩:∃ u1 u2,us=[u1,u2]/\RelV v u1/\RelV w u2:=by
  cases r1 with
  | cons p q =>
   cases q with
   | cons p' q' =>
    cases q'
    exact⟨_,_,rfl,p,p'⟩
 refine wpAny_newObj_type ?_ (by show 2<=sizeLine;decide)
 have I2:Inv X pins σ H1 { s1 with heap:=s1.heap.push { cls:=.type "tuple",data:=.seq [u1,u2].toArray } }:=I1.kept (t':=s1.toks) fun b o e=>RE _ e
 rw [hw]
 refine RF (RY ?_)
 show wpAny (model X.prog X.w) X.A (do rule "assign.swapped-stores"; let items <- unpackItems (.ref s1.heap.objs.size) 2 none;assignInOrder [fun v=>bindName X.env y v,fun v=>bindName X.env x v] items.reverse;pure Flow.next) _ _ _
 refine RF (wpAny_rule (RF (unpackItems_tuple (items:=#[u1,u2]) (I.ok.hd hc) (IsTup.new s1.heap _) fun h' OF=>?_)))
 have I3:=I2.kept (h':=h') (t':=s1.toks) fun b o e=>OF b o (Sn (RI e)) e
 show wpAny _ _ (assignInOrder [fun v=>bindName X.env y v,fun v=>bindName X.env x v] [u2,u1] >>= fun _=>pure Flow.next) _ _ _
 refine RF (assignInOrder_cons (wpAny_bindName (fQ I3 hN hj (.inl hy) Hm (fun s2 I4=>?_) (.inr hy))))
 refine assignInOrder_cons (wpAny_bindName (fQ I4 hN hi (.inl hx) rv (fun s3 I5=>assignInOrder_nil (RY ?_)) (.inr hx)))
 rw [List.set_comm _ _ (Ne.symm Nf)] at I5
 exact⟨_,H1,I5,q1⟩
end
section
variable {X:Cx}{pos:Pos}
def yU(c:TT)(tb:TS):TS:=fun D σ H=>∃ W:Nat->St->Hp->Prop,(∃ m,W m σ H)/\∀ m σ H,W m σ H ->
 c σ H fun b H1=>if b=true then ∃ N:St->Hp->Prop,(∀ σ' H',N σ' H'->∃ m',m'<m/\W m' σ' H')/\tb { D with nx:=N,ct:=N,bk:=D.nx } σ H1 else D.nx σ H1
theorem cy{c:Expr}{body:List Stmt}{tc:TT}{tb:TS}(hp:PassesOwn (model X.prog X.w) X.A X.env X.xe)(hc:PT X c tc)(hb:jZ X body tb):PS X (.While c body [] pos) (yU tc tb):=by
 intro pins s σ H D I h
 obtain ⟨W,⟨m0,w0⟩,turn⟩:=h
 refine wpAny_While (codeAny_whileLoop (fun n s'=>∃ σ' H',Inv X pins σ' H' s'/\W n σ' H') ?_ m0 ⟨σ,H,I,w0⟩)
 rintro n s1 ⟨σ1,H1,I1,w1⟩
 refine wpAny_passesOwn hp (cx (hc pins s1 σ1 H1 _ I1 (turn n σ1 H1 w1)) fun b s2 ⟨H2,I2,q2⟩=>?_)
 cases b with
 | true =>
  obtain ⟨N,hN,q2⟩:=q2
  rw [if_pos rfl]
  refine wpAny_passesOwn hp (cx (hb pins s2 σ1 H2 _ I2 q2) fun f s3 q3=>?_)
  cases f with
  | next =>
   obtain ⟨σ3,H3,I3,n3⟩:=q3
   obtain ⟨m',hm,w3⟩:=hN σ3 H3 n3
   exact⟨m',hm,σ3,H3,I3,w3⟩
  | cont =>
   obtain ⟨σ3,H3,I3,n3⟩:=q3
   obtain ⟨m',hm,w3⟩:=hN σ3 H3 n3
   exact⟨m',hm,σ3,H3,I3,w3⟩
  | brk=>exact q3
  | ret v=>exact q3
 | false =>
  rw [if_neg Bool.false_ne_true]
  exact wpAny_execs_nil ⟨σ1,H2,I2,q2⟩
end
structure It where
 go:Nat->Hp->Prop
 Bg:Nat->Hp->V->Hp->Prop
 stop:Nat->Hp->Prop
def md(X:Cx)(pins:List (Addr×Obj))(H:Hp)(b:Addr):Prop :=
 H b=none/\b≠X.env.locals/\b∉X.fs/\(b∈X.ex\/X.s₀.heap.objs.size<=b)/\(∀ x c,X.env.cells.lookup x=some c->c≠b)/\∀ p∈X.pn++pins,p.1≠b
theorem Inv.yV{X:Cx}{pins:List (Addr×Obj)}{σ:St}{H H':Hp}{s:Shared}{b:Addr}(I:Inv X pins σ H s)(hb:s.heap.objs.size<=b)(hn:H' b=none):md X pins H' b:=by
 refine⟨hn,Nat.ne_of_gt (Nat.lt_of_lt_of_le I.lt hb),I.Kt hb,.inr (RL I.sz hb),fun x c e z=>?_,fun p hp z=>?_⟩
 ·obtain ⟨v,q⟩:=I.cell x c e
  exact absurd (Nat.lt_of_lt_of_le q.lt (by rw [z];exact hb)) (Nat.lt_irrefl _)
 ·exact absurd (Nat.lt_of_lt_of_le (RI (I.pin p hp).1) (by rw [z];exact hb)) (Nat.lt_irrefl _)
structure Turn(P:Program)(w:World)(K:Frag)(tg:Expr)(J:It)(fp:List Addr)(it:Addr)(tn:Nat->Heap->Prop):Prop where
 mem:it∈fp
 obj:∀ i h,tn i h->∀ b∈fp,∃ o,h.get? b=some o/\∀ v,o.data≠.cell v
 keep:∀ i h h',tn i h->(∀ b∈fp,∀ o,h.get? b=some o->h'.get? b=some o)->tn i h'
 item:∀ (X:Cx),X.prog=P->X.w=w->X.K=K->X.calm=true->∀ (i:Nat) (pins:List (Addr×Obj)) (s:Shared) (σ:St) (H:Hp) (E:Value->Shared->Prop),Inv X pins σ H s->(∀ b∈fp,md X pins H b)->tn i s.heap->J.go i H ->
  wpAny (model P w) X.A (pyNext (.ref it)) (fun r s1=>∃ u,r=some u /\
   wpAny (model P w) X.A (letOwnedTupleGo tg (.ref it) u) (fun _ s2=>∃ x H',Inv X pins σ H' s2/\RelV x u/\J.Bg i H x H'/\tn (i+1) s2.heap/\∀ b∈fp,H' b=none) E s1) E s
 done:∀ (X:Cx),X.prog=P->X.w=w->X.K=K->X.calm=true->∀ (i:Nat) (pins:List (Addr×Obj)) (s:Shared) (σ:St) (H:Hp) (E:Value->Shared->Prop),Inv X pins σ H s->(∀ b∈fp,md X pins H b)->tn i s.heap->J.stop i H ->
  wpAny (model P w) X.A (pyNext (.ref it)) (fun r s1=>r=none/\Inv X pins σ H s1) E s
 self:∀ (A:Around) (i:Nat) (s:Shared) (Q:Value->Shared->Prop) (E:Value->Shared->Prop),tn i s.heap->Q (.ref it) s->wpAny (model P w) A (pyIter (.ref it)) Q E s
abbrev TI:=St->Hp->(It->Hp->Prop)->Prop
def Ng(X:Cx)(pins:List (Addr×Obj))(σ:St)(tg:Expr)(R:It->Hp->Prop)(Kz:Value)(s2:Shared):Prop :=
 ∃ (it:Addr) (fp:List Addr) (tn:Nat->Heap->Prop) (J:It) (H':Hp),Kz=.ref it/\Inv X pins σ H' s2/\Turn X.prog X.w X.K tg J fp it tn/\tn 0 s2.heap/\(∀ b∈fp,md X pins H' b)/\R J H'
def PI(X:Cx)(tg iter:Expr)(wi:TI):Prop :=
 ∀ (pins:List (Addr×Obj)) (s:Shared) (σ:St) (H:Hp) (R:It->Hp->Prop),Inv X pins σ H s->wi σ H R ->
  wpAny (model X.prog X.w) X.A (eval iter X.env) (fun v s1=>wpAny (model X.prog X.w) X.A (pyIter v) (Ng X pins σ tg R) X.xe s1) X.xe s
theorem qZ{M : Model}{A : Around}{E : Value -> Shared -> Prop}{s : Shared}{tg : Expr}{it : Addr}{u : Value}{o : Obj}{n : String}{vs : Array Value}{Q : Unit -> Shared -> Prop}(ho : s.heap.get? it=some o)(hc : o.cls=.type n)(hd : o.data=.fields vs)
    (hn : ["enumerate", "zip", "dict_itemiterator", "dict_reverseitemiterator", "odict_iterator", "itertools.zip_longest", "itertools.pairwise"].contains n=false) (hQ : Q () s) : wpAny M A (letOwnedTupleGo tg (.ref it) u) Q E s := by
  unfold letOwnedTupleGo
  cases tg <;> first
    | exact RY hQ
    | (cases u <;> first
        | exact RY hQ
        | (refine RF (wpAny_load ho ?_)
           rw [hc, hd]
           show wpAny M A (if (["enumerate", "zip", "dict_itemiterator", "dict_reverseitemiterator", "odict_iterator", "itertools.zip_longest", "itertools.pairwise"].contains n && vs[0]? == some (rawInt _))=true then _ else _) Q E s
           rw [if_neg (by intro h;rw [hn, Bool.false_and] at h;cases h)]
           exact RY hQ))
def GH(K:Frag)(a:Addr):It :=
 ⟨fun i H=>∃ xs x,b5 K H a xs/\xs[i]?=some x,fun i H x H'=>H'=H/\∀ xs,b5 K H a xs->xs[i]?=some x,fun i H=>∃ xs,b5 K H a xs/\xs.length<=i⟩
def DV(K:Frag)(a:Addr):It :=
 ⟨fun i H=>∃ xs x,aT K H a xs/\xs[i]?=some x,fun i H x H'=>H'=H/\∀ xs,aT K H a xs->xs[i]?=some x,fun i H=>∃ xs,aT K H a xs/\xs.length<=i⟩
def vP(lo:Int)(n:Nat):It:=⟨fun i _=>i<n,fun i H x H'=>H'=H/\x=.int (lo+i),fun i _=>n<=i⟩
theorem w8{P:Program}{w:World}{K:Frag}{tg:Expr}(a it:Addr):Turn P w K tg (GH K a) [it] it (fun i h=>h.IsListIter it a i) where
 mem:=by simp
 obj:=fun i h st b hb=>by
  have e:b=it:=by simpa using hb
  subst e
  obtain ⟨o,e,c,d⟩:=st
  exact⟨o,e,fun v z=>by rw [d] at z;cases z⟩
 keep:=fun i h h' st k=>st.at fun o e=>k it (by simp) o e
 item:=by
  intro X hP hw hK hc i pins s σ H E I hf st hg
  subst hP hw hK
  obtain ⟨xs,x,hq,hx⟩:=hg
  obtain ⟨its,rv,p,hz⟩:=I.list hq
  obtain ⟨u,hu,ru⟩:=rv.get hx
  obtain ⟨f0,f1,f2,f3,f4,f5⟩:=hf it (by simp)
  refine wpAny_pyNext_list_item st p.isList (x:=u) (by simpa using hu) fun h' vQ sb=>?_
  have I1:Inv X pins σ H { s with heap:=h' }:=I.turned (t':=s.toks) (fun b o hb e=>(sb.2 b hb).trans e) f0 f1 f3 f4 f5
  obtain ⟨o,e,c,d⟩:=id vQ
  exact⟨u,rfl,qZ (s:={ s with heap:=h' }) e c d (by decide) ⟨x,H,I1,ru,⟨rfl,fun ys hy=>by rw [I.qY hy hq];exact hx⟩,vQ,fun b hb=>(hf b hb).1⟩⟩
 done:=by
  intro X hP hw hK hc i pins s σ H E I hf st hg
  subst hP hw hK
  obtain ⟨xs,hq,hx⟩:=hg
  obtain ⟨its,rv,p,hz⟩:=I.list hq
  obtain ⟨f0,f1,f2,f3,f4,f5⟩:=hf it (by simp)
  have hl:=rv.length
  exact wpAny_pyNext_list_end (I.ok.hd hc) st p.isList (by simp;lia) fun h' eb=>⟨rfl,I.turned (t':=s.toks) (fun b o hb e=>eb b o hb e) f0 f1 f3 f4 f5⟩
 self:=fun _ _ _ _ _ st h=>wpAny_pyIter_listiter st h
theorem ue{P:Program}{w:World}{K:Frag}{tg:Expr}(a it:Addr):Turn P w K tg (DV K a) [it] it (fun i h=>h.IsTupleIter it a i) where
 mem:=by simp
 obj:=fun i h st b hb=>by
  have e:b=it:=by simpa using hb
  subst e
  obtain ⟨o,e,c,d⟩:=st
  exact⟨o,e,fun v z=>by rw [d] at z;cases z⟩
 keep:=fun i h h' st k=>st.at fun o e=>k it (by simp) o e
 item:=by
  intro X hP hw hK hc i pins s σ H E I hf st hg
  subst hP hw hK
  obtain ⟨xs,x,hq,hx⟩:=hg
  obtain ⟨its,rv,p,hz⟩:=I.tuple hq
  obtain ⟨u,hu,ru⟩:=rv.get hx
  obtain ⟨f0,f1,f2,f3,f4,f5⟩:=hf it (by simp)
  refine wpAny_pyNext_tuple_item st (show s.heap.IsTuple a its.toArray from p) (x:=u) (by simpa using hu) fun h' vQ sb=>?_
  have I1:Inv X pins σ H { s with heap:=h' }:=I.turned (t':=s.toks) (fun b o hb e=>(sb.2 b hb).trans e) f0 f1 f3 f4 f5
  obtain ⟨o,e,c,d⟩:=id vQ
  exact⟨u,rfl,qZ (s:={ s with heap:=h' }) e c d (by decide) ⟨x,H,I1,ru,⟨rfl,fun ys hy=>by rw [I.nD hy hq];exact hx⟩,vQ,fun b hb=>(hf b hb).1⟩⟩
 done:=by
  intro X hP hw hK hc i pins s σ H E I hf st hg
  subst hP hw hK
  obtain ⟨xs,hq,hx⟩:=hg
  obtain ⟨its,rv,p,hz⟩:=I.tuple hq
  obtain ⟨f0,f1,f2,f3,f4,f5⟩:=hf it (by simp)
  have hl:=rv.length
  exact wpAny_pyNext_tuple_end (I.ok.hd hc) st (show s.heap.IsTuple a its.toArray from p) (by simp;lia) fun h' eb=>⟨rfl,I.turned (t':=s.toks) (fun b o hb e=>eb b o hb e) f0 f1 f3 f4 f5⟩
 self:=fun _ _ _ _ _ st h=>wpAny_pyIter_tupleiter st h
theorem uf{P:Program}{w:World}{K:Frag}{tg:Expr}(it:Addr)(lo:Int)(n:Nat):Turn P w K tg (vP lo n) [it] it (fun i h=>IsRangeIter h it (lo+(i:Nat)*1) ((n:Int) - (i:Nat)) 1) where
 mem:=by simp
 obj:=fun i h st b hb=>by
  have e:b=it:=by simpa using hb
  subst e
  exact⟨_,st,fun v z=>by
   have z':Data.fields _=Data.cell v:=z
   cases z'⟩
 keep:=fun i h h' st k=>k it (by simp) _ st
 item:=by
  intro X hP hw hK hc i pins s σ H E I hf st hg
  subst hP hw hK
  obtain ⟨f0,f1,f2,f3,f4,f5⟩:=hf it (by simp)
  have W:=Walks.range (prog:=X.prog) (w:=X.w) (I.ok.hd hc) it lo 1 n
  refine W.item i s _ _ hg st fun v h' tk hv vQ kk=>?_
  obtain ⟨t,rfl⟩:=hv
  have I1:Inv X pins σ H { s with heap:=h',toks:=tk }:=I.turned (fun b o hb e=>kk b o (by simpa using hb) e) f0 f1 f3 f4 f5
  refine⟨_,rfl,qZ (s:={ s with heap:=h',toks:=tk }) (n:="range_iterator") vQ rfl rfl (by decide) ⟨.int (lo+i),H,I1,⟨t,?_⟩,⟨rfl,rfl⟩,vQ,fun b hb=>(hf b hb).1⟩⟩
  rw [mul_one]
 done:=by
  intro X hP hw hK hc i pins s σ H E I hf st hg
  subst hP hw hK
  obtain ⟨f0,f1,f2,f3,f4,f5⟩:=hf it (by simp)
  exact wpAny_pyNext_range_end (I.ok.hd hc) st (by have:n<=i:=hg;lia) fun h' eb=>⟨rfl,I.turned (t':=s.toks) (fun b o hb e=>eb b o hb e) f0 f1 f3 f4 f5⟩
 self:=fun _ _ _ _ _ st h=>wpAny_pyIter_rangeiter st h
section
variable {X:Cx}{tg:Expr}
def yW(K:Frag)(tl:TE):TI:=fun σ H R=>tl σ H fun x H1=>∃ a,x=.ref a/\(∃ xs,b5 K H1 a xs)/\R (GH K a) H1
def DW(K:Frag)(tl:TE):TI:=fun σ H R=>tl σ H fun x H1=>∃ a,x=.ref a/\(∃ xs,aT K H1 a xs)/\R (DV K a) H1
theorem Bz{l:Expr}{tl:TE}(hl:PE X l tl):PI X tg l (yW X.K tl):=by
 intro pins s σ H R I h
 refine cx (hl pins s σ H _ I h) fun v s1 ⟨x,H1,I1,r1,q1⟩=>?_
 obtain ⟨a,e,⟨xs,hq⟩,q⟩:=q1
 subst e
 cases r1
 obtain ⟨its,rv,p,hz⟩:=I1.list hq
 refine wpAny_pyIter_list p.isList ?_
 refine⟨s1.heap.objs.size,[s1.heap.objs.size],_,_,H1,rfl,I1.kept (t':=s1.toks) fun b o e=>RE _ e,w8 a _,⟨_,RJ _ rfl,rfl,rfl⟩,fun b hb=>?_,q⟩
 have e:b=s1.heap.objs.size:=by simpa using hb
 subst e
 exact I1.yV (RM _) (I1.bz.fresh (RM _))
theorem DX{l:Expr}{tl:TE}(hl:PE X l tl):PI X tg l (DW X.K tl):=by
 intro pins s σ H R I h
 refine cx (hl pins s σ H _ I h) fun v s1 ⟨x,H1,I1,r1,q1⟩=>?_
 obtain ⟨a,e,⟨xs,hq⟩,q⟩:=q1
 subst e
 cases r1
 obtain ⟨its,rv,p,hz⟩:=I1.tuple hq
 refine wpAny_pyIter_tuple (show s1.heap.IsTuple a its.toArray from p) ?_
 refine⟨s1.heap.objs.size,[s1.heap.objs.size],_,_,H1,rfl,I1.kept (t':=s1.toks) fun b o e=>RE _ e,ue a _,⟨_,RJ _ rfl,rfl,rfl⟩,fun b hb=>?_,q⟩
 have e:b=s1.heap.objs.size:=by simpa using hb
 subst e
 exact I1.yV (RM _) (I1.bz.fresh (RM _))
theorem q0{pins:List (Addr×Obj)}{σ:St}{H:Hp}{s:Shared}{R:It->Hp->Prop}{E:Value->Shared->Prop}{lo hi:Int}{t u v:Tok}{tk:Nat}(I:Inv X pins σ H s)(h1:-(2 ^ 62)<=lo)(h2:lo<2 ^ 62)(h3:-(2 ^ 62)<=hi)(h4:hi<2 ^ 62)
  (q:R (vP lo (hi - lo).toNat) H):wpAny (model X.prog X.w) X.A (pyIter (.ref s.heap.objs.size)) (Ng X pins σ tg R) E { s with heap:=s.heap.push { cls:=.type "range",data:=.fields #[.int lo t,.int hi u,.int 1 v] },toks:=tk }:=by
 refine wpAny_pyIter_range (IsRange.new ..) (small_one h1 h2 h3 h4) ?_
 have I1:Inv X pins σ H { s with heap:=s.heap.push { cls:=.type "range",data:=.fields #[.int lo t,.int hi u,.int 1 v] },toks:=tk }:=I.kept fun b o e=>RE _ e
 refine⟨(s.heap.push { cls:=.type "range",data:=.fields #[.int lo t,.int hi u,.int 1 v] }).objs.size,[(s.heap.push { cls:=.type "range",data:=.fields #[.int lo t,.int hi u,.int 1 v] }).objs.size],_,_,H,rfl,
  I1.kept (t':=tk) fun b o e=>RE _ e,uf _ lo (hi - lo).toNat,?_,fun b hb=>?_,q⟩
 ·have e1:lo+((0:Nat):Int)*1=lo:=by simp
  have e2:(((hi - lo).toNat:Nat):Int) - ((0:Nat):Int)=Builtin.Range.rangeSize lo hi 1:=by rw [rangeSize_one];split <;> lia
  show IsRangeIter _ _ (lo+((0:Nat):Int)*1) ((((hi - lo).toNat:Nat):Int) - ((0:Nat):Int)) 1
  rw [e1,e2]
  exact RJ _ rfl
 ·have e:b=(s.heap.push { cls:=.type "range",data:=.fields #[.int lo t,.int hi u,.int 1 v] }).objs.size:=by simpa using hb
  subst e
  exact I1.yV (RM _) (I1.bz.fresh (RM _))
def CZ(ta:TA):TI:=fun σ H R=>ta σ H fun vs H1=>∃ j:Int,vs=[.int j]/\-(2 ^ 62)<=j/\j<2 ^ 62/\R (vP 0 j.toNat) H1
def C1(ta:TA):TI:=fun σ H R=>ta σ H fun vs H1=>∃ i j:Int,vs=[.int i,.int j]/\(-(2 ^ 62)<=i/\i<2 ^ 62/\-(2 ^ 62)<=j/\j<2 ^ 62)/\R (vP i (j - i).toNat) H1
theorem je {a:Expr} {ta:TA} {p pos:Pos} (hg:Gl X "range") (hm:X.mg "range"=none) (ha:PA X [a] ta) (hs:starEach [a] X.env=[(false,eval a X.env)]:=by rfl):PI X tg (.Call (.Name "range" p) [a] [] pos) (CZ ta):=by
 intro pins s σ H R I h
 refine Call_ (jd I hg hm boot_range (callWith_type1 (cx (ha pos pins s σ H _ I h) fun us s1 ⟨vs,H1,I1,r1,q1⟩=>?_) hs rfl))
 obtain ⟨j,e,q1,q2,q⟩:=q1
 subst e
 cases r1 with
 | cons r rr =>
  cases rr
  obtain ⟨t,rfl⟩:=r
  exact call_range_1 (q0 I1 (by lia) (by lia) q1 q2 (by simpa using q))
theorem w9 {a b:Expr} {ta:TA} {p pos:Pos} (hg:Gl X "range") (hm:X.mg "range"=none) (ha:PA X [a,b] ta) (hs:starEach [a,b] X.env=[(false,eval a X.env),(false,eval b X.env)]:=by rfl) (gC:starEach [b] X.env=[(false,eval b X.env)]:=by rfl) :
  PI X tg (.Call (.Name "range" p) [a,b] [] pos) (C1 ta):=by
 intro pins s σ H R I h
 refine Call_ (jd I hg hm boot_range (callWith_type1 (cx (ha pos pins s σ H _ I h) fun us s1 ⟨vs,H1,I1,r1,q1⟩=>?_) (by rw [hs,gC]) (by rw [gC];rfl)))
 obtain ⟨i,j,e,⟨q1,q2,q3,q4⟩,q⟩:=q1
 subst e
 cases r1 with
 | cons r rr =>
  cases rr with
  | cons r' rr =>
   cases rr
   obtain ⟨t,rfl⟩:=r
   obtain ⟨t',rfl⟩:=r'
   exact call_range_2 (q0 I1 q1 q2 q3 q4 q)
def Ho(wi:TI)(g:TG)(tb:TS):TS:=fun D σ H=>wi σ H fun J H1=>∃ W:Nat->Nat->St->Hp->Prop,(∃ m,W 0 m σ H1)/\∀ i m σ H,W i m σ H ->
 (J.stop i H/\D.nx σ H)\/(J.go i H/\∃ N:St->Hp->Prop,(∀ σ' H',N σ' H'->∃ m',m'<m/\W (i+1) m' σ' H')/\∀ x H',J.Bg i H x H'->g x σ H' fun σ2 H2=>tb { D with nx:=N,ct:=N,bk:=D.nx } σ2 H2)
def kz(fp:List Addr)(h:Heap):List (Addr×Obj):=fp.filterMap fun b=>(h.get? b).map fun o=>(b,o)
theorem eU{fp:List Addr}{h:Heap}{b:Addr}{o:Obj}(hb:b∈fp)(e:h.get? b=some o):(b,o)∈kz fp h:=List.mem_filterMap.mpr ⟨b,hb,by rw [e];rfl⟩
theorem xa{fp:List Addr}{h:Heap}{p:Addr×Obj}(hp:p∈kz fp h):p.1∈fp/\h.get? p.1=some p.2:=by
 obtain ⟨b,hb,e⟩:=List.mem_filterMap.mp hp
 cases q:h.get? b with
 | none=>rw [q] at e;cases e
 | some o =>
  rw [q] at e
  have e':(b,o)=p:=RS e
  subst e'
  exact⟨hb,q⟩
theorem Inv.pinned{pins:List (Addr×Obj)}{σ:St}{H:Hp}{s:Shared}{fp:List Addr}(I:Inv X pins σ H s)(hf:∀ b∈fp,md X pins H b)(ho:∀ b∈fp,∃ o,s.heap.get? b=some o/\∀ v,o.data≠.cell v):Inv X (pins++kz fp s.heap) σ H s :=
 I.gA fun p hp=>(R7.mp hp).elim (fun z=>I.pin p (R4 _ z)) fun z=>by
  obtain ⟨hb,e⟩:=xa z
  obtain ⟨f0,f1,f2,_⟩:=hf p.1 hb
  obtain ⟨o,e',d⟩:=ho p.1 hb
  rw [e] at e';cases e'
  exact⟨e,f0,f1,f2,d⟩
theorem Inv.iH{pins pl:List (Addr×Obj)}{σ:St}{H:Hp}{s:Shared}(I:Inv X (pins++pl) σ H s):Inv X pins σ H s:=I.gA fun p hp=>I.pin p (R4 _ (R5 _ hp))
theorem gX{iter:Expr}{body:List Stmt}{wi:TI}{g:TG}{tb:TS}{pos:Pos}(hp:PassesOwn (model X.prog X.w) X.A X.env X.xe)(hc:X.calm=true)(hi:PI X tg iter wi)(hg:PG X tg g)(hb:jZ X body tb)
  (hs:∀ x,foldedSetIterable iter X.env x=pure x:=by intro _;rfl):PS X (.For tg iter body [] pos) (Ho wi g tb):=by
 intro pins s σ H D I h
 refine wpAny_For (cx (hi pins s σ H _ I h) fun v s1 h1=>cx h1 fun Kz s2 h2=>?_) hs
 obtain ⟨it,fp,tn,J,H2,e,I2,T,J2,f2,W,⟨m0,w0⟩,turn⟩:=h2
 subst e
 have DY:∀ {H':Hp},(∀ b∈fp,H' b=none)->∀ b∈fp,md X pins H' b:=fun hn b hb=>⟨hn b hb,(f2 b hb).2⟩
 refine codeAny_forLoop_any (fun n s'=>∃ i σ' H',Inv X pins σ' H' s'/\tn i s'.heap/\(∀ b∈fp,H' b=none)/\W i n σ' H') ?_ m0 ⟨0,σ,H2,I2,J2,fun b hb=>(f2 b hb).1,w0⟩
 rintro n s3 ⟨i,σ3,H3,I3,C2,Nh,w3⟩
 rcases turn i n σ3 H3 w3 with ⟨stop,qn⟩|⟨go,N,hN,step⟩
 ·refine wpAny_passesOwn hp (cx (T.done X rfl rfl rfl hc i pins s3 σ3 H3 X.xe I3 (DY Nh) C2 stop) fun r s4 ⟨hr,I4⟩=>?_)
  subst hr
  exact wpAny_execs_nil ⟨σ3,H3,I4,qn⟩
 ·refine wpAny_passesOwn hp (cx (T.item X rfl rfl rfl hc i pins s3 σ3 H3 X.xe I3 (DY Nh) C2 go) fun r s4 ⟨u,hr,h4⟩=>?_)
  subst hr
  refine wpAny_passesOwn hp (cx h4 fun _ s5 ⟨x,H5,I5,r5,y5,GI,J3⟩=>?_)
  have OG:=I5.pinned (DY J3) (T.obj _ _ GI)
  refine wpAny_passesOwn hp (cx (hg _ s5 σ3 H5 x u _ OG r5 (step x H5 y5)) fun _ s6 ⟨σ6,H6,I6,q6⟩=>?_)
  refine wpAny_passesOwn hp (cx (hb _ s6 σ6 H6 _ I6 q6) fun f s7 q7=>?_)
  have again:∀ {σ7:St} {H7:Hp},Inv X (pins++kz fp s5.heap) σ7 H7 s7->N σ7 H7->∃ m,m<n/\∃ i σ' H',Inv X pins σ' H' s7/\tn i s7.heap/\(∀ b∈fp,H' b=none)/\W i m σ' H':=fun {σ7 H7} I7 n7=>by
   obtain ⟨m',hm,w7⟩:=hN σ7 H7 n7
   refine⟨m',hm,i+1,σ7,H7,I7.iH,T.keep _ _ _ GI fun b hb o e=>(I7.pin (b,o) (R4 _ (R4 _ (eU hb e)))).1,fun b hb=>?_,w7⟩
   obtain ⟨o,e,d⟩:=T.obj _ _ GI b hb
   exact (I7.pin (b,o) (R4 _ (R4 _ (eU hb e)))).2.1
  cases f with
  | next=>obtain ⟨σ7,H7,I7,n7⟩:=q7;exact again I7 n7
  | cont=>obtain ⟨σ7,H7,I7,n7⟩:=q7;exact again I7 n7
  | brk=>obtain ⟨σ7,H7,I7,q7⟩:=q7;exact⟨σ7,H7,I7.iH,q7⟩
  | ret v=>obtain ⟨x7,σ7,H7,I7,r7,q7⟩:=q7;exact⟨x7,σ7,H7,I7.iH,r7,q7⟩
end
theorem xb{lo:Int}{n:Nat}{g:TG}{tb:TS}{D:Ends}{σ:St}{H:Hp}(Pv:Nat->St->Hp->Prop)(h0:Pv 0 σ H)
  (hs:∀ i σ H,i<n->Pv i σ H->g (.int (lo+i)) σ H fun σ2 H2=>tb { D with nx:=Pv (i+1),ct:=Pv (i+1),bk:=D.nx } σ2 H2) (hd:∀ σ H,Pv n σ H->D.nx σ H) :
  ∃ W:Nat->Nat->St->Hp->Prop,(∃ m,W 0 m σ H)/\∀ i m σ H,W i m σ H ->
   ((vP lo n).stop i H/\D.nx σ H)\/((vP lo n).go i H/\∃ N:St->Hp->Prop,(∀ σ' H',N σ' H'->∃ m',m'<m/\W (i+1) m' σ' H')/\∀ x H',(vP lo n).Bg i H x H'->g x σ H' fun σ2 H2=>tb { D with nx:=N,ct:=N,bk:=D.nx } σ2 H2):=by
 refine⟨fun i m σ H=>m=n - i/\i<=n/\Pv i σ H,⟨n,by simp,Sm _,h0⟩,?_⟩
 rintro i m σ H ⟨rfl,hi,p⟩
 by_cases eK:i<n
 ·refine .inr ⟨eK,Pv (i+1),fun σ' H' p'=>⟨n - (i+1),by lia,rfl,eK,p'⟩,fun x H' y=>?_⟩
  obtain ⟨e,y⟩:=y
  subst e y
  exact hs i σ _ eK p
 ·have e:i=n:=by lia
  subst e
  exact .inl ⟨RM _,hd σ H p⟩
abbrev R2:=V->V->Hp->VK->Prop
def gD(X:Cx)(f:Value->Value->Sem Value)(r:R2):Prop :=
 ∀ (pins:List (Addr×Obj)) (s:Shared) (σ:St) (H:Hp) (x y:V) (v u:Value) (Q:VK),Inv X pins σ H s->RelV x v->RelV y u->r x y H Q ->
  wpAny (model X.prog X.w) X.A (f v u) (EP X pins σ Q) X.xe s
def KA(X:Cx)(f:Value->Sem Value)(r:V->Hp->VK->Prop):Prop :=
 ∀ (pins:List (Addr×Obj)) (s:Shared) (σ:St) (H:Hp) (x:V) (v:Value) (Q:VK),Inv X pins σ H s->RelV x v->r x H Q ->
  wpAny (model X.prog X.w) X.A (f v) (EP X pins σ Q) X.xe s
def bQ(X:Cx)(f:Value)(r:List V->Hp->VK->Prop):Prop :=
 ∀ (pins:List (Addr×Obj)) (s:Shared) (σ:St) (H:Hp) (xs:List V) (us:List Value) (Q:VK),Inv X pins σ H s->Vals xs us->r xs H Q ->
  wpAny (model X.prog X.w) X.A (call f us) (EP X pins σ Q) X.xe s
def GJ(r:R2)(ta tb:TE):TE:=fun σ H Q=>ta σ H fun x H1=>tb σ H1 fun y H2=>r x y H2 Q
def Ni(r:V->Hp->VK->Prop)(ta:TE):TE:=fun σ H Q=>ta σ H fun x H1=>r x H1 Q
def rI(C:Int->Int->Prop)(g:Int->Int->V):R2:=fun x y H Q=>∃ i j,x=.int i/\y=.int j/\C i j/\Q (g i j) H
def Bh(g:Int->Int->V):R2:=fun x y H Q=>∃ i j,x=.int i/\y=.int j/\Q (g i j) H
def rU(g:Int->V):V->Hp->VK->Prop:=fun x H Q=>∃ i,x=.int i/\Q (g i) H
section
variable {X:Cx}{a b c:Expr}{ta tb tc:TE}{pos:Pos}
theorem DZ(ha:PE X a ta)(hb:PE X b tb){pins:List (Addr×Obj)}{s:Shared}{σ:St}{H:Hp}{R:V->V->Hp->Prop}(I:Inv X pins σ H s)
  (h:ta σ H fun x H1=>tb σ H1 fun y H2=>R x y H2) {Q:Value->Shared->Prop} {f:Value->Value->Sem Value}
  (hf:∀ v u s2 x y H2,Inv X pins σ H2 s2->RelV x v->RelV y u->R x y H2->wpAny (model X.prog X.w) X.A (f v u) Q X.xe s2) :
  wpAny (model X.prog X.w) X.A (eval a X.env) (fun v s₁=>wpAny (model X.prog X.w) X.A (eval b X.env) (fun u s₂=>wpAny (model X.prog X.w) X.A (f v u) Q X.xe s₂) X.xe s₁) X.xe s:=by
 refine cx (ha pins s σ H _ I h) fun v s1 ⟨x,H1,I1,r1,q1⟩=>?_
 refine cx (hb pins s1 σ H1 _ I1 q1) fun u s2 ⟨y,H2,I2,r2,q2⟩=>?_
 exact hf v u s2 x y H2 I2 r1 r2 q2
theorem aw{op:Operator}{r:R2}(ho:gD X (binaryOp op) r)(ha:PE X a ta)(hb:PE X b tb):PE X (.BinOp a op b pos) (GJ r ta tb):=by
 intro pins s σ H Q I h
 exact wpAny_BinOp (DZ ha hb I h fun v u s2 x y H2 I2 rx ry q=>ho pins s2 σ H2 x y v u Q I2 rx ry q)
theorem yX{op:UnaryOp}{r:V->Hp->VK->Prop}(ho:KA X (unaryOp op) r)(ha:PE X a ta):PE X (.UnaryOp op a pos) (Ni r ta):=by
 intro pins s σ H Q I h
 exact UnaryOp_ (cx (ha pins s σ H _ I h) fun v s1 ⟨x,H1,I1,r1,q1⟩=>ho pins s1 σ H1 x v Q I1 r1 q1)
theorem J4{f:Value->Value->Sem Value}{C:Int->Int->Prop}{g:Int->Int->Int}
  (rule:∀ (i j:Int) (t u:Tok) (s:Shared) (Q:Value->Shared->Prop) (E:Value->Shared->Prop),C i j->Q (.int (g i j) s.toks) { s with toks:=s.toks+1 }->wpAny (model X.prog X.w) X.A (f (.int i t) (.int j u)) Q E s) :
  gD X f (rI C fun i j=>.int (g i j)):=by
 intro pins s σ H x y v u Q I rx ry h
 obtain ⟨i,j,rfl,rfl,hc,q⟩:=h
 obtain ⟨t,rfl⟩:=rx
 obtain ⟨t',rfl⟩:=ry
 exact rule i j t t' s _ _ hc ⟨.int (g i j),H,I.tok _,⟨_,rfl⟩,q⟩
theorem Hr{f:Value->Value->Sem Value}{g:Int->Int->Int}
  (rule:∀ (i j:Int) (t u:Tok) (s:Shared) (Q:Value->Shared->Prop) (E:Value->Shared->Prop),Q (.int (g i j) s.toks) { s with toks:=s.toks+1 }->wpAny (model X.prog X.w) X.A (f (.int i t) (.int j u)) Q E s) :
  gD X f (Bh fun i j=>.int (g i j)):=by
 intro pins s σ H x y v u Q I rx ry h
 obtain ⟨i,j,rfl,rfl,q⟩:=h
 obtain ⟨t,rfl⟩:=rx
 obtain ⟨t',rfl⟩:=ry
 exact rule i j t t' s _ _ ⟨.int (g i j),H,I.tok _,⟨_,rfl⟩,q⟩
theorem BA{f:Value->Value->Sem Value}{g:Int->Int->Bool}
  (rule:∀ (i j:Int) (t u:Tok) (s:Shared) (Q:Value->Shared->Prop) (E:Value->Shared->Prop),Q (.bool (g i j)) s->wpAny (model X.prog X.w) X.A (f (.int i t) (.int j u)) Q E s) :
  gD X f (Bh fun i j=>.bl (g i j)):=by
 intro pins s σ H x y v u Q I rx ry h
 obtain ⟨i,j,rfl,rfl,q⟩:=h
 obtain ⟨t,rfl⟩:=rx
 obtain ⟨t',rfl⟩:=ry
 exact rule i j t t' s _ _ ⟨.bl (g i j),H,I,rfl,q⟩
def KC(i j:Int):Prop:=0<j/\j<1073741824
def D3(i j:Int):Prop:=(-(2 ^ 64)<i/\i<2 ^ 64)\/(-(2 ^ 64)<j/\j<2 ^ 64)
theorem D3.ok{i j:Int}(h:D3 i j):IntMulOk i j:=by
 rcases h with ⟨h1,h2⟩|⟨h1,h2⟩
 ·exact .of_left (intBits_le_64 h1 h2)
 ·exact .of_right (intBits_le_64 h1 h2)
theorem aY:gD X (binaryOp .Add) (Bh fun i j=>.int (i+j)):=Hr fun _ _ _ _ _ _ _ q=>add_int q
theorem gY:gD X (binaryOp .Sub) (Bh fun i j=>.int (i - j)):=Hr fun _ _ _ _ _ _ _ q=>sub_int q
theorem jf:gD X (binaryOp .Mult) (rI D3 fun i j=>.int (i*j)):=J4 fun _ _ _ _ _ _ _ hc q=>mul_int q hc.ok
theorem gE:gD X (binaryOp .FloorDiv) (rI KC fun i j=>.int (i / j)):=J4 fun i j _ _ _ _ _ hc q=>by
 have h1:(0:Int)<j:=hc.1
 have h2:j<1073741824:=hc.2
 exact floordiv_int (by lia) (by rw [R0 i (by lia)];exact q) (.inl (PyProof.noPylong_small (by lia)))
theorem bf:gD X (binaryOp .Mod) (rI (fun _ j=>0<j) fun i j=>.int (i % j)):=J4 fun i j _ _ _ _ _ hc q=>by
 have h1:(0:Int)<j:=hc
 exact mod_int' (by lia) (by rw [Int.fmod_eq_emod_of_nonneg i (by lia)];exact q)
theorem OH{f:Value->Sem Value}{g:Int->Int}
  (rule:∀ (i:Int) (t:Tok) (s:Shared) (Q:Value->Shared->Prop) (E:Value->Shared->Prop),Q (.int (g i) s.toks) { s with toks:=s.toks+1 }->wpAny (model X.prog X.w) X.A (f (.int i t)) Q E s) :
  KA X f (rU fun i=>.int (g i)):=by
 intro pins s σ H x v Q I rx h
 obtain ⟨i,rfl,q⟩:=h
 obtain ⟨t,rfl⟩:=rx
 exact rule i t s _ _ ⟨.int (g i),H,I.tok _,⟨_,rfl⟩,q⟩
theorem ug:KA X (unaryOp .USub) (rU fun i=>.int (-i)):=OH fun _ _ _ _ _ q=>neg_int q
end
def Hs:V->V->Bool
 | .cF,.cF=>true|.cF,.int _=>true|.int _,.cF=>true|.cF,.bl _=>true|.bl _,.cF=>true|.cF,.str _=>true|.str _,.cF=>true
 | .int _,.int _=>true|.bl _,.bl _=>true|.str _,.str _=>true|.yN _,.yN _=>true
 | .int _,.str _=>true|.str _,.int _=>true|.bl _,.str _=>true|.str _,.bl _=>true
 | _,_=>false
def KD:R2:=fun x y H Q=>Hs x y=true/\Q (.bl (decide (x=y))) H
def KG:R2:=fun x y H Q=>Hs x y=true/\Q (.bl (!decide (x=y))) H
theorem vR{i j:Int}:decide (V.int i=V.int j)=(i == j):=by
 rw [Bool.eq_iff_iff]
 simp
theorem yY{i j:Bool}:decide (V.bl i=V.bl j)=(i == j):=by
 rw [Bool.eq_iff_iff]
 simp
theorem vS{i j:Str}:decide (V.str i=V.str j)=(i == j):=by
 rw [Bool.eq_iff_iff]
 simp
theorem vT{i j:Array UInt8}:decide (V.yN i=V.yN j)=(i.toList == j.toList):=by
 rw [Bool.eq_iff_iff]
 cases i
 cases j
 simp
section
variable {X:Cx}{a b c:Expr}{ta tb tc:TE}{pos:Pos}
theorem aQ{pins:List (Addr×Obj)}{σ:St}{H:Hp}{s:Shared}{Q:VK}{k k':Bool}(I:Inv X pins σ H s)(q:Q (.bl k) H)(e:k=k'):EP X pins σ Q (.bool k') s:=by
 subst e
 exact⟨.bl k,H,I,rfl,q⟩
theorem cv:gD X (compareOp .Eq) KD:=by
 intro pins s σ H x y v u Q I rx ry h
 obtain ⟨hs,q⟩:=h
 cases x with
 | cF =>
  cases rx
  cases y with
  | cF=>cases ry;exact PySem.EqNone.eq_none_none (aQ I q (by simp))
  | bl j=>cases ry;exact PySem.EqNone.eq_none_bool (aQ I q (by simp))
  | int j=>obtain ⟨t',rfl⟩:=ry;exact PySem.EqNone.eq_none_int (aQ I q (by simp))
  | str j=>obtain ⟨t',rfl⟩:=ry;exact PySem.EqNone.eq_none_str (aQ I q (by simp))
  | _=>exact absurd (show false=true from hs) Bool.false_ne_true
 | bl i =>
  cases rx
  cases y with
  | cF=>cases ry;exact PySem.EqNone.eq_bool_none (aQ I q (by simp))
  | bl j=>cases ry;exact eq_bool (aQ I q yY)
  | str j=>obtain ⟨t',rfl⟩:=ry;exact PySem.EqMixed.eq_bool_str (aQ I q (by simp))
  | _=>exact absurd (show false=true from hs) Bool.false_ne_true
 | int i =>
  obtain ⟨t,rfl⟩:=rx
  cases y with
  | cF=>cases ry;exact PySem.EqNone.eq_int_none (aQ I q (by simp))
  | int j=>obtain ⟨t',rfl⟩:=ry;exact eq_int (aQ I q vR)
  | str j=>obtain ⟨t',rfl⟩:=ry;exact PySem.EqMixed.eq_int_str (aQ I q (by simp))
  | _=>exact absurd (show false=true from hs) Bool.false_ne_true
 | str i =>
  obtain ⟨t,rfl⟩:=rx
  cases y with
  | cF=>cases ry;exact PySem.EqNone.eq_str_none (aQ I q (by simp))
  | bl j=>cases ry;exact PySem.EqMixed.eq_str_bool (aQ I q (by simp))
  | int j=>obtain ⟨t',rfl⟩:=ry;exact PySem.EqMixed.eq_str_int (aQ I q (by simp))
  | str j=>obtain ⟨t',rfl⟩:=ry;exact eq_str (aQ I q vS)
  | _=>exact absurd (show false=true from hs) Bool.false_ne_true
 | yN i =>
  obtain ⟨t,rfl⟩:=rx
  cases y with
  | yN j=>obtain ⟨t',rfl⟩:=ry;exact PySem.W.eq_bytes (aQ I q vT)
  | _=>exact absurd (show false=true from hs) Bool.false_ne_true
 | _=>cases y <;> exact absurd (show false=true from hs) Bool.false_ne_true
theorem eL:gD X (compareOp .NotEq) KG:=by
 intro pins s σ H x y v u Q I rx ry h
 obtain ⟨hs,q⟩:=h
 cases x with
 | cF =>
  cases rx
  cases y with
  | cF=>cases ry;exact PySem.EqNone.ne_none_none (aQ I q (by simp))
  | bl j=>cases ry;exact PySem.EqNone.ne_none_bool (aQ I q (by simp))
  | int j=>obtain ⟨t',rfl⟩:=ry;exact PySem.EqNone.ne_none_int (aQ I q (by simp))
  | str j=>obtain ⟨t',rfl⟩:=ry;exact PySem.EqNone.ne_none_str (aQ I q (by simp))
  | _=>exact absurd (show false=true from hs) Bool.false_ne_true
 | bl i =>
  cases rx
  cases y with
  | cF=>cases ry;exact PySem.EqNone.ne_bool_none (aQ I q (by simp))
  | bl j=>cases ry;exact ne_bool (aQ I q (congrArg not yY))
  | str j=>obtain ⟨t',rfl⟩:=ry;exact PySem.EqMixed.ne_bool_str (aQ I q (by simp))
  | _=>exact absurd (show false=true from hs) Bool.false_ne_true
 | int i =>
  obtain ⟨t,rfl⟩:=rx
  cases y with
  | cF=>cases ry;exact PySem.EqNone.ne_int_none (aQ I q (by simp))
  | int j=>obtain ⟨t',rfl⟩:=ry;exact ne_int (aQ I q (congrArg not vR))
  | str j=>obtain ⟨t',rfl⟩:=ry;exact PySem.EqMixed.ne_int_str (aQ I q (by simp))
  | _=>exact absurd (show false=true from hs) Bool.false_ne_true
 | str i =>
  obtain ⟨t,rfl⟩:=rx
  cases y with
  | cF=>cases ry;exact PySem.EqNone.ne_str_none (aQ I q (by simp))
  | bl j=>cases ry;exact PySem.EqMixed.ne_str_bool (aQ I q (by simp))
  | int j=>obtain ⟨t',rfl⟩:=ry;exact PySem.EqMixed.ne_str_int (aQ I q (by simp))
  | str j=>obtain ⟨t',rfl⟩:=ry;exact ne_str (aQ I q (congrArg not vS))
  | _=>exact absurd (show false=true from hs) Bool.false_ne_true
 | yN i =>
  obtain ⟨t,rfl⟩:=rx
  cases y with
  | yN j=>obtain ⟨t',rfl⟩:=ry;exact PySem.W.ne_bytes (aQ I q (congrArg not vT))
  | _=>exact absurd (show false=true from hs) Bool.false_ne_true
 | _=>cases y <;> exact absurd (show false=true from hs) Bool.false_ne_true
theorem iI:gD X (compareOp .Lt) (Bh fun i j=>.bl (decide (i<j))):=BA fun _ _ _ _ _ _ _ q=>lt_int q
theorem kA:gD X (compareOp .LtE) (Bh fun i j=>.bl (decide (i<=j))):=BA fun _ _ _ _ _ _ _ q=>le_int q
theorem kB:gD X (compareOp .Gt) (Bh fun i j=>.bl (decide (j<i))):=BA fun _ _ _ _ _ _ _ q=>gt_int q
theorem Hu:gD X (compareOp .GtE) (Bh fun i j=>.bl (decide (j<=i))):=BA fun _ _ _ _ _ _ _ q=>ge_int q
theorem xc:gD X (compareOp .In) (fun x y H Q=>∃ i j,x=.str i/\y=.str j/\Q (.bl (!(Builtin.Str.occurrences j i 0 j.length 1).isEmpty)) H):=by
 intro pins s σ H x y v u Q I rx ry h
 obtain ⟨i,j,rfl,rfl,q⟩:=h
 obtain ⟨t,rfl⟩:=rx
 obtain ⟨t',rfl⟩:=ry
 exact in_str (aQ I q rfl)
theorem ou:gD X (compareOp .Is) (fun x y H Q=>y=.cF/\Q (.bl (decide (x=.cF))) H):=by
 intro pins s σ H x y v u Q I rx ry h
 obtain ⟨rfl,q⟩:=h
 cases ry
 refine is_none_gen (aQ I q ?_)
 cases x <;> first
  | (cases rx;rfl)
  | (obtain ⟨t,rfl⟩:=rx;rfl)
theorem az(b:Expr){op:CmpOp}(h:op≠.In:=by decide)(h2:op≠.NotIn:=by decide):behindInMarks op b=false:=by
 have e1:(op == CmpOp.In)=false:=by cases op <;> first|rfl|exact absurd rfl h
 have e2:(op == CmpOp.NotIn)=false:=by cases op <;> first|rfl|exact absurd rfl h2
 cases b <;> simp [behindInMarks,e1,e2]
theorem gF{op:CmpOp}{r:R2}(ho:gD X (compareOp op) r)(ha:PE X a ta)(hb:PE X b tb)(hm:behindInMarks op b=false):PE X (.Compare a [op] [b] pos) (GJ r ta tb):=by
 intro pins s σ H Q I h
 exact wpAny_Compare1 (DZ ha hb I h fun v u s2 x y H2 I2 rx ry q=>ho pins s2 σ H2 x y v u Q I2 rx ry q) hm
def yZ(t:TE):TT:=fun σ H Q=>t σ H fun x H'=>∃ k,x=.bl k/\Q k H'
theorem ax{op:CmpOp}{r:R2}(ho:gD X (compareOp op) r)(ha:PE X a ta)(hb:PE X b tb)(hm:behindInMarks op b=false):PT X (.Compare a [op] [b] pos) (yZ (GJ r ta tb)):=by
 intro pins s σ H Q I h
 refine wpAny_isTrue_Compare1 (cx (ha pins s σ H _ I h) fun v s1 ⟨x,H1,I1,r1,q1⟩=>cx (hb pins s1 σ H1 _ I1 q1) fun u s2 ⟨y,H2,I2,r2,q2⟩ =>
  cx (ho pins s2 σ H2 x y v u _ I2 r1 r2 q2) fun c s3 ⟨z,H3,I3,r3,k,e,q3⟩=>?_) hm
 subst e
 cases r3
 exact wpAny_truthy_bool ⟨H3,I3,q3⟩
def y4(r r':R2)(ta tb tc:TE):TE:=fun σ H Q=>ta σ H fun x H1=>tb σ H1 fun y H2=>r x y H2 fun z H3=>∃ k,z=.bl k /\
 (if k=true then tc σ H3 fun w' H4=>r' y w' H4 Q else Q (.bl false) H3)
theorem y6{op KH:CmpOp}{r r':R2}(ho:gD X (compareOp op) r)(Bv:gD X (compareOp KH) r')(ha:PE X a ta)(hb:PE X b tb)(hc:PE X c tc)
  (hm:lastMarks [op,KH] [b,c]=false:=by with_unfolding_all rfl):PT X (.Compare a [op,KH] [b,c] pos) (yZ (y4 r r' ta tb tc)):=by
 intro pins s σ H Q I h
 refine isTrue_chain (cx (ha pins s σ H _ I h) fun v s1 ⟨x,H1,I1,r1,q1⟩=>test_link (cx (hb pins s1 σ H1 _ I1 q1) fun u s2 ⟨y,H2,I2,r2,q2⟩ =>
  cx (ho pins s2 σ H2 x y v u _ I2 r1 r2 q2) fun d s3 ⟨z,H3,I3,r3,k,e,q3⟩=>?_)) hm
 subst e
 cases r3
 refine wpAny_truthy_bool ?_
 cases k with
 | false =>
  obtain ⟨k',e',q'⟩:=q3
  cases e'
  exact ite_ff ⟨H3,I3,q'⟩
 | true =>
  refine ite_tt (test_last (cx (hc pins s3 σ H3 _ I3 q3) fun w' s4 ⟨z',H4,I4,r4,q4⟩=>cx (Bv pins s4 σ H4 y z' u w' _ I4 r2 r4 q4) fun d' s5 ⟨z2,H5,I5,r5,k2,e2,q5⟩=>?_))
  subst e2
  cases r5
  exact wpAny_truthy_bool ⟨H5,I5,q5⟩
theorem kC:(sizeLine:Nat)<2 ^ 63:=by rw [sizeLine_eq];decide
theorem uh:gD X (binaryOp .Add) (fun x y H Q=>∃ i j,x=.str i/\y=.str j/\i.length+j.length<=sizeLine/\Q (.str (i++j)) H):=by
 intro pins s σ H x y v u Q I rx ry h
 obtain ⟨i,j,rfl,rfl,hz,q⟩:=h
 obtain ⟨t,rfl⟩:=rx
 obtain ⟨t',rfl⟩:=ry
 exact add_str (fun t' tk=>⟨.str (i++j),H,I.tok _,⟨_,rfl⟩,q⟩) hz
theorem vals1{x:V}{us:List Value}(r:Vals [x] us):∃ u,us=[u]/\RelV x u:=by
 cases r with
 | cons r1 r2=>cases r2;exact⟨_,rfl,r1⟩
theorem vals2{x y:V}{us:List Value}(r:Vals [x,y] us):∃ u w',us=[u,w']/\RelV x u/\RelV y w':=by
 cases r with
 | cons r1 r2 =>
  cases r2 with
  | cons r3 r4=>cases r4;exact⟨_,_,rfl,r1,r3⟩
theorem y8:bQ X (.builtin "abs") (fun xs H Q=>∃ i,xs=[.int i]/\Q (.int (if i<0 then -i else i)) H):=by
 intro pins s σ H xs us Q I r h
 obtain ⟨i,rfl,q⟩:=h
 obtain ⟨u,rfl,t,rfl⟩:=vals1 r
 exact call_abs_int fun u tk=>⟨.int (if i<0 then -i else i),H,I.tok _,⟨_,rfl⟩,q⟩
theorem xf (hc:X.calm=true):bQ X (.builtin "max") (fun xs H Q=>∃ i j,xs=[.int i,.int j]/\Q (.int (if j > i then j else i)) H):=by
 intro pins s σ H xs us Q I r h
 obtain ⟨i,j,rfl,q⟩:=h
 obtain ⟨u,w',rfl,⟨t,rfl⟩,⟨t',rfl⟩⟩:=vals2 r
 refine max_two_ints (I.ok.hd hc) fun h' tk k=>⟨_,H,I.kept k,?_,q⟩
 by_cases hj:j > i
 ·rw [if_pos hj,if_pos hj];exact⟨_,rfl⟩
 ·rw [if_neg hj,if_neg hj];exact⟨_,rfl⟩
theorem ov:bQ X (.type "str") (fun xs H Q=>∃ i,xs=[.int i]/\i.natAbs.log2<1920/\Q (.str (toString i)) H):=by
 intro pins s σ H xs us Q I r h
 obtain ⟨i,rfl,hz,q⟩:=h
 obtain ⟨u,rfl,t,rfl⟩:=vals1 r
 exact PySem.P.str_of_int hz ⟨.str _,H,I.tok _,⟨_,rfl⟩,q⟩
end
structure D4(h:Heap)(x dx C:Addr)(mA:Str->Option Value):Prop where
 obj:h.get? x=some (instObj C dx)
 ns:h.Ns1 dx mA
 ne:dx≠x
theorem xg{h:Heap}{dx:Addr}{mA:Str->Option Value}(n:h.Ns1 dx mA):∃ od,h.get? dx=some od/\∀ name,lookIn name od=some (mA name):=by
 obtain ⟨o,es,ep,ho,hd,hk,_,hm⟩:=n
 refine⟨o,ho,fun name=>?_⟩
 have e:=hm name
 unfold nsFind findBy at e
 rw [<- Array.find?_toList] at e
 unfold lookIn
 rw [hd]
 dsimp only
 split
 ·rename_i y q
  rw [q] at e
  exact congrArg some e
 ·rename_i q
  rw [q] at e
  have a:es.toList.any (·.refKey)=false:=by
   rw [List.any_eq_false]
   intro y hy
   obtain ⟨z,t,KI⟩:=hk y (Array.mem_toList_iff.mp hy)
   simp [DictEntry.refKey,KI]
  have a':¬ es.toList.any (·.refKey)=true:=by rw [a];exact Bool.false_ne_true
  rw [if_neg a']
  exact congrArg some e
theorem D4.look{h:Heap}{x dx C:Addr}{mA:Str->Option Value}(I:D4 h x dx C mA):∃ od,PySem.W.InstAt h x (instObj C dx) C (some od)/\∀ name,lookIn name od=some (mA name) :=
 let ⟨od,ho,hl⟩:=xg I.ns
 ⟨od,⟨I.obj,rfl,rfl,ho⟩,hl⟩
section
variable {P:Program}{w:World}{H H':Hp}{h h':Heap}{a C dx:Addr}{fs GF:List (Str×V)}
theorem BB(bz:dO P w H h)(e:H a=some (.ins C dx fs)):∃ mA,D4 h a dx C mA/\(∀ f,DP (fs.lookup f) (mA f))/\PySem.Within mA (fs.map (·.1))/\fs.length<=1000/\H dx=some (.own a):=by
 obtain ⟨d,z,ne,ob,mA,n,r,q⟩:=(show b6 P w H h a (.ins C dx fs) from bz a _ e)
 exact⟨mA,⟨ob,n,ne⟩,r,q,z,d⟩
end
structure KJ(K:Frag)(C:Addr):Prop where
 pg:plainGet K C Str.empty=true
 hd:PySem.W.hasDictIn K C=true
 po:PySem.W.plainOver K C=true
 sa:findIn K (.ref C) "__setattr__"=some (some (.builtin "object.__setattr__"))
theorem KJ.get{K:Frag}{C:Addr}(c:KJ K C)(f:Str):plainGet K C f=true:=c.pg
section
variable {X:Cx}{pins:List (Addr×Obj)}{σ:St}{H:Hp}{s:Shared}{A:Around}{E:Value->Shared->Prop}{Q:Value->Shared->Prop}{c:Value}{b:Bool}
inductive jg(K:Frag)(H:Hp):V->Value->Prop where
 | cF:jg K H .cF (.type "NoneType")
 | bl (x:Bool):jg K H (.bl x) (.type "bool")
 | int (i:Int):jg K H (.int i) (.type "int")
 | str (x:Str):jg K H (.str x) (.type "str")
 | GB (x:UInt64):jg K H (.GB x) (.type "float")
 | lst {a:Addr} {xs:List V} (e:H a=some (.lst xs)):jg K H (.ref a) (.type "list")
 | qV {a:Addr} {o:Obj} {xs:List V} (e:H a=some (.qV o (.lst xs))):jg K H (.ref a) (.type "list")
 | tup {a:Addr} {xs:List V} (e:H a=some (.tup xs)):jg K H (.ref a) (.type "tuple")
 | dK {a:Addr} {jb:List (Key×V)} (e:H a=some (.dK jb)):jg K H (.ref a) (.type "dict")
 | dT {a:Addr} {jb:List (List Key×V)} (e:H a=some (.dT jb)):jg K H (.ref a) (.type "dict")
 | ins {a C dx:Addr} {fs:List (Str×V)} (e:H a=some (.ins C dx fs)) (cl:KJ K C) (ha:findIn K (.ref C) "__class__"=some (some (.builtin "object.__class__")))
   (hn:specialIn K (.builtin "object.__class__") "__get__"=some (some (.builtin "getset_descriptor.__get__"))) (Nj:takesIn K (.builtin "object.__class__")=some true)
   (hm:mroIn K C (.type "object")=some true):jg K H (.ref a) (.ref C)
theorem xh{x:V}{u t:Value}(I:Inv X pins σ H s)(rx:RelV x u)(ty:jg X.K H x t)(e:PySem.W.kitOne X.K t c=some b)(h:∀ tk,Q (.bool b) { s with toks:=tk }) :
  wpAny (model X.prog X.w) A (call (.builtin "isinstance") [u,c]) Q E s:=by
 cases ty with
 | cF=>cases (show u=Value.none from rx);exact PySem.W.kia_one PySem.W.kitx_none I.i9 True.intro e (fun z=>nomatch z) h
 | bl y=>cases (show u=Value.bool y from rx);exact PySem.W.kia_one PySem.W.kitx_bool I.i9 True.intro e (fun z=>nomatch z) h
 | int i=>obtain ⟨t,q⟩:=(show ∃ t,u=Value.int i t from rx);cases q;exact PySem.W.kia_one PySem.W.kitx_int I.i9 True.intro e (fun z=>nomatch z) h
 | str y=>obtain ⟨t,q⟩:=(show ∃ t,u=Value.str y t from rx);cases q;exact PySem.W.kia_one PySem.W.kitx_str I.i9 True.intro e (fun z=>nomatch z) h
 | GB y=>obtain ⟨t,q⟩:=(show ∃ t,u=Value.float y t from rx);cases q;exact PySem.W.kia_one PySem.W.kitx_float I.i9 True.intro e (fun z=>nomatch z) h
 | @lst a xs ea =>
  cases (show u=Value.ref a from rx)
  obtain ⟨_,_,n,_,h1⟩:=(show b6 X.prog X.w H s.heap a (.lst xs) from I.bz a _ ea)
  exact PySem.W.kia_one kitx_list I.i9 ⟨_,h1,rfl⟩ e (fun z=>nomatch z) h
 | @qV a ob xs ea =>
  cases (show u=Value.ref a from rx)
  obtain ⟨_,_,_,n,_,h1⟩:=(show b6 X.prog X.w H s.heap a (.qV ob (.lst xs)) from I.bz a _ ea)
  exact PySem.W.kia_one kitx_list I.i9 ⟨_,h1,rfl⟩ e (fun z=>nomatch z) h
 | @tup a xs ea =>
  cases (show u=Value.ref a from rx)
  obtain ⟨_,_,_,p⟩:=(show b6 X.prog X.w H s.heap a (.tup xs) from I.bz a _ ea)
  obtain ⟨o,h1,h2,_⟩:=p
  exact PySem.W.kia_one kitx_tuple I.i9 ⟨o,h1,h2⟩ e (fun z=>nomatch z) h
 | @dK a jb ea =>
  cases (show u=Value.ref a from rx)
  obtain ⟨_,_,vs,_,p⟩:=(show b6 X.prog X.w H s.heap a (.dK jb) from I.bz a _ ea)
  obtain ⟨o,es,ep,h1,h2,_⟩:=p
  exact PySem.W.kia_one kitx_dict I.i9 ⟨o,h1,h2.1⟩ e (fun z=>nomatch z) h
 | @dT a jb ea =>
  cases (show u=Value.ref a from rx)
  obtain ⟨_,_,xs,_,o,es,ep,h1,h2,_⟩:=(show b6 X.prog X.w H s.heap a (.dT jb) from I.bz a _ ea)
  exact PySem.W.kia_one kitx_dict I.i9 ⟨o,h1,h2.1⟩ e (fun z=>nomatch z) h
 | @ins a C dx fs ea cl ha hn Nj hm =>
  cases (show u=Value.ref a from rx)
  obtain ⟨mA,O,_⟩:=BB I.bz ea
  obtain ⟨od,J,_⟩:=O.look
  exact PySem.W.kia_one (PySem.W.kitx_own (cl.get _) cl.hd ha hn Nj hm) I.i9 J e (fun z=>nomatch z) h
end
structure cO(k:Nat)(A:Around):Prop where
 hd:A.handled=none
 dp:A.depth+3*k+5<recursionLimit
 un:A.units+16*k+200<cLine
theorem cO.mono{j k:Nat}{A:Around}(r:cO k A)(h:j<=k):cO j A:=⟨r.hd,by have:=r.dp;lia,by have:=r.un;lia⟩
theorem cO.deeper{k:Nat}{A:Around}(r:cO (k+1) A)(env:Env):cO k (A.deeper env) :=
 ⟨r.hd,by have:=r.dp;show A.depth+1+3*k+5<_;lia,by have:=r.un;show A.units+3+16*k+200<_;lia⟩
theorem cO.depth{k:Nat}{A:Around}(r:cO k A):A.depth<recursionLimit:=by have:=r.dp;lia
theorem cO.units{k:Nat}{A:Around}(r:cO k A):A.units+64<cLine:=by have:=r.un;lia
def D5:TA:=fun _ H Q=>Q [] H
def y9(ta:TE)(tr:TA):TA:=fun σ H Q=>ta σ H fun x H1=>tr σ H1 fun xs H2=>Q (x::xs) H2
section
variable {X:Cx}{e:Expr}{es:List Expr}{te:TE}{t:TA}{pos:Pos}
theorem ag:PA X [] D5:=fun _ _ _ _ H Q I h=>Calls.spliced_nil ⟨[],H,I,.nil,h⟩
theorem aa(ha:PE X e te)(hr:PA X es t)(hs:starEach (e::es) X.env=(false,eval e X.env)::starEach es X.env:=by rfl):PA X (e::es) (y9 te t):=by
 intro pos pins s σ H Q I h
 rw [hs]
 show wpAny _ _ (spliced ((false,eval e X.env)::backTo pos (starEach es X.env))) _ _ s
 refine Calls.spliced_cons (cx (ha pins s σ H _ I h) fun u s1 ⟨x,H1,I1,r1,q1⟩=>?_)
 exact cx (hr pos pins s1 σ H1 _ I1 q1) fun us s2 ⟨xs,H2,I2,r2,q2⟩=>⟨x::xs,H2,I2,.cons r1 r2,q2⟩
def Hv(t:TA):TE:=fun σ H Q=>t σ H fun xs H1=>xs.length<=sizeLine/\∀ p,H1 p=none->Q (.ref p) (upd H1 p (.tup xs))
def BC(t:TA):TE:=fun σ H Q=>t σ H fun xs H1=>xs.length<=sizeLine/\∀ p,H1 p=none->Q (.ref p) (upd H1 p (.lst xs))
theorem cL{x1}(h:PA X es t):PE X (.Tuple es x1 pos) (Hv t):=by
 intro pins s σ H Q I hq
 refine wpAny_Tuple_spliced (cx (h pos pins s σ H _ I hq) fun us s1 ⟨xs,H1,I1,r,z,q⟩=>⟨by rw [<- r.length];exact z,?_⟩)
 have hf:H1 s1.heap.objs.size=none:=I1.bz.fresh (RM _)
 refine⟨.ref s1.heap.objs.size,upd H1 s1.heap.objs.size (.tup xs),I1.laid (t':=s1.toks) (fun b u e=>RE _ e) (RM _) ?_,rfl,q _ hf⟩
 exact⟨z,us,r,⟨_,RJ _ rfl,rfl,_,rfl⟩⟩
theorem bK(h:PA X es t):PE X (.List es pos) (BC t):=by
 intro pins s σ H Q I hq
 refine wpAny_List_spliced (cx (h pos pins s σ H _ I hq) fun us s1 ⟨xs,H1,I1,r,z,q⟩=>⟨by rw [<- r.length];exact z,?_⟩)
 have hf:H1 s1.heap.objs.size=none:=I1.bz.fresh (RM _)
 refine⟨.ref s1.heap.objs.size,upd H1 s1.heap.objs.size (.lst xs),I1.laid (t':=s1.toks) (fun b u e=>RE _ e) (RM _) ?_,rfl,q _ hf⟩
 exact⟨z,us,0,r,RJ _ rfl⟩
end
abbrev Sp:=List V->Hp->VK->XK->Prop
abbrev tX:=List Env->Hp->Shared->XK->Value->Shared->Prop
structure ow(P:Program)(w:World)(K:Frag)(mg:Str->Option Value)(base:Heap)(A:Around)(outer:List Env)(s:Shared)(H:Hp):Prop where
 frames:A.frames=some outer
 mod:Mod K mg base
 bs:∀ b o,base.get? b=some o->s.heap.get? b=some o/\H b=none
 vO:base.objs.size<=s.heap.objs.size
 fM:s.heap.FunFrames base outer
 yJ:∀ b∈i8 outer,H b=none
 bz:dO P w H s.heap
 bare:AllBare s.gens
def CE(outer:List Env)(P:Program)(w:World)(H:Hp)(s:Shared)(Q:VK)(u:Value)(s':Shared):Prop :=
 ∃ v H',s'.os=s.os/\AllBare s'.gens/\Un (i8 outer) [] H H' s.heap s'.heap/\dO P w H' s'.heap/\RelV v u/\Q v H'
def CR(CX:tX)(outer:List Env)(P:Program)(w:World)(H:Hp)(s:Shared)(Q:VK)(E:XK)(r:Result)(s':Shared):Prop :=
 match r with
 | .ok (.ret u)=>CE outer P w H s Q u s'
 | .ok _=>False
 | .error e=>CX outer H s E e s'
structure kD(P:Program)(w:World)(K:Frag)(mg:Str->Option Value)(base:Heap)(CX:tX)(k:Nat)(f:Addr)(fd:FuncData)(ps:List Str)(sp:Sp):Prop where
 len:∀ vs H Q E,sp vs H Q E->vs.length=ps.length
 run:∀ (A:Around) (outer:List Env) (s:Shared) (H:Hp) (args:Args) (us:List Value) (vs:List V) (Q:VK) (E:XK),cO k A->ow P w K mg base A outer s H->BindsTo s fd args (ps.zip us)->Vals vs us->sp vs H Q E ->
  codeAny (model P w) A (.call (.ref f) args) (CR CX outer P w H s Q E) s
section
variable {X:Cx}{pins:List (Addr×Obj)}{σ:St}{H:Hp}{s s':Shared}
theorem Inv.D6(I:Inv X pins σ H s):ow X.prog X.w X.K X.mg X.base X.A X.stack s H :=
 ⟨I.ok.frames,I.ok.mod,I.bs,RL I.ok.vO I.sz,I.stack,I.eS,I.bz,I.bare⟩
theorem Inv.after{Q:VK}{u:Value}(I:Inv X pins σ H s)(h:CE X.stack X.prog X.w H s Q u s'):EP X pins σ Q u s':=by
 obtain ⟨v,H',os,bare,un,bz,r,q⟩:=h
 obtain ⟨hh,g,d,t,OI⟩:=s'
 obtain rfl:OI=s.os:=os
 exact⟨v,H',I.call (h':=hh) (g':=g) (d':=d) (t':=t) (ch:=[]) un bz bare (fun b z=>absurd z (by simp)),r,q⟩
end
def rf(sp:Sp)(BD:List V)(E:XK)(t:TA):TE:=fun σ H Q=>t σ H fun vs H1=>sp (vs++BD) H1 Q E
def Binds(K:Frag)(fd:FuncData)(ps:List Str)(ds:List Value):Prop :=
 ∀ (s:Shared) (us:List Value),K.In s.heap->(us++ds).length=ps.length->BindsTo s fd ⟨us,[]⟩ (ps.zip (us++ds))
theorem Binds.all{K:Frag}{fd:FuncData}{ps:List Str}(h:∀ us:List Value,us.length=ps.length->bindArgs fd ⟨us,[]⟩=pure (ps.zip us)):Binds K fd ps []:=fun s us _ hl=>by
 rw [append_nil] at hl ⊢
 exact .of_eq (h us hl)
def Passes(CX:tX)(X:Cx)(E:XK):Prop:=∀ (pins:List (Addr×Obj)) (σ:St) (H:Hp) (s:Shared) (e:Value) (s':Shared),Inv X pins σ H s->CX X.stack H s E e s'->X.xe e s'
section
variable {X:Cx}{CX:tX}{k:Nat}{f C:Addr}{fd:FuncData}{ps:List Str}{sp:Sp}{BD:List V}{ds:List Value}{E:XK}{x m:Str}{p pos apos:Pos}{e o:Expr}{es:List Expr}{ta:TE}{t:TA}
theorem D7{pins:List (Addr×Obj)}{σ:St}{H:Hp}{s:Shared}{Q:VK}{us:List Value}{vs:List V}(F:kD X.prog X.w X.K X.mg X.base CX k f fd ps sp)(hr:cO k X.A)(hb:Binds X.K fd ps ds)(hd:Vals BD ds)(hx:Passes CX X E)
  (I:Inv X pins σ H s) (r:Vals vs us) (h:sp (vs++BD) H Q E):wpAny (model X.prog X.w) X.A (call (.ref f) us) (EP X pins σ Q) X.xe s:=by
 have r2:Vals (vs++BD) (us++ds):=r.append hd
 have hl:(us++ds).length=ps.length:=by rw [<- r2.length];exact F.len _ _ _ _ h
 refine wpAny_call (codeAny_mono (F.run X.A X.stack s H ⟨us,[]⟩ (us++ds) (vs++BD) Q E hr I.D6 (hb s us I.i9 hl) r2 h) fun r s' hq=>?_)
 cases r with
 | error e=>exact hx pins σ H s e s' I hq
 | ok fl =>
  cases fl with
  | ret u=>exact I.after hq
  | next=>exact False.elim hq
  | brk=>exact False.elim hq
  | cont=>exact False.elim hq
theorem BE(F:kD X.prog X.w X.K X.mg X.base CX k f fd ps sp)(hr:cO k X.A)(hg:Gl X x)(hm:X.mg x=some (.ref f))(hk:PySem.W.keepIn X.K (.ref f)=true)(hb:Binds X.K fd ps ds)(hd:Vals BD ds)(hx:Passes CX X E)
  (ha:PA X (e::es) t) (oy:(x == ("__debug__":Str))=false:=by decide) (he:starEach (e::es) X.env=(false,eval e X.env)::starEach es X.env:=by rfl) (kd:(backTo pos (starEach es X.env)).any (·.1)=false:=by rfl) :
  PE X (.Call (.Name x p) (e::es) [] pos) (rf sp BD E t):=by
 intro pins s σ H Q I h
 refine wpAny_Call_Name_kw (dm I hg hm ?_ oy)
 refine PySem.W.callWith_K (h₀:=X.base) I.ok.mod.CN hk (cx (ha pos pins s σ H _ I h) fun us s1 ⟨vs,H1,I1,r,q⟩=>⟨I1.i9,?_⟩) he kd
 exact D7 F hr hb hd hx I1 r q
end
structure aB(N P:List Str)(sc:Scope):Prop where
 kind:sc.kind=.function
 co:sc.isCoroutine=false
 gen:sc.isGenerator=false
 nd:N.Nodup
 pre:N.take P.length=P
 par:∀ x∈P,sc.names.lookup x=some .local\/sc.names.lookup x=some .cell
 D8:∀ y∈sc.names,y.2≠.free
theorem nE{kindOf:Str->Option NameKind}{x:Str}:∀ {binds:List (Str×Value)} {m:Str->Option Value},(∀ v,(x,v)∉binds)->bindL kindOf binds m x=m x
 | [],_,_=>rfl
 | (n,v)::r,m,h=>by
  unfold bindL
  rw [nE fun w hw=>h w (Sb _ hw)]
  split
  ·have:x≠n:=by rintro rfl;exact h v mem_cons_self
   simp [this]
  ·rfl
theorem nF{kindOf:Str->Option NameKind}{x:Str}:∀ {binds:List (Str×Value)} {m:Str->Option Value},(∀ v,(x,v)∉binds)->bindC kindOf binds m x=m x
 | [],_,_=>rfl
 | (n,v)::r,m,h=>by
  unfold bindC
  rw [nF fun w hw=>h w (Sb _ hw)]
  split
  ·rfl
  ·have:x≠n:=by rintro rfl;exact h v mem_cons_self
   simp [this]
theorem nG{kindOf:Str->Option NameKind}{x:Str}{v:Value}:∀ {P:List Str} {vs:List Value} {i:Nat} {m:Str->Option Value},P.Nodup->P[i]?=some x->vs[i]?=some v->kindOf x=some .local ->
  bindL kindOf (P.zip vs) m x=some v
 | [],_,_,_,_,h,_,_=>by simp at h
 | _::_,[],_,_,_,_,h,_=>by simp at h
 | p::P,w::vs,0,m,nd,h1,h2,hk=>by
  simp at h1 h2;subst h1;subst h2
  show bindL kindOf ((p,w)::P.zip vs) m p=_
  unfold bindL
  rw [nE fun v hv=>(nodup_cons.mp nd).1 (of_mem_zip hv).1,if_pos hk]
  simp
 | p::P,w::vs,i+1,m,nd,h1,h2,hk=>by
  show bindL kindOf ((p,w)::P.zip vs) m x=_
  unfold bindL
  exact nG (i:=i) (nodup_cons.mp nd).2 (by simpa using h1) (by simpa using h2) hk
theorem nH{kindOf:Str->Option NameKind}{x:Str}{v:Value}:∀ {P:List Str} {vs:List Value} {i:Nat} {m:Str->Option Value},P.Nodup->P[i]?=some x->vs[i]?=some v->kindOf x≠some .local ->
  bindC kindOf (P.zip vs) m x=some v
 | [],_,_,_,_,h,_,_=>by simp at h
 | _::_,[],_,_,_,_,h,_=>by simp at h
 | p::P,w::vs,0,m,nd,h1,h2,hk=>by
  simp at h1 h2;subst h1;subst h2
  show bindC kindOf ((p,w)::P.zip vs) m p=_
  unfold bindC
  rw [nF fun v hv=>(nodup_cons.mp nd).1 (of_mem_zip hv).1,if_neg hk]
  simp
 | p::P,w::vs,i+1,m,nd,h1,h2,hk=>by
  show bindC kindOf ((p,w)::P.zip vs) m x=_
  unfold bindC
  exact nH (i:=i) (nodup_cons.mp nd).2 (by simpa using h1) (by simpa using h2) hk
def start(N:List Str)(vs:List V):St:=vs.map some++List.replicate (N.length - vs.length) none
def gQ(CX:tX)(P:Program)(w:World)(K:Frag)(mg:Str->Option Value)(base:Heap)(N:List Str)(qual:Str)(scope:Scope)(f:Addr)(cd:Value)(A:Around)(outer:List Env)(s:Shared)(H:Hp)(E:XK):Cx where
 prog:=P
 w:=w
 K:=K
 mg:=mg
 base:=base
 A:=A.deeper (envOfC qual scope s.heap.objs.size f cd)
 N:=N
 s₀:=s
 H₀:=H
 env:=envOfC qual scope s.heap.objs.size f cd
 outer:=outer
 stack:=envOfC qual scope s.heap.objs.size f cd::outer
 ex:=[]
 calm:=true
 fn:=fun _=>true
 pn:=[]
 xe:=fun e s'=>wpAny (model P w) (A.deeper (envOfC qual scope s.heap.objs.size f cd)) (leaving (envOfC qual scope s.heap.objs.size f cd) e) (fun _ KL=>CX outer H s E e KL) (fun e' KL=>CX outer H s E e' KL) s'
theorem rh{sc:Scope}{n:Nat}{x:Str}(h:sc.names.lookup x=some .cell):∃ c,(cellsFrom n sc.names []).lookup x=some c:=by
 have q:=PySem.W.cellsFrom_some sc.names n [] (.inl h)
 exact RX.mp q
theorem nI{CX:tX}{P:Program}{w:World}{K:Frag}{mg:Str->Option Value}{base:Heap}{N ps:List Str}{qual:Str}{scope:Scope}{f:Addr}{cd:Value}{A:Around}{outer:List Env}{s s1:Shared}{H:Hp}{E:XK}{us:List Value}{vs:List V}
  (S:aB N ps scope) (hd:A.handled=none) (e0:ow P w K mg base A outer s H) (hl:vs.length=ps.length) (r:Vals vs us)
  (x:InCallC s s.heap.objs.size (bindL (envOfC qual scope s.heap.objs.size f cd).kindOf (ps.zip us) fun _=>none) (cellsFrom (s.heap.objs.size+1) scope.names []) (bindC (envOfC qual scope s.heap.objs.size f cd).kindOf (ps.zip us) fun _=>none) s1) :
  Inv (gQ CX P w K mg base N qual scope f cd A outer s H E) [] (start N vs) H s1:=by
 have kd:ps.length<=N.length:=by have:=congrArg List.length S.pre;rw [Sh] at this;lia
 obtain ⟨h1,tk,rfl,hk⟩:=x.done
 have Hw:∀ b:Addr,b∉(gQ CX P w K mg base N qual scope f cd A outer s H E).ex:=fun b z=>absurd (show b∈([]:List Addr) from z) (by simp)
 refine⟨⟨e0.mod,S.kind,rfl,rfl,RM _,fun y z c h1 h2=>?_,fun y hy=>?_,fun y c _ h=>?_,fun _=>hd,Around.frames_deeper e0.frames,.inr ⟨rfl,rfl⟩,fun b z=>absurd z (Hw b),e0.bs,e0.vO,fun b _ _=>Hw b,fun b z=>absurd z (Hw b),e0.fM,e0.yJ⟩,
  rfl,e0.bare,Un.kept hk,⟨_,x.toInCall.ns,fun i y v h1 h2 h3=>?_⟩,fun y c h=>⟨_,x.cell y c h⟩,e0.bz.fresh (RM _),fun y c h=>?_,fun p hp=>absurd (show p∈([]:List (Addr×Obj)) from hp) (by simp),e0.bz.kept hk,?_⟩
 ·exact name_of_addr x.apart (PySem.mem_of_lookup h1) (PySem.mem_of_lookup h2)
 ·have hy:scope.names.lookup y=some .cell\/scope.names.lookup y=some .free:=hy
  rcases hy with hy|hy
  ·exact rh hy
  ·exact absurd rfl (S.D8 _ (PySem.mem_of_lookup hy))
 ·exact RN (x.above y c (PySem.mem_of_lookup h))
 ·have hi:i<vs.length:=by
   unfold start at h2
   by_cases hi:i<vs.length
   ·exact hi
   ·rw [RP (by simpa using hi)] at h2
    rw [List.getElem?_replicate] at h2
    split at h2 <;> cases h2
  have ha:vs[i]?=some v:=by
   unfold start at h2
   rw [RO (by simpa using hi),Sj] at h2
   cases e:vs[i]? with
   | none=>rw [e] at h2;cases h2
   | some a=>rw [e] at h2;cases h2;rfl
  obtain ⟨u,hu,rv⟩:=r.get ha
  have hp:ps[i]?=some y:=by
   rw [<- S.pre,List.getElem?_take_of_lt (by lia)];exact h1
  have Nk:ps.Nodup:=by rw [<- S.pre];exact S.nd.sublist (List.take_sublist _ _)
  refine⟨u,rv,?_⟩
  rcases S.par y (R8 hp) with k|k
  ·exact .inl ⟨k,nG Nk hp hu k⟩
  ·obtain ⟨c,e⟩:=rh (n:=s.heap.objs.size+1) k
   refine .inr ⟨.inl k,c,e,?_⟩
   have q:=x.cell y c e
   rw [nH Nk hp hu (by show scope.names.lookup y≠_;rw [k];decide)] at q
   exact q
 ·exact e0.bz.fresh (RN (x.above y c (PySem.mem_of_lookup h)))
 ·unfold start
  show _=N.length
  rw [Sa,R9,List.length_replicate]
  lia
theorem za{CX:tX}{P:Program}{w:World}{K:Frag}{mg:Str->Option Value}{base:Heap}{k:Nat}{f:Addr}{name qual:Str}{params:Arguments}{body:List Stmt}{scope:Scope}{dV kV doc pm bE ct oc:Value}{an od:Option Addr}
  {xi:Array (Option Value)} {N ps:List Str} {sp:Sp} (lk:K.lookup f=some ⟨oc,od,.func (PySem.W.fnOf name qual params body scope dV kV doc pm an bE ct),xi⟩) (jc:PySem.W.codeIn K bE qual=true) (S:aB N ps scope)
  (len:∀ vs H Q E,sp vs H Q E->vs.length=ps.length)
  (eM:∀ (A:Around) (outer:List Env) (s:Shared) (H:Hp) (vs:List V) (Q:VK) (E:XK),cO k (A.deeper (envOfC qual scope s.heap.objs.size f bE))->sp vs H Q E ->
   ∃ t,jZ (gQ CX P w K mg base N qual scope f bE A outer s H E) body t/\t { nx:=fun _ H'=>Q .cF H',rt:=Q } (start N vs) H) :
  kD P w K mg base CX (k+1) f (PySem.W.fnOf name qual params body scope dV kV doc pm an bE ct) ps sp:=by
 refine⟨len,fun A outer s H args us vs Q E hr e0 hb r kE=>?_⟩
 have hl:=len _ _ _ _ kE
 have KX:K.In s.heap:=e0.mod.CN.keeps fun b o e=>(e0.bs b o e).1
 have lim:s.heap.NoLimit:=e0.mod.nolimit.keeps fun b o e=>(e0.bs b o e).1
 have Hy:∀ y∈ps.zip us,scope.names.lookup y.1=some .local\/(scope.names.lookup y.1=some .cell/\((cellsFrom (s.heap.objs.size+1) scope.names []).lookup y.1).isSome=true):=fun ⟨n,v⟩ hy=>by
  rcases S.par n (of_mem_zip hy).1 with q|q
  ·exact .inl q
  ·exact .inr ⟨q,PySem.W.cellsFrom_some _ _ _ (.inl q)⟩
 refine codeAny_call_function hr.depth (KX _ _ lk) rfl S.co S.gen rfl (PySem.W.codeRec_of KX jc) (hb _ _ _ _ ?_)
 refine wpAny_newFunctionEnv_cells S.kind Hy fun env he s1 x=>?_
 subst he
 refine⟨lim.keeps x.toInCall.keep,codeAny_func ?_⟩
 obtain ⟨t,ht,hq⟩:=eM A outer s H vs Q E (hr.deeper _) kE
 have I:Inv (gQ CX P w K mg base N qual scope f bE A outer s H E) [] (start N vs) H s1:=nI S hr.hd e0 hl r x
 refine RZ (ht [] s1 (start N vs) H _ I hq) (fun fl s' hs=>?_) fun e s' hs=>hs
 have fin:∀ {σ':St} {H':Hp} {v:V} {u:Value},Inv (gQ CX P w K mg base N qual scope f bE A outer s H E) [] σ' H' s'->RelV v u->Q v H'->CE outer P w H s Q u s' :=
  fun {σ' H' v u} J rv q=>⟨v,H',J.os,J.bare,J.base,J.bz,rv,q⟩
 cases fl with
 | ret u =>
  obtain ⟨v,σ',H',J,rv,q⟩:=hs
  exact fin J rv q
 | next =>
  obtain ⟨σ',H',J,q⟩:=hs
  exact fin (v:=V.cF) (u:=Value.none) J rfl q
 | brk =>
  obtain ⟨_,_,_,q⟩:=hs
  exact False.elim q
 | cont =>
  obtain ⟨_,_,_,q⟩:=hs
  exact False.elim q
section
variable {X:Cx}{x:Str}{p pos:Pos}{e:Expr}{es:List Expr}{t:TA}{id T:String}{r:List V->Hp->VK->Prop}
def KN(r:List V->Hp->VK->Prop)(t:TA):TE:=fun σ H Q=>t σ H fun vs H1=>r vs H1 Q
theorem ay (hc:bQ X (.builtin id) r) (hg:Gl X x) (hm:X.mg x=none) (hv:bootBuiltins x=some (.builtin id)) (ha:PA X (e::es) t) (hn:x≠"__name__":=by decide) (oy:(x == ("__debug__":Str))=false:=by decide)
  (he:starEach (e::es) X.env=(false,eval e X.env)::starEach es X.env:=by rfl) (kd:(backTo pos (starEach es X.env)).any (·.1)=false:=by rfl):PE X (.Call (.Name x p) (e::es) [] pos) (KN r t):=by
 intro pins s σ H Q I h
 refine wpAny_Call_Name_kw (jd I hg hm hv ?_ hn oy)
 exact PyProof.Rows.callWith_builtin1 (cx (ha pos pins s σ H _ I h) fun us s1 ⟨vs,H1,I1,r1,q1⟩=>hc pins s1 σ H1 vs us Q I1 r1 q1) he kd
theorem b9 (hc:bQ X (.type T) r) (hg:Gl X x) (hm:X.mg x=none) (hv:bootBuiltins x=some (.type T)) (ha:PA X (e::es) t) (hn:x≠"__name__":=by decide) (oy:(x == ("__debug__":Str))=false:=by decide)
  (he:starEach (e::es) X.env=(false,eval e X.env)::starEach es X.env:=by rfl) (kd:(backTo pos (starEach es X.env)).any (·.1)=false:=by rfl):PE X (.Call (.Name x p) (e::es) [] pos) (KN r t):=by
 intro pins s σ H Q I h
 refine wpAny_Call_Name_kw (jd I hg hm hv ?_ hn oy)
 exact callWith_type1 (cx (ha pos pins s σ H _ I h) fun us s1 ⟨vs,H1,I1,r1,q1⟩=>hc pins s1 σ H1 vs us Q I1 r1 q1) he kd
end
end L2
namespace HT
open PySem PyProof.Rows
section
variable {prog:Program}{w:World}{A:Around}{E:Value->Shared->Prop}{s:Shared}
def dP(n d:Nat):Option Int->Nat
 | none=>d
 | some v=>if v<0 then (v+(n:Int)).toNat else min v.toNat n
theorem zc(n d:Nat):dP n d none=d:=rfl
theorem vU(n d k:Nat):dP n d (some (k:Int))=min k n:=by
 show (if (k:Int)<0 then ((k:Int)+(n:Int)).toNat else min (k:Int).toNat n)=min k n
 rw [if_neg (by lia),Su]
theorem D9(n d:Nat)(hd:d<=n)(o:Option Int):dP n d o<=n:=by
 cases o with
 | none=>exact hd
 | some v =>
  show (if v<0 then (v+(n:Int)).toNat else min v.toNat n)<=n
  by_cases hv:v<0
  ·rw [if_pos hv];lia
  ·rw [if_neg hv];exact Nat.min_le_right _ _
theorem vV(v:Int)(n d:Nat):(if v<0 then max (v+(n:Int)) 0 else min v (n:Int))=((dP n d (some v):Nat):Int):=by
 show (if v<0 then max (v+(n:Int)) 0 else min v (n:Int))=(((if v<0 then (v+(n:Int)).toNat else min v.toNat n):Nat):Int)
 by_cases hv:v<0
 ·simp only [if_pos hv];lia
 ·simp only [if_neg hv];lia
theorem uj(lo hi:Option Int)(n:Nat):Builtin.Slice.sliceAdjust lo hi 1 (n:Int)=(((dP n 0 lo:Nat):Int),((dP n n hi:Nat):Int)):=by
 have h1:¬ ((1:Int)<0):=by lia
 unfold Builtin.Slice.sliceAdjust
 simp only [h1,if_false]
 refine Prod.ext ?_ ?_
 ·cases lo with
  | none=>rfl
  | some v=>exact vV v n 0
 ·cases hi with
  | none=>rfl
  | some v=>exact vV v n n
theorem uk(i j:Nat):Builtin.Slice.slicePlaces (i:Int) (j:Int) 1=j - i:=by
 unfold Builtin.Slice.slicePlaces
 have h1:(1:Int) > 0:=by lia
 simp only [h1,if_true,Int.ediv_one]
 split <;> lia
theorem kF{v:Value}{o:Option Int}{Q:Option Int->Shared->Prop}(p:IsPart v o)(h:Q o s):wpAny (model prog w) A (Builtin.Slice.slicePartIndex v) Q E s:=by
 cases p with
 | none=>exact slicePart_none h
 | int i t=>exact slicePart_int h
theorem jh{sl:Addr}{vl vu:Value}{lo hi:Option Int}{n:Nat}{Q:Int×Int×Nat->Shared->Prop}(hs:s.heap.IsSliceOf sl vl vu .none)(pl:IsPart vl lo)(pu:IsPart vu hi)
  (h:Q (((dP n 0 lo:Nat):Int),1,dP n n hi - dP n 0 lo) s):wpAny (model prog w) A (Builtin.Slice.sliceApplied (.ref sl) (pure (n:Int))) Q E s:=by
 obtain ⟨os,HC,Nl,GK⟩:=id hs
 unfold Builtin.Slice.sliceApplied Builtin.Slice.sliceFields
 refine RF (RF (wpAny_field HC GK (x:=vl) rfl (RF (wpAny_field HC GK (x:=vu) rfl (RF (wpAny_field HC GK (x:=.none) rfl (RY ?_)))))))
 refine RF (slicePart_none ?_)
 show wpAny _ _ (if ((1:Int) == 0)=true then _ else _) _ _ s
 rw [if_neg (by decide)]
 refine RF (kF pl (RF (kF pu (RF (RY ?_)))))
 show wpAny _ _ (match Builtin.Slice.sliceAdjust lo hi 1 (n:Int) with|(lo,hi)=>pure (lo,(1:Int),Builtin.Slice.slicePlaces lo hi 1)) _ _ s
 rw [uj lo hi n]
 show wpAny _ _ (pure (((dP n 0 lo:Nat):Int),(1:Int),Builtin.Slice.slicePlaces ((dP n 0 lo:Nat):Int) ((dP n n hi:Nat):Int) 1)) _ _ s
 rw [uk]
 exact RY h
theorem zd(xs:Array Value)(i k:Nat):((List.range k).filterMap fun (m:Nat)=>xs[((i:Int)+(m:Int)*1).toNat]?).toArray=((xs.toList.drop i).take k).toArray:=by
 have e:(fun (m:Nat)=>xs[((i:Int)+(m:Int)*1).toNat]?)=fun m=>xs[i+m]?:=by
  funext m
  have:((i:Int)+(m:Int)*1).toNat=i+m:=by lia
  rw [this]
 rw [e]
 have:=pick_run xs i k
 rw [List.filterMap_map] at this
 have e2:((fun x=>xs[x]?) ∘ fun x=>i+x)=fun m=>xs[i+m]?:=rfl
 rw [e2] at this
 rw [this]
theorem iJ{t sl:Addr}{items:Array Value}{vl vu:Value}{lo hi:Option Int}{Q:Value->Shared->Prop}(ht:IsTup s.heap t items)(hs:s.heap.IsSliceOf sl vl vu .none)(pl:IsPart vl lo)(pu:IsPart vu hi)
  (hw:¬ (dP items.size 0 lo=0/\dP items.size items.size hi=items.size))
  (h:Q (.ref s.heap.objs.size) { s with heap:=s.heap.push { cls:=.type "tuple",data:=.seq ((items.toList.drop (dP items.size 0 lo)).take (dP items.size items.size hi - dP items.size 0 lo)).toArray } })
  (fN:items.size<=sizeLine):wpAny (model prog w) A (getItem (.ref t) (.ref sl)) Q E s:=by
 have vW:sizeOk (.seq ((items.toList.drop (dP items.size 0 lo)).take (dP items.size items.size hi - dP items.size 0 lo)).toArray):=by
  show ((items.toList.drop (dP items.size 0 lo)).take (dP items.size items.size hi - dP items.size 0 lo)).toArray.size<=sizeLine
  rw [Si,Sh,length_drop,Array.length_toList]
  exact RL (Nat.min_le_right _ _) (RL (Nat.sub_le _ _) fN)
 have hj:dP items.size items.size hi<=items.size:=D9 _ _ (RM _) hi
 obtain ⟨os,HC,Nl,GK⟩:=id hs
 have OJ:s.TypeIs (.ref sl) "slice":=⟨os,HC,Nl⟩
 unfold getItem
 try with_reducible refine wpAny_holding ?_
 first|refine RF (RY ?_)|skip
 refine RF (wpAny_sequenceKey ht.typeIs (by decide) ?_)
 refine RF (wpAny_callSpecial?_slot (name:=Str.ofString "__getitem__") ht.typeIs PyProof.Rows.slot_tuple_getitem
  (wpAny_call_entry PyProof.Rows.slot_tuple_getitem ht.typeIs entry_tuple_getitem ?_ (args_tuple_getitem _ _)))
 show wpAny _ _ (Builtin.Tuple.tupleItemsOf (.ref t) >>= _) _ _ s
 refine RF (tupleItemsOf_ ht ?_)
 refine RF (wpAny_typeOf OJ ?_)
 rw [if_pos (by decide)]
 refine RF (jh hs pl pu ?_)
 have tY:¬ ((((dP items.size 0 lo:Nat):Int) == 0 && (1:Int) == 1 && (dP items.size items.size hi - dP items.size 0 lo) == items.size)=true):=by
  intro q
  rw [Bool.and_eq_true,Bool.and_eq_true] at q
  have q1:((dP items.size 0 lo:Nat):Int)=0:=eq_of_beq q.1.1
  have q2:dP items.size items.size hi - dP items.size 0 lo=items.size:=eq_of_beq q.2
  exact hw ⟨by lia,by lia⟩
 show wpAny _ _ (if (((dP items.size 0 lo:Nat):Int) == 0 && (1:Int) == 1 && (dP items.size items.size hi - dP items.size 0 lo) == items.size)=true then _ else _) _ _ s
 rw [if_neg tY,zd]
 first
  | exact RF (m:=Builtin.Tuple.tupleExact _) (wpAny_newObj_type (RY ⟨_,rfl,RY h⟩) vW)
  | exact RF (m:=Builtin.Tuple.tupleExact _) (wpAny_newObj_type (RF (RY (RY ⟨_,rfl,RY h⟩))) vW)
  | exact RF (RF (m:=Builtin.Tuple.tupleExact _) (wpAny_newObj_type (RY (RY ⟨_,rfl,RY h⟩)) vW))
  | exact RF (RF (m:=Builtin.Tuple.tupleExact _) (wpAny_newObj_type (RY ⟨_,rfl,RY h⟩) vW))
end
end HT
namespace L2
open PySem PySem.Spec PyProof.Rows
abbrev TO:=St->Hp->(Option Int->Hp->Prop)->Prop
def PO(X:Cx)(e:Option Expr)(t:TO):Prop :=
 ∀ (pins:List (Addr×Obj)) (s:Shared) (σ:St) (H:Hp) (Q:Option Int->Hp->Prop),Inv X pins σ H s->t σ H Q ->
  wpAny (model X.prog X.w) X.A (evalPart e X.env) (fun u s'=>∃ o H',Inv X pins σ H' s'/\IsPart u o/\Q o H') X.xe s
def vX:TO:=fun _ H Q=>Q none H
def C3(t:TE):TO:=fun σ H Q=>t σ H fun x H1=>∃ i,x=.int i/\Q (some i) H1
theorem intsAre_of{ns:List Int}:∀ {us:List Value},Vals (ns.map V.int) us->IntsAre us ns:=by
 induction ns with
 | nil=>intro us r;rw [map_nil] at r;cases r;exact .nil
 | cons n ns ih =>
  intro us r
  rw [map_cons] at r
  cases r with
  | cons r1 r2 =>
   obtain ⟨t,e⟩:=r1
   subst e
   exact .cons n t (ih r2)
section
variable {X:Cx}{e:Expr}{te:TE}{lo hi:Option Expr}{tl th:TO}{pos p2:Pos}
theorem cB:PO X none vX:=by
 intro pins s σ H Q I h
 rw [evalPart_none]
 exact RY ⟨none,H,I,.none,h⟩
theorem aW(h:PE X e te):PO X (some e) (C3 te):=by
 intro pins s σ H Q I hw
 rw [evalPart_some]
 refine cx (h pins s σ H _ I hw) fun u s1 ⟨x,H1,I1,r1,q1⟩=>?_
 obtain ⟨i,rfl,q⟩:=q1
 obtain ⟨t,rfl⟩:=r1
 exact⟨some i,H1,I1,.int i t,q⟩
def J5(X:Cx)(r:V->Option Int->Option Int->Hp->VK->Prop):Prop :=
 ∀ (pins:List (Addr×Obj)) (s:Shared) (σ:St) (H:Hp) (x:V) (v vl vu:Value) (lo hi:Option Int) (sl:Addr) (Q:VK),Inv X pins σ H s->RelV x v->s.heap.IsSliceOf sl vl vu .none->IsPart vl lo->IsPart vu hi->r x lo hi H Q ->
  ∃ T id,typeLookup (.type T) "__getitem__"=pure (some (.builtin id))/\s.TypeIs v T/\wpAny (model X.prog X.w) X.A (getItem v (.ref sl)) (EP X pins σ Q) X.xe s
def Nm(r:V->Option Int->Option Int->Hp->VK->Prop)(te:TE)(tl th:TO):TE:=fun σ H Q=>te σ H fun x H1=>tl σ H1 fun l H2=>th σ H2 fun u H3=>r x l u H3 Q
theorem bb{r:V->Option Int->Option Int->Hp->VK->Prop}(hr:J5 X r)(he:PE X e te)(hl:PO X lo tl)(hu:PO X hi th):PE X (.Subscript e (.Slice lo hi none p2) pos) (Nm r te tl th):=by
 intro pins s σ H Q I h
 refine Subscript_ (cx (he pins s σ H _ I h) fun v s1 ⟨x,H1,I1,r1,q1⟩=>?_)
 refine wpAny_Slice (cx (hl pins s1 σ H1 _ I1 q1) fun vl s2 ⟨l,H2,I2,pl,q2⟩=>cx (hu pins s2 σ H2 _ I2 q2) fun vu s3 ⟨u,H3,I3,pu,q3⟩=>?_)
 rw [evalPart_none]
 refine RY ?_
 have I4:Inv X pins σ H3 { s3 with heap:=s3.heap.push { cls:=.type "slice",data:=.fields #[vl,vu,.none] } }:=I3.kept (t':=s3.toks) fun b ob q=>RE _ q
 obtain ⟨T,id,hT,ht,hg⟩:=hr pins { s3 with heap:=s3.heap.push { cls:=.type "slice",data:=.fields #[vl,vu,.none] } } σ H3 x v vl vu l u s3.heap.objs.size Q I4 r1 (Heap.IsSliceOf.new ..) pl pu q3
 show wpAny (model X.prog X.w) X.A (subscriptTail e (.Slice lo hi none p2) v (.ref s3.heap.objs.size)) (EP X pins σ Q) X.xe { s3 with heap:=s3.heap.push { cls:=.type "slice",data:=.fields #[vl,vu,.none] } }
 exact tail_any (ops:=[.ref s3.heap.objs.size,v]) ht hT hg (by with_unfolding_all rfl)
def um(xs:List V)(lo hi:Option Int):List V:=(xs.drop (HT.dP xs.length 0 lo)).take (HT.dP xs.length xs.length hi - HT.dP xs.length 0 lo)
theorem ri(xs:List V)(lo hi:Option Int):(um xs lo hi).length<=xs.length:=by
 unfold um
 rw [Sh,length_drop]
 lia
def BF(K:Frag):V->Option Int->Option Int->Hp->VK->Prop:=fun x lo hi H Q=>∃ a xs,x=.ref a/\aT K H a xs /\
 ¬ (HT.dP xs.length 0 lo=0/\HT.dP xs.length xs.length hi=xs.length)/\∀ p,H p=none->Q (.ref p) (upd H p (.tup (um xs lo hi)))
theorem Ea:J5 X (BF X.K):=by
 intro pins s σ H x v vl vu lo hi sl Q I rx hs pl pu h
 obtain ⟨a,xs,rfl,hx,hw,q⟩:=h
 cases rx
 obtain ⟨its,r,ht,hz⟩:=I.tuple hx
 have hlen:its.toArray.size=xs.length:=by rw [Si];exact r.length.symm
 refine⟨"tuple",_,PyProof.Rows.slot_tuple_getitem.lookup,ht.typeIs,?_⟩
 refine HT.iJ ht hs pl pu (by rw [hlen];exact hw) ?_ (by rw [hlen];exact hz)
 rw [hlen]
 refine⟨.ref s.heap.objs.size,_,I.laid (t':=s.toks) (o:=.tup (um xs lo hi)) (fun b ob q=>RE _ q) (RM _) ?_,rfl,q _ (I.bz.fresh (RM _))⟩
 exact⟨RL (ri xs lo hi) hz,_,(r.drop (HT.dP xs.length 0 lo)).take (HT.dP xs.length xs.length hi - HT.dP xs.length 0 lo),IsTup.new _ _⟩
end
def Eb(n:Nat)(i:Int):Option Nat:=if 0<=i then (if i<n then some i.toNat else none) else if -(n:Int)<=i then some (i+n).toNat else none
def rj{α:Type}(xs:List α)(i:Int):Option α:=(Eb xs.length i).bind fun j=>xs[j]?
theorem BG{n:Nat}{i:Int}{j:Nat}(h:Eb n i=some j):seqIndex? i n=some j/\j<n/\-(n:Int)<=i/\i<n:=by
 unfold Eb at h
 by_cases h0:0<=i
 ·rw [if_pos h0] at h
  by_cases h1:i<n
  ·rw [if_pos h1] at h
   have e:i.toNat=j:=RS h
   exact⟨by rw [seqIndex_of h0 h1,e],by lia,by lia,h1⟩
  ·rw [if_neg h1] at h;cases h
 ·rw [if_neg h0] at h
  by_cases h1:-(n:Int)<=i
  ·rw [if_pos h1] at h
   have e:(i+n).toNat=j:=RS h
   exact⟨by rw [seqIndex_neg (by lia) h1,e],by lia,h1,by lia⟩
  ·rw [if_neg h1] at h;cases h
theorem oz{α:Type}{xs:List α}{i:Int}{v:α}(h:rj xs i=some v):∃ j,seqIndex? i xs.length=some j/\xs[j]?=some v/\j<xs.length/\-(xs.length:Int)<=i/\i<xs.length:=by
 unfold rj at h
 cases e:Eb xs.length i with
 | none=>rw [e] at h;cases h
 | some j =>
  rw [e] at h
  obtain ⟨h1,h2,h3,h4⟩:=BG e
  exact⟨j,h1,h,h2,h3,h4⟩
theorem bM{α:Type}{xs:List α}{j:Nat}{v:α}(h:xs[j]?=some v):rj xs (j:Int)=some v:=by
 have hj:j<xs.length:=(RH.mp h).1
 have e:Eb xs.length (j:Int)=some j:=by
  unfold Eb
  rw [if_pos (by lia),if_pos (by lia)];simp
 unfold rj;rw [e];exact h
def BH(b:Expr):Prop:=∀ o i,subscripted b false o i=operate [o,i] (getItem o i)
def Bi(X:Cx)(r:R2):Prop :=
 ∀ (value slice:Expr) (pins:List (Addr×Obj)) (s:Shared) (σ:St) (H:Hp) (x y:V) (v u:Value) (Q:VK),Inv X pins σ H s->RelV x v->RelV y u->r x y H Q ->
  subscripted slice false v u=operate [v,u] (getItem v u)->wpAny (model X.prog X.w) X.A (subscriptTail value slice v u) (EP X pins σ Q) X.xe s
def GL(X:Cx)(id:String)(r:V->List V->Hp->VK->Prop):Prop :=
 ∀ (pins:List (Addr×Obj)) (s:Shared) (σ:St) (H:Hp) (x:V) (xs:List V) (v:Value) (us:List Value) (Q:VK),Inv X pins σ H s->RelV x v->Vals xs us->r x xs H Q ->
  wpAny (model X.prog X.w) X.A (call (.builtin id) (v::us)) (EP X pins σ Q) X.xe s
section
variable {X:Cx}{a b:Expr}{ta tb:TE}{pos:Pos}
theorem Bi.or{r r':R2}(h:Bi X r)(h':Bi X r'):Bi X (fun x y H Q=>r x y H Q\/r' x y H Q):=by
 intro value slice pins s σ H x y v u Q I rx ry q hs
 rcases q with q|q
 ·exact h value slice pins s σ H x y v u Q I rx ry q hs
 ·exact h' value slice pins s σ H x y v u Q I rx ry q hs
theorem aI{r:R2}(hr:Bi X r)(ha:PE X a ta)(hb:PE X b tb)(hs:BH b):PE X (.Subscript a b pos) (GJ r ta tb):=by
 intro pins s σ H Q I h
 exact Subscript_ (DZ ha hb I h fun v u s2 x y H2 I2 rx ry q=>hr a b pins s2 σ H2 x y v u Q I2 rx ry q (hs _ _))
def HD(K:Frag):R2:=fun x y H Q=>∃ p xs i v,x=.ref p/\y=.int i/\b5 K H p xs/\rj xs i=some v/\Q v H
def HE(K:Frag):R2:=fun x y H Q=>∃ p xs i v,x=.ref p/\y=.int i/\aT K H p xs/\rj xs i=some v/\Q v H
def BI:R2:=fun x y H Q=>∃ z i c,x=.str z/\y=.int i/\z.length<=sizeLine/\rj z.cps.toList i=some c/\Q (.str ⟨#[c]⟩) H
theorem BJ:Bi X (HD X.K):=by
 intro value slice pins s σ H x y v u Q I rx ry h hs
 obtain ⟨p,xs,i,z,rfl,rfl,hq,he,q⟩:=h
 cases rx
 obtain ⟨t,rfl⟩:=ry
 obtain ⟨its,r,pl,hz⟩:=I.list hq
 obtain ⟨j,h1,h2,h3,h4,h5⟩:=oz he
 obtain ⟨w,ew,Hm⟩:=r.get h2
 have hl:=r.length
 have hn:=kC
 have fin:EP X pins σ Q w s:=⟨z,H,I,Hm,q⟩
 by_cases h0:0<=i
 ·have hj:i.toNat=j:=by
   rw [seqIndex_of h0 h5] at h1
   exact RS h1
  exact item_listR pl.isList h0 (by lia) (by rw [hj];simpa using ew) fin hs
 ·have hj:(i+(its.toArray.size:Int)).toNat=j:=by
   rw [seqIndex_neg (by lia) h4] at h1
   rw [Si,<- hl]
   exact RS h1
  exact subscriptTail_builtinR (x:=w) pl.isList.typeIs slot_list_getitem.lookup
   (wpAny_getItem_list_neg (Q:=fun r s'=>r=w/\EP X pins σ Q r s') pl.isList (by lia) (by rw [Si] <;> lia) (by lia) (by rw [hj];simpa using ew) ⟨rfl,fin⟩) hs
theorem Ec:Bi X (HE X.K):=by
 intro value slice pins s σ H x y v u Q I rx ry h hs
 obtain ⟨p,xs,i,z,rfl,rfl,hq,he,q⟩:=h
 cases rx
 obtain ⟨t,rfl⟩:=ry
 obtain ⟨its,r,pl,hz⟩:=I.tuple hq
 obtain ⟨j,h1,h2,h3,h4,h5⟩:=oz he
 obtain ⟨w,ew,Hm⟩:=r.get h2
 have hl:=r.length
 have hn:=kC
 have fin:EP X pins σ Q w s:=⟨z,H,I,Hm,q⟩
 exact subscriptTail_builtinR (x:=w) pl.typeIs slot_tuple_getitem.lookup
  (getItem_tuple (j:=j) (Q:=fun r s'=>r=w/\EP X pins σ Q r s') pl (by lia) (by lia) (by rw [Si,<- hl];exact h1) (by simpa using ew) ⟨rfl,fin⟩) hs
theorem d9:Bi X BI:=by
 intro value slice pins s σ H x y v u Q I rx ry h hs
 obtain ⟨z,i,c,rfl,rfl,hz,he,q⟩:=h
 obtain ⟨t,rfl⟩:=rx
 obtain ⟨t',rfl⟩:=ry
 obtain ⟨j,h1,h2,h3,h4,h5⟩:=oz he
 have hl:z.cps.toList.length=z.length:=by simp [Str.length]
 rw [hl] at h1 h4 h5
 have hn:=kC
 exact tail_any (typeIs_str s z t) slot_str_getitem.lookup (getItem_str (c:=c) (by
  have e1:decide (i < -(2 ^ 63:Int))=false:=RV (by lia)
  have e2:decide (i ≥ 2 ^ 63)=false:=RV (by lia)
  rw [e1,e2,Bool.or_false]) (by rw [h1];simpa using h2) ⟨.str ⟨#[c]⟩,H,I.tok _,⟨_,rfl⟩,q⟩) hs
def J6(K:Frag):R2:=fun x y H Q=>HD K x y H Q\/HE K x y H Q\/BI x y H Q
theorem Ed:Bi X (J6 X.K):=BJ.or (Ec.or d9)
theorem oA:gD X (compareOp .NotIn) (fun x y H Q=>∃ i j,x=.str i/\y=.str j/\Q (.bl (!(!(Builtin.Str.occurrences j i 0 j.length 1).isEmpty))) H):=by
 intro pins s σ H x y v u Q I rx ry h
 obtain ⟨i,j,rfl,rfl,q⟩:=h
 obtain ⟨t,rfl⟩:=rx
 obtain ⟨t',rfl⟩:=ry
 exact notIn_str ⟨.bl _,H,I,rfl,q⟩
theorem oB:bQ X (.builtin "len") (fun xs H Q=>∃ p ys,xs=[.ref p]/\(b5 X.K H p ys\/aT X.K H p ys)/\Q (.int ys.length) H):=by
 intro pins s σ H xs us Q I r h
 obtain ⟨p,ys,rfl,hq,q⟩:=h
 obtain ⟨u,rfl,rx⟩:=vals1 r
 cases rx
 have hn:=kC
 rcases hq with hq|hq
 ·obtain ⟨its,r',pl,hz⟩:=I.list hq
  have hlen:=r'.length
  exact Calls.call_len_list pl.isList (by simp only [Si] <;> lia) ⟨.int ys.length,H,I.tok _,⟨s.toks+1,by rw [Si,hlen]⟩,q⟩
 ·obtain ⟨its,r',pl,hz⟩:=I.tuple hq
  have hlen:=r'.length
  exact len_tuple pl (by simp only [Si] <;> lia) ⟨.int ys.length,H,I.tok _,⟨s.toks+1,by rw [Si,hlen]⟩,q⟩
theorem oC:bQ X (.builtin "len") (fun xs H Q=>∃ z,xs=[.str z]/\z.length<=sizeLine/\Q (.int z.length) H):=by
 intro pins s σ H xs us Q I r h
 obtain ⟨z,rfl,hz,q⟩:=h
 obtain ⟨u,rfl,t,rfl⟩:=vals1 r
 have hn:=kC
 exact len_str (by lia) ⟨.int z.length,H,I.tok _,⟨_,rfl⟩,q⟩
theorem me:bQ X (.type "tuple") (fun xs H Q=>∃ p ys,xs=[.ref p]/\((b5 X.K H p ys/\∀ l,H l=none->Q (.ref l) (upd H l (.tup ys)))\/(aT X.K H p ys/\Q (.ref p) H))):=by
 intro pins s σ H xs us Q I r h
 obtain ⟨p,ys,rfl,h⟩:=h
 obtain ⟨u,rfl,rx⟩:=vals1 r
 cases rx
 rcases h with ⟨hq,q⟩|⟨hq,q⟩
 ·obtain ⟨its,r',pl,hz⟩:=I.list hq
  have hlen:=r'.length
  refine call_tuple_list pl.isList (fun h' kp=>?_) (by simp only [Si] <;> lia)
  have I1:Inv X pins σ H { s with heap:=h' }:=I.kept (t':=s.toks) kp
  have I2:Inv X pins σ (upd H h'.objs.size (.tup ys)) { s with heap:=h'.push { cls:=.type "tuple",data:=.seq its.toArray } } :=
   I1.laid (t':=s.toks) (fun b o e=>RE _ e) (RM _) (show b6 X.prog X.w _ _ _ (.tup ys) from ⟨hz,its,r',IsTup.new _ _⟩)
  exact⟨.ref h'.objs.size,_,I2,rfl,q _ (I1.bz.fresh (RM _))⟩
 ·obtain ⟨its,r',pl,hz⟩:=I.tuple hq
  exact call_tuple_same pl ⟨.ref p,H,I,rfl,q⟩
def Ee(K:Frag)(T:String)(x:V)(H:Hp):Prop:=match x with
 | .str _=>T = "str"
 | .int _=>T = "int"
 | .ref p=>(T = "list"/\∃ xs,b5 K H p xs)\/(T = "tuple"/\∃ o,K.lookup p=some o/\o.cls=.type "tuple"/\o.dict=none) \/
   (T = "dict"/\((∃ jb,H p=some (.dK jb))\/∃ jb,H p=some (.dT jb)))\/(T = "set"/\∃ S n,H p=some (.set S n))
 | _=>False
theorem ze{pins:List (Addr×Obj)}{σ:St}{H:Hp}{s:Shared}{T:String}{x:V}{v:Value}(I:Inv X pins σ H s)(r:RelV x v)(ty:Ee X.K T x H) :
  s.TypeIs v T/\∀ a,v=.ref a->∃ ob,s.heap.get? a=some ob/\ob.dict=none:=by
 cases x with
 | str z =>
  obtain ⟨t,rfl⟩:=r
  cases (show T = "str" from ty)
  exact⟨typeIs_str s z t,fun _ e=>nomatch e⟩
 | int i =>
  obtain ⟨t,rfl⟩:=r
  cases (show T = "int" from ty)
  exact⟨typeIs_int s i t,fun _ e=>nomatch e⟩
 | ref p =>
  cases r
  rcases ty with ⟨rfl,xs,hq⟩|⟨rfl,o,hk,hc,hd⟩|⟨rfl,hk⟩|⟨rfl,S,n,hk⟩
  ·obtain ⟨its,_,pl,_⟩:=I.list hq
   refine⟨pl.isList.typeIs,fun a e=>?_⟩
   cases e
   obtain ⟨o,n,e,c,hd,_⟩:=pl
   exact⟨o,e,hd⟩
  ·refine⟨⟨o,I.i9 p o hk,hc⟩,fun a e=>?_⟩
   cases e
   exact⟨o,I.i9 _ o hk,hd⟩
  ·have z:∃ o,s.heap.get? p=some o/\o.ExactDict:=by
    rcases hk with ⟨jb,hk⟩|⟨jb,hk⟩
    ·obtain ⟨_,_,_,_,o,_,_,e,ex,_⟩:=I.bz p _ hk
     exact⟨o,e,ex⟩
    ·obtain ⟨_,_,_,_,o,_,_,e,ex,_⟩:=I.bz p _ hk
     exact⟨o,e,ex⟩
   obtain ⟨o,e,ex⟩:=z
   refine⟨⟨o,e,ex.1⟩,fun a e2=>?_⟩
   cases e2
   exact⟨o,e,ex.2.1⟩
  ·obtain ⟨o,_,_,_,e,ex,_⟩:=I.bz p _ hk
   refine⟨⟨o,e,ex.1⟩,fun a e2=>?_⟩
   cases e2
   exact⟨o,e,ex.2.1⟩
 | _=>exact False.elim ty
def HF(K:Frag)(T:String)(r:V->List V->Hp->VK->Prop)(to:TE):TE:=fun σ H Q=>to σ H fun x H1=>Ee K T x H1/\r x [] H1 Q
def Nn(K:Frag)(T:String)(r:V->List V->Hp->VK->Prop)(to:TE)(t:TA):TE:=fun σ H Q=>to σ H fun x H1=>Ee K T x H1/\t σ H1 fun xs H2=>r x xs H2 Q
variable {o e:Expr}{es:List Expr}{to:TE}{t:TA}{name:Str}{apos c8:Pos}{T id:String}{r:V->List V->Hp->VK->Prop}
theorem Ef (pa:PlainAttrs T) (slot:Slot T name id) (KO:typeOf (.builtin id)=pure (.type "method_descriptor")) (hm:GL X id r) (ho:PE X o to)
  (kG:attributeBase o name X.env (eval o X.env)=eval o X.env:=by rfl) (zf:(apos.endLine == c8.line)=true:=by rfl):PE X (.Call (.Attribute o name apos) [] [] c8) (HF X.K T r to):=by
 intro pins s σ H Q I h
 refine wpAny_Call_method0_late kG zf (cx (ho pins s σ H _ I h) fun v s1 ⟨x,H1,I1,r1,ty,q1⟩=>?_)
 obtain ⟨h1,h2⟩:=ze I1 r1 ty
 exact⟨T,id,pa,slot,KO,h1,h2,Calls.callWith_builtin rfl (PySem.evalArgs_none (hm pins s1 σ H1 x [] v [] Q I1 r1 .nil q1))⟩
theorem cR (pa:PlainAttrs T) (slot:Slot T name id) (KO:typeOf (.builtin id)=pure (.type "method_descriptor")) (hm:GL X id r) (ho:PE X o to) (ha:PA X (e::es) t)
  (kG:attributeBase o name X.env (eval o X.env)=eval o X.env:=by rfl)
  (KP:((backTo c8 (starEach (e::es) X.env)).all (fun x=>!x.1) && (backToKw c8 (keywordEach [] X.env)).all (fun x=>x.1.isSome)
   && decide ((e::es).length+([]:List Keyword).length+(if ([]:List Keyword).isEmpty then 0 else 1)<30))=true:=by rfl)
  (zf:(apos.endLine == c8.line)=true:=by rfl) (hs:starEach (e::es) X.env=(false,eval e X.env)::starEach es X.env:=by rfl) (uo:(backTo c8 (starEach es X.env)).any (·.1)=false:=by rfl) :
  PE X (.Call (.Attribute o name apos) (e::es) [] c8) (Nn X.K T r to t):=by
 intro pins s σ H Q I h
 refine wpAny_Call_method_late kG KP zf rfl (cx (ho pins s σ H _ I h) fun v s1 ⟨x,H1,I1,r1,ty,q1⟩=>?_)
 obtain ⟨h1,h2⟩:=ze I1 r1 ty
 refine⟨T,id,pa,slot,KO,h1,h2,?_⟩
 have hA:=ha c8 pins s1 σ H1 _ I1 q1
 rw [hs] at hA ⊢
 refine Calls.callWith_builtin (by show (false || (backTo c8 (starEach es X.env)).any (·.1))=false;rw [uo] <;> rfl) (Calls.evalArgs_plain ?_)
 exact cx hA fun us s2 ⟨vs,H2,I2,r2,q2⟩=>hm pins s2 σ H2 x vs v us Q I2 r1 r2 q2
/- xs.append(e),list.index on a HG tuple .. are GL facts of 06m -/
end
def Np(X:Cx)(id:String)(r:V->List V->Hp->VK->Prop):Prop :=
 ∀ (pins:List (Addr×Obj)) (s:Shared) (σ:St) (H:Hp) (x:V) (xs:List V) (v:Value) (us:List Value) (Q:VK),Inv X pins σ H s->RelV x v->Vals xs us->r x xs H Q ->
  wpAny (model X.prog X.w) X.A (call (.builtin id) (v::us)) (EP X pins σ Q) X.xe s
theorem Vals.one:∀ {x:V} {us:List Value},Vals [x] us->∃ u,us=[u]/\RelV x u
 | _,_,.cons r .nil=>⟨_,rfl,r⟩
theorem Vals.zero:∀ {us:List Value},Vals [] us->us=[]
 | _,.nil=>rfl
theorem Vals.dropLast{xs:List V}{us:List Value}(h:Vals xs us):Vals xs.dropLast us.dropLast:=by
 induction h with
 | nil=>exact .nil
 | cons r t ih =>
  cases t with
  | nil=>exact .nil
  | cons q t'=>exact .cons r ih
theorem Vals.rep{xs:List V}{us:List Value}(h:Vals xs us):∀ k:Nat,Vals (List.replicate k xs).flatten (List.replicate k us).flatten
 | 0=>.nil
 | k+1=>by
  rw [replicate_succ,replicate_succ,flatten_cons,flatten_cons]
  exact Vals.append h (Vals.rep h k)
theorem uq{α:Type}(l:List α):l.eraseIdx (l.length - 1)=l.dropLast:=by
 induction l with
 | nil=>rfl
 | cons a r ih =>
  cases r with
  | nil=>rfl
  | cons b r =>
   have e:(a::b::r).length - 1=((b::r).length - 1)+1:=by
    have h1:(a::b::r).length=r.length+2:=rfl
    have h2:(b::r).length=r.length+1:=rfl
    lia
   rw [e,List.eraseIdx_cons_succ,ih]
   all_goals rfl
theorem foldl_rep(its:List Value):∀ (k:Nat) (acc:List Value),
  List.foldl (fun x1 x2=>x1++x2) acc.toArray (List.replicate k its.toArray)=(acc++(List.replicate k its).flatten).toArray
 | 0,acc=>by simp
 | k+1,acc=>by
  have e:acc.toArray++its.toArray=(acc++its).toArray:=by simp
  have e2:(acc++its)++(List.replicate k its).flatten=acc++(List.replicate (k+1) its).flatten:=by
   rw [replicate_succ,flatten_cons,append_assoc]
  rw [<- e2,<- foldl_rep its k (acc++its),<- e,replicate_succ,List.foldl_cons]
section
variable {X:Cx}{pins:List (Addr×Obj)}{σ:St}{H:Hp}{s:Shared}{l b:Addr}{xs ys zs:List V}
theorem Inv.HH{its its':List Value}{n:Nat}{f:Array Value->Array Value}{t':Nat}(I:Inv X pins σ H s)(hH:H l=some (.lst xs))
  (e:s.heap.get? l=some { cls:=.type "list",data:=.seq its.toArray n }) (hf:f its.toArray=its'.toArray) (hv:Vals ys its') (hz:ys.length<=sizeLine) :
  Inv X pins σ (upd H l (.lst ys)) { s with heap:=s.heap.update l (Obj.mapSeq f),toks:=t' }:=by
 have q:=PySem.IsL.update e f
 rw [hf] at q
 refine I.write (x:=l) (e:=l) (by rw [hH];exact trivial) (.inl rfl) (fun b' u hb hu=>(Heap.get?_update_other s.heap (Obj.mapSeq f) (Ne.symm hb)).trans hu) ⟨_,q⟩ ?_
 exact⟨hz,its',_,hv,q⟩
theorem Inv.Eg{its:List Value}{t':Nat}(I:Inv X pins σ H s)(hv:Vals ys its)(hz:ys.length<=sizeLine) :
  Inv X pins σ (upd H s.heap.objs.size (.lst ys)) { s with heap:=s.heap.push { cls:=.type "list",data:=.seq its.toArray },toks:=t' } :=
 I.laid (fun _ _ q=>RE _ q) (RM _) ⟨hz,its,0,hv,RJ _ rfl⟩
theorem Inv.fresh(I:Inv X pins σ H s):H s.heap.objs.size=none:=I.bz.fresh (RM _)
theorem Inv.zg (I:Inv X pins σ H s) (hH:H l=some (.lst xs)):xs.length<=sizeLine/\∃ (its:List Value) (n:Nat),Vals xs its/\xs.length=its.length/\s.heap.get? l=some { cls:=.type "list",data:=.seq its.toArray n }:=by
 obtain ⟨z,its,n,r,e⟩:=I.bz l _ hH
 exact⟨z,its,n,r,r.length,e⟩
theorem zh{n:Nat}(h:n<=sizeLine):Builtin.List.listTooLong n=false:=by
 unfold Builtin.List.listTooLong
 exact RV (by lia)
end
section
variable {X:Cx}
def vY:V->List V->Hp->VK->Prop:=fun x vs H Q=>∃ l xs y,x=.ref l/\vs=[y]/\H l=some (.lst xs)/\xs.length<sizeLine/\Q .cF (upd H l (.lst (xs++[y])))
theorem br:Np X "list.append" vY:=by
 intro pins s σ H x vs v us Q I rx rv h
 obtain ⟨l,xs,y,rfl,rfl,hH,hz,q⟩:=h
 cases rx
 obtain ⟨u,rfl,ru⟩:=rv.one
 obtain ⟨z,its,n,r,hl,e⟩:=I.zg hH
 refine call_meets F.slot_list_append ⟨_,e,rfl⟩ F.entry_list_append (F.args_list_append_2 _ _) (PySem.list_append l its.toArray n u (by rw [Si];lia)) ⟨e,?_⟩
 refine⟨.cF,_,I.HH (its':=its++[u]) hH e (by simp) (r.append (.cons ru .nil)) ?_,rfl,q⟩
 rw [Sa,RG]
 lia
def HI:V->List V->Hp->VK->Prop:=fun x vs H Q=>∃ l xs y,x=.ref l/\vs=[]/\H l=some (.lst xs)/\xs[xs.length - 1]?=some y/\Q y (upd H l (.lst xs.dropLast))
theorem Eh:Np X "list.pop" HI:=by
 intro pins s σ H x vs v us Q I rx rv h
 obtain ⟨l,xs,y,rfl,rfl,hH,hy,q⟩:=h
 cases rx
 have Ei:=rv.zero
 subst Ei
 obtain ⟨z,its,n,r,hl,e⟩:=I.zg hH
 obtain ⟨u,hu,ru⟩:=r.get hy
 have GN:its.toArray[its.toArray.size - 1]?=some u:=by
  show its.toArray[its.length - 1]?=some u
  rw [<- Array.getElem?_toList,<- hl]
  exact hu
 refine call_meets F.slot_list_pop ⟨_,e,rfl⟩ F.entry_list_pop (F.args_list_pop_1 _) (MeetsSeq.list_pop_last l its.toArray n u GN (by rw [Si];lia)) ⟨e,?_⟩
 refine⟨y,_,I.HH (its':=its.dropLast) hH e ?_ r.dropLast ?_,ru,q⟩
 ·show its.toArray.eraseIdxIfInBounds (its.toArray.size - 1)=its.dropLast.toArray
  rw [Si,List.eraseIdxIfInBounds_toArray,uq]
 ·rw [List.length_dropLast]
  lia
def HJ:R2:=fun x y H Q=>∃ l b xs zs,x=.ref l/\y=.ref b/\H l=some (.lst xs)/\H b=some (.lst zs)/\xs.length+zs.length<=sizeLine/\∀ p,H p=none->Q (.ref p) (upd H p (.lst (xs++zs)))
theorem ur:gD X (binaryOp .Add) HJ:=by
 intro pins s σ H x y v u Q I rx ry h
 obtain ⟨l,b,xs,zs,rfl,rfl,hH,hB,hz,q⟩:=h
 cases rx
 cases ry
 obtain ⟨z,its,n,r,hl,e⟩:=I.zg hH
 obtain ⟨z2,HK,n2,r2,Ej,e2⟩:=I.zg hB
 refine PySem.P.add_list e e2 ?_ (by rw [Si,Si];lia)
 have ea:its.toArray++HK.toArray=(its++HK).toArray:=by simp
 rw [ea]
 exact⟨.ref _,_,I.Eg (t':=s.toks) (r.append r2) (by rw [Sa];lia),rfl,q _ I.fresh⟩
def HL:R2:=fun x y H Q=>∃ l k xs,x=.ref l/\y=.int k/\H l=some (.lst xs)/\-(2 ^ 63)<=k/\k<2 ^ 63/\xs.length*k.toNat<=sizeLine /\
 ∀ p,H p=none->Q (.ref p) (upd H p (.lst (List.replicate k.toNat xs).flatten))
theorem len_rep{α:Type}(xs:List α)(k:Nat):(List.replicate k xs).flatten.length=k*xs.length:=by
 induction k with
 | zero=>simp
 | succ k ih=>rw [replicate_succ,flatten_cons,Sa,ih,Nat.succ_mul,Nat.add_comm]
theorem Ek:gD X (binaryOp .Mult) HL:=by
 intro pins s σ H x y v u Q I rx ry h
 obtain ⟨l,k,xs,rfl,rfl,hH,h1,h2,hz,q⟩:=h
 cases rx
 obtain ⟨t,rfl⟩:=ry
 obtain ⟨z,its,n,r,hl,e⟩:=I.zg hH
 have hlen:its.toArray.size*k.toNat<=sizeLine:=by rw [Si,<- hl];exact hz
 have KQ:¬ its.toArray.size*k.toNat > (2 ^ 63 - 1) / 8:=by
  have:(sizeLine:Nat)<=(2 ^ 63 - 1) / 8:=by decide
  lia
 have KR:¬ (!Builtin.List.listFitsIndex k)=true:=by
  rw [fitsIndex_both h1 h2]
  exact Bool.false_ne_true
 have HM:¬ Builtin.List.listTooLong (its.toArray.size*k.toNat)=true:=by
  rw [zh hlen]
  exact Bool.false_ne_true
 have El:List.foldl (fun x1 x2=>x1++x2) #[] (List.replicate (if its.toArray.isEmpty=true then 0 else k.toNat) its.toArray)=(List.replicate k.toNat its).flatten.toArray:=by
  have f0:∀ m:Nat,List.foldl (fun x1 x2=>x1++x2) #[] (List.replicate m its.toArray)=(List.replicate m its).flatten.toArray:=fun m=>by
   have:=foldl_rep its m []
   rw [List.nil_append] at this
   exact this
  rw [f0]
  cases its with
  | nil=>simp
  | cons a r'=>rw [if_neg (by simp)]
 refine wpAny_binaryOp_repeat_ref (T:="list") (U:="int") (by decide) ⟨_,e,rfl⟩ (fun s'=>typeIs_int s' k t) noFill_list_mul F.fills_int_mul F.slot_int_rmul repeat_list F.slot_int_index.lookup
  (call_meets F.slot_int_rmul (typeIs_int s k t) F.entry_int_rmul (F.args_int_rmul_2 _ _) (int___rmul___int_list k t l its.toArray n)
   ⟨e,rfl,⟨_,e,rfl⟩,call_meets F.slot_list_mul ⟨_,e,rfl⟩ F.entry_list_mul (F.args_list_mul_2 _ _) (AutoListH.list___mul___list_int_3 l its.toArray n k t KR KQ HM) ⟨e,?_⟩⟩)
 rw [El]
 exact⟨.ref _,_,I.Eg (t':=s.toks) (r.rep k.toNat) (by rw [len_rep,Nat.mul_comm];exact hz),rfl,q _ I.fresh⟩
end
end L2
namespace Nq
open PySem PySem.W PySem.Calls PyProof.Rows
theorem j0{P:Params}{h:Heap}:∀ (ns:List Int) (vs:List Value),WellAll P h vs (ns.map WData.int)->IntsAre vs ns:=by
 intro ns
 induction ns with
 | nil =>
  intro vs w
  rw [map_nil] at w
  cases w
  exact .nil
 | cons n ns ih =>
  intro vs w
  rw [map_cons] at w
  cases w with
  | cons a b =>
   cases a
   exact .cons _ _ (ih _ b)
theorem xj{l:OpenLaw}{n:Nat}(hn:l.most=some n){P:Params}{h:Heap}{args:List WData}{vals:List Value}
  (BK:l.row.toRowW.claim.pre args=true) (KS:WellAll P h vals args) :
  ∃ a vs ns,vals=[Value.ref a]/\args=[WData.list (ns.map WData.int)]/\h.get? a=some { cls:=.type "list",data:=.seq vs.toArray }/\IntsAre vs ns/\ns.length<=n:=by
 have OK:WShape.hasAll [] args [.list .int]=true:=(pre_splitW BK).1
 have hc:l.pre.holds [] { args:=args }=true:=(pre_splitW BK).2
 obtain ⟨d,r,rfl,h1,h2⟩:=hasAllW_cons OK
 obtain rfl:=hasAllW_nil h2
 obtain ⟨xs,rfl,h3⟩:=hasW_list h1
 obtain ⟨ns,rfl⟩:=items_int h3
 have hlen:ns.length<=n:=by
  unfold OpenLaw.pre at hc
  have h4:(WTm.not (.lt (.lit (.int (n:Int))) (.len (.arg 0)))).holds [] { args:=[.list (ns.map .int)] }=true:=by
   have h4:=(holds_andW hc).1
   rw [hn] at h4
   exact h4
  have h5:=condW_of h4 (w_not (w_lt w_lit (w_len_list (w_arg rfl))))
  rw [R9] at h5
  refine Nat.le_of_not_lt fun q=>?_
  have q':(n:Int)<((ns.length:Nat):Int):=by lia
  first
   | (rw [RW q'] at h5;exact absurd h5 (by decide))
   | (simp at h5;lia)
 cases KS with
 | cons w1 w2 =>
  cases w2
  cases w1 with
  | list ho rl=>exact⟨_,_,ns,rfl,rfl,ho,j0 ns _ rl,hlen⟩
theorem xk(l:OpenLaw)(args:List WData):l.row.toRowW.claim.post args (.bool true) args=true :=
 postW_of (r:=l.row.toRowW) (X:=(true == true))
  (show WShape.has [] (.bool true) .bool=true by first|rfl|decide|simp [WShape.has,WShape.arms,WShape.armsAll])
  (show (WTm.eq .res (.lit (.bool true))).value [] { args:=args,res:=some (.bool true),after:=args }=some (.bool (true == true)) from w_eq_bool (w_res rfl) w_lit) rfl
theorem rn{l:OpenLaw}{n:Nat}{q:Program}{loose:List Str}{XP:(Str->Option Value)->Heap->Prop}{YP:World->Heap->Prop}{d:DefRec}
  (hn:l.most=some n) (HN:d.params.defaults=[])
  (call:∀ (w:World) (s₀ s₁:Shared) (mg mb:Str->Option Value) (fa:Addr) (o:Obj) (pm cd doc:Value) (a:Addr) (vs:List Value) (ns:List Int),
   Ground q loose [] XP w s₀ mg mb s₁.heap->YP w s₁.heap ->
   s₁.heap.get? fa=some o->o.data=.func (docDef d.name d.params d.body d.scope pm cd doc)->s₁.heap.CodeRec cd d.name->mg d.name=some (.ref fa) ->
   s₁.heap.get? a=some { cls:=.type "list",data:=.seq vs.toArray }->IntsAre vs ns->ns.length<=n->s₁.gens=#[] ->
   codeAny (model l.prog w) callerA (.call (.ref fa) ⟨[.ref a],[]⟩) (fun r s'=>r=.ok (.ret (.bool true))/\OldK s₁.heap s'.heap/\s'.os=s₁.os/\AllBare s'.gens) s₁) :
  WalkO q loose XP YP l.row.toRowW d [] (fun f vs=>PySem.call f vs):=by
 intro w s₀ s₁ mg mb G Y fa o pm cd doc dV kV ho hd jc hD HP hg args vals as BK OL ro KS QX
 obtain rfl:dV=.none:=Dflts.none hD HN
 obtain rfl:kV=.none:=Dflts.noKw hD
 obtain ⟨a,vs,ns,rfl,rfl,Em,hints,hlen⟩:=xj hn BK KS
 refine enter_call (codeAny_mono (call w s₀ s₁ mg mb fa o pm cd doc a vs ns G Y ho (fd_plain hd) jc HP Em hints hlen hg) fun r s' hq=>?_)
 obtain ⟨rfl,h2,h3,h4⟩:=hq
 exact⟨.inl ⟨.bool true,.bool true,[],rfl,fun _=>rfl,.bool true,xk l _,fun _=>⟨List.Pairwise.nil,fun _ hm=>(nomatch hm)⟩⟩,h2,h3,h4⟩
section
variable {prog:Program}{w:World}{A:Around}{E:Value->Shared->Prop}{s:Shared}{K:Frag}
end
end Nq
namespace L2
open PySem PySem.Spec PyProof.Rows
theorem nJ:∀ {vs:List Value} {ns:List Int},IntsAre vs ns->Vals (ns.map V.int) vs
 | _,_,.nil=>.nil
 | _,_,.cons n t h=>.cons ⟨t,rfl⟩ (nJ h)
def BL(H:Hp):Prop:=∀ b,H b=none\/∃ o xs,H b=some (.qV o (.lst xs))
theorem zi{P:Program}{w:World}{K:Frag}{mg mb:Str->Option Value}{CX:tX}{k:Nat}{fa a:Addr}{fd:FuncData}{x:Str}{sp:Sp}{s₁:Shared}{vs:List Value}{ns:List Int}
  (KX:K.In s₁.heap) (Nr:s₁.heap.Ns mainGlobals mg) (hb:s₁.heap.Ns builtinsNs mb) (OM:∀ x:Str,x≠"__name__"->mb x=bootBuiltins x) (KU:s₁.heap.NoLimit) (hg:s₁.gens=#[])
  (ha:s₁.heap.get? a=some { cls:=.type "list",data:=.seq vs.toArray }) (hi:IntsAre vs ns) (hl:ns.length<=sizeLine) (hr:cO k callerA)
  (F:∀ base:Heap,K.In base->base.Ns mainGlobals mg->kD P w K mg base CX k fa fd [x] sp) (HQ:∀ (s:Shared) (u:Value),BindsTo s fd ⟨[u],[]⟩ [(x,u)])
  (kE:∀ H:Hp,BL H->b5 K H a (ns.map V.int)->sp [.ref a] H (fun v _=>v=.bl true) fun _ _ _=>False)
  (HR:∀ H e s',CX [] H s₁ (fun _ _ _=>False) e s'->False) :
  codeAny (model P w) callerA (.call (.ref fa) ⟨[.ref a],[]⟩) (fun r s'=>r=.ok (.ret (.bool true))/\OldK s₁.heap s'.heap/\s'.os=s₁.os/\AllBare s'.gens) s₁:=by
 have rv:=nJ hi
 have KW:=hi.length
 have core:∀ H:Hp,BL H->b5 K H a (ns.map V.int)->dO P w H s₁.heap->(∀ b,H b≠none->b=a)->(H a≠none->K.lookup a=none) ->
   codeAny (model P w) callerA (.call (.ref fa) ⟨[.ref a],[]⟩) (fun r s'=>r=.ok (.ret (.bool true))/\OldK s₁.heap s'.heap/\s'.os=s₁.os/\AllBare s'.gens) s₁:=by
  intro H hO hS bz hA hK
  have vZ:∀ {b:Addr} {o:Obj},s₁.heap.get? b=some o->H b=none->(oj s₁.heap H).get? b=some o:=fun e n=>yO e n
  have Hw:∀ {b:Addr} {o:Obj} {es:Array DictEntry} {ep:Nat},s₁.heap.get? b=some o->o.data=.dict es ep->H b=none:=fun {b o es ep} e d=>by
   cases q:H b with
   | none=>rfl
   | some u =>
    have e':b=a:=hA b (by rw [q];simp)
    subst e'
    rw [ha] at e;cases e
    have d':Data.seq vs.toArray _=Data.dict es ep:=d
    cases d'
  have J7:∀ {b:Addr} {m:Str->Option Value},s₁.heap.Ns b m->(oj s₁.heap H).Ns b m:=fun {b m} ⟨o,es,ep,e,d,r⟩=>⟨o,es,ep,vZ e (Hw e d),d,r⟩
  have Nt:K.In (oj s₁.heap H):=fun b o e=>vZ (KX b o e) (by
   cases q:H b with
   | none=>rfl
   | some u =>
    have e':b=a:=hA b (by rw [q];simp)
    subst e'
    rw [hK (by rw [q];simp)] at e;cases e)
  have hM:Mod K mg (oj s₁.heap H):=⟨Nt,J7 Nr,⟨mb,J7 hb,OM⟩,let ⟨mc,h1,h2⟩:=KU;⟨mc,J7 h1,h2⟩⟩
  have e0:ow P w K mg (oj s₁.heap H) callerA [] s₁ H:=⟨rfl,hM,fun b o e=>Bs e,Nat.le_of_eq (wW _ _),trivial,fun b hb=>absurd (show b∈([]:List Addr) from hb) (by simp),bz,.of_eq hg⟩
  refine codeAny_mono ((F _ Nt (J7 Nr)).run callerA [] s₁ H ⟨[.ref a],[]⟩ [.ref a] [.ref a] _ _ hr e0 (HQ s₁ (.ref a)) (.cons rfl .nil) (kE H hO hS)) fun r s' h=>?_
  cases r with
  | error e=>exact (HR H e s' h).elim
  | ok fl =>
   cases fl with
   | next=>exact False.elim h
   | brk=>exact False.elim h
   | cont=>exact False.elim h
   | ret u =>
    obtain ⟨v,H',os,bare,un,KY,r',q⟩:=h
    have q':v=.bl true:=q
    subst q'
    obtain rfl:u=Value.bool true:=r'
    refine⟨rfl,OldK.of_keep fun b o e=>?_,os,bare⟩
    cases q:H b with
    | none=>exact un.keep b o e q (by intro z;exact absurd (show b∈([]:List Addr) from z) (by simp)) (by simp)
    | some u =>
     rcases hO b with z|⟨ob,xs,z⟩
     ·rw [q] at z;cases z
     ·have z2:=un.gP b ob _ z
      obtain ⟨e1,_⟩:=bz b _ z
      obtain ⟨e2,_⟩:=KY b _ z2
      rw [e] at e1;cases e1
      exact e2
 cases hk:K.lookup a with
 | some o =>
  have e:=KX a o hk
  rw [ha] at e
  cases e
  refine core (fun _=>none) (fun _=>.inl rfl) (.inr ⟨_,vs.toArray,_,hk,rfl,rfl,rfl,by rw [Si,KW];exact hl,by simpa using rv⟩) (fun b u z=>by have z':(none:Option HO)=some u:=z;cases z') (fun b z=>absurd rfl z) fun z=>absurd rfl z
 | none =>
  refine core (fun b=>if b=a then some (.qV { cls:=.type "list",data:=.seq vs.toArray } (.lst (ns.map V.int))) else none) (fun b=>?_) (.inl (.inr ⟨{ cls:=.type "list",data:=.seq vs.toArray },if_pos rfl⟩)) (fun b u z=>?_) (fun b z=>?_) fun _=>hk
  ·by_cases hb:b=a
   ·exact .inr ⟨_,_,if_pos hb⟩
   ·exact .inl (if_neg hb)
  ·by_cases hb:b=a
   ·have z':=(if_pos hb).symm.trans z
    cases z'
    subst hb
    exact⟨ha,by rw [R9];exact hl,vs,_,rv,ha⟩
   ·have z':=(if_neg hb).symm.trans z
    cases z'
  ·by_cases hb:b=a
   ·exact hb
   ·exact absurd (if_neg hb) z
theorem BM{l:OpenLaw}{n k:Nat}{q:Program}{loose:List Str}{XP:(Str->Option Value)->Heap->Prop}{YP:World->Heap->Prop}{d:DefRec}{K:Params->Frag}{CX:World->tX}{sp:World->Sp}{x:Str}
  (hn:l.most=some n) (KZ:n<=sizeLine) (HN:d.params.defaults=[]) (hr:cO k callerA)
  (hY:∀ (w:World) (h:Heap),YP w h->(K w.params).In h)
  (F:∀ (w:World) (mg:Str->Option Value) (fa:Addr) (h:Heap),(K w.params).In h->h.Ns mainGlobals mg->mg d.name=some (.ref fa) ->
   ∃ fd:FuncData,(∀ (s:Shared) (u:Value),BindsTo s fd ⟨[u],[]⟩ [(x,u)]) /\
    ∀ base:Heap,(K w.params).In base->base.Ns mainGlobals mg->kD l.prog w (K w.params) mg base (CX w) k fa fd [x] (sp w))
  (kE:∀ (w:World) (H:Hp) (a:Addr) (ns:List Int),ns.length<=n->BL H->b5 (K w.params) H a (ns.map V.int)->sp w [.ref a] H (fun v _=>v=.bl true) fun _ _ _=>False)
  (HR:∀ (w:World) (H:Hp) (s:Shared) (e:Value) (s':Shared),CX w [] H s (fun _ _ _=>False) e s'->False) :
  PySem.W.WalkO q loose XP YP l.row.toRowW d [] (fun f vs=>PySem.call f vs):=by
 refine Nq.rn hn HN fun w s₀ s₁ mg mb fa o pm cd doc a vs ns G Y ho hd jc HP Em hints hlen hg=>?_
 have KX:=hY w _ Y
 obtain ⟨fd,hb,hF⟩:=F w mg fa _ KX G.T.g HP
 exact zi KX G.T.g G.T.b G.T.builtins G.T.nolimit hg Em hints (RL hlen KZ) hr hF hb (fun H hO hS=>kE w H a ns hlen hO hS) fun H e s'=>HR w H s₁ e s'
theorem zj{l:OpenLaw}{n k:Nat}{q:Program}{loose:List Str}{XP:(Str->Option Value)->Heap->Prop}{YP:World->Heap->Prop}{d:DefRec}{K:Params->Frag}{CX:tX}{sp:Frag->Sp}{x:Str}
  (hn:l.most=some n) (KZ:n<=sizeLine) (HN:d.params.defaults=[]) (hr:cO k callerA)
  (hY:∀ (w:World) (h:Heap),YP w h->(K w.params).In h)
  (F:∀ (w:World) (mg:Str->Option Value) (fa:Addr) (h:Heap),(K w.params).In h->h.Ns mainGlobals mg->mg d.name=some (.ref fa) ->
   ∃ fd:FuncData,(∀ (s:Shared) (u:Value),BindsTo s fd ⟨[u],[]⟩ [(x,u)]) /\
    ∀ base:Heap,(K w.params).In base->base.Ns mainGlobals mg->kD l.prog w (K w.params) mg base CX k fa fd [x] (sp (K w.params)))
  (kE:∀ (K:Frag) (H:Hp) (a:Addr) (ns:List Int),ns.length<=n->BL H->b5 K H a (ns.map V.int)->sp K [.ref a] H (fun v _=>v=.bl true) fun _ _ _=>False)
  (HR:∀ (H:Hp) (s:Shared) (e:Value) (s':Shared),CX [] H s (fun _ _ _=>False) e s'->False) :
  PySem.W.WalkO q loose XP YP l.row.toRowW d [] (fun f vs=>PySem.call f vs) :=
 BM (K:=K) (CX:=fun _=>CX) (sp:=fun w=>sp (K w.params)) hn KZ HN hr hY F (fun w H a ns h1 h2 h3=>kE (K w.params) H a ns h1 h2 h3) fun _ H s e s'=>HR H s e s'
def dQ(s:Stmt):Arguments:=match s with
 | .FunctionDef _ a _ _ _ _ _ _ _ _=>a
 | _=>{ posonlyargs:=[],args:=[],vararg:=none,kwonlyargs:=[],kw_defaults:=[],kwarg:=none,defaults:=[] }
def cc(s:Stmt):List Stmt:=match s with
 | .FunctionDef _ _ b _ _ _ _ _ _ _=>b
 | _=>[]
def ar(s:Stmt):Scope:=match s with
 | .FunctionDef _ _ _ _ _ _ sc _ _ _=>sc
 | _=>{ kind:=.function,names:=[],isGenerator:=false,isCoroutine:=false }
abbrev Bj:tX:=fun _ _ _ _ _ _=>False
abbrev E0:XK:=fun _ _ _=>False
theorem HS{X:Cx}:Passes Bj X E0:=fun _ _ _ _ _ _ _ h=>h.elim
structure C4(K:Frag)(x qual:Str)(st:Stmt)(f:Addr)(fd:FuncData):Prop where
 ex:∃ (oc:Value) (od:Option Addr) (kV doc pm:Value) (an:Option Addr) (bE ct:Value) (xi:Array (Option Value)),
  fd=PySem.W.fnOf x qual (dQ st) (cc st) (ar st) .none kV doc pm an bE ct/\K.lookup f=some ⟨oc,od,.func fd,xi⟩/\PySem.W.codeIn K bE qual=true
 kp:PySem.W.keepIn K (.ref f)=true
section
variable {P:Program}{w:World}{K:Frag}{mg:Str->Option Value}{base:Heap}
theorem C4.ok{x qual:Str}{st:Stmt}{f:Addr}{fd:FuncData}{N ps:List Str}{k:Nat}{sp:Sp}(F:C4 K x qual st f fd)(S:aB N ps (ar st))(len:∀ vs H Q E,sp vs H Q E->vs.length=ps.length)
  (eM:∀ (bE:Value) (A:Around) (outer:List Env) (s:Shared) (H:Hp) (vs:List V) (Q:VK) (E:XK),cO k (A.deeper (envOfC qual (ar st) s.heap.objs.size f bE))->sp vs H Q E ->
   ∃ t,jZ (gQ Bj P w K mg base N qual (ar st) f bE A outer s H E).w6 (cc st) t/\t { nx:=fun _ H'=>Q .cF H',rt:=Q } (start N vs) H):kD P w K mg base Bj (k+1) f fd ps sp:=by
 obtain ⟨oc,od,kV,doc,pm,an,bE,ct,xi,rfl,lk,jc⟩:=F.ex
 refine za lk jc S len fun A outer s H vs Q E hr kE=>?_
 obtain ⟨t,h,q⟩:=eM bE A outer s H vs Q E hr kE
 exact⟨t,h.w6,q⟩
theorem C4.binds{x qual:Str}{st:Stmt}{f:Addr}{fd:FuncData}{ps:List Str}(F:C4 K x qual st f fd)
  (h:∀ (kV doc pm:Value) (an:Option Addr) (bE ct:Value) (us:List Value),us.length=ps.length->bindArgs (PySem.W.fnOf x qual (dQ st) (cc st) (ar st) .none kV doc pm an bE ct) ⟨us,[]⟩=pure (ps.zip us)):Binds K fd ps []:=by
 obtain ⟨oc,od,kV,doc,pm,an,bE,ct,xi,rfl,lk,jc⟩:=F.ex
 exact .all (h kV doc pm an bE ct)
theorem zk{x qual:Str}{st:Stmt}{f:Addr}{oc:Value}{od an:Option Addr}{xi:Array (Option Value)}{kV doc pm bE ct:Value}(l:K.lookup f=some ⟨oc,od,.func (PySem.W.fnOf x qual (dQ st) (cc st) (ar st) .none kV doc pm an bE ct),xi⟩)
  (c:PySem.W.codeIn K bE qual=true) (k:PySem.W.keepIn K (.ref f)=true):C4 K x qual st f (PySem.W.fnOf x qual (dQ st) (cc st) (ar st) .none kV doc pm an bE ct):=⟨⟨oc,od,kV,doc,pm,an,bE,ct,xi,rfl,l,c⟩,k⟩
end
theorem bj{A:Around}{k:Nat}(hr:cO k A):A.units+1<cLine:=Se (Nat.add_le_add_left (by decide:1<=64) _) hr.units
theorem dA{n:Nat}(h:n<=1000):n<sizeLine:=Se h (by decide)
section
variable {X:Cx}
theorem pv (i:Nat) {x:Str} {pos:Pos} (hN:X.N[i]?=some x:=by rfl) (hv:Hc X.env.scope x:=by first|exact Or.inl rfl|exact Or.inr (Or.inl rfl)|exact Or.inr (Or.inr rfl)) (hd:(x == ("__debug__":Str))=false:=by decide)
  (jc:(x == ("__classdict__":Str))=false:=by decide):PE X (.Name x pos) (yQ i):=DR hN hv hd jc
end
theorem uu{A B:Prop}(h:B):if false=true then A else B:=by
 rw [if_neg Bool.false_ne_true]
 exact h
theorem oD{A B:Prop}(h:A):if true=true then A else B:=by
 rw [if_pos rfl]
 exact h
def aj(H H':Hp):Prop:=∀ b o,H b=some o->H' b=some o
theorem aj.refl(H:Hp):aj H H:=fun _ _ h=>h
theorem aj.trans{H H1 H2:Hp}(a:aj H H1)(b:aj H1 H2):aj H H2:=fun c o h=>b c o (a c o h)
theorem aj.seq{K:Frag}{H H':Hp}{a:Addr}{xs:List V}(e:aj H H')(h:b5 K H a xs):b5 K H' a xs:=by
 rcases h with (h|⟨o,h⟩)|h
 ·exact .inl (.inl (e _ _ h))
 ·exact .inl (.inr ⟨o,e _ _ h⟩)
 ·exact .inr h
end L2
namespace L2
open PySem
def kH(cells:List (Str×Addr)):List (Str×NameKind)->List (Str×Addr)->List (Str×Addr)
 | [],acc=>acc
 | (n,k)::r,acc=>kH cells r (if k == .free then (match cells.lookup n with|some c=>(n,c)::acc|none=>acc) else acc)
theorem uv{scope:Scope}{env:Env}(h:∀ p∈scope.names,p.2=.free->∃ c,env.cells.lookup p.1=some c):closureFor scope env=pure (kH env.cells scope.names []):=by
 have key:∀ (names:List (Str×NameKind)) (acc:List (Str×Addr)),(∀ p∈names,p.2=.free->∃ c,env.cells.lookup p.1=some c) ->
   (forIn names acc (fun (x:Str×NameKind) (cs:List (Str×Addr))=>if (x.2 == NameKind.free)=true then (do let c <- cellOf env x.1;pure (ForInStep.yield ((x.1,c)::cs))) else pure (ForInStep.yield cs)):Sem (List (Str×Addr)))=pure (kH env.cells names acc):=by
  intro names
  induction names with
  | nil=>intro acc _;rfl
  | cons p r ih =>
   intro acc hp
   obtain ⟨n,k⟩:=p
   rw [forIn_cons]
   by_cases hk:k=.free
   ·subst hk
    obtain ⟨c,hc⟩:=hp (n,.free) mem_cons_self rfl
    have e:cellOf env n=pure c:=by unfold cellOf;rw [show env.cells.lookup n=some c from hc]
    show (if (NameKind.free == NameKind.free)=true then _ else _) >>= _=_
    rw [if_pos (by rfl)]
    dsimp only
    rw [e]
    show (forIn r ((n,c)::acc) _:Sem _)=_
    rw [ih _ fun q hq=>hp q (Sb _ hq)]
    simp [kH,show env.cells.lookup n=some c from hc]
   ·have C5:(k == NameKind.free)=false:=by simpa using hk
    show (if (k == NameKind.free)=true then _ else _) >>= _=_
    rw [if_neg (by rw [C5];exact Bool.false_ne_true)]
    show (forIn r acc _:Sem _)=_
    rw [ih _ fun q hq=>hp q (Sb _ hq)]
    simp [kH,C5]
 unfold closureFor
 have k:=key scope.names [] h
 exact (congrArg (fun m:Sem (List (Str×Addr))=>m >>= fun cs=>pure cs) k).trans rfl
theorem rp{cells:List (Str×Addr)}:∀ {names:List (Str×NameKind)} {acc:List (Str×Addr)},(∀ x c,acc.lookup x=some c->cells.lookup x=some c)->∀ x c,(kH cells names acc).lookup x=some c->cells.lookup x=some c
 | [],acc,h,x,c,e=>h x c e
 | (n,k)::r,acc,h,x,c,e=>by
  refine rp (names:=r) (fun y d q=>?_) x c e
  split at q
  ·split at q
   ·rename_i c0 En
    rw [lookup_cons] at q
    split at q
    ·rename_i hy
     have GN:y=n:=by simpa using hy
     subst GN
     rw [En];exact q
    ·exact h y d q
   ·exact h y d q
  ·exact h y d q
theorem rq{cells:List (Str×Addr)}:∀ {names:List (Str×NameKind)} {acc:List (Str×Addr)} {x:Str},(acc.lookup x).isSome=true\/((x,NameKind.free)∈names/\(cells.lookup x).isSome=true)->((kH cells names acc).lookup x).isSome=true
 | [],acc,x,h=>by
  rcases h with h|h
  ·exact h
  ·exact absurd h.1 (by simp)
 | (n,k)::r,acc,x,h=>by
  refine rq (names:=r) ?_
  rcases h with h|⟨hm,hc⟩
  ·left
   split
   ·split
    ·rw [lookup_cons];split
     ·rfl
     ·exact h
    ·exact h
   ·exact h
  ·rcases Sd.mp hm with e|hm
   ·injection e with e1 e2
    subst e1;subst e2
    left
    rw [if_pos (by rfl)]
    cases hq:cells.lookup x with
    | none=>rw [hq] at hc;cases hc
    | some c=>simp
   ·exact .inr ⟨hm,hc⟩
section
variable {prog:Program}{w:World}{A:Around}
theorem xl{R:Result->Shared->Prop}{s:Shared}{elt target iter:Expr}{ifs:List Expr}{scope:Scope}{pos:Pos}{it acc:Value}{env:Env}{E:Value->Shared->Prop}(hE:∀ e s',E e s'->notedBy (model prog w) A env (fun e s'=>R (.error e) s') e s')(I:Nat->Shared->Prop)
  (turn:∀ n s,I n s->wpAny (model prog w) A (pyNext it) (fun r s₁=>match r with
   | none=>R (.ok .next) s₁
   | some v=>wpAny (model prog w) A (letOwnedTupleGo target it v) (fun _ Nu=>wpAny (model prog w) A (assign target env v) (fun _ s₂ =>
     wpAny (model prog w) A (forIn ifs true fun c r=>if r=true then do let ok <- isTrue c env (eval c env);pure (ForInStep.yield ok) else pure (ForInStep.yield r)) (fun ok s₃ =>
      if ok=true then wpAny (model prog w) A (eval elt env) (fun x s₄ =>
       wpAny (model prog w) A (call (.builtin "list.append") [acc,x]) (fun _ s₅=>∃ m,m<n/\I m s₅) E s₄) E s₃
      else ∃ m,m<n/\I m s₃) E s₂) E Nu) E s₁) E s)
  (n:Nat) (h:I n s) :
  codeAny (model prog w) A (.compLoop (.ListComp elt [⟨target,iter,ifs,0⟩] scope pos) 0 it acc env) R s:=by
 have nK:∀ {α:Type} {t:Sem α} {Q:α->Shared->Prop} {s:Shared},wpAny (model prog w) A t Q E s->wpAny (model prog w) A t Q (notedBy (model prog w) A env fun e s'=>R (.error e) s') s:=fun q=>RZ q (fun _ _ z=>z) hE
 refine codeAny_loop rfl I (fun n s hI=>?_) n h
 show wpAny _ A ((compTurn (.ListComp elt [⟨target,iter,ifs,0⟩] scope pos) 0 it acc env).onRaise (fun x=>do noteFrame x env;theTreesLotGoes x)) _ _ s
 refine wpAny_noted ?_
 rw [compTurn_list]
 refine RF (wpAny_standAt (RF (RZ (nK (turn n s hI)) (fun r s₁ h₁=>?_) fun _ _ h'=>h')))
 cases r with
 | none=>exact RY h₁
 | some v =>
  refine RF (RZ (nK h₁) (fun _ Nu ON=>?_) fun _ _ h'=>h')
  refine RF (RZ (nK ON) (fun _ s₂ h₂=>RF (RZ (nK h₂) (fun ok s₃ h₃=>?_) fun _ _ h'=>h')) fun _ _ h'=>h')
  cases ok with
  | false=>exact RY ⟨rfl,h₃⟩
  | true =>
   simp only [if_true] at h₃ ⊢
   exact RF (RF (RZ (nK h₃) (fun x s₄ h₄=>RF (RZ (nK h₄) (fun _ s₅ h₅=>RY (RY ⟨rfl,h₅⟩)) fun _ _ h'=>h')) fun _ _ h'=>h'))
end
open PySem PySem.Spec PyProof.Rows
abbrev ee(X:Cx)(pins:List (Addr×Obj))(N:List Str)(scope:Scope)(C:Addr)(s:Shared)(H:Hp)(fp:List Addr):Cx :=
 { X with N:=N,s₀:=s,H₀:=H,env:=compEnvC scope (kH X.env.cells scope.names []) C X.env,outer:=X.stack,stack:=X.stack,ex:=fp,fn:=fun _=>false,pn:=X.pn++pins,xe:=fun _ _=>False }
def pick(ix:List (Option Nat))(σ:St):St:=ix.map fun o=>o.bind fun j=>(σ[j]?).join
def kI(X:Cx)(scope:Scope):List Str->List (Option Nat)->Prop
 | [],[]=>True
 | _::N,none::ix=>kI X scope N ix
 | x::N,some j::ix=>(X.N[j]?=some x/\Hc X.env.scope x/\(X.env.scope.names.lookup x == some .local)=false/\scope.names.lookup x=some .free)/\kI X scope N ix
 | _,_=>False
theorem kI.len{X:Cx}{scope:Scope}:∀ {N:List Str} {ix:List (Option Nat)},kI X scope N ix->ix.length=N.length
 | [],[],_=>rfl
 | [],none::_,h=>h.elim
 | [],some _::_,h=>h.elim
 | _::_,[],h=>h.elim
 | _::N,none::ix,h=>by simp only [length_cons];rw [kI.len (N:=N) (ix:=ix) h]
 | _::N,some _::ix,h=>by simp only [length_cons];rw [kI.len (N:=N) (ix:=ix) h.2]
theorem kI.get{X:Cx}{scope:Scope}:∀ {N:List Str} {ix:List (Option Nat)} {i j:Nat} {x:Str},kI X scope N ix->N[i]?=some x->ix[i]?=some (some j) ->
  X.N[j]?=some x/\Hc X.env.scope x/\(X.env.scope.names.lookup x == some .local)=false/\scope.names.lookup x=some .free
 | [],[],_,_,_,_,h,_=>by simp at h
 | [],none::_,_,_,_,h,_,_=>h.elim
 | [],some _::_,_,_,_,h,_,_=>h.elim
 | _::_,[],_,_,_,h,_,_=>h.elim
 | _::N,none::ix,0,_,_,_,_,e=>by simp at e
 | _::N,none::ix,i+1,_,_,h,h1,e=>kI.get (N:=N) (ix:=ix) (i:=i) h (by simpa using h1) (by simpa using e)
 | y::N,some k::ix,0,j,x,h,h1,e=>by
  simp at h1 e
  subst h1;subst e
  exact h.1
 | _::N,some _::ix,i+1,_,_,h,h1,e=>kI.get (N:=N) (ix:=ix) (i:=i) h.2 (by simpa using h1) (by simpa using e)
theorem zl{ix:List (Option Nat)}{σ:St}{i:Nat}{v:V}(h:(pick ix σ)[i]?=some (some v)):∃ j,ix[i]?=some (some j)/\σ[j]?=some (some v):=by
 unfold pick at h
 rw [Sj] at h
 cases e:ix[i]? with
 | none=>rw [e] at h;cases h
 | some o =>
  rw [e] at h
  cases o with
  | none=>cases h
  | some j =>
   refine⟨j,rfl,?_⟩
   have h':(σ[j]?).join=some v:=RS h
   cases q:σ[j]? with
   | none=>rw [q] at h';cases h'
   | some z=>rw [q] at h';have h2:z=some v:=h';rw [h2]
theorem dR{env : Env} : ∀ {names : List (Str × NameKind)} {x : Str}, (∀ y ∈ names, y.2 ≠ .cell) ->
    ((names.map fun (n, k) => if (k == NameKind.free && env.scope.kind == .function && env.kindOf n == some .cell) then (n, NameKind.cell) else (n, k)).lookup x=some .cell \/
     (names.map fun (n, k) => if (k == NameKind.free && env.scope.kind == .function && env.kindOf n == some .cell) then (n, NameKind.cell) else (n, k)).lookup x=some .free) -> names.lookup x=some .free
  | [], _, _, h => by simp at h
  | (n, k)::r, x, hc, h => by
    have ih := @dR env r x fun y hy => hc y (Sb _ hy)
    have hk : k ≠ .cell := hc (n, k) mem_cons_self
    rw [map_cons] at h
    cases hx : x == n with
    | true =>
      rw [lookup_cons, hx]
      by_cases j1 : (k == NameKind.free && env.scope.kind == .function && env.kindOf n == some .cell)=true
      · have : k=.free := by
          simp only [Bool.and_eq_true, beq_iff_eq] at j1
          exact j1.1.1
        rw [this]
      · simp only [j1, Bool.false_eq_true, if_false, lookup_cons, hx] at h
        rcases h with h|h
        · exact absurd (RS h) hk
        · exact h
    | false =>
      rw [lookup_cons, hx]
      refine ih ?_
      by_cases j1 : (k == NameKind.free && env.scope.kind == .function && env.kindOf n == some .cell)=true
      · simp only [j1, if_true, lookup_cons, hx] at h
        exact h
      · simp only [j1, Bool.false_eq_true, if_false, lookup_cons, hx] at h
        exact h
theorem iK{env : Env} : ∀ {names : List (Str × NameKind)} {x : Str}, names.lookup x=some .free ->
    ((names.map fun (n, k) => if (k == NameKind.free && env.scope.kind == .function && env.kindOf n == some .cell) then (n, NameKind.cell) else (n, k)).lookup x=some .cell \/
     (names.map fun (n, k) => if (k == NameKind.free && env.scope.kind == .function && env.kindOf n == some .cell) then (n, NameKind.cell) else (n, k)).lookup x=some .free)
  | [], _, h => by simp at h
  | (n, k)::r, x, h => by
    have ih := @iK env r x
    rw [map_cons]
    cases hx : x == n with
    | true =>
      rw [lookup_cons, hx] at h
      have hk : k=.free := RS h
      subst hk
      by_cases j1 : (NameKind.free == NameKind.free && env.scope.kind == .function && env.kindOf n == some .cell)=true
      · simp only [j1, if_true, lookup_cons, hx];exact .inl trivial
      · simp only [j1, Bool.false_eq_true, if_false, lookup_cons, hx];exact .inr trivial
    | false =>
      rw [lookup_cons, hx] at h
      by_cases j1 : (k == NameKind.free && env.scope.kind == .function && env.kindOf n == some .cell)=true
      · simp only [j1, if_true, lookup_cons, hx];exact ih h
      · simp only [j1, Bool.false_eq_true, if_false, lookup_cons, hx];exact ih h
def Nv(Y:Cx):List Expr->TT->Prop
 | [],t=>t=fun _ H Q=>Q true H
 | [c],t=>PT Y c t
 | _,_=>False
def bS(ix:List (Option Nat))(g:TG)(tt:TT)(te:TE)(σ:St)(Q:VK)(J:It)(H1:Hp):Prop:=∀ l,H1 l=none->∃ W:Nat->Nat->St->List V->Hp->Prop,
 (∃ m,W 0 m (pick ix σ) [] (upd H1 l (.lst [])))/\∀ i m σ1 ys H',W i m σ1 ys H'->H' l=some (.lst ys)/\((J.stop i H'/\Q (.ref l) H') \/
  (J.go i H'/\∃ m',m'<m/\∀ x H2,J.Bg i H' x H2->g x σ1 H2 fun σ2 H3=>tt σ2 H3 fun b H4=>if b=true then te σ2 H4 fun y H5=>H5 l=some (.lst ys)/\ys.length<sizeLine/\W (i+1) m' σ2 (ys++[y]) (upd H5 l (.lst (ys++[y]))) else W (i+1) m' σ2 ys H4))
def C6(ix:List (Option Nat))(wi:TI)(g:TG)(tt:TT)(te:TE):TE:=fun σ H Q=>wi σ H fun J H1=>bS ix g tt te σ Q J H1
theorem Un.letGo{fs ex:List Addr}{H H':Hp}{h h1 h2:Heap}{C:Addr}(u:Un fs ex H H' h h1)(hC:h.objs.size<=C)(sb:Heap.SameBut C h1 h2):Un fs ex H H' h h2:=by
 have ne:∀ b o,h.get? b=some o->b≠C:=fun b o e=>Sn (Nat.lt_of_lt_of_le (RI e) hC)
 refine⟨fun b o e n hb hx=>(sb.2 b (ne b o e)).trans (u.keep b o e n hb hx),fun b o e n hb hx=>?_,u.free,fun b o e hx=>?_,u.gV,u.gP,u.gW⟩
 ·obtain ⟨sl,q⟩:=u.slot b o e n hb hx
  exact⟨sl,(sb.2 b (ne b o e)).trans q⟩
 ·obtain ⟨o',q⟩:=u.there b o e hx
  exact⟨o',(sb.2 b (ne b o e)).trans q⟩
theorem dO.letGo{P:Program}{w:World}{H:Hp}{h h':Heap}{C:Addr}(x:dO P w H h)(hC:H C=none)(sb:Heap.SameBut C h h'):dO P w H h':=fun a o e=>by
 have na:∀ b u,H b=some u->b≠C:=fun b u q z=>by rw [z,hC] at q;cases q
 refine (x a o e).l8 (fun b u hb q=>(sb.2 b ?_).trans q) (fun _ q=>q) fun _ _ q=>q
 rcases hb with rfl|hb
 ·exact na _ _ e
 ·exact na _ _ hb
section
variable {X:Cx}
theorem zm{Y:Cx}{ifs:List Expr}{tt:TT}(ht:Nv Y ifs tt){pins:List (Addr×Obj)}{s:Shared}{σ:St}{H:Hp}{Q:Bool->Hp->Prop}(I:Inv Y pins σ H s)(h:tt σ H Q) :
  wpAny (model Y.prog Y.w) Y.A (forIn ifs true fun c r=>if r=true then do let ok <- isTrue c Y.env (eval c Y.env);pure (ForInStep.yield ok) else pure (ForInStep.yield r)) (TP Y pins σ Q) Y.xe s:=by
 match ifs,ht with
 | [],ht =>
  have e:tt=fun _ H Q=>Q true H:=ht
  subst e
  exact wpAny_tests_nil ⟨H,I,h⟩
 | [c],ht=>exact wpAny_tests_one ((show PT Y c tt from ht) pins s σ H Q I h)
 | _::_::_,ht=>exact False.elim ht
theorem dt{tg iter elt:Expr}{ifs:List Expr}{scope:Scope}{pos:Pos}{N:List Str}{ix:List (Option Nat)}{wi:TI}{g:TG}{tt:TT}{te:TE}
  (hc:X.calm=true) (hi:PI X tg iter wi)
  (hg:∀ pins C s H fp,PG (ee X pins N scope C s H fp) tg g)
  (ht:∀ pins C s H fp,Nv (ee X pins N scope C s H fp) ifs tt)
  (he:∀ pins C s H fp,PE (ee X pins N scope C s H fp) elt te)
  (hk:scope.kind=.function) (qX:∀ y∈scope.names,y.2≠.cell) (Eo:∀ y∈scope.names,y.2=.local->scope.names.lookup y.1=some .local)
  (K0:(scope.names.all fun y=>!(y.2 == NameKind.free) || (X.env.cells.lookup y.1).isSome)=true) (Nw:kI X scope N ix)
  (hs:∀ x,foldedSetIterable iter X.env x=pure x:=by intro _;rfl) :
  PE X (.ListComp elt [⟨tg,iter,ifs,0⟩] scope pos) (C6 ix wi g tt te):=by
 intro pins s σ H Q I h
 have ja:∀ y∈scope.names,y.2=.free->(X.env.cells.lookup y.1).isSome=true:=fun y hy e=>by
  have z:=all_eq_true.mp K0 y hy
  rw [e] at z
  simpa using z
 have K1:∀ p∈scope.names,p.2=.free->∃ c,X.env.cells.lookup p.1=some c:=fun p hp e=>RX.mp (ja p hp e)
 have kJ:∀ x c,(kH X.env.cells scope.names []).lookup x=some c->X.env.cells.lookup x=some c:=rp (fun x c q=>by simp at q)
 have C7:∀ x,scope.names.lookup x=some .free->∃ c,(kH X.env.cells scope.names []).lookup x=some c:=fun x hx=>by
  have hm:=PySem.mem_of_lookup hx
  exact RX.mp (rq (.inr ⟨hm,ja _ hm rfl⟩))
 rw [eval_ListComp]
 refine wpAny_comprehension_free (use:=none) rfl hs (uv K1) hk Eo (cx (hi pins s σ H _ I h) fun v s1 h1=>cx h1 fun Kz s2 h2=>?_)
 obtain ⟨it,fp,tn,J,H2,e,I2,T,J2,f2,hW⟩:=h2
 subst e
 have Ep:H2 s2.heap.objs.size=none:=I2.bz.fresh (RM _)
 obtain ⟨W,⟨m0,w0⟩,turn⟩:=hW s2.heap.objs.size Ep
 refine wpAny_newObj_type ?_
 have I3:Inv X pins σ (upd H2 s2.heap.objs.size (.lst [])) { s2 with heap:=s2.heap.push { cls:=.type "list",data:=.seq ([]:List Value).toArray } }:=I2.Eg (its:=[]) (t':=s2.toks) .nil (Sm _)
 have f3:∀ b∈fp,md X pins (upd H2 s2.heap.objs.size (.lst [])) b:=fun b hb=>by
  refine⟨?_,(f2 b hb).2⟩
  obtain ⟨o,eo,_⟩:=T.obj _ _ J2 b hb
  rw [aE (Sn (RI eo))]
  exact (f2 b hb).1
 have C2:tn 0 (s2.heap.push { cls:=.type "list",data:=.seq ([]:List Value).toArray }):=T.keep _ _ _ J2 fun b _ o e=>RE _ e
 generalize xm:({ s2 with heap:=s2.heap.push { cls:=.type "list",data:=.seq ([]:List Value).toArray } }:Shared)=s3 at I3
 have C2:tn 0 s3.heap:=by rw [<- xm];exact C2
 generalize QY:upd H2 s2.heap.objs.size (.lst [])=H3 at I3 f3 w0
 generalize OO:s2.heap.objs.size=acc at *
 refine wpAny_newFunctionEnv qX (by intro y hy;simp at hy) (fun h₁ K2 K3=>?_) hk
 have old:∀ b o,s3.heap.get? b=some o->h₁.get? b=some o:=fun b o q=>K3.extBut b o (Sn (RI q)) (RE _ q)
 have Er:H3 s3.heap.objs.size=none:=I3.bz.fresh (RM _)
 have Nx:∀ b∈fp,b<s3.heap.objs.size:=fun b hb=>by
  obtain ⟨o,eo,_⟩:=T.obj _ _ C2 b hb
  exact RI eo
 have Es:∀ b,b≠X.env.locals->b∉X.fs->b∉i8 X.stack:=fun b h1 h2 z=>by
  rcases Sd.mp (I3.fP b z) with q|q
  ·exact h1 q
  ·exact h2 q
 have QZ:∀ x c,X.env.cells.lookup x=some c->c<s3.heap.objs.size:=fun x c q=>by
  obtain ⟨v,z⟩:=I3.cell x c q
  exact z.lt
 have YI:∀ (h':Heap) (m:Str->Option Value),(∀ b o,s3.heap.get? b=some o->h'.get? b=some o)->h'.Ns s3.heap.objs.size m ->
   Inv (ee X pins N scope s3.heap.objs.size s3 H3 fp) [] (pick ix σ) H3 { s3 with heap:=h',toks:=s3.toks+([]:List (Str×Value)).length }:=by
  intro h' m C5 hn
  refine⟨⟨I3.ok.mod,hk,I3.ok.glob,I3.ok.blt,RM _,fun x y c q1 q2=>I3.ok.inj x y c (kJ x c q1) (kJ y c q2),fun x hx=>C7 x (dR qX hx),fun x c hf _=>absurd hf Bool.false_ne_true,
   I3.ok.hd,I3.ok.frames,.inl rfl,fun b hb=>⟨Sn (Nx b hb),fun x c q=>(f3 b hb).2.2.2.2.1 x c (kJ x c q)⟩,I3.bs,RL I3.ok.vO I3.sz,fun b o e hb=>?_,fun b hb=>Es b (f3 b hb).2.1 (f3 b hb).2.2.1,I3.stack,I3.eS⟩,
   rfl,I3.bare,Un.kept C5,⟨m,hn,fun i x v h1 h2 h3=>?_⟩,fun x c q=>?_,Er,fun x c q=>I3.cK x c (kJ x c q),fun p hp=>?_,I3.bz.kept C5,?_⟩
  ·have q:=(I3.bs b o e).2
   rcases (f3 b hb).2.2.2.1 with z|z
   ·exact I3.ok.l9 b o e z
   ·exact absurd (Nat.lt_of_lt_of_le (RI e) (RL I3.ok.vO z)) (Nat.lt_irrefl _)
  ·obtain ⟨j,e1,e2⟩:=zl h2
   obtain ⟨a1,a2,a3,a4⟩:=Nw.get h1 e1
   obtain ⟨mX,Q0,OP⟩:=I3.loc
   obtain ⟨u,ru,l⟩:=OP j x v a1 e2 a2
   refine⟨u,ru,?_⟩
   rcases l with ⟨l1,_⟩|⟨_,c,lc,z⟩
   ·have OQ:X.env.scope.names.lookup x=some .local:=l1
    rw [OQ] at a3
    exact absurd a3 (by decide)
   ·obtain ⟨c',ud⟩:=C7 x a4
    have ec:=kJ x c' ud
    rw [lc] at ec
    have OR:c=c':=RS ec
    subst OR
    exact .inr ⟨iK a4,c,ud,z.keeps C5⟩
  ·obtain ⟨v,z⟩:=I3.cell x c (kJ x c q)
   exact⟨v,z.keeps C5⟩
  ·have OS:p∈X.pn++pins:=by simpa using hp
   obtain ⟨a1,a2,a3,a4,a5⟩:=I3.pin p OS
   exact⟨C5 _ _ a1,a2,Sn (RI a1),Es p.1 a3 a4,a5⟩
  ·show (pick ix σ).length=N.length
   unfold pick
   rw [R9]
   exact Nw.len
 have K4:∀ {pl:List (Addr×Obj)} {H':Hp},pl=[]->(∀ b∈fp,H' b=none)->∀ b∈fp,md (ee X pins N scope s3.heap.objs.size s3 H3 fp) pl H' b:=fun {pl H'} OT hn b hb=>by
  obtain ⟨f0,f1,Ny,Nz,f4,f5⟩:=f3 b hb
  subst OT
  exact⟨hn b hb,Sn (Nx b hb),Es b f1 Ny,.inl hb,fun x c q=>f4 x c (kJ x c q),fun p hp=>f5 p (by simpa using hp)⟩
 have loop:∀ s4:Shared,(∃ m,s4={ s3 with heap:=h₁,toks:=s3.toks+([]:List (Str×Value)).length }/\h₁.Ns s3.heap.objs.size m) ->
   codeAny (model X.prog X.w) X.A (.compLoop (.ListComp elt [⟨tg,iter,ifs,0⟩] scope pos) 0 (.ref it) (.ref acc) (compEnvC scope (kH X.env.cells scope.names []) s3.heap.objs.size X.env))
    (compPost (model X.prog X.w) X.A X.xe none (EP X pins σ Q) (.ref acc) s3.heap.objs.size) s4:=by
  rintro s4 ⟨m4,rfl,HU⟩
  refine xl (E:=fun _ _=>False) (fun _ _ z=>z.elim)
   (fun n s'=>∃ i σ' ys H',Inv (ee X pins N scope s3.heap.objs.size s3 H3 fp) [] σ' H' s'/\tn i s'.heap/\(∀ b∈fp,H' b=none)/\W i n σ' ys H') ?_ m0
   ⟨0,pick ix σ,[],H3,YI h₁ m4 old HU,T.keep _ _ _ C2 fun b _ o q=>old b o q,fun b hb=>(f3 b hb).1,w0⟩
  rintro n s5 ⟨i,σ5,ys,H5,I5,GI,J3,w5⟩
  obtain ⟨Q1,HV⟩:=turn i n σ5 ys H5 w5
  rcases HV with ⟨stop,q⟩|⟨go,m',dB,step⟩
  ·refine cx (T.done (ee X pins N scope s3.heap.objs.size s3 H3 fp) rfl rfl rfl hc i [] s5 σ5 H5 (fun _ _=>False) I5 (K4 rfl J3) GI stop) fun r s6 ⟨hr,I6⟩=>?_
   subst hr
   obtain ⟨m6,OV,_⟩:=I6.loc
   refine⟨m6,OV,fun h' sb=>?_⟩
   refine⟨.ref acc,H5,I3.CQ (ch:=fp) I6.os (I6.base.letGo (RM _) sb) (I6.bz.letGo I6.free sb) I6.bare fun b hb=>?_,rfl,q⟩
   obtain ⟨f0,f1,Ny,Nz,f4,f5⟩:=f3 b hb
   exact⟨Nz,f1,f4,f5⟩
  ·refine cx (T.item (ee X pins N scope s3.heap.objs.size s3 H3 fp) rfl rfl rfl hc i [] s5 σ5 H5 (fun _ _=>False) I5 (K4 rfl J3) GI go) fun r s6 ⟨u,hr,h6⟩=>?_
   subst hr
   refine cx h6 fun _ s7 ⟨x,H7,I7,r7,y7,K5,OW⟩=>?_
   have OX:=I7.pinned (K4 rfl OW) (T.obj _ _ K5)
   refine cx (hg pins s3.heap.objs.size s3 H3 fp _ s7 σ5 H7 x u _ OX r7 (step x H7 y7)) fun _ s8 ⟨σ8,H8,I8,q8⟩=>?_
   refine cx (zm (ht pins s3.heap.objs.size s3 H3 fp) I8 q8) fun b s9 ⟨H9,I9,q9⟩=>?_
   have back:∀ {σz:St} {Hz:Hp} {sz:Shared} {yz:List V},Inv (ee X pins N scope s3.heap.objs.size s3 H3 fp) ([]++kz fp s7.heap) σz Hz sz->W (i+1) m' σz yz Hz ->
     ∃ m,m<n/\∃ i σ' ys H',Inv (ee X pins N scope s3.heap.objs.size s3 H3 fp) [] σ' H' sz/\tn i sz.heap/\(∀ b∈fp,H' b=none)/\W i m σ' ys H':=fun {σz Hz sz yz} Iz wz=>by
    refine⟨m',dB,i+1,σz,yz,Hz,Iz.iH,T.keep _ _ _ K5 fun b hb o e=>(Iz.pin (b,o) (R4 _ (R4 _ (eU hb e)))).1,fun b hb=>?_,wz⟩
    obtain ⟨o,e,d⟩:=T.obj _ _ K5 b hb
    exact (Iz.pin (b,o) (R4 _ (R4 _ (eU hb e)))).2.1
   cases b with
   | false=>exact back I9 q9
   | true =>
    refine cx (he pins s3.heap.objs.size s3 H3 fp _ s9 σ8 H9 _ I9 q9) fun v K6 ⟨y,K7,OY,OZ,K8,K9,O0⟩=>?_
    refine cx (br _ K6 σ8 K7 (.ref acc) [y] (.ref acc) [v] (fun _ H'=>H'=upd K7 acc (.lst (ys++[y]))) OY rfl (.cons OZ .nil) ⟨acc,ys,y,rfl,rfl,K8,K9,rfl⟩) fun _ Q2 ⟨_,Q3,O1,_,O2⟩=>?_
    subst O2
    exact back O1 O0
 have HU:∃ m,h₁.Ns s3.heap.objs.size m:=⟨_,K2⟩
 obtain ⟨m4,HU⟩:=HU
 have L:=loop _ ⟨m4,rfl,HU⟩
 exact codeAny_compStart_list L (T.self _ 0 _ _ _ (T.keep _ _ _ C2 fun b _ o q=>old b o q) L)
end
end L2
namespace L2
open PySem
theorem dS{a b:Nat}(h:@Ne Nat a b):@Ne Addr a b:=h
def cw(k:Bool)(h:Heap)(a:Addr)(xs:Array Value):Prop:=match k with|true=>h.IsTuple a xs|false=>h.IsList a xs
def iL(k:Bool)(h:Heap)(it a:Addr)(i:Nat):Prop:=match k with|true=>h.IsTupleIter it a i|false=>h.IsListIter it a i
def dU (k:Bool) (a:Addr):Obj:=match k with|true=>{ cls:=.type "tuple_iterator",data:=.fields #[.ref a,.int 0 0] }|false=>{ cls:=.type "list_iterator",data:=.fields #[.ref a,.int 0 0] }
abbrev IsT (h:Heap) (T:Addr) (vs:Array Value):Prop:=h.get? T=some { cls:=.type "tuple",data:=.seq vs }
theorem cw.keep{k:Bool}{h h':Heap}{a:Addr}{xs:Array Value}(x:cw k h a xs)(hk:∀ o,h.get? a=some o->h'.get? a=some o):cw k h' a xs:=by
 cases k with
 | true=>obtain ⟨o,e,r⟩:=x;exact⟨o,hk o e,r⟩
 | false=>obtain ⟨o,e,r⟩:=x;exact⟨o,hk o e,r⟩
theorem iL.keep{k:Bool}{h h':Heap}{it a:Addr}{i:Nat}(x:iL k h it a i)(hk:∀ o,h.get? it=some o->h'.get? it=some o):iL k h' it a i:=by
 cases k with
 | true=>obtain ⟨o,e,r⟩:=x;exact⟨o,hk o e,r⟩
 | false=>obtain ⟨o,e,r⟩:=x;exact⟨o,hk o e,r⟩
theorem iL.obj{k:Bool}{h:Heap}{it a:Addr}{i:Nat}(x:iL k h it a i):∃ o,h.get? it=some o/\∀ v,o.data≠.cell v:=by
 cases k with
 | true=>obtain ⟨o,e,_,d⟩:=x;exact⟨o,e,fun v z=>by rw [d] at z;cases z⟩
 | false=>obtain ⟨o,e,_,d⟩:=x;exact⟨o,e,fun v z=>by rw [d] at z;cases z⟩
theorem cw.lt{k:Bool}{h:Heap}{a:Addr}{xs:Array Value}(x:cw k h a xs):a<h.objs.size:=by
 cases k with
 | true=>obtain ⟨o,e,_⟩:=x;exact RI e
 | false=>obtain ⟨o,e,_⟩:=x;exact RI e
theorem rz{k:Bool}{h:Heap}{it a:Addr}(e:h.get? it=some (dU k a)):iL k h it a 0:=by
 cases k with
 | true=>exact⟨_,e,rfl,rfl⟩
 | false=>exact⟨_,e,rfl,rfl⟩
section
variable {prog:Program}{w:World}{A:Around}{E:Value->Shared->Prop}{s:Shared}
theorem rA{k:Bool}{a:Addr}{xs:Array Value}{Q:Value->Shared->Prop}(h:cw k s.heap a xs)(hQ:Q (.ref s.heap.objs.size) { s with heap:=s.heap.push (dU k a) }):wpAny (model prog w) A (pyIter (.ref a)) Q E s:=by
 cases k with
 | true=>exact wpAny_pyIter_tuple h hQ
 | false=>exact wpAny_pyIter_list h hQ
theorem iM{it t:Addr}{i:Nat}{items}{x:Value}{Q:Value->Shared->Prop}(hit:s.heap.IsTupleIter it t i)
  (ht:s.heap.IsTuple t items) (hx:items[i]?=some x)
  (hQ:∀ h',h'.IsTupleIter it t (i+1)->Heap.SameBut it s.heap h'->Q x { s with heap:=h' }) :
  wpAny (model prog w) A (Builtin.SmallTypes.nextOf (.ref it)) Q E s:=by
 obtain ⟨o,ho,hc,hd⟩:=id hit
 obtain ⟨ol,La,_,nl,Lc⟩:=ht
 unfold Builtin.SmallTypes.nextOf
 refine RF (wpAny_callSpecial?_slot (name:=Str.ofString "__next__") hit.typeIs F.slot_tuple_iterator_next
  (wpAny_call_entry F.slot_tuple_iterator_next hit.typeIs F.entry_tuple_iterator_next ?_ (F.args_tuple_iterator_next_1 _)))
 show wpAny _ _ (field (.ref it) 0 >>= _) _ _ s
 refine RF (wpAny_field ho hd (x:=.ref t) rfl ?_)
 show wpAny _ _ (if (Value.ref t == Value.none)=true then _ else _) _ _ s
 rw [if_neg (show ¬ ((Value.ref t == Value.none)=true) from Bool.false_ne_true)]
 show wpAny _ _ (field (.ref it) 1 >>= _) _ _ s
 refine RF (wpAny_field ho hd (x:=.int i 0) rfl ?_)
 show wpAny _ _ (seqItems? (.ref t) >>= _) _ _ s
 refine RF (wpAny_seqItems La Lc ?_)
 simp only [Su,hx]
 refine RF (wpAny_setField ho hd (by simp) (RY ⟨x,rfl,RY (hQ _ ?_ (Heap.SameBut.update ..))⟩))
 exact⟨_,Heap.get?_update_self _ ho (Obj.isFreed_of_fields (Obj.data_mapFields hd _)),(Obj.cls_mapFields ..).trans hc,by
  rw [Obj.data_mapFields hd];simp [rawInt]⟩
theorem ji{it t:Addr}{i:Nat}{items}{Q:Value->Shared->Prop}(hh:A.handled=none)
  (hit:s.heap.IsTupleIter it t i) (ht:s.heap.IsTuple t items) (hx:items[i]?=none)
  (hE:∀ h' e,Heap.ExtBut it s.heap h'->(∃ o,h'.get? e=some o/\o.cls=.type "StopIteration")->E (.ref e) { s with heap:=h' }) :
  wpAny (model prog w) A (Builtin.SmallTypes.nextOf (.ref it)) Q E s:=by
 obtain ⟨o,ho,hc,hd⟩:=id hit
 obtain ⟨ol,La,_,nl,Lc⟩:=ht
 unfold Builtin.SmallTypes.nextOf
 refine RF (wpAny_callSpecial?_slot (name:=Str.ofString "__next__") hit.typeIs F.slot_tuple_iterator_next
  (wpAny_call_entry F.slot_tuple_iterator_next hit.typeIs F.entry_tuple_iterator_next ?_ (F.args_tuple_iterator_next_1 _)))
 show wpAny _ _ (field (.ref it) 0 >>= _) _ _ s
 refine RF (wpAny_field ho hd (x:=.ref t) rfl ?_)
 show wpAny _ _ (if (Value.ref t == Value.none)=true then _ else _) _ _ s
 rw [if_neg (show ¬ ((Value.ref t == Value.none)=true) from Bool.false_ne_true)]
 show wpAny _ _ (field (.ref it) 1 >>= _) _ _ s
 refine RF (wpAny_field ho hd (x:=.int i 0) rfl ?_)
 show wpAny _ _ (seqItems? (.ref t) >>= _) _ _ s
 refine RF (wpAny_seqItems La Lc ?_)
 simp only [Su,hx]
 refine RF (wpAny_rule (RF (wpAny_setField ho hd (by simp) ?_)))
 show wpAny _ _ (newExc (.type "StopIteration") [] >>= _) _ _ _
 refine RF ?_
 simp only [newExc,newTuple]
 refine RF (wpAny_newObj_type ?_ (by size_fits))
 refine RF (m:=firstArgMember _ _) (wpAny_of_eq (a:=Value.none) (by first|rfl|(simp only [firstArgMember];rfl)) ?_)
 refine wpAny_newObj_type ?_ (by size_fits)
 simp only [raiseNew]
 refine RF (wpAny_handled ?_)
 first|rw [show A.in1.handled=none from hh]|rw [hh]
 refine RF (RY (wpAny_throw ?_))
 exact hE _ _ (((Heap.SameBut.update ..).extBut.push _).push _) ⟨_,RJ _ rfl,rfl⟩
theorem kK{k:Bool}{it a:Addr}{i:Nat}{xs:Array Value}{x:Value}{Q:Value->Shared->Prop}(hit:iL k s.heap it a i)(hs:cw k s.heap a xs)(hx:xs[i]?=some x)
  (hQ:∀ h',iL k h' it a (i+1)->Heap.SameBut it s.heap h'->Q x { s with heap:=h' }):wpAny (model prog w) A (Builtin.SmallTypes.nextOf (.ref it)) Q E s:=by
 cases k with
 | true=>exact iM hit hs hx hQ
 | false=>exact wpAny_nextOf_list_item hit hs hx hQ
theorem v3{k:Bool}{it a:Addr}{i:Nat}{xs:Array Value}{Q:Value->Shared->Prop}(hh:A.handled=none)(hit:iL k s.heap it a i)(hs:cw k s.heap a xs)(hx:xs[i]?=none)
  (hE:∀ h' e,Heap.ExtBut it s.heap h'->(∃ o,h'.get? e=some o/\o.cls=.type "StopIteration")->E (.ref e) { s with heap:=h' }):wpAny (model prog w) A (Builtin.SmallTypes.nextOf (.ref it)) Q E s:=by
 cases k with
 | true=>exact ji hh hit hs hx hE
 | false=>exact wpAny_nextOf_list_end hh hit hs hx hE
theorem oE{T:Addr}{vs:Array Value}{x:Value}{k:Nat}{Q:Unit->Shared->Prop}(hT:IsT s.heap T vs)(hz:vs.size<=8)
  (h:∀ h',IsT h' T (vs.setIfInBounds k x)->Heap.SameBut T s.heap h'->Q () { s with heap:=h' }):wpAny (model prog w) A (updateSeq T (·.setIfInBounds k x)) Q E s:=by
 have Ld:vs.size<=sizeLine:=RL hz (by decide)
 refine wpAny_updateSeq (hz:=Ld) (_hz':=by simp only [Array.size_setIfInBounds];lia) hT rfl (h _ ?_ (Heap.SameBut.update ..))
 show (s.heap.update T _).get? T=_
 rw [Heap.get?_update_self _ hT rfl]
 simp [Obj.mapSeq]
structure rB(k1 k2:Bool)(n a b:Nat)(i:Nat)(f0:Value)(h:Heap):Prop where
 z:IsZip h (n+4) (n+2) (n+3) f0
 ti:IsT h (n+2) #[.ref n,.ref (n+1)]
 to:∃ u v,IsT h (n+3) #[u,v]
 i1:iL k1 h n a i
 i2:iL k2 h (n+1) b i
def Off(l:List Addr)(h h':Heap):Prop:=∀ c o,c∉l->h.get? c=some o->h'.get? c=some o
theorem Off.of{c:Addr}{l:List Addr}{h h':Heap}(s:Heap.SameBut c h h')(hc:c∈l):Off l h h':=fun b o hb e=>(s.2 b fun z=>hb (z ▸ hc)).trans e
theorem Off.trans{l:List Addr}{h h1 h2:Heap}(a:Off l h h1)(b:Off l h1 h2):Off l h h2:=fun c o hc e=>b c o hc (a c o hc e)
theorem xn{k1 k2:Bool}{n a b:Nat}{i:Nat}{xs ys:Array Value}{x y:Value}{Q:Value->Shared->Prop}(Z:rB k1 k2 n a b i .none s.heap)(ha:a<n)(hb:b<n)
  (h1:cw k1 s.heap a xs) (h2:cw k2 s.heap b ys) (hx:xs[i]?=some x) (hy:ys[i]?=some y)
  (hQ:∀ h',rB k1 k2 n a b (i+1) (rawInt s.heap.objs.size) h'->IsT h' s.heap.objs.size #[x,y]->h'.objs.size=s.heap.objs.size+1->Off [n,n+1,n+3,n+4] s.heap h'->Q (.ref s.heap.objs.size) { s with heap:=h' }) :
  wpAny (model prog w) A (Builtin.«zip.__next__» ⟨[.ref (n+4)],[]⟩) (fun fin s'=>∃ v,fin=.done (.ret v)/\Q v s') E s:=by
 obtain ⟨hz,C8,⟨u,v,Et⟩,C9,Eu⟩:=Z
 show wpAny _ _ (field (.ref (n+4)) 2 >>= _) _ _ _
 refine RF (wpAny_field hz rfl (x:=.bool false) rfl ?_)
 show wpAny _ _ (field (.ref (n+4)) 3 >>= _) _ _ _
 refine RF (wpAny_field hz rfl (x:=.ref (n+2)) rfl ?_)
 refine RF (wpAny_seqItems C8 rfl ?_)
 show wpAny _ _ (Builtin.SmallTypes.ownedTupleIsFree (.ref (n+4)) >>= _) _ _ _
 refine RF ?_
 unfold Builtin.SmallTypes.ownedTupleIsFree
 refine RF (wpAny_field hz rfl (x:=.none) rfl (RY ?_))
 simp only [if_true]
 refine RF (wpAny_rule ?_)
 refine RF (wpAny_field hz rfl (x:=.ref (n+3)) rfl ?_)
 refine RF (wpAny_setField_rec hz (by simp) fun g1 zo mf=>?_)
 replace zo:IsZip g1 (n+4) (n+2) (n+3) .ellipsis:=zo
 refine RF ?_
 simp only [List.zipIdx_cons,List.zipIdx_nil,forIn_cons,forIn_nil]
 refine RF (RF (wpAny_onRaise ?_))
 show wpAny _ _ (Builtin.SmallTypes.nextOf (.ref n) >>= _) _ _ _
 refine RF (kK (C9.keep fun o e=>(mf.2 _ (dS (by lia))).trans e) (h1.keep fun o e=>(mf.2 _ (dS (by lia))).trans e) hx fun g2 HW gC=>RY ?_)
 have zp:IsT g2 (n+3) #[u,v]:=(gC.2 _ (dS (by lia))).trans ((mf.2 _ (dS (by lia))).trans Et)
 refine RF (wpAny_seqItems zp rfl ?_)
 refine RF (oE zp (by simp) fun g3 BN xm=>?_)
 replace BN:IsT g3 (n+3) #[x,v]:=BN
 refine RF (wpAny_letGo (RY ?_))
 refine RF (RF (wpAny_onRaise ?_))
 show wpAny _ _ (Builtin.SmallTypes.nextOf (.ref (n+1)) >>= _) _ _ _
 refine RF (kK (Eu.keep fun o e=>(xm.2 _ (dS (by lia))).trans ((gC.2 _ (dS (by lia))).trans ((mf.2 _ (dS (by lia))).trans e))) (h2.keep fun o e=>(xm.2 _ (dS (by lia))).trans ((gC.2 _ (dS (by lia))).trans ((mf.2 _ (dS (by lia))).trans e))) hy fun g4 Le Dc=>RY ?_)
 have HX:IsT g4 (n+3) #[x,v]:=(Dc.2 _ (dS (by lia))).trans BN
 refine RF (wpAny_seqItems HX rfl ?_)
 refine RF (oE HX (by simp) fun g5 BO HY=>?_)
 replace BO:IsT g5 (n+3) #[x,y]:=BO
 refine RF (wpAny_letGo (RY (RY ?_)))
 refine RF (wpAny_seqItems BO rfl ?_)
 refine RF (wpAny_newTuple ?_)
 have fN:g5.objs.size=s.heap.objs.size:=by rw [HY.1,Dc.1,xm.1,gC.1,mf.1]
 have NA:IsZip g5 (n+4) (n+2) (n+3) .ellipsis:=(HY.2 _ (dS (by lia))).trans ((Dc.2 _ (dS (by lia))).trans ((xm.2 _ (dS (by lia))).trans ((gC.2 _ (dS (by lia))).trans zo)))
 have HZ:Off [n,n+1,n+3,n+4] s.heap g5:=((((Off.of mf (by simp)).trans (Off.of gC (by simp))).trans (Off.of xm (by simp))).trans (Off.of Dc (by simp))).trans (Off.of HY (by simp))
 have Ia:n+4<g5.objs.size:=RI NA
 show wpAny _ _ (Builtin.SmallTypes.ownedTupleHandOut (.ref (n+4)) (.ref g5.objs.size) >>= _) _ _ _
 refine RF ?_
 unfold Builtin.SmallTypes.ownedTupleHandOut
 have O3:IsZip (g5.push { cls:=.type "tuple",data:=.seq #[x,y] }) (n+4) (n+2) (n+3) .ellipsis:=RE _ NA
 refine RF (wpAny_setField_rec O3 (by simp) fun g7 Lg Lh=>?_)
 replace Lg:IsZip g7 (n+4) (n+2) (n+3) (rawInt g5.objs.size):=Lg
 refine wpAny_setField_rec Lg (by simp) fun g8 J8 Li=>?_
 replace J8:IsZip g8 (n+4) (n+2) (n+3) (rawInt g5.objs.size):=J8
 have up:∀ c o,c≠n+4->g5.get? c=some o->g8.get? c=some o:=fun c o c1 e=>(Li.2 _ c1).trans ((Lh.2 _ c1).trans (RE _ e))
 have NB:IsT g8 g5.objs.size #[x,y]:=(Li.2 _ (Nat.ne_of_gt Ia)).trans ((Lh.2 _ (Nat.ne_of_gt Ia)).trans (RJ _ rfl))
 have Ib:g8.objs.size=g5.objs.size+1:=by rw [Li.1,Lh.1,Heap.size_push]
 rw [fN] at J8 NB Ib
 refine RY ⟨_,rfl,?_⟩
 show Q (.ref g5.objs.size) _
 rw [fN]
 refine hQ g8 ⟨J8,up _ _ (dS (by lia)) (HZ _ _ (by simp) C8),⟨x,y,up _ _ (dS (by lia)) BO⟩,?_,?_⟩ NB Ib fun c o hc e=>?_
 ·exact HW.keep fun o e=>up _ o (dS (by lia)) ((HY.2 _ (dS (by lia))).trans ((Dc.2 _ (dS (by lia))).trans ((xm.2 _ (dS (by lia))).trans e)))
 ·exact Le.keep fun o e=>up _ o (dS (by lia)) ((HY.2 _ (dS (by lia))).trans e)
 ·exact up c o (fun z=>hc (by simp [z])) (HZ c o hc e)
theorem xo{k1 k2:Bool}{n a b:Nat}{i:Nat}{xs ys:Array Value}{Q:Fin->Shared->Prop}(hh:A.handled=none)(Z:rB k1 k2 n a b i .none s.heap)(ha:a<n)(hb:b<n)
  (h1:cw k1 s.heap a xs) (h2:cw k2 s.heap b ys) (uw:xs[i]?=none\/ys[i]?=none)
  (hE:∀ h' e,Off [n,n+1,n+3,n+4] s.heap h'->(∃ o,h'.get? e=some o/\o.cls=.type "StopIteration")->E (.ref e) { s with heap:=h' }) :
  wpAny (model prog w) A (Builtin.«zip.__next__» ⟨[.ref (n+4)],[]⟩) Q E s:=by
 obtain ⟨hz,C8,⟨u,v,Et⟩,C9,Eu⟩:=Z
 show wpAny _ _ (field (.ref (n+4)) 2 >>= _) _ _ _
 refine RF (wpAny_field hz rfl (x:=.bool false) rfl ?_)
 show wpAny _ _ (field (.ref (n+4)) 3 >>= _) _ _ _
 refine RF (wpAny_field hz rfl (x:=.ref (n+2)) rfl ?_)
 refine RF (wpAny_seqItems C8 rfl ?_)
 show wpAny _ _ (Builtin.SmallTypes.ownedTupleIsFree (.ref (n+4)) >>= _) _ _ _
 refine RF ?_
 unfold Builtin.SmallTypes.ownedTupleIsFree
 refine RF (wpAny_field hz rfl (x:=.none) rfl (RY ?_))
 simp only [if_true]
 refine RF (wpAny_rule ?_)
 refine RF (wpAny_field hz rfl (x:=.ref (n+3)) rfl ?_)
 refine RF (wpAny_setField_rec hz (by simp) fun g1 zo mf=>?_)
 replace zo:IsZip g1 (n+4) (n+2) (n+3) .ellipsis:=zo
 refine RF ?_
 simp only [List.zipIdx_cons,List.zipIdx_nil,forIn_cons,forIn_nil]
 refine RF (RF (wpAny_onRaise ?_))
 show wpAny _ _ (Builtin.SmallTypes.nextOf (.ref n) >>= _) _ _ _
 have fin:∀ {g h':Heap} {e:Addr},IsZip g (n+4) (n+2) (n+3) .ellipsis->(∃ o,g.get? e=some o/\o.cls=.type "StopIteration")->Off [n,n+1,n+3,n+4] s.heap g->∀ s':Shared,s'={ s with heap:=g } ->
   wpAny (model prog w) A (setField (.ref (n+4)) 0 .none) (fun _ s'=>E (.ref e) s') E s':=by
  intro g h' e NC ⟨oe,Lj,ND⟩ off s' es
  subst es
  have BP:e≠n+4:=fun z=>by subst z;rw [NC] at Lj;cases Lj;simp at ND
  exact wpAny_setField_rec NC (by simp) fun g9 _ NF=>hE g9 e (off.trans (Off.of NF (by simp))) ⟨oe,(NF.2 _ BP).trans Lj,ND⟩
 cases hx:xs[i]? with
 | none =>
  refine RF (v3 hh (C9.keep fun o e=>(mf.2 _ (dS (by lia))).trans e) (h1.keep fun o e=>(mf.2 _ (dS (by lia))).trans e) hx fun g2 e gC he=>?_)
  exact fin (h':=g2) (gC _ _ (dS (by lia)) zo) he ((Off.of mf (by simp)).trans fun c o hc q=>gC c o (fun z=>hc (by simp [z])) q) _ rfl
 | some x =>
  have hy:ys[i]?=none:=by rcases uw with h|h;rw [hx] at h;cases h;exact h
  refine RF (kK (C9.keep fun o e=>(mf.2 _ (dS (by lia))).trans e) (h1.keep fun o e=>(mf.2 _ (dS (by lia))).trans e) hx fun g2 HW gC=>RY ?_)
  have zp:IsT g2 (n+3) #[u,v]:=(gC.2 _ (dS (by lia))).trans ((mf.2 _ (dS (by lia))).trans Et)
  refine RF (wpAny_seqItems zp rfl ?_)
  refine RF (oE zp (by simp) fun g3 BN xm=>?_)
  refine RF (wpAny_letGo (RY ?_))
  refine RF (RF (wpAny_onRaise ?_))
  show wpAny _ _ (Builtin.SmallTypes.nextOf (.ref (n+1)) >>= _) _ _ _
  refine RF (v3 hh (Eu.keep fun o e=>(xm.2 _ (dS (by lia))).trans ((gC.2 _ (dS (by lia))).trans ((mf.2 _ (dS (by lia))).trans e))) (h2.keep fun o e=>(xm.2 _ (dS (by lia))).trans ((gC.2 _ (dS (by lia))).trans ((mf.2 _ (dS (by lia))).trans e))) hy fun g4 e Dc he=>?_)
  exact fin (h':=g4) (Dc _ _ (dS (by lia)) ((xm.2 _ (dS (by lia))).trans ((gC.2 _ (dS (by lia))).trans zo))) he ((((Off.of mf (by simp)).trans (Off.of gC (by simp))).trans (Off.of xm (by simp))).trans fun c o hc q=>Dc c o (fun z=>hc (by simp [z])) q) _ rfl
theorem rC{k1 k2:Bool}{n a b:Nat}{i:Nat}{xs ys:Array Value}{x y:Value}{Q:Option Value->Shared->Prop}(Z:rB k1 k2 n a b i .none s.heap)(ha:a<n)(hb:b<n)
  (h1:cw k1 s.heap a xs) (h2:cw k2 s.heap b ys) (hx:xs[i]?=some x) (hy:ys[i]?=some y)
  (hQ:∀ h',rB k1 k2 n a b (i+1) (rawInt s.heap.objs.size) h'->IsT h' s.heap.objs.size #[x,y]->h'.objs.size=s.heap.objs.size+1->Off [n,n+1,n+3,n+4] s.heap h'->Q (some (.ref s.heap.objs.size)) { s with heap:=h' }) :
  wpAny (model prog w) A (pyNext (.ref (n+4))) Q E s:=by
 have hT:s.TypeIs (.ref (n+4)) "zip":=⟨_,Z.z,rfl⟩
 unfold pyNext
 exact RF (wpAny_attempt (wpAny_callSpecial?_slot (name:=Str.ofString "__next__") hT F.slot_zip_next
  (wpAny_call_entry F.slot_zip_next hT F.entry_zip_next
   (xn Z ha hb h1 h2 hx hy fun h' a1 a2 a3 a4=>RY (hQ h' a1 a2 a3 a4)) (F.args_zip_next_1 _))))
theorem j2{k1 k2:Bool}{n a b:Nat}{i:Nat}{xs ys:Array Value}{Q:Option Value->Shared->Prop}(hh:A.handled=none)(Z:rB k1 k2 n a b i .none s.heap)(ha:a<n)(hb:b<n)
  (h1:cw k1 s.heap a xs) (h2:cw k2 s.heap b ys) (uw:xs[i]?=none\/ys[i]?=none)
  (hQ:∀ h',Off [n,n+1,n+3,n+4] s.heap h'->Q none { s with heap:=h' }):wpAny (model prog w) A (pyNext (.ref (n+4))) Q E s:=by
 have hT:s.TypeIs (.ref (n+4)) "zip":=⟨_,Z.z,rfl⟩
 unfold pyNext
 refine RF (wpAny_attempt (wpAny_callSpecial?_slot (name:=Str.ofString "__next__") hT F.slot_zip_next
  (wpAny_call_entry F.slot_zip_next hT F.entry_zip_next (xo (A:=A.in1) hh Z ha hb h1 h2 uw fun h' e hk he=>?_) (F.args_zip_next_1 _))))
 obtain ⟨o,ho,hc⟩:=he
 refine RF (wpAny_isInstance (T:="StopIteration") (b:=true) ⟨o,ho,hc⟩ isSubtype_stop ?_)
 exact RY (hQ _ hk)
end
abbrev Dd (k1 k2:Bool) (h:Heap) (a b:Addr):Heap:=((((h.push (dU k1 a)).push (dU k2 b)).push { cls:=.type "tuple",data:=.seq #[.ref h.objs.size,.ref (h.objs.size+1)] }).push { cls:=.type "tuple",data:=.seq #[.none,.none] }).push
 { cls:=.type "zip",data:=.fields #[.none,.bool false,.bool false,.ref (h.objs.size+2),.ref (h.objs.size+3)] }
theorem xp(k1 k2:Bool)(a b:Addr)(xs ys:Array Value) :
  Meets (Builtin.«zip.__new__» ⟨[.type "zip",.ref a,.ref b],[]⟩) (fun _ R s=>cw k1 s.heap a xs/\cw k2 s.heap b ys /\
   R (.ok (.ret (.ref (s.heap.objs.size+4)))) { s with heap:=Dd k1 k2 s.heap a b }) :=
 .of_wp fun prog w A R s h=>by
  obtain ⟨hp,g,d,tk,os⟩:=s;obtain ⟨NG,Ej,h⟩:=h
  have BQ:=sub_zip
  have O4:cw k1 (Shared.heap ⟨hp,g,d,tk,os⟩) a xs:=NG
  have O5:cw k2 (Shared.heap ⟨hp.push (dU k1 a),g,d,tk,os⟩) b ys:=cw.keep Ej fun o e=>RE _ e
  wp_walk using rA O4,rA O5
  refine⟨_,rfl,?_⟩
  simp only [Heap.size_push]
  exact h
open PySem PySem.Spec PyProof.Rows
def Sq(k:Bool)(K:Frag)(H:Hp)(a:Addr)(xs:List V):Prop:=match k with|true=>aT K H a xs|false=>b5 K H a xs
section
variable {X:Cx}{pins:List (Addr×Obj)}{σ:St}{H H':Hp}{s:Shared}
theorem Inv.sq{k:Bool}{a:Addr}{xs:List V}(I:Inv X pins σ H s)(h:Sq k X.K H a xs):∃ its:List Value,Vals xs its/\cw k s.heap a its.toArray/\xs.length<=sizeLine:=by
 cases k with
 | true=>exact I.tuple h
 | false =>
  obtain ⟨its,r,p,z⟩:=I.list h
  exact⟨its,r,p.isList,z⟩
theorem Inv.zq{k:Bool}{a:Addr}{xs ys:List V}(I:Inv X pins σ H s)(h:Sq k X.K H a xs)(h':Sq k X.K H a ys):xs=ys:=by
 cases k with
 | true=>exact I.nD h h'
 | false=>exact I.qY h h'
theorem Inv.off{h':Heap}{t':Nat}{ch:List Addr}(I:Inv X pins σ H s)(hf:∀ b∈ch,md X pins H b)(off:Off ch s.heap h')(bz:dO X.prog X.w H' h')
  (free:∀ b o,b∉ch->s.heap.get? b=some o->H b=none->H' b=none) (same:∀ b o,H b=some o->H' b=some o):Inv X pins σ H' { s with heap:=h',toks:=t' }:=by
 refine I.step (g':=s.gens) (d':=s.drawn) (ch:=ch) (fun b hb=>?_) (fun b o _ _ hc e _=>off b o hc e) (fun b o _ _ hc e _=>⟨o.slots,off b o hc e⟩) (fun b o hc e n=>free b o hc e n) (fun b o hc e=>⟨o,off b o hc e⟩)
  (fun b xs e=>same b _ e) (fun b o u e=>same b _ e) (fun b ps e=>⟨#[],by rw [same b _ e];simp⟩) (fun m hm=>?_) bz I.bare
 ·obtain ⟨f0,f1,f2,f3,f4,f5⟩:=hf b hb
  exact⟨f3,f1,f4,f5⟩
 ·obtain ⟨o,es,ep,ho,r⟩:=hm
  exact⟨o,es,ep,off _ o (fun z=>(hf _ z).2.1 rfl) ho,r⟩
theorem dO.off{P:Program}{w:World}{h h':Heap}{ch:List Addr}(x:dO P w H h)(hn:∀ b∈ch,H b=none)(off:Off ch h h'):dO P w H h':=fun a o e=>by
 have na:∀ b u,H b=some u->b∉ch:=fun b u q z=>by rw [hn b z] at q;cases q
 refine (x a o e).l8 (fun b u hb q=>off b u ?_ q) (fun _ q=>q) fun _ _ q=>q
 rcases hb with rfl|hb
 ·exact na _ _ e
 ·exact na _ _ hb
theorem dO.Ew{P:Program}{w:World}{h h':Heap}{ch:List Addr}{T:Addr}{ob:HO}(x:dO P w H h)(hn:∀ b∈ch,H b=none)(off:Off ch h h')(hT:h.objs.size<=T)(new:b6 P w (upd H T ob) h' T ob):dO P w (upd H T ob) h':=fun a o e=>by
 have Ic:=x.fresh hT
 have na:∀ b u,H b=some u->b∉ch:=fun b u q z=>by rw [hn b z] at q;cases q
 by_cases ha:a=T
 ·subst ha;rw [aH] at e;cases e;exact new
 ·rw [aE ha] at e
  refine (x a o e).l8 (fun b u hb q=>off b u ?_ q) (fun c q=>by rw [aE (aN q Ic)];exact q) fun c xs q=>by rw [aE (aN q Ic)];exact q
  rcases hb with rfl|hb
  ·exact na _ _ e
  ·exact na _ _ hb
end
theorem v5{c:Addr}{n:Nat}(z:c∈([n,n+1,n+3,n+4]:List Addr)):c∈([n+4,n+2,n+3,n,n+1]:List Addr):=by
 simp only [Sd,not_mem_nil,or_false] at z ⊢
 rcases z with h|h|h|h <;> simp [h]
def Ex(K : Frag)(k1 k2 : Bool)(a b : Addr) : It :=
  ⟨fun i H => ∃ xs ys x y, Sq k1 K H a xs /\ Sq k2 K H b ys /\ xs[i]?=some x /\ ys[i]?=some y,
   fun i H v H' => ∃ p x y, v=.ref p /\ H p=none /\ (∀ xs, Sq k1 K H a xs -> xs[i]?=some x) /\ (∀ ys, Sq k2 K H b ys -> ys[i]?=some y) /\ H'=upd H p (.tup [x, y]),
   fun i H => ∃ xs ys, Sq k1 K H a xs /\ Sq k2 K H b ys /\ (xs.length <= i \/ ys.length <= i)⟩
theorem xq{P:Program}{w:World}{K:Frag}{es:List Expr}{kk:Nat}{pos:Pos}{k1 k2:Bool}(n a b:Nat)(ha:a<n)(hb:b<n) :
  Turn P w K (.Tuple es kk pos) (Ex K k1 k2 a b) [n+4,n+2,n+3,n,n+1] (n+4) (fun i h=>rB k1 k2 n a b i .none h) where
 mem:=by simp
 obj:=fun i h st c hc=>by
  obtain ⟨hz,C8,⟨u,v,Et⟩,C9,Eu⟩:=st
  simp only [Sd,not_mem_nil,or_false] at hc
  rcases hc with rfl|rfl|rfl|rfl|rfl
  ·exact⟨_,hz,fun v z=>nomatch z⟩
  ·exact⟨_,C8,fun v z=>nomatch z⟩
  ·exact⟨_,Et,fun v z=>nomatch z⟩
  ·exact C9.obj
  ·exact Eu.obj
 keep:=fun i h h' st k=>by
  obtain ⟨hz,C8,⟨u,v,Et⟩,C9,Eu⟩:=st
  exact⟨k _ (by simp) _ hz,k _ (by simp) _ C8,⟨u,v,k _ (by simp) _ Et⟩,C9.keep fun o e=>k _ (by simp) o e,Eu.keep fun o e=>k _ (by simp) o e⟩
 item:=by
  intro X hP hw hK hc i pins s σ H E I hf st hg
  subst hP hw hK
  obtain ⟨xs,ys,x,y,qx,qy,ex,ey⟩:=hg
  obtain ⟨Lk,r1,s1,_⟩:=I.sq qx
  obtain ⟨Ll,r2,s2,_⟩:=I.sq qy
  obtain ⟨u,hu,ru⟩:=r1.get ex
  obtain ⟨v,hv,rv⟩:=r2.get ey
  refine rC st ha hb s1 s2 (x:=u) (y:=v) (by simpa using hu) (by simpa using hv) fun h' Z hT fN off=>⟨_,rfl,?_⟩
  have Ic:H s.heap.objs.size=none:=I.bz.fresh (RM _)
  have O6:n+4<s.heap.objs.size:=RI st.z
  refine wpAny_letOwnedTupleGo_zip Z.z fun h2 Ld gC=>?_
  have zr:Off [n+4,n+2,n+3,n,n+1] s.heap h2:=fun c o hc e=>(gC.2 c fun z=>hc (by simp [z])).trans (off c o (fun z=>hc (v5 z)) e)
  have zu:IsT h2 s.heap.objs.size #[u,v]:=(gC.2 _ (Nat.ne_of_gt O6)).trans hT
  refine⟨.ref s.heap.objs.size,upd H s.heap.objs.size (.tup [x,y]),?_,rfl,⟨_,x,y,rfl,Ic,fun zs Lm=>by rw [I.zq Lm qx];exact ex,fun zs Lm=>by rw [I.zq Lm qy];exact ey,rfl⟩,?_,fun c hc=>?_⟩
  ·refine Inv.off (s:=s) (h':=h2) (t':=s.toks) (ch:=[n+4,n+2,n+3,n,n+1]) I hf zr (I.bz.Ew (fun c hc=>(hf c hc).1) zr (RM _) ?_) (fun c o _ e hn=>?_) fun c o e=>?_
   ·exact⟨by show 2<=sizeLine;decide,[u,v],.cons ru (.cons rv .nil),⟨_,zu,rfl,_,rfl⟩⟩
   ·rw [aE (Sn (RI e))];exact hn
   ·rw [aE (aN e Ic)];exact e
  ·obtain ⟨z1,z2,⟨a1,a2,z3⟩,z4,z5⟩:=Z
   exact⟨Ld,(gC.2 _ (dS (by lia))).trans z2,⟨a1,a2,(gC.2 _ (dS (by lia))).trans z3⟩,z4.keep fun o e=>(gC.2 _ (dS (by lia))).trans e,z5.keep fun o e=>(gC.2 _ (dS (by lia))).trans e⟩
  ·have cn:c≠s.heap.objs.size:=by
    simp only [Sd,not_mem_nil,or_false] at hc
    rcases hc with rfl|rfl|rfl|rfl|rfl <;> exact dS (by lia)
   rw [aE cn];exact (hf c hc).1
 done:=by
  intro X hP hw hK hc i pins s σ H E I hf st hg
  subst hP hw hK
  obtain ⟨xs,ys,qx,qy,uw⟩:=hg
  obtain ⟨Lk,r1,s1,_⟩:=I.sq qx
  obtain ⟨Ll,r2,s2,_⟩:=I.sq qy
  have e1:=r1.length
  have e2:=r2.length
  refine j2 (I.ok.hd hc) st ha hb s1 s2 ?_ fun h' off=>⟨rfl,?_⟩
  ·rcases uw with z|z
   ·exact .inl (by simp;lia)
   ·exact .inr (by simp;lia)
  ·have zr:Off [n+4,n+2,n+3,n,n+1] s.heap h':=fun c o hc e=>off c o (fun z=>hc (v5 z)) e
   exact Inv.off (s:=s) (t':=s.toks) I hf zr (I.bz.off (fun c hc=>(hf c hc).1) zr) (fun _ _ _ _ q=>q) fun _ _ q=>q
 self:=fun _ _ _ _ _ st h=>wpAny_pyIter_zip st.z h
section
variable {X:Cx}
def zv(K:Frag)(k1 k2:Bool)(ta:TA):TI:=fun σ H R=>ta σ H fun vs H1=>∃ a b,vs=[.ref a,.ref b]/\(∃ xs,Sq k1 K H1 a xs)/\(∃ ys,Sq k2 K H1 b ys)/\R (Ex K k1 k2 a b) H1
theorem BR (k1 k2:Bool) {es:List Expr} {kk:Nat} {ux:Pos} {a b:Expr} {ta:TA} {p pos:Pos} (hg:Gl X "zip") (hm:X.mg "zip"=none) (ha:PA X [a,b] ta) (hs:starEach [a,b] X.env=[(false,eval a X.env),(false,eval b X.env)]:=by rfl) (gC:starEach [b] X.env=[(false,eval b X.env)]:=by rfl) :
  PI X (.Tuple es kk ux) (.Call (.Name "zip" p) [a,b] [] pos) (zv X.K k1 k2 ta):=by
 intro pins s σ H R I h
 refine Call_ (jd I hg hm boot_zip (callWith_type1 (cx (ha pos pins s σ H _ I h) fun us s1 ⟨vs,H1,I1,r1,q1⟩=>?_) (by rw [hs,gC]) (by rw [gC];rfl)))
 obtain ⟨a',b',e,⟨xs,qx⟩,⟨ys,qy⟩,q⟩:=q1
 subst e
 obtain ⟨u,v,rfl,ru,rv⟩:=vals2 r1
 cases ru
 cases rv
 obtain ⟨Lk,r1,NH,_⟩:=I1.sq qx
 obtain ⟨Ll,r2,NI,_⟩:=I1.sq qy
 refine callType_new PySem.F.called_zip (by decide) (PySem.F.typeCall_zip_2 _ _) (PySem.F.newCall_zip_2 _ _) (fun obj=>PySem.F.args_object_init_3 obj _ _) PySem.F.entry_zip_new (xp k1 k2 a' b' Lk.toArray Ll.toArray) ⟨NH,NI,?_⟩
 have z1:(s1.heap.push (dU k1 a')).objs.size=s1.heap.objs.size+1:=Heap.size_push ..
 have z2:((s1.heap.push (dU k1 a')).push (dU k2 b')).objs.size=s1.heap.objs.size+2:=by rw [Heap.size_push,z1]
 have z3:(((s1.heap.push (dU k1 a')).push (dU k2 b')).push { cls:=.type "tuple",data:=.seq #[.ref s1.heap.objs.size,.ref (s1.heap.objs.size+1)] }).objs.size=s1.heap.objs.size+3:=by rw [Heap.size_push,z2]
 have z4:((((s1.heap.push (dU k1 a')).push (dU k2 b')).push { cls:=.type "tuple",data:=.seq #[.ref s1.heap.objs.size,.ref (s1.heap.objs.size+1)] }).push { cls:=.type "tuple",data:=.seq #[.none,.none] }).objs.size=s1.heap.objs.size+4:=by rw [Heap.size_push,z3]
 have g5:(Dd k1 k2 s1.heap a' b').get? (s1.heap.objs.size+4)=some { cls:=.type "zip",data:=.fields #[.none,.bool false,.bool false,.ref (s1.heap.objs.size+2),.ref (s1.heap.objs.size+3)] }:=by rw [<- z4];exact RJ _ rfl
 have g4:(Dd k1 k2 s1.heap a' b').get? (s1.heap.objs.size+3)=some { cls:=.type "tuple",data:=.seq #[.none,.none] }:=by rw [<- z3];exact RE _ (RJ _ rfl)
 have g3:(Dd k1 k2 s1.heap a' b').get? (s1.heap.objs.size+2)=some { cls:=.type "tuple",data:=.seq #[.ref s1.heap.objs.size,.ref (s1.heap.objs.size+1)] }:=by rw [<- z2];exact RE _ (RE _ (RJ _ rfl))
 have g2:(Dd k1 k2 s1.heap a' b').get? (s1.heap.objs.size+1)=some (dU k2 b'):=by rw [<- z1];exact RE _ (RE _ (RE _ (RJ _ (by cases k2 <;> rfl))))
 have g1:(Dd k1 k2 s1.heap a' b').get? s1.heap.objs.size=some (dU k1 a'):=RE _ (RE _ (RE _ (RE _ (RJ _ (by cases k1 <;> rfl)))))
 have old:∀ c o,s1.heap.get? c=some o->(Dd k1 k2 s1.heap a' b').get? c=some o:=fun c o x=>RE _ (RE _ (RE _ (RE _ (RE _ x))))
 have Z:rB k1 k2 s1.heap.objs.size a' b' 0 .none (Dd k1 k2 s1.heap a' b'):=⟨g5,g3,⟨_,_,g4⟩,rz g1,rz g2⟩
 show _/\_
 refine⟨⟨_,g5,rfl⟩,wpAny_pyIter_zip Z.z ?_⟩
 refine⟨_,_,_,_,H1,rfl,I1.kept (t':=s1.toks) old,xq s1.heap.objs.size a' b' NH.lt NI.lt,Z,fun c hc=>?_,q⟩
 have yK:s1.heap.objs.size<=c:=by
  simp only [Sd,not_mem_nil,or_false] at hc
  rcases hc with rfl|rfl|rfl|rfl|rfl <;> first|exact Nat.le_add_right _ _|exact RM _
 exact I1.yV yK (I1.bz.fresh yK)
end
def Ie(i j:Int):Prop:=0<j/\j.natAbs.log2<9000
section
variable {X:Cx}
theorem iN:gD X (binaryOp .FloorDiv) (rI Ie fun i j=>.int (i / j)):=J4 fun i j _ _ _ _ _ hc q=>by
 have h1:(0:Int)<j:=hc.1
 exact floordiv_int (by lia) (by rw [R0 i (by lia)];exact q) (.inl (PyProof.noPylong_of_log2 hc.2))
def NJ (K:Frag) (H:Hp) (x:V) (t:Value):Prop:=jg K H x t\/(∃ a xs,x=.ref a/\aT K H a xs/\t=.type "tuple")\/(∃ a xs,x=.ref a/\b5 K H a xs/\t=.type "list")
theorem rD:bQ X (.builtin "isinstance") (fun xs H Q=>∃ x n t b,xs=[x,.ty n]/\NJ X.K H x t/\PySem.W.kitOne X.K t (.type n)=some b/\Q (.bl b) H):=by
 intro pins s σ H xs us Q I r h
 obtain ⟨x,n,t,b,rfl,ty,e,q⟩:=h
 obtain ⟨u,c,rfl,ru,rc⟩:=vals2 r
 obtain rfl:c=Value.type n:=rc
 have fin:∀ tk,EP X pins σ Q (.bool b) { s with toks:=tk }:=fun tk=>⟨.bl b,H,I.tok tk,rfl,q⟩
 rcases ty with ty|⟨a,ys,rfl,hs,rfl⟩|⟨a,ys,rfl,hs,rfl⟩
 ·exact xh I ru ty e fin
 ·obtain rfl:u=Value.ref a:=ru
  obtain ⟨its,_,p,_⟩:=I.tuple hs
  obtain ⟨o,h1,h2,_⟩:=p
  exact PySem.W.kia_one kitx_tuple I.i9 ⟨o,h1,h2⟩ e (fun z=>nomatch z) fin
 ·obtain rfl:u=Value.ref a:=ru
  obtain ⟨its,_,p,_⟩:=I.list hs
  obtain ⟨o,n',h1,h2,_⟩:=p
  exact PySem.W.kia_one kitx_list I.i9 ⟨o,h1,h2⟩ e (fun z=>nomatch z) fin
end
theorem fS(K:Frag)(t:Value):PySem.W.kitOne K t t=some true:=by
 unfold PySem.W.kitOne
 rw [if_pos (by simp)]
def Def(K:Frag)(mg:Str->Option Value)(x:Str)(st:Stmt)(ps:List Str):Prop:=∃ f fd,C4 K x x st f fd/\mg x=some (.ref f)/\Binds K fd ps []
def Ok(P:Program)(w:World)(K:Frag)(mg:Str->Option Value)(base:Heap)(k:Nat)(x:Str)(ps:List Str)(sp:Sp):Prop :=
 ∃ f fd,kD P w K mg base Bj k f fd ps sp/\mg x=some (.ref f)/\PySem.W.keepIn K (.ref f)=true/\Binds K fd ps []
section
variable {P:Program}{w:World}{K:Frag}{mg:Str->Option Value}{base:Heap}
theorem Def.ok{x:Str}{st:Stmt}{N ps:List Str}{k:Nat}{sp:Sp}(D:Def K mg x st ps)(S:aB N ps (ar st))(len:∀ vs H Q E,sp vs H Q E->vs.length=ps.length)
  (eM:∀ (f:Addr) (bE:Value) (A:Around) (outer:List Env) (s:Shared) (H:Hp) (vs:List V) (Q:VK) (E:XK),cO k (A.deeper (envOfC x (ar st) s.heap.objs.size f bE))->sp vs H Q E ->
   ∃ t,jZ (gQ Bj P w K mg base N x (ar st) f bE A outer s H E).w6 (cc st) t/\t { nx:=fun _ H'=>Q .cF H',rt:=Q } (start N vs) H):Ok P w K mg base (k+1) x ps sp:=by
 obtain ⟨f,fd,F,hm,hb⟩:=D
 exact⟨f,fd,F.ok S len fun bE A outer s H vs Q E hr h=>eM f bE A outer s H vs Q E hr h,hm,F.kp,hb⟩
end
section
variable {X:Cx}{k:Nat}{x:Str}{ps:List Str}{sp:Sp}{p pos:Pos}{e:Expr}{es:List Expr}{t:TA}
theorem aZ(O:Ok X.prog X.w X.K X.mg X.base k x ps sp)(hr:cO k X.A)(ha:PA X (e::es) t)(hg:Gl X x:=by rfl)
  (oy:(x == ("__debug__":Str))=false:=by decide) (he:starEach (e::es) X.env=(false,eval e X.env)::starEach es X.env:=by rfl) (kd:(backTo pos (starEach es X.env)).any (·.1)=false:=by rfl) :
  PE X (.Call (.Name x p) (e::es) [] pos) (rf sp [] E0 t):=by
 obtain ⟨f,fd,F,hm,hk,hb⟩:=O
 exact BE F hr hg hm hk hb .nil HS ha oy he kd
end
def zw(K:Frag):Sp:=fun vs H Q _=>∃ (a:Addr) (ns:List Int),vs=[.ref a]/\b5 K H a (ns.map V.int)/\ns.length<=63/\∀ H',Q (.bl true) H'
theorem aj.cC{H:Hp}{a:Addr}{o:HO}(h:H a=none):aj H (upd H a o):=fun b u e=>by rw [aE (aN e h)];exact e
theorem aj.at{K:Frag}{H H':Hp}{a:Addr}{xs:List V}(e:aj H H')(h:aT K H a xs):aT K H' a xs:=by
 rcases h with (h|⟨o,h⟩)|h
 ·exact .inl (.inl (e _ _ h))
 ·exact .inl (.inr ⟨o,e _ _ h⟩)
 ·exact .inr h
theorem aj.sq{k:Bool}{K:Frag}{H H':Hp}{a:Addr}{xs:List V}(e:aj H H')(h:Sq k K H a xs):Sq k K H' a xs:=by
 cases k with
 | true=>exact aj.at e h
 | false=>exact aj.seq e h
def CW(t:Nat)(l:Addr)(n:Nat)(f:Nat->V)(fr:St)(H1:Hp)(i m:Nat)(σ1:St)(ys:List V)(H':Hp):Prop :=
 m=n - i/\i<=n/\(∃ own:St,own.length=t/\σ1=own++fr)/\ys=(List.range i).map f/\aj H1 H'/\H' l=some (.lst ys)
theorem CW.next{t:Nat}{l:Addr}{n:Nat}{f:Nat->V}{fr:St}{H1 H' H5:Hp}{i:Nat}{y:V}(own:St)(ho:own.length=t)(hi:i<n)(hn:n<=1000000)(hl:H1 l=none)(hs:aj H1 H')(rE:H' l=some (.lst ((List.range i).map f)))(s5:aj H' H5)(ey:y=f i) :
  H5 l=some (.lst ((List.range i).map f))/\((List.range i).map f).length<sizeLine/\CW t l n f fr H1 (i+1) (n - (i+1)) (own++fr) ((List.range i).map f++[y]) (upd H5 l (.lst ((List.range i).map f++[y]))):=by
 subst ey
 refine⟨s5 _ _ rE,?_,rfl,hi,⟨own,ho,rfl⟩,?_,fun b o e=>?_,aH⟩
 ·rw [R9,List.length_range]
  exact Nat.lt_of_lt_of_le (Nat.lt_of_lt_of_le hi hn) (by decide)
 ·rw [range_succ,Sk];rfl
 ·rw [aE (aN e hl)]
  exact s5 _ _ (hs _ _ e)
theorem v7{J:It}{H1:Hp}{ix:List (Option Nat)}{σ:St}{g:TG}{tt:TT}{te:TE}{Q:VK}(t:Nat)(fr:St)(n:Nat)(f:Nat->V)(oF:pick ix σ=List.replicate t none++fr)
  (iO:∀ H',aj H1 H'->J.stop n H') (yL:∀ i H',i<n->aj H1 H'->J.go i H')
  (step:∀ i x l H' H2 own,own.length=t->i<n->H1 l=none->aj H1 H'->H' l=some (.lst ((List.range i).map f))->J.Bg i H' x H2 ->
   g x (own++fr) H2 fun σ2 H3=>tt σ2 H3 fun b H4=>if b=true then te σ2 H4 fun y H5=>H5 l=some (.lst ((List.range i).map f))/\((List.range i).map f).length<sizeLine/\CW t l n f fr H1 (i+1) (n - (i+1)) σ2 ((List.range i).map f++[y]) (upd H5 l (.lst ((List.range i).map f++[y])))
    else CW t l n f fr H1 (i+1) (n - (i+1)) σ2 ((List.range i).map f) H4)
  (hQ:∀ l H',H1 l=none->aj H1 H'->H' l=some (.lst ((List.range n).map f))->Q (.ref l) H') :
  bS ix g tt te σ Q J H1:=by
 intro l hl
 refine⟨CW t l n f fr H1,⟨n,by simp,Sm _,⟨_,List.length_replicate,oF⟩,rfl,aj.cC hl,aH⟩,?_⟩
 rintro i m σ1 ys H' ⟨rfl,hi,⟨own,ho,rfl⟩,rfl,hs,rE⟩
 refine⟨rE,?_⟩
 by_cases eK:i<n
 ·exact .inr ⟨yL i H' eK hs,n - (i+1),by lia,fun x H2 hy=>step i x l H' H2 own ho eK hl hs rE hy⟩
 ·obtain rfl:i=n:=by lia
  exact .inl ⟨iO H' hs,hQ l H' hl hs rE⟩
theorem fT{J:It}{H1:Hp}{ix:List (Option Nat)}{σ:St}{te:TE}{Q:VK}(fr:St)(n:Nat)(f:Nat->V)(oF:pick ix σ=none::fr)(hn:n<=1000000)
  (iO:∀ H',aj H1 H'->J.stop n H') (yL:∀ i H',i<n->aj H1 H'->J.go i H')
  (step:∀ i x H' H2 (Qc:VK),i<n->aj H1 H'->J.Bg i H' x H2->(∀ H5,aj H' H5->Qc (f i) H5)->te (some x::fr) H2 Qc)
  (hQ:∀ l H',H1 l=none->aj H1 H'->H' l=some (.lst ((List.range n).map f))->Q (.ref l) H'):bS ix (c7 0) (fun _ H Q=>Q true H) te σ Q J H1:=by
 refine v7 1 fr n f oF iO yL (fun i x l H' H2 own ho hi hl hs rE hy=>?_) hQ
 obtain ⟨o1,rfl⟩:∃ o1,own=[o1]:=by match own,ho with|[o1],_=>exact⟨o1,rfl⟩
 dsimp only [c7]
 rw [if_pos rfl]
 exact step i x H' H2 _ hi hs hy fun H5 s5=>CW.next (fr:=fr) [some x] rfl hi hn hl hs rE s5 rfl
theorem rF{K:Frag}{k1 k2:Bool}{a b:Addr}{xs ys:List V}{H1:Hp}{ix:List (Option Nat)}{σ:St}{te:TE}{Q:VK}(fr:St)(f:Nat->V)(oF:pick ix σ=none::none::fr)(ha:Sq k1 K H1 a xs)(hb:Sq k2 K H1 b ys)(hlen:xs.length=ys.length)(hn:xs.length<=1000000)
  (step:∀ i x y H' (Qc:VK),xs[i]?=some x->ys[i]?=some y->aj H1 H'->(∀ H5,aj H' H5->Qc (f i) H5)->te (some x::some y::fr) H' Qc)
  (hQ:∀ l H',H1 l=none->aj H1 H'->H' l=some (.lst ((List.range xs.length).map f))->Q (.ref l) H'):bS ix (yS K 2 (ky (c7 0) (ky (c7 1) By))) (fun _ H Q=>Q true H) te σ Q (Ex K k1 k2 a b) H1:=by
 refine v7 2 fr xs.length f oF (fun H' s=>⟨_,_,s.sq ha,s.sq hb,.inl (RM _)⟩) (fun i H' hi s=>?_) (fun i x l H' H2 own ho hi hl hs rE hy=>?_) hQ
 ·exact⟨_,_,xs[i],ys[i]'(hlen ▸ hi),s.sq ha,s.sq hb,R3 hi,R3 (hlen ▸ hi)⟩
 ·obtain ⟨o1,o2,rfl⟩:∃ o1 o2,own=[o1,o2]:=by match own,ho with|[o1,o2],_=>exact⟨o1,o2,rfl⟩
  obtain ⟨p,x',y',rfl,hp,e1,e2,rfl⟩:=hy
  have g1:=e1 _ (hs.sq ha)
  have g2:=e2 _ (hs.sq hb)
  refine⟨p,_,rfl,aT.of aH,rfl,_,_,rfl,_,_,rfl,rfl,?_⟩
  show ite (true=true) _ _
  rw [if_pos rfl]
  exact step i x' y' _ _ g1 g2 (hs.trans (aj.cC hp)) fun H5 s5=>CW.next (fr:=fr) [some x',some y'] rfl hi hn hl hs rE ((aj.cC hp).trans s5) rfl
theorem oG{r:List Int}{i:Nat}{x:V}(h:(r.map V.int)[i]?=some x):x=.int (r.getD i 0)/\i<r.length:=by
 rw [Sj] at h
 cases e:r[i]? with
 | none=>rw [e] at h;cases h
 | some z =>
  rw [e] at h
  have hl:=(RH.mp e).1
  refine⟨?_,hl⟩
  rw [<- (RS h),List.getD,e];rfl
theorem int_at{r:List Int}{i:Nat}(h:i<r.length):(r.map V.int)[i]?=some (.int (r.getD i 0)):=by
 rw [Sj,List.getD,R3 h];rfl
theorem range_getD{α:Type}(f:Int->α)(r:List Int):(List.range r.length).map (fun i=>f (r.getD i 0))=r.map f:=by
 apply ext_getElem
 ·simp
 ·intro i h1 h2
  simp at h1 h2
  simp [List.getD,h1]
theorem xr{α:Type}(f:Int->Int->α)(r q:List Int)(h:r.length=q.length):(List.range r.length).map (fun i=>f (r.getD i 0) (q.getD i 0))=List.zipWith f r q:=by
 apply ext_getElem
 ·simp [h]
 ·intro i h1 h2
  simp at h1 h2
  have:i<q.length:=by lia
  simp [List.getD,h1,this]
theorem uy{K:Frag}{a b:Addr}{r q:List Int}{H1:Hp}{ix:List (Option Nat)}{σ:St}{Q:VK}(op:Int->Int->Int)(oF:pick ix σ=[none,none])(ha:aT K H1 a (r.map V.int))(hb:aT K H1 b (q.map V.int))(hlen:r.length=q.length)(hn:r.length<=1000)
  (hQ:∀ l H',H1 l=none->aj H1 H'->H' l=some (.lst ((List.zipWith op r q).map V.int))->Q (.ref l) H') :
  bS ix (yS K 2 (ky (c7 0) (ky (c7 1) By))) (fun _ H Q=>Q true H) (GJ (Bh fun i j=>.int (op i j)) (yQ 0) (yQ 1)) σ Q (Ex K true true a b) H1:=by
 refine rF (k1:=true) (k2:=true) [] (fun i=>.int (op (r.getD i 0) (q.getD i 0))) oF ha hb (by simpa using hlen) (by rw [R9];lia) (fun i x y H' Qc ex ey hs kc=>?_) fun l H' hl hs rE=>hQ l H' hl hs ?_
 ·obtain ⟨rfl,_⟩:=oG ex
  obtain ⟨rfl,_⟩:=oG ey
  exact⟨_,rfl,_,rfl,_,_,rfl,rfl,kc _ (aj.refl _)⟩
 ·rw [rE,R9,xr (fun x y=>V.int (op x y)) r q hlen,List.map_zipWith]
theorem nL{K:Frag}{a:Addr}{r:List Int}{H1:Hp}{ix:List (Option Nat)}{σ:St}{te:TE}{Q:VK}(F:Int->V)(fr:St)(oF:pick ix σ=none::fr)(ha:aT K H1 a (r.map V.int))(hn:r.length<=1000)
  (step:∀ x H' (Qc:VK),x∈r->aj H1 H'->(∀ H5,aj H' H5->Qc (F x) H5)->te (some (.int x)::fr) H' Qc)
  (hQ:∀ l H',H1 l=none->aj H1 H'->H' l=some (.lst (r.map F))->Q (.ref l) H'):bS ix (c7 0) (fun _ H Q=>Q true H) te σ Q (DV K a) H1:=by
 refine fT fr r.length (fun i=>F (r.getD i 0)) oF (by lia) (fun H' s=>⟨_,s.at ha,by simp⟩) (fun i H' hi s=>⟨_,_,s.at ha,int_at hi⟩) (fun i x H' H2 Qc hi hs hy kc=>?_) fun l H' hl hs rE=>hQ l H' hl hs ?_
 ·obtain ⟨rfl,e1⟩:=hy
  obtain ⟨rfl,_⟩:=oG (e1 _ (hs.at ha))
  exact step _ _ Qc (by rw [List.getD,R3 hi];exact Ss hi) hs kc
 ·rw [rE,range_getD F r]
theorem zx{n:Nat}{H1:Hp}{ix:List (Option Nat)}{σ:St}{te:TE}{Q:VK}(F:Int->V)(fr:St)(oF:pick ix σ=none::fr)(hn:n<=1000000)
  (step:∀ (i:Nat) H' (Qc:VK),i<n->aj H1 H'->(∀ H5,aj H' H5->Qc (F (i:Int)) H5)->te (some (.int (i:Int))::fr) H' Qc)
  (hQ:∀ l H',H1 l=none->aj H1 H'->H' l=some (.lst ((List.range n).map fun i=>F ((i:Nat):Int)))->Q (.ref l) H'):bS ix (c7 0) (fun _ H Q=>Q true H) te σ Q (vP 0 n) H1:=by
 refine fT fr n (fun i=>F ((i:Nat):Int)) oF hn (fun _ _=>RM _) (fun i _ hi _=>hi) (fun i x H' H2 Qc hi hs hy kc=>?_) hQ
 obtain ⟨rfl,rfl⟩:=hy
 rw [Int.zero_add]
 exact step i _ Qc hi hs kc
end L2
namespace De
def aK(a b c d e:Nat):Int:=2 ^ a*3 ^ b*5 ^ c*7 ^ d*11 ^ e
def Ln(ps:List Int)(es:List Int):Int:=(List.zipWith (fun p e=>p ^ e.toNat) ps es).foldl (·*·) 1
def Ey:List Int:=[2,3,5,7,11]
def num(es:List Int):Int:=Ln Ey es
theorem pw{p:Int}{n:Nat}(h:0<p):0<p ^ n:=by
 induction n with
 | zero=>rw [pow_zero];decide
 | succ n ih=>rw [pow_succ];exact mul_pos ih h
theorem nM(a b c d e:Nat):0<aK a b c d e:=by
 unfold aK
 have h2:=pw (n:=a) (show (0:Int)<2 by decide)
 have h3:=pw (n:=b) (show (0:Int)<3 by decide)
 have h5:=pw (n:=c) (show (0:Int)<5 by decide)
 have h7:=pw (n:=d) (show (0:Int)<7 by decide)
 have O7:=pw (n:=e) (show (0:Int)<11 by decide)
 exact mul_pos (mul_pos (mul_pos (mul_pos h2 h3) h5) h7) O7
theorem jj(a b c d e a' b' c' d' e':Nat):aK a b c d e*aK a' b' c' d' e'=aK (a+a') (b+b') (c+c') (d+d') (e+e'):=by
 unfold aK
 simp only [Int.pow_add]
 ac_rfl
theorem BS{x y:Int}(hx:x % 2≠0)(hy:y % 2≠0):x*y % 2≠0:=by
 rw [mul_emod]
 have h1:x % 2=1:=by lia
 have h2:y % 2=1:=by lia
 rw [h1,h2];decide
theorem BU{x y:Int}(hx:x % 3≠0)(hy:y % 3≠0):x*y % 3≠0:=by
 rw [mul_emod]
 have h1:x % 3=1\/x % 3=2:=by lia
 have h2:y % 3=1\/y % 3=2:=by lia
 rcases h1 with h1|h1 <;> rcases h2 with h2|h2 <;> rw [h1,h2] <;> decide
theorem BV{x y:Int}(hx:x % 5≠0)(hy:y % 5≠0):x*y % 5≠0:=by
 rw [mul_emod]
 have h1:x % 5=1\/x % 5=2\/x % 5=3\/x % 5=4:=by lia
 have h2:y % 5=1\/y % 5=2\/y % 5=3\/y % 5=4:=by lia
 rcases h1 with h1|h1|h1|h1 <;> rcases h2 with h2|h2|h2|h2 <;> rw [h1,h2] <;> decide
theorem BW{x y:Int}(hx:x % 7≠0)(hy:y % 7≠0):x*y % 7≠0:=by
 rw [mul_emod]
 have h1:x % 7=1\/x % 7=2\/x % 7=3\/x % 7=4\/x % 7=5\/x % 7=6:=by lia
 have h2:y % 7=1\/y % 7=2\/y % 7=3\/y % 7=4\/y % 7=5\/y % 7=6:=by lia
 rcases h1 with h1|h1|h1|h1|h1|h1 <;> rcases h2 with h2|h2|h2|h2|h2|h2 <;> rw [h1,h2] <;> decide
theorem zy{x y:Int}(hx:x % 11≠0)(hy:y % 11≠0):x*y % 11≠0:=by
 rw [mul_emod]
 have k:∀ i:_root_.Fin 11,∀ j:_root_.Fin 11,i.val≠0->j.val≠0->(((i.val:Nat):Int)*((j.val:Nat):Int)) % 11≠0:=by decide
 obtain ⟨i,hi⟩:=eq_ofNat_of_zero_le (emod_nonneg x (show (11:Int)≠0 by decide))
 obtain ⟨j,hj⟩:=eq_ofNat_of_zero_le (emod_nonneg y (show (11:Int)≠0 by decide))
 have h1:=emod_lt_of_pos x (show (0:Int)<11 by decide)
 have h2:=emod_lt_of_pos y (show (0:Int)<11 by decide)
 rw [hi,hj]
 exact k ⟨i,by lia⟩ ⟨j,by lia⟩ (by show i≠0;lia) (by show j≠0;lia)
def P5(p:Int):Prop:=p=2\/p=3\/p=5\/p=7\/p=11
theorem P5.pos{p:Int}(h:P5 p):2<=p:=by rcases h with rfl|rfl|rfl|rfl|rfl <;> decide
theorem bF{p x y:Int}(hp:P5 p)(hx:x % p≠0)(hy:y % p≠0):x*y % p≠0:=by
 rcases hp with rfl|rfl|rfl|rfl|rfl
 ·exact BS hx hy
 ·exact BU hx hy
 ·exact BV hx hy
 ·exact BW hx hy
 ·exact zy hx hy
theorem bL{p x:Int}(hp:P5 p)(hx:x % p≠0):∀ n:Nat,x ^ n % p≠0
 | 0=>by rw [pow_zero];rcases hp with rfl|rfl|rfl|rfl|rfl <;> decide
 | n+1=>by rw [pow_succ];exact bF hp (bL hp hx n) hx
theorem dC{p m m':Int}(hp:P5 p):∀ {a a':Nat},p ^ a*m=p ^ a'*m'->m % p≠0->m' % p≠0->a=a'/\m=m'
 | 0,0,h,_,_=>⟨rfl,by simpa using h⟩
 | 0,a'+1,h,hm,_=>by
  exfalso;apply hm
  rw [pow_zero,one_mul] at h
  rw [h,pow_succ,mul_assoc,Int.mul_left_comm]
  exact mul_emod_right _ _
 | a+1,0,h,_,dB=>by
  exfalso;apply dB
  rw [pow_zero,one_mul] at h
  rw [<- h,pow_succ,mul_assoc,Int.mul_left_comm]
  exact mul_emod_right _ _
 | a+1,a'+1,h,hm,dB=>by
  have h2:=hp.pos
  have h':p*(p ^ a*m)=p*(p ^ a'*m'):=by
   rw [pow_succ,pow_succ] at h
   rw [<- mul_assoc,<- mul_assoc,Int.mul_comm p,Int.mul_comm p];exact h
  obtain ⟨e1,e2⟩:=dC hp (Int.eq_of_mul_eq_mul_left (by lia) h') hm dB
  exact⟨by lia,e2⟩
def gG(m:Int):Prop:=∀ p,P5 p->m % p≠0
theorem P5.p2:P5 2:=.inl rfl
theorem P5.p3:P5 3:=.inr (.inl rfl)
theorem P5.p5:P5 5:=.inr (.inr (.inl rfl))
theorem P5.p7:P5 7:=.inr (.inr (.inr (.inl rfl)))
theorem P5.Df:P5 11:=.inr (.inr (.inr (.inr rfl)))
theorem xt{a b c d e a' b' c' d' e':Nat}{m m':Int}(h:aK a b c d e*m=aK a' b' c' d' e'*m')(hm:gG m)(dB:gG m'):(a=a'/\b=b'/\c=c'/\d=d'/\e=e')/\m=m':=by
 unfold aK at h
 have r1:∀ (a b c d e:Nat) (m:Int),(2:Int) ^ a*3 ^ b*5 ^ c*7 ^ d*11 ^ e*m=2 ^ a*(3 ^ b*5 ^ c*7 ^ d*11 ^ e*m):=fun a b c d e m=>by ac_rfl
 have r2:∀ (b c d e:Nat) (m:Int),(3:Int) ^ b*5 ^ c*7 ^ d*11 ^ e*m=3 ^ b*(5 ^ c*7 ^ d*11 ^ e*m):=fun b c d e m=>by ac_rfl
 have r3:∀ (c d e:Nat) (m:Int),(5:Int) ^ c*7 ^ d*11 ^ e*m=5 ^ c*(7 ^ d*11 ^ e*m):=fun c d e m=>by ac_rfl
 have r4:∀ (d e:Nat) (m:Int),(7:Int) ^ d*11 ^ e*m=7 ^ d*(11 ^ e*m):=fun d e m=>by ac_rfl
 have n2:∀ (b c d e:Nat) {m:Int},gG m->(3:Int) ^ b*5 ^ c*7 ^ d*11 ^ e*m % 2≠0:=fun b c d e m hm=>bF .p2 (bF .p2 (bF .p2 (bF .p2 (bL .p2 (by decide) _) (bL .p2 (by decide) _)) (bL .p2 (by decide) _)) (bL .p2 (by decide) _)) (hm _ .p2)
 have n3:∀ (c d e:Nat) {m:Int},gG m->(5:Int) ^ c*7 ^ d*11 ^ e*m % 3≠0:=fun c d e m hm=>bF .p3 (bF .p3 (bF .p3 (bL .p3 (by decide) _) (bL .p3 (by decide) _)) (bL .p3 (by decide) _)) (hm _ .p3)
 have n5:∀ (d e:Nat) {m:Int},gG m->(7:Int) ^ d*11 ^ e*m % 5≠0:=fun d e m hm=>bF .p5 (bF .p5 (bL .p5 (by decide) _) (bL .p5 (by decide) _)) (hm _ .p5)
 have n7:∀ (e:Nat) {m:Int},gG m->(11:Int) ^ e*m % 7≠0:=fun e m hm=>bF .p7 (bL .p7 (by decide) _) (hm _ .p7)
 rw [r1,r1] at h
 obtain ⟨ha,h⟩:=dC .p2 h (n2 _ _ _ _ hm) (n2 _ _ _ _ dB)
 rw [r2,r2] at h
 obtain ⟨hb,h⟩:=dC .p3 h (n3 _ _ _ hm) (n3 _ _ _ dB)
 rw [r3,r3] at h
 obtain ⟨hc,h⟩:=dC .p5 h (n5 _ _ hm) (n5 _ _ dB)
 rw [r4,r4] at h
 obtain ⟨hd,h⟩:=dC .p7 h (n7 _ hm) (n7 _ dB)
 obtain ⟨he,h⟩:=dC .Df h (hm _ .Df) (dB _ .Df)
 exact⟨⟨ha,hb,hc,hd,he⟩,h⟩
def bl(x:Int):Nat:=if x == 0 then 0 else x.natAbs.log2+1
def oH(a b c d e:Int):Int:=aK a.toNat b.toNat c.toNat d.toNat e.toNat
def mh(a b c d e:Int):Int:=aK (-a).toNat (-b).toNat (-c).toNat (-d).toNat (-e).toNat
theorem rG(a b c d e:Int):1<=oH a b c d e:=nM ..
theorem rH(a b c d e:Int):1<=mh a b c d e:=nM ..
def F(m:Int)(x y:Int):Prop:=2 ^ (-m).toNat*y<=2 ^ m.toNat*x
def rt(b c d e:Int):Int:=aK 0 b.toNat c.toNat d.toNat e.toNat
def rb(b c d e:Int):Int:=aK 0 (-b).toNat (-c).toNat (-d).toNat (-e).toNat
theorem kL{p:Int}(hp:1<=p){m n:Nat}(h:m<=n):p ^ m<=p ^ n:=by
 obtain ⟨k,rfl⟩:=Nat.exists_eq_add_of_le h
 rw [Int.pow_add]
 have h1:0<p ^ m:=pw (by lia)
 have h2:0<p ^ k:=pw (by lia)
 have:p ^ m*1<=p ^ m*p ^ k:=Int.mul_le_mul_of_nonneg_left (by lia) (by lia)
 lia
theorem kf{x y u v:Int}(h1:x<=u)(h2:y<=v)(hx:0<x)(hy:0<y):x*y<=u*v :=
 Int.le_trans (Int.mul_le_mul_of_nonneg_right h1 (by lia)) (Int.mul_le_mul_of_nonneg_left h2 (by lia))
theorem gZ{a b c d e a' b' c' d' e':Nat}(h1:a<=a')(h2:b<=b')(h3:c<=c')(h4:d<=d')(h5:e<=e'):aK a b c d e<=aK a' b' c' d' e':=by
 unfold aK
 have p2:=pw (n:=a) (show (0:Int)<2 by decide)
 have p3:=pw (n:=b) (show (0:Int)<3 by decide)
 have p5:=pw (n:=c) (show (0:Int)<5 by decide)
 have p7:=pw (n:=d) (show (0:Int)<7 by decide)
 have Df:=pw (n:=e) (show (0:Int)<11 by decide)
 exact kf (kf (kf (kf (kL (by decide) h1) (kL (by decide) h2) p2 p3) (kL (by decide) h3) (mul_pos p2 p3) p5) (kL (by decide) h4) (mul_pos (mul_pos p2 p3) p5) p7) (kL (by decide) h5) (mul_pos (mul_pos (mul_pos p2 p3) p5) p7) Df
def Bd(a b c d e:Int):Prop:=(-4000<=a/\a<=4000)/\(-100<=b/\b<=100)/\(-100<=c/\c<=100)/\(-100<=d/\d<=100)/\(-100<=e/\e<=100)
def v8(e0 e1 e2 e3 e4:Int):Nat->Int
 | 0=>1
 | 1=>1*2 ^ e0.toNat
 | 2=>1*2 ^ e0.toNat*3 ^ e1.toNat
 | 3=>1*2 ^ e0.toNat*3 ^ e1.toNat*5 ^ e2.toNat
 | 4=>1*2 ^ e0.toNat*3 ^ e1.toNat*5 ^ e2.toNat*7 ^ e3.toNat
 | _=>1*2 ^ e0.toNat*3 ^ e1.toNat*5 ^ e2.toNat*7 ^ e3.toNat*11 ^ e4.toNat
theorem Dg(e0 e1 e2 e3 e4:Int):v8 e0 e1 e2 e3 e4 5=aK e0.toNat e1.toNat e2.toNat e3.toNat e4.toNat:=by
 show 1*2 ^ e0.toNat*3 ^ e1.toNat*5 ^ e2.toNat*7 ^ e3.toNat*11 ^ e4.toNat=_
 unfold aK;rw [one_mul]
theorem v9(e0 e1 e2 e3 e4:Int):v8 e0 e1 e2 e3 e4 5=oH e0 e1 e2 e3 e4:=Dg ..
theorem wa(e0 e1 e2 e3 e4:Int):v8 (0 - e0) (0 - e1) (0 - e2) (0 - e3) (0 - e4) 5=mh e0 e1 e2 e3 e4:=by
 rw [Dg];unfold mh;simp only [Int.zero_sub]
theorem P5.le{p:Int}(h:P5 p):p<12:=by rcases h with rfl|rfl|rfl|rfl|rfl <;> decide
def iG(c0 c1 c2 c3 c4:Nat)(m:Int):Nat->Int
 | 0=>2 ^ c0*(3 ^ c1*(5 ^ c2*(7 ^ c3*(11 ^ c4*m))))
 | 1=>3 ^ c1*(5 ^ c2*(7 ^ c3*(11 ^ c4*m)))
 | 2=>5 ^ c2*(7 ^ c3*(11 ^ c4*m))
 | 3=>7 ^ c3*(11 ^ c4*m)
 | 4=>11 ^ c4*m
 | _=>m
theorem wb(c0 c1 c2 c3 c4:Nat)(m:Int):iG c0 c1 c2 c3 c4 m 0=aK c0 c1 c2 c3 c4*m:=by
 show 2 ^ c0*(3 ^ c1*(5 ^ c2*(7 ^ c3*(11 ^ c4*m))))=_
 unfold aK;ac_rfl
theorem oI(c0 c1 c2 c3 c4:Nat)(m:Int):iG c0 c1 c2 c3 c4 m 0=2 ^ c0*iG c0 c1 c2 c3 c4 m 1:=rfl
theorem oJ(c0 c1 c2 c3 c4:Nat)(m:Int):iG c0 c1 c2 c3 c4 m 1=3 ^ c1*iG c0 c1 c2 c3 c4 m 2:=rfl
theorem oK(c0 c1 c2 c3 c4:Nat)(m:Int):iG c0 c1 c2 c3 c4 m 2=5 ^ c2*iG c0 c1 c2 c3 c4 m 3:=rfl
theorem oM(c0 c1 c2 c3 c4:Nat)(m:Int):iG c0 c1 c2 c3 c4 m 3=7 ^ c3*iG c0 c1 c2 c3 c4 m 4:=rfl
theorem oN(c0 c1 c2 c3 c4:Nat)(m:Int):iG c0 c1 c2 c3 c4 m 4=11 ^ c4*iG c0 c1 c2 c3 c4 m 5:=rfl
section
variable (c0 c1 c2 c3 c4:Nat){m:Int}(h:gG m)
include h
theorem oO:iG c0 c1 c2 c3 c4 m 1 % 2≠0:=bF .p2 (bL .p2 (by decide) _) (bF .p2 (bL .p2 (by decide) _) (bF .p2 (bL .p2 (by decide) _) (bF .p2 (bL .p2 (by decide) _) (h _ .p2))))
theorem oP:iG c0 c1 c2 c3 c4 m 2 % 3≠0:=bF .p3 (bL .p3 (by decide) _) (bF .p3 (bL .p3 (by decide) _) (bF .p3 (bL .p3 (by decide) _) (h _ .p3)))
theorem oQ:iG c0 c1 c2 c3 c4 m 3 % 5≠0:=bF .p5 (bL .p5 (by decide) _) (bF .p5 (bL .p5 (by decide) _) (h _ .p5))
theorem oR:iG c0 c1 c2 c3 c4 m 4 % 7≠0:=bF .p7 (bL .p7 (by decide) _) (h _ .p7)
theorem oS:iG c0 c1 c2 c3 c4 m 5 % 11≠0:=h _ .Df
end
def sub(a b:List Int):List Int:=List.zipWith (· - ·) a b
def Ig(r:List Int)(k:Int):List Int:=r.map (·*k)
def low(v s:List Int)(q:Int):List Int:=sub v (Ig s q)
def J9(M:Nat)(r:List Int):Prop:=∀ i,(r.getD i 0).natAbs<=M
def at'(p:Nat)(v:List Int):Nat:=(v.getD p 0).natAbs
structure PS(n p M m l:Nat)(led os:List (List Int)):Prop where
 len:∀ v∈led++os,v.length=n
 bd:∀ v∈led++os,J9 M v
 lo:∀ v∈led,l<=at' p v/\at' p v<=m
 pos:0<l
 big:∃ v∈led,at' p v=m
 low:∃ v∈led,at' p v=l
 one:(∀ v∈led,0<v.getD p 0)\/∀ v∈led,v.getD p 0<0
 zero:∀ v∈os,v.getD p 0=0
def PI(n p M:Nat)(led os:List (List Int)):Prop :=
 (∀ v∈led++os,v.length=n)/\(∀ v∈led,v.getD p 0≠0)/\(∀ v∈os,v.getD p 0=0) /\
  ((∀ v∈led++os,J9 M v)\/(∃ m l M',PS n p M' m l led os/\M'*m*m*l<=3*(M*M*M*M))\/(led.length<=1/\∀ v∈led++os,J9 (6*(M*M*M*M)) v))
def r2(p:Nat×Nat):List Int:=[(p.1:Int),(p.2:Int)]
def NK:List (Nat×Nat)->Nat
 | []=>1
 | p::l=>p.2*NK l
def NL:List (Nat×Nat)->Nat
 | []=>0
 | p::l=>p.1*NK l+p.2*NL l
theorem rJ(f m:Nat):Nat.gcd m (f % m)=Nat.gcd f m:=by rw [Nat.gcd_comm m,<- Nat.gcd_rec,Nat.gcd_comm]
def gr(b:Nat):Nat->Nat
 | 0=>b
 | i+1=>4*gr b i+3
def sb(b:Nat):Nat->Nat
 | 0=>0
 | i+1=>sb b i+gr b (i+1)+1
structure PT(p X m k:Nat)(led os:List (List Int)):Prop where
 bd:∀ v∈led++os,J9 X v
 hi:∀ v∈led,at' p v<=m
 one:(∀ v∈led,0<v.getD p 0)\/∀ v∈led,v.getD p 0<0
 low:∃ v∈led,at' p v+m<=k
def gs(b:Nat):Nat->Nat
 | 0=>b
 | i+1=>3*gs b i+3
def lb(W:Nat):Nat->Nat
 | 0=>0
 | i+1=>3*lb W i+2*W+12
end De
namespace aM
open PySem PySem.Builtin PySem.Builtin.Str PySem.StrLaws
theorem kM{z:Str}{c i:Nat}:At z ⟨#[c]⟩ z.length i↔z.cps[i]?=some c:=by
 unfold At subAt
 show i+1<=z.cps.size/\(z.cps.extract i (i+1) == #[c])=true↔_
 constructor
 ·rintro ⟨h1,h2⟩
  have h3:=eq_of_beq h2
  have h4:(z.cps.extract i (i+1))[0]?=some c:=by rw [h3];rfl
  rw [Array.getElem?_extract] at h4
  split at h4
  ·simpa using h4
  ·cases h4
 ·intro h
  have hi:i<z.cps.size:=by
   rcases lt_or_ge i z.cps.size with h1|h1
   ·exact h1
   ·rw [Array.getElem?_eq_none h1] at h;cases h
  refine⟨hi,beq_iff_eq.mpr ?_⟩
  apply Array.ext
  ·rw [Array.size_extract];simp;lia
  ·intro j h1 h2
   have:j=0:=by simp at h2;lia
   subst this
   rw [Array.getElem_extract]
   rw [Array.getElem?_eq_getElem hi] at h
   simpa using h
theorem oU{s sub:Str}{hi limit:Nat}(h1:sub.length=1):∀ (l:List Nat) (found:Array Nat) (free:Nat),l.Pairwise (·<·)->(∀ i∈l,free<=i)->found.size+l.length<=limit ->
  ∃ q:List Nat,(forIn l (found,free) (occBody s sub hi limit)).run.fst.toList=found.toList++q/\q.Sublist l/\∀ i∈l,(i∈q↔At s sub hi i)
 | [],found,free,_,_,_=>⟨[],by simp,.slnil,fun i h=>nomatch h⟩
 | a::l,found,free,hp,hf,hn=>by
  rw [forIn_cons]
  unfold occBody
  have ha:free<=a:=hf a (.head _)
  rw [length_cons] at hn
  obtain ⟨Lo,NM⟩:=Sr.mp hp
  by_cases hc:At s sub hi a
  ·rw [if_pos ⟨⟨⟨by show found.size<limit;lia,ha⟩,hc.1⟩,hc.2⟩]
   obtain ⟨q,e,hs,hm⟩:=oU (limit:=limit) h1 l (found.push a) (a+sub.length) NM (fun i Bk=>by have:=Lo i Bk;lia) (by rw [Array.size_push];lia)
   refine⟨a::q,?_,.cons_cons a hs,fun i Bk=>?_⟩
   ·refine Eq.trans e ?_
    rw [Array.toList_push,append_assoc];rfl
   ·rcases Sd.mp Bk with z|z
    ·subst z;exact⟨fun _=>hc,fun _=>.head _⟩
    ·have:=Lo i z
     refine Iff.trans ⟨fun w=>?_,.tail _⟩ (hm i z)
     rcases Sd.mp w with y|y
     ·lia
     ·exact y
  ·rw [if_neg (fun h=>hc ⟨h.1.2,h.2⟩)]
   obtain ⟨q,e,hs,hm⟩:=oU (limit:=limit) h1 l found free NM (fun i Bk=>hf i (.tail _ Bk)) (by lia)
   refine⟨q,e,.cons a hs,fun i Bk=>?_⟩
   rcases Sd.mp Bk with z|z
   ·subst z
    refine⟨fun w=>?_,fun w=>absurd w hc⟩
    exact absurd (Lo i (hs.subset w)) (Nat.lt_irrefl _)
   ·exact hm i z
theorem wc(z:Str)(c:Nat):∃ q:List Nat,occurrences z ⟨#[c]⟩ 0 z.length (z.length+1)=q/\q.Pairwise (·<·)/\∀ i:Nat,(i∈q↔z.cps[i]?=some c):=by
 obtain ⟨q,e,hs,hm⟩:=oU (s:=z) (sub:=⟨#[c]⟩) (hi:=z.length) (limit:=z.length+1) rfl (List.range' 0 (z.length+1 - 0)) #[] 0 (List.pairwise_lt_range' ..) (fun _ _=>Sm _) (by simp)
 refine⟨q,by rw [occ_eq];exact e.trans (by simp),(List.pairwise_lt_range' ..).sublist hs,fun i=>?_⟩
 rw [<- kM]
 constructor
 ·intro h
  exact (hm i (hs.subset h)).mp h
 ·intro h
  refine (hm i ?_).mpr h
  have:=h.1
  simp [List.mem_range']
  lia
theorem kO(z:Str)(c:Nat):((∀ i:Nat,z.cps[i]?≠some c)/\occurrences z ⟨#[c]⟩ 0 z.length 1=[])\/∃ i r,occurrences z ⟨#[c]⟩ 0 z.length 1=i::r/\z.cps[i]?=some c/\∀ k:Nat,k<i->z.cps[k]?≠some c:=by
 rcases occ_head z ⟨#[c]⟩ 1 (RM _) with ⟨h1,h2⟩|⟨i,r,h1,h2,h3⟩
 ·exact .inl ⟨fun i h=>h2 i (kM.mpr h),h1⟩
 ·exact .inr ⟨i,r,h1,kM.mp h2,fun k hk h=>h3 k hk (kM.mpr h)⟩
end aM
namespace aM
open PySem PySem.Builtin PySem.Builtin.Str PySem.StrLaws
def mi(c:Nat):Bool:=decide (48<=c) && decide (c<=57)
def digits:Str:=⟨#[48,49,50,51,52,53,54,55,56,57]⟩
theorem nN(c:Nat):(!(occurrences digits ⟨#[c]⟩ 0 digits.length 1).isEmpty)=mi c:=by
 rw [Bool.eq_iff_iff,found_iff]
 have h1:(∃ i,i+Str.length ⟨#[c]⟩<=digits.length/\subAt digits ⟨#[c]⟩ i=true)↔∃ i:Nat,digits.cps[i]?=some c:=exists_congr fun i=>kM (z:=digits) (c:=c) (i:=i)
 rw [h1]
 unfold mi
 rw [Bool.and_eq_true,decide_eq_true_eq,decide_eq_true_eq]
 constructor
 ·rintro ⟨i,h⟩
  have hi:i<10:=by
   rcases lt_or_ge i 10 with h1|h1
   ·exact h1
   ·rw [Array.getElem?_eq_none (show digits.cps.size<=i from h1)] at h;cases h
  have h2:digits.cps[i]?=some (48+i):=by
   rcases (show i=0\/i=1\/i=2\/i=3\/i=4\/i=5\/i=6\/i=7\/i=8\/i=9 by lia) with rfl|rfl|rfl|rfl|rfl|rfl|rfl|rfl|rfl|rfl <;> rfl
  rw [h2] at h
  injection h
  lia
 ·rintro ⟨h,h'⟩
  refine⟨c - 48,?_⟩
  rcases (show c=48\/c=49\/c=50\/c=51\/c=52\/c=53\/c=54\/c=55\/c=56\/c=57 by lia) with rfl|rfl|rfl|rfl|rfl|rfl|rfl|rfl|rfl|rfl <;> rfl
def cnt(z:Str)(m:Nat):Bool:=(decide (1<=z.length/\z.length<=m) && (z.cps[0]? != some 48)) && z.cps.toList.all mi
abbrev ba:Str:=⟨#[47]⟩
theorem kind_le(z:Str):¬ Builtin.Str.strKind z<Builtin.Str.strKind ba:=by
 have h:Builtin.Str.strKind ba=1:=by simp [Builtin.Str.strKind]
 rw [h]
 unfold Builtin.Str.strKind
 split
 ·decide
 ·split <;> decide
theorem jT(z:Str):(∃ top bot,Txt.partition z ba=(top,ba,bot)/\(Txt.split z ba=[top,bot]\/((Txt.split z ba).length≠2/\bot.cps.toList.all mi=false)))\/(Txt.partition z ba=(z,Str.empty,Str.empty)/\Txt.split z ba=[z]):=by
 obtain ⟨q,hq,hs,hm⟩:=wc z 47
 rcases kO z 47 with ⟨h1,h2⟩|⟨i,r,h1,h2,h3⟩
 ·have Dh:q=[]:=List.eq_nil_iff_forall_not_mem.mpr fun i hi=>h1 i ((hm i).mp hi)
  refine .inr ⟨?_,?_⟩
  ·unfold Txt.partition;rw [h2]
  ·unfold Txt.split;rw [hq,Dh]
   split
   ·rfl
   ·rfl
 ·have hi:i<z.length:=by
   rcases lt_or_ge i z.cps.size with h|h
   ·exact h
   ·rw [Array.getElem?_eq_none h] at h2;cases h2
  obtain ⟨r',rfl⟩:∃ r',q=i::r':=by
   have NN:=(hm i).mpr h2
   cases q with
   | nil=>cases NN
   | cons a t =>
    have ha:z.cps[a]?=some 47:=(hm a).mp (.head _)
    have:¬ a<i:=fun h=>h3 a h ha
    rcases Sd.mp NN with e|e
    ·exact⟨t,by rw [e]⟩
    ·have:=(Sr.mp hs).1 i e
     lia
  have kE:Txt.split z ba=partsBetween z (i::r') 1:=by
   unfold Txt.split
   rw [hq,if_neg (by
    rw [Bool.or_eq_true,decide_eq_true_eq,decide_eq_true_eq]
    rintro (h|h)
    ·have:Str.length ba=1:=rfl
     lia
    ·exact kind_le z h),if_neg (by simp)]
   rfl
  refine .inl ⟨strSub z 0 i,strSub z (i+1) z.length,?_,?_⟩
  ·unfold Txt.partition;rw [h1];rfl
  ·rw [kE]
   cases r' with
   | nil=>exact .inl rfl
   | cons j t =>
    refine .inr ⟨by simp [partsBetween],?_⟩
    have Nf:=(Sr.mp hs).1 j (.head _)
    have hj:z.cps[j]?=some 47:=(hm j).mp (.tail _ (.head _))
    have Q4:j<z.cps.size:=by
     rcases lt_or_ge j z.cps.size with h|h
     ·exact h
     ·rw [Array.getElem?_eq_none h] at hj;cases hj
    rw [Bool.eq_false_iff]
    intro rl
    have Lp:47∈(strSub z (i+1) z.length).cps.toList:=by
     have:(strSub z (i+1) z.length).cps[j - (i+1)]?=some 47:=by
      show (z.cps.extract (i+1) z.cps.size)[j - (i+1)]?=some 47
      rw [Array.getElem?_extract,if_pos (by lia),show i+1+(j - (i+1))=j by lia]
      exact hj
     rw [<- Array.getElem?_toList] at this
     exact R8 this
    exact absurd (all_eq_true.mp rl 47 Lp) (by decide)
end aM
namespace aM
open PySem PySem.Builtin PySem.Builtin.Str PySem.StrLaws PySem.NumText PySem.W.KIN PyProof.Rows
theorem BX{z:Str}(h:z.cps.toList.all mi=true):AllDigits z.cps.toList:=fun c hc=>by
 have:=all_eq_true.mp h c hc
 unfold mi at this
 rw [Bool.and_eq_true,decide_eq_true_eq,decide_eq_true_eq] at this
 exact this
theorem zz:∀ (cs:List Nat) (a:Nat),a<=cs.foldl (fun acc c=>acc*10+(c - 48)) a
 | [],a=>RM _
 | c::cs,a=>RL (by lia) (zz cs (a*10+(c - 48)))
theorem zA:∀ (cs:List Nat) (a:Nat),AllDigits cs->cs.foldl (fun acc c=>acc*10+(c - 48)) a<(a+1)*10 ^ cs.length
 | [],a,_=>by simp
 | c::cs,a,h=>by
  have h1:=h c (.head _)
  refine Nat.lt_of_lt_of_le (zA cs _ fun d hd=>h d (.tail _ hd)) ?_
  rw [length_cons,Nat.pow_succ,Nat.mul_comm (10 ^ cs.length) 10,<- Nat.mul_assoc]
  have h2:a*10+(c - 48)+1<=(a+1)*10:=by lia
  exact Nat.mul_le_mul_right _ h2
def num(z:Str):Nat:=digitsVal z.cps.toList
theorem cG{z:Str}{m:Nat}(h:cnt z m=true)(hm:m<=600):PySem.intText? z=some ((num z:Nat):Int)/\0<num z/\num z<10 ^ m/\z.length<=m:=by
 unfold cnt at h
 rw [Bool.and_eq_true,Bool.and_eq_true,decide_eq_true_eq] at h
 obtain ⟨⟨⟨h1,h2⟩,h3⟩,h4⟩:=h
 have hd:=BX h4
 have hl:z.cps.toList.length=z.length:=Array.length_toList
 have qR:z.cps.toList≠[]:=fun e=>by rw [e] at hl;simp at hl;lia
 refine⟨intText_digits hd qR (by lia),?_,?_,h2⟩
 ·unfold num digitsVal
  have h0:z.cps.toList[0]?≠some 48:=by
   rw [Array.getElem?_toList]
   simpa using h3
  generalize z.cps.toList=cs at h0 hd qR
  cases cs with
  | nil=>exact absurd rfl qR
  | cons c cs =>
   have hc:=hd c (.head _)
   have:c≠48:=fun e=>h0 (by rw [e];rfl)
   exact Nat.lt_of_lt_of_le (show 0<0*10+(c - 48) by lia) (zz cs _)
 ·have:=zA z.cps.toList 0 hd
  unfold num digitsVal
  refine Nat.lt_of_lt_of_le this ?_
  rw [Nat.zero_add,Nat.one_mul]
  exact RK (by decide) (by lia)
abbrev txt(n:Nat):Str:=PySem.Str.ofString (toString ((n:Nat):Int))
theorem we:∀ (k m:Nat),0<k->m<10 ^ k->(Nat.toDigits 10 m).length<=k
 | 0,_,h,_=>absurd h (by decide)
 | 1,m,_,h=>by rw [Nat.toDigits_of_lt_base (by simpa using h)];exact RM _
 | k+2,m,_,h=>by
  by_cases NO:m<10
  ·rw [Nat.toDigits_of_lt_base NO];simp
  ·have dB:m % 10<10:=mod_lt m (by decide)
   have t:Nat.toDigits 10 (m / 10)++Nat.toDigits 10 (m % 10)=Nat.toDigits 10 (10*(m / 10)+m % 10):=Nat.toDigits_append_toDigits (by decide) (by lia) dB
   rw [Nat.div_add_mod] at t
   have:=we (k+1) (m / 10) (by lia) (by rw [Nat.pow_succ] at h;lia)
   rw [<- t,Sa,Nat.toDigits_of_lt_base dB]
   show _+1<=_
   lia
end aM
namespace aM
open PySem PySem.Builtin PySem.Builtin.Str PySem.StrLaws
theorem dW{c d:Nat}:(⟨#[c]⟩:Str)=⟨#[d]⟩↔c=d:=by
 constructor
 ·intro h
  injection h with h
  simpa using h
 ·rintro rfl;rfl
theorem str0:Str.ofString "0"=⟨#[48]⟩:=by decide
theorem Di:Str.ofString "0123456789"=digits:=by decide
theorem zB:Str.ofString "/"=ba:=by decide
theorem jk{z:Str}{m:Nat}(h:¬ 1<=z.length):cnt z m=false:=by
 unfold cnt;rw [RV (fun h'=>h h'.1)];rfl
theorem rK{z:Str}{m:Nat}(h:¬ z.length<=m):cnt z m=false:=by
 unfold cnt;rw [RV (fun h'=>h h'.2)];rfl
theorem kP{z:Str}{m:Nat}(h:z.cps[0]?=some 48):cnt z m=false:=by
 unfold cnt;rw [h];simp
theorem wg{z:Str}{m c:Nat}(h1:1<=z.length)(h2:z.length<=m)(h3:z.cps[0]?=some c)(h4:c≠48):cnt z m=z.cps.toList.all mi:=by
 unfold cnt
 rw [RW ⟨h1,h2⟩,h3]
 have:(some c != some 48)=true:=by simpa using h4
 rw [this];rfl
theorem Ih{z:Str}(h:1<=z.length):∃ c,z.cps[0]?=some c:=⟨_,Array.getElem?_eq_getElem (show 0<z.cps.size from h)⟩
theorem xu(l:List Nat):(List.range l.length).map (fun i=>(l[i]?).getD 0)=l:=by
 apply ext_getElem
 ·simp
 ·intro i h1 h2
  simp [h2]
theorem all_range(z:Str):((List.range z.cps.size).map fun i=>mi ((z.cps[i]?).getD 0)).all id=z.cps.toList.all mi:=by
 have h:=xu z.cps.toList
 rw [Array.length_toList] at h
 conv=>rhs;rw [<- h]
 rw [all_map,all_map]
 congr 1
 funext i
 simp
theorem Ez{z:Str}(h:∀ (j c:Nat),z.cps[j]?=some c->mi c=true):z.cps.toList.all mi=true:=by
 rw [all_eq_true]
 intro c hc
 obtain ⟨j,hj⟩:=List.getElem?_of_mem hc
 exact h j c (by rw [<- Array.getElem?_toList];exact hj)
theorem BY{z:Str}{j c:Nat}(h:z.cps[j]?=some c)(hc:mi c=false):z.cps.toList.all mi=false:=by
 rw [Bool.eq_false_iff]
 intro h'
 have hm:c∈z.cps.toList:=R8 (i:=j) (by rw [Array.getElem?_toList];exact h)
 have:=all_eq_true.mp h' c hm
 rw [hc] at this;cases this
theorem wj{z:Str}{m:Nat}(h:z.cps.toList.all mi=false):cnt z m=false:=by
 unfold cnt;rw [h,Bool.and_false]
theorem sub_len(z:Str)(i j:Nat):(strSub z i j).length<=z.length:=by
 show (z.cps.extract i j).size<=z.cps.size
 rw [Array.size_extract];lia
theorem zC(z y:Str):(Txt.partition z y).1.length<=z.length/\(Txt.partition z y).2.2.length<=z.length:=by
 unfold Txt.partition
 split
 ·exact⟨sub_len _ _ _,sub_len _ _ _⟩
 ·exact⟨RM _,Sm _⟩
theorem rM:∀ (q:List Nat) (lo n:Nat),q.Pairwise (·<·)->(∀ i∈q,lo<=i/\i<n)->q.length<=n - lo
 | [],_,_,_,_=>Sm _
 | a::q,lo,n,hp,hq=>by
  have h1:=Sr.mp hp
  have ha:=hq a (.head _)
  have:=rM q (a+1) n h1.2 fun i hi=>⟨h1.1 i hi,(hq i (.tail _ hi)).2⟩
  rw [length_cons]
  lia
theorem xw(z:Str)(w:Nat):∀ q:List Nat,(partsBetween z q w).length=q.length+1:=by
 intro q
 simp [partsBetween]
theorem split_len(z:Str):(Txt.split z ba).length<=z.length+1:=by
 obtain ⟨q,hq,hs,hm⟩:=wc z 47
 have hl:q.length<=z.length:=by
  refine rM q 0 z.length hs fun i hi=>⟨Sm _,?_⟩
  have:=(hm i).mp hi
  rcases lt_or_ge i z.cps.size with h|h
  ·exact h
  ·rw [Array.getElem?_eq_none h] at this;cases this
 unfold Txt.split
 rw [hq]
 split
 ·simp
 ·split
  ·simp
  ·rw [xw];lia
def kQ(z:Str)(m:Nat):Option (Nat×Nat):=match Txt.split z ba with
 | [a,b]=>if (cnt a m && cnt b m)=true then some (num a,num b) else none
 | _=>none
theorem oV{z a b:Str}{m:Nat}(h:Txt.split z ba=[a,b]):kQ z m=if (cnt a m && cnt b m)=true then some (num a,num b) else none:=by
 unfold kQ;rw [h]
theorem kg{z:Str}{m:Nat}(h:(Txt.split z ba).length≠2):kQ z m=none:=by
 unfold kQ
 split
 ·rename_i a b e
  rw [e] at h
  exact absurd rfl h
 ·rfl
theorem zD{z:Str}(h:(Txt.split z ba).length=2):∃ a b,Txt.split z ba=[a,b]/\a.length<=z.length/\b.length<=z.length:=by
 rcases jT z with ⟨a,b,h1,h2|h2⟩|⟨_,h2⟩
 ·have:=zC z ba
  rw [h1] at this
  exact⟨a,b,h2,this⟩
 ·exact absurd h h2.1
 ·rw [h2] at h;cases h
theorem zE(z:Str)(m:Nat):kQ z m=if (cnt (Txt.partition z ba).1 m && cnt (Txt.partition z ba).2.2 m)=true then some (num (Txt.partition z ba).1,num (Txt.partition z ba).2.2) else none:=by
 rcases jT z with ⟨a,b,h1,h2|h2⟩|⟨h1,h2⟩
 ·rw [oV h2,h1]
 ·rw [kg h2.1,h1]
  show none=if (cnt a m && cnt b m)=true then _ else _
  rw [wj h2.2,Bool.and_false];rfl
 ·rw [kg (by rw [h2];exact Nat.noConfusion ∘ Nat.succ.inj),h1]
  show none=if (cnt z m && cnt Str.empty m)=true then _ else _
  rw [jk (z:=Str.empty) (by decide),Bool.and_false];rfl
theorem kR{z:Str}{m t b:Nat}(hm:m<=600)(h:kQ z m=some (t,b)):0<t/\t<10 ^ m/\0<b/\b<10 ^ m:=by
 rw [zE] at h
 split at h
 ·rename_i hc
  rw [Bool.and_eq_true] at hc
  have h1:=cG hc.1 hm
  have h2:=cG hc.2 hm
  cases h
  exact⟨h1.2.1,h1.2.2.1,h2.2.1,h2.2.2.1⟩
 ·cases h
theorem iP{n m:Nat}(hm:0<m)(h:n<10 ^ m):(txt n).length<=m:=by
 have hs:=PySem.W.KIN.signs_num n
 show (txt n).cps.size<=m
 rw [<- Array.length_toList,hs,R9]
 exact we m n hm h
end aM
namespace aM
open PySem
theorem BZ{t b:Nat}(h:0<b):Nat.gcd (t / Nat.gcd t b) (b / Nat.gcd t b)=1:=by
 rw [Nat.gcd_div (Nat.gcd_dvd_left _ _) (Nat.gcd_dvd_right _ _)]
 exact Nat.div_self (Nat.gcd_pos_of_pos_right _ h)
end aM
namespace aM
open PySem PySem.Builtin PySem.Builtin.Str PySem.StrLaws PySem.NumText PySem.W.KIN PyProof.Rows
theorem Ii{i:Int}(h:0<=i):Str.ofString (toString i)=txt i.toNat:=by
 obtain ⟨n,rfl⟩:=eq_ofNat_of_zero_le h
 rfl
theorem zF{i:Int}(h:i.natAbs<2 ^ 1920):i.natAbs.log2<1920:=by
 rcases Nat.eq_zero_or_pos i.natAbs with e|e
 ·rw [e];decide
 ·exact (Nat.log2_lt (by lia)).mpr h
end aM
namespace De
theorem iQ:∀ n:Nat,0<n->∃ (c0 c1 c2 c3 c4:Nat) (m:Int),(n:Int)=aK c0 c1 c2 c3 c4*m/\gG m/\1<=m:=by
 intro n
 induction n using Nat.strongRecOn with
 | _ n ih =>
  intro hn
  by_cases h:gG (n:Int)
  ·exact⟨0,0,0,0,0,n,by simp [aK],h,by lia⟩
  ·have hp:∃ p:Int,P5 p/\(n:Int) % p=0:=by
    apply Classical.byContradiction
    intro hq
    exact h fun p hp e=>hq ⟨p,hp,e⟩
   obtain ⟨p,hp,hd⟩:=hp
   have xx:=hp.pos
   obtain ⟨q,hq⟩:=Int.dvd_of_emod_eq_zero hd
   have Dh:0<q:=by
    rcases Int.lt_or_le 0 q with h1|h1
    ·exact h1
    ·have:p*q<=0:=Int.mul_nonpos_of_nonneg_of_nonpos (by lia) h1
     lia
   obtain ⟨r,rfl⟩:=eq_ofNat_of_zero_le (Int.le_of_lt Dh)
   have eK:r<n:=by
    have h2:2*(r:Int)<=p*r:=Int.mul_le_mul_of_nonneg_right (by lia) (by lia)
    lia
   obtain ⟨c0,c1,c2,c3,c4,m,e,hm,m1⟩:=ih r eK (by lia)
   have key:∀ a0 a1 a2 a3 a4,p=aK a0 a1 a2 a3 a4->∃ (c0 c1 c2 c3 c4:Nat) (m:Int),(n:Int)=aK c0 c1 c2 c3 c4*m/\gG m/\1<=m:=fun a0 a1 a2 a3 a4 ha =>
    ⟨a0+c0,a1+c1,a2+c2,a3+c3,a4+c4,m,by rw [hq,e,ha,<- jj,mul_assoc],hm,m1⟩
   rcases hp with rfl|rfl|rfl|rfl|rfl
   ·exact key 1 0 0 0 0 (by decide)
   ·exact key 0 1 0 0 0 (by decide)
   ·exact key 0 0 1 0 0 (by decide)
   ·exact key 0 0 0 1 0 (by decide)
   ·exact key 0 0 0 0 1 (by decide)
theorem wk{m n:Int}(hm:gG m)(hn:gG n):gG (m*n):=fun p hp=>bF hp (hm p hp) (hn p hp)
theorem wm{t b T B g:Nat}{c0 c1 c2 c3 c4 d0 d1 d2 d3 d4 e0 e1 e2 e3 e4 f0 f1 f2 f3 f4:Nat}{m m' x y:Int}(h1:t=g*T)(h2:b=g*B)(hg:Nat.gcd T B=1)
  (ht:(t:Int)=aK c0 c1 c2 c3 c4*m) (hb:(b:Int)=aK d0 d1 d2 d3 d4*m') (hT:(T:Int)=aK e0 e1 e2 e3 e4*x) (hB:(B:Int)=aK f0 f1 f2 f3 f4*y)
  (hm:gG m) (dB:gG m') (hx:gG x) (hy:gG y) (x1:1<=x) (m1:1<=m):((c0+f0=d0+e0/\c1+f1=d1+e1/\c2+f2=d2+e2/\c3+f3=d3+e3/\c4+f4=d4+e4)/\(m=m'↔x=1/\y=1)):=by
 have hc:(t:Int)*B=b*T:=by rw [h1,h2,natCast_mul,natCast_mul];ac_rfl
 have hs:aK (c0+f0) (c1+f1) (c2+f2) (c3+f3) (c4+f4)*(m*y)=aK (d0+e0) (d1+e1) (d2+e2) (d3+e3) (d4+e4)*(m'*x):=by
  rw [<- jj,<- jj]
  rw [ht,hb,hT,hB] at hc
  have l1:∀ P Q m y:Int,P*Q*(m*y)=P*m*(Q*y):=fun P Q m y=>by ac_rfl
  exact (l1 _ _ _ _).trans (hc.trans (l1 _ _ _ _).symm)
 obtain ⟨q1,q2⟩:=xt hs (wk hm hy) (wk dB hx)
 refine⟨q1,fun e=>?_,fun e=>?_⟩
 ·subst e
  have O8:y=x:=Int.eq_of_mul_eq_mul_left (by lia) q2
  subst O8
  obtain ⟨n,rfl⟩:=eq_ofNat_of_zero_le (show 0<=y by lia)
  have k1:n ∣ T:=Int.natCast_dvd_natCast.mp ⟨_,hT.trans (Int.mul_comm _ _)⟩
  have k2:n ∣ B:=Int.natCast_dvd_natCast.mp ⟨_,hB.trans (Int.mul_comm _ _)⟩
  have k3:=Nat.dvd_gcd k1 k2
  rw [hg] at k3
  have:=Nat.dvd_one.mp k3
  subst this
  exact⟨rfl,rfl⟩
 ·obtain ⟨rfl,rfl⟩:=e
  simpa using q2
end De
namespace tZ
open PySem PySem.Builtin PySem.Builtin.Str PySem.StrLaws PyProof.Rows
theorem EA(i j n:Nat):strSliceIndices (some (i:Int)) (some (j:Int)) 1 n=strSliceIndices (some ((min i n:Nat):Int)) (some ((min j n:Nat):Int)) 1 n:=by
 have h0:¬ (i:Int)<0:=by lia
 have h1:¬ (j:Int)<0:=by lia
 have h2:(1:Int) > 0:=by decide
 have h3:¬ ((min i n:Nat):Int)<0:=by lia
 have h4:¬ ((min j n:Nat):Int)<0:=by lia
 have e1:min (i:Int) (n:Int)=min ((min i n:Nat):Int) (n:Int):=by lia
 have e2:min (j:Int) (n:Int)=min ((min j n:Nat):Int) (n:Int):=by lia
 simp only [strSliceIndices,h0,h1,h2,h3,h4,if_false,if_true,e1,e2]
theorem cut{z:Str}{i j:Nat}(h:i<=j):(Txt.slice z (some (i:Int)) (some (j:Int))).cps.toList=(z.cps.toList.drop i).take (j - i):=by
 have hl:z.cps.toList.length=z.length:=Array.length_toList
 have e:Txt.slice z (some (i:Int)) (some (j:Int))=Txt.slice z (some ((min i z.length:Nat):Int)) (some ((min j z.length:Nat):Int)):=by
  unfold Txt.slice
  rw [EA]
 rw [e,beq_iff_eq.mp (slice_closes (x:=z) (i:=((min i z.length:Nat):Int)) (j:=((min j z.length:Nat):Int)) ⟨by lia,by lia,by lia⟩)]
 show (List.take _ (List.drop _ z.cps.toList)).toArray.toList=_
 rw [List.toList_toArray]
 rw [show ((min i z.length:Nat):Int).toNat=min i z.length from rfl,show (((min j z.length:Nat):Int) - ((min i z.length:Nat):Int)).toNat=min j z.length - min i z.length by lia]
 by_cases hi:i<=z.length
 ·rw [Nat.min_eq_left hi]
  by_cases hj:j<=z.length
  ·rw [Nat.min_eq_left hj]
  ·rw [Nat.min_eq_right (by lia)]
   rw [RR (by rw [length_drop];lia),RR (by rw [length_drop];lia)]
 ·rw [Nat.min_eq_right (by lia:z.length<=i),Nat.min_eq_right (by lia:z.length<=j),List.drop_of_length_le (by lia),List.drop_of_length_le (by lia)]
  simp
end tZ
namespace tZ
open PySem PySem.Builtin PySem.Builtin.Str PySem.StrLaws PySem.NumText PySem.W.KIN PyProof.Rows
theorem gH{y z:Str}(h:y.cps.toList=z.cps.toList):y=z:=by
 cases y;cases z
 congr 1
 exact Array.ext' h
end tZ
namespace De
def gens(ms:List Int)(rs:List (List Int)):List (List Int):=(List.range 5).map fun i=>Ig (rs.getD i []) (ms.getD i 0)
end De
namespace O9
structure Sg(P:Int->Int->Prop):Prop where
 add:∀ {n j n' j':Int},P n j->P n' j'->P (n+n') (j+j')
 neg:∀ {n j:Int},P n j->P (-n) (-j)->False
 NL:∀ n j:Int,j≠0->P n j\/P (-n) (-j)
 oct:∀ {n:Int},P n 0->0<n
section
variable {P:Int->Int->Prop}{o:Int->Int}{N:Int}
structure Ch(P:Int->Int->Prop)(o:Int->Int)(N:Int):Prop where
 s:Sg P
 z:o 0=0
 f:∀ j,0<j->j<N->P (o j) j/\P (1 - o j) (-j)
variable (C:Ch P o N)
include C
variable {a b:Int}(a0:0<a)(a1:a<N)(mn:∀ j,0<j->j<N->j≠a->P (o j - o a) (j - a))(b0:0<b)(b1:b<N)(mx:∀ j,0<j->j<N->j≠b->P (o b - o j) (b - j))
include a0 a1 mn in
include a0 a1 mn in
include b0 b1 mx in
include b0 b1 mx in
include a0 a1 mn b0 b1 mx in
include a0 a1 mn b0 b1 mx in
include a0 a1 mn b0 b1 mx in
end
end O9
namespace tZ
open PySem
def J(c:Nat):List (List Nat)->List Nat
 | []=>[]
 | [x]=>x
 | x::y::r=>x++c::J c (y::r)
theorem rN(c:Nat):∀ ws:List Str,(Str.join ⟨#[c]⟩ ws).cps.toList=J c (ws.map fun w=>w.cps.toList)
 | []=>rfl
 | [x]=>rfl
 | x::y::r=>by
  have ih:=rN c (y::r)
  show (x++⟨#[c]⟩++Str.join ⟨#[c]⟩ (y::r)).cps.toList=x.cps.toList++c::J c ((y::r).map fun w=>w.cps.toList)
  rw [<- ih]
  show ((x.cps++#[c])++(Str.join ⟨#[c]⟩ (y::r)).cps).toList=_
  simp
end tZ
namespace De
def eb:Nat->Nat->Nat
 | 0,e=>e
 | k+1,e=>eb k (2*e+1)
end De
namespace L2
open PySem PySem.Spec PyProof.Rows
def nO(K:Frag)(a:Addr)(xs:List V):Prop:=∀ H,aT K H a xs
theorem nO.at{K:Frag}{a:Addr}{xs:List V}{H:Hp}(h:nO K a xs):aT K H a xs:=h H
theorem aj.lst{H H':Hp}{a:Addr}{xs:List V}(e:aj H H')(h:H a=some (.lst xs)):H' a=some (.lst xs):=e _ _ h
theorem aj.bY{H H2:Hp}{l:Addr}{o:HO}(s:aj H H2)(h:H l=none):aj H (upd H2 l o):=fun b u e=>by
 rw [aE (aN e h)];exact s _ _ e
def Ij:V->Hp->(Bool->Hp->Prop)->Prop:=fun x H R=>∃ c,x=.bl c/\R c H
def Ik:V->Hp->(Option Int->Hp->Prop)->Prop:=fun x H R=>∃ i,x=.int i/\R (some i) H
def Dj:List V->Hp->VK->Prop:=fun xs H Q=>xs.length<=sizeLine/\∀ p,H p=none->Q (.ref p) (upd H p (.tup xs))
def Dk:List V->Hp->VK->Prop:=fun xs H Q=>xs.length<=sizeLine/\∀ p,H p=none->Q (.ref p) (upd H p (.lst xs))
def B0(K:Frag):List V->Hp->VK->Prop:=fun xs H Q=>∃ p ys,xs=[.ref p]/\(b5 K H p ys\/aT K H p ys)/\Q (.int ys.length) H
def kT(K:Frag):List V->Hp->VK->Prop:=fun xs H Q=>∃ p ys,xs=[.ref p]/\((b5 K H p ys/\∀ l,H l=none->Q (.ref l) (upd H l (.tup ys)))\/(aT K H p ys/\Q (.ref p) H))
def dX(K:Frag):List V->Hp->VK->Prop:=fun xs H Q=>∃ x n t b,xs=[x,.ty n]/\NJ K H x t/\PySem.W.kitOne K t (.type n)=some b/\Q (.bl b) H
def Il:List V->Hp->VK->Prop:=fun xs H Q=>∃ i,xs=[.int i]/\Q (.int (if i<0 then -i else i)) H
def Im:List V->Hp->VK->Prop:=fun xs H Q=>∃ i j,xs=[.int i,.int j]/\Q (.int (if j > i then j else i)) H
def Io(K:Frag):V->Hp->(It->Hp->Prop)->Prop:=fun x H R=>∃ a,x=.ref a/\(∃ xs,b5 K H a xs)/\R (GH K a) H
def Ip(K:Frag):V->Hp->(It->Hp->Prop)->Prop:=fun x H R=>∃ a,x=.ref a/\(∃ xs,aT K H a xs)/\R (DV K a) H
def Iq:List V->Hp->(It->Hp->Prop)->Prop:=fun vs H R=>∃ j:Int,vs=[.int j]/\-(2 ^ 62)<=j/\j<2 ^ 62/\R (vP 0 j.toNat) H
def Ir(K:Frag)(k1 k2:Bool):List V->Hp->(It->Hp->Prop)->Prop:=fun vs H R=>∃ a b,vs=[.ref a,.ref b]/\(∃ xs,Sq k1 K H a xs)/\(∃ ys,Sq k2 K H b ys)/\R (Ex K k1 k2 a b) H
def zG(K:Frag)(T:String)(ts:TA)(r:V->List V->Hp->VK->Prop)(σ:St)(Q:VK):V->Hp->Prop:=fun x H1=>Ee K T x H1/\ts σ H1 fun xs H2=>r x xs H2 Q
def wo(K:Frag)(T:String)(r:V->List V->Hp->VK->Prop)(Q:VK):V->Hp->Prop:=fun x H1=>Ee K T x H1/\r x [] H1 Q
def dv(g:TG)(tb:TS)(D:Ends)(J:It)(σ:St)(H:Hp):Prop:=∃ W:Nat->Nat->St->Hp->Prop,(∃ m,W 0 m σ H)/\∀ i m σ H,W i m σ H ->
 (J.stop i H/\D.nx σ H)\/(J.go i H/\∃ N:St->Hp->Prop,(∀ σ' H',N σ' H'->∃ m',m'<m/\W (i+1) m' σ' H')/\∀ x H',J.Bg i H x H'->g x σ H' fun σ2 H2=>tb { D with nx:=N,ct:=N,bk:=D.nx } σ2 H2)
section
variable {X:Cx}
theorem xy:bQ X (.builtin "len") (B0 X.K):=oB
theorem rO:bQ X (.type "tuple") (kT X.K):=me
theorem oW:bQ X (.builtin "isinstance") (dX X.K):=rD
theorem gI:bQ X (.builtin "abs") Il:=y8
theorem nR (hc:X.calm=true):bQ X (.builtin "max") Im:=xf hc
end
section
variable {t u:TS}{D:Ends}{σ:St}{H:Hp}{te ta tb:TE}{g:TG}{tt tu:TT}{Q:VK}{i j:Int}{x y v w:V}{K:Frag}
theorem wq(h:t { D with nx:=u D } σ H):Hg t u D σ H:=h
theorem zH(h:te σ H fun x H1=>g x σ H1 D.nx):Hj te g D σ H:=h
theorem oX{n:Nat}{R:St->Hp->Prop}(h:R (σ.set n (some v)) H):c7 n v σ H R:=h
theorem Iu(h:te σ H D.rt):Hh te D σ H:=h
theorem EB(h:te σ H fun _ H1=>D.nx σ H1):CV te D σ H:=h
theorem EC(h:D.nx σ H):CU D σ H:=h
theorem Iv{c:TT}(h:c σ H fun b H1=>if b=true then t D σ H1 else u D σ H1):DS c t u D σ H:=h
theorem Iw{n:Nat}(e:σ[n]?=some (some v))(h:Q v H):yQ n σ H Q:=⟨v,e,h⟩
theorem Lq(h:Q v H):tC v σ H Q:=h
theorem Lr{r:R2}(h:ta σ H fun x H1=>tb σ H1 fun y H2=>r x y H2 Q):GJ r ta tb σ H Q:=h
theorem Ls{r:V->Hp->VK->Prop}(h:ta σ H fun x H1=>r x H1 Q):Ni r ta σ H Q:=h
theorem Pa{R:Bool->Hp->Prop}(h:te σ H fun x H1=>Ij x H1 R):tB te σ H R:=h
theorem ED{R:Bool->Hp->Prop}(h:te σ H fun x H1=>Ij x H1 R):yZ te σ H R:=h
theorem EE{b:Bool}{R:Bool->Hp->Prop}(h:R b H):Ij (.bl b) H R:=⟨b,rfl,h⟩
theorem Iy{R:Bool->Hp->Prop}(h:tt σ H fun c H1=>if c=true then tu σ H1 R else R false H1):He tt tu σ H R:=h
theorem Lu{R:Bool->Hp->Prop}(h:tt σ H fun c H1=>if c=true then R true H1 else tu σ H1 R):Nd tt tu σ H R:=h
theorem IA{R:Bool->Hp->Prop}(h:tt σ H fun c H1=>R (!c) H1):Hf tt σ H R:=h
theorem EF(h:ta σ H fun x H1=>Ij x H1 fun c H2=>if c=true then tb σ H2 Q else Q (.bl false) H2):CS ta tb σ H Q:=h
theorem EG(h:ta σ H fun x H1=>Ij x H1 fun c H2=>Q (.bl (!c)) H2):CT ta σ H Q:=h
theorem Lw{f:Int->Int->V}(h:Q (f i j) H):Bh f (.int i) (.int j) H Q:=⟨i,j,rfl,rfl,h⟩
theorem Pb{C:Int->Int->Prop}{f:Int->Int->V}(c:C i j)(h:Q (f i j) H):rI C f (.int i) (.int j) H Q:=⟨i,j,rfl,rfl,c,h⟩
theorem Pc{f:Int->V}(h:Q (f i) H):rU f (.int i) H Q:=⟨i,rfl,h⟩
theorem IB{i j:Int}:decide (V.int i=V.int j)=decide (i=j):=by
 by_cases e:i=j
 ·subst e;simp
 ·rw [RV e];exact RV fun z=>e (by injection z)
theorem IC(h:Q (.bl (decide (i=j))) H):KD (.int i) (.int j) H Q:=⟨rfl,by rw [IB];exact h⟩
theorem ID(h:Q (.bl (!decide (i=j))) H):KG (.int i) (.int j) H Q:=⟨rfl,by rw [IB];exact h⟩
theorem IE{R:List V->Hp->Prop}(h:R [] H):D5 σ H R:=h
theorem EH{ts:TA}{R:List V->Hp->Prop}(h:te σ H fun x H1=>ts σ H1 fun xs H2=>R (x::xs) H2):y9 te ts σ H R:=h
theorem IF{ts:TA}(h:ts σ H fun xs H1=>Dj xs H1 Q):Hv ts σ H Q:=h
theorem IG{ts:TA}(h:ts σ H fun xs H1=>Dk xs H1 Q):BC ts σ H Q:=h
theorem EI{xs:List V}(hl:xs.length<=1000)(h:∀ p H2,aj H H2->H2 p=some (.tup xs)->Q (.ref p) H2):Dj xs H Q :=
 ⟨RN (dA hl),fun p hp=>h p _ (aj.cC hp) aH⟩
theorem zI{xs:List V}(hl:xs.length<=1000)(h:∀ p H2,H p=none->aj H H2->H2 p=some (.lst xs)->Q (.ref p) H2):Dk xs H Q :=
 ⟨RN (dA hl),fun p hp=>h p _ hp (aj.cC hp) aH⟩
theorem Lx{r:List V->Hp->VK->Prop}{ts:TA}(h:ts σ H fun vs H1=>r vs H1 Q):KN r ts σ H Q:=h
theorem EJ{ix:List (Option Nat)}{wi:TI}(h:wi σ H fun J H1=>bS ix g tt te σ Q J H1):C6 ix wi g tt te σ H Q:=h
theorem Ly{r:V->Option Int->Option Int->Hp->VK->Prop}{tl th:TO}(h:te σ H fun x H1=>tl σ H1 fun l H2=>th σ H2 fun u H3=>r x l u H3 Q):Nm r te tl th σ H Q:=h
theorem zJ{R:Option Int->Hp->Prop}(h:R none H):vX σ H R:=h
theorem EK{R:Option Int->Hp->Prop}(h:te σ H fun x H1=>Ik x H1 R):C3 te σ H R:=h
theorem B1{R:Option Int->Hp->Prop}(h:R (some i) H):Ik (.int i) H R:=⟨i,rfl,h⟩
theorem Lz{T:String}{r:V->List V->Hp->VK->Prop}{ts:TA}(h:te σ H fun x H1=>zG K T ts r σ Q x H1):Nn K T r te ts σ H Q:=h
theorem IH{T:String}{r:V->List V->Hp->VK->Prop}(h:te σ H fun x H1=>wo K T r Q x H1):HF K T r te σ H Q:=h
theorem II{wi:TI}{tb:TS}(h:wi σ H fun J H1=>dv g tb D J σ H1):Ho wi g tb D σ H:=h
theorem B2{R:It->Hp->Prop}(h:te σ H fun x H1=>Io K x H1 R):yW K te σ H R:=h
theorem EL{R:It->Hp->Prop}(h:te σ H fun x H1=>Ip K x H1 R):DW K te σ H R:=h
theorem EM{ts:TA}{R:It->Hp->Prop}(h:ts σ H fun vs H1=>Iq vs H1 R):CZ ts σ H R:=h
theorem EN{k1 k2:Bool}{ts:TA}{R:It->Hp->Prop}(h:ts σ H fun vs H1=>Ir K k1 k2 vs H1 R):zv K k1 k2 ts σ H R:=h
theorem IJ{a:Addr}{xs:List V}{R:It->Hp->Prop}(e:b5 K H a xs)(h:R (GH K a) H):Io K (.ref a) H R:=⟨a,rfl,⟨_,e⟩,h⟩
theorem IK{a:Addr}{xs:List V}{R:It->Hp->Prop}(e:aT K H a xs)(h:R (DV K a) H):Ip K (.ref a) H R:=⟨a,rfl,⟨_,e⟩,h⟩
theorem Dl{R:It->Hp->Prop}(h1:-1000000<=j)(h2:j<=1000000)(h:R (vP 0 j.toNat) H):Iq [.int j] H R:=⟨j,rfl,by lia,by lia,h⟩
theorem IL{k1 k2:Bool}{a b:Addr}{xs ys:List V}{R:It->Hp->Prop}(e1:Sq k1 K H a xs)(e2:Sq k2 K H b ys)(h:R (Ex K k1 k2 a b) H):Ir K k1 k2 [.ref a,.ref b] H R:=⟨a,b,rfl,⟨_,e1⟩,⟨_,e2⟩,h⟩
theorem EO{a:Addr}{xs:List V}(h:aT K H a xs):Sq true K H a xs:=h
theorem IM{a:Addr}{xs:List V}(e:aT K H a xs)(n:rj xs i=some v)(h:Q v H):J6 K (.ref a) (.int i) H Q:=.inr (.inl ⟨a,xs,i,v,rfl,rfl,e,n,h⟩)
theorem fK{a:Addr}{xs:List V}(e:b5 K H a xs)(n:rj xs i=some v)(h:Q v H):J6 K (.ref a) (.int i) H Q:=.inl ⟨a,xs,i,v,rfl,rfl,e,n,h⟩
theorem ER{a:Addr}{xs:List V}(e:aT K H a xs)(h:Q (.int xs.length) H):B0 K [.ref a] H Q:=⟨a,xs,rfl,.inr e,h⟩
theorem ES{a:Addr}{xs:List V}(e:b5 K H a xs)(h:Q (.int xs.length) H):B0 K [.ref a] H Q:=⟨a,xs,rfl,.inl e,h⟩
theorem rP{a:Addr}{xs:List V}(e:b5 K H a xs)(h:∀ p H2,aj H H2->H2 p=some (.tup xs)->Q (.ref p) H2):kT K [.ref a] H Q :=
 ⟨a,xs,rfl,.inl ⟨e,fun p hp=>h p _ (aj.cC hp) aH⟩⟩
theorem IP(h:Q (.int (if i<0 then -i else i)) H):Il [.int i] H Q:=⟨i,rfl,h⟩
theorem IQ(h:Q (.int (if j > i then j else i)) H):Im [.int i,.int j] H Q:=⟨i,j,rfl,h⟩
theorem B3{T:String}{ts:TA}{r:V->List V->Hp->VK->Prop}(e:Ee K T x H)(h:ts σ H fun xs H2=>r x xs H2 Q):zG K T ts r σ Q x H:=⟨e,h⟩
theorem zK{T:String}{r:V->List V->Hp->VK->Prop}(e:Ee K T x H)(h:r x [] H Q):wo K T r Q x H:=⟨e,h⟩
theorem bT{l:Addr}{xs:List V}(e:H l=some (.lst xs))(n:xs.length<=1000)(h:Q .cF (upd H l (.lst (xs++[y])))):vY (.ref l) [y] H Q:=⟨l,xs,y,rfl,rfl,e,dA n,h⟩
theorem IS{a b:Addr}{xs ys:List V}(e1:H a=some (.lst xs))(e2:H b=some (.lst ys))(n:xs.length+ys.length<=1000)(h:∀ p H2,H p=none->aj H H2->H2 p=some (.lst (xs++ys))->Q (.ref p) H2):HJ (.ref a) (.ref b) H Q :=
 ⟨a,b,xs,ys,rfl,rfl,e1,e2,RN (dA n),fun p hp=>h p _ hp (aj.cC hp) aH⟩
theorem IT{a:Addr}{xs:List V}{lo hi:Option Int}(e:aT K H a xs)(n:¬ (HT.dP xs.length 0 lo=0/\HT.dP xs.length xs.length hi=xs.length))(h:∀ p H2,aj H H2->H2 p=some (.tup (um xs lo hi))->Q (.ref p) H2):BF K (.ref a) lo hi H Q :=
 ⟨a,xs,rfl,e,n,fun p hp=>h p _ (aj.cC hp) aH⟩
theorem ET {a:Addr} {xs:List V} {n:String} {b:Bool} (e:aT K H a xs) (k:PySem.W.kitOne K (.type "tuple") (.type n)=some b) (h:Q (.bl b) H):dX K [.ref a,.ty n] H Q:=⟨_,n,_,b,rfl,.inr (.inl ⟨a,xs,rfl,e,rfl⟩),k,h⟩
theorem EU {a:Addr} {xs:List V} {n:String} {b:Bool} (e:b5 K H a xs) (k:PySem.W.kitOne K (.type "list") (.type n)=some b) (h:Q (.bl b) H):dX K [.ref a,.ty n] H Q:=⟨_,n,_,b,rfl,.inr (.inr ⟨a,xs,rfl,e,rfl⟩),k,h⟩
theorem EV {n:String} {b:Bool} (k:PySem.W.kitOne K (.type "int") (.type n)=some b) (h:Q (.bl b) H):dX K [.int i,.ty n] H Q:=⟨_,n,_,b,rfl,.inl (.int _),k,h⟩
theorem EW {c:Bool} {n:String} {b:Bool} (k:PySem.W.kitOne K (.type "bool") (.type n)=some b) (h:Q (.bl b) H):dX K [.bl c,.ty n] H Q:=⟨_,n,_,b,rfl,.inl (.bl _),k,h⟩
theorem IU{J:It}{tb:TS}(n:Nat)(Pv:Nat->St->Prop)(h0:Pv 0 σ)(yL:∀ i H2,i<n->aj H H2->J.go i H2)(iO:∀ H2,aj H H2->J.stop n H2)
  (hs:∀ i x σ H2 H3,i<n->Pv i σ->aj H H2->J.Bg i H2 x H3->g x σ H3 fun σ2 H4=>tb { D with nx:=fun σ' H'=>Pv (i+1) σ'/\aj H H',ct:=fun σ' H'=>Pv (i+1) σ'/\aj H H',bk:=D.nx } σ2 H4) (hd:∀ σ H2,Pv n σ->aj H H2->D.nx σ H2):dv g tb D J σ H:=by
 refine⟨fun i m σ2 H2=>m=n - i/\i<=n/\Pv i σ2/\aj H H2,⟨n,by simp,Sm _,h0,aj.refl _⟩,?_⟩
 rintro i m σ2 H2 ⟨rfl,hi,p,s⟩
 by_cases eK:i<n
 ·exact .inr ⟨yL i H2 eK s,fun σ' H'=>Pv (i+1) σ'/\aj H H',fun σ' H' p'=>⟨n - (i+1),by lia,rfl,eK,p'.1,p'.2⟩,fun x H' y=>hs i x σ2 H2 H' eK p s y⟩
 ·have e:i=n:=by lia
  subst e
  exact .inl ⟨iO H2 s,hd σ2 H2 p s⟩
theorem IV{k1 k2:Bool}{a b:Addr}{xs ys:List V}{m n:Nat}{tb:TS}(ha:Sq k1 K H a xs)(hb:Sq k2 K H b ys)(hlen:xs.length=ys.length)(Pv:Nat->St->Prop)(h0:Pv 0 σ)
  (hs:∀ i x y σ H2,xs[i]?=some x->ys[i]?=some y->Pv i σ->aj H H2->tb { D with nx:=fun σ' H'=>Pv (i+1) σ'/\aj H H',ct:=fun σ' H'=>Pv (i+1) σ'/\aj H H',bk:=D.nx } ((σ.set m (some x)).set n (some y)) H2)
  (hd:∀ σ H2,Pv xs.length σ->aj H H2->D.nx σ H2):dv (yS K 2 (ky (c7 m) (ky (c7 n) By))) tb D (Ex K k1 k2 a b) σ H:=by
 refine IU xs.length Pv h0 (fun i H2 hi s=>?_) (fun H2 s=>?_) (fun i x σ H2 H3 hi p s hy=>?_) hd
 ·exact⟨_,_,xs[i],ys[i]'(hlen ▸ hi),s.sq ha,s.sq hb,R3 hi,R3 (hlen ▸ hi)⟩
 ·exact⟨_,_,s.sq ha,s.sq hb,.inl (RM _)⟩
 ·obtain ⟨q,x',y',rfl,hq,e1,e2,rfl⟩:=hy
  refine⟨q,_,rfl,aT.of aH,rfl,_,_,rfl,_,_,rfl,rfl,?_⟩
  have s2:aj H2 (upd H2 q (.tup [x',y'])):=aj.cC hq
  exact hs i x' y' σ _ (e1 _ (s.sq ha)) (e2 _ (s.sq hb)) p (s.trans s2)
theorem EY{J:It}{tb:TS}{l:Addr}{H0:Hp}(Q5:H0 l=none)(Pd:aj H0 H)(n:Nat)(ys:Nat->List V)(Pv:Nat->St->Prop)(hl:H l=some (.lst (ys 0)))(h0:Pv 0 σ)(yL:∀ i H2,i<n->aj H0 H2->J.go i H2)(iO:∀ H2,aj H0 H2->J.stop n H2)
  (hs:∀ i x σ H2 H3,i<n->Pv i σ->aj H0 H2->H2 l=some (.lst (ys i))->J.Bg i H2 x H3->g x σ H3 fun σ2 H4=>tb { D with nx:=fun σ' H'=>Pv (i+1) σ'/\aj H0 H'/\H' l=some (.lst (ys (i+1))),ct:=fun σ' H'=>Pv (i+1) σ'/\aj H0 H'/\H' l=some (.lst (ys (i+1))),bk:=D.nx } σ2 H4) (hd:∀ σ H2,Pv n σ->aj H0 H2->H2 l=some (.lst (ys n))->D.nx σ H2):dv g tb D J σ H:=by
 refine⟨fun i m σ2 H2=>m=n - i/\i<=n/\Pv i σ2/\aj H0 H2/\H2 l=some (.lst (ys i)),⟨n,by simp,Sm _,h0,Pd,hl⟩,?_⟩
 rintro i m σ2 H2 ⟨rfl,hi,p,s,q⟩
 by_cases eK:i<n
 ·exact .inr ⟨yL i H2 eK s,fun σ' H'=>Pv (i+1) σ'/\aj H0 H'/\H' l=some (.lst (ys (i+1))),fun σ' H' p'=>⟨n - (i+1),by lia,rfl,eK,p'.1,p'.2.1,p'.2.2⟩,fun x H' y=>hs i x σ2 H2 H' eK p s q y⟩
 ·have e:i=n:=by lia
  subst e
  exact .inl ⟨iO H2 s,hd σ2 H2 p s q⟩
end
theorem fU{c:Bool}{A B:Prop}(e:c=true)(h:A):if c=true then A else B:=by rw [if_pos e];exact h
theorem dE{c:Bool}{A B:Prop}(e:c=false)(h:B):if c=true then A else B:=by rw [e];exact uu h
theorem aO{c:Bool}{A B:Prop}(h1:c=true->A)(h2:c=false->B):if c=true then A else B:=by
 cases c with
 | true=>exact oD (h1 rfl)
 | false=>exact uu (h2 rfl)
section
variable {t u:TS}{D:Ends}{σ:St}{H:Hp}{te ta tb:TE}{g:TG}{tt tu:TT}{Q:VK}{i j:Int}{x y v w:V}{K:Frag}{X:Cx}
theorem B4{sp:Sp}{E:XK}{ts:TA}(h:ts σ H fun vs H1=>sp vs H1 Q E):rf sp [] E ts σ H Q:=by
 unfold rf
 simp only [append_nil]
 exact h
def NP(tb:TS)(D:Ends)(W:Nat->St->Hp->Prop)(m:Nat)(σ:St)(H1:Hp):Prop:=∃ N:St->Hp->Prop,(∀ σ' H',N σ' H'->∃ m',m'<m/\W m' σ' H')/\tb { D with nx:=N,ct:=N,bk:=D.nx } σ H1
theorem cY{c:TT}{tb:TS}(W:Nat->St->Hp->Prop)(m:Nat)(h0:W m σ H)(hs:∀ m σ H,W m σ H->c σ H fun b H1=>if b=true then NP tb D W m σ H1 else D.nx σ H1):yU c tb D σ H:=⟨W,⟨m,h0⟩,hs⟩
theorem kU{tb:TS}{W:Nat->St->Hp->Prop}{m:Nat}(h:tb { D with nx:=fun σ' H'=>∃ m',m'<m/\W m' σ' H',ct:=fun σ' H'=>∃ m',m'<m/\W m' σ' H',bk:=D.nx } σ H):NP tb D W m σ H:=⟨_,fun _ _ z=>z,h⟩
theorem EZ{lo:Int}{n:Nat}{tb:TS}(Pv:Nat->St->Prop)(h0:Pv 0 σ)(hs:∀ i σ,i<n->Pv i σ->g (.int (lo+i)) σ H fun σ2 H4=>tb { D with nx:=fun σ' H'=>Pv (i+1) σ'/\H'=H,ct:=fun σ' H'=>Pv (i+1) σ'/\H'=H,bk:=D.nx } σ2 H4)
  (hd:∀ σ,Pv n σ->D.nx σ H):dv g tb D (vP lo n) σ H:=by
 refine xb (fun i σ2 H2=>Pv i σ2/\H2=H) ⟨h0,rfl⟩ (fun i σ2 H2 hi p=>?_) (fun σ2 H2 p=>?_)
 ·obtain ⟨p,rfl⟩:=p
  exact hs i σ2 hi p
 ·obtain ⟨p,rfl⟩:=p
  exact hd σ2 p
end
section
variable {X:Cx}(K:Frag)(hK:X.K=K)
include hK
theorem cM:bQ X (.builtin "len") (B0 K):=hK ▸ xy
theorem iR:bQ X (.type "tuple") (kT K):=hK ▸ rO
theorem cH:bQ X (.builtin "isinstance") (dX K):=hK ▸ oW
theorem aG:Bi X (J6 K):=hK ▸ Ed
theorem B5:J5 X (BF K):=hK ▸ Ea
theorem kW{tg l:Expr}{tl:TE}(hl:PE X l tl):PI X tg l (yW K tl):=hK ▸ Bz hl
theorem kh{tg l:Expr}{tl:TE}(hl:PE X l tl):PI X tg l (DW K tl):=hK ▸ DX hl
theorem kX (k1 k2:Bool) {es:List Expr} {kk:Nat} {ux:Pos} {a b:Expr} {ta:TA} {p pos:Pos} (hg:Gl X "zip") (hm:X.mg "zip"=none) (ha:PA X [a,b] ta) (hs:starEach [a,b] X.env=[(false,eval a X.env),(false,eval b X.env)]:=by rfl) (gC:starEach [b] X.env=[(false,eval b X.env)]:=by rfl) :
  PI X (.Tuple es kk ux) (.Call (.Name "zip" p) [a,b] [] pos) (zv K k1 k2 ta):=hK ▸ BR k1 k2 hg hm ha hs gC
theorem oY{es:List Expr}{k:Nat}{t:CY}{n:Nat}{pos:Pos}(hc:X.calm=true)(h:Hi X es t)
  (hn:(assignEach es X.env).length=n:=by rfl) (fJ:(assignEach es X.env).findIdx? (·.1)=none:=by rfl):PG X (.Tuple es k pos) (yS K n t):=hK ▸ DT hc h hn fJ
end
section
variable {σ:St}{H:Hp}{te:TE}{Q:VK}{K:Frag}{ix:List (Option Nat)}
theorem B6{a:Addr}{x0 x1 x2 x3 x4:Int}(F:Int->V)(fr:St)(oF:pick ix σ=none::fr)(ha:aT K H a [.int x0,.int x1,.int x2,.int x3,.int x4])
  (step:∀ x H' (Qc:VK),aj H H'->(∀ H5,aj H' H5->Qc (F x) H5)->te (some (.int x)::fr) H' Qc)
  (hQ:∀ l H',H l=none->aj H H'->H' l=some (.lst [F x0,F x1,F x2,F x3,F x4])->Q (.ref l) H'):bS ix (c7 0) (fun _ H Q=>Q true H) te σ Q (DV K a) H :=
 nL (r:=[x0,x1,x2,x3,x4]) F fr oF ha (by show 5<=1000;decide) (fun x H' Qc _ s k=>step x H' Qc s k) hQ
end
section
variable {H:Hp}{Q:VK}{K:Frag}
theorem zL(x:V)(xs:List V):um (x::xs) (some 1) none=xs:=by
 have e:HT.dP (x::xs).length 0 (some 1)=1:=by
  have h:=HT.vU (x::xs).length 0 1
  simp only [length_cons] at h ⊢
  have h2:min 1 (xs.length+1)=1:=by lia
  rw [h2] at h
  exact h
 unfold um
 rw [e,HT.zc]
 simp
theorem E1{a:Addr}{x:V}{xs:List V}(e:aT K H a (x::xs))(h:∀ p H2,aj H H2->H2 p=some (.tup xs)->Q (.ref p) H2):BF K (.ref a) (some 1) none H Q :=
 IT e (fun z=>by
  have h2:=HT.vU (x::xs).length 0 1
  have h3:HT.dP (x::xs).length 0 (some 1)=min 1 (x::xs).length:=h2
  rw [h3] at z
  have:=z.1
  simp only [length_cons] at this
  lia) fun p H2 s m=>h p H2 s (by rw [zL] at m;exact m)
end
end L2
namespace L2
open PySem
section
variable {prog:Program}{w:World}{A:Around}{E:Value->Shared->Prop}{s:Shared}
structure Pe(k1 k2 k3:Bool)(n a b c:Nat)(i:Nat)(f0:Value)(h:Heap):Prop where
 z:IsZip h (n+5) (n+3) (n+4) f0
 ti:IsT h (n+3) #[.ref n,.ref (n+1),.ref (n+2)]
 to:∃ u v x,IsT h (n+4) #[u,v,x]
 i1:iL k1 h n a i
 i2:iL k2 h (n+1) b i
 i3:iL k3 h (n+2) c i
end
open PySem PySem.Spec PyProof.Rows
def rm(H:Hp)(l:Addr):Hp:=fun b=>if b=l then none else H b
theorem zM{H:Hp}{l:Addr}:rm H l l=none:=by unfold rm;rw [if_pos rfl]
theorem zN{H:Hp}{l b:Addr}(h:b≠l):rm H l b=H b:=by unfold rm;rw [if_neg h]
theorem wt{H:Hp}{l:Addr}:aj (rm H l) H:=fun b o e=>by
 by_cases h:b=l
 ·subst h;rw [zM] at e;cases e
 ·rw [zN h] at e;exact e
theorem E2{K:Frag}{H:Hp}{l a:Addr}{xs ys:List V}(h:aT K H a xs)(hl:H l=some (.lst ys)):aT K (rm H l) a xs:=by
 have ne:∀ {o},H a=some o->(∀ zs,o≠.lst zs)->a≠l:=fun {o} e n z=>by subst z;rw [hl] at e;exact n _ (RS e).symm
 rcases h with (h|⟨o,h⟩)|h
 ·exact .inl (.inl (by rw [zN (ne h fun _ z=>nomatch z)];exact h))
 ·exact .inl (.inr ⟨o,by rw [zN (ne h fun _ z=>nomatch z)];exact h⟩)
 ·exact .inr h
end L2
namespace L2
open PySem PySem.Spec PyProof.Rows PySem.W
structure jl(K:Frag)(C:Addr):Prop where
 ga:findIn K (.ref C) "__getattribute__"=some (some (.builtin "BaseException.__getattribute__"))
 gt:findIn K (.ref C) "__getattr__"=some none
 fc:findObj K C none "__class__"=some (.bind (.builtin "getset_descriptor.__get__") (.builtin "object.__class__"))
 ob:mroIn K C (.type "object")=some true
 be:subIn K (.ref C) (.type "BaseException")=some true
 cl:(clsIn K C).isSome=true
section
variable {prog:Program}{w:World}{A:Around}{E:Value->Shared->Prop}{s:Shared}{K:Frag}{x C:Addr}{ox:Obj}
theorem xA{Q:Option Value->Shared->Prop}(V:jl K C)(X:K.In s.heap)(I:InstAt s.heap x ox C none)(h:Q (some (.ref C)) { s with toks:=s.toks+1 }) :
  wpAny (model prog w) A (getAttr? (.ref x) "__class__") Q E s:=by
 obtain ⟨hh,g,d,t,os⟩:=s
 have L0:=I.type (M:=model prog w)
 have L1:=looks_findIn (M:=model prog w) X V.ga
 have L2:=looks_findIn (M:=model prog w) X V.gt
 have L3:=looks_find (M:=model prog w) X I V.fc
 have L4:=looks_subIn (M:=model prog w) X V.be
 have f3:=F.attr_ValueError.ga.bind (.ref x)
 unfold getAttr? getAttrBy? getAttrBy
 refine RF (wpAny_mkText (RF (wpAny_attempt (wpAny_holding (RF (L0.at (RF (L1.at ?_))))))))
 have Pf:(Value.builtin "BaseException.__getattribute__" == Value.builtin "object.__getattribute__")=false:=by decide +kernel
 have LA:(onTheHeap (Value.ref C) && Value.builtin "BaseException.__getattribute__" == Value.builtin "object.__getattribute__")=false:=by rw [Pf];rfl
 dsimp only
 rw [LA]
 simp only [Bool.false_eq_true,if_false]
 unfold getAttrByItsOwn hookBefore
 rw [if_pos (show onTheHeap (Value.ref C)=true from rfl)]
 refine RF (L2.at (RF (wpAny_attempt (wpAny_holding ?_))))
 unfold callGetattribute boundAndCalled
 rw [if_neg (by decide)]
 rw [f3]
 refine RF (RY (wpAny_call ?_))
 refine codeAny_call_builtin F.attr_ValueError.ga.plain F.entry_bexc_ga ?_
 have hk:builtinKind "BaseException.__getattribute__"=some .slot:=by decide +kernel
 have E3:splitId "BaseException.__getattribute__"=some ("BaseException","__getattribute__"):=by decide +kernel
 have ha:=F.args_bexc_ga (.ref x) (.str "__class__" t)
 simp only [checkBuiltinCall,hk,E3]
 refine RF ?_
 unfold isInstance
 refine RF (L0.at (L4.at ?_))
 rw [if_neg (by decide)]
 refine wpAny_of_eq (a:=()) ha ?_
 show wpAny _ _ (Builtin.«object.__getattribute__» ⟨[.ref x,.str "__class__" t],[]⟩) _ _ _
 unfold Builtin.«object.__getattribute__»
 refine RF (RY ?_)
 refine RF (RY (RF (L0.at (RF (L3.at ?_)))))
 show wpAny _ _ (holding [.builtin "object.__class__"] (call (.builtin "getset_descriptor.__get__") [.builtin "object.__class__",.ref x,.ref C]) >>= ret) _ _ _
 refine RF (wpAny_holding (wpAny_call (class_get (s:=⟨hh,g,d,t+1,os⟩) X I V.ob ?_)))
 refine RY ?_
 show wpAny _ _ (handedOut (.ref C)) _ _ _
 rw [handedOut_of rfl]
 exact RY (RY h)
end
end L2
namespace L2
open PySem PySem.Spec PyProof.Rows PySem.W
theorem kY{K:Frag}{a C:Addr}(V:jl K C):KitX K (.ref a) (.ref C) (fun h=>∃ ox,PySem.W.InstAt h a ox C none) where
 ty:=fun _ _ _ ⟨_,I⟩=>I.type
 it:=fun _ _ X _=>by
  obtain ⟨cd,hc⟩:=RX.mp V.cl
  unfold clsIn at hc
  split at hc
  ·rename_i c' d' LB Bf ho
   intro A' Q' E' s' k q
   unfold isType loadHead
   exact RF (wpAny_loadPart (k _ _ (X _ _ ho)) (RY q))
  ·cases hc
 ne:=fun h tp dd its n sl X Pg=>by
  obtain ⟨cd,hc⟩:=RX.mp V.cl
  refine Bool.eq_false_iff.mpr fun q=>?_
  have e:C=tp:=Value.ref.inj (beq_iff_eq.mp q)
  subst e
  unfold clsIn at hc
  split at hc
  ·rename_i c' d' LB Bf ho
   have z:=(X _ _ ho).symm.trans Pg
   cases z
  ·cases hc
 ca:=fun X ⟨_,I⟩ k=>xA V X I k
def mj(a C:Addr):HO:=.ext fun h=>∃ ox,PySem.W.InstAt h a ox C none
section
variable {M:Model}{A:Around}{E:Value->Shared->Prop}{s:Shared}
theorem kZ{base:Heap}{env:Env}{outer:List Env}{L e:Addr}{oe:Obj}{vs:Array Value}{head:Value}{oZ:Bool}{Q:Unit->Shared->Prop}
  (ja:A.frames=some (env::outer)) (hl:s.heap.FunFrames base (env::outer)) (hf:env.frame=some L)
  (he:s.heap.get? e=some oe) (hd:oe.data=.fields vs) (fN:1<vs.size)
  (h:∀ h' T,(∀ b o,b≠e->b∉i8 (env::outer)->s.heap.get? b=some o->h'.get? b=some o)->(∀ b o,b≠e->s.heap.get? b=some o->∃ sl,h'.get? b=some { o with slots:=sl }) ->
   s.heap.get? T=none->T≠e->h'.get? e=some (oe.mapFields (·.setIfInBounds 1 (.ref T)))->(∃ oT ts,h'.get? T=some oT/\oT.data=.fields ts/\ts[3]?=some .none)->Q () { s with heap:=h' }) :
  wpAny M A (do let a <- frameOf env;let pl <- entryPlaceOf L oZ;let b <- EntryCells.newEntry head a .none (rawInt L) .none pl;setField (.ref e) 1 b) (fun _ s'=>wpAny M A (setFlight (.ref e) none) Q E s') E s:=by
 have E4:e∉(env::outer).filterMap (·.frame):=fun hm=>by
  obtain ⟨_,o,ho,uz⟩:=hl.mem hm
  rw [he] at ho;injection ho with ho;subst ho;exact uz vs hd
 refine RF (wpAny_frameOf_fun ja hl hf fun h₁ B7=>?_)
 refine RF (wpAny_entryPlaceOf fun pl kd=>?_)
 unfold EntryCells.newEntry newFields
 refine RF (wpAny_newObj_type ?_ (kd.sizeOk5 _ _ _ _ _))
 have IW:h₁.get? e=some oe:=(B7.2.1 e E4).trans he
 have IX:=RE (h:=h₁) { cls:=.type "traceback",dict:=none,data:=.fields ([head,.ref L,.none,rawInt L,.none]++(if pl.isEmpty then List.replicate 6 Value.none else pl)).toArray } IW
 refine wpAny_setField IX hd fN ?_
 have zO:h₁.objs.size≠e:=Nat.ne_of_gt (RI IW)
 have NQ:=Obj.data_mapFields hd (·.setIfInBounds 1 (Value.ref h₁.objs.size))
 have NR:=Heap.get?_update_self (Obj.mapFields (·.setIfInBounds 1 (Value.ref h₁.objs.size))) IX (Obj.isFreed_of_fields NQ)
 have NS:=(Heap.get?_update_other (h₁.push { cls:=.type "traceback",dict:=none,data:=.fields ([head,.ref L,.none,rawInt L,.none]++(if pl.isEmpty then List.replicate 6 Value.none else pl)).toArray })
  (Obj.mapFields (·.setIfInBounds 1 (Value.ref h₁.objs.size))) (Ne.symm zO)).trans (RJ h₁ rfl)
 unfold setFlight
 refine RF (wpAny_field NR NQ (x:=.ref h₁.objs.size) (by simp [fN]) ?_)
 rw [if_pos (show (Value.ref h₁.objs.size != Value.none)=true from by simp)]
 have keep:∀ b o,b≠e->h₁.get? b=some o ->
   (((h₁.push { cls:=.type "traceback",dict:=none,data:=.fields ([head,.ref L,.none,rawInt L,.none]++(if pl.isEmpty then List.replicate 6 Value.none else pl)).toArray }).update e (Obj.mapFields (·.setIfInBounds 1 (Value.ref h₁.objs.size)))).update h₁.objs.size
    (Obj.mapFields (·.setIfInBounds 3 ((none:Option Addr).elim Value.none fun f=>rawInt f)))).get? b=some o:=fun b o qW hb=>by
  have Ph:h₁.objs.size≠b:=Nat.ne_of_gt (RI hb)
  rw [Heap.get?_update_other _ _ Ph,Heap.get?_update_other _ _ (Ne.symm qW)]
  exact RE _ hb
 refine wpAny_setField NS rfl (by simp only [Si,Sa,length_cons,List.length_nil] <;> lia) (h _ h₁.objs.size (fun b o qW LC hb=>keep b o qW ((B7.2.1 b LC).trans hb)) (fun b o qW hb=>?_) (Heap.get?_none_of_le (by rw [B7.1];exact RM _)) zO ?_ ?_)
 ·obtain ⟨sl,hs⟩:=B7.2.2 b o hb
  exact⟨sl,keep b _ qW hs⟩
 ·rw [Heap.get?_update_other _ _ zO];exact NR
 ·exact⟨_,_,Heap.get?_update_self _ NS (Obj.isFreed_of_fields (Obj.data_mapFields rfl _)),Obj.data_mapFields rfl _,by first|(simp;done)|(rcases kd with rfl|⟨_,_,_,_,_,_,_,rfl⟩ <;> simp)⟩
def jm(h:Heap)(e:Addr)(vs:Array Value):Option Addr->Prop
 | none=>vs[1]?=some .none
 | some T=>vs[1]?=some (.ref T)/\T≠e/\∃ oT ts,h.get? T=some oT/\oT.data=.fields ts/\ts[3]?=some .none
theorem jn{base:Heap}{env:Env}{outer:List Env}{L e:Addr}{oe:Obj}{vs:Array Value}{T0:Option Addr}{Q:Unit->Shared->Prop}
  (ja:A.frames=some (env::outer)) (hl:s.heap.FunFrames base (env::outer)) (hf:env.frame=some L)
  (he:s.heap.get? e=some oe) (hd:oe.data=.fields vs) (hh:jm s.heap e vs T0)
  (h:∀ h' T,(∀ b o,b≠e->some b≠T0->b∉i8 (env::outer)->s.heap.get? b=some o->h'.get? b=some o)->(∀ b o,b≠e->some b≠T0->s.heap.get? b=some o->∃ sl,h'.get? b=some { o with slots:=sl }) ->
   s.heap.get? T=none->T≠e->h'.get? e=some (oe.mapFields (·.setIfInBounds 1 (.ref T)))->(∃ oT ts,h'.get? T=some oT/\oT.data=.fields ts/\ts[3]?=some .none)->Q () { s with heap:=h' }) :
  wpAny M A (noteFrame (.ref e) env) (fun _ s'=>wpAny M A (setFlight (.ref e) none) Q E s') E s:=by
 unfold noteFrame
 simp only [hf]
 cases T0 with
 | none =>
  have h1:vs[1]?=some .none:=hh
  refine RF (wpAny_field he hd h1 ?_)
  rw [if_neg (by decide)]
  exact kZ ja hl hf he hd (Array.getElem?_eq_some_iff.mp h1).1 fun h' T k1 k2 k3 k4 k5 k6=>h h' T (fun b o b1 _ b3 b4=>k1 b o b1 b3 b4) (fun b o b1 _ b3=>k2 b o b1 b3) k3 k4 k5 k6
 | some T =>
  obtain ⟨h1,zO,oT,ts,hT,gS,h3⟩:=hh
  refine RF (wpAny_field he hd h1 ?_)
  rw [if_pos (show (Value.ref T != Value.none)=true from by simp)]
  refine RF (wpAny_field hT gS h3 ?_)
  rw [if_neg (show ¬ ((Value.none == rawInt L)=true) from by simp [rawInt])]
  refine RF (wpAny_setField hT gS (Array.getElem?_eq_some_iff.mp h3).1 ?_)
  have other:∀ b,b≠T->(s.heap.update T (Obj.mapFields (·.setIfInBounds 3 Value.none))).get? b=s.heap.get? b:=fun b hb=>Heap.get?_update_other _ _ (Ne.symm hb)
  have k7:∀ b o,s.heap.get? b=some o->(∀ vs,o.data≠.fields vs)->b≠T:=fun b o hb uz q=>by
   rw [q,hT] at hb;injection hb with hb;subst hb;exact uz ts gS
  have zu:=Heap.get?_update_self (Obj.mapFields (·.setIfInBounds 3 Value.none)) hT (Obj.isFreed_of_fields (Obj.data_mapFields gS _))
  refine kZ ja (hl.of_keeps fun b o hb uz=>⟨o,(other b (k7 b o hb uz)).trans hb,rfl⟩) hf ((other e (Ne.symm zO)).trans he) hd (Array.getElem?_eq_some_iff.mp h1).1 fun h' T' k1 k2 k3 k4 k5 k6=>?_
  refine h h' T' (fun b o b1 b2 b3 b4=>k1 b o b1 b3 ((other b fun z=>b2 (by rw [z])).trans b4)) (fun b o b1 b2 b4=>k2 b o b1 ((other b fun z=>b2 (by rw [z])).trans b4)) ?_ k4 k5 k6
  by_cases hq:T'=T
  ·rw [hq,zu] at k3;cases k3
  ·rw [other T' hq] at k3;exact k3
theorem flight_again{e:Addr}{oe:Obj}{vs:Array Value}{T:Addr}{Q:Unit->Shared->Prop}(he:s.heap.get? e=some oe)(hd:oe.data=.fields vs)(hh:jm s.heap e vs (some T))
  (h:∀ h',(∀ b o,b≠T->s.heap.get? b=some o->h'.get? b=some o)->(∃ oT ts,h'.get? T=some oT/\oT.data=.fields ts/\ts[3]?=some .none)->Q () { s with heap:=h' }):wpAny M A (setFlight (.ref e) none) Q E s:=by
 obtain ⟨h1,zO,oT,ts,hT,gS,h3⟩:=hh
 have IY:3<ts.size:=(Array.getElem?_eq_some_iff.mp h3).1
 unfold setFlight
 refine RF (wpAny_field he hd h1 ?_)
 rw [if_pos (show (Value.ref T != Value.none)=true from by simp)]
 refine wpAny_setField hT gS IY (h _ (fun b o hb e=>(Heap.get?_update_other _ _ (Ne.symm hb)).trans e) ⟨_,_,Heap.get?_update_self _ hT (Obj.isFreed_of_fields (Obj.data_mapFields gS _)),Obj.data_mapFields gS _,?_⟩)
 simp [IY]
end
end L2
namespace L2
open PySem PySem.Spec PyProof.Rows PySem.W
theorem b6.there{P:Program}{w:World}{H:Hp}{h:Heap}{a:Addr}{o:HO}(x:b6 P w H h a o):∃ ob,h.get? a=some ob:=by
 cases o with
 | lst xs=>obtain ⟨_,_,_,_,e⟩:=x;exact⟨_,e⟩
 | tup xs=>obtain ⟨_,_,_,ob,e,_⟩:=x;exact⟨_,e⟩
 | dK jb=>obtain ⟨_,_,_,_,o,_,_,e,_⟩:=x;exact⟨_,e⟩
 | dT jb=>obtain ⟨_,_,_,_,o,_,_,e,_⟩:=x;exact⟨_,e⟩
 | set S n=>obtain ⟨o,_,_,_,e,_⟩:=x;exact⟨_,e⟩
 | ins C dx fs=>obtain ⟨_,_,_,e,_⟩:=x;exact⟨_,e⟩
 | own y=>obtain ⟨_,e⟩:=x;exact⟨_,e⟩
 | xd fs=>obtain ⟨_,⟨_,_,_,e,_⟩,_⟩:=x;exact⟨_,e⟩
 | JW lo hi=>obtain ⟨_,_,_,e⟩:=x;exact⟨_,e⟩
 | qV ob u=>obtain ⟨e,_⟩:=x;exact⟨_,e⟩
 | Bc ps=>exact⟨_,(show h.get? a=some _ from x)⟩
 | met f y=>exact⟨_,(show h.get? a=some _ from x)⟩
 | ext φ=>obtain ⟨_,⟨_,e⟩,_⟩:=x;exact⟨_,e⟩
theorem dO.free{P:Program}{w:World}{H:Hp}{h:Heap}{a:Addr}(x:dO P w H h)(e:h.get? a=none):H a=none:=by
 cases q:H a with
 | none=>rfl
 | some o=>obtain ⟨ob,z⟩:=(x a o q).there;rw [e] at z;cases z
def fV (mg:Str->Option Value) (C:Addr):Prop:=mg "NoSpan"=some (.ref C)\/mg "TooFar"=some (.ref C)\/mg "NoName"=some (.ref C)\/mg "NoLength"=some (.ref C)
def nS(p:Prop)(vs:Array Value):Prop:=1<vs.size/\(p->vs[2]?=some .none)
theorem nS.set{p:Prop}{vs:Array Value}{v:Value}(h:nS p vs):nS p (vs.setIfInBounds 1 v):=⟨by simpa using h.1,fun q=>by
 have:=h.2 q
 rw [Array.getElem?_setIfInBounds_ne (by decide)]
 exact this⟩
def Exc(mg:Str->Option Value)(h:Heap)(H:Hp)(h0:Heap)(ps:List (Addr×Obj))(a C:Addr):Prop:=∃ oe vs T0,h.get? a=some oe/\oe.cls=.ref C/\oe.dict=none/\oe.data=.fields vs/\nS (fV mg C) vs/\jm h a vs T0/\H a=none/\(h0.get? a=none/\∀ p∈ps,p.1≠a) /\
 ∀ T,T0=some T->H T=none/\h0.get? T=none/\∀ p∈ps,p.1≠T
def B8(P:Program)(w:World)(mg:Str->Option Value):tX:=fun outer H s E e s'=>∃ a C H',e=.ref a/\s'.os=s.os/\AllBare s'.gens/\Un (i8 outer) [] H H' s.heap s'.heap/\dO P w H' s'.heap/\Exc mg s'.heap H' s.heap [] a C/\E (.ref C) none H'
abbrev l6:=Addr->St->Hp->Prop
def XW(X:Cx)(EX:l6):Value->Shared->Prop:=fun e s'=>∃ a C σ' H',e=.ref a/\Inv X.w6 [] σ' H' s'/\Exc X.mg s'.heap H' X.s₀.heap X.pn a C/\EX C σ' H'
theorem b7(o:Obj)(f:Array Value->Array Value):(o.mapFields f).dict=o.dict:=by
 unfold Obj.mapFields;split <;> rfl
theorem zP{P:Program}{w:World}{K:Frag}{mg:Str->Option Value}{base:Heap}{N:List Str}{qual:Str}{scope:Scope}{f:Addr}{cd:Value}{A:Around}{outer:List Env}{s:Shared}{H:Hp}{E:XK}{e:Value}{s':Shared}
  (h:XW (gQ (B8 P w mg) P w K mg base N qual scope f cd A outer s H E) (fun C _ H'=>E (.ref C) none H') e s'):(gQ (B8 P w mg) P w K mg base N qual scope f cd A outer s H E).xe e s':=by
 obtain ⟨a,C,σ',H',rfl,I,⟨oe,vs,T0,he,hc,qS,hd,fN,hh,k8,⟨qT,_⟩,hT⟩,hE⟩:=h
 have mr:s.heap.get? a=none:=qT
 have qU:∀ T,T0=some T->H' T=none/\s.heap.get? T=none:=fun T z=>⟨(hT T z).1,(hT T z).2.1⟩
 show wpAny (model P w) (A.deeper (envOfC qual scope s.heap.objs.size f cd)) (leaving (envOfC qual scope s.heap.objs.size f cd) (.ref a)) _ _ s'
 unfold leaving
 refine RF (jn (L:=s.heap.objs.size) I.ok.frames I.stack rfl he hd hh fun h' T k1 k2 k3 k4 k5 k6=>?_)
 have ne:∀ b o,s.heap.get? b=some o->b≠a/\some b≠T0/\b≠s.heap.objs.size:=fun b o q=>⟨fun z=>(by rw [z,mr] at q;cases q),fun z=>(by rw [(qU b z.symm).2] at q;cases q),Sn (RI q)⟩
 have Pj:∀ b o,s.heap.get? b=some o->b∉i8 outer->b∉i8 (envOfC qual scope s.heap.objs.size f cd::outer):=fun b o q hb z=>by
  rcases Sd.mp (I.fP b z) with r|r
  ·exact (ne b o q).2.2 r
  ·exact hb r
 have off:Off (a::(T0.toList++i8 (envOfC qual scope s.heap.objs.size f cd::outer))) s'.heap h':=fun b o hb q=>by
  simp only [Sd,R7,not_or] at hb
  exact k1 b o hb.1 (fun z=>hb.2.1 (by rw [<- z];simp)) hb.2.2 q
 refine⟨a,C,H',rfl,I.os,I.bare,⟨fun b o q n hb hx=>?_,fun b o q n hb hx=>?_,fun b o q n hx=>I.base.free b o q n hx,fun b o q hx=>?_,I.base.gV,I.base.gP,I.base.gW⟩,I.bz.off (fun b hb=>?_) off,?_,hE⟩
 ·exact k1 b o (ne b o q).1 (ne b o q).2.1 (Pj b o q hb) (I.base.keep b o q n hb hx)
 ·obtain ⟨sl,q1⟩:=I.base.slot b o q n hb hx
  obtain ⟨Bf,q2⟩:=k2 b _ (ne b o q).1 (ne b o q).2.1 q1
  exact⟨Bf,q2⟩
 ·obtain ⟨o',q1⟩:=I.base.there b o q hx
  obtain ⟨Bf,q2⟩:=k2 b _ (ne b o q).1 (ne b o q).2.1 q1
  exact⟨_,q2⟩
 ·simp only [Sd,R7] at hb
  rcases hb with rfl|hb|hb
  ·exact k8
  ·cases T0 with
   | none=>simp at hb
   | some T1 =>
    simp only [Option.toList_some,R6] at hb
    rw [hb];exact (qU T1 rfl).1
  ·exact I.eS b hb
 ·refine⟨_,_,some T,k5,(Obj.cls_mapFields _ _).trans hc,(b7 _ _).trans qS,Obj.data_mapFields hd _,fN.set,⟨by simp [fN.1],k4,k6⟩,k8,⟨mr,fun _ z=>nomatch z⟩,fun T' e=>?_⟩
  cases e
  refine⟨I.bz.free k3,?_,fun _ z=>nomatch z⟩
  cases q:s.heap.get? T with
  | none=>rfl
  | some o =>
   obtain ⟨o',q1⟩:=I.base.there T o q (by show T∉([]:List Addr);simp)
   rw [k3] at q1;cases q1
def rQ(P:Program)(w:World)(K:Frag)(mg:Str->Option Value)(base:Heap)(k:Nat)(x:Str)(ps:List Str)(sp:Sp):Prop :=
 ∃ f fd,kD P w K mg base (B8 P w mg) k f fd ps sp/\mg x=some (.ref f)/\PySem.W.keepIn K (.ref f)=true/\Binds K fd ps []
theorem jZ.xe{X:Cx}{E:Value->Shared->Prop}{st:List Stmt}{t:TS}(h:jZ (X.dr E) st t)(k:∀ e s,E e s->X.xe e s):jZ X st t:=fun pins s σ H D I hw =>
 RZ (h pins s σ H D (I.dr _) hw) (fun _ _ z=>z.bR) k
section
variable {P:Program}{w:World}{K:Frag}{mg:Str->Option Value}{base:Heap}
theorem Def.LD{x:Str}{st:Stmt}{N ps:List Str}{k:Nat}{sp:Sp}(D:Def K mg x st ps)(S:aB N ps (ar st))(len:∀ vs H Q E,sp vs H Q E->vs.length=ps.length)
  (eM:∀ (f:Addr) (bE:Value) (A:Around) (outer:List Env) (s:Shared) (H:Hp) (vs:List V) (Q:VK) (E:XK),cO k (A.deeper (envOfC x (ar st) s.heap.objs.size f bE))->sp vs H Q E ->
   ∃ t,jZ ((gQ (B8 P w mg) P w K mg base N x (ar st) f bE A outer s H E).dr (XW (gQ (B8 P w mg) P w K mg base N x (ar st) f bE A outer s H E) fun C _ H'=>E (.ref C) none H')) (cc st) t/\t { nx:=fun _ H'=>Q .cF H',rt:=Q } (start N vs) H):rQ P w K mg base (k+1) x ps sp:=by
 obtain ⟨f,fd,F,hm,hb⟩:=D
 obtain ⟨oc,od,kV,doc,pm,an,bE,ct,xi,rfl,lk,jc⟩:=F.ex
 refine⟨f,_,za lk jc S len fun A outer s H vs Q E hr kE=>?_,hm,F.kp,hb⟩
 obtain ⟨t,h,q⟩:=eM f bE A outer s H vs Q E hr kE
 exact⟨t,h.xe fun e s z=>zP z,q⟩
end
def zQ(sp:Sp)(EX:l6)(t:TA):TE:=fun σ H Q=>t σ H fun vs H1=>sp vs H1 Q fun C _ H2=>∃ c,C=.ref c/\EX c σ H2
section
variable {X:Cx}{EX:l6}{k:Nat}{x:Str}{ps:List Str}{sp:Sp}{p pos:Pos}{e:Expr}{es:List Expr}{t:TA}
theorem fW(O:rQ X.prog X.w X.K X.mg X.base k x ps sp)(hr:cO k X.A)(hX:∀ e s',XW X EX e s'->X.xe e s')(hex:X.ex=[])(ha:PA X (e::es) t)(hg:Gl X x:=by rfl)
  (oy:(x == ("__debug__":Str))=false:=by decide) (he:starEach (e::es) X.env=(false,eval e X.env)::starEach es X.env:=by rfl) (kd:(backTo pos (starEach es X.env)).any (·.1)=false:=by rfl) :
  PE X (.Call (.Name x p) (e::es) [] pos) (zQ sp EX t):=by
 obtain ⟨f,fd,F,hm,hk,hb⟩:=O
 intro pins s σ H Q I h
 refine wpAny_Call_Name_kw (dm I hg hm ?_ oy)
 refine PySem.W.callWith_K (h₀:=X.base) I.ok.mod.CN hk (cx (ha pos pins s σ H _ I h) fun us s1 ⟨vs,H1,I1,r,q⟩=>⟨I1.i9,?_⟩) he kd
 have r2:Vals (vs++[]) (us++[]):=r.append .nil
 have hl:(us++[]).length=ps.length:=by rw [<- r2.length,append_nil];exact F.len _ _ _ _ q
 rw [append_nil] at r2
 refine wpAny_call (codeAny_mono (F.run X.A X.stack s1 H1 ⟨us,[]⟩ (us++[]) vs Q _ hr I1.D6 (hb s1 us I1.i9 hl) r2 q) fun r s' hq=>?_)
 cases r with
 | error e =>
  obtain ⟨a,C,H',rfl,ho,Pk,un,bz,⟨oe,Pl,T0,e1,e2,e3,e4,e5,e6,e7,e8,e9⟩,c,ec,hE⟩:=hq
  cases ec
  have I2:Inv X pins σ H' s':=I1.CQ (ch:=[]) ho un bz Pk fun b z=>absurd z (by simp)
  have nw:∀ b,s1.heap.get? b=none->X.s₀.heap.get? b=none:=fun b z=>by
   cases q:X.s₀.heap.get? b with
   | none=>rfl
   | some o =>
    obtain ⟨o',q1⟩:=I1.base.there b o q (by rw [hex];simp)
    rw [z] at q1;cases q1
  have np:∀ b,s1.heap.get? b=none->∀ p∈X.pn,p.1≠b:=fun b z p hp q=>by
   have:=(I1.pin p (R5 _ hp)).1
   rw [q,z] at this;cases this
  exact hX _ _ ⟨a,C,σ,H',rfl,(I2.gA fun p hp=>absurd hp (by simp)).dr _,⟨oe,Pl,T0,e1,e2,e3,e4,e5,e6,e7,⟨nw a e8.1,fun p hp=>np a e8.1 p hp⟩,fun T z=>⟨(e9 T z).1,nw T (e9 T z).2.1,fun p hp=>np T (e9 T z).2.1 p hp⟩⟩,hE⟩
 | ok fl =>
  cases fl with
  | ret u=>exact I1.after hq
  | next=>exact False.elim hq
  | brk=>exact False.elim hq
  | cont=>exact False.elim hq
end
end L2
namespace L2
open PySem PySem.Spec PyProof.Rows PySem.W
section
variable {X:Cx}{pins:List (Addr×Obj)}{σ:List (Option V)}{H H':Hp}{s:Shared}{h':Heap}
theorem Inv.jU{t':Nat}{ch:List Addr}(I:Inv X pins σ H s)
  (tW:∀ b∈ch,X.s₀.heap.get? b=none/\b≠X.env.locals/\(∀ x c,X.env.cells.lookup x=some c->c≠b)/\∀ p∈X.pn++pins,p.1≠b)
  (keep:∀ b o,b≠X.env.locals->b∉X.fs->b∉ch->s.heap.get? b=some o->H b=none->h'.get? b=some o)
  (slot:∀ b o,b≠X.env.locals->b∈X.fs->b∉ch->s.heap.get? b=some o->H b=none->∃ sl,h'.get? b=some { o with slots:=sl }) (free:∀ b o,b∉ch->s.heap.get? b=some o->H b=none->H' b=none)
  (there:∀ b o,b∉ch->s.heap.get? b=some o->∃ o',h'.get? b=some o')
  (gV:∀ b xs,H b=some (.tup xs)->H' b=some (.tup xs)) (gP:∀ b o u,H b=some (.qV o u)->H' b=some (.qV o u)) (gW:∀ b ps,H b=some (.Bc ps)->∃ more,H' b=some (.Bc (ps++more)))
  (ns:∀ m,s.heap.Ns X.env.locals m->h'.Ns X.env.locals m) (bz:dO X.prog X.w H' h') :
  Inv X pins σ H' { s with heap:=h',toks:=t' }:=by
 have Hd:∀ b o,X.s₀.heap.get? b=some o->b≠X.env.locals:=fun b o e=>Sn (Nat.lt_of_lt_of_le (RI e) I.ok.above)
 have Bw:∀ b o,X.s₀.heap.get? b=some o->b∉ch:=fun b o e hb=>by rw [(tW b hb).1] at e;cases e
 have cellK:∀ x c,X.env.cells.lookup x=some c->∀ v,s.heap.IsCell c v->h'.IsCell c v:=fun x c e v ⟨o,ho,hd⟩=>by
  have yP:c∉ch:=fun z=>(tW c z).2.2.1 x c e rfl
  by_cases hc:c∈X.fs
  ·obtain ⟨sl,q⟩:=slot c o (I.wX x c e) hc yP ho (I.cK x c e)
   exact⟨_,q,hd⟩
  ·exact⟨o,keep c o (I.wX x c e) hc yP ho (I.cK x c e),hd⟩
 refine⟨I.ok,I.os,I.bare,⟨fun b o e n hb hx=>?_,fun b o e n hb hx=>?_,fun b o e n hx=>?_,fun b o e hx=>?_,fun b xs e=>gV b xs (I.base.gV b xs e),fun b o xs e=>gP b o xs (I.base.gP b o xs e),fun b ps e=>?_⟩,?_,fun x c e=>?_,?_,fun x c e=>?_,fun p hp=>?_,bz,I.len⟩
 ·exact keep b o (Hd b o e) hb (Bw b o e) (I.base.keep b o e n hb hx) (I.base.free b o e n hx)
 ·obtain ⟨sl,e1⟩:=I.base.slot b o e n hb hx
  obtain ⟨Bf,e2⟩:=slot b _ (Hd b o e) hb (Bw b o e) e1 (I.base.free b o e n hx)
  exact⟨Bf,e2⟩
 ·obtain ⟨o',e1⟩:=I.base.there b o e hx
  exact free b o' (Bw b o e) e1 (I.base.free b o e n hx)
 ·obtain ⟨o',e1⟩:=I.base.there b o e hx
  exact there b o' (Bw b o e) e1
 ·obtain ⟨m1,e1⟩:=I.base.gW b ps e
  obtain ⟨m2,e2⟩:=gW b _ e1
  exact⟨m1++m2,by rw [e2,Array.append_assoc]⟩
 ·obtain ⟨m,hn,hl⟩:=I.loc
  refine⟨m,ns m hn,fun i x v e1 e2 e3=>?_⟩
  obtain ⟨u,r,l⟩:=hl i x v e1 e2 e3
  refine⟨u,r,?_⟩
  rcases l with l|⟨k,c,e,z⟩
  ·exact .inl l
  ·exact .inr ⟨k,c,e,cellK x c e _ z⟩
 ·obtain ⟨v,z⟩:=I.cell x c e
  exact⟨v,cellK x c e v z⟩
 ·obtain ⟨m,⟨o,_,_,ho,_⟩,_⟩:=I.loc
  exact free _ o (fun z=>(tW _ z).2.1 rfl) ho I.free
 ·obtain ⟨v,o,ho,hd⟩:=I.cell x c e
  exact free c o (fun z=>(tW c z).2.2.1 x c e rfl) ho (I.cK x c e)
 ·obtain ⟨e,n,ne,nf,d⟩:=I.pin p hp
  have yP:p.1∉ch:=fun z=>(tW p.1 z).2.2.2 p hp rfl
  exact⟨keep p.1 p.2 ne nf yP e n,free p.1 p.2 yP e n,ne,nf,d⟩
theorem Inv.fX{a:Addr}{oe:Obj}{vs:Array Value}(I:Inv X pins σ H s)(he:s.heap.get? a=some oe)(hd:oe.data=.fields vs):a≠X.env.locals/\(∀ x c,X.env.cells.lookup x=some c->c≠a)/\a∉X.fs:=by
 refine⟨fun z=>?_,fun x c e z=>?_,fun z=>?_⟩
 ·obtain ⟨m,⟨o,_,_,ho,LF,_⟩,_⟩:=I.loc
  rw [z,ho] at he;cases he;rw [LF] at hd;cases hd
 ·obtain ⟨v,o,ho,LF⟩:=I.cell x c e
  rw [z,he] at ho;cases ho;rw [LF] at hd;cases hd
 ·obtain ⟨_,o,ho,uz⟩:=I.fM.mem z
  rw [he] at ho;cases ho;exact uz vs hd
end
theorem wu{K:Frag}{h:Heap}{C:Addr}{GO:List Value}{newId:String}(X:K.In h)(q:excIn K C GO newId=true) :
  ∃ bm N nm q bs hdct sn sub ab col dd k0 k1 k2 k3 k5 mN,h.get? C=some (excClassObj nm q C N bs bm hdct sn sub ab col dd k0 k1 k2 k3 k5 newId)/\h.Ns N mN/\mN "__init__"=none/\OwnTail h GO bm:=by
 unfold excIn at q
 split at q
 ·rename_i dd cd sl ho
  split at q
  ·rename_i C' bm k0 k1 k2 k3 n k5 hm hs
   simp only [Bool.and_eq_true,beq_iff_eq,Bool.not_eq_true'] at q
   obtain ⟨⟨⟨⟨⟨rfl,rfl⟩,IZ⟩,ht⟩,bz⟩,Dm⟩:=q
   obtain ⟨nm,bs,mro,ns,qn,hd,sn,sub,ab,col,del⟩:=cd
   dsimp only at hm IZ bz Dm
   subst hm IZ
   have t4:sl=#[k0,k1,k2,k3,some (.builtin n),k5]:=by
    obtain ⟨l⟩:=sl
    simp only at hs
    rw [hs]
   subst t4
   exact⟨bm,ns,nm,qn,bs,hd,sn,sub,ab,col,dd,k0,k1,k2,k3,k5,_,X _ _ ho,.of_isNs (isNs_of_in X bz),nsMap_none_of_in X bz Dm,tail_of_in X ht⟩
  ·cases q
 ·cases q
section
variable {X:Cx}{EX:l6}
def zR(EX:l6)(C:Addr)(ta:TA):TS:=fun _ σ H=>ta σ H fun vs H1=>vs.length<=1000/\EX C σ H1
theorem c9{x:Str}{np c8 pos:Pos}{e0:Expr}{rest:List Expr}{C:Addr}{B Bn newId E5 g6 E6:String}{bm E7:List Value}{ta:TA}(q:excIn X.K C bm newId=true)(Fn:ExcBaseFacts Bn newId E6 E7)(E8:bm.contains (.type Bn)=true)
  (FB:ExcBaseFacts B E5 g6 bm) (hc:X.calm=true) (hX:∀ e s',XW X EX e s'->X.xe e s') (hex:X.ex=[]) (hg:Gl X x) (hm:X.mg x=some (.ref C)) (ha:PA X (e0::rest) ta)
  (he:starEach (e0::rest) X.env=(false,eval e0 X.env)::starEach rest X.env:=by rfl) (kd:(backTo c8 (starEach rest X.env)).any (·.1)=false:=by rfl) (oy:(x == ("__debug__":Str))=false:=by decide) :
  PS X (.Raise (some (.Call (.Name x np) (e0::rest) [] c8)) none pos) (zR EX C ta):=by
 intro pins s σ H D I h
 obtain ⟨LG,N,nm,qn,bs,hdct,sn,sub,ab,col,dd,k0,k1,k2,k3,k5,mN,hC,hN,Dm,T⟩:=wu I.ok.mod.CN q
 refine wpAny_Raise_call_subU (C:=C) (nm:=nm) (q:=qn) (N:=N) (bs:=bs) (bm:=LG) (hdct:=hdct) (sn:=sn) (sub:=sub) (ab:=ab) (col:=col) (dd:=dd) (k0:=k0) (k1:=k1) (k2:=k2) (k3:=k3) (k5:=k5)
  Fn E8 FB (mN:=mN) (T.hasType FB.hasBase) (I.ok.hd hc) (by rw [he];show (false || (backTo c8 (starEach rest X.env)).any (·.1))=false;rw [kd];rfl) Dm (dm I hg hm ⟨rfl,?_⟩ oy)
 have hh:=ha c8 pins s σ H _ I h
 rw [he] at hh ⊢
 refine Calls.evalArgs_plain (RZ hh (fun us s2 z=>?_) fun _ _ y=>y)
 obtain ⟨vs,H1,I1,r,hl,hE⟩:=z
 refine⟨rfl,by rw [<- r.length];exact RN (dA hl),I1.bk _ _ hC,hN.keeps I1.bk,T.keeps I1.bk,fun h' e dB=>hX _ _ ?_⟩
 obtain ⟨t,het,Q6,Q7⟩:=dB.there
 have nw:X.s₀.heap.get? e=none:=by
  cases q:X.s₀.heap.get? e with
  | none=>rfl
  | some o =>
   obtain ⟨o',q1⟩:=I1.base.there e o q (by rw [hex];simp)
   rw [dB.new] at q1;cases q1
 have np:∀ p∈X.pn,p.1≠e:=fun p hp z=>by
  have:=(I1.pin p (R5 _ hp)).1
  rw [z,dB.new] at this;cases this
 exact⟨e,C,σ,H1,rfl,((I1.kept (t':=s2.toks) dB.keeps).gA fun p hp=>absurd hp (by simp)).dr _,⟨_,_,none,het,rfl,rfl,rfl,⟨by simp,fun _=>rfl⟩,rfl,I1.bz.free dB.new,⟨nw,np⟩,fun T z=>nomatch z⟩,hE⟩
end
end L2
namespace L2
open PySem PySem.Spec PyProof.Rows PySem.W
structure eh(K:Frag)(D:Addr):Prop where
 ty:typeIn K (.ref D)=some (.type "type")
 cl:(clsIn K D).isSome=true
 be:subIn K (.ref D) (.type "BaseException")=some true
theorem rR{K:Frag}{M:Model}{A:Around}{E:Value->Shared->Prop}{s:Shared}{a C D:Addr}{oe:Obj}{b:Bool}{Q:Bool->Shared->Prop}(V:eh K D)(X:K.In s.heap)(he:s.heap.get? a=some oe)(hc:oe.cls=.ref C)
  (BQ:subIn K (.ref C) (.ref D)=some b) (h:Q b s):wpAny M A (excMatches (.ref a) (.ref D)) Q E s:=by
 obtain ⟨hh,g,d,t,os⟩:=s
 have L1:=looks_typeIn (M:=M) X V.ty
 have L2:Looks M hh (typeOf (.ref a)) (.ref C):=hc ▸ (Looks.ld he).andThen .now
 have L3:=looks_subIn (M:=M) X V.be
 have L4:=looks_subIn (M:=M) X BQ
 have L5:Looks M hh (isType (.ref D)) true:=by
  obtain ⟨cd,jc⟩:=RX.mp V.cl
  unfold clsIn at jc
  split at jc
  ·rename_i c' d' LB Bf ho
   intro A' Q' E' s' k q
   unfold isType loadHead
   exact RF (wpAny_loadPart (k _ _ (X _ _ ho)) (RY q))
  ·cases jc
 have f:=tc_notTuple
 unfold excMatches isInstance isExcClass
 refine RF ?_
 refine RF (L1.at (wpAny_of_eq f ?_))
 simp only [Bool.false_eq_true,if_false]
 refine RF (RY ?_)
 simp only [forIn_cons,forIn_nil]
 refine RF (RF (RF (RF (L5.at ?_))))
 simp only [if_true]
 refine L3.at ?_
 simp only [Bool.not_true,Bool.false_eq_true,if_false]
 refine RY (RY ?_)
 refine RF (L2.at ?_)
 refine RF (RF (RF (L4.at ?_)))
 cases b with
 | true =>
  simp only [if_true]
  exact RY (RY (RY h))
 | false =>
  simp only [Bool.false_eq_true,if_false]
  exact RY (RY (RY h))
end L2
namespace L2
open PySem PySem.Spec PyProof.Rows PySem.W
abbrev mv(X:Cx)(pins:List (Addr×Obj)):Cx:={ X with pn:=X.pn++pins }
abbrev mw(X:Cx)(a:Addr):Cx:={ X with A:=X.A.mark (some (.ref a)),calm:=false,xe:=fun _ _=>False }
section
variable {X:Cx}{pins:List (Addr×Obj)}{σ:St}{H:Hp}{s:Shared}
theorem Inv.Ja(I:Inv X pins σ H s):Inv (mv X pins) [] σ H s :=
 ⟨⟨I.ok.mod,I.ok.kind,I.ok.glob,I.ok.blt,I.ok.above,I.ok.inj,I.ok.has,I.ok.Be,I.ok.hd,I.ok.frames,I.ok.Bu,I.ok.DQ,I.ok.bs,I.ok.vO,I.ok.l9,I.ok.om,I.ok.fM,I.ok.yJ⟩,I.os,I.bare,I.base,I.loc,I.cell,I.free,I.cK,fun p hp=>I.pin p (by simpa using hp),I.bz,I.len⟩
theorem Inv.my(I:Inv (mv X pins) [] σ H s):Inv X pins σ H s :=
 ⟨⟨I.ok.mod,I.ok.kind,I.ok.glob,I.ok.blt,I.ok.above,I.ok.inj,I.ok.has,I.ok.Be,I.ok.hd,I.ok.frames,I.ok.Bu,I.ok.DQ,I.ok.bs,I.ok.vO,I.ok.l9,I.ok.om,I.ok.fM,I.ok.yJ⟩,I.os,I.bare,I.base,I.loc,I.cell,I.free,I.cK,fun p hp=>I.pin p (by simpa using hp),I.bz,I.len⟩
theorem Inv.xB(I:Inv X pins σ H s)(a:Addr):Inv (mw X a) pins σ H s :=
 ⟨⟨I.ok.mod,I.ok.kind,I.ok.glob,I.ok.blt,I.ok.above,I.ok.inj,I.ok.has,I.ok.Be,(fun z=>nomatch z),I.ok.frames,I.ok.Bu,I.ok.DQ,I.ok.bs,I.ok.vO,I.ok.l9,I.ok.om,I.ok.fM,I.ok.yJ⟩,I.os,I.bare,I.base,I.loc,I.cell,I.free,I.cK,I.pin,I.bz,I.len⟩
theorem Inv.zS{a:Addr}(Pm:X.calm=true->X.A.handled=none)(I:Inv (mw X a) pins σ H s):Inv X pins σ H s :=
 ⟨⟨I.ok.mod,I.ok.kind,I.ok.glob,I.ok.blt,I.ok.above,I.ok.inj,I.ok.has,I.ok.Be,Pm,I.ok.frames,I.ok.Bu,I.ok.DQ,I.ok.bs,I.ok.vO,I.ok.l9,I.ok.om,I.ok.fM,I.ok.yJ⟩,I.os,I.bare,I.base,I.loc,I.cell,I.free,I.cK,I.pin,I.bz,I.len⟩
theorem Inv.Jb{a C:Addr}{oe:Obj}{vs:Array Value}{t':Nat}(I:Inv X pins σ H s)(he:s.heap.get? a=some oe)(hc:oe.cls=.ref C)(qS:oe.dict=none)(hd:oe.data=.fields vs)(hH:H a=none)(h0:X.s₀.heap.get? a=none)(hp:∀ p∈X.pn++pins,p.1≠a) :
  Inv X pins σ (upd H a (mj a C)) { s with toks:=t' }:=by
 obtain ⟨n1,n2,n3⟩:=I.fX he hd
 have ins:PySem.W.InstAt s.heap a oe C none:=⟨he,hc,by unfold notCls;rw [hd],by rw [qS];trivial⟩
 refine I.jU (h':=s.heap) (ch:=[a]) (fun b hb=>?_) (fun b o _ _ _ e _=>e) (fun b o _ _ _ e _=>⟨o.slots,e⟩) (fun b o hb e n=>?_) (fun b o _ e=>⟨o,e⟩) (fun b xs e=>?_) (fun b o u e=>?_) (fun b ps e=>⟨#[],?_⟩) (fun m hm=>hm) ?_
 ·obtain rfl:b=a:=by simpa using hb
  exact⟨h0,n1,n2,hp⟩
 ·rw [aE (by simpa using hb)];exact n
 ·rw [aE (aN e hH)];exact e
 ·rw [aE (aN e hH)];exact e
 ·rw [aE (aN e hH)];simpa using e
 ·intro b o e
  by_cases hb:b=a
  ·subst hb
   rw [aH] at e
   cases e
   refine⟨⟨oe,ins⟩,⟨oe,he⟩,fun h1 h2 z k=>?_⟩
   obtain ⟨ox,z1,z2,z3,z4⟩:=z
   refine⟨ox,k _ z1,z2,z3,?_⟩
   cases q:ox.dict with
   | none=>trivial
   | some dx=>rw [q] at z4;exact z4.elim
  ·rw [aE hb] at e
   exact (I.bz b o e).l8 (fun _ _ _ q=>q) (fun c q=>by rw [aE (aN q hH)];exact q) fun c xs q=>by rw [aE (aN q hH)];exact q
theorem Inv.B9{i:Nat}{x:Str}{h':Heap}{m:Str->Option Value}{v:Option Value}{t':Nat}(I:Inv X pins σ H s)(hN:X.N.Nodup)(hi:X.N[i]?=some x)(hm:s.heap.Ns X.env.locals m)(Bx:h'.Ns X.env.locals (fun y=>if y=x then v else m y))(hs:Heap.SameBut X.env.locals s.heap h') :
  Inv X pins (σ.set i none) H { s with heap:=h',toks:=t' }:=by
 obtain ⟨m2,hn,hl⟩:=id I.loc
 obtain ⟨oL,es,ep,Na,rL⟩:=id hn
 have em:m2=m:=by
  obtain ⟨o1,Q8,Q9,Pn,Jc,_,Po⟩:=hn
  obtain ⟨o2,Ra,Rb,NU,hd2,_,Pp⟩:=hm
  rw [Pn] at NU;cases NU;rw [Jc] at hd2;cases hd2
  funext y
  rw [<- Po,<- Pp]
 subst em
 have JZ:i<σ.length:=by rw [I.len];exact (RH.mp hi).1
 have wX:=I.wX
 refine⟨I.ok,I.os,I.bare,⟨fun b o e n hb hx=>?_,fun b o e n hb hx=>?_,I.base.free,fun b o e hx=>?_,I.base.gV,I.base.gP,I.base.gW⟩,⟨_,Bx,fun j y v' e1 e2 e3=>?_⟩,fun y c e=>?_,I.free,I.cK,fun p hp=>?_,?_,by simpa using I.len⟩
 ·exact (hs.2 b (Sn (Nat.lt_of_lt_of_le (RI e) I.ok.above))).trans (I.base.keep b o e n hb hx)
 ·obtain ⟨sl,e1⟩:=I.base.slot b o e n hb hx
  exact⟨sl,(hs.2 b (Sn (Nat.lt_of_lt_of_le (RI e) I.ok.above))).trans e1⟩
 ·obtain ⟨o',e1⟩:=I.base.there b o e hx
  exact⟨o',(hs.2 b (Sn (Nat.lt_of_lt_of_le (RI e) I.ok.above))).trans e1⟩
 ·by_cases hj:j=i
  ·subst hj
   rw [List.getElem?_set_self JZ] at e2
   cases e2
  ·rw [List.getElem?_set_ne (Ne.symm hj)] at e2
   obtain ⟨u',r',q⟩:=hl j y v' e1 e2 e3
   refine⟨u',r',?_⟩
   rcases q with ⟨k,e⟩|⟨k,c,e,z⟩
   ·refine .inl ⟨k,?_⟩
    have:y≠x:=fun e=>hj (kx hN e1 (e ▸ hi))
    simp [this,e]
   ·exact .inr ⟨k,c,e,z.sameBut hs (wX y c e)⟩
 ·obtain ⟨w',z⟩:=I.cell y c e
  exact⟨w',z.sameBut hs (wX y c e)⟩
 ·obtain ⟨e,n,ne,nf,d⟩:=I.pin p hp
  exact⟨(hs.2 p.1 ne).trans e,n,ne,nf,d⟩
 ·intro b ob e
  refine (I.bz b ob e).l8 (fun c w' hc q=>(hs.2 c ?_).trans q) (fun _ q=>q) fun _ _ q=>q
  rintro rfl
  rcases hc with rfl|hc
  ·rw [I.free] at e;cases e
  ·rw [I.free] at hc;cases hc
end
def Jd(K:Frag)(D0:Addr)(i:Nat)(tb:l6->TS)(th:TS):TS:=fun D σ H =>
 tb (fun C σ' H'=>subIn K (.ref C) (.ref D0)=some true/\∀ a,H' a=none->th { nx:=fun σ2 H2=>D.nx (σ2.set i none) H2,rt:=D.rt,bk:=fun σ2 H2=>D.bk (σ2.set i none) H2,ct:=fun σ2 H2=>D.ct (σ2.set i none) H2 } (σ'.set i (some (.ref a))) (upd H' a (mj a C))) D σ H
theorem E9{X:Cx}{body:List Stmt}{x n:Str}{np xx pos:Pos}{b0:Stmt}{Dn:List Stmt}{i:Nat}{D0:Addr}{tb:l6->TS}{th:TS}(V:eh X.K D0)(hex:X.ex=[])
  (fJ:X.stack=X.env::X.outer) (ja:X.env.frame=some X.env.locals) (hN:X.N.Nodup) (hi:X.N[i]?=some n) (xC:X.env.scope.names.lookup n=some .local) (hg:Gl X x) (hm:X.mg x=some (.ref D0))
  (hb:∀ pins EX,jZ ((mv X pins).dr (XW (mv X pins) EX)) body (tb EX)) (hs:∀ a,jZ (mw X a) (b0::Dn) th) (oy:(x == ("__debug__":Str))=false:=by decide) :
  PS X (.Try body [.ExceptHandler (some (.Name x np)) (some n) (b0::Dn) xx] [] [] pos) (Jd X.K D0 i tb th):=by
 intro pins s σ H D I h
 have back:∀ {f:Flow} {s':Shared} {E:Value->Shared->Prop},SP ((mv X pins).dr E) [] D f s'->SP X pins D f s':=fun {f s' E} q=>by
  cases f with
  | next=>obtain ⟨σ',H',J,z⟩:=q;exact⟨σ',H',(Inv.bR J).my,z⟩
  | brk=>obtain ⟨σ',H',J,z⟩:=q;exact⟨σ',H',(Inv.bR J).my,z⟩
  | cont=>obtain ⟨σ',H',J,z⟩:=q;exact⟨σ',H',(Inv.bR J).my,z⟩
  | ret u=>obtain ⟨v,σ',H',J,r,z⟩:=q;exact⟨v,σ',H',(Inv.bR J).my,r,z⟩
 refine wpAny_Try_except (RZ (hb pins _ [] s σ H D (I.Ja.dr _) h) (fun f s1 q=>?_) (fun e s1 q=>?_))
 ·cases f with
  | next=>exact wpAny_execs_nil (back q)
  | brk=>exact back q
  | cont=>exact back q
  | ret u=>exact back q
 obtain ⟨a,C,σ',H',rfl,I0,⟨oe,vs,T0,he,hc,qS,hd,fN,hh,k8,⟨qT,uA⟩,hT⟩,BQ,LH⟩:=q
 have I1:Inv X pins σ' H' s1:=(Inv.bR I0).my
 have mr:X.s₀.heap.get? a=none:=qT
 have zT:∀ p∈X.pn++pins,p.1≠a:=uA
 have qU:∀ T,T0=some T->H' T=none/\X.s₀.heap.get? T=none/\∀ p∈X.pn++pins,p.1≠T:=hT
 have Fb:X.A.frames=some (X.env::X.outer):=by rw [<- fJ];exact I1.ok.frames
 refine jn (base:=X.base) (L:=X.env.locals) Fb (fJ ▸ I1.stack) ja he hd hh fun h1 T k1 k2 k3 k4 k5 k6=>?_
 obtain ⟨n1,n2,n3⟩:=I1.fX he hd
 have t1:∀ T',T0=some T'->∃ oT ts,s1.heap.get? T'=some oT/\oT.data=.fields ts:=fun T' z=>by
  subst z
  obtain ⟨_,_,oT,ts,q1,q2,_⟩:=hh
  exact⟨oT,ts,q1,q2⟩
 have uB:∀ b,b∈i8 (X.env::X.outer)->b=X.env.locals\/b∈X.fs:=fun b hb=>by
  rcases Sd.mp (I1.fP b (fJ ▸ hb)) with z|z
  ·exact .inl z
  ·exact .inr z
 have off:Off (a::(T0.toList++i8 (X.env::X.outer))) s1.heap h1:=fun b o hb q=>by
  simp only [Sd,R7,not_or] at hb
  exact k1 b o hb.1 (fun z=>hb.2.1 (by rw [<- z];simp)) hb.2.2 q
 have uC:dO X.prog X.w H' h1:=I1.bz.off (fun b hb=>by
  simp only [Sd,R7] at hb
  rcases hb with rfl|hb|hb
  ·exact k8
  ·cases T0 with
   | none=>simp at hb
   | some T1 =>
    simp only [Option.toList_some,R6] at hb
    rw [hb];exact (qU T1 rfl).1
  ·exact I1.eS b (fJ ▸ hb)) off
 have jo:∀ b,b∉(a::T0.toList)->b≠a/\some b≠T0:=fun b hb=>by
  simp only [Sd,not_or] at hb
  exact⟨hb.1,fun z=>hb.2 (by rw [<- z];simp)⟩
 have I2:Inv X pins σ' H' { s1 with heap:=h1 }:=by
  refine I1.jU (h':=h1) (t':=s1.toks) (ch:=a::T0.toList) (fun b hb=>?_) (fun b o b1 b2 b3 e _=>?_) (fun b o b1 b2 b3 e _=>?_) (fun b o _ _ n=>n) (fun b o b3 e=>?_) (fun b xs e=>e) (fun b o u e=>e) (fun b ps e=>⟨#[],by rw [e];simp⟩) (fun m hm=>?_) uC
  ·rcases Sd.mp hb with rfl|hb
   ·exact⟨mr,n1,n2,zT⟩
   ·cases T0 with
    | none=>simp at hb
    | some T1 =>
     simp only [Option.toList_some,R6] at hb
     subst hb
     obtain ⟨oT,ts,q1,q2⟩:=t1 _ rfl
     obtain ⟨m1,m2,m3⟩:=I1.fX q1 q2
     exact⟨(qU _ rfl).2.1,m1,m2,(qU _ rfl).2.2⟩
  ·refine k1 b o (jo b b3).1 (jo b b3).2 (fun z=>?_) e
   rcases uB b z with q|q
   ·exact b1 q
   ·exact b2 q
  ·exact k2 b o (jo b b3).1 (jo b b3).2 e
  ·obtain ⟨sl,q⟩:=k2 b o (jo b b3).1 (jo b b3).2 e
   exact⟨_,q⟩
  ·obtain ⟨o,es,ep,ho,uc,r⟩:=hm
   obtain ⟨sl,q⟩:=k2 _ o (fun z=>n1 z.symm) (fun z=>by
    obtain ⟨oT,ts,q1,q2⟩:=t1 _ z.symm
    exact (I1.fX q1 q2).1 rfl) ho
   exact⟨_,es,ep,q,uc,r⟩
 have T2:H' T=none:=I1.bz.free k3
 have T3:X.s₀.heap.get? T=none:=by
  cases q:X.s₀.heap.get? T with
  | none=>rfl
  | some o =>
   obtain ⟨o',q1⟩:=I1.base.there T o q (by rw [hex];simp)
   rw [k3] at q1;cases q1
 have T4:∀ p∈X.pn++pins,p.1≠T:=fun p hp z=>by
  have:=(I1.pin p hp).1
  rw [z,k3] at this;cases this
 refine wpAny_handleBy_cons (codeAny_handlers_test (dm (X:=mw X a) (I2.xB a) hg hm ?_ oy)) (by intro z;cases z)
 refine rR V I2.i9 k5 ((Obj.cls_mapFields _ _).trans hc) BQ ?_
 refine codeAny_handlers_suite_as (flight_again k5 (Obj.data_mapFields hd _) ⟨by simp [fN.1],k4,k6⟩ fun h2 f1 f2=>?_)
 have I3:Inv X pins σ' H' { s1 with heap:=h2 }:=by
  obtain ⟨oT,ts,q1,q2,q3⟩:=k6
  obtain ⟨m1,m2,m3⟩:=I2.fX (a:=T) q1 q2
  have zU:dO X.prog X.w H' h2:=I2.bz.off (ch:=[T]) (fun b hb=>by rw [show b=T by simpa using hb];exact T2) fun b o hb q=>f1 b o (by simpa using hb) q
  refine Inv.jU (s:={ s1 with heap:=h1 }) (h':=h2) (t':=s1.toks) (ch:=[T]) I2 (fun b hb=>?_) (fun b o b1 b2 b3 e _=>f1 b o (by simpa using b3) e) (fun b o b1 b2 b3 e _=>⟨o.slots,f1 b o (by simpa using b3) e⟩) (fun b o _ _ n=>n) (fun b o b3 e=>⟨o,f1 b o (by simpa using b3) e⟩) (fun b xs e=>e) (fun b o u e=>e) (fun b ps e=>⟨#[],by rw [e];simp⟩) (fun m hm=>?_) zU
  ·obtain rfl:b=T:=by simpa using hb
   exact⟨T3,m1,m2,T4⟩
  ·obtain ⟨o,es,ep,ho,uc,r⟩:=hm
   exact⟨o,es,ep,f1 _ o (fun z=>m1 z.symm) ho,uc,r⟩
 have I4:Inv X pins σ' (upd H' a (mj a C)) { s1 with heap:=h2 }:=I3.Jb (t':=s1.toks) (f1 a _ (Ne.symm k4) k5) ((Obj.cls_mapFields _ _).trans hc) ((b7 _ _).trans qS) (Obj.data_mapFields hd _) k8 mr zT
 refine fQ (X:=mw X a) (v:=.ref a) (I4.xB a) hN hi (Or.inl xC) rfl (fun s5 I6=>?_) (Or.inr xC)
 refine RZ (hs a pins s5 _ _ _ I6 (LH a k8)) (fun f s6 q=>?_) (fun _ _ z=>z.elim)
 have wZ:(X.env.scope.kind == .class || (X.env.scope.kind == .module && X.env.locals != X.env.globals))=false:=by rw [I1.ok.kind];rfl
 cases f with
 | next =>
  obtain ⟨σ2,H2,J,z⟩:=q
  have J':=J.zS I1.ok.hd
  obtain ⟨m,dB,_⟩:=id J'.loc
  exact wpAny_nameGoes_keeps xC dB wZ fun h' v hn Fc=>⟨_,H2,J'.B9 hN hi dB hn Fc,z⟩
 | brk =>
  obtain ⟨σ2,H2,J,z⟩:=q
  have J':=J.zS I1.ok.hd
  obtain ⟨m,dB,_⟩:=id J'.loc
  exact wpAny_nameGoes_keeps xC dB wZ fun h' v hn Fc=>⟨_,H2,J'.B9 hN hi dB hn Fc,z⟩
 | cont =>
  obtain ⟨σ2,H2,J,z⟩:=q
  have J':=J.zS I1.ok.hd
  obtain ⟨m,dB,_⟩:=id J'.loc
  exact wpAny_nameGoes_keeps xC dB wZ fun h' v hn Fc=>⟨_,H2,J'.B9 hN hi dB hn Fc,z⟩
 | ret u =>
  obtain ⟨v0,σ2,H2,J,r,z⟩:=q
  have J':=J.zS I1.ok.hd
  obtain ⟨m,dB,_⟩:=id J'.loc
  exact wpAny_nameGoes_keeps xC dB wZ fun h' v hn Fc=>⟨v0,_,H2,J'.B9 hN hi dB hn Fc,r,z⟩
end L2
namespace L2
open PySem PySem.Spec PyProof.Rows PySem.W
def Ca(K:Frag):List V->Hp->VK->Prop:=fun xs H Q=>∃ a C c b,xs=[.ref a,c]/\H a=some (mj a C)/\jl K C /\
 ((∃ n,c=.ty n/\kitOne K (.ref C) (.type n)=some b)\/(∃ D,c=.ref D/\kitOne K (.ref C) (.ref D)=some b)\/∃ (tp:Addr) (Ds:List Addr),c=.ref tp/\aT K H tp (Ds.map V.ref)/\kitAny K (.ref C) (Ds.map Value.ref)=some b)/\Q (.bl b) H
theorem nT:∀ {Ds:List Addr} {us:List Value},Vals (Ds.map V.ref) us->us=Ds.map Value.ref
 | [],_,.nil=>rfl
 | _::_,_,.cons r t=>by
  have e:=nT t
  cases r
  rw [e];rfl
section
variable {X:Cx}
theorem zV:bQ X (.builtin "isinstance") (Ca X.K):=by
 intro pins s σ H xs us Q I r h
 obtain ⟨a,C,c,b,rfl,hH,V,ty,q⟩:=h
 obtain ⟨u,c',rfl,ru,rc⟩:=vals2 r
 obtain rfl:u=Value.ref a:=ru
 have fin:∀ tk,EP X pins σ Q (.bool b) { s with toks:=tk }:=fun tk=>⟨.bl b,H,I.tok tk,rfl,q⟩
 obtain ⟨hx,_⟩:=I.bz a _ hH
 rcases ty with ⟨n,rfl,e⟩|⟨D,rfl,e⟩|⟨tp,Ds,rfl,hs,e⟩
 ·obtain rfl:c'=Value.type n:=rc
  exact kia_one (kY V) I.i9 hx e (fun z=>nomatch z) fin
 ·obtain rfl:c'=Value.ref D:=rc
  exact kia_one (kY V) I.i9 hx e (fun z=>nomatch z) fin
 ·obtain rfl:c'=Value.ref tp:=rc
  obtain ⟨its,rv,p,_⟩:=I.tuple hs
  obtain ⟨⟨oc,od,da,sl⟩,h1,h2,n,h3⟩:=p
  dsimp only at h2 h3
  subst h2 h3
  rw [nT rv] at h1
  exact kia_tup (kY V) I.i9 hx h1 e (fun z=>nomatch z) fin
theorem pb (K:Frag) (hK:X.K=K):bQ X (.builtin "isinstance") (Ca K):=hK ▸ zV
variable {K:Frag}{H:Hp}{Q:VK}
theorem Fd{a C:Addr}{n:String}{b:Bool}(W:jl K C)(e:H a=some (mj a C))(k:kitOne K (.ref C) (.type n)=some b)(h:Q (.bl b) H):Ca K [.ref a,.ty n] H Q:=⟨a,C,_,b,rfl,e,W,.inl ⟨n,rfl,k⟩,h⟩
theorem uD{a C D:Addr}{b:Bool}(W:jl K C)(e:H a=some (mj a C))(k:kitOne K (.ref C) (.ref D)=some b)(h:Q (.bl b) H):Ca K [.ref a,.ref D] H Q:=⟨a,C,_,b,rfl,e,W,.inr (.inl ⟨D,rfl,k⟩),h⟩
end
section
variable {K:Frag}{D:Ends}{σ:St}{H:Hp}{Q:VK}{EX:l6}
theorem Cb{sp:Sp}{ts:TA}(h:ts σ H fun vs H1=>sp vs H1 Q fun C _ H2=>∃ c,C=.ref c/\EX c σ H2):zQ sp EX ts σ H Q:=h
theorem Cc{C:Addr}{ts:TA}(h:ts σ H fun vs H1=>vs.length<=1000/\EX C σ H1):zR EX C ts D σ H:=h
theorem Je{D0:Addr}{i:Nat}{tb:l6->TS}{th:TS}(h:tb (fun C σ' H'=>subIn K (.ref C) (.ref D0)=some true/\∀ a,H' a=none->th { nx:=fun σ2 H2=>D.nx (σ2.set i none) H2,rt:=D.rt,bk:=fun σ2 H2=>D.bk (σ2.set i none) H2,ct:=fun σ2 H2=>D.ct (σ2.set i none) H2 } (σ'.set i (some (.ref a))) (upd H' a (mj a C))) D σ H):Jd K D0 i tb th D σ H:=h
end
end L2
namespace L2
open PySem PySem.Spec PyProof.Rows PySem.W
section
variable {K:Frag}{C D:Addr}{cd:ClassData}
theorem jl.mk' (q1:findIn K (.ref C) "__getattribute__"=some (some (.builtin "BaseException.__getattribute__"))) (q2:findIn K (.ref C) "__getattr__"=some none) (q3:clsIn K C=some cd)
  (q4:findIn K (.ref C) "__class__"=some (some (.builtin "object.__class__"))) (q5:specialIn K (.builtin "object.__class__") "__get__"=some (some (.builtin "getset_descriptor.__get__"))) (q6:takesIn K (.builtin "object.__class__")=some true)
  (q7:mroIn K C (.type "object")=some true) (q8:subIn K (.ref C) (.type "BaseException")=some true):jl K C :=
 ⟨q1,q2,by unfold findObj;rw [q3,Option.bind_some,q4,Option.bind_some];simp [q5,q6],q7,q8,by rw [q3];rfl⟩
theorem eh.mk' (q1:typeIn K (.ref D)=some (.type "type")) (q2:clsIn K D=some cd) (q3:subIn K (.ref D) (.type "BaseException")=some true):eh K D:=⟨q1,by rw [q2];rfl,q3⟩
theorem wx(V:eh K D)(n:C≠D)(h:subIn K (.ref C) (.ref D)=some false):kitOne K (.ref C) (.ref D)=some false:=by
 unfold kitOne
 rw [if_neg (fun z=>n (Value.ref.inj (beq_iff_eq.mp z)))]
 show (if ((clsIn K D).isSome && typeIn K (.ref D) == some (.type "type"))=true then subIn K (.ref C) (.ref D) else none)=_
 rw [V.ty,V.cl]
 simp only [beq_self_eq_true,Bool.and_self,if_true]
 exact h
theorem Fe{n:String}{b:Bool}(m:kitMeta n=true)(h:subIn K (.ref C) (.type n)=some b):kitOne K (.ref C) (.type n)=some b:=by
 unfold kitOne
 rw [if_neg (fun z=>by cases beq_iff_eq.mp z)]
 show (if kitMeta n=true then subIn K (.ref C) (.type n) else none)=_
 rw [if_pos m]
 exact h
theorem j3:kitMeta "ValueError"=true:=by decide +kernel
end
open PySem PySem.Spec PyProof.Rows
theorem j4:bootBuiltins "ValueError"=some (.type "ValueError"):=by decide +kernel
section
variable {K:Frag}{H:Hp}{Q:VK}{D:Ends}{σ:St}
theorem join{t:TS}{u:St->Hp->Prop}(P:St->Hp->Prop)(h1:∀ nx:St->Hp->Prop,(∀ σ' H',P σ' H'->nx σ' H')->t { D with nx:=nx } σ H)(h2:∀ σ' H',P σ' H'->u σ' H'):t { D with nx:=u } σ H:=h1 u h2
end
def Ff(K:Frag):List V->Hp->VK->Prop:=fun xs H Q=>∃ (a:Addr) (bs:List Bool),xs=[.ref a]/\b5 K H a (bs.map V.bl)/\Q (.bl (bs.all id)) H
theorem uE(bs:List Bool):((List.range bs.length).all fun i=>(bs[i]?).getD true)=bs.all id:=by
 rw [Bool.eq_iff_iff,all_eq_true,all_eq_true]
 constructor
 ·intro h b hb
  obtain ⟨i,hi,rfl⟩:=List.getElem_of_mem hb
  have:=h i (Sf.mpr hi)
  simpa [R3 hi] using this
 ·intro h i hi
  have Bk:=Sf.mp hi
  simpa [R3 Bk] using h _ (Ss Bk)
section
variable {X:Cx}
theorem xD (hc:X.calm=true):bQ X (.builtin "all") (Ff X.K):=by
 intro pins s σ H xs us Q I r h
 obtain ⟨a,bs,rfl,hs,q⟩:=h
 obtain ⟨u,rfl,ru⟩:=vals1 r
 cases ru
 obtain ⟨its,rv,p,_⟩:=I.list hs
 have hl:s.heap.IsList a its.toArray:=by
  obtain ⟨o,n,h1,h2,h3⟩:=p
  exact⟨o,h1,h2,n,h3.2⟩
 have eK:a<s.heap.objs.size:=by obtain ⟨_,e,_⟩:=hl;exact RI e
 have hh:X.A.handled=none:=I.ok.hd hc
 refine call_all_walk (wpAny_pyIter_list hl ?_)
 refine⟨s.heap.objs.size,[s.heap.objs.size,a],[s.heap.objs.size],its.toArray.size,_,_,fun i=>(bs[i]?).getD true,rfl,Walks.list (A:=X.A.in1) hh _ a (Sn eK) its.toArray,
  ⟨⟨_,RJ _ rfl,rfl,rfl⟩,hl.push _⟩,fun i v s' Q' E' hP hQ=>?_,fun h' tk hk=>?_⟩
 ·have NV:its[i]?=some v:=by simpa using hP
  have hi:i<its.length:=(RH.mp NV).1
  have hb:i<bs.length:=by have:=rv.length;simp at this;lia
  obtain ⟨u1,e1,r1⟩:=rv.get (i:=i) (x:=.bl bs[i]) (by simp [hb])
  rw [NV] at e1
  cases e1
  cases r1
  simp only [R3 hb,Option.getD_some] at hQ
  exact wpAny_truthy_bool hQ
 ·have e:((List.range its.toArray.size).all fun i=>(bs[i]?).getD true)=bs.all id:=by
   have:=rv.length
   simp at this
   rw [Si,<- this];exact uE bs
  rw [e]
  exact⟨.bl (bs.all id),H,I.kept (t':=tk) (fun b x e=>hk b x (fun hm=>by rw [R6.mp hm] at e;exact Nat.lt_irrefl _ (RI e)) (RE _ e)),rfl,q⟩
theorem jq (K:Frag) (hK:X.K=K) (hc:X.calm=true):bQ X (.builtin "all") (Ff K):=hK ▸ xD hc
end
section
variable {K:Frag}{H:Hp}{Q:VK}{σ:St}
theorem nU{a:Addr}{bs:List Bool}(e:b5 K H a (bs.map V.bl))(h:Q (.bl (bs.all id)) H):Ff K [.ref a] H Q:=⟨a,bs,rfl,e,h⟩
theorem Fg {n:String} {b:Bool} (k:PySem.W.kitOne K (.type "NoneType") (.type n)=some b) (h:Q (.bl b) H):dX K [.cF,.ty n] H Q:=⟨_,n,_,b,rfl,.inl .cF,k,h⟩
theorem Fh {x:Str} {n:String} {b:Bool} (k:PySem.W.kitOne K (.type "str") (.type n)=some b) (h:Q (.bl b) H):dX K [.str x,.ty n] H Q:=⟨_,n,_,b,rfl,.inl (.str _),k,h⟩
theorem uF{a:Addr}{xs:List V}{ix:List (Option Nat)}{te:TE}(F:V->V)(fr:St)(oF:pick ix σ=none::fr)(ha:aT K H a xs)(hn:xs.length<=1000)
  (step:∀ x H' (Qc:VK),x∈xs->aj H H'->(∀ H5,aj H' H5->Qc (F x) H5)->te (some x::fr) H' Qc)
  (hQ:∀ l H',H l=none->aj H H'->H' l=some (.lst (xs.map F))->Q (.ref l) H'):bS ix (c7 0) (fun _ H Q=>Q true H) te σ Q (DV K a) H:=by
 refine fT fr xs.length (fun i=>F (xs.getD i .cF)) oF (by lia) (fun H' s=>⟨_,s.at ha,by simp⟩) (fun i H' hi s=>⟨_,xs[i],s.at ha,R3 hi⟩) (fun i x H' H2 Qc hi hs hy kc=>?_) fun l H' hl hs rE=>hQ l H' hl hs ?_
 ·obtain ⟨rfl,e1⟩:=hy
  have e2:=e1 _ (hs.at ha)
  have e3:xs.getD i .cF=x:=by rw [List.getD,e2];rfl
  rw [e3] at kc
  exact step _ _ Qc (R8 e2) hs kc
 ·rw [rE]
  congr 2
  apply ext_getElem (by simp)
  intro i h1 h2
  simp at h1 h2
  simp [List.getD,h2]
end
section
variable {X:Cx}{pins:List (Addr×Obj)}{σ:St}{H:Hp}{s:Shared}
theorem Cd{p:Addr×Obj}(I:Inv X (pins++[p]) σ H s):s.heap.get? p.1=some p.2:=(I.pin p (R4 _ (R4 _ (R6.mpr rfl)))).1
end
mutual
inductive ei(K:Frag)(H:Hp):V->PyData->Prop where
 | cF:ei K H .cF .none
 | bl (b:Bool):ei K H (.bl b) (.bool b)
 | int (i:Int):ei K H (.int i) (.int i)
 | str (x:Str):ei K H (.str x) (.str x)
 | tup {a:Addr} {xs:List V} {ds:List PyData} (h:aT K H a xs) (t:Tells K H xs ds):ei K H (.ref a) (.tuple ds)
 | lst {a:Addr} {xs:List V} {ds:List PyData} (h:b5 K H a xs) (t:Tells K H xs ds):ei K H (.ref a) (.list ds)
inductive Tells(K:Frag)(H:Hp):List V->List PyData->Prop where
 | nil:Tells K H [] []
 | cons {x:V} {d:PyData} {xs:List V} {ds:List PyData} (h:ei K H x d) (t:Tells K H xs ds):Tells K H (x::xs) (d::ds)
end
section
variable {X:Cx}{pins:List (Addr×Obj)}{σ:St}{H:Hp}{s:Shared}
mutual
theorem ei.reads(I:Inv X pins σ H s):∀ {v:V} {d:PyData} {u:Value},ei X.K H v d->RelV v u->∃ as,Reads s.heap u d as
 | _,_,u,.cF,r=>by cases (show u=Value.none from r);exact⟨_,.none⟩
 | _,_,u,.bl b,r=>by cases (show u=Value.bool b from r);exact⟨_,.bool b⟩
 | _,_,u,.int i,r=>by
  obtain ⟨t,q⟩:=(show ∃ t,u=Value.int i t from r)
  cases q
  exact⟨_,.int i t⟩
 | _,_,u,.str x,r=>by
  obtain ⟨t,q⟩:=(show ∃ t,u=Value.str x t from r)
  cases q
  exact⟨_,.str x t⟩
 | _,_,u,.tup (a:=a) h t,r=>by
  cases (show u=Value.ref a from r)
  obtain ⟨its,rv,p,_⟩:=I.tuple h
  obtain ⟨o,h1,h2,n,h3⟩:=p
  obtain ⟨as,ra⟩:=Tells.reads I t rv
  exact⟨_,reads_tuple_at h1 h2 h3 (by simpa using ra)⟩
 | _,_,u,.lst (a:=a) h t,r=>by
  cases (show u=Value.ref a from r)
  obtain ⟨its,rv,p,_⟩:=I.list h
  obtain ⟨o,n,h1,h2,h3⟩:=p
  obtain ⟨as,ra⟩:=Tells.reads I t rv
  exact⟨_,reads_list_at h1 h2 h3.2 (by simpa using ra)⟩
theorem Tells.reads(I:Inv X pins σ H s):∀ {vs:List V} {ds:List PyData} {us:List Value},Tells X.K H vs ds->Vals vs us->∃ as,ReadsAll s.heap us ds as
 | _,_,_,.nil,.nil=>⟨_,.nil⟩
 | _,_,_,.cons h t,.cons r rs=>by
  obtain ⟨as,ra⟩:=ei.reads I h r
  obtain ⟨bs,rb⟩:=Tells.reads I t rs
  exact⟨_,.cons ra rb⟩
end
def xE(K:Frag)(neg:Bool):R2:=fun x y H Q=>∃ d e,ei K H x d/\ei K H y e/\SeqAt.shaped d=true/\SeqAt.shaped e=true/\Q (.bl (if neg then !PyData.eqv d e else PyData.eqv d e)) H
theorem Fi(hu:X.A.units+64<cLine):gD X (compareOp .Eq) (xE X.K false):=by
 intro pins s σ H x y v u Q I rx ry h
 obtain ⟨d,e,hd,he,sd,se,q⟩:=h
 obtain ⟨as,ra⟩:=hd.reads I rx
 obtain ⟨bs,rb⟩:=he.reads I ry
 exact eq_dataH ra rb sd se hu ⟨.bl (PyData.eqv d e),H,I,rfl,q⟩
theorem Fj(hu:X.A.units+64<cLine):gD X (compareOp .NotEq) (xE X.K true):=by
 intro pins s σ H x y v u Q I rx ry h
 obtain ⟨d,e,hd,he,sd,se,q⟩:=h
 obtain ⟨as,ra⟩:=hd.reads I rx
 obtain ⟨bs,rb⟩:=he.reads I ry
 exact ne_dataH ra rb sd se hu ⟨.bl (!PyData.eqv d e),H,I,rfl,q⟩
variable {K:Frag}
theorem pd(K:Frag)(hK:X.K=K)(hu:X.A.units+64<cLine):gD X (compareOp .Eq) (xE K false):=hK ▸ Fi hu
theorem Ce(K:Frag)(hK:X.K=K)(hu:X.A.units+64<cLine):gD X (compareOp .NotEq) (xE K true):=hK ▸ Fj hu
end
section
variable {K:Frag}{H:Hp}{Q:VK}
theorem zW{x y:V}{d e:PyData}(hd:ei K H x d)(he:ei K H y e)(sd:SeqAt.shaped d=true)(se:SeqAt.shaped e=true)(h:Q (.bl (PyData.eqv d e)) H):xE K false x y H Q:=⟨d,e,hd,he,sd,se,h⟩
theorem Jf{x y:V}{d e:PyData}(hd:ei K H x d)(he:ei K H y e)(sd:SeqAt.shaped d=true)(se:SeqAt.shaped e=true)(h:Q (.bl (!PyData.eqv d e)) H):xE K true x y H Q:=⟨d,e,hd,he,sd,se,h⟩
def Rows(K:Frag)(H:Hp)(xs:List V)(rs:List (List Int)):Prop:=Tells K H xs (rs.map fun r=>.tuple (r.map PyData.int))
theorem Tells.ints:∀ (r:List Int),Tells K H (r.map V.int) (r.map PyData.int)
 | []=>.nil
 | i::r=>.cons (.int i) (Tells.ints r)
theorem ei.row{a:Addr}{r:List Int}(h:aT K H a (r.map V.int)):ei K H (.ref a) (.tuple (r.map PyData.int)):=.tup h (Tells.ints r)
end
end L2
namespace L2
open PySem PySem.Spec PyProof.Rows
section
variable {K:Frag}{g:TG}{D:Ends}{σ:St}{H:Hp}
theorem zX{J:It}{tb:TS}(n:Nat)(Pv:Nat->St->Hp->Prop)(h0:Pv 0 σ H)(yL:∀ i σ H2,i<n->Pv i σ H2->J.go i H2)(iO:∀ σ H2,Pv n σ H2->J.stop n H2)
  (hs:∀ i x σ H2 H3,i<n->Pv i σ H2->J.Bg i H2 x H3->g x σ H3 fun σ2 H4=>tb { D with nx:=Pv (i+1),ct:=Pv (i+1),bk:=D.nx } σ2 H4) (hd:∀ σ H2,Pv n σ H2->D.nx σ H2):dv g tb D J σ H:=by
 refine⟨fun i m σ2 H2=>m=n - i/\i<=n/\Pv i σ2 H2,⟨n,by simp,Sm _,h0⟩,?_⟩
 rintro i m σ2 H2 ⟨rfl,hi,p⟩
 by_cases eK:i<n
 ·exact .inr ⟨yL i σ2 H2 eK p,Pv (i+1),fun σ' H' p'=>⟨n - (i+1),by lia,rfl,eK,p'⟩,fun x H' y=>hs i x σ2 H2 H' eK p y⟩
 ·have e:i=n:=by lia
  subst e
  exact .inl ⟨iO σ2 H2 p,hd σ2 H2 p⟩
theorem zY{lo:Int}{n:Nat}{tb:TS}(Pv:Nat->St->Hp->Prop)(h0:Pv 0 σ H)(hs:∀ i σ H2,i<n->Pv i σ H2->g (.int (lo+i)) σ H2 fun σ2 H4=>tb { D with nx:=Pv (i+1),ct:=Pv (i+1),bk:=D.nx } σ2 H4)(hd:∀ σ H2,Pv n σ H2->D.nx σ H2):dv g tb D (vP lo n) σ H:=by
 refine zX n Pv h0 (fun i σ H2 hi _=>hi) (fun σ H2 _=>RM _) (fun i x σ H2 H3 hi p y=>?_) hd
 obtain ⟨rfl,rfl⟩:=y
 exact hs i σ _ hi p
theorem Fl{a:Addr}{xs:List V}{tb:TS}(Pv:Nat->St->Hp->Prop)(h0:Pv 0 σ H)(ha:∀ i σ H2,Pv i σ H2->b5 K H2 a xs)(hs:∀ i x σ H2,xs[i]?=some x->Pv i σ H2->g x σ H2 fun σ2 H4=>tb { D with nx:=Pv (i+1),ct:=Pv (i+1),bk:=D.nx } σ2 H4)(hd:∀ σ H2,Pv xs.length σ H2->D.nx σ H2):dv g tb D (GH K a) σ H:=by
 refine zX xs.length Pv h0 (fun i σ H2 hi p=>⟨xs,xs[i],ha i σ H2 p,R3 hi⟩) (fun σ H2 p=>⟨xs,ha _ σ H2 p,RM _⟩) (fun i x σ H2 H3 hi p y=>?_) hd
 obtain ⟨rfl,e⟩:=y
 exact hs i x σ _ (e xs (ha i σ _ p)) p
end
def zZ(K:Frag):List V->Hp->VK->Prop:=fun xs H Q=>∃ (a:Addr) (ns:List Int),xs=[.ref a]/\b5 K H a (ns.map V.int)/\ns≠[]/\∀ m,m∈ns->(∀ x∈ns,x<=m)->Q (.int m) H
section
variable {X:Cx}
theorem xF (hc:X.calm=true):bQ X (.builtin "max") (zZ X.K):=by
 intro pins s σ H xs us Q I r h
 obtain ⟨a,ns,rfl,hs,qR,q⟩:=h
 obtain ⟨u,rfl,ru⟩:=vals1 r
 cases ru
 obtain ⟨its,rv,p,_⟩:=I.list hs
 have hl:s.heap.IsList a its.toArray:=by
  obtain ⟨o,n,h1,h2,h3⟩:=p
  exact⟨o,h1,h2,n,h3.2⟩
 have hh:X.A.handled=none:=I.ok.hd hc
 have hi:IntsAre its ns:=intsAre_of rv
 obtain ⟨zs,hx⟩:=hi.allInts.items
 have hn:numsOf its.toArray.toList=ns:=by rw [show its.toArray.toList=its from rfl,hi.numsOf]
 rw [hx] at hl hn
 rw [nums_intItems] at hn
 have fN:0<zs.size:=by
  rcases Nat.eq_zero_or_pos zs.size with z|z
  ·exfalso;apply qR;rw [<- hn];apply List.eq_nil_of_length_eq_zero;rw [R9,Array.length_toList,z]
  ·exact z
 refine max_intList hh hl fN fun v h' tk hv hk=>?_
 obtain ⟨t,rfl⟩:=intItems_at hv
 obtain ⟨h1,h2⟩:=argBest_gt (numAt zs) (zs.size - 1)
 refine⟨.int _,H,I.kept (t':=tk) hk,⟨t,rfl⟩,q _ ?_ fun b hb=>?_⟩
 ·rw [<- hn,numAt_eq];exact getD_mem (by rw [R9,Array.length_toList];lia)
 ·rw [<- hn] at hb
  obtain ⟨j,hj,rfl⟩:=mem_getD hb
  rw [R9,Array.length_toList] at hj
  rw [<- numAt_eq];exact h2 j (by lia)
theorem Cf (K:Frag) (hK:X.K=K) (hc:X.calm=true):bQ X (.builtin "max") (zZ K):=hK ▸ xF hc
end
section
variable {K:Frag}{H:Hp}{Q:VK}{σ:St}{ix:List (Option Nat)}
theorem Fm{a:Addr}{ns:List Int}(e:b5 K H a (ns.map V.int))(n:ns≠[])(h:∀ m,m∈ns->(∀ x∈ns,x<=m)->Q (.int m) H):zZ K [.ref a] H Q:=⟨a,ns,rfl,e,n,h⟩
end
inductive z6(K:Frag)(H:Hp):List V->List (List Int)->Prop where
 | nil:z6 K H [] []
 | cons {a:Addr} {r:List Int} {xs:List V} {rs:List (List Int)} (h:aT K H a (r.map V.int)) (t:z6 K H xs rs):z6 K H (.ref a::xs) (r::rs)
theorem bw{K:Frag}{H:Hp}{l a:Addr}{xs ys zs:List V}(h:aT K H a xs)(e:H l=some (.lst ys)):aT K (upd H l (.lst zs)) a xs :=
 (E2 h e).imp (fun q=>q.imp (fun q=>by rw [aE (fun z=>by rw [z,zM] at q;cases q)];exact wt _ _ q) fun ⟨o,q⟩=>⟨o,by rw [aE (fun z=>by rw [z,zM] at q;cases q)];exact wt _ _ q⟩) id
end L2
namespace L2
open PySem PySem.Spec PyProof.Rows PySem.W
section
variable {M:Model}{A:Around}{E:Value->Shared->Prop}{s:Shared}
theorem nV{base:Heap}{env:Env}{outer:List Env}{L e:Addr}{oe:Obj}{vs:Array Value}{head:Value}{oZ:Bool}{Q:Unit->Shared->Prop}
  (ja:A.frames=some (env::outer)) (hl:s.heap.FunFrames base (env::outer)) (hf:env.frame=some L) (he:s.heap.get? e=some oe) (hd:oe.data=.fields vs) (fN:1<vs.size)
  (h:∀ h' T,(∀ b o,b≠e->b∉i8 (env::outer)->s.heap.get? b=some o->h'.get? b=some o)->(∀ b o,b≠e->s.heap.get? b=some o->∃ sl,h'.get? b=some { o with slots:=sl }) ->
   s.heap.get? T=none->T≠e->h'.get? e=some (oe.mapFields (·.setIfInBounds 1 (.ref T)))->(∃ oT ts,h'.get? T=some oT/\oT.data=.fields ts/\ts[3]?=some (rawInt L))->Q () { s with heap:=h' }) :
  wpAny M A (do let a <- frameOf env;let pl <- entryPlaceOf L oZ;let b <- EntryCells.newEntry head a .none (rawInt L) .none pl;setField (.ref e) 1 b) Q E s:=by
 have E4:e∉(env::outer).filterMap (·.frame):=fun hm=>by
  obtain ⟨_,o,ho,uz⟩:=hl.mem hm
  rw [he] at ho;injection ho with ho;subst ho;exact uz vs hd
 refine RF (wpAny_frameOf_fun ja hl hf fun h₁ B7=>RF (wpAny_entryPlaceOf fun pl kd=>?_))
 unfold EntryCells.newEntry newFields
 refine RF (wpAny_newObj_type ?_ (kd.sizeOk5 _ _ _ _ _))
 have IW:h₁.get? e=some oe:=(B7.2.1 e E4).trans he
 obtain ⟨tb,LI⟩:∃ tb:Obj,tb={ cls:=.type "traceback",dict:=none,data:=.fields ([head,.ref L,.none,rawInt L,.none]++(if pl.isEmpty then List.replicate 6 Value.none else pl)).toArray }:=⟨_,rfl⟩
 have Pq:∃ ts,tb.data=.fields ts/\ts[3]?=some (rawInt L):=by rw [LI];exact⟨_,rfl,by simp⟩
 have uz:tb.isFreed=false:=by rw [LI];rfl
 show wpAny M A (setField (.ref e) 1 (.ref h₁.objs.size)) Q E { s with heap:=h₁.push _ }
 rw [<- LI]
 have IX:=RE (h:=h₁) tb IW
 have zO:h₁.objs.size≠e:=Nat.ne_of_gt (RI IW)
 refine wpAny_setField IX hd fN (h _ h₁.objs.size (fun b o qW LC hb=>?_) (fun b o qW hb=>?_) (Heap.get?_none_of_le (by rw [B7.1];exact RM _)) zO (Heap.get?_update_self _ IX (Obj.isFreed_of_fields (Obj.data_mapFields hd _))) ?_)
 ·rw [Heap.get?_update_other _ _ (Ne.symm qW)]
  exact RE _ ((B7.2.1 b LC).trans hb)
 ·obtain ⟨sl,hs⟩:=B7.2.2 b o hb
  exact⟨sl,by rw [Heap.get?_update_other _ _ (Ne.symm qW)];exact RE _ hs⟩
 ·obtain ⟨ts,q1,q2⟩:=Pq
  exact⟨tb,ts,(Heap.get?_update_other _ _ (Ne.symm zO)).trans (RJ h₁ uz),q1,q2⟩
theorem rS{base:Heap}{env:Env}{outer:List Env}{L e:Addr}{oe:Obj}{vs:Array Value}{T0:Option Addr}{Q:Unit->Shared->Prop}
  (ja:A.frames=some (env::outer)) (hl:s.heap.FunFrames base (env::outer)) (hf:env.frame=some L) (he:s.heap.get? e=some oe) (hd:oe.data=.fields vs) (hh:jm s.heap e vs T0)
  (h:∀ h' T,(∀ b o,b≠e->some b≠T0->b∉i8 (env::outer)->s.heap.get? b=some o->h'.get? b=some o)->(∀ b o,b≠e->some b≠T0->s.heap.get? b=some o->∃ sl,h'.get? b=some { o with slots:=sl }) ->
   s.heap.get? T=none->T≠e->h'.get? e=some (oe.mapFields (·.setIfInBounds 1 (.ref T)))->(∃ oT ts,h'.get? T=some oT/\oT.data=.fields ts/\ts[3]?=some (rawInt L))->Q () { s with heap:=h' }) :
  wpAny M A (noteFrame (.ref e) env) Q E s:=by
 unfold noteFrame
 simp only [hf]
 cases T0 with
 | none =>
  have h1:vs[1]?=some .none:=hh
  refine RF (wpAny_field he hd h1 ?_)
  rw [if_neg (by decide)]
  exact nV ja hl hf he hd (Array.getElem?_eq_some_iff.mp h1).1 fun h' T k1 k2 k3 k4 k5 k6=>h h' T (fun b o b1 _ b3 b4=>k1 b o b1 b3 b4) (fun b o b1 _ b3=>k2 b o b1 b3) k3 k4 k5 k6
 | some T =>
  obtain ⟨h1,zO,oT,ts,hT,gS,h3⟩:=hh
  refine RF (wpAny_field he hd h1 ?_)
  rw [if_pos (show (Value.ref T != Value.none)=true from by simp)]
  refine RF (wpAny_field hT gS h3 ?_)
  rw [if_neg (show ¬ ((Value.none == rawInt L)=true) from by simp [rawInt])]
  refine RF (wpAny_setField hT gS (Array.getElem?_eq_some_iff.mp h3).1 ?_)
  have other:∀ b,b≠T->(s.heap.update T (Obj.mapFields (·.setIfInBounds 3 Value.none))).get? b=s.heap.get? b:=fun b hb=>Heap.get?_update_other _ _ (Ne.symm hb)
  have k7:∀ b o,s.heap.get? b=some o->(∀ vs,o.data≠.fields vs)->b≠T:=fun b o hb uz q=>by
   rw [q,hT] at hb;injection hb with hb;subst hb;exact uz ts gS
  have zu:=Heap.get?_update_self (Obj.mapFields (·.setIfInBounds 3 Value.none)) hT (Obj.isFreed_of_fields (Obj.data_mapFields gS _))
  refine nV ja (hl.of_keeps fun b o hb uz=>⟨o,(other b (k7 b o hb uz)).trans hb,rfl⟩) hf ((other e (Ne.symm zO)).trans he) hd (Array.getElem?_eq_some_iff.mp h1).1 fun h' T' k1 k2 k3 k4 k5 k6=>?_
  refine h h' T' (fun b o b1 b2 b3 b4=>k1 b o b1 b3 ((other b fun z=>b2 (by rw [z])).trans b4)) (fun b o b1 b2 b4=>k2 b o b1 ((other b fun z=>b2 (by rw [z])).trans b4)) ?_ k4 k5 k6
  by_cases hq:T'=T
  ·rw [hq,zu] at k3;cases k3
  ·rw [other T' hq] at k3;exact k3
theorem eN{e T:Addr}{oe oT:Obj}{vs ts:Array Value}{fl:Option Addr}{Q:Unit->Shared->Prop}(he:s.heap.get? e=some oe)(hd:oe.data=.fields vs)(h1:vs[1]?=some (.ref T))(hT:s.heap.get? T=some oT)(gS:oT.data=.fields ts)(h3:3<ts.size)
  (h:∀ h',(∀ b o,b≠T->s.heap.get? b=some o->h'.get? b=some o)->(∃ oT ts,h'.get? T=some oT/\oT.data=.fields ts/\ts[3]?=some (fl.elim .none fun f=>rawInt f))->Q () { s with heap:=h' }):wpAny M A (setFlight (.ref e) fl) Q E s:=by
 unfold setFlight
 refine RF (wpAny_field he hd h1 ?_)
 rw [if_pos (show (Value.ref T != Value.none)=true from by simp)]
 refine wpAny_setField hT gS h3 (h _ (fun b o hb e=>(Heap.get?_update_other _ _ (Ne.symm hb)).trans e) ⟨_,_,Heap.get?_update_self _ hT (Obj.isFreed_of_fields (Obj.data_mapFields gS _)),Obj.data_mapFields gS _,?_⟩)
 simp [h3]
theorem ph{env:Env}{L e T:Addr}{oe oT:Obj}{vs ts:Array Value}{Q:Unit->Shared->Prop}(hf:env.frame=some L)(he:s.heap.get? e=some oe)(hd:oe.data=.fields vs)(h1:vs[1]?=some (.ref T))(hT:s.heap.get? T=some oT)(gS:oT.data=.fields ts)(h3:ts[3]?=some (rawInt L))(h:Q () s) :
  wpAny M A (noteFrame (.ref e) env) Q E s:=by
 unfold noteFrame
 simp only [hf]
 refine RF (wpAny_field he hd h1 ?_)
 rw [if_pos (show (Value.ref T != Value.none)=true from by simp)]
 refine RF (wpAny_field hT gS h3 ?_)
 rw [if_pos (by simp)]
 exact RY h
end
def LJ(mg:Str->Option Value)(h:Heap)(H:Hp)(h0:Heap)(ps:List (Addr×Obj))(L a C:Addr):Prop:=∃ oe vs T oT ts,h.get? a=some oe/\oe.cls=.ref C/\oe.dict=none/\oe.data=.fields vs/\nS (fV mg C) vs/\vs[1]?=some (.ref T)/\T≠a/\h.get? T=some oT/\oT.data=.fields ts/\ts[3]?=some (rawInt L) /\
 H a=none/\(h0.get? a=none/\∀ p∈ps,p.1≠a)/\H T=none/\h0.get? T=none/\∀ p∈ps,p.1≠T
def XM(X:Cx)(EX:l6):Value->Shared->Prop:=fun e s'=>∃ a C σ' H',e=.ref a/\Inv X.w6 [] σ' H' s'/\LJ X.mg s'.heap H' X.s₀.heap X.pn X.env.locals a C/\EX C σ' H'
def XP(X:Cx)(EX:l6):Value->Shared->Prop:=fun e s'=>XW X EX e s'\/XM X EX e s'
section
variable {X:Cx}{EX:l6}{σ:St}{H:Hp}{s:Shared}
theorem Inv.mark{T:Addr}{oT:Obj}{ts:Array Value}{h':Heap}(I:Inv X [] σ H s)(hT:s.heap.get? T=some oT)(gS:oT.data=.fields ts)(n1:H T=none)(n2:X.s₀.heap.get? T=none)(n3:∀ p∈X.pn,p.1≠T)(f1:∀ b o,b≠T->s.heap.get? b=some o->h'.get? b=some o)(f2:∃ o,h'.get? T=some o) :
  Inv X [] σ H { s with heap:=h' }:=by
 obtain ⟨m1,m2,m3⟩:=I.fX hT gS
 have zU:dO X.prog X.w H h':=I.bz.off (ch:=[T]) (fun b hb=>by rw [show b=T by simpa using hb];exact n1) fun b o hb q=>f1 b o (by simpa using hb) q
 refine Inv.jU (s:=s) (h':=h') (t':=s.toks) (ch:=[T]) I (fun b hb=>?_) (fun b o b1 b2 b3 e _=>f1 b o (by simpa using b3) e) (fun b o b1 b2 b3 e _=>⟨o.slots,f1 b o (by simpa using b3) e⟩) (fun b o _ _ n=>n) (fun b o b3 e=>⟨o,f1 b o (by simpa using b3) e⟩) (fun b xs e=>e) (fun b o u e=>e) (fun b ps e=>⟨#[],by rw [e];simp⟩) (fun m hm=>?_) zU
 ·obtain rfl:b=T:=by simpa using hb
  exact⟨n2,m1,m2,fun p hp=>n3 p (by simpa using hp)⟩
 ·obtain ⟨o,es,ep,ho,uc,r⟩:=hm
  exact⟨o,es,ep,f1 _ o (fun z=>m1 z.symm) ho,uc,r⟩
theorem xG(fJ:X.stack=X.env::X.outer)(ja:X.env.frame=some X.env.locals)(hex:X.ex=[]):PassesOwn (model X.prog X.w) X.A X.env (XP X EX):=by
 rintro e s' (h|h)
 ·obtain ⟨a,C,σ',H',rfl,I0,⟨oe,vs,T0,he,hc,qS,hd,fN,hh,k8,⟨qT,uA⟩,qU⟩,hE⟩:=h
  have Fb:X.w6.A.frames=some (X.env::X.outer):=by rw [<- fJ];exact I0.ok.frames
  refine rS (base:=X.base) (L:=X.env.locals) Fb (fJ ▸ I0.stack) ja he hd hh fun h1 T k1 k2 k3 k4 k5 k6=>?_
  obtain ⟨n1,n2,n3⟩:=I0.fX he hd
  have t1:∀ T',T0=some T'->∃ oT ts,s'.heap.get? T'=some oT/\oT.data=.fields ts:=fun T' z=>by
   subst z
   obtain ⟨_,_,oT,ts,q1,q2,_⟩:=hh
   exact⟨oT,ts,q1,q2⟩
  have uB:∀ b,b∈i8 (X.env::X.outer)->b=X.env.locals\/b∈X.fs:=fun b hb=>by
   rcases Sd.mp (I0.fP b (fJ ▸ hb)) with z|z
   ·exact .inl z
   ·exact .inr z
  have off:Off (a::(T0.toList++i8 (X.env::X.outer))) s'.heap h1:=fun b o hb q=>by
   simp only [Sd,R7,not_or] at hb
   exact k1 b o hb.1 (fun z=>hb.2.1 (by rw [<- z];simp)) hb.2.2 q
  have uC:dO X.prog X.w H' h1:=I0.bz.off (fun b hb=>by
   simp only [Sd,R7] at hb
   rcases hb with rfl|hb|hb
   ·exact k8
   ·cases T0 with
    | none=>simp at hb
    | some T1 =>
     simp only [Option.toList_some,R6] at hb
     rw [hb];exact (qU T1 rfl).1
   ·exact I0.eS b (fJ ▸ hb)) off
  have jo:∀ b,b∉(a::T0.toList)->b≠a/\some b≠T0:=fun b hb=>by
   simp only [Sd,not_or] at hb
   exact⟨hb.1,fun z=>hb.2 (by rw [<- z];simp)⟩
  have I2:Inv X.w6 [] σ' H' { s' with heap:=h1 }:=by
   refine I0.jU (h':=h1) (t':=s'.toks) (ch:=a::T0.toList) (fun b hb=>?_) (fun b o b1 b2 b3 e _=>?_) (fun b o b1 b2 b3 e _=>?_) (fun b o _ _ n=>n) (fun b o b3 e=>?_) (fun b xs e=>e) (fun b o u e=>e) (fun b ps e=>⟨#[],by rw [e];simp⟩) (fun m hm=>?_) uC
   ·rcases Sd.mp hb with rfl|hb
    ·exact⟨qT,n1,n2,fun p hp=>uA p (by simpa using hp)⟩
    ·cases T0 with
     | none=>simp at hb
     | some T1 =>
      simp only [Option.toList_some,R6] at hb
      subst hb
      obtain ⟨oT,ts,q1,q2⟩:=t1 _ rfl
      obtain ⟨m1,m2,m3⟩:=I0.fX q1 q2
      exact⟨(qU _ rfl).2.1,m1,m2,fun p hp=>(qU _ rfl).2.2 p (by simpa using hp)⟩
   ·refine k1 b o (jo b b3).1 (jo b b3).2 (fun z=>?_) e
    rcases uB b z with q|q
    ·exact b1 q
    ·exact b2 q
   ·exact k2 b o (jo b b3).1 (jo b b3).2 e
   ·obtain ⟨sl,q⟩:=k2 b o (jo b b3).1 (jo b b3).2 e
    exact⟨_,q⟩
   ·obtain ⟨o,es,ep,ho,uc,r⟩:=hm
    obtain ⟨sl,q⟩:=k2 _ o (fun z=>n1 z.symm) (fun z=>by
     obtain ⟨oT,ts,q1,q2⟩:=t1 _ z.symm
     exact (I0.fX q1 q2).1 rfl) ho
    exact⟨_,es,ep,q,uc,r⟩
  have T2:H' T=none:=I0.bz.free k3
  have T3:X.s₀.heap.get? T=none:=by
   cases q:X.s₀.heap.get? T with
   | none=>rfl
   | some o =>
    obtain ⟨o',q1⟩:=I0.base.there T o q (by show T∉X.ex;rw [hex];simp)
    rw [k3] at q1;cases q1
  have T4:∀ p∈X.pn,p.1≠T:=fun p hp z=>by
   have:=(I0.pin p (R5 _ hp)).1
   rw [z,k3] at this;cases this
  obtain ⟨oT,ts,Jg,zu,LK⟩:=k6
  have Fp:=Obj.data_mapFields hd (·.setIfInBounds 1 (Value.ref T))
  have Fq:(vs.setIfInBounds 1 (Value.ref T))[1]?=some (.ref T):=by simp [fN.1]
  unfold cameBackBy
  refine RF (wpAny_field k5 Fp Fq ?_)
  rw [if_neg (by simp)]
  rw [ja]
  refine eN k5 Fp Fq Jg zu (Array.getElem?_eq_some_iff.mp LK).1 fun h2 f1 f2=>.inr ?_
  obtain ⟨Fs,Ft,q1,q2,q3⟩:=f2
  refine⟨a,C,σ',H',rfl,Inv.mark (s:={ s' with heap:=h1 }) I2 Jg zu T2 T3 T4 f1 ⟨_,q1⟩,⟨_,_,T,Fs,Ft,f1 _ _ (Ne.symm k4) k5,(Obj.cls_mapFields _ _).trans hc,(b7 _ _).trans qS,Fp,fN.set,Fq,k4,q1,q2,q3,k8,⟨qT,uA⟩,T2,T3,T4⟩,hE⟩
 ·obtain ⟨a,C,σ',H',rfl,I0,⟨oe,vs,T,oT,ts,he,hc,qS,hd,fN,h1,Dp,hT,gS,h3,k8,⟨qT,uA⟩,T2,T3,T4⟩,hE⟩:=h
  refine ph ja he hd h1 hT gS h3 ?_
  unfold cameBackBy
  refine RF (wpAny_field he hd h1 ?_)
  rw [if_neg (by simp)]
  rw [ja]
  refine eN he hd h1 hT gS (Array.getElem?_eq_some_iff.mp h3).1 fun h2 f1 f2=>.inr ?_
  obtain ⟨Fs,Ft,q1,q2,q3⟩:=f2
  exact⟨a,C,σ',H',rfl,Inv.mark I0 hT gS T2 T3 T4 f1 ⟨_,q1⟩,⟨oe,vs,T,Fs,Ft,f1 _ _ (Ne.symm Dp) he,hc,qS,hd,fN,h1,Dp,q1,q2,q3,k8,⟨qT,uA⟩,T2,T3,T4⟩,hE⟩
end
theorem Cg{P:Program}{w:World}{K:Frag}{mg:Str->Option Value}{base:Heap}{N:List Str}{qual:Str}{scope:Scope}{f:Addr}{cd:Value}{A:Around}{outer:List Env}{s:Shared}{H:Hp}{E:XK}{e:Value}{s':Shared}
  (h:XP (gQ (B8 P w mg) P w K mg base N qual scope f cd A outer s H E) (fun C _ H'=>E (.ref C) none H') e s'):(gQ (B8 P w mg) P w K mg base N qual scope f cd A outer s H E).xe e s':=by
 rcases h with h|h
 ·exact zP h
 obtain ⟨a,C,σ',H',rfl,I,⟨oe,vs,T,oT,ts,he,hc,qS,hd,fN,h1,Dp,hT,gS,h3,k8,⟨qT,uA⟩,T2,T3,T4⟩,hE⟩:=h
 have mr:s.heap.get? a=none:=qT
 have NW:s.heap.get? T=none:=T3
 show wpAny (model P w) (A.deeper (envOfC qual scope s.heap.objs.size f cd)) (leaving (envOfC qual scope s.heap.objs.size f cd) (.ref a)) _ _ s'
 unfold leaving
 refine RF (ph (L:=s.heap.objs.size) rfl he hd h1 hT gS h3 (eN (fl:=none) he hd h1 hT gS (Array.getElem?_eq_some_iff.mp h3).1 fun h' f1 f2=>?_))
 have neT:∀ b o,s.heap.get? b=some o->b≠T:=fun b o q z=>by rw [z,NW] at q;cases q
 refine⟨a,C,H',rfl,I.os,I.bare,⟨fun b o q n hb hx=>f1 b o (neT b o q) (I.base.keep b o q n hb hx),fun b o q n hb hx=>?_,fun b o q n hx=>I.base.free b o q n hx,fun b o q hx=>?_,I.base.gV,I.base.gP,I.base.gW⟩,I.bz.off (ch:=[T]) (fun b hb=>by rw [show b=T by simpa using hb];exact T2) fun b o hb q=>f1 b o (by simpa using hb) q,?_,hE⟩
 ·obtain ⟨sl,q1⟩:=I.base.slot b o q n hb hx
  exact⟨sl,f1 _ _ (neT b o q) q1⟩
 ·obtain ⟨o',q1⟩:=I.base.there b o q hx
  exact⟨o',f1 _ _ (neT b o q) q1⟩
 ·exact⟨oe,vs,some T,f1 _ _ (Ne.symm Dp) he,hc,qS,hd,fN,⟨h1,Dp,f2⟩,k8,⟨mr,fun _ z=>nomatch z⟩,fun T' e=>by cases e;exact⟨T2,NW,fun _ z=>nomatch z⟩⟩
section
variable {P:Program}{w:World}{K:Frag}{mg:Str->Option Value}{base:Heap}
theorem Def.Jh{x:Str}{st:Stmt}{N ps:List Str}{k:Nat}{sp:Sp}(D:Def K mg x st ps)(S:aB N ps (ar st))(len:∀ vs H Q E,sp vs H Q E->vs.length=ps.length)
  (eM:∀ (f:Addr) (bE:Value) (A:Around) (outer:List Env) (s:Shared) (H:Hp) (vs:List V) (Q:VK) (E:XK),cO k (A.deeper (envOfC x (ar st) s.heap.objs.size f bE))->sp vs H Q E ->
   ∃ t,jZ ((gQ (B8 P w mg) P w K mg base N x (ar st) f bE A outer s H E).dr (XP (gQ (B8 P w mg) P w K mg base N x (ar st) f bE A outer s H E) fun C _ H'=>E (.ref C) none H')) (cc st) t/\t { nx:=fun _ H'=>Q .cF H',rt:=Q } (start N vs) H):rQ P w K mg base (k+1) x ps sp:=by
 obtain ⟨f,fd,F,hm,hb⟩:=D
 obtain ⟨oc,od,kV,doc,pm,an,bE,ct,xi,rfl,lk,jc⟩:=F.ex
 refine⟨f,_,za lk jc S len fun A outer s H vs Q E hr kE=>?_,hm,F.kp,hb⟩
 obtain ⟨t,h,q⟩:=eM f bE A outer s H vs Q E hr kE
 exact⟨t,h.xe fun e s z=>Cg z,q⟩
end
open PySem PySem.Spec PyProof.Rows
section
variable {K:Frag}{H:Hp}{Q:VK}{σ:St}
def Dq:List V->Hp->(It->Hp->Prop)->Prop:=fun vs H R=>∃ i j:Int,vs=[.int i,.int j]/\(-(2 ^ 62)<=i/\i<2 ^ 62/\-(2 ^ 62)<=j/\j<2 ^ 62)/\R (vP i (j - i).toNat) H
theorem Ci{ts:TA}{R:It->Hp->Prop}(h:ts σ H fun vs H1=>Dq vs H1 R):C1 ts σ H R:=h
theorem Fu{i j:Int}{R:It->Hp->Prop}(h1:-1000000<=i/\i<=1000000)(h2:-1000000<=j/\j<=1000000)(h:R (vP i (j - i).toNat) H):Dq [.int i,.int j] H R:=⟨i,j,rfl,⟨by lia,by lia,by lia,by lia⟩,h⟩
theorem rT:∀ (r q:List Int),PyData.eqvAll (r.map PyData.int) (q.map PyData.int)=decide (r=q)
 | [],[]=>rfl
 | [],_::_=>rfl
 | _::_,[]=>rfl
 | x::r,y::q=>by
  have h:=rT r q
  simp only [map_cons,PyData.eqvAll,h,PyData.eqv]
  by_cases e:x=y
  ·subst e;by_cases e2:r=q <;> simp [e2]
  ·simp [e]
theorem Cj(r q:List Int):PyData.eqv (.tuple (r.map PyData.int)) (.tuple (q.map PyData.int))=decide (r=q):=by
 rw [<- rT r q]
 simp [PyData.eqv]
theorem lay_ints:∀ r:List Int,PyData.canLayAll0 (r.map PyData.int)=true
 | []=>rfl
 | _::r=>by simp only [map_cons,PyData.canLayAll0,lay_ints r,PyData.canLay0,Bool.and_self]
theorem wy(r:List Int):PyData.canLay0 (.tuple (r.map PyData.int))=true:=by simp only [PyData.canLay0,lay_ints]
theorem nW:∀ r:List Int,PyData.depthAll (r.map PyData.int)<=1
 | []=>by simp [PyData.depthAll]
 | _::r=>by
  have:=nW r
  simp only [map_cons,PyData.depthAll,PyData.depth]
  lia
theorem rV(r:List Int):PyData.depth (.tuple (r.map PyData.int))<=2:=by
 have:=nW r
 simp only [PyData.depth]
 lia
theorem k9(r:List Int):SeqAt.shaped (.tuple (r.map PyData.int))=true:=by
 unfold SeqAt.shaped
 rw [wy,RW (RL (rV r) (by decide))];rfl
end
end L2
namespace L2
open PySem PySem.Spec PyProof.Rows PySem.W
abbrev Ji(A:Around):Around:={ A with handled:=none }
abbrev rW(k:Nat)(A:Around):Prop:=cO k (Ji A)
abbrev Jj(CX:tX)(P:Program)(w:World)(K:Frag)(mg:Str->Option Value)(base:Heap)(N:List Str)(qual:Str)(scope:Scope)(f:Addr)(cd:Value)(A:Around)(outer:List Env)(s:Shared)(H:Hp)(E:XK):Cx :=
 { gQ CX P w K mg base N qual scope f cd A outer s H E with calm:=false }
theorem ow.Ji{P:Program}{w:World}{K:Frag}{mg:Str->Option Value}{base:Heap}{A:Around}{outer:List Env}{s:Shared}{H:Hp}(e:ow P w K mg base A outer s H):ow P w K mg base (Ji A) outer s H :=
 ⟨e.frames,e.mod,e.bs,e.vO,e.fM,e.yJ,e.bz,e.bare⟩
theorem uG{CX:tX}{P:Program}{w:World}{K:Frag}{mg:Str->Option Value}{base:Heap}{N ps:List Str}{qual:Str}{scope:Scope}{f:Addr}{cd:Value}{A:Around}{outer:List Env}{s s1:Shared}{H:Hp}{E:XK}{us:List Value}{vs:List V}
  (S:aB N ps scope) (e0:ow P w K mg base A outer s H) (hl:vs.length=ps.length) (r:Vals vs us)
  (x:InCallC s s.heap.objs.size (bindL (envOfC qual scope s.heap.objs.size f cd).kindOf (ps.zip us) fun _=>none) (cellsFrom (s.heap.objs.size+1) scope.names []) (bindC (envOfC qual scope s.heap.objs.size f cd).kindOf (ps.zip us) fun _=>none) s1) :
  Inv (Jj CX P w K mg base N qual scope f cd A outer s H E) [] (start N vs) H s1:=by
 have I:=nI (CX:=CX) (E:=E) (A:=Ji A) S rfl e0.Ji hl r x
 exact⟨⟨I.ok.mod,I.ok.kind,I.ok.glob,I.ok.blt,I.ok.above,I.ok.inj,I.ok.has,I.ok.Be,(fun z=>nomatch z),Around.frames_deeper e0.frames,I.ok.Bu,I.ok.DQ,I.ok.bs,I.ok.vO,I.ok.l9,I.ok.om,I.ok.fM,I.ok.yJ⟩,I.os,I.bare,I.base,I.loc,I.cell,I.free,I.cK,I.pin,I.bz,I.len⟩
theorem cO.Pr{j k:Nat}{A:Around}{h:Option Value}(r:cO k A)(NX:j<=k):rW j (A.mark h):=⟨rfl,(r.mono NX).dp,(r.mono NX).un⟩
structure Dr(P:Program)(w:World)(K:Frag)(mg:Str->Option Value)(base:Heap)(CX:tX)(k:Nat)(f:Addr)(fd:FuncData)(ps:List Str)(sp:Sp):Prop where
 len:∀ vs H Q E,sp vs H Q E->vs.length=ps.length
 run:∀ (A:Around) (outer:List Env) (s:Shared) (H:Hp) (args:Args) (us:List Value) (vs:List V) (Q:VK) (E:XK),rW k A->ow P w K mg base A outer s H->BindsTo s fd args (ps.zip us)->Vals vs us->sp vs H Q E ->
  codeAny (model P w) A (.call (.ref f) args) (CR CX outer P w H s Q E) s
theorem Fv{CX:tX}{P:Program}{w:World}{K:Frag}{mg:Str->Option Value}{base:Heap}{k:Nat}{f:Addr}{name qual:Str}{params:Arguments}{body:List Stmt}{scope:Scope}{dV kV doc pm bE ct oc:Value}{an od:Option Addr}
  {xi:Array (Option Value)} {N ps:List Str} {sp:Sp} (lk:K.lookup f=some ⟨oc,od,.func (fnOf name qual params body scope dV kV doc pm an bE ct),xi⟩) (jc:codeIn K bE qual=true) (S:aB N ps scope)
  (len:∀ vs H Q E,sp vs H Q E->vs.length=ps.length)
  (eM:∀ (A:Around) (outer:List Env) (s:Shared) (H:Hp) (vs:List V) (Q:VK) (E:XK),rW k (A.deeper (envOfC qual scope s.heap.objs.size f bE))->sp vs H Q E ->
   ∃ t,jZ (Jj CX P w K mg base N qual scope f bE A outer s H E) body t/\t { nx:=fun _ H'=>Q .cF H',rt:=Q } (start N vs) H) :
  Dr P w K mg base CX (k+1) f (fnOf name qual params body scope dV kV doc pm an bE ct) ps sp:=by
 refine⟨len,fun A outer s H args us vs Q E hr e0 hb r kE=>?_⟩
 have hl:=len _ _ _ _ kE
 have NY:K.In s.heap:=e0.mod.CN.keeps fun b o e=>(e0.bs b o e).1
 have lim:s.heap.NoLimit:=e0.mod.nolimit.keeps fun b o e=>(e0.bs b o e).1
 have kinds:∀ y∈ps.zip us,scope.names.lookup y.1=some .local\/(scope.names.lookup y.1=some .cell/\((cellsFrom (s.heap.objs.size+1) scope.names []).lookup y.1).isSome=true):=fun ⟨n,v⟩ hy =>
  (S.par n (of_mem_zip hy).1).imp id fun q=>⟨q,cellsFrom_some _ _ _ (.inl q)⟩
 have dep:A.depth<recursionLimit:=hr.depth
 refine codeAny_call_function dep (NY _ _ lk) rfl S.co S.gen rfl (codeRec_of NY jc) (hb _ _ _ _ (wpAny_newFunctionEnv_cells S.kind kinds fun env he s1 x=>?_))
 subst he
 obtain ⟨t,ht,hq⟩:=eM A outer s H vs Q E (hr.deeper _) kE
 have I:Inv (Jj CX P w K mg base N qual scope f bE A outer s H E) [] (start N vs) H s1:=uG S e0 hl r x
 refine⟨lim.keeps x.toInCall.keep,codeAny_func (RZ (ht [] s1 (start N vs) H _ I hq) (fun fl s' hs=>?_) fun e s' hs=>hs)⟩
 have fin:∀ {σ':St} {H':Hp} {v:V} {u:Value},Inv (Jj CX P w K mg base N qual scope f bE A outer s H E) [] σ' H' s'->RelV v u->Q v H'->CE outer P w H s Q u s':=fun J rv q=>⟨_,_,J.os,J.bare,J.base,J.bz,rv,q⟩
 cases fl with
 | ret u =>
  obtain ⟨v,σ',H',J,rv,q⟩:=hs
  exact fin J rv q
 | next =>
  obtain ⟨σ',H',J,q⟩:=hs
  exact fin (v:=V.cF) (u:=Value.none) J rfl q
 | brk=>exact hs.elim fun _ z=>z.elim fun _ z=>z.2.elim
 | cont=>exact hs.elim fun _ z=>z.elim fun _ z=>z.2.elim
def Ka(P:Program)(w:World)(K:Frag)(mg:Str->Option Value)(base:Heap)(k:Nat)(x:Str)(ps:List Str)(sp:Sp):Prop :=
 ∃ f fd,Dr P w K mg base Bj k f fd ps sp/\mg x=some (.ref f)/\keepIn K (.ref f)=true/\Binds K fd ps []
section
variable {P:Program}{w:World}{K:Frag}{mg:Str->Option Value}{base:Heap}
theorem Def.Pt{x:Str}{st:Stmt}{N ps:List Str}{k:Nat}{sp:Sp}(D:Def K mg x st ps)(S:aB N ps (ar st))(len:∀ vs H Q E,sp vs H Q E->vs.length=ps.length)
  (eM:∀ (f:Addr) (bE:Value) (A:Around) (outer:List Env) (s:Shared) (H:Hp) (vs:List V) (Q:VK) (E:XK),rW k (A.deeper (envOfC x (ar st) s.heap.objs.size f bE))->sp vs H Q E ->
   ∃ t,jZ (Jj Bj P w K mg base N x (ar st) f bE A outer s H E).w6 (cc st) t/\t { nx:=fun _ H'=>Q .cF H',rt:=Q } (start N vs) H):Ka P w K mg base (k+1) x ps sp:=by
 obtain ⟨f,fd,F,hm,hb⟩:=D
 obtain ⟨oc,od,kV,doc,pm,an,bE,ct,xi,rfl,lk,jc⟩:=F.ex
 refine⟨f,_,Fv lk jc S len fun A outer s H vs Q E hr kE=>?_,hm,F.kp,hb⟩
 obtain ⟨t,h,q⟩:=eM f bE A outer s H vs Q E hr kE
 exact⟨t,h.w6,q⟩
end
section
variable {X:Cx}{EX:l6}{k:Nat}{x:Str}{ps:List Str}{sp:Sp}{p pos:Pos}{e:Expr}{es:List Expr}{t:TA}{ds:List Value}{BD:List V}
theorem Fw(O:Ka X.prog X.w X.K X.mg X.base k x ps sp)(hr:rW k X.A)(ha:PA X (e::es) t)(hg:Gl X x:=by rfl)
  (oy:(x == ("__debug__":Str))=false:=by decide) (he:starEach (e::es) X.env=(false,eval e X.env)::starEach es X.env:=by rfl) (kd:(backTo pos (starEach es X.env)).any (·.1)=false:=by rfl) :
  PE X (.Call (.Name x p) (e::es) [] pos) (rf sp [] E0 t):=by
 obtain ⟨f,fd,F,hm,hk,hb⟩:=O
 intro pins s σ H Q I h
 refine wpAny_Call_Name_kw (dm I hg hm ?_ oy)
 refine callWith_K (h₀:=X.base) I.ok.mod.CN hk (cx (ha pos pins s σ H _ I h) fun us s1 ⟨vs,H1,I1,r,q⟩=>⟨I1.i9,?_⟩) he kd
 have r2:Vals (vs++[]) (us++[]):=r.append .nil
 have hl:(us++[]).length=ps.length:=by rw [<- r2.length];exact F.len _ _ _ _ q
 refine wpAny_call (codeAny_mono (F.run X.A X.stack s1 H1 ⟨us,[]⟩ (us++[]) (vs++[]) Q E0 hr I1.D6 (hb s1 us I1.i9 hl) r2 q) fun r s' hq=>?_)
 cases r with
 | error e=>exact False.elim hq
 | ok fl =>
  cases fl with
  | ret u=>exact I1.after hq
  | next=>exact False.elim hq
  | brk=>exact False.elim hq
  | cont=>exact False.elim hq
end
open PySem PySem.Spec PyProof.Rows
def rk(r:List Int):List Key:=r.map Sum.inl
inductive z7(K:Frag)(H:Hp):List V->List (List Int×Int)->Prop where
 | nil:z7 K H [] []
 | cons {a w:Addr} {r:List Int} {m:Int} {xs:List V} {ks:List (List Int×Int)} (h:aT K H a [.ref w,.int m]) (hw:aT K H w (r.map V.int)) (t:z7 K H xs ks):z7 K H (.ref a::xs) ((r,m)::ks)
theorem xH{α β:Type}(ks:List α)(d:α)(g:α->β):(List.range ks.length).map (fun i=>g (ks.getD i d))=ks.map g:=by
 apply ext_getElem
 ·simp
 ·intro i h1 h2
  have h:i<ks.length:=by simpa using h1
  simp [List.getD,R3 h]
theorem rX{K:Frag}{a:Addr}{xs:List V}{H1:Hp}{ix:List (Option Nat)}{σ:St}{te:TE}{Q:VK}(fr:St)(f:Nat->V)(oF:pick ix σ=none::fr)(ha:b5 K H1 a xs)(hn:xs.length<=1000000)
  (step:∀ (i:Nat) x H' (Qc:VK),xs[i]?=some x->aj H1 H'->(∀ H5,aj H' H5->Qc (f i) H5)->te (some x::fr) H' Qc)
  (hQ:∀ l H',H1 l=none->aj H1 H'->H' l=some (.lst ((List.range xs.length).map f))->Q (.ref l) H'):bS ix (c7 0) (fun _ H Q=>Q true H) te σ Q (GH K a) H1:=by
 refine fT fr xs.length f oF hn (fun H' s=>⟨xs,s.seq ha,RM _⟩) (fun i H' hi s=>⟨xs,xs[i],s.seq ha,R3 hi⟩) (fun i x H' H2 Qc hi s hy kc=>?_) hQ
 obtain ⟨rfl,e⟩:=hy
 exact step i x _ Qc (e xs (s.seq ha)) s kc
theorem Jk{i j:Nat}{ta:TA}{D:Ends}{σ:St}{H:Hp}(h:ta σ H fun vs H1=>∃ v w,vs=[v,w]/\D.nx ((σ.set i (some v)).set j (some w)) H1):Hk i j ta D σ H:=h
theorem Jl{F:V->V->Prop}{x y:V}(h:F x y):∃ v w,[x,y]=[v,w]/\F v w:=⟨x,y,rfl,h⟩
theorem aj.new{a:Addr}{H H':Hp}(s:aj H H')(n:H' a=none):H a=none:=by
 match e:H a with
 | none=>rfl
 | some o =>
  rw [s a o e] at n
  cases n
inductive z8(H:Hp):List V->List (List Int)->Prop where
 | nil:z8 H [] []
 | cons {a:Addr} {r:List Int} {xs:List V} {rs:List (List Int)} (h:H a=some (.lst (r.map V.int))) (t:z8 H xs rs):z8 H (.ref a::xs) (r::rs)
end L2
namespace L2
open PySem PySem.Spec PyProof.Rows PySem.Builtin PySem.Builtin.Str
def GP(z:Str):It:=⟨fun i _=>i<z.cps.size,fun i H x H'=>H'=H/\∃ c,z.cps[i]?=some c/\x=.str ⟨#[c]⟩,fun i _=>z.cps.size<=i⟩
theorem uH {P:Program} {w:World} {K:Frag} {tg:Expr} (it:Addr) (z:Str) (t:Tok):Turn P w K tg (GP z) [it] it (fun i h=>h.IsStrIter it "str_ascii_iterator" z t i) where
 mem:=by simp
 obj:=fun i h st b hb=>by
  have e:b=it:=by simpa using hb
  subst e
  obtain ⟨o,e,c,d⟩:=st
  exact⟨o,e,fun v z=>by rw [d] at z;cases z⟩
 keep:=fun i h h' st k=>let ⟨o,ho,r⟩:=st;⟨o,k it (by simp) o ho,r⟩
 item:=by
  intro X hP hw hK hc i pins s σ H E I hf st hg
  subst hP hw hK
  obtain ⟨f0,f1,f2,f3,f4,f5⟩:=hf it (by simp)
  have hi:i<z.cps.size:=hg
  refine wpAny_pyNext_ascii_item st (c:=z.cps[i]) (by simp [hi]) fun h' vQ sb=>?_
  have I1:Inv X pins σ H { s with heap:=h',toks:=s.toks+1 }:=I.turned (fun b o hb e=>(sb.2 b hb).trans e) f0 f1 f3 f4 f5
  obtain ⟨o,e,c,d⟩:=id vQ
  exact⟨_,rfl,qZ (s:={ s with heap:=h',toks:=s.toks+1 }) e c d (by decide) ⟨.str ⟨#[z.cps[i]]⟩,H,I1,⟨_,rfl⟩,⟨rfl,_,by simp [hi],rfl⟩,vQ,fun b hb=>(hf b hb).1⟩⟩
 done:=by
  intro X hP hw hK hc i pins s σ H E I hf st hg
  subst hP hw hK
  obtain ⟨f0,f1,f2,f3,f4,f5⟩:=hf it (by simp)
  have hi:z.cps.size<=i:=hg
  exact wpAny_pyNext_ascii_end (I.ok.hd hc) st (by simp [hi]) fun h' eb=>⟨rfl,I.turned (t':=s.toks) (fun b o hb e=>eb b o hb e) f0 f1 f3 f4 f5⟩
 self:=fun _ _ _ _ _ st h=>wpAny_pyIter_striter_ascii st h
theorem xI {P:Program} {w:World} {K:Frag} {tg:Expr} (it:Addr) (z:Str) (t:Tok):Turn P w K tg (GP z) [it] it (fun i h=>h.IsStrIter it "str_iterator" z t i) where
 mem:=by simp
 obj:=fun i h st b hb=>by
  have e:b=it:=by simpa using hb
  subst e
  obtain ⟨o,e,c,d⟩:=st
  exact⟨o,e,fun v z=>by rw [d] at z;cases z⟩
 keep:=fun i h h' st k=>let ⟨o,ho,r⟩:=st;⟨o,k it (by simp) o ho,r⟩
 item:=by
  intro X hP hw hK hc i pins s σ H E I hf st hg
  subst hP hw hK
  obtain ⟨f0,f1,f2,f3,f4,f5⟩:=hf it (by simp)
  have hi:i<z.cps.size:=hg
  refine wpAny_pyNext_wide_item st (c:=z.cps[i]) (by simp [hi]) fun h' vQ sb=>?_
  have I1:Inv X pins σ H { s with heap:=h',toks:=s.toks+1 }:=I.turned (fun b o hb e=>(sb.2 b hb).trans e) f0 f1 f3 f4 f5
  obtain ⟨o,e,c,d⟩:=id vQ
  exact⟨_,rfl,qZ (s:={ s with heap:=h',toks:=s.toks+1 }) e c d (by decide) ⟨.str ⟨#[z.cps[i]]⟩,H,I1,⟨_,rfl⟩,⟨rfl,_,by simp [hi],rfl⟩,vQ,fun b hb=>(hf b hb).1⟩⟩
 done:=by
  intro X hP hw hK hc i pins s σ H E I hf st hg
  subst hP hw hK
  obtain ⟨f0,f1,f2,f3,f4,f5⟩:=hf it (by simp)
  have hi:z.cps.size<=i:=hg
  exact wpAny_pyNext_wide_end (I.ok.hd hc) st (by simp [hi]) fun h' eb=>⟨rfl,I.turned (t':=s.toks) (fun b o hb e=>eb b o hb e) f0 f1 f3 f4 f5⟩
 self:=fun _ _ _ _ _ st h=>wpAny_pyIter_striter_wide st h
def Fx:V->Hp->(It->Hp->Prop)->Prop:=fun x H R=>∃ z,x=.str z/\R (GP z) H
def Jm(tl:TE):TI:=fun σ H R=>tl σ H fun x H1=>Fx x H1 R
section
variable {X:Cx}
theorem z9{tg l:Expr}{tl:TE}(hl:PE X l tl):PI X tg l (Jm tl):=by
 intro pins s σ H R I h
 refine cx (hl pins s σ H _ I h) fun v s1 ⟨x,H1,I1,r1,q1⟩=>?_
 obtain ⟨z,e,q⟩:=q1
 subst e
 obtain ⟨t,rfl⟩:=r1
 have fp:∀ b∈[s1.heap.objs.size],md X pins H1 b:=fun b hb=>by
  have e:b=s1.heap.objs.size:=by simpa using hb
  subst e
  exact I1.yV (RM _) (I1.bz.fresh (RM _))
 cases ha:z.cps.all (·<128)
 ·exact wpAny_pyIter_wide ha ⟨s1.heap.objs.size,[s1.heap.objs.size],_,_,H1,rfl,I1.kept (t':=s1.toks) fun b o e=>RE _ e,xI _ z t,⟨_,RJ _ rfl,rfl,rfl⟩,fp,q⟩
 ·exact wpAny_pyIter_ascii ha ⟨s1.heap.objs.size,[s1.heap.objs.size],_,_,H1,rfl,I1.kept (t':=s1.toks) fun b o e=>RE _ e,uH _ z t,⟨_,RJ _ rfl,rfl,rfl⟩,fp,q⟩
def Jn:V->Option Int->Option Int->Hp->VK->Prop:=fun x lo hi H Q=>∃ z,x=.str z/\z.length<=sizeLine/\Q (.str (Txt.slice z lo hi)) H
theorem part_of{v:Value}{o:Option Int}(h:IsPart v o):∃ l:Option (Int×Tok),v=partValue l/\o=l.map (·.1):=by
 cases h with
 | none=>exact⟨none,rfl,rfl⟩
 | int i t=>exact⟨some (i,t),rfl,rfl⟩
theorem b8:J5 X Jn:=by
 intro pins s σ H x v vl vu lo hi sl Q I rx hs pl pu h
 obtain ⟨z,rfl,hz,q⟩:=h
 obtain ⟨t,rfl⟩:=rx
 obtain ⟨l,rfl,rfl⟩:=part_of pl
 obtain ⟨u,rfl,rfl⟩:=part_of pu
 refine⟨"str",_,F.slot_str_getitem.lookup,typeIs_str _ _ _,wpAny_getItem_str_slice (l:=l) (u:=u) (st:=none) hs rfl ?_⟩
 exact post_val_or_str ⟨RL (Txt.slice_le z _ _) hz,fun t' k=>⟨.str _,H,I.tok _,⟨_,rfl⟩,q⟩⟩
theorem nX:∀ (zs:List Str) (k:Nat),Vals (zs.map V.str) (strsFrom k zs)
 | [],_=>.nil
 | z::zs,k=>.cons ⟨_,rfl⟩ (nX zs (k+1))
def Aa:V->List V->Hp->VK->Prop:=fun x xs H Q=>∃ z y,x=.str z/\xs=[.str y]/\y.length≠0/\z.length<=2000/\(Txt.split z y).length<=2000/\∀ p,H p=none->Q (.ref p) (upd H p (.lst ((Txt.split z y).map V.str)))
theorem bg{n:Nat}(h:n<=2000):n<=sizeLine:=RL h (by decide)
theorem rY:GL X "str.split" Aa:=by
 intro pins s σ H x xs v us Q I rx rs h
 obtain ⟨z,y,rfl,rfl,hy,hz,hn,q⟩:=h
 obtain ⟨t,rfl⟩:=rx
 obtain ⟨u,rfl,t',rfl⟩:=vals1 rs
 have GN:(y.length == 0)=false:=by simpa using hy
 have uI:z.length<=sizeLine:=bg (by lia)
 have fin:∀ (k:Nat) (its:List Value),Vals ((Txt.split z y).map V.str) its->EP X pins σ Q (.ref s.heap.objs.size) { s with toks:=k,heap:=s.heap.push { cls:=.type "list",data:=.seq its.toArray } }:=fun k its r =>
  ⟨.ref s.heap.objs.size,_,I.laid (t':=k) (o:=.lst ((Txt.split z y).map V.str)) (fun b ob q=>RE _ q) (RM _) ⟨by rw [R9];exact bg hn,_,0,r,RJ _ rfl⟩,rfl,q _ (I.bz.fresh (RM _))⟩
 cases h1:(decide (z.length<y.length) || decide (Builtin.Str.strKind z<Builtin.Str.strKind y))
 ·cases hf:(occurrences z y 0 z.length (z.length+1)).isEmpty
  ·have e:Txt.split z y=partsBetween z (occurrences z y 0 z.length (z.length+1)) y.length:=(if_neg (ne_true_of_eq_false h1)).trans (if_neg (ne_true_of_eq_false hf))
   refine call_meets F.slot_str_split (typeIs_str _ _ _) F.entry_str_split (F.args_str_split_2 _ _) (meets_str_split_sep z y t t' h1 GN hf uI (by rw [<- e];exact bg hn)) ?_
   rw [<- e]
   exact fin _ _ (nX _ _)
  ·have e:Txt.split z y=[z]:=(if_neg (ne_true_of_eq_false h1)).trans (if_pos hf)
   refine call_meets F.slot_str_split (typeIs_str _ _ _) F.entry_str_split (F.args_str_split_2 _ _) (meets_str_split_not_found z y t t' h1 GN hf) ?_
   exact fin s.toks [.str z t] (by rw [e];exact .cons ⟨_,rfl⟩ .nil)
 ·have e:Txt.split z y=[z]:=if_pos h1
  refine call_meets F.slot_str_split (typeIs_str _ _ _) F.entry_str_split (F.args_str_split_2 _ _) (meets_str_split_cannot_occur z y t t' h1) ?_
  exact fin s.toks [.str z t] (by rw [e];exact .cons ⟨_,rfl⟩ .nil)
def Dt:List V->Hp->VK->Prop:=fun xs H Q=>∃ z n,xs=[.str z]/\PySem.intText? z=some n/\z.length<=640/\Q (.int n) H
theorem jr:bQ X (.type "int") Dt:=by
 intro pins s σ H xs us Q I r h
 obtain ⟨z,n,rfl,hn,hl,q⟩:=h
 obtain ⟨u,rfl,t,rfl⟩:=vals1 r
 exact PySem.W.KIN.call_text hn hl ⟨.int n,H,I.tok _,⟨_,rfl⟩,q⟩
def Du:List V->Hp->VK->Prop:=fun xs H Q=>∃ i,xs=[.int i]/\i.natAbs.log2<1920/\Q (.str (toString i)) H
theorem nY:bQ X (.type "str") Du:=ov
def Dv:List V->Hp->VK->Prop:=fun xs H Q=>∃ z,xs=[.str z]/\z.length<=sizeLine/\Q (.int z.length) H
theorem bh:bQ X (.builtin "len") Dv:=oC
def Ab:R2:=fun x y H Q=>∃ i j,x=.str i/\y=.str j/\i.length+j.length<=sizeLine/\Q (.str (i++j)) H
theorem aX:gD X (binaryOp .Add) Ab:=uh
def Jo:R2:=fun x y H Q=>∃ i j,x=.str i/\y=.str j/\Q (.bl (!(occurrences j i 0 j.length 1).isEmpty)) H
theorem Fy:gD X (compareOp .In) Jo:=xc
def wA:R2:=fun x y H Q=>∃ i j,x=.str i/\y=.str j/\Q (.bl (!(!(occurrences j i 0 j.length 1).isEmpty))) H
theorem js:gD X (compareOp .NotIn) wA:=oA
end
section
variable {D:Ends}{σ:St}{H:Hp}{te:TE}{g:TG}{Q:VK}{z y:Str}{K:Frag}
theorem Fz{R:It->Hp->Prop}(h:te σ H fun x H1=>Fx x H1 R):Jm te σ H R:=h
theorem Jp{R:It->Hp->Prop}(h:R (GP z) H):Fx (.str z) H R:=⟨z,rfl,h⟩
theorem Jq{lo hi:Option Int}(hz:z.length<=sizeLine)(h:Q (.str (Txt.slice z lo hi)) H):Jn (.str z) lo hi H Q:=⟨z,rfl,hz,h⟩
theorem wB(hy:y.length≠0)(hz:z.length<=2000)(hn:(Txt.split z y).length<=2000)(h:∀ p H2,H p=none->aj H H2->H2 p=some (.lst ((Txt.split z y).map V.str))->Q (.ref p) H2):Aa (.str z) [.str y] H Q:=⟨z,y,rfl,rfl,hy,hz,hn,fun p hp=>h p _ hp (aj.cC hp) aH⟩
theorem uJ{n:Int}(hn:PySem.intText? z=some n)(hl:z.length<=640)(h:Q (.int n) H):Dt [.str z] H Q:=⟨z,n,rfl,hn,hl,h⟩
theorem Ac{i:Int}(hi:i.natAbs.log2<1920)(h:Q (.str (toString i)) H):Du [.int i] H Q:=⟨i,rfl,hi,h⟩
theorem FA(hz:z.length<=sizeLine)(h:Q (.int z.length) H):Dv [.str z] H Q:=⟨z,rfl,hz,h⟩
theorem hJ(hz:z.length+y.length<=sizeLine)(h:Q (.str (z++y)) H):Ab (.str z) (.str y) H Q:=⟨z,y,rfl,rfl,hz,h⟩
theorem Jr(h:Q (.bl (!(occurrences y z 0 y.length 1).isEmpty)) H):Jo (.str z) (.str y) H Q:=⟨z,y,rfl,rfl,h⟩
theorem Ad(h:Q (.bl (!(!(occurrences y z 0 y.length 1).isEmpty))) H):wA (.str z) (.str y) H Q:=⟨z,y,rfl,rfl,h⟩
theorem jV{i:Int}{c:Nat}(hz:z.length<=sizeLine)(h1:rj z.cps.toList i=some c)(h:Q (.str ⟨#[c]⟩) H):BI (.str z) (.int i) H Q:=⟨z,i,c,rfl,rfl,hz,h1,h⟩
theorem FC{tb:TS}(Pv:Nat->St->Hp->Prop)(h0:Pv 0 σ H)(hs:∀ (i c:Nat) σ H2,z.cps[i]?=some c->Pv i σ H2->g (.str ⟨#[c]⟩) σ H2 fun σ2 H4=>tb { D with nx:=Pv (i+1),ct:=Pv (i+1),bk:=D.nx } σ2 H4)(hd:∀ σ H2,Pv z.cps.size σ H2->D.nx σ H2):dv g tb D (GP z) σ H :=
 zX z.cps.size Pv h0 (fun i σ H2 hi p=>hi) (fun σ H2 p=>RM _) (fun i x σ H2 H3 hi p hy=>by obtain ⟨rfl,c,hc,rfl⟩:=hy;exact hs i c σ _ hc p) hd
theorem Ae{ix:List (Option Nat)}(fr:St)(f:Nat->V)(oF:pick ix σ=none::fr)(hn:z.length<=1000)
  (step:∀ (i c:Nat) (H':Hp) (Qc:VK),z.cps[i]?=some c->aj H H'->(∀ H5,aj H' H5->Qc (f i) H5)->te (some (.str ⟨#[c]⟩)::fr) H' Qc)
  (hQ:∀ l H',H l=none->aj H H'->H' l=some (.lst ((List.range z.cps.size).map f))->Q (.ref l) H'):bS ix (c7 0) (fun _ H Q=>Q true H) te σ Q (GP z) H :=
 fT fr z.cps.size f oF (RL hn (by decide)) (fun _ _=>RM _) (fun i _ hi _=>hi) (fun i x H' H2 Qc hi hs hy kc=>by obtain ⟨rfl,c,hc,rfl⟩:=hy;exact step i c _ Qc hc hs kc) hQ
end
def Dw(tc:TE)(r':R2)(y:V)(σ:St)(Q:VK):VK:=fun z H3=>∃ k,z=.bl k/\(if k=true then tc σ H3 fun w' H4=>r' y w' H4 Q else Q (.bl false) H3)
theorem Ck{r r':R2}{ta tb tc:TE}{σ:St}{H:Hp}{Q:VK}(h:ta σ H fun x H1=>tb σ H1 fun y H2=>r x y H2 (Dw tc r' y σ Q)):y4 r r' ta tb tc σ H Q:=h
theorem FD{r':R2}{tc:TE}{y:V}{σ:St}{H:Hp}{Q:VK}{k:Bool}(h:if k=true then tc σ H fun w' H4=>r' y w' H4 Q else Q (.bl false) H):Dw tc r' y σ Q (.bl k) H:=⟨k,rfl,h⟩
open PySem PySem.Spec PyProof.Rows
section
variable {Q:VK}{H:Hp}{z y:Str}
theorem Js:decide (V.str z=V.str y)=decide (z=y):=by
 rw [Bool.eq_iff_iff];simp
theorem Jt(h:Q (.bl (decide (z=y))) H):KD (.str z) (.str y) H Q:=⟨rfl,by rw [Js];exact h⟩
theorem Ju(h:Q (.bl (!decide (z=y))) H):KG (.str z) (.str y) H Q:=⟨rfl,by rw [Js];exact h⟩
end
def Jv:Expr->Option V
 | .Constant (.int i) _ _=>some (.int i)
 | .Constant (.str s) _ _=>some (.str s)
 | _=>none
def wC:List Expr->Option (List V)
 | []=>some []
 | e::es=>match Jv e,wC es with
  | some v,some vs=>some (v::vs)
  | _,_=>none
def rZ:List V->TA
 | []=>D5
 | v::vs=>y9 (tC v) (rZ vs)
theorem pj{X:Cx}:∀ {es:List Expr} {vs:List V},wC es=some vs->PA X es (rZ vs)
 | [],vs,h=>by cases h;exact ag
 | e::es,vs,h=>by
  unfold wC at h
  split at h
  ·rename_i v ws h1 h2
   cases h
   unfold Jv at h1
   split at h1
   ·cases h1;exact aa ah (pj h2)
   ·cases h1;exact aa aC (pj h2)
   ·cases h1
  ·cases h
theorem iS{X:Cx}{es:List Expr}{vs:List V}{pos:Pos}(h:wC es=some vs):PE X (.List es pos) (BC (rZ vs)):=bK (pj h)
theorem nZ{σ:St}{H:Hp}:∀ {vs:List V} {Q:List V->Hp->Prop},Q vs H->rZ vs σ H Q
 | [],_,h=>h
 | v::vs,Q,h=>nZ (vs:=vs) (Q:=fun xs H2=>Q (v::xs) H2) h
theorem FE{σ:St}{H:Hp}{Q:VK}{vs:List V}(hl:vs.length<=1000)(h:∀ p H2,H p=none->aj H H2->H2 p=some (.lst vs)->Q (.ref p) H2):BC (rZ vs) σ H Q :=
 nZ (vs:=vs) (zI hl h)
theorem Jw{α:Type}{xs:List α}{n:Nat}(h:xs.length=n){i:Int}(h0:0<=i)(h1:i<n):∃ c,rj xs i=some c:=by
 obtain ⟨j,rfl⟩:=eq_ofNat_of_zero_le h0
 have hj:j<xs.length:=by lia
 exact⟨_,bM (R3 hj)⟩
theorem cg{Q:VK}{H:Hp}{z y:Str}{a b:Nat}(hz:z.length<=a)(hy:y.length<=b)(LL:a+b<=2000)(h:∀ x:Str,x=z++y->x.length<=a+b->Q (.str x) H):Ab (.str z) (.str y) H Q:=hJ (bg (by lia)) (h _ rfl (by rw [PySem.strLen_append];lia))
end L2
namespace L2
open PySem PySem.Spec PyProof.Rows PySem.W
abbrev TH:=Addr->Ends->St->Hp->Prop
def Af(tb:l6->TS)(r:TH):TS:=fun D σ H=>tb (fun C σ' H'=>r C D σ' H') D σ H
section
variable {K:Frag}{D:Ends}{σ:St}{H:Hp}
theorem FF{tb:l6->TS}{r:TH}(h:tb (fun C σ' H'=>r C D σ' H') D σ H):Af tb r D σ H:=h
end
end L2
namespace L2
open PySem PySem.Spec PySem.W PyProof.Rows
def lk(r:List Int):Int:=r.foldl (fun k a=>k*4000001+a) 0
end L2
namespace L2
open PySem PySem.Spec PyProof.Rows PySem.W
section
variable {K:Frag}{g:TG}{D:Ends}{σ:St}{H:Hp}
theorem Jx{Q:VK}{l:Addr}{xs:List V}{y:V}(e:H l=some (.lst (xs++[y])))(h:Q y (upd H l (.lst xs))):HI (.ref l) [] H Q:=by
 refine⟨l,xs++[y],y,rfl,rfl,e,?_,?_⟩
 ·simp
 ·simpa using h
end
end L2
namespace L2
open PySem PySem.Spec PyProof.Rows PySem.W
theorem iT:∀ {zs:List Str} {its:List Value},Vals (zs.map V.str) its->∃ l:List (Str×Tok),strValues l=its/\l.map (·.1)=zs
 | [],_,h=>by cases h;exact⟨[],rfl,rfl⟩
 | z::zs,_,h=>by
  cases h with
  | cons r h =>
   obtain ⟨t,rfl⟩:=r
   obtain ⟨l,e1,e2⟩:=iT h
   exact⟨(z,t)::l,by rw [<- e1];rfl,by rw [<- e2];rfl⟩
def Ag:V->List V->Hp->VK->Prop:=fun x xs H Q=>∃ y l zs,x=.str y/\xs=[.ref l]/\H l=some (.lst (zs.map V.str))/\y.length<=1/\((zs.map (·.length)).sum+zs.length<=100000)/\Q (.str (Str.join y zs)) H
theorem r6 {X:Cx}:GL X "str.join" Ag:=by
 intro pins s σ H x xs v us Q I rx rs h
 obtain ⟨y,l,zs,rfl,rfl,hl,hy,hw,q⟩:=h
 obtain ⟨t,rfl⟩:=rx
 obtain ⟨u,rfl,ru⟩:=vals1 rs
 cases ru
 obtain ⟨z,its,n,r,e⟩:=(show b6 X.prog X.w H s.heap l (.lst (zs.map V.str)) from I.bz l _ hl)
 obtain ⟨ps,e1,e2⟩:=iT r
 subst e1
 refine SC.join (l:=ps) ⟨_,e,rfl,n,rfl⟩ e2 (joinOk_of_weight (by lia) (by lia)) fun t' k=>?_
 have ej:Txt.join y zs=Str.join y zs:=eq_of_beq (join_closes (ys:=zs) (rfl:y=y))
 rw [ej]
 exact⟨.str _,H,I.tok _,⟨_,rfl⟩,q⟩
section
variable {X:Cx}{p1 p2 Pu Pw:Pos}{e:Expr}{t:TE}
variable {σ:St}{H:Hp}{Q:VK}
theorem wD{y:Str}{l:Addr}{zs:List Str}(hl:H l=some (.lst (zs.map V.str)))(hy:y.length<=1)(hw:(zs.map (·.length)).sum+zs.length<=100000)(h:Q (.str (Str.join y zs)) H):Ag (.str y) [.ref l] H Q:=⟨y,l,zs,rfl,rfl,hl,hy,hw,h⟩
end
end L2
namespace L2
open PySem PySem.Spec PyProof.Rows PySem.W
def wF:V->List V->Hp->VK->Prop:=fun x xs H Q=>∃ (z:Str) (c:Nat),x=.str z/\xs=[.str ⟨#[c]⟩]/\Q (.int (cnt c z.cps.toList)) H
theorem xJ(z:Str)(c:Nat):((Builtin.Str.occurrences z ⟨#[c]⟩ 0 z.length (z.length+1)).length:Int)=cnt c z.cps.toList:=by
 have h:=count_is z c
 unfold Txt.count at h
 exact h
theorem xK {X:Cx}:GL X "str.count" wF:=by
 intro pins s σ H x xs v us Q I rx rs h
 obtain ⟨z,c,rfl,rfl,q⟩:=h
 obtain ⟨t,rfl⟩:=rx
 obtain ⟨u,rfl,t',rfl⟩:=vals1 rs
 rw [<- xJ] at q
 exact call_gives F.slot_str_count (typeIs_str _ _ _) F.entry_str_count (F.args_str_count_2 _ _) (gives_str_count z ⟨#[c]⟩ t t') ⟨.int _,H,I.tok _,⟨_,rfl⟩,q⟩
theorem Ah{z:Str}{c:Nat}{H:Hp}{Q:VK}(h:Q (.int (cnt c z.cps.toList)) H):wF (.str z) [.str ⟨#[c]⟩] H Q:=⟨z,c,rfl,rfl,h⟩
namespace Px
def up(ts:List Nat)(a:Int)(u:Nat->Int):Nat->Int:=fun x=>if x∈ts then u x+a else u x
section
variable {n:Nat}{W:Nat->Nat->Int}{u v:Nat->Int}{g c:Nat->Option Nat}{first:Nat}{ts:List Nat}{os:List (Nat×Nat)}
def st(f:Nat->Option Nat)(i:Nat)(x:Option Nat):Nat->Option Nat:=fun k=>if k=i then x else f k
end
end Px
end L2
namespace L2
open PySem PySem.Spec PyProof.Rows
section
variable {K:Frag}{H:Hp}{σ:St}{Q:VK}{ix:List (Option Nat)}
theorem Jy{l:Addr}{xs:List V}{n:Nat}(e:H l=some (.lst xs))(hn:xs.length*n<=1000)(h:∀ p H2,H p=none->aj H H2->H2 p=some (.lst (List.replicate n xs).flatten)->Q (.ref p) H2)(h1:n<=1000):HL (.ref l) (.int (n:Int)) H Q :=
 ⟨l,(n:Int),xs,rfl,rfl,e,by lia,by lia,RL (by rw [Su];exact hn) (by decide),fun p hp=>h p _ hp (aj.cC hp) (by rw [Su];exact aH)⟩
end
inductive LM(K:Frag)(H:Hp):List V->List (Nat×List Int)->Prop where
 | nil:LM K H [] []
 | cons {q a:Addr} {p:Nat} {r:List Int} {xs:List V} {ps:List (Nat×List Int)} (h:aT K H q [.int (p:Int),.ref a]) (hr:aT K H a (r.map V.int)) (t:LM K H xs ps):LM K H (.ref q::xs) ((p,r)::ps)
inductive LN(K:Frag)(H:Hp):List V->List (List Int×Bool)->Prop where
 | nil:LN K H [] []
 | cons {q a:Addr} {b:Bool} {r:List Int} {xs:List V} {ps:List (List Int×Bool)} (h:aT K H q [.ref a,.bl b]) (hr:aT K H a (r.map V.int)) (t:LN K H xs ps):LN K H (.ref q::xs) ((r,b)::ps)
def del(H:Hp)(c:Addr):Hp:=fun b=>if b=c then none else H b
end L2
namespace L2
open PySem PySem.Spec PyProof.Rows PySem.W
open PySem PySem.Spec PyProof.Rows
def fL(K:Frag)(n:Str)(st:Stmt):Prop:=∃ (f:Addr) (fd:FuncData),C4 K n n st f fd/\nsIn K mainGlobals n=some (some (.ref f))
theorem FG{K:Frag}{n:Str}{st:Stmt}{f:Addr}{oc:Value}{od an:Option Addr}{sl:Array (Option Value)}{kV dc pm cd ct:Value}(a:nsIn K mainGlobals n=some (some (.ref f)))(l:K.lookup f=some ⟨oc,od,.func (PySem.W.fnOf n n (dQ st) (cc st) (ar st) .none kV dc pm an cd ct),sl⟩)(c:PySem.W.codeIn K cd n=true)(k:PySem.W.keepIn K (.ref f)=true):fL K n st:=⟨f,_,zk l c k,a⟩
theorem fL.df{K:Frag}{n:Str}{st:Stmt}{mg:Str->Option Value}{h:Heap}{ps:List Str}(q:fL K n st)(X:K.In h)(G0:h.Ns mainGlobals mg)
  (b:∀ (kV doc pm:Value) (an:Option Addr) (bE ct:Value) (us:List Value),us.length=ps.length->bindArgs (PySem.W.fnOf n n (dQ st) (cc st) (ar st) .none kV doc pm an bE ct) ⟨us,[]⟩=pure (ps.zip us)):Def K mg n st ps :=
 let ⟨f,fd,F,a⟩:=q
 ⟨f,fd,F,mg_of X G0 a,F.binds b⟩
section
variable {K:Frag}{H H' H2:Hp}{o:Addr}
theorem Cm{α:Type}{xs:List α}{x:α}:rj (xs++[x]) (-1)=some x:=by
 unfold rj Eb
 rw [if_neg (by decide),if_pos (by rw [Sa];show -((xs.length+1:Nat):Int)<=-1;lia)]
 show (xs++[x])[_]?=_
 rw [show ((-1:Int)+((xs++[x]).length:Int)).toNat=xs.length by rw [Sa];show (-1+((xs.length+1:Nat):Int)).toNat=_;lia]
 simp
end
end L2
namespace L2
open PySem PySem.Spec PyProof.Rows PySem.W PyProof
theorem mz:entryFor table "proto.unchain"=some Builtin.«proto.unchain»:=entryFor_of_fast (by kernel_rfl)
section
variable {prog:Program}{w:World}{A:Around}{E:Value->Shared->Prop}{env:Env}
variable {nm q:Str}{C N:Addr}{bs bm:List Value}{hdct:Bool}{sn:List Str}{sub:List Value}{ab:Bool}{col:Option Bool}{dd:Option Addr}{k0 k1 k2 k3 k5:Option Value}{newId:String}
theorem uK {s:Shared} {x c:Sem Value} {Q:Flow->Shared->Prop} {a:Addr} (kG:bm.contains (.type "BaseException")=true) (hh:A.handled=some (.ref a))
  (h:wpAny (model prog w) A x (fun v s₁=>∃ e t oa va,v=.ref e/\s₁.heap.get? C=some (excClassObj nm q C N bs bm hdct sn sub ab col dd k0 k1 k2 k3 k5 newId) /\
   s₁.heap.get? e=some { cls:=.ref C,data:=.fields #[.ref t,.none,.none,.none,.bool false,.none] }/\s₁.heap.get? a=some oa/\oa.data=.fields va/\va[2]?=some .none/\a≠e/\C≠e /\
   (∀ Q',Q' Value.none s₁->wpAny (model prog w) A c Q' E s₁)/\∀ h',(∀ b,b≠e->h'.get? b=s₁.heap.get? b)->h'.get? e=some { cls:=.ref C,data:=.fields #[.ref t,.none,.ref a,.none,.bool true,.none] }->E (.ref e) { s₁ with heap:=h' }) E s) :
  wpAny (model prog w) A (raiseStmt env (some x) (some c)) Q E s:=by
 have Py:(Value.ref C::bm).contains (.type "BaseException")=true:=by rw [List.contains_cons,kG,Bool.or_true]
 unfold raiseStmt
 refine RF (RZ h (fun v s₁ h₁=>?_) fun _ _ x=>x)
 obtain ⟨e,t,oa,va,rfl,hC,he,ha,LO,h2,Kb,Rc,hc,hE⟩:=h₁
 obtain ⟨hp,g,d,tk,os⟩:=s₁
 refine RF (wpAny_holding (hc _ ?_))
 refine RF (RY ?_)
 repeat (first|with_reducible refine wpAny_loadPart_at he ?_|with_reducible refine wpAny_loadPart_at hC ?_|(with_reducible refine wpAny_isSubtype_exc hC ?_;rw [Py])|wp_step)
 have Dh:hp.get? e=some { cls:=.ref C,data:=.fields #[.ref t,.none,.none,.none,.bool false,.none] }:=he
 have Pz:=Heap.get?_update_self (Obj.mapFields fun x=>x.setIfInBounds 3 Value.none) Dh (Obj.isFreed_of_fields (Obj.data_mapFields rfl _))
 have LP:=Heap.get?_update_self (Obj.mapFields fun x=>x.setIfInBounds 4 (Value.bool true)) Pz (Obj.isFreed_of_fields (Obj.data_mapFields (Obj.data_mapFields rfl _) _))
 have ho:∀ b,b≠e->((hp.update e (Obj.mapFields fun x=>x.setIfInBounds 3 Value.none)).update e (Obj.mapFields fun x=>x.setIfInBounds 4 (Value.bool true))).get? b=hp.get? b:=fun b hb=>by
  rw [Heap.get?_update_other _ _ (Ne.symm hb),Heap.get?_update_other _ _ (Ne.symm hb)]
 generalize (hp.update e (Obj.mapFields fun x=>x.setIfInBounds 3 Value.none)).update e (Obj.mapFields fun x=>x.setIfInBounds 4 (Value.bool true))=Kc at LP ho ⊢
 have LQ:Kc.get? a=some oa:=(ho a Kb).trans ha
 unfold raiseNew
 refine RF (wpAny_handled ?_)
 rw [hh]
 dsimp only
 rw [if_pos (by simpa using Kb)]
 refine RF (wpAny_holding (runValue_entry (id:="proto.unchain") (b:=Builtin.«proto.unchain») mz ?_))
 unfold Builtin.«proto.unchain»
 refine RF (wpAny_field LQ LO h2 ?_)
 rw [if_pos (by decide)]
 repeat (first|wp_step)
 refine⟨_,rfl,?_⟩
 repeat (first|with_reducible refine wpAny_loadPart_at LP ?_|wp_step)
 refine hE _ (fun b hb=>?_) ?_
 ·exact (Heap.get?_update_other _ _ (Ne.symm hb)).trans (ho b hb)
 ·exact Heap.get?_update_self _ LP (Obj.isFreed_of_fields (Obj.data_mapFields rfl _))
end
section
variable {X:Cx}{EX:l6}{σ:St}{H:Hp}{s:Shared}
theorem uL{m:Option Value}(fJ:X.stack=X.env::X.outer)(ja:X.env.frame=some X.env.locals)(hex:X.ex=[]):PassesOwnAt (model X.prog X.w) (X.A.mark m) X.A X.env (XP X EX):=by
 rintro e s' (h|h)
 ·obtain ⟨a,C,σ',H',rfl,I0,⟨oe,vs,T0,he,hc,qS,hd,fN,hh,k8,⟨qT,uA⟩,qU⟩,hE⟩:=h
  have Fb:X.w6.A.frames=some (X.env::X.outer):=by rw [<- fJ];exact I0.ok.frames
  refine rS (base:=X.base) (L:=X.env.locals) Fb (fJ ▸ I0.stack) ja he hd hh fun h1 T k1 k2 k3 k4 k5 k6=>?_
  obtain ⟨n1,n2,n3⟩:=I0.fX he hd
  have t1:∀ T',T0=some T'->∃ oT ts,s'.heap.get? T'=some oT/\oT.data=.fields ts:=fun T' z=>by
   subst z
   obtain ⟨_,_,oT,ts,q1,q2,_⟩:=hh
   exact⟨oT,ts,q1,q2⟩
  have uB:∀ b,b∈i8 (X.env::X.outer)->b=X.env.locals\/b∈X.fs:=fun b hb=>by
   rcases Sd.mp (I0.fP b (fJ ▸ hb)) with z|z
   ·exact .inl z
   ·exact .inr z
  have off:Off (a::(T0.toList++i8 (X.env::X.outer))) s'.heap h1:=fun b o hb q=>by
   simp only [Sd,R7,not_or] at hb
   exact k1 b o hb.1 (fun z=>hb.2.1 (by rw [<- z];simp)) hb.2.2 q
  have uC:dO X.prog X.w H' h1:=I0.bz.off (fun b hb=>by
   simp only [Sd,R7] at hb
   rcases hb with rfl|hb|hb
   ·exact k8
   ·cases T0 with
    | none=>simp at hb
    | some T1 =>
     simp only [Option.toList_some,R6] at hb
     rw [hb];exact (qU T1 rfl).1
   ·exact I0.eS b (fJ ▸ hb)) off
  have jo:∀ b,b∉(a::T0.toList)->b≠a/\some b≠T0:=fun b hb=>by
   simp only [Sd,not_or] at hb
   exact⟨hb.1,fun z=>hb.2 (by rw [<- z];simp)⟩
  have I2:Inv X.w6 [] σ' H' { s' with heap:=h1 }:=by
   refine I0.jU (h':=h1) (t':=s'.toks) (ch:=a::T0.toList) (fun b hb=>?_) (fun b o b1 b2 b3 e _=>?_) (fun b o b1 b2 b3 e _=>?_) (fun b o _ _ n=>n) (fun b o b3 e=>?_) (fun b xs e=>e) (fun b o u e=>e) (fun b ps e=>⟨#[],by rw [e];simp⟩) (fun m hm=>?_) uC
   ·rcases Sd.mp hb with rfl|hb
    ·exact⟨qT,n1,n2,fun p hp=>uA p (by simpa using hp)⟩
    ·cases T0 with
     | none=>simp at hb
     | some T1 =>
      simp only [Option.toList_some,R6] at hb
      subst hb
      obtain ⟨oT,ts,q1,q2⟩:=t1 _ rfl
      obtain ⟨m1,m2,m3⟩:=I0.fX q1 q2
      exact⟨(qU _ rfl).2.1,m1,m2,fun p hp=>(qU _ rfl).2.2 p (by simpa using hp)⟩
   ·refine k1 b o (jo b b3).1 (jo b b3).2 (fun z=>?_) e
    rcases uB b z with q|q
    ·exact b1 q
    ·exact b2 q
   ·exact k2 b o (jo b b3).1 (jo b b3).2 e
   ·obtain ⟨sl,q⟩:=k2 b o (jo b b3).1 (jo b b3).2 e
    exact⟨_,q⟩
   ·obtain ⟨o,es,ep,ho,uc,r⟩:=hm
    obtain ⟨sl,q⟩:=k2 _ o (fun z=>n1 z.symm) (fun z=>by
     obtain ⟨oT,ts,q1,q2⟩:=t1 _ z.symm
     exact (I0.fX q1 q2).1 rfl) ho
    exact⟨_,es,ep,q,uc,r⟩
  have T2:H' T=none:=I0.bz.free k3
  have T3:X.s₀.heap.get? T=none:=by
   cases q:X.s₀.heap.get? T with
   | none=>rfl
   | some o =>
    obtain ⟨o',q1⟩:=I0.base.there T o q (by show T∉X.ex;rw [hex];simp)
    rw [k3] at q1;cases q1
  have T4:∀ p∈X.pn,p.1≠T:=fun p hp z=>by
   have:=(I0.pin p (R5 _ hp)).1
   rw [z,k3] at this;cases this
  obtain ⟨oT,ts,Jg,zu,LK⟩:=k6
  have Fp:=Obj.data_mapFields hd (·.setIfInBounds 1 (Value.ref T))
  have Fq:(vs.setIfInBounds 1 (Value.ref T))[1]?=some (.ref T):=by simp [fN.1]
  unfold cameBackBy
  refine RF (wpAny_field k5 Fp Fq ?_)
  rw [if_neg (by simp)]
  rw [ja]
  refine eN k5 Fp Fq Jg zu (Array.getElem?_eq_some_iff.mp LK).1 fun h2 f1 f2=>.inr ?_
  obtain ⟨Fs,Ft,q1,q2,q3⟩:=f2
  refine⟨a,C,σ',H',rfl,Inv.mark (s:={ s' with heap:=h1 }) I2 Jg zu T2 T3 T4 f1 ⟨_,q1⟩,⟨_,_,T,Fs,Ft,f1 _ _ (Ne.symm k4) k5,(Obj.cls_mapFields _ _).trans hc,(b7 _ _).trans qS,Fp,fN.set,Fq,k4,q1,q2,q3,k8,⟨qT,uA⟩,T2,T3,T4⟩,hE⟩
 ·obtain ⟨a,C,σ',H',rfl,I0,⟨oe,vs,T,oT,ts,he,hc,qS,hd,fN,h1,Dp,hT,gS,h3,k8,⟨qT,uA⟩,T2,T3,T4⟩,hE⟩:=h
  refine ph ja he hd h1 hT gS h3 ?_
  unfold cameBackBy
  refine RF (wpAny_field he hd h1 ?_)
  rw [if_neg (by simp)]
  rw [ja]
  refine eN he hd h1 hT gS (Array.getElem?_eq_some_iff.mp h3).1 fun h2 f1 f2=>.inr ?_
  obtain ⟨Fs,Ft,q1,q2,q3⟩:=f2
  exact⟨a,C,σ',H',rfl,Inv.mark I0 hT gS T2 T3 T4 f1 ⟨_,q1⟩,⟨oe,vs,T,Fs,Ft,f1 _ _ (Ne.symm Dp) he,hc,qS,hd,fN,h1,Dp,q1,q2,q3,k8,⟨qT,uA⟩,T2,T3,T4⟩,hE⟩
end
section
variable {prog:Program}{w:World}{A:Around}{E:Value->Shared->Prop}{s:Shared}{env:Env}
variable {nm q:Str}{C N:Addr}{bs bm GO:List Value}{hdct:Bool}{sn:List Str}{sub:List Value}{ab:Bool}{col:Option Bool}{dd:Option Addr}{k0 k1 k2 k3 k5:Option Value}{B Bn newId E5 g6 E6:String}{E7:List Value}
theorem j5(Fn:ExcBaseFacts Bn newId E6 E7)(E8:GO.contains (.type Bn)=true)(F:ExcBaseFacts B E5 g6 GO){mN:Str->Option Value}{x:Str}{np c8 pos kp:Pos}{kn:Nat}{args:List Expr}{Q:Flow->Shared->Prop}{a:Addr}
  (kG:bm.contains (.type "BaseException")=true) (hh:A.handled=some (.ref a)) (uo:(backTo c8 (starEach args env)).any (·.1)=false) (Dm:mN "__init__"=none)
  (h:wpAny (model prog w) A (eval (.Name x np) env) (fun f s₁=>f=.ref C/\wpAny (model prog w) A (evalArgs (.ref C) true (backTo c8 (starEach args env)) [])
   (fun av s₂=>av.kw=[]/\av.pos.length<=sizeLine/\s₂.heap.get? C=some (excClassObj nm q C N bs bm hdct sn sub ab col dd k0 k1 k2 k3 k5 newId)/\s₂.heap.Ns N mN/\OwnTail s₂.heap GO bm /\
    (∃ oa va,s₂.heap.get? a=some oa/\oa.data=.fields va/\va[2]?=some .none) /\
    ∀ h1 e t h',Heap.MadeExcOf s₂.heap h1 e (.ref C) av.pos->(∀ b,b≠e->h'.get? b=h1.get? b)->h'.get? e=some { cls:=.ref C,data:=.fields #[.ref t,.none,.ref a,.none,.bool true,.none] }->E (.ref e) { s₂ with heap:=h' }) E s₁) E s) :
  wpAny (model prog w) A (exec (.Raise (some (.Call (.Name x np) args [] c8)) (some (.Constant .none kn kp)) pos) env) Q E s:=by
 rw [arm_exec_Raise]
 refine RF (wpAny_standAt (uK (C:=C) (nm:=nm) (q:=q) (N:=N) (bs:=bs) (bm:=bm) (hdct:=hdct) (sn:=sn) (sub:=sub) (ab:=ab) (col:=col) (dd:=dd) (k0:=k0) (k1:=k1) (k2:=k2) (k3:=k3) (k5:=k5) (newId:=newId) kG hh ?_))
 refine RF (RZ (wpAny_Call_ofName (RZ h (fun f s₁ h₁=>?_) fun _ _ x=>x)) (fun v s₃ h₃=>RF (wpAny_standAt (RY h₃))) fun _ _ x=>x)
 obtain ⟨rfl,h₁⟩:=h₁
 unfold callWith
 refine RF (wpAny_holding (RZ h₁ (fun av s₂ h₂=>RF (wpAny_standAt ?_)) fun _ _ x=>x))
 obtain ⟨apos,PB⟩:=av
 obtain ⟨PC,hlen,hC,hn,T,⟨oa,va,ha,LO,h2⟩,h₂⟩:=h₂
 obtain rfl:PB=[]:=PC
 obtain ⟨hp,g,d,tk,os⟩:=s₂
 simp only [uo]
 refine RF (wpAny_keeperOf_exc hC ?_)
 refine RF (wpAny_call_exc_subU (hrest:=hlen) Fn E8 F T hC hn Dm fun h' e hm=>RF (wpAny_holding (wpAny_point (RY ?_))))
 obtain ⟨t,ht,_,_⟩:=hm.there
 have El:=hm.new
 have ne:∀ b o,hp.get? b=some o->b≠e:=fun b o z q=>by rw [q,El] at z;cases z
 refine⟨e,t,oa,va,rfl,hm.keeps _ _ hC,ht,hm.keeps _ _ ha,LO,h2,ne _ _ ha,ne _ _ hC,fun Q' hq=>?_,fun PD o1 o2=>h₂ h' e t PD hm o1 o2⟩
 rw [arm_eval_Constant]
 exact RF (RY (RF (wpAny_standAt (RY hq))))
end
theorem eh.Dx{K:Frag}{M:Model}{hh:Heap}{D:Addr}(V:eh K D)(X:K.In hh):Looks M hh (isType (.ref D)) true:=by
 obtain ⟨cd,jc⟩:=RX.mp V.cl
 unfold clsIn at jc
 split at jc
 ·rename_i c' d' LB Bf ho
  intro A' Q' E' s' k q
  unfold isType loadHead
  exact RF (wpAny_loadPart (k _ _ (X _ _ ho)) (RY q))
 ·cases jc
theorem pk{K:Frag}{M:Model}{A:Around}{E:Value->Shared->Prop}{s:Shared}{a C D1 D2 tp:Addr}{oe:Obj}{b1 b2:Bool}{Q:Bool->Shared->Prop}(V1:eh K D1)(V2:eh K D2)(X:K.In s.heap)(he:s.heap.get? a=some oe)(hc:oe.cls=.ref C)
  (ht:IsTup s.heap tp #[.ref D1,.ref D2]) (mf:subIn K (.ref C) (.ref D1)=some b1) (gC:subIn K (.ref C) (.ref D2)=some b2) (h:Q (b1 || b2) s):wpAny M A (excMatches (.ref a) (.ref tp)) Q E s:=by
 obtain ⟨o,ho,PF,n,hd⟩:=ht
 obtain ⟨hh,g,d,t,os⟩:=s
 have L2:Looks M hh (typeOf (.ref a)) (.ref C):=hc ▸ (Looks.ld he).andThen .now
 have PH:=looks_subIn (M:=M) X V1.be
 have PJ:=looks_subIn (M:=M) X V2.be
 have PK:=looks_subIn (M:=M) X mf
 have PL:=looks_subIn (M:=M) X gC
 have PM:=V1.Dx (M:=M) X
 have PN:=V2.Dx (M:=M) X
 unfold excMatches
 refine RF (wpAny_isInstance ⟨o,ho,PF⟩ isSubtype_tuple_tuple ?_)
 dsimp only
 rw [if_pos rfl]
 refine RF (wpAny_seqItems ho hd ?_)
 refine RF (RY ?_)
 simp only [Option.getD_some,forIn_cons,forIn_nil]
 unfold isExcClass
 refine RF (RF (RF (RF (PM.at ?_))))
 simp only [if_true]
 refine PH.at ?_
 simp only [Bool.not_true,Bool.false_eq_true,if_false]
 refine RY ?_
 refine RF (RF (RF (PN.at ?_)))
 simp only [if_true]
 refine PJ.at ?_
 simp only [Bool.not_true,Bool.false_eq_true,if_false]
 refine RY (RY ?_)
 refine RF (L2.at ?_)
 refine RF (RF (RF (PK.at ?_)))
 cases b1 with
 | true =>
  simp only [if_true]
  exact RY (RY (RY h))
 | false =>
  simp only [Bool.false_eq_true,if_false]
  refine RY ?_
  refine RF (RF (PL.at ?_))
  cases b2 with
  | true =>
   simp only [if_true]
   exact RY (RY (RY h))
  | false =>
   simp only [Bool.false_eq_true,if_false]
   exact RY (RY (RY h))
def Ai(X:Cx)(GK:List ExceptHandler)(r:TH):Prop:=∀ {pins:List (Addr×Obj)} {σ':St} {H':Hp} {D:Ends} {a C T:Addr} {s:Shared} {oe:Obj} {vs:Array Value},Inv X pins σ' H' s->s.heap.get? a=some oe->oe.cls=.ref C->oe.dict=none->oe.data=.fields vs ->
 jm s.heap a vs (some T)->nS (fV X.mg C) vs->H' a=none->X.s₀.heap.get? a=none->(∀ p∈X.pn++pins,p.1≠a)->H' T=none->X.s₀.heap.get? T=none->(∀ p∈X.pn++pins,p.1≠T)->r C D σ' H'->wpAny (model X.prog X.w) X.A (handleBy (.ref a) X.env GK) (SP X pins D) X.xe s
theorem Cn{X:Cx}{body:List Stmt}{h0:ExceptHandler}{hs:List ExceptHandler}{pos:Pos}{tb:l6->TS}{r:TH}(hex:X.ex=[])
  (fJ:X.stack=X.env::X.outer) (ja:X.env.frame=some X.env.locals)
  (hb:∀ pins EX,jZ ((mv X pins).dr (XW (mv X pins) EX)) body (tb EX)) (N:Ai X (h0::hs) r) :
  PS X (.Try body (h0::hs) [] [] pos) (Af tb r):=by
 intro pins s σ H D I h
 have back:∀ {f:Flow} {s':Shared} {E:Value->Shared->Prop},SP ((mv X pins).dr E) [] D f s'->SP X pins D f s':=fun {f s' E} q=>by
  cases f with
  | next=>obtain ⟨σ',H',J,z⟩:=q;exact⟨σ',H',(Inv.bR J).my,z⟩
  | brk=>obtain ⟨σ',H',J,z⟩:=q;exact⟨σ',H',(Inv.bR J).my,z⟩
  | cont=>obtain ⟨σ',H',J,z⟩:=q;exact⟨σ',H',(Inv.bR J).my,z⟩
  | ret u=>obtain ⟨v,σ',H',J,r,z⟩:=q;exact⟨v,σ',H',(Inv.bR J).my,r,z⟩
 refine wpAny_Try_except (RZ (hb pins _ [] s σ H D (I.Ja.dr _) h) (fun f s1 q=>?_) (fun e s1 q=>?_))
 ·cases f with
  | next=>exact wpAny_execs_nil (back q)
  | brk=>exact back q
  | cont=>exact back q
  | ret u=>exact back q
 obtain ⟨a,C,σ',H',rfl,I0,⟨oe,vs,T0,he,hc,qS,hd,fN,hh,k8,⟨qT,uA⟩,hT⟩,LH⟩:=q
 have I1:Inv X pins σ' H' s1:=(Inv.bR I0).my
 have mr:X.s₀.heap.get? a=none:=qT
 have zT:∀ p∈X.pn++pins,p.1≠a:=uA
 have qU:∀ T,T0=some T->H' T=none/\X.s₀.heap.get? T=none/\∀ p∈X.pn++pins,p.1≠T:=hT
 have Fb:X.A.frames=some (X.env::X.outer):=by rw [<- fJ];exact I1.ok.frames
 refine jn (base:=X.base) (L:=X.env.locals) Fb (fJ ▸ I1.stack) ja he hd hh fun h1 T k1 k2 k3 k4 k5 k6=>?_
 obtain ⟨n1,n2,n3⟩:=I1.fX he hd
 have t1:∀ T',T0=some T'->∃ oT ts,s1.heap.get? T'=some oT/\oT.data=.fields ts:=fun T' z=>by
  subst z
  obtain ⟨_,_,oT,ts,q1,q2,_⟩:=hh
  exact⟨oT,ts,q1,q2⟩
 have uB:∀ b,b∈i8 (X.env::X.outer)->b=X.env.locals\/b∈X.fs:=fun b hb=>by
  rcases Sd.mp (I1.fP b (fJ ▸ hb)) with z|z
  ·exact .inl z
  ·exact .inr z
 have off:Off (a::(T0.toList++i8 (X.env::X.outer))) s1.heap h1:=fun b o hb q=>by
  simp only [Sd,R7,not_or] at hb
  exact k1 b o hb.1 (fun z=>hb.2.1 (by rw [<- z];simp)) hb.2.2 q
 have uC:dO X.prog X.w H' h1:=I1.bz.off (fun b hb=>by
  simp only [Sd,R7] at hb
  rcases hb with rfl|hb|hb
  ·exact k8
  ·cases T0 with
   | none=>simp at hb
   | some T1 =>
    simp only [Option.toList_some,R6] at hb
    rw [hb];exact (qU T1 rfl).1
  ·exact I1.eS b (fJ ▸ hb)) off
 have jo:∀ b,b∉(a::T0.toList)->b≠a/\some b≠T0:=fun b hb=>by
  simp only [Sd,not_or] at hb
  exact⟨hb.1,fun z=>hb.2 (by rw [<- z];simp)⟩
 have I2:Inv X pins σ' H' { s1 with heap:=h1 }:=by
  refine I1.jU (h':=h1) (t':=s1.toks) (ch:=a::T0.toList) (fun b hb=>?_) (fun b o b1 b2 b3 e _=>?_) (fun b o b1 b2 b3 e _=>?_) (fun b o _ _ n=>n) (fun b o b3 e=>?_) (fun b xs e=>e) (fun b o u e=>e) (fun b ps e=>⟨#[],by rw [e];simp⟩) (fun m hm=>?_) uC
  ·rcases Sd.mp hb with rfl|hb
   ·exact⟨mr,n1,n2,zT⟩
   ·cases T0 with
    | none=>simp at hb
    | some T1 =>
     simp only [Option.toList_some,R6] at hb
     subst hb
     obtain ⟨oT,ts,q1,q2⟩:=t1 _ rfl
     obtain ⟨m1,m2,m3⟩:=I1.fX q1 q2
     exact⟨(qU _ rfl).2.1,m1,m2,(qU _ rfl).2.2⟩
  ·refine k1 b o (jo b b3).1 (jo b b3).2 (fun z=>?_) e
   rcases uB b z with q|q
   ·exact b1 q
   ·exact b2 q
  ·exact k2 b o (jo b b3).1 (jo b b3).2 e
  ·obtain ⟨sl,q⟩:=k2 b o (jo b b3).1 (jo b b3).2 e
   exact⟨_,q⟩
  ·obtain ⟨o,es,ep,ho,uc,r⟩:=hm
   obtain ⟨sl,q⟩:=k2 _ o (fun z=>n1 z.symm) (fun z=>by
    obtain ⟨oT,ts,q1,q2⟩:=t1 _ z.symm
    exact (I1.fX q1 q2).1 rfl) ho
   exact⟨_,es,ep,q,uc,r⟩
 have T3:X.s₀.heap.get? T=none:=by
  cases q:X.s₀.heap.get? T with
  | none=>rfl
  | some o =>
   obtain ⟨o',q1⟩:=I1.base.there T o q (by rw [hex];simp)
   rw [k3] at q1;cases q1
 have T4:∀ p∈X.pn++pins,p.1≠T:=fun p hp z=>by
  have:=(I1.pin p hp).1
  rw [z,k3] at this;cases this
 exact N (s:={ s1 with heap:=h1 }) I2 k5 ((Obj.cls_mapFields _ _).trans hc) ((b7 _ _).trans qS) (Obj.data_mapFields hd _) ⟨by simp [fN.1],k4,k6⟩ fN.set k8 mr zT (I1.bz.free k3) T3 T4 LH
def FH(mg:Str->Option Value)(K:Frag)(D1 D2 C0:Addr)(EX:l6)(ta:TA):TH:=fun C _ σ' H'=>fV mg C/\∃ b1 b2,subIn K (.ref C) (.ref D1)=some b1/\subIn K (.ref C) (.ref D2)=some b2/\(b1 || b2)=true /\
 ta σ' H' fun vs H1=>vs.length<=1000/\EX C0 σ' H1
theorem xM{X:Cx}{EX:l6}{x1 x2 x:Str}{p1 p2 np c8 FI kp ux xx:Pos}{kk kn:Nat}{e0:Expr}{rest:List Expr}{D1 D2 C0:Addr}{B Bn newId E5 g6 E6:String}{bm E7:List Value}{ta:TA}
  (V1:eh X.K D1) (V2:eh X.K D2) (LR:Gl X x1) (GQ:X.mg x1=some (.ref D1)) (Bl:Gl X x2) (Dy:X.mg x2=some (.ref D2))
  (q:excIn X.K C0 bm newId=true) (Fn:ExcBaseFacts Bn newId E6 E7) (E8:bm.contains (.type Bn)=true) (FB:ExcBaseFacts B E5 g6 bm) (hex:X.ex=[]) (hX:∀ e s',XW X EX e s'->X.xe e s')
  (hE:∀ m,PassesOwnAt (model X.prog X.w) (X.A.mark m) X.A X.env X.xe) (LS:¬ fV X.mg C0) (hg:Gl X x) (hm:X.mg x=some (.ref C0)) (ha:∀ a,PA (mw X a) (e0::rest) ta)
  (Kd:starEach (e0::rest) X.env=(false,eval e0 X.env)::starEach rest X.env:=by rfl) (kd:(backTo c8 (starEach rest X.env)).any (·.1)=false:=by rfl)
  (oy:(x == ("__debug__":Str))=false:=by decide) (FJ:(x1 == ("__debug__":Str))=false:=by decide) (FK:(x2 == ("__debug__":Str))=false:=by decide) :
  Ai X [.ExceptHandler (some (.Tuple [.Name x1 p1,.Name x2 p2] kk ux)) none [.Raise (some (.Call (.Name x np) (e0::rest) [] c8)) (some (.Constant .none kn kp)) FI] xx] (FH X.mg X.K D1 D2 C0 EX ta):=by
 intro pins σ' H' D a C T s oe vs I2 he hc qS hd hh hf k8 qT uA T2 T3 T4 hr
 obtain ⟨hP,b1,b2,mf,gC,hb,Jz⟩:=hr
 refine wpAny_handleBy_cons (codeAny_handlers_test (Tuple_ (spliced_more (dm (X:=mw X a) (I2.xB a) LR GQ (spliced_more (dm (X:=mw X a) (I2.xB a) Bl Dy (spliced_none ?_) FK)) FJ)))) (by intro z;cases z)
 have kS:∀ b o,s.heap.get? b=some o->(s.heap.push { cls:=.type "tuple",dict:=none,data:=.seq [Value.ref D1,.ref D2].toArray }).get? b=some o:=fun b o z=>RE _ z
 have I3:Inv X pins σ' H' { s with heap:=s.heap.push { cls:=.type "tuple",dict:=none,data:=.seq [Value.ref D1,.ref D2].toArray } }:=I2.kept (t':=s.toks) kS
 have hh3:jm (s.heap.push { cls:=.type "tuple",dict:=none,data:=.seq [Value.ref D1,.ref D2].toArray }) a vs (some T):=by
  obtain ⟨z1,z2,oT,ts,z3,z4,z5⟩:=hh
  exact⟨z1,z2,oT,ts,kS _ _ z3,z4,z5⟩
 refine wpAny_newObj_type ?_
 refine pk V1 V2 I3.i9 (kS _ _ he) hc (IsTup.new _ _) mf gC ?_
 rw [hb]
 have JA:=kS _ _ he
 generalize (s.heap.push { cls:=.type "tuple",dict:=none,data:=.seq [Value.ref D1,.ref D2].toArray })=NZ at I3 hh3 JA ⊢
 clear kS I2 he hh
 refine codeAny_handlers_suite ?_
 have hk4:=hh3.2.1
 have PQ:∀ {M:Model} {A:Around} {E:Value->Shared->Prop} {Q:Unit->Shared->Prop},(∀ h2,h2.get? a=some oe->Inv X (pins++[(a,oe)]) σ' H' { s with heap:=h2 }->Q () { s with heap:=h2 })->wpAny M A (setFlight (.ref a) none) Q E { s with heap:=NZ }:=fun {M A E Q} qq=>by
  refine flight_again JA hd hh3 fun h2 f1 f2=>qq h2 (f1 a _ (Ne.symm hk4) JA) ?_
  have I4:Inv X pins σ' H' { s with heap:=h2 }:=by
   obtain ⟨_,_,oT,ts,q1,q2,q3⟩:=hh3
   obtain ⟨m1,m2,m3⟩:=I3.fX (a:=T) q1 q2
   have zU:dO X.prog X.w H' h2:=I3.bz.off (ch:=[T]) (fun b hb=>by rw [show b=T by simpa using hb];exact T2) fun b o hb q=>f1 b o (by simpa using hb) q
   refine Inv.jU (s:={ s with heap:=NZ }) (h':=h2) (t':=s.toks) (ch:=[T]) I3 (fun b hb=>?_) (fun b o b1 b2 b3 e _=>f1 b o (by simpa using b3) e) (fun b o b1 b2 b3 e _=>⟨o.slots,f1 b o (by simpa using b3) e⟩) (fun b o _ _ n=>n) (fun b o b3 e=>⟨o,f1 b o (by simpa using b3) e⟩) (fun b xs e=>e) (fun b o u e=>e) (fun b ps e=>⟨#[],by simpa using e⟩) (fun m hm=>?_) zU
   ·obtain rfl:b=T:=by simpa using hb
    exact⟨T3,m1,m2,T4⟩
   ·obtain ⟨o,es,ep,ho,uc,r⟩:=hm
    exact⟨o,es,ep,f1 _ o (fun z=>m1 z.symm) ho,uc,r⟩
  obtain ⟨r1,r2,r3⟩:=I4.fX (f1 a _ (Ne.symm hk4) JA) hd
  refine I4.gA fun p hp=>?_
  rcases R7.mp hp with hp|hp
  ·exact I4.pin p (R4 _ hp)
  ·obtain rfl:=R6.mp hp
   exact⟨f1 a _ (Ne.symm hk4) JA,k8,r1,r3,fun v z=>by rw [hd] at z;cases z⟩
 refine PQ fun h4 Rf I4=>?_
 obtain ⟨LG,N,nm,qn,bs,hdct,sn,sub,ab,col,dd,k0,k1,k2,k3,k5,mN,hC,hN,Dm,T'⟩:=wu I4.ok.mod.CN q
 refine wpAny_execs_cons (RZ (E:=X.xe) (Q:=fun _ _=>False) ?_ (fun _ _ z=>z.elim) fun e s' z=>hE _ e s' z)
 refine j5 (C:=C0) (nm:=nm) (q:=qn) (N:=N) (bs:=bs) (bm:=LG) (hdct:=hdct) (sn:=sn) (sub:=sub) (ab:=ab) (col:=col) (dd:=dd) (k0:=k0) (k1:=k1) (k2:=k2) (k3:=k3) (k5:=k5) (a:=a)
  Fn E8 FB (mN:=mN) (T'.hasType FB.hasBase) rfl (by rw [Kd];show (false || (backTo c8 (starEach rest X.env)).any (·.1))=false;rw [kd];rfl) Dm (dm (X:=mw X a) (I4.xB a) hg hm ⟨rfl,?_⟩ oy)
 have hh:=ha a c8 _ _ σ' H' _ (I4.xB a) Jz
 rw [Kd] at hh ⊢
 refine Calls.evalArgs_plain (RZ hh (fun us s2 z=>?_) fun _ _ y=>y.elim)
 obtain ⟨ws,H1,J1,r,hl,PR⟩:=z
 have I5:Inv X (pins++[(a,oe)]) σ' H1 s2:=Inv.zS I4.ok.hd J1
 refine⟨rfl,by rw [<- r.length];exact RN (dA hl),I5.bk _ _ hC,hN.keeps I5.bk,T'.keeps I5.bk,⟨oe,vs,Cd I5,hd,hf.2 hP⟩,fun h1 e t h' dB o1 o2=>hX _ _ ?_⟩
 have nw:X.s₀.heap.get? e=none:=by
  cases q:X.s₀.heap.get? e with
  | none=>rfl
  | some o =>
   obtain ⟨o',q1⟩:=I5.base.there e o q (by rw [hex];simp)
   rw [dB.new] at q1;cases q1
 have np:∀ p∈X.pn,p.1≠e:=fun p hp z=>by
  have:=(I5.pin p (R5 _ hp)).1
  rw [z,dB.new] at this;cases this
 have kp:∀ b o,s2.heap.get? b=some o->h'.get? b=some o:=fun b o z=>by
  rw [o1 b (fun y=>by rw [y,dB.new] at z;cases z)]
  exact dB.keeps _ _ z
 exact⟨e,C0,σ',H1,rfl,((I5.kept (t':=s2.toks) kp).gA fun p hp=>absurd hp (by simp)).dr _,⟨_,_,none,o2,rfl,rfl,rfl,⟨by simp,fun z=>absurd z LS⟩,rfl,I5.bz.free dB.new,⟨nw,np⟩,fun T z=>nomatch z⟩,PR⟩
end L2
namespace L2
open PySem PySem.Spec PyProof.Rows PySem.W PyProof
theorem Dz{mg:Str->Option Value}{x:Str}{A C:Addr}(g:mg x=some (.ref A))(n:C≠A):mg x≠some (.ref C):=fun z=>n (by rw [g] at z;cases z;rfl)
theorem Aj{mg:Str->Option Value}{x:Str}{C:Addr}(g:mg x=none):mg x≠some (.ref C):=fun z=>by rw [g] at z;cases z
theorem Ak {mg:Str->Option Value} {C:Addr} (a:mg "NoSpan"≠some (.ref C)) (b:mg "TooFar"≠some (.ref C)) (c:mg "NoName"≠some (.ref C)) (d:mg "NoLength"≠some (.ref C)):¬ fV mg C:=fun z=>z.elim a fun z=>z.elim b fun z=>z.elim c d
theorem FL{X:Cx}{EX:l6}{body:List Stmt}{tb:l6->TS}{x1 x2 x:Str}{p1 p2 np c8 FI kp ux xx pos:Pos}{kk kn:Nat}{e0:Expr}{rest:List Expr}{D1 D2 C0:Addr}{B Bn newId E5 g6 E6:String}{bm E7:List Value}{ta:TA}
  (hex:X.ex=[]) (fJ:X.stack=X.env::X.outer) (ja:X.env.frame=some X.env.locals) (hb:∀ pins EX,jZ ((mv X pins).dr (XW (mv X pins) EX)) body (tb EX))
  (V1:eh X.K D1) (V2:eh X.K D2) (LR:Gl X x1) (GQ:X.mg x1=some (.ref D1)) (Bl:Gl X x2) (Dy:X.mg x2=some (.ref D2))
  (q:excIn X.K C0 bm newId=true) (Fn:ExcBaseFacts Bn newId E6 E7) (E8:bm.contains (.type Bn)=true) (FB:ExcBaseFacts B E5 g6 bm) (hX:∀ e s',XW X EX e s'->X.xe e s')
  (hE:∀ m,PassesOwnAt (model X.prog X.w) (X.A.mark m) X.A X.env X.xe) (LS:¬ fV X.mg C0) (hg:Gl X x) (hm:X.mg x=some (.ref C0)) (ha:∀ a,PA (mw X a) (e0::rest) ta)
  (Kd:starEach (e0::rest) X.env=(false,eval e0 X.env)::starEach rest X.env:=by rfl) (kd:(backTo c8 (starEach rest X.env)).any (·.1)=false:=by rfl)
  (oy:(x == ("__debug__":Str))=false:=by decide) (FJ:(x1 == ("__debug__":Str))=false:=by decide) (FK:(x2 == ("__debug__":Str))=false:=by decide) :
  PS X (.Try body [.ExceptHandler (some (.Tuple [.Name x1 p1,.Name x2 p2] kk ux)) none [.Raise (some (.Call (.Name x np) (e0::rest) [] c8)) (some (.Constant .none kn kp)) FI] xx] [] [] pos) (Af tb (FH X.mg X.K D1 D2 C0 EX ta)) :=
 Cn hex fJ ja hb (xM V1 V2 LR GQ Bl Dy q Fn E8 FB hex hX hE LS hg hm ha Kd kd oy FJ FK)
theorem Al{mg:Str->Option Value}{K:Frag}{D1 D2 C0 C:Addr}{EX:l6}{ta:TA}{D:Ends}{σ:St}{H:Hp}{b1 b2:Bool}(hP:fV mg C)(h1:subIn K (.ref C) (.ref D1)=some b1)(h2:subIn K (.ref C) (.ref D2)=some b2)(hb:(b1 || b2)=true)
  (h:ta σ H fun vs H1=>vs.length<=1000/\EX C0 σ H1):FH mg K D1 D2 C0 EX ta C D σ H:=⟨hP,b1,b2,h1,h2,hb,h⟩
open PySem PySem.Spec PyProof.Rows
def iU(z:Str)(k:Nat):Str:=⟨((List.replicate k z.cps.toList).flatten).toArray⟩
theorem r8(a:Array Nat):∀ (k:Nat) (b:Array Nat),((List.replicate k a).foldl (·++·) b).toList=b.toList++(List.replicate k a.toList).flatten
 | 0,b=>by simp
 | k+1,b=>by
  rw [replicate_succ,List.foldl_cons,r8 a k,replicate_succ,flatten_cons,Array.toList_append,append_assoc]
theorem r9{a b:Str}(h:a.cps.toList=b.cps.toList):a=b:=by
 obtain ⟨⟨l⟩⟩:=a
 obtain ⟨⟨m⟩⟩:=b
 cases h
 rfl
theorem fY(z:Str)(k:Nat):(iU z k).length=z.length*k:=by
 show ((List.replicate k z.cps.toList).flatten).toArray.size=z.cps.size*k
 rw [Si]
 induction k with
 | zero=>rfl
 | succ k ih=>rw [replicate_succ,flatten_cons,Sa,ih,Array.length_toList,Nat.mul_succ];lia
theorem DA{n:Nat}(h:n<=10000):n<=sizeLine:=RL h (by decide)
def Am:R2:=fun x y H Q=>∃ z n,x=.str z/\y=.int n/\(0<=n/\n<=10000)/\z.length*n.toNat<=10000/\z.length<=1000/\Q (.str (iU z n.toNat)) H
section
variable {X:Cx}
theorem iV:gD X (binaryOp .Mult) Am:=by
 intro pins s σ H x y v u Q I rx ry h
 obtain ⟨z,n,rfl,rfl,hn,hz,zo,q⟩:=h
 obtain ⟨t,rfl⟩:=rx
 obtain ⟨t',rfl⟩:=ry
 refine P.mul_str (by rw [RV (by lia),RV (by lia)];rfl) (fun h1 _=>?_) (fun h1 _=>?_) ?_
 ·have GR:1<=n:=by lia
  have:(900000000000:Int)<=(2 ^ 63 - 1) / n:=by
   rw [Int.le_ediv_iff_mul_le (by lia)]
   lia
  have:(z.length:Int)<=1000:=by lia
  lia
 ·show decide (_ > sizeLine)=false
  rw [RV]
  have:=DA hz
  lia
 ·split
  ·rename_i h1
   have e:Str.empty=iU z n.toNat:=by rw [show n.toNat=0 by lia];rfl
   exact⟨by decide,⟨.str _,H,I.tok _,⟨_,rfl⟩,e ▸ q⟩⟩
  ·split
   ·rename_i h1 h2
    have e:z=iU z n.toNat:=by
     refine r9 ?_
     show z.cps.toList=(List.replicate n.toNat z.cps.toList).flatten
     rw [Bool.or_eq_true,beq_iff_eq,beq_iff_eq] at h2
     rcases h2 with h2|h2
     ·rw [h2];simp
     ·have:z.cps.toList=[]:=List.eq_nil_of_length_eq_zero (by rw [Array.length_toList];exact h2)
      rw [this];simp
    exact⟨.str _,H,I,⟨_,rfl⟩,e ▸ q⟩
   ·rename_i h1 h2
    have e:(⟨(List.replicate n.toNat z.cps).foldl (·++·) #[]⟩:Str)=iU z n.toNat:=r9 (by rw [r8];rfl)
    exact⟨by rw [e,fY];exact DA hz,⟨.str _,H,I.tok _,⟨_,rfl⟩,e ▸ q⟩⟩
end
section
variable {H:Hp}{Q:VK}
theorem ki{z:Str}{n:Int}(hn:0<=n/\n<=10000)(h:z.length*n.toNat<=10000)(hz:z.length<=1000)(q:Q (.str (iU z n.toNat)) H):Am (.str z) (.int n) H Q:=⟨z,n,rfl,rfl,hn,h,hz,q⟩
end
end L2

set_option maxHeartbeats 8000000
namespace PySem.W.Fast
theorem tw4387109191084857832:True:=trivial
theorem tw8750843036215928415:True:=trivial
theorem tw17887083601823704473:True:=trivial
theorem tw342975361479983725:True:=trivial
theorem tw3283344064760985461:True:=trivial
theorem tw10977601352810692782:True:=trivial
theorem tw8905690704536208087:True:=trivial
theorem tw18041986187434681426:True:=trivial
theorem tw9275972925747091244:True:=trivial
theorem tw8287752281786023101:True:=trivial
theorem tw4842987655831666617:True:=trivial
theorem tw6499615955915680601:True:=trivial
theorem tw2741499443895295500:True:=trivial
theorem tw16959013037788378326:True:=trivial
theorem tw4138077390723872733:True:=trivial
theorem tw4728730601855320824:True:=trivial
theorem tw7305730260564345675:True:=trivial
theorem tw986517928546455749:True:=trivial
theorem tw7885628513242915887:True:=trivial
theorem tw6171118253205008057:True:=trivial
theorem tw10603808689246987324:True:=trivial
theorem tw15235674806304153451:True:=trivial
theorem tw13244090075373323948:True:=trivial
theorem tw10544646134538717585:True:=trivial
theorem tw9295049397969702425:True:=trivial
theorem tw16534935509188887883:True:=trivial
theorem tw5524301935841096120:True:=trivial
theorem tw16061949982068753755:True:=trivial
theorem tw9734461484372194202:True:=trivial
theorem tw12401767223992647207:True:=trivial
theorem tw11218064328678213427:True:=trivial
theorem tw9990034773019820629:True:=trivial
theorem tw5664804388561886974:True:=trivial
theorem tw11786827512612031525:True:=trivial
theorem tw6702255442223531447:True:=trivial
theorem tw1571102402925966755:True:=trivial
theorem tw4175761736352707260:True:=trivial
theorem tw13963663734803932576:True:=trivial
theorem tw16544540538419058301:True:=trivial
theorem tw11373897086719751035:True:=trivial
theorem tw891309591247350417:True:=trivial
theorem tw16854696254118334430:True:=trivial
theorem tw12965230145691419672:True:=trivial
theorem tw4910944032137832558:True:=trivial
theorem tw1017672595993094158:True:=trivial
theorem tw97642781755733706:True:=trivial
theorem tw10100515472416606246:True:=trivial
theorem tw10051517547782905523:True:=trivial
theorem tw6244802355098226340:True:=trivial
theorem tw7780935095058373003:True:=trivial
theorem tw15287144250972397486:True:=trivial
theorem tw5698274215232397907:True:=trivial
theorem tw2987789937213565174:True:=trivial
theorem tw4452583416201987788:True:=trivial
theorem tw16355785981222025925:True:=trivial
theorem tw5922899341390241821:True:=trivial
theorem tw516981857615399793:True:=trivial
theorem tw11548593068406688127:True:=trivial
theorem tw12304630345371888907:True:=trivial
theorem tw9896890182054746938:True:=trivial
theorem tw9927068587954354644:True:=trivial
theorem tw3584854539496395385:True:=trivial
theorem tw15574333400829312554:True:=trivial
theorem tw14358535557470199462:True:=trivial
theorem tw9873862275438788637:True:=trivial
theorem tw6448761364196641856:True:=trivial
theorem tw14570345323046517933:True:=trivial
theorem tw4972106140984709301:True:=trivial
theorem tw4888218483191231750:True:=trivial
theorem tw10028618179205789594:True:=trivial
theorem tw3527654546994017035:True:=trivial
theorem tw2021929760005340355:True:=trivial
theorem tw15475412098410526859:True:=trivial
theorem tw2515555412032699367:True:=trivial
theorem tw4603405046351176584:True:=trivial
theorem tw15358124156299198559:True:=trivial
theorem tw10736772980235820300:True:=trivial
theorem tw8344070830563384209:True:=trivial
theorem tw2558325761189274511:True:=trivial
theorem tw16255173196215953917:True:=trivial
theorem tw6796370321913031196:True:=trivial
theorem tw12500114820065714564:True:=trivial
theorem tw12297889974669572863:True:=trivial
theorem tw7033407781804454096:True:=trivial
theorem tw5408425551154206150:True:=trivial
theorem tw16259306614250747238:True:=trivial
theorem tw11482554026930998955:True:=trivial
theorem tw17629861145889330944:True:=trivial
theorem tw11005194290415238576:True:=trivial
theorem tw15745469986266170360:True:=trivial
end PySem.W.Fast
namespace Law
open De (Bd gG P5 v8 wa v9 iG wb oO oP oQ oR oS oI oJ oK oM oN mh rH wm rJ aK gZ iQ oH rG)
open PySem L2
def top(i:Nat):Stmt:=PySem.Challenge.pw_tuningyard_k74_no_stack.main.body.getD i (.Pass ⟨0,0,0,0⟩)
abbrev hV:Stmt:=top 9
abbrev lg:Stmt:=top 10
abbrev jt:Stmt:=top 11
abbrev ju:Stmt:=top 12
abbrev uM:Stmt:=top 13
abbrev ek:Stmt:=top 14
abbrev hZ:Stmt:=top 15
abbrev lh:Stmt:=top 16
abbrev eA:Stmt:=top 18
abbrev eV:Stmt:=top 19
abbrev fZ:Stmt:=top 22
abbrev ia:Stmt:=top 27
abbrev eW:Stmt:=top 28
abbrev cZ:Stmt:=top 29
abbrev eZ:Stmt:=top 30
abbrev fb:Stmt:=top 31
abbrev ib:Stmt:=top 33
abbrev ic:Stmt:=top 34
abbrev fe:Stmt:=top 35
abbrev jv:Stmt:=top 36
abbrev dF:Stmt:=top 37
abbrev ff:Stmt:=top 38
abbrev fg:Stmt:=top 39
abbrev ie:Stmt:=top 40
abbrev fh:Stmt:=top 41
abbrev dG:Stmt:=top 42
abbrev f6:Stmt:=top 43
abbrev f7:Stmt:=top 44
abbrev fi:Stmt:=top 45
abbrev f9:Stmt:=top 46
abbrev gb:Stmt:=top 47
abbrev ig:Stmt:=top 48
abbrev jw:Stmt:=top 49
abbrev gc:Stmt:=top 50
abbrev jx:Stmt:=top 51
abbrev iW:Stmt:=top 52
@[elab_as_elim] theorem bx {α : Type} {P : List α -> Prop} (us : List α) (hl : us.length = 1) (h : ∀ a0 : α, P [a0]) : P us :=
 match us,hl with|[a0],_=>h a0
@[elab_as_elim] theorem dw {α : Type} {P : List α -> Prop} (us : List α) (hl : us.length = 2) (h : ∀ a0 a1 : α, P [a0, a1]) : P us :=
 match us,hl with|[a0,a1],_=>h a0 a1
@[elab_as_elim] theorem gJ {α : Type} {P : List α -> Prop} (us : List α) (hl : us.length = 3) (h : ∀ a0 a1 a2 : α, P [a0, a1, a2]) : P us :=
 match us,hl with|[a0,a1,a2],_=>h a0 a1 a2
@[elab_as_elim] theorem Co {α : Type} {P : List α -> Prop} (us : List α) (hl : us.length = 4) (h : ∀ a0 a1 a2 a3 : α, P [a0, a1, a2, a3]) : P us :=
 match us,hl with|[a0,a1,a2,a3],_=>h a0 a1 a2 a3
def RB(f h:Int)(r:List Int):Prop:=∃ a0 a1 a2 a3 a4:Int,r=[a0,a1,a2,a3,a4]/\(-f<=a0/\a0<=f)/\(-h<=a1/\a1<=h)/\(-h<=a2/\a2<=h)/\(-h<=a3/\a3<=h)/\(-h<=a4/\a4<=h)
theorem RB.bd{r:List Int}{f h:Int}(x:RB f h r)(hf:f<=4000)(hh:h<=100):Bd (r.getD 0 0) (r.getD 1 0) (r.getD 2 0) (r.getD 3 0) (r.getD 4 0):=by
 obtain ⟨a0,a1,a2,a3,a4,rfl,⟨_,_⟩,⟨_,_⟩,⟨_,_⟩,⟨_,_⟩,⟨_,_⟩⟩:=x
 show Bd a0 a1 a2 a3 a4
 unfold Bd
 lia
def Kn(K:Frag)(H:Hp)(v:V):Prop:=(∃ i,v=.int i)\/(∃ b,v=.bl b)\/v=.cF\/(∃ s,v=.str s)\/(∃ a xs,v=.ref a/\b5 K H a xs)\/(∃ a xs,v=.ref a/\aT K H a xs)
theorem Kn.same{K:Frag}{H H':Hp}{v:V}(h:Kn K H v)(s:aj H H'):Kn K H' v:=by
 rcases h with h|h|h|h|⟨a,xs,h,z⟩|⟨a,xs,h,z⟩
 ·exact .inl h
 ·exact .inr (.inl h)
 ·exact .inr (.inr (.inl h))
 ·exact .inr (.inr (.inr (.inl h)))
 ·exact .inr (.inr (.inr (.inr (.inl ⟨a,xs,h,s.seq z⟩))))
 ·exact .inr (.inr (.inr (.inr (.inr ⟨a,xs,h,s.at z⟩))))
def wh:V->Bool
 | .int _=>true
 | _=>false
def NT(K:Frag)(H:Hp)(v:V):Prop:=(∃ i,v=.int i)\/v=.cF\/(∃ s,v=.str s)\/(∃ a xs,v=.ref a/\b5 K H a xs)
def PU(K:Frag)(H:Hp)(v:V):Prop:=(∃ (a:Addr) (xs:List V),v=.ref a/\aT K H a xs/\xs.length<=1000/\(∀ x∈xs,Kn K H x)/\(decide (xs.length=5) && xs.all wh)=false)\/NT K H v
def fits(x0 x1 x2 x3 x4:Int):Bool:=[decide ((if x0<0 then -x0 else x0)<=700),decide ((if x1<0 then -x1 else x1)<=60),decide ((if x2<0 then -x2 else x2)<=60),decide ((if x3<0 then -x3 else x3)<=60),decide ((if x4<0 then -x4 else x4)<=60)].all id
theorem LU{n:Nat}(h0:0<n)(h:n<2 ^ 9000):(n:Int).natAbs.log2<9000:=by
 have e:(n:Int).natAbs=n:=rfl
 rw [e]
 exact (Nat.log2_lt (by lia)).mpr h
theorem An{t b:Nat}(h:0<b):Nat.gcd t b<=b:=Nat.le_of_dvd h (Nat.gcd_dvd_right t b)
theorem Cp{t b:Nat}(h:0<t):Nat.gcd t b<=t:=Nat.le_of_dvd h (Nat.gcd_dvd_left t b)
theorem DB{i:Int}(h0:1<=i)(h:i<10 ^ 60):i.natAbs<2 ^ 1920:=Nat.lt_of_lt_of_le (show i.natAbs<10 ^ 60 by lia) (RL (show 10 ^ 60<=2 ^ 240 by decide +kernel) (RK (by decide) (by decide)))
theorem PV{a0 a1 a2 a3 a4:Int}(h:RB 700 60 [a0,a1,a2,a3,a4]):Bd a0 a1 a2 a3 a4:=h.bd (by decide) (by decide)
inductive Fo where
 | nil:Fo
 | nd (r:List Int) (kids rest:Fo):Fo
def N0(a b:List Int):List Int:=[a.getD 0 0+b.getD 0 0,a.getD 1 0+b.getD 1 0,a.getD 2 0+b.getD 2 0,a.getD 3 0+b.getD 3 0,a.getD 4 0+b.getD 4 0]
def pre:List Int->Fo->List (List Int)
 | _,.nil=>[]
 | ρ,.nd r k s=>N0 ρ r::(pre (N0 ρ r) k++pre ρ s)
def dep:Fo->Nat
 | .nil=>0
 | .nd _ k s=>max (dep k+1) (dep s)
def cnt:Fo->Nat
 | .nil=>0
 | .nd _ k s=>1+cnt k+cnt s
inductive cP(K:Frag)(H:Hp):List V->Fo->Prop where
 | nil:cP K H [] .nil
 | nd {t a l:Addr} {r:List Int} {us xs:List V} {kids rest:Fo} (ht:aT K H t [.ref a,.ref l]) (ha:aT K H a (r.map V.int)) (h5:r.length=5) (hl:H l=some (.lst us)) (hk:cP K H us kids) (hr:cP K H xs rest):cP K H (.ref t::xs) (.nd r kids rest)
section
variable {K:Frag}{H H':Hp}
theorem cP.same{xs:List V}{f:Fo}(h:cP K H xs f)(s:aj H H'):cP K H' xs f:=by
 induction h with
 | nil=>exact .nil
 | nd ht ha h5 hl _ _ Cq Ao=>exact .nd (s.at ht) (s.at ha) h5 (s _ _ hl) Cq Ao
theorem cP.one{t:Addr}{r:List Int}{k s:Fo}{xs:List V}(h:cP K H (.ref t::xs) (.nd r k s)):∃ a l us,aT K H t [.ref a,.ref l]/\aT K H a (r.map V.int)/\H l=some (.lst us)/\cP K H us k/\r.length=5:=by
 cases h with
 | nd ht ha h5 hl hk hr=>exact⟨_,_,_,ht,ha,hl,hk,h5⟩
end
def Fo.isNil:Fo->Bool
 | .nil=>true
 | .nd ..=>false
def sf(r:List Int):Nat:=(oH (r.getD 0 0) (r.getD 1 0) (r.getD 2 0) (r.getD 3 0) (r.getD 4 0)).toNat
def sg(r:List Int):Nat:=(mh (r.getD 0 0) (r.getD 1 0) (r.getD 2 0) (r.getD 3 0) (r.getD 4 0)).toNat
def t5(m:Nat)(r:List Int):List Nat:=(aM.txt (sf r*m)).cps.toList++47::(aM.txt (sg r*m)).cps.toList
def jW(m:Nat):Fo->List Nat
 | .nil=>[]
 | .nd r k s=>(t5 m r++(if k.isNil=true then [] else 40::(jW m k++[41])))++(if s.isNil=true then [] else 32::jW m s)
def bU:Fo->List (List Int×Fo)
 | .nil=>[]
 | .nd r k s=>(r,k)::bU s
def cQ(m:Nat)(p:List Int×Fo):List Nat:=t5 m p.1++(if p.2.isNil=true then [] else 40::(jW m p.2++[41]))
theorem wG(m:Nat)(r:List Int)(k:Fo):jW m (.nd r k .nil)=cQ m (r,k):=by
 show cQ m (r,k)++[]=_
 rw [append_nil]
theorem Ap(m:Nat)(r:List Int)(k:Fo){s:Fo}(h:s.isNil=false):jW m (.nd r k s)=cQ m (r,k)++32::jW m s:=by
 show cQ m (r,k)++(if s.isNil=true then [] else 32::jW m s)=_
 rw [if_neg (by rw [h];decide)]
theorem si(m:Nat):∀ f:Fo,tZ.J 32 ((bU f).map (cQ m))=jW m f
 | .nil=>rfl
 | .nd r k .nil=>(wG m r k).symm
 | .nd r k (.nd r' k' s)=>by
  rw [Ap m r k rfl,<- si m (.nd r' k' s)]
  rfl
def DC(c:Nat):Bool:=c == 40 || c == 32 || c == 41
def aq:List Nat->Nat
 | []=>0
 | c::r=>if DC c=true then 0 else aq r+1
theorem gd:∀ l:List Nat,aq l<=l.length
 | []=>RM _
 | c::r=>by
  unfold aq
  split
  ·exact Sm _
  ·have:=gd r;rw [length_cons];lia
theorem lj:∀ (l:List Nat) (i c:Nat),i<=aq l->l[i]?=some c->(DC c=true↔i=aq l)
 | [],i,c,_,h=>by simp at h
 | d::r,0,c,_,h=>by
  cases h
  unfold aq
  split
  ·rename_i e;exact⟨fun _=>rfl,fun _=>e⟩
  ·rename_i e;exact⟨fun z=>absurd z e,fun z=>absurd z (by lia)⟩
 | d::r,i+1,c,hi,h=>by
  unfold aq at hi ⊢
  split at hi
  ·lia
  ·rename_i e
   rw [if_neg e]
   have:=lj r i c (by lia) (by simpa using h)
   rw [this]
   lia
theorem eO{z:PySem.Str}{p c:Nat}:PySem.Txt.slice z (some (p:Int)) (some ((p:Int)+1))=⟨#[c]⟩↔z.cps.toList[p]?=some c:=by
 have h:=tZ.cut (z:=z) (i:=p) (j:=p+1) (by lia)
 rw [show ((p+1:Nat):Int)=(p:Int)+1 from rfl,show p+1 - p=1 by lia] at h
 have e:(z.cps.toList.drop p)[0]?=z.cps.toList[p]?:=by rw [getElem?_drop,Nat.add_zero]
 rw [<- e]
 constructor
 ·intro q
  rw [q] at h
  have h':[c]=(z.cps.toList.drop p).take 1:=h
  cases hd:z.cps.toList.drop p with
  | nil=>rw [hd] at h';cases h'
  | cons a t=>rw [hd] at h';cases h';rfl
 ·intro q
  refine tZ.gH (h.trans ?_)
  cases hd:z.cps.toList.drop p with
  | nil=>rw [hd] at q;cases q
  | cons a t=>rw [hd] at q;cases q;rfl
def Fo.app:Fo->Fo->Fo
 | .nil,g=>g
 | .nd r k s,g=>.nd r k (s.app g)
theorem Fo.jy:∀ f g h:Fo,(f.app g).app h=f.app (g.app h)
 | .nil,_,_=>rfl
 | .nd r k s,g,h=>by show Fo.nd r k ((s.app g).app h)=Fo.nd r k (s.app (g.app h));rw [Fo.jy s g h]
inductive fj(K:Frag)(P:Addr->Prop)(H:Hp):List V->Fo->Prop where
 | nil:fj K P H [] .nil
 | nd {t a l:Addr} {r:List Int} {us xs:List V} {kids rest:Fo} (ht:aT K H t [.ref a,.ref l]) (ha:aT K H a (r.map V.int)) (h5:r.length=5) (hl:H l=some (.lst us)) (hP:P l) (hk:fj K P H us kids) (hr:fj K P H xs rest):fj K P H (.ref t::xs) (.nd r kids rest)
section
variable {K:Frag}{P P':Addr->Prop}{H H':Hp}
theorem fj.same{xs:List V}{f:Fo}(h:fj K P H xs f)(s:aj H H'):fj K P H' xs f:=by
 induction h with
 | nil=>exact .nil
 | nd ht ha h5 hl hP _ _ Cq Ao=>exact .nd (s.at ht) (s.at ha) h5 (s _ _ hl) hP Cq Ao
theorem fj.imp{xs:List V}{f:Fo}(h:fj K P H xs f)(k:∀ l,P l->P' l):fj K P' H xs f:=by
 induction h with
 | nil=>exact .nil
 | nd ht ha h5 hl hP _ _ Cq Ao=>exact .nd ht ha h5 hl (k _ hP) Cq Ao
theorem fj.off{xs ys zs:List V}{f:Fo}{l:Addr}(h:fj K P H xs f)(e:H l=some (.lst ys))(n:¬ P l):fj K P (upd H l (.lst zs)) xs f:=by
 induction h with
 | nil=>exact .nil
 | @nd t a l' r us xs kids rest ht ha h5 hl hP _ _ Cq Ao =>
  have ne:l'≠l:=fun z=>n (by rw [<- z];exact hP)
  exact .nd (bw ht e) (bw ha e) h5 (by rw [aE ne];exact hl) hP Cq Ao
theorem fj.app{xs ys:List V}{f g:Fo}(h:fj K P H xs f)(k:fj K P H ys g):fj K P H (xs++ys) (f.app g):=by
 induction h with
 | nil=>exact k
 | nd ht ha h5 hl hP hk _ _ Ao=>exact .nd ht ha h5 hl hP hk Ao
end
def FN(z:Int):Int:=([1000033,1000037,1000039,1000081,1000099,1000117]:List Int).getD z.toNat 0
def xN(c j m:Int):Int:=c % 1000003*(48271+2*j) % FN (j % 6) % m
def fk(c j h:Int):Int:=(xN c j (2*h+1)+h) % (2*h+1) - h
def Ke(c f h:Int):List Int:=[fk c 0 f,fk c 1 h,fk c 2 h,fk c 3 h,fk c 4 h]
theorem FO(j:Int):rj [V.int 1000033,V.int 1000037,V.int 1000039,V.int 1000081,V.int 1000099,V.int 1000117] (j % 6)=some (.int (FN (j % 6)))/\0<FN (j % 6):=by
 have hz:j % 6=0\/j % 6=1\/j % 6=2\/j % 6=3\/j % 6=4\/j % 6=5:=by lia
 generalize j % 6=z at hz
 rcases hz with rfl|rfl|rfl|rfl|rfl|rfl <;> exact⟨rfl,by decide⟩
theorem iX(c j:Int){h:Int}(hh:0<=h):-h<=fk c j h/\fk c j h<=h:=by
 unfold fk
 have g1:=emod_nonneg (xN c j (2*h+1)+h) (show 2*h+1≠0 by lia)
 have g2:=emod_lt_of_pos (xN c j (2*h+1)+h) (show 0<2*h+1 by lia)
 lia
theorem FP(c:Int){f h:Int}(hf:0<=f)(hh:0<=h):RB f h (Ke c f h):=⟨_,_,_,_,_,rfl,iX _ _ hf,iX _ _ hh,iX _ _ hh,iX _ _ hh,iX _ _ hh⟩
theorem Aq{H:Hp}{l:Addr}{xs:List Int}{z:Int}:upd H l (.lst (xs.map V.int++[.int z])) l=some (.lst ((xs++[z]).map V.int)):=by rw [aH,Sk];rfl
inductive Lf where
 | nil:Lf
 | nd (j:Nat) (r:List Int) (kids rest:Lf):Lf
def Lf.fo:Lf->Fo
 | .nil=>.nil
 | .nd _ r k s=>.nd r k.fo s.fo
def cJ(u:Nat):Lf->Nat
 | .nil=>0
 | .nd j _ k s=>(if j=u then 1 else 0)+cJ u k+cJ u s
def Lf.app(x:Lf):Lf->Lf
 | .nil=>x
 | .nd j r k s=>.nd j r k (Lf.app x s)
def ins(u k:Nat)(r:List Int):Lf->Lf
 | .nil=>.nil
 | .nd j r' ks s=>.nd j r' (if j=u then Lf.app (.nd k r .nil .nil) ks else ins u k r ks) (ins u k r s)
theorem wH(v:Nat)(x:Lf):∀ f,cJ v (Lf.app x f)=cJ v f+cJ v x
 | .nil=>by show cJ v x=0+cJ v x;lia
 | .nd j r k s=>by
  show (if j=v then 1 else 0)+cJ v k+cJ v (Lf.app x s)=(if j=v then 1 else 0)+cJ v k+cJ v s+cJ v x
  rw [wH v x s];lia
theorem kj(v u k:Nat)(r:List Int):∀ f,cJ u f<=1->cJ v (ins u k r f)=cJ v f+(if v=k then cJ u f else 0)
 | .nil,_=>by show 0=0+(if v=k then 0 else 0);split <;> rfl
 | .nd j r' ks s,h=>by
  have h':(if j=u then 1 else 0)+cJ u ks+cJ u s<=1:=h
  show (if j=v then 1 else 0)+cJ v (if j=u then Lf.app (.nd k r .nil .nil) ks else ins u k r ks)+cJ v (ins u k r s)=(if j=v then 1 else 0)+cJ v ks+cJ v s+(if v=k then (if j=u then 1 else 0)+cJ u ks+cJ u s else 0)
  rw [kj v u k r s (by lia)]
  generalize (if j=v then 1 else 0)=e
  by_cases hj:j=u
  ·rw [if_pos hj,wH,if_pos hj]
   rw [if_pos hj] at h'
   show e+(cJ v ks+((if k=v then 1 else 0)+0+0))+_=_
   by_cases hv:v=k
   ·subst hv
    rw [if_pos rfl,if_pos rfl,if_pos rfl];lia
   ·have PX:¬ k=v:=fun z=>hv z.symm
    rw [if_neg hv,if_neg PX,if_neg hv];lia
  ·rw [if_neg hj,kj v u k r ks (by lia),if_neg hj]
   by_cases hv:v=k
   ·subst hv
    rw [if_pos rfl,if_pos rfl,if_pos rfl];lia
   ·rw [if_neg hv,if_neg hv,if_neg hv];lia
theorem wI(x:Lf):∀ f:Lf,cnt (Lf.app x f).fo=cnt f.fo+cnt x.fo
 | .nil=>by show cnt x.fo=0+cnt x.fo;lia
 | .nd j r k s=>by
  show 1+cnt k.fo+cnt (Lf.app x s).fo=1+cnt k.fo+cnt s.fo+cnt x.fo
  rw [wI x s];lia
theorem pz(u k:Nat)(r:List Int):∀ f:Lf,cnt (ins u k r f).fo<=cnt f.fo+cJ u f
 | .nil=>RM _
 | .nd j r' ks s=>by
  show 1+cnt (if j=u then Lf.app (.nd k r .nil .nil) ks else ins u k r ks).fo+cnt (ins u k r s).fo<=1+cnt ks.fo+cnt s.fo+((if j=u then 1 else 0)+cJ u ks+cJ u s)
  have h2:=pz u k r s
  by_cases hj:j=u
  ·rw [if_pos hj,wI,if_pos hj]
   show 1+(cnt ks.fo+1)+_<=_
   lia
  ·have h1:=pz u k r ks
   rw [if_neg hj,if_neg hj]
   lia
def Lv(ds:List Int):Int->Lf->Prop
 | _,.nil=>True
 | d,.nd j _ k s=>ds.getD j 0=d/\Lv ds (d+1) k/\Lv ds d s
theorem Ar{ds:List Int}{x:Lf}:∀ {d:Int} {f:Lf},Lv ds d f->Lv ds d x->Lv ds d (Lf.app x f)
 | _,.nil,_,h=>h
 | _,.nd _ _ _ _,⟨a,b,c⟩,h=>⟨a,b,Ar c h⟩
theorem uN{ds:List Int}{u k:Nat}{r:List Int}(hk:ds.getD k 0=ds.getD u 0+1):∀ {d:Int} {f:Lf},Lv ds d f->Lv ds d (ins u k r f)
 | _,.nil,_=>trivial
 | d,.nd j r' ks s,⟨a,b,c⟩=>by
  refine⟨a,?_,uN hk c⟩
  by_cases hj:j=u
  ·rw [if_pos hj]
   subst hj
   exact Ar b ⟨by rw [hk,a],trivial,trivial⟩
  ·rw [if_neg hj];exact uN hk b
theorem pA{ds:List Int}{x:Int}:∀ {d:Int} {f:Lf},(∀ v,ds.length<=v->cJ v f=0)->Lv ds d f->Lv (ds++[x]) d f
 | _,.nil,_,_=>trivial
 | d,.nd j r ks s,h,⟨a,b,c⟩=>by
  have hj:j<ds.length:=by
   refine Nat.lt_of_not_le fun z=>?_
   have q:(if j=j then 1 else 0)+cJ j ks+cJ j s=0:=h j z
   rw [if_pos rfl] at q
   lia
  refine⟨?_,pA (fun v hv=>?_) b,pA (fun v hv=>?_) c⟩
  ·rw [getD_eq_getElem?_getD,RO hj,<- getD_eq_getElem?_getD];exact a
  ·have q:(if j=v then 1 else 0)+cJ v ks+cJ v s=0:=h v hv
   lia
  ·have q:(if j=v then 1 else 0)+cJ v ks+cJ v s=0:=h v hv
   lia
theorem uO{ds:List Int}(h8:∀ d∈ds,d<=8):∀ {d:Int} {f:Lf},1<=d->d<=9->Lv ds d f->(dep f.fo:Int)+d<=9
 | _,.nil,_,h,_=>by show (0:Int)+_<=9;lia
 | d,.nd j r ks s,h1,h9,⟨a,b,c⟩=>by
  have hd:d<=8:=by
   by_cases hj:j<ds.length
   ·rw [<- a,getD_eq_getElem?_getD,R3 hj];exact h8 _ (Ss hj)
   ·rw [getD_eq_getElem?_getD,List.getElem?_eq_none (Nat.le_of_not_lt hj)] at a
    have:(0:Int)=d:=a
    lia
  have q1:=uO h8 (by lia) (by lia) b
  have q2:=uO h8 h1 h9 c
  show ((max (dep ks.fo+1) (dep s.fo):Nat):Int)+d<=9
  lia
theorem bG{H H':Hp}{p:Addr}(s:aj H H')(n:H' p=none):H p=none:=by
 cases e:H p with
 | none=>rfl
 | some v=>rw [s _ _ e] at n;cases n
inductive dH(K:Frag)(H:Hp)(t a c:Nat->Addr):List V->Lf->Prop where
 | nil:dH K H t a c [] .nil
 | nd {j:Nat} {r:List Int} {us xs:List V} {ks s:Lf} (ht:aT K H (t j) [.ref (a j),.ref (c j)]) (ha:aT K H (a j) (r.map V.int)) (h5:r.length=5) (hl:H (c j)=some (.lst us)) (hk:dH K H t a c us ks) (hr:dH K H t a c xs s):dH K H t a c (.ref (t j)::xs) (.nd j r ks s)
section
variable {K:Frag}{H H':Hp}{t a c t' a' c':Nat->Addr}
theorem dH.fo{us:List V}{f:Lf}(h:dH K H t a c us f):cP K H us f.fo:=by
 induction h with
 | nil=>exact .nil
 | nd ht ha h5 hl _ _ i1 i2=>exact .nd ht ha h5 hl i1 i2
theorem ll{j v:Nat}{r:List Int}{ks s:Lf}(h:cJ v ks≠0):cJ v (.nd j r ks s)≠0:=by
 show (if j=v then 1 else 0)+cJ v ks+cJ v s≠0
 lia
theorem sj{j v:Nat}{r:List Int}{ks s:Lf}(h:cJ v s≠0):cJ v (.nd j r ks s)≠0:=by
 show (if j=v then 1 else 0)+cJ v ks+cJ v s≠0
 lia
theorem sk{j:Nat}{r:List Int}{ks s:Lf}:cJ j (.nd j r ks s)≠0:=by
 show (if j=j then 1 else 0)+cJ j ks+cJ j s≠0
 rw [if_pos rfl]
 lia
theorem dH.go(hs:∀ x ys,aT K H x ys->aT K H' x ys){us:List V}{f:Lf}(h:dH K H t a c us f)(he:∀ j,cJ j f≠0->t' j=t j/\a' j=a j/\c' j=c j/\H' (c j)=H (c j)):dH K H' t' a' c' us f:=by
 induction h with
 | nil=>exact .nil
 | nd ht ha h5 hl _ _ i1 i2 =>
  obtain ⟨e1,e2,e3,e4⟩:=he _ sk
  rw [<- e1]
  exact .nd (by rw [e1,e2,e3];exact hs _ _ ht) (by rw [e2];exact hs _ _ ha) h5 (by rw [e3,e4];exact hl) (i1 fun v hv=>he v (ll hv)) (i2 fun v hv=>he v (sj hv))
theorem dH.app{us vs:List V}{f x:Lf}(h:dH K H t a c us f)(hx:dH K H t a c vs x):dH K H t a c (us++vs) (Lf.app x f):=by
 induction h with
 | nil=>exact hx
 | nd ht ha h5 hl hk _ _ i2=>exact .nd ht ha h5 hl hk i2
theorem dH.put{u k:Nat}{r:List Int}{vs:List V}(hs:∀ x ys,aT K H x ys->aT K H' x ys)(hu:H (c u)=some (.lst vs))(LV:H' (c u)=some (.lst (vs++[.ref (t k)])))(hk:dH K H' t a c [.ref (t k)] (.nd k r .nil .nil)){us:List V}{f:Lf}(h:dH K H t a c us f)(ho:cJ u f<=1)(he:∀ j,cJ j f≠0->j≠u->H' (c j)=H (c j)):dH K H' t a c us (ins u k r f):=by
 induction h with
 | nil=>exact .nil
 | @nd j r' us xs ks s ht ha h5 hl PY hr i1 i2 =>
  have e:cJ u (.nd j r' ks s)=(if j=u then 1 else 0)+cJ u ks+cJ u s:=rfl
  rw [e] at ho
  have t2:=i2 (by lia) fun v hv=>he v (sj hv)
  by_cases hj:j=u
  ·subst hj
   rw [if_pos rfl] at ho
   rw [hu] at hl
   cases hl
   have kk:dH K H' t a c vs ks:=PY.go hs fun v hv=>⟨rfl,rfl,rfl,he v (ll hv) fun z=>hv (by rw [z];lia)⟩
   refine .nd (hs _ _ ht) (hs _ _ ha) h5 LV ?_ t2
   rw [if_pos rfl]
   exact kk.app hk
  ·refine .nd (hs _ _ ht) (hs _ _ ha) h5 ((he j sk hj).trans hl) ?_ t2
   rw [if_neg hj]
   exact i1 (by lia) fun v hv=>he v (ll hv)
end
def t6(ds:List Int):Nat->Nat
 | 0=>0
 | u+1=>if 8<=ds.getD (u+1) 0 then t6 ds u else u+1
theorem FQ{ds:List Int}:∀ {u:Nat},¬ 8<=ds.getD u 0->t6 ds u=u
 | 0,_=>rfl
 | u+1,h=>by unfold t6;rw [if_neg h]
theorem As{ds:List Int}{u:Nat}(h:8<=ds.getD (u+1) 0):t6 ds (u+1)=t6 ds u:=by
 show (if 8<=ds.getD (u+1) 0 then t6 ds u else u+1)=t6 ds u
 rw [if_pos h]
def gf(ns:List Int)(k:Nat):Int:=ns.getD (2+k) 0 % 1000003
def gR(wd:Int)(ns:List Int)(k:Nat):List Int:=if (k:Int)=wd then [250+xN (gf ns k) 2 451,0,0,0,fk (gf ns k) 3 2] else Ke (gf ns k / 16) 6 2
theorem sm(wd:Int)(ns:List Int)(k:Nat):(gR wd ns k).length=5:=by unfold gR;split <;> rfl
def JB(ns:List Int):Int:=([1,2,12]:List Int).getD (ns.getD 2 0 % 3).toNat 0
theorem JC(ns:List Int):rj [V.int 1,V.int 2,V.int 12] (ns.getD (Int.toNat 2) 0 % 3)=some (.int (JB ns))/\0<JB ns:=by
 unfold JB
 show rj [V.int 1,V.int 2,V.int 12] (ns.getD 2 0 % 3)=_/\_
 have hz:ns.getD 2 0 % 3=0\/ns.getD 2 0 % 3=1\/ns.getD 2 0 % 3=2:=by lia
 generalize ns.getD 2 0 % 3=z at hz
 rcases hz with rfl|rfl|rfl <;> exact⟨rfl,by decide⟩
def yM(ns:List Int)(k:Nat):Nat:=((k:Int) - 1 - gf ns k % 16 % JB ns).toNat
def bZ(wd:Int)(ns:List Int):Nat->List Int×Lf
 | 0=>([],.nil)
 | k+1=>if k=0 then ([1],.nd 0 (gR wd ns 0) .nil .nil) else ((bZ wd ns k).1++[(bZ wd ns k).1.getD (t6 (bZ wd ns k).1 (yM ns k)) 0+1],ins (t6 (bZ wd ns k).1 (yM ns k)) k (gR wd ns k) (bZ wd ns k).2)
def uP:Fo->List PyData
 | .nil=>[]
 | .nd r k s=>.tuple [.tuple (r.map PyData.int),.list (uP k)]::uP s
theorem cP.tells{K:Frag}{H:Hp}{xs:List V}{f:Fo}(h:cP K H xs f):Tells K H xs (uP f):=by
 induction h with
 | nil=>exact .nil
 | nd ht ha h5 hl _ _ i1 i2=>exact .cons (.tup ht (.cons (ei.row ha) (.cons (.lst (b5.of hl) i1) .nil))) i2
theorem uQ:∀ f,PyData.canLayAll0 (uP f)=true
 | .nil=>rfl
 | .nd r k s=>by
  show (PyData.canLay0 (.tuple [.tuple (r.map PyData.int),.list (uP k)]) && PyData.canLayAll0 (uP s))=true
  rw [uQ s]
  show ((PyData.canLay0 (.tuple (r.map PyData.int)) && (PyData.canLayAll0 (uP k) && true)) && true)=true
  rw [wy,uQ k];rfl
theorem pB:∀ f,PyData.depthAll (uP f)<=3*dep f
 | .nil=>RM _
 | .nd r k s=>by
  have h1:=pB k
  have h2:=pB s
  have h3:=rV r
  have e:dep (.nd r k s)=max (dep k+1) (dep s):=rfl
  rw [e]
  simp only [uP,PyData.depthAll,PyData.depth] at h3 ⊢
  lia
theorem LW{r:List Int}(h:r.length=5):∃ a0 a1 a2 a3 a4,r=[a0,a1,a2,a3,a4]:=by
 match r,h with
 | [a0,a1,a2,a3,a4],_=>exact⟨a0,a1,a2,a3,a4,rfl⟩
def Rk(m:Nat)(r:List Int):Prop:=RB 700 60 r/\0<m/\sf r*m<10 ^ 60/\sg r*m<10 ^ 60
def Bm(m:Nat):Fo->Prop
 | .nil=>True
 | .nd r k s=>Rk m r/\Bm m k/\Bm m s
theorem fj.at{K:Frag}{P:Addr->Prop}{H:Hp}{xs:List V}{f:Fo}(h:fj K P H xs f):cP K H xs f:=by
 induction h with
 | nil=>exact .nil
 | nd ht ha h5 hl _ _ _ i1 i2=>exact .nd ht ha h5 hl i1 i2
theorem lp{f:Fo}(h:dep f<=9):SeqAt.shaped (.list (uP f))=true:=by
 unfold SeqAt.shaped
 have l:PyData.canLay0 (.list (uP f))=true:=by
  show PyData.canLayAll0 (uP f)=true
  exact uQ f
 have d:PyData.depth (.list (uP f))<=64:=by
  have h1:=pB f
  simp only [PyData.depth]
  lia
 simp [l,d]
theorem lq:PyData.eqv (.list (uP .nil)) (.list [])=true:=by decide +kernel
theorem n9(r:List Int)(k s:Fo):PyData.eqv (.list (uP (.nd r k s))) (.list [])=false:=by
 show PyData.eqv (.list (_::_)) (.list [])=false
 simp [PyData.eqv,PyData.eqvAll]
theorem pC:∀ f g:Fo,dep (f.app g)=max (dep f) (dep g)
 | .nil,g=>by show dep g=max 0 (dep g);lia
 | .nd r k s,g=>by
  show max (dep k+1) (dep (s.app g))=max (max (dep k+1) (dep s)) (dep g)
  rw [pC s g];lia
theorem fj.len{K:Frag}{P:Addr->Prop}{H:Hp}{xs:List V}{f:Fo}(h:fj K P H xs f):xs=[]↔f.isNil=true:=by
 cases h with
 | nil=>exact⟨fun _=>rfl,fun _=>rfl⟩
 | nd=>exact⟨fun z=>(nomatch z),fun z=>(nomatch z)⟩
theorem FR:PySem.Str.ofString " "=⟨#[32]⟩:=by decide
theorem cP.get{K:Frag}{H:Hp}:∀ {us:List V} {f:Fo} {i:Nat} {x:V},cP K H us f->us[i]?=some x->∃ t r k,x=.ref t/\(bU f)[i]?=some (r,k)/\cP K H [.ref t] (.nd r k .nil)
 | _,_,i,x,.nil,h=>by simp at h
 | _,_,0,x,.nd ht ha h5 hl hk hr,h=>by cases h;exact⟨_,_,_,rfl,rfl,.nd ht ha h5 hl hk .nil⟩
 | _,_,i+1,x,.nd ht ha h5 hl hk hr,h=>by
  obtain ⟨t,r,k,e,g,a⟩:=cP.get hr (i:=i) (by simpa using h)
  exact⟨t,r,k,e,by simpa [bU] using g,a⟩
theorem cP.FT{K:Frag}{H:Hp}{us:List V}{f:Fo}(h:cP K H us f):us.length=(bU f).length:=by
 induction h with
 | nil=>rfl
 | nd _ _ _ _ _ _ _ i2=>simp [bU,i2]
theorem wJ{m:Nat}:∀ {f:Fo} {r:List Int} {k:Fo},(r,k)∈bU f->Bm m f->Bm m (.nd r k .nil)/\dep k+1<=dep f/\cnt k+1<=cnt f
 | .nd r' k' s',r,k,h,hK=>by
  obtain ⟨h1,h2,h3⟩:=hK
  have e1:dep (.nd r' k' s')=max (dep k'+1) (dep s'):=rfl
  have e2:cnt (.nd r' k' s')=1+cnt k'+cnt s':=rfl
  rcases Sd.mp h with z|z
  ·cases z
   exact⟨⟨h1,h2,trivial⟩,by lia,by lia⟩
  ·obtain ⟨g1,g2,g3⟩:=wJ z h3
   exact⟨g1,by lia,by lia⟩
theorem sr{m:Nat}:∀ {f:Fo} {p:List Int×Fo},p∈bU f->(cQ m p).length<=(jW m f).length
 | .nd r' k' s',p,h=>by
  show _<=(cQ m (r',k')++(if s'.isNil=true then [] else 32::jW m s')).length
  rw [Sa]
  rcases Sd.mp h with z|z
  ·rw [z];lia
  ·have:=sr (m:=m) z
   cases s' with
   | nil=>cases z
   | nd r k s=>rw [if_neg (show ¬ (Fo.nd r k s).isNil=true from Bool.noConfusion),length_cons];lia
theorem su(m:Nat):∀ f:Fo,((bU f).map fun p=>(cQ m p).length).sum+(bU f).length<=(jW m f).length+1
 | .nil=>by simp [bU]
 | .nd r k s=>by
  have ih:=su m s
  show ((cQ m (r,k)).length::(bU s).map fun p=>(cQ m p).length).sum+((r,k)::bU s).length<=(cQ m (r,k)++(if s.isNil=true then [] else 32::jW m s)).length+1
  rw [List.sum_cons,length_cons,Sa]
  cases s with
  | nil=>simp [bU]
  | nd r' k' s'=>rw [if_neg (show ¬ (Fo.nd r' k' s').isNil=true from Bool.noConfusion),length_cons];lia
theorem Cr(m:Nat)(f:Fo):PySem.Str.join ⟨#[32]⟩ ((bU f).map fun p=>(⟨(cQ m p).toArray⟩:PySem.Str))=⟨(jW m f).toArray⟩:=by
 refine tZ.gH ?_
 rw [tZ.rN,Sl,<- si]
 rfl
theorem bA{Z X:List Nat}{s c:Nat}(h:Z.drop s=X):Z[s]?=some c↔c∈X.head?:=by
 have e:(Z.drop s)[0]?=Z[s]?:=by rw [getElem?_drop,Nat.add_zero]
 rw [<- e,h]
 cases X with
 | nil=>simp
 | cons a t=>simp
theorem sv:∀ f:Fo,(bU f).length<=cnt f
 | .nil=>RM _
 | .nd r k s=>by
  have:=sv s
  show (bU s).length+1<=1+cnt k+cnt s
  lia
theorem wK:∀ {f:Fo} {r:List Int} {k:Fo},(r,k)∈bU f->dep k+1<=dep f/\cnt k+1<=cnt f
 | .nd r' k' s',r,k,h=>by
  have e1:dep (.nd r' k' s')=max (dep k'+1) (dep s'):=rfl
  have e2:cnt (.nd r' k' s')=1+cnt k'+cnt s':=rfl
  rcases Sd.mp h with z|z
  ·cases z
   exact⟨by lia,by lia⟩
  ·obtain ⟨g2,g3⟩:=wK z
   exact⟨by lia,by lia⟩
theorem xO{α:Type}(x:α)(n:Nat):(List.range n).map (fun _=>x)=List.replicate n x:=by
 refine List.eq_replicate_iff.mpr ⟨by simp,fun b hb=>?_⟩
 obtain ⟨_,_,e⟩:=List.mem_map.mp hb
 exact e.symm
def jz(P:List Int->Prop):Fo->Prop
 | .nil=>True
 | .nd r k s=>P r/\jz P k/\jz P s
def Lb(f:Nat->List Int):Lf->Prop
 | .nil=>True
 | .nd j r k s=>r=f j/\Lb f k/\Lb f s
theorem Au{f:Nat->List Int}{x:Lf}:∀ {g:Lf},Lb f g->Lb f x->Lb f (Lf.app x g)
 | .nil,_,h=>h
 | .nd _ _ _ _,⟨a,b,c⟩,h=>⟨a,b,Au c h⟩
theorem uR{f:Nat->List Int}{u k:Nat}:∀ {g:Lf},Lb f g->Lb f (ins u k (f k) g)
 | .nil,_=>trivial
 | .nd j r' ks s,⟨a,b,c⟩=>by
  refine⟨a,?_,uR c⟩
  by_cases hj:j=u
  ·rw [if_pos hj];exact Au b ⟨rfl,trivial,trivial⟩
  ·rw [if_neg hj];exact uR b
theorem DD(wd:Int)(ns:List Int):∀ n,Lb (gR wd ns) (bZ wd ns n).2
 | 0=>trivial
 | k+1=>by
  unfold bZ
  by_cases h:k=0
  ·rw [if_pos h];exact⟨rfl,trivial,trivial⟩
  ·rw [if_neg h];exact uR (DD wd ns k)
theorem uS{f:Nat->List Int}{P:List Int->Prop}(hP:∀ j,P (f j)):∀ {g:Lf},Lb f g->jz P g.fo
 | .nil,_=>trivial
 | .nd _ _ _ _,⟨a,b,c⟩=>⟨by rw [a];exact hP _,uS hP b,uS hP c⟩
theorem pD{m:Nat}:∀ {g:Fo},Bm m g↔jz (Rk m) g
 | .nil=>Iff.rfl
 | .nd r k s=>by
  show Rk m r/\Bm m k/\Bm m s↔Rk m r/\jz (Rk m) k/\jz (Rk m) s
  rw [pD (g:=k),pD (g:=s)]
theorem jz.imp{P P':List Int->Prop}(h:∀ r,P r->P' r):∀ {g:Fo},jz P g->jz P' g
 | .nil,_=>trivial
 | .nd _ _ _,⟨a,b,c⟩=>⟨h _ a,jz.imp h b,jz.imp h c⟩
theorem Cs{r:List Int}(h:RB 6 2 r):sf r<=85377600/\sg r<=85377600:=by
 obtain ⟨a0,a1,a2,a3,a4,rfl,h0,h1,h2,h3,h4⟩:=h
 have e:aK 6 2 2 2 2=85377600:=by decide
 have t:=gZ (show a0.toNat<=6 by lia) (show a1.toNat<=2 by lia) (show a2.toNat<=2 by lia) (show a3.toNat<=2 by lia) (show a4.toNat<=2 by lia)
 have b:=gZ (show (-a0).toNat<=6 by lia) (show (-a1).toNat<=2 by lia) (show (-a2).toNat<=2 by lia) (show (-a3).toNat<=2 by lia) (show (-a4).toNat<=2 by lia)
 constructor
 ·show (aK a0.toNat a1.toNat a2.toNat a3.toNat a4.toNat).toNat<=_
  lia
 ·show (aK (-a0).toNat (-a1).toNat (-a2).toNat (-a3).toNat (-a4).toNat).toNat<=_
  lia
theorem Av{r:List Int}{m:Nat}(h:RB 6 2 r)(hm:1<=m/\m<=30):Rk m r/\(t5 m r).length<=21:=by
 obtain ⟨t,b⟩:=Cs h
 have t1:sf r*m<=85377600*30:=Nat.mul_le_mul t hm.2
 have b1:sg r*m<=85377600*30:=Nat.mul_le_mul b hm.2
 have hb:RB 700 60 r:=by
  obtain ⟨a0,a1,a2,a3,a4,e,h0,h1,h2,h3,h4⟩:=h
  exact⟨a0,a1,a2,a3,a4,e,by lia,by lia,by lia,by lia,by lia⟩
 refine⟨⟨hb,by lia,by lia,by lia⟩,?_⟩
 have l1:(aM.txt (sf r*m)).length<=10:=aM.iP (by decide) (by lia)
 have l2:(aM.txt (sg r*m)).length<=10:=aM.iP (by decide) (by lia)
 have e1:(aM.txt (sf r*m)).cps.toList.length=(aM.txt (sf r*m)).length:=Array.length_toList
 have e2:(aM.txt (sg r*m)).cps.toList.length=(aM.txt (sg r*m)).length:=Array.length_toList
 unfold t5
 rw [Sa,length_cons,e1,e2]
 lia
theorem pE{m:Nat}:∀ {f:Fo},jz (fun r=>(t5 m r).length<=21) f->(jW m f).length<=24*cnt f
 | .nil,_=>RM _
 | .nd r k s,h=>by
  obtain ⟨i3,h2,h3⟩:=h
  have i1:=pE h2
  have i2:=pE h3
  show ((t5 m r++(if k.isNil=true then [] else 40::(jW m k++[41])))++(if s.isNil=true then [] else 32::jW m s)).length<=24*(1+cnt k+cnt s)
  rw [Sa,Sa]
  have e1:(if k.isNil=true then [] else 40::(jW m k++[41])).length<=(jW m k).length+2:=by split <;> simp
  have e2:(if s.isNil=true then [] else 32::jW m s).length<=(jW m s).length+1:=by split <;> simp
  lia
theorem JD (c:Nat):(!(!(PySem.Builtin.Str.occurrences (PySem.Str.ofString "( )") ⟨#[c]⟩ 0 (PySem.Str.ofString "( )").length 1).isEmpty))=!DC c:=by
 have ec:(PySem.Str.ofString "( )").cps=#[40,32,41]:=by decide
 congr 1
 rcases aM.kO (PySem.Str.ofString "( )") c with ⟨h1,h2⟩|⟨i,r,h1,h2,_⟩
 ·rw [h2]
  rw [ec] at h1
  unfold DC
  have a0:c≠40:=fun e=>h1 0 (by rw [e];rfl)
  have a1:c≠32:=fun e=>h1 1 (by rw [e];rfl)
  have a2:c≠41:=fun e=>h1 2 (by rw [e];rfl)
  simp [a0,a1,a2]
 ·rw [h1]
  rw [ec] at h2
  have hi:i<3:=by
   rcases lt_or_ge i 3 with h|h
   ·exact h
   ·rw [Array.getElem?_eq_none h] at h2;cases h2
  match i,hi with
  | 0,_|1,_|2,_=>cases h2;rfl
theorem Aw{H:Hp}{Q:VK}{z:PySem.Str}{i:Int}{n:Nat}(hz:z.length=n)(hn:n<=2000)(h0:0<=i)(h1:i<n)(h:∀ c:Nat,Q (.str ⟨#[c]⟩) H):BI (.str z) (.int i) H Q:=by
 obtain ⟨c,hc⟩:=Jw (xs:=z.cps.toList) (n:=n) (by rw [Array.length_toList];exact hz) h0 h1
 exact jV (bg (by lia)) hc (h c)
def aJ:List Nat->Nat
 | []=>0
 | c::r=>(if c=47 then 1 else 0)+aJ r
theorem eP:∀ a b:List Nat,aJ (a++b)=aJ a+aJ b
 | [],b=>by show aJ b=0+aJ b;lia
 | c::a,b=>by show _+aJ (a++b)=_+aJ a+aJ b;rw [eP a b];lia
section
variable (rd:List Nat->Option (List Int))
def l7(f:List Nat->Option ((List Int×Fo)×List Nat)):Nat->List Nat->Option (Fo×List Nat)
 | 0,_=>none
 | n+1,L=>match f L.tail with
  | none=>none
  | some ((r,k),R)=>if R.head?=some 32 then (match l7 f n R with|none=>none|some (g,R')=>some (.nd r k g,R')) else if R.head?=some 41 then some (.nd r k .nil,R.tail) else none
def fm:Nat->List Nat->Option ((List Int×Fo)×List Nat)
 | 0,_=>none
 | r+1,L=>match rd (L.take (aq L)) with
  | none=>none
  | some row=>if (L.drop (aq L)).head?=some 40 then (match l7 (fm r) (L.drop (aq L)).length (L.drop (aq L)) with|none=>none|some (f,R')=>some ((row,f),R')) else some ((row,.nil),L.drop (aq L))
def cS:List Nat->List (Fo×List Int)->Fo->List Nat×List (Fo×List Int)×Fo
 | L,[],cur=>(L,[],cur)
 | [],fs,cur=>([],fs,cur)
 | c::R,(g,r)::fs,cur=>if c=41 then cS R fs (g.app (.nd r cur .nil)) else (c::R,(g,r)::fs,cur)
def t8:Nat->List Nat->List (Fo×List Int)->Fo->Option Fo
 | 0,_,_,_=>none
 | n+1,L,fs,cur=>if fs.length<8 then (match rd (L.take (aq L)) with
  | none=>none
  | some row=>if (L.drop (aq L)).head?=some 40 then t8 n (L.drop (aq L)).tail ((cur,row)::fs) .nil
   else if (cS (L.drop (aq L)) fs (cur.app (.nd row .nil .nil))).1=[]/\(cS (L.drop (aq L)) fs (cur.app (.nd row .nil .nil))).2.1=[] then some (cS (L.drop (aq L)) fs (cur.app (.nd row .nil .nil))).2.2
   else if (cS (L.drop (aq L)) fs (cur.app (.nd row .nil .nil))).1.head?≠some 32\/(cS (L.drop (aq L)) fs (cur.app (.nd row .nil .nil))).2.1=[] then none
   else t8 n (cS (L.drop (aq L)) fs (cur.app (.nd row .nil .nil))).1.tail (cS (L.drop (aq L)) fs (cur.app (.nd row .nil .nil))).2.1 (cS (L.drop (aq L)) fs (cur.app (.nd row .nil .nil))).2.2) else none
def pF:Nat->Nat->List Nat->List (Fo×List Int)->Fo->Option Fo
 | 0,_,_,_,_=>none
 | n+1,m,L,fs,cur=>if m<12/\fs.length<8 then (match rd (L.take (aq L)) with
  | none=>none
  | some row=>if (L.drop (aq L)).head?=some 40 then pF n (m+1) (L.drop (aq L)).tail ((cur,row)::fs) .nil
   else if (cS (L.drop (aq L)) fs (cur.app (.nd row .nil .nil))).1=[]/\(cS (L.drop (aq L)) fs (cur.app (.nd row .nil .nil))).2.1=[] then some (cS (L.drop (aq L)) fs (cur.app (.nd row .nil .nil))).2.2
   else if (cS (L.drop (aq L)) fs (cur.app (.nd row .nil .nil))).1.head?≠some 32\/(cS (L.drop (aq L)) fs (cur.app (.nd row .nil .nil))).2.1=[] then none
   else pF n (m+1) (cS (L.drop (aq L)) fs (cur.app (.nd row .nil .nil))).1.tail (cS (L.drop (aq L)) fs (cur.app (.nd row .nil .nil))).2.1 (cS (L.drop (aq L)) fs (cur.app (.nd row .nil .nil))).2.2) else none
theorem iY:∀ (L:List Nat) (fs:List (Fo×List Int)) (cur:Fo),(cS L fs cur).1.length<=L.length/\aJ (cS L fs cur).1=aJ L/\(cS L fs cur).2.1.length<=fs.length
 | L,[],cur=>by unfold cS;exact⟨RM _,rfl,RM _⟩
 | [],(g,r)::fs,cur=>by unfold cS;exact⟨RM _,rfl,RM _⟩
 | c::R,(g,r)::fs,cur=>by
  unfold cS
  split
  ·rename_i e
   obtain ⟨a,b,d⟩:=iY R fs (g.app (.nd r cur .nil))
   subst e
   refine⟨by rw [length_cons];lia,?_,by rw [length_cons];lia⟩
   rw [b];show _=(if 41=47 then 1 else 0)+aJ R;simp
  ·exact⟨RM _,rfl,RM _⟩
theorem uT{L:List Nat}{fs:List (Fo×List Int)}{cur:Fo}(h:L.head?≠some 41):cS L fs cur=(L,fs,cur):=by
 cases fs with
 | nil=>unfold cS;rfl
 | cons f fs =>
  cases L with
  | nil=>rfl
  | cons c R =>
   obtain ⟨g,r⟩:=f
   unfold cS
   rw [if_neg (fun z=>h (by rw [z];rfl))]
theorem cW{L:List Nat}{c:Nat}(h:L.head?=some c)(hc:c≠47):aJ L.tail=aJ L/\L.tail.length+1=L.length:=by
 cases L with
 | nil=>cases h
 | cons d R =>
  cases h
  exact⟨by show aJ R=(if c=47 then 1 else 0)+aJ R;rw [if_neg hc];lia,rfl⟩
theorem iZ:∀ (n n':Nat) (L:List Nat) (fs:List (Fo×List Int)) (cur:Fo),L.length<n->L.length<n'->t8 rd n L fs cur=t8 rd n' L fs cur
 | 0,_,_,_,_,h,_=>absurd h (Sv _)
 | _+1,0,_,_,_,_,h=>absurd h (Sv _)
 | n+1,n'+1,L,fs,cur,h,h'=>by
  unfold t8
  split
  ·cases ro:rd (L.take (aq L)) with
   | none=>rfl
   | some row =>
    dsimp only
    have hl:(L.drop (aq L)).length<=L.length:=by rw [length_drop];lia
    split
    ·rename_i e
     have:=(cW e (by decide)).2
     exact iZ n n' _ _ _ (by lia) (by lia)
    ·split
     ·rfl
     ·split
      ·rfl
      ·rename_i e
       have hc:=(iY (L.drop (aq L)) fs (cur.app (.nd row .nil .nil))).1
       have e2:(cS (L.drop (aq L)) fs (cur.app (.nd row .nil .nil))).1.head?=some 32:=by
        rcases Classical.em ((cS (L.drop (aq L)) fs (cur.app (.nd row .nil .nil))).1.head?=some 32) with z|z
        ·exact z
        ·exact absurd (.inl z) e
       have:=(cW e2 (by decide)).2
       exact iZ n n' _ _ _ (by lia) (by lia)
  ·rfl
theorem pG(hr:∀ w r,rd w=some r->aJ w=1):∀ (n m:Nat) (L:List Nat) (fs:List (Fo×List Int)) (cur:Fo),pF rd n m L fs cur=if m+aJ L<=12 then t8 rd n L fs cur else none
 | 0,_,_,_,_=>by unfold pF t8;split <;> rfl
 | n+1,m,L,fs,cur=>by
  unfold pF t8
  by_cases hf:fs.length<8
  ·cases ro:rd (L.take (aq L)) with
   | none=>dsimp only;split <;> split <;> rfl
   | some row =>
    dsimp only
    have h1:=hr _ _ ro
    have h2:aJ L=1+aJ (L.drop (aq L)):=by
     rw [<- h1,<- eP,List.take_append_drop]
    by_cases hm:m<12
    ·rw [if_pos ⟨hm,hf⟩,if_pos hf]
     split
     ·rename_i e
      rw [pG hr n (m+1),(cW e (by decide)).1]
      rw [show m+1+aJ (L.drop (aq L))=m+aJ L by lia]
     ·have hc:=(iY (L.drop (aq L)) fs (cur.app (.nd row .nil .nil))).2.1
      split
      ·rename_i e
       rw [e.1] at hc
       rw [if_pos (by have:aJ (L.drop (aq L))=0:=hc.symm;lia)]
      ·split
       ·split <;> rfl
       ·rename_i e
        have e2:(cS (L.drop (aq L)) fs (cur.app (.nd row .nil .nil))).1.head?=some 32:=by
         rcases Classical.em ((cS (L.drop (aq L)) fs (cur.app (.nd row .nil .nil))).1.head?=some 32) with z|z
         ·exact z
         ·exact absurd (.inl z) e
        rw [pG hr n (m+1),(cW e2 (by decide)).1,hc]
        rw [show m+1+aJ (L.drop (aq L))=m+aJ L by lia]
    ·rw [if_neg (fun z=>hm z.1),if_neg (show ¬ m+aJ L<=12 by lia)]
  ·rw [if_neg (fun z=>hf z.2),if_neg hf]
   split <;> rfl
def DE(L:List Nat)(fs:List (Fo×List Int))(cur:Fo):Option Fo :=
 if (cS L fs cur).1=[]/\(cS L fs cur).2.1=[] then some (cS L fs cur).2.2
 else if (cS L fs cur).1.head?≠some 32\/(cS L fs cur).2.1=[] then none
 else t8 rd ((cS L fs cur).1.tail.length+1) (cS L fs cur).1.tail (cS L fs cur).2.1 (cS L fs cur).2.2
theorem Ax{L:List Nat}{fs:List (Fo×List Int)}{cur:Fo}{row:List Int}(hf:fs.length<8)(ro:rd (L.take (aq L))=some row) :
  t8 rd (L.length+1) L fs cur=if (L.drop (aq L)).head?=some 40 then t8 rd ((L.drop (aq L)).tail.length+1) (L.drop (aq L)).tail ((cur,row)::fs) .nil else DE rd (L.drop (aq L)) fs (cur.app (.nd row .nil .nil)):=by
 have hl:(L.drop (aq L)).length<=L.length:=by rw [length_drop];lia
 conv=>lhs;unfold t8
 rw [if_pos hf,ro]
 dsimp only
 split
 ·rename_i e
  have:=(cW e (by decide)).2
  exact iZ rd _ _ _ _ _ (by lia) (by lia)
 ·unfold DE
  split
  ·rfl
  ·split
   ·rfl
   ·rename_i e
    have hc:=(iY (L.drop (aq L)) fs (cur.app (.nd row .nil .nil))).1
    have e2:(cS (L.drop (aq L)) fs (cur.app (.nd row .nil .nil))).1.head?=some 32:=by
     rcases Classical.em ((cS (L.drop (aq L)) fs (cur.app (.nd row .nil .nil))).1.head?=some 32) with z|z
     ·exact z
     ·exact absurd (.inl z) e
    have:=(cW e2 (by decide)).2
    exact iZ rd _ _ _ _ _ (by lia) (by lia)
theorem wL{f:List Nat->Option ((List Int×Fo)×List Nat)}(hf:∀ L t R,f L=some (t,R)->R.length<=L.length):∀ (n:Nat) (L:List Nat) (g:Fo) (R:List Nat),l7 f n L=some (g,R)->R.length<=L.length
 | 0,_,_,_,h=>nomatch h
 | n+1,L,g,R,h=>by
  unfold l7 at h
  have ht:L.tail.length<=L.length:=by rw [List.length_tail];lia
  split at h
  ·cases h
  ·rename_i r k R1 e
   have h1:=hf _ _ _ e
   split at h
   ·split at h
    ·cases h
    ·rename_i g' R' e'
     cases h
     have:=wL hf n _ _ _ e'
     lia
   ·split at h
    ·cases h
     rw [List.length_tail];lia
    ·cases h
theorem kl:∀ (r:Nat) (L:List Nat) (t:List Int×Fo) (R:List Nat),fm rd r L=some (t,R)->R.length<=L.length
 | 0,_,_,_,h=>nomatch h
 | r+1,L,t,R,h=>by
  have hl:(L.drop (aq L)).length<=L.length:=by rw [length_drop];lia
  unfold fm at h
  split at h
  ·cases h
  ·split at h
   ·split at h
    ·cases h
    ·rename_i f R' e
     cases h
     have:=wL (kl r) _ _ _ _ e
     lia
   ·cases h
    exact hl
theorem wM:∀ (r:Nat) (L:List Nat) (fs:List (Fo×List Int)) (cur:Fo),fs.length+r=8->t8 rd (L.length+1) L fs cur=(match fm rd r L with|none=>none|some ((row,k),R)=>DE rd R fs (cur.app (.nd row k .nil)))
 | 0,L,fs,cur,h=>by
  unfold t8 fm
  rw [if_neg (by lia)]
 | r+1,L,fs,cur,h=>by
  cases ro:rd (L.take (aq L)) with
  | none =>
   unfold t8 fm
   rw [if_pos (by lia),ro]
  | some row =>
   rw [Ax rd (by lia) ro]
   unfold fm
   rw [ro]
   dsimp only
   split
   ·rename_i e
    have sub:∀ (n:Nat) (M:List Nat) (g:Fo),M.length<=n->M≠[]->t8 rd (M.tail.length+1) M.tail ((cur,row)::fs) g=(match l7 (fm rd r) n M with|none=>none|some (f,R')=>DE rd R' fs (cur.app (.nd row (g.app f) .nil))):=by
     intro n
     induction n with
     | zero=>intro M g hn hM;exact absurd (List.eq_nil_of_length_eq_zero (by lia)) hM
     | succ n ih =>
      intro M g hn hM
      rw [wM r M.tail ((cur,row)::fs) g (by rw [length_cons];lia)]
      unfold l7
      cases hs:fm rd r M.tail with
      | none=>rfl
      | some p =>
       obtain ⟨⟨r1,k1⟩,R1⟩:=p
       dsimp only
       have hl:=kl rd r _ _ _ hs
       have Rg:M.tail.length+1=M.length:=by
        cases M with
        | nil=>exact absurd rfl hM
        | cons _ _=>rfl
       by_cases pH:R1.head?=some 32
       ·rw [if_pos pH]
        have qR:R1≠[]:=fun z=>by rw [z] at pH;cases pH
        conv=>lhs;unfold DE
        rw [uT (by rw [pH];decide)]
        dsimp only
        rw [if_neg (fun z=>qR z.1),if_neg (fun z=>z.elim (fun y=>y pH) (fun y=>nomatch y)),ih R1 _ (by lia) qR]
        cases l7 (fm rd r) n R1 with
        | none=>rfl
        | some q =>
         obtain ⟨f,R'⟩:=q
         dsimp only
         rw [Fo.jy]
         rfl
       ·rw [if_neg pH]
        by_cases i0:R1.head?=some 41
        ·rw [if_pos i0]
         cases R1 with
         | nil=>cases i0
         | cons c R2 =>
          cases i0
          dsimp only [List.tail]
          unfold DE
          rw [show cS (41::R2) ((cur,row)::fs) (g.app (.nd r1 k1 .nil))=cS R2 fs (cur.app (.nd row (g.app (.nd r1 k1 .nil)) .nil)) by conv=>lhs;unfold cS;rw [if_pos rfl]]
        ·rw [if_neg i0]
         dsimp only
         unfold DE
         rw [uT i0]
         dsimp only
         rw [if_neg (fun z=>nomatch z.2),if_pos (.inl pH)]
    rw [sub _ _ .nil (RM _) (fun z=>by rw [z] at e;cases e)]
    cases l7 (fm rd r) (L.drop (aq L)).length (L.drop (aq L)) with
    | none=>rfl
    | some q=>obtain ⟨f,R'⟩:=q;rfl
   ·rfl
theorem FU(hr:∀ w r,rd w=some r->aJ w=1)(L:List Nat):pF rd (L.length+1) 0 L [] .nil=if aJ L<=12 then (match fm rd 8 L with|none=>none|some ((row,k),R)=>if R=[] then some (.nd row k .nil) else none) else none:=by
 rw [pG rd hr,Nat.zero_add]
 split
 ·rw [wM rd 8 L [] .nil rfl]
  cases fm rd 8 L with
  | none=>rfl
  | some p =>
   obtain ⟨⟨row,k⟩,R⟩:=p
   dsimp only
   unfold DE
   have:cS R [] (Fo.nil.app (.nd row k .nil))=(R,[],.nd row k .nil):=by cases R <;> rfl
   rw [this]
   dsimp only
   by_cases hR:R=[]
   ·rw [if_pos ⟨hR,rfl⟩,if_pos hR]
   ·rw [if_neg (fun z=>hR z.1),if_pos (.inr rfl),if_neg hR]
 ·rfl
end
section
variable {f:List Nat->Option ((List Int×Fo)×List Nat)}{dn:Fo}{n:Nat}{L R:List Nat}{r:List Int}{k:Fo}
def Ct(f:List Nat->Option ((List Int×Fo)×List Nat))(dn:Fo)(n:Nat)(L:List Nat):Option (Fo×List Nat):=match l7 f n L with
 | none=>none
 | some (g,R)=>some (dn.app g,R)
theorem xP:l7 f n L=Ct f .nil n L:=by
 unfold Ct
 cases l7 f n L with
 | none=>rfl
 | some q=>obtain ⟨g,R⟩:=q;rfl
theorem sy(h:f L.tail=none):Ct f dn (n+1) L=none:=by
 unfold Ct l7
 rw [h]
theorem sC(h:f L.tail=some ((r,k),R)):Ct f dn (n+1) L=if R.head?=some 32 then Ct f (dn.app (.nd r k .nil)) n R else if R.head?=some 41 then some (dn.app (.nd r k .nil),R.tail) else none:=by
 conv=>lhs;unfold Ct l7
 rw [h]
 dsimp only
 by_cases e:R.head?=some 32
 ·rw [if_pos e,if_pos e]
  unfold Ct
  cases l7 f n R with
  | none=>rfl
  | some q =>
   obtain ⟨g,R'⟩:=q
   dsimp only
   rw [Fo.jy]
   rfl
 ·rw [if_neg e,if_neg e]
  by_cases e':R.head?=some 41
  ·rw [if_pos e',if_pos e']
  ·rw [if_neg e',if_neg e']
end
theorem ij{L:List Nat}(h:∀ c,L.head?=some c->c≠47):aJ L.tail=aJ L:=by
 cases L with
 | nil=>rfl
 | cons d R=>show aJ R=(if d=47 then 1 else 0)+aJ R;rw [if_neg (h d rfl)];lia
theorem wN{r:Nat}{f:List Nat->Option ((List Int×Fo)×List Nat)}(hf:∀ L t R,f L=some (t,R)->aJ L=1+cnt t.2+aJ R/\dep t.2+1<=r):∀ (n:Nat) (L:List Nat) (g:Fo) (R:List Nat),(∀ c,L.head?=some c->c≠47)->l7 f n L=some (g,R)->aJ L=cnt g+aJ R/\dep g<=r
 | 0,_,_,_,_,h=>nomatch h
 | n+1,L,g,R,h0,h=>by
  unfold l7 at h
  have ht:=ij h0
  split at h
  ·cases h
  ·rename_i r1 k1 R1 e
   obtain ⟨h1,h2⟩:=hf _ _ _ e
   have GR:aJ L.tail=1+cnt k1+aJ R1:=h1
   have Kc:dep k1+1<=r:=h2
   split at h
   ·rename_i PZ
    split at h
    ·cases h
    ·rename_i g' R' e'
     cases h
     obtain ⟨a,b⟩:=wN hf n _ _ _ (fun c hc=>by rw [PZ] at hc;cases hc;decide) e'
     refine⟨?_,max_le.mpr ⟨Kc,b⟩⟩
     show aJ L=1+cnt k1+cnt g'+aJ R
     lia
   ·split at h
    ·rename_i P0
     cases h
     refine⟨?_,max_le.mpr ⟨Kc,Sm _⟩⟩
     have:=(cW P0 (by decide)).1
     show aJ L=1+cnt k1+0+aJ R1.tail
     lia
    ·cases h
theorem km{rd:List Nat->Option (List Int)}(hr:∀ w r,rd w=some r->aJ w=1):∀ (r:Nat) (L:List Nat) (t:List Int×Fo) (R:List Nat),fm rd r L=some (t,R)->aJ L=1+cnt t.2+aJ R/\dep t.2+1<=r
 | 0,_,_,_,h=>nomatch h
 | r+1,L,t,R,h=>by
  unfold fm at h
  split at h
  ·cases h
  ·rename_i row ro
   have h2:aJ L=1+aJ (L.drop (aq L)):=by
    rw [<- hr _ _ ro,<- eP,List.take_append_drop]
   split at h
   ·rename_i P1
    split at h
    ·cases h
    ·rename_i g R' e
     cases h
     obtain ⟨a,b⟩:=wN (km hr r) _ _ _ _ (fun c hc=>by rw [P1] at hc;cases hc;decide) e
     exact⟨by show aJ L=1+cnt g+aJ R;lia,Nat.succ_le_succ b⟩
   ·cases h
    exact⟨by show aJ L=1+0+aJ (L.drop (aq L));lia,Nat.succ_le_succ (Sm _)⟩
theorem Ay(n:Nat):∃ q:(Nat×Nat×Nat×Nat×Nat)×Int,0<n->(n:Int)=aK q.1.1 q.1.2.1 q.1.2.2.1 q.1.2.2.2.1 q.1.2.2.2.2*q.2/\gG q.2/\1<=q.2:=by
 by_cases h:0<n
 ·obtain ⟨c0,c1,c2,c3,c4,m,e⟩:=iQ n h
  exact⟨((c0,c1,c2,c3,c4),m),fun _=>e⟩
 ·exact⟨((0,0,0,0,0),0),fun z=>absurd z h⟩
def dN(n:Nat):(Nat×Nat×Nat×Nat×Nat)×Int:=(Ay n).choose
theorem pI{n:Nat}(h:0<n):(n:Int)=aK (dN n).1.1 (dN n).1.2.1 (dN n).1.2.2.1 (dN n).1.2.2.2.1 (dN n).1.2.2.2.2*(dN n).2/\gG (dN n).2/\1<=(dN n).2:=(Ay n).choose_spec h
def FV(t b:Nat):List Int:=[((dN t).1.1:Int) - ((dN b).1.1:Nat),((dN t).1.2.1:Int) - ((dN b).1.2.1:Nat),((dN t).1.2.2.1:Int) - ((dN b).1.2.2.1:Nat),((dN t).1.2.2.2.1:Int) - ((dN b).1.2.2.2.1:Nat),((dN t).1.2.2.2.2:Int) - ((dN b).1.2.2.2.2:Nat)]
def xQ(z:PySem.Str):Option (List Int):=match aM.kQ z 60 with
 | none=>none
 | some (t,b)=>if (dN t).2=(dN b).2/\fits (((dN t).1.1:Int) - ((dN b).1.1:Nat)) (((dN t).1.2.1:Int) - ((dN b).1.2.1:Nat)) (((dN t).1.2.2.1:Int) - ((dN b).1.2.2.1:Nat)) (((dN t).1.2.2.2.1:Int) - ((dN b).1.2.2.2.1:Nat)) (((dN t).1.2.2.2.2:Int) - ((dN b).1.2.2.2.2:Nat))=true then some (FV t b) else none
def fO(w:List Nat):Option (List Int):=xQ ⟨w.toArray⟩
theorem Cu{z:PySem.Str}{r:List Int}(h:xQ z=some r):r.length=5:=by
 unfold xQ at h
 split at h
 ·cases h
 ·split at h
  ·cases h;rfl
  ·cases h
theorem lx:∀ {l:List Nat},l.all aM.mi=true->aJ l=0
 | [],_=>rfl
 | c::l,h=>by
  rw [all_cons,Bool.and_eq_true] at h
  have h1:48<=c/\c<=57:=by simpa [aM.mi] using h.1
  show (if c=47 then 1 else 0)+aJ l=0
  rw [if_neg (by lia),lx h.2]
theorem Az{w:List Nat}{t b:Nat}(h:aM.kQ (⟨w.toArray⟩:PySem.Str) 60=some (t,b)):aJ w=1:=by
 have hj:=PySem.StrLaws.join_split ⟨w.toArray⟩ aM.ba
 unfold aM.kQ at h
 split at h
 ·rename_i a b' hs
  split at h
  ·rename_i hc
   rw [Bool.and_eq_true] at hc
   have hd:∀ {y:PySem.Str},aM.cnt y 60=true->y.cps.toList.all aM.mi=true:=fun {y} hy=>by
    unfold aM.cnt at hy
    rw [Bool.and_eq_true] at hy
    exact hy.2
   rw [hs] at hj
   have e:w=a.cps.toList++47::b'.cps.toList:=by
    have:=congrArg (fun s:PySem.Str=>s.cps.toList) hj
    have h2:(PySem.Str.join aM.ba [a,b']).cps.toList=w:=this
    rw [<- h2]
    show ((a.cps++#[47])++b'.cps).toList=_
    simp
   rw [e,eP,lx (hd hc.1)]
   show 0+(1+aJ b'.cps.toList)=1
   rw [lx (hd hc.2)]
  ·cases h
 ·cases h
theorem i4(w:List Nat)(r:List Int)(h:fO w=some r):aJ w=1:=by
 unfold fO xQ at h
 split at h
 ·cases h
 ·rename_i t b hp
  exact Az hp
theorem sD:∀ L:List Nat,PyProof.Rows.cnt 47 L=((aJ L:Nat):Int)
 | []=>rfl
 | c::L=>by
  rw [cnt_cons,sD L]
  show _=(((if c=47 then 1 else 0)+aJ L:Nat):Int)
  split <;> simp
def ko(z:PySem.Str):Option (List Int×Fo):=if aJ z.cps.toList<=12 then (match fm fO 8 z.cps.toList with
 | none=>none
 | some (t,R)=>if R=[] then some t else none) else none
def t9(z:PySem.Str):Prop:=z.length<=10000/\(aJ z.cps.toList<=12->z.length<=1000)/\∀ s,aq (z.cps.toList.drop s)<=1000
theorem t9.of{z:PySem.Str}(h:z.length<=1000):t9 z:=⟨by lia,fun _=>h,fun s=>by
 have h1:=gd (z.cps.toList.drop s)
 rw [length_drop] at h1
 have:z.cps.toList.length=z.length:=Array.length_toList
 lia⟩
theorem sE(w:List Nat):∀ k:Nat,aJ (List.replicate k w).flatten=k*aJ w
 | 0=>by rw [Nat.zero_mul];rfl
 | k+1=>by rw [replicate_succ,flatten_cons,eP,sE w k,Nat.succ_mul];lia
theorem sF(a b c:Nat):∀ (k s:Nat),aq ((List.replicate k [a,b,c,40]).flatten.drop s)<=3
 | 0,s=>by simp [aq]
 | k+1,s=>by
  rw [replicate_succ,flatten_cons]
  match s with
  | 0|1|2|3 =>
   simp only [List.drop,List.cons_append,List.nil_append,aq]
   repeat' split
   all_goals first|lia|(rename_i h;exact absurd rfl h)|(rename_i h _;exact absurd rfl h)
  | s+4=>exact sF a b c k s
theorem FW:t9 (iU (PySem.Str.ofString "1/1(") (Int.toNat 2000)):=by
 have e:(PySem.Str.ofString "1/1(").cps.toList=[49,47,49,40]:=by decide
 have hz:(iU (PySem.Str.ofString "1/1(") (Int.toNat 2000)).cps.toList=(List.replicate 2000 [49,47,49,40]).flatten:=by
  show (List.replicate 2000 (PySem.Str.ofString "1/1(").cps.toList).flatten=_
  rw [e]
 refine⟨by rw [fY];decide,fun h=>?_,fun s=>?_⟩
 ·rw [hz,sE] at h
  exact absurd h (by decide)
 ·rw [hz]
  exact RL (sF _ _ _ _ _) (by decide)
theorem wO(z:PySem.Str):∀ n:Nat,(List.replicate n [V.str z]).flatten=(List.replicate n z).map V.str
 | 0=>rfl
 | n+1=>by rw [replicate_succ,flatten_cons,wO z n,replicate_succ,map_cons];rfl
theorem FX {n:Nat} (h:10<=n/\n<=14):(PySem.Str.join (PySem.Str.ofString " ") (List.replicate n (PySem.Str.ofString "5/4"))).length<=100:=by
 have:n=10\/n=11\/n=12\/n=13\/n=14:=by lia
 rcases this with rfl|rfl|rfl|rfl|rfl <;> decide +kernel
theorem FY{P:V->Prop}{xs:List V}{i:Int}{H:Hp}{p:Addr}(_:H p=some (.lst xs))(h:∀ v∈xs,P v)(h0:0<=i)(h1:i<xs.length):∃ v,rj xs i=some v/\P v:=by
 obtain ⟨k,rfl⟩:∃ k:Nat,i=k:=⟨i.toNat,by lia⟩
 have hk:k<xs.length:=by lia
 exact⟨xs[k],bM (R3 hk),h _ (Ss hk)⟩
theorem FZ{q:Nat}{L:List Nat}(h:xQ ⟨(L.take (aq L)).toArray⟩=none):fm fO (q+1) L=none:=by
 unfold fm
 rw [show fO (L.take (aq L))=none from h]
theorem AA{q:Nat}{L:List Nat}{r:List Int}(h:fO (L.take (aq L))=some r)(kr:¬ (L.drop (aq L)).head?=some 40):fm fO (q+1) L=some ((r,.nil),L.drop (aq L)):=by
 unfold fm
 rw [h]
 dsimp only
 rw [if_neg kr]
theorem AB{q:Nat}{L:List Nat}{r:List Int}(h:fO (L.take (aq L))=some r)(kr:(L.drop (aq L)).head?=some 40):fm fO (q+1) L=(match l7 (fm fO q) (L.drop (aq L)).length (L.drop (aq L)) with|none=>none|some (f,R')=>some ((r,f),R')):=by
 conv=>lhs;unfold fm
 rw [h]
 dsimp only
 rw [if_pos kr]
theorem AD{z:PySem.Str}(h:aM.kQ z 60=none):xQ z=none:=by unfold xQ;rw [h]
theorem jA{z:PySem.Str}{t b:Nat}(h:aM.kQ z 60=some (t,b)):xQ z=if (dN t).2=(dN b).2/\fits (((dN t).1.1:Int) - ((dN b).1.1:Nat)) (((dN t).1.2.1:Int) - ((dN b).1.2.1:Nat)) (((dN t).1.2.2.1:Int) - ((dN b).1.2.2.1:Nat)) (((dN t).1.2.2.2.1:Int) - ((dN b).1.2.2.2.1:Nat)) (((dN t).1.2.2.2.2:Int) - ((dN b).1.2.2.2.2:Nat))=true then some (FV t b) else none:=by unfold xQ;rw [h]
theorem fj.imp'{K:Frag}{P P':Addr->Prop}{H:Hp}{xs:List V}{f:Fo}(h:fj K P H xs f)(k:∀ l us,H l=some (.lst us)->P l->P' l):fj K P' H xs f:=by
 induction h with
 | nil=>exact .nil
 | nd ht ha h5 hl hP _ _ Cq Ao=>exact .nd ht ha h5 hl (k _ _ hl hP) Cq Ao
inductive og(K:Frag)(H:Hp)(P:Addr->Prop)(b:Nat):List Addr->List (Fo×List Int)->Prop where
 | top {l:Addr}:og K H P b [l] []
 | up {l l' t a:Addr} {us:List V} {ps:List Addr} {g:Fo} {r:List Int} {fs:List (Fo×List Int)} (hl:H l'=some (.lst (us++[.ref t]))) (hb:us.length<b) (ht:aT K H t [.ref a,.ref l]) (ha:aT K H a (r.map V.int)) (h5:r.length=5) (hF:fj K P H us g) (hs:og K H P b (l'::ps) fs):og K H P b (l::l'::ps) ((g,r)::fs)
section
variable {K:Frag}{P P':Addr->Prop}{H H' H0 H1:Hp}{b:Nat}{fs:List (Fo×List Int)}{ps:List Addr}
theorem og.len(h:og K H P b ps fs):ps.length=fs.length+1:=by
 induction h with
 | top=>rfl
 | up _ _ _ _ _ _ _ ih=>rw [length_cons,ih,length_cons]
theorem og.same(h:og K H P b ps fs)(s:aj H H'):og K H' P b ps fs:=by
 induction h with
 | top=>exact .top
 | up hl hb ht ha h5 hF _ ih=>exact .up (s _ _ hl) hb (s.at ht) (s.at ha) h5 (hF.same s) ih
theorem og.imp(h:og K H P b ps fs)(k:∀ l us,H l=some (.lst us)->P l->P' l):og K H P' b ps fs:=by
 induction h with
 | top=>exact .top
 | up hl hb ht ha h5 hF _ ih=>exact .up hl hb ht ha h5 (hF.imp' k) ih
theorem og.mono{b':Nat}(h:og K H P b ps fs)(k:b<=b'):og K H P b' ps fs:=by
 induction h with
 | top=>exact .top
 | up hl hb ht ha h5 hF _ ih=>exact .up hl (Nat.lt_of_lt_of_le hb k) ht ha h5 hF ih
theorem og.off{o:Addr}{ys zs:List V}(h:og K H P b ps fs)(e:H o=some (.lst ys))(n:¬ P o)(no:o∉ps.tail):og K (upd H o (.lst zs)) P b ps fs:=by
 induction h with
 | top=>exact .top
 | @up l l' t a us ps g r fs hl hb ht ha h5 hF _ ih =>
  have ne:l'≠o:=fun z=>no (by rw [<- z];exact .head _)
  exact .up (by rw [aE ne];exact hl) hb (bw ht e) (bw ha e) h5 (hF.off e n) (ih fun z=>no (.tail _ z))
theorem og.alive(h:og K H P b ps fs):∀ x∈ps.tail,∃ us,H x=some (.lst us):=by
 induction h with
 | top=>intro x hx;cases hx
 | up hl _ _ _ _ _ _ ih =>
  intro x hx
  cases hx with
  | head=>exact⟨_,hl⟩
  | tail _ hx=>exact ih x hx
end
structure sG(K:Frag)(H0 H:Hp)(pl l:Addr)(ps:List Addr)(us:List V)(fs:List (Fo×List Int))(cur:Fo)(b:Nat)(tp:Addr):Prop where
 s:aj H0 H
 mp:H pl=some (.lst ((l::ps).reverse.map V.ref))
 ml:H l=some (.lst us)
 hb:us.length<=b
 nd:(l::ps).Nodup
 np:pl∉l::ps
 n0:H0 pl=none
 n1:∀ x∈l::ps,H0 x=none
 hF:fj K (fun x=>H0 x=none/\x∉l::ps/\x≠pl) H us cur
 hS:og K H (fun x=>H0 x=none/\x∉l::ps/\x≠pl) b (l::ps) fs
 ht:(l::ps).getLast?=some tp
section
variable {K:Frag}{H H' H0 H1:Hp}{b:Nat}{pl l tp q t a:Addr}{fs:List (Fo×List Int)}{ps:List Addr}{us:List V}{cur:Fo}{r:List Int}
theorem sG.same(h:sG K H0 H pl l ps us fs cur b tp)(s:aj H H'):sG K H0 H' pl l ps us fs cur b tp :=
 ⟨h.s.trans s,s _ _ h.mp,s _ _ h.ml,h.hb,h.nd,h.np,h.n0,h.n1,h.hF.same s,h.hS.same s,h.ht⟩
theorem sG.fresh(h:sG K H0 H pl l ps us fs cur b tp)(n:H q=none):H0 q=none/\q∉l::ps/\q≠pl:=by
 refine⟨bG h.s n,fun z=>?_,fun z=>by rw [z,h.mp] at n;cases n⟩
 cases z with
 | head=>rw [h.ml] at n;cases n
 | tail _ z =>
  obtain ⟨us,e⟩:=h.hS.alive q z
  rw [e] at n;cases n
theorem sG.add(h0:sG K H0 H pl l ps us fs cur b tp)(s:aj H H1)(n:H q=none)(mq:H1 q=some (.lst []))(mt:aT K H1 t [.ref a,.ref q])(ma:aT K H1 a (r.map V.int))(h5:r.length=5):sG K H0 (upd H1 l (.lst (us++[.ref t]))) pl l ps (us++[.ref t]) fs (cur.app (.nd r .nil .nil)) (b+1) tp:=by
 have fr:=h0.fresh n
 have h:=h0.same s
 have hl:l∉ps:=(nodup_cons.mp h.nd).1
 have nP:¬ (H0 l=none/\l∉l::ps/\l≠pl):=fun z=>z.2.1 (.head _)
 refine⟨h.s.bY (h.n1 _ (.head _)),?_,aH,by rw [Sa];exact Nat.succ_le_succ h.hb,h.nd,h.np,h.n0,h.n1,?_,?_,h.ht⟩
 ·rw [aE (fun z=>h.np (by rw [z];exact .head _))]
  exact h.mp
 ·exact (h.hF.off h.ml nP).app (.nd (bw mt h.ml) (bw ma h.ml) h5 (by rw [aE (fun z=>fr.2.1 (by rw [z];exact .head _))];exact mq) fr .nil .nil)
 ·exact (h.hS.off h.ml nP hl).mono (Nat.le_succ _)
theorem sG.push(h0:sG K H0 H pl l ps us fs cur b tp)(s:aj H H1)(n:H q=none)(mq:H1 q=some (.lst []))(mt:aT K H1 t [.ref a,.ref q])(ma:aT K H1 a (r.map V.int))(h5:r.length=5):sG K H0 (upd (upd H1 l (.lst (us++[.ref t]))) pl (.lst ((l::ps).reverse.map V.ref++[.ref q]))) pl q (l::ps) [] ((cur,r)::fs) .nil (b+1) tp:=by
 have fr:=h0.fresh n
 have h:=h0.same s
 have hl:l∉ps:=(nodup_cons.mp h.nd).1
 have nl:pl≠l:=fun z=>h.np (by rw [z];exact .head _)
 have ql:q≠l:=fun z=>fr.2.1 (by rw [z];exact .head _)
 have e1:upd H1 l (.lst (us++[.ref t])) pl=some (.lst ((l::ps).reverse.map V.ref)):=by rw [aE nl];exact h.mp
 have nP:¬ (H0 l=none/\l∉q::l::ps/\l≠pl):=fun z=>z.2.1 (.tail _ (.head _))
 have nQ:¬ (H0 pl=none/\pl∉q::l::ps/\pl≠pl):=fun z=>z.2.2 rfl
 have up:∀ x ys,H x=some (.lst ys)->(H0 x=none/\x∉l::ps/\x≠pl)->(H0 x=none/\x∉q::l::ps/\x≠pl):=fun x ys e z=>⟨z.1,fun y=>by
  cases y with
  | head=>rw [e] at n;cases n
  | tail _ y=>exact z.2.1 y,z.2.2⟩
 refine⟨(h.s.bY (h.n1 _ (.head _))).bY h.n0,?_,?_,Sm _,nodup_cons.mpr ⟨fr.2.1,h.nd⟩,fun z=>?_,h.n0,fun x hx=>?_,.nil,?_,by rw [List.getLast?_cons_cons];exact h.ht⟩
 ·rw [aH];simp
 ·rw [aE fr.2.2,aE ql];exact mq
 ·cases z with
  | head=>exact fr.2.2 rfl
  | tail _ z=>exact h.np z
 ·cases hx with
  | head=>exact fr.1
  | tail _ hx=>exact h.n1 x hx
 ·refine .up (us:=us) (t:=t) (a:=a) ?_ (Nat.lt_succ_of_le h.hb) (bw (bw mt h.ml) e1) (bw (bw ma h.ml) e1) h5 ?_ ?_
  ·rw [aE (fun z=>nl z.symm),aH]
  ·exact (((h0.hF.imp' up).same s).off h.ml nP).off e1 nQ
  ·exact ((((h0.hS.imp up).same s).off h.ml nP hl).off e1 nQ (fun z=>h.np (.tail _ z))).mono (Nat.le_succ _)
theorem sG.pop{l':Addr}{g:Fo}(h:sG K H0 H pl l (l'::ps) us ((g,r)::fs) cur b tp):∃ P2,sG K H0 (upd H pl (.lst ((l'::ps).reverse.map V.ref))) pl l' ps P2 fs (g.app (.nd r cur .nil)) b tp:=by
 cases h.hS with
 | @up _ _ t a P4 _ _ _ _ hl hb ht ha h5 hF hs =>
 have nl:=nodup_cons.mp h.nd
 have nQ:¬ (H0 pl=none/\pl∉l::l'::ps/\pl≠pl):=fun z=>z.2.2 rfl
 have dn:∀ x,(H0 x=none/\x∉l::l'::ps/\x≠pl)->(H0 x=none/\x∉l'::ps/\x≠pl):=fun x z=>⟨z.1,fun y=>z.2.1 (.tail _ y),z.2.2⟩
 have pn:∀ x∈l::l'::ps,x≠pl:=fun x hx z=>h.np (by rw [<- z];exact hx)
 refine⟨P4++[.ref t],h.s.bY h.n0,aH,?_,by rw [Sa];exact hb,nl.2,fun z=>h.np (.tail _ z),h.n0,fun x hx=>h.n1 x (.tail _ hx),?_,?_,by have:=h.ht;rw [List.getLast?_cons_cons] at this;exact this⟩
 ·rw [aE (pn _ (.tail _ (.head _)))];exact hl
 ·refine ((hF.off h.mp nQ).imp dn).app (.nd (bw ht h.mp) (bw ha h.mp) h5 ?_ ⟨h.n1 _ (.head _),nl.1,pn _ (.head _)⟩ ((h.hF.off h.mp nQ).imp dn) .nil)
  rw [aE (pn _ (.head _))];exact h.ml
 ·exact (hs.off h.mp nQ (fun z=>h.np (.tail _ (.tail _ z)))).imp fun x _ _=>dn x
end
theorem wQ(z:PySem.Str):pF fO (z.cps.toList.length+1) 0 z.cps.toList [] .nil=match ko z with
  | none=>none
  | some (r,k)=>some (.nd r k .nil):=by
 rw [FU fO i4]
 unfold ko
 split
 ·cases fm fO 8 z.cps.toList with
  | none=>rfl
  | some p =>
   obtain ⟨⟨r,k⟩,R⟩:=p
   dsimp only
   split <;> rfl
 ·rfl
theorem dW{c d:Nat}:((⟨#[c]⟩:PySem.Str)=⟨#[d]⟩)↔c=d:=⟨fun h=>by cases h;rfl,fun h=>by rw [h]⟩
theorem F0 (c:Nat):(!(!(PySem.Builtin.Str.occurrences (PySem.Str.ofString "() ") ⟨#[c]⟩ 0 (PySem.Str.ofString "() ").length 1).isEmpty))=!DC c:=by
 have ec:(PySem.Str.ofString "() ").cps=#[40,41,32]:=by decide
 congr 1
 rcases aM.kO (PySem.Str.ofString "() ") c with ⟨h1,h2⟩|⟨i,r,h1,h2,_⟩
 ·rw [h2]
  rw [ec] at h1
  unfold DC
  have a0:c≠40:=fun e=>h1 0 (by rw [e];rfl)
  have a1:c≠41:=fun e=>h1 1 (by rw [e];rfl)
  have a2:c≠32:=fun e=>h1 2 (by rw [e];rfl)
  simp [a0,a1,a2]
 ·rw [h1]
  rw [ec] at h2
  have hi:i<3:=by
   rcases lt_or_ge i 3 with h|h
   ·exact h
   ·rw [Array.getElem?_eq_none h] at h2;cases h2
  match i,hi with
  | 0,_|1,_|2,_=>cases h2;rfl
theorem JE{t:TT}{σ:St}{H:Hp}{Q:Bool->Hp->Prop}(b:Bool)(h1:∀ Q':Bool->Hp->Prop,Q' b H->t σ H Q')(h2:Q b H):t σ H Q:=h1 Q h2
section
variable {rd:List Nat->Option (List Int)}{n m:Nat}{L R:List Nat}{fs GF:List (Fo×List Int)}{cur F1:Fo}{row:List Int}
theorem uU(h:rd (L.take (aq L))=none):pF rd (n+1) m L fs cur=none:=by
 unfold pF
 rw [h]
 split <;> rfl
theorem AE(hm:m<12/\fs.length<8)(h:rd (L.take (aq L))=some row)(kr:(L.drop (aq L)).head?=some 40):pF rd (n+1) m L fs cur=pF rd n (m+1) (L.drop (aq L)).tail ((cur,row)::fs) .nil:=by
 conv=>lhs;unfold pF
 rw [if_pos hm,h]
 dsimp only
 rw [if_pos kr]
theorem F2(hm:m<12/\fs.length<8)(h:rd (L.take (aq L))=some row)(kr:¬ (L.drop (aq L)).head?=some 40)(hc:cS (L.drop (aq L)) fs (cur.app (.nd row .nil .nil))=(R,GF,F1)):pF rd (n+1) m L fs cur=if R=[]/\GF=[] then some F1 else if R.head?≠some 32\/GF=[] then none else pF rd n (m+1) R.tail GF F1:=by
 conv=>lhs;unfold pF
 rw [if_pos hm,h]
 dsimp only
 rw [if_neg kr,hc]
theorem Cv(h:¬ (L.head?=some 41/\fs≠[])):cS L fs cur=(L,fs,cur):=by
 cases fs with
 | nil=>unfold cS;rfl
 | cons f fs=>exact uT fun z=>h ⟨z,fun y=>nomatch y⟩
theorem Cw{g:Fo}{r:List Int}(h:L.head?=some 41):cS L ((g,r)::fs) cur=cS L.tail fs (g.app (.nd r cur .nil)):=by
 cases L with
 | nil=>cases h
 | cons c R=>cases h;show cS (41::R) ((g,r)::fs) cur=cS R fs (g.app (.nd r cur .nil));conv=>lhs;unfold cS;rw [if_pos rfl]
end
theorem drop_tail(l:List Nat)(e:Nat):(l.drop e).tail=l.drop (e+1):=by rw [<- drop_one,drop_drop]
theorem gK{l:List Nat}{e c:Nat}(h:(l.drop e).head?=some c):e<l.length:=by
 rcases lt_or_ge e l.length with z|z
 ·exact z
 ·rw [List.drop_eq_nil_of_le z] at h;cases h
theorem uV{c:TT}{A B:TS}{D:Ends}{σ:St}{H:Hp}(b:Bool)(h1:∀ Q':Bool->Hp->Prop,Q' b H->c σ H Q')(h2:if b=true then A D σ H else B D σ H):DS c A B D σ H:=h1 _ h2
structure ly where
 AF:Addr
 lA:Addr
 lB:Addr
 dY:Addr
 bo:Addr
 bc:Addr
 aP:Addr
 cN:Tok
 dy:Tok
 dZ:Tok
 ku:Tok
structure Txt(K:Frag)(mg:Str->Option Value)(G:ly):Prop where
 uW:mg "NoLength"=none
 AG:mg "NoName"=none
 pJ:mg "ValueError"=none
 wR:mg "abs"=none
 oh:mg "all"=none
 AH:mg "bool"=none
 sH:mg "int"=none
 aR:mg "isinstance"=none
 bN:mg "len"=none
 F3:mg "list"=none
 AI:mg "max"=none
 kv:mg "range"=none
 DF:mg "str"=none
 fq:mg "tuple"=none
 AJ:mg "zip"=none
 JF:mg "ONE"=some (.ref G.AF)
 aD:nO K G.AF [.int 0,.int 0,.int 0,.int 0,.int 0]
 AK:mg "PRIMES"=some (.ref G.lA)
 ak:nO K G.lA [.int 2,.int 3,.int 5,.int 7,.int 11]
 AL:mg "BOUNDS"=some (.ref G.lB)
 ao:nO K G.lB [.int 700,.int 60,.int 60,.int 60,.int 60]
 lC:mg "MOST_FIGURES"=some (.int 60 G.cN)
 pK:mg "MOST_SPANS"=some (.int 12 G.dy)
 sI:mg "MOST_DEEP"=some (.int 8 G.dZ)
 Cy:mg "MARKS"=some (.str "( )" G.ku)
 sJ:mg "YardError"=some (.ref G.dY)
 DG:nsIn K mainGlobals "YardError"=some (some (.ref G.dY))
 sL:eh K G.dY
 gg:mg "TooFar"=some (.ref G.bo)
 sM:nsIn K mainGlobals "TooFar"=some (some (.ref G.bo))
 sN:eh K G.bo
 gh:jl K G.bo
 AM:excIn K G.bo [.type "ValueError",.type "Exception",.type "BaseException",.type "object"] "ValueError.__new__"=true
 de:mg "NoSpan"=some (.ref G.bc)
 eQ:nsIn K mainGlobals "NoSpan"=some (some (.ref G.bc))
 sO:eh K G.bc
 gi:jl K G.bc
 lD:excIn K G.bc [.type "ValueError",.type "Exception",.type "BaseException",.type "object"] "ValueError.__new__"=true
 dD:mg "NoStack"=some (.ref G.aP)
 cj:nsIn K mainGlobals "NoStack"=some (some (.ref G.aP))
 GS:eh K G.aP
 ck:jl K G.aP
 eR:excIn K G.aP [.type "ValueError",.type "Exception",.type "BaseException",.type "object"] "ValueError.__new__"=true
 bt:subIn K (.ref G.aP) (.ref G.dY)=some true
 bV:subIn K (.ref G.bo) (.ref G.bo)=some true
 bW:subIn K (.ref G.bo) (.ref G.bc)=some false
 cD:G.bo≠G.bc
 cm:subIn K (.ref G.bo) (.ref G.aP)=some false
 cp:G.bo≠G.aP
 bH:subIn K (.ref G.bc) (.ref G.bo)=some false
 cE:G.bc≠G.bo
 bI:subIn K (.ref G.bc) (.ref G.bc)=some true
 cq:subIn K (.ref G.bc) (.ref G.aP)=some false
 cu:G.bc≠G.aP
 bO:subIn K (.ref G.aP) (.ref G.bo)=some false
 bC:G.aP≠G.bo
 bP:subIn K (.ref G.aP) (.ref G.bc)=some false
 bD:G.aP≠G.bc
 bq:subIn K (.ref G.aP) (.type "ValueError")=some true
def gj(K:Frag):Sp:=fun vs H Q _=>∃ v,vs=[v]/\Kn K H v/\Q (.bl (wh v)) H
def jB(K:Frag):Sp:=fun vs H Q _=>∃ v,vs=[v]/\((∃ (a:Addr) (xs:List V),v=.ref a/\aT K H a xs/\xs.length<=1000/\(∀ x∈xs,Kn K H x)/\∀ H',aj H H'->Q (.bl (decide (xs.length=5) && xs.all wh)) H')\/(NT K H v/\Q (.bl false) H))
def ik(K:Frag):Sp:=fun vs H Q _=>∃ v,vs=[v]/\((∃ (a:Addr) (x0 x1 x2 x3 x4:Int),v=.ref a/\aT K H a [.int x0,.int x1,.int x2,.int x3,.int x4]/\∀ H',aj H H'->Q (.bl (fits x0 x1 x2 x3 x4)) H')\/(PU K H v/\∀ H',aj H H'->Q (.bl false) H'))
def il (K:Frag):Sp:=fun vs H Q E=>∃ (a:Addr) (x0 x1 x2 x3 x4:Int),vs=[.ref a]/\aT K H a [.int x0,.int x1,.int x2,.int x3,.int x4]/\(fits x0 x1 x2 x3 x4=false->∀ C H',nsIn K mainGlobals "TooFar"=some (some (.ref C))->aj H H'->E (.ref C) none H')/\(fits x0 x1 x2 x3 x4=true->∀ H',aj H H'->Q (.ref a) H')
def pL(K:Frag):Sp:=fun vs H Q _=>∃ a b a0 a1 a2 a3 a4 b0 b1 b2 b3 b4,vs=[.ref a,.ref b]/\aT K H a [.int a0,.int a1,.int a2,.int a3,.int a4]/\aT K H b [.int b0,.int b1,.int b2,.int b3,.int b4]/\∀ p H',aj H H'->H' p=some (.tup [.int (a0 - b0),.int (a1 - b1),.int (a2 - b2),.int (a3 - b3),.int (a4 - b4)])->Q (.ref p) H'
def dI(K:Frag):Sp:=fun vs H Q _=>∃ (n p:Int) (c:Nat) (m:Int),vs=[.int n,.int p]/\P5 p/\n=p ^ c*m/\m % p≠0/\∀ q H',aj H H'->H' q=some (.tup [.int c,.int m])->Q (.ref q) H'
def gk(K:Frag):Sp:=fun vs H Q _=>∃ (n:Int) (c0 c1 c2 c3 c4:Nat) (m:Int),vs=[.int n]/\n=aK c0 c1 c2 c3 c4*m/\gG m/\∀ q p H',aj H H'->H' q=some (.tup [.int c0,.int c1,.int c2,.int c3,.int c4])->H' p=some (.tup [.ref q,.int m])->Q (.ref p) H'
def jC (K:Frag):Sp:=fun vs H Q E=>∃ (t b:Int) (c0 c1 c2 c3 c4 d0 d1 d2 d3 d4:Nat) (m m':Int),vs=[.int t,.int b]/\((t<1\/b<1)\/(t=aK c0 c1 c2 c3 c4*m/\b=aK d0 d1 d2 d3 d4*m'/\gG m/\gG m'))/\(∀ C H',nsIn K mainGlobals "NoSpan"=some (some (.ref C))->aj H H'->(t<1\/b<1\/m≠m')->E (.ref C) none H')/\(∀ p H',aj H H'->1<=t->1<=b->m=m'->H' p=some (.tup [.int (c0 - d0),.int (c1 - d1),.int (c2 - d2),.int (c3 - d3),.int (c4 - d4)])->Q (.ref p) H')
def dJ(K:Frag):Sp:=fun vs H Q _=>∃ (z:Str) (m:Nat),vs=[.str z,.int m]/\z.length<=1000/\∀ H',aj H H'->Q (.bl (aM.cnt z m)) H'
def eC(K:Frag):Sp:=fun vs H Q _=>∃ (z:Str) (m:Nat),vs=[.str z,.int m]/\z.length<=1000/\m<=600/\(∀ t b:Nat,aM.kQ z m=some (t,b)->∀ p H',aj H H'->H' p=some (.tup [.int t,.int b])->Q (.ref p) H')/\(aM.kQ z m=none->∀ H',aj H H'->Q .cF H')
def ft (K:Frag):Sp:=fun vs H Q E=>∃ z:Str,vs=[.str z]/\z.length<=1000/\(aM.kQ z 60=none->(∀ C H',nsIn K mainGlobals "NoSpan"=some (some (.ref C))->aj H H'->E (.ref C) none H'))/\∀ t b:Nat,aM.kQ z 60=some (t,b)->∃ (c0 c1 c2 c3 c4 d0 d1 d2 d3 d4:Nat) (m m':Int),(t:Int)=aK c0 c1 c2 c3 c4*m/\(b:Int)=aK d0 d1 d2 d3 d4*m'/\gG m/\gG m'/\(m≠m'->(∀ C H',nsIn K mainGlobals "NoSpan"=some (some (.ref C))->aj H H'->E (.ref C) none H'))/\(m=m'->fits (c0 - d0) (c1 - d1) (c2 - d2) (c3 - d3) (c4 - d4)=false->(∀ C H',nsIn K mainGlobals "TooFar"=some (some (.ref C))->aj H H'->E (.ref C) none H'))/\(m=m'->fits (c0 - d0) (c1 - d1) (c2 - d2) (c3 - d3) (c4 - d4)=true->∀ p H',aj H H'->H' p=some (.tup [.int (c0 - d0),.int (c1 - d1),.int (c2 - d2),.int (c3 - d3),.int (c4 - d4)])->Q (.ref p) H')
def gm(K:Frag):Sp:=fun vs H Q _=>∃ (z:Str) (s:Nat),vs=[.str z,.int s]/\z.length<=1000/\Q (.int ((s+aq (z.cps.toList.drop s):Nat):Int)) H
def eD (K:Frag):Sp:=fun vs H Q E=>∃ z:Str,vs=[.str z]/\z.length<=1000/\(xQ z=none->(∀ C H',nsIn K mainGlobals "NoStack"=some (some (.ref C))->aj H H'->E (.ref C) none H'))/\∀ r,xQ z=some r->∀ p H',aj H H'->H' p=some (.tup (r.map V.int))->Q (.ref p) H'
def gq (K:Frag) (n:Nat):Sp:=fun vs H Q E=>∃ (z:Str) (s dp:Nat),vs=[.str z,.int s,.int dp]/\z.length<=1000/\z.cps.toList[s]?=some 40/\1<=dp/\dp<=9/\10<=dp+n/\aJ (z.cps.toList.drop s)<=12/\(l7 (fm fO (9 - dp)) (z.cps.toList.drop s).length (z.cps.toList.drop s)=none->(∀ C H',nsIn K mainGlobals "NoStack"=some (some (.ref C))->aj H H'->E (.ref C) none H'))/\∀ g R,l7 (fm fO (9 - dp)) (z.cps.toList.drop s).length (z.cps.toList.drop s)=some (g,R)->∀ p l us (e:Nat) H',aj H H'->aT K H' p [.ref l,.int (e:Int)]->e<=z.length->z.cps.toList.drop e=R->H' l=some (.lst us)->H l=none->fj K (fun x=>H x=none) H' us g->Q (.ref p) H'
def cA (K:Frag) (n:Nat):Sp:=fun vs H Q E=>∃ (z:Str) (s dp:Nat),vs=[.str z,.int s,.int dp]/\z.length<=1000/\s<=z.length/\1<=dp/\dp<=9/\10<=dp+n/\aJ (z.cps.toList.drop s)<=12/\(fm fO (9 - dp) (z.cps.toList.drop s)=none->(∀ C H',nsIn K mainGlobals "NoStack"=some (some (.ref C))->aj H H'->E (.ref C) none H'))/\∀ r k R,fm fO (9 - dp) (z.cps.toList.drop s)=some ((r,k),R)->∀ p q (e:Nat) H',aj H H'->aT K H' p [.ref q,.int (e:Int)]->e<=z.length->z.cps.toList.drop e=R->fj K (fun x=>H x=none) H' [.ref q] (.nd r k .nil)->Q (.ref p) H'
theorem gv(K:Frag){vs:List V}{H:Hp}{Q:VK}{E:XK}:¬ cA K 0 vs H Q E:=fun ⟨_,_,_,_,_,_,_,h,h',_⟩=>absurd h' (by lia)
def eE (K:Frag):Sp:=fun vs H Q E=>∃ z:Str,vs=[.str z]/\z.length<=10000/\(aJ z.cps.toList<=12->z.length<=1000)/\(ko z=none->(∀ C H',nsIn K mainGlobals "NoStack"=some (some (.ref C))->aj H H'->E (.ref C) none H'))/\∀ r k,ko z=some (r,k)->dep k+1<=8->cnt k<=11->∀ q H',aj H H'->fj K (fun x=>H x=none) H' [.ref q] (.nd r k .nil)->Q (.ref q) H'
def d5(K:Frag):Sp:=fun vs H Q _=>∃ (a:Addr) (ns:List Int) (k:Int),vs=[.ref a,.int k]/\b5 K H a (ns.map V.int)/\0<=k/\Q (.int (ns.getD k.toNat 0)) H
def dh(K:Frag):Sp:=fun vs H Q _=>∃ c j m:Int,vs=[.int c,.int j,.int m]/\(0<=j/\j<=1000)/\0<m/\∀ H',aj H H'->Q (.int (xN c j m)) H'
def c5(K:Frag):Sp:=fun vs H Q _=>∃ c j h:Int,vs=[.int c,.int j,.int h]/\(0<=j/\j<=1000)/\(0<=h/\h<=100000)/\∀ H',aj H H'->Q (.int (fk c j h)) H'
def ip(K:Frag):Sp:=fun vs H Q _=>∃ c f h:Int,vs=[.int c,.int f,.int h]/\(0<=f/\f<=100000)/\(0<=h/\h<=100000)/\∀ p H',aj H H'->H' p=some (.tup ((Ke c f h).map V.int))->Q (.ref p) H'
def di(K:Frag):Sp:=fun vs H Q _=>∃ a e0 e1 e2 e3 e4,vs=[.ref a]/\aT K H a [.int e0,.int e1,.int e2,.int e3,.int e4]/\Bd e0 e1 e2 e3 e4/\∀ p H',aj H H'->H' p=some (.tup [.int (oH e0 e1 e2 e3 e4),.int (mh e0 e1 e2 e3 e4)])->Q (.ref p) H'
def eF(K:Frag):Sp:=fun vs H Q _=>∃ (a:Addr) (x0 x1 x2 x3 x4:Int),vs=[.ref a,.int 700,.int 60]/\aT K H a [.int x0,.int x1,.int x2,.int x3,.int x4]/\∀ H',aj H H'->Q (.bl (fits x0 x1 x2 x3 x4)) H'
def eG(K:Frag):Sp:=fun vs H Q _=>∃ a e0 e1 e2 e3 e4,vs=[.ref a]/\aT K H a [.int e0,.int e1,.int e2,.int e3,.int e4]/\∀ H',aj H H'->Q (.bl true) H'
def gw(K:Frag):Sp:=fun vs H Q _=>∃ c:Int,vs=[.int c]/\∀ z:Str,z.length<=1->Q (.str z) H
def eH(K:Frag):Sp:=fun vs H Q _=>∃ (z:Str),vs=[.str z]/\z.length<=1000/\Q (.int (if aM.cnt z 60=true then ((aM.num z:Nat):Int) else 0)) H
def dj(K:Frag):Sp:=fun vs H Q _=>∃ z:Str,vs=[.str z]/\z.length<=1000/\(aM.kQ z 60=none->∀ H',aj H H'->Q .cF H')/\∀ t b:Nat,aM.kQ z 60=some (t,b)->∃ (c0 c1 c2 c3 c4 d0 d1 d2 d3 d4:Nat) (m m':Int),(t:Int)=aK c0 c1 c2 c3 c4*m/\(b:Int)=aK d0 d1 d2 d3 d4*m'/\gG m/\gG m'/\1<=m/\(m≠m'->∀ H',aj H H'->Q .cF H')/\(m=m'->∀ p H',aj H H'->H' p=some (.tup [.int (c0 - d0),.int (c1 - d1),.int (c2 - d2),.int (c3 - d3),.int (c4 - d4)])->Q (.ref p) H')
def fu(K:Frag):Sp:=fun vs H Q E=>∃ (a:Addr) (ns:List Int) (n:Nat) (wd:Int),vs=[.ref a,.int 2,.int n,.int wd]/\(b5 K H a (ns.map V.int))/\(1<=n/\n<=12)/\(∀ t r kids H',aj H H'->cP K H' [.ref t] (.nd r kids .nil)->(.nd r kids .nil:Fo)=(bZ wd ns n).2.fo->dep kids+1<=8->cnt kids<=11->(∀ v,v<n->cJ v (bZ wd ns n).2≠0)->Q (.ref t) H')
def dz(K:Frag)(n:Nat):Sp:=fun vs H Q _=>∃ (t u:Addr) (r:List Int) (kids:Fo),vs=[.ref t,.ref u]/\cP K H [.ref t] (.nd r kids .nil)/\cP K H [.ref u] (.nd r kids .nil)/\dep kids+1<=n/\cnt kids<=100/\∀ H',aj H H'->Q (.bl true) H'
theorem gT(K:Frag){vs:List V}{H:Hp}{Q:VK}{E:XK}:¬ dz K 0 vs H Q E:=fun ⟨_,_,_,_,_,_,_,h,_⟩=>absurd h (Nat.not_succ_le_zero _)
def eI(K:Frag):Sp:=fun vs H Q _=>∃ (z:Str) (c:Int),vs=[.str z,.int c]/\z.length<=300/\∀ (z:Str) H',aj H H'->z.length<=900->Q (.str z) H'
def fv (K:Frag):Sp:=fun vs H Q _=>∃ (a C:Addr),vs=[.ref a]/\H a=some (mj a C)/\nsIn K mainGlobals "NoStack"=some (some (.ref C))/\∀ l H',aj H H'->H' l=some (.lst [.str "stack",.str "value"])->Q (.ref l) H'
def fw (K:Frag):Sp:=fun vs H Q E=>∃ z:Str,vs=[.str z]/\z.length<=10000/\(aJ z.cps.toList<=12->z.length<=1000)/\∀ p f kk H',aj H H'->H' p=some (.tup [f,kk])->(ko z=none->∃ l,kk=.ref l/\H' l=some (.lst [.str "stack",.str "value"]))->(∀ r k,ko z=some (r,k)->dep k+1<=8/\cnt k<=11/\kk=.cF/\∃ q,f=.ref q/\fj K (fun x=>H x=none) H' [.ref q] (.nd r k .nil))->Q (.ref p) H'
def d6(K:Frag)(n:Nat):Sp:=fun vs H Q _=>∃ (t:Addr) (r:List Int) (kids:Fo),vs=[.ref t]/\cP K H [.ref t] (.nd r kids .nil)/\Bm 1 (.nd r kids .nil)/\dep kids+1<=n/\dep kids<=9/\(cQ 1 (r,kids)).length<=1000/\∀ H',aj H H'->Q (.str ⟨(cQ 1 (r,kids)).toArray⟩) H'
theorem i5(K:Frag){vs:List V}{H:Hp}{Q:VK}{E:XK}:¬ d6 K 0 vs H Q E:=fun ⟨_,_,_,_,_,_,h,_⟩=>absurd h (Nat.not_succ_le_zero _)
def iq(K:Frag):Sp:=fun vs H Q _=>∃ c:Int,vs=[.int c]/\∀ (z:Str) H',aj H H'->t9 z->Q (.str z) H'
def fx(K:Frag):Sp:=fun vs H Q _=>∃ (a:Addr) (ns:List Int),vs=[.ref a]/\b5 K H a (ns.map V.int)/\ns.length<=1000/\∀ (z:Str) H',aj H H'->t9 z->Q (.str z) H'
def ir(K:Frag):Sp:=fun vs H Q _=>∃ z:Str,vs=[.str z]/\t9 z/\(ko z=none->∀ H',aj H H'->Q .cF H')/\∀ r k,ko z=some (r,k)->∀ t H',aj H H'->fj K (fun x=>H x=none) H' [.ref t] (.nd r k .nil)->Q (.ref t) H'
section
variable {K:Frag}{H:Hp}{Q:VK}{E:XK}
theorem uX{v:V}(hv:Kn K H v)(k:Q (.bl (wh v)) H):gj K [v] H Q E:=⟨v,rfl,hv,k⟩
theorem lE{v:V}(h:(∃ (a:Addr) (xs:List V),v=.ref a/\aT K H a xs/\xs.length<=1000/\(∀ x∈xs,Kn K H x)/\∀ H',aj H H'->Q (.bl (decide (xs.length=5) && xs.all wh)) H')\/(NT K H v/\Q (.bl false) H)):jB K [v] H Q E:=⟨v,rfl,h⟩
theorem uY{a:Addr}{x0 x1 x2 x3 x4:Int}(ha:aT K H a [.int x0,.int x1,.int x2,.int x3,.int x4])(k:∀ H',aj H H'->Q (.bl (fits x0 x1 x2 x3 x4)) H'):ik K [.ref a] H Q E:=⟨_,rfl,.inl ⟨a,x0,x1,x2,x3,x4,rfl,ha,k⟩⟩
theorem xR {a:Addr} {x0 x1 x2 x3 x4:Int} (ha:aT K H a [.int x0,.int x1,.int x2,.int x3,.int x4]) (ke:(fits x0 x1 x2 x3 x4=false->∀ C H',nsIn K mainGlobals "TooFar"=some (some (.ref C))->aj H H'->E (.ref C) none H')) (kq:(fits x0 x1 x2 x3 x4=true->∀ H',aj H H'->Q (.ref a) H')):il K [.ref a] H Q E:=⟨a,x0,x1,x2,x3,x4,rfl,ha,ke,kq⟩
theorem F4{a b:Addr}{a0 a1 a2 a3 a4 b0 b1 b2 b3 b4:Int}(ha:aT K H a [.int a0,.int a1,.int a2,.int a3,.int a4])(hb:aT K H b [.int b0,.int b1,.int b2,.int b3,.int b4])(k:∀ p H',aj H H'->H' p=some (.tup [.int (a0 - b0),.int (a1 - b1),.int (a2 - b2),.int (a3 - b3),.int (a4 - b4)])->Q (.ref p) H'):pL K [.ref a,.ref b] H Q E:=⟨a,b,a0,a1,a2,a3,a4,b0,b1,b2,b3,b4,rfl,ha,hb,k⟩
theorem mC{n p:Int}{c:Nat}{m:Int}(hp:P5 p)(hn:n=p ^ c*m)(hm:m % p≠0)(k:∀ q H',aj H H'->H' q=some (.tup [.int c,.int m])->Q (.ref q) H'):dI K [.int n,.int p] H Q E:=⟨n,p,c,m,rfl,hp,hn,hm,k⟩
theorem lF{n:Int}{c0 c1 c2 c3 c4:Nat}{m:Int}(hn:n=aK c0 c1 c2 c3 c4*m)(hm:gG m)(k:∀ q p H',aj H H'->H' q=some (.tup [.int c0,.int c1,.int c2,.int c3,.int c4])->H' p=some (.tup [.ref q,.int m])->Q (.ref p) H'):gk K [.int n] H Q E:=⟨n,c0,c1,c2,c3,c4,m,rfl,hn,hm,k⟩
theorem AN {t b:Int} {c0 c1 c2 c3 c4 d0 d1 d2 d3 d4:Nat} {m m':Int} (hc:((t<1\/b<1)\/(t=aK c0 c1 c2 c3 c4*m/\b=aK d0 d1 d2 d3 d4*m'/\gG m/\gG m'))) (ke:(∀ C H',nsIn K mainGlobals "NoSpan"=some (some (.ref C))->aj H H'->(t<1\/b<1\/m≠m')->E (.ref C) none H')) (kq:(∀ p H',aj H H'->1<=t->1<=b->m=m'->H' p=some (.tup [.int (c0 - d0),.int (c1 - d1),.int (c2 - d2),.int (c3 - d3),.int (c4 - d4)])->Q (.ref p) H')):jC K [.int t,.int b] H Q E:=⟨t,b,c0,c1,c2,c3,c4,d0,d1,d2,d3,d4,m,m',rfl,hc,ke,kq⟩
theorem gU{z:Str}{m:Nat}(hz:z.length<=1000)(k:∀ H',aj H H'->Q (.bl (aM.cnt z m)) H'):dJ K [.str z,.int m] H Q E:=⟨z,m,rfl,hz,k⟩
theorem pM{z:Str}{m:Nat}(h:z.length<=1000/\m<=600)(k:(∀ t b:Nat,aM.kQ z m=some (t,b)->∀ p H',aj H H'->H' p=some (.tup [.int t,.int b])->Q (.ref p) H')/\(aM.kQ z m=none->∀ H',aj H H'->Q .cF H')):eC K [.str z,.int m] H Q E:=⟨z,m,rfl,h.1,h.2,k.1,k.2⟩
theorem sP {z:Str} (hz:z.length<=1000) (k:(aM.kQ z 60=none->(∀ C H',nsIn K mainGlobals "NoSpan"=some (some (.ref C))->aj H H'->E (.ref C) none H'))/\∀ t b:Nat,aM.kQ z 60=some (t,b)->∃ (c0 c1 c2 c3 c4 d0 d1 d2 d3 d4:Nat) (m m':Int),(t:Int)=aK c0 c1 c2 c3 c4*m/\(b:Int)=aK d0 d1 d2 d3 d4*m'/\gG m/\gG m'/\(m≠m'->(∀ C H',nsIn K mainGlobals "NoSpan"=some (some (.ref C))->aj H H'->E (.ref C) none H'))/\(m=m'->fits (c0 - d0) (c1 - d1) (c2 - d2) (c3 - d3) (c4 - d4)=false->(∀ C H',nsIn K mainGlobals "TooFar"=some (some (.ref C))->aj H H'->E (.ref C) none H'))/\(m=m'->fits (c0 - d0) (c1 - d1) (c2 - d2) (c3 - d3) (c4 - d4)=true->∀ p H',aj H H'->H' p=some (.tup [.int (c0 - d0),.int (c1 - d1),.int (c2 - d2),.int (c3 - d3),.int (c4 - d4)])->Q (.ref p) H')):ft K [.str z] H Q E:=⟨z,rfl,hz,k.1,k.2⟩
theorem uZ{z:Str}{s:Nat}(hz:z.length<=1000)(k:Q (.int ((s+aq (z.cps.toList.drop s):Nat):Int)) H):gm K [.str z,.int s] H Q E:=⟨z,s,rfl,hz,k⟩
theorem pN {z:Str} (hz:z.length<=1000) (k:(xQ z=none->(∀ C H',nsIn K mainGlobals "NoStack"=some (some (.ref C))->aj H H'->E (.ref C) none H'))/\∀ r,xQ z=some r->∀ p H',aj H H'->H' p=some (.tup (r.map V.int))->Q (.ref p) H'):eD K [.str z] H Q E:=⟨z,rfl,hz,k.1,k.2⟩
theorem mD {n:Nat} {z:Str} {s dp:Nat} (h:z.length<=1000/\z.cps.toList[s]?=some 40/\1<=dp/\dp<=9/\10<=dp+n/\aJ (z.cps.toList.drop s)<=12) (k:(l7 (fm fO (9 - dp)) (z.cps.toList.drop s).length (z.cps.toList.drop s)=none->(∀ C H',nsIn K mainGlobals "NoStack"=some (some (.ref C))->aj H H'->E (.ref C) none H'))/\∀ g R,l7 (fm fO (9 - dp)) (z.cps.toList.drop s).length (z.cps.toList.drop s)=some (g,R)->∀ p l us (e:Nat) H',aj H H'->aT K H' p [.ref l,.int (e:Int)]->e<=z.length->z.cps.toList.drop e=R->H' l=some (.lst us)->H l=none->fj K (fun x=>H x=none) H' us g->Q (.ref p) H'):gq K n [.str z,.int s,.int dp] H Q E:=⟨z,s,dp,rfl,h.1,h.2.1,h.2.2.1,h.2.2.2.1,h.2.2.2.2.1,h.2.2.2.2.2,k.1,k.2⟩
theorem fy {n:Nat} {z:Str} {s dp:Nat} (h:z.length<=1000/\s<=z.length/\1<=dp/\dp<=9/\10<=dp+n/\aJ (z.cps.toList.drop s)<=12) (k:(fm fO (9 - dp) (z.cps.toList.drop s)=none->(∀ C H',nsIn K mainGlobals "NoStack"=some (some (.ref C))->aj H H'->E (.ref C) none H'))/\∀ r k R,fm fO (9 - dp) (z.cps.toList.drop s)=some ((r,k),R)->∀ p q (e:Nat) H',aj H H'->aT K H' p [.ref q,.int (e:Int)]->e<=z.length->z.cps.toList.drop e=R->fj K (fun x=>H x=none) H' [.ref q] (.nd r k .nil)->Q (.ref p) H'):cA K n [.str z,.int s,.int dp] H Q E:=⟨z,s,dp,rfl,h.1,h.2.1,h.2.2.1,h.2.2.2.1,h.2.2.2.2.1,h.2.2.2.2.2,k.1,k.2⟩
theorem pO {z:Str} (h:z.length<=10000/\(aJ z.cps.toList<=12->z.length<=1000)) (k:(ko z=none->(∀ C H',nsIn K mainGlobals "NoStack"=some (some (.ref C))->aj H H'->E (.ref C) none H'))/\∀ r k,ko z=some (r,k)->dep k+1<=8->cnt k<=11->∀ q H',aj H H'->fj K (fun x=>H x=none) H' [.ref q] (.nd r k .nil)->Q (.ref q) H'):eE K [.str z] H Q E:=⟨z,rfl,h.1,h.2,k.1,k.2⟩
theorem u0{a:Addr}{ns:List Int}{j:Int}(ha:b5 K H a (ns.map V.int))(h0:0<=j)(k:Q (.int (ns.getD j.toNat 0)) H):d5 K [.ref a,.int j] H Q E:=⟨a,ns,j,rfl,ha,h0,k⟩
theorem iu{c j m:Int}(hj:0<=j/\j<=1000)(hm:0<m)(k:∀ H',aj H H'->Q (.int (xN c j m)) H'):dh K [.int c,.int j,.int m] H Q E:=⟨c,j,m,rfl,hj,hm,k⟩
theorem fz{c j h:Int}(hj:0<=j/\j<=1000)(hh:0<=h/\h<=100000)(k:∀ H',aj H H'->Q (.int (fk c j h)) H'):c5 K [.int c,.int j,.int h] H Q E:=⟨c,j,h,rfl,hj,hh,k⟩
theorem xS{c f h:Int}(hf:0<=f/\f<=100000)(hh:0<=h/\h<=100000)(k:∀ p H',aj H H'->H' p=some (.tup ((Ke c f h).map V.int))->Q (.ref p) H'):ip K [.int c,.int f,.int h] H Q E:=⟨c,f,h,rfl,hf,hh,k⟩
theorem lG{a:Addr}{e0 e1 e2 e3 e4:Int}(ha:aT K H a [.int e0,.int e1,.int e2,.int e3,.int e4])(hb:Bd e0 e1 e2 e3 e4)(k:∀ p H',aj H H'->H' p=some (.tup [.int (oH e0 e1 e2 e3 e4),.int (mh e0 e1 e2 e3 e4)])->Q (.ref p) H'):di K [.ref a] H Q E:=⟨a,e0,e1,e2,e3,e4,rfl,ha,hb,k⟩
theorem pP{a:Addr}{x0 x1 x2 x3 x4:Int}(ha:aT K H a [.int x0,.int x1,.int x2,.int x3,.int x4])(k:∀ H',aj H H'->Q (.bl (fits x0 x1 x2 x3 x4)) H'):eF K [.ref a,.int 700,.int 60] H Q E:=⟨a,x0,x1,x2,x3,x4,rfl,ha,k⟩
theorem pQ{a:Addr}{e0 e1 e2 e3 e4:Int}(ha:aT K H a [.int e0,.int e1,.int e2,.int e3,.int e4])(k:∀ H',aj H H'->Q (.bl true) H'):eG K [.ref a] H Q E:=⟨a,e0,e1,e2,e3,e4,rfl,ha,k⟩
theorem u4{c:Int}(k:∀ z:Str,z.length<=1->Q (.str z) H):gw K [.int c] H Q E:=⟨c,rfl,k⟩
theorem i6{z:Str}(hz:z.length<=1000)(k:Q (.int (if aM.cnt z 60=true then ((aM.num z:Nat):Int) else 0)) H):eH K [.str z] H Q E:=⟨z,rfl,hz,k⟩
theorem lH{z:Str}(hz:z.length<=1000)(k:(aM.kQ z 60=none->∀ H',aj H H'->Q .cF H')/\∀ t b:Nat,aM.kQ z 60=some (t,b)->∃ (c0 c1 c2 c3 c4 d0 d1 d2 d3 d4:Nat) (m m':Int),(t:Int)=aK c0 c1 c2 c3 c4*m/\(b:Int)=aK d0 d1 d2 d3 d4*m'/\gG m/\gG m'/\1<=m/\(m≠m'->∀ H',aj H H'->Q .cF H')/\(m=m'->∀ p H',aj H H'->H' p=some (.tup [.int (c0 - d0),.int (c1 - d1),.int (c2 - d2),.int (c3 - d3),.int (c4 - d4)])->Q (.ref p) H')):dj K [.str z] H Q E:=⟨z,rfl,hz,k.1,k.2⟩
theorem sQ{a:Addr}{ns:List Int}{n:Nat}{wd:Int}(ha:b5 K H a (ns.map V.int))(hn:1<=n/\n<=12)(k:∀ t r kids H',aj H H'->cP K H' [.ref t] (.nd r kids .nil)->(.nd r kids .nil:Fo)=(bZ wd ns n).2.fo->dep kids+1<=8->cnt kids<=11->(∀ v,v<n->cJ v (bZ wd ns n).2≠0)->Q (.ref t) H'):fu K [.ref a,.int 2,.int n,.int wd] H Q E:=⟨a,ns,n,wd,rfl,ha,hn,k⟩
theorem jX{n:Nat}{t u:Addr}{r:List Int}{kids:Fo}(h:cP K H [.ref t] (.nd r kids .nil)/\cP K H [.ref u] (.nd r kids .nil)/\dep kids+1<=n/\cnt kids<=100)(k:∀ H',aj H H'->Q (.bl true) H'):dz K n [.ref t,.ref u] H Q E:=⟨t,u,r,kids,rfl,h.1,h.2.1,h.2.2.1,h.2.2.2,k⟩
theorem pR{z:Str}{c:Int}(hz:z.length<=300)(k:∀ (z:Str) H',aj H H'->z.length<=900->Q (.str z) H'):eI K [.str z,.int c] H Q E:=⟨z,c,rfl,hz,k⟩
theorem sR {a C:Addr} (ha:H a=some (mj a C)) (k:nsIn K mainGlobals "NoStack"=some (some (.ref C))/\∀ l H',aj H H'->H' l=some (.lst [.str "stack",.str "value"])->Q (.ref l) H'):fv K [.ref a] H Q E:=⟨a,C,rfl,ha,k⟩
theorem jY {z:Str} (h:z.length<=10000/\(aJ z.cps.toList<=12->z.length<=1000)) (k:∀ p f kk H',aj H H'->H' p=some (.tup [f,kk])->(ko z=none->∃ l,kk=.ref l/\H' l=some (.lst [.str "stack",.str "value"]))->(∀ r k,ko z=some (r,k)->dep k+1<=8/\cnt k<=11/\kk=.cF/\∃ q,f=.ref q/\fj K (fun x=>H x=none) H' [.ref q] (.nd r k .nil))->Q (.ref p) H'):fw K [.str z] H Q E:=⟨z,rfl,h.1,h.2,k⟩
theorem lI{n:Nat}{t:Addr}{r:List Int}{kids:Fo}(h:cP K H [.ref t] (.nd r kids .nil)/\Bm 1 (.nd r kids .nil)/\dep kids+1<=n/\dep kids<=9/\(cQ 1 (r,kids)).length<=1000)(k:∀ H',aj H H'->Q (.str ⟨(cQ 1 (r,kids)).toArray⟩) H'):d6 K n [.ref t] H Q E:=⟨t,r,kids,rfl,h.1,h.2.1,h.2.2.1,h.2.2.2.1,h.2.2.2.2,k⟩
theorem xT{c:Int}(k:∀ (z:Str) H',aj H H'->t9 z->Q (.str z) H'):iq K [.int c] H Q E:=⟨c,rfl,k⟩
theorem sS{a:Addr}{ns:List Int}(h:b5 K H a (ns.map V.int)/\ns.length<=1000)(k:∀ (z:Str) H',aj H H'->t9 z->Q (.str z) H'):fx K [.ref a] H Q E:=⟨a,ns,rfl,h.1,h.2,k⟩
theorem oi{z:Str}(hz:t9 z)(k:(ko z=none->∀ H',aj H H'->Q .cF H')/\∀ r k,ko z=some (r,k)->∀ t H',aj H H'->fj K (fun x=>H x=none) H' [.ref t] (.nd r k .nil)->Q (.ref t) H'):ir K [.str z] H Q E:=⟨z,rfl,hz,k.1,k.2⟩
end
local macro_rules|`(tactic| walk_at "hf") => `(tactic| first|assumption|exact L2.aT.of (by assumption)|exact L2.b5.of (by assumption)|exact L2.nO.at (by assumption)|((with_reducible apply L2.EO);(walk_at "hf"))|((with_reducible apply L2.LX);(walk_at "hf"))|((with_reducible apply L2.aj.at);(assumption);(walk_at "hf"))|((with_reducible apply L2.aj.seq);(assumption);(walk_at "hf"))|((with_reducible apply L2.aj.lst);(assumption);(walk_at "hf"))|((with_reducible apply L2.aj.sq);(assumption);(walk_at "hf")))
local macro_rules|`(tactic| walk_at "sm") => `(tactic| first|exact L2.aj.refl _|assumption|((refine L2.aj.trans ?_ (by assumption));walk_at "sm"))
local macro_rules|`(tactic| walk_at "side") => `(tactic| first|(show (0 : Int)<_;first|decide|lia)|exact⟨by decide, by decide⟩|exact⟨by lia, by lia⟩|exact Or.inl ⟨by decide, by decide⟩|exact Or.inr ⟨by decide, by decide⟩|exact Or.inr ⟨by lia, by lia⟩|exact Or.inl ⟨by lia, by lia⟩|exact⟨by decide, by decide, by decide⟩|assumption)
local macro_rules|`(tactic| walk_at "p") => `(tactic| first
 | (with_reducible refine L2.wq ?_)|(with_reducible refine L2.zH ?_)|(with_reducible refine L2.oX ?_)|(with_reducible refine L2.Iu ?_)|(with_reducible refine L2.EB ?_)|(with_reducible refine L2.EC ?_)
 | ((with_reducible apply L2.Iw);(exact rfl))|(with_reducible refine L2.Lq ?_)|(with_reducible refine L2.Lr ?_)|(with_reducible refine L2.Ls ?_)|(with_reducible refine L2.Pa ?_)|(with_reducible refine L2.ED ?_)|(with_reducible refine L2.EE ?_)
 | (with_reducible refine L2.Iy ?_)|(with_reducible refine L2.Lu ?_)|(with_reducible refine L2.IA ?_)|(with_reducible refine L2.EF ?_)|(with_reducible refine L2.EG ?_)|(with_reducible refine L2.Lw ?_)|((with_reducible refine L2.Pb ?_ ?_);(walk_at "side"))|(with_reducible refine L2.Pc ?_)|(with_reducible refine L2.IC ?_)|(with_reducible refine L2.ID ?_)|(with_reducible refine L2.IE ?_)|(with_reducible refine L2.EH ?_)|(with_reducible refine L2.IF ?_)|(with_reducible refine L2.IG ?_)|((with_reducible refine L2.EI ?_ ?_);(first|exact So rfl|(focus (simp;done))|(focus (simp;lia)));intro p_ H_ s_ m_)|((with_reducible refine L2.zI ?_ ?_);(first|exact So rfl|(focus (simp;done))|(focus (simp;lia)));intro p_ H_ n_ s_ m_)
 | (with_reducible refine L2.Lx ?_)|(with_reducible refine L2.B4 ?_)|(with_reducible refine L2.EJ ?_)|(with_reducible refine L2.Ly ?_)|(with_reducible refine L2.zJ ?_)|(with_reducible refine L2.EK ?_)|(with_reducible refine L2.B1 ?_)|(with_reducible refine L2.Lz ?_)|(with_reducible refine L2.IH ?_)
 | (with_reducible refine L2.II ?_)|(with_reducible refine L2.B2 ?_)|(with_reducible refine L2.EL ?_)|(with_reducible refine L2.EM ?_)|(with_reducible refine L2.EN ?_)
 | ((with_reducible apply L2.IJ);(walk_at "hf"))|((with_reducible apply L2.IK);(walk_at "hf"))|((with_reducible refine L2.Dl ?_ ?_ ?_);(first|decide|lia);(first|decide|lia))|((with_reducible apply L2.IL);(walk_at "hf");(walk_at "hf"))
 | ((with_reducible apply L2.ER);(walk_at "hf"))|((with_reducible apply L2.ES);(walk_at "hf"))
 | ((with_reducible apply L2.rP);(walk_at "hf");intro p_ H_ s_ m_)|(with_reducible refine L2.IP ?_)|(with_reducible refine L2.IQ ?_)|((with_reducible apply L2.ET);(walk_at "hf");(first|exact L2.fS _ _|exact rfl))|((with_reducible apply L2.EU);(walk_at "hf");(first|exact L2.fS _ _|exact rfl))|((with_reducible apply L2.EV);(first|exact L2.fS _ _|exact rfl))|((with_reducible apply L2.EW);(first|exact L2.fS _ _|exact rfl))
 | ((with_reducible refine L2.zK ?_ ?_);(first|exact rfl|exact Or.inl ⟨rfl,_,by walk_at "hf"⟩))|((with_reducible refine L2.B3 ?_ ?_);(first|exact rfl|exact Or.inl ⟨rfl,_,by walk_at "hf"⟩))
 | ((with_reducible apply L2.IS);(walk_at "hf");(walk_at "hf");(first|exact So rfl|(focus (simp;done))|(focus (simp;lia)));intro p_ H_ n_ s_ m_)
 | ((with_reducible apply L2.E1);(walk_at "hf");intro p_ H_ s_ m_)
 | ((with_reducible apply L2.Fg);(exact rfl))|((with_reducible apply L2.Fh);(exact rfl))|(with_reducible refine L2.Cb ?_)|(with_reducible refine L2.Cc ?_)|(with_reducible refine L2.Je ?_)|(with_reducible refine L2.FF ?_)|(with_reducible refine L2.Jk ?_)|(with_reducible refine L2.Jl ?_)
 | (with_reducible refine L2.Ci ?_)|((with_reducible refine L2.Fu ?_ ?_ ?_);(first|exact⟨by decide,by decide⟩|exact⟨by lia,by lia⟩);(first|exact⟨by decide,by decide⟩|exact⟨by lia,by lia⟩)) )
local macro_rules|`(tactic| walk_at "q") => `(tactic| first|(walk_at "p")|(with_reducible refine L2.Iv ?_))
local macro_rules|`(tactic| walk_at "x") => `(tactic| first|((with_reducible apply L2.IM);(walk_at "hf");(exact rfl))|((with_reducible apply L2.fK);(walk_at "hf");(exact rfl)))
local macro_rules|`(tactic| walk_at "r") => `(tactic| first|(walk_at "q")|(walk_at "x"))
local macro_rules|`(tactic| walk_at "v") => `(tactic| repeat walk_at "q")
local macro_rules|`(tactic| walk_at "j") => `(tactic| repeat (first|(walk_at "p")|(walk_at "x")))
local macro_rules|`(tactic| walk_at "sz") => `(tactic| first|exact L2.bg (by lia)|decide|exact L2.bg (by simp only [PySem.strLen_append];lia)|assumption)
local macro_rules|`(tactic| walk_at "p") => `(tactic| first|((with_reducible refine L2.FE ?_ ?_);(exact So rfl);intro p_ H_ n_ s_ m_)|(with_reducible refine L2.Fz ?_)|(with_reducible refine L2.Jp ?_)|((with_reducible refine L2.FA ?_ ?_);(walk_at "sz"))|((with_reducible refine L2.hJ ?_ ?_);(walk_at "sz"))|(with_reducible refine L2.Jr ?_)|(with_reducible refine L2.Ad ?_)|((with_reducible refine L2.Jq ?_ ?_);(walk_at "sz"))|(with_reducible refine L2.Ck ?_)|(with_reducible refine L2.FD ?_)|(with_reducible refine L2.Jt ?_)|(with_reducible refine L2.Ju ?_) )
local macro_rules|`(tactic| walk_at "p") => `(tactic| ((with_reducible apply F4);(walk_at "hf");(walk_at "hf");intro p_ H_ s_ m_))
local macro_rules|`(tactic| walk_at "p") => `(tactic| ((with_reducible apply u0);(walk_at "hf");(first|decide|lia)))
local macro_rules|`(tactic| walk_at "p") => `(tactic| ((with_reducible apply pQ);(walk_at "hf");intro H_ s_))
local macro_rules|`(tactic| walk_at "w") => `(tactic| repeat walk_at "r")
section
variable {P:Program}{w:World}{K:Frag}{mg:Str->Option Value}{base:Heap}{G:ly}
theorem sT:aB ["thing"] ["thing"] (ar hV):=⟨rfl,rfl,rfl,by decide +kernel,rfl,by decide +kernel,by decide +kernel⟩
theorem sV (D:Def K mg "is_whole" hV ["thing"]) (T:Txt K mg G):Ok P w K mg base 1 "is_whole" ["thing"] (gj K):=by
 have S:=sT
 refine D.ok S (fun vs H Q E h=>?_) (fun f bE A outer s H vs Q E hr h=>?_)
 ·obtain ⟨_,rfl,_⟩:=h;rfl
 ·obtain ⟨v,rfl,hv,k⟩:=h
  have hu:=bj hr
  have aD:=T.aD
  have ak:=T.ak
  have ao:=T.ao
  refine⟨_,(ai (aA (oq (ay (cH K rfl) rfl T.aR boot_isinstance (aa (pv 0) (aa (dq (v:=V.ty "int") rfl T.sH boot_int rfl) ag))) (oo (yR (ay (cH K rfl) rfl T.aR boot_isinstance (aa (pv 0) (aa (dq (v:=V.ty "bool") rfl T.AH boot_bool rfl) ag)))))))),?_⟩
  rcases hv with ⟨i,rfl⟩|⟨b,rfl⟩|rfl|⟨s,rfl⟩|⟨a,xs,rfl,hs⟩|⟨a,xs,rfl,hs⟩
  ·walk_at "w"
   refine oD ?_
   walk_at "w"
   exact k
  ·walk_at "w"
   refine oD ?_
   walk_at "w"
   exact k
  all_goals
   walk_at "w"
   refine uu ?_
   walk_at "w"
   exact k
theorem xU:aB ["thing"] ["thing"] (ar lg):=⟨rfl,rfl,rfl,by decide +kernel,rfl,by decide +kernel,by decide +kernel⟩
structure xV(P:Program)(w:World)(K:Frag)(mg:Str->Option Value)(base:Heap)(G:ly):Prop where
 AO:Ok P w K mg base 1 "is_whole" ["thing"] (gj K)
theorem xW (D:Def K mg "is_row" lg ["thing"]) (T:Txt K mg G) (O:xV P w K mg base G):Ok P w K mg base 2 "is_row" ["thing"] (jB K):=by
 have S:=xU
 refine D.ok S (fun vs H Q E h=>?_) (fun f bE A outer s H vs Q E hr h=>?_)
 ·obtain ⟨_,rfl,_⟩:=h;rfl
 ·obtain ⟨v,rfl,h⟩:=h
  have hu:=bj hr
  have aD:=T.aD
  have ak:=T.ak
  have ao:=T.ao
  refine⟨_,(af (aS (PW.pt (c6 (d8 (cU (ay (cH K rfl) rfl T.aR boot_isinstance (aa (pv 0) (aa (dq (v:=V.ty "tuple") rfl T.fq boot_tuple rfl) ag))))) (cV (ax eL (ay (cM K rfl) rfl T.bN PySem.boot_len (aa (pv 0) ag)) (ay (cM K rfl) rfl T.bN PySem.boot_len (aa (cX (v:=V.ref G.AF) rfl T.JF rfl) ag)) (az _))))) (ai (aA nC)) aF) (ai (aA (ay (jq K rfl rfl) rfl T.oh boot_all (aa (dt (N:=["number"]) (ix:=[none]) rfl (kh K rfl (pv 0)) (fun _ _ _ _ _=>(bu (i:=0) (show Bo ["number"] by decide +kernel) rfl (Or.inl rfl))) (fun _ _ _ _ _=>rfl) (fun _ _ _ _ _=>(aZ O.AO (hr.mono (by decide)) (aa (pv 0) ag))) rfl (by decide +kernel) (by decide +kernel) rfl True.intro) ag))))),?_⟩
  rcases h with ⟨a,xs,rfl,hs,hl,hk,k⟩|⟨hv,k⟩
  ·walk_at "w"
   refine uu ?_
   walk_at "w"
   refine aO (fun h1=>?_) (fun h1=>?_)
   ·have GR:xs.length≠5:=fun z=>by rw [z] at h1;simp at h1
    walk_at "w"
    rw [RV GR] at k
    exact k _ (aj.refl _)
   have GR:xs.length=5:=by simp at h1;lia
   walk_at "w"
   refine uF (fun x=>.bl (wh x)) [] rfl hs hl (fun x H' Qc hx s kc=>?_) (fun l H1 NG s1 m1=>?_)
   ·walk_at "w"
    refine uX ((hk x hx).same s) ?_
    walk_at "w"
    exact kc _ (aj.refl _)
   walk_at "w"
   refine nU (bs:=xs.map wh) (b5.of (by rw [m1,Sl];rfl)) ?_
   walk_at "w"
   rw [RW GR,Bool.true_and] at k
   have e:(xs.map wh).all id=xs.all wh:=by rw [all_map];rfl
   rw [e]
   exact k _ s1
  ·rcases hv with ⟨i,rfl⟩|rfl|⟨s,rfl⟩|⟨a,xs,rfl,hs⟩
   all_goals
    walk_at "w"
    refine oD ?_
    walk_at "w"
    exact k
theorem u5:aB ["thing"] ["thing"] (ar jt):=⟨rfl,rfl,rfl,by decide +kernel,rfl,by decide +kernel,by decide +kernel⟩
structure u6(P:Program)(w:World)(K:Frag)(mg:Str->Option Value)(base:Heap)(G:ly):Prop where
 F5:Ok P w K mg base 2 "is_row" ["thing"] (jB K)
theorem u7 (D:Def K mg "is_tone" jt ["thing"]) (T:Txt K mg G) (O:u6 P w K mg base G):Ok P w K mg base 3 "is_tone" ["thing"] (ik K):=by
 have S:=u5
 refine D.ok S (fun vs H Q E h=>?_) (fun f bE A outer s H vs Q E hr h=>?_)
 ·obtain ⟨_,rfl,_⟩:=h;rfl
 ·obtain ⟨v,rfl,h⟩:=h
  have hu:=bj hr
  have aD:=T.aD
  have ak:=T.ak
  have ao:=T.ao
  refine⟨_,(af (aS (d8 (cU (aZ O.F5 (hr.mono (by decide)) (aa (pv 0) ag)))) (ai (aA nC)) aF) (ai (aA (ay (jq K rfl rfl) rfl T.oh boot_all (aa (dt (N:=["number","bound"]) (ix:=[none,none]) rfl (kX K rfl true true rfl T.AJ (aa (pv 0) (aa (cX (v:=V.ref G.lB) rfl T.AL rfl) ag))) (fun _ _ _ _ _=>(oY (n:=2) K rfl rfl (eJ (bu (i:=0) (show Bo ["number","bound"] by decide +kernel) rfl (Or.inl rfl)) (eJ (bu (i:=1) (show Bo ["number","bound"] by decide +kernel) rfl (Or.inl rfl)) ot)))) (fun _ _ _ _ _=>rfl) (fun _ _ _ _ _=>(gF kA (ay gI rfl T.wR boot_abs (aa (pv 0) ag)) (pv 1) (az _))) rfl (by decide +kernel) (by decide +kernel) rfl True.intro) ag))))),?_⟩
  rcases h with ⟨a,x0,x1,x2,x3,x4,rfl,hs,k⟩|⟨ho,k⟩
  ·walk_at "w"
   refine lE (.inl ⟨a,_,rfl,hs,(by show 5<=1000;decide),fun x hx=>?_,fun H1 s1=>?_⟩)
   ·simp only [Sd,not_mem_nil,or_false] at hx
    rcases hx with rfl|rfl|rfl|rfl|rfl <;> exact .inl ⟨_,rfl⟩
   walk_at "w"
   refine uu ?_
   walk_at "w"
   refine rF (k1:=true) (k2:=true) [] (fun i=>.bl (decide ((if ([x0,x1,x2,x3,x4]:List Int).getD i 0<0 then -([x0,x1,x2,x3,x4]:List Int).getD i 0 else ([x0,x1,x2,x3,x4]:List Int).getD i 0)<=([700,60,60,60,60]:List Int).getD i 0))) rfl (by walk_at "hf") (by walk_at "hf") (by rfl) (by show 5<=1000000;decide) (fun i x y H' Qc ex ey hs kc=>?_) (fun l H2 hl s2 m2=>?_)
   ·have hi:i<5:=(RH.mp ex).1
    match i,hi with
    | 0,_|1,_|2,_|3,_|4,_ =>
     cases ex
     cases ey
     walk_at "w"
     exact kc _ (aj.refl _)
   walk_at "w"
   refine nU (bs:=[decide ((if x0<0 then -x0 else x0)<=700),decide ((if x1<0 then -x1 else x1)<=60),decide ((if x2<0 then -x2 else x2)<=60),decide ((if x3<0 then -x3 else x3)<=60),decide ((if x4<0 then -x4 else x4)<=60)]) (b5.of m2) ?_
   walk_at "w"
   exact k _ (by walk_at "sm")
  ·rcases ho with ⟨a,xs,rfl,hs,hl,hk,hf⟩|hn
   ·walk_at "w"
    refine lE (.inl ⟨a,xs,rfl,hs,hl,hk,fun H1 s1=>?_⟩)
    rw [hf]
    walk_at "w"
    refine oD ?_
    walk_at "w"
    exact k _ s1
   ·walk_at "w"
    refine lE (.inr ⟨hn,?_⟩)
    walk_at "w"
    refine oD ?_
    walk_at "w"
    exact k _ (aj.refl _)
theorem u9:aB ["row"] ["row"] (ar ju):=⟨rfl,rfl,rfl,by decide +kernel,rfl,by decide +kernel,by decide +kernel⟩
structure vb(P:Program)(w:World)(K:Frag)(mg:Str->Option Value)(base:Heap)(G:ly):Prop where
 Cz:Ok P w K mg base 3 "is_tone" ["thing"] (ik K)
theorem vc (D:Def K mg "tone_of" ju ["row"]) (T:Txt K mg G) (O:vb P w K mg base G):rQ P w K mg base 4 "tone_of" ["row"] (il K):=by
 have S:=u9
 refine D.LD S (fun vs H Q E h=>?_) (fun f bE A outer s H vs Q E hr h=>?_)
 ·obtain ⟨_,_,_,_,_,_,rfl,_⟩:=h;rfl
 ·obtain ⟨a,x0,x1,x2,x3,x4,rfl,ha,ke,kq⟩:=h
  have hu:=bj hr
  have aD:=T.aD
  have ak:=T.ak
  have ao:=T.ao
  refine⟨_,(af (aS (d8 (cU (aZ O.Cz (hr.mono (by decide)) (aa (pv 0) ag)))) (ai (c9 T.AM PySem.F.excBase_ValueError (by decide +kernel) PySem.F.excBase_ValueError rfl (fun _ _ z=>z) rfl rfl T.gg (aa aC ag))) aF) (ai (aA (pv 0)))),?_⟩
  walk_at "w"
  refine uY (by walk_at "hf") fun H1 s1=>?_
  walk_at "w"
  refine aO (fun h1=>?_) (fun h1=>?_)
  ·walk_at "w"
   exact⟨by decide,ke (by simpa using h1) _ _ T.sM (by walk_at "sm")⟩
  walk_at "w"
  exact kq (by simpa using h1) _ (by walk_at "sm")
theorem CA:aB ["one","other"] ["one","other"] (ar uM):=⟨rfl,rfl,rfl,by decide +kernel,rfl,by decide +kernel,by decide +kernel⟩
theorem CB (D:Def K mg "over" uM ["one","other"]) (T:Txt K mg G):Ok P w K mg base 1 "over" ["one","other"] (pL K):=by
 have S:=CA
 refine D.ok S (fun vs H Q E h=>?_) (fun f bE A outer s H vs Q E hr h=>?_)
 ·obtain ⟨_,_,_,_,_,_,_,_,_,_,_,_,rfl,_⟩:=h;rfl
 ·obtain ⟨a,b,a0,a1,a2,a3,a4,b0,b1,b2,b3,b4,rfl,ha,hb,k⟩:=h
  have hu:=bj hr
  have aD:=T.aD
  have ak:=T.ak
  have ao:=T.ao
  refine⟨_,(ai (aA (b9 (iR K rfl) rfl T.fq boot_tuple (aa (dt (N:=["number","taken"]) (ix:=[none,none]) rfl (kX K rfl true true rfl T.AJ (aa (pv 0) (aa (pv 1) ag))) (fun _ _ _ _ _=>(oY (n:=2) K rfl rfl (eJ (bu (i:=0) (show Bo ["number","taken"] by decide +kernel) rfl (Or.inl rfl)) (eJ (bu (i:=1) (show Bo ["number","taken"] by decide +kernel) rfl (Or.inl rfl)) ot)))) (fun _ _ _ _ _=>rfl) (fun _ _ _ _ _=>(aw gY (pv 0) (pv 1))) rfl (by decide +kernel) (by decide +kernel) rfl True.intro) ag)))),?_⟩
  refine⟨_,rfl,_,rfl,a,b,rfl,⟨_,ha⟩,⟨_,hb⟩,uy (r:=[a0,a1,a2,a3,a4]) (q:=[b0,b1,b2,b3,b4]) (· - ·) rfl ha hb rfl (by show 5<=1000;decide) fun l H' hl hs rE=>?_⟩
  exact rP (b5.of rE) fun p H2 s2 m=>k p H2 (hs.trans s2) m
theorem lJ:aB ["number","prime","count","left"] ["number","prime"] (ar ek):=⟨rfl,rfl,rfl,by decide +kernel,rfl,by decide +kernel,by decide +kernel⟩
theorem lK (D:Def K mg "counted_out" ek ["number","prime"]) (T:Txt K mg G):Ok P w K mg base 1 "counted_out" ["number","prime"] (dI K):=by
 have S:=lJ
 refine D.ok S (fun vs H Q E h=>?_) (fun f bE A outer s H vs Q E hr h=>?_)
 ·obtain ⟨_,_,_,_,rfl,_⟩:=h;rfl
 ·obtain ⟨n,p,c,m,rfl,hp,hn,hm,k⟩:=h
  have hu:=bj hr
  have aD:=T.aD
  have ak:=T.ak
  have ao:=T.ao
  refine⟨_,(af (au (i:=2) S.nd rfl (Or.inl rfl) ah) (af (au (i:=3) S.nd rfl (Or.inl rfl) (pv 0)) (af (cy PassesOwn.never (ax cv (aw bf (pv 3) (pv 1)) ah (az _)) (af (au (i:=3) S.nd rfl (Or.inl rfl) (aw gE (pv 3) (pv 1))) (ai (au (i:=2) S.nd rfl (Or.inl rfl) (aw aY (pv 2) ah))))) (ai (aA (cL (aa (pv 2) (aa (pv 3) ag)))))))),?_⟩
  have p2:=hp.pos
  have P6:=hp.le
  walk_at "w"
  refine cY (fun mm σ H2=>H2=H/\∃ j:Nat,j<=c/\mm=c - j/\σ=[some (.int n),some (.int p),some (.int j),some (.int (p ^ (c - j)*m))]) c ⟨rfl,0,Sm _,rfl,?_⟩ (fun mm σ H2 hw=>?_)
  ·rw [sub_zero,<- hn];rfl
  obtain ⟨rfl,j,hj,rfl,rfl⟩:=hw
  walk_at "w"
  refine aO (fun hc=>?_) (fun hc=>?_)
  ·have eK:j<c:=by
    apply Nat.lt_of_le_of_ne hj
    rintro rfl
    rw [sub_self,pow_zero,one_mul] at hc
    exact hm (RT hc)
   have e1:p ^ (c - j)*m=p*(p ^ (c - (j+1))*m):=by
    rw [show c - j=(c - (j+1))+1 by lia,pow_succ];ac_rfl
   have e2:p ^ (c - j)*m / p=p ^ (c - (j+1))*m:=by rw [e1,Int.mul_ediv_cancel_left _ (by lia)]
   refine kU ?_
   walk_at "w"
   rw [e2]
   exact⟨c - (j+1),by lia,rfl,j+1,eK,rfl,rfl⟩
  ·have he:j=c:=by
    apply Nat.le_antisymm hj
    apply Nat.not_lt.mp
    intro eK
    have e1:p ^ (c - j)*m=p*(p ^ (c - (j+1))*m):=by
     rw [show c - j=(c - (j+1))+1 by lia,pow_succ];ac_rfl
    exact RU hc (by rw [e1];exact mul_emod_right _ _)
   subst he
   walk_at "w"
   rename_i q H3 s3 m3
   rw [sub_self,pow_zero,one_mul] at m3
   exact k _ _ s3 m3
theorem sW:aB ["number","powers","left","prime","found"] ["number"] (ar hZ):=⟨rfl,rfl,rfl,by decide +kernel,rfl,by decide +kernel,by decide +kernel⟩
structure sX(P:Program)(w:World)(K:Frag)(mg:Str->Option Value)(base:Heap)(G:ly):Prop where
 sY:Ok P w K mg base 1 "counted_out" ["number","prime"] (dI K)
theorem sZ (D:Def K mg "split_up" hZ ["number"]) (T:Txt K mg G) (O:sX P w K mg base G):Ok P w K mg base 2 "split_up" ["number"] (gk K):=by
 have S:=sW
 refine D.ok S (fun vs H Q E h=>?_) (fun f bE A outer s H vs Q E hr h=>?_)
 ·obtain ⟨_,_,_,_,_,_,_,rfl,_⟩:=h;rfl
 ·obtain ⟨n,c0,c1,c2,c3,c4,m,rfl,hn,hm,k⟩:=h
  have hu:=bj hr
  have aD:=T.aD
  have ak:=T.ak
  have ao:=T.ao
  refine⟨_,(af (au (i:=1) S.nd rfl (Or.inl rfl) (bK ag)) (af (au (i:=2) S.nd rfl (Or.inl rfl) (pv 0)) (af (gX PassesOwn.never rfl (kh K rfl (cX (v:=V.ref G.lA) rfl T.AK rfl)) (bu (i:=3) S.nd rfl (Or.inl rfl)) (af (au (i:=4) S.nd rfl (Or.inl rfl) (aZ O.sY (hr.mono (by decide)) (aa (pv 2) (aa (pv 3) ag)))) (af (bX (cR PySem.F.plainAttrs_list PySem.F.slot_list_append PySem.F.type_list_append br (pv 1) (aa (aI (aG K rfl) (pv 4) ah (fun _ _=>rfl)) ag))) (ai (au (i:=2) S.nd rfl (Or.inl rfl) (aI (aG K rfl) (pv 4) ah (fun _ _=>rfl))))))) (ai (aA (cL (aa (b9 (iR K rfl) rfl T.fq boot_tuple (aa (pv 1) ag)) (aa (pv 2) ag)))))))),?_⟩
  walk_at "w"
  rename_i l H1 hl s1 m1
  refine EY hl s1 5 (fun i=>([.int c0,.int c1,.int c2,.int c3,.int c4]:List V).take i) (fun i σ=>∃ o1 o2,σ=[some (.int n),some (.ref l),some (.int (iG c0 c1 c2 c3 c4 m i)),o1,o2]) m1 ⟨_,_,by rw [hn,<- wb] <;> rfl⟩ (fun i H2 hi s=>⟨_,([.int 2,.int 3,.int 5,.int 7,.int 11]:List V)[i],ak _,by simp [hi]⟩) (fun H2 s=>⟨_,ak _,RM _⟩) (fun i x σ H2 H3 hi hp s Ej hy=>?_) (fun σ H2 hp s Ej=>?_)
  ·obtain ⟨o1,o2,rfl⟩:=hp
   obtain ⟨rfl,hy⟩:=hy
   have hx:=hy _ (ak _)
   obtain ⟨p,c,rfl,h5,q1,q2,q3⟩:∃ (p:Int) (c:Nat),x=.int p/\P5 p/\iG c0 c1 c2 c3 c4 m i=p ^ c*iG c0 c1 c2 c3 c4 m (i+1)/\iG c0 c1 c2 c3 c4 m (i+1) % p≠0/\([.int c0,.int c1,.int c2,.int c3,.int c4]:List V).take (i+1)=([.int c0,.int c1,.int c2,.int c3,.int c4]:List V).take i++[.int c]:=by
    match i,hi with
    | 0,_=>cases hx;exact⟨_,_,rfl,.p2,oI ..,oO _ _ _ _ _ hm,rfl⟩
    | 1,_=>cases hx;exact⟨_,_,rfl,.p3,oJ ..,oP _ _ _ _ _ hm,rfl⟩
    | 2,_=>cases hx;exact⟨_,_,rfl,.p5,oK ..,oQ _ _ _ _ _ hm,rfl⟩
    | 3,_=>cases hx;exact⟨_,_,rfl,.p7,oM ..,oR _ _ _ _ _ hm,rfl⟩
    | 4,_=>cases hx;exact⟨_,_,rfl,.Df,oN ..,oS _ _ _ _ _ hm,rfl⟩
   walk_at "w"
   refine mC h5 q1 q2 fun q H4 s4 m4=>?_
   walk_at "w"
   refine bT (by walk_at "hf") (by simp;lia) ?_
   have s5:=(s.trans s4).bY (o:=.lst (([.int c0,.int c1,.int c2,.int c3,.int c4]:List V).take i++[.int c])) hl
   have nq:q≠l:=fun z=>by
    subst z
    rw [s4 _ _ Ej] at m4
    cases m4
   have m5:upd H4 l (.lst (([.int c0,.int c1,.int c2,.int c3,.int c4]:List V).take i++[.int c])) q=some (.tup [.int c,.int (iG c0 c1 c2 c3 c4 m (i+1))]):=by rw [aE nq];exact m4
   have m6:upd H4 l (.lst (([.int c0,.int c1,.int c2,.int c3,.int c4]:List V).take i++[.int c])) l=some (.lst (([.int c0,.int c1,.int c2,.int c3,.int c4]:List V).take (i+1))):=by rw [aH,q3]
   walk_at "w"
   exact⟨⟨_,_,rfl⟩,s5,m6⟩
  ·obtain ⟨o1,o2,rfl⟩:=hp
   walk_at "w"
   rename_i q H3 s3 m3 p H4 s4 m4
   exact k _ _ _ (by walk_at "sm") (s4 _ _ m3) m4
theorem xX:aB ["top","bottom","above","below"] ["top","bottom"] (ar lh):=⟨rfl,rfl,rfl,by decide +kernel,rfl,by decide +kernel,by decide +kernel⟩
structure xY(P:Program)(w:World)(K:Frag)(mg:Str->Option Value)(base:Heap)(G:ly):Prop where
 over:Ok P w K mg base 1 "over" ["one","other"] (pL K)
 td:Ok P w K mg base 2 "split_up" ["number"] (gk K)
theorem xZ (D:Def K mg "row_of" lh ["top","bottom"]) (T:Txt K mg G) (O:xY P w K mg base G):rQ P w K mg base 3 "row_of" ["top","bottom"] (jC K):=by
 have S:=xX
 refine D.LD S (fun vs H Q E h=>?_) (fun f bE A outer s H vs Q E hr h=>?_)
 ·obtain ⟨_,_,_,_,_,_,_,_,_,_,_,_,_,_,rfl,_⟩:=h;rfl
 ·obtain ⟨t,b,c0,c1,c2,c3,c4,d0,d1,d2,d3,d4,m,m',rfl,hc,ke,kq⟩:=h
  have hu:=bj hr
  have aD:=T.aD
  have ak:=T.ak
  have ao:=T.ao
  refine⟨_,(af (aS (PW.pt (c6 (ax iI (pv 0) ah (az _)) (cV (ax iI (pv 1) ah (az _))))) (ai (c9 T.lD PySem.F.excBase_ValueError (by decide +kernel) PySem.F.excBase_ValueError rfl (fun _ _ z=>z) rfl rfl T.de (aa aC ag))) aF) (af (au (i:=2) S.nd rfl (Or.inl rfl) (aZ O.td (hr.mono (by decide)) (aa (pv 0) ag))) (af (au (i:=3) S.nd rfl (Or.inl rfl) (aZ O.td (hr.mono (by decide)) (aa (pv 1) ag))) (af (aS (ax eL (aI (aG K rfl) (pv 2) ah (fun _ _=>rfl)) (aI (aG K rfl) (pv 3) ah (fun _ _=>rfl)) (az _)) (ai (c9 T.lD PySem.F.excBase_ValueError (by decide +kernel) PySem.F.excBase_ValueError rfl (fun _ _ z=>z) rfl rfl T.de (aa aC ag))) aF) (ai (aA (aZ O.over (hr.mono (by decide)) (aa (aI (aG K rfl) (pv 2) ah (fun _ _=>rfl)) (aa (aI (aG K rfl) (pv 3) ah (fun _ _=>rfl)) ag))))))))),?_⟩
  walk_at "w"
  refine aO (fun h1=>?_) (fun h1=>?_)
  ·walk_at "w"
   exact⟨by decide,ke _ _ T.eQ (by walk_at "sm") (.inl (RT h1))⟩
  walk_at "w"
  refine aO (fun h2=>?_) (fun h2=>?_)
  ·walk_at "w"
   exact⟨by decide,ke _ _ T.eQ (by walk_at "sm") (.inr (.inl (RT h2)))⟩
  have t1:1<=t:=by have:=RU h1;lia
  have b1:1<=b:=by have:=RU h2;lia
  obtain ⟨ht,hb,hm,dB⟩:=hc.resolve_left (by lia)
  walk_at "w"
  refine lF ht hm fun q1 p1 H1 s1 Rh Ri=>?_
  walk_at "w"
  refine lF hb dB fun q2 p2 H2 s2 Rj LY=>?_
  walk_at "w"
  refine aO (fun h3=>?_) (fun h3=>?_)
  ·walk_at "w"
   exact⟨by decide,ke _ _ T.eQ (by walk_at "sm") (.inr (.inr (by simpa using h3)))⟩
  walk_at "w"
  exact kq _ _ (by walk_at "sm") t1 b1 (by simpa using h3) (by assumption)
theorem lL:aB ["text","most"] ["text","most"] (ar eA):=⟨rfl,rfl,rfl,by decide +kernel,rfl,by decide +kernel,by decide +kernel⟩
theorem lM (D:Def K mg "is_counting" eA ["text","most"]) (T:Txt K mg G):Ok P w K mg base 1 "is_counting" ["text","most"] (dJ K):=by
 have S:=lL
 refine D.ok S (fun vs H Q E h=>?_) (fun f bE A outer s H vs Q E hr h=>?_)
 ·obtain ⟨_,_,rfl,_⟩:=h;rfl
 ·obtain ⟨z,m,rfl,hz,k⟩:=h
  have hu:=bj hr
  have aD:=T.aD
  have ak:=T.ak
  have ao:=T.ao
  refine⟨_,(af (aS (PW.pt (c6 (d8 (y6 kA kA ah (ay bh rfl T.bN PySem.boot_len (aa (pv 0) ag)) (pv 1))) (cV (ax cv (aI d9 (pv 0) ah (fun _ _=>rfl)) aC (az _))))) (ai (aA nC)) aF) (ai (aA (ay (jq K rfl rfl) rfl T.oh boot_all (aa (dt (N:=["figure"]) (ix:=[none]) rfl (z9 (pv 0)) (fun _ _ _ _ _=>(bu (i:=0) (show Bo ["figure"] by decide +kernel) rfl (Or.inl rfl))) (fun _ _ _ _ _=>rfl) (fun _ _ _ _ _=>(gF Fy (pv 0) aC (by with_unfolding_all rfl))) rfl (by decide +kernel) (by decide +kernel) rfl True.intro) ag))))),?_⟩
  walk_at "w"
  by_cases h1:1<=z.length
  ·rw [if_pos (RW (by lia))]
   walk_at "w"
   by_cases h2:z.length<=m
   ·rw [if_neg (by rw [RW (show (z.length:Int)<=(m:Int) by lia)];decide)]
    walk_at "w"
    obtain ⟨c,hc⟩:=aM.Ih h1
    refine jV (bg (by lia)) (bM (j:=0) (by rw [Array.getElem?_toList];exact hc)) ?_
    walk_at "w"
    rw [aM.str0]
    by_cases h3:c=48
    ·rw [if_pos (RW (by rw [h3]))]
     walk_at "w"
     rw [aM.kP (by rw [hc,h3])] at k
     exact k _ (aj.refl _)
    ·rw [if_neg (by rw [RV (fun e=>h3 (aM.dW.mp e))];decide)]
     walk_at "w"
     refine Ae _ (fun i=>V.bl (aM.mi ((z.cps[i]?).getD 0))) rfl hz (fun i d H' Qc hd s1 kc=>?_) (fun l H' hl s1 m1=>?_)
     ·walk_at "w"
      rw [aM.Di,aM.nN]
      have:=kc _ (aj.refl _)
      rw [hd] at this
      exact this
     ·walk_at "w"
      refine nU (bs:=(List.range z.cps.size).map fun i=>aM.mi ((z.cps[i]?).getD 0)) (b5.of (by rw [Sl];exact m1)) ?_
      rw [aM.all_range,<- aM.wg h1 h2 hc h3]
      exact k _ s1
   ·rw [if_pos (by rw [RV (show ¬ (z.length:Int)<=(m:Int) by lia)];rfl)]
    walk_at "w"
    rw [aM.rK h2] at k
    exact k _ (aj.refl _)
  ·rw [if_neg (by rw [RV (show ¬ (1:Int)<=z.length by lia)];decide)]
   walk_at "w"
   rw [aM.jk h1] at k
   exact k _ (aj.refl _)
theorem mE:aB ["text","most","parts"] ["text","most"] (ar eV):=⟨rfl,rfl,rfl,by decide +kernel,rfl,by decide +kernel,by decide +kernel⟩
structure mF(P:Program)(w:World)(K:Frag)(mg:Str->Option Value)(base:Heap)(G:ly):Prop where
 tf:Ok P w K mg base 1 "is_counting" ["text","most"] (dJ K)
theorem mG (D:Def K mg "parts_read" eV ["text","most"]) (T:Txt K mg G) (O:mF P w K mg base G):Ok P w K mg base 2 "parts_read" ["text","most"] (eC K):=by
 have S:=mE
 refine D.ok S (fun vs H Q E h=>?_) (fun f bE A outer s H vs Q E hr h=>?_)
 ·obtain ⟨_,_,rfl,_⟩:=h;rfl
 ·obtain ⟨z,m,rfl,hz,hm,k1,k2⟩:=h
  have hu:=bj hr
  have aD:=T.aD
  have ak:=T.ak
  have ao:=T.ao
  refine⟨_,(af (au (i:=2) S.nd rfl (Or.inl rfl) (cR PySem.F.plainAttrs_str PySem.F.slot_str_split PySem.F.type_str_split rY (pv 0) (aa aC ag))) (af (aS (PW.pt (c6 (ax eL (ay (cM K rfl) rfl T.bN PySem.boot_len (aa (pv 2) ag)) ah (az _)) (cV (d8 (cU (ay (jq K rfl rfl) rfl T.oh boot_all (aa (dt (N:=["part","most"]) (ix:=[none,some 1]) rfl (kW K rfl (pv 2)) (fun _ _ _ _ _=>(bu (i:=0) (show Bo ["part","most"] by decide +kernel) rfl (Or.inl rfl))) (fun _ _ _ _ _=>rfl) (fun _ _ _ _ _=>(aZ O.tf (hr.mono (by decide)) (aa (pv 0) (aa (pv 1) ag)))) rfl (by decide +kernel) (by decide +kernel) rfl ⟨⟨rfl,Or.inr (Or.inl rfl),rfl,rfl⟩,True.intro⟩) ag))))))) (ai (aA cT)) aF) (ai (aA (cL (aa (b9 jr rfl T.sH boot_int (aa (aI (aG K rfl) (pv 2) ah (fun _ _=>rfl)) ag)) (aa (b9 jr rfl T.sH boot_int (aa (aI (aG K rfl) (pv 2) ah (fun _ _=>rfl)) ag)) ag))))))),?_⟩
  have t4:=aM.split_len z
  walk_at "w"
  refine wB (by decide) (by lia) (by rw [aM.zB];lia) fun p1 H1 n1 s1 m1=>?_
  rw [aM.zB] at m1
  by_cases h2:(PySem.Txt.split z aM.ba).length=2
  ·obtain ⟨a,b,LL,la,lb⟩:=aM.zD h2
   rw [LL] at m1
   have m1:H1 p1=some (.lst [.str a,.str b]):=m1
   have ua:=aM.oV (m:=m) LL
   walk_at "w"
   rw [if_neg (show ¬ (!decide ((([V.str a,V.str b].length:Nat):Int)=2))=true from Bool.noConfusion)]
   walk_at "w"
   refine rX _ (fun i=>V.bl (aM.cnt (([a,b]:List Str).getD i a) m)) rfl (b5.of m1) (show 2<=1000000 by decide) (fun i x H' Qc hx s2 kc=>?_) (fun l H' hl s2 m2=>?_)
   ·have hi:i<2:=(RH.mp hx).1
    match i,hi with
    | 0,_ =>
     cases hx
     walk_at "w"
     exact gU (by lia) fun H5 s5=>kc _ s5
    | 1,_ =>
     cases hx
     walk_at "w"
     exact gU (by lia) fun H5 s5=>kc _ s5
   ·have m2:H' l=some (.lst ([aM.cnt a m,aM.cnt b m].map V.bl)):=m2
    walk_at "w"
    refine nU (b5.of m2) ?_
    rw [show [aM.cnt a m,aM.cnt b m].all id=(aM.cnt a m && aM.cnt b m) by simp]
    walk_at "w"
    by_cases hc:(aM.cnt a m && aM.cnt b m)=true
    ·rw [hc] at ua ⊢
     rw [if_pos rfl] at ua
     rw [Bool.and_eq_true] at hc
     have r1:=aM.cG hc.1 hm
     have r2:=aM.cG hc.2 hm
     have m3:=s2 _ _ m1
     rw [if_neg (show ¬ (!true)=true by decide)]
     walk_at "w"
     refine uJ r1.1 (by lia) ?_
     walk_at "w"
     refine uJ r2.1 (by lia) ?_
     walk_at "w"
     rename_i p4 H4 s4 m4
     exact k1 _ _ ua _ _ ((s1.trans s2).trans s4) m4
    ·rw [if_neg hc] at ua
     rw [Bool.not_eq_true] at hc
     rw [hc]
     rw [if_pos (show (!false)=true from rfl)]
     walk_at "w"
     exact k2 ua _ (s1.trans s2)
  ·have ua:=aM.kg (m:=m) h2
   walk_at "w"
   rw [if_pos (by rw [R9,RV (by lia)];rfl)]
   walk_at "w"
   exact k2 ua _ s1
theorem pS:aB ["text","parts"] ["text"] (ar fZ):=⟨rfl,rfl,rfl,by decide +kernel,rfl,by decide +kernel,by decide +kernel⟩
structure pT(P:Program)(w:World)(K:Frag)(mg:Str->Option Value)(base:Heap)(G:ly):Prop where
 CC:rQ P w K mg base 4 "tone_of" ["row"] (il K)
 F6:rQ P w K mg base 3 "row_of" ["top","bottom"] (jC K)
 vd:Ok P w K mg base 2 "parts_read" ["text","most"] (eC K)
theorem pU (D:Def K mg "span_read" fZ ["text"]) (T:Txt K mg G) (O:pT P w K mg base G):rQ P w K mg base 5 "span_read" ["text"] (ft K):=by
 have S:=pS
 refine D.LD S (fun vs H Q E h=>?_) (fun f bE A outer s H vs Q E hr h=>?_)
 ·obtain ⟨_,rfl,_⟩:=h;rfl
 ·obtain ⟨z,rfl,hz,k1,k2⟩:=h
  have hu:=bj hr
  have aD:=T.aD
  have ak:=T.ak
  have ao:=T.ao
  refine⟨_,(af (au (i:=1) S.nd rfl (Or.inl rfl) (aZ O.vd (hr.mono (by decide)) (aa (pv 0) (aa (cX (v:=V.int 60) rfl T.lC ⟨_,rfl⟩) ag)))) (af (aS (ax ou (pv 1) cT (az _)) (ai (c9 T.lD PySem.F.excBase_ValueError (by decide +kernel) PySem.F.excBase_ValueError rfl (fun _ _ z=>z) rfl rfl T.de (aa aC ag))) aF) (ai (aA (fW O.CC (hr.mono (by decide)) (fun _ _ z=>z) rfl (aa (fW O.F6 (hr.mono (by decide)) (fun _ _ z=>z) rfl (aa (aI (aG K rfl) (pv 1) ah (fun _ _=>rfl)) (aa (aI (aG K rfl) (pv 1) ah (fun _ _=>rfl)) ag))) ag)))))),?_⟩
  walk_at "w"
  refine pM ⟨hz,by decide⟩ ⟨fun t b ht p1 H1 s1 m1=>?_,fun hn H1 s1=>?_⟩
  ·have hb:=aM.kR (by decide) ht
   obtain ⟨c0,c1,c2,c3,c4,d0,d1,d2,d3,d4,m,m',et,eb,hm,dB,k3,k4,k5⟩:=k2 t b ht
   walk_at "w"
   refine⟨rfl,?_⟩
   walk_at "w"
   rw [if_neg (show ¬ decide (V.ref p1=V.cF)=true by rw [RV (fun h=>nomatch h)];decide)]
   walk_at "w"
   refine AN (.inr ⟨et,eb,hm,dB⟩) (fun C H2 hC s2 hr=>?_) (fun p2 H2 s2 t1 b1 N1 m2=>?_)
   ·exact⟨_,rfl,k3 (by lia) _ _ hC (s1.trans s2)⟩
   ·walk_at "w"
    refine xR (aT.of m2) (fun hf C H3 hC s3=>⟨_,rfl,k4 N1 hf _ _ hC ((s1.trans s2).trans s3)⟩) (fun hf H3 s3=>?_)
    exact k5 N1 hf _ _ ((s1.trans s2).trans s3) (s3 _ _ m2)
  ·walk_at "w"
   refine⟨rfl,?_⟩
   walk_at "w"
   rw [if_pos (by decide)]
   walk_at "w"
   exact⟨by decide,k1 hn _ _ T.eQ s1⟩
theorem tj:aB ["text","start","end"] ["text","start"] (ar ia):=⟨rfl,rfl,rfl,by decide +kernel,rfl,by decide +kernel,by decide +kernel⟩
theorem tm (D:Def K mg "span_end" ia ["text","start"]) (T:Txt K mg G):Ok P w K mg base 1 "span_end" ["text","start"] (gm K):=by
 have S:=tj
 refine D.ok S (fun vs H Q E h=>?_) (fun f bE A outer s H vs Q E hr h=>?_)
 ·obtain ⟨_,_,rfl,_⟩:=h;rfl
 ·obtain ⟨z,st,rfl,hz,k⟩:=h
  have hu:=bj hr
  have aD:=T.aD
  have ak:=T.ak
  have ao:=T.ao
  refine⟨_,(af (au (i:=2) S.nd rfl (Or.inl rfl) (pv 1)) (af (cy PassesOwn.never (PW.pt (fR (ax iI (pv 2) (ay bh rfl T.bN PySem.boot_len (aa (pv 0) ag)) (az _)) (gB (ax js (aI d9 (pv 0) (pv 2) (fun _ _=>rfl)) (cX (v:=V.str "( )") rfl T.Cy ⟨_,rfl⟩) (by with_unfolding_all rfl))))) (ai (au (i:=2) S.nd rfl (Or.inl rfl) (aw aY (pv 2) ah)))) (ai (aA (pv 2))))),?_⟩
  have yK:z.cps.toList.length=z.length:=Array.length_toList
  have LZ:=lj (z.cps.toList.drop st)
  have P7:=gd (z.cps.toList.drop st)
  rw [length_drop] at P7
  generalize aq (z.cps.toList.drop st)=R at *
  walk_at "w"
  refine join (fun σ' H'=>σ'=[some (.str z),some (.int st),some (.int ((st+R:Nat):Int))]/\H'=H) (fun nx ub=>?_) (fun σ' H' hP=>?_)
  ·refine cY (fun mm σ' H'=>H'=H/\∃ j:Nat,j<=R/\mm=R - j/\σ'=[some (.str z),some (.int st),some (.int ((st+j:Nat):Int))]) R ⟨rfl,0,Sm _,rfl,rfl⟩ (fun mm σ' H' hw=>?_)
   obtain ⟨rfl,j,hj,rfl,rfl⟩:=hw
   walk_at "w"
   by_cases eK:st+j<z.length
   ·rw [if_pos (RW (by lia))]
    walk_at "w"
    obtain ⟨d,tq⟩:∃ d,z.cps.toList[st+j]?=some d:=⟨_,R3 (by lia)⟩
    have hd:=LZ j d hj (by rw [getElem?_drop];exact tq)
    refine jV (bg (by lia)) (bM tq) ?_
    walk_at "w"
    rw [JD]
    by_cases hc:DC d=true
    ·rw [hc,if_neg (by decide)]
     have:=hd.mp hc
     subst this
     exact ub _ _ ⟨rfl,rfl⟩
    ·have F7:j<R:=by
      rcases lt_or_ge j R with h|h
      ·exact h
      ·exact absurd (hd.mpr (by lia)) hc
     rw [if_pos (by simpa using hc)]
     refine kU ?_
     walk_at "w"
     exact⟨R - (j+1),by lia,rfl,j+1,F7,rfl,by rw [show ((st+(j+1):Nat):Int)=((st+j:Nat):Int)+1 by lia] <;> rfl⟩
   ·rw [if_neg (by rw [RV (by lia)];decide)]
    have F7:j=R:=by lia
    subst F7
    rw [if_neg (show ¬ false=true by decide)]
    exact ub _ _ ⟨rfl,rfl⟩
  obtain ⟨rfl,rfl⟩:=hP
  walk_at "w"
  exact k
theorem mH:aB ["text"] ["text"] (ar eW):=⟨rfl,rfl,rfl,by decide +kernel,rfl,by decide +kernel,by decide +kernel⟩
structure mJ(P:Program)(w:World)(K:Frag)(mg:Str->Option Value)(base:Heap)(G:ly):Prop where
 x5:rQ P w K mg base 5 "span_read" ["text"] (ft K)
theorem mK (D:Def K mg "stack_span" eW ["text"]) (T:Txt K mg G) (O:mJ P w K mg base G):rQ P w K mg base 6 "stack_span" ["text"] (eD K):=by
 have S:=mH
 refine D.Jh S (fun vs H Q E h=>?_) (fun f bE A outer s H vs Q E hr h=>?_)
 ·obtain ⟨_,rfl,_⟩:=h;rfl
 ·obtain ⟨z,rfl,hz,k1,k2⟩:=h
  have hu:=bj hr
  have aD:=T.aD
  have ak:=T.ak
  have ao:=T.ao
  refine⟨_,(ai (FL rfl rfl rfl (fun _ _=>(ai (aA (fW O.x5 (hr.mono (by decide)) (fun _ _ z=>z) rfl (aa (pv 0) ag))))) T.sO T.sN rfl T.de rfl T.gg T.eR PySem.F.excBase_ValueError (by decide +kernel) PySem.F.excBase_ValueError (fun _ _ z=>.inl z) (fun _=>uL rfl rfl rfl) (Ak (Dz T.de T.bD) (Dz T.gg T.bC) (Aj T.AG) (Aj T.uW)) rfl T.dD (fun _=>(aa aC ag)))),?_⟩
  walk_at "w"
  refine sP hz ⟨fun hn C H1 hC s1=>?_,fun t b ht=>?_⟩
  ·obtain rfl:C=G.bc:=by rw [T.eQ] at hC;cases hC;rfl
   refine⟨_,rfl,Al (.inl T.de) T.bI T.bH rfl ?_⟩
   walk_at "w"
   exact⟨by decide,k1 (AD hn) _ _ T.cj s1⟩
  ·have hb:=aM.kR (by decide) ht
   obtain ⟨et,hm,m1⟩:=pI hb.1
   obtain ⟨eb,dB,_⟩:=pI hb.2.2.1
   refine⟨_,_,_,_,_,_,_,_,_,_,(dN t).2,(dN b).2,et,eb,hm,dB,fun qR C H1 hC s1=>?_,fun he hf C H1 hC s1=>?_,fun he hf p H1 s1 m1=>?_⟩
   ·obtain rfl:C=G.bc:=by rw [T.eQ] at hC;cases hC;rfl
    refine⟨_,rfl,Al (.inl T.de) T.bI T.bH rfl ?_⟩
    walk_at "w"
    exact⟨by decide,k1 (by rw [jA ht,if_neg (fun z=>qR z.1)]) _ _ T.cj s1⟩
   ·obtain rfl:C=G.bo:=by rw [T.sM] at hC;cases hC;rfl
    refine⟨_,rfl,Al (.inr (.inl T.gg)) T.bW T.bV rfl ?_⟩
    walk_at "w"
    exact⟨by decide,k1 (by rw [jA ht,if_neg (fun z=>by rw [hf] at z;cases z.2)]) _ _ T.cj s1⟩
   ·exact k2 (FV t b) (by rw [jA ht,if_pos ⟨he,hf⟩]) _ _ s1 m1
theorem lN:aB ["text","start","deep","uppers","end","found"] ["text","start","deep"] (ar cZ):=⟨rfl,rfl,rfl,by decide +kernel,rfl,by decide +kernel,by decide +kernel⟩
theorem lO (D:Def K mg "uppers_from" cZ ["text","start","deep"]) (T:Txt K mg G) (n:Nat) (ih:rQ P w K mg base (6+2*n+1) "stack_from" ["text","start","deep"] (cA K n)):rQ P w K mg base (6+2*n+2) "uppers_from" ["text","start","deep"] (gq K n):=by
 have S:=lN
 refine D.Jh (k:=6+2*n+1) S (fun vs H Q E h=>?_) (fun f bE A outer s H vs Q E hr h=>?_)
 ·obtain ⟨_,_,_,rfl,_⟩:=h;rfl
 ·obtain ⟨z,st,dp,rfl,hz,kr,Jc,JG,hn,fJ,k1,k2⟩:=h
  have hu:=bj hr
  have aD:=T.aD
  have ak:=T.ak
  have ao:=T.ao
  refine⟨_,(af (au (i:=3) S.nd rfl (Or.inl rfl) (bK ag)) (af (au (i:=4) S.nd rfl (Or.inl rfl) (pv 1)) (af (cy (xG rfl rfl rfl) (PW.pt (c6 (ax (pd K rfl hr.units) (pv 3) (bK ag) (az _)) (cV (ax cv (bb b8 (pv 0) (aW (pv 4)) (aW (aw aY (pv 4) ah))) aC (az _))))) (af (au (i:=5) S.nd rfl (Or.inl rfl) (fW ih (hr.mono (by lia)) (fun _ _ z=>.inl z) rfl (aa (pv 0) (aa (aw aY (pv 4) ah) (aa (pv 2) ag))))) (af (bX (cR PySem.F.plainAttrs_list PySem.F.slot_list_append PySem.F.type_list_append br (pv 3) (aa (aI (aG K rfl) (pv 5) ah (fun _ _=>rfl)) ag))) (ai (au (i:=4) S.nd rfl (Or.inl rfl) (aI (aG K rfl) (pv 5) ah (fun _ _=>rfl))))))) (af (aS (ax eL (bb b8 (pv 0) (aW (pv 4)) (aW (aw aY (pv 4) ah))) aC (az _)) (ai (c9 T.eR PySem.F.excBase_ValueError (by decide +kernel) PySem.F.excBase_ValueError rfl (fun _ _ z=>.inl z) rfl rfl T.dD (aa aC ag))) aF) (ai (aA (cL (aa (pv 3) (aa (aw aY (pv 4) ah) ag))))))))),?_⟩
  have yK:z.cps.toList.length=z.length:=Array.length_toList
  have L6:PySem.Str.ofString ")"=⟨#[41]⟩:=by decide
  have L7:st<z.length:=by
   obtain ⟨h,_⟩:=RH.mp kr
   lia
  obtain ⟨U,hU⟩:∃ U,l7 (fm fO (9 - dp)) (z.cps.toList.drop st).length (z.cps.toList.drop st)=U:=⟨_,rfl⟩
  rw [hU] at k1 k2
  walk_at "w"
  rename_i l1 H1 n1 s1 m1
  refine join (fun σ' H'=>∃ (o:Option V) (us:List V) (dn:Fo) (e:Nat),σ'=[some (.str z),some (.int st),some (.int dp),some (.ref l1),some (.int (e:Int)),o]/\aj H H'/\H' l1=some (.lst us)/\fj K (fun x=>H x=none/\x≠l1) H' us dn/\e<=z.length/\U=if z.cps.toList[e]?=some 41 then some (dn,(z.cps.toList.drop e).tail) else none) (fun nx ub=>?_) (fun σ' Hx hP=>?_)
  ·refine cY (fun mm σ' H'=>∃ (o:Option V) (us:List V) (dn:Fo) (e n':Nat),σ'=[some (.str z),some (.int st),some (.int dp),some (.ref l1),some (.int (e:Int)),o]/\aj H H'/\H' l1=some (.lst us)/\fj K (fun x=>H x=none/\x≠l1) H' us dn/\dep dn<=9/\us.length+aJ (z.cps.toList.drop e)<=12/\e<=z.length/\mm=aJ (z.cps.toList.drop e)/\((us=[]\/z.cps.toList[e]?=some 32)->(z.cps.toList.drop e).length<=n'/\U=Ct (fm fO (9 - dp)) dn n' (z.cps.toList.drop e)/\∃ c,z.cps.toList[e]?=some c/\c≠47)/\(¬ (us=[]\/z.cps.toList[e]?=some 32)->U=if z.cps.toList[e]?=some 41 then some (dn,(z.cps.toList.drop e).tail) else none)) (aJ (z.cps.toList.drop st)) ⟨_,[],.nil,st,_,rfl,s1,m1,.nil,Sm _,by simpa using fJ,RN L7,rfl,fun _=>⟨RM _,by rw [<- xP];exact hU.symm,40,kr,by decide⟩,fun h=>absurd (.inl rfl) h⟩ (fun mm σ' H' hw=>?_)
   obtain ⟨o,us,dn,e,n',rfl,sn,ml,hF,L8,N2,L9,rfl,yL,uw⟩:=hw
   walk_at "w"
   rename_i p0 H0 n0 s0 m0
   refine zW (.lst (b5.of (s0 _ _ ml)) (hF.at.same s0).tells) (.lst (b5.of m0) .nil) (lp L8) rfl ?_
   have AQ:=s0 _ _ ml
   have Ma:=hF.same s0
   have np:¬ (H l1=none/\l1≠l1):=fun z=>z.2 rfl
   walk_at "w"
   cases dn with
   | nil =>
    have Ei:=hF.len.mpr rfl
    rw [lq]
    refine fU rfl ?_
    refine fU rfl ?_
    refine kU ?_
    walk_at "w"
    have F8:=yL (.inl Ei)
    obtain ⟨Bx,F9,c0,En,Ga⟩:=F8
    have JH:e<z.length:=by
     obtain ⟨h,_⟩:=RH.mp En
     lia
    obtain ⟨n2,rfl⟩:∃ n2,n'=n2+1:=⟨n' - 1,by rw [length_drop] at Bx;lia⟩
    have Gb:(z.cps.toList.drop e).tail=z.cps.toList.drop (e+1):=by rw [<- drop_one,drop_drop]
    have Mb:aJ (z.cps.toList.drop (e+1))=aJ (z.cps.toList.drop e):=by
     rw [<- Gb]
     exact ij (fun c hc=>by
      have:=(bA rfl).mpr hc
      rw [En] at this
      cases this
      exact Ga)
    rw [show (e:Int)+1=((e+1:Nat):Int) from rfl]
    refine fy ⟨hz,by lia,Jc,JG,by lia,by lia⟩ ⟨fun tY C H2 hC s2=>⟨C,rfl,k1 ?_ C H2 hC (sn.trans (s0.trans s2))⟩,fun r k R hA p q e2 H2 s2 mp GU hR hq=>?_⟩
    ·rw [F9]
     exact sy (by rw [Gb];exact tY)
    obtain ⟨hk1,hk2⟩:=km i4 _ _ _ _ hA
    have Mc:aJ (z.cps.toList.drop (e+1))=1+cnt k+aJ R:=hk1
    have Md:dep k+1<=9 - dp:=hk2
    have wU:=sC (dn:=Fo.nil) (n:=n2) (show fm fO (9 - dp) (z.cps.toList.drop e).tail=some ((r,k),R) by rw [Gb];exact hA)
    have Me:=kl fO _ _ _ _ hA
    have hh:∀ c,R.head?=some c↔z.cps.toList[e2]?=some c:=fun c=>(bA hR).symm
    walk_at "w"
    refine bT (s2 _ _ AQ) (by lia) ?_
    have P8:=bw (zs:=us++[.ref q]) mp (s2 _ _ AQ)
    walk_at "w"
    have Mf:=(hq.imp (P':=fun x=>H x=none/\x≠l1) fun x hx=>⟨bG (sn.trans s0) hx,fun z=>by rw [z,AQ] at hx;cases hx⟩)
    refine⟨aJ (z.cps.toList.drop e2),by rw [hR];lia,_,us++[.ref q],(Fo.nil).app (.nd r k .nil),e2,n2,rfl,(sn.trans (s0.trans s2)).bY n1,aH,((Ma.same s2).off (s2 _ _ AQ) np).app (Mf.off (s2 _ _ AQ) np),by rw [pC];exact max_le.mpr ⟨L8,max_le.mpr ⟨by lia,Sm _⟩⟩,by rw [hR,Sa];show us.length+1+_<=_;lia,GU,rfl,fun uI=>?_,fun uI=>?_⟩
    ·have pV:z.cps.toList[e2]?=some 32:=uI.elim (fun z=>absurd z (by simp)) id
     refine⟨?_,?_,32,pV,by decide⟩
     ·rw [hR]
      rw [length_drop] at Me Bx
      lia
     ·rw [F9,wU,if_pos ((hh 32).mpr pV),hR]
    ·have pV:¬ R.head?=some 32:=fun z=>uI (.inr ((hh 32).mp z))
     rw [F9,wU,if_neg pV,hR]
     by_cases i0:R.head?=some 41
     ·rw [if_pos i0,if_pos ((hh 41).mp i0)]
     ·rw [if_neg i0,if_neg (fun z=>i0 ((hh 41).mpr z))]
   | nd r0 k0 N3 =>
    have qR:us≠[]:=fun z=>by have:=hF.len.mp z;cases this
    rw [n9,if_neg (by decide)]
    walk_at "w"
    rw [FR]
    by_cases pH:z.cps.toList[e]?=some 32
    ·rw [if_pos (RW (eO.mpr pH))]
     refine kU ?_
     walk_at "w"
     have F8:=yL (.inr pH)
     obtain ⟨Bx,F9,c0,En,Ga⟩:=F8
     have JH:e<z.length:=by
      obtain ⟨h,_⟩:=RH.mp En
      lia
     obtain ⟨n2,rfl⟩:∃ n2,n'=n2+1:=⟨n' - 1,by rw [length_drop] at Bx;lia⟩
     have Gb:(z.cps.toList.drop e).tail=z.cps.toList.drop (e+1):=by rw [<- drop_one,drop_drop]
     have Mb:aJ (z.cps.toList.drop (e+1))=aJ (z.cps.toList.drop e):=by
      rw [<- Gb]
      exact ij (fun c hc=>by
       have:=(bA rfl).mpr hc
       rw [En] at this
       cases this
       exact Ga)
     rw [show (e:Int)+1=((e+1:Nat):Int) from rfl]
     refine fy ⟨hz,by lia,Jc,JG,by lia,by lia⟩ ⟨fun tY C H2 hC s2=>⟨C,rfl,k1 ?_ C H2 hC (sn.trans (s0.trans s2))⟩,fun r k R hA p q e2 H2 s2 mp GU hR hq=>?_⟩
     ·rw [F9]
      exact sy (by rw [Gb];exact tY)
     obtain ⟨hk1,hk2⟩:=km i4 _ _ _ _ hA
     have Mc:aJ (z.cps.toList.drop (e+1))=1+cnt k+aJ R:=hk1
     have Md:dep k+1<=9 - dp:=hk2
     have wU:=sC (dn:=Fo.nd r0 k0 N3) (n:=n2) (show fm fO (9 - dp) (z.cps.toList.drop e).tail=some ((r,k),R) by rw [Gb];exact hA)
     have Me:=kl fO _ _ _ _ hA
     have hh:∀ c,R.head?=some c↔z.cps.toList[e2]?=some c:=fun c=>(bA hR).symm
     walk_at "w"
     refine bT (s2 _ _ AQ) (by lia) ?_
     have P8:=bw (zs:=us++[.ref q]) mp (s2 _ _ AQ)
     walk_at "w"
     have Mf:=(hq.imp (P':=fun x=>H x=none/\x≠l1) fun x hx=>⟨bG (sn.trans s0) hx,fun z=>by rw [z,AQ] at hx;cases hx⟩)
     refine⟨aJ (z.cps.toList.drop e2),by rw [hR];lia,_,us++[.ref q],(Fo.nd r0 k0 N3).app (.nd r k .nil),e2,n2,rfl,(sn.trans (s0.trans s2)).bY n1,aH,((Ma.same s2).off (s2 _ _ AQ) np).app (Mf.off (s2 _ _ AQ) np),by rw [pC];exact max_le.mpr ⟨L8,max_le.mpr ⟨by lia,Sm _⟩⟩,by rw [hR,Sa];show us.length+1+_<=_;lia,GU,rfl,fun uI=>?_,fun uI=>?_⟩
     ·have pV:z.cps.toList[e2]?=some 32:=uI.elim (fun z=>absurd z (by simp)) id
      refine⟨?_,?_,32,pV,by decide⟩
      ·rw [hR]
       rw [length_drop] at Me Bx
       lia
      ·rw [F9,wU,if_pos ((hh 32).mpr pV),hR]
     ·have pV:¬ R.head?=some 32:=fun z=>uI (.inr ((hh 32).mp z))
      rw [F9,wU,if_neg pV,hR]
      by_cases i0:R.head?=some 41
      ·rw [if_pos i0,if_pos ((hh 41).mp i0)]
      ·rw [if_neg i0,if_neg (fun z=>i0 ((hh 41).mpr z))]
    ·rw [if_neg (by rw [RV (fun z=>pH (eO.mp z))];decide)]
     exact ub _ _ ⟨_,us,_,e,rfl,sn.trans s0,AQ,Ma,L9,uw (fun z=>z.elim qR pH)⟩
  obtain ⟨o,us,dn,e,rfl,sx,ml,hF,L9,Kf⟩:=hP
  walk_at "w"
  rw [L6]
  by_cases i0:z.cps.toList[e]?=some 41
  ·rw [if_pos i0] at Kf
   have JH:e<z.length:=by
    obtain ⟨h,_⟩:=RH.mp i0
    lia
   refine dE (by rw [RW (eO.mpr i0)];rfl) ?_
   walk_at "w"
   rename_i p3 H3 s3 m3
   refine k2 _ _ Kf p3 l1 us (e+1) H3 (sx.trans s3) (aT.of m3) (by lia) ?_ (s3 _ _ ml) n1 ((hF.same s3).imp fun x hx=>hx.1)
   rw [<- drop_one,drop_drop]
  ·rw [if_neg i0] at Kf
   refine fU (by rw [RV (fun z=>i0 (eO.mp z))];rfl) ?_
   walk_at "w"
   exact⟨by decide,k1 Kf _ _ T.cj sx⟩
theorem mL:aB ["text","found"] ["text"] (ar fb):=⟨rfl,rfl,rfl,by decide +kernel,rfl,by decide +kernel,by decide +kernel⟩
structure mM(P:Program)(w:World)(K:Frag)(mg:Str->Option Value)(base:Heap)(G:ly):Prop where
 ve:rQ P w K mg base 25 "stack_from" ["text","start","deep"] (cA K 9)
theorem mO (D:Def K mg "stack_read" fb ["text"]) (T:Txt K mg G) (O:mM P w K mg base G):rQ P w K mg base 26 "stack_read" ["text"] (eE K):=by
 have S:=mL
 refine D.Jh S (fun vs H Q E h=>?_) (fun f bE A outer s H vs Q E hr h=>?_)
 ·obtain ⟨_,rfl,_⟩:=h;rfl
 ·obtain ⟨z,rfl,hz,uI,k1,k2⟩:=h
  have hu:=bj hr
  have aD:=T.aD
  have ak:=T.ak
  have ao:=T.ao
  refine⟨_,(af (aS (ax kB (cR PySem.F.plainAttrs_str PySem.F.slot_str_count PySem.F.type_str_count xK (pv 0) (aa aC ag)) (cX (v:=V.int 12) rfl T.pK ⟨_,rfl⟩) (az _)) (ai (c9 T.eR PySem.F.excBase_ValueError (by decide +kernel) PySem.F.excBase_ValueError rfl (fun _ _ z=>.inl z) rfl rfl T.dD (aa aC ag))) aF) (af (au (i:=1) S.nd rfl (Or.inl rfl) (fW O.ve (hr.mono (by decide)) (fun _ _ z=>.inl z) rfl (aa (pv 0) (aa ah (aa ah ag))))) (af (aS (ax eL (aI (aG K rfl) (pv 1) ah (fun _ _=>rfl)) (ay bh rfl T.bN PySem.boot_len (aa (pv 0) ag)) (az _)) (ai (c9 T.eR PySem.F.excBase_ValueError (by decide +kernel) PySem.F.excBase_ValueError rfl (fun _ _ z=>.inl z) rfl rfl T.dD (aa aC ag))) aF) (ai (aA (aI (aG K rfl) (pv 1) ah (fun _ _=>rfl))))))),?_⟩
  have P9:PySem.Str.ofString "/"=⟨#[47]⟩:=by decide
  have yK:z.cps.toList.length=z.length:=Array.length_toList
  walk_at "w"
  rw [P9]
  refine Ah ?_
  rw [sD]
  walk_at "w"
  by_cases Kg:12<aJ z.cps.toList
  ·refine fU (RW (by lia)) ?_
   walk_at "w"
   exact⟨by decide,k1 (by unfold ko;rw [if_neg (by lia)]) _ _ T.cj (aj.refl _)⟩
  refine dE (RV (by lia)) ?_
  have zo:=uI (by lia)
  walk_at "w"
  refine fy (n:=9) (s:=0) (dp:=1) ⟨zo,Sm _,by decide,by decide,by decide,by rw [List.drop_zero];lia⟩ ⟨fun tY C H1 hC s1=>⟨C,rfl,k1 ?_ C H1 hC s1⟩,fun r k R hA p q e H1 s1 mp he hR hF=>?_⟩
  ·have Mg:fm fO 8 z.cps.toList=none:=tY
   unfold ko
   rw [if_pos (by lia),Mg]
  have Mh:fm fO 8 z.cps.toList=some ((r,k),R):=hA
  obtain ⟨c1,c2⟩:=km i4 _ _ _ _ Mh
  have Rl:aJ z.cps.toList=1+cnt k+aJ R:=c1
  walk_at "w"
  by_cases Kh:R=[]
  ·have BP:e=z.length:=by
    have:=congrArg List.length hR
    rw [length_drop,Kh,List.length_nil] at this
    lia
   refine dE (by rw [RW (by rw [BP])];rfl) ?_
   walk_at "w"
   exact k2 r k (by unfold ko;rw [if_pos (by lia),Mh];dsimp only;rw [if_pos Kh]) c2 (by lia) q H1 s1 hF
  ·have BP:e≠z.length:=fun h=>Kh (by rw [<- hR,h,<- yK,List.drop_length])
   refine fU (by rw [RV (by lia)];rfl) ?_
   walk_at "w"
   exact⟨by decide,k1 (by unfold ko;rw [if_pos (by lia),Mh];dsimp only;rw [if_neg Kh]) _ _ T.cj s1⟩
theorem tv:aB ["_law_script","_law_k"] ["_law_script","_law_k"] (ar ib):=⟨rfl,rfl,rfl,by decide +kernel,rfl,by decide +kernel,by decide +kernel⟩
theorem tw (D:Def K mg "_law_cell" ib ["_law_script","_law_k"]) (T:Txt K mg G):Ok P w K mg base 1 "_law_cell" ["_law_script","_law_k"] (d5 K):=by
 have S:=tv
 refine D.ok S (fun vs H Q E h=>?_) (fun f bE A outer s H vs Q E hr h=>?_)
 ·obtain ⟨_,_,_,rfl,_⟩:=h;rfl
 ·obtain ⟨a,ns,k,rfl,hs,h0,hQ⟩:=h
  have hu:=bj hr
  have aD:=T.aD
  have ak:=T.ak
  have ao:=T.ao
  refine⟨_,(af (aS (ax iI (pv 1) (ay (cM K rfl) rfl T.bN PySem.boot_len (aa (pv 0) ag)) (az _)) (ai (aA (aI (aG K rfl) (pv 0) (pv 1) (fun _ _=>rfl)))) aF) (ai (aA ah))),?_⟩
  walk_at "w"
  refine aO (fun hc=>?_) (fun hc=>?_)
  ·have eK:k.toNat<ns.length:=by simp at hc;lia
   obtain ⟨j,rfl⟩:=eq_ofNat_of_zero_le h0
   repeat walk_at "r"
   exact fK hs (bM (int_at (by simpa using eK))) hQ
  ·have Qa:ns.length<=k.toNat:=by simp at hc;lia
   have e:ns.getD k.toNat 0=0:=by rw [List.getD,List.getElem?_eq_none Qa];rfl
   rw [e] at hQ
   walk_at "w"
   exact hQ
theorem tx:aB ["_law_cell_here","_law_k","_law_many","_law_prime"] ["_law_cell_here","_law_k","_law_many"] (ar ic):=⟨rfl,rfl,rfl,by decide +kernel,rfl,by decide +kernel,by decide +kernel⟩
theorem tD (D:Def K mg "_law_part" ic ["_law_cell_here","_law_k","_law_many"]) (T:Txt K mg G):Ok P w K mg base 1 "_law_part" ["_law_cell_here","_law_k","_law_many"] (dh K):=by
 have S:=tx
 refine D.ok S (fun vs H Q E h=>?_) (fun f bE A outer s H vs Q E hr h=>?_)
 ·obtain ⟨_,_,_,rfl,_⟩:=h;rfl
 ·obtain ⟨c,j,m,rfl,hj,hm,k⟩:=h
  have hu:=bj hr
  have aD:=T.aD
  have ak:=T.ak
  have ao:=T.ao
  refine⟨_,(@af _ _ _ _ _ (@au _ _ 3 _ _ _ _ S.nd rfl (Or.inl rfl) (aI (aG K rfl) (@iS _ _ _ _ (by rfl)) (aw bf (pv 1) ah) (fun _ _=>rfl)) (by rfl) (by first|exact .inl rfl|exact .inr rfl|assumption)) (ai (aA (aw bf (aw bf (aw jf (aw bf (pv 0) ah) (aw aY ah (aw jf ah (pv 1)))) (pv 3)) (pv 2))))),?_⟩
  have hz:=FO j
  walk_at "w"
  refine fK (by walk_at "hf") hz.1 ?_
  have hp:=hz.2
  walk_at "w"
  exact k _ (by walk_at "sm")
theorem mP:aB ["_law_cell_here","_law_k","_law_half"] ["_law_cell_here","_law_k","_law_half"] (ar fe):=⟨rfl,rfl,rfl,by decide +kernel,rfl,by decide +kernel,by decide +kernel⟩
structure mQ(P:Program)(w:World)(K:Frag)(mg:Str->Option Value)(base:Heap)(G:ly):Prop where
 gx:Ok P w K mg base 1 "_law_part" ["_law_cell_here","_law_k","_law_many"] (dh K)
theorem mR (D:Def K mg "_law_signed" fe ["_law_cell_here","_law_k","_law_half"]) (T:Txt K mg G) (O:mQ P w K mg base G):Ok P w K mg base 2 "_law_signed" ["_law_cell_here","_law_k","_law_half"] (c5 K):=by
 have S:=mP
 refine D.ok S (fun vs H Q E h=>?_) (fun f bE A outer s H vs Q E hr h=>?_)
 ·obtain ⟨_,_,_,rfl,_⟩:=h;rfl
 ·obtain ⟨c,j,h,rfl,hj,hh,k⟩:=h
  have hu:=bj hr
  have aD:=T.aD
  have ak:=T.ak
  have ao:=T.ao
  refine⟨_,(ai (aA (aw gY (aw bf (aw aY (aZ O.gx (hr.mono (by decide)) (aa (pv 0) (aa (pv 1) (aa (aw aY (aw jf ah (pv 2)) ah) ag)))) (pv 2)) (aw aY (aw jf ah (pv 2)) ah)) (pv 2)))),?_⟩
  walk_at "w"
  refine iu hj (by lia) fun H1 s1=>?_
  walk_at "w"
  exact k _ s1
theorem vf:aB ["_law_cell_here","_law_first","_law_half","_law_row_here","_law_k"] ["_law_cell_here","_law_first","_law_half"] (ar jv):=⟨rfl,rfl,rfl,by decide +kernel,rfl,by decide +kernel,by decide +kernel⟩
structure vg(P:Program)(w:World)(K:Frag)(mg:Str->Option Value)(base:Heap)(G:ly):Prop where
 fA:Ok P w K mg base 2 "_law_signed" ["_law_cell_here","_law_k","_law_half"] (c5 K)
theorem vh (D:Def K mg "_law_row" jv ["_law_cell_here","_law_first","_law_half"]) (T:Txt K mg G) (O:vg P w K mg base G):Ok P w K mg base 3 "_law_row" ["_law_cell_here","_law_first","_law_half"] (ip K):=by
 have S:=vf
 refine D.ok S (fun vs H Q E h=>?_) (fun f bE A outer s H vs Q E hr h=>?_)
 ·obtain ⟨_,_,_,rfl,_⟩:=h;rfl
 ·obtain ⟨c,f,h,rfl,hf,hh,k⟩:=h
  have hu:=bj hr
  have aD:=T.aD
  have ak:=T.ak
  have ao:=T.ao
  refine⟨_,(af (au (i:=3) S.nd rfl (Or.inl rfl) (bK (aa (aZ O.fA (hr.mono (by decide)) (aa (pv 0) (aa ah (aa (pv 1) ag)))) ag))) (af (gX PassesOwn.never rfl (w9 rfl T.kv (aa ah (aa ah ag))) (bu (i:=4) S.nd rfl (Or.inl rfl)) (ai (bX (cR PySem.F.plainAttrs_list PySem.F.slot_list_append PySem.F.type_list_append br (pv 3) (aa (aZ O.fA (hr.mono (by decide)) (aa (pv 0) (aa (pv 4) (aa (pv 2) ag)))) ag))))) (ai (aA (b9 (iR K rfl) rfl T.fq boot_tuple (aa (pv 3) ag)))))),?_⟩
  walk_at "w"
  refine fz (by decide) hf fun H1 s1=>?_
  walk_at "w"
  rename_i l H2 n2 s2 m2
  refine zY (fun i σ H3=>∃ (o:Option V) (zs:List Int),σ=[some (.int c),some (.int f),some (.int h),some (.ref l),o]/\aj H1 H3/\H3 l=some (.lst ((fk c 0 f::zs).map V.int))/\zs=(List.range i).map fun j:Nat=>fk c (1+(j:Int)) h) ⟨_,[],rfl,s2,m2,rfl⟩ (fun i σ H3 hi hp=>?_) (fun σ H3 hp=>?_)
  ·obtain ⟨o,zs,rfl,s3,m3,hz⟩:=hp
   have Rm:i<4:=hi
   have lz:zs.length=i:=by rw [hz];simp
   walk_at "w"
   refine fz (by lia) hh fun H4 s4=>?_
   walk_at "w"
   refine bT (s4 _ _ m3) (by simp;lia) ?_
   exact⟨_,zs++[fk c (1+(i:Int)) h],rfl,(s3.trans s4).bY n2,Aq (xs:=fk c 0 f::zs),by rw [hz,range_succ,Sk];rfl⟩
  ·obtain ⟨o,zs,rfl,s3,m3,hz⟩:=hp
   have uI:zs=[fk c 1 h,fk c 2 h,fk c 3 h,fk c 4 h]:=hz
   subst uI
   walk_at "w"
   rename_i p9 H9 s9 m9
   exact k _ _ ((s1.trans s3).trans s9) m9
theorem j6:aB ["_law_row_here","_law_top","_law_bottom","_law_prime","_law_count","_law_turn"] ["_law_row_here"] (ar dF):=⟨rfl,rfl,rfl,by decide +kernel,rfl,by decide +kernel,by decide +kernel⟩
theorem j7 (D:Def K mg "_law_fraction" dF ["_law_row_here"]) (T:Txt K mg G):Ok P w K mg base 1 "_law_fraction" ["_law_row_here"] (di K):=by
 have S:=j6
 refine D.ok S (fun vs H Q E h=>?_) (fun f bE A outer s H vs Q E hr h=>?_)
 ·obtain ⟨_,_,_,_,_,_,rfl,_⟩:=h;rfl
 ·obtain ⟨a,e0,e1,e2,e3,e4,rfl,ha,hb,k⟩:=h
  have hu:=bj hr
  have aD:=T.aD
  have ak:=T.ak
  have ao:=T.ao
  refine⟨_,(@af _ _ _ _ _ (au (i:=1) S.nd rfl (Or.inl rfl) ah) (@af _ _ _ _ _ (au (i:=2) S.nd rfl (Or.inl rfl) ah) (@af _ _ _ _ _ (gX PassesOwn.never rfl (kX K rfl false true rfl T.AJ (@aa _ _ _ _ _ (@iS _ _ _ _ (by rfl)) (@aa _ _ _ _ _ (pv 0) ag (by rfl)) (by rfl))) (oY (n:=2) K rfl rfl (eJ (bu (i:=3) S.nd rfl (Or.inl rfl)) (eJ (bu (i:=4) S.nd rfl (Or.inl rfl)) ot))) (ai (gX PassesOwn.never rfl (je rfl T.kv (aa (ay gI rfl T.wR boot_abs (aa (pv 4) ag)) ag)) (bu (i:=5) S.nd rfl (Or.inl rfl)) (ai (aS (ax kB (pv 4) ah (az _)) (ai (au (i:=1) S.nd rfl (Or.inl rfl) (aw jf (pv 1) (pv 3)))) (ai (au (i:=2) S.nd rfl (Or.inl rfl) (aw jf (pv 2) (pv 3))))))))) (ai (aA (cL (aa (pv 1) (aa (pv 2) ag)))))))),?_⟩
  obtain ⟨⟨h1,h2⟩,⟨h3,h4⟩,⟨h5,h6⟩,⟨h7,h8⟩,⟨h9,NO⟩⟩:=hb
  walk_at "w"
  refine IV (by walk_at "hf") (by walk_at "hf") (by rfl) (fun i σ=>∃ o1 o2 o3,σ=[some (.ref a),some (.int (v8 e0 e1 e2 e3 e4 i)),some (.int (v8 (0 - e0) (0 - e1) (0 - e2) (0 - e3) (0 - e4) i)),o1,o2,o3]) ⟨_,_,_,rfl⟩ (fun i x y σ H2 hx hy hp s=>?_) (fun σ H2 hp s=>?_)
  ·obtain ⟨o1,o2,o3,rfl⟩:=hp
   have hi:i<5:=by have:=(RH.mp hx).1;simpa using this
   obtain ⟨p,e,rfl,rfl,hp,he,q1,q2⟩:∃ p e:Int,x=.int p/\y=.int e/\(-16<p/\p<16)/\(-4000<=e/\e<=4000)/\v8 e0 e1 e2 e3 e4 (i+1)=v8 e0 e1 e2 e3 e4 i*p ^ e.toNat/\v8 (0 - e0) (0 - e1) (0 - e2) (0 - e3) (0 - e4) (i+1)=v8 (0 - e0) (0 - e1) (0 - e2) (0 - e3) (0 - e4) i*p ^ (0 - e).toNat:=by
    match i,hi with
    | 0,_|1,_|2,_|3,_|4,_ =>
     cases hx
     cases hy
     exact⟨_,_,rfl,rfl,⟨by decide,by decide⟩,⟨by lia,by lia⟩,rfl,rfl⟩
   walk_at "w"
   refine EZ (fun j σ=>∃ o4,σ=[some (.ref a),some (.int (v8 e0 e1 e2 e3 e4 i*p ^ (if 0<e then j else 0))),some (.int (v8 (0 - e0) (0 - e1) (0 - e2) (0 - e3) (0 - e4) i*p ^ (if 0<e then 0 else j))),some (.int p),some (.int e),o4]) ⟨o3,by split <;> simp <;> rfl⟩ (fun j σ hj hp=>?_) (fun σ hp=>?_)
   ·obtain ⟨o4,rfl⟩:=hp
    walk_at "w"
    refine aO (fun hc=>?_) (fun hc=>?_)
    ·have ud:0<e:=RT hc
     simp only [ud,if_true]
     walk_at "w"
     exact⟨⟨_,by rw [pow_succ,<- mul_assoc] <;> rfl⟩,rfl⟩
    ·have ud:¬ 0<e:=RU hc
     simp only [ud,if_false]
     walk_at "w"
     exact⟨⟨_,by rw [pow_succ,<- mul_assoc] <;> rfl⟩,rfl⟩
   obtain ⟨o4,rfl⟩:=hp
   rw [q1,q2]
   by_cases hc:0<e
   ·have t1:(if e<0 then -e else e).toNat=e.toNat:=by split <;> lia
    have t2:(0 - e).toNat=0:=by lia
    simp only [hc,if_true,t1,t2]
    exact⟨⟨_,_,_,rfl⟩,by walk_at "sm"⟩
   ·have t1:(if e<0 then -e else e).toNat=(0 - e).toNat:=by split <;> lia
    have t2:e.toNat=0:=by lia
    simp only [hc,if_false,t1,t2]
    exact⟨⟨_,_,_,rfl⟩,by walk_at "sm"⟩
  ·obtain ⟨o1,o2,o3,rfl⟩:=hp
   have k2:∀ p H',aj H H'->H' p=some (.tup [.int (v8 e0 e1 e2 e3 e4 5),.int (v8 (0 - e0) (0 - e1) (0 - e2) (0 - e3) (0 - e4) 5)])->Q (.ref p) H':=fun p H' s m=>k p H' s (by rw [v9,wa] at m;exact m)
   walk_at "w"
   rename_i p9 H9 s9 m9
   exact k2 _ _ (by walk_at "sm") m9
theorem mS:aB ["_law_row_here","_law_first","_law_half"] ["_law_row_here","_law_first","_law_half"] (ar ff):=⟨rfl,rfl,rfl,by decide +kernel,rfl,by decide +kernel,by decide +kernel⟩
theorem mT (D:Def K mg "_law_within" ff ["_law_row_here","_law_first","_law_half"]) (T:Txt K mg G):Ok P w K mg base 1 "_law_within" ["_law_row_here","_law_first","_law_half"] (eF K):=by
 have S:=mS
 refine D.ok S (fun vs H Q E h=>?_) (fun f bE A outer s H vs Q E hr h=>?_)
 ·obtain ⟨_,_,_,_,_,_,rfl,_⟩:=h;rfl
 ·obtain ⟨a,x0,x1,x2,x3,x4,rfl,ha,k⟩:=h
  have hu:=bj hr
  have aD:=T.aD
  have ak:=T.ak
  have ao:=T.ao
  refine⟨_,(ai (aA (oq (gF kA (ay gI rfl T.wR boot_abs (aa (aI (aG K rfl) (pv 0) ah (fun _ _=>rfl)) ag)) (pv 1) (az _)) (oo (gF kA (ay (Cf K rfl rfl) rfl T.AI boot_max (aa (dt (N:=["_law_number_here"]) (ix:=[none]) rfl (kh K rfl (bb (B5 K rfl) (pv 0) (aW ah) cB)) (fun _ _ _ _ _=>(bu (i:=0) (show Bo ["_law_number_here"] by decide +kernel) rfl (Or.inl rfl))) (fun _ _ _ _ _=>rfl) (fun _ _ _ _ _=>(ay gI rfl T.wR boot_abs (aa (pv 0) ag))) rfl (by decide +kernel) (by decide +kernel) rfl True.intro) ag)) (pv 2) (az _)))))),?_⟩
  walk_at "w"
  refine aO (fun hc=>?_) (fun hc=>?_)
  ·walk_at "w"
   refine nL (r:=[x1,x2,x3,x4]) (fun x=>.int (if x<0 then -x else x)) [] rfl (by walk_at "hf") (So rfl) (fun x H' Qc _ s kc=>?_) (fun l H2 hl s2 m2=>?_)
   ·walk_at "w"
    exact kc _ (aj.refl _)
   walk_at "w"
   refine Fm (ns:=[if x1<0 then -x1 else x1,if x2<0 then -x2 else x2,if x3<0 then -x3 else x3,if x4<0 then -x4 else x4]) (b5.of m2) (List.cons_ne_nil _ _) fun m GQ Dy=>?_
   have e:decide (m<=60)=fits x0 x1 x2 x3 x4:=by
    have h1:=Dy _ (mem_cons_self ..)
    have h2:=Dy (if x2<0 then -x2 else x2) (by simp)
    have h3:=Dy (if x3<0 then -x3 else x3) (by simp)
    have h4:=Dy (if x4<0 then -x4 else x4) (by simp)
    have h0:=RT hc
    simp only [Sd,not_mem_nil,or_false] at GQ
    unfold fits
    rw [RW h0]
    rw [Bool.eq_iff_iff]
    simp only [all_cons,List.all_nil,Bool.and_eq_true,decide_eq_true_eq,id,Bool.and_true,true_and]
    constructor
    ·intro z
     exact⟨by lia,by lia,by lia,by lia⟩
    ·rintro ⟨z1,z2,z3,z4⟩
     rcases GQ with rfl|rfl|rfl|rfl <;> assumption
   walk_at "w"
   rw [e]
   exact k _ (by walk_at "sm")
  ·have e:fits x0 x1 x2 x3 x4=false:=by unfold fits;rw [hc];rfl
   rw [e] at k
   exact k _ (aj.refl _)
theorem mV:aB ["_law_found"] ["_law_found"] (ar fg):=⟨rfl,rfl,rfl,by decide +kernel,rfl,by decide +kernel,by decide +kernel⟩
theorem mW (D:Def K mg "_law_is_row" fg ["_law_found"]) (T:Txt K mg G):Ok P w K mg base 1 "_law_is_row" ["_law_found"] (eG K):=by
 have S:=mV
 refine D.ok S (fun vs H Q E h=>?_) (fun f bE A outer s H vs Q E hr h=>?_)
 ·obtain ⟨_,_,_,_,_,_,rfl,_⟩:=h;rfl
 ·obtain ⟨a,e0,e1,e2,e3,e4,rfl,ha,k⟩:=h
  have hu:=bj hr
  have aD:=T.aD
  have ak:=T.ak
  have ao:=T.ao
  refine⟨_,(af (aS (PW.pt (c6 (d8 (cU (ay (cH K rfl) rfl T.aR boot_isinstance (aa (pv 0) (aa (dq (v:=V.ty "tuple") rfl T.fq boot_tuple rfl) ag))))) (cV (ax eL (ay (cM K rfl) rfl T.bN PySem.boot_len (aa (pv 0) ag)) ah (az _))))) (ai (aA nC)) aF) (ai (aA (ay (jq K rfl rfl) rfl T.oh boot_all (aa (dt (N:=["_law_number_here"]) (ix:=[none]) rfl (kh K rfl (pv 0)) (fun _ _ _ _ _=>(bu (i:=0) (show Bo ["_law_number_here"] by decide +kernel) rfl (Or.inl rfl))) (fun _ _ _ _ _=>rfl) (fun _ _ _ _ _=>(oq (ay (cH K rfl) rfl T.aR boot_isinstance (aa (pv 0) (aa (dq (v:=V.ty "int") rfl T.sH boot_int rfl) ag))) (oo (yR (ay (cH K rfl) rfl T.aR boot_isinstance (aa (pv 0) (aa (dq (v:=V.ty "bool") rfl T.AH boot_bool rfl) ag))))))) rfl (by decide +kernel) (by decide +kernel) rfl True.intro) ag))))),?_⟩
  walk_at "w"
  refine dE rfl ?_
  walk_at "w"
  refine dE rfl ?_
  walk_at "w"
  refine B6 (fun _=>.bl true) [] rfl ha (fun x H' Qc s kc=>?_) (fun l H1 hl s1 m1=>?_)
  ·walk_at "w"
   refine oD ?_
   walk_at "w"
   exact kc _ (aj.refl _)
  walk_at "w"
  refine nU (bs:=[true,true,true,true,true]) (b5.of m1) ?_
  exact k _ s1
theorem tE:aB ["_law_cell_here","_law_some"] ["_law_cell_here"] (ar ie):=⟨rfl,rfl,rfl,by decide +kernel,rfl,by decide +kernel,by decide +kernel⟩
theorem tF (D:Def K mg "_law_sign" ie ["_law_cell_here"]) (T:Txt K mg G):Ok P w K mg base 1 "_law_sign" ["_law_cell_here"] (gw K):=by
 have S:=tE
 refine D.ok S (fun vs H Q E h=>?_) (fun f bE A outer s H vs Q E hr h=>?_)
 ·obtain ⟨_,rfl,_⟩:=h;rfl
 ·obtain ⟨c,rfl,k⟩:=h
  have hu:=bj hr
  have aD:=T.aD
  have ak:=T.ak
  have ao:=T.ao
  refine⟨_,(af (au (i:=1) S.nd rfl (Or.inl rfl) aC) (af (au (i:=1) S.nd rfl (Or.inl rfl) (aw aX (pv 1) aC)) (ai (aA (aI d9 (pv 1) (aw bf (pv 0) ah) (fun _ _=>rfl)))))),?_⟩
  walk_at "w"
  exact Aw (n:=94) (by decide +kernel) (by decide) (emod_nonneg c (by decide)) (emod_lt_of_pos c (by decide)) fun ch=>k _ (RM _)
theorem mY:aB ["_law_figures","_law_sign_here"] ["_law_figures"] (ar fh):=⟨rfl,rfl,rfl,by decide +kernel,rfl,by decide +kernel,by decide +kernel⟩
theorem mZ (D:Def K mg "_law_number" fh ["_law_figures"]) (T:Txt K mg G):Ok P w K mg base 1 "_law_number" ["_law_figures"] (eH K):=by
 have S:=mY
 refine D.ok S (fun vs H Q E h=>?_) (fun f bE A outer s H vs Q E hr h=>?_)
 ·obtain ⟨_,rfl,_⟩:=h;rfl
 ·obtain ⟨z,rfl,hz,k⟩:=h
  have hu:=bj hr
  have aD:=T.aD
  have ak:=T.ak
  have ao:=T.ao
  refine⟨_,(af (aS (PW.pt (c6 (ax iI (ay bh rfl T.bN PySem.boot_len (aa (pv 0) ag)) ah (az _)) (c6 (ax kB (ay bh rfl T.bN PySem.boot_len (aa (pv 0) ag)) ah (az _)) (cV (ax cv (aI d9 (pv 0) ah (fun _ _=>rfl)) aC (az _)))))) (ai (aA ah)) aF) (af (gX PassesOwn.never rfl (z9 (pv 0)) (bu (i:=1) S.nd rfl (Or.inl rfl)) (ai (aS (ax js (pv 1) aC (by with_unfolding_all rfl)) (ai (aA ah)) aF))) (ai (aA (b9 jr rfl T.sH boot_int (aa (pv 0) ag)))))),?_⟩
  walk_at "w"
  by_cases h0:z.length=0
  ·rw [if_pos (RW (by lia))]
   walk_at "w"
   rw [aM.jk (by lia)] at k
   exact k
  rw [if_neg (by rw [RV (by lia)];decide)]
  walk_at "w"
  by_cases h2:z.length<=60
  ·rw [if_neg (by rw [RV (by lia)];decide)]
   walk_at "w"
   obtain ⟨c,hc⟩:=aM.Ih (z:=z) (by lia)
   refine jV (bg (by lia)) (bM (j:=0) (by rw [Array.getElem?_toList];exact hc)) ?_
   walk_at "w"
   rw [aM.str0]
   by_cases h3:c=48
   ·rw [if_pos (RW (by rw [h3]))]
    walk_at "w"
    rw [aM.kP (by rw [hc,h3])] at k
    exact k
   rw [if_neg (by rw [RV (fun e=>h3 (aM.dW.mp e))];decide)]
   walk_at "w"
   refine FC (fun i σ H2=>H2=H/\(∃ o,σ=[some (.str z),o])/\∀ (j d:Nat),j<i->z.cps[j]?=some d->aM.mi d=true) ⟨rfl,⟨_,rfl⟩,fun _ _ h=>absurd h (Sv _)⟩ (fun i d σ H2 hd hp=>?_) (fun σ H2 hp=>?_)
   ·obtain ⟨rfl,⟨o,rfl⟩,hp⟩:=hp
    walk_at "w"
    rw [aM.Di,aM.nN]
    cases hg:aM.mi d
    ·rw [if_pos (show (!false)=true from rfl)]
     walk_at "w"
     rw [aM.wj (aM.BY hd hg)] at k
     exact k
    ·rw [if_neg (by decide)]
     walk_at "w"
     refine⟨rfl,⟨_,rfl⟩,fun j e hj he=>?_⟩
     rcases Nat.lt_or_eq_of_le (Nat.le_of_lt_succ hj) with h|h
     ·exact hp j e h he
     ·rw [h,hd] at he;cases he;exact hg
   ·obtain ⟨rfl,⟨o,rfl⟩,hp⟩:=hp
    have rl:=aM.Ez (fun j d hd=>hp j d (by
     rcases lt_or_ge j z.cps.size with h|h
     ·exact h
     ·rw [Array.getElem?_eq_none h] at hd;cases hd) hd)
    have Mi:=aM.wg (m:=60) (by lia) h2 hc h3
    rw [rl] at Mi
    have ro:=aM.cG Mi (by decide)
    rw [if_pos Mi] at k
    walk_at "w"
    refine uJ ro.1 (by lia) ?_
    exact k
  ·rw [if_pos (RW (by lia))]
   walk_at "w"
   rw [aM.rK h2] at k
   exact k
theorem j8:aB ["_law_text_here","_law_parts","_law_top","_law_bottom","_law_most","_law_left","_law_row_here","_law_prime","_law_count"] ["_law_text_here"] (ar dG):=⟨rfl,rfl,rfl,by decide +kernel,rfl,by decide +kernel,by decide +kernel⟩
structure j9(P:Program)(w:World)(K:Frag)(mg:Str->Option Value)(base:Heap)(G:ly):Prop where
 lP:Ok P w K mg base 1 "_law_number" ["_law_figures"] (eH K)
theorem ka (D:Def K mg "_law_due_span" dG ["_law_text_here"]) (T:Txt K mg G) (O:j9 P w K mg base G):Ok P w K mg base 2 "_law_due_span" ["_law_text_here"] (dj K):=by
 have S:=j8
 refine D.ok S (fun vs H Q E h=>?_) (fun f bE A outer s H vs Q E hr h=>?_)
 ·obtain ⟨_,rfl,_⟩:=h;rfl
 ·obtain ⟨z,rfl,hz,k1,k2⟩:=h
  have hu:=bj hr
  have aD:=T.aD
  have ak:=T.ak
  have ao:=T.ao
  refine⟨_,(@af _ _ _ _ _ (au (i:=1) S.nd rfl (Or.inl rfl) (cR PySem.F.plainAttrs_str PySem.F.slot_str_split PySem.F.type_str_split rY (pv 0) (aa aC ag))) (@af _ _ _ _ _ (aS (ax eL (ay (cM K rfl) rfl T.bN PySem.boot_len (aa (pv 1) ag)) ah (az _)) (ai (aA cT)) aF) (@af _ _ _ _ _ (au (i:=2) S.nd rfl (Or.inl rfl) (aZ O.lP (hr.mono (by decide)) (aa (aI (aG K rfl) (pv 1) ah (fun _ _=>rfl)) ag))) (@af _ _ _ _ _ (au (i:=3) S.nd rfl (Or.inl rfl) (aZ O.lP (hr.mono (by decide)) (aa (aI (aG K rfl) (pv 1) ah (fun _ _=>rfl)) ag))) (@af _ _ _ _ _ (aS (PW.pt (c6 (ax cv (pv 2) ah (az _)) (cV (ax cv (pv 3) ah (az _))))) (ai (aA cT)) aF) (@af _ _ _ _ _ (yT (i:=4) (j:=5) rfl S.nd rfl rfl (by decide) rfl rfl (aa (pv 2) (aa (pv 3) ag)) rfl) (@af _ _ _ _ _ (cy PassesOwn.never (ax kB (pv 5) ah (az _)) (ai (yT (i:=4) (j:=5) rfl S.nd rfl rfl (by decide) rfl rfl (aa (pv 5) (aa (aw bf (pv 4) (pv 5)) ag)) rfl))) (@af _ _ _ _ _ (au (i:=2) S.nd rfl (Or.inl rfl) (aw iN (pv 2) (pv 4))) (@af _ _ _ _ _ (au (i:=3) S.nd rfl (Or.inl rfl) (aw iN (pv 3) (pv 4))) (@af _ _ _ _ _ (au (i:=6) S.nd rfl (Or.inl rfl) (bK ag)) (@af _ _ _ _ _ (gX PassesOwn.never rfl (kW K rfl (@iS _ _ _ _ (by rfl))) (bu (i:=7) S.nd rfl (Or.inl rfl)) (af (au (i:=8) S.nd rfl (Or.inl rfl) ah) (af (cy PassesOwn.never (ax cv (aw bf (pv 2) (pv 7)) ah (az _)) (af (au (i:=2) S.nd rfl (Or.inl rfl) (aw iN (pv 2) (pv 7))) (ai (au (i:=8) S.nd rfl (Or.inl rfl) (aw aY (pv 8) ah))))) (af (cy PassesOwn.never (ax cv (aw bf (pv 3) (pv 7)) ah (az _)) (af (au (i:=3) S.nd rfl (Or.inl rfl) (aw iN (pv 3) (pv 7))) (ai (au (i:=8) S.nd rfl (Or.inl rfl) (aw gY (pv 8) ah))))) (ai (bX (cR PySem.F.plainAttrs_list PySem.F.slot_list_append PySem.F.type_list_append br (pv 6) (aa (pv 8) ag)))))))) (af (aS (PW.pt (c6 (ax eL (pv 2) ah (az _)) (cV (ax eL (pv 3) ah (az _))))) (ai (aA cT)) aF) (ai (aA (b9 (iR K rfl) rfl T.fq boot_tuple (aa (pv 6) ag)))))))))))))))),?_⟩
  have t4:=aM.split_len z
  walk_at "w"
  refine wB (by decide) (by lia) (by rw [aM.zB];lia) fun p1 H1 n1 s1 m1=>?_
  rw [aM.zB] at m1
  by_cases h2:(PySem.Txt.split z aM.ba).length=2
  rotate_left
  ·have ua:=aM.kg (m:=60) h2
   walk_at "w"
   rw [if_pos (by rw [R9,RV (by lia)];rfl)]
   walk_at "w"
   exact k1 ua _ s1
  obtain ⟨u,v,N4,lu,lv⟩:=aM.zD h2
  rw [N4] at m1
  have m1:H1 p1=some (.lst [.str u,.str v]):=m1
  have ua:=aM.oV (m:=60) N4
  walk_at "w"
  rw [if_neg (show ¬ (!decide ((([V.str u,V.str v].length:Nat):Int)=2))=true from Bool.noConfusion)]
  walk_at "w"
  refine i6 (by lia) ?_
  walk_at "w"
  refine i6 (by lia) ?_
  by_cases DH:aM.cnt u 60=true
  rotate_left
  ·rw [Bool.not_eq_true] at DH
   rw [DH,Bool.false_and,if_neg (by decide)] at ua
   rw [DH,if_neg (show ¬ false=true by decide)]
   walk_at "w"
   rw [if_pos (by decide)]
   walk_at "w"
   exact k1 ua _ s1
  by_cases GV:aM.cnt v 60=true
  rotate_left
  ·rw [Bool.not_eq_true] at GV
   have r1:=aM.cG DH (by decide)
   rw [GV,Bool.and_false,if_neg (by decide)] at ua
   rw [if_pos DH,GV,if_neg (show ¬ false=true by decide)]
   walk_at "w"
   rw [if_neg (by rw [RV (by lia)];decide)]
   walk_at "w"
   rw [if_pos (by decide)]
   walk_at "w"
   exact k1 ua _ s1
  have r1:=aM.cG DH (by decide)
  have r2:=aM.cG GV (by decide)
  rw [DH,GV,if_pos (by rfl)] at ua
  rw [if_pos DH,if_pos GV]
  generalize aM.num u=t at *
  generalize aM.num v=b at *
  obtain ⟨c0,c1,c2,c3,c4,d0,d1,d2,d3,d4,m,m',et,eb,hm,dB,Qb,kn,kq⟩:=k2 t b ua
  have g0:0<Nat.gcd t b:=Nat.gcd_pos_of_pos_right _ r2.2.1
  have gl:((Nat.gcd t b:Nat):Int).natAbs.log2<9000:=LU g0 (Se (An r2.2.1) (Nat.lt_trans r2.2.2.1 (by decide +kernel)))
  have Rn:(0:Int)<(Nat.gcd t b:Nat):=by lia
  walk_at "w"
  rw [if_neg (by rw [RV (by lia)];decide)]
  walk_at "w"
  rw [if_neg (by rw [RV (by lia)];decide)]
  walk_at "w"
  refine join (fun σ' H'=>σ'=[some (.str z),some (.ref p1),some (.int t),some (.int b),some (.int (Nat.gcd t b:Nat)),some (.int 0),none,none,none]/\H'=H1) (fun nx ub=>?_) (fun σ' H' hP=>?_)
  ·refine cY (fun q σ' H'=>∃ g:Nat,σ'=[some (.str z),some (.ref p1),some (.int t),some (.int b),some (.int g),some (.int q),none,none,none]/\H'=H1/\Nat.gcd g q=Nat.gcd t b) b ⟨_,rfl,rfl,rfl⟩ (fun q σ' H' hw=>?_)
   obtain ⟨g,rfl,rfl,Bl⟩:=hw
   walk_at "w"
   refine aO (fun hc=>?_) (fun hc=>?_)
   ·have JI:0<q:=by have:=RT hc;lia
    refine kU ?_
    walk_at "w"
    refine⟨g % q,mod_lt _ JI,q,by rw [Int.natCast_emod] <;> rfl,rfl,?_⟩
    rw [rJ]
    exact Bl
   ·have JI:q=0:=by have:=RU hc;lia
    subst JI
    rw [Nat.gcd_zero_right] at Bl
    rw [<- Bl] at ub
    exact ub _ _ ⟨rfl,rfl⟩
  obtain ⟨rfl,rfl⟩:=hP
  walk_at "w"
  rename_i l Hl nl sl ml pp Hq np sp mp
  simp only [<- Int.natCast_ediv]
  obtain ⟨e0,e1,e2,e3,e4,x,hT,hx,x1⟩:=iQ (t / Nat.gcd t b) (Nat.div_pos (Cp r1.2.1) g0)
  obtain ⟨f0,f1,f2,f3,f4,y,hB,hy,y1⟩:=iQ (b / Nat.gcd t b) (Nat.div_pos (An r2.2.1) g0)
  have CD:=wm (Nat.mul_div_cancel' (Nat.gcd_dvd_left t b)).symm (Nat.mul_div_cancel' (Nat.gcd_dvd_right t b)).symm (aM.BZ r2.2.1) et eb hT hB hm dB hx hy x1 Qb
  rw [hT,hB,<- wb,<- wb]
  have Qd:pp≠l:=fun e=>by rw [e,ml] at np;cases np
  have kE:=sl.trans sp
  have N5:=sp _ _ ml
  clear sl sp ml np hT hB
  have Qe:=aj.new s1 nl
  have Qf:=s1.trans kE
  refine Fl (xs:=[V.int 2,V.int 3,V.int 5,V.int 7,V.int 11]) (fun i σ Hn=>∃ o1 o2,σ=[some (.str z),some (.ref p1),some (.int (iG e0 e1 e2 e3 e4 x i)),some (.int (iG f0 f1 f2 f3 f4 y i)),some (.int (Nat.gcd t b:Nat)),some (.int 0),some (.ref l),o1,o2]/\aj H Hn/\Hn pp=some (.lst [V.int 2,V.int 3,V.int 5,V.int 7,V.int 11])/\Hn l=some (.lst (([.int ((e0:Int) - f0),.int ((e1:Int) - f1),.int ((e2:Int) - f2),.int ((e3:Int) - f3),.int ((e4:Int) - f4)]:List V).take i))) ⟨_,_,rfl,Qf,mp,N5⟩ (fun i σ Hn hp=>by obtain ⟨_,_,rfl,_,e,_⟩:=hp;exact b5.of e) (fun i xv σ Hn GW hp=>?_) (fun σ Hn hp=>?_)
  ·obtain ⟨o1,o2,rfl,sn,N6,Ki⟩:=hp
   have hi:i<5:=(RH.mp GW).1
   obtain ⟨p,e,f',X1,Y1,eX,eY,rfl,h5,qe,ne,qf,nf,ql⟩:∃ (p:Int) (e f':Nat) (X1 Y1:Int),X1=iG e0 e1 e2 e3 e4 x (i+1)/\Y1=iG f0 f1 f2 f3 f4 y (i+1)/\xv=.int p/\P5 p/\iG e0 e1 e2 e3 e4 x i=p ^ e*X1/\X1 % p≠0/\iG f0 f1 f2 f3 f4 y i=p ^ f'*Y1/\Y1 % p≠0/\([.int ((e0:Int) - f0),.int ((e1:Int) - f1),.int ((e2:Int) - f2),.int ((e3:Int) - f3),.int ((e4:Int) - f4)]:List V).take (i+1)=([.int ((e0:Int) - f0),.int ((e1:Int) - f1),.int ((e2:Int) - f2),.int ((e3:Int) - f3),.int ((e4:Int) - f4)]:List V).take i++[.int ((e:Int) - f')]:=by
    match i,hi with
    | 0,_=>cases GW;exact⟨_,_,_,_,_,rfl,rfl,rfl,.p2,oI ..,oO _ _ _ _ _ hx,oI ..,oO _ _ _ _ _ hy,rfl⟩
    | 1,_=>cases GW;exact⟨_,_,_,_,_,rfl,rfl,rfl,.p3,oJ ..,oP _ _ _ _ _ hx,oJ ..,oP _ _ _ _ _ hy,rfl⟩
    | 2,_=>cases GW;exact⟨_,_,_,_,_,rfl,rfl,rfl,.p5,oK ..,oQ _ _ _ _ _ hx,oK ..,oQ _ _ _ _ _ hy,rfl⟩
    | 3,_=>cases GW;exact⟨_,_,_,_,_,rfl,rfl,rfl,.p7,oM ..,oR _ _ _ _ _ hx,oM ..,oR _ _ _ _ _ hy,rfl⟩
    | 4,_=>cases GW;exact⟨_,_,_,_,_,rfl,rfl,rfl,.Df,oN ..,oS _ _ _ _ _ hx,oN ..,oS _ _ _ _ _ hy,rfl⟩
   have p2:=h5.pos
   have P6:=h5.le
   have Ro:0<p:=by lia
   have kd:p.natAbs.log2<9000:=Se (Nat.log2_le_self _) (by lia)
   clear CD
   rw [<- eX,<- eY]
   walk_at "w"
   refine join (fun σ' Hx=>σ'=[some (.str z),some (.ref p1),some (.int (X1)),some (.int (iG f0 f1 f2 f3 f4 y i)),some (.int (Nat.gcd t b:Nat)),some (.int 0),some (.ref l),some (.int p),some (.int (e:Int))]/\Hx=Hn) (fun nx ub=>?_) (fun σ' Hx hP=>?_)
   ·refine cY (fun mm σ' Hx=>Hx=Hn/\∃ j:Nat,j<=e/\mm=e - j/\σ'=[some (.str z),some (.ref p1),some (.int (p ^ (e - j)*X1)),some (.int (iG f0 f1 f2 f3 f4 y i)),some (.int (Nat.gcd t b:Nat)),some (.int 0),some (.ref l),some (.int p),some (.int (j:Int))]) e ⟨rfl,0,Sm _,rfl,?_⟩ (fun mm σ' Hx hw=>?_)
    ·rw [sub_zero,<- qe];rfl
    obtain ⟨rfl,j,hj,rfl,rfl⟩:=hw
    walk_at "w"
    refine aO (fun hc=>?_) (fun hc=>?_)
    ·have eK:j<e:=by
      apply Nat.lt_of_le_of_ne hj
      rintro rfl
      rw [sub_self,pow_zero,one_mul] at hc
      exact ne (RT hc)
     have w1:p ^ (e - j)*X1=p*(p ^ (e - (j+1))*X1):=by
      rw [show e - j=(e - (j+1))+1 by lia,pow_succ];ac_rfl
     have w2:p ^ (e - j)*X1 / p=p ^ (e - (j+1))*X1:=by rw [w1,Int.mul_ediv_cancel_left _ (by lia)]
     refine kU ?_
     walk_at "w"
     rw [w2]
     exact⟨e - (j+1),by lia,rfl,j+1,eK,rfl,rfl⟩
    ·have he:j=e:=by
      apply Nat.le_antisymm hj
      apply Nat.not_lt.mp
      intro eK
      have w1:p ^ (e - j)*X1=p*(p ^ (e - (j+1))*X1):=by
       rw [show e - j=(e - (j+1))+1 by lia,pow_succ];ac_rfl
      exact RU hc (by rw [w1];exact mul_emod_right _ _)
     subst he
     exact ub _ _ ⟨by rw [sub_self,pow_zero,one_mul] <;> rfl,rfl⟩
   obtain ⟨rfl,JJ⟩:=hP
   rw [JJ]
   clear JJ
   walk_at "w"
   refine join (fun σ' Hx=>σ'=[some (.str z),some (.ref p1),some (.int X1),some (.int (Y1)),some (.int (Nat.gcd t b:Nat)),some (.int 0),some (.ref l),some (.int p),some (.int ((e:Int) - (f':Int)))]/\Hx=Hn) (fun nx ub=>?_) (fun σ' Hx hP=>?_)
   ·refine cY (fun mm σ' Hx=>Hx=Hn/\∃ j:Nat,j<=f'/\mm=f' - j/\σ'=[some (.str z),some (.ref p1),some (.int X1),some (.int (p ^ (f' - j)*Y1)),some (.int (Nat.gcd t b:Nat)),some (.int 0),some (.ref l),some (.int p),some (.int ((e:Int) - (j:Int)))]) f' ⟨rfl,0,Sm _,rfl,?_⟩ (fun mm σ' Hx hw=>?_)
    ·rw [sub_zero,<- qf];simp
    obtain ⟨rfl,j,hj,rfl,rfl⟩:=hw
    walk_at "w"
    refine aO (fun hc=>?_) (fun hc=>?_)
    ·have eK:j<f':=by
      apply Nat.lt_of_le_of_ne hj
      rintro rfl
      rw [sub_self,pow_zero,one_mul] at hc
      exact nf (RT hc)
     have w1:p ^ (f' - j)*Y1=p*(p ^ (f' - (j+1))*Y1):=by
      rw [show f' - j=(f' - (j+1))+1 by lia,pow_succ];ac_rfl
     have w2:p ^ (f' - j)*Y1 / p=p ^ (f' - (j+1))*Y1:=by rw [w1,Int.mul_ediv_cancel_left _ (by lia)]
     refine kU ?_
     walk_at "w"
     rw [w2]
     exact⟨f' - (j+1),by lia,rfl,j+1,eK,rfl,by rw [show (e:Int) - ((j+1:Nat):Int)=(e:Int) - (j:Int) - 1 by lia] <;> rfl⟩
    ·have he:j=f':=by
      apply Nat.le_antisymm hj
      apply Nat.not_lt.mp
      intro eK
      have w1:p ^ (f' - j)*Y1=p*(p ^ (f' - (j+1))*Y1):=by
       rw [show f' - j=(f' - (j+1))+1 by lia,pow_succ];ac_rfl
      exact RU hc (by rw [w1];exact mul_emod_right _ _)
     subst he
     exact ub _ _ ⟨by rw [sub_self,pow_zero,one_mul] <;> rfl,rfl⟩
   obtain ⟨rfl,JJ⟩:=hP
   rw [JJ]
   clear JJ
   walk_at "w"
   refine bT Ki (by simp;lia) ?_
   exact⟨_,_,rfl,sn.bY Qe,by rw [aE Qd];exact N6,by rw [aH,ql]⟩
  ·obtain ⟨o1,o2,hσ,sn,N6,Ki⟩:=hp
   have Qg:σ=[some (.str z),some (.ref p1),some (.int x),some (.int y),some (.int (Nat.gcd t b:Nat)),some (.int 0),some (.ref l),o1,o2]:=hσ
   subst Qg
   have Qh:Hn l=some (.lst ([.int ((e0:Int) - f0),.int ((e1:Int) - f1),.int ((e2:Int) - f2),.int ((e3:Int) - f3),.int ((e4:Int) - f4)]:List V)):=Ki
   clear Ki hσ
   by_cases he:m=m'
   ·obtain ⟨ex,ey⟩:=CD.2.mp he
    walk_at "w"
    rw [if_neg (by rw [RW ex];decide)]
    walk_at "w"
    rw [if_neg (by rw [RW ey];decide)]
    walk_at "w"
    rename_i pt Ht st mt
    refine kq he _ _ (sn.trans st) ?_
    obtain ⟨w0,w1,w2,w3,w4⟩:=CD.1
    rw [mt,show (e0:Int) - f0=c0 - d0 by lia,show (e1:Int) - f1=c1 - d1 by lia,show (e2:Int) - f2=c2 - d2 by lia,show (e3:Int) - f3=c3 - d3 by lia,show (e4:Int) - f4=c4 - d4 by lia]
   ·have qR:¬ (x=1/\y=1):=fun h=>he (CD.2.mpr h)
    walk_at "w"
    by_cases ex:x=1
    ·rw [if_neg (by rw [RW ex];decide)]
     walk_at "w"
     rw [if_pos (by rw [RV (fun h=>qR ⟨ex,h⟩)];rfl)]
     walk_at "w"
     exact kn he _ sn
    ·rw [if_pos (by rw [RV ex];rfl)]
     walk_at "w"
     exact kn he _ sn
theorem pW:aB ["_law_script","_law_at","_law_count","_law_wide","_law_nodes","_law_depths","_law_k","_law_cell_here","_law_node","_law_depth","_law_under"] ["_law_script","_law_at","_law_count","_law_wide"] (ar f6):=⟨rfl,rfl,rfl,by decide +kernel,rfl,by decide +kernel,by decide +kernel⟩
structure pX(P:Program)(w:World)(K:Frag)(mg:Str->Option Value)(base:Heap)(G:ly):Prop where
 gy:Ok P w K mg base 1 "_law_cell" ["_law_script","_law_k"] (d5 K)
 gx:Ok P w K mg base 1 "_law_part" ["_law_cell_here","_law_k","_law_many"] (dh K)
 fA:Ok P w K mg base 2 "_law_signed" ["_law_cell_here","_law_k","_law_half"] (c5 K)
 CF:Ok P w K mg base 3 "_law_row" ["_law_cell_here","_law_first","_law_half"] (ip K)
theorem pY (D:Def K mg "_law_stack" f6 ["_law_script","_law_at","_law_count","_law_wide"]) (T:Txt K mg G) (O:pX P w K mg base G):Ok P w K mg base 4 "_law_stack" ["_law_script","_law_at","_law_count","_law_wide"] (fu K):=by
 have S:=pW
 refine D.ok S (fun vs H Q E h=>?_) (fun f bE A outer s H vs Q E hr h=>?_)
 ·obtain ⟨_,_,_,_,rfl,_⟩:=h;rfl
 ·obtain ⟨a,ns,n,wd,rfl,ha,hn,k⟩:=h
  have hu:=bj hr
  have aD:=T.aD
  have ak:=T.ak
  have ao:=T.ao
  refine⟨_,(af (au (i:=4) S.nd rfl (Or.inl rfl) (bK ag)) (af (au (i:=5) S.nd rfl (Or.inl rfl) (bK ag)) (af (gX PassesOwn.never rfl (je rfl T.kv (aa (pv 2) ag)) (bu (i:=6) S.nd rfl (Or.inl rfl)) (af (au (i:=7) S.nd rfl (Or.inl rfl) (aw bf (aZ O.gy (hr.mono (by decide)) (aa (pv 0) (aa (aw aY (pv 1) (pv 6)) ag))) ah)) (af (au (i:=8) S.nd rfl (Or.inl rfl) (cL (@aa _ _ _ _ _ (aZ O.CF (hr.mono (by decide)) (aa (aw gE (pv 7) ah) (aa ah (aa ah ag)))) (@aa _ _ _ _ _ (bK ag) ag (by rfl)) (by rfl)))) (af (aS (ax cv (pv 6) (pv 3) (az _)) (ai (au (i:=8) S.nd rfl (Or.inl rfl) (cL (@aa _ _ _ _ _ (@cL _ _ _ _ _ (aa (aw aY ah (aZ O.gx (hr.mono (by decide)) (aa (pv 7) (aa ah (aa ah ag))))) (aa ah (aa ah (aa ah (aa (aZ O.fA (hr.mono (by decide)) (aa (pv 7) (aa ah (aa ah ag)))) ag)))))) (@aa _ _ _ _ _ (bK ag) ag (by rfl)) (by rfl))))) aF) (af (au (i:=9) S.nd rfl (Or.inl rfl) ah) (af (aS (ax kB (pv 6) ah (az _)) (af (au (i:=10) S.nd rfl (Or.inl rfl) (ay (nR rfl) rfl T.AI boot_max (aa ah (aa (aw gY (aw gY (pv 6) ah) (aw bf (aw bf (pv 7) ah) (aI (aG K rfl) (bK (aa ah (aa ah (aa ah ag)))) (aw bf (aZ O.gy (hr.mono (by decide)) (aa (pv 0) (aa (pv 1) ag))) ah) (fun _ _=>rfl)))) ag)))) (af (cy PassesOwn.never (ax Hu (aI (aG K rfl) (pv 5) (pv 10) (fun _ _=>rfl)) ah (az _)) (ai (au (i:=10) S.nd rfl (Or.inl rfl) (aw gY (pv 10) ah)))) (af (bX (cR PySem.F.plainAttrs_list PySem.F.slot_list_append PySem.F.type_list_append br (aI (aG K rfl) (aI (aG K rfl) (pv 4) (pv 10) (fun _ _=>rfl)) ah (fun _ _=>rfl)) (aa (pv 8) ag))) (ai (au (i:=9) S.nd rfl (Or.inl rfl) (aw aY (aI (aG K rfl) (pv 5) (pv 10) (fun _ _=>rfl)) ah)))))) aF) (af (bX (cR PySem.F.plainAttrs_list PySem.F.slot_list_append PySem.F.type_list_append br (pv 4) (aa (pv 8) ag))) (ai (bX (cR PySem.F.plainAttrs_list PySem.F.slot_list_append PySem.F.type_list_append br (pv 5) (aa (pv 9) ag))))))))))) (ai (aA (aI (aG K rfl) (pv 4) ah (fun _ _=>rfl))))))),?_⟩
  walk_at "w"
  rename_i l1 H1 n1 s1 m1 l2 H2 n2 s2 m2
  have JK:l1≠l2:=fun z=>by rw [<- z,m1] at n2;cases n2
  have Qi:H l2=none:=bG s1 n2
  refine zY (fun i σ H2=>∃ o6:Option V,∃ (o7 o8 o9 Gd:Option V) (t b c:Nat->Addr),σ=[some (.ref a),some (.int 2),some (.int n),some (.int wd),some (.ref l1),some (.ref l2),o6,o7,o8,o9,Gd]/\aj H H2/\H2 l1=some (.lst ((List.range i).map fun j=>V.ref (t j)))/\H2 l2=some (.lst ((bZ wd ns i).1.map V.int))/\(bZ wd ns i).1.length=i/\(∀ d∈(bZ wd ns i).1,1<=d/\d<=8)/\(∀ j,j<i->aT K H2 (t j) [.ref (b j),.ref (c j)])/\(∀ j,j<i->H (c j)=none/\c j≠l1/\c j≠l2/\∃ us,H2 (c j)=some (.lst us)/\us.length<=i)/\(∀ j j',j<i->j'<i->c j=c j'->j=j')/\dH K H2 t b c (if i=0 then [] else [.ref (t 0)]) (bZ wd ns i).2/\(∀ v,v<i->cJ v (bZ wd ns i).2=1)/\(∀ v,i<=v->cJ v (bZ wd ns i).2=0)/\Lv (bZ wd ns i).1 1 (bZ wd ns i).2/\cnt (bZ wd ns i).2.fo<=i/\(i≠0->(bZ wd ns i).1.getD 0 0=1/\∃ r ks,(bZ wd ns i).2=.nd 0 r ks .nil)) ⟨_,_,_,_,_,fun _=>0,fun _=>0,fun _=>0,rfl,s1.trans s2,s2 _ _ m1,m2,rfl,(fun _ z=>nomatch z),(fun _ z=>absurd z (Sv _)),(fun _ z=>absurd z (Sv _)),(fun _ _ z=>absurd z (Sv _)),.nil,(fun _ z=>absurd z (Sv _)),(fun _ _=>rfl),trivial,RM _,fun z=>absurd rfl z⟩ (fun i σ H3 hi hp=>?_) (fun σ H3 hp=>?_)
  ·obtain ⟨o6,o7,o8,o9,Gd,t,b,c,rfl,s3,e1,e2,ld,bd,tt,cl,ci,lf,CG,GX,lv,cn,nz⟩:=hp
   have Rp:i<n:=by have:i<(n:Int).toNat:=hi;lia
   have Rq:=s3.seq ha
   walk_at "w"
   have ec:ns.getD (2+(0+(i:Int))).toNat 0 % 1000003=gf ns i:=by unfold gf;rw [show (2+(0+(i:Int))).toNat=2+i by lia]
   rw [ec]
   refine xS (by decide) (by decide) fun pr H4 s4 m4=>?_
   walk_at "j"
   rename_i Qj H5 n5 s5 m5 Qk Ql s6 m6
   have N7:aj H3 Ql:=(s4.trans s5).trans s6
   refine join (fun σ' H'=>∃ (pr pc pt:Addr),σ'=[some (.ref a),some (.int 2),some (.int n),some (.int wd),some (.ref l1),some (.ref l2),some (.int (0+(i:Int))),some (.int (gf ns i)),some (.ref pt),o9,Gd]/\aj H3 H'/\H3 pc=none/\H' pc=some (.lst [])/\H' pr=some (.tup ((gR wd ns i).map V.int))/\H' pt=some (.tup [.ref pr,.ref pc])) (fun nx kn=>?_) (fun σ' H6 hp=>?_)
   ·walk_at "w"
    refine aO (fun hc=>?_) (fun hc=>?_)
    ·have hw:(i:Int)=wd:=by have:=RT hc;lia
     walk_at "w"
     refine iu (by decide) (by decide) fun H7 s7=>?_
     walk_at "w"
     refine fz (by decide) (by decide) fun H8 s8=>?_
     walk_at "w"
     rename_i pq H9 s9 m9 pe HA nA sA mA pf HB sB mB
     have sq:=(N7.trans s7).trans (s8.trans s9)
     refine kn _ _ ⟨pq,pe,pf,rfl,sq.trans (sA.trans sB),bG sq nA,sB _ _ mA,?_,mB⟩
     rw [(sA.trans sB) _ _ m9,gR,if_pos hw]
     rfl
    ·have hw:¬ (i:Int)=wd:=by have:=RU hc;lia
     walk_at "w"
     refine kn _ _ ⟨pr,Qj,Qk,rfl,N7,bG s4 n5,s6 _ _ m5,?_,m6⟩
     rw [(s5.trans s6) _ _ m4,gR,if_neg hw]
   obtain ⟨pr,pc,pt,rfl,AR,Ge,Mj,N8,m6⟩:=hp
   have Mk:aj H H6:=s3.trans AR
   have Qm:H pc=none:=bG s3 Ge
   have q1:pc≠l1:=fun z=>by rw [z,e1] at Ge;cases Ge
   have q2:pc≠l2:=fun z=>by rw [z,e2] at Ge;cases Ge
   have qc:∀ j,j<i->c j≠pc:=fun j hj z=>by
    obtain ⟨_,_,_,us,Ei,_⟩:=cl j hj
    rw [<- z,Ei] at Ge
    cases Ge
   walk_at "j"
   refine join (fun σ' H'=>∃ (Gd:Option V) (dk:Int),σ'=[some (.ref a),some (.int 2),some (.int n),some (.int wd),some (.ref l1),some (.ref l2),some (.int (0+(i:Int))),some (.int (gf ns i)),some (.ref pt),some (.int dk),Gd]/\aj H H'/\H' l1=some (.lst ((List.range i).map fun j=>V.ref (t j)))/\H' l2=some (.lst ((bZ wd ns i).1.map V.int))/\(∀ x ys,aT K H6 x ys->aT K H' x ys)/\(∀ j,j<i->∃ us,H' (c j)=some (.lst us)/\us.length<=i+1)/\H' pc=some (.lst [])/\dH K H' (fun j=>if j=i then pt else t j) (fun j=>if j=i then pr else b j) (fun j=>if j=i then pc else c j) [.ref (if 0=i then pt else t 0)] (bZ wd ns (i+1)).2/\(bZ wd ns (i+1)).1=(bZ wd ns i).1++[dk]/\(1<=dk/\dk<=8)/\Lv (bZ wd ns (i+1)).1 1 (bZ wd ns (i+1)).2/\(∀ v,v<i+1->cJ v (bZ wd ns (i+1)).2=1)/\(∀ v,i+1<=v->cJ v (bZ wd ns (i+1)).2=0)/\cnt (bZ wd ns (i+1)).2.fo<=i+1/\(bZ wd ns (i+1)).1.getD 0 0=1/\∃ r ks,(bZ wd ns (i+1)).2=.nd 0 r ks .nil) (fun nx kn=>?_) (fun σ' H7 hp=>?_)
   ·walk_at "w"
    refine aO (fun hc=>?_) (fun hc=>?_)
    ·have Gf:i≠0:=by have:=RT hc;lia
     have Rr:=Mk.seq ha
     walk_at "w"
     rename_i p8 H8 n8 s8 m8
     obtain ⟨Qn,JI⟩:=JC ns
     refine fK (b5.of m8) Qn ?_
     walk_at "j"
     obtain ⟨d0,_⟩:=nz Gf
     have cb:=emod_nonneg (gf ns i % 16) (show JB ns≠0 by lia)
     have ui:yM ns i<i:=by unfold yM;lia
     have N9:=(AR.trans s8) _ _ e2
     have Oa:=(AR.trans s8) _ _ e1
     have dg:∀ w,w<i->((bZ wd ns i).1.map V.int)[w]?=some (.int ((bZ wd ns i).1.getD w 0)):=fun w hw=>by
      rw [Sj,getD_eq_getElem?_getD,R3 (by lia)];rfl
     refine join (fun σ' H'=>∃ (z:Int),z=((t6 (bZ wd ns i).1 (yM ns i):Nat):Int)/\σ'=[some (.ref a),some (.int 2),some (.int n),some (.int wd),some (.ref l1),some (.ref l2),some (.int (0+(i:Int))),some (.int (gf ns i)),some (.ref pt),some (.int 1),some (.int z)]/\H8=H'/\t6 (bZ wd ns i).1 (yM ns i)<i/\¬ 8<=(bZ wd ns i).1.getD (t6 (bZ wd ns i).1 (yM ns i)) 0) (fun Rt Ob=>?_) (fun σ' H9 hp=>?_)
     ·refine cY (fun m σ' H'=>∃ (w:Nat) (z:Int),z=(w:Int)/\σ'=[some (.ref a),some (.int 2),some (.int n),some (.int wd),some (.ref l1),some (.ref l2),some (.int (0+(i:Int))),some (.int (gf ns i)),some (.ref pt),some (.int 1),some (.int z)]/\H8=H'/\t6 (bZ wd ns i).1 w=t6 (bZ wd ns i).1 (yM ns i)/\w<i/\m=w) (yM ns i) ⟨yM ns i,_,?_,rfl,rfl,rfl,ui,rfl⟩ (fun m σ' H9 hw=>?_)
      ·unfold yM;split <;> lia
      obtain ⟨x,z,rfl,rfl,rfl,eu,wi,em⟩:=hw
      subst em
      walk_at "v"
      refine fK (b5.of N9) (bM (dg m wi)) ?_
      walk_at "w"
      refine aO (fun hc=>?_) (fun hc=>?_)
      ·have ud:8<=(bZ wd ns i).1.getD m 0:=RT hc
       obtain ⟨w',rfl⟩:∃ w',m=w'+1:=by
        cases m with
        | zero=>rw [d0] at ud;lia
        | succ w'=>exact⟨w',rfl⟩
       refine kU ?_
       walk_at "w"
       exact⟨_,lt_succ_self w',w',_,by lia,rfl,rfl,by rw [<- eu,As ud],by lia,rfl⟩
      ·have ud:¬ 8<=(bZ wd ns i).1.getD m 0:=RU hc
       have ew:t6 (bZ wd ns i).1 m=m:=FQ ud
       rw [ew] at eu
       rw [<- eu] at Ob
       exact Ob _ _ ⟨_,rfl,rfl,rfl,wi,ud⟩
     obtain ⟨z,rfl,rfl,rfl,ul,u8⟩:=hp
     generalize hu:t6 (bZ wd ns i).1 (yM ns i)=u at ul u8 ⊢
     have DI:bZ wd ns (i+1)=((bZ wd ns i).1++[(bZ wd ns i).1.getD u 0+1],ins u i (gR wd ns i) (bZ wd ns i).2):=by
      show (if i=0 then _ else _)=_
      rw [if_neg Gf,hu]
     obtain ⟨Qo,Qp,Qq,us,Ei,Oc⟩:=cl u ul
     have CH:=(AR.trans s8) _ _ Ei
     have tu:=(AR.trans s8).at (tt u ul)
     have rg:((List.range i).map fun j=>V.ref (t j))[u]?=some (.ref (t u)):=by rw [Sj,List.getElem?_range ul];rfl
     walk_at "v"
     refine fK (b5.of Oa) (bM rg) ?_
     walk_at "w"
     refine bT CH (by lia) ?_
     have g0:aj H (upd H8 (c u) (.lst (us++[.ref pt]))):=(Mk.trans s8).bY Qo
     have g1:upd H8 (c u) (.lst (us++[.ref pt])) l1=_:=(aE Qp.symm).trans Oa
     have g2:upd H8 (c u) (.lst (us++[.ref pt])) l2=_:=(aE Qq.symm).trans N9
     have gs:∀ x ys,aT K H6 x ys->aT K (upd H8 (c u) (.lst (us++[.ref pt]))) x ys:=fun x ys h=>bw (s8.at h) CH
     have Od:∀ x ys,aT K H8 x ys->aT K (upd H8 (c u) (.lst (us++[.ref pt]))) x ys:=fun x ys h=>bw h CH
     have gu:upd H8 (c u) (.lst (us++[.ref pt])) (c u)=_:=aH
     have gn:∀ x,x≠c u->upd H8 (c u) (.lst (us++[.ref pt])) x=H8 x:=fun x hx=>aE hx
     generalize upd H8 (c u) (.lst (us++[.ref pt]))=H9 at g0 g1 g2 gs Od gu gn ⊢
     walk_at "v"
     refine fK (b5.of g2) (bM (dg u ul)) ?_
     walk_at "w"
     have gp:H9 pc=some (.lst []):=(gn pc fun z=>qc u ul z.symm).trans (s8 _ _ Mj)
     have du:=bd _ (show (bZ wd ns i).1.getD u 0∈(bZ wd ns i).1 by rw [getD_eq_getElem?_getD,R3 (by lia:u<(bZ wd ns i).1.length)];exact Ss _)
     have Oe:u≠i:=by lia
     have lb:∀ j,cJ j (bZ wd ns i).2≠0->j<i:=fun j hj=>Nat.lt_of_not_le fun z=>hj (GX j z)
     rw [if_neg Gf] at lf
     refine kn _ _ ⟨_,(bZ wd ns i).1.getD u 0+1,rfl,g0,g1,g2,gs,fun j hj=>?_,gp,?_,by rw [DI],by lia,?_,fun v hv=>?_,fun v hv=>?_,?_,?_,?_⟩
     ·by_cases Kj:c j=c u
      ·exact⟨_,by rw [Kj];exact gu,by rw [Sa,RG];lia⟩
      ·obtain ⟨_,_,_,wV,h2,Ru⟩:=cl j hj
       exact⟨wV,(gn _ Kj).trans ((AR.trans s8) _ _ h2),by lia⟩
     ·rw [DI,if_neg (fun z=>Gf z.symm)]
      have base:dH K H8 (fun j=>if j=i then pt else t j) (fun j=>if j=i then pr else b j) (fun j=>if j=i then pc else c j) [.ref (t 0)] (bZ wd ns i).2:=lf.go (fun x ys h=>(AR.trans s8).at h) fun j hj=>by
       have GY:j≠i:=Sn (lb j hj)
       obtain ⟨_,_,_,Of,h3,_⟩:=cl j (lb j hj)
       exact⟨if_neg GY,if_neg GY,if_neg GY,((AR.trans s8) _ _ h3).trans h3.symm⟩
      refine dH.put (vs:=us) Od (by rw [if_neg Oe];exact CH) (by rw [if_neg Oe,if_pos rfl];exact gu) ?_ base (by rw [CG u ul];exact RM _) fun j hj Kj=>?_
      ·refine .nd (j:=i) ?_ ?_ (sm _ _ _) ?_ .nil .nil
       ·rw [if_pos rfl,if_pos rfl,if_pos rfl];exact gs _ _ (aT.of m6)
       ·rw [if_pos rfl];exact gs _ _ (aT.of N8)
       ·rw [if_pos rfl];exact gp
      ·have GY:=lb j hj
       rw [if_neg (Sn GY)]
       exact gn _ fun z=>Kj (ci j u GY ul z)
     ·rw [DI]
      refine uN ?_ (pA (fun v hv=>GX v (by lia)) lv)
      show ((bZ wd ns i).1++[(bZ wd ns i).1.getD u 0+1]).getD i 0=((bZ wd ns i).1++[(bZ wd ns i).1.getD u 0+1]).getD u 0+1
      rw [getD_eq_getElem?_getD,RP (by lia),show i - (bZ wd ns i).1.length=0 by lia,getD_eq_getElem?_getD (l:=(bZ wd ns i).1++_),RO (by lia),<- getD_eq_getElem?_getD]
      rfl
     ·rw [DI]
      show cJ v (ins u i (gR wd ns i) (bZ wd ns i).2)=1
      rw [kj v u i _ _ (by rw [CG u ul];exact RM _),CG u ul]
      by_cases Og:v=i
      ·rw [if_pos Og,GX v (by lia)]
      ·rw [if_neg Og,CG v (by lia)]
     ·rw [DI]
      show cJ v (ins u i (gR wd ns i) (bZ wd ns i).2)=0
      rw [kj v u i _ _ (by rw [CG u ul];exact RM _),if_neg (by lia),GX v (by lia)]
     ·rw [DI]
      show cnt (ins u i (gR wd ns i) (bZ wd ns i).2).fo<=i+1
      have z:=pz u i (gR wd ns i) (bZ wd ns i).2
      rw [CG u ul] at z
      lia
     ·rw [DI]
      show ((bZ wd ns i).1++[(bZ wd ns i).1.getD u 0+1]).getD 0 0=1
      rw [getD_eq_getElem?_getD,RO (by lia),<- getD_eq_getElem?_getD]
      exact d0
     ·obtain ⟨_,r,ks,e⟩:=nz Gf
      rw [DI]
      show ∃ r' Qr,ins u i (gR wd ns i) (bZ wd ns i).2=.nd 0 r' Qr .nil
      rw [e]
      exact⟨_,_,rfl⟩
    ·have Gf:i=0:=by have:=RU hc;lia
     subst Gf
     walk_at "w"
     refine kn _ _ ⟨_,1,rfl,Mk,AR _ _ e1,AR _ _ e2,fun x ys h=>h,fun j hj=>absurd hj (Sv _),Mj,?_,rfl,by decide,⟨rfl,trivial,trivial⟩,(fun v hv=>?_),(fun v hv=>?_),RM _,rfl,_,_,rfl⟩
     rotate_left
     ·obtain rfl:v=0:=by lia
      rfl
     ·show (if 0=v then 1 else 0)+0+0=0
      rw [if_neg (by lia)]
     exact .nd (j:=0) (aT.of m6) (aT.of N8) (sm _ _ _) Mj .nil .nil
   obtain ⟨Gd,dk,rfl,s7,f1,f2,fs,fc,fp,Qs,ed,bk,Qt,Ml,JL,Oh,Qu,Qv⟩:=hp
   walk_at "w"
   refine bT f1 (by simp;lia) ?_
   have y0:aj H (upd H7 l1 (.lst (((List.range i).map fun j=>V.ref (t j))++[.ref pt]))):=s7.bY n1
   have y1:upd H7 l1 (.lst (((List.range i).map fun j=>V.ref (t j))++[.ref pt])) l1=_:=aH
   have y2:upd H7 l1 (.lst (((List.range i).map fun j=>V.ref (t j))++[.ref pt])) l2=_:=(aE JK.symm).trans f2
   have yn:∀ x,x≠l1->upd H7 l1 (.lst (((List.range i).map fun j=>V.ref (t j))++[.ref pt])) x=H7 x:=fun x hx=>aE hx
   have yt:∀ x zs,aT K H7 x zs->aT K (upd H7 l1 (.lst (((List.range i).map fun j=>V.ref (t j))++[.ref pt]))) x zs:=fun x zs h=>bw h f1
   generalize upd H7 l1 (.lst (((List.range i).map fun j=>V.ref (t j))++[.ref pt]))=HA at y0 y1 y2 yn yt ⊢
   walk_at "w"
   refine bT y2 (by simp;lia) ?_
   have z0:aj H (upd HA l2 (.lst ((bZ wd ns i).1.map V.int++[.int dk]))):=y0.bY Qi
   have z1:upd HA l2 (.lst ((bZ wd ns i).1.map V.int++[.int dk])) l1=_:=(aE JK).trans y1
   have z2:upd HA l2 (.lst ((bZ wd ns i).1.map V.int++[.int dk])) l2=_:=aH
   have zn:∀ x,x≠l1->x≠l2->upd HA l2 (.lst ((bZ wd ns i).1.map V.int++[.int dk])) x=H7 x:=fun x h1 h2=>(aE h2).trans (yn x h1)
   have zt:∀ x zs,aT K H7 x zs->aT K (upd HA l2 (.lst ((bZ wd ns i).1.map V.int++[.int dk]))) x zs:=fun x zs h=>bw (yt x zs h) y2
   generalize upd HA l2 (.lst ((bZ wd ns i).1.map V.int++[.int dk]))=HB at z0 z1 z2 zn zt ⊢
   have cf:∀ j,j<i+1->H (if j=i then pc else c j)=none/\(if j=i then pc else c j)≠l1/\(if j=i then pc else c j)≠l2:=fun j hj=>by
    by_cases e:j=i
    ·rw [if_pos e];exact⟨Qm,q1,q2⟩
    ·rw [if_neg e]
     obtain ⟨x1,x2,x3,_⟩:=cl j (by lia)
     exact⟨x1,x2,x3⟩
   refine⟨_,_,_,_,_,fun j=>if j=i then pt else t j,fun j=>if j=i then pr else b j,fun j=>if j=i then pc else c j,rfl,z0,?_,?_,?_,?_,fun j hj=>?_,fun j hj=>?_,fun j j' hj Rv e=>?_,?_,Ml,JL,Qt,Oh,fun _=>⟨Qu,Qv⟩⟩
   ·rw [z1,range_succ,Sk]
    congr 2
    congr 1
    ·refine RQ fun j hj=>?_
     have:j<i:=Sf.mp hj
     show V.ref (t j)=V.ref (if j=i then pt else t j)
     rw [if_neg (by lia)]
    ·show [V.ref pt]=[V.ref (if i=i then pt else t i)]
     rw [if_pos rfl]
   ·rw [z2,ed,Sk];rfl
   ·rw [ed,Sa,RG,ld]
   ·intro d hd
    rw [ed] at hd
    rcases R7.mp hd with w|w
    ·exact bd d w
    ·rw [R6.mp w];exact bk
   ·show aT K HB (if j=i then pt else t j) [.ref (if j=i then pr else b j),.ref (if j=i then pc else c j)]
    by_cases e:j=i
    ·rw [if_pos e,if_pos e,if_pos e];exact zt _ _ (fs _ _ (aT.of m6))
    ·rw [if_neg e,if_neg e,if_neg e];exact zt _ _ (fs _ _ (AR.at (tt j (by lia))))
   ·obtain ⟨x1,x2,x3⟩:=cf j hj
    refine⟨x1,x2,x3,?_⟩
    by_cases e:j=i
    ·refine⟨[],?_,Sm _⟩
     show HB (if j=i then pc else c j)=_
     rw [zn _ x2 x3,if_pos e];exact fp
    ·obtain ⟨us,h1,h2⟩:=fc j (by lia)
     refine⟨us,?_,h2⟩
     show HB (if j=i then pc else c j)=_
     rw [zn _ x2 x3,if_neg e];exact h1
   ·have e':(if j=i then pc else c j)=(if j'=i then pc else c j'):=e
    by_cases g:j=i
    ·by_cases g':j'=i
     ·lia
     ·rw [if_pos g,if_neg g'] at e'
      exact absurd e'.symm (qc j' (by lia))
    ·by_cases g':j'=i
     ·rw [if_neg g,if_pos g'] at e'
      exact absurd e' (qc j (by lia))
     ·rw [if_neg g,if_neg g'] at e'
      exact ci j j' (by lia) (by lia) e'
   ·rw [if_neg (Nat.succ_ne_zero i)]
    refine dH.go zt Qs fun j hj=>⟨rfl,rfl,rfl,?_⟩
    obtain ⟨_,x2,x3⟩:=cf j (Nat.lt_of_not_le fun w=>hj (JL j w))
    exact zn _ x2 x3
  ·obtain ⟨o6,o7,o8,o9,Gd,t,b,c,rfl,s3,e1,e2,ld,bd,tt,cl,ci,lf,CG,GX,lv,cn,nz⟩:=hp
   have en:((n:Int)).toNat=n:=by lia
   rw [en] at e1 e2 ld bd tt cl ci lf CG GX lv cn nz
   have Oi:n≠0:=by lia
   obtain ⟨d0,r,ks,er⟩:=nz Oi
   rw [if_neg Oi] at lf
   have rg:((List.range n).map fun j=>V.ref (t j))[0]?=some (.ref (t 0)):=by rw [Sj,List.getElem?_range (by lia)];rfl
   have dp:=uO (fun d hd=>(bd d hd).2) (by decide) (by decide) lv
   have fo:=lf.fo
   rw [er] at fo dp cn
   have Oh:1+cnt ks.fo+0<=n:=cn
   have Rw:((max (dep ks.fo+1) 0:Nat):Int)+1<=9:=dp
   walk_at "v"
   refine fK (b5.of e1) (bM (j:=0) rg) ?_
   walk_at "w"
   exact k _ r ks.fo _ s3 fo (by rw [er];rfl) (by lia) (by lia) (fun v hv=>by rw [CG v hv];decide)
theorem pZ:aB ["_law_found","_law_due_here"] ["_law_found","_law_due_here"] (ar f7):=⟨rfl,rfl,rfl,by decide +kernel,rfl,by decide +kernel,by decide +kernel⟩
structure qa(P:Program)(w:World)(K:Frag)(mg:Str->Option Value)(base:Heap)(G:ly):Prop where
 vi:Ok P w K mg base 1 "_law_is_row" ["_law_found"] (eG K)
theorem qb (D:Def K mg "_law_alike" f7 ["_law_found","_law_due_here"]) (T:Txt K mg G) (O:qa P w K mg base G):∀ n:Nat,Ok P w K mg base (1+n+1) "_law_alike" ["_law_found","_law_due_here"] (dz K n):=by
 have S:=pZ
 intro n
 induction n with
 | zero=>exact D.ok S (fun vs H Q E h=>absurd h (gT K)) (fun f bE A outer s H vs Q E hr h=>absurd h (gT K))
 | succ n ih =>
 refine D.ok (k:=1+n+1) S (fun vs H Q E h=>?_) (fun f bE A outer s H vs Q E hr h=>?_)
 ·obtain ⟨_,_,_,_,rfl,_⟩:=h;rfl
 ·obtain ⟨t,u,r,kids,rfl,ht,LV,hn,hc,k⟩:=h
  have hu:=bj hr
  have aD:=T.aD
  have ak:=T.ak
  have ao:=T.ao
  refine⟨_,(af (aS (PW.pt (c6 (d8 (cU (ay (cH K rfl) rfl T.aR boot_isinstance (aa (pv 0) (aa (dq (v:=V.ty "tuple") rfl T.fq boot_tuple rfl) ag))))) (c6 (ax eL (ay (cM K rfl) rfl T.bN PySem.boot_len (aa (pv 0) ag)) ah (az _)) (cV (d8 (cU (aZ O.vi (hr.mono (by lia)) (aa (aI (aG K rfl) (pv 0) ah (fun _ _=>rfl)) ag)))))))) (ai (aA nC)) aF) (af (aS (PW.pt (c6 (ax (Ce K rfl hr.units) (aI (aG K rfl) (pv 0) ah (fun _ _=>rfl)) (aI (aG K rfl) (pv 1) ah (fun _ _=>rfl)) (az _)) (c6 (d8 (cU (ay (cH K rfl) rfl T.aR boot_isinstance (aa (aI (aG K rfl) (pv 0) ah (fun _ _=>rfl)) (aa (dq (v:=V.ty "list") rfl T.F3 boot_list rfl) ag))))) (cV (ax eL (ay (cM K rfl) rfl T.bN PySem.boot_len (aa (aI (aG K rfl) (pv 0) ah (fun _ _=>rfl)) ag)) (ay (cM K rfl) rfl T.bN PySem.boot_len (aa (aI (aG K rfl) (pv 1) ah (fun _ _=>rfl)) ag)) (az _)))))) (ai (aA nC)) aF) (ai (aA (ay (jq K rfl rfl) rfl T.oh boot_all (aa (dt (N:=["_law_k","_law_found","_law_due_here"]) (ix:=[none,some 0,some 1]) rfl (je rfl T.kv (aa (ay (cM K rfl) rfl T.bN PySem.boot_len (aa (aI (aG K rfl) (pv 1) ah (fun _ _=>rfl)) ag)) ag)) (fun _ _ _ _ _=>(bu (i:=0) (show Bo ["_law_k","_law_found","_law_due_here"] by decide +kernel) rfl (Or.inl rfl))) (fun _ _ _ _ _=>rfl) (fun _ _ _ _ _=>(aZ ih hr (aa (aI (aG K rfl) (aI (aG K rfl) (pv 1) ah (fun _ _=>rfl)) (pv 0) (fun _ _=>rfl)) (aa (aI (aG K rfl) (aI (aG K rfl) (pv 2) ah (fun _ _=>rfl)) (pv 0) (fun _ _=>rfl)) ag)))) rfl (by decide +kernel) (by decide +kernel) rfl ⟨⟨rfl,Or.inr (Or.inl rfl),rfl,rfl⟩,⟨⟨rfl,Or.inr (Or.inl rfl),rfl,rfl⟩,True.intro⟩⟩) ag)))))),?_⟩
  obtain ⟨a,l,us,Jz,ha,hl,hk,Oj⟩:=ht.one
  obtain ⟨a2,l2,wV,Mm,LQ,Ej,hk2,_⟩:=LV.one
  obtain ⟨b0,b1,b2,b3,b4,rfl⟩:=LW Oj
  have Ol:aT K H a [.int b0,.int b1,.int b2,.int b3,.int b4]:=ha
  have Qw:aT K H a2 [.int b0,.int b1,.int b2,.int b3,.int b4]:=LQ
  have e1:=hk.FT
  have e2:=hk2.FT
  walk_at "w"
  refine dE rfl ?_
  walk_at "w"
  refine dE rfl ?_
  walk_at "w"
  refine dE rfl ?_
  walk_at "w"
  refine Jf (ei.row (r:=[b0,b1,b2,b3,b4]) (by walk_at "hf")) (ei.row (r:=[b0,b1,b2,b3,b4]) (by walk_at "hf")) (k9 _) (k9 _) ?_
  rw [Cj,RW rfl]
  walk_at "w"
  refine dE rfl ?_
  walk_at "w"
  refine dE rfl ?_
  walk_at "w"
  refine dE (by rw [RW (by lia)];rfl) ?_
  walk_at "w"
  rename_i Hn sn
  have Rx:=sv kids
  refine Dl (by lia) (by lia) ?_
  rw [Su]
  refine zx (fun _=>.bl true) [some (.ref t),some (.ref u)] rfl (by lia) (fun i H' Qc hi s kc=>?_) (fun l5 H5 n5 s5 m5=>?_)
  ·obtain ⟨x,hx⟩:∃ x,us[i]?=some x:=⟨_,R3 (by lia)⟩
   obtain ⟨y,hy⟩:∃ y,wV[i]?=some y:=⟨_,R3 hi⟩
   have sh:=sn.trans s
   obtain ⟨t',rr,kk,rfl,hg,Mn⟩:=(hk.same sh).get hx
   obtain ⟨Ry,Rz,RA,rfl,Bl,Mo⟩:=(hk2.same sh).get hy
   rw [hg] at Bl
   cases Bl
   obtain ⟨g2,g3⟩:=wK (R8 hg)
   have Qx:=sh.at Jz
   have Qy:=sh.at Mm
   have Qz:=sh _ _ hl
   have QA:=sh _ _ Ej
   walk_at "w"
   refine fK (b5.of Qz) (bM hx) ?_
   walk_at "w"
   refine fK (b5.of QA) (bM hy) ?_
   walk_at "w"
   exact jX ⟨Mn,Mo,by lia,by lia⟩ fun H6 s6=>kc _ s6
  walk_at "w"
  refine nU (bs:=List.replicate wV.length true) (b5.of (by rw [m5,List.map_replicate,xO])) ?_
  rw [show (List.replicate wV.length true).all id=true by rw [all_eq_true];intro b hb;exact (List.eq_of_mem_replicate hb)]
  exact k _ (sn.trans s5)
theorem nc:aB ["_law_text_here","_law_cell_here","_law_at","_law_sign_here"] ["_law_text_here","_law_cell_here"] (ar fi):=⟨rfl,rfl,rfl,by decide +kernel,rfl,by decide +kernel,by decide +kernel⟩
structure ng(P:Program)(w:World)(K:Frag)(mg:Str->Option Value)(base:Heap)(G:ly):Prop where
 gx:Ok P w K mg base 1 "_law_part" ["_law_cell_here","_law_k","_law_many"] (dh K)
 AS:Ok P w K mg base 1 "_law_sign" ["_law_cell_here"] (gw K)
theorem nh (D:Def K mg "_law_spoilt" fi ["_law_text_here","_law_cell_here"]) (T:Txt K mg G) (O:ng P w K mg base G):Ok P w K mg base 2 "_law_spoilt" ["_law_text_here","_law_cell_here"] (eI K):=by
 have S:=nc
 refine D.ok S (fun vs H Q E h=>?_) (fun f bE A outer s H vs Q E hr h=>?_)
 ·obtain ⟨_,_,rfl,_⟩:=h;rfl
 ·obtain ⟨z,c,rfl,hz,k⟩:=h
  have hu:=bj hr
  have aD:=T.aD
  have ak:=T.ak
  have ao:=T.ao
  refine⟨_,(af (au (i:=2) S.nd rfl (Or.inl rfl) (aw bf (aw gE (pv 1) ah) (aw aY (ay bh rfl T.bN PySem.boot_len (aa (pv 0) ag)) ah))) (af (au (i:=3) S.nd rfl (Or.inl rfl) (aZ O.AS (hr.mono (by decide)) (aa (aZ O.gx (hr.mono (by decide)) (aa (pv 1) (aa ah (aa ah ag)))) ag))) (af (aS (ax cv (aw bf (pv 1) ah) ah (az _)) (ai (aA (aw aX (aw aX (bb b8 (pv 0) cB (aW (pv 2))) (pv 3)) (bb b8 (pv 0) (aW (pv 2)) cB)))) aF) (af (aS (ax cv (aw bf (pv 1) ah) ah (az _)) (ai (aA (aw aX (bb b8 (pv 0) cB (aW (pv 2))) (bb b8 (pv 0) (aW (aw aY (pv 2) ah)) cB)))) aF) (af (aS (ax cv (aw bf (pv 1) ah) ah (az _)) (ai (aA (aw aX (aw aX (bb b8 (pv 0) cB (aW (pv 2))) (pv 3)) (bb b8 (pv 0) (aW (aw aY (pv 2) ah)) cB)))) aF) (ai (aA (aw aX (aw aX (bb b8 (pv 0) cB (aW (pv 2))) (bb b8 (pv 0) (aW (ay (nR rfl) rfl T.AI boot_max (aa ah (aa (aw gY (pv 2) ah) ag)))) (aW (pv 2)))) (bb b8 (pv 0) (aW (pv 2)) cB))))))))),?_⟩
  have t4:∀ lo hi,(PySem.Txt.slice z lo hi).length<=300:=fun lo hi=>RL (PySem.Txt.slice_le z lo hi) hz
  walk_at "w"
  refine iu (by decide) (by decide) fun H1 s1=>?_
  walk_at "w"
  refine u4 fun y hy=>?_
  walk_at "w"
  refine aO (fun h1=>?_) (fun h1=>?_)
  ·walk_at "w"
   refine cg (t4 _ _) hy (by decide) fun y1 _ CI=>?_
   walk_at "w"
   refine cg CI (t4 _ _) (by decide) fun y2 _ GZ=>?_
   exact k _ _ s1 (by lia)
  walk_at "w"
  refine aO (fun h2=>?_) (fun h2=>?_)
  ·walk_at "w"
   refine cg (t4 _ _) (t4 _ _) (by decide) fun y2 _ GZ=>?_
   exact k _ _ s1 (by lia)
  walk_at "w"
  refine aO (fun h3=>?_) (fun h3=>?_)
  ·walk_at "w"
   refine cg (t4 _ _) hy (by decide) fun y1 _ CI=>?_
   walk_at "w"
   refine cg CI (t4 _ _) (by decide) fun y2 _ GZ=>?_
   exact k _ _ s1 (by lia)
  walk_at "w"
  refine cg (t4 _ _) (t4 _ _) (by decide) fun y1 _ CI=>?_
  walk_at "w"
  refine cg CI (t4 _ _) (by decide) fun y2 _ GZ=>?_
  exact k _ _ s1 (by lia)
theorem qd:aB ["_law_e","_law_kinds_here"] ["_law_e"] (ar f9):=⟨rfl,rfl,rfl,by decide +kernel,rfl,by decide +kernel,by decide +kernel⟩
theorem qg (D:Def K mg "_law_kinds" f9 ["_law_e"]) (T:Txt K mg G):Ka P w K mg base 1 "_law_kinds" ["_law_e"] (fv K):=by
 have S:=qd
 refine D.Pt S (fun vs H Q E h=>?_) (fun f bE A outer s H vs Q E hr h=>?_)
 ·obtain ⟨_,_,rfl,_⟩:=h;rfl
 ·obtain ⟨a,C,rfl,ha,hc,k⟩:=h
  have hu:=bj hr
  have aD:=T.aD
  have ak:=T.ak
  have ao:=T.ao
  refine⟨_,(af (au (i:=1) S.nd rfl (Or.inl rfl) (bK ag)) (af (aS (cU (ay (pb K rfl) rfl T.aR boot_isinstance (aa (pv 0) (aa (cX (v:=V.ref G.bo) rfl T.gg rfl) ag)))) (ai (bX (cR PySem.F.plainAttrs_list PySem.F.slot_list_append PySem.F.type_list_append br (pv 1) (aa aC ag)))) aF) (af (aS (cU (ay (pb K rfl) rfl T.aR boot_isinstance (aa (pv 0) (aa (cX (v:=V.ref G.bc) rfl T.de rfl) ag)))) (ai (bX (cR PySem.F.plainAttrs_list PySem.F.slot_list_append PySem.F.type_list_append br (pv 1) (aa aC ag)))) aF) (af (aS (cU (ay (pb K rfl) rfl T.aR boot_isinstance (aa (pv 0) (aa (cX (v:=V.ref G.aP) rfl T.dD rfl) ag)))) (ai (bX (cR PySem.F.plainAttrs_list PySem.F.slot_list_append PySem.F.type_list_append br (pv 1) (aa aC ag)))) aF) (af (aS (cU (ay (pb K rfl) rfl T.aR boot_isinstance (aa (pv 0) (aa (dq (v:=V.ty "ValueError") rfl T.pJ L2.j4 rfl) ag)))) (ai (bX (cR PySem.F.plainAttrs_list PySem.F.slot_list_append PySem.F.type_list_append br (pv 1) (aa aC ag)))) aF) (ai (aA (pv 1)))))))),?_⟩
  walk_at "w"
  rename_i l H1 n1 s1 m1
  have QB:a≠l:=fun z=>by rw [z,n1] at ha;cases ha
  have Kk:=s1 _ _ ha
  obtain rfl:C=G.aP:=by rw [T.cj] at hc;cases hc;rfl
  refine uD T.ck Kk (wx T.sN T.bC T.bO) ?_
  walk_at "w"
  refine uu ?_
  walk_at "w"
  refine uD T.ck Kk (wx T.sO T.bD T.bP) ?_
  walk_at "w"
  refine uu ?_
  walk_at "w"
  refine uD T.ck Kk (fS _ _) ?_
  walk_at "w"
  refine oD ?_
  walk_at "w"
  refine bT m1 (So rfl) ?_
  have mU:upd H1 l (.lst ([]++[V.str "stack"])) l=some (.lst [V.str "stack"]):=aH
  have hU:upd H1 l (.lst ([]++[V.str "stack"])) a=some (mj a G.aP):=by rw [aE QB];exact Kk
  have sU:aj H (upd H1 l (.lst ([]++[V.str "stack"]))):=s1.bY n1
  generalize upd H1 l (.lst ([]++[V.str "stack"]))=H2 at mU hU sU
  walk_at "w"
  refine Fd T.ck hU (Fe j3 T.bq) ?_
  walk_at "w"
  refine oD ?_
  walk_at "w"
  refine bT mU (So rfl) ?_
  walk_at "w"
  exact k _ _ (sU.bY n1) aH
theorem qh:aB ["_law_text_here","_law_kinds_here","_law_found","_law_e"] ["_law_text_here"] (ar gb):=⟨rfl,rfl,rfl,by decide +kernel,rfl,by decide +kernel,by decide +kernel⟩
structure qi(P:Program)(w:World)(K:Frag)(mg:Str->Option Value)(base:Heap)(G:ly):Prop where
 vj:rQ P w K mg base 26 "stack_read" ["text"] (eE K)
 x6:Ka P w K mg base 1 "_law_kinds" ["_law_e"] (fv K)
theorem qj (D:Def K mg "_law_asked" gb ["_law_text_here"]) (T:Txt K mg G) (O:qi P w K mg base G):Ok P w K mg base 27 "_law_asked" ["_law_text_here"] (fw K):=by
 have S:=qh
 refine D.ok S (fun vs H Q E h=>?_) (fun f bE A outer s H vs Q E hr h=>?_)
 ·obtain ⟨_,rfl,_⟩:=h;rfl
 ·obtain ⟨z,rfl,hz,uI,k⟩:=h
  have hu:=bj hr
  have aD:=T.aD
  have ak:=T.ak
  have ao:=T.ao
  refine⟨_,(af (au (i:=1) S.nd rfl (Or.inl rfl) cT) (af (au (i:=2) S.nd rfl (Or.inl rfl) cT) (af (E9 (i:=3) T.sL rfl rfl rfl S.nd rfl rfl rfl T.sJ (fun _ _=>(ai (au (i:=2) S.nd rfl (Or.inl rfl) (fW O.vj (hr.mono (by decide)) (fun _ _ z=>z) rfl (aa (pv 0) ag))))) (fun _=>(ai (au (i:=1) S.nd rfl (Or.inl rfl) (Fw O.x6 (cO.Pr hr (by decide)) (aa (pv 3) ag)))))) (ai (aA (cL (aa (pv 2) (aa (pv 1) ag)))))))),?_⟩
  with_reducible refine wq ?_
  with_reducible refine zH ?_
  with_reducible refine Lq ?_
  with_reducible refine oX ?_
  with_reducible refine wq ?_
  with_reducible refine zH ?_
  with_reducible refine Lq ?_
  with_reducible refine oX ?_
  with_reducible refine wq ?_
  refine join (fun σ' H'=>∃ f kk:V,σ'=[some (.str z),some kk,some f,none]/\aj H H'/\(ko z=none->∃ l,kk=.ref l/\H' l=some (.lst [.str "stack",.str "value"]))/\(∀ r k,ko z=some (r,k)->dep k+1<=8/\cnt k<=11/\kk=.cF/\∃ q,f=.ref q/\fj K (fun x=>H x=none) H' [.ref q] (.nd r k .nil))) (fun nx kn=>?_) (fun σ' H1 hp=>?_)
  ·walk_at "w"
   refine pO ⟨hz,uI⟩ ⟨fun tY C H9 hC s9=>?_,fun r k hy c1 c2 q H9 s9 hF=>?_⟩
   ·refine⟨C,rfl,by rw [T.cj] at hC;cases hC;exact T.bt,fun ae Kb=>?_⟩
    walk_at "w"
    refine sR aH ⟨hC,fun l K7 K6 QC=>?_⟩
    walk_at "w"
    exact kn _ _ ⟨_,_,rfl,(s9.trans (aj.cC Kb)).trans K6,(fun _=>⟨l,rfl,QC⟩),fun r k z=>by rw [tY] at z;cases z⟩
   ·walk_at "w"
    exact kn _ _ ⟨_,_,rfl,s9,(fun z=>by rw [hy] at z;cases z),fun r' k' z=>by rw [hy] at z;cases z;exact⟨c1,c2,rfl,q,rfl,hF⟩⟩
  obtain ⟨f,kk,rfl,s1,o1,o2⟩:=hp
  walk_at "w"
  rename_i p9 H9 s9 m9
  refine k p9 f kk H9 (s1.trans s9) m9 (fun z=>?_) (fun r k hy=>?_)
  ·obtain ⟨l,e,m⟩:=o1 z
   exact⟨l,e,s9 _ _ m⟩
  ·obtain ⟨c1,c2,e,q,e',hF⟩:=o2 r k hy
   exact⟨c1,c2,e,q,e',hF.same s9⟩
theorem tG:aB ["_law_stack_here","_law_pair","_law_text_here"] ["_law_stack_here"] (ar ig):=⟨rfl,rfl,rfl,by decide +kernel,rfl,by decide +kernel,by decide +kernel⟩
structure tH(P:Program)(w:World)(K:Frag)(mg:Str->Option Value)(base:Heap)(G:ly):Prop where
 qk:Ok P w K mg base 1 "_law_fraction" ["_law_row_here"] (di K)
theorem tI (D:Def K mg "_law_text" ig ["_law_stack_here"]) (T:Txt K mg G) (O:tH P w K mg base G):∀ n:Nat,Ok P w K mg base (1+n+1) "_law_text" ["_law_stack_here"] (d6 K n):=by
 have S:=tG
 intro n
 induction n with
 | zero=>exact D.ok S (fun vs H Q E h=>absurd h (i5 K)) (fun f bE A outer s H vs Q E hr h=>absurd h (i5 K))
 | succ n ih =>
 refine D.ok (k:=1+n+1) S (fun vs H Q E h=>?_) (fun f bE A outer s H vs Q E hr h=>?_)
 ·obtain ⟨_,_,_,rfl,_⟩:=h;rfl
 ·obtain ⟨t,r,kids,rfl,ht,hK,hn,JG,hl,k⟩:=h
  have hu:=bj hr
  have aD:=T.aD
  have ak:=T.ak
  have ao:=T.ao
  refine⟨_,(af (au (i:=1) S.nd rfl (Or.inl rfl) (aZ O.qk (hr.mono (by lia)) (aa (aI (aG K rfl) (pv 0) ah (fun _ _=>rfl)) ag))) (af (au (i:=2) S.nd rfl (Or.inl rfl) (aw aX (aw aX (b9 nY rfl T.DF boot_str (aa (aI (aG K rfl) (pv 1) ah (fun _ _=>rfl)) ag)) aC) (b9 nY rfl T.DF boot_str (aa (aI (aG K rfl) (pv 1) ah (fun _ _=>rfl)) ag)))) (af (aS (ax (pd K rfl hr.units) (aI (aG K rfl) (pv 0) ah (fun _ _=>rfl)) (bK ag) (az _)) (ai (aA (pv 2))) aF) (ai (aA (aw aX (aw aX (aw aX (pv 2) aC) (cR PySem.F.plainAttrs_str PySem.F.slot_str_join PySem.F.type_str_join r6 aC (aa (dt (N:=["_law_upper"]) (ix:=[none]) rfl (kW K rfl (aI (aG K rfl) (pv 0) ah (fun _ _=>rfl))) (fun _ _ _ _ _=>(bu (i:=0) (show Bo ["_law_upper"] by decide +kernel) rfl (Or.inl rfl))) (fun _ _ _ _ _=>rfl) (fun _ _ _ _ _=>(aZ ih hr (aa (pv 0) ag))) rfl (by decide +kernel) (by decide +kernel) rfl True.intro) ag))) aC)))))),?_⟩
  obtain ⟨a,l,us,Jz,ha,Mp,hk,Oj⟩:=ht.one
  obtain ⟨hR,QD,_⟩:=hK
  obtain ⟨hb,JI,Om,Oo⟩:=id hR
  obtain ⟨b0,b1,b2,b3,b4,rfl,_⟩:=id hb
  have Ol:aT K H a [.int b0,.int b1,.int b2,.int b3,.int b4]:=ha
  have QE:=PV hb
  have tp:=rG b0 b1 b2 b3 b4
  have bp:=rH b0 b1 b2 b3 b4
  walk_at "w"
  refine lG Ol QE fun p1 H1 s1 m1=>?_
  obtain ⟨T,hT⟩:∃ T,sf [b0,b1,b2,b3,b4]*1=T:=⟨_,rfl⟩
  obtain ⟨B,hB⟩:∃ B,sg [b0,b1,b2,b3,b4]*1=B:=⟨_,rfl⟩
  have eT:(T:Int)=oH b0 b1 b2 b3 b4*((1:Nat):Int):=by
   rw [<- hT]
   show (((oH b0 b1 b2 b3 b4).toNat*1:Nat):Int)=_
   rw [natCast_mul,Int.toNat_of_nonneg (Int.le_of_lt tp)]
  have eB:(B:Int)=mh b0 b1 b2 b3 b4*((1:Nat):Int):=by
   rw [<- hB]
   show (((mh b0 b1 b2 b3 b4).toNat*1:Nat):Int)=_
   rw [natCast_mul,Int.toNat_of_nonneg (Int.le_of_lt bp)]
  rw [hT] at Om
  rw [hB] at Oo
  have mI:(1:Int)<=1:=by lia
  have tT:oH b0 b1 b2 b3 b4=(T:Int):=by rw [eT];exact (mul_one _).symm
  have bB:mh b0 b1 b2 b3 b4=(B:Int):=by rw [eB];exact (mul_one _).symm
  have QF:(T:Int)<10 ^ 60:=by lia
  have QG:(B:Int)<10 ^ 60:=by lia
  have l1:(aM.txt T).length<=60:=aM.iP (by decide) Om
  have l2:(aM.txt B).length<=60:=aM.iP (by decide) Oo
  have ez:aM.txt T++aM.ba++aM.txt B=(⟨(t5 1 [b0,b1,b2,b3,b4]).toArray⟩:PySem.Str):=by
   unfold t5
   rw [hT,hB]
   refine tZ.gH ?_
   show (((aM.txt T).cps++#[47])++(aM.txt B).cps).toList=((aM.txt T).cps.toList++47::(aM.txt B).cps.toList)
   simp
  walk_at "w"
  rw [tT]
  refine Ac (aM.zF (DB (by lia) QF)) ?_
  rw [aM.Ii (show (0:Int)<=T by lia),Su]
  walk_at "w"
  refine hJ (bg (show (aM.txt T).length+1<=2000 by lia)) ?_
  walk_at "w"
  rw [bB]
  refine Ac (aM.zF (DB (by lia) QG)) ?_
  rw [aM.Ii (show (0:Int)<=B by lia),Su,aM.zB]
  walk_at "w"
  refine hJ (bg (show (aM.txt T++aM.ba).length+(aM.txt B).length<=2000 by rw [PySem.strLen_append];show _+1+_<=_;lia)) ?_
  rw [ez]
  have JM:=s1 _ _ Mp
  have hk1:=hk.same s1
  have Mq:=s1.at Jz
  walk_at "w"
  rename_i p0 H0 n0 s0 m0
  refine zW (.lst (b5.of (s0 _ _ JM)) (hk1.same s0).tells) (.lst (b5.of m0) .nil) (lp JG) rfl ?_
  walk_at "w"
  cases kids with
  | nil =>
   rw [lq]
   refine fU rfl ?_
   walk_at "w"
   have el:cQ 1 ([b0,b1,b2,b3,b4],.nil)=t5 1 [b0,b1,b2,b3,b4]:=by show t5 1 [b0,b1,b2,b3,b4]++[]=_;rw [append_nil]
   rw [el] at k
   exact k _ (s1.trans s0)
  | nd r' k' s' =>
   rw [n9]
   refine dE rfl ?_
   have el:cQ 1 ([b0,b1,b2,b3,b4],.nd r' k' s')=t5 1 [b0,b1,b2,b3,b4]++40::(jW 1 (.nd r' k' s')++[41]):=rfl
   rw [el] at k hl
   simp at hl
   have ls:(⟨(t5 1 [b0,b1,b2,b3,b4]).toArray⟩:PySem.Str).length=(t5 1 [b0,b1,b2,b3,b4]).length:=Si
   have lt':(⟨(jW 1 (.nd r' k' s')).toArray⟩:PySem.Str).length=(jW 1 (.nd r' k' s')).length:=Si
   have QH:=su 1 (.nd r' k' s')
   have Oc:=hk.FT
   have QI:PySem.Str.ofString "("=⟨#[40]⟩:=by decide
   have QJ:PySem.Str.ofString ")"=⟨#[41]⟩:=by decide
   have QK:=s0.at Mq
   walk_at "w"
   rw [QI]
   refine hJ (bg (show _+1<=2000 by lia)) ?_
   walk_at "w"
   refine rX (xs:=us) [] (fun i=>.str ⟨(cQ 1 ((bU (.nd r' k' s')).getD i ([],.nil))).toArray⟩) rfl (b5.of (s0 _ _ JM)) (by lia) (fun i x H' Qc hx s kc=>?_) (fun l5 H5 n5 s5 m5=>?_)
   ·obtain ⟨t',rr,kk,rfl,hg,Mn⟩:=((hk1.same s0).same s).get hx
    obtain ⟨g1,g2,g3⟩:=wJ (R8 hg) QD
    have hle:=sr (m:=1) (R8 hg)
    have eg:(bU (.nd r' k' s')).getD i ([],.nil)=(rr,kk):=by rw [List.getD,hg];rfl
    rw [eg] at kc
    walk_at "w"
    exact lI ⟨Mn,g1,by lia,by lia,by lia⟩ fun H6 s6=>kc _ s6
   have em:(List.range us.length).map (fun i=>V.str ⟨(cQ 1 ((bU (.nd r' k' s')).getD i ([],.nil))).toArray⟩)=((bU (.nd r' k' s')).map fun p=>(⟨(cQ 1 p).toArray⟩:PySem.Str)).map V.str:=by
    rw [Sl,Oc]
    exact xH (bU (.nd r' k' s')) ([],.nil) (fun p=>V.str ⟨(cQ 1 p).toArray⟩)
   rw [em] at m5
   walk_at "w"
   refine wD m5 (by decide) (by
    rw [Sl,R9]
    have e:((bU (.nd r' k' s')).map ((fun z:PySem.Str=>z.length) ∘ fun p=>⟨(cQ 1 p).toArray⟩))=(bU (.nd r' k' s')).map fun p=>(cQ 1 p).length:=RQ fun p _=>Si
    rw [e]
    lia) ?_
   rw [FR,Cr]
   refine hJ (bg (by rw [PySem.strLen_append,ls,lt'];show _+1+_<=_;lia)) ?_
   walk_at "w"
   rw [QJ]
   refine hJ (bg (by rw [PySem.strLen_append,PySem.strLen_append,ls,lt'];show _+1+_+1<=_;lia)) ?_
   walk_at "w"
   have ef:(⟨(t5 1 [b0,b1,b2,b3,b4]).toArray⟩++⟨#[40]⟩++⟨(jW 1 (.nd r' k' s')).toArray⟩++⟨#[41]⟩:PySem.Str)=⟨(t5 1 [b0,b1,b2,b3,b4]++40::(jW 1 (.nd r' k' s')++[41])).toArray⟩:=tZ.gH (by
    show ((((t5 1 [b0,b1,b2,b3,b4]).toArray++#[40])++(jW 1 (.nd r' k' s')).toArray)++#[41]).toList=_
    simp)
   rw [ef]
   exact k _ (s1.trans (s0.trans s5))
theorem vk:aB ["_law_cell_here","_law_odd_here","_law_far"] ["_law_cell_here"] (ar jw):=⟨rfl,rfl,rfl,by decide +kernel,rfl,by decide +kernel,by decide +kernel⟩
theorem vm (D:Def K mg "_law_odd" jw ["_law_cell_here"]) (T:Txt K mg G):Ok P w K mg base 1 "_law_odd" ["_law_cell_here"] (iq K):=by
 have S:=vk
 refine D.ok S (fun vs H Q E h=>?_) (fun f bE A outer s H vs Q E hr h=>?_)
 ·obtain ⟨_,rfl,_⟩:=h;rfl
 ·obtain ⟨c,rfl,k⟩:=h
  have hu:=bj hr
  have aD:=T.aD
  have ak:=T.ak
  have ao:=T.ao
  refine⟨_,(@af _ _ _ _ _ (@au _ _ 1 _ _ _ _ S.nd rfl (Or.inl rfl) (@iS _ _ _ _ (by rfl)) (by rfl) (by first|exact .inl rfl|exact .inr rfl|assumption)) (@af _ _ _ _ _ (@au _ _ 1 _ _ _ _ S.nd rfl (Or.inl rfl) (@aw _ _ _ _ _ _ _ _ ur (pv 1) (@iS _ _ _ _ (by rfl))) (by rfl) (by first|exact .inl rfl|exact .inr rfl|assumption)) (@af _ _ _ _ _ (@au _ _ 1 _ _ _ _ S.nd rfl (Or.inl rfl) (@aw _ _ _ _ _ _ _ _ ur (pv 1) (bK (aa aC (aa aC (aa aC (aa aC (aa (aw aX aC (aw iV aC ah)) ag))))))) (by rfl) (by first|exact .inl rfl|exact .inr rfl|assumption)) (af (au (i:=2) S.nd rfl (Or.inl rfl) aC) (af (au (i:=1) S.nd rfl (Or.inl rfl) (aw ur (pv 1) (bK (aa (pv 2) (aa (aw aX (aw aX aC (pv 2)) aC) (aa (aw aX (aw aX aC (bb b8 (pv 2) cB (aW (yX ug ah)))) aC) (aa (aw iV aC ah) ag))))))) (ai (aA (aI (aG K rfl) (pv 1) (aw bf (pv 0) ah) (fun _ _=>rfl))))))))),?_⟩
  walk_at "w"
  refine ki (by decide) (by decide) (by decide) ?_
  have h1:=fY (Str.ofString "0") (Int.toNat 60)
  generalize iU (Str.ofString "0") (Int.toNat 60)=r1 at h1 ⊢
  have GR:r1.length=60:=h1
  walk_at "w"
  refine cg (a:=3) (b:=60) (by decide) (by lia) (by decide) fun x1 _ LA=>?_
  walk_at "w"
  refine ki (by decide) (by decide) (by decide) ?_
  have JN:=FW
  generalize iU (Str.ofString "1/1(") (Int.toNat 2000)=zb at JN ⊢
  walk_at "w"
  rename_i p1 H1 n1 s1 m1 p2 H2 n2 s2 m2 p3 H3 n3 s3 m3 u3 p4 H4 n4 s4 m4 p5 H5 n5 s5 m5 p6 H6 n6 s6 m6 p7 H7 n7 s7 m7
  obtain ⟨v,hv,z,rfl,hz⟩:=FY (i:=c % 28) (P:=fun v=>∃ z,v=.str z/\t9 z) m7 (by
   simp only [R7,Sd,not_mem_nil,or_false]
   intro v hv
   rcases hv with ((hv|hv)|hv)|hv
   all_goals repeat' (rcases hv with hv|hv)
   all_goals first|exact⟨_,rfl,JN⟩|exact⟨_,rfl,t9.of (by decide)⟩|exact⟨_,rfl,t9.of (RL LA (by decide))⟩) (emod_nonneg c (by decide)) (emod_lt_of_pos c (by decide))
  exact fK (b5.of m7) hv (k _ _ (s1.trans (s2.trans (s3.trans (s4.trans (s5.trans (s6.trans s7)))))) hz)
theorem qm:aB ["_law_script","_law_kind","_law_cell_here","_law_text_here","_law_at"] ["_law_script"] (ar gc):=⟨rfl,rfl,rfl,by decide +kernel,rfl,by decide +kernel,by decide +kernel⟩
structure qo(P:Program)(w:World)(K:Frag)(mg:Str->Option Value)(base:Heap)(G:ly):Prop where
 gy:Ok P w K mg base 1 "_law_cell" ["_law_script","_law_k"] (d5 K)
 x8:Ok P w K mg base 4 "_law_stack" ["_law_script","_law_at","_law_count","_law_wide"] (fu K)
 vn:Ok P w K mg base 2 "_law_spoilt" ["_law_text_here","_law_cell_here"] (eI K)
 AU:Ok P w K mg base 11 "_law_text" ["_law_stack_here"] (d6 K 9)
 CJ:Ok P w K mg base 1 "_law_odd" ["_law_cell_here"] (iq K)
theorem qp (D:Def K mg "_law_drawn" gc ["_law_script"]) (T:Txt K mg G) (O:qo P w K mg base G):Ok P w K mg base 12 "_law_drawn" ["_law_script"] (fx K):=by
 have S:=qm
 refine D.ok S (fun vs H Q E h=>?_) (fun f bE A outer s H vs Q E hr h=>?_)
 ·obtain ⟨_,_,rfl,_⟩:=h;rfl
 ·obtain ⟨a,ns,rfl,hS,hlen,k⟩:=h
  have hu:=bj hr
  have aD:=T.aD
  have ak:=T.ak
  have ao:=T.ao
  refine⟨_,(af (au (i:=1) S.nd rfl (Or.inl rfl) (aw bf (aZ O.gy (hr.mono (by decide)) (aa (pv 0) (aa ah ag))) ah)) (af (au (i:=2) S.nd rfl (Or.inl rfl) (aw bf (aZ O.gy (hr.mono (by decide)) (aa (pv 0) (aa ah ag))) ah)) (af (aS (ax cv (pv 1) ah (az _)) (ai (aA (aZ O.CJ (hr.mono (by decide)) (aa (pv 2) ag)))) aF) (af (aS (ax cv (pv 1) ah (az _)) (ai (aA (aw aX (aw aX aC (cR PySem.F.plainAttrs_str PySem.F.slot_str_join PySem.F.type_str_join r6 aC (aa (aw Ek (bK (aa aC ag)) (aw aY ah (aw bf (pv 2) ah))) ag))) aC))) aF) (af (aS (ax cv (pv 1) ah (az _)) (ai (aA (aw aX (aw aX (aw iV aC (aw aY ah (aw bf (pv 2) ah))) aC) (aw iV aC (aw aY ah (aw bf (pv 2) ah)))))) aF) (af (au (i:=3) S.nd rfl (Or.inl rfl) (aZ O.AU (hr.mono (by decide)) (aa (aZ O.x8 (hr.mono (by decide)) (aa (pv 0) (aa ah (aa (aw aY ah (aw bf (pv 2) ah)) (aa (yX ug ah) ag))))) ag))) (af (aS (ax cv (pv 1) ah (az _)) (af (au (i:=4) S.nd rfl (Or.inl rfl) (aw bf (aw gE (pv 2) ah) (aw aY (ay bh rfl T.bN PySem.boot_len (aa (pv 3) ag)) ah))) (ai (aA (aw aX (aw aX (bb b8 (pv 3) cB (aW (pv 4))) (aI d9 aC (aw bf (aw gE (pv 2) ah) ah) (fun _ _=>rfl))) (bb b8 (pv 3) (aW (pv 4)) cB))))) aF) (ai (aA (aZ O.vn (hr.mono (by decide)) (aa (pv 3) (aa (aw gE (pv 2) ah) ag)))))))))))),?_⟩
  walk_at "w"
  obtain ⟨c,hc⟩:∃ c,ns.getD (Int.toNat 1) 0 % 1000003=c:=⟨_,rfl⟩
  rw [hc]
  refine aO (fun h0=>?_) (fun h0=>?_)
  ·walk_at "w"
   exact xT fun z H1 s1 hz=>k _ _ s1 hz
  walk_at "w"
  refine aO (fun h1=>?_) (fun h1=>?_)
  ·obtain ⟨n,en⟩:∃ n:Nat,10+c % 5=(n:Int):=eq_ofNat_of_zero_le (by lia)
   have hn:10<=n/\n<=14:=by lia
   walk_at "w"
   rw [en]
   rename_i p1 H1 n1 s1 m1
   refine Jy m1 (by show 1*n<=1000;lia) (fun p2 H2 n2 s2 m2=>?_) (by lia)
   rw [wO] at m2
   walk_at "w"
   refine wD m2 (by decide) (by rw [List.map_replicate,List.sum_replicate_nat,List.length_replicate];show n*3+n<=_;lia) ?_
   have hj:=FX hn
   generalize PySem.Str.join (Str.ofString " ") (List.replicate n (Str.ofString "5/4"))=y at hj ⊢
   walk_at "w"
   refine cg (a:=4) (b:=100) (by decide) hj (by decide) fun y1 _ CI=>?_
   walk_at "w"
   refine cg CI (b:=1) (by decide) (by decide) fun y2 _ GZ=>?_
   exact k _ _ (s1.trans s2) (t9.of (by lia))
  walk_at "w"
  refine aO (fun h2=>?_) (fun h2=>?_)
  ·obtain ⟨n,en⟩:∃ n:Nat,6+c % 5=(n:Int):=eq_ofNat_of_zero_le (by lia)
   have hn:6<=n/\n<=10:=by lia
   walk_at "w"
   rw [en]
   have e1:=fY (Str.ofString "3/2(") n
   have e2:=fY (Str.ofString ")") n
   have QL:(iU (Str.ofString "3/2(") n).length=4*n:=e1
   have QM:(iU (Str.ofString ")") n).length=1*n:=e2
   refine ki (by lia) (by rw [Su];show 4*n<=_;lia) (by decide) ?_
   rw [Su]
   generalize iU (Str.ofString "3/2(") n=y1 at QL ⊢
   walk_at "w"
   refine cg (a:=40) (b:=3) (by lia) (by decide) (by decide) fun y2 _ GZ=>?_
   walk_at "w"
   rw [en]
   refine ki (by lia) (by rw [Su];show 1*n<=_;lia) (by decide) ?_
   rw [Su]
   generalize iU (Str.ofString ")") n=y3 at QM ⊢
   walk_at "w"
   exact k _ _ (aj.refl _) (t9.of (by rw [PySem.strLen_append];lia))
  obtain ⟨n,en⟩:∃ n:Nat,1+c % 12=(n:Int):=eq_ofNat_of_zero_le (by lia)
  have hn:1<=n/\n<=12:=by lia
  walk_at "w"
  rw [en]
  refine sQ hS hn fun t r kids H2 s2 f2 ef dp cn oc=>?_
  have lb:=DD (-1) ns n
  have near:∀ j,RB 6 2 (gR (-1) ns j):=fun j=>by
   unfold gR
   rw [if_neg (by lia)]
   exact FP _ (by decide) (by decide)
  have rl:jz (RB 6 2) (.nd r kids .nil):=by rw [ef];exact uS near lb
  have hK:Bm 1 (.nd r kids .nil):=pD.mpr (rl.imp fun r hr=>(Av hr (by decide)).1)
  have hL:(cQ 1 (r,kids)).length<=288:=by
   have z:=pE (rl.imp fun r hr=>(Av hr (m:=1) (by decide)).2)
   rw [wG] at z
   have cz:cnt (.nd r kids .nil)=1+cnt kids+0:=rfl
   lia
  walk_at "w"
  refine lI ⟨f2,hK,by lia,by lia,by lia⟩ fun H3 s3=>?_
  have hl:(⟨(cQ 1 (r,kids)).toArray⟩:PySem.Str).length<=288:=by
   show (cQ 1 (r,kids)).toArray.size<=288
   rw [Si];exact hL
  generalize (⟨(cQ 1 (r,kids)).toArray⟩:PySem.Str)=z at hl ⊢
  have t4:∀ lo hi,(PySem.Txt.slice z lo hi).length<=288:=fun lo hi=>RL (PySem.Txt.slice_le z lo hi) hl
  walk_at "w"
  refine aO (fun h3=>?_) (fun h3=>?_)
  ·walk_at "w"
   refine Aw (n:=4) (by decide) (by decide) (emod_nonneg _ (by decide)) (emod_lt_of_pos _ (by decide)) fun ch=>?_
   refine cg (b:=1) (t4 _ _) (RM _) (by decide) fun y1 _ CI=>?_
   walk_at "w"
   refine cg CI (t4 _ _) (by decide) fun y2 _ GZ=>?_
   exact k _ _ (s2.trans s3) (t9.of (by lia))
  walk_at "w"
  exact pR (by lia) fun y H4 s4 hy=>k _ _ (s2.trans (s3.trans s4)) (t9.of (by lia))
theorem vo:aB ["_law_text_here","_law_top","_law_pile","_law_many","_law_at","_law_end","_law_span","_law_node"] ["_law_text_here"] (ar jx):=⟨rfl,rfl,rfl,by decide +kernel,rfl,by decide +kernel,by decide +kernel⟩
structure vp(P:Program)(w:World)(K:Frag)(mg:Str->Option Value)(base:Heap)(G:ly):Prop where
 vq:Ok P w K mg base 1 "_law_within" ["_law_row_here","_law_first","_law_half"] (eF K)
 qr:Ok P w K mg base 2 "_law_due_span" ["_law_text_here"] (dj K)
theorem vt (D:Def K mg "_law_due" jx ["_law_text_here"]) (T:Txt K mg G) (O:vp P w K mg base G):Ok P w K mg base 3 "_law_due" ["_law_text_here"] (ir K):=by
 have S:=vo
 refine D.ok S (fun vs H Q E h=>?_) (fun f bE A outer s H vs Q E hr h=>?_)
 ·obtain ⟨_,rfl,_⟩:=h;rfl
 ·obtain ⟨z,rfl,hz,k1,k2⟩:=h
  have hu:=bj hr
  have aD:=T.aD
  have ak:=T.ak
  have ao:=T.ao
  refine⟨_,(af (au (i:=1) S.nd rfl (Or.inl rfl) (bK ag)) (af (au (i:=2) S.nd rfl (Or.inl rfl) (bK (aa (pv 1) ag))) (af (au (i:=3) S.nd rfl (Or.inl rfl) ah) (af (au (i:=4) S.nd rfl (Or.inl rfl) ah) (af (cy PassesOwn.never (PW.pt (fR (ax kA (pv 4) (ay bh rfl T.bN PySem.boot_len (aa (pv 0) ag)) (az _)) (fR (ax iI (pv 3) ah (az _)) (gB (ax kA (ay (cM K rfl) rfl T.bN PySem.boot_len (aa (pv 2) ag)) ah (az _)))))) (af (au (i:=5) S.nd rfl (Or.inl rfl) (pv 4)) (af (cy PassesOwn.never (PW.pt (fR (ax iI (pv 5) (ay bh rfl T.bN PySem.boot_len (aa (pv 0) ag)) (az _)) (gB (ax js (aI d9 (pv 0) (pv 5) (fun _ _=>rfl)) aC (by with_unfolding_all rfl))))) (ai (au (i:=5) S.nd rfl (Or.inl rfl) (aw aY (pv 5) ah)))) (af (au (i:=6) S.nd rfl (Or.inl rfl) (aZ O.qr (hr.mono (by decide)) (aa (bb b8 (pv 0) (aW (pv 4)) (aW (pv 5))) ag))) (af (aS (PW.pt (c6 (ax ou (pv 6) cT (az _)) (cV (d8 (cU (aZ O.vq (hr.mono (by decide)) (aa (pv 6) (aa ah (aa ah ag))))))))) (ai (aA cT)) aF) (af (au (i:=7) S.nd rfl (Or.inl rfl) (cL (@aa _ _ _ _ _ (pv 6) (@aa _ _ _ _ _ (bK ag) ag (by rfl)) (by rfl)))) (af (bX (cR PySem.F.plainAttrs_list PySem.F.slot_list_append PySem.F.type_list_append br (aI (aG K rfl) (pv 2) (yX ug ah) (fun _ _=>rfl)) (aa (pv 7) ag))) (af (au (i:=3) S.nd rfl (Or.inl rfl) (aw aY (pv 3) ah)) (af (au (i:=4) S.nd rfl (Or.inl rfl) (aw aY (pv 5) ah)) (ai (aS (PW.pt (fR (ax iI (pv 5) (ay bh rfl T.bN PySem.boot_len (aa (pv 0) ag)) (az _)) (gB (ax cv (aI d9 (pv 0) (pv 5) (fun _ _=>rfl)) aC (az _))))) (ai (bX (cR PySem.F.plainAttrs_list PySem.F.slot_list_append PySem.F.type_list_append br (pv 2) (aa (aI (aG K rfl) (pv 7) ah (fun _ _=>rfl)) ag)))) (af (cy PassesOwn.never (PW.pt (fR (ax iI (pv 5) (ay bh rfl T.bN PySem.boot_len (aa (pv 0) ag)) (az _)) (fR (ax cv (aI d9 (pv 0) (pv 5) (fun _ _=>rfl)) aC (az _)) (gB (ax kB (ay (cM K rfl) rfl T.bN PySem.boot_len (aa (pv 2) ag)) ah (az _)))))) (af (bX (Ef PySem.F.plainAttrs_list PySem.F.slot_list_pop PySem.F.type_list_pop Eh (pv 2))) (ai (au (i:=5) S.nd rfl (Or.inl rfl) (aw aY (pv 5) ah))))) (af (aS (PW.pt (fR (ax cv (pv 5) (ay bh rfl T.bN PySem.boot_len (aa (pv 0) ag)) (az _)) (gB (ax cv (ay (cM K rfl) rfl T.bN PySem.boot_len (aa (pv 2) ag)) ah (az _))))) (ai (aA (aI (aG K rfl) (pv 1) ah (fun _ _=>rfl)))) aF) (af (aS (PW.pt (c6 (ax cv (pv 5) (ay bh rfl T.bN PySem.boot_len (aa (pv 0) ag)) (az _)) (c6 (ax eL (aI d9 (pv 0) (pv 5) (fun _ _=>rfl)) aC (az _)) (cV (ax cv (ay (cM K rfl) rfl T.bN PySem.boot_len (aa (pv 2) ag)) ah (az _)))))) (ai (aA cT)) aF) (ai (au (i:=4) S.nd rfl (Or.inl rfl) (aw aY (pv 5) ah))))))))))))))))) (ai (aA cT))))))),?_⟩
  have yK:z.cps.toList.length=z.length:=Array.length_toList
  have Mr:PySem.Str.ofString "("=⟨#[40]⟩:=by decide
  have L6:PySem.Str.ofString ")"=⟨#[41]⟩:=by decide
  obtain ⟨U,hU⟩:∃ U,pF fO (z.cps.toList.length+1) 0 z.cps.toList [] .nil=U:=⟨_,rfl⟩
  have kN:U=none->∀ H',aj H H'->Q .cF H':=fun e=>k1 (by
   rw [<- hU,wQ] at e
   cases hq:ko z with
   | none=>rfl
   | some p=>rw [hq] at e;cases e)
  have kS:∀ f,U=some f->∃ r k,f=.nd r k .nil/\ko z=some (r,k):=fun f e=>by
   rw [<- hU,wQ] at e
   cases hq:ko z with
   | none=>rw [hq] at e;cases e
   | some p=>obtain ⟨r,k⟩:=p;rw [hq] at e;cases e;exact⟨r,k,rfl,rfl⟩
  have fN:z.length<=sizeLine:=RL hz.1 (by decide)
  walk_at "w"
  rename_i tp H1 n1 s1 m1 pl H2 n2 s2 m2
  refine cY (fun mm σ' H'=>∃ (o5 o6 o7:Option V) (e m:Nat) (l:Addr) (ps:List Addr) (us:List V) (fs:List (Fo×List Int)) (cur:Fo),σ'=[some (.str z),some (.ref tp),some (.ref pl),some (.int (m:Int)),some (.int (e:Int)),o5,o6,o7]/\sG K H H' pl l ps us fs cur m tp/\U=pF fO mm m (z.cps.toList.drop e) fs cur/\e<=z.length/\(z.cps.toList.drop e).length<mm/\m<=12) (z.length+1) ⟨_,_,_,0,0,tp,[],[],[],.nil,rfl,?_,by rw [<- yK];exact hU.symm,Sm _,by rw [List.drop_zero,yK];exact lt_succ_self _,by decide⟩ (fun mm σ' H' hw=>?_)
  ·exact⟨s1.trans s2,m2,s2 _ _ m1,Sm _,by simp,fun z=>(by rw [R6] at z;rw [z,m1] at n2;cases n2),bG s1 n2,fun x hx=>(by rw [R6] at hx;rw [hx];exact n1),.nil,.top,rfl⟩
  obtain ⟨o5,o6,o7,e,m,l,ps,us,fs,cur,rfl,hP,wU,L9,QN,hm⟩:=hw
  have QO:=hP.hS.len
  rw [length_cons] at QO
  have mp:=hP.mp
  obtain ⟨xs,Ms⟩:∃ xs,(l::ps).reverse.map V.ref=xs:=⟨_,rfl⟩
  rw [Ms] at mp
  have RC:xs.length=fs.length+1:=by rw [<- Ms,R9,List.length_reverse,length_cons];lia
  obtain ⟨n',rfl⟩:∃ n',mm=n'+1:=⟨mm - 1,by lia⟩
  walk_at "w"
  rw [if_pos (RW (by lia))]
  walk_at "w"
  by_cases Kg:m<12
  case neg =>
   rw [if_neg (by rw [RV (by lia)];decide)]
   rw [if_neg (show ¬ false=true by decide)]
   exact kN (by rw [wU];unfold pF;rw [if_neg (fun z=>Kg z.1)]) _ hP.s
  rw [if_pos (RW (by lia))]
  walk_at "w"
  by_cases h8:fs.length<8
  case neg =>
   rw [if_neg (by rw [RV (by lia)];decide)]
   exact kN (by rw [wU];unfold pF;rw [if_neg (fun z=>h8 z.2)]) _ hP.s
  rw [if_pos (RW (by lia))]
  refine kU ?_
  obtain ⟨L,hL⟩:∃ L,z.cps.toList.drop e=L:=⟨_,rfl⟩
  rw [hL] at wU QN
  have hle:=gd L
  have Mp:L.length=z.length - e:=by rw [<- hL,length_drop,yK]
  have LZ:=lj L
  walk_at "w"
  refine join (fun σ' Hx=>Hx=H'/\σ'=[some (.str z),some (.ref tp),some (.ref pl),some (.int (m:Int)),some (.int (e:Int)),some (.int ((e+aq L:Nat):Int)),o6,o7]) (fun nx ub=>?_) (fun σ' Hx hQ=>?_)
  ·refine cY (fun mm σ' Hx=>Hx=H'/\∃ j:Nat,j<=aq L/\mm=aq L - j/\σ'=[some (.str z),some (.ref tp),some (.ref pl),some (.int (m:Int)),some (.int (e:Int)),some (.int ((e+j:Nat):Int)),o6,o7]) (aq L) ⟨rfl,0,Sm _,rfl,rfl⟩ (fun mm σ' Hx hw=>?_)
   obtain ⟨rfl,j,hj,rfl,rfl⟩:=hw
   walk_at "w"
   by_cases eK:e+j<z.length
   ·rw [if_pos (RW (by lia))]
    walk_at "w"
    obtain ⟨d,tq⟩:∃ d,z.cps.toList[e+j]?=some d:=⟨_,R3 (by lia)⟩
    have hd:=LZ j d hj (by rw [<- hL,getElem?_drop];exact tq)
    refine jV fN (bM tq) ?_
    walk_at "w"
    rw [F0]
    by_cases hc:DC d=true
    ·rw [hc,if_neg (by decide)]
     have:=hd.mp hc
     subst this
     exact ub _ _ ⟨rfl,rfl⟩
    ·have F7:j<aq L:=by
      rcases lt_or_ge j (aq L) with h|h
      ·exact h
      ·exact absurd (hd.mpr (by lia)) hc
     rw [if_pos (by simpa using hc)]
     refine kU ?_
     walk_at "w"
     exact⟨aq L - (j+1),by lia,rfl,j+1,F7,rfl,by rw [show ((e+(j+1):Nat):Int)=((e+j:Nat):Int)+1 by lia] <;> rfl⟩
   ·rw [if_neg (by rw [RV (by lia)];decide)]
    have F7:j=aq L:=by lia
    subst F7
    rw [if_neg (show ¬ false=true by decide)]
    exact ub _ _ ⟨rfl,rfl⟩
  obtain ⟨rfl,rfl⟩:=hQ
  have Gg:PySem.Txt.slice z (some (e:Int)) (some ((e+aq L:Nat):Int))=⟨(L.take (aq L)).toArray⟩:=by
   refine tZ.gH ((tZ.cut (Nat.le_add_right _ _)).trans ?_)
   rw [hL,Nat.add_sub_cancel_left]
  have Mt:(⟨(L.take (aq L)).toArray⟩:PySem.Str).length<=1000:=by
   show (L.take (aq L)).toArray.size<=1000
   rw [Si,Sh]
   have:=hz.2.2 e
   rw [hL] at this
   lia
  have vv:z.cps.toList.drop (e+aq L)=L.drop (aq L):=by rw [<- hL,drop_drop]
  walk_at "w"
  rw [Gg]
  refine lH Mt ⟨fun tY H3 s3=>?_,fun t b ht=>?_⟩
  ·walk_at "w"
   refine⟨rfl,?_⟩
   walk_at "w"
   refine fU rfl ?_
   walk_at "w"
   exact kN (by rw [wU];exact uU (AD tY)) _ (hP.s.trans s3)
  have hb:=aM.kR (by decide) ht
  obtain ⟨et,Oq,Ot⟩:=pI hb.1
  obtain ⟨eb,Ou,_⟩:=pI hb.2.2.1
  refine⟨_,_,_,_,_,_,_,_,_,_,(dN t).2,(dN b).2,et,eb,Oq,Ou,Ot,fun qR H3 s3=>?_,fun he p H3 s3 m3=>?_⟩
  ·walk_at "w"
   refine⟨rfl,?_⟩
   walk_at "w"
   refine fU rfl ?_
   walk_at "w"
   exact kN (by rw [wU];exact uU (by unfold fO;rw [jA ht,if_neg (fun z=>qR z.1)])) _ (hP.s.trans s3)
  walk_at "w"
  refine⟨rfl,?_⟩
  walk_at "w"
  refine dE rfl ?_
  walk_at "w"
  refine pP (aT.of m3) fun H4 s4=>?_
  walk_at "w"
  refine aO (fun hf=>?_) (fun hf=>?_)
  ·walk_at "w"
   exact kN (by rw [wU];exact uU (by unfold fO;rw [jA ht,if_neg (fun z=>by rw [z.2] at hf;cases hf)])) _ (hP.s.trans (s3.trans s4))
  have ro:fO (L.take (aq L))=some (FV t b):=by unfold fO;rw [jA ht,if_pos ⟨he,by simpa using hf⟩]
  have Ov:aT K H3 p ((FV t b).map V.int):=aT.of m3
  have l5:(FV t b).length=5:=rfl
  generalize FV t b=row at ro Ov l5
  clear hf he et eb Oq Ou Ot hb ht m3
  walk_at "w"
  rename_i q H5 n5 s5 m5 nt H6 s6 m6
  have sx:aj Hx H6:=s3.trans (s4.trans (s5.trans s6))
  have Mu:aT K H6 nt [.ref p,.ref q]:=aT.of m6
  have Ow:aT K H6 p (row.map V.int):=(s4.trans (s5.trans s6)).at Ov
  have Ox:H6 q=some (.lst []):=s6 _ _ m5
  have Dh:Hx q=none:=bG (s3.trans s4) n5
  have QP:H6 pl=some (.lst (ps.reverse.map V.ref++[.ref l])):=by
   have:=sx _ _ hP.mp
   rw [List.reverse_cons,Sk] at this
   exact this
  have Oy:=sx _ _ hP.ml
  have RD:=hP.hb
  refine fK (b5.of QP) Cm ?_
  walk_at "w"
  refine bT Oy (by lia) ?_
  have hA:=hP.add sx Dh Ox Mu Ow l5
  have hB:=hP.push sx Dh Ox Mu Ow l5
  walk_at "j"
  dsimp only
  refine uV (decide ((L.drop (aq L)).head?=some 40)) (fun Q' qs=>?_) ?_
  ·walk_at "w"
   by_cases eK:e+aq L<z.length
   ·rw [if_pos (RW (by lia))]
    walk_at "w"
    obtain ⟨d,tq⟩:∃ d,z.cps.toList[e+aq L]?=some d:=⟨_,R3 (by lia)⟩
    refine jV fN (bM tq) ?_
    walk_at "w"
    rw [Mr,show decide ((⟨#[d]⟩:PySem.Str)=⟨#[40]⟩)=decide ((L.drop (aq L)).head?=some 40) from decide_eq_decide.mpr (dW.trans ⟨fun h=>(bA vv).mp (by rw [tq,h]),fun h=>by have:=(bA vv).mpr h;rw [tq] at this;exact RS this⟩)]
    exact qs
   ·rw [if_neg (by rw [RV (by lia)];decide)]
    rw [show decide ((L.drop (aq L)).head?=some 40)=false from RV (fun z=>eK (by rw [<- vv] at z;have:=gK z;lia))] at qs
    exact qs
  by_cases kr:(L.drop (aq L)).head?=some 40
  have t7:aT K (upd H6 l (.lst (us++[.ref nt]))) nt [.ref p,.ref q]:=bw Mu Oy
  have e7:=hA.mp
  generalize upd H6 l (.lst (us++[.ref nt]))=H7 at hA hB t7 e7
  ·rw [if_pos (RW kr)]
   walk_at "w"
   refine bT e7 (by rw [Ms];lia) ?_
   walk_at "w"
   refine⟨n',lt_succ_self _,_,_,_,e+aq L+1,m+1,q,l::ps,[],(cur,row)::fs,.nil,rfl,hB,?_,?_,?_,by lia⟩
   ·rw [wU,AE ⟨Kg,h8⟩ ro kr,<- vv,drop_tail]
   ·have:=gK (by rw [vv];exact kr)
    lia
   ·have:=gK (by rw [vv];exact kr)
    rw [length_drop]
    lia
  rw [if_neg (by rw [RV kr];decide)]
  walk_at "j"
  refine join (fun σ' Hx=>∃ (e2:Nat) (l2:Addr) (vw:List Addr) (wV:List V) (kb:List (Fo×List Int)) (qt:Fo),σ'=[some (.str z),some (.ref tp),some (.ref pl),some (.int ((m:Int)+1)),some (.int (((e+aq L:Nat):Int)+1)),some (.int (e2:Int)),some (.ref p),some (.ref nt)]/\sG K H Hx pl l2 vw wV kb qt (m+1) tp/\e2<=z.length/\cS (L.drop (aq L)) fs (cur.app (.nd row .nil .nil))=(z.cps.toList.drop e2,kb,qt)) (fun nx ub=>?_) (fun σ' H8 hQ=>?_)
  ·refine cY (fun mm σ' Hx=>∃ (e2:Nat) (l2:Addr) (vw:List Addr) (wV:List V) (kb:List (Fo×List Int)) (qt:Fo),σ'=[some (.str z),some (.ref tp),some (.ref pl),some (.int ((m:Int)+1)),some (.int (((e+aq L:Nat):Int)+1)),some (.int (e2:Int)),some (.ref p),some (.ref nt)]/\sG K H Hx pl l2 vw wV kb qt (m+1) tp/\e2<=z.length/\cS (L.drop (aq L)) fs (cur.app (.nd row .nil .nil))=cS (z.cps.toList.drop e2) kb qt/\mm=kb.length) fs.length ⟨e+aq L,l,ps,_,fs,_,rfl,hA,by lia,by rw [vv],rfl⟩ (fun mm σ' H8 hw=>?_)
   obtain ⟨e2,l2,vw,wV,kb,qt,rfl,x9,GU,AV,rfl⟩:=hw
   have AW:=x9.hS.len
   rw [length_cons] at AW
   have LY:H8 pl=some (.lst (vw.reverse.map V.ref++[.ref l2])):=by
    have:=x9.mp
    rw [List.reverse_cons,Sk] at this
    exact this
   have Kl:(vw.reverse.map V.ref++[V.ref l2]).length=kb.length+1:=by rw [Sa,R9,List.length_reverse];show vw.length+1=_;lia
   refine JE (decide ((z.cps.toList.drop e2).head?=some 41/\kb≠[])) (fun Q' qs=>?_) ?_
   ·walk_at "w"
    by_cases eK:e2<z.length
    ·rw [if_pos (RW (by lia))]
     walk_at "w"
     obtain ⟨d,tq⟩:∃ d,z.cps.toList[e2]?=some d:=⟨_,R3 (by lia)⟩
     refine jV fN (bM tq) ?_
     walk_at "w"
     rw [L6]
     by_cases i0:(z.cps.toList.drop e2).head?=some 41
     ·rw [if_pos (RW (dW.mpr (by have:=(bA rfl).mpr i0;rw [tq] at this;exact RS this)))]
      walk_at "w"
      rw [Kl,show decide ((1:Int)<((kb.length+1:Nat):Int))=decide ((z.cps.toList.drop e2).head?=some 41/\kb≠[]) from decide_eq_decide.mpr ⟨fun h=>⟨i0,fun z=>by rw [z] at h;exact absurd h (by decide)⟩,fun h=>by have:=List.length_pos_iff.mpr h.2;lia⟩]
      exact qs
     ·rw [if_neg (by rw [RV (fun z=>i0 ((bA rfl).mp (by rw [tq,dW.mp z])))];decide)]
      rw [RV (fun z=>i0 z.1)] at qs
      exact qs
    ·rw [if_neg (by rw [RV (by lia)];decide)]
     rw [RV (fun z=>eK (by have:=gK z.1;lia))] at qs
     exact qs
   refine aO (fun hc=>?_) (fun hc=>?_)
   ·obtain ⟨i0,qR⟩:=RT hc
    have eK:=gK i0
    refine kU ?_
    walk_at "w"
    refine Jx LY ?_
    cases kb with
    | nil=>exact absurd rfl qR
    | cons f2 kb =>
    obtain ⟨g2,r2⟩:=f2
    cases vw with
    | nil=>exact absurd AW (by simp)
    | cons l3 vw =>
    obtain ⟨Of,QQ⟩:=x9.pop
    walk_at "w"
    refine⟨kb.length,lt_succ_self _,e2+1,l3,vw,Of,kb,_,rfl,QQ,by lia,?_,rfl⟩
    rw [AV,Cw i0,drop_tail]
   ·exact ub _ _ ⟨e2,l2,vw,wV,kb,qt,rfl,x9,GU,by rw [AV];exact Cv (RU hc)⟩
  obtain ⟨e2,l2,vw,wV,kb,qt,rfl,x9,GU,AV⟩:=hQ
  have fJ:=F2 (n:=n') ⟨Kg,h8⟩ ro kr AV
  rw [<- wU] at fJ
  have AW:=x9.hS.len
  rw [length_cons] at AW
  have LY:=x9.mp
  have Kl:((l2::vw).reverse.map V.ref).length=kb.length+1:=by rw [R9,List.length_reverse,length_cons];lia
  have Gh:z.cps.toList.drop e2=[]↔e2=z.length:=by rw [List.drop_eq_nil_iff];lia
  walk_at "j"
  dsimp only
  refine uV (decide (z.cps.toList.drop e2=[]/\kb=[])) (fun Q' qs=>?_) ?_
  ·walk_at "w"
   by_cases BP:e2=z.length
   ·rw [if_pos (RW (by lia))]
    walk_at "w"
    rw [Kl,show decide (((kb.length+1:Nat):Int)=1)=decide (z.cps.toList.drop e2=[]/\kb=[]) from decide_eq_decide.mpr ⟨fun h=>⟨Gh.mpr BP,List.length_eq_zero_iff.mp (by lia)⟩,fun h=>by rw [h.2];rfl⟩]
    exact qs
   ·rw [if_neg (by rw [RV (by lia)];decide)]
    rw [RV (fun z=>BP (Gh.mp z.1))] at qs
    exact qs
  refine aO (fun hc=>?_) (fun hc=>?_)
  ·obtain ⟨hR,GG⟩:=RT hc
   rw [if_pos ⟨hR,GG⟩] at fJ
   obtain ⟨r,k,rfl,QR⟩:=kS _ fJ
   subst GG
   cases vw with
   | cons _ _=>exact absurd AW (by simp)
   | nil =>
   obtain rfl:l2=tp:=RS x9.ht
   have Oz:=x9.hF
   have N5:=x9.ml
   obtain ⟨t,rfl⟩:∃ t,wV=[.ref t]:=by
    cases Oz with
    | nd _ _ _ _ _ _ hr=>cases hr;exact⟨_,rfl⟩
   walk_at "w"
   exact k2 r k QR t H8 x9.s (Oz.imp fun x hx=>hx.1)
  rw [if_neg (RU hc)] at fJ
  walk_at "j"
  dsimp only
  refine uV (decide ((z.cps.toList.drop e2).head?≠some 32\/kb=[])) (fun Q' qs=>?_) ?_
  ·walk_at "w"
   by_cases BP:e2=z.length
   ·rw [if_pos (RW (by lia))]
    rw [RW (.inl (by rw [Gh.mpr BP];exact fun z=>nomatch z))] at qs
    exact qs
   ·rw [if_neg (by rw [RV (by lia)];decide)]
    walk_at "w"
    obtain ⟨d,tq⟩:∃ d,z.cps.toList[e2]?=some d:=⟨_,R3 (by lia)⟩
    refine jV fN (bM tq) ?_
    walk_at "w"
    rw [FR]
    by_cases pH:(z.cps.toList.drop e2).head?=some 32
    ·rw [if_neg (by rw [RW (dW.mpr (by have:=(bA rfl).mpr pH;rw [tq] at this;exact RS this))];decide)]
     walk_at "w"
     rw [Kl,show decide (((kb.length+1:Nat):Int)=1)=decide ((z.cps.toList.drop e2).head?≠some 32\/kb=[]) from decide_eq_decide.mpr ⟨fun h=>.inr (List.length_eq_zero_iff.mp (by lia)),fun h=>h.elim (fun z=>absurd pH z) (fun z=>by rw [z];rfl)⟩]
     exact qs
    ·rw [if_pos (by rw [RV (fun z=>pH ((bA rfl).mp (by rw [tq,dW.mp z])))];rfl)]
     rw [RW (.inl pH)] at qs
     exact qs
  refine aO (fun Mv=>?_) (fun Mv=>?_)
  ·rw [if_pos (RT Mv)] at fJ
   walk_at "w"
   exact kN fJ _ x9.s
  have OA:=RU Mv
  rw [if_neg OA] at fJ
  have pH:(z.cps.toList.drop e2).head?=some 32:=Classical.byContradiction fun z=>OA (.inl z)
  have eK:=gK pH
  have Mw:=(iY (L.drop (aq L)) fs (cur.app (.nd row .nil .nil))).1
  rw [AV,length_drop,length_drop] at Mw
  walk_at "w"
  refine⟨n',lt_succ_self _,_,_,_,e2+1,m+1,l2,vw,wV,kb,qt,rfl,x9,by rw [fJ,drop_tail],by lia,?_,by lia⟩
  rw [length_drop]
  lia
theorem ni:aB ["text","start","deep","end","span","found"] ["text","start","deep"] (ar eZ):=⟨rfl,rfl,rfl,by decide +kernel,rfl,by decide +kernel,by decide +kernel⟩
structure nj(P:Program)(w:World)(K:Frag)(mg:Str->Option Value)(base:Heap)(G:ly):Prop where
 AX:Ok P w K mg base 1 "span_end" ["text","start"] (gm K)
 vx:rQ P w K mg base 6 "stack_span" ["text"] (eD K)
theorem nk (D:Def K mg "stack_from" eZ ["text","start","deep"]) (DU:Def K mg "uppers_from" cZ ["text","start","deep"]) (T:Txt K mg G) (O:nj P w K mg base G):∀ n:Nat,rQ P w K mg base (6+2*n+1) "stack_from" ["text","start","deep"] (cA K n):=by
 have S:=ni
 intro n
 induction n with
 | zero=>exact D.Jh S (fun vs H Q E h=>absurd h (gv K)) (fun f bE A outer s H vs Q E hr h=>absurd h (gv K))
 | succ n ih =>
 have OU:=lO DU T n ih
 refine D.Jh (k:=6+2*(n+1)) S (fun vs H Q E h=>?_) (fun f bE A outer s H vs Q E hr h=>?_)
 ·obtain ⟨_,_,_,rfl,_⟩:=h;rfl
 ·obtain ⟨z,st,dp,rfl,hz,hs,Jc,JG,hn,fJ,k1,k2⟩:=h
  have hu:=bj hr
  have aD:=T.aD
  have ak:=T.ak
  have ao:=T.ao
  refine⟨_,(af (aS (ax kB (pv 2) (cX (v:=V.int 8) rfl T.sI ⟨_,rfl⟩) (az _)) (ai (c9 T.eR PySem.F.excBase_ValueError (by decide +kernel) PySem.F.excBase_ValueError rfl (fun _ _ z=>.inl z) rfl rfl T.dD (aa aC ag))) aF) (af (au (i:=3) S.nd rfl (Or.inl rfl) (aZ O.AX (hr.mono (by lia)) (aa (pv 0) (aa (pv 1) ag)))) (af (au (i:=4) S.nd rfl (Or.inl rfl) (fW O.vx (hr.mono (by lia)) (fun _ _ z=>.inl z) rfl (aa (bb b8 (pv 0) (aW (pv 1)) (aW (pv 3))) ag))) (af (aS (ax eL (bb b8 (pv 0) (aW (pv 3)) (aW (aw aY (pv 3) ah))) aC (az _)) (ai (aA (cL (@aa _ _ _ _ _ (@cL _ _ _ _ _ (@aa _ _ _ _ _ (pv 4) (@aa _ _ _ _ _ (bK ag) ag (by rfl)) (by rfl))) (@aa _ _ _ _ _ (pv 3) ag (by rfl)) (by rfl))))) aF) (af (au (i:=5) S.nd rfl (Or.inl rfl) (fW OU (hr.mono (by lia)) (fun _ _ z=>.inl z) rfl (aa (pv 0) (aa (pv 3) (aa (aw aY (pv 2) ah) ag))))) (ai (aA (cL (@aa _ _ _ _ _ (@cL _ _ _ _ _ (aa (pv 4) (aa (aI (aG K rfl) (pv 5) ah (fun _ _=>rfl)) ag))) (@aa _ _ _ _ _ (aI (aG K rfl) (pv 5) ah (fun _ _=>rfl)) ag (by rfl)) (by rfl)))))))))),?_⟩
  have yK:z.cps.toList.length=z.length:=Array.length_toList
  have Mr:PySem.Str.ofString "("=⟨#[40]⟩:=by decide
  obtain ⟨L,hL⟩:∃ L,z.cps.toList.drop st=L:=⟨_,rfl⟩
  have hle:=gd L
  have Mp:L.length=z.length - st:=by rw [<- hL,length_drop,yK]
  rw [hL] at fJ k1 k2
  walk_at "w"
  by_cases h8:8<dp
  ·refine fU (RW (by lia)) ?_
   walk_at "w"
   exact⟨by decide,k1 (by rw [show 9 - dp=0 by lia];rfl) _ _ T.cj (aj.refl _)⟩
  refine dE (RV (by lia)) ?_
  obtain ⟨q,hq⟩:∃ q,9 - dp=q+1:=⟨8 - dp,by lia⟩
  rw [hq] at k1 k2
  walk_at "w"
  refine uZ hz ?_
  rw [hL]
  walk_at "w"
  have Gg:PySem.Txt.slice z (some (st:Int)) (some ((st+aq L:Nat):Int))=⟨(L.take (aq L)).toArray⟩:=by
   refine tZ.gH ((tZ.cut (Nat.le_add_right _ _)).trans ?_)
   rw [hL,Nat.add_sub_cancel_left]
  rw [Gg]
  have Mt:(⟨(L.take (aq L)).toArray⟩:PySem.Str).length<=1000:=by
   show (L.take (aq L)).toArray.size<=1000
   rw [Si,Sh]
   lia
  refine pN Mt ⟨fun tY C H1 hC s1=>⟨C,rfl,k1 (FZ tY) C H1 hC s1⟩,fun r hr pa H1 s1 m1=>?_⟩
  have lr:=Cu hr
  have vv:z.cps.toList.drop (st+aq L)=L.drop (aq L):=by rw [<- hL,drop_drop]
  have Mx:fO (L.take (aq L))=some r:=hr
  walk_at "w"
  rw [Mr]
  by_cases kr:(L.drop (aq L)).head?=some 40
  ·rw [if_neg (by rw [RW (eO.mpr ((bA vv).mpr kr))];decide)]
   walk_at "w"
   rw [show (dp:Int)+1=((dp+1:Nat):Int) from rfl]
   have N2:aJ (L.drop (aq L))<=12:=by
    have:=eP (L.take (aq L)) (L.drop (aq L))
    rw [List.take_append_drop] at this
    lia
   have e9:9 - (dp+1)=q:=by lia
   refine mD ⟨hz,(bA vv).mpr kr,by lia,by lia,by lia,by rw [vv];exact N2⟩ ⟨fun tY C H2 hC s2=>⟨C,rfl,k1 ?_ C H2 hC (s1.trans s2)⟩,fun g R hU p l us e H2 s2 mp he QS ml nl hF=>?_⟩
   ·rw [vv,e9] at tY
    rw [AB Mx kr,tY]
   ·rw [vv,e9] at hU
    have hA:fm fO (q+1) L=some ((r,g),R):=by rw [AB Mx kr,hU]
    walk_at "w"
    rename_i p3 H3 s3 m3 p4 H4 s4 m4
    have Km:=s3.trans s4
    exact k2 _ _ _ hA p4 p3 e H4 (s1.trans (s2.trans Km)) (aT.of m4) he QS (.nd (s4.at (aT.of m3)) ((s2.trans Km).at (aT.of m1)) lr (Km _ _ ml) (bG s1 nl) ((hF.same Km).imp fun x hx=>bG s1 hx) .nil)
  ·rw [if_pos (by rw [RV (fun z=>kr ((bA vv).mp (eO.mp z)))];rfl)]
   walk_at "w"
   rename_i l2 H2 n2 s2 m2 p3 H3 s3 m3 p4 H4 s4 m4
   have My:=s3.trans s4
   exact k2 _ _ _ (AA Mx kr) p4 p3 (st+aq L) H4 (s1.trans (s2.trans My)) (aT.of m4) (by lia) vv (.nd (s4.at (aT.of m3)) ((s2.trans My).at (aT.of m1)) lr (My _ _ m2) (bG s1 n2) .nil .nil)
theorem Gi:aB ["_law_script","_law_text_here","_law_due_here","_law_found"] ["_law_script"] (ar iW):=⟨rfl,rfl,rfl,by decide +kernel,rfl,by decide +kernel,by decide +kernel⟩
structure Gj(P:Program)(w:World)(K:Frag)(mg:Str->Option Value)(base:Heap)(G:ly):Prop where
 ya:Ok P w K mg base 11 "_law_alike" ["_law_found","_law_due_here"] (dz K 9)
 yb:Ok P w K mg base 27 "_law_asked" ["_law_text_here"] (fw K)
 yc:Ok P w K mg base 12 "_law_drawn" ["_law_script"] (fx K)
 CK:Ok P w K mg base 3 "_law_due" ["_law_text_here"] (ir K)
theorem Gk {f:Addr} {fd:FuncData} (F:C4 K "law" "law" iW f fd) (T:Txt K mg G) (O:Gj P w K mg base G):kD P w K mg base Bj 28 f fd ["_law_script"] (zw K):=by
 have S:=Gi
 refine F.ok S (fun vs H Q E h=>?_) (fun bE A outer s H vs Q E hr h=>?_)
 ·obtain ⟨_,_,rfl,_⟩:=h;rfl
 ·obtain ⟨a,ns,rfl,hS,hlen,k⟩:=h
  have hu:=bj hr
  have aD:=T.aD
  have ak:=T.ak
  have ao:=T.ao
  refine⟨_,(af (au (i:=1) S.nd rfl (Or.inl rfl) (aZ O.yc (hr.mono (by decide)) (aa (pv 0) ag))) (af (au (i:=2) S.nd rfl (Or.inl rfl) (aZ O.CK (hr.mono (by decide)) (aa (pv 1) ag))) (af (au (i:=3) S.nd rfl (Or.inl rfl) (aZ O.yb (hr.mono (by decide)) (aa (pv 1) ag))) (af (aS (ax ou (pv 2) cT (az _)) (ai (aA (gF (pd K rfl hr.units) (aI (aG K rfl) (pv 3) ah (fun _ _=>rfl)) (bK (aa aC (aa aC ag))) (az _)))) aF) (ai (aA (oq (gF ou (aI (aG K rfl) (pv 3) ah (fun _ _=>rfl)) cT (az _)) (oo (aZ O.ya (hr.mono (by decide)) (aa (aI (aG K rfl) (pv 3) ah (fun _ _=>rfl)) (aa (pv 2) ag))))))))))),?_⟩
  walk_at "w"
  refine sS ⟨hS,by lia⟩ fun z H1 s1 hz=>?_
  walk_at "w"
  cases hq:ko z with
  | none =>
   refine oi hz ⟨fun _ H2 s2=>?_,fun r k e=>(by rw [hq] at e;cases e)⟩
   walk_at "w"
   refine jY ⟨hz.1,hz.2.1⟩ fun p f kk H3 s3 m3 o1 o2=>?_
   obtain ⟨l,rfl,ml⟩:=o1 hq
   walk_at "w"
   refine⟨rfl,?_⟩
   walk_at "w"
   refine fU rfl ?_
   walk_at "w"
   rename_i p4 H4 n4 s4 m4
   refine zW (.lst (b5.of (s4 _ _ ml)) (.cons (.str _) (.cons (.str _) .nil))) (.lst (b5.of m4) (.cons (.str _) (.cons (.str _) .nil))) (by decide +kernel) (by decide +kernel) ?_
   rw [show PySem.PyData.eqv (.list [.str "stack",.str "value"]) (.list [.str "stack",.str "value"])=true by decide +kernel]
   exact k _
  | some rk =>
   obtain ⟨r,ks⟩:=rk
   refine oi hz ⟨fun e=>(by rw [hq] at e;cases e),fun r' k' e t H2 s2 hF=>?_⟩
   obtain ⟨rfl,rfl⟩:r=r'/\ks=k':=by rw [hq] at e;cases e;exact⟨rfl,rfl⟩
   walk_at "w"
   refine jY ⟨hz.1,hz.2.1⟩ fun p f kk H3 s3 m3 o1 o2=>?_
   obtain ⟨c1,c2,rfl,q,rfl,hG⟩:=o2 r ks hq
   have QT:=hF.at.same s3
   walk_at "w"
   refine⟨rfl,?_⟩
   walk_at "w"
   refine dE (RV (fun h=>nomatch h)) ?_
   walk_at "w"
   refine⟨rfl,?_⟩
   walk_at "w"
   rw [RW rfl]
   refine fU rfl ?_
   walk_at "w"
   refine jX (n:=9) ⟨hG.at,QT,by lia,by lia⟩ fun H5 s5=>?_
   exact k _
end
set_option maxHeartbeats 2000000
theorem all_mk {l:OpenLaw} {w:World} {K:Frag} {h:Heap} {mg:Str->Option Value} {fa:Addr} (X:K.In h) (G0:h.Ns mainGlobals mg) (QU:mg "law"=some (.ref fa)) {Mz:Addr} {MA JO:Option Addr} {MB:Array (Option Value)} {MC JP JQ JR Gm JS:Value} {AY:Addr} {Gn:Option Addr} {Gp:Nat} {Gq:Array (Option Value)} {Gr Gs Gu Gv Gw:Tok} {lQ:Addr} {yd:Option Addr} {ye:Nat} {yf:Array (Option Value)} {yg yh yi yj yk:Tok} {lR:Addr} {yl:Option Addr} {ym:Nat} {yo:Array (Option Value)} {yp yq yr yu yv:Tok} {cN:Tok} {dy:Tok} {dZ:Tok} {ku:Tok} {cI:Addr} {qu:ClassData} {aU:Addr} {yw:ClassData} {aV:Addr} {yx:ClassData} {aL:Addr} {vy:ClassData}
 (a0:fL K "is_whole" hV)
 (a1:fL K "is_row" lg)
 (a2:fL K "is_tone" jt)
 (a3:fL K "tone_of" ju)
 (a4:fL K "over" uM)
 (a5:fL K "counted_out" ek)
 (a6:fL K "split_up" hZ)
 (a7:fL K "row_of" lh)
 (a8:fL K "is_counting" eA)
 (a9:fL K "parts_read" eV)
 (MD:fL K "span_read" fZ)
 (ME:fL K "span_end" ia)
 (MF:fL K "stack_span" eW)
 (MG:fL K "uppers_from" cZ)
 (MH:fL K "stack_from" eZ)
 (MI:fL K "stack_read" fb)
 (MJ:fL K "_law_cell" ib)
 (MK:fL K "_law_part" ic)
 (ML:fL K "_law_signed" fe)
 (MM:fL K "_law_row" jv)
 (MN:fL K "_law_fraction" dF)
 (MO:fL K "_law_within" ff)
 (MP:fL K "_law_is_row" fg)
 (MQ:fL K "_law_sign" ie)
 (MR:fL K "_law_number" fh)
 (MS:fL K "_law_due_span" dG)
 (MT:fL K "_law_stack" f6)
 (MU:fL K "_law_alike" f7)
 (MV:fL K "_law_spoilt" fi)
 (MW:fL K "_law_kinds" f9)
 (MX:fL K "_law_asked" gb)
 (MY:fL K "_law_text" ig)
 (MZ:fL K "_law_odd" jw)
 (M0:fL K "_law_drawn" gc)
 (M1:fL K "_law_due" jx)
 (M3:nsIn K mainGlobals "law"=some (some (.ref Mz))) (M4:K.lookup Mz=some ⟨MC,MA,.func (PySem.W.fnOf "law" "law" (dQ iW) (cc iW) (ar iW) .none JP JQ JR JO Gm JS),MB⟩) (M5:PySem.W.codeIn K Gm "law"=true) (M6:PySem.W.keepIn K (.ref Mz)=true)
     (AZ:nsIn K mainGlobals "ONE"=some (some (.ref AY))) (A0:K.lookup AY=some ⟨.type "tuple",Gn,.seq #[.int 0 Gr,.int 0 Gs,.int 0 Gu,.int 0 Gv,.int 0 Gw] Gp,Gq⟩) (lS:nsIn K mainGlobals "PRIMES"=some (some (.ref lQ))) (lT:K.lookup lQ=some ⟨.type "tuple",yd,.seq #[.int 2 yg,.int 3 yh,.int 5 yi,.int 7 yj,.int 11 yk] ye,yf⟩) (lU:nsIn K mainGlobals "BOUNDS"=some (some (.ref lR))) (lV:K.lookup lR=some ⟨.type "tuple",yl,.seq #[.int 700 yp,.int 60 yq,.int 60 yr,.int 60 yu,.int 60 yv] ym,yo⟩) (dM:nsIn K mainGlobals "MOST_FIGURES"=some (some (.int 60 cN))) (fB:nsIn K mainGlobals "MOST_SPANS"=some (some (.int 12 dy))) (gz:nsIn K mainGlobals "MOST_DEEP"=some (some (.int 8 dZ))) (qv:nsIn K mainGlobals "MARKS"=some (some (.str "( )" ku))) (d7:nsIn K mainGlobals "YardError"=some (some (.ref cI))) (fC:typeIn K (.ref cI)=some (.type "type")) (fD:clsIn K cI=some qu) (fE:subIn K (.ref cI) (.type "BaseException")=some true) (gh:nsIn K mainGlobals "TooFar"=some (some (.ref aU))) (jD:typeIn K (.ref aU)=some (.type "type")) (gL:clsIn K aU=some yw) (gM:subIn K (.ref aU) (.type "BaseException")=some true) (jE:findIn K (.ref aU) "__getattribute__"=some (some (.builtin "BaseException.__getattribute__"))) (jF:findIn K (.ref aU) "__getattr__"=some none) (jG:findIn K (.ref aU) "__class__"=some (some (.builtin "object.__class__"))) (jH:specialIn K (.builtin "object.__class__") "__get__"=some (some (.builtin "getset_descriptor.__get__"))) (jI:takesIn K (.builtin "object.__class__")=some true) (jJ:mroIn K aU (.type "object")=some true) (jK:excIn K aU [.type "ValueError",.type "Exception",.type "BaseException",.type "object"] "ValueError.__new__"=true) (gi:nsIn K mainGlobals "NoSpan"=some (some (.ref aV))) (jL:typeIn K (.ref aV)=some (.type "type")) (gN:clsIn K aV=some yx) (gO:subIn K (.ref aV) (.type "BaseException")=some true) (jM:findIn K (.ref aV) "__getattribute__"=some (some (.builtin "BaseException.__getattribute__"))) (jN:findIn K (.ref aV) "__getattr__"=some none) (jO:findIn K (.ref aV) "__class__"=some (some (.builtin "object.__class__"))) (jP:specialIn K (.builtin "object.__class__") "__get__"=some (some (.builtin "getset_descriptor.__get__"))) (jQ:takesIn K (.builtin "object.__class__")=some true) (jR:mroIn K aV (.type "object")=some true) (jS:excIn K aV [.type "ValueError",.type "Exception",.type "BaseException",.type "object"] "ValueError.__new__"=true) (ck:nsIn K mainGlobals "NoStack"=some (some (.ref aL))) (iv:typeIn K (.ref aL)=some (.type "type")) (fF:clsIn K aL=some vy) (fG:subIn K (.ref aL) (.type "BaseException")=some true) (iw:findIn K (.ref aL) "__getattribute__"=some (some (.builtin "BaseException.__getattribute__"))) (iy:findIn K (.ref aL) "__getattr__"=some none) (iz:findIn K (.ref aL) "__class__"=some (some (.builtin "object.__class__"))) (iA:specialIn K (.builtin "object.__class__") "__get__"=some (some (.builtin "getset_descriptor.__get__"))) (iB:takesIn K (.builtin "object.__class__")=some true) (iC:mroIn K aL (.type "object")=some true) (iD:excIn K aL [.type "ValueError",.type "Exception",.type "BaseException",.type "object"] "ValueError.__new__"=true) (bt:subIn K (.ref aL) (.ref cI)=some true) (bV:subIn K (.ref aU) (.ref aU)=some true) (bW:subIn K (.ref aU) (.ref aV)=some false) (cD:aU ≠ aV) (cm:subIn K (.ref aU) (.ref aL)=some false) (cp:aU ≠ aL) (bH:subIn K (.ref aV) (.ref aU)=some false) (cE:aV ≠ aU) (bI:subIn K (.ref aV) (.ref aV)=some true) (cq:subIn K (.ref aV) (.ref aL)=some false) (cu:aV ≠ aL) (bO:subIn K (.ref aL) (.ref aU)=some false) (bC:aL ≠ aU) (bP:subIn K (.ref aL) (.ref aV)=some false) (bD:aL ≠ aV) (bq:subIn K (.ref aL) (.type "ValueError")=some true) (iE:nsIn K mainGlobals "NoLength"=some none) (lW:nsIn K mainGlobals "NoName"=some none) (fH:nsIn K mainGlobals "ValueError"=some none) (A1:nsIn K mainGlobals "abs"=some none) (A2:nsIn K mainGlobals "all"=some none) (vz:nsIn K mainGlobals "bool"=some none) (A3:nsIn K mainGlobals "int"=some none) (fI:nsIn K mainGlobals "isinstance"=some none) (A4:nsIn K mainGlobals "len"=some none) (vA:nsIn K mainGlobals "list"=some none) (A5:nsIn K mainGlobals "max"=some none) (qw:nsIn K mainGlobals "range"=some none) (A6:nsIn K mainGlobals "str"=some none) (qz:nsIn K mainGlobals "tuple"=some none) (A7:nsIn K mainGlobals "zip"=some none) :
    ∃ fd:FuncData,(∀ (s:Shared) (v:Value),BindsTo s fd ⟨[v],[]⟩ [("_law_script",v)])/\∀ base:Heap,K.In base->base.Ns mainGlobals mg->kD l.prog w K mg base Bj 28 fa fd ["_law_script"] (zw K):=by
  have e:=QU.symm.trans (mg_of X G0 M3)
  cases e
  have T:Txt K mg ⟨AY,lQ,lR,cI,aU,aV,aL,cN,dy,dZ,ku⟩:=⟨mg_none_of X G0 iE,mg_none_of X G0 lW,mg_none_of X G0 fH,mg_none_of X G0 A1,mg_none_of X G0 A2,mg_none_of X G0 vz,mg_none_of X G0 A3,mg_none_of X G0 fI,mg_none_of X G0 A4,mg_none_of X G0 vA,mg_none_of X G0 A5,mg_none_of X G0 qw,mg_none_of X G0 A6,mg_none_of X G0 qz,mg_none_of X G0 A7,mg_of X G0 AZ,fun H=>.inr ⟨_,_,_,A0,rfl,rfl,by show 5 <= sizeLine;decide,(.cons ⟨_,rfl⟩ (.cons ⟨_,rfl⟩ (.cons ⟨_,rfl⟩ (.cons ⟨_,rfl⟩ (.cons ⟨_,rfl⟩ .nil)))))⟩,mg_of X G0 lS,fun H=>.inr ⟨_,_,_,lT,rfl,rfl,by show 5 <= sizeLine;decide,(.cons ⟨_,rfl⟩ (.cons ⟨_,rfl⟩ (.cons ⟨_,rfl⟩ (.cons ⟨_,rfl⟩ (.cons ⟨_,rfl⟩ .nil)))))⟩,mg_of X G0 lU,fun H=>.inr ⟨_,_,_,lV,rfl,rfl,by show 5 <= sizeLine;decide,(.cons ⟨_,rfl⟩ (.cons ⟨_,rfl⟩ (.cons ⟨_,rfl⟩ (.cons ⟨_,rfl⟩ (.cons ⟨_,rfl⟩ .nil)))))⟩,mg_of X G0 dM,mg_of X G0 fB,mg_of X G0 gz,mg_of X G0 qv,mg_of X G0 d7,d7,eh.mk' fC fD fE,mg_of X G0 gh,gh,eh.mk' jD gL gM,jl.mk' jE jF gL jG jH jI jJ gM,jK,mg_of X G0 gi,gi,eh.mk' jL gN gO,jl.mk' jM jN gN jO jP jQ jR gO,jS,mg_of X G0 ck,ck,eh.mk' iv fF fG,jl.mk' iw iy fF iz iA iB iC fG,iD,bt,bV,bW,cD,cm,cp,bH,cE,bI,cq,cu,bO,bC,bP,bD,bq⟩
  have vB:=a0.df (ps:=["thing"]) X G0 fun _ _ _ _ _ _ us hl=>bx us hl fun _=>rfl
  have A8:=a1.df (ps:=["thing"]) X G0 fun _ _ _ _ _ _ us hl=>bx us hl fun _=>rfl
  have yy:=a2.df (ps:=["thing"]) X G0 fun _ _ _ _ _ _ us hl=>bx us hl fun _=>rfl
  have yA:=a3.df (ps:=["row"]) X G0 fun _ _ _ _ _ _ us hl=>bx us hl fun _=>rfl
  have Gx:=a4.df (ps:=["one","other"]) X G0 fun _ _ _ _ _ _ us hl=>dw us hl fun _ _=>rfl
  have nr:=a5.df (ps:=["number","prime"]) X G0 fun _ _ _ _ _ _ us hl=>dw us hl fun _ _=>rfl
  have vC:=a6.df (ps:=["number"]) X G0 fun _ _ _ _ _ _ us hl=>bx us hl fun _=>rfl
  have A9:=a7.df (ps:=["top","bottom"]) X G0 fun _ _ _ _ _ _ us hl=>dw us hl fun _ _=>rfl
  have nu:=a8.df (ps:=["text","most"]) X G0 fun _ _ _ _ _ _ us hl=>dw us hl fun _ _=>rfl
  have qA:=a9.df (ps:=["text","most"]) X G0 fun _ _ _ _ _ _ us hl=>dw us hl fun _ _=>rfl
  have tJ:=MD.df (ps:=["text"]) X G0 fun _ _ _ _ _ _ us hl=>bx us hl fun _=>rfl
  have vD:=ME.df (ps:=["text","start"]) X G0 fun _ _ _ _ _ _ us hl=>dw us hl fun _ _=>rfl
  have qB:=MF.df (ps:=["text"]) X G0 fun _ _ _ _ _ _ us hl=>bx us hl fun _=>rfl
  have nv:=MG.df (ps:=["text","start","deep"]) X G0 fun _ _ _ _ _ _ us hl=>gJ us hl fun _ _ _=>rfl
  have qC:=MH.df (ps:=["text","start","deep"]) X G0 fun _ _ _ _ _ _ us hl=>gJ us hl fun _ _ _=>rfl
  have qD:=MI.df (ps:=["text"]) X G0 fun _ _ _ _ _ _ us hl=>bx us hl fun _=>rfl
  have vE:=MJ.df (ps:=["_law_script","_law_k"]) X G0 fun _ _ _ _ _ _ us hl=>dw us hl fun _ _=>rfl
  have vF:=MK.df (ps:=["_law_cell_here","_law_k","_law_many"]) X G0 fun _ _ _ _ _ _ us hl=>gJ us hl fun _ _ _=>rfl
  have qE:=ML.df (ps:=["_law_cell_here","_law_k","_law_half"]) X G0 fun _ _ _ _ _ _ us hl=>gJ us hl fun _ _ _=>rfl
  have yB:=MM.df (ps:=["_law_cell_here","_law_first","_law_half"]) X G0 fun _ _ _ _ _ _ us hl=>gJ us hl fun _ _ _=>rfl
  have lX:=MN.df (ps:=["_law_row_here"]) X G0 fun _ _ _ _ _ _ us hl=>bx us hl fun _=>rfl
  have qF:=MO.df (ps:=["_law_row_here","_law_first","_law_half"]) X G0 fun _ _ _ _ _ _ us hl=>gJ us hl fun _ _ _=>rfl
  have qG:=MP.df (ps:=["_law_found"]) X G0 fun _ _ _ _ _ _ us hl=>bx us hl fun _=>rfl
  have vG:=MQ.df (ps:=["_law_cell_here"]) X G0 fun _ _ _ _ _ _ us hl=>bx us hl fun _=>rfl
  have qH:=MR.df (ps:=["_law_figures"]) X G0 fun _ _ _ _ _ _ us hl=>bx us hl fun _=>rfl
  have lY:=MS.df (ps:=["_law_text_here"]) X G0 fun _ _ _ _ _ _ us hl=>bx us hl fun _=>rfl
  have tK:=MT.df (ps:=["_law_script","_law_at","_law_count","_law_wide"]) X G0 fun _ _ _ _ _ _ us hl=>Co us hl fun _ _ _ _=>rfl
  have tL:=MU.df (ps:=["_law_found","_law_due_here"]) X G0 fun _ _ _ _ _ _ us hl=>dw us hl fun _ _=>rfl
  have qI:=MV.df (ps:=["_law_text_here","_law_cell_here"]) X G0 fun _ _ _ _ _ _ us hl=>dw us hl fun _ _=>rfl
  have tM:=MW.df (ps:=["_law_e"]) X G0 fun _ _ _ _ _ _ us hl=>bx us hl fun _=>rfl
  have tN:=MX.df (ps:=["_law_text_here"]) X G0 fun _ _ _ _ _ _ us hl=>bx us hl fun _=>rfl
  have vH:=MY.df (ps:=["_law_stack_here"]) X G0 fun _ _ _ _ _ _ us hl=>bx us hl fun _=>rfl
  have yC:=MZ.df (ps:=["_law_cell_here"]) X G0 fun _ _ _ _ _ _ us hl=>bx us hl fun _=>rfl
  have tO:=M0.df (ps:=["_law_script"]) X G0 fun _ _ _ _ _ _ us hl=>bx us hl fun _=>rfl
  have yD:=M1.df (ps:=["_law_text_here"]) X G0 fun _ _ _ _ _ _ us hl=>bx us hl fun _=>rfl
  have QV:=zk (st:=iW) M4 M5 M6
  refine⟨PySem.W.fnOf "law" "law" (dQ iW) (cc iW) (ar iW) .none JP JQ JR JO Gm JS,fun s v=>.of_eq rfl,fun base _ _=>?_⟩
  have vI:=sV (P:=l.prog) (w:=w) (base:=base) vB T
  have Gy:=CB (P:=l.prog) (w:=w) (base:=base) Gx T
  have ny:=lK (P:=l.prog) (w:=w) (base:=base) nr T
  have nB:=lM (P:=l.prog) (w:=w) (base:=base) nu T
  have vJ:=tm (P:=l.prog) (w:=w) (base:=base) vD T
  have lZ:=tw (P:=l.prog) (w:=w) (base:=base) vE T
  have iF:=tD (P:=l.prog) (w:=w) (base:=base) vF T
  have l0:=j7 (P:=l.prog) (w:=w) (base:=base) lX T
  have qJ:=mT (P:=l.prog) (w:=w) (base:=base) qF T
  have qK:=mW (P:=l.prog) (w:=w) (base:=base) qG T
  have vK:=tF (P:=l.prog) (w:=w) (base:=base) vG T
  have qL:=mZ (P:=l.prog) (w:=w) (base:=base) qH T
  have tP:=qg (P:=l.prog) (w:=w) (base:=base) tM T
  have yE:=vm (P:=l.prog) (w:=w) (base:=base) yC T
  have Ba:=xW (P:=l.prog) (w:=w) (base:=base) A8 T ⟨vI⟩
  have vL:=sZ (P:=l.prog) (w:=w) (base:=base) vC T ⟨ny⟩
  have qM:=mG (P:=l.prog) (w:=w) (base:=base) qA T ⟨nB⟩
  have i7:=mR (P:=l.prog) (w:=w) (base:=base) qE T ⟨iF⟩
  have l4:=ka (P:=l.prog) (w:=w) (base:=base) lY T ⟨qL⟩
  have qN:=nh (P:=l.prog) (w:=w) (base:=base) qI T ⟨iF,vK⟩
  have yF:=u7 (P:=l.prog) (w:=w) (base:=base) yy T ⟨Ba⟩
  have Bb:=xZ (P:=l.prog) (w:=w) (base:=base) A9 T ⟨Gy,vL⟩
  have yG:=vh (P:=l.prog) (w:=w) (base:=base) yB T ⟨i7⟩
  have yH:=vt (P:=l.prog) (w:=w) (base:=base) yD T ⟨qJ,l4⟩
  have yI:=vc (P:=l.prog) (w:=w) (base:=base) yA T ⟨yF⟩
  have tQ:=pY (P:=l.prog) (w:=w) (base:=base) tK T ⟨lZ,iF,i7,yG⟩
  have tR:=pU (P:=l.prog) (w:=w) (base:=base) tJ T ⟨yI,Bb,qM⟩
  have qO:=mK (P:=l.prog) (w:=w) (base:=base) qB T ⟨tR⟩
  have tS:=qb (P:=l.prog) (w:=w) (base:=base) tL T ⟨qK⟩ 9
  have vM:=tI (P:=l.prog) (w:=w) (base:=base) vH T ⟨l0⟩ 9
  have tU:=qp (P:=l.prog) (w:=w) (base:=base) tO T ⟨lZ,tQ,qN,vM,yE⟩
  have qP:=nk (P:=l.prog) (w:=w) (base:=base) qC nv T ⟨vJ,qO⟩ 9
  have qQ:=mO (P:=l.prog) (w:=w) (base:=base) qD T ⟨qP⟩
  have tV:=qj (P:=l.prog) (w:=w) (base:=base) tN T ⟨qQ,tP⟩
  exact Gk QV T ⟨tS,tV,tU,yH⟩
end Law
open PySem PySem.W PyProof.Rows
set_option maxRecDepth 100000 in
theorem PySem.Challenge.cw_tuningyard_k74_no_stack_holds : PySem.Challenge.rw_tuningyard_k74_no_stack.Holds := by
 w_on;o_law;k_head;(case hw=>w_witness2)
 k_fill
 refine L2.zj (l:=PySem.Challenge.rw_tuningyard_k74_no_stack) (n:=63) (k:=28) (x:="_law_script") (CX:=L2.Bj) (sp:=L2.zw) rfl (by decide) rfl ⟨rfl,by decide,by decide⟩ (fun w h Y=>kIn_of Y) ?F (fun _ _ a ns hl _ hS=>⟨a,ns,rfl,hS,hl,fun _=>rfl⟩) fun _ _ _ _ z=>z
 case F =>
  intro w mg fa h KX G HP
  refine' Law.all_mk KX G HP ?a0 ?a1 ?a2 ?a3 ?a4 ?a5 ?a6 ?a7 ?a8 ?a9 ?MD ?ME ?MF ?MG ?MH ?MI ?MJ ?MK ?ML ?MM ?MN ?MO ?MP ?MQ ?MR ?MS ?MT ?MU ?MV ?MW ?MX ?MY ?MZ ?M0 ?M1 ?M3 ?M4 ?M5 ?M6 ?AZ ?A0 ?lS ?lT ?lU ?lV ?dM ?fB ?gz ?qv ?d7 ?fC ?fD ?fE ?gh ?jD ?gL ?gM ?jE ?jF ?jG ?jH ?jI ?jJ ?jK ?gi ?jL ?gN ?gO ?jM ?jN ?jO ?jP ?jQ ?jR ?jS ?ck ?iv ?fF ?fG ?iw ?iy ?iz ?iA ?iB ?iC ?iD ?bt ?bV ?bW ?cD ?cm ?cp ?bH ?cE ?bI ?cq ?cu ?bO ?bC ?bP ?bD ?bq ?iE ?lW ?fH ?A1 ?A2 ?vz ?A3 ?fI ?A4 ?vA ?A5 ?qw ?A6 ?qz ?A7
  case a0|a1|a2|a3|a4|a5|a6|a7|a8|a9|MD|ME|MF|MG|MH|MI|MJ|MK|ML|MM|MN|MO|MP|MQ|MR|MS|MT|MU|MV|MW|MX|MY|MZ|M0|M1=>refine' L2.FG ?a ?l ?c ?k;case a|l|c|k=>k_is
  case M3|M4|M5|M6|AZ|A0|lS|lT|lU|lV|dM|fB|gz|qv|d7|fC|fD|fE|gh|jD|gL|gM|jE|jF|jG|jH|jI|jJ=>k_is
  case jK=>k_exc
  case gi|jL|gN|gO|jM|jN|jO|jP|jQ|jR=>k_is
  case jS=>k_exc
  case ck|iv|fF|fG|iw|iy|iz|iA|iB|iC=>k_is
  case iD=>k_exc
  case bt|bV|bW=>k_is
  case cD=>decide
  case cm=>k_is
  case cp=>decide
  case bH=>k_is
  case cE=>decide
  case bI|cq=>k_is
  case cu=>decide
  case bO=>k_is
  case bC=>decide
  case bP=>k_is
  case bD=>decide
  case bq|iE|lW|fH|A1|A2|vz|A3|fI|A4|vA|A5|qw|A6|qz|A7=>k_is
