import PyProof.Rows.All
import Wide.All
import OpenK.AllK
import Wide.FinOn
import Lean
import PyProof.EqAt
import PyProof.EqKinds
import PyProof.TupleCall
import PyProof.CompMap
import PyProof.ZipIter
import PyProof.TupleIter
import PyProof.ExcAttrAll.ValueError
import KE.KSortKey
import KE.KRevIter
import KE.KLam
import KE.KNestM
import PyProof.Rows.Range3
import PyProof.EnumMake
import PyProof.JoinWalk
import PyProof.Rows.StrSplitJoin
import PyProof.Rows.StrWeight2
import PyProof.StrOps2
import KE.KSortTup
import KE.KMinKey
import PyProof.ListRange
import PyProof.Rows.StrCountLaw
import PyProof.Rows.SetFrom
import PyProof.Rows.FactsT2
import PyProof.StrLawsTight
import PyProof.StrLawsChain
import PyProof.Rows.StrItems
import KE.KIntText
import PyProof.StrLawsFirst
import PyProof.StrBlockL
import PyProof.Rows.StrNews2
import PyProof.StrWalks
import PySem.Challenge.RW_tuningyard_k58_whole_same_tunings
set_option Elab.async false
set_option linter.all false
set_option maxRecDepth 100000
noncomputable section
open PySem.W (CodeHd Frag InitBack InstAt Looks OpenLaw callWith_K callWith_K0 cellsFrom_some clsIn codeIn emptyDict excIn findCls findIn fnOf handedIn hasDictIn instObj isFn keepIn kia_one kitOne kitx_dict kitx_list kitx_tuple lookIn looks_findIn make_core makesIn makes_of methodCall_KW methodObj mg_none_of mg_of mroIn nsIn oi_run plainGet plainGet_of plainOver readsIn specialIn subIn tabIn takerIn takesIn typeIn)
open PyProof.Rows (boot_abs boot_all boot_bool boot_int boot_isinstance boot_list boot_max boot_min boot_sorted boot_sum boot_tuple callWith_type1)
open List (all_eq_true any_eq_true append_nil drop_zero ext_getElem filter_append forIn_cons forIn_nil getElem?_eq_getElem getElem?_eq_none getElem?_map getElem?_set getElem?_set_ne getElem?_set_self getElem_mem getElem_of_mem length_append length_cons length_drop length_map length_range length_replicate length_set length_singleton length_take lookup_cons map_append map_congr_left map_cons map_eq_nil_iff map_id map_map map_nil map_take mem_append mem_append_left mem_append_right mem_cons mem_cons_of_mem mem_cons_self mem_filter mem_filterMap mem_map mem_of_getElem? mem_of_mem_drop mem_of_mem_take mem_or_eq_of_mem_set mem_range mem_singleton nodup_cons not_mem_nil of_mem_zip pairwise_cons pairwise_map range_succ size_toArray sum_cons take_add_one take_length take_of_length_le zipWith_cons_cons)
open Nat (add_le_add add_mul le_add_right le_of_ble_eq_true le_of_eq le_succ le_succ_of_le lt_of_le_of_lt lt_succ_self lt_trans min_eq_left mul_add mul_assoc mul_le_mul mul_le_mul_left mul_le_mul_right mul_pos ne_of_lt not_lt_zero one_mul pow_add pow_le_pow_right pow_lt_pow_right pow_succ sub_zero two_pow_pos zero_le)
open Int (dvd_refl dvd_sub dvd_zero emod_lt_of_pos emod_nonneg gcd_dvd_left gcd_dvd_right mul_eq_zero mul_neg mul_sub mul_zero natAbs_add_le natAbs_mul natAbs_sub_le ofNat_inj sub_add_cancel sub_mul sub_self toNat_natCast zero_add zero_dvd zero_mul)
section
open PySem PySem.Spec PyProof.Rows
abbrev afV:=@Heap.get?_push_of_some
abbrev afW:=@wpAny_bind
abbrev afX:=@List.getElem?_eq_some_iff
abbrev afY:=@Heap.lt_size
abbrev afZ:=@Heap.get?_push_size
abbrev af0:=@Nat.le_trans
abbrev af1:=@Nat.le_refl
abbrev af2:=@Nat.le_of_lt
abbrev af3:=@List.getElem?_append_left
abbrev af4:=@List.getElem?_append_right
abbrev af5:=@Option.some.inj
abbrev af6:=@Value.ref.inj
abbrev af7:=@of_decide_eq_true
abbrev af8:=@of_decide_eq_false
abbrev af9:=@decide_eq_false
abbrev aga:=@decide_eq_true
abbrev agb:=@Option.isSome_iff_exists
abbrev agc:=@wpAny_pure
abbrev agd:=@wpAny_mono
abbrev age:=@List.length_filter_le
abbrev agf:=@Int.fdiv_eq_ediv_of_nonneg
abbrev agg:=@getElem?_eq_getElem
abbrev agh:=@mem_append_right
abbrev agi:=@mem_append_left
abbrev agj:=@mem_singleton
abbrev agk:=@mem_append
abbrev agl:=@mem_of_getElem?
abbrev agm:=@length_map
abbrev agn:=@length_append
abbrev ago:=@length_singleton
abbrev agp:=@mem_cons_of_mem
abbrev agq:=@mem_cons
abbrev agr:=@mem_map
abbrev ags:=@mem_filter
abbrev agt:=@pow_le_pow_right
abbrev agu:=@lt_of_le_of_lt
abbrev agv:=@mul_le_mul_right
abbrev agw:=@mul_le_mul
abbrev agx:=@length_range
abbrev agy:=@mem_range
abbrev agz:=@take_length
abbrev agA:=@length_take
abbrev agB:=@size_toArray
abbrev agC:=@getElem?_map
abbrev agD:=@map_append
abbrev agE:=@map_map
abbrev agF:=@map_congr_left
abbrev agG:=@take_of_length_le
abbrev agH:=@natAbs_mul
abbrev agI:=@dvd_zero
abbrev agJ:=@mul_eq_zero
abbrev agK:=@zero_dvd
abbrev agL:=@two_pow_pos
abbrev agM:=@zero_le
abbrev agN:=@ne_of_lt
abbrev agO:=@le_of_ble_eq_true
abbrev agP:=@pairwise_cons
abbrev agQ:=@mem_of_mem_take
abbrev agR:=@getElem_mem
abbrev agS:=@getElem_of_mem
abbrev agT:=@toNat_natCast
abbrev agU:=@not_lt_zero
end
abbrev jz (l:List PySem.Str):=List.Nodup l
namespace L2
open PySem PySem.Spec PyProof.Rows
abbrev Key:=Sum Int Str
def L5:Key->Value->Bool
 | .inl k,v=>Value.isInt k v
 | .inr x,v=>Value.isStrOf x v
def Wu(w:World):Key->Int
 | .inl k=>hashInt k
 | .inr x=>hashStr w x
theorem dG:∀ {k:Key} {v:Value},L5 k v=true->(∃ i t,k=Sum.inl i/\v=Value.int i t)\/(∃ x t,k=Sum.inr x/\v=Value.str x t)
 | .inl i,v,h=>by
  obtain ⟨t,e⟩:=Value.isInt_shape (k:=i) (v:=v) h
  exact .inl ⟨i,t,rfl,e⟩
 | .inr x,v,h=>by
  obtain ⟨t,e⟩:=Value.isStrOf_shape (x:=x) (v:=v) h
  exact .inr ⟨x,t,rfl,e⟩
theorem M4(a b:Int):decide ((Sum.inl a:Key)=Sum.inl b)=(a == b):=by
 by_cases e:a=b
 ·subst e;simp
 ·have h:¬ (Sum.inl a:Key)=Sum.inl b:=fun q=>e (Sum.inl.inj q)
  rw [af9 h]
  exact (beq_eq_false_iff_ne.mpr e).symm
theorem M5(a b:Str):decide ((Sum.inr a:Key)=Sum.inr b)=decide (a=b):=by
 by_cases e:a=b
 ·subst e;simp
 ·have h:¬ (Sum.inr a:Key)=Sum.inr b:=fun q=>e (Sum.inr.inj q)
  rw [af9 h,af9 e]
theorem M6(a:Int)(b:Str):decide ((Sum.inl a:Key)=Sum.inr b)=false:=af9 (fun q=>nomatch q)
theorem M7(a:Str)(b:Int):decide ((Sum.inr a:Key)=Sum.inl b)=false:=af9 (fun q=>nomatch q)
def DL(prog:Program)(w:World):PySem.KeyKind prog w Key where
 is:=L5
 hash:=Wu w
 inj:=fun v a b ha hb=>by
  rcases dG ha with ⟨i,t,rfl,rfl⟩|⟨x,t,rfl,rfl⟩
  ·rcases dG hb with ⟨j,u,rfl,e⟩|⟨y,u,rfl,e⟩
   ·injection e with e1 _;rw [e1]
   ·exact nomatch e
  ·rcases dG hb with ⟨j,u,rfl,e⟩|⟨y,u,rfl,e⟩
   ·exact nomatch e
   ·injection e with e1 _;rw [e1]
 byValue:=fun k v h=>by
  rcases dG h with ⟨i,t,rfl,rfl⟩|⟨x,t,rfl,rfl⟩ <;> rfl
 pyHash:=fun hv h=>by
  rcases dG hv with ⟨i,t,rfl,rfl⟩|⟨x,t,rfl,rfl⟩
  ·exact wpAny_pyHash_int h
  ·exact wpAny_pyHash_str h
 eqBool:=fun hu hv h=>by
  rcases dG hu with ⟨i,t,rfl,rfl⟩|⟨x,t,rfl,rfl⟩
  ·rcases dG hv with ⟨j,u,rfl,rfl⟩|⟨y,u,rfl,rfl⟩
   ·rw [M4] at h;exact wpAny_eqBool_int h
   ·rw [M6] at h;exact SeqAt.EqAt.int_str i t y u _ _ _ _ h
  ·rcases dG hv with ⟨j,u,rfl,rfl⟩|⟨y,u,rfl,rfl⟩
   ·rw [M7] at h;exact SeqAt.EqAt.str_int x t j u _ _ _ _ h
   ·rw [M5] at h;exact wpAny_eqBool_str h
 «strs»:=fun k x t v h=>by
  rcases dG h with ⟨i,u,rfl,e⟩|⟨y,u,rfl,e⟩
  ·exact nomatch e
  ·injection e with e1 _
   subst e1
   cases v <;> rfl
inductive V where
 | fw|bl (b:Bool)|int (i:Int)|str (x:Str)|Gw (b:Array UInt8)|M8 (b:UInt64)|ref (a:Addr)|ty (n:String)
 deriving DecidableEq
def RelV:V->Value->Prop
 | .fw,u=>u=Value.none
 | .bl b,u=>u=Value.bool b
 | .int i,u=>∃ t,u=Value.int i t
 | .str x,u=>∃ t,u=Value.str x t
 | .Gw b,u=>∃ t,u=Value.bytes b t
 | .M8 b,u=>∃ t,u=Value.float b t
 | .ref a,u=>u=Value.ref a
 | .ty n,u=>u=Value.type n
abbrev Vals:List V->List Value->Prop:=Paired RelV
theorem Vals.length{xs:List V}{us:List Value}(r:Vals xs us):xs.length=us.length:=Paired.length r
theorem Vals.get:∀ {xs:List V} {us:List Value} {i:Nat} {x:V},Vals xs us->xs[i]?=some x->∃ u,us[i]?=some u/\RelV x u
 | _,_,_,_,.nil,e=>by simp at e
 | _,_,0,_,.cons r _,e=>by simp at e;subst e;exact⟨_,rfl,r⟩
 | _,_,i+1,x,.cons _ t,e=>by
  obtain ⟨u,h1,h2⟩:=Vals.get (i:=i) (x:=x) t (by simpa using e)
  exact⟨u,by simpa using h1,h2⟩
theorem Vals.set{x:V}{u:Value}(r:RelV x u):∀ {xs:List V} {us:List Value} (i:Nat),Vals xs us->Vals (xs.set i x) (us.set i u)
 | _,_,_,.nil=>.nil
 | _,_,0,.cons _ t=>.cons r t
 | _,_,i+1,.cons q t=>.cons q (Vals.set r i t)
theorem Vals.append:∀ {xs ys:List V} {us ws:List Value},Vals xs us->Vals ys ws->Vals (xs++ys) (us++ws)
 | _,_,_,_,.nil,s=>s
 | _,_,_,_,.cons r t,s=>.cons r (Vals.append t s)
theorem Vals.take:∀ {xs:List V} {us:List Value} (n:Nat),Vals xs us->Vals (xs.take n) (us.take n)
 | _,_,0,_=>.nil
 | _,_,_+1,.nil=>.nil
 | _,_,n+1,.cons r t=>.cons r (Vals.take n t)
theorem Vals.drop:∀ {xs:List V} {us:List Value} (n:Nat),Vals xs us->Vals (xs.drop n) (us.drop n)
 | _,_,0,r=>r
 | _,_,_+1,.nil=>.nil
 | _,_,n+1,.cons _ t=>Vals.drop n t
def xk:Option V->Option Value->Prop
 | some v,some u=>RelV v u
 | none,none=>True
 | _,_=>False
def KV{κ:Type}:List (κ×V)->List (κ×Value)->Prop:=Paired fun (p:κ×V) (q:κ×Value)=>p.1=q.1/\RelV p.2 q.2
def kV:Key->V
 | .inl i=>.int i
 | .inr x=>.str x
inductive HO where
 /-- a list -/
 | lst (xs:List V)
 /-- a tuple (never changes) -/
 | tup (xs:List V)
 /-- a dict QQ keys are ints and texts;one QQ keys are tuples of ints and texts (Qf empty one is both) -/
 | dK (rJ:List (Key×V))|dT (rJ:List (List Key×V))
 /-- a set of ints: its members,its size -/
 | set (S:Int->Bool) (n:Nat)
 /-- an instance of Qf class at C,its dict at dx,its attributes -/
 | ins (C dx:Addr) (fs:List (Str×V))
 /-- Qf dict of Qf instance at x -/
 | own (x:Addr)
 /-- Qf dict of an exception -/
 | xd (fs:List (Str×V))
 /-- a bound method,f of x -/
 | met (f x:Addr)
 /-- a range object lo,lo+1,.. below hi -/
 | Vn (lo hi:Int)
 /-- a QR that is known to Qf object (Qf Wv;a dict while a loop walks it): read,never written while it is so -/
 | yb (o:Obj) (u:HO)
 /-- a code QS table -/
 | xi (ps:Array Value)
 /-- any other QR,by what is true of its one object (a def of one's own: SetO a S n:=HO.ext fun h=>..) -/
 | ext (φ:Heap->Prop)
abbrev Hp:=Addr->Option HO
def upd(H:Hp)(a:Addr)(o:HO):Hp:=fun b=>if b=a then some o else H b
theorem aw{H:Hp}{a:Addr}{o:HO}:upd H a o a=some o:=by unfold upd;rw [if_pos rfl]
theorem aG{H:Hp}{a b:Addr}{o:HO}(h:b≠a):upd H a o b=H b:=by unfold upd;rw [if_neg h]
theorem bE{H:Hp}{a b:Addr}{o:HO}(h:H a=some o)(h':H b=none):a≠b:=by
 intro e;subst e;rw [h] at h';cases h'
section
variable (P:Program)(w:World)
def eG(H:Hp)(h:Heap)(a:Addr):HO->Prop
 | .lst xs=>xs.length<=sizeLine/\∃ (its:List Value) (n:Nat),Vals xs its/\h.get? a=some { cls:=.type "list",data:=.seq its.toArray n }
 | .tup xs=>xs.length<=sizeLine/\∃ its:List Value,Vals xs its/\IsTup h a its.toArray
 | .dK rJ=>rJ.length<=sizeLine/\(a == sysModules)=false/\∃ vs,KV rJ vs/\h.DictOf (DL P w) a vs
 | .dT rJ=>rJ.length<=sizeLine/\(a == sysModules)=false/\∃ xs:List (List Key×Addr×Value),
   Paired (fun (p:List Key×V) (q:List Key×Addr×Value)=>p.1=q.1/\H q.2.1=some (.tup (p.1.map kV))/\RelV p.2 q.2.2) rJ xs /\
   ∃ o es ep,h.get? a=some o/\o.ExactDict/\o.data=.dict es ep/\es.toList=xs.map (entryOfKey (tupleKind (DL P w)))/\(xs.map (·.1)).Nodup
 | .set S n=>h.SetOf (intKind P w) a S n
 | .ins C dx fs=>H dx=some (.own a)/\fs.length<=1000/\dx≠a/\h.get? a=some (instObj C dx) /\
   ∃ mA,h.Ns1 dx mA/\(∀ f,xk (fs.lookup f) (mA f))/\PySem.Within mA (fs.map (·.1))
 | .own _=>∃ o,h.get? a=some o
 | .xd fs=>∃ mA,h.Ns1 a mA/\∀ f,xk (fs.lookup f) (mA f)
 | .Vn lo hi=>∃ t u v,h.get? a=some { cls:=.type "range",data:=.fields #[.int lo t,.int hi u,.int 1 v] }
 | .yb o u=>h.get? a=some o/\eG H h a u
 | .xi ps=>h.get? a=some { cls:=.none,data:=.fields ps }
 | .met f x=>h.get? a=some (methodObj (.ref f) (.ref x))
 | .ext φ=>φ h/\(∃ o,h.get? a=some o)/\∀ h1 h2:Heap,φ h1->(∀ o,h1.get? a=some o->h2.get? a=some o)->φ h2
def kD(H:Hp)(h:Heap):Prop:=∀ a o,H a=some o->eG P w H h a o
end
section
variable {P:Program}{w:World}{H H':Hp}{h h':Heap}{a:Addr}{o:HO}
theorem eG.lt(x:eG P w H h a o):a<h.objs.size:=by
 cases o with
 | lst xs=>obtain ⟨_,_,_,_,e⟩:=x;exact afY e
 | tup xs=>obtain ⟨_,_,_,p⟩:=x;exact p.lt
 | dK rJ=>obtain ⟨_,_,_,_,o,_,_,e,_⟩:=x;exact afY e
 | dT rJ=>obtain ⟨_,_,_,_,o,_,_,e,_⟩:=x;exact afY e
 | set S n=>obtain ⟨o,_,_,_,e,_⟩:=x;exact afY e
 | ins C dx fs=>obtain ⟨_,_,_,e,_⟩:=x;exact afY e
 | own y=>obtain ⟨_,e⟩:=x;exact afY e
 | xd fs=>obtain ⟨_,⟨_,_,_,e,_⟩,_⟩:=x;exact afY e
 | Vn lo hi=>obtain ⟨_,_,_,e⟩:=x;exact afY e
 | yb ob u=>obtain ⟨e,_⟩:=x;exact afY e
 | xi ps=>exact afY (show h.get? a=some _ from x)
 | met f y=>exact afY (show h.get? a=some _ from x)
 | ext φ=>obtain ⟨_,⟨_,e⟩,_⟩:=x;exact afY e
theorem Paired.QT{α β:Type}{F G:α->β->Prop}:∀ {l₁:List α} {l₂:List β},Paired F l₁ l₂->(∀ a b,F a b->G a b)->Paired G l₁ l₂
 | _,_,.nil,_=>.nil
 | _,_,.cons r t,f=>.cons (f _ _ r) (Paired.QT t f)
theorem eG.oB(x:eG P w H h a o)(k:∀ b u,(b=a\/H b=some (.own a))->h.get? b=some u->h'.get? b=some u)
  (ho:∀ b,H b=some (.own a)->H' b=some (.own a)) (ht:∀ b xs,H b=some (.tup xs)->H' b=some (.tup xs)):eG P w H' h' a o:=by
 induction o with
 | lst xs=>obtain ⟨z,its,n,r,e⟩:=x;exact⟨z,its,n,r,k _ _ (.inl rfl) e⟩
 | tup xs=>obtain ⟨z,its,r,ob,e,c⟩:=x;exact⟨z,its,r,ob,k _ _ (.inl rfl) e,c⟩
 | dK rJ=>obtain ⟨z,y,vs,r,ob,es,ep,e,c⟩:=x;exact⟨z,y,vs,r,ob,es,ep,k _ _ (.inl rfl) e,c⟩
 | dT rJ =>
  obtain ⟨z,y,xs,r,ob,es,ep,e,c⟩:=x
  exact⟨z,y,xs,Paired.QT r fun p q z=>⟨z.1,ht _ _ z.2.1,z.2.2⟩,ob,es,ep,k _ _ (.inl rfl) e,c⟩
 | set S n=>obtain ⟨ob,es,ep,t,e,c⟩:=x;exact⟨ob,es,ep,t,k _ _ (.inl rfl) e,c⟩
 | ins C dx fs =>
  obtain ⟨d,z,ne,e,mA,⟨od,es,ep,e2,c⟩,r⟩:=x
  exact⟨ho _ d,z,ne,k _ _ (.inl rfl) e,mA,⟨od,es,ep,k _ _ (.inr d) e2,c⟩,r⟩
 | own y=>obtain ⟨ob,e⟩:=x;exact⟨ob,k _ _ (.inl rfl) e⟩
 | xd fs=>obtain ⟨mA,⟨od,es,ep,e,c⟩,r⟩:=x;exact⟨mA,⟨od,es,ep,k _ _ (.inl rfl) e,c⟩,r⟩
 | Vn lo hi=>obtain ⟨t,u,v,e⟩:=x;exact⟨t,u,v,k _ _ (.inl rfl) e⟩
 | yb ob u ih=>obtain ⟨e,q⟩:=x;exact⟨k _ _ (.inl rfl) e,ih q⟩
 | xi ps =>
  have e:h.get? a=some { cls:=.none,data:=.fields ps }:=x
  show h'.get? a=some { cls:=.none,data:=.fields ps }
  exact k a _ (.inl rfl) e
 | met f y =>
  have e:h.get? a=some (methodObj (.ref f) (.ref y)):=x
  show h'.get? a=some (methodObj (.ref f) (.ref y))
  exact k a _ (.inl rfl) e
 | ext φ=>obtain ⟨p,⟨o,e⟩,st⟩:=x;exact⟨st _ _ p fun o q=>k _ _ (.inl rfl) q,⟨o,k _ _ (.inl rfl) e⟩,st⟩
theorem kD.lt(x:kD P w H h)(e:H a=some o):a<h.objs.size:=(x a o e).lt
theorem kD.fresh(x:kD P w H h)(e:h.objs.size<=a):H a=none:=by
 cases q:H a with
 | none=>rfl
 | some u=>exact absurd (Nat.lt_of_lt_of_le (x.lt q) e) (Nat.lt_irrefl _)
theorem kD.kept(x:kD P w H h)(k:∀ b u,h.get? b=some u->h'.get? b=some u):kD P w H h':=fun a o e =>
 (x a o e).oB (fun b u _ q=>k b u q) (fun _ q=>q) fun _ _ q=>q
theorem kD.laid(x:kD P w H h)(k:∀ b u,h.get? b=some u->h'.get? b=some u)(hp:h.objs.size<=a)(new:eG P w (upd H a o) h' a o):kD P w (upd H a o) h':=fun b u e=>by
 have hn:=x.fresh hp
 by_cases hb:b=a
 ·subst hb;rw [aw] at e;cases e;exact new
 ·rw [aG hb] at e
  exact (x b u e).oB (fun c v _ q=>k c v q) (fun c q=>by rw [aG (bE q hn)];exact q) fun c xs q=>by rw [aG (bE q hn)];exact q
end
def Rd(H:Hp)(a:Addr)(u:HO):Prop:=H a=some u\/∃ o,H a=some (.yb o u)
theorem Rd.ok{P:Program}{w:World}{H:Hp}{h:Heap}{a:Addr}{u:HO}(r:Rd H a u)(x:kD P w H h):eG P w H h a u:=by
 rcases r with r|⟨o,r⟩
 ·exact x a u r
 ·obtain ⟨_,q⟩:=x a _ r
  exact q
def Vo:Option HO->Prop
 | some (.lst _)=>True
 | some (.dK _)=>True
 | some (.dT _)=>True
 | some (.set _ _)=>True
 | some (.ins _ _ _)=>True
 | some (.ext _)=>True
 | _=>False
section
variable {P:Program}{w:World}{H:Hp}{h h':Heap}{x e:Addr}{o':HO}
theorem kD.write(ok:kD P w H h)(mu:Vo (H x))(he:e=x\/H e=some (.own x))(k:∀ b u,b≠e->h.get? b=some u->h'.get? b=some u)(Qg:∃ u,h'.get? e=some u)
  (new:eG P w (upd H x o') h' x o'):kD P w (upd H x o') h':=fun b u q=>by
 have QU:∀ c y,H c=some (.own y)->c≠x:=fun c y r z=>by subst z;rw [r] at mu;exact mu
 have Ww:∀ c xs,H c=some (.tup xs)->c≠x:=fun c xs r z=>by subst z;rw [r] at mu;exact mu
 by_cases hb:b=x
 ·subst hb;rw [aw] at q;cases q;exact new
 ·rw [aG hb] at q
  by_cases EL:b=e
  ·have q':H b=some (.own x):=by
    rcases he with z|z
    ·exact absurd (EL.trans z) hb
    ·rw [EL];exact z
   rw [q] at q';cases q'
   obtain ⟨v,hv⟩:=Qg
   exact⟨v,by rw [EL];exact hv⟩
  ·refine (ok b u q).oB (fun c v hc r=>k c v ?_ r) (fun c r=>by rw [aG (QU c b r)];exact r) fun c xs r=>by rw [aG (Ww c xs r)];exact r
   rcases hc with rfl|hc
   ·exact EL
   ·rintro rfl
    rcases he with z|z
    ·exact QU c b hc z
    ·rw [hc] at z;cases z;exact hb rfl
end
structure Un(fs ex:List Addr)(H H':Hp)(h h':Heap):Prop where
 keep:∀ b o,h.get? b=some o->H b=none->b∉fs->b∉ex->h'.get? b=some o
 slot:∀ b o,h.get? b=some o->H b=none->b∈fs->b∉ex->∃ sl,h'.get? b=some { o with slots:=sl }
 free:∀ b o,h.get? b=some o->H b=none->b∉ex->H' b=none
 there:∀ b o,h.get? b=some o->b∉ex->∃ o',h'.get? b=some o'
 rM:∀ b xs,H b=some (.tup xs)->H' b=some (.tup xs)
 pN:∀ b o u,H b=some (.yb o u)->H' b=some (.yb o u)
 pO:∀ b ps,H b=some (.xi ps)->∃ more,H' b=some (.xi (ps++more))
section
variable {fs fs' ex ex':List Addr}{H H1 H2:Hp}{h h1 h2 h':Heap}{a x e:Addr}{o:HO}
theorem Un.any(u:Un fs ex H H1 h h1){b:Addr}{ob:Obj}(q:h.get? b=some ob)(n:H b=none)(hx:b∉ex):∃ sl,h1.get? b=some { ob with slots:=sl }:=by
 by_cases hb:b∈fs
 ·exact u.slot b ob q n hb hx
 ·exact⟨ob.slots,u.keep b ob q n hb hx⟩
theorem Un.kept(k:∀ b u,h.get? b=some u->h'.get? b=some u):Un fs ex H H h h' :=
 ⟨fun b ob q _ _ _=>k b ob q,fun b ob q _ _ _=>⟨ob.slots,k b ob q⟩,fun _ _ _ n _=>n,fun b ob q _=>⟨ob,k b ob q⟩,fun _ _ q=>q,fun _ _ _ q=>q,fun _ ps q=>⟨#[],by rw [q];simp⟩⟩
theorem Un.refl:Un fs ex H H h h:=Un.kept fun _ _ q=>q
theorem Un.laid(k:∀ b u,h.get? b=some u->h'.get? b=some u)(hp:h.objs.size<=a)(hn:H a=none):Un fs ex H (upd H a o) h h' where
 keep:=fun b u q _ _ _=>k b u q
 slot:=fun b u q _ _ _=>⟨u.slots,k b u q⟩
 free:=fun b u q n _=>by rw [aG (agN (Nat.lt_of_lt_of_le (afY q) hp))];exact n
 there:=fun b u q _=>⟨u,k b u q⟩
 rM:=fun b xs q=>by rw [aG (bE q hn)];exact q
 pN:=fun b u xs q=>by rw [aG (bE q hn)];exact q
 pO:=fun b ps q=>⟨#[],by rw [aG (bE q hn),q];simp⟩
theorem Un.write(mu:Vo (H x))(he:e=x\/H e=some (.own x))(k:∀ b u,b≠e->h.get? b=some u->h'.get? b=some u)(Qg:∃ u,h'.get? e=some u):Un fs ex H (upd H x o) h h':=by
 have hx:∀ b,H b=none->b≠x:=fun b n z=>by subst z;rw [n] at mu;exact mu
 have hb:∀ b,H b=none->b≠e:=fun b n z=>by
  subst z
  rcases he with r|r
  ·exact hx b n r
  ·rw [n] at r;cases r
 have hm:∀ b u,H b=some u->¬ Vo (some u)->b≠x:=fun b u q nm z=>by subst z;rw [q] at mu;exact nm mu
 refine⟨fun b u q n _ _=>k b u (hb b n) q,fun b u q n _ _=>⟨u.slots,k b u (hb b n) q⟩,fun b u q n _=>by rw [aG (hx b n)];exact n,fun b u q _=>?_,
  fun b xs q=>by rw [aG (hm b _ q fun z=>z)];exact q,fun b u xs q=>by rw [aG (hm b _ q fun z=>z)];exact q,fun b ps q=>⟨#[],by rw [aG (hm b _ q fun z=>z),q];simp⟩⟩
 by_cases EL:b=e
 ·subst EL;exact Qg
 ·exact⟨u,k b u EL q⟩
end
def Vp(h:Heap)(H:Hp):List Addr:=(List.range h.objs.size).filter fun a=>(H a).isSome
def uo(h:Heap)(H:Hp):Heap:=PySem.W.hideAll h (Vp h H)
theorem EM(h:Heap)(H:Hp):(uo h H).objs.size=h.objs.size:=PySem.W.hideAll_size _ _
theorem GS{h:Heap}{H:Hp}{b:Addr}{o:Obj}(e:h.get? b=some o)(n:H b=none):(uo h H).get? b=some o :=
 PySem.W.hideAll_get _ e fun hm=>by
  have q:(H b).isSome=true:=(ags.mp hm).2
  rw [n] at q;simp at q
theorem J0{h:Heap}{H:Hp}{b:Addr}{o:Obj}(e:(uo h H).get? b=some o):h.get? b=some o/\H b=none:=by
 have e':h.get? b=some o:=PySem.W.of_hideAll (Vp h H) e
 refine⟨e',?_⟩
 cases q:H b with
 | none=>rfl
 | some x =>
  have hm:b∈Vp h H:=ags.mpr ⟨agy.mpr (afY e'),by simp [q]⟩
  have z:(uo h H).get? b=none:=PySem.W.hideAll_none (Vp h H) hm
  rw [z] at e;cases e
def J1(g h:Heap)(L:Addr):List (Addr×Obj):=(List.range h.objs.size).filterMap fun a=>if a=L\/(g.get? a).isSome=true then none else (h.get? a).map fun o=>(a,o)
def rest(g h:Heap)(L d:Addr):List (Addr×Obj):=(J1 g h L).filter fun p=>decide (p.1≠d)
structure Mod(K:Frag)(mg:Str->Option Value)(base:Heap):Prop where
 L6:K.In base
 glob:base.Ns mainGlobals mg
 blt:∃ mb,base.Ns builtinsNs mb/\∀ x:Str,x≠"__name__"->mb x=bootBuiltins x
 nolimit:base.NoLimit
structure Cx where
 prog:Program
 w:World
 K:Frag
 mg:Str->Option Value
 base:Heap
 A:Around
 N:List Str
 s₀:Shared
 H₀:Hp
 env:Env
 outer:List Env
 stack:List Env
 ex:List Addr
 fn:Str->Bool
 calm:Bool
 pn:List (Addr×Obj)
 xe:Value->Shared->Prop
def yc(l:List Env):List Addr:=l.filterMap (·.frame)
abbrev Cx.fs(X:Cx):List Addr:=yc X.outer
def QV(sc:Scope)(x:Str):Prop:=sc.names.lookup x=some .local\/sc.names.lookup x=some .cell\/sc.names.lookup x=some .free
def Loc(sc:Scope)(x:Str):Prop:=sc.names.lookup x=some .local\/sc.names.lookup x=some .cell
def Look(env:Env)(h:Heap)(m:Str->Option Value)(x:Str)(u:Value):Prop :=
 (env.kindOf x=some .local/\m x=some u)\/((env.kindOf x=some .cell\/env.kindOf x=some .free)/\∃ c,env.cells.lookup x=some c/\h.IsCell c (some u))
structure Cx.Ok(X:Cx):Prop where
 mod:Mod X.K X.mg X.base
 kind:X.env.scope.kind=.function
 glob:X.env.globals=mainGlobals
 blt:X.env.builtins=builtinsNs
 above:X.s₀.heap.objs.size<=X.env.locals
 inj:∀ x y c,X.env.cells.lookup x=some c->X.env.cells.lookup y=some c->x=y
 has:∀ x,(X.env.kindOf x=some .cell\/X.env.kindOf x=some .free)->∃ c,X.env.cells.lookup x=some c
 QW:∀ x c,X.fn x=true->X.env.cells.lookup x=some c->X.s₀.heap.objs.size<=c
 hd:X.calm=true->X.A.handled=none
 frames:X.A.frames=some X.stack
 Vq:X.stack=X.outer\/(X.stack=X.env::X.outer/\X.env.frame=some X.env.locals)
 exf:∀ b∈X.ex,b≠X.env.locals/\∀ x c,X.env.cells.lookup x=some c->c≠b
 bs:∀ b o,X.base.get? b=some o->X.s₀.heap.get? b=some o/\X.H₀ b=none
 DM:X.base.objs.size<=X.s₀.heap.objs.size
 Ci:∀ b o,X.base.get? b=some o->b∉X.ex
 J2:∀ b∈X.ex,b∉X.fs
 uq:X.s₀.heap.FunFrames X.base X.outer
 M9:∀ b∈X.fs,X.H₀ b=none
structure Inv(X:Cx)(pins:List (Addr×Obj))(σ:List (Option V))(H:Hp)(s:Shared):Prop where
 ok:X.Ok
 os:s.os=X.s₀.os
 bare:AllBare s.gens
 base:Un X.fs X.ex X.H₀ H X.s₀.heap s.heap
 loc:∃ m,s.heap.Ns X.env.locals m/\∀ (i:Nat) (x:Str) (v:V),X.N[i]?=some x->σ[i]?=some (some v)->QV X.env.scope x->∃ u,RelV v u/\Look X.env s.heap m x u
 cell:∀ x c,X.env.cells.lookup x=some c->∃ v,s.heap.IsCell c v
 free:H X.env.locals=none
 iY:∀ x c,X.env.cells.lookup x=some c->H c=none
 pin:∀ p∈X.pn++pins,s.heap.get? p.1=some p.2/\H p.1=none/\p.1≠X.env.locals/\p.1∉X.fs/\∀ v,p.2.data≠.cell v
 cA:kD X.prog X.w H s.heap
 len:σ.length=X.N.length
section
variable {X:Cx}{pins:List (Addr×Obj)}{σ:List (Option V)}{H H':Hp}{s:Shared}{h':Heap}
theorem Cx.Ok.Wx(ok:X.Ok){b:Addr}{o:Obj}(e:X.base.get? b=some o):b∉X.fs:=fun hb=>by
 have:=(ok.uq.mem hb).1
 rw [e] at this;cases this
theorem Inv.bs(I:Inv X pins σ H s):∀ b o,X.base.get? b=some o->s.heap.get? b=some o/\H b=none:=fun b o e =>
 ⟨I.base.keep b o (I.ok.bs b o e).1 (I.ok.bs b o e).2 (I.ok.Wx e) (I.ok.Ci b o e),I.base.free b o (I.ok.bs b o e).1 (I.ok.bs b o e).2 (I.ok.Ci b o e)⟩
theorem Inv.bk(I:Inv X pins σ H s):∀ b o,X.base.get? b=some o->s.heap.get? b=some o:=fun b o e=>(I.bs b o e).1
theorem Inv.mod(I:Inv X pins σ H s):Mod X.K X.mg X.base:=I.ok.mod
theorem Inv.mC(I:Inv X pins σ H s):X.K.In s.heap:=I.ok.mod.L6.keeps I.bk
theorem Inv.nolimit(I:Inv X pins σ H s):s.heap.NoLimit:=I.ok.mod.nolimit.keeps I.bk
theorem Inv.lt(I:Inv X pins σ H s):X.env.locals<s.heap.objs.size:=let ⟨_,hn,_⟩:=I.loc;hn.lt
theorem Inv.sz(I:Inv X pins σ H s):X.s₀.heap.objs.size<=s.heap.objs.size:=af0 I.ok.above (af2 I.lt)
theorem Inv.Wy(I:Inv X pins σ H s){a:Addr}(h:s.heap.objs.size<=a):a∉X.fs:=fun hb=>by
 obtain ⟨_,o,ho,_⟩:=I.ok.uq.mem hb
 exact absurd (Nat.lt_of_lt_of_le (afY ho) (af0 I.sz h)) (Nat.lt_irrefl _)
theorem Inv.J3(I:Inv X pins σ H s):∀ x c,X.env.cells.lookup x=some c->c≠X.env.locals:=fun x c e z=>by
 obtain ⟨v,o,ho,hd⟩:=I.cell x c e
 obtain ⟨m,⟨o',es,ep,Na,Wz,_⟩,_⟩:=I.loc
 rw [z,Na] at ho;cases ho;rw [Wz] at hd;cases hd
theorem Inv.uq(I:Inv X pins σ H s):s.heap.FunFrames X.base X.outer:=by
 have all:∀ (l:List Env),(∀ b∈yc l,b∈X.fs)->X.s₀.heap.FunFrames X.base l->s.heap.FunFrames X.base l:=by
  intro l
  induction l with
  | nil=>intro _ _;trivial
  | cons env r ih =>
   intro hs hl
   obtain ⟨hk,⟨L,o,hf,hn,ho,hd⟩,hr⟩:=hl
   have hL:L∈X.fs:=hs L (by unfold yc;rw [List.filterMap_cons,hf];exact mem_cons_self)
   obtain ⟨sl,e⟩:=I.base.slot L o ho (I.ok.M9 L hL) hL fun z=>I.ok.J2 L z hL
   exact⟨hk,⟨L,_,hf,hn,e,hd⟩,ih (fun b hb=>hs b (by unfold yc;rw [List.filterMap_cons,hf];exact agp _ hb)) hr⟩
 exact all X.outer (fun _ hb=>hb) I.ok.uq
theorem Inv.stack(I:Inv X pins σ H s):s.heap.FunFrames X.base X.stack:=by
 rcases I.ok.Vq with e|⟨e,hf⟩
 ·rw [e];exact I.uq
 ·rw [e]
  obtain ⟨m,hn,_⟩:=I.loc
  refine .cons (by rw [I.ok.kind];decide) hf hn ?_ I.uq
  exact Heap.get?_none_of_le (af0 I.ok.DM I.ok.above)
theorem Inv.rN(I:Inv X pins σ H s):∀ b∈yc X.stack,b∈X.env.locals::X.fs:=fun b hb=>by
 rcases I.ok.Vq with e|⟨e,hf⟩
 ·rw [e] at hb;exact agp _ hb
 ·rw [e] at hb
  unfold yc at hb
  rw [List.filterMap_cons,hf] at hb
  exact hb
theorem Inv.nI(I:Inv X pins σ H s):∀ b∈yc X.stack,H b=none:=fun b hb=>by
 rcases agq.mp (I.rN b hb) with e|hb
 ·rw [e];exact I.free
 ·obtain ⟨_,o,ho,_⟩:=I.ok.uq.mem hb
  exact I.base.free b o ho (I.ok.M9 b hb) fun z=>I.ok.J2 b z hb
theorem Inv.step{g':Array GenState}{t':Nat}{d':Drawn}{ch:List Addr}(I:Inv X pins σ H s)
  (B9:∀ b∈ch,(b∈X.ex\/X.s₀.heap.objs.size<=b)/\b≠X.env.locals/\(∀ x c,X.env.cells.lookup x=some c->c≠b)/\∀ p∈X.pn++pins,p.1≠b)
  (keep:∀ b o,b≠X.env.locals->b∉X.fs->b∉ch->s.heap.get? b=some o->H b=none->h'.get? b=some o)
  (slot:∀ b o,b≠X.env.locals->b∈X.fs->b∉ch->s.heap.get? b=some o->H b=none->∃ sl,h'.get? b=some { o with slots:=sl }) (free:∀ b o,b∉ch->s.heap.get? b=some o->H b=none->H' b=none)
  (there:∀ b o,b∉ch->s.heap.get? b=some o->∃ o',h'.get? b=some o')
  (rM:∀ b xs,H b=some (.tup xs)->H' b=some (.tup xs)) (pN:∀ b o u,H b=some (.yb o u)->H' b=some (.yb o u)) (pO:∀ b ps,H b=some (.xi ps)->∃ more,H' b=some (.xi (ps++more)))
  (ns:∀ m,s.heap.Ns X.env.locals m->h'.Ns X.env.locals m) (cA:kD X.prog X.w H' h') (hg:AllBare g') :
  Inv X pins σ H' { s with heap:=h',gens:=g',drawn:=d',toks:=t' }:=by
 have EN:∀ b o,X.s₀.heap.get? b=some o->b≠X.env.locals:=fun b o e=>agN (Nat.lt_of_lt_of_le (afY e) I.ok.above)
 have J4:∀ b o,X.s₀.heap.get? b=some o->b∉X.ex->b∉ch:=fun b o e hx hb=>by
  rcases (B9 b hb).1 with z|z
  ·exact hx z
  ·exact absurd (Nat.lt_of_lt_of_le (afY e) z) (Nat.lt_irrefl _)
 have cellK:∀ x c,X.env.cells.lookup x=some c->∀ v,s.heap.IsCell c v->h'.IsCell c v:=fun x c e v ⟨o,ho,hd⟩=>by
  have GU:c∉ch:=fun z=>(B9 c z).2.2.1 x c e rfl
  by_cases hc:c∈X.fs
  ·obtain ⟨sl,q⟩:=slot c o (I.J3 x c e) hc GU ho (I.iY x c e)
   exact⟨_,q,hd⟩
  ·exact⟨o,keep c o (I.J3 x c e) hc GU ho (I.iY x c e),hd⟩
 refine⟨I.ok,I.os,hg,⟨fun b o e n hb hx=>?_,fun b o e n hb hx=>?_,fun b o e n hx=>?_,fun b o e hx=>?_,fun b xs e=>rM b xs (I.base.rM b xs e),fun b o xs e=>pN b o xs (I.base.pN b o xs e),fun b ps e=>?_⟩,?_,fun x c e=>?_,?_,fun x c e=>?_,fun p hp=>?_,cA,I.len⟩
 ·exact keep b o (EN b o e) hb (J4 b o e hx) (I.base.keep b o e n hb hx) (I.base.free b o e n hx)
 ·obtain ⟨sl,e1⟩:=I.base.slot b o e n hb hx
  obtain ⟨Qh,e2⟩:=slot b _ (EN b o e) hb (J4 b o e hx) e1 (I.base.free b o e n hx)
  exact⟨Qh,e2⟩
 ·obtain ⟨o',e1⟩:=I.base.there b o e hx
  exact free b o' (J4 b o e hx) e1 (I.base.free b o e n hx)
 ·obtain ⟨o',e1⟩:=I.base.there b o e hx
  exact there b o' (J4 b o e hx) e1
 ·obtain ⟨m1,e1⟩:=I.base.pO b ps e
  obtain ⟨m2,e2⟩:=pO b _ e1
  exact⟨m1++m2,by rw [e2,Array.append_assoc]⟩
 ·obtain ⟨m,hn,hl⟩:=I.loc
  refine⟨m,ns m hn,fun i x v e1 e2 e3=>?_⟩
  obtain ⟨u,r,l⟩:=hl i x v e1 e2 e3
  refine⟨u,r,?_⟩
  rcases l with l|⟨k,c,e,z⟩
  ·exact .inl l
  ·exact .inr ⟨k,c,e,cellK x c e _ z⟩
 ·obtain ⟨v,z⟩:=I.cell x c e
  exact⟨v,cellK x c e v z⟩
 ·obtain ⟨m,⟨o,_,_,ho,_⟩,_⟩:=I.loc
  exact free _ o (fun z=>(B9 _ z).2.1 rfl) ho I.free
 ·obtain ⟨v,o,ho,hd⟩:=I.cell x c e
  exact free c o (fun z=>(B9 c z).2.2.1 x c e rfl) ho (I.iY x c e)
 ·obtain ⟨e,n,ne,nf,d⟩:=I.pin p hp
  have GU:p.1∉ch:=fun z=>(B9 p.1 z).2.2.2 p hp rfl
  exact⟨keep p.1 p.2 ne nf GU e n,free p.1 p.2 GU e n,ne,nf,d⟩
theorem Inv.un{t':Nat}(I:Inv X pins σ H s)(u:Un X.fs [] H H' s.heap h')(cA:kD X.prog X.w H' h'):Inv X pins σ H' { s with heap:=h',toks:=t' }:=by
 obtain ⟨m,⟨o,es,ep,ho,r⟩,_⟩:=id I.loc
 obtain ⟨sl,hL⟩:=u.any ho I.free (by simp)
 exact I.step (g':=s.gens) (d':=s.drawn) (ch:=[]) (fun _ z=>nomatch z) (fun b o _ hb _ e n=>u.keep b o e n hb (by simp)) (fun b o _ hb _ e n=>u.slot b o e n hb (by simp)) (fun b o _ e n=>u.free b o e n (by simp)) (fun b o _ e=>u.there b o e (by simp)) u.rM u.pN u.pO (fun m' hm=>by
  obtain ⟨o',WA,WB,Na,r'⟩:=hm
  rw [ho] at Na;cases Na
  exact⟨_,WA,WB,hL,r'⟩) cA I.bare
theorem Inv.call{g':Array GenState}{t':Nat}{d':Drawn}{ch:List Addr}(I:Inv X pins σ H s)(u:Un (yc X.stack) ch H H' s.heap h')(cA:kD X.prog X.w H' h')(hg:AllBare g')
  (B9:∀ b∈ch,(b∈X.ex\/X.s₀.heap.objs.size<=b)/\b≠X.env.locals/\(∀ x c,X.env.cells.lookup x=some c->c≠b)/\∀ p∈X.pn++pins,p.1≠b) :
  Inv X pins σ H' { s with heap:=h',gens:=g',drawn:=d',toks:=t' }:=by
 obtain ⟨m,⟨o,es,ep,ho,r⟩,_⟩:=id I.loc
 obtain ⟨sl,hL⟩:=u.any ho I.free fun z=>(B9 _ z).2.1 rfl
 exact I.step (ch:=ch) B9 (fun b o hL hb hc e n=>u.keep b o e n (fun z=>(agq.mp (I.rN b z)).elim hL hb) hc) (fun b o _ _ hc e n=>u.any e n hc) (fun b o hc e n=>u.free b o e n hc) (fun b o hc e=>u.there b o e hc) u.rM u.pN u.pO (fun m' hm=>by
  obtain ⟨o',WA,WB,Na,r'⟩:=hm
  rw [ho] at Na;cases Na
  exact⟨_,WA,WB,hL,r'⟩) cA hg
theorem Inv.turned{t':Nat}{it:Addr}(I:Inv X pins σ H s)(k:∀ b o,b≠it->s.heap.get? b=some o->h'.get? b=some o)(hn:H it=none)(hL:it≠X.env.locals)
  (h1:it∈X.ex\/X.s₀.heap.objs.size<=it) (h2:∀ x c,X.env.cells.lookup x=some c->c≠it) (h3:∀ p∈X.pn++pins,p.1≠it):Inv X pins σ H { s with heap:=h',toks:=t' }:=by
 have nit:∀ b u,H b=some u->b≠it:=fun b u e z=>by rw [z,hn] at e;cases e
 refine I.step (g':=s.gens) (d':=s.drawn) (ch:=[it]) (fun b hb=>?_) (fun b o _ _ hc e _=>k b o (fun z=>hc (by simp [z])) e) (fun b o _ _ hc e _=>⟨o.slots,k b o (fun z=>hc (by simp [z])) e⟩) (fun _ _ _ _ n=>n)
  (fun b o hc e=>⟨o,k b o (fun z=>hc (by simp [z])) e⟩) (fun _ _ e=>e) (fun _ _ _ e=>e) (fun b ps e=>⟨#[],by rw [e];simp⟩) (fun m hm=>?_) (fun b u e=>?_) I.bare
 ·have e:b=it:=by simpa using hb
  subst e
  exact⟨h1,hL,h2,h3⟩
 ·obtain ⟨o,es,ep,ho,r⟩:=hm
  exact⟨o,es,ep,k _ o (Ne.symm hL) ho,r⟩
 ·refine (I.cA b u e).oB (fun c v hc q=>k c v ?_ q) (fun _ q=>q) fun _ _ q=>q
  rcases hc with z|z
  ·rw [z];exact nit b u e
  ·exact nit c _ z
theorem Inv.tok(I:Inv X pins σ H s)(t:Nat):Inv X pins σ H { s with toks:=t }:=I.un (h':=s.heap) (t':=t) Un.refl I.cA
theorem Inv.kept{t':Nat}(I:Inv X pins σ H s)(k:∀ b u,s.heap.get? b=some u->h'.get? b=some u):Inv X pins σ H { s with heap:=h',toks:=t' }:=I.un (Un.kept k) (I.cA.kept k)
theorem Inv.laid{a:Addr}{o:HO}{t':Nat}(I:Inv X pins σ H s)(k:∀ b u,s.heap.get? b=some u->h'.get? b=some u)(hp:s.heap.objs.size<=a)(new:eG X.prog X.w (upd H a o) h' a o) :
  Inv X pins σ (upd H a o) { s with heap:=h',toks:=t' }:=I.un (Un.laid k hp (I.cA.fresh hp)) (I.cA.laid k hp new)
theorem Inv.write{x e:Addr}{o:HO}{t':Nat}(I:Inv X pins σ H s)(mu:Vo (H x))(he:e=x\/H e=some (.own x))(k:∀ b u,b≠e->s.heap.get? b=some u->h'.get? b=some u)(Qg:∃ u,h'.get? e=some u)
  (new:eG X.prog X.w (upd H x o) h' x o):Inv X pins σ (upd H x o) { s with heap:=h',toks:=t' }:=I.un (Un.write mu he k Qg) (I.cA.write mu he k Qg new)
theorem Inv.kF{iZ:List (Addr×Obj)}(I:Inv X pins σ H s)(h:∀ p∈iZ,s.heap.get? p.1=some p.2/\H p.1=none/\p.1≠X.env.locals/\p.1∉X.fs/\∀ v,p.2.data≠.cell v):Inv X iZ σ H s :=
 ⟨I.ok,I.os,I.bare,I.base,I.loc,I.cell,I.free,I.iY,fun p hp=>(agk.mp hp).elim (fun z=>I.pin p (agi _ z)) (h p),I.cA,I.len⟩
theorem Au{N:List Str}(hN:N.Nodup){i j:Nat}{x:Str}(a:N[i]?=some x)(b:N[j]?=some x):i=j:=by
 obtain ⟨h1,e1⟩:=afX.mp a
 obtain ⟨h2,e2⟩:=afX.mp b
 exact (List.getElem_inj hN).mp (e1.trans e2.symm)
theorem rO{M:Model}{A:Around}{E:Value->Shared->Prop}{i:Nat}{x:Str}{v:V}{u:Value}{Q:Unit->Shared->Prop}(I:Inv X pins σ H s)(hN:X.N.Nodup)(hi:X.N[i]?=some x)(hx:Loc X.env.scope x)(r:RelV v u)
  (h:∀ s',Inv X pins (σ.set i (some v)) H s'->(∃ a,Heap.SameBut a s.heap s'.heap/\(a=X.env.locals\/X.env.cells.lookup x=some a))->Q () s') (hf:X.fn x=true\/X.env.scope.names.lookup x=some .local:=by first|exact .inl rfl|exact .inr rfl|assumption):wpAny M A (storeName X.env x u) Q E s:=by
 obtain ⟨m,hn,hl⟩:=id I.loc
 have WC:(X.env.scope.kind == .class || (X.env.scope.kind == .module && X.env.locals != X.env.globals))=false:=by rw [I.ok.kind];rfl
 have hiσ:i<σ.length:=by rw [I.len];exact (afX.mp hi).1
 have J3:=I.J3
 have tracked:∀ {a:Addr} {h':Heap},(∃ o,s.heap.get? a=some o/\H a=none)->Heap.SameBut a s.heap h'->kD X.prog X.w H h':=fun {a h'} ha hs b ob e=>by
  obtain ⟨_,_,vi⟩:=ha
  refine (I.cA b ob e).oB (fun c w' hc q=>(hs.2 c ?_).trans q) (fun _ q=>q) fun _ _ q=>q
  rintro rfl
  rcases hc with rfl|hc
  ·rw [vi] at e;cases e
  ·rw [vi] at hc;cases hc
 rcases hx with hk|hk
 ·refine wpAny_storeName_local hk hn (fun h' hn' hs=>?_) WC
  obtain ⟨oL,_,_,WE,_⟩:=id hn
  refine h _ ⟨I.ok,I.os,I.bare,⟨fun b o e n hb hx=>?_,fun b o e n hb hx=>?_,I.base.free,fun b o e hx=>?_,I.base.rM,I.base.pN,I.base.pO⟩,⟨_,hn',fun j y v' e1 e2 e3=>?_⟩,fun y c e=>?_,I.free,I.iY,fun p hp=>?_,tracked ⟨oL,WE,I.free⟩ hs,by simpa using I.len⟩ ⟨_,hs,.inl rfl⟩
  ·exact (hs.2 b (agN (Nat.lt_of_lt_of_le (afY e) I.ok.above))).trans (I.base.keep b o e n hb hx)
  ·obtain ⟨sl,e1⟩:=I.base.slot b o e n hb hx
   exact⟨sl,(hs.2 b (agN (Nat.lt_of_lt_of_le (afY e) I.ok.above))).trans e1⟩
  ·obtain ⟨o',e1⟩:=I.base.there b o e hx
   exact⟨o',(hs.2 b (agN (Nat.lt_of_lt_of_le (afY e) I.ok.above))).trans e1⟩
  ·by_cases hj:j=i
   ·subst hj
    rw [hi] at e1;cases e1
    rw [getElem?_set_self hiσ] at e2
    cases e2
    exact⟨u,r,.inl ⟨hk,by simp⟩⟩
   ·rw [getElem?_set_ne (Ne.symm hj)] at e2
    obtain ⟨u',r',q⟩:=hl j y v' e1 e2 e3
    refine⟨u',r',?_⟩
    rcases q with ⟨k,e⟩|⟨k,c,e,z⟩
    ·refine .inl ⟨k,?_⟩
     have:y≠x:=fun e=>hj (Au hN e1 (e ▸ hi))
     simp [this,e]
    ·exact .inr ⟨k,c,e,z.sameBut hs (J3 y c e)⟩
  ·obtain ⟨w',z⟩:=I.cell y c e
   exact⟨w',z.sameBut hs (J3 y c e)⟩
  ·obtain ⟨e,n,ne,nf,d⟩:=I.pin p hp
   exact⟨(hs.2 p.1 ne).trans e,n,ne,nf,d⟩
 ·have WG:X.fn x=true:=by
   rcases hf with z|z
   ·exact z
   ·rw [z] at hk;cases hk
  obtain ⟨c,hc⟩:=I.ok.has x (.inl hk)
  obtain ⟨w',z⟩:=I.cell x c hc
  refine wpAny_storeName_cell I.ok.kind hk hc z (fun h' Cj hs=>?_)
  obtain ⟨oc,QX,WH⟩:=id z
  refine h { s with heap:=h' } ⟨I.ok,I.os,I.bare,⟨fun b o e n hb hx=>?_,fun b o e n hb hx=>?_,I.base.free,fun b o e hx=>?_,I.base.rM,I.base.pN,I.base.pO⟩,⟨m,hn.sameBut hs (Ne.symm (J3 x c hc)),fun j y v' e1 e2 e3=>?_⟩,fun y c' e=>?_,I.free,I.iY,fun p hp=>?_,tracked ⟨oc,QX,I.iY x c hc⟩ hs,by simpa using I.len⟩ ⟨c,hs,.inr hc⟩
  ·exact (hs.2 b (agN (Nat.lt_of_lt_of_le (afY e) (I.ok.QW x c WG hc)))).trans (I.base.keep b o e n hb hx)
  ·obtain ⟨sl,e1⟩:=I.base.slot b o e n hb hx
   exact⟨sl,(hs.2 b (agN (Nat.lt_of_lt_of_le (afY e) (I.ok.QW x c WG hc)))).trans e1⟩
  ·obtain ⟨o',e1⟩:=I.base.there b o e hx
   exact⟨o',(hs.2 b (agN (Nat.lt_of_lt_of_le (afY e) (I.ok.QW x c WG hc)))).trans e1⟩
  ·by_cases hj:j=i
   ·subst hj
    rw [hi] at e1;cases e1
    rw [getElem?_set_self hiσ] at e2
    cases e2
    exact⟨u,r,.inr ⟨.inl hk,c,hc,Cj⟩⟩
   ·rw [getElem?_set_ne (Ne.symm hj)] at e2
    obtain ⟨u',r',q⟩:=hl j y v' e1 e2 e3
    refine⟨u',r',?_⟩
    rcases q with q|⟨k,c',e,z'⟩
    ·exact .inl q
    ·refine .inr ⟨k,c',e,z'.sameBut hs ?_⟩
     rintro rfl
     exact hj (Au hN e1 (I.ok.inj _ _ _ e hc ▸ hi))
  ·by_cases QY:c'=c
   ·subst QY;exact⟨_,Cj⟩
   ·obtain ⟨w2,z2⟩:=I.cell y c' e
    exact⟨w2,z2.sameBut hs QY⟩
  ·obtain ⟨e,n,ne,nf,d⟩:=I.pin p hp
   refine⟨(hs.2 p.1 ?_).trans e,n,ne,nf,d⟩
   intro q
   rw [q,QX] at e
   have q':oc=p.2:=af5 e
   exact d w' (by rw [<- q'];exact WH)
theorem Av{M:Model}{A:Around}{E:Value->Shared->Prop}{i:Nat}{x:Str}{v:V}{u:Value}{Q:Unit->Shared->Prop}(I:Inv X pins σ H s)(hN:X.N.Nodup)(hi:X.N[i]?=some x)(hx:Loc X.env.scope x)(r:RelV v u)
  (h:∀ s',Inv X pins (σ.set i (some v)) H s'->Q () s') (hf:X.fn x=true\/X.env.scope.names.lookup x=some .local:=by first|exact .inl rfl|exact .inr rfl|assumption):wpAny M A (storeName X.env x u) Q E s :=
 rO I hN hi hx r (fun s' I' _=>h s' I') hf
theorem Inv.DN{s':Shared}{ch:List Addr}(I:Inv X pins σ H s)(ho:s'.os=s.os)(u:Un (yc X.stack) ch H H' s.heap s'.heap)(cA:kD X.prog X.w H' s'.heap)(hg:AllBare s'.gens)
  (B9:∀ b∈ch,(b∈X.ex\/X.s₀.heap.objs.size<=b)/\b≠X.env.locals/\(∀ x c,X.env.cells.lookup x=some c->c≠b)/\∀ p∈X.pn++pins,p.1≠b):Inv X pins σ H' s':=by
 obtain ⟨h',g',d',t',o'⟩:=s'
 have e:o'=s.os:=ho
 subst e
 exact I.call (g':=g') (t':=t') (d':=d') u cA hg B9
end
abbrev XK:=Value->Option Addr->Hp->Prop
abbrev St:=List (Option V)
abbrev VK:=V->Hp->Prop
abbrev TE:=St->Hp->VK->Prop
abbrev TT:=St->Hp->(Bool->Hp->Prop)->Prop
abbrev TA:=St->Hp->(List V->Hp->Prop)->Prop
structure Ends where
 nx:St->Hp->Prop
 rt:VK
 bk:St->Hp->Prop:=fun _ _=>False
 ct:St->Hp->Prop:=fun _ _=>False
abbrev TS:=Ends->St->Hp->Prop
def EP(X:Cx)(pins:List (Addr×Obj))(σ:St)(Q:VK)(u:Value)(s':Shared):Prop:=∃ v H',Inv X pins σ H' s'/\RelV v u/\Q v H'
def TP(X:Cx)(pins:List (Addr×Obj))(σ:St)(Q:Bool->Hp->Prop)(b:Bool)(s':Shared):Prop:=∃ H',Inv X pins σ H' s'/\Q b H'
def AP(X:Cx)(pins:List (Addr×Obj))(σ:St)(Q:List V->Hp->Prop)(us:List Value)(s':Shared):Prop:=∃ vs H',Inv X pins σ H' s'/\Vals vs us/\Q vs H'
def SP(X:Cx)(pins:List (Addr×Obj))(D:Ends)(f:Flow)(s':Shared):Prop :=
 match f with
 | .next=>∃ σ' H',Inv X pins σ' H' s'/\D.nx σ' H'
 | .brk=>∃ σ' H',Inv X pins σ' H' s'/\D.bk σ' H'
 | .cont=>∃ σ' H',Inv X pins σ' H' s'/\D.ct σ' H'
 | .ret u=>∃ v σ' H',Inv X pins σ' H' s'/\RelV v u/\D.rt v H'
def PE(X:Cx)(e:Expr)(t:TE):Prop :=
 ∀ (pins:List (Addr×Obj)) (s:Shared) (σ:St) (H:Hp) (Q:VK),Inv X pins σ H s->t σ H Q->wpAny (model X.prog X.w) X.A (eval e X.env) (EP X pins σ Q) X.xe s
def PT(X:Cx)(e:Expr)(t:TT):Prop :=
 ∀ (pins:List (Addr×Obj)) (s:Shared) (σ:St) (H:Hp) (Q:Bool->Hp->Prop),Inv X pins σ H s->t σ H Q->wpAny (model X.prog X.w) X.A (isTrue e X.env (eval e X.env)) (TP X pins σ Q) X.xe s
def PW(X:Cx)(e:Expr)(t:TT):Prop :=
 ∀ (whole:Sem Value) (pins:List (Addr×Obj)) (s:Shared) (σ:St) (H:Hp) (Q:Bool->Hp->Prop),Inv X pins σ H s->t σ H Q->wpAny (model X.prog X.w) X.A (isTrue e X.env whole) (TP X pins σ Q) X.xe s
theorem PW.pt{X:Cx}{e:Expr}{t:TT}(h:PW X e t):PT X e t:=h _
def PA(X:Cx)(es:List Expr)(t:TA):Prop :=
 ∀ (pos:Pos) (pins:List (Addr×Obj)) (s:Shared) (σ:St) (H:Hp) (Q:List V->Hp->Prop),Inv X pins σ H s->t σ H Q->wpAny (model X.prog X.w) X.A (spliced (backTo pos (starEach es X.env))) (AP X pins σ Q) X.xe s
def PS(X:Cx)(st:Stmt)(t:TS):Prop :=
 ∀ (pins:List (Addr×Obj)) (s:Shared) (σ:St) (H:Hp) (D:Ends),Inv X pins σ H s->t D σ H->wpAny (model X.prog X.w) X.A (exec st X.env) (SP X pins D) X.xe s
def yd(X:Cx)(st:List Stmt)(t:TS):Prop :=
 ∀ (pins:List (Addr×Obj)) (s:Shared) (σ:St) (H:Hp) (D:Ends),Inv X pins σ H s->t D σ H->wpAny (model X.prog X.w) X.A (execs st X.env) (SP X pins D) X.xe s
theorem di{α:Type}{t:Sem α}{Q Q':α->Shared->Prop}{M:Model}{A:Around}{E:Value->Shared->Prop}{s:Shared}(h:wpAny M A t Q E s)(hQ:∀ a s,Q a s->Q' a s):wpAny M A t Q' E s:=agd h hQ fun _ _ x=>x
section
variable {X:Cx}
def yX(i:Nat):TE:=fun σ H Q=>∃ v,σ[i]?=some (some v)/\Q v H
def tC(v:V):TE:=fun _ H Q=>Q v H
theorem Nb {i:Nat} {x:Str} {pos:Pos} (hN:X.N[i]?=some x) (hv:QV X.env.scope x) (hd:(x == ("__debug__":Str))=false:=by decide) (Ap:(x == ("__classdict__":Str))=false:=by decide):PE X (.Name x pos) (yX i):=by
 intro pins s σ H Q I h
 obtain ⟨v,e,h⟩:=h
 obtain ⟨m,hn,hl⟩:=I.loc
 obtain ⟨u,r,l⟩:=hl i x v hN e hv
 have fin:EP X pins σ Q u s:=⟨v,H,I,r,h⟩
 rcases l with ⟨hk,hm⟩|⟨hk,c,hc,i0⟩
 ·exact wpAny_Name (wpAny_loadName_local I.ok.kind hk hn hm fin) hd
 ·rcases hk with hk|hk
  ·exact wpAny_Name (wpAny_loadName_cell I.ok.kind hk hc i0 fin) hd
  ·exact wpAny_Name (wpAny_loadName_free I.ok.kind hk hc i0 fin Ap) hd
theorem ae{i j pos}:PE X (.Constant (.int i) j pos) (tC (.int i)):=fun _ _ _ H _ I h=>wpAny_Constant_int ⟨.int i,H,I.tok _,⟨_,rfl⟩,h⟩
theorem n0{b j pos}:PE X (.Constant (.bool b) j pos) (tC (.bl b)):=fun _ _ _ H _ I h=>Constant_bool ⟨.bl b,H,I,rfl,h⟩
theorem oC{j pos}:PE X (.Constant .none j pos) (tC .fw):=fun _ _ _ H _ I h=>Constant_none ⟨.fw,H,I,rfl,h⟩
theorem Nc{x j pos}:PE X (.Constant (.str x) j pos) (tC (.str x)):=fun _ _ _ H _ I h=>Calls.Constant_str ⟨.str x,H,I.tok _,⟨_,rfl⟩,h⟩
def Gl(X:Cx)(x:Str):Prop:=X.env.kindOf x=some .globalImplicit
theorem kG{E:Value->Shared->Prop}{pins:List (Addr×Obj)}{s:Shared}{σ:St}{H:Hp}{x:Str}{u:Value}{pos:Pos}{Q:Value->Shared->Prop}(I:Inv X pins σ H s)(hg:Gl X x)(hm:X.mg x=some u)(h:Q u s)
  (hd:(x == ("__debug__":Str))=false:=by decide):wpAny (model X.prog X.w) X.A (eval (.Name x pos) X.env) Q E s :=
 Calls.Name_function_global I.ok.kind hg (Calls.loadGlobal_global (by rw [I.ok.glob];exact I.mod.glob.keeps I.bk) hm h) hd
theorem kH{E:Value->Shared->Prop}{pins:List (Addr×Obj)}{s:Shared}{σ:St}{H:Hp}{x:Str}{u:Value}{pos:Pos}{Q:Value->Shared->Prop}(I:Inv X pins σ H s)(hg:Gl X x)(hm:X.mg x=none)(hv:bootBuiltins x=some u)(h:Q u s)
  (hn:x≠"__name__":=by decide) (hd:(x == ("__debug__":Str))=false:=by decide):wpAny (model X.prog X.w) X.A (eval (.Name x pos) X.env) Q E s:=by
 obtain ⟨mb,h1,h2⟩:=I.mod.blt
 exact Calls.Name_function_global I.ok.kind hg (Calls.loadGlobal_builtin (by rw [I.ok.glob];exact I.mod.glob.keeps I.bk) hm (by rw [I.ok.blt];exact h1.keeps I.bk) ((h2 x hn).trans hv) h) hd
theorem d8 {x:Str} {v:V} {u:Value} {pos:Pos} (hg:Gl X x) (hm:X.mg x=some u) (r:RelV v u) (hd:(x == ("__debug__":Str))=false:=by decide):PE X (.Name x pos) (tC v) :=
 fun _ _ _ H _ I h=>kG I hg hm ⟨v,H,I,r,h⟩ hd
theorem uV {x:Str} {v:V} {u:Value} {pos:Pos} (hg:Gl X x) (hm:X.mg x=none) (hv:bootBuiltins x=some u) (r:RelV v u) (hn:x≠"__name__":=by decide) (hd:(x == ("__debug__":Str))=false:=by decide):PE X (.Name x pos) (tC v) :=
 fun _ _ _ H _ I h=>kH I hg hm hv ⟨v,H,I,r,h⟩ hn hd
variable {a b:Expr}{ta tb:TE}{pos:Pos}
def tB(t:TE):TT:=fun σ H Q=>t σ H fun x H1=>∃ c,x=.bl c/\Q c H1
theorem mE{e:Expr}{t:TE}(h:PE X e t)(he:∀ whole,isTrue e X.env whole=(do let v <- whole;standAt e.pos;holding [v] (truthy v)):=by intro _;rfl):PT X e (tB t):=by
 intro pins s σ H Q I hw
 refine isTrue_plain (di (h pins s σ H _ I hw) fun v s1 ⟨x,H1,I1,r1,q1⟩=>?_) (he _)
 obtain ⟨d,rfl,q⟩:=q1
 cases r1
 exact wpAny_truthy_bool ⟨H1,I1,q⟩
variable {tA Vr:TT}{rest:List Expr}
def QZ(t u:TT):TT:=fun σ H Q=>t σ H fun c H1=>if c=true then u σ H1 Q else Q false H1
def tOr(t u:TT):TT:=fun σ H Q=>t σ H fun c H1=>if c=true then Q true H1 else u σ H1 Q
def Q0(t:TT):TT:=fun σ H Q=>t σ H fun c H1=>Q (!c) H1
theorem hG(ha:PT X a tA):PW X (.BoolOp .And [a] pos) tA:=by
 intro wh pins s σ H Q I h
 refine isTrue_and (di (ha pins s σ H Q I h) fun c s1 e=>?_)
 cases c with
 | true=>exact isTrue_and_nil e
 | false=>exact e
theorem GV(ha:PT X a tA):PW X (.BoolOp .Or [a] pos) tA:=by
 intro wh pins s σ H Q I h
 refine isTrue_or (di (ha pins s σ H Q I h) fun c s1 e=>?_)
 cases c with
 | false=>exact isTrue_or_nil e
 | true=>exact e
theorem i4(ha:PT X a tA)(hb:PW X (.BoolOp .And (b::rest) pos) Vr):PW X (.BoolOp .And (a::b::rest) pos) (QZ tA Vr):=by
 intro wh pins s σ H Q I h
 refine isTrue_and (di (ha pins s σ H _ I h) fun c s1 ⟨H1,I1,q1⟩=>?_)
 cases c with
 | true=>exact hb wh pins s1 σ H1 Q I1 q1
 | false=>exact⟨H1,I1,q1⟩
theorem L7(ha:PT X a tA)(hb:PW X (.BoolOp .Or (b::rest) pos) Vr):PW X (.BoolOp .Or (a::b::rest) pos) (tOr tA Vr):=by
 intro wh pins s σ H Q I h
 refine isTrue_or (di (ha pins s σ H _ I h) fun c s1 ⟨H1,I1,q1⟩=>?_)
 cases c with
 | true=>exact⟨H1,I1,q1⟩
 | false=>exact hb wh pins s1 σ H1 Q I1 q1
theorem rP(ha:PT X a tA):PT X (.UnaryOp .Not a pos) (Q0 tA):=by
 intro pins s σ H Q I h
 exact isTrue_not (ha pins s σ H (fun c H1=>Q (!c) H1) I h)
def L8(ta tb:TE):TE:=fun σ H Q=>ta σ H fun x H1=>∃ c,x=.bl c/\if c=true then tb σ H1 Q else Q (.bl false) H1
def L9(ta:TE):TE:=fun σ H Q=>ta σ H fun x H1=>∃ c,x=.bl c/\Q (.bl (!c)) H1
theorem vj{op}{t:TE}(h:PE X a t):PE X (.BoolOp op [a] pos) t:=fun pins s σ H Q I hw=>BoolOp_one (h pins s σ H Q I hw)
theorem vk(ha:PE X a ta)(hb:PE X (.BoolOp .And (b::rest) pos) tb):PE X (.BoolOp .And (a::b::rest) pos) (L8 ta tb):=by
 intro pins s σ H Q I h
 refine BoolOp_and (di (ha pins s σ H _ I h) fun v s1 ⟨x,H1,I1,r1,q1⟩=>?_)
 obtain ⟨c,rfl,q1⟩:=q1
 cases r1
 refine wpAny_truthy_bool ?_
 cases c with
 | true=>exact hb pins s1 σ H1 Q I1 q1
 | false=>exact⟨.bl false,H1,I1,rfl,q1⟩
theorem Nd(ha:PE X a ta):PE X (.UnaryOp .Not a pos) (L9 ta):=by
 intro pins s σ H Q I h
 refine UnaryOp_ (di (ha pins s σ H _ I h) fun v s1 ⟨x,H1,I1,r1,q1⟩=>?_)
 obtain ⟨c,rfl,q1⟩:=q1
 cases r1
 exact not_of (wpAny_truthy_bool ⟨.bl (!c),H1,I1,rfl,q1⟩)
def tIf(t:TT)(ta tb:TE):TE:=fun σ H Q=>t σ H fun c H1=>if c=true then ta σ H1 Q else tb σ H1 Q
theorem pP{c:Expr}(hc:PT X c tA)(ha:PE X a ta)(hb:PE X b tb):PE X (.IfExp c a b pos) (tIf tA ta tb):=by
 intro pins s σ H Q I h
 refine wpAny_IfExp (di (hc pins s σ H _ I h) fun d s1 ⟨H1,I1,q1⟩=>?_)
 cases d with
 | true=>exact ha pins s1 σ H1 Q I1 q1
 | false=>exact hb pins s1 σ H1 Q I1 q1
end
def aW(K:Frag)(H:Hp)(a:Addr)(xs:List V):Prop :=
 Rd H a (.lst xs) \/
  ∃ (o:Obj) (its:Array Value) (n:Nat),K.lookup a=some o/\o.cls=.type "list"/\o.dict=none/\o.data=.seq its n/\its.size<=sizeLine/\Vals xs its.toList
def aZ(K:Frag)(H:Hp)(a:Addr)(xs:List V):Prop :=
 Rd H a (.tup xs) \/
  ∃ (o:Obj) (its:Array Value) (n:Nat),K.lookup a=some o/\o.cls=.type "tuple"/\o.data=.seq its n/\its.size<=sizeLine/\Vals xs its.toList
def WI:Value->Option V
 | .none=>some .fw
 | .bool b=>some (.bl b)
 | .int i _=>some (.int i)
 | .str x _=>some (.str x)
 | .bytes b _=>some (.Gw b)
 | .float b _=>some (.M8 b)
 | .ref a=>some (.ref a)
 | .type n=>some (.ty n)
 | _=>none
theorem RelV.abs{x:V}{u:Value}(r:RelV x u):WI u=some x:=by
 cases x with
 | fw=>cases r;rfl
 | bl _=>cases r;rfl
 | int _=>obtain ⟨t,rfl⟩:=r;rfl
 | str _=>obtain ⟨t,rfl⟩:=r;rfl
 | Gw _=>obtain ⟨t,rfl⟩:=r;rfl
 | M8 _=>obtain ⟨t,rfl⟩:=r;rfl
 | ref _=>cases r;rfl
 | ty _=>cases r;rfl
theorem RelV.inj{x y:V}{u:Value}(r:RelV x u)(q:RelV y u):x=y:=af5 (r.abs.symm.trans q.abs)
theorem Vals.inj:∀ {xs ys:List V} {us:List Value},Vals xs us->Vals ys us->xs=ys
 | _,_,_,.nil,.nil=>rfl
 | _,_,_,.cons r t,.cons r' t'=>by rw [r.inj r',Vals.inj t t']
section
variable {X:Cx}{pins:List (Addr×Obj)}{σ:St}{H:Hp}{s:Shared}{a:Addr}{xs ys:List V}
theorem aW.of{K:Frag}(h:H a=some (.lst xs)):aW K H a xs:=.inl (.inl h)
theorem aZ.of{K:Frag}(h:H a=some (.tup xs)):aZ K H a xs:=.inl (.inl h)
theorem Inv.list(I:Inv X pins σ H s)(h:aW X.K H a xs):∃ its:List Value,Vals xs its/\PlainL s.heap a its.toArray/\xs.length<=sizeLine:=by
 rcases h with h|⟨o,its,n,hk,hc,hd,hs,hz,r⟩
 ·obtain ⟨z,its,n,r,e⟩:=h.ok I.cA
  exact⟨its,r,⟨_,n,e,rfl,rfl,rfl⟩,z⟩
 ·refine⟨its.toList,r,⟨o,n,I.mC a o hk,hc,hd,by simpa using hs⟩,?_⟩
  have e:=r.length
  simp only [Array.length_toList] at e
  lia
theorem Inv.tuple(I:Inv X pins σ H s)(h:aZ X.K H a xs):∃ its:List Value,Vals xs its/\IsTup s.heap a its.toArray/\xs.length<=sizeLine:=by
 rcases h with h|⟨o,its,n,hk,hc,hs,hz,r⟩
 ·obtain ⟨z,its,r,p⟩:=h.ok I.cA
  exact⟨its,r,p,z⟩
 ·refine⟨its.toList,r,⟨o,I.mC a o hk,hc,n,by simpa using hs⟩,?_⟩
  have e:=r.length
  simp only [Array.length_toList] at e
  lia
theorem Inv.Aw(I:Inv X pins σ H s)(h:aW X.K H a xs)(h':aW X.K H a ys):xs=ys:=by
 obtain ⟨its,r,⟨o,n,e,_,_,d⟩,_⟩:=I.list h
 obtain ⟨its',r',⟨o',n',e',_,_,d'⟩,_⟩:=I.list h'
 rw [e] at e';cases e'
 rw [d] at d'
 injection d' with d1 _
 have:its=its':=by simpa using congrArg Array.toList d1
 subst this
 exact r.inj r'
theorem Inv.ye(I:Inv X pins σ H s)(h:aZ X.K H a xs)(h':aZ X.K H a ys):xs=ys:=by
 obtain ⟨its,r,⟨o,e,_,n,d⟩,_⟩:=I.tuple h
 obtain ⟨its',r',⟨o',e',_,n',d'⟩,_⟩:=I.tuple h'
 rw [e] at e';cases e'
 rw [d] at d'
 injection d' with d1 _
 have:its=its':=by simpa using congrArg Array.toList d1
 subst this
 exact r.inj r'
end
abbrev Cx.oE(X:Cx)(E:Value->Shared->Prop):Cx:={ X with xe:=E }
abbrev Cx.JJ(X:Cx):Cx:=X.oE fun _ _=>False
theorem Cx.Ok.oE{X:Cx}(ok:X.Ok)(E:Value->Shared->Prop):(X.oE E).Ok :=
 ⟨ok.mod,ok.kind,ok.glob,ok.blt,ok.above,ok.inj,ok.has,ok.QW,ok.hd,ok.frames,ok.Vq,ok.exf,ok.bs,ok.DM,ok.Ci,ok.J2,ok.uq,ok.M9⟩
theorem Cx.Ok.kI{X:Cx}{E:Value->Shared->Prop}(ok:(X.oE E).Ok):X.Ok :=
 ⟨ok.mod,ok.kind,ok.glob,ok.blt,ok.above,ok.inj,ok.has,ok.QW,ok.hd,ok.frames,ok.Vq,ok.exf,ok.bs,ok.DM,ok.Ci,ok.J2,ok.uq,ok.M9⟩
section
variable {X:Cx}{pins:List (Addr×Obj)}{σ:St}{H:Hp}{s:Shared}{E:Value->Shared->Prop}
theorem Inv.oE(I:Inv X pins σ H s)(E:Value->Shared->Prop):Inv (X.oE E) pins σ H s:=⟨I.ok.oE E,I.os,I.bare,I.base,I.loc,I.cell,I.free,I.iY,I.pin,I.cA,I.len⟩
theorem Inv.kI(I:Inv (X.oE E) pins σ H s):Inv X pins σ H s:=⟨I.ok.kI,I.os,I.bare,I.base,I.loc,I.cell,I.free,I.iY,I.pin,I.cA,I.len⟩
theorem SP.kI{D:Ends}{f:Flow}{s':Shared}(h:SP (X.oE E) pins D f s'):SP X pins D f s':=by
 cases f with
 | next=>obtain ⟨σ',H',I,q⟩:=h;exact⟨σ',H',I.kI,q⟩
 | brk=>obtain ⟨σ',H',I,q⟩:=h;exact⟨σ',H',I.kI,q⟩
 | cont=>obtain ⟨σ',H',I,q⟩:=h;exact⟨σ',H',I.kI,q⟩
 | ret u=>obtain ⟨v,σ',H',I,r,q⟩:=h;exact⟨v,σ',H',I.kI,r,q⟩
theorem yd.JJ{st:List Stmt}{t:TS}(h:yd X.JJ st t):yd X st t:=fun pins s σ H D I hw =>
 agd (h pins s σ H D (I.oE _) hw) (fun _ _ q=>q.kI) fun _ _ z=>False.elim z
end
section
variable {X:Cx}{st:Stmt}{rest:List Stmt}{t u:TS}{e:Expr}{te:TE}{pos:Pos}
def Ma:TS:=fun D σ H=>D.nx σ H
def Q1(t u:TS):TS:=fun D σ H=>t { D with nx:=u D } σ H
theorem bA:yd X [] Ma:=fun _ _ σ H _ I h=>wpAny_execs_nil ⟨σ,H,I,h⟩
theorem ah(h1:PS X st t)(h2:yd X rest u):yd X (st::rest) (Q1 t u):=by
 intro pins s σ H D I h
 refine wpAny_execs_cons (di (h1 pins s σ H { D with nx:=u D } I h) fun f s1 q=>?_)
 cases f with
 | next =>
  obtain ⟨σ',H',I',q⟩:=q
  exact h2 pins s1 σ' H' D I' q
 | ret v=>exact q
 | brk=>exact q
 | cont=>exact q
theorem ai(h1:PS X st t):yd X [st] t:=by
 intro pins s σ H D I h
 refine wpAny_execs_cons (di (h1 pins s σ H D I h) fun f s1 q=>?_)
 cases f with
 | next=>exact wpAny_execs_nil q
 | ret v=>exact q
 | brk=>exact q
 | cont=>exact q
theorem Inv.quiet{pins:List (Addr×Obj)}{σ:St}{H:Hp}{s:Shared}(I:Inv X pins σ H s):interactive X.env=false:=by simp [interactive,I.ok.kind]
def Mb(te:TE):TS:=fun D σ H=>te σ H fun _ H1=>D.nx σ H1
theorem dW(he:PE X e te)(hs:swapsWith e none pos.line X.env=pure false:=by rfl):PS X (.Expr e pos) (Mb te):=by
 intro pins s σ H D I h
 exact wpAny_Expr_any (di (he pins s σ H _ I h) fun v s1 ⟨x,H1,I1,r1,q1⟩=>⟨σ,H1,I1,q1⟩) I.quiet hs
def Q2(te:TE):TS:=fun D σ H=>te σ H D.rt
theorem aS(he:PE X e te):PS X (.Return (some e) pos) (Q2 te):=by
 intro pins s σ H D I h
 exact wpAny_Return_some (di (he pins s σ H _ I h) fun v s1 ⟨x,H1,I1,r1,q1⟩=>⟨x,σ,H1,I1,r1,q1⟩)
def Q3(c:TT)(t u:TS):TS:=fun D σ H=>c σ H fun b H1=>if b=true then t D σ H1 else u D σ H1
theorem b9{c:Expr}{a b:List Stmt}{tc:TT}(hc:PT X c tc)(ha:yd X a t)(hb:yd X b u):PS X (.If c a b pos) (Q3 tc t u):=by
 intro pins s σ H D I h
 refine wpAny_If (di (hc pins s σ H _ I h) fun d s1 ⟨H1,I1,q1⟩=>?_)
 cases d with
 | true=>exact ha pins s1 σ H1 D I1 q1
 | false=>exact hb pins s1 σ H1 D I1 q1
def Nf:TS:=fun _ _ _=>False
theorem vm:PS X st Nf:=fun _ _ _ _ _ _ h=>h.elim
end
abbrev TG:=V->St->Hp->(St->Hp->Prop)->Prop
abbrev Mc:=List V->St->Hp->(St->Hp->Prop)->Prop
def PG(X:Cx)(target:Expr)(t:TG):Prop :=
 ∀ (pins:List (Addr×Obj)) (s:Shared) (σ:St) (H:Hp) (v:V) (u:Value) (Q:St->Hp->Prop),Inv X pins σ H s->RelV v u->t v σ H Q ->
  wpAny (model X.prog X.w) X.A (assign target X.env u) (fun _ s'=>∃ σ' H',Inv X pins σ' H' s'/\Q σ' H') X.xe s
def Q4(X:Cx)(ts:List Expr)(t:Mc):Prop :=
 ∀ (pins:List (Addr×Obj)) (s:Shared) (σ:St) (H:Hp) (vs:List V) (us:List Value) (Q:St->Hp->Prop),Inv X pins σ H s->Vals vs us->t vs σ H Q ->
  wpAny (model X.prog X.w) X.A (assignInOrder ((assignEach ts X.env).map (·.2)) us) (fun _ s'=>∃ σ' H',Inv X pins σ' H' s'/\Q σ' H') X.xe s
abbrev J5:=V->V->V->Hp->(Hp->Prop)->Prop
def Q5(X:Cx)(t:J5):Prop :=
 ∀ (pins:List (Addr×Obj)) (s:Shared) (σ:St) (H:Hp) (o i v:V) (ov iv u:Value) (Q:Hp->Prop),Inv X pins σ H s->RelV o ov->RelV i iv->RelV v u->t o i v H Q ->
  wpAny (model X.prog X.w) X.A (setItem ov iv u) (fun _ s'=>∃ H',Inv X pins σ H' s'/\Q H') X.xe s
section
variable {X:Cx}{pos:Pos}
def cO(i:Nat):TG:=fun v σ H Q=>Q (σ.set i (some v)) H
theorem aD{i:Nat}{x:Str}(hN:X.N.Nodup)(hi:X.N[i]?=some x)(hx:Loc X.env.scope x)(hf:X.fn x=true\/X.env.scope.names.lookup x=some .local:=by first|exact .inl rfl|exact .inr rfl|assumption):PG X (.Name x pos) (cO i):=by
 intro pins s σ H v u Q I r h
 exact wpAny_assign_Name (Av I hN hi hx r (fun s' I'=>⟨_,H,I',h⟩) hf)
def Ax:Mc:=fun vs σ H Q=>vs=[]/\Q σ H
def i5(t:TG)(u:Mc):Mc:=fun vs σ H Q=>∃ v r,vs=v::r/\t v σ H fun σ' H'=>u r σ' H' Q
theorem fC:Q4 X [] Ax:=by
 intro pins s σ H vs us Q I r h
 obtain ⟨e,h⟩:=h
 subst e
 cases r
 exact assignInOrder_nil ⟨σ,H,I,h⟩
theorem bP{e:Expr}{es:List Expr}{t:TG}{u:Mc}(h1:PG X e t)(h2:Q4 X es u)
  (hs:(assignEach (e::es) X.env).map (·.2)=assign e X.env::(assignEach es X.env).map (·.2):=by rfl):Q4 X (e::es) (i5 t u):=by
 intro pins s σ H vs us Q I r h
 obtain ⟨v,vr,e1,h⟩:=h
 subst e1
 cases r with
 | cons r rr =>
  rw [hs]
  refine assignInOrder_cons (di (h1 pins s σ H _ _ _ I r h) fun _ s1 ⟨σ1,H1,I1,q1⟩=>?_)
  exact h2 pins s1 σ1 H1 _ _ Q I1 rr q1
def yY(K:Frag)(n:Nat)(t:Mc):TG:=fun v σ H Q=>∃ a xs,v=.ref a/\aZ K H a xs/\xs.length=n/\t xs σ H Q
theorem Ng{es:List Expr}{k:Nat}{t:Mc}{n:Nat}(hc:X.calm=true)(h:Q4 X es t)
  (hn:(assignEach es X.env).length=n:=by rfl) (oF:(assignEach es X.env).findIdx? (·.1)=none:=by rfl):PG X (.Tuple es k pos) (yY X.K n t):=by
 intro pins s σ H v u Q I r hw
 obtain ⟨a,xs,e1,hq,hl,hw⟩:=hw
 subst e1
 cases r
 obtain ⟨its,rv,ht,hz⟩:=I.tuple hq
 refine assign_Tuple_tuple (I.ok.hd hc) ht (by simp [hn,<- hl,rv.length]) oF fun h' hx=>?_
 have I1:Inv X pins σ H { s with heap:=h' }:=I.kept (t':=s.toks) fun b o e=>hx b o (agN (afY e)) e
 exact h pins _ σ H xs _ Q I1 (by simpa using rv) hw
def Q6(to ti:TE)(t:J5):TG:=fun v σ H Q=>to σ H fun o H1=>ti σ H1 fun i H2=>t o i v H2 fun H3=>Q σ H3
theorem rQ{o i:Expr}{to ti:TE}{t:J5}(ho:PE X o to)(hi:PE X i ti)(hs:Q5 X t)
  (ha:∀ v,assign (.Subscript o i pos) X.env v=(do
   let ov <- holding [v] (eval o X.env)
   let iv <- holding [v,ov] (eval i X.env)
   standAt pos
   holding [v,ov,iv] (setItem ov iv v)
   release [v,ov,iv] []):=by intro _;rfl):PG X (.Subscript o i pos) (Q6 to ti t):=by
 intro pins s σ H v u Q I r h
 rw [ha]
 refine afW (wpAny_holding (di (ho pins s σ H _ I h) fun ov s1 ⟨x,H1,I1,r1,q1⟩=>?_))
 refine afW (wpAny_holding (di (hi pins s1 σ H1 _ I1 q1) fun iv s2 ⟨y,H2,I2,r2,q2⟩=>?_))
 refine afW (wpAny_standAt (afW (wpAny_holding (di (hs pins s2 σ H2 x y v ov iv u _ I2 r1 r2 r q2) fun _ s3 ⟨H3,I3,q3⟩=>?_))))
 exact wpAny_release ⟨σ,H3,I3,q3⟩
def GW(te:TE)(g:TG):TS:=fun D σ H=>te σ H fun x H1=>g x σ H1 D.nx
theorem jR{tg e:Expr}{te:TE}{g:TG}(he:PE X e te)(hg:PG X tg g)(hs:swapsWithSole [tg] e pos.line X.env=pure false:=by rfl)(hw:swappedStores [tg] e X.env=pure none:=by rfl)
  (h1:(assignEach [tg] X.env).map (·.2)=[assign tg X.env]:=by rfl):PS X (.Assign [tg] e pos) (GW te g):=by
 intro pins s σ H D I h
 refine wpAny_Assign_stores (di (he pins s σ H _ I h) fun v s1 ⟨x,H1,I1,r1,q1⟩=>?_) hs hw
 rw [h1]
 exact di (hg pins s1 σ H1 x v _ I1 r1 q1) fun _ s2 q=>q
theorem aU{i:Nat}{x:Str}{e:Expr}{te:TE}{pos':Pos}(hN:X.N.Nodup)(hi:X.N[i]?=some x)(hx:Loc X.env.scope x)(he:PE X e te)(hs:swapsWith e (some (.Name x pos')) pos.line X.env=pure false:=by rfl)(hf:X.fn x=true\/X.env.scope.names.lookup x=some .local:=by first|exact .inl rfl|exact .inr rfl|assumption) :
  PS X (.Assign [.Name x pos'] e pos) (GW te (cO i)):=by
 intro pins s σ H D I h
 refine wpAny_Assign_Name (di (he pins s σ H _ I h) fun v s1 ⟨y,H1,I1,r1,q1⟩=>?_) hs
 exact Av I1 hN hi hx r1 (fun s2 I2=>⟨_,H1,I2,q1⟩) hf
end
section
variable {X:Cx}{pos:Pos}
def GX(c:TT)(tb:TS):TS:=fun D σ H=>∃ W:Nat->St->Hp->Prop,(∃ m,W m σ H)/\∀ m σ H,W m σ H ->
 c σ H fun b H1=>if b=true then ∃ N:St->Hp->Prop,(∀ σ' H',N σ' H'->∃ m',m'<m/\W m' σ' H')/\tb { D with nx:=N,ct:=N,bk:=D.nx } σ H1 else D.nx σ H1
theorem vn{c:Expr}{body:List Stmt}{tc:TT}{tb:TS}(hp:PassesOwn (model X.prog X.w) X.A X.env X.xe)(hc:PT X c tc)(hb:yd X body tb):PS X (.While c body [] pos) (GX tc tb):=by
 intro pins s σ H D I h
 obtain ⟨W,⟨m0,w0⟩,turn⟩:=h
 refine wpAny_While (codeAny_whileLoop (fun n s'=>∃ σ' H',Inv X pins σ' H' s'/\W n σ' H') ?_ m0 ⟨σ,H,I,w0⟩)
 rintro n s1 ⟨σ1,H1,I1,w1⟩
 refine wpAny_passesOwn hp (di (hc pins s1 σ1 H1 _ I1 (turn n σ1 H1 w1)) fun b s2 ⟨H2,I2,q2⟩=>?_)
 cases b with
 | true =>
  obtain ⟨N,hN,q2⟩:=q2
  rw [if_pos rfl]
  refine wpAny_passesOwn hp (di (hb pins s2 σ1 H2 _ I2 q2) fun f s3 q3=>?_)
  cases f with
  | next =>
   obtain ⟨σ3,H3,I3,n3⟩:=q3
   obtain ⟨m',hm,w3⟩:=hN σ3 H3 n3
   exact⟨m',hm,σ3,H3,I3,w3⟩
  | cont =>
   obtain ⟨σ3,H3,I3,n3⟩:=q3
   obtain ⟨m',hm,w3⟩:=hN σ3 H3 n3
   exact⟨m',hm,σ3,H3,I3,w3⟩
  | brk=>exact q3
  | ret v=>exact q3
 | false =>
  rw [if_neg Bool.false_ne_true]
  exact wpAny_execs_nil ⟨σ1,H2,I2,q2⟩
end
structure It where
 go:Nat->Hp->Prop
 J6:Nat->Hp->V->Hp->Prop
 stop:Nat->Hp->Prop
def oG(X:Cx)(pins:List (Addr×Obj))(H:Hp)(b:Addr):Prop :=
 H b=none/\b≠X.env.locals/\b∉X.fs/\(b∈X.ex\/X.s₀.heap.objs.size<=b)/\(∀ x c,X.env.cells.lookup x=some c->c≠b)/\∀ p∈X.pn++pins,p.1≠b
theorem Inv.Ay{X:Cx}{pins:List (Addr×Obj)}{σ:St}{H H':Hp}{s:Shared}{b:Addr}(I:Inv X pins σ H s)(hb:s.heap.objs.size<=b)(hn:H' b=none):oG X pins H' b:=by
 refine⟨hn,Nat.ne_of_gt (Nat.lt_of_lt_of_le I.lt hb),I.Wy hb,.inr (af0 I.sz hb),fun x c e z=>?_,fun p hp z=>?_⟩
 ·obtain ⟨v,q⟩:=I.cell x c e
  exact absurd (Nat.lt_of_lt_of_le q.lt (by rw [z];exact hb)) (Nat.lt_irrefl _)
 ·exact absurd (Nat.lt_of_lt_of_le (afY (I.pin p hp).1) (by rw [z];exact hb)) (Nat.lt_irrefl _)
structure Turn(P:Program)(w:World)(K:Frag)(tg:Expr)(J:It)(fp:List Addr)(it:Addr)(tn:Nat->Heap->Prop):Prop where
 mem:it∈fp
 obj:∀ i h,tn i h->∀ b∈fp,∃ o,h.get? b=some o/\∀ v,o.data≠.cell v
 keep:∀ i h h',tn i h->(∀ b∈fp,∀ o,h.get? b=some o->h'.get? b=some o)->tn i h'
 item:∀ (X:Cx),X.prog=P->X.w=w->X.K=K->X.calm=true->∀ (i:Nat) (pins:List (Addr×Obj)) (s:Shared) (σ:St) (H:Hp) (E:Value->Shared->Prop),Inv X pins σ H s->(∀ b∈fp,oG X pins H b)->tn i s.heap->J.go i H ->
  wpAny (model P w) X.A (pyNext (.ref it)) (fun r s1=>∃ u,r=some u /\
   wpAny (model P w) X.A (letOwnedTupleGo tg (.ref it) u) (fun _ s2=>∃ x H',Inv X pins σ H' s2/\RelV x u/\J.J6 i H x H'/\tn (i+1) s2.heap/\∀ b∈fp,H' b=none) E s1) E s
 done:∀ (X:Cx),X.prog=P->X.w=w->X.K=K->X.calm=true->∀ (i:Nat) (pins:List (Addr×Obj)) (s:Shared) (σ:St) (H:Hp) (E:Value->Shared->Prop),Inv X pins σ H s->(∀ b∈fp,oG X pins H b)->tn i s.heap->J.stop i H ->
  wpAny (model P w) X.A (pyNext (.ref it)) (fun r s1=>r=none/\Inv X pins σ H s1) E s
 self:∀ (A:Around) (i:Nat) (s:Shared) (Q:Value->Shared->Prop) (E:Value->Shared->Prop),tn i s.heap->Q (.ref it) s->wpAny (model P w) A (pyIter (.ref it)) Q E s
abbrev TI:=St->Hp->(It->Hp->Prop)->Prop
def PIE(X:Cx)(pins:List (Addr×Obj))(σ:St)(tg:Expr)(R:It->Hp->Prop)(Q7:Value)(s2:Shared):Prop :=
 ∃ (it:Addr) (fp:List Addr) (tn:Nat->Heap->Prop) (J:It) (H':Hp),Q7=.ref it/\Inv X pins σ H' s2/\Turn X.prog X.w X.K tg J fp it tn/\tn 0 s2.heap/\(∀ b∈fp,oG X pins H' b)/\R J H'
def PI(X:Cx)(tg iter:Expr)(wi:TI):Prop :=
 ∀ (pins:List (Addr×Obj)) (s:Shared) (σ:St) (H:Hp) (R:It->Hp->Prop),Inv X pins σ H s->wi σ H R ->
  wpAny (model X.prog X.w) X.A (eval iter X.env) (fun v s1=>wpAny (model X.prog X.w) X.A (pyIter v) (PIE X pins σ tg R) X.xe s1) X.xe s
theorem DO{M : Model}{A : Around}{E : Value -> Shared -> Prop}{s : Shared}{tg : Expr}{it : Addr}{u : Value}{o : Obj}{n : String}{vs : Array Value}{Q : Unit -> Shared -> Prop}(ho : s.heap.get? it=some o)(hc : o.cls=.type n)(hd : o.data=.fields vs)
    (hn : ["enumerate", "zip", "dict_itemiterator", "dict_reverseitemiterator", "odict_iterator", "itertools.zip_longest", "itertools.pairwise"].contains n=false) (hQ : Q () s) : wpAny M A (letOwnedTupleGo tg (.ref it) u) Q E s := by
  unfold letOwnedTupleGo
  cases tg <;> first
    | exact agc hQ
    | (cases u <;> first
        | exact agc hQ
        | (refine afW (wpAny_load ho ?_)
           rw [hc, hd]
           show wpAny M A (if (["enumerate", "zip", "dict_itemiterator", "dict_reverseitemiterator", "odict_iterator", "itertools.zip_longest", "itertools.pairwise"].contains n && vs[0]? == some (rawInt _))=true then _ else _) Q E s
           rw [if_neg (by intro h;rw [hn, Bool.false_and] at h;cases h)]
           exact agc hQ))
def JK(K:Frag)(a:Addr):It :=
 ⟨fun i H=>∃ xs x,aW K H a xs/\xs[i]?=some x,fun i H x H'=>H'=H/\∀ xs,aW K H a xs->xs[i]?=some x,fun i H=>∃ xs,aW K H a xs/\xs.length<=i⟩
def Qi(K:Frag)(a:Addr):It :=
 ⟨fun i H=>∃ xs x,aZ K H a xs/\xs[i]?=some x,fun i H x H'=>H'=H/\∀ xs,aZ K H a xs->xs[i]?=some x,fun i H=>∃ xs,aZ K H a xs/\xs.length<=i⟩
def Gx(lo:Int)(n:Nat):It:=⟨fun i _=>i<n,fun i H x H'=>H'=H/\x=.int (lo+i),fun i _=>n<=i⟩
theorem EO{P:Program}{w:World}{K:Frag}{tg:Expr}(a it:Addr):Turn P w K tg (JK K a) [it] it (fun i h=>h.IsListIter it a i) where
 mem:=by simp
 obj:=fun i h st b hb=>by
  have e:b=it:=by simpa using hb
  subst e
  obtain ⟨o,e,c,d⟩:=st
  exact⟨o,e,fun v z=>by rw [d] at z;cases z⟩
 keep:=fun i h h' st k=>st.at fun o e=>k it (by simp) o e
 item:=by
  intro X hP hw hK hc i pins s σ H E I hf st hg
  subst hP hw hK
  obtain ⟨xs,x,hq,hx⟩:=hg
  obtain ⟨its,rv,p,hz⟩:=I.list hq
  obtain ⟨u,hu,ru⟩:=rv.get hx
  obtain ⟨f0,f1,f2,f3,f4,f5⟩:=hf it (by simp)
  refine wpAny_pyNext_list_item st p.isList (x:=u) (by simpa using hu) fun h' j8 sb=>?_
  have I1:Inv X pins σ H { s with heap:=h' }:=I.turned (t':=s.toks) (fun b o hb e=>(sb.2 b hb).trans e) f0 f1 f3 f4 f5
  obtain ⟨o,e,c,d⟩:=id j8
  exact⟨u,rfl,DO (s:={ s with heap:=h' }) e c d (by decide) ⟨x,H,I1,ru,⟨rfl,fun ys hy=>by rw [I.Aw hy hq];exact hx⟩,j8,fun b hb=>(hf b hb).1⟩⟩
 done:=by
  intro X hP hw hK hc i pins s σ H E I hf st hg
  subst hP hw hK
  obtain ⟨xs,hq,hx⟩:=hg
  obtain ⟨its,rv,p,hz⟩:=I.list hq
  obtain ⟨f0,f1,f2,f3,f4,f5⟩:=hf it (by simp)
  have hl:=rv.length
  exact wpAny_pyNext_list_end (I.ok.hd hc) st p.isList (by simp;lia) fun h' eb=>⟨rfl,I.turned (t':=s.toks) (fun b o hb e=>eb b o hb e) f0 f1 f3 f4 f5⟩
 self:=fun _ _ _ _ _ st h=>wpAny_pyIter_listiter st h
theorem Ck{P:Program}{w:World}{K:Frag}{tg:Expr}(a it:Addr):Turn P w K tg (Qi K a) [it] it (fun i h=>h.IsTupleIter it a i) where
 mem:=by simp
 obj:=fun i h st b hb=>by
  have e:b=it:=by simpa using hb
  subst e
  obtain ⟨o,e,c,d⟩:=st
  exact⟨o,e,fun v z=>by rw [d] at z;cases z⟩
 keep:=fun i h h' st k=>st.at fun o e=>k it (by simp) o e
 item:=by
  intro X hP hw hK hc i pins s σ H E I hf st hg
  subst hP hw hK
  obtain ⟨xs,x,hq,hx⟩:=hg
  obtain ⟨its,rv,p,hz⟩:=I.tuple hq
  obtain ⟨u,hu,ru⟩:=rv.get hx
  obtain ⟨f0,f1,f2,f3,f4,f5⟩:=hf it (by simp)
  refine wpAny_pyNext_tuple_item st (show s.heap.IsTuple a its.toArray from p) (x:=u) (by simpa using hu) fun h' j8 sb=>?_
  have I1:Inv X pins σ H { s with heap:=h' }:=I.turned (t':=s.toks) (fun b o hb e=>(sb.2 b hb).trans e) f0 f1 f3 f4 f5
  obtain ⟨o,e,c,d⟩:=id j8
  exact⟨u,rfl,DO (s:={ s with heap:=h' }) e c d (by decide) ⟨x,H,I1,ru,⟨rfl,fun ys hy=>by rw [I.ye hy hq];exact hx⟩,j8,fun b hb=>(hf b hb).1⟩⟩
 done:=by
  intro X hP hw hK hc i pins s σ H E I hf st hg
  subst hP hw hK
  obtain ⟨xs,hq,hx⟩:=hg
  obtain ⟨its,rv,p,hz⟩:=I.tuple hq
  obtain ⟨f0,f1,f2,f3,f4,f5⟩:=hf it (by simp)
  have hl:=rv.length
  exact wpAny_pyNext_tuple_end (I.ok.hd hc) st (show s.heap.IsTuple a its.toArray from p) (by simp;lia) fun h' eb=>⟨rfl,I.turned (t':=s.toks) (fun b o hb e=>eb b o hb e) f0 f1 f3 f4 f5⟩
 self:=fun _ _ _ _ _ st h=>wpAny_pyIter_tupleiter st h
theorem Cm{P:Program}{w:World}{K:Frag}{tg:Expr}(it:Addr)(lo:Int)(n:Nat):Turn P w K tg (Gx lo n) [it] it (fun i h=>IsRangeIter h it (lo+(i:Nat)*1) ((n:Int) - (i:Nat)) 1) where
 mem:=by simp
 obj:=fun i h st b hb=>by
  have e:b=it:=by simpa using hb
  subst e
  exact⟨_,st,fun v z=>by
   have z':Data.fields _=Data.cell v:=z
   cases z'⟩
 keep:=fun i h h' st k=>k it (by simp) _ st
 item:=by
  intro X hP hw hK hc i pins s σ H E I hf st hg
  subst hP hw hK
  obtain ⟨f0,f1,f2,f3,f4,f5⟩:=hf it (by simp)
  have W:=Walks.range (prog:=X.prog) (w:=X.w) (I.ok.hd hc) it lo 1 n
  refine W.item i s _ _ hg st fun v h' tk hv j8 kk=>?_
  obtain ⟨t,rfl⟩:=hv
  have I1:Inv X pins σ H { s with heap:=h',toks:=tk }:=I.turned (fun b o hb e=>kk b o (by simpa using hb) e) f0 f1 f3 f4 f5
  refine⟨_,rfl,DO (s:={ s with heap:=h',toks:=tk }) (n:="range_iterator") j8 rfl rfl (by decide) ⟨.int (lo+i),H,I1,⟨t,?_⟩,⟨rfl,rfl⟩,j8,fun b hb=>(hf b hb).1⟩⟩
  rw [Int.mul_one]
 done:=by
  intro X hP hw hK hc i pins s σ H E I hf st hg
  subst hP hw hK
  obtain ⟨f0,f1,f2,f3,f4,f5⟩:=hf it (by simp)
  exact wpAny_pyNext_range_end (I.ok.hd hc) st (by have:n<=i:=hg;lia) fun h' eb=>⟨rfl,I.turned (t':=s.toks) (fun b o hb e=>eb b o hb e) f0 f1 f3 f4 f5⟩
 self:=fun _ _ _ _ _ st h=>wpAny_pyIter_rangeiter st h
section
variable {X:Cx}{tg:Expr}
def GY(K:Frag)(tl:TE):TI:=fun σ H R=>tl σ H fun x H1=>∃ a,x=.ref a/\(∃ xs,aW K H1 a xs)/\R (JK K a) H1
def Nh(K:Frag)(tl:TE):TI:=fun σ H R=>tl σ H fun x H1=>∃ a,x=.ref a/\(∃ xs,aZ K H1 a xs)/\R (Qi K a) H1
theorem J7{l:Expr}{tl:TE}(hl:PE X l tl):PI X tg l (GY X.K tl):=by
 intro pins s σ H R I h
 refine di (hl pins s σ H _ I h) fun v s1 ⟨x,H1,I1,r1,q1⟩=>?_
 obtain ⟨a,e,⟨xs,hq⟩,q⟩:=q1
 subst e
 cases r1
 obtain ⟨its,rv,p,hz⟩:=I1.list hq
 refine wpAny_pyIter_list p.isList ?_
 refine⟨s1.heap.objs.size,[s1.heap.objs.size],_,_,H1,rfl,I1.kept (t':=s1.toks) fun b o e=>afV _ e,EO a _,⟨_,afZ _ rfl,rfl,rfl⟩,fun b hb=>?_,q⟩
 have e:b=s1.heap.objs.size:=by simpa using hb
 subst e
 exact I1.Ay (af1 _) (I1.cA.fresh (af1 _))
theorem Ni{l:Expr}{tl:TE}(hl:PE X l tl):PI X tg l (Nh X.K tl):=by
 intro pins s σ H R I h
 refine di (hl pins s σ H _ I h) fun v s1 ⟨x,H1,I1,r1,q1⟩=>?_
 obtain ⟨a,e,⟨xs,hq⟩,q⟩:=q1
 subst e
 cases r1
 obtain ⟨its,rv,p,hz⟩:=I1.tuple hq
 refine wpAny_pyIter_tuple (show s1.heap.IsTuple a its.toArray from p) ?_
 refine⟨s1.heap.objs.size,[s1.heap.objs.size],_,_,H1,rfl,I1.kept (t':=s1.toks) fun b o e=>afV _ e,Ck a _,⟨_,afZ _ rfl,rfl,rfl⟩,fun b hb=>?_,q⟩
 have e:b=s1.heap.objs.size:=by simpa using hb
 subst e
 exact I1.Ay (af1 _) (I1.cA.fresh (af1 _))
theorem Az{pins:List (Addr×Obj)}{σ:St}{H:Hp}{s:Shared}{R:It->Hp->Prop}{E:Value->Shared->Prop}{lo hi:Int}{t u v:Tok}{tk:Nat}(I:Inv X pins σ H s)(h1:-(2 ^ 62)<=lo)(h2:lo<2 ^ 62)(h3:-(2 ^ 62)<=hi)(h4:hi<2 ^ 62)
  (q:R (Gx lo (hi - lo).toNat) H):wpAny (model X.prog X.w) X.A (pyIter (.ref s.heap.objs.size)) (PIE X pins σ tg R) E { s with heap:=s.heap.push { cls:=.type "range",data:=.fields #[.int lo t,.int hi u,.int 1 v] },toks:=tk }:=by
 refine wpAny_pyIter_range (IsRange.new ..) (small_one h1 h2 h3 h4) ?_
 have I1:Inv X pins σ H { s with heap:=s.heap.push { cls:=.type "range",data:=.fields #[.int lo t,.int hi u,.int 1 v] },toks:=tk }:=I.kept fun b o e=>afV _ e
 refine⟨(s.heap.push { cls:=.type "range",data:=.fields #[.int lo t,.int hi u,.int 1 v] }).objs.size,[(s.heap.push { cls:=.type "range",data:=.fields #[.int lo t,.int hi u,.int 1 v] }).objs.size],_,_,H,rfl,
  I1.kept (t':=tk) fun b o e=>afV _ e,Cm _ lo (hi - lo).toNat,?_,fun b hb=>?_,q⟩
 ·have e1:lo+((0:Nat):Int)*1=lo:=by simp
  have e2:(((hi - lo).toNat:Nat):Int) - ((0:Nat):Int)=Builtin.Range.rangeSize lo hi 1:=by rw [rangeSize_one];split <;> lia
  show IsRangeIter _ _ (lo+((0:Nat):Int)*1) ((((hi - lo).toNat:Nat):Int) - ((0:Nat):Int)) 1
  rw [e1,e2]
  exact afZ _ rfl
 ·have e:b=(s.heap.push { cls:=.type "range",data:=.fields #[.int lo t,.int hi u,.int 1 v] }).objs.size:=by simpa using hb
  subst e
  exact I1.Ay (af1 _) (I1.cA.fresh (af1 _))
def Md(ta:TA):TI:=fun σ H R=>ta σ H fun vs H1=>∃ j:Int,vs=[.int j]/\-(2 ^ 62)<=j/\j<2 ^ 62/\R (Gx 0 j.toNat) H1
def Me(ta:TA):TI:=fun σ H R=>ta σ H fun vs H1=>∃ i j:Int,vs=[.int i,.int j]/\(-(2 ^ 62)<=i/\i<2 ^ 62/\-(2 ^ 62)<=j/\j<2 ^ 62)/\R (Gx i (j - i).toNat) H1
theorem cf {a:Expr} {ta:TA} {p pos:Pos} (hg:Gl X "range") (hm:X.mg "range"=none) (ha:PA X [a] ta) (hs:starEach [a] X.env=[(false,eval a X.env)]:=by rfl):PI X tg (.Call (.Name "range" p) [a] [] pos) (Md ta):=by
 intro pins s σ H R I h
 refine Call_ (kH I hg hm boot_range (callWith_type1 (di (ha pos pins s σ H _ I h) fun us s1 ⟨vs,H1,I1,r1,q1⟩=>?_) hs rfl))
 obtain ⟨j,e,q1,q2,q⟩:=q1
 subst e
 cases r1 with
 | cons r rr =>
  cases rr
  obtain ⟨t,rfl⟩:=r
  exact call_range_1 (Az I1 (by lia) (by lia) q1 q2 (by simpa using q))
theorem ER {a b:Expr} {ta:TA} {p pos:Pos} (hg:Gl X "range") (hm:X.mg "range"=none) (ha:PA X [a,b] ta) (hs:starEach [a,b] X.env=[(false,eval a X.env),(false,eval b X.env)]:=by rfl) (jS:starEach [b] X.env=[(false,eval b X.env)]:=by rfl) :
  PI X tg (.Call (.Name "range" p) [a,b] [] pos) (Me ta):=by
 intro pins s σ H R I h
 refine Call_ (kH I hg hm boot_range (callWith_type1 (di (ha pos pins s σ H _ I h) fun us s1 ⟨vs,H1,I1,r1,q1⟩=>?_) (by rw [hs,jS]) (by rw [jS];rfl)))
 obtain ⟨i,j,e,⟨q1,q2,q3,q4⟩,q⟩:=q1
 subst e
 cases r1 with
 | cons r rr =>
  cases rr with
  | cons r' rr =>
   cases rr
   obtain ⟨t,rfl⟩:=r
   obtain ⟨t',rfl⟩:=r'
   exact call_range_2 (Az I1 q1 q2 q3 q4 q)
def Q8(wi:TI)(g:TG)(tb:TS):TS:=fun D σ H=>wi σ H fun J H1=>∃ W:Nat->Nat->St->Hp->Prop,(∃ m,W 0 m σ H1)/\∀ i m σ H,W i m σ H ->
 (J.stop i H/\D.nx σ H)\/(J.go i H/\∃ N:St->Hp->Prop,(∀ σ' H',N σ' H'->∃ m',m'<m/\W (i+1) m' σ' H')/\∀ x H',J.J6 i H x H'->g x σ H' fun σ2 H2=>tb { D with nx:=N,ct:=N,bk:=D.nx } σ2 H2)
def oH(fp:List Addr)(h:Heap):List (Addr×Obj):=fp.filterMap fun b=>(h.get? b).map fun o=>(b,o)
theorem eS{fp:List Addr}{h:Heap}{b:Addr}{o:Obj}(hb:b∈fp)(e:h.get? b=some o):(b,o)∈oH fp h:=mem_filterMap.mpr ⟨b,hb,by rw [e];rfl⟩
theorem ES{fp:List Addr}{h:Heap}{p:Addr×Obj}(hp:p∈oH fp h):p.1∈fp/\h.get? p.1=some p.2:=by
 obtain ⟨b,hb,e⟩:=mem_filterMap.mp hp
 cases q:h.get? b with
 | none=>rw [q] at e;cases e
 | some o =>
  rw [q] at e
  have e':(b,o)=p:=af5 e
  subst e'
  exact⟨hb,q⟩
theorem Inv.pinned{pins:List (Addr×Obj)}{σ:St}{H:Hp}{s:Shared}{fp:List Addr}(I:Inv X pins σ H s)(hf:∀ b∈fp,oG X pins H b)(ho:∀ b∈fp,∃ o,s.heap.get? b=some o/\∀ v,o.data≠.cell v):Inv X (pins++oH fp s.heap) σ H s :=
 I.kF fun p hp=>(agk.mp hp).elim (fun z=>I.pin p (agh _ z)) fun z=>by
  obtain ⟨hb,e⟩:=ES z
  obtain ⟨f0,f1,f2,_⟩:=hf p.1 hb
  obtain ⟨o,e',d⟩:=ho p.1 hb
  rw [e] at e';cases e'
  exact⟨e,f0,f1,f2,d⟩
theorem Inv.fZ{pins pl:List (Addr×Obj)}{σ:St}{H:Hp}{s:Shared}(I:Inv X (pins++pl) σ H s):Inv X pins σ H s:=I.kF fun p hp=>I.pin p (agh _ (agi _ hp))
theorem dj{iter:Expr}{body:List Stmt}{wi:TI}{g:TG}{tb:TS}{pos:Pos}(hp:PassesOwn (model X.prog X.w) X.A X.env X.xe)(hc:X.calm=true)(hi:PI X tg iter wi)(hg:PG X tg g)(hb:yd X body tb)
  (hs:∀ x,foldedSetIterable iter X.env x=pure x:=by intro _;rfl):PS X (.For tg iter body [] pos) (Q8 wi g tb):=by
 intro pins s σ H D I h
 refine wpAny_For (di (hi pins s σ H _ I h) fun v s1 h1=>di h1 fun Q7 s2 h2=>?_) hs
 obtain ⟨it,fp,tn,J,H2,e,I2,T,JL,f2,W,⟨m0,w0⟩,turn⟩:=h2
 subst e
 have Nj:∀ {H':Hp},(∀ b∈fp,H' b=none)->∀ b∈fp,oG X pins H' b:=fun hn b hb=>⟨hn b hb,(f2 b hb).2⟩
 refine codeAny_forLoop_any (fun n s'=>∃ i σ' H',Inv X pins σ' H' s'/\tn i s'.heap/\(∀ b∈fp,H' b=none)/\W i n σ' H') ?_ m0 ⟨0,σ,H2,I2,JL,fun b hb=>(f2 b hb).1,w0⟩
 rintro n s3 ⟨i,σ3,H3,I3,yf,fr3,w3⟩
 rcases turn i n σ3 H3 w3 with ⟨stop,qn⟩|⟨go,N,hN,step⟩
 ·refine wpAny_passesOwn hp (di (T.done X rfl rfl rfl hc i pins s3 σ3 H3 X.xe I3 (Nj fr3) yf stop) fun r s4 ⟨hr,I4⟩=>?_)
  subst hr
  exact wpAny_execs_nil ⟨σ3,H3,I4,qn⟩
 ·refine wpAny_passesOwn hp (di (T.item X rfl rfl rfl hc i pins s3 σ3 H3 X.xe I3 (Nj fr3) yf go) fun r s4 ⟨u,hr,h4⟩=>?_)
  subst hr
  refine wpAny_passesOwn hp (di h4 fun _ s5 ⟨x,H5,I5,r5,y5,Gy,JM⟩=>?_)
  have I5':=I5.pinned (Nj JM) (T.obj _ _ Gy)
  refine wpAny_passesOwn hp (di (hg _ s5 σ3 H5 x u _ I5' r5 (step x H5 y5)) fun _ s6 ⟨σ6,H6,I6,q6⟩=>?_)
  refine wpAny_passesOwn hp (di (hb _ s6 σ6 H6 _ I6 q6) fun f s7 q7=>?_)
  have again:∀ {σ7:St} {H7:Hp},Inv X (pins++oH fp s5.heap) σ7 H7 s7->N σ7 H7->∃ m,m<n/\∃ i σ' H',Inv X pins σ' H' s7/\tn i s7.heap/\(∀ b∈fp,H' b=none)/\W i m σ' H':=fun {σ7 H7} I7 n7=>by
   obtain ⟨m',hm,w7⟩:=hN σ7 H7 n7
   refine⟨m',hm,i+1,σ7,H7,I7.fZ,T.keep _ _ _ Gy fun b hb o e=>(I7.pin (b,o) (agh _ (agh _ (eS hb e)))).1,fun b hb=>?_,w7⟩
   obtain ⟨o,e,d⟩:=T.obj _ _ Gy b hb
   exact (I7.pin (b,o) (agh _ (agh _ (eS hb e)))).2.1
  cases f with
  | next=>obtain ⟨σ7,H7,I7,n7⟩:=q7;exact again I7 n7
  | cont=>obtain ⟨σ7,H7,I7,n7⟩:=q7;exact again I7 n7
  | brk=>obtain ⟨σ7,H7,I7,q7⟩:=q7;exact⟨σ7,H7,I7.fZ,q7⟩
  | ret v=>obtain ⟨x7,σ7,H7,I7,r7,q7⟩:=q7;exact⟨x7,σ7,H7,I7.fZ,r7,q7⟩
end
abbrev R2:=V->V->Hp->VK->Prop
def pM(X:Cx)(f:Value->Value->Sem Value)(r:R2):Prop :=
 ∀ (pins:List (Addr×Obj)) (s:Shared) (σ:St) (H:Hp) (x y:V) (v u:Value) (Q:VK),Inv X pins σ H s->RelV x v->RelV y u->r x y H Q ->
  wpAny (model X.prog X.w) X.A (f v u) (EP X pins σ Q) X.xe s
def WJ(X:Cx)(f:Value->Sem Value)(r:V->Hp->VK->Prop):Prop :=
 ∀ (pins:List (Addr×Obj)) (s:Shared) (σ:St) (H:Hp) (x:V) (v:Value) (Q:VK),Inv X pins σ H s->RelV x v->r x H Q ->
  wpAny (model X.prog X.w) X.A (f v) (EP X pins σ Q) X.xe s
def dU(X:Cx)(f:Value)(r:List V->Hp->VK->Prop):Prop :=
 ∀ (pins:List (Addr×Obj)) (s:Shared) (σ:St) (H:Hp) (xs:List V) (us:List Value) (Q:VK),Inv X pins σ H s->Vals xs us->r xs H Q ->
  wpAny (model X.prog X.w) X.A (call f us) (EP X pins σ Q) X.xe s
def Mf(r:R2)(ta tb:TE):TE:=fun σ H Q=>ta σ H fun x H1=>tb σ H1 fun y H2=>r x y H2 Q
def tUn(r:V->Hp->VK->Prop)(ta:TE):TE:=fun σ H Q=>ta σ H fun x H1=>r x H1 Q
def rI(C:Int->Int->Prop)(g:Int->Int->V):R2:=fun x y H Q=>∃ i j,x=.int i/\y=.int j/\C i j/\Q (g i j) H
def Mg(g:Int->Int->V):R2:=fun x y H Q=>∃ i j,x=.int i/\y=.int j/\Q (g i j) H
def rU(g:Int->V):V->Hp->VK->Prop:=fun x H Q=>∃ i,x=.int i/\Q (g i) H
section
variable {X:Cx}{a b c:Expr}{ta tb tc:TE}{pos:Pos}
theorem Nk(ha:PE X a ta)(hb:PE X b tb){pins:List (Addr×Obj)}{s:Shared}{σ:St}{H:Hp}{R:V->V->Hp->Prop}(I:Inv X pins σ H s)
  (h:ta σ H fun x H1=>tb σ H1 fun y H2=>R x y H2) {Q:Value->Shared->Prop} {f:Value->Value->Sem Value}
  (hf:∀ v u s2 x y H2,Inv X pins σ H2 s2->RelV x v->RelV y u->R x y H2->wpAny (model X.prog X.w) X.A (f v u) Q X.xe s2) :
  wpAny (model X.prog X.w) X.A (eval a X.env) (fun v s₁=>wpAny (model X.prog X.w) X.A (eval b X.env) (fun u s₂=>wpAny (model X.prog X.w) X.A (f v u) Q X.xe s₂) X.xe s₁) X.xe s:=by
 refine di (ha pins s σ H _ I h) fun v s1 ⟨x,H1,I1,r1,q1⟩=>?_
 refine di (hb pins s1 σ H1 _ I1 q1) fun u s2 ⟨y,H2,I2,r2,q2⟩=>?_
 exact hf v u s2 x y H2 I2 r1 r2 q2
theorem ay{op:Operator}{r:R2}(ho:pM X (binaryOp op) r)(ha:PE X a ta)(hb:PE X b tb):PE X (.BinOp a op b pos) (Mf r ta tb):=by
 intro pins s σ H Q I h
 exact wpAny_BinOp (Nk ha hb I h fun v u s2 x y H2 I2 rx ry q=>ho pins s2 σ H2 x y v u Q I2 rx ry q)
theorem yg{op:UnaryOp}{r:V->Hp->VK->Prop}(ho:WJ X (unaryOp op) r)(ha:PE X a ta):PE X (.UnaryOp op a pos) (tUn r ta):=by
 intro pins s σ H Q I h
 exact UnaryOp_ (di (ha pins s σ H _ I h) fun v s1 ⟨x,H1,I1,r1,q1⟩=>ho pins s1 σ H1 x v Q I1 r1 q1)
theorem Mh{f:Value->Value->Sem Value}{C:Int->Int->Prop}{g:Int->Int->Int}
  (rule:∀ (i j:Int) (t u:Tok) (s:Shared) (Q:Value->Shared->Prop) (E:Value->Shared->Prop),C i j->Q (.int (g i j) s.toks) { s with toks:=s.toks+1 }->wpAny (model X.prog X.w) X.A (f (.int i t) (.int j u)) Q E s) :
  pM X f (rI C fun i j=>.int (g i j)):=by
 intro pins s σ H x y v u Q I rx ry h
 obtain ⟨i,j,rfl,rfl,hc,q⟩:=h
 obtain ⟨t,rfl⟩:=rx
 obtain ⟨t',rfl⟩:=ry
 exact rule i j t t' s _ _ hc ⟨.int (g i j),H,I.tok _,⟨_,rfl⟩,q⟩
theorem Q9{f:Value->Value->Sem Value}{g:Int->Int->Int}
  (rule:∀ (i j:Int) (t u:Tok) (s:Shared) (Q:Value->Shared->Prop) (E:Value->Shared->Prop),Q (.int (g i j) s.toks) { s with toks:=s.toks+1 }->wpAny (model X.prog X.w) X.A (f (.int i t) (.int j u)) Q E s) :
  pM X f (Mg fun i j=>.int (g i j)):=by
 intro pins s σ H x y v u Q I rx ry h
 obtain ⟨i,j,rfl,rfl,q⟩:=h
 obtain ⟨t,rfl⟩:=rx
 obtain ⟨t',rfl⟩:=ry
 exact rule i j t t' s _ _ ⟨.int (g i j),H,I.tok _,⟨_,rfl⟩,q⟩
theorem Ra{f:Value->Value->Sem Value}{g:Int->Int->Bool}
  (rule:∀ (i j:Int) (t u:Tok) (s:Shared) (Q:Value->Shared->Prop) (E:Value->Shared->Prop),Q (.bool (g i j)) s->wpAny (model X.prog X.w) X.A (f (.int i t) (.int j u)) Q E s) :
  pM X f (Mg fun i j=>.bl (g i j)):=by
 intro pins s σ H x y v u Q I rx ry h
 obtain ⟨i,j,rfl,rfl,q⟩:=h
 obtain ⟨t,rfl⟩:=rx
 obtain ⟨t',rfl⟩:=ry
 exact rule i j t t' s _ _ ⟨.bl (g i j),H,I,rfl,q⟩
def Nl(i j:Int):Prop:=0<j/\j<1073741824
def WK(i j:Int):Prop:=0<=j/\j<=1000000/\i.natAbs<2 ^ 64
def ET(i j:Int):Prop:=(-(2 ^ 64)<i/\i<2 ^ 64)\/(-(2 ^ 64)<j/\j<2 ^ 64)
theorem ET.ok{i j:Int}(h:ET i j):IntMulOk i j:=by
 rcases h with ⟨h1,h2⟩|⟨h1,h2⟩
 ·exact .of_left (intBits_le_64 h1 h2)
 ·exact .of_right (intBits_le_64 h1 h2)
theorem cV:pM X (binaryOp .Add) (Mg fun i j=>.int (i+j)):=Q9 fun _ _ _ _ _ _ _ q=>add_int q
theorem oI:pM X (binaryOp .Sub) (Mg fun i j=>.int (i - j)):=Q9 fun _ _ _ _ _ _ _ q=>sub_int q
theorem dE:pM X (binaryOp .Mult) (rI ET fun i j=>.int (i*j)):=Mh fun _ _ _ _ _ _ _ hc q=>mul_int q hc.ok
theorem cD:pM X (binaryOp .FloorDiv) (rI Nl fun i j=>.int (i / j)):=Mh fun i j _ _ _ _ _ hc q=>by
 have h1:(0:Int)<j:=hc.1
 have h2:j<1073741824:=hc.2
 exact floordiv_int (by lia) (by rw [agf i (by lia)];exact q) (.inl (PyProof.noPylong_small (by lia)))
theorem bD:pM X (binaryOp .Mod) (rI (fun _ j=>0<j) fun i j=>.int (i % j)):=Mh fun i j _ _ _ _ _ hc q=>by
 have h1:(0:Int)<j:=hc
 exact mod_int' (by lia) (by rw [Int.fmod_eq_emod_of_nonneg i (by lia)];exact q)
theorem DP:pM X (binaryOp .Mod) (rI (fun _ j=>j≠0) fun i j=>.int (i.fmod j)):=Mh fun _ _ _ _ _ _ _ hc q=>mod_int' hc q
theorem GZ:pM X (binaryOp .Pow) (rI WK fun i j=>.int (i ^ j.toNat)):=Mh fun _ _ _ _ _ _ _ hc q=>pow_int_small hc.1 hc.2.1 hc.2.2 q
theorem unI{f:Value->Sem Value}{g:Int->Int}
  (rule:∀ (i:Int) (t:Tok) (s:Shared) (Q:Value->Shared->Prop) (E:Value->Shared->Prop),Q (.int (g i) s.toks) { s with toks:=s.toks+1 }->wpAny (model X.prog X.w) X.A (f (.int i t)) Q E s) :
  WJ X f (rU fun i=>.int (g i)):=by
 intro pins s σ H x v Q I rx h
 obtain ⟨i,rfl,q⟩:=h
 obtain ⟨t,rfl⟩:=rx
 exact rule i t s _ _ ⟨.int (g i),H,I.tok _,⟨_,rfl⟩,q⟩
theorem rR:WJ X (unaryOp .USub) (rU fun i=>.int (-i)):=unI fun _ _ _ _ _ q=>neg_int q
end
def Rb:V->V->Bool
 | .fw,.fw=>true|.fw,.int _=>true|.int _,.fw=>true|.fw,.bl _=>true|.bl _,.fw=>true|.fw,.str _=>true|.str _,.fw=>true
 | .int _,.int _=>true|.bl _,.bl _=>true|.str _,.str _=>true|.Gw _,.Gw _=>true
 | .int _,.str _=>true|.str _,.int _=>true|.bl _,.str _=>true|.str _,.bl _=>true
 | _,_=>false
def WL:R2:=fun x y H Q=>Rb x y=true/\Q (.bl (decide (x=y))) H
def rNe:R2:=fun x y H Q=>Rb x y=true/\Q (.bl (!decide (x=y))) H
theorem DQ{i j:Int}:decide (V.int i=V.int j)=(i == j):=by
 rw [Bool.eq_iff_iff]
 simp
theorem G1{i j:Bool}:decide (V.bl i=V.bl j)=(i == j):=by
 rw [Bool.eq_iff_iff]
 simp
theorem DS{i j:Str}:decide (V.str i=V.str j)=(i == j):=by
 rw [Bool.eq_iff_iff]
 simp
theorem DT{i j:Array UInt8}:decide (V.Gw i=V.Gw j)=(i.toList == j.toList):=by
 rw [Bool.eq_iff_iff]
 cases i
 cases j
 simp
section
variable {X:Cx}{a b c:Expr}{ta tb tc:TE}{pos:Pos}
theorem bZ{pins:List (Addr×Obj)}{σ:St}{H:Hp}{s:Shared}{Q:VK}{k k':Bool}(I:Inv X pins σ H s)(q:Q (.bl k) H)(e:k=k'):EP X pins σ Q (.bool k') s:=by
 subst e
 exact⟨.bl k,H,I,rfl,q⟩
theorem dH:pM X (compareOp .Eq) WL:=by
 intro pins s σ H x y v u Q I rx ry h
 obtain ⟨hs,q⟩:=h
 cases x with
 | fw =>
  cases rx
  cases y with
  | fw=>cases ry;exact PySem.EqNone.eq_none_none (bZ I q (by simp))
  | bl j=>cases ry;exact PySem.EqNone.eq_none_bool (bZ I q (by simp))
  | int j=>obtain ⟨t',rfl⟩:=ry;exact PySem.EqNone.eq_none_int (bZ I q (by simp))
  | str j=>obtain ⟨t',rfl⟩:=ry;exact PySem.EqNone.eq_none_str (bZ I q (by simp))
  | _=>exact absurd (show false=true from hs) Bool.false_ne_true
 | bl i =>
  cases rx
  cases y with
  | fw=>cases ry;exact PySem.EqNone.eq_bool_none (bZ I q (by simp))
  | bl j=>cases ry;exact eq_bool (bZ I q G1)
  | str j=>obtain ⟨t',rfl⟩:=ry;exact PySem.EqMixed.eq_bool_str (bZ I q (by simp))
  | _=>exact absurd (show false=true from hs) Bool.false_ne_true
 | int i =>
  obtain ⟨t,rfl⟩:=rx
  cases y with
  | fw=>cases ry;exact PySem.EqNone.eq_int_none (bZ I q (by simp))
  | int j=>obtain ⟨t',rfl⟩:=ry;exact eq_int (bZ I q DQ)
  | str j=>obtain ⟨t',rfl⟩:=ry;exact PySem.EqMixed.eq_int_str (bZ I q (by simp))
  | _=>exact absurd (show false=true from hs) Bool.false_ne_true
 | str i =>
  obtain ⟨t,rfl⟩:=rx
  cases y with
  | fw=>cases ry;exact PySem.EqNone.eq_str_none (bZ I q (by simp))
  | bl j=>cases ry;exact PySem.EqMixed.eq_str_bool (bZ I q (by simp))
  | int j=>obtain ⟨t',rfl⟩:=ry;exact PySem.EqMixed.eq_str_int (bZ I q (by simp))
  | str j=>obtain ⟨t',rfl⟩:=ry;exact eq_str (bZ I q DS)
  | _=>exact absurd (show false=true from hs) Bool.false_ne_true
 | Gw i =>
  obtain ⟨t,rfl⟩:=rx
  cases y with
  | Gw j=>obtain ⟨t',rfl⟩:=ry;exact PySem.W.eq_bytes (bZ I q DT)
  | _=>exact absurd (show false=true from hs) Bool.false_ne_true
 | _=>cases y <;> exact absurd (show false=true from hs) Bool.false_ne_true
theorem gc:pM X (compareOp .NotEq) rNe:=by
 intro pins s σ H x y v u Q I rx ry h
 obtain ⟨hs,q⟩:=h
 cases x with
 | fw =>
  cases rx
  cases y with
  | fw=>cases ry;exact PySem.EqNone.ne_none_none (bZ I q (by simp))
  | bl j=>cases ry;exact PySem.EqNone.ne_none_bool (bZ I q (by simp))
  | int j=>obtain ⟨t',rfl⟩:=ry;exact PySem.EqNone.ne_none_int (bZ I q (by simp))
  | str j=>obtain ⟨t',rfl⟩:=ry;exact PySem.EqNone.ne_none_str (bZ I q (by simp))
  | _=>exact absurd (show false=true from hs) Bool.false_ne_true
 | bl i =>
  cases rx
  cases y with
  | fw=>cases ry;exact PySem.EqNone.ne_bool_none (bZ I q (by simp))
  | bl j=>cases ry;exact ne_bool (bZ I q (congrArg not G1))
  | str j=>obtain ⟨t',rfl⟩:=ry;exact PySem.EqMixed.ne_bool_str (bZ I q (by simp))
  | _=>exact absurd (show false=true from hs) Bool.false_ne_true
 | int i =>
  obtain ⟨t,rfl⟩:=rx
  cases y with
  | fw=>cases ry;exact PySem.EqNone.ne_int_none (bZ I q (by simp))
  | int j=>obtain ⟨t',rfl⟩:=ry;exact ne_int (bZ I q (congrArg not DQ))
  | str j=>obtain ⟨t',rfl⟩:=ry;exact PySem.EqMixed.ne_int_str (bZ I q (by simp))
  | _=>exact absurd (show false=true from hs) Bool.false_ne_true
 | str i =>
  obtain ⟨t,rfl⟩:=rx
  cases y with
  | fw=>cases ry;exact PySem.EqNone.ne_str_none (bZ I q (by simp))
  | bl j=>cases ry;exact PySem.EqMixed.ne_str_bool (bZ I q (by simp))
  | int j=>obtain ⟨t',rfl⟩:=ry;exact PySem.EqMixed.ne_str_int (bZ I q (by simp))
  | str j=>obtain ⟨t',rfl⟩:=ry;exact ne_str (bZ I q (congrArg not DS))
  | _=>exact absurd (show false=true from hs) Bool.false_ne_true
 | Gw i =>
  obtain ⟨t,rfl⟩:=rx
  cases y with
  | Gw j=>obtain ⟨t',rfl⟩:=ry;exact PySem.W.ne_bytes (bZ I q (congrArg not DT))
  | _=>exact absurd (show false=true from hs) Bool.false_ne_true
 | _=>cases y <;> exact absurd (show false=true from hs) Bool.false_ne_true
theorem vo:pM X (compareOp .Lt) (Mg fun i j=>.bl (decide (i<j))):=Ra fun _ _ _ _ _ _ _ q=>lt_int q
theorem yh:pM X (compareOp .Gt) (Mg fun i j=>.bl (decide (j<i))):=Ra fun _ _ _ _ _ _ _ q=>gt_int q
theorem Cn:pM X (compareOp .Is) (fun x y H Q=>y=.fw/\Q (.bl (decide (x=.fw))) H):=by
 intro pins s σ H x y v u Q I rx ry h
 obtain ⟨rfl,q⟩:=h
 cases ry
 refine is_none_gen (bZ I q ?_)
 cases x <;> first
  | (cases rx;rfl)
  | (obtain ⟨t,rfl⟩:=rx;rfl)
theorem DU:pM X (compareOp .IsNot) (fun x y H Q=>y=.fw/\Q (.bl (!decide (x=.fw))) H):=by
 intro pins s σ H x y v u Q I rx ry h
 obtain ⟨rfl,q⟩:=h
 cases ry
 refine isnot_none_gen (bZ I q ?_)
 cases x <;> first
  | (cases rx;rfl)
  | (obtain ⟨t,rfl⟩:=rx;rfl)
theorem aQ(b:Expr){op:CmpOp}(h:op≠.In:=by decide)(h2:op≠.NotIn:=by decide):behindInMarks op b=false:=by
 have e1:(op == CmpOp.In)=false:=by cases op <;> first|rfl|exact absurd rfl h
 have e2:(op == CmpOp.NotIn)=false:=by cases op <;> first|rfl|exact absurd rfl h2
 cases b <;> simp [behindInMarks,e1,e2]
theorem fo{op:CmpOp}{r:R2}(ho:pM X (compareOp op) r)(ha:PE X a ta)(hb:PE X b tb)(hm:behindInMarks op b=false):PE X (.Compare a [op] [b] pos) (Mf r ta tb):=by
 intro pins s σ H Q I h
 exact wpAny_Compare1 (Nk ha hb I h fun v u s2 x y H2 I2 rx ry q=>ho pins s2 σ H2 x y v u Q I2 rx ry q) hm
def Mi(t:TE):TT:=fun σ H Q=>t σ H fun x H'=>∃ k,x=.bl k/\Q k H'
theorem aM{op:CmpOp}{r:R2}(ho:pM X (compareOp op) r)(ha:PE X a ta)(hb:PE X b tb)(hm:behindInMarks op b=false):PT X (.Compare a [op] [b] pos) (Mi (Mf r ta tb)):=by
 intro pins s σ H Q I h
 refine wpAny_isTrue_Compare1 (di (ha pins s σ H _ I h) fun v s1 ⟨x,H1,I1,r1,q1⟩=>di (hb pins s1 σ H1 _ I1 q1) fun u s2 ⟨y,H2,I2,r2,q2⟩ =>
  di (ho pins s2 σ H2 x y v u _ I2 r1 r2 q2) fun c s3 ⟨z,H3,I3,r3,k,e,q3⟩=>?_) hm
 subst e
 cases r3
 exact wpAny_truthy_bool ⟨H3,I3,q3⟩
theorem vp:(sizeLine:Nat)<2 ^ 63:=by rw [sizeLine_eq];decide
theorem vals1{x:V}{us:List Value}(r:Vals [x] us):∃ u,us=[u]/\RelV x u:=by
 cases r with
 | cons r1 r2=>cases r2;exact⟨_,rfl,r1⟩
theorem vals2{x y:V}{us:List Value}(r:Vals [x,y] us):∃ u w',us=[u,w']/\RelV x u/\RelV y w':=by
 cases r with
 | cons r1 r2 =>
  cases r2 with
  | cons r3 r4=>cases r4;exact⟨_,_,rfl,r1,r3⟩
theorem G2:dU X (.builtin "abs") (fun xs H Q=>∃ i,xs=[.int i]/\Q (.int (if i<0 then -i else i)) H):=by
 intro pins s σ H xs us Q I r h
 obtain ⟨i,rfl,q⟩:=h
 obtain ⟨u,rfl,t,rfl⟩:=vals1 r
 exact call_abs_int fun u tk=>⟨.int (if i<0 then -i else i),H,I.tok _,⟨_,rfl⟩,q⟩
theorem EU (hc:X.calm=true):dU X (.builtin "max") (fun xs H Q=>∃ i j,xs=[.int i,.int j]/\Q (.int (if j > i then j else i)) H):=by
 intro pins s σ H xs us Q I r h
 obtain ⟨i,j,rfl,q⟩:=h
 obtain ⟨u,w',rfl,⟨t,rfl⟩,⟨t',rfl⟩⟩:=vals2 r
 refine max_two_ints (I.ok.hd hc) fun h' tk k=>⟨_,H,I.kept k,?_,q⟩
 by_cases hj:j > i
 ·rw [if_pos hj,if_pos hj];exact⟨_,rfl⟩
 ·rw [if_neg hj,if_neg hj];exact⟨_,rfl⟩
theorem EV:dU X (.type "int") (fun xs H Q=>(∃ i,xs=[.int i]/\Q (.int i) H)\/∃ k,xs=[.bl k]/\Q (.int (if k then 1 else 0)) H):=by
 intro pins s σ H xs us Q I r h
 rcases h with ⟨i,rfl,q⟩|⟨k,rfl,q⟩
 ·obtain ⟨u,rfl,t,rfl⟩:=vals1 r
  exact call_int_int ⟨.int i,H,I,⟨_,rfl⟩,q⟩
 ·obtain ⟨u,rfl,r1⟩:=vals1 r
  cases r1
  exact call_int_bool ⟨.int (if k then 1 else 0),H,I.tok _,⟨_,rfl⟩,q⟩
end
structure Co(h:Heap)(x dx C:Addr)(mA:Str->Option Value):Prop where
 obj:h.get? x=some (instObj C dx)
 ns:h.Ns1 dx mA
 ne:dx≠x
theorem EW{h:Heap}{dx:Addr}{mA:Str->Option Value}(n:h.Ns1 dx mA):∃ od,h.get? dx=some od/\∀ name,lookIn name od=some (mA name):=by
 obtain ⟨o,es,ep,ho,hd,hk,_,hm⟩:=n
 refine⟨o,ho,fun name=>?_⟩
 have e:=hm name
 unfold nsFind findBy at e
 rw [<- Array.find?_toList] at e
 unfold lookIn
 rw [hd]
 dsimp only
 split
 ·rename_i y q
  rw [q] at e
  exact congrArg some e
 ·rename_i q
  rw [q] at e
  have a:es.toList.any (·.refKey)=false:=by
   rw [List.any_eq_false]
   intro y hy
   obtain ⟨z,t,WM⟩:=hk y (Array.mem_toList_iff.mp hy)
   simp [DictEntry.refKey,WM]
  have a':¬ es.toList.any (·.refKey)=true:=by rw [a];exact Bool.false_ne_true
  rw [if_neg a']
  exact congrArg some e
theorem Co.look{h:Heap}{x dx C:Addr}{mA:Str->Option Value}(I:Co h x dx C mA):∃ od,InstAt h x (instObj C dx) C (some od)/\∀ name,lookIn name od=some (mA name) :=
 let ⟨od,ho,hl⟩:=EW I.ns
 ⟨od,⟨I.obj,rfl,rfl,ho⟩,hl⟩
section
variable {prog:Program}{w:World}{A:Around}{E:Value->Shared->Prop}{s:Shared}{K:Frag}{x dx C f:Addr}{mA:Str->Option Value}{name:Str}{v:Value}
theorem get_map{expr:Bool}{Q:Value->Shared->Prop}(X:K.In s.heap)(I:Co s.heap x dx C mA)(hg:plainGet K C name=true)(hh:hasDictIn K C=true)
  (ha:findIn K (.ref C) name=some none) (hv:mA name=some v) (hv':handedIn v=true) (h:Q v { s with toks:=s.toks+1 }) :
  wpAny (model prog w) A (getAttr (.ref x) name expr) Q E s:=by
 obtain ⟨od,J,hl⟩:=I.look
 exact PySem.W.get_value X J (plainGet_of hg).1 (PySem.W.findObj_own hh ha rfl (by rw [hl,hv])) hv' h
theorem G3{pl:Sem Bool}{Q:Value×List Value->Shared->Prop}(X:K.In s.heap)(I:Co s.heap x dx C mA)(hg:plainGet K C name=true)
  (hf:findIn K (.ref C) name=some (some (.ref f))) (ht:isFn K (.ref f)=true) (hv:mA name=none) (h:Q (.ref f,[.ref x]) s) :
  wpAny (model prog w) A (getMethod (.ref x) name pl) Q E s:=by
 obtain ⟨od,J,hl⟩:=I.look
 exact PySem.W.method_fn X J (plainGet_of hg).1 (plainGet_of hg).2 hf (beq_iff_eq.mp ht) (by show (lookIn name od).map (·.isSome)=some false;rw [hl,hv];rfl) h
theorem J8{ns:List Str}{Q:Unit->Shared->Prop}(X:K.In s.heap)(I:Co s.heap x dx C mA)
  (hs:findIn K (.ref C) "__setattr__"=some (some (.builtin "object.__setattr__"))) (hp:plainOver K C=true) (ht:takerIn K C name=some none) (hh:hasDictIn K C=true)
  (hw:PySem.Within mA ns) (xj:ns.length<=sizeLine)
  (h:∀ h',Co h' x dx C (fun y=>if y=name then some v else mA y)->Heap.SameBut dx s.heap h'->Q () { s with heap:=h',toks:=s.toks+2 }) :
  wpAny (model prog w) A (setAttr (.ref x) name v) Q E s:=by
 obtain ⟨od,J,hl⟩:=I.look
 refine PySem.W.set_plain X J hs (PySem.W.osa_open (s:={ s with toks:=s.toks+1 }) (r:=none) X J hp ht fun b=>?_)
 obtain ⟨cd,hc,Wz⟩:=PySem.W.any_some hh
 have hx:s.heap.get? x=some ⟨.ref C,some dx,.plain,#[]⟩:=I.obj
 refine afW (agc (afW (afW (wpAny_loadPart hx (afW (Looks.here (s:={ s with toks:=s.toks+1 }) (PySem.W.looks_clsIn X hc) ?_))))))
 rw [Wz]
 refine agc (a:=some dx) (afW (agc (afW ?_)))
 refine wpAny_nsSet1 (s:={ s with toks:=s.toks+1 }) I.ns fun h' hn2 jS=>?_
 obtain ⟨oD,esD,epD,hoD,hdD,hcD⟩:=hn2.count (PySem.Within.cons name v hw)
 refine afW (wpAny_lookBehind hoD (by rw [hdD];exact pastItsLine_dict (af0 hcD (by rw [length_cons];lia))) ?_)
 exact agc (h _ ⟨(jS.2 _ (Ne.symm I.ne)).trans I.obj,hn2,I.ne⟩ jS)
theorem AA{R:Result->Shared->Prop}{vs:List Value}{kw:List (Str×Value)}(X:K.In s.heap)(hm:makesIn K C=true)
  (hi:findIn K (.ref C) "__init__"=some (some (.ref f))) (hf:typeIn K (.ref f)=some (.type "function"))
  (h:codeAny (model prog w) (A.under (.builtin "type.__call__" ⟨.ref C::vs,kw⟩)) (.call (.ref f) ⟨.ref (s.heap.objs.size+1)::vs,kw⟩) (InitBack (s.heap.objs.size+1) R)
   { s with heap:=(s.heap.push emptyDict).push (instObj C s.heap.objs.size) }) :
  codeAny (model prog w) A (.call (.ref C) ⟨vs,kw⟩) R s:=by
 obtain ⟨hh,g,d,t,os⟩:=s
 exact make_core (makes_of X hm) (looks_findIn X hi) (fun self=>PySem.W.bind_fn X self hf) (.inl rfl) h
theorem EY{R:Result->Shared->Prop}(X:K.In s.heap)(hm:makesIn K C=true)
  (hi:findIn K (.ref C) "__init__"=some (some (.builtin "object.__init__")))
  (hb:∀ self,Looks (model prog w) s.heap (bindSpecial (.builtin "object.__init__") self) (.builtin "object.__init__",[self]))
  (h:codeAny (model prog w) (A.under (.builtin "type.__call__" ⟨[.ref C],[]⟩)) (.call (.builtin "object.__init__") ⟨[.ref (s.heap.objs.size+1)],[]⟩) (InitBack (s.heap.objs.size+1) R)
   { s with heap:=(s.heap.push emptyDict).push (instObj C s.heap.objs.size) }) :
  codeAny (model prog w) A (.call (.ref C) ⟨[],[]⟩) R s:=by
 obtain ⟨hh,g,d,t,os⟩:=s
 exact make_core (makes_of X hm) (looks_findIn X hi) hb (.inr ⟨rfl,rfl⟩) h
end
def lZ(f:Str)(v:V):List (Str×V)->List (Str×V)
 | []=>[(f,v)]
 | (g,x)::r=>if g=f then (g,v)::r else (g,x)::lZ f v r
theorem tY(f g:Str)(v:V):∀ fs:List (Str×V),(lZ f v fs).lookup g=if g=f then some v else fs.lookup g
 | []=>by
  show List.lookup g [(f,v)]=_
  by_cases h:g=f
  ·have hb:(g == f)=true:=beq_iff_eq.mpr h
   simp only [List.lookup,hb,if_pos h]
  ·have hb:(g == f)=false:=beq_eq_false_iff_ne.mpr h
   simp only [List.lookup,hb,if_neg h]
 | (k,x)::r=>by
  have ih:=tY f g v r
  rw [show lZ f v ((k,x)::r)=(if k=f then (k,v)::r else (k,x)::lZ f v r) from rfl]
  by_cases hk:k=f
  ·rw [if_pos hk]
   by_cases h:g=k
   ·have hb:(g == k)=true:=beq_iff_eq.mpr h
    simp only [List.lookup,hb,if_pos (h.trans hk)]
   ·have hb:(g == k)=false:=beq_eq_false_iff_ne.mpr h
    simp only [List.lookup,hb,if_neg (fun e:g=f=>h (e.trans hk.symm))]
  ·rw [if_neg hk]
   by_cases h:g=k
   ·have hb:(g == k)=true:=beq_iff_eq.mpr h
    simp only [List.lookup,hb,if_neg (fun e:g=f=>hk (h.symm.trans e))]
   ·have hb:(g == k)=false:=beq_eq_false_iff_ne.mpr h
    simp only [List.lookup,hb]
    exact ih
theorem rS(f:Str)(v:V):∀ fs:List (Str×V),f∈(lZ f v fs).map (·.1)/\∀ g,g∈fs.map (·.1)->g∈(lZ f v fs).map (·.1)
 | []=>⟨by simp [lZ],fun g h=>by simp at h⟩
 | (k,x)::r=>by
  obtain ⟨i1,i2⟩:=rS f v r
  rw [show lZ f v ((k,x)::r)=(if k=f then (k,v)::r else (k,x)::lZ f v r) from rfl]
  by_cases hk:k=f
  ·rw [if_pos hk]
   subst hk
   exact⟨by simp,fun g h=>by simpa using h⟩
  ·rw [if_neg hk]
   refine⟨?_,fun g h=>?_⟩
   ·rw [map_cons]
    exact agp _ i1
   ·rw [map_cons] at h ⊢
    rcases agq.mp h with e|e
    ·exact agq.mpr (.inl e)
    ·exact agp _ (i2 g e)
theorem tZ(f:Str)(v:V):∀ fs:List (Str×V),(lZ f v fs).length<=fs.length+1
 | []=>by simp [lZ]
 | (k,x)::r=>by
  have ih:=tZ f v r
  rw [show lZ f v ((k,x)::r)=(if k=f then (k,v)::r else (k,x)::lZ f v r) from rfl]
  by_cases hk:k=f
  ·rw [if_pos hk,length_cons,length_cons];lia
  ·rw [if_neg hk,length_cons,length_cons];lia
theorem xk.some_of{v:V}{o:Option Value}(r:xk (some v) o):∃ u,o=some u/\RelV v u:=by
 cases o with
 | none=>exact (show False from r).elim
 | some u=>exact⟨u,rfl,r⟩
theorem xk.none_of{o:Option Value}(r:xk none o):o=none:=by
 cases o with
 | none=>rfl
 | some u=>exact (show False from r).elim
theorem EZ{v:V}{u:Value}(r:RelV v u):handedIn u=true:=by
 cases v with
 | fw=>cases (show u=Value.none from r);rfl
 | bl b=>cases (show u=Value.bool b from r);rfl
 | int i=>obtain ⟨t,e⟩:=(show ∃ t,u=Value.int i t from r);cases e;rfl
 | str x=>obtain ⟨t,e⟩:=(show ∃ t,u=Value.str x t from r);cases e;rfl
 | Gw b=>obtain ⟨t,e⟩:=(show ∃ t,u=Value.bytes b t from r);cases e;rfl
 | M8 b=>obtain ⟨t,e⟩:=(show ∃ t,u=Value.float b t from r);cases e;rfl
 | ref a=>cases (show u=Value.ref a from r);rfl
 | ty n=>cases (show u=Value.type n from r);rfl
section
variable {P:Program}{w:World}{H H':Hp}{h h':Heap}{a C dx:Addr}{fs fs':List (Str×V)}
theorem uW(cA:kD P w H h)(e:H a=some (.ins C dx fs)):∃ mA,Co h a dx C mA/\(∀ f,xk (fs.lookup f) (mA f))/\PySem.Within mA (fs.map (·.1))/\fs.length<=1000/\H dx=some (.own a):=by
 obtain ⟨d,z,ne,ob,mA,n,r,q⟩:=(show eG P w H h a (.ins C dx fs) from cA a _ e)
 exact⟨mA,⟨ob,n,ne⟩,r,q,z,d⟩
end
structure yj(K:Frag)(C:Addr):Prop where
 pg:plainGet K C Str.empty=true
 hd:hasDictIn K C=true
 po:plainOver K C=true
 sa:findIn K (.ref C) "__setattr__"=some (some (.builtin "object.__setattr__"))
theorem yj.get{K:Frag}{C:Addr}(c:yj K C)(f:Str):plainGet K C f=true:=c.pg
def gd(K:Frag)(C:Addr)(f:Str):Prop:=findIn K (.ref C) f=some none
theorem gd.Rc{K:Frag}{C:Addr}{f:Str}(n:gd K C f):takerIn K C f=some none:=by
 unfold takerIn
 rw [show findIn K (.ref C) f=some none from n]
 rfl
structure Meth(K:Frag)(C:Addr)(m:Str)(f:Addr):Prop where
 at_:findIn K (.ref C) m=some (some (.ref f))
 fn:isFn K (.ref f)=true
 kp:keepIn K (.ref f)=true
section
variable {X:Cx}{pins:List (Addr×Obj)}{σ:St}{H:Hp}{s:Shared}{a C dx:Addr}{fs:List (Str×V)}{f:Str}{v:V}{A:Around}{E:Value->Shared->Prop}
theorem Cp{b:Bool}{Q:Value->Shared->Prop}(I:Inv X pins σ H s)(e:H a=some (.ins C dx fs))(c:yj X.K C)(n:gd X.K C f)(l:fs.lookup f=some v)
  (h:∀ u s',Inv X pins σ H s'->RelV v u->Q u s'):wpAny (model X.prog X.w) A (getAttr (.ref a) f b) Q E s:=by
 obtain ⟨mA,O,r,_,_,_⟩:=uW I.cA e
 obtain ⟨u,hu,ru⟩:=xk.some_of (v:=v) (o:=mA f) (by rw [<- l];exact r f)
 exact get_map I.mC O (c.get f) c.hd n hu (EZ ru) (h u _ (I.tok _) ru)
theorem vq{m:Str}{g:Addr}{pl:Sem Bool}{Q:Value×List Value->Shared->Prop}(I:Inv X pins σ H s)(e:H a=some (.ins C dx fs))(c:yj X.K C)(k:Meth X.K C m g)(l:fs.lookup m=none)
  (h:Q (.ref g,[.ref a]) s):wpAny (model X.prog X.w) A (getMethod (.ref a) m pl) Q E s:=by
 obtain ⟨mA,O,r,_,_,_⟩:=uW I.cA e
 have hn:mA m=none:=xk.none_of (by rw [<- l];exact r m)
 exact G3 I.mC O (c.get m) k.at_ k.fn hn h
theorem Cq{y:V}{u:Value}{Q:Unit->Shared->Prop}(I:Inv X pins σ H s)(e:H a=some (.ins C dx fs))(c:yj X.K C)(n:gd X.K C f)(hl:fs.length<1000)(ry:RelV y u)
  (h:∀ s',Inv X pins σ (upd H a (.ins C dx (lZ f y fs))) s'->Q () s'):wpAny (model X.prog X.w) A (setAttr (.ref a) f u) Q E s:=by
 obtain ⟨mA,O,r,wi,_,ho⟩:=uW I.cA e
 have hz:(fs.map (·.1)).length<=sizeLine:=by rw [agm,sizeLine_eq];lia
 refine J8 I.mC O c.sa c.po n.Rc c.hd wi hz fun h' O' sb=>h _ ?_
 have hd:∃ o,h'.get? dx=some o:=let ⟨o,_,_,e',_⟩:=O'.ns;⟨o,e'⟩
 refine I.write (x:=a) (e:=dx) (by rw [e];exact True.intro) (.inr ho) (fun b q hb z=>(sb.2 b hb).trans z) hd ?_
 refine⟨by rw [aG O.ne];exact ho,?_,O.ne,O'.obj,_,O'.ns,fun g=>?_,fun g hg=>?_⟩
 ·have:=tZ f y fs;lia
 ·show xk ((lZ f y fs).lookup g) (if g=f then some u else mA g)
  rw [tY]
  by_cases q:g=f
  ·rw [if_pos q,if_pos q];exact ry
  ·rw [if_neg q,if_neg q];exact r g
 ·by_cases q:g=f
  ·rw [q];exact (rS f y fs).1
  ·refine (rS f y fs).2 g (wi g fun z=>hg ?_)
   show (if g=f then some u else mA g)=none
   rw [if_neg q];exact z
theorem Inv.made(I:Inv X pins σ H s):Inv X pins σ (upd (upd H s.heap.objs.size (.own (s.heap.objs.size+1))) (s.heap.objs.size+1) (.ins C s.heap.objs.size []))
  { s with heap:=(s.heap.push emptyDict).push (instObj C s.heap.objs.size) }:=by
 have e1:(s.heap.push emptyDict).get? s.heap.objs.size=some emptyDict:=afZ s.heap rfl
 have e2:((s.heap.push emptyDict).push (instObj C s.heap.objs.size)).get? (s.heap.objs.size+1)=some (instObj C s.heap.objs.size):=by
  have:=afZ (s.heap.push emptyDict) (o:=instObj C s.heap.objs.size) rfl
  rwa [Heap.size_push] at this
 have e3:(s.heap.push emptyDict).Ns s.heap.objs.size (fun _=>none):=⟨emptyDict,#[],_,e1,rfl,(fun e he=>absurd he (by simp)),fun _=>rfl⟩
 have I1:=I.laid (a:=s.heap.objs.size) (o:=.own (s.heap.objs.size+1)) (h':=s.heap.push emptyDict) (t':=s.toks) (fun b u q=>afV _ q) (af1 _) ⟨_,e1⟩
 refine I1.laid (a:=s.heap.objs.size+1) (o:=.ins C s.heap.objs.size []) (t':=s.toks) (fun b u q=>afV _ q) (le_of_eq (Heap.size_push _ _)) ?_
 have ne:s.heap.objs.size≠s.heap.objs.size+1:=agN (lt_succ_self _)
 refine⟨by rw [aG ne,aw],agM _,ne,e2,fun _=>none,(Heap.Ns1.of_empty e3).at fun o q=>afV _ q,fun _=>True.intro,fun y hy=>absurd rfl hy⟩
theorem J9{prog:Program}{w:World}{env:Env}{e:Expr}{f:Str}{pos:Pos}{s:Shared}{Q:Value->Shared->Prop}(hb:attributeBase e f env (eval e env)=eval e env)
  (h:wpAny (model prog w) A (eval e env) (fun o s₁=>wpAny (model prog w) A (getAttr o f true) Q E s₁) E s):wpAny (model prog w) A (eval (.Attribute e f pos) env) Q E s :=
 Attribute_any_ h (by rw [arm_eval_Attribute,hb])
end
def Nm(K:Frag)(ta:TE)(f:Str):TE:=fun σ H Q=>ta σ H fun x H1=>∃ a C dx fs v,x=.ref a/\H1 a=some (.ins C dx fs)/\yj K C/\gd K C f/\fs.lookup f=some v/\Q v H1
def Nn(K:Frag)(ta tv:TE)(f:Str):TS:=fun D σ H=>tv σ H fun y H1=>ta σ H1 fun x H2=>∃ a C dx fs,x=.ref a/\H2 a=some (.ins C dx fs)/\yj K C/\gd K C f/\fs.length<1000 /\
 D.nx σ (upd H2 a (.ins C dx (lZ f y fs)))
section
variable {X:Cx}{o e value:Expr}{f:Str}{pos pos' AB:Pos}{ta tv:TE}
theorem Np(he:PE X e ta)(hb:attributeBase e f X.env (eval e X.env)=eval e X.env):PE X (.Attribute e f pos) (Nm X.K ta f):=by
 intro pins s σ H Q I h
 refine J9 hb (di (he pins s σ H _ I h) fun u s1 ⟨x,H1,I1,rx,a,C,dx,fs,v,ex,ea,c,n,l,q⟩=>?_)
 subst ex
 obtain rfl:u=Value.ref a:=rx
 exact Cp I1 ea c n l fun u' s2 I2 ru=>⟨v,H1,I2,ru,q⟩
theorem Nq(ha:PE X o ta)(hv:PE X value tv)(hs:swapsWith value (some (.Attribute o f pos')) pos.line X.env=pure false):PS X (.Assign [.Attribute o f pos'] value pos) (Nn X.K ta tv f):=by
 intro pins s σ H D I h
 refine plainObj_wpAny_Assign_Attribute (di (hv pins s σ H _ I h) fun u s1 ⟨y,H1,I1,ry,q⟩=>di (ha pins s1 σ H1 _ I1 q) fun ov s2 ⟨x,H2,I2,rx,a,C,dx,fs,ex,ea,c,n,l,q2⟩=>?_) hs
 subst ex
 obtain rfl:ov=Value.ref a:=rx
 exact Cq I2 ea c n l ry fun s3 I3=>⟨σ,_,I3,q2⟩
end
section
variable {X:Cx}{pins:List (Addr×Obj)}{σ:St}{H:Hp}{s:Shared}{A:Around}{E:Value->Shared->Prop}{Q:Value->Shared->Prop}{c:Value}{b:Bool}
inductive rT(K:Frag)(H:Hp):V->Value->Prop where
 | fw:rT K H .fw (.type "NoneType")
 | bl (x:Bool):rT K H (.bl x) (.type "bool")
 | int (i:Int):rT K H (.int i) (.type "int")
 | str (x:Str):rT K H (.str x) (.type "str")
 | M8 (x:UInt64):rT K H (.M8 x) (.type "float")
 | lst {a:Addr} {xs:List V} (e:H a=some (.lst xs)):rT K H (.ref a) (.type "list")
 | yb {a:Addr} {o:Obj} {xs:List V} (e:H a=some (.yb o (.lst xs))):rT K H (.ref a) (.type "list")
 | tup {a:Addr} {xs:List V} (e:H a=some (.tup xs)):rT K H (.ref a) (.type "tuple")
 | dK {a:Addr} {rJ:List (Key×V)} (e:H a=some (.dK rJ)):rT K H (.ref a) (.type "dict")
 | dT {a:Addr} {rJ:List (List Key×V)} (e:H a=some (.dT rJ)):rT K H (.ref a) (.type "dict")
 | ins {a C dx:Addr} {fs:List (Str×V)} (e:H a=some (.ins C dx fs)) (cl:yj K C) (ha:findIn K (.ref C) "__class__"=some (some (.builtin "object.__class__")))
   (hn:specialIn K (.builtin "object.__class__") "__get__"=some (some (.builtin "getset_descriptor.__get__"))) (htk:takesIn K (.builtin "object.__class__")=some true)
   (hm:mroIn K C (.type "object")=some true):rT K H (.ref a) (.ref C)
theorem E1{x:V}{u t:Value}(I:Inv X pins σ H s)(rx:RelV x u)(ty:rT X.K H x t)(e:kitOne X.K t c=some b)(h:∀ tk,Q (.bool b) { s with toks:=tk }) :
  wpAny (model X.prog X.w) A (call (.builtin "isinstance") [u,c]) Q E s:=by
 cases ty with
 | fw=>cases (show u=Value.none from rx);exact kia_one PySem.W.kitx_none I.mC True.intro e (fun z=>nomatch z) h
 | bl y=>cases (show u=Value.bool y from rx);exact kia_one PySem.W.kitx_bool I.mC True.intro e (fun z=>nomatch z) h
 | int i=>obtain ⟨t,q⟩:=(show ∃ t,u=Value.int i t from rx);cases q;exact kia_one PySem.W.kitx_int I.mC True.intro e (fun z=>nomatch z) h
 | str y=>obtain ⟨t,q⟩:=(show ∃ t,u=Value.str y t from rx);cases q;exact kia_one PySem.W.kitx_str I.mC True.intro e (fun z=>nomatch z) h
 | M8 y=>obtain ⟨t,q⟩:=(show ∃ t,u=Value.float y t from rx);cases q;exact kia_one PySem.W.kitx_float I.mC True.intro e (fun z=>nomatch z) h
 | @lst a xs ea =>
  cases (show u=Value.ref a from rx)
  obtain ⟨_,_,n,_,h1⟩:=(show eG X.prog X.w H s.heap a (.lst xs) from I.cA a _ ea)
  exact kia_one kitx_list I.mC ⟨_,h1,rfl⟩ e (fun z=>nomatch z) h
 | @yb a ob xs ea =>
  cases (show u=Value.ref a from rx)
  obtain ⟨_,_,_,n,_,h1⟩:=(show eG X.prog X.w H s.heap a (.yb ob (.lst xs)) from I.cA a _ ea)
  exact kia_one kitx_list I.mC ⟨_,h1,rfl⟩ e (fun z=>nomatch z) h
 | @tup a xs ea =>
  cases (show u=Value.ref a from rx)
  obtain ⟨_,_,_,p⟩:=(show eG X.prog X.w H s.heap a (.tup xs) from I.cA a _ ea)
  obtain ⟨o,h1,h2,_⟩:=p
  exact kia_one kitx_tuple I.mC ⟨o,h1,h2⟩ e (fun z=>nomatch z) h
 | @dK a rJ ea =>
  cases (show u=Value.ref a from rx)
  obtain ⟨_,_,vs,_,p⟩:=(show eG X.prog X.w H s.heap a (.dK rJ) from I.cA a _ ea)
  obtain ⟨o,es,ep,h1,h2,_⟩:=p
  exact kia_one kitx_dict I.mC ⟨o,h1,h2.1⟩ e (fun z=>nomatch z) h
 | @dT a rJ ea =>
  cases (show u=Value.ref a from rx)
  obtain ⟨_,_,xs,_,o,es,ep,h1,h2,_⟩:=(show eG X.prog X.w H s.heap a (.dT rJ) from I.cA a _ ea)
  exact kia_one kitx_dict I.mC ⟨o,h1,h2.1⟩ e (fun z=>nomatch z) h
 | @ins a C dx fs ea cl ha hn htk hm =>
  cases (show u=Value.ref a from rx)
  obtain ⟨mA,O,_⟩:=uW I.cA ea
  obtain ⟨od,J,_⟩:=O.look
  exact kia_one (PySem.W.kitx_own (cl.get _) cl.hd ha hn htk hm) I.mC J e (fun z=>nomatch z) h
end
structure dF(k:Nat)(A:Around):Prop where
 hd:A.handled=none
 dp:A.depth+3*k+5<recursionLimit
 un:A.units+16*k+200<cLine
theorem dF.mono{j k:Nat}{A:Around}(r:dF k A)(h:j<=k):dF j A:=⟨r.hd,by have:=r.dp;lia,by have:=r.un;lia⟩
theorem dF.deeper{k:Nat}{A:Around}(r:dF (k+1) A)(env:Env):dF k (A.deeper env) :=
 ⟨r.hd,by have:=r.dp;show A.depth+1+3*k+5<_;lia,by have:=r.un;show A.units+3+16*k+200<_;lia⟩
theorem dF.in1{k:Nat}{A:Around}(r:dF (k+1) A):dF k A.in1 :=
 ⟨r.hd,by have:=r.dp;show A.depth+3*k+5<_;lia,by have:=r.un;show A.units+1+16*k+200<_;lia⟩
theorem Cr {A:Around} {C:Addr} {us:List Value} {kw:List (Str×Value)}:(A.under (.builtin "type.__call__" ⟨.ref C::us,kw⟩)).depth=A.depth+1:=by
 first|rfl|simp [Around.under,Code.weight,Code.isCreation,Code.isGuard,Code.isCaller,Code.frames,Code.isFrame,guardIds]
theorem Cs {A:Around} {C:Addr} {us:List Value} {kw:List (Str×Value)}:(A.under (.builtin "type.__call__" ⟨.ref C::us,kw⟩)).units=A.units+1:=by
 first|rfl|simp [Around.under,Code.cUnits,Code.frames,Code.isFrame]
theorem dF.make {k:Nat} {A:Around} (r:dF (k+1) A) (C:Addr) (us:List Value) (kw:List (Str×Value)):dF k (A.under (.builtin "type.__call__" ⟨.ref C::us,kw⟩)) :=
 ⟨r.hd,by have:=r.dp;rw [Cr];lia,by have:=r.un;rw [Cs];lia⟩
theorem dF.depth{k:Nat}{A:Around}(r:dF k A):A.depth<recursionLimit:=by have:=r.dp;lia
theorem dF.units{k:Nat}{A:Around}(r:dF k A):A.units+64<cLine:=by have:=r.un;lia
def vt:TA:=fun _ H Q=>Q [] H
def AD(ta:TE)(tr:TA):TA:=fun σ H Q=>ta σ H fun x H1=>tr σ H1 fun xs H2=>Q (x::xs) H2
section
variable {X:Cx}{e:Expr}{es:List Expr}{te:TE}{t:TA}{pos:Pos}
theorem af:PA X [] vt:=fun _ _ _ _ H Q I h=>Calls.spliced_nil ⟨[],H,I,.nil,h⟩
theorem aa(ha:PE X e te)(hr:PA X es t)(hs:starEach (e::es) X.env=(false,eval e X.env)::starEach es X.env:=by rfl):PA X (e::es) (AD te t):=by
 intro pos pins s σ H Q I h
 rw [hs]
 show wpAny _ _ (spliced ((false,eval e X.env)::backTo pos (starEach es X.env))) _ _ s
 refine Calls.spliced_cons (di (ha pins s σ H _ I h) fun u s1 ⟨x,H1,I1,r1,q1⟩=>?_)
 exact di (hr pos pins s1 σ H1 _ I1 q1) fun us s2 ⟨xs,H2,I2,r2,q2⟩=>⟨x::xs,H2,I2,.cons r1 r2,q2⟩
def Rf(t:TA):TE:=fun σ H Q=>t σ H fun xs H1=>xs.length<=sizeLine/\∀ p,H1 p=none->Q (.ref p) (upd H1 p (.tup xs))
def Rg(t:TA):TE:=fun σ H Q=>t σ H fun xs H1=>xs.length<=sizeLine/\∀ p,H1 p=none->Q (.ref p) (upd H1 p (.lst xs))
theorem cP{x1}(h:PA X es t):PE X (.Tuple es x1 pos) (Rf t):=by
 intro pins s σ H Q I hq
 refine wpAny_Tuple_spliced (di (h pos pins s σ H _ I hq) fun us s1 ⟨xs,H1,I1,r,z,q⟩=>⟨by rw [<- r.length];exact z,?_⟩)
 have hf:H1 s1.heap.objs.size=none:=I1.cA.fresh (af1 _)
 refine⟨.ref s1.heap.objs.size,upd H1 s1.heap.objs.size (.tup xs),I1.laid (t':=s1.toks) (fun b u e=>afV _ e) (af1 _) ?_,rfl,q _ hf⟩
 exact⟨z,us,r,⟨_,afZ _ rfl,rfl,_,rfl⟩⟩
theorem dk(h:PA X es t):PE X (.List es pos) (Rg t):=by
 intro pins s σ H Q I hq
 refine wpAny_List_spliced (di (h pos pins s σ H _ I hq) fun us s1 ⟨xs,H1,I1,r,z,q⟩=>⟨by rw [<- r.length];exact z,?_⟩)
 have hf:H1 s1.heap.objs.size=none:=I1.cA.fresh (af1 _)
 refine⟨.ref s1.heap.objs.size,upd H1 s1.heap.objs.size (.lst xs),I1.laid (t':=s1.toks) (fun b u e=>afV _ e) (af1 _) ?_,rfl,q _ hf⟩
 exact⟨z,us,0,r,afZ _ rfl⟩
end
abbrev Sp:=List V->Hp->VK->XK->Prop
abbrev G4:=List Env->Hp->Shared->XK->Value->Shared->Prop
structure Ct(P:Program)(w:World)(K:Frag)(mg:Str->Option Value)(base:Heap)(A:Around)(outer:List Env)(s:Shared)(H:Hp):Prop where
 frames:A.frames=some outer
 mod:Mod K mg base
 bs:∀ b o,base.get? b=some o->s.heap.get? b=some o/\H b=none
 DM:base.objs.size<=s.heap.objs.size
 uq:s.heap.FunFrames base outer
 M9:∀ b∈yc outer,H b=none
 cA:kD P w H s.heap
 bare:AllBare s.gens
def CE(outer:List Env)(P:Program)(w:World)(H:Hp)(s:Shared)(Q:VK)(u:Value)(s':Shared):Prop :=
 ∃ v H',s'.os=s.os/\AllBare s'.gens/\Un (yc outer) [] H H' s.heap s'.heap/\kD P w H' s'.heap/\RelV v u/\Q v H'
def CR(CX:G4)(outer:List Env)(P:Program)(w:World)(H:Hp)(s:Shared)(Q:VK)(E:XK)(r:Result)(s':Shared):Prop :=
 match r with
 | .ok (.ret u)=>CE outer P w H s Q u s'
 | .ok _=>False
 | .error e=>CX outer H s E e s'
structure oJ(P:Program)(w:World)(K:Frag)(mg:Str->Option Value)(base:Heap)(CX:G4)(k:Nat)(f:Addr)(fd:FuncData)(ps:List Str)(sp:Sp):Prop where
 len:∀ vs H Q E,sp vs H Q E->vs.length=ps.length
 run:∀ (A:Around) (outer:List Env) (s:Shared) (H:Hp) (args:Args) (us:List Value) (vs:List V) (Q:VK) (E:XK),dF k A->Ct P w K mg base A outer s H->BindsTo s fd args (ps.zip us)->Vals vs us->sp vs H Q E ->
  codeAny (model P w) A (.call (.ref f) args) (CR CX outer P w H s Q E) s
theorem Ct.make{P:Program}{w:World}{K:Frag}{mg:Str->Option Value}{base:Heap}{A:Around}{outer:List Env}{s:Shared}{H:Hp}(e:Ct P w K mg base A outer s H)(C:Addr)(us:List Value)(kw:List (Str×Value)) :
  Ct P w K mg base (A.under (.builtin "type.__call__" ⟨.ref C::us,kw⟩)) outer s H:=⟨by first|exact e.frames|(simpa [Around.under,Code.envs,Code.isFrame,pushEnvs] using e.frames),e.mod,e.bs,e.DM,e.uq,e.M9,e.cA,e.bare⟩
section
variable {X:Cx}{pins:List (Addr×Obj)}{σ:St}{H:Hp}{s s':Shared}
theorem Inv.Nr(I:Inv X pins σ H s):Ct X.prog X.w X.K X.mg X.base X.A X.stack s H :=
 ⟨I.ok.frames,I.ok.mod,I.bs,af0 I.ok.DM I.sz,I.stack,I.nI,I.cA,I.bare⟩
theorem Inv.after{Q:VK}{u:Value}(I:Inv X pins σ H s)(h:CE X.stack X.prog X.w H s Q u s'):EP X pins σ Q u s':=by
 obtain ⟨v,H',os,bare,un,cA,r,q⟩:=h
 obtain ⟨hh,g,d,t,Ca⟩:=s'
 obtain rfl:Ca=s.os:=os
 exact⟨v,H',I.call (h':=hh) (g':=g) (d':=d) (t':=t) (ch:=[]) un cA bare (fun b z=>absurd z (by simp)),r,q⟩
end
def AE(sp:Sp)(xl:List V)(E:XK)(t:TA):TE:=fun σ H Q=>t σ H fun vs H1=>sp (vs++xl) H1 Q E
def j9(C:Addr)(m:Str)(sp:Sp)(xl:List V)(E:XK)(ta:TE)(t:TA):TE:=fun σ H Q=>ta σ H fun x H1=>∃ a dx fs,x=.ref a/\H1 a=some (.ins C dx fs)/\fs.lookup m=none /\
 t σ H1 fun vs H2=>sp (x::(vs++xl)) H2 Q E
def G5(C:Addr)(sp:Sp)(xl:List V)(E:XK)(t:TA):TE:=fun σ H Q=>t σ H fun vs H1=>∀ x dx,H1 x=none->H1 dx=none->dx≠x ->
 sp (.ref x::(vs++xl)) (upd (upd H1 dx (.own x)) x (.ins C dx [])) (fun v H2=>v=.fw/\Q (.ref x) H2) E
def Binds(K:Frag)(fd:FuncData)(ps:List Str)(ds:List Value):Prop :=
 ∀ (s:Shared) (us:List Value),K.In s.heap->(us++ds).length=ps.length->BindsTo s fd ⟨us,[]⟩ (ps.zip (us++ds))
theorem Binds.all{K:Frag}{fd:FuncData}{ps:List Str}(h:∀ us:List Value,us.length=ps.length->bindArgs fd ⟨us,[]⟩=pure (ps.zip us)):Binds K fd ps []:=fun s us _ hl=>by
 rw [append_nil] at hl ⊢
 exact .of_eq (h us hl)
def Passes(CX:G4)(X:Cx)(E:XK):Prop:=∀ (pins:List (Addr×Obj)) (σ:St) (H:Hp) (s:Shared) (e:Value) (s':Shared),Inv X pins σ H s->CX X.stack H s E e s'->X.xe e s'
section
variable {X:Cx}{CX:G4}{k:Nat}{f C:Addr}{fd:FuncData}{ps:List Str}{sp:Sp}{xl:List V}{ds:List Value}{E:XK}{x m:Str}{p pos apos:Pos}{e o:Expr}{es:List Expr}{ta:TE}{t:TA}
theorem yZ{pins:List (Addr×Obj)}{σ:St}{H:Hp}{s:Shared}{Q:VK}{us:List Value}{vs:List V}(F:oJ X.prog X.w X.K X.mg X.base CX k f fd ps sp)(hr:dF k X.A)(hb:Binds X.K fd ps ds)(hd:Vals xl ds)(hx:Passes CX X E)
  (I:Inv X pins σ H s) (r:Vals vs us) (h:sp (vs++xl) H Q E):wpAny (model X.prog X.w) X.A (call (.ref f) us) (EP X pins σ Q) X.xe s:=by
 have r2:Vals (vs++xl) (us++ds):=r.append hd
 have hl:(us++ds).length=ps.length:=by rw [<- r2.length];exact F.len _ _ _ _ h
 refine wpAny_call (codeAny_mono (F.run X.A X.stack s H ⟨us,[]⟩ (us++ds) (vs++xl) Q E hr I.Nr (hb s us I.mC hl) r2 h) fun r s' hq=>?_)
 cases r with
 | error e=>exact hx pins σ H s e s' I hq
 | ok fl =>
  cases fl with
  | ret u=>exact I.after hq
  | next=>exact False.elim hq
  | brk=>exact False.elim hq
  | cont=>exact False.elim hq
theorem Ka(F:oJ X.prog X.w X.K X.mg X.base CX k f fd ps sp)(hr:dF k X.A)(hg:Gl X x)(hm:X.mg x=some (.ref f))(hk:keepIn X.K (.ref f)=true)(hb:Binds X.K fd ps ds)(hd:Vals xl ds)(hx:Passes CX X E)
  (ha:PA X (e::es) t) (xm:(x == ("__debug__":Str))=false:=by decide) (he:starEach (e::es) X.env=(false,eval e X.env)::starEach es X.env:=by rfl) (ur:(backTo pos (starEach es X.env)).any (·.1)=false:=by rfl) :
  PE X (.Call (.Name x p) (e::es) [] pos) (AE sp xl E t):=by
 intro pins s σ H Q I h
 refine wpAny_Call_Name_kw (kG I hg hm ?_ xm)
 refine callWith_K (h₀:=X.base) I.ok.mod.L6 hk (di (ha pos pins s σ H _ I h) fun us s1 ⟨vs,H1,I1,r,q⟩=>⟨I1.mC,?_⟩) he ur
 exact yZ F hr hb hd hx I1 r q
theorem Kb{pl:Sem Bool}(he:PE X o ta)(c:yj X.K C)(hm:Meth X.K C m f)(F:oJ X.prog X.w X.K X.mg X.base CX k f fd ps sp)(hr:dF k X.A)(hb:Binds X.K fd ps ds)(hd:Vals xl ds)(hx:Passes CX X E)(ha:PA X (e::es) t)
  (oF:starEach (e::es) X.env=(false,eval e X.env)::starEach es X.env:=by rfl) (ur:(backTo pos (starEach es X.env)).any (·.1)=false:=by rfl)
  (ht:eval (.Call (.Attribute o m apos) (e::es) [] pos) X.env=(do
   let ov <- eval o X.env
   standAt apos.atName
   let (f,first) <- holding [ov] (getMethod ov m pl)
   callWith pos f first (backTo pos (starEach (e::es) X.env)) (backToKw pos (keywordEach [] X.env))):=by rfl) :
  PE X (.Call (.Attribute o m apos) (e::es) [] pos) (j9 C m sp xl E ta t):=by
 intro pins s σ H Q I h
 refine methodCall_KW (pl:=pl) (di (he pins s σ H _ I h) fun u s1 ⟨x,H1,I1,rx,a,dx,fs,ex,ea,l,q⟩=>?_) ht
 subst ex
 obtain rfl:u=Value.ref a:=rx
 refine vq I1 ea c hm l ?_
 refine callWith_K (first:=[.ref a]) (h₀:=X.base) I.ok.mod.L6 hm.kp (di (ha pos pins s1 σ H1 _ I1 q) fun us s2 ⟨vs,H2,I2,r,q2⟩=>⟨I2.mC,?_⟩) oF ur
 exact yZ (us:=.ref a::us) (vs:=.ref a::vs) F hr hb hd hx I2 (.cons rfl r) q2
theorem G6{pl:Sem Bool}(he:PE X o ta)(c:yj X.K C)(hm:Meth X.K C m f)(F:oJ X.prog X.w X.K X.mg X.base CX k f fd ps sp)(hr:dF k X.A)(hb:Binds X.K fd ps ds)(hd:Vals xl ds)(hx:Passes CX X E)
  (ht:eval (.Call (.Attribute o m apos) [] [] pos) X.env=(do
   let ov <- eval o X.env
   standAt apos.atName
   let (f,first) <- holding [ov] (getMethod ov m pl)
   callWith pos f first (backTo pos (starEach [] X.env)) (backToKw pos (keywordEach [] X.env))):=by rfl) :
  PE X (.Call (.Attribute o m apos) [] [] pos) (j9 C m sp xl E ta vt):=by
 intro pins s σ H Q I h
 refine methodCall_KW (pl:=pl) (di (he pins s σ H _ I h) fun u s1 ⟨x,H1,I1,rx,a,dx,fs,ex,ea,l,q⟩=>?_) ht
 subst ex
 obtain rfl:u=Value.ref a:=rx
 refine vq I1 ea c hm l ?_
 exact callWith_K0 (first:=[.ref a]) I1.mC hm.kp (yZ (us:=[.ref a]) (vs:=[.ref a]) F hr hb hd hx I1 (.cons rfl .nil) q)
structure Mk(K:Frag)(C f:Addr):Prop where
 makes:makesIn K C=true
 init:findIn K (.ref C) "__init__"=some (some (.ref f))
 fn:isFn K (.ref f)=true
 kp:keepIn K (.ref C)=true
theorem G7{pins:List (Addr×Obj)}{σ:St}{H:Hp}{s:Shared}{Q:VK}{us:List Value}{vs:List V}(M:Mk X.K C f)(F:oJ X.prog X.w X.K X.mg X.base CX k f fd ps sp)(hr:dF (k+1) X.A)(hb:Binds X.K fd ps ds)(hd:Vals xl ds)
  (hx:Passes CX X E) (I:Inv X pins σ H s) (r:Vals vs us)
  (h:∀ x dx,H x=none->H dx=none->dx≠x->sp (.ref x::(vs++xl)) (upd (upd H dx (.own x)) x (.ins C dx [])) (fun v H2=>v=.fw/\Q (.ref x) H2) E) :
  wpAny (model X.prog X.w) X.A (call (.ref C) us) (EP X pins σ Q) X.xe s:=by
 have hq:=h (s.heap.objs.size+1) s.heap.objs.size (I.cA.fresh (le_succ _)) (I.cA.fresh (af1 _)) (agN (lt_succ_self _))
 have I2:=Inv.made (C:=C) I
 have r2:Vals (V.ref (s.heap.objs.size+1)::(vs++xl)) (Value.ref (s.heap.objs.size+1)::(us++ds)):=.cons rfl (r.append hd)
 have hl:(Value.ref (s.heap.objs.size+1)::us++ds).length=ps.length:=by
  have e:=r2.length
  rw [F.len _ _ _ _ hq] at e
  exact e.symm
 refine wpAny_call (AA (f:=f) I.mC M.makes M.init (beq_iff_eq.mp M.fn) (codeAny_mono (F.run _ X.stack _ _ ⟨Value.ref (s.heap.objs.size+1)::us,[]⟩ (Value.ref (s.heap.objs.size+1)::(us++ds)) _ _ E (hr.make C us [])
  (I2.Nr.make C us []) (hb _ (Value.ref (s.heap.objs.size+1)::us) I2.mC hl) r2 hq) fun r s' rV=>?_))
 cases r with
 | error e=>exact hx pins σ _ _ e s' I2 rV
 | ok fl =>
  cases fl with
  | ret u =>
   obtain ⟨v,H',I3,rv,ev,q3⟩:=I2.after rV
   subst ev
   exact⟨rv,⟨V.ref (s.heap.objs.size+1),H',I3,rfl,q3⟩⟩
  | next=>exact False.elim rV
  | brk=>exact False.elim rV
  | cont=>exact False.elim rV
theorem Kc(M:Mk X.K C f)(F:oJ X.prog X.w X.K X.mg X.base CX k f fd ps sp)(hr:dF (k+1) X.A)(hg:Gl X x)(hm:X.mg x=some (.ref C))(hb:Binds X.K fd ps ds)(hd:Vals xl ds)(hx:Passes CX X E)
  (ha:PA X (e::es) t) (xm:(x == ("__debug__":Str))=false:=by decide) (he:starEach (e::es) X.env=(false,eval e X.env)::starEach es X.env:=by rfl) (ur:(backTo pos (starEach es X.env)).any (·.1)=false:=by rfl) :
  PE X (.Call (.Name x p) (e::es) [] pos) (G5 C sp xl E t):=by
 intro pins s σ H Q I h
 refine wpAny_Call_Name_kw (kG I hg hm ?_ xm)
 refine callWith_K (h₀:=X.base) I.ok.mod.L6 M.kp (di (ha pos pins s σ H _ I h) fun us s1 ⟨vs,H1,I1,r,q⟩=>⟨I1.mC,?_⟩) he ur
 exact G7 M F hr hb hd hx I1 r q
end
def PK(X:Cx)(Rh:List Keyword)(t:TA):Prop :=
 ∀ (pos:Pos) (pins:List (Addr×Obj)) (s:Shared) (σ:St) (H:Hp) (Q:List V->Hp->Prop),Inv X pins σ H s->t σ H Q->wpAny (model X.prog X.w) X.A (evalAll ((backToKw pos (keywordEach Rh X.env)).map (·.2))) (AP X pins σ Q) X.xe s
section
variable {X:Cx}{CX:G4}{k:Nat}{f C:Addr}{fd:FuncData}{ps ks:List Str}{sp:Sp}{E:XK}{x m:Str}{p pos apos G8:Pos}{e o:Expr}{es:List Expr}{Rh:List Keyword}{te ta:TE}{t tk:TA}{nm:Option Str}
theorem Nt:PK X [] vt:=fun _ _ _ _ H Q I h=>wpAny_evalAll_nil ⟨[],H,I,.nil,h⟩
theorem Kd(ha:PE X e te)(hr:PK X Rh t):PK X (⟨nm,e,G8⟩::Rh) (AD te t):=by
 intro pos pins s σ H Q I h
 show wpAny _ _ (evalAll ((do let v <- eval e X.env;standAt pos;pure v)::(backToKw pos (keywordEach Rh X.env)).map (·.2))) _ _ s
 refine wpAny_evalAll_cons (afW (di (ha pins s σ H _ I h) fun u s1 ⟨x,H1,I1,r1,q1⟩=>afW (wpAny_standAt (agc ?_))))
 exact di (hr pos pins s1 σ H1 _ I1 q1) fun us s2 ⟨xs,H2,I2,r2,q2⟩=>⟨x::xs,H2,I2,.cons r1 r2,q2⟩
variable {g:List Value->List Value->List Value}{gV:List V->List V->List V}
end
structure aN(N P:List Str)(sc:Scope):Prop where
 kind:sc.kind=.function
 co:sc.isCoroutine=false
 gen:sc.isGenerator=false
 nd:N.Nodup
 pre:N.take P.length=P
 par:∀ x∈P,sc.names.lookup x=some .local\/sc.names.lookup x=some .cell
 Nu:∀ y∈sc.names,y.2≠.free
theorem yk{kindOf:Str->Option NameKind}{x:Str}:∀ {binds:List (Str×Value)} {m:Str->Option Value},(∀ v,(x,v)∉binds)->bindL kindOf binds m x=m x
 | [],_,_=>rfl
 | (n,v)::r,m,h=>by
  unfold bindL
  rw [yk fun w hw=>h w (agp _ hw)]
  split
  ·have:x≠n:=by rintro rfl;exact h v mem_cons_self
   simp [this]
  ·rfl
theorem yl{kindOf:Str->Option NameKind}{x:Str}:∀ {binds:List (Str×Value)} {m:Str->Option Value},(∀ v,(x,v)∉binds)->bindC kindOf binds m x=m x
 | [],_,_=>rfl
 | (n,v)::r,m,h=>by
  unfold bindC
  rw [yl fun w hw=>h w (agp _ hw)]
  split
  ·rfl
  ·have:x≠n:=by rintro rfl;exact h v mem_cons_self
   simp [this]
theorem ym{kindOf:Str->Option NameKind}{x:Str}{v:Value}:∀ {P:List Str} {vs:List Value} {i:Nat} {m:Str->Option Value},P.Nodup->P[i]?=some x->vs[i]?=some v->kindOf x=some .local ->
  bindL kindOf (P.zip vs) m x=some v
 | [],_,_,_,_,h,_,_=>by simp at h
 | _::_,[],_,_,_,_,h,_=>by simp at h
 | p::P,w::vs,0,m,nd,h1,h2,hk=>by
  simp at h1 h2;subst h1;subst h2
  show bindL kindOf ((p,w)::P.zip vs) m p=_
  unfold bindL
  rw [yk fun v hv=>(nodup_cons.mp nd).1 (of_mem_zip hv).1,if_pos hk]
  simp
 | p::P,w::vs,i+1,m,nd,h1,h2,hk=>by
  show bindL kindOf ((p,w)::P.zip vs) m x=_
  unfold bindL
  exact ym (i:=i) (nodup_cons.mp nd).2 (by simpa using h1) (by simpa using h2) hk
theorem yn{kindOf:Str->Option NameKind}{x:Str}{v:Value}:∀ {P:List Str} {vs:List Value} {i:Nat} {m:Str->Option Value},P.Nodup->P[i]?=some x->vs[i]?=some v->kindOf x≠some .local ->
  bindC kindOf (P.zip vs) m x=some v
 | [],_,_,_,_,h,_,_=>by simp at h
 | _::_,[],_,_,_,_,h,_=>by simp at h
 | p::P,w::vs,0,m,nd,h1,h2,hk=>by
  simp at h1 h2;subst h1;subst h2
  show bindC kindOf ((p,w)::P.zip vs) m p=_
  unfold bindC
  rw [yl fun v hv=>(nodup_cons.mp nd).1 (of_mem_zip hv).1,if_neg hk]
  simp
 | p::P,w::vs,i+1,m,nd,h1,h2,hk=>by
  show bindC kindOf ((p,w)::P.zip vs) m x=_
  unfold bindC
  exact yn (i:=i) (nodup_cons.mp nd).2 (by simpa using h1) (by simpa using h2) hk
def start(N:List Str)(vs:List V):St:=vs.map some++List.replicate (N.length - vs.length) none
def rW(CX:G4)(P:Program)(w:World)(K:Frag)(mg:Str->Option Value)(base:Heap)(N:List Str)(qual:Str)(scope:Scope)(f:Addr)(cd:Value)(A:Around)(outer:List Env)(s:Shared)(H:Hp)(E:XK):Cx where
 prog:=P
 w:=w
 K:=K
 mg:=mg
 base:=base
 A:=A.deeper (envOfC qual scope s.heap.objs.size f cd)
 N:=N
 s₀:=s
 H₀:=H
 env:=envOfC qual scope s.heap.objs.size f cd
 outer:=outer
 stack:=envOfC qual scope s.heap.objs.size f cd::outer
 ex:=[]
 calm:=true
 fn:=fun _=>true
 pn:=[]
 xe:=fun e s'=>wpAny (model P w) (A.deeper (envOfC qual scope s.heap.objs.size f cd)) (leaving (envOfC qual scope s.heap.objs.size f cd) e) (fun _ WN=>CX outer H s E e WN) (fun e' WN=>CX outer H s E e' WN) s'
theorem AF{sc:Scope}{n:Nat}{x:Str}(h:sc.names.lookup x=some .cell):∃ c,(cellsFrom n sc.names []).lookup x=some c:=by
 have q:=cellsFrom_some sc.names n [] (.inl h)
 exact agb.mp q
theorem E2{CX:G4}{P:Program}{w:World}{K:Frag}{mg:Str->Option Value}{base:Heap}{N ps:List Str}{qual:Str}{scope:Scope}{f:Addr}{cd:Value}{A:Around}{outer:List Env}{s s1:Shared}{H:Hp}{E:XK}{us:List Value}{vs:List V}
  (S:aN N ps scope) (hd:A.handled=none) (e0:Ct P w K mg base A outer s H) (hl:vs.length=ps.length) (r:Vals vs us)
  (x:InCallC s s.heap.objs.size (bindL (envOfC qual scope s.heap.objs.size f cd).kindOf (ps.zip us) fun _=>none) (cellsFrom (s.heap.objs.size+1) scope.names []) (bindC (envOfC qual scope s.heap.objs.size f cd).kindOf (ps.zip us) fun _=>none) s1) :
  Inv (rW CX P w K mg base N qual scope f cd A outer s H E) [] (start N vs) H s1:=by
 have ur:ps.length<=N.length:=by have:=congrArg List.length S.pre;rw [agA] at this;lia
 obtain ⟨h1,tk,rfl,hk⟩:=x.done
 have Ri:∀ b:Addr,b∉(rW CX P w K mg base N qual scope f cd A outer s H E).ex:=fun b z=>absurd (show b∈([]:List Addr) from z) (by simp)
 refine⟨⟨e0.mod,S.kind,rfl,rfl,af1 _,fun y z c h1 h2=>?_,fun y hy=>?_,fun y c _ h=>?_,fun _=>hd,Around.frames_deeper e0.frames,.inr ⟨rfl,rfl⟩,fun b z=>absurd z (Ri b),e0.bs,e0.DM,fun b _ _=>Ri b,fun b z=>absurd z (Ri b),e0.uq,e0.M9⟩,
  rfl,e0.bare,Un.kept hk,⟨_,x.toInCall.ns,fun i y v h1 h2 h3=>?_⟩,fun y c h=>⟨_,x.cell y c h⟩,e0.cA.fresh (af1 _),fun y c h=>?_,fun p hp=>absurd (show p∈([]:List (Addr×Obj)) from hp) (by simp),e0.cA.kept hk,?_⟩
 ·exact name_of_addr x.apart (PySem.mem_of_lookup h1) (PySem.mem_of_lookup h2)
 ·have hy:scope.names.lookup y=some .cell\/scope.names.lookup y=some .free:=hy
  rcases hy with hy|hy
  ·exact AF hy
  ·exact absurd rfl (S.Nu _ (PySem.mem_of_lookup hy))
 ·exact af2 (x.above y c (PySem.mem_of_lookup h))
 ·have hi:i<vs.length:=by
   unfold start at h2
   by_cases hi:i<vs.length
   ·exact hi
   ·rw [af4 (by simpa using hi)] at h2
    rw [List.getElem?_replicate] at h2
    split at h2 <;> cases h2
  have ha:vs[i]?=some v:=by
   unfold start at h2
   rw [af3 (by simpa using hi),agC] at h2
   cases e:vs[i]? with
   | none=>rw [e] at h2;cases h2
   | some a=>rw [e] at h2;cases h2;rfl
  obtain ⟨u,hu,rv⟩:=r.get ha
  have hp:ps[i]?=some y:=by
   rw [<- S.pre,List.getElem?_take_of_lt (by lia)];exact h1
  have ndP:ps.Nodup:=by rw [<- S.pre];exact S.nd.sublist (List.take_sublist _ _)
  refine⟨u,rv,?_⟩
  rcases S.par y (agl hp) with k|k
  ·exact .inl ⟨k,ym ndP hp hu k⟩
  ·obtain ⟨c,e⟩:=AF (n:=s.heap.objs.size+1) k
   refine .inr ⟨.inl k,c,e,?_⟩
   have q:=x.cell y c e
   rw [yn ndP hp hu (by show scope.names.lookup y≠_;rw [k];decide)] at q
   exact q
 ·exact e0.cA.fresh (af2 (x.above y c (PySem.mem_of_lookup h)))
 ·unfold start
  show _=N.length
  rw [agn,agm,length_replicate]
  lia
theorem G9{CX:G4}{P:Program}{w:World}{K:Frag}{mg:Str->Option Value}{base:Heap}{k:Nat}{f:Addr}{name qual:Str}{params:Arguments}{body:List Stmt}{scope:Scope}{dV kV doc pm dh ct oc:Value}{an od:Option Addr}
  {Gz:Array (Option Value)} {N ps:List Str} {sp:Sp} (lk:K.lookup f=some ⟨oc,od,.func (fnOf name qual params body scope dV kV doc pm an dh ct),Gz⟩) (Ap:codeIn K dh qual=true) (S:aN N ps scope)
  (len:∀ vs H Q E,sp vs H Q E->vs.length=ps.length)
  (mF:∀ (A:Around) (outer:List Env) (s:Shared) (H:Hp) (vs:List V) (Q:VK) (E:XK),dF k (A.deeper (envOfC qual scope s.heap.objs.size f dh))->sp vs H Q E ->
   ∃ t,yd (rW CX P w K mg base N qual scope f dh A outer s H E) body t/\t { nx:=fun _ H'=>Q .fw H',rt:=Q } (start N vs) H) :
  oJ P w K mg base CX (k+1) f (fnOf name qual params body scope dV kV doc pm an dh ct) ps sp:=by
 refine⟨len,fun A outer s H args us vs Q E hr e0 hb r E3=>?_⟩
 have hl:=len _ _ _ _ E3
 have KX:K.In s.heap:=e0.mod.L6.keeps fun b o e=>(e0.bs b o e).1
 have lim:s.heap.NoLimit:=e0.mod.nolimit.keeps fun b o e=>(e0.bs b o e).1
 have Rj:∀ y∈ps.zip us,scope.names.lookup y.1=some .local\/(scope.names.lookup y.1=some .cell/\((cellsFrom (s.heap.objs.size+1) scope.names []).lookup y.1).isSome=true):=fun ⟨n,v⟩ hy=>by
  rcases S.par n (of_mem_zip hy).1 with q|q
  ·exact .inl q
  ·exact .inr ⟨q,cellsFrom_some _ _ _ (.inl q)⟩
 refine codeAny_call_function hr.depth (KX _ _ lk) rfl S.co S.gen rfl (PySem.W.codeRec_of KX Ap) (hb _ _ _ _ ?_)
 refine wpAny_newFunctionEnv_cells S.kind Rj fun env he s1 x=>?_
 subst he
 refine⟨lim.keeps x.toInCall.keep,codeAny_func ?_⟩
 obtain ⟨t,ht,hq⟩:=mF A outer s H vs Q E (hr.deeper _) E3
 have I:Inv (rW CX P w K mg base N qual scope f dh A outer s H E) [] (start N vs) H s1:=E2 S hr.hd e0 hl r x
 refine agd (ht [] s1 (start N vs) H _ I hq) (fun fl s' hs=>?_) fun e s' hs=>hs
 have fin:∀ {σ':St} {H':Hp} {v:V} {u:Value},Inv (rW CX P w K mg base N qual scope f dh A outer s H E) [] σ' H' s'->RelV v u->Q v H'->CE outer P w H s Q u s' :=
  fun {σ' H' v u} J rv q=>⟨v,H',J.os,J.bare,J.base,J.cA,rv,q⟩
 cases fl with
 | ret u =>
  obtain ⟨v,σ',H',J,rv,q⟩:=hs
  exact fin J rv q
 | next =>
  obtain ⟨σ',H',J,q⟩:=hs
  exact fin (v:=V.fw) (u:=Value.none) J rfl q
 | brk =>
  obtain ⟨_,_,_,q⟩:=hs
  exact False.elim q
 | cont =>
  obtain ⟨_,_,_,q⟩:=hs
  exact False.elim q
section
variable {X:Cx}{x:Str}{p pos:Pos}{e:Expr}{es:List Expr}{t:TA}{id T:String}{r:List V->Hp->VK->Prop}
def WO(r:List V->Hp->VK->Prop)(t:TA):TE:=fun σ H Q=>t σ H fun vs H1=>r vs H1 Q
theorem bu (hc:dU X (.builtin id) r) (hg:Gl X x) (hm:X.mg x=none) (hv:bootBuiltins x=some (.builtin id)) (ha:PA X (e::es) t) (hn:x≠"__name__":=by decide) (xm:(x == ("__debug__":Str))=false:=by decide)
  (he:starEach (e::es) X.env=(false,eval e X.env)::starEach es X.env:=by rfl) (ur:(backTo pos (starEach es X.env)).any (·.1)=false:=by rfl):PE X (.Call (.Name x p) (e::es) [] pos) (WO r t):=by
 intro pins s σ H Q I h
 refine wpAny_Call_Name_kw (kH I hg hm hv ?_ hn xm)
 exact PyProof.Rows.callWith_builtin1 (di (ha pos pins s σ H _ I h) fun us s1 ⟨vs,H1,I1,r1,q1⟩=>hc pins s1 σ H1 vs us Q I1 r1 q1) he ur
theorem bN (hc:dU X (.type T) r) (hg:Gl X x) (hm:X.mg x=none) (hv:bootBuiltins x=some (.type T)) (ha:PA X (e::es) t) (hn:x≠"__name__":=by decide) (xm:(x == ("__debug__":Str))=false:=by decide)
  (he:starEach (e::es) X.env=(false,eval e X.env)::starEach es X.env:=by rfl) (ur:(backTo pos (starEach es X.env)).any (·.1)=false:=by rfl):PE X (.Call (.Name x p) (e::es) [] pos) (WO r t):=by
 intro pins s σ H Q I h
 refine wpAny_Call_Name_kw (kH I hg hm hv ?_ hn xm)
 exact callWith_type1 (di (ha pos pins s σ H _ I h) fun us s1 ⟨vs,H1,I1,r1,q1⟩=>hc pins s1 σ H1 vs us Q I1 r1 q1) he ur
end
end L2
namespace HT
open PySem PyProof.Rows
section
variable {prog:Program}{w:World}{A:Around}{E:Value->Shared->Prop}{s:Shared}
theorem Ke{t b:Addr}{vs ws:List Value}{Q:Value->Shared->Prop}(ht:IsTup s.heap t vs.toArray)(hb:IsTup s.heap b ws.toArray)(hv:vs≠[])
  (h1:ws=[]->Q (.ref t) s) (h2:ws≠[]->Q (.ref s.heap.objs.size) { s with heap:=s.heap.push { cls:=.type "tuple",data:=.seq (vs++ws).toArray } })
  (xj:vs.length+ws.length<=sizeLine):wpAny (model prog w) A (binaryOp .Add (.ref t) (.ref b)) Q E s:=by
 obtain ⟨⟨cls,dd,data,sl⟩,ho,hc,n,hd⟩:=id ht
 obtain ⟨⟨cls2,dd2,data2,Vs⟩,Cu,Kf,n2,hd2⟩:=id hb
 simp only at hc hd Kf hd2
 subst hc hd Kf hd2
 have e:vs.toArray++ws.toArray=(vs++ws).toArray:=by simp
 by_cases hw:ws=[]
 ·exact concat_meets ⟨_,ho,rfl⟩ ⟨_,Cu,rfl⟩ noFill_tuple_add seq_tuple_add PySem.F.slot_tuple_add PySem.F.entry_tuple_add (PySem.F.args_tuple_add_2 _ _)
   (tuple_addW1 t b vs.toArray ws.toArray n n2 dd dd2 sl Vs (by simpa using hv) (by simp [hw])) ⟨ho,Cu,h1 hw⟩
 ·refine concat_meets ⟨_,ho,rfl⟩ ⟨_,Cu,rfl⟩ noFill_tuple_add seq_tuple_add PySem.F.slot_tuple_add PySem.F.entry_tuple_add (PySem.F.args_tuple_add_2 _ _)
   (tuple_addW2 t b vs.toArray ws.toArray n n2 dd dd2 sl Vs (by simpa using hv) (by simpa using hw) (by rw [agB,agB];exact xj)) ⟨ho,Cu,?_⟩
  rw [e]
  exact h2 hw
def fv(n d:Nat):Option Int->Nat
 | none=>d
 | some v=>if v<0 then (v+(n:Int)).toNat else min v.toNat n
theorem AG(n d:Nat):fv n d none=d:=rfl
theorem uX(n d k:Nat):fv n d (some (k:Int))=min k n:=by
 show (if (k:Int)<0 then ((k:Int)+(n:Int)).toNat else min (k:Int).toNat n)=min k n
 rw [if_neg (by lia),agT]
theorem Nv(n d:Nat)(hd:d<=n)(o:Option Int):fv n d o<=n:=by
 cases o with
 | none=>exact hd
 | some v =>
  show (if v<0 then (v+(n:Int)).toNat else min v.toNat n)<=n
  by_cases hv:v<0
  ·rw [if_pos hv];lia
  ·rw [if_neg hv];exact Nat.min_le_right _ _
theorem DV(v:Int)(n d:Nat):(if v<0 then max (v+(n:Int)) 0 else min v (n:Int))=((fv n d (some v):Nat):Int):=by
 show (if v<0 then max (v+(n:Int)) 0 else min v (n:Int))=(((if v<0 then (v+(n:Int)).toNat else min v.toNat n):Nat):Int)
 by_cases hv:v<0
 ·simp only [if_pos hv];lia
 ·simp only [if_neg hv];lia
theorem Cv(lo hi:Option Int)(n:Nat):Builtin.Slice.sliceAdjust lo hi 1 (n:Int)=(((fv n 0 lo:Nat):Int),((fv n n hi:Nat):Int)):=by
 have h1:¬ ((1:Int)<0):=by lia
 unfold Builtin.Slice.sliceAdjust
 simp only [h1,if_false]
 refine Prod.ext ?_ ?_
 ·cases lo with
  | none=>rfl
  | some v=>exact DV v n 0
 ·cases hi with
  | none=>rfl
  | some v=>exact DV v n n
theorem Cw(i j:Nat):Builtin.Slice.slicePlaces (i:Int) (j:Int) 1=j - i:=by
 unfold Builtin.Slice.slicePlaces
 have h1:(1:Int) > 0:=by lia
 simp only [h1,if_true,Int.ediv_one]
 split <;> lia
theorem vv{v:Value}{o:Option Int}{Q:Option Int->Shared->Prop}(p:IsPart v o)(h:Q o s):wpAny (model prog w) A (Builtin.Slice.slicePartIndex v) Q E s:=by
 cases p with
 | none=>exact slicePart_none h
 | int i t=>exact slicePart_int h
theorem ka{sl:Addr}{vl vu:Value}{lo hi:Option Int}{n:Nat}{Q:Int×Int×Nat->Shared->Prop}(hs:s.heap.IsSliceOf sl vl vu .none)(pl:IsPart vl lo)(pu:IsPart vu hi)
  (h:Q (((fv n 0 lo:Nat):Int),1,fv n n hi - fv n 0 lo) s):wpAny (model prog w) A (Builtin.Slice.sliceApplied (.ref sl) (pure (n:Int))) Q E s:=by
 obtain ⟨os,JN,GA,Rk⟩:=id hs
 unfold Builtin.Slice.sliceApplied Builtin.Slice.sliceFields
 refine afW (afW (wpAny_field JN Rk (x:=vl) rfl (afW (wpAny_field JN Rk (x:=vu) rfl (afW (wpAny_field JN Rk (x:=.none) rfl (agc ?_)))))))
 refine afW (slicePart_none ?_)
 show wpAny _ _ (if ((1:Int) == 0)=true then _ else _) _ _ s
 rw [if_neg (by decide)]
 refine afW (vv pl (afW (vv pu (afW (agc ?_)))))
 show wpAny _ _ (match Builtin.Slice.sliceAdjust lo hi 1 (n:Int) with|(lo,hi)=>pure (lo,(1:Int),Builtin.Slice.slicePlaces lo hi 1)) _ _ s
 rw [Cv lo hi n]
 show wpAny _ _ (pure (((fv n 0 lo:Nat):Int),(1:Int),Builtin.Slice.slicePlaces ((fv n 0 lo:Nat):Int) ((fv n n hi:Nat):Int) 1)) _ _ s
 rw [Cw]
 exact agc h
theorem Hd(xs:Array Value)(i k:Nat):((List.range k).filterMap fun (m:Nat)=>xs[((i:Int)+(m:Int)*1).toNat]?).toArray=((xs.toList.drop i).take k).toArray:=by
 have e:(fun (m:Nat)=>xs[((i:Int)+(m:Int)*1).toNat]?)=fun m=>xs[i+m]?:=by
  funext m
  have:((i:Int)+(m:Int)*1).toNat=i+m:=by lia
  rw [this]
 rw [e]
 have:=pick_run xs i k
 rw [List.filterMap_map] at this
 have e2:((fun x=>xs[x]?) ∘ fun x=>i+x)=fun m=>xs[i+m]?:=rfl
 rw [e2] at this
 rw [this]
theorem pQ{t sl:Addr}{items:Array Value}{vl vu:Value}{lo hi:Option Int}{Q:Value->Shared->Prop}(ht:IsTup s.heap t items)(hs:s.heap.IsSliceOf sl vl vu .none)(pl:IsPart vl lo)(pu:IsPart vu hi)
  (hw:¬ (fv items.size 0 lo=0/\fv items.size items.size hi=items.size))
  (h:Q (.ref s.heap.objs.size) { s with heap:=s.heap.push { cls:=.type "tuple",data:=.seq ((items.toList.drop (fv items.size 0 lo)).take (fv items.size items.size hi - fv items.size 0 lo)).toArray } })
  (xj:items.size<=sizeLine):wpAny (model prog w) A (getItem (.ref t) (.ref sl)) Q E s:=by
 have DW:sizeOk (.seq ((items.toList.drop (fv items.size 0 lo)).take (fv items.size items.size hi - fv items.size 0 lo)).toArray):=by
  show ((items.toList.drop (fv items.size 0 lo)).take (fv items.size items.size hi - fv items.size 0 lo)).toArray.size<=sizeLine
  rw [agB,agA,length_drop,Array.length_toList]
  exact af0 (Nat.min_le_right _ _) (af0 (Nat.sub_le _ _) xj)
 have hj:fv items.size items.size hi<=items.size:=Nv _ _ (af1 _) hi
 obtain ⟨os,JN,GA,Rk⟩:=id hs
 have WQ:s.TypeIs (.ref sl) "slice":=⟨os,JN,GA⟩
 unfold getItem
 try with_reducible refine wpAny_holding ?_
 first|refine afW (agc ?_)|skip
 refine afW (wpAny_sequenceKey ht.typeIs (by decide) ?_)
 refine afW (wpAny_callSpecial?_slot (name:=Str.ofString "__getitem__") ht.typeIs PyProof.Rows.slot_tuple_getitem
  (wpAny_call_entry PyProof.Rows.slot_tuple_getitem ht.typeIs entry_tuple_getitem ?_ (args_tuple_getitem _ _)))
 show wpAny _ _ (Builtin.Tuple.tupleItemsOf (.ref t) >>= _) _ _ s
 refine afW (tupleItemsOf_ ht ?_)
 refine afW (wpAny_typeOf WQ ?_)
 rw [if_pos (by decide)]
 refine afW (ka hs pl pu ?_)
 have Nw:¬ ((((fv items.size 0 lo:Nat):Int) == 0 && (1:Int) == 1 && (fv items.size items.size hi - fv items.size 0 lo) == items.size)=true):=by
  intro q
  rw [Bool.and_eq_true,Bool.and_eq_true] at q
  have q1:((fv items.size 0 lo:Nat):Int)=0:=eq_of_beq q.1.1
  have q2:fv items.size items.size hi - fv items.size 0 lo=items.size:=eq_of_beq q.2
  exact hw ⟨by lia,by lia⟩
 show wpAny _ _ (if (((fv items.size 0 lo:Nat):Int) == 0 && (1:Int) == 1 && (fv items.size items.size hi - fv items.size 0 lo) == items.size)=true then _ else _) _ _ s
 rw [if_neg Nw,Hd]
 first
  | exact afW (m:=Builtin.Tuple.tupleExact _) (wpAny_newObj_type (agc ⟨_,rfl,agc h⟩) DW)
  | exact afW (m:=Builtin.Tuple.tupleExact _) (wpAny_newObj_type (afW (agc (agc ⟨_,rfl,agc h⟩))) DW)
  | exact afW (afW (m:=Builtin.Tuple.tupleExact _) (wpAny_newObj_type (agc (agc ⟨_,rfl,agc h⟩)) DW))
  | exact afW (afW (m:=Builtin.Tuple.tupleExact _) (wpAny_newObj_type (agc ⟨_,rfl,agc h⟩) DW))
end
end HT
namespace L2
open PySem PySem.Spec PyProof.Rows
abbrev TO:=St->Hp->(Option Int->Hp->Prop)->Prop
def PO(X:Cx)(e:Option Expr)(t:TO):Prop :=
 ∀ (pins:List (Addr×Obj)) (s:Shared) (σ:St) (H:Hp) (Q:Option Int->Hp->Prop),Inv X pins σ H s->t σ H Q ->
  wpAny (model X.prog X.w) X.A (evalPart e X.env) (fun u s'=>∃ o H',Inv X pins σ H' s'/\IsPart u o/\Q o H') X.xe s
def DX:TO:=fun _ H Q=>Q none H
def Mj(t:TE):TO:=fun σ H Q=>t σ H fun x H1=>∃ i,x=.int i/\Q (some i) H1
theorem intsAre_of{ns:List Int}:∀ {us:List Value},Vals (ns.map V.int) us->IntsAre us ns:=by
 induction ns with
 | nil=>intro us r;rw [map_nil] at r;cases r;exact .nil
 | cons n ns ih =>
  intro us r
  rw [map_cons] at r
  cases r with
  | cons r1 r2 =>
   obtain ⟨t,e⟩:=r1
   subst e
   exact .cons n t (ih r2)
section
variable {X:Cx}{e:Expr}{te:TE}{lo hi:Option Expr}{tl th:TO}{pos p2:Pos}
theorem jC:PO X none DX:=by
 intro pins s σ H Q I h
 rw [evalPart_none]
 exact agc ⟨none,H,I,.none,h⟩
theorem cR(h:PE X e te):PO X (some e) (Mj te):=by
 intro pins s σ H Q I hw
 rw [evalPart_some]
 refine di (h pins s σ H _ I hw) fun u s1 ⟨x,H1,I1,r1,q1⟩=>?_
 obtain ⟨i,rfl,q⟩:=q1
 obtain ⟨t,rfl⟩:=r1
 exact⟨some i,H1,I1,.int i t,q⟩
def Qj(X:Cx)(r:V->Option Int->Option Int->Hp->VK->Prop):Prop :=
 ∀ (pins:List (Addr×Obj)) (s:Shared) (σ:St) (H:Hp) (x:V) (v vl vu:Value) (lo hi:Option Int) (sl:Addr) (Q:VK),Inv X pins σ H s->RelV x v->s.heap.IsSliceOf sl vl vu .none->IsPart vl lo->IsPart vu hi->r x lo hi H Q ->
  ∃ T id,typeLookup (.type T) "__getitem__"=pure (some (.builtin id))/\s.TypeIs v T/\wpAny (model X.prog X.w) X.A (getItem v (.ref sl)) (EP X pins σ Q) X.xe s
def tSl(r:V->Option Int->Option Int->Hp->VK->Prop)(te:TE)(tl th:TO):TE:=fun σ H Q=>te σ H fun x H1=>tl σ H1 fun l H2=>th σ H2 fun u H3=>r x l u H3 Q
theorem dI{r:V->Option Int->Option Int->Hp->VK->Prop}(hr:Qj X r)(he:PE X e te)(hl:PO X lo tl)(hu:PO X hi th):PE X (.Subscript e (.Slice lo hi none p2) pos) (tSl r te tl th):=by
 intro pins s σ H Q I h
 refine Subscript_ (di (he pins s σ H _ I h) fun v s1 ⟨x,H1,I1,r1,q1⟩=>?_)
 refine wpAny_Slice (di (hl pins s1 σ H1 _ I1 q1) fun vl s2 ⟨l,H2,I2,pl,q2⟩=>di (hu pins s2 σ H2 _ I2 q2) fun vu s3 ⟨u,H3,I3,pu,q3⟩=>?_)
 rw [evalPart_none]
 refine agc ?_
 have I4:Inv X pins σ H3 { s3 with heap:=s3.heap.push { cls:=.type "slice",data:=.fields #[vl,vu,.none] } }:=I3.kept (t':=s3.toks) fun b ob q=>afV _ q
 obtain ⟨T,id,hT,ht,hg⟩:=hr pins { s3 with heap:=s3.heap.push { cls:=.type "slice",data:=.fields #[vl,vu,.none] } } σ H3 x v vl vu l u s3.heap.objs.size Q I4 r1 (Heap.IsSliceOf.new ..) pl pu q3
 show wpAny (model X.prog X.w) X.A (subscriptTail e (.Slice lo hi none p2) v (.ref s3.heap.objs.size)) (EP X pins σ Q) X.xe { s3 with heap:=s3.heap.push { cls:=.type "slice",data:=.fields #[vl,vu,.none] } }
 exact tail_any (ops:=[.ref s3.heap.objs.size,v]) ht hT hg (by with_unfolding_all rfl)
def iQ(xs:List V)(lo hi:Option Int):List V:=(xs.drop (HT.fv xs.length 0 lo)).take (HT.fv xs.length xs.length hi - HT.fv xs.length 0 lo)
theorem t5(xs:List V)(lo hi:Option Int):(iQ xs lo hi).length<=xs.length:=by
 unfold iQ
 rw [agA,length_drop]
 lia
def Rl(K:Frag):V->Option Int->Option Int->Hp->VK->Prop:=fun x lo hi H Q=>∃ a xs,x=.ref a/\aZ K H a xs /\
 ¬ (HT.fv xs.length 0 lo=0/\HT.fv xs.length xs.length hi=xs.length)/\∀ p,H p=none->Q (.ref p) (upd H p (.tup (iQ xs lo hi)))
theorem Nx:Qj X (Rl X.K):=by
 intro pins s σ H x v vl vu lo hi sl Q I rx hs pl pu h
 obtain ⟨a,xs,rfl,hx,hw,q⟩:=h
 cases rx
 obtain ⟨its,r,ht,hz⟩:=I.tuple hx
 have hlen:its.toArray.size=xs.length:=by rw [agB];exact r.length.symm
 refine⟨"tuple",_,PyProof.Rows.slot_tuple_getitem.lookup,ht.typeIs,?_⟩
 refine HT.pQ ht hs pl pu (by rw [hlen];exact hw) ?_ (by rw [hlen];exact hz)
 rw [hlen]
 refine⟨.ref s.heap.objs.size,_,I.laid (t':=s.toks) (o:=.tup (iQ xs lo hi)) (fun b ob q=>afV _ q) (af1 _) ?_,rfl,q _ (I.cA.fresh (af1 _))⟩
 exact⟨af0 (t5 xs lo hi) hz,_,(r.drop (HT.fv xs.length 0 lo)).take (HT.fv xs.length xs.length hi - HT.fv xs.length 0 lo),IsTup.new _ _⟩
def Hf(K:Frag):R2:=fun x y H Q=>∃ a b xs ys,x=.ref a/\y=.ref b/\aZ K H a xs/\aZ K H b ys/\xs≠[]/\xs.length+ys.length<=sizeLine /\
 (ys=[]->Q (.ref a) H)/\(ys≠[]->∀ p,H p=none->Q (.ref p) (upd H p (.tup (xs++ys))))
theorem Vals.y3{xs:List V}{us:List Value}(r:Vals xs us):us=[]↔xs=[]:=by
 cases r with
 | nil=>simp
 | cons _ _=>simp
theorem Kg:pM X (binaryOp .Add) (Hf X.K):=by
 intro pins s σ H x y v u Q I rx ry h
 obtain ⟨a,b,xs,ys,rfl,rfl,ha,hb,hx,hz,q1,q2⟩:=h
 cases rx
 cases ry
 obtain ⟨its,r1,p1,_⟩:=I.tuple ha
 obtain ⟨Ny,r2,p2,_⟩:=I.tuple hb
 refine HT.Ke p1 p2 (fun z=>hx (r1.y3.mp z)) (fun z=>⟨.ref a,H,I,rfl,q1 (r2.y3.mp z)⟩) (fun z=>?_) (by rw [<- r1.length,<- r2.length];exact hz)
 refine⟨.ref s.heap.objs.size,_,I.laid (t':=s.toks) (o:=.tup (xs++ys)) (fun b ob q=>afV _ q) (af1 _) ?_,rfl,q2 (fun w=>z (r2.y3.mpr w)) _ (I.cA.fresh (af1 _))⟩
 exact⟨by rw [agn];exact hz,_,r1.append r2,IsTup.new _ _⟩
end
def Hg(n:Nat)(i:Int):Option Nat:=if 0<=i then (if i<n then some i.toNat else none) else if -(n:Int)<=i then some (i+n).toNat else none
def t6{α:Type}(xs:List α)(i:Int):Option α:=(Hg xs.length i).bind fun j=>xs[j]?
theorem y4{n:Nat}{i:Int}{j:Nat}(h:Hg n i=some j):seqIndex? i n=some j/\j<n/\-(n:Int)<=i/\i<n:=by
 unfold Hg at h
 by_cases h0:0<=i
 ·rw [if_pos h0] at h
  by_cases h1:i<n
  ·rw [if_pos h1] at h
   have e:i.toNat=j:=af5 h
   exact⟨by rw [seqIndex_of h0 h1,e],by lia,by lia,h1⟩
  ·rw [if_neg h1] at h;cases h
 ·rw [if_neg h0] at h
  by_cases h1:-(n:Int)<=i
  ·rw [if_pos h1] at h
   have e:(i+n).toNat=j:=af5 h
   exact⟨by rw [seqIndex_neg (by lia) h1,e],by lia,h1,by lia⟩
  ·rw [if_neg h1] at h;cases h
theorem y6{α:Type}{xs:List α}{i:Int}{v:α}(h:t6 xs i=some v):∃ j,seqIndex? i xs.length=some j/\xs[j]?=some v/\j<xs.length/\-(xs.length:Int)<=i/\i<xs.length:=by
 unfold t6 at h
 cases e:Hg xs.length i with
 | none=>rw [e] at h;cases h
 | some j =>
  rw [e] at h
  obtain ⟨h1,h2,h3,h4⟩:=y4 e
  exact⟨j,h1,h,h2,h3,h4⟩
theorem aH{α:Type}{xs:List α}{j:Nat}{v:α}(h:xs[j]?=some v):t6 xs (j:Int)=some v:=by
 have hj:j<xs.length:=(afX.mp h).1
 have e:Hg xs.length (j:Int)=some j:=by
  unfold Hg
  rw [if_pos (by lia),if_pos (by lia)];simp
 unfold t6;rw [e];exact h
def Kh(b:Expr):Prop:=∀ o i,subscripted b false o i=operate [o,i] (getItem o i)
def JO(X:Cx)(r:R2):Prop :=
 ∀ (value slice:Expr) (pins:List (Addr×Obj)) (s:Shared) (σ:St) (H:Hp) (x y:V) (v u:Value) (Q:VK),Inv X pins σ H s->RelV x v->RelV y u->r x y H Q ->
  subscripted slice false v u=operate [v,u] (getItem v u)->wpAny (model X.prog X.w) X.A (subscriptTail value slice v u) (EP X pins σ Q) X.xe s
def Vt(X:Cx)(id:String)(r:V->List V->Hp->VK->Prop):Prop :=
 ∀ (pins:List (Addr×Obj)) (s:Shared) (σ:St) (H:Hp) (x:V) (xs:List V) (v:Value) (us:List Value) (Q:VK),Inv X pins σ H s->RelV x v->Vals xs us->r x xs H Q ->
  wpAny (model X.prog X.w) X.A (call (.builtin id) (v::us)) (EP X pins σ Q) X.xe s
section
variable {X:Cx}{a b:Expr}{ta tb:TE}{pos:Pos}
theorem JO.or{r r':R2}(h:JO X r)(h':JO X r'):JO X (fun x y H Q=>r x y H Q\/r' x y H Q):=by
 intro value slice pins s σ H x y v u Q I rx ry q hs
 rcases q with q|q
 ·exact h value slice pins s σ H x y v u Q I rx ry q hs
 ·exact h' value slice pins s σ H x y v u Q I rx ry q hs
theorem aR{r:R2}(hr:JO X r)(ha:PE X a ta)(hb:PE X b tb)(hs:Kh b):PE X (.Subscript a b pos) (Mf r ta tb):=by
 intro pins s σ H Q I h
 exact Subscript_ (Nk ha hb I h fun v u s2 x y H2 I2 rx ry q=>hr a b pins s2 σ H2 x y v u Q I2 rx ry q (hs _ _))
def Rm(K:Frag):R2:=fun x y H Q=>∃ p xs i v,x=.ref p/\y=.int i/\aW K H p xs/\t6 xs i=some v/\Q v H
def Rn(K:Frag):R2:=fun x y H Q=>∃ p xs i v,x=.ref p/\y=.int i/\aZ K H p xs/\t6 xs i=some v/\Q v H
def Ro:R2:=fun x y H Q=>∃ z i c,x=.str z/\y=.int i/\z.length<=sizeLine/\t6 z.cps.toList i=some c/\Q (.str ⟨#[c]⟩) H
theorem Ki:JO X (Rm X.K):=by
 intro value slice pins s σ H x y v u Q I rx ry h hs
 obtain ⟨p,xs,i,z,rfl,rfl,hq,he,q⟩:=h
 cases rx
 obtain ⟨t,rfl⟩:=ry
 obtain ⟨its,r,pl,hz⟩:=I.list hq
 obtain ⟨j,h1,h2,h3,h4,h5⟩:=y6 he
 obtain ⟨w,ew,Rp⟩:=r.get h2
 have hl:=r.length
 have hn:=vp
 have fin:EP X pins σ Q w s:=⟨z,H,I,Rp,q⟩
 by_cases h0:0<=i
 ·have hj:i.toNat=j:=by
   rw [seqIndex_of h0 h5] at h1
   exact af5 h1
  exact item_listR pl.isList h0 (by lia) (by rw [hj];simpa using ew) fin hs
 ·have hj:(i+(its.toArray.size:Int)).toNat=j:=by
   rw [seqIndex_neg (by lia) h4] at h1
   rw [agB,<- hl]
   exact af5 h1
  exact subscriptTail_builtinR (x:=w) pl.isList.typeIs slot_list_getitem.lookup
   (wpAny_getItem_list_neg (Q:=fun r s'=>r=w/\EP X pins σ Q r s') pl.isList (by lia) (by rw [agB] <;> lia) (by lia) (by rw [hj];simpa using ew) ⟨rfl,fin⟩) hs
theorem Nz:JO X (Rn X.K):=by
 intro value slice pins s σ H x y v u Q I rx ry h hs
 obtain ⟨p,xs,i,z,rfl,rfl,hq,he,q⟩:=h
 cases rx
 obtain ⟨t,rfl⟩:=ry
 obtain ⟨its,r,pl,hz⟩:=I.tuple hq
 obtain ⟨j,h1,h2,h3,h4,h5⟩:=y6 he
 obtain ⟨w,ew,Rp⟩:=r.get h2
 have hl:=r.length
 have hn:=vp
 have fin:EP X pins σ Q w s:=⟨z,H,I,Rp,q⟩
 exact subscriptTail_builtinR (x:=w) pl.typeIs slot_tuple_getitem.lookup
  (getItem_tuple (j:=j) (Q:=fun r s'=>r=w/\EP X pins σ Q r s') pl (by lia) (by lia) (by rw [agB,<- hl];exact h1) (by simpa using ew) ⟨rfl,fin⟩) hs
theorem NA:JO X Ro:=by
 intro value slice pins s σ H x y v u Q I rx ry h hs
 obtain ⟨z,i,c,rfl,rfl,hz,he,q⟩:=h
 obtain ⟨t,rfl⟩:=rx
 obtain ⟨t',rfl⟩:=ry
 obtain ⟨j,h1,h2,h3,h4,h5⟩:=y6 he
 have hl:z.cps.toList.length=z.length:=by simp [Str.length]
 rw [hl] at h1 h4 h5
 have hn:=vp
 exact tail_any (typeIs_str s z t) slot_str_getitem.lookup (getItem_str (c:=c) (by
  have e1:decide (i < -(2 ^ 63:Int))=false:=af9 (by lia)
  have e2:decide (i ≥ 2 ^ 63)=false:=af9 (by lia)
  rw [e1,e2,Bool.or_false]) (by rw [h1];simpa using h2) ⟨.str ⟨#[c]⟩,H,I.tok _,⟨_,rfl⟩,q⟩) hs
def Vu(K:Frag):R2:=fun x y H Q=>Rm K x y H Q\/Rn K x y H Q\/Ro x y H Q
theorem NB:JO X (Vu X.K):=Ki.or (Nz.or NA)
theorem Cy (its:List Value) (n j:Nat) (u:Value):Obj.mapSeq (·.setIfInBounds j u) { cls:=.type "list",data:=.seq its.toArray n }={ cls:=.type "list",data:=.seq (its.set j u).toArray n }:=by
 simp [Obj.mapSeq]
theorem Inv.lst{pins:List (Addr×Obj)}{σ:St}{H:Hp}{s:Shared}{p:Addr}{xs:List V}(I:Inv X pins σ H s)(h:H p=some (.lst xs)) :
  ∃ (its:List Value) (n:Nat),Vals xs its/\s.heap.get? p=some { cls:=.type "list",data:=.seq its.toArray n }/\xs.length<=sizeLine:=by
 obtain ⟨z,its,n,r,e⟩:=I.cA p _ h
 exact⟨its,n,r,e,z⟩
theorem Inv.NC{pins:List (Addr×Obj)}{σ:St}{H:Hp}{s:Shared}{p:Addr}{xs ys:List V}{its its':List Value}{n n':Nat}{f:Obj->Obj}(I:Inv X pins σ H s)(h:H p=some (.lst xs))
  (ho:s.heap.get? p=some { cls:=.type "list",data:=.seq its.toArray n }) (hf:f { cls:=.type "list",data:=.seq its.toArray n }={ cls:=.type "list",data:=.seq its'.toArray n' }) (r:Vals ys its') (hz:ys.length<=sizeLine) (t:Nat) :
  Inv X pins σ (upd H p (.lst ys)) { s with heap:=s.heap.update p f,toks:=t }:=by
 have e:(s.heap.update p f).get? p=some { cls:=.type "list",data:=.seq its'.toArray n' }:=by
  rw [Heap.get?_update_self f ho (by rw [hf] <;> rfl),hf]
 refine I.write (x:=p) (e:=p) (by rw [h];trivial) (.inl rfl) (fun b u hb q=>(Heap.get?_update_other _ _ (Ne.symm hb)).trans q) ⟨_,e⟩ ?_
 exact⟨hz,its',n',r,e⟩
def Ml:V->V->V->Hp->(Hp->Prop)->Prop:=fun o i v H Q=>∃ p xs k j,o=.ref p/\i=.int k/\H p=some (.lst xs)/\Hg xs.length k=some j/\Q (upd H p (.lst (xs.set j v)))
theorem set_list:Q5 X Ml:=by
 intro pins s σ H o i v ov iv u Q I ro ri rv h
 obtain ⟨p,xs,k,j,rfl,rfl,hp,hj,q⟩:=h
 cases ro
 obtain ⟨t,rfl⟩:=ri
 obtain ⟨its,n,r,ho,hz⟩:=I.lst hp
 obtain ⟨h1,h2,h3,h4⟩:=y4 hj
 have hl:=r.length
 have hn:=vp
 have I':Inv X pins σ (upd H p (.lst (xs.set j v))) { s with heap:=s.heap.update p (Obj.mapSeq (·.setIfInBounds j u)) } :=
  I.NC hp ho (Cy its n j u) (r.set rv j) (by rw [length_set];exact hz) s.toks
 by_cases h0:0<=k
 ·have hk:k.toNat=j:=by
   rw [seqIndex_of h0 h4] at h1
   exact af5 h1
  exact PySem.W.ki_setAt ho h0 (by lia) (by rw [agB,<- hl];exact h4) (by rw [hk];exact⟨_,I',q⟩)
 ·have hk:(k+(its.toArray.size:Int)).toNat=j:=by
   rw [seqIndex_neg (by lia) h3] at h1
   rw [agB,<- hl]
   exact af5 h1
  exact PySem.W.ki_setBack ho (by lia) (by rw [agB,<- hl];exact h3) (by lia) (by rw [hk];exact⟨_,I',q⟩)
theorem y8(lo hi:Option Int)(n:Nat):(sliceBounds lo hi none n).1=((HT.fv n 0 lo:Nat):Int)/\(sliceBounds lo hi none n).2.1=((HT.fv n n hi:Nat):Int)/\(sliceBounds lo hi none n).2.2=1:=by
 refine⟨?_,?_,rfl⟩
 ·cases lo with
  | none=>simp [sliceBounds,HT.fv]
  | some i =>
   simp only [sliceBounds,HT.fv,Option.getD_none,show (1:Int) > 0 by decide,if_true]
   by_cases h:i<0
   ·simp only [h,if_true] <;> lia
   ·simp only [h,if_false] <;> lia
 ·cases hi with
  | none=>simp [sliceBounds,HT.fv]
  | some i =>
   simp only [sliceBounds,HT.fv,Option.getD_none,show (1:Int) > 0 by decide,if_true]
   by_cases h:i<0
   ·simp only [h,if_true] <;> lia
   ·simp only [h,if_false] <;> lia
theorem xn(its:List Value)(lo hi:Option Int):slicePick its.toArray lo hi none=((its.drop (HT.fv its.length 0 lo)).take (HT.fv its.length its.length hi - HT.fv its.length 0 lo)).toArray:=by
 obtain ⟨h1,h2,h3⟩:=y8 lo hi its.toArray.size
 unfold slicePick
 rw [h1,h2,h3]
 simp only [sliceRange_one,pick_run,agB] <;> rfl
def Kj(K:Frag):V->Option Int->Option Int->Hp->VK->Prop:=fun x lo hi H Q=>∃ a xs,x=.ref a/\aW K H a xs/\∀ p,H p=none->Q (.ref p) (upd H p (.lst (iQ xs lo hi)))
theorem Kk:Qj X (Kj X.K):=by
 intro pins s σ H x v vl vu lo hi sl Q I rx hs pl pu h
 obtain ⟨a,xs,rfl,hx,q⟩:=h
 cases rx
 obtain ⟨its,r,ht,hz⟩:=I.list hx
 have hlen:=r.length
 refine⟨"list",_,slot_list_getitem.lookup,ht.isList.typeIs,?_⟩
 refine wpAny_getItem_list_slice ht.isList hs pl pu .none (by simp) ?_ (by rw [agB] <;> lia)
 rw [xn,<- hlen]
 refine⟨.ref s.heap.objs.size,_,I.laid (t':=s.toks) (o:=.lst (iQ xs lo hi)) (fun b ob q=>afV _ q) (af1 _) ?_,rfl,q _ (I.cA.fresh (af1 _))⟩
 exact⟨af0 (t5 xs lo hi) hz,_,0,(r.drop (HT.fv xs.length 0 lo)).take (HT.fv xs.length xs.length hi - HT.fv xs.length 0 lo),afZ _ rfl⟩
theorem y9:dU X (.builtin "len") (fun xs H Q=>∃ p ys,xs=[.ref p]/\(aW X.K H p ys\/aZ X.K H p ys)/\Q (.int ys.length) H):=by
 intro pins s σ H xs us Q I r h
 obtain ⟨p,ys,rfl,hq,q⟩:=h
 obtain ⟨u,rfl,rx⟩:=vals1 r
 cases rx
 have hn:=vp
 rcases hq with hq|hq
 ·obtain ⟨its,r',pl,hz⟩:=I.list hq
  have hlen:=r'.length
  exact Calls.call_len_list pl.isList (by simp only [agB] <;> lia) ⟨.int ys.length,H,I.tok _,⟨s.toks+1,by rw [agB,hlen]⟩,q⟩
 ·obtain ⟨its,r',pl,hz⟩:=I.tuple hq
  have hlen:=r'.length
  exact len_tuple pl (by simp only [agB] <;> lia) ⟨.int ys.length,H,I.tok _,⟨s.toks+1,by rw [agB,hlen]⟩,q⟩
theorem zc:dU X (.type "list") (fun xs H Q=>∃ p ys,xs=[.ref p]/\(aW X.K H p ys\/aZ X.K H p ys)/\∀ l,H l=none->Q (.ref l) (upd H l (.lst ys))):=by
 intro pins s σ H xs us Q I r h
 obtain ⟨p,ys,rfl,hq,q⟩:=h
 obtain ⟨u,rfl,rx⟩:=vals1 r
 cases rx
 have fin:∀ (its:List Value),Vals ys its->ys.length<=sizeLine->∀ (h':Heap) (c':Nat),(∀ b o',s.heap.get? b=some o'->h'.get? b=some o') ->
   h'.get? s.heap.objs.size=some { cls:=.type "list",dict:=none,data:=.seq its.toArray c',slots:=#[] }->EP X pins σ Q (.ref s.heap.objs.size) { s with heap:=h' }:=fun its r' hz h' c' kp e =>
  ⟨.ref s.heap.objs.size,_,I.laid (t':=s.toks) kp (af1 _) (show eG X.prog X.w _ h' _ (.lst ys) from ⟨hz,its,c',r',e⟩),rfl,q _ (I.cA.fresh (af1 _))⟩
 rcases hq with hq|hq
 ·obtain ⟨its,r',pl,hz⟩:=I.list hq
  have hlen:=r'.length
  obtain ⟨o,ho,hc,n,hd⟩:=pl.isList
  exact call_list_seq p (.inl rfl) ho hc hd (fun h' c' kp e=>fin its r' hz h' c' kp e) (by simp only [agB] <;> lia)
 ·obtain ⟨its,r',pl,hz⟩:=I.tuple hq
  have hlen:=r'.length
  obtain ⟨o,ho,hc,n,hd⟩:=pl
  exact call_list_seq p (.inr rfl) ho hc hd (fun h' c' kp e=>fin its r' hz h' c' kp e) (by simp only [agB] <;> lia)
theorem xo:dU X (.type "tuple") (fun xs H Q=>∃ p ys,xs=[.ref p]/\((aW X.K H p ys/\∀ l,H l=none->Q (.ref l) (upd H l (.tup ys)))\/(aZ X.K H p ys/\Q (.ref p) H))):=by
 intro pins s σ H xs us Q I r h
 obtain ⟨p,ys,rfl,h⟩:=h
 obtain ⟨u,rfl,rx⟩:=vals1 r
 cases rx
 rcases h with ⟨hq,q⟩|⟨hq,q⟩
 ·obtain ⟨its,r',pl,hz⟩:=I.list hq
  have hlen:=r'.length
  refine call_tuple_list pl.isList (fun h' kp=>?_) (by simp only [agB] <;> lia)
  have I1:Inv X pins σ H { s with heap:=h' }:=I.kept (t':=s.toks) kp
  have I2:Inv X pins σ (upd H h'.objs.size (.tup ys)) { s with heap:=h'.push { cls:=.type "tuple",data:=.seq its.toArray } } :=
   I1.laid (t':=s.toks) (fun b o e=>afV _ e) (af1 _) (show eG X.prog X.w _ _ _ (.tup ys) from ⟨hz,its,r',IsTup.new _ _⟩)
  exact⟨.ref h'.objs.size,_,I2,rfl,q _ (I1.cA.fresh (af1 _))⟩
 ·obtain ⟨its,r',pl,hz⟩:=I.tuple hq
  exact call_tuple_same pl ⟨.ref p,H,I,rfl,q⟩
def Vv(K:Frag)(T:String)(x:V)(H:Hp):Prop:=match x with
 | .str _=>T = "str"
 | .int _=>T = "int"
 | .ref p=>(T = "list"/\∃ xs,aW K H p xs)\/(T = "tuple"/\∃ o,K.lookup p=some o/\o.cls=.type "tuple"/\o.dict=none) \/
   (T = "dict"/\((∃ rJ,H p=some (.dK rJ))\/∃ rJ,H p=some (.dT rJ)))\/(T = "set"/\∃ S n,H p=some (.set S n))
 | _=>False
theorem ND{pins:List (Addr×Obj)}{σ:St}{H:Hp}{s:Shared}{T:String}{x:V}{v:Value}(I:Inv X pins σ H s)(r:RelV x v)(ty:Vv X.K T x H) :
  s.TypeIs v T/\∀ a,v=.ref a->∃ ob,s.heap.get? a=some ob/\ob.dict=none:=by
 cases x with
 | str z =>
  obtain ⟨t,rfl⟩:=r
  cases (show T = "str" from ty)
  exact⟨typeIs_str s z t,fun _ e=>nomatch e⟩
 | int i =>
  obtain ⟨t,rfl⟩:=r
  cases (show T = "int" from ty)
  exact⟨typeIs_int s i t,fun _ e=>nomatch e⟩
 | ref p =>
  cases r
  rcases ty with ⟨rfl,xs,hq⟩|⟨rfl,o,hk,hc,hd⟩|⟨rfl,hk⟩|⟨rfl,S,n,hk⟩
  ·obtain ⟨its,_,pl,_⟩:=I.list hq
   refine⟨pl.isList.typeIs,fun a e=>?_⟩
   cases e
   obtain ⟨o,n,e,c,hd,_⟩:=pl
   exact⟨o,e,hd⟩
  ·refine⟨⟨o,I.mC p o hk,hc⟩,fun a e=>?_⟩
   cases e
   exact⟨o,I.mC _ o hk,hd⟩
  ·have z:∃ o,s.heap.get? p=some o/\o.ExactDict:=by
    rcases hk with ⟨rJ,hk⟩|⟨rJ,hk⟩
    ·obtain ⟨_,_,_,_,o,_,_,e,ex,_⟩:=I.cA p _ hk
     exact⟨o,e,ex⟩
    ·obtain ⟨_,_,_,_,o,_,_,e,ex,_⟩:=I.cA p _ hk
     exact⟨o,e,ex⟩
   obtain ⟨o,e,ex⟩:=z
   refine⟨⟨o,e,ex.1⟩,fun a e2=>?_⟩
   cases e2
   exact⟨o,e,ex.2.1⟩
  ·obtain ⟨o,_,_,_,e,ex,_⟩:=I.cA p _ hk
   refine⟨⟨o,e,ex.1⟩,fun a e2=>?_⟩
   cases e2
   exact⟨o,e,ex.2.1⟩
 | _=>exact False.elim ty
def tBM(K:Frag)(T:String)(r:V->List V->Hp->VK->Prop)(to:TE)(t:TA):TE:=fun σ H Q=>to σ H fun x H1=>Vv K T x H1/\t σ H1 fun xs H2=>r x xs H2 Q
variable {o e:Expr}{es:List Expr}{to:TE}{t:TA}{name:Str}{apos uu:Pos}{T id:String}{r:V->List V->Hp->VK->Prop}
theorem ip (pa:PlainAttrs T) (slot:Slot T name id) (hty:typeOf (.builtin id)=pure (.type "method_descriptor")) (hm:Vt X id r) (ho:PE X o to) (ha:PA X (e::es) t)
  (Rq:attributeBase o name X.env (eval o X.env)=eval o X.env:=by rfl)
  (NF:((backTo uu (starEach (e::es) X.env)).all (fun x=>!x.1) && (backToKw uu (keywordEach [] X.env)).all (fun x=>x.1.isSome)
   && decide ((e::es).length+([]:List Keyword).length+(if ([]:List Keyword).isEmpty then 0 else 1)<30))=true:=by rfl)
  (Rr:(apos.endLine == uu.line)=true:=by rfl) (hs:starEach (e::es) X.env=(false,eval e X.env)::starEach es X.env:=by rfl) (NG:(backTo uu (starEach es X.env)).any (·.1)=false:=by rfl) :
  PE X (.Call (.Attribute o name apos) (e::es) [] uu) (tBM X.K T r to t):=by
 intro pins s σ H Q I h
 refine wpAny_Call_method_late Rq NF Rr rfl (di (ho pins s σ H _ I h) fun v s1 ⟨x,H1,I1,r1,ty,q1⟩=>?_)
 obtain ⟨h1,h2⟩:=ND I1 r1 ty
 refine⟨T,id,pa,slot,hty,h1,h2,?_⟩
 have hA:=ha uu pins s1 σ H1 _ I1 q1
 rw [hs] at hA ⊢
 refine Calls.callWith_builtin (by show (false || (backTo uu (starEach es X.env)).any (·.1))=false;rw [NG] <;> rfl) (Calls.evalArgs_plain ?_)
 exact di hA fun us s2 ⟨vs,H2,I2,r2,q2⟩=>hm pins s2 σ H2 x vs v us Q I2 r1 r2 q2
/- xs.append(e),list.index on a Rt tuple .. are Vt facts of 06m -/
end
def WR(X:Cx)(id:String)(r:V->List V->Hp->VK->Prop):Prop :=
 ∀ (pins:List (Addr×Obj)) (s:Shared) (σ:St) (H:Hp) (x:V) (xs:List V) (v:Value) (us:List Value) (Q:VK),Inv X pins σ H s->RelV x v->Vals xs us->r x xs H Q ->
  wpAny (model X.prog X.w) X.A (call (.builtin id) (v::us)) (EP X pins σ Q) X.xe s
theorem Vals.one:∀ {x:V} {us:List Value},Vals [x] us->∃ u,us=[u]/\RelV x u
 | _,_,.cons r .nil=>⟨_,rfl,r⟩
theorem Vals.eraseIdx:∀ {xs:List V} {us:List Value} (i:Nat),Vals xs us->Vals (xs.eraseIdx i) (us.eraseIdx i)
 | _,_,_,.nil=>.nil
 | _,_,0,.cons _ t=>t
 | _,_,i+1,.cons r t=>.cons r (Vals.eraseIdx i t)
theorem yo{α:Type}:∀ (l:List α) (i:Nat),(l.eraseIdx i).length<=l.length
 | [],_=>af1 _
 | _::_,0=>le_succ _
 | _::r,i+1=>Nat.succ_le_succ (yo r i)
section
variable {X:Cx}{pins:List (Addr×Obj)}{σ:St}{H:Hp}{s:Shared}{l b:Addr}{xs ys zs:List V}
theorem Inv.NH{its its':List Value}{n:Nat}{f:Array Value->Array Value}{t':Nat}(I:Inv X pins σ H s)(hH:H l=some (.lst xs))
  (e:s.heap.get? l=some { cls:=.type "list",data:=.seq its.toArray n }) (hf:f its.toArray=its'.toArray) (hv:Vals ys its') (hz:ys.length<=sizeLine) :
  Inv X pins σ (upd H l (.lst ys)) { s with heap:=s.heap.update l (Obj.mapSeq f),toks:=t' }:=by
 have q:=PySem.IsL.update e f
 rw [hf] at q
 refine I.write (x:=l) (e:=l) (by rw [hH];exact trivial) (.inl rfl) (fun b' u hb hu=>(Heap.get?_update_other s.heap (Obj.mapSeq f) (Ne.symm hb)).trans hu) ⟨_,q⟩ ?_
 exact⟨hz,its',_,hv,q⟩
theorem Inv.Kl{its:List Value}{t':Nat}(I:Inv X pins σ H s)(hv:Vals ys its)(hz:ys.length<=sizeLine) :
  Inv X pins σ (upd H s.heap.objs.size (.lst ys)) { s with heap:=s.heap.push { cls:=.type "list",data:=.seq its.toArray },toks:=t' } :=
 I.laid (fun _ _ q=>afV _ q) (af1 _) ⟨hz,its,0,hv,afZ _ rfl⟩
theorem Inv.fresh(I:Inv X pins σ H s):H s.heap.objs.size=none:=I.cA.fresh (af1 _)
theorem Inv.Hh (I:Inv X pins σ H s) (hH:H l=some (.lst xs)):xs.length<=sizeLine/\∃ (its:List Value) (n:Nat),Vals xs its/\xs.length=its.length/\s.heap.get? l=some { cls:=.type "list",data:=.seq its.toArray n }:=by
 obtain ⟨z,its,n,r,e⟩:=I.cA l _ hH
 exact⟨z,its,n,r,r.length,e⟩
end
section
variable {X:Cx}
def DY:V->List V->Hp->VK->Prop:=fun x vs H Q=>∃ l xs y,x=.ref l/\vs=[y]/\H l=some (.lst xs)/\xs.length<sizeLine/\Q .fw (upd H l (.lst (xs++[y])))
theorem cB:WR X "list.append" DY:=by
 intro pins s σ H x vs v us Q I rx rv h
 obtain ⟨l,xs,y,rfl,rfl,hH,hz,q⟩:=h
 cases rx
 obtain ⟨u,rfl,ru⟩:=rv.one
 obtain ⟨z,its,n,r,hl,e⟩:=I.Hh hH
 refine call_meets F.slot_list_append ⟨_,e,rfl⟩ F.entry_list_append (F.args_list_append_2 _ _) (PySem.list_append l its.toArray n u (by rw [agB];lia)) ⟨e,?_⟩
 refine⟨.fw,_,I.NH (its':=its++[u]) hH e (by simp) (r.append (.cons ru .nil)) ?_,rfl,q⟩
 rw [agn,ago]
 lia
def NI:V->List V->Hp->VK->Prop:=fun x vs H Q=>∃ l xs i k y,x=.ref l/\vs=[.int i]/\H l=some (.lst xs)/\-(2 ^ 63)<=i/\i<2 ^ 63/\seqIndex? i xs.length=some k/\xs[k]?=some y/\Q y (upd H l (.lst (xs.eraseIdx k)))
theorem Hi:WR X "list.pop" NI:=by
 intro pins s σ H x vs v us Q I rx rv h
 obtain ⟨l,xs,i,k,y,rfl,rfl,hH,h1,h2,hk,hy,q⟩:=h
 cases rx
 obtain ⟨u,rfl,ru⟩:=rv.one
 obtain ⟨t,rfl⟩:=ru
 obtain ⟨z,its,n,r,hl,e⟩:=I.Hh hH
 obtain ⟨w,hw,Rp⟩:=r.get hy
 refine call_meets F.slot_list_pop ⟨_,e,rfl⟩ F.entry_list_pop (F.args_list_pop_2 _ _)
  (MeetsSeq.list_pop_at l its.toArray n i t k w (fitsIndex_both h1 h2) (by rw [agB,<- hl];exact hk) (by rw [<- Array.getElem?_toList];exact hw) (by rw [agB];lia)) ⟨e,?_⟩
 refine⟨y,_,I.NH (its':=its.eraseIdx k) hH e ?_ (r.eraseIdx k) ?_,Rp,q⟩
 ·show its.toArray.eraseIdxIfInBounds k=(its.eraseIdx k).toArray
  rw [List.eraseIdxIfInBounds_toArray]
 ·have:=yo xs k
  lia
def Ru:R2:=fun x y H Q=>∃ l b xs zs,x=.ref l/\y=.ref b/\H l=some (.lst xs)/\H b=some (.lst zs)/\xs.length+zs.length<=sizeLine/\∀ p,H p=none->Q (.ref p) (upd H p (.lst (xs++zs)))
theorem oK:pM X (binaryOp .Add) Ru:=by
 intro pins s σ H x y v u Q I rx ry h
 obtain ⟨l,b,xs,zs,rfl,rfl,hH,hB,hz,q⟩:=h
 cases rx
 cases ry
 obtain ⟨z,its,n,r,hl,e⟩:=I.Hh hH
 obtain ⟨z2,Ny,n2,r2,Vw,e2⟩:=I.Hh hB
 refine PySem.P.add_list e e2 ?_ (by rw [agB,agB];lia)
 have ea:its.toArray++Ny.toArray=(its++Ny).toArray:=by simp
 rw [ea]
 exact⟨.ref _,_,I.Kl (t':=s.toks) (r.append r2) (by rw [agn];lia),rfl,q _ I.fresh⟩
end
end L2
namespace Att
open PySem PySem.W PySem.Calls PyProof.Rows
theorem uv{P:Params}{h:Heap}:∀ (ns:List Int) (vs:List Value),WellAll P h vs (ns.map WData.int)->IntsAre vs ns:=by
 intro ns
 induction ns with
 | nil =>
  intro vs w
  rw [map_nil] at w
  cases w
  exact .nil
 | cons n ns ih =>
  intro vs w
  rw [map_cons] at w
  cases w with
  | cons a b =>
   cases a
   exact .cons _ _ (ih _ b)
theorem E4{l:OpenLaw}{n:Nat}(hn:l.most=some n){P:Params}{h:Heap}{args:List WData}{vals:List Value}
  (Km:l.row.toRowW.claim.pre args=true) (WS:WellAll P h vals args) :
  ∃ a vs ns,vals=[Value.ref a]/\args=[WData.list (ns.map WData.int)]/\h.get? a=some { cls:=.type "list",data:=.seq vs.toArray }/\IntsAre vs ns/\ns.length<=n:=by
 have hsh:WShape.hasAll [] args [.list .int]=true:=(pre_splitW Km).1
 have hc:l.pre.holds [] { args:=args }=true:=(pre_splitW Km).2
 obtain ⟨d,r,rfl,h1,h2⟩:=hasAllW_cons hsh
 obtain rfl:=hasAllW_nil h2
 obtain ⟨xs,rfl,h3⟩:=hasW_list h1
 obtain ⟨ns,rfl⟩:=items_int h3
 have hlen:ns.length<=n:=by
  unfold OpenLaw.pre at hc
  have h4:(WTm.not (.lt (.lit (.int (n:Int))) (.len (.arg 0)))).holds [] { args:=[.list (ns.map .int)] }=true:=by
   have h4:=(holds_andW hc).1
   rw [hn] at h4
   exact h4
  have h5:=condW_of h4 (w_not (w_lt w_lit (w_len_list (w_arg rfl))))
  rw [agm] at h5
  refine Nat.le_of_not_lt fun q=>?_
  have q':(n:Int)<((ns.length:Nat):Int):=by lia
  first
   | (rw [aga q'] at h5;exact absurd h5 (by decide))
   | (simp at h5;lia)
 cases WS with
 | cons w1 w2 =>
  cases w2
  cases w1 with
  | list ho eT=>exact⟨_,_,ns,rfl,rfl,ho,uv ns _ eT,hlen⟩
theorem E5(l:OpenLaw)(args:List WData):l.row.toRowW.claim.post args (.bool true) args=true :=
 postW_of (r:=l.row.toRowW) (X:=(true == true))
  (show WShape.has [] (.bool true) .bool=true by first|rfl|decide|simp [WShape.has,WShape.arms,WShape.armsAll])
  (show (WTm.eq .res (.lit (.bool true))).value [] { args:=args,res:=some (.bool true),after:=args }=some (.bool (true == true)) from w_eq_bool (w_res rfl) w_lit) rfl
theorem AH{l:OpenLaw}{n:Nat}{q:Program}{loose:List Str}{XP:(Str->Option Value)->Heap->Prop}{YP:World->Heap->Prop}{d:DefRec}
  (hn:l.most=some n) (WT:d.params.defaults=[])
  (call:∀ (w:World) (s₀ s₁:Shared) (mg mb:Str->Option Value) (fa:Addr) (o:Obj) (pm cd doc:Value) (a:Addr) (vs:List Value) (ns:List Int),
   Ground q loose [] XP w s₀ mg mb s₁.heap->YP w s₁.heap ->
   s₁.heap.get? fa=some o->o.data=.func (docDef d.name d.params d.body d.scope pm cd doc)->s₁.heap.CodeRec cd d.name->mg d.name=some (.ref fa) ->
   s₁.heap.get? a=some { cls:=.type "list",data:=.seq vs.toArray }->IntsAre vs ns->ns.length<=n->s₁.gens=#[] ->
   codeAny (model l.prog w) callerA (.call (.ref fa) ⟨[.ref a],[]⟩) (fun r s'=>r=.ok (.ret (.bool true))/\OldK s₁.heap s'.heap/\s'.os=s₁.os/\AllBare s'.gens) s₁) :
  WalkO q loose XP YP l.row.toRowW d [] (fun f vs=>PySem.call f vs):=by
 intro w s₀ s₁ mg mb G Y fa o pm cd doc dV kV ho hd Ap hD Rv hg args vals as Km hlay hrd WS hlo
 obtain rfl:dV=.none:=Dflts.none hD WT
 obtain rfl:kV=.none:=Dflts.noKw hD
 obtain ⟨a,vs,ns,rfl,rfl,NJ,hints,hlen⟩:=E4 hn Km WS
 refine enter_call (codeAny_mono (call w s₀ s₁ mg mb fa o pm cd doc a vs ns G Y ho (fd_plain hd) Ap Rv NJ hints hlen hg) fun r s' hq=>?_)
 obtain ⟨rfl,h2,h3,h4⟩:=hq
 exact⟨.inl ⟨.bool true,.bool true,[],rfl,fun _=>rfl,.bool true,E5 l _,fun _=>⟨List.Pairwise.nil,fun _ hm=>(nomatch hm)⟩⟩,h2,h3,h4⟩
section
variable {prog:Program}{w:World}{A:Around}{E:Value->Shared->Prop}{s:Shared}{K:Frag}
end
end Att
namespace L2
open PySem PySem.Spec PyProof.Rows
theorem yp:∀ {vs:List Value} {ns:List Int},IntsAre vs ns->Vals (ns.map V.int) vs
 | _,_,.nil=>.nil
 | _,_,.cons n t h=>.cons ⟨t,rfl⟩ (yp h)
def aP(s:Stmt):Arguments:=match s with
 | .FunctionDef _ a _ _ _ _ _ _ _ _=>a
 | _=>{ posonlyargs:=[],args:=[],vararg:=none,kwonlyargs:=[],kw_defaults:=[],kwarg:=none,defaults:=[] }
def aJ(s:Stmt):List Stmt:=match s with
 | .FunctionDef _ _ b _ _ _ _ _ _ _=>b
 | _=>[]
def ag(s:Stmt):Scope:=match s with
 | .FunctionDef _ _ _ _ _ _ sc _ _ _=>sc
 | _=>{ kind:=.function,names:=[],isGenerator:=false,isCoroutine:=false }
abbrev GB:G4:=fun _ _ _ _ _ _=>False
abbrev E0:XK:=fun _ _ _=>False
theorem AI{X:Cx}:Passes GB X E0:=fun _ _ _ _ _ _ _ h=>h.elim
structure Mm(K:Frag)(x qual:Str)(st:Stmt)(f:Addr)(fd:FuncData):Prop where
 ex:∃ (oc:Value) (od:Option Addr) (kV doc pm:Value) (an:Option Addr) (dh ct:Value) (Gz:Array (Option Value)),
  fd=fnOf x qual (aP st) (aJ st) (ag st) .none kV doc pm an dh ct/\K.lookup f=some ⟨oc,od,.func fd,Gz⟩/\codeIn K dh qual=true
 kp:keepIn K (.ref f)=true
section
variable {P:Program}{w:World}{K:Frag}{mg:Str->Option Value}{base:Heap}
theorem Mm.ok{x qual:Str}{st:Stmt}{f:Addr}{fd:FuncData}{N ps:List Str}{k:Nat}{sp:Sp}(F:Mm K x qual st f fd)(S:aN N ps (ag st))(len:∀ vs H Q E,sp vs H Q E->vs.length=ps.length)
  (mF:∀ (dh:Value) (A:Around) (outer:List Env) (s:Shared) (H:Hp) (vs:List V) (Q:VK) (E:XK),dF k (A.deeper (envOfC qual (ag st) s.heap.objs.size f dh))->sp vs H Q E ->
   ∃ t,yd (rW GB P w K mg base N qual (ag st) f dh A outer s H E).JJ (aJ st) t/\t { nx:=fun _ H'=>Q .fw H',rt:=Q } (start N vs) H):oJ P w K mg base GB (k+1) f fd ps sp:=by
 obtain ⟨oc,od,kV,doc,pm,an,dh,ct,Gz,rfl,lk,Ap⟩:=F.ex
 refine G9 lk Ap S len fun A outer s H vs Q E hr E3=>?_
 obtain ⟨t,h,q⟩:=mF dh A outer s H vs Q E hr E3
 exact⟨t,h.JJ,q⟩
theorem Mm.binds{x qual:Str}{st:Stmt}{f:Addr}{fd:FuncData}{ps:List Str}(F:Mm K x qual st f fd)
  (h:∀ (kV doc pm:Value) (an:Option Addr) (dh ct:Value) (us:List Value),us.length=ps.length->bindArgs (fnOf x qual (aP st) (aJ st) (ag st) .none kV doc pm an dh ct) ⟨us,[]⟩=pure (ps.zip us)):Binds K fd ps []:=by
 obtain ⟨oc,od,kV,doc,pm,an,dh,ct,Gz,rfl,lk,Ap⟩:=F.ex
 exact .all (h kV doc pm an dh ct)
theorem bb{x qual:Str}{st:Stmt}{f:Addr}{oc:Value}{od an:Option Addr}{Gz:Array (Option Value)}{kV doc pm dh ct:Value}(l:K.lookup f=some ⟨oc,od,.func (fnOf x qual (aP st) (aJ st) (ag st) .none kV doc pm an dh ct),Gz⟩)
  (c:codeIn K dh qual=true) (k:keepIn K (.ref f)=true):Mm K x qual st f (fnOf x qual (aP st) (aJ st) (ag st) .none kV doc pm an dh ct):=⟨⟨oc,od,kV,doc,pm,an,dh,ct,Gz,rfl,l,c⟩,k⟩
end
theorem bG{A:Around}{k:Nat}(hr:dF k A):A.units+1<cLine:=agu (Nat.add_le_add_left (by decide:1<=64) _) hr.units
theorem eI{n:Nat}(h:n<=1000):n<sizeLine:=agu h (by decide)
section
variable {X:Cx}
theorem pv (i:Nat) {x:Str} {pos:Pos} (hN:X.N[i]?=some x:=by rfl) (hv:QV X.env.scope x:=by first|exact Or.inl rfl|exact Or.inr (Or.inl rfl)|exact Or.inr (Or.inr rfl)) (hd:(x == ("__debug__":Str))=false:=by decide)
  (Ap:(x == ("__classdict__":Str))=false:=by decide):PE X (.Name x pos) (yX i):=Nb hN hv hd Ap
end
theorem Hj{A B:Prop}(h:B):if false=true then A else B:=by
 rw [if_neg Bool.false_ne_true]
 exact h
theorem NK{A B:Prop}(h:A):if true=true then A else B:=by
 rw [if_pos rfl]
 exact h
def aj(H H':Hp):Prop:=∀ b o,H b=some o->H' b=some o
theorem aj.refl(H:Hp):aj H H:=fun _ _ h=>h
theorem aj.trans{H H1 H2:Hp}(a:aj H H1)(b:aj H1 H2):aj H H2:=fun c o h=>b c o (a c o h)
theorem aj.seq{K:Frag}{H H':Hp}{a:Addr}{xs:List V}(e:aj H H')(h:aW K H a xs):aW K H' a xs:=by
 rcases h with (h|⟨o,h⟩)|h
 ·exact .inl (.inl (e _ _ h))
 ·exact .inl (.inr ⟨o,e _ _ h⟩)
 ·exact .inr h
end L2
namespace L2
open PySem
def fq(cells:List (Str×Addr)):List (Str×NameKind)->List (Str×Addr)->List (Str×Addr)
 | [],acc=>acc
 | (n,k)::r,acc=>fq cells r (if k == .free then (match cells.lookup n with|some c=>(n,c)::acc|none=>acc) else acc)
theorem kJ{scope:Scope}{env:Env}(h:∀ p∈scope.names,p.2=.free->∃ c,env.cells.lookup p.1=some c):closureFor scope env=pure (fq env.cells scope.names []):=by
 have key:∀ (names:List (Str×NameKind)) (acc:List (Str×Addr)),(∀ p∈names,p.2=.free->∃ c,env.cells.lookup p.1=some c) ->
   (forIn names acc (fun (x:Str×NameKind) (cs:List (Str×Addr))=>if (x.2 == NameKind.free)=true then (do let c <- cellOf env x.1;pure (ForInStep.yield ((x.1,c)::cs))) else pure (ForInStep.yield cs)):Sem (List (Str×Addr)))=pure (fq env.cells names acc):=by
  intro names
  induction names with
  | nil=>intro acc _;rfl
  | cons p r ih =>
   intro acc hp
   obtain ⟨n,k⟩:=p
   rw [forIn_cons]
   by_cases hk:k=.free
   ·subst hk
    obtain ⟨c,hc⟩:=hp (n,.free) mem_cons_self rfl
    have e:cellOf env n=pure c:=by unfold cellOf;rw [show env.cells.lookup n=some c from hc]
    show (if (NameKind.free == NameKind.free)=true then _ else _) >>= _=_
    rw [if_pos (by rfl)]
    dsimp only
    rw [e]
    show (forIn r ((n,c)::acc) _:Sem _)=_
    rw [ih _ fun q hq=>hp q (agp _ hq)]
    simp [fq,show env.cells.lookup n=some c from hc]
   ·have uw:(k == NameKind.free)=false:=by simpa using hk
    show (if (k == NameKind.free)=true then _ else _) >>= _=_
    rw [if_neg (by rw [uw];exact Bool.false_ne_true)]
    show (forIn r acc _:Sem _)=_
    rw [ih _ fun q hq=>hp q (agp _ hq)]
    simp [fq,uw]
 unfold closureFor
 have k:=key scope.names [] h
 exact (congrArg (fun m:Sem (List (Str×Addr))=>m >>= fun cs=>pure cs) k).trans rfl
theorem pR{cells:List (Str×Addr)}:∀ {names:List (Str×NameKind)} {acc:List (Str×Addr)},(∀ x c,acc.lookup x=some c->cells.lookup x=some c)->∀ x c,(fq cells names acc).lookup x=some c->cells.lookup x=some c
 | [],acc,h,x,c,e=>h x c e
 | (n,k)::r,acc,h,x,c,e=>by
  refine pR (names:=r) (fun y d q=>?_) x c e
  split at q
  ·split at q
   ·rename_i c0 NL
    rw [lookup_cons] at q
    split at q
    ·rename_i hy
     have hy':y=n:=by simpa using hy
     subst hy'
     rw [NL];exact q
    ·exact h y d q
   ·exact h y d q
  ·exact h y d q
theorem pT{cells:List (Str×Addr)}:∀ {names:List (Str×NameKind)} {acc:List (Str×Addr)} {x:Str},(acc.lookup x).isSome=true\/((x,NameKind.free)∈names/\(cells.lookup x).isSome=true)->((fq cells names acc).lookup x).isSome=true
 | [],acc,x,h=>by
  rcases h with h|h
  ·exact h
  ·exact absurd h.1 (by simp)
 | (n,k)::r,acc,x,h=>by
  refine pT (names:=r) ?_
  rcases h with h|⟨hm,hc⟩
  ·left
   split
   ·split
    ·rw [lookup_cons];split
     ·rfl
     ·exact h
    ·exact h
   ·exact h
  ·rcases agq.mp hm with e|hm
   ·injection e with e1 e2
    subst e1;subst e2
    left
    rw [if_pos (by rfl)]
    cases hq:cells.lookup x with
    | none=>rw [hq] at hc;cases hc
    | some c=>simp
   ·exact .inr ⟨hm,hc⟩
section
variable {prog:Program}{w:World}{A:Around}
theorem rX{R:Result->Shared->Prop}{s:Shared}{elt target iter:Expr}{ifs:List Expr}{scope:Scope}{pos:Pos}{it acc:Value}{env:Env}{E:Value->Shared->Prop}(hE:∀ e s',E e s'->notedBy (model prog w) A env (fun e s'=>R (.error e) s') e s')(I:Nat->Shared->Prop)
  (turn:∀ n s,I n s->wpAny (model prog w) A (pyNext it) (fun r s₁=>match r with
   | none=>R (.ok .next) s₁
   | some v=>wpAny (model prog w) A (letOwnedTupleGo target it v) (fun _ s₁'=>wpAny (model prog w) A (assign target env v) (fun _ s₂ =>
     wpAny (model prog w) A (forIn ifs true fun c r=>if r=true then do let ok <- isTrue c env (eval c env);pure (ForInStep.yield ok) else pure (ForInStep.yield r)) (fun ok s₃ =>
      if ok=true then wpAny (model prog w) A (eval elt env) (fun x s₄ =>
       wpAny (model prog w) A (call (.builtin "list.append") [acc,x]) (fun _ s₅=>∃ m,m<n/\I m s₅) E s₄) E s₃
      else ∃ m,m<n/\I m s₃) E s₂) E s₁') E s₁) E s)
  (n:Nat) (h:I n s) :
  codeAny (model prog w) A (.compLoop (.ListComp elt [⟨target,iter,ifs,0⟩] scope pos) 0 it acc env) R s:=by
 have yq:∀ {α:Type} {t:Sem α} {Q:α->Shared->Prop} {s:Shared},wpAny (model prog w) A t Q E s->wpAny (model prog w) A t Q (notedBy (model prog w) A env fun e s'=>R (.error e) s') s:=fun q=>agd q (fun _ _ z=>z) hE
 refine codeAny_loop rfl I (fun n s hI=>?_) n h
 show wpAny _ A ((compTurn (.ListComp elt [⟨target,iter,ifs,0⟩] scope pos) 0 it acc env).onRaise (fun x=>do noteFrame x env;theTreesLotGoes x)) _ _ s
 refine wpAny_noted ?_
 rw [compTurn_list]
 refine afW (wpAny_standAt (afW (agd (yq (turn n s hI)) (fun r s₁ h₁=>?_) fun _ _ h'=>h')))
 cases r with
 | none=>exact agc h₁
 | some v =>
  refine afW (agd (yq h₁) (fun _ s₁' h₁'=>?_) fun _ _ h'=>h')
  refine afW (agd (yq h₁') (fun _ s₂ h₂=>afW (agd (yq h₂) (fun ok s₃ h₃=>?_) fun _ _ h'=>h')) fun _ _ h'=>h')
  cases ok with
  | false=>exact agc ⟨rfl,h₃⟩
  | true =>
   simp only [if_true] at h₃ ⊢
   exact afW (afW (agd (yq h₃) (fun x s₄ h₄=>afW (agd (yq h₄) (fun _ s₅ h₅=>agc (agc ⟨rfl,h₅⟩)) fun _ _ h'=>h')) fun _ _ h'=>h'))
end
open PySem PySem.Spec PyProof.Rows
abbrev dZ(X:Cx)(pins:List (Addr×Obj))(N:List Str)(scope:Scope)(C:Addr)(s:Shared)(H:Hp)(fp:List Addr):Cx :=
 { X with N:=N,s₀:=s,H₀:=H,env:=compEnvC scope (fq X.env.cells scope.names []) C X.env,outer:=X.stack,stack:=X.stack,ex:=fp,fn:=fun _=>false,pn:=X.pn++pins,xe:=fun _ _=>False }
def pick(ix:List (Option Nat))(σ:St):St:=ix.map fun o=>o.bind fun j=>(σ[j]?).join
def oM(X:Cx)(scope:Scope):List Str->List (Option Nat)->Prop
 | [],[]=>True
 | _::N,none::ix=>oM X scope N ix
 | x::N,some j::ix=>(X.N[j]?=some x/\QV X.env.scope x/\(X.env.scope.names.lookup x == some .local)=false/\scope.names.lookup x=some .free)/\oM X scope N ix
 | _,_=>False
theorem oM.len{X:Cx}{scope:Scope}:∀ {N:List Str} {ix:List (Option Nat)},oM X scope N ix->ix.length=N.length
 | [],[],_=>rfl
 | [],none::_,h=>h.elim
 | [],some _::_,h=>h.elim
 | _::_,[],h=>h.elim
 | _::N,none::ix,h=>by simp only [length_cons];rw [oM.len (N:=N) (ix:=ix) h]
 | _::N,some _::ix,h=>by simp only [length_cons];rw [oM.len (N:=N) (ix:=ix) h.2]
theorem oM.get{X:Cx}{scope:Scope}:∀ {N:List Str} {ix:List (Option Nat)} {i j:Nat} {x:Str},oM X scope N ix->N[i]?=some x->ix[i]?=some (some j) ->
  X.N[j]?=some x/\QV X.env.scope x/\(X.env.scope.names.lookup x == some .local)=false/\scope.names.lookup x=some .free
 | [],[],_,_,_,_,h,_=>by simp at h
 | [],none::_,_,_,_,h,_,_=>h.elim
 | [],some _::_,_,_,_,h,_,_=>h.elim
 | _::_,[],_,_,_,h,_,_=>h.elim
 | _::N,none::ix,0,_,_,_,_,e=>by simp at e
 | _::N,none::ix,i+1,_,_,h,h1,e=>oM.get (N:=N) (ix:=ix) (i:=i) h (by simpa using h1) (by simpa using e)
 | y::N,some k::ix,0,j,x,h,h1,e=>by
  simp at h1 e
  subst h1;subst e
  exact h.1
 | _::N,some _::ix,i+1,_,_,h,h1,e=>oM.get (N:=N) (ix:=ix) (i:=i) h.2 (by simpa using h1) (by simpa using e)
theorem pU{ix:List (Option Nat)}{σ:St}{i:Nat}{v:V}(h:(pick ix σ)[i]?=some (some v)):∃ j,ix[i]?=some (some j)/\σ[j]?=some (some v):=by
 unfold pick at h
 rw [agC] at h
 cases e:ix[i]? with
 | none=>rw [e] at h;cases h
 | some o =>
  rw [e] at h
  cases o with
  | none=>cases h
  | some j =>
   refine⟨j,rfl,?_⟩
   have h':(σ[j]?).join=some v:=af5 h
   cases q:σ[j]? with
   | none=>rw [q] at h';cases h'
   | some z=>rw [q] at h';have h2:z=some v:=h';rw [h2]
theorem gf{env : Env} : ∀ {names : List (Str × NameKind)} {x : Str}, (∀ y ∈ names, y.2 ≠ .cell) ->
    ((names.map fun (n, k) => if (k == NameKind.free && env.scope.kind == .function && env.kindOf n == some .cell) then (n, NameKind.cell) else (n, k)).lookup x=some .cell \/
     (names.map fun (n, k) => if (k == NameKind.free && env.scope.kind == .function && env.kindOf n == some .cell) then (n, NameKind.cell) else (n, k)).lookup x=some .free) -> names.lookup x=some .free
  | [], _, _, h => by simp at h
  | (n, k)::r, x, hc, h => by
    have ih := @gf env r x fun y hy => hc y (agp _ hy)
    have hk : k ≠ .cell := hc (n, k) mem_cons_self
    rw [map_cons] at h
    cases hx : x == n with
    | true =>
      rw [lookup_cons, hx]
      by_cases ux : (k == NameKind.free && env.scope.kind == .function && env.kindOf n == some .cell)=true
      · have : k=.free := by
          simp only [Bool.and_eq_true, beq_iff_eq] at ux
          exact ux.1.1
        rw [this]
      · simp only [ux, Bool.false_eq_true, if_false, lookup_cons, hx] at h
        rcases h with h|h
        · exact absurd (af5 h) hk
        · exact h
    | false =>
      rw [lookup_cons, hx]
      refine ih ?_
      by_cases ux : (k == NameKind.free && env.scope.kind == .function && env.kindOf n == some .cell)=true
      · simp only [ux, if_true, lookup_cons, hx] at h
        exact h
      · simp only [ux, Bool.false_eq_true, if_false, lookup_cons, hx] at h
        exact h
theorem kK{env : Env} : ∀ {names : List (Str × NameKind)} {x : Str}, names.lookup x=some .free ->
    ((names.map fun (n, k) => if (k == NameKind.free && env.scope.kind == .function && env.kindOf n == some .cell) then (n, NameKind.cell) else (n, k)).lookup x=some .cell \/
     (names.map fun (n, k) => if (k == NameKind.free && env.scope.kind == .function && env.kindOf n == some .cell) then (n, NameKind.cell) else (n, k)).lookup x=some .free)
  | [], _, h => by simp at h
  | (n, k)::r, x, h => by
    have ih := @kK env r x
    rw [map_cons]
    cases hx : x == n with
    | true =>
      rw [lookup_cons, hx] at h
      have hk : k=.free := af5 h
      subst hk
      by_cases ux : (NameKind.free == NameKind.free && env.scope.kind == .function && env.kindOf n == some .cell)=true
      · simp only [ux, if_true, lookup_cons, hx];exact .inl trivial
      · simp only [ux, Bool.false_eq_true, if_false, lookup_cons, hx];exact .inr trivial
    | false =>
      rw [lookup_cons, hx] at h
      by_cases ux : (k == NameKind.free && env.scope.kind == .function && env.kindOf n == some .cell)=true
      · simp only [ux, if_true, lookup_cons, hx];exact ih h
      · simp only [ux, Bool.false_eq_true, if_false, lookup_cons, hx];exact ih h
def Vx(Y:Cx):List Expr->TT->Prop
 | [],t=>t=fun _ H Q=>Q true H
 | [c],t=>PT Y c t
 | _,_=>False
def bR(ix:List (Option Nat))(g:TG)(tt:TT)(te:TE)(σ:St)(Q:VK)(J:It)(H1:Hp):Prop:=∀ l,H1 l=none->∃ W:Nat->Nat->St->List V->Hp->Prop,
 (∃ m,W 0 m (pick ix σ) [] (upd H1 l (.lst [])))/\∀ i m σ1 ys H',W i m σ1 ys H'->H' l=some (.lst ys)/\((J.stop i H'/\Q (.ref l) H') \/
  (J.go i H'/\∃ m',m'<m/\∀ x H2,J.J6 i H' x H2->g x σ1 H2 fun σ2 H3=>tt σ2 H3 fun b H4=>if b=true then te σ2 H4 fun y H5=>H5 l=some (.lst ys)/\ys.length<sizeLine/\W (i+1) m' σ2 (ys++[y]) (upd H5 l (.lst (ys++[y]))) else W (i+1) m' σ2 ys H4))
def DZ(ix:List (Option Nat))(wi:TI)(g:TG)(tt:TT)(te:TE):TE:=fun σ H Q=>wi σ H fun J H1=>bR ix g tt te σ Q J H1
theorem Un.letGo{fs ex:List Addr}{H H':Hp}{h h1 h2:Heap}{C:Addr}(u:Un fs ex H H' h h1)(hC:h.objs.size<=C)(sb:Heap.SameBut C h1 h2):Un fs ex H H' h h2:=by
 have ne:∀ b o,h.get? b=some o->b≠C:=fun b o e=>agN (Nat.lt_of_lt_of_le (afY e) hC)
 refine⟨fun b o e n hb hx=>(sb.2 b (ne b o e)).trans (u.keep b o e n hb hx),fun b o e n hb hx=>?_,u.free,fun b o e hx=>?_,u.rM,u.pN,u.pO⟩
 ·obtain ⟨sl,q⟩:=u.slot b o e n hb hx
  exact⟨sl,(sb.2 b (ne b o e)).trans q⟩
 ·obtain ⟨o',q⟩:=u.there b o e hx
  exact⟨o',(sb.2 b (ne b o e)).trans q⟩
theorem kD.letGo{P:Program}{w:World}{H:Hp}{h h':Heap}{C:Addr}(x:kD P w H h)(hC:H C=none)(sb:Heap.SameBut C h h'):kD P w H h':=fun a o e=>by
 have na:∀ b u,H b=some u->b≠C:=fun b u q z=>by rw [z,hC] at q;cases q
 refine (x a o e).oB (fun b u hb q=>(sb.2 b ?_).trans q) (fun _ q=>q) fun _ _ q=>q
 rcases hb with rfl|hb
 ·exact na _ _ e
 ·exact na _ _ hb
section
variable {X:Cx}
theorem vw{Y:Cx}{ifs:List Expr}{tt:TT}(ht:Vx Y ifs tt){pins:List (Addr×Obj)}{s:Shared}{σ:St}{H:Hp}{Q:Bool->Hp->Prop}(I:Inv Y pins σ H s)(h:tt σ H Q) :
  wpAny (model Y.prog Y.w) Y.A (forIn ifs true fun c r=>if r=true then do let ok <- isTrue c Y.env (eval c Y.env);pure (ForInStep.yield ok) else pure (ForInStep.yield r)) (TP Y pins σ Q) Y.xe s:=by
 match ifs,ht with
 | [],ht =>
  have e:tt=fun _ H Q=>Q true H:=ht
  subst e
  exact wpAny_tests_nil ⟨H,I,h⟩
 | [c],ht=>exact wpAny_tests_one ((show PT Y c tt from ht) pins s σ H Q I h)
 | _::_::_,ht=>exact False.elim ht
theorem bQ{tg iter elt:Expr}{ifs:List Expr}{scope:Scope}{pos:Pos}{N:List Str}{ix:List (Option Nat)}{wi:TI}{g:TG}{tt:TT}{te:TE}
  (hc:X.calm=true) (hi:PI X tg iter wi)
  (hg:∀ pins C s H fp,PG (dZ X pins N scope C s H fp) tg g)
  (ht:∀ pins C s H fp,Vx (dZ X pins N scope C s H fp) ifs tt)
  (he:∀ pins C s H fp,PE (dZ X pins N scope C s H fp) elt te)
  (hk:scope.kind=.function) (i0:∀ y∈scope.names,y.2≠.cell) (vx:∀ y∈scope.names,y.2=.local->scope.names.lookup y.1=some .local)
  (uy:(scope.names.all fun y=>!(y.2 == NameKind.free) || (X.env.cells.lookup y.1).isSome)=true) (AJ:oM X scope N ix)
  (hs:∀ x,foldedSetIterable iter X.env x=pure x:=by intro _;rfl) :
  PE X (.ListComp elt [⟨tg,iter,ifs,0⟩] scope pos) (DZ ix wi g tt te):=by
 intro pins s σ H Q I h
 have GC:∀ y∈scope.names,y.2=.free->(X.env.cells.lookup y.1).isSome=true:=fun y hy e=>by
  have z:=all_eq_true.mp uy y hy
  rw [e] at z
  simpa using z
 have Cz:∀ p∈scope.names,p.2=.free->∃ c,X.env.cells.lookup p.1=some c:=fun p hp e=>agb.mp (GC p hp e)
 have fx:∀ x c,(fq X.env.cells scope.names []).lookup x=some c->X.env.cells.lookup x=some c:=pR (fun x c q=>by simp at q)
 have t9:∀ x,scope.names.lookup x=some .free->∃ c,(fq X.env.cells scope.names []).lookup x=some c:=fun x hx=>by
  have hm:=PySem.mem_of_lookup hx
  exact agb.mp (pT (.inr ⟨hm,GC _ hm rfl⟩))
 rw [eval_ListComp]
 refine wpAny_comprehension_free (use:=none) rfl hs (kJ Cz) hk vx (di (hi pins s σ H _ I h) fun v s1 h1=>di h1 fun Q7 s2 h2=>?_)
 obtain ⟨it,fp,tn,J,H2,e,I2,T,JL,f2,hW⟩:=h2
 subst e
 have vy:H2 s2.heap.objs.size=none:=I2.cA.fresh (af1 _)
 obtain ⟨W,⟨m0,w0⟩,turn⟩:=hW s2.heap.objs.size vy
 refine wpAny_newObj_type ?_
 have I3:Inv X pins σ (upd H2 s2.heap.objs.size (.lst [])) { s2 with heap:=s2.heap.push { cls:=.type "list",data:=.seq ([]:List Value).toArray } }:=I2.Kl (its:=[]) (t':=s2.toks) .nil (agM _)
 have f3:∀ b∈fp,oG X pins (upd H2 s2.heap.objs.size (.lst [])) b:=fun b hb=>by
  refine⟨?_,(f2 b hb).2⟩
  obtain ⟨o,eo,_⟩:=T.obj _ _ JL b hb
  rw [aG (agN (afY eo))]
  exact (f2 b hb).1
 have yf:tn 0 (s2.heap.push { cls:=.type "list",data:=.seq ([]:List Value).toArray }):=T.keep _ _ _ JL fun b _ o e=>afV _ e
 generalize AK:({ s2 with heap:=s2.heap.push { cls:=.type "list",data:=.seq ([]:List Value).toArray } }:Shared)=s3 at I3
 have yf:tn 0 s3.heap:=by rw [<- AK];exact yf
 generalize hH3:upd H2 s2.heap.objs.size (.lst [])=H3 at I3 f3 w0
 generalize Rw:s2.heap.objs.size=acc at *
 refine wpAny_newFunctionEnv i0 (by intro y hy;simp at hy) (fun h₁ Hk NM=>?_) hk
 have old:∀ b o,s3.heap.get? b=some o->h₁.get? b=some o:=fun b o q=>NM.extBut b o (agN (afY q)) (afV _ q)
 have vz:H3 s3.heap.objs.size=none:=I3.cA.fresh (af1 _)
 have JP:∀ b∈fp,b<s3.heap.objs.size:=fun b hb=>by
  obtain ⟨o,eo,_⟩:=T.obj _ _ yf b hb
  exact afY eo
 have vA:∀ b,b≠X.env.locals->b∉X.fs->b∉yc X.stack:=fun b h1 h2 z=>by
  rcases agq.mp (I3.rN b z) with q|q
  ·exact h1 q
  ·exact h2 q
 have Vy:∀ x c,X.env.cells.lookup x=some c->c<s3.heap.objs.size:=fun x c q=>by
  obtain ⟨v,z⟩:=I3.cell x c q
  exact z.lt
 have YI:∀ (h':Heap) (m:Str->Option Value),(∀ b o,s3.heap.get? b=some o->h'.get? b=some o)->h'.Ns s3.heap.objs.size m ->
   Inv (dZ X pins N scope s3.heap.objs.size s3 H3 fp) [] (pick ix σ) H3 { s3 with heap:=h',toks:=s3.toks+([]:List (Str×Value)).length }:=by
  intro h' m uw hn
  refine⟨⟨I3.ok.mod,hk,I3.ok.glob,I3.ok.blt,af1 _,fun x y c q1 q2=>I3.ok.inj x y c (fx x c q1) (fx y c q2),fun x hx=>t9 x (gf i0 hx),fun x c hf _=>absurd hf Bool.false_ne_true,
   I3.ok.hd,I3.ok.frames,.inl rfl,fun b hb=>⟨agN (JP b hb),fun x c q=>(f3 b hb).2.2.2.2.1 x c (fx x c q)⟩,I3.bs,af0 I3.ok.DM I3.sz,fun b o e hb=>?_,fun b hb=>vA b (f3 b hb).2.1 (f3 b hb).2.2.1,I3.stack,I3.nI⟩,
   rfl,I3.bare,Un.kept uw,⟨m,hn,fun i x v h1 h2 h3=>?_⟩,fun x c q=>?_,vz,fun x c q=>I3.iY x c (fx x c q),fun p hp=>?_,I3.cA.kept uw,?_⟩
  ·have q:=(I3.bs b o e).2
   rcases (f3 b hb).2.2.2.1 with z|z
   ·exact I3.ok.Ci b o e z
   ·exact absurd (Nat.lt_of_lt_of_le (afY e) (af0 I3.ok.DM z)) (Nat.lt_irrefl _)
  ·obtain ⟨j,e1,e2⟩:=pU h2
   obtain ⟨a1,a2,a3,a4⟩:=AJ.get h1 e1
   obtain ⟨mX,hnX,Rx⟩:=I3.loc
   obtain ⟨u,ru,l⟩:=Rx j x v a1 e2 a2
   refine⟨u,ru,?_⟩
   rcases l with ⟨l1,_⟩|⟨_,c,lc,z⟩
   ·have oN:X.env.scope.names.lookup x=some .local:=l1
    rw [oN] at a3
    exact absurd a3 (by decide)
   ·obtain ⟨c',Cj⟩:=t9 x a4
    have ec:=fx x c' Cj
    rw [lc] at ec
    have Ry:c=c':=af5 ec
    subst Ry
    exact .inr ⟨kK a4,c,Cj,z.keeps uw⟩
  ·obtain ⟨v,z⟩:=I3.cell x c (fx x c q)
   exact⟨v,z.keeps uw⟩
  ·have Rz:p∈X.pn++pins:=by simpa using hp
   obtain ⟨a1,a2,a3,a4,a5⟩:=I3.pin p Rz
   exact⟨uw _ _ a1,a2,agN (afY a1),vA p.1 a3 a4,a5⟩
  ·show (pick ix σ).length=N.length
   unfold pick
   rw [agm]
   exact AJ.len
 have Hl:∀ {pl:List (Addr×Obj)} {H':Hp},pl=[]->(∀ b∈fp,H' b=none)->∀ b∈fp,oG (dZ X pins N scope s3.heap.objs.size s3 H3 fp) pl H' b:=fun {pl H'} RA hn b hb=>by
  obtain ⟨f0,f1,Mn,Mo,f4,f5⟩:=f3 b hb
  subst RA
  exact⟨hn b hb,agN (JP b hb),vA b f1 Mn,.inl hb,fun x c q=>f4 x c (fx x c q),fun p hp=>f5 p (by simpa using hp)⟩
 have loop:∀ s4:Shared,(∃ m,s4={ s3 with heap:=h₁,toks:=s3.toks+([]:List (Str×Value)).length }/\h₁.Ns s3.heap.objs.size m) ->
   codeAny (model X.prog X.w) X.A (.compLoop (.ListComp elt [⟨tg,iter,ifs,0⟩] scope pos) 0 (.ref it) (.ref acc) (compEnvC scope (fq X.env.cells scope.names []) s3.heap.objs.size X.env))
    (compPost (model X.prog X.w) X.A X.xe none (EP X pins σ Q) (.ref acc) s3.heap.objs.size) s4:=by
  rintro s4 ⟨m4,rfl,E6⟩
  refine rX (E:=fun _ _=>False) (fun _ _ z=>z.elim)
   (fun n s'=>∃ i σ' ys H',Inv (dZ X pins N scope s3.heap.objs.size s3 H3 fp) [] σ' H' s'/\tn i s'.heap/\(∀ b∈fp,H' b=none)/\W i n σ' ys H') ?_ m0
   ⟨0,pick ix σ,[],H3,YI h₁ m4 old E6,T.keep _ _ _ yf fun b _ o q=>old b o q,fun b hb=>(f3 b hb).1,w0⟩
  rintro n s5 ⟨i,σ5,ys,H5,I5,Gy,JM,w5⟩
  obtain ⟨hl5,AL⟩:=turn i n σ5 ys H5 w5
  rcases AL with ⟨stop,q⟩|⟨go,m',Aq,step⟩
  ·refine di (T.done (dZ X pins N scope s3.heap.objs.size s3 H3 fp) rfl rfl rfl hc i [] s5 σ5 H5 (fun _ _=>False) I5 (Hl rfl JM) Gy stop) fun r s6 ⟨hr,I6⟩=>?_
   subst hr
   obtain ⟨m6,Qk,_⟩:=I6.loc
   refine⟨m6,Qk,fun h' sb=>?_⟩
   refine⟨.ref acc,H5,I3.DN (ch:=fp) I6.os (I6.base.letGo (af1 _) sb) (I6.cA.letGo I6.free sb) I6.bare fun b hb=>?_,rfl,q⟩
   obtain ⟨f0,f1,Mn,Mo,f4,f5⟩:=f3 b hb
   exact⟨Mo,f1,f4,f5⟩
  ·refine di (T.item (dZ X pins N scope s3.heap.objs.size s3 H3 fp) rfl rfl rfl hc i [] s5 σ5 H5 (fun _ _=>False) I5 (Hl rfl JM) Gy go) fun r s6 ⟨u,hr,h6⟩=>?_
   subst hr
   refine di h6 fun _ s7 ⟨x,H7,I7,r7,y7,Hm,RB⟩=>?_
   have RC:=I7.pinned (Hl rfl RB) (T.obj _ _ Hm)
   refine di (hg pins s3.heap.objs.size s3 H3 fp _ s7 σ5 H7 x u _ RC r7 (step x H7 y7)) fun _ s8 ⟨σ8,H8,I8,q8⟩=>?_
   refine di (vw (ht pins s3.heap.objs.size s3 H3 fp) I8 q8) fun b s9 ⟨H9,I9,q9⟩=>?_
   have back:∀ {σz:St} {Hz:Hp} {sz:Shared} {yz:List V},Inv (dZ X pins N scope s3.heap.objs.size s3 H3 fp) ([]++oH fp s7.heap) σz Hz sz->W (i+1) m' σz yz Hz ->
     ∃ m,m<n/\∃ i σ' ys H',Inv (dZ X pins N scope s3.heap.objs.size s3 H3 fp) [] σ' H' sz/\tn i sz.heap/\(∀ b∈fp,H' b=none)/\W i m σ' ys H':=fun {σz Hz sz yz} Iz wz=>by
    refine⟨m',Aq,i+1,σz,yz,Hz,Iz.fZ,T.keep _ _ _ Hm fun b hb o e=>(Iz.pin (b,o) (agh _ (agh _ (eS hb e)))).1,fun b hb=>?_,wz⟩
    obtain ⟨o,e,d⟩:=T.obj _ _ Hm b hb
    exact (Iz.pin (b,o) (agh _ (agh _ (eS hb e)))).2.1
   cases b with
   | false=>exact back I9 q9
   | true =>
    refine di (he pins s3.heap.objs.size s3 H3 fp _ s9 σ8 H9 _ I9 q9) fun v Cb ⟨y,CA,RD,RE,Ho,Hq,RF⟩=>?_
    refine di (cB _ Cb σ8 CA (.ref acc) [y] (.ref acc) [v] (fun _ H'=>H'=upd CA acc (.lst (ys++[y]))) RD rfl (.cons RE .nil) ⟨acc,ys,y,rfl,rfl,Ho,Hq,rfl⟩) fun _ E7 ⟨_,RG,RH,_,RI⟩=>?_
    subst RI
    exact back RH RF
 have E6:∃ m,h₁.Ns s3.heap.objs.size m:=⟨_,Hk⟩
 obtain ⟨m4,E6⟩:=E6
 have L:=loop _ ⟨m4,rfl,E6⟩
 exact codeAny_compStart_list L (T.self _ 0 _ _ _ (T.keep _ _ _ yf fun b _ o q=>old b o q) L)
end
end L2
namespace L2
open PySem
theorem i6{a b:Nat}(h:@Ne Nat a b):@Ne Addr a b:=h
def d0(k:Bool)(h:Heap)(a:Addr)(xs:Array Value):Prop:=match k with|true=>h.IsTuple a xs|false=>h.IsList a xs
def md(k:Bool)(h:Heap)(it a:Addr)(i:Nat):Prop:=match k with|true=>h.IsTupleIter it a i|false=>h.IsListIter it a i
def gh (k:Bool) (a:Addr):Obj:=match k with|true=>{ cls:=.type "tuple_iterator",data:=.fields #[.ref a,.int 0 0] }|false=>{ cls:=.type "list_iterator",data:=.fields #[.ref a,.int 0 0] }
abbrev IsT (h:Heap) (T:Addr) (vs:Array Value):Prop:=h.get? T=some { cls:=.type "tuple",data:=.seq vs }
theorem d0.keep{k:Bool}{h h':Heap}{a:Addr}{xs:Array Value}(x:d0 k h a xs)(hk:∀ o,h.get? a=some o->h'.get? a=some o):d0 k h' a xs:=by
 cases k with
 | true=>obtain ⟨o,e,r⟩:=x;exact⟨o,hk o e,r⟩
 | false=>obtain ⟨o,e,r⟩:=x;exact⟨o,hk o e,r⟩
theorem md.keep{k:Bool}{h h':Heap}{it a:Addr}{i:Nat}(x:md k h it a i)(hk:∀ o,h.get? it=some o->h'.get? it=some o):md k h' it a i:=by
 cases k with
 | true=>obtain ⟨o,e,r⟩:=x;exact⟨o,hk o e,r⟩
 | false=>obtain ⟨o,e,r⟩:=x;exact⟨o,hk o e,r⟩
theorem md.obj{k:Bool}{h:Heap}{it a:Addr}{i:Nat}(x:md k h it a i):∃ o,h.get? it=some o/\∀ v,o.data≠.cell v:=by
 cases k with
 | true=>obtain ⟨o,e,_,d⟩:=x;exact⟨o,e,fun v z=>by rw [d] at z;cases z⟩
 | false=>obtain ⟨o,e,_,d⟩:=x;exact⟨o,e,fun v z=>by rw [d] at z;cases z⟩
theorem d0.lt{k:Bool}{h:Heap}{a:Addr}{xs:Array Value}(x:d0 k h a xs):a<h.objs.size:=by
 cases k with
 | true=>obtain ⟨o,e,_⟩:=x;exact afY e
 | false=>obtain ⟨o,e,_⟩:=x;exact afY e
theorem vB{k:Bool}{h:Heap}{it a:Addr}(e:h.get? it=some (gh k a)):md k h it a 0:=by
 cases k with
 | true=>exact⟨_,e,rfl,rfl⟩
 | false=>exact⟨_,e,rfl,rfl⟩
section
variable {prog:Program}{w:World}{A:Around}{E:Value->Shared->Prop}{s:Shared}
theorem pV{k:Bool}{a:Addr}{xs:Array Value}{Q:Value->Shared->Prop}(h:d0 k s.heap a xs)(hQ:Q (.ref s.heap.objs.size) { s with heap:=s.heap.push (gh k a) }):wpAny (model prog w) A (pyIter (.ref a)) Q E s:=by
 cases k with
 | true=>exact wpAny_pyIter_tuple h hQ
 | false=>exact wpAny_pyIter_list h hQ
theorem pW{it t:Addr}{i:Nat}{items}{x:Value}{Q:Value->Shared->Prop}(hit:s.heap.IsTupleIter it t i)
  (ht:s.heap.IsTuple t items) (hx:items[i]?=some x)
  (hQ:∀ h',h'.IsTupleIter it t (i+1)->Heap.SameBut it s.heap h'->Q x { s with heap:=h' }) :
  wpAny (model prog w) A (Builtin.SmallTypes.nextOf (.ref it)) Q E s:=by
 obtain ⟨o,ho,hc,hd⟩:=id hit
 obtain ⟨ol,WU,_,nl,WV⟩:=ht
 unfold Builtin.SmallTypes.nextOf
 refine afW (wpAny_callSpecial?_slot (name:=Str.ofString "__next__") hit.typeIs F.slot_tuple_iterator_next
  (wpAny_call_entry F.slot_tuple_iterator_next hit.typeIs F.entry_tuple_iterator_next ?_ (F.args_tuple_iterator_next_1 _)))
 show wpAny _ _ (field (.ref it) 0 >>= _) _ _ s
 refine afW (wpAny_field ho hd (x:=.ref t) rfl ?_)
 show wpAny _ _ (if (Value.ref t == Value.none)=true then _ else _) _ _ s
 rw [if_neg (show ¬ ((Value.ref t == Value.none)=true) from Bool.false_ne_true)]
 show wpAny _ _ (field (.ref it) 1 >>= _) _ _ s
 refine afW (wpAny_field ho hd (x:=.int i 0) rfl ?_)
 show wpAny _ _ (seqItems? (.ref t) >>= _) _ _ s
 refine afW (wpAny_seqItems WU WV ?_)
 simp only [agT,hx]
 refine afW (wpAny_setField ho hd (by simp) (agc ⟨x,rfl,agc (hQ _ ?_ (Heap.SameBut.update ..))⟩))
 exact⟨_,Heap.get?_update_self _ ho (Obj.isFreed_of_fields (Obj.data_mapFields hd _)),(Obj.cls_mapFields ..).trans hc,by
  rw [Obj.data_mapFields hd];simp [rawInt]⟩
theorem rY{it t:Addr}{i:Nat}{items}{Q:Value->Shared->Prop}(hh:A.handled=none)
  (hit:s.heap.IsTupleIter it t i) (ht:s.heap.IsTuple t items) (hx:items[i]?=none)
  (hE:∀ h' e,Heap.ExtBut it s.heap h'->(∃ o,h'.get? e=some o/\o.cls=.type "StopIteration")->E (.ref e) { s with heap:=h' }) :
  wpAny (model prog w) A (Builtin.SmallTypes.nextOf (.ref it)) Q E s:=by
 obtain ⟨o,ho,hc,hd⟩:=id hit
 obtain ⟨ol,WU,_,nl,WV⟩:=ht
 unfold Builtin.SmallTypes.nextOf
 refine afW (wpAny_callSpecial?_slot (name:=Str.ofString "__next__") hit.typeIs F.slot_tuple_iterator_next
  (wpAny_call_entry F.slot_tuple_iterator_next hit.typeIs F.entry_tuple_iterator_next ?_ (F.args_tuple_iterator_next_1 _)))
 show wpAny _ _ (field (.ref it) 0 >>= _) _ _ s
 refine afW (wpAny_field ho hd (x:=.ref t) rfl ?_)
 show wpAny _ _ (if (Value.ref t == Value.none)=true then _ else _) _ _ s
 rw [if_neg (show ¬ ((Value.ref t == Value.none)=true) from Bool.false_ne_true)]
 show wpAny _ _ (field (.ref it) 1 >>= _) _ _ s
 refine afW (wpAny_field ho hd (x:=.int i 0) rfl ?_)
 show wpAny _ _ (seqItems? (.ref t) >>= _) _ _ s
 refine afW (wpAny_seqItems WU WV ?_)
 simp only [agT,hx]
 refine afW (wpAny_rule (afW (wpAny_setField ho hd (by simp) ?_)))
 show wpAny _ _ (newExc (.type "StopIteration") [] >>= _) _ _ _
 refine afW ?_
 simp only [newExc,newTuple]
 refine afW (wpAny_newObj_type ?_ (by size_fits))
 refine afW (m:=firstArgMember _ _) (wpAny_of_eq (a:=Value.none) (by first|rfl|(simp only [firstArgMember];rfl)) ?_)
 refine wpAny_newObj_type ?_ (by size_fits)
 simp only [raiseNew]
 refine afW (wpAny_handled ?_)
 first|rw [show A.in1.handled=none from hh]|rw [hh]
 refine afW (agc (wpAny_throw ?_))
 exact hE _ _ (((Heap.SameBut.update ..).extBut.push _).push _) ⟨_,afZ _ rfl,rfl⟩
theorem pX{k:Bool}{it a:Addr}{i:Nat}{xs:Array Value}{x:Value}{Q:Value->Shared->Prop}(hit:md k s.heap it a i)(hs:d0 k s.heap a xs)(hx:xs[i]?=some x)
  (hQ:∀ h',md k h' it a (i+1)->Heap.SameBut it s.heap h'->Q x { s with heap:=h' }):wpAny (model prog w) A (Builtin.SmallTypes.nextOf (.ref it)) Q E s:=by
 cases k with
 | true=>exact pW hit hs hx hQ
 | false=>exact wpAny_nextOf_list_item hit hs hx hQ
theorem zd{k:Bool}{it a:Addr}{i:Nat}{xs:Array Value}{Q:Value->Shared->Prop}(hh:A.handled=none)(hit:md k s.heap it a i)(hs:d0 k s.heap a xs)(hx:xs[i]?=none)
  (hE:∀ h' e,Heap.ExtBut it s.heap h'->(∃ o,h'.get? e=some o/\o.cls=.type "StopIteration")->E (.ref e) { s with heap:=h' }):wpAny (model prog w) A (Builtin.SmallTypes.nextOf (.ref it)) Q E s:=by
 cases k with
 | true=>exact rY hh hit hs hx hE
 | false=>exact wpAny_nextOf_list_end hh hit hs hx hE
theorem ze{T:Addr}{vs:Array Value}{x:Value}{k:Nat}{Q:Unit->Shared->Prop}(hT:IsT s.heap T vs)(hz:vs.size<=8)
  (h:∀ h',IsT h' T (vs.setIfInBounds k x)->Heap.SameBut T s.heap h'->Q () { s with heap:=h' }):wpAny (model prog w) A (updateSeq T (·.setIfInBounds k x)) Q E s:=by
 have RJ:vs.size<=sizeLine:=af0 hz (by decide)
 refine wpAny_updateSeq (hz:=RJ) (_hz':=by simp only [Array.size_setIfInBounds];lia) hT rfl (h _ ?_ (Heap.SameBut.update ..))
 show (s.heap.update T _).get? T=_
 rw [Heap.get?_update_self _ hT rfl]
 simp [Obj.mapSeq]
structure AM(k1 k2:Bool)(n a b:Nat)(i:Nat)(f0:Value)(h:Heap):Prop where
 z:IsZip h (n+4) (n+2) (n+3) f0
 ti:IsT h (n+2) #[.ref n,.ref (n+1)]
 to:∃ u v,IsT h (n+3) #[u,v]
 i1:md k1 h n a i
 i2:md k2 h (n+1) b i
def Off(l:List Addr)(h h':Heap):Prop:=∀ c o,c∉l->h.get? c=some o->h'.get? c=some o
theorem Off.of{c:Addr}{l:List Addr}{h h':Heap}(s:Heap.SameBut c h h')(hc:c∈l):Off l h h':=fun b o hb e=>(s.2 b fun z=>hb (z ▸ hc)).trans e
theorem Off.trans{l:List Addr}{h h1 h2:Heap}(a:Off l h h1)(b:Off l h1 h2):Off l h h2:=fun c o hc e=>b c o hc (a c o hc e)
theorem Off.push{l:List Addr}{h:Heap}(o:Obj):Off l h (h.push o):=fun _ _ _ e=>afV _ e
theorem E8{k1 k2:Bool}{n a b:Nat}{i:Nat}{xs ys:Array Value}{x y:Value}{Q:Value->Shared->Prop}(Z:AM k1 k2 n a b i .none s.heap)(ha:a<n)(hb:b<n)
  (h1:d0 k1 s.heap a xs) (h2:d0 k2 s.heap b ys) (hx:xs[i]?=some x) (hy:ys[i]?=some y)
  (hQ:∀ h',AM k1 k2 n a b (i+1) (rawInt s.heap.objs.size) h'->IsT h' s.heap.objs.size #[x,y]->h'.objs.size=s.heap.objs.size+1->Off [n,n+1,n+3,n+4] s.heap h'->Q (.ref s.heap.objs.size) { s with heap:=h' }) :
  wpAny (model prog w) A (Builtin.«zip.__next__» ⟨[.ref (n+4)],[]⟩) (fun fin s'=>∃ v,fin=.done (.ret v)/\Q v s') E s:=by
 obtain ⟨hz,Mp,⟨u,v,NN⟩,Mq,Cc⟩:=Z
 show wpAny _ _ (field (.ref (n+4)) 2 >>= _) _ _ _
 refine afW (wpAny_field hz rfl (x:=.bool false) rfl ?_)
 show wpAny _ _ (field (.ref (n+4)) 3 >>= _) _ _ _
 refine afW (wpAny_field hz rfl (x:=.ref (n+2)) rfl ?_)
 refine afW (wpAny_seqItems Mp rfl ?_)
 show wpAny _ _ (Builtin.SmallTypes.ownedTupleIsFree (.ref (n+4)) >>= _) _ _ _
 refine afW ?_
 unfold Builtin.SmallTypes.ownedTupleIsFree
 refine afW (wpAny_field hz rfl (x:=.none) rfl (agc ?_))
 simp only [if_true]
 refine afW (wpAny_rule ?_)
 refine afW (wpAny_field hz rfl (x:=.ref (n+3)) rfl ?_)
 refine afW (wpAny_setField_rec hz (by simp) fun g1 JQ yr=>?_)
 replace JQ:IsZip g1 (n+4) (n+2) (n+3) .ellipsis:=JQ
 refine afW ?_
 simp only [List.zipIdx_cons,List.zipIdx_nil,forIn_cons,forIn_nil]
 refine afW (afW (wpAny_onRaise ?_))
 show wpAny _ _ (Builtin.SmallTypes.nextOf (.ref n) >>= _) _ _ _
 refine afW (pX (Mq.keep fun o e=>(yr.2 _ (i6 (by lia))).trans e) (h1.keep fun o e=>(yr.2 _ (i6 (by lia))).trans e) hx fun g2 RK jS=>agc ?_)
 have Hs:IsT g2 (n+3) #[u,v]:=(jS.2 _ (i6 (by lia))).trans ((yr.2 _ (i6 (by lia))).trans NN)
 refine afW (wpAny_seqItems Hs rfl ?_)
 refine afW (ze Hs (by simp) fun g3 Kn AK=>?_)
 replace Kn:IsT g3 (n+3) #[x,v]:=Kn
 refine afW (wpAny_letGo (agc ?_))
 refine afW (afW (wpAny_onRaise ?_))
 show wpAny _ _ (Builtin.SmallTypes.nextOf (.ref (n+1)) >>= _) _ _ _
 refine afW (pX (Cc.keep fun o e=>(AK.2 _ (i6 (by lia))).trans ((jS.2 _ (i6 (by lia))).trans ((yr.2 _ (i6 (by lia))).trans e))) (h2.keep fun o e=>(AK.2 _ (i6 (by lia))).trans ((jS.2 _ (i6 (by lia))).trans ((yr.2 _ (i6 (by lia))).trans e))) hy fun g4 WW Mr=>agc ?_)
 have RL:IsT g4 (n+3) #[x,v]:=(Mr.2 _ (i6 (by lia))).trans Kn
 refine afW (wpAny_seqItems RL rfl ?_)
 refine afW (ze RL (by simp) fun g5 Ko RM=>?_)
 replace Ko:IsT g5 (n+3) #[x,y]:=Ko
 refine afW (wpAny_letGo (agc (agc ?_)))
 refine afW (wpAny_seqItems Ko rfl ?_)
 refine afW (wpAny_newTuple ?_)
 have xj:g5.objs.size=s.heap.objs.size:=by rw [RM.1,Mr.1,AK.1,jS.1,yr.1]
 have hz5:IsZip g5 (n+4) (n+2) (n+3) .ellipsis:=(RM.2 _ (i6 (by lia))).trans ((Mr.2 _ (i6 (by lia))).trans ((AK.2 _ (i6 (by lia))).trans ((jS.2 _ (i6 (by lia))).trans JQ)))
 have RN:Off [n,n+1,n+3,n+4] s.heap g5:=((((Off.of yr (by simp)).trans (Off.of jS (by simp))).trans (Off.of AK (by simp))).trans (Off.of Mr (by simp))).trans (Off.of RM (by simp))
 have RO:n+4<g5.objs.size:=afY hz5
 show wpAny _ _ (Builtin.SmallTypes.ownedTupleHandOut (.ref (n+4)) (.ref g5.objs.size) >>= _) _ _ _
 refine afW ?_
 unfold Builtin.SmallTypes.ownedTupleHandOut
 have hz6:IsZip (g5.push { cls:=.type "tuple",data:=.seq #[x,y] }) (n+4) (n+2) (n+3) .ellipsis:=afV _ hz5
 refine afW (wpAny_setField_rec hz6 (by simp) fun g7 WX WY=>?_)
 replace WX:IsZip g7 (n+4) (n+2) (n+3) (rawInt g5.objs.size):=WX
 refine wpAny_setField_rec WX (by simp) fun g8 Vz WZ=>?_
 replace Vz:IsZip g8 (n+4) (n+2) (n+3) (rawInt g5.objs.size):=Vz
 have up:∀ c o,c≠n+4->g5.get? c=some o->g8.get? c=some o:=fun c o c1 e=>(WZ.2 _ c1).trans ((WY.2 _ c1).trans (afV _ e))
 have VA:IsT g8 g5.objs.size #[x,y]:=(WZ.2 _ (Nat.ne_of_gt RO)).trans ((WY.2 _ (Nat.ne_of_gt RO)).trans (afZ _ rfl))
 have RP:g8.objs.size=g5.objs.size+1:=by rw [WZ.1,WY.1,Heap.size_push]
 rw [xj] at Vz VA RP
 refine agc ⟨_,rfl,?_⟩
 show Q (.ref g5.objs.size) _
 rw [xj]
 refine hQ g8 ⟨Vz,up _ _ (i6 (by lia)) (RN _ _ (by simp) Mp),⟨x,y,up _ _ (i6 (by lia)) Ko⟩,?_,?_⟩ VA RP fun c o hc e=>?_
 ·exact RK.keep fun o e=>up _ o (i6 (by lia)) ((RM.2 _ (i6 (by lia))).trans ((Mr.2 _ (i6 (by lia))).trans ((AK.2 _ (i6 (by lia))).trans e)))
 ·exact WW.keep fun o e=>up _ o (i6 (by lia)) ((RM.2 _ (i6 (by lia))).trans e)
 ·exact up c o (fun z=>hc (by simp [z])) (RN c o hc e)
theorem E9{k1 k2:Bool}{n a b:Nat}{i:Nat}{xs ys:Array Value}{Q:Fin->Shared->Prop}(hh:A.handled=none)(Z:AM k1 k2 n a b i .none s.heap)(ha:a<n)(hb:b<n)
  (h1:d0 k1 s.heap a xs) (h2:d0 k2 s.heap b ys) (Fb:xs[i]?=none\/ys[i]?=none)
  (hE:∀ h' e,Off [n,n+1,n+3,n+4] s.heap h'->(∃ o,h'.get? e=some o/\o.cls=.type "StopIteration")->E (.ref e) { s with heap:=h' }) :
  wpAny (model prog w) A (Builtin.«zip.__next__» ⟨[.ref (n+4)],[]⟩) Q E s:=by
 obtain ⟨hz,Mp,⟨u,v,NN⟩,Mq,Cc⟩:=Z
 show wpAny _ _ (field (.ref (n+4)) 2 >>= _) _ _ _
 refine afW (wpAny_field hz rfl (x:=.bool false) rfl ?_)
 show wpAny _ _ (field (.ref (n+4)) 3 >>= _) _ _ _
 refine afW (wpAny_field hz rfl (x:=.ref (n+2)) rfl ?_)
 refine afW (wpAny_seqItems Mp rfl ?_)
 show wpAny _ _ (Builtin.SmallTypes.ownedTupleIsFree (.ref (n+4)) >>= _) _ _ _
 refine afW ?_
 unfold Builtin.SmallTypes.ownedTupleIsFree
 refine afW (wpAny_field hz rfl (x:=.none) rfl (agc ?_))
 simp only [if_true]
 refine afW (wpAny_rule ?_)
 refine afW (wpAny_field hz rfl (x:=.ref (n+3)) rfl ?_)
 refine afW (wpAny_setField_rec hz (by simp) fun g1 JQ yr=>?_)
 replace JQ:IsZip g1 (n+4) (n+2) (n+3) .ellipsis:=JQ
 refine afW ?_
 simp only [List.zipIdx_cons,List.zipIdx_nil,forIn_cons,forIn_nil]
 refine afW (afW (wpAny_onRaise ?_))
 show wpAny _ _ (Builtin.SmallTypes.nextOf (.ref n) >>= _) _ _ _
 have fin:∀ {g h':Heap} {e:Addr},IsZip g (n+4) (n+2) (n+3) .ellipsis->(∃ o,g.get? e=some o/\o.cls=.type "StopIteration")->Off [n,n+1,n+3,n+4] s.heap g->∀ s':Shared,s'={ s with heap:=g } ->
   wpAny (model prog w) A (setField (.ref (n+4)) 0 .none) (fun _ s'=>E (.ref e) s') E s':=by
  intro g h' e hzg ⟨oe,W0,hce⟩ off s' es
  subst es
  have hez:e≠n+4:=fun z=>by subst z;rw [hzg] at W0;cases W0;simp at hce
  exact wpAny_setField_rec hzg (by simp) fun g9 _ hs9=>hE g9 e (off.trans (Off.of hs9 (by simp))) ⟨oe,(hs9.2 _ hez).trans W0,hce⟩
 cases hx:xs[i]? with
 | none =>
  refine afW (zd hh (Mq.keep fun o e=>(yr.2 _ (i6 (by lia))).trans e) (h1.keep fun o e=>(yr.2 _ (i6 (by lia))).trans e) hx fun g2 e jS he=>?_)
  exact fin (h':=g2) (jS _ _ (i6 (by lia)) JQ) he ((Off.of yr (by simp)).trans fun c o hc q=>jS c o (fun z=>hc (by simp [z])) q) _ rfl
 | some x =>
  have hy:ys[i]?=none:=by rcases Fb with h|h;rw [hx] at h;cases h;exact h
  refine afW (pX (Mq.keep fun o e=>(yr.2 _ (i6 (by lia))).trans e) (h1.keep fun o e=>(yr.2 _ (i6 (by lia))).trans e) hx fun g2 RK jS=>agc ?_)
  have Hs:IsT g2 (n+3) #[u,v]:=(jS.2 _ (i6 (by lia))).trans ((yr.2 _ (i6 (by lia))).trans NN)
  refine afW (wpAny_seqItems Hs rfl ?_)
  refine afW (ze Hs (by simp) fun g3 Kn AK=>?_)
  refine afW (wpAny_letGo (agc ?_))
  refine afW (afW (wpAny_onRaise ?_))
  show wpAny _ _ (Builtin.SmallTypes.nextOf (.ref (n+1)) >>= _) _ _ _
  refine afW (zd hh (Cc.keep fun o e=>(AK.2 _ (i6 (by lia))).trans ((jS.2 _ (i6 (by lia))).trans ((yr.2 _ (i6 (by lia))).trans e))) (h2.keep fun o e=>(AK.2 _ (i6 (by lia))).trans ((jS.2 _ (i6 (by lia))).trans ((yr.2 _ (i6 (by lia))).trans e))) hy fun g4 e Mr he=>?_)
  exact fin (h':=g4) (Mr _ _ (i6 (by lia)) ((AK.2 _ (i6 (by lia))).trans ((jS.2 _ (i6 (by lia))).trans JQ))) he ((((Off.of yr (by simp)).trans (Off.of jS (by simp))).trans (Off.of AK (by simp))).trans fun c o hc q=>Mr c o (fun z=>hc (by simp [z])) q) _ rfl
theorem AN{k1 k2:Bool}{n a b:Nat}{i:Nat}{xs ys:Array Value}{x y:Value}{Q:Option Value->Shared->Prop}(Z:AM k1 k2 n a b i .none s.heap)(ha:a<n)(hb:b<n)
  (h1:d0 k1 s.heap a xs) (h2:d0 k2 s.heap b ys) (hx:xs[i]?=some x) (hy:ys[i]?=some y)
  (hQ:∀ h',AM k1 k2 n a b (i+1) (rawInt s.heap.objs.size) h'->IsT h' s.heap.objs.size #[x,y]->h'.objs.size=s.heap.objs.size+1->Off [n,n+1,n+3,n+4] s.heap h'->Q (some (.ref s.heap.objs.size)) { s with heap:=h' }) :
  wpAny (model prog w) A (pyNext (.ref (n+4))) Q E s:=by
 have hT:s.TypeIs (.ref (n+4)) "zip":=⟨_,Z.z,rfl⟩
 unfold pyNext
 exact afW (wpAny_attempt (wpAny_callSpecial?_slot (name:=Str.ofString "__next__") hT F.slot_zip_next
  (wpAny_call_entry F.slot_zip_next hT F.entry_zip_next
   (E8 Z ha hb h1 h2 hx hy fun h' a1 a2 a3 a4=>agc (hQ h' a1 a2 a3 a4)) (F.args_zip_next_1 _))))
theorem uz{k1 k2:Bool}{n a b:Nat}{i:Nat}{xs ys:Array Value}{Q:Option Value->Shared->Prop}(hh:A.handled=none)(Z:AM k1 k2 n a b i .none s.heap)(ha:a<n)(hb:b<n)
  (h1:d0 k1 s.heap a xs) (h2:d0 k2 s.heap b ys) (Fb:xs[i]?=none\/ys[i]?=none)
  (hQ:∀ h',Off [n,n+1,n+3,n+4] s.heap h'->Q none { s with heap:=h' }):wpAny (model prog w) A (pyNext (.ref (n+4))) Q E s:=by
 have hT:s.TypeIs (.ref (n+4)) "zip":=⟨_,Z.z,rfl⟩
 unfold pyNext
 refine afW (wpAny_attempt (wpAny_callSpecial?_slot (name:=Str.ofString "__next__") hT F.slot_zip_next
  (wpAny_call_entry F.slot_zip_next hT F.entry_zip_next (E9 (A:=A.in1) hh Z ha hb h1 h2 Fb fun h' e hk he=>?_) (F.args_zip_next_1 _))))
 obtain ⟨o,ho,hc⟩:=he
 refine afW (wpAny_isInstance (T:="StopIteration") (b:=true) ⟨o,ho,hc⟩ isSubtype_stop ?_)
 exact agc (hQ _ hk)
end
abbrev Ms (k1 k2:Bool) (h:Heap) (a b:Addr):Heap:=((((h.push (gh k1 a)).push (gh k2 b)).push { cls:=.type "tuple",data:=.seq #[.ref h.objs.size,.ref (h.objs.size+1)] }).push { cls:=.type "tuple",data:=.seq #[.none,.none] }).push
 { cls:=.type "zip",data:=.fields #[.none,.bool false,.bool false,.ref (h.objs.size+2),.ref (h.objs.size+3)] }
theorem Fc(k1 k2:Bool)(a b:Addr)(xs ys:Array Value) :
  Meets (Builtin.«zip.__new__» ⟨[.type "zip",.ref a,.ref b],[]⟩) (fun _ R s=>d0 k1 s.heap a xs/\d0 k2 s.heap b ys /\
   R (.ok (.ret (.ref (s.heap.objs.size+4)))) { s with heap:=Ms k1 k2 s.heap a b }) :=
 .of_wp fun prog w A R s h=>by
  obtain ⟨hp,g,d,tk,os⟩:=s;obtain ⟨RQ,Vw,h⟩:=h
  have hsub:=sub_zip
  have hL1:d0 k1 (Shared.heap ⟨hp,g,d,tk,os⟩) a xs:=RQ
  have hL2:d0 k2 (Shared.heap ⟨hp.push (gh k1 a),g,d,tk,os⟩) b ys:=d0.keep Vw fun o e=>afV _ e
  wp_walk using pV hL1,pV hL2
  refine⟨_,rfl,?_⟩
  simp only [Heap.size_push]
  exact h
open PySem PySem.Spec PyProof.Rows
def Sq(k:Bool)(K:Frag)(H:Hp)(a:Addr)(xs:List V):Prop:=match k with|true=>aZ K H a xs|false=>aW K H a xs
section
variable {X:Cx}{pins:List (Addr×Obj)}{σ:St}{H H':Hp}{s:Shared}
theorem Inv.sq{k:Bool}{a:Addr}{xs:List V}(I:Inv X pins σ H s)(h:Sq k X.K H a xs):∃ its:List Value,Vals xs its/\d0 k s.heap a its.toArray/\xs.length<=sizeLine:=by
 cases k with
 | true=>exact I.tuple h
 | false =>
  obtain ⟨its,r,p,z⟩:=I.list h
  exact⟨its,r,p.isList,z⟩
theorem Inv.CB{k:Bool}{a:Addr}{xs ys:List V}(I:Inv X pins σ H s)(h:Sq k X.K H a xs)(h':Sq k X.K H a ys):xs=ys:=by
 cases k with
 | true=>exact I.ye h h'
 | false=>exact I.Aw h h'
theorem Inv.off{h':Heap}{t':Nat}{ch:List Addr}(I:Inv X pins σ H s)(hf:∀ b∈ch,oG X pins H b)(off:Off ch s.heap h')(cA:kD X.prog X.w H' h')
  (free:∀ b o,b∉ch->s.heap.get? b=some o->H b=none->H' b=none) (same:∀ b o,H b=some o->H' b=some o):Inv X pins σ H' { s with heap:=h',toks:=t' }:=by
 refine I.step (g':=s.gens) (d':=s.drawn) (ch:=ch) (fun b hb=>?_) (fun b o _ _ hc e _=>off b o hc e) (fun b o _ _ hc e _=>⟨o.slots,off b o hc e⟩) (fun b o hc e n=>free b o hc e n) (fun b o hc e=>⟨o,off b o hc e⟩)
  (fun b xs e=>same b _ e) (fun b o u e=>same b _ e) (fun b ps e=>⟨#[],by rw [same b _ e];simp⟩) (fun m hm=>?_) cA I.bare
 ·obtain ⟨f0,f1,f2,f3,f4,f5⟩:=hf b hb
  exact⟨f3,f1,f4,f5⟩
 ·obtain ⟨o,es,ep,ho,r⟩:=hm
  exact⟨o,es,ep,off _ o (fun z=>(hf _ z).2.1 rfl) ho,r⟩
theorem kD.off{P:Program}{w:World}{h h':Heap}{ch:List Addr}(x:kD P w H h)(hn:∀ b∈ch,H b=none)(off:Off ch h h'):kD P w H h':=fun a o e=>by
 have na:∀ b u,H b=some u->b∉ch:=fun b u q z=>by rw [hn b z] at q;cases q
 refine (x a o e).oB (fun b u hb q=>off b u ?_ q) (fun _ q=>q) fun _ _ q=>q
 rcases hb with rfl|hb
 ·exact na _ _ e
 ·exact na _ _ hb
theorem kD.Hu{P:Program}{w:World}{h h':Heap}{ch:List Addr}{T:Addr}{ob:HO}(x:kD P w H h)(hn:∀ b∈ch,H b=none)(off:Off ch h h')(hT:h.objs.size<=T)(new:eG P w (upd H T ob) h' T ob):kD P w (upd H T ob) h':=fun a o e=>by
 have GD:=x.fresh hT
 have na:∀ b u,H b=some u->b∉ch:=fun b u q z=>by rw [hn b z] at q;cases q
 by_cases ha:a=T
 ·subst ha;rw [aw] at e;cases e;exact new
 ·rw [aG ha] at e
  refine (x a o e).oB (fun b u hb q=>off b u ?_ q) (fun c q=>by rw [aG (bE q GD)];exact q) fun c xs q=>by rw [aG (bE q GD)];exact q
  rcases hb with rfl|hb
  ·exact na _ _ e
  ·exact na _ _ hb
end
theorem D0{c:Addr}{n:Nat}(z:c∈([n,n+1,n+3,n+4]:List Addr)):c∈([n+4,n+2,n+3,n,n+1]:List Addr):=by
 simp only [agq,not_mem_nil,or_false] at z ⊢
 rcases z with h|h|h|h <;> simp [h]
def Kp(K : Frag)(k1 k2 : Bool)(a b : Addr) : It :=
  ⟨fun i H => ∃ xs ys x y, Sq k1 K H a xs /\ Sq k2 K H b ys /\ xs[i]?=some x /\ ys[i]?=some y,
   fun i H v H' => ∃ p x y, v=.ref p /\ H p=none /\ (∀ xs, Sq k1 K H a xs -> xs[i]?=some x) /\ (∀ ys, Sq k2 K H b ys -> ys[i]?=some y) /\ H'=upd H p (.tup [x, y]),
   fun i H => ∃ xs ys, Sq k1 K H a xs /\ Sq k2 K H b ys /\ (xs.length <= i \/ ys.length <= i)⟩
theorem Fd{P:Program}{w:World}{K:Frag}{es:List Expr}{kk:Nat}{pos:Pos}{k1 k2:Bool}(n a b:Nat)(ha:a<n)(hb:b<n) :
  Turn P w K (.Tuple es kk pos) (Kp K k1 k2 a b) [n+4,n+2,n+3,n,n+1] (n+4) (fun i h=>AM k1 k2 n a b i .none h) where
 mem:=by simp
 obj:=fun i h st c hc=>by
  obtain ⟨hz,Mp,⟨u,v,NN⟩,Mq,Cc⟩:=st
  simp only [agq,not_mem_nil,or_false] at hc
  rcases hc with rfl|rfl|rfl|rfl|rfl
  ·exact⟨_,hz,fun v z=>nomatch z⟩
  ·exact⟨_,Mp,fun v z=>nomatch z⟩
  ·exact⟨_,NN,fun v z=>nomatch z⟩
  ·exact Mq.obj
  ·exact Cc.obj
 keep:=fun i h h' st k=>by
  obtain ⟨hz,Mp,⟨u,v,NN⟩,Mq,Cc⟩:=st
  exact⟨k _ (by simp) _ hz,k _ (by simp) _ Mp,⟨u,v,k _ (by simp) _ NN⟩,Mq.keep fun o e=>k _ (by simp) o e,Cc.keep fun o e=>k _ (by simp) o e⟩
 item:=by
  intro X hP hw hK hc i pins s σ H E I hf st hg
  subst hP hw hK
  obtain ⟨xs,ys,x,y,qx,qy,ex,ey⟩:=hg
  obtain ⟨NO,r1,s1,_⟩:=I.sq qx
  obtain ⟨W2,r2,s2,_⟩:=I.sq qy
  obtain ⟨u,hu,ru⟩:=r1.get ex
  obtain ⟨v,hv,rv⟩:=r2.get ey
  refine AN st ha hb s1 s2 (x:=u) (y:=v) (by simpa using hu) (by simpa using hv) fun h' Z hT xj off=>⟨_,rfl,?_⟩
  have GD:H s.heap.objs.size=none:=I.cA.fresh (af1 _)
  have W3:n+4<s.heap.objs.size:=afY st.z
  refine wpAny_letOwnedTupleGo_zip Z.z fun h2 RJ jS=>?_
  have vC:Off [n+4,n+2,n+3,n,n+1] s.heap h2:=fun c o hc e=>(jS.2 c fun z=>hc (by simp [z])).trans (off c o (fun z=>hc (D0 z)) e)
  have rK:IsT h2 s.heap.objs.size #[u,v]:=(jS.2 _ (Nat.ne_of_gt W3)).trans hT
  refine⟨.ref s.heap.objs.size,upd H s.heap.objs.size (.tup [x,y]),?_,rfl,⟨_,x,y,rfl,GD,fun zs RR=>by rw [I.CB RR qx];exact ex,fun zs RR=>by rw [I.CB RR qy];exact ey,rfl⟩,?_,fun c hc=>?_⟩
  ·refine Inv.off (s:=s) (h':=h2) (t':=s.toks) (ch:=[n+4,n+2,n+3,n,n+1]) I hf vC (I.cA.Hu (fun c hc=>(hf c hc).1) vC (af1 _) ?_) (fun c o _ e hn=>?_) fun c o e=>?_
   ·exact⟨by show 2<=sizeLine;decide,[u,v],.cons ru (.cons rv .nil),⟨_,rK,rfl,_,rfl⟩⟩
   ·rw [aG (agN (afY e))];exact hn
   ·rw [aG (bE e GD)];exact e
  ·obtain ⟨z1,z2,⟨a1,a2,z3⟩,z4,z5⟩:=Z
   exact⟨RJ,(jS.2 _ (i6 (by lia))).trans z2,⟨a1,a2,(jS.2 _ (i6 (by lia))).trans z3⟩,z4.keep fun o e=>(jS.2 _ (i6 (by lia))).trans e,z5.keep fun o e=>(jS.2 _ (i6 (by lia))).trans e⟩
  ·have cn:c≠s.heap.objs.size:=by
    simp only [agq,not_mem_nil,or_false] at hc
    rcases hc with rfl|rfl|rfl|rfl|rfl <;> exact i6 (by lia)
   rw [aG cn];exact (hf c hc).1
 done:=by
  intro X hP hw hK hc i pins s σ H E I hf st hg
  subst hP hw hK
  obtain ⟨xs,ys,qx,qy,Fb⟩:=hg
  obtain ⟨NO,r1,s1,_⟩:=I.sq qx
  obtain ⟨W2,r2,s2,_⟩:=I.sq qy
  have e1:=r1.length
  have e2:=r2.length
  refine uz (I.ok.hd hc) st ha hb s1 s2 ?_ fun h' off=>⟨rfl,?_⟩
  ·rcases Fb with z|z
   ·exact .inl (by simp;lia)
   ·exact .inr (by simp;lia)
  ·have vC:Off [n+4,n+2,n+3,n,n+1] s.heap h':=fun c o hc e=>off c o (fun z=>hc (D0 z)) e
   exact Inv.off (s:=s) (t':=s.toks) I hf vC (I.cA.off (fun c hc=>(hf c hc).1) vC) (fun _ _ _ _ q=>q) fun _ _ q=>q
 self:=fun _ _ _ _ _ st h=>wpAny_pyIter_zip st.z h
section
variable {X:Cx}
def Hv(K:Frag)(k1 k2:Bool)(ta:TA):TI:=fun σ H R=>ta σ H fun vs H1=>∃ a b,vs=[.ref a,.ref b]/\(∃ xs,Sq k1 K H1 a xs)/\(∃ ys,Sq k2 K H1 b ys)/\R (Kp K k1 k2 a b) H1
theorem Kq (k1 k2:Bool) {es:List Expr} {kk:Nat} {AB:Pos} {a b:Expr} {ta:TA} {p pos:Pos} (hg:Gl X "zip") (hm:X.mg "zip"=none) (ha:PA X [a,b] ta) (hs:starEach [a,b] X.env=[(false,eval a X.env),(false,eval b X.env)]:=by rfl) (jS:starEach [b] X.env=[(false,eval b X.env)]:=by rfl) :
  PI X (.Tuple es kk AB) (.Call (.Name "zip" p) [a,b] [] pos) (Hv X.K k1 k2 ta):=by
 intro pins s σ H R I h
 refine Call_ (kH I hg hm boot_zip (callWith_type1 (di (ha pos pins s σ H _ I h) fun us s1 ⟨vs,H1,I1,r1,q1⟩=>?_) (by rw [hs,jS]) (by rw [jS];rfl)))
 obtain ⟨a',b',e,⟨xs,qx⟩,⟨ys,qy⟩,q⟩:=q1
 subst e
 obtain ⟨u,v,rfl,ru,rv⟩:=vals2 r1
 cases ru
 cases rv
 obtain ⟨NO,r1,RS,_⟩:=I1.sq qx
 obtain ⟨W2,r2,s2',_⟩:=I1.sq qy
 refine callType_new PySem.F.called_zip (by decide) (PySem.F.typeCall_zip_2 _ _) (PySem.F.newCall_zip_2 _ _) (fun obj=>PySem.F.args_object_init_3 obj _ _) PySem.F.entry_zip_new (Fc k1 k2 a' b' NO.toArray W2.toArray) ⟨RS,s2',?_⟩
 have z1:(s1.heap.push (gh k1 a')).objs.size=s1.heap.objs.size+1:=Heap.size_push ..
 have z2:((s1.heap.push (gh k1 a')).push (gh k2 b')).objs.size=s1.heap.objs.size+2:=by rw [Heap.size_push,z1]
 have z3:(((s1.heap.push (gh k1 a')).push (gh k2 b')).push { cls:=.type "tuple",data:=.seq #[.ref s1.heap.objs.size,.ref (s1.heap.objs.size+1)] }).objs.size=s1.heap.objs.size+3:=by rw [Heap.size_push,z2]
 have z4:((((s1.heap.push (gh k1 a')).push (gh k2 b')).push { cls:=.type "tuple",data:=.seq #[.ref s1.heap.objs.size,.ref (s1.heap.objs.size+1)] }).push { cls:=.type "tuple",data:=.seq #[.none,.none] }).objs.size=s1.heap.objs.size+4:=by rw [Heap.size_push,z3]
 have g5:(Ms k1 k2 s1.heap a' b').get? (s1.heap.objs.size+4)=some { cls:=.type "zip",data:=.fields #[.none,.bool false,.bool false,.ref (s1.heap.objs.size+2),.ref (s1.heap.objs.size+3)] }:=by rw [<- z4];exact afZ _ rfl
 have g4:(Ms k1 k2 s1.heap a' b').get? (s1.heap.objs.size+3)=some { cls:=.type "tuple",data:=.seq #[.none,.none] }:=by rw [<- z3];exact afV _ (afZ _ rfl)
 have g3:(Ms k1 k2 s1.heap a' b').get? (s1.heap.objs.size+2)=some { cls:=.type "tuple",data:=.seq #[.ref s1.heap.objs.size,.ref (s1.heap.objs.size+1)] }:=by rw [<- z2];exact afV _ (afV _ (afZ _ rfl))
 have g2:(Ms k1 k2 s1.heap a' b').get? (s1.heap.objs.size+1)=some (gh k2 b'):=by rw [<- z1];exact afV _ (afV _ (afV _ (afZ _ (by cases k2 <;> rfl))))
 have g1:(Ms k1 k2 s1.heap a' b').get? s1.heap.objs.size=some (gh k1 a'):=afV _ (afV _ (afV _ (afV _ (afZ _ (by cases k1 <;> rfl)))))
 have old:∀ c o,s1.heap.get? c=some o->(Ms k1 k2 s1.heap a' b').get? c=some o:=fun c o x=>afV _ (afV _ (afV _ (afV _ (afV _ x))))
 have Z:AM k1 k2 s1.heap.objs.size a' b' 0 .none (Ms k1 k2 s1.heap a' b'):=⟨g5,g3,⟨_,_,g4⟩,vB g1,vB g2⟩
 show _/\_
 refine⟨⟨_,g5,rfl⟩,wpAny_pyIter_zip Z.z ?_⟩
 refine⟨_,_,_,_,H1,rfl,I1.kept (t':=s1.toks) old,Fd s1.heap.objs.size a' b' RS.lt s2'.lt,Z,fun c hc=>?_,q⟩
 have Mt:s1.heap.objs.size<=c:=by
  simp only [agq,not_mem_nil,or_false] at hc
  rcases hc with rfl|rfl|rfl|rfl|rfl <;> first|exact le_add_right _ _|exact af1 _
 exact I1.Ay Mt (I1.cA.fresh Mt)
end
def iM(i:Int):Nat:=Builtin.Int.intBits i
def i7(i j:Int):Prop:=iM i+iM j<=1000000
theorem i7.ok{i j:Int}(h:i7 i j):IntMulOk i j:=by
 unfold IntMulOk
 intro z
 simp only [Bool.and_eq_true,decide_eq_true_eq] at z
 have z2:=z.2
 unfold Builtin.Int.intTooBig at z2
 have h':Builtin.Int.intBits i+Builtin.Int.intBits j<=1000000:=h
 have b:(1000000:Int)<=bitsLine:=by decide
 simp only [decide_eq_true_eq] at z2
 lia
section
variable {X:Cx}
theorem zf:pM X (binaryOp .Mult) (rI i7 fun i j=>.int (i*j)):=Mh fun _ _ _ _ _ _ _ hc q=>mul_int q hc.ok
def TyR (K:Frag) (H:Hp) (x:V) (t:Value):Prop:=rT K H x t\/(∃ a xs,x=.ref a/\aZ K H a xs/\t=.type "tuple")\/(∃ a xs,x=.ref a/\aW K H a xs/\t=.type "list")
theorem AO:dU X (.builtin "isinstance") (fun xs H Q=>∃ x n t b,xs=[x,.ty n]/\TyR X.K H x t/\kitOne X.K t (.type n)=some b/\Q (.bl b) H):=by
 intro pins s σ H xs us Q I r h
 obtain ⟨x,n,t,b,rfl,ty,e,q⟩:=h
 obtain ⟨u,c,rfl,ru,rc⟩:=vals2 r
 obtain rfl:c=Value.type n:=rc
 have fin:∀ tk,EP X pins σ Q (.bool b) { s with toks:=tk }:=fun tk=>⟨.bl b,H,I.tok tk,rfl,q⟩
 rcases ty with ty|⟨a,ys,rfl,hs,rfl⟩|⟨a,ys,rfl,hs,rfl⟩
 ·exact E1 I ru ty e fin
 ·obtain rfl:u=Value.ref a:=ru
  obtain ⟨its,_,p,_⟩:=I.tuple hs
  obtain ⟨o,h1,h2,_⟩:=p
  exact kia_one kitx_tuple I.mC ⟨o,h1,h2⟩ e (fun z=>nomatch z) fin
 ·obtain rfl:u=Value.ref a:=ru
  obtain ⟨its,_,p,_⟩:=I.list hs
  obtain ⟨o,n',h1,h2,_⟩:=p
  exact kia_one kitx_list I.mC ⟨o,h1,h2⟩ e (fun z=>nomatch z) fin
end
theorem vD(K:Frag)(t:Value):kitOne K t t=some true:=by
 unfold kitOne
 rw [if_pos (by simp)]
def Def(K:Frag)(mg:Str->Option Value)(x:Str)(st:Stmt)(ps:List Str):Prop:=∃ f fd,Mm K x x st f fd/\mg x=some (.ref f)/\Binds K fd ps []
def Ok(P:Program)(w:World)(K:Frag)(mg:Str->Option Value)(base:Heap)(k:Nat)(x:Str)(ps:List Str)(sp:Sp):Prop :=
 ∃ f fd,oJ P w K mg base GB k f fd ps sp/\mg x=some (.ref f)/\keepIn K (.ref f)=true/\Binds K fd ps []
section
variable {P:Program}{w:World}{K:Frag}{mg:Str->Option Value}{base:Heap}
theorem Def.ok{x:Str}{st:Stmt}{N ps:List Str}{k:Nat}{sp:Sp}(D:Def K mg x st ps)(S:aN N ps (ag st))(len:∀ vs H Q E,sp vs H Q E->vs.length=ps.length)
  (mF:∀ (f:Addr) (dh:Value) (A:Around) (outer:List Env) (s:Shared) (H:Hp) (vs:List V) (Q:VK) (E:XK),dF k (A.deeper (envOfC x (ag st) s.heap.objs.size f dh))->sp vs H Q E ->
   ∃ t,yd (rW GB P w K mg base N x (ag st) f dh A outer s H E).JJ (aJ st) t/\t { nx:=fun _ H'=>Q .fw H',rt:=Q } (start N vs) H):Ok P w K mg base (k+1) x ps sp:=by
 obtain ⟨f,fd,F,hm,hb⟩:=D
 exact⟨f,fd,F.ok S len fun dh A outer s H vs Q E hr h=>mF f dh A outer s H vs Q E hr h,hm,F.kp,hb⟩
end
section
variable {X:Cx}{k:Nat}{x:Str}{ps:List Str}{sp:Sp}{p pos:Pos}{e:Expr}{es:List Expr}{t:TA}
theorem ba(O:Ok X.prog X.w X.K X.mg X.base k x ps sp)(hr:dF k X.A)(ha:PA X (e::es) t)(hg:Gl X x:=by rfl)
  (xm:(x == ("__debug__":Str))=false:=by decide) (he:starEach (e::es) X.env=(false,eval e X.env)::starEach es X.env:=by rfl) (ur:(backTo pos (starEach es X.env)).any (·.1)=false:=by rfl) :
  PE X (.Call (.Name x p) (e::es) [] pos) (AE sp [] E0 t):=by
 obtain ⟨f,fd,F,hm,hk,hb⟩:=O
 exact Ka F hr hg hm hk hb .nil AI ha xm he ur
end
theorem aj.cM{H:Hp}{a:Addr}{o:HO}(h:H a=none):aj H (upd H a o):=fun b u e=>by rw [aG (bE e h)];exact e
theorem aj.at{K:Frag}{H H':Hp}{a:Addr}{xs:List V}(e:aj H H')(h:aZ K H a xs):aZ K H' a xs:=by
 rcases h with (h|⟨o,h⟩)|h
 ·exact .inl (.inl (e _ _ h))
 ·exact .inl (.inr ⟨o,e _ _ h⟩)
 ·exact .inr h
theorem aj.sq{k:Bool}{K:Frag}{H H':Hp}{a:Addr}{xs:List V}(e:aj H H')(h:Sq k K H a xs):Sq k K H' a xs:=by
 cases k with
 | true=>exact aj.at e h
 | false=>exact aj.seq e h
def CW(t:Nat)(l:Addr)(n:Nat)(f:Nat->V)(fr:St)(H1:Hp)(i m:Nat)(σ1:St)(ys:List V)(H':Hp):Prop :=
 m=n - i/\i<=n/\(∃ own:St,own.length=t/\σ1=own++fr)/\ys=(List.range i).map f/\aj H1 H'/\H' l=some (.lst ys)
theorem CW.next{t:Nat}{l:Addr}{n:Nat}{f:Nat->V}{fr:St}{H1 H' H5:Hp}{i:Nat}{y:V}(own:St)(ho:own.length=t)(hi:i<n)(hn:n<=1000000)(hl:H1 l=none)(hs:aj H1 H')(jD:H' l=some (.lst ((List.range i).map f)))(s5:aj H' H5)(ey:y=f i) :
  H5 l=some (.lst ((List.range i).map f))/\((List.range i).map f).length<sizeLine/\CW t l n f fr H1 (i+1) (n - (i+1)) (own++fr) ((List.range i).map f++[y]) (upd H5 l (.lst ((List.range i).map f++[y]))):=by
 subst ey
 refine⟨s5 _ _ jD,?_,rfl,hi,⟨own,ho,rfl⟩,?_,fun b o e=>?_,aw⟩
 ·rw [agm,agx]
  exact Nat.lt_of_lt_of_le (Nat.lt_of_lt_of_le hi hn) (by decide)
 ·rw [range_succ,agD];rfl
 ·rw [aG (bE e hl)]
  exact s5 _ _ (hs _ _ e)
theorem zg{J:It}{H1:Hp}{ix:List (Option Nat)}{σ:St}{g:TG}{tt:TT}{te:TE}{Q:VK}(t:Nat)(fr:St)(n:Nat)(f:Nat->V)(kL:pick ix σ=List.replicate t none++fr)
  (pY:∀ H',aj H1 H'->J.stop n H') (Kr:∀ i H',i<n->aj H1 H'->J.go i H')
  (step:∀ i x l H' H2 own,own.length=t->i<n->H1 l=none->aj H1 H'->H' l=some (.lst ((List.range i).map f))->J.J6 i H' x H2 ->
   g x (own++fr) H2 fun σ2 H3=>tt σ2 H3 fun b H4=>if b=true then te σ2 H4 fun y H5=>H5 l=some (.lst ((List.range i).map f))/\((List.range i).map f).length<sizeLine/\CW t l n f fr H1 (i+1) (n - (i+1)) σ2 ((List.range i).map f++[y]) (upd H5 l (.lst ((List.range i).map f++[y])))
    else CW t l n f fr H1 (i+1) (n - (i+1)) σ2 ((List.range i).map f) H4)
  (hQ:∀ l H',H1 l=none->aj H1 H'->H' l=some (.lst ((List.range n).map f))->Q (.ref l) H') :
  bR ix g tt te σ Q J H1:=by
 intro l hl
 refine⟨CW t l n f fr H1,⟨n,by simp,agM _,⟨_,length_replicate,kL⟩,rfl,aj.cM hl,aw⟩,?_⟩
 rintro i m σ1 ys H' ⟨rfl,hi,⟨own,ho,rfl⟩,rfl,hs,jD⟩
 refine⟨jD,?_⟩
 by_cases xq:i<n
 ·exact .inr ⟨Kr i H' xq hs,n - (i+1),by lia,fun x H2 hy=>step i x l H' H2 own ho xq hl hs jD hy⟩
 ·obtain rfl:i=n:=by lia
  exact .inl ⟨pY H' hs,hQ l H' hl hs jD⟩
theorem pZ{J:It}{H1:Hp}{ix:List (Option Nat)}{σ:St}{te:TE}{Q:VK}(fr:St)(n:Nat)(f:Nat->V)(kL:pick ix σ=none::fr)(hn:n<=1000000)
  (pY:∀ H',aj H1 H'->J.stop n H') (Kr:∀ i H',i<n->aj H1 H'->J.go i H')
  (step:∀ i x H' H2 (Qc:VK),i<n->aj H1 H'->J.J6 i H' x H2->(∀ H5,aj H' H5->Qc (f i) H5)->te (some x::fr) H2 Qc)
  (hQ:∀ l H',H1 l=none->aj H1 H'->H' l=some (.lst ((List.range n).map f))->Q (.ref l) H'):bR ix (cO 0) (fun _ H Q=>Q true H) te σ Q J H1:=by
 refine zg 1 fr n f kL pY Kr (fun i x l H' H2 own ho hi hl hs jD hy=>?_) hQ
 obtain ⟨o1,rfl⟩:∃ o1,own=[o1]:=by match own,ho with|[o1],_=>exact⟨o1,rfl⟩
 dsimp only [cO]
 rw [if_pos rfl]
 exact step i x H' H2 _ hi hs hy fun H5 s5=>CW.next (fr:=fr) [some x] rfl hi hn hl hs jD s5 rfl
theorem AQ{K:Frag}{k1 k2:Bool}{a b:Addr}{xs ys:List V}{H1:Hp}{ix:List (Option Nat)}{σ:St}{te:TE}{Q:VK}(fr:St)(f:Nat->V)(kL:pick ix σ=none::none::fr)(ha:Sq k1 K H1 a xs)(hb:Sq k2 K H1 b ys)(hlen:xs.length=ys.length)(hn:xs.length<=1000000)
  (step:∀ i x y H' (Qc:VK),xs[i]?=some x->ys[i]?=some y->aj H1 H'->(∀ H5,aj H' H5->Qc (f i) H5)->te (some x::some y::fr) H' Qc)
  (hQ:∀ l H',H1 l=none->aj H1 H'->H' l=some (.lst ((List.range xs.length).map f))->Q (.ref l) H'):bR ix (yY K 2 (i5 (cO 0) (i5 (cO 1) Ax))) (fun _ H Q=>Q true H) te σ Q (Kp K k1 k2 a b) H1:=by
 refine zg 2 fr xs.length f kL (fun H' s=>⟨_,_,s.sq ha,s.sq hb,.inl (af1 _)⟩) (fun i H' hi s=>?_) (fun i x l H' H2 own ho hi hl hs jD hy=>?_) hQ
 ·exact⟨_,_,xs[i],ys[i]'(hlen ▸ hi),s.sq ha,s.sq hb,agg hi,agg (hlen ▸ hi)⟩
 ·obtain ⟨o1,o2,rfl⟩:∃ o1 o2,own=[o1,o2]:=by match own,ho with|[o1,o2],_=>exact⟨o1,o2,rfl⟩
  obtain ⟨p,x',y',rfl,hp,e1,e2,rfl⟩:=hy
  have g1:=e1 _ (hs.sq ha)
  have g2:=e2 _ (hs.sq hb)
  refine⟨p,_,rfl,aZ.of aw,rfl,_,_,rfl,_,_,rfl,rfl,?_⟩
  show ite (true=true) _ _
  rw [if_pos rfl]
  exact step i x' y' _ _ g1 g2 (hs.trans (aj.cM hp)) fun H5 s5=>CW.next (fr:=fr) [some x',some y'] rfl hi hn hl hs jD ((aj.cM hp).trans s5) rfl
theorem d9{r:List Int}{i:Nat}{x:V}(h:(r.map V.int)[i]?=some x):x=.int (r.getD i 0)/\i<r.length:=by
 rw [agC] at h
 cases e:r[i]? with
 | none=>rw [e] at h;cases h
 | some z =>
  rw [e] at h
  have hl:=(afX.mp e).1
  refine⟨?_,hl⟩
  rw [<- (af5 h),List.getD,e];rfl
theorem int_at{r:List Int}{i:Nat}(h:i<r.length):(r.map V.int)[i]?=some (.int (r.getD i 0)):=by
 rw [agC,List.getD,agg h];rfl
theorem range_getD{α:Type}(f:Int->α)(r:List Int):(List.range r.length).map (fun i=>f (r.getD i 0))=r.map f:=by
 apply ext_getElem
 ·simp
 ·intro i h1 h2
  simp at h1 h2
  simp [List.getD,h1]
theorem Fe{α:Type}(f:Int->Int->α)(r q:List Int)(h:r.length=q.length):(List.range r.length).map (fun i=>f (r.getD i 0) (q.getD i 0))=List.zipWith f r q:=by
 apply ext_getElem
 ·simp [h]
 ·intro i h1 h2
  simp at h1 h2
  have:i<q.length:=by lia
  simp [List.getD,h1,this]
theorem CC{K:Frag}{a b:Addr}{r q:List Int}{H1:Hp}{ix:List (Option Nat)}{σ:St}{Q:VK}(op:Int->Int->Int)(kL:pick ix σ=[none,none])(ha:aZ K H1 a (r.map V.int))(hb:aZ K H1 b (q.map V.int))(hlen:r.length=q.length)(hn:r.length<=1000)
  (hQ:∀ l H',H1 l=none->aj H1 H'->H' l=some (.lst ((List.zipWith op r q).map V.int))->Q (.ref l) H') :
  bR ix (yY K 2 (i5 (cO 0) (i5 (cO 1) Ax))) (fun _ H Q=>Q true H) (Mf (Mg fun i j=>.int (op i j)) (yX 0) (yX 1)) σ Q (Kp K true true a b) H1:=by
 refine AQ (k1:=true) (k2:=true) [] (fun i=>.int (op (r.getD i 0) (q.getD i 0))) kL ha hb (by simpa using hlen) (by rw [agm];lia) (fun i x y H' Qc ex ey hs kc=>?_) fun l H' hl hs jD=>hQ l H' hl hs ?_
 ·obtain ⟨rfl,_⟩:=d9 ex
  obtain ⟨rfl,_⟩:=d9 ey
  exact⟨_,rfl,_,rfl,_,_,rfl,rfl,kc _ (aj.refl _)⟩
 ·rw [jD,agm,Fe (fun x y=>V.int (op x y)) r q hlen,List.map_zipWith]
theorem nJ{K:Frag}{a:Addr}{r:List Int}{H1:Hp}{ix:List (Option Nat)}{σ:St}{te:TE}{Q:VK}(F:Int->V)(fr:St)(kL:pick ix σ=none::fr)(ha:aZ K H1 a (r.map V.int))(hn:r.length<=1000)
  (step:∀ x H' (Qc:VK),x∈r->aj H1 H'->(∀ H5,aj H' H5->Qc (F x) H5)->te (some (.int x)::fr) H' Qc)
  (hQ:∀ l H',H1 l=none->aj H1 H'->H' l=some (.lst (r.map F))->Q (.ref l) H'):bR ix (cO 0) (fun _ H Q=>Q true H) te σ Q (Qi K a) H1:=by
 refine pZ fr r.length (fun i=>F (r.getD i 0)) kL (by lia) (fun H' s=>⟨_,s.at ha,by simp⟩) (fun i H' hi s=>⟨_,_,s.at ha,int_at hi⟩) (fun i x H' H2 Qc hi hs hy kc=>?_) fun l H' hl hs jD=>hQ l H' hl hs ?_
 ·obtain ⟨rfl,e1⟩:=hy
  obtain ⟨rfl,_⟩:=d9 (e1 _ (hs.at ha))
  exact step _ _ Qc (by rw [List.getD,agg hi];exact agR hi) hs kc
 ·rw [jD,range_getD F r]
theorem CD{K:Frag}{a:Addr}{r:List Int}{H1:Hp}{ix:List (Option Nat)}{σ:St}{te:TE}{Q:VK}(F:Int->V)(fr:St)(kL:pick ix σ=none::fr)(ha:aW K H1 a (r.map V.int))(hn:r.length<=1000)
  (step:∀ x H' (Qc:VK),x∈r->aj H1 H'->(∀ H5,aj H' H5->Qc (F x) H5)->te (some (.int x)::fr) H' Qc)
  (hQ:∀ l H',H1 l=none->aj H1 H'->H' l=some (.lst (r.map F))->Q (.ref l) H'):bR ix (cO 0) (fun _ H Q=>Q true H) te σ Q (JK K a) H1:=by
 refine pZ fr r.length (fun i=>F (r.getD i 0)) kL (by lia) (fun H' s=>⟨_,s.seq ha,by simp⟩) (fun i H' hi s=>⟨_,_,s.seq ha,int_at hi⟩) (fun i x H' H2 Qc hi hs hy kc=>?_) fun l H' hl hs jD=>hQ l H' hl hs ?_
 ·obtain ⟨rfl,e1⟩:=hy
  obtain ⟨rfl,_⟩:=d9 (e1 _ (hs.seq ha))
  exact step _ _ Qc (by rw [List.getD,agg hi];exact agR hi) hs kc
 ·rw [jD,range_getD F r]
theorem ke{n:Nat}{H1:Hp}{ix:List (Option Nat)}{σ:St}{te:TE}{Q:VK}(F:Int->V)(fr:St)(kL:pick ix σ=none::fr)(hn:n<=1000000)
  (step:∀ (i:Nat) H' (Qc:VK),i<n->aj H1 H'->(∀ H5,aj H' H5->Qc (F (i:Int)) H5)->te (some (.int (i:Int))::fr) H' Qc)
  (hQ:∀ l H',H1 l=none->aj H1 H'->H' l=some (.lst ((List.range n).map fun i=>F ((i:Nat):Int)))->Q (.ref l) H'):bR ix (cO 0) (fun _ H Q=>Q true H) te σ Q (Gx 0 n) H1:=by
 refine pZ fr n (fun i=>F ((i:Nat):Int)) kL hn (fun _ _=>af1 _) (fun i _ hi _=>hi) (fun i x H' H2 Qc hi hs hy kc=>?_) hQ
 obtain ⟨rfl,rfl⟩:=hy
 rw [zero_add]
 exact step i _ Qc hi hs kc
end L2
namespace b7
def Mu(a b c d e:Nat):Int:=2 ^ a*3 ^ b*5 ^ c*7 ^ d*11 ^ e
def W4(ps:List Int)(es:List Int):Int:=(List.zipWith (fun p e=>p ^ e.toNat) ps es).foldl (·*·) 1
def NP:List Int:=[2,3,5,7,11]
def num(es:List Int):Int:=W4 NP es
def P5(p:Int):Prop:=p=2\/p=3\/p=5\/p=7\/p=11
def Cop(m:Int):Prop:=∀ p,P5 p->m % p≠0
def bl(x:Int):Nat:=if x == 0 then 0 else x.natAbs.log2+1
theorem mG{x:Int}{k:Nat}(h:x.natAbs<2 ^ k):bl x<=k:=by
 unfold bl
 split
 ·lia
 ·rename_i hx
  have RT:x.natAbs≠0:=by simpa using hx
  have:=(Nat.log2_lt RT).mpr h
  lia
def F(m:Int)(x y:Int):Prop:=2 ^ (-m).toNat*y<=2 ^ m.toNat*x
def rt(b c d e:Int):Int:=Mu 0 b.toNat c.toNat d.toNat e.toNat
def rb(b c d e:Int):Int:=Mu 0 (-b).toNat (-c).toNat (-d).toNat (-e).toNat
section
variable (c0 c1 c2 c3 c4:Nat){m:Int}(h:Cop m)
include h
end
theorem AR{α β:Type}{f:α->β}{qs ps:List β}(h:qs.Perm ps):∀ {l:List α},ps=l.map f->∃ m:List α,m.Perm l/\qs=m.map f:=by
 induction h with
 | nil=>intro l e;exact⟨[],by rw [map_eq_nil_iff.mp e.symm],rfl⟩
 | cons x _ ih =>
  intro l e
  cases l with
  | nil=>cases e
  | cons a l =>
   rw [map_cons] at e
   injection e with e1 e2
   obtain ⟨m,p,q⟩:=ih e2
   exact⟨a::m,p.cons a,by rw [map_cons,q,e1]⟩
 | swap x y l0 =>
  intro l e
  match l,e with
  | a::b::l,e =>
   simp only [map_cons,List.cons.injEq] at e
   obtain ⟨e1,e2,e3⟩:=e
   exact⟨b::a::l,.swap _ _ _,by rw [map_cons,map_cons,e1,e2,e3]⟩
 | trans _ _ W5 W6 =>
  intro l e
  obtain ⟨m,p,q⟩:=W6 e
  obtain ⟨m',p',q'⟩:=W5 q
  exact⟨m',p'.trans p,q'⟩
def sub(a b:List Int):List Int:=List.zipWith (· - ·) a b
def bJ(r:List Int)(k:Int):List Int:=r.map (·*k)
def jx(n:Nat):List Int:=List.replicate n 0
theorem sub_len{a b:List Int}{n:Nat}(ha:a.length=n)(hb:b.length=n):(sub a b).length=n:=by simp [sub,ha,hb]
theorem aA{r:List Int}{n:Nat}{k:Int}(h:r.length=n):(bJ r k).length=n:=by simp [bJ,h]
theorem aY(n:Nat):(jx n).length=n:=by simp [jx]
theorem bI{a b:List Int}{n:Nat}(ha:a.length=n)(hb:b.length=n)(i:Nat):(sub a b).getD i 0=a.getD i 0 - b.getD i 0:=by
 by_cases h:i<n
 ·simp only [sub,List.getD,List.getElem?_zipWith]
  rw [agg (by lia),agg (by lia)]
  rfl
 ·simp only [sub,List.getD]
  rw [getElem?_eq_none (by simp;lia),getElem?_eq_none (by lia),getElem?_eq_none (by lia)]
  rfl
theorem bg(r:List Int)(k:Int)(i:Nat):(bJ r k).getD i 0=r.getD i 0*k:=by
 simp only [bJ,List.getD,agC]
 cases r[i]? <;> simp
theorem bU(n i:Nat):(jx n).getD i 0=0:=by
 simp only [jx,List.getD,List.getElem?_replicate]
 split <;> rfl
theorem bF{a b:List Int}{n:Nat}(ha:a.length=n)(hb:b.length=n)(h:∀ i,i<n->a.getD i 0=b.getD i 0):a=b:=by
 apply ext_getElem (by lia)
 intro i h1 h2
 have:=h i (by lia)
 rw [List.getD,List.getD,agg h1,agg h2] at this
 exact this
def Cl(n:Nat)(P:List Int->Prop):Prop:=P (jx n)/\∀ a b:List Int,a.length=n->b.length=n->P a->P b->P (sub a b)
def Span(n:Nat)(rs:List (List Int))(v:List Int):Prop:=∀ P:List Int->Prop,Cl n P->(∀ r∈rs,P r)->P v
def Len(n:Nat)(rs:List (List Int)):Prop:=∀ r∈rs,r.length=n
theorem Span.mem{n:Nat}{rs:List (List Int)}{r:List Int}(h:r∈rs):Span n rs r:=fun _ _ k=>k r h
theorem Span.zero{n:Nat}{rs:List (List Int)}:Span n rs (jx n):=fun _ c _=>c.1
theorem Span.sub{n:Nat}{rs:List (List Int)}{a b:List Int}(la:a.length=n)(lb:b.length=n)(ha:Span n rs a)(hb:Span n rs b):Span n rs (b7.sub a b):=fun P c k=>c.2 a b la lb (ha P c k) (hb P c k)
theorem Span.cl{n:Nat}(rs:List (List Int)):Cl n (Span n rs):=⟨Span.zero,fun _ _ la lb ha hb=>Span.sub la lb ha hb⟩
theorem Span.of{n:Nat}{rs qs:List (List Int)}{v:List Int}(h:Span n rs v)(hq:∀ r∈rs,Span n qs r):Span n qs v:=h _ (Span.cl qs) hq
theorem Span.len{n:Nat}{rs:List (List Int)}{v:List Int}(h:Span n rs v)(hl:Len n rs):v.length=n:=h (fun v=>v.length=n) ⟨aY n,fun _ _ ha hb _ _=>sub_len ha hb⟩ hl
theorem Span.neg{n:Nat}{rs:List (List Int)}{a:List Int}(la:a.length=n)(ha:Span n rs a):Span n rs (bJ a (-1)):=by
 have e:bJ a (-1)=b7.sub (jx n) a:=bF (aA la) (sub_len (aY n) la) fun i _=>by rw [bg,bI (aY n) la,bU];lia
 rw [e]
 exact Span.sub (aY n) la Span.zero ha
theorem Span.NQ{n:Nat}{rs:List (List Int)}{a:List Int}(la:a.length=n)(ha:Span n rs a):∀ k:Nat,Span n rs (bJ a k)
 | 0=>by
  have e:bJ a ((0:Nat):Int)=jx n:=bF (aA la) (aY n) fun i _=>by rw [bg,bU];simp
  rw [e]
  exact Span.zero
 | k+1=>by
  have e:bJ a ((k+1:Nat):Int)=b7.sub (bJ a k) (bJ a (-1)):=bF (aA la) (sub_len (aA la) (aA la)) fun i _=>by
   rw [bg,bI (aA la) (aA la),bg,bg,Int.natCast_add,Int.mul_add]
   simp
  rw [e]
  exact Span.sub (aA la) (aA la) (Span.NQ la ha k) (Span.neg la ha)
theorem Span.mul{n:Nat}{rs:List (List Int)}{a:List Int}(la:a.length=n)(ha:Span n rs a)(k:Int):Span n rs (bJ a k):=by
 rcases Int.le_total 0 k with h|h
 ·obtain ⟨m,rfl⟩:=Int.eq_ofNat_of_zero_le h
  exact Span.NQ la ha m
 ·obtain ⟨m,e⟩:=Int.eq_ofNat_of_zero_le (show 0<=-k by lia)
  have e2:bJ a k=bJ (bJ a m) (-1):=bF (aA la) (aA (aA la)) fun i _=>by
   rw [bg,bg,bg,Int.mul_assoc]
   congr 1
   lia
  rw [e2]
  exact Span.neg (aA la) (Span.NQ la ha m)
def low(v s:List Int)(q:Int):List Int:=sub v (bJ s q)
theorem cq{v s:List Int}{n:Nat}{q:Int}(hv:v.length=n)(hs:s.length=n):(low v s q).length=n:=sub_len hv (aA hs)
theorem cu{v s:List Int}{n:Nat}(hv:v.length=n)(hs:s.length=n)(q:Int)(i:Nat):(low v s q).getD i 0=v.getD i 0 - s.getD i 0*q:=by rw [low,bI hv (aA hs),bg]
theorem Span.low{n:Nat}{rs:List (List Int)}{v s:List Int}(lv:v.length=n)(ls:s.length=n)(hv:Span n rs v)(hs:Span n rs s)(q:Int):Span n rs (b7.low v s q):=Span.sub lv (aA ls) hv (Span.mul ls hs q)
theorem Span.AS{n:Nat}{rs:List (List Int)}{v s:List Int}{q:Int}(lv:v.length=n)(ls:s.length=n)(hl:Span n rs (b7.low v s q))(hs:Span n rs s):Span n rs v:=by
 have e:v=b7.sub (b7.low v s q) (bJ s (-q)):=bF lv (sub_len (cq lv ls) (aA ls)) fun i _=>by
  rw [bI (cq lv ls) (aA ls),cu lv ls,bg]
  rw [mul_neg]
  lia
 rw [e]
 exact Span.sub (cq lv ls) (aA ls) hl (Span.mul ls hs _)
def Eqv(n:Nat)(rs qs:List (List Int)):Prop:=(∀ r∈rs,Span n qs r)/\∀ q∈qs,Span n rs q
theorem Eqv.refl{n:Nat}{rs:List (List Int)}:Eqv n rs rs:=⟨fun _=>Span.mem,fun _=>Span.mem⟩
theorem Eqv.symm{n:Nat}{rs qs:List (List Int)}(h:Eqv n rs qs):Eqv n qs rs:=⟨h.2,h.1⟩
theorem Eqv.trans{n:Nat}{rs qs ts:List (List Int)}(h:Eqv n rs qs)(k:Eqv n qs ts):Eqv n rs ts:=⟨fun r hr=>(h.1 r hr).of k.1,fun t ht=>(k.2 t ht).of h.2⟩
theorem Eqv.perm{n:Nat}{rs qs:List (List Int)}(h:rs.Perm qs):Eqv n rs qs:=⟨fun _ hr=>Span.mem (h.mem_iff.mp hr),fun _ hq=>Span.mem (h.mem_iff.mpr hq)⟩
theorem Eqv.span{n:Nat}{rs qs:List (List Int)}(h:Eqv n rs qs){v:List Int}(hv:Span n rs v):Span n qs v:=hv.of h.1
theorem Span.app{n:Nat}{rs qs:List (List Int)}{v:List Int}(h:Span n rs v):Span n (rs++qs) v:=h.of fun _ hr=>Span.mem (agi _ hr)
theorem Span.RU{n:Nat}{rs qs:List (List Int)}{v:List Int}(h:Span n qs v):Span n (rs++qs) v:=h.of fun _ hr=>Span.mem (agh _ hr)
theorem Eqv.turn{n:Nat}{s:List Int}{rs os:List (List Int)}(f:List Int->Int)(ls:s.length=n)(lr:Len n rs):Eqv n (s::rs++os) (s::(rs.map fun v=>b7.low v s (f v))++os):=by
 have yr:Span n (s::rs++os) s:=Span.mem (by simp)
 have jS:Span n (s::(rs.map fun v=>b7.low v s (f v))++os) s:=Span.mem (by simp)
 refine⟨fun r hr=>?_,fun r hr=>?_⟩
 ·rcases agk.mp hr with h|h
  ·rcases agq.mp h with rfl|h
   ·exact jS
   ·exact Span.AS (q:=f r) (lr r h) ls (Span.mem (agi _ (agp _ (agr.mpr ⟨r,h,rfl⟩)))) jS
  ·exact Span.mem (agh _ h)
 ·rcases agk.mp hr with h|h
  ·rcases agq.mp h with rfl|h
   ·exact yr
   ·obtain ⟨v,hv,rfl⟩:=agr.mp h
    exact Span.low (lr v hv) ls (Span.mem (agi _ (agp _ hv))) yr _
  ·exact Span.mem (agh _ h)
def Led(r:List Int)(k:Nat):Prop:=0<r.getD k 0/\∀ i,k<i->r.getD i 0=0
theorem Led.uniq{r:List Int}{j k:Nat}(a:Led r j)(b:Led r k):j=k:=by
 rcases Nat.lt_trichotomy j k with h|h|h
 ·have:=a.2 k h
  have:=b.1
  lia
 ·exact h
 ·have:=b.2 j h
  have:=a.1
  lia
def W7(a b:List Int):Prop:=∀ k,Led b k->(∃ j,k<j/\Led a j)/\0<=a.getD k 0/\a.getD k 0<b.getD k 0
def SF(rs:List (List Int)):Prop:=(∀ r∈rs,∃ k,Led r k)/\rs.Pairwise W7
theorem SF.tail{a:List Int}{rs:List (List Int)}(h:SF (a::rs)):SF rs:=⟨fun r hr=>h.1 r (agp _ hr),(agP.mp h.2).2⟩
theorem Span.cons{n:Nat}{a:List Int}{rs:List (List Int)}{v:List Int}(la:a.length=n)(lr:Len n rs)(h:Span n (a::rs) v):∃ c,v.length=n/\Span n rs (b7.low v a c):=by
 refine h (fun v=>∃ c,v.length=n/\Span n rs (b7.low v a c)) ⟨⟨0,aY n,?_⟩,?_⟩ ?_
 ·have e:b7.low (jx n) a 0=jx n:=bF (cq (aY n) la) (aY n) fun i _=>by rw [cu (aY n) la,bU];simp
  rw [e]
  exact Span.zero
 ·rintro x y lx ly ⟨c,_,hc⟩ ⟨d,_,hd⟩
  refine⟨c - d,sub_len lx ly,?_⟩
  have e:b7.low (b7.sub x y) a (c - d)=b7.sub (b7.low x a c) (b7.low y a d):=bF (cq (sub_len lx ly) la) (sub_len (cq lx la) (cq ly la)) fun i _=>by
   rw [cu (sub_len lx ly) la,bI lx ly,bI (cq lx la) (cq ly la),cu lx la,cu ly la,mul_sub]
   lia
  rw [e]
  exact Span.sub (cq lx la) (cq ly la) hc hd
 ·intro r hr
  rcases agq.mp hr with rfl|hr
  ·refine⟨1,la,?_⟩
   have e:b7.low r r 1=jx n:=bF (cq la la) (aY n) fun i _=>by rw [cu la la,bU];lia
   rw [e]
   exact Span.zero
  ·refine⟨0,lr r hr,?_⟩
   have e:b7.low r a 0=r:=bF (cq (lr r hr) la) (lr r hr) fun i _=>by rw [cu (lr r hr) la];simp
   rw [e]
   exact Span.mem hr
theorem Span.none{n:Nat}{v:List Int}(h:Span n [] v):v=jx n:=h (fun v=>v=jx n) ⟨rfl,fun a b _ _ ha hb=>by
 rw [ha,hb]
 exact bF (sub_len (aY n) (aY n)) (aY n) fun i _=>by rw [bI (aY n) (aY n),bU];rfl⟩ fun _ hr=>nomatch hr
theorem Span.Hw{n i:Nat}{rs:List (List Int)}{v:List Int}(lr:Len n rs)(h:Span n rs v)(h0:∀ r∈rs,r.getD i 0=0):v.getD i 0=0 :=
 (h (fun v=>v.length=n/\v.getD i 0=0) ⟨⟨aY n,bU n i⟩,fun a b la lb ha hb=>⟨sub_len la lb,by rw [bI la lb,ha.2,hb.2];rfl⟩⟩ fun r hr=>⟨lr r hr,h0 r hr⟩).2
theorem SF.vE{a:List Int}{rs:List (List Int)}(h:SF (a::rs)){j i:Nat}(hj:Led a j)(hi:j<=i):∀ r∈rs,r.getD i 0=0:=fun r hr=>by
 obtain ⟨k,hk⟩:=h.1 r (agp _ hr)
 obtain ⟨⟨j',RV,lj⟩,_⟩:=(agP.mp h.2).1 r hr k hk
 have:=lj.uniq hj
 exact hk.2 i (by lia)
theorem SF.split{n:Nat}{a:List Int}{rs:List (List Int)}{v:List Int}{j:Nat}(h:SF (a::rs))(la:a.length=n)(lr:Len n rs)(hj:Led a j)(hv:Span n (a::rs) v) :
  ∃ c,Span n rs (b7.low v a c)/\v.getD j 0=a.getD j 0*c/\∀ i,j<i->v.getD i 0=0:=by
 obtain ⟨c,lv,hs⟩:=Span.cons la lr hv
 refine⟨c,hs,?_,fun i hi=>?_⟩
 ·have:=Span.Hw (i:=j) lr hs (h.vE hj (af1 _))
  rw [cu lv la] at this
  lia
 ·have:=Span.Hw (i:=i) lr hs (h.vE hj (by lia))
  rw [cu lv la,hj.2 i hi] at this
  lia
theorem Hy{n:Nat}{v a:List Int}(lv:v.length=n)(la:a.length=n):b7.low v a 0=v:=bF (cq lv la) lv fun i _=>by rw [cu lv la];simp
theorem SF.rest{n:Nat}{a:List Int}{rs:List (List Int)}{v:List Int}{j:Nat}(h:SF (a::rs))(la:a.length=n)(lr:Len n rs)(hj:Led a j)(hv:Span n (a::rs) v)(h0:v.getD j 0=0):Span n rs v:=by
 have lv:v.length=n:=hv.len fun r hr=>(agq.mp hr).elim (fun z=>z ▸ la) (lr r)
 obtain ⟨c,hs,e,_⟩:=h.split la lr hj hv
 rw [h0] at e
 have hc:c=0:=by
  rcases agJ.mp e.symm with z|z
  ·have:=hj.1
   lia
  ·exact z
 rw [hc,Hy lv la] at hs
 exact hs
theorem Ff{x l c:Int}(h:x=l*c)(hl:0<l)(h1:-l<x)(h2:x<l):x=0:=by
 rcases Int.lt_trichotomy c 0 with z|z|z
 ·have:l*c<=l*(-1):=Int.mul_le_mul_of_nonneg_left (by lia) (by lia)
  lia
 ·rw [z,mul_zero] at h
  exact h
 ·have:l*1<=l*c:=Int.mul_le_mul_of_nonneg_left (by lia) (by lia)
  lia
theorem SF.small{n:Nat}:∀ {rs:List (List Int)} {v:List Int},SF rs->Len n rs->Span n rs v->(∀ r∈rs,∀ k,Led r k->-(r.getD k 0)<v.getD k 0/\v.getD k 0<r.getD k 0)->v=jx n
 | [],v,_,_,hv,_=>hv.none
 | a::rs,v,h,lr,hv,hs=>by
  obtain ⟨j,hj⟩:=h.1 a (.head _)
  have la:=lr a (.head _)
  have W8:Len n rs:=fun r hr=>lr r (agp _ hr)
  obtain ⟨c,_,e,_⟩:=h.split la W8 hj hv
  have h0:=Ff e hj.1 (hs a (.head _) j hj).1 (hs a (.head _) j hj).2
  exact SF.small h.tail W8 (h.rest la W8 hj hv h0) fun r hr=>hs r (agp _ hr)
theorem NR{x y c d:Int}(hx:0<x)(hy:0<y)(h1:x=y*c)(h2:y=x*d):x=y:=by
 have hc:0<c:=by
  rcases Int.lt_or_le 0 c with z|z
  ·exact z
  ·have:y*c<=y*0:=Int.mul_le_mul_of_nonneg_left z (by lia)
   lia
 have hd:0<d:=by
  rcases Int.lt_or_le 0 d with z|z
  ·exact z
  ·have:x*d<=x*0:=Int.mul_le_mul_of_nonneg_left z (by lia)
   lia
 have a1:y*1<=y*c:=Int.mul_le_mul_of_nonneg_left (by lia) (by lia)
 have a2:x*1<=x*d:=Int.mul_le_mul_of_nonneg_left (by lia) (by lia)
 lia
theorem SF.uniq{n:Nat}:∀ {as bs:List (List Int)},SF as->SF bs->Len n as->Len n bs->Eqv n as bs->as=bs
 | [],[],_,_,_,_,_=>rfl
 | [],b::bs,_,hb,_,_,e=>by
  obtain ⟨k,hk⟩:=hb.1 b (.head _)
  have z:=(e.2 b (.head _)).none
  have:=hk.1
  rw [z,bU] at this
  lia
 | a::as,[],ha,_,_,_,e=>by
  obtain ⟨k,hk⟩:=ha.1 a (.head _)
  have z:=(e.1 a (.head _)).none
  have:=hk.1
  rw [z,bU] at this
  lia
 | a::as,b::bs,ha,hb,la,lb,e=>by
  obtain ⟨j,hj⟩:=ha.1 a (.head _)
  obtain ⟨k,hk⟩:=hb.1 b (.head _)
  have NS:=la a (.head _)
  have Mv:=lb b (.head _)
  have VB:Len n as:=fun r hr=>la r (agp _ hr)
  have VC:Len n bs:=fun r hr=>lb r (agp _ hr)
  obtain ⟨c,s1,e1,z1⟩:=hb.split Mv VC hk (e.1 a (.head _))
  obtain ⟨d,s2,e2,z2⟩:=ha.split NS VB hj (e.2 b (.head _))
  have ejk:j=k:=by
   rcases Nat.lt_trichotomy j k with h|h|h
   ·have:=z2 k h
    have:=hk.1
    lia
   ·exact h
   ·have:=z1 j h
    have:=hj.1
    lia
  subst ejk
  have elead:a.getD j 0=b.getD j 0:=NR hj.1 hk.1 e1 e2
  have et:Eqv n as bs:=⟨fun r hr=>hb.rest Mv VC hk (e.1 r (agp _ hr)) (ha.vE hj (af1 _) r hr),fun r hr=>ha.rest NS VB hj (e.2 r (agp _ hr)) (hb.vE hk (af1 _) r hr)⟩
  have eas:=SF.uniq ha.tail hb.tail VB VC et
  subst eas
  have W9:Span n as (b7.sub a b):=by
   refine hb.rest Mv VC hk (Span.sub NS Mv (e.1 a (.head _)) (Span.mem (.head _))) ?_
   rw [bI NS Mv]
   lia
  have hz:=SF.small ha.tail VB W9 fun r hr k hk=>by
   have b1:=((agP.mp ha.2).1 r hr k hk).2
   have b2:=((agP.mp hb.2).1 r hr k hk).2
   rw [bI NS Mv]
   lia
  have eab:a=b:=bF NS Mv fun i _=>by
   have:=congrArg (fun l=>List.getD l i 0) hz
   simp only [bU] at this
   rw [bI NS Mv] at this
   lia
  rw [eab]
def qt(v s:List Int)(p:Nat):Int:=(v.getD p 0).fdiv (s.getD p 0)
def b8(p:Nat)(s v:List Int):List Int:=low v s (qt v s p)
theorem fy{v s:List Int}{n p:Nat}(hv:v.length=n)(hs:s.length=n):(b8 p s v).length=n:=cq hv hs
theorem rZ{v s:List Int}{n p:Nat}(hv:v.length=n)(hs:s.length=n):(b8 p s v).getD p 0=(v.getD p 0).fmod (s.getD p 0):=by rw [b8,cu hv hs,qt,Int.fmod_def]
theorem CF{x y a:Int}(e:x+y=a):x=a - y:=by rw [<- e,Int.add_sub_cancel]
theorem oa(a:Int){b:Int}(hb:b≠0):(a.fmod b).natAbs<b.natAbs/\(0<b->0<=a.fmod b)/\(b<0->a.fmod b<=0):=by
 rcases Int.lt_or_gt_of_ne hb with h|h
 ·have e:=Int.neg_fmod_neg a b
  have h1:=Int.fmod_nonneg_of_pos (-a) (show 0 < -b by lia)
  have h2:=Int.fmod_lt_of_pos (-a) (show 0 < -b by lia)
  lia
 ·have h1:=Int.fmod_nonneg_of_pos a h
  have h2:=Int.fmod_lt_of_pos a h
  lia
theorem RW{a b:Int}(hb:b≠0)(AU:b.natAbs<=a.natAbs):(a.fdiv b).natAbs*b.natAbs<=2*a.natAbs:=by
 have e:=Int.mul_fdiv_add_fmod a b
 have h:=oa a hb
 have e2:(b*a.fdiv b).natAbs=(a.fdiv b).natAbs*b.natAbs:=by rw [agH,Nat.mul_comm]
 have e3:b*a.fdiv b=a - a.fmod b:=CF e
 rw [<- e2,e3]
 exact af0 (natAbs_sub_le _ _) (by lia)
def Alike(a b:Int):Prop:=(0<a/\0<b)\/(a<0/\b<0)
theorem NT{a b:Int}(hs:Alike a b)(AU:b.natAbs<=a.natAbs):(a.fdiv b).natAbs*b.natAbs+(a.fmod b).natAbs=a.natAbs:=by
 have e:=Int.mul_fdiv_add_fmod a b
 have hb:b≠0:=by rcases hs with h|h <;> lia
 have h:=oa a hb
 have e2:(b*a.fdiv b).natAbs=(a.fdiv b).natAbs*b.natAbs:=by rw [agH,Nat.mul_comm]
 have e3:b*a.fdiv b=a - a.fmod b:=CF e
 rw [<- e2,e3]
 have hl:=af0 (af2 h.1) AU
 rcases hs with z|z
 ·have h1:=h.2.1 z.2
  rw [<- Int.natAbs_add_of_nonneg (by clear e e2 e3 h AU hb;lia) h1,sub_add_cancel]
 ·have h1:=h.2.2 z.2
  rw [<- Int.natAbs_add_of_nonpos (by clear e e2 e3 h AU hb;lia) h1,sub_add_cancel]
def bf(M:Nat)(r:List Int):Prop:=∀ i,(r.getD i 0).natAbs<=M
theorem bf.mono{M N:Nat}{r:List Int}(h:bf M r)(k:M<=N):bf N r:=fun i=>af0 (h i) k
theorem HB{v s:List Int}{n M Q:Nat}{q:Int}(hv:v.length=n)(hs:s.length=n)(bv:bf M v)(bs:bf M s)(hq:q.natAbs<=Q):bf (M+M*Q) (low v s q):=fun i=>by
 rw [cu hv hs]
 have h1:=natAbs_sub_le (v.getD i 0) (s.getD i 0*q)
 have h2:(s.getD i 0*q).natAbs<=M*Q:=by rw [agH];exact agw (bs i) hq
 have h3:=bv i
 lia
def at'(p:Nat)(v:List Int):Nat:=(v.getD p 0).natAbs
structure PS(n p M m l:Nat)(led os:List (List Int)):Prop where
 len:∀ v∈led++os,v.length=n
 bd:∀ v∈led++os,bf M v
 lo:∀ v∈led,l<=at' p v/\at' p v<=m
 pos:0<l
 big:∃ v∈led,at' p v=m
 low:∃ v∈led,at' p v=l
 one:(∀ v∈led,0<v.getD p 0)\/∀ v∈led,v.getD p 0<0
 zero:∀ v∈os,v.getD p 0=0
def dC(p:Nat)(s:List Int)(rest:List (List Int)):List (List Int):=(rest.map (b8 p s)).filter (fun v=>v.getD p 0 != 0)
def gK(p:Nat)(s:List Int)(rest:List (List Int)):List (List Int):=(rest.map (b8 p s)).filter (fun v=>v.getD p 0 == 0)
theorem HC{p:Nat}{s x:List Int}{rest:List (List Int)}:x∈rest.map (b8 p s)↔x∈dC p s rest\/x∈gK p s rest:=by
 unfold dC gK
 rw [ags,ags]
 constructor
 ·intro h
  by_cases e:x.getD p 0=0
  ·exact .inr ⟨h,by simpa using e⟩
  ·exact .inl ⟨h,by simpa using e⟩
 ·rintro (h|h) <;> exact h.1
theorem Eqv.mem{n:Nat}{rs qs:List (List Int)}(h:∀ x,x∈rs↔x∈qs):Eqv n rs qs:=⟨fun r hr=>Span.mem ((h r).mp hr),fun q hq=>Span.mem ((h q).mpr hq)⟩
theorem HD{n p:Nat}{s:List Int}{rest os:List (List Int)}(ls:s.length=n)(lr:Len n rest):Eqv n (s::rest++os) (s::dC p s rest++(os++gK p s rest)):=by
 refine (Eqv.turn (fun v=>qt v s p) ls lr).trans (Eqv.mem fun x=>?_)
 have h:=HC (p:=p) (s:=s) (x:=x) (rest:=rest)
 have h':x∈(rest.map fun v=>low v s (qt v s p))↔x∈dC p s rest\/x∈gK p s rest:=h
 simp only [agk,agq,h']
 constructor
 ·rintro ((h|h|h)|h)
  ·exact .inl (.inl h)
  ·exact .inl (.inr h)
  ·exact .inr (.inr h)
  ·exact .inr (.inl h)
 ·rintro ((h|h)|h|h)
  ·exact .inl (.inl h)
  ·exact .inl (.inr (.inl h))
  ·exact .inr h
  ·exact .inl (.inr (.inr h))
def mz(p:Nat)(rs:List (List Int)):Nat:=(rs.map (at' p)).sum
theorem yt(p:Nat)(f:List Int->Bool):∀ rs:List (List Int),mz p (rs.filter f)<=mz p rs
 | []=>af1 _
 | r::rs=>by
  have h:=yt p f rs
  unfold mz at h ⊢
  rw [List.filter_cons]
  split <;> simp only [map_cons,sum_cons] <;> lia
theorem D1{p l:Nat}{s:List Int}:∀ {rest:List (List Int)},rest≠[]->(∀ v∈rest,l<=at' p v)->(∀ v∈rest,at' p (b8 p s v)<l)->mz p (rest.map (b8 p s))<mz p rest
 | [],h,_,_=>absurd rfl h
 | [v],_,h1,h2=>by
  have a:=h1 v (.head _)
  have b:=h2 v (.head _)
  simp only [mz,map_cons,map_nil,sum_cons,List.sum_nil]
  lia
 | v::w::r,_,h1,h2=>by
  have a:=h1 v (.head _)
  have b:=h2 v (.head _)
  have c:=D1 (rest:=w::r) (by simp) (fun x hx=>h1 x (agp _ hx)) (fun x hx=>h2 x (agp _ hx))
  simp only [mz,map_cons,sum_cons] at c ⊢
  lia
theorem nK{v s:List Int}{n p:Nat}(hv:v.length=n)(hs:s.length=n)(h0:s.getD p 0≠0):at' p (b8 p s v)<at' p s:=by
 have:=(oa (v.getD p 0) h0).1
 unfold at'
 rw [rZ hv hs]
 exact this
def PI(n p M:Nat)(led os:List (List Int)):Prop :=
 (∀ v∈led++os,v.length=n)/\(∀ v∈led,v.getD p 0≠0)/\(∀ v∈os,v.getD p 0=0) /\
  ((∀ v∈led++os,bf M v)\/(∃ m l M',PS n p M' m l led os/\M'*m*m*l<=3*(M*M*M*M))\/(led.length<=1/\∀ v∈led++os,bf (6*(M*M*M*M)) v))
theorem qa(a:Int){b:Int}(hb:b≠0):(a.fdiv b).natAbs<=a.natAbs:=by
 have e:=Int.mul_fdiv_add_fmod a b
 have h:=(oa a hb).1
 have e2:(b*a.fdiv b).natAbs=(a.fdiv b).natAbs*b.natAbs:=by rw [agH,Nat.mul_comm]
 rw [CF e] at e2
 have h0:=natAbs_sub_le a (a.fmod b)
 rw [e2] at h0
 clear e e2
 generalize (a.fdiv b).natAbs=q at *
 cases q with
 | zero=>exact agM _
 | succ k =>
  have h1:k*1<=k*b.natAbs:=mul_le_mul_left _ (by lia)
  rw [add_mul,one_mul] at h0
  lia
theorem zh{v s:List Int}{n p S L:Nat}(hv:v.length=n)(hs:s.length=n)(h0:s.getD p 0≠0)(bv:bf S v)(bs:bf L s):bf (S+L*S) (b8 p s v):=fun i=>by
 unfold b8
 rw [cu hv hs]
 have h1:=natAbs_sub_le (v.getD i 0) (s.getD i 0*qt v s p)
 have h2:(s.getD i 0*qt v s p).natAbs<=L*S:=by rw [agH];exact agw (bs i) (af0 (qa _ h0) (bv p))
 have h3:=bv i
 lia
theorem fG{v s:List Int}{n p i:Nat}(hv:v.length=n)(hs:s.length=n)(h0:s.getD i 0=0):(b8 p s v).getD i 0=v.getD i 0:=by
 unfold b8
 rw [cu hv hs,h0]
 lia
theorem Led.b8{v s:List Int}{n p k:Nat}(hv:v.length=n)(hs:s.length=n)(hL:Led s p)(hk:p<k):Led (b7.b8 p s v) k↔Led v k:=by
 unfold Led
 rw [fG hv hs (hL.2 k hk)]
 constructor
 ·rintro ⟨a,b⟩
  exact⟨a,fun i hi=>by have z:=b i hi;rw [fG hv hs (hL.2 i (by lia))] at z;exact z⟩
 ·rintro ⟨a,b⟩
  exact⟨a,fun i hi=>by rw [fG hv hs (hL.2 i (by lia))];exact b i hi⟩
theorem SF.add{n p:Nat}{st:List (List Int)}{s:List Int}(h:SF st)(hl:∀ r∈st,∃ k,p<k/\Led r k)(lst:Len n st)(ls:s.length=n)(hL:Led s p) :
  SF (st.map (b7.b8 p s)++[s])/\∀ r∈st.map (b7.b8 p s)++[s],∃ k,p<=k/\Led r k:=by
 have jD:∀ r∈st,∃ k,p<k/\Led (b7.b8 p s r) k:=fun r hr=>by
  obtain ⟨k,hk,z⟩:=hl r hr
  exact⟨k,hk,(Led.b8 (lst r hr) ls hL hk).mpr z⟩
 have all:∀ r∈st.map (b7.b8 p s)++[s],∃ k,p<=k/\Led r k:=fun r hr=>by
  rcases agk.mp hr with a|a
  ·obtain ⟨u,hu,rfl⟩:=agr.mp a
   obtain ⟨k,hk,z⟩:=jD u hu
   exact⟨k,by lia,z⟩
  ·rw [agj.mp a]
   exact⟨p,af1 _,hL⟩
 refine⟨⟨fun r hr=>?_,?_⟩,all⟩
 ·obtain ⟨k,_,z⟩:=all r hr
  exact⟨k,z⟩
 ·rw [List.pairwise_append]
  refine⟨?_,List.pairwise_singleton _ _,fun a ha b hb=>?_⟩
  ·rw [pairwise_map]
   refine List.Pairwise.imp_of_mem (fun {a b} ha hb AU k hk=>?_) h.2
   obtain ⟨kb,Xa,zb⟩:=hl b hb
   have e:=hk.uniq ((Led.b8 (lst b hb) ls hL Xa).mpr zb)
   subst e
   obtain ⟨⟨j,hj,zj⟩,r1,r2⟩:=AU k zb
   rw [fG (lst a ha) ls (hL.2 k Xa),fG (lst b hb) ls (hL.2 k Xa)]
   exact⟨⟨j,hj,(Led.b8 (lst a ha) ls hL (by lia)).mpr zj⟩,r1,r2⟩
  ·obtain ⟨u,hu,rfl⟩:=agr.mp ha
   rw [agj.mp hb]
   intro k hk
   have e:=hk.uniq hL
   subst e
   obtain ⟨j,hj,zj⟩:=jD u hu
   have RX:s.getD k 0≠0:=by
    have:=hL.1
    lia
   have f:=oa (u.getD k 0) RX
   have g:=f.2.1 hL.1
   rw [rZ (lst u hu) ls]
   exact⟨⟨j,hj,zj⟩,g,by have:=f.1;have:=hL.1;lia⟩
theorem Eqv.add{n p:Nat}{st os:List (List Int)}{s:List Int}(lst:Len n st)(ls:s.length=n):Eqv n (st++s::os) (st.map (b7.b8 p s)++[s]++os):=by
 refine (Eqv.mem fun x=>?_).trans ((Eqv.turn (s:=s) (rs:=st) (os:=os) (fun v=>qt v s p) ls lst).trans (Eqv.mem fun x=>?_))
 ·simp only [agk,agq]
  constructor
  ·rintro (h|h|h)
   ·exact .inl (.inr h)
   ·exact .inl (.inl h)
   ·exact .inr h
  ·rintro ((h|h)|h)
   ·exact .inr (.inl h)
   ·exact .inl h
   ·exact .inr (.inr h)
 ·show x∈s::st.map (b7.b8 p s)++os↔_
  simp only [agk,agq,not_mem_nil,or_false]
  constructor
  ·rintro ((h|h)|h)
   ·exact .inl (.inr h)
   ·exact .inl (.inl h)
   ·exact .inr h
  ·rintro ((h|h)|h)
   ·exact .inl (.inr h)
   ·exact .inl (.inl h)
   ·exact .inr h
theorem Eqv.app{n:Nat}{as bs cs:List (List Int)}(h:Eqv n as bs):Eqv n (cs++as) (cs++bs) :=
 ⟨fun r hr=>(agk.mp hr).elim (fun z=>Span.mem (agi _ z)) fun z=>(h.1 r z).RU,fun r hr=>(agk.mp hr).elim (fun z=>Span.mem (agi _ z)) fun z=>(h.2 r z).RU⟩
theorem Eqv.flip{n:Nat}{a:List Int}{rs:List (List Int)}(la:a.length=n):Eqv n (a::rs) (bJ a (-1)::rs):=by
 have e:bJ (bJ a (-1)) (-1)=a:=bF (aA (aA la)) la fun i _=>by rw [bg,bg];lia
 refine⟨fun r hr=>?_,fun r hr=>?_⟩
 ·rcases agq.mp hr with rfl|hr
  ·have:=Span.neg (rs:=bJ r (-1)::rs) (aA la) (Span.mem (.head _))
   rw [e] at this
   exact this
  ·exact Span.mem (agp _ hr)
 ·rcases agq.mp hr with rfl|hr
  ·exact Span.neg la (Span.mem (.head _))
  ·exact Span.mem (agp _ hr)
def r2(p:Nat×Nat):List Int:=[(p.1:Int),(p.2:Int)]
def prd:List (Nat×Nat)->Nat
 | []=>1
 | p::l=>p.2*prd l
def tot:List (Nat×Nat)->Nat
 | []=>0
 | p::l=>p.1*prd l+p.2*tot l
theorem take_snoc{α:Type}{l:List α}{i:Nat}{x:α}(h:l[i]?=some x):l.take (i+1)=l.take i++[x]:=by
 rw [take_add_one,h];rfl
theorem hJ(r:List Int){w i:Nat}(h:i<w):(r.take w).getD i 0=r.getD i 0:=by
 rw [List.getD,List.getD,List.getElem?_take,if_pos h]
theorem vF(r:List Int){w i:Nat}(h:w<=i):(r.take w).getD i 0=0:=by
 rw [List.getD,List.getElem?_take,if_neg (by lia)]
 rfl
theorem r0{v s:List Int}{p w:Nat}(hp:p<w):(b8 p s v).take w=b8 p (s.take w) (v.take w):=by
 simp only [b8,low,sub,bJ,qt,List.take_zipWith,map_take,hJ _ hp]
theorem dm{v:List Int}{n w:Nat}(h:v.length=n)(hw:w<=n):(v.take w).length=w:=by rw [agA,h,min_eq_left hw]
def gr(b:Nat):Nat->Nat
 | 0=>b
 | i+1=>4*gr b i+3
def sb(b:Nat):Nat->Nat
 | 0=>0
 | i+1=>sb b i+gr b (i+1)+1
structure PT(p X m k:Nat)(led os:List (List Int)):Prop where
 bd:∀ v∈led++os,bf X v
 hi:∀ v∈led,at' p v<=m
 one:(∀ v∈led,0<v.getD p 0)\/∀ v∈led,v.getD p 0<0
 low:∃ v∈led,at' p v+m<=k
theorem kf{p:Nat}{s:List Int}{rest:List (List Int)}{v:List Int}(hv:v∈dC p s rest):∃ u∈rest,b8 p s u=v/\v.getD p 0≠0:=by
 obtain ⟨a1,a2⟩:=ags.mp hv
 obtain ⟨u,hu,e⟩:=agr.mp a1
 exact⟨u,hu,e,by simpa using a2⟩
theorem Fg{p:Nat}{s:List Int}{rest:List (List Int)}{v:List Int}(hv:v∈gK p s rest):∃ u∈rest,b8 p s u=v/\v.getD p 0=0:=by
 obtain ⟨a1,a2⟩:=ags.mp hv
 obtain ⟨u,hu,e⟩:=agr.mp a1
 exact⟨u,hu,e,by simpa using a2⟩
theorem qb{p:Nat}{s:List Int}{rest os:List (List Int)}{P:List Int->Prop}(h:∀ v∈s::rest++os,P v)(k:∀ v∈rest,P (b8 p s v)):∀ v∈s::dC p s rest++(os++gK p s rest),P v:=fun v hv=>by
 rcases agk.mp hv with a|a
 ·rcases agq.mp a with rfl|a
  ·exact h v (by simp)
  ·obtain ⟨u,hu,rfl,_⟩:=kf a
   exact k u hu
 ·rcases agk.mp a with a|a
  ·exact h v (by simp [a])
  ·obtain ⟨u,hu,rfl,_⟩:=Fg a
   exact k u hu
theorem yu{n p:Nat}{s:List Int}{rest:List (List Int)}(ls:s.length=n)(lr:Len n rest)(vG:s.getD p 0≠0):(∀ v∈s::dC p s rest,0<v.getD p 0)\/∀ v∈s::dC p s rest,v.getD p 0<0:=by
 rcases Int.lt_or_gt_of_ne vG with z|z
 ·refine .inr fun v hv=>?_
  rcases agq.mp hv with rfl|a
  ·exact z
  ·obtain ⟨u',GF,rfl,hn⟩:=kf a
   have:=(oa (u'.getD p 0) vG).2.2 z
   rw [rZ (lr u' GF) ls] at hn ⊢
   lia
 ·refine .inl fun v hv=>?_
  rcases agq.mp hv with rfl|a
  ·exact z
  ·obtain ⟨u',GF,rfl,hn⟩:=kf a
   have:=(oa (u'.getD p 0) vG).2.1 z
   rw [rZ (lr u' GF) ls] at hn ⊢
   lia
theorem uY{n p:Nat}{s:List Int}{rest:List (List Int)}(ls:s.length=n)(lr:Len n rest)(vG:s.getD p 0≠0):∀ v∈s::dC p s rest,at' p v<=at' p s:=fun v hv=>by
 rcases agq.mp hv with rfl|a
 ·exact af1 _
 ·obtain ⟨u,hu,rfl,_⟩:=kf a
  exact af2 (nK (lr u hu) ls vG)
theorem PT.turn{n p X m k:Nat}{s:List Int}{rest os:List (List Int)}(h:PT p X m k (s::rest) os)(ls:s.length=n)(lr:Len n rest)(vG:s.getD p 0≠0)(hs:∀ v∈rest,at' p s<=at' p v) :
  ∃ X',(∀ v∈rest,bf X' (b8 p s v))/\X<=X'/\X'*at' p s<=X*k/\(dC p s rest=[]\/PT p X' (at' p s) m (s::dC p s rest) (os++gK p s rest)):=by
 have hl:0<at' p s:=by unfold at';lia
 have bs:=h.bd s (by simp)
 have br:∀ v∈rest,bf X v:=fun v hv=>h.bd v (by simp [hv])
 have RY:∀ v∈rest,Alike (v.getD p 0) (s.getD p 0):=fun v hv=>by
  rcases h.one with z|z
  ·exact .inl ⟨z v (agp _ hv),z s (.head _)⟩
  ·exact .inr ⟨z v (agp _ hv),z s (.head _)⟩
 have hq:∀ v∈rest,(qt v s p).natAbs*at' p s+at' p (b8 p s v)=at' p v:=fun v hv=>by
  have:=NT (RY v hv) (hs v hv)
  unfold at'
  rw [rZ (lr v hv) ls]
  exact this
 have hm:∀ v∈rest,at' p v<=m:=fun v hv=>h.hi v (agp _ hv)
 have hQ:∀ v∈rest,(qt v s p).natAbs<=m / at' p s:=fun v hv=>by
  rw [Nat.le_div_iff_mul_le hl]
  have:=hq v hv
  have:=hm v hv
  lia
 have hk:at' p s+m<=k:=by
  obtain ⟨v,hv,e⟩:=h.low
  rcases agq.mp hv with rfl|hv
  ·exact e
  ·have:=hs v hv
   lia
 have hb:∀ v∈rest,bf (X+X*(m / at' p s)) (b8 p s v):=fun v hv=>HB (lr v hv) ls (br v hv) bs (hQ v hv)
 refine⟨X+X*(m / at' p s),hb,le_add_right _ _,?_,?_⟩
 ·have e1:X*(m / at' p s)*at' p s<=X*m:=by rw [mul_assoc];exact mul_le_mul_left _ (Nat.div_mul_le_self _ _)
  have e2:X*(at' p s+m)<=X*k:=mul_le_mul_left _ hk
  rw [mul_add] at e2
  rw [add_mul]
  lia
 ·by_cases hf:dC p s rest=[]
  ·exact .inl hf
  ·refine .inr ⟨qb (fun v hv=>(h.bd v hv).mono (le_add_right _ _)) hb,uY ls lr vG,yu ls lr vG,?_⟩
   obtain ⟨w,hw⟩:=List.exists_mem_of_ne_nil _ hf
   refine⟨w,agp _ hw,?_⟩
   obtain ⟨u,hu,rfl,hn⟩:=kf hw
   have h1:=hq u hu
   have h2:=hm u hu
   have h3:=nK (lr u hu) ls vG
   have h4:=hs u hu
   have h5:1<=(qt u s p).natAbs:=by
    rcases Nat.eq_zero_or_pos (qt u s p).natAbs with z|z
    ·rw [z,Nat.zero_mul] at h1
     lia
    ·exact z
   have h6:1*at' p s<=(qt u s p).natAbs*at' p s:=agv _ h5
   lia
theorem PT.first{n p M A:Nat}{s:List Int}{rest os:List (List Int)}(ls:s.length=n)(lr:Len n rest)(j7:∀ v∈s::rest++os,bf M v)(hA:∀ v∈s::rest,at' p v<=A)(vG:s.getD p 0≠0)(hs:∀ v∈rest,at' p s<=at' p v) :
  ∃ X',(∀ v∈rest,bf X' (b8 p s v))/\M<=X'/\X'*at' p s<=3*(M*A)/\(dC p s rest=[]\/PT p X' (at' p s) (2*A) (s::dC p s rest) (os++gK p s rest)):=by
 have hl:0<at' p s:=by unfold at';lia
 have bs:=j7 s (by simp)
 have br:∀ v∈rest,bf M v:=fun v hv=>j7 v (by simp [hv])
 have lA:at' p s<=A:=hA s (.head _)
 have hQ:∀ v∈rest,(qt v s p).natAbs<=2*A / at' p s:=fun v hv=>by
  rw [Nat.le_div_iff_mul_le hl]
  have a:=RW vG (hs v hv)
  have b:=hA v (agp _ hv)
  have a':(qt v s p).natAbs*at' p s<=2*at' p v:=a
  lia
 have hb:∀ v∈rest,bf (M+M*(2*A / at' p s)) (b8 p s v):=fun v hv=>HB (lr v hv) ls (br v hv) bs (hQ v hv)
 refine⟨M+M*(2*A / at' p s),hb,le_add_right _ _,?_,?_⟩
 ·have e1:M*(2*A / at' p s)*at' p s<=M*(2*A):=by rw [mul_assoc];exact mul_le_mul_left _ (Nat.div_mul_le_self _ _)
  have e2:M*at' p s<=M*A:=mul_le_mul_left _ lA
  have e3:M*(2*A)=2*(M*A):=Nat.mul_left_comm _ _ _
  rw [add_mul]
  lia
 ·by_cases hf:dC p s rest=[]
  ·exact .inl hf
  ·refine .inr ⟨qb (fun v hv=>(j7 v hv).mono (le_add_right _ _)) hb,uY ls lr vG,yu ls lr vG,?_⟩
   obtain ⟨w,hw⟩:=List.exists_mem_of_ne_nil _ hf
   refine⟨w,agp _ hw,?_⟩
   have:=uY ls lr vG w (agp _ hw)
   lia
def PJ(n p M A:Nat)(led os:List (List Int)):Prop :=
 (∀ v∈led++os,v.length=n)/\(∀ v∈led,v.getD p 0≠0)/\(∀ v∈os,v.getD p 0=0)/\(∀ v∈led,at' p v<=A) /\
  ((∀ v∈led++os,bf M v)\/(∃ X m k,PT p X m k led os/\0<m/\0<k/\X*m*k<=6*(M*(A*A)))\/(led.length<=1/\∀ v∈led++os,bf (6*(M*(A*A))) v))
theorem PJ.bd{n p M A:Nat}{led os:List (List Int)}(hA:0<A)(h:PJ n p M A led os):∀ v∈led++os,bf (6*(M*(A*A))) v:=by
 obtain ⟨_,_,_,_,h|⟨X,m,k,h,hm,hk,hN⟩|h⟩:=h
 ·refine fun v hv=>(h v hv).mono ?_
  have:M*1<=M*(A*A):=mul_le_mul_left _ (mul_pos hA hA)
  lia
 ·refine fun v hv=>(h.bd v hv).mono ?_
  have h1:X*1<=X*(m*k):=mul_le_mul_left _ (mul_pos hm hk)
  rw [<- mul_assoc] at h1
  lia
 ·exact h.2
theorem PJ.turn{n p M A:Nat}{s:List Int}{rest led os:List (List Int)}(JR:0<A)(h:PJ n p M A led os)(e:(s::rest).Perm led)(hr:rest≠[])(hs:∀ v∈rest,at' p s<=at' p v) :
  PJ n p M A (s::dC p s rest) (os++gK p s rest)/\mz p (s::dC p s rest)<mz p led/\Eqv n (led++os) (s::dC p s rest++(os++gK p s rest)):=by
 have hBd:=h.bd JR
 obtain ⟨h1,h2,h3,hA,h4⟩:=h
 have mem:∀ v,v∈s::rest↔v∈led:=fun v=>e.mem_iff
 have Ks:∀ v,v∈s::rest++os->v∈led++os:=fun v hv=>(agk.mp hv).elim (fun z=>agi _ ((mem v).mp z)) fun z=>agh _ z
 have Fh:∀ v∈s::rest++os,v.length=n:=fun v hv=>h1 v (Ks v hv)
 have RZ:∀ v∈s::rest,v.getD p 0≠0:=fun v hv=>h2 v ((mem v).mp hv)
 have hA':∀ v∈s::rest,at' p v<=A:=fun v hv=>hA v ((mem v).mp hv)
 have ls:=Fh s (by simp)
 have lr:Len n rest:=fun v hv=>Fh v (by simp [hv])
 have vG:=RZ s (.head _)
 have hl:0<at' p s:=by unfold at';lia
 have fin:∀ {X':Nat},(∀ v∈rest,bf X' (b8 p s v))->X'<=6*(M*(A*A))->dC p s rest=[]->(s::dC p s rest).length<=1/\∀ v∈s::dC p s rest++(os++gK p s rest),bf (6*(M*(A*A))) v:=fun {X'} b c z =>
  ⟨by rw [z];exact af1 _,qb (fun v hv=>hBd v (Ks v hv)) fun v hv=>(b v hv).mono c⟩
 refine⟨⟨qb Fh fun v hv=>fy (lr v hv) ls,fun v hv=>?_,fun v hv=>?_,fun v hv=>af0 (uY ls lr vG v hv) (hA' s (.head _)),?_⟩,?_,(Eqv.mem fun x=>?_).trans (HD ls lr)⟩
 ·rcases agq.mp hv with rfl|a
  ·exact vG
  ·simpa using (ags.mp a).2
 ·rcases agk.mp hv with a|a
  ·exact h3 v a
  ·simpa using (ags.mp a).2
 ·rcases h4 with h4|⟨X,m,k,h4,hm,hk,hN⟩|h4
  ·obtain ⟨X',b1,b2,b3,b4⟩:=PT.first ls lr (fun v hv=>h4 v (Ks v hv)) hA' vG hs
   rcases b4 with z|z
   ·refine .inr (.inr (fin b1 ?_ z))
    have e1:X'*1<=X'*at' p s:=mul_le_mul_left _ hl
    have e2:M*A*1<=M*A*A:=mul_le_mul_left _ JR
    rw [mul_assoc M A A] at e2
    lia
   ·refine .inr (.inl ⟨X',_,_,z,hl,by lia,?_⟩)
    calc X'*at' p s*(2*A)<=3*(M*A)*(2*A):=agv _ b3
     _=6*(M*(A*A)):=by rw [show 3*(M*A)*(2*A)=(3*2)*(M*(A*A)) by ac_rfl]
  ·have h5:PT p X m k (s::rest) os:=⟨fun v hv=>h4.bd v (Ks v hv),fun v hv=>h4.hi v ((mem v).mp hv),h4.one.imp (fun z v hv=>z v ((mem v).mp hv)) fun z v hv=>z v ((mem v).mp hv),by
    obtain ⟨v,hv,z⟩:=h4.low
    exact⟨v,(mem v).mpr hv,z⟩⟩
   obtain ⟨X',b1,b2,b3,b4⟩:=h5.turn ls lr vG hs
   rcases b4 with z|z
   ·refine .inr (.inr (fin b1 ?_ z))
    have e1:X'*1<=X'*at' p s:=mul_le_mul_left _ hl
    have e2:X*k*1<=X*k*m:=mul_le_mul_left _ hm
    rw [show X*k*m=X*m*k by ac_rfl] at e2
    lia
   ·refine .inr (.inl ⟨X',_,_,z,hl,hm,?_⟩)
    calc X'*at' p s*m<=X*k*m:=agv _ b3
     _=X*m*k:=by ac_rfl
     _<=_:=hN
  ·exact absurd h4.1 (by have:=e.length_eq;rw [length_cons] at this;cases rest with|nil=>exact absurd rfl hr|cons x y=>simp at this;lia)
 ·have hz:mz p (rest.map (b8 p s))<mz p rest:=D1 hr hs fun v hv=>nK (lr v hv) ls vG
  have hf:mz p (dC p s rest)<=mz p (rest.map (b8 p s)):=yt p _ _
  have hp:mz p led=mz p (s::rest):=by
   unfold mz
   exact ((e.map (at' p)).sum_nat).symm
  rw [hp]
  show (at' p s::(dC p s rest).map (at' p)).sum<(at' p s::rest.map (at' p)).sum
  rw [sum_cons,sum_cons]
  unfold mz at hz hf
  lia
 ·rw [agk,agk,<- mem x]
def gs(b:Nat):Nat->Nat
 | 0=>b
 | i+1=>3*gs b i+3
def ss(b:Nat):Nat->Nat
 | 0=>0
 | i+1=>ss b i+gs b (i+1)+1
theorem hZ(b i:Nat):6*(2 ^ gs b i*(2 ^ gs b i*2 ^ gs b i))<2 ^ gs b (i+1):=by
 have e:(2:Nat) ^ gs b (i+1)=8*(2 ^ gs b i*(2 ^ gs b i*2 ^ gs b i)):=by
  rw [gs,pow_add,show 3*gs b i=gs b i+(gs b i+gs b i) by lia,pow_add,pow_add]
  lia
 have h:0<(2:Nat) ^ gs b i:=agL _
 have h2:=mul_pos h (mul_pos h h)
 rw [e]
 lia
structure SJ(n w b:Nat)(rs:List (List Int))(i:Nat)(st lf:List (List Int)):Prop where
 sf:SF (st.map (List.take w))
 ld:∀ r∈st,∃ k,w - i<=k/\Led (r.take w) k
 lst:Len n st
 VD:Len n lf
 z:∀ v∈lf,∀ j,w - i<=j->j<w->v.getD j 0=0
 e:Eqv n rs (st++lf)
 bl:∀ v∈lf,bf (2 ^ gs b i) v
 bs:∀ v∈st,bf (2 ^ ss b i) v
 lb:∀ r∈st,∀ k,Led (r.take w) k->(r.getD k 0).natAbs<=2 ^ gs b (w - 1 - k)
 c1:lf.length<=rs.length
 c2:st.length<=i
theorem SJ.start{n w b:Nat}{rs:List (List Int)}(hl:Len n rs)(hb:∀ v∈rs,bf (2 ^ b) v):SJ n w b rs 0 [] rs :=
 ⟨⟨(fun _ z=>nomatch z),List.Pairwise.nil⟩,(fun _ z=>nomatch z),(fun _ z=>nomatch z),hl,(fun v _ j h1 h2=>by lia),Eqv.refl,hb,(fun _ z=>nomatch z),(fun _ z=>nomatch z),af1 _,af1 _⟩
theorem SJ.none{n w b i p:Nat}{rs st lf os:List (List Int)}(h:SJ n w b rs i st lf)(hp:p+i+1=w)(he:Eqv n lf os)(h0:∀ v∈os,v.getD p 0=0)(hl:Len n os)
  (hb:∀ v∈os,bf (6*(2 ^ gs b i*(2 ^ gs b i*2 ^ gs b i))) v) (hc:os.length<=lf.length):SJ n w b rs (i+1) st os:=by
 refine⟨h.sf,fun r hr=>?_,h.lst,hl,fun v hv j h1 h2=>?_,h.e.trans he.app,fun v hv=>(hb v hv).mono (af2 (hZ b i)),fun v hv=>(h.bs v hv).mono (agt (by decide) (by rw [ss];lia)),h.lb,af0 hc h.c1,le_succ_of_le h.c2⟩
 ·obtain ⟨k,h1,h2⟩:=h.ld r hr
  exact⟨k,by lia,h2⟩
 ·by_cases e:j=p
  ·rw [e];exact h0 v hv
  ·exact Span.Hw h.VD (he.2 v hv) fun r hr=>h.z r hr j (by lia) h2
theorem SJ.one{n w b i p:Nat}{rs st lf os:List (List Int)}{s:List Int}(h:SJ n w b rs i st lf)(hp:p+i+1=w)(hw:w<=n)(he:Eqv n lf (s::os))(hs:0<s.getD p 0)(h0:∀ v∈os,v.getD p 0=0)(hl:Len n (s::os))
  (hb:∀ v∈s::os,bf (6*(2 ^ gs b i*(2 ^ gs b i*2 ^ gs b i))) v) (hc:os.length+1<=lf.length) (GG:at' p s<=2 ^ gs b i):SJ n w b rs (i+1) (st.map (b8 p s)++[s]) os:=by
 have ls:s.length=n:=hl s (.head _)
 have lo:Len n os:=fun v hv=>hl v (.tail _ hv)
 have za:∀ v∈s::os,∀ j,w - i<=j->j<w->v.getD j 0=0:=fun v hv j h1 h2=>Span.Hw h.VD (he.2 v hv) fun r hr=>h.z r hr j h1 h2
 have hL:Led (s.take w) p:=⟨by rw [hJ _ (by lia)];exact hs,fun j hj=>by
  by_cases e:j<w
  ·rw [hJ _ e];exact za s (.head _) j (by lia) e
  ·exact vF _ (by lia)⟩
 have lt:Len w (st.map (List.take w)):=fun r hr=>by
  obtain ⟨v,hv,rfl⟩:=agr.mp hr
  exact dm (h.lst v hv) hw
 have jD:∀ r∈st.map (List.take w),∃ k,p<k/\Led r k:=fun r hr=>by
  obtain ⟨v,hv,rfl⟩:=agr.mp hr
  obtain ⟨k,h1,h2⟩:=h.ld v hv
  exact⟨k,by lia,h2⟩
 have em:(st.map (b8 p s)++[s]).map (List.take w)=(st.map (List.take w)).map (b8 p (s.take w))++[s.take w]:=by
  rw [agD,agE,agE]
  congr 1
  exact agF fun v _=>r0 (by lia)
 have hS:=SF.add h.sf jD lt (dm ls hw) hL
 refine⟨by rw [em];exact hS.1,fun r hr=>?_,fun r hr=>?_,lo,fun v hv j h1 h2=>?_,?_,fun v hv=>(hb v (.tail _ hv)).mono (af2 (hZ b i)),fun v hv=>?_,fun v hv k hk=>?_,?_,?_⟩
 ·rcases agk.mp hr with z|z
  ·obtain ⟨v,hv,rfl⟩:=agr.mp z
   obtain ⟨k,h1,h2⟩:=h.ld v hv
   refine⟨k,by lia,?_⟩
   rw [r0 (by lia)]
   exact (Led.b8 (dm (h.lst v hv) hw) (dm ls hw) hL (by lia)).mpr h2
  ·rw [agj.mp z]
   exact⟨p,by lia,hL⟩
 ·rcases agk.mp hr with z|z
  ·obtain ⟨v,hv,rfl⟩:=agr.mp z
   exact fy (h.lst v hv) ls
  ·rw [agj.mp z];exact ls
 ·by_cases e:j=p
  ·rw [e];exact h0 v hv
  ·exact za v (.tail _ hv) j (by lia) h2
 ·exact (h.e.trans he.app).trans (Eqv.add h.lst ls)
 ·have bS:=(hb s (.head _)).mono (af2 (hZ b i))
  rcases agk.mp hv with z|z
  ·obtain ⟨u,hu,rfl⟩:=agr.mp z
   refine (zh (h.lst u hu) ls (by lia) (h.bs u hu) bS).mono ?_
   have h1:0<(2:Nat) ^ ss b i:=agL _
   have h2:0<(2:Nat) ^ gs b (i+1):=agL _
   have h3:(2:Nat) ^ ss b i<=2 ^ gs b (i+1)*2 ^ ss b i:=Nat.le_mul_of_pos_left _ h2
   rw [ss,pow_add,pow_add,Nat.mul_comm (2 ^ ss b i)]
   lia
  ·rw [agj.mp z]
   exact bS.mono (agt (by decide) (by rw [ss];lia))
 ·rcases agk.mp hv with z|z
  ·obtain ⟨u,hu,rfl⟩:=agr.mp z
   obtain ⟨k',h1,h2⟩:=h.ld u hu
   have h3:=(Led.b8 (dm (h.lst u hu) hw) (dm ls hw) hL (show p<k' by lia)).mpr h2
   rw [<- r0 (by lia)] at h3
   have e:=hk.uniq h3
   subst e
   have hkw:k<w:=by
    have:=hk.1
    by_cases c:k<w
    ·exact c
    ·rw [vF _ (by lia)] at this
     exact absurd this (by decide)
   rw [fG (h.lst u hu) ls (za s (.head _) k (by lia) hkw)]
   exact h.lb u hu k h2
  ·rw [agj.mp z] at hk ⊢
   have e:=hk.uniq hL
   rw [e,show w - 1 - p=i by lia]
   exact GG
 ·have:=h.c1
  lia
 ·have:=h.c2
  rw [agn,agm]
  simp
  exact this
theorem SJ.all{n b:Nat}{rs st lf:List (List Int)}(h:SJ n n b rs n st lf):SF st/\Eqv n rs st:=by
 have e:st.map (List.take n)=st:=by
  rw [show st=st.map id by simp,agE]
  exact agF fun v hv=>agG (le_of_eq (h.lst v hv))
 have z:∀ v∈lf,v=jx n:=fun v hv=>bF (h.VD v hv) (aY n) fun i hi=>by rw [bU];exact h.z v hv i (by lia) hi
 refine⟨by rw [<- e];exact h.sf,h.e.trans ⟨fun r hr=>?_,fun r hr=>Span.mem (agi _ hr)⟩⟩
 rcases agk.mp hr with y|y
 ·exact Span.mem y
 ·rw [z r y];exact Span.zero
theorem AV{α:Type}{l:List α}{i:Nat}{x:α}(h:l[i]?=some x):l.drop i=x::l.drop (i+1):=by
 obtain ⟨h1,h2⟩:=afX.mp h
 rw [List.drop_eq_getElem_cons h1,h2]
def R0(i:Nat):List (List Int)->List Int->Int
 | r::rs,p::ps=>p*r.getD i 0+R0 i rs ps
 | _,_=>0
def bW(j n:Nat):List Int:=(List.range n).map fun i=>if i=j then 1 else 0
theorem fU(j n:Nat):(bW j n).length=n:=by simp [bW]
theorem i8{j n i:Nat}(h:i<n):(bW j n).getD i 0=if i=j then 1 else 0:=by
 rw [bW,List.getD,agC,List.getElem?_range h]
 rfl
def Mk(w:Nat)(rs:List (List Int))(v:List Int):Prop:=∀ i,i<w->v.getD i 0=R0 i rs (v.drop w)
theorem vH{n w:Nat}(h:w<=n):(jx n).take w=jx w:=by simp [jx,min_eq_left h]
theorem mH(a b:List Int)(w:Nat):(sub a b).take w=sub (a.take w) (b.take w):=by simp only [sub,List.take_zipWith]
theorem Span.take{n w:Nat}{as:List (List Int)}{v:List Int}(hw:w<=n)(h:Span n as v):Span w (as.map (List.take w)) (v.take w):=by
 refine h (fun v=>Span w (as.map (List.take w)) (v.take w)) ⟨?_,fun a b la lb ha hb=>?_⟩ fun r hr=>Span.mem (agr.mpr ⟨r,hr,rfl⟩)
 ·show Span w _ ((jx n).take w)
  rw [vH hw];exact Span.zero
 ·show Span w _ ((b7.sub a b).take w)
  rw [mH]
  exact Span.sub (dm la hw) (dm lb hw) ha hb
theorem Eqv.take{n w:Nat}{as bs:List (List Int)}(hw:w<=n)(h:Eqv n as bs):Eqv w (as.map (List.take w)) (bs.map (List.take w)):=by
 refine⟨fun r hr=>?_,fun r hr=>?_⟩
 ·obtain ⟨u,hu,rfl⟩:=agr.mp hr
  exact (h.1 u hu).take hw
 ·obtain ⟨u,hu,rfl⟩:=agr.mp hr
  exact (h.2 u hu).take hw
theorem mI(j n b:Nat):bf (2 ^ b) (bW j n):=fun i=>by
 by_cases h:i<n
 ·rw [i8 h]
  have:0<2 ^ b:=agL _
  split <;> simp <;> lia
 ·rw [List.getD,getElem?_eq_none (by rw [fU];lia)]
  exact agM _
theorem zi{M:Nat}{r q:List Int}(hr:bf M r)(hq:bf M q):bf M (r++q):=fun i=>by
 rw [List.getD,List.getElem?_append]
 split
 ·exact hr i
 ·exact hq _
structure LB(n w:Nat)(st:List (List Int))(i:Nat)(u v:List Int):Prop where
 len:v.length=n
 made:Span n st (sub u v)
 small:∀ j s k,j<i->st[j]?=some s->Led (s.take w) k->0<=v.getD k 0/\v.getD k 0<s.getD k 0
theorem Fi{n:Nat}{u:List Int}(h:u.length=n):sub u u=jx n:=bF (sub_len h h) (aY n) fun i _=>by rw [bI h h,bU];lia
theorem LB.start{n w:Nat}{st:List (List Int)}{u:List Int}(h:u.length=n):LB n w st 0 u u:=⟨h,by rw [Fi h];exact Span.zero,fun j s k hj=>by lia⟩
theorem vI{s:List Int}{w k:Nat}(h:Led (s.take w) k):k<w:=by
 have:=h.1
 by_cases c:k<w
 ·exact c
 ·rw [vF _ (by lia)] at this
  exact absurd this (by decide)
theorem LB.step{n w i k:Nat}{st:List (List Int)}{s u v:List Int}(h:LB n w st i u v)(lu:u.length=n)(hs:st[i]?=some s)(ls:s.length=n)(sf:SF (st.map (List.take w)))(hk:Led (s.take w) k):LB n w st (i+1) u (b8 k s v):=by
 have kw:=vI hk
 have xr:0<s.getD k 0:=by have:=hk.1;rwa [hJ _ kw] at this
 have uA:s∈st:=agl hs
 refine⟨fy h.len ls,?_,fun j a k' hj ha uw=>?_⟩
 ·have e:sub u (b8 k s v)=low (sub u v) s (-(qt v s k)):=bF (sub_len lu (fy h.len ls)) (cq (sub_len lu h.len) ls) fun i _=>by
   rw [bI lu (fy h.len ls),b8,cu h.len ls,cu (sub_len lu h.len) ls,bI lu h.len,mul_neg]
   lia
  rw [e]
  exact Span.low (sub_len lu h.len) ls h.made (Span.mem uA) _
 ·by_cases c:j=i
  ·subst c
   rw [hs] at ha
   cases ha
   have e:=uw.uniq hk
   subst e
   rw [rZ h.len ls]
   have:=oa (v.getD k' 0) (show s.getD k' 0≠0 by lia)
   have h2:=this.2.1 xr
   lia
  ·have hji:j<i:=by lia
   have hb:W7 (a.take w) (s.take w):=by
    have h1:(st.map (List.take w))[j]?=some (a.take w):=by rw [agC,ha];rfl
    have h2:(st.map (List.take w))[i]?=some (s.take w):=by rw [agC,hs];rfl
    obtain ⟨p1,e1⟩:=afX.mp h1
    obtain ⟨p2,e2⟩:=afX.mp h2
    have:=List.pairwise_iff_getElem.mp sf.2 j i p1 p2 hji
    rw [e1,e2] at this
    exact this
   obtain ⟨⟨k2,h1,h2⟩,_⟩:=hb k hk
   have e:=uw.uniq h2
   subst e
   have hz:s.getD k' 0=0:=by
    have:=hk.2 k' h1
    rwa [hJ _ (vI uw)] at this
   rw [fG h.len ls hz]
   exact h.small j a k' hji ha uw
def dt(a b:List Int):Int:=(List.zipWith (·*·) a b).sum
theorem NU(a:List Int):dt a []=0:=by simp [dt]
theorem cW:∀ (a b:List Int),dt a b=dt b a
 | [],[]=>rfl
 | [],_::_=>rfl
 | _::_,[]=>rfl
 | x::a,y::b=>by
  have h:=cW a b
  unfold dt at h ⊢
  simp only [zipWith_cons_cons,sum_cons]
  rw [h,Int.mul_comm]
theorem gL{n:Nat}:∀ {a b c:List Int},a.length=n->b.length=n->c.length=n->dt (sub a b) c=dt a c - dt b c:=by
 induction n with
 | zero=>intro a b c ha hb hc;rw [List.length_eq_zero_iff.mp ha,List.length_eq_zero_iff.mp hb];simp [dt,sub]
 | succ n ih =>
  intro a b c ha hb hc
  match a,b,c,ha,hb,hc with
  | x::a,y::b,z::c,ha,hb,hc =>
   have e:=ih (a:=a) (b:=b) (c:=c) (by simpa using ha) (by simpa using hb) (by simpa using hc)
   unfold dt sub at e ⊢
   simp only [zipWith_cons_cons,sum_cons]
   rw [e,sub_mul]
   lia
theorem jT(n:Nat)(c:List Int):dt (jx n) c=0:=by
 induction n generalizing c with
 | zero=>simp [dt,jx]
 | succ n ih =>
  cases c with
  | nil=>exact NU _
  | cons x c =>
   have:=ih c
   unfold dt jx at this ⊢
   simp only [List.replicate_succ,zipWith_cons_cons,sum_cons]
   rw [this]
   simp
structure BP(st R:List (List Int)):Prop where
 len:R.length=5
 at_:∀ (h:Nat) (r:List Int),R[h]?=some r->(r∈st/\Led r h)\/((∀ s∈st,¬ Led s h)/\r=bW h 5)
 in_:∀ s∈st,∀ h,Led s h->R[h]?=some s
theorem zk{r:List Int}{h:Nat}(hl:r.length=5)(h1:Led r h):h<5:=by
 have:=h1.1
 by_cases c:h<5
 ·exact c
 ·rw [List.getD,getElem?_eq_none (by lia)] at this
  exact absurd this (by decide)
theorem Kt{v:List Int}{n:Nat}(hl:v.length=n)(h:v≠jx n):∃ k,k<n/\v.getD k 0≠0/\∀ i,k<i->v.getD i 0=0:=by
 have:∀ m,m<=n->(∀ i,m<=i->v.getD i 0=0)->∃ k,k<n/\v.getD k 0≠0/\∀ i,k<i->v.getD i 0=0:=by
  intro m
  induction m with
  | zero=>intro _ hz;exact absurd (bF hl (aY n) fun i _=>by rw [hz i (agM _),bU]) h
  | succ m ih =>
   intro hm hz
   by_cases c:v.getD m 0=0
   ·exact ih (by lia) fun i hi=>by
     by_cases e:i=m
     ·rw [e];exact c
     ·exact hz i (by lia)
   ·exact⟨m,by lia,c,fun i hi=>hz i (by lia)⟩
 exact this n (af1 _) fun i hi=>by rw [List.getD,getElem?_eq_none (by lia)];rfl
theorem SF.mJ{n j:Nat}:∀ {bs:List (List Int)} {v:List Int},SF bs->Len n bs->Span n bs v->v.getD j 0≠0->(∀ i,j<i->v.getD i 0=0)->∃ u∈bs,Led u j/\(u.getD j 0).natAbs<=(v.getD j 0).natAbs
 | [],v,_,_,hv,h0,_=>by
  rw [hv.none,bU] at h0
  exact absurd rfl h0
 | a::rs,v,h,hl,hv,h0,hz=>by
  obtain ⟨k,hk⟩:=h.1 a (.head _)
  have la:=hl a (.head _)
  have lr:Len n rs:=fun r hr=>hl r (.tail _ hr)
  obtain ⟨c,_,e,z⟩:=h.split la lr hk hv
  rcases Nat.lt_trichotomy k j with q|q|q
  ·exact absurd (z j q) h0
  ·subst q
   refine⟨a,.head _,hk,?_⟩
   have hc:c≠0:=fun z=>h0 (by rw [e,z,mul_zero])
   rw [e,agH]
   exact Nat.le_mul_of_pos_right _ (by lia)
  ·obtain ⟨u,hu,r⟩:=SF.mJ h.tail lr (h.rest la lr hk hv (hz k q)) h0 hz
   exact⟨u,.tail _ hu,r⟩
theorem SF.qc:∀ {rs:List (List Int)} {t u:List Int} {k:Nat},SF rs->t∈rs->u∈rs->Led u k->0<=t.getD k 0/\t.getD k 0<=u.getD k 0
 | [],_,_,_,_,h,_,_=>nomatch h
 | a::rs,t,u,k,h,ht,hu,hk=>by
  have hp:=agP.mp h.2
  rcases agq.mp ht with rfl|Ql
  ·rcases agq.mp hu with rfl|GF
   ·exact⟨Int.le_of_lt hk.1,Int.le_refl _⟩
   ·have:=(hp.1 u GF k hk).2
    exact⟨this.1,Int.le_of_lt this.2⟩
  ·rcases agq.mp hu with rfl|GF
   ·rw [h.vE hk (af1 _) t Ql]
    exact⟨Int.le_refl _,Int.le_of_lt hk.1⟩
   ·exact SF.qc h.tail Ql GF hk
theorem SF.count:∀ {rs:List (List Int)} {n:Nat},SF rs->(∀ r∈rs,∀ k,Led r k->k<n)->rs.length<=n
 | [],_,_,_=>agM _
 | a::rs,n,h,hk=>by
  obtain ⟨j,hj⟩:=h.1 a (.head _)
  have:=hk a (.head _) j hj
  have ih:=SF.count h.tail (n:=j) fun r hr k uw=>by
   obtain ⟨⟨j',RV,lj⟩,_⟩:=(agP.mp h.2).1 r hr k uw
   have:=lj.uniq hj
   lia
  rw [length_cons]
  lia
def cr:Nat->Nat
 | 0=>0
 | r+1=>2*cr r+1
theorem HE{a x c:Int}{N:Nat}(ha:0<a)(e:x=a*c)(h:x.natAbs<=N*a.natAbs):c.natAbs<=N:=by
 rw [e,agH,Nat.mul_comm N] at h
 exact Nat.le_of_mul_le_mul_left h (by lia)
theorem HF{n B N:Nat}{x a:List Int}{c:Int}{k:Nat}(lx:x.length=n)(la:a.length=n)(hc:c.natAbs<=N){s:Int}(hx:(x.getD k 0).natAbs<=B*s.natAbs)(h0:0<=a.getD k 0)(h1:a.getD k 0<s):((low x a c).getD k 0).natAbs<=(B+N)*s.natAbs:=by
 rw [cu lx la]
 have h2:(a.getD k 0*c).natAbs<=N*s.natAbs:=by
  rw [agH,Nat.mul_comm]
  exact agw hc (by lia)
 rw [add_mul]
 exact af0 (natAbs_sub_le _ _) (add_le_add hx h2)
theorem CG{n D B N:Nat}{x a:List Int}{c:Int}(lx:x.length=n)(la:a.length=n)(hc:c.natAbs<=N)(hl:bf D (low x a c))(ha:bf B a):bf (D+N*B) x:=fun i=>by
 have h1:=hl i
 rw [cu lx la] at h1
 have h2:(a.getD i 0*c).natAbs<=N*B:=by
  rw [agH,Nat.mul_comm]
  exact agw hc (ha i)
 have h3:=natAbs_add_le (x.getD i 0 - a.getD i 0*c) (a.getD i 0*c)
 rw [sub_add_cancel] at h3
 exact af0 h3 (add_le_add h1 h2)
theorem SF.reach{n B:Nat}:∀ {st:List (List Int)} {N:Nat} {x:List Int},SF st->Len n st->(∀ s∈st,bf B s)->Span n st x->(∀ s∈st,∀ k,Led s k->(x.getD k 0).natAbs<=N*(s.getD k 0).natAbs)->bf (cr st.length*(N*B)) x
 | [],N,x,_,_,_,hx,_=>fun i=>by rw [hx.none,bU];exact agM _
 | a::rs,N,x,h,hl,hb,hx,hN=>by
  obtain ⟨j,hj⟩:=h.1 a (.head _)
  have la:=hl a (.head _)
  have lr:Len n rs:=fun r hr=>hl r (.tail _ hr)
  have lx:x.length=n:=hx.len hl
  obtain ⟨c,hs,e,_⟩:=h.split la lr hj hx
  have hc:=HE hj.1 e (hN a (.head _) j hj)
  have ih:=SF.reach h.tail lr (fun s hs=>hb s (.tail _ hs)) hs (N:=N+N) fun s hs k hk=>by
   have hp:=((agP.mp h.2).1 s hs k hk).2
   exact HF lx la hc (hN s (.tail _ hs) k hk) hp.1 hp.2
  refine (CG lx la hc ih (hb a (.head _))).mono (le_of_eq ?_)
  rw [length_cons,cr,add_mul,add_mul,one_mul,mul_add,<- Nat.two_mul,mul_assoc]
theorem mK{n:Nat}:∀ {a b:List Int} {d:Int},a.length=n->b.length=n->dt (bJ a d) b=dt a b*d:=by
 induction n with
 | zero=>intro a b d ha hb;rw [List.length_eq_zero_iff.mp ha];simp [dt,bJ]
 | succ n ih =>
  intro a b d ha hb
  match a,b,ha,hb with
  | x::a,y::b,ha,hb =>
   have e:=ih (a:=a) (b:=b) (d:=d) (by simpa using ha) (by simpa using hb)
   unfold dt bJ at e ⊢
   simp only [map_cons,zipWith_cons_cons,sum_cons]
   rw [e,Int.add_mul,Int.mul_assoc,Int.mul_comm d,<- Int.mul_assoc]
theorem kM{n:Nat}{x a w:List Int}{c:Int}(lx:x.length=n)(la:a.length=n)(lw:w.length=n):dt (low x a c) w=dt x w - dt a w*c:=by
 unfold low
 rw [gL lx (aA la) lw,mK la lw]
theorem Span.dt0{n:Nat}{rs:List (List Int)}{w v:List Int}(lw:w.length=n)(hl:Len n rs)(h:Span n rs v)(h0:∀ r∈rs,dt r w=0):dt v w=0 :=
 (h (fun v=>v.length=n/\dt v w=0) ⟨⟨aY n,jT n w⟩,fun a b la lb ha hb=>⟨sub_len la lb,by rw [gL la lb lw,ha.2,hb.2];rfl⟩⟩ fun r hr=>⟨hl r hr,h0 r hr⟩).2
def Mw(V q:Nat):Nat->Nat->Nat->Nat
 | 0,N,U=>(cr q+1)*(N+U)
 | a+1,N,U=>Mw V q a (N+N) (U+V*N)+N
theorem SF.HG{n B V:Nat}{w:List Int}(lw:w.length=n){s:List Int}{post:List (List Int)}(RX:dt s w≠0)(hp0:∀ r∈post,dt r w=0):∀ {pre:List (List Int)} {N U:Nat} {x:List Int},SF (pre++s::post)->Len n (pre++s::post)->(∀ r∈pre++s::post,bf B r)->(∀ r∈pre,(dt r w).natAbs<=V)->Span n (pre++s::post) x->(dt x w).natAbs<=U ->
  (∀ r,r∈pre\/r∈post->∀ k,Led r k->(x.getD k 0).natAbs<=N*(r.getD k 0).natAbs)->bf (Mw V post.length pre.length N U*B) x
 | [],N,U,x,h,hl,hb,_,hx,hU,hN=>by
  obtain ⟨j,hj⟩:=h.1 s (.head _)
  have ls:=hl s (.head _)
  have lp:Len n post:=fun r hr=>hl r (.tail _ hr)
  have lx:x.length=n:=hx.len hl
  obtain ⟨c,hs,e,_⟩:=h.split ls lp hj hx
  have hd:=Span.dt0 lw lp hs hp0
  rw [kM lx ls lw] at hd
  have hc:c.natAbs<=U:=by
   have e2:dt x w=dt s w*c:=by lia
   rw [e2,agH] at hU
   exact af0 (Nat.le_mul_of_pos_left _ (by lia)) hU
  have ih:=SF.reach h.tail lp (fun r hr=>hb r (.tail _ hr)) hs (N:=N+U) fun r hr k hk=>by
   have hp:=((agP.mp h.2).1 r hr k hk).2
   exact HF lx ls hc (hN r (.inr hr) k hk) hp.1 hp.2
  refine (CG lx ls hc ih (hb s (.head _))).mono ?_
  show cr post.length*((N+U)*B)+U*B<=(cr post.length+1)*(N+U)*B
  rw [mul_assoc,add_mul (cr post.length) 1,one_mul]
  exact Nat.add_le_add_left (agv _ (Nat.le_add_left _ _)) _
 | a::pre,N,U,x,h,hl,hb,hV,hx,hU,hN=>by
  have h:SF (a::(pre++s::post)):=h
  have hx:Span n (a::(pre++s::post)) x:=hx
  obtain ⟨j,hj⟩:=h.1 a (.head _)
  have la:=hl a (.head _)
  have lr:Len n (pre++s::post):=fun r hr=>hl r (.tail _ hr)
  have lx:x.length=n:=hx.len hl
  obtain ⟨c,hs,e,_⟩:=h.split la lr hj hx
  have hc:=HE hj.1 e (hN a (.inl (.head _)) j hj)
  have hU':(dt (low x a c) w).natAbs<=U+V*N:=by
   rw [kM lx la lw]
   have h2:(dt a w*c).natAbs<=V*N:=by
    rw [agH]
    exact agw (hV a (.head _)) hc
   exact af0 (natAbs_sub_le _ _) (add_le_add hU h2)
  have ih:=SF.HG lw RX hp0 h.tail lr (fun r hr=>hb r (.tail _ hr)) (fun r hr=>hV r (.tail _ hr)) hs hU' (N:=N+N) fun r hr k hk=>by
   have hm:r∈pre++s::post:=hr.elim (fun z=>agi _ z) fun z=>agh _ (.tail _ z)
   have hp:=((agP.mp h.2).1 r hm k hk).2
   exact HF lx la hc (hN r (hr.imp (fun z=>.tail _ z) id) k hk) hp.1 hp.2
  refine (CG lx la hc ih (hb a (.head _))).mono (le_of_eq ?_)
  rw [length_cons,Mw,add_mul]
def VZ(w:List Int)(m:Int)(x:List Int):Prop:=m ∣ dt x w
theorem VZ.sub{n:Nat}{w x y:List Int}{m:Int}(lw:w.length=n)(lx:x.length=n)(ly:y.length=n)(hx:VZ w m x)(hy:VZ w m y):VZ w m (b7.sub x y):=by
 unfold VZ
 rw [gL lx ly lw]
 exact dvd_sub hx hy
structure gM(st:List (List Int))(w:List Int)(m:Int)(j8:List (List Int)):Prop where
 sf:SF j8
 len:Len 5 j8
 to:∀ x,Span 5 j8 x->Span 5 st x/\VZ w m x
 R1:∀ x,Span 5 st x->VZ w m x->Span 5 j8 x
theorem gM.same{st:List (List Int)}{w:List Int}{m:Int}(sf:SF st)(hl:Len 5 st)(lw:w.length=5)(h:∀ r∈st,VZ w m r){j8:List (List Int)}(k:gM st w m j8):j8=st :=
 SF.uniq k.sf sf k.len hl ⟨fun r hr=>(k.to r (Span.mem hr)).1,fun r hr=>k.R1 r (Span.mem hr) (h r hr)⟩
theorem gM.Ku{st j8:List (List Int)}{w:List Int}{m:Int}{B M:Nat}(k:gM st w m j8)(sf:SF st)(hl:Len 5 st)(lw:w.length=5)(hB:∀ r∈st,bf B r)(hm:m≠0)(hM:m.natAbs<=M):∀ t∈j8,bf (cr st.length*(M*B)) t:=fun t ht=>by
 refine sf.reach hl hB (k.to t (Span.mem ht)).1 fun s hs j hj=>?_
 have hy:Span 5 j8 (bJ s m):=k.R1 _ (Span.mul (hl s hs) (Span.mem hs) m) (by unfold VZ;rw [mK (hl s hs) lw];exact Int.dvd_mul_left _ _)
 obtain ⟨u,hu,R3,VE⟩:=k.sf.mJ (j:=j) k.len hy (by
  rw [bg]
  exact fun z=>(agJ.mp z).elim (fun z=>by have:=hj.1;lia) hm) fun i hi=>by rw [bg,hj.2 i hi,zero_mul]
 have ha:=k.sf.qc ht hu R3
 rw [bg,agH] at VE
 have h3:(s.getD j 0).natAbs*m.natAbs<=M*(s.getD j 0).natAbs:=by rw [Nat.mul_comm];exact agv _ hM
 lia
theorem D2{α:Type}(p:α->Prop) [DecidablePred p]:∀ (xs:List α),(∀ x∈xs,p x)\/∃ pre s post,xs=pre++s::post/\¬ p s/\∀ x∈post,p x
 | []=>.inl fun _ h=>nomatch h
 | a::xs=>by
  rcases D2 p xs with h|⟨pre,s,post,e,h1,h2⟩
  ·by_cases c:p a
   ·exact .inl fun x hx=>(agq.mp hx).elim (fun z=>z ▸ c) (h x)
   ·exact .inr ⟨[],a,xs,rfl,c,h⟩
  ·exact .inr ⟨a::pre,s,post,by rw [e];rfl,h1,h2⟩
theorem SF.back:∀ {pre:List (List Int)} {s:List Int} {post:List (List Int)},SF (pre++s::post)->∀ r∈pre,∀ k,Led r k->s.getD k 0=0/\∀ i,k<i->s.getD i 0=0
 | [],_,_,_,_,h,_,_=>nomatch h
 | a::pre,s,post,h,r,hr,k,hk=>by
  have h:SF (a::(pre++s::post)):=h
  rcases agq.mp hr with rfl|ua
  ·exact⟨h.vE hk (af1 _) s (agh _ (.head _)),fun i hi=>h.vE hk (af2 hi) s (agh _ (.head _))⟩
  ·exact SF.back h.tail r ua k hk
theorem gM.zl{st j8:List (List Int)}{w:List Int}{B V:Nat}(k:gM st w 0 j8)(sf:SF st)(hl:Len 5 st)(h5:st.length<=5)(lw:w.length=5)(hB:∀ r∈st,bf B r)(hV:∀ r∈st,(dt r w).natAbs<=V)(hV1:1<=V):∀ t∈j8,bf (64*(V*V)*B) t:=fun t ht=>by
 have hVV:V<=V*V:=Nat.le_mul_of_pos_left _ hV1
 rcases D2 (fun r=>dt r w=0) st with h|⟨pre,s,post,e,h1,h2⟩
 ·have e:=k.same sf hl lw fun r hr=>by unfold VZ;rw [h r hr];exact agI _
  subst e
  exact (hB t ht).mono (af0 (le_of_eq (one_mul B).symm) (agv _ (by lia)))
 ·subst e
  have GH:s∈pre++s::post:=agh _ (.head _)
  have ls:=hl s GH
  have hx:=k.to t (Span.mem ht)
  have hx0:dt t w=0:=agK.mp hx.2
  have main:=SF.HG (B:=B) (V:=V) lw h1 h2 sf hl hB (fun r hr=>hV r (agi _ hr)) hx.1 (U:=0) (by rw [hx0];exact af1 _) (N:=V) fun r hr j hj=>by
   rcases hr with hr|hr
   ·have GI:r∈pre++s::post:=agi _ hr
    have lr:=hl r GI
    obtain ⟨z1,z2⟩:=SF.back sf r hr j hj
    have hy:Span 5 j8 (b7.sub (bJ r (dt s w)) (bJ s (dt r w))):=by
     refine k.R1 _ (Span.sub (aA lr) (aA ls) (Span.mul lr (Span.mem GI) _) (Span.mul ls (Span.mem GH) _)) ?_
     unfold VZ
     rw [gL (aA lr) (aA ls) lw,mK lr lw,mK ls lw,Int.mul_comm (dt s w),sub_self]
     exact dvd_refl _
    have GG:∀ i,(b7.sub (bJ r (dt s w)) (bJ s (dt r w))).getD i 0=r.getD i 0*dt s w - s.getD i 0*dt r w:=fun i=>by rw [bI (aA lr) (aA ls),bg,bg]
    obtain ⟨u,hu,R3,VE⟩:=k.sf.mJ (j:=j) k.len hy (by
     rw [GG,z1,zero_mul,Int.sub_zero]
     exact fun z=>(agJ.mp z).elim (fun z=>by have:=hj.1;lia) h1) fun i hi=>by rw [GG,hj.2 i hi,z2 i hi,zero_mul,zero_mul];rfl
    have ha:=k.sf.qc ht hu R3
    rw [GG,z1,zero_mul,Int.sub_zero,agH] at VE
    have h3:(r.getD j 0).natAbs*(dt s w).natAbs<=V*(r.getD j 0).natAbs:=by rw [Nat.mul_comm];exact agv _ (hV s GH)
    lia
   ·have GI:r∈pre++s::post:=agh _ (.tail _ hr)
    obtain ⟨u,hu,R3,VE⟩:=k.sf.mJ (j:=j) k.len (k.R1 r (Span.mem GI) (by unfold VZ;rw [h2 r hr];exact agI _)) (by have:=hj.1;lia) hj.2
    have ha:=k.sf.qc ht hu R3
    have h3:1*(r.getD j 0).natAbs<=V*(r.getD j 0).natAbs:=agv _ hV1
    lia
  refine main.mono (agv _ ?_)
  have hlen:pre.length+(post.length+1)<=5:=by simpa using h5
  generalize pre.length=a at hlen
  generalize hq:post.length=q at hlen
  generalize hW:V*V=W at hVV
  have ha:a=0\/a=1\/a=2\/a=3\/a=4:=by lia
  rcases ha with rfl|rfl|rfl|rfl|rfl
  ·have rV:q=0\/q=1\/q=2\/q=3\/q=4:=by lia
   simp only [Mw]
   rcases rV with rfl|rfl|rfl|rfl|rfl <;> simp only [cr] <;> lia
  ·have rV:q=0\/q=1\/q=2\/q=3:=by lia
   simp only [Mw,hW]
   rcases rV with rfl|rfl|rfl|rfl <;> simp only [cr] <;> lia
  ·have rV:q=0\/q=1\/q=2:=by lia
   simp only [Mw,mul_add,hW]
   rcases rV with rfl|rfl|rfl <;> simp only [cr] <;> lia
  ·have rV:q=0\/q=1:=by lia
   simp only [Mw,mul_add,hW]
   rcases rV with rfl|rfl <;> simp only [cr] <;> lia
  ·have rV:q=0:=by lia
   simp only [Mw,mul_add,hW]
   subst rV
   simp only [cr]
   lia
theorem mL{r:List Int}{x:Int}(h:r.length=5):(r++[x]).take 5=r:=by rw [List.take_append_of_le_length (by lia),agG (by lia)]
theorem vJ{r:List Int}{x:Int}(h:r.length=5):(r++[x]).getD 5 0=x:=by
 rw [List.getD,af4 (by lia),h]
 rfl
theorem D3{a b:List Int}{x y:Int}(ha:a.length=5)(hb:b.length=5):sub (a++[x]) (b++[y])=sub a b++[x - y]:=by
 unfold sub
 rw [List.zipWith_append (by lia)]
 rfl
theorem Kv{a:List Int}{x d:Int}:bJ (a++[x]) d=bJ a d++[x*d]:=by unfold bJ;rw [agD];rfl
theorem vK{v:List Int}{k:Nat}(h:v.length=6)(h0:v.getD 5 0=0):Led (v.take 5) k↔Led v k:=by
 have lt:(v.take 5).length=5:=dm h (by decide)
 have hz:∀ i,5<=i->v.getD i 0=0:=fun i hi=>by
  by_cases c:i=5
  ·rw [c];exact h0
  ·rw [List.getD,getElem?_eq_none (by lia)];rfl
 have ht:∀ i,(v.take 5).getD i 0=v.getD i 0:=fun i=>by
  by_cases c:i<5
  ·exact hJ v c
  ·rw [hz i (by lia),List.getD,getElem?_eq_none (by lia)];rfl
 unfold Led
 simp only [ht]
theorem SF.Mx{T:List (List Int)}(h:SF T)(hl:Len 6 T)(h0:∀ v∈T,v.getD 5 0=0):SF (T.map (List.take 5)):=by
 refine⟨fun r hr=>?_,?_⟩
 ·obtain ⟨v,hv,rfl⟩:=agr.mp hr
  obtain ⟨k,hk⟩:=h.1 v hv
  exact⟨k,(vK (hl v hv) (h0 v hv)).mpr hk⟩
 ·rw [pairwise_map]
  refine List.Pairwise.imp_of_mem (fun {a b} ha hb AU k hk=>?_) h.2
  have uw:=(vK (hl b hb) (h0 b hb)).mp hk
  obtain ⟨⟨j,hj,la⟩,h1,h2⟩:=AU k uw
  have h5:k<5:=vI hk
  rw [hJ a h5,hJ b h5]
  exact⟨⟨j,hj,(vK (hl a ha) (h0 a ha)).mpr la⟩,h1,h2⟩
theorem SF.R4{S:List (List Int)}(h:SF S)(hl:Len 6 S):SF (S.filter fun v=>v.getD 5 0 == 0)/\∀ x,Span 6 S x->x.getD 5 0=0->Span 6 (S.filter fun v=>v.getD 5 0 == 0) x:=by
 match S,h,hl with
 | [],h,hl=>exact⟨h,fun x hx _=>hx⟩
 | a::rs,h,hl =>
  obtain ⟨k,hk⟩:=h.1 a (.head _)
  have la:=hl a (.head _)
  have lr:Len 6 rs:=fun r hr=>hl r (.tail _ hr)
  have hk6:k<6:=by
   have:=hk.1
   by_cases c:k<6
   ·exact c
   ·rw [List.getD,getElem?_eq_none (by lia)] at this
    exact absurd this (by decide)
  have mD:rs.filter (fun v=>v.getD 5 0 == 0)=rs:=List.filter_eq_self.mpr fun r hr=>by
   rw [h.vE hk (i:=5) (by lia) r hr]
   rfl
  by_cases c:a.getD 5 0=0
  ·have e:(a::rs).filter (fun v=>v.getD 5 0 == 0)=a::rs:=by rw [List.filter_cons_of_pos (by rw [c];rfl),mD]
   rw [e]
   exact⟨h,fun x hx _=>hx⟩
  ·have e:(a::rs).filter (fun v=>v.getD 5 0 == 0)=rs:=by rw [List.filter_cons_of_neg (by simpa using c),mD]
   rw [e]
   have e5:k=5:=by
    rcases Nat.lt_or_ge k 5 with z|z
    ·exact absurd (hk.2 5 z) c
    ·lia
   subst e5
   exact⟨h.tail,fun x hx h0=>h.rest la lr hk hx h0⟩
def valued(f:List Int->Int)(st:List (List Int))(m:Int):List (List Int):=st.map (fun r=>r++[f r])++[jx 5++[m]]
theorem D4{st S:List (List Int)}{w:List Int}{m:Int}{f:List Int->Int}(hl:Len 5 st)(lw:w.length=5)(hf:∀ r∈st,m ∣ dt r w - f r)(sf:SF S)(hS:Len 6 S)(e:Eqv 6 (valued f st m) S) :
  gM st w m ((S.filter fun v=>v.getD 5 0 == 0).map (List.take 5)):=by
 obtain ⟨g1,g2⟩:=sf.R4 hS
 have hT:∀ v∈S.filter (fun v=>v.getD 5 0 == 0),v∈S/\v.getD 5 0=0:=fun v hv=>by
  obtain ⟨a,b⟩:=ags.mp hv
  exact⟨a,by simpa using b⟩
 have lT:Len 6 (S.filter fun v=>v.getD 5 0 == 0):=fun v hv=>hS v (hT v hv).1
 have p6:∀ y,Span 6 (valued f st m) y->y.length=6/\Span 5 st (y.take 5)/\m ∣ dt (y.take 5) w - y.getD 5 0:=fun y hy=>by
  refine hy (fun y=>y.length=6/\Span 5 st (y.take 5)/\m ∣ dt (y.take 5) w - y.getD 5 0) ⟨⟨aY 6,?_,?_⟩,fun a b la lb ha hb=>⟨sub_len la lb,?_,?_⟩⟩ fun r hr=>?_
  ·rw [vH (by decide)];exact Span.zero
  ·rw [vH (by decide),jT,bU];exact agI _
  ·rw [mH];exact Span.sub (dm la (by decide)) (dm lb (by decide)) ha.2.1 hb.2.1
  ·rw [mH,bI la lb,gL (dm la (by decide)) (dm lb (by decide)) lw]
   have:=dvd_sub ha.2.2 hb.2.2
   rwa [show dt (a.take 5) w - dt (b.take 5) w - (a.getD 5 0 - b.getD 5 0)=dt (a.take 5) w - a.getD 5 0 - (dt (b.take 5) w - b.getD 5 0) by lia]
  ·rcases agk.mp hr with z|z
   ·obtain ⟨q,hq,rfl⟩:=agr.mp z
    have lq:=hl q hq
    refine⟨by simp [lq],?_,?_⟩
    ·rw [mL lq];exact Span.mem hq
    ·rw [mL lq,vJ lq];exact hf q hq
   ·rw [agj.mp z]
    refine⟨rfl,?_,?_⟩
    ·rw [mL (aY 5)];exact Span.zero
    ·rw [mL (aY 5),vJ (aY 5),jT,Int.zero_sub];exact Int.dvd_neg.mpr (dvd_refl m)
 refine⟨g1.Mx lT fun v hv=>(hT v hv).2,fun r hr=>?_,fun x hx=>?_,fun x hx hv=>?_⟩
 ·obtain ⟨v,hv,rfl⟩:=agr.mp hr
  exact dm (lT v hv) (by decide)
 ·refine (hx (fun x=>x.length=5/\Span 5 st x/\VZ w m x) ⟨⟨aY 5,Span.zero,?_⟩,fun a b la lb ha hb=>⟨sub_len la lb,Span.sub la lb ha.2.1 hb.2.1,VZ.sub lw la lb ha.2.2 hb.2.2⟩⟩ fun r hr=>?_).2
  ·unfold VZ;rw [jT];exact agI _
  ·obtain ⟨v,hv,rfl⟩:=agr.mp hr
   obtain ⟨a,b,c⟩:=p6 v (e.2 v (hT v hv).1)
   rw [(hT v hv).2,Int.sub_zero] at c
   exact⟨dm a (by decide),b,c⟩
 ·have lx:=hx.len hl
  have hm:Span 6 (valued f st m) (jx 5++[m]):=Span.mem (agh _ (.head _))
  have lm:(jx 5++[m]).length=6:=rfl
  have Kw:∀ (r:List Int) (u v:Int),r.length=5->Span 6 (valued f st m) (r++[u])->m ∣ u - v->Span 6 (valued f st m) (r++[v]):=fun r u v lr hr hd=>by
   obtain ⟨c,hc⟩:=hd
   have:=Span.sub (by simp [lr]) (aA lm) hr (Span.mul lm hm c)
   rw [Kv,D3 lr (aA (aY 5))] at this
   have e1:sub r (bJ (jx 5) c)=r:=bF (sub_len lr (aA (aY 5))) lr fun i _=>by rw [bI lr (aA (aY 5)),bg,bU,zero_mul,Int.sub_zero]
   rw [e1,show u - m*c=v by lia] at this
   exact this
  have hq:x.length=5/\Span 6 (valued f st m) (x++[dt x w]):=by
   refine hx (fun x=>x.length=5/\Span 6 (valued f st m) (x++[dt x w])) ⟨⟨aY 5,?_⟩,fun a b la lb ha hb=>⟨sub_len la lb,?_⟩⟩ fun r hr=>⟨hl r hr,?_⟩
   ·rw [jT];exact Span.zero (n:=6)
   ·have:=Span.sub (by simp [la]) (by simp [lb]) ha.2 hb.2
    rw [D3 la lb] at this
    rwa [gL la lb lw]
   ·refine Kw r (f r) _ (hl r hr) (Span.mem (agi _ (agr.mpr ⟨r,hr,rfl⟩))) ?_
    have:=hf r hr
    rw [show f r - dt r w=-(dt r w - f r) by lia]
    exact Int.dvd_neg.mpr this
  have h0:Span 6 (valued f st m) (x++[0]):=Kw x _ 0 lx hq.2 (by rw [Int.sub_zero];exact hv)
  have h1:=g2 _ (e.span h0) (vJ lx)
  have:=Span.take (w:=5) (by decide) h1
  rwa [mL lx] at this
structure Lo(ks:List (List Int×Int))(st:List (List Int)):Prop where
 sf:SF st
 len:Len 5 st
 all:∀ x,Span 5 st x↔x.length=5/\∀ k∈ks,VZ k.1 k.2 x
theorem Lo.next{ks:List (List Int×Int)}{st j8:List (List Int)}{w:List Int}{m:Int}(h:Lo ks st)(k:gM st w m j8):Lo (ks++[(w,m)]) j8:=by
 refine⟨k.sf,k.len,fun x=>⟨fun hx=>?_,fun hx=>?_⟩⟩
 ·obtain ⟨h1,h2⟩:=k.to x hx
  obtain ⟨h3,h4⟩:=(h.all x).mp h1
  exact⟨h3,fun q hq=>(agk.mp hq).elim (h4 q) fun z=>by rw [agj.mp z];exact h2⟩
 ·exact k.R1 x ((h.all x).mpr ⟨hx.1,fun q hq=>hx.2 q (agi _ hq)⟩) (hx.2 (w,m) (agh _ (.head _)))
def iN:List (List Int):=[bW 4 5,bW 3 5,bW 2 5,bW 1 5,bW 0 5]
theorem i9{k:Nat}(h:k<5):Led (bW k 5) k:=by
 refine⟨by rw [i8 h,if_pos rfl];decide,fun i hi=>?_⟩
 by_cases c:i<5
 ·rw [i8 c,if_neg (by lia)]
 ·rw [List.getD,getElem?_eq_none (by rw [fU];lia)];rfl
theorem qd{a b:Nat}(ha:a<5)(h:b<a):W7 (bW a 5) (bW b 5):=fun k hk=>by
 have e:=hk.uniq (i9 (by lia))
 subst e
 refine⟨⟨a,h,i9 ha⟩,?_,?_⟩
 ·rw [i8 (by lia),if_neg (by lia)];exact Int.le_refl _
 ·rw [i8 (by lia),if_neg (by lia),i8 (by lia),if_pos rfl];decide
theorem AW:SF iN:=by
 refine⟨fun r hr=>?_,?_⟩
 ·simp only [iN,agq,not_mem_nil,or_false] at hr
  rcases hr with rfl|rfl|rfl|rfl|rfl
  ·exact⟨_,i9 (by decide)⟩
  ·exact⟨_,i9 (by decide)⟩
  ·exact⟨_,i9 (by decide)⟩
  ·exact⟨_,i9 (by decide)⟩
  ·exact⟨_,i9 (by decide)⟩
 ·unfold iN
  refine .cons (fun r hr=>?_) (.cons (fun r hr=>?_) (.cons (fun r hr=>?_) (.cons (fun r hr=>?_) (.cons (fun r hr=>nomatch hr) .nil))))
  all_goals
   simp only [agq,not_mem_nil,or_false] at hr
  ·rcases hr with rfl|rfl|rfl|rfl <;> exact qd (by decide) (by decide)
  ·rcases hr with rfl|rfl|rfl <;> exact qd (by decide) (by decide)
  ·rcases hr with rfl|rfl <;> exact qd (by decide) (by decide)
  ·rcases hr with rfl;exact qd (by decide) (by decide)
theorem sg:Len 5 iN:=fun r hr=>by
 simp only [iN,agq,not_mem_nil,or_false] at hr
 rcases hr with rfl|rfl|rfl|rfl|rfl <;> exact fU _ _
theorem yv{x:List Int}(h:x.length=5):Span 5 iN x:=by
 have hm:∀ k,k<5->bW k 5∈iN:=fun k hk=>by
  rcases (show k=0\/k=1\/k=2\/k=3\/k=4 by lia) with rfl|rfl|rfl|rfl|rfl <;> simp [iN]
 have ht:∀ n,n<=5->∀ y:List Int,y.length=5->(∀ i,n<=i->y.getD i 0=0)->Span 5 iN y:=by
  intro n
  induction n with
  | zero =>
   intro _ y ly hy
   have e:y=jx 5:=bF ly (aY 5) fun i _=>by rw [hy i (agM _),bU]
   rw [e]
   exact Span.zero
  | succ n ih =>
   intro hn y ly hy
   have lu:=fU n 5
   refine Span.AS (s:=bW n 5) (q:=y.getD n 0) ly lu (ih (by lia) _ (cq ly lu) fun i hi=>?_) (Span.mem (hm n (by lia)))
   rw [cu ly lu]
   by_cases c:i<5
   ·rw [i8 c]
    by_cases d:i=n
    ·rw [if_pos d,d];lia
    ·rw [if_neg d,hy i (by lia)];lia
   ·rw [hy i (by lia),List.getD,getElem?_eq_none (by rw [lu];lia)]
    simp
 exact ht 5 (af1 _) x h fun i hi=>by rw [List.getD,getElem?_eq_none (by lia)];rfl
theorem Lo.start:Lo [] iN:=⟨AW,sg,fun x=>⟨fun hx=>⟨hx.len sg,fun k hk=>nomatch hk⟩,fun hx=>yv hx.1⟩⟩
theorem AX{st:List (List Int)}(sf:SF st)(hl:Len 5 st)(e:Eqv 5 ((List.range 5).map fun i=>bW i 5) st):st=iN:=by
 refine SF.uniq sf AW hl sg ⟨fun r hr=>yv (hl r hr),fun r hr=>?_⟩
 refine e.span (Span.mem ?_)
 simp only [iN,agq,not_mem_nil,or_false] at hr
 rcases hr with rfl|rfl|rfl|rfl|rfl <;> exact agr.mpr ⟨_,agy.mpr (by decide),rfl⟩
def lb(W:Nat):Nat->Nat
 | 0=>0
 | i+1=>3*lb W i+2*W+12
theorem nM{α:Type}{r:List α}(h:r.length=5):∃ a b c d e,r=[a,b,c,d,e]:=by
 match r,h with
 | [a,b,c,d,e],_=>exact⟨a,b,c,d,e,rfl⟩
theorem qe{x y:Int}{m n:Nat}(h:x.natAbs<=m)(k:y.natAbs<=n):(x+y).natAbs<=m+n:=af0 (natAbs_add_le _ _) (add_le_add h k)
theorem uZ{b W:Nat}{r w:List Int}(lr:r.length=5)(lw:w.length=5)(hr:bf (2 ^ b) r)(hw:bf (2 ^ W) w):(dt r w).natAbs<=2 ^ (W+b+3):=by
 have hp:∀ i,(r.getD i 0*w.getD i 0).natAbs<=2 ^ b*2 ^ W:=fun i=>by
  rw [agH]
  exact agw (hr i) (hw i)
 obtain ⟨a0,a1,a2,a3,a4,e1⟩:=nM lr
 obtain ⟨b0,b1,b2,b3,b4,e2⟩:=nM lw
 subst e1
 subst e2
 have e:(2:Nat) ^ (W+b+3)=8*(2 ^ b*2 ^ W):=by rw [pow_add,pow_add,Nat.mul_comm (2 ^ W),Nat.mul_comm _ (2 ^ 3)]
 rw [e]
 exact af0 (qe (hp 0) (qe (hp 1) (qe (hp 2) (qe (hp 3) (qe (hp 4) (af1 0)))))) (by lia)
theorem gM.bd{st j8:List (List Int)}{w:List Int}{m:Int}{b W:Nat}(k:gM st w m j8)(sf:SF st)(hl:Len 5 st)(h5:st.length<=5)(lw:w.length=5)(hB:∀ r∈st,bf (2 ^ b) r)(hw:bf (2 ^ W) w)(hm:m.natAbs<=2 ^ W):∀ t∈j8,bf (2 ^ (3*b+2*W+12)) t:=fun t ht=>by
 by_cases c:m=0
 ·subst c
  refine (k.zl sf hl h5 lw hB (fun r hr=>uZ (hl r hr) lw (hB r hr) hw) (agL _) t ht).mono (le_of_eq ?_)
  rw [show (64:Nat)=2 ^ 6 from rfl,<- pow_add,<- pow_add,<- pow_add]
  congr 1
  lia
 ·refine (k.Ku sf hl lw hB c hm t ht).mono ?_
  have hc:cr st.length<=2 ^ 5:=by
   rcases (show st.length=0\/st.length=1\/st.length=2\/st.length=3\/st.length=4\/st.length=5 by lia) with e|e|e|e|e|e <;> rw [e] <;> decide
  refine af0 (agv _ hc) ?_
  rw [<- pow_add,<- pow_add]
  exact agt (by decide) (by lia)
theorem fV{α:Type}{l:List α}{a i:Nat}{x d:α}(h:a<l.length):(l.set a x).getD i d=if a=i then x else l.getD i d:=by
 rw [List.getD,getElem?_set]
 by_cases e:a=i
 ·rw [if_pos e,if_pos e,if_pos h];rfl
 ·rw [if_neg e,if_neg e];rfl
def mh(rs ss:List (List Int)):Prop:=∀ i j,i<5->j<5->dt (ss.getD j []) (rs.getD i [])=if i=j then 1 else 0
theorem cX{n:Nat}{rs:List (List Int)}{i:Nat}(h:Len n rs)(hi:i<rs.length):(rs.getD i []).length=n:=by
 rw [List.getD,agg hi]
 exact h _ (agR hi)
theorem mh.NV{rs ss:List (List Int)}{a b:Nat}{n:Int}(lr:rs.length=5)(ls:ss.length=5)(hr:Len 5 rs)(hs:Len 5 ss)(ha:a<5)(hb:b<5)(AU:a≠b)(h:mh rs ss) :
  mh (rs.set a (low (rs.getD a []) (rs.getD b []) (-n))) (ss.set b (low (ss.getD b []) (ss.getD a []) n)):=by
 intro i j hi hj
 rw [fV (by lia),fV (by lia)]
 have l1:=cX hr (show a<rs.length by lia)
 have l2:=cX hr (show b<rs.length by lia)
 have l3:=cX hs (show a<ss.length by lia)
 have l4:=cX hs (show b<ss.length by lia)
 have l5:=cX hr (show i<rs.length by lia)
 have l6:=cX hs (show j<ss.length by lia)
 have haa:=h a a ha ha
 have CH:=h b b hb hb
 have R5:=h a b ha hb
 have R6:=h b a hb ha
 rw [if_pos rfl] at haa CH
 rw [if_neg AU] at R5
 rw [if_neg (Ne.symm AU)] at R6
 by_cases e1:a=i
 ·subst e1
  rw [if_pos rfl]
  by_cases e2:b=j
  ·subst e2
   rw [if_pos rfl,kM l4 l3 (cq l1 l2),cW _ (low _ _ _),kM l1 l2 l4,cW _ (low _ _ _),kM l1 l2 l3,cW (rs.getD a []) (ss.getD b []),cW (rs.getD b []) (ss.getD b []),cW (rs.getD a []) (ss.getD a []),cW (rs.getD b []) (ss.getD a []),haa,CH,R5,R6,if_neg AU]
   lia
  ·have h1:=h a j ha hj
   have h2:=h b j hb hj
   rw [if_neg e2] at h2
   rw [if_neg e2,cW,kM l1 l2 l6,cW,h1,cW,h2]
   lia
 ·rw [if_neg e1]
  by_cases e2:b=j
  ·subst e2
   have h1:=h i b hi hb
   have h2:=h i a hi ha
   rw [if_neg (fun z=>e1 z.symm)] at h2
   rw [if_pos rfl,kM l4 l3 l5,h1,h2]
   lia
  ·rw [if_neg e2]
   exact h i j hi hj
def eK:List (List Int):=[[1,0,0,0,0],[0,1,0,0,0],[0,0,1,0,0],[0,0,0,1,0],[0,0,0,0,1]]
theorem mh.start:mh eK eK :=
 have h:∀ i,i<5->∀ j,j<5->dt (eK.getD j []) (eK.getD i [])=if i=j then 1 else 0:=by decide +kernel
 fun i j hi hj=>h i hi j hj
theorem u0{n:Nat}{rs:List (List Int)}{a:Nat}{x:List Int}(h:Len n rs)(hx:x.length=n):Len n (rs.set a x):=fun v hv=>by
 rcases mem_or_eq_of_mem_set hv with z|z
 ·exact h v z
 ·rw [z];exact hx
theorem u3{M:Nat}{rs:List (List Int)}{a:Nat}{x:List Int}(h:∀ v∈rs,bf M v)(hx:bf M x):∀ v∈rs.set a x,bf M v:=fun v hv=>by
 rcases mem_or_eq_of_mem_set hv with z|z
 ·exact h v z
 ·rw [z];exact hx
end b7
namespace Xb
open PySem PySem.Builtin PySem.Builtin.Str PySem.StrLaws
def dgt(c:Nat):Bool:=decide (48<=c) && decide (c<=57)
def cnt(z:Str)(m:Nat):Bool:=(decide (1<=z.length/\z.length<=m) && (z.cps[0]? != some 48)) && z.cps.toList.all dgt
end Xb
namespace Xb
open PySem PySem.Builtin PySem.Builtin.Str PySem.StrLaws PySem.NumText PySem.W.KIN PyProof.Rows
def num(z:Str):Nat:=digitsVal z.cps.toList
end Xb
namespace b7
def mi:Nat->(Nat->Int)->Int
 | 0,_=>0
 | n+1,f=>mi n f+f n
theorem vL{f g:Nat->Int}:∀ {n:Nat},(∀ i,i<n->f i=g i)->mi n f=mi n g
 | 0,_=>rfl
 | n+1,h=>by rw [mi,mi,vL fun i hi=>h i (by lia),h n (by lia)]
theorem vM{f g:Nat->Int}{p:Nat}:∀ {n:Nat},p<n->(∀ i,i<n->i≠p->f i=g i)->mi n f - f p=mi n g - g p
 | 0,hp,_=>by lia
 | n+1,hp,h=>by
  rw [mi,mi]
  by_cases e:p=n
  ·subst e
   have:=vL (f:=f) (g:=g) fun i (hi:i<p)=>h i (by lia) (by lia)
   lia
  ·have h1:=vM (n:=n) (show p<n by lia) fun i hi xt=>h i (by lia) xt
   have h2:=h n (by lia) (fun z=>e z.symm)
   lia
theorem AY{f g:Nat->Int}{p q:Nat}:∀ {n:Nat},p<n->q<n->p≠q->(∀ i,i<n->i≠p->i≠q->f i=g i)->f p+f q=g p+g q->mi n f=mi n g
 | 0,hp,_,_,_,_=>by lia
 | n+1,hp,hq,My,h,e=>by
  rw [mi,mi]
  by_cases e1:p=n
  ·subst e1
   have h1:=vM (n:=p) (p:=q) (f:=f) (g:=g) (by lia) fun i hi xt=>h i (by lia) (by lia) xt
   lia
  ·by_cases e2:q=n
   ·subst e2
    have h1:=vM (n:=q) (p:=p) (f:=f) (g:=g) (by lia) fun i hi xt=>h i (by lia) xt (by lia)
    lia
   ·have h1:=AY (n:=n) (show p<n by lia) (show q<n by lia) My (fun i hi a b=>h i (by lia) a b) e
    have h2:=h n (by lia) (fun z=>e1 z.symm) (fun z=>e2 z.symm)
    lia
def DR(rs ss:List (List Int)):Prop:=∀ x:List Int,x.length=5->∀ j,j<5->x.getD j 0=mi 5 fun i=>dt (ss.getD i []) x*(rs.getD i []).getD j 0
theorem DR.start:DR eK eK:=by
 intro x lx j hj
 match x,lx with
 | [a,b,c,d,e],_ =>
  rcases (show j=0\/j=1\/j=2\/j=3\/j=4 by lia) with rfl|rfl|rfl|rfl|rfl <;> simp [mi,dt,eK]
theorem DR.NV{rs ss:List (List Int)}{a b:Nat}{n:Int}(lr:rs.length=5)(ls:ss.length=5)(hr:Len 5 rs)(hs:Len 5 ss)(ha:a<5)(hb:b<5)(AU:a≠b)(h:DR rs ss) :
  DR (rs.set a (low (rs.getD a []) (rs.getD b []) (-n))) (ss.set b (low (ss.getD b []) (ss.getD a []) n)):=by
 intro x lx j hj
 rw [h x lx j hj]
 have l1:=cX hr (show a<rs.length by lia)
 have l2:=cX hr (show b<rs.length by lia)
 have l3:=cX hs (show a<ss.length by lia)
 have l4:=cX hs (show b<ss.length by lia)
 refine AY ha hb AU (fun i hi e1 e2=>?_) ?_
 ·rw [fV (by lia),fV (by lia),if_neg (Ne.symm e1),if_neg (Ne.symm e2)]
 ·rw [fV (show a<rs.length by lia),fV (show a<rs.length by lia),fV (show b<ss.length by lia),fV (show b<ss.length by lia),if_pos rfl,if_neg AU,if_pos rfl,if_neg (Ne.symm AU),cu l1 l2,kM l4 l3 lx]
  generalize dt (ss.getD a []) x=p
  generalize dt (ss.getD b []) x=q
  generalize (rs.getD a []).getD j 0=u
  generalize (rs.getD b []).getD j 0=v
  rw [mul_sub,sub_mul,mul_neg,mul_neg,Int.mul_assoc,Int.mul_comm n v]
  lia
def gens(ms:List Int)(rs:List (List Int)):List (List Int):=(List.range 5).map fun i=>bJ (rs.getD i []) (ms.getD i 0)
theorem vN{ms:List Int}{rs:List (List Int)}{i:Nat}(hi:i<5):bJ (rs.getD i []) (ms.getD i 0)∈gens ms rs:=agr.mpr ⟨i,agy.mpr hi,rfl⟩
def zm(c:Nat->Int)(v:Nat->List Int)(n:Nat):List Int:=(List.range 5).map fun j=>mi n fun i=>c i*(v i).getD j 0
theorem u4(c:Nat->Int)(v:Nat->List Int)(n:Nat){j:Nat}(hj:j<5):(zm c v n).getD j 0=mi n fun i=>c i*(v i).getD j 0:=by
 rw [zm,List.getD,agC,List.getElem?_range hj]
 rfl
theorem kg(c:Nat->Int)(v:Nat->List Int)(n:Nat):(zm c v n).length=5:=by simp [zm]
theorem yw{c:Nat->Int}{v:Nat->List Int}{qs:List (List Int)}:∀ n,(∀ i,i<n->(v i).length=5/\Span 5 qs (bJ (v i) (c i)))->Span 5 qs (zm c v n)
 | 0,_=>by
  have e:zm c v 0=jx 5:=bF (kg _ _ _) (aY 5) fun j hj=>by rw [u4 _ _ _ hj,bU];rfl
  rw [e]
  exact Span.zero
 | n+1,h=>by
  obtain ⟨h1,h2⟩:=h n (by lia)
  have h3:=yw n fun i hi=>h i (by lia)
  have e:zm c v (n+1)=sub (zm c v n) (bJ (bJ (v n) (c n)) (-1)):=bF (kg _ _ _) (sub_len (kg _ _ _) (aA (aA h1))) fun j hj=>by
   rw [bI (kg _ _ _) (aA (aA h1)),u4 _ _ _ hj,u4 _ _ _ hj,bg,bg,mi,Int.mul_comm (c n)]
   lia
  rw [e]
  exact Span.sub (kg _ _ _) (aA (aA h1)) h3 (Span.mul (aA h1) h2 (-1))
theorem DR.span{rs ss:List (List Int)}{ms x:List Int}(h:DR rs ss)(lr:rs.length=5)(hr:Len 5 rs)(lx:x.length=5)(hd:∀ i,i<5->ms.getD i 0 ∣ dt (ss.getD i []) x):Span 5 (gens ms rs) x:=by
 have e:x=zm (fun i=>dt (ss.getD i []) x) (fun i=>rs.getD i []) 5:=bF lx (kg _ _ _) fun j hj=>by rw [u4 _ _ _ hj];exact h x lx j hj
 rw [e]
 refine yw 5 fun i hi=>?_
 have li:=cX hr (show i<rs.length by lia)
 refine⟨li,?_⟩
 obtain ⟨k,hk⟩:=hd i hi
 have e2:bJ (rs.getD i []) (dt (ss.getD i []) x)=bJ (bJ (rs.getD i []) (ms.getD i 0)) k:=bF (aA li) (aA (aA li)) fun j _=>by rw [bg,bg,bg,hk,Int.mul_assoc]
 show Span 5 (gens ms rs) (bJ (rs.getD i []) (dt (ss.getD i []) x))
 rw [e2]
 exact Span.mul (aA li) (Span.mem (vN hi)) k
theorem mh.fits{rs ss:List (List Int)}{ms:List Int}(h:mh rs ss)(lr:rs.length=5)(ls:ss.length=5)(hr:Len 5 rs)(hs:Len 5 ss){x:List Int}(hx:Span 5 (gens ms rs) x):x.length=5/\∀ i,i<5->ms.getD i 0 ∣ dt x (ss.getD i []):=by
 refine hx (fun x=>x.length=5/\∀ i,i<5->ms.getD i 0 ∣ dt x (ss.getD i [])) ⟨⟨aY 5,fun i hi=>?_⟩,fun a b la lb ha hb=>⟨sub_len la lb,fun i hi=>?_⟩⟩ fun r ua=>?_
 ·rw [jT];exact agI _
 ·rw [gL la lb (cX hs (by lia))]
  exact dvd_sub (ha.2 i hi) (hb.2 i hi)
 ·obtain ⟨k,hk,rfl⟩:=agr.mp ua
  have Fj:=agy.mp hk
  have lk:=cX hr (show k<rs.length by lia)
  refine⟨aA lk,fun i hi=>?_⟩
  rw [mK lk (cX hs (by lia)),cW,h k i Fj hi]
  by_cases e:k=i
  ·subst e;rw [if_pos rfl,Int.one_mul];exact dvd_refl _
  ·rw [if_neg e,zero_mul];exact agI _
theorem vO{rs ss:List (List Int)}{ms:List Int}(hD:mh rs ss)(hR:DR rs ss)(lr:rs.length=5)(ls:ss.length=5)(hr:Len 5 rs)(hs:Len 5 ss)(x:List Int):Span 5 (gens ms rs) x↔(x.length=5/\∀ i,i<5->ms.getD i 0 ∣ dt x (ss.getD i [])) :=
 ⟨fun hx=>hD.fits lr ls hr hs hx,fun hx=>hR.span lr hr hx.1 fun i hi=>by rw [cW];exact hx.2 i hi⟩
def KE(ks qs:List (List Int×Int)):Prop:=∀ x:List Int,x.length=5->((∀ k∈ks,VZ k.1 k.2 x)↔∀ k∈qs,VZ k.1 k.2 x)
theorem KE.refl(ks:List (List Int×Int)):KE ks ks:=fun _ _=>Iff.rfl
theorem KE.trans{ks qs ts:List (List Int×Int)}(h:KE ks qs)(k:KE qs ts):KE ks ts:=fun x hx=>(h x hx).trans (k x hx)
theorem KE.ins{ks:List (List Int×Int)}{q:List Int×Int}{j:Nat}(h:q∈ks):KE ks (ks.take j++q::ks.drop j):=fun x _=>by
 constructor
 ·intro h1 k hk
  rcases agk.mp hk with z|z
  ·exact h1 k (agQ z)
  ·rcases agq.mp z with z|z
   ·exact h1 k (z ▸ h)
   ·exact h1 k (mem_of_mem_drop z)
 ·intro h1 k hk
  rw [<- List.take_append_drop j ks] at hk
  rcases agk.mp hk with z|z
  ·exact h1 k (agi _ z)
  ·exact h1 k (agh _ (agp _ z))
theorem qf{α:Type}{l:List α}{i:Nat}{x y:α}(h:y∈l):y∈l.set i x\/l[i]?=some y:=by
 obtain ⟨j,hj,e⟩:=agS h
 by_cases c:i=j
 ·subst c
  right
  rw [agg hj,e]
 ·left
  have:(l.set i x)[j]?=some y:=by rw [getElem?_set_ne c,agg hj,e]
  exact agl this
theorem KE.set{ks:List (List Int×Int)}{i j:Nat}{p q o:List Int×Int}(hi:ks[i]?=some p)(hj:ks[j]?=some o)(Xc:i≠j)(h:∀ x:List Int,x.length=5->VZ o.1 o.2 x->(VZ p.1 p.2 x↔VZ q.1 q.2 x)):KE ks (ks.set i q):=fun x hx=>by
 have NW:=(afX.mp hi).1
 have hjm:o∈ks.set i q:=agl (i:=j) (by rw [getElem?_set_ne Xc];exact hj)
 constructor
 ·intro h1 k hk
  rcases mem_or_eq_of_mem_set hk with z|z
  ·exact h1 k z
  ·rw [z];exact (h x hx (h1 o (agl hj))).mp (h1 p (agl hi))
 ·intro h1 k hk
  rcases qf (i:=i) (x:=q) hk with z|z
  ·exact h1 k z
  ·rw [hi] at z
   cases z
   exact (h x hx (h1 o hjm)).mpr (h1 q (agl (i:=i) (by rw [getElem?_set_self NW])))
theorem KE.R7{ks:List (List Int×Int)}{i:Nat}{p q:List Int×Int}(hi:ks[i]?=some p)(h:∀ x:List Int,x.length=5->(VZ p.1 p.2 x↔VZ q.1 q.2 x)):KE ks (ks.set i q):=fun x hx=>by
 have NW:=(afX.mp hi).1
 constructor
 ·intro h1 k hk
  rcases mem_or_eq_of_mem_set hk with z|z
  ·exact h1 k z
  ·rw [z];exact (h x hx).mp (h1 p (agl hi))
 ·intro h1 k hk
  rcases qf (i:=i) (x:=q) hk with z|z
  ·exact h1 k z
  ·rw [hi] at z
   cases z
   exact (h x hx).mpr (h1 q (agl (i:=i) (by rw [getElem?_set_self NW])))
theorem VZ.add{w v x:List Int}{m n:Int}(lw:w.length=5)(lv:v.length=5)(lx:x.length=5)(hv:m ∣ dt x v*n):VZ w m x↔VZ (low w v n) m x:=by
 unfold VZ
 rw [cW x (low w v n),kM lw lv lx,cW w x,cW v x]
 constructor
 ·intro h;exact dvd_sub h hv
 ·intro h
  have:=Int.dvd_add h hv
  rwa [sub_add_cancel] at this
theorem Eqv.ins{n:Nat}{rs:List (List Int)}{a:List Int}{j:Nat}(h:Span n rs a):Eqv n rs (rs.take j++a::rs.drop j):=by
 refine⟨fun r hr=>Span.mem ?_,fun q hq=>?_⟩
 ·rw [<- List.take_append_drop j rs] at hr
  rcases agk.mp hr with z|z
  ·exact agi _ z
  ·exact agh _ (agp _ z)
 ·rcases agk.mp hq with z|z
  ·exact Span.mem (agQ z)
  ·rcases agq.mp z with z|z
   ·rw [z];exact h
   ·exact Span.mem (mem_of_mem_drop z)
end b7
namespace Gap
structure Sg(P:Int->Int->Prop):Prop where
 add:∀ {n j n' j':Int},P n j->P n' j'->P (n+n') (j+j')
 neg:∀ {n j:Int},P n j->P (-n) (-j)->False
 tot:∀ n j:Int,j≠0->P n j\/P (-n) (-j)
 oct:∀ {n:Int},P n 0->0<n
section
variable {P:Int->Int->Prop}{o:Int->Int}{N:Int}
structure Ch(P:Int->Int->Prop)(o:Int->Int)(N:Int):Prop where
 s:Sg P
 z:o 0=0
 f:∀ j,0<j->j<N->P (o j) j/\P (1 - o j) (-j)
variable (C:Ch P o N)
include C
variable {a b:Int}(a0:0<a)(a1:a<N)(mn:∀ j,0<j->j<N->j≠a->P (o j - o a) (j - a))(b0:0<b)(b1:b<N)(mx:∀ j,0<j->j<N->j≠b->P (o b - o j) (b - j))
include a0 a1 mn in
include a0 a1 mn in
include b0 b1 mx in
include b0 b1 mx in
include a0 a1 mn b0 b1 mx in
include a0 a1 mn b0 b1 mx in
include a0 a1 mn b0 b1 mx in
end
end Gap
namespace Nam
open PySem
def J(c:Nat):List (List Nat)->List Nat
 | []=>[]
 | [x]=>x
 | x::y::r=>x++c::J c (y::r)
end Nam
namespace b7
def yx(q:Nat)(s v:List Int):List Int:=sub (bJ v (s.getD q 0)) (bJ s (v.getD q 0))
theorem gi{q n:Nat}{s v:List Int}(ls:s.length=n)(lv:v.length=n):(yx q s v).length=n:=sub_len (aA lv) (aA ls)
theorem gN{q n:Nat}{s v:List Int}(ls:s.length=n)(lv:v.length=n)(i:Nat):(yx q s v).getD i 0=v.getD i 0*s.getD q 0 - s.getD i 0*v.getD q 0:=by
 rw [yx,bI (aA lv) (aA ls),bg,bg]
theorem D5{q n:Nat}{s v:List Int}(ls:s.length=n)(lv:v.length=n):(yx q s v).getD q 0=0:=by
 rw [gN ls lv,Int.mul_comm,sub_self]
theorem NX{q n e:Nat}{s v:List Int}(ls:s.length=n)(lv:v.length=n)(hs:bf (2 ^ e) s)(hv:bf (2 ^ e) v):bf (2 ^ (2*e+1)) (yx q s v):=fun i=>by
 rw [gN ls lv]
 have h1:(v.getD i 0*s.getD q 0).natAbs<=2 ^ e*2 ^ e:=by rw [agH];exact agw (hv i) (hs q)
 have h2:(s.getD i 0*v.getD q 0).natAbs<=2 ^ e*2 ^ e:=by rw [agH];exact agw (hs i) (hv q)
 have e1:(2:Nat) ^ (2*e+1)=2 ^ e*2 ^ e+2 ^ e*2 ^ e:=by rw [pow_succ,Nat.two_mul,pow_add,Nat.mul_two]
 rw [e1]
 exact af0 (natAbs_sub_le _ _) (add_le_add h1 h2)
theorem Span.yx{n q:Nat}{rs:List (List Int)}{s v:List Int}(ls:s.length=n)(hl:Len n rs)(h:Span n rs v):Span n (rs.map (b7.yx q s)) (b7.yx q s v):=by
 have:=h (fun v=>v.length=n/\Span n (rs.map (b7.yx q s)) (b7.yx q s v)) ⟨⟨aY n,?_⟩,fun a b la lb ha hb=>⟨sub_len la lb,?_⟩⟩ fun r hr=>⟨hl r hr,Span.mem (agr.mpr ⟨r,hr,rfl⟩)⟩
 ·exact this.2
 ·have e:b7.yx q s (jx n)=jx n:=bF (gi ls (aY n)) (aY n) fun i _=>by rw [gN ls (aY n),bU,bU];simp
  rw [e]
  exact Span.zero
 ·have e:b7.yx q s (b7.sub a b)=b7.sub (b7.yx q s a) (b7.yx q s b):=bF (gi ls (sub_len la lb)) (sub_len (gi ls la) (gi ls lb)) fun i _=>by
   rw [gN ls (sub_len la lb),bI (gi ls la) (gi ls lb),gN ls la,gN ls lb,bI la lb,bI la lb,sub_mul,mul_sub]
   lia
  rw [e]
  exact Span.sub (gi ls la) (gi ls lb) ha.2 hb.2
theorem Span.NY{n q:Nat}{rs:List (List Int)}{s v:List Int}(ls:s.length=n)(lv:v.length=n)(hs:Span n rs s)(hv:Span n rs v):Span n rs (b7.yx q s v) :=
 Span.sub (aA lv) (aA ls) (Span.mul lv hv _) (Span.mul ls hs _)
theorem AZ{n:Nat}{x:List Int}(lx:x.length=n):bJ x 1=x:=bF (aA lx) lx fun i _=>by rw [bg,Int.mul_one]
theorem Fl{n:Nat}{x:List Int}(lx:x.length=n)(c d:Int):bJ (bJ x c) d=bJ x (c*d):=bF (aA (aA lx)) (aA lx) fun i _=>by rw [bg,bg,bg,Int.mul_assoc]
theorem NZ{n q e:Nat}{rs:List (List Int)}(hl:Len n rs)(hb:∀ r∈rs,bf (2 ^ e) r):∃ Fm,Len n Fm/\(∀ r∈Fm,Span n rs r)/\(∀ r∈Fm,r.getD q 0=0)/\(∀ i,(∀ r∈rs,r.getD i 0=0)->∀ r∈Fm,r.getD i 0=0)/\(∀ r∈Fm,bf (2 ^ (2*e+1)) r)/\∀ x,x.getD q 0=0->Span n rs x->∃ d:Int,d≠0/\Span n Fm (bJ x d):=by
 by_cases h:∀ r∈rs,r.getD q 0=0
 ·exact⟨rs,hl,fun r hr=>Span.mem hr,h,fun i hi=>hi,fun r hr=>(hb r hr).mono (agt (by decide) (by lia)),fun x _ hx=>⟨1,by decide,by rw [AZ (hx.len hl)];exact hx⟩⟩
 ·obtain ⟨s,h⟩:=Classical.not_forall.mp h
  obtain ⟨hs,h0⟩:=Classical.not_imp.mp h
  have ls:=hl s hs
  refine⟨rs.map (yx q s),fun r hr=>?_,fun r hr=>?_,fun r hr=>?_,fun i hi r hr=>?_,fun r hr=>?_,fun x hx hsx=>⟨s.getD q 0,h0,?_⟩⟩
  ·obtain ⟨v,hv,rfl⟩:=agr.mp hr
   exact gi ls (hl v hv)
  ·obtain ⟨v,hv,rfl⟩:=agr.mp hr
   exact Span.NY ls (hl v hv) (Span.mem hs) (Span.mem hv)
  ·obtain ⟨v,hv,rfl⟩:=agr.mp hr
   exact D5 ls (hl v hv)
  ·obtain ⟨v,hv,rfl⟩:=agr.mp hr
   rw [gN ls (hl v hv),hi v hv,hi s hs]
   simp
  ·obtain ⟨v,hv,rfl⟩:=agr.mp hr
   exact NX ls (hl v hv) (hb s hs) (hb v hv)
  ·have lx:=hsx.len hl
   have ex:bJ x (s.getD q 0)=b7.yx q s x:=bF (aA lx) (gi ls lx) fun i _=>by
    rw [bg,gN ls lx,hx];simp
   rw [ex]
   exact Span.yx ls hl hsx
def eb:Nat->Nat->Nat
 | 0,e=>e
 | k+1,e=>eb k (2*e+1)
theorem Mz:∀ (k e:Nat),e<=eb k e
 | 0,e=>af1 e
 | k+1,e=>by have:=Mz k (2*e+1);rw [eb];lia
theorem D6:∀ {k l e:Nat},k<=l->eb k e<=eb l e
 | 0,l,e,_=>Mz l e
 | k+1,l+1,e,h=>by rw [eb,eb];exact D6 (by lia)
theorem HH{n:Nat}:∀ (qs:List Nat) {rs:List (List Int)} {e:Nat},Len n rs->(∀ r∈rs,bf (2 ^ e) r)->∃ Fm,Len n Fm/\(∀ r∈Fm,Span n rs r)/\(∀ q∈qs,∀ r∈Fm,r.getD q 0=0)/\(∀ i,(∀ r∈rs,r.getD i 0=0)->∀ r∈Fm,r.getD i 0=0)/\(∀ r∈Fm,bf (2 ^ eb qs.length e) r)/\∀ x,(∀ q∈qs,x.getD q 0=0)->Span n rs x->∃ d:Int,d≠0/\Span n Fm (bJ x d)
 | [],rs,e,hl,hb=>⟨rs,hl,fun r hr=>Span.mem hr,(fun _ h=>nomatch h),fun i hi=>hi,hb,fun x _ hx=>⟨1,by decide,by rw [AZ (hx.len hl)];exact hx⟩⟩
 | q::qs,rs,e,hl,hb=>by
  obtain ⟨r1,l1,s1,z1,k1,b1,f1⟩:=NZ (q:=q) hl hb
  obtain ⟨r2,l2,s2,z2,k2,b2,f2⟩:=HH qs l1 b1
  refine⟨r2,l2,fun r hr=>(s2 r hr).of s1,fun p hp r hr=>?_,fun i hi=>k2 i (k1 i hi),b2,fun x hx hs=>?_⟩
  ·rcases agq.mp hp with rfl|hp
   ·exact k2 p z1 r hr
   ·exact z2 p hp r hr
  ·have lx:=hs.len hl
   obtain ⟨d,hd,h1⟩:=f1 x (hx q (.head _)) hs
   obtain ⟨c,hc,h2⟩:=f2 (bJ x d) (fun p hp=>by rw [bg,hx p (.tail _ hp),zero_mul]) h1
   exact⟨d*c,Int.mul_ne_zero hd hc,by rw [<- Fl lx];exact h2⟩
theorem SF.cleared{n k:Nat}:∀ {rs:List (List Int)} {x:List Int},SF rs->Len n rs->x.length=n->x.getD k 0≠0->(∀ u∈rs,u.getD k 0=0)->∃ y,y.length=n/\y.getD k 0≠0/\(∀ u∈rs,∀ j,Led u j->y.getD j 0=0)/\(∀ ts,(∀ u∈rs,Span n ts u)->Span n ts x->Span n ts y)/\∀ i,x.getD i 0=0->(∀ u∈rs,u.getD i 0=0)->y.getD i 0=0
 | [],x,_,_,lx,h0,_=>⟨x,lx,h0,(fun _ h=>nomatch h),fun _ _ h=>h,fun _ h _=>h⟩
 | u::us,x,sf,hl,lx,h0,hk=>by
  obtain ⟨j,hj⟩:=sf.1 u (.head _)
  have lu:=hl u (.head _)
  have lus:Len n us:=fun r hr=>hl r (.tail _ hr)
  have hj0:u.getD j 0≠0:=by have:=hj.1;lia
  obtain ⟨y,ly,y0,yz,ys,yi⟩:=SF.cleared (x:=yx j u x) sf.tail lus (gi lu lx) (by
   rw [gN lu lx,hk u (.head _),zero_mul,Int.sub_zero]
   exact Int.mul_ne_zero h0 hj0) fun r hr=>hk r (.tail _ hr)
  refine⟨y,ly,y0,fun r hr i hi=>?_,fun ts ht hx=>ys ts (fun r hr=>ht r (.tail _ hr)) (Span.NY lu lx (ht u (.head _)) hx),fun i hi hz=>yi i ?_ fun r hr=>hz r (.tail _ hr)⟩
  ·rcases agq.mp hr with rfl|hr
   ·rw [hi.uniq hj]
    exact yi j (D5 lu lx) (sf.vE hj (af1 _))
   ·exact yz r hr i hi
  ·rw [gN lu lx,hi,hz u (.head _)]
   simp
theorem SF.R8{n:Nat}:∀ {rs:List (List Int)} {t:List Int} {k:Nat},SF rs->Len n rs->t∈rs->Led t k->∃ y,Span n rs y/\y.getD k 0≠0/\∀ u∈rs,∀ j,Led u j->j≠k->y.getD j 0=0
 | [],_,_,_,_,h,_=>nomatch h
 | a::rs,t,k,sf,hl,ht,hk=>by
  have la:=hl a (.head _)
  have lr:Len n rs:=fun r hr=>hl r (.tail _ hr)
  obtain ⟨ja,hja⟩:=sf.1 a (.head _)
  rcases agq.mp ht with rfl|Ql
  ·obtain ⟨y,ly,y0,yz,ys,_⟩:=SF.cleared (k:=k) (x:=t) sf.tail lr la (by have:=hk.1;lia) (sf.vE hk (af1 _))
   refine⟨y,ys _ (fun u hu=>Span.mem (.tail _ hu)) (Span.mem (.head _)),y0,fun u hu j hj R9=>?_⟩
   rcases agq.mp hu with rfl|hu
   ·exact absurd (hj.uniq hk) R9
   ·exact yz u hu j hj
  ·obtain ⟨y,ys,y0,yz⟩:=SF.R8 sf.tail lr Ql hk
   refine⟨y,ys.of fun u hu=>Span.mem (.tail _ hu),y0,fun u hu j hj R9=>?_⟩
   rcases agq.mp hu with rfl|hu
   ·exact Span.Hw lr ys (sf.vE hj (af1 _))
   ·exact yz u hu j hj R9
theorem SF.N0{n:Nat}{T:List (List Int)}{v:List Int}(sf:SF T)(hl:Len n T)(h:Span n T v)(h0:∀ u∈T,∀ j,Led u j->v.getD j 0=0):v=jx n :=
 SF.small sf hl h fun r hr k hk=>by rw [h0 r hr k hk];have:=hk.1;lia
theorem SF.spread{n V:Nat}{T:List (List Int)}(sf:SF T)(hl:Len n T):∀ (ps:List (Nat×List Int)) {c:Nat} {v:List Int},Span n T v->(∀ p∈ps,Span n T p.2/\p.2.getD p.1 0≠0/\bf V p.2/\∀ u∈T,∀ j,Led u j->j≠p.1->p.2.getD j 0=0)->(∀ p∈ps,∃ u∈T,Led u p.1)->(∀ u∈T,∀ j,Led u j->(∃ p∈ps,p.1=j)\/v.getD j 0=0)->(∀ p∈ps,(v.getD p.1 0).natAbs<=c*(p.2.getD p.1 0).natAbs)->bf (ps.length*(c*V)) v
 | [],c,v,hv,_,_,h0,_=>fun i=>by
  rw [sf.N0 hl hv fun u hu j hj=>(h0 u hu j hj).elim (fun ⟨_,h,_⟩=>nomatch h) id,bU]
  exact agM _
 | p::ps,c,v,hv,hp,hu,h0,hc=>by
  obtain ⟨sp,p0,pb,pz⟩:=hp p (.head _)
  have lp:=sp.len hl
  have lv:=hv.len hl
  have ih:=SF.spread sf hl ps (c:=c*(p.2.getD p.1 0).natAbs) (v:=yx p.1 p.2 v) (Span.NY lp lv sp hv) (fun q hq=>hp q (.tail _ hq)) (fun q hq=>hu q (.tail _ hq)) (fun u GF j hj=>?_) (fun q hq=>?_)
  ·intro i
   have h1:=ih i
   rw [gN lp lv] at h1
   have xr:0<(p.2.getD p.1 0).natAbs:=by lia
   have h2:(p.2.getD i 0*v.getD p.1 0).natAbs<=V*(c*(p.2.getD p.1 0).natAbs):=by
    rw [agH]
    exact agw (pb i) (hc p (.head _))
   have h3:=natAbs_add_le (v.getD i 0*p.2.getD p.1 0 - p.2.getD i 0*v.getD p.1 0) (p.2.getD i 0*v.getD p.1 0)
   rw [sub_add_cancel,agH] at h3
   refine Nat.le_of_mul_le_mul_right (c:=(p.2.getD p.1 0).natAbs) (af0 h3 (af0 (add_le_add h1 h2) (le_of_eq ?_))) xr
   rw [length_cons,add_mul,add_mul,one_mul]
   congr 1
   ·rw [mul_assoc,mul_assoc,mul_assoc,Nat.mul_comm V]
   ·rw [Nat.mul_comm V,mul_assoc,mul_assoc,Nat.mul_comm V]
  ·by_cases e:j=p.1
   ·right
    rw [e]
    exact D5 lp lv
   ·rcases h0 u GF j hj with ⟨q,hq,z⟩|z
    ·rcases agq.mp hq with rfl|hq
     ·exact absurd z.symm e
     ·exact .inl ⟨q,hq,z⟩
    ·right
     rw [gN lp lv,z,pz u GF j hj e]
     simp
  ·by_cases e:q.1=p.1
   ·rw [e,D5 lp lv]
    exact agM _
   ·obtain ⟨u,GF,hj⟩:=hu q (.tail _ hq)
    rw [gN lp lv,pz u GF q.1 hj e,zero_mul,Int.sub_zero,agH]
    have:=agv (p.2.getD p.1 0).natAbs (hc q (.tail _ hq))
    rw [mul_assoc,Nat.mul_comm (q.2.getD q.1 0).natAbs,<- mul_assoc] at this
    exact this
theorem ub{α β:Type}{R:α->β->Prop}:∀ (l:List α),(∀ a∈l,∃ b,R a b)->∃ bs:List β,bs.length=l.length/\(∀ a∈l,∃ b∈bs,R a b)/\∀ b∈bs,∃ a∈l,R a b
 | [],_=>⟨[],rfl,(fun _ h=>nomatch h),(fun _ h=>nomatch h)⟩
 | a::l,h=>by
  obtain ⟨b,hb⟩:=h a (.head _)
  obtain ⟨bs,h1,h2,h3⟩:=ub l fun x hx=>h x (.tail _ hx)
  refine⟨b::bs,by rw [length_cons,h1,length_cons],fun x hx=>?_,fun y hy=>?_⟩
  ·rcases agq.mp hx with rfl|hx
   ·exact⟨b,.head _,hb⟩
   ·obtain ⟨y,hy,r⟩:=h2 x hx
    exact⟨y,.tail _ hy,r⟩
  ·rcases agq.mp hy with rfl|hy
   ·exact⟨a,.head _,hb⟩
   ·obtain ⟨x,hx,r⟩:=h3 y hy
    exact⟨x,.tail _ hx,r⟩
theorem SF.alone{n k:Nat}{T:List (List Int)}{y:List Int}(sf:SF T)(hl:Len n T)(hy:Span n T y)(y0:y.getD k 0≠0)(yz:∀ u∈T,∀ j,Led u j->j≠k->y.getD j 0=0):∃ u∈T,Led u k/\(u.getD k 0).natAbs<=(y.getD k 0).natAbs:=by
 have ly:=hy.len hl
 obtain ⟨i,_,hi,hz⟩:=Kt ly fun z=>y0 (by rw [z,bU])
 obtain ⟨u,hu,hj,hle⟩:=sf.mJ hl hy hi hz
 by_cases e:i=k
 ·subst e
  exact⟨u,hu,hj,hle⟩
 ·exact absurd (yz u hu i hj e) hi
theorem SF.N1{V:Nat}{T:List (List Int)}(sf:SF T)(hl:Len 5 T)(h:∀ t∈T,∃ p:Nat×List Int,Led t p.1/\Span 5 T p.2/\p.2.getD p.1 0≠0/\bf V p.2/\∀ u∈T,∀ j,Led u j->j≠p.1->p.2.getD j 0=0):∀ t∈T,bf (5*V) t:=fun t ht=>by
 obtain ⟨ps,h1,h2,h3⟩:=ub T h
 have h5:T.length<=5:=SF.count sf fun r hr j hj=>zk (hl r hr) hj
 have:=sf.spread hl (V:=V) ps (c:=1) (Span.mem ht) (fun p hp=>?_) (fun p hp=>?_) (fun u hu j hj=>?_) (fun p hp=>?_)
 ·refine this.mono ?_
  rw [one_mul]
  exact agv _ (by lia)
 ·obtain ⟨a,ha,_,r⟩:=h3 p hp
  exact r
 ·obtain ⟨a,ha,hj,_⟩:=h3 p hp
  exact⟨a,ha,hj⟩
 ·obtain ⟨p,hp,RV,_⟩:=h2 u hu
  exact .inl ⟨p,hp,RV.uniq hj⟩
 ·obtain ⟨a,ha,hj,sp,p0,_,pz⟩:=h3 p hp
  obtain ⟨u,hu,hju,hle⟩:=sf.alone hl sp p0 pz
  have:=sf.qc ht hu hju
  rw [one_mul]
  lia
theorem up3(e:Nat):5*2 ^ e<=2 ^ (e+3):=by
 have h:(2:Nat) ^ (e+3)=8*2 ^ e:=by rw [pow_add,Nat.mul_comm]
 rw [h]
 exact agv _ (by decide)
def mM(T:List (List Int))(k:Nat):List Nat:=(List.range 5).filter fun j=>@decide (j≠k/\∃ u∈T,Led u j) (Classical.propDecidable _)
theorem kN{T:List (List Int)}{k j:Nat}:j∈mM T k↔j<5/\j≠k/\∃ u∈T,Led u j:=by
 unfold mM
 rw [ags,agy,@decide_eq_true_iff]
theorem CI{T:List (List Int)}{k:Nat}(h:k<5):(mM T k).length<=4:=by
 unfold mM
 have h1:=(List.length_filter_lt_length_iff_exists (p:=fun j=>@decide (j≠k/\∃ u∈T,Led u j) (Classical.propDecidable _)) (l:=List.range 5)).mpr ⟨k,agy.mpr h,by simp⟩
 rw [agx] at h1
 lia
theorem SF.D7{b:Nat}{rs T:List (List Int)}(sf:SF T)(hl:Len 5 T)(hr:Len 5 rs)(e:Eqv 5 rs T)(hb:∀ r∈rs,bf (2 ^ b) r):∀ t∈T,bf (2 ^ (16*b+18)) t:=by
 have key:=SF.N1 (V:=2 ^ (16*b+15)) sf hl fun t ht=>?_
 ·refine fun t ht=>(key t ht).mono ?_
  exact up3 (16*b+15)
 ·obtain ⟨k,hk⟩:=sf.1 t ht
  have k5:=zk (hl t ht) hk
  obtain ⟨y,ys,y0,yz⟩:=sf.R8 hl ht hk
  obtain ⟨r2,l2,s2,z2,_,b2,f2⟩:=HH (mM T k) hr hb
  obtain ⟨d,hd,hs⟩:=f2 y (fun q hq=>by
   obtain ⟨_,h2,u,hu,hj⟩:=kN.mp hq
   exact yz u hu q hj h2) (e.symm.span ys)
  have hex:∃ r∈r2,r.getD k 0≠0:=by
   refine Classical.byContradiction fun hn=>?_
   have h0:=Span.Hw (i:=k) l2 hs fun r hr=>Classical.byContradiction fun z=>hn ⟨r,hr,z⟩
   rw [bg] at h0
   exact (agJ.mp h0).elim y0 hd
  obtain ⟨x,hx,x0⟩:=hex
  refine⟨(k,x),hk,e.span (s2 x hx),x0,(b2 x hx).mono (agt (by decide) (af0 (D6 (CI k5)) ?_)),fun u hu j hj R9=>?_⟩
  ·simp only [eb]
   lia
  ·exact z2 j (kN.mpr ⟨zk (hl u hu) hj,R9,u,hu,hj⟩) x hx
def lS(cs:List Int)(vs:List (List Int))(i:Nat):Int:=(List.zipWith (fun c v=>c*v.getD i 0) cs vs).sum
theorem cE{c:Int}{cs:List Int}{v:List Int}{vs:List (List Int)}{i:Nat}:lS (c::cs) (v::vs) i=c*v.getD i 0+lS cs vs i:=by
 unfold lS
 rw [zipWith_cons_cons,sum_cons]
theorem qg{i:Nat}:∀ {k:Nat} {vs:List (List Int)},lS (List.replicate k 0) vs i=0
 | 0,vs=>by simp [lS]
 | k+1,[]=>by simp [lS,List.replicate_succ]
 | k+1,v::vs=>by rw [List.replicate_succ,cE,qg];simp
def MA(n:Nat):List Int->List (List Int)->List Int
 | c::cs,v::vs=>low (MA n cs vs) v (-c)
 | _,_=>jx n
theorem CJ{n:Nat}:∀ {cs:List Int} {vs:List (List Int)},Len n vs->(MA n cs vs).length=n/\Span n vs (MA n cs vs)/\∀ i,(MA n cs vs).getD i 0=lS cs vs i
 | [],vs,_=>⟨aY n,Span.zero,fun i=>by show (jx n).getD i 0=_;rw [bU];simp [lS]⟩
 | c::cs,[],_=>⟨aY n,Span.zero,fun i=>by show (jx n).getD i 0=_;rw [bU];simp [lS]⟩
 | c::cs,v::vs,h=>by
  have lv:=h v (.head _)
  obtain ⟨h1,h2,h3⟩:=CJ (cs:=cs) (vs:=vs) (n:=n) fun r hr=>h r (.tail _ hr)
  refine⟨cq h1 lv,Span.low h1 lv (h2.of fun r hr=>Span.mem (.tail _ hr)) (Span.mem (.head _)) _,fun i=>?_⟩
  show (low (MA n cs vs) v (-c)).getD i 0=_
  rw [cu h1 lv,h3,cE,mul_neg,Int.mul_comm]
  lia
theorem zo{i:Nat}:∀ {cs:List Int} {vs:List (List Int)},(∀ v∈vs,v.getD i 0=0)->lS cs vs i=0
 | [],_,_=>by simp [lS]
 | _::_,[],_=>by simp [lS]
 | c::cs,v::vs,h=>by rw [cE,h v (.head _),zo fun r hr=>h r (.tail _ hr)];simp
def mO(w r:List Int):List Int:=r++[dt r w]
theorem ft{w r:List Int}(l:r.length=5):(mO w r).length=6:=by simp [mO,l]
theorem vP{w r:List Int}(l:r.length=5):(mO w r).take 5=r:=by rw [mO,List.take_append_of_le_length (by lia),agG (by lia)]
theorem kh{w r:List Int}(l:r.length=5):(mO w r).getD 5 0=dt r w:=by rw [mO,List.getD,af4 (by lia),l];rfl
theorem zp{w r:List Int}{i:Nat}(l:r.length=5)(h:i<5):(mO w r).getD i 0=r.getD i 0:=by rw [mO,List.getD,List.getD,af3 (by lia)]
theorem Kx{w a v:List Int}(la:a.length=5)(lv:v.length=6)(h:∀ i,i<5->v.getD i 0=a.getD i 0)(k:v.getD 5 0=dt a w):v=mO w a:=bF lv (ft la) fun i hi=>by
 by_cases c:i<5
 ·rw [h i c,zp la c]
 ·obtain rfl:i=5:=by lia
  rw [k,kh la]
theorem Span.Xd{rs:List (List Int)}{w v:List Int}(lw:w.length=5)(hl:Len 5 rs)(h:Span 6 (rs.map (mO w)) v):v.length=6/\v.getD 5 0=dt (v.take 5) w:=by
 refine h (fun v=>v.length=6/\v.getD 5 0=dt (v.take 5) w) ⟨⟨aY 6,?_⟩,fun a b la lb ha hb=>⟨sub_len la lb,?_⟩⟩ fun r hr=>?_
 ·rw [bU,show (jx 6).take 5=jx 5 from rfl,jT]
 ·rw [bI la lb,ha.2,hb.2,mH,gL (n:=5) (by rw [agA,la];rfl) (by rw [agA,lb];rfl) lw]
 ·obtain ⟨q,hq,rfl⟩:=agr.mp hr
  exact⟨ft (hl q hq),by rw [kh (hl q hq),vP (hl q hq)]⟩
theorem Span.MB{rs:List (List Int)}{w x:List Int}(lw:w.length=5)(hl:Len 5 rs)(h:Span 5 rs x):Span 6 (rs.map (mO w)) (mO w x):=by
 refine (h (fun x=>x.length=5/\Span 6 (rs.map (mO w)) (mO w x)) ⟨⟨aY 5,?_⟩,fun a b la lb ha hb=>⟨sub_len la lb,?_⟩⟩ fun r hr=>⟨hl r hr,Span.mem (agr.mpr ⟨r,hr,rfl⟩)⟩).2
 ·rw [mO,jT];exact Span.zero
 ·have e:mO w (b7.sub a b)=b7.sub (mO w a) (mO w b):=(Kx (sub_len la lb) (sub_len (ft la) (ft lb)) (fun i hi=>by rw [bI (ft la) (ft lb),zp la hi,zp lb hi,bI la lb]) (by rw [bI (ft la) (ft lb),kh la,kh lb,gL la lb lw])).symm
  rw [e]
  exact Span.sub (ft la) (ft lb) ha.2 hb.2
theorem qh{st:List (List Int)}{w:List Int}(hl:Len 5 st):(st.map (mO w)).map (List.take 5)=st:=by
 rw [agE]
 conv=>rhs;rw [<- map_id st]
 exact agF fun r hr=>vP (hl r hr)
theorem vQ{st os ts:List (List Int)}{s w:List Int}{m c:Int}(lw:w.length=5)(hl:Len 5 st)(e:Eqv 6 (st.map (mO w)) (s::os))(ls:s.length=6)(lo:Len 6 os)(h0:∀ v∈os,v.getD 5 0=0)
  (hs:s.getD 5 0≠0) (hc:(m=0/\ts=[])\/(ts=[bJ (s.take 5) c]/\∀ a,m ∣ s.getD 5 0*a↔c ∣ a)) (x:List Int):Span 5 (os.map (List.take 5)++ts) x↔Span 5 st x/\VZ w m x:=by
 have l5:(s.take 5).length=5:=by rw [agA,ls];rfl
 have E3:∀ v,Span 6 (st.map (mO w)) v->Span 5 st (v.take 5):=fun v hv=>by
  have:=Span.take (w:=5) (by decide) hv
  rwa [qh hl] at this
 have Ky:=e.2 s (mem_cons_self ..)
 have hsd:=(Span.Xd lw hl Ky).2
 constructor
 ·intro h
  refine (h (fun x=>x.length=5/\Span 5 st x/\VZ w m x) ⟨⟨aY 5,Span.zero,by rw [VZ,jT];exact agI _⟩,fun a b la lb ha hb=>⟨sub_len la lb,Span.sub la lb ha.2.1 hb.2.1,by rw [VZ,gL la lb lw];exact dvd_sub ha.2.2 hb.2.2⟩⟩ fun r hr=>?_).2
  rcases agk.mp hr with z|z
  ·obtain ⟨v,hv,rfl⟩:=agr.mp z
   have hve:=e.2 v (agp _ hv)
   refine⟨by rw [agA,lo v hv];rfl,E3 v hve,?_⟩
   rw [VZ,<- (Span.Xd lw hl hve).2,h0 v hv]
   exact agI _
  ·rcases hc with ⟨_,rfl⟩|⟨rfl,hc⟩
   ·cases z
   ·rw [agj.mp z]
    refine⟨aA l5,Span.mul l5 (E3 s Ky) _,?_⟩
    rw [VZ,mK l5 lw,<- hsd]
    exact (hc c).mpr (dvd_refl _)
 ·rintro ⟨h,hv⟩
  have lx:=h.len hl
  obtain ⟨a,_,ha⟩:=Span.cons ls lo (e.span (Span.MB lw hl h))
  have hz:=Span.Hw (i:=5) lo ha h0
  rw [cu (ft lx) ls,kh lx] at hz
  have hd:dt x w=s.getD 5 0*a:=by lia
  have ht:=Span.take (w:=5) (by decide) ha
  have et:(low (mO w x) s a).take 5=low x (s.take 5) a:=by
   rw [low,mH,vP lx,low]
   congr 1
   simp [bJ,map_take]
  rw [et] at ht
  rw [VZ,hd] at hv
  rcases hc with ⟨rfl,rfl⟩|⟨rfl,hc⟩
  ·have ha0:a=0:=(agJ.mp (agK.mp hv)).resolve_left hs
   subst ha0
   have ex:low x (s.take 5) 0=x:=bF (cq lx l5) lx fun i _=>by rw [cu lx l5];lia
   rw [ex] at ht
   exact ht.app
  ·obtain ⟨b,hb⟩:=(hc a).mp hv
   have ex:low x (s.take 5) a=low x (bJ (s.take 5) c) b:=bF (cq lx l5) (cq lx (aA l5)) fun i _=>by rw [cu lx l5,cu lx (aA l5),bg,hb,Int.mul_assoc]
   rw [ex] at ht
   exact Span.AS lx (aA l5) ht.app (Span.mem (agh _ (agj.mpr rfl)))
theorem yy{st os:List (List Int)}{w:List Int}{m:Int}(lw:w.length=5)(hl:Len 5 st)(e:Eqv 6 (st.map (mO w)) os)(lo:Len 6 os)(h0:∀ v∈os,v.getD 5 0=0)(x:List Int):Span 5 (os.map (List.take 5)) x↔Span 5 st x/\VZ w m x:=by
 have e5:=Eqv.take (w:=5) (by decide) e
 rw [qh hl] at e5
 have hz:∀ x,Span 5 st x->dt x w=0:=fun x hx=>by
  rw [<- kh (w:=w) (hx.len hl)]
  exact Span.Hw (i:=5) lo (e.span (Span.MB lw hl hx)) h0
 exact⟨fun h=>⟨e5.symm.span h,by rw [VZ,hz x (e5.symm.span h)];exact agI _⟩,fun h=>e5.span h.1⟩
theorem yA{m s:Int}(hm:m≠0)(a:Int):m ∣ s*a↔m / (Int.gcd m s:Int) ∣ a:=by
 obtain ⟨u,hu⟩:=gcd_dvd_left m s
 obtain ⟨v,hv⟩:=gcd_dvd_right m s
 generalize hgd:Int.gcd m s=g at hu hv
 have hg:(g:Int)≠0:=fun z=>hm (by rw [hu,z,zero_mul])
 subst hu
 subst hv
 rw [Int.mul_ediv_cancel_left _ hg]
 have huv:Int.gcd u v=1:=by
  rw [Int.gcd_mul_left,Int.natAbs_natCast] at hgd
  exact Nat.eq_of_mul_eq_mul_left (show 0<g by lia) (by lia)
 rw [Int.mul_assoc,Int.mul_dvd_mul_iff_left hg]
 constructor
 ·intro h
  have h2:=Int.natAbs_dvd_natAbs.mpr h
  rw [agH] at h2
  exact Int.natAbs_dvd_natAbs.mp (Nat.Coprime.dvd_of_dvd_mul_left (m:=v.natAbs) huv h2)
 ·exact fun h=>Int.dvd_mul_of_dvd_right h
theorem HI{p q:Int}:Int.gcd q (p.fmod q)=Int.gcd p q:=by
 have e:p.fmod q+q*p.fdiv q=p:=Int.fmod_add_mul_fdiv p q
 apply Nat.dvd_antisymm
 ·refine Int.natCast_dvd_natCast.mp (Int.dvd_coe_gcd ?_ (gcd_dvd_left ..))
  have:=Int.dvd_add (gcd_dvd_right q (p.fmod q)) (Int.dvd_mul_of_dvd_left (c:=p.fdiv q) (gcd_dvd_left q (p.fmod q)))
  rw [e] at this
  exact this
 ·refine Int.natCast_dvd_natCast.mp (Int.dvd_coe_gcd (gcd_dvd_right ..) ?_)
  have h:p.fmod q=p - q*p.fdiv q:=by lia
  rw [h]
  exact dvd_sub (gcd_dvd_left ..) (Int.dvd_mul_of_dvd_left (gcd_dvd_right ..))
def qi(vs:List (List Int)):Prop:=∀ cs:List Int,cs.length=vs.length->(∀ i,lS cs vs i=0)->∀ c∈cs,c=0
theorem D8{i:Nat}:∀ {cs ds:List Int} {vs:List (List Int)},cs.length=vs.length->ds.length=vs.length->lS (List.zipWith (· - ·) cs ds) vs i=lS cs vs i - lS ds vs i
 | [],[],[],_,_=>rfl
 | [],_::_,[],_,h=>by simp at h
 | [],_,_::_,h,_=>by simp at h
 | _::_,_,[],h,_=>by simp at h
 | _::_,[],_::_,_,h=>by simp at h
 | c::cs,d::ds,v::vs,h,k=>by
  rw [zipWith_cons_cons,cE,cE,cE,D8 (by simpa using h) (by simpa using k),sub_mul]
  lia
theorem D9{i:Nat}{c:Int}:∀ {x a:List Int} {vs:List (List Int)},x.length=vs.length->a.length=vs.length->lS (low x a c) vs i=lS x vs i - c*lS a vs i
 | [],[],[],_,_=>by simp [lS,low,sub]
 | [],_::_,[],_,h=>by simp at h
 | [],_,_::_,h,_=>by simp at h
 | _::_,_,[],h,_=>by simp at h
 | _::_,[],_::_,_,h=>by simp at h
 | y::x,d::a,v::vs,h,k=>by
  show lS ((y - d*c)::low x a c) (v::vs) i=_
  rw [cE,cE,cE,D9 (by simpa using h) (by simpa using k),sub_mul,Int.mul_add,Int.mul_comm d c,Int.mul_assoc]
  lia
theorem Ea{r:List Int}:∀ {us:List (List Int)},r∈us->∃ cs:List Int,cs.length=us.length/\∀ i,r.getD i 0=lS cs us i
 | u::us,h=>by
  rcases agq.mp h with rfl|h
  ·exact⟨1::List.replicate us.length 0,by simp,fun i=>by rw [cE,qg];lia⟩
  ·obtain ⟨cs,h1,h2⟩:=Ea h
   exact⟨0::cs,by simp [h1],fun i=>by rw [cE,h2 i];lia⟩
theorem Span.rep{n:Nat}{us:List (List Int)}{v:List Int}(hl:Len n us)(h:Span n us v):∃ cs:List Int,cs.length=us.length/\∀ i,v.getD i 0=lS cs us i:=by
 refine (h (fun v=>v.length=n/\∃ cs:List Int,cs.length=us.length/\∀ i,v.getD i 0=lS cs us i) ⟨⟨aY n,List.replicate us.length 0,by simp,fun i=>by rw [bU,qg]⟩,fun a b la lb ha hb=>⟨sub_len la lb,?_⟩⟩ fun r hr=>⟨hl r hr,Ea hr⟩).2
 obtain ⟨_,cs,h1,h2⟩:=ha
 obtain ⟨_,ds,h3,h4⟩:=hb
 exact⟨List.zipWith (· - ·) cs ds,by rw [List.length_zipWith];lia,fun i=>by rw [D8 h1 h3,bI la lb,h2,h4]⟩
theorem Kz{i m:Nat}{us:List (List Int)}:lS (jx m) us i=0:=by
 have:jx m=List.replicate m 0:=by simp [jx]
 rw [this,qg]
theorem Sa{n:Nat}{us:List (List Int)}(hl:Len n us):∀ {vs:List (List Int)},(∀ v∈vs,Span n us v)->∃ A:List (List Int),A.length=vs.length/\Len us.length A/\∀ cs,cs.length=vs.length->∀ i,lS (MA us.length cs A) us i=lS cs vs i
 | [],_=>⟨[],rfl,(fun _ z=>nomatch z),fun cs hc i=>by
  match cs,hc with
  | [],_=>exact Kz⟩
 | v::vs,h=>by
  obtain ⟨a,ha,hv⟩:=Span.rep hl (h v (.head _))
  obtain ⟨A,h1,h2,h3⟩:=Sa hl (vs:=vs) fun r hr=>h r (.tail _ hr)
  refine⟨a::A,by simp [h1],fun r hr=>(agq.mp hr).elim (fun z=>by rw [z,ha]) (h2 r),fun cs hc i=>?_⟩
  match cs,hc with
  | c::cs,hc =>
   show lS (low (MA us.length cs A) a (-c)) us i=_
   rw [D9 (CJ h2).1 ha,h3 cs (by simpa using hc),cE,hv]
   rw [Int.neg_mul]
   lia
theorem qi.tail{s:List Int}{os:List (List Int)}(h:qi (s::os)):qi os:=fun cs hc hz=>fun c hx=>h (0::cs) (by simp [hc]) (fun i=>by rw [cE,hz i];lia) c (.tail _ hx)
theorem A0{i:Nat}{e:Int}{t:List Int}:∀ {ds:List Int} {os:List (List Int)},ds.length=os.length->lS (ds++[e]) (os++[t]) i=lS ds os i+e*t.getD i 0
 | [],[],_=>by simp [lS]
 | [],_::_,h=>by simp at h
 | _::_,[],h=>by simp at h
 | d::ds,o::os,h=>by
  show lS (d::(ds++[e])) (o::(os++[t])) i=_
  rw [cE,cE,A0 (by simpa using h)]
  lia
theorem qi.back{s:List Int}{os:List (List Int)}{c:Int}(h:qi (s::os))(h0:c≠0):qi (os++[bJ s c]):=fun cs hc hz=>by
 obtain ⟨ds,e,rfl⟩:∃ ds e,cs=ds++[e]:=by
  rcases List.eq_nil_or_concat cs with z|⟨ds,e,z⟩
  ·rw [z] at hc;simp at hc
  ·exact⟨ds,e,by rw [z,List.concat_eq_append]⟩
 have hd:ds.length=os.length:=by simpa using hc
 have:=h ((e*c)::ds) (by simp [hd]) fun i=>by
  have:=hz i
  rw [A0 hd,bg] at this
  rw [cE,Int.mul_assoc,Int.mul_comm c]
  lia
 intro x hx
 rcases agk.mp hx with z|z
 ·exact this x (.tail _ z)
 ·rw [agj.mp z]
  exact (agJ.mp (this _ (.head _))).resolve_right h0
theorem zq{i:Nat}{f:List Int->List Int}:∀ {cs:List Int} {vs:List (List Int)},(∀ v∈vs,(f v).getD i 0=v.getD i 0)->lS cs (vs.map f) i=lS cs vs i
 | [],vs,_=>by simp [lS]
 | c::cs,[],_=>by simp [lS]
 | c::cs,v::vs,h=>by
  rw [map_cons,cE,cE,h v (.head _),zq fun r hr=>h r (.tail _ hr)]
theorem HJ{v:List Int}{i n:Nat}(h:v.length=n)(hi:n<=i):v.getD i 0=0:=by
 rw [List.getD,getElem?_eq_none (by lia)]
 rfl
theorem qi.hd{st:List (List Int)}{w:List Int}(hl:Len 5 st)(h:qi st):qi (st.map (mO w)):=fun cs hc hz=>h cs (by simpa using hc) fun i=>by
 by_cases c:i<5
 ·rw [<- zq (f:=mO w) fun v hv=>zp (hl v hv) c];exact hz i
 ·exact zo fun v hv=>HJ (hl v hv) (by lia)
theorem Eb{v:List Int}{i n:Nat}(h:i<n):(v.take n).getD i 0=v.getD i 0:=by
 rw [List.getD,List.getElem?_take_of_lt h,List.getD]
theorem qi.Mx{st us:List (List Int)}{w:List Int}(lw:w.length=5)(hl:Len 5 st)(hu:Len 6 us)(hf:qi us)(h:∀ u∈us,Span 6 (st.map (mO w)) u):qi (us.map (List.take 5)):=fun cs hc hz=>by
 have Cj:cs.length=us.length:=by simpa using hc
 obtain ⟨h1,h2,h3⟩:=CJ (cs:=cs) hu
 have h5:=(Span.Xd lw hl (h2.of h)).2
 have Sb:∀ i,i<5->lS cs us i=0:=fun i hi=>by rw [<- zq (f:=List.take 5) fun v _=>Eb hi];exact hz i
 have ez:(MA 6 cs us).take 5=jx 5:=bF (by rw [agA,h1];rfl) (aY 5) fun i hi=>by rw [Eb hi,h3,bU,Sb i hi]
 rw [ez,jT,h3] at h5
 refine hf cs Cj fun i=>?_
 rcases (show i<5\/i=5\/6<=i by lia) with z|z|z
 ·exact Sb i z
 ·rw [z];exact h5
 ·exact zo fun v hv=>HJ (hu v hv) z
theorem qi.units:qi eK:=fun cs hc hz=>by
 obtain ⟨a,b,c,d,e,rfl⟩:=nM (show cs.length=5 from hc)
 have h0:=hz 0
 have h1:=hz 1
 have h2:=hz 2
 have h3:=hz 3
 have h4:=hz 4
 simp [lS,eK,bW] at h0 h1 h2 h3 h4
 simp [h0,h1,h2,h3,h4]
end b7
namespace L2
open PySem PySem.Spec PyProof.Rows
def Ec(K:Frag)(a:Addr)(xs:List V):Prop:=∀ H,aZ K H a xs
theorem Ec.at{K:Frag}{a:Addr}{xs:List V}{H:Hp}(h:Ec K a xs):aZ K H a xs:=h H
theorem aj.lst{H H':Hp}{a:Addr}{xs:List V}(e:aj H H')(h:H a=some (.lst xs)):H' a=some (.lst xs):=e _ _ h
theorem aj.cw{H H2:Hp}{l:Addr}{o:HO}(s:aj H H2)(h:H l=none):aj H (upd H2 l o):=fun b u e=>by
 rw [aG (bE e h)];exact s _ _ e
def Sd:V->Hp->(Bool->Hp->Prop)->Prop:=fun x H R=>∃ c,x=.bl c/\R c H
def Se:V->Hp->(Option Int->Hp->Prop)->Prop:=fun x H R=>∃ i,x=.int i/\R (some i) H
def MC:List V->Hp->VK->Prop:=fun xs H Q=>xs.length<=sizeLine/\∀ p,H p=none->Q (.ref p) (upd H p (.tup xs))
def MD:List V->Hp->VK->Prop:=fun xs H Q=>xs.length<=sizeLine/\∀ p,H p=none->Q (.ref p) (upd H p (.lst xs))
def KA(K:Frag):List V->Hp->VK->Prop:=fun xs H Q=>∃ p ys,xs=[.ref p]/\(aW K H p ys\/aZ K H p ys)/\Q (.int ys.length) H
def vR(K:Frag):List V->Hp->VK->Prop:=fun xs H Q=>∃ p ys,xs=[.ref p]/\((aW K H p ys/\∀ l,H l=none->Q (.ref l) (upd H l (.tup ys)))\/(aZ K H p ys/\Q (.ref p) H))
def u5(K:Frag):List V->Hp->VK->Prop:=fun xs H Q=>∃ p ys,xs=[.ref p]/\(aW K H p ys\/aZ K H p ys)/\∀ l,H l=none->Q (.ref l) (upd H l (.lst ys))
def qj(K:Frag):List V->Hp->VK->Prop:=fun xs H Q=>∃ x n t b,xs=[x,.ty n]/\TyR K H x t/\kitOne K t (.type n)=some b/\Q (.bl b) H
def Sf:List V->Hp->VK->Prop:=fun xs H Q=>∃ i,xs=[.int i]/\Q (.int (if i<0 then -i else i)) H
def Sh:List V->Hp->VK->Prop:=fun xs H Q=>∃ i j,xs=[.int i,.int j]/\Q (.int (if j > i then j else i)) H
def ME:List V->Hp->VK->Prop:=fun xs H Q=>(∃ i,xs=[.int i]/\Q (.int i) H)\/∃ k,xs=[.bl k]/\Q (.int (if k then 1 else 0)) H
def Si(K:Frag):V->Hp->(It->Hp->Prop)->Prop:=fun x H R=>∃ a,x=.ref a/\(∃ xs,aW K H a xs)/\R (JK K a) H
def Sj(K:Frag):V->Hp->(It->Hp->Prop)->Prop:=fun x H R=>∃ a,x=.ref a/\(∃ xs,aZ K H a xs)/\R (Qi K a) H
def Sk:List V->Hp->(It->Hp->Prop)->Prop:=fun vs H R=>∃ j:Int,vs=[.int j]/\-(2 ^ 62)<=j/\j<2 ^ 62/\R (Gx 0 j.toNat) H
def Sl(K:Frag)(k1 k2:Bool):List V->Hp->(It->Hp->Prop)->Prop:=fun vs H R=>∃ a b,vs=[.ref a,.ref b]/\(∃ xs,Sq k1 K H a xs)/\(∃ ys,Sq k2 K H b ys)/\R (Kp K k1 k2 a b) H
def HK(K:Frag)(T:String)(ts:TA)(r:V->List V->Hp->VK->Prop)(σ:St)(Q:VK):V->Hp->Prop:=fun x H1=>Vv K T x H1/\ts σ H1 fun xs H2=>r x xs H2 Q
def nN(g:TG)(tb:TS)(D:Ends)(J:It)(σ:St)(H:Hp):Prop:=∃ W:Nat->Nat->St->Hp->Prop,(∃ m,W 0 m σ H)/\∀ i m σ H,W i m σ H ->
 (J.stop i H/\D.nx σ H)\/(J.go i H/\∃ N:St->Hp->Prop,(∀ σ' H',N σ' H'->∃ m',m'<m/\W (i+1) m' σ' H')/\∀ x H',J.J6 i H x H'->g x σ H' fun σ2 H2=>tb { D with nx:=N,ct:=N,bk:=D.nx } σ2 H2)
section
variable {X:Cx}
theorem Fo:dU X (.builtin "len") (KA X.K):=y9
theorem A1:dU X (.type "tuple") (vR X.K):=xo
theorem CK:dU X (.type "list") (u5 X.K):=zc
theorem zr:dU X (.builtin "isinstance") (qj X.K):=AO
theorem ki:dU X (.builtin "abs") Sf:=G2
theorem Fp (hc:X.calm=true):dU X (.builtin "max") Sh:=EU hc
theorem sh:dU X (.type "int") ME:=EV
end
section
variable {t u:TS}{D:Ends}{σ:St}{H:Hp}{te ta tb:TE}{g:TG}{tt tu:TT}{Q:VK}{i j:Int}{x y v w:V}{K:Frag}
theorem Sm(h:t { D with nx:=u D } σ H):Q1 t u D σ H:=h
theorem Sn(h:te σ H fun x H1=>g x σ H1 D.nx):GW te g D σ H:=h
theorem KD{n:Nat}{R:St->Hp->Prop}(h:R (σ.set n (some v)) H):cO n v σ H R:=h
theorem So(h:te σ H D.rt):Q2 te D σ H:=h
theorem N2(h:te σ H fun _ H1=>D.nx σ H1):Mb te D σ H:=h
theorem N3(h:D.nx σ H):Ma D σ H:=h
theorem Sr{c:TT}(h:c σ H fun b H1=>if b=true then t D σ H1 else u D σ H1):Q3 c t u D σ H:=h
theorem A2{n:Nat}(e:σ[n]?=some (some v))(h:Q v H):yX n σ H Q:=⟨v,e,h⟩
theorem r_c(h:Q v H):tC v σ H Q:=h
theorem Xe{r:R2}(h:ta σ H fun x H1=>tb σ H1 fun y H2=>r x y H2 Q):Mf r ta tb σ H Q:=h
theorem Xf{r:V->Hp->VK->Prop}(h:ta σ H fun x H1=>r x H1 Q):tUn r ta σ H Q:=h
theorem r_b{R:Bool->Hp->Prop}(h:te σ H fun x H1=>Sd x H1 R):tB te σ H R:=h
theorem N4{R:Bool->Hp->Prop}(h:te σ H fun x H1=>Sd x H1 R):Mi te σ H R:=h
theorem N5{b:Bool}{R:Bool->Hp->Prop}(h:R b H):Sd (.bl b) H R:=⟨b,rfl,h⟩
theorem Ss{R:Bool->Hp->Prop}(h:tt σ H fun c H1=>if c=true then tu σ H1 R else R false H1):QZ tt tu σ H R:=h
theorem Xg{R:Bool->Hp->Prop}(h:tt σ H fun c H1=>if c=true then R true H1 else tu σ H1 R):tOr tt tu σ H R:=h
theorem Su{R:Bool->Hp->Prop}(h:tt σ H fun c H1=>R (!c) H1):Q0 tt σ H R:=h
theorem N6(h:ta σ H fun x H1=>Sd x H1 fun c H2=>if c=true then tb σ H2 Q else Q (.bl false) H2):L8 ta tb σ H Q:=h
theorem N7(h:ta σ H fun x H1=>Sd x H1 fun c H2=>Q (.bl (!c)) H2):L9 ta σ H Q:=h
theorem Sv(h:tt σ H fun c H1=>if c=true then ta σ H1 Q else tb σ H1 Q):tIf tt ta tb σ H Q:=h
theorem Xh{f:Int->Int->V}(h:Q (f i j) H):Mg f (.int i) (.int j) H Q:=⟨i,j,rfl,rfl,h⟩
theorem r_I{C:Int->Int->Prop}{f:Int->Int->V}(c:C i j)(h:Q (f i j) H):rI C f (.int i) (.int j) H Q:=⟨i,j,rfl,rfl,c,h⟩
theorem r_U{f:Int->V}(h:Q (f i) H):rU f (.int i) H Q:=⟨i,rfl,h⟩
theorem Sw{i j:Int}:decide (V.int i=V.int j)=decide (i=j):=by
 by_cases e:i=j
 ·subst e;simp
 ·rw [af9 e];exact af9 fun z=>e (by injection z)
theorem Xi{i j:Bool}:decide (V.bl i=V.bl j)=decide (i=j):=by
 by_cases e:i=j
 ·subst e;simp
 ·rw [af9 e];exact af9 fun z=>e (by injection z)
theorem Sx(h:Q (.bl (decide (i=j))) H):WL (.int i) (.int j) H Q:=⟨rfl,by rw [Sw];exact h⟩
theorem Sy(h:Q (.bl (!decide (i=j))) H):rNe (.int i) (.int j) H Q:=⟨rfl,by rw [Sw];exact h⟩
theorem Sz{b c:Bool}(h:Q (.bl (decide (b=c))) H):WL (.bl b) (.bl c) H Q:=⟨rfl,by rw [Xi];exact h⟩
theorem SA{R:List V->Hp->Prop}(h:R [] H):vt σ H R:=h
theorem N8{ts:TA}{R:List V->Hp->Prop}(h:te σ H fun x H1=>ts σ H1 fun xs H2=>R (x::xs) H2):AD te ts σ H R:=h
theorem SD{ts:TA}(h:ts σ H fun xs H1=>MC xs H1 Q):Rf ts σ H Q:=h
theorem SE{ts:TA}(h:ts σ H fun xs H1=>MD xs H1 Q):Rg ts σ H Q:=h
theorem N9{xs:List V}(hl:xs.length<=1000)(h:∀ p H2,aj H H2->H2 p=some (.tup xs)->Q (.ref p) H2):MC xs H Q :=
 ⟨af2 (eI hl),fun p hp=>h p _ (aj.cM hp) aw⟩
theorem Oa{xs:List V}(hl:xs.length<=1000)(h:∀ p H2,H p=none->aj H H2->H2 p=some (.lst xs)->Q (.ref p) H2):MD xs H Q :=
 ⟨af2 (eI hl),fun p hp=>h p _ hp (aj.cM hp) aw⟩
theorem Xj{r:List V->Hp->VK->Prop}{ts:TA}(h:ts σ H fun vs H1=>r vs H1 Q):WO r ts σ H Q:=h
theorem Ob{ix:List (Option Nat)}{wi:TI}(h:wi σ H fun J H1=>bR ix g tt te σ Q J H1):DZ ix wi g tt te σ H Q:=h
theorem Xk{r:V->Option Int->Option Int->Hp->VK->Prop}{tl th:TO}(h:te σ H fun x H1=>tl σ H1 fun l H2=>th σ H2 fun u H3=>r x l u H3 Q):tSl r te tl th σ H Q:=h
theorem HL{R:Option Int->Hp->Prop}(h:R none H):DX σ H R:=h
theorem Oc{R:Option Int->Hp->Prop}(h:te σ H fun x H1=>Se x H1 R):Mj te σ H R:=h
theorem KG{R:Option Int->Hp->Prop}(h:R (some i) H):Se (.int i) H R:=⟨i,rfl,h⟩
theorem Xl{T:String}{r:V->List V->Hp->VK->Prop}{ts:TA}(h:te σ H fun x H1=>HK K T ts r σ Q x H1):tBM K T r te ts σ H Q:=h
theorem SG{wi:TI}{tb:TS}(h:wi σ H fun J H1=>nN g tb D J σ H1):Q8 wi g tb D σ H:=h
theorem KH{R:It->Hp->Prop}(h:te σ H fun x H1=>Si K x H1 R):GY K te σ H R:=h
theorem Od{R:It->Hp->Prop}(h:te σ H fun x H1=>Sj K x H1 R):Nh K te σ H R:=h
theorem Oe{ts:TA}{R:It->Hp->Prop}(h:ts σ H fun vs H1=>Sk vs H1 R):Md ts σ H R:=h
theorem Of{k1 k2:Bool}{ts:TA}{R:It->Hp->Prop}(h:ts σ H fun vs H1=>Sl K k1 k2 vs H1 R):Hv K k1 k2 ts σ H R:=h
theorem SH{a:Addr}{xs:List V}{R:It->Hp->Prop}(e:aW K H a xs)(h:R (JK K a) H):Si K (.ref a) H R:=⟨a,rfl,⟨_,e⟩,h⟩
theorem SI{a:Addr}{xs:List V}{R:It->Hp->Prop}(e:aZ K H a xs)(h:R (Qi K a) H):Sj K (.ref a) H R:=⟨a,rfl,⟨_,e⟩,h⟩
theorem SK{R:It->Hp->Prop}(h1:-1000000<=j)(h2:j<=1000000)(h:R (Gx 0 j.toNat) H):Sk [.int j] H R:=⟨j,rfl,by lia,by lia,h⟩
theorem SM{k1 k2:Bool}{a b:Addr}{xs ys:List V}{R:It->Hp->Prop}(e1:Sq k1 K H a xs)(e2:Sq k2 K H b ys)(h:R (Kp K k1 k2 a b) H):Sl K k1 k2 [.ref a,.ref b] H R:=⟨a,b,rfl,⟨_,e1⟩,⟨_,e2⟩,h⟩
theorem iz{a:Addr}{xs:List V}(h:aZ K H a xs):Sq true K H a xs:=h
theorem d3{a:Addr}{xs:List V}(e:aZ K H a xs)(n:t6 xs i=some v)(h:Q v H):Vu K (.ref a) (.int i) H Q:=.inr (.inl ⟨a,xs,i,v,rfl,rfl,e,n,h⟩)
theorem bK{a:Addr}{xs:List V}(e:aW K H a xs)(n:t6 xs i=some v)(h:Q v H):Vu K (.ref a) (.int i) H Q:=.inl ⟨a,xs,i,v,rfl,rfl,e,n,h⟩
theorem Og{a:Addr}{xs:List V}(e:aZ K H a xs)(h:Q (.int xs.length) H):KA K [.ref a] H Q:=⟨a,xs,rfl,.inr e,h⟩
theorem Oh{a:Addr}{xs:List V}(e:aW K H a xs)(h:Q (.int xs.length) H):KA K [.ref a] H Q:=⟨a,xs,rfl,.inl e,h⟩
theorem HM{a:Addr}{xs:List V}(e:aW K H a xs)(h:∀ p H2,aj H H2->H2 p=some (.tup xs)->Q (.ref p) H2):vR K [.ref a] H Q :=
 ⟨a,xs,rfl,.inl ⟨e,fun p hp=>h p _ (aj.cM hp) aw⟩⟩
theorem KI{a:Addr}{xs:List V}(e:aW K H a xs)(h:∀ p H2,H p=none->aj H H2->H2 p=some (.lst xs)->Q (.ref p) H2):u5 K [.ref a] H Q:=⟨a,xs,rfl,.inl e,fun p hp=>h p _ hp (aj.cM hp) aw⟩
theorem KJ{a:Addr}{xs:List V}(e:aZ K H a xs)(h:∀ p H2,H p=none->aj H H2->H2 p=some (.lst xs)->Q (.ref p) H2):u5 K [.ref a] H Q:=⟨a,xs,rfl,.inr e,fun p hp=>h p _ hp (aj.cM hp) aw⟩
theorem SN(h:Q (.int (if i<0 then -i else i)) H):Sf [.int i] H Q:=⟨i,rfl,h⟩
theorem SO(h:Q (.int (if j > i then j else i)) H):Sh [.int i,.int j] H Q:=⟨i,j,rfl,h⟩
theorem KL{b:Bool}(h:Q (.int (if b then 1 else 0)) H):ME [.bl b] H Q:=.inr ⟨b,rfl,h⟩
theorem KN{T:String}{ts:TA}{r:V->List V->Hp->VK->Prop}(e:Vv K T x H)(h:ts σ H fun xs H2=>r x xs H2 Q):HK K T ts r σ Q x H:=⟨e,h⟩
theorem dn{l:Addr}{xs:List V}(e:H l=some (.lst xs))(n:xs.length<=1000)(h:Q .fw (upd H l (.lst (xs++[y])))):DY (.ref l) [y] H Q:=⟨l,xs,y,rfl,rfl,e,eI n,h⟩
theorem yB{a b:Addr}{xs ys:List V}(e1:H a=some (.lst xs))(e2:H b=some (.lst ys))(n:xs.length+ys.length<=1000)(h:∀ p H2,H p=none->aj H H2->H2 p=some (.lst (xs++ys))->Q (.ref p) H2):Ru (.ref a) (.ref b) H Q :=
 ⟨a,b,xs,ys,rfl,rfl,e1,e2,af2 (eI n),fun p hp=>h p _ hp (aj.cM hp) aw⟩
theorem zt{a b:Addr}{xs ys:List V}(e1:aZ K H a xs)(e2:aZ K H b ys)(n1:xs≠[])(n2:ys≠[])(n:xs.length+ys.length<=1000)(h:∀ p H2,aj H H2->H2 p=some (.tup (xs++ys))->Q (.ref p) H2):Hf K (.ref a) (.ref b) H Q :=
 ⟨a,b,xs,ys,rfl,rfl,e1,e2,n1,af2 (eI n),fun z=>absurd z n2,fun _ p hp=>h p _ (aj.cM hp) aw⟩
theorem og{a:Addr}{xs:List V}{lo hi:Option Int}(e:aW K H a xs)(h:∀ p H2,H p=none->aj H H2->H2 p=some (.lst (iQ xs lo hi))->Q (.ref p) H2):Kj K (.ref a) lo hi H Q :=
 ⟨a,xs,rfl,e,fun p hp=>h p _ hp (aj.cM hp) aw⟩
theorem Oi {a:Addr} {xs:List V} {n:String} {b:Bool} (e:aZ K H a xs) (k:kitOne K (.type "tuple") (.type n)=some b) (h:Q (.bl b) H):qj K [.ref a,.ty n] H Q:=⟨_,n,_,b,rfl,.inr (.inl ⟨a,xs,rfl,e,rfl⟩),k,h⟩
theorem Oj {n:String} {b:Bool} (k:kitOne K (.type "int") (.type n)=some b) (h:Q (.bl b) H):qj K [.int i,.ty n] H Q:=⟨_,n,_,b,rfl,.inl (.int _),k,h⟩
theorem Ol {c:Bool} {n:String} {b:Bool} (k:kitOne K (.type "bool") (.type n)=some b) (h:Q (.bl b) H):qj K [.bl c,.ty n] H Q:=⟨_,n,_,b,rfl,.inl (.bl _),k,h⟩
end
theorem yC{c:Bool}{A B:Prop}(e:c=true)(h:A):if c=true then A else B:=by rw [if_pos e];exact h
theorem gj{c:Bool}{A B:Prop}(e:c=false)(h:B):if c=true then A else B:=by rw [e];exact Hj h
theorem aX{c:Bool}{A B:Prop}(h1:c=true->A)(h2:c=false->B):if c=true then A else B:=by
 cases c with
 | true=>exact NK (h1 rfl)
 | false=>exact Hj (h2 rfl)
section
variable {t u:TS}{D:Ends}{σ:St}{H:Hp}{te ta tb:TE}{g:TG}{tt tu:TT}{Q:VK}{i j:Int}{x y v w:V}{K:Frag}{X:Cx}
theorem KO{sp:Sp}{E:XK}{ts:TA}(h:ts σ H fun vs H1=>sp vs H1 Q E):AE sp [] E ts σ H Q:=by
 unfold AE
 simp only [append_nil]
 exact h
def WGo(tb:TS)(D:Ends)(W:Nat->St->Hp->Prop)(m:Nat)(σ:St)(H1:Hp):Prop:=∃ N:St->Hp->Prop,(∀ σ' H',N σ' H'->∃ m',m'<m/\W m' σ' H')/\tb { D with nx:=N,ct:=N,bk:=D.nx } σ H1
theorem zu{c:TT}{tb:TS}(W:Nat->St->Hp->Prop)(m:Nat)(h0:W m σ H)(hs:∀ m σ H,W m σ H->c σ H fun b H1=>if b=true then WGo tb D W m σ H1 else D.nx σ H1):GX c tb D σ H:=⟨W,⟨m,h0⟩,hs⟩
theorem Om{tb:TS}{W:Nat->St->Hp->Prop}{m:Nat}(h:tb { D with nx:=fun σ' H'=>∃ m',m'<m/\W m' σ' H',ct:=fun σ' H'=>∃ m',m'<m/\W m' σ' H',bk:=D.nx } σ H):WGo tb D W m σ H:=⟨_,fun _ _ z=>z,h⟩
end
section
variable {X:Cx}(K:Frag)(hK:X.K=K)
include hK
theorem gk:dU X (.builtin "len") (KA K):=hK ▸ Fo
theorem fz:dU X (.type "tuple") (vR K):=hK ▸ A1
theorem jE:dU X (.type "list") (u5 K):=hK ▸ CK
theorem nO:dU X (.builtin "isinstance") (qj K):=hK ▸ zr
theorem aC:JO X (Vu K):=hK ▸ NB
theorem fA:Qj X (Kj K):=hK ▸ Kk
theorem kj:pM X (binaryOp .Add) (Hf K):=hK ▸ Kg
theorem bh{tg l:Expr}{tl:TE}(hl:PE X l tl):PI X tg l (GY K tl):=hK ▸ J7 hl
theorem qk{tg l:Expr}{tl:TE}(hl:PE X l tl):PI X tg l (Nh K tl):=hK ▸ Ni hl
theorem mP (k1 k2:Bool) {es:List Expr} {kk:Nat} {AB:Pos} {a b:Expr} {ta:TA} {p pos:Pos} (hg:Gl X "zip") (hm:X.mg "zip"=none) (ha:PA X [a,b] ta) (hs:starEach [a,b] X.env=[(false,eval a X.env),(false,eval b X.env)]:=by rfl) (jS:starEach [b] X.env=[(false,eval b X.env)]:=by rfl) :
  PI X (.Tuple es kk AB) (.Call (.Name "zip" p) [a,b] [] pos) (Hv K k1 k2 ta):=hK ▸ Kq k1 k2 hg hm ha hs jS
theorem fD{es:List Expr}{k:Nat}{t:Mc}{n:Nat}{pos:Pos}(hc:X.calm=true)(h:Q4 X es t)
  (hn:(assignEach es X.env).length=n:=by rfl) (oF:(assignEach es X.env).findIdx? (·.1)=none:=by rfl):PG X (.Tuple es k pos) (yY K n t):=hK ▸ Ng hc h hn oF
end
end L2
namespace b7
theorem gm(x:Int):L2.iM x=bl x:=rfl
end b7
namespace L2
open PySem PySem.Spec PyProof.Rows
section
variable {H:Hp}{Q:VK}{K:Frag}
theorem HN(x:V)(xs:List V):iQ (x::xs) (some 1) none=xs:=by
 have e:HT.fv (x::xs).length 0 (some 1)=1:=by
  have h:=HT.uX (x::xs).length 0 1
  simp only [length_cons] at h ⊢
  have h2:min 1 (xs.length+1)=1:=by lia
  rw [h2] at h
  exact h
 unfold iQ
 rw [e,HT.AG]
 simp
theorem Oo{a:Addr}{x:V}{xs:List V}(e:aW K H a (x::xs))(h:∀ p H2,H p=none->aj H H2->H2 p=some (.lst xs)->Q (.ref p) H2):Kj K (.ref a) (some 1) none H Q :=
 og e fun p H2 n s m=>h p H2 n s (by rw [HN] at m;exact m)
end
end L2
namespace L2
open PySem
section
variable {prog:Program}{w:World}{A:Around}{E:Value->Shared->Prop}{s:Shared}
structure Zip3(k1 k2 k3:Bool)(n a b c:Nat)(i:Nat)(f0:Value)(h:Heap):Prop where
 z:IsZip h (n+5) (n+3) (n+4) f0
 ti:IsT h (n+3) #[.ref n,.ref (n+1),.ref (n+2)]
 to:∃ u v x,IsT h (n+4) #[u,v,x]
 i1:md k1 h n a i
 i2:md k2 h (n+1) b i
 i3:md k3 h (n+2) c i
end
open PySem PySem.Spec PyProof.Rows
def rm(H:Hp)(l:Addr):Hp:=fun b=>if b=l then none else H b
theorem A3{H:Hp}{l:Addr}:rm H l l=none:=by unfold rm;rw [if_pos rfl]
theorem HP{H:Hp}{l b:Addr}(h:b≠l):rm H l b=H b:=by unfold rm;rw [if_neg h]
theorem u6{H:Hp}{l:Addr}:aj (rm H l) H:=fun b o e=>by
 by_cases h:b=l
 ·subst h;rw [A3] at e;cases e
 ·rw [HP h] at e;exact e
theorem HQ{K:Frag}{H:Hp}{l a:Addr}{xs ys:List V}(h:aZ K H a xs)(hl:H l=some (.lst ys)):aZ K (rm H l) a xs:=by
 have ne:∀ {o},H a=some o->(∀ zs,o≠.lst zs)->a≠l:=fun {o} e n z=>by subst z;rw [hl] at e;exact n _ (af5 e).symm
 rcases h with (h|⟨o,h⟩)|h
 ·exact .inl (.inl (by rw [HP (ne h fun _ z=>nomatch z)];exact h))
 ·exact .inl (.inr ⟨o,by rw [HP (ne h fun _ z=>nomatch z)];exact h⟩)
 ·exact .inr h
end L2
namespace L2
open PySem PySem.Spec PyProof.Rows PySem.W
structure KP(K:Frag)(C:Addr):Prop where
 ga:findIn K (.ref C) "__getattribute__"=some (some (.builtin "BaseException.__getattribute__"))
 gt:findIn K (.ref C) "__getattr__"=some none
 fc:findObj K C none "__class__"=some (.bind (.builtin "getset_descriptor.__get__") (.builtin "object.__class__"))
 ob:mroIn K C (.type "object")=some true
 be:subIn K (.ref C) (.type "BaseException")=some true
 cl:(clsIn K C).isSome=true
end L2
namespace L2
open PySem PySem.Spec PyProof.Rows PySem.W
section
variable {M:Model}{A:Around}{E:Value->Shared->Prop}{s:Shared}
theorem vS{base:Heap}{env:Env}{outer:List Env}{L e:Addr}{oe:Obj}{vs:Array Value}{head:Value}{KQ:Bool}{Q:Unit->Shared->Prop}
  (GC:A.frames=some (env::outer)) (hl:s.heap.FunFrames base (env::outer)) (hf:env.frame=some L)
  (he:s.heap.get? e=some oe) (hd:oe.data=.fields vs) (xj:1<vs.size)
  (h:∀ h' T,(∀ b o,b≠e->b∉yc (env::outer)->s.heap.get? b=some o->h'.get? b=some o)->(∀ b o,b≠e->s.heap.get? b=some o->∃ sl,h'.get? b=some { o with slots:=sl }) ->
   s.heap.get? T=none->T≠e->h'.get? e=some (oe.mapFields (·.setIfInBounds 1 (.ref T)))->(∃ oT ts,h'.get? T=some oT/\oT.data=.fields ts/\ts[3]?=some .none)->Q () { s with heap:=h' }) :
  wpAny M A (do let a <- frameOf env;let pl <- entryPlaceOf L KQ;let b <- EntryCells.newEntry head a .none (rawInt L) .none pl;setField (.ref e) 1 b) (fun _ s'=>wpAny M A (setFlight (.ref e) none) Q E s') E s:=by
 have Xm:e∉(env::outer).filterMap (·.frame):=fun hm=>by
  obtain ⟨_,o,ho,KR⟩:=hl.mem hm
  rw [he] at ho;injection ho with ho;subst ho;exact KR vs hd
 refine afW (wpAny_frameOf_fun GC hl hf fun h₁ VF=>?_)
 refine afW (wpAny_entryPlaceOf fun pl ur=>?_)
 unfold EntryCells.newEntry newFields
 refine afW (wpAny_newObj_type ?_ (ur.sizeOk5 _ _ _ _ _))
 have he₁:h₁.get? e=some oe:=(VF.2.1 e Xm).trans he
 have he₂:=afV (h:=h₁) { cls:=.type "traceback",dict:=none,data:=.fields ([head,.ref L,.none,rawInt L,.none]++(if pl.isEmpty then List.replicate 6 Value.none else pl)).toArray } he₁
 refine wpAny_setField he₂ hd xj ?_
 have SQ:h₁.objs.size≠e:=Nat.ne_of_gt (afY he₁)
 have hd₃:=Obj.data_mapFields hd (·.setIfInBounds 1 (Value.ref h₁.objs.size))
 have he₃:=Heap.get?_update_self (Obj.mapFields (·.setIfInBounds 1 (Value.ref h₁.objs.size))) he₂ (Obj.isFreed_of_fields hd₃)
 have hT₃:=(Heap.get?_update_other (h₁.push { cls:=.type "traceback",dict:=none,data:=.fields ([head,.ref L,.none,rawInt L,.none]++(if pl.isEmpty then List.replicate 6 Value.none else pl)).toArray })
  (Obj.mapFields (·.setIfInBounds 1 (Value.ref h₁.objs.size))) (Ne.symm SQ)).trans (afZ h₁ rfl)
 unfold setFlight
 refine afW (wpAny_field he₃ hd₃ (x:=.ref h₁.objs.size) (by simp [xj]) ?_)
 rw [if_pos (show (Value.ref h₁.objs.size != Value.none)=true from by simp)]
 have keep:∀ b o,b≠e->h₁.get? b=some o ->
   (((h₁.push { cls:=.type "traceback",dict:=none,data:=.fields ([head,.ref L,.none,rawInt L,.none]++(if pl.isEmpty then List.replicate 6 Value.none else pl)).toArray }).update e (Obj.mapFields (·.setIfInBounds 1 (Value.ref h₁.objs.size)))).update h₁.objs.size
    (Obj.mapFields (·.setIfInBounds 3 ((none:Option Addr).elim Value.none fun f=>rawInt f)))).get? b=some o:=fun b o EL hb=>by
  have hbT:h₁.objs.size≠b:=Nat.ne_of_gt (afY hb)
  rw [Heap.get?_update_other _ _ hbT,Heap.get?_update_other _ _ (Ne.symm EL)]
  exact afV _ hb
 refine wpAny_setField hT₃ rfl (by simp only [agB,agn,length_cons,List.length_nil] <;> lia) (h _ h₁.objs.size (fun b o EL hbf hb=>keep b o EL ((VF.2.1 b hbf).trans hb)) (fun b o EL hb=>?_) (Heap.get?_none_of_le (by rw [VF.1];exact af1 _)) SQ ?_ ?_)
 ·obtain ⟨sl,hs⟩:=VF.2.2 b o hb
  exact⟨sl,keep b _ EL hs⟩
 ·rw [Heap.get?_update_other _ _ SQ];exact he₃
 ·exact⟨_,_,Heap.get?_update_self _ hT₃ (Obj.isFreed_of_fields (Obj.data_mapFields rfl _)),Obj.data_mapFields rfl _,by first|(simp;done)|(rcases ur with rfl|⟨_,_,_,_,_,_,_,rfl⟩ <;> simp)⟩
def HR(h:Heap)(e:Addr)(vs:Array Value):Option Addr->Prop
 | none=>vs[1]?=some .none
 | some T=>vs[1]?=some (.ref T)/\T≠e/\∃ oT ts,h.get? T=some oT/\oT.data=.fields ts/\ts[3]?=some .none
theorem Fq{base:Heap}{env:Env}{outer:List Env}{L e:Addr}{oe:Obj}{vs:Array Value}{T0:Option Addr}{Q:Unit->Shared->Prop}
  (GC:A.frames=some (env::outer)) (hl:s.heap.FunFrames base (env::outer)) (hf:env.frame=some L)
  (he:s.heap.get? e=some oe) (hd:oe.data=.fields vs) (hh:HR s.heap e vs T0)
  (h:∀ h' T,(∀ b o,b≠e->some b≠T0->b∉yc (env::outer)->s.heap.get? b=some o->h'.get? b=some o)->(∀ b o,b≠e->some b≠T0->s.heap.get? b=some o->∃ sl,h'.get? b=some { o with slots:=sl }) ->
   s.heap.get? T=none->T≠e->h'.get? e=some (oe.mapFields (·.setIfInBounds 1 (.ref T)))->(∃ oT ts,h'.get? T=some oT/\oT.data=.fields ts/\ts[3]?=some .none)->Q () { s with heap:=h' }) :
  wpAny M A (noteFrame (.ref e) env) (fun _ s'=>wpAny M A (setFlight (.ref e) none) Q E s') E s:=by
 unfold noteFrame
 simp only [hf]
 cases T0 with
 | none =>
  have h1:vs[1]?=some .none:=hh
  refine afW (wpAny_field he hd h1 ?_)
  rw [if_neg (by decide)]
  exact vS GC hl hf he hd (Array.getElem?_eq_some_iff.mp h1).1 fun h' T k1 k2 k3 k4 k5 k6=>h h' T (fun b o b1 _ b3 b4=>k1 b o b1 b3 b4) (fun b o b1 _ b3=>k2 b o b1 b3) k3 k4 k5 k6
 | some T =>
  obtain ⟨h1,SQ,oT,ts,hT,VG,h3⟩:=hh
  refine afW (wpAny_field he hd h1 ?_)
  rw [if_pos (show (Value.ref T != Value.none)=true from by simp)]
  refine afW (wpAny_field hT VG h3 ?_)
  rw [if_neg (show ¬ ((Value.none == rawInt L)=true) from by simp [rawInt])]
  refine afW (wpAny_setField hT VG (Array.getElem?_eq_some_iff.mp h3).1 ?_)
  have other:∀ b,b≠T->(s.heap.update T (Obj.mapFields (·.setIfInBounds 3 Value.none))).get? b=s.heap.get? b:=fun b hb=>Heap.get?_update_other _ _ (Ne.symm hb)
  have HS:∀ b o,s.heap.get? b=some o->(∀ vs,o.data≠.fields vs)->b≠T:=fun b o hb KR q=>by
   rw [q,hT] at hb;injection hb with hb;subst hb;exact KR ts VG
  have rK:=Heap.get?_update_self (Obj.mapFields (·.setIfInBounds 3 Value.none)) hT (Obj.isFreed_of_fields (Obj.data_mapFields VG _))
  refine vS GC (hl.of_keeps fun b o hb KR=>⟨o,(other b (HS b o hb KR)).trans hb,rfl⟩) hf ((other e (Ne.symm SQ)).trans he) hd (Array.getElem?_eq_some_iff.mp h1).1 fun h' T' k1 k2 k3 k4 k5 k6=>?_
  refine h h' T' (fun b o b1 b2 b3 b4=>k1 b o b1 b3 ((other b fun z=>b2 (by rw [z])).trans b4)) (fun b o b1 b2 b4=>k2 b o b1 ((other b fun z=>b2 (by rw [z])).trans b4)) ?_ k4 k5 k6
  by_cases hq:T'=T
  ·rw [hq,rK] at k3;cases k3
  ·rw [other T' hq] at k3;exact k3
end
end L2
namespace L2
open PySem PySem.Spec PyProof.Rows PySem.W
theorem eG.there{P:Program}{w:World}{H:Hp}{h:Heap}{a:Addr}{o:HO}(x:eG P w H h a o):∃ ob,h.get? a=some ob:=by
 cases o with
 | lst xs=>obtain ⟨_,_,_,_,e⟩:=x;exact⟨_,e⟩
 | tup xs=>obtain ⟨_,_,_,ob,e,_⟩:=x;exact⟨_,e⟩
 | dK rJ=>obtain ⟨_,_,_,_,o,_,_,e,_⟩:=x;exact⟨_,e⟩
 | dT rJ=>obtain ⟨_,_,_,_,o,_,_,e,_⟩:=x;exact⟨_,e⟩
 | set S n=>obtain ⟨o,_,_,_,e,_⟩:=x;exact⟨_,e⟩
 | ins C dx fs=>obtain ⟨_,_,_,e,_⟩:=x;exact⟨_,e⟩
 | own y=>obtain ⟨_,e⟩:=x;exact⟨_,e⟩
 | xd fs=>obtain ⟨_,⟨_,_,_,e,_⟩,_⟩:=x;exact⟨_,e⟩
 | Vn lo hi=>obtain ⟨_,_,_,e⟩:=x;exact⟨_,e⟩
 | yb ob u=>obtain ⟨e,_⟩:=x;exact⟨_,e⟩
 | xi ps=>exact⟨_,(show h.get? a=some _ from x)⟩
 | met f y=>exact⟨_,(show h.get? a=some _ from x)⟩
 | ext φ=>obtain ⟨_,⟨_,e⟩,_⟩:=x;exact⟨_,e⟩
theorem kD.free{P:Program}{w:World}{H:Hp}{h:Heap}{a:Addr}(x:kD P w H h)(e:h.get? a=none):H a=none:=by
 cases q:H a with
 | none=>rfl
 | some o=>obtain ⟨ob,z⟩:=(x a o q).there;rw [e] at z;cases z
def Exc(h:Heap)(H:Hp)(h0:Heap)(ps:List (Addr×Obj))(a C:Addr):Prop:=∃ oe vs T0,h.get? a=some oe/\oe.cls=.ref C/\oe.dict=none/\oe.data=.fields vs/\1<vs.size/\HR h a vs T0/\H a=none/\(h0.get? a=none/\∀ p∈ps,p.1≠a) /\
 ∀ T,T0=some T->H T=none/\h0.get? T=none/\∀ p∈ps,p.1≠T
def SR(P:Program)(w:World):G4:=fun outer H s E e s'=>∃ a C H',e=.ref a/\s'.os=s.os/\AllBare s'.gens/\Un (yc outer) [] H H' s.heap s'.heap/\kD P w H' s'.heap/\Exc s'.heap H' s.heap [] a C/\E (.ref C) none H'
abbrev JS:=Addr->St->Hp->Prop
def XW(X:Cx)(EX:JS):Value->Shared->Prop:=fun e s'=>∃ a C σ' H',e=.ref a/\Inv X.JJ [] σ' H' s'/\Exc s'.heap H' X.s₀.heap X.pn a C/\EX C σ' H'
theorem vT(o:Obj)(f:Array Value->Array Value):(o.mapFields f).dict=o.dict:=by
 unfold Obj.mapFields;split <;> rfl
theorem Oq{P:Program}{w:World}{K:Frag}{mg:Str->Option Value}{base:Heap}{N:List Str}{qual:Str}{scope:Scope}{f:Addr}{cd:Value}{A:Around}{outer:List Env}{s:Shared}{H:Hp}{E:XK}{e:Value}{s':Shared}
  (h:XW (rW (SR P w) P w K mg base N qual scope f cd A outer s H E) (fun C _ H'=>E (.ref C) none H') e s'):(rW (SR P w) P w K mg base N qual scope f cd A outer s H E).xe e s':=by
 obtain ⟨a,C,σ',H',rfl,I,⟨oe,vs,T0,he,hc,hdi,hd,xj,hh,VH,⟨h0a,_⟩,hT⟩,hE⟩:=h
 have SS:s.heap.get? a=none:=h0a
 have GJ:∀ T,T0=some T->H' T=none/\s.heap.get? T=none:=fun T z=>⟨(hT T z).1,(hT T z).2.1⟩
 show wpAny (model P w) (A.deeper (envOfC qual scope s.heap.objs.size f cd)) (leaving (envOfC qual scope s.heap.objs.size f cd) (.ref a)) _ _ s'
 unfold leaving
 refine afW (Fq (L:=s.heap.objs.size) I.ok.frames I.stack rfl he hd hh fun h' T k1 k2 k3 k4 k5 k6=>?_)
 have ne:∀ b o,s.heap.get? b=some o->b≠a/\some b≠T0/\b≠s.heap.objs.size:=fun b o q=>⟨fun z=>(by rw [z,SS] at q;cases q),fun z=>(by rw [(GJ b z.symm).2] at q;cases q),agN (afY q)⟩
 have nfr:∀ b o,s.heap.get? b=some o->b∉yc outer->b∉yc (envOfC qual scope s.heap.objs.size f cd::outer):=fun b o q hb z=>by
  rcases agq.mp (I.rN b z) with r|r
  ·exact (ne b o q).2.2 r
  ·exact hb r
 have off:Off (a::(T0.toList++yc (envOfC qual scope s.heap.objs.size f cd::outer))) s'.heap h':=fun b o hb q=>by
  simp only [agq,agk,not_or] at hb
  exact k1 b o hb.1 (fun z=>hb.2.1 (by rw [<- z];simp)) hb.2.2 q
 refine⟨a,C,H',rfl,I.os,I.bare,⟨fun b o q n hb hx=>?_,fun b o q n hb hx=>?_,fun b o q n hx=>I.base.free b o q n hx,fun b o q hx=>?_,I.base.rM,I.base.pN,I.base.pO⟩,I.cA.off (fun b hb=>?_) off,?_,hE⟩
 ·exact k1 b o (ne b o q).1 (ne b o q).2.1 (nfr b o q hb) (I.base.keep b o q n hb hx)
 ·obtain ⟨sl,q1⟩:=I.base.slot b o q n hb hx
  obtain ⟨Qh,q2⟩:=k2 b _ (ne b o q).1 (ne b o q).2.1 q1
  exact⟨Qh,q2⟩
 ·obtain ⟨o',q1⟩:=I.base.there b o q hx
  obtain ⟨Qh,q2⟩:=k2 b _ (ne b o q).1 (ne b o q).2.1 q1
  exact⟨_,q2⟩
 ·simp only [agq,agk] at hb
  rcases hb with rfl|hb|hb
  ·exact VH
  ·cases T0 with
   | none=>simp at hb
   | some T1 =>
    simp only [Option.toList_some,agj] at hb
    rw [hb];exact (GJ T1 rfl).1
  ·exact I.nI b hb
 ·refine⟨_,_,some T,k5,(Obj.cls_mapFields _ _).trans hc,(vT _ _).trans hdi,Obj.data_mapFields hd _,by simpa using xj,⟨by simp [xj],k4,k6⟩,VH,⟨SS,fun _ z=>nomatch z⟩,fun T' e=>?_⟩
  cases e
  refine⟨I.cA.free k3,?_,fun _ z=>nomatch z⟩
  cases q:s.heap.get? T with
  | none=>rfl
  | some o =>
   obtain ⟨o',q1⟩:=I.base.there T o q (by show T∉([]:List Addr);simp)
   rw [k3] at q1;cases q1
theorem yd.xe{X:Cx}{E:Value->Shared->Prop}{st:List Stmt}{t:TS}(h:yd (X.oE E) st t)(k:∀ e s,E e s->X.xe e s):yd X st t:=fun pins s σ H D I hw =>
 agd (h pins s σ H D (I.oE _) hw) (fun _ _ z=>z.kI) k
end L2
namespace L2
open PySem PySem.Spec PyProof.Rows PySem.W
section
variable {X:Cx}{pins:List (Addr×Obj)}{σ:List (Option V)}{H H':Hp}{s:Shared}{h':Heap}
theorem Inv.Ed{t':Nat}{ch:List Addr}(I:Inv X pins σ H s)
  (B9:∀ b∈ch,X.s₀.heap.get? b=none/\b≠X.env.locals/\(∀ x c,X.env.cells.lookup x=some c->c≠b)/\∀ p∈X.pn++pins,p.1≠b)
  (keep:∀ b o,b≠X.env.locals->b∉X.fs->b∉ch->s.heap.get? b=some o->H b=none->h'.get? b=some o)
  (slot:∀ b o,b≠X.env.locals->b∈X.fs->b∉ch->s.heap.get? b=some o->H b=none->∃ sl,h'.get? b=some { o with slots:=sl }) (free:∀ b o,b∉ch->s.heap.get? b=some o->H b=none->H' b=none)
  (there:∀ b o,b∉ch->s.heap.get? b=some o->∃ o',h'.get? b=some o')
  (rM:∀ b xs,H b=some (.tup xs)->H' b=some (.tup xs)) (pN:∀ b o u,H b=some (.yb o u)->H' b=some (.yb o u)) (pO:∀ b ps,H b=some (.xi ps)->∃ more,H' b=some (.xi (ps++more)))
  (ns:∀ m,s.heap.Ns X.env.locals m->h'.Ns X.env.locals m) (cA:kD X.prog X.w H' h') :
  Inv X pins σ H' { s with heap:=h',toks:=t' }:=by
 have EN:∀ b o,X.s₀.heap.get? b=some o->b≠X.env.locals:=fun b o e=>agN (Nat.lt_of_lt_of_le (afY e) I.ok.above)
 have J4:∀ b o,X.s₀.heap.get? b=some o->b∉ch:=fun b o e hb=>by rw [(B9 b hb).1] at e;cases e
 have cellK:∀ x c,X.env.cells.lookup x=some c->∀ v,s.heap.IsCell c v->h'.IsCell c v:=fun x c e v ⟨o,ho,hd⟩=>by
  have GU:c∉ch:=fun z=>(B9 c z).2.2.1 x c e rfl
  by_cases hc:c∈X.fs
  ·obtain ⟨sl,q⟩:=slot c o (I.J3 x c e) hc GU ho (I.iY x c e)
   exact⟨_,q,hd⟩
  ·exact⟨o,keep c o (I.J3 x c e) hc GU ho (I.iY x c e),hd⟩
 refine⟨I.ok,I.os,I.bare,⟨fun b o e n hb hx=>?_,fun b o e n hb hx=>?_,fun b o e n hx=>?_,fun b o e hx=>?_,fun b xs e=>rM b xs (I.base.rM b xs e),fun b o xs e=>pN b o xs (I.base.pN b o xs e),fun b ps e=>?_⟩,?_,fun x c e=>?_,?_,fun x c e=>?_,fun p hp=>?_,cA,I.len⟩
 ·exact keep b o (EN b o e) hb (J4 b o e) (I.base.keep b o e n hb hx) (I.base.free b o e n hx)
 ·obtain ⟨sl,e1⟩:=I.base.slot b o e n hb hx
  obtain ⟨Qh,e2⟩:=slot b _ (EN b o e) hb (J4 b o e) e1 (I.base.free b o e n hx)
  exact⟨Qh,e2⟩
 ·obtain ⟨o',e1⟩:=I.base.there b o e hx
  exact free b o' (J4 b o e) e1 (I.base.free b o e n hx)
 ·obtain ⟨o',e1⟩:=I.base.there b o e hx
  exact there b o' (J4 b o e) e1
 ·obtain ⟨m1,e1⟩:=I.base.pO b ps e
  obtain ⟨m2,e2⟩:=pO b _ e1
  exact⟨m1++m2,by rw [e2,Array.append_assoc]⟩
 ·obtain ⟨m,hn,hl⟩:=I.loc
  refine⟨m,ns m hn,fun i x v e1 e2 e3=>?_⟩
  obtain ⟨u,r,l⟩:=hl i x v e1 e2 e3
  refine⟨u,r,?_⟩
  rcases l with l|⟨k,c,e,z⟩
  ·exact .inl l
  ·exact .inr ⟨k,c,e,cellK x c e _ z⟩
 ·obtain ⟨v,z⟩:=I.cell x c e
  exact⟨v,cellK x c e v z⟩
 ·obtain ⟨m,⟨o,_,_,ho,_⟩,_⟩:=I.loc
  exact free _ o (fun z=>(B9 _ z).2.1 rfl) ho I.free
 ·obtain ⟨v,o,ho,hd⟩:=I.cell x c e
  exact free c o (fun z=>(B9 c z).2.2.1 x c e rfl) ho (I.iY x c e)
 ·obtain ⟨e,n,ne,nf,d⟩:=I.pin p hp
  have GU:p.1∉ch:=fun z=>(B9 p.1 z).2.2.2 p hp rfl
  exact⟨keep p.1 p.2 ne nf GU e n,free p.1 p.2 GU e n,ne,nf,d⟩
end
theorem KS{K:Frag}{h:Heap}{C:Addr}{bmB:List Value}{newId:String}(X:K.In h)(q:excIn K C bmB newId=true) :
  ∃ bm N nm q bs hdct sn sub ab col dd k0 k1 k2 k3 k5 mN,h.get? C=some (excClassObj nm q C N bs bm hdct sn sub ab col dd k0 k1 k2 k3 k5 newId)/\h.Ns N mN/\mN "__init__"=none/\OwnTail h bmB bm:=by
 unfold excIn at q
 split at q
 ·rename_i dd cd sl ho
  split at q
  ·rename_i C' bm k0 k1 k2 k3 n k5 hm hs
   simp only [Bool.and_eq_true,beq_iff_eq,Bool.not_eq_true'] at q
   obtain ⟨⟨⟨⟨⟨rfl,rfl⟩,SU⟩,ht⟩,cA⟩,SV⟩:=q
   obtain ⟨nm,bs,mro,ns,qn,hd,sn,sub,ab,col,del⟩:=cd
   dsimp only at hm SU cA SV
   subst hm SU
   have VI:sl=#[k0,k1,k2,k3,some (.builtin n),k5]:=by
    obtain ⟨l⟩:=sl
    simp only at hs
    rw [hs]
   subst VI
   exact⟨bm,ns,nm,qn,bs,hd,sn,sub,ab,col,dd,k0,k1,k2,k3,k5,_,X _ _ ho,.of_isNs (isNs_of_in X cA),nsMap_none_of_in X cA SV,tail_of_in X ht⟩
  ·cases q
 ·cases q
section
variable {X:Cx}{EX:JS}
def HU(EX:JS)(C:Addr)(ta:TA):TS:=fun _ σ H=>ta σ H fun vs H1=>vs.length<=1000/\EX C σ H1
theorem HV{x:Str}{np uu pos:Pos}{e0:Expr}{rest:List Expr}{C:Addr}{B Bn newId nid Ot inN:String}{bm bmN:List Value}{ta:TA}(q:excIn X.K C bm newId=true)(Fn:ExcBaseFacts Bn newId inN bmN)(hBn:bm.contains (.type Bn)=true)
  (FB:ExcBaseFacts B nid Ot bm) (hc:X.calm=true) (hX:∀ e s',XW X EX e s'->X.xe e s') (hex:X.ex=[]) (hg:Gl X x) (hm:X.mg x=some (.ref C)) (ha:PA X (e0::rest) ta)
  (he:starEach (e0::rest) X.env=(false,eval e0 X.env)::starEach rest X.env:=by rfl) (ur:(backTo uu (starEach rest X.env)).any (·.1)=false:=by rfl) (xm:(x == ("__debug__":Str))=false:=by decide) :
  PS X (.Raise (some (.Call (.Name x np) (e0::rest) [] uu)) none pos) (HU EX C ta):=by
 intro pins s σ H D I h
 obtain ⟨bm',N,nm,qn,bs,hdct,sn,sub,ab,col,dd,k0,k1,k2,k3,k5,mN,hC,hN,SV,T⟩:=KS I.ok.mod.L6 q
 refine wpAny_Raise_call_subU (C:=C) (nm:=nm) (q:=qn) (N:=N) (bs:=bs) (bm:=bm') (hdct:=hdct) (sn:=sn) (sub:=sub) (ab:=ab) (col:=col) (dd:=dd) (k0:=k0) (k1:=k1) (k2:=k2) (k3:=k3) (k5:=k5)
  Fn hBn FB (mN:=mN) (T.hasType FB.hasBase) (I.ok.hd hc) (by rw [he];show (false || (backTo uu (starEach rest X.env)).any (·.1))=false;rw [ur];rfl) SV (kG I hg hm ⟨rfl,?_⟩ xm)
 have hh:=ha uu pins s σ H _ I h
 rw [he] at hh ⊢
 refine Calls.evalArgs_plain (agd hh (fun us s2 z=>?_) fun _ _ y=>y)
 obtain ⟨vs,H1,I1,r,hl,hE⟩:=z
 refine⟨rfl,by rw [<- r.length];exact af2 (eI hl),I1.bk _ _ hC,hN.keeps I1.bk,T.keeps I1.bk,fun h' e Aq=>hX _ _ ?_⟩
 obtain ⟨t,het,htn,htt⟩:=Aq.there
 have nw:X.s₀.heap.get? e=none:=by
  cases q:X.s₀.heap.get? e with
  | none=>rfl
  | some o =>
   obtain ⟨o',q1⟩:=I1.base.there e o q (by rw [hex];simp)
   rw [Aq.new] at q1;cases q1
 have np:∀ p∈X.pn,p.1≠e:=fun p hp z=>by
  have:=(I1.pin p (agi _ hp)).1
  rw [z,Aq.new] at this;cases this
 exact⟨e,C,σ,H1,rfl,((I1.kept (t':=s2.toks) Aq.keeps).kF fun p hp=>absurd hp (by simp)).oE _,⟨_,_,none,het,rfl,rfl,rfl,by simp,rfl,I1.cA.free Aq.new,⟨nw,np⟩,fun T z=>nomatch z⟩,hE⟩
end
end L2
namespace L2
open PySem PySem.Spec PyProof.Rows PySem.W
structure KU(K:Frag)(D:Addr):Prop where
 ty:typeIn K (.ref D)=some (.type "type")
 cl:(clsIn K D).isSome=true
 be:subIn K (.ref D) (.type "BaseException")=some true
end L2
namespace L2
open PySem PySem.Spec PyProof.Rows PySem.W
section
variable {K:Frag}{D:Ends}{σ:St}{H:Hp}{Q:VK}{EX:JS}
theorem KW{C:Addr}{ts:TA}(h:ts σ H fun vs H1=>vs.length<=1000/\EX C σ H1):HU EX C ts D σ H:=h
end
end L2
namespace L2
open PySem PySem.Spec PyProof.Rows PySem.W
section
variable {K:Frag}{C D:Addr}{cd:ClassData}
theorem KP.mk' (q1:findIn K (.ref C) "__getattribute__"=some (some (.builtin "BaseException.__getattribute__"))) (q2:findIn K (.ref C) "__getattr__"=some none) (q3:clsIn K C=some cd)
  (q4:findIn K (.ref C) "__class__"=some (some (.builtin "object.__class__"))) (q5:specialIn K (.builtin "object.__class__") "__get__"=some (some (.builtin "getset_descriptor.__get__"))) (q6:takesIn K (.builtin "object.__class__")=some true)
  (q7:mroIn K C (.type "object")=some true) (q8:subIn K (.ref C) (.type "BaseException")=some true):KP K C :=
 ⟨q1,q2,by unfold findObj;rw [q3,Option.bind_some,q4,Option.bind_some];simp [q5,q6],q7,q8,by rw [q3];rfl⟩
theorem KU.mk' (q1:typeIn K (.ref D)=some (.type "type")) (q2:clsIn K D=some cd) (q3:subIn K (.ref D) (.type "BaseException")=some true):KU K D:=⟨q1,by rw [q2];rfl,q3⟩
end
open PySem PySem.Spec PyProof.Rows
section
variable {X:Cx}
theorem ia{y:Str}{py HW:Pos}{k:Nat}{tg iter elt:Expr}{ifs:List Expr}{scope:Scope}{pos:Pos}{N:List Str}{ix:List (Option Nat)}{wi:TI}{g:TG}{tt:TT}{te:TE}
  (hN:X.N.Nodup) (Xn:X.N[k]?=some y) (hy:Loc X.env.scope y) (hc:X.calm=true) (hi:PI X tg iter wi)
  (hg:∀ pins C s H fp,PG (dZ X pins N scope C s H fp) tg g)
  (ht:∀ pins C s H fp,Vx (dZ X pins N scope C s H fp) ifs tt)
  (he:∀ pins C s H fp,PE (dZ X pins N scope C s H fp) elt te)
  (hk:scope.kind=.function) (i0:∀ y∈scope.names,y.2≠.cell) (vx:∀ y∈scope.names,y.2=.local->scope.names.lookup y.1=some .local)
  (uy:(scope.names.all fun y=>!(y.2 == NameKind.free) || (X.env.cells.lookup y.1).isSome)=true) (AJ:oM X scope N ix)
  (hs:∀ x,foldedSetIterable iter X.env x=pure x:=by intro _;rfl)
  (Xo:swapsWith (.ListComp elt [⟨tg,iter,ifs,0⟩] scope pos) (some (.Name y py)) HW.line X.env=pure true:=by rfl)
  (hf:X.fn y=true\/X.env.scope.names.lookup y=some .local:=by first|exact .inl rfl|exact .inr rfl|assumption) :
  PS X (.Assign [.Name y py] (.ListComp elt [⟨tg,iter,ifs,0⟩] scope pos) HW) (GW (DZ ix wi g tt te) (cO k)):=by
 intro pins s σ H D I h
 replace h:wi σ H fun J H1=>bR ix g tt te σ (fun x H1=>D.nx (σ.set k (some x)) H1) J H1:=h
 have GC:∀ y∈scope.names,y.2=.free->(X.env.cells.lookup y.1).isSome=true:=fun y hy e=>by
  have z:=all_eq_true.mp uy y hy
  rw [e] at z
  simpa using z
 have Cz:∀ p∈scope.names,p.2=.free->∃ c,X.env.cells.lookup p.1=some c:=fun p hp e=>agb.mp (GC p hp e)
 have fx:∀ x c,(fq X.env.cells scope.names []).lookup x=some c->X.env.cells.lookup x=some c:=pR (fun x c q=>by simp at q)
 have t9:∀ x,scope.names.lookup x=some .free->∃ c,(fq X.env.cells scope.names []).lookup x=some c:=fun x hx=>by
  have hm:=PySem.mem_of_lookup hx
  exact agb.mp (pT (.inr ⟨hm,GC _ hm rfl⟩))
 rw [exec_Assign_Name_used _ _ _ _ Xo]
 refine afW (wpAny_standAt (afW ?_))
 show wpAny _ X.A (do let _ <- comprehension (.ListComp elt [⟨tg,iter,ifs,0⟩] scope pos) scope X.env _ (newList []) false (eval iter X.env) (some (assign (.Name y py) X.env))) _ _ s
 refine afW (agd (wpAny_comprehension_free (use:=some (assign (.Name y py) X.env)) (Q:=fun _ s'=>SP X pins D .next s') rfl hs (kJ Cz) hk vx (di (hi pins s σ H _ I h) fun v s1 h1=>di h1 fun Q7 s2 h2=>?_)) (fun _ s' hq=>agc (agc hq)) fun _ _ e=>e)
 obtain ⟨it,fp,tn,J,H2,e,I2,T,JL,f2,hW⟩:=h2
 subst e
 have vy:H2 s2.heap.objs.size=none:=I2.cA.fresh (af1 _)
 obtain ⟨W,⟨m0,w0⟩,turn⟩:=hW s2.heap.objs.size vy
 refine wpAny_newObj_type ?_
 have I3:Inv X pins σ (upd H2 s2.heap.objs.size (.lst [])) { s2 with heap:=s2.heap.push { cls:=.type "list",data:=.seq ([]:List Value).toArray } }:=I2.Kl (its:=[]) (t':=s2.toks) .nil (agM _)
 have f3:∀ b∈fp,oG X pins (upd H2 s2.heap.objs.size (.lst [])) b:=fun b hb=>by
  refine⟨?_,(f2 b hb).2⟩
  obtain ⟨o,eo,_⟩:=T.obj _ _ JL b hb
  rw [aG (agN (afY eo))]
  exact (f2 b hb).1
 have yf:tn 0 (s2.heap.push { cls:=.type "list",data:=.seq ([]:List Value).toArray }):=T.keep _ _ _ JL fun b _ o e=>afV _ e
 generalize AK:({ s2 with heap:=s2.heap.push { cls:=.type "list",data:=.seq ([]:List Value).toArray } }:Shared)=s3 at I3
 have yf:tn 0 s3.heap:=by rw [<- AK];exact yf
 generalize hH3:upd H2 s2.heap.objs.size (.lst [])=H3 at I3 f3 w0
 generalize Rw:s2.heap.objs.size=acc at *
 refine wpAny_newFunctionEnv i0 (by intro y hy;simp at hy) (fun h₁ Hk NM=>?_) hk
 have old:∀ b o,s3.heap.get? b=some o->h₁.get? b=some o:=fun b o q=>NM.extBut b o (agN (afY q)) (afV _ q)
 have vz:H3 s3.heap.objs.size=none:=I3.cA.fresh (af1 _)
 have JP:∀ b∈fp,b<s3.heap.objs.size:=fun b hb=>by
  obtain ⟨o,eo,_⟩:=T.obj _ _ yf b hb
  exact afY eo
 have vA:∀ b,b≠X.env.locals->b∉X.fs->b∉yc X.stack:=fun b h1 h2 z=>by
  rcases agq.mp (I3.rN b z) with q|q
  ·exact h1 q
  ·exact h2 q
 have Vy:∀ x c,X.env.cells.lookup x=some c->c<s3.heap.objs.size:=fun x c q=>by
  obtain ⟨v,z⟩:=I3.cell x c q
  exact z.lt
 have YI:∀ (h':Heap) (m:Str->Option Value),(∀ b o,s3.heap.get? b=some o->h'.get? b=some o)->h'.Ns s3.heap.objs.size m ->
   Inv (dZ X pins N scope s3.heap.objs.size s3 H3 fp) [] (pick ix σ) H3 { s3 with heap:=h',toks:=s3.toks+([]:List (Str×Value)).length }:=by
  intro h' m uw hn
  refine⟨⟨I3.ok.mod,hk,I3.ok.glob,I3.ok.blt,af1 _,fun x y c q1 q2=>I3.ok.inj x y c (fx x c q1) (fx y c q2),fun x hx=>t9 x (gf i0 hx),fun x c hf _=>absurd hf Bool.false_ne_true,
   I3.ok.hd,I3.ok.frames,.inl rfl,fun b hb=>⟨agN (JP b hb),fun x c q=>(f3 b hb).2.2.2.2.1 x c (fx x c q)⟩,I3.bs,af0 I3.ok.DM I3.sz,fun b o e hb=>?_,fun b hb=>vA b (f3 b hb).2.1 (f3 b hb).2.2.1,I3.stack,I3.nI⟩,
   rfl,I3.bare,Un.kept uw,⟨m,hn,fun i x v h1 h2 h3=>?_⟩,fun x c q=>?_,vz,fun x c q=>I3.iY x c (fx x c q),fun p hp=>?_,I3.cA.kept uw,?_⟩
  ·have q:=(I3.bs b o e).2
   rcases (f3 b hb).2.2.2.1 with z|z
   ·exact I3.ok.Ci b o e z
   ·exact absurd (Nat.lt_of_lt_of_le (afY e) (af0 I3.ok.DM z)) (Nat.lt_irrefl _)
  ·obtain ⟨j,e1,e2⟩:=pU h2
   obtain ⟨a1,a2,a3,a4⟩:=AJ.get h1 e1
   obtain ⟨mX,hnX,Rx⟩:=I3.loc
   obtain ⟨u,ru,l⟩:=Rx j x v a1 e2 a2
   refine⟨u,ru,?_⟩
   rcases l with ⟨l1,_⟩|⟨_,c,lc,z⟩
   ·have oN:X.env.scope.names.lookup x=some .local:=l1
    rw [oN] at a3
    exact absurd a3 (by decide)
   ·obtain ⟨c',Cj⟩:=t9 x a4
    have ec:=fx x c' Cj
    rw [lc] at ec
    have Ry:c=c':=af5 ec
    subst Ry
    exact .inr ⟨kK a4,c,Cj,z.keeps uw⟩
  ·obtain ⟨v,z⟩:=I3.cell x c (fx x c q)
   exact⟨v,z.keeps uw⟩
  ·have Rz:p∈X.pn++pins:=by simpa using hp
   obtain ⟨a1,a2,a3,a4,a5⟩:=I3.pin p Rz
   exact⟨uw _ _ a1,a2,agN (afY a1),vA p.1 a3 a4,a5⟩
  ·show (pick ix σ).length=N.length
   unfold pick
   rw [agm]
   exact AJ.len
 have Hl:∀ {pl:List (Addr×Obj)} {H':Hp},pl=[]->(∀ b∈fp,H' b=none)->∀ b∈fp,oG (dZ X pins N scope s3.heap.objs.size s3 H3 fp) pl H' b:=fun {pl H'} RA hn b hb=>by
  obtain ⟨f0,f1,Mn,Mo,f4,f5⟩:=f3 b hb
  subst RA
  exact⟨hn b hb,agN (JP b hb),vA b f1 Mn,.inl hb,fun x c q=>f4 x c (fx x c q),fun p hp=>f5 p (by simpa using hp)⟩
 have loop:∀ s4:Shared,(∃ m,s4={ s3 with heap:=h₁,toks:=s3.toks+([]:List (Str×Value)).length }/\h₁.Ns s3.heap.objs.size m) ->
   codeAny (model X.prog X.w) X.A (.compLoop (.ListComp elt [⟨tg,iter,ifs,0⟩] scope pos) 0 (.ref it) (.ref acc) (compEnvC scope (fq X.env.cells scope.names []) s3.heap.objs.size X.env))
    (compPost (model X.prog X.w) X.A X.xe (some (assign (.Name y py) X.env)) (fun _ s'=>SP X pins D .next s') (.ref acc) s3.heap.objs.size) s4:=by
  rintro s4 ⟨m4,rfl,E6⟩
  refine rX (E:=fun _ _=>False) (fun _ _ z=>z.elim)
   (fun n s'=>∃ i σ' ys H',Inv (dZ X pins N scope s3.heap.objs.size s3 H3 fp) [] σ' H' s'/\tn i s'.heap/\(∀ b∈fp,H' b=none)/\W i n σ' ys H') ?_ m0
   ⟨0,pick ix σ,[],H3,YI h₁ m4 old E6,T.keep _ _ _ yf fun b _ o q=>old b o q,fun b hb=>(f3 b hb).1,w0⟩
  rintro n s5 ⟨i,σ5,ys,H5,I5,Gy,JM,w5⟩
  obtain ⟨hl5,AL⟩:=turn i n σ5 ys H5 w5
  rcases AL with ⟨stop,q⟩|⟨go,m',Aq,step⟩
  ·refine di (T.done (dZ X pins N scope s3.heap.objs.size s3 H3 fp) rfl rfl rfl hc i [] s5 σ5 H5 (fun _ _=>False) I5 (Hl rfl JM) Gy stop) fun r s6 ⟨hr,I6⟩=>?_
   subst hr
   obtain ⟨m6,Qk,_⟩:=I6.loc
   have Xp:Inv X pins σ H5 s6:=I3.DN (ch:=fp) I6.os I6.base I6.cA I6.bare fun b hb=>by
    obtain ⟨f0,f1,Mn,Mo,f4,f5⟩:=f3 b hb
    exact⟨Mo,f1,f4,f5⟩
   have EN:X.env.locals≠s3.heap.objs.size:=fun z=>by
    obtain ⟨m,⟨o,_,_,ho,_⟩,_⟩:=I3.loc
    exact Nat.lt_irrefl _ (z ▸ afY ho)
   have HX:∀ x c,X.env.cells.lookup x=some c->c≠s3.heap.objs.size:=fun x c e=>agN (Vy x c e)
   refine wpAny_assign_Name (rO (u:=.ref acc) (v:=.ref acc) Xp hN Xn hy rfl (fun s7 I7 ⟨a7,Xq,Xr⟩=>?_) hf)
   have VJ:s3.heap.objs.size≠a7:=by
    rcases Xr with z|z
    ·exact fun w=>EN (z ▸ w.symm)
    ·exact fun w=>HX _ _ z w.symm
   refine⟨m6,Qk.sameBut Xq VJ,fun h' sb=>?_⟩
   refine⟨σ.set k (some (.ref acc)),H5,Inv.Ed (ch:=[s3.heap.objs.size]) I7 (fun b hb=>?_) (fun b o _ _ nb e _=>(sb.2 b (fun z=>nb (by rw [z];exact agj.mpr rfl))).trans e) (fun b o _ _ nb e _=>⟨o.slots,(sb.2 b (fun z=>nb (by rw [z];exact agj.mpr rfl))).trans e⟩)
    (fun _ _ _ _ e=>e) (fun b o nb e=>⟨o,(sb.2 b (fun z=>nb (by rw [z];exact agj.mpr rfl))).trans e⟩) (fun _ _ e=>e) (fun _ _ _ e=>e) (fun b ps e=>⟨#[],by simpa using e⟩) (fun m hm=>hm.sameBut sb EN) (I7.cA.letGo I6.free sb),q⟩
   have eb:b=s3.heap.objs.size:=agj.mp hb
   subst eb
   refine⟨?_,Ne.symm EN,HX,fun p hp=>agN (afY (I3.pin p hp).1)⟩
   cases q9:X.s₀.heap.get? s3.heap.objs.size with
   | none=>rfl
   | some o=>exact absurd (Nat.lt_of_lt_of_le (afY q9) I3.sz) (Nat.lt_irrefl _)
  ·refine di (T.item (dZ X pins N scope s3.heap.objs.size s3 H3 fp) rfl rfl rfl hc i [] s5 σ5 H5 (fun _ _=>False) I5 (Hl rfl JM) Gy go) fun r s6 ⟨u,hr,h6⟩=>?_
   subst hr
   refine di h6 fun _ s7 ⟨x,H7,I7,r7,y7,Hm,RB⟩=>?_
   have RC:=I7.pinned (Hl rfl RB) (T.obj _ _ Hm)
   refine di (hg pins s3.heap.objs.size s3 H3 fp _ s7 σ5 H7 x u _ RC r7 (step x H7 y7)) fun _ s8 ⟨σ8,H8,I8,q8⟩=>?_
   refine di (vw (ht pins s3.heap.objs.size s3 H3 fp) I8 q8) fun b s9 ⟨H9,I9,q9⟩=>?_
   have back:∀ {σz:St} {Hz:Hp} {sz:Shared} {yz:List V},Inv (dZ X pins N scope s3.heap.objs.size s3 H3 fp) ([]++oH fp s7.heap) σz Hz sz->W (i+1) m' σz yz Hz ->
     ∃ m,m<n/\∃ i σ' ys H',Inv (dZ X pins N scope s3.heap.objs.size s3 H3 fp) [] σ' H' sz/\tn i sz.heap/\(∀ b∈fp,H' b=none)/\W i m σ' ys H':=fun {σz Hz sz yz} Iz wz=>by
    refine⟨m',Aq,i+1,σz,yz,Hz,Iz.fZ,T.keep _ _ _ Hm fun b hb o e=>(Iz.pin (b,o) (agh _ (agh _ (eS hb e)))).1,fun b hb=>?_,wz⟩
    obtain ⟨o,e,d⟩:=T.obj _ _ Hm b hb
    exact (Iz.pin (b,o) (agh _ (agh _ (eS hb e)))).2.1
   cases b with
   | false=>exact back I9 q9
   | true =>
    refine di (he pins s3.heap.objs.size s3 H3 fp _ s9 σ8 H9 _ I9 q9) fun v Cb ⟨y,CA,RD,RE,Ho,Hq,RF⟩=>?_
    refine di (cB _ Cb σ8 CA (.ref acc) [y] (.ref acc) [v] (fun _ H'=>H'=upd CA acc (.lst (ys++[y]))) RD rfl (.cons RE .nil) ⟨acc,ys,y,rfl,rfl,Ho,Hq,rfl⟩) fun _ E7 ⟨_,RG,RH,_,RI⟩=>?_
    subst RI
    exact back RH RF
 have E6:∃ m,h₁.Ns s3.heap.objs.size m:=⟨_,Hk⟩
 obtain ⟨m4,E6⟩:=E6
 have L:=loop _ ⟨m4,rfl,E6⟩
 exact codeAny_compStart_list L (T.self _ 0 _ _ _ (T.keep _ _ _ yf fun b _ o q=>old b o q) L)
end
section
variable {K:Frag}{H:Hp}{Q:VK}{D:Ends}{σ:St}
theorem join{t:TS}{u:St->Hp->Prop}(P:St->Hp->Prop)(h1:∀ nx:St->Hp->Prop,(∀ σ' H',P σ' H'->nx σ' H')->t { D with nx:=nx } σ H)(h2:∀ σ' H',P σ' H'->u σ' H'):t { D with nx:=u } σ H:=h1 u h2
end
def Ou(K:Frag):List V->Hp->VK->Prop:=fun xs H Q=>∃ (a:Addr) (bs:List Bool),xs=[.ref a]/\aW K H a (bs.map V.bl)/\Q (.bl (bs.all id)) H
theorem CL(bs:List Bool):((List.range bs.length).all fun i=>(bs[i]?).getD true)=bs.all id:=by
 rw [Bool.eq_iff_iff,all_eq_true,all_eq_true]
 constructor
 ·intro h b hb
  obtain ⟨i,hi,rfl⟩:=agS hb
  have:=h i (agy.mpr hi)
  simpa [agg hi] using this
 ·intro h i hi
  have SW:=agy.mp hi
  simpa [agg SW] using h _ (agR SW)
section
variable {X:Cx}
theorem Fs (hc:X.calm=true):dU X (.builtin "all") (Ou X.K):=by
 intro pins s σ H xs us Q I r h
 obtain ⟨a,bs,rfl,hs,q⟩:=h
 obtain ⟨u,rfl,ru⟩:=vals1 r
 cases ru
 obtain ⟨its,rv,p,_⟩:=I.list hs
 have hl:s.heap.IsList a its.toArray:=by
  obtain ⟨o,n,h1,h2,h3⟩:=p
  exact⟨o,h1,h2,n,h3.2⟩
 have xq:a<s.heap.objs.size:=by obtain ⟨_,e,_⟩:=hl;exact afY e
 have hh:X.A.handled=none:=I.ok.hd hc
 refine call_all_walk (wpAny_pyIter_list hl ?_)
 refine⟨s.heap.objs.size,[s.heap.objs.size,a],[s.heap.objs.size],its.toArray.size,_,_,fun i=>(bs[i]?).getD true,rfl,Walks.list (A:=X.A.in1) hh _ a (agN xq) its.toArray,
  ⟨⟨_,afZ _ rfl,rfl,rfl⟩,hl.push _⟩,fun i v s' Q' E' hP hQ=>?_,fun h' tk hk=>?_⟩
 ·have hP':its[i]?=some v:=by simpa using hP
  have hi:i<its.length:=(afX.mp hP').1
  have hb:i<bs.length:=by have:=rv.length;simp at this;lia
  obtain ⟨u1,e1,r1⟩:=rv.get (i:=i) (x:=.bl bs[i]) (by simp [hb])
  rw [hP'] at e1
  cases e1
  cases r1
  simp only [agg hb,Option.getD_some] at hQ
  exact wpAny_truthy_bool hQ
 ·have e:((List.range its.toArray.size).all fun i=>(bs[i]?).getD true)=bs.all id:=by
   have:=rv.length
   simp at this
   rw [agB,<- this];exact CL bs
  rw [e]
  exact⟨.bl (bs.all id),H,I.kept (t':=tk) (fun b x e=>hk b x (fun hm=>by rw [agj.mp hm] at e;exact Nat.lt_irrefl _ (afY e)) (afV _ e)),rfl,q⟩
theorem zv (K:Frag) (hK:X.K=K) (hc:X.calm=true):dU X (.builtin "all") (Ou K):=hK ▸ Fs hc
end
section
variable {K:Frag}{H:Hp}{Q:VK}{σ:St}
theorem Ee{a:Addr}{bs:List Bool}(e:aW K H a (bs.map V.bl))(h:Q (.bl (bs.all id)) H):Ou K [.ref a] H Q:=⟨a,bs,rfl,e,h⟩
theorem Ov{to ti:TE}{t:J5}{v:V}{R:St->Hp->Prop}(h:to σ H fun o H1=>ti σ H1 fun i H2=>t o i v H2 fun H3=>R σ H3):Q6 to ti t v σ H R:=h
theorem oO{p:Addr}{xs:List V}{k:Int}{j:Nat}{v:V}{R:Hp->Prop}(e:H p=some (.lst xs))(hj:Hg xs.length k=some j)(h:R (upd H p (.lst (xs.set j v)))):Ml (.ref p) (.int k) v H R:=⟨p,xs,k,j,rfl,rfl,e,hj,h⟩
end
section
variable {X:Cx}{pins:List (Addr×Obj)}{σ:St}{H:Hp}{s:Shared}
theorem Inv.wrote{a:Addr}{o o':Obj}{h':Heap}{t':Nat}(I:Inv X (pins++[(a,o)]) σ H s)(h0:X.s₀.heap.get? a=none)(hc:∀ x c,X.env.cells.lookup x=some c->c≠a)(hp:∀ p∈X.pn++pins,p.1≠a)
  (sb:Heap.SameBut a s.heap h') (e:h'.get? a=some o') (d:∀ v,o'.data≠.cell v):Inv X (pins++[(a,o')]) σ H { s with heap:=h',toks:=t' }:=by
 obtain ⟨g1,g2,g3,g4,g5⟩:=I.pin (a,o) (agh _ (agh _ (agj.mpr rfl)))
 have I1:Inv X pins σ H s:=I.fZ
 have nm:∀ {b:Addr},b∉[a]->b≠a:=fun nb z=>nb (agj.mpr z)
 have I2:Inv X pins σ H { s with heap:=h',toks:=t' }:=Inv.Ed (ch:=[a]) I1 (fun b hb=>by
   have eb:b=a:=agj.mp hb
   subst eb
   exact⟨h0,g3,hc,hp⟩) (fun b ob _ _ nb q _=>(sb.2 b (nm nb)).trans q) (fun b ob _ _ nb q _=>⟨ob.slots,(sb.2 b (nm nb)).trans q⟩)
   (fun _ _ _ _ q=>q) (fun b ob nb q=>⟨ob,(sb.2 b (nm nb)).trans q⟩) (fun _ _ q=>q) (fun _ _ _ q=>q) (fun b ps q=>⟨#[],by simpa using q⟩) (fun m hm=>hm.sameBut sb (Ne.symm g3)) (I1.cA.letGo g2 sb)
 exact I2.kF fun p hp=>(agk.mp hp).elim (fun z=>I2.pin p (agh _ z)) fun z=>by
  rw [agj.mp z]
  exact⟨e,g2,g3,g4,d⟩
end
inductive PV:List (Int×V)->List (Int×Value)->Prop where
 | nil:PV [] []
 | cons {k:Int} {x:V} {u:Value} {qs ps} (r:RelV x u) (t:PV qs ps):PV ((k,x)::qs) ((k,u)::ps)
theorem PV.zip:∀ {kz:List Int} {xs:List V} {vs:List Value},Vals xs vs->PV (kz.zip xs) (kz.zip vs)
 | [],_,_,_=>.nil
 | _::_,_,_,.nil=>.nil
 | _::_,_,_,.cons r t=>.cons r (PV.zip t)
theorem PV.perm{ps ps':List (Int×Value)}(h:ps'.Perm ps):∀ {qs:List (Int×V)},PV qs ps->∃ Ef:List (Int×V),Ef.Perm qs/\PV Ef ps':=by
 induction h with
 | nil=>intro qs h;exact⟨qs,.refl _,h⟩
 | cons x _ ih =>
  intro qs h
  cases h with
  | cons r t =>
   obtain ⟨Ef,p,z⟩:=ih t
   exact⟨_::Ef,p.cons _,.cons r z⟩
 | swap x y l =>
  intro qs h
  cases h with
  | cons r t =>
   cases t with
   | cons r2 t2=>exact⟨_::_::_,.swap _ _ _,.cons r2 (.cons r t2)⟩
 | trans _ _ W5 W6 =>
  intro qs h
  obtain ⟨q1,p1,z1⟩:=W6 h
  obtain ⟨q2,p2,z2⟩:=W5 z1
  exact⟨q2,p2.trans p1,z2⟩
theorem PV.vals:∀ {qs:List (Int×V)} {ps:List (Int×Value)},PV qs ps->Vals (qs.map Prod.snd) (ps.map Prod.snd)/\qs.map Prod.fst=ps.map Prod.fst
 | _,_,.nil=>⟨.nil,rfl⟩
 | _,_,.cons r t=>⟨.cons r t.vals.1,by rw [map_cons,map_cons,t.vals.2]⟩
section
variable {X:Cx}{pins:List (Addr×Obj)}{σ:St}{H:Hp}{s:Shared}
theorem Eg{p:Addr×Obj}(I:Inv X (pins++[p]) σ H s):s.heap.get? p.1=some p.2:=(I.pin p (agh _ (agh _ (agj.mpr rfl)))).1
theorem Xs{kA:Array Value}{kz:List Int}{j:Nat}{n:Int}{t:Tok}(hk:IntsAre kA.toList (kz.take j))(hn:kz[j]?=some n):IntsAre (kA.push (.int n t)).toList (kz.take (j+1)):=by
 rw [Array.toList_push,take_add_one,hn]
 exact ksk_snoc hk
end
theorem KY{h:Heap}{a:Addr}{m m':Str->Option Value}(x:h.Ns a m)(y:h.Ns a m'):m=m':=by
 obtain ⟨o1,es1,ep1,VL,Xt,_,hf1⟩:=x
 obtain ⟨o2,es2,ep2,Cu,hd2,_,hf2⟩:=y
 rw [VL] at Cu;cases Cu;rw [Xt] at hd2;cases hd2
 funext z
 rw [<- hf1,<- hf2]
def gp(b:Bool)(kz:List Int)(xs ys:List V):Prop:=∃ qs:List (Int×V),qs.Perm (kz.zip xs)/\ys=qs.map Prod.snd/\qs.Pairwise (fun p q=>if b then q.1<=p.1 else p.1<=q.1)
theorem A4{b:Bool}:∀ {qs:List (Int×V)} {ps:List (Int×Value)},PV qs ps->ps.Pairwise (fun p q=>if b then q.1<=p.1 else p.1<=q.1)->qs.Pairwise (fun p q=>if b then q.1<=p.1 else p.1<=q.1)
 | _,_,.nil,_=>.nil
 | _,_,.cons (k:=k) (qs:=qs) (ps:=ps) r t,h=>by
  obtain ⟨h1,h2⟩:=agP.mp h
  refine agP.mpr ⟨fun q hq=>?_,A4 t h2⟩
  have hm:q.1∈ps.map Prod.fst:=by rw [<- t.vals.2];exact agr.mpr ⟨q,hq,rfl⟩
  obtain ⟨p,hp,e⟩:=agr.mp hm
  have:=h1 p hp
  rw [e] at this
  exact this
theorem Ft{b:Bool}{kz:List Int}{xs:List V}{vs out:List Value}(hv:Vals xs vs)(h:KskOut b kz vs out):∃ ys,Vals ys out/\gp b kz xs ys:=by
 obtain ⟨ps,hp,rfl,hw⟩:=h
 obtain ⟨qs,h1,h2⟩:=PV.perm hp (PV.zip hv)
 exact⟨qs.map Prod.snd,h2.vals.1,qs,h1,rfl,A4 h2 hw⟩
theorem gp.length{b:Bool}{kz:List Int}{xs ys:List V}(h:gp b kz xs ys)(hl:kz.length=xs.length):ys.length=xs.length:=by
 obtain ⟨qs,p,rfl,_⟩:=h
 rw [agm,p.length_eq,List.length_zip,hl,Nat.min_self]
section
variable {X:Cx}{pins:List (Addr×Obj)}{σ:St}{H:Hp}{s:Shared}
def others(h:Heap)(L k a:Addr):List (Addr×Obj):=(List.range h.objs.size).filterMap fun b=>if b=L\/b=k\/b=a then none else (h.get? b).map fun o=>(b,o)
theorem kN{h:Heap}{L k a b:Addr}{o:Obj}(e:h.get? b=some o)(n1:b≠L)(n2:b≠k)(n3:b≠a):(b,o)∈others h L k a :=
 mem_filterMap.mpr ⟨b,agy.mpr (afY e),by rw [if_neg (by simp [n1,n2,n3]),e];rfl⟩
theorem nP{h:Heap}{L k a:Addr}{p:Addr×Obj}(hp:p∈others h L k a):h.get? p.1=some p.2/\p.1≠L/\p.1≠k/\p.1≠a:=by
 obtain ⟨b,_,e⟩:=mem_filterMap.mp hp
 by_cases hb:b=L\/b=k\/b=a
 ·rw [if_pos hb] at e;cases e
 ·rw [if_neg hb] at e
  cases q:h.get? b with
  | none=>rw [q] at e;cases e
  | some o =>
   rw [q] at e
   cases e
   exact⟨q,fun z=>hb (.inl z),fun z=>hb (.inr (.inl z)),fun z=>hb (.inr (.inr z))⟩
theorem HY{a kS:Addr}{e1 e:Nat}{kA:Array Value}{b:Bool}{vs:List Value}{xs:List V}{kz:List Int}{P:PySem.Fin->Shared->Prop}{E:Value->Shared->Prop}
  (I:Inv X ((pins++[(a,seqObj "list" #[] e1)])++[(kS,seqObj "list" kA e)]) σ H s)
  (ha:X.s₀.heap.get? a=none/\(∀ x c,X.env.cells.lookup x=some c->c≠a)/\∀ p∈X.pn++pins,p.1≠a)
  (VM:X.s₀.heap.get? kS=none/\(∀ x c,X.env.cells.lookup x=some c->c≠kS)/\∀ p∈X.pn++(pins++[(a,seqObj "list" #[] e1)]),p.1≠kS)
  (hk:IntsAre kA.toList kz) (hv:Vals xs vs) (hlen:kz.length=vs.length) (HZ:vs.length<64)
  (hP:∀ h' tk ys,Inv X pins σ (upd H a (.lst ys)) { s with heap:=h',toks:=tk }->gp b kz xs ys->P (.done (.ret .none)) { s with heap:=h',toks:=tk }) :
  wpAny (model X.prog X.w) X.A.in1.in1 (ksk_end a b vs.toArray e1 (.ref kS) kA) P E s:=by
 obtain ⟨k1,k2,k3,k4,_⟩:=I.pin (kS,seqObj "list" kA e) (agh _ (agh _ (agj.mpr rfl)))
 obtain ⟨a1,a2,a3,a4,_⟩:=I.pin (a,seqObj "list" #[] e1) (agh _ (agi _ (agh _ (agj.mpr rfl))))
 have hka:kS≠a:=fun z=>VM.2.2 (a,seqObj "list" #[] e1) (agh _ (agh _ (agj.mpr rfl))) z.symm
 have I1:Inv X pins σ H s:=I.fZ.fZ
 obtain ⟨m,hn,_⟩:=id I1.loc
 have em:∀ b:Addr,({}:Heap).get? b=none:=fun b=>Heap.get?_none_of_le (agM _)
 refine ksk_end_ (h₀:=({}:Heap)) (L:=X.env.locals) (m:=m) (news:=others s.heap X.env.locals kS a) (e:=e) ⟨hn,fun b o q=>(by rw [em b] at q;cases q),agM _⟩ (fun p hp=>?_) hka (fun p hp=>(nP hp).2.2.1) (fun p hp=>(nP hp).2.2.2) hk hlen HZ (fun h' tk out c F' N' ko=>?_)
 ·rcases agk.mp hp with z|z
  ·exact⟨(nP z).1,(nP z).2.1,em _⟩
  ·rcases agq.mp z with rfl|z
   ·exact⟨k1,k3,em _⟩
   ·rw [agj.mp z]
    exact⟨a1,a3,em _⟩
 ·obtain ⟨ys,ry,so⟩:=Ft hv ko
  have kp:∀ b o,s.heap.get? b=some o->b≠X.env.locals->b≠kS->b≠a->h'.get? b=some o:=fun b o q n1 n2 n3=>(N' (b,o) (.tail _ (kN q n1 n2 n3))).1
  have na:h'.get? a=some (seqObj "list" out c):=(N' (a,seqObj "list" out c) (.head _)).1
  have nm:∀ {b:Addr},b∉[a,kS]->b≠a/\b≠kS:=fun nb=>⟨fun z=>nb (by rw [z];exact .head _),fun z=>nb (by rw [z];exact .tail _ (.head _))⟩
  refine hP h' tk ys (Inv.Ed (ch:=[a,kS]) I1 (fun b hb=>?_) (fun b o nL _ nb q _=>kp b o q nL (nm nb).2 (nm nb).1) (fun b o nL _ nb q _=>⟨o.slots,kp b o q nL (nm nb).2 (nm nb).1⟩)
   (fun b o nb _ q=>by rw [aG (nm nb).1];exact q) (fun b o nb q=>?_) (fun b ys q=>by rw [aG (bE q a2)];exact q) (fun b o u q=>by rw [aG (bE q a2)];exact q) (fun b ps q=>⟨#[],by rw [aG (bE q a2)];simpa using q⟩)
   (fun m0 h0=>KY hn h0 ▸ F'.ns) (fun b o q=>?_)) so
  ·rcases agq.mp hb with rfl|hb
   ·exact⟨ha.1,a3,ha.2.1,ha.2.2⟩
   ·have eb:b=kS:=agj.mp hb
    subst eb
    exact⟨VM.1,k3,VM.2.1,fun p hp=>VM.2.2 p ((agk.mp hp).elim (fun z=>agi _ z) fun z=>agh _ (agi _ z))⟩
  ·by_cases nL:b=X.env.locals
   ·subst nL
    obtain ⟨oL,_,_,WE,_⟩:=F'.ns
    exact⟨oL,WE⟩
   ·exact⟨o,kp b o q nL (nm nb).2 (nm nb).1⟩
  ·by_cases hb:b=a
   ·subst hb
    rw [aw] at q
    cases q
    refine⟨?_,out.toList,c,ry,by simpa using na⟩
    have:=so.length (hlen.trans hv.length.symm)
    rw [this,hv.length,sizeLine_eq]
    lia
   ·rw [aG hb] at q
    have tr:∀ d u,H d=some u->d≠X.env.locals/\d≠kS/\d≠a:=fun d u z=>⟨fun w=>(by rw [w,I1.free] at z;cases z),fun w=>(by rw [w,k2] at z;cases z),fun w=>(by rw [w,a2] at z;cases z)⟩
    refine (I1.cA b o q).oB (fun d u hd z=>?_) (fun d z=>by rw [aG (bE z a2)];exact z) fun d xs z=>by rw [aG (bE z a2)];exact z
    have td:d≠X.env.locals/\d≠kS/\d≠a:=by
     rcases hd with rfl|hd
     ·exact tr _ _ q
     ·exact tr _ _ hd
    exact kp d u z td.1 td.2.1 td.2.2
end
mutual
inductive fH(K:Frag)(H:Hp):V->PyData->Prop where
 | fw:fH K H .fw .none
 | bl (b:Bool):fH K H (.bl b) (.bool b)
 | int (i:Int):fH K H (.int i) (.int i)
 | str (x:Str):fH K H (.str x) (.str x)
 | tup {a:Addr} {xs:List V} {ds:List PyData} (h:aZ K H a xs) (t:Tells K H xs ds):fH K H (.ref a) (.tuple ds)
 | lst {a:Addr} {xs:List V} {ds:List PyData} (h:aW K H a xs) (t:Tells K H xs ds):fH K H (.ref a) (.list ds)
inductive Tells(K:Frag)(H:Hp):List V->List PyData->Prop where
 | nil:Tells K H [] []
 | cons {x:V} {d:PyData} {xs:List V} {ds:List PyData} (h:fH K H x d) (t:Tells K H xs ds):Tells K H (x::xs) (d::ds)
end
section
variable {X:Cx}{pins:List (Addr×Obj)}{σ:St}{H:Hp}{s:Shared}
mutual
theorem fH.reads(I:Inv X pins σ H s):∀ {v:V} {d:PyData} {u:Value},fH X.K H v d->RelV v u->∃ as,Reads s.heap u d as
 | _,_,u,.fw,r=>by cases (show u=Value.none from r);exact⟨_,.none⟩
 | _,_,u,.bl b,r=>by cases (show u=Value.bool b from r);exact⟨_,.bool b⟩
 | _,_,u,.int i,r=>by
  obtain ⟨t,q⟩:=(show ∃ t,u=Value.int i t from r)
  cases q
  exact⟨_,.int i t⟩
 | _,_,u,.str x,r=>by
  obtain ⟨t,q⟩:=(show ∃ t,u=Value.str x t from r)
  cases q
  exact⟨_,.str x t⟩
 | _,_,u,.tup (a:=a) h t,r=>by
  cases (show u=Value.ref a from r)
  obtain ⟨its,rv,p,_⟩:=I.tuple h
  obtain ⟨o,h1,h2,n,h3⟩:=p
  obtain ⟨as,ra⟩:=Tells.reads I t rv
  exact⟨_,reads_tuple_at h1 h2 h3 (by simpa using ra)⟩
 | _,_,u,.lst (a:=a) h t,r=>by
  cases (show u=Value.ref a from r)
  obtain ⟨its,rv,p,_⟩:=I.list h
  obtain ⟨o,n,h1,h2,h3⟩:=p
  obtain ⟨as,ra⟩:=Tells.reads I t rv
  exact⟨_,reads_list_at h1 h2 h3.2 (by simpa using ra)⟩
theorem Tells.reads(I:Inv X pins σ H s):∀ {vs:List V} {ds:List PyData} {us:List Value},Tells X.K H vs ds->Vals vs us->∃ as,ReadsAll s.heap us ds as
 | _,_,_,.nil,.nil=>⟨_,.nil⟩
 | _,_,_,.cons h t,.cons r rs=>by
  obtain ⟨as,ra⟩:=fH.reads I h r
  obtain ⟨bs,rb⟩:=Tells.reads I t rs
  exact⟨_,.cons ra rb⟩
end
def Fu(K:Frag)(neg:Bool):R2:=fun x y H Q=>∃ d e,fH K H x d/\fH K H y e/\SeqAt.shaped d=true/\SeqAt.shaped e=true/\Q (.bl (if neg then !PyData.eqv d e else PyData.eqv d e)) H
theorem Ow(hu:X.A.units+64<cLine):pM X (compareOp .Eq) (Fu X.K false):=by
 intro pins s σ H x y v u Q I rx ry h
 obtain ⟨d,e,hd,he,sd,se,q⟩:=h
 obtain ⟨as,ra⟩:=hd.reads I rx
 obtain ⟨bs,rb⟩:=he.reads I ry
 exact eq_dataH ra rb sd se hu ⟨.bl (PyData.eqv d e),H,I,rfl,q⟩
theorem Ox(hu:X.A.units+64<cLine):pM X (compareOp .NotEq) (Fu X.K true):=by
 intro pins s σ H x y v u Q I rx ry h
 obtain ⟨d,e,hd,he,sd,se,q⟩:=h
 obtain ⟨as,ra⟩:=hd.reads I rx
 obtain ⟨bs,rb⟩:=he.reads I ry
 exact ne_dataH ra rb sd se hu ⟨.bl (!PyData.eqv d e),H,I,rfl,q⟩
variable {K:Frag}
theorem iR(K:Frag)(hK:X.K=K)(hu:X.A.units+64<cLine):pM X (compareOp .Eq) (Fu K false):=hK ▸ Ow hu
theorem Eh(K:Frag)(hK:X.K=K)(hu:X.A.units+64<cLine):pM X (compareOp .NotEq) (Fu K true):=hK ▸ Ox hu
end
section
variable {K:Frag}{H:Hp}{Q:VK}
theorem lU{x y:V}{d e:PyData}(hd:fH K H x d)(he:fH K H y e)(sd:SeqAt.shaped d=true)(se:SeqAt.shaped e=true)(h:Q (.bl (PyData.eqv d e)) H):Fu K false x y H Q:=⟨d,e,hd,he,sd,se,h⟩
theorem MF{x y:V}{d e:PyData}(hd:fH K H x d)(he:fH K H y e)(sd:SeqAt.shaped d=true)(se:SeqAt.shaped e=true)(h:Q (.bl (!PyData.eqv d e)) H):Fu K true x y H Q:=⟨d,e,hd,he,sd,se,h⟩
def Rows(K:Frag)(H:Hp)(xs:List V)(rs:List (List Int)):Prop:=Tells K H xs (rs.map fun r=>.tuple (r.map PyData.int))
theorem Tells.ints:∀ (r:List Int),Tells K H (r.map V.int) (r.map PyData.int)
 | []=>.nil
 | i::r=>.cons (.int i) (Tells.ints r)
theorem fH.row{a:Addr}{r:List Int}(h:aZ K H a (r.map V.int)):fH K H (.ref a) (.tuple (r.map PyData.int)):=.tup h (Tells.ints r)
end
end L2
namespace L2
open PySem PySem.Spec PyProof.Rows
section
variable {K:Frag}{g:TG}{D:Ends}{σ:St}{H:Hp}
theorem Ei{J:It}{tb:TS}(n:Nat)(Pv:Nat->St->Hp->Prop)(h0:Pv 0 σ H)(Kr:∀ i σ H2,i<n->Pv i σ H2->J.go i H2)(pY:∀ σ H2,Pv n σ H2->J.stop n H2)
  (hs:∀ i x σ H2 H3,i<n->Pv i σ H2->J.J6 i H2 x H3->g x σ H3 fun σ2 H4=>tb { D with nx:=Pv (i+1),ct:=Pv (i+1),bk:=D.nx } σ2 H4) (hd:∀ σ H2,Pv n σ H2->D.nx σ H2):nN g tb D J σ H:=by
 refine⟨fun i m σ2 H2=>m=n - i/\i<=n/\Pv i σ2 H2,⟨n,by simp,agM _,h0⟩,?_⟩
 rintro i m σ2 H2 ⟨rfl,hi,p⟩
 by_cases xq:i<n
 ·exact .inr ⟨Kr i σ2 H2 xq p,Pv (i+1),fun σ' H' p'=>⟨n - (i+1),by lia,rfl,xq,p'⟩,fun x H' y=>hs i x σ2 H2 H' xq p y⟩
 ·have e:i=n:=by lia
  subst e
  exact .inl ⟨pY σ2 H2 p,hd σ2 H2 p⟩
theorem kO{lo:Int}{n:Nat}{tb:TS}(Pv:Nat->St->Hp->Prop)(h0:Pv 0 σ H)(hs:∀ i σ H2,i<n->Pv i σ H2->g (.int (lo+i)) σ H2 fun σ2 H4=>tb { D with nx:=Pv (i+1),ct:=Pv (i+1),bk:=D.nx } σ2 H4)(hd:∀ σ H2,Pv n σ H2->D.nx σ H2):nN g tb D (Gx lo n) σ H:=by
 refine Ei n Pv h0 (fun i σ H2 hi _=>hi) (fun σ H2 _=>af1 _) (fun i x σ H2 H3 hi p y=>?_) hd
 obtain ⟨rfl,rfl⟩:=y
 exact hs i σ _ hi p
theorem iA{a:Addr}{xs:List V}{tb:TS}(Pv:Nat->St->Hp->Prop)(h0:Pv 0 σ H)(ha:∀ i σ H2,Pv i σ H2->aW K H2 a xs)(hs:∀ i x σ H2,xs[i]?=some x->Pv i σ H2->g x σ H2 fun σ2 H4=>tb { D with nx:=Pv (i+1),ct:=Pv (i+1),bk:=D.nx } σ2 H4)(hd:∀ σ H2,Pv xs.length σ H2->D.nx σ H2):nN g tb D (JK K a) σ H:=by
 refine Ei xs.length Pv h0 (fun i σ H2 hi p=>⟨xs,xs[i],ha i σ H2 p,agg hi⟩) (fun σ H2 p=>⟨xs,ha _ σ H2 p,af1 _⟩) (fun i x σ H2 H3 hi p y=>?_) hd
 obtain ⟨rfl,e⟩:=y
 exact hs i x σ _ (e xs (ha i σ _ p)) p
end
def Oy(K:Frag):List V->Hp->VK->Prop:=fun xs H Q=>∃ (a:Addr) (ns:List Int),xs=[.ref a]/\aW K H a (ns.map V.int)/\Q (.int ns.sum) H
def H0(K:Frag):List V->Hp->VK->Prop:=fun xs H Q=>∃ (a:Addr) (ns:List Int),xs=[.ref a]/\aW K H a (ns.map V.int)/\ns≠[]/\∀ m,m∈ns->(∀ x∈ns,x<=m)->Q (.int m) H
section
variable {X:Cx}
theorem Fv (hc:X.calm=true):dU X (.builtin "sum") (Oy X.K):=by
 intro pins s σ H xs us Q I r h
 obtain ⟨a,ns,rfl,hs,q⟩:=h
 obtain ⟨u,rfl,ru⟩:=vals1 r
 cases ru
 obtain ⟨its,rv,p,_⟩:=I.list hs
 have hl:s.heap.IsList a its.toArray:=by
  obtain ⟨o,n,h1,h2,h3⟩:=p
  exact⟨o,h1,h2,n,h3.2⟩
 have hh:X.A.handled=none:=I.ok.hd hc
 have hi:IntsAre its ns:=intsAre_of rv
 obtain ⟨zs,hx⟩:=hi.allInts.items
 have hn:numsOf its.toArray.toList=ns:=by rw [show its.toArray.toList=its from rfl,hi.numsOf]
 rw [hx] at hl hn
 rw [nums_intItems] at hn
 refine sum_intListG hh hl fun h' tk t' hk=>?_
 rw [preSum_eq,agG (by simp),hn]
 exact⟨.int ns.sum,H,I.kept (t':=tk) hk,⟨t',rfl⟩,q⟩
theorem Fw (hc:X.calm=true):dU X (.builtin "max") (H0 X.K):=by
 intro pins s σ H xs us Q I r h
 obtain ⟨a,ns,rfl,hs,xt,q⟩:=h
 obtain ⟨u,rfl,ru⟩:=vals1 r
 cases ru
 obtain ⟨its,rv,p,_⟩:=I.list hs
 have hl:s.heap.IsList a its.toArray:=by
  obtain ⟨o,n,h1,h2,h3⟩:=p
  exact⟨o,h1,h2,n,h3.2⟩
 have hh:X.A.handled=none:=I.ok.hd hc
 have hi:IntsAre its ns:=intsAre_of rv
 obtain ⟨zs,hx⟩:=hi.allInts.items
 have hn:numsOf its.toArray.toList=ns:=by rw [show its.toArray.toList=its from rfl,hi.numsOf]
 rw [hx] at hl hn
 rw [nums_intItems] at hn
 have xj:0<zs.size:=by
  rcases Nat.eq_zero_or_pos zs.size with z|z
  ·exfalso;apply xt;rw [<- hn];apply List.eq_nil_of_length_eq_zero;rw [agm,Array.length_toList,z]
  ·exact z
 refine max_intList hh hl xj fun v h' tk hv hk=>?_
 obtain ⟨t,rfl⟩:=intItems_at hv
 obtain ⟨h1,h2⟩:=argBest_gt (numAt zs) (zs.size - 1)
 refine⟨.int _,H,I.kept (t':=tk) hk,⟨t,rfl⟩,q _ ?_ fun b hb=>?_⟩
 ·rw [<- hn,numAt_eq];exact getD_mem (by rw [agm,Array.length_toList];lia)
 ·rw [<- hn] at hb
  obtain ⟨j,hj,rfl⟩:=mem_getD hb
  rw [agm,Array.length_toList] at hj
  rw [<- numAt_eq];exact h2 j (by lia)
theorem CM (K:Frag) (hK:X.K=K) (hc:X.calm=true):dU X (.builtin "sum") (Oy K):=hK ▸ Fv hc
theorem KZ (K:Frag) (hK:X.K=K) (hc:X.calm=true):dU X (.builtin "max") (H0 K):=hK ▸ Fw hc
end
section
variable {K:Frag}{H:Hp}{Q:VK}{σ:St}{ix:List (Option Nat)}
theorem Ia{a:Addr}{ns:List Int}(e:aW K H a (ns.map V.int))(h:Q (.int ns.sum) H):Oy K [.ref a] H Q:=⟨a,ns,rfl,e,h⟩
theorem Oz{a:Addr}{ns:List Int}(e:aW K H a (ns.map V.int))(n:ns≠[])(h:∀ m,m∈ns->(∀ x∈ns,x<=m)->Q (.int m) H):H0 K [.ref a] H Q:=⟨a,ns,rfl,e,n,h⟩
theorem Ej{k1 k2:Bool}{a b:Addr}{r q:List Int}(kL:pick ix σ=[none,none])(ha:Sq k1 K H a (r.map V.int))(hb:Sq k2 K H b (q.map V.int))(hlen:r.length=q.length)(hn:r.length<=1000)(hm:∀ i,i<r.length->i7 (r.getD i 0) (q.getD i 0))
  (hQ:∀ l H',H l=none->aj H H'->H' l=some (.lst ((List.zipWith (·*·) r q).map V.int))->Q (.ref l) H') :
  bR ix (yY K 2 (i5 (cO 0) (i5 (cO 1) Ax))) (fun _ H Q=>Q true H) (Mf (rI i7 fun i j=>.int (i*j)) (yX 0) (yX 1)) σ Q (Kp K k1 k2 a b) H:=by
 refine AQ (k1:=k1) (k2:=k2) [] (fun i=>.int (r.getD i 0*q.getD i 0)) kL ha hb (by simpa using hlen) (by rw [agm];lia) (fun i x y H' Qc ex ey hs kc=>?_) fun l H' hl hs jD=>hQ l H' hl hs ?_
 ·obtain ⟨rfl,hi⟩:=d9 (r:=r) ex
  obtain ⟨rfl,_⟩:=d9 (r:=q) ey
  exact⟨_,rfl,_,rfl,_,_,rfl,rfl,hm i hi,kc _ (aj.refl _)⟩
 ·rw [jD]
  congr 2
  apply ext_getElem (by simp [hlen])
  intro i h1 h2
  have h3:i<r.length:=by simpa using h1
  have h4:i<q.length:=by lia
  simp [List.getD,h3,h4]
end
end L2
namespace L2
open PySem
structure En(k:Bool)(n a:Nat)(i:Nat)(h:Heap):Prop where
 ob:∃ last:Value,IsEnum h (n+1) n i last
 src:md k h n a i
section
variable {prog:Program}{w:World}{A:Around}{E:Value->Shared->Prop}{s:Shared}
theorem K0{k:Bool}{n a:Nat}{i:Nat}{xs:Array Value}{x:Value}{Q:Value->Shared->Prop}(Z:En k n a i s.heap)(ha:a<n)(hs:d0 k s.heap a xs)(hx:xs[i]?=some x)
  (hQ:∀ h' t,IsEnumOut h' (n+1) n ((i:Int)+1) x s.heap.objs.size->md k h' n a (i+1)->IsT h' s.heap.objs.size #[.int i t,x]->h'.objs.size=s.heap.objs.size+1->Off [n,n+1] s.heap h'->Q (.ref s.heap.objs.size) { s with heap:=h',toks:=s.toks+1 }) :
  wpAny (model prog w) A (Builtin.«enumerate.__next__» ⟨[.ref (n+1)],[]⟩) (fun fin s'=>∃ v,fin=.done (.ret v)/\Q v s') E s:=by
 obtain ⟨⟨last,ob⟩,src⟩:=Z
 obtain ⟨hp,gg,dd,tt,oo⟩:=s
 have n1:(n+1:Addr)≠n:=i6 (by lia)
 show wpAny _ _ (field (.ref (n+1)) 2 >>= _) _ _ _
 refine afW (wpAny_field ob rfl (x:=.ref n) rfl (afW (pX src hs hx fun g1 SX q1=>?_)))
 replace q1:Heap.SameBut n hp g1:=q1
 have VN:IsEnum g1 (n+1) n i last:=(q1.2 _ n1).trans ob
 show wpAny _ _ (field (.ref (n+1)) 3 >>= _) _ _ ⟨g1,gg,dd,tt,oo⟩
 refine afW (wpAny_field VN rfl (x:=rawInt i) rfl ?_)
 show wpAny _ _ (field (.ref (n+1)) 4 >>= _) _ _ ⟨g1,gg,dd,tt,oo⟩
 refine afW (wpAny_field VN rfl (x:=.none) rfl ?_)
 show wpAny _ _ (mkInt i >>= _) _ _ ⟨g1,gg,dd,tt,oo⟩
 refine afW (wpAny_mkInt ?_)
 show wpAny _ _ (setField (.ref (n+1)) 3 (rawInt ((i:Int)+1)) >>= _) _ _ ⟨g1,gg,dd,tt+1,oo⟩
 refine afW (wpAny_setField_rec VN (by simp) fun g2 Qm q2=>?_)
 replace q2:Heap.SameBut (n+1) g1 g2:=q2
 replace Qm:IsEnum g2 (n+1) n ((i:Int)+1) last:=Qm
 show wpAny _ _ (setField (.ref (n+1)) 4 .none >>= _) _ _ ⟨g2,gg,dd,tt+1,oo⟩
 refine afW (wpAny_setField_rec Qm (by simp) fun g3 VO q3=>?_)
 replace q3:Heap.SameBut (n+1) g2 g3:=q3
 replace VO:IsEnum g3 (n+1) n ((i:Int)+1) last:=VO
 show wpAny _ _ (newTuple [.int i tt,x] >>= _) _ _ ⟨g3,gg,dd,tt+1,oo⟩
 refine afW (wpAny_newTuple ?_)
 have z3:g3.objs.size=hp.objs.size:=by rw [q3.1,q2.1,q1.1]
 have elt:n+1<hp.objs.size:=afY ob
 obtain ⟨g4,e4⟩:∃ g4,g4=g3.push { cls:=.type "tuple",data:=.seq #[.int i tt,x] }:=⟨_,rfl⟩
 have Xu:IsEnum g4 (n+1) n ((i:Int)+1) last:=by rw [e4];exact afV _ VO
 have t4:IsT g4 hp.objs.size #[.int i tt,x]:=by rw [e4,<- z3];exact afZ _ rfl
 have z4:g4.objs.size=hp.objs.size+1:=by rw [e4,Heap.size_push,z3]
 have o4:Off [n,n+1] hp g4:=by
  rw [e4]
  exact (((Off.of q1 (by simp)).trans (Off.of q2 (by simp))).trans (Off.of q3 (by simp))).trans (Off.push _)
 have Xv:md k g4 n a (i+1):=SX.keep fun o e=>by
  rw [e4]
  exact afV _ ((q3.2 _ n1.symm).trans ((q2.2 _ n1.symm).trans e))
 show wpAny _ _ (Builtin.SmallTypes.ownedTupleIsFree (.ref (n+1)) >>= _) _ _ ⟨_,gg,dd,tt+1,oo⟩
 rw [z3,<- e4]
 clear e4 VO q3 Qm q2 VN q1 SX z3
 refine afW ?_
 unfold Builtin.SmallTypes.ownedTupleIsFree
 refine afW (wpAny_field Xu rfl (x:=.none) rfl (agc ?_))
 rw [if_pos rfl]
 refine afW (wpAny_rule (afW (wpAny_field Xu rfl (x:=last) rfl (afW (wpAny_setField_rec Xu (by simp) fun g5 Xw q5=>?_)))))
 replace q5:Heap.SameBut (n+1) g4 g5:=q5
 replace Xw:IsEnum g5 (n+1) n ((i:Int)+1) x:=Xw
 show wpAny _ _ (Builtin.SmallTypes.ownedTupleHandOut (.ref (n+1)) (.ref hp.objs.size) >>= _) _ _ ⟨g5,gg,dd,tt+1,oo⟩
 refine afW ?_
 unfold Builtin.SmallTypes.ownedTupleHandOut
 refine afW (wpAny_setField_rec Xw (by simp) fun g6 Xx q6=>?_)
 replace q6:Heap.SameBut (n+1) g5 g6:=q6
 replace Xx:IsEnumOut g6 (n+1) n ((i:Int)+1) x hp.objs.size:=Xx
 refine wpAny_setField_rec Xx (by simp) fun g7 Xy q7=>?_
 replace q7:Heap.SameBut (n+1) g6 g7:=q7
 replace Xy:IsEnumOut g7 (n+1) n ((i:Int)+1) x hp.objs.size:=Xy
 have up:∀ c o,c≠n+1->g4.get? c=some o->g7.get? c=some o:=fun c o hc e=>(q7.2 _ hc).trans ((q6.2 _ hc).trans ((q5.2 _ hc).trans e))
 refine afW (wpAny_letGo (agc ⟨_,rfl,hQ g7 tt Xy (Xv.keep fun o e=>up _ o n1.symm e) (up _ _ (Nat.ne_of_gt elt) t4) (by rw [q7.1,q6.1,q5.1,z4]) fun c o hc e=>?_⟩))
 exact up c o (fun z=>hc (by simp [z])) (o4 c o hc e)
theorem Fx{k:Bool}{n a:Nat}{i:Nat}{xs:Array Value}{x:Value}{Q:Option Value->Shared->Prop}(Z:En k n a i s.heap)(ha:a<n)(hs:d0 k s.heap a xs)(hx:xs[i]?=some x)
  (hQ:∀ h' t,IsEnumOut h' (n+1) n ((i:Int)+1) x s.heap.objs.size->md k h' n a (i+1)->IsT h' s.heap.objs.size #[.int i t,x]->h'.objs.size=s.heap.objs.size+1->Off [n,n+1] s.heap h'->Q (some (.ref s.heap.objs.size)) { s with heap:=h',toks:=s.toks+1 }) :
  wpAny (model prog w) A (pyNext (.ref (n+1))) Q E s:=by
 have ty:s.TypeIs (.ref (n+1)) "enumerate":=by obtain ⟨last,ob⟩:=Z.ob;exact⟨_,ob,rfl⟩
 unfold pyNext
 exact afW (wpAny_attempt (wpAny_callSpecial?_slot (name:=Str.ofString "__next__") ty F.slot_enumerate_next (wpAny_call_entry F.slot_enumerate_next ty F.entry_enumerate_next
  (K0 Z ha hs hx fun h' t b1 b2 b3 b4 b5=>agc (hQ h' t b1 b2 b3 b4 b5)) (F.args_enumerate_next_1 _))))
theorem xu{k:Bool}{n a:Nat}{i:Nat}{xs:Array Value}{Q:Option Value->Shared->Prop}(hh:A.handled=none)(Z:En k n a i s.heap)(hs:d0 k s.heap a xs)(hx:xs[i]?=none)
  (hQ:∀ h',Off [n,n+1] s.heap h'->Q none { s with heap:=h' }):wpAny (model prog w) A (pyNext (.ref (n+1))) Q E s:=by
 obtain ⟨⟨last,ob⟩,src⟩:=Z
 have ty:s.TypeIs (.ref (n+1)) "enumerate":=⟨_,ob,rfl⟩
 unfold pyNext
 refine afW (wpAny_attempt (wpAny_callSpecial?_slot (name:=Str.ofString "__next__") ty F.slot_enumerate_next (wpAny_call_entry F.slot_enumerate_next ty F.entry_enumerate_next ?_ (F.args_enumerate_next_1 _))))
 show wpAny _ _ (field (.ref (n+1)) 2 >>= _) _ _ _
 refine afW (wpAny_field ob rfl (x:=.ref n) rfl (afW (zd hh src hs hx fun h' e off ⟨o,ho,hc⟩=>?_)))
 exact afW (wpAny_isInstance (T:="StopIteration") (b:=true) ⟨o,ho,hc⟩ isSubtype_stop (agc (hQ _ fun c u hc e=>off c u (fun z=>hc (by simp [z])) e)))
abbrev Qo (k:Bool) (h:Heap) (a:Addr):Heap:=(h.push (gh k a)).push { cls:=.type "enumerate",data:=.fields #[.none,.bool false,.ref h.objs.size,rawInt 0,.none,.none] }
end
end L2
namespace L2
open PySem
open AutoSeq1 (wpAny_loadPart')
theorem K1(k:Bool)(a:Addr)(xs:Array Value) :
  Meets (Builtin.«enumerate.__new__» ⟨[.type "enumerate",.ref a],[]⟩) (fun _ R s=>d0 k s.heap a xs/\R (.ok (.ret (.ref (s.heap.objs.size+1)))) { s with heap:=Qo k s.heap a }) :=
 .of_wp fun prog w A R s h=>by
  obtain ⟨hp,gg,dd,tt,oo⟩:=s
  obtain ⟨src,r⟩:=h
  have sub:=sub_enumerate
  have S:d0 k (Shared.heap ⟨hp,gg,dd,tt,oo⟩) a xs:=src
  obtain ⟨ob,e⟩:∃ ob,hp.get? a=some ob:=by
   cases k
   ·obtain ⟨ob,e,_⟩:=src;exact⟨ob,e⟩
   ·obtain ⟨ob,e,_⟩:=src;exact⟨ob,e⟩
  obtain ⟨oc,od,ot,os⟩:=ob
  have last:(hp.push (gh k a)).objs.size=hp.objs.size+1:=Heap.size_push ..
  have r':R (.ok (.ret (.ref (hp.push (gh k a)).objs.size))) ⟨Qo k hp a,gg,dd,tt,oo⟩:=by rw [last];exact r
  wp_walk using wpAny_loadPart' e
  refine wpAny_stack_any fun st=>agc ?_
  split
  ·rename_i c _ _ _ _ _
   cases (c == Value.type "enumerate") <;> (wp_walk using wpAny_loadPart' e,pV S;exact⟨_,rfl,r'⟩)
  ·wp_walk using wpAny_loadPart' e,pV S
   exact⟨_,rfl,r'⟩
open PySem PySem.Spec PyProof.Rows
def SY(K : Frag)(k : Bool)(a : Addr) : It :=
  ⟨fun i H => ∃ xs x, Sq k K H a xs /\ xs[i]?=some x,
   fun i H v H' => ∃ p x, v=.ref p /\ H p=none /\ (∀ xs, Sq k K H a xs -> xs[i]?=some x) /\ H'=upd H p (.tup [.int i, x]),
   fun i H => ∃ xs, Sq k K H a xs /\ xs.length <= i⟩
theorem K2{P:Program}{w:World}{K:Frag}{es:List Expr}{kk:Nat}{pos:Pos}{k:Bool}(n a:Nat)(ha:a<n) :
  Turn P w K (.Tuple es kk pos) (SY K k a) [n+1,n] (n+1) (fun i h=>En k n a i h) where
 mem:=by simp
 obj:=fun i h st c hc=>by
  obtain ⟨⟨last,ob⟩,src⟩:=st
  simp only [agq,not_mem_nil,or_false] at hc
  rcases hc with rfl|rfl
  ·exact⟨_,ob,fun v z=>nomatch z⟩
  ·exact src.obj
 keep:=fun i h h' st k=>by
  obtain ⟨⟨last,ob⟩,src⟩:=st
  exact⟨⟨last,k _ (by simp) _ ob⟩,src.keep fun o e=>k _ (by simp) o e⟩
 item:=by
  intro X hP hw hK hc i pins s σ H E I hf st hg
  subst hP hw hK
  obtain ⟨xs,x,qx,ex⟩:=hg
  obtain ⟨NO,r1,s1,_⟩:=I.sq qx
  obtain ⟨u,hu,ru⟩:=r1.get ex
  refine Fx st ha s1 (x:=u) (by simpa using hu) fun h' t ob src hT xj off=>⟨_,rfl,?_⟩
  have GD:H s.heap.objs.size=none:=I.cA.fresh (af1 _)
  have W3:n+1<s.heap.objs.size:=by obtain ⟨last,b⟩:=st.ob;exact afY b
  refine wpAny_letOwnedTupleGo_enum ob fun h2 Qm jS=>?_
  have vC:Off [n+1,n] s.heap h2:=fun c o hc e=>(jS.2 c fun z=>hc (by simp [z])).trans (off c o (fun z=>hc (by simp only [agq,not_mem_nil,or_false] at z ⊢;exact z.symm)) e)
  have rK:IsT h2 s.heap.objs.size #[.int i t,u]:=(jS.2 _ (Nat.ne_of_gt W3)).trans hT
  refine⟨.ref s.heap.objs.size,upd H s.heap.objs.size (.tup [.int i,x]),?_,rfl,⟨_,x,rfl,GD,fun zs RR=>by rw [I.CB RR qx];exact ex,rfl⟩,?_,fun c hc=>?_⟩
  ·refine Inv.off (s:=s) (h':=h2) (t':=s.toks+1) (ch:=[n+1,n]) I hf vC (I.cA.Hu (fun c hc=>(hf c hc).1) vC (af1 _) ?_) (fun c o _ e hn=>?_) fun c o e=>?_
   ·exact⟨by show 2<=sizeLine;decide,[.int i t,u],.cons ⟨t,rfl⟩ (.cons ru .nil),⟨_,rK,rfl,_,rfl⟩⟩
   ·rw [aG (agN (afY e))];exact hn
   ·rw [aG (bE e GD)];exact e
  ·exact⟨⟨_,Qm⟩,src.keep fun o e=>(jS.2 _ (i6 (by lia))).trans e⟩
  ·have cn:c≠s.heap.objs.size:=by
    simp only [agq,not_mem_nil,or_false] at hc
    rcases hc with rfl|rfl <;> exact i6 (by lia)
   rw [aG cn];exact (hf c hc).1
 done:=by
  intro X hP hw hK hc i pins s σ H E I hf st hg
  subst hP hw hK
  obtain ⟨xs,qx,Fb⟩:=hg
  obtain ⟨NO,r1,s1,_⟩:=I.sq qx
  have e1:=r1.length
  refine xu (I.ok.hd hc) st s1 (by simp;lia) fun h' off=>⟨rfl,?_⟩
  have vC:Off [n+1,n] s.heap h':=fun c o hc e=>off c o (fun z=>hc (by simp only [agq,not_mem_nil,or_false] at z ⊢;exact z.symm)) e
  exact Inv.off (s:=s) (t':=s.toks) I hf vC (I.cA.off (fun c hc=>(hf c hc).1) vC) (fun _ _ _ _ q=>q) fun _ _ q=>q
 self:=fun _ _ _ _ _ st h=>by
  obtain ⟨last,ob⟩:=st.ob
  exact wpAny_pyIter_enum ob h
section
variable {X:Cx}
def Ib(K:Frag)(k:Bool)(ta:TA):TI:=fun σ H R=>ta σ H fun vs H1=>∃ a,vs=[.ref a]/\(∃ xs,Sq k K H1 a xs)/\R (SY K k a) H1
theorem K3 (k:Bool) {es:List Expr} {kk:Nat} {AB:Pos} {a:Expr} {ta:TA} {p pos:Pos} (hg:Gl X "enumerate") (hm:X.mg "enumerate"=none) (ha:PA X [a] ta) (hs:starEach [a] X.env=[(false,eval a X.env)]:=by rfl) :
  PI X (.Tuple es kk AB) (.Call (.Name "enumerate" p) [a] [] pos) (Ib X.K k ta):=by
 intro pins s σ H R I h
 refine Call_ (kH I hg hm boot_enumerate (callWith_type1 (di (ha pos pins s σ H _ I h) fun us s1 ⟨vs,H1,I1,r1,q1⟩=>?_) (by rw [hs];rfl) (by rfl)))
 obtain ⟨a',e,⟨xs,qx⟩,q⟩:=q1
 subst e
 obtain ⟨u,rfl,ru⟩:=vals1 r1
 cases ru
 obtain ⟨NO,r1,RS,_⟩:=I1.sq qx
 refine callType_new PySem.F.called_enumerate (by decide) (PySem.F.typeCall_enumerate_1 _) (PySem.F.newCall_enumerate_1 _) (fun obj=>PySem.F.args_object_init_2 obj _) PySem.F.entry_enumerate_new (K1 k a' NO.toArray) ⟨RS,?_⟩
 have z1:(s1.heap.push (gh k a')).objs.size=s1.heap.objs.size+1:=Heap.size_push ..
 have g2:(Qo k s1.heap a').get? (s1.heap.objs.size+1)=some { cls:=.type "enumerate",data:=.fields #[.none,.bool false,.ref s1.heap.objs.size,rawInt 0,.none,.none] }:=by rw [<- z1];exact afZ _ rfl
 have g1:(Qo k s1.heap a').get? s1.heap.objs.size=some (gh k a'):=afV _ (afZ _ (by cases k <;> rfl))
 have old:∀ c o,s1.heap.get? c=some o->(Qo k s1.heap a').get? c=some o:=fun c o x=>afV _ (afV _ x)
 have Z:En k s1.heap.objs.size a' 0 (Qo k s1.heap a'):=⟨⟨_,g2⟩,vB g1⟩
 show _/\_
 refine⟨⟨_,g2,rfl⟩,wpAny_pyIter_enum g2 ?_⟩
 refine⟨_,_,_,_,H1,rfl,I1.kept (t':=s1.toks) old,K2 s1.heap.objs.size a' RS.lt,Z,fun c hc=>?_,q⟩
 have Mt:s1.heap.objs.size<=c:=by
  simp only [agq,not_mem_nil,or_false] at hc
  rcases hc with rfl|rfl <;> first|exact le_add_right _ _|exact af1 _
 exact I1.Ay Mt (I1.cA.fresh Mt)
theorem Ic (K:Frag) (hK:X.K=K) (k:Bool) {es:List Expr} {kk:Nat} {AB:Pos} {a:Expr} {ta:TA} {p pos:Pos} (hg:Gl X "enumerate") (hm:X.mg "enumerate"=none) (ha:PA X [a] ta) (hs:starEach [a] X.env=[(false,eval a X.env)]:=by rfl) :
  PI X (.Tuple es kk AB) (.Call (.Name "enumerate" p) [a] [] pos) (Ib K k ta):=hK ▸ K3 k hg hm ha hs
end
section
variable {K:Frag}{H:Hp}{σ:St}{D:Ends}
def S0(K:Frag)(k:Bool):List V->Hp->(It->Hp->Prop)->Prop:=fun vs H R=>∃ a,vs=[.ref a]/\(∃ xs,Sq k K H a xs)/\R (SY K k a) H
theorem K4{k:Bool}{ts:TA}{R:It->Hp->Prop}(h:ts σ H fun vs H1=>S0 K k vs H1 R):Ib K k ts σ H R:=h
theorem S1{k:Bool}{a:Addr}{xs:List V}{R:It->Hp->Prop}(e:Sq k K H a xs)(h:R (SY K k a) H):S0 K k [.ref a] H R:=⟨a,rfl,⟨_,e⟩,h⟩
end
inductive av(K:Frag)(H:Hp):List V->List (List Int)->Prop where
 | nil:av K H [] []
 | cons {a:Addr} {r:List Int} {xs:List V} {rs:List (List Int)} (h:aZ K H a (r.map V.int)) (t:av K H xs rs):av K H (.ref a::xs) (r::rs)
namespace av
variable {K:Frag}{H H':Hp}
theorem length:∀ {xs:List V} {rs:List (List Int)},av K H xs rs->rs.length=xs.length
 | _,_,.nil=>rfl
 | _,_,.cons _ t=>by rw [length_cons,length_cons,t.length]
theorem get:∀ {xs:List V} {rs:List (List Int)} {i:Nat} {x:V},av K H xs rs->xs[i]?=some x->∃ a r,x=.ref a/\aZ K H a (r.map V.int)/\rs[i]?=some r
 | _,_,_,_,.nil,h=>by simp at h
 | _,_,0,_,.cons (a:=a) (r:=r) h _,e=>by
  simp at e
  exact⟨a,r,e.symm,h,rfl⟩
 | _,_,i+1,_,.cons _ t,e=>by
  obtain ⟨a,r,h1,h2,h3⟩:=get (i:=i) t (by simpa using e)
  exact⟨a,r,h1,h2,by simpa using h3⟩
theorem same:∀ {xs:List V} {rs:List (List Int)},av K H xs rs->aj H H'->av K H' xs rs
 | _,_,.nil,_=>.nil
 | _,_,.cons h t,s=>.cons (s.at h) (t.same s)
theorem append:∀ {xs ys:List V} {rs qs:List (List Int)},av K H xs rs->av K H ys qs->av K H (xs++ys) (rs++qs)
 | _,_,_,_,.nil,u=>u
 | _,_,_,_,.cons h t,u=>.cons h (t.append u)
theorem snoc{xs:List V}{rs:List (List Int)}{a:Addr}{r:List Int}(t:av K H xs rs)(h:aZ K H a (r.map V.int)):av K H (xs++[.ref a]) (rs++[r]):=t.append (.cons h .nil)
theorem off{l:Addr}{ys zs:List V}:∀ {xs:List V} {rs:List (List Int)},av K H xs rs->H l=some (.lst ys)->av K (upd H l (.lst zs)) xs rs
 | _,_,.nil,_=>.nil
 | _,_,.cons h t,e=>.cons ((HQ h e).imp (fun q=>q.imp (fun q=>by rw [aG (fun z=>by rw [z,A3] at q;cases q)];exact u6 _ _ q) fun ⟨o,q⟩=>⟨o,by rw [aG (fun z=>by rw [z,A3] at q;cases q)];exact u6 _ _ q⟩) id) (t.off e)
theorem take:∀ {xs:List V} {rs:List (List Int)} (n:Nat),av K H xs rs->av K H (xs.take n) (rs.take n)
 | _,_,0,_=>.nil
 | _,_,_+1,.nil=>.nil
 | _,_,n+1,.cons h t=>.cons h (t.take n)
theorem drop:∀ {xs:List V} {rs:List (List Int)} (n:Nat),av K H xs rs->av K H (xs.drop n) (rs.drop n)
 | _,_,0,t=>t
 | _,_,_+1,.nil=>.nil
 | _,_,n+1,.cons _ t=>t.drop n
theorem tells:∀ {xs:List V} {rs:List (List Int)},av K H xs rs->Tells K H xs (rs.map fun r=>.tuple (r.map PyData.int))
 | _,_,.nil=>.nil
 | _,_,.cons h t=>.cons (fH.row h) t.tells
end av
theorem cN{K:Frag}{H:Hp}{l a:Addr}{xs ys zs:List V}(h:aZ K H a xs)(e:H l=some (.lst ys)):aZ K (upd H l (.lst zs)) a xs :=
 (HQ h e).imp (fun q=>q.imp (fun q=>by rw [aG (fun z=>by rw [z,A3] at q;cases q)];exact u6 _ _ q) fun ⟨o,q⟩=>⟨o,by rw [aG (fun z=>by rw [z,A3] at q;cases q)];exact u6 _ _ q⟩) id
section
variable {K:Frag}{H:Hp}{σ:St}{Q:VK}{ix:List (Option Nat)}
theorem si{J:It}{g:TG}{tt:TT}{te:TE}(t:Nat)(fr:St)(n:Nat)(rs:Nat->List (List Int))(kL:pick ix σ=List.replicate t none++fr)(h0:rs 0=[])(hn:∀ i,(rs i).length<=1000)
  (pY:∀ H',aj H H'->J.stop n H') (Kr:∀ i H',i<n->aj H H'->J.go i H')
  (step:∀ i x H' H2 own,own.length=t->i<n->aj H H'->J.J6 i H' x H2->∀ (Qy:St->VK) (Qn:St->Hp->Prop),
   (∀ kP a r H5,kP.length=t->aj H' H5->aZ K H5 a (r.map V.int)->rs (i+1)=rs i++[r]->Qy (kP++fr) (.ref a) H5)->(∀ kP H4,kP.length=t->aj H' H4->rs (i+1)=rs i->Qn (kP++fr) H4) ->
   g x (own++fr) H2 fun σ2 H3=>tt σ2 H3 fun b H4=>if b=true then te σ2 H4 (Qy σ2) else Qn σ2 H4)
  (hQ:∀ l H' ys,H l=none->aj H H'->H' l=some (.lst ys)->av K H' ys (rs n)->Q (.ref l) H'):bR ix g tt te σ Q J H:=by
 intro l hl
 refine⟨fun i m σ1 ys H'=>m=n - i/\i<=n/\(∃ own:St,own.length=t/\σ1=own++fr)/\aj H H'/\H' l=some (.lst ys)/\av K H' ys (rs i),⟨n,by simp,agM _,⟨_,length_replicate,kL⟩,aj.cM hl,aw,by rw [h0];exact .nil⟩,?_⟩
 rintro i m σ1 ys H' ⟨rfl,hi,⟨own,ho,rfl⟩,hs,jD,hr⟩
 refine⟨jD,?_⟩
 by_cases xq:i<n
 ·refine .inr ⟨Kr i H' xq hs,n - (i+1),by lia,fun x H2 hy=>step i x H' H2 own ho xq hs hy _ _ (fun kP a r H5 Cu s5 ha er=>?_) fun kP H4 Cu s4 er=>?_⟩
  ·have l5:=s5 _ _ jD
   refine⟨l5,agu (by rw [<- hr.length];exact hn i) (eI (af1 1000)),rfl,xq,⟨kP,Cu,rfl⟩,fun b o e=>?_,aw,?_⟩
   ·rw [aG (bE e hl)]
    exact s5 _ _ (hs _ _ e)
   ·rw [er]
    exact ((hr.same s5).off l5).snoc (cN ha l5)
  ·exact⟨rfl,xq,⟨kP,Cu,rfl⟩,hs.trans s4,s4 _ _ jD,by rw [er];exact hr.same s4⟩
 ·obtain rfl:i=n:=by lia
  exact .inl ⟨pY H' hs,hQ l H' ys hl hs jD hr⟩
end
end L2
namespace L2
open PySem PySem.Spec PyProof.Rows PySem.W
def Xz(h:Heap)(H:Hp)(h0:Heap)(ps:List (Addr×Obj))(L a C:Addr):Prop:=∃ oe vs T oT ts,h.get? a=some oe/\oe.cls=.ref C/\oe.dict=none/\oe.data=.fields vs/\1<vs.size/\vs[1]?=some (.ref T)/\T≠a/\h.get? T=some oT/\oT.data=.fields ts/\ts[3]?=some (rawInt L) /\
 H a=none/\(h0.get? a=none/\∀ p∈ps,p.1≠a)/\H T=none/\h0.get? T=none/\∀ p∈ps,p.1≠T
def XM(X:Cx)(EX:JS):Value->Shared->Prop:=fun e s'=>∃ a C σ' H',e=.ref a/\Inv X.JJ [] σ' H' s'/\Xz s'.heap H' X.s₀.heap X.pn X.env.locals a C/\EX C σ' H'
def XP(X:Cx)(EX:JS):Value->Shared->Prop:=fun e s'=>XW X EX e s'\/XM X EX e s'
open PySem PySem.Spec PyProof.Rows
def Ek:V->List V->Hp->VK->Prop:=fun x vs H Q=>∃ (l:Addr) (xs:List V) (i:Nat) (y:V),x=.ref l/\vs=[.int i,y]/\H l=some (.lst xs)/\xs.length<=1000/\i<=1000/\Q .fw (upd H l (.lst (xs.take i++y::xs.drop i)))
section
variable {X:Cx}
theorem K5(its:List Value)(i:Nat)(u:Value):(fun xs:Array Value=>have k:=if (i:Int)<0 then ((i:Int)+(xs.size:Int)).toNat else min (i:Int).toNat xs.size;(xs.extract 0 k).push u++xs.extract k) its.toArray=(its.take i++u::its.drop i).toArray:=by
 have h0:¬ (i:Int)<0:=by lia
 simp only [h0,if_false,agT,agB]
 apply Array.ext'
 simp only [Array.toList_append,Array.toList_push,Array.toList_extract,List.extract_eq_take_drop,sub_zero,drop_zero,agB]
 by_cases h:i<=its.length
 ·rw [min_eq_left h]
  rw [agG (l:=its.drop i) (by rw [length_drop];lia)]
  simp
 ·have h':its.length<=i:=by lia
  rw [Nat.min_eq_right h',agG (l:=its) (af1 _),agG (l:=its) h',List.drop_of_length_le (af1 _),List.drop_of_length_le h']
  simp
theorem yD:WR X "list.insert" Ek:=by
 intro pins s σ H x vs v us Q I rx rv h
 obtain ⟨l,xs,i,y,rfl,rfl,hH,hz,hi,q⟩:=h
 cases rx
 obtain ⟨ui,u,rfl,ri,ru⟩:=vals2 rv
 obtain ⟨t,rfl⟩:=ri
 obtain ⟨z,its,n,r,hl,e⟩:=I.Hh hH
 have hlen:=r.length
 have e64:Builtin.List.listFitsIndex (i:Int)=true:=by
  unfold Builtin.List.listFitsIndex
  simp only [Bool.and_eq_true,decide_eq_true_eq]
  lia
 refine call_meets F.slot_list_insert ⟨_,e,rfl⟩ F.entry_list_insert (F.args_list_insert_3 _ _ _) (@AutoSeq1.list_insert_list_int_val_1 l its.toArray n (i:Int) t u (by rw [e64];decide) (by rw [agB,<- hlen];exact af2 (eI hz))) ⟨e,?_⟩
 refine⟨.fw,_,I.NH (its':=its.take i++u::its.drop i) hH e (K5 its i u) ((r.take i).append (.cons ru (r.drop i))) ?_,rfl,q⟩
 simp only [agn,length_cons,agA,length_drop]
 have:xs.length+1<=sizeLine:=Nat.succ_le_of_lt (eI hz)
 lia
end
section
variable {K:Frag}{H:Hp}{Q:VK}{σ:St}
theorem A5{l:Addr}{xs:List V}{i:Nat}{y:V}(e:H l=some (.lst xs))(n:xs.length<=1000)(hi:i<=1000)(h:Q .fw (upd H l (.lst (xs.take i++y::xs.drop i)))):Ek (.ref l) [.int i,y] H Q:=⟨l,xs,i,y,rfl,rfl,e,n,hi,h⟩
def MG:List V->Hp->(It->Hp->Prop)->Prop:=fun vs H R=>∃ i j:Int,vs=[.int i,.int j]/\(-(2 ^ 62)<=i/\i<2 ^ 62/\-(2 ^ 62)<=j/\j<2 ^ 62)/\R (Gx i (j - i).toNat) H
theorem K6{ts:TA}{R:It->Hp->Prop}(h:ts σ H fun vs H1=>MG vs H1 R):Me ts σ H R:=h
theorem OA{i j:Int}{R:It->Hp->Prop}(h1:-1000000<=i/\i<=1000000)(h2:-1000000<=j/\j<=1000000)(h:R (Gx i (j - i).toNat) H):MG [.int i,.int j] H R:=⟨i,j,rfl,⟨by lia,by lia,by lia,by lia⟩,h⟩
theorem nQ{xs:List V}{j:Nat}:iQ xs none (some (j:Int))=xs.take j:=by
 unfold iQ
 rw [HT.AG,HT.uX,sub_zero,drop_zero]
 by_cases h:j<=xs.length
 ·rw [min_eq_left h]
 ·rw [Nat.min_eq_right (by lia),agG (by lia),agG (by lia)]
theorem vU:∀ (r q:List Int),PyData.eqvAll (r.map PyData.int) (q.map PyData.int)=decide (r=q)
 | [],[]=>rfl
 | [],_::_=>rfl
 | _::_,[]=>rfl
 | x::r,y::q=>by
  have h:=vU r q
  simp only [map_cons,PyData.eqvAll,h,PyData.eqv]
  by_cases e:x=y
  ·subst e;by_cases e2:r=q <;> simp [e2]
  ·simp [e]
theorem ql(r q:List Int):PyData.eqv (.tuple (r.map PyData.int)) (.tuple (q.map PyData.int))=decide (r=q):=by
 rw [<- vU r q]
 simp [PyData.eqv]
theorem A6:∀ (rs qs:List (List Int)),PyData.eqvAll (rs.map fun r=>.tuple (r.map PyData.int)) (qs.map fun r=>.tuple (r.map PyData.int))=decide (rs=qs)
 | [],[]=>rfl
 | [],_::_=>rfl
 | _::_,[]=>rfl
 | x::r,y::q=>by
  have h:=A6 r q
  simp only [map_cons,PyData.eqvAll,h,ql]
  by_cases e:x=y
  ·subst e;by_cases e2:r=q <;> simp [e2]
  ·simp [e]
theorem sj(r q:List Int):PyData.eqv (.list (r.map PyData.int)) (.list (q.map PyData.int))=decide (r=q):=by
 rw [<- vU r q]
 simp [PyData.eqv]
theorem sk(rs qs:List (List Int)):PyData.eqv (.list (rs.map fun r=>.tuple (r.map PyData.int))) (.list (qs.map fun r=>.tuple (r.map PyData.int)))=decide (rs=qs):=by
 rw [<- A6 rs qs]
 simp [PyData.eqv]
theorem lay_ints:∀ r:List Int,PyData.canLayAll0 (r.map PyData.int)=true
 | []=>rfl
 | _::r=>by simp only [map_cons,PyData.canLayAll0,lay_ints r,PyData.canLay0,Bool.and_self]
theorem zw(r:List Int):PyData.canLay0 (.tuple (r.map PyData.int))=true:=by simp only [PyData.canLay0,lay_ints]
theorem A7:∀ rs:List (List Int),PyData.canLayAll0 (rs.map fun r=>.tuple (r.map PyData.int))=true
 | []=>rfl
 | r::rs=>by simp only [map_cons,PyData.canLayAll0,A7 rs,zw,Bool.and_self]
theorem yE:∀ r:List Int,PyData.depthAll (r.map PyData.int)<=1
 | []=>by simp [PyData.depthAll]
 | _::r=>by
  have:=yE r
  simp only [map_cons,PyData.depthAll,PyData.depth]
  lia
theorem vV(r:List Int):PyData.depth (.tuple (r.map PyData.int))<=2:=by
 have:=yE r
 simp only [PyData.depth]
 lia
theorem yF:∀ rs:List (List Int),PyData.depthAll (rs.map fun r=>.tuple (r.map PyData.int))<=2
 | []=>by simp [PyData.depthAll]
 | r::rs=>by
  have:=yF rs
  have:=vV r
  simp only [map_cons,PyData.depthAll]
  lia
theorem ee(r:List Int):SeqAt.shaped (.tuple (r.map PyData.int))=true:=by
 unfold SeqAt.shaped
 rw [zw,aga (af0 (vV r) (by decide))];rfl
theorem iq(rs:List (List Int)):SeqAt.shaped (.list (rs.map fun r=>.tuple (r.map PyData.int)))=true:=by
 unfold SeqAt.shaped
 have h:PyData.canLay0 (.list (rs.map fun r=>PyData.tuple (r.map PyData.int)))=true:=by simp only [PyData.canLay0,A7]
 have d:PyData.depth (.list (rs.map fun r=>PyData.tuple (r.map PyData.int)))<=64:=by
  have:=yF rs
  simp only [PyData.depth]
  lia
 rw [h,aga d];rfl
end
section
variable {K:Frag}{H H':Hp}
theorem oh:∀ {zs:List (List Int×V)},(∀ p∈zs,∃ a,p.2=.ref a/\aZ K H a (p.1.map V.int))->av K H (zs.map Prod.snd) (zs.map Prod.fst)
 | [],_=>.nil
 | p::zs,h=>by
  obtain ⟨a,e,q⟩:=h p (mem_cons_self ..)
  rw [map_cons,map_cons,e]
  exact .cons q (oh fun z hz=>h z (agp _ hz))
theorem av.pair:∀ {xs:List V} {rs:List (List Int)},av K H xs rs->∀ p∈rs.zip xs,∃ a,p.2=.ref a/\aZ K H a (p.1.map V.int)
 | _,_,.nil=>fun p hp=>by cases hp
 | _,_,.cons h t=>fun p hp=>by
  rcases agq.mp hp with rfl|hp
  ·exact⟨_,rfl,h⟩
  ·exact t.pair p hp
theorem A8{xs ys:List V}{rs:List (List Int)}(f:List Int->Int)(hr:av K H xs rs)(so:gp false (rs.map f) xs ys)(s:aj H H'):∃ qs,av K H' ys qs/\qs.Perm rs/\qs.Pairwise fun a b=>f a<=f b:=by
 obtain ⟨ps,hp,rfl,hw⟩:=so
 have ez:(rs.map f).zip xs=(rs.zip xs).map fun p=>(f p.1,p.2):=by rw [List.zip_map_left];rfl
 obtain ⟨zs,pz,rfl⟩:=b7.AR hp ez
 refine⟨zs.map Prod.fst,?_,?_,?_⟩
 ·rw [agE]
  exact (oh (zs:=zs) fun p h=>hr.pair p (pz.mem_iff.mp h)).same s
 ·have:=pz.map Prod.fst
  rw [List.map_fst_zip (by rw [hr.length];exact af1 _)] at this
  exact this
 ·rw [pairwise_map] at hw ⊢
  exact hw.imp fun h=>h
end
inductive bx(K:Frag)(H:Hp):List V->List (List Int×Int)->Prop where
 | nil:bx K H [] []
 | cons {a w:Addr} {r:List Int} {m:Int} {xs:List V} {ks:List (List Int×Int)} (h:aZ K H a [.ref w,.int m]) (hw:aZ K H w (r.map V.int)) (t:bx K H xs ks):bx K H (.ref a::xs) ((r,m)::ks)
def uB(k:List Int×Int):PyData:=.tuple [.tuple (k.1.map PyData.int),.int k.2]
namespace bx
variable {K:Frag}{H H':Hp}
theorem length:∀ {xs:List V} {ks:List (List Int×Int)},bx K H xs ks->ks.length=xs.length
 | _,_,.nil=>rfl
 | _,_,.cons _ _ t=>by rw [length_cons,length_cons,t.length]
theorem get:∀ {xs:List V} {ks:List (List Int×Int)} {i:Nat} {x:V},bx K H xs ks->xs[i]?=some x->∃ a w k,x=.ref a/\aZ K H a [.ref w,.int k.2]/\aZ K H w (k.1.map V.int)/\ks[i]?=some k
 | _,_,_,_,.nil,h=>by simp at h
 | _,_,0,_,.cons (a:=a) (w:=w) (r:=r) (m:=m) h hw _,e=>by
  simp at e
  exact⟨a,w,(r,m),e.symm,h,hw,rfl⟩
 | _,_,i+1,_,.cons _ _ t,e=>by
  obtain ⟨a,w,k,h1,h2,h3,h4⟩:=get (i:=i) t (by simpa using e)
  exact⟨a,w,k,h1,h2,h3,by simpa using h4⟩
theorem same:∀ {xs:List V} {ks:List (List Int×Int)},bx K H xs ks->aj H H'->bx K H' xs ks
 | _,_,.nil,_=>.nil
 | _,_,.cons h hw t,s=>.cons (s.at h) (s.at hw) (t.same s)
theorem append:∀ {xs ys:List V} {ks js:List (List Int×Int)},bx K H xs ks->bx K H ys js->bx K H (xs++ys) (ks++js)
 | _,_,_,_,.nil,u=>u
 | _,_,_,_,.cons h hw t,u=>.cons h hw (t.append u)
theorem snoc{xs:List V}{ks:List (List Int×Int)}{a w:Addr}{r:List Int}{m:Int}(t:bx K H xs ks)(h:aZ K H a [.ref w,.int m])(hw:aZ K H w (r.map V.int)):bx K H (xs++[.ref a]) (ks++[(r,m)]):=t.append (.cons h hw .nil)
theorem off{l:Addr}{ys zs:List V}:∀ {xs:List V} {ks:List (List Int×Int)},bx K H xs ks->H l=some (.lst ys)->bx K (upd H l (.lst zs)) xs ks
 | _,_,.nil,_=>.nil
 | _,_,.cons h hw t,e=>.cons (cN h e) (cN hw e) (t.off e)
theorem take:∀ {xs:List V} {ks:List (List Int×Int)} (n:Nat),bx K H xs ks->bx K H (xs.take n) (ks.take n)
 | _,_,0,_=>.nil
 | _,_,_+1,.nil=>.nil
 | _,_,n+1,.cons h hw t=>.cons h hw (t.take n)
theorem tells:∀ {xs:List V} {ks:List (List Int×Int)},bx K H xs ks->Tells K H xs (ks.map uB)
 | _,_,.nil=>.nil
 | _,_,.cons h hw t=>.cons (.tup h (.cons (fH.row hw) (.cons (.int _) .nil))) t.tells
end bx
theorem K7(k:List Int×Int):PyData.canLay0 (uB k)=true:=by
 have h:=zw k.1
 simp only [uB,PyData.canLay0,PyData.canLayAll0] at h ⊢
 rw [h];rfl
theorem A9:∀ ks:List (List Int×Int),PyData.canLayAll0 (ks.map uB)=true
 | []=>rfl
 | k::ks=>by simp only [map_cons,PyData.canLayAll0,A9 ks,K7,Bool.and_self]
theorem Ie(k:List Int×Int):PyData.depth (uB k)<=3:=by
 have:=vV k.1
 simp only [uB,PyData.depth,PyData.depthAll] at this ⊢
 lia
theorem yG:∀ ks:List (List Int×Int),PyData.depthAll (ks.map uB)<=3
 | []=>by simp [PyData.depthAll]
 | k::ks=>by
  have:=yG ks
  have:=Ie k
  simp only [map_cons,PyData.depthAll]
  lia
theorem Ba(ks:List (List Int×Int)):SeqAt.shaped (.list (ks.map uB))=true:=by
 unfold SeqAt.shaped
 have h:PyData.canLay0 (.list (ks.map uB))=true:=by simp only [PyData.canLay0,A9]
 have d:PyData.depth (.list (ks.map uB))<=64:=by
  have:=yG ks
  simp only [PyData.depth]
  lia
 rw [h,aga d];rfl
theorem yH{α β:Type}(ks:List α)(d:α)(g:α->β):(List.range ks.length).map (fun i=>g (ks.getD i d))=ks.map g:=by
 apply ext_getElem
 ·simp
 ·intro i h1 h2
  have h:i<ks.length:=by simpa using h1
  simp [List.getD,agg h]
theorem mQ{K:Frag}{a:Addr}{xs:List V}{H1:Hp}{ix:List (Option Nat)}{σ:St}{te:TE}{Q:VK}(fr:St)(f:Nat->V)(kL:pick ix σ=none::fr)(ha:aW K H1 a xs)(hn:xs.length<=1000000)
  (step:∀ (i:Nat) x H' (Qc:VK),xs[i]?=some x->aj H1 H'->(∀ H5,aj H' H5->Qc (f i) H5)->te (some x::fr) H' Qc)
  (hQ:∀ l H',H1 l=none->aj H1 H'->H' l=some (.lst ((List.range xs.length).map f))->Q (.ref l) H'):bR ix (cO 0) (fun _ H Q=>Q true H) te σ Q (JK K a) H1:=by
 refine pZ fr xs.length f kL hn (fun H' s=>⟨xs,s.seq ha,af1 _⟩) (fun i H' hi s=>⟨xs,xs[i],s.seq ha,agg hi⟩) (fun i x H' H2 Qc hi s hy kc=>?_) hQ
 obtain ⟨rfl,e⟩:=hy
 exact step i x _ Qc (e xs (s.seq ha)) s kc
end L2
namespace L2
open PySem PySem.Spec PyProof.Rows
section
variable {X:Cx}{pins:List (Addr×Obj)}{σ:St}{H:Hp}{s:Shared}
theorem CN{a kS f:Addr}{e1:Nat}{b:Bool}{vs:List Value}{xs:List V}{kz:List Int}{P:PySem.Fin->Shared->Prop}{E:Value->Shared->Prop}
  (KC:∀ (iZ:List (Addr×Obj)) (H':Hp) (s':Shared) (i:Nat) (x:V) (u:Value) (n:Int),(∀ p∈pins,p∈iZ)->xs[i]?=some x->kz[i]?=some n->aj H H'->RelV x u->Inv X iZ σ H' s'->wpAny (model X.prog X.w) X.A.in1.in1 (call (.ref f) [u]) (EP X iZ σ fun v CO=>v=.int n/\aj H' CO) (fun _ _=>False) s')
  (I:Inv X ((pins++[(a,seqObj "list" #[] e1)])++[(kS,seqObj "list" #[] 0)]) σ H s) (h0:X.s₀.heap.get? kS=none) (hc:∀ x c,X.env.cells.lookup x=some c->c≠kS) (hp:∀ p∈X.pn++(pins++[(a,seqObj "list" #[] e1)]),p.1≠kS)
  (hv:Vals xs vs) (hlen:kz.length=vs.length) (HZ:vs.length<64)
  (done:∀ H' s' kA e,Inv X ((pins++[(a,seqObj "list" #[] e1)])++[(kS,seqObj "list" kA e)]) σ H' s'->aj H H'->IntsAre kA.toList kz->wpAny (model X.prog X.w) X.A.in1.in1 (ksk_end a b vs.toArray e1 (.ref kS) kA) P E s') :
  wpAny (model X.prog X.w) X.A.in1.in1 (ksk_rest a (.ref f) b vs.toArray e1 (.ref kS)) P E s:=by
 have XA:xs.length=vs.length:=hv.length
 let Wk:Nat->Shared->Prop:=fun i s'=>∃ H' kA e,Inv X ((pins++[(a,seqObj "list" #[] e1)])++[(kS,seqObj "list" kA e)]) σ H' s'/\aj H H'/\IntsAre kA.toList (kz.take i)
 have start:Wk 0 s:=⟨H,#[],0,I,aj.refl _,by rw [List.take_zero];exact .nil⟩
 have last:∀ s',Wk (0+vs.length) s'->wpAny (model X.prog X.w) X.A.in1.in1 (do let keys <- Builtin.List.listItems (.ref kS);ksk_end a b vs.toArray e1 (.ref kS) keys) P E s':=by
  rintro s' ⟨H',kA,e,I',sm,hk⟩
  rw [Nat.zero_add,agG (le_of_eq hlen)] at hk
  exact afW (listItems_at (Eg I') rfl (done H' s' kA e I' sm hk))
 rw [ksk_rest]
 refine afW (wpAny_rule ?_)
 rw [List.forIn_toArray]
 refine afW (ksk_fold Wk vs 0 s start (fun j u s' hu w=>?_) last)
 rw [Nat.zero_add] at w ⊢
 obtain ⟨H',kA,e,I',sm,hk⟩:=w
 have hj:=(afX.mp hu).1
 have XB:kA.size+1<=64:=by
  have q:=hk.length
  rw [Array.length_toList,agA] at q
  lia
 obtain ⟨u',eu,ru⟩:=hv.get (agg (XA.symm ▸ hj:j<xs.length))
 cases hu.symm.trans eu
 have hn:kz[j]?=some (kz[j]'(hlen.symm ▸ hj)):=agg _
 refine afW (wpAny_attempt (agd (KC _ H' s' j _ _ _ (fun p hp=>agi _ (agi _ hp)) (agg _) hn sm ru I') ?_ fun _ _ no=>no.elim))
 rintro _ s2 ⟨y,H2,I2,ry,rfl,Ig⟩
 obtain ⟨t2,rfl⟩:=ry
 have at2:=Eg I2
 refine afW (listUpdate_at at2 rfl ?_ (by rw [sizeLine_eq];lia) (by rw [Array.size_push,sizeLine_eq];lia))
 exact agc ⟨rfl,H2,_,_,I2.wrote h0 hc hp (Heap.SameBut.update _ _ _) (get?_update_seq at2 _) (fun _ z=>nomatch z),sm.trans Ig,Xs hk hn⟩
theorem CP{a f:Addr}{n:Nat}{b:Bool}{vs:List Value}{xs:List V}{kz:List Int}{P:PySem.Fin->Shared->Prop}{E:Value->Shared->Prop}
  (KC:∀ (iZ:List (Addr×Obj)) (H':Hp) (s':Shared) (i:Nat) (x:V) (u:Value) (n:Int),(∀ p∈pins,p∈iZ)->xs[i]?=some x->kz[i]?=some n->aj H H'->RelV x u->Inv X iZ σ H' s'->wpAny (model X.prog X.w) X.A.in1.in1 (call (.ref f) [u]) (EP X iZ σ fun v CO=>v=.int n/\aj H' CO) (fun _ _=>False) s') (I:Inv X pins σ H s) (ho:s.heap.get? a=some (seqObj "list" vs.toArray n)) (hfp:oG X pins H a) (RX:X.s₀.heap.objs.size<=a)
  (hv:Vals xs vs) (hlen:kz.length=vs.length) (HZ:vs.length<64)
  (hP:∀ s' H' ys,aj H H'->H' a=none->Inv X pins σ (upd H' a (.lst ys)) s'->gp b kz xs ys->P (.done (.ret .none)) s') :
  wpAny (model X.prog X.w) X.A.in1.in1 (ksk_tree a (.ref f) b) P E s:=by
 obtain ⟨g0,g1,g2,_,g4,g5⟩:=hfp
 have a0:X.s₀.heap.get? a=none:=Heap.get?_none_of_le RX
 have s1:=Heap.SameBut.update s.heap a (Obj.mapSeq fun _=>(#[]:Array Value))
 obtain ⟨e1,VL⟩:∃ e1,(s.heap.update a (Obj.mapSeq fun _=>(#[]:Array Value))).get? a=some (seqObj "list" #[] e1):=⟨_,get?_update_seq ho fun _=>#[]⟩
 have I0:Inv X (pins++[(a,seqObj "list" vs.toArray n)]) σ H s:=I.kF fun p hp=>(agk.mp hp).elim (fun z=>I.pin p (agh _ z)) fun z=>by
  rw [agj.mp z]
  exact⟨ho,g0,g1,g2,fun v z=>nomatch z⟩
 have I1:Inv X (pins++[(a,seqObj "list" #[] e1)]) σ H { s with heap:=s.heap.update a (Obj.mapSeq fun _=>(#[]:Array Value)),toks:=s.toks }:=I0.wrote a0 g4 g5 s1 VL fun v z=>nomatch z
 unfold ksk_tree
 refine afW (listItems_at ho rfl ?_)
 refine afW (listUpdate_at ho rfl ?_ (by rw [agB,sizeLine_eq];lia) (agM _))
 refine afW (seqEpoch_at VL rfl ?_)
 refine afW (wpAny_newTuple ?_ (by show vs.length<=_;rw [sizeLine_eq];lia))
 refine afW (wpAny_newList ?_ (agM _))
 refine wpAny_holding ?_
 generalize VP:s.heap.update a (Obj.mapSeq fun _=>(#[]:Array Value))=h1 at I1
 have lk:h1.objs.size<=(h1.push (seqObj "tuple" vs.toArray 0)).objs.size:=by rw [size_push'];exact le_succ _
 have I2:Inv X (pins++[(a,seqObj "list" #[] e1)]) σ H { s with heap:=(h1.push (seqObj "tuple" vs.toArray 0)).push (seqObj "list" #[] 0),toks:=s.toks } :=
  I1.kept (t':=s.toks) fun b o q=>afV _ (afV _ q)
 have hkn:H (h1.push (seqObj "tuple" vs.toArray 0)).objs.size=none:=I1.cA.fresh lk
 obtain ⟨_,q1,q2,_,q4,q5⟩:oG X (pins++[(a,seqObj "list" #[] e1)]) H (h1.push (seqObj "tuple" vs.toArray 0)).objs.size:=I1.Ay lk hkn
 have k0:X.s₀.heap.get? (h1.push (seqObj "tuple" vs.toArray 0)).objs.size=none:=Heap.get?_none_of_le (af0 I1.sz lk)
 have I3:Inv X ((pins++[(a,seqObj "list" #[] e1)])++[((h1.push (seqObj "tuple" vs.toArray 0)).objs.size,seqObj "list" #[] 0)]) σ H { s with heap:=(h1.push (seqObj "tuple" vs.toArray 0)).push (seqObj "list" #[] 0),toks:=s.toks } :=
  I2.kF fun p hp=>(agk.mp hp).elim (fun z=>I2.pin p (agh _ z)) fun z=>by
   rw [agj.mp z]
   exact⟨afZ _ rfl,hkn,q1,q2,fun v z=>nomatch z⟩
 refine CN KC I3 k0 q4 q5 hv hlen HZ fun H' s' kA e I' sm hk=>?_
 obtain ⟨_,an,_⟩:=I'.pin (a,seqObj "list" #[] e1) (agh _ (agi _ (agh _ (agj.mpr rfl))))
 exact HY I' ⟨a0,g4,g5⟩ ⟨k0,q4,q5⟩ hk hv hlen HZ fun h' tk ys J so=>hP _ H' ys sm an J so
theorem xv{l f:Addr}{xs:List V}{kz:List Int}{Q:VK}
  (KC:∀ (iZ:List (Addr×Obj)) (H':Hp) (s':Shared) (i:Nat) (x:V) (u:Value) (n:Int),(∀ p∈pins,p∈iZ)->xs[i]?=some x->kz[i]?=some n->aj H H'->RelV x u->Inv X iZ σ H' s'->wpAny (model X.prog X.w) X.A.in1.in1 (call (.ref f) [u]) (EP X iZ σ fun v CO=>v=.int n/\aj H' CO) (fun _ _=>False) s') (I:Inv X pins σ H s) (hs:aW X.K H l xs) (hlen:kz.length=xs.length) (HZ:xs.length<64)
  (hQ:∀ p H' ys,aj H H'->H' p=some (.lst ys)->gp false kz xs ys->Q (.ref p) H') :
  wpAny (model X.prog X.w) X.A (call (.builtin "sorted") [.ref l] [(Str.ofString "key",.ref f)]) (EP X pins σ Q) X.xe s:=by
 obtain ⟨vs,hv,pl,_⟩:=I.list hs
 have hl:s.heap.IsList l vs.toArray:=by
  obtain ⟨o,n,h1,h2,h3⟩:=pl
  exact⟨o,h1,h2,n,h3.2⟩
 have hvl:vs.length<64:=by rw [<- hv.length];exact HZ
 have XB:vs.length<=sizeLine:=by rw [sizeLine_eq];lia
 refine call_function_entry_kw kind_sorted plain_sorted entry_sorted (ksk_s1 _ _) ?_
 rw [Builtin.«sorted»]
 refine afW (m:=checkCount "sorted" 1 1 _) (agc (afW (collect_list hl ?_ XB)))
 generalize hc:(s.heap.push (seqObj "list" #[] 0)).update s.heap.objs.size (Obj.mapSeq (·++vs.toArray))=zx
 have ecol:zx.objs.size=s.heap.objs.size+1:=by rw [<- hc,Heap.size_update,size_push']
 have XC:∀ b o,s.heap.get? b=some o->zx.get? b=some o:=fun b o q=>by
  rw [<- hc,(Heap.SameBut.update _ _ _).2 b (agN (afY q))]
  exact afV _ q
 have low:s.heap.objs.size<=zx.objs.size:=by lia
 have I2:Inv X pins σ H { s with heap:=zx.push (seqObj "list" vs.toArray 0),toks:=s.toks }:=I.kept fun b o q=>afV _ (XC b o q)
 have own:(zx.push (seqObj "list" vs.toArray 0)).get? zx.objs.size=some (seqObj "list" vs.toArray 0):=afZ _ rfl
 refine afW (wpAny_newList ?_ XB)
 refine afW (wpAny_holding (wpAny_call_entry_kw (s:={ s with heap:=zx.push (seqObj "list" vs.toArray 0) }) slot_list_sort ⟨_,own,rfl⟩ entry_list_sort ?_ (ksk_l1 _ _)))
 show wpAny (model X.prog X.w) X.A.in1.in1 (Builtin.«list.sort» ⟨[.ref zx.objs.size],[(Str.ofString "key",.ref f)]⟩) _ _ _
 rw [ksk_t1]
 refine CP KC I2 own (I.Ay low (I.cA.fresh low)) (af0 I.sz low) hv (hlen.trans hv.length) hvl fun s' H' ys sm hn J so=>⟨_,rfl,?_⟩
 exact agc ⟨_,rfl,.ref zx.objs.size,_,J,rfl,hQ _ _ ys (sm.trans (aj.cM hn)) aw so⟩
end
end L2
namespace L2
open PySem PySem.Spec PyProof.Rows PySem.W
abbrev El(X:Cx)(A:Around)(N:List Str)(qual:Str)(scope:Scope)(f:Addr)(cd:Value)(s:Shared)(H:Hp):Cx :=
 { X with A:=A.deeper (envX qual scope s.heap.objs.size f cd (fq X.env.cells scope.names [])),N:=N,s₀:=s,H₀:=H,env:=envX qual scope s.heap.objs.size f cd (fq X.env.cells scope.names []),outer:=X.stack,stack:=envX qual scope s.heap.objs.size f cd (fq X.env.cells scope.names [])::X.stack,ex:=[],fn:=fun _=>false,calm:=true,pn:=[],xe:=fun _ _=>False }
section
variable {X:Cx}{pins:List (Addr×Obj)}{σ:St}{H:Hp}{s:Shared}
theorem Ih{A:Around}{f c':Addr}{qual p:Str}{fns:List Str}{ixs:List (Option Nat)}{params:Arguments}{body:Expr}{scope:Scope}{pm zy:Value}{x:V}{u:Value}{te:TE}{Q:VK}
  (I:Inv X pins σ H s) (hd:A.handled=none) (XD:A.frames=some X.stack) (S2:A.depth<recursionLimit)
  (ho:s.heap.get? f=some (kla_obj "<lambda>" qual params body scope (fq X.env.cells scope.names []) pm c' zy)) (Ap:s.heap.CodeRec (.ref c') qual)
  (vW:bindArgs (kla_fn "<lambda>" qual params body scope (fq X.env.cells scope.names []) pm (.ref c') zy) ⟨[u],[]⟩=pure [(p,u)])
  (Fy:scope.names.lookup p=some .local) (S3:scope.isCoroutine=false) (Ii:scope.isGenerator=false) (hk:scope.kind=.function) (i0:∀ y∈scope.names,y.2≠.cell)
  (uy:(scope.names.all fun y=>!(y.2 == NameKind.free) || (X.env.cells.lookup y.1).isSome)=true) (AJ:oM X scope fns ixs)
  (he:PE (El X A (p::fns) qual scope f (.ref c') s H) body te) (r:RelV x u) (h:te (some x::pick ixs σ) H Q) :
  wpAny (model X.prog X.w) A (call (.ref f) [u]) (EP X pins σ Q) (fun _ _=>False) s:=by
 have GC:∀ y∈scope.names,y.2=.free->(X.env.cells.lookup y.1).isSome=true:=fun y hy e=>by
  have z:=all_eq_true.mp uy y hy
  rw [e] at z
  simpa using z
 have fx:∀ x c,(fq X.env.cells scope.names []).lookup x=some c->X.env.cells.lookup x=some c:=pR (fun x c q=>by simp at q)
 have t9:∀ x,scope.names.lookup x=some .free->∃ c,(fq X.env.cells scope.names []).lookup x=some c:=fun x hx=>by
  have hm:=PySem.mem_of_lookup hx
  exact agb.mp (pT (.inr ⟨hm,GC _ hm rfl⟩))
 refine wpAny_call (codeAny_mono (show codeAny _ _ _ (CR GB X.stack X.prog X.w H s Q E0) s from ?_) fun r s' hq=>?_)
 ·refine kla_callFunE S2 ho rfl S3 Ii rfl Ap ?_
  rw [vW]
  refine agc (wpAny_newFunctionEnv i0 (fun y hy=>by rw [agj.mp hy];exact Fy) (fun h₁ Qp S4=>⟨I.nolimit.fresh _ S4,?_⟩) hk)
  show codeAny _ _ (.expr body (envX qual scope s.heap.objs.size f (.ref c') (fq X.env.cells scope.names []))) _ _
  have old:∀ b o,s.heap.get? b=some o->h₁.get? b=some o:=fun b o e=>S4.extBut b o (agN (afY e)) (afV _ e)
  have J:Inv (El X A (p::fns) qual scope f (.ref c') s H) [] (some x::pick ixs σ) H { s with heap:=h₁,toks:=s.toks+[(p,u)].length }:=by
   refine⟨⟨I.ok.mod,hk,rfl,rfl,af1 _,fun x y c q1 q2=>I.ok.inj x y c (fx x c q1) (fx y c q2),fun x hx=>?_,fun x c hf _=>absurd hf Bool.false_ne_true,fun _=>hd,Around.frames_deeper XD,.inr ⟨rfl,rfl⟩,fun b hb=>(nomatch hb),I.bs,af0 I.ok.DM I.sz,fun b _ _ hb=>(nomatch hb),fun b hb=>(nomatch hb),I.stack,I.nI⟩,
    rfl,I.bare,Un.kept old,⟨_,Qp,fun i y v h1 h2 h3=>?_⟩,fun x c q=>?_,I.cA.fresh (af1 _),fun x c q=>I.iY x c (fx x c q),fun p hp=>(nomatch hp),I.cA.kept old,?_⟩
   ·rcases hx with hx|hx
    ·exact absurd rfl (i0 _ (PySem.mem_of_lookup hx))
    ·exact t9 x hx
   ·match i with
    | 0 =>
     have e1:p=y:=by simpa using h1
     have e2:x=v:=by simpa using h2
     subst e1
     subst e2
     exact⟨u,r,.inl ⟨Fy,by simp⟩⟩
    | i+1 =>
     obtain ⟨j,e1,e2⟩:=pU (show (pick ixs σ)[i]?=some (some v) by simpa using h2)
     obtain ⟨a1,a2,a3,a4⟩:=AJ.get (show fns[i]?=some y by simpa using h1) e1
     obtain ⟨mX,hnX,Rx⟩:=I.loc
     obtain ⟨u',ru,l⟩:=Rx j y v a1 e2 a2
     refine⟨u',ru,?_⟩
     rcases l with ⟨l1,_⟩|⟨_,c,lc,z⟩
     ·have oN:X.env.scope.names.lookup y=some .local:=l1
      rw [oN] at a3
      exact absurd a3 (by decide)
     ·obtain ⟨c',Cj⟩:=t9 y a4
      have ec:=fx y c' Cj
      rw [lc] at ec
      have Ry:c=c':=af5 ec
      subst Ry
      exact .inr ⟨.inr a4,c,Cj,z.keeps old⟩
   ·obtain ⟨v,z⟩:=I.cell x c (fx x c q)
    exact⟨v,z.keeps old⟩
   ·show (some x::pick ixs σ).length=(p::fns).length
    unfold pick
    rw [length_cons,agm,length_cons,AJ.len]
  refine kla_codeExpr (agd (he [] _ _ H Q J h) (fun v s' hv=>?_) fun _ _ no=>no.elim)
  obtain ⟨y,H',J',rv,q⟩:=hv
  exact⟨y,H',J'.os,J'.bare,J'.base,J'.cA,rv,q⟩
 ·cases r with
  | error e=>exact hq
  | ok fl =>
   cases fl with
   | ret u=>exact I.after hq
   | next=>exact False.elim hq
   | brk=>exact False.elim hq
   | cont=>exact False.elim hq
end
end L2
namespace L2
open PySem PySem.Spec PyProof.Rows PySem.W
def bc(P:Addr)(H H':Hp):Prop:=∀ b o,b≠P->H b=some o->H' b=some o
def vX(c:Addr)(q:Str):HO:=.ext fun h=>h.CodeRec (.ref c) q
def fI(P:Addr)(lp:Pos)(q:Str)(H:Hp):Prop:=∃ ps:Array Value,H P=some (.xi ps)/\TriplesOk ps.toList/\(codeAmong lp ps.toList=none\/∃ c,codeAmong lp ps.toList=some (.ref c)/\H c=some (vX c q))
theorem bc.refl{P:Addr}{H:Hp}:bc P H H:=fun _ _ _ e=>e
theorem bc.trans{P:Addr}{H H1 H2:Hp}(a:bc P H H1)(b:bc P H1 H2):bc P H H2:=fun x o n e=>b x o n (a x o n e)
theorem bc.of{P:Addr}{H H1:Hp}(a:aj H H1):bc P H H1:=fun x o _ e=>a x o e
theorem fI.same{P:Addr}{lp:Pos}{q:Str}{H H':Hp}(t:fI P lp q H)(s:aj H H'):fI P lp q H':=by
 obtain ⟨ps,h1,h2,h3⟩:=t
 refine⟨ps,s _ _ h1,h2,h3.imp id fun ⟨c,e,z⟩=>⟨c,e,s _ _ z⟩⟩
def zz(f c:Addr)(qual:Str)(params:Arguments)(body:Expr)(scope:Scope)(cl:List (Str×Addr)):HO :=
 .ext fun h=>∃ pm zy,h.get? f=some (kla_obj "<lambda>" qual params body scope cl pm c zy)
section
variable {X:Cx}{pins:List (Addr×Obj)}{σ:St}{H:Hp}{s:Shared}
theorem Ij {c P:Addr} {params:Arguments} {body:Expr} {scope:Scope} {lp:Pos} {Q:VK} (I:Inv X pins σ H s) (T:fI P lp (X.env.qual ++ "<lambda>") H)
  (yI:X.env.code=.ref c) (C:CodeHd X.base c P) (hB:X.base.BuiltinsAt X.mg P) (Ik:defaultsOf params X.env=([],[]))
  (uy:(scope.names.all fun y=>!(y.2 == NameKind.free) || (X.env.cells.lookup y.1).isSome)=true)
  (h:∀ f c' H',bc P H H'->fI P lp (X.env.qual ++ "<lambda>") H'->H' f=some (zz f c' (X.env.qual ++ "<lambda>") params body scope (fq X.env.cells scope.names []))->H' c'=some (vX c' (X.env.qual ++ "<lambda>"))->Q (.ref f) H') :
  wpAny (model X.prog X.w) X.A (eval (.Lambda params body scope lp) X.env) (EP X pins σ Q) X.xe s:=by
 have Cz:∀ p∈scope.names,p.2=.free->∃ c,X.env.cells.lookup p.1=some c:=fun y hy e=>by
  have z:=all_eq_true.mp uy y hy
  rw [e] at z
  exact agb.mp (by simpa using z)
 have Mt:=kJ Cz
 obtain ⟨ps,hP,ht,hc⟩:=T
 have oP:s.heap.get? P=some (tabObj ps):=I.cA P _ hP
 have S5:s.heap.Ns mainGlobals X.mg:=I.mod.glob.keeps I.bk
 have hB':s.heap.BuiltinsAt X.mg P:=by
  obtain ⟨bm,ob,b1,b2,b3,b4,b5,b6⟩:=hB
  exact⟨bm,ob,b1,b2,b3,b4,I.bk _ _ b5,b6⟩
 have S6:∀ {h2:Heap} {f c':Addr} {pm zy:Value} {sc:Scope} {q:Str} {cl:List (Str×Addr)},h2.get? f=some (kla_obj "<lambda>" q params body sc cl pm c' zy)->∀ {H2:Hp},eG X.prog X.w H2 h2 f (zz f c' q params body sc cl):=fun {h2 f c' pm zy sc q cl} e {H2} =>
  ⟨⟨pm,zy,e⟩,⟨_,e⟩,fun h1 h3 ⟨pm,zy,z⟩ k=>⟨pm,zy,k _ z⟩⟩
 refine kla_eval Ik ?_
 rcases hc with hn|⟨c',hc,QY⟩
 ·have hgP:mainGlobals≠P:=fun q=>by
   obtain ⟨o,es,ep,e,hd,_⟩:=S5
   rw [q,oP] at e;cases e;cases hd
  refine kla_makeFunction (mg:=X.mg) Mt I.ok.glob S5 yI (C.keeps I.bk) oP ht hn hgP hB' fun c' zy h' tk hx S7 xq XE Qq=>?_
  obtain ⟨ob,Qr⟩:∃ ob:Obj,ob=kla_obj "<lambda>" (X.env.qual ++ "<lambda>") params body scope (fq X.env.cells scope.names []) ((X.mg "__name__").getD .none) c' zy:=⟨_,rfl⟩
  have KR:ob.isFreed=false:=by rw [Qr];rfl
  have VQ:=afZ h' KR
  rw [<- Qr]
  have big:s.heap.objs.size<=h'.objs.size:=af0 S7 (af2 xq)
  have ncP:c'≠P:=Nat.ne_of_gt (Nat.lt_of_lt_of_le (afY oP) S7)
  have nfP:h'.objs.size≠P:=Nat.ne_of_gt (Nat.lt_of_lt_of_le (afY oP) big)
  have ncf:c'≠h'.objs.size:=agN xq
  have old:∀ b o,b≠P->s.heap.get? b=some o->(h'.push ob).get? b=some o:=fun b o n e=>afV _ (hx b o n e)
  have fc:H c'=none:=I.cA.fresh S7
  have ff:H h'.objs.size=none:=I.cA.fresh big
  have sP:bc P H (upd (upd (upd H P (.xi (ps++#[rawInt lp.line,rawInt lp.col,.ref c']))) c' (vX c' (X.env.qual ++ "<lambda>"))) h'.objs.size (zz h'.objs.size c' (X.env.qual ++ "<lambda>") params body scope (fq X.env.cells scope.names []))):=fun b o n e=>by
   rw [aG (bE e ff),aG (bE e fc),aG n]
   exact e
  generalize S8:upd (upd (upd H P (.xi (ps++#[rawInt lp.line,rawInt lp.col,.ref c']))) c' (vX c' (X.env.qual ++ "<lambda>"))) h'.objs.size (zz h'.objs.size c' (X.env.qual ++ "<lambda>") params body scope (fq X.env.cells scope.names []))=H' at sP
  have eP:H' P=some (.xi (ps++#[rawInt lp.line,rawInt lp.col,.ref c'])):=by rw [<- S8,aG (Ne.symm nfP),aG (Ne.symm ncP),aw]
  have ec:H' c'=some (vX c' (X.env.qual ++ "<lambda>")):=by rw [<- S8,aG ncf,aw]
  have ef:H' h'.objs.size=some (zz h'.objs.size c' (X.env.qual ++ "<lambda>") params body scope (fq X.env.cells scope.names [])):=by rw [<- S8,aw]
  have no:∀ b,H b=none->b≠h'.objs.size->b≠c'->H' b=none:=fun b n n1 n2=>by
   rw [<- S8,aG n1,aG n2,aG (fun z=>by rw [z,hP] at n;cases n)]
   exact n
  have un:Un X.fs [] H H' s.heap (h'.push ob):=by
   refine⟨fun b o e n _ _=>old b o (fun z=>by rw [z,hP] at n;cases n) e,fun b o e n _ _=>⟨o.slots,old b o (fun z=>by rw [z,hP] at n;cases n) e⟩,fun b o e n _=>no b n (fun z=>?_) (fun z=>?_),fun b o e _=>?_,fun b xs e=>sP b _ (fun z=>by rw [z,hP] at e;cases e) e,fun b o u e=>sP b _ (fun z=>by rw [z,hP] at e;cases e) e,fun b qs e=>?_⟩
   ·exact absurd z (agN (Nat.lt_of_lt_of_le (afY e) big))
   ·exact absurd z (agN (Nat.lt_of_lt_of_le (afY e) S7))
   ·by_cases hb:b=P
    ·subst hb
     exact⟨_,afV _ Qq⟩
    ·exact⟨o,old b o hb e⟩
   ·by_cases hb:b=P
    ·subst hb
     rw [hP] at e
     cases e
     exact⟨_,eP⟩
    ·exact⟨#[],by rw [sP b _ hb e];simp⟩
  have cA:kD X.prog X.w H' (h'.push ob):=fun b o e=>by
   by_cases h1:b=h'.objs.size
   ·subst h1
    rw [ef] at e
    cases e
    exact S6 (by rw [VQ,Qr])
   ·by_cases h2:b=c'
    ·subst h2
     rw [ec] at e
     cases e
     obtain ⟨c2,oc,vs,t,e2,QX,hd,hv⟩:=XE
     cases e2
     exact⟨⟨_,oc,vs,t,rfl,afV _ QX,hd,hv⟩,⟨oc,afV _ QX⟩,fun h1 h2 ⟨c3,o3,v3,t3,z1,z2,z3,z4⟩ k=>⟨c3,o3,v3,t3,z1,by cases z1;exact k _ z2,z3,z4⟩⟩
    ·by_cases h3:b=P
     ·subst h3
      rw [eP] at e
      cases e
      exact afV _ Qq
     ·have e0:H b=some o:=by rw [<- S8,aG h1,aG h2,aG h3] at e;exact e
      refine (I.cA b o e0).oB (fun d u hd z=>old d u (fun w=>?_) z) (fun d z=>sP d _ (fun w=>by rw [w,hP] at z;cases z) z) fun d xs z=>sP d _ (fun w=>by rw [w,hP] at z;cases z) z
      rcases hd with rfl|hd
      ·exact h3 w
      ·rw [w,hP] at hd;cases hd
  refine⟨.ref h'.objs.size,H',I.un un cA,rfl,h _ c' H' sP ⟨_,eP,?_,.inr ⟨c',?_,ec⟩⟩ ef ec⟩
  ·rw [Array.toList_append]
   exact TriplesOk_snoc _ _ _ _ ht
  ·rw [Array.toList_append]
   exact codeAmong_snoc _ ht hn
 ·refine kla_makeFunctionHit (mg:=X.mg) Mt I.ok.glob S5 yI (C.keeps I.bk) oP ht hc hB' fun zy h' tk hk xj=>?_
  obtain ⟨ob,Qr⟩:∃ ob:Obj,ob=kla_obj "<lambda>" (X.env.qual ++ "<lambda>") params body scope (fq X.env.cells scope.names []) ((X.mg "__name__").getD .none) c' zy:=⟨_,rfl⟩
  have KR:ob.isFreed=false:=by rw [Qr];rfl
  have VQ:=afZ h' KR
  have ff:H h'.objs.size=none:=I.cA.fresh xj
  have sm:aj H (upd H h'.objs.size (zz h'.objs.size c' (X.env.qual ++ "<lambda>") params body scope (fq X.env.cells scope.names []))):=aj.cM ff
  refine⟨.ref h'.objs.size,upd H h'.objs.size (zz h'.objs.size c' (X.env.qual ++ "<lambda>") params body scope (fq X.env.cells scope.names [])),I.laid (fun b u e=>afV _ (hk b u e)) xj (S6 (by rw [Qr] at VQ;exact VQ)),rfl,h _ c' _ (bc.of sm) (fI.same ⟨ps,hP,ht,.inr ⟨c',hc,QY⟩⟩ sm) aw (sm _ _ QY)⟩
end
end L2
namespace L2
open PySem PySem.Spec PyProof.Rows PySem.W
section
variable {K:Frag}{H H':Hp}{P a:Addr}{lp:Pos}{q:Str}{xs:List V}
theorem fI.at(t:fI P lp q H):∃ ps,H P=some (.xi ps):=let ⟨ps,h,_⟩:=t;⟨ps,h⟩
theorem bc.at(s:bc P H H')(t:fI P lp q H)(h:aZ K H a xs):aZ K H' a xs:=by
 obtain ⟨ps,hP⟩:=t.at
 exact h.imp (fun z=>z.imp (fun e=>s _ _ (fun w=>by rw [w,hP] at e;cases e) e) fun ⟨o,e⟩=>⟨o,s _ _ (fun w=>by rw [w,hP] at e;cases e) e⟩) id
theorem bc.seq(s:bc P H H')(t:fI P lp q H)(h:aW K H a xs):aW K H' a xs:=by
 obtain ⟨ps,hP⟩:=t.at
 exact h.imp (fun z=>z.imp (fun e=>s _ _ (fun w=>by rw [w,hP] at e;cases e) e) fun ⟨o,e⟩=>⟨o,s _ _ (fun w=>by rw [w,hP] at e;cases e) e⟩) id
theorem bc.lst(s:bc P H H')(t:fI P lp q H)(h:H a=some (.lst xs)):H' a=some (.lst xs):=by
 obtain ⟨ps,hP⟩:=t.at
 exact s _ _ (fun w=>by rw [w,hP] at h;cases h) h
end
def oQ(K:Frag)(P:Addr)(lp:Pos)(q:Str)(ixs:List (Option Nat))(te:TE)(σ:St):V->Hp->VK->Prop:=fun x H Q=>∃ (l:Addr) (xs:List V) (kz:List Int),x=.ref l/\aW K H l xs/\kz.length=xs.length/\xs.length<64/\fI P lp q H /\
 (∀ (i:Nat) (x:V) (n:Int),xs[i]?=some x->kz[i]?=some n->∀ H',bc P H H'->te (some x::pick ixs σ) H' (fun v CO=>v=.int n/\aj H' CO)) /\
 ∀ p H' ys,bc P H H'->fI P lp q H'->H' p=some (.lst ys)->gp false kz xs ys->Q (.ref p) H'
def CQ(K:Frag)(P:Addr)(lp:Pos)(q:Str)(ixs:List (Option Nat))(te:TE)(t:TE):TE:=fun σ H Q=>t σ H fun x H1=>oQ K P lp q ixs te σ x H1 Q
section
variable {X:Cx}{k:Nat}{q y:Str}{fns:List Str}{ixs:List (Option Nat)}{params:Arguments}{body:Expr}{scope:Scope}{p lp G8 pos:Pos}{e:Expr}{t te:TE}{c P:Addr}
theorem Il (hq:X.env.qual ++ "<lambda>"=q) (hr:dF (k+2) X.A) (ha:PE X e t) (yI:X.env.code=.ref c) (C:CodeHd X.base c P) (hB:X.base.BuiltinsAt X.mg P)
  (vW:∀ (cl:List (Str×Addr)) (pm zy:Value) (c':Addr) (u:Value),bindArgs (kla_fn "<lambda>" q params body scope cl pm (.ref c') zy) ⟨[u],[]⟩=pure [(y,u)])
  (he:∀ f c' s H,PE (El X X.A.in1.in1 (y::fns) q scope f (.ref c') s H) body te)
  (Fy:scope.names.lookup y=some .local) (S3:scope.isCoroutine=false) (Ii:scope.isGenerator=false) (hk:scope.kind=.function) (i0:∀ y∈scope.names,y.2≠.cell)
  (uy:(scope.names.all fun y=>!(y.2 == NameKind.free) || (X.env.cells.lookup y.1).isSome)=true) (AJ:oM X scope fns ixs) (Ik:defaultsOf params X.env=([],[]))
  (hg:Gl X (Str.ofString "sorted")) (hm:X.mg "sorted"=none) (hv:bootBuiltins "sorted"=some (.builtin "sorted"))
  (oF:starEach [e] X.env=(false,eval e X.env)::starEach [] X.env:=by rfl) :
  PE X (.Call (.Name "sorted" p) [e] [⟨some (Str.ofString "key"),.Lambda params body scope lp,G8⟩] pos) (CQ X.K P lp q ixs te t):=by
 subst hq
 intro pins s σ H Q I h
 refine wpAny_Call_Name_kw (kH I hg hm hv ?_ (by decide) (by decide))
 have hpa:PA X [e] (AD t vt):=aa ha af oF
 have XF:PE X (.Lambda params body scope lp) (fun _ H Q=>fI P lp (X.env.qual ++ "<lambda>") H/\∀ f c' H',bc P H H'->fI P lp (X.env.qual ++ "<lambda>") H'->H' f=some (zz f c' (X.env.qual ++ "<lambda>") params body scope (fq X.env.cells scope.names []))->H' c'=some (vX c' (X.env.qual ++ "<lambda>"))->Q (.ref f) H') :=
  fun pins s σ H Q I h=>Ij I h.1 yI C hB Ik uy h.2
 have kL:PK X [⟨some (Str.ofString "key"),.Lambda params body scope lp,G8⟩] (AD _ vt):=Kd XF Nt
 refine callWith_kw (di (hpa pos pins s σ H (fun vs H1=>∃ x,vs=[x]/\oQ X.K P lp (X.env.qual ++ "<lambda>") ixs te σ x H1 Q) I ?_) fun us s1 ⟨vs,H1,I1,r,x,ev,q⟩=>?_) (by rw [oF];rfl) (by rw [oF];rfl) rfl rfl
 ·show t σ H fun x H1=>∃ z,[x]=[z]/\oQ X.K P lp (X.env.qual ++ "<lambda>") ixs te σ z H1 Q
  have e:(fun (x:V) (H1:Hp)=>∃ z,[x]=[z]/\oQ X.K P lp (X.env.qual ++ "<lambda>") ixs te σ z H1 Q)=fun x H1=>oQ X.K P lp (X.env.qual ++ "<lambda>") ixs te σ x H1 Q:=by
   funext x H1
   apply propext
   exact⟨fun ⟨z,e,q⟩=>by cases e;exact q,fun q=>⟨x,rfl,q⟩⟩
  rw [e]
  exact h
 ·subst ev
  obtain ⟨u,rfl,ru⟩:=vals1 r
  obtain ⟨l,xs,kz,rfl,hs,h1,h2,tb,turn,hQ⟩:=q
  refine di (kL pos pins s1 σ H1 (fun zs H2=>∃ f c',zs=[V.ref f]/\bc P H1 H2/\fI P lp (X.env.qual ++ "<lambda>") H2/\H2 f=some (zz f c' (X.env.qual ++ "<lambda>") params body scope (fq X.env.cells scope.names []))/\H2 c'=some (vX c' (X.env.qual ++ "<lambda>"))) I1 ⟨tb,fun f c' H' a1 a2 a3 a4=>⟨f,c',rfl,a1,a2,a3,a4⟩⟩) fun ws s2 ⟨zs,H2,I2,rz,f,c',ez,sT,tT,ef,ec⟩=>?_
  subst ez
  obtain ⟨w,rfl,rw_⟩:=vals1 rz
  cases rw_
  cases ru
  refine xv (kz:=kz) (xs:=xs) (fun iZ H' s' i x u n _ hx hn sm rx I'=>?_) I2 (sT.seq tb hs) h1 h2 fun p H' ys sm hp so=>hQ p H' ys (sT.trans (bc.of sm)) (tT.same sm) hp so
  obtain ⟨⟨pm,zy,eo⟩,_⟩:=I'.cA f _ (sm _ _ ef)
  obtain ⟨eco,_⟩:=I'.cA c' _ (sm _ _ ec)
  exact Ih I' (dF.in1 (dF.in1 hr)).hd I'.ok.frames (by have:=(dF.in1 (dF.in1 hr)).dp;lia) eo eco (vW _ _ _ _ _) Fy S3 Ii hk i0 uy AJ (he _ _ _ _) rx (turn i x n hx hn H' (sT.trans (bc.of sm)))
variable {K:Frag}
theorem Fz (K:Frag) (hK:X.K=K) (hq:X.env.qual ++ "<lambda>"=q) (hr:dF (k+2) X.A) (ha:PE X e t) (yI:X.env.code=.ref c) (C:CodeHd X.base c P) (hB:X.base.BuiltinsAt X.mg P)
  (vW:∀ (cl:List (Str×Addr)) (pm zy:Value) (c':Addr) (u:Value),bindArgs (kla_fn "<lambda>" q params body scope cl pm (.ref c') zy) ⟨[u],[]⟩=pure [(y,u)])
  (he:∀ f c' s H,PE (El X X.A.in1.in1 (y::fns) q scope f (.ref c') s H) body te)
  (Fy:scope.names.lookup y=some .local) (S3:scope.isCoroutine=false) (Ii:scope.isGenerator=false) (hk:scope.kind=.function) (i0:∀ y∈scope.names,y.2≠.cell)
  (uy:(scope.names.all fun y=>!(y.2 == NameKind.free) || (X.env.cells.lookup y.1).isSome)=true) (AJ:oM X scope fns ixs) (Ik:defaultsOf params X.env=([],[]))
  (hg:Gl X (Str.ofString "sorted")) (hm:X.mg "sorted"=none) (hv:bootBuiltins "sorted"=some (.builtin "sorted"))
  (oF:starEach [e] X.env=(false,eval e X.env)::starEach [] X.env:=by rfl) :
  PE X (.Call (.Name "sorted" p) [e] [⟨some (Str.ofString "key"),.Lambda params body scope lp,G8⟩] pos) (CQ K P lp q ixs te t):=by
 subst hK
 exact Il hq hr ha yI C hB vW he Fy S3 Ii hk i0 uy AJ Ik hg hm hv oF
end
section
variable {K:Frag}{H:Hp}{Q:VK}{σ:St}{P:Addr}{lp:Pos}{q:Str}{ixs:List (Option Nat)}{te:TE}
theorem K8{t:TE}(h:t σ H fun x H1=>oQ K P lp q ixs te σ x H1 Q):CQ K P lp q ixs te t σ H Q:=h
theorem Im{l:Addr}{xs:List V}(kz:List Int)(tb:fI P lp q H)(hs:aW K H l xs)(h1:kz.length=xs.length)(h2:xs.length<64)
  (turn:∀ (i:Nat) (x:V) (n:Int),xs[i]?=some x->kz[i]?=some n->∀ H',bc P H H'->te (some x::pick ixs σ) H' (fun v CO=>v=.int n/\aj H' CO))
  (k:∀ p H' ys,bc P H H'->fI P lp q H'->H' p=some (.lst ys)->gp false kz xs ys->Q (.ref p) H'):oQ K P lp q ixs te σ (.ref l) H Q:=⟨l,xs,kz,rfl,hs,h1,h2,tb,turn,k⟩
end
end L2
namespace L2
open PySem PySem.Spec PyProof.Rows PySem.W
def Io(tabs:List (Addr×Addr))(H:Hp):Prop:=∀ q∈tabs,H q.2=some (.xi #[])
def K9(K:Frag)(mg:Str->Option Value)(x:Str)(st:Stmt)(ps:List Str)(c:Addr):Prop :=
 ∃ (f:Addr) (fd:FuncData) (oc:Value) (od:Option Addr) (kV doc pm:Value) (an:Option Addr) (ct:Value) (Gz:Array (Option Value)),fd=fnOf x x (aP st) (aJ st) (ag st) .none kV doc pm an (.ref c) ct/\K.lookup f=some ⟨oc,od,.func fd,Gz⟩/\codeIn K (.ref c) x=true/\keepIn K (.ref f)=true/\mg x=some (.ref f)/\Binds K fd ps []
section
variable {Pr:Program}{w:World}{K:Frag}{mg:Str->Option Value}{base:Heap}
theorem K9.ok{x:Str}{st:Stmt}{N ps:List Str}{k:Nat}{sp:Sp}{c:Addr}(D:K9 K mg x st ps c)(S:aN N ps (ag st))(len:∀ vs H Q E,sp vs H Q E->vs.length=ps.length)
  (mF:∀ (f:Addr) (A:Around) (outer:List Env) (s:Shared) (H:Hp) (vs:List V) (Q:VK) (E:XK),dF k (A.deeper (envOfC x (ag st) s.heap.objs.size f (.ref c)))->sp vs H Q E ->
   ∃ t,yd (rW GB Pr w K mg base N x (ag st) f (.ref c) A outer s H E).JJ (aJ st) t/\t { nx:=fun _ H'=>Q .fw H',rt:=Q } (start N vs) H):Ok Pr w K mg base (k+1) x ps sp:=by
 obtain ⟨f,fd,oc,od,kV,doc,pm,an,ct,Gz,rfl,lk,Ap,hkp,hm,hb⟩:=D
 refine⟨f,_,G9 lk Ap S len fun A outer s H vs Q E hr E3=>?_,hm,hkp,hb⟩
 obtain ⟨t,h,q⟩:=mF f A outer s H vs Q E hr E3
 exact⟨t,h.JJ,q⟩
end
end L2
namespace L2
open PySem PySem.Spec PyProof.Rows PySem.W
def zA(K:Frag)(y:Str):Addr:=((tabIn K y).getD (0,0)).2
theorem Em{K:Frag}{y:Str}{c P:Addr}(h:tabIn K y=some (c,P)):zA K y=P:=by unfold zA;rw [h];rfl
def CS(y:Str)(lp:Pos)(q:Str)(K:Frag):Sp:=fun vs H Q _=>∃ (a:Addr) (ns:List Int),vs=[.ref a]/\aW K H a (ns.map V.int)/\ns.length<=63/\fI (zA K y) lp q H/\∀ H',Q (.bl true) H'
open PySem PySem.Spec PyProof.Rows
def VR(hi:Int)(n:Nat):It:=⟨fun i _=>i<n,fun i H x H'=>H'=H/\x=.int (hi - i),fun i _=>n<=i⟩
theorem FA{P:Program}{w:World}{K:Frag}{tg:Expr}(it:Addr)(hi:Int)(n:Nat):Turn P w K tg (VR hi n) [it] it (fun i h=>IsRangeIter h it (hi+(i:Nat)*(-1)) ((n:Int) - (i:Nat)) (-1)) where
 mem:=by simp
 obj:=fun i h st b hb=>by
  obtain rfl:b=it:=by simpa using hb
  exact⟨_,st,fun v z=>nomatch (show Data.fields _=Data.cell v from z)⟩
 keep:=fun i h h' st k=>k it (by simp) _ st
 item:=by
  intro X hP hw hK hc i pins s σ H E I hf st hg
  subst hP hw hK
  obtain ⟨f0,f1,f2,f3,f4,f5⟩:=hf it (by simp)
  have WD:=Walks.range (prog:=X.prog) (w:=X.w) (I.ok.hd hc) it hi (-1) n
  refine WD.item i s _ _ hg st fun v h' tk hv j8 kk=>?_
  obtain ⟨t,rfl⟩:=hv
  have ID:Inv X pins σ H { s with heap:=h',toks:=tk }:=I.turned (fun b o hb e=>kk b o (by simpa using hb) e) f0 f1 f3 f4 f5
  refine⟨_,rfl,DO (s:={ s with heap:=h',toks:=tk }) (n:="range_iterator") j8 rfl rfl (by decide) ⟨.int (hi - i),H,ID,⟨t,?_⟩,⟨rfl,rfl⟩,j8,fun b hb=>(hf b hb).1⟩⟩
  rw [show hi+(i:Int)*(-1)=hi - i by lia]
 done:=by
  intro X hP hw hK hc i pins s σ H E I hf st hg
  subst hP hw hK
  obtain ⟨f0,f1,f2,f3,f4,f5⟩:=hf it (by simp)
  exact wpAny_pyNext_range_end (I.ok.hd hc) st (by have SV:n<=i:=hg;lia) fun h' eb=>⟨rfl,I.turned (t':=s.toks) (fun b o hb e=>eb b o hb e) f0 f1 f3 f4 f5⟩
 self:=fun _ _ _ _ _ st h=>wpAny_pyIter_rangeiter st h
theorem yJ(a b:Int):Builtin.Range.rangeSize a b (-1)=if b<a then a - b else 0:=by
 unfold Builtin.Range.rangeSize
 simp only [show ¬ ((-1:Int) > 0) by decide,if_false,Int.neg_neg,Int.ediv_one]
 split <;> lia
theorem small_down{a b:Int}(ha:-1000000<=a/\a<=1000000)(hb:-1000000<=b/\b<=1000000):Builtin.Range.small a b (-1)=true:=by
 unfold Builtin.Range.small
 rw [yJ]
 simp only [Builtin.Range.rangeFitsLong,Bool.and_eq_true,Bool.or_eq_true,decide_eq_true_eq,beq_iff_eq,show ¬ ((-1:Int) > 0) by decide,if_false]
 split <;> lia
section
variable {X:Cx}{tg:Expr}
def OB:List V->Hp->(It->Hp->Prop)->Prop:=fun vs H R=>∃ i j:Int,vs=[.int i,.int j,.int (-1)]/\(-1000000<=i/\i<=1000000)/\(-1000000<=j/\j<=1000000)/\R (VR i (i - j).toNat) H
def MH(ta:TA):TI:=fun σ H R=>ta σ H fun vs H1=>OB vs H1 R
theorem FC {a b c:Expr} {ta:TA} {p pos:Pos} (hg:Gl X "range") (hm:X.mg "range"=none) (ha:PA X [a,b,c] ta) (hs:starEach [a,b,c] X.env=[(false,eval a X.env),(false,eval b X.env),(false,eval c X.env)]:=by rfl) (jS:starEach [b,c] X.env=[(false,eval b X.env),(false,eval c X.env)]:=by rfl) :
  PI X tg (.Call (.Name "range" p) [a,b,c] [] pos) (MH ta):=by
 intro pins s σ H R I h
 refine Call_ (kH I hg hm boot_range (callWith_type1 (di (ha pos pins s σ H _ I h) fun us s1 ⟨vs,H1,I1,r1,q1⟩=>?_) (by rw [hs,jS]) (by rw [jS];rfl)))
 obtain ⟨i,j,e,hi,hj,q⟩:=q1
 subst e
 cases r1 with
 | cons r rr =>
  cases rr with
  | cons r' rr =>
   cases rr with
   | cons r'' rr =>
    cases rr
    obtain ⟨t,rfl⟩:=r
    obtain ⟨t',rfl⟩:=r'
    obtain ⟨VS,rfl⟩:=r''
    refine call_range_3 (by decide) ?_ (Or.inl (PyProof.noPylong_of_log2 (by decide +kernel)))
    refine wpAny_pyIter_range (IsRange.new ..) (small_down hi hj) ?_
    have ID:Inv X pins σ H1 { s1 with heap:=s1.heap.push { cls:=.type "range",data:=.fields #[.int i t,.int j t',.int (-1) VS] },toks:=s1.toks }:=I1.kept fun b o e=>afV _ e
    refine⟨(s1.heap.push { cls:=.type "range",data:=.fields #[.int i t,.int j t',.int (-1) VS] }).objs.size,[(s1.heap.push { cls:=.type "range",data:=.fields #[.int i t,.int j t',.int (-1) VS] }).objs.size],_,_,H1,rfl,
     ID.kept (t':=s1.toks) fun b o e=>afV _ e,FA _ i (i - j).toNat,?_,fun b hb=>?_,q⟩
    ·have e1:i+((0:Nat):Int)*(-1)=i:=by simp
     have e2:(((i - j).toNat:Nat):Int) - ((0:Nat):Int)=Builtin.Range.rangeSize i j (-1):=by rw [yJ];split <;> lia
     show IsRangeIter _ _ (i+((0:Nat):Int)*(-1)) ((((i - j).toNat:Nat):Int) - ((0:Nat):Int)) (-1)
     rw [e1,e2]
     exact afZ _ rfl
    ·obtain rfl:b=(s1.heap.push { cls:=.type "range",data:=.fields #[.int i t,.int j t',.int (-1) VS] }).objs.size:=by simpa using hb
     exact ID.Ay (af1 _) (ID.cA.fresh (af1 _))
end
section
variable {H:Hp}{σ:St}{R:It->Hp->Prop}
theorem La{ts:TA}(h:ts σ H fun vs H1=>OB vs H1 R):MH ts σ H R:=h
theorem OC{i j:Int}(h1:-1000000<=i/\i<=1000000)(h2:-1000000<=j/\j<=1000000)(h:R (VR i (i - j).toNat) H):OB [.int i,.int j,.int (-1)] H R:=⟨i,j,rfl,h1,h2,h⟩
variable {g:TG}{D:Ends}
theorem OD{hi:Int}{n:Nat}{tb:TS}(Pv:Nat->St->Hp->Prop)(h0:Pv 0 σ H)(hs:∀ i σ H2,i<n->Pv i σ H2->g (.int (hi - i)) σ H2 fun σ2 H4=>tb { D with nx:=Pv (i+1),ct:=Pv (i+1),bk:=D.nx } σ2 H4)(hd:∀ σ H2,Pv n σ H2->D.nx σ H2):nN g tb D (VR hi n) σ H:=by
 refine Ei n Pv h0 (fun i σ H2 hi _=>hi) (fun σ H2 _=>af1 _) (fun i x σ H2 H3 hi p y=>?_) hd
 obtain ⟨rfl,rfl⟩:=y
 exact hs i σ _ hi p
end
theorem uc{α:Type}{rs:List α}{f:α->Bool}{i:Nat}{r:α}(h:rs[i]?=some r):(rs.take (i+1)).filter f=(rs.take i).filter f++(if f r then [r] else []):=by
 rw [take_add_one,h,filter_append]
 cases e:f r <;> simp [e]
theorem FD{α β:Type}{rs:List α}{g:α->β}{i:Nat}{r:α}(h:rs[i]?=some r):(rs.take (i+1)).map g=(rs.take i).map g++[g r]:=by
 rw [take_add_one,h,agD]
 rfl
section
variable {K:Frag}{H:Hp}{σ:St}{Q:VK}{ix:List (Option Nat)}{l:Addr}{xs:List V}{rs:List (List Int)}
theorem de{tt:TT}{te:TE}(fr:St)(f:List Int->Bool)(kL:pick ix σ=none::fr)(hl:aW K H l xs)(hr:av K H xs rs)(hn:rs.length<=1000)
  (test:∀ (a:Addr) (r:List Int) (H':Hp) (Qt:Bool->Hp->Prop),r∈rs->aj H H'->aZ K H' a (r.map V.int)->(∀ H5,aj H' H5->Qt (f r) H5)->tt (some (.ref a)::fr) H' Qt)
  (elt:∀ (a:Addr) (H':Hp) (Qc:VK),aj H H'->Qc (.ref a) H'->te (some (.ref a)::fr) H' Qc)
  (hQ:∀ l2 H' ys,H l2=none->aj H H'->H' l2=some (.lst ys)->av K H' ys (rs.filter f)->Q (.ref l2) H'):bR ix (cO 0) tt te σ Q (JK K l) H:=by
 have hlen:=hr.length
 refine si (K:=K) 1 fr rs.length (fun i=>(rs.take i).filter f) kL rfl (fun i=>af0 (age _ _) (af0 (List.length_take_le' _ _) hn)) (fun H' s=>⟨xs,s.seq hl,by lia⟩) (fun i H' hi s=>⟨xs,xs[i]'(by lia),s.seq hl,agg (by lia)⟩) (fun i x H' H2 own ho hi s hy Qy Qn ky kn=>?_) (fun l2 H' ys a b c d=>hQ l2 H' ys a b c (by rw [agz] at d;exact d))
 obtain ⟨o1,rfl⟩:∃ o1,own=[o1]:=by match own,ho with|[o1],_=>exact⟨o1,rfl⟩
 obtain ⟨rfl,e⟩:=hy
 obtain ⟨a,r,rfl,ha,Cc⟩:=hr.get (e xs (s.seq hl))
 have uA:r∈rs:=by
  obtain ⟨h1,h2⟩:=afX.mp Cc
  rw [<- h2]
  exact agR h1
 have et:=uc (f:=f) Cc
 dsimp only [cO]
 refine test a r _ _ uA s (s.at ha) fun H5 s5=>?_
 cases ef:f r with
 | true =>
  rw [ef] at et
  rw [if_pos rfl]
  exact elt a H5 _ (s.trans s5) (ky [some (.ref a)] a r H5 rfl s5 ((s.trans s5).at ha) et)
 | false =>
  rw [ef] at et
  rw [if_neg (by decide)]
  exact kn [some (.ref a)] H5 rfl s5 (by rw [et];simp)
theorem eh{te:TE}(fr:St)(g:List Int->List Int)(kL:pick ix σ=none::fr)(hl:aW K H l xs)(hr:av K H xs rs)(hn:rs.length<=1000)
  (elt:∀ (a:Addr) (r:List Int) (H':Hp) (Qc:VK),r∈rs->aj H H'->aZ K H' a (r.map V.int)->(∀ p H5,aj H' H5->aZ K H5 p ((g r).map V.int)->Qc (.ref p) H5)->te (some (.ref a)::fr) H' Qc)
  (hQ:∀ l2 H' ys,H l2=none->aj H H'->H' l2=some (.lst ys)->av K H' ys (rs.map g)->Q (.ref l2) H'):bR ix (cO 0) (fun _ H Q=>Q true H) te σ Q (JK K l) H:=by
 have hlen:=hr.length
 refine si (K:=K) 1 fr rs.length (fun i=>(rs.take i).map g) kL rfl (fun i=>by rw [agm];exact af0 (List.length_take_le' _ _) hn) (fun H' s=>⟨xs,s.seq hl,by lia⟩) (fun i H' hi s=>⟨xs,xs[i]'(by lia),s.seq hl,agg (by lia)⟩) (fun i x H' H2 own ho hi s hy Qy Qn ky kn=>?_) (fun l2 H' ys a b c d=>hQ l2 H' ys a b c (by rw [agz] at d;exact d))
 obtain ⟨o1,rfl⟩:∃ o1,own=[o1]:=by match own,ho with|[o1],_=>exact⟨o1,rfl⟩
 obtain ⟨rfl,e⟩:=hy
 obtain ⟨a,r,rfl,ha,Cc⟩:=hr.get (e xs (s.seq hl))
 have uA:r∈rs:=by
  obtain ⟨h1,h2⟩:=afX.mp Cc
  rw [<- h2]
  exact agR h1
 dsimp only [cO]
 rw [if_pos rfl]
 exact elt a r _ _ uA s (s.at ha) fun p H5 s5 hp=>ky [some (.ref a)] p (g r) H5 rfl s5 hp (FD Cc)
end
end L2
namespace L2
open PySem PySem.Spec PyProof.Rows PySem.W
theorem av.eU{K:Frag}{H H':Hp}{P:Addr}{lp:Pos}{q:Str}(s:bc P H H')(t:fI P lp q H):∀ {xs:List V} {rs:List (List Int)},av K H xs rs->av K H' xs rs
 | _,_,.nil=>.nil
 | _,_,.cons h u=>.cons (s.at t h) (av.eU s t u)
theorem av.Ip{K:Frag}{H:Hp}{xs:List V}{r:List Int}{rs:List (List Int)}(h:av K H xs (r::rs)):∃ a ys,xs=.ref a::ys/\aZ K H a (r.map V.int)/\av K H ys rs:=by
 cases h with
 | cons h t=>exact⟨_,_,rfl,h,t⟩
open PySem PySem.Spec PyProof.Rows
theorem bc.new{P a:Addr}{lp:Pos}{q:Str}{H H':Hp}(s:bc P H H')(t:fI P lp q H')(n:H' a=none):H a=none:=by
 match e:H a with
 | none=>rfl
 | some o =>
  by_cases z:a=P
  ·obtain ⟨ps,h,_⟩:=t
   rw [z,h] at n
   cases n
  ·rw [s a o z e] at n
   cases n
theorem aj.new{a:Addr}{H H':Hp}(s:aj H H')(n:H' a=none):H a=none:=by
 match e:H a with
 | none=>rfl
 | some o =>
  rw [s a o e] at n
  cases n
theorem fI.off{P l:Addr}{lp:Pos}{q:Str}{H:Hp}{ys zs:List V}(t:fI P lp q H)(e:H l=some (.lst ys)):fI P lp q (upd H l (.lst zs)):=by
 obtain ⟨ps,h1,h2,h3⟩:=t
 refine⟨ps,by rw [aG (fun z=>by rw [z,e] at h1;cases h1)];exact h1,h2,h3.imp id fun ⟨c,z,y⟩=>⟨c,z,by rw [aG (fun z=>by rw [z,e] at y;cases y)];exact y⟩⟩
def Iq(i j:Int):Prop:=ET i j\/i7 i j
section
variable {K:Frag}{H:Hp}{σ:St}{Q:VK}{ix:List (Option Nat)}
theorem qm{J:It}{g:TG}{tt:TT}{te:TE}(t:Nat)(fr:St)(n:Nat)(Pv:Addr->Nat->List V->Hp->Prop)(kL:pick ix σ=List.replicate t none++fr)
  (h0:∀ l H',H l=none->aj H H'->H' l=some (.lst [])->Pv l 0 [] H') (hn:∀ l i ys H',Pv l i ys H'->ys.length<=1000)
  (pY:∀ H',aj H H'->J.stop n H') (Kr:∀ i H',i<n->aj H H'->J.go i H')
  (step:∀ l i x H' H2 own ys,own.length=t->i<n->H l=none->aj H H'->H' l=some (.lst ys)->Pv l i ys H'->J.J6 i H' x H2->∀ (Qy:St->VK) (Qn:St->Hp->Prop),
   (∀ kP v H5,kP.length=t->aj H' H5->Pv l (i+1) (ys++[v]) (upd H5 l (.lst (ys++[v])))->Qy (kP++fr) v H5)->(∀ kP H4,kP.length=t->aj H' H4->Pv l (i+1) ys H4->Qn (kP++fr) H4) ->
   g x (own++fr) H2 fun σ2 H3=>tt σ2 H3 fun b H4=>if b=true then te σ2 H4 (Qy σ2) else Qn σ2 H4)
  (hQ:∀ l H' ys,H l=none->aj H H'->H' l=some (.lst ys)->Pv l n ys H'->Q (.ref l) H'):bR ix g tt te σ Q J H:=by
 intro l hl
 refine⟨fun i m σ1 ys H'=>m=n - i/\i<=n/\(∃ own:St,own.length=t/\σ1=own++fr)/\aj H H'/\H' l=some (.lst ys)/\Pv l i ys H',⟨n,by simp,agM _,⟨_,length_replicate,kL⟩,aj.cM hl,aw,h0 l _ hl (aj.cM hl) aw⟩,?_⟩
 rintro i m σ1 ys H' ⟨rfl,hi,⟨own,ho,rfl⟩,hs,jD,hp⟩
 refine⟨jD,?_⟩
 by_cases xq:i<n
 ·refine .inr ⟨Kr i H' xq hs,n - (i+1),by lia,fun x H2 hy=>step l i x H' H2 own ys ho xq hl hs jD hp hy _ _ (fun kP v H5 Cu s5 Lb=>?_) fun kP H4 Cu s4 hp4=>?_⟩
  ·have l5:=s5 _ _ jD
   refine⟨l5,agu (hn l i ys H' hp) (eI (af1 1000)),rfl,xq,⟨kP,Cu,rfl⟩,fun b o e=>?_,aw,Lb⟩
   rw [aG (bE e hl)]
   exact s5 _ _ (hs _ _ e)
  ·exact⟨rfl,xq,⟨kP,Cu,rfl⟩,hs.trans s4,s4 _ _ jD,hp4⟩
 ·obtain rfl:i=n:=by lia
  exact .inl ⟨pY H' hs,hQ l H' ys hl hs jD hp⟩
end
inductive fW(H:Hp):List V->List (List Int)->Prop where
 | nil:fW H [] []
 | cons {a:Addr} {r:List Int} {xs:List V} {rs:List (List Int)} (h:H a=some (.lst (r.map V.int))) (t:fW H xs rs):fW H (.ref a::xs) (r::rs)
section
variable {K:Frag}{H:Hp}{σ:St}{Q:VK}{ix:List (Option Nat)}{l:Addr}{xs:List V}{rs:List (List Int)}
theorem CT{tt:TT}{te:TE}{r:List Int}(fr:St)(f:Nat->Bool)(kL:pick ix σ=none::none::fr)(hl:aZ K H l (r.map V.int))(hn:r.length<=1000)
  (tst:∀ (i:Nat) (H':Hp) (Qt:Bool->Hp->Prop),i<r.length->aj H H'->Qt (f i) H'->tt (some (.int i)::some (.int (r.getD i 0))::fr) H' Qt)
  (elt:∀ (i:Nat) (H':Hp) (Qc:VK),aj H H'->Qc (.int i) H'->te (some (.int i)::some (.int (r.getD i 0))::fr) H' Qc)
  (hQ:∀ l2 H',H l2=none->aj H H'->H' l2=some (.lst ((((List.range r.length).filter f).map fun (i:Nat)=>(i:Int)).map V.int))->Q (.ref l2) H'):bR ix (yY K 2 (i5 (cO 0) (i5 (cO 1) Ax))) tt te σ Q (SY K true l) H:=by
 refine qm 2 fr r.length (fun l i ys H'=>ys=(((List.range i).filter f).map fun (i:Nat)=>(i:Int)).map V.int/\i<=r.length) kL (fun l H' _ _ _=>⟨rfl,agM _⟩) (fun l i ys H' h=>by rw [h.1,agm,agm];exact af0 (age _ _) (by rw [agx];lia)) (fun H' s=>⟨_,iz (s.at hl),by simp⟩) (fun i H' hi s=>⟨_,_,iz (s.at hl),int_at hi⟩) (fun l' i x H' H2 own ys ho hi XG s jD hp hy Qy Qn ky kn=>?_) (fun l2 H' ys a b c d=>hQ l2 H' a b (by rw [c,d.1]))
 obtain ⟨o1,o2,rfl⟩:∃ o1 o2,own=[o1,o2]:=by match own,ho with|[o1,o2],_=>exact⟨o1,o2,rfl⟩
 obtain ⟨q,x',rfl,hq,e1,rfl⟩:=hy
 obtain ⟨rfl,_⟩:=d9 (e1 _ (iz (s.at hl)))
 have s2:=aj.cM (o:=.tup [.int (i:Nat),.int (r.getD i 0)]) hq
 refine⟨q,_,rfl,aZ.of aw,rfl,_,_,rfl,_,_,rfl,rfl,?_⟩
 refine tst i _ _ hi (s.trans s2) ?_
 cases ef:f i with
 | true =>
  rw [if_pos rfl]
  refine elt i _ _ (s.trans s2) (ky [some (.int i),some (.int (r.getD i 0))] _ _ rfl s2 ⟨?_,hi⟩)
  rw [range_succ,filter_append,hp.1]
  simp [ef]
 | false =>
  rw [if_neg (by decide)]
  refine kn [some (.int i),some (.int (r.getD i 0))] _ rfl s2 ⟨?_,hi⟩
  rw [range_succ,filter_append,hp.1]
  simp [ef]
end
end L2
namespace HT
open PySem PySem.Spec PyProof.Rows
section
variable {prog:Program}{w:World}{A:Around}{E:Value->Shared->Prop}{s:Shared}
theorem qo{t sl:Addr}{items:Array Value}{vl vu:Value}{lo hi:Option Int}{Q:Value->Shared->Prop}(ht:IsTup s.heap t items)(VI:s.heap.IsSliceOf sl vl vu .none)(pl:IsPart vl lo)(pu:IsPart vu hi)
  (hw:fv items.size 0 lo=0/\fv items.size items.size hi=items.size) (h:Q (.ref t) s):wpAny (model prog w) A (getItem (.ref t) (.ref sl)) Q E s:=by
 obtain ⟨os,JN,GA,Rk⟩:=id VI
 have WQ:s.TypeIs (.ref sl) "slice":=⟨os,JN,GA⟩
 unfold getItem
 try with_reducible refine wpAny_holding ?_
 first|refine afW (agc ?_)|skip
 refine afW (wpAny_sequenceKey ht.typeIs (by decide) ?_)
 refine afW (wpAny_callSpecial?_slot (name:=Str.ofString "__getitem__") ht.typeIs PyProof.Rows.slot_tuple_getitem
  (wpAny_call_entry PyProof.Rows.slot_tuple_getitem ht.typeIs entry_tuple_getitem ?_ (args_tuple_getitem _ _)))
 show wpAny _ _ (Builtin.Tuple.tupleItemsOf (.ref t) >>= _) _ _ s
 refine afW (tupleItemsOf_ ht ?_)
 refine afW (wpAny_typeOf WQ ?_)
 rw [if_pos (by decide)]
 refine afW (ka VI pl pu ?_)
 have XH:(((fv items.size 0 lo:Nat):Int) == 0 && (1:Int) == 1 && (fv items.size items.size hi - fv items.size 0 lo) == items.size)=true:=by
  rw [hw.1,hw.2]
  simp
 show wpAny _ _ (if (((fv items.size 0 lo:Nat):Int) == 0 && (1:Int) == 1 && (fv items.size items.size hi - fv items.size 0 lo) == items.size)=true then _ else _) _ _ s
 rw [if_pos XH]
 refine afW ?_
 unfold Builtin.Tuple.tupleIsExact
 refine afW (wpAny_typeOf ht.typeIs (agc ?_))
 rw [if_pos (by decide)]
 refine afW (wpAny_rule ?_)
 first
  | exact agc ⟨_,rfl,agc h⟩
  | exact afW (agc (agc ⟨_,rfl,agc h⟩))
end
end HT
namespace L2
open PySem PySem.Spec PyProof.Rows
section
variable {X:Cx}{K:Frag}{H:Hp}{Q:VK}
def OE(K:Frag):V->Option Int->Option Int->Hp->VK->Prop:=fun x lo hi H Q=>∃ a xs,x=.ref a/\aZ K H a xs/\((HT.fv xs.length 0 lo=0/\HT.fv xs.length xs.length hi=xs.length/\Q (.ref a) H)\/Rl K x lo hi H Q)
theorem Lc:Qj X (OE X.K):=by
 intro pins s σ H x v vl vu lo hi sl Q I rx hs pl pu h
 obtain ⟨a,xs,rfl,hx,⟨h1,h2,q⟩|h⟩:=h
 ·cases rx
  obtain ⟨its,r,ht,hz⟩:=I.tuple hx
  have hlen:its.toArray.size=xs.length:=by rw [agB];exact r.length.symm
  refine⟨"tuple",_,PyProof.Rows.slot_tuple_getitem.lookup,ht.typeIs,?_⟩
  exact HT.qo ht hs pl pu (by rw [hlen];exact⟨h1,h2⟩) ⟨.ref a,H,I,rfl,q⟩
 ·exact Nx pins s σ H _ v vl vu lo hi sl Q I rx hs pl pu h
theorem qp(K:Frag)(hK:X.K=K):Qj X (OE K):=hK ▸ Lc
theorem yK{a:Addr}{xs:List V}{lo hi:Option Int}(e:aZ K H a xs)(h:∀ p H2,aj H H2->aZ K H2 p (iQ xs lo hi)->Q (.ref p) H2):OE K (.ref a) lo hi H Q:=by
 refine⟨a,xs,rfl,e,?_⟩
 by_cases c:HT.fv xs.length 0 lo=0/\HT.fv xs.length xs.length hi=xs.length
 ·refine .inl ⟨c.1,c.2,h a H (aj.refl _) ?_⟩
  have:iQ xs lo hi=xs:=by
   unfold iQ
   rw [c.1,c.2,sub_zero,drop_zero,agz]
  rw [this]
  exact e
 ·exact .inr ⟨a,xs,rfl,e,c,fun p hp=>h p _ (aj.cM hp) (aZ.of aw)⟩
end
section
variable {K:Frag}{H:Hp}{σ:St}{Q:VK}{ix:List (Option Nat)}
theorem jF{a:Addr}{x y:V}{m n:Nat}{R:St->Hp->Prop}(h:aZ K H a [x,y])(k:R ((σ.set m (some x)).set n (some y)) H):yY K 2 (i5 (cO m) (i5 (cO n) Ax)) (.ref a) σ H R:=⟨a,_,rfl,h,rfl,_,_,rfl,_,_,rfl,rfl,k⟩
end
def gq:Stmt->Nat->Stmt
 | .ClassDef _ _ _ body _ _ _ _ _ _ _,j=>body.getD j (.Pass ⟨0,0,0,0⟩)
 | s,_=>s
def ir(K:Frag)(f:Addr)(x qual:Str)(st:Stmt)(ps:List Str):Prop:=∃ fd,Mm K x qual st f fd/\Binds K fd ps []
def oi(P:Program)(w:World)(K:Frag)(mg:Str->Option Value)(base:Heap)(k:Nat)(f:Addr)(ps:List Str)(sp:Sp):Prop :=
 ∃ fd,oJ P w K mg base GB k f fd ps sp/\keepIn K (.ref f)=true/\Binds K fd ps []
structure S9(K:Frag)(C:Addr)(m:Str)(f:Addr):Prop where
 rd:readsIn K C (.type "type")=true
 at_:findCls K (.ref C) (.type "type") m=some (.val (.ref f))
 sp:specialIn K (.ref C) "__getattribute__"=some (some (.builtin "type.__getattribute__"))
section
variable {P:Program}{w:World}{K:Frag}{mg:Str->Option Value}{base:Heap}
theorem ir.ok{fa:Addr}{x qual:Str}{st:Stmt}{N ps:List Str}{k:Nat}{sp:Sp}(D:ir K fa x qual st ps)(S:aN N ps (ag st))(len:∀ vs H Q E,sp vs H Q E->vs.length=ps.length)
  (mF:∀ (f:Addr) (dh:Value) (A:Around) (outer:List Env) (s:Shared) (H:Hp) (vs:List V) (Q:VK) (E:XK),dF k (A.deeper (envOfC qual (ag st) s.heap.objs.size f dh))->sp vs H Q E ->
   ∃ t,yd (rW GB P w K mg base N qual (ag st) f dh A outer s H E).JJ (aJ st) t/\t { nx:=fun _ H'=>Q .fw H',rt:=Q } (start N vs) H):oi P w K mg base (k+1) fa ps sp:=by
 obtain ⟨fd,F,hb⟩:=D
 exact⟨fd,F.ok S len fun dh A outer s H vs Q E hr h=>mF fa dh A outer s H vs Q E hr h,F.kp,hb⟩
end
section
variable {X:Cx}{k:Nat}{f C:Addr}{x m:Str}{ps:List Str}{sp:Sp}{p pos apos:Pos}{e o:Expr}{es:List Expr}{ta:TE}{t:TA}
theorem lV{pl:Sem Bool}(O:oi X.prog X.w X.K X.mg X.base k f ps sp)(c:yj X.K C)(hm:Meth X.K C m f)(hr:dF k X.A)(he:PE X o ta)(ha:PA X (e::es) t)
  (oF:starEach (e::es) X.env=(false,eval e X.env)::starEach es X.env:=by rfl) (ur:(backTo pos (starEach es X.env)).any (·.1)=false:=by rfl)
  (ht:eval (.Call (.Attribute o m apos) (e::es) [] pos) X.env=(do
   let ov <- eval o X.env
   standAt apos.atName
   let (f,first) <- holding [ov] (getMethod ov m pl)
   callWith pos f first (backTo pos (starEach (e::es) X.env)) (backToKw pos (keywordEach [] X.env))):=by rfl) :
  PE X (.Call (.Attribute o m apos) (e::es) [] pos) (j9 C m sp [] E0 ta t):=by
 obtain ⟨fd,F,_,hb⟩:=O
 exact Kb he c hm F hr hb .nil AI ha oF ur ht
theorem iB{pl:Sem Bool}(O:oi X.prog X.w X.K X.mg X.base k f ps sp)(c:yj X.K C)(hm:Meth X.K C m f)(hr:dF k X.A)(he:PE X o ta)
  (ht:eval (.Call (.Attribute o m apos) [] [] pos) X.env=(do
   let ov <- eval o X.env
   standAt apos.atName
   let (f,first) <- holding [ov] (getMethod ov m pl)
   callWith pos f first (backTo pos (starEach [] X.env)) (backToKw pos (keywordEach [] X.env))):=by rfl) :
  PE X (.Call (.Attribute o m apos) [] [] pos) (j9 C m sp [] E0 ta vt):=by
 obtain ⟨fd,F,_,hb⟩:=O
 exact G6 he c hm F hr hb .nil AI ht
theorem Bb(O:oi X.prog X.w X.K X.mg X.base k f ps sp)(M:Mk X.K C f)(hr:dF (k+1) X.A)(hg:Gl X x)(hm:X.mg x=some (.ref C))(ha:PA X (e::es) t)
  (xm:(x == ("__debug__":Str))=false:=by decide) (he:starEach (e::es) X.env=(false,eval e X.env)::starEach es X.env:=by rfl) (ur:(backTo pos (starEach es X.env)).any (·.1)=false:=by rfl) :
  PE X (.Call (.Name x p) (e::es) [] pos) (G5 C sp [] E0 t):=by
 obtain ⟨fd,F,_,hb⟩:=O
 exact Kc M F hr hg hm hb .nil AI ha xm he ur
theorem XI{pl:Sem Bool}(O:oi X.prog X.w X.K X.mg X.base k f ps sp)(c:S9 X.K C m f)(hr:dF k X.A)(hg:Gl X x)(hm:X.mg x=some (.ref C))(ha:PA X (e::es) t)
  (xm:(x == ("__debug__":Str))=false:=by decide) (oF:starEach (e::es) X.env=(false,eval e X.env)::starEach es X.env:=by rfl) (ur:(backTo pos (starEach es X.env)).any (·.1)=false:=by rfl)
  (ht:eval (.Call (.Attribute (.Name x p) m apos) (e::es) [] pos) X.env=(do
   let ov <- eval (.Name x p) X.env
   standAt apos.atName
   let (f,first) <- holding [ov] (getMethod ov m pl)
   callWith pos f first (backTo pos (starEach (e::es) X.env)) (backToKw pos (keywordEach [] X.env))):=by rfl) :
  PE X (.Call (.Attribute (.Name x p) m apos) (e::es) [] pos) (AE sp [] E0 t):=by
 obtain ⟨fd,F,kp,hb⟩:=O
 intro pins s σ H Q I h
 refine methodCall_KW (pl:=pl) (kG I hg hm ?_ xm) ht
 refine PySem.W.method_cls I.mC c.sp (PySem.W.cls_value I.mC c.rd c.at_ rfl ?_)
 refine callWith_K (first:=[]) (h₀:=X.base) I.ok.mod.L6 kp (di (ha pos pins _ σ H _ (I.tok _) h) fun us s1 ⟨vs,H1,I1,r,q⟩=>⟨I1.mC,?_⟩) oF ur
 exact yZ F hr hb .nil AI I1 r q
theorem qr{f:Str}(K:Frag)(hK:X.K=K)(he:PE X e ta)(hb:attributeBase e f X.env (eval e X.env)=eval e X.env):PE X (.Attribute e f pos) (Nm K ta f):=hK ▸ Np he hb
theorem zB{f:Str}{value:Expr}{pos':Pos}{tv:TE}(K:Frag)(hK:X.K=K)(ha:PE X o ta)(hv:PE X value tv)(hs:swapsWith value (some (.Attribute o f pos')) pos.line X.env=pure false):PS X (.Assign [.Attribute o f pos'] value pos) (Nn K ta tv f):=hK ▸ Nq ha hv hs
end
section
variable {K:Frag}{H:Hp}{σ:St}{Q:VK}{D:Ends}{ta tv:TE}{t:TA}{C:Addr}{m f:Str}{sp:Sp}{x:V}
def MI(C:Addr)(m:Str)(sp:Sp)(t:TA)(σ:St)(Q:VK)(x:V)(H1:Hp):Prop:=∃ a dx fs,x=.ref a/\H1 a=some (.ins C dx fs)/\fs.lookup m=none/\t σ H1 fun vs H2=>sp (x::(vs++[])) H2 Q E0
theorem kQ(h:ta σ H fun x H1=>MI C m sp t σ Q x H1):j9 C m sp [] E0 ta t σ H Q:=h
theorem iS{a dx:Addr}{fs:List (Str×V)}(e:H a=some (.ins C dx fs))(l:fs.lookup m=none)(h:t σ H fun vs H2=>sp (.ref a::(vs++[])) H2 Q E0):MI C m sp t σ Q (.ref a) H:=⟨a,dx,fs,rfl,e,l,h⟩
def Ta(C:Addr)(sp:Sp)(Q:VK)(vs:List V)(H1:Hp):Prop:=∀ x dx,H1 x=none->H1 dx=none->dx≠x->sp (.ref x::(vs++[])) (upd (upd H1 dx (.own x)) x (.ins C dx [])) (fun v H2=>v=.fw/\Q (.ref x) H2) E0
theorem OF(h:t σ H fun vs H1=>Ta C sp Q vs H1):G5 C sp [] E0 t σ H Q:=h
def Tb(K:Frag)(f:Str)(Q:VK)(x:V)(H1:Hp):Prop:=∃ a C dx fs v,x=.ref a/\H1 a=some (.ins C dx fs)/\yj K C/\gd K C f/\fs.lookup f=some v/\Q v H1
theorem Tc(h:ta σ H fun x H1=>Tb K f Q x H1):Nm K ta f σ H Q:=h
theorem OG{a dx:Addr}{fs:List (Str×V)}{v:V}(e:H a=some (.ins C dx fs))(c:yj K C)(n:gd K C f)(l:fs.lookup f=some v)(h:Q v H):Tb K f Q (.ref a) H:=⟨a,C,dx,fs,v,rfl,e,c,n,l,h⟩
def MJ(K:Frag)(f:Str)(D:Ends)(σ:St)(y:V)(x:V)(H2:Hp):Prop:=∃ a C dx fs,x=.ref a/\H2 a=some (.ins C dx fs)/\yj K C/\gd K C f/\fs.length<1000/\D.nx σ (upd H2 a (.ins C dx (lZ f y fs)))
theorem OH(h:tv σ H fun y H1=>ta σ H1 fun x H2=>MJ K f D σ y x H2):Nn K ta tv f D σ H:=h
theorem u7{a dx:Addr}{fs:List (Str×V)}{y:V}(e:H a=some (.ins C dx fs))(c:yj K C)(n:gd K C f)(l:fs.length<1000)(h:D.nx σ (upd H a (.ins C dx (lZ f y fs)))):MJ K f D σ y (.ref a) H:=⟨a,C,dx,fs,rfl,e,c,n,l,h⟩
end
section
variable {K:Frag}{H:Hp}{σ:St}{Q:VK}{ix:List (Option Nat)}
theorem Ld{k1 k2:Bool}{a b:Addr}{r q:List Int}(kL:pick ix σ=[none,none])(ha:Sq k1 K H a (r.map V.int))(hb:Sq k2 K H b (q.map V.int))(hlen:q.length<=r.length)(hn:r.length<=1000)(hm:∀ i,i<q.length->i7 (r.getD i 0) (q.getD i 0))
  (hQ:∀ l H',H l=none->aj H H'->H' l=some (.lst ((List.zipWith (·*·) r q).map V.int))->Q (.ref l) H') :
  bR ix (yY K 2 (i5 (cO 0) (i5 (cO 1) Ax))) (fun _ H Q=>Q true H) (Mf (rI i7 fun i j=>.int (i*j)) (yX 0) (yX 1)) σ Q (Kp K k1 k2 a b) H:=by
 have lz:(List.zipWith (·*·) r q).length=q.length:=by rw [List.length_zipWith];lia
 refine qm 2 [] q.length (fun l i ys H'=>ys=((List.zipWith (·*·) r q).take i).map V.int/\i<=q.length) kL (fun l H' _ _ _=>⟨rfl,agM _⟩) (fun l i ys H' h=>by rw [h.1,agm,agA];lia) (fun H' s=>⟨_,_,s.sq ha,s.sq hb,.inr (by simp)⟩) (fun i H' hi s=>⟨_,_,_,_,s.sq ha,s.sq hb,int_at (by lia),int_at hi⟩) (fun l' i x H' H2 own ys ho hi XG s jD hp hy Qy Qn ky kn=>?_) (fun l2 H' ys a b c d=>hQ l2 H' a b (by rw [c,d.1,agG (by lia)]))
 obtain ⟨o1,o2,rfl⟩:∃ o1 o2,own=[o1,o2]:=by match own,ho with|[o1,o2],_=>exact⟨o1,o2,rfl⟩
 obtain ⟨p,x',y',rfl,hq,e1,e2,rfl⟩:=hy
 obtain ⟨rfl,_⟩:=d9 (e1 _ (s.sq ha))
 obtain ⟨rfl,_⟩:=d9 (e2 _ (s.sq hb))
 have s2:=aj.cM (o:=.tup [.int (r.getD i 0),.int (q.getD i 0)]) hq
 refine⟨p,_,rfl,aZ.of aw,rfl,_,_,rfl,_,_,rfl,rfl,?_⟩
 show ite (true=true) _ _
 rw [if_pos rfl]
 refine⟨_,rfl,_,rfl,_,_,rfl,rfl,hm i hi,?_⟩
 refine ky [some (.int (r.getD i 0)),some (.int (q.getD i 0))] _ _ rfl s2 ⟨?_,hi⟩
 rw [hp.1,take_add_one,agD]
 congr 1
 have:(List.zipWith (·*·) r q)[i]?=some (r.getD i 0*q.getD i 0):=by
  rw [List.getElem?_zipWith,agg (show i<r.length by lia),agg hi,List.getD,List.getD,agg (show i<r.length by lia),agg hi]
  rfl
 rw [this]
 rfl
theorem jU{n:Nat}{te:TE}(fr:St)(f:Nat->List Int)(kL:pick ix σ=none::fr)(hn:n<=1000)
  (elt:∀ (i:Nat) (H':Hp) (Qc:VK),i<n->aj H H'->(∀ p H5,aj H' H5->aZ K H5 p ((f i).map V.int)->Qc (.ref p) H5)->te (some (.int (i:Int))::fr) H' Qc)
  (hQ:∀ l H' ys,H l=none->aj H H'->H' l=some (.lst ys)->av K H' ys ((List.range n).map f)->Q (.ref l) H'):bR ix (cO 0) (fun _ H Q=>Q true H) te σ Q (Gx 0 n) H:=by
 refine qm 1 fr n (fun l i ys H'=>av K H' ys ((List.range i).map f)/\i<=n) kL (fun l H' _ _ _=>⟨.nil,agM _⟩) (fun l i ys H' h=>by rw [<- h.1.length];simp;lia) (fun H' s=>af1 _) (fun i H' hi s=>hi) (fun l i x H' H2 own ys ho hi XG s jD hp hy Qy Qn ky kn=>?_) (fun l H' ys a b c d=>hQ l H' ys a b c d.1)
 obtain ⟨o1,rfl⟩:∃ o1,own=[o1]:=by match own,ho with|[o1],_=>exact⟨o1,rfl⟩
 obtain ⟨rfl,rfl⟩:=hy
 dsimp only [cO]
 rw [if_pos rfl,zero_add]
 refine elt i _ _ hi s fun p H5 s5 Lb=>ky [some (.int i)] _ H5 rfl s5 ⟨?_,hi⟩
 rw [range_succ,agD]
 exact ((hp.1.same s5).off (s5 _ _ jD)).snoc (cN Lb (s5 _ _ jD))
end
section
variable {K:Frag}{H:Hp}{σ:St}{Q:VK}{ix:List (Option Nat)}
theorem zC{n:Nat}{te:TE}(fr:St)(P:Nat->List Int×Int->Prop)(kL:pick ix σ=none::fr)(hn:n<=1000)
  (elt:∀ (i:Nat) (H':Hp) (Qc:VK),i<n->aj H H'->(∀ p w k H5,aj H' H5->aZ K H5 p [.ref w,.int k.2]->aZ K H5 w (k.1.map V.int)->P i k->Qc (.ref p) H5)->te (some (.int (i:Int))::fr) H' Qc)
  (hQ:∀ l H' ys ks,H l=none->aj H H'->H' l=some (.lst ys)->bx K H' ys ks->ks.length=n->(∀ i k,ks[i]?=some k->P i k)->Q (.ref l) H'):bR ix (cO 0) (fun _ H Q=>Q true H) te σ Q (Gx 0 n) H:=by
 refine qm 1 fr n (fun l i ys H'=>∃ ks,bx K H' ys ks/\ks.length=i/\i<=n/\∀ j k,ks[j]?=some k->P j k) kL (fun l H' _ _ _=>⟨[],.nil,rfl,agM _,fun j k h=>by simp at h⟩) (fun l i ys H' h=>by obtain ⟨ks,h1,h2,h3,_⟩:=h;rw [<- h1.length];lia) (fun H' s=>af1 _) (fun i H' hi s=>hi) (fun l i x H' H2 own ys ho hi XG s jD hp hy Qy Qn ky kn=>?_) (fun l H' ys a b c d=>by obtain ⟨ks,h1,h2,_,h4⟩:=d;exact hQ l H' ys ks a b c h1 h2 h4)
 obtain ⟨ks,h1,h2,h3,h4⟩:=hp
 obtain ⟨o1,rfl⟩:∃ o1,own=[o1]:=by match own,ho with|[o1],_=>exact⟨o1,rfl⟩
 obtain ⟨rfl,rfl⟩:=hy
 dsimp only [cO]
 rw [if_pos rfl,zero_add]
 refine elt i _ _ hi s fun p w k H5 s5 hp hw hk=>ky [some (.int i)] _ H5 rfl s5 ⟨ks++[k],((h1.same s5).off (s5 _ _ jD)).snoc (cN hp (s5 _ _ jD)) (cN hw (s5 _ _ jD)),by simp [h2],hi,fun j q hj=>?_⟩
 rw [List.getElem?_append] at hj
 split at hj
 ·exact h4 j q hj
 ·rename_i S7
  have:j=ks.length:=by
   have:=(afX.mp hj).1
   simp at this
   lia
  subst this
  simp at hj
  rw [<- hj,h2]
  exact hk
end
end L2
namespace L2
open PySem PySem.Spec PyProof.Rows PySem.W
theorem FE{Pr:Program}{w:World}{K:Frag}{mg mb:Str->Option Value}{CX:G4}{k:Nat}{fa a:Addr}{fd:FuncData}{x:Str}{sp:Sp}{s₁:Shared}{vs:List Value}{ns:List Int}{tabs:List (Addr×Addr)}
  (hT:TabsAt tabs s₁.heap) (hKt:∀ q∈tabs,K.lookup q.2=none)
  (JT:∃ bm ob,mg "__builtins__"=some (.ref bm)/\bm≠builtinsNs/\s₁.heap.get? bm=some ob/\ob.cls=.type "module"/\ob.dict=some builtinsNs/\ob.data=.plain)
  (Ky:s₁.heap.NoSeer) (KX:K.In s₁.heap) (Qp:s₁.heap.Ns mainGlobals mg) (hb:s₁.heap.Ns builtinsNs mb) (CH:∀ x:Str,x≠"__name__"->mb x=bootBuiltins x) (XJ:s₁.heap.NoLimit) (hg:s₁.gens=#[])
  (ha:s₁.heap.get? a=some { cls:=.type "list",data:=.seq vs.toArray }) (hi:IntsAre vs ns) (hl:ns.length<=sizeLine) (hr:dF k callerA)
  (F:∀ base:Heap,K.In base->base.Ns mainGlobals mg->(∀ q∈tabs,CodeHd base q.1 q.2/\base.BuiltinsAt mg q.2)->base.NoSeer->oJ Pr w K mg base CX k fa fd [x] sp) (vW:∀ (s:Shared) (u:Value),BindsTo s fd ⟨[u],[]⟩ [(x,u)])
  (E3:∀ H:Hp,Io tabs H->aW K H a (ns.map V.int)->sp [.ref a] H (fun v _=>v=.bl true) fun _ _ _=>False)
  (hCX:∀ H e s',CX [] H s₁ (fun _ _ _=>False) e s'->False) :
  codeAny (model Pr w) callerA (.call (.ref fa) ⟨[.ref a],[]⟩) (fun r s'=>r=.ok (.ret (.bool true))/\OldK s₁.heap s'.heap/\s'.os=s₁.os/\AllBare s'.gens) s₁:=by
 have rv:=yp hi
 have XN:=hi.length
 have naT:∀ q∈tabs,q.2≠a:=fun q hq z=>by
  have e:=(hT q hq).2
  rw [z,ha] at e
  cases e
 have core:∀ H:Hp,(∀ b u,H b=some u->(b=a/\K.lookup a=none/\∃ xs,u=.yb { cls:=.type "list",data:=.seq vs.toArray } (.lst xs))\/∃ q∈tabs,q.2=b/\u=.xi #[])->Io tabs H->aW K H a (ns.map V.int)->kD Pr w H s₁.heap ->
   codeAny (model Pr w) callerA (.call (.ref fa) ⟨[.ref a],[]⟩) (fun r s'=>r=.ok (.ret (.bool true))/\OldK s₁.heap s'.heap/\s'.os=s₁.os/\AllBare s'.gens) s₁:=by
  intro H hA h0 hS cA
  have qu:∀ {b:Addr} {o:Obj},s₁.heap.get? b=some o->H b=none->(uo s₁.heap H).get? b=some o:=fun e n=>GS e n
  have VT:∀ {b:Addr} {o:Obj},s₁.heap.get? b=some o->(∀ v n,o.data≠.seq v n)->(∀ v,o.data=.fields v->o.cls≠.none)->H b=none:=fun {b o} e d d2=>by
   cases q:H b with
   | none=>rfl
   | some u =>
    rcases hA b u q with ⟨rfl,_⟩|⟨t,ht,rfl,_⟩
    ·rw [ha] at e
     cases e
     exact absurd rfl (d _ _)
    ·rw [(hT t ht).2] at e
     cases e
     exact absurd rfl (d2 _ rfl)
  have Ri:∀ {b:Addr} {o:Obj} {es:Array DictEntry} {ep:Nat},s₁.heap.get? b=some o->o.data=.dict es ep->H b=none:=fun e d=>VT e (fun v n z=>by rw [d] at z;cases z) fun v z=>by rw [d] at z;cases z
  have MK:∀ {b:Addr} {m:Str->Option Value},s₁.heap.Ns b m->(uo s₁.heap H).Ns b m:=fun {b m} ⟨o,es,ep,e,d,r⟩=>⟨o,es,ep,qu e (Ri e d),d,r⟩
  have hKb:K.In (uo s₁.heap H):=fun b o e=>qu (KX b o e) (by
   cases q:H b with
   | none=>rfl
   | some u =>
    rcases hA b u q with ⟨rfl,z,_⟩|⟨t,ht,rfl,_⟩
    ·rw [z] at e;cases e
    ·rw [hKt t ht] at e;cases e)
  have hM:Mod K mg (uo s₁.heap H):=⟨hKb,MK Qp,⟨mb,MK hb,CH⟩,let ⟨mc,h1,h2⟩:=XJ;⟨mc,MK h1,h2⟩⟩
  have hTb:∀ q∈tabs,CodeHd (uo s₁.heap H) q.1 q.2/\(uo s₁.heap H).BuiltinsAt mg q.2:=fun q hq=>by
   refine⟨?_,?_⟩
   ·obtain ⟨o,XO,file,tf,flags,tg,inF,text,tt,e1,e2,e3,r⟩:=(hT q hq).1
    exact⟨o,XO,file,tf,flags,tg,inF,text,tt,qu e1 (VT e1 (fun v n z=>by rw [e3] at z;cases z) fun v _ z=>by rw [e2] at z;cases z),e2,e3,r⟩
   ·obtain ⟨bm,ob,b1,b2,b3,b4,b5,b6⟩:=JT
    refine⟨bm,ob,b1,b2,fun z=>?_,fun z=>?_,qu b3 (VT b3 (fun v n z=>by rw [b6] at z;cases z) fun v z=>by rw [b6] at z;cases z),b4,b5,b6⟩
    ·obtain ⟨o,es,ep,e,hd,_⟩:=Qp
     rw [z,e] at b3;cases b3;rw [hd] at b6;cases b6
    ·rw [z,(hT q hq).2] at b3;cases b3;cases b4
  have hSb:(uo s₁.heap H).NoSeer:=⟨let ⟨mc,a,b⟩:=Ky.statics;⟨mc,MK a,b⟩,let ⟨mm,a,b⟩:=Ky.mods;⟨mm,MK a,b⟩,⟨mb,MK hb,CH⟩,let ⟨bm,ob,b1,b2,b3,b4,b5,b6⟩:=JT;⟨mg,bm,ob,MK Qp,b1,qu b3 (VT b3 (fun v n z=>by rw [b6] at z;cases z) fun v z=>by rw [b6] at z;cases z),b4,b5⟩⟩
  have e0:Ct Pr w K mg (uo s₁.heap H) callerA [] s₁ H:=⟨rfl,hM,fun b o e=>J0 e,le_of_eq (EM _ _),trivial,fun b hb=>absurd (show b∈([]:List Addr) from hb) (by simp),cA,.of_eq hg⟩
  refine codeAny_mono ((F _ hKb (MK Qp) hTb hSb).run callerA [] s₁ H ⟨[.ref a],[]⟩ [.ref a] [.ref a] _ _ hr e0 (vW s₁ (.ref a)) (.cons rfl .nil) (E3 H h0 hS)) fun r s' h=>?_
  cases r with
  | error e=>exact (hCX H e s' h).elim
  | ok fl =>
   cases fl with
   | next=>exact False.elim h
   | brk=>exact False.elim h
   | cont=>exact False.elim h
   | ret u =>
    obtain ⟨v,H',os,bare,un,Td,r',q⟩:=h
    have q':v=.bl true:=q
    subst q'
    obtain rfl:u=Value.bool true:=r'
    have was:∀ b o,s₁.heap.get? b=some o->asItWas s₁.heap s'.heap b o/\∃ o',s'.heap.get? b=some o':=fun b o e=>by
     cases q:H b with
     | none =>
      have z:=un.keep b o e q (by intro z;exact absurd (show b∈([]:List Addr) from z) (by simp)) (by simp)
      exact⟨.inl z,_,z⟩
     | some u =>
      rcases hA b u q with ⟨rfl,_,xs,rfl⟩|⟨t,ht,rfl,rfl⟩
      ·have z2:=un.pN b _ _ q
       obtain ⟨e1,_⟩:=cA b _ q
       obtain ⟨e2,_⟩:=Td b _ z2
       rw [e] at e1;cases e1
       exact⟨.inl e2,_,e2⟩
      ·obtain ⟨more,z2⟩:=un.pO t.2 _ q
       have e2:s'.heap.get? t.2=some { cls:=.none,data:=.fields (#[]++more) }:=Td t.2 _ z2
       have e1:=(hT t ht).2
       rw [e] at e1
       cases e1
       exact⟨.inr (.inl ⟨((hT t ht).1.tab (hT t ht).2).isCodeTable,rfl,#[],more,rfl,e2⟩),_,e2⟩
    exact⟨rfl,⟨fun b o e=>(was b o e).1,fun b o e=>(was b o e).2⟩,os,bare⟩
 have ML:∀ (H:Hp) q,q∈tabs->eG Pr w H s₁.heap q.2 (.xi #[]):=fun H q hq=>(hT q hq).2
 cases hk:K.lookup a with
 | some o =>
  have e:=KX a o hk
  rw [ha] at e
  cases e
  refine core (fun b=>if (tabs.any fun q=>q.2 == b)=true then some (.xi #[]) else none) (fun b u z=>?_) (fun q hq=>if_pos (any_eq_true.mpr ⟨q,hq,by simp⟩)) (.inr ⟨_,vs.toArray,_,hk,rfl,rfl,rfl,by rw [agB,XN];exact hl,by simpa using rv⟩) (fun b u z=>?_)
  ·by_cases hb:(tabs.any fun q=>q.2 == b)=true
   ·have z':=(if_pos hb).symm.trans z
    cases z'
    obtain ⟨q,hq,e⟩:=any_eq_true.mp hb
    exact .inr ⟨q,hq,beq_iff_eq.mp e,rfl⟩
   ·have z':=(if_neg hb).symm.trans z
    cases z'
  ·by_cases hb:(tabs.any fun q=>q.2 == b)=true
   ·have z':=(if_pos hb).symm.trans z
    cases z'
    obtain ⟨q,hq,e⟩:=any_eq_true.mp hb
    rw [<- beq_iff_eq.mp e]
    exact ML _ q hq
   ·have z':=(if_neg hb).symm.trans z
    cases z'
 | none =>
  have aT:¬ (tabs.any fun q=>q.2 == a)=true:=fun z=>by
   obtain ⟨q,hq,e⟩:=any_eq_true.mp z
   exact naT q hq (beq_iff_eq.mp e)
  obtain ⟨H,hH⟩:∃ H:Hp,H=fun b=>if (tabs.any fun q=>q.2 == b)=true then some (.xi #[]) else if b=a then some (.yb { cls:=.type "list",data:=.seq vs.toArray } (.lst (ns.map V.int))) else none:=⟨_,rfl⟩
  have VH:H a=some (.yb { cls:=.type "list",data:=.seq vs.toArray } (.lst (ns.map V.int))):=by
   rw [hH]
   show (if _ then _ else _)=_
   rw [if_neg aT,if_pos rfl]
  have hHt:Io tabs H:=fun q hq=>by
   rw [hH]
   exact if_pos (any_eq_true.mpr ⟨q,hq,by simp⟩)
  have all:∀ b u,H b=some u->(b=a/\u=.yb { cls:=.type "list",data:=.seq vs.toArray } (.lst (ns.map V.int)))\/∃ q∈tabs,q.2=b/\u=.xi #[]:=fun b u z=>by
   rw [hH] at z
   have z:(if (tabs.any fun q=>q.2 == b)=true then some (HO.xi #[]) else if b=a then some (.yb { cls:=.type "list",data:=.seq vs.toArray } (.lst (ns.map V.int))) else none)=some u:=z
   by_cases hb:(tabs.any fun q=>q.2 == b)=true
   ·rw [if_pos hb] at z
    cases z
    obtain ⟨q,hq,e⟩:=any_eq_true.mp hb
    exact .inr ⟨q,hq,beq_iff_eq.mp e,rfl⟩
   ·rw [if_neg hb] at z
    by_cases h2:b=a
    ·rw [if_pos h2] at z
     cases z
     exact .inl ⟨h2,rfl⟩
    ·rw [if_neg h2] at z
     cases z
  refine core H (fun b u z=>(all b u z).imp (fun ⟨e,eu⟩=>⟨e,hk,_,eu⟩) id) hHt (.inl (.inr ⟨_,VH⟩)) fun b u z=>?_
  rcases all b u z with ⟨rfl,rfl⟩|⟨q,hq,rfl,rfl⟩
  ·exact⟨ha,by rw [agm];exact hl,vs,_,rv,ha⟩
  ·exact ML _ q hq
theorem Ir{l:OpenLaw}{k:Nat}{pq:Program}{loose:List Str}{XP:(Str->Option Value)->Heap->Prop}{YP:World->Heap->Prop}{d:DefRec}{K:Params->Frag}{x:Str}{c P:Addr}(y:Str)(lp:Pos)(q:Str)
  (hi:importsNone pq=true) (hn:l.most=some 63) (WT:d.params.defaults=[]) (hr:dF k callerA)
  (hY:∀ (w:World) (h:Heap),YP w h->(K w.params).In h/\h.get? P=some (tabObj #[])) (ht:∀ w:World,tabIn (K w.params) y=some (c,P)) (hh:∀ w:World,codeHdIn (K w.params) c P=true) (hk:∀ w:World,(K w.params).lookup P=none)
  (F:∀ (w:World) (mg:Str->Option Value) (fa:Addr) (h:Heap),(K w.params).In h->h.Ns mainGlobals mg->mg d.name=some (.ref fa)->tabIn (K w.params) y=some (c,P) ->
   ∃ fd:FuncData,(∀ (s:Shared) (u:Value),BindsTo s fd ⟨[u],[]⟩ [(x,u)]) /\
    ∀ base:Heap,(K w.params).In base->base.Ns mainGlobals mg->CodeHd base c P->base.BuiltinsAt mg P->base.NoSeer->oJ l.prog w (K w.params) mg base GB k fa fd [x] (CS y lp q (K w.params))) :
  PySem.W.WalkO pq loose XP YP l.row.toRowW d [] (fun f vs=>PySem.call f vs):=by
 refine Att.AH hn WT fun w s₀ s₁ mg mb fa o pm cd doc a vs ns G Y ho hd Ap Rv NJ hints hlen hg=>?_
 obtain ⟨KX,hP⟩:=hY w _ Y
 obtain ⟨fd,hb,hF⟩:=F w mg fa _ KX G.T.g Rv (ht w)
 refine FE (tabs:=[(c,P)]) (fun t h1=>?_) (fun t h1=>?_) G.T.bmain (G.T.seer hi) KX G.T.g G.T.b G.T.builtins G.T.nolimit hg NJ hints (af0 hlen (by decide)) hr (fun base b1 b2 b3 b4=>hF base b1 b2 (b3 (c,P) (.head _)).1 (b3 (c,P) (.head _)).2 b4) hb (fun H hO hS=>⟨a,ns,rfl,hS,hlen,?_,fun _=>rfl⟩) fun H e s' z=>z
 ·rw [agj.mp h1]
  exact⟨codeHd_of_K KX (hh w),hP⟩
 ·rw [agj.mp h1]
  exact hk w
 ·rw [Em (ht w)]
  exact⟨#[],hO (c,P) (.head _),trivial,.inl rfl⟩
theorem qv{X:Cx}{e:Env}{l:List Env}(Y:X.base.NoSeer/\X.prog.given.tree=none)(oF:X.stack=e::l)(h1:e.scope.isGenerator=false)(h2:e.scope.isCoroutine=false)(h3:e.builtins=builtinsNs)(h4:e.globals=mainGlobals)(hr:dF 32 X.A) :
  pM X (binaryOp .FloorDiv) (rI (fun _ j=>j≠0) fun i j=>.int (i.fdiv j)):=by
 intro pins s σ H x y v u Q I rx ry h
 obtain ⟨i,j,rfl,rfl,hc,q⟩:=h
 obtain ⟨t,rfl⟩:=rx
 obtain ⟨t',rfl⟩:=ry
 have hd:X.A.depth+Builtin.pylongFrames<recursionLimit:=by
  have:=hr.dp
  have e1:Builtin.pylongFrames=100:=rfl
  lia
 exact floordiv_int hc ⟨.int (i.fdiv j),H,I.tok _,⟨_,rfl⟩,q⟩ (.inr (PylongRoom.of I.nolimit hd (SeerAt.of (Y.1.keeps I.bk) Y.2 (by rw [I.ok.frames,oF]) h1 h2 h3 h4)))
open PySem PySem.Spec PyProof.Rows
def kl(i j:Int):Prop:=iM i+iM j<=134217728
theorem kl.ok{i j:Int}(h:kl i j):IntMulOk i j:=by
 unfold IntMulOk
 intro z
 simp only [Bool.and_eq_true,decide_eq_true_eq] at z
 have z2:=z.2
 unfold Builtin.Int.intTooBig at z2
 have h':Builtin.Int.intBits i+Builtin.Int.intBits j<=134217728:=h
 have b:(134217728:Int)<=bitsLine:=by decide
 simp only [decide_eq_true_eq] at z2
 lia
theorem Le{X:Cx}:pM X (binaryOp .Mult) (rI kl fun i j=>.int (i*j)):=Mh fun _ _ _ _ _ _ _ hc q=>mul_int q hc.ok
section
variable {K:Frag}{H:Hp}{σ:St}{Q:VK}{ix:List (Option Nat)}{l:Addr}{xs:List V}{rs:List (List Int)}
theorem sr{tt:TT}{te:TE}(fr:St)(f:List Int->Bool)(g:List Int->List Int)(kL:pick ix σ=none::fr)(hl:aW K H l xs)(hr:av K H xs rs)(hn:rs.length<=1000)
  (test:∀ (a:Addr) (r:List Int) (H':Hp) (Qt:Bool->Hp->Prop),r∈rs->aj H H'->aZ K H' a (r.map V.int)->(∀ H5,aj H' H5->Qt (f r) H5)->tt (some (.ref a)::fr) H' Qt)
  (elt:∀ (a:Addr) (r:List Int) (H':Hp) (Qc:VK),r∈rs->f r=true->aj H H'->aZ K H' a (r.map V.int)->(∀ p H5,aj H' H5->aZ K H5 p ((g r).map V.int)->Qc (.ref p) H5)->te (some (.ref a)::fr) H' Qc)
  (hQ:∀ l2 H' ys,H l2=none->aj H H'->H' l2=some (.lst ys)->av K H' ys ((rs.filter f).map g)->Q (.ref l2) H'):bR ix (cO 0) tt te σ Q (JK K l) H:=by
 have hlen:=hr.length
 refine si (K:=K) 1 fr rs.length (fun i=>((rs.take i).filter f).map g) kL rfl (fun i=>by rw [agm];exact af0 (age _ _) (af0 (List.length_take_le' _ _) hn)) (fun H' s=>⟨xs,s.seq hl,by lia⟩) (fun i H' hi s=>⟨xs,xs[i]'(by lia),s.seq hl,agg (by lia)⟩) (fun i x H' H2 own ho hi s hy Qy Qn ky kn=>?_) (fun l2 H' ys a b c d=>hQ l2 H' ys a b c (by rw [agz] at d;exact d))
 obtain ⟨o1,rfl⟩:∃ o1,own=[o1]:=by match own,ho with|[o1],_=>exact⟨o1,rfl⟩
 obtain ⟨rfl,e⟩:=hy
 obtain ⟨a,r,rfl,ha,Cc⟩:=hr.get (e xs (s.seq hl))
 have uA:r∈rs:=agl Cc
 have et:=uc (f:=f) Cc
 dsimp only [cO]
 refine test a r _ _ uA s (s.at ha) fun H5 s5=>?_
 cases ef:f r with
 | true =>
  rw [ef] at et
  rw [if_pos rfl]
  exact elt a r H5 _ uA ef (s.trans s5) ((s.trans s5).at ha) fun p H6 s6 hp=>ky [some (.ref a)] p (g r) H6 rfl (s5.trans s6) hp (by rw [et];simp)
 | false =>
  rw [ef] at et
  rw [if_neg (by decide)]
  exact kn [some (.ref a)] H5 rfl s5 (by rw [et];simp)
end
theorem bx.eU{K:Frag}{H H':Hp}{P:Addr}{lp:Pos}{q:Str}(s:bc P H H')(t:fI P lp q H):∀ {xs:List V} {ks:List (List Int×Int)},bx K H xs ks->bx K H' xs ks
 | _,_,.nil=>.nil
 | _,_,.cons h hw u=>.cons (s.at t h) (s.at t hw) (bx.eU s t u)
theorem av.setAt{K:Frag}{H:Hp}{a:Addr}{r:List Int}:∀ {xs:List V} {rs:List (List Int)} (i:Nat),av K H xs rs->aZ K H a (r.map V.int)->av K H (xs.set i (.ref a)) (rs.set i r)
 | _,_,_,.nil,_=>.nil
 | _,_,0,.cons _ t,h=>.cons h t
 | _,_,i+1,.cons q t,h=>.cons q (av.setAt i t h)
theorem bx.setAt{K:Frag}{H:Hp}{a w:Addr}{r:List Int}{m:Int}:∀ {xs:List V} {ks:List (List Int×Int)} (i:Nat),bx K H xs ks->aZ K H a [.ref w,.int m]->aZ K H w (r.map V.int)->bx K H (xs.set i (.ref a)) (ks.set i (r,m))
 | _,_,_,.nil,_,_=>.nil
 | _,_,0,.cons _ _ t,h,hw=>.cons h hw t
 | _,_,i+1,.cons q qw t,h,hw=>.cons q qw (bx.setAt i t h hw)
theorem bx.drop{K:Frag}{H:Hp}:∀ {xs:List V} {ks:List (List Int×Int)} (n:Nat),bx K H xs ks->bx K H (xs.drop n) (ks.drop n)
 | _,_,0,h=>h
 | _,_,_+1,.nil=>.nil
 | _,_,n+1,.cons _ _ t=>bx.drop n t
theorem noraise{X:Cx}:∀ e s',XW X (fun _ _ _=>False) e s'->X.xe e s':=fun _ _ h=>by
 obtain ⟨_,_,_,_,_,_,_,z⟩:=h
 exact z.elim
section
variable {X:Cx}{a:Addr}{rJ:List (Key×V)}
def Sa(c:Nat)(n:Nat):Str:=⟨Array.replicate n c⟩
end
abbrev ib(X:Cx)(pins:List (Addr×Obj))(N:List Str)(scope:Scope)(C:Addr)(s:Shared)(H:Hp)(fp:List Addr):Cx :=
 { X with N:=N,s₀:=s,H₀:=H,env:=compEnvC scope (cellsFrom (C+1) scope.names []) C X.env,outer:=X.stack,stack:=X.stack,ex:=fp,fn:=fun _=>true,pn:=X.pn++pins,xe:=fun _ _=>False }
theorem relabel_id{env:Env}:∀ {names:List (Str×NameKind)},(∀ y∈names,y.2≠.free) ->
  (names.map fun (n,k)=>if (k == NameKind.free && env.scope.kind == .function && env.kindOf n == some .cell) then (n,NameKind.cell) else (n,k))=names
 | [],_=>rfl
 | (n,k)::r,h=>by
  have hk:k≠.free:=h (n,k) mem_cons_self
  have e:(k == NameKind.free)=false:=by simpa using hk
  rw [map_cons,relabel_id fun y hy=>h y (agp _ hy)]
  simp [e]
theorem ud{cells:List (Str×Addr)}:∀ {names:List (Str×NameKind)} {acc:List (Str×Addr)},(∀ y∈names,y.2≠.free)->fq cells names acc=acc
 | [],_,_=>rfl
 | (n,k)::r,acc,h=>by
  have hk:k≠.free:=h (n,k) mem_cons_self
  have e:(k == NameKind.free)=false:=by simpa using hk
  unfold fq
  rw [e]
  exact ud fun y hy=>h y (agp _ hy)
theorem fB:∀ {names:List (Str×NameKind)} {acc:List (Str×Addr)} {n:Nat} {x:Str},(names.lookup x=some .cell\/∃ c,acc.lookup x=some c)->∃ c,(cellsFrom n names acc).lookup x=some c
 | [],_,_,_,h=>by
  rcases h with h|h
  ·simp at h
  ·exact h
 | (m,k)::r,acc,n,x,h=>by
  unfold cellsFrom
  cases hx:x == m with
  | true =>
   by_cases hk:k=.cell
   ·subst hk
    simp only [beq_self_eq_true,if_true]
    exact fB (.inr ⟨n,by rw [lookup_cons,hx]⟩)
   ·have uw:(k == NameKind.cell)=false:=by simpa using hk
    rw [uw]
    simp only [Bool.false_eq_true,if_false]
    refine fB (.inr ?_)
    rcases h with h|h
    ·rw [lookup_cons,hx] at h
     exact absurd (af5 h) hk
    ·exact h
  | false =>
   split
   ·refine fB ?_
    rcases h with h|⟨c,h⟩
    ·rw [lookup_cons,hx] at h;exact .inl h
    ·exact .inr ⟨c,by rw [lookup_cons,hx];exact h⟩
   ·refine fB ?_
    rcases h with h|h
    ·rw [lookup_cons,hx] at h;exact .inl h
    ·exact .inr h
theorem Lf{M:Model}{A:Around}{E:Value->Shared->Prop}{s:Shared}{scope:Scope}{globals:Addr}{qual:Str}{outer:Env}{Q:Env->Shared->Prop}
  (hQ:Q { scope:=scope,locals:=s.heap.objs.size,globals:=globals,cells:=cellsFrom (s.heap.objs.size+1) scope.names [],qual:=qual,func:=none,code:=outer.code,frame:=outer.frame,builtins:=outer.builtins }
   { s with heap:=pushCells (s.heap.push { cls:=.type "dict",data:=.dict #[] }) scope.names }) :
  wpAny M A (newFunctionEnv scope globals [] [] qual none .none (some outer)) Q E s:=by
 simp only [newFunctionEnv,Option.isSome_some,if_true]
 refine afW (wpAny_alloc ?_)
 refine afW (wpAny_layCells _ (fun name kind cells=>by cases hkc:kind == NameKind.cell <;> simp [hkc]) _ _ _ _ ?_)
 rw [show ({ s with heap:=s.heap.push { cls:=.type "dict",data:=.dict #[] } }:Shared).heap.objs.size=s.heap.objs.size+1 from Heap.size_push ..]
 rw [forIn_nil]
 exact afW (agc (agc hQ))
section
variable {X:Cx}
theorem Bc{y : Str}{py HW : Pos}{k : Nat}{tg iter elt : Expr}{ifs : List Expr}{scope : Scope}{pos : Pos}{N : List Str}{ix : List (Option Nat)}{wi : TI}{g : TG}{tt : TT}{te : TE}
    (hN : X.N.Nodup) (Xn : X.N[k]?=some y) (hy : Loc X.env.scope y) (hc : X.calm=true) (hi : PI X tg iter wi)
    (hg : ∀ pins C s H fp, PG (ib X pins N scope C s H fp) tg g)
    (ht : ∀ pins C s H fp, Vx (ib X pins N scope C s H fp) ifs tt)
    (he : ∀ pins C s H fp, PE (ib X pins N scope C s H fp) elt te)
    (hk : scope.kind=.function) (vi : ∀ y ∈ scope.names, y.2 ≠ .free) (vx : ∀ y ∈ scope.names, y.2=.local -> scope.names.lookup y.1=some .local)
    (AJ : ix=N.map fun _ => none)
    (hs : ∀ x, foldedSetIterable iter X.env x=pure x := by intro _;rfl)
    (Xo : swapsWith (.ListComp elt [⟨tg, iter, ifs, 0⟩] scope pos) (some (.Name y py)) HW.line X.env=pure true := by rfl)
    (hf : X.fn y=true \/ X.env.scope.names.lookup y=some .local := by first|exact .inl rfl|exact .inr rfl|assumption) :
    PS X (.Assign [.Name y py] (.ListComp elt [⟨tg, iter, ifs, 0⟩] scope pos) HW) (GW (DZ ix wi g tt te) (cO k)) := by
  intro pins s σ H D I h
  replace h : wi σ H fun J H1 => bR ix g tt te σ (fun x H1 => D.nx (σ.set k (some x)) H1) J H1 := h
  have Cz : ∀ p ∈ scope.names, p.2=.free -> ∃ c, X.env.cells.lookup p.1=some c := fun p hp e => absurd e (vi p hp)
  have XQ : closureFor scope X.env=pure [] := by rw [kJ Cz, ud vi]
  rw [exec_Assign_Name_used _ _ _ _ Xo]
  refine afW (wpAny_standAt (afW ?_))
  show wpAny _ X.A (do let _ <- comprehension (.ListComp elt [⟨tg, iter, ifs, 0⟩] scope pos) scope X.env _ (newList []) false (eval iter X.env) (some (assign (.Name y py) X.env))) _ _ s
  refine afW (agd (wpAny_comprehension_free (use := some (assign (.Name y py) X.env)) (Q := fun _ s' => SP X pins D .next s') rfl hs XQ hk vx (di (hi pins s σ H _ I h) fun v s1 h1 => di h1 fun Q7 s2 h2 => ?_)) (fun _ s' hq => agc (agc hq)) fun _ _ e => e)
  obtain ⟨it, fp, tn, J, H2, e, I2, T, JL, f2, hW⟩ := h2
  subst e
  have vy : H2 s2.heap.objs.size=none := I2.cA.fresh (af1 _)
  obtain ⟨W, ⟨m0, w0⟩, turn⟩ := hW s2.heap.objs.size vy
  refine wpAny_newObj_type ?_
  have I3 : Inv X pins σ (upd H2 s2.heap.objs.size (.lst [])) { s2 with heap := s2.heap.push { cls := .type "list", data := .seq ([] : List Value).toArray } } := I2.Kl (its := []) (t' := s2.toks) .nil (agM _)
  have f3 : ∀ b ∈ fp, oG X pins (upd H2 s2.heap.objs.size (.lst [])) b := fun b hb => by
    refine⟨?_, (f2 b hb).2⟩
    obtain ⟨o, eo, _⟩ := T.obj _ _ JL b hb
    rw [aG (agN (afY eo))]
    exact (f2 b hb).1
  have yf : tn 0 (s2.heap.push { cls := .type "list", data := .seq ([] : List Value).toArray }) := T.keep _ _ _ JL fun b _ o e => afV _ e
  generalize AK : ({ s2 with heap := s2.heap.push { cls := .type "list", data := .seq ([] : List Value).toArray } } : Shared)=s3 at I3
  have yf : tn 0 s3.heap := by rw [<- AK];exact yf
  generalize hH3 : upd H2 s2.heap.objs.size (.lst [])=H3 at I3 f3 w0
  generalize Rw : s2.heap.objs.size=acc at *
  refine Lf ?_
  generalize VP : pushCells (s3.heap.push { cls := .type "dict", data := .dict #[] }) scope.names=h₁
  have old : ∀ b o, s3.heap.get? b=some o -> h₁.get? b=some o := fun b o q => by rw [<- VP];exact pushCells_keeps _ _ b o (afV _ q)
  have Hk : h₁.Ns s3.heap.objs.size (fun _ => none) := by rw [<- VP];exact (Heap.Ns.new s3.heap (.type "dict")).keeps (pushCells_keeps _ _)
  have XR : CellsOk h₁ (s3.heap.objs.size+1) (cellsFrom (s3.heap.objs.size+1) scope.names []) := by
    have ok := cellsFrom_ok scope.names (s3.heap.push { cls := .type "dict", data := .dict #[] }) (s3.heap.objs.size+1) [] ⟨fun _ _ hm => (nomatch hm), List.Pairwise.nil⟩ (by rw [Heap.size_push];exact af1 _)
    rw [Heap.size_push, VP] at ok
    exact ok
  have Lg : ∀ x c, (cellsFrom (s3.heap.objs.size+1) scope.names []).lookup x=some c -> s3.heap.objs.size<c := fun x c q => (XR.empty x c (PySem.mem_of_lookup q)).2
  have vz : H3 s3.heap.objs.size=none := I3.cA.fresh (af1 _)
  have JP : ∀ b ∈ fp, b<s3.heap.objs.size := fun b hb => by
    obtain ⟨o, eo, _⟩ := T.obj _ _ yf b hb
    exact afY eo
  have vA : ∀ b, b ≠ X.env.locals -> b ∉ X.fs -> b ∉ yc X.stack := fun b h1 h2 z => by
    rcases agq.mp (I3.rN b z) with q|q
    · exact h1 q
    · exact h2 q
  have Vy : ∀ x c, X.env.cells.lookup x=some c -> c<s3.heap.objs.size := fun x c q => by
    obtain ⟨v, z⟩ := I3.cell x c q
    exact z.lt
  have YI : Inv (ib X pins N scope s3.heap.objs.size s3 H3 fp) [] (pick ix σ) H3 { s3 with heap := h₁ } := by
    refine⟨⟨I3.ok.mod, hk, I3.ok.glob, I3.ok.blt, af1 _, fun x y c q1 q2 => name_of_addr XR.apart (PySem.mem_of_lookup q1) (PySem.mem_of_lookup q2), fun x hx => ?_, fun x c _ q => af2 (Lg x c q),
      I3.ok.hd, I3.ok.frames, .inl rfl, fun b hb => ⟨agN (JP b hb), fun x c q => Nat.ne_of_gt (lt_trans (JP b hb) (Lg x c q))⟩, I3.bs, af0 I3.ok.DM I3.sz, fun b o e hb => ?_, fun b hb => vA b (f3 b hb).2.1 (f3 b hb).2.2.1, I3.stack, I3.nI⟩,
      rfl, I3.bare, Un.kept old, ⟨_, Hk, fun i x v h1 h2 h3 => ?_⟩, fun x c q => ⟨_, (XR.empty x c (PySem.mem_of_lookup q)).1⟩, vz, fun x c q => I3.cA.fresh (af2 (Lg x c q)), fun p hp => ?_, I3.cA.kept old, ?_⟩
    · have e : (relabel scope X.env).names=scope.names := relabel_id vi
      have RT : scope.names.lookup x=some .cell \/ scope.names.lookup x=some .free := by rw [<- e];exact hx
      rcases RT with z|z
      · exact fB (.inl z)
      · exact absurd rfl (vi (x, .free) (PySem.mem_of_lookup z))
    · have q := (I3.bs b o e).2
      rcases (f3 b hb).2.2.2.1 with z|z
      · exact I3.ok.Ci b o e z
      · exact absurd (Nat.lt_of_lt_of_le (afY e) (af0 I3.ok.DM z)) (Nat.lt_irrefl _)
    · obtain ⟨j, e1, e2⟩ := pU h2
      rw [AJ, agC] at e1
      cases q : N[i]? with
      | none => rw [q] at e1;cases e1
      | some z => rw [q] at e1;cases e1
    · have Rz : p ∈ X.pn++pins := by simpa using hp
      obtain ⟨a1, a2, a3, a4, a5⟩ := I3.pin p Rz
      exact⟨old _ _ a1, a2, agN (afY a1), vA p.1 a3 a4, a5⟩
    · show (pick ix σ).length=N.length
      unfold pick
      rw [agm, AJ, agm]
  have Hl : ∀ {pl : List (Addr × Obj)} {H' : Hp}, pl=[] -> (∀ b ∈ fp, H' b=none) -> ∀ b ∈ fp, oG (ib X pins N scope s3.heap.objs.size s3 H3 fp) pl H' b := fun {pl H'} RA hn b hb => by
    obtain ⟨f0, f1, Mn, Mo, f4, f5⟩ := f3 b hb
    subst RA
    exact⟨hn b hb, agN (JP b hb), vA b f1 Mn, .inl hb, fun x c q => Nat.ne_of_gt (lt_trans (JP b hb) (Lg x c q)), fun p hp => f5 p (by simpa using hp)⟩
  have loop : codeAny (model X.prog X.w) X.A (.compLoop (.ListComp elt [⟨tg, iter, ifs, 0⟩] scope pos) 0 (.ref it) (.ref acc) (compEnvC scope (cellsFrom (s3.heap.objs.size+1) scope.names []) s3.heap.objs.size X.env))
        (compPost (model X.prog X.w) X.A X.xe (some (assign (.Name y py) X.env)) (fun _ s' => SP X pins D .next s') (.ref acc) s3.heap.objs.size) { s3 with heap := h₁ } := by
    refine rX (E := fun _ _ => False) (fun _ _ z => z.elim)
      (fun n s' => ∃ i σ' ys H', Inv (ib X pins N scope s3.heap.objs.size s3 H3 fp) [] σ' H' s' /\ tn i s'.heap /\ (∀ b ∈ fp, H' b=none) /\ W i n σ' ys H') ?_ m0
      ⟨0, pick ix σ, [], H3, YI, T.keep _ _ _ yf fun b _ o q => old b o q, fun b hb => (f3 b hb).1, w0⟩
    rintro n s5 ⟨i, σ5, ys, H5, I5, Gy, JM, w5⟩
    obtain ⟨hl5, AL⟩ := turn i n σ5 ys H5 w5
    rcases AL with ⟨stop, q⟩|⟨go, m', Aq, step⟩
    · refine di (T.done (ib X pins N scope s3.heap.objs.size s3 H3 fp) rfl rfl rfl hc i [] s5 σ5 H5 (fun _ _ => False) I5 (Hl rfl JM) Gy stop) fun r s6 ⟨hr, I6⟩ => ?_
      subst hr
      obtain ⟨m6, Qk, _⟩ := I6.loc
      have Xp : Inv X pins σ H5 s6 := I3.DN (ch := fp) I6.os I6.base I6.cA I6.bare fun b hb => by
        obtain ⟨f0, f1, Mn, Mo, f4, f5⟩ := f3 b hb
        exact⟨Mo, f1, f4, f5⟩
      have EN : X.env.locals ≠ s3.heap.objs.size := fun z => by
        obtain ⟨m, ⟨o, _, _, ho, _⟩, _⟩ := I3.loc
        exact Nat.lt_irrefl _ (z ▸ afY ho)
      have HX : ∀ x c, X.env.cells.lookup x=some c -> c ≠ s3.heap.objs.size := fun x c e => agN (Vy x c e)
      refine wpAny_assign_Name (rO (u := .ref acc) (v := .ref acc) Xp hN Xn hy rfl (fun s7 I7 ⟨a7, Xq, Xr⟩ => ?_) hf)
      have VJ : s3.heap.objs.size ≠ a7 := by
        rcases Xr with z|z
        · exact fun w => EN (z ▸ w.symm)
        · exact fun w => HX _ _ z w.symm
      refine⟨m6, Qk.sameBut Xq VJ, fun h' sb => ?_⟩
      refine⟨σ.set k (some (.ref acc)), H5, Inv.Ed (ch := [s3.heap.objs.size]) I7 (fun b hb => ?_) (fun b o _ _ nb e _ => (sb.2 b (fun z => nb (by rw [z];exact agj.mpr rfl))).trans e) (fun b o _ _ nb e _ => ⟨o.slots, (sb.2 b (fun z => nb (by rw [z];exact agj.mpr rfl))).trans e⟩)
        (fun _ _ _ _ e => e) (fun b o nb e => ⟨o, (sb.2 b (fun z => nb (by rw [z];exact agj.mpr rfl))).trans e⟩) (fun _ _ e => e) (fun _ _ _ e => e) (fun b ps e => ⟨#[], by simpa using e⟩) (fun m hm => hm.sameBut sb EN) (I7.cA.letGo I6.free sb), q⟩
      have eb : b=s3.heap.objs.size := agj.mp hb
      subst eb
      refine⟨?_, Ne.symm EN, HX, fun p hp => agN (afY (I3.pin p hp).1)⟩
      cases q9 : X.s₀.heap.get? s3.heap.objs.size with
      | none => rfl
      | some o => exact absurd (Nat.lt_of_lt_of_le (afY q9) I3.sz) (Nat.lt_irrefl _)
    · refine di (T.item (ib X pins N scope s3.heap.objs.size s3 H3 fp) rfl rfl rfl hc i [] s5 σ5 H5 (fun _ _ => False) I5 (Hl rfl JM) Gy go) fun r s6 ⟨u, hr, h6⟩ => ?_
      subst hr
      refine di h6 fun _ s7 ⟨x, H7, I7, r7, y7, Hm, RB⟩ => ?_
      have RC := I7.pinned (Hl rfl RB) (T.obj _ _ Hm)
      refine di (hg pins s3.heap.objs.size s3 H3 fp _ s7 σ5 H7 x u _ RC r7 (step x H7 y7)) fun _ s8 ⟨σ8, H8, I8, q8⟩ => ?_
      refine di (vw (ht pins s3.heap.objs.size s3 H3 fp) I8 q8) fun b s9 ⟨H9, I9, q9⟩ => ?_
      have back : ∀ {σz : St} {Hz : Hp} {sz : Shared} {yz : List V}, Inv (ib X pins N scope s3.heap.objs.size s3 H3 fp) ([]++oH fp s7.heap) σz Hz sz -> W (i+1) m' σz yz Hz ->
          ∃ m, m<n /\ ∃ i σ' ys H', Inv (ib X pins N scope s3.heap.objs.size s3 H3 fp) [] σ' H' sz /\ tn i sz.heap /\ (∀ b ∈ fp, H' b=none) /\ W i m σ' ys H' := fun {σz Hz sz yz} Iz wz => by
        refine⟨m', Aq, i+1, σz, yz, Hz, Iz.fZ, T.keep _ _ _ Hm fun b hb o e => (Iz.pin (b, o) (agh _ (agh _ (eS hb e)))).1, fun b hb => ?_, wz⟩
        obtain ⟨o, e, d⟩ := T.obj _ _ Hm b hb
        exact (Iz.pin (b, o) (agh _ (agh _ (eS hb e)))).2.1
      cases b with
      | false => exact back I9 q9
      | true =>
        refine di (he pins s3.heap.objs.size s3 H3 fp _ s9 σ8 H9 _ I9 q9) fun v Cb ⟨y, CA, RD, RE, Ho, Hq, RF⟩ => ?_
        refine di (cB _ Cb σ8 CA (.ref acc) [y] (.ref acc) [v] (fun _ H' => H'=upd CA acc (.lst (ys++[y]))) RD rfl (.cons RE .nil) ⟨acc, ys, y, rfl, rfl, Ho, Hq, rfl⟩) fun _ E7 ⟨_, RG, RH, _, RI⟩ => ?_
        subst RI
        exact back RH RF
  exact codeAny_compStart_list loop (T.self _ 0 _ _ _ (T.keep _ _ _ yf fun b _ o q => old b o q) loop)
end
theorem bc.cw{P:Addr}{H H2:Hp}{l:Addr}{o:HO}(s:bc P H H2)(h:H l=none):bc P H (upd H2 l o):=fun b u n e=>by
 rw [aG (fun z=>by rw [z,h] at e;cases e)]
 exact s b u n e
theorem fW.eU{P:Addr}{lp:Pos}{q:Str}{H H':Hp}(s:bc P H H')(t:fI P lp q H):∀ {xs:List V} {rs:List (List Int)},fW H xs rs->fW H' xs rs
 | _,_,.nil=>.nil
 | _,_,.cons h u=>.cons (s.lst t h) (u.eU s t)
end L2
namespace Srt
open PySem PySem.W PyProof.Rows
section
variable {n:Nat}{key:Nat->Int}
def ky(key:Nat->Int)(p:Array Nat)(i:Nat):Int:=key (p.getD i 0)
end
end Srt
namespace L2
open PySem PySem.Spec PySem.W PyProof.Rows
def lk(r:List Int):Int:=r.foldl (fun k a=>k*4000001+a) 0
end L2
namespace L2
open PySem PySem.Spec PyProof.Rows PySem.W
def u9(K:Frag):V->List V->Hp->VK->Prop:=fun x vs H Q=>∃ (p:Addr) (ys:List V) (y:V) (d:PyData) (ds:List PyData) (j:Nat),x=.ref p/\vs=[y]/\aW K H p ys/\Tells K H ys ds/\fH K H y d/\PyData.canLayAll0 ds=true/\d.canLay0=true/\d.depth<=60/\j<=1000/\(∃ z,ds[j]?=some z/\PyData.eqv z d=true)/\(∀ (m:Nat) (z:PyData),m<j->ds[m]?=some z->PyData.eqv z d=false)/\Q (.int (j:Int)) H
theorem FF {X:Cx} (hu:X.A.units+64<cLine):Vt X "list.index" (u9 X.K):=by
 intro pins s σ H x vs v us Q I rx rs h
 obtain ⟨p,ys,y,d,ds,j,rfl,rfl,hs,ht,hd,c1,c2,hz,hj,⟨z0,hz0,JQ⟩,Nw,q⟩:=h
 obtain ⟨u,rfl,ru⟩:=vals1 rs
 obtain ⟨as,ra⟩:=(fH.lst hs ht).reads I rx
 obtain ⟨bs,rb⟩:=hd.reads I ru
 cases ra with
 | @list a o its n _ as h1 h2 h3 h4 =>
  obtain ⟨cls,dd,data,sl⟩:=o
  simp only at h2 h3
  subst h2 h3
  have hm:=SeqAt.readsAll_map ds _ _ c1 h4
  have GG:∀ (m:Nat) (Aq:m<its.size),ds[m]?=some (SeqAt.readOf s.heap its[m]):=fun m Aq=>by
   rw [<- hm,agC,Array.getElem?_toList,Array.getElem?_eq_getElem Aq]
   rfl
  have hjs:j<its.size:=by
   have e:(its.toList.map (SeqAt.readOf s.heap)).length=ds.length:=by rw [hm]
   rw [agm,Array.length_toList] at e
   have:=(afX.mp hz0).1
   lia
  refine call_meets F.slot_list_index ⟨_,h1,rfl⟩ F.entry_list_index (F.args_list_index_2 _ _) (SeqAt.list_indexAt _ its n dd sl u (fun w=>PyData.eqv (SeqAt.readOf s.heap w) d) j hjs (by lia) ?_ (fun m Aq hmj=>?_)) ⟨h1,SeqAt.items_eqAt h4 rb c1 c2 (by have:=Nat.min_le_right (PyData.depthAll ds) d.depth;lia),⟨.int _,H,I.tok _,⟨_,rfl⟩,q⟩⟩
  ·have:=GG j hjs
   rw [hz0] at this
   cases this
   exact JQ
  ·exact Nw m _ hmj (GG m Aq)
theorem CU {X:Cx} (K:Frag) (hK:X.K=K) (hu:X.A.units+64<cLine):Vt X "list.index" (u9 K):=hK ▸ FF hu
theorem Iu{K:Frag}{H:Hp}{Q:VK}{p:Addr}{ys:List V}{y:V}{d:PyData}{ds:List PyData}(j:Nat)(hs:aW K H p ys)(ht:Tells K H ys ds)(hd:fH K H y d)(c1:PyData.canLayAll0 ds=true)(c2:d.canLay0=true)(hz:d.depth<=60)(hj:j<=1000)(h1:∃ z,ds[j]?=some z/\PyData.eqv z d=true)(h2:∀ (m:Nat) (z:PyData),m<j->ds[m]?=some z->PyData.eqv z d=false)(h:Q (.int (j:Int)) H):u9 K (.ref p) [y] H Q:=⟨p,ys,y,d,ds,j,rfl,rfl,hs,ht,hd,c1,c2,hz,hj,h1,h2,h⟩
namespace Mat
def up(ts:List Nat)(a:Int)(u:Nat->Int):Nat->Int:=fun x=>if x∈ts then u x+a else u x
section
variable {n:Nat}{W:Nat->Nat->Int}{u v:Nat->Int}{g c:Nat->Option Nat}{first:Nat}{ts:List Nat}{os:List (Nat×Nat)}
def st(f:Nat->Option Nat)(i:Nat)(x:Option Nat):Nat->Option Nat:=fun k=>if k=i then x else f k
end
end Mat
end L2
namespace L2
open PySem PySem.Spec PyProof.Rows
def Iv(K:Frag):List V->Hp->VK->Prop:=fun xs H Q=>∃ (a:Addr) (ns:List Int),xs=[.ref a]/\aW K H a (ns.map V.int)/\ns≠[]/\∀ m,m∈ns->(∀ x∈ns,m<=x)->Q (.int m) H
section
variable {X:Cx}
theorem FG (hc:X.calm=true):dU X (.builtin "min") (Iv X.K):=by
 intro pins s σ H xs us Q I r h
 obtain ⟨a,ns,rfl,hs,xt,q⟩:=h
 obtain ⟨u,rfl,ru⟩:=vals1 r
 cases ru
 obtain ⟨its,rv,p,_⟩:=I.list hs
 have hl:s.heap.IsList a its.toArray:=by
  obtain ⟨o,n,g1,g2,g3⟩:=p
  exact⟨o,g1,g2,n,g3.2⟩
 have hh:X.A.handled=none:=I.ok.hd hc
 have hi:IntsAre its ns:=intsAre_of rv
 obtain ⟨zs,hx⟩:=hi.allInts.items
 have hn:numsOf its.toArray.toList=ns:=by rw [show its.toArray.toList=its from rfl,hi.numsOf]
 rw [hx] at hl hn
 rw [nums_intItems] at hn
 have xj:0<zs.size:=by
  rcases Nat.eq_zero_or_pos zs.size with z|z
  ·exfalso;apply xt;rw [<- hn];apply List.eq_nil_of_length_eq_zero;rw [agm,Array.length_toList,z]
  ·exact z
 refine min_intList hh hl xj fun v h' tk hv hk=>?_
 obtain ⟨t,rfl⟩:=intItems_at hv
 obtain ⟨h1,h2⟩:=argBest_lt (numAt zs) (zs.size - 1)
 refine⟨.int _,H,I.kept (t':=tk) hk,⟨t,rfl⟩,q _ ?_ fun b hb=>?_⟩
 ·rw [<- hn,numAt_eq];exact getD_mem (by rw [agm,Array.length_toList];lia)
 ·rw [<- hn] at hb
  obtain ⟨j,hj,rfl⟩:=mem_getD hb
  rw [agm,Array.length_toList] at hj
  rw [<- numAt_eq];exact h2 j (by lia)
theorem Lh (K:Frag) (hK:X.K=K) (hc:X.calm=true):dU X (.builtin "min") (Iv K):=hK ▸ FG hc
end
theorem Li{K:Frag}{H:Hp}{Q:VK}{a:Addr}{ns:List Int}(e:aW K H a (ns.map V.int))(n:ns≠[])(h:∀ m,m∈ns->(∀ x∈ns,m<=x)->Q (.int m) H):Iv K [.ref a] H Q:=⟨a,ns,rfl,e,n,h⟩
theorem Iw{K:Frag}{H:Hp}{Q:VK}{p:Addr}{ns:List Int}{m:Int}(j:Nat)(hs:aW K H p (ns.map V.int))(hj:j<=1000)(h1:ns[j]?=some m)(h2:∀ i,i<j->ns[i]?≠some m)(h:Q (.int (j:Int)) H):u9 K (.ref p) [.int m] H Q:=by
 refine Iu j hs (Tells.ints ns) (.int m) ?_ rfl (agM _) hj ⟨.int m,by rw [agC,h1];rfl,?_⟩ (fun i z hi hz=>?_) h
 ·exact lay_ints ns
 ·show (m == m)=true
  exact beq_self_eq_true m
 ·rw [agC] at hz
  obtain ⟨x,hx,rfl⟩:=Option.map_eq_some_iff.mp hz
  show (x == m)=false
  rw [beq_eq_false_iff_ne]
  rintro rfl
  exact h2 i hi hx
inductive yL(K:Frag)(H:Hp):List V->List (Nat×List Int)->Prop where
 | nil:yL K H [] []
 | cons {q a:Addr} {p:Nat} {r:List Int} {xs:List V} {ps:List (Nat×List Int)} (h:aZ K H q [.int (p:Int),.ref a]) (hr:aZ K H a (r.map V.int)) (t:yL K H xs ps):yL K H (.ref q::xs) ((p,r)::ps)
namespace yL
variable {K:Frag}{H H':Hp}
theorem length:∀ {xs:List V} {ps:List (Nat×List Int)},yL K H xs ps->ps.length=xs.length
 | _,_,.nil=>rfl
 | _,_,.cons _ _ t=>by rw [length_cons,length_cons,length t]
theorem get:∀ {xs:List V} {ps:List (Nat×List Int)} {i:Nat} {x:V},yL K H xs ps->xs[i]?=some x->∃ (q a:Addr) (p:Nat×List Int),x=.ref q/\aZ K H q [.int (p.1:Int),.ref a]/\aZ K H a (p.2.map V.int)/\ps[i]?=some p
 | _,_,i,x,.nil,h=>by simp at h
 | _,_,0,x,.cons h hr _,e=>by cases e;exact⟨_,_,(_,_),rfl,h,hr,rfl⟩
 | _,_,i+1,x,.cons _ _ t,e=>by
  obtain ⟨q,a,p,h1,h2,h3,h4⟩:=get (i:=i) t (by simpa using e)
  exact⟨q,a,p,h1,h2,h3,by simpa using h4⟩
theorem same:∀ {xs:List V} {ps:List (Nat×List Int)},yL K H xs ps->aj H H'->yL K H' xs ps
 | _,_,.nil,_=>.nil
 | _,_,.cons h hr t,s=>.cons (s.at h) (s.at hr) (same t s)
theorem snoc{xs:List V}{ps:List (Nat×List Int)}{q a:Addr}{p:Nat}{r:List Int}(t:yL K H xs ps)(h:aZ K H q [.int (p:Int),.ref a])(hr:aZ K H a (r.map V.int)):yL K H (xs++[.ref q]) (ps++[(p,r)]):=by
 induction t with
 | nil=>exact .cons h hr .nil
 | cons h' ua _ ih=>exact .cons h' ua ih
theorem off{l:Addr}{ys zs:List V}:∀ {xs:List V} {ps:List (Nat×List Int)},yL K H xs ps->H l=some (.lst ys)->yL K (upd H l (.lst zs)) xs ps
 | _,_,.nil,_=>.nil
 | _,_,.cons h hr t,e=>.cons (cN h e) (cN hr e) (off t e)
end yL
end L2
namespace L2
open PySem PySem.Spec PyProof.Rows
theorem OI{K:Frag}{D:Ends}{σ:St}{H:Hp}{g:TG}{a:Addr}{xs:List V}{tb:TS}(Pv:Nat->St->Hp->Prop)(h0:Pv 0 σ H)(ha:∀ i σ H2,Pv i σ H2->aZ K H2 a xs)(hs:∀ i x σ H2,xs[i]?=some x->Pv i σ H2->g x σ H2 fun σ2 H4=>tb { D with nx:=Pv (i+1),ct:=Pv (i+1),bk:=D.nx } σ2 H4)(hd:∀ σ H2,Pv xs.length σ H2->D.nx σ H2):nN g tb D (Qi K a) σ H:=by
 refine Ei xs.length Pv h0 (fun i σ H2 hi hp=>⟨xs,xs[i],ha i σ H2 hp,agg hi⟩) (fun σ H2 hp=>⟨xs,ha _ σ H2 hp,af1 _⟩) (fun i x σ H2 H3 hi hp hy=>?_) hd
 obtain ⟨rfl,e⟩:=hy
 exact hs i x σ H3 (e xs (ha i σ H3 hp)) hp
inductive XS(K:Frag)(H:Hp):List V->List (List Int×Bool)->Prop where
 | nil:XS K H [] []
 | cons {q a:Addr} {b:Bool} {r:List Int} {xs:List V} {ps:List (List Int×Bool)} (h:aZ K H q [.ref a,.bl b]) (hr:aZ K H a (r.map V.int)) (t:XS K H xs ps):XS K H (.ref q::xs) ((r,b)::ps)
structure Lj(K:Frag)(C:Addr):Prop where
 ca:findIn K (.ref C) "__class__"=some (some (.builtin "object.__class__"))
 cg:specialIn K (.builtin "object.__class__") "__get__"=some (some (.builtin "getset_descriptor.__get__"))
 ct:takesIn K (.builtin "object.__class__")=some true
 cm:mroIn K C (.type "object")=some true
structure XT(K:Frag)(C:Addr):Prop where
 makes:makesIn K C=true
 init:findIn K (.ref C) "__init__"=some (some (.builtin "object.__init__"))
 kp:keepIn K (.ref C)=true
def CV(C:Addr):TE:=fun _ H Q=>∀ x dx,H x=none->H dx=none->dx≠x->Q (.ref x) (upd (upd H dx (.own x)) x (.ins C dx []))
section
variable {X:Cx}{C:Addr}{x:Str}{p pos:Pos}
theorem FH{pins:List (Addr×Obj)}{σ:St}{H:Hp}{s:Shared}{Q:VK}(M:XT X.K C)(I:Inv X pins σ H s)(h:CV C σ H Q):wpAny (model X.prog X.w) X.A (call (.ref C) []) (EP X pins σ Q) X.xe s:=by
 have hq:=h (s.heap.objs.size+1) s.heap.objs.size (I.cA.fresh (le_succ _)) (I.cA.fresh (af1 _)) (agN (lt_succ_self _))
 have I2:=Inv.made (C:=C) I
 have Y:=makes_of (M:=model X.prog X.w) I.mC M.makes
 have g1:((s.heap.push emptyDict).push (instObj C s.heap.objs.size)).get? (s.heap.objs.size+1)=some (instObj C s.heap.objs.size):=by
  have:=afZ (s.heap.push emptyDict) (o:=instObj C s.heap.objs.size) rfl
  rwa [Heap.size_push] at this
 have y1:Looks (model X.prog X.w) ((s.heap.push emptyDict).push (instObj C s.heap.objs.size)) (typeOf (.ref (s.heap.objs.size+1))) (.ref C):=(Looks.ld g1).andThen .now
 have y2:Looks (model X.prog X.w) ((s.heap.push emptyDict).push (instObj C s.heap.objs.size)) (isInstance (.ref (s.heap.objs.size+1)) (.type "object")) true :=
  y1.andThen (Y.top.keeps fun b o e=>afV _ (afV _ e))
 refine wpAny_call (EY I.mC M.makes M.init (fun self=>Looks.of_pure (PySem.W.oi_bind self)) ?_)
 refine codeAny_call_builtin PySem.W.oi_plain PySem.W.entry_oi (@PySem.W.check_slot (model X.prog X.w) _ _ _ "object.__init__" "object" "__init__" (.ref (s.heap.objs.size+1)) [] [] _ PySem.W.oi_kind PySem.W.oi_split y2 (PySem.W.oi_args (.ref (s.heap.objs.size+1))) ?_)
 rw [oi_run]
 exact agc ⟨rfl,⟨V.ref (s.heap.objs.size+1),_,I2,rfl,hq⟩⟩
theorem Iy (M:XT X.K C) (hg:Gl X x) (hm:X.mg x=some (.ref C)) (xm:(x == ("__debug__":Str))=false:=by decide):PE X (.Call (.Name x p) [] [] pos) (CV C):=by
 intro pins s σ H Q I h
 refine wpAny_Call_Name_kw (kG I hg hm ?_ xm)
 exact callWith_K0 I.mC M.kp (FH M I h)
theorem dA{e:Expr}{t t':TE}(h:PE X e t)(h':PE X e t'):PE X e (fun σ H Q=>t σ H Q\/t' σ H Q):=fun pins s σ H Q I z=>z.elim (h pins s σ H Q I) (h' pins s σ H Q I)
end
end L2
namespace L2
open PySem PySem.Spec PyProof.Rows PySem.W
def IA(P:Program)(w:World)(K:Frag)(mg:Str->Option Value)(base:Heap)(k:Nat)(f:Addr)(ps:List Str)(sp:Sp):Prop :=
 ∃ fd,oJ P w K mg base (SR P w) k f fd ps sp/\keepIn K (.ref f)=true/\Binds K fd ps []
section
variable {P:Program}{w:World}{K:Frag}{mg:Str->Option Value}{base:Heap}
theorem ir.okX{fa:Addr}{x qual:Str}{st:Stmt}{N ps:List Str}{k:Nat}{sp:Sp}(D:ir K fa x qual st ps)(S:aN N ps (ag st))(len:∀ vs H Q E,sp vs H Q E->vs.length=ps.length)
  (mF:∀ (f:Addr) (dh:Value) (A:Around) (outer:List Env) (s:Shared) (H:Hp) (vs:List V) (Q:VK) (E:XK),dF k (A.deeper (envOfC qual (ag st) s.heap.objs.size f dh))->sp vs H Q E ->
   ∃ t,yd ((rW (SR P w) P w K mg base N qual (ag st) f dh A outer s H E).oE (XW (rW (SR P w) P w K mg base N qual (ag st) f dh A outer s H E) fun C _ H'=>E (.ref C) none H')) (aJ st) t/\t { nx:=fun _ H'=>Q .fw H',rt:=Q } (start N vs) H):IA P w K mg base (k+1) fa ps sp:=by
 obtain ⟨fd,F,hb⟩:=D
 obtain ⟨oc,od,kV,doc,pm,an,dh,ct,Gz,rfl,lk,Ap⟩:=F.ex
 refine⟨_,G9 lk Ap S len fun A outer s H vs Q E hr E3=>?_,F.kp,hb⟩
 obtain ⟨t,h,q⟩:=mF fa dh A outer s H vs Q E hr E3
 exact⟨t,h.xe fun e s z=>Oq z,q⟩
end
def IB(C:Addr)(sp:Sp)(EX:JS)(t:TA):TE:=fun σ H Q=>t σ H fun vs H1=>∀ x dx,H1 x=none->H1 dx=none->dx≠x->sp (.ref x::vs) (upd (upd H1 dx (.own x)) x (.ins C dx [])) (fun v H2=>v=.fw/\Q (.ref x) H2) fun D _ H2=>∃ c,D=.ref c/\EX c σ H2
section
variable {X:Cx}{EX:JS}{k:Nat}{f C:Addr}{x:Str}{ps:List Str}{sp:Sp}{p pos:Pos}{e:Expr}{es:List Expr}{t:TA}
theorem IC(O:IA X.prog X.w X.K X.mg X.base k f ps sp)(M:Mk X.K C f)(hr:dF (k+1) X.A)(hX:∀ e s',XW X EX e s'->X.xe e s')(hex:X.ex=[])(hg:Gl X x)(hm:X.mg x=some (.ref C))(ha:PA X (e::es) t)
  (xm:(x == ("__debug__":Str))=false:=by decide) (he:starEach (e::es) X.env=(false,eval e X.env)::starEach es X.env:=by rfl) (ur:(backTo pos (starEach es X.env)).any (·.1)=false:=by rfl) :
  PE X (.Call (.Name x p) (e::es) [] pos) (IB C sp EX t):=by
 obtain ⟨fd,F,_,hb⟩:=O
 intro pins s σ H Q I h
 refine wpAny_Call_Name_kw (kG I hg hm ?_ xm)
 refine callWith_K (h₀:=X.base) I.ok.mod.L6 M.kp (di (ha pos pins s σ H _ I h) fun us s1 ⟨vs,H1,I1,r,q⟩=>⟨I1.mC,?_⟩) he ur
 have hq:=q (s1.heap.objs.size+1) s1.heap.objs.size (I1.cA.fresh (le_succ _)) (I1.cA.fresh (af1 _)) (agN (lt_succ_self _))
 have I2:=Inv.made (C:=C) I1
 have r2:Vals (V.ref (s1.heap.objs.size+1)::vs) (Value.ref (s1.heap.objs.size+1)::us):=.cons rfl r
 have hl:(Value.ref (s1.heap.objs.size+1)::us++[]).length=ps.length:=by
  have e:=r2.length
  rw [F.len _ _ _ _ hq] at e
  rw [append_nil]
  exact e.symm
 have CH:=hb _ (Value.ref (s1.heap.objs.size+1)::us) I2.mC hl
 rw [append_nil] at CH
 refine wpAny_call (AA (f:=f) I1.mC M.makes M.init (beq_iff_eq.mp M.fn) (codeAny_mono (F.run _ X.stack _ _ ⟨Value.ref (s1.heap.objs.size+1)::us,[]⟩ (Value.ref (s1.heap.objs.size+1)::us) _ _ _ (hr.make C us [])
  (I2.Nr.make C us []) CH r2 hq) fun rr s' rV=>?_))
 cases rr with
 | error e =>
  obtain ⟨a,C',H',rfl,ho,hg',un,cA,⟨oe,XO,T0,e1,e2,e3,e4,e5,e6,e7,e8,e9⟩,c,ec,hE⟩:=rV
  cases ec
  have I3:Inv X pins σ H' s':=I2.DN (ch:=[]) ho un cA hg' fun b z=>absurd z (by simp)
  have nw:∀ b,((s1.heap.push emptyDict).push (instObj C s1.heap.objs.size)).get? b=none->X.s₀.heap.get? b=none:=fun b z=>by
   cases qq:X.s₀.heap.get? b with
   | none=>rfl
   | some o =>
    obtain ⟨o',q1⟩:=I2.base.there b o qq (by rw [hex];simp)
    rw [z] at q1;cases q1
  have np:∀ b,((s1.heap.push emptyDict).push (instObj C s1.heap.objs.size)).get? b=none->∀ p∈X.pn,p.1≠b:=fun b z p hp qq=>by
   have:=(I2.pin p (agi _ hp)).1
   rw [qq,z] at this;cases this
  exact hX _ _ ⟨a,_,σ,H',rfl,(I3.kF fun p hp=>absurd hp (by simp)).oE _,⟨oe,XO,T0,e1,e2,e3,e4,e5,e6,e7,⟨nw a e8.1,fun p hp=>np a e8.1 p hp⟩,fun T z=>⟨(e9 T z).1,nw T (e9 T z).2.1,fun p hp=>np T (e9 T z).2.1 p hp⟩⟩,hE⟩
 | ok fl =>
  cases fl with
  | ret u =>
   obtain ⟨v,H',I3,rv,ev,q3⟩:=I2.after rV
   subst ev
   exact⟨rv,⟨V.ref (s1.heap.objs.size+1),H',I3,rfl,q3⟩⟩
  | next=>exact False.elim rV
  | brk=>exact False.elim rV
  | cont=>exact False.elim rV
end
section
variable {H:Hp}{σ:St}{Q:VK}{t:TA}{C:Addr}{sp:Sp}{EX:JS}
def OJ(C:Addr)(sp:Sp)(EX:JS)(σ:St)(Q:VK)(vs:List V)(H1:Hp):Prop:=∀ x dx,H1 x=none->H1 dx=none->dx≠x->sp (.ref x::vs) (upd (upd H1 dx (.own x)) x (.ins C dx [])) (fun v H2=>v=.fw/\Q (.ref x) H2) fun D _ H2=>∃ c,D=.ref c/\EX c σ H2
theorem Eo(h:t σ H fun vs H1=>OJ C sp EX σ Q vs H1):IB C sp EX t σ H Q:=h
end
open PySem PySem.Spec PyProof.Rows
theorem FI{K:Frag}{k1 k2:Bool}{a b:Addr}{xs ys:List V}{H1:Hp}{ix:List (Option Nat)}{σ:St}{te:TE}{Q:VK}(fr:St)(f:Nat->V)(kL:pick ix σ=none::none::fr)(ha:Sq k1 K H1 a xs)(hb:Sq k2 K H1 b ys)(hlen:xs.length<=ys.length)(hn:xs.length<=1000000)
  (step:∀ i x y H' (Qc:VK),xs[i]?=some x->ys[i]?=some y->aj H1 H'->(∀ H5,aj H' H5->Qc (f i) H5)->te (some x::some y::fr) H' Qc)
  (hQ:∀ l H',H1 l=none->aj H1 H'->H' l=some (.lst ((List.range xs.length).map f))->Q (.ref l) H'):bR ix (yY K 2 (i5 (cO 0) (i5 (cO 1) Ax))) (fun _ H Q=>Q true H) te σ Q (Kp K k1 k2 a b) H1:=by
 refine zg 2 fr xs.length f kL (fun H' s=>⟨_,_,s.sq ha,s.sq hb,.inl (af1 _)⟩) (fun i H' hi s=>?_) (fun i x l H' H2 own ho hi hl hs jD hy=>?_) hQ
 ·exact⟨_,_,xs[i],ys[i]'(by lia),s.sq ha,s.sq hb,agg hi,agg (by lia)⟩
 ·obtain ⟨o1,o2,rfl⟩:∃ o1 o2,own=[o1,o2]:=by match own,ho with|[o1,o2],_=>exact⟨o1,o2,rfl⟩
  obtain ⟨p,x',y',rfl,hp,e1,e2,rfl⟩:=hy
  have g1:=e1 _ (hs.sq ha)
  have g2:=e2 _ (hs.sq hb)
  refine⟨p,_,rfl,aZ.of aw,rfl,_,_,rfl,_,_,rfl,rfl,?_⟩
  show ite (true=true) _ _
  rw [if_pos rfl]
  exact step i x' y' _ _ g1 g2 (hs.trans (aj.cM hp)) fun H5 s5=>CW.next (fr:=fr) [some x',some y'] rfl hi hn hl hs jD ((aj.cM hp).trans s5) rfl
def Bd(i j:Int):Prop:=ET i j\/kl i j
theorem Iq.x{i j:Int}(h:Iq i j):Bd i j:=h.imp id fun h=>af0 h (agO rfl)
theorem Lk{X:Cx}:pM X (binaryOp .Mult) (rI Bd fun i j=>.int (i*j)):=Mh fun _ _ _ _ _ _ _ hc q=>mul_int q (hc.elim ET.ok kl.ok)
end L2

set_option maxHeartbeats 8000000
namespace PySem.W.Fast
theorem tw9573097664066209046:True:=trivial
theorem tw12562054824106235315:True:=trivial
theorem tw1105348369242001349:True:=trivial
theorem tw7035908758677664043:True:=trivial
theorem tw14269013644509259644:True:=trivial
theorem tw16774116109244646862:True:=trivial
theorem tw3471361044372165814:True:=trivial
theorem tw411112290896912086:True:=trivial
theorem tw550932983309836832:True:=trivial
theorem tw8995265316772158572:True:=trivial
theorem tw11679006376407314669:True:=trivial
theorem tw14618215836585439134:True:=trivial
theorem tw12511547110839649058:True:=trivial
theorem tw16276540935319529978:True:=trivial
theorem tw740111670508589520:True:=trivial
theorem tw15818164868503312495:True:=trivial
theorem tw394124915952682451:True:=trivial
theorem tw17773771348816658815:True:=trivial
theorem tw4294481714450523154:True:=trivial
theorem tw2557670370679067928:True:=trivial
theorem tw462948739398151810:True:=trivial
theorem tw12636353510609936510:True:=trivial
theorem tw16463819034546590274:True:=trivial
theorem tw6481530914021357677:True:=trivial
theorem tw2467102598730626359:True:=trivial
theorem tw15288044077843879190:True:=trivial
theorem tw8022556335867756964:True:=trivial
theorem tw14979218337928248732:True:=trivial
theorem tw7341572311372627788:True:=trivial
theorem tw15531937355016752798:True:=trivial
theorem tw6819245815350439285:True:=trivial
theorem tw18055019068751461304:True:=trivial
theorem tw10826793763475177376:True:=trivial
theorem tw11300903494795788346:True:=trivial
theorem tw11995453760325962942:True:=trivial
theorem tw9429544506614827655:True:=trivial
theorem tw12794885564304409705:True:=trivial
theorem tw5593601796957699292:True:=trivial
theorem tw188842981041659735:True:=trivial
theorem tw4133304421165028466:True:=trivial
theorem tw17865965127727611856:True:=trivial
theorem tw3919966466706675425:True:=trivial
theorem tw6246138408958323063:True:=trivial
theorem tw11428090903138642406:True:=trivial
theorem tw4998928757224909793:True:=trivial
theorem tw15580528812627017579:True:=trivial
theorem tw10703161746982323795:True:=trivial
theorem tw588846898915773159:True:=trivial
theorem tw6176480808189724636:True:=trivial
theorem tw13694413841974352851:True:=trivial
theorem tw11541998456109405078:True:=trivial
theorem tw171733445221159861:True:=trivial
theorem tw6648622293778658182:True:=trivial
theorem tw4899404350804743238:True:=trivial
theorem tw4900253749627657256:True:=trivial
theorem tw8804292342358665758:True:=trivial
theorem tw3222600735068761236:True:=trivial
theorem tw792245548122039909:True:=trivial
theorem tw15230874716620406385:True:=trivial
theorem tw16164954263454857422:True:=trivial
theorem tw1440168052988575083:True:=trivial
theorem tw215982569124758680:True:=trivial
theorem tw12655172895865281078:True:=trivial
theorem tw10703273498943561994:True:=trivial
theorem tw5089817557948913152:True:=trivial
theorem tw1199861202414624278:True:=trivial
theorem tw2143869889562611722:True:=trivial
theorem tw9275526017019984466:True:=trivial
theorem tw5110074617742929724:True:=trivial
theorem tw2768466826404282008:True:=trivial
theorem tw1186501967054460345:True:=trivial
theorem tw17021450702104550171:True:=trivial
theorem tw127830198377969476:True:=trivial
theorem tw6278859690532935110:True:=trivial
theorem tw18376434979641391668:True:=trivial
theorem tw5966518510313264174:True:=trivial
theorem tw17289003982829859978:True:=trivial
theorem tw15797193840884298286:True:=trivial
theorem tw16618350352661154831:True:=trivial
theorem tw10393425656859027308:True:=trivial
theorem tw13173813490476025553:True:=trivial
theorem tw56009889474384121:True:=trivial
theorem tw2965086843921478404:True:=trivial
theorem tw9174146431123964533:True:=trivial
theorem tw17575120763460485768:True:=trivial
theorem tw2605013827904059694:True:=trivial
theorem tw2231131315437984221:True:=trivial
theorem tw13172589060691110317:True:=trivial
theorem tw15471557320696935944:True:=trivial
theorem tw17032781214024188720:True:=trivial
theorem tw13158062944914935655:True:=trivial
theorem tw8426527157532792596:True:=trivial
theorem tw18384646837339540195:True:=trivial
theorem tw2236788412886586814:True:=trivial
theorem tw17850492014121673608:True:=trivial
theorem tw6843161957352917168:True:=trivial
theorem tw1854775616802985233:True:=trivial
theorem tw5839945998492182345:True:=trivial
theorem tw10147176818806777926:True:=trivial
theorem tw4112407980293022461:True:=trivial
theorem tw1512139437277137076:True:=trivial
theorem tw10667187378522442799:True:=trivial
theorem tw5206196946924074227:True:=trivial
theorem tw14496009264490245345:True:=trivial
theorem tw8402897773218268149:True:=trivial
theorem tw13242690229942089510:True:=trivial
theorem tw17904109807942781224:True:=trivial
theorem tw16424268463681258366:True:=trivial
theorem tw710609902014107981:True:=trivial
theorem tw15567717508540717853:True:=trivial
theorem tw3463770543130315926:True:=trivial
theorem tw10178666777434329636:True:=trivial
theorem tw16334612670314104768:True:=trivial
theorem tw1701097551646523911:True:=trivial
theorem tw18393494147325704036:True:=trivial
theorem tw11955418175946212874:True:=trivial
theorem tw2477346251772345648:True:=trivial
theorem tw3603144434260623234:True:=trivial
theorem tw10199609154419248767:True:=trivial
theorem tw3598356793132340696:True:=trivial
theorem tw14655739474080990:True:=trivial
theorem tw5832225762965749534:True:=trivial
theorem tw6691390783913601967:True:=trivial
theorem tw2416843216111124942:True:=trivial
theorem tw17436418381532978969:True:=trivial
theorem tw4352151407317779223:True:=trivial
theorem tw16364742071146676173:True:=trivial
theorem tw3736400751142200508:True:=trivial
theorem tw14998445121282310698:True:=trivial
theorem tw3166329341601464825:True:=trivial
theorem tw14794305598323137063:True:=trivial
theorem tw6676212491767451236:True:=trivial
theorem tw17320586655292235030:True:=trivial
theorem tw8496474824310559675:True:=trivial
theorem tw366967545853422675:True:=trivial
end PySem.W.Fast
namespace Law
open b7 (bf DR mh Eqv KE LB Led Len Lo gM PJ SF SJ Span VZ zi at' u3 gm mG AV dt uZ cW mK gL bF qa nM oa HI gens vO vN hZ ft zk vI gK dC cX u0 vQ yy D4 low b8 zh fy nK cu cq bJ bg aA iN AX qt yA sub bI sub_len hJ take_snoc Eb eK bW mI fU valued jx bU aY)
open PySem L2
def top(i:Nat):Stmt:=PySem.Challenge.pw_tuningyard_k58_whole_same_tunings.main.body.getD i (.Pass ⟨0,0,0,0⟩)
abbrev oR:Stmt:=top 7
abbrev kR:Stmt:=top 8
abbrev cF:Stmt:=top 12
abbrev oS:Stmt:=top 13
abbrev ei:Stmt:=top 14
abbrev gO:Stmt:=top 15
abbrev jb:Stmt:=top 16
abbrev gP:Stmt:=top 17
abbrev kT:Stmt:=top 18
abbrev gQ:Stmt:=top 19
abbrev kU:Stmt:=top 21
abbrev kW:Stmt:=top 22
abbrev dq:Stmt:=top 25
abbrev jc:Stmt:=top 26
abbrev ek:Stmt:=top 27
abbrev oU:Stmt:=top 28
abbrev dP:Stmt:=top 34
abbrev cS:Stmt:=top 35
abbrev kX:Stmt:=top 36
abbrev eV:Stmt:=top 38
abbrev fJ:Stmt:=top 39
abbrev fK:Stmt:=top 40
abbrev dr:Stmt:=top 41
abbrev eW:Stmt:=top 42
abbrev dQ:Stmt:=top 43
abbrev dR:Stmt:=top 44
abbrev fL:Stmt:=top 45
abbrev fM:Stmt:=top 46
abbrev eX:Stmt:=top 47
abbrev eY:Stmt:=top 48
abbrev en:Stmt:=top 49
abbrev cG:Stmt:=top 50
abbrev fN:Stmt:=top 51
abbrev eA:Stmt:=top 52
abbrev eZ:Stmt:=top 53
abbrev fO:Stmt:=top 54
abbrev cT:Stmt:=top 55
abbrev eB:Stmt:=top 56
abbrev fb:Stmt:=top 57
abbrev cH:Stmt:=top 58
abbrev cI:Stmt:=top 59
abbrev gR:Stmt:=top 60
abbrev gS:Stmt:=top 61
abbrev eC:Stmt:=top 62
abbrev du:Stmt:=top 63
abbrev qz:Stmt:=top 64
abbrev dv:Stmt:=gq (top 30) 0
abbrev dw:Stmt:=gq (top 30) 1
abbrev cx:Stmt:=gq (top 30) 2
abbrev cb:Stmt:=gq (top 31) 0
abbrev bV:Stmt:=gq (top 31) 1
abbrev bL:Stmt:=gq (top 31) 2
abbrev cJ:Stmt:=gq (top 32) 0
abbrev cy:Stmt:=gq (top 32) 1
abbrev bT:Stmt:=gq (top 32) 2
abbrev eD:Stmt:=gq (top 33) 0
abbrev dS:Stmt:=gq (top 33) 1
@[elab_as_elim] theorem dX {α : Type} {P : List α -> Prop} (us : List α) (hl : us.length = 1) (h : ∀ a0 : α, P [a0]) : P us :=
 match us,hl with|[a0],_=>h a0
@[elab_as_elim] theorem bM {α : Type} {P : List α -> Prop} (us : List α) (hl : us.length = 2) (h : ∀ a0 a1 : α, P [a0, a1]) : P us :=
 match us,hl with|[a0,a1],_=>h a0 a1
@[elab_as_elim] theorem qA {α : Type} {P : List α -> Prop} (us : List α) (hl : us.length = 3) (h : ∀ a0 a1 a2 : α, P [a0, a1, a2]) : P us :=
 match us,hl with|[a0,a1,a2],_=>h a0 a1 a2
@[elab_as_elim] theorem Ep {α : Type} {P : List α -> Prop} (us : List α) (hl : us.length = 4) (h : ∀ a0 a1 a2 a3 : α, P [a0, a1, a2, a3]) : P us :=
 match us,hl with|[a0,a1,a2,a3],_=>h a0 a1 a2 a3
@[elab_as_elim] theorem Ll {α : Type} {P : List α -> Prop} (us : List α) (hl : us.length = 5) (h : ∀ a0 a1 a2 a3 a4 : α, P [a0, a1, a2, a3, a4]) : P us :=
 match us,hl with|[a0,a1,a2,a3,a4],_=>h a0 a1 a2 a3 a4
def dot(a b:List Int):Int:=(List.zipWith (·*·) a b).sum
def val(w:List Int)(m:Int)(r:List Int):Int:=if m=0 then dot r w else dot r w % m
def Ar(n:Nat)(r:List Int):Prop:=∀ x∈r,iM x<=n
theorem Ar.mul{n m:Nat}{r q:List Int}(h1:Ar n r)(h2:Ar m q)(h:n+m<=1000000)(hl:r.length=q.length):∀ i,i<r.length->i7 (r.getD i 0) (q.getD i 0):=fun i hi=>by
 have a:=h1 (r.getD i 0) (by rw [List.getD,agg hi];exact agR hi)
 have b:=h2 (q.getD i 0) (by rw [List.getD,agg (hl ▸ hi)];exact agR _)
 unfold i7
 lia
def num(c b:Int):Int:=(c+b) % (2*b+1) - b
def vals(ks:List (List Int×Int))(r:List Int):List Int:=ks.map fun k=>val k.1 k.2 r
theorem mem_of{α:Type}{ks:List α}{i:Nat}{k:α}(h:ks[i]?=some k):k∈ks:=by
 obtain ⟨h1,h2⟩:=afX.mp h
 rw [<- h2]
 exact agR h1
theorem all_true(n:Nat):(List.replicate n true).all id=true:=by simp
def Te:Expr->Pos
 | .Call _ _ (⟨_,.Lambda _ _ _ p,_⟩::_) _=>p
 | _=>⟨0,0,0,0⟩
def OK:Stmt->Expr
 | .Assign _ v _=>v
 | _=>.Constant .none 0 ⟨0,0,0,0⟩
def OL:Stmt->List Stmt
 | .While _ b _ _=>b
 | _=>[]
theorem sx{M:Nat}{r:List Int}{x:Int}(h:bf M r)(hx:x∈r):x.natAbs<=M:=by
 obtain ⟨i,hi,e⟩:=agS hx
 have:=h i
 rw [List.getD,agg hi,e] at this
 exact this
def nT(p:Nat)(v:List Int):List Int:=if v.getD p 0<0 then bJ v (-1) else v
theorem IE{p:Nat}{v:List Int}(h:v.getD p 0≠0):0<(nT p v).getD p 0:=by
 unfold nT
 split
 ·rw [bg];lia
 ·lia
theorem Lm{p:Nat}{v:List Int}:at' p (nT p v)=at' p v:=by
 unfold nT at'
 split
 ·rw [bg];lia
 ·rfl
theorem IF{p n:Nat}{v:List Int}(h:v.length=n):(nT p v).length=n:=by
 unfold nT
 split
 ·exact aA h
 ·exact h
theorem Ln{p B:Nat}{v:List Int}(h:bf B v):bf B (nT p v):=by
 unfold nT
 split
 ·intro i
  rw [bg]
  have:=h i
  lia
 ·exact h
theorem Lp{α:Type}(f:α->Bool):∀ l:List α,(l.filter fun v=>!f v).length+(l.filter f).length=l.length
 | []=>rfl
 | x::l=>by
  have h:=Lp f l
  simp only [List.filter_cons,length_cons]
  cases f x <;> simp <;> lia
theorem Be(p:Nat)(s:List Int)(rest:List (List Int)):(dC p s rest).length+(gK p s rest).length=rest.length:=by
 have h:=Lp (fun v:List Int=>v.getD p 0 == 0) (rest.map (b8 p s))
 rw [agm] at h
 have e:(dC p s rest)=(rest.map (b8 p s)).filter (fun v=>!(v.getD p 0 == 0)):=rfl
 rw [e]
 unfold gK
 lia
theorem OM{b i:Nat}(hb:b<=109)(hi:i<5):b7.gs b i<9000/\b7.ss b (i+1)<400000:=by
 match i,hi with
 | 0,_|1,_|2,_|3,_|4,_=>simp only [b7.gs,b7.ss];lia
def dD(r:List Int)(n:Int)(q:List Int):List Int:=List.zipWith (fun x y=>x+n*y) r q
theorem getD_mem{q:List Int}{i:Nat}(h:i<q.length):q.getD i 0∈q:=by rw [List.getD,agg h];exact agR h
theorem fu{r q:List Int}{n:Int}{m:Nat}(hr:r.length=m)(hq:q.length=m):(dD r n q).length=m:=by simp [dD,hr,hq]
theorem qB{r q:List Int}{n:Int}(hl:r.length=q.length){i:Nat}(h:i<r.length):(dD r n q).getD i 0=r.getD i 0+n*q.getD i 0:=by
 unfold dD
 rw [List.getD,List.getElem?_zipWith,agg h,agg (hl ▸ h),List.getD,agg h,List.getD,agg (hl ▸ h)]
 rfl
theorem FJ{r q:List Int}{n:Int}(hl:r.length=q.length):(List.range (r.map V.int).length).map (fun i=>V.int (r.getD i 0+n*q.getD i 0))=(dD r n q).map V.int:=by
 apply ext_getElem
 ·simp [dD,hl]
 ·intro i h1 h2
  have hi:i<r.length:=by simpa using h1
  have:=qB (n:=n) hl hi
  rw [List.getD,agg (by simpa using h2)] at this
  simp only [List.getElem_map,List.getElem_range]
  rw [<- this]
  rfl
theorem iX{m r:List Int}{k:Int}{n:Nat}(hm:m.length=n)(hr:r.length=n):dD m k r=low m r (-k):=by
 refine bF (fu hm hr) (cq hm hr) fun i hi=>?_
 rw [qB (by lia) (by lia),cu hm hr,mul_neg,Int.mul_comm]
 lia
theorem mR{m r:List Int}{k:Int}{n S R P:Nat}(hm:m.length=n)(hr:r.length=n)(bm:bf S m)(br:bf R r)(hk:k.natAbs<=P):bf (S+R*P) (dD m k r):=fun i=>by
 by_cases h:i<n
 ·rw [qB (by lia) (by lia)]
  have h1:=bm i
  have h2:(k*r.getD i 0).natAbs<=R*P:=by rw [agH,Nat.mul_comm];exact agw (br i) hk
  exact af0 (natAbs_add_le _ _) (add_le_add h1 h2)
 ·rw [List.getD,getElem?_eq_none (by rw [fu hm hr];lia)]
  exact agM _
theorem FK{v s:List Int}{p n:Nat}(hv:v.length=n)(hs:s.length=n):dD v (0 - (v.getD p 0).fdiv (s.getD p 0)) s=b8 p s v:=by
 refine bF (fu hv hs) (fy hv hs) fun i hi=>?_
 rw [qB (by lia) (by lia),b8,cu hv hs,qt,sub_mul,zero_mul,Int.mul_comm (s.getD i 0)]
 lia
abbrev Tf:Pos:=Te (OK ((OL ((aJ jb).getD 2 (.Pass ⟨0,0,0,0⟩))).getD 0 (.Pass ⟨0,0,0,0⟩)))
abbrev bH (K:Frag) (H:Hp):Prop:=fI (zA K "parted") Tf "parted.<locals>.<lambda>" H
abbrev jd (K:Frag) (H H':Hp):Prop:=bc (zA K "parted") H H'
def XU(ls:List Int)(p B j:Nat)(x:Int):Prop:=(p<j->x=0)/\(j=p->x=ls.getD j 0)/\(j<p->0<ls.getD j 0->0<=x/\x<ls.getD j 0)/\x.natAbs<=B
def XX(ls:List Int)(p B:Nat)(xs:List Int):Prop:=∀ j,j<xs.length->XU ls p B j (xs.getD j 0)
def LR(ls:List Int)(p B:Nat)(r:List Int):Prop:=r.length=5/\XX ls p B r
theorem LR.bd{ls r:List Int}{p B:Nat}(h:LR ls p B r):bf B r:=fun i=>by
 by_cases c:i<r.length
 ·exact (h.2 i c).2.2.2
 ·rw [List.getD,getElem?_eq_none (by lia)]
  exact agM _
def TS(ls:List Int)(B lo:Nat)(rs:List (List Int)):Prop:=SF rs/\∀ r∈rs,∃ p,lo<=p/\p<5/\0<ls.getD p 0/\LR ls p B r
theorem mem_set{α:Type}{rs:List α}{i:Nat}{r x:α}(h:x∈rs.set i r):x=r\/x∈rs:=(mem_or_eq_of_mem_set h).symm
theorem IG{α:Type}{rs:List α}{i:Nat}{r x:α}(h:x∈rs):x∈rs.set i r\/rs[i]?=some x:=by
 obtain ⟨k,hk,e⟩:=agS h
 by_cases c:k=i
 ·subst c;exact .inr (by rw [agg hk,e])
 ·exact .inl (agl (i:=k) (by rw [getElem?_set,if_neg (Ne.symm c),agg hk,e]))
theorem IH{α:Type}{rs:List α}{i:Nat}{a r:α}(h:rs[i]?=some a):r∈rs.set i r:=by
 obtain ⟨h1,_⟩:=afX.mp h
 exact agl (i:=i) (by rw [getElem?_set];simp [h1])
theorem Lq{n i:Nat}{rs:List (List Int)}{a r:List Int}(hi:rs[i]?=some a)(h1:Span n rs r)(h2:Span n (rs.set i r) a):Eqv n rs (rs.set i r):=by
 refine⟨fun x hx=>?_,fun x hx=>?_⟩
 ·rcases IG (i:=i) (r:=r) hx with h|h
  ·exact Span.mem h
  ·rw [hi] at h;cases h;exact h2
 ·rcases mem_set hx with rfl|h
  ·exact h1
  ·exact Span.mem h
theorem Lr{n i j:Nat}{rs:List (List Int)}{a b:List Int}{k:Int}(hl:Len n rs)(Xc:i≠j)(hi:rs[i]?=some a)(hj:rs[j]?=some b):Eqv n rs (rs.set i (dD a k b)):=by
 have la:=hl a (agl hi)
 have lb:=hl b (agl hj)
 rw [iX la lb]
 refine Lq hi (Span.low la lb (Span.mem (agl hi)) (Span.mem (agl hj)) _) ?_
 refine Span.AS (q:=-k) la lb (Span.mem (IH hi)) (Span.mem ?_)
 exact agl (i:=j) (by rw [getElem?_set,if_neg Xc];exact hj)
theorem jG{n j:Nat}(h:j<n):Hg n (j:Int)=some j:=by
 unfold Hg
 rw [if_pos (by lia),if_pos (by lia),agT]
theorem xw{M b:Nat}{r:List Int}(h:bf (2 ^ M) r)(hb:M<b):Ar b r:=fun x hx=>by
 rw [gm]
 exact mG (agu (sx h hx) (pow_lt_pow_right (by decide) hb))
theorem mS{M:Nat}{r:List Int}(h:∀ x∈r,x.natAbs<=M):bf M r:=fun i=>by
 by_cases hi:i<r.length
 ·exact h _ (getD_mem hi)
 ·rw [List.getD,getElem?_eq_none (by lia)]
  exact agM _
theorem Lu(ws:List Int)(m:Int)(r:List Int):m ∣ dt r ws - val ws m r:=by
 have e:dot r ws=dt r ws:=rfl
 unfold val
 rw [e]
 split
 ·rw [sub_self];exact agI _
 ·exact⟨dt r ws / m,by rw [Int.emod_def];lia⟩
theorem Tg{b i w:Nat}(hb:b<=50000)(hw:w<=6)(hi:i<w):b7.ss b (i+1)<60000000:=by
 have hi6:i<6:=by lia
 rcases (show i=0\/i=1\/i=2\/i=3\/i=4\/i=5 by lia) with rfl|rfl|rfl|rfl|rfl|rfl <;> simp only [b7.gs,b7.ss] <;> lia
theorem ON{W i:Nat}(hW:W<=190)(hi:i<=5):W+b7.lb W i+3<=50000:=by
 rcases (show i=0\/i=1\/i=2\/i=3\/i=4\/i=5 by lia) with rfl|rfl|rfl|rfl|rfl|rfl <;> simp only [b7.lb] <;> lia
theorem II{ws r:List Int}{m:Int}{N:Nat}(h:(dt r ws).natAbs<=N)(h0:0<=m)(hm:m.natAbs<=N):(val ws m r).natAbs<=N:=by
 have e:dot r ws=dt r ws:=rfl
 unfold val
 rw [e]
 split
 ·exact h
 ·have h1:=emod_nonneg (dt r ws) (by assumption:m≠0)
  have h2:=emod_lt_of_pos (dt r ws) (show 0<m by lia)
  lia
theorem nR:Len 5 eK:=fun v hv=>by
 simp only [eK,agq,not_mem_nil,or_false] at hv
 rcases hv with rfl|rfl|rfl|rfl|rfl <;> rfl
theorem vY:∀ v∈eK,bf (3 ^ 0) v:=fun v hv=>by
 simp only [eK,agq,not_mem_nil,or_false] at hv
 rcases hv with rfl|rfl|rfl|rfl|rfl <;> exact mS (by decide)
theorem FL:∀ qs:List (List Int×Int),PyData.eqv (.list (qs.map uB)) (.list [])=decide (qs=[])
 | []=>rfl
 | _::_=>by rw [af9 (by intro z;cases z)];rfl
def Hr(ks:List (List Int×Int))(r:List Int):Prop:=∃ k∈ks,val k.1 k.2 r≠0
instance (ks:List (List Int×Int)) (r:List Int):Decidable (Hr ks r):=inferInstanceAs (Decidable (∃ k∈ks,val k.1 k.2 r≠0))
theorem eN{x dx C:Addr}{H:Hp}(h1:H x=none)(h2:H dx=none):aj H (upd (upd H dx (.own x)) x (.ins C dx [])):=fun b o e=>by
 have n1:b≠x:=fun z=>by rw [z,h1] at e;cases e
 have n2:b≠dx:=fun z=>by rw [z,h2] at e;cases e
 rw [aG n1,aG n2]
 exact e
theorem zD{K:Frag}{x dx C:Addr}{H H1:Hp}{o:HO}(h1:H x=none)(h2:H dx=none)(s:jd K (upd (upd H dx (.own x)) x (.ins C dx [])) H1):jd K H (upd H1 x o):=fun b o' n e=>by
 have n1:b≠x:=fun z=>by rw [z,h1] at e;cases e
 rw [aG n1]
 exact s b o' n (eN h1 h2 b o' e)
theorem va{P x C dx:Addr}{lp:Pos}{q:Str}{H:Hp}{fs:List (Str×V)}{o:HO}(t:fI P lp q H)(e:H x=some (.ins C dx fs)):fI P lp q (upd H x o):=by
 obtain ⟨ps,h1,h2,h3⟩:=t
 have n1:P≠x:=fun z=>by rw [z,e] at h1;cases h1
 refine⟨ps,by rw [aG n1];exact h1,h2,h3.imp id fun ⟨c,hc,hz⟩=>⟨c,hc,?_⟩⟩
 have n2:c≠x:=fun z=>by rw [z,e] at hz;cases hz
 rw [aG n2]
 exact hz
theorem qC{K:Frag}{H H1:Hp}{x C dx:Addr}{fs:List (Str×V)}(s:jd K H H1)(t:bH K H)(e:H x=some (.ins C dx fs)):H1 x=some (.ins C dx fs):=s x _ (fun z=>by
 obtain ⟨ps,h1,_⟩:=t
 rw [<- z,e] at h1
 cases h1) e
inductive Tu where
 | plain:Tu
 | comma (st:List (List Int)):Tu
 | key (ks:List (List Int×Int)):Tu
 | eO (w:List Int):Tu
def cv(K:Frag)(H:Hp)(t l:Addr):Tu->Prop
 | .plain=>∃ C dx,nsIn K mainGlobals "Tuning"=some (some (.ref C))/\H t=some (.ins C dx [])
 | .comma st=>∃ C dx ys,nsIn K mainGlobals "CommaTuning"=some (some (.ref C))/\H t=some (.ins C dx [("steps",.ref l)])/\H l=some (.lst ys)/\av K H ys st
 | .key ks=>∃ C dx ys,nsIn K mainGlobals "KeyTuning"=some (some (.ref C))/\H t=some (.ins C dx [("own_keys",.ref l)])/\H l=some (.lst ys)/\bx K H ys ks
 | .eO w=>∃ C dx ys,nsIn K mainGlobals "Board"=some (some (.ref C))/\H t=some (.ins C dx [("own_keys",.ref l),("octave",.int (w.getD 0 0))])/\H l=some (.lst ys)/\bx K H ys [(w,0)]
def Tu.ok:Tu->Prop
 | .plain=>True
 | .comma st=>SF st/\Len 5 st/\∀ v∈st,bf (2 ^ 1500) v
 | .key ks=>ks.length<=6/\(∀ k∈ks,k.2=0\/2<=k.2)/\∀ k∈ks,k.1.length=5/\bf (2 ^ 20) k.1/\k.2.natAbs<=2 ^ 20
 | .eO w=>w.length=5/\bf (2 ^ 20) w
def Tu.rl:Tu->List Int->List Int->Prop
 | .plain,a,b=>a=b
 | .comma st,a,b=>Span 5 st (sub a b)
 | .key ks,a,b=>∀ k∈ks,VZ k.1 k.2 (sub a b)
 | .eO w,a,b=>VZ w 0 (sub a b)
theorem cv.same{K:Frag}{H H':Hp}{t l:Addr}:∀ {u:Tu},cv K H t l u->aj H H'->cv K H' t l u
 | .plain,⟨C,dx,h1,h2⟩,s=>⟨C,dx,h1,s _ _ h2⟩
 | .comma _,⟨C,dx,ys,h1,h2,h3,h4⟩,s=>⟨C,dx,ys,h1,s _ _ h2,s _ _ h3,h4.same s⟩
 | .key _,⟨C,dx,ys,h1,h2,h3,h4⟩,s=>⟨C,dx,ys,h1,s _ _ h2,s _ _ h3,h4.same s⟩
 | .eO _,⟨C,dx,ys,h1,h2,h3,h4⟩,s=>⟨C,dx,ys,h1,s _ _ h2,s _ _ h3,h4.same s⟩
theorem cv.keep{K:Frag}{H H':Hp}{t l:Addr}(tb:bH K H)(s:jd K H H'):∀ {u:Tu},cv K H t l u->cv K H' t l u
 | .plain,⟨C,dx,h1,h2⟩=>⟨C,dx,h1,qC s tb h2⟩
 | .comma _,⟨C,dx,ys,h1,h2,h3,h4⟩=>⟨C,dx,ys,h1,qC s tb h2,s.lst tb h3,h4.eU s tb⟩
 | .key _,⟨C,dx,ys,h1,h2,h3,h4⟩=>⟨C,dx,ys,h1,qC s tb h2,s.lst tb h3,h4.eU s tb⟩
 | .eO _,⟨C,dx,ys,h1,h2,h3,h4⟩=>⟨C,dx,ys,h1,qC s tb h2,s.lst tb h3,h4.eU s tb⟩
theorem cv.off{K:Frag}{H:Hp}{t l b:Addr}{ys zs:List V}(e:H b=some (.lst ys))(ne:l≠b):∀ {u:Tu},cv K H t l u->cv K (upd H b (.lst zs)) t l u
 | .plain,⟨C,dx,h1,h2⟩=>⟨C,dx,h1,by rw [aG (fun z=>by rw [z,e] at h2;cases h2)];exact h2⟩
 | .comma _,⟨C,dx,ys,h1,h2,h3,h4⟩=>⟨C,dx,ys,h1,by rw [aG (fun z=>by rw [z,e] at h2;cases h2)];exact h2,by rw [aG ne];exact h3,h4.off e⟩
 | .key _,⟨C,dx,ys,h1,h2,h3,h4⟩=>⟨C,dx,ys,h1,by rw [aG (fun z=>by rw [z,e] at h2;cases h2)];exact h2,by rw [aG ne];exact h3,h4.off e⟩
 | .eO _,⟨C,dx,ys,h1,h2,h3,h4⟩=>⟨C,dx,ys,h1,by rw [aG (fun z=>by rw [z,e] at h2;cases h2)];exact h2,by rw [aG ne];exact h3,h4.off e⟩
def VU(st:List (List Int))(u v:List Int):Prop:=v.length=5/\Span 5 st (sub u v)/\∀ s∈st,∀ k,Led s k->0<=v.getD k 0/\v.getD k 0<s.getD k 0
theorem Lv{st:List (List Int)}{a b u v:List Int}(sf:SF st)(hl:Len 5 st)(la:a.length=5)(lb:b.length=5)(ha:VU st a u)(hb:VU st b v):u=v↔Span 5 st (sub a b):=by
 obtain ⟨lu,su,ku⟩:=ha
 obtain ⟨lv,sv,kv⟩:=hb
 have e1:sub (sub a b) (sub (sub a u) (sub b v))=sub u v:=bF (sub_len (sub_len la lb) (sub_len (sub_len la lu) (sub_len lb lv))) (sub_len lu lv) fun i _=>by
  rw [bI (sub_len la lb) (sub_len (sub_len la lu) (sub_len lb lv)),bI la lb,bI (sub_len la lu) (sub_len lb lv),bI la lu,bI lb lv,bI lu lv]
  lia
 have hd:=Span.sub (sub_len la lu) (sub_len lb lv) su sv
 constructor
 ·rintro rfl
  have e2:sub a b=sub (sub a u) (sub b u):=bF (sub_len la lb) (sub_len (sub_len la lu) (sub_len lb lu)) fun i _=>by
   rw [bI la lb,bI (sub_len la lu) (sub_len lb lu),bI la lu,bI lb lu]
   lia
  rw [e2]
  exact hd
 ·intro h
  have h3:=Span.sub (sub_len la lb) (sub_len (sub_len la lu) (sub_len lb lv)) h hd
  rw [e1] at h3
  have hz:=SF.small sf hl h3 fun s hs k hk=>by
   rw [bI lu lv]
   have p1:=ku s hs k hk
   have p2:=kv s hs k hk
   lia
  exact bF lu lv fun i _=>by
   have:(sub u v).getD i 0=0:=by rw [hz,bU]
   rw [bI lu lv] at this
   lia
theorem Bf{w a b:List Int}{m:Int}(lw:w.length=5)(la:a.length=5)(lb:b.length=5)(hm:m=0\/2<=m):val w m a=val w m b↔VZ w m (sub a b):=by
 have ea:dot a w=dt a w:=rfl
 have eb:dot b w=dt b w:=rfl
 unfold val VZ
 rw [ea,eb,gL la lb lw]
 by_cases c:m=0
 ·rw [if_pos c,if_pos c,c,agK]
  lia
 ·rw [if_neg c,if_neg c]
  exact Int.emod_eq_emod_iff_emod_sub_eq_zero.trans ⟨Int.dvd_of_emod_eq_zero,Int.emod_eq_zero_of_dvd⟩
theorem FN{ks:List (List Int×Int)}{a b:List Int}(hl:∀ k∈ks,k.1.length=5)(hm:∀ k∈ks,k.2=0\/2<=k.2)(la:a.length=5)(lb:b.length=5):(ks.map fun k=>val k.1 k.2 a)=(ks.map fun k=>val k.1 k.2 b)↔∀ k∈ks,VZ k.1 k.2 (sub a b):=by
 rw [List.map_inj_left]
 exact⟨fun h k hk=>(Bf (hl k hk) la lb (hm k hk)).mp (h k hk),fun h k hk=>(Bf (hl k hk) la lb (hm k hk)).mpr (h k hk)⟩
def Tu.tab:Tu->List (List Int)->Prop
 | .plain,st=>st=[]
 | .comma s,st=>st=s
 | .key ks,st=>Lo ks st
 | .eO w,st=>Lo [(w,0)] st
theorem zl{M:Nat}:bf M [0,0,0,0,0]:=mS fun x hx=>by
 simp only [agq,not_mem_nil,or_false,or_self] at hx
 rw [hx]
 exact agM _
theorem vb{K:Frag}{H:Hp}{x C dx a:Addr}{fs:List (Str×V)}{o:HO}{xs:List V}(h:aZ K H a xs)(e:H x=some (.ins C dx fs)):aZ K (upd H x o) a xs:=by
 rcases h with (h|⟨o',h⟩)|h
 ·exact .inl (.inl (by rw [aG (fun z=>by rw [z,e] at h;cases h)];exact h))
 ·exact .inl (.inr ⟨o',by rw [aG (fun z=>by rw [z,e] at h;cases h)];exact h⟩)
 ·exact .inr h
def gu(c m:Int):Int:=(c+m) % (2*m+1) - m
theorem IJ{c m:Int}(h:0<=m):(gu c m).natAbs<=m.natAbs:=by
 unfold gu
 have h1:=emod_nonneg (c+m) (show 2*m+1≠0 by lia)
 have h2:=emod_lt_of_pos (c+m) (show 0<2*m+1 by lia)
 generalize (c+m) % (2*m+1)=z at h1 h2
 lia
theorem vZ{α:Type}:∀ {l:List α} {k:Nat} (h:k<l.length),(l[k]::l.eraseIdx k).Perm l
 | [],_,h=>absurd h (agU _)
 | a::l,0,_=>List.Perm.refl _
 | a::l,k+1,h=>by
  have hk:k<l.length:=Nat.lt_of_succ_lt_succ h
  have ih:=vZ (l:=l) (k:=k) hk
  show (l[k]::a::l.eraseIdx k).Perm (a::l)
  exact (List.Perm.swap a l[k] (l.eraseIdx k)).trans (ih.cons a)
theorem v5{K:Frag}{H:Hp}:∀ {xs:List V} {rs:List (List Int)} (k:Nat),av K H xs rs->av K H (xs.eraseIdx k) (rs.eraseIdx k)
 | _,_,_,.nil=>.nil
 | _,_,0,.cons _ t=>t
 | _,_,k+1,.cons h t=>.cons h (v5 k t)
theorem IK{ns:List Int}{m:Int}(h:m∈ns):∃ j:Nat,ns[j]?=some m/\∀ i:Nat,i<j->ns[i]?≠some m:=by
 obtain ⟨j,hj,e⟩:=agS h
 have RV:ns[j]?=some m:=by rw [agg hj,e]
 clear e hj
 induction j using Nat.strongRecOn with
 | _ j ih =>
  by_cases c:∃ i,i<j/\ns[i]?=some m
  ·obtain ⟨i,hi,h'⟩:=c
   exact ih i hi h'
  ·exact⟨j,RV,fun i hi z=>c ⟨i,hi,z⟩⟩
theorem v7{v s:List Int}{p n:Nat}(hv:v.length=n)(hs:s.length=n):dD v (-((v.getD p 0).fdiv (s.getD p 0))) s=b8 p s v:=by
 rw [<- FK hv hs]
 congr 1
 lia
def IL(ps:List (Nat×List Int)):Prop:=(∀ p∈ps,p.2.length=5/\p.1<5/\p.2.getD p.1 0≠0)/\ps.Pairwise fun a b=>b.2.getD a.1 0=0
theorem IL.step{p:Nat×List Int}{ps:List (Nat×List Int)}{v:List Int}(h:IL (p::ps))(lv:v.length=5):Span 5 ((p::ps).map Prod.snd) v↔p.2.getD p.1 0 ∣ v.getD p.1 0/\Span 5 (ps.map Prod.snd) (b8 p.1 p.2 v):=by
 obtain ⟨lp,Lb,h0⟩:=h.1 p (.head _)
 have lr:Len 5 (ps.map Prod.snd):=fun r hr=>by
  obtain ⟨q,hq,rfl⟩:=agr.mp hr
  exact (h.1 q (.tail _ hq)).1
 have hz:∀ r∈ps.map Prod.snd,r.getD p.1 0=0:=fun r hr=>by
  obtain ⟨q,hq,rfl⟩:=agr.mp hr
  exact (agP.mp h.2).1 q hq
 constructor
 ·intro hv
  obtain ⟨c,_,hs⟩:=Span.cons lp lr hv
  have e:=Span.Hw (i:=p.1) lr hs hz
  rw [cu lv lp] at e
  have hd:v.getD p.1 0=p.2.getD p.1 0*c:=by lia
  refine⟨⟨c,hd⟩,?_⟩
  have hq:qt v p.2 p.1=c:=by
   unfold qt
   rw [hd]
   exact Int.mul_fdiv_cancel_left c h0
  unfold b8
  rw [hq]
  exact hs
 ·rintro ⟨_,hs⟩
  exact Span.AS lv lp (hs.of fun r hr=>Span.mem (.tail _ hr)) (Span.mem (.head _))
theorem IL.drop{ps:List (Nat×List Int)}(h:IL ps)(i:Nat):IL (ps.drop i):=⟨fun p hp=>h.1 p (mem_of_mem_drop hp),h.2.sublist (List.drop_sublist i ps)⟩
theorem Er(b:Nat):∀ {i j:Nat},i<=j->b7.gs b i<=b7.gs b j
 | i,0,h=>by rw [Nat.le_zero.mp h];exact af1 _
 | i,j+1,h=>by
  rcases Nat.lt_or_eq_of_le h with c|c
  ·have:=Er b (show i<=j by lia)
   rw [b7.gs]
   lia
  ·rw [c];exact af1 _
theorem _root_.b7.Lw{v s:List Int}{n X B:Nat}{p:Nat}(lv:v.length=n)(ls:s.length=n)(hv:b7.bf (2 ^ X) v)(hs:b7.bf (2 ^ B) s)(hq:((v.getD p 0).fdiv (s.getD p 0)).natAbs<=2 ^ X):b7.bf (2 ^ (X+B+1)) (b7.b8 p s v):=fun i=>by
 rw [b8,cu lv ls]
 have h1:=hv i
 have h2:(s.getD i 0*qt v s p).natAbs<=2 ^ X*2 ^ B:=by
  rw [agH,Nat.mul_comm]
  exact agw hq (hs i)
 have e:(2:Nat) ^ (X+B+1)=2 ^ X*2 ^ B+2 ^ X*2 ^ B:=by rw [pow_succ,pow_add,Nat.mul_two]
 have h3:(2:Nat) ^ X*1<=2 ^ X*2 ^ B:=mul_le_mul_left _ (agL _)
 rw [e]
 exact af0 (natAbs_sub_le _ _) (add_le_add (by lia) h2)
structure FO(b:Nat)(rs:List (List Int))(i:Nat)(ps:List (Nat×List Int))(os:List (List Int)):Prop where
 VV:IL ps
 hi:∀ p∈ps,5 - i<=p.1
 len:Len 5 os
 z:∀ v∈os,∀ j,5 - i<=j->v.getD j 0=0
 e:Eqv 5 rs (ps.map Prod.snd++os)
 bo:∀ v∈os,bf (2 ^ b7.gs b i) v
 bp:∀ p∈ps,bf (2 ^ b7.gs b i) p.2
 c:os.length<=rs.length
 cp:ps.length<=i
theorem FO.start{b:Nat}{rs:List (List Int)}(hl:Len 5 rs)(hb:∀ v∈rs,bf (2 ^ b) v):FO b rs 0 [] rs :=
 ⟨⟨(fun _ z=>nomatch z),.nil⟩,(fun _ z=>nomatch z),hl,(fun v hv j hj=>by rw [List.getD,getElem?_eq_none (by rw [hl v hv];lia)];rfl),Eqv.refl,hb,(fun _ z=>nomatch z),af1 _,af1 _⟩
theorem FO.none{b i p:Nat}{rs os Ca:List (List Int)}{ps:List (Nat×List Int)}(h:FO b rs i ps os)(hp:p+i+1=5)(he:Eqv 5 os Ca)(h0:∀ v∈Ca,v.getD p 0=0)(hl:∀ v∈Ca,v.length=5)(hb:∀ v∈Ca,bf (6*(2 ^ b7.gs b i*(2 ^ b7.gs b i*2 ^ b7.gs b i))) v)(hc:Ca.length<=os.length):FO b rs (i+1) ps Ca:=by
 have hg:=agt (n:=2) (by decide) (Er b (le_succ i))
 refine⟨h.VV,fun q hq=>by have:=h.hi q hq;lia,hl,fun v hv j hj=>?_,h.e.trans he.app,fun v hv=>(hb v hv).mono (af2 (hZ b i)),fun q hq=>(h.bp q hq).mono hg,af0 hc h.c,le_succ_of_le h.cp⟩
 by_cases e:j=p
 ·rw [e];exact h0 v hv
 ·exact Span.Hw h.len (he.2 v hv) fun r hr=>h.z r hr j (by lia)
theorem FO.one{b i p:Nat}{rs os Ca:List (List Int)}{s:List Int}{ps:List (Nat×List Int)}(h:FO b rs i ps os)(hp:p+i+1=5)(he:Eqv 5 os (s::Ca))(hs:s.getD p 0≠0)(h0:∀ v∈Ca,v.getD p 0=0)(hl:∀ v∈s::Ca,v.length=5)(hb:∀ v∈s::Ca,bf (6*(2 ^ b7.gs b i*(2 ^ b7.gs b i*2 ^ b7.gs b i))) v)(hc:Ca.length+1<=os.length):FO b rs (i+1) (ps++[(p,s)]) Ca:=by
 have hg:=agt (n:=2) (by decide) (Er b (le_succ i))
 have za:∀ v∈s::Ca,∀ j,5 - i<=j->v.getD j 0=0:=fun v hv j hj=>Span.Hw h.len (he.2 v hv) fun r hr=>h.z r hr j hj
 refine⟨⟨fun q hq=>?_,?_⟩,fun q hq=>?_,fun v hv=>hl v (.tail _ hv),fun v hv j hj=>?_,?_,fun v hv=>(hb v (.tail _ hv)).mono (af2 (hZ b i)),fun q hq=>?_,by have:=h.c;lia,by rw [agn,ago];have:=h.cp;lia⟩
 ·rcases agk.mp hq with z|z
  ·exact h.VV.1 q z
  ·rw [agj.mp z]
   exact⟨hl s (.head _),by show p<5;lia,hs⟩
 ·rw [List.pairwise_append]
  refine⟨h.VV.2,List.pairwise_singleton _ _,fun q hq r hr=>?_⟩
  rw [agj.mp hr]
  exact za s (.head _) q.1 (h.hi q hq)
 ·rcases agk.mp hq with z|z
  ·have:=h.hi q z;lia
  ·rw [agj.mp z]
   show 5 - (i+1)<=p
   lia
 ·by_cases e:j=p
  ·rw [e];exact h0 v hv
  ·exact za v (.tail _ hv) j (by lia)
 ·rw [agD,List.append_assoc]
  exact h.e.trans he.app
 ·rcases agk.mp hq with z|z
  ·exact (h.bp q z).mono hg
  ·rw [agj.mp z]
   exact (hb s (.head _)).mono (af2 (hZ b i))
theorem FO.all{b:Nat}{rs os:List (List Int)}{ps:List (Nat×List Int)}(h:FO b rs 5 ps os):Eqv 5 rs (ps.map Prod.snd):=by
 refine h.e.trans ⟨fun r hr=>?_,fun r hr=>Span.mem (agi _ hr)⟩
 rcases agk.mp hr with z|z
 ·exact Span.mem z
 ·have e:r=jx 5:=bF (h.len r z) (aY 5) fun j _=>by rw [h.z r z j (by lia),bU]
  rw [e]
  exact Span.zero
def ll:Nat->Nat
 | 0=>0
 | i+1=>3*ll i+92
theorem IM:∀ {i j:Nat},i<=j->ll i<=ll j
 | i,0,h=>by rw [Nat.le_zero.mp h];exact af1 _
 | i,j+1,h=>by
  rcases Nat.lt_or_eq_of_le h with c|c
  ·have:=IM (show i<=j by lia)
   rw [ll]
   lia
  ·rw [c];exact af1 _
structure GK(ks:List (List Int×Int))(st:List (List Int)):Prop where
 len:Len 5 st
 c:st.length<=5
 all:∀ x,Span 5 st x↔x.length=5/\∀ k∈ks,VZ k.1 k.2 x
 bd:∀ v∈st,bf (2 ^ ll ks.length) v
theorem GK.start:GK [] eK:=by
 have e:Eqv 5 eK iN:=Eqv.perm (by decide)
 refine⟨nR,by decide,fun x=>⟨fun h=>⟨h.len nR,fun _ z=>nomatch z⟩,fun h=>e.symm.span ((Lo.start.all x).mpr ⟨h.1,fun _ z=>nomatch z⟩)⟩,fun v hv=>vY v hv⟩
theorem GK.next{ks:List (List Int×Int)}{st us:List (List Int)}{w:List Int}{m:Int}(h:GK ks st)(hl:Len 5 us)(hc:us.length<=st.length)(ha:∀ x,Span 5 us x↔Span 5 st x/\VZ w m x)(hb:∀ v∈us,bf (2 ^ (3*ll ks.length+92)) v):GK (ks++[(w,m)]) us:=by
 refine⟨hl,af0 hc h.c,fun x=>?_,fun v hv=>by rw [agn,ago];exact hb v hv⟩
 rw [ha x,h.all x]
 constructor
 ·rintro ⟨⟨h1,h2⟩,h3⟩
  exact⟨h1,fun k hk=>(agk.mp hk).elim (h2 k) fun z=>by rw [agj.mp z];exact h3⟩
 ·rintro ⟨h1,h2⟩
  exact⟨⟨h1,fun k hk=>h2 k (agi _ hk)⟩,h2 (w,m) (agh _ (agj.mpr rfl))⟩
theorem Es{M:Nat}{v:List Int}{n:Nat}(h:bf M v):bf M (v.take n):=fun i=>by
 by_cases c:i<n
 ·rw [Eb c];exact h i
 ·have:(v.take n).getD i 0=0:=by rw [List.getD,getElem?_eq_none (by rw [agA];lia)];rfl
  rw [this]
  exact agM _
theorem FP{n:Int}{s:List Int}(l:s.length=5):dD [0,0,0,0,0] n s=bJ s n:=by
 obtain ⟨a,b,c,d,e,rfl⟩:=nM l
 simp [dD,bJ,Int.mul_comm]
theorem Lx(e:Nat):6*(2 ^ (e+25)*(2 ^ (e+25)*2 ^ (e+25)))<2 ^ (3*e+78):=by
 rw [<- pow_add,<- pow_add,show 3*e+78=3+(e+25+(e+25+(e+25))) by lia,pow_add 2 3]
 exact Nat.mul_lt_mul_of_pos_right (by decide) (agL _)
theorem Ly{v:List Int}{c:Int}{X B:Nat}(h:bf X v)(hc:c.natAbs<=B):bf (X*B) (bJ v c):=fun i=>by
 rw [bg,agH]
 exact agw (h i) hc
theorem sy{ns:List Int}{a b:Nat}(AU:a<=b)(hb:b<=ns.length):∃ cs:List Int,iQ (ns.map V.int) (some (a:Int)) (some (b:Int))=cs.map V.int/\cs.length=b - a:=by
 refine⟨(ns.drop (min a ns.length)).take (min b ns.length - min a ns.length),?_,?_⟩
 ·unfold iQ
  rw [HT.uX,HT.uX]
  simp [map_take,List.map_drop]
 ·rw [agA,length_drop]
  lia
theorem qD{K:Frag}{H:Hp}{x C dx:Addr}{fs:List (Str×V)}{o:HO}:∀ {xs:List V} {ks:List (List Int×Int)},bx K H xs ks->H x=some (.ins C dx fs)->bx K (upd H x o) xs ks
 | _,_,.nil,_=>.nil
 | _,_,.cons h hw t,e=>.cons (vb h e) (vb hw e) (qD t e)
theorem Bg{K:Frag}{H:Hp}{x C dx:Addr}{fs:List (Str×V)}{o:HO}:∀ {xs:List V} {rs:List (List Int)},av K H xs rs->H x=some (.ins C dx fs)->av K (upd H x o) xs rs
 | _,_,.nil,_=>.nil
 | _,_,.cons h t,e=>.cons (vb h e) (Bg t e)
theorem Bh {K:Frag} {H1:Hp} {x l C dx:Addr} {a:List (Str×V)} {ys:List V} {w:List Int} (hC:nsIn K mainGlobals "Board"=some (some (.ref C))) (hx:H1 x=some (.ins C dx [])) (m:H1 l=some (.lst ys)) (kk:bx K H1 ys [(w,0)]) :
  cv K (upd (upd H1 x (.ins C dx a)) x (.ins C dx [("own_keys",.ref l),("octave",.int (w.getD 0 0))])) x l (.eO w):=by
 have ne:l≠x:=fun z=>by rw [z,hx] at m;cases m
 exact⟨C,dx,ys,hC,aw,by rw [aG ne,aG ne];exact m,qD (qD kk hx) aw⟩
theorem v8{H H1:Hp}{x C dx:Addr}{o o':HO}(nx:H x=none)(nd:H dx=none)(s:aj (upd (upd H dx (.own x)) x (.ins C dx [])) H1):aj H (upd (upd H1 x o) x o'):=fun b v e=>by
 have n1:b≠x:=fun z=>by rw [z,nx] at e;cases e
 rw [aG n1,aG n1]
 exact s _ _ (eN nx nd _ _ e)
theorem sub_one{x:List Int}(h:x.length=5):sub x [0,0,0,0,0]=x:=bF (sub_len h rfl) h fun i _=>by
 rw [bI h rfl]
 match i with
 | 0=>exact Int.sub_zero _
 | 1=>exact Int.sub_zero _
 | 2=>exact Int.sub_zero _
 | 3=>exact Int.sub_zero _
 | 4=>exact Int.sub_zero _
 | _+5=>exact Int.sub_zero _
structure jy(u:Tu)(L:List Int->Prop):Prop where
 ok:u.ok
 rl:∀ x,x.length=5->(u.rl x [0,0,0,0,0]↔L x)
 sf:∀ s,u.tab s->SF s
 len:∀ s,u.tab s->Len 5 s
 all:∀ s,u.tab s->∀ x,(Span 5 s x↔x.length=5/\L x)
theorem jy.MM{u:Tu}{L L':List Int->Prop}(h:jy u L)(e:∀ x:List Int,x.length=5->(L x↔L' x)):jy u L':=⟨h.ok,fun x hx=>(h.rl x hx).trans (e x hx),h.sf,h.len,fun s hs x=>(h.all s hs x).trans ⟨fun z=>⟨z.1,(e x z.1).mp z.2⟩,fun z=>⟨z.1,(e x z.1).mpr z.2⟩⟩⟩
theorem jy.plain:jy .plain (fun x=>x=[0,0,0,0,0]):=by
 refine⟨trivial,fun x hx=>Iff.rfl,fun s hs=>?_,fun s hs=>?_,fun s hs x=>?_⟩ <;> have e:s=[]:=hs <;> subst e
 ·exact⟨(fun _ z=>nomatch z),.nil⟩
 ·exact fun _ z=>nomatch z
 ·constructor
  ·intro h
   have:=h.none
   exact⟨by rw [this];exact aY 5,this⟩
  ·rintro ⟨_,rfl⟩
   exact Span.zero
theorem jy.comma{st ts:List (List Int)}(h:Tu.ok (.comma st))(e:Eqv 5 ts st):jy (.comma st) (fun x=>Span 5 ts x):=by
 refine⟨h,fun x hx=>?_,fun s hs=>?_,fun s hs=>?_,fun s hs x=>?_⟩
 ·show Span 5 st (sub x [0,0,0,0,0])↔_
  rw [sub_one hx]
  exact⟨e.symm.span,e.span⟩
 ·have e:s=st:=hs
  rw [e];exact h.1
 ·have e:s=st:=hs
  rw [e];exact h.2.1
 ·have e2:s=st:=hs
  rw [e2]
  exact⟨fun z=>⟨z.len h.2.1,e.symm.span z⟩,fun z=>e.span z.2⟩
theorem jy.key{ks:List (List Int×Int)}(h:Tu.ok (.key ks)):jy (.key ks) (fun x=>∀ k∈ks,VZ k.1 k.2 x):=by
 refine⟨h,fun x hx=>?_,fun s hs=>?_,fun s hs=>?_,fun s hs x=>?_⟩
 ·show (∀ k∈ks,VZ k.1 k.2 (sub x [0,0,0,0,0]))↔_
  rw [sub_one hx]
 ·have hs:Lo ks s:=hs
  exact hs.sf
 ·have hs:Lo ks s:=hs
  exact hs.len
 ·have hs:Lo ks s:=hs
  exact hs.all x
theorem jy.eO{w:List Int}(h:Tu.ok (.eO w)):jy (.eO w) (fun x=>∀ k∈[(w,(0:Int))],VZ k.1 k.2 x):=by
 refine⟨h,fun x hx=>?_,fun s hs=>?_,fun s hs=>?_,fun s hs x=>?_⟩
 ·show VZ w 0 (sub x [0,0,0,0,0])↔_
  rw [sub_one hx]
  exact⟨fun z k hk=>by rw [agj.mp hk];exact z,fun z=>z (w,0) (agj.mpr rfl)⟩
 ·have hs:Lo [(w,0)] s:=hs
  exact hs.sf
 ·have hs:Lo [(w,0)] s:=hs
  exact hs.len
 ·have hs:Lo [(w,0)] s:=hs
  exact hs.all x
theorem jy.same{u v:Tu}{L M:List Int->Prop}{s t:List (List Int)}(h:jy u L)(k:jy v M)(hs:u.tab s)(ht:v.tab t):s=t↔∀ x:List Int,x.length=5->(L x↔M x):=by
 constructor
 ·rintro rfl x hx
  have h1:=h.all s hs x
  have h2:=k.all s ht x
  exact⟨fun z=>(h2.mp (h1.mpr ⟨hx,z⟩)).2,fun z=>(h1.mp (h2.mpr ⟨hx,z⟩)).2⟩
 ·intro e
  refine SF.uniq (h.sf s hs) (k.sf t ht) (h.len s hs) (k.len t ht) ⟨fun r hr=>?_,fun r hr=>?_⟩
  ·have:=(h.all s hs r).mp (Span.mem hr)
   exact (k.all t ht r).mpr ⟨this.1,(e r this.1).mp this.2⟩
  ·have:=(k.all t ht r).mp (Span.mem hr)
   exact (h.all s hs r).mpr ⟨this.1,(e r this.1).mpr this.2⟩
theorem jy.sub{u v:Tu}{L M:List Int->Prop}{s t:List (List Int)}(h:jy u L)(k:jy v M)(hs:u.tab s)(ht:v.tab t)(e:∀ w∈s,v.rl w [0,0,0,0,0]){x:List Int}(hx:x.length=5)(hL:L x):M x:=by
 have h1:=(h.all s hs x).mpr ⟨hx,hL⟩
 have h2:Span 5 t x:=h1.of fun w hw=>(k.all t ht w).mpr ⟨h.len s hs w hw,(k.rl w (h.len s hs w hw)).mp (e w hw)⟩
 exact ((k.all t ht x).mp h2).2
theorem fX(r:List Int):SeqAt.shaped (.list (r.map PyData.int))=true:=by
 have h:=ee r
 unfold SeqAt.shaped at h ⊢
 simp only [PyData.canLay0,PyData.depth] at h ⊢
 exact h
def Ls(ss:List (List Int))(ms x:List Int):Prop:=∀ i,i<5->ms.getD i 0 ∣ dt x (ss.getD i [])
theorem Ls.sep{rs ss:List (List Int)}{ms ns:List Int}(hD:mh rs ss)(lr:rs.length=5)(hr:Len 5 rs)(ls:ss.length=5)(hs:Len 5 ss)(lm:ms.length=5)(ln:ns.length=5)(hm:∀ m∈ms,0<=m)(hn:∀ m∈ns,0<=m)(h:∀ x:List Int,x.length=5->(Ls ss ms x↔Ls ss ns x)):ms=ns:=by
 have key:∀ {as:List Int} (i j:Nat),i<5->j<5->∀ c:Int,dt (bJ (rs.getD i []) c) (ss.getD j [])=if i=j then c else 0:=fun i j hi hj c=>by
  have l1:(rs.getD i []).length=5:=cX hr (by lia)
  have l2:(ss.getD j []).length=5:=cX hs (by lia)
  have:=hD i j hi hj
  rw [mK l1 l2,cW,this]
  split <;> lia
 have half:∀ {as bs:List Int},(∀ x:List Int,x.length=5->Ls ss as x->Ls ss bs x)->∀ i,i<5->bs.getD i 0 ∣ as.getD i 0:=fun {as bs} hh i hi=>by
  have l1:(rs.getD i []).length=5:=cX hr (by lia)
  have:=hh (bJ (rs.getD i []) (as.getD i 0)) (aA l1) (fun j hj=>by
   rw [key (as:=as) i j hi hj]
   split
   ·rename_i e;subst e;exact dvd_refl _
   ·exact agI _) i hi
  rw [key (as:=as) i i hi hi,if_pos rfl] at this
  exact this
 refine bF lm ln fun i hi=>?_
 have d1:=half (fun x hx z=>(h x hx).mp z) i hi
 have d2:=half (fun x hx z=>(h x hx).mpr z) i hi
 exact Int.dvd_antisymm (hm _ (getD_mem (by lia))) (hn _ (getD_mem (by lia))) d2 d1
theorem v9{H:Hp}{lf:Addr}{ys:List V}{o:HO}(e:H lf=some (.lst ys))(hy:∀ y∈ys,∃ a,y=.ref a):∀ {xs:List V} {rs:List (List Int)},fW H xs rs->(∀ r∈rs,r.length=5)->fW (upd H lf o) xs rs
 | _,_,.nil,_=>.nil
 | _,_,.cons (a:=a) (r:=r) h t,hl=>by
  refine .cons ?_ (v9 e hy t fun q hq=>hl q (.tail _ hq))
  rw [aG]
  ·exact h
  ·rintro rfl
   rw [h] at e
   have e1:r.map V.int=ys:=by injection e with e;injection e
   match r,hl r (.head _) with
   | b::r,_ =>
    obtain ⟨c,hc⟩:=hy (.int b) (by rw [<- e1];exact .head _)
    cases hc
theorem mT{H:Hp}:∀ {xs:List V} {rs:List (List Int)} {i:Nat},fW H xs rs->i<rs.length->∃ a,xs[i]?=some (.ref a)/\H a=some (.lst ((rs.getD i []).map V.int))
 | _,_,i,.nil,h=>absurd h (agU _)
 | _,_,0,.cons h _,_=>⟨_,rfl,h⟩
 | _,_,i+1,.cons _ t,h=>by
  obtain ⟨a,h1,h2⟩:=mT t (Nat.lt_of_succ_lt_succ h)
  exact⟨a,by simpa using h1,by simpa using h2⟩
theorem sC{H:Hp}{a:Addr}{r:List Int}(h:H a=some (.lst (r.map V.int))):∀ {xs:List V} {rs:List (List Int)},fW H xs rs->fW H (xs++[.ref a]) (rs++[r])
 | _,_,.nil=>.cons h .nil
 | _,_,.cons h1 t=>.cons h1 (sC h t)
theorem yM{H:Hp}:∀ {xs:List V} {rs:List (List Int)},fW H xs rs->∀ y∈xs,∃ a,y=.ref a
 | _,_,.nil,_,z=>nomatch z
 | _,_,.cons _ t,y,hy=>by
  rcases agq.mp hy with z|z
  ·exact⟨_,z⟩
  ·exact yM t y z
theorem sD{H H':Hp}(s:aj H H'):∀ {xs:List V} {rs:List (List Int)},fW H xs rs->fW H' xs rs
 | _,_,.nil=>.nil
 | _,_,.cons h t=>.cons (s _ _ h) (sD s t)
theorem Bi{H:Hp}:∀ {xs:List V} {rs:List (List Int)},fW H xs rs->rs.length=xs.length
 | _,_,.nil=>rfl
 | _,_,.cons _ t=>by simp [Bi t]
theorem qE {K:Frag} {H1:Hp} {x l C dx:Addr} {o:List (Str×V)} {ys:List V} {st:List (List Int)} (hC:nsIn K mainGlobals "CommaTuning"=some (some (.ref C))) (hx:H1 x=some (.ins C dx o)) (m:H1 l=some (.lst ys)) (r:av K H1 ys st):cv K (upd H1 x (.ins C dx [("steps",.ref l)])) x l (.comma st):=by
 have ne:l≠x:=fun z=>by rw [z,hx] at m;cases m
 exact⟨C,dx,ys,hC,aw,by rw [aG ne];exact m,Bg r hx⟩
theorem zE {K:Frag} {H1:Hp} {x l C dx:Addr} {o:List (Str×V)} {ys:List V} {ks:List (List Int×Int)} (hC:nsIn K mainGlobals "KeyTuning"=some (some (.ref C))) (hx:H1 x=some (.ins C dx o)) (m:H1 l=some (.lst ys)) (r:bx K H1 ys ks):cv K (upd H1 x (.ins C dx [("own_keys",.ref l)])) x l (.key ks):=by
 have ne:l≠x:=fun z=>by rw [z,hx] at m;cases m
 exact⟨C,dx,ys,hC,aw,by rw [aG ne];exact m,qD r hx⟩
theorem IP{ss:List (List Int)}(rs:List (List Int))(hD:mh rs ss)(hR:DR rs ss)(lr:rs.length=5)(ls:ss.length=5)(hr:Len 5 rs)(hs:Len 5 ss)(x:List Int)(hx:x.length=5):x=[0,0,0,0,0]↔Ls ss [0,0,0,0,0] x:=by
 have h:=vO (ms:=[0,0,0,0,0]) hD hR lr ls hr hs x
 have e:Eqv 5 (gens [0,0,0,0,0] rs) []:=⟨fun r ua=>by
  obtain ⟨i,hi,rfl⟩:=agr.mp ua
  have OO:=agy.mp hi
  have:bJ (rs.getD i []) (List.getD [0,0,0,0,0] i 0)=jx 5:=bF (aA (cX hr (by lia))) (aY 5) fun j _=>by
   have e0:List.getD [(0:Int),0,0,0,0] i 0=0:=by
    rcases (show i=0\/i=1\/i=2\/i=3\/i=4 by lia) with rfl|rfl|rfl|rfl|rfl <;> rfl
   rw [bg,e0,mul_zero,bU]
  rw [this]
  exact Span.zero,fun _ z=>nomatch z⟩
 constructor
 ·rintro rfl
  exact (h.mp (e.symm.span Span.zero)).2
 ·intro z
  exact (e.span (h.mpr ⟨hx,z⟩)).none
theorem yN(a b:Bool):PyData.eqv (.bool a) (.bool b)=(a == b):=by cases a <;> cases b <;> decide +kernel
structure VW(K:Frag)(H:Hp)(a t la lb lz:Addr)(cs:List Int)(xs ys zs:List V)(rs ss jA:List (List Int)):Prop where
 a:aW K H a (cs.map V.int)
 t:aZ K H t [.ref la,.ref lb]
 la:H la=some (.lst xs)
 ra:av K H xs rs
 lb:H lb=some (.lst ys)
 rb:av K H ys ss
 lz:H lz=some (.lst zs)
 hz:fW H zs jA
theorem VW.keep{K:Frag}{H H':Hp}{a t la lb lz:Addr}{cs:List Int}{xs ys zs:List V}{rs ss jA:List (List Int)}(g:VW K H a t la lb lz cs xs ys zs rs ss jA)(sm:jd K H H')(hT:bH K H):VW K H' a t la lb lz cs xs ys zs rs ss jA :=
 ⟨sm.seq hT g.a,sm.at hT g.t,sm.lst hT g.la,g.ra.eU sm hT,sm.lst hT g.lb,g.rb.eU sm hT,sm.lst hT g.lz,g.hz.eU sm hT⟩
def CY(K:Frag)(H:Hp)(lt:Addr)(ts:List V)(n:Nat)(ss jA:List (List Int)):Prop:=ts.length=n/\∀ i,i<n->∃ (x l:Addr) (u:Tu),ts[i]?=some (.ref x)/\l≠lt/\cv K H x l u/\jy u (Ls ss (jA.getD i []))
theorem CY.keep{K:Frag}{H H':Hp}{lt:Addr}{ts:List V}{n:Nat}{ss jA:List (List Int)}(g:CY K H lt ts n ss jA)(sm:jd K H H')(hT:bH K H):CY K H' lt ts n ss jA :=
 ⟨g.1,fun i hi=>by
  obtain ⟨x,l,u,h1,h2,h3,h4⟩:=g.2 i hi
  exact⟨x,l,u,h1,h2,h3.keep hT sm,h4⟩⟩
theorem CY.snoc{K:Frag}{H:Hp}{lt x l:Addr}{u:Tu}{ts zs:List V}{n:Nat}{ss jA:List (List Int)}(g:CY K H lt ts n ss jA)(e:H lt=some (.lst zs))(ne:l≠lt)(hu:cv K H x l u)(hr:jy u (Ls ss (jA.getD n []))):CY K (upd H lt (.lst (ts++[.ref x]))) lt (ts++[.ref x]) (n+1) ss jA:=by
 refine⟨by rw [agn,ago,g.1],fun i hi=>?_⟩
 by_cases c:i<n
 ·obtain ⟨y,m,v,h1,h2,h3,h4⟩:=g.2 i c
  exact⟨y,m,v,by rw [af3 (by rw [g.1];exact c)];exact h1,h2,h3.off e h2,h4⟩
 ·obtain rfl:i=n:=by lia
  exact⟨x,l,u,by rw [af4 (by rw [g.1];exact af1 _),g.1,Nat.sub_self];rfl,ne,hu.off e ne,hr⟩
theorem sE{P:Addr}{lp:Pos}{q:Str}{K:Frag}{H H':Hp}(s:bc P H H')(t:fI P lp q H):∀ {xs:List V} {ps:List (Nat×List Int)},yL K H xs ps->yL K H' xs ps
 | _,_,.nil=>.nil
 | _,_,.cons h hw tl=>.cons (s.at t h) (s.at t hw) (sE s t tl)
theorem IQ{σ:St}{H:Hp}{Q:VK}{c:Bool}{v:V}{t1:TE}(P:V->Hp->Prop)(h1:c=true->∀ Q':VK,(∀ v H',P v H'->Q' v H')->t1 σ H Q')(h2:c=false->P v H)(h3:∀ v H',P v H'->Q v H'):if c=true then t1 σ H Q else Q v H:=by
 cases c with
 | true=>exact h1 rfl Q h3
 | false=>exact h3 _ _ (h2 rfl)
def GL(P:Prop):Bool:=@decide P (Classical.propDecidable P)
theorem vc{P:Prop}:GL P=true↔P:=@decide_eq_true_iff P (Classical.propDecidable P)
theorem FQ:b7.gs 33488 5=8137947:=rfl
theorem Et{rs ts:List (List Int)}{n:Nat}(hn:n=rs.length):(((List.range n).map fun i=>GL (Span 5 ts (rs.getD i []))).all id=true)↔∀ r∈rs,Span 5 ts r:=by
 subst hn
 rw [all_eq_true]
 constructor
 ·intro h r hr
  obtain ⟨i,hi,rfl⟩:=agS hr
  have:=h _ (agr.mpr ⟨i,agy.mpr hi,rfl⟩)
  rw [id,vc,List.getD,agg hi] at this
  exact this
 ·intro h b hb
  obtain ⟨i,hi,rfl⟩:=agr.mp hb
  rw [id,vc]
  refine h _ ?_
  rw [List.getD,agg (agy.mp hi)]
  exact agR _
theorem CZ{xs:List V}{n:Nat}:iQ xs none (some (n:Int))=xs.take n:=nQ
theorem sF{K:Frag}{H:Hp}:∀ {xs:List V} {rs:List (List Int)} (n:Nat),av K H xs rs->av K H (xs.take n) (rs.take n)
 | _,_,0,_=>.nil
 | _,_,_+1,.nil=>.nil
 | _,_,n+1,.cons h t=>.cons h (sF n t)
theorem yO{K:Frag}{H:Hp}:∀ {xs:List V} {rs:List (List Int×Int)} (n:Nat),bx K H xs rs->bx K H (xs.take n) (rs.take n)
 | _,_,0,_=>.nil
 | _,_,_+1,.nil=>.nil
 | _,_,n+1,.cons h hw t=>.cons h hw (yO n t)
theorem ll6{n:Nat}(h:n<=6):ll n<=33488:=af0 (IM h) (le_of_eq rfl)
theorem Lz{c m:Int}(h:0<=m)(h9:m<=9999):(gu c m).natAbs<=9999:=af0 (IJ h) (by lia)
theorem Th{rs:List (List Int)}(h:Len 5 rs):rs.flatten.length=5*rs.length:=by
 induction rs with
 | nil=>rfl
 | cons r rs ih =>
  rw [List.flatten_cons,agn,ih fun q hq=>h q (.tail _ hq),h r (.head _),length_cons]
  lia
theorem FR{rs:List (List Int)}(h:∀ z∈rs.flatten,z.natAbs<10 ^ 25):∀ v∈rs,bf (2 ^ 84) v:=fun v hv=>mS fun z hz=>af0 (af2 (h z (List.mem_flatten.mpr ⟨v,hv,hz⟩))) (by decide)
structure kY where
 qF:Addr
 km:Addr
 dJ:Addr
 aK:Addr
 aV:Addr
 bX:Addr
 gv:Addr
 dy:Addr
 dM:Addr
 cK:Addr
 dY:Addr
 cz:Addr
 cL:Addr
 eQ:Addr
 cj:Addr
 gw:Addr
 ic:Addr
 ie:Tok
 jH:Tok
 vd:Tok
 oj:Addr
structure Txt(K:Frag)(mg:Str->Option Value)(G:kY):Prop where
 Bj:mg "abs"=none
 Eu:mg "all"=none
 IS:mg "bool"=none
 Bk:mg "enumerate"=none
 Ew:mg "int"=none
 iT:mg "isinstance"=none
 jI:mg "len"=none
 mU:mg "list"=none
 MN:mg "max"=none
 Ti:mg "min"=none
 cY:mg "range"=none
 IT:mg "sorted"=none
 IU:mg "sum"=none
 gy:mg "tuple"=none
 Bl:mg "zip"=none
 Bm:mg "ONE"=some (.ref G.qF)
 aI:Ec K G.qF [.int 0,.int 0,.int 0,.int 0,.int 0]
 xx:mg "MOST_COMMAS"=some (.int 6 G.ie)
 Bo:mg "MOST_KEYS"=some (.int 6 G.jH)
 jJ:mg "WIDTH"=some (.int 5 G.vd)
 FT:mg "NoBoard"=some (.ref G.km)
 FU:nsIn K mainGlobals "NoBoard"=some (some (.ref G.km))
 Qs:KU K G.km
 kr:KP K G.km
 FV:excIn K G.km [.type "ValueError",.type "Exception",.type "BaseException",.type "object"] "ValueError.__new__"=true
 Bp:mg "Tuning"=some (.ref G.dJ)
 je:nsIn K mainGlobals "Tuning"=some (some (.ref G.dJ))
 bj:yj K G.dJ
 yP:XT K G.dJ
 Tj:Lj K G.dJ
 mV:Meth K G.dJ "sound" G.gv
 wb:Meth K G.dJ "alike" G.dy
 gA:Meth K G.dJ "table_of" G.dM
 jV:mg "CommaTuning"=some (.ref G.aK)
 bB:nsIn K mainGlobals "CommaTuning"=some (some (.ref G.aK))
 aE:yj K G.aK
 jW:Mk K G.aK G.cK
 JU:Lj K G.aK
 iO:Meth K G.aK "sound" G.dY
 nU:Meth K G.aK "alike" G.dy
 eE:Meth K G.aK "table_of" G.cz
 au:gd K G.aK "steps"
 mW:mg "KeyTuning"=some (.ref G.aV)
 bO:nsIn K mainGlobals "KeyTuning"=some (some (.ref G.aV))
 aO:yj K G.aV
 ue:Mk K G.aV G.cL
 MO:Lj K G.aV
 jK:Meth K G.aV "sound" G.eQ
 qG:Meth K G.aV "alike" G.dy
 fe:Meth K G.aV "table_of" G.cj
 sG:S9 K G.aV "__init__" G.cL
 ao:gd K G.aV "own_keys"
 Ex:mg "Board"=some (.ref G.bX)
 eR:nsIn K mainGlobals "Board"=some (some (.ref G.bX))
 bC:yj K G.bX
 Ey:Mk K G.bX G.gw
 VX:Lj K G.bX
 om:Meth K G.bX "sound" G.ic
 xy:Meth K G.bX "alike" G.dy
 gT:Meth K G.bX "table_of" G.cj
 aB:gd K G.bX "own_keys"
 aF:gd K G.bX "octave"
def zF(K:Frag):Sp:=fun vs H Q _=>∃ (a b:Addr) (r q:List Int),vs=[.ref a,.ref b]/\aZ K H a (r.map V.int)/\aZ K H b (q.map V.int)/\r.length=q.length/\r.length<=1000/\∀ p H',aj H H'->H' p=some (.tup ((sub r q).map V.int))->Q (.ref p) H'
def qH(K:Frag):Sp:=fun vs H Q _=>∃ (a:Addr) (r:List Int) (n:Int),vs=[.ref a,.int n]/\aZ K H a (r.map V.int)/\r.length<=1000/\(∀ x∈r,kl x n)/\∀ p H',aj H H'->H' p=some (.tup ((bJ r n).map V.int))->Q (.ref p) H'
def gB(K:Frag):Sp:=fun vs H Q _=>∃ (l:Addr) (ys:List V),vs=[.ref l]/\aW K H l ys/\ys.length<=6/\Q (.ref l) H
def zG(K:Frag):Sp:=fun vs H Q _=>∃ (p n:Nat),vs=[.int p,.int n]/\n<=1000/\∀ a H',aj H H'->H' a=some (.tup ((bW p n).map V.int))->Q (.ref a) H'
def jX(K:Frag):Sp:=fun vs H Q _=>∃ (a:Addr) (r:List Int) (k:Nat),vs=[.ref a]/\aZ K H a (r.map V.int)/\r.length<=1000/\Led r k/\∀ H',aj H H'->Q (.int k) H'
def jf(K:Frag):Sp:=fun vs H Q _=>∃ (a b:Addr) (p n M k:Nat) (v s:List Int),vs=[.ref a,.ref b,.int p]/\aZ K H a (v.map V.int)/\aZ K H b (s.map V.int)/\v.length=n/\s.length=n/\n<=1000/\p<n/\s.getD p 0≠0/\bf M v/\bf M s/\M<2 ^ k/\k<=60000000/\∀ p' H',aj H H'->H' p'=some (.tup ((b8 p s v).map V.int))->Q (.ref p') H'
def sI(K:Frag):Sp:=fun vs H Q _=>∃ (l:Addr) (p n M A k:Nat) (xs:List V) (rs:List (List Int)),vs=[.ref l,.int p]/\aW K H l xs/\av K H xs rs/\rs.length<64/\Len n rs/\n<=1000/\p<n/\(∀ v∈rs,bf M v)/\(∀ v∈rs,at' p v<=A)/\0<A/\6*(M*(A*A))<2 ^ k/\k<=60000000/\bH K H/\∀ t l1 l2 H' ys zs led os,jd K H H'->bH K H'->aZ K H' t [.ref l1,.ref l2]->aW K H' l1 ys->av K H' ys led->aW K H' l2 zs->av K H' zs os->led.length<=1->(∀ v∈led,0<v.getD p 0)->(∀ v∈os,v.getD p 0=0)->(∀ v∈led++os,v.length=n)->(∀ v∈led++os,bf (6*(M*(A*A))) v)->Eqv n rs (led++os)->led.length+os.length<=rs.length->(∀ v∈led,at' p v<=A)->Q (.ref t) H'
def jg(K:Frag):Sp:=fun vs H Q _=>∃ (l:Addr) (w n b:Nat) (xs:List V) (rs:List (List Int)),vs=[.ref l,.int w]/\aW K H l xs/\av K H xs rs/\rs.length<64/\Len n rs/\n<=1000/\w<=n/\(∀ v∈rs,bf (2 ^ b) v)/\(∀ i,i<w->b7.ss b (i+1)<60000000)/\bH K H/\∀ l' H' ys st lf,H l'=none->jd K H H'->bH K H'->H' l'=some (.lst ys)->av K H' ys st->SJ n w b rs w st lf->Q (.ref l') H'
def wc(K:Frag):Sp:=fun vs H Q _=>∃ (l:Addr) (b:Nat) (xs:List V) (rs:List (List Int)),vs=[.ref l]/\aW K H l xs/\av K H xs rs/\rs.length<=6/\Len 5 rs/\(∀ v∈rs,bf (2 ^ b) v)/\b<=109/\bH K H/\∀ l' H' ys st,H l'=none->jd K H H'->bH K H'->H' l'=some (.lst ys)->av K H' ys st->SF st->Eqv 5 rs st->Len 5 st->st.length<=5->(∀ v∈st,bf (2 ^ b7.ss b 5) v)->(∀ v∈st,∀ k,Led v k->(v.getD k 0).natAbs<=2 ^ b7.gs b (4 - k))->Q (.ref l') H'
def oV(K:Frag):Sp:=fun vs H Q _=>∃ (l a:Addr) (n B C:Nat) (xs:List V) (st:List (List Int)) (u:List Int),vs=[.ref l,.ref a]/\aW K H l xs/\av K H xs st/\aZ K H a (u.map V.int)/\u.length=n/\5<=n/\n<=100/\Len n st/\st.length<=5/\SF (st.map (List.take 5))/\(∀ r∈st,bf (2 ^ B) r)/\bf (2 ^ C) u/\C+6*B<50000000/\∀ p H' v,aj H H'->aZ K H' p (v.map V.int)->LB n 5 st st.length u v->bf (2 ^ (C+(B+1)*5)) v->Q (.ref p) H'
def qI(K:Frag):Sp:=fun vs H Q _=>∃ (w r:Addr) (kk:Bool) (ws rs:List Int),vs=[.ref w,.ref r]/\Sq kk K H w (ws.map V.int)/\aZ K H r (rs.map V.int)/\ws.length<=rs.length/\rs.length<=1000/\(∀ i,i<ws.length->i7 (rs.getD i 0) (ws.getD i 0))/\∀ H',aj H H'->Q (.int (dt rs ws)) H'
def qJ(K:Frag):Sp:=fun vs H Q _=>∃ (kk w r:Addr) (m:Int) (ws rs:List Int),vs=[.ref kk,.ref r]/\aZ K H kk [.ref w,.int m]/\aZ K H w (ws.map V.int)/\aZ K H r (rs.map V.int)/\rs.length=ws.length/\rs.length<=1000/\(∀ i,i<rs.length->i7 (rs.getD i 0) (ws.getD i 0))/\0<=m/\∀ H',aj H H'->Q (.int (val ws m rs)) H'
def eH(K:Frag):Sp:=fun vs H Q _=>∃ (l:Addr) (xs:List V) (ks:List (List Int×Int)),vs=[.ref l]/\aW K H l xs/\bx K H xs ks/\ks.length<=6/\(∀ k∈ks,k.2=0\/2<=k.2)/\Q (.ref l) H
def nS(K:Frag):Sp:=fun vs H Q _=>∃ (l a:Addr) (xs:List V) (ks:List (List Int×Int)) (row:List Int),vs=[.ref l,.ref a]/\aW K H l xs/\bx K H xs ks/\ks.length<=6/\(∀ k∈ks,k.2=0\/2<=k.2)/\(∀ k∈ks,k.1.length=5/\Ar 1000 k.1)/\aZ K H a (row.map V.int)/\row.length=5/\Ar 100000 row/\∀ p H',aj H H'->aZ K H' p ((ks.map fun k=>val k.1 k.2 row).map V.int)->Q (.ref p) H'
def jY(K:Frag):Sp:=fun vs H Q _=>∃ (l kt wa:Addr) (b:Nat) (m:Int) (xs:List V) (st:List (List Int)) (ws:List Int),vs=[.ref l,.ref kt]/\aW K H l xs/\av K H xs st/\Len 5 st/\st.length<=5/\(∀ v∈st,bf (2 ^ b) v)/\aZ K H kt [.ref wa,.int m]/\aZ K H wa (ws.map V.int)/\ws.length=5/\0<=m/\Ar 400000 ws/\(∀ v∈st,(val ws m v).natAbs<=2 ^ b)/\m.natAbs<=2 ^ b/\b<=50000/\bH K H/\∀ l' H' ys j8,H l'=none->jd K H H'->bH K H'->H' l'=some (.lst ys)->av K H' ys j8->gM st ws m j8->j8.length<=5->Q (.ref l') H'
def zH(K:Frag):Sp:=fun vs H Q _=>∃ (l:Addr) (W:Nat) (xs:List V) (ks:List (List Int×Int)),vs=[.ref l]/\aW K H l xs/\bx K H xs ks/\ks.length<=6/\(∀ k∈ks,k.2=0\/2<=k.2)/\(∀ k∈ks,k.1.length=5/\bf (2 ^ W) k.1/\k.2.natAbs<=2 ^ W)/\W<=190/\bH K H/\∀ l' H' ys st,H l'=none->jd K H H'->bH K H'->H' l'=some (.lst ys)->av K H' ys st->Lo ks st->st.length<=5->(∀ r∈st,bf (2 ^ b7.lb W ks.length) r)->Q (.ref l') H'
def fg(K:Frag):Sp:=fun vs H Q _=>∃ (x y l m:Addr) (u v:Tu),vs=[.ref x,.ref y]/\cv K H x l u/\u.ok/\cv K H y m v/\v.ok/\bH K H/\∀ (b:Bool) (H':Hp) (s t:List (List Int)),jd K H H'->bH K H'->u.tab s->v.tab t->(b=true↔s=t)->Q (.bl b) H'
def gU(K:Frag):Sp:=fun vs H Q _=>∃ (x y l m:Addr) (u v:Tu),vs=[.ref x,.ref y]/\cv K H x l u/\u.ok/\cv K H y m v/\v.ok/\bH K H/\∀ (z:V) (H':Hp) (s:List (List Int)),jd K H H'->bH K H'->u.tab s->((z=.fw/\∀ w∈s,v.rl w [0,0,0,0,0])\/∃ (p:Addr) (w:List Int),z=.ref p/\w∈s/\w.length=5/\bf (2 ^ 20000) w/\aZ K H' p (w.map V.int)/\¬ v.rl w [0,0,0,0,0])->Q z H'
def mY(K:Frag):Sp:=fun vs H Q _=>∃ (x y l m:Addr) (u v:Tu),vs=[.ref x,.ref y]/\cv K H x l u/\u.ok/\cv K H y m v/\v.ok/\bH K H/\(∃ t0,v.tab t0)/\∀ (z:V) (H':Hp) (s t:List (List Int)),jd K H H'->bH K H'->u.tab s->v.tab t->((z=.fw/\(∀ w∈s,v.rl w [0,0,0,0,0])/\∀ w∈t,u.rl w [0,0,0,0,0])\/∃ (p:Addr) (w:List Int),z=.ref p/\w.length=5/\bf (2 ^ 20000) w/\aZ K H' p (w.map V.int)/\((w∈s/\¬ v.rl w [0,0,0,0,0])\/((∀ q∈s,v.rl q [0,0,0,0,0])/\w∈t/\¬ u.rl w [0,0,0,0,0])))->Q z H'
def kZ(K:Frag):Sp:=fun vs H Q _=>∃ (a:Addr) (ns:List Int),vs=[.ref a]/\aW K H a (ns.map V.int)/\∀ (l:Addr) (H':Hp) (cs:List Int),H l=none->aj H H'->H' l=some (.lst (cs.map V.int))->cs.length=63->Q (.ref l) H'
def jL(K:Frag):Sp:=fun vs H Q _=>∃ (c m:Int),vs=[.int c,.int m]/\(0<=m/\m<=100000)/\Q (.int (gu c m)) H
def df(K:Frag):Sp:=fun vs H Q _=>∃ (a b:Addr) (n:Int) (r q:List Int),vs=[.ref a,.int n,.ref b]/\aZ K H a (r.map V.int)/\aZ K H b (q.map V.int)/\r.length<=q.length/\r.length<=1000/\(∀ y∈q,Bd n y)/\∀ p H',aj H H'->aZ K H' p ((dD r n (q.take r.length)).map V.int)->Q (.ref p) H'
def fE(K:Frag):Sp:=fun vs H Q _=>∃ (l:Addr) (p n M A k:Nat) (xs:List V) (rs:List (List Int)),vs=[.ref l,.int (p:Int)]/\aW K H l xs/\av K H xs rs/\rs.length<64/\Len n rs/\n<=1000/\p<n/\(∀ v∈rs,bf M v)/\(∀ v∈rs,at' p v<=A)/\0<A/\6*(M*(A*A))<2 ^ k/\k<=60000000/\(∀ (t l2:Addr) (H':Hp) (zs:List V) (os:List (List Int)),aj H H'->aZ K H' t [.fw,.ref l2]->H l2=none->H' l2=some (.lst zs)->av K H' zs os->(∀ v∈os,v.getD p 0=0)->(∀ v∈os,v.length=n)->(∀ v∈os,bf (6*(M*(A*A))) v)->Eqv n rs (os)->os.length<=rs.length->Q (.ref t) H')/\∀ (t a l2:Addr) (H':Hp) (zs:List V) (os:List (List Int)) (s:List Int),aj H H'->aZ K H' t [.ref a,.ref l2]->aZ K H' a (s.map V.int)->H l2=none->H' l2=some (.lst zs)->av K H' zs os->s.getD p 0≠0->at' p s<=A->(∀ v∈os,v.getD p 0=0)->(∀ v∈s::os,v.length=n)->(∀ v∈s::os,bf (6*(M*(A*A))) v)->Eqv n rs (s::os)->os.length+1<=rs.length->Q (.ref t) H'
def lB(K:Frag):Sp:=fun vs H Q _=>∃ (l:Addr) (b:Nat) (xs:List V) (rs:List (List Int)),vs=[.ref l]/\aW K H l xs/\av K H xs rs/\rs.length<64/\Len 5 rs/\(∀ v∈rs,bf (2 ^ b) v)/\b7.gs b 5<=60000000/\∀ (l':Addr) (H':Hp) (ys:List V) (ps:List (Nat×List Int)),H l'=none->aj H H'->H' l'=some (.lst ys)->yL K H' ys ps->IL ps->ps.length<=5->Eqv 5 rs (ps.map Prod.snd)->(∀ p∈ps,bf (2 ^ b7.gs b 5) p.2)->Q (.ref l') H'
def jh(K:Frag):Sp:=fun vs H Q _=>∃ (l a:Addr) (B C:Nat) (xs:List V) (ps:List (Nat×List Int)) (v:List Int),vs=[.ref l,.ref a]/\aW K H l xs/\yL K H xs ps/\IL ps/\ps.length<=5/\(∀ p∈ps,bf (2 ^ B) p.2)/\aZ K H a (v.map V.int)/\v.length=5/\bf (2 ^ C) v/\C+6*(B+1)<=60000000/\∀ (b:Bool) (H':Hp),aj H H'->(b=true↔Span 5 (ps.map Prod.snd) v)->Q (.bl b) H'
def ji(K:Frag):Sp:=fun vs H Q _=>∃ x y:Int,vs=[.int x,.int y]/\Q (.int (Int.gcd x y:Nat)) H
def mZ(K:Frag):Sp:=fun vs H Q _=>∃ (l:Addr) (xs:List V) (ks:List (List Int×Int)),vs=[.ref l]/\aW K H l xs/\bx K H xs ks/\ks.length<=6/\(∀ k∈ks,k.1.length=5/\bf (2 ^ 22) k.1/\0<=k.2/\k.2<=16384)/\∀ (l':Addr) (H':Hp) (ys:List V) (st:List (List Int)),H l'=none->aj H H'->H' l'=some (.lst ys)->av K H' ys st->GK ks st->Q (.ref l') H'
def ng(K:Frag):Sp:=fun vs H Q _=>∃ (a:Addr) (cs:List Int),vs=[.ref a]/\aW K H a (cs.map V.int)/\cs.length<=6/\∀ t l1 l2 H' xs ys rs ss,aj H H'->aZ K H' t [.ref l1,.ref l2]->H' l1=some (.lst xs)->av K H' xs rs->H' l2=some (.lst ys)->av K H' ys ss->rs.length=5->ss.length=5->Len 5 rs->Len 5 ss->mh rs ss->DR rs ss->(∀ v∈rs,bf 729 v)->(∀ v∈ss,bf 729 v)->Q (.ref t) H'
def lC(K:Frag):Sp:=fun vs H Q _=>∃ (a:Addr) (cs:List Int),vs=[.ref a]/\aW K H a (cs.map V.int)/\cs.length=5/\∀ l H' ms,aj H H'->H l=none->H' l=some (.lst (List.map V.int ms))->ms.length=5->(∀ m∈ms,0<=m/\m<=12)->Q (.ref l) H'
def lD(K:Frag):Sp:=fun vs H Q _=>∃ (l b:Addr) (M:Nat) (xs:List V) (rs:List (List Int)) (cs:List Int),vs=[.ref l,.ref b]/\aW K H l xs/\av K H xs rs/\rs.length<=5/\Len 5 rs/\(∀ v∈rs,bf M v)/\aW K H b (cs.map V.int)/\cs.length<=3/\∀ l' H' ys ts,aj H H'->H l'=none->H' l'=some (.lst ys)->av K H' ys ts->Eqv 5 rs ts->Len 5 ts->ts.length<=6->(∀ v∈ts,bf (M*216) v)->Q (.ref l') H'
def jZ(K:Frag):Sp:=fun vs H Q _=>∃ (a l b:Addr) (ms:List Int) (xs:List V) (rs:List (List Int)) (cs:List Int),vs=[.ref a,.ref l,.ref b]/\aW K H a (ms.map V.int)/\ms.length=5/\(∀ m∈ms,0<=m/\m<=96)/\aW K H l xs/\av K H xs rs/\rs.length=5/\Len 5 rs/\(∀ v∈rs,bf 729 v)/\aW K H b (cs.map V.int)/\cs.length<=3/\∀ l' H' ys ts,aj H H'->H l'=none->H' l'=some (.lst ys)->av K H' ys ts->Eqv 5 (gens ms rs) ts->Len 5 ts->ts.length<=6->(∀ v∈ts,bf (2 ^ 24) v)->Q (.ref l') H'
def gC(K:Frag):Sp:=fun vs H Q _=>∃ (l b:Addr) (M:Nat) (xs:List V) (ks:List (List Int×Int)) (cs:List Int),vs=[.ref l,.ref b]/\aW K H l xs/\bx K H xs ks/\ks.length<=5/\(∀ k∈ks,k.1.length=5/\bf M k.1/\(k.2=0\/2<=k.2)/\k.2<=12)/\12<=M/\aW K H b (cs.map V.int)/\cs.length<=3/\∀ l' H' ys qs,aj H H'->H l'=none->H' l'=some (.lst ys)->bx K H' ys qs->KE ks qs->qs.length<=6->(∀ k∈qs,k.1.length=5/\bf (M*27) k.1/\(k.2=0\/2<=k.2)/\k.2<=12)->Q (.ref l') H'
def nh(K:Frag):Sp:=fun vs H Q _=>∃ (a l b:Addr) (ms:List Int) (xs:List V) (rs:List (List Int)) (cs:List Int),vs=[.ref a,.ref l,.ref b]/\aW K H a (ms.map V.int)/\ms.length=5/\(∀ m∈ms,0<=m/\m<=12)/\aW K H l xs/\av K H xs rs/\rs.length=5/\Len 5 rs/\(∀ v∈rs,bf 729 v)/\aW K H b (cs.map V.int)/\cs.length<=3/\∀ l' H' ys qs,aj H H'->H l'=none->H' l'=some (.lst ys)->bx K H' ys qs->(∀ x:List Int,x.length=5->((∀ k∈qs,VZ k.1 k.2 x)↔∀ i,i<5->ms.getD i 0 ∣ dt x (rs.getD i [])))->qs.length<=6->(∀ k∈qs,k.1.length=5/\bf (2 ^ 15) k.1/\(k.2=0\/2<=k.2)/\k.2<=12)->Q (.ref l') H'
def ig(K:Frag):Sp:=fun vs H Q _=>∃ (a:Addr) (r:List Int),vs=[.ref a]/\aZ K H a (r.map V.int)/\r.length=5/\∀ H',aj H H'->Q (.bl true) H'
def lE(K:Frag):Sp:=fun vs H Q _=>∃ (kt w a:Addr) (m:Int) (ws row:List Int),vs=[.ref kt,.ref a]/\aZ K H kt [.ref w,.int m]/\aZ K H w (ws.map V.int)/\aZ K H a (row.map V.int)/\ws.length=5/\row.length=5/\(m=0\/2<=m)/\Ar 400000 ws/\Ar 100000 row/\∀ H',aj H H'->Q (.int (val ws m row)) H'
def ni(K:Frag):Sp:=fun vs H Q _=>∃ (a b:Addr) (ms ps:List Int),vs=[.ref a,.ref b]/\aW K H a (ms.map V.int)/\ms.length=5/\(∀ m∈ms,0<=m/\m<=12)/\aW K H b (ps.map V.int)/\ps.length=5/\∀ (t:Bool) (H':Hp),aj H H'->(t=true↔∀ i,i<5->ms.getD i 0 ∣ ps.getD i 0)->Q (.bl t) H'
def gW(K:Frag):Sp:=fun vs H Q _=>∃ (a:Addr) (cs:List Int) (n:Nat),vs=[.ref a,.int (n:Int)]/\aW K H a (cs.map V.int)/\cs.length=63/\(1<=n/\n<=4)/\∀ (l':Addr) (H':Hp) (xs:List V) (jA:List (List Int)),H l'=none->aj H H'->H' l'=some (.lst xs)->fW H' xs jA->jA.length=n->(∀ ms∈jA,ms.length=5/\∀ m∈ms,0<=m/\m<=12)->Q (.ref l') H'
def j0(K:Frag):Sp:=fun vs H Q _=>∃ (a t la lb b:Addr) (c:Int) (ms cs:List Int) (xs ys:List V) (rs ss:List (List Int)),vs=[.ref a,.ref t,.int c,.ref b]/\aW K H a (ms.map V.int)/\ms.length=5/\(∀ m∈ms,0<=m/\m<=12)/\aZ K H t [.ref la,.ref lb]/\H la=some (.lst xs)/\av K H xs rs/\H lb=some (.lst ys)/\av K H ys ss/\rs.length=5/\ss.length=5/\Len 5 rs/\Len 5 ss/\mh rs ss/\DR rs ss/\(∀ v∈rs,bf 729 v)/\(∀ v∈ss,bf 729 v)/\aW K H b (cs.map V.int)/\cs.length<=3/\bH K H/\∀ (x l:Addr) (H':Hp) (u:Tu),jd K H H'->bH K H'->H x=none->H l=none->cv K H' x l u->jy u (Ls ss ms)->Q (.ref x) H'
def iU(K:Frag):Sp:=fun vs H Q _=>∃ (b c:Bool),vs=[.bl b,.bl c]/\Q (.bl (decide (b=c))) H
def gD(K:Frag):Sp:=fun vs H Q _=>∃ (x y l m a b c:Addr) (u v:Tu) (ms ns:List Int) (ys:List V) (ss:List (List Int)),vs=[.ref x,.ref y,.ref a,.ref b,.ref c]/\cv K H x l u/\jy u (Ls ss ms)/\cv K H y m v/\jy v (Ls ss ns)/\aW K H a (ms.map V.int)/\aW K H b (ns.map V.int)/\ms.length=5/\ns.length=5/\(∀ z∈ms,0<=z/\z<=12)/\(∀ z∈ns,0<=z/\z<=12)/\aW K H c ys/\av K H ys ss/\ss.length=5/\Len 5 ss/\(∀ w∈ss,bf 729 w)/\((∀ x:List Int,x.length=5->(Ls ss ms x↔Ls ss ns x))->ms=ns)/\bH K H/\∀ H',jd K H H'->bH K H'->Q (.bl true) H'
def gE(K:Frag):Sp:=fun vs H Q _=>∃ (a:Addr) (cs:List Int),vs=[.ref a]/\aW K H a (cs.map V.int)/\cs.length=63/\bH K H/\∀ H',Q (.bl true) H'
def oW(K:Frag):Sp:=fun vs H Q _=>∃ (c m:Int),vs=[.int c,.int m]/\(0<=m/\m<=100000)/\∀ p H',aj H H'->H' p=some (.tup [.int (gu c m),.int (gu ((c+m) / (2*m+1)) m)])->Q (.ref p) H'
def oX(K:Frag):Sp:=fun vs H Q _=>∃ (a:Addr) (hd:Int) (cs:List Int),vs=[.ref a,.int hd]/\aW K H a (cs.map V.int)/\cs.length=18/\bH K H/\∀ (p x l lr:Addr) (H':Hp) (u:Tu) (ys:List V) (rs:List (List Int)),jd K H H'->bH K H'->aZ K H' p [.ref x,.ref lr]->cv K H' x l u->H' lr=some (.lst ys)->av K H' ys rs->rs.length<=6->Len 5 rs->(∀ v∈rs,bf (2 ^ 33488) v)->jy u (fun z=>Span 5 rs z)->Q (.ref p) H'
def j1(K:Frag):Sp:=fun vs H Q _=>∃ (a:Addr) (xs:List V) (rs:List (List Int)),vs=[.ref a]/\aW K H a xs/\av K H xs rs/\rs.length<=6/\Len 5 rs/\∀ l H',H l=none->aj H H'->H' l=some (.lst (rs.flatten.map V.int))->Q (.ref l) H'
def iC(K:Frag):Sp:=fun vs H Q _=>∃ (x y l m a b:Addr) (u v:Tu) (xs ys:List V) (rs qs:List (List Int)),vs=[.ref x,.ref y,.ref a,.ref b]/\cv K H x l u/\jy u (fun z=>Span 5 rs z)/\cv K H y m v/\jy v (fun z=>Span 5 qs z)/\aW K H a xs/\av K H xs rs/\rs.length<=6/\Len 5 rs/\(∀ w∈rs,bf (2 ^ 33488) w)/\aW K H b ys/\av K H ys qs/\qs.length<=6/\Len 5 qs/\(∀ w∈qs,bf (2 ^ 33488) w)/\bH K H/\∀ H',jd K H H'->bH K H'->Q (.bl true) H'
def iD(K:Frag):Sp:=fun vs H Q _=>∃ (x y:V),vs=[x,y]/\Q y H
def cC(K:Frag):Sp:=fun vs H Q _=>∃ (x l a b:Addr) (u:Tu) (r q:List Int),vs=[.ref x,.ref a,.ref b]/\cv K H x l u/\u.ok/\aZ K H a (r.map V.int)/\aZ K H b (q.map V.int)/\r.length=5/\q.length=5/\bf (2 ^ 20000) r/\bf (2 ^ 20000) q/\∀ (t:Bool) (H':Hp),aj H H'->(t=true↔u.rl r q)->Q (.bl t) H'
def dz(K:Frag):Sp:=fun vs H Q _=>∃ (x:V),vs=[x]/\∀ l H',H l=none->aj H H'->H' l=some (.lst [])->Q (.ref l) H'
def cU (K:Frag):Sp:=fun vs H Q _=>∃ (x l C dx:Addr) (b:Nat) (xs:List V) (rs:List (List Int)),vs=[.ref x,.ref l]/\nsIn K mainGlobals "CommaTuning"=some (some (.ref C))/\H x=some (.ins C dx [])/\aW K H l xs/\av K H xs rs/\rs.length<=6/\Len 5 rs/\(∀ v∈rs,bf (2 ^ b) v)/\b<=109/\bH K H/\∀ (l1:Addr) (H1:Hp) (ys:List V) (st:List (List Int)),H l1=none->jd K H H1->bH K H1->H1 l1=some (.lst ys)->av K H1 ys st->SF st->Eqv 5 rs st->Len 5 st->H1 x=some (.ins C dx [])->Q .fw (upd H1 x (.ins C dx [("steps",.ref l1)]))
def fh(K:Frag):Sp:=fun vs H Q _=>∃ (x l a:Addr) (st:List (List Int)) (r:List Int),vs=[.ref x,.ref a]/\cv K H x l (.comma st)/\Tu.ok (.comma st)/\aZ K H a (r.map V.int)/\r.length=5/\bf (2 ^ 20000) r/\∀ (p:Addr) (H':Hp) (v:List Int),aj H H'->aZ K H' p (v.map V.int)->VU st r v->Q (.ref p) H'
def ck(K:Frag):Sp:=fun vs H Q _=>∃ (x l:Addr) (st:List (List Int)),vs=[.ref x]/\cv K H x l (.comma st)/\∀ (l':Addr) (H':Hp) (ys:List V),H l'=none->aj H H'->H' l'=some (.lst ys)->av K H' ys st->Q (.ref l') H'
def dN (K:Frag):Sp:=fun vs H Q _=>∃ (x l C dx:Addr) (ys:List V) (ks:List (List Int×Int)),vs=[.ref x,.ref l]/\(nsIn K mainGlobals "KeyTuning"=some (some (.ref C))\/nsIn K mainGlobals "Board"=some (some (.ref C)))/\H x=some (.ins C dx [])/\aW K H l ys/\bx K H ys ks/\ks.length<=6/\(∀ k∈ks,k.2=0\/2<=k.2)/\∀ (l1:Addr) (H1:Hp),H l1=none->aj H H1->H1 l1=some (.lst ys)->Q .fw (upd H1 x (.ins C dx [("own_keys",.ref l1)]))
def fP(K:Frag):Sp:=fun vs H Q _=>∃ (x l a:Addr) (ks:List (List Int×Int)) (r:List Int),vs=[.ref x,.ref a]/\cv K H x l (.key ks)/\Tu.ok (.key ks)/\aZ K H a (r.map V.int)/\r.length=5/\bf (2 ^ 20000) r/\∀ (p:Addr) (H':Hp),aj H H'->aZ K H' p ((ks.map fun k=>val k.1 k.2 r).map V.int)->Q (.ref p) H'
def bY(K:Frag):Sp:=fun vs H Q _=>∃ (x l:Addr) (ks:List (List Int×Int)),vs=[.ref x]/\((cv K H x l (.key ks)/\Tu.ok (.key ks))\/∃ w,ks=[(w,0)]/\cv K H x l (.eO w)/\Tu.ok (.eO w))/\bH K H/\∀ (l':Addr) (H':Hp) (ys:List V) (st:List (List Int)),H l'=none->jd K H H'->bH K H'->H' l'=some (.lst ys)->av K H' ys st->Lo ks st->(∀ v∈st,bf (2 ^ b7.lb 20 ks.length) v)->Q (.ref l') H'
def ij (K:Frag):Sp:=fun vs H Q E=>∃ (x a C dx:Addr) (w:List Int),vs=[.ref x,.ref a]/\nsIn K mainGlobals "Board"=some (some (.ref C))/\H x=some (.ins C dx [])/\aZ K H a (w.map V.int)/\w.length=5/\(w.getD 0 0<1->∀ C H9,nsIn K mainGlobals "NoBoard"=some (some (.ref C))->aj H H9->E (.ref C) none H9)/\(1<=w.getD 0 0->∀ (l1:Addr) (H1:Hp) (ys:List V),H l1=none->aj H H1->H1 l1=some (.lst ys)->bx K H1 ys [(w,0)]->H1 x=some (.ins C dx [])->Q .fw (upd (upd H1 x (.ins C dx [("own_keys",.ref l1)])) x (.ins C dx [("own_keys",.ref l1),("octave",.int (w.getD 0 0))])))
def jj(K:Frag):Sp:=fun vs H Q _=>∃ (x l a:Addr) (w r:List Int),vs=[.ref x,.ref a]/\cv K H x l (.eO w)/\Tu.ok (.eO w)/\aZ K H a (r.map V.int)/\r.length=5/\bf (2 ^ 20000) r/\∀ (H':Hp),aj H H'->Q (.int (dt r w)) H'
section
variable {K:Frag}{H:Hp}{Q:VK}{E:XK}
theorem OP{a b:Addr}(r q:List Int)(ha:aZ K H a (r.map V.int))(hb:aZ K H b (q.map V.int))(hl:r.length=q.length)(hn:r.length<=1000)(k:∀ p H',aj H H'->H' p=some (.tup ((sub r q).map V.int))->Q (.ref p) H'):zF K [.ref a,.ref b] H Q E:=⟨a,b,r,q,rfl,ha,hb,hl,hn,k⟩
theorem Ez{a:Addr}{n:Int}(r:List Int)(ha:aZ K H a (r.map V.int))(hn:r.length<=1000)(hm:∀ x∈r,kl x n)(k:∀ p H',aj H H'->H' p=some (.tup ((bJ r n).map V.int))->Q (.ref p) H'):qH K [.ref a,.int n] H Q E:=⟨a,r,n,rfl,ha,hn,hm,k⟩
theorem sJ{l:Addr}{ys:List V}(hl:aW K H l ys)(hn:ys.length<=6)(k:Q (.ref l) H):gB K [.ref l] H Q E:=⟨l,ys,rfl,hl,hn,k⟩
theorem OQ{p n:Nat}(hn:n<=1000)(k:∀ a H',aj H H'->H' a=some (.tup ((bW p n).map V.int))->Q (.ref a) H'):zG K [.int p,.int n] H Q E:=⟨p,n,rfl,hn,k⟩
theorem zI{a:Addr}{r:List Int}{k:Nat}(ha:aZ K H a (r.map V.int))(hl:r.length<=1000)(hk:Led r k)(kk:∀ H',aj H H'->Q (.int k) H'):jX K [.ref a] H Q E:=⟨a,r,k,rfl,ha,hl,hk,kk⟩
theorem sM{a b:Addr}{p n M k:Nat}(v s:List Int)(ha:aZ K H a (v.map V.int))(hb:aZ K H b (s.map V.int))(lv:v.length=n)(ls:s.length=n)(hn:n<=1000)(hp:p<n)(h0:s.getD p 0≠0)(bv:bf M v)(bs:bf M s)(hM:M<2 ^ k)(hk:k<=60000000)(kk:∀ p' H',aj H H'->H' p'=some (.tup ((b8 p s v).map V.int))->Q (.ref p') H'):jf K [.ref a,.ref b,.int p] H Q E:=⟨a,b,p,n,M,k,v,s,rfl,ha,hb,lv,ls,hn,hp,h0,bv,bs,hM,hk,kk⟩
theorem IV{l:Addr}{p n M A k:Nat}{xs:List V}{rs:List (List Int)}(h:aW K H l xs/\av K H xs rs/\rs.length<64/\Len n rs/\n<=1000/\p<n/\(∀ v∈rs,bf M v)/\(∀ v∈rs,at' p v<=A)/\0<A/\6*(M*(A*A))<2 ^ k/\k<=60000000/\bH K H)(kk:∀ t l1 l2 H' ys zs led os,jd K H H'->bH K H'->aZ K H' t [.ref l1,.ref l2]->aW K H' l1 ys->av K H' ys led->aW K H' l2 zs->av K H' zs os->led.length<=1->(∀ v∈led,0<v.getD p 0)->(∀ v∈os,v.getD p 0=0)->(∀ v∈led++os,v.length=n)->(∀ v∈led++os,bf (6*(M*(A*A))) v)->Eqv n rs (led++os)->led.length+os.length<=rs.length->(∀ v∈led,at' p v<=A)->Q (.ref t) H'):sI K [.ref l,.int p] H Q E:=let ⟨h1,h2,h3,h4,h5,h6,h7,h8,h9,Bq,FW,GN⟩:=h;⟨l,p,n,M,A,k,xs,rs,rfl,h1,h2,h3,h4,h5,h6,h7,h8,h9,Bq,FW,GN,kk⟩
theorem sN{l:Addr}{w n b:Nat}{xs:List V}{rs:List (List Int)}(h:aW K H l xs/\av K H xs rs/\rs.length<64/\Len n rs/\n<=1000/\w<=n/\(∀ v∈rs,bf (2 ^ b) v)/\(∀ i,i<w->b7.ss b (i+1)<60000000)/\bH K H)(kk:∀ l' H' ys st lf,H l'=none->jd K H H'->bH K H'->H' l'=some (.lst ys)->av K H' ys st->SJ n w b rs w st lf->Q (.ref l') H'):jg K [.ref l,.int w] H Q E:=let ⟨h1,h2,h3,h4,h5,h6,h7,h8,h9⟩:=h;⟨l,w,n,b,xs,rs,rfl,h1,h2,h3,h4,h5,h6,h7,h8,h9,kk⟩
theorem LA{l:Addr}{b:Nat}{xs:List V}{rs:List (List Int)}(h:aW K H l xs/\av K H xs rs/\rs.length<=6/\Len 5 rs/\(∀ v∈rs,bf (2 ^ b) v)/\b<=109/\bH K H)(kk:∀ l' H' ys st,H l'=none->jd K H H'->bH K H'->H' l'=some (.lst ys)->av K H' ys st->SF st->Eqv 5 rs st->Len 5 st->st.length<=5->(∀ v∈st,bf (2 ^ b7.ss b 5) v)->(∀ v∈st,∀ k,Led v k->(v.getD k 0).natAbs<=2 ^ b7.gs b (4 - k))->Q (.ref l') H'):wc K [.ref l] H Q E:=let ⟨h1,h2,h3,h4,h5,h6,h7⟩:=h;⟨l,b,xs,rs,rfl,h1,h2,h3,h4,h5,h6,h7,kk⟩
theorem FX{l a:Addr}{n B C:Nat}{xs:List V}{st:List (List Int)}{u:List Int}(h:aW K H l xs/\av K H xs st/\aZ K H a (u.map V.int)/\u.length=n/\5<=n/\n<=100/\Len n st/\st.length<=5/\SF (st.map (List.take 5))/\(∀ r∈st,bf (2 ^ B) r)/\bf (2 ^ C) u/\C+6*B<50000000)(kk:∀ p H' v,aj H H'->aZ K H' p (v.map V.int)->LB n 5 st st.length u v->bf (2 ^ (C+(B+1)*5)) v->Q (.ref p) H'):oV K [.ref l,.ref a] H Q E:=let ⟨h1,h2,h3,h4,h5,h6,h7,h8,h9,Bq,FW,GN⟩:=h;⟨l,a,n,B,C,xs,st,u,rfl,h1,h2,h3,h4,h5,h6,h7,h8,h9,Bq,FW,GN,kk⟩
theorem IW{w r:Addr}{kk:Bool}(ws rs:List Int)(hw:Sq kk K H w (ws.map V.int))(hr:aZ K H r (rs.map V.int))(hl:ws.length<=rs.length)(hn:rs.length<=1000)(hm:∀ i,i<ws.length->i7 (rs.getD i 0) (ws.getD i 0))(k:∀ H',aj H H'->Q (.int (dt rs ws)) H'):qI K [.ref w,.ref r] H Q E:=⟨w,r,kk,ws,rs,rfl,hw,hr,hl,hn,hm,k⟩
theorem LC{w r:Addr}(ws rs:List Int)(hw:aZ K H w (ws.map V.int))(hr:aZ K H r (rs.map V.int))(hl:rs.length=ws.length)(hn:rs.length<=1000)(hm:∀ i,i<rs.length->i7 (rs.getD i 0) (ws.getD i 0))(k:∀ H',aj H H'->Q (.int (dot rs ws)) H'):qI K [.ref w,.ref r] H Q E:=IW ws rs (iz hw) hr (by lia) hn (fun i hi=>hm i (by lia)) k
theorem EA{kk w r:Addr}{m:Int}(ws rs:List Int)(hk:aZ K H kk [.ref w,.int m])(hw:aZ K H w (ws.map V.int))(hr:aZ K H r (rs.map V.int))(hl:rs.length=ws.length)(hn:rs.length<=1000)(hm:∀ i,i<rs.length->i7 (rs.getD i 0) (ws.getD i 0))(h0:0<=m)(k:∀ H',aj H H'->Q (.int (val ws m rs)) H'):qJ K [.ref kk,.ref r] H Q E:=⟨kk,w,r,m,ws,rs,rfl,hk,hw,hr,hl,hn,hm,h0,k⟩
theorem gF{l:Addr}{xs:List V}{ks:List (List Int×Int)}(h:aW K H l xs/\bx K H xs ks/\ks.length<=6/\(∀ k∈ks,k.2=0\/2<=k.2))(k:Q (.ref l) H):eH K [.ref l] H Q E:=let ⟨h1,h2,h3,h4⟩:=h;⟨l,xs,ks,rfl,h1,h2,h3,h4,k⟩
theorem Br{l a:Addr}{xs:List V}{ks:List (List Int×Int)}{row:List Int}(h:aW K H l xs/\bx K H xs ks/\ks.length<=6/\(∀ k∈ks,k.2=0\/2<=k.2)/\(∀ k∈ks,k.1.length=5/\Ar 1000 k.1)/\aZ K H a (row.map V.int)/\row.length=5/\Ar 100000 row)(k:∀ p H',aj H H'->aZ K H' p ((ks.map fun k=>val k.1 k.2 row).map V.int)->Q (.ref p) H'):nS K [.ref l,.ref a] H Q E:=let ⟨h1,h2,h3,h4,h5,h6,h7,h8⟩:=h;⟨l,a,xs,ks,row,rfl,h1,h2,h3,h4,h5,h6,h7,h8,k⟩
theorem zJ{l kt wa:Addr}{b:Nat}{m:Int}{xs:List V}{st:List (List Int)}{ws:List Int}(h:aW K H l xs/\av K H xs st/\Len 5 st/\st.length<=5/\(∀ v∈st,bf (2 ^ b) v)/\aZ K H kt [.ref wa,.int m]/\aZ K H wa (ws.map V.int)/\ws.length=5/\0<=m/\Ar 400000 ws/\(∀ v∈st,(val ws m v).natAbs<=2 ^ b)/\m.natAbs<=2 ^ b/\b<=50000/\bH K H)(k:∀ l' H' ys j8,H l'=none->jd K H H'->bH K H'->H' l'=some (.lst ys)->av K H' ys j8->gM st ws m j8->j8.length<=5->Q (.ref l') H'):jY K [.ref l,.ref kt] H Q E:=let ⟨h1,h2,h3,h4,h5,h6,h7,h8,h9,Bq,FW,GN,OR,OS⟩:=h;⟨l,kt,wa,b,m,xs,st,ws,rfl,h1,h2,h3,h4,h5,h6,h7,h8,h9,Bq,FW,GN,OR,OS,k⟩
theorem IX{l:Addr}{W:Nat}{xs:List V}{ks:List (List Int×Int)}(h:aW K H l xs/\bx K H xs ks/\ks.length<=6/\(∀ k∈ks,k.2=0\/2<=k.2)/\(∀ k∈ks,k.1.length=5/\bf (2 ^ W) k.1/\k.2.natAbs<=2 ^ W)/\W<=190/\bH K H)(k:∀ l' H' ys st,H l'=none->jd K H H'->bH K H'->H' l'=some (.lst ys)->av K H' ys st->Lo ks st->st.length<=5->(∀ r∈st,bf (2 ^ b7.lb W ks.length) r)->Q (.ref l') H'):zH K [.ref l] H Q E:=let ⟨h1,h2,h3,h4,h5,h6,h7⟩:=h;⟨l,W,xs,ks,rfl,h1,h2,h3,h4,h5,h6,h7,k⟩
theorem xA{x y l m:Addr}{u v:Tu}(h:cv K H x l u/\u.ok/\cv K H y m v/\v.ok/\bH K H)(k:∀ (b:Bool) (H':Hp) (s t:List (List Int)),jd K H H'->bH K H'->u.tab s->v.tab t->(b=true↔s=t)->Q (.bl b) H'):fg K [.ref x,.ref y] H Q E:=let ⟨h1,h2,h3,h4,h5⟩:=h;⟨x,y,l,m,u,v,rfl,h1,h2,h3,h4,h5,k⟩
theorem nj{x y l m:Addr}{u v:Tu}{L M:List Int->Prop}(h:cv K H x l u/\jy u L/\cv K H y m v/\jy v M/\bH K H)(k:∀ (b:Bool) (H':Hp),jd K H H'->bH K H'->(∃ t,v.tab t)->(b=true↔∀ x:List Int,x.length=5->(L x↔M x))->Q (.bl b) H'):fg K [.ref x,.ref y] H Q E:=let ⟨h1,h2,h3,h4,h5⟩:=h;xA ⟨h1,h2.ok,h3,h4.ok,h5⟩ fun b H' s t sm hT hs ht hb=>k b H' sm hT ⟨t,ht⟩ (hb.trans (h2.same h4 hs ht))
theorem lW{x y l m:Addr}{u v:Tu}(h:cv K H x l u/\u.ok/\cv K H y m v/\v.ok/\bH K H)(k:∀ (z:V) (H':Hp) (s:List (List Int)),jd K H H'->bH K H'->u.tab s->((z=.fw/\∀ w∈s,v.rl w [0,0,0,0,0])\/∃ (p:Addr) (w:List Int),z=.ref p/\w∈s/\w.length=5/\bf (2 ^ 20000) w/\aZ K H' p (w.map V.int)/\¬ v.rl w [0,0,0,0,0])->Q z H'):gU K [.ref x,.ref y] H Q E:=let ⟨h1,h2,h3,h4,h5⟩:=h;⟨x,y,l,m,u,v,rfl,h1,h2,h3,h4,h5,k⟩
theorem LD{x y l m:Addr}{u v:Tu}(h:cv K H x l u/\u.ok/\cv K H y m v/\v.ok/\bH K H/\(∃ t0,v.tab t0))(k:∀ (z:V) (H':Hp) (s t:List (List Int)),jd K H H'->bH K H'->u.tab s->v.tab t->((z=.fw/\(∀ w∈s,v.rl w [0,0,0,0,0])/\∀ w∈t,u.rl w [0,0,0,0,0])\/∃ (p:Addr) (w:List Int),z=.ref p/\w.length=5/\bf (2 ^ 20000) w/\aZ K H' p (w.map V.int)/\((w∈s/\¬ v.rl w [0,0,0,0,0])\/((∀ q∈s,v.rl q [0,0,0,0,0])/\w∈t/\¬ u.rl w [0,0,0,0,0])))->Q z H'):mY K [.ref x,.ref y] H Q E:=let ⟨h1,h2,h3,h4,h5,h6⟩:=h;⟨x,y,l,m,u,v,rfl,h1,h2,h3,h4,h5,h6,k⟩
theorem Bs{x y l m:Addr}{u v:Tu}{L M:List Int->Prop}(h:cv K H x l u/\jy u L/\cv K H y m v/\jy v M/\bH K H)(h0:∃ t,v.tab t)(k:∀ (z:V) (H':Hp),jd K H H'->bH K H'->((z=.fw/\∀ x:List Int,x.length=5->(L x↔M x))\/∃ (p:Addr) (w:List Int),z=.ref p/\w.length=5/\bf (2 ^ 20000) w/\aZ K H' p (w.map V.int)/\¬ (L w↔M w))->Q z H'):mY K [.ref x,.ref y] H Q E:=by
 obtain ⟨h1,h2,h3,h4,h5⟩:=h
 refine LD ⟨h1,h2.ok,h3,h4.ok,h5,h0⟩ fun z H' s t sm hT hs ht hz=>k z H' sm hT ?_
 rcases hz with ⟨e,ha,hb⟩|⟨p,w,e,lw,bw,hp,hw⟩
 ·exact .inl ⟨e,fun x hx=>⟨h2.sub h4 hs ht ha hx,h4.sub h2 ht hs hb hx⟩⟩
 ·refine .inr ⟨p,w,e,lw,bw,hp,fun hi=>?_⟩
  rcases hw with ⟨hm,hn⟩|⟨_,hm,hn⟩
  ·exact hn ((h4.rl w lw).mpr (hi.mp ((h2.all s hs w).mp (Span.mem hm)).2))
  ·exact hn ((h2.rl w lw).mpr (hi.mpr ((h4.all t ht w).mp (Span.mem hm)).2))
theorem Bt{a:Addr}{ns:List Int}(ha:aW K H a (ns.map V.int))(k:∀ (l:Addr) (H':Hp) (cs:List Int),H l=none->aj H H'->H' l=some (.lst (cs.map V.int))->cs.length=63->Q (.ref l) H'):kZ K [.ref a] H Q E:=⟨a,ns,rfl,ha,k⟩
theorem oY{c m:Int}(hm:0<=m/\m<=100000)(k:Q (.int (gu c m)) H):jL K [.int c,.int m] H Q E:=⟨c,m,rfl,hm,k⟩
theorem Bu{a b:Addr}{n:Int}(r q:List Int)(ha:aZ K H a (r.map V.int))(hb:aZ K H b (q.map V.int))(hl:r.length<=q.length)(h1:r.length<=1000)(hm:∀ y∈q,Bd n y)(k:∀ p H',aj H H'->aZ K H' p ((dD r n (q.take r.length)).map V.int)->Q (.ref p) H'):df K [.ref a,.int n,.ref b] H Q E:=⟨a,b,n,r,q,rfl,ha,hb,hl,h1,hm,k⟩
theorem fY{a b:Addr}{n:Int}(r q:List Int)(ha:aZ K H a (r.map V.int))(hb:aZ K H b (q.map V.int))(hl:r.length=q.length)(h1:r.length<=1000)(hm:∀ y∈q,Iq n y)(k:∀ p H',aj H H'->aZ K H' p ((dD r n q).map V.int)->Q (.ref p) H'):df K [.ref a,.int n,.ref b] H Q E:=⟨a,b,n,r,q,rfl,ha,hb,le_of_eq hl,h1,fun y hy=>(hm y hy).x,fun p H' s m=>k p H' s (by rw [agG (le_of_eq hl.symm)] at m;exact m)⟩
theorem uf{a b:Addr}{n:Int}(r q:List Int)(ha:aZ K H a (r.map V.int))(hb:aZ K H b (q.map V.int))(hl:r.length=q.length)(h1:r.length<=1000)(hm:∀ y∈q,Bd n y)(k:∀ p H',aj H H'->aZ K H' p ((dD r n q).map V.int)->Q (.ref p) H'):df K [.ref a,.int n,.ref b] H Q E:=⟨a,b,n,r,q,rfl,ha,hb,le_of_eq hl,h1,hm,fun p H' s m=>k p H' s (by rw [agG (le_of_eq hl.symm)] at m;exact m)⟩
theorem nk{l:Addr}{p n M A k:Nat}{xs:List V}{rs:List (List Int)}(h:aW K H l xs/\av K H xs rs/\rs.length<64/\Len n rs/\n<=1000/\p<n/\(∀ v∈rs,bf M v)/\(∀ v∈rs,at' p v<=A)/\0<A/\6*(M*(A*A))<2 ^ k/\k<=60000000)(k0:∀ (t l2:Addr) (H':Hp) (zs:List V) (os:List (List Int)),aj H H'->aZ K H' t [.fw,.ref l2]->H l2=none->H' l2=some (.lst zs)->av K H' zs os->(∀ v∈os,v.getD p 0=0)->(∀ v∈os,v.length=n)->(∀ v∈os,bf (6*(M*(A*A))) v)->Eqv n rs (os)->os.length<=rs.length->Q (.ref t) H')(k1:∀ (t a l2:Addr) (H':Hp) (zs:List V) (os:List (List Int)) (s:List Int),aj H H'->aZ K H' t [.ref a,.ref l2]->aZ K H' a (s.map V.int)->H l2=none->H' l2=some (.lst zs)->av K H' zs os->s.getD p 0≠0->at' p s<=A->(∀ v∈os,v.getD p 0=0)->(∀ v∈s::os,v.length=n)->(∀ v∈s::os,bf (6*(M*(A*A))) v)->Eqv n rs (s::os)->os.length+1<=rs.length->Q (.ref t) H'):fE K [.ref l,.int (p:Int)] H Q E:=let ⟨h1,h2,h3,h4,h5,h6,h7,h8,h9,Bq,FW⟩:=h;⟨l,p,n,M,A,k,xs,rs,rfl,h1,h2,h3,h4,h5,h6,h7,h8,h9,Bq,FW,k0,k1⟩
theorem ug{l:Addr}{b:Nat}{xs:List V}{rs:List (List Int)}(h:aW K H l xs/\av K H xs rs/\rs.length<64/\Len 5 rs/\(∀ v∈rs,bf (2 ^ b) v)/\b7.gs b 5<=60000000)(k:∀ (l':Addr) (H':Hp) (ys:List V) (ps:List (Nat×List Int)),H l'=none->aj H H'->H' l'=some (.lst ys)->yL K H' ys ps->IL ps->ps.length<=5->Eqv 5 rs (ps.map Prod.snd)->(∀ p∈ps,bf (2 ^ b7.gs b 5) p.2)->Q (.ref l') H'):lB K [.ref l] H Q E:=let ⟨h1,h2,h3,h4,h5,h6⟩:=h;⟨l,b,xs,rs,rfl,h1,h2,h3,h4,h5,h6,k⟩
theorem ik{l a:Addr}{B C:Nat}{xs:List V}{ps:List (Nat×List Int)}{v:List Int}(h:aW K H l xs/\yL K H xs ps/\IL ps/\ps.length<=5/\(∀ p∈ps,bf (2 ^ B) p.2)/\aZ K H a (v.map V.int)/\v.length=5/\bf (2 ^ C) v/\C+6*(B+1)<=60000000)(k:∀ (b:Bool) (H':Hp),aj H H'->(b=true↔Span 5 (ps.map Prod.snd) v)->Q (.bl b) H'):jh K [.ref l,.ref a] H Q E:=let ⟨h1,h2,h3,h4,h5,h6,h7,h8,h9⟩:=h;⟨l,a,B,C,xs,ps,v,rfl,h1,h2,h3,h4,h5,h6,h7,h8,h9,k⟩
theorem xB{x y:Int}(k:Q (.int (Int.gcd x y:Nat)) H):ji K [.int x,.int y] H Q E:=⟨x,y,rfl,k⟩
theorem wd{l:Addr}{xs:List V}{ks:List (List Int×Int)}(h:aW K H l xs/\bx K H xs ks/\ks.length<=6/\(∀ k∈ks,k.1.length=5/\bf (2 ^ 22) k.1/\0<=k.2/\k.2<=16384))(k:∀ (l':Addr) (H':Hp) (ys:List V) (st:List (List Int)),H l'=none->aj H H'->H' l'=some (.lst ys)->av K H' ys st->GK ks st->Q (.ref l') H'):mZ K [.ref l] H Q E:=let ⟨h1,h2,h3,h4⟩:=h;⟨l,xs,ks,rfl,h1,h2,h3,h4,k⟩
theorem C0{a:Addr}{cs:List Int}(ha:aW K H a (cs.map V.int))(hn:cs.length<=6)(k:∀ t l1 l2 H' xs ys rs ss,aj H H'->aZ K H' t [.ref l1,.ref l2]->H' l1=some (.lst xs)->av K H' xs rs->H' l2=some (.lst ys)->av K H' ys ss->rs.length=5->ss.length=5->Len 5 rs->Len 5 ss->mh rs ss->DR rs ss->(∀ v∈rs,bf 729 v)->(∀ v∈ss,bf 729 v)->Q (.ref t) H'):ng K [.ref a] H Q E:=⟨a,cs,rfl,ha,hn,k⟩
theorem uh{a:Addr}{cs:List Int}(ha:aW K H a (cs.map V.int))(h5:cs.length=5)(k:∀ l H' ms,aj H H'->H l=none->H' l=some (.lst (List.map V.int ms))->ms.length=5->(∀ m∈ms,0<=m/\m<=12)->Q (.ref l) H'):lC K [.ref a] H Q E:=⟨a,cs,rfl,ha,h5,k⟩
theorem Bv{l b:Addr}{M:Nat}{xs:List V}{rs:List (List Int)}{cs:List Int}(h:aW K H l xs/\av K H xs rs/\rs.length<=5/\Len 5 rs/\(∀ v∈rs,bf M v)/\aW K H b (cs.map V.int)/\cs.length<=3)(k:∀ l' H' ys ts,aj H H'->H l'=none->H' l'=some (.lst ys)->av K H' ys ts->Eqv 5 rs ts->Len 5 ts->ts.length<=6->(∀ v∈ts,bf (M*216) v)->Q (.ref l') H'):lD K [.ref l,.ref b] H Q E:=let ⟨h1,h2,h3,h4,h5,h6,h7⟩:=h;⟨l,b,M,xs,rs,cs,rfl,h1,h2,h3,h4,h5,h6,h7,k⟩
theorem qK{a l b:Addr}{ms:List Int}{xs:List V}{rs:List (List Int)}{cs:List Int}(h:aW K H a (ms.map V.int)/\ms.length=5/\(∀ m∈ms,0<=m/\m<=96)/\aW K H l xs/\av K H xs rs/\rs.length=5/\Len 5 rs/\(∀ v∈rs,bf 729 v)/\aW K H b (cs.map V.int)/\cs.length<=3)(k:∀ l' H' ys ts,aj H H'->H l'=none->H' l'=some (.lst ys)->av K H' ys ts->Eqv 5 (gens ms rs) ts->Len 5 ts->ts.length<=6->(∀ v∈ts,bf (2 ^ 24) v)->Q (.ref l') H'):jZ K [.ref a,.ref l,.ref b] H Q E:=let ⟨h1,h2,h3,h4,h5,h6,h7,h8,h9,Bq⟩:=h;⟨a,l,b,ms,xs,rs,cs,rfl,h1,h2,h3,h4,h5,h6,h7,h8,h9,Bq,k⟩
theorem sO{l b:Addr}{M:Nat}{xs:List V}{ks:List (List Int×Int)}{cs:List Int}(h:aW K H l xs/\bx K H xs ks/\ks.length<=5/\(∀ k∈ks,k.1.length=5/\bf M k.1/\(k.2=0\/2<=k.2)/\k.2<=12)/\12<=M/\aW K H b (cs.map V.int)/\cs.length<=3)(k:∀ l' H' ys qs,aj H H'->H l'=none->H' l'=some (.lst ys)->bx K H' ys qs->KE ks qs->qs.length<=6->(∀ k∈qs,k.1.length=5/\bf (M*27) k.1/\(k.2=0\/2<=k.2)/\k.2<=12)->Q (.ref l') H'):gC K [.ref l,.ref b] H Q E:=let ⟨h1,h2,h3,h4,h5,h6,h7⟩:=h;⟨l,b,M,xs,ks,cs,rfl,h1,h2,h3,h4,h5,h6,h7,k⟩
theorem C1{a l b:Addr}{ms:List Int}{xs:List V}{rs:List (List Int)}{cs:List Int}(h:aW K H a (ms.map V.int)/\ms.length=5/\(∀ m∈ms,0<=m/\m<=12)/\aW K H l xs/\av K H xs rs/\rs.length=5/\Len 5 rs/\(∀ v∈rs,bf 729 v)/\aW K H b (cs.map V.int)/\cs.length<=3)(k:∀ l' H' ys qs,aj H H'->H l'=none->H' l'=some (.lst ys)->bx K H' ys qs->(∀ x:List Int,x.length=5->((∀ k∈qs,VZ k.1 k.2 x)↔∀ i,i<5->ms.getD i 0 ∣ dt x (rs.getD i [])))->qs.length<=6->(∀ k∈qs,k.1.length=5/\bf (2 ^ 15) k.1/\(k.2=0\/2<=k.2)/\k.2<=12)->Q (.ref l') H'):nh K [.ref a,.ref l,.ref b] H Q E:=let ⟨h1,h2,h3,h4,h5,h6,h7,h8,h9,Bq⟩:=h;⟨a,l,b,ms,xs,rs,cs,rfl,h1,h2,h3,h4,h5,h6,h7,h8,h9,Bq,k⟩
theorem qL{a:Addr}{r:List Int}(ha:aZ K H a (r.map V.int))(hl:r.length=5)(k:∀ H',aj H H'->Q (.bl true) H'):ig K [.ref a] H Q E:=⟨a,r,rfl,ha,hl,k⟩
theorem Bw{kt w a:Addr}{m:Int}{ws row:List Int}(h:aZ K H kt [.ref w,.int m]/\aZ K H w (ws.map V.int)/\aZ K H a (row.map V.int)/\ws.length=5/\row.length=5/\(m=0\/2<=m)/\Ar 400000 ws/\Ar 100000 row)(k:∀ H',aj H H'->Q (.int (val ws m row)) H'):lE K [.ref kt,.ref a] H Q E:=let ⟨h1,h2,h3,h4,h5,h6,h7,h8⟩:=h;⟨kt,w,a,m,ws,row,rfl,h1,h2,h3,h4,h5,h6,h7,h8,k⟩
theorem we{a b:Addr}{ms ps:List Int}(h:aW K H a (ms.map V.int)/\ms.length=5/\(∀ m∈ms,0<=m/\m<=12)/\aW K H b (ps.map V.int)/\ps.length=5)(k:∀ (t:Bool) (H':Hp),aj H H'->(t=true↔∀ i,i<5->ms.getD i 0 ∣ ps.getD i 0)->Q (.bl t) H'):ni K [.ref a,.ref b] H Q E:=let ⟨h1,h2,h3,h4,h5⟩:=h;⟨a,b,ms,ps,rfl,h1,h2,h3,h4,h5,k⟩
theorem uC{a:Addr}{cs:List Int}{n:Nat}(ha:aW K H a (cs.map V.int))(Qu:cs.length=63)(hn:1<=n/\n<=4)(k:∀ (l':Addr) (H':Hp) (xs:List V) (jA:List (List Int)),H l'=none->aj H H'->H' l'=some (.lst xs)->fW H' xs jA->jA.length=n->(∀ ms∈jA,ms.length=5/\∀ m∈ms,0<=m/\m<=12)->Q (.ref l') H'):gW K [.ref a,.int (n:Int)] H Q E:=⟨a,cs,n,rfl,ha,Qu,hn,k⟩
theorem zK{a t la lb b:Addr}{c:Int}{ms cs:List Int}{xs ys:List V}{rs ss:List (List Int)}(h:aW K H a (ms.map V.int)/\ms.length=5/\(∀ m∈ms,0<=m/\m<=12)/\aZ K H t [.ref la,.ref lb]/\H la=some (.lst xs)/\av K H xs rs/\H lb=some (.lst ys)/\av K H ys ss/\rs.length=5/\ss.length=5/\Len 5 rs/\Len 5 ss/\mh rs ss/\DR rs ss/\(∀ v∈rs,bf 729 v)/\(∀ v∈ss,bf 729 v)/\aW K H b (cs.map V.int)/\cs.length<=3/\bH K H)(k:∀ (x l:Addr) (H':Hp) (u:Tu),jd K H H'->bH K H'->H x=none->H l=none->cv K H' x l u->jy u (Ls ss ms)->Q (.ref x) H'):j0 K [.ref a,.ref t,.int c,.ref b] H Q E:=let ⟨h1,h2,h3,h4,h5,h6,h7,h8,h9,Bq,FW,GN,OR,OS,Tn,XY,XZ,h18,h19⟩:=h;⟨a,t,la,lb,b,c,ms,cs,xs,ys,rs,ss,rfl,h1,h2,h3,h4,h5,h6,h7,h8,h9,Bq,FW,GN,OR,OS,Tn,XY,XZ,h18,h19,k⟩
theorem uj{b c:Bool}(k:Q (.bl (decide (b=c))) H):iU K [.bl b,.bl c] H Q E:=⟨b,c,rfl,k⟩
theorem sQ{x y l m a b c:Addr}{u v:Tu}{ms ns:List Int}{ys:List V}{ss:List (List Int)}(h:cv K H x l u/\jy u (Ls ss ms)/\cv K H y m v/\jy v (Ls ss ns)/\aW K H a (ms.map V.int)/\aW K H b (ns.map V.int)/\ms.length=5/\ns.length=5/\(∀ z∈ms,0<=z/\z<=12)/\(∀ z∈ns,0<=z/\z<=12)/\aW K H c ys/\av K H ys ss/\ss.length=5/\Len 5 ss/\(∀ w∈ss,bf 729 w)/\((∀ x:List Int,x.length=5->(Ls ss ms x↔Ls ss ns x))->ms=ns)/\bH K H)(k:∀ H',jd K H H'->bH K H'->Q (.bl true) H'):gD K [.ref x,.ref y,.ref a,.ref b,.ref c] H Q E:=let ⟨h1,h2,h3,h4,h5,h6,h7,h8,h9,Bq,FW,GN,OR,OS,Tn,XY,XZ⟩:=h;⟨x,y,l,m,a,b,c,u,v,ms,ns,ys,ss,rfl,h1,h2,h3,h4,h5,h6,h7,h8,h9,Bq,FW,GN,OR,OS,Tn,XY,XZ,k⟩
theorem sR{a:Addr}{cs:List Int}(h:aW K H a (cs.map V.int)/\cs.length=63/\bH K H)(k:∀ H',Q (.bl true) H'):gE K [.ref a] H Q E:=let ⟨h1,h2,h3⟩:=h;⟨a,cs,rfl,h1,h2,h3,k⟩
theorem yQ{c m:Int}(hm:0<=m/\m<=100000)(k:∀ p H',aj H H'->H' p=some (.tup [.int (gu c m),.int (gu ((c+m) / (2*m+1)) m)])->Q (.ref p) H'):oW K [.int c,.int m] H Q E:=⟨c,m,rfl,hm,k⟩
theorem yR{a:Addr}{hd:Int}{cs:List Int}(h:aW K H a (cs.map V.int)/\cs.length=18/\bH K H)(k:∀ (p x l lr:Addr) (H':Hp) (u:Tu) (ys:List V) (rs:List (List Int)),jd K H H'->bH K H'->aZ K H' p [.ref x,.ref lr]->cv K H' x l u->H' lr=some (.lst ys)->av K H' ys rs->rs.length<=6->Len 5 rs->(∀ v∈rs,bf (2 ^ 33488) v)->jy u (fun z=>Span 5 rs z)->Q (.ref p) H'):oX K [.ref a,.int hd] H Q E:=let ⟨h1,h2,h3⟩:=h;⟨a,hd,cs,rfl,h1,h2,h3,k⟩
theorem zL{a:Addr}{xs:List V}{rs:List (List Int)}(ha:aW K H a xs)(hr:av K H xs rs)(h6:rs.length<=6)(h5:Len 5 rs)(k:∀ l H',H l=none->aj H H'->H' l=some (.lst (rs.flatten.map V.int))->Q (.ref l) H'):j1 K [.ref a] H Q E:=⟨a,xs,rs,rfl,ha,hr,h6,h5,k⟩
theorem nq{x y l m a b:Addr}{u v:Tu}{xs ys:List V}{rs qs:List (List Int)}(h:cv K H x l u/\jy u (fun z=>Span 5 rs z)/\cv K H y m v/\jy v (fun z=>Span 5 qs z)/\aW K H a xs/\av K H xs rs/\rs.length<=6/\Len 5 rs/\(∀ w∈rs,bf (2 ^ 33488) w)/\aW K H b ys/\av K H ys qs/\qs.length<=6/\Len 5 qs/\(∀ w∈qs,bf (2 ^ 33488) w)/\bH K H)(k:∀ H',jd K H H'->bH K H'->Q (.bl true) H'):iC K [.ref x,.ref y,.ref a,.ref b] H Q E:=let ⟨h1,h2,h3,h4,h5,h6,h7,h8,h9,Bq,FW,GN,OR,OS,Tn⟩:=h;⟨x,y,l,m,a,b,u,v,xs,ys,rs,qs,rfl,h1,h2,h3,h4,h5,h6,h7,h8,h9,Bq,FW,GN,OR,OS,Tn,k⟩
theorem nr{x y:V}(k:Q y H):iD K [x,y] H Q E:=⟨x,y,rfl,k⟩
theorem wg{x l a b:Addr}{u:Tu}{r q:List Int}(h:cv K H x l u/\u.ok/\aZ K H a (r.map V.int)/\aZ K H b (q.map V.int)/\r.length=5/\q.length=5/\bf (2 ^ 20000) r/\bf (2 ^ 20000) q)(k:∀ (t:Bool) (H':Hp),aj H H'->(t=true↔u.rl r q)->Q (.bl t) H'):cC K [.ref x,.ref a,.ref b] H Q E:=let ⟨h1,h2,h3,h4,h5,h6,h7,h8⟩:=h;⟨x,l,a,b,u,r,q,rfl,h1,h2,h3,h4,h5,h6,h7,h8,k⟩
theorem qM{x:V}(k:∀ l H',H l=none->aj H H'->H' l=some (.lst [])->Q (.ref l) H'):dz K [x] H Q E:=⟨x,rfl,k⟩
theorem eF {x l C dx:Addr} {b:Nat} {xs:List V} {rs:List (List Int)} (h:nsIn K mainGlobals "CommaTuning"=some (some (.ref C))/\H x=some (.ins C dx [])/\aW K H l xs/\av K H xs rs/\rs.length<=6/\Len 5 rs/\(∀ v∈rs,bf (2 ^ b) v)/\b<=109/\bH K H) (k:∀ (l1:Addr) (H1:Hp) (ys:List V) (st:List (List Int)),H l1=none->jd K H H1->bH K H1->H1 l1=some (.lst ys)->av K H1 ys st->SF st->Eqv 5 rs st->Len 5 st->H1 x=some (.ins C dx [])->Q .fw (upd H1 x (.ins C dx [("steps",.ref l1)]))):cU K [.ref x,.ref l] H Q E:=let ⟨h1,h2,h3,h4,h5,h6,h7,h8,h9⟩:=h;⟨x,l,C,dx,b,xs,rs,rfl,h1,h2,h3,h4,h5,h6,h7,h8,h9,k⟩
theorem iP{x l a:Addr}{st:List (List Int)}{r:List Int}(h:cv K H x l (.comma st)/\Tu.ok (.comma st)/\aZ K H a (r.map V.int)/\r.length=5/\bf (2 ^ 20000) r)(k:∀ (p:Addr) (H':Hp) (v:List Int),aj H H'->aZ K H' p (v.map V.int)->VU st r v->Q (.ref p) H'):fh K [.ref x,.ref a] H Q E:=let ⟨h1,h2,h3,h4,h5⟩:=h;⟨x,l,a,st,r,rfl,h1,h2,h3,h4,h5,k⟩
theorem lF{x l:Addr}{st:List (List Int)}(h:cv K H x l (.comma st))(k:∀ (l':Addr) (H':Hp) (ys:List V),H l'=none->aj H H'->H' l'=some (.lst ys)->av K H' ys st->Q (.ref l') H'):ck K [.ref x] H Q E:=⟨x,l,st,rfl,h,k⟩
theorem d4 {x l C dx:Addr} {ys:List V} {ks:List (List Int×Int)} (h:(nsIn K mainGlobals "KeyTuning"=some (some (.ref C))\/nsIn K mainGlobals "Board"=some (some (.ref C)))/\H x=some (.ins C dx [])/\aW K H l ys/\bx K H ys ks/\ks.length<=6/\(∀ k∈ks,k.2=0\/2<=k.2)) (k:∀ (l1:Addr) (H1:Hp),H l1=none->aj H H1->H1 l1=some (.lst ys)->Q .fw (upd H1 x (.ins C dx [("own_keys",.ref l1)]))):dN K [.ref x,.ref l] H Q E:=let ⟨h1,h2,h3,h4,h5,h6⟩:=h;⟨x,l,C,dx,ys,ks,rfl,h1,h2,h3,h4,h5,h6,k⟩
theorem jM{x l a:Addr}{ks:List (List Int×Int)}{r:List Int}(h:cv K H x l (.key ks)/\Tu.ok (.key ks)/\aZ K H a (r.map V.int)/\r.length=5/\bf (2 ^ 20000) r)(k:∀ (p:Addr) (H':Hp),aj H H'->aZ K H' p ((ks.map fun k=>val k.1 k.2 r).map V.int)->Q (.ref p) H'):fP K [.ref x,.ref a] H Q E:=let ⟨h1,h2,h3,h4,h5⟩:=h;⟨x,l,a,ks,r,rfl,h1,h2,h3,h4,h5,k⟩
theorem iu{x l:Addr}{ks:List (List Int×Int)}(h:((cv K H x l (.key ks)/\Tu.ok (.key ks))\/∃ w,ks=[(w,0)]/\cv K H x l (.eO w)/\Tu.ok (.eO w)))(hT:bH K H)(k:∀ (l':Addr) (H':Hp) (ys:List V) (st:List (List Int)),H l'=none->jd K H H'->bH K H'->H' l'=some (.lst ys)->av K H' ys st->Lo ks st->(∀ v∈st,bf (2 ^ b7.lb 20 ks.length) v)->Q (.ref l') H'):bY K [.ref x] H Q E:=⟨x,l,ks,rfl,h,hT,k⟩
theorem qN {x a C dx:Addr} {w:List Int} (h:nsIn K mainGlobals "Board"=some (some (.ref C))/\H x=some (.ins C dx [])/\aZ K H a (w.map V.int)/\w.length=5) (k:(w.getD 0 0<1->∀ C H9,nsIn K mainGlobals "NoBoard"=some (some (.ref C))->aj H H9->E (.ref C) none H9)/\(1<=w.getD 0 0->∀ (l1:Addr) (H1:Hp) (ys:List V),H l1=none->aj H H1->H1 l1=some (.lst ys)->bx K H1 ys [(w,0)]->H1 x=some (.ins C dx [])->Q .fw (upd (upd H1 x (.ins C dx [("own_keys",.ref l1)])) x (.ins C dx [("own_keys",.ref l1),("octave",.int (w.getD 0 0))])))):ij K [.ref x,.ref a] H Q E:=let ⟨h1,h2,h3,h4⟩:=h;⟨x,a,C,dx,w,rfl,h1,h2,h3,h4,k⟩
theorem oq{x l a:Addr}{w r:List Int}(h:cv K H x l (.eO w)/\Tu.ok (.eO w)/\aZ K H a (r.map V.int)/\r.length=5/\bf (2 ^ 20000) r)(k:∀ (H':Hp),aj H H'->Q (.int (dt r w)) H'):jj K [.ref x,.ref a] H Q E:=let ⟨h1,h2,h3,h4,h5⟩:=h;⟨x,l,a,w,r,rfl,h1,h2,h3,h4,h5,k⟩
theorem MP{i:Nat}(h:i<=6):b7.lb 20 i<=20000:=by
 rcases (show i=0\/i=1\/i=2\/i=3\/i=4\/i=5\/i=6 by lia) with rfl|rfl|rfl|rfl|rfl|rfl|rfl <;> simp only [b7.lb] <;> lia
theorem OT {a1 a2 a3 a4 x l:Addr} {u:Tu} {σ:St} {ta:TE} (w1:nsIn K mainGlobals "Tuning"=some (some (.ref a1))) (w2:nsIn K mainGlobals "CommaTuning"=some (some (.ref a2))) (w3:nsIn K mainGlobals "KeyTuning"=some (some (.ref a3))) (w4:nsIn K mainGlobals "Board"=some (some (.ref a4))) (hv:∀ R:V->Hp->Prop,R (.ref x) H->ta σ H R) (hu:cv K H x l u) (ho:u.ok) (hT:bH K H) (k:∀ (l':Addr) (H':Hp) (ys:List V) (st:List (List Int)),H l'=none->jd K H H'->bH K H'->H' l'=some (.lst ys)->av K H' ys st->u.tab st->Len 5 st->st.length<=5->(∀ v∈st,bf (2 ^ 20000) v)->Q (.ref l') H') :
  j9 a1 "table_of" (dz K) [] E0 ta vt σ H Q\/j9 a2 "table_of" (ck K) [] E0 ta vt σ H Q\/j9 a3 "table_of" (bY K) [] E0 ta vt σ H Q\/j9 a4 "table_of" (bY K) [] E0 ta vt σ H Q:=by
 cases u with
 | plain =>
  obtain ⟨C,dx,hC,hx⟩:=id hu
  obtain rfl:=af6 (af5 (af5 (hC.symm.trans w1)))
  exact .inl (kQ (hv _ (iS hx rfl (qM (K:=K) (E:=E0) fun l' H' n' s' m'=>k l' H' [] [] n' (bc.of s') (hT.same s') m' .nil rfl (fun _ z=>nomatch z) (agM _) (fun _ z=>nomatch z)))))
 | comma st =>
  obtain ⟨C,dx,ys,hC,hx,_⟩:=id hu
  obtain rfl:=af6 (af5 (af5 (hC.symm.trans w2)))
  have h5:st.length<=5:=SF.count ho.1 fun q hq j hj=>zk (ho.2.1 q hq) hj
  exact .inr (.inl (kQ (hv _ (iS hx rfl (lF (E:=E0) hu fun l' H' ys n' s' m' r'=>k l' H' ys st n' (bc.of s') (hT.same s') m' r' rfl ho.2.1 h5 fun v To=>(ho.2.2 v To).mono (agt (by decide) (by decide)))))))
 | key ks =>
  obtain ⟨C,dx,ys,hC,hx,_⟩:=id hu
  obtain rfl:=af6 (af5 (af5 (hC.symm.trans w3)))
  exact .inr (.inr (.inl (kQ (hv _ (iS hx rfl (iu (E:=E0) (.inl ⟨hu,ho⟩) hT fun l' H' ys st n' X0 GJ m' r' wj hb=>k l' H' ys st n' X0 GJ m' r' wj wj.len (SF.count wj.sf fun q hq j hj=>zk (wj.len q hq) hj) fun v To=>(hb v To).mono (agt (by decide) (MP ho.1))))))))
 | eO w =>
  obtain ⟨C,dx,ys,hC,hx,_⟩:=id hu
  obtain rfl:=af6 (af5 (af5 (hC.symm.trans w4)))
  exact .inr (.inr (.inr (kQ (hv _ (iS hx rfl (iu (E:=E0) (.inr ⟨w,rfl,hu,ho⟩) hT fun l' H' ys st n' X0 GJ m' r' wj hb=>k l' H' ys st n' X0 GJ m' r' wj wj.len (SF.count wj.sf fun q hq j hj=>zk (wj.len q hq) hj) fun v To=>(hb v To).mono (agt (by decide) (MP (agO rfl)))))))))
theorem OU {a1 a2 a3 a4 x l p q:Addr} {u:Tu} {σ:St} {ta:TE} {t:TA} {r s:List Int} (w1:nsIn K mainGlobals "Tuning"=some (some (.ref a1))) (w2:nsIn K mainGlobals "CommaTuning"=some (some (.ref a2))) (w3:nsIn K mainGlobals "KeyTuning"=some (some (.ref a3))) (w4:nsIn K mainGlobals "Board"=some (some (.ref a4))) (hv:∀ R:V->Hp->Prop,R (.ref x) H->ta σ H R) (ht:∀ R:List V->Hp->Prop,R [.ref p,.ref q] H->t σ H R) (hu:cv K H x l u) (h:u.ok/\aZ K H p (r.map V.int)/\aZ K H q (s.map V.int)/\r.length=5/\s.length=5/\bf (2 ^ 20000) r/\bf (2 ^ 20000) s) (k:∀ (b:Bool) (H':Hp),aj H H'->(b=true↔u.rl r s)->Q (.bl b) H') :
  j9 a1 "alike" (cC K) [] E0 ta t σ H Q\/j9 a2 "alike" (cC K) [] E0 ta t σ H Q\/j9 a3 "alike" (cC K) [] E0 ta t σ H Q\/j9 a4 "alike" (cC K) [] E0 ta t σ H Q:=by
 have hc:cC K [.ref x,.ref p,.ref q] H Q E0:=wg ⟨hu,h.1,h.2.1,h.2.2.1,h.2.2.2.1,h.2.2.2.2.1,h.2.2.2.2.2.1,h.2.2.2.2.2.2⟩ k
 cases u with
 | plain =>
  obtain ⟨C,dx,hC,hx⟩:=id hu
  obtain rfl:=af6 (af5 (af5 (hC.symm.trans w1)))
  exact .inl (kQ (hv _ (iS hx rfl (ht _ hc))))
 | comma st =>
  obtain ⟨C,dx,ys,hC,hx,_⟩:=id hu
  obtain rfl:=af6 (af5 (af5 (hC.symm.trans w2)))
  exact .inr (.inl (kQ (hv _ (iS hx rfl (ht _ hc)))))
 | key ks =>
  obtain ⟨C,dx,ys,hC,hx,_⟩:=id hu
  obtain rfl:=af6 (af5 (af5 (hC.symm.trans w3)))
  exact .inr (.inr (.inl (kQ (hv _ (iS hx rfl (ht _ hc))))))
 | eO w =>
  obtain ⟨C,dx,ys,hC,hx,_⟩:=id hu
  obtain rfl:=af6 (af5 (af5 (hC.symm.trans w4)))
  exact .inr (.inr (.inr (kQ (hv _ (iS hx rfl (ht _ hc))))))
end
local macro_rules|`(tactic| walk_at "hf") => `(tactic| first|assumption|exact L2.aZ.of (by assumption)|exact L2.aW.of (by assumption)|exact L2.Ec.at (by assumption)|((with_reducible apply L2.iz);(walk_at "hf"))|((with_reducible apply L2.X1);(walk_at "hf"))|((with_reducible apply L2.aj.at);(assumption);(walk_at "hf"))|((with_reducible apply L2.aj.seq);(assumption);(walk_at "hf"))|((with_reducible apply L2.aj.lst);(assumption);(walk_at "hf"))|((with_reducible apply L2.aj.sq);(assumption);(walk_at "hf")))
local macro_rules|`(tactic| walk_at "sm") => `(tactic| first|exact L2.aj.refl _|assumption|((refine L2.aj.trans ?_ (by assumption));walk_at "sm"))
local macro_rules|`(tactic| walk_at "side") => `(tactic| first|(show (0 : Int)<_;first|decide|lia)|exact⟨by decide, by decide⟩|exact⟨by lia, by lia⟩|exact Or.inl ⟨by decide, by decide⟩|exact Or.inr ⟨by decide, by decide⟩|exact Or.inr ⟨by lia, by lia⟩|exact Or.inl ⟨by lia, by lia⟩|exact⟨by decide, by decide, by decide⟩|assumption)
local macro_rules|`(tactic| walk_at "p") => `(tactic| first
 | (with_reducible refine L2.Sm ?_)|(with_reducible refine L2.Sn ?_)|(with_reducible refine L2.KD ?_)|(with_reducible refine L2.So ?_)|(with_reducible refine L2.N2 ?_)|(with_reducible refine L2.N3 ?_)
 | ((with_reducible apply L2.A2);(exact rfl))|(with_reducible refine L2.r_c ?_)|(with_reducible refine L2.Xe ?_)|(with_reducible refine L2.Xf ?_)|(with_reducible refine L2.r_b ?_)|(with_reducible refine L2.N4 ?_)|(with_reducible refine L2.N5 ?_)
 | (with_reducible refine L2.Ss ?_)|(with_reducible refine L2.Xg ?_)|(with_reducible refine L2.Su ?_)|(with_reducible refine L2.N6 ?_)|(with_reducible refine L2.N7 ?_)|(with_reducible refine L2.Sv ?_)
 | (with_reducible refine L2.Xh ?_)|((with_reducible refine L2.r_I ?_ ?_);(walk_at "side"))|(with_reducible refine L2.r_U ?_)|(with_reducible refine L2.Sx ?_)|(with_reducible refine L2.Sy ?_)|(with_reducible refine L2.Sz ?_)|(with_reducible refine L2.SA ?_)|(with_reducible refine L2.N8 ?_)|(with_reducible refine L2.SD ?_)|(with_reducible refine L2.SE ?_)|((with_reducible refine L2.N9 ?_ ?_);(first|exact agO rfl|(focus (simp;done))|(focus (simp;lia)));intro p_ H_ s_ m_)|((with_reducible refine L2.Oa ?_ ?_);(first|exact agO rfl|(focus (simp;done))|(focus (simp;lia)));intro p_ H_ n_ s_ m_)
 | (with_reducible refine L2.Xj ?_)|(with_reducible refine L2.KO ?_)|(with_reducible refine L2.Ob ?_)|(with_reducible refine L2.Xk ?_)|(with_reducible refine L2.HL ?_)|(with_reducible refine L2.Oc ?_)|(with_reducible refine L2.KG ?_)|(with_reducible refine L2.Xl ?_)|(with_reducible refine L2.SG ?_)|(with_reducible refine L2.KH ?_)|(with_reducible refine L2.Od ?_)|(with_reducible refine L2.Oe ?_)|(with_reducible refine L2.Of ?_)
 | ((with_reducible apply L2.SH);(walk_at "hf"))|((with_reducible apply L2.SI);(walk_at "hf"))|((with_reducible refine L2.SK ?_ ?_ ?_);(first|decide|lia);(first|decide|lia))|((with_reducible apply L2.SM);(walk_at "hf");(walk_at "hf"))
 | ((with_reducible apply L2.Og);(walk_at "hf"))|((with_reducible apply L2.Oh);(walk_at "hf"))
 | ((with_reducible apply L2.HM);(walk_at "hf");intro p_ H_ s_ m_)|((with_reducible apply L2.KI);(walk_at "hf");intro p_ H_ n_ s_ m_)|((with_reducible apply L2.KJ);(walk_at "hf");intro p_ H_ n_ s_ m_)
 | (with_reducible refine L2.SN ?_)|(with_reducible refine L2.SO ?_)|(with_reducible refine L2.KL ?_)|((with_reducible apply L2.Oi);(walk_at "hf");(first|exact L2.vD _ _|exact rfl))|((with_reducible apply L2.Oj);(first|exact L2.vD _ _|exact rfl))|((with_reducible apply L2.Ol);(first|exact L2.vD _ _|exact rfl))
 | ((with_reducible refine L2.KN ?_ ?_);(first|exact rfl|exact Or.inl ⟨rfl,_,by walk_at "hf"⟩))
 | ((with_reducible apply L2.yB);(walk_at "hf");(walk_at "hf");(first|exact agO rfl|(focus (simp;done))|(focus (simp;lia)));intro p_ H_ n_ s_ m_)
 | ((with_reducible apply L2.Oo);(walk_at "hf");intro p_ H_ n_ s_ m_)|((with_reducible apply L2.zt);(walk_at "hf");(walk_at "hf");(exact List.cons_ne_nil _ _);(exact List.cons_ne_nil _ _);(first|exact agO rfl|(focus (simp;done))|(focus (simp;lia)));intro p_ H_ s_ m_)
 | (with_reducible refine L2.Ov ?_)|(with_reducible refine L2.KW ?_)|(with_reducible refine L2.kQ ?_)|(with_reducible refine L2.OF ?_)|(with_reducible refine L2.Tc ?_)|(with_reducible refine L2.OH ?_)|((with_reducible apply L2.OG);(assumption);(assumption);(assumption);(exact rfl))|((with_reducible apply L2.iS);(assumption);(exact rfl))
 | (with_reducible refine L2.La ?_)|((with_reducible refine L2.OC ?_ ?_ ?_);(first|exact⟨by decide,by decide⟩|exact⟨by lia,by lia⟩);(first|exact⟨by decide,by decide⟩|exact⟨by lia,by lia⟩))|(with_reducible refine L2.K8 ?_)|(with_reducible refine L2.K6 ?_)|((with_reducible refine L2.OA ?_ ?_ ?_);(first|exact⟨by decide,by decide⟩|exact⟨by lia,by lia⟩);(first|exact⟨by decide,by decide⟩|exact⟨by lia,by lia⟩))|(with_reducible refine L2.K4 ?_)|((with_reducible apply L2.S1);(walk_at "hf")))
local macro_rules|`(tactic| walk_at "q") => `(tactic| first|(walk_at "p")|(with_reducible refine L2.Sr ?_))
local macro_rules|`(tactic| walk_at "x") => `(tactic| first|((with_reducible apply L2.d3);(walk_at "hf");(exact rfl))|((with_reducible apply L2.bK);(walk_at "hf");(exact rfl)))
local macro_rules|`(tactic| walk_at "r") => `(tactic| first|(walk_at "q")|(walk_at "x"))
local macro_rules|`(tactic| walk_at "v") => `(tactic| repeat walk_at "q")
local macro_rules|`(tactic| walk_at "j") => `(tactic| repeat (first|(walk_at "p")|(walk_at "x")))
local macro_rules|`(tactic| walk_at "w") => `(tactic| repeat walk_at "r")
section
variable {P:Program}{w:World}{K:Frag}{mg:Str->Option Value}{base:Heap}{G:kY}
theorem LF:aN ["one","other"] ["one","other"] (ag oR):=⟨rfl,rfl,rfl,by decide +kernel,rfl,by decide +kernel,by decide +kernel⟩
theorem LG (D:Def K mg "over" oR ["one","other"]) (T:Txt K mg G) (Y:base.NoSeer/\P.given.tree=none):Ok P w K mg base 1 "over" ["one","other"] (zF K):=by
 have S:=LF
 refine D.ok S (fun vs H Q E h=>?_) (fun f dh A outer s H vs Q E hr h=>?_)
 ·obtain ⟨_,_,_,_,rfl,_⟩:=h;rfl
 ·obtain ⟨a,b,r,q,rfl,ha,hb,hl,hn,k⟩:=h
  have hu:=bG hr
  have aI:=T.aI
  refine⟨_,(ai (aS (bN (fz K rfl) rfl T.gy boot_tuple (aa (bQ (N:=["number","taken"]) (ix:=[none,none]) rfl (mP K rfl true true rfl T.Bl (aa (pv 0) (aa (pv 1) af))) (fun _ _ _ _ _=>(fD (n:=2) K rfl rfl (bP (aD (i:=0) (show jz ["number","taken"] by decide +kernel) rfl (Or.inl rfl)) (bP (aD (i:=1) (show jz ["number","taken"] by decide +kernel) rfl (Or.inl rfl)) fC)))) (fun _ _ _ _ _=>rfl) (fun _ _ _ _ _=>(ay oI (pv 0) (pv 1))) rfl (by decide +kernel) (by decide +kernel) rfl True.intro) af)))),?_⟩
  walk_at "w"
  refine CC (r:=r) (q:=q) (· - ·) rfl ha hb hl hn fun l H1 RQ s1 m1=>?_
  walk_at "w"
  rename_i p2 H2 s2 m2
  exact k _ _ (s1.trans s2) m2
theorem IY:aN ["row","n"] ["row","n"] (ag kR):=⟨rfl,rfl,rfl,by decide +kernel,rfl,by decide +kernel,by decide +kernel⟩
theorem IZ (D:Def K mg "power" kR ["row","n"]) (T:Txt K mg G) (Y:base.NoSeer/\P.given.tree=none):Ok P w K mg base 1 "power" ["row","n"] (qH K):=by
 have S:=IY
 refine D.ok S (fun vs H Q E h=>?_) (fun f dh A outer s H vs Q E hr h=>?_)
 ·obtain ⟨_,_,_,rfl,_⟩:=h;rfl
 ·obtain ⟨a,r,n,rfl,ha,hn,hm,k⟩:=h
  have hu:=bG hr
  have aI:=T.aI
  refine⟨_,(ai (aS (bN (fz K rfl) rfl T.gy boot_tuple (aa (bQ (N:=["number","n"]) (ix:=[none,some 1]) rfl (qk K rfl (pv 0)) (fun _ _ _ _ _=>(aD (i:=0) (show jz ["number","n"] by decide +kernel) rfl (Or.inl rfl))) (fun _ _ _ _ _=>rfl) (fun _ _ _ _ _=>(ay Le (pv 0) (pv 1))) rfl (by decide +kernel) (by decide +kernel) rfl ⟨⟨rfl,Or.inr (Or.inl rfl),rfl,rfl⟩,True.intro⟩) af)))),?_⟩
  walk_at "w"
  refine nJ (r:=r) (fun x=>.int (x*n)) [some (.int n)] rfl ha hn (fun x H' Qc hx s kc=>?_) (fun l H1 hl s1 m1=>?_)
  ·walk_at "w"
   refine r_I (C:=kl) (hm x hx) ?_
   exact kc _ (aj.refl _)
  walk_at "w"
  rename_i p2 H2 s2 m2
  refine k _ _ (s1.trans s2) ?_
  rw [m2,bJ,agE]
  rfl
theorem qO:aN ["commas"] ["commas"] (ag cF):=⟨rfl,rfl,rfl,by decide +kernel,rfl,by decide +kernel,by decide +kernel⟩
theorem qP (D:Def K mg "checked_commas" cF ["commas"]) (T:Txt K mg G) (Y:base.NoSeer/\P.given.tree=none):Ok P w K mg base 1 "checked_commas" ["commas"] (gB K):=by
 have S:=qO
 refine D.ok S (fun vs H Q E h=>?_) (fun f dh A outer s H vs Q E hr h=>?_)
 ·obtain ⟨_,_,rfl,_⟩:=h;rfl
 ·obtain ⟨l,ys,rfl,hl,hn,k⟩:=h
  have hu:=bG hr
  have aI:=T.aI
  refine⟨_,(ah (b9 (aM yh (bu (gk K rfl) rfl T.jI PySem.boot_len (aa (pv 0) af)) (d8 (v:=V.int 6) rfl T.xx ⟨_,rfl⟩) (aQ _)) (ai vm) bA) (ai (aS (pv 0)))),?_⟩
  walk_at "w"
  refine gj (by simp;lia) ?_
  walk_at "w"
  exact k
theorem LH:aN ["place","size"] ["place","size"] (ag oS):=⟨rfl,rfl,rfl,by decide +kernel,rfl,by decide +kernel,by decide +kernel⟩
theorem LI (D:Def K mg "unit" oS ["place","size"]) (T:Txt K mg G) (Y:base.NoSeer/\P.given.tree=none):Ok P w K mg base 1 "unit" ["place","size"] (zG K):=by
 have S:=LH
 refine D.ok S (fun vs H Q E h=>?_) (fun f dh A outer s H vs Q E hr h=>?_)
 ·obtain ⟨_,_,rfl,_⟩:=h;rfl
 ·obtain ⟨p,n,rfl,hn,k⟩:=h
  have hu:=bG hr
  have aI:=T.aI
  refine⟨_,(ai (aS (bN (fz K rfl) rfl T.gy boot_tuple (aa (bQ (N:=["here","place"]) (ix:=[none,some 0]) rfl (cf rfl T.cY (aa (pv 1) af)) (fun _ _ _ _ _=>(aD (i:=0) (show jz ["here","place"] by decide +kernel) rfl (Or.inl rfl))) (fun _ _ _ _ _=>rfl) (fun _ _ _ _ _=>(pP (aM dH (pv 0) (pv 1) (aQ _)) ae ae)) rfl (by decide +kernel) (by decide +kernel) rfl ⟨⟨rfl,Or.inr (Or.inl rfl),rfl,rfl⟩,True.intro⟩) af)))),?_⟩
  walk_at "w"
  refine ke (n:=n) (fun i=>.int (if i=(p:Int) then 1 else 0)) [some (.int p)] rfl (by lia) (fun i H' Qc hi s kc=>?_) (fun l H1 hl s1 m1=>?_)
  ·walk_at "w"
   refine aX (fun hc=>?_) (fun hc=>?_)
   ·have:=kc _ (aj.refl _)
    rw [if_pos (af7 hc)] at this
    walk_at "w"
    exact this
   ·have:=kc _ (aj.refl _)
    rw [if_neg (af8 hc)] at this
    walk_at "w"
    exact this
  have e:(List.range n).map (fun (i:Nat)=>V.int (if (i:Int)=(p:Int) then 1 else 0))=(bW p n).map V.int:=by
   rw [bW,agE]
   refine agF fun i _=>?_
   simp only [Function.comp_apply,ofNat_inj]
  rw [e] at m1
  walk_at "w"
  rename_i p2 H2 s2 m2
  exact k _ _ (s1.trans s2) m2
theorem xC:aN ["row"] ["row"] (ag ei):=⟨rfl,rfl,rfl,by decide +kernel,rfl,by decide +kernel,by decide +kernel⟩
theorem xD (D:Def K mg "lead_place" ei ["row"]) (T:Txt K mg G) (Y:base.NoSeer/\P.given.tree=none):Ok P w K mg base 1 "lead_place" ["row"] (jX K):=by
 have S:=xC
 refine D.ok S (fun vs H Q E h=>?_) (fun f dh A outer s H vs Q E hr h=>?_)
 ·obtain ⟨_,_,_,rfl,_⟩:=h;rfl
 ·obtain ⟨a,r,k,rfl,ha,hl,hk,kk⟩:=h
  have hu:=bG hr
  have aI:=T.aI
  refine⟨_,(ai (aS (bu (KZ K rfl rfl) rfl T.MN boot_max (aa (bQ (N:=["place","number"]) (ix:=[none,none]) rfl (Ic K rfl true rfl T.Bk (aa (pv 0) af)) (fun _ _ _ _ _=>(fD (n:=2) K rfl rfl (bP (aD (i:=0) (show jz ["place","number"] by decide +kernel) rfl (Or.inl rfl)) (bP (aD (i:=1) (show jz ["place","number"] by decide +kernel) rfl (Or.inl rfl)) fC)))) (fun _ _ _ _ _=>(aM gc (pv 1) ae (aQ _))) (fun _ _ _ _ _=>(pv 0)) rfl (by decide +kernel) (by decide +kernel) rfl True.intro) af)))),?_⟩
  have hkl:k<r.length:=by
   have:=hk.1
   by_cases h:k<r.length
   ·exact h
   ·rw [List.getD,getElem?_eq_none (by lia)] at this
    exact absurd this (by decide)
  walk_at "w"
  refine CT (r:=r) [] (fun i=>r.getD i 0 != 0) rfl ha hl (fun i H' Qt hi s kt=>?_) (fun i H' Qc s kc=>?_) (fun l H1 n1 s1 m1=>?_)
  ·walk_at "w"
   have e:(!decide (r.getD i 0=0))=(r.getD i 0 != 0):=by
    by_cases h:r.getD i 0=0
    ·rw [h];rfl
    ·rw [af9 h,bne_iff_ne.mpr h];rfl
   rw [e]
   exact kt
  ·walk_at "w"
   exact kc
  walk_at "w"
  have uA:(k:Int)∈((List.range r.length).filter fun i=>r.getD i 0 != 0).map fun (i:Nat)=>(i:Int):=by
   refine agr.mpr ⟨k,ags.mpr ⟨agy.mpr hkl,?_⟩,rfl⟩
   have:=hk.1
   exact bne_iff_ne.mpr (by lia)
  refine Oz (aW.of m1) (fun z=>by rw [z] at uA;simp at uA) fun m hm hx=>?_
  have e:m=k:=by
   have h1:=hx _ uA
   obtain ⟨j,hj,rfl⟩:=agr.mp hm
   have h2:=(ags.mp hj).2
   by_cases c:k<j
   ·rw [hk.2 j c] at h2
    exact absurd h2 (by decide)
   ·lia
  rw [e]
  exact kk _ s1
theorem Ja:aN ["weights","row"] ["weights","row"] (ag kU):=⟨rfl,rfl,rfl,by decide +kernel,rfl,by decide +kernel,by decide +kernel⟩
theorem Jb (D:Def K mg "heard" kU ["weights","row"]) (T:Txt K mg G) (Y:base.NoSeer/\P.given.tree=none):Ok P w K mg base 1 "heard" ["weights","row"] (qI K):=by
 have S:=Ja
 refine D.ok S (fun vs H Q E h=>?_) (fun f dh A outer s H vs Q E hr h=>?_)
 ·obtain ⟨_,_,_,_,_,rfl,_⟩:=h;rfl
 ·obtain ⟨w,r,kk,ws,rs,rfl,hw,Cd,hl,hn,hm,k⟩:=h
  have hu:=bG hr
  have aI:=T.aI
  refine⟨_,(ai (aS (bu (CM K rfl rfl) rfl T.IU boot_sum (aa (bQ (N:=["number","weight"]) (ix:=[none,none]) rfl (mP K rfl true kk rfl T.Bl (aa (pv 1) (aa (pv 0) af))) (fun _ _ _ _ _=>(fD (n:=2) K rfl rfl (bP (aD (i:=0) (show jz ["number","weight"] by decide +kernel) rfl (Or.inl rfl)) (bP (aD (i:=1) (show jz ["number","weight"] by decide +kernel) rfl (Or.inl rfl)) fC)))) (fun _ _ _ _ _=>rfl) (fun _ _ _ _ _=>(ay zf (pv 0) (pv 1))) rfl (by decide +kernel) (by decide +kernel) rfl True.intro) af)))),?_⟩
  walk_at "w"
  refine Ld (r:=rs) (q:=ws) rfl (iz Cd) hw hl hn hm fun l H1 RQ s1 m1=>?_
  walk_at "w"
  refine Ia (aW.of m1) ?_
  exact k _ s1
theorem uD:aN ["keys","key"] ["keys"] (ag dq):=⟨rfl,rfl,rfl,by decide +kernel,rfl,by decide +kernel,by decide +kernel⟩
theorem uE (D:Def K mg "checked_keys" dq ["keys"]) (T:Txt K mg G) (Y:base.NoSeer/\P.given.tree=none):Ok P w K mg base 1 "checked_keys" ["keys"] (eH K):=by
 have S:=uD
 refine D.ok S (fun vs H Q E h=>?_) (fun f dh A outer s H vs Q E hr h=>?_)
 ·obtain ⟨_,_,_,rfl,_⟩:=h;rfl
 ·obtain ⟨l,xs,ks,rfl,hl,hk,h6,hg,k⟩:=h
  have hu:=bG hr
  have aI:=T.aI
  refine⟨_,(ah (b9 (aM yh (bu (gk K rfl) rfl T.jI PySem.boot_len (aa (pv 0) af)) (d8 (v:=V.int 6) rfl T.Bo ⟨_,rfl⟩) (aQ _)) (ai vm) bA) (ah (dj PassesOwn.never rfl (bh K rfl (pv 0)) (aD (i:=1) S.nd rfl (Or.inl rfl)) (ai (b9 (PW.pt (L7 (aM vo (aR (aC K rfl) (pv 1) ae (fun _ _=>rfl)) ae (aQ _)) (GV (aM dH (aR (aC K rfl) (pv 1) ae (fun _ _=>rfl)) ae (aQ _))))) (ai vm) bA))) (ai (aS (pv 0))))),?_⟩
  have lk:=hk.length
  walk_at "w"
  refine gj (by simp;lia) ?_
  walk_at "w"
  refine iA (xs:=xs) (fun i σ H2=>∃ o:Option V,σ=[some (.ref l),o]/\H2=H) ⟨_,rfl,rfl⟩ (fun i σ H2 hp=>by obtain ⟨o,rfl,rfl⟩:=hp;exact hl) (fun i x σ H2 hx hp=>?_) (fun σ H2 hp=>?_)
  ·obtain ⟨o,rfl,rfl⟩:=hp
   obtain ⟨a,w,kk,rfl,h1,h2,h3⟩:=hk.get hx
   have hm:=hg kk (agl h3)
   walk_at "w"
   refine gj (af9 (by lia)) ?_
   walk_at "w"
   refine gj (af9 (by lia)) ?_
   exact⟨_,rfl,rfl⟩
  obtain ⟨o,rfl,rfl⟩:=hp
  walk_at "w"
  exact k
theorem zM:aN ["_law_script","_law_found","_law_k","_law_cell","_law_near_here","_law_far"] ["_law_script"] (ag eV):=⟨rfl,rfl,rfl,by decide +kernel,rfl,by decide +kernel,by decide +kernel⟩
theorem zN (D:Def K mg "_law_cells" eV ["_law_script"]) (T:Txt K mg G) (Y:base.NoSeer/\P.given.tree=none):Ok P w K mg base 1 "_law_cells" ["_law_script"] (kZ K):=by
 have S:=zM
 refine D.ok S (fun vs H Q E h=>?_) (fun f dh A outer s H vs Q E hr h=>?_)
 ·obtain ⟨_,_,rfl,_⟩:=h;rfl
 ·obtain ⟨a,ns,rfl,ha,k⟩:=h
  have hu:=bG hr
  have aI:=T.aI
  refine⟨_,(ah (aU (i:=1) S.nd rfl (Or.inl rfl) (dk af)) (ah (dj PassesOwn.never rfl (cf rfl T.cY (aa ae af)) (aD (i:=2) S.nd rfl (Or.inl rfl)) (ah (aU (i:=3) S.nd rfl (Or.inl rfl) ae) (ah (b9 (aM vo (pv 2) (bu (gk K rfl) rfl T.jI PySem.boot_len (aa (pv 0) af)) (aQ _)) (ai (aU (i:=3) S.nd rfl (Or.inl rfl) (aR (aC K rfl) (pv 0) (pv 2) (fun _ _=>rfl)))) bA) (ai (b9 (PW.pt (i4 (aM yh (bu (gk K rfl) rfl T.jI PySem.boot_len (aa (pv 0) af)) ae (aQ _)) (hG (aM dH (ay bD (aR (aC K rfl) (pv 0) ae (fun _ _=>rfl)) ae) ae (aQ _))))) (ai (dW (ip PySem.F.plainAttrs_list PySem.F.slot_list_append PySem.F.type_list_append cB (pv 1) (aa (ay bD (pv 3) (ay GZ ae ae)) af)))) (ah (aU (i:=4) S.nd rfl (Or.inl rfl) (ay bD (ay dE (ay cV (ay bD (pv 3) ae) (ay dE ae (ay cV (pv 2) ae))) ae) ae)) (ah (aU (i:=5) S.nd rfl (Or.inl rfl) (ay bD (ay dE (ay bD (ay dE (pv 4) ae) ae) ae) ae)) (ai (dW (ip PySem.F.plainAttrs_list PySem.F.slot_list_append PySem.F.type_list_append cB (pv 1) (aa (ay cV (ay dE (ay cV (ay dE (pv 4) ae) (pv 5)) ae) (ay bD (ay dE (pv 5) ae) ae)) af))))))))))) (ai (aS (pv 1))))),?_⟩
  walk_at "w"
  rename_i l H1 n1 s1 m1
  refine kO (fun i σ' H'=>∃ (o2 o3 o4 o5:Option V) (cs:List Int),σ'=[some (.ref a),some (.ref l),o2,o3,o4,o5]/\aj H H'/\H' l=some (.lst (cs.map V.int))/\cs.length=i) ⟨_,_,_,_,[],rfl,s1,m1,rfl⟩ (fun i σ' H' hi hP=>?_) (fun σ' H' hP=>?_)
  ·obtain ⟨o2,o3,o4,o5,cs,rfl,sH,ml,hlen⟩:=hP
   have Bx:=sH.seq ha
   have fin:∀ (z:Int) (x3 x4 x5:Option V) (x2:Option V),(∃ (o2 o3 o4 o5:Option V) (cs':List Int),[some (.ref a),some (.ref l),x2,x3,x4,x5]=[some (.ref a),some (.ref l),o2,o3,o4,o5]/\aj H (upd H' l (.lst (cs.map V.int++[.int z])))/\(upd H' l (.lst (cs.map V.int++[.int z]))) l=some (.lst (cs'.map V.int))/\cs'.length=i+1):=fun z x3 x4 x5 x2=>⟨_,_,_,_,cs++[z],rfl,sH.cw n1,by rw [aw,agD];rfl,by rw [agn,ago,hlen]⟩
   have SW:i<63:=by have:i<(63:Int).toNat:=hi;exact this
   rw [zero_add]
   walk_at "j"
   refine join (fun σ' H2=>∃ (c:Int),σ'=[some (.ref a),some (.ref l),some (.int (i:Int)),some (.int c),o4,o5]/\H2=H') (fun nx EB=>?_) (fun σ' H2 hP=>?_)
   ·walk_at "w"
    refine aX (fun h=>?_) (fun h=>?_)
    ·have h':=af7 h
     have NW:i<ns.length:=by rw [agm] at h';lia
     walk_at "w"
     refine bK Bx (aH (j:=i) (int_at NW)) ?_
     walk_at "w"
     exact EB _ _ ⟨_,rfl,rfl⟩
    ·walk_at "w"
     exact EB _ _ ⟨_,rfl,rfl⟩
   obtain ⟨c,rfl,hH⟩:=hP
   subst hH
   have e60:(0:Int)<10 ^ Int.toNat 60:=by decide
   have elseW:∀ (R:St->Hp->Prop),True:=fun _=>trivial
   walk_at "w"
   refine aX (fun h=>?_) (fun h=>?_)
   ·have h':=af7 h
    rw [agm] at h'
    walk_at "w"
    refine bK Bx (aH (j:=0) (int_at (by lia))) ?_
    walk_at "w"
    refine aX (fun h2=>?_) (fun h2=>?_)
    ·walk_at "w"
     refine dn ml (by simp;lia) ?_
     exact fin _ _ _ _ _
    ·walk_at "w"
     refine dn ml (by simp;lia) ?_
     exact fin _ _ _ _ _
   ·walk_at "w"
    refine Hj ?_
    walk_at "w"
    refine dn ml (by simp;lia) ?_
    exact fin _ _ _ _ _
  obtain ⟨o2,o3,o4,o5,cs,rfl,sH,ml,hlen⟩:=hP
  walk_at "w"
  exact k l H' cs n1 sH ml hlen
theorem By:aN ["_law_cell","_law_most"] ["_law_cell","_law_most"] (ag fJ):=⟨rfl,rfl,rfl,by decide +kernel,rfl,by decide +kernel,by decide +kernel⟩
theorem Bz (D:Def K mg "_law_near" fJ ["_law_cell","_law_most"]) (T:Txt K mg G) (Y:base.NoSeer/\P.given.tree=none):Ok P w K mg base 1 "_law_near" ["_law_cell","_law_most"] (jL K):=by
 have S:=By
 refine D.ok S (fun vs H Q E h=>?_) (fun f dh A outer s H vs Q E hr h=>?_)
 ·obtain ⟨_,_,rfl,_⟩:=h;rfl
 ·obtain ⟨c,m,rfl,hm,k⟩:=h
  have hu:=bG hr
  have aI:=T.aI
  refine⟨_,(ai (aS (ay oI (ay bD (ay cV (pv 0) (pv 1)) (ay cV (ay dE ae (pv 1)) ae)) (pv 1)))),?_⟩
  have hp:(0:Int)<2*m+1:=by lia
  walk_at "w"
  exact k
theorem BA:aN ["_law_one","_law_q","_law_other"] ["_law_one","_law_q","_law_other"] (ag fK):=⟨rfl,rfl,rfl,by decide +kernel,rfl,by decide +kernel,by decide +kernel⟩
theorem BB (D:Def K mg "_law_plus" fK ["_law_one","_law_q","_law_other"]) (T:Txt K mg G) (Y:base.NoSeer/\P.given.tree=none):Ok P w K mg base 1 "_law_plus" ["_law_one","_law_q","_law_other"] (df K):=by
 have S:=BA
 refine D.ok S (fun vs H Q E h=>?_) (fun f dh A outer s H vs Q E hr h=>?_)
 ·obtain ⟨_,_,_,_,_,rfl,_⟩:=h;rfl
 ·obtain ⟨a,b,n,r,q,rfl,ha,hb,hl,h1,hm,k⟩:=h
  have hu:=bG hr
  have aI:=T.aI
  refine⟨_,(ai (aS (bN (fz K rfl) rfl T.gy boot_tuple (aa (bQ (N:=["_law_a","_law_b","_law_q"]) (ix:=[none,none,some 1]) rfl (mP K rfl true true rfl T.Bl (aa (pv 0) (aa (pv 2) af))) (fun _ _ _ _ _=>(fD (n:=2) K rfl rfl (bP (aD (i:=0) (show jz ["_law_a","_law_b","_law_q"] by decide +kernel) rfl (Or.inl rfl)) (bP (aD (i:=1) (show jz ["_law_a","_law_b","_law_q"] by decide +kernel) rfl (Or.inl rfl)) fC)))) (fun _ _ _ _ _=>rfl) (fun _ _ _ _ _=>(ay cV (pv 0) (ay Lk (pv 2) (pv 1)))) rfl (by decide +kernel) (by decide +kernel) rfl ⟨⟨rfl,Or.inr (Or.inl rfl),rfl,rfl⟩,True.intro⟩) af)))),?_⟩
  walk_at "w"
  refine FI (k1:=true) (k2:=true) (xs:=r.map V.int) (ys:=q.map V.int) [some (.int n)] (fun i=>.int (r.getD i 0+n*q.getD i 0)) rfl (iz ha) (iz hb) (by simp;lia) (by simp;lia) (fun i x y H2 Qc hx hy s kc=>?_) (fun l H2 RQ s m=>?_)
  ·obtain ⟨rfl,hi⟩:=d9 hx
   obtain ⟨rfl,hj⟩:=d9 hy
   have X2:=hm (q.getD i 0) (getD_mem hj)
   walk_at "w"
   exact kc _ (aj.refl _)
  have e:(List.range (r.map V.int).length).map (fun i=>V.int (r.getD i 0+n*q.getD i 0))=(List.range (r.map V.int).length).map (fun i=>V.int (r.getD i 0+n*(q.take r.length).getD i 0)):=agF fun i hi=>by
   have SW:i<r.length:=by have:=agy.mp hi;rwa [agm] at this
   have eq:(q.take r.length).getD i 0=q.getD i 0:=by
    simp only [List.getD]
    rw [List.getElem?_take_of_lt SW]
   rw [eq]
  rw [e,FJ (by rw [agA];lia)] at m
  walk_at "w"
  rename_i p3 H3 s3 m3
  exact k _ _ (s.trans s3) (aZ.of m3)
theorem wm:aN ["_law_one","_law_other","_law_left"] ["_law_one","_law_other"] (ag dR):=⟨rfl,rfl,rfl,by decide +kernel,rfl,by decide +kernel,by decide +kernel⟩
theorem wo (D:Def K mg "_law_divisor" dR ["_law_one","_law_other"]) (T:Txt K mg G) (Y:base.NoSeer/\P.given.tree=none):Ok P w K mg base 1 "_law_divisor" ["_law_one","_law_other"] (ji K):=by
 have S:=wm
 refine D.ok S (fun vs H Q E h=>?_) (fun f dh A outer s H vs Q E hr h=>?_)
 ·obtain ⟨_,_,rfl,_⟩:=h;rfl
 ·obtain ⟨x,y,rfl,k⟩:=h
  have hu:=bG hr
  have aI:=T.aI
  refine⟨_,(ah (vn PassesOwn.never (aM gc (pv 1) ae (aQ _)) (ah (aU (i:=2) S.nd rfl (Or.inl rfl) (ay DP (pv 0) (pv 1))) (ah (aU (i:=0) S.nd rfl (Or.inl rfl) (pv 1)) (ai (aU (i:=1) S.nd rfl (Or.inl rfl) (pv 2)))))) (ai (aS (bu ki rfl T.Bj boot_abs (aa (pv 0) af))))),?_⟩
  walk_at "w"
  refine zu (fun m σ' H'=>∃ (p q:Int) (o:Option V),σ'=[some (.int p),some (.int q),o]/\H'=H/\m=q.natAbs/\Int.gcd p q=Int.gcd x y) y.natAbs ⟨x,y,_,rfl,rfl,rfl,rfl⟩ (fun m σ' H' hw=>?_)
  obtain ⟨p,q,o,rfl,rfl,rfl,hg⟩:=hw
  walk_at "w"
  refine aX (fun hc=>?_) (fun hc=>?_)
  ·have hq:q≠0:=by simpa using hc
   refine Om ?_
   walk_at "w"
   exact⟨(p.fmod q).natAbs,(oa p hq).1,q,p.fmod q,_,rfl,rfl,rfl,by rw [HI];exact hg⟩
  ·have hq:q=0:=by simpa using hc
   subst hq
   walk_at "w"
   have e:(if p<0 then -p else p)=((Int.gcd x y:Nat):Int):=by
    rw [<- hg,Int.gcd_zero_right]
    split <;> lia
   rw [e]
   exact k
theorem zO:aN ["_law_cells_here","_law_found","_law_cell"] ["_law_cells_here"] (ag eX):=⟨rfl,rfl,rfl,by decide +kernel,rfl,by decide +kernel,by decide +kernel⟩
theorem zP (D:Def K mg "_law_sizes" eX ["_law_cells_here"]) (T:Txt K mg G) (Y:base.NoSeer/\P.given.tree=none):Ok P w K mg base 1 "_law_sizes" ["_law_cells_here"] (lC K):=by
 have S:=zO
 refine D.ok S (fun vs H Q E h=>?_) (fun f dh A outer s H vs Q E hr h=>?_)
 ·obtain ⟨_,_,rfl,_⟩:=h;rfl
 ·obtain ⟨a,cs,rfl,ha,h5,k⟩:=h
  have hu:=bG hr
  have aI:=T.aI
  refine⟨_,(ah (aU (i:=1) S.nd rfl (Or.inl rfl) (dk af)) (ah (dj PassesOwn.never rfl (bh K rfl (pv 0)) (aD (i:=2) S.nd rfl (Or.inl rfl)) (ai (b9 (aM dH (ay bD (pv 2) ae) ae (aQ _)) (ai (dW (ip PySem.F.plainAttrs_list PySem.F.slot_list_append PySem.F.type_list_append cB (pv 1) (aa ae af)))) (ai (b9 (aM dH (ay bD (pv 2) ae) ae (aQ _)) (ai (dW (ip PySem.F.plainAttrs_list PySem.F.slot_list_append PySem.F.type_list_append cB (pv 1) (aa (ay cV ae (ay bD (ay cD (pv 2) ae) ae)) af)))) (ai (dW (ip PySem.F.plainAttrs_list PySem.F.slot_list_append PySem.F.type_list_append cB (pv 1) (aa ae af))))))))) (ai (aS (pv 1))))),?_⟩
  walk_at "w"
  rename_i l1 H1 n1 s1 m1
  refine iA (xs:=cs.map V.int) (fun i σ Hn=>∃ (o1:Option V) (ms:List Int),σ=[some (.ref a),some (.ref l1),o1]/\aj H Hn/\Hn l1=some (.lst (ms.map V.int))/\ms.length=i/\∀ m∈ms,0<=m/\m<=12) ⟨_,[],rfl,s1,m1,rfl,fun _ z=>nomatch z⟩ (fun i σ Hn hp=>by obtain ⟨_,_,rfl,sn,_⟩:=hp;exact sn.seq ha) (fun i x σ Hn hx hp=>?_) (fun σ Hn hp=>?_)
  ·obtain ⟨o1,ms,rfl,sn,e,lm,hb⟩:=hp
   obtain ⟨rfl,hi⟩:=d9 hx
   generalize cs.getD i 0=c
   have up:∀ g:Int,0<=g->g<=12->∀ m∈ms++[g],0<=m/\m<=12:=fun g h1 h2 m hm=>by
    rcases agk.mp hm with z|z
    ·exact hb m z
    ·rw [agj.mp z];exact⟨h1,h2⟩
   walk_at "w"
   refine aX (fun h4=>?_) (fun h4=>?_)
   ·walk_at "w"
    refine dn e (by simp;lia) ?_
    exact⟨_,ms++[0],rfl,sn.cw n1,by rw [agD];exact aw,by simp [lm],up 0 (by decide) (by decide)⟩
   ·walk_at "w"
    refine aX (fun h5=>?_) (fun h5=>?_)
    ·walk_at "w"
     refine dn e (by simp;lia) ?_
     exact⟨_,ms++[2+c / 4 % 11],rfl,sn.cw n1,by rw [agD];exact aw,by simp [lm],up _ (by lia) (by lia)⟩
    ·walk_at "w"
     refine dn e (by simp;lia) ?_
     exact⟨_,ms++[1],rfl,sn.cw n1,by rw [agD];exact aw,by simp [lm],up 1 (by decide) (by decide)⟩
  obtain ⟨o1,ms,rfl,sn,e,lm,hb⟩:=hp
  rw [agm] at lm
  walk_at "w"
  exact k l1 Hn ms sn n1 e (by lia) hb
theorem xE:aN ["_law_found"] ["_law_found"] (ag eA):=⟨rfl,rfl,rfl,by decide +kernel,rfl,by decide +kernel,by decide +kernel⟩
theorem xF (D:Def K mg "_law_is_row" eA ["_law_found"]) (T:Txt K mg G) (Y:base.NoSeer/\P.given.tree=none):Ok P w K mg base 1 "_law_is_row" ["_law_found"] (ig K):=by
 have S:=xE
 refine D.ok S (fun vs H Q E h=>?_) (fun f dh A outer s H vs Q E hr h=>?_)
 ·obtain ⟨_,_,rfl,_⟩:=h;rfl
 ·obtain ⟨a,r,rfl,ha,hl,k⟩:=h
  have hu:=bG hr
  have aI:=T.aI
  refine⟨_,(ah (b9 (PW.pt (L7 (rP (mE (bu (nO K rfl) rfl T.iT boot_isinstance (aa (pv 0) (aa (uV (v:=V.ty "tuple") rfl T.gy boot_tuple rfl) af))))) (GV (aM gc (bu (gk K rfl) rfl T.jI PySem.boot_len (aa (pv 0) af)) ae (aQ _))))) (ai (aS n0)) bA) (ai (aS (bu (zv K rfl rfl) rfl T.Eu boot_all (aa (bQ (N:=["_law_number"]) (ix:=[none]) rfl (qk K rfl (pv 0)) (fun _ _ _ _ _=>(aD (i:=0) (show jz ["_law_number"] by decide +kernel) rfl (Or.inl rfl))) (fun _ _ _ _ _=>rfl) (fun _ _ _ _ _=>(vk (bu (nO K rfl) rfl T.iT boot_isinstance (aa (pv 0) (aa (uV (v:=V.ty "int") rfl T.Ew boot_int rfl) af))) (vj (Nd (bu (nO K rfl) rfl T.iT boot_isinstance (aa (pv 0) (aa (uV (v:=V.ty "bool") rfl T.IS boot_bool rfl) af))))))) rfl (by decide +kernel) (by decide +kernel) rfl True.intro) af))))),?_⟩
  walk_at "w"
  refine Hj ?_
  walk_at "w"
  refine gj (by simp [hl]) ?_
  walk_at "w"
  refine nJ (r:=r) (fun _=>.bl true) [] rfl ha (by lia) (fun x H' Qc hx s kc=>?_) (fun l H1 RQ s1 m1=>?_)
  ·walk_at "w"
   refine NK ?_
   walk_at "w"
   exact kc _ (aj.refl _)
  have e:r.map (fun _=>V.bl true)=(List.replicate r.length true).map V.bl:=by rw [List.map_const',List.map_replicate]
  rw [e] at m1
  walk_at "w"
  refine Ee (aW.of m1) ?_
  rw [all_true]
  exact k _ s1
theorem zQ:aN ["_law_key","_law_row","_law_total"] ["_law_key","_law_row"] (ag eZ):=⟨rfl,rfl,rfl,by decide +kernel,rfl,by decide +kernel,by decide +kernel⟩
theorem zR (D:Def K mg "_law_value" eZ ["_law_key","_law_row"]) (T:Txt K mg G) (Y:base.NoSeer/\P.given.tree=none):Ok P w K mg base 1 "_law_value" ["_law_key","_law_row"] (lE K):=by
 have S:=zQ
 refine D.ok S (fun vs H Q E h=>?_) (fun f dh A outer s H vs Q E hr h=>?_)
 ·obtain ⟨_,_,_,_,_,_,rfl,_⟩:=h;rfl
 ·obtain ⟨kt,w,a,m,ws,row,rfl,hk,hw,ha,lw,X3,hm,hwf,X4,k⟩:=h
  have hu:=bG hr
  have aI:=T.aI
  refine⟨_,(ah (aU (i:=2) S.nd rfl (Or.inl rfl) (bu (CM K rfl rfl) rfl T.IU boot_sum (aa (bQ (N:=["_law_a","_law_b"]) (ix:=[none,none]) rfl (mP K rfl true true rfl T.Bl (aa (aR (aC K rfl) (pv 0) ae (fun _ _=>rfl)) (aa (pv 1) af))) (fun _ _ _ _ _=>(fD (n:=2) K rfl rfl (bP (aD (i:=0) (show jz ["_law_a","_law_b"] by decide +kernel) rfl (Or.inl rfl)) (bP (aD (i:=1) (show jz ["_law_a","_law_b"] by decide +kernel) rfl (Or.inl rfl)) fC)))) (fun _ _ _ _ _=>rfl) (fun _ _ _ _ _=>(ay zf (pv 0) (pv 1))) rfl (by decide +kernel) (by decide +kernel) rfl True.intro) af))) (ah (b9 (aM gc (aR (aC K rfl) (pv 0) ae (fun _ _=>rfl)) ae (aQ _)) (ai (aU (i:=2) S.nd rfl (Or.inl rfl) (ay bD (pv 2) (aR (aC K rfl) (pv 0) ae (fun _ _=>rfl))))) bA) (ai (aS (pv 2))))),?_⟩
  walk_at "w"
  refine Ej (r:=ws) (q:=row) rfl (iz hw) (iz ha) (by lia) (by lia) (Ar.mul hwf X4 (by decide) (by lia)) fun l3 H3 n3 s3 m3=>?_
  have ed:(List.zipWith (·*·) ws row).sum=dot row ws:=cW ws row
  walk_at "w"
  refine Ia (aW.of m3) ?_
  rw [ed]
  have hk3:=s3.at hk
  walk_at "w"
  refine aX (fun h4=>?_) (fun h4=>?_)
  ·have LJ:m≠0:=by simpa using h4
   have e:val ws m row=dot row ws % m:=by unfold val;rw [if_neg LJ]
   rw [e] at k
   have Tp:0<m:=by lia
   walk_at "w"
   exact k _ s3
  ·have LJ:m=0:=by simpa using h4
   have e:val ws m row=dot row ws:=by unfold val;rw [if_pos LJ]
   rw [e] at k
   walk_at "w"
   exact k _ s3
theorem BC:aN ["_law_sizes_here","_law_powers","_law_k"] ["_law_sizes_here","_law_powers"] (ag fO):=⟨rfl,rfl,rfl,by decide +kernel,rfl,by decide +kernel,by decide +kernel⟩
theorem BD (D:Def K mg "_law_made" fO ["_law_sizes_here","_law_powers"]) (T:Txt K mg G) (Y:base.NoSeer/\P.given.tree=none):Ok P w K mg base 1 "_law_made" ["_law_sizes_here","_law_powers"] (ni K):=by
 have S:=BC
 refine D.ok S (fun vs H Q E h=>?_) (fun f dh A outer s H vs Q E hr h=>?_)
 ·obtain ⟨_,_,_,_,rfl,_⟩:=h;rfl
 ·obtain ⟨a,b,ms,ps,rfl,ha,la,BE,hb,lb,k⟩:=h
  have hu:=bG hr
  have aI:=T.aI
  refine⟨_,(ah (dj PassesOwn.never rfl (cf rfl T.cY (aa ae af)) (aD (i:=2) S.nd rfl (Or.inl rfl)) (ah (b9 (PW.pt (i4 (aM dH (aR (aC K rfl) (pv 0) (pv 2) (fun _ _=>rfl)) ae (aQ _)) (hG (aM gc (aR (aC K rfl) (pv 1) (pv 2) (fun _ _=>rfl)) ae (aQ _))))) (ai (aS n0)) bA) (ai (b9 (PW.pt (i4 (aM gc (aR (aC K rfl) (pv 0) (pv 2) (fun _ _=>rfl)) ae (aQ _)) (hG (aM gc (ay bD (aR (aC K rfl) (pv 1) (pv 2) (fun _ _=>rfl)) (aR (aC K rfl) (pv 0) (pv 2) (fun _ _=>rfl))) ae (aQ _))))) (ai (aS n0)) bA)))) (ai (aS n0))),?_⟩
  walk_at "w"
  refine kO (n:=5) (fun i σ Hn=>∃ (o:Option V),σ=[some (.ref a),some (.ref b),o]/\Hn=H/\∀ j,j<i->ms.getD j 0 ∣ ps.getD j 0) ⟨_,rfl,rfl,fun j hj=>absurd hj (agU _)⟩ (fun i σ Hn hi hp=>?_) (fun σ Hn hp=>?_)
  ·obtain ⟨o,rfl,rfl,eT⟩:=hp
   have OO:i<5:=hi
   have hm:=BE (ms.getD i 0) (getD_mem (by lia))
   have ea:t6 (ms.map V.int) (i:Int)=some (.int (ms.getD i 0)):=aH (int_at (by lia))
   have eb:t6 (ps.map V.int) (i:Int)=some (.int (ps.getD i 0)):=aH (int_at (by lia))
   have no:¬ (ms.getD i 0 ∣ ps.getD i 0)->¬ ∀ j,j<5->ms.getD j 0 ∣ ps.getD j 0:=fun h z=>h (z i OO)
   have up:ms.getD i 0 ∣ ps.getD i 0->∀ j,j<i+1->ms.getD j 0 ∣ ps.getD j 0:=fun h j hj=>by
    rcases (show j<i\/j=i by lia) with z|z
    ·exact eT j z
    ·rw [z];exact h
   generalize ms.getD i 0=m at *
   generalize ps.getD i 0=q at *
   rw [zero_add]
   walk_at "w"
   refine bK ha ea ?_
   walk_at "w"
   refine aX (fun h0=>?_) (fun h0=>?_)
   ·have X5:m=0:=af7 h0
    subst X5
    walk_at "w"
    refine bK hb eb ?_
    walk_at "w"
    refine aX (fun h1=>?_) (fun h1=>?_)
    ·have Fh:q≠0:=by simpa using h1
     walk_at "w"
     exact k false _ (aj.refl _) ⟨(fun z=>nomatch z),fun z=>absurd z (no fun d=>Fh (agK.mp d))⟩
    ·have Fh:q=0:=by simpa using h1
     subst Fh
     walk_at "w"
     refine bK ha ea ?_
     walk_at "w"
     refine gj rfl ?_
     walk_at "w"
     exact⟨_,rfl,rfl,up (dvd_refl _)⟩
   ·have X5:m≠0:=af8 h0
    have hmp:0<m:=by lia
    walk_at "w"
    refine Hj ?_
    walk_at "w"
    refine bK ha ea ?_
    walk_at "w"
    refine yC (by simpa using X5) ?_
    walk_at "w"
    refine bK hb eb ?_
    walk_at "w"
    refine bK ha ea ?_
    walk_at "w"
    refine aX (fun h1=>?_) (fun h1=>?_)
    ·have Fh:q % m≠0:=by simpa using h1
     walk_at "w"
     exact k false _ (aj.refl _) ⟨(fun z=>nomatch z),fun z=>absurd z (no fun d=>Fh (Int.emod_eq_zero_of_dvd d))⟩
    ·have Fh:q % m=0:=by simpa using h1
     walk_at "w"
     exact⟨_,rfl,rfl,up (Int.dvd_of_emod_eq_zero Fh)⟩
  obtain ⟨o,rfl,rfl,eT⟩:=hp
  walk_at "w"
  exact k true _ (aj.refl _) ⟨fun _=>eT,fun _=>rfl⟩
theorem zS:aN ["_law_found","_law_due"] ["_law_found","_law_due"] (ag fb):=⟨rfl,rfl,rfl,by decide +kernel,rfl,by decide +kernel,by decide +kernel⟩
theorem zT (D:Def K mg "_law_truth" fb ["_law_found","_law_due"]) (T:Txt K mg G) (Y:base.NoSeer/\P.given.tree=none):Ok P w K mg base 1 "_law_truth" ["_law_found","_law_due"] (iU K):=by
 have S:=zS
 refine D.ok S (fun vs H Q E h=>?_) (fun f dh A outer s H vs Q E hr h=>?_)
 ·obtain ⟨_,_,rfl,_⟩:=h;rfl
 ·obtain ⟨b,c,rfl,k⟩:=h
  have hu:=bG hr
  have aI:=T.aI
  refine⟨_,(ai (aS (vk (bu (nO K rfl) rfl T.iT boot_isinstance (aa (pv 0) (aa (uV (v:=V.ty "bool") rfl T.IS boot_bool rfl) af))) (vj (fo dH (pv 0) (pv 1) (aQ _)))))),?_⟩
  walk_at "w"
  refine NK ?_
  walk_at "w"
  have e:decide (b=c)=(b == c):=by cases b <;> cases c <;> rfl
  rw [e] at k
  exact k
theorem xG:aN ["_law_rows","_law_found","_law_row"] ["_law_rows"] (ag eC):=⟨rfl,rfl,rfl,by decide +kernel,rfl,by decide +kernel,by decide +kernel⟩
theorem xH (D:Def K mg "_law_joined" eC ["_law_rows"]) (T:Txt K mg G) (Y:base.NoSeer/\P.given.tree=none):Ok P w K mg base 1 "_law_joined" ["_law_rows"] (j1 K):=by
 have S:=xG
 refine D.ok S (fun vs H Q E h=>?_) (fun f dh A outer s H vs Q E hr h=>?_)
 ·obtain ⟨_,_,_,rfl,_⟩:=h;rfl
 ·obtain ⟨a,xs,rs,rfl,ha,Cd,h6,h5,k⟩:=h
  have hu:=bG hr
  have aI:=T.aI
  refine⟨_,(ah (aU (i:=1) S.nd rfl (Or.inl rfl) (dk af)) (ah (dj PassesOwn.never rfl (bh K rfl (pv 0)) (aD (i:=2) S.nd rfl (Or.inl rfl)) (ai (aU (i:=1) S.nd rfl (Or.inl rfl) (ay oK (pv 1) (bN (jE K rfl) rfl T.mU boot_list (aa (pv 2) af)))))) (ai (aS (pv 1))))),?_⟩
  have lx:=Cd.length
  walk_at "w"
  rename_i l1 H1 n1 s1 m1
  refine iA (xs:=xs) (fun i σ' H'=>∃ (o:Option V) (lf:Addr),σ'=[some (.ref a),some (.ref lf),o]/\H lf=none/\aj H H'/\H' lf=some (.lst ((rs.take i).flatten.map V.int))/\(rs.take i).flatten.length=5*i) ⟨_,l1,rfl,n1,s1,m1,rfl⟩ (fun i σ' H' hP=>by obtain ⟨_,_,rfl,_,sn,_⟩:=hP;exact sn.seq ha) (fun i z σ' H' hz hP=>?_) (fun σ' H' hP=>?_)
  ·obtain ⟨o,lf,rfl,nf,sn,mf,lf5⟩:=hP
   obtain ⟨p,r,rfl,hp,hi⟩:=Cd.get hz
   have NW:i<rs.length:=(afX.mp hi).1
   have l5:=h5 r (agl hi)
   walk_at "w"
   rename_i p2 H2 n2 s2 m2
   refine yB (s2 _ _ mf) m2 (by rw [agm,agm];lia) fun p3 H3 n3 s3 m3=>?_
   have Qv:=sn.trans (s2.trans s3)
   have e:(rs.take (i+1)).flatten=(rs.take i).flatten++r:=by rw [take_snoc hi,List.flatten_append];simp
   refine⟨_,p3,rfl,(sn.trans s2).new n3,Qv,by rw [e,agD];exact m3,by rw [e,agn];lia⟩
  obtain ⟨o,lf,rfl,nf,sn,mf,lf5⟩:=hP
  rw [<- lx,agz] at mf
  walk_at "w"
  exact k lf H' nf sn mf
theorem uF:aN ["self","row"] ["self","row"] (ag dv):=⟨rfl,rfl,rfl,by decide +kernel,rfl,by decide +kernel,by decide +kernel⟩
theorem uG (D:ir K G.gv "sound" "Tuning.sound" dv ["self","row"]) (T:Txt K mg G) (Y:base.NoSeer/\P.given.tree=none):oi P w K mg base 1 G.gv ["self","row"] (iD K):=by
 have S:=uF
 refine D.ok S (fun vs H Q E h=>?_) (fun f dh A outer s H vs Q E hr h=>?_)
 ·obtain ⟨_,_,rfl,_⟩:=h;rfl
 ·obtain ⟨x,y,rfl,k⟩:=h
  have hu:=bG hr
  have aI:=T.aI
  refine⟨_,(ai (aS (pv 1))),?_⟩
  walk_at "w"
  exact k
theorem oZ:aN ["self"] ["self"] (ag cx):=⟨rfl,rfl,rfl,by decide +kernel,rfl,by decide +kernel,by decide +kernel⟩
theorem o9 (D:ir K G.dM "table_of" "Tuning.table_of" cx ["self"]) (T:Txt K mg G) (Y:base.NoSeer/\P.given.tree=none):oi P w K mg base 1 G.dM ["self"] (dz K):=by
 have S:=oZ
 refine D.ok S (fun vs H Q E h=>?_) (fun f dh A outer s H vs Q E hr h=>?_)
 ·obtain ⟨_,rfl,_⟩:=h;rfl
 ·obtain ⟨x,rfl,k⟩:=h
  have hu:=bG hr
  have aI:=T.aI
  refine⟨_,(ai (aS (dk af))),?_⟩
  walk_at "w"
  rename_i l H1 n1 s1 m1
  exact k l H1 n1 s1 m1
theorem kB:aN ["self"] ["self"] (ag bL):=⟨rfl,rfl,rfl,by decide +kernel,rfl,by decide +kernel,by decide +kernel⟩
theorem kC (D:ir K G.cz "table_of" "CommaTuning.table_of" bL ["self"]) (T:Txt K mg G) (Y:base.NoSeer/\P.given.tree=none):oi P w K mg base 1 G.cz ["self"] (ck K):=by
 have S:=kB
 refine D.ok S (fun vs H Q E h=>?_) (fun f dh A outer s H vs Q E hr h=>?_)
 ·obtain ⟨_,_,_,rfl,_⟩:=h;rfl
 ·obtain ⟨x,l,st,rfl,⟨C,dx,ys,hC,hx,m1,r1⟩,k⟩:=h
  have hu:=bG hr
  have aI:=T.aI
  have bj:=T.bj
  have aE:=T.aE
  have au:=T.au
  have aO:=T.aO
  have ao:=T.ao
  have bC:=T.bC
  have aB:=T.aB
  have aF:=T.aF
  refine⟨_,(ai (aS (bN (jE K rfl) rfl T.mU boot_list (aa (qr K rfl (pv 0) rfl) af)))),?_⟩
  obtain rfl:G.aK=C:=by have:=T.bB;rw [hC] at this;cases this;rfl
  walk_at "w"
  rename_i l2 H2 n2 s2 m2
  exact k l2 H2 ys n2 s2 m2 (r1.same s2)
theorem Jc:aN ["key","row","total"] ["key","row"] (ag kW):=⟨rfl,rfl,rfl,by decide +kernel,rfl,by decide +kernel,by decide +kernel⟩
structure Jd(P:Program)(w:World)(K:Frag)(mg:Str->Option Value)(base:Heap)(G:kY):Prop where
 Tq:Ok P w K mg base 1 "heard" ["weights","row"] (qI K)
theorem Je (D:Def K mg "value" kW ["key","row"]) (T:Txt K mg G) (O:Jd P w K mg base G) (Y:base.NoSeer/\P.given.tree=none):Ok P w K mg base 2 "value" ["key","row"] (qJ K):=by
 have S:=Jc
 refine D.ok S (fun vs H Q E h=>?_) (fun f dh A outer s H vs Q E hr h=>?_)
 ·obtain ⟨_,_,_,_,_,_,rfl,_⟩:=h;rfl
 ·obtain ⟨kk,w,r,m,ws,rs,rfl,hk,hw,Cd,hl,hn,hm,h0,k⟩:=h
  have hu:=bG hr
  have aI:=T.aI
  refine⟨_,(ah (aU (i:=2) S.nd rfl (Or.inl rfl) (ba O.Tq (hr.mono (by decide)) (aa (aR (aC K rfl) (pv 0) ae (fun _ _=>rfl)) (aa (pv 1) af)))) (ai (aS (pP (aM dH (aR (aC K rfl) (pv 0) ae (fun _ _=>rfl)) ae (aQ _)) (pv 2) (ay bD (pv 2) (aR (aC K rfl) (pv 0) ae (fun _ _=>rfl))))))),?_⟩
  walk_at "w"
  refine LC ws rs hw Cd hl hn hm fun H1 s1=>?_
  walk_at "w"
  refine aX (fun hc=>?_) (fun hc=>?_)
  ·walk_at "w"
   unfold val at k
   rw [if_pos (af7 hc)] at k
   exact k _ s1
  ·have hz:m≠0:=af8 hc
   unfold val at k
   rw [if_neg hz] at k
   walk_at "w"
   exact k _ s1
theorem BF:aN ["_law_cells_here","_law_ones","_law_duals","_law_cell","_law_i","_law_j","_law_q"] ["_law_cells_here"] (ag fM):=⟨rfl,rfl,rfl,by decide +kernel,rfl,by decide +kernel,by decide +kernel⟩
structure BG(P:Program)(w:World)(K:Frag)(mg:Str->Option Value)(base:Heap)(G:kY):Prop where
 d5:Ok P w K mg base 1 "_law_plus" ["_law_one","_law_q","_law_other"] (df K)
theorem BH (D:Def K mg "_law_pair" fM ["_law_cells_here"]) (T:Txt K mg G) (O:BG P w K mg base G) (Y:base.NoSeer/\P.given.tree=none):Ok P w K mg base 2 "_law_pair" ["_law_cells_here"] (ng K):=by
 have S:=BF
 refine D.ok S (fun vs H Q E h=>?_) (fun f dh A outer s H vs Q E hr h=>?_)
 ·obtain ⟨_,_,rfl,_⟩:=h;rfl
 ·obtain ⟨a,cs,rfl,ha,hn,k⟩:=h
  have hu:=bG hr
  have aI:=T.aI
  refine⟨_,(ah (Bc (k:=1) (N:=["_law_i"]) (ix:=[none]) S.nd rfl (Or.inl rfl) rfl (cf rfl T.cY (aa ae af)) (fun _ _ _ _ _=>(aD (i:=0) (show jz ["_law_i"] by decide +kernel) rfl (Or.inr rfl))) (fun _ _ _ _ _=>rfl) (fun _ _ _ _ _=>(bN (fz K rfl) rfl T.gy boot_tuple (aa (bQ (N:=["_law_k","_law_i"]) (ix:=[none,some 0]) rfl (cf rfl T.cY (aa ae af)) (fun _ _ _ _ _=>(aD (i:=0) (show jz ["_law_k","_law_i"] by decide +kernel) rfl (Or.inl rfl))) (fun _ _ _ _ _=>rfl) (fun _ _ _ _ _=>(bN sh rfl T.Ew boot_int (aa (fo dH (pv 0) (pv 1) (aQ _)) af))) rfl (by decide +kernel) (by decide +kernel) rfl ⟨⟨rfl,Or.inr (Or.inl rfl),rfl,rfl⟩,True.intro⟩) af))) rfl (by decide +kernel) (by decide +kernel) rfl) (ah (aU (i:=2) S.nd rfl (Or.inl rfl) (bN (jE K rfl) rfl T.mU boot_list (aa (pv 1) af))) (ah (dj PassesOwn.never rfl (bh K rfl (pv 0)) (aD (i:=3) S.nd rfl (Or.inl rfl)) (ah (aU (i:=4) S.nd rfl (Or.inl rfl) (ay bD (pv 3) ae)) (ah (aU (i:=5) S.nd rfl (Or.inl rfl) (ay bD (ay cV (ay cV (pv 4) ae) (ay bD (ay cD (pv 3) ae) ae)) ae)) (ah (aU (i:=6) S.nd rfl (Or.inl rfl) (ay oI (ay bD (ay cD (pv 3) ae) ae) ae)) (ah (jR (ba O.d5 (hr.mono (by decide)) (aa (aR (aC K rfl) (pv 1) (pv 4) (fun _ _=>rfl)) (aa (pv 6) (aa (aR (aC K rfl) (pv 1) (pv 5) (fun _ _=>rfl)) af)))) (rQ (pv 1) (pv 4) set_list)) (ai (jR (ba O.d5 (hr.mono (by decide)) (aa (aR (aC K rfl) (pv 2) (pv 5) (fun _ _=>rfl)) (aa (yg rR (pv 6)) (aa (aR (aC K rfl) (pv 2) (pv 4) (fun _ _=>rfl)) af)))) (rQ (pv 2) (pv 5) set_list)))))))) (ai (aS (cP (aa (pv 1) (aa (pv 2) af)))))))),?_⟩
  walk_at "w"
  refine jU (K:=K) (n:=5) [] (fun i=>bW i 5) rfl (by decide) (fun i H' Qc hi s kc=>?_) (fun l1 H1 xs1 n1 s1 m1 r1=>?_)
  ·walk_at "w"
   refine ke (n:=5) (fun x=>.int (if x=(i:Int) then 1 else 0)) [some (.int i)] rfl (by decide) (fun x CO Qd hx s' kd=>?_) (fun l H3 hl s3 m3=>?_)
   ·walk_at "w"
    have:=kd _ (aj.refl _)
    by_cases h:x=(i:Int)
    ·rw [if_pos h] at this
     rw [aga h]
     exact this
    ·rw [if_neg h] at this
     rw [af9 h]
     exact this
   have e:(List.range 5).map (fun (j:Nat)=>V.int (if (j:Int)=(i:Int) then 1 else 0))=(bW i 5).map V.int:=by
    rw [bW,agE]
    refine agF fun j _=>?_
    simp only [Function.comp_apply,ofNat_inj]
   rw [e] at m3
   walk_at "w"
   rename_i p2 H2 s2 m2
   exact kc _ _ (s3.trans s2) (aZ.of m2)
  have eu:(List.range 5).map (fun i=>bW i 5)=eK:=by decide
  rw [eu] at r1
  walk_at "w"
  rename_i l2 H2 n2 s2 m2
  have ou:=s1.trans s2
  have VY:=r1.same s2
  have GO:=s2 _ _ m1
  have nl1:H l1=none:=n1
  have nl2:H l2=none:=s1.new n2
  have ne:l1≠l2:=fun z=>by rw [z,n2] at m1;cases m1
  clear s1 s2 m1 r1
  refine iA (xs:=cs.map V.int) (fun i σ Hn=>∃ (o1 o2 o3 o4:Option V) (xs ys:List V) (rs ss:List (List Int)),σ=[some (.ref a),some (.ref l1),some (.ref l2),o1,o2,o3,o4]/\aj H Hn/\Hn l1=some (.lst xs)/\av K Hn xs rs/\Hn l2=some (.lst ys)/\av K Hn ys ss/\rs.length=5/\ss.length=5/\Len 5 rs/\Len 5 ss/\mh rs ss/\DR rs ss/\(∀ v∈rs,bf (3 ^ i) v)/\∀ v∈ss,bf (3 ^ i) v) ⟨_,_,_,_,_,_,_,_,rfl,ou,GO,VY,m2,VY,rfl,rfl,nR,nR,mh.start,DR.start,vY,vY⟩ (fun i σ Hn hp=>by obtain ⟨_,_,_,_,_,_,_,_,rfl,sn,_⟩:=hp;exact sn.seq ha) (fun i x σ Hn hx hp=>?_) (fun σ Hn hp=>?_)
  ·obtain ⟨o1,o2,o3,o4,xs,ys,rs,ss,rfl,sn,mx,hr,my,hs,lr,ls,C2,BI,hD,hR,BJ,FY⟩:=hp
   obtain ⟨rfl,hi⟩:=d9 hx
   generalize cs.getD i 0=c
   have lx:=hr.length
   have ly:=hs.length
   obtain ⟨p,hp⟩:∃ p:Nat,c % 5=p:=⟨(c % 5).toNat,by lia⟩
   obtain ⟨q,hq⟩:∃ q:Nat,((p:Int)+1+c / 5 % 4) % 5=q:=⟨(((p:Int)+1+c / 5 % 4) % 5).toNat,by lia⟩
   have Lb:p<5:=by lia
   have Qw:q<5:=by lia
   have My:p≠q:=by lia
   have OV:-2<=c / 20 % 5 - 2/\c / 20 % 5 - 2<=2:=by lia
   obtain ⟨ap,rp,exp,EC,GP⟩:=hr.get (i:=p) (agg (by lia))
   obtain ⟨aq,rq,Tr,Ts,Tt⟩:=hr.get (i:=q) (agg (by lia))
   obtain ⟨bp,sp,eyp,V0,esp⟩:=hs.get (i:=p) (agg (by lia))
   obtain ⟨bq,sq,eyq,hbq,esq⟩:=hs.get (i:=q) (agg (by lia))
   have GQ:xs[p]?=some (.ref ap):=by rw [agg (by lia),exp]
   have Qx:xs[q]?=some (.ref aq):=by rw [agg (by lia),Tr]
   have gy1:ys[p]?=some (.ref bp):=by rw [agg (by lia),eyp]
   have gy2:ys[q]?=some (.ref bq):=by rw [agg (by lia),eyq]
   have GR:=agl GP
   have Tv:=agl Tt
   have msp:=agl esp
   have msq:=agl esq
   have oN:=C2 rp GR
   have Jf:=C2 rq Tv
   have X6:=BI sp msp
   have X7:=BI sq msq
   walk_at "v"
   rw [hp]
   walk_at "v"
   rw [hq]
   walk_at "v"
   generalize c / 20 % 5 - 2=n at OV
   refine bK (aW.of mx) (aH GQ) ?_
   walk_at "v"
   refine bK (aW.of mx) (aH Qx) ?_
   walk_at "v"
   refine fY (n:=n) rp rq EC Ts (by lia) (by lia) (fun y _=>.inl (.inl ⟨by lia,by lia⟩)) fun pa Ha sa ma=>?_
   walk_at "v"
   refine oO (j:=p) (sa _ _ mx) (jG (by lia)) ?_
   obtain ⟨HA,eA1,Qz,rA,sA,tA,snA,X8,X9,hHA⟩:∃ HA,HA l1=some (.lst (xs.set p (.ref pa)))/\HA l2=some (.lst ys)/\av K HA (xs.set p (.ref pa)) (rs.set p (dD rp n rq))/\av K HA ys ss/\True/\aj H HA/\aZ K HA bp (sp.map V.int)/\aZ K HA bq (sq.map V.int)/\HA=upd Ha l1 (.lst (xs.set p (V.ref pa))):=⟨_,aw,by rw [aG (Ne.symm ne)];exact sa _ _ my,av.setAt p ((hr.same sa).off (sa _ _ mx)) (cN ma (sa _ _ mx)),(hs.same sa).off (sa _ _ mx),trivial,(sn.trans sa).cw nl1,cN (sa.at V0) (sa _ _ mx),cN (sa.at hbq) (sa _ _ mx),rfl⟩
   rw [<- hHA]
   clear hHA
   walk_at "v"
   refine bK (aW.of Qz) (aH gy2) ?_
   walk_at "v"
   refine bK (aW.of Qz) (aH gy1) ?_
   walk_at "v"
   refine fY (n:=-n) sq sp X9 X8 (by lia) (by lia) (fun y _=>.inl (.inl ⟨by lia,by lia⟩)) fun pb Hb sb mb=>?_
   walk_at "v"
   refine oO (j:=q) (sb _ _ Qz) (jG (by lia)) ?_
   have e1:rs.getD p []=rp:=by rw [List.getD,GP];rfl
   have e2:rs.getD q []=rq:=by rw [List.getD,Tt];rfl
   have e3:ss.getD p []=sp:=by rw [List.getD,esp];rfl
   have e4:ss.getD q []=sq:=by rw [List.getD,esq];rfl
   have e5:low sq sp n=dD sq (-n) sp:=by rw [iX X7 X6,Int.neg_neg]
   have e6:low rp rq (-n)=dD rp n rq:=by rw [iX oN Jf]
   have hD2:=mh.NV (n:=n) lr ls C2 BI Lb Qw My hD
   have hR2:=DR.NV (n:=n) lr ls C2 BI Lb Qw My hR
   rw [e1,e2,e3,e4,e5,e6] at hD2 hR2
   have b3:∀ {v w:List Int} {k:Int},v.length=5->w.length=5->bf (3 ^ i) v->bf (3 ^ i) w->k.natAbs<=2->bf (3 ^ (i+1)) (dD v k w):=fun lv lw bv bw hk=>(mR lv lw bv bw hk).mono (by rw [pow_succ];lia)
   have up:∀ {v:List Int},bf (3 ^ i) v->bf (3 ^ (i+1)) v:=fun b=>b.mono (agt (by decide) (le_succ _))
   exact⟨_,_,_,_,xs.set p (.ref pa),ys.set q (.ref pb),rs.set p (dD rp n rq),ss.set q (dD sq (-n) sp),rfl,(snA.trans sb).cw nl2,by rw [aG ne];exact sb _ _ eA1,(rA.same sb).off (sb _ _ Qz),aw,av.setAt q ((sA.same sb).off (sb _ _ Qz)) (cN mb (sb _ _ Qz)),by rw [length_set];exact lr,by rw [length_set];exact ls,u0 C2 (fu oN Jf),u0 BI (fu X7 X6),hD2,hR2,u3 (fun v hv=>up (BJ v hv)) (b3 oN Jf (BJ _ GR) (BJ _ Tv) (by lia)),u3 (fun v hv=>up (FY v hv)) (b3 X7 X6 (FY _ msq) (FY _ msp) (by lia))⟩
  obtain ⟨o1,o2,o3,o4,xs,ys,rs,ss,rfl,sn,mx,hr,my,hs,lr,ls,C2,BI,hD,hR,BJ,FY⟩:=hp
  rw [agm] at BJ FY
  walk_at "w"
  rename_i pt Ht st mt
  exact k pt l1 l2 Ht xs ys rs ss (sn.trans st) (aZ.of mt) (st _ _ mx) (hr.same st) (st _ _ my) (hs.same st) lr ls C2 BI hD hR (fun v hv=>(BJ v hv).mono (agt (n:=3) (j:=6) (by decide) hn)) (fun v hv=>(FY v hv).mono (agt (n:=3) (j:=6) (by decide) hn))
theorem zU:aN ["_law_rows","_law_cells_here","_law_cell","_law_i","_law_j","_law_q"] ["_law_rows","_law_cells_here"] (ag eY):=⟨rfl,rfl,rfl,by decide +kernel,rfl,by decide +kernel,by decide +kernel⟩
structure zV(P:Program)(w:World)(K:Frag)(mg:Str->Option Value)(base:Heap)(G:kY):Prop where
 d5:Ok P w K mg base 1 "_law_plus" ["_law_one","_law_q","_law_other"] (df K)
theorem zW (D:Def K mg "_law_mixed" eY ["_law_rows","_law_cells_here"]) (T:Txt K mg G) (O:zV P w K mg base G) (Y:base.NoSeer/\P.given.tree=none):Ok P w K mg base 2 "_law_mixed" ["_law_rows","_law_cells_here"] (lD K):=by
 have S:=zU
 refine D.ok S (fun vs H Q E h=>?_) (fun f dh A outer s H vs Q E hr h=>?_)
 ·obtain ⟨_,_,_,_,_,_,rfl,_⟩:=h;rfl
 ·obtain ⟨l,b,M,xs,rs,cs,rfl,hl,mD,h5,xI,j7,hc,GA,k⟩:=h
  have hu:=bG hr
  have aI:=T.aI
  refine⟨_,(ah (aU (i:=0) S.nd rfl (Or.inl rfl) (bN (jE K rfl) rfl T.mU boot_list (aa (pv 0) af))) (ah (dj PassesOwn.never rfl (bh K rfl (pv 1)) (aD (i:=2) S.nd rfl (Or.inl rfl)) (ah (b9 (aM (iR K rfl hr.units) (pv 0) (dk af) (aQ _)) (ai (aS (pv 0))) bA) (ah (aU (i:=3) S.nd rfl (Or.inl rfl) (ay bD (pv 2) (bu (gk K rfl) rfl T.jI PySem.boot_len (aa (pv 0) af)))) (ah (aU (i:=4) S.nd rfl (Or.inl rfl) (ay bD (ay cD (pv 2) ae) (bu (gk K rfl) rfl T.jI PySem.boot_len (aa (pv 0) af)))) (ah (aU (i:=5) S.nd rfl (Or.inr rfl) (ay oI (ay bD (ay cD (pv 2) ae) ae) ae)) (ah (b9 (aM gc (pv 3) (pv 4) (aQ _)) (ai (jR (ba O.d5 (hr.mono (by decide)) (aa (aR (aC K rfl) (pv 0) (pv 3) (fun _ _=>rfl)) (aa (pv 5) (aa (aR (aC K rfl) (pv 0) (pv 4) (fun _ _=>rfl)) af)))) (rQ (pv 0) (pv 3) set_list))) bA) (ai (b9 (PW.pt (i4 (aM dH (ay bD (ay cD (pv 2) ae) ae) ae (aQ _)) (hG (aM vo (bu (gk K rfl) rfl T.jI PySem.boot_len (aa (pv 0) af)) ae (aQ _))))) (ai (dW (ip PySem.F.plainAttrs_list PySem.F.slot_list_insert PySem.F.type_list_insert yD (pv 0) (aa (pv 4) (aa (bN (fz K rfl) rfl T.gy boot_tuple (aa (bQ (N:=["_law_number","_law_q"]) (ix:=[none,some 5]) rfl (qk K rfl (aR (aC K rfl) (pv 0) (pv 3) (fun _ _=>rfl))) (fun _ _ _ _ _=>(aD (i:=0) (show jz ["_law_number","_law_q"] by decide +kernel) rfl (Or.inl rfl))) (fun _ _ _ _ _=>rfl) (fun _ _ _ _ _=>(ay dE (pv 1) (pv 0))) rfl (by decide +kernel) (by decide +kernel) rfl ⟨⟨rfl,Or.inr (Or.inl rfl),rfl,rfl⟩,True.intro⟩) af)) af))))) bA)))))))) (ai (aS (pv 0))))),?_⟩
  have lr:=mD.length
  walk_at "w"
  rename_i l1 H1 n1 s1 m1
  have hr1:=mD.same s1
  refine iA (xs:=cs.map V.int) (fun i σ Hn=>∃ (o1 o2 o3 o4:Option V) (ys:List V) (ts:List (List Int)),σ=[some (.ref l1),some (.ref b),o1,o2,o3,o4]/\aj H Hn/\Hn l1=some (.lst ys)/\av K Hn ys ts/\Eqv 5 rs ts/\Len 5 ts/\ts.length<=6/\∀ v∈ts,bf (M*6 ^ i) v) ⟨_,_,_,_,xs,rs,rfl,s1,m1,hr1,Eqv.refl,xI,by lia,fun v hv=>by simpa using j7 v hv⟩ (fun i σ Hn hp=>by obtain ⟨_,_,_,_,_,_,rfl,sn,_⟩:=hp;exact sn.seq hc) (fun i x σ Hn hx hp=>?_) (fun σ Hn hp=>?_)
  ·obtain ⟨o1,o2,o3,o4,ys,ts,rfl,sn,my,hr,hE,ED,OW,rL⟩:=hp
   obtain ⟨rfl,hi⟩:=d9 hx
   generalize cs.getD i 0=c
   have ly:=hr.length
   have h6i:M*6 ^ i<=M*216:=mul_le_mul_left _ (agt (n:=6) (j:=3) (by decide) (by lia))
   walk_at "w"
   rename_i pe He ne se me
   refine lU (.lst (aW.of (se _ _ my)) (hr.same se).tells) (.lst (aW.of me) .nil) (iq ts) rfl ?_
   rw [show PyData.eqv (.list (ts.map fun r=>.tuple (r.map PyData.int))) (.list [])=decide (ts=[]) from sk ts []]
   walk_at "w"
   refine aX (fun h4=>?_) (fun h4=>?_)
   ·walk_at "w"
    exact k l1 He ys ts (sn.trans se) n1 (se _ _ my) (hr.same se) hE ED OW fun v hv=>(rL v hv).mono h6i
   have xt:ts≠[]:=af8 h4
   have xr:0<ts.length:=Nat.pos_of_ne_zero fun z=>xt (List.eq_nil_of_length_eq_zero z)
   have uH:=se _ _ my
   have ua:=hr.same se
   have OX:=sn.trans se
   clear my hr sn se me
   have z1:=emod_nonneg c (show (ys.length:Int)≠0 by lia)
   have z2:=emod_lt_of_pos c (show (0:Int)<(ys.length:Int) by lia)
   have z3:=emod_nonneg (c / 7) (show (ys.length:Int)≠0 by lia)
   have z4:=emod_lt_of_pos (c / 7) (show (0:Int)<(ys.length:Int) by lia)
   obtain ⟨p,hp⟩:∃ p:Nat,c % (ys.length:Int)=p:=⟨(c % (ys.length:Int)).toNat,by lia⟩
   obtain ⟨q,hq⟩:∃ q:Nat,c / 7 % (ys.length:Int)=q:=⟨(c / 7 % (ys.length:Int)).toNat,by lia⟩
   have OV:-2<=c / 49 % 5 - 2/\c / 49 % 5 - 2<=2:=by lia
   have Lb:p<ys.length:=by lia
   have Qw:q<ys.length:=by lia
   have hy0:(0:Int)<(ys.length:Int):=by lia
   walk_at "j"
   rw [hp]
   walk_at "j"
   rw [hq]
   walk_at "j"
   generalize c / 49 % 5 - 2=n at OV
   refine join (fun σ' Hx=>∃ (As:List V) (Jg:List (List Int)),σ'=[some (.ref l1),some (.ref b),some (.int c),some (.int p),some (.int q),some (.int n)]/\aj H Hx/\Hx l1=some (.lst As)/\av K Hx As Jg/\Eqv 5 rs Jg/\Len 5 Jg/\Jg.length=ts.length/\∀ v∈Jg,bf (M*6 ^ i*3) v) (fun nx EB=>?_) (fun σ' Hx hP=>?_)
   ·walk_at "w"
    refine aX (fun Tw=>?_) (fun Tw=>?_)
    ·have My:p≠q:=fun z=>by subst z;simp at Tw
     obtain ⟨ap,rp,exp,EC,GP⟩:=ua.get (i:=p) (agg (by lia))
     obtain ⟨aq,rq,Tr,Ts,Tt⟩:=ua.get (i:=q) (agg (by lia))
     have GQ:ys[p]?=some (.ref ap):=by rw [agg (by lia),exp]
     have Qx:ys[q]?=some (.ref aq):=by rw [agg (by lia),Tr]
     have GR:=agl GP
     have Tv:=agl Tt
     have oN:=ED rp GR
     have Jf:=ED rq Tv
     walk_at "v"
     refine bK (aW.of uH) (aH GQ) ?_
     walk_at "v"
     refine bK (aW.of uH) (aH Qx) ?_
     walk_at "v"
     refine fY (n:=n) rp rq EC Ts (by lia) (by lia) (fun y _=>.inl (.inl ⟨by lia,by lia⟩)) fun pa Ha sa ma=>?_
     walk_at "v"
     refine oO (j:=p) (sa _ _ uH) (jG (by lia)) ?_
     have up:∀ {v:List Int},bf (M*6 ^ i) v->bf (M*6 ^ i*3) v:=fun b=>b.mono (by lia)
     exact EB _ _ ⟨ys.set p (.ref pa),ts.set p (dD rp n rq),rfl,(OX.trans sa).cw n1,aw,av.setAt p ((ua.same sa).off (sa _ _ uH)) (cN ma (sa _ _ uH)),hE.trans (Lr ED My GP Tt),u0 ED (fu oN Jf),by rw [length_set],u3 (fun v hv=>up (rL v hv)) ((mR (P:=2) oN Jf (rL _ GR) (rL _ Tv) (by lia)).mono (by lia))⟩
    ·walk_at "w"
     exact EB _ _ ⟨ys,ts,rfl,OX,uH,ua,hE,ED,rfl,fun v hv=>(rL v hv).mono (by lia)⟩
   obtain ⟨As,Jg,rfl,OY,mx,Ce,OZ,Tx,ltx,MQ⟩:=hP
   have lyx:=Ce.length
   clear uH ua hE ED rL
   have h36:M*6 ^ (i+1)=M*6 ^ i*6:=by rw [pow_succ,mul_assoc]
   have oB:∀ v∈Jg,bf (M*6 ^ (i+1)) v:=fun v hv=>(MQ v hv).mono (by rw [h36];lia)
   walk_at "w"
   refine aX (fun h6=>?_) (fun h6=>?_)
   ·walk_at "w"
    refine aX (fun h7=>?_) (fun h7=>?_)
    ·have h7':=af7 h7
     obtain ⟨ap,rp,exp,EC,GP⟩:=Ce.get (i:=p) (agg (by lia))
     have GQ:As[p]?=some (.ref ap):=by rw [agg (by lia),exp]
     have GR:=agl GP
     have oN:=Tx rp GR
     walk_at "v"
     refine bK (aW.of mx) (aH GQ) ?_
     walk_at "v"
     refine nJ (r:=rp) (fun x=>.int (n*x)) [some (.int n)] rfl EC (by lia) (fun x H' Qc RT s kc=>?_) (fun l3 H3 n3 s3 m3=>?_)
     ·walk_at "w"
      exact kc _ (aj.refl _)
     have em:rp.map (fun x=>V.int (n*x))=(bJ rp n).map V.int:=by
      unfold bJ
      rw [agE]
      exact agF fun x _=>by rw [Function.comp_apply,Int.mul_comm]
     rw [em] at m3
     walk_at "w"
     rename_i p4 H4 s4 m4
     have yS:=s3.trans s4
     refine A5 (i:=q) (yS _ _ mx) (by lia) (by lia) ?_
     have bm:bf (M*6 ^ (i+1)) (bJ rp n):=fun z=>by
      rw [bg,agH]
      have h1:=agw (MQ rp GR z) (show n.natAbs<=2 by lia)
      rw [h36]
      lia
     refine⟨_,_,_,_,As.take q++.ref p4::As.drop q,Jg.take q++bJ rp n::Jg.drop q,rfl,(OY.trans yS).cw n1,aw,(((Ce.same yS).take q).append (.cons (aZ.of m4) ((Ce.same yS).drop q))).off (yS _ _ mx),OZ.trans (Eqv.ins (Span.mul oN (Span.mem GR) n)),fun v hv=>?_,by simp;lia,fun v hv=>?_⟩
     ·rcases agk.mp hv with z|z
      ·exact Tx v (agQ z)
      ·rcases agq.mp z with z|z
       ·rw [z];exact aA oN
       ·exact Tx v (mem_of_mem_drop z)
     ·rcases agk.mp hv with z|z
      ·exact oB v (agQ z)
      ·rcases agq.mp z with z|z
       ·rw [z];exact bm
       ·exact oB v (mem_of_mem_drop z)
    ·exact⟨_,_,_,_,As,Jg,rfl,OY,mx,Ce,OZ,Tx,by lia,oB⟩
   ·exact⟨_,_,_,_,As,Jg,rfl,OY,mx,Ce,OZ,Tx,by lia,oB⟩
  obtain ⟨o1,o2,o3,o4,ys,ts,rfl,sn,my,hr,hE,ED,OW,rL⟩:=hp
  rw [agm] at rL
  walk_at "w"
  exact k l1 Hn ys ts sn n1 my hr hE ED OW fun v hv=>(rL v hv).mono (mul_le_mul_left _ (agt (n:=6) (j:=3) (by decide) GA))
theorem qQ:aN ["_law_keys_here","_law_cells_here","_law_cell","_law_i","_law_j","_law_q","_law_row","_law_ring"] ["_law_keys_here","_law_cells_here"] (ag cG):=⟨rfl,rfl,rfl,by decide +kernel,rfl,by decide +kernel,by decide +kernel⟩
structure qR(P:Program)(w:World)(K:Frag)(mg:Str->Option Value)(base:Heap)(G:kY):Prop where
 d5:Ok P w K mg base 1 "_law_plus" ["_law_one","_law_q","_law_other"] (df K)
theorem qS (D:Def K mg "_law_mixed_keys" cG ["_law_keys_here","_law_cells_here"]) (T:Txt K mg G) (O:qR P w K mg base G) (Y:base.NoSeer/\P.given.tree=none):Ok P w K mg base 2 "_law_mixed_keys" ["_law_keys_here","_law_cells_here"] (gC K):=by
 have S:=qQ
 refine D.ok S (fun vs H Q E h=>?_) (fun f dh A outer s H vs Q E hr h=>?_)
 ·obtain ⟨_,_,_,_,_,_,rfl,_⟩:=h;rfl
 ·obtain ⟨l,b,M,xs,ks,cs,rfl,hl,QA,h5,hgk,hM,hc,GA,k⟩:=h
  have hu:=bG hr
  have aI:=T.aI
  refine⟨_,(ah (aU (i:=0) S.nd rfl (Or.inl rfl) (bN (jE K rfl) rfl T.mU boot_list (aa (pv 0) af))) (ah (dj PassesOwn.never rfl (bh K rfl (pv 1)) (aD (i:=2) S.nd rfl (Or.inr rfl)) (ah (b9 (aM (iR K rfl hr.units) (pv 0) (dk af) (aQ _)) (ai (aS (pv 0))) bA) (ah (aU (i:=3) S.nd rfl (Or.inl rfl) (ay bD (pv 2) (bu (gk K rfl) rfl T.jI PySem.boot_len (aa (pv 0) af)))) (ah (aU (i:=4) S.nd rfl (Or.inl rfl) (ay bD (ay cD (pv 2) ae) (bu (gk K rfl) rfl T.jI PySem.boot_len (aa (pv 0) af)))) (ah (aU (i:=5) S.nd rfl (Or.inl rfl) (ay oI (ay bD (ay cD (pv 2) ae) ae) ae)) (ah (aU (i:=6) S.nd rfl (Or.inl rfl) (aR (aC K rfl) (aR (aC K rfl) (pv 0) (pv 3) (fun _ _=>rfl)) ae (fun _ _=>rfl))) (ah (aU (i:=7) S.nd rfl (Or.inl rfl) (aR (aC K rfl) (aR (aC K rfl) (pv 0) (pv 3) (fun _ _=>rfl)) ae (fun _ _=>rfl))) (ah (b9 (PW.pt (i4 (aM gc (pv 3) (pv 4) (aQ _)) (hG (aM dH (aR (aC K rfl) (aR (aC K rfl) (pv 0) (pv 4) (fun _ _=>rfl)) ae (fun _ _=>rfl)) ae (aQ _))))) (ai (jR (cP (aa (ba O.d5 (hr.mono (by decide)) (aa (pv 6) (aa (pv 5) (aa (aR (aC K rfl) (aR (aC K rfl) (pv 0) (pv 4) (fun _ _=>rfl)) ae (fun _ _=>rfl)) af)))) (aa (pv 7) af))) (rQ (pv 0) (pv 3) set_list))) (ai (b9 (aM gc (pv 7) ae (aQ _)) (ai (jR (cP (aa (ba O.d5 (hr.mono (by decide)) (aa (pv 6) (aa (ay dE (pv 5) (pv 7)) (aa (bN (fz K rfl) rfl T.gy boot_tuple (aa (bQ (N:=["_law_k","_law_cell"]) (ix:=[none,some 2]) rfl (cf rfl T.cY (aa ae af)) (fun _ _ _ _ _=>(aD (i:=0) (show jz ["_law_k","_law_cell"] by decide +kernel) rfl (Or.inl rfl))) (fun _ _ _ _ _=>rfl) (fun _ _ _ _ _=>(bN sh rfl T.Ew boot_int (aa (fo dH (pv 0) (ay bD (pv 1) ae) (aQ _)) af))) rfl (by decide +kernel) (by decide +kernel) rfl ⟨⟨rfl,Or.inr (Or.inl rfl),rfl,rfl⟩,True.intro⟩) af)) af)))) (aa (pv 7) af))) (rQ (pv 0) (pv 3) set_list))) bA))) (ai (b9 (PW.pt (i4 (aM dH (ay bD (ay cD (pv 2) ae) ae) ae (aQ _)) (hG (aM vo (bu (gk K rfl) rfl T.jI PySem.boot_len (aa (pv 0) af)) ae (aQ _))))) (ai (dW (ip PySem.F.plainAttrs_list PySem.F.slot_list_insert PySem.F.type_list_insert yD (pv 0) (aa (pv 4) (aa (aR (aC K rfl) (pv 0) (pv 3) (fun _ _=>rfl)) af))))) bA)))))))))) (ai (aS (pv 0))))),?_⟩
  have lk:=QA.length
  walk_at "w"
  rename_i l1 H1 n1 s1 m1
  have hk1:=QA.same s1
  refine iA (xs:=cs.map V.int) (fun i σ Hn=>∃ (o1 o2 o3 o4 o5 o6:Option V) (ys:List V) (qs:List (List Int×Int)),σ=[some (.ref l1),some (.ref b),o1,o2,o3,o4,o5,o6]/\aj H Hn/\Hn l1=some (.lst ys)/\bx K Hn ys qs/\KE ks qs/\qs.length<=6/\∀ k∈qs,k.1.length=5/\bf (M*3 ^ i) k.1/\(k.2=0\/2<=k.2)/\k.2<=12) ⟨_,_,_,_,_,_,xs,ks,rfl,s1,m1,hk1,KE.refl _,by lia,fun k hk=>by simpa using hgk k hk⟩ (fun i σ Hn hp=>by obtain ⟨_,_,_,_,_,_,_,_,rfl,sn,_⟩:=hp;exact sn.seq hc) (fun i x σ Hn hx hp=>?_) (fun σ Hn hp=>?_)
  ·obtain ⟨o1,o2,o3,o4,o5,o6,ys,qs,rfl,sn,my,hr,hE,OW,rL⟩:=hp
   obtain ⟨rfl,hi⟩:=d9 hx
   generalize cs.getD i 0=c
   have ly:=hr.length
   have h3i:M*3 ^ i<=M*27:=mul_le_mul_left _ (agt (n:=3) (j:=3) (by decide) (by lia))
   have V1:M*3 ^ (i+1)=M*3 ^ i*3:=by rw [pow_succ,mul_assoc]
   have GN:12<=M*3 ^ i:=af0 hM (Nat.le_mul_of_pos_right _ (Nat.pow_pos (by decide)))
   walk_at "w"
   rename_i pe He ne se me
   refine lU (.lst (aW.of (se _ _ my)) (hr.same se).tells) (.lst (aW.of me) .nil) (Ba qs) rfl ?_
   rw [show PyData.eqv (.list (qs.map uB)) (.list [])=decide (qs=[]) from FL qs]
   walk_at "w"
   refine aX (fun h4=>?_) (fun h4=>?_)
   ·walk_at "w"
    exact k l1 He ys qs (sn.trans se) n1 (se _ _ my) (hr.same se) hE OW fun k hk=>⟨(rL k hk).1,(rL k hk).2.1.mono h3i,(rL k hk).2.2⟩
   have xt:qs≠[]:=af8 h4
   have xr:0<qs.length:=Nat.pos_of_ne_zero fun z=>xt (List.eq_nil_of_length_eq_zero z)
   have uH:=se _ _ my
   have ua:=hr.same se
   have OX:=sn.trans se
   clear my hr sn se me
   have z1:=emod_nonneg c (show (ys.length:Int)≠0 by lia)
   have z2:=emod_lt_of_pos c (show (0:Int)<(ys.length:Int) by lia)
   have z3:=emod_nonneg (c / 7) (show (ys.length:Int)≠0 by lia)
   have z4:=emod_lt_of_pos (c / 7) (show (0:Int)<(ys.length:Int) by lia)
   obtain ⟨p,hp⟩:∃ p:Nat,c % (ys.length:Int)=p:=⟨(c % (ys.length:Int)).toNat,by lia⟩
   obtain ⟨q,hq⟩:∃ q:Nat,c / 7 % (ys.length:Int)=q:=⟨(c / 7 % (ys.length:Int)).toNat,by lia⟩
   have OV:-2<=c / 49 % 5 - 2/\c / 49 % 5 - 2<=2:=by lia
   have Lb:p<ys.length:=by lia
   have Qw:q<ys.length:=by lia
   have hy0:(0:Int)<(ys.length:Int):=by lia
   obtain ⟨ap,wp,kp,exp,EC,Ya,V2⟩:=ua.get (i:=p) (agg (by lia))
   obtain ⟨aq,wq,kq,Tr,Ts,hwq,ekq⟩:=ua.get (i:=q) (agg (by lia))
   have GQ:ys[p]?=some (.ref ap):=by rw [agg (by lia),exp]
   have Qx:ys[q]?=some (.ref aq):=by rw [agg (by lia),Tr]
   have mkp:=agl V2
   have mkq:=agl ekq
   obtain ⟨oN,Yb,r1',t1'⟩:=rL kp mkp
   obtain ⟨Jf,b2',r2',t2'⟩:=rL kq mkq
   walk_at "j"
   rw [hp]
   walk_at "j"
   rw [hq]
   walk_at "v"
   generalize c / 49 % 5 - 2=n at OV
   refine bK (aW.of uH) (aH GQ) ?_
   walk_at "w"
   refine bK (aW.of uH) (aH GQ) ?_
   walk_at "j"
   have up:∀ {v:List Int},bf (M*3 ^ i) v->bf (M*3 ^ (i+1)) v:=fun b=>b.mono (by rw [V1];lia)
   have upk:∀ k∈qs,k.1.length=5/\bf (M*3 ^ (i+1)) k.1/\(k.2=0\/2<=k.2)/\k.2<=12:=fun k hk=>⟨(rL k hk).1,up (rL k hk).2.1,(rL k hk).2.2⟩
   have Jh:∀ {r:List Int},r.length=5->bf (M*3 ^ (i+1)) r->∀ k∈qs.set p (r,kp.2),k.1.length=5/\bf (M*3 ^ (i+1)) k.1/\(k.2=0\/2<=k.2)/\k.2<=12:=fun lr br k hk=>by
    rcases mem_or_eq_of_mem_set hk with z|z
    ·exact upk k z
    ·rw [z];exact⟨lr,br,r1',t1'⟩
   refine join (fun σ' Hx=>∃ (As:List V) (Ef:List (List Int×Int)),σ'=[some (.ref l1),some (.ref b),some (.int c),some (.int p),some (.int q),some (.int n),some (.ref wp),some (.int kp.2)]/\aj H Hx/\Hx l1=some (.lst As)/\bx K Hx As Ef/\KE ks Ef/\Ef.length=qs.length/\∀ k∈Ef,k.1.length=5/\bf (M*3 ^ (i+1)) k.1/\(k.2=0\/2<=k.2)/\k.2<=12) (fun nx EB=>?_) (fun σ' Hx hP=>?_)
   ·have MR:nx [some (.ref l1),some (.ref b),some (.int c),some (.int p),some (.int q),some (.int n),some (.ref wp),some (.int kp.2)] He:=EB _ _ ⟨ys,qs,rfl,OX,uH,ua,hE,rfl,upk⟩
    have hn24:-24<=n*kp.2/\n*kp.2<=24:=by
     rcases (show n=-2\/n=-1\/n=0\/n=1\/n=2 by lia) with e|e|e|e|e <;> rw [e] <;> lia
    obtain ⟨u,hu⟩:∃ u:Nat,c % 5=u:=⟨(c % 5).toNat,by lia⟩
    have hap0:=EC
    have haq0:=Ts
    walk_at "v"
    refine aX (fun Tw=>?_) (fun Tw=>?_)
    ·have My:p≠q:=fun z=>by subst z;simp at Tw
     walk_at "v"
     refine bK (aW.of uH) (aH Qx) ?_
     walk_at "w"
     refine aX (fun h6=>?_) (fun h6=>?_)
     ·have h6':kq.2=0:=af7 h6
      walk_at "v"
      refine bK (aW.of uH) (aH Qx) ?_
      walk_at "w"
      refine fY (n:=n) kp.1 kq.1 Ya hwq (by lia) (by lia) (fun y _=>.inl (.inl ⟨by lia,by lia⟩)) fun pa Ha sa ma=>?_
      walk_at "w"
      rename_i pt Ht st mt
      have sat:=sa.trans st
      refine oO (j:=p) (sat _ _ uH) (jG (by lia)) ?_
      refine EB _ _ ⟨ys.set p (.ref pt),qs.set p (dD kp.1 n kq.1,kp.2),rfl,(OX.trans sat).cw n1,aw,bx.setAt p ((ua.same sat).off (sat _ _ uH)) (cN (aZ.of mt) (sat _ _ uH)) (cN (st.at ma) (sat _ _ uH)),hE.trans (KE.set V2 ekq My fun x lx hz=>?_),by rw [length_set],Jh (fu oN Jf) ((mR (P:=2) oN Jf Yb b2' (by lia)).mono (by rw [V1];lia))⟩
      show _↔VZ (dD kp.1 n kq.1) kp.2 x
      rw [iX oN Jf]
      refine VZ.add oN Jf lx ?_
      rw [h6'] at hz
      rw [agK.mp hz,zero_mul]
      exact agI _
     ·walk_at "w"
      refine aX (fun h7=>?_) (fun h7=>?_)
      ·walk_at "w"
       refine ke (n:=5) (fun x=>.int (if x=(u:Int) then 1 else 0)) [some (.int c)] rfl (by decide) (fun x CO Qd hx s' kd=>?_) (fun l H3 hl s3 m3=>?_)
       ·walk_at "w"
        have:=kd _ (aj.refl _)
        rw [hu]
        by_cases h:x=(u:Int)
        ·rw [if_pos h] at this
         rw [aga h]
         exact this
        ·rw [if_neg h] at this
         rw [af9 h]
         exact this
       have e:(List.range 5).map (fun (j:Nat)=>V.int (if (j:Int)=(u:Int) then 1 else 0))=(bW u 5).map V.int:=by
        rw [bW,agE]
        refine agF fun j _=>?_
        simp only [Function.comp_apply,ofNat_inj]
       rw [e] at m3
       walk_at "w"
       rename_i p4 H4 s4 m4
       have yS:=s3.trans s4
       have lu:=fU u 5
       refine fY (n:=n*kp.2) kp.1 (bW u 5) (yS.at Ya) (aZ.of m4) (by lia) (by lia) (fun y _=>.inl (.inl ⟨by lia,by lia⟩)) fun pa Ha sa ma=>?_
       walk_at "w"
       rename_i pt Ht st mt
       have sat:=yS.trans (sa.trans st)
       refine oO (j:=p) (sat _ _ uH) (jG (by lia)) ?_
       refine EB _ _ ⟨ys.set p (.ref pt),qs.set p (dD kp.1 (n*kp.2) (bW u 5),kp.2),rfl,(OX.trans sat).cw n1,aw,bx.setAt p ((ua.same sat).off (sat _ _ uH)) (cN (aZ.of mt) (sat _ _ uH)) (cN (st.at ma) (sat _ _ uH)),hE.trans (KE.R7 V2 fun x lx=>?_),by rw [length_set],Jh (fu oN lu) ((mR (R:=1) (P:=24) oN lu Yb (mI _ _ 0) (by lia)).mono (by rw [V1];lia))⟩
       show _↔VZ (dD kp.1 (n*kp.2) (bW u 5)) kp.2 x
       rw [iX oN lu]
       refine VZ.add oN lu lx ⟨-(dt x (bW u 5)*n),?_⟩
       rw [mul_neg,mul_neg,Int.mul_comm kp.2,Int.mul_assoc]
      ·exact MR
    ·refine gj rfl ?_
     walk_at "w"
     refine aX (fun h7=>?_) (fun h7=>?_)
     ·walk_at "w"
      refine ke (n:=5) (fun x=>.int (if x=(u:Int) then 1 else 0)) [some (.int c)] rfl (by decide) (fun x CO Qd hx s' kd=>?_) (fun l H3 hl s3 m3=>?_)
      ·walk_at "w"
       have:=kd _ (aj.refl _)
       rw [hu]
       by_cases h:x=(u:Int)
       ·rw [if_pos h] at this
        rw [aga h]
        exact this
       ·rw [if_neg h] at this
        rw [af9 h]
        exact this
      have e:(List.range 5).map (fun (j:Nat)=>V.int (if (j:Int)=(u:Int) then 1 else 0))=(bW u 5).map V.int:=by
       rw [bW,agE]
       refine agF fun j _=>?_
       simp only [Function.comp_apply,ofNat_inj]
      rw [e] at m3
      walk_at "w"
      rename_i p4 H4 s4 m4
      have yS:=s3.trans s4
      have lu:=fU u 5
      refine fY (n:=n*kp.2) kp.1 (bW u 5) (yS.at Ya) (aZ.of m4) (by lia) (by lia) (fun y _=>.inl (.inl ⟨by lia,by lia⟩)) fun pa Ha sa ma=>?_
      walk_at "w"
      rename_i pt Ht st mt
      have sat:=yS.trans (sa.trans st)
      refine oO (j:=p) (sat _ _ uH) (jG (by lia)) ?_
      refine EB _ _ ⟨ys.set p (.ref pt),qs.set p (dD kp.1 (n*kp.2) (bW u 5),kp.2),rfl,(OX.trans sat).cw n1,aw,bx.setAt p ((ua.same sat).off (sat _ _ uH)) (cN (aZ.of mt) (sat _ _ uH)) (cN (st.at ma) (sat _ _ uH)),hE.trans (KE.R7 V2 fun x lx=>?_),by rw [length_set],Jh (fu oN lu) ((mR (R:=1) (P:=24) oN lu Yb (mI _ _ 0) (by lia)).mono (by rw [V1];lia))⟩
      show _↔VZ (dD kp.1 (n*kp.2) (bW u 5)) kp.2 x
      rw [iX oN lu]
      refine VZ.add oN lu lx ⟨-(dt x (bW u 5)*n),?_⟩
      rw [mul_neg,mul_neg,Int.mul_comm kp.2,Int.mul_assoc]
     ·exact MR
   obtain ⟨As,Ef,rfl,OY,mx,Ce,OZ,ltx,MQ⟩:=hP
   have lyx:=Ce.length
   walk_at "w"
   refine aX (fun h6=>?_) (fun h6=>?_)
   ·walk_at "w"
    refine aX (fun h7=>?_) (fun h7=>?_)
    ·have h7':=af7 h7
     obtain ⟨ax,wx,kx,exx,Yc,hwx,ekx⟩:=Ce.get (i:=p) (agg (by lia))
     have gx3:As[p]?=some (.ref ax):=by rw [agg (by lia),exx]
     have mkx:=agl ekx
     walk_at "v"
     refine bK (aW.of mx) (aH gx3) ?_
     walk_at "v"
     refine A5 (i:=q) mx (by lia) (by lia) ?_
     refine⟨_,_,_,_,_,_,As.take q++.ref ax::As.drop q,Ef.take q++kx::Ef.drop q,rfl,OY.cw n1,aw,((Ce.take q).append (.cons Yc hwx (Ce.drop q))).off mx,OZ.trans (KE.ins mkx),by simp;lia,fun k hk=>?_⟩
     rcases agk.mp hk with z|z
     ·exact MQ k (agQ z)
     ·rcases agq.mp z with z|z
      ·rw [z];exact MQ _ mkx
      ·exact MQ k (mem_of_mem_drop z)
    ·exact⟨_,_,_,_,_,_,As,Ef,rfl,OY,mx,Ce,OZ,by lia,MQ⟩
   ·exact⟨_,_,_,_,_,_,As,Ef,rfl,OY,mx,Ce,OZ,by lia,MQ⟩
  obtain ⟨o1,o2,o3,o4,o5,o6,ys,qs,rfl,sn,my,hr,hE,OW,rL⟩:=hp
  rw [agm] at rL
  walk_at "w"
  exact k l1 Hn ys qs sn n1 my hr hE OW fun k hk=>⟨(rL k hk).1,(rL k hk).2.1.mono (mul_le_mul_left _ (agt (n:=3) (j:=3) (by decide) GA)),(rL k hk).2.2⟩
theorem sS:aN ["_law_cells_here","_law_many","_law_found","_law_k","_law_cell","_law_sizes_here"] ["_law_cells_here","_law_many"] (ag cT):=⟨rfl,rfl,rfl,by decide +kernel,rfl,by decide +kernel,by decide +kernel⟩
structure sU(P:Program)(w:World)(K:Frag)(mg:Str->Option Value)(base:Heap)(G:kY):Prop where
 yT:Ok P w K mg base 1 "_law_sizes" ["_law_cells_here"] (lC K)
theorem sV (D:Def K mg "_law_all_sizes" cT ["_law_cells_here","_law_many"]) (T:Txt K mg G) (O:sU P w K mg base G) (Y:base.NoSeer/\P.given.tree=none):Ok P w K mg base 2 "_law_all_sizes" ["_law_cells_here","_law_many"] (gW K):=by
 have S:=sS
 refine D.ok S (fun vs H Q E h=>?_) (fun f dh A outer s H vs Q E hr h=>?_)
 ·obtain ⟨_,_,_,rfl,_⟩:=h;rfl
 ·obtain ⟨a,cs,n,rfl,ha,Qu,hn,k⟩:=h
  have hu:=bG hr
  have aI:=T.aI
  refine⟨_,(ah (aU (i:=2) S.nd rfl (Or.inl rfl) (dk (aa (ba O.yT (hr.mono (by decide)) (aa (dI (fA K rfl) (pv 0) (cR ae) (cR ae)) af)) af))) (ah (dj PassesOwn.never rfl (ER rfl T.cY (aa ae (aa (pv 1) af))) (aD (i:=3) S.nd rfl (Or.inl rfl)) (ah (aU (i:=4) S.nd rfl (Or.inl rfl) (aR (aC K rfl) (pv 0) (ay cV ae (pv 3)) (fun _ _=>rfl))) (ai (b9 (aM dH (ay bD (pv 4) ae) ae (aQ _)) (ah (aU (i:=5) S.nd rfl (Or.inl rfl) (bN (jE K rfl) rfl T.mU boot_list (aa (aR (aC K rfl) (pv 2) (ay oI (pv 3) ae) (fun _ _=>rfl)) af))) (ah (b9 (aM gc (ay bD (ay cD (pv 4) ae) ae) ae (aQ _)) (ai (jR (ay bD (ay cD (pv 4) ae) ae) (rQ (pv 5) (ay bD (ay cD (pv 4) ae) ae) set_list))) bA) (ai (dW (ip PySem.F.plainAttrs_list PySem.F.slot_list_append PySem.F.type_list_append cB (pv 2) (aa (pv 5) af)))))) (ai (dW (ip PySem.F.plainAttrs_list PySem.F.slot_list_append PySem.F.type_list_append cB (pv 2) (aa (ba O.yT (hr.mono (by decide)) (aa (dI (fA K rfl) (pv 0) (cR (ay cV ae (ay dE ae (pv 3)))) (cR (ay cV ae (ay dE ae (pv 3))))) af)) af)))))))) (ai (aS (pv 2))))),?_⟩
  walk_at "w"
  refine og ha fun l1 H1 n1 s1 m1=>?_
  obtain ⟨Tz,TB,lc1⟩:=sy (ns:=cs) (a:=8) (b:=13) (by decide) (by lia)
  rw [show iQ (cs.map V.int) (some 8) (some 13)=Tz.map V.int from TB] at m1
  walk_at "w"
  refine uh (aW.of m1) (by lia) fun l2 H2 ms s2 n2 m2 lm BE=>?_
  walk_at "w"
  rename_i l3 H3 n3 s3 m3
  have Ji:=(s1.trans s2).trans s3
  obtain ⟨j,hj⟩:∃ j:Nat,n=j+1:=⟨n - 1,by lia⟩
  have ej:((n:Int) - 1).toNat=j:=by lia
  rw [ej]
  refine kO (n:=j) (fun i σ' H'=>∃ (o1 o2 o3:Option V) (xs:List V) (jA:List (List Int)),σ'=[some (.ref a),some (.int (n:Int)),some (.ref l3),o1,o2,o3]/\aj H H'/\H' l3=some (.lst xs)/\fW H' xs jA/\jA.length=i+1/\∀ ms∈jA,ms.length=5/\∀ m∈ms,0<=m/\m<=12) ⟨_,_,_,[.ref l2],[ms],rfl,Ji,m3,.cons (s3 _ _ m2) .nil,rfl,fun q hq=>by rw [agj.mp hq];exact⟨lm,BE⟩⟩ (fun i σ' H' hi hP=>?_) (fun σ' H' hP=>?_)
  ·obtain ⟨o1,o2,o3,xs,jA,rfl,sH,ml,hL,hlen,eT⟩:=hP
   have Bx:=sH.seq ha
   have lx:=Bi hL
   obtain ⟨b,gb,hb⟩:=mT hL (show i<jA.length by lia)
   have JT:=eT (jA.getD i []) (by rw [List.getD,agg (show i<jA.length by lia)];exact agR _)
   generalize jA.getD i []=bs at hb JT
   have ef:t6 xs ((1+(i:Int)) - 1)=some (.ref b):=by
    rw [show (1+(i:Int)) - 1=(i:Int) by lia]
    exact aH gb
   have ea:t6 (cs.map V.int) (1+(1+(i:Int)))=some (.int (cs.getD (i+2) 0)):=by
    rw [show 1+(1+(i:Int))=((i+2:Nat):Int) by lia]
    exact aH (int_at (by lia))
   generalize cs.getD (i+2) 0=c at ea
   have hxr:=yM hL
   walk_at "w"
   refine bK Bx ea ?_
   walk_at "w"
   refine aX (fun h=>?_) (fun h=>?_)
   ·walk_at "w"
    refine bK (aW.of ml) ef ?_
    walk_at "w"
    rename_i l5 H5 n5 s5 m5
    have fin:∀ (LK:List Int) (H6:Hp),aj H' H6->H6 l5=some (.lst (LK.map V.int))->(LK.length=5/\∀ m∈LK,0<=m/\m<=12)->∀ (x1 x2 x3:Option V),(∃ (o1 o2 o3:Option V) (xs':List V) (O0:List (List Int)),[some (.ref a),some (.int (n:Int)),some (.ref l3),x1,x2,x3]=[some (.ref a),some (.int (n:Int)),some (.ref l3),o1,o2,o3]/\aj H (upd H6 l3 (.lst (xs++[.ref l5])))/\(upd H6 l3 (.lst (xs++[.ref l5]))) l3=some (.lst xs')/\fW (upd H6 l3 (.lst (xs++[.ref l5]))) xs' O0/\O0.length=i+1+1/\∀ ms∈O0,ms.length=5/\∀ m∈ms,0<=m/\m<=12):=fun LK H6 s6 m6 Aq x1 x2 x3=>by
     have BK:∀ ms∈jA++[LK],ms.length=5/\∀ m∈ms,0<=m/\m<=12:=fun q hq=>(agk.mp hq).elim (eT q) fun z=>by rw [agj.mp z];exact Aq
     exact⟨_,_,_,xs++[.ref l5],jA++[LK],rfl,(sH.trans s6).cw ((s1.trans s2).new n3),aw,v9 (s6 _ _ ml) hxr (sC m6 (sD s6 hL)) fun r hr=>(BK r hr).1,by rw [agn,ago,hlen],BK⟩
    refine aX (fun h2=>?_) (fun h2=>?_)
    ·obtain ⟨q,hq⟩:∃ q:Nat,c / 6 % 5=q:=⟨(c / 6 % 5).toNat,by lia⟩
     have Qw:q<5:=by lia
     walk_at "w"
     rw [hq]
     refine oO m5 (jG (by rw [agm,JT.1];exact Qw)) ?_
     have s6:aj H' (upd H5 l5 (.lst ((bs.map V.int).set q (.int (c / 30 % 13))))):=s5.cw n5
     have m6:(upd H5 l5 (.lst ((bs.map V.int).set q (.int (c / 30 % 13))))) l5=some (.lst ((bs.set q (c / 30 % 13)).map V.int)):=by rw [aw,List.map_set]
     have ml6:=s6 _ _ ml
     generalize upd H5 l5 (.lst ((bs.map V.int).set q (.int (c / 30 % 13))))=H6 at s6 m6 ml6 ⊢
     clear m5
     walk_at "w"
     refine dn ml6 (by lia) ?_
     refine fin (bs.set q (c / 30 % 13)) _ s6 m6 ⟨by rw [length_set];exact JT.1,fun m hm=>?_⟩ _ _ _
     rcases mem_or_eq_of_mem_set hm with z|z
     ·exact JT.2 m z
     ·lia
    ·walk_at "w"
     refine dn (s5 _ _ ml) (by lia) ?_
     exact fin bs _ s5 m5 JT _ _ _
   ·walk_at "w"
    refine og Bx fun l5 H5 n5 s5 m5=>?_
    obtain ⟨TC,TF,lc2⟩:=sy (ns:=cs) (a:=8+5*(1+i)) (b:=13+5*(1+i)) (by lia) (by lia)
    rw [show iQ (cs.map V.int) (some (8+5*(1+(i:Int)))) (some (13+5*(1+(i:Int))))=TC.map V.int from TF] at m5
    walk_at "w"
    refine uh (aW.of m5) (by lia) fun l6 H6 LK s6 n6 m6 lm' Yd=>?_
    have BL:=s5.trans s6
    walk_at "w"
    refine dn (BL _ _ ml) (by lia) ?_
    have BK:∀ ms∈jA++[LK],ms.length=5/\∀ m∈ms,0<=m/\m<=12:=fun q hq=>(agk.mp hq).elim (eT q) fun z=>by rw [agj.mp z];exact⟨lm',Yd⟩
    exact⟨_,_,_,xs++[.ref l6],jA++[LK],rfl,(sH.trans BL).cw ((s1.trans s2).new n3),aw,v9 (BL _ _ ml) hxr (sC m6 (sD BL hL)) fun r hr=>(BK r hr).1,by rw [agn,ago,hlen],BK⟩
  obtain ⟨o1,o2,o3,xs,jA,rfl,sH,ml,hL,hlen,eT⟩:=hP
  walk_at "w"
  exact k l3 H' xs jA ((s1.trans s2).new n3) sH ml hL (by lia) eT
theorem C3:aN ["_law_cell","_law_most","_law_first"] ["_law_cell","_law_most"] (ag gR):=⟨rfl,rfl,rfl,by decide +kernel,rfl,by decide +kernel,by decide +kernel⟩
structure C4(P:Program)(w:World)(K:Frag)(mg:Str->Option Value)(base:Heap)(G:kY):Prop where
 qT:Ok P w K mg base 1 "_law_near" ["_law_cell","_law_most"] (jL K)
theorem C5 (D:Def K mg "_law_two" gR ["_law_cell","_law_most"]) (T:Txt K mg G) (O:C4 P w K mg base G) (Y:base.NoSeer/\P.given.tree=none):Ok P w K mg base 2 "_law_two" ["_law_cell","_law_most"] (oW K):=by
 have S:=C3
 refine D.ok S (fun vs H Q E h=>?_) (fun f dh A outer s H vs Q E hr h=>?_)
 ·obtain ⟨_,_,rfl,_⟩:=h;rfl
 ·obtain ⟨c,m,rfl,hm,k⟩:=h
  have hu:=bG hr
  have aI:=T.aI
  refine⟨_,(ah (aU (i:=2) S.nd rfl (Or.inl rfl) (ba O.qT (hr.mono (by decide)) (aa (pv 0) (aa (pv 1) af)))) (ai (aS (cP (aa (pv 2) (aa (ba O.qT (hr.mono (by decide)) (aa (ay cD (ay cV (pv 0) (pv 1)) (ay cV (ay dE ae (pv 1)) ae)) (aa (pv 1) af))) af)))))),?_⟩
  have h1:=hm.1
  have h2:=hm.2
  walk_at "w"
  refine oY hm ?_
  walk_at "w"
  refine oY hm ?_
  walk_at "w"
  rename_i p1 H1 s1 m1
  exact k _ _ s1 m1
theorem qU:aN ["self","keys"] ["self","keys"] (ag cJ):=⟨rfl,rfl,rfl,by decide +kernel,rfl,by decide +kernel,by decide +kernel⟩
structure qV(P:Program)(w:World)(K:Frag)(mg:Str->Option Value)(base:Heap)(G:kY):Prop where
 gG:Ok P w K mg base 1 "checked_keys" ["keys"] (eH K)
theorem qW (D:ir K G.cL "__init__" "KeyTuning.__init__" cJ ["self","keys"]) (T:Txt K mg G) (O:qV P w K mg base G) (Y:base.NoSeer/\P.given.tree=none):oi P w K mg base 2 G.cL ["self","keys"] (dN K):=by
 have S:=qU
 refine D.ok S (fun vs H Q E h=>?_) (fun f dh A outer s H vs Q E hr h=>?_)
 ·obtain ⟨_,_,_,_,_,_,rfl,_⟩:=h;rfl
 ·obtain ⟨x,l,C,dx,ys,ks,rfl,hC,hx,hl,hk,h6,hg,k⟩:=h
  have hu:=bG hr
  have aI:=T.aI
  have bj:=T.bj
  have aE:=T.aE
  have au:=T.au
  have aO:=T.aO
  have ao:=T.ao
  have bC:=T.bC
  have aB:=T.aB
  have aF:=T.aF
  refine⟨_,(ai (zB K rfl (pv 0) (bN (jE K rfl) rfl T.mU boot_list (aa (ba O.gG (hr.mono (by decide)) (aa (pv 1) af)) af)) rfl)),?_⟩
  rcases hC with hC|hC
  ·obtain rfl:G.aV=C:=by have:=T.bO;rw [hC] at this;cases this;rfl
   walk_at "w"
   refine gF ⟨hl,hk,h6,hg⟩ ?_
   walk_at "w"
   rename_i l1 H1 n1 s1 m1
   refine u7 (s1 _ _ hx) aO ao (by decide) ?_
   exact k l1 H1 n1 s1 m1
  ·obtain rfl:G.bX=C:=by have:=T.eR;rw [hC] at this;cases this;rfl
   walk_at "w"
   refine gF ⟨hl,hk,h6,hg⟩ ?_
   walk_at "w"
   rename_i l1 H1 n1 s1 m1
   refine u7 (s1 _ _ hx) bC aB (by decide) ?_
   exact k l1 H1 n1 s1 m1
theorem FZ:aN ["keys","row"] ["keys","row"] (ag jc):=⟨rfl,rfl,rfl,by decide +kernel,rfl,by decide +kernel,by decide +kernel⟩
structure F6(P:Program)(w:World)(K:Frag)(mg:Str->Option Value)(base:Heap)(G:kY):Prop where
 value:Ok P w K mg base 2 "value" ["key","row"] (qJ K)
 gG:Ok P w K mg base 1 "checked_keys" ["keys"] (eH K)
theorem Ga (D:Def K mg "values" jc ["keys","row"]) (T:Txt K mg G) (O:F6 P w K mg base G) (Y:base.NoSeer/\P.given.tree=none):Ok P w K mg base 3 "values" ["keys","row"] (nS K):=by
 have S:=FZ
 refine D.ok S (fun vs H Q E h=>?_) (fun f dh A outer s H vs Q E hr h=>?_)
 ·obtain ⟨_,_,_,_,_,rfl,_⟩:=h;rfl
 ·obtain ⟨l,a,xs,ks,row,rfl,hl,QA,h6,hg,hw,ha,X3,X4,k⟩:=h
  have hu:=bG hr
  have aI:=T.aI
  refine⟨_,(ai (aS (bN (fz K rfl) rfl T.gy boot_tuple (aa (bQ (N:=["key","row"]) (ix:=[none,some 1]) rfl (bh K rfl (ba O.gG (hr.mono (by decide)) (aa (pv 0) af))) (fun _ _ _ _ _=>(aD (i:=0) (show jz ["key","row"] by decide +kernel) rfl (Or.inl rfl))) (fun _ _ _ _ _=>rfl) (fun _ _ _ _ _=>(ba O.value (hr.mono (by decide)) (aa (pv 0) (aa (pv 1) af)))) rfl (by decide +kernel) (by decide +kernel) rfl ⟨⟨rfl,Or.inr (Or.inl rfl),rfl,rfl⟩,True.intro⟩) af)))),?_⟩
  have lk:=QA.length
  walk_at "w"
  refine gF ⟨hl,QA,h6,hg⟩ ?_
  walk_at "w"
  refine mQ (xs:=xs) [some (.ref a)] (fun i=>.int (val (ks.getD i ([],0)).1 (ks.getD i ([],0)).2 row)) rfl hl (by lia) (fun i x H' Qc hx s kc=>?_) (fun l2 H2 n2 s2 m2=>?_)
  ·obtain ⟨ak,wk,kk,rfl,h1,h2,h3⟩:=QA.get hx
   have hm:=agl h3
   obtain ⟨q1,q2⟩:=hw kk hm
   have e:ks.getD i ([],0)=kk:=by rw [List.getD,h3];rfl
   rw [e] at kc
   walk_at "w"
   exact EA kk.1 row (s.at h1) (s.at h2) (s.at ha) (by lia) (by lia) (Ar.mul X4 q2 (by decide) (by lia)) (by have:=hg kk hm;lia) fun H3 s3=>kc _ s3
  have ev:(List.range xs.length).map (fun i=>V.int (val (ks.getD i ([],0)).1 (ks.getD i ([],0)).2 row))=(ks.map fun k=>val k.1 k.2 row).map V.int:=by
   rw [<- lk,agE]
   refine ext_getElem (by simp) fun i h1 h2=>?_
   simp at h1
   simp [List.getD,agg h1]
  rw [ev] at m2
  walk_at "w"
  rename_i p3 H3 s3 m3
  exact k p3 H3 (s2.trans s3) (aZ.of m3)
theorem xJ:aN ["_law_sizes_here","_law_ones","_law_cells_here","_law_rows","_law_k"] ["_law_sizes_here","_law_ones","_law_cells_here"] (ag en):=⟨rfl,rfl,rfl,by decide +kernel,rfl,by decide +kernel,by decide +kernel⟩
structure xK(P:Program)(w:World)(K:Frag)(mg:Str->Option Value)(base:Heap)(G:kY):Prop where
 Gb:Ok P w K mg base 2 "_law_mixed" ["_law_rows","_law_cells_here"] (lD K)
theorem xM (D:Def K mg "_law_commas" en ["_law_sizes_here","_law_ones","_law_cells_here"]) (T:Txt K mg G) (O:xK P w K mg base G) (Y:base.NoSeer/\P.given.tree=none):Ok P w K mg base 3 "_law_commas" ["_law_sizes_here","_law_ones","_law_cells_here"] (jZ K):=by
 have S:=xJ
 refine D.ok S (fun vs H Q E h=>?_) (fun f dh A outer s H vs Q E hr h=>?_)
 ·obtain ⟨_,_,_,_,_,_,_,rfl,_⟩:=h;rfl
 ·obtain ⟨a,l,b,ms,xs,rs,cs,rfl,ha,lm,BE,hl,mD,lr,h5,j7,hc,GA,k⟩:=h
  have hu:=bG hr
  have aI:=T.aI
  refine⟨_,(ah (aU (i:=3) S.nd rfl (Or.inl rfl) (dk af)) (ah (dj PassesOwn.never rfl (cf rfl T.cY (aa ae af)) (aD (i:=4) S.nd rfl (Or.inr rfl)) (ai (b9 (aM gc (aR (aC K rfl) (pv 0) (pv 4) (fun _ _=>rfl)) ae (aQ _)) (ai (dW (ip PySem.F.plainAttrs_list PySem.F.slot_list_append PySem.F.type_list_append cB (pv 3) (aa (bN (fz K rfl) rfl T.gy boot_tuple (aa (bQ (N:=["_law_number","_law_sizes_here","_law_k"]) (ix:=[none,some 0,some 4]) rfl (qk K rfl (aR (aC K rfl) (pv 1) (pv 4) (fun _ _=>rfl))) (fun _ _ _ _ _=>(aD (i:=0) (show jz ["_law_number","_law_sizes_here","_law_k"] by decide +kernel) rfl (Or.inl rfl))) (fun _ _ _ _ _=>rfl) (fun _ _ _ _ _=>(ay dE (aR (aC K rfl) (pv 1) (pv 2) (fun _ _=>rfl)) (pv 0))) rfl (by decide +kernel) (by decide +kernel) rfl ⟨⟨rfl,Or.inr (Or.inl rfl),rfl,rfl⟩,⟨⟨rfl,Or.inr (Or.inl rfl),rfl,rfl⟩,True.intro⟩⟩) af)) af)))) bA))) (ai (aS (ba O.Gb (hr.mono (by decide)) (aa (pv 3) (aa (pv 2) af))))))),?_⟩
  have lx:=mD.length
  walk_at "w"
  rename_i l1 H1 n1 s1 m1
  refine kO (fun i σ Hn=>∃ (o1:Option V) (ys:List V) (ts:List (List Int)),σ=[some (.ref a),some (.ref l),some (.ref b),some (.ref l1),o1]/\aj H Hn/\Hn l1=some (.lst ys)/\av K Hn ys ts/\ts.length<=i/\Len 5 ts/\(∀ v∈ts,bf 69984 v)/\(∀ v∈ts,Span 5 (gens ms rs) v)/\∀ j,j<i->Span 5 ts (bJ (rs.getD j []) (ms.getD j 0))) ⟨_,[],[],rfl,s1,m1,.nil,af1 _,(fun _ z=>nomatch z),(fun _ z=>nomatch z),(fun _ z=>nomatch z),fun j hj=>absurd hj (agU _)⟩ (fun i σ Hn hi hp=>?_) (fun σ Hn hp=>?_)
  ·obtain ⟨o1,ys,ts,rfl,sn,my,hr,lt,ED,rL,oF,eT⟩:=hp
   have ly:=hr.length
   have OO:i<5:=hi
   obtain ⟨ap,rp,exp,EC,GP⟩:=mD.get (i:=i) (agg (by lia))
   have GQ:xs[i]?=some (.ref ap):=by rw [agg (by lia),exp]
   have e1:rs.getD i []=rp:=by rw [List.getD,GP];rfl
   have GR:=agl GP
   have oN:=h5 rp GR
   have hm:=BE (ms.getD i 0) (by rw [List.getD,agg (by lia)];exact agR _)
   have TH:=sn.seq ha
   have Ye:=sn.seq hl
   have O1:=sn.at EC
   walk_at "v"
   rw [show (0:Int)+(i:Int)=(i:Int) by lia]
   refine bK TH (aH (j:=i) (int_at (by lia))) ?_
   walk_at "w"
   refine aX (fun h4=>?_) (fun h4=>?_)
   ·walk_at "v"
    refine bK Ye (aH GQ) ?_
    walk_at "v"
    refine nJ (r:=rp) (fun x=>.int (ms.getD i 0*x)) [some (.ref a),some (.int i)] rfl O1 (by lia) (fun x H' Qc RT s kc=>?_) (fun l3 H3 n3 s3 m3=>?_)
    ·walk_at "v"
     refine bK (s.seq TH) (aH (j:=i) (int_at (by lia))) ?_
     walk_at "w"
     exact kc _ (aj.refl _)
    have em:rp.map (fun x=>V.int (ms.getD i 0*x))=(bJ rp (ms.getD i 0)).map V.int:=by
     unfold bJ
     rw [agE]
     exact agF fun x _=>by rw [Function.comp_apply,Int.mul_comm]
    rw [em] at m3
    walk_at "w"
    rename_i p4 H4 s4 m4
    have yS:=s3.trans s4
    refine dn (yS _ _ my) (by lia) ?_
    refine⟨_,ys++[.ref p4],ts++[bJ rp (ms.getD i 0)],rfl,(sn.trans yS).cw n1,aw,((hr.same yS).snoc (aZ.of m4)).off (yS _ _ my),by simp;lia,fun v hv=>?_,fun v hv=>?_,fun v hv=>?_,fun j hj=>?_⟩
    ·rcases agk.mp hv with z|z
     ·exact ED v z
     ·rw [agj.mp z];exact aA oN
    ·rcases agk.mp hv with z|z
     ·exact rL v z
     ·rw [agj.mp z]
      intro y
      rw [bg,agH]
      exact agw (j7 rp GR y) (show (ms.getD i 0).natAbs<=96 by lia)
    ·rcases agk.mp hv with z|z
     ·exact oF v z
     ·rw [agj.mp z,<- e1];exact Span.mem (vN OO)
    ·by_cases c:j<i
     ·exact (eT j c).app
     ·obtain rfl:j=i:=by lia
      rw [e1]
      exact Span.mem (agh _ (agj.mpr rfl))
   ·have LJ:ms.getD i 0=0:=by simpa using h4
    refine⟨_,ys,ts,rfl,sn,my,hr,by lia,ED,rL,oF,fun j hj=>?_⟩
    by_cases c:j<i
    ·exact eT j c
    ·obtain rfl:j=i:=by lia
     rw [LJ,e1]
     have ez:bJ rp 0=jx 5:=bF (aA oN) (aY 5) fun y _=>by rw [bg,bU,mul_zero]
     rw [ez]
     exact Span.zero
  obtain ⟨o1,ys,ts,rfl,sn,my,hr,lt,ED,rL,oF,eT⟩:=hp
  walk_at "w"
  refine Bv (M:=69984) ⟨aW.of my,hr,lt,ED,rL,sn.seq hc,GA⟩ fun l2 H2 MS ts2 s2 n2 m2 r2 MT h52 Yf O2=>?_
  exact k l2 H2 MS ts2 (sn.trans s2) (sn.new n2) m2 r2 (Eqv.trans ⟨fun r hr=>by obtain ⟨j,hj,rfl⟩:=agr.mp hr;exact eT j (agy.mp hj),oF⟩ MT) h52 Yf fun v hv=>(O2 v hv).mono (by decide)
theorem BM:aN ["_law_sizes_here","_law_duals","_law_cells_here","_law_keys_here","_law_k"] ["_law_sizes_here","_law_duals","_law_cells_here"] (ag fN):=⟨rfl,rfl,rfl,by decide +kernel,rfl,by decide +kernel,by decide +kernel⟩
structure BN(P:Program)(w:World)(K:Frag)(mg:Str->Option Value)(base:Heap)(G:kY):Prop where
 wt:Ok P w K mg base 2 "_law_mixed_keys" ["_law_keys_here","_law_cells_here"] (gC K)
theorem BO (D:Def K mg "_law_keys" fN ["_law_sizes_here","_law_duals","_law_cells_here"]) (T:Txt K mg G) (O:BN P w K mg base G) (Y:base.NoSeer/\P.given.tree=none):Ok P w K mg base 3 "_law_keys" ["_law_sizes_here","_law_duals","_law_cells_here"] (nh K):=by
 have S:=BM
 refine D.ok S (fun vs H Q E h=>?_) (fun f dh A outer s H vs Q E hr h=>?_)
 ·obtain ⟨_,_,_,_,_,_,_,rfl,_⟩:=h;rfl
 ·obtain ⟨a,l,b,ms,xs,rs,cs,rfl,ha,lm,BE,hl,mD,lr,h5,j7,hc,GA,k⟩:=h
  have hu:=bG hr
  have aI:=T.aI
  refine⟨_,(ah (aU (i:=3) S.nd rfl (Or.inl rfl) (dk af)) (ah (dj PassesOwn.never rfl (cf rfl T.cY (aa ae af)) (aD (i:=4) S.nd rfl (Or.inl rfl)) (ai (b9 (aM gc (aR (aC K rfl) (pv 0) (pv 4) (fun _ _=>rfl)) ae (aQ _)) (ai (dW (ip PySem.F.plainAttrs_list PySem.F.slot_list_append PySem.F.type_list_append cB (pv 3) (@aa _ _ _ _ _ (@cP _ _ _ _ _ (aa (aR (aC K rfl) (pv 1) (pv 4) (fun _ _=>rfl)) (aa (aR (aC K rfl) (pv 0) (pv 4) (fun _ _=>rfl)) af))) af (by rfl))))) bA))) (ai (aS (ba O.wt (hr.mono (by decide)) (aa (pv 3) (aa (pv 2) af))))))),?_⟩
  have lx:=mD.length
  walk_at "w"
  rename_i l1 H1 n1 s1 m1
  refine kO (fun i σ Hn=>∃ (o1:Option V) (ys:List V) (qs:List (List Int×Int)),σ=[some (.ref a),some (.ref l),some (.ref b),some (.ref l1),o1]/\aj H Hn/\Hn l1=some (.lst ys)/\bx K Hn ys qs/\qs.length<=i/\(∀ q∈qs,∃ j,j<5/\q=(rs.getD j [],ms.getD j 0)/\ms.getD j 0≠1)/\∀ j,j<i->ms.getD j 0≠1->(rs.getD j [],ms.getD j 0)∈qs) ⟨_,[],[],rfl,s1,m1,.nil,af1 _,(fun _ z=>nomatch z),fun j hj=>absurd hj (agU _)⟩ (fun i σ Hn hi hp=>?_) (fun σ Hn hp=>?_)
  ·obtain ⟨o1,ys,qs,rfl,sn,my,hr,lt,oF,eT⟩:=hp
   have ly:=hr.length
   have OO:i<5:=hi
   obtain ⟨ap,rp,exp,EC,GP⟩:=mD.get (i:=i) (agg (by lia))
   have GQ:xs[i]?=some (.ref ap):=by rw [agg (by lia),exp]
   have e1:rs.getD i []=rp:=by rw [List.getD,GP];rfl
   have TH:=sn.seq ha
   have Ye:=sn.seq hl
   have O1:=sn.at EC
   walk_at "v"
   rw [show (0:Int)+(i:Int)=(i:Int) by lia]
   refine bK TH (aH (j:=i) (int_at (by lia))) ?_
   walk_at "w"
   refine aX (fun h4=>?_) (fun h4=>?_)
   ·have LJ:ms.getD i 0≠1:=by simpa using h4
    walk_at "v"
    refine bK Ye (aH GQ) ?_
    walk_at "v"
    refine bK TH (aH (j:=i) (int_at (by lia))) ?_
    walk_at "w"
    rename_i p4 H4 s4 m4
    refine dn (s4 _ _ my) (by lia) ?_
    refine⟨_,ys++[.ref p4],qs++[(rp,ms.getD i 0)],rfl,(sn.trans s4).cw n1,aw,((hr.same s4).snoc (aZ.of m4) (s4.at O1)).off (s4 _ _ my),by simp;lia,fun q hq=>?_,fun j hj hm=>?_⟩
    ·rcases agk.mp hq with z|z
     ·exact oF q z
     ·rw [agj.mp z];exact⟨i,OO,by rw [e1],LJ⟩
    ·by_cases c:j<i
     ·exact agi _ (eT j c hm)
     ·obtain rfl:j=i:=by lia
      rw [e1]
      exact agh _ (agj.mpr rfl)
   ·have LJ:ms.getD i 0=1:=by simpa using h4
    refine⟨_,ys,qs,rfl,sn,my,hr,by lia,oF,fun j hj hm=>?_⟩
    by_cases c:j<i
    ·exact eT j c hm
    ·obtain rfl:j=i:=by lia
     exact absurd LJ hm
  obtain ⟨o1,ys,qs,rfl,sn,my,hr,lt,oF,eT⟩:=hp
  have GI:∀ j,j<5->rs.getD j []∈rs:=fun j hj=>by rw [List.getD,agg (by lia)];exact agR _
  have hmm:∀ j,j<5->ms.getD j 0∈ms:=fun j hj=>by rw [List.getD,agg (by lia)];exact agR _
  walk_at "w"
  refine sO (M:=729) ⟨aW.of my,hr,lt,fun q hq=>?_,by decide,sn.seq hc,GA⟩ fun l2 H2 MS qs2 s2 n2 m2 r2 MT Yf O2=>?_
  ·obtain ⟨j,hj,rfl,hm⟩:=oF q hq
   have:=BE _ (hmm j hj)
   exact⟨h5 _ (GI j hj),j7 _ (GI j hj),by show ms.getD j 0=0\/2<=ms.getD j 0;lia,this.2⟩
  refine k l2 H2 MS qs2 (sn.trans s2) (sn.new n2) m2 r2 (fun x lx'=>(MT x lx').symm.trans ⟨fun h i hi=>?_,fun h q hq=>?_⟩) Yf fun q hq=>⟨(O2 q hq).1,(O2 q hq).2.1.mono (by decide),(O2 q hq).2.2⟩
  ·by_cases c:ms.getD i 0=1
   ·rw [c];exact Int.one_dvd _
   ·exact h _ (eT i hi c)
  ·obtain ⟨j,hj,rfl,hm⟩:=oF q hq
   exact h j hj
theorem xN:aN ["self","row"] ["self","row"] (ag eD):=⟨rfl,rfl,rfl,by decide +kernel,rfl,by decide +kernel,by decide +kernel⟩
structure xO(P:Program)(w:World)(K:Frag)(mg:Str->Option Value)(base:Heap)(G:kY):Prop where
 fi:oi P w K mg base 2 G.cL ["self","keys"] (dN K)
theorem xP (D:ir K G.gw "__init__" "Board.__init__" eD ["self","row"]) (T:Txt K mg G) (O:xO P w K mg base G) (Y:base.NoSeer/\P.given.tree=none):IA P w K mg base 3 G.gw ["self","row"] (ij K):=by
 have S:=xN
 refine D.okX S (fun vs H Q E h=>?_) (fun f dh A outer s H vs Q E hr h=>?_)
 ·obtain ⟨_,_,_,_,_,rfl,_⟩:=h;rfl
 ·obtain ⟨x,a,C,dx,w,rfl,hC,hx,ha,lw,kE,k⟩:=h
  have hu:=bG hr
  have aI:=T.aI
  have bj:=T.bj
  have aE:=T.aE
  have au:=T.au
  have aO:=T.aO
  have ao:=T.ao
  have bC:=T.bC
  have aB:=T.aB
  have aF:=T.aF
  refine⟨_,(@ah _ _ _ _ _ (b9 (aM vo (aR (aC K rfl) (pv 1) ae (fun _ _=>rfl)) ae (aQ _)) (ai (HV T.FV PySem.F.excBase_ValueError (by decide +kernel) PySem.F.excBase_ValueError rfl (fun _ _ z=>z) rfl rfl T.FT (aa Nc af))) bA) (@ah _ _ _ _ _ (dW (XI O.fi T.sG (hr.mono (by decide)) rfl T.mW (@aa _ _ _ _ _ (pv 0) (@aa _ _ _ _ _ (@dk _ _ _ _ (@aa _ _ _ _ _ (@cP _ _ _ _ _ (aa (pv 1) (aa ae af))) af (by rfl))) af (by rfl)) (by rfl)))) (ai (zB K rfl (pv 0) (aR (aC K rfl) (pv 1) ae (fun _ _=>rfl)) rfl)))),?_⟩
  obtain rfl:G.bX=C:=by have:=T.eR;rw [hC] at this;cases this;rfl
  walk_at "w"
  refine d3 ha (aH (j:=0) (int_at (by lia))) ?_
  walk_at "w"
  refine aX (fun h=>?_) (fun h=>?_)
  ·have h':=af7 h
   walk_at "w"
   exact⟨agO rfl,kE h' _ _ T.FU (aj.refl _)⟩
  ·have h':=af8 h
   walk_at "w"
   rename_i p1 H1 s1 m1 l2 H2 n2 s2 m2
   have ou:=s1.trans s2
   have kk:bx K H2 [.ref p1] [(w,0)]:=.cons (s2.at (aZ.of m1)) (ou.at ha) .nil
   refine d4 ⟨.inr T.eR,ou _ _ hx,aW.of m2,kk,agO rfl,fun k hk=>.inl (by rw [agj.mp hk])⟩ fun l3 H3 n3 s3 m3=>?_
   have Ji:=ou.trans s3
   have hx3:=Ji _ _ hx
   have TJ:=Ji.at ha
   have Yc:aZ K (upd H3 x (.ins G.bX dx [("own_keys",.ref l3)])) a (w.map V.int):=vb TJ hx3
   walk_at "w"
   refine d3 Yc (aH (j:=0) (int_at (by lia))) ?_
   walk_at "w"
   refine u7 aw bC aF (agO rfl) ?_
   exact k (by lia) l3 H3 [.ref p1] (ou.new n3) Ji m3 (kk.same s3) hx3
theorem pd:aN ["self","row"] ["self","row"] (ag cy):=⟨rfl,rfl,rfl,by decide +kernel,rfl,by decide +kernel,by decide +kernel⟩
structure pf(P:Program)(w:World)(K:Frag)(mg:Str->Option Value)(base:Heap)(G:kY):Prop where
 values:Ok P w K mg base 3 "values" ["keys","row"] (nS K)
theorem ph (D:ir K G.eQ "sound" "KeyTuning.sound" cy ["self","row"]) (T:Txt K mg G) (O:pf P w K mg base G) (Y:base.NoSeer/\P.given.tree=none):oi P w K mg base 4 G.eQ ["self","row"] (fP K):=by
 have S:=pd
 refine D.ok S (fun vs H Q E h=>?_) (fun f dh A outer s H vs Q E hr h=>?_)
 ·obtain ⟨_,_,_,_,_,rfl,_⟩:=h;rfl
 ·obtain ⟨x,l,a,ks,r,rfl,⟨C,dx,ys,hC,hx,m1,k1⟩,⟨h6,hg,hw⟩,ha,lr,br,k⟩:=h
  have hu:=bG hr
  have aI:=T.aI
  have bj:=T.bj
  have aE:=T.aE
  have au:=T.au
  have aO:=T.aO
  have ao:=T.ao
  have bC:=T.bC
  have aB:=T.aB
  have aF:=T.aF
  refine⟨_,(ai (aS (ba O.values (hr.mono (by decide)) (aa (qr K rfl (pv 0) rfl) (aa (pv 1) af))))),?_⟩
  obtain rfl:G.aV=C:=by have:=T.bO;rw [hC] at this;cases this;rfl
  walk_at "w"
  exact Br ⟨aW.of m1,k1,h6,hg,fun q hq=>⟨(hw q hq).1,xw (hw q hq).2.1 (by decide)⟩,ha,lr,xw br (by decide)⟩ k
theorem wu:aN ["self","row"] ["self","row"] (ag dS):=⟨rfl,rfl,rfl,by decide +kernel,rfl,by decide +kernel,by decide +kernel⟩
structure wy(P:Program)(w:World)(K:Frag)(mg:Str->Option Value)(base:Heap)(G:kY):Prop where
 values:Ok P w K mg base 3 "values" ["keys","row"] (nS K)
theorem wA (D:ir K G.ic "sound" "Board.sound" dS ["self","row"]) (T:Txt K mg G) (O:wy P w K mg base G) (Y:base.NoSeer/\P.given.tree=none):oi P w K mg base 4 G.ic ["self","row"] (jj K):=by
 have S:=wu
 refine D.ok S (fun vs H Q E h=>?_) (fun f dh A outer s H vs Q E hr h=>?_)
 ·obtain ⟨_,_,_,_,_,rfl,_⟩:=h;rfl
 ·obtain ⟨x,l,a,w,r,rfl,⟨C,dx,ys,hC,hx,m1,k1⟩,⟨lw,bw⟩,ha,lr,br,k⟩:=h
  have hu:=bG hr
  have aI:=T.aI
  have bj:=T.bj
  have aE:=T.aE
  have au:=T.au
  have aO:=T.aO
  have ao:=T.ao
  have bC:=T.bC
  have aB:=T.aB
  have aF:=T.aF
  refine⟨_,(ai (aS (aR (aC K rfl) (ba O.values (hr.mono (by decide)) (aa (qr K rfl (pv 0) rfl) (aa (pv 1) af))) ae (fun _ _=>rfl)))),?_⟩
  obtain rfl:G.bX=C:=by have:=T.eR;rw [hC] at this;cases this;rfl
  walk_at "w"
  refine Br ⟨aW.of m1,k1,agO rfl,fun q hq=>.inl (by rw [agj.mp hq]),fun q hq=>by rw [agj.mp hq];exact⟨lw,xw bw (by decide)⟩,ha,lr,xw br (by decide)⟩ fun p H' s m=>?_
  walk_at "w"
  have e:val w 0 r=dt r w:=by unfold val;rw [if_pos rfl];rfl
  show Q (.int (val w 0 r)) H'
  rw [e]
  exact k H' s
theorem C6:aN ["vector","step","place"] ["vector","step","place"] (ag gO):=⟨rfl,rfl,rfl,by decide +kernel,rfl,by decide +kernel,by decide +kernel⟩
structure C7(P:Program)(w:World)(K:Frag)(mg:Str->Option Value)(base:Heap)(G:kY):Prop where
 over:Ok P w K mg base 1 "over" ["one","other"] (zF K)
 power:Ok P w K mg base 1 "power" ["row","n"] (qH K)
theorem C8 (D:Def K mg "lowered" gO ["vector","step","place"]) (T:Txt K mg G) (O:C7 P w K mg base G) (Y:base.NoSeer/\P.given.tree=none):Ok P w K mg base 34 "lowered" ["vector","step","place"] (jf K):=by
 have S:=C6
 refine D.ok S (fun vs H Q E h=>?_) (fun f dh A outer s H vs Q E hr h=>?_)
 ·obtain ⟨_,_,_,_,_,_,_,_,rfl,_⟩:=h;rfl
 ·obtain ⟨a,b,p,n,M,k,v,s,rfl,ha,hb,lv,ls,hn,hp,h0,bv,bs,hM,hk,kk⟩:=h
  have hu:=bG hr
  have aI:=T.aI
  refine⟨_,(ai (aS (ba O.over (hr.mono (by decide)) (aa (pv 0) (aa (ba O.power (hr.mono (by decide)) (aa (pv 1) (aa (ay (qv Y rfl rfl rfl rfl rfl (hr.mono (by decide))) (aR (aC K rfl) (pv 0) (pv 2) (fun _ _=>rfl)) (aR (aC K rfl) (pv 1) (pv 2) (fun _ _=>rfl))) af))) af))))),?_⟩
  walk_at "v"
  refine d3 ha (aH (int_at (by lia))) ?_
  walk_at "v"
  refine d3 hb (aH (int_at (by lia))) ?_
  walk_at "w"
  refine Ez s hb (by lia) (fun x hx=>?_) fun p1 H1 s1 m1=>?_
  ·have b1:iM x<=k:=by
    rw [gm]
    exact mG (agu (sx bs hx) hM)
   have b2:iM ((v.getD p 0).fdiv (s.getD p 0))<=k:=by
    rw [gm]
    exact mG (agu (af0 (qa _ h0) (bv p)) hM)
   unfold kl
   lia
  walk_at "w"
  refine OP v (bJ s ((v.getD p 0).fdiv (s.getD p 0))) (s1.at ha) (aZ.of m1) (by rw [lv,aA ls]) (by lia) fun p2 H2 s2 m2=>?_
  exact kk _ _ (s1.trans s2) m2
theorem uI:aN ["_law_rows","_law_place","_law_here","_law_left","_law_some","_law_first","_law_more"] ["_law_rows","_law_place"] (ag dr):=⟨rfl,rfl,rfl,by decide +kernel,rfl,by decide +kernel,by decide +kernel⟩
structure uJ(P:Program)(w:World)(K:Frag)(mg:Str->Option Value)(base:Heap)(G:kY):Prop where
 d5:Ok P w K mg base 1 "_law_plus" ["_law_one","_law_q","_law_other"] (df K)
theorem uK (D:Def K mg "_law_gathered" dr ["_law_rows","_law_place"]) (T:Txt K mg G) (O:uJ P w K mg base G) (Y:base.NoSeer/\P.given.tree=none):Ok P w K mg base 34 "_law_gathered" ["_law_rows","_law_place"] (fE K):=by
 have S:=uI
 refine D.ok S (fun vs H Q E h=>?_) (fun f dh A outer s H vs Q E hr h=>?_)
 ·obtain ⟨_,_,_,_,_,_,_,_,rfl,_⟩:=h;rfl
 ·obtain ⟨l,p,n,M,A,k,xs,rs,rfl,hl,mD,HZ,xI,hn,hp,j7,hA,JR,TK,hk,k0,k1⟩:=h
  have hu:=bG hr
  have aI:=T.aI
  refine⟨_,(ah (ia (k:=2) (N:=["_law_row","_law_place"]) (ix:=[none,some 1]) S.nd rfl (Or.inl rfl) rfl (bh K rfl (pv 0)) (fun _ _ _ _ _=>(aD (i:=0) (show jz ["_law_row","_law_place"] by decide +kernel) rfl (Or.inl rfl))) (fun _ _ _ _ _=>(aM gc (aR (aC K rfl) (pv 0) (pv 1) (fun _ _=>rfl)) ae (aQ _))) (fun _ _ _ _ _=>(pv 0)) rfl (by decide +kernel) (by decide +kernel) rfl ⟨⟨rfl,Or.inr (Or.inl rfl),rfl,rfl⟩,True.intro⟩) (ah (ia (k:=3) (N:=["_law_row","_law_place"]) (ix:=[none,some 1]) S.nd rfl (Or.inl rfl) rfl (bh K rfl (pv 0)) (fun _ _ _ _ _=>(aD (i:=0) (show jz ["_law_row","_law_place"] by decide +kernel) rfl (Or.inl rfl))) (fun _ _ _ _ _=>(aM dH (aR (aC K rfl) (pv 0) (pv 1) (fun _ _=>rfl)) ae (aQ _))) (fun _ _ _ _ _=>(pv 0)) rfl (by decide +kernel) (by decide +kernel) rfl ⟨⟨rfl,Or.inr (Or.inl rfl),rfl,rfl⟩,True.intro⟩) (ah (vn PassesOwn.never (aM yh (bu (gk K rfl) rfl T.jI PySem.boot_len (aa (pv 2) af)) ae (aQ _)) (ah (ia (k:=4) (N:=["_law_row","_law_place"]) (ix:=[none,some 1]) S.nd rfl (Or.inl rfl) rfl (bh K rfl (pv 2)) (fun _ _ _ _ _=>(aD (i:=0) (show jz ["_law_row","_law_place"] by decide +kernel) rfl (Or.inl rfl))) (fun _ _ _ _ _=>rfl) (fun _ _ _ _ _=>(bu ki rfl T.Bj boot_abs (aa (aR (aC K rfl) (pv 0) (pv 1) (fun _ _=>rfl)) af))) rfl (by decide +kernel) (by decide +kernel) rfl ⟨⟨rfl,Or.inr (Or.inl rfl),rfl,rfl⟩,True.intro⟩) (ah (aU (i:=5) S.nd rfl (Or.inr rfl) (ip PySem.F.plainAttrs_list PySem.F.slot_list_pop PySem.F.type_list_pop Hi (pv 2) (aa (ip PySem.F.plainAttrs_list PySem.F.slot_list_index PySem.F.type_list_index (CU K rfl hr.units) (pv 4) (aa (bu (Lh K rfl rfl) rfl T.Ti boot_min (aa (pv 4) af)) af)) af))) (ah (ia (k:=6) (N:=["_law_row","_law_first","_law_place"]) (ix:=[none,some 5,some 1]) S.nd rfl (Or.inl rfl) rfl (bh K rfl (pv 2)) (fun _ _ _ _ _=>(aD (i:=0) (show jz ["_law_row","_law_first","_law_place"] by decide +kernel) rfl (Or.inl rfl))) (fun _ _ _ _ _=>rfl) (fun _ _ _ _ _=>(ba O.d5 (hr.mono (by decide)) (aa (pv 0) (aa (yg rR (ay (qv Y rfl rfl rfl rfl rfl (hr.mono (by decide))) (aR (aC K rfl) (pv 0) (pv 2) (fun _ _=>rfl)) (aR (aC K rfl) (pv 1) (pv 2) (fun _ _=>rfl)))) (aa (pv 1) af))))) rfl (by decide +kernel) (by decide +kernel) rfl ⟨⟨rfl,Or.inr (Or.inl rfl),rfl,rfl⟩,⟨⟨rfl,Or.inr (Or.inl rfl),rfl,rfl⟩,True.intro⟩⟩) (ah (aU (i:=3) S.nd rfl (Or.inl rfl) (ay oK (pv 3) (bQ (N:=["_law_row","_law_place"]) (ix:=[none,some 1]) rfl (bh K rfl (pv 6)) (fun _ _ _ _ _=>(aD (i:=0) (show jz ["_law_row","_law_place"] by decide +kernel) rfl (Or.inl rfl))) (fun _ _ _ _ _=>(aM dH (aR (aC K rfl) (pv 0) (pv 1) (fun _ _=>rfl)) ae (aQ _))) (fun _ _ _ _ _=>(pv 0)) rfl (by decide +kernel) (by decide +kernel) rfl ⟨⟨rfl,Or.inr (Or.inl rfl),rfl,rfl⟩,True.intro⟩))) (ai (aU (i:=2) S.nd rfl (Or.inl rfl) (ay oK (dk (aa (pv 5) af)) (bQ (N:=["_law_row","_law_place"]) (ix:=[none,some 1]) rfl (bh K rfl (pv 6)) (fun _ _ _ _ _=>(aD (i:=0) (show jz ["_law_row","_law_place"] by decide +kernel) rfl (Or.inl rfl))) (fun _ _ _ _ _=>(aM gc (aR (aC K rfl) (pv 0) (pv 1) (fun _ _=>rfl)) ae (aQ _))) (fun _ _ _ _ _=>(pv 0)) rfl (by decide +kernel) (by decide +kernel) rfl ⟨⟨rfl,Or.inr (Or.inl rfl),rfl,rfl⟩,True.intro⟩))))))))) (ah (b9 (aM (iR K rfl hr.units) (pv 2) (dk af) (aQ _)) (ai (aS (cP (aa oC (aa (pv 3) af))))) bA) (ai (aS (cP (aa (aR (aC K rfl) (pv 2) ae (fun _ _=>rfl)) (aa (pv 3) af))))))))),?_⟩
  have lr:=mD.length
  walk_at "w"
  refine de [some (.int p)] (fun v=>v.getD p 0 != 0) rfl hl mD (by lia) (fun a r H' Qt hr s ha kt=>?_) (fun a H' Qc s kc=>?_) (fun l1 H1 ys n1 s1 m1 r1=>?_)
  ·walk_at "v"
   refine d3 ha (aH (int_at (by rw [xI r hr];exact hp))) ?_
   walk_at "w"
   exact kt _ (aj.refl _)
  ·walk_at "w"
   exact kc
  walk_at "w"
  have O3:=mD.same s1
  refine de [some (.int p)] (fun v=>v.getD p 0 == 0) rfl (s1.seq hl) O3 (by lia) (fun a r H' Qt hr s ha kt=>?_) (fun a H' Qc s kc=>?_) (fun l2 H2 zs n2 s2 m2 r2=>?_)
  ·walk_at "v"
   refine d3 ha (aH (int_at (by rw [xI r hr];exact hp))) ?_
   walk_at "w"
   exact kt _ (aj.refl _)
  ·walk_at "w"
   exact kc
  have O4:l1≠l2:=fun z=>by rw [z,n2] at m1;cases m1
  walk_at "j"
  refine join (fun σ' H'=>∃ (o4 o5 o6:Option V) (l1 l2:Addr) (ys zs:List V) (led os:List (List Int)),σ'=[some (.ref l),some (.int p),some (.ref l1),some (.ref l2),o4,o5,o6]/\(aj H H'/\H l1=none/\H l2=none/\l1≠l2/\H' l1=some (.lst ys)/\H' l2=some (.lst zs)/\av K H' ys led/\av K H' zs os/\PJ n p M A led os/\Eqv n rs (led++os)/\led.length+os.length<=rs.length/\(∀ v∈led,at' p v<=A))/\led.length<=1) (fun nx kn=>?_) (fun σ' H' hP=>?_)
  ·refine zu (fun m σ' H'=>∃ (o4 o5 o6:Option V) (l1 l2:Addr) (ys zs:List V) (led os:List (List Int)),σ'=[some (.ref l),some (.int p),some (.ref l1),some (.ref l2),o4,o5,o6]/\(aj H H'/\H l1=none/\H l2=none/\l1≠l2/\H' l1=some (.lst ys)/\H' l2=some (.lst zs)/\av K H' ys led/\av K H' zs os/\PJ n p M A led os/\Eqv n rs (led++os)/\led.length+os.length<=rs.length/\(∀ v∈led,at' p v<=A))/\m=b7.mz p led) (b7.mz p (rs.filter fun v=>v.getD p 0 != 0)) ?_ (fun m σ' H' hw=>?_)
   ·have Kf:=Lp (fun v:List Int=>v.getD p 0 == 0) rs
    refine⟨_,_,_,l1,l2,ys,zs,_,_,rfl,⟨s1.trans s2,n1,s1.new n2,O4,s2 _ _ m1,m2,r1.same s2,r2,⟨fun v hv=>?_,fun v hv=>?_,fun v hv=>?_,(fun v hv=>hA v (ags.mp hv).1),.inl fun v hv=>?_⟩,Eqv.mem fun x=>?_,le_of_eq Kf,fun v hv=>hA v (ags.mp hv).1⟩,rfl⟩
    ·exact (agk.mp hv).elim (fun z=>xI v (ags.mp z).1) fun z=>xI v (ags.mp z).1
    ·simpa using (ags.mp hv).2
    ·simpa using (ags.mp hv).2
    ·exact (agk.mp hv).elim (fun z=>j7 v (ags.mp z).1) fun z=>j7 v (ags.mp z).1
    ·rw [agk,ags,ags]
     constructor
     ·intro h
      by_cases e:x.getD p 0=0
      ·exact .inr ⟨h,by simpa using e⟩
      ·exact .inl ⟨h,by simpa using e⟩
     ·rintro (h|h) <;> exact h.1
   obtain ⟨o4,o5,o6,l3,l4,ve,Cf,led,os,rfl,⟨s3,n3,n4,O5,e3,e4,r3,r4,nt,hE,hlen,Gd⟩,rfl⟩:=hw
   have QB:=r3.length
   walk_at "w"
   refine aX (fun hc=>?_) (fun hc=>?_)
   ·refine Om ?_
    walk_at "w"
    have Cj:1<ve.length:=by have:=af7 hc;lia
    refine mQ (xs:=ve) [some (.int p)] (fun i=>.int ((at' p (led.getD i []):Nat):Int)) rfl (aW.of e3) (by lia) (fun i x H' Qc hx s kc=>?_) (fun l5 H5 n5 s5 m5=>?_)
    ·obtain ⟨a,r,rfl,ha,hi⟩:=r3.get hx
     rw [show led.getD i []=r by rw [List.getD,hi];rfl] at kc
     walk_at "v"
     refine d3 (s.at ha) (aH (int_at (by rw [nt.1 r (agi _ (mem_of hi))];exact hp))) ?_
     walk_at "w"
     have e:(if r.getD p 0<0 then -(r.getD p 0) else r.getD p 0)=((at' p r:Nat):Int):=by unfold at';split <;> lia
     rw [e]
     exact kc _ (aj.refl _)
    have el5:(List.range ve.length).map (fun i=>V.int ((at' p (led.getD i []):Nat):Int))=(led.map fun v=>((at' p v:Nat):Int)).map V.int:=by
     rw [<- QB,yH led [] (fun v=>V.int ((at' p v:Nat):Int)),agE]
     rfl
    rw [el5] at m5
    walk_at "w"
    refine Li (aW.of m5) (fun z=>by rw [map_eq_nil_iff] at z;rw [z] at QB;simp at QB;lia) fun mn hmn Yg=>?_
    obtain ⟨j,V3,hj2⟩:=IK hmn
    have Yh:j<led.length:=by have:=(afX.mp V3).1;rw [agm] at this;exact this
    walk_at "w"
    refine Iw j (aW.of m5) (by lia) V3 hj2 ?_
    have V4:=s5 _ _ e3
    obtain ⟨aL,sL,exL,V5,hiL⟩:=r3.get (i:=j) (agg (by lia))
    have gx:ve[j]?=some (.ref aL):=(agg _).trans (congrArg some exL)
    have esL:led[j]=sL:=by have:=hiL;rw [agg Yh] at this;exact af5 this
    have pq:=vZ Yh
    rw [esL] at pq
    have emn:mn=((at' p sL:Nat):Int):=by rw [agC,hiL] at V3;exact (af5 V3).symm
    have hle:∀ v∈led.eraseIdx j,at' p sL<=at' p v:=fun v hv=>by
     have:=Yg _ (agr.mpr ⟨v,pq.mem_iff.mp (.tail _ hv),rfl⟩)
     lia
    have AJ:Hg ve.length (j:Int)=some j:=jG (by lia)
    refine⟨l3,ve,(j:Int),j,.ref aL,rfl,rfl,V4,by lia,by lia,(y4 AJ).1,gx,?_⟩
    have EE:(led.eraseIdx j).length=led.length - 1:=List.length_eraseIdx_of_lt Yh
    have V6:aj H (upd H5 l3 (.lst (ve.eraseIdx j))):=(s3.trans s5).cw n3
    have e36:(upd H5 l3 (.lst (ve.eraseIdx j))) l3=some (.lst (ve.eraseIdx j)):=aw
    have TL:(upd H5 l3 (.lst (ve.eraseIdx j))) l4=some (.lst Cf):=by rw [aG (Ne.symm O5)];exact s5 _ _ e4
    have Yi:av K (upd H5 l3 (.lst (ve.eraseIdx j))) (ve.eraseIdx j) (led.eraseIdx j):=(v5 j (r3.same s5)).off V4
    have r46:av K (upd H5 l3 (.lst (ve.eraseIdx j))) Cf os:=(r4.same s5).off V4
    have O6:aZ K (upd H5 l3 (.lst (ve.eraseIdx j))) aL (sL.map V.int):=cN (s5.at V5) V4
    generalize upd H5 l3 (.lst (ve.eraseIdx j))=H6 at V6 e36 TL Yi r46 O6 ⊢
    generalize hrest:led.eraseIdx j=rest at EE Yi pq hle
    have O7:rest≠[]:=fun z=>by rw [z] at EE;simp at EE;lia
    obtain ⟨Yj,Yk,tE⟩:=nt.turn JR pq O7 hle
    have mq:∀ v,v∈sL::rest->v∈led:=fun v hv=>pq.mem_iff.mp hv
    have hB:=nt.bd JR
    have LL:sL.length=n:=nt.1 sL (agi _ (mq sL (.head _)))
    have Ge:∀ v∈rest,v.length=n:=fun v hv=>nt.1 v (agi _ (mq v (agp _ hv)))
    have vG:=nt.2.1 sL (mq sL (.head _))
    have TM:∀ y∈sL,iM y<=60000000:=fun y hy=>by
     rw [gm]
     exact af0 (mG (agu (sx (hB sL (agi _ (mq sL (.head _)))) hy) TK)) hk
    walk_at "w"
    refine eh [some (.ref aL),some (.int p)] (b8 p sL) rfl (aW.of e36) Yi (by lia) (fun a r H7 Qc hr s7 ha kc=>?_) (fun l7 H7 QC n7 s7 m7 r7=>?_)
    ·have TN:=s7.at O6
     walk_at "v"
     refine d3 ha (aH (int_at (by rw [Ge r hr];exact hp))) ?_
     walk_at "v"
     refine d3 TN (aH (int_at (by rw [LL];exact hp))) ?_
     walk_at "w"
     refine uf (n:=-((r.getD p 0).fdiv (sL.getD p 0))) r sL ha TN (by rw [Ge r hr,LL]) (by rw [Ge r hr];exact hn) (fun y hy=>.inr ?_) fun p8 H8 s8 m8=>kc _ _ s8 (by rw [<- v7 (Ge r hr) LL];exact m8)
     have b1:iM (-((r.getD p 0).fdiv (sL.getD p 0)))<=60000000:=by
      rw [gm]
      refine af0 (mG (k:=k) ?_) hk
      rw [Int.natAbs_neg]
      exact agu (af0 (qa _ vG) (hB r (agi _ (mq r (agp _ hr))) p)) TK
     have b2:=TM y hy
     unfold kl
     lia
    have TQ:∀ r∈rest.map (b8 p sL),r.length=n:=fun r hr=>by
     obtain ⟨u,hu,rfl⟩:=agr.mp hr
     exact fy (Ge u hu) LL
    have cnt:=Be p sL rest
    walk_at "w"
    refine de [some (.int p)] (fun v=>v.getD p 0 == 0) rfl (aW.of m7) r7 (by rw [agm];lia) (fun a r H9 Qt hr s9 ha kt=>?_) (fun a H9 Qc s9 kc=>?_) (fun l8 H8 MU n8 s8 m8 r8=>?_)
    ·walk_at "v"
     refine d3 ha (aH (int_at (by rw [TQ r hr];exact hp))) ?_
     walk_at "w"
     exact kt _ (aj.refl _)
    ·walk_at "w"
     exact kc
    have l8':MU.length=(gK p sL rest).length:=r8.length.symm
    have lz:Cf.length=os.length:=r4.length.symm
    have V7:=s7.trans s8
    refine yB (V7 _ _ TL) m8 (by lia) fun p9 H9 n9 s9 m9=>?_
    have m79:=(s8.trans s9) _ _ m7
    walk_at "w"
    rename_i p10 CA n10 Cb TR
    have s79:=(s8.trans s9).trans Cb
    refine de [some (.int p)] (fun v=>v.getD p 0 != 0) rfl (aW.of (s79 _ _ m7)) (r7.same s79) (by rw [agm];lia) (fun a r H9 Qt hr s9 ha kt=>?_) (fun a H9 Qc s9 kc=>?_) (fun O8 RG Gf n11 E7 TU O9=>?_)
    ·walk_at "v"
     refine d3 ha (aH (int_at (by rw [TQ r hr];exact hp))) ?_
     walk_at "w"
     exact kt _ (aj.refl _)
    ·walk_at "w"
     exact kc
    have Yl:Gf.length=(dC p sL rest).length:=O9.length.symm
    refine yB (E7 _ _ TR) TU (by simp;lia) fun QD Ym Yn ou GO=>?_
    have Pa:=(Cb.trans E7).trans ou
    have Pb:=(V7.trans s9).trans Pa
    have Yo:=Pa _ _ m9
    have ne:QD≠p9:=fun z=>by
     have:=(Cb.trans E7) _ _ m9
     rw [<- z,Yn] at this
     cases this
    walk_at "w"
    refine⟨_,Yk,_,_,_,QD,p9,.ref aL::Gf,Cf++MU,sL::dC p sL rest,os++gK p sL rest,rfl,⟨V6.trans Pb,V6.new ((V7.trans s9).new ((Cb.trans E7).new Yn)),V6.new (V7.new n9),ne,GO,Yo,.cons (Pb.at O6) (O9.same ou),(r46.same Pb).append (r8.same (s9.trans Pa)),Yj,hE.trans tE,by simp;lia,fun v hv=>?_⟩,rfl⟩
    rcases agq.mp hv with rfl|hv
    ·exact Gd _ (mq _ (.head _))
    ·obtain ⟨u,hu,rfl⟩:=agr.mp (ags.mp hv).1
     exact af0 (af2 (nK (Ge u hu) LL vG)) (Gd _ (mq _ (.head _)))
   ·exact kn _ _ ⟨o4,o5,o6,l3,l4,ve,Cf,led,os,rfl,⟨s3,n3,n4,O5,e3,e4,r3,r4,nt,hE,hlen,Gd⟩,by have:=af8 hc;lia⟩
  obtain ⟨o4,o5,o6,l3,l4,ve,Cf,led,os,rfl,⟨s3,n3,n4,O5,e3,e4,r3,r4,nt,hE,hlen,Gd⟩,h1⟩:=hP
  have hB:=nt.bd JR
  walk_at "w"
  rename_i p5 H5 n5 s5 m5
  refine lU (.lst (aW.of (s5 _ _ e3)) (r3.same s5).tells) (.lst (aW.of m5) .nil) (iq _) (iq []) ?_
  rw [show PyData.eqv (.list (led.map fun r=>.tuple (r.map PyData.int))) (.list [])=decide (led=[]) from sk led []]
  walk_at "w"
  refine aX (fun h=>?_) (fun h=>?_)
  ·have h0:=af7 h
   subst h0
   walk_at "w"
   rename_i p6 H6 s6 m6
   have BL:=s5.trans s6
   exact k0 p6 l4 H6 Cf os (s3.trans BL) (aZ.of m6) n4 (BL _ _ e4) (r4.same BL) nt.2.2.1 (fun v hv=>nt.1 v hv) (fun v hv=>hB v hv) hE (by simpa using hlen)
  ·have h0:=af8 h
   match led,h1,h0,r3,nt,hE,hlen,Gd,hB with
   | [s],_,_,r3,nt,hE,hlen,Gd,hB =>
    obtain ⟨a,As,rfl,ha,_⟩:=r3.Ip
    walk_at "w"
    refine bK (aW.of (s5 _ _ e3)) (aH (j:=0) rfl) ?_
    walk_at "w"
    rename_i p6 H6 s6 m6
    have BL:=s5.trans s6
    exact k1 p6 a l4 H6 Cf os s (s3.trans BL) (aZ.of m6) (BL.at ha) n4 (BL _ _ e4) (r4.same BL) (nt.2.1 s (.head _)) (Gd s (.head _)) nt.2.2.1 (fun v hv=>nt.1 v hv) (fun v hv=>hB v hv) hE (by simp at hlen;lia)
theorem wB:aN ["_law_steps_here","_law_row","_law_place","_law_one"] ["_law_steps_here","_law_row"] (ag dQ):=⟨rfl,rfl,rfl,by decide +kernel,rfl,by decide +kernel,by decide +kernel⟩
structure wC(P:Program)(w:World)(K:Frag)(mg:Str->Option Value)(base:Heap)(G:kY):Prop where
 d5:Ok P w K mg base 1 "_law_plus" ["_law_one","_law_q","_law_other"] (df K)
theorem wD (D:Def K mg "_law_is_made" dQ ["_law_steps_here","_law_row"]) (T:Txt K mg G) (O:wC P w K mg base G) (Y:base.NoSeer/\P.given.tree=none):Ok P w K mg base 34 "_law_is_made" ["_law_steps_here","_law_row"] (jh K):=by
 have S:=wB
 refine D.ok S (fun vs H Q E h=>?_) (fun f dh A outer s H vs Q E hr h=>?_)
 ·obtain ⟨_,_,_,_,_,_,_,rfl,_⟩:=h;rfl
 ·obtain ⟨l,a,B,C,xs,ps,v,rfl,hl,MV,hF,h5,j7,ha,lv,Yp,hBC,k⟩:=h
  have hu:=bG hr
  have aI:=T.aI
  refine⟨_,(ah (dj PassesOwn.never rfl (bh K rfl (pv 0)) (fD (n:=2) K rfl rfl (bP (aD (i:=2) S.nd rfl (Or.inl rfl)) (bP (aD (i:=3) S.nd rfl (Or.inl rfl)) fC))) (ah (b9 (aM gc (ay DP (aR (aC K rfl) (pv 1) (pv 2) (fun _ _=>rfl)) (aR (aC K rfl) (pv 3) (pv 2) (fun _ _=>rfl))) ae (aQ _)) (ai (aS n0)) bA) (ai (aU (i:=1) S.nd rfl (Or.inl rfl) (ba O.d5 (hr.mono (by decide)) (aa (pv 1) (aa (yg rR (ay (qv Y rfl rfl rfl rfl rfl (hr.mono (by decide))) (aR (aC K rfl) (pv 1) (pv 2) (fun _ _=>rfl)) (aR (aC K rfl) (pv 3) (pv 2) (fun _ _=>rfl)))) (aa (pv 3) af)))))))) (ai (aS (fo (iR K rfl hr.units) (pv 1) (cP (aa ae (aa ae (aa ae (aa ae (aa ae af)))))) (aQ _))))),?_⟩
  have lps:=MV.length
  walk_at "w"
  refine iA (xs:=xs) (fun i σ' H'=>∃ (o2 o3:Option V) (a':Addr) (u:List Int),σ'=[some (.ref l),some (.ref a'),o2,o3]/\aj H H'/\aZ K H' a' (u.map V.int)/\u.length=5/\bf (2 ^ (C+i*(B+1))) u/\(Span 5 (ps.map Prod.snd) v↔Span 5 ((ps.drop i).map Prod.snd) u)) ⟨_,_,a,v,rfl,aj.refl _,ha,lv,by simpa using Yp,Iff.rfl⟩ (fun i σ' H' hP=>by obtain ⟨_,_,_,_,rfl,s,_⟩:=hP;exact s.seq hl) (fun i x σ' H' hx hP=>?_) (fun σ' H' hP=>?_)
  ·obtain ⟨o2,o3,a',u,rfl,sH,Bx,lu,Yq,C9⟩:=hP
   obtain ⟨q,c,p,rfl,hq,hc,hi⟩:=MV.get hx
   have NW:i<ps.length:=(afX.mp hi).1
   have hd:ps.drop i=p::ps.drop (i+1):=AV hi
   have hFd:IL (p::ps.drop (i+1)):=by rw [<- hd];exact hF.drop i
   obtain ⟨lp,p5,p0⟩:=hFd.1 p (.head _)
   have hqH:=sH.at hq
   have Yr:=sH.at hc
   rw [hd] at C9
   have oF:=hFd.step lu
   have V0:=j7 p (agl hi)
   have hX:C+i*(B+1)<=60000000:=by
    have:i*(B+1)<=6*(B+1):=agv _ (by lia)
    lia
   refine jF hqH ?_
   walk_at "v"
   refine d3 Bx (aH (int_at (by lia))) ?_
   walk_at "v"
   refine d3 Yr (aH (int_at (by lia))) ?_
   walk_at "v"
   refine aX (fun h=>?_) (fun h=>?_)
   ·walk_at "w"
    refine k false H' sH ⟨(fun z=>nomatch z),fun z=>?_⟩
    have h1:=(oF.mp (C9.mp z)).1
    have h2:(u.getD p.1 0).fmod (p.2.getD p.1 0)=0:=Int.fmod_eq_zero_of_dvd h1
    rw [h2] at h
    cases h
   ·have h2:(u.getD p.1 0).fmod (p.2.getD p.1 0)=0:=by
     have h':(!decide ((u.getD p.1 0).fmod (p.2.getD p.1 0)=0))=false:=h
     simpa using h'
    have mO:p.2.getD p.1 0 ∣ u.getD p.1 0:=Int.dvd_of_fmod_eq_zero h2
    walk_at "v"
    refine d3 Bx (aH (int_at (by lia))) ?_
    walk_at "v"
    refine d3 Yr (aH (int_at (by lia))) ?_
    walk_at "w"
    have hqb:((u.getD p.1 0).fdiv (p.2.getD p.1 0)).natAbs<=2 ^ (C+i*(B+1)):=af0 (qa _ p0) (Yq p.1)
    refine uf (n:=-((u.getD p.1 0).fdiv (p.2.getD p.1 0))) u p.2 Bx Yr (by rw [lu,lp]) (by lia) (fun y hy=>.inr ?_) fun p8 H8 s8 m8=>?_
    ·have b1:iM (-((u.getD p.1 0).fdiv (p.2.getD p.1 0)))<=60000001:=by
      rw [gm]
      refine mG ?_
      rw [Int.natAbs_neg]
      exact agu hqb (pow_lt_pow_right (by decide) (by lia))
     have b2:iM y<=60000001:=by
      rw [gm]
      exact mG (agu (sx V0 hy) (pow_lt_pow_right (by decide) (by lia)))
     unfold kl
     lia
    rw [v7 lu lp] at m8
    refine⟨_,_,p8,_,rfl,sH.trans s8,m8,fy lu lp,?_,C9.trans (oF.trans ⟨fun z=>z.2,fun z=>⟨mO,z⟩⟩)⟩
    refine (b7.Lw lu lp Yq V0 hqb).mono (agt (by decide) ?_)
    rw [add_mul,one_mul]
    lia
  obtain ⟨o2,o3,a',u,rfl,sH,Bx,lu,Yq,C9⟩:=hP
  rw [<- lps,List.drop_length] at C9
  walk_at "w"
  rename_i p9 H9 s9 m9
  refine lU (fH.row (s9.at Bx)) (fH.row (r:=[0,0,0,0,0]) (aZ.of m9)) (ee _) (ee _) ?_
  rw [ql]
  refine k _ _ (sH.trans s9) ⟨fun z=>?_,fun z=>aga ?_⟩
  ·have e:=af7 z
   rw [C9,e]
   exact Span.zero
  ·exact (C9.mp z).none
theorem Gg:aN ["vectors","place","led","others","least","left"] ["vectors","place"] (ag jb):=⟨rfl,rfl,rfl,by decide +kernel,rfl,by decide +kernel,by decide +kernel⟩
structure Gh(P:Program)(w:World)(K:Frag)(mg:Str->Option Value)(base:Heap)(G:kY):Prop where
 power:Ok P w K mg base 1 "power" ["row","n"] (qH K)
 lowered:Ok P w K mg base 34 "lowered" ["vector","step","place"] (jf K)
theorem Gi (D:K9 K mg "parted" jb ["vectors","place"] G.oj) (T:Txt K mg G) (O:Gh P w K mg base G) (Y:base.NoSeer/\P.given.tree=none) (B:CodeHd base G.oj (zA K "parted")/\base.BuiltinsAt mg (zA K "parted")):Ok P w K mg base 35 "parted" ["vectors","place"] (sI K):=by
 have S:=Gg
 refine D.ok S (fun vs H Q E h=>?_) (fun f A outer s H vs Q E hr h=>?_)
 ·obtain ⟨_,_,_,_,_,_,_,_,rfl,_⟩:=h;rfl
 ·obtain ⟨l,p,n,M,A,k,xs,rs,rfl,hl,mD,HZ,xI,hn,hp,j7,hA,JR,TK,hk,hT,kk⟩:=h
  have hu:=bG hr
  have aI:=T.aI
  refine⟨_,(ah (ia (k:=2) (N:=["vector","place"]) (ix:=[none,some 1]) S.nd rfl (Or.inl rfl) rfl (bh K rfl (pv 0)) (fun _ _ _ _ _=>(aD (i:=0) (show jz ["vector","place"] by decide +kernel) rfl (Or.inl rfl))) (fun _ _ _ _ _=>(aM gc (aR (aC K rfl) (pv 0) (pv 1) (fun _ _=>rfl)) ae (aQ _))) (fun _ _ _ _ _=>(pv 0)) rfl (by decide +kernel) (by decide +kernel) rfl ⟨⟨rfl,Or.inr (Or.inl rfl),rfl,rfl⟩,True.intro⟩) (ah (ia (k:=3) (N:=["vector","place"]) (ix:=[none,some 1]) S.nd rfl (Or.inl rfl) rfl (bh K rfl (pv 0)) (fun _ _ _ _ _=>(aD (i:=0) (show jz ["vector","place"] by decide +kernel) rfl (Or.inl rfl))) (fun _ _ _ _ _=>(aM dH (aR (aC K rfl) (pv 0) (pv 1) (fun _ _=>rfl)) ae (aQ _))) (fun _ _ _ _ _=>(pv 0)) rfl (by decide +kernel) (by decide +kernel) rfl ⟨⟨rfl,Or.inr (Or.inl rfl),rfl,rfl⟩,True.intro⟩) (ah (vn PassesOwn.never (aM yh (bu (gk K rfl) rfl T.jI PySem.boot_len (aa (pv 2) af)) ae (aQ _)) (ah (aU (i:=2) S.nd rfl (Or.inl rfl) (Fz (k:=0) (q:="parted.<locals>.<lambda>") (lp:=Tf) (y:="vector") (fns:=["place"]) (ixs:=[some 1]) K rfl rfl (hr.mono (by decide)) (pv 2) rfl B.1 B.2 (fun _ _ _ _ _=>rfl) (fun _ _ _ _=>(bu ki rfl T.Bj boot_abs (aa (aR (aC K rfl) (pv 0) (pv 1) (fun _ _=>rfl)) af))) rfl rfl rfl rfl (by decide +kernel) rfl ⟨⟨rfl,Or.inr (Or.inl rfl),rfl,rfl⟩,True.intro⟩ rfl rfl T.IT boot_sorted)) (ah (aU (i:=4) S.nd rfl (Or.inr rfl) (aR (aC K rfl) (pv 2) ae (fun _ _=>rfl))) (ah (ia (k:=5) (N:=["vector","least","place"]) (ix:=[none,some 4,some 1]) S.nd rfl (Or.inl rfl) rfl (bh K rfl (dI (fA K rfl) (pv 2) (cR ae) jC)) (fun _ _ _ _ _=>(aD (i:=0) (show jz ["vector","least","place"] by decide +kernel) rfl (Or.inl rfl))) (fun _ _ _ _ _=>rfl) (fun _ _ _ _ _=>(ba O.lowered (hr.mono (by decide)) (aa (pv 0) (aa (pv 1) (aa (pv 2) af))))) rfl (by decide +kernel) (by decide +kernel) rfl ⟨⟨rfl,Or.inr (Or.inl rfl),rfl,rfl⟩,⟨⟨rfl,Or.inr (Or.inl rfl),rfl,rfl⟩,True.intro⟩⟩) (ah (aU (i:=2) S.nd rfl (Or.inl rfl) (ay oK (dk (aa (pv 4) af)) (bQ (N:=["vector","place"]) (ix:=[none,some 1]) rfl (bh K rfl (pv 5)) (fun _ _ _ _ _=>(aD (i:=0) (show jz ["vector","place"] by decide +kernel) rfl (Or.inl rfl))) (fun _ _ _ _ _=>(aM gc (aR (aC K rfl) (pv 0) (pv 1) (fun _ _=>rfl)) ae (aQ _))) (fun _ _ _ _ _=>(pv 0)) rfl (by decide +kernel) (by decide +kernel) rfl ⟨⟨rfl,Or.inr (Or.inl rfl),rfl,rfl⟩,True.intro⟩))) (ai (aU (i:=3) S.nd rfl (Or.inl rfl) (ay oK (pv 3) (bQ (N:=["vector","place"]) (ix:=[none,some 1]) rfl (bh K rfl (pv 5)) (fun _ _ _ _ _=>(aD (i:=0) (show jz ["vector","place"] by decide +kernel) rfl (Or.inl rfl))) (fun _ _ _ _ _=>(aM dH (aR (aC K rfl) (pv 0) (pv 1) (fun _ _=>rfl)) ae (aQ _))) (fun _ _ _ _ _=>(pv 0)) rfl (by decide +kernel) (by decide +kernel) rfl ⟨⟨rfl,Or.inr (Or.inl rfl),rfl,rfl⟩,True.intro⟩))))))))) (ai (aS (cP (aa (bQ (N:=["vector","place"]) (ix:=[none,some 1]) rfl (bh K rfl (pv 2)) (fun _ _ _ _ _=>(aD (i:=0) (show jz ["vector","place"] by decide +kernel) rfl (Or.inl rfl))) (fun _ _ _ _ _=>rfl) (fun _ _ _ _ _=>(pP (aM vo (aR (aC K rfl) (pv 0) (pv 1) (fun _ _=>rfl)) ae (aQ _)) (ba O.power (hr.mono (by decide)) (aa (pv 0) (aa (yg rR ae) af))) (pv 0))) rfl (by decide +kernel) (by decide +kernel) rfl ⟨⟨rfl,Or.inr (Or.inl rfl),rfl,rfl⟩,True.intro⟩) (aa (pv 3) af)))))))),?_⟩
  walk_at "w"
  refine de [some (.int p)] (fun v=>v.getD p 0 != 0) rfl hl mD (by lia) (fun a r H' Qt hr s ha kt=>?_) (fun a H' Qc s kc=>?_) (fun l1 H1 ys n1 s1 m1 r1=>?_)
  ·walk_at "v"
   refine d3 ha (aH (int_at (by rw [xI r hr];exact hp))) ?_
   walk_at "w"
   exact kt _ (aj.refl _)
  ·walk_at "w"
   exact kc
  walk_at "w"
  have O3:=mD.same s1
  refine de [some (.int p)] (fun v=>v.getD p 0 == 0) rfl (s1.seq hl) O3 (by lia) (fun a r H' Qt hr s ha kt=>?_) (fun a H' Qc s kc=>?_) (fun l2 H2 zs n2 s2 m2 r2=>?_)
  ·walk_at "v"
   refine d3 ha (aH (int_at (by rw [xI r hr];exact hp))) ?_
   walk_at "w"
   exact kt _ (aj.refl _)
  ·walk_at "w"
   exact kc
  walk_at "j"
  refine join (fun σ' H'=>∃ (o4 o5:Option V) (l1 l2:Addr) (ys zs:List V) (led os:List (List Int)),σ'=[some (.ref l),some (.int p),some (.ref l1),some (.ref l2),o4,o5]/\jd K H H'/\bH K H'/\H' l1=some (.lst ys)/\H' l2=some (.lst zs)/\av K H' ys led/\av K H' zs os/\PJ n p M A led os/\Eqv n rs (led++os)/\led.length+os.length<=rs.length/\led.length<=1/\∀ v∈led,at' p v<=A) (fun nx kn=>?_) (fun σ' H' hP=>?_)
  ·refine zu (fun m σ' H'=>∃ (o4 o5:Option V) (l1 l2:Addr) (ys zs:List V) (led os:List (List Int)),σ'=[some (.ref l),some (.int p),some (.ref l1),some (.ref l2),o4,o5]/\jd K H H'/\bH K H'/\H' l1=some (.lst ys)/\H' l2=some (.lst zs)/\av K H' ys led/\av K H' zs os/\PJ n p M A led os/\Eqv n rs (led++os)/\led.length+os.length<=rs.length/\(∀ v∈led,at' p v<=A)/\m=b7.mz p led) (b7.mz p (rs.filter fun v=>v.getD p 0 != 0)) ?_ (fun m σ' H' hw=>?_)
   ·have Kf:=Lp (fun v:List Int=>v.getD p 0 == 0) rs
    refine⟨_,_,l1,l2,ys,zs,_,_,rfl,bc.of (s1.trans s2),hT.same (s1.trans s2),s2 _ _ m1,m2,r1.same s2,r2,⟨fun v hv=>?_,fun v hv=>?_,fun v hv=>?_,(fun v hv=>hA v (ags.mp hv).1),.inl fun v hv=>?_⟩,Eqv.mem fun x=>?_,le_of_eq Kf,fun v hv=>hA v (ags.mp hv).1,rfl⟩
    ·exact (agk.mp hv).elim (fun z=>xI v (ags.mp z).1) fun z=>xI v (ags.mp z).1
    ·simpa using (ags.mp hv).2
    ·simpa using (ags.mp hv).2
    ·exact (agk.mp hv).elim (fun z=>j7 v (ags.mp z).1) fun z=>j7 v (ags.mp z).1
    ·rw [agk,ags,ags]
     constructor
     ·intro h
      by_cases e:x.getD p 0=0
      ·exact .inr ⟨h,by simpa using e⟩
      ·exact .inl ⟨h,by simpa using e⟩
     ·rintro (h|h) <;> exact h.1
   obtain ⟨o4,o5,l3,l4,ve,Cf,led,os,rfl,vf,ow,e3,e4,r3,r4,nt,hE,hlen,Gd,rfl⟩:=hw
   walk_at "w"
   refine aX (fun hc=>?_) (fun hc=>?_)
   ·refine Om ?_
    walk_at "w"
    have Cj:1<ve.length:=by have:=af7 hc;lia
    have QB:=r3.length
    refine Im (led.map fun v=>((at' p v:Nat):Int)) ow (aW.of e3) (by rw [agm,r3.length]) (by lia) (fun i x nn hx hnn H5 s5=>?_) (fun pS H5 ysS s5 yU m5 so=>?_)
    ·obtain ⟨a,r,rfl,ha,hi⟩:=r3.get hx
     have er:nn=((at' p r:Nat):Int):=by rw [agC,hi] at hnn;exact (af5 hnn).symm
     subst er
     have MW:=s5.at ow ha
     walk_at "v"
     refine d3 MW (aH (int_at (by rw [nt.1 r (agi _ (mem_of hi))];exact hp))) ?_
     walk_at "w"
     refine⟨?_,aj.refl _⟩
     unfold at'
     congr 1
     split <;> lia
    obtain ⟨qs,rq,pq,wq⟩:=A8 (fun v=>((at' p v:Nat):Int)) r3 so (aj.refl _)
    have rq5:=rq.eU s5 ow
    have lq:=pq.length_eq
    obtain ⟨sL,rest,rfl⟩:∃ sL rest,qs=sL::rest:=by
     cases qs with
     | nil=>simp at lq;lia
     | cons x y=>exact⟨x,y,rfl⟩
    have O7:rest≠[]:=fun z=>by rw [z] at lq;simp at lq;lia
    have hle:∀ v∈rest,at' p sL<=at' p v:=fun v hv=>by have:=(agP.mp wq).1 v hv;lia
    obtain ⟨Yj,Yk,tE⟩:=nt.turn JR pq O7 hle
    have e4':=s5.lst ow e4
    have r4':=r4.eU s5 ow
    obtain ⟨aL,ysR,rfl,V5,hR⟩:=rq5.Ip
    have mq:∀ v,v∈sL::rest->v∈led:=fun v hv=>pq.mem_iff.mp hv
    have hB:=nt.bd JR
    have LL:sL.length=n:=nt.1 sL (agi _ (mq sL (.head _)))
    have Ge:∀ v∈rest,v.length=n:=fun v hv=>nt.1 v (agi _ (mq v (agp _ hv)))
    have EE:rest.length<=63:=by have:=lq;simp at this;lia
    walk_at "w"
    refine bK (aW.of m5) (aH (j:=0) rfl) ?_
    walk_at "w"
    rename_i p6 H6 n6 s6 m6
    refine eh [some (.ref aL),some (.int p)] (b8 p sL) rfl (aW.of m6) (hR.same s6) (by lia) (fun a r H7 Qc hr s7 ha kc=>?_) (fun l7 H7 QC n7 s7 m7 r7=>?_)
    ·walk_at "w"
     exact sM r sL ha ((s6.trans s7).at V5) (Ge r hr) LL hn hp (nt.2.1 sL (mq sL (.head _))) (hB r (agi _ (mq r (agp _ hr)))) (hB sL (agi _ (mq sL (.head _)))) TK hk fun p8 H8 s8 m8=>kc _ _ s8 (aZ.of m8)
    have TQ:∀ r∈rest.map (b8 p sL),r.length=n:=fun r hr=>by
     obtain ⟨u,hu,rfl⟩:=agr.mp hr
     exact fy (Ge u hu) LL
    walk_at "w"
    rename_i p8 H8 n8 s8 m8
    refine de [some (.int p)] (fun v=>v.getD p 0 != 0) rfl (aW.of (s8 _ _ m7)) (r7.same s8) (by rw [agm];lia) (fun a r H9 Qt hr s9 ha kt=>?_) (fun a H9 Qc s9 kc=>?_) (fun l9 H9 ys9 n9 s9 m9 r9=>?_)
    ·walk_at "v"
     refine d3 ha (aH (int_at (by rw [TQ r hr];exact hp))) ?_
     walk_at "w"
     exact kt _ (aj.refl _)
    ·walk_at "w"
     exact kc
    have cnt:=Be p sL rest
    have lq':rest.length+1=led.length:=by simpa using lq
    have l9':ys9.length=(dC p sL rest).length:=r9.length.symm
    walk_at "w"
    rename_i p10 CA n10 Cb TR
    have Pc:=(s8.trans s9).trans Cb
    refine de [some (.int p)] (fun v=>v.getD p 0 == 0) rfl (aW.of (Pc _ _ m7)) (r7.same Pc) (by rw [agm];lia) (fun a r H9 Qt hr s9 ha kt=>?_) (fun a H9 Qc s9 kc=>?_) (fun O8 RG Gf n11 E7 TU O9=>?_)
    ·walk_at "v"
     refine d3 ha (aH (int_at (by rw [TQ r hr];exact hp))) ?_
     walk_at "w"
     exact kt _ (aj.refl _)
    ·walk_at "w"
     exact kc
    have Yl:Gf.length=(gK p sL rest).length:=O9.length.symm
    have lz:Cf.length=os.length:=r4.length.symm
    have TV:=((s6.trans s7).trans Pc).trans E7
    walk_at "w"
    refine yB (TV _ _ e4') TU (by lia) fun QD Ym Yn ou GO=>?_
    have Dc:=TV.trans ou
    refine⟨_,Yk,_,_,p10,QD,.ref aL::ys9,Cf++Gf,sL::dC p sL rest,os++gK p sL rest,rfl,vf.trans (s5.trans (bc.of Dc)),yU.same Dc,ou _ _ (E7 _ _ TR),GO,.cons (Dc.at V5) (r9.same ((Cb.trans E7).trans ou)),(r4'.same Dc).append (O9.same ou),Yj,hE.trans tE,by simp;lia,fun v hv=>?_,rfl⟩
    rcases agq.mp hv with rfl|hv
    ·exact Gd _ (mq _ (.head _))
    ·obtain ⟨u,hu,rfl⟩:=agr.mp (ags.mp hv).1
     exact af0 (af2 (nK (Ge u hu) LL (nt.2.1 sL (mq sL (.head _))))) (Gd _ (mq _ (.head _)))
   ·exact kn _ _ ⟨o4,o5,l3,l4,ve,Cf,led,os,rfl,vf,ow,e3,e4,r3,r4,nt,hE,hlen,by have:=r3.length;have:=af8 hc;lia,Gd⟩
  obtain ⟨o4,o5,l3,l4,ve,Cf,led,os,rfl,vf,ow,e3,e4,r3,r4,nt,hE,hlen,h1,Gd⟩:=hP
  have hB:=nt.bd JR
  walk_at "w"
  refine eh [some (.int p)] (nT p) rfl (aW.of e3) r3 (by lia) (fun a r H7 Qc hr s7 ha kc=>?_) (fun l7 H7 QC n7 s7 m7 r7=>?_)
  ·have lr:=nt.1 r (agi _ hr)
   walk_at "v"
   refine d3 ha (aH (int_at (by rw [lr];exact hp))) ?_
   walk_at "w"
   refine aX (fun hc=>?_) (fun hc=>?_)
   ·walk_at "w"
    refine Ez r ha (by lia) (fun x hx=>?_) fun p8 H8 s8 m8=>kc _ _ s8 ?_
    ·have b1:iM x<=k:=by
      rw [gm]
      exact mG (agu (sx (hB r (agi _ hr)) hx) TK)
     have b2:iM (-1)<=1:=by decide
     unfold kl
     lia
    ·unfold nT
     rw [if_pos (af7 hc)]
     exact aZ.of m8
   ·walk_at "w"
    refine kc _ _ (aj.refl _) ?_
    unfold nT
    rw [if_neg (af8 hc)]
    exact ha
  walk_at "w"
  rename_i p8 H8 s8 m8
  have Dd:=s7.trans s8
  have mp:∀ v∈led.map (nT p),∃ u∈led,nT p u=v:=fun v hv=>by obtain ⟨u,hu,e⟩:=agr.mp hv;exact⟨u,hu,e⟩
  refine kk p8 l7 l4 H8 QC Cf (led.map (nT p)) os (vf.trans (bc.of Dd)) (ow.same Dd) (aZ.of m8) (aW.of (s8 _ _ m7)) (r7.same s8) (aW.of (Dd _ _ e4)) (r4.same Dd) (by rw [agm];exact h1) (fun v hv=>?_) nt.2.2.1 (fun v hv=>?_) (fun v hv=>?_) (hE.trans ?_) (by rw [agm];exact hlen) (fun v hv=>by obtain ⟨u,hu,rfl⟩:=mp v hv;rw [Lm];exact Gd u hu)
  ·obtain ⟨u,hu,rfl⟩:=mp v hv
   exact IE (nt.2.1 u hu)
  ·rcases agk.mp hv with z|z
   ·obtain ⟨u,hu,rfl⟩:=mp v z
    exact IF (nt.1 u (agi _ hu))
   ·exact nt.1 v (agh _ z)
  ·rcases agk.mp hv with z|z
   ·obtain ⟨u,hu,rfl⟩:=mp v z
    exact Ln (hB u (agi _ hu))
   ·exact hB v (agh _ z)
  ·match led,h1,nt with
   | [],_,_=>exact Eqv.refl
   | [u],_,nt =>
    show Eqv n (u::os) (nT p u::os)
    unfold nT
    split
    ·exact Eqv.flip (nt.1 u (.head _))
    ·exact Eqv.refl
theorem De:aN ["steps","vector","left","step"] ["steps","vector"] (ag gQ):=⟨rfl,rfl,rfl,by decide +kernel,rfl,by decide +kernel,by decide +kernel⟩
structure Df(P:Program)(w:World)(K:Frag)(mg:Str->Option Value)(base:Heap)(G:kY):Prop where
 Dg:Ok P w K mg base 1 "lead_place" ["row"] (jX K)
 lowered:Ok P w K mg base 34 "lowered" ["vector","step","place"] (jf K)
theorem Dh (D:Def K mg "left_by" gQ ["steps","vector"]) (T:Txt K mg G) (O:Df P w K mg base G) (Y:base.NoSeer/\P.given.tree=none):Ok P w K mg base 35 "left_by" ["steps","vector"] (oV K):=by
 have S:=De
 refine D.ok S (fun vs H Q E h=>?_) (fun f dh A outer s H vs Q E hr h=>?_)
 ·obtain ⟨_,_,_,_,_,_,_,_,rfl,_⟩:=h;rfl
 ·obtain ⟨l,a,n,B,C,xs,st,u,rfl,hl,mD,ha,lu,hn5,hn,xI,h5,hsf,j7,hub,hBC,k⟩:=h
  have hu:=bG hr
  have aI:=T.aI
  refine⟨_,(ah (aU (i:=2) S.nd rfl (Or.inl rfl) (pv 1)) (ah (dj PassesOwn.never rfl (bh K rfl (pv 0)) (aD (i:=3) S.nd rfl (Or.inl rfl)) (ai (aU (i:=2) S.nd rfl (Or.inl rfl) (ba O.lowered (hr.mono (by decide)) (aa (pv 2) (aa (pv 3) (aa (ba O.Dg (hr.mono (by decide)) (aa (dI (qp K rfl) (pv 3) jC (cR (d8 (v:=V.int 5) rfl T.jJ ⟨_,rfl⟩))) af)) af))))))) (ai (aS (pv 2))))),?_⟩
  have lr:=mD.length
  walk_at "w"
  refine iA (xs:=xs) (fun i σ H2=>∃ (o:Option V) (p:Addr) (v:List Int),σ=[some (.ref l),some (.ref a),some (.ref p),o]/\aj H H2/\aZ K H2 p (v.map V.int)/\LB n 5 st i u v/\bf (2 ^ (C+(B+1)*i)) v) ⟨_,a,u,rfl,aj.refl _,ha,LB.start lu,hub⟩ (fun i σ H2 hp=>by obtain ⟨o,p,v,rfl,s2,_⟩:=hp;exact s2.seq hl) (fun i x σ H2 hx hp=>?_) (fun σ H2 hp=>?_)
  ·obtain ⟨o,p,v,rfl,s2,mp,hv,QE⟩:=hp
   obtain ⟨c,s,rfl,hc,hi⟩:=mD.get hx
   have OO:i<5:=by have:=(afX.mp hi).1;lia
   have GH:=mem_of hi
   have ls:=xI s GH
   obtain ⟨kk,hk⟩:=hsf.1 (s.take 5) (agr.mpr ⟨s,GH,rfl⟩)
   have Fj:=vI hk
   have h0:s.getD kk 0≠0:=by have:=hk.1;rw [hJ _ Fj] at this;lia
   have Kf:=s2.at hc
   have hBi:(B+1)*i<=(B+1)*4:=mul_le_mul_left _ (by lia)
   have hB1:(B+1)*(i+1)=(B+1)*i+(B+1):=by rw [mul_add,Nat.mul_one]
   walk_at "w"
   refine yK Kf fun p3 H3 s3 m3=>?_
   rw [show (some (5:Int))=some ((5:Nat):Int) from rfl,nQ,<- map_take] at m3
   walk_at "w"
   refine zI m3 (by rw [agA];lia) hk fun H4 s4=>?_
   walk_at "w"
   have Ys:=s3.trans s4
   refine sM (M:=2 ^ (C+(B+1)*(i+1))) (k:=C+(B+1)*(i+1)+1) v s (Ys.at mp) (Ys.at Kf) hv.len ls (by lia) (by lia) h0 (QE.mono (agt (by decide) (by lia))) ((j7 s GH).mono (agt (by decide) (by lia))) (pow_lt_pow_right (by decide) (lt_succ_self _)) (by lia) fun p5 H5 s5 m5=>?_
   walk_at "w"
   refine⟨_,p5,_,rfl,s2.trans (Ys.trans s5),aZ.of m5,hv.step lu hi ls hsf hk,(zh hv.len ls h0 QE (j7 s GH)).mono ?_⟩
   rw [hB1,show C+((B+1)*i+(B+1))=B+(C+(B+1)*i)+1 by lia,pow_succ (n:=2) (m:=B+(C+(B+1)*i)),pow_add 2 B]
   have h3:(2:Nat) ^ (C+(B+1)*i)<=2 ^ B*2 ^ (C+(B+1)*i):=Nat.le_mul_of_pos_left _ (agL _)
   lia
  ·obtain ⟨o,p,v,rfl,s2,mp,hv,QE⟩:=hp
   rw [<- lr] at hv
   walk_at "w"
   exact k _ _ v s2 mp hv (QE.mono (agt (by decide) (Nat.add_le_add_left (mul_le_mul_left _ (by lia)) _)))
theorem zX:aN ["_law_rows","_law_found","_law_left","_law_place","_law_one"] ["_law_rows"] (ag eW):=⟨rfl,rfl,rfl,by decide +kernel,rfl,by decide +kernel,by decide +kernel⟩
structure zY(P:Program)(w:World)(K:Frag)(mg:Str->Option Value)(base:Heap)(G:kY):Prop where
 lG:Ok P w K mg base 34 "_law_gathered" ["_law_rows","_law_place"] (fE K)
theorem zZ (D:Def K mg "_law_steps" eW ["_law_rows"]) (T:Txt K mg G) (O:zY P w K mg base G) (Y:base.NoSeer/\P.given.tree=none):Ok P w K mg base 35 "_law_steps" ["_law_rows"] (lB K):=by
 have S:=zX
 refine D.ok S (fun vs H Q E h=>?_) (fun f dh A outer s H vs Q E hr h=>?_)
 ·obtain ⟨_,_,_,_,rfl,_⟩:=h;rfl
 ·obtain ⟨l,b,xs,rs,rfl,hl,mD,HZ,xI,j7,V8,k⟩:=h
  have hu:=bG hr
  have aI:=T.aI
  refine⟨_,(ah (aU (i:=1) S.nd rfl (Or.inl rfl) (dk af)) (ah (aU (i:=2) S.nd rfl (Or.inl rfl) (bN (jE K rfl) rfl T.mU boot_list (aa (pv 0) af))) (ah (dj PassesOwn.never rfl (qk K rfl (cP (aa ae (aa ae (aa ae (aa ae (aa ae af))))))) (aD (i:=3) S.nd rfl (Or.inl rfl)) (ah (jR (ba O.lG (hr.mono (by decide)) (aa (pv 2) (aa (pv 3) af))) (fD (n:=2) K rfl rfl (bP (aD (i:=4) S.nd rfl (Or.inl rfl)) (bP (aD (i:=2) S.nd rfl (Or.inl rfl)) fC)))) (ai (b9 (aM DU (pv 4) oC (aQ _)) (ai (dW (ip PySem.F.plainAttrs_list PySem.F.slot_list_append PySem.F.type_list_append cB (pv 1) (@aa _ _ _ _ _ (@cP _ _ _ _ _ (aa (pv 3) (aa (pv 4) af))) af (by rfl))))) bA)))) (ai (aS (pv 1)))))),?_⟩
  walk_at "w"
  rename_i lf H1 n1 s1 m1 ll H2 n2 s2 m2 pt H3 s3 m3
  have Ji:=(s1.trans s2).trans s3
  have O4:lf≠ll:=fun z=>by rw [<- z,m1] at n2;cases n2
  refine OI (K:=K) (xs:=[.int 4,.int 3,.int 2,.int 1,.int 0]) (fun i σ' H'=>∃ (o3 o4:Option V) (ll:Addr) (ys zs:List V) (ps:List (Nat×List Int)) (os:List (List Int)),σ'=[some (.ref l),some (.ref lf),some (.ref ll),o3,o4]/\aj H H'/\aZ K H' pt [.int 4,.int 3,.int 2,.int 1,.int 0]/\lf≠ll/\H' lf=some (.lst ys)/\H' ll=some (.lst zs)/\yL K H' ys ps/\av K H' zs os/\FO b rs i ps os) ⟨_,_,ll,[],xs,[],rs,rfl,Ji,aZ.of m3,O4,(s2.trans s3) _ _ m1,s3 _ _ m2,.nil,mD.same Ji,FO.start xI j7⟩ (fun i σ' H' hP=>by obtain ⟨_,_,_,_,_,_,_,rfl,_,h,_⟩:=hP;exact h) (fun i x σ' H' hx hP=>?_) (fun σ' H' hP=>?_)
  ·obtain ⟨o3,o4,ll,ys,zs,ps,os,rfl,sH,Yt,ne,ef,el,MV,JN,hI⟩:=hP
   have hi:i<5:=(afX.mp hx).1
   obtain ⟨p,hp⟩:∃ p:Nat,p+i+1=5:=⟨4 - i,by lia⟩
   have hxp:x=.int (p:Int):=by
    rcases (show i=0\/i=1\/i=2\/i=3\/i=4 by lia) with rfl|rfl|rfl|rfl|rfl <;> cases hx <;> (obtain rfl:p=_:=by (first|exact (show p=4 by lia)|exact (show p=3 by lia)|exact (show p=2 by lia)|exact (show p=1 by lia)|exact (show p=0 by lia))) <;> rfl
   subst hxp
   have hc:=hI.c
   have hg:=Er b (show i+1<=5 by lia)
   have lps:=MV.length
   have hcp:=hI.cp
   walk_at "w"
   refine nk (p:=p) (n:=5) (M:=2 ^ b7.gs b i) (A:=2 ^ b7.gs b i) (k:=b7.gs b (i+1)) ⟨aW.of el,JN,by lia,hI.len,by decide,by lia,hI.bo,fun v hv=>hI.bo v hv p,agL _,hZ b i,by lia⟩ (fun t l2 H4 JV Yu s4 mt n4 m4 r4 z4 z6 b4 e4 c4=>?_) (fun t a l2 H4 JV Yu s s4 mt ha n4 m4 r4 sn sA z4 z6 b4 e4 c4=>?_)
   ·have ne4:lf≠l2:=fun z=>by rw [<- z,ef] at n4;cases n4
    walk_at "w"
    refine jF mt ?_
    walk_at "w"
    refine⟨rfl,?_⟩
    walk_at "w"
    refine gj rfl ?_
    walk_at "w"
    exact⟨_,_,l2,ys,JV,ps,Yu,rfl,sH.trans s4,s4.at Yt,ne4,s4 _ _ ef,m4,MV.same s4,r4,hI.none hp e4 z4 z6 b4 c4⟩
   ·have ne4:lf≠l2:=fun z=>by rw [<- z,ef] at n4;cases n4
    walk_at "w"
    refine jF mt ?_
    walk_at "w"
    refine⟨rfl,?_⟩
    walk_at "w"
    refine yC rfl ?_
    walk_at "w"
    rename_i p5 H5 s5 m5
    have V9:=s4.trans s5
    have Wa:=V9 _ _ ef
    refine dn Wa (by lia) ?_
    exact⟨_,_,l2,ys++[.ref p5],JV,ps++[(p,s)],Yu,rfl,(sH.trans V9).cw n1,cN (V9.at Yt) Wa,ne4,aw,by rw [aG (Ne.symm ne4)];exact s5 _ _ m4,((MV.same V9).snoc (aZ.of m5) (s5.at ha)).off Wa,(r4.same s5).off Wa,hI.one hp e4 sn z4 z6 b4 c4⟩
  obtain ⟨o3,o4,ll,ys,zs,ps,os,rfl,sH,Yt,ne,ef,el,MV,JN,hI⟩:=hP
  have hI:FO b rs 5 ps os:=hI
  walk_at "w"
  exact k lf H' ys ps n1 sH ef MV hI.VV hI.cp hI.all hI.bp
theorem Di:aN ["vectors","size","steps","left","place","parts","lead"] ["vectors","size"] (ag gP):=⟨rfl,rfl,rfl,by decide +kernel,rfl,by decide +kernel,by decide +kernel⟩
structure Dj(P:Program)(w:World)(K:Frag)(mg:Str->Option Value)(base:Heap)(G:kY):Prop where
 lowered:Ok P w K mg base 34 "lowered" ["vector","step","place"] (jf K)
 parted:Ok P w K mg base 35 "parted" ["vectors","place"] (sI K)
theorem Dk (D:Def K mg "stepped" gP ["vectors","size"]) (T:Txt K mg G) (O:Dj P w K mg base G) (Y:base.NoSeer/\P.given.tree=none):Ok P w K mg base 36 "stepped" ["vectors","size"] (jg K):=by
 have S:=Di
 refine D.ok S (fun vs H Q E h=>?_) (fun f dh A outer s H vs Q E hr h=>?_)
 ·obtain ⟨_,_,_,_,_,_,rfl,_⟩:=h;rfl
 ·obtain ⟨l,w,n,b,xs,rs,rfl,hl,mD,HZ,xI,hn,hw,j7,S5,hT,kk⟩:=h
  have hu:=bG hr
  have aI:=T.aI
  refine⟨_,(ah (aU (i:=2) S.nd rfl (Or.inl rfl) (dk af)) (ah (aU (i:=3) S.nd rfl (Or.inl rfl) (pv 0)) (ah (dj PassesOwn.never rfl (FC rfl T.cY (aa (ay oI (pv 1) ae) (aa (yg rR ae) (aa (yg rR ae) af)))) (aD (i:=4) S.nd rfl (Or.inr rfl)) (ah (aU (i:=5) S.nd rfl (Or.inl rfl) (ba O.parted (hr.mono (by decide)) (aa (pv 3) (aa (pv 4) af)))) (ah (aU (i:=3) S.nd rfl (Or.inl rfl) (aR (aC K rfl) (pv 5) ae (fun _ _=>rfl))) (ai (dj PassesOwn.never rfl (bh K rfl (aR (aC K rfl) (pv 5) ae (fun _ _=>rfl))) (aD (i:=6) S.nd rfl (Or.inr rfl)) (ai (aU (i:=2) S.nd rfl (Or.inl rfl) (ay oK (bQ (N:=["step","lead","place"]) (ix:=[none,some 6,some 4]) rfl (bh K rfl (pv 2)) (fun _ _ _ _ _=>(aD (i:=0) (show jz ["step","lead","place"] by decide +kernel) rfl (Or.inl rfl))) (fun _ _ _ _ _=>rfl) (fun _ _ _ _ _=>(ba O.lowered (hr.mono (by decide)) (aa (pv 0) (aa (pv 1) (aa (pv 2) af))))) rfl (by decide +kernel) (by decide +kernel) rfl ⟨⟨rfl,Or.inr (Or.inl rfl),rfl,rfl⟩,⟨⟨rfl,Or.inr (Or.inl rfl),rfl,rfl⟩,True.intro⟩⟩) (dk (aa (pv 6) af)))))))))) (ai (aS (pv 2)))))),?_⟩
  walk_at "w"
  rename_i ls0 H1 n1 s1 m1
  refine OD (fun i σ H'=>∃ (o1 o2 o3:Option V) (ls ll:Addr) (ys zs:List V) (st lf:List (List Int)),σ=[some (.ref l),some (.int w),some (.ref ls),some (.ref ll),o1,o2,o3]/\H ls=none/\jd K H H'/\bH K H'/\H' ls=some (.lst ys)/\av K H' ys st/\aW K H' ll zs/\av K H' zs lf/\SJ n w b rs i st lf) ⟨_,_,_,ls0,l,[],xs,[],rs,rfl,n1,bc.of s1,hT.same s1,m1,.nil,s1.seq hl,mD.same s1,SJ.start xI j7⟩ (fun i σ H' hi hp=>?_) (fun σ H' hp=>?_)
  ·obtain ⟨o1,o2,o3,ls,ll,ys,zs,st,lf,rfl,Nw,sm,rK,e1,r1,e2,r2,hI⟩:=hp
   have hiw:i<w:=by lia
   obtain ⟨p,hpp⟩:∃ p:Nat,(w:Int) - 1 - i=p:=⟨w - 1 - i,by lia⟩
   rw [hpp]
   have hp1:p+i+1=w:=by lia
   have hgi:=S5 i hiw
   have hg2:b7.gs b (i+1)=3*b7.gs b i+3:=rfl
   have hg3:b7.gs b (i+1)<=b7.ss b (i+1):=by rw [b7.ss];lia
   have c1:=hI.c1
   have c2:=hI.c2
   walk_at "w"
   refine IV (M:=2 ^ b7.gs b i) (A:=2 ^ b7.gs b i) (k:=b7.gs b (i+1)) (n:=n) (p:=p) ⟨e2,r2,by lia,hI.VD,hn,by lia,hI.bl,(fun v hv=>hI.bl v hv p),agL _,hZ b i,by lia,rK⟩ fun t l1 l2 H3 ve Cf led os vf ow mt q1 qr1 q2 qr2 h1 xr h0 hlen QF hE Jj GG=>?_
   have e13:=vf.lst rK e1
   have r13:=r1.eU vf rK
   have lq:=qr1.length
   have lst:=r1.length
   walk_at "w"
   refine iA (xs:=ve) (fun j σ H4=>∃ (o3:Option V) (ls:Addr) (ys:List V),σ=[some (.ref l),some (.int w),some (.ref ls),some (.ref l2),some (.int p),some (.ref t),o3]/\H ls=none/\aj H3 H4/\H4 ls=some (.lst ys)/\av K H4 ys ((led.take j).foldl (fun st s=>st.map (b8 p s)++[s]) st)) ⟨_,ls,ys,rfl,Nw,aj.refl _,e13,r13⟩ (fun j σ H4 hp=>by obtain ⟨o3,ls,ys,rfl,_,s4,_⟩:=hp;exact s4.seq q1) (fun j x σ H4 hx hp=>?_) (fun σ H4 hp=>?_)
   ·obtain ⟨o4,ls4,Pd,rfl,TX,s4,e4,r4⟩:=hp
    have hj:j=0:=by have:=(afX.mp hx).1;lia
    subst hj
    rw [List.take_zero,List.foldl_nil] at r4
    obtain ⟨a,sv,rfl,ha,hi3⟩:=qr1.get hx
    have GH:=mem_of hi3
    have l4:=r4.length
    walk_at "w"
    refine eh [some (.ref a),some (.int p)] (b8 p sv) rfl (aW.of e4) r4 (by lia) (fun a5 r5 H5 Qc MW s5 Yv kc=>?_) (fun l7 H7 QC n7 s7 m7 r7=>?_)
    ·walk_at "w"
     exact sM (M:=2 ^ b7.ss b (i+1)) (k:=b7.ss b (i+1)+1) r5 sv Yv ((s4.trans s5).at ha) (hI.lst r5 MW) (hlen sv (agi _ GH)) hn (by lia) (by have:=xr sv GH;lia) ((hI.bs r5 MW).mono (agt (by decide) (by rw [b7.ss];lia))) ((QF sv (agi _ GH)).mono (af0 (af2 (hZ b i)) (agt (by decide) (by rw [b7.ss];lia)))) (pow_lt_pow_right (by decide) (lt_succ_self _)) (by lia) fun p8 H8 s8 m8=>kc _ _ s8 (aZ.of m8)
    have l7':=r7.length
    rw [agm] at l7'
    walk_at "w"
    rename_i p8 H8 n8 s8 m8 p9 H9 n9 s9 m9
    refine⟨_,p9,QC++[.ref a],rfl,?_,((s4.trans s7).trans s8).trans s9,m9,?_⟩
    ·exact sm.new rK (vf.new ow (((s4.trans s7).trans s8).new n9))
    ·rw [take_snoc hi3]
     exact (r7.same (s8.trans s9)).append (.cons ((((s4.trans s7).trans s8).trans s9).at ha) .nil)
   ·obtain ⟨o4,ls4,Pd,rfl,TX,s4,e4,r4⟩:=hp
    rw [<- lq,agz] at r4
    refine⟨_,_,_,ls4,l2,Pd,Cf,_,os,rfl,TX,sm.trans (vf.trans (bc.of s4)),ow.same s4,e4,r4,s4.seq q2,qr2.same s4,?_⟩
    match led,h1,hE,Jj,QF,hlen,xr,GG with
    | [],_,hE,Jj,QF,hlen,_,_=>exact hI.none hp1 hE h0 hlen QF (by simpa using Jj)
    | [s],_,hE,Jj,QF,hlen,xr,GG=>exact hI.one hp1 hw hE (xr s (.head _)) h0 hlen QF (by simp at Jj;lia) (GG s (.head _))
  ·obtain ⟨o1,o2,o3,ls,ll,ys,zs,st,lf,rfl,Nw,sm,rK,e1,r1,e2,r2,hI⟩:=hp
   rw [show ((w:Int) - 1 - -1).toNat=w by lia] at hI
   walk_at "w"
   exact kk ls H' ys st lf Nw sm rK e1 r1 hI
theorem nu:aN ["self","row"] ["self","row"] (ag bV):=⟨rfl,rfl,rfl,by decide +kernel,rfl,by decide +kernel,by decide +kernel⟩
structure nv(P:Program)(w:World)(K:Frag)(mg:Str->Option Value)(base:Heap)(G:kY):Prop where
 LM:Ok P w K mg base 35 "left_by" ["steps","vector"] (oV K)
theorem ny (D:ir K G.dY "sound" "CommaTuning.sound" bV ["self","row"]) (T:Txt K mg G) (O:nv P w K mg base G) (Y:base.NoSeer/\P.given.tree=none):oi P w K mg base 36 G.dY ["self","row"] (fh K):=by
 have S:=nu
 refine D.ok S (fun vs H Q E h=>?_) (fun f dh A outer s H vs Q E hr h=>?_)
 ·obtain ⟨_,_,_,_,_,rfl,_⟩:=h;rfl
 ·obtain ⟨x,l,a,st,r,rfl,⟨C,dx,ys,hC,hx,m1,r1⟩,⟨sf,hl,hb⟩,ha,lr,br,k⟩:=h
  have hu:=bG hr
  have aI:=T.aI
  have bj:=T.bj
  have aE:=T.aE
  have au:=T.au
  have aO:=T.aO
  have ao:=T.ao
  have bC:=T.bC
  have aB:=T.aB
  have aF:=T.aF
  refine⟨_,(ai (aS (ba O.LM (hr.mono (by decide)) (aa (qr K rfl (pv 0) rfl) (aa (pv 1) af))))),?_⟩
  obtain rfl:G.aK=C:=by have:=T.bB;rw [hC] at this;cases this;rfl
  have h5:st.length<=5:=SF.count sf fun q hq j hj=>zk (hl q hq) hj
  have et:st.map (List.take 5)=st:=by
   conv=>rhs;rw [<- map_id st]
   exact agF fun q hq=>agG (by rw [hl q hq];exact af1 _)
  walk_at "w"
  refine FX (n:=5) (B:=1500) (C:=20000) ⟨aW.of m1,r1,ha,lr,by decide,by decide,hl,h5,by rw [et];exact sf,hb,br,by decide⟩ fun p H' v s m Yw _=>k p H' v s m ⟨Yw.len,Yw.made,fun q hq j hj=>?_⟩
  obtain ⟨i,hi,e⟩:=agS hq
  exact Yw.small i q j hi (by rw [agg hi,e]) (by rw [agG (by rw [hl q hq];exact af1 _)];exact hj)
theorem Jk:aN ["commas"] ["commas"] (ag kT):=⟨rfl,rfl,rfl,by decide +kernel,rfl,by decide +kernel,by decide +kernel⟩
structure Jl(P:Program)(w:World)(K:Frag)(mg:Str->Option Value)(base:Heap)(G:kY):Prop where
 wF:Ok P w K mg base 1 "checked_commas" ["commas"] (gB K)
 qX:Ok P w K mg base 36 "stepped" ["vectors","size"] (jg K)
theorem Jm (D:Def K mg "table" kT ["commas"]) (T:Txt K mg G) (O:Jl P w K mg base G) (Y:base.NoSeer/\P.given.tree=none):Ok P w K mg base 37 "table" ["commas"] (wc K):=by
 have S:=Jk
 refine D.ok S (fun vs H Q E h=>?_) (fun f dh A outer s H vs Q E hr h=>?_)
 ·obtain ⟨_,_,_,_,rfl,_⟩:=h;rfl
 ·obtain ⟨l,b,xs,rs,rfl,hl,mD,h6,xI,j7,hb,hT,kk⟩:=h
  have hu:=bG hr
  have aI:=T.aI
  refine⟨_,(ai (aS (ba O.qX (hr.mono (by decide)) (aa (ba O.wF (hr.mono (by decide)) (aa (pv 0) af)) (aa (d8 (v:=V.int 5) rfl T.jJ ⟨_,rfl⟩) af))))),?_⟩
  have lr:=mD.length
  walk_at "w"
  refine sJ hl (by lia) ?_
  walk_at "w"
  refine sN (w:=5) (n:=5) (b:=b) ⟨hl,mD,by lia,xI,by decide,by decide,j7,fun i hi=>lt_trans (OM hb hi).2 (by decide),hT⟩ fun l' H' ys st lf hn sm GJ e r hI=>?_
  have hc:=hI.c2
  exact kk l' H' ys st hn sm GJ e r hI.all.1 hI.all.2 hI.lst hc hI.bs (fun v hv k hk=>hI.lb v hv k (by rw [agG (le_of_eq (hI.lst v hv))];exact hk))
theorem xQ:aN ["rows","key","valued"] ["rows","key"] (ag ek):=⟨rfl,rfl,rfl,by decide +kernel,rfl,by decide +kernel,by decide +kernel⟩
structure xR(P:Program)(w:World)(K:Frag)(mg:Str->Option Value)(base:Heap)(G:kY):Prop where
 qX:Ok P w K mg base 36 "stepped" ["vectors","size"] (jg K)
 value:Ok P w K mg base 2 "value" ["key","row"] (qJ K)
theorem xS (D:Def K mg "lost_among" ek ["rows","key"]) (T:Txt K mg G) (O:xR P w K mg base G) (Y:base.NoSeer/\P.given.tree=none):Ok P w K mg base 37 "lost_among" ["rows","key"] (jY K):=by
 have S:=xQ
 refine D.ok S (fun vs H Q E h=>?_) (fun f dh A outer s H vs Q E hr h=>?_)
 ·obtain ⟨_,_,_,_,_,_,_,_,rfl,_⟩:=h;rfl
 ·obtain ⟨l,kt,wa,b,m,xs,st,ws,rfl,hl,mD,h5,hc5,j7,hkt,hwa,lw,Wb,NF,QE,BE,hb,hT,k⟩:=h
  have hu:=bG hr
  have aI:=T.aI
  refine⟨_,(ah (aU (i:=2) S.nd rfl (Or.inl rfl) (ay oK (bQ (N:=["row","key"]) (ix:=[none,some 1]) rfl (bh K rfl (pv 0)) (fun _ _ _ _ _=>(aD (i:=0) (show jz ["row","key"] by decide +kernel) rfl (Or.inl rfl))) (fun _ _ _ _ _=>rfl) (fun _ _ _ _ _=>(ay (kj K rfl) (pv 0) (cP (aa (ba O.value (hr.mono (by decide)) (aa (pv 1) (aa (pv 0) af))) af)))) rfl (by decide +kernel) (by decide +kernel) rfl ⟨⟨rfl,Or.inr (Or.inl rfl),rfl,rfl⟩,True.intro⟩) (dk (aa (ay (kj K rfl) (d8 (v:=V.ref G.qF) rfl T.Bm rfl) (cP (aa (aR (aC K rfl) (pv 1) ae (fun _ _=>rfl)) af))) af)))) (ai (aS (bQ (N:=["vector"]) (ix:=[none]) rfl (bh K rfl (ba O.qX (hr.mono (by decide)) (aa (pv 2) (aa (ay cV (d8 (v:=V.int 5) rfl T.jJ ⟨_,rfl⟩) ae) af)))) (fun _ _ _ _ _=>(aD (i:=0) (show jz ["vector"] by decide +kernel) rfl (Or.inl rfl))) (fun _ _ _ _ _=>(aM dH (aR (aC K rfl) (pv 0) (d8 (v:=V.int 5) rfl T.jJ ⟨_,rfl⟩) (fun _ _=>rfl)) ae (aQ _))) (fun _ _ _ _ _=>(dI (qp K rfl) (pv 0) jC (cR (d8 (v:=V.int 5) rfl T.jJ ⟨_,rfl⟩)))) rfl (by decide +kernel) (by decide +kernel) rfl True.intro)))),?_⟩
  have lr:=mD.length
  walk_at "w"
  refine eh [some (.ref kt)] (fun r=>r++[val ws m r]) rfl hl mD (by lia) (fun a r H' Qc hr s ha kc=>?_) (fun l1 H1 ys n1 s1 m1 r1=>?_)
  ·have Pe:=h5 r hr
   walk_at "w"
   refine EA ws r (s.at hkt) (s.at hwa) ha (by lia) (by lia) (Ar.mul (xw (j7 r hr) (by lia:b<50001)) NF (by decide) (by lia)) Wb fun H2 s2=>?_
   walk_at "w"
   rename_i p3 H3 s3 m3
   refine zt ((s2.trans s3).at ha) (aZ.of m3) (fun z=>by rw [map_eq_nil_iff] at z;rw [z] at Pe;simp at Pe) (by simp) (by simp;lia) fun p4 H4 s4 m4=>?_
   refine kc p4 H4 ((s2.trans s3).trans s4) ?_
   rw [agD]
   exact aZ.of m4
  have q1:=aI H1
  walk_at "w"
  rename_i pa Ha sa ma pb Hb sb mb pc Hc nc sc mc
  have Yx:=(sa.trans sb).trans sc
  have ly:=r1.length
  rw [agm] at ly
  refine yB (Yx _ _ m1) mc (by simp;lia) fun l2 H2 n2 s2 m2=>?_
  have Kw:av K H2 (ys++[.ref pb]) (valued (val ws m) st m):=(r1.same (Yx.trans s2)).append (.cons ((sc.trans s2).at (aZ.of mb)) .nil)
  have ou:=(s1.trans Yx).trans s2
  have rK:=hT.same ou
  have lv:(valued (val ws m) st m).length=st.length+1:=by simp [valued]
  have hlv:Len 6 (valued (val ws m) st m):=fun v hv=>by
   rcases agk.mp hv with z|z
   ·obtain ⟨r,hr,rfl⟩:=agr.mp z
    simp [h5 r hr]
   ·rw [agj.mp z];rfl
  have Yp:∀ v∈valued (val ws m) st m,bf (2 ^ b) v:=fun v hv=>by
   rcases agk.mp hv with z|z
   ·obtain ⟨r,hr,rfl⟩:=agr.mp z
    exact zi (j7 r hr) (mS fun x hx=>by rw [agj.mp hx];exact QE r hr)
   ·rw [agj.mp z]
    exact zi (fun i=>by rw [bU];exact agM _) (mS fun x hx=>by rw [agj.mp hx];exact BE)
  walk_at "w"
  refine sN (w:=6) (n:=6) (b:=b) ⟨aW.of m2,Kw,by lia,hlv,by decide,by decide,Yp,fun i hi=>Tg hb (af1 _) hi,rK⟩ fun l3 H3 ve S lf n3 vf ow e3 r3 hI=>?_
  have hS:=hI.all
  have hc:=hI.c2
  walk_at "w"
  refine sr [] (fun v=>v.getD 5 0 == 0) (List.take 5) rfl (aW.of e3) r3 (by lia) (fun a r H' Qt hr s ha kt=>?_) (fun a r H' Qc hr hf s ha kc=>?_) (fun l4 H4 us n4 s4 m4 r4=>?_)
  ·walk_at "v"
   refine d3 ha (aH (j:=5) (int_at (by rw [hI.lst r hr];decide))) ?_
   walk_at "w"
   exact kt _ (aj.refl _)
  ·walk_at "w"
   refine yK ha fun p5 H5 s5 m5=>?_
   rw [show (some (5:Int))=some ((5:Nat):Int) from rfl,nQ,<- map_take] at m5
   exact kc p5 H5 s5 m5
  have QG:=D4 (f:=val ws m) h5 lw (fun r hr=>Lu ws m r) hS.1 hI.lst hS.2
  exact k l4 H4 us _ (ou.new (vf.new ow n4)) ((bc.of ou).trans (vf.trans (bc.of s4))) (ow.same s4) m4 r4 QG (SF.count QG.sf fun r hr j hj=>zk (QG.len r hr) hj)
theorem uL:aN ["self","one","other"] ["self","one","other"] (ag dw):=⟨rfl,rfl,rfl,by decide +kernel,rfl,by decide +kernel,by decide +kernel⟩
structure uM(P:Program)(w:World)(K:Frag)(mg:Str->Option Value)(base:Heap)(G:kY):Prop where
 uk:oi P w K mg base 4 G.ic ["self","row"] (jj K)
 jN:oi P w K mg base 36 G.dY ["self","row"] (fh K)
 lX:oi P w K mg base 4 G.eQ ["self","row"] (fP K)
 qY:oi P w K mg base 1 G.gv ["self","row"] (iD K)
theorem uN (D:ir K G.dy "alike" "Tuning.alike" dw ["self","one","other"]) (T:Txt K mg G) (O:uM P w K mg base G) (Y:base.NoSeer/\P.given.tree=none):oi P w K mg base 37 G.dy ["self","one","other"] (cC K):=by
 have S:=uL
 refine D.ok S (fun vs H Q E h=>?_) (fun f dh A outer s H vs Q E hr h=>?_)
 ·obtain ⟨_,_,_,_,_,_,_,rfl,_⟩:=h;rfl
 ·obtain ⟨x,l,a,b,u,r,q,rfl,hu,ho,ha,hb,lr,lq,br,bq,k⟩:=h
  have hu:=bG hr
  have aI:=T.aI
  have bj:=T.bj
  have aE:=T.aE
  have au:=T.au
  have aO:=T.aO
  have ao:=T.ao
  have bC:=T.bC
  have aB:=T.aB
  have aF:=T.aF
  refine⟨_,(ai (aS (fo (iR K rfl hr.units) (dA (lV O.qY T.bj T.mV (hr.mono (by decide)) (pv 0) (aa (pv 1) af)) (dA (lV O.jN T.aE T.iO (hr.mono (by decide)) (pv 0) (aa (pv 1) af)) (dA (lV O.lX T.aO T.jK (hr.mono (by decide)) (pv 0) (aa (pv 1) af)) (lV O.uk T.bC T.om (hr.mono (by decide)) (pv 0) (aa (pv 1) af))))) (dA (lV O.qY T.bj T.mV (hr.mono (by decide)) (pv 0) (aa (pv 2) af)) (dA (lV O.jN T.aE T.iO (hr.mono (by decide)) (pv 0) (aa (pv 2) af)) (dA (lV O.lX T.aO T.jK (hr.mono (by decide)) (pv 0) (aa (pv 2) af)) (lV O.uk T.bC T.om (hr.mono (by decide)) (pv 0) (aa (pv 2) af))))) (aQ _)))),?_⟩
  cases u with
  | plain =>
   obtain ⟨C,dx,hC,hx⟩:=id hu
   obtain rfl:G.dJ=C:=by have:=T.je;rw [hC] at this;cases this;rfl
   walk_at "w"
   refine .inl ?_
   walk_at "w"
   refine nr ?_
   refine .inl ?_
   walk_at "w"
   refine nr ?_
   refine lU (fH.row ha) (fH.row hb) (ee _) (ee _) ?_
   rw [ql]
   exact k _ _ (aj.refl _) decide_eq_true_iff
  | comma st =>
   obtain ⟨C,dx,ys,hC,hx,_⟩:=id hu
   obtain rfl:G.aK=C:=by have:=T.bB;rw [hC] at this;cases this;rfl
   walk_at "w"
   refine .inr (.inl ?_)
   walk_at "w"
   refine iP ⟨hu,ho,ha,lr,br⟩ fun p1 H1 v1 s1 m1 hv1=>?_
   have TY:=s1 _ _ hx
   refine .inr (.inl ?_)
   walk_at "w"
   refine iP ⟨hu.same s1,ho,s1.at hb,lq,bq⟩ fun p2 H2 v2 s2 m2 hv2=>?_
   refine lU (fH.row (s2.at m1)) (fH.row m2) (ee _) (ee _) ?_
   rw [ql]
   exact k _ _ (s1.trans s2) (decide_eq_true_iff.trans (Lv ho.1 ho.2.1 lr lq hv1 hv2))
  | key ks =>
   obtain ⟨C,dx,ys,hC,hx,_⟩:=id hu
   obtain rfl:G.aV=C:=by have:=T.bO;rw [hC] at this;cases this;rfl
   walk_at "w"
   refine .inr (.inr (.inl ?_))
   walk_at "w"
   refine jM ⟨hu,ho,ha,lr,br⟩ fun p1 H1 s1 m1=>?_
   have TY:=s1 _ _ hx
   refine .inr (.inr (.inl ?_))
   walk_at "w"
   refine jM ⟨hu.same s1,ho,s1.at hb,lq,bq⟩ fun p2 H2 s2 m2=>?_
   refine lU (fH.row (s2.at m1)) (fH.row m2) (ee _) (ee _) ?_
   rw [ql]
   exact k _ _ (s1.trans s2) (decide_eq_true_iff.trans (FN (fun k hk=>(ho.2.2 k hk).1) ho.2.1 lr lq))
  | eO w =>
   obtain ⟨C,dx,ys,hC,hx,_⟩:=id hu
   obtain rfl:G.bX=C:=by have:=T.eR;rw [hC] at this;cases this;rfl
   walk_at "w"
   refine .inr (.inr (.inr ?_))
   walk_at "w"
   refine oq ⟨hu,ho,ha,lr,br⟩ fun H1 s1=>?_
   have TY:=s1 _ _ hx
   refine .inr (.inr (.inr ?_))
   walk_at "w"
   refine oq ⟨hu.same s1,ho,s1.at hb,lq,bq⟩ fun H2 s2=>?_
   refine lU (.int _) (.int _) rfl rfl ?_
   rw [show PyData.eqv (.int (dt r w)) (.int (dt q w))=decide (dt r w=dt q w) from rfl]
   refine k _ _ (s1.trans s2) (decide_eq_true_iff.trans ?_)
   show _↔VZ w 0 (sub r q)
   rw [VZ,gL lr lq ho.1,agK]
   lia
theorem LN:aN ["keys","found","key"] ["keys"] (ag oU):=⟨rfl,rfl,rfl,by decide +kernel,rfl,by decide +kernel,by decide +kernel⟩
structure LO(P:Program)(w:World)(K:Frag)(mg:Str->Option Value)(base:Heap)(G:kY):Prop where
 unit:Ok P w K mg base 1 "unit" ["place","size"] (zG K)
 qX:Ok P w K mg base 36 "stepped" ["vectors","size"] (jg K)
 gG:Ok P w K mg base 1 "checked_keys" ["keys"] (eH K)
 Dl:Ok P w K mg base 37 "lost_among" ["rows","key"] (jY K)
theorem LP (D:Def K mg "lost" oU ["keys"]) (T:Txt K mg G) (O:LO P w K mg base G) (Y:base.NoSeer/\P.given.tree=none):Ok P w K mg base 38 "lost" ["keys"] (zH K):=by
 have S:=LN
 refine D.ok S (fun vs H Q E h=>?_) (fun f dh A outer s H vs Q E hr h=>?_)
 ·obtain ⟨_,_,_,_,rfl,_⟩:=h;rfl
 ·obtain ⟨l,W,xs,ks,rfl,hl,hk,h6,hg,hw,hW,hT,k⟩:=h
  have hu:=bG hr
  have aI:=T.aI
  refine⟨_,(ah (aU (i:=1) S.nd rfl (Or.inl rfl) (ba O.qX (hr.mono (by decide)) (aa (bQ (N:=["place"]) (ix:=[none]) rfl (cf rfl T.cY (aa (d8 (v:=V.int 5) rfl T.jJ ⟨_,rfl⟩) af)) (fun _ _ _ _ _=>(aD (i:=0) (show jz ["place"] by decide +kernel) rfl (Or.inl rfl))) (fun _ _ _ _ _=>rfl) (fun _ _ _ _ _=>(ba O.unit (hr.mono (by decide)) (aa (pv 0) (aa (d8 (v:=V.int 5) rfl T.jJ ⟨_,rfl⟩) af)))) rfl (by decide +kernel) (by decide +kernel) rfl True.intro) (aa (d8 (v:=V.int 5) rfl T.jJ ⟨_,rfl⟩) af)))) (ah (dj PassesOwn.never rfl (bh K rfl (ba O.gG (hr.mono (by decide)) (aa (pv 0) af))) (aD (i:=2) S.nd rfl (Or.inl rfl)) (ai (aU (i:=1) S.nd rfl (Or.inl rfl) (ba O.Dl (hr.mono (by decide)) (aa (pv 1) (aa (pv 2) af)))))) (ai (aS (pv 1))))),?_⟩
  have lk:=hk.length
  walk_at "w"
  refine jU (K:=K) (n:=5) [] (fun i=>bW i 5) rfl (by decide) (fun i H' Qc hi s kc=>?_) (fun l1 H1 ys n1 s1 m1 r1=>?_)
  ·walk_at "w"
   exact OQ (n:=5) (by decide) fun p H5 s5 m5=>kc _ _ s5 (aZ.of m5)
  have vg:=hT.same s1
  walk_at "w"
  refine sN (w:=5) (n:=5) (b:=0) ⟨aW.of m1,r1,by simp,fun v hv=>by obtain ⟨i,_,rfl⟩:=agr.mp hv;exact fU _ _,by decide,by decide,fun v hv=>by obtain ⟨i,_,rfl⟩:=agr.mp hv;exact mI _ _ _,fun i hi=>Tg (by decide) (by decide) hi,vg⟩ fun l2 H2 MS st0 lf n2 Ig rK e2 r2 hI=>?_
  have est:st0=iN:=AX hI.all.1 hI.lst hI.all.2
  subst est
  have n2H:H l2=none:=s1.new n2
  have z7:=(bc.of s1).trans Ig
  have Vw:=z7.seq hT hl
  have hk2:=hk.eU z7 hT
  walk_at "w"
  refine gF ⟨Vw,hk2,h6,hg⟩ ?_
  walk_at "w"
  refine iA (xs:=xs) (fun i σ H3=>∃ (o:Option V) (lf:Addr) (ys:List V) (st:List (List Int)),σ=[some (.ref l),some (.ref lf),o]/\H lf=none/\jd K H H3/\bH K H3/\H3 lf=some (.lst ys)/\av K H3 ys st/\Lo (ks.take i) st/\st.length<=5/\∀ r∈st,bf (2 ^ b7.lb W i) r) ⟨_,l2,MS,_,rfl,n2H,z7,rK,e2,r2,Lo.start,by decide,fun r hr=>by
   simp only [iN,agq,not_mem_nil,or_false] at hr
   rcases hr with rfl|rfl|rfl|rfl|rfl <;> exact mI _ _ _⟩ (fun i σ H3 hp=>by obtain ⟨o,lf,ys,st,rfl,_,sm,_⟩:=hp;exact sm.seq hT hl) (fun i x σ H3 hx hp=>?_) (fun σ H3 hp=>?_)
  ·obtain ⟨o,lf,ys,st,rfl,nf,vf,ow,e3,r3,wj,h5,j7⟩:=hp
   obtain ⟨a,w,kk,rfl,h1,h2,h3⟩:=hk.get hx
   have hi:i<6:=by have:=(afX.mp h3).1;lia
   obtain ⟨q1,q2,q3⟩:=hw kk (agl h3)
   have hm:=hg kk (agl h3)
   have hlb:=ON hW (show i<=5 by lia)
   have JT:b7.lb W i<=W+b7.lb W i+3:=by lia
   walk_at "w"
   refine zJ (b:=W+b7.lb W i+3) ⟨aW.of e3,r3,wj.len,h5,fun v hv=>(j7 v hv).mono (agt (by decide) JT),vf.at hT h1,vf.at hT h2,q1,by lia,xw (b:=400000) q2 (by lia),fun v hv=>II (uZ (wj.len v hv) q1 (j7 v hv) q2) (by lia) (af0 q3 (agt (by decide) (by lia))),af0 q3 (agt (by decide) (by lia)),by lia,ow⟩ fun l4 H4 Pd st4 n4 QH TZ e4 r4 QG h54=>?_
   refine⟨_,l4,Pd,st4,rfl,vf.new ow n4,vf.trans QH,TZ,e4,r4,?_,h54,fun r hr=>?_⟩
   ·rw [take_snoc h3]
    exact wj.next QG
   ·exact QG.bd wj.sf wj.len h5 q1 j7 q2 q3 r hr
  obtain ⟨o,lf,ys,st,rfl,nf,vf,ow,e3,r3,wj,h5,j7⟩:=hp
  rw [<- lk] at wj j7
  rw [agz] at wj
  walk_at "w"
  exact k lf H3 ys st nf vf ow e3 r3 wj h5 j7
theorem nV:aN ["self","commas"] ["self","commas"] (ag cb):=⟨rfl,rfl,rfl,by decide +kernel,rfl,by decide +kernel,by decide +kernel⟩
structure nW(P:Program)(w:World)(K:Frag)(mg:Str->Option Value)(base:Heap)(G:kY):Prop where
 table:Ok P w K mg base 37 "table" ["commas"] (wc K)
theorem nX (D:ir K G.cK "__init__" "CommaTuning.__init__" cb ["self","commas"]) (T:Txt K mg G) (O:nW P w K mg base G) (Y:base.NoSeer/\P.given.tree=none):oi P w K mg base 38 G.cK ["self","commas"] (cU K):=by
 have S:=nV
 refine D.ok S (fun vs H Q E h=>?_) (fun f dh A outer s H vs Q E hr h=>?_)
 ·obtain ⟨_,_,_,_,_,_,_,rfl,_⟩:=h;rfl
 ·obtain ⟨x,l,C,dx,b,xs,rs,rfl,hC,hx,hl,mD,h6,xI,j7,hb,hT,k⟩:=h
  have hu:=bG hr
  have aI:=T.aI
  have bj:=T.bj
  have aE:=T.aE
  have au:=T.au
  have aO:=T.aO
  have ao:=T.ao
  have bC:=T.bC
  have aB:=T.aB
  have aF:=T.aF
  refine⟨_,(ai (zB K rfl (pv 0) (ba O.table (hr.mono (by decide)) (aa (pv 1) af)) rfl)),?_⟩
  obtain rfl:G.aK=C:=by have:=T.bB;rw [hC] at this;cases this;rfl
  walk_at "w"
  refine LA (b:=b) ⟨hl,mD,h6,xI,j7,hb,hT⟩ fun l1 H1 ys st n1 yV vg m1 r1 sf eqv l5 h5 _ _=>?_
  have TY:=qC yV hT hx
  walk_at "w"
  refine u7 TY aE au (by decide) ?_
  exact k l1 H1 ys st n1 yV vg m1 r1 sf eqv l5 TY
theorem mj:aN ["self"] ["self"] (ag bT):=⟨rfl,rfl,rfl,by decide +kernel,rfl,by decide +kernel,by decide +kernel⟩
structure mv(P:Program)(w:World)(K:Frag)(mg:Str->Option Value)(base:Heap)(G:kY):Prop where
 Yy:Ok P w K mg base 38 "lost" ["keys"] (zH K)
theorem mw (D:ir K G.cj "table_of" "KeyTuning.table_of" bT ["self"]) (T:Txt K mg G) (O:mv P w K mg base G) (Y:base.NoSeer/\P.given.tree=none):oi P w K mg base 39 G.cj ["self"] (bY K):=by
 have S:=mj
 refine D.ok S (fun vs H Q E h=>?_) (fun f dh A outer s H vs Q E hr h=>?_)
 ·obtain ⟨_,_,_,rfl,_⟩:=h;rfl
 ·obtain ⟨x,l,ks,rfl,hor,hT,k⟩:=h
  have hu:=bG hr
  have aI:=T.aI
  have bj:=T.bj
  have aE:=T.aE
  have au:=T.au
  have aO:=T.aO
  have ao:=T.ao
  have bC:=T.bC
  have aB:=T.aB
  have aF:=T.aF
  refine⟨_,(ai (aS (ba O.Yy (hr.mono (by decide)) (aa (qr K rfl (pv 0) rfl) af)))),?_⟩
  rcases hor with ⟨⟨C,dx,ys,hC,hx,m1,k1⟩,⟨h6,hg,hw⟩⟩|⟨w,rfl,⟨C,dx,ys,hC,hx,m1,k1⟩,⟨lw,bw⟩⟩
  ·obtain rfl:G.aV=C:=by have:=T.bO;rw [hC] at this;cases this;rfl
   walk_at "w"
   exact IX (W:=20) ⟨aW.of m1,k1,h6,hg,hw,by decide,hT⟩ fun l' H' ys st n' sm GJ m' r' wj _ hb=>k l' H' ys st n' sm GJ m' r' wj hb
  ·obtain rfl:G.bX=C:=by have:=T.eR;rw [hC] at this;cases this;rfl
   walk_at "w"
   exact IX (W:=20) ⟨aW.of m1,k1,agO rfl,fun q hq=>.inl (by rw [agj.mp hq]),fun q hq=>by rw [agj.mp hq];exact⟨lw,bw,agM _⟩,by decide,hT⟩ fun l' H' ys st n' sm GJ m' r' wj _ hb=>k l' H' ys st n' sm GJ m' r' wj hb
theorem wG:aN ["one","other"] ["one","other"] (ag dP):=⟨rfl,rfl,rfl,by decide +kernel,rfl,by decide +kernel,by decide +kernel⟩
structure wH(P:Program)(w:World)(K:Frag)(mg:Str->Option Value)(base:Heap)(G:kY):Prop where
 dO:oi P w K mg base 1 G.cz ["self"] (ck K)
 cc:oi P w K mg base 39 G.cj ["self"] (bY K)
 fF:oi P w K mg base 1 G.dM ["self"] (dz K)
theorem wI (D:Def K mg "same_tuning" dP ["one","other"]) (T:Txt K mg G) (O:wH P w K mg base G) (Y:base.NoSeer/\P.given.tree=none):Ok P w K mg base 40 "same_tuning" ["one","other"] (fg K):=by
 have S:=wG
 refine D.ok S (fun vs H Q E h=>?_) (fun f dh A outer s H vs Q E hr h=>?_)
 ·obtain ⟨_,_,_,_,_,_,rfl,_⟩:=h;rfl
 ·obtain ⟨x,y,l,m,u,v,rfl,hx,ox,hy,oy,hT,k⟩:=h
  have hu:=bG hr
  have aI:=T.aI
  have bj:=T.bj
  have aE:=T.aE
  have au:=T.au
  have aO:=T.aO
  have ao:=T.ao
  have bC:=T.bC
  have aB:=T.aB
  have aF:=T.aF
  refine⟨_,(ai (aS (fo (iR K rfl hr.units) (dA (iB O.fF T.bj T.gA (hr.mono (by decide)) (pv 0)) (dA (iB O.dO T.aE T.eE (hr.mono (by decide)) (pv 0)) (dA (iB O.cc T.aO T.fe (hr.mono (by decide)) (pv 0)) (iB O.cc T.bC T.gT (hr.mono (by decide)) (pv 0))))) (dA (iB O.fF T.bj T.gA (hr.mono (by decide)) (pv 1)) (dA (iB O.dO T.aE T.eE (hr.mono (by decide)) (pv 1)) (dA (iB O.cc T.aO T.fe (hr.mono (by decide)) (pv 1)) (iB O.cc T.bC T.gT (hr.mono (by decide)) (pv 1))))) (aQ _)))),?_⟩
  walk_at "w"
  refine OT T.je T.bB T.bO T.eR (fun _ h=>A2 rfl h) hx ox hT fun l1 H1 Pf s n1 yV vg m1 r1 t1 _ _ _=>?_
  refine OT T.je T.bB T.bO T.eR (fun _ h=>A2 rfl h) (hy.keep hT yV) oy vg fun l2 H2 MS t n2 Ig rK m2 r2 t2 _ _ _=>?_
  have GO:=Ig.lst vg m1
  have VY:=r1.eU Ig vg
  refine lU (.lst (aW.of GO) VY.tells) (.lst (aW.of m2) r2.tells) (iq _) (iq _) ?_
  rw [sk]
  exact k _ _ s t (yV.trans Ig) rK t1 t2 decide_eq_true_iff
theorem sW:aN ["one","other","row"] ["one","other"] (ag cS):=⟨rfl,rfl,rfl,by decide +kernel,rfl,by decide +kernel,by decide +kernel⟩
structure sX(P:Program)(w:World)(K:Frag)(mg:Str->Option Value)(base:Heap)(G:kY):Prop where
 dO:oi P w K mg base 1 G.cz ["self"] (ck K)
 cc:oi P w K mg base 39 G.cj ["self"] (bY K)
 iV:oi P w K mg base 37 G.dy ["self","one","other"] (cC K)
 fF:oi P w K mg base 1 G.dM ["self"] (dz K)
theorem sY (D:Def K mg "told_by_first" cS ["one","other"]) (T:Txt K mg G) (O:sX P w K mg base G) (Y:base.NoSeer/\P.given.tree=none):Ok P w K mg base 40 "told_by_first" ["one","other"] (gU K):=by
 have S:=sW
 refine D.ok S (fun vs H Q E h=>?_) (fun f dh A outer s H vs Q E hr h=>?_)
 ·obtain ⟨_,_,_,_,_,_,rfl,_⟩:=h;rfl
 ·obtain ⟨x,y,l,m,u,v,rfl,hx,ox,hy,oy,hT,k⟩:=h
  have hu:=bG hr
  have aI:=T.aI
  have bj:=T.bj
  have aE:=T.aE
  have au:=T.au
  have aO:=T.aO
  have ao:=T.ao
  have bC:=T.bC
  have aB:=T.aB
  have aF:=T.aF
  refine⟨_,(ah (dj PassesOwn.never rfl (bh K rfl (dA (iB O.fF T.bj T.gA (hr.mono (by decide)) (pv 0)) (dA (iB O.dO T.aE T.eE (hr.mono (by decide)) (pv 0)) (dA (iB O.cc T.aO T.fe (hr.mono (by decide)) (pv 0)) (iB O.cc T.bC T.gT (hr.mono (by decide)) (pv 0)))))) (aD (i:=2) S.nd rfl (Or.inl rfl)) (ai (b9 (rP (mE (dA (lV O.iV T.bj T.wb (hr.mono (by decide)) (pv 1) (aa (pv 2) (aa (d8 (v:=V.ref G.qF) rfl T.Bm rfl) af))) (dA (lV O.iV T.aE T.nU (hr.mono (by decide)) (pv 1) (aa (pv 2) (aa (d8 (v:=V.ref G.qF) rfl T.Bm rfl) af))) (dA (lV O.iV T.aO T.qG (hr.mono (by decide)) (pv 1) (aa (pv 2) (aa (d8 (v:=V.ref G.qF) rfl T.Bm rfl) af))) (lV O.iV T.bC T.xy (hr.mono (by decide)) (pv 1) (aa (pv 2) (aa (d8 (v:=V.ref G.qF) rfl T.Bm rfl) af)))))))) (ai (aS (pv 2))) bA))) (ai (aS oC))),?_⟩
  walk_at "w"
  refine OT T.je T.bB T.bO T.eR (fun _ h=>A2 rfl h) hx ox hT fun l1 H1 Pf s n1 yV vg m1 r1 t1 T2 c1 b1=>?_
  have ls:=r1.length
  have hy1:=hy.keep hT yV
  walk_at "w"
  refine iA (xs:=Pf) (fun i σ' H'=>∃ (o:Option V),σ'=[some (.ref x),some (.ref y),o]/\aj H1 H'/\∀ w∈s.take i,v.rl w [0,0,0,0,0]) ⟨_,rfl,aj.refl _,(fun _ z=>by simp at z)⟩ (fun i σ' H' hP=>by obtain ⟨_,rfl,sn,_⟩:=hP;exact aW.of (sn _ _ m1)) (fun i z σ' H' hz hP=>?_) (fun σ' H' hP=>?_)
  ·obtain ⟨o,rfl,sn,eT⟩:=hP
   obtain ⟨p,w,rfl,hp,hi⟩:=r1.get hz
   have hw:=agl hi
   have q1:aZ K H' G.qF ([0,0,0,0,0].map V.int):=aI H'
   walk_at "w"
   refine OU (q:=G.qF) (s:=[0,0,0,0,0]) T.je T.bB T.bO T.eR (fun _ h=>A2 rfl h) (fun R h=>?_) (hy1.same sn) ⟨oy,sn.at hp,q1,T2 w hw,rfl,b1 w hw,zl⟩ fun t H2 s2 ht=>?_
   ·walk_at "w"
    exact h
   walk_at "w"
   refine aX (fun hc=>?_) (fun hc=>?_)
   ·have hf:¬ v.rl w [0,0,0,0,0]:=fun z=>by rw [ht.mpr z] at hc;cases hc
    walk_at "w"
    exact k _ H2 s (yV.trans (bc.of (sn.trans s2))) (vg.same (sn.trans s2)) t1 (.inr ⟨p,w,rfl,hw,T2 w hw,b1 w hw,(sn.trans s2).at hp,hf⟩)
   ·have Ql:t=true:=by cases t with|true=>rfl|false=>cases hc
    walk_at "w"
    refine⟨_,rfl,sn.trans s2,fun w' hw'=>?_⟩
    rw [take_add_one,hi] at hw'
    rcases agk.mp hw' with z|z
    ·exact eT w' z
    ·have:w'=w:=by simpa using z
     rw [this]
     exact ht.mp Ql
  obtain ⟨o,rfl,sn,eT⟩:=hP
  rw [<- ls,agz] at eT
  walk_at "w"
  exact k _ H' s (yV.trans (bc.of sn)) (vg.same sn) t1 (.inl ⟨rfl,eT⟩)
theorem xT:aN ["_law_sizes_here","_law_pair_here","_law_cell","_law_cells_here","_law_keys_here"] ["_law_sizes_here","_law_pair_here","_law_cell","_law_cells_here"] (ag eB):=⟨rfl,rfl,rfl,by decide +kernel,rfl,by decide +kernel,by decide +kernel⟩
structure xU(P:Program)(w:World)(K:Frag)(mg:Str->Option Value)(base:Heap)(G:kY):Prop where
 Dm:Ok P w K mg base 3 "_law_commas" ["_law_sizes_here","_law_ones","_law_cells_here"] (jZ K)
 Jn:Ok P w K mg base 3 "_law_keys" ["_law_sizes_here","_law_duals","_law_cells_here"] (nh K)
 pj:IA P w K mg base 3 G.gw ["self","row"] (ij K)
 d6:oi P w K mg base 38 G.cK ["self","commas"] (cU K)
 fi:oi P w K mg base 2 G.cL ["self","keys"] (dN K)
theorem xV (D:Def K mg "_law_tuning" eB ["_law_sizes_here","_law_pair_here","_law_cell","_law_cells_here"]) (T:Txt K mg G) (O:xU P w K mg base G) (Y:base.NoSeer/\P.given.tree=none):Ok P w K mg base 40 "_law_tuning" ["_law_sizes_here","_law_pair_here","_law_cell","_law_cells_here"] (j0 K):=by
 have S:=xT
 refine D.ok S (fun vs H Q E h=>?_) (fun f dh A outer s H vs Q E hr h=>?_)
 ·obtain ⟨_,_,_,_,_,_,_,_,_,_,_,_,rfl,_⟩:=h;rfl
 ·obtain ⟨a,t,la,lb,b,c,ms,cs,xs,ys,rs,ss,rfl,ha,lm,BE,ht,hla,Cd,hlb,T3,lr,ls,C2,BI,hD,hR,BJ,FY,hb,lcs,hT,k⟩:=h
  have hu:=bG hr
  have aI:=T.aI
  have bj:=T.bj
  have aE:=T.aE
  have au:=T.au
  have aO:=T.aO
  have ao:=T.ao
  have bC:=T.bC
  have aB:=T.aB
  have aF:=T.aF
  refine⟨_,(ah (b9 (aM dH (ay bD (pv 2) ae) ae (aQ _)) (ah (aU (i:=4) S.nd rfl (Or.inl rfl) (ba O.Jn (hr.mono (by decide)) (aa (pv 0) (aa (aR (aC K rfl) (pv 1) ae (fun _ _=>rfl)) (aa (pv 3) af))))) (ah (b9 (PW.pt (i4 (aM dH (bu (gk K rfl) rfl T.jI PySem.boot_len (aa (pv 4) af)) ae (aQ _)) (i4 (aM dH (aR (aC K rfl) (aR (aC K rfl) (pv 4) ae (fun _ _=>rfl)) ae (fun _ _=>rfl)) ae (aQ _)) (hG (aM yh (aR (aC K rfl) (aR (aC K rfl) (aR (aC K rfl) (pv 4) ae (fun _ _=>rfl)) ae (fun _ _=>rfl)) ae (fun _ _=>rfl)) ae (aQ _)))))) (ai (aS (IC (EX:=fun _ _ _=>False) O.pj T.Ey (hr.mono (by decide)) noraise rfl rfl T.Ex (aa (aR (aC K rfl) (aR (aC K rfl) (pv 4) ae (fun _ _=>rfl)) ae (fun _ _=>rfl)) af)))) bA) (ai (aS (Bb O.fi T.ue (hr.mono (by decide)) rfl T.mW (aa (pv 4) af)))))) bA) (ah (b9 (PW.pt (i4 (aM dH (ay bD (pv 2) ae) ae (aQ _)) (hG (aM (iR K rfl hr.units) (pv 0) (dk (aa ae (aa ae (aa ae (aa ae (aa ae af)))))) (aQ _))))) (ai (aS (Iy T.yP rfl T.Bp))) bA) (ai (aS (Bb O.d6 T.jW (hr.mono (by decide)) rfl T.jV (aa (ba O.Dm (hr.mono (by decide)) (aa (pv 0) (aa (aR (aC K rfl) (pv 1) ae (fun _ _=>rfl)) (aa (pv 3) af)))) af)))))),?_⟩
  walk_at "w"
  refine aX (fun h=>?_) (fun h=>?_)
  ·walk_at "w"
   refine C1 ⟨ha,lm,BE,aW.of hlb,T3,ls,BI,FY,hb,lcs⟩ fun l1 H1 Pf qs s1 n1 m1 k1 hK h6 hq=>?_
   have lq:=k1.length
   have vg:=hT.same s1
   have Pg:Tu.ok (.key qs):=⟨h6,fun q rV=>(hq q rV).2.2.1,fun q rV=>⟨(hq q rV).1,(hq q rV).2.1.mono (by decide),by have:=(hq q rV).2.2;exact af0 (show q.2.natAbs<=12 by lia) (by decide)⟩⟩
   have Yz:=(jy.key Pg).MM hK
   walk_at "w"
   refine aX (fun h1=>?_) (fun h1=>?_)
   ·have Fh:qs.length=1:=by have:=af7 h1;lia
    obtain ⟨⟨w,m⟩,rfl⟩:∃ q,qs=[q]:=by
     match qs,Fh with
     | [q],_=>exact⟨q,rfl⟩
    obtain ⟨p,ap,rfl,hp,EC⟩:∃ p ap,Pf=[.ref p]/\aZ K H1 p [.ref ap,.int m]/\aZ K H1 ap (w.map V.int):=by
     cases k1 with
     | cons hh hw tt=>cases tt;exact⟨_,_,rfl,hh,hw⟩
    have lw:w.length=5:=(hq (w,m) (.head _)).1
    have bw:=(hq (w,m) (.head _)).2.1
    walk_at "w"
    refine aX (fun h2=>?_) (fun h2=>?_)
    ·have RZ:m=0:=af7 h2
     subst RZ
     walk_at "v"
     refine bK (aW.of m1) (aH (j:=0) rfl) ?_
     walk_at "v"
     refine d3 hp (aH (j:=0) rfl) ?_
     walk_at "v"
     refine d3 EC (aH (j:=0) (int_at (by lia))) ?_
     walk_at "v"
     refine aX (fun h3=>?_) (fun h3=>?_)
     ·have h3':=af7 h3
      refine Eo ?_
      walk_at "w"
      intro x1 jB nA iE z8
      have dg:=eN (C:=G.bX) nA iE
      refine qN (w:=w) ⟨T.eR,aw,dg.at (EC),lw⟩ ⟨fun z=>absurd z (by lia),fun _ iw wJ Jo mB z9 sZ YA gX=>⟨rfl,?_⟩⟩
      have qZ:=Bh (a:=[("own_keys",.ref iw)]) T.eR gX sZ YA
      have iW:=v8 (o:=.ins G.bX jB [("own_keys",.ref iw)]) (o':=.ins G.bX jB [("own_keys",.ref iw),("octave",.int ((w).getD 0 0))]) nA iE z9
      generalize upd (upd wJ x1 (.ins G.bX jB [("own_keys",.ref iw)])) x1 (.ins G.bX jB [("own_keys",.ref iw),("octave",.int ((w).getD 0 0))])=pk at qZ iW
      exact k x1 iw pk _ (bc.of (s1.trans iW)) (vg.same iW) (s1.new nA) (s1.new (dg.new mB)) qZ ((jy.eO ⟨lw,bw.mono (by decide)⟩).MM hK)
     ·walk_at "w"
      intro x1 jB nA iE z8
      have dg:=eN (C:=G.aV) nA iE
      refine d4 ⟨.inl T.bO,aw,aW.of (dg _ _ m1),(k1).same dg,h6,Pg.2.1⟩ fun iw wJ mB z9 sZ=>⟨rfl,?_⟩
      have gX:=z9 _ _ (aw (H:=upd H1 jB (.own x1)) (a:=x1) (o:=.ins G.aV jB []))
      have iW:aj H1 (upd wJ x1 (.ins G.aV jB [("own_keys",.ref iw)])):=fun b o e=>by
       rw [aG (fun z=>by rw [z,nA] at e;cases e)]
       exact z9 _ _ (dg _ _ e)
      have qZ:=zE (o:=[]) T.bO gX sZ ((k1).same (dg.trans z9))
      have lY:=dg.new mB
      generalize upd wJ x1 (.ins G.aV jB [("own_keys",.ref iw)])=pk at iW qZ
      exact k x1 iw pk _ (bc.of (s1.trans iW)) (vg.same iW) (s1.new nA) (s1.new lY) qZ Yz
    ·walk_at "w"
     refine gj rfl ?_
     walk_at "w"
     intro x1 jB nA iE z8
     have dg:=eN (C:=G.aV) nA iE
     refine d4 ⟨.inl T.bO,aw,aW.of (dg _ _ m1),(k1).same dg,h6,Pg.2.1⟩ fun iw wJ mB z9 sZ=>⟨rfl,?_⟩
     have gX:=z9 _ _ (aw (H:=upd H1 jB (.own x1)) (a:=x1) (o:=.ins G.aV jB []))
     have iW:aj H1 (upd wJ x1 (.ins G.aV jB [("own_keys",.ref iw)])):=fun b o e=>by
      rw [aG (fun z=>by rw [z,nA] at e;cases e)]
      exact z9 _ _ (dg _ _ e)
     have qZ:=zE (o:=[]) T.bO gX sZ ((k1).same (dg.trans z9))
     have lY:=dg.new mB
     generalize upd wJ x1 (.ins G.aV jB [("own_keys",.ref iw)])=pk at iW qZ
     exact k x1 iw pk _ (bc.of (s1.trans iW)) (vg.same iW) (s1.new nA) (s1.new lY) qZ Yz
   ·walk_at "w"
    refine gj rfl ?_
    walk_at "w"
    intro x1 jB nA iE z8
    have dg:=eN (C:=G.aV) nA iE
    refine d4 ⟨.inl T.bO,aw,aW.of (dg _ _ m1),(k1).same dg,h6,Pg.2.1⟩ fun iw wJ mB z9 sZ=>⟨rfl,?_⟩
    have gX:=z9 _ _ (aw (H:=upd H1 jB (.own x1)) (a:=x1) (o:=.ins G.aV jB []))
    have iW:aj H1 (upd wJ x1 (.ins G.aV jB [("own_keys",.ref iw)])):=fun b o e=>by
     rw [aG (fun z=>by rw [z,nA] at e;cases e)]
     exact z9 _ _ (dg _ _ e)
    have qZ:=zE (o:=[]) T.bO gX sZ ((k1).same (dg.trans z9))
    have lY:=dg.new mB
    generalize upd wJ x1 (.ins G.aV jB [("own_keys",.ref iw)])=pk at iW qZ
    exact k x1 iw pk _ (bc.of (s1.trans iW)) (vg.same iW) (s1.new nA) (s1.new lY) qZ Yz
  ·have LQ:=vO (ms:=ms) hD hR lr ls C2 BI
   walk_at "w"
   refine aX (fun h1=>?_) (fun h1=>?_)
   ·walk_at "w"
    rename_i lz Hz nz sz mz
    refine lU (.lst (sz.seq ha) (Tells.ints ms)) (.lst (aW.of mz) (Tells.ints [0,0,0,0,0])) (fX ms) (fX [0,0,0,0,0]) ?_
    rw [sj]
    walk_at "w"
    refine aX (fun h2=>?_) (fun h2=>?_)
    ·have RZ:=af7 h2
     subst RZ
     walk_at "w"
     intro xp dp T4 YB nep
     have sp:=eN (C:=G.dJ) T4 YB
     exact k xp xp _ .plain (bc.of (sz.trans sp)) ((hT.same sz).same sp) (sz.new T4) (sz.new T4) ⟨_,_,T.je,aw⟩ (jy.plain.MM (IP rs hD hR lr ls C2 BI))
    ·walk_at "w"
     refine qK ⟨sz.seq ha,lm,fun m hm=>⟨(BE m hm).1,by have:=(BE m hm).2;lia⟩,aW.of (sz _ _ hla),Cd.same sz,lr,C2,BJ,sz.seq hb,lcs⟩ fun l1 H1 Pf ts s1 n1 m1 r1 hE T5 YC Ph=>?_
     have LS:=sz.trans s1
     walk_at "w"
     intro x1 jB nA iE z8
     have dg:=eN (C:=G.aK) nA iE
     refine eF (b:=24) ⟨T.bB,aw,aW.of (dg _ _ m1),(r1).same dg,YC,T5,Ph,by decide,(hT.same LS).same dg⟩ fun iw wJ Jo Dn mB Dp Dq sZ Pj wK wL nB gX=>⟨rfl,?_⟩
     have jk:=zD (o:=.ins G.aK jB [("steps",.ref iw)]) nA iE Dp
     have nC:=va (o:=.ins G.aK jB [("steps",.ref iw)]) Dq gX
     have Pk:iw≠x1:=fun z=>by rw [z,gX] at sZ;cases sZ
     have qZ:=qE (o:=[]) T.bB gX sZ Pj
     have wM:Tu.ok (.comma Dn):=⟨wK,nB,fun v hv=>(SF.D7 wK nB T5 wL Ph v hv).mono (agt (by decide) (by decide))⟩
     have Dr:=jy.comma wM wL
     have lY:=dg.new mB
     generalize upd wJ x1 (.ins G.aK jB [("steps",.ref iw)])=pk at jk nC qZ
     exact k x1 iw pk _ ((bc.of LS).trans jk) nC (LS.new nA) (LS.new lY) qZ (Dr.MM fun x hx=>⟨fun z=>((LQ x).mp (hE.symm.span z)).2,fun z=>hE.span ((LQ x).mpr ⟨hx,z⟩)⟩)
   ·walk_at "w"
    refine gj rfl ?_
    walk_at "w"
    have sz:=aj.refl H
    refine qK ⟨sz.seq ha,lm,fun m hm=>⟨(BE m hm).1,by have:=(BE m hm).2;lia⟩,aW.of (sz _ _ hla),Cd.same sz,lr,C2,BJ,sz.seq hb,lcs⟩ fun l1 H1 Pf ts s1 n1 m1 r1 hE T5 YC Ph=>?_
    have LS:=sz.trans s1
    walk_at "w"
    intro x1 jB nA iE z8
    have dg:=eN (C:=G.aK) nA iE
    refine eF (b:=24) ⟨T.bB,aw,aW.of (dg _ _ m1),(r1).same dg,YC,T5,Ph,by decide,(hT.same LS).same dg⟩ fun iw wJ Jo Dn mB Dp Dq sZ Pj wK wL nB gX=>⟨rfl,?_⟩
    have jk:=zD (o:=.ins G.aK jB [("steps",.ref iw)]) nA iE Dp
    have nC:=va (o:=.ins G.aK jB [("steps",.ref iw)]) Dq gX
    have Pk:iw≠x1:=fun z=>by rw [z,gX] at sZ;cases sZ
    have qZ:=qE (o:=[]) T.bB gX sZ Pj
    have wM:Tu.ok (.comma Dn):=⟨wK,nB,fun v hv=>(SF.D7 wK nB T5 wL Ph v hv).mono (agt (by decide) (by decide))⟩
    have Dr:=jy.comma wM wL
    have lY:=dg.new mB
    generalize upd wJ x1 (.ins G.aK jB [("steps",.ref iw)])=pk at jk nC qZ
    exact k x1 iw pk _ ((bc.of LS).trans jk) nC (LS.new nA) (LS.new lY) qZ (Dr.MM fun x hx=>⟨fun z=>((LQ x).mp (hE.symm.span z)).2,fun z=>hE.span ((LQ x).mpr ⟨hx,z⟩)⟩)
theorem Jp:aN ["one","other","row"] ["one","other"] (ag kX):=⟨rfl,rfl,rfl,by decide +kernel,rfl,by decide +kernel,by decide +kernel⟩
structure Jq(P:Program)(w:World)(K:Frag)(mg:Str->Option Value)(base:Heap)(G:kY):Prop where
 oz:Ok P w K mg base 40 "told_by_first" ["one","other"] (gU K)
theorem Jr (D:Def K mg "apart" kX ["one","other"]) (T:Txt K mg G) (O:Jq P w K mg base G) (Y:base.NoSeer/\P.given.tree=none):Ok P w K mg base 41 "apart" ["one","other"] (mY K):=by
 have S:=Jp
 refine D.ok S (fun vs H Q E h=>?_) (fun f dh A outer s H vs Q E hr h=>?_)
 ·obtain ⟨_,_,_,_,_,_,rfl,_⟩:=h;rfl
 ·obtain ⟨x,y,l,m,u,v,rfl,hx,ox,hy,oy,hT,⟨t0,ht0⟩,k⟩:=h
  have hu:=bG hr
  have aI:=T.aI
  refine⟨_,(ah (aU (i:=2) S.nd rfl (Or.inl rfl) (ba O.oz (hr.mono (by decide)) (aa (pv 0) (aa (pv 1) af)))) (ai (aS (pP (aM Cn (pv 2) oC (aQ _)) (ba O.oz (hr.mono (by decide)) (aa (pv 1) (aa (pv 0) af))) (pv 2))))),?_⟩
  walk_at "w"
  refine lW ⟨hx,ox,hy,oy,hT⟩ fun z H1 s yV vg t1 hz=>?_
  walk_at "w"
  refine⟨rfl,?_⟩
  rcases hz with ⟨rfl,eT⟩|⟨p,w,rfl,hw,lw,bw,hp,hn⟩
  ·walk_at "w"
   refine yC rfl ?_
   walk_at "w"
   refine lW ⟨hy.keep hT yV,oy,hx.keep hT yV,ox,vg⟩ fun z2 H2 t Ig rK t2 RJ=>k z2 H2 s t (yV.trans Ig) rK t1 t2 ?_
   rcases RJ with ⟨e,h2⟩|⟨p,w,e,hw,lw,bw,hp,hn⟩
   ·exact .inl ⟨e,eT,h2⟩
   ·exact .inr ⟨p,w,e,lw,bw,hp,.inr ⟨eT,hw,hn⟩⟩
  ·walk_at "w"
   refine gj rfl ?_
   walk_at "w"
   exact k _ H1 s t0 yV vg t1 ht0 (.inr ⟨p,w,rfl,lw,bw,hp,.inl ⟨hw,hn⟩⟩)
theorem q0:aN ["_law_one","_law_other","_law_sizes_here","_law_others","_law_duals","_law_row","_law_powers"] ["_law_one","_law_other","_law_sizes_here","_law_others","_law_duals"] (ag cH):=⟨rfl,rfl,rfl,by decide +kernel,rfl,by decide +kernel,by decide +kernel⟩
structure rg(P:Program)(w:World)(K:Frag)(mg:Str->Option Value)(base:Heap)(G:kY):Prop where
 nD:Ok P w K mg base 40 "same_tuning" ["one","other"] (fg K)
 apart:Ok P w K mg base 41 "apart" ["one","other"] (mY K)
 pw:Ok P w K mg base 1 "_law_is_row" ["_law_found"] (ig K)
 Gj:Ok P w K mg base 1 "_law_value" ["_law_key","_law_row"] (lE K)
 BQ:Ok P w K mg base 1 "_law_made" ["_law_sizes_here","_law_powers"] (ni K)
 tj:Ok P w K mg base 1 "_law_truth" ["_law_found","_law_due"] (iU K)
theorem rh (D:Def K mg "_law_held_right" cH ["_law_one","_law_other","_law_sizes_here","_law_others","_law_duals"]) (T:Txt K mg G) (O:rg P w K mg base G) (Y:base.NoSeer/\P.given.tree=none):Ok P w K mg base 42 "_law_held_right" ["_law_one","_law_other","_law_sizes_here","_law_others","_law_duals"] (gD K):=by
 have S:=q0
 refine D.ok S (fun vs H Q E h=>?_) (fun f dh A outer s H vs Q E hr h=>?_)
 ·obtain ⟨_,_,_,_,_,_,_,_,_,_,_,_,_,rfl,_⟩:=h;rfl
 ·obtain ⟨x,y,l,m,a,b,c,u,v,ms,ns,ys,ss,rfl,hx,T6,hy,T7,ha,hb,lm,ln,BE,OV,hc,mD,ls,BI,FY,YD,hT,k⟩:=h
  have hu:=bG hr
  have aI:=T.aI
  refine⟨_,(ah (b9 (rP (mE (ba O.tj (hr.mono (by decide)) (aa (ba O.nD (hr.mono (by decide)) (aa (pv 0) (aa (pv 1) af))) (aa (fo (iR K rfl hr.units) (pv 2) (pv 3) (aQ _)) af))))) (ai (aS n0)) bA) (ah (aU (i:=5) S.nd rfl (Or.inr rfl) (ba O.apart (hr.mono (by decide)) (aa (pv 0) (aa (pv 1) af)))) (ah (b9 (aM (iR K rfl hr.units) (pv 2) (pv 3) (aQ _)) (ai (aS (fo Cn (pv 5) oC (aQ _)))) bA) (ah (b9 (rP (mE (ba O.pw (hr.mono (by decide)) (aa (pv 5) af)))) (ai (aS n0)) bA) (ah (ia (k:=6) (N:=["_law_dual","_law_row"]) (ix:=[none,some 5]) S.nd rfl (Or.inl rfl) rfl (bh K rfl (pv 4)) (fun _ _ _ _ _=>(aD (i:=0) (show jz ["_law_dual","_law_row"] by decide +kernel) rfl (Or.inl rfl))) (fun _ _ _ _ _=>rfl) (fun _ _ _ _ _=>(ba O.Gj (hr.mono (by decide)) (@aa _ _ _ _ _ (@cP _ _ _ _ _ (aa (pv 0) (aa ae af))) (@aa _ _ _ _ _ (pv 1) af (by rfl)) (by rfl)))) rfl (by decide +kernel) (by decide +kernel) rfl ⟨⟨rfl,Or.inr (Or.inl rfl),rfl,rfl⟩,True.intro⟩) (ai (aS (fo (Eh K rfl hr.units) (ba O.BQ (hr.mono (by decide)) (aa (pv 2) (aa (pv 6) af))) (ba O.BQ (hr.mono (by decide)) (aa (pv 3) (aa (pv 6) af))) (aQ _))))))))),?_⟩
  have Ky:(∀ x:List Int,x.length=5->(Ls ss ms x↔Ls ss ns x))↔ms=ns:=⟨YD,fun z=>by rw [z];exact fun _ _=>Iff.rfl⟩
  have QB:=mD.length
  walk_at "w"
  refine nj ⟨hx,T6,hy,T7,hT⟩ fun t H1 yV vg ht Ph=>?_
  have a1:=yV.seq hT ha
  have b1:=yV.seq hT hb
  walk_at "w"
  refine lU (.lst a1 (Tells.ints ms)) (.lst b1 (Tells.ints ns)) (fX ms) (fX ns) ?_
  rw [sj]
  walk_at "w"
  refine uj ?_
  have et:t=decide (ms=ns):=Bool.eq_iff_iff.mpr ((Ph.trans Ky).trans decide_eq_true_iff.symm)
  rw [aga et]
  walk_at "w"
  refine gj rfl ?_
  walk_at "w"
  refine Bs ⟨hx.keep hT yV,T6,hy.keep hT yV,T7,vg⟩ ht fun z H2 Ig rK hz=>?_
  have z7:=yV.trans Ig
  have a2:=z7.seq hT ha
  have b2:=z7.seq hT hb
  walk_at "w"
  refine lU (.lst a2 (Tells.ints ms)) (.lst b2 (Tells.ints ns)) (fX ms) (fX ns) ?_
  rw [sj]
  walk_at "w"
  refine aX (fun h=>?_) (fun h=>?_)
  ·have h':=af7 h
   rcases hz with ⟨rfl,_⟩|⟨p,w,rfl,lw,bw,hp,xt⟩
   ·walk_at "w"
    refine⟨rfl,?_⟩
    exact k H2 z7 rK
   ·exact absurd (Ky.mpr h' w lw) xt
  ·have h':=af8 h
   rcases hz with ⟨rfl,eT⟩|⟨p,w,rfl,lw,bw,hp,xt⟩
   ·exact absurd (Ky.mp eT) h'
   ·walk_at "w"
    refine qL hp lw fun H3 s3=>?_
    walk_at "w"
    refine gj rfl ?_
    have vf:=z7.trans (bc.of s3)
    have c3:=vf.seq hT hc
    have r3:=mD.eU vf hT
    have p3:=s3.at hp
    walk_at "w"
    refine mQ (xs:=ys) [some (.ref p)] (fun i=>.int (dt w (ss.getD i []))) rfl c3 (by lia) (fun i q H' Qc hq s kc=>?_) (fun l4 H4 n4 s4 m4=>?_)
    ·obtain ⟨d,r,rfl,hd,hi⟩:=r3.get hq
     have hr:=agl hi
     rw [show ss.getD i []=r by rw [List.getD,hi];rfl] at kc
     walk_at "w"
     rename_i p5 H5 s5 m5
     have s05:=s.trans s5
     refine Bw (m:=0) (ws:=r) ⟨aZ.of m5,s05.at hd,s05.at p3,BI r hr,lw,.inl rfl,xw (b:=400000) ((FY r hr).mono (show 729<=2 ^ 10 by decide)) (by decide),xw (b:=100000) bw (by decide)⟩ fun H6 s6=>?_
     rw [show val r 0 w=dt w r by unfold val;rw [if_pos rfl];rfl]
     exact kc _ (s5.trans s6)
    have e4:(List.range ys.length).map (fun i=>V.int (dt w (ss.getD i [])))=(ss.map fun r=>dt w r).map V.int:=by
     rw [<- QB,yH ss [] (fun r=>V.int (dt w r)),agE]
     rfl
    rw [e4] at m4
    have lp:(ss.map fun r=>dt w r).length=5:=by rw [agm];exact ls
    have YE:∀ ks:List Int,(∀ i,i<5->ks.getD i 0 ∣ (ss.map fun r=>dt w r).getD i 0)↔Ls ss ks w:=fun ks=>by
     have e:∀ i,i<5->(ss.map fun r=>dt w r).getD i 0=dt w (ss.getD i []):=fun i hi=>by
      rw [List.getD,agC,List.getD,agg (show i<ss.length by lia)]
      rfl
     exact⟨fun z i hi=>by rw [<- e i hi];exact z i hi,fun z i hi=>by rw [e i hi];exact z i hi⟩
    generalize (ss.map fun r=>dt w r)=ps at m4 lp YE
    have yS:=s3.trans s4
    have a4:=yS.seq a2
    have b4:=yS.seq b2
    walk_at "w"
    refine we ⟨a4,lm,BE,aW.of m4,lp⟩ fun t1 H5 s5 ht1=>?_
    walk_at "w"
    refine we ⟨s5.seq b4,ln,OV,aW.of (s5 _ _ m4),lp⟩ fun t2 H6 s6 ht2=>?_
    refine MF (.bl t1) (.bl t2) rfl rfl ?_
    have YF:(t1 == t2)=false:=by
     rw [beq_eq_false_iff_ne]
     rintro rfl
     exact xt (((YE ms).symm.trans ht1.symm).trans (ht2.trans (YE ns)))
    rw [yN,YF]
    have s26:=(yS.trans s5).trans s6
    exact k H6 (z7.trans (bc.of s26)) (rK.same s26)
theorem uO:aN ["_law_one","_law_other","_law_ones","_law_others","_law_first","_law_second","_law_same","_law_row"] ["_law_one","_law_other","_law_ones","_law_others"] (ag du):=⟨rfl,rfl,rfl,by decide +kernel,rfl,by decide +kernel,by decide +kernel⟩
structure uP(P:Program)(w:World)(K:Frag)(mg:Str->Option Value)(base:Heap)(G:kY):Prop where
 nD:Ok P w K mg base 40 "same_tuning" ["one","other"] (fg K)
 apart:Ok P w K mg base 41 "apart" ["one","other"] (mY K)
 yW:Ok P w K mg base 35 "_law_steps" ["_law_rows"] (lB K)
 jO:Ok P w K mg base 34 "_law_is_made" ["_law_steps_here","_law_row"] (jh K)
 pw:Ok P w K mg base 1 "_law_is_row" ["_law_found"] (ig K)
 tj:Ok P w K mg base 1 "_law_truth" ["_law_found","_law_due"] (iU K)
theorem uQ (D:Def K mg "_law_any_held" du ["_law_one","_law_other","_law_ones","_law_others"]) (T:Txt K mg G) (O:uP P w K mg base G) (Y:base.NoSeer/\P.given.tree=none):Ok P w K mg base 42 "_law_any_held" ["_law_one","_law_other","_law_ones","_law_others"] (iC K):=by
 have S:=uO
 refine D.ok S (fun vs H Q E h=>?_) (fun f dh A outer s H vs Q E hr h=>?_)
 ·obtain ⟨_,_,_,_,_,_,_,_,_,_,_,_,rfl,_⟩:=h;rfl
 ·obtain ⟨x,y,l,m,a,b,u,v,xs,ys,rs,qs,rfl,hx,T6,hy,T7,ha,Cd,h6a,YG,R6,hb,T3,h6b,YH,CH,hT,k⟩:=h
  have hu:=bG hr
  have aI:=T.aI
  refine⟨_,(ah (aU (i:=4) S.nd rfl (Or.inr rfl) (ba O.yW (hr.mono (by decide)) (aa (pv 2) af))) (ah (aU (i:=5) S.nd rfl (Or.inr rfl) (ba O.yW (hr.mono (by decide)) (aa (pv 3) af))) (ah (aU (i:=6) S.nd rfl (Or.inl rfl) (vk (bu (zv K rfl rfl) rfl T.Eu boot_all (aa (bQ (N:=["_law_row","_law_second"]) (ix:=[none,some 5]) rfl (bh K rfl (pv 2)) (fun _ _ _ _ _=>(aD (i:=0) (show jz ["_law_row","_law_second"] by decide +kernel) rfl (Or.inl rfl))) (fun _ _ _ _ _=>rfl) (fun _ _ _ _ _=>(ba O.jO (hr.mono (by decide)) (aa (pv 1) (aa (pv 0) af)))) rfl (by decide +kernel) (by decide +kernel) rfl ⟨⟨rfl,Or.inr (Or.inl rfl),rfl,rfl⟩,True.intro⟩) af)) (vj (bu (zv K rfl rfl) rfl T.Eu boot_all (aa (bQ (N:=["_law_row","_law_first"]) (ix:=[none,some 4]) rfl (bh K rfl (pv 3)) (fun _ _ _ _ _=>(aD (i:=0) (show jz ["_law_row","_law_first"] by decide +kernel) rfl (Or.inl rfl))) (fun _ _ _ _ _=>rfl) (fun _ _ _ _ _=>(ba O.jO (hr.mono (by decide)) (aa (pv 1) (aa (pv 0) af)))) rfl (by decide +kernel) (by decide +kernel) rfl ⟨⟨rfl,Or.inr (Or.inl rfl),rfl,rfl⟩,True.intro⟩) af))))) (ah (b9 (rP (mE (ba O.tj (hr.mono (by decide)) (aa (ba O.nD (hr.mono (by decide)) (aa (pv 0) (aa (pv 1) af))) (aa (pv 6) af))))) (ai (aS n0)) bA) (ah (aU (i:=7) S.nd rfl (Or.inl rfl) (ba O.apart (hr.mono (by decide)) (aa (pv 0) (aa (pv 1) af)))) (ah (b9 (mE (pv 6)) (ai (aS (fo Cn (pv 7) oC (aQ _)))) bA) (ai (aS (vk (ba O.pw (hr.mono (by decide)) (aa (pv 7) af)) (vj (fo (Eh K rfl hr.units) (ba O.jO (hr.mono (by decide)) (aa (pv 4) (aa (pv 7) af))) (ba O.jO (hr.mono (by decide)) (aa (pv 5) (aa (pv 7) af))) (aQ _)))))))))))),?_⟩
  have lx:=Cd.length
  have ly:=T3.length
  walk_at "w"
  refine ug (b:=33488) ⟨ha,Cd,by lia,YG,R6,by rw [FQ];decide⟩ fun l1 H1 Pf p1 n1 s1 m1 q1 hF1 c1 Wc bp1=>?_
  walk_at "w"
  refine ug (b:=33488) ⟨s1.seq hb,T3.same s1,by lia,YH,CH,by rw [FQ];decide⟩ fun l2 H2 MS p2 n2 s2 m2 q2 hF2 c2 MT bp2=>?_
  have ou:=s1.trans s2
  have GO:=s2 _ _ m1
  have q12:=q1.same s2
  have YJ:=ou.seq ha
  have YK:=Cd.same ou
  have O2:=ou.seq hb
  have YL:=T3.same ou
  walk_at "w"
  have Js:((∀ r∈rs,Span 5 (p2.map Prod.snd) r)/\∀ r∈qs,Span 5 (p1.map Prod.snd) r)↔∀ z:List Int,z.length=5->(Span 5 rs z↔Span 5 qs z):=by
   constructor
   ·rintro ⟨g1,g2⟩ z _
    exact⟨fun hz=>MT.symm.span (hz.of g1),fun hz=>Wc.symm.span (hz.of g2)⟩
   ·intro g
    exact⟨fun r hr=>MT.span ((g r (YG r hr)).mp (Span.mem hr)),fun r hr=>Wc.span ((g r (YH r hr)).mpr (Span.mem hr))⟩
  refine mQ (xs:=xs) [some (.ref l2)] (fun i=>.bl (GL (Span 5 (p2.map Prod.snd) (rs.getD i [])))) rfl YJ (by lia) (fun i z H' Qc hz s kc=>?_) (fun la6 Ha6 na6 QI ma6=>?_)
  ·obtain ⟨d,r,rfl,hd,hi⟩:=YK.get hz
   have hr:=agl hi
   rw [show rs.getD i []=r by rw [List.getD,hi];rfl] at kc
   walk_at "w"
   refine ik (B:=b7.gs 33488 5) (C:=33488) ⟨s.seq (aW.of m2),q2.same s,hF2,c2,bp2,s.at hd,YG r hr,R6 r hr,by rw [FQ];decide⟩ fun t H8 s8 ht=>?_
   rw [show GL (Span 5 (p2.map Prod.snd) r)=t from Bool.eq_iff_iff.mpr (vc.trans ht.symm)] at kc
   exact kc _ s8
  have ea6:(List.range xs.length).map (fun i=>V.bl (GL (Span 5 (p2.map Prod.snd) (rs.getD i []))))=((List.range xs.length).map fun i=>GL (Span 5 (p2.map Prod.snd) (rs.getD i []))).map V.bl:=by rw [agE];rfl
  rw [ea6] at ma6
  walk_at "w"
  refine Ee (aW.of ma6) ?_
  have YM:=Et (rs:=rs) (ts:=p2.map Prod.snd) lx.symm
  generalize (List.map (fun i=>GL (Span 5 (List.map Prod.snd p2) (rs.getD i []))) (List.range xs.length)).all id=b1 at YM ⊢
  refine⟨_,rfl,?_⟩
  refine IQ (fun z H'=>∃ t:Bool,z=.bl t/\aj H2 H'/\(t=true↔∀ z:List Int,z.length=5->(Span 5 rs z↔Span 5 qs z))) (fun hc Q' kq=>?_) (fun hc=>⟨_,rfl,QI,?_⟩) (fun z H3 hp=>?_)
  ·have hb6:=QI.seq O2
   have YN:=YL.same QI
   have YO:=QI _ _ GO
   have YQ:=q12.same QI
   walk_at "w"
   refine mQ (xs:=ys) [some (.ref l1)] (fun i=>.bl (GL (Span 5 (p1.map Prod.snd) (qs.getD i [])))) rfl hb6 (by lia) (fun i z H' Qc hz s kc=>?_) (fun la7 Ha7 VJ sa7 ma7=>?_)
   ·obtain ⟨d,r,rfl,hd,hi⟩:=YN.get hz
    have hr:=agl hi
    rw [show qs.getD i []=r by rw [List.getD,hi];rfl] at kc
    walk_at "w"
    refine ik (B:=b7.gs 33488 5) (C:=33488) ⟨s.seq (aW.of YO),YQ.same s,hF1,c1,bp1,s.at hd,YH r hr,CH r hr,by rw [FQ];decide⟩ fun t H8 s8 ht=>?_
    rw [show GL (Span 5 (p1.map Prod.snd) r)=t from Bool.eq_iff_iff.mpr (vc.trans ht.symm)] at kc
    exact kc _ s8
   have Wd:(List.range ys.length).map (fun i=>V.bl (GL (Span 5 (p1.map Prod.snd) (qs.getD i []))))=((List.range ys.length).map fun i=>GL (Span 5 (p1.map Prod.snd) (qs.getD i []))).map V.bl:=by rw [agE];rfl
   rw [Wd] at ma7
   walk_at "w"
   refine Ee (aW.of ma7) ?_
   have hA2:=Et (rs:=qs) (ts:=p1.map Prod.snd) ly.symm
   generalize (List.map (fun i=>GL (Span 5 (List.map Prod.snd p1) (qs.getD i []))) (List.range ys.length)).all id=b2 at hA2 ⊢
   exact kq _ _ ⟨b2,rfl,QI.trans sa7,hA2.trans ⟨fun z=>Js.mp ⟨YM.mp hc,z⟩,fun z=>(Js.mpr z).2⟩⟩
  ·exact⟨(fun z=>nomatch z),fun z=>by have:=YM.mpr (Js.mpr z).1;rw [hc] at this;exact this⟩
  obtain ⟨t,rfl,s3,ht⟩:=hp
  have Qv:=ou.trans s3
  have ow:bH K H3:=hT.same Qv
  walk_at "w"
  refine nj ⟨hx.same Qv,T6,hy.same Qv,T7,ow⟩ fun t4 H4 QH TZ YR hb4=>?_
  walk_at "w"
  refine uj ?_
  have et:t4=t:=Bool.eq_iff_iff.mpr (hb4.trans ht.symm)
  rw [aga et]
  walk_at "w"
  refine gj rfl ?_
  have LU:=(bc.of Qv).trans QH
  walk_at "w"
  refine Bs ⟨hx.keep hT LU,T6,hy.keep hT LU,T7,TZ⟩ YR fun z H5 Pl yU hz=>?_
  have YS:jd K H2 H5:=((bc.of s3).trans QH).trans Pl
  have rK:bH K H2:=hT.same ou
  walk_at "w"
  refine aX (fun h=>?_) (fun h=>?_)
  ·rcases hz with ⟨rfl,_⟩|⟨p,w,rfl,lw,bw,hp,xt⟩
   ·walk_at "w"
    refine⟨rfl,?_⟩
    exact k H5 (LU.trans Pl) yU
   ·exact absurd ((ht.mp h) w lw) xt
  ·have h':¬ ∀ z:List Int,z.length=5->(Span 5 rs z↔Span 5 qs z):=fun z=>by rw [ht.mpr z] at h;cases h
   rcases hz with ⟨rfl,eT⟩|⟨p,w,rfl,lw,bw,hp,xt⟩
   ·exact absurd eT h'
   ·walk_at "w"
    refine qL hp lw fun H6 s6=>?_
    refine⟨_,rfl,?_⟩
    refine yC rfl ?_
    have MX:=YS.trans (bc.of s6)
    have YO:=MX.lst rK GO
    have YQ:=sE MX rK q12
    have m26:=MX.lst rK m2
    have q26:=sE MX rK q2
    walk_at "w"
    refine ik (B:=b7.gs 33488 5) (C:=20000) ⟨aW.of YO,YQ,hF1,c1,bp1,s6.at hp,lw,bw,by rw [FQ];decide⟩ fun t7 H7 s7 h7=>?_
    walk_at "w"
    refine ik (B:=b7.gs 33488 5) (C:=20000) ⟨aW.of (s7 _ _ m26),q26.same s7,hF2,c2,bp2,(s6.trans s7).at hp,lw,bw,by rw [FQ];decide⟩ fun t8 H8 s8 h8=>?_
    refine MF (.bl t7) (.bl t8) rfl rfl ?_
    have YF:(t7 == t8)=false:=by
     rw [beq_eq_false_iff_ne]
     rintro rfl
     exact xt (((⟨Wc.span,Wc.symm.span⟩:Span 5 rs w↔Span 5 (p1.map Prod.snd) w).trans h7.symm).trans (h8.trans ⟨MT.symm.span,MT.span⟩))
    rw [yN,YF]
    have Pm:=(s6.trans s7).trans s8
    exact k H8 ((LU.trans Pl).trans (bc.of Pm)) (yU.same Pm)
theorem rj:aN ["_law_cells_here","_law_many","_law_pair_here","_law_all_sizes_here","_law_tunings","_law_k","_law_cell","_law_i","_law_j"] ["_law_cells_here"] (ag cI):=⟨rfl,rfl,rfl,by decide +kernel,rfl,by decide +kernel,by decide +kernel⟩
structure rk(P:Program)(w:World)(K:Frag)(mg:Str->Option Value)(base:Heap)(G:kY):Prop where
 Jt:Ok P w K mg base 2 "_law_pair" ["_law_cells_here"] (ng K)
 xW:Ok P w K mg base 2 "_law_all_sizes" ["_law_cells_here","_law_many"] (gW K)
 Ds:Ok P w K mg base 40 "_law_tuning" ["_law_sizes_here","_law_pair_here","_law_cell","_law_cells_here"] (j0 K)
 wN:Ok P w K mg base 42 "_law_held_right" ["_law_one","_law_other","_law_sizes_here","_law_others","_law_duals"] (gD K)
theorem rn (D:Def K mg "_law_built_hold" cI ["_law_cells_here"]) (T:Txt K mg G) (O:rk P w K mg base G) (Y:base.NoSeer/\P.given.tree=none):Ok P w K mg base 43 "_law_built_hold" ["_law_cells_here"] (gE K):=by
 have S:=rj
 refine D.ok S (fun vs H Q E h=>?_) (fun f dh A outer s H vs Q E hr h=>?_)
 ·obtain ⟨_,_,rfl,_⟩:=h;rfl
 ·obtain ⟨a,cs,rfl,ha,Qu,hT,k⟩:=h
  have hu:=bG hr
  have aI:=T.aI
  refine⟨_,(ah (aU (i:=1) S.nd rfl (Or.inl rfl) (ay cV ae (ay bD (ay cD (aR (aC K rfl) (pv 0) ae (fun _ _=>rfl)) ae) ae))) (ah (aU (i:=2) S.nd rfl (Or.inl rfl) (ba O.Jt (hr.mono (by decide)) (aa (dI (fA K rfl) (pv 0) (cR ae) (cR ae)) af))) (ah (aU (i:=3) S.nd rfl (Or.inl rfl) (ba O.xW (hr.mono (by decide)) (aa (pv 0) (aa (pv 1) af)))) (ah (aU (i:=4) S.nd rfl (Or.inl rfl) (dk af)) (ah (dj PassesOwn.never rfl (cf rfl T.cY (aa (pv 1) af)) (aD (i:=5) S.nd rfl (Or.inl rfl)) (ah (aU (i:=6) S.nd rfl (Or.inl rfl) (ay cD (aR (aC K rfl) (pv 0) ae (fun _ _=>rfl)) (aR (aC K rfl) (dk (aa ae (aa ae (aa ae (aa ae af))))) (pv 5) (fun _ _=>rfl)))) (ai (dW (ip PySem.F.plainAttrs_list PySem.F.slot_list_append PySem.F.type_list_append cB (pv 4) (aa (ba O.Ds (hr.mono (by decide)) (aa (aR (aC K rfl) (pv 3) (pv 5) (fun _ _=>rfl)) (aa (pv 2) (aa (pv 6) (aa (dI (fA K rfl) (pv 0) (cR (ay cV ae (ay dE ae (pv 5)))) (cR (ay cV ae (ay dE ae (pv 5))))) af))))) af)))))) (ah (dj PassesOwn.never rfl (cf rfl T.cY (aa (pv 1) af)) (aD (i:=7) S.nd rfl (Or.inl rfl)) (ai (dj PassesOwn.never rfl (cf rfl T.cY (aa (pv 1) af)) (aD (i:=8) S.nd rfl (Or.inl rfl)) (ai (b9 (rP (mE (ba O.wN (hr.mono (by decide)) (aa (aR (aC K rfl) (pv 4) (pv 7) (fun _ _=>rfl)) (aa (aR (aC K rfl) (pv 4) (pv 8) (fun _ _=>rfl)) (aa (aR (aC K rfl) (pv 3) (pv 7) (fun _ _=>rfl)) (aa (aR (aC K rfl) (pv 3) (pv 8) (fun _ _=>rfl)) (aa (aR (aC K rfl) (pv 2) ae (fun _ _=>rfl)) af)))))))) (ai (aS n0)) bA))))) (ai (aS n0)))))))),?_⟩
  have ea0:t6 (cs.map V.int) 0=some (.int (cs.getD 0 0)):=aH (j:=0) (int_at (by lia))
  have Wd:t6 (cs.map V.int) 7=some (.int (cs.getD 7 0)):=aH (j:=7) (int_at (by lia))
  generalize cs.getD 0 0=c0 at ea0
  generalize cs.getD 7 0=c7 at Wd
  walk_at "w"
  refine bK ha ea0 ?_
  walk_at "w"
  obtain ⟨n,hn⟩:∃ n:Nat,2+c0 / 2 % 3=n:=⟨(2+c0 / 2 % 3).toNat,by lia⟩
  rw [hn]
  have E6:2<=n/\n<=4:=by lia
  refine og ha fun l1 H1 n1 s1 m1=>?_
  obtain ⟨Tz,TB,lc1⟩:=sy (ns:=cs) (a:=28) (b:=34) (by decide) (by lia)
  rw [show iQ (cs.map V.int) (some 28) (some 34)=Tz.map V.int from TB] at m1
  walk_at "w"
  refine C0 (aW.of m1) (by lia) fun t la lb H2 xs ys rs ss s2 mt ma Cd mb S4 Ge YT C2 BI hD hR BJ FY=>?_
  have ou:=s1.trans s2
  walk_at "w"
  refine uC (ou.seq ha) Qu ⟨by lia,E6.2⟩ fun lz H3 zs jA nz s3 mz hz lmss YU=>?_
  have Ji:=ou.trans s3
  have g3:VW K H3 a t la lb lz cs xs ys zs rs ss jA:=⟨Ji.seq ha,s3.at mt,s3 _ _ ma,Cd.same s3,s3 _ _ mb,S4.same s3,mz,hz⟩
  have ow:bH K H3:=hT.same Ji
  clear m1 mt ma Cd mb S4 mz hz
  walk_at "w"
  rename_i lt H4 n4 s4 m4
  have QH:jd K H3 H4:=bc.of s4
  have TZ:bH K H4:=ow.same s4
  have YV:∀ i,i<n->(jA.getD i []).length=5/\∀ m∈jA.getD i [],0<=m/\m<=12:=fun i hi=>YU _ (by rw [List.getD,agg (show i<jA.length by lia)];exact agR _)
  refine kO (n:=n) (fun i σ' H'=>∃ (o5 o6 o7 o8:Option V) (ts:List V),σ'=[some (.ref a),some (.int (n:Int)),some (.ref t),some (.ref lz),some (.ref lt),o5,o6,o7,o8]/\jd K H3 H'/\bH K H'/\H' lt=some (.lst ts)/\CY K H' lt ts i ss jA) ⟨_,_,_,_,[],rfl,QH,TZ,m4,rfl,fun i hi=>absurd hi (agU _)⟩ (fun i σ' H' hi hP=>?_) (fun σ' H' hP=>?_)
  ·obtain ⟨o5,o6,o7,o8,ts,rfl,smn,GD,mt,We⟩:=hP
   have gn:=g3.keep smn ow
   have hi4:i<4:=by lia
   obtain ⟨d,hd,W9,Xt⟩:∃ d:Int,t6 [V.int 1,V.int 3,V.int 9,V.int 27] (i:Int)=some (.int d)/\0<d/\d<1073741824:=by
    rcases (show i=0\/i=1\/i=2\/i=3 by lia) with rfl|rfl|rfl|rfl <;> exact⟨_,rfl,by decide,by decide⟩
   have Ap:Nl c7 d:=⟨W9,Xt⟩
   rw [zero_add]
   have lts:=We.1
   have hga:=gn.a
   have Pn:=gn.lz
   obtain ⟨az,gz,hza⟩:=mT gn.hz (show i<jA.length by lia)
   have ez:t6 zs (i:Int)=some (.ref az):=aH gz
   have X2:=YV i hi
   walk_at "w"
   refine bK hga Wd ?_
   walk_at "w"
   rename_i lp H6 n6 s6 m6
   refine bK (aW.of m6) hd ?_
   walk_at "w"
   have g6:=gn.keep (bc.of s6) GD
   have EF:bH K H6:=GD.same s6
   refine bK (aW.of g6.lz) ez ?_
   walk_at "w"
   refine og g6.a fun l7 H7 n7 s7 m7=>?_
   obtain ⟨TC,TF,lc2⟩:=sy (ns:=cs) (a:=34+3*i) (b:=37+3*i) (by lia) (by lia)
   rw [show iQ (cs.map V.int) (some (34+3*(i:Int))) (some (37+3*(i:Int)))=TC.map V.int from TF] at m7
   have g7:=g6.keep (bc.of s7) EF
   have Po:bH K H7:=EF.same s7
   have Dt:=s6.trans s7
   walk_at "w"
   refine zK ⟨aW.of (Dt _ _ hza),X2.1,X2.2,g7.t,g7.la,g7.ra,g7.lb,g7.rb,Ge,YT,C2,BI,hD,hR,BJ,FY,aW.of m7,by lia,Po⟩ fun x l H8 u sm8 VA nx nl hu8 hr8=>?_
   have YW:=sm8.lst Po (Dt _ _ mt)
   have nel:l≠lt:=fun z=>by rw [z,Dt _ _ mt] at nl;cases nl
   have T8:=(bc.of Dt).trans sm8
   walk_at "w"
   refine dn YW (by lia) ?_
   exact⟨_,_,_,_,ts++[.ref x],rfl,(smn.trans T8).cw n4,fI.off VA YW,aw,(We.keep T8 GD).snoc YW nel hu8 hr8⟩
  obtain ⟨o5,o6,o7,o8,ts,rfl,Pl,yU,mt5,We⟩:=hP
  have g5:=g3.keep Pl ow
  clear g3 ow m4
  walk_at "w"
  refine kO (n:=n) (fun i σ' H9=>∃ (o7 o8:Option V),σ'=[some (.ref a),some (.int (n:Int)),some (.ref t),some (.ref lz),some (.ref lt),o5,o6,o7,o8]/\jd K H' H9/\bH K H9) ⟨_,_,rfl,bc.refl,yU⟩ (fun i σ' H9 hi hP=>?_) (fun σ' H9 hP=>?_)
  ·obtain ⟨o7,o8,rfl,Cg,MY⟩:=hP
   rw [zero_add]
   walk_at "w"
   refine kO (n:=n) (fun j σ' H9=>∃ (o8:Option V),σ'=[some (.ref a),some (.int (n:Int)),some (.ref t),some (.ref lz),some (.ref lt),o5,o6,some (.int (i:Int)),o8]/\jd K H' H9/\bH K H9) ⟨_,rfl,Cg,MY⟩ (fun j σ' H9 hj hP=>?_) (fun σ' H9 hP=>?_)
   ·obtain ⟨o8,rfl,Cg,MY⟩:=hP
    rw [zero_add]
    have g9:=g5.keep Cg yU
    have mt9:=Cg.lst yU mt5
    have ht9:=We.keep Cg yU
    obtain ⟨x1,l1,u1,e1,_,h1,r1⟩:=ht9.2 i hi
    obtain ⟨x2,l2,u2,e2,_,h2,r2⟩:=ht9.2 j hj
    obtain ⟨a1,z1,f1⟩:=mT g9.hz (show i<jA.length by lia)
    obtain ⟨a2,z2,f2⟩:=mT g9.hz (show j<jA.length by lia)
    have hgt:=g9.t
    have Pn:=g9.lz
    have Wf:=YV i hi
    have Tp:=YV j hj
    walk_at "w"
    refine bK (aW.of mt9) (aH e1) ?_
    walk_at "w"
    refine bK (aW.of mt9) (aH e2) ?_
    walk_at "w"
    refine bK (aW.of Pn) (aH z1) ?_
    walk_at "w"
    refine bK (aW.of Pn) (aH z2) ?_
    walk_at "w"
    refine sQ ⟨h1,r1,h2,r2,aW.of f1,aW.of f2,Wf.1,Tp.1,Wf.2,Tp.2,aW.of g9.lb,g9.rb,YT,BI,FY,Ls.sep hD Ge C2 YT BI Wf.1 Tp.1 (fun m hm=>(Wf.2 m hm).1) (fun m hm=>(Tp.2 m hm).1),MY⟩ fun CA T9 Ua=>?_
    walk_at "w"
    refine gj rfl ?_
    exact⟨_,rfl,Cg.trans T9,Ua⟩
   obtain ⟨o8,rfl,Cg,MY⟩:=hP
   exact⟨_,_,rfl,Cg,MY⟩
  obtain ⟨o7,o8,rfl,Cg,MY⟩:=hP
  walk_at "w"
  exact k H9
theorem BR:aN ["_law_keys_here","_law_rows","_law_w","_law_circle","_law_heard","_law_one","_law_left"] ["_law_keys_here"] (ag fL):=⟨rfl,rfl,rfl,by decide +kernel,rfl,by decide +kernel,by decide +kernel⟩
structure BS(P:Program)(w:World)(K:Frag)(mg:Str->Option Value)(base:Heap)(G:kY):Prop where
 d5:Ok P w K mg base 1 "_law_plus" ["_law_one","_law_q","_law_other"] (df K)
 lG:Ok P w K mg base 34 "_law_gathered" ["_law_rows","_law_place"] (fE K)
 BU:Ok P w K mg base 1 "_law_divisor" ["_law_one","_law_other"] (ji K)
theorem BV (D:Def K mg "_law_lost" fL ["_law_keys_here"]) (T:Txt K mg G) (O:BS P w K mg base G) (Y:base.NoSeer/\P.given.tree=none):Ok P w K mg base 67 "_law_lost" ["_law_keys_here"] (mZ K):=by
 have S:=BR
 refine D.ok S (fun vs H Q E h=>?_) (fun f dh A outer s H vs Q E hr h=>?_)
 ·obtain ⟨_,_,_,rfl,_⟩:=h;rfl
 ·obtain ⟨l,xs,ks,rfl,hl,hk,h6,hg,k⟩:=h
  have hu:=bG hr
  have aI:=T.aI
  refine⟨_,(ah (Bc (k:=1) (N:=["_law_j"]) (ix:=[none]) S.nd rfl (Or.inl rfl) rfl (cf rfl T.cY (aa ae af)) (fun _ _ _ _ _=>(aD (i:=0) (show jz ["_law_j"] by decide +kernel) rfl (Or.inr rfl))) (fun _ _ _ _ _=>rfl) (fun _ _ _ _ _=>(bN (fz K rfl) rfl T.gy boot_tuple (aa (bQ (N:=["_law_k","_law_j"]) (ix:=[none,some 0]) rfl (cf rfl T.cY (aa ae af)) (fun _ _ _ _ _=>(aD (i:=0) (show jz ["_law_k","_law_j"] by decide +kernel) rfl (Or.inl rfl))) (fun _ _ _ _ _=>rfl) (fun _ _ _ _ _=>(bN sh rfl T.Ew boot_int (aa (fo dH (pv 0) (pv 1) (aQ _)) af))) rfl (by decide +kernel) (by decide +kernel) rfl ⟨⟨rfl,Or.inr (Or.inl rfl),rfl,rfl⟩,True.intro⟩) af))) rfl (by decide +kernel) (by decide +kernel) rfl) (ah (dj PassesOwn.never rfl (bh K rfl (pv 0)) (fD (n:=2) K rfl rfl (bP (aD (i:=2) S.nd rfl (Or.inr rfl)) (bP (aD (i:=3) S.nd rfl (Or.inl rfl)) fC))) (ah (ia (k:=4) (N:=["_law_row","_law_w"]) (ix:=[none,some 2]) S.nd rfl (Or.inl rfl) rfl (bh K rfl (pv 1)) (fun _ _ _ _ _=>(aD (i:=0) (show jz ["_law_row","_law_w"] by decide +kernel) rfl (Or.inl rfl))) (fun _ _ _ _ _=>rfl) (fun _ _ _ _ _=>(ay (kj K rfl) (pv 0) (cP (aa (bu (CM K rfl rfl) rfl T.IU boot_sum (aa (bQ (N:=["_law_a","_law_b"]) (ix:=[none,none]) rfl (mP K rfl true true rfl T.Bl (aa (pv 1) (aa (pv 0) af))) (fun _ _ _ _ _=>(fD (n:=2) K rfl rfl (bP (aD (i:=0) (show jz ["_law_a","_law_b"] by decide +kernel) rfl (Or.inl rfl)) (bP (aD (i:=1) (show jz ["_law_a","_law_b"] by decide +kernel) rfl (Or.inl rfl)) fC)))) (fun _ _ _ _ _=>rfl) (fun _ _ _ _ _=>(ay zf (pv 0) (pv 1))) rfl (by decide +kernel) (by decide +kernel) rfl True.intro) af)) af)))) rfl (by decide +kernel) (by decide +kernel) rfl ⟨⟨rfl,Or.inr (Or.inl rfl),rfl,rfl⟩,True.intro⟩) (ah (jR (ba O.lG (hr.mono (by decide)) (aa (pv 4) (aa ae af))) (fD (n:=2) K rfl rfl (bP (aD (i:=5) S.nd rfl (Or.inl rfl)) (bP (aD (i:=6) S.nd rfl (Or.inl rfl)) fC)))) (ah (b9 (PW.pt (i4 (aM DU (pv 5) oC (aQ _)) (hG (aM gc (pv 3) ae (aQ _))))) (ai (dW (ip PySem.F.plainAttrs_list PySem.F.slot_list_append PySem.F.type_list_append cB (pv 6) (aa (ba O.d5 (hr.mono (by decide)) (@aa _ _ _ _ _ (@cP _ _ _ _ _ (aa ae (aa ae (aa ae (aa ae (aa ae af)))))) (@aa _ _ _ _ _ (ay (qv Y rfl rfl rfl rfl rfl (hr.mono (by decide))) (pv 3) (ba O.BU (hr.mono (by decide)) (aa (pv 3) (aa (aR (aC K rfl) (pv 5) ae (fun _ _=>rfl)) af)))) (@aa _ _ _ _ _ (pv 5) af (by rfl)) (by rfl)) (by rfl))) af)))) bA) (ai (ia (k:=1) (N:=["_law_row"]) (ix:=[none]) S.nd rfl (Or.inl rfl) rfl (bh K rfl (pv 6)) (fun _ _ _ _ _=>(aD (i:=0) (show jz ["_law_row"] by decide +kernel) rfl (Or.inl rfl))) (fun _ _ _ _ _=>rfl) (fun _ _ _ _ _=>(dI (qp K rfl) (pv 0) jC (cR ae))) rfl (by decide +kernel) (by decide +kernel) rfl True.intro)))))) (ai (aS (pv 1))))),?_⟩
  have lk:=hk.length
  walk_at "w"
  refine jU (K:=K) (n:=5) [] (fun i=>bW i 5) rfl (by decide) (fun i H' Qc hi s kc=>?_) (fun l1 H1 xs1 n1 s1 m1 r1=>?_)
  ·walk_at "w"
   refine ke (n:=5) (fun x=>.int (if x=(i:Int) then 1 else 0)) [some (.int i)] rfl (by decide) (fun x CO Qd hx s' kd=>?_) (fun l H3 hl s3 m3=>?_)
   ·walk_at "w"
    have:=kd _ (aj.refl _)
    by_cases h:x=(i:Int)
    ·rw [if_pos h] at this
     rw [aga h]
     exact this
    ·rw [if_neg h] at this
     rw [af9 h]
     exact this
   have e:(List.range 5).map (fun (j:Nat)=>V.int (if (j:Int)=(i:Int) then 1 else 0))=(bW i 5).map V.int:=by
    rw [bW,agE]
    refine agF fun j _=>?_
    simp only [Function.comp_apply,ofNat_inj]
   rw [e] at m3
   walk_at "w"
   rename_i p2 H2 s2 m2
   exact kc _ _ (s3.trans s2) (aZ.of m2)
  have eu:(List.range 5).map (fun i=>bW i 5)=eK:=by decide
  rw [eu] at r1
  walk_at "w"
  refine iA (xs:=xs) (fun i σ Hn=>∃ (o2 o3 o4 o5 o6:Option V) (lf:Addr) (ys:List V) (st:List (List Int)),σ=[some (.ref l),some (.ref lf),o2,o3,o4,o5,o6]/\H lf=none/\aj H Hn/\Hn lf=some (.lst ys)/\av K Hn ys st/\GK (ks.take i) st) ⟨_,_,_,_,_,l1,xs1,_,rfl,n1,s1,m1,r1,GK.start⟩ (fun i σ Hn hp=>by obtain ⟨_,_,_,_,_,_,_,_,rfl,_,sn,_⟩:=hp;exact sn.seq hl) (fun i x σ Hn hx hp=>?_) (fun σ Hn hp=>?_)
  ·obtain ⟨o2,o3,o4,o5,o6,lf,ys,st,rfl,nf,sn,mf,rf,hL⟩:=hp
   obtain ⟨a,w,kk,rfl,h1,h2,h3⟩:=hk.get hx
   have hik:i<ks.length:=(afX.mp h3).1
   obtain ⟨q1,q2,q3,q4⟩:=hg kk (agl h3)
   have YX:(ks.take i).length=i:=by rw [agA];lia
   have hll:ll i<=ll 5:=IM (by lia)
   have hll5:ll 5=11132:=rfl
   have ls:=rf.length
   have hst5:=hL.c
   have j7:∀ v∈st,bf (2 ^ ll i) v:=fun v hv=>by have:=hL.bd v hv;rwa [YX] at this
   have YY:(2:Nat) ^ ll i<=2 ^ (ll i+25):=agt (by decide) (by lia)
   have xm:∀ v∈st,(dt v kk.1).natAbs<=2 ^ (ll i+25):=fun v hv=>by
    have:=uZ (hL.len v hv) q1 (j7 v hv) q2
    rwa [show 22+ll i+3=ll i+25 by lia] at this
   refine jF (sn.at h1) ?_
   walk_at "w"
   have hw2:=sn.at h2
   refine eh [some (.ref w)] (b7.mO kk.1) rfl (aW.of mf) rf (by lia) (fun a r H' Qc hr s ha kc=>?_) (fun l2 H2 MS n2 s2 m2 r2=>?_)
   ·have Pe:=hL.len r hr
    walk_at "w"
    refine Ej (r:=kk.1) (q:=r) rfl (iz (s.at hw2)) (iz ha) (by lia) (by lia) (Ar.mul (xw (b:=400000) q2 (by lia)) (xw (b:=50001) (j7 r hr) (by lia)) (by decide) (by lia)) fun l3 H3 n3 s3 m3=>?_
    have ed:(List.zipWith (·*·) kk.1 r).sum=dt r kk.1:=cW kk.1 r
    walk_at "w"
    refine Ia (aW.of m3) ?_
    rw [ed]
    walk_at "w"
    rename_i p4 H4 s4 m4
    refine zt ((s3.trans s4).at ha) (aZ.of m4) (fun z=>by rw [map_eq_nil_iff] at z;rw [z] at Pe;simp at Pe) (by simp) (by simp;lia) fun p5 H5 s5 m5=>?_
    refine kc p5 H5 ((s3.trans s4).trans s5) ?_
    rw [b7.mO,agD]
    exact aZ.of m5
   have lh:Len 6 (st.map (b7.mO kk.1)):=fun v hv=>by
    obtain ⟨r,hr,rfl⟩:=agr.mp hv
    exact ft (hL.len r hr)
   have hbh:∀ v∈st.map (b7.mO kk.1),bf (2 ^ (ll i+25)) v:=fun v hv=>by
    obtain ⟨r,hr,rfl⟩:=agr.mp hv
    exact zi ((j7 r hr).mono YY) (mS fun x hx=>by rw [agj.mp hx];exact xm r hr)
   have lmap:(st.map (b7.mO kk.1)).length=st.length:=agm ..
   have YZ:ks.take (i+1)=ks.take i++[(kk.1,kk.2)]:=take_snoc h3
   have Y0:(2:Nat) ^ (3*ll i+78)<=2 ^ (3*ll (ks.take i).length+92):=by rw [YX];exact agt (by decide) (by lia)
   have s0:=sn.trans s2
   walk_at "w"
   refine nk (p:=5) (n:=6) (M:=2 ^ (ll i+25)) (A:=2 ^ (ll i+25)) (k:=3*ll i+78) ⟨aW.of m2,r2,by lia,lh,by decide,by decide,hbh,fun v hv=>hbh v hv 5,agL _,Lx (ll i),by lia⟩ (fun t l4 H4 JV os s4 mt n4 m4 r4 z4 z6 b4 e4 c4=>?_) (fun t a l4 H4 JV os s s4 mt ha n4 m4 r4 sne sA z4 z6 b4 e4 c4=>?_)
   ·rw [lmap] at c4
    have lz4:=r4.length
    have Ub:GK (ks.take (i+1)) (os.map (List.take 5)):=by
     rw [YZ]
     refine hL.next (fun v hv=>?_) (by rw [agm];exact c4) (yy q1 hL.len e4 z6 z4) (fun v hv=>?_)
     ·obtain ⟨u,hu,rfl⟩:=agr.mp hv
      rw [agA,z6 u hu];rfl
     ·obtain ⟨u,hu,rfl⟩:=agr.mp hv
      exact (Es (b4 u hu)).mono (af0 (af2 (Lx _)) Y0)
    have sq:=s0.trans s4
    walk_at "w"
    refine jF mt ?_
    walk_at "w"
    refine⟨rfl,?_⟩
    walk_at "w"
    refine gj rfl ?_
    walk_at "w"
    refine gj rfl ?_
    walk_at "w"
    refine eh [] (List.take 5) rfl (aW.of m4) (r4) (by lia) (fun a r H' Qc hr s ha kc=>?_) (fun l8 H8 MU n8 s8 m8 r8=>?_)
    ·walk_at "w"
     refine yK ha fun p5 H5 s5 m5=>?_
     rw [show (some (5:Int))=some ((5:Nat):Int) from rfl,nQ,<- map_take] at m5
     exact kc p5 H5 s5 m5
    exact⟨_,_,_,_,_,l8,MU,_,rfl,sq.new n8,sq.trans s8,m8,r8,Ub⟩
   ·rw [lmap] at c4
    have lz4:=r4.length
    have Wg:Len 6 os:=fun v hv=>z6 v (.tail _ hv)
    have Uc:s.length=6:=z6 s (.head _)
    have Pp:(s.take 5).length=5:=by rw [agA,Uc];rfl
    have sq:=s0.trans s4
    have V8:∀ v∈(s::os),bf (2 ^ (3*ll i+78)) (v.take 5):=fun v hv=>(Es (b4 v hv)).mono (af2 (Lx _))
    walk_at "w"
    refine jF mt ?_
    walk_at "w"
    refine⟨rfl,?_⟩
    walk_at "w"
    refine yC rfl ?_
    walk_at "w"
    refine aX (fun hc=>?_) (fun hc=>?_)
    ·have NL:kk.2≠0:=by simpa using hc
     have hg0:0<Int.gcd kk.2 (s.getD 5 0):=Int.gcd_pos_of_ne_zero_left _ NL
     have hgn:((Int.gcd kk.2 (s.getD 5 0):Nat):Int)≠0:=by lia
     walk_at "w"
     rename_i p5 H5 s5 m5
     walk_at "v"
     refine d3 (s5.at ha) (aH (j:=5) (int_at (by rw [Uc];decide))) ?_
     walk_at "w"
     refine xB ?_
     walk_at "w"
     have mO:kk.2.fdiv ((Int.gcd kk.2 (s.getD 5 0):Nat):Int)=kk.2 / ((Int.gcd kk.2 (s.getD 5 0):Nat):Int):=agf _ (by lia)
     rw [mO]
     have hcn:kk.2 / ((Int.gcd kk.2 (s.getD 5 0):Nat):Int)≠0:=fun z=>by
      have:=Int.mul_ediv_cancel' (gcd_dvd_left kk.2 (s.getD 5 0))
      rw [z,mul_zero] at this
      exact NL this.symm
     have Y1:(kk.2 / ((Int.gcd kk.2 (s.getD 5 0):Nat):Int)).natAbs<=2 ^ 14:=by
      have h1:=Int.ediv_nonneg q3 (show (0:Int)<=((Int.gcd kk.2 (s.getD 5 0):Nat):Int) by lia)
      have h2:=Int.ediv_le_self ((Int.gcd kk.2 (s.getD 5 0):Nat):Int) q3
      generalize kk.2 / ((Int.gcd kk.2 (s.getD 5 0):Nat):Int)=z at h1 h2 ⊢
      lia
     have hrp:=fun a=>yA (m:=kk.2) (s:=s.getD 5 0) NL a
     generalize kk.2 / ((Int.gcd kk.2 (s.getD 5 0):Nat):Int)=c at hcn Y1 hrp ⊢
     refine Bu [0,0,0,0,0] s (aZ.of m5) (s5.at ha) (by rw [Uc];decide) (by decide) (fun y hy=>.inr ?_) fun p6 H6 s6 m6=>?_
     ·have b1:iM c<=15:=by
       rw [gm]
       exact mG (agu Y1 (by decide))
      have b2:iM y<=3*ll i+78:=by
       rw [gm]
       exact mG (agu (sx (b4 s (.head _)) hy) (Lx _))
      unfold kl
      lia
     rw [show List.length [(0:Int),0,0,0,0]=5 from rfl,FP Pp] at m6
     have BL:=s5.trans s6
     have TL:=BL _ _ m4
     walk_at "w"
     refine dn TL (by lia) ?_
     have Ub:GK (ks.take (i+1)) ((os++[bJ (s.take 5) c]).map (List.take 5)):=by
      have em:(os++[bJ (s.take 5) c]).map (List.take 5)=os.map (List.take 5)++[bJ (s.take 5) c]:=by
       rw [agD,List.map_singleton,agG (le_of_eq (aA Pp))]
      rw [YZ,em]
      refine hL.next (fun v hv=>?_) (by rw [agn,agm,ago];exact c4) (vQ q1 hL.len e4 Uc Wg z4 sne (.inr ⟨rfl,hrp⟩)) (fun v hv=>?_)
      ·rcases agk.mp hv with z|z
       ·obtain ⟨u,hu,rfl⟩:=agr.mp z
        rw [agA,Wg u hu];rfl
       ·rw [agj.mp z]
        exact aA Pp
      ·rcases agk.mp hv with z|z
       ·obtain ⟨u,hu,rfl⟩:=agr.mp z
        exact (V8 u (.tail _ hu)).mono Y0
       ·rw [agj.mp z,YX]
        refine (Ly (V8 s (.head _)) Y1).mono ?_
        rw [<- pow_add]
        exact agt (by decide) (by lia)
     have sq7:aj H (upd H6 l4 (.lst (JV++[.ref p6]))):=s0.trans ((s4.trans BL).cw n4)
     have m7:(upd H6 l4 (.lst (JV++[.ref p6]))) l4=some (.lst (JV++[.ref p6])):=aw
     have r7:av K (upd H6 l4 (.lst (JV++[.ref p6]))) (JV++[.ref p6]) (os++[bJ (s.take 5) c]):=((r4.same BL).append (.cons m6 .nil)).off TL
     walk_at "w"
     refine eh [] (List.take 5) rfl (aW.of m7) (r7) (by rw [agn,ago];lia) (fun a r H' Qc hr s ha kc=>?_) (fun l8 H8 MU n8 s8 m8 r8=>?_)
     ·walk_at "w"
      refine yK ha fun p5 H5 s5 m5=>?_
      rw [show (some (5:Int))=some ((5:Nat):Int) from rfl,nQ,<- map_take] at m5
      exact kc p5 H5 s5 m5
     exact⟨_,_,_,_,_,l8,MU,_,rfl,sq7.new n8,sq7.trans s8,m8,r8,Ub⟩
    ·have NL:kk.2=0:=by simpa using hc
     have Ub:GK (ks.take (i+1)) (os.map (List.take 5)):=by
      rw [YZ]
      refine hL.next (fun v hv=>?_) (by rw [agm];lia) (fun x=>by
       have:=vQ (ts:=[]) (m:=kk.2) (c:=0) q1 hL.len e4 Uc Wg z4 sne (.inl ⟨NL,rfl⟩) x
       rwa [append_nil] at this) (fun v hv=>?_)
      ·obtain ⟨u,hu,rfl⟩:=agr.mp hv
       rw [agA,Wg u hu];rfl
      ·obtain ⟨u,hu,rfl⟩:=agr.mp hv
       exact (V8 u (.tail _ hu)).mono Y0
     walk_at "w"
     refine eh [] (List.take 5) rfl (aW.of m4) (r4) (by lia) (fun a r H' Qc hr s ha kc=>?_) (fun l8 H8 MU n8 s8 m8 r8=>?_)
     ·walk_at "w"
      refine yK ha fun p5 H5 s5 m5=>?_
      rw [show (some (5:Int))=some ((5:Nat):Int) from rfl,nQ,<- map_take] at m5
      exact kc p5 H5 s5 m5
     exact⟨_,_,_,_,_,l8,MU,_,rfl,sq.new n8,sq.trans s8,m8,r8,Ub⟩
  obtain ⟨o2,o3,o4,o5,o6,lf,ys,st,rfl,nf,sn,mf,rf,hL⟩:=hp
  rw [<- lk,agz] at hL
  walk_at "w"
  exact k lf Hn ys st nf sn mf rf hL
theorem Du:aN ["_law_cells_here","_law_head","_law_most","_law_rows","_law_k","_law_row","_law_rings","_law_keys_here"] ["_law_cells_here","_law_head"] (ag gS):=⟨rfl,rfl,rfl,by decide +kernel,rfl,by decide +kernel,by decide +kernel⟩
structure Dv(P:Program)(w:World)(K:Frag)(mg:Str->Option Value)(base:Heap)(G:kY):Prop where
 qT:Ok P w K mg base 1 "_law_near" ["_law_cell","_law_most"] (jL K)
 BW:Ok P w K mg base 67 "_law_lost" ["_law_keys_here"] (mZ K)
 EG:Ok P w K mg base 2 "_law_two" ["_law_cell","_law_most"] (oW K)
 pj:IA P w K mg base 3 G.gw ["self","row"] (ij K)
 d6:oi P w K mg base 38 G.cK ["self","commas"] (cU K)
 fi:oi P w K mg base 2 G.cL ["self","keys"] (dN K)
theorem Dw (D:Def K mg "_law_any" gS ["_law_cells_here","_law_head"]) (T:Txt K mg G) (O:Dv P w K mg base G) (Y:base.NoSeer/\P.given.tree=none):Ok P w K mg base 68 "_law_any" ["_law_cells_here","_law_head"] (oX K):=by
 have S:=Du
 refine D.ok S (fun vs H Q E h=>?_) (fun f dh A outer s H vs Q E hr h=>?_)
 ·obtain ⟨_,_,_,rfl,_⟩:=h;rfl
 ·obtain ⟨a,hd,cs,rfl,ha,h18,hT,k⟩:=h
  have hu:=bG hr
  have aI:=T.aI
  have bj:=T.bj
  have aE:=T.aE
  have au:=T.au
  have aO:=T.aO
  have ao:=T.ao
  have bC:=T.bC
  have aB:=T.aB
  have aF:=T.aF
  refine⟨_,(@ah _ _ _ _ _ (aU (i:=2) S.nd rfl (Or.inr rfl) (aR (aC K rfl) (cP (aa ae (aa ae (aa ae (aa ae af))))) (ay bD (ay cD (pv 1) ae) ae) (fun _ _=>rfl))) (@ah _ _ _ _ _ (aU (i:=3) S.nd rfl (Or.inr rfl) (dk af)) (@ah _ _ _ _ _ (dj PassesOwn.never rfl (cf rfl T.cY (aa ae af)) (aD (i:=4) S.nd rfl (Or.inl rfl)) (ah (aU (i:=5) S.nd rfl (Or.inl rfl) (ay (kj K rfl) (ba O.EG (hr.mono (by decide)) (aa (aR (aC K rfl) (pv 0) (ay dE ae (pv 4)) (fun _ _=>rfl)) (aa (pv 2) af))) (ba O.EG (hr.mono (by decide)) (aa (aR (aC K rfl) (pv 0) (ay cV (ay dE ae (pv 4)) ae) (fun _ _=>rfl)) (aa (pv 2) af))))) (ai (dW (ip PySem.F.plainAttrs_list PySem.F.slot_list_append PySem.F.type_list_append cB (pv 3) (aa (ay (kj K rfl) (pv 5) (cP (aa (ba O.qT (hr.mono (by decide)) (aa (aR (aC K rfl) (pv 0) (ay cV (ay dE ae (pv 4)) ae) (fun _ _=>rfl)) (aa (pv 2) af))) af))) af)))))) (@ah _ _ _ _ _ (aU (i:=6) S.nd rfl (Or.inr rfl) (bQ (N:=["_law_k","_law_cells_here","_law_most"]) (ix:=[none,some 0,some 2]) rfl (cf rfl T.cY (aa ae af)) (fun _ _ _ _ _=>(aD (i:=0) (show jz ["_law_k","_law_cells_here","_law_most"] by decide +kernel) rfl (Or.inl rfl))) (fun _ _ _ _ _=>rfl) (fun _ _ _ _ _=>(ay cD (aR (aC K rfl) (pv 1) (ay cV (ay dE ae (pv 0)) ae) (fun _ _=>rfl)) (ay cV (ay dE ae (pv 2)) ae))) rfl (by decide +kernel) (by decide +kernel) rfl ⟨⟨rfl,Or.inr (Or.inl rfl),rfl,rfl⟩,⟨⟨rfl,Or.inr (Or.inl rfl),rfl,rfl⟩,True.intro⟩⟩)) (@ah _ _ _ _ _ (aU (i:=7) S.nd rfl (Or.inl rfl) (dI (fA K rfl) (bQ (N:=["_law_k","_law_rows","_law_rings"]) (ix:=[none,some 3,some 6]) rfl (cf rfl T.cY (aa ae af)) (fun _ _ _ _ _=>(aD (i:=0) (show jz ["_law_k","_law_rows","_law_rings"] by decide +kernel) rfl (Or.inl rfl))) (fun _ _ _ _ _=>rfl) (fun _ _ _ _ _=>(cP (aa (aR (aC K rfl) (pv 1) (pv 0) (fun _ _=>rfl)) (aa (ay dE (ay bD (aR (aC K rfl) (pv 2) (pv 0) (fun _ _=>rfl)) ae) (bu (Fp rfl) rfl T.MN boot_max (aa ae (aa (ay bD (ay cD (aR (aC K rfl) (pv 2) (pv 0) (fun _ _=>rfl)) ae) ae) af)))) af)))) rfl (by decide +kernel) (by decide +kernel) rfl ⟨⟨rfl,Or.inr (Or.inl rfl),rfl,rfl⟩,⟨⟨rfl,Or.inr (Or.inl rfl),rfl,rfl⟩,True.intro⟩⟩) jC (cR (ay bD (ay cD (pv 1) ae) ae)))) (@ah _ _ _ _ _ (b9 (aM dH (ay bD (pv 1) ae) ae (aQ _)) (ai (aS (cP (aa (Bb O.d6 T.jW (hr.mono (by decide)) rfl T.jV (aa (dI (fA K rfl) (pv 3) jC (cR (ay bD (ay cD (pv 1) ae) ae))) af)) (aa (dI (fA K rfl) (pv 3) jC (cR (ay bD (ay cD (pv 1) ae) ae))) af))))) bA) (@ah _ _ _ _ _ (b9 (aM dH (ay bD (pv 1) ae) ae (aQ _)) (ai (aS (cP (aa (Bb O.fi T.ue (hr.mono (by decide)) rfl T.mW (aa (pv 7) af)) (aa (ba O.BW (hr.mono (by decide)) (aa (pv 7) af)) af))))) bA) (@ah _ _ _ _ _ (b9 (aM dH (ay bD (pv 1) ae) ae (aQ _)) (@ah _ _ _ _ _ (aU (i:=5) S.nd rfl (Or.inl rfl) (ay (kj K rfl) (cP (aa (ay cV ae (bu ki rfl T.Bj boot_abs (aa (aR (aC K rfl) (aR (aC K rfl) (pv 3) ae (fun _ _=>rfl)) ae (fun _ _=>rfl)) af))) af)) (dI (qp K rfl) (aR (aC K rfl) (pv 3) ae (fun _ _=>rfl)) (cR ae) jC))) (@ai _ _ _ (aS (cP (aa (IC (EX:=fun _ _ _=>False) O.pj T.Ey (hr.mono (by decide)) noraise rfl rfl T.Ex (aa (pv 5) af)) (aa (ba O.BW (hr.mono (by decide)) (@aa _ _ _ _ _ (@dk _ _ _ _ (@aa _ _ _ _ _ (@cP _ _ _ _ _ (aa (pv 5) (aa ae af))) af (by rfl))) af (by rfl))) af)))))) bA) (ai (aS (cP (@aa _ _ _ _ _ (Iy T.yP rfl T.Bp) (@aa _ _ _ _ _ (dk af) af (by rfl)) (by rfl))))))))))))),?_⟩
  walk_at "w"
  rename_i p1 H1 s1 m1
  obtain ⟨mo,hmo,Wb,hm9⟩:∃ mo:Int,t6 [V.int 2,V.int 9,V.int 99,V.int 9999] (hd / 28 % 4)=some (.int mo)/\0<=mo/\mo<=9999:=by
   have hz:hd / 28 % 4=0\/hd / 28 % 4=1\/hd / 28 % 4=2\/hd / 28 % 4=3:=by lia
   generalize hd / 28 % 4=z at hz
   rcases hz with rfl|rfl|rfl|rfl <;> exact⟨_,rfl,by decide,by decide⟩
  refine d3 (aZ.of m1) hmo ?_
  have Pq:0<=mo/\mo<=100000:=⟨Wb,by lia⟩
  walk_at "w"
  rename_i l2 H2 n2 s2 m2
  refine kO (n:=6) (fun i σ' H'=>∃ (o4 o5 o6 o7:Option V) (xs:List V) (rs:List (List Int)),σ'=[some (.ref a),some (.int hd),some (.int mo),some (.ref l2),o4,o5,o6,o7]/\aj H H'/\H' l2=some (.lst xs)/\av K H' xs rs/\rs.length=i/\Len 5 rs/\∀ r∈rs,∀ z∈r,z.natAbs<=9999) ⟨_,_,_,_,[],[],rfl,s1.trans s2,m2,.nil,rfl,(fun _ z=>nomatch z),fun _ z=>nomatch z⟩ (fun i σ' H' hi hP=>?_) (fun σ' H' hP=>?_)
  ·obtain ⟨o4,o5,o6,o7,xs,rs,rfl,sn,mx,hr,lr,h5,hb⟩:=hP
   have lx:=hr.length
   have hi6:i<6:=hi
   have e0:t6 (cs.map V.int) (3*(i:Int))=some (.int (cs.getD (3*i) 0)):=by
    rw [show 3*(i:Int)=((3*i:Nat):Int) by lia]
    exact aH (int_at (by lia))
   have e1:t6 (cs.map V.int) (3*(i:Int)+1)=some (.int (cs.getD (3*i+1) 0)):=by
    rw [show 3*(i:Int)+1=((3*i+1:Nat):Int) by lia]
    exact aH (int_at (by lia))
   have e2:t6 (cs.map V.int) (3*(i:Int)+2)=some (.int (cs.getD (3*i+2) 0)):=by
    rw [show 3*(i:Int)+2=((3*i+2:Nat):Int) by lia]
    exact aH (int_at (by lia))
   generalize cs.getD (3*i) 0=c0 at e0
   generalize cs.getD (3*i+1) 0=c1 at e1
   generalize cs.getD (3*i+2) 0=c2 at e2
   have Bx:=sn.seq ha
   rw [zero_add]
   walk_at "w"
   refine bK Bx e0 ?_
   walk_at "w"
   refine yQ Pq fun p3 H3 s3 m3=>?_
   walk_at "w"
   refine bK (s3.seq Bx) e1 ?_
   walk_at "w"
   refine yQ Pq fun p4 H4 s4 m4=>?_
   walk_at "w"
   rename_i p5 H5 s5 m5
   have QJ:=(s3.trans s4).trans s5
   refine bK (QJ.seq Bx) e2 ?_
   walk_at "w"
   refine oY Pq ?_
   walk_at "w"
   rename_i p6 H6 s6 m6 p7 H7 s7 m7
   have Wh:=(QJ.trans s6).trans s7
   refine dn (Wh _ _ mx) (by lia) ?_
   have m7':aZ K H7 p7 ([gu c0 mo,gu ((c0+mo) / (2*mo+1)) mo,gu c1 mo,gu ((c1+mo) / (2*mo+1)) mo,gu c2 mo].map V.int):=aZ.of m7
   refine⟨_,_,_,_,xs++[.ref p7],rs++[[gu c0 mo,gu ((c0+mo) / (2*mo+1)) mo,gu c1 mo,gu ((c1+mo) / (2*mo+1)) mo,gu c2 mo]],rfl,(sn.trans Wh).cw (s1.new n2),aw,((hr.same Wh).append (.cons m7' .nil)).off (Wh _ _ mx),by rw [agn,ago,lr],fun r ua=>?_,fun r ua z hz=>?_⟩
   ·rcases agk.mp ua with y|y
    ·exact h5 r y
    ·rw [agj.mp y];rfl
   ·rcases agk.mp ua with y|y
    ·exact hb r y z hz
    ·rw [agj.mp y] at hz
     simp only [agq,not_mem_nil,or_false] at hz
     rcases hz with rfl|rfl|rfl|rfl|rfl <;> exact Lz Wb hm9
  obtain ⟨o4,o5,o6,o7,xs,rs,rfl,sn,mx,hr,lr,h5,hb⟩:=hP
  have lr:rs.length=6:=lr
  have lx:=hr.length
  have hcm:∀ c:Int,Nl c (2*mo+1):=fun c=>⟨by lia,by lia⟩
  have Bx:=sn.seq ha
  walk_at "w"
  refine ke (n:=6) (fun x=>.int (cs.getD (3*x.toNat+2) 0 / (2*mo+1))) [some (.ref a),some (.int mo)] rfl (by decide) (fun x CO Qd hx s' kd=>?_) (fun l3 H3 n3 s3 m3=>?_)
  ·have e2:t6 (cs.map V.int) (3*(x:Int)+2)=some (.int (cs.getD (3*x+2) 0)):=by
    rw [show 3*(x:Int)+2=((3*x+2:Nat):Int) by lia]
    exact aH (int_at (by have:x<6:=hx;lia))
   have hcx:=hcm (cs.getD (3*x+2) 0)
   walk_at "w"
   refine bK (s'.seq Bx) e2 ?_
   walk_at "w"
   exact kd _ (aj.refl _)
  have e3:(List.range 6).map (fun (x:Nat)=>V.int (cs.getD (3*(x:Int).toNat+2) 0 / (2*mo+1)))=((List.range 6).map fun x=>cs.getD (3*x+2) 0 / (2*mo+1)).map V.int:=by rw [agE];rfl
  rw [e3] at m3
  have lg:((List.range 6).map fun x=>cs.getD (3*x+2) 0 / (2*mo+1)).length=6:=by rw [agm,agx]
  generalize ((List.range 6).map fun x=>cs.getD (3*x+2) 0 / (2*mo+1))=gs at m3 lg
  have Y2:=s3 _ _ mx
  have Y3:=hr.same s3
  walk_at "w"
  refine zC (K:=K) (n:=6) [some (.ref l2),some (.ref l3)] (fun i k=>k.1∈rs/\(k.2=0\/2<=k.2)/\k.2<=9999) rfl (by decide) (fun i CO Qd hi s' kd=>?_) (fun l4 H4 Pd ks n4 s4 m4 k4 lk4 hk4=>?_)
  ·obtain ⟨ar,r,ex,Y4,Y5⟩:=Y3.get (i:=i) (agg (by lia))
   have gx:xs[i]?=some (.ref ar):=(agg _).trans (congrArg some ex)
   have eg:t6 (gs.map V.int) (i:Int)=some (.int (gs.getD i 0)):=aH (int_at (by lia))
   generalize gs.getD i 0=g at eg
   have GI:=agl Y5
   walk_at "w"
   refine bK (aW.of (s' _ _ Y2)) (aH gx) ?_
   walk_at "w"
   refine bK (aW.of (s' _ _ m3)) eg ?_
   walk_at "w"
   refine bK (aW.of (s' _ _ m3)) eg ?_
   walk_at "w"
   rename_i p5 H5 s5 m5
   refine kd p5 ar (r,g % 2*(if g / 2 % 10000 > 2 then g / 2 % 10000 else 2)) H5 s5 (aZ.of m5) ((s'.trans s5).at Y4) ⟨GI,?_⟩
   have hgp:g % 2=0\/g % 2=1:=by lia
   show (g % 2*(if g / 2 % 10000 > 2 then g / 2 % 10000 else 2)=0\/2<=g % 2*(if g / 2 % 10000 > 2 then g / 2 % 10000 else 2))/\g % 2*(if g / 2 % 10000 > 2 then g / 2 % 10000 else 2)<=9999
   rcases hgp with e|e
   ·rw [e,zero_mul]
    exact⟨.inl rfl,by decide⟩
   ·rw [e,Int.one_mul]
    split
    ·exact⟨.inr (by lia),by lia⟩
    ·exact⟨.inr (by lia),by lia⟩
  obtain ⟨n,hn⟩:∃ n:Nat,hd / 4 % 7=n:=⟨(hd / 4 % 7).toNat,by lia⟩
  have Qk:n<=6:=by lia
  have lky:=k4.length
  walk_at "w"
  rw [hn]
  refine og (aW.of m4) fun l5 H5 n5 s5 m5=>?_
  rw [CZ] at m5
  have k5:=(yO n k4).same s5
  have Fj:∀ k∈ks.take n,k.1∈rs/\(k.2=0\/2<=k.2)/\k.2<=9999:=fun k hk=>by
   obtain ⟨i,hi,e⟩:=agS (agQ hk)
   exact hk4 i k (by rw [agg hi,e])
  have Ud:(ks.take n).length<=6:=by rw [agA];lia
  have lyt:(Pd.take n).length=(ks.take n).length:=k5.length.symm
  generalize ks.take n=qs at k5 Fj Ud lyt
  generalize Pd.take n=zs5 at m5 k5 lyt
  have QJ:=s4.trans s5
  have Wi:=QJ _ _ Y2
  have MW:=Y3.same QJ
  have Ue:aj H H5:=(sn.trans s3).trans QJ
  have yU:bH K H5:=hT.same Ue
  have CH:∀ r∈rs,bf 9999 r:=fun r ua=>mS fun z hz=>hb r ua z hz
  clear m4 k4 mx Y2 hr Y3 m3
  walk_at "w"
  refine aX (fun h=>?_) (fun h=>?_)
  ·walk_at "w"
   rw [hn]
   refine og (aW.of Wi) fun l6 H6 n6 s6 m6=>?_
   rw [CZ] at m6
   have r6:=(sF n MW).same s6
   have lrt:(rs.take n).length<=6:=by rw [agA];lia
   have Y6:Len 5 (rs.take n):=fun v hv=>h5 v (agQ hv)
   have Y7:∀ v∈rs.take n,bf (2 ^ 14) v:=fun v hv=>(CH v (agQ hv)).mono (by decide)
   have EF:bH K H6:=yU.same s6
   walk_at "w"
   intro x1 jB nA iE z8
   have dg:=eN (C:=G.aK) nA iE
   refine eF (b:=14) ⟨T.bB,aw,aW.of (dg _ _ m6),(r6).same dg,lrt,Y6,Y7,by decide,(EF).same dg⟩ fun iw wJ Jo Dn mB Dp Dq sZ Pj wK wL nB gX=>⟨rfl,?_⟩
   have jk:=zD (o:=.ins G.aK jB [("steps",.ref iw)]) nA iE Dp
   have nC:=va (o:=.ins G.aK jB [("steps",.ref iw)]) Dq gX
   have Pk:iw≠x1:=fun z=>by rw [z,gX] at sZ;cases sZ
   have qZ:=qE (o:=[]) T.bB gX sZ Pj
   have wM:Tu.ok (.comma Dn):=⟨wK,nB,fun v hv=>(SF.D7 wK nB Y6 wL Y7 v hv).mono (agt (by decide) (by decide))⟩
   have Dr:=jy.comma wM wL
   have lY:=dg.new mB
   generalize upd wJ x1 (.ins G.aK jB [("steps",.ref iw)])=pk at jk nC qZ
   walk_at "w"
   rw [hn]
   have mx7:=jk.lst EF (s6 _ _ Wi)
   refine og (aW.of mx7) fun l7 H7 n7 s7 m7=>?_
   rw [CZ] at m7
   have r7:=(sF n ((MW.same s6).eU jk EF)).same s7
   walk_at "w"
   rename_i p8 H8 s8 m8
   have Dd:=s7.trans s8
   exact k p8 x1 iw l7 H8 _ _ (rs.take n) (((bc.of (Ue.trans s6)).trans jk).trans (bc.of Dd)) (nC.same Dd) (aZ.of m8) (qZ.same Dd) (s8 _ _ m7) (r7.same s8) lrt Y6 (fun v hv=>(Y7 v hv).mono (agt (by decide) (by decide))) Dr
  ·walk_at "w"
   refine aX (fun h1=>?_) (fun h1=>?_)
   ·have Pg:Tu.ok (.key qs):=⟨Ud,fun q hq=>(Fj q hq).2.1,fun q hq=>⟨h5 _ (Fj q hq).1,(CH _ (Fj q hq).1).mono (by decide),by have:=(Fj q hq).2;exact af0 (show q.2.natAbs<=9999 by lia) (by decide)⟩⟩
    walk_at "w"
    intro x1 jB nA iE z8
    have dg:=eN (C:=G.aV) nA iE
    refine d4 ⟨.inl T.bO,aw,aW.of (dg _ _ m5),(k5).same dg,Ud,Pg.2.1⟩ fun iw wJ mB z9 sZ=>⟨rfl,?_⟩
    have gX:=z9 _ _ (aw (H:=upd H5 jB (.own x1)) (a:=x1) (o:=.ins G.aV jB []))
    have iW:aj H5 (upd wJ x1 (.ins G.aV jB [("own_keys",.ref iw)])):=fun b o e=>by
     rw [aG (fun z=>by rw [z,nA] at e;cases e)]
     exact z9 _ _ (dg _ _ e)
    have qZ:=zE (o:=[]) T.bO gX sZ ((k5).same (dg.trans z9))
    have lY:=dg.new mB
    generalize upd wJ x1 (.ins G.aV jB [("own_keys",.ref iw)])=pk at iW qZ
    walk_at "w"
    refine wd ⟨aW.of (iW _ _ m5),k5.same iW,Ud,fun q hq=>⟨h5 _ (Fj q hq).1,(CH _ (Fj q hq).1).mono (by decide),by have:=(Fj q hq).2;lia,by have:=(Fj q hq).2;lia⟩⟩ fun l7 H7 QC st n7 s7 m7 r7 hL=>?_
    walk_at "w"
    rename_i p8 H8 s8 m8
    have Dd:=s7.trans s8
    have Pm:=iW.trans Dd
    exact k p8 x1 iw l7 H8 _ _ st (bc.of (Ue.trans Pm)) (yU.same Pm) (aZ.of m8) (qZ.same Dd) (s8 _ _ m7) (r7.same s8) (le_succ_of_le hL.c) hL.len (fun v hv=>(hL.bd v hv).mono (agt (by decide) (ll6 Ud))) ((jy.key Pg).MM fun x hx=>⟨fun z=>(hL.all x).mpr ⟨hx,z⟩,fun z=>((hL.all x).mp z).2⟩)
   ·walk_at "w"
    refine aX (fun h2=>?_) (fun h2=>?_)
    ·obtain ⟨ar,r,ex,Y4,Y5⟩:=MW.get (i:=0) (agg (by lia))
     have gx:xs[0]?=some (.ref ar):=(agg _).trans (congrArg some ex)
     have GI:=agl Y5
     have BJ:=hb r GI
     have Pe:=h5 r GI
     obtain ⟨w0,w1,w2,w3,w4,rfl⟩:=nM Pe
     walk_at "w"
     refine bK (aW.of Wi) (aH gx) ?_
     walk_at "w"
     rename_i p6 H6 s6 m6
     refine bK (aW.of (s6 _ _ Wi)) (aH gx) ?_
     walk_at "w"
     refine yK (s6.at Y4) fun p7 H7 s7 m7=>?_
     rw [show iQ ([w0,w1,w2,w3,w4].map V.int) (some 1) none=[w1,w2,w3,w4].map V.int from rfl] at m7
     have Dt:=s6.trans s7
     generalize ew:1+(if w0<0 then -w0 else w0)=wz at m6
     refine zt (aZ.of (s7 _ _ m6)) m7 (by simp) (by simp) (by simp) fun p8 H8 s8 m8=>?_
     have m8':aZ K H8 p8 ([wz,w1,w2,w3,w4].map V.int):=aZ.of m8
     have hwz:1<=wz/\wz<=10000:=by
      have:=BJ w0 (by simp)
      split at ew <;> lia
     have bw:bf 10000 [wz,w1,w2,w3,w4]:=mS fun z hz=>by
      have h1:=BJ w1 (by simp)
      have h2:=BJ w2 (by simp)
      have h3:=BJ w3 (by simp)
      have h4:=BJ w4 (by simp)
      simp only [agq,not_mem_nil,or_false] at hz
      rcases hz with rfl|rfl|rfl|rfl|rfl <;> lia
     have Pm:=Dt.trans s8
     clear m6 m7
     walk_at "w"
     refine Eo ?_
     walk_at "w"
     intro x1 jB nA iE z8
     have dg:=eN (C:=G.bX) nA iE
     refine qN (w:=[wz,w1,w2,w3,w4]) ⟨T.eR,aw,dg.at (m8'),rfl⟩ ⟨fun z=>absurd z (by show ¬ wz<1;lia),fun _ iw wJ Jo mB z9 sZ YA gX=>⟨rfl,?_⟩⟩
     have qZ:=Bh (a:=[("own_keys",.ref iw)]) T.eR gX sZ YA
     have iW:=v8 (o:=.ins G.bX jB [("own_keys",.ref iw)]) (o':=.ins G.bX jB [("own_keys",.ref iw),("octave",.int (([wz,w1,w2,w3,w4]).getD 0 0))]) nA iE z9
     generalize upd (upd wJ x1 (.ins G.bX jB [("own_keys",.ref iw)])) x1 (.ins G.bX jB [("own_keys",.ref iw),("octave",.int (([wz,w1,w2,w3,w4]).getD 0 0))])=pk at qZ iW
     walk_at "w"
     rename_i p9 H9 s9 m9 Wj CA n10 Cb TR
     have Ug:=s9.trans Cb
     have kk:bx K CA [.ref p9] [([wz,w1,w2,w3,w4],0)]:=.cons (Cb.at (aZ.of m9)) ((iW.trans Ug).at m8') .nil
     refine wd ⟨aW.of TR,kk,agO rfl,fun q hq=>by rw [agj.mp hq];exact⟨rfl,bw.mono (by decide),Int.le_refl _,(show (0:Int)<=16384 from by decide)⟩⟩ fun O8 RG Gf st n11 E7 TU O9 hL=>?_
     walk_at "w"
     rename_i QD Ym ou GO
     have Uh:=E7.trans ou
     have Ui:=Ug.trans Uh
     have Dc:=Pm.trans (iW.trans Ui)
     exact k QD x1 iw O8 Ym _ _ st (bc.of (Ue.trans Dc)) (yU.same Dc) (aZ.of GO) (qZ.same Ui) (ou _ _ TU) (O9.same ou) (le_succ_of_le hL.c) hL.len (fun v hv=>(hL.bd v hv).mono (agt (by decide) (ll6 (agO rfl)))) ((jy.eO ⟨rfl,bw.mono (by decide)⟩).MM fun x hx=>⟨fun z=>(hL.all x).mpr ⟨hx,z⟩,fun z=>((hL.all x).mp z).2⟩)
    ·walk_at "w"
     refine (show CV G.dJ _ H5 _ from fun xp dp T4 YB nep=>?_)
     have sp:=eN (C:=G.dJ) T4 YB
     have tp:cv K (upd (upd H5 dp (.own xp)) xp (.ins G.dJ dp [])) xp xp .plain:=⟨_,_,T.je,aw⟩
     generalize upd (upd H5 dp (.own xp)) xp (.ins G.dJ dp [])=H6 at sp tp ⊢
     walk_at "w"
     rename_i l7 H7 n7 s7 m7 p8 H8 s8 m8
     have Dd:=s7.trans s8
     exact k p8 xp xp l7 H8 _ [] [] (bc.of ((Ue.trans sp).trans Dd)) ((yU.same sp).same Dd) (aZ.of m8) (tp.same Dd) (s8 _ _ m7) .nil (agM _) (fun _ z=>nomatch z) (fun _ z=>nomatch z) (jy.plain.MM fun x hx=>⟨fun z=>by rw [z];exact Span.zero,fun z=>z.none⟩)
theorem Pt:aN ["_law_script","_law_cells_here","_law_one","_law_ones","_law_other","_law_others"] ["_law_script"] (ag qz):=⟨rfl,rfl,rfl,by decide +kernel,rfl,by decide +kernel,by decide +kernel⟩
structure Pu(P:Program)(w:World)(K:Frag)(mg:Str->Option Value)(base:Heap)(G:kY):Prop where
 Gk:Ok P w K mg base 1 "_law_cells" ["_law_script"] (kZ K)
 wO:Ok P w K mg base 43 "_law_built_hold" ["_law_cells_here"] (gE K)
 EH:Ok P w K mg base 68 "_law_any" ["_law_cells_here","_law_head"] (oX K)
 Dx:Ok P w K mg base 1 "_law_joined" ["_law_rows"] (j1 K)
 rB:Ok P w K mg base 42 "_law_any_held" ["_law_one","_law_other","_law_ones","_law_others"] (iC K)
 d6:oi P w K mg base 38 G.cK ["self","commas"] (cU K)
theorem Pw {f:Addr} {fd:FuncData} (F:Mm K "law" "law" qz f fd) (T:Txt K mg G) (O:Pu P w K mg base G) (Y:base.NoSeer/\P.given.tree=none):oJ P w K mg base GB 69 f fd ["_law_script"] ((CS "parted" Tf "parted.<locals>.<lambda>") K):=by
 have S:=Pt
 refine F.ok S (fun vs H Q E h=>?_) (fun dh A outer s H vs Q E hr h=>?_)
 ·obtain ⟨_,_,rfl,_⟩:=h;rfl
 ·obtain ⟨a,ns,rfl,hS,hlen,hT,k⟩:=h
  have hu:=bG hr
  have aI:=T.aI
  have bj:=T.bj
  have aE:=T.aE
  have au:=T.au
  have aO:=T.aO
  have ao:=T.ao
  have bC:=T.bC
  have aB:=T.aB
  have aF:=T.aF
  refine⟨_,(ah (aU (i:=1) S.nd rfl (Or.inl rfl) (ba O.Gk (hr.mono (by decide)) (aa (pv 0) af))) (ah (b9 (aM dH (ay bD (aR (aC K rfl) (pv 1) ae (fun _ _=>rfl)) ae) ae (aQ _)) (ai (aS (ba O.wO (hr.mono (by decide)) (aa (pv 1) af)))) bA) (ah (jR (ba O.EH (hr.mono (by decide)) (aa (dI (fA K rfl) (pv 1) (cR ae) (cR ae)) (aa (aR (aC K rfl) (pv 1) ae (fun _ _=>rfl)) af))) (fD (n:=2) K rfl rfl (bP (aD (i:=2) S.nd rfl (Or.inl rfl)) (bP (aD (i:=3) S.nd rfl (Or.inl rfl)) fC)))) (ah (jR (ba O.EH (hr.mono (by decide)) (aa (dI (fA K rfl) (pv 1) (cR ae) (cR ae)) (aa (ay cD (aR (aC K rfl) (pv 1) ae (fun _ _=>rfl)) ae) af))) (fD (n:=2) K rfl rfl (bP (aD (i:=4) S.nd rfl (Or.inl rfl)) (bP (aD (i:=5) S.nd rfl (Or.inl rfl)) fC)))) (ah (b9 (PW.pt (i4 (aM dH (ay bD (aR (aC K rfl) (pv 1) ae (fun _ _=>rfl)) ae) ae (aQ _)) (hG (mE (bu (zv K rfl rfl) rfl T.Eu boot_all (aa (bQ (N:=["_law_number"]) (ix:=[none]) rfl (bh K rfl (ba O.Dx (hr.mono (by decide)) (aa (pv 3) af))) (fun _ _ _ _ _=>(aD (i:=0) (show jz ["_law_number"] by decide +kernel) rfl (Or.inl rfl))) (fun _ _ _ _ _=>rfl) (fun _ _ _ _ _=>(fo vo (bu ki rfl T.Bj boot_abs (aa (pv 0) af)) (ay GZ ae ae) (aQ _))) rfl (by decide +kernel) (by decide +kernel) rfl True.intro) af)))))) (ah (aU (i:=4) S.nd rfl (Or.inl rfl) (Bb O.d6 T.jW (hr.mono (by decide)) rfl T.jV (aa (pv 3) af))) (ai (aU (i:=5) S.nd rfl (Or.inl rfl) (pv 3)))) bA) (ai (aS (vk (ba O.rB (hr.mono (by decide)) (aa (pv 2) (aa (pv 4) (aa (pv 3) (aa (pv 5) af))))) (vj (ba O.rB (hr.mono (by decide)) (aa (pv 4) (aa (pv 2) (aa (pv 5) (aa (pv 3) af)))))))))))))),?_⟩
  walk_at "w"
  refine Bt hS fun l1 H1 cs n1 s1 m1 Qu=>?_
  have Uj:aW K H1 l1 (cs.map V.int):=aW.of m1
  have Y8:t6 (cs.map V.int) 1=some (.int (cs.getD 1 0)):=aH (j:=1) (int_at (by lia))
  have ea2:t6 (cs.map V.int) 2=some (.int (cs.getD 2 0)):=aH (j:=2) (int_at (by lia))
  have Uk:t6 (cs.map V.int) 39=some (.int (cs.getD 39 0)):=aH (j:=39) (int_at (by lia))
  generalize cs.getD 1 0=g1 at Y8
  generalize cs.getD 2 0=g2 at ea2
  generalize cs.getD 39 0=g39 at Uk
  have vg:=hT.same s1
  walk_at "w"
  refine bK Uj Y8 ?_
  walk_at "w"
  refine aX (fun h=>?_) (fun h=>?_)
  ·walk_at "w"
   exact sR ⟨Uj,Qu,vg⟩ fun H'=>k H'
  walk_at "w"
  refine og Uj fun l2 H2 n2 s2 m2=>?_
  obtain ⟨Tz,TB,lc1⟩:=sy (ns:=cs) (a:=3) (b:=21) (by decide) (by lia)
  rw [show iQ (cs.map V.int) (some 3) (some 21)=Tz.map V.int from TB] at m2
  have YJ:=s2.seq Uj
  walk_at "w"
  refine bK YJ ea2 ?_
  walk_at "w"
  refine yR ⟨aW.of m2,by lia,vg.same s2⟩ fun p3 x lx lr H3 u ys rs vf ow mp3 tx mr rr c6 l5 bd Ce=>?_
  have Y9:=(bc.of s2).trans vf
  have TJ:=Y9.seq vg Uj
  walk_at "w"
  refine jF mp3 ?_
  walk_at "w"
  refine og TJ fun l4 H4 n4 s4 m4=>?_
  obtain ⟨TC,TF,lc2⟩:=sy (ns:=cs) (a:=21) (b:=39) (by decide) (by lia)
  rw [show iQ (cs.map V.int) (some 21) (some 39)=TC.map V.int from TF] at m4
  have ha4:=s4.seq TJ
  walk_at "w"
  refine bK ha4 Y8 ?_
  walk_at "w"
  refine yR ⟨aW.of m4,by lia,ow.same s4⟩ fun p5 y ly lq H5 v zs qs Pl yU mp5 ty mq rq Ul Um Uo Up=>?_
  have LV:=(bc.of s4).trans Pl
  have tx5:=tx.keep ow LV
  have Za:=LV.lst ow mr
  have Zb:=rr.eU LV ow
  have Yv:=LV.seq ow TJ
  clear mp3 m2 m4
  walk_at "w"
  refine jF mp5 ?_
  walk_at "j"
  refine join (fun σ' H'=>∃ (y ly lq:Addr) (v:Tu) (zs:List V) (qs:List (List Int)),σ'=[some (.ref a),some (.ref l1),some (.ref x),some (.ref lr),some (.ref y),some (.ref lq)]/\jd K H5 H'/\bH K H'/\cv K H' y ly v/\H' lq=some (.lst zs)/\av K H' zs qs/\qs.length<=6/\Len 5 qs/\(∀ v∈qs,bf (2 ^ 33488) v)/\jy v (fun z=>Span 5 qs z)) (fun nx EB=>?_) (fun σ' H' hP=>?_)
  ·have fin:=EB _ _ ⟨y,ly,lq,v,zs,qs,rfl,bc.refl,yU,ty,mq,rq,Ul,Um,Uo,Up⟩
   walk_at "w"
   refine bK Yv Uk ?_
   walk_at "w"
   refine aX (fun h8=>?_) (fun h8=>?_)
   ·walk_at "w"
    refine zL (aW.of Za) Zb c6 l5 fun l6 H6 n6 s6 m6=>?_
    walk_at "w"
    refine CD (r:=rs.flatten) (fun x=>.bl (decide ((if x<0 then -x else x)<10 ^ Int.toNat 25))) [] rfl (aW.of m6) (by rw [Th l5];lia) (fun x H' Qc hx s kc=>?_) (fun l7 H7 n7 s7 m7=>?_)
    ·walk_at "w"
     exact kc _ (aj.refl _)
    have e7:rs.flatten.map (fun x=>V.bl (decide ((if x<0 then -x else x)<10 ^ Int.toNat 25)))=(rs.flatten.map fun x=>decide ((if x<0 then -x else x)<10 ^ Int.toNat 25)).map V.bl:=by rw [agE];rfl
    rw [e7] at m7
    have Dt:=s6.trans s7
    have Po:bH K H7:=yU.same Dt
    have eT:(rs.flatten.map fun x=>decide ((if x<0 then -x else x)<(10:Int) ^ Int.toNat 25)).all id=true->∀ v∈rs,bf (2 ^ 84) v:=fun hh=>FR fun z hz=>by
     have:=all_eq_true.mp hh _ (agr.mpr ⟨z,hz,rfl⟩)
     have h2:=af7 this
     have e25:(10:Int) ^ Int.toNat 25=((10 ^ 25:Nat):Int):=by decide
     rw [e25] at h2
     split at h2 <;> lia
    have Zc:=EB _ _ ⟨y,ly,lq,v,zs,qs,rfl,bc.of Dt,Po,ty.same Dt,Dt _ _ mq,rq.same Dt,Ul,Um,Uo,Up⟩
    walk_at "w"
    refine Ee (aW.of m7) ?_
    refine⟨_,rfl,?_⟩
    have mr7:=Dt _ _ Za
    have rr7:=Zb.same Dt
    refine aX (fun h9=>?_) (fun h9=>?_)
    ·have b84:=eT h9
     walk_at "w"
     intro x1 jB nA iE z8
     have dg:=eN (C:=G.aK) nA iE
     refine eF (b:=84) ⟨T.bB,aw,aW.of (dg _ _ mr7),(rr7).same dg,c6,l5,b84,by decide,(Po).same dg⟩ fun iw wJ Jo Dn mB Dp Dq sZ Pj wK wL nB gX=>⟨rfl,?_⟩
     have jk:=zD (o:=.ins G.aK jB [("steps",.ref iw)]) nA iE Dp
     have nC:=va (o:=.ins G.aK jB [("steps",.ref iw)]) Dq gX
     have Pk:iw≠x1:=fun z=>by rw [z,gX] at sZ;cases sZ
     have qZ:=qE (o:=[]) T.bB gX sZ Pj
     have wM:Tu.ok (.comma Dn):=⟨wK,nB,fun v hv=>(SF.D7 wK nB l5 wL b84 v hv).mono (agt (by decide) (by decide))⟩
     have Dr:=jy.comma wM wL
     have lY:=dg.new mB
     generalize upd wJ x1 (.ins G.aK jB [("steps",.ref iw)])=pk at jk nC qZ
     walk_at "w"
     exact EB _ _ ⟨x1,iw,lr,_,ys,rs,rfl,(bc.of Dt).trans jk,nC,qZ,jk.lst Po mr7,rr7.eU jk Po,c6,l5,bd,Dr⟩
    ·walk_at "w"
     exact Zc
   ·walk_at "w"
    refine gj rfl ?_
    walk_at "w"
    exact fin
  obtain ⟨y,ly,lq,v,zs,qs,rfl,MX,EF,ty,mq,rq,Ul,Um,Uo,Up⟩:=hP
  have tx6:=tx5.keep yU MX
  have mr6:=MX.lst yU Za
  have rr6:=Zb.eU MX yU
  walk_at "w"
  refine nq ⟨tx6,Ce,ty,Up,aW.of mr6,rr6,c6,l5,bd,aW.of mq,rq,Ul,Um,Uo,EF⟩ fun H9 Cg MY=>?_
  refine⟨_,rfl,?_⟩
  refine yC rfl ?_
  walk_at "w"
  refine nq ⟨ty.keep EF Cg,Up,tx6.keep EF Cg,Ce,aW.of (Cg.lst EF mq),rq.eU Cg EF,Ul,Um,Uo,aW.of (Cg.lst EF mr6),rr6.eU Cg EF,c6,l5,bd,MY⟩ fun CA T9 Ua=>?_
  exact k CA
end
set_option maxHeartbeats 2000000
theorem all_mk {l:OpenLaw} {w:World} {K:Frag} {h:Heap} {mg:Str->Option Value} {fa:Addr} (X:K.In h) (G0:h.Ns mainGlobals mg) (Uq:l.prog.given.tree=none) (hfa:mg "law"=some (.ref fa)) {oj Ju:Addr} (Qq:tabIn K "parted"=some (oj,Ju)) {f0 f1 f2 f3 f4 f5 f6 f7 f8 f9 Zd Ze Zf Zg Zh Zi Zj Zk Zl Zm Zn Zo Zp Zq Zr Zs Zt Zu Zv Zw Zx Zy Zz ZA ZC ZD ZE ZF ZG ZH ZI ZJ ZK ZL ZM ZN Px JW Py Pz PB PC MZ PD M0 PF PH:Addr} {od0 an0 od1 an1 od2 an2 od3 an3 od4 an4 od5 an5 od6 an6 od7 an7 od8 an8 od9 an9 ZO ZP ZQ ZR ZS ZT ZU ZV ZW ZX ZY ZZ Z0 Z1 Z2 Z3 Z4 Z5 Z6 Z7 Z8 Z9 aaa aab aac aad aae aaf aag aah aai aaj aak aal aam aan aao aap aaq aar aas aat aau aav aaw aax aay aaz aaA aaB aaC aaD aaE aaF aaG aaH aaI aaJ aaK aaL aaM aaN aaO aaP aaQ aaR aaS aaT aaU aaV aaW Ur aaX aaY aaZ aa0 aa1 aa2 aa3 aa4 aa5 aa6 aa7 aa8 aa9 aba abb abc abd abe abf abg abh abi:Option Addr} {sl0 sl1 Vs sl3 sl4 sl5 sl6 sl7 sl8 sl9 abj abk abl abm abn abo abp abq abr abt abu abv abw abx aby abz abA abB abC abD abE abF abG abH abI abJ abK abL abM abN abO abP abQ abR abS abT abU abV abW abX abY abZ ab0 ab1 ab2 ab3 ab4:Array (Option Value)} {oc0 kV0 dc0 pm0 cd0 ct0 oc1 kV1 dc1 pm1 cd1 ct1 oc2 kV2 dc2 pm2 cd2 ct2 oc3 kV3 dc3 pm3 cd3 ct3 oc4 kV4 dc4 pm4 cd4 ct4 oc5 kV5 dc5 pm5 cd5 ct5 oc6 kV6 dc6 pm6 ct6 oc7 kV7 dc7 pm7 cd7 ct7 oc8 kV8 dc8 pm8 cd8 ct8 oc9 kV9 dc9 pm9 cd9 ct9 ab5 ab6 ab7 ab8 Us ab9 aca acb acd ace Ut acf acg ach aci acj Uu ack acm acn aco acp Uv acq acr acs acu acv Uw acw acx acy acz acA Ux acB acC acD acE acF Uy acG acH acI acJ acK Uz acL acM acN acO acP UA acQ acR acS acT acU UB acV acW acX acY acZ UC ac0 ac1 ac2 ac3 ac4 UD ac5 ac6 ac7 ac8 ac9 UE ada adb ade adf adg UG adh adi adj adk adl UH adm adn ado adp adq UI ads adt adu adv adw UJ adx ady adz adA adB UK adC adD adE adF adG UL adH adI adJ adK adL UM adM adN adO adP adQ UN adR adS adT adU adV UO adW adX adY adZ ad0 UP ad1 ad2 ad3 ad4 ad5 UQ ad6 ad7 ad8 ad9 aea UR aeb aec aed aee aef US aeg aeh aei aej aek UT ael aem aen aeo aep UU aeq aer aes aet aeu UW aev aew aex aey aez UX aeA aeB aeC aeD aeE UY aeF aeG aeH aeI aeJ UZ aeK aeL aeM aeN aeO U0 aeP aeQ aeR aeS aeT U1 aeU aeV aeW aeX aeY U2 aeZ ae0 U3 U4 U5 PL U6 ae1 ae2 ae3 ae4 U7 ae5 ae6 ae7 ae8 ae9 U8 afa afb afc afd afe U9 aff afg afh afi afj Va afk afl afm afn afo Vb afp afq afr afs aft Vc afu afv afw afx afy Vd afz afA afB afC afD Ve afE afF afG afH afI Vf afJ afK afL afM afN Vg afO afP afQ afR afS Vh afT:Value} {cQ:Addr} {bt:Addr} {bz:Addr} {dB:Addr} {Jv:Addr} {PM:Option Addr} {PN:Nat} {PQ:Array (Option Value)} {PR PU PX PY PZ:Tok} {ie:Tok} {jH:Tok} {vd:Tok} {eJ:Addr} {Dy:ClassData}
     (rC:nsIn K mainGlobals "Tuning"=some (some (.ref cQ))) (il:nsIn K mainGlobals "CommaTuning"=some (some (.ref bt))) (jP:nsIn K mainGlobals "KeyTuning"=some (some (.ref bz))) (vh:nsIn K mainGlobals "Board"=some (some (.ref dB)))
 (a0:nsIn K mainGlobals "over"=some (some (.ref f0))) (l0:K.lookup f0=some ⟨oc0,od0,.func (fnOf "over" "over" (aP oR) (aJ oR) (ag oR) .none kV0 dc0 pm0 an0 cd0 ct0),sl0⟩) (c0:codeIn K cd0 "over"=true) (k0:keepIn K (.ref f0)=true)
 (a1:nsIn K mainGlobals "power"=some (some (.ref f1))) (l1:K.lookup f1=some ⟨oc1,od1,.func (fnOf "power" "power" (aP kR) (aJ kR) (ag kR) .none kV1 dc1 pm1 an1 cd1 ct1),sl1⟩) (c1:codeIn K cd1 "power"=true) (k1:keepIn K (.ref f1)=true)
 (a2:nsIn K mainGlobals "checked_commas"=some (some (.ref f2))) (l2:K.lookup f2=some ⟨oc2,od2,.func (fnOf "checked_commas" "checked_commas" (aP cF) (aJ cF) (ag cF) .none kV2 dc2 pm2 an2 cd2 ct2),Vs⟩) (c2:codeIn K cd2 "checked_commas"=true) (k2:keepIn K (.ref f2)=true)
 (a3:nsIn K mainGlobals "unit"=some (some (.ref f3))) (l3:K.lookup f3=some ⟨oc3,od3,.func (fnOf "unit" "unit" (aP oS) (aJ oS) (ag oS) .none kV3 dc3 pm3 an3 cd3 ct3),sl3⟩) (c3:codeIn K cd3 "unit"=true) (k3:keepIn K (.ref f3)=true)
 (a4:nsIn K mainGlobals "lead_place"=some (some (.ref f4))) (l4:K.lookup f4=some ⟨oc4,od4,.func (fnOf "lead_place" "lead_place" (aP ei) (aJ ei) (ag ei) .none kV4 dc4 pm4 an4 cd4 ct4),sl4⟩) (c4:codeIn K cd4 "lead_place"=true) (k4:keepIn K (.ref f4)=true)
 (a5:nsIn K mainGlobals "lowered"=some (some (.ref f5))) (l5:K.lookup f5=some ⟨oc5,od5,.func (fnOf "lowered" "lowered" (aP gO) (aJ gO) (ag gO) .none kV5 dc5 pm5 an5 cd5 ct5),sl5⟩) (c5:codeIn K cd5 "lowered"=true) (k5:keepIn K (.ref f5)=true)
 (a6:nsIn K mainGlobals "parted"=some (some (.ref f6))) (l6:K.lookup f6=some ⟨oc6,od6,.func (fnOf "parted" "parted" (aP jb) (aJ jb) (ag jb) .none kV6 dc6 pm6 an6 (.ref oj) ct6),sl6⟩) (c6:codeIn K (.ref oj) "parted"=true) (k6:keepIn K (.ref f6)=true)
 (a7:nsIn K mainGlobals "stepped"=some (some (.ref f7))) (l7:K.lookup f7=some ⟨oc7,od7,.func (fnOf "stepped" "stepped" (aP gP) (aJ gP) (ag gP) .none kV7 dc7 pm7 an7 cd7 ct7),sl7⟩) (c7:codeIn K cd7 "stepped"=true) (k7:keepIn K (.ref f7)=true)
 (a8:nsIn K mainGlobals "table"=some (some (.ref f8))) (l8:K.lookup f8=some ⟨oc8,od8,.func (fnOf "table" "table" (aP kT) (aJ kT) (ag kT) .none kV8 dc8 pm8 an8 cd8 ct8),sl8⟩) (c8:codeIn K cd8 "table"=true) (k8:keepIn K (.ref f8)=true)
 (a9:nsIn K mainGlobals "left_by"=some (some (.ref f9))) (l9:K.lookup f9=some ⟨oc9,od9,.func (fnOf "left_by" "left_by" (aP gQ) (aJ gQ) (ag gQ) .none kV9 dc9 pm9 an9 cd9 ct9),sl9⟩) (c9:codeIn K cd9 "left_by"=true) (k9:keepIn K (.ref f9)=true)
 (a10:nsIn K mainGlobals "heard"=some (some (.ref Zd))) (Wj:K.lookup Zd=some ⟨ab5,ZO,.func (fnOf "heard" "heard" (aP kU) (aJ kU) (ag kU) .none ab6 ab7 ab8 ZP Us ab9),abj⟩) (c10:codeIn K Us "heard"=true) (k10:keepIn K (.ref Zd)=true)
 (a11:nsIn K mainGlobals "value"=some (some (.ref Ze))) (O8:K.lookup Ze=some ⟨aca,ZQ,.func (fnOf "value" "value" (aP kW) (aJ kW) (ag kW) .none acb acd ace ZR Ut acf),abk⟩) (c11:codeIn K Ut "value"=true) (k11:keepIn K (.ref Ze)=true)
 (a12:nsIn K mainGlobals "checked_keys"=some (some (.ref Zf))) (l12:K.lookup Zf=some ⟨acg,ZS,.func (fnOf "checked_keys" "checked_keys" (aP dq) (aJ dq) (ag dq) .none ach aci acj ZT Uu ack),abl⟩) (c12:codeIn K Uu "checked_keys"=true) (k12:keepIn K (.ref Zf)=true)
 (a13:nsIn K mainGlobals "values"=some (some (.ref Zg))) (l13:K.lookup Zg=some ⟨acm,ZU,.func (fnOf "values" "values" (aP jc) (aJ jc) (ag jc) .none acn aco acp ZV Uv acq),abm⟩) (c13:codeIn K Uv "values"=true) (k13:keepIn K (.ref Zg)=true)
 (a14:nsIn K mainGlobals "lost_among"=some (some (.ref Zh))) (l14:K.lookup Zh=some ⟨acr,ZW,.func (fnOf "lost_among" "lost_among" (aP ek) (aJ ek) (ag ek) .none acs acu acv ZX Uw acw),abn⟩) (c14:codeIn K Uw "lost_among"=true) (k14:keepIn K (.ref Zh)=true)
 (a15:nsIn K mainGlobals "lost"=some (some (.ref Zi))) (l15:K.lookup Zi=some ⟨acx,ZY,.func (fnOf "lost" "lost" (aP oU) (aJ oU) (ag oU) .none acy acz acA ZZ Ux acB),abo⟩) (c15:codeIn K Ux "lost"=true) (k15:keepIn K (.ref Zi)=true)
 (a16:nsIn K mainGlobals "same_tuning"=some (some (.ref Zj))) (l16:K.lookup Zj=some ⟨acC,Z0,.func (fnOf "same_tuning" "same_tuning" (aP dP) (aJ dP) (ag dP) .none acD acE acF Z1 Uy acG),abp⟩) (c16:codeIn K Uy "same_tuning"=true) (k16:keepIn K (.ref Zj)=true)
 (a17:nsIn K mainGlobals "told_by_first"=some (some (.ref Zk))) (l17:K.lookup Zk=some ⟨acH,Z2,.func (fnOf "told_by_first" "told_by_first" (aP cS) (aJ cS) (ag cS) .none acI acJ acK Z3 Uz acL),abq⟩) (c17:codeIn K Uz "told_by_first"=true) (k17:keepIn K (.ref Zk)=true)
 (a18:nsIn K mainGlobals "apart"=some (some (.ref Zl))) (l18:K.lookup Zl=some ⟨acM,Z4,.func (fnOf "apart" "apart" (aP kX) (aJ kX) (ag kX) .none acN acO acP Z5 UA acQ),abr⟩) (c18:codeIn K UA "apart"=true) (k18:keepIn K (.ref Zl)=true)
 (a19:nsIn K mainGlobals "_law_cells"=some (some (.ref Zm))) (l19:K.lookup Zm=some ⟨acR,Z6,.func (fnOf "_law_cells" "_law_cells" (aP eV) (aJ eV) (ag eV) .none acS acT acU Z7 UB acV),abt⟩) (c19:codeIn K UB "_law_cells"=true) (k19:keepIn K (.ref Zm)=true)
 (a20:nsIn K mainGlobals "_law_near"=some (some (.ref Zn))) (l20:K.lookup Zn=some ⟨acW,Z8,.func (fnOf "_law_near" "_law_near" (aP fJ) (aJ fJ) (ag fJ) .none acX acY acZ Z9 UC ac0),abu⟩) (c20:codeIn K UC "_law_near"=true) (k20:keepIn K (.ref Zn)=true)
 (a21:nsIn K mainGlobals "_law_plus"=some (some (.ref Zo))) (l21:K.lookup Zo=some ⟨ac1,aaa,.func (fnOf "_law_plus" "_law_plus" (aP fK) (aJ fK) (ag fK) .none ac2 ac3 ac4 aab UD ac5),abv⟩) (c21:codeIn K UD "_law_plus"=true) (k21:keepIn K (.ref Zo)=true)
 (a22:nsIn K mainGlobals "_law_gathered"=some (some (.ref Zp))) (l22:K.lookup Zp=some ⟨ac6,aac,.func (fnOf "_law_gathered" "_law_gathered" (aP dr) (aJ dr) (ag dr) .none ac7 ac8 ac9 aad UE ada),abw⟩) (c22:codeIn K UE "_law_gathered"=true) (k22:keepIn K (.ref Zp)=true)
 (a23:nsIn K mainGlobals "_law_steps"=some (some (.ref Zq))) (l23:K.lookup Zq=some ⟨adb,aae,.func (fnOf "_law_steps" "_law_steps" (aP eW) (aJ eW) (ag eW) .none ade adf adg aaf UG adh),abx⟩) (c23:codeIn K UG "_law_steps"=true) (k23:keepIn K (.ref Zq)=true)
 (a24:nsIn K mainGlobals "_law_is_made"=some (some (.ref Zr))) (l24:K.lookup Zr=some ⟨adi,aag,.func (fnOf "_law_is_made" "_law_is_made" (aP dQ) (aJ dQ) (ag dQ) .none adj adk adl aah UH adm),aby⟩) (c24:codeIn K UH "_law_is_made"=true) (k24:keepIn K (.ref Zr)=true)
 (a25:nsIn K mainGlobals "_law_divisor"=some (some (.ref Zs))) (l25:K.lookup Zs=some ⟨adn,aai,.func (fnOf "_law_divisor" "_law_divisor" (aP dR) (aJ dR) (ag dR) .none ado adp adq aaj UI ads),abz⟩) (c25:codeIn K UI "_law_divisor"=true) (k25:keepIn K (.ref Zs)=true)
 (a26:nsIn K mainGlobals "_law_lost"=some (some (.ref Zt))) (l26:K.lookup Zt=some ⟨adt,aak,.func (fnOf "_law_lost" "_law_lost" (aP fL) (aJ fL) (ag fL) .none adu adv adw aal UJ adx),abA⟩) (c26:codeIn K UJ "_law_lost"=true) (k26:keepIn K (.ref Zt)=true)
 (a27:nsIn K mainGlobals "_law_pair"=some (some (.ref Zu))) (l27:K.lookup Zu=some ⟨ady,aam,.func (fnOf "_law_pair" "_law_pair" (aP fM) (aJ fM) (ag fM) .none adz adA adB aan UK adC),abB⟩) (c27:codeIn K UK "_law_pair"=true) (k27:keepIn K (.ref Zu)=true)
 (a28:nsIn K mainGlobals "_law_sizes"=some (some (.ref Zv))) (l28:K.lookup Zv=some ⟨adD,aao,.func (fnOf "_law_sizes" "_law_sizes" (aP eX) (aJ eX) (ag eX) .none adE adF adG aap UL adH),abC⟩) (c28:codeIn K UL "_law_sizes"=true) (k28:keepIn K (.ref Zv)=true)
 (a29:nsIn K mainGlobals "_law_mixed"=some (some (.ref Zw))) (l29:K.lookup Zw=some ⟨adI,aaq,.func (fnOf "_law_mixed" "_law_mixed" (aP eY) (aJ eY) (ag eY) .none adJ adK adL aar UM adM),abD⟩) (c29:codeIn K UM "_law_mixed"=true) (k29:keepIn K (.ref Zw)=true)
 (a30:nsIn K mainGlobals "_law_commas"=some (some (.ref Zx))) (l30:K.lookup Zx=some ⟨adN,aas,.func (fnOf "_law_commas" "_law_commas" (aP en) (aJ en) (ag en) .none adO adP adQ aat UN adR),abE⟩) (c30:codeIn K UN "_law_commas"=true) (k30:keepIn K (.ref Zx)=true)
 (a31:nsIn K mainGlobals "_law_mixed_keys"=some (some (.ref Zy))) (l31:K.lookup Zy=some ⟨adS,aau,.func (fnOf "_law_mixed_keys" "_law_mixed_keys" (aP cG) (aJ cG) (ag cG) .none adT adU adV aav UO adW),abF⟩) (c31:codeIn K UO "_law_mixed_keys"=true) (k31:keepIn K (.ref Zy)=true)
 (a32:nsIn K mainGlobals "_law_keys"=some (some (.ref Zz))) (l32:K.lookup Zz=some ⟨adX,aaw,.func (fnOf "_law_keys" "_law_keys" (aP fN) (aJ fN) (ag fN) .none adY adZ ad0 aax UP ad1),abG⟩) (c32:codeIn K UP "_law_keys"=true) (k32:keepIn K (.ref Zz)=true)
 (a33:nsIn K mainGlobals "_law_is_row"=some (some (.ref ZA))) (l33:K.lookup ZA=some ⟨ad2,aay,.func (fnOf "_law_is_row" "_law_is_row" (aP eA) (aJ eA) (ag eA) .none ad3 ad4 ad5 aaz UQ ad6),abH⟩) (c33:codeIn K UQ "_law_is_row"=true) (k33:keepIn K (.ref ZA)=true)
 (a34:nsIn K mainGlobals "_law_value"=some (some (.ref ZC))) (l34:K.lookup ZC=some ⟨ad7,aaA,.func (fnOf "_law_value" "_law_value" (aP eZ) (aJ eZ) (ag eZ) .none ad8 ad9 aea aaB UR aeb),abI⟩) (c34:codeIn K UR "_law_value"=true) (k34:keepIn K (.ref ZC)=true)
 (a35:nsIn K mainGlobals "_law_made"=some (some (.ref ZD))) (l35:K.lookup ZD=some ⟨aec,aaC,.func (fnOf "_law_made" "_law_made" (aP fO) (aJ fO) (ag fO) .none aed aee aef aaD US aeg),abJ⟩) (c35:codeIn K US "_law_made"=true) (k35:keepIn K (.ref ZD)=true)
 (a36:nsIn K mainGlobals "_law_all_sizes"=some (some (.ref ZE))) (l36:K.lookup ZE=some ⟨aeh,aaE,.func (fnOf "_law_all_sizes" "_law_all_sizes" (aP cT) (aJ cT) (ag cT) .none aei aej aek aaF UT ael),abK⟩) (c36:codeIn K UT "_law_all_sizes"=true) (k36:keepIn K (.ref ZE)=true)
 (a37:nsIn K mainGlobals "_law_tuning"=some (some (.ref ZF))) (l37:K.lookup ZF=some ⟨aem,aaG,.func (fnOf "_law_tuning" "_law_tuning" (aP eB) (aJ eB) (ag eB) .none aen aeo aep aaH UU aeq),abL⟩) (c37:codeIn K UU "_law_tuning"=true) (k37:keepIn K (.ref ZF)=true)
 (a38:nsIn K mainGlobals "_law_truth"=some (some (.ref ZG))) (l38:K.lookup ZG=some ⟨aer,aaI,.func (fnOf "_law_truth" "_law_truth" (aP fb) (aJ fb) (ag fb) .none aes aet aeu aaJ UW aev),abM⟩) (c38:codeIn K UW "_law_truth"=true) (k38:keepIn K (.ref ZG)=true)
 (a39:nsIn K mainGlobals "_law_held_right"=some (some (.ref ZH))) (l39:K.lookup ZH=some ⟨aew,aaK,.func (fnOf "_law_held_right" "_law_held_right" (aP cH) (aJ cH) (ag cH) .none aex aey aez aaL UX aeA),abN⟩) (c39:codeIn K UX "_law_held_right"=true) (k39:keepIn K (.ref ZH)=true)
 (a40:nsIn K mainGlobals "_law_built_hold"=some (some (.ref ZI))) (l40:K.lookup ZI=some ⟨aeB,aaM,.func (fnOf "_law_built_hold" "_law_built_hold" (aP cI) (aJ cI) (ag cI) .none aeC aeD aeE aaN UY aeF),abO⟩) (c40:codeIn K UY "_law_built_hold"=true) (k40:keepIn K (.ref ZI)=true)
 (a41:nsIn K mainGlobals "_law_two"=some (some (.ref ZJ))) (l41:K.lookup ZJ=some ⟨aeG,aaO,.func (fnOf "_law_two" "_law_two" (aP gR) (aJ gR) (ag gR) .none aeH aeI aeJ aaP UZ aeK),abP⟩) (c41:codeIn K UZ "_law_two"=true) (k41:keepIn K (.ref ZJ)=true)
 (a42:nsIn K mainGlobals "_law_any"=some (some (.ref ZK))) (l42:K.lookup ZK=some ⟨aeL,aaQ,.func (fnOf "_law_any" "_law_any" (aP gS) (aJ gS) (ag gS) .none aeM aeN aeO aaR U0 aeP),abQ⟩) (c42:codeIn K U0 "_law_any"=true) (k42:keepIn K (.ref ZK)=true)
 (a43:nsIn K mainGlobals "_law_joined"=some (some (.ref ZL))) (l43:K.lookup ZL=some ⟨aeQ,aaS,.func (fnOf "_law_joined" "_law_joined" (aP eC) (aJ eC) (ag eC) .none aeR aeS aeT aaT U1 aeU),abR⟩) (c43:codeIn K U1 "_law_joined"=true) (k43:keepIn K (.ref ZL)=true)
 (a44:nsIn K mainGlobals "_law_any_held"=some (some (.ref ZM))) (l44:K.lookup ZM=some ⟨aeV,aaU,.func (fnOf "_law_any_held" "_law_any_held" (aP du) (aJ du) (ag du) .none aeW aeX aeY aaV U2 aeZ),abS⟩) (c44:codeIn K U2 "_law_any_held"=true) (k44:keepIn K (.ref ZM)=true)
 (a45:nsIn K mainGlobals "law"=some (some (.ref ZN))) (l45:K.lookup ZN=some ⟨ae0,aaW,.func (fnOf "law" "law" (aP qz) (aJ qz) (ag qz) .none U3 U4 U5 Ur PL U6),abT⟩) (c45:codeIn K PL "law"=true) (k45:keepIn K (.ref ZN)=true)
 (a46:findIn K (.ref cQ) "sound"=some (some (.ref Px))) (l46:K.lookup Px=some ⟨ae1,aaX,.func (fnOf "sound" "Tuning.sound" (aP dv) (aJ dv) (ag dv) .none ae2 ae3 ae4 aaY U7 ae5),abU⟩) (c46:codeIn K U7 "Tuning.sound"=true) (Wl:keepIn K (.ref Px)=true) (i46:isFn K (.ref Px)=true)
 (a47:findIn K (.ref cQ) "alike"=some (some (.ref JW))) (l47:K.lookup JW=some ⟨ae6,aaZ,.func (fnOf "alike" "Tuning.alike" (aP dw) (aJ dw) (ag dw) .none ae7 ae8 ae9 aa0 U8 afa),abV⟩) (c47:codeIn K U8 "Tuning.alike"=true) (P0:keepIn K (.ref JW)=true) (QK:isFn K (.ref JW)=true)
 (a48:findIn K (.ref cQ) "table_of"=some (some (.ref Py))) (l48:K.lookup Py=some ⟨afb,aa1,.func (fnOf "table_of" "Tuning.table_of" (aP cx) (aJ cx) (ag cx) .none afc afd afe aa2 U9 aff),abW⟩) (c48:codeIn K U9 "Tuning.table_of"=true) (Wm:keepIn K (.ref Py)=true) (i48:isFn K (.ref Py)=true)
 (a49:findIn K (.ref bt) "__init__"=some (some (.ref Pz))) (l49:K.lookup Pz=some ⟨afg,aa3,.func (fnOf "__init__" "CommaTuning.__init__" (aP cb) (aJ cb) (ag cb) .none afh afi afj aa4 Va afk),abX⟩) (c49:codeIn K Va "CommaTuning.__init__"=true) (k49:keepIn K (.ref Pz)=true) (i49:isFn K (.ref Pz)=true)
 (a50:findIn K (.ref bt) "sound"=some (some (.ref PB))) (l50:K.lookup PB=some ⟨afl,aa5,.func (fnOf "sound" "CommaTuning.sound" (aP bV) (aJ bV) (ag bV) .none afm afn afo aa6 Vb afp),abY⟩) (c50:codeIn K Vb "CommaTuning.sound"=true) (Wn:keepIn K (.ref PB)=true) (i50:isFn K (.ref PB)=true)
 (a51:findIn K (.ref bt) "table_of"=some (some (.ref PC))) (l51:K.lookup PC=some ⟨afq,aa7,.func (fnOf "table_of" "CommaTuning.table_of" (aP bL) (aJ bL) (ag bL) .none afr afs aft aa8 Vc afu),abZ⟩) (c51:codeIn K Vc "CommaTuning.table_of"=true) (Wo:keepIn K (.ref PC)=true) (i51:isFn K (.ref PC)=true)
 (a52:findIn K (.ref bz) "__init__"=some (some (.ref MZ))) (l52:K.lookup MZ=some ⟨afv,aa9,.func (fnOf "__init__" "KeyTuning.__init__" (aP cJ) (aJ cJ) (ag cJ) .none afw afx afy aba Vd afz),ab0⟩) (c52:codeIn K Vd "KeyTuning.__init__"=true) (k52:keepIn K (.ref MZ)=true) (i52:isFn K (.ref MZ)=true)
 (a53:findIn K (.ref bz) "sound"=some (some (.ref PD))) (l53:K.lookup PD=some ⟨afA,abb,.func (fnOf "sound" "KeyTuning.sound" (aP cy) (aJ cy) (ag cy) .none afB afC afD abc Ve afE),ab1⟩) (c53:codeIn K Ve "KeyTuning.sound"=true) (Wq:keepIn K (.ref PD)=true) (i53:isFn K (.ref PD)=true)
 (a54:findIn K (.ref bz) "table_of"=some (some (.ref M0))) (l54:K.lookup M0=some ⟨afF,abd,.func (fnOf "table_of" "KeyTuning.table_of" (aP bT) (aJ bT) (ag bT) .none afG afH afI abe Vf afJ),ab2⟩) (c54:codeIn K Vf "KeyTuning.table_of"=true) (Vi:keepIn K (.ref M0)=true) (Wr:isFn K (.ref M0)=true)
 (a55:findIn K (.ref dB) "__init__"=some (some (.ref PF))) (Pp:K.lookup PF=some ⟨afK,abf,.func (fnOf "__init__" "Board.__init__" (aP eD) (aJ eD) (ag eD) .none afL afM afN abg Vg afO),ab3⟩) (c55:codeIn K Vg "Board.__init__"=true) (k55:keepIn K (.ref PF)=true) (i55:isFn K (.ref PF)=true)
 (a56:findIn K (.ref dB) "sound"=some (some (.ref PH))) (l56:K.lookup PH=some ⟨afP,abh,.func (fnOf "sound" "Board.sound" (aP dS) (aJ dS) (ag dS) .none afQ afR afS abi Vh afT),ab4⟩) (c56:codeIn K Vh "Board.sound"=true) (Ws:keepIn K (.ref PH)=true) (i56:isFn K (.ref PH)=true)
     (tm:plainGet K cQ Str.empty=true) (tq:hasDictIn K cQ=true) (tw:plainOver K cQ=true) (tD:findIn K (.ref cQ) "__setattr__"=some (some (.builtin "object.__setattr__"))) (tF:makesIn K cQ=true) (tG:keepIn K (.ref cQ)=true) (tH:findIn K (.ref cQ) "__init__"=some (some (.builtin "object.__init__"))) (px:findIn K (.ref cQ) "__class__"=some (some (.builtin "object.__class__"))) (pA:specialIn K (.builtin "object.__class__") "__get__"=some (some (.builtin "getset_descriptor.__get__"))) (pB:takesIn K (.builtin "object.__class__")=some true) (pC:mroIn K cQ (.type "object")=some true) (iF:findIn K (.ref cQ) "sound"=some (some (.ref Px))) (iG:findIn K (.ref cQ) "alike"=some (some (.ref JW))) (fQ:findIn K (.ref cQ) "table_of"=some (some (.ref Py))) (jl:plainGet K bt Str.empty=true) (jm:hasDictIn K bt=true) (jn:plainOver K bt=true) (jo:findIn K (.ref bt) "__setattr__"=some (some (.builtin "object.__setattr__"))) (jq:makesIn K bt=true) (jr:keepIn K (.ref bt)=true) (jt:findIn K (.ref bt) "__init__"=some (some (.ref Pz))) (iH:findIn K (.ref bt) "__class__"=some (some (.builtin "object.__class__"))) (iI:specialIn K (.builtin "object.__class__") "__get__"=some (some (.builtin "getset_descriptor.__get__"))) (iJ:takesIn K (.builtin "object.__class__")=some true) (iK:mroIn K bt (.type "object")=some true) (fj:findIn K (.ref bt) "sound"=some (some (.ref PB))) (fk:findIn K (.ref bt) "alike"=some (some (.ref JW))) (d7:findIn K (.ref bt) "table_of"=some (some (.ref PC))) (fm:findIn K (.ref bt) "steps"=some none) (lH:plainGet K bz Str.empty=true) (lI:hasDictIn K bz=true) (lJ:plainOver K bz=true) (lK:findIn K (.ref bz) "__setattr__"=some (some (.builtin "object.__setattr__"))) (lL:makesIn K bz=true) (lM:keepIn K (.ref bz)=true) (lN:findIn K (.ref bz) "__init__"=some (some (.ref MZ))) (j2:findIn K (.ref bz) "__class__"=some (some (.builtin "object.__class__"))) (j3:specialIn K (.builtin "object.__class__") "__get__"=some (some (.builtin "getset_descriptor.__get__"))) (j4:takesIn K (.builtin "object.__class__")=some true) (j5:mroIn K bz (.type "object")=some true) (fR:findIn K (.ref bz) "sound"=some (some (.ref PD))) (fS:findIn K (.ref bz) "alike"=some (some (.ref JW))) (eL:findIn K (.ref bz) "table_of"=some (some (.ref M0))) (cZ:readsIn K bz (.type "type")=true) (da:findCls K (.ref bz) (.type "type") "__init__"=some (.val (.ref MZ))) (dc:specialIn K (.ref bz) "__getattribute__"=some (some (.builtin "type.__getattribute__"))) (eM:findIn K (.ref bz) "own_keys"=some none) (wQ:plainGet K dB Str.empty=true) (wR:hasDictIn K dB=true) (wU:plainOver K dB=true) (wV:findIn K (.ref dB) "__setattr__"=some (some (.builtin "object.__setattr__"))) (wW:makesIn K dB=true) (wX:keepIn K (.ref dB)=true) (wY:findIn K (.ref dB) "__init__"=some (some (.ref PF))) (tI:findIn K (.ref dB) "__class__"=some (some (.builtin "object.__class__"))) (tJ:specialIn K (.builtin "object.__class__") "__get__"=some (some (.builtin "getset_descriptor.__get__"))) (tK:takesIn K (.builtin "object.__class__")=some true) (tL:mroIn K dB (.type "object")=some true) (ju:findIn K (.ref dB) "sound"=some (some (.ref PH))) (jv:findIn K (.ref dB) "alike"=some (some (.ref JW))) (gH:findIn K (.ref dB) "table_of"=some (some (.ref M0))) (gI:findIn K (.ref dB) "own_keys"=some none) (iL:findIn K (.ref dB) "octave"=some none)
     (Jw:nsIn K mainGlobals "ONE"=some (some (.ref Jv))) (Jx:K.lookup Jv=some ⟨.type "tuple",PM,.seq #[.int 0 PR,.int 0 PU,.int 0 PX,.int 0 PY,.int 0 PZ] PN,PQ⟩) (j6:nsIn K mainGlobals "MOST_COMMAS"=some (some (.int 6 ie))) (nE:nsIn K mainGlobals "MOST_KEYS"=some (some (.int 6 jH))) (Aa:nsIn K mainGlobals "WIDTH"=some (some (.int 5 vd))) (kr:nsIn K mainGlobals "NoBoard"=some (some (.ref eJ))) (pD:typeIn K (.ref eJ)=some (.type "type")) (lO:clsIn K eJ=some Dy) (lP:subIn K (.ref eJ) (.type "BaseException")=some true) (pE:findIn K (.ref eJ) "__getattribute__"=some (some (.builtin "BaseException.__getattribute__"))) (pF:findIn K (.ref eJ) "__getattr__"=some none) (pG:findIn K (.ref eJ) "__class__"=some (some (.builtin "object.__class__"))) (pH:specialIn K (.builtin "object.__class__") "__get__"=some (some (.builtin "getset_descriptor.__get__"))) (pI:takesIn K (.builtin "object.__class__")=some true) (pJ:mroIn K eJ (.type "object")=some true) (pK:excIn K eJ [.type "ValueError",.type "Exception",.type "BaseException",.type "object"] "ValueError.__new__"=true) (Jy:nsIn K mainGlobals "abs"=some none) (Jz:nsIn K mainGlobals "all"=some none) (Dz:nsIn K mainGlobals "bool"=some none) (nF:nsIn K mainGlobals "enumerate"=some none) (JA:nsIn K mainGlobals "int"=some none) (lQ:nsIn K mainGlobals "isinstance"=some none) (JB:nsIn K mainGlobals "len"=some none) (DA:nsIn K mainGlobals "list"=some none) (JC:nsIn K mainGlobals "max"=some none) (JD:nsIn K mainGlobals "min"=some none) (Ab:nsIn K mainGlobals "range"=some none) (wZ:nsIn K mainGlobals "sorted"=some none) (JE:nsIn K mainGlobals "sum"=some none) (Ac:nsIn K mainGlobals "tuple"=some none) (JF:nsIn K mainGlobals "zip"=some none) :
    ∃ fd:FuncData,(∀ (s:Shared) (v:Value),BindsTo s fd ⟨[v],[]⟩ [("_law_script",v)])/\∀ base:Heap,K.In base->base.Ns mainGlobals mg->CodeHd base oj Ju->base.BuiltinsAt mg Ju->base.NoSeer->oJ l.prog w K mg base GB 69 fa fd ["_law_script"] ((CS "parted" Tf "parted.<locals>.<lambda>") K):=by
  have e:=hfa.symm.trans (mg_of X G0 a45)
  cases e
  have T:Txt K mg ⟨Jv,eJ,cQ,bt,bz,dB,Px,JW,Py,Pz,PB,PC,MZ,PD,M0,PF,PH,ie,jH,vd,oj⟩:=⟨mg_none_of X G0 Jy,mg_none_of X G0 Jz,mg_none_of X G0 Dz,mg_none_of X G0 nF,mg_none_of X G0 JA,mg_none_of X G0 lQ,mg_none_of X G0 JB,mg_none_of X G0 DA,mg_none_of X G0 JC,mg_none_of X G0 JD,mg_none_of X G0 Ab,mg_none_of X G0 wZ,mg_none_of X G0 JE,mg_none_of X G0 Ac,mg_none_of X G0 JF,mg_of X G0 Jw,fun H=>.inr ⟨_,_,_,Jx,rfl,rfl,by show 5 <= sizeLine;decide,(.cons ⟨_,rfl⟩ (.cons ⟨_,rfl⟩ (.cons ⟨_,rfl⟩ (.cons ⟨_,rfl⟩ (.cons ⟨_,rfl⟩ .nil)))))⟩,mg_of X G0 j6,mg_of X G0 nE,mg_of X G0 Aa,mg_of X G0 kr,kr,KU.mk' pD lO lP,KP.mk' pE pF lO pG pH pI pJ lP,pK,mg_of X G0 rC,rC,⟨tm,tq,tw,tD⟩,⟨tF,tH,tG⟩,⟨px,pA,pB,pC⟩,⟨iF,i46,Wl⟩,⟨iG,QK,P0⟩,⟨fQ,i48,Wm⟩,mg_of X G0 il,il,⟨jl,jm,jn,jo⟩,⟨jq,jt,i49,jr⟩,⟨iH,iI,iJ,iK⟩,⟨fj,i50,Wn⟩,⟨fk,QK,P0⟩,⟨d7,i51,Wo⟩,fm,mg_of X G0 jP,jP,⟨lH,lI,lJ,lK⟩,⟨lL,lN,i52,lM⟩,⟨j2,j3,j4,j5⟩,⟨fR,i53,Wq⟩,⟨fS,QK,P0⟩,⟨eL,Wr,Vi⟩,⟨cZ,da,dc⟩,eM,mg_of X G0 vh,vh,⟨wQ,wR,wU,wV⟩,⟨wW,wY,i55,wX⟩,⟨tI,tJ,tK,tL⟩,⟨ju,i56,Ws⟩,⟨jv,QK,P0⟩,⟨gH,Wr,Vi⟩,gI,iL⟩
  have F0:=bb (st:=oR) l0 c0 k0
  have P1:Def K mg "over" oR ["one","other"]:=⟨_,_,F0,mg_of X G0 a0,F0.binds (ps:=["one","other"]) fun _ _ _ _ _ _ us hl=>bM us hl fun _ _=>rfl⟩
  have F1:=bb (st:=kR) l1 c1 k1
  have LW:Def K mg "power" kR ["row","n"]:=⟨_,_,F1,mg_of X G0 a1,F1.binds (ps:=["row","n"]) fun _ _ _ _ _ _ us hl=>bM us hl fun _ _=>rfl⟩
  have F2:=bb (st:=cF) l2 c2 k2
  have tM:Def K mg "checked_commas" cF ["commas"]:=⟨_,_,F2,mg_of X G0 a2,F2.binds (ps:=["commas"]) fun _ _ _ _ _ _ us hl=>dX us hl fun _=>rfl⟩
  have F3:=bb (st:=oS) l3 c3 k3
  have P2:Def K mg "unit" oS ["place","size"]:=⟨_,_,F3,mg_of X G0 a3,F3.binds (ps:=["place","size"]) fun _ _ _ _ _ _ us hl=>bM us hl fun _ _=>rfl⟩
  have F4:=bb (st:=ei) l4 c4 k4
  have Ad:Def K mg "lead_place" ei ["row"]:=⟨_,_,F4,mg_of X G0 a4,F4.binds (ps:=["row"]) fun _ _ _ _ _ _ us hl=>dX us hl fun _=>rfl⟩
  have F5:=bb (st:=gO) l5 c5 k5
  have Gm:Def K mg "lowered" gO ["vector","step","place"]:=⟨_,_,F5,mg_of X G0 a5,F5.binds (ps:=["vector","step","place"]) fun _ _ _ _ _ _ us hl=>qA us hl fun _ _ _=>rfl⟩
  have JG:K9 K mg "parted" jb ["vectors","place"] oj:=⟨_,_,_,_,_,_,_,_,_,_,rfl,l6,c6,k6,mg_of X G0 a6,.all fun us hl=>match us,hl with|[_,_],_=>rfl⟩
  have F7:=bb (st:=gP) l7 c7 k7
  have Gn:Def K mg "stepped" gP ["vectors","size"]:=⟨_,_,F7,mg_of X G0 a7,F7.binds (ps:=["vectors","size"]) fun _ _ _ _ _ _ us hl=>bM us hl fun _ _=>rfl⟩
  have F8:=bb (st:=kT) l8 c8 k8
  have LX:Def K mg "table" kT ["commas"]:=⟨_,_,F8,mg_of X G0 a8,F8.binds (ps:=["commas"]) fun _ _ _ _ _ _ us hl=>dX us hl fun _=>rfl⟩
  have F9:=bb (st:=gQ) l9 c9 k9
  have Gp:Def K mg "left_by" gQ ["steps","vector"]:=⟨_,_,F9,mg_of X G0 a9,F9.binds (ps:=["steps","vector"]) fun _ _ _ _ _ _ us hl=>bM us hl fun _ _=>rfl⟩
  have F10:=bb (st:=kU) Wj c10 k10
  have LY:Def K mg "heard" kU ["weights","row"]:=⟨_,_,F10,mg_of X G0 a10,F10.binds (ps:=["weights","row"]) fun _ _ _ _ _ _ us hl=>bM us hl fun _ _=>rfl⟩
  have F11:=bb (st:=kW) O8 c11 k11
  have LZ:Def K mg "value" kW ["key","row"]:=⟨_,_,F11,mg_of X G0 a11,F11.binds (ps:=["key","row"]) fun _ _ _ _ _ _ us hl=>bM us hl fun _ _=>rfl⟩
  have F12:=bb (st:=dq) l12 c12 k12
  have w6:Def K mg "checked_keys" dq ["keys"]:=⟨_,_,F12,mg_of X G0 a12,F12.binds (ps:=["keys"]) fun _ _ _ _ _ _ us hl=>dX us hl fun _=>rfl⟩
  have F13:=bb (st:=jc) l13 c13 k13
  have JH:Def K mg "values" jc ["keys","row"]:=⟨_,_,F13,mg_of X G0 a13,F13.binds (ps:=["keys","row"]) fun _ _ _ _ _ _ us hl=>bM us hl fun _ _=>rfl⟩
  have F14:=bb (st:=ek) l14 c14 k14
  have Ae:Def K mg "lost_among" ek ["rows","key"]:=⟨_,_,F14,mg_of X G0 a14,F14.binds (ps:=["rows","key"]) fun _ _ _ _ _ _ us hl=>bM us hl fun _ _=>rfl⟩
  have F15:=bb (st:=oU) l15 c15 k15
  have P4:Def K mg "lost" oU ["keys"]:=⟨_,_,F15,mg_of X G0 a15,F15.binds (ps:=["keys"]) fun _ _ _ _ _ _ us hl=>dX us hl fun _=>rfl⟩
  have F16:=bb (st:=dP) l16 c16 k16
  have xX:Def K mg "same_tuning" dP ["one","other"]:=⟨_,_,F16,mg_of X G0 a16,F16.binds (ps:=["one","other"]) fun _ _ _ _ _ _ us hl=>bM us hl fun _ _=>rfl⟩
  have F17:=bb (st:=cS) l17 c17 k17
  have uR:Def K mg "told_by_first" cS ["one","other"]:=⟨_,_,F17,mg_of X G0 a17,F17.binds (ps:=["one","other"]) fun _ _ _ _ _ _ us hl=>bM us hl fun _ _=>rfl⟩
  have F18:=bb (st:=kX) l18 c18 k18
  have L0:Def K mg "apart" kX ["one","other"]:=⟨_,_,F18,mg_of X G0 a18,F18.binds (ps:=["one","other"]) fun _ _ _ _ _ _ us hl=>bM us hl fun _ _=>rfl⟩
  have F19:=bb (st:=eV) l19 c19 k19
  have BX:Def K mg "_law_cells" eV ["_law_script"]:=⟨_,_,F19,mg_of X G0 a19,F19.binds (ps:=["_law_script"]) fun _ _ _ _ _ _ us hl=>dX us hl fun _=>rfl⟩
  have F20:=bb (st:=fJ) l20 c20 k20
  have DB:Def K mg "_law_near" fJ ["_law_cell","_law_most"]:=⟨_,_,F20,mg_of X G0 a20,F20.binds (ps:=["_law_cell","_law_most"]) fun _ _ _ _ _ _ us hl=>bM us hl fun _ _=>rfl⟩
  have F21:=bb (st:=fK) l21 c21 k21
  have DC:Def K mg "_law_plus" fK ["_law_one","_law_q","_law_other"]:=⟨_,_,F21,mg_of X G0 a21,F21.binds (ps:=["_law_one","_law_q","_law_other"]) fun _ _ _ _ _ _ us hl=>qA us hl fun _ _ _=>rfl⟩
  have F22:=bb (st:=dr) l22 c22 k22
  have w8:Def K mg "_law_gathered" dr ["_law_rows","_law_place"]:=⟨_,_,F22,mg_of X G0 a22,F22.binds (ps:=["_law_rows","_law_place"]) fun _ _ _ _ _ _ us hl=>bM us hl fun _ _=>rfl⟩
  have F23:=bb (st:=eW) l23 c23 k23
  have BY:Def K mg "_law_steps" eW ["_law_rows"]:=⟨_,_,F23,mg_of X G0 a23,F23.binds (ps:=["_law_rows"]) fun _ _ _ _ _ _ us hl=>dX us hl fun _=>rfl⟩
  have F24:=bb (st:=dQ) l24 c24 k24
  have xY:Def K mg "_law_is_made" dQ ["_law_steps_here","_law_row"]:=⟨_,_,F24,mg_of X G0 a24,F24.binds (ps:=["_law_steps_here","_law_row"]) fun _ _ _ _ _ _ us hl=>bM us hl fun _ _=>rfl⟩
  have F25:=bb (st:=dR) l25 c25 k25
  have xZ:Def K mg "_law_divisor" dR ["_law_one","_law_other"]:=⟨_,_,F25,mg_of X G0 a25,F25.binds (ps:=["_law_one","_law_other"]) fun _ _ _ _ _ _ us hl=>bM us hl fun _ _=>rfl⟩
  have F26:=bb (st:=fL) l26 c26 k26
  have DD:Def K mg "_law_lost" fL ["_law_keys_here"]:=⟨_,_,F26,mg_of X G0 a26,F26.binds (ps:=["_law_keys_here"]) fun _ _ _ _ _ _ us hl=>dX us hl fun _=>rfl⟩
  have F27:=bb (st:=fM) l27 c27 k27
  have DE:Def K mg "_law_pair" fM ["_law_cells_here"]:=⟨_,_,F27,mg_of X G0 a27,F27.binds (ps:=["_law_cells_here"]) fun _ _ _ _ _ _ us hl=>dX us hl fun _=>rfl⟩
  have F28:=bb (st:=eX) l28 c28 k28
  have BZ:Def K mg "_law_sizes" eX ["_law_cells_here"]:=⟨_,_,F28,mg_of X G0 a28,F28.binds (ps:=["_law_cells_here"]) fun _ _ _ _ _ _ us hl=>dX us hl fun _=>rfl⟩
  have F29:=bb (st:=eY) l29 c29 k29
  have B0:Def K mg "_law_mixed" eY ["_law_rows","_law_cells_here"]:=⟨_,_,F29,mg_of X G0 a29,F29.binds (ps:=["_law_rows","_law_cells_here"]) fun _ _ _ _ _ _ us hl=>bM us hl fun _ _=>rfl⟩
  have F30:=bb (st:=en) l30 c30 k30
  have Af:Def K mg "_law_commas" en ["_law_sizes_here","_law_ones","_law_cells_here"]:=⟨_,_,F30,mg_of X G0 a30,F30.binds (ps:=["_law_sizes_here","_law_ones","_law_cells_here"]) fun _ _ _ _ _ _ us hl=>qA us hl fun _ _ _=>rfl⟩
  have F31:=bb (st:=cG) l31 c31 k31
  have tN:Def K mg "_law_mixed_keys" cG ["_law_keys_here","_law_cells_here"]:=⟨_,_,F31,mg_of X G0 a31,F31.binds (ps:=["_law_keys_here","_law_cells_here"]) fun _ _ _ _ _ _ us hl=>bM us hl fun _ _=>rfl⟩
  have F32:=bb (st:=fN) l32 c32 k32
  have DF:Def K mg "_law_keys" fN ["_law_sizes_here","_law_duals","_law_cells_here"]:=⟨_,_,F32,mg_of X G0 a32,F32.binds (ps:=["_law_sizes_here","_law_duals","_law_cells_here"]) fun _ _ _ _ _ _ us hl=>qA us hl fun _ _ _=>rfl⟩
  have F33:=bb (st:=eA) l33 c33 k33
  have Ag:Def K mg "_law_is_row" eA ["_law_found"]:=⟨_,_,F33,mg_of X G0 a33,F33.binds (ps:=["_law_found"]) fun _ _ _ _ _ _ us hl=>dX us hl fun _=>rfl⟩
  have F34:=bb (st:=eZ) l34 c34 k34
  have B1:Def K mg "_law_value" eZ ["_law_key","_law_row"]:=⟨_,_,F34,mg_of X G0 a34,F34.binds (ps:=["_law_key","_law_row"]) fun _ _ _ _ _ _ us hl=>bM us hl fun _ _=>rfl⟩
  have F35:=bb (st:=fO) l35 c35 k35
  have DG:Def K mg "_law_made" fO ["_law_sizes_here","_law_powers"]:=⟨_,_,F35,mg_of X G0 a35,F35.binds (ps:=["_law_sizes_here","_law_powers"]) fun _ _ _ _ _ _ us hl=>bM us hl fun _ _=>rfl⟩
  have F36:=bb (st:=cT) l36 c36 k36
  have uS:Def K mg "_law_all_sizes" cT ["_law_cells_here","_law_many"]:=⟨_,_,F36,mg_of X G0 a36,F36.binds (ps:=["_law_cells_here","_law_many"]) fun _ _ _ _ _ _ us hl=>bM us hl fun _ _=>rfl⟩
  have F37:=bb (st:=eB) l37 c37 k37
  have Ah:Def K mg "_law_tuning" eB ["_law_sizes_here","_law_pair_here","_law_cell","_law_cells_here"]:=⟨_,_,F37,mg_of X G0 a37,F37.binds (ps:=["_law_sizes_here","_law_pair_here","_law_cell","_law_cells_here"]) fun _ _ _ _ _ _ us hl=>Ep us hl fun _ _ _ _=>rfl⟩
  have F38:=bb (st:=fb) l38 c38 k38
  have B2:Def K mg "_law_truth" fb ["_law_found","_law_due"]:=⟨_,_,F38,mg_of X G0 a38,F38.binds (ps:=["_law_found","_law_due"]) fun _ _ _ _ _ _ us hl=>bM us hl fun _ _=>rfl⟩
  have F39:=bb (st:=cH) l39 c39 k39
  have tO:Def K mg "_law_held_right" cH ["_law_one","_law_other","_law_sizes_here","_law_others","_law_duals"]:=⟨_,_,F39,mg_of X G0 a39,F39.binds (ps:=["_law_one","_law_other","_law_sizes_here","_law_others","_law_duals"]) fun _ _ _ _ _ _ us hl=>Ll us hl fun _ _ _ _ _=>rfl⟩
  have F40:=bb (st:=cI) l40 c40 k40
  have tP:Def K mg "_law_built_hold" cI ["_law_cells_here"]:=⟨_,_,F40,mg_of X G0 a40,F40.binds (ps:=["_law_cells_here"]) fun _ _ _ _ _ _ us hl=>dX us hl fun _=>rfl⟩
  have F41:=bb (st:=gR) l41 c41 k41
  have Gq:Def K mg "_law_two" gR ["_law_cell","_law_most"]:=⟨_,_,F41,mg_of X G0 a41,F41.binds (ps:=["_law_cell","_law_most"]) fun _ _ _ _ _ _ us hl=>bM us hl fun _ _=>rfl⟩
  have F42:=bb (st:=gS) l42 c42 k42
  have Gr:Def K mg "_law_any" gS ["_law_cells_here","_law_head"]:=⟨_,_,F42,mg_of X G0 a42,F42.binds (ps:=["_law_cells_here","_law_head"]) fun _ _ _ _ _ _ us hl=>bM us hl fun _ _=>rfl⟩
  have F43:=bb (st:=eC) l43 c43 k43
  have Ai:Def K mg "_law_joined" eC ["_law_rows"]:=⟨_,_,F43,mg_of X G0 a43,F43.binds (ps:=["_law_rows"]) fun _ _ _ _ _ _ us hl=>dX us hl fun _=>rfl⟩
  have F44:=bb (st:=du) l44 c44 k44
  have w9:Def K mg "_law_any_held" du ["_law_one","_law_other","_law_ones","_law_others"]:=⟨_,_,F44,mg_of X G0 a44,F44.binds (ps:=["_law_one","_law_other","_law_ones","_law_others"]) fun _ _ _ _ _ _ us hl=>Ep us hl fun _ _ _ _=>rfl⟩
  have F45:=bb (st:=qz) l45 c45 k45
  have F46:=bb (st:=dv) l46 c46 Wl
  have xa:ir K Px "sound" "Tuning.sound" dv ["self","row"]:=⟨_,F46,F46.binds (ps:=["self","row"]) fun _ _ _ _ _ _ us hl=>bM us hl fun _ _=>rfl⟩
  have F47:=bb (st:=dw) l47 c47 P0
  have xb:ir K JW "alike" "Tuning.alike" dw ["self","one","other"]:=⟨_,F47,F47.binds (ps:=["self","one","other"]) fun _ _ _ _ _ _ us hl=>qA us hl fun _ _ _=>rfl⟩
  have F48:=bb (st:=cx) l48 c48 Wm
  have rD:ir K Py "table_of" "Tuning.table_of" cx ["self"]:=⟨_,F48,F48.binds (ps:=["self"]) fun _ _ _ _ _ _ us hl=>dX us hl fun _=>rfl⟩
  have F49:=bb (st:=cb) l49 c49 k49
  have pL:ir K Pz "__init__" "CommaTuning.__init__" cb ["self","commas"]:=⟨_,F49,F49.binds (ps:=["self","commas"]) fun _ _ _ _ _ _ us hl=>bM us hl fun _ _=>rfl⟩
  have F50:=bb (st:=bV) l50 c50 Wn
  have nY:ir K PB "sound" "CommaTuning.sound" bV ["self","row"]:=⟨_,F50,F50.binds (ps:=["self","row"]) fun _ _ _ _ _ _ us hl=>bM us hl fun _ _=>rfl⟩
  have F51:=bb (st:=bL) l51 c51 Wo
  have lR:ir K PC "table_of" "CommaTuning.table_of" bL ["self"]:=⟨_,F51,F51.binds (ps:=["self"]) fun _ _ _ _ _ _ us hl=>dX us hl fun _=>rfl⟩
  have F52:=bb (st:=cJ) l52 c52 k52
  have tQ:ir K MZ "__init__" "KeyTuning.__init__" cJ ["self","keys"]:=⟨_,F52,F52.binds (ps:=["self","keys"]) fun _ _ _ _ _ _ us hl=>bM us hl fun _ _=>rfl⟩
  have F53:=bb (st:=cy) l53 c53 Wq
  have rE:ir K PD "sound" "KeyTuning.sound" cy ["self","row"]:=⟨_,F53,F53.binds (ps:=["self","row"]) fun _ _ _ _ _ _ us hl=>bM us hl fun _ _=>rfl⟩
  have F54:=bb (st:=bT) l54 c54 Vi
  have nG:ir K M0 "table_of" "KeyTuning.table_of" bT ["self"]:=⟨_,F54,F54.binds (ps:=["self"]) fun _ _ _ _ _ _ us hl=>dX us hl fun _=>rfl⟩
  have F55:=bb (st:=eD) Pp c55 k55
  have Aj:ir K PF "__init__" "Board.__init__" eD ["self","row"]:=⟨_,F55,F55.binds (ps:=["self","row"]) fun _ _ _ _ _ _ us hl=>bM us hl fun _ _=>rfl⟩
  have F56:=bb (st:=dS) l56 c56 Ws
  have x6:ir K PH "sound" "Board.sound" dS ["self","row"]:=⟨_,F56,F56.binds (ps:=["self","row"]) fun _ _ _ _ _ _ us hl=>bM us hl fun _ _=>rfl⟩
  refine⟨fnOf "law" "law" (aP qz) (aJ qz) (ag qz) .none U3 U4 U5 Ur PL U6,fun s v=>.of_eq rfl,fun base _ _ P6 P7 Vj=>?_⟩
  have Vk:CodeHd base oj (zA K "parted")/\base.BuiltinsAt mg (zA K "parted"):=by rw [Em Qq];exact⟨P6,P7⟩
  have Y:base.NoSeer/\l.prog.given.tree=none:=⟨Vj,Uq⟩
  have P8:=LG (w:=w) P1 T Y
  have EI:=IZ (w:=w) LW T Y
  have tR:=qP (w:=w) tM T Y
  have P9:=LI (w:=w) P2 T Y
  have Ak:=xD (w:=w) Ad T Y
  have L1:=Jb (w:=w) LY T Y
  have jw:=uE (w:=w) w6 T Y
  have B3:=zN (w:=w) BX T Y
  have xc:=Bz (w:=w) DB T Y
  have gY:=BB (w:=w) DC T Y
  have x8:=wo (w:=w) xZ T Y
  have B4:=zP (w:=w) BZ T Y
  have rF:=xF (w:=w) Ag T Y
  have B5:=zR (w:=w) B1 T Y
  have DH:=BD (w:=w) DG T Y
  have um:=zT (w:=w) B2 T Y
  have Al:=xH (w:=w) Ai T Y
  have xf:=uG (w:=w) xa T Y
  have jQ:=o9 (w:=w) rD T Y
  have gJ:=kC (w:=w) lR T Y
  have EJ:=Je (w:=w) LZ T ⟨L1⟩ Y
  have DI:=BH (w:=w) DE T ⟨gY⟩ Y
  have B6:=zW (w:=w) B0 T ⟨gY⟩ Y
  have tS:=qS (w:=w) tN T ⟨gY⟩ Y
  have uT:=sV (w:=w) uS T ⟨B4⟩ Y
  have Gs:=C5 (w:=w) Gq T ⟨xc⟩ Y
  have gZ:=qW (w:=w) tQ T ⟨jw⟩ Y
  have B7:=Ga (w:=w) JH T ⟨EJ,jw⟩ Y
  have Am:=xM (w:=w) Af T ⟨B6⟩ Y
  have DJ:=BO (w:=w) DF T ⟨tS⟩ Y
  have rG:=xP (w:=w) Aj T ⟨gZ⟩ Y
  have rH:=ph (w:=w) rE T ⟨B7⟩ Y
  have x9:=wA (w:=w) x6 T ⟨B7⟩ Y
  have tU:=C8 (w:=w) Gm T ⟨P8,EI⟩ Y
  have nH:=uK (w:=w) w8 T ⟨gY⟩ Y
  have ya:=wD (w:=w) xY T ⟨gY⟩ Y
  have JI:=Gi (w:=w) JG T ⟨EI,tU⟩ Y Vk
  have Gu:=Dh (w:=w) Gp T ⟨Ak,tU⟩ Y
  have B8:=zZ (w:=w) BY T ⟨nH⟩ Y
  have tV:=Dk (w:=w) Gn T ⟨tU,JI⟩ Y
  have nZ:=ny (w:=w) nY T ⟨Gu⟩ Y
  have L3:=Jm (w:=w) LX T ⟨tR,tV⟩ Y
  have An:=xS (w:=w) Ae T ⟨tV,EJ⟩ Y
  have xg:=uN (w:=w) xb T ⟨x9,nZ,rH,xf⟩ Y
  have Qa:=LP (w:=w) P4 T ⟨P9,tV,jw,An⟩ Y
  have fT:=nX (w:=w) pL T ⟨L3⟩ Y
  have iy:=mw (w:=w) nG T ⟨Qa⟩ Y
  have oA:=wI (w:=w) xX T ⟨gJ,iy,jQ⟩ Y
  have uU:=sY (w:=w) uR T ⟨gJ,iy,xg,jQ⟩ Y
  have Ao:=xV (w:=w) Ah T ⟨Am,DJ,rG,fT,gZ⟩ Y
  have EK:=Jr (w:=w) L0 T ⟨uU⟩ Y
  have tW:=rh (w:=w) tO T ⟨oA,EK,rF,B5,DH,um⟩ Y
  have xh:=uQ (w:=w) w9 T ⟨oA,EK,B8,ya,rF,um⟩ Y
  have tX:=rn (w:=w) tP T ⟨DI,uT,Ao,tW⟩ Y
  have DK:=BV (w:=w) DD T ⟨gY,nH,x8⟩ Y
  have Gv:=Dw (w:=w) Gr T ⟨xc,DK,Gs,rG,fT,gZ⟩ Y
  exact Pw F45 T ⟨B3,tX,Gv,Al,xh,fT⟩ Y
end Law
open PySem PySem.W PyProof.Rows
set_option maxRecDepth 100000 in
theorem PySem.Challenge.cw_tuningyard_k58_whole_same_tunings_holds : PySem.Challenge.rw_tuningyard_k58_whole_same_tunings.Holds := by
 w_on;o_law;k_head;(case hw=>w_witness2)
 k_fill
 refine' L2.Ir (l:=PySem.Challenge.rw_tuningyard_k58_whole_same_tunings) (k:=69) (x:="_law_script") "parted" Law.Tf "parted.<locals>.<lambda>" (by decide +kernel) rfl rfl ⟨rfl,by decide,by decide⟩ ?hY ?ht ?hh ?hk ?F
 case hY=>exact fun w h Y=>⟨PySem.W.km_in_of Y,PySem.W.km_tabs_of Y _ (List.Mem.head _)⟩
 case ht=>exact fun w=>rfl
 case hh=>intro w;kernel_rfl
 case hk=>intro w;kernel_rfl
 case F =>
  intro w mg fa h KX G Rv Qq
  refine' Law.all_mk KX G rfl Rv Qq ?rC ?il ?jP ?vh ?a0 ?l0 ?c0 ?k0 ?a1 ?l1 ?c1 ?k1 ?a2 ?l2 ?c2 ?k2 ?a3 ?l3 ?c3 ?k3 ?a4 ?l4 ?c4 ?k4 ?a5 ?l5 ?c5 ?k5 ?a6 ?l6 ?c6 ?k6 ?a7 ?l7 ?c7 ?k7 ?a8 ?l8 ?c8 ?k8 ?a9 ?l9 ?c9 ?k9 ?a10 ?Wj ?c10 ?k10 ?a11 ?O8 ?c11 ?k11 ?a12 ?l12 ?c12 ?k12 ?a13 ?l13 ?c13 ?k13 ?a14 ?l14 ?c14 ?k14 ?a15 ?l15 ?c15 ?k15 ?a16 ?l16 ?c16 ?k16 ?a17 ?l17 ?c17 ?k17 ?a18 ?l18 ?c18 ?k18 ?a19 ?l19 ?c19 ?k19 ?a20 ?l20 ?c20 ?k20 ?a21 ?l21 ?c21 ?k21 ?a22 ?l22 ?c22 ?k22 ?a23 ?l23 ?c23 ?k23 ?a24 ?l24 ?c24 ?k24 ?a25 ?l25 ?c25 ?k25 ?a26 ?l26 ?c26 ?k26 ?a27 ?l27 ?c27 ?k27 ?a28 ?l28 ?c28 ?k28 ?a29 ?l29 ?c29 ?k29 ?a30 ?l30 ?c30 ?k30 ?a31 ?l31 ?c31 ?k31 ?a32 ?l32 ?c32 ?k32 ?a33 ?l33 ?c33 ?k33 ?a34 ?l34 ?c34 ?k34 ?a35 ?l35 ?c35 ?k35 ?a36 ?l36 ?c36 ?k36 ?a37 ?l37 ?c37 ?k37 ?a38 ?l38 ?c38 ?k38 ?a39 ?l39 ?c39 ?k39 ?a40 ?l40 ?c40 ?k40 ?a41 ?l41 ?c41 ?k41 ?a42 ?l42 ?c42 ?k42 ?a43 ?l43 ?c43 ?k43 ?a44 ?l44 ?c44 ?k44 ?a45 ?l45 ?c45 ?k45 ?a46 ?l46 ?c46 ?Wl ?i46 ?a47 ?l47 ?c47 ?P0 ?QK ?a48 ?l48 ?c48 ?Wm ?i48 ?a49 ?l49 ?c49 ?k49 ?i49 ?a50 ?l50 ?c50 ?Wn ?i50 ?a51 ?l51 ?c51 ?Wo ?i51 ?a52 ?l52 ?c52 ?k52 ?i52 ?a53 ?l53 ?c53 ?Wq ?i53 ?a54 ?l54 ?c54 ?Vi ?Wr ?a55 ?Pp ?c55 ?k55 ?i55 ?a56 ?l56 ?c56 ?Ws ?i56 ?tm ?tq ?tw ?tD ?tF ?tG ?tH ?px ?pA ?pB ?pC ?iF ?iG ?fQ ?jl ?jm ?jn ?jo ?jq ?jr ?jt ?iH ?iI ?iJ ?iK ?fj ?fk ?d7 ?fm ?lH ?lI ?lJ ?lK ?lL ?lM ?lN ?j2 ?j3 ?j4 ?j5 ?fR ?fS ?eL ?cZ ?da ?dc ?eM ?wQ ?wR ?wU ?wV ?wW ?wX ?wY ?tI ?tJ ?tK ?tL ?ju ?jv ?gH ?gI ?iL ?Jw ?Jx ?j6 ?nE ?Aa ?kr ?pD ?lO ?lP ?pE ?pF ?pG ?pH ?pI ?pJ ?pK ?Jy ?Jz ?Dz ?nF ?JA ?lQ ?JB ?DA ?JC ?JD ?Ab ?wZ ?JE ?Ac ?JF
  (case rC=>k_is)
  (case il=>k_is)
  (case jP=>k_is)
  (case vh=>k_is)
  (case a0=>k_is)
  (case l0=>k_is)
  (case c0=>k_is)
  (case k0=>k_is)
  (case a1=>k_is)
  (case l1=>k_is)
  (case c1=>k_is)
  (case k1=>k_is)
  (case a2=>k_is)
  (case l2=>k_is)
  (case c2=>k_is)
  (case k2=>k_is)
  (case a3=>k_is)
  (case l3=>k_is)
  (case c3=>k_is)
  (case k3=>k_is)
  (case a4=>k_is)
  (case l4=>k_is)
  (case c4=>k_is)
  (case k4=>k_is)
  (case a5=>k_is)
  (case l5=>k_is)
  (case c5=>k_is)
  (case k5=>k_is)
  (case a6=>k_is)
  (case l6=>k_is)
  (case c6=>k_is)
  (case k6=>k_is)
  (case a7=>k_is)
  (case l7=>k_is)
  (case c7=>k_is)
  (case k7=>k_is)
  (case a8=>k_is)
  (case l8=>k_is)
  (case c8=>k_is)
  (case k8=>k_is)
  (case a9=>k_is)
  (case l9=>k_is)
  (case c9=>k_is)
  (case k9=>k_is)
  (case a10=>k_is)
  (case Wj=>k_is)
  (case c10=>k_is)
  (case k10=>k_is)
  (case a11=>k_is)
  (case O8=>k_is)
  (case c11=>k_is)
  (case k11=>k_is)
  (case a12=>k_is)
  (case l12=>k_is)
  (case c12=>k_is)
  (case k12=>k_is)
  (case a13=>k_is)
  (case l13=>k_is)
  (case c13=>k_is)
  (case k13=>k_is)
  (case a14=>k_is)
  (case l14=>k_is)
  (case c14=>k_is)
  (case k14=>k_is)
  (case a15=>k_is)
  (case l15=>k_is)
  (case c15=>k_is)
  (case k15=>k_is)
  (case a16=>k_is)
  (case l16=>k_is)
  (case c16=>k_is)
  (case k16=>k_is)
  (case a17=>k_is)
  (case l17=>k_is)
  (case c17=>k_is)
  (case k17=>k_is)
  (case a18=>k_is)
  (case l18=>k_is)
  (case c18=>k_is)
  (case k18=>k_is)
  (case a19=>k_is)
  (case l19=>k_is)
  (case c19=>k_is)
  (case k19=>k_is)
  (case a20=>k_is)
  (case l20=>k_is)
  (case c20=>k_is)
  (case k20=>k_is)
  (case a21=>k_is)
  (case l21=>k_is)
  (case c21=>k_is)
  (case k21=>k_is)
  (case a22=>k_is)
  (case l22=>k_is)
  (case c22=>k_is)
  (case k22=>k_is)
  (case a23=>k_is)
  (case l23=>k_is)
  (case c23=>k_is)
  (case k23=>k_is)
  (case a24=>k_is)
  (case l24=>k_is)
  (case c24=>k_is)
  (case k24=>k_is)
  (case a25=>k_is)
  (case l25=>k_is)
  (case c25=>k_is)
  (case k25=>k_is)
  (case a26=>k_is)
  (case l26=>k_is)
  (case c26=>k_is)
  (case k26=>k_is)
  (case a27=>k_is)
  (case l27=>k_is)
  (case c27=>k_is)
  (case k27=>k_is)
  (case a28=>k_is)
  (case l28=>k_is)
  (case c28=>k_is)
  (case k28=>k_is)
  (case a29=>k_is)
  (case l29=>k_is)
  (case c29=>k_is)
  (case k29=>k_is)
  (case a30=>k_is)
  (case l30=>k_is)
  (case c30=>k_is)
  (case k30=>k_is)
  (case a31=>k_is)
  (case l31=>k_is)
  (case c31=>k_is)
  (case k31=>k_is)
  (case a32=>k_is)
  (case l32=>k_is)
  (case c32=>k_is)
  (case k32=>k_is)
  (case a33=>k_is)
  (case l33=>k_is)
  (case c33=>k_is)
  (case k33=>k_is)
  (case a34=>k_is)
  (case l34=>k_is)
  (case c34=>k_is)
  (case k34=>k_is)
  (case a35=>k_is)
  (case l35=>k_is)
  (case c35=>k_is)
  (case k35=>k_is)
  (case a36=>k_is)
  (case l36=>k_is)
  (case c36=>k_is)
  (case k36=>k_is)
  (case a37=>k_is)
  (case l37=>k_is)
  (case c37=>k_is)
  (case k37=>k_is)
  (case a38=>k_is)
  (case l38=>k_is)
  (case c38=>k_is)
  (case k38=>k_is)
  (case a39=>k_is)
  (case l39=>k_is)
  (case c39=>k_is)
  (case k39=>k_is)
  (case a40=>k_is)
  (case l40=>k_is)
  (case c40=>k_is)
  (case k40=>k_is)
  (case a41=>k_is)
  (case l41=>k_is)
  (case c41=>k_is)
  (case k41=>k_is)
  (case a42=>k_is)
  (case l42=>k_is)
  (case c42=>k_is)
  (case k42=>k_is)
  (case a43=>k_is)
  (case l43=>k_is)
  (case c43=>k_is)
  (case k43=>k_is)
  (case a44=>k_is)
  (case l44=>k_is)
  (case c44=>k_is)
  (case k44=>k_is)
  (case a45=>k_is)
  (case l45=>k_is)
  (case c45=>k_is)
  (case k45=>k_is)
  (case a46=>k_is)
  (case l46=>k_is)
  (case c46=>k_is)
  (case Wl=>k_is)
  (case i46=>k_is)
  (case a47=>k_is)
  (case l47=>k_is)
  (case c47=>k_is)
  (case P0=>k_is)
  (case QK=>k_is)
  (case a48=>k_is)
  (case l48=>k_is)
  (case c48=>k_is)
  (case Wm=>k_is)
  (case i48=>k_is)
  (case a49=>k_is)
  (case l49=>k_is)
  (case c49=>k_is)
  (case k49=>k_is)
  (case i49=>k_is)
  (case a50=>k_is)
  (case l50=>k_is)
  (case c50=>k_is)
  (case Wn=>k_is)
  (case i50=>k_is)
  (case a51=>k_is)
  (case l51=>k_is)
  (case c51=>k_is)
  (case Wo=>k_is)
  (case i51=>k_is)
  (case a52=>k_is)
  (case l52=>k_is)
  (case c52=>k_is)
  (case k52=>k_is)
  (case i52=>k_is)
  (case a53=>k_is)
  (case l53=>k_is)
  (case c53=>k_is)
  (case Wq=>k_is)
  (case i53=>k_is)
  (case a54=>k_is)
  (case l54=>k_is)
  (case c54=>k_is)
  (case Vi=>k_is)
  (case Wr=>k_is)
  (case a55=>k_is)
  (case Pp=>k_is)
  (case c55=>k_is)
  (case k55=>k_is)
  (case i55=>k_is)
  (case a56=>k_is)
  (case l56=>k_is)
  (case c56=>k_is)
  (case Ws=>k_is)
  (case i56=>k_is)
  (case tm=>k_is)
  (case tq=>k_is)
  (case tw=>k_is)
  (case tD=>k_is)
  (case tF=>k_is)
  (case tG=>k_is)
  (case tH=>k_is)
  (case px=>k_is)
  (case pA=>k_is)
  (case pB=>k_is)
  (case pC=>k_is)
  (case iF=>k_is)
  (case iG=>k_is)
  (case fQ=>k_is)
  (case jl=>k_is)
  (case jm=>k_is)
  (case jn=>k_is)
  (case jo=>k_is)
  (case jq=>k_is)
  (case jr=>k_is)
  (case jt=>k_is)
  (case iH=>k_is)
  (case iI=>k_is)
  (case iJ=>k_is)
  (case iK=>k_is)
  (case fj=>k_is)
  (case fk=>k_is)
  (case d7=>k_is)
  (case fm=>k_is)
  (case lH=>k_is)
  (case lI=>k_is)
  (case lJ=>k_is)
  (case lK=>k_is)
  (case lL=>k_is)
  (case lM=>k_is)
  (case lN=>k_is)
  (case j2=>k_is)
  (case j3=>k_is)
  (case j4=>k_is)
  (case j5=>k_is)
  (case fR=>k_is)
  (case fS=>k_is)
  (case eL=>k_is)
  (case cZ=>k_is)
  (case da=>k_is)
  (case dc=>k_is)
  (case eM=>k_is)
  (case wQ=>k_is)
  (case wR=>k_is)
  (case wU=>k_is)
  (case wV=>k_is)
  (case wW=>k_is)
  (case wX=>k_is)
  (case wY=>k_is)
  (case tI=>k_is)
  (case tJ=>k_is)
  (case tK=>k_is)
  (case tL=>k_is)
  (case ju=>k_is)
  (case jv=>k_is)
  (case gH=>k_is)
  (case gI=>k_is)
  (case iL=>k_is)
  (case Jw=>k_is)
  (case Jx=>k_is)
  (case j6=>k_is)
  (case nE=>k_is)
  (case Aa=>k_is)
  (case kr=>k_is)
  (case pD=>k_is)
  (case lO=>k_is)
  (case lP=>k_is)
  (case pE=>k_is)
  (case pF=>k_is)
  (case pG=>k_is)
  (case pH=>k_is)
  (case pI=>k_is)
  (case pJ=>k_is)
  (case pK=>k_exc)
  (case Jy=>k_is)
  (case Jz=>k_is)
  (case Dz=>k_is)
  (case nF=>k_is)
  (case JA=>k_is)
  (case lQ=>k_is)
  (case JB=>k_is)
  (case DA=>k_is)
  (case JC=>k_is)
  (case JD=>k_is)
  (case Ab=>k_is)
  (case wZ=>k_is)
  (case JE=>k_is)
  (case Ac=>k_is)
  (case JF=>k_is)
