import PyProof.Rows.All
import Wide.All
import OpenK.AllK
import Wide.FinOn
import Lean
import PyProof.EqAt
import PyProof.EqKinds
import PyProof.TupleCall
import PyProof.CompMap
import PyProof.ZipIter
import PyProof.TupleIter
import PyProof.ExcAttrAll.ValueError
import KE.KSortKey
import KE.KRevIter
import KE.KLam
import KE.KNestM
import PyProof.Rows.Range3
import PyProof.EnumMake
import PyProof.JoinWalk
import PyProof.Rows.StrSplitJoin
import PyProof.Rows.StrWeight2
import PyProof.StrOps2
import KE.KSortTup
import KE.KMinKey
import PyProof.ListRange
import PyProof.Rows.StrCountLaw
import PyProof.Rows.SetFrom
import PyProof.Rows.FactsT2
import PyProof.StrLawsTight
import PyProof.StrLawsChain
import PyProof.Rows.StrItems
import KE.KIntText
import PyProof.StrLawsFirst
import PyProof.StrBlockL
import PyProof.Rows.StrNews2
import PyProof.StrWalks
import PySem.Challenge.RW_tuningyard_k67_respelled
set_option Elab.async false
set_option linter.all false
set_option maxRecDepth 100000
noncomputable section
open PySem.W (CodeHd Frag OpenLaw callWith_K cellsFrom_some clsIn codeIn emptyDict excIn findIn fnOf handedIn hasDictIn instObj isFn keepIn kitx_dict kitx_list kitx_tuple km_tabs_of lookIn makesIn methodObj mg_none_of mg_of mroIn nsIn plainGet plainGet_of plainOver specialIn subIn tabIn takerIn takesIn typeIn)
open PyProof.Rows (boot_abs boot_all boot_bool boot_int boot_isinstance boot_list boot_max boot_sorted boot_str boot_sum boot_tuple callWith_type1)
open List (all_cons all_eq_true all_nil any_eq_true append_assoc append_nil drop_zero ext_getElem filter_append flatten_cons forIn_cons forIn_nil getElem?_append_right getElem?_eq_getElem getElem?_eq_none getElem?_map getElem?_set_ne getElem?_set_self getElem_mem getElem_of_mem length_append length_cons length_drop length_map length_range length_replicate length_set length_take lookup_cons map_append map_congr_left map_cons map_map map_nil map_take mem_append mem_append_left mem_append_right mem_cons mem_cons_of_mem mem_cons_self mem_filter mem_filterMap mem_map mem_map_of_mem mem_of_getElem? mem_or_eq_of_mem_set mem_range mem_singleton nodup_cons not_mem_nil of_mem_zip pairwise_cons range_succ replicate_succ size_toArray sum_append sum_cons sum_singleton take_add_one take_length take_of_length_le take_zero zipIdx_cons zipIdx_nil)
open Nat (add_mul eq_zero_or_pos le_add_right le_of_ble_eq_true le_of_eq log2_lt lt_of_le_of_lt lt_succ_self min_eq_left mod_lt mul_assoc mul_le_mul mul_le_mul_left mul_le_mul_right mul_pos ne_of_lt one_mul pow_add pow_le_pow_right pow_succ sub_zero two_pow_pos zero_le)
open Int (emod_lt_of_pos emod_nonneg mul_neg natAbs_mul natAbs_sub_le toNat_natCast zero_mul)
section
open PySem PySem.Spec PyProof.Rows
abbrev aaD:=@Heap.get?_push_of_some
abbrev aaE:=@wpAny_bind
abbrev aaF:=@List.length_singleton
abbrev aaG:=@List.getElem?_eq_some_iff
abbrev aaH:=@Heap.lt_size
abbrev aaI:=@Heap.get?_push_size
abbrev aaJ:=@Nat.le_trans
abbrev aaK:=@Nat.le_refl
abbrev aaL:=@Nat.le_of_lt
abbrev aaM:=@List.getElem?_append_left
abbrev aaN:=@Option.some.inj
abbrev aaO:=@of_decide_eq_true
abbrev aaP:=@of_decide_eq_false
abbrev aaQ:=@decide_eq_false
abbrev aaR:=@decide_eq_true
abbrev aaS:=@Option.isSome_iff_exists
abbrev aaT:=@wpAny_pure
abbrev aaU:=@wpAny_mono
abbrev aaV:=@List.mem_of_mem_take
abbrev aaW:=@List.length_filter_le
abbrev aaX:=@Int.fdiv_eq_ediv_of_nonneg
abbrev aaY:=@getElem?_eq_getElem
abbrev aaZ:=@mem_append_right
abbrev aa0:=@mem_append_left
abbrev aa1:=@mem_singleton
abbrev aa2:=@mem_append
abbrev aa3:=@mem_of_getElem?
abbrev aa4:=@length_map
abbrev aa5:=@length_append
abbrev aa6:=@mem_cons_of_mem
abbrev aa7:=@mem_cons
abbrev aa8:=@mem_map
abbrev aa9:=@mem_filter
abbrev aba:=@pow_le_pow_right
abbrev abb:=@lt_of_le_of_lt
abbrev abc:=@mul_le_mul_right
abbrev abd:=@mul_le_mul
abbrev abe:=@getElem?_append_right
abbrev abf:=@length_range
abbrev abg:=@mem_range
abbrev abh:=@take_length
abbrev abi:=@length_take
abbrev abj:=@size_toArray
abbrev abk:=@getElem?_map
abbrev abl:=@map_append
abbrev abm:=@map_map
abbrev abn:=@map_congr_left
abbrev abo:=@take_of_length_le
abbrev abp:=@natAbs_mul
abbrev abq:=@two_pow_pos
abbrev abr:=@zero_le
abbrev abt:=@ne_of_lt
abbrev abu:=@le_of_ble_eq_true
abbrev abv:=@pairwise_cons
abbrev abw:=@getElem_mem
abbrev abx:=@getElem_of_mem
abbrev aby:=@toNat_natCast
end
abbrev je (l:List PySem.Str):=List.Nodup l
namespace L2
open PySem PySem.Spec PyProof.Rows
abbrev Key:=Sum Int Str
def Ju:Key->Value->Bool
 | .inl k,v=>Value.isInt k v
 | .inr x,v=>Value.isStrOf x v
def Tq(w:World):Key->Int
 | .inl k=>hashInt k
 | .inr x=>hashStr w x
theorem cD:∀ {k:Key} {v:Value},Ju k v=true->(∃ i t,k=Sum.inl i/\v=Value.int i t)\/(∃ x t,k=Sum.inr x/\v=Value.str x t)
 | .inl i,v,h=>by
  obtain ⟨t,e⟩:=Value.isInt_shape (k:=i) (v:=v) h
  exact .inl ⟨i,t,rfl,e⟩
 | .inr x,v,h=>by
  obtain ⟨t,e⟩:=Value.isStrOf_shape (x:=x) (v:=v) h
  exact .inr ⟨x,t,rfl,e⟩
theorem Kw(a b:Int):decide ((Sum.inl a:Key)=Sum.inl b)=(a == b):=by
 by_cases e:a=b
 ·subst e;simp
 ·have h:¬ (Sum.inl a:Key)=Sum.inl b:=fun q=>e (Sum.inl.inj q)
  rw [aaQ h]
  exact (beq_eq_false_iff_ne.mpr e).symm
theorem Kx(a b:Str):decide ((Sum.inr a:Key)=Sum.inr b)=decide (a=b):=by
 by_cases e:a=b
 ·subst e;simp
 ·have h:¬ (Sum.inr a:Key)=Sum.inr b:=fun q=>e (Sum.inr.inj q)
  rw [aaQ h,aaQ e]
theorem Ky(a:Int)(b:Str):decide ((Sum.inl a:Key)=Sum.inr b)=false:=aaQ (fun q=>nomatch q)
theorem Kz(a:Str)(b:Int):decide ((Sum.inr a:Key)=Sum.inl b)=false:=aaQ (fun q=>nomatch q)
def zT(prog:Program)(w:World):PySem.KeyKind prog w Key where
 is:=Ju
 hash:=Tq w
 inj:=fun v a b ha hb=>by
  rcases cD ha with ⟨i,t,rfl,rfl⟩|⟨x,t,rfl,rfl⟩
  ·rcases cD hb with ⟨j,u,rfl,e⟩|⟨y,u,rfl,e⟩
   ·injection e with e1 _;rw [e1]
   ·exact nomatch e
  ·rcases cD hb with ⟨j,u,rfl,e⟩|⟨y,u,rfl,e⟩
   ·exact nomatch e
   ·injection e with e1 _;rw [e1]
 byValue:=fun k v h=>by
  rcases cD h with ⟨i,t,rfl,rfl⟩|⟨x,t,rfl,rfl⟩ <;> rfl
 pyHash:=fun hv h=>by
  rcases cD hv with ⟨i,t,rfl,rfl⟩|⟨x,t,rfl,rfl⟩
  ·exact wpAny_pyHash_int h
  ·exact wpAny_pyHash_str h
 eqBool:=fun hu hv h=>by
  rcases cD hu with ⟨i,t,rfl,rfl⟩|⟨x,t,rfl,rfl⟩
  ·rcases cD hv with ⟨j,u,rfl,rfl⟩|⟨y,u,rfl,rfl⟩
   ·rw [Kw] at h;exact wpAny_eqBool_int h
   ·rw [Ky] at h;exact SeqAt.EqAt.int_str i t y u _ _ _ _ h
  ·rcases cD hv with ⟨j,u,rfl,rfl⟩|⟨y,u,rfl,rfl⟩
   ·rw [Kz] at h;exact SeqAt.EqAt.str_int x t j u _ _ _ _ h
   ·rw [Kx] at h;exact wpAny_eqBool_str h
 «strs»:=fun k x t v h=>by
  rcases cD h with ⟨i,u,rfl,e⟩|⟨y,u,rfl,e⟩
  ·exact nomatch e
  ·injection e with e1 _
   subst e1
   cases v <;> rfl
inductive V where
 | dB|bl (b:Bool)|int (i:Int)|str (x:Str)|CD (b:Array UInt8)|KA (b:UInt64)|ref (a:Addr)|ty (n:String)
 deriving DecidableEq
def RelV:V->Value->Prop
 | .dB,u=>u=Value.none
 | .bl b,u=>u=Value.bool b
 | .int i,u=>∃ t,u=Value.int i t
 | .str x,u=>∃ t,u=Value.str x t
 | .CD b,u=>∃ t,u=Value.bytes b t
 | .KA b,u=>∃ t,u=Value.float b t
 | .ref a,u=>u=Value.ref a
 | .ty n,u=>u=Value.type n
abbrev Vals:List V->List Value->Prop:=Paired RelV
theorem Vals.length{xs:List V}{us:List Value}(r:Vals xs us):xs.length=us.length:=Paired.length r
theorem Vals.get:∀ {xs:List V} {us:List Value} {i:Nat} {x:V},Vals xs us->xs[i]?=some x->∃ u,us[i]?=some u/\RelV x u
 | _,_,_,_,.nil,e=>by simp at e
 | _,_,0,_,.cons r _,e=>by simp at e;subst e;exact⟨_,rfl,r⟩
 | _,_,i+1,x,.cons _ t,e=>by
  obtain ⟨u,h1,h2⟩:=Vals.get (i:=i) (x:=x) t (by simpa using e)
  exact⟨u,by simpa using h1,h2⟩
theorem Vals.set{x:V}{u:Value}(r:RelV x u):∀ {xs:List V} {us:List Value} (i:Nat),Vals xs us->Vals (xs.set i x) (us.set i u)
 | _,_,_,.nil=>.nil
 | _,_,0,.cons _ t=>.cons r t
 | _,_,i+1,.cons q t=>.cons q (Vals.set r i t)
theorem Vals.append:∀ {xs ys:List V} {us ws:List Value},Vals xs us->Vals ys ws->Vals (xs++ys) (us++ws)
 | _,_,_,_,.nil,s=>s
 | _,_,_,_,.cons r t,s=>.cons r (Vals.append t s)
theorem Vals.take:∀ {xs:List V} {us:List Value} (n:Nat),Vals xs us->Vals (xs.take n) (us.take n)
 | _,_,0,_=>.nil
 | _,_,_+1,.nil=>.nil
 | _,_,n+1,.cons r t=>.cons r (Vals.take n t)
theorem Vals.drop:∀ {xs:List V} {us:List Value} (n:Nat),Vals xs us->Vals (xs.drop n) (us.drop n)
 | _,_,0,r=>r
 | _,_,_+1,.nil=>.nil
 | _,_,n+1,.cons _ t=>Vals.drop n t
def qV:Option V->Option Value->Prop
 | some v,some u=>RelV v u
 | none,none=>True
 | _,_=>False
def KV{κ:Type}:List (κ×V)->List (κ×Value)->Prop:=Paired fun (p:κ×V) (q:κ×Value)=>p.1=q.1/\RelV p.2 q.2
def kV:Key->V
 | .inl i=>.int i
 | .inr x=>.str x
inductive HO where
 /-- a list -/
 | lst (xs:List V)
 /-- a tuple (never changes) -/
 | tup (xs:List V)
 /-- a dict Oe keys are ints and texts;one Oe keys are tuples of ints and texts (Nz empty one is both) -/
 | dK (kM:List (Key×V))|dT (kM:List (List Key×V))
 /-- a set of ints: its members,its size -/
 | set (S:Int->Bool) (n:Nat)
 /-- an instance of Nz class at C,its dict at dx,its attributes -/
 | ins (C dx:Addr) (fs:List (Str×V))
 /-- Nz dict of Nz instance at x -/
 | own (x:Addr)
 /-- Nz dict of an exception -/
 | xd (fs:List (Str×V))
 /-- a bound method,f of x -/
 | met (f x:Addr)
 /-- a range object lo,lo+1,.. below hi -/
 | Sn (lo hi:Int)
 /-- a Of that is known to Nz object (Nz Tr;a dict while a loop walks it): read,never written while it is so -/
 | sj (o:Obj) (u:HO)
 /-- a code Og table -/
 | oB (ps:Array Value)
 /-- any other Of,by what is true of its one object (a def of one's own: SetO a S n:=HO.ext fun h=>..) -/
 | ext (φ:Heap->Prop)
abbrev Hp:=Addr->Option HO
def upd(H:Hp)(a:Addr)(o:HO):Hp:=fun b=>if b=a then some o else H b
theorem aw{H:Hp}{a:Addr}{o:HO}:upd H a o a=some o:=by unfold upd;rw [if_pos rfl]
theorem au{H:Hp}{a b:Addr}{o:HO}(h:b≠a):upd H a o b=H b:=by unfold upd;rw [if_neg h]
theorem aF{H:Hp}{a b:Addr}{o:HO}(h:H a=some o)(h':H b=none):a≠b:=by
 intro e;subst e;rw [h] at h';cases h'
section
variable (P:Program)(w:World)
def dv(H:Hp)(h:Heap)(a:Addr):HO->Prop
 | .lst xs=>xs.length<=sizeLine/\∃ (its:List Value) (n:Nat),Vals xs its/\h.get? a=some { cls:=.type "list",data:=.seq its.toArray n }
 | .tup xs=>xs.length<=sizeLine/\∃ its:List Value,Vals xs its/\IsTup h a its.toArray
 | .dK kM=>kM.length<=sizeLine/\(a == sysModules)=false/\∃ vs,KV kM vs/\h.DictOf (zT P w) a vs
 | .dT kM=>kM.length<=sizeLine/\(a == sysModules)=false/\∃ xs:List (List Key×Addr×Value),
   Paired (fun (p:List Key×V) (q:List Key×Addr×Value)=>p.1=q.1/\H q.2.1=some (.tup (p.1.map kV))/\RelV p.2 q.2.2) kM xs /\
   ∃ o es ep,h.get? a=some o/\o.ExactDict/\o.data=.dict es ep/\es.toList=xs.map (entryOfKey (tupleKind (zT P w)))/\(xs.map (·.1)).Nodup
 | .set S n=>h.SetOf (intKind P w) a S n
 | .ins C dx fs=>H dx=some (.own a)/\fs.length<=1000/\dx≠a/\h.get? a=some (instObj C dx) /\
   ∃ mA,h.Ns1 dx mA/\(∀ f,qV (fs.lookup f) (mA f))/\PySem.Within mA (fs.map (·.1))
 | .own _=>∃ o,h.get? a=some o
 | .xd fs=>∃ mA,h.Ns1 a mA/\∀ f,qV (fs.lookup f) (mA f)
 | .Sn lo hi=>∃ t u v,h.get? a=some { cls:=.type "range",data:=.fields #[.int lo t,.int hi u,.int 1 v] }
 | .sj o u=>h.get? a=some o/\dv H h a u
 | .oB ps=>h.get? a=some { cls:=.none,data:=.fields ps }
 | .met f x=>h.get? a=some (methodObj (.ref f) (.ref x))
 | .ext φ=>φ h/\(∃ o,h.get? a=some o)/\∀ h1 h2:Heap,φ h1->(∀ o,h1.get? a=some o->h2.get? a=some o)->φ h2
def ft(H:Hp)(h:Heap):Prop:=∀ a o,H a=some o->dv P w H h a o
end
section
variable {P:Program}{w:World}{H H':Hp}{h h':Heap}{a:Addr}{o:HO}
theorem dv.lt(x:dv P w H h a o):a<h.objs.size:=by
 cases o with
 | lst xs=>obtain ⟨_,_,_,_,e⟩:=x;exact aaH e
 | tup xs=>obtain ⟨_,_,_,p⟩:=x;exact p.lt
 | dK kM=>obtain ⟨_,_,_,_,o,_,_,e,_⟩:=x;exact aaH e
 | dT kM=>obtain ⟨_,_,_,_,o,_,_,e,_⟩:=x;exact aaH e
 | set S n=>obtain ⟨o,_,_,_,e,_⟩:=x;exact aaH e
 | ins C dx fs=>obtain ⟨_,_,_,e,_⟩:=x;exact aaH e
 | own y=>obtain ⟨_,e⟩:=x;exact aaH e
 | xd fs=>obtain ⟨_,⟨_,_,_,e,_⟩,_⟩:=x;exact aaH e
 | Sn lo hi=>obtain ⟨_,_,_,e⟩:=x;exact aaH e
 | sj ob u=>obtain ⟨e,_⟩:=x;exact aaH e
 | oB ps=>exact aaH (show h.get? a=some _ from x)
 | met f y=>exact aaH (show h.get? a=some _ from x)
 | ext φ=>obtain ⟨_,⟨_,e⟩,_⟩:=x;exact aaH e
theorem Paired.Oh{α β:Type}{F G:α->β->Prop}:∀ {l₁:List α} {l₂:List β},Paired F l₁ l₂->(∀ a b,F a b->G a b)->Paired G l₁ l₂
 | _,_,.nil,_=>.nil
 | _,_,.cons r t,f=>.cons (f _ _ r) (Paired.Oh t f)
theorem dv.kN(x:dv P w H h a o)(k:∀ b u,(b=a\/H b=some (.own a))->h.get? b=some u->h'.get? b=some u)
  (ho:∀ b,H b=some (.own a)->H' b=some (.own a)) (ht:∀ b xs,H b=some (.tup xs)->H' b=some (.tup xs)):dv P w H' h' a o:=by
 induction o with
 | lst xs=>obtain ⟨z,its,n,r,e⟩:=x;exact⟨z,its,n,r,k _ _ (.inl rfl) e⟩
 | tup xs=>obtain ⟨z,its,r,ob,e,c⟩:=x;exact⟨z,its,r,ob,k _ _ (.inl rfl) e,c⟩
 | dK kM=>obtain ⟨z,y,vs,r,ob,es,ep,e,c⟩:=x;exact⟨z,y,vs,r,ob,es,ep,k _ _ (.inl rfl) e,c⟩
 | dT kM =>
  obtain ⟨z,y,xs,r,ob,es,ep,e,c⟩:=x
  exact⟨z,y,xs,Paired.Oh r fun p q z=>⟨z.1,ht _ _ z.2.1,z.2.2⟩,ob,es,ep,k _ _ (.inl rfl) e,c⟩
 | set S n=>obtain ⟨ob,es,ep,t,e,c⟩:=x;exact⟨ob,es,ep,t,k _ _ (.inl rfl) e,c⟩
 | ins C dx fs =>
  obtain ⟨d,z,ne,e,mA,⟨od,es,ep,e2,c⟩,r⟩:=x
  exact⟨ho _ d,z,ne,k _ _ (.inl rfl) e,mA,⟨od,es,ep,k _ _ (.inr d) e2,c⟩,r⟩
 | own y=>obtain ⟨ob,e⟩:=x;exact⟨ob,k _ _ (.inl rfl) e⟩
 | xd fs=>obtain ⟨mA,⟨od,es,ep,e,c⟩,r⟩:=x;exact⟨mA,⟨od,es,ep,k _ _ (.inl rfl) e,c⟩,r⟩
 | Sn lo hi=>obtain ⟨t,u,v,e⟩:=x;exact⟨t,u,v,k _ _ (.inl rfl) e⟩
 | sj ob u ih=>obtain ⟨e,q⟩:=x;exact⟨k _ _ (.inl rfl) e,ih q⟩
 | oB ps =>
  have e:h.get? a=some { cls:=.none,data:=.fields ps }:=x
  show h'.get? a=some { cls:=.none,data:=.fields ps }
  exact k a _ (.inl rfl) e
 | met f y =>
  have e:h.get? a=some (methodObj (.ref f) (.ref y)):=x
  show h'.get? a=some (methodObj (.ref f) (.ref y))
  exact k a _ (.inl rfl) e
 | ext φ=>obtain ⟨p,⟨o,e⟩,st⟩:=x;exact⟨st _ _ p fun o q=>k _ _ (.inl rfl) q,⟨o,k _ _ (.inl rfl) e⟩,st⟩
theorem ft.lt(x:ft P w H h)(e:H a=some o):a<h.objs.size:=(x a o e).lt
theorem ft.fresh(x:ft P w H h)(e:h.objs.size<=a):H a=none:=by
 cases q:H a with
 | none=>rfl
 | some u=>exact absurd (Nat.lt_of_lt_of_le (x.lt q) e) (Nat.lt_irrefl _)
theorem ft.kept(x:ft P w H h)(k:∀ b u,h.get? b=some u->h'.get? b=some u):ft P w H h':=fun a o e =>
 (x a o e).kN (fun b u _ q=>k b u q) (fun _ q=>q) fun _ _ q=>q
theorem ft.laid(x:ft P w H h)(k:∀ b u,h.get? b=some u->h'.get? b=some u)(hp:h.objs.size<=a)(new:dv P w (upd H a o) h' a o):ft P w (upd H a o) h':=fun b u e=>by
 have hn:=x.fresh hp
 by_cases hb:b=a
 ·subst hb;rw [aw] at e;cases e;exact new
 ·rw [au hb] at e
  exact (x b u e).kN (fun c v _ q=>k c v q) (fun c q=>by rw [au (aF q hn)];exact q) fun c xs q=>by rw [au (aF q hn)];exact q
end
def Rd(H:Hp)(a:Addr)(u:HO):Prop:=H a=some u\/∃ o,H a=some (.sj o u)
theorem Rd.ok{P:Program}{w:World}{H:Hp}{h:Heap}{a:Addr}{u:HO}(r:Rd H a u)(x:ft P w H h):dv P w H h a u:=by
 rcases r with r|⟨o,r⟩
 ·exact x a u r
 ·obtain ⟨_,q⟩:=x a _ r
  exact q
def So:Option HO->Prop
 | some (.lst _)=>True
 | some (.dK _)=>True
 | some (.dT _)=>True
 | some (.set _ _)=>True
 | some (.ins _ _ _)=>True
 | some (.ext _)=>True
 | _=>False
section
variable {P:Program}{w:World}{H:Hp}{h h':Heap}{x e:Addr}{o':HO}
theorem ft.write(ok:ft P w H h)(mu:So (H x))(he:e=x\/H e=some (.own x))(k:∀ b u,b≠e->h.get? b=some u->h'.get? b=some u)(NA:∃ u,h'.get? e=some u)
  (new:dv P w (upd H x o') h' x o'):ft P w (upd H x o') h':=fun b u q=>by
 have Oi:∀ c y,H c=some (.own y)->c≠x:=fun c y r z=>by subst z;rw [r] at mu;exact mu
 have Tt:∀ c xs,H c=some (.tup xs)->c≠x:=fun c xs r z=>by subst z;rw [r] at mu;exact mu
 by_cases hb:b=x
 ·subst hb;rw [aw] at q;cases q;exact new
 ·rw [au hb] at q
  by_cases vG:b=e
  ·have q':H b=some (.own x):=by
    rcases he with z|z
    ·exact absurd (vG.trans z) hb
    ·rw [vG];exact z
   rw [q] at q';cases q'
   obtain ⟨v,hv⟩:=NA
   exact⟨v,by rw [vG];exact hv⟩
  ·refine (ok b u q).kN (fun c v hc r=>k c v ?_ r) (fun c r=>by rw [au (Oi c b r)];exact r) fun c xs r=>by rw [au (Tt c xs r)];exact r
   rcases hc with rfl|hc
   ·exact vG
   ·rintro rfl
    rcases he with z|z
    ·exact Oi c b hc z
    ·rw [hc] at z;cases z;exact hb rfl
end
structure Un(fs ex:List Addr)(H H':Hp)(h h':Heap):Prop where
 keep:∀ b o,h.get? b=some o->H b=none->b∉fs->b∉ex->h'.get? b=some o
 slot:∀ b o,h.get? b=some o->H b=none->b∈fs->b∉ex->∃ sl,h'.get? b=some { o with slots:=sl }
 free:∀ b o,h.get? b=some o->H b=none->b∉ex->H' b=none
 there:∀ b o,h.get? b=some o->b∉ex->∃ o',h'.get? b=some o'
 il:∀ b xs,H b=some (.tup xs)->H' b=some (.tup xs)
 gZ:∀ b o u,H b=some (.sj o u)->H' b=some (.sj o u)
 hJ:∀ b ps,H b=some (.oB ps)->∃ more,H' b=some (.oB (ps++more))
section
variable {fs fs' ex ex':List Addr}{H H1 H2:Hp}{h h1 h2 h':Heap}{a x e:Addr}{o:HO}
theorem Un.any(u:Un fs ex H H1 h h1){b:Addr}{ob:Obj}(q:h.get? b=some ob)(n:H b=none)(hx:b∉ex):∃ sl,h1.get? b=some { ob with slots:=sl }:=by
 by_cases hb:b∈fs
 ·exact u.slot b ob q n hb hx
 ·exact⟨ob.slots,u.keep b ob q n hb hx⟩
theorem Un.kept(k:∀ b u,h.get? b=some u->h'.get? b=some u):Un fs ex H H h h' :=
 ⟨fun b ob q _ _ _=>k b ob q,fun b ob q _ _ _=>⟨ob.slots,k b ob q⟩,fun _ _ _ n _=>n,fun b ob q _=>⟨ob,k b ob q⟩,fun _ _ q=>q,fun _ _ _ q=>q,fun _ ps q=>⟨#[],by rw [q];simp⟩⟩
theorem Un.refl:Un fs ex H H h h:=Un.kept fun _ _ q=>q
theorem Un.laid(k:∀ b u,h.get? b=some u->h'.get? b=some u)(hp:h.objs.size<=a)(hn:H a=none):Un fs ex H (upd H a o) h h' where
 keep:=fun b u q _ _ _=>k b u q
 slot:=fun b u q _ _ _=>⟨u.slots,k b u q⟩
 free:=fun b u q n _=>by rw [au (abt (Nat.lt_of_lt_of_le (aaH q) hp))];exact n
 there:=fun b u q _=>⟨u,k b u q⟩
 il:=fun b xs q=>by rw [au (aF q hn)];exact q
 gZ:=fun b u xs q=>by rw [au (aF q hn)];exact q
 hJ:=fun b ps q=>⟨#[],by rw [au (aF q hn),q];simp⟩
theorem Un.write(mu:So (H x))(he:e=x\/H e=some (.own x))(k:∀ b u,b≠e->h.get? b=some u->h'.get? b=some u)(NA:∃ u,h'.get? e=some u):Un fs ex H (upd H x o) h h':=by
 have hx:∀ b,H b=none->b≠x:=fun b n z=>by subst z;rw [n] at mu;exact mu
 have hb:∀ b,H b=none->b≠e:=fun b n z=>by
  subst z
  rcases he with r|r
  ·exact hx b n r
  ·rw [n] at r;cases r
 have hm:∀ b u,H b=some u->¬ So (some u)->b≠x:=fun b u q nm z=>by subst z;rw [q] at mu;exact nm mu
 refine⟨fun b u q n _ _=>k b u (hb b n) q,fun b u q n _ _=>⟨u.slots,k b u (hb b n) q⟩,fun b u q n _=>by rw [au (hx b n)];exact n,fun b u q _=>?_,
  fun b xs q=>by rw [au (hm b _ q fun z=>z)];exact q,fun b u xs q=>by rw [au (hm b _ q fun z=>z)];exact q,fun b ps q=>⟨#[],by rw [au (hm b _ q fun z=>z),q];simp⟩⟩
 by_cases vG:b=e
 ·subst vG;exact NA
 ·exact⟨u,k b u vG q⟩
end
def Sr(h:Heap)(H:Hp):List Addr:=(List.range h.objs.size).filter fun a=>(H a).isSome
def nY(h:Heap)(H:Hp):Heap:=PySem.W.hideAll h (Sr h H)
theorem AZ(h:Heap)(H:Hp):(nY h H).objs.size=h.objs.size:=PySem.W.hideAll_size _ _
theorem C3{h:Heap}{H:Hp}{b:Addr}{o:Obj}(e:h.get? b=some o)(n:H b=none):(nY h H).get? b=some o :=
 PySem.W.hideAll_get _ e fun hm=>by
  have q:(H b).isSome=true:=(aa9.mp hm).2
  rw [n] at q;simp at q
theorem Gx{h:Heap}{H:Hp}{b:Addr}{o:Obj}(e:(nY h H).get? b=some o):h.get? b=some o/\H b=none:=by
 have e':h.get? b=some o:=PySem.W.of_hideAll (Sr h H) e
 refine⟨e',?_⟩
 cases q:H b with
 | none=>rfl
 | some x =>
  have hm:b∈Sr h H:=aa9.mpr ⟨abg.mpr (aaH e'),by simp [q]⟩
  have z:(nY h H).get? b=none:=PySem.W.hideAll_none (Sr h H) hm
  rw [z] at e;cases e
def Gy(g h:Heap)(L:Addr):List (Addr×Obj):=(List.range h.objs.size).filterMap fun a=>if a=L\/(g.get? a).isSome=true then none else (h.get? a).map fun o=>(a,o)
def rest(g h:Heap)(L d:Addr):List (Addr×Obj):=(Gy g h L).filter fun p=>decide (p.1≠d)
structure Mod(K:Frag)(mg:Str->Option Value)(base:Heap):Prop where
 Gz:K.In base
 glob:base.Ns mainGlobals mg
 blt:∃ mb,base.Ns builtinsNs mb/\∀ x:Str,x≠"__name__"->mb x=bootBuiltins x
 nolimit:base.NoLimit
structure Cx where
 prog:Program
 w:World
 K:Frag
 mg:Str->Option Value
 base:Heap
 A:Around
 N:List Str
 s₀:Shared
 H₀:Hp
 env:Env
 outer:List Env
 stack:List Env
 ex:List Addr
 fn:Str->Bool
 calm:Bool
 pn:List (Addr×Obj)
 xe:Value->Shared->Prop
def jV(l:List Env):List Addr:=l.filterMap (·.frame)
abbrev Cx.fs(X:Cx):List Addr:=jV X.outer
def KD(sc:Scope)(x:Str):Prop:=sc.names.lookup x=some .local\/sc.names.lookup x=some .cell\/sc.names.lookup x=some .free
def Loc(sc:Scope)(x:Str):Prop:=sc.names.lookup x=some .local\/sc.names.lookup x=some .cell
def Look(env:Env)(h:Heap)(m:Str->Option Value)(x:Str)(u:Value):Prop :=
 (env.kindOf x=some .local/\m x=some u)\/((env.kindOf x=some .cell\/env.kindOf x=some .free)/\∃ c,env.cells.lookup x=some c/\h.IsCell c (some u))
structure Cx.Ok(X:Cx):Prop where
 mod:Mod X.K X.mg X.base
 kind:X.env.scope.kind=.function
 glob:X.env.globals=mainGlobals
 blt:X.env.builtins=builtinsNs
 above:X.s₀.heap.objs.size<=X.env.locals
 inj:∀ x y c,X.env.cells.lookup x=some c->X.env.cells.lookup y=some c->x=y
 has:∀ x,(X.env.kindOf x=some .cell\/X.env.kindOf x=some .free)->∃ c,X.env.cells.lookup x=some c
 Ga:∀ x c,X.fn x=true->X.env.cells.lookup x=some c->X.s₀.heap.objs.size<=c
 hd:X.calm=true->X.A.handled=none
 frames:X.A.frames=some X.stack
 Jv:X.stack=X.outer\/(X.stack=X.env::X.outer/\X.env.frame=some X.env.locals)
 NB:∀ b∈X.ex,b≠X.env.locals/\∀ x c,X.env.cells.lookup x=some c->c≠b
 bs:∀ b o,X.base.get? b=some o->X.s₀.heap.get? b=some o/\X.H₀ b=none
 qW:X.base.objs.size<=X.s₀.heap.objs.size
 oS:∀ b o,X.base.get? b=some o->b∉X.ex
 vH:∀ b∈X.ex,b∉X.fs
 ip:X.s₀.heap.FunFrames X.base X.outer
 CF:∀ b∈X.fs,X.H₀ b=none
structure Inv(X:Cx)(pins:List (Addr×Obj))(σ:List (Option V))(H:Hp)(s:Shared):Prop where
 ok:X.Ok
 os:s.os=X.s₀.os
 bare:AllBare s.gens
 base:Un X.fs X.ex X.H₀ H X.s₀.heap s.heap
 loc:∃ m,s.heap.Ns X.env.locals m/\∀ (i:Nat) (x:Str) (v:V),X.N[i]?=some x->σ[i]?=some (some v)->KD X.env.scope x->∃ u,RelV v u/\Look X.env s.heap m x u
 cell:∀ x c,X.env.cells.lookup x=some c->∃ v,s.heap.IsCell c v
 free:H X.env.locals=none
 dF:∀ x c,X.env.cells.lookup x=some c->H c=none
 pin:∀ p∈X.pn++pins,s.heap.get? p.1=some p.2/\H p.1=none/\p.1≠X.env.locals/\p.1∉X.fs/\∀ v,p.2.data≠.cell v
 aN:ft X.prog X.w H s.heap
 len:σ.length=X.N.length
section
variable {X:Cx}{pins:List (Addr×Obj)}{σ:List (Option V)}{H H':Hp}{s:Shared}{h':Heap}
theorem Cx.Ok.Tv(ok:X.Ok){b:Addr}{o:Obj}(e:X.base.get? b=some o):b∉X.fs:=fun hb=>by
 have:=(ok.ip.mem hb).1
 rw [e] at this;cases this
theorem Inv.bs(I:Inv X pins σ H s):∀ b o,X.base.get? b=some o->s.heap.get? b=some o/\H b=none:=fun b o e =>
 ⟨I.base.keep b o (I.ok.bs b o e).1 (I.ok.bs b o e).2 (I.ok.Tv e) (I.ok.oS b o e),I.base.free b o (I.ok.bs b o e).1 (I.ok.bs b o e).2 (I.ok.oS b o e)⟩
theorem Inv.bk(I:Inv X pins σ H s):∀ b o,X.base.get? b=some o->s.heap.get? b=some o:=fun b o e=>(I.bs b o e).1
theorem Inv.mod(I:Inv X pins σ H s):Mod X.K X.mg X.base:=I.ok.mod
theorem Inv.i9(I:Inv X pins σ H s):X.K.In s.heap:=I.ok.mod.Gz.keeps I.bk
theorem Inv.nolimit(I:Inv X pins σ H s):s.heap.NoLimit:=I.ok.mod.nolimit.keeps I.bk
theorem Inv.lt(I:Inv X pins σ H s):X.env.locals<s.heap.objs.size:=let ⟨_,hn,_⟩:=I.loc;hn.lt
theorem Inv.sz(I:Inv X pins σ H s):X.s₀.heap.objs.size<=s.heap.objs.size:=aaJ I.ok.above (aaL I.lt)
theorem Inv.Tw(I:Inv X pins σ H s){a:Addr}(h:s.heap.objs.size<=a):a∉X.fs:=fun hb=>by
 obtain ⟨_,o,ho,_⟩:=I.ok.ip.mem hb
 exact absurd (Nat.lt_of_lt_of_le (aaH ho) (aaJ I.sz h)) (Nat.lt_irrefl _)
theorem Inv.A0(I:Inv X pins σ H s):∀ x c,X.env.cells.lookup x=some c->c≠X.env.locals:=fun x c e z=>by
 obtain ⟨v,o,ho,hd⟩:=I.cell x c e
 obtain ⟨m,⟨o',es,ep,KG,Jw,_⟩,_⟩:=I.loc
 rw [z,KG] at ho;cases ho;rw [Jw] at hd;cases hd
theorem Inv.ip(I:Inv X pins σ H s):s.heap.FunFrames X.base X.outer:=by
 have all:∀ (l:List Env),(∀ b∈jV l,b∈X.fs)->X.s₀.heap.FunFrames X.base l->s.heap.FunFrames X.base l:=by
  intro l
  induction l with
  | nil=>intro _ _;trivial
  | cons env r ih =>
   intro hs hl
   obtain ⟨hk,⟨L,o,hf,hn,ho,hd⟩,hr⟩:=hl
   have hL:L∈X.fs:=hs L (by unfold jV;rw [List.filterMap_cons,hf];exact mem_cons_self)
   obtain ⟨sl,e⟩:=I.base.slot L o ho (I.ok.CF L hL) hL fun z=>I.ok.vH L z hL
   exact⟨hk,⟨L,_,hf,hn,e,hd⟩,ih (fun b hb=>hs b (by unfold jV;rw [List.filterMap_cons,hf];exact aa6 _ hb)) hr⟩
 exact all X.outer (fun _ hb=>hb) I.ok.ip
theorem Inv.stack(I:Inv X pins σ H s):s.heap.FunFrames X.base X.stack:=by
 rcases I.ok.Jv with e|⟨e,hf⟩
 ·rw [e];exact I.ip
 ·rw [e]
  obtain ⟨m,hn,_⟩:=I.loc
  refine .cons (by rw [I.ok.kind];decide) hf hn ?_ I.ip
  exact Heap.get?_none_of_le (aaJ I.ok.qW I.ok.above)
theorem Inv.iq(I:Inv X pins σ H s):∀ b∈jV X.stack,b∈X.env.locals::X.fs:=fun b hb=>by
 rcases I.ok.Jv with e|⟨e,hf⟩
 ·rw [e] at hb;exact aa6 _ hb
 ·rw [e] at hb
  unfold jV at hb
  rw [List.filterMap_cons,hf] at hb
  exact hb
theorem Inv.eC(I:Inv X pins σ H s):∀ b∈jV X.stack,H b=none:=fun b hb=>by
 rcases aa7.mp (I.iq b hb) with e|hb
 ·rw [e];exact I.free
 ·obtain ⟨_,o,ho,_⟩:=I.ok.ip.mem hb
  exact I.base.free b o ho (I.ok.CF b hb) fun z=>I.ok.vH b z hb
theorem Inv.step{g':Array GenState}{t':Nat}{d':Drawn}{ch:List Addr}(I:Inv X pins σ H s)
  (vA:∀ b∈ch,(b∈X.ex\/X.s₀.heap.objs.size<=b)/\b≠X.env.locals/\(∀ x c,X.env.cells.lookup x=some c->c≠b)/\∀ p∈X.pn++pins,p.1≠b)
  (keep:∀ b o,b≠X.env.locals->b∉X.fs->b∉ch->s.heap.get? b=some o->H b=none->h'.get? b=some o)
  (slot:∀ b o,b≠X.env.locals->b∈X.fs->b∉ch->s.heap.get? b=some o->H b=none->∃ sl,h'.get? b=some { o with slots:=sl }) (free:∀ b o,b∉ch->s.heap.get? b=some o->H b=none->H' b=none)
  (there:∀ b o,b∉ch->s.heap.get? b=some o->∃ o',h'.get? b=some o')
  (il:∀ b xs,H b=some (.tup xs)->H' b=some (.tup xs)) (gZ:∀ b o u,H b=some (.sj o u)->H' b=some (.sj o u)) (hJ:∀ b ps,H b=some (.oB ps)->∃ more,H' b=some (.oB (ps++more)))
  (ns:∀ m,s.heap.Ns X.env.locals m->h'.Ns X.env.locals m) (aN:ft X.prog X.w H' h') (hg:AllBare g') :
  Inv X pins σ H' { s with heap:=h',gens:=g',drawn:=d',toks:=t' }:=by
 have GA:∀ b o,X.s₀.heap.get? b=some o->b≠X.env.locals:=fun b o e=>abt (Nat.lt_of_lt_of_le (aaH e) I.ok.above)
 have GB:∀ b o,X.s₀.heap.get? b=some o->b∉X.ex->b∉ch:=fun b o e hx hb=>by
  rcases (vA b hb).1 with z|z
  ·exact hx z
  ·exact absurd (Nat.lt_of_lt_of_le (aaH e) z) (Nat.lt_irrefl _)
 have cellK:∀ x c,X.env.cells.lookup x=some c->∀ v,s.heap.IsCell c v->h'.IsCell c v:=fun x c e v ⟨o,ho,hd⟩=>by
  have C4:c∉ch:=fun z=>(vA c z).2.2.1 x c e rfl
  by_cases hc:c∈X.fs
  ·obtain ⟨sl,q⟩:=slot c o (I.A0 x c e) hc C4 ho (I.dF x c e)
   exact⟨_,q,hd⟩
  ·exact⟨o,keep c o (I.A0 x c e) hc C4 ho (I.dF x c e),hd⟩
 refine⟨I.ok,I.os,hg,⟨fun b o e n hb hx=>?_,fun b o e n hb hx=>?_,fun b o e n hx=>?_,fun b o e hx=>?_,fun b xs e=>il b xs (I.base.il b xs e),fun b o xs e=>gZ b o xs (I.base.gZ b o xs e),fun b ps e=>?_⟩,?_,fun x c e=>?_,?_,fun x c e=>?_,fun p hp=>?_,aN,I.len⟩
 ·exact keep b o (GA b o e) hb (GB b o e hx) (I.base.keep b o e n hb hx) (I.base.free b o e n hx)
 ·obtain ⟨sl,e1⟩:=I.base.slot b o e n hb hx
  obtain ⟨xR,e2⟩:=slot b _ (GA b o e) hb (GB b o e hx) e1 (I.base.free b o e n hx)
  exact⟨xR,e2⟩
 ·obtain ⟨o',e1⟩:=I.base.there b o e hx
  exact free b o' (GB b o e hx) e1 (I.base.free b o e n hx)
 ·obtain ⟨o',e1⟩:=I.base.there b o e hx
  exact there b o' (GB b o e hx) e1
 ·obtain ⟨m1,e1⟩:=I.base.hJ b ps e
  obtain ⟨m2,e2⟩:=hJ b _ e1
  exact⟨m1++m2,by rw [e2,Array.append_assoc]⟩
 ·obtain ⟨m,hn,hl⟩:=I.loc
  refine⟨m,ns m hn,fun i x v e1 e2 e3=>?_⟩
  obtain ⟨u,r,l⟩:=hl i x v e1 e2 e3
  refine⟨u,r,?_⟩
  rcases l with l|⟨k,c,e,z⟩
  ·exact .inl l
  ·exact .inr ⟨k,c,e,cellK x c e _ z⟩
 ·obtain ⟨v,z⟩:=I.cell x c e
  exact⟨v,cellK x c e v z⟩
 ·obtain ⟨m,⟨o,_,_,ho,_⟩,_⟩:=I.loc
  exact free _ o (fun z=>(vA _ z).2.1 rfl) ho I.free
 ·obtain ⟨v,o,ho,hd⟩:=I.cell x c e
  exact free c o (fun z=>(vA c z).2.2.1 x c e rfl) ho (I.dF x c e)
 ·obtain ⟨e,n,ne,nf,d⟩:=I.pin p hp
  have C4:p.1∉ch:=fun z=>(vA p.1 z).2.2.2 p hp rfl
  exact⟨keep p.1 p.2 ne nf C4 e n,free p.1 p.2 C4 e n,ne,nf,d⟩
theorem Inv.un{t':Nat}(I:Inv X pins σ H s)(u:Un X.fs [] H H' s.heap h')(aN:ft X.prog X.w H' h'):Inv X pins σ H' { s with heap:=h',toks:=t' }:=by
 obtain ⟨m,⟨o,es,ep,ho,r⟩,_⟩:=id I.loc
 obtain ⟨sl,hL⟩:=u.any ho I.free (by simp)
 exact I.step (g':=s.gens) (d':=s.drawn) (ch:=[]) (fun _ z=>nomatch z) (fun b o _ hb _ e n=>u.keep b o e n hb (by simp)) (fun b o _ hb _ e n=>u.slot b o e n hb (by simp)) (fun b o _ e n=>u.free b o e n (by simp)) (fun b o _ e=>u.there b o e (by simp)) u.il u.gZ u.hJ (fun m' hm=>by
  obtain ⟨o',Tx,Tz,KG,r'⟩:=hm
  rw [ho] at KG;cases KG
  exact⟨_,Tx,Tz,hL,r'⟩) aN I.bare
theorem Inv.call{g':Array GenState}{t':Nat}{d':Drawn}{ch:List Addr}(I:Inv X pins σ H s)(u:Un (jV X.stack) ch H H' s.heap h')(aN:ft X.prog X.w H' h')(hg:AllBare g')
  (vA:∀ b∈ch,(b∈X.ex\/X.s₀.heap.objs.size<=b)/\b≠X.env.locals/\(∀ x c,X.env.cells.lookup x=some c->c≠b)/\∀ p∈X.pn++pins,p.1≠b) :
  Inv X pins σ H' { s with heap:=h',gens:=g',drawn:=d',toks:=t' }:=by
 obtain ⟨m,⟨o,es,ep,ho,r⟩,_⟩:=id I.loc
 obtain ⟨sl,hL⟩:=u.any ho I.free fun z=>(vA _ z).2.1 rfl
 exact I.step (ch:=ch) vA (fun b o hL hb hc e n=>u.keep b o e n (fun z=>(aa7.mp (I.iq b z)).elim hL hb) hc) (fun b o _ _ hc e n=>u.any e n hc) (fun b o hc e n=>u.free b o e n hc) (fun b o hc e=>u.there b o e hc) u.il u.gZ u.hJ (fun m' hm=>by
  obtain ⟨o',Tx,Tz,KG,r'⟩:=hm
  rw [ho] at KG;cases KG
  exact⟨_,Tx,Tz,hL,r'⟩) aN hg
theorem Inv.turned{t':Nat}{it:Addr}(I:Inv X pins σ H s)(k:∀ b o,b≠it->s.heap.get? b=some o->h'.get? b=some o)(hn:H it=none)(hL:it≠X.env.locals)
  (h1:it∈X.ex\/X.s₀.heap.objs.size<=it) (h2:∀ x c,X.env.cells.lookup x=some c->c≠it) (h3:∀ p∈X.pn++pins,p.1≠it):Inv X pins σ H { s with heap:=h',toks:=t' }:=by
 have nit:∀ b u,H b=some u->b≠it:=fun b u e z=>by rw [z,hn] at e;cases e
 refine I.step (g':=s.gens) (d':=s.drawn) (ch:=[it]) (fun b hb=>?_) (fun b o _ _ hc e _=>k b o (fun z=>hc (by simp [z])) e) (fun b o _ _ hc e _=>⟨o.slots,k b o (fun z=>hc (by simp [z])) e⟩) (fun _ _ _ _ n=>n)
  (fun b o hc e=>⟨o,k b o (fun z=>hc (by simp [z])) e⟩) (fun _ _ e=>e) (fun _ _ _ e=>e) (fun b ps e=>⟨#[],by rw [e];simp⟩) (fun m hm=>?_) (fun b u e=>?_) I.bare
 ·have e:b=it:=by simpa using hb
  subst e
  exact⟨h1,hL,h2,h3⟩
 ·obtain ⟨o,es,ep,ho,r⟩:=hm
  exact⟨o,es,ep,k _ o (Ne.symm hL) ho,r⟩
 ·refine (I.aN b u e).kN (fun c v hc q=>k c v ?_ q) (fun _ q=>q) fun _ _ q=>q
  rcases hc with z|z
  ·rw [z];exact nit b u e
  ·exact nit c _ z
theorem Inv.tok(I:Inv X pins σ H s)(t:Nat):Inv X pins σ H { s with toks:=t }:=I.un (h':=s.heap) (t':=t) Un.refl I.aN
theorem Inv.kept{t':Nat}(I:Inv X pins σ H s)(k:∀ b u,s.heap.get? b=some u->h'.get? b=some u):Inv X pins σ H { s with heap:=h',toks:=t' }:=I.un (Un.kept k) (I.aN.kept k)
theorem Inv.laid{a:Addr}{o:HO}{t':Nat}(I:Inv X pins σ H s)(k:∀ b u,s.heap.get? b=some u->h'.get? b=some u)(hp:s.heap.objs.size<=a)(new:dv X.prog X.w (upd H a o) h' a o) :
  Inv X pins σ (upd H a o) { s with heap:=h',toks:=t' }:=I.un (Un.laid k hp (I.aN.fresh hp)) (I.aN.laid k hp new)
theorem Inv.write{x e:Addr}{o:HO}{t':Nat}(I:Inv X pins σ H s)(mu:So (H x))(he:e=x\/H e=some (.own x))(k:∀ b u,b≠e->s.heap.get? b=some u->h'.get? b=some u)(NA:∃ u,h'.get? e=some u)
  (new:dv X.prog X.w (upd H x o) h' x o):Inv X pins σ (upd H x o) { s with heap:=h',toks:=t' }:=I.un (Un.write mu he k NA) (I.aN.write mu he k NA new)
theorem Inv.eZ{fV:List (Addr×Obj)}(I:Inv X pins σ H s)(h:∀ p∈fV,s.heap.get? p.1=some p.2/\H p.1=none/\p.1≠X.env.locals/\p.1∉X.fs/\∀ v,p.2.data≠.cell v):Inv X fV σ H s :=
 ⟨I.ok,I.os,I.bare,I.base,I.loc,I.cell,I.free,I.dF,fun p hp=>(aa2.mp hp).elim (fun z=>I.pin p (aa0 _ z)) (h p),I.aN,I.len⟩
theorem oU{N:List Str}(hN:N.Nodup){i j:Nat}{x:Str}(a:N[i]?=some x)(b:N[j]?=some x):i=j:=by
 obtain ⟨h1,e1⟩:=aaG.mp a
 obtain ⟨h2,e2⟩:=aaG.mp b
 exact (List.getElem_inj hN).mp (e1.trans e2.symm)
theorem sr{M:Model}{A:Around}{E:Value->Shared->Prop}{i:Nat}{x:Str}{v:V}{u:Value}{Q:Unit->Shared->Prop}(I:Inv X pins σ H s)(hN:X.N.Nodup)(hi:X.N[i]?=some x)(hx:Loc X.env.scope x)(r:RelV v u)
  (h:∀ s',Inv X pins (σ.set i (some v)) H s'->(∃ a,Heap.SameBut a s.heap s'.heap/\(a=X.env.locals\/X.env.cells.lookup x=some a))->Q () s') (hf:X.fn x=true\/X.env.scope.names.lookup x=some .local:=by first|exact .inl rfl|exact .inr rfl|assumption):wpAny M A (storeName X.env x u) Q E s:=by
 obtain ⟨m,hn,hl⟩:=id I.loc
 have A1:(X.env.scope.kind == .class || (X.env.scope.kind == .module && X.env.locals != X.env.globals))=false:=by rw [I.ok.kind];rfl
 have Ss:i<σ.length:=by rw [I.len];exact (aaG.mp hi).1
 have A0:=I.A0
 have tracked:∀ {a:Addr} {h':Heap},(∃ o,s.heap.get? a=some o/\H a=none)->Heap.SameBut a s.heap h'->ft X.prog X.w H h':=fun {a h'} ha hs b ob e=>by
  obtain ⟨_,_,sD⟩:=ha
  refine (I.aN b ob e).kN (fun c w' hc q=>(hs.2 c ?_).trans q) (fun _ q=>q) fun _ _ q=>q
  rintro rfl
  rcases hc with rfl|hc
  ·rw [sD] at e;cases e
  ·rw [sD] at hc;cases hc
 rcases hx with hk|hk
 ·refine wpAny_storeName_local hk hn (fun h' TB hs=>?_) A1
  obtain ⟨oL,_,_,Su,_⟩:=id hn
  refine h _ ⟨I.ok,I.os,I.bare,⟨fun b o e n hb hx=>?_,fun b o e n hb hx=>?_,I.base.free,fun b o e hx=>?_,I.base.il,I.base.gZ,I.base.hJ⟩,⟨_,TB,fun j y v' e1 e2 e3=>?_⟩,fun y c e=>?_,I.free,I.dF,fun p hp=>?_,tracked ⟨oL,Su,I.free⟩ hs,by simpa using I.len⟩ ⟨_,hs,.inl rfl⟩
  ·exact (hs.2 b (abt (Nat.lt_of_lt_of_le (aaH e) I.ok.above))).trans (I.base.keep b o e n hb hx)
  ·obtain ⟨sl,e1⟩:=I.base.slot b o e n hb hx
   exact⟨sl,(hs.2 b (abt (Nat.lt_of_lt_of_le (aaH e) I.ok.above))).trans e1⟩
  ·obtain ⟨o',e1⟩:=I.base.there b o e hx
   exact⟨o',(hs.2 b (abt (Nat.lt_of_lt_of_le (aaH e) I.ok.above))).trans e1⟩
  ·by_cases hj:j=i
   ·subst hj
    rw [hi] at e1;cases e1
    rw [getElem?_set_self Ss] at e2
    cases e2
    exact⟨u,r,.inl ⟨hk,by simp⟩⟩
   ·rw [getElem?_set_ne (Ne.symm hj)] at e2
    obtain ⟨u',r',q⟩:=hl j y v' e1 e2 e3
    refine⟨u',r',?_⟩
    rcases q with ⟨k,e⟩|⟨k,c,e,z⟩
    ·refine .inl ⟨k,?_⟩
     have:y≠x:=fun e=>hj (oU hN e1 (e ▸ hi))
     simp [this,e]
    ·exact .inr ⟨k,c,e,z.sameBut hs (A0 y c e)⟩
  ·obtain ⟨w',z⟩:=I.cell y c e
   exact⟨w',z.sameBut hs (A0 y c e)⟩
  ·obtain ⟨e,n,ne,nf,d⟩:=I.pin p hp
   exact⟨(hs.2 p.1 ne).trans e,n,ne,nf,d⟩
 ·have Oj:X.fn x=true:=by
   rcases hf with z|z
   ·exact z
   ·rw [z] at hk;cases hk
  obtain ⟨c,hc⟩:=I.ok.has x (.inl hk)
  obtain ⟨w',z⟩:=I.cell x c hc
  refine wpAny_storeName_cell I.ok.kind hk hc z (fun h' vI hs=>?_)
  obtain ⟨oc,Ol,TC⟩:=id z
  refine h { s with heap:=h' } ⟨I.ok,I.os,I.bare,⟨fun b o e n hb hx=>?_,fun b o e n hb hx=>?_,I.base.free,fun b o e hx=>?_,I.base.il,I.base.gZ,I.base.hJ⟩,⟨m,hn.sameBut hs (Ne.symm (A0 x c hc)),fun j y v' e1 e2 e3=>?_⟩,fun y c' e=>?_,I.free,I.dF,fun p hp=>?_,tracked ⟨oc,Ol,I.dF x c hc⟩ hs,by simpa using I.len⟩ ⟨c,hs,.inr hc⟩
  ·exact (hs.2 b (abt (Nat.lt_of_lt_of_le (aaH e) (I.ok.Ga x c Oj hc)))).trans (I.base.keep b o e n hb hx)
  ·obtain ⟨sl,e1⟩:=I.base.slot b o e n hb hx
   exact⟨sl,(hs.2 b (abt (Nat.lt_of_lt_of_le (aaH e) (I.ok.Ga x c Oj hc)))).trans e1⟩
  ·obtain ⟨o',e1⟩:=I.base.there b o e hx
   exact⟨o',(hs.2 b (abt (Nat.lt_of_lt_of_le (aaH e) (I.ok.Ga x c Oj hc)))).trans e1⟩
  ·by_cases hj:j=i
   ·subst hj
    rw [hi] at e1;cases e1
    rw [getElem?_set_self Ss] at e2
    cases e2
    exact⟨u,r,.inr ⟨.inl hk,c,hc,vI⟩⟩
   ·rw [getElem?_set_ne (Ne.symm hj)] at e2
    obtain ⟨u',r',q⟩:=hl j y v' e1 e2 e3
    refine⟨u',r',?_⟩
    rcases q with q|⟨k,c',e,z'⟩
    ·exact .inl q
    ·refine .inr ⟨k,c',e,z'.sameBut hs ?_⟩
     rintro rfl
     exact hj (oU hN e1 (I.ok.inj _ _ _ e hc ▸ hi))
  ·by_cases KH:c'=c
   ·subst KH;exact⟨_,vI⟩
   ·obtain ⟨w2,z2⟩:=I.cell y c' e
    exact⟨w2,z2.sameBut hs KH⟩
  ·obtain ⟨e,n,ne,nf,d⟩:=I.pin p hp
   refine⟨(hs.2 p.1 ?_).trans e,n,ne,nf,d⟩
   intro q
   rw [q,Ol] at e
   have q':oc=p.2:=aaN e
   exact d w' (by rw [<- q'];exact TC)
theorem jf{M:Model}{A:Around}{E:Value->Shared->Prop}{i:Nat}{x:Str}{v:V}{u:Value}{Q:Unit->Shared->Prop}(I:Inv X pins σ H s)(hN:X.N.Nodup)(hi:X.N[i]?=some x)(hx:Loc X.env.scope x)(r:RelV v u)
  (h:∀ s',Inv X pins (σ.set i (some v)) H s'->Q () s') (hf:X.fn x=true\/X.env.scope.names.lookup x=some .local:=by first|exact .inl rfl|exact .inr rfl|assumption):wpAny M A (storeName X.env x u) Q E s :=
 sr I hN hi hx r (fun s' I' _=>h s' I') hf
theorem Inv.oV{s':Shared}{ch:List Addr}(I:Inv X pins σ H s)(ho:s'.os=s.os)(u:Un (jV X.stack) ch H H' s.heap s'.heap)(aN:ft X.prog X.w H' s'.heap)(hg:AllBare s'.gens)
  (vA:∀ b∈ch,(b∈X.ex\/X.s₀.heap.objs.size<=b)/\b≠X.env.locals/\(∀ x c,X.env.cells.lookup x=some c->c≠b)/\∀ p∈X.pn++pins,p.1≠b):Inv X pins σ H' s':=by
 obtain ⟨h',g',d',t',o'⟩:=s'
 have e:o'=s.os:=ho
 subst e
 exact I.call (g':=g') (t':=t') (d':=d') u aN hg vA
end
abbrev XK:=Value->Option Addr->Hp->Prop
abbrev St:=List (Option V)
abbrev VK:=V->Hp->Prop
abbrev TE:=St->Hp->VK->Prop
abbrev TT:=St->Hp->(Bool->Hp->Prop)->Prop
abbrev TA:=St->Hp->(List V->Hp->Prop)->Prop
structure Ends where
 nx:St->Hp->Prop
 rt:VK
 bk:St->Hp->Prop:=fun _ _=>False
 ct:St->Hp->Prop:=fun _ _=>False
abbrev TS:=Ends->St->Hp->Prop
def EP(X:Cx)(pins:List (Addr×Obj))(σ:St)(Q:VK)(u:Value)(s':Shared):Prop:=∃ v H',Inv X pins σ H' s'/\RelV v u/\Q v H'
def TP(X:Cx)(pins:List (Addr×Obj))(σ:St)(Q:Bool->Hp->Prop)(b:Bool)(s':Shared):Prop:=∃ H',Inv X pins σ H' s'/\Q b H'
def AP(X:Cx)(pins:List (Addr×Obj))(σ:St)(Q:List V->Hp->Prop)(us:List Value)(s':Shared):Prop:=∃ vs H',Inv X pins σ H' s'/\Vals vs us/\Q vs H'
def SP(X:Cx)(pins:List (Addr×Obj))(D:Ends)(f:Flow)(s':Shared):Prop :=
 match f with
 | .next=>∃ σ' H',Inv X pins σ' H' s'/\D.nx σ' H'
 | .brk=>∃ σ' H',Inv X pins σ' H' s'/\D.bk σ' H'
 | .cont=>∃ σ' H',Inv X pins σ' H' s'/\D.ct σ' H'
 | .ret u=>∃ v σ' H',Inv X pins σ' H' s'/\RelV v u/\D.rt v H'
def PE(X:Cx)(e:Expr)(t:TE):Prop :=
 ∀ (pins:List (Addr×Obj)) (s:Shared) (σ:St) (H:Hp) (Q:VK),Inv X pins σ H s->t σ H Q->wpAny (model X.prog X.w) X.A (eval e X.env) (EP X pins σ Q) X.xe s
def PT(X:Cx)(e:Expr)(t:TT):Prop :=
 ∀ (pins:List (Addr×Obj)) (s:Shared) (σ:St) (H:Hp) (Q:Bool->Hp->Prop),Inv X pins σ H s->t σ H Q->wpAny (model X.prog X.w) X.A (isTrue e X.env (eval e X.env)) (TP X pins σ Q) X.xe s
def PW(X:Cx)(e:Expr)(t:TT):Prop :=
 ∀ (whole:Sem Value) (pins:List (Addr×Obj)) (s:Shared) (σ:St) (H:Hp) (Q:Bool->Hp->Prop),Inv X pins σ H s->t σ H Q->wpAny (model X.prog X.w) X.A (isTrue e X.env whole) (TP X pins σ Q) X.xe s
theorem PW.pt{X:Cx}{e:Expr}{t:TT}(h:PW X e t):PT X e t:=h _
def PA(X:Cx)(es:List Expr)(t:TA):Prop :=
 ∀ (pos:Pos) (pins:List (Addr×Obj)) (s:Shared) (σ:St) (H:Hp) (Q:List V->Hp->Prop),Inv X pins σ H s->t σ H Q->wpAny (model X.prog X.w) X.A (spliced (backTo pos (starEach es X.env))) (AP X pins σ Q) X.xe s
def PS(X:Cx)(st:Stmt)(t:TS):Prop :=
 ∀ (pins:List (Addr×Obj)) (s:Shared) (σ:St) (H:Hp) (D:Ends),Inv X pins σ H s->t D σ H->wpAny (model X.prog X.w) X.A (exec st X.env) (SP X pins D) X.xe s
def oE(X:Cx)(st:List Stmt)(t:TS):Prop :=
 ∀ (pins:List (Addr×Obj)) (s:Shared) (σ:St) (H:Hp) (D:Ends),Inv X pins σ H s->t D σ H->wpAny (model X.prog X.w) X.A (execs st X.env) (SP X pins D) X.xe s
theorem cp{α:Type}{t:Sem α}{Q Q':α->Shared->Prop}{M:Model}{A:Around}{E:Value->Shared->Prop}{s:Shared}(h:wpAny M A t Q E s)(hQ:∀ a s,Q a s->Q' a s):wpAny M A t Q' E s:=aaU h hQ fun _ _ x=>x
section
variable {X:Cx}
def C5(i:Nat):TE:=fun σ H Q=>∃ v,σ[i]?=some (some v)/\Q v H
def tC(v:V):TE:=fun _ H Q=>Q v H
theorem C6 {i:Nat} {x:Str} {pos:Pos} (hN:X.N[i]?=some x) (hv:KD X.env.scope x) (hd:(x == ("__debug__":Str))=false:=by decide) (kO:(x == ("__classdict__":Str))=false:=by decide):PE X (.Name x pos) (C5 i):=by
 intro pins s σ H Q I h
 obtain ⟨v,e,h⟩:=h
 obtain ⟨m,hn,hl⟩:=I.loc
 obtain ⟨u,r,l⟩:=hl i x v hN e hv
 have fin:EP X pins σ Q u s:=⟨v,H,I,r,h⟩
 rcases l with ⟨hk,hm⟩|⟨hk,c,hc,dw⟩
 ·exact wpAny_Name (wpAny_loadName_local I.ok.kind hk hn hm fin) hd
 ·rcases hk with hk|hk
  ·exact wpAny_Name (wpAny_loadName_cell I.ok.kind hk hc dw fin) hd
  ·exact wpAny_Name (wpAny_loadName_free I.ok.kind hk hc dw fin kO) hd
theorem ag{i j pos}:PE X (.Constant (.int i) j pos) (tC (.int i)):=fun _ _ _ H _ I h=>wpAny_Constant_int ⟨.int i,H,I.tok _,⟨_,rfl⟩,h⟩
theorem fW{b j pos}:PE X (.Constant (.bool b) j pos) (tC (.bl b)):=fun _ _ _ H _ I h=>Constant_bool ⟨.bl b,H,I,rfl,h⟩
theorem fz{j pos}:PE X (.Constant .none j pos) (tC .dB):=fun _ _ _ H _ I h=>Constant_none ⟨.dB,H,I,rfl,h⟩
theorem ir{x j pos}:PE X (.Constant (.str x) j pos) (tC (.str x)):=fun _ _ _ H _ I h=>Calls.Constant_str ⟨.str x,H,I.tok _,⟨_,rfl⟩,h⟩
def Gl(X:Cx)(x:Str):Prop:=X.env.kindOf x=some .globalImplicit
theorem gF{E:Value->Shared->Prop}{pins:List (Addr×Obj)}{s:Shared}{σ:St}{H:Hp}{x:Str}{u:Value}{pos:Pos}{Q:Value->Shared->Prop}(I:Inv X pins σ H s)(hg:Gl X x)(hm:X.mg x=some u)(h:Q u s)
  (hd:(x == ("__debug__":Str))=false:=by decide):wpAny (model X.prog X.w) X.A (eval (.Name x pos) X.env) Q E s :=
 Calls.Name_function_global I.ok.kind hg (Calls.loadGlobal_global (by rw [I.ok.glob];exact I.mod.glob.keeps I.bk) hm h) hd
theorem iu{E:Value->Shared->Prop}{pins:List (Addr×Obj)}{s:Shared}{σ:St}{H:Hp}{x:Str}{u:Value}{pos:Pos}{Q:Value->Shared->Prop}(I:Inv X pins σ H s)(hg:Gl X x)(hm:X.mg x=none)(hv:bootBuiltins x=some u)(h:Q u s)
  (hn:x≠"__name__":=by decide) (hd:(x == ("__debug__":Str))=false:=by decide):wpAny (model X.prog X.w) X.A (eval (.Name x pos) X.env) Q E s:=by
 obtain ⟨mb,h1,h2⟩:=I.mod.blt
 exact Calls.Name_function_global I.ok.kind hg (Calls.loadGlobal_builtin (by rw [I.ok.glob];exact I.mod.glob.keeps I.bk) hm (by rw [I.ok.blt];exact h1.keeps I.bk) ((h2 x hn).trans hv) h) hd
theorem iw {x:Str} {v:V} {u:Value} {pos:Pos} (hg:Gl X x) (hm:X.mg x=some u) (r:RelV v u) (hd:(x == ("__debug__":Str))=false:=by decide):PE X (.Name x pos) (tC v) :=
 fun _ _ _ H _ I h=>gF I hg hm ⟨v,H,I,r,h⟩ hd
theorem dC {x:Str} {v:V} {u:Value} {pos:Pos} (hg:Gl X x) (hm:X.mg x=none) (hv:bootBuiltins x=some u) (r:RelV v u) (hn:x≠"__name__":=by decide) (hd:(x == ("__debug__":Str))=false:=by decide):PE X (.Name x pos) (tC v) :=
 fun _ _ _ H _ I h=>iu I hg hm hv ⟨v,H,I,r,h⟩ hn hd
variable {a b:Expr}{ta tb:TE}{pos:Pos}
def tB(t:TE):TT:=fun σ H Q=>t σ H fun x H1=>∃ c,x=.bl c/\Q c H1
theorem dG{e:Expr}{t:TE}(h:PE X e t)(he:∀ whole,isTrue e X.env whole=(do let v <- whole;standAt e.pos;holding [v] (truthy v)):=by intro _;rfl):PT X e (tB t):=by
 intro pins s σ H Q I hw
 refine isTrue_plain (cp (h pins s σ H _ I hw) fun v s1 ⟨x,H1,I1,r1,q1⟩=>?_) (he _)
 obtain ⟨d,rfl,q⟩:=q1
 cases r1
 exact wpAny_truthy_bool ⟨H1,I1,q⟩
variable {tA Sv:TT}{rest:List Expr}
def Om(t u:TT):TT:=fun σ H Q=>t σ H fun c H1=>if c=true then u σ H1 Q else Q false H1
def tOr(t u:TT):TT:=fun σ H Q=>t σ H fun c H1=>if c=true then Q true H1 else u σ H1 Q
def Oo(t:TT):TT:=fun σ H Q=>t σ H fun c H1=>Q (!c) H1
theorem t5(ha:PT X a tA):PW X (.BoolOp .And [a] pos) tA:=by
 intro wh pins s σ H Q I h
 refine isTrue_and (cp (ha pins s σ H Q I h) fun c s1 e=>?_)
 cases c with
 | true=>exact isTrue_and_nil e
 | false=>exact e
theorem oW(ha:PT X a tA):PW X (.BoolOp .Or [a] pos) tA:=by
 intro wh pins s σ H Q I h
 refine isTrue_or (cp (ha pins s σ H Q I h) fun c s1 e=>?_)
 cases c with
 | false=>exact isTrue_or_nil e
 | true=>exact e
theorem xS(ha:PT X a tA)(hb:PW X (.BoolOp .And (b::rest) pos) Sv):PW X (.BoolOp .And (a::b::rest) pos) (Om tA Sv):=by
 intro wh pins s σ H Q I h
 refine isTrue_and (cp (ha pins s σ H _ I h) fun c s1 ⟨H1,I1,q1⟩=>?_)
 cases c with
 | true=>exact hb wh pins s1 σ H1 Q I1 q1
 | false=>exact⟨H1,I1,q1⟩
theorem vJ(ha:PT X a tA)(hb:PW X (.BoolOp .Or (b::rest) pos) Sv):PW X (.BoolOp .Or (a::b::rest) pos) (tOr tA Sv):=by
 intro wh pins s σ H Q I h
 refine isTrue_or (cp (ha pins s σ H _ I h) fun c s1 ⟨H1,I1,q1⟩=>?_)
 cases c with
 | true=>exact⟨H1,I1,q1⟩
 | false=>exact hb wh pins s1 σ H1 Q I1 q1
theorem eM(ha:PT X a tA):PT X (.UnaryOp .Not a pos) (Oo tA):=by
 intro pins s σ H Q I h
 exact isTrue_not (ha pins s σ H (fun c H1=>Q (!c) H1) I h)
def Jx(ta tb:TE):TE:=fun σ H Q=>ta σ H fun x H1=>∃ c,x=.bl c/\if c=true then tb σ H1 Q else Q (.bl false) H1
def Oq(ta tb:TE):TE:=fun σ H Q=>ta σ H fun x H1=>∃ c,x=.bl c/\if c=true then Q (.bl true) H1 else tb σ H1 Q
def Jy(ta:TE):TE:=fun σ H Q=>ta σ H fun x H1=>∃ c,x=.bl c/\Q (.bl (!c)) H1
theorem j6{op}{t:TE}(h:PE X a t):PE X (.BoolOp op [a] pos) t:=fun pins s σ H Q I hw=>BoolOp_one (h pins s σ H Q I hw)
theorem jg(ha:PE X a ta)(hb:PE X (.BoolOp .And (b::rest) pos) tb):PE X (.BoolOp .And (a::b::rest) pos) (Jx ta tb):=by
 intro pins s σ H Q I h
 refine BoolOp_and (cp (ha pins s σ H _ I h) fun v s1 ⟨x,H1,I1,r1,q1⟩=>?_)
 obtain ⟨c,rfl,q1⟩:=q1
 cases r1
 refine wpAny_truthy_bool ?_
 cases c with
 | true=>exact hb pins s1 σ H1 Q I1 q1
 | false=>exact⟨.bl false,H1,I1,rfl,q1⟩
theorem Ot(ha:PE X a ta)(hb:PE X (.BoolOp .Or (b::rest) pos) tb):PE X (.BoolOp .Or (a::b::rest) pos) (Oq ta tb):=by
 intro pins s σ H Q I h
 refine BoolOp_or (cp (ha pins s σ H _ I h) fun v s1 ⟨x,H1,I1,r1,q1⟩=>?_)
 obtain ⟨c,rfl,q1⟩:=q1
 cases r1
 refine wpAny_truthy_bool ?_
 cases c with
 | false=>exact hb pins s1 σ H1 Q I1 q1
 | true=>exact⟨.bl true,H1,I1,rfl,q1⟩
theorem xT(ha:PE X a ta):PE X (.UnaryOp .Not a pos) (Jy ta):=by
 intro pins s σ H Q I h
 refine UnaryOp_ (cp (ha pins s σ H _ I h) fun v s1 ⟨x,H1,I1,r1,q1⟩=>?_)
 obtain ⟨c,rfl,q1⟩:=q1
 cases r1
 exact not_of (wpAny_truthy_bool ⟨.bl (!c),H1,I1,rfl,q1⟩)
def tIf(t:TT)(ta tb:TE):TE:=fun σ H Q=>t σ H fun c H1=>if c=true then ta σ H1 Q else tb σ H1 Q
theorem oX{c:Expr}(hc:PT X c tA)(ha:PE X a ta)(hb:PE X b tb):PE X (.IfExp c a b pos) (tIf tA ta tb):=by
 intro pins s σ H Q I h
 refine wpAny_IfExp (cp (hc pins s σ H _ I h) fun d s1 ⟨H1,I1,q1⟩=>?_)
 cases d with
 | true=>exact ha pins s1 σ H1 Q I1 q1
 | false=>exact hb pins s1 σ H1 Q I1 q1
end
def aW(K:Frag)(H:Hp)(a:Addr)(xs:List V):Prop :=
 Rd H a (.lst xs) \/
  ∃ (o:Obj) (its:Array Value) (n:Nat),K.lookup a=some o/\o.cls=.type "list"/\o.dict=none/\o.data=.seq its n/\its.size<=sizeLine/\Vals xs its.toList
def aR(K:Frag)(H:Hp)(a:Addr)(xs:List V):Prop :=
 Rd H a (.tup xs) \/
  ∃ (o:Obj) (its:Array Value) (n:Nat),K.lookup a=some o/\o.cls=.type "tuple"/\o.data=.seq its n/\its.size<=sizeLine/\Vals xs its.toList
def TF:Value->Option V
 | .none=>some .dB
 | .bool b=>some (.bl b)
 | .int i _=>some (.int i)
 | .str x _=>some (.str x)
 | .bytes b _=>some (.CD b)
 | .float b _=>some (.KA b)
 | .ref a=>some (.ref a)
 | .type n=>some (.ty n)
 | _=>none
theorem RelV.abs{x:V}{u:Value}(r:RelV x u):TF u=some x:=by
 cases x with
 | dB=>cases r;rfl
 | bl _=>cases r;rfl
 | int _=>obtain ⟨t,rfl⟩:=r;rfl
 | str _=>obtain ⟨t,rfl⟩:=r;rfl
 | CD _=>obtain ⟨t,rfl⟩:=r;rfl
 | KA _=>obtain ⟨t,rfl⟩:=r;rfl
 | ref _=>cases r;rfl
 | ty _=>cases r;rfl
theorem RelV.inj{x y:V}{u:Value}(r:RelV x u)(q:RelV y u):x=y:=aaN (r.abs.symm.trans q.abs)
theorem Vals.inj:∀ {xs ys:List V} {us:List Value},Vals xs us->Vals ys us->xs=ys
 | _,_,_,.nil,.nil=>rfl
 | _,_,_,.cons r t,.cons r' t'=>by rw [r.inj r',Vals.inj t t']
section
variable {X:Cx}{pins:List (Addr×Obj)}{σ:St}{H:Hp}{s:Shared}{a:Addr}{xs ys:List V}
theorem aW.of{K:Frag}(h:H a=some (.lst xs)):aW K H a xs:=.inl (.inl h)
theorem aR.of{K:Frag}(h:H a=some (.tup xs)):aR K H a xs:=.inl (.inl h)
theorem Inv.list(I:Inv X pins σ H s)(h:aW X.K H a xs):∃ its:List Value,Vals xs its/\PlainL s.heap a its.toArray/\xs.length<=sizeLine:=by
 rcases h with h|⟨o,its,n,hk,hc,hd,hs,hz,r⟩
 ·obtain ⟨z,its,n,r,e⟩:=h.ok I.aN
  exact⟨its,r,⟨_,n,e,rfl,rfl,rfl⟩,z⟩
 ·refine⟨its.toList,r,⟨o,n,I.i9 a o hk,hc,hd,by simpa using hs⟩,?_⟩
  have e:=r.length
  simp only [Array.length_toList] at e
  lia
theorem Inv.tuple(I:Inv X pins σ H s)(h:aR X.K H a xs):∃ its:List Value,Vals xs its/\IsTup s.heap a its.toArray/\xs.length<=sizeLine:=by
 rcases h with h|⟨o,its,n,hk,hc,hs,hz,r⟩
 ·obtain ⟨z,its,r,p⟩:=h.ok I.aN
  exact⟨its,r,p,z⟩
 ·refine⟨its.toList,r,⟨o,I.i9 a o hk,hc,n,by simpa using hs⟩,?_⟩
  have e:=r.length
  simp only [Array.length_toList] at e
  lia
theorem Inv.vK(I:Inv X pins σ H s)(h:aW X.K H a xs)(h':aW X.K H a ys):xs=ys:=by
 obtain ⟨its,r,⟨o,n,e,_,_,d⟩,_⟩:=I.list h
 obtain ⟨its',r',⟨o',n',e',_,_,d'⟩,_⟩:=I.list h'
 rw [e] at e';cases e'
 rw [d] at d'
 injection d' with d1 _
 have:its=its':=by simpa using congrArg Array.toList d1
 subst this
 exact r.inj r'
theorem Inv.sG(I:Inv X pins σ H s)(h:aR X.K H a xs)(h':aR X.K H a ys):xs=ys:=by
 obtain ⟨its,r,⟨o,e,_,n,d⟩,_⟩:=I.tuple h
 obtain ⟨its',r',⟨o',e',_,n',d'⟩,_⟩:=I.tuple h'
 rw [e] at e';cases e'
 rw [d] at d'
 injection d' with d1 _
 have:its=its':=by simpa using congrArg Array.toList d1
 subst this
 exact r.inj r'
end
abbrev Cx.eD(X:Cx)(E:Value->Shared->Prop):Cx:={ X with xe:=E }
abbrev Cx.Gb(X:Cx):Cx:=X.eD fun _ _=>False
theorem Cx.Ok.eD{X:Cx}(ok:X.Ok)(E:Value->Shared->Prop):(X.eD E).Ok :=
 ⟨ok.mod,ok.kind,ok.glob,ok.blt,ok.above,ok.inj,ok.has,ok.Ga,ok.hd,ok.frames,ok.Jv,ok.NB,ok.bs,ok.qW,ok.oS,ok.vH,ok.ip,ok.CF⟩
theorem Cx.Ok.dW{X:Cx}{E:Value->Shared->Prop}(ok:(X.eD E).Ok):X.Ok :=
 ⟨ok.mod,ok.kind,ok.glob,ok.blt,ok.above,ok.inj,ok.has,ok.Ga,ok.hd,ok.frames,ok.Jv,ok.NB,ok.bs,ok.qW,ok.oS,ok.vH,ok.ip,ok.CF⟩
section
variable {X:Cx}{pins:List (Addr×Obj)}{σ:St}{H:Hp}{s:Shared}{E:Value->Shared->Prop}
theorem Inv.eD(I:Inv X pins σ H s)(E:Value->Shared->Prop):Inv (X.eD E) pins σ H s:=⟨I.ok.eD E,I.os,I.bare,I.base,I.loc,I.cell,I.free,I.dF,I.pin,I.aN,I.len⟩
theorem Inv.dW(I:Inv (X.eD E) pins σ H s):Inv X pins σ H s:=⟨I.ok.dW,I.os,I.bare,I.base,I.loc,I.cell,I.free,I.dF,I.pin,I.aN,I.len⟩
theorem SP.dW{D:Ends}{f:Flow}{s':Shared}(h:SP (X.eD E) pins D f s'):SP X pins D f s':=by
 cases f with
 | next=>obtain ⟨σ',H',I,q⟩:=h;exact⟨σ',H',I.dW,q⟩
 | brk=>obtain ⟨σ',H',I,q⟩:=h;exact⟨σ',H',I.dW,q⟩
 | cont=>obtain ⟨σ',H',I,q⟩:=h;exact⟨σ',H',I.dW,q⟩
 | ret u=>obtain ⟨v,σ',H',I,r,q⟩:=h;exact⟨v,σ',H',I.dW,r,q⟩
theorem oE.Gb{st:List Stmt}{t:TS}(h:oE X.Gb st t):oE X st t:=fun pins s σ H D I hw =>
 aaU (h pins s σ H D (I.eD _) hw) (fun _ _ q=>q.dW) fun _ _ z=>False.elim z
end
section
variable {X:Cx}{st:Stmt}{rest:List Stmt}{t u:TS}{e:Expr}{te:TE}{pos:Pos}
def Jz:TS:=fun D σ H=>D.nx σ H
def Ou(t u:TS):TS:=fun D σ H=>t { D with nx:=u D } σ H
theorem bg:oE X [] Jz:=fun _ _ σ H _ I h=>wpAny_execs_nil ⟨σ,H,I,h⟩
theorem ai(h1:PS X st t)(h2:oE X rest u):oE X (st::rest) (Ou t u):=by
 intro pins s σ H D I h
 refine wpAny_execs_cons (cp (h1 pins s σ H { D with nx:=u D } I h) fun f s1 q=>?_)
 cases f with
 | next =>
  obtain ⟨σ',H',I',q⟩:=q
  exact h2 pins s1 σ' H' D I' q
 | ret v=>exact q
 | brk=>exact q
 | cont=>exact q
theorem aq(h1:PS X st t):oE X [st] t:=by
 intro pins s σ H D I h
 refine wpAny_execs_cons (cp (h1 pins s σ H D I h) fun f s1 q=>?_)
 cases f with
 | next=>exact wpAny_execs_nil q
 | ret v=>exact q
 | brk=>exact q
 | cont=>exact q
theorem Inv.quiet{pins:List (Addr×Obj)}{σ:St}{H:Hp}{s:Shared}(I:Inv X pins σ H s):interactive X.env=false:=by simp [interactive,I.ok.kind]
def JA(te:TE):TS:=fun D σ H=>te σ H fun _ H1=>D.nx σ H1
theorem fb(he:PE X e te)(hs:swapsWith e none pos.line X.env=pure false:=by rfl):PS X (.Expr e pos) (JA te):=by
 intro pins s σ H D I h
 exact wpAny_Expr_any (cp (he pins s σ H _ I h) fun v s1 ⟨x,H1,I1,r1,q1⟩=>⟨σ,H1,I1,q1⟩) I.quiet hs
def Ov(te:TE):TS:=fun D σ H=>te σ H D.rt
theorem aI(he:PE X e te):PS X (.Return (some e) pos) (Ov te):=by
 intro pins s σ H D I h
 exact wpAny_Return_some (cp (he pins s σ H _ I h) fun v s1 ⟨x,H1,I1,r1,q1⟩=>⟨x,σ,H1,I1,r1,q1⟩)
def Ow(c:TT)(t u:TS):TS:=fun D σ H=>c σ H fun b H1=>if b=true then t D σ H1 else u D σ H1
theorem cP{c:Expr}{a b:List Stmt}{tc:TT}(hc:PT X c tc)(ha:oE X a t)(hb:oE X b u):PS X (.If c a b pos) (Ow tc t u):=by
 intro pins s σ H D I h
 refine wpAny_If (cp (hc pins s σ H _ I h) fun d s1 ⟨H1,I1,q1⟩=>?_)
 cases d with
 | true=>exact ha pins s1 σ H1 D I1 q1
 | false=>exact hb pins s1 σ H1 D I1 q1
def KI:TS:=fun _ _ _=>False
theorem C7:PS X st KI:=fun _ _ _ _ _ _ h=>h.elim
end
abbrev TG:=V->St->Hp->(St->Hp->Prop)->Prop
abbrev JB:=List V->St->Hp->(St->Hp->Prop)->Prop
def PG(X:Cx)(target:Expr)(t:TG):Prop :=
 ∀ (pins:List (Addr×Obj)) (s:Shared) (σ:St) (H:Hp) (v:V) (u:Value) (Q:St->Hp->Prop),Inv X pins σ H s->RelV v u->t v σ H Q ->
  wpAny (model X.prog X.w) X.A (assign target X.env u) (fun _ s'=>∃ σ' H',Inv X pins σ' H' s'/\Q σ' H') X.xe s
def Ox(X:Cx)(ts:List Expr)(t:JB):Prop :=
 ∀ (pins:List (Addr×Obj)) (s:Shared) (σ:St) (H:Hp) (vs:List V) (us:List Value) (Q:St->Hp->Prop),Inv X pins σ H s->Vals vs us->t vs σ H Q ->
  wpAny (model X.prog X.w) X.A (assignInOrder ((assignEach ts X.env).map (·.2)) us) (fun _ s'=>∃ σ' H',Inv X pins σ' H' s'/\Q σ' H') X.xe s
abbrev GC:=V->V->V->Hp->(Hp->Prop)->Prop
def Oy(X:Cx)(t:GC):Prop :=
 ∀ (pins:List (Addr×Obj)) (s:Shared) (σ:St) (H:Hp) (o i v:V) (ov iv u:Value) (Q:Hp->Prop),Inv X pins σ H s->RelV o ov->RelV i iv->RelV v u->t o i v H Q ->
  wpAny (model X.prog X.w) X.A (setItem ov iv u) (fun _ s'=>∃ H',Inv X pins σ H' s'/\Q H') X.xe s
section
variable {X:Cx}{pos:Pos}
def bW(i:Nat):TG:=fun v σ H Q=>Q (σ.set i (some v)) H
theorem ax{i:Nat}{x:Str}(hN:X.N.Nodup)(hi:X.N[i]?=some x)(hx:Loc X.env.scope x)(hf:X.fn x=true\/X.env.scope.names.lookup x=some .local:=by first|exact .inl rfl|exact .inr rfl|assumption):PG X (.Name x pos) (bW i):=by
 intro pins s σ H v u Q I r h
 exact wpAny_assign_Name (jf I hN hi hx r (fun s' I'=>⟨_,H,I',h⟩) hf)
def vL:JB:=fun vs σ H Q=>vs=[]/\Q σ H
def fL(t:TG)(u:JB):JB:=fun vs σ H Q=>∃ v r,vs=v::r/\t v σ H fun σ' H'=>u r σ' H' Q
theorem cE:Ox X [] vL:=by
 intro pins s σ H vs us Q I r h
 obtain ⟨e,h⟩:=h
 subst e
 cases r
 exact assignInOrder_nil ⟨σ,H,I,h⟩
theorem aJ{e:Expr}{es:List Expr}{t:TG}{u:JB}(h1:PG X e t)(h2:Ox X es u)
  (hs:(assignEach (e::es) X.env).map (·.2)=assign e X.env::(assignEach es X.env).map (·.2):=by rfl):Ox X (e::es) (fL t u):=by
 intro pins s σ H vs us Q I r h
 obtain ⟨v,vr,e1,h⟩:=h
 subst e1
 cases r with
 | cons r rr =>
  rw [hs]
  refine assignInOrder_cons (cp (h1 pins s σ H _ _ _ I r h) fun _ s1 ⟨σ1,H1,I1,q1⟩=>?_)
  exact h2 pins s1 σ1 H1 _ _ Q I1 rr q1
def t6(K:Frag)(n:Nat)(t:JB):TG:=fun v σ H Q=>∃ a xs,v=.ref a/\aR K H a xs/\xs.length=n/\t xs σ H Q
theorem KJ{es:List Expr}{k:Nat}{t:JB}{n:Nat}(hc:X.calm=true)(h:Ox X es t)
  (hn:(assignEach es X.env).length=n:=by rfl) (jh:(assignEach es X.env).findIdx? (·.1)=none:=by rfl):PG X (.Tuple es k pos) (t6 X.K n t):=by
 intro pins s σ H v u Q I r hw
 obtain ⟨a,xs,e1,hq,hl,hw⟩:=hw
 subst e1
 cases r
 obtain ⟨its,rv,ht,hz⟩:=I.tuple hq
 refine assign_Tuple_tuple (I.ok.hd hc) ht (by simp [hn,<- hl,rv.length]) jh fun h' hx=>?_
 have I1:Inv X pins σ H { s with heap:=h' }:=I.kept (t':=s.toks) fun b o e=>hx b o (abt (aaH e)) e
 exact h pins _ σ H xs _ Q I1 (by simpa using rv) hw
def Oz(to ti:TE)(t:GC):TG:=fun v σ H Q=>to σ H fun o H1=>ti σ H1 fun i H2=>t o i v H2 fun H3=>Q σ H3
theorem C8{o i:Expr}{to ti:TE}{t:GC}(ho:PE X o to)(hi:PE X i ti)(hs:Oy X t)
  (ha:∀ v,assign (.Subscript o i pos) X.env v=(do
   let ov <- holding [v] (eval o X.env)
   let iv <- holding [v,ov] (eval i X.env)
   standAt pos
   holding [v,ov,iv] (setItem ov iv v)
   release [v,ov,iv] []):=by intro _;rfl):PG X (.Subscript o i pos) (Oz to ti t):=by
 intro pins s σ H v u Q I r h
 rw [ha]
 refine aaE (wpAny_holding (cp (ho pins s σ H _ I h) fun ov s1 ⟨x,H1,I1,r1,q1⟩=>?_))
 refine aaE (wpAny_holding (cp (hi pins s1 σ H1 _ I1 q1) fun iv s2 ⟨y,H2,I2,r2,q2⟩=>?_))
 refine aaE (wpAny_standAt (aaE (wpAny_holding (cp (hs pins s2 σ H2 x y v ov iv u _ I2 r1 r2 r q2) fun _ s3 ⟨H3,I3,q3⟩=>?_))))
 exact wpAny_release ⟨σ,H3,I3,q3⟩
def GD(te:TE)(g:TG):TS:=fun D σ H=>te σ H fun x H1=>g x σ H1 D.nx
theorem C9{tg e:Expr}{te:TE}{g:TG}(he:PE X e te)(hg:PG X tg g)(hs:swapsWithSole [tg] e pos.line X.env=pure false:=by rfl)(hw:swappedStores [tg] e X.env=pure none:=by rfl)
  (h1:(assignEach [tg] X.env).map (·.2)=[assign tg X.env]:=by rfl):PS X (.Assign [tg] e pos) (GD te g):=by
 intro pins s σ H D I h
 refine wpAny_Assign_stores (cp (he pins s σ H _ I h) fun v s1 ⟨x,H1,I1,r1,q1⟩=>?_) hs hw
 rw [h1]
 exact cp (hg pins s1 σ H1 x v _ I1 r1 q1) fun _ s2 q=>q
theorem ay{i:Nat}{x:Str}{e:Expr}{te:TE}{pos':Pos}(hN:X.N.Nodup)(hi:X.N[i]?=some x)(hx:Loc X.env.scope x)(he:PE X e te)(hs:swapsWith e (some (.Name x pos')) pos.line X.env=pure false:=by rfl)(hf:X.fn x=true\/X.env.scope.names.lookup x=some .local:=by first|exact .inl rfl|exact .inr rfl|assumption) :
  PS X (.Assign [.Name x pos'] e pos) (GD te (bW i)):=by
 intro pins s σ H D I h
 refine wpAny_Assign_Name (cp (he pins s σ H _ I h) fun v s1 ⟨y,H1,I1,r1,q1⟩=>?_) hs
 exact jf I1 hN hi hx r1 (fun s2 I2=>⟨_,H1,I2,q1⟩) hf
def OA(i j:Nat)(ta:TA):TS:=fun D σ H=>ta σ H fun vs H1=>∃ v w,vs=[v,w]/\D.nx ((σ.set i (some v)).set j (some w)) H1
theorem KL{i j:Nat}{x y:Str}{a b:Expr}{ta:TA}{px py pt:Pos}{kt k2 TH}(hc:X.calm=true)(hN:X.N.Nodup)(hi:X.N[i]?=some x)(hj:X.N[j]?=some y)(TJ:i≠j)
  (hx:X.env.scope.names.lookup x=some .local) (hy:X.env.scope.names.lookup y=some .local) (ha:PA X [a,b] ta)
  (hw:swappedStores [.Tuple [.Name x px,.Name y py] kt pt] (.Tuple [a,b] k2 TH) X.env=pure (some [x,y]))
  (hs:swapsWithSole [.Tuple [.Name x px,.Name y py] kt pt] (.Tuple [a,b] k2 TH) pos.line X.env=pure false:=by rfl) :
  PS X (.Assign [.Tuple [.Name x px,.Name y py] kt pt] (.Tuple [a,b] k2 TH) pos) (OA i j ta):=by
 intro pins s σ H D I h
 rw [exec_Assign_arm]
 refine aaE (wpAny_standAt ?_)
 rw [hs]
 refine aaE (aaT ?_)
 rw [if_neg (by decide)]
 refine aaE (Tuple_ (cp (ha _ pins s σ H _ I h) fun us s1 ⟨vs,H1,I1,r1,q1⟩=>?_))
 obtain ⟨v,w,e1,q1⟩:=q1
 subst e1
 obtain ⟨u1,u2,rfl,rv,OB⟩:∃ u1 u2,us=[u1,u2]/\RelV v u1/\RelV w u2:=by
  cases r1 with
  | cons p q =>
   cases q with
   | cons p' q' =>
    cases q'
    exact⟨_,_,rfl,p,p'⟩
 refine wpAny_newObj_type ?_ (by show 2<=sizeLine;decide)
 have I2:Inv X pins σ H1 { s1 with heap:=s1.heap.push { cls:=.type "tuple",data:=.seq [u1,u2].toArray } }:=I1.kept (t':=s1.toks) fun b o e=>aaD _ e
 rw [hw]
 refine aaE (aaT ?_)
 show wpAny (model X.prog X.w) X.A (do rule "assign.swapped-stores"; let items <- unpackItems (.ref s1.heap.objs.size) 2 none;assignInOrder [fun v=>bindName X.env y v,fun v=>bindName X.env x v] items.reverse;pure Flow.next) _ _ _
 refine aaE (wpAny_rule (aaE (unpackItems_tuple (items:=#[u1,u2]) (I.ok.hd hc) (IsTup.new s1.heap _) fun h' qX=>?_)))
 have I3:=I2.kept (h':=h') (t':=s1.toks) fun b o e=>qX b o (abt (aaH e)) e
 show wpAny _ _ (assignInOrder [fun v=>bindName X.env y v,fun v=>bindName X.env x v] [u2,u1] >>= fun _=>pure Flow.next) _ _ _
 refine aaE (assignInOrder_cons (wpAny_bindName (jf I3 hN hj (.inl hy) OB (fun s2 I4=>?_) (.inr hy))))
 refine assignInOrder_cons (wpAny_bindName (jf I4 hN hi (.inl hx) rv (fun s3 I5=>assignInOrder_nil (aaT ?_)) (.inr hx)))
 rw [List.set_comm _ _ (Ne.symm TJ)] at I5
 exact⟨_,H1,I5,q1⟩
end
section
variable {X:Cx}{pos:Pos}
def Dc(c:TT)(tb:TS):TS:=fun D σ H=>∃ W:Nat->St->Hp->Prop,(∃ m,W m σ H)/\∀ m σ H,W m σ H ->
 c σ H fun b H1=>if b=true then ∃ N:St->Hp->Prop,(∀ σ' H',N σ' H'->∃ m',m'<m/\W m' σ' H')/\tb { D with nx:=N,ct:=N,bk:=D.nx } σ H1 else D.nx σ H1
theorem vM{c:Expr}{body:List Stmt}{tc:TT}{tb:TS}(hp:PassesOwn (model X.prog X.w) X.A X.env X.xe)(hc:PT X c tc)(hb:oE X body tb):PS X (.While c body [] pos) (Dc tc tb):=by
 intro pins s σ H D I h
 obtain ⟨W,⟨m0,w0⟩,turn⟩:=h
 refine wpAny_While (codeAny_whileLoop (fun n s'=>∃ σ' H',Inv X pins σ' H' s'/\W n σ' H') ?_ m0 ⟨σ,H,I,w0⟩)
 rintro n s1 ⟨σ1,H1,I1,w1⟩
 refine wpAny_passesOwn hp (cp (hc pins s1 σ1 H1 _ I1 (turn n σ1 H1 w1)) fun b s2 ⟨H2,I2,q2⟩=>?_)
 cases b with
 | true =>
  obtain ⟨N,hN,q2⟩:=q2
  rw [if_pos rfl]
  refine wpAny_passesOwn hp (cp (hb pins s2 σ1 H2 _ I2 q2) fun f s3 q3=>?_)
  cases f with
  | next =>
   obtain ⟨σ3,H3,I3,n3⟩:=q3
   obtain ⟨m',hm,w3⟩:=hN σ3 H3 n3
   exact⟨m',hm,σ3,H3,I3,w3⟩
  | cont =>
   obtain ⟨σ3,H3,I3,n3⟩:=q3
   obtain ⟨m',hm,w3⟩:=hN σ3 H3 n3
   exact⟨m',hm,σ3,H3,I3,w3⟩
  | brk=>exact q3
  | ret v=>exact q3
 | false =>
  rw [if_neg Bool.false_ne_true]
  exact wpAny_execs_nil ⟨σ1,H2,I2,q2⟩
end
structure It where
 go:Nat->Hp->Prop
 GF:Nat->Hp->V->Hp->Prop
 stop:Nat->Hp->Prop
def j7(X:Cx)(pins:List (Addr×Obj))(H:Hp)(b:Addr):Prop :=
 H b=none/\b≠X.env.locals/\b∉X.fs/\(b∈X.ex\/X.s₀.heap.objs.size<=b)/\(∀ x c,X.env.cells.lookup x=some c->c≠b)/\∀ p∈X.pn++pins,p.1≠b
theorem Inv.t7{X:Cx}{pins:List (Addr×Obj)}{σ:St}{H H':Hp}{s:Shared}{b:Addr}(I:Inv X pins σ H s)(hb:s.heap.objs.size<=b)(hn:H' b=none):j7 X pins H' b:=by
 refine⟨hn,Nat.ne_of_gt (Nat.lt_of_lt_of_le I.lt hb),I.Tw hb,.inr (aaJ I.sz hb),fun x c e z=>?_,fun p hp z=>?_⟩
 ·obtain ⟨v,q⟩:=I.cell x c e
  exact absurd (Nat.lt_of_lt_of_le q.lt (by rw [z];exact hb)) (Nat.lt_irrefl _)
 ·exact absurd (Nat.lt_of_lt_of_le (aaH (I.pin p hp).1) (by rw [z];exact hb)) (Nat.lt_irrefl _)
structure Turn(P:Program)(w:World)(K:Frag)(tg:Expr)(J:It)(fp:List Addr)(it:Addr)(tn:Nat->Heap->Prop):Prop where
 mem:it∈fp
 obj:∀ i h,tn i h->∀ b∈fp,∃ o,h.get? b=some o/\∀ v,o.data≠.cell v
 keep:∀ i h h',tn i h->(∀ b∈fp,∀ o,h.get? b=some o->h'.get? b=some o)->tn i h'
 item:∀ (X:Cx),X.prog=P->X.w=w->X.K=K->X.calm=true->∀ (i:Nat) (pins:List (Addr×Obj)) (s:Shared) (σ:St) (H:Hp) (E:Value->Shared->Prop),Inv X pins σ H s->(∀ b∈fp,j7 X pins H b)->tn i s.heap->J.go i H ->
  wpAny (model P w) X.A (pyNext (.ref it)) (fun r s1=>∃ u,r=some u /\
   wpAny (model P w) X.A (letOwnedTupleGo tg (.ref it) u) (fun _ s2=>∃ x H',Inv X pins σ H' s2/\RelV x u/\J.GF i H x H'/\tn (i+1) s2.heap/\∀ b∈fp,H' b=none) E s1) E s
 done:∀ (X:Cx),X.prog=P->X.w=w->X.K=K->X.calm=true->∀ (i:Nat) (pins:List (Addr×Obj)) (s:Shared) (σ:St) (H:Hp) (E:Value->Shared->Prop),Inv X pins σ H s->(∀ b∈fp,j7 X pins H b)->tn i s.heap->J.stop i H ->
  wpAny (model P w) X.A (pyNext (.ref it)) (fun r s1=>r=none/\Inv X pins σ H s1) E s
 self:∀ (A:Around) (i:Nat) (s:Shared) (Q:Value->Shared->Prop) (E:Value->Shared->Prop),tn i s.heap->Q (.ref it) s->wpAny (model P w) A (pyIter (.ref it)) Q E s
abbrev TI:=St->Hp->(It->Hp->Prop)->Prop
def PIE(X:Cx)(pins:List (Addr×Obj))(σ:St)(tg:Expr)(R:It->Hp->Prop)(OC:Value)(s2:Shared):Prop :=
 ∃ (it:Addr) (fp:List Addr) (tn:Nat->Heap->Prop) (J:It) (H':Hp),OC=.ref it/\Inv X pins σ H' s2/\Turn X.prog X.w X.K tg J fp it tn/\tn 0 s2.heap/\(∀ b∈fp,j7 X pins H' b)/\R J H'
def PI(X:Cx)(tg iter:Expr)(wi:TI):Prop :=
 ∀ (pins:List (Addr×Obj)) (s:Shared) (σ:St) (H:Hp) (R:It->Hp->Prop),Inv X pins σ H s->wi σ H R ->
  wpAny (model X.prog X.w) X.A (eval iter X.env) (fun v s1=>wpAny (model X.prog X.w) X.A (pyIter v) (PIE X pins σ tg R) X.xe s1) X.xe s
theorem zU{M : Model}{A : Around}{E : Value -> Shared -> Prop}{s : Shared}{tg : Expr}{it : Addr}{u : Value}{o : Obj}{n : String}{vs : Array Value}{Q : Unit -> Shared -> Prop}(ho : s.heap.get? it=some o)(hc : o.cls=.type n)(hd : o.data=.fields vs)
    (hn : ["enumerate", "zip", "dict_itemiterator", "dict_reverseitemiterator", "odict_iterator", "itertools.zip_longest", "itertools.pairwise"].contains n=false) (hQ : Q () s) : wpAny M A (letOwnedTupleGo tg (.ref it) u) Q E s := by
  unfold letOwnedTupleGo
  cases tg <;> first
    | exact aaT hQ
    | (cases u <;> first
        | exact aaT hQ
        | (refine aaE (wpAny_load ho ?_)
           rw [hc, hd]
           show wpAny M A (if (["enumerate", "zip", "dict_itemiterator", "dict_reverseitemiterator", "odict_iterator", "itertools.zip_longest", "itertools.pairwise"].contains n && vs[0]? == some (rawInt _))=true then _ else _) Q E s
           rw [if_neg (by intro h;rw [hn, Bool.false_and] at h;cases h)]
           exact aaT hQ))
def GG(K:Frag)(a:Addr):It :=
 ⟨fun i H=>∃ xs x,aW K H a xs/\xs[i]?=some x,fun i H x H'=>H'=H/\∀ xs,aW K H a xs->xs[i]?=some x,fun i H=>∃ xs,aW K H a xs/\xs.length<=i⟩
def NC(K:Frag)(a:Addr):It :=
 ⟨fun i H=>∃ xs x,aR K H a xs/\xs[i]?=some x,fun i H x H'=>H'=H/\∀ xs,aR K H a xs->xs[i]?=some x,fun i H=>∃ xs,aR K H a xs/\xs.length<=i⟩
def JC(lo:Int)(n:Nat):It:=⟨fun i _=>i<n,fun i H x H'=>H'=H/\x=.int (lo+i),fun i _=>n<=i⟩
theorem A2{P:Program}{w:World}{K:Frag}{tg:Expr}(a it:Addr):Turn P w K tg (GG K a) [it] it (fun i h=>h.IsListIter it a i) where
 mem:=by simp
 obj:=fun i h st b hb=>by
  have e:b=it:=by simpa using hb
  subst e
  obtain ⟨o,e,c,d⟩:=st
  exact⟨o,e,fun v z=>by rw [d] at z;cases z⟩
 keep:=fun i h h' st k=>st.at fun o e=>k it (by simp) o e
 item:=by
  intro X hP hw hK hc i pins s σ H E I hf st hg
  subst hP hw hK
  obtain ⟨xs,x,hq,hx⟩:=hg
  obtain ⟨its,rv,p,hz⟩:=I.list hq
  obtain ⟨u,hu,ru⟩:=rv.get hx
  obtain ⟨f0,f1,f2,f3,f4,f5⟩:=hf it (by simp)
  refine wpAny_pyNext_list_item st p.isList (x:=u) (by simpa using hu) fun h' Dd sb=>?_
  have I1:Inv X pins σ H { s with heap:=h' }:=I.turned (t':=s.toks) (fun b o hb e=>(sb.2 b hb).trans e) f0 f1 f3 f4 f5
  obtain ⟨o,e,c,d⟩:=id Dd
  exact⟨u,rfl,zU (s:={ s with heap:=h' }) e c d (by decide) ⟨x,H,I1,ru,⟨rfl,fun ys hy=>by rw [I.vK hy hq];exact hx⟩,Dd,fun b hb=>(hf b hb).1⟩⟩
 done:=by
  intro X hP hw hK hc i pins s σ H E I hf st hg
  subst hP hw hK
  obtain ⟨xs,hq,hx⟩:=hg
  obtain ⟨its,rv,p,hz⟩:=I.list hq
  obtain ⟨f0,f1,f2,f3,f4,f5⟩:=hf it (by simp)
  have hl:=rv.length
  exact wpAny_pyNext_list_end (I.ok.hd hc) st p.isList (by simp;lia) fun h' eb=>⟨rfl,I.turned (t':=s.toks) (fun b o hb e=>eb b o hb e) f0 f1 f3 f4 f5⟩
 self:=fun _ _ _ _ _ st h=>wpAny_pyIter_listiter st h
theorem xU{P:Program}{w:World}{K:Frag}{tg:Expr}(a it:Addr):Turn P w K tg (NC K a) [it] it (fun i h=>h.IsTupleIter it a i) where
 mem:=by simp
 obj:=fun i h st b hb=>by
  have e:b=it:=by simpa using hb
  subst e
  obtain ⟨o,e,c,d⟩:=st
  exact⟨o,e,fun v z=>by rw [d] at z;cases z⟩
 keep:=fun i h h' st k=>st.at fun o e=>k it (by simp) o e
 item:=by
  intro X hP hw hK hc i pins s σ H E I hf st hg
  subst hP hw hK
  obtain ⟨xs,x,hq,hx⟩:=hg
  obtain ⟨its,rv,p,hz⟩:=I.tuple hq
  obtain ⟨u,hu,ru⟩:=rv.get hx
  obtain ⟨f0,f1,f2,f3,f4,f5⟩:=hf it (by simp)
  refine wpAny_pyNext_tuple_item st (show s.heap.IsTuple a its.toArray from p) (x:=u) (by simpa using hu) fun h' Dd sb=>?_
  have I1:Inv X pins σ H { s with heap:=h' }:=I.turned (t':=s.toks) (fun b o hb e=>(sb.2 b hb).trans e) f0 f1 f3 f4 f5
  obtain ⟨o,e,c,d⟩:=id Dd
  exact⟨u,rfl,zU (s:={ s with heap:=h' }) e c d (by decide) ⟨x,H,I1,ru,⟨rfl,fun ys hy=>by rw [I.sG hy hq];exact hx⟩,Dd,fun b hb=>(hf b hb).1⟩⟩
 done:=by
  intro X hP hw hK hc i pins s σ H E I hf st hg
  subst hP hw hK
  obtain ⟨xs,hq,hx⟩:=hg
  obtain ⟨its,rv,p,hz⟩:=I.tuple hq
  obtain ⟨f0,f1,f2,f3,f4,f5⟩:=hf it (by simp)
  have hl:=rv.length
  exact wpAny_pyNext_tuple_end (I.ok.hd hc) st (show s.heap.IsTuple a its.toArray from p) (by simp;lia) fun h' eb=>⟨rfl,I.turned (t':=s.toks) (fun b o hb e=>eb b o hb e) f0 f1 f3 f4 f5⟩
 self:=fun _ _ _ _ _ st h=>wpAny_pyIter_tupleiter st h
theorem xV{P:Program}{w:World}{K:Frag}{tg:Expr}(it:Addr)(lo:Int)(n:Nat):Turn P w K tg (JC lo n) [it] it (fun i h=>IsRangeIter h it (lo+(i:Nat)*1) ((n:Int) - (i:Nat)) 1) where
 mem:=by simp
 obj:=fun i h st b hb=>by
  have e:b=it:=by simpa using hb
  subst e
  exact⟨_,st,fun v z=>by
   have z':Data.fields _=Data.cell v:=z
   cases z'⟩
 keep:=fun i h h' st k=>k it (by simp) _ st
 item:=by
  intro X hP hw hK hc i pins s σ H E I hf st hg
  subst hP hw hK
  obtain ⟨f0,f1,f2,f3,f4,f5⟩:=hf it (by simp)
  have W:=Walks.range (prog:=X.prog) (w:=X.w) (I.ok.hd hc) it lo 1 n
  refine W.item i s _ _ hg st fun v h' tk hv Dd kk=>?_
  obtain ⟨t,rfl⟩:=hv
  have I1:Inv X pins σ H { s with heap:=h',toks:=tk }:=I.turned (fun b o hb e=>kk b o (by simpa using hb) e) f0 f1 f3 f4 f5
  refine⟨_,rfl,zU (s:={ s with heap:=h',toks:=tk }) (n:="range_iterator") Dd rfl rfl (by decide) ⟨.int (lo+i),H,I1,⟨t,?_⟩,⟨rfl,rfl⟩,Dd,fun b hb=>(hf b hb).1⟩⟩
  rw [Int.mul_one]
 done:=by
  intro X hP hw hK hc i pins s σ H E I hf st hg
  subst hP hw hK
  obtain ⟨f0,f1,f2,f3,f4,f5⟩:=hf it (by simp)
  exact wpAny_pyNext_range_end (I.ok.hd hc) st (by have:n<=i:=hg;lia) fun h' eb=>⟨rfl,I.turned (t':=s.toks) (fun b o hb e=>eb b o hb e) f0 f1 f3 f4 f5⟩
 self:=fun _ _ _ _ _ st h=>wpAny_pyIter_rangeiter st h
section
variable {X:Cx}{tg:Expr}
def De(K:Frag)(tl:TE):TI:=fun σ H R=>tl σ H fun x H1=>∃ a,x=.ref a/\(∃ xs,aW K H1 a xs)/\R (GG K a) H1
def KN(K:Frag)(tl:TE):TI:=fun σ H R=>tl σ H fun x H1=>∃ a,x=.ref a/\(∃ xs,aR K H1 a xs)/\R (NC K a) H1
theorem GH{l:Expr}{tl:TE}(hl:PE X l tl):PI X tg l (De X.K tl):=by
 intro pins s σ H R I h
 refine cp (hl pins s σ H _ I h) fun v s1 ⟨x,H1,I1,r1,q1⟩=>?_
 obtain ⟨a,e,⟨xs,hq⟩,q⟩:=q1
 subst e
 cases r1
 obtain ⟨its,rv,p,hz⟩:=I1.list hq
 refine wpAny_pyIter_list p.isList ?_
 refine⟨s1.heap.objs.size,[s1.heap.objs.size],_,_,H1,rfl,I1.kept (t':=s1.toks) fun b o e=>aaD _ e,A2 a _,⟨_,aaI _ rfl,rfl,rfl⟩,fun b hb=>?_,q⟩
 have e:b=s1.heap.objs.size:=by simpa using hb
 subst e
 exact I1.t7 (aaK _) (I1.aN.fresh (aaK _))
theorem KO{l:Expr}{tl:TE}(hl:PE X l tl):PI X tg l (KN X.K tl):=by
 intro pins s σ H R I h
 refine cp (hl pins s σ H _ I h) fun v s1 ⟨x,H1,I1,r1,q1⟩=>?_
 obtain ⟨a,e,⟨xs,hq⟩,q⟩:=q1
 subst e
 cases r1
 obtain ⟨its,rv,p,hz⟩:=I1.tuple hq
 refine wpAny_pyIter_tuple (show s1.heap.IsTuple a its.toArray from p) ?_
 refine⟨s1.heap.objs.size,[s1.heap.objs.size],_,_,H1,rfl,I1.kept (t':=s1.toks) fun b o e=>aaD _ e,xU a _,⟨_,aaI _ rfl,rfl,rfl⟩,fun b hb=>?_,q⟩
 have e:b=s1.heap.objs.size:=by simpa using hb
 subst e
 exact I1.t7 (aaK _) (I1.aN.fresh (aaK _))
theorem Df{pins:List (Addr×Obj)}{σ:St}{H:Hp}{s:Shared}{R:It->Hp->Prop}{E:Value->Shared->Prop}{lo hi:Int}{t u v:Tok}{tk:Nat}(I:Inv X pins σ H s)(h1:-(2 ^ 62)<=lo)(h2:lo<2 ^ 62)(h3:-(2 ^ 62)<=hi)(h4:hi<2 ^ 62)
  (q:R (JC lo (hi - lo).toNat) H):wpAny (model X.prog X.w) X.A (pyIter (.ref s.heap.objs.size)) (PIE X pins σ tg R) E { s with heap:=s.heap.push { cls:=.type "range",data:=.fields #[.int lo t,.int hi u,.int 1 v] },toks:=tk }:=by
 refine wpAny_pyIter_range (IsRange.new ..) (small_one h1 h2 h3 h4) ?_
 have I1:Inv X pins σ H { s with heap:=s.heap.push { cls:=.type "range",data:=.fields #[.int lo t,.int hi u,.int 1 v] },toks:=tk }:=I.kept fun b o e=>aaD _ e
 refine⟨(s.heap.push { cls:=.type "range",data:=.fields #[.int lo t,.int hi u,.int 1 v] }).objs.size,[(s.heap.push { cls:=.type "range",data:=.fields #[.int lo t,.int hi u,.int 1 v] }).objs.size],_,_,H,rfl,
  I1.kept (t':=tk) fun b o e=>aaD _ e,xV _ lo (hi - lo).toNat,?_,fun b hb=>?_,q⟩
 ·have e1:lo+((0:Nat):Int)*1=lo:=by simp
  have e2:(((hi - lo).toNat:Nat):Int) - ((0:Nat):Int)=Builtin.Range.rangeSize lo hi 1:=by rw [rangeSize_one];split <;> lia
  show IsRangeIter _ _ (lo+((0:Nat):Int)*1) ((((hi - lo).toNat:Nat):Int) - ((0:Nat):Int)) 1
  rw [e1,e2]
  exact aaI _ rfl
 ·have e:b=(s.heap.push { cls:=.type "range",data:=.fields #[.int lo t,.int hi u,.int 1 v] }).objs.size:=by simpa using hb
  subst e
  exact I1.t7 (aaK _) (I1.aN.fresh (aaK _))
def JD(ta:TA):TI:=fun σ H R=>ta σ H fun vs H1=>∃ j:Int,vs=[.int j]/\-(2 ^ 62)<=j/\j<2 ^ 62/\R (JC 0 j.toNat) H1
theorem eN {a:Expr} {ta:TA} {p pos:Pos} (hg:Gl X "range") (hm:X.mg "range"=none) (ha:PA X [a] ta) (hs:starEach [a] X.env=[(false,eval a X.env)]:=by rfl):PI X tg (.Call (.Name "range" p) [a] [] pos) (JD ta):=by
 intro pins s σ H R I h
 refine Call_ (iu I hg hm boot_range (callWith_type1 (cp (ha pos pins s σ H _ I h) fun us s1 ⟨vs,H1,I1,r1,q1⟩=>?_) hs rfl))
 obtain ⟨j,e,q1,q2,q⟩:=q1
 subst e
 cases r1 with
 | cons r rr =>
  cases rr
  obtain ⟨t,rfl⟩:=r
  exact call_range_1 (Df I1 (by lia) (by lia) q1 q2 (by simpa using q))
def OD(wi:TI)(g:TG)(tb:TS):TS:=fun D σ H=>wi σ H fun J H1=>∃ W:Nat->Nat->St->Hp->Prop,(∃ m,W 0 m σ H1)/\∀ i m σ H,W i m σ H ->
 (J.stop i H/\D.nx σ H)\/(J.go i H/\∃ N:St->Hp->Prop,(∀ σ' H',N σ' H'->∃ m',m'<m/\W (i+1) m' σ' H')/\∀ x H',J.GF i H x H'->g x σ H' fun σ2 H2=>tb { D with nx:=N,ct:=N,bk:=D.nx } σ2 H2)
def iy(fp:List Addr)(h:Heap):List (Addr×Obj):=fp.filterMap fun b=>(h.get? b).map fun o=>(b,o)
theorem dg{fp:List Addr}{h:Heap}{b:Addr}{o:Obj}(hb:b∈fp)(e:h.get? b=some o):(b,o)∈iy fp h:=mem_filterMap.mpr ⟨b,hb,by rw [e];rfl⟩
theorem A3{fp:List Addr}{h:Heap}{p:Addr×Obj}(hp:p∈iy fp h):p.1∈fp/\h.get? p.1=some p.2:=by
 obtain ⟨b,hb,e⟩:=mem_filterMap.mp hp
 cases q:h.get? b with
 | none=>rw [q] at e;cases e
 | some o =>
  rw [q] at e
  have e':(b,o)=p:=aaN e
  subst e'
  exact⟨hb,q⟩
theorem Inv.pinned{pins:List (Addr×Obj)}{σ:St}{H:Hp}{s:Shared}{fp:List Addr}(I:Inv X pins σ H s)(hf:∀ b∈fp,j7 X pins H b)(ho:∀ b∈fp,∃ o,s.heap.get? b=some o/\∀ v,o.data≠.cell v):Inv X (pins++iy fp s.heap) σ H s :=
 I.eZ fun p hp=>(aa2.mp hp).elim (fun z=>I.pin p (aaZ _ z)) fun z=>by
  obtain ⟨hb,e⟩:=A3 z
  obtain ⟨f0,f1,f2,_⟩:=hf p.1 hb
  obtain ⟨o,e',d⟩:=ho p.1 hb
  rw [e] at e';cases e'
  exact⟨e,f0,f1,f2,d⟩
theorem Inv.eE{pins pl:List (Addr×Obj)}{σ:St}{H:Hp}{s:Shared}(I:Inv X (pins++pl) σ H s):Inv X pins σ H s:=I.eZ fun p hp=>I.pin p (aaZ _ (aa0 _ hp))
theorem cV{iter:Expr}{body:List Stmt}{wi:TI}{g:TG}{tb:TS}{pos:Pos}(hp:PassesOwn (model X.prog X.w) X.A X.env X.xe)(hc:X.calm=true)(hi:PI X tg iter wi)(hg:PG X tg g)(hb:oE X body tb)
  (hs:∀ x,foldedSetIterable iter X.env x=pure x:=by intro _;rfl):PS X (.For tg iter body [] pos) (OD wi g tb):=by
 intro pins s σ H D I h
 refine wpAny_For (cp (hi pins s σ H _ I h) fun v s1 h1=>cp h1 fun OC s2 h2=>?_) hs
 obtain ⟨it,fp,tn,J,H2,e,I2,T,Gd,f2,W,⟨m0,w0⟩,turn⟩:=h2
 subst e
 have KP:∀ {H':Hp},(∀ b∈fp,H' b=none)->∀ b∈fp,j7 X pins H' b:=fun hn b hb=>⟨hn b hb,(f2 b hb).2⟩
 refine codeAny_forLoop_any (fun n s'=>∃ i σ' H',Inv X pins σ' H' s'/\tn i s'.heap/\(∀ b∈fp,H' b=none)/\W i n σ' H') ?_ m0 ⟨0,σ,H2,I2,Gd,fun b hb=>(f2 b hb).1,w0⟩
 rintro n s3 ⟨i,σ3,H3,I3,sI,fr3,w3⟩
 rcases turn i n σ3 H3 w3 with ⟨stop,qn⟩|⟨go,N,hN,step⟩
 ·refine wpAny_passesOwn hp (cp (T.done X rfl rfl rfl hc i pins s3 σ3 H3 X.xe I3 (KP fr3) sI stop) fun r s4 ⟨hr,I4⟩=>?_)
  subst hr
  exact wpAny_execs_nil ⟨σ3,H3,I4,qn⟩
 ·refine wpAny_passesOwn hp (cp (T.item X rfl rfl rfl hc i pins s3 σ3 H3 X.xe I3 (KP fr3) sI go) fun r s4 ⟨u,hr,h4⟩=>?_)
  subst hr
  refine wpAny_passesOwn hp (cp h4 fun _ s5 ⟨x,H5,I5,r5,y5,CG,Ge⟩=>?_)
  have I5':=I5.pinned (KP Ge) (T.obj _ _ CG)
  refine wpAny_passesOwn hp (cp (hg _ s5 σ3 H5 x u _ I5' r5 (step x H5 y5)) fun _ s6 ⟨σ6,H6,I6,q6⟩=>?_)
  refine wpAny_passesOwn hp (cp (hb _ s6 σ6 H6 _ I6 q6) fun f s7 q7=>?_)
  have again:∀ {σ7:St} {H7:Hp},Inv X (pins++iy fp s5.heap) σ7 H7 s7->N σ7 H7->∃ m,m<n/\∃ i σ' H',Inv X pins σ' H' s7/\tn i s7.heap/\(∀ b∈fp,H' b=none)/\W i m σ' H':=fun {σ7 H7} I7 n7=>by
   obtain ⟨m',hm,w7⟩:=hN σ7 H7 n7
   refine⟨m',hm,i+1,σ7,H7,I7.eE,T.keep _ _ _ CG fun b hb o e=>(I7.pin (b,o) (aaZ _ (aaZ _ (dg hb e)))).1,fun b hb=>?_,w7⟩
   obtain ⟨o,e,d⟩:=T.obj _ _ CG b hb
   exact (I7.pin (b,o) (aaZ _ (aaZ _ (dg hb e)))).2.1
  cases f with
  | next=>obtain ⟨σ7,H7,I7,n7⟩:=q7;exact again I7 n7
  | cont=>obtain ⟨σ7,H7,I7,n7⟩:=q7;exact again I7 n7
  | brk=>obtain ⟨σ7,H7,I7,q7⟩:=q7;exact⟨σ7,H7,I7.eE,q7⟩
  | ret v=>obtain ⟨x7,σ7,H7,I7,r7,q7⟩:=q7;exact⟨x7,σ7,H7,I7.eE,r7,q7⟩
end
abbrev R2:=V->V->Hp->VK->Prop
def jb(X:Cx)(f:Value->Value->Sem Value)(r:R2):Prop :=
 ∀ (pins:List (Addr×Obj)) (s:Shared) (σ:St) (H:Hp) (x y:V) (v u:Value) (Q:VK),Inv X pins σ H s->RelV x v->RelV y u->r x y H Q ->
  wpAny (model X.prog X.w) X.A (f v u) (EP X pins σ Q) X.xe s
def TK(X:Cx)(f:Value->Sem Value)(r:V->Hp->VK->Prop):Prop :=
 ∀ (pins:List (Addr×Obj)) (s:Shared) (σ:St) (H:Hp) (x:V) (v:Value) (Q:VK),Inv X pins σ H s->RelV x v->r x H Q ->
  wpAny (model X.prog X.w) X.A (f v) (EP X pins σ Q) X.xe s
def dc(X:Cx)(f:Value)(r:List V->Hp->VK->Prop):Prop :=
 ∀ (pins:List (Addr×Obj)) (s:Shared) (σ:St) (H:Hp) (xs:List V) (us:List Value) (Q:VK),Inv X pins σ H s->Vals xs us->r xs H Q ->
  wpAny (model X.prog X.w) X.A (call f us) (EP X pins σ Q) X.xe s
def ND(r:R2)(ta tb:TE):TE:=fun σ H Q=>ta σ H fun x H1=>tb σ H1 fun y H2=>r x y H2 Q
def tUn(r:V->Hp->VK->Prop)(ta:TE):TE:=fun σ H Q=>ta σ H fun x H1=>r x H1 Q
def rI(C:Int->Int->Prop)(g:Int->Int->V):R2:=fun x y H Q=>∃ i j,x=.int i/\y=.int j/\C i j/\Q (g i j) H
def GI(g:Int->Int->V):R2:=fun x y H Q=>∃ i j,x=.int i/\y=.int j/\Q (g i j) H
def rU(g:Int->V):V->Hp->VK->Prop:=fun x H Q=>∃ i,x=.int i/\Q (g i) H
section
variable {X:Cx}{a b c:Expr}{ta tb tc:TE}{pos:Pos}
theorem KQ(ha:PE X a ta)(hb:PE X b tb){pins:List (Addr×Obj)}{s:Shared}{σ:St}{H:Hp}{R:V->V->Hp->Prop}(I:Inv X pins σ H s)
  (h:ta σ H fun x H1=>tb σ H1 fun y H2=>R x y H2) {Q:Value->Shared->Prop} {f:Value->Value->Sem Value}
  (hf:∀ v u s2 x y H2,Inv X pins σ H2 s2->RelV x v->RelV y u->R x y H2->wpAny (model X.prog X.w) X.A (f v u) Q X.xe s2) :
  wpAny (model X.prog X.w) X.A (eval a X.env) (fun v s₁=>wpAny (model X.prog X.w) X.A (eval b X.env) (fun u s₂=>wpAny (model X.prog X.w) X.A (f v u) Q X.xe s₂) X.xe s₁) X.xe s:=by
 refine cp (ha pins s σ H _ I h) fun v s1 ⟨x,H1,I1,r1,q1⟩=>?_
 refine cp (hb pins s1 σ H1 _ I1 q1) fun u s2 ⟨y,H2,I2,r2,q2⟩=>?_
 exact hf v u s2 x y H2 I2 r1 r2 q2
theorem av{op:Operator}{r:R2}(ho:jb X (binaryOp op) r)(ha:PE X a ta)(hb:PE X b tb):PE X (.BinOp a op b pos) (ND r ta tb):=by
 intro pins s σ H Q I h
 exact wpAny_BinOp (KQ ha hb I h fun v u s2 x y H2 I2 rx ry q=>ho pins s2 σ H2 x y v u Q I2 rx ry q)
theorem fX{op:UnaryOp}{r:V->Hp->VK->Prop}(ho:TK X (unaryOp op) r)(ha:PE X a ta):PE X (.UnaryOp op a pos) (tUn r ta):=by
 intro pins s σ H Q I h
 exact UnaryOp_ (cp (ha pins s σ H _ I h) fun v s1 ⟨x,H1,I1,r1,q1⟩=>ho pins s1 σ H1 x v Q I1 r1 q1)
theorem NF{f:Value->Value->Sem Value}{C:Int->Int->Prop}{g:Int->Int->Int}
  (rule:∀ (i j:Int) (t u:Tok) (s:Shared) (Q:Value->Shared->Prop) (E:Value->Shared->Prop),C i j->Q (.int (g i j) s.toks) { s with toks:=s.toks+1 }->wpAny (model X.prog X.w) X.A (f (.int i t) (.int j u)) Q E s) :
  jb X f (rI C fun i j=>.int (g i j)):=by
 intro pins s σ H x y v u Q I rx ry h
 obtain ⟨i,j,rfl,rfl,hc,q⟩:=h
 obtain ⟨t,rfl⟩:=rx
 obtain ⟨t',rfl⟩:=ry
 exact rule i j t t' s _ _ hc ⟨.int (g i j),H,I.tok _,⟨_,rfl⟩,q⟩
theorem OE{f:Value->Value->Sem Value}{g:Int->Int->Int}
  (rule:∀ (i j:Int) (t u:Tok) (s:Shared) (Q:Value->Shared->Prop) (E:Value->Shared->Prop),Q (.int (g i j) s.toks) { s with toks:=s.toks+1 }->wpAny (model X.prog X.w) X.A (f (.int i t) (.int j u)) Q E s) :
  jb X f (GI fun i j=>.int (g i j)):=by
 intro pins s σ H x y v u Q I rx ry h
 obtain ⟨i,j,rfl,rfl,q⟩:=h
 obtain ⟨t,rfl⟩:=rx
 obtain ⟨t',rfl⟩:=ry
 exact rule i j t t' s _ _ ⟨.int (g i j),H,I.tok _,⟨_,rfl⟩,q⟩
theorem KR{f:Value->Value->Sem Value}{g:Int->Int->Bool}
  (rule:∀ (i j:Int) (t u:Tok) (s:Shared) (Q:Value->Shared->Prop) (E:Value->Shared->Prop),Q (.bool (g i j)) s->wpAny (model X.prog X.w) X.A (f (.int i t) (.int j u)) Q E s) :
  jb X f (GI fun i j=>.bl (g i j)):=by
 intro pins s σ H x y v u Q I rx ry h
 obtain ⟨i,j,rfl,rfl,q⟩:=h
 obtain ⟨t,rfl⟩:=rx
 obtain ⟨t',rfl⟩:=ry
 exact rule i j t t' s _ _ ⟨.bl (g i j),H,I,rfl,q⟩
def TL(i j:Int):Prop:=0<j/\j<1073741824
def TM(i j:Int):Prop:=0<=j/\j<=1000000/\i.natAbs<2 ^ 64
def KS(i j:Int):Prop:=(-(2 ^ 64)<i/\i<2 ^ 64)\/(-(2 ^ 64)<j/\j<2 ^ 64)
theorem KS.ok{i j:Int}(h:KS i j):IntMulOk i j:=by
 rcases h with ⟨h1,h2⟩|⟨h1,h2⟩
 ·exact .of_left (intBits_le_64 h1 h2)
 ·exact .of_right (intBits_le_64 h1 h2)
theorem bh:jb X (binaryOp .Add) (GI fun i j=>.int (i+j)):=OE fun _ _ _ _ _ _ _ q=>add_int q
theorem d3:jb X (binaryOp .Sub) (GI fun i j=>.int (i - j)):=OE fun _ _ _ _ _ _ _ q=>sub_int q
theorem fC:jb X (binaryOp .Mult) (rI KS fun i j=>.int (i*j)):=NF fun _ _ _ _ _ _ _ hc q=>mul_int q hc.ok
theorem fe:jb X (binaryOp .FloorDiv) (rI TL fun i j=>.int (i / j)):=NF fun i j _ _ _ _ _ hc q=>by
 have h1:(0:Int)<j:=hc.1
 have h2:j<1073741824:=hc.2
 exact floordiv_int (by lia) (by rw [aaX i (by lia)];exact q) (.inl (PyProof.noPylong_small (by lia)))
theorem bu:jb X (binaryOp .Mod) (rI (fun _ j=>0<j) fun i j=>.int (i % j)):=NF fun i j _ _ _ _ _ hc q=>by
 have h1:(0:Int)<j:=hc
 exact mod_int' (by lia) (by rw [Int.fmod_eq_emod_of_nonneg i (by lia)];exact q)
theorem KU:jb X (binaryOp .Pow) (rI TM fun i j=>.int (i ^ j.toNat)):=NF fun _ _ _ _ _ _ _ hc q=>pow_int_small hc.1 hc.2.1 hc.2.2 q
theorem unI{f:Value->Sem Value}{g:Int->Int}
  (rule:∀ (i:Int) (t:Tok) (s:Shared) (Q:Value->Shared->Prop) (E:Value->Shared->Prop),Q (.int (g i) s.toks) { s with toks:=s.toks+1 }->wpAny (model X.prog X.w) X.A (f (.int i t)) Q E s) :
  TK X f (rU fun i=>.int (g i)):=by
 intro pins s σ H x v Q I rx h
 obtain ⟨i,rfl,q⟩:=h
 obtain ⟨t,rfl⟩:=rx
 exact rule i t s _ _ ⟨.int (g i),H,I.tok _,⟨_,rfl⟩,q⟩
theorem d5:TK X (unaryOp .USub) (rU fun i=>.int (-i)):=unI fun _ _ _ _ _ q=>neg_int q
end
def OF:V->V->Bool
 | .dB,.dB=>true|.dB,.int _=>true|.int _,.dB=>true|.dB,.bl _=>true|.bl _,.dB=>true|.dB,.str _=>true|.str _,.dB=>true
 | .int _,.int _=>true|.bl _,.bl _=>true|.str _,.str _=>true|.CD _,.CD _=>true
 | .int _,.str _=>true|.str _,.int _=>true|.bl _,.str _=>true|.str _,.bl _=>true
 | _,_=>false
def TN:R2:=fun x y H Q=>OF x y=true/\Q (.bl (decide (x=y))) H
def rNe:R2:=fun x y H Q=>OF x y=true/\Q (.bl (!decide (x=y))) H
theorem zV{i j:Int}:decide (V.int i=V.int j)=(i == j):=by
 rw [Bool.eq_iff_iff]
 simp
theorem Dg{i j:Bool}:decide (V.bl i=V.bl j)=(i == j):=by
 rw [Bool.eq_iff_iff]
 simp
theorem zW{i j:Str}:decide (V.str i=V.str j)=(i == j):=by
 rw [Bool.eq_iff_iff]
 simp
theorem zX{i j:Array UInt8}:decide (V.CD i=V.CD j)=(i.toList == j.toList):=by
 rw [Bool.eq_iff_iff]
 cases i
 cases j
 simp
section
variable {X:Cx}{a b c:Expr}{ta tb tc:TE}{pos:Pos}
theorem bw{pins:List (Addr×Obj)}{σ:St}{H:Hp}{s:Shared}{Q:VK}{k k':Bool}(I:Inv X pins σ H s)(q:Q (.bl k) H)(e:k=k'):EP X pins σ Q (.bool k') s:=by
 subst e
 exact⟨.bl k,H,I,rfl,q⟩
theorem jW:jb X (compareOp .Eq) TN:=by
 intro pins s σ H x y v u Q I rx ry h
 obtain ⟨hs,q⟩:=h
 cases x with
 | dB =>
  cases rx
  cases y with
  | dB=>cases ry;exact PySem.EqNone.eq_none_none (bw I q (by simp))
  | bl j=>cases ry;exact PySem.EqNone.eq_none_bool (bw I q (by simp))
  | int j=>obtain ⟨t',rfl⟩:=ry;exact PySem.EqNone.eq_none_int (bw I q (by simp))
  | str j=>obtain ⟨t',rfl⟩:=ry;exact PySem.EqNone.eq_none_str (bw I q (by simp))
  | _=>exact absurd (show false=true from hs) Bool.false_ne_true
 | bl i =>
  cases rx
  cases y with
  | dB=>cases ry;exact PySem.EqNone.eq_bool_none (bw I q (by simp))
  | bl j=>cases ry;exact eq_bool (bw I q Dg)
  | str j=>obtain ⟨t',rfl⟩:=ry;exact PySem.EqMixed.eq_bool_str (bw I q (by simp))
  | _=>exact absurd (show false=true from hs) Bool.false_ne_true
 | int i =>
  obtain ⟨t,rfl⟩:=rx
  cases y with
  | dB=>cases ry;exact PySem.EqNone.eq_int_none (bw I q (by simp))
  | int j=>obtain ⟨t',rfl⟩:=ry;exact eq_int (bw I q zV)
  | str j=>obtain ⟨t',rfl⟩:=ry;exact PySem.EqMixed.eq_int_str (bw I q (by simp))
  | _=>exact absurd (show false=true from hs) Bool.false_ne_true
 | str i =>
  obtain ⟨t,rfl⟩:=rx
  cases y with
  | dB=>cases ry;exact PySem.EqNone.eq_str_none (bw I q (by simp))
  | bl j=>cases ry;exact PySem.EqMixed.eq_str_bool (bw I q (by simp))
  | int j=>obtain ⟨t',rfl⟩:=ry;exact PySem.EqMixed.eq_str_int (bw I q (by simp))
  | str j=>obtain ⟨t',rfl⟩:=ry;exact eq_str (bw I q zW)
  | _=>exact absurd (show false=true from hs) Bool.false_ne_true
 | CD i =>
  obtain ⟨t,rfl⟩:=rx
  cases y with
  | CD j=>obtain ⟨t',rfl⟩:=ry;exact PySem.W.eq_bytes (bw I q zX)
  | _=>exact absurd (show false=true from hs) Bool.false_ne_true
 | _=>cases y <;> exact absurd (show false=true from hs) Bool.false_ne_true
theorem oY:jb X (compareOp .NotEq) rNe:=by
 intro pins s σ H x y v u Q I rx ry h
 obtain ⟨hs,q⟩:=h
 cases x with
 | dB =>
  cases rx
  cases y with
  | dB=>cases ry;exact PySem.EqNone.ne_none_none (bw I q (by simp))
  | bl j=>cases ry;exact PySem.EqNone.ne_none_bool (bw I q (by simp))
  | int j=>obtain ⟨t',rfl⟩:=ry;exact PySem.EqNone.ne_none_int (bw I q (by simp))
  | str j=>obtain ⟨t',rfl⟩:=ry;exact PySem.EqNone.ne_none_str (bw I q (by simp))
  | _=>exact absurd (show false=true from hs) Bool.false_ne_true
 | bl i =>
  cases rx
  cases y with
  | dB=>cases ry;exact PySem.EqNone.ne_bool_none (bw I q (by simp))
  | bl j=>cases ry;exact ne_bool (bw I q (congrArg not Dg))
  | str j=>obtain ⟨t',rfl⟩:=ry;exact PySem.EqMixed.ne_bool_str (bw I q (by simp))
  | _=>exact absurd (show false=true from hs) Bool.false_ne_true
 | int i =>
  obtain ⟨t,rfl⟩:=rx
  cases y with
  | dB=>cases ry;exact PySem.EqNone.ne_int_none (bw I q (by simp))
  | int j=>obtain ⟨t',rfl⟩:=ry;exact ne_int (bw I q (congrArg not zV))
  | str j=>obtain ⟨t',rfl⟩:=ry;exact PySem.EqMixed.ne_int_str (bw I q (by simp))
  | _=>exact absurd (show false=true from hs) Bool.false_ne_true
 | str i =>
  obtain ⟨t,rfl⟩:=rx
  cases y with
  | dB=>cases ry;exact PySem.EqNone.ne_str_none (bw I q (by simp))
  | bl j=>cases ry;exact PySem.EqMixed.ne_str_bool (bw I q (by simp))
  | int j=>obtain ⟨t',rfl⟩:=ry;exact PySem.EqMixed.ne_str_int (bw I q (by simp))
  | str j=>obtain ⟨t',rfl⟩:=ry;exact ne_str (bw I q (congrArg not zW))
  | _=>exact absurd (show false=true from hs) Bool.false_ne_true
 | CD i =>
  obtain ⟨t,rfl⟩:=rx
  cases y with
  | CD j=>obtain ⟨t',rfl⟩:=ry;exact PySem.W.ne_bytes (bw I q (congrArg not zX))
  | _=>exact absurd (show false=true from hs) Bool.false_ne_true
 | _=>cases y <;> exact absurd (show false=true from hs) Bool.false_ne_true
theorem JE:jb X (compareOp .Lt) (GI fun i j=>.bl (decide (i<j))):=KR fun _ _ _ _ _ _ _ q=>lt_int q
theorem OG:jb X (compareOp .LtE) (GI fun i j=>.bl (decide (i<=j))):=KR fun _ _ _ _ _ _ _ q=>le_int q
theorem sJ:jb X (compareOp .Gt) (GI fun i j=>.bl (decide (j<i))):=KR fun _ _ _ _ _ _ _ q=>gt_int q
theorem oZ:jb X (compareOp .Is) (fun x y H Q=>y=.dB/\Q (.bl (decide (x=.dB))) H):=by
 intro pins s σ H x y v u Q I rx ry h
 obtain ⟨rfl,q⟩:=h
 cases ry
 refine is_none_gen (bw I q ?_)
 cases x <;> first
  | (cases rx;rfl)
  | (obtain ⟨t,rfl⟩:=rx;rfl)
theorem t9:jb X (compareOp .IsNot) (fun x y H Q=>y=.dB/\Q (.bl (!decide (x=.dB))) H):=by
 intro pins s σ H x y v u Q I rx ry h
 obtain ⟨rfl,q⟩:=h
 cases ry
 refine isnot_none_gen (bw I q ?_)
 cases x <;> first
  | (cases rx;rfl)
  | (obtain ⟨t,rfl⟩:=rx;rfl)
theorem aX(b:Expr){op:CmpOp}(h:op≠.In:=by decide)(h2:op≠.NotIn:=by decide):behindInMarks op b=false:=by
 have e1:(op == CmpOp.In)=false:=by cases op <;> first|rfl|exact absurd rfl h
 have e2:(op == CmpOp.NotIn)=false:=by cases op <;> first|rfl|exact absurd rfl h2
 cases b <;> simp [behindInMarks,e1,e2]
theorem gG{op:CmpOp}{r:R2}(ho:jb X (compareOp op) r)(ha:PE X a ta)(hb:PE X b tb)(hm:behindInMarks op b=false):PE X (.Compare a [op] [b] pos) (ND r ta tb):=by
 intro pins s σ H Q I h
 exact wpAny_Compare1 (KQ ha hb I h fun v u s2 x y H2 I2 rx ry q=>ho pins s2 σ H2 x y v u Q I2 rx ry q) hm
def JF(t:TE):TT:=fun σ H Q=>t σ H fun x H'=>∃ k,x=.bl k/\Q k H'
theorem ba{op:CmpOp}{r:R2}(ho:jb X (compareOp op) r)(ha:PE X a ta)(hb:PE X b tb)(hm:behindInMarks op b=false):PT X (.Compare a [op] [b] pos) (JF (ND r ta tb)):=by
 intro pins s σ H Q I h
 refine wpAny_isTrue_Compare1 (cp (ha pins s σ H _ I h) fun v s1 ⟨x,H1,I1,r1,q1⟩=>cp (hb pins s1 σ H1 _ I1 q1) fun u s2 ⟨y,H2,I2,r2,q2⟩ =>
  cp (ho pins s2 σ H2 x y v u _ I2 r1 r2 q2) fun c s3 ⟨z,H3,I3,r3,k,e,q3⟩=>?_) hm
 subst e
 cases r3
 exact wpAny_truthy_bool ⟨H3,I3,q3⟩
theorem pe:(sizeLine:Nat)<2 ^ 63:=by rw [sizeLine_eq];decide
theorem xW:jb X (binaryOp .Add) (fun x y H Q=>∃ i j,x=.str i/\y=.str j/\i.length+j.length<=sizeLine/\Q (.str (i++j)) H):=by
 intro pins s σ H x y v u Q I rx ry h
 obtain ⟨i,j,rfl,rfl,hz,q⟩:=h
 obtain ⟨t,rfl⟩:=rx
 obtain ⟨t',rfl⟩:=ry
 exact add_str (fun t' tk=>⟨.str (i++j),H,I.tok _,⟨_,rfl⟩,q⟩) hz
theorem vals1{x:V}{us:List Value}(r:Vals [x] us):∃ u,us=[u]/\RelV x u:=by
 cases r with
 | cons r1 r2=>cases r2;exact⟨_,rfl,r1⟩
theorem vals2{x y:V}{us:List Value}(r:Vals [x,y] us):∃ u w',us=[u,w']/\RelV x u/\RelV y w':=by
 cases r with
 | cons r1 r2 =>
  cases r2 with
  | cons r3 r4=>cases r4;exact⟨_,_,rfl,r1,r3⟩
theorem Dh:dc X (.builtin "abs") (fun xs H Q=>∃ i,xs=[.int i]/\Q (.int (if i<0 then -i else i)) H):=by
 intro pins s σ H xs us Q I r h
 obtain ⟨i,rfl,q⟩:=h
 obtain ⟨u,rfl,t,rfl⟩:=vals1 r
 exact call_abs_int fun u tk=>⟨.int (if i<0 then -i else i),H,I.tok _,⟨_,rfl⟩,q⟩
theorem ua:dc X (.type "str") (fun xs H Q=>∃ i,xs=[.int i]/\i.natAbs.log2<1920/\Q (.str (toString i)) H):=by
 intro pins s σ H xs us Q I r h
 obtain ⟨i,rfl,hz,q⟩:=h
 obtain ⟨u,rfl,t,rfl⟩:=vals1 r
 exact PySem.P.str_of_int hz ⟨.str _,H,I.tok _,⟨_,rfl⟩,q⟩
end
structure xX(h:Heap)(x dx C:Addr)(mA:Str->Option Value):Prop where
 obj:h.get? x=some (instObj C dx)
 ns:h.Ns1 dx mA
 ne:dx≠x
theorem A4{h:Heap}{dx:Addr}{mA:Str->Option Value}(n:h.Ns1 dx mA):∃ od,h.get? dx=some od/\∀ name,lookIn name od=some (mA name):=by
 obtain ⟨o,es,ep,ho,hd,hk,_,hm⟩:=n
 refine⟨o,ho,fun name=>?_⟩
 have e:=hm name
 unfold nsFind findBy at e
 rw [<- Array.find?_toList] at e
 unfold lookIn
 rw [hd]
 dsimp only
 split
 ·rename_i y q
  rw [q] at e
  exact congrArg some e
 ·rename_i q
  rw [q] at e
  have a:es.toList.any (·.refKey)=false:=by
   rw [List.any_eq_false]
   intro y hy
   obtain ⟨z,t,TQ⟩:=hk y (Array.mem_toList_iff.mp hy)
   simp [DictEntry.refKey,TQ]
  have a':¬ es.toList.any (·.refKey)=true:=by rw [a];exact Bool.false_ne_true
  rw [if_neg a']
  exact congrArg some e
theorem xX.look{h:Heap}{x dx C:Addr}{mA:Str->Option Value}(I:xX h x dx C mA):∃ od,PySem.W.InstAt h x (instObj C dx) C (some od)/\∀ name,lookIn name od=some (mA name) :=
 let ⟨od,ho,hl⟩:=A4 I.ns
 ⟨od,⟨I.obj,rfl,rfl,ho⟩,hl⟩
section
variable {prog:Program}{w:World}{A:Around}{E:Value->Shared->Prop}{s:Shared}{K:Frag}{x dx C f:Addr}{mA:Str->Option Value}{name:Str}{v:Value}
theorem get_map{expr:Bool}{Q:Value->Shared->Prop}(X:K.In s.heap)(I:xX s.heap x dx C mA)(hg:plainGet K C name=true)(hh:hasDictIn K C=true)
  (ha:findIn K (.ref C) name=some none) (hv:mA name=some v) (hv':handedIn v=true) (h:Q v { s with toks:=s.toks+1 }) :
  wpAny (model prog w) A (getAttr (.ref x) name expr) Q E s:=by
 obtain ⟨od,J,hl⟩:=I.look
 exact PySem.W.get_value X J (plainGet_of hg).1 (PySem.W.findObj_own hh ha rfl (by rw [hl,hv])) hv' h
theorem Di{pl:Sem Bool}{Q:Value×List Value->Shared->Prop}(X:K.In s.heap)(I:xX s.heap x dx C mA)(hg:plainGet K C name=true)
  (hf:findIn K (.ref C) name=some (some (.ref f))) (ht:isFn K (.ref f)=true) (hv:mA name=none) (h:Q (.ref f,[.ref x]) s) :
  wpAny (model prog w) A (getMethod (.ref x) name pl) Q E s:=by
 obtain ⟨od,J,hl⟩:=I.look
 exact PySem.W.method_fn X J (plainGet_of hg).1 (plainGet_of hg).2 hf (beq_iff_eq.mp ht) (by show (lookIn name od).map (·.isSome)=some false;rw [hl,hv];rfl) h
theorem GJ{ns:List Str}{Q:Unit->Shared->Prop}(X:K.In s.heap)(I:xX s.heap x dx C mA)
  (hs:findIn K (.ref C) "__setattr__"=some (some (.builtin "object.__setattr__"))) (hp:plainOver K C=true) (ht:takerIn K C name=some none) (hh:hasDictIn K C=true)
  (hw:PySem.Within mA ns) (jc:ns.length<=sizeLine)
  (h:∀ h',xX h' x dx C (fun y=>if y=name then some v else mA y)->Heap.SameBut dx s.heap h'->Q () { s with heap:=h',toks:=s.toks+2 }) :
  wpAny (model prog w) A (setAttr (.ref x) name v) Q E s:=by
 obtain ⟨od,J,hl⟩:=I.look
 refine PySem.W.set_plain X J hs (PySem.W.osa_open (s:={ s with toks:=s.toks+1 }) (r:=none) X J hp ht fun b=>?_)
 obtain ⟨cd,hc,Jw⟩:=PySem.W.any_some hh
 have hx:s.heap.get? x=some ⟨.ref C,some dx,.plain,#[]⟩:=I.obj
 refine aaE (aaT (aaE (aaE (wpAny_loadPart hx (aaE (PySem.W.Looks.here (s:={ s with toks:=s.toks+1 }) (PySem.W.looks_clsIn X hc) ?_))))))
 rw [Jw]
 refine aaT (a:=some dx) (aaE (aaT (aaE ?_)))
 refine wpAny_nsSet1 (s:={ s with toks:=s.toks+1 }) I.ns fun h' vB eL=>?_
 obtain ⟨oD,esD,epD,hoD,hdD,hcD⟩:=vB.count (PySem.Within.cons name v hw)
 refine aaE (wpAny_lookBehind hoD (by rw [hdD];exact pastItsLine_dict (aaJ hcD (by rw [length_cons];lia))) ?_)
 exact aaT (h _ ⟨(eL.2 _ (Ne.symm I.ne)).trans I.obj,vB,I.ne⟩ eL)
theorem Dj{R:Result->Shared->Prop}{vs:List Value}{kw:List (Str×Value)}(X:K.In s.heap)(hm:makesIn K C=true)
  (hi:findIn K (.ref C) "__init__"=some (some (.ref f))) (hf:typeIn K (.ref f)=some (.type "function"))
  (h:codeAny (model prog w) (A.under (.builtin "type.__call__" ⟨.ref C::vs,kw⟩)) (.call (.ref f) ⟨.ref (s.heap.objs.size+1)::vs,kw⟩) (PySem.W.InitBack (s.heap.objs.size+1) R)
   { s with heap:=(s.heap.push emptyDict).push (instObj C s.heap.objs.size) }) :
  codeAny (model prog w) A (.call (.ref C) ⟨vs,kw⟩) R s:=by
 obtain ⟨hh,g,d,t,os⟩:=s
 exact PySem.W.make_core (PySem.W.makes_of X hm) (PySem.W.looks_findIn X hi) (fun self=>PySem.W.bind_fn X self hf) (.inl rfl) h
end
def iZ(f:Str)(v:V):List (Str×V)->List (Str×V)
 | []=>[(f,v)]
 | (g,x)::r=>if g=f then (g,v)::r else (g,x)::iZ f v r
theorem nI(f g:Str)(v:V):∀ fs:List (Str×V),(iZ f v fs).lookup g=if g=f then some v else fs.lookup g
 | []=>by
  show List.lookup g [(f,v)]=_
  by_cases h:g=f
  ·have hb:(g == f)=true:=beq_iff_eq.mpr h
   simp only [List.lookup,hb,if_pos h]
  ·have hb:(g == f)=false:=beq_eq_false_iff_ne.mpr h
   simp only [List.lookup,hb,if_neg h]
 | (k,x)::r=>by
  have ih:=nI f g v r
  rw [show iZ f v ((k,x)::r)=(if k=f then (k,v)::r else (k,x)::iZ f v r) from rfl]
  by_cases hk:k=f
  ·rw [if_pos hk]
   by_cases h:g=k
   ·have hb:(g == k)=true:=beq_iff_eq.mpr h
    simp only [List.lookup,hb,if_pos (h.trans hk)]
   ·have hb:(g == k)=false:=beq_eq_false_iff_ne.mpr h
    simp only [List.lookup,hb,if_neg (fun e:g=f=>h (e.trans hk.symm))]
  ·rw [if_neg hk]
   by_cases h:g=k
   ·have hb:(g == k)=true:=beq_iff_eq.mpr h
    simp only [List.lookup,hb,if_neg (fun e:g=f=>hk (h.symm.trans e))]
   ·have hb:(g == k)=false:=beq_eq_false_iff_ne.mpr h
    simp only [List.lookup,hb]
    exact ih
theorem mi(f:Str)(v:V):∀ fs:List (Str×V),f∈(iZ f v fs).map (·.1)/\∀ g,g∈fs.map (·.1)->g∈(iZ f v fs).map (·.1)
 | []=>⟨by simp [iZ],fun g h=>by simp at h⟩
 | (k,x)::r=>by
  obtain ⟨i1,i2⟩:=mi f v r
  rw [show iZ f v ((k,x)::r)=(if k=f then (k,v)::r else (k,x)::iZ f v r) from rfl]
  by_cases hk:k=f
  ·rw [if_pos hk]
   subst hk
   exact⟨by simp,fun g h=>by simpa using h⟩
  ·rw [if_neg hk]
   refine⟨?_,fun g h=>?_⟩
   ·rw [map_cons]
    exact aa6 _ i1
   ·rw [map_cons] at h ⊢
    rcases aa7.mp h with e|e
    ·exact aa7.mpr (.inl e)
    ·exact aa6 _ (i2 g e)
theorem nJ(f:Str)(v:V):∀ fs:List (Str×V),(iZ f v fs).length<=fs.length+1
 | []=>by simp [iZ]
 | (k,x)::r=>by
  have ih:=nJ f v r
  rw [show iZ f v ((k,x)::r)=(if k=f then (k,v)::r else (k,x)::iZ f v r) from rfl]
  by_cases hk:k=f
  ·rw [if_pos hk,length_cons,length_cons];lia
  ·rw [if_neg hk,length_cons,length_cons];lia
theorem qV.some_of{v:V}{o:Option Value}(r:qV (some v) o):∃ u,o=some u/\RelV v u:=by
 cases o with
 | none=>exact (show False from r).elim
 | some u=>exact⟨u,rfl,r⟩
theorem qV.none_of{o:Option Value}(r:qV none o):o=none:=by
 cases o with
 | none=>rfl
 | some u=>exact (show False from r).elim
theorem A5{v:V}{u:Value}(r:RelV v u):handedIn u=true:=by
 cases v with
 | dB=>cases (show u=Value.none from r);rfl
 | bl b=>cases (show u=Value.bool b from r);rfl
 | int i=>obtain ⟨t,e⟩:=(show ∃ t,u=Value.int i t from r);cases e;rfl
 | str x=>obtain ⟨t,e⟩:=(show ∃ t,u=Value.str x t from r);cases e;rfl
 | CD b=>obtain ⟨t,e⟩:=(show ∃ t,u=Value.bytes b t from r);cases e;rfl
 | KA b=>obtain ⟨t,e⟩:=(show ∃ t,u=Value.float b t from r);cases e;rfl
 | ref a=>cases (show u=Value.ref a from r);rfl
 | ty n=>cases (show u=Value.type n from r);rfl
section
variable {P:Program}{w:World}{H H':Hp}{h h':Heap}{a C dx:Addr}{fs fs':List (Str×V)}
theorem oF(aN:ft P w H h)(e:H a=some (.ins C dx fs)):∃ mA,xX h a dx C mA/\(∀ f,qV (fs.lookup f) (mA f))/\PySem.Within mA (fs.map (·.1))/\fs.length<=1000/\H dx=some (.own a):=by
 obtain ⟨d,z,ne,ob,mA,n,r,q⟩:=(show dv P w H h a (.ins C dx fs) from aN a _ e)
 exact⟨mA,⟨ob,n,ne⟩,r,q,z,d⟩
end
structure xY(K:Frag)(C:Addr):Prop where
 pg:plainGet K C Str.empty=true
 hd:hasDictIn K C=true
 po:plainOver K C=true
 sa:findIn K (.ref C) "__setattr__"=some (some (.builtin "object.__setattr__"))
theorem xY.get{K:Frag}{C:Addr}(c:xY K C)(f:Str):plainGet K C f=true:=c.pg
def fY(K:Frag)(C:Addr)(f:Str):Prop:=findIn K (.ref C) f=some none
theorem fY.OH{K:Frag}{C:Addr}{f:Str}(n:fY K C f):takerIn K C f=some none:=by
 unfold takerIn
 rw [show findIn K (.ref C) f=some none from n]
 rfl
structure Meth(K:Frag)(C:Addr)(m:Str)(f:Addr):Prop where
 at_:findIn K (.ref C) m=some (some (.ref f))
 fn:isFn K (.ref f)=true
 kp:keepIn K (.ref f)=true
section
variable {X:Cx}{pins:List (Addr×Obj)}{σ:St}{H:Hp}{s:Shared}{a C dx:Addr}{fs:List (Str×V)}{f:Str}{v:V}{A:Around}{E:Value->Shared->Prop}
theorem xZ{b:Bool}{Q:Value->Shared->Prop}(I:Inv X pins σ H s)(e:H a=some (.ins C dx fs))(c:xY X.K C)(n:fY X.K C f)(l:fs.lookup f=some v)
  (h:∀ u s',Inv X pins σ H s'->RelV v u->Q u s'):wpAny (model X.prog X.w) A (getAttr (.ref a) f b) Q E s:=by
 obtain ⟨mA,O,r,_,_,_⟩:=oF I.aN e
 obtain ⟨u,hu,ru⟩:=qV.some_of (v:=v) (o:=mA f) (by rw [<- l];exact r f)
 exact get_map I.i9 O (c.get f) c.hd n hu (A5 ru) (h u _ (I.tok _) ru)
theorem x5{m:Str}{g:Addr}{pl:Sem Bool}{Q:Value×List Value->Shared->Prop}(I:Inv X pins σ H s)(e:H a=some (.ins C dx fs))(c:xY X.K C)(k:Meth X.K C m g)(l:fs.lookup m=none)
  (h:Q (.ref g,[.ref a]) s):wpAny (model X.prog X.w) A (getMethod (.ref a) m pl) Q E s:=by
 obtain ⟨mA,O,r,_,_,_⟩:=oF I.aN e
 have hn:mA m=none:=qV.none_of (by rw [<- l];exact r m)
 exact Di I.i9 O (c.get m) k.at_ k.fn hn h
theorem x6{y:V}{u:Value}{Q:Unit->Shared->Prop}(I:Inv X pins σ H s)(e:H a=some (.ins C dx fs))(c:xY X.K C)(n:fY X.K C f)(hl:fs.length<1000)(ry:RelV y u)
  (h:∀ s',Inv X pins σ (upd H a (.ins C dx (iZ f y fs))) s'->Q () s'):wpAny (model X.prog X.w) A (setAttr (.ref a) f u) Q E s:=by
 obtain ⟨mA,O,r,wi,_,ho⟩:=oF I.aN e
 have hz:(fs.map (·.1)).length<=sizeLine:=by rw [aa4,sizeLine_eq];lia
 refine GJ I.i9 O c.sa c.po n.OH c.hd wi hz fun h' O' sb=>h _ ?_
 have hd:∃ o,h'.get? dx=some o:=let ⟨o,_,_,e',_⟩:=O'.ns;⟨o,e'⟩
 refine I.write (x:=a) (e:=dx) (by rw [e];exact True.intro) (.inr ho) (fun b q hb z=>(sb.2 b hb).trans z) hd ?_
 refine⟨by rw [au O.ne];exact ho,?_,O.ne,O'.obj,_,O'.ns,fun g=>?_,fun g hg=>?_⟩
 ·have:=nJ f y fs;lia
 ·show qV ((iZ f y fs).lookup g) (if g=f then some u else mA g)
  rw [nI]
  by_cases q:g=f
  ·rw [if_pos q,if_pos q];exact ry
  ·rw [if_neg q,if_neg q];exact r g
 ·by_cases q:g=f
  ·rw [q];exact (mi f y fs).1
  ·refine (mi f y fs).2 g (wi g fun z=>hg ?_)
   show (if g=f then some u else mA g)=none
   rw [if_neg q];exact z
theorem Inv.made(I:Inv X pins σ H s):Inv X pins σ (upd (upd H s.heap.objs.size (.own (s.heap.objs.size+1))) (s.heap.objs.size+1) (.ins C s.heap.objs.size []))
  { s with heap:=(s.heap.push emptyDict).push (instObj C s.heap.objs.size) }:=by
 have e1:(s.heap.push emptyDict).get? s.heap.objs.size=some emptyDict:=aaI s.heap rfl
 have e2:((s.heap.push emptyDict).push (instObj C s.heap.objs.size)).get? (s.heap.objs.size+1)=some (instObj C s.heap.objs.size):=by
  have:=aaI (s.heap.push emptyDict) (o:=instObj C s.heap.objs.size) rfl
  rwa [Heap.size_push] at this
 have e3:(s.heap.push emptyDict).Ns s.heap.objs.size (fun _=>none):=⟨emptyDict,#[],_,e1,rfl,(fun e he=>absurd he (by simp)),fun _=>rfl⟩
 have I1:=I.laid (a:=s.heap.objs.size) (o:=.own (s.heap.objs.size+1)) (h':=s.heap.push emptyDict) (t':=s.toks) (fun b u q=>aaD _ q) (aaK _) ⟨_,e1⟩
 refine I1.laid (a:=s.heap.objs.size+1) (o:=.ins C s.heap.objs.size []) (t':=s.toks) (fun b u q=>aaD _ q) (le_of_eq (Heap.size_push _ _)) ?_
 have ne:s.heap.objs.size≠s.heap.objs.size+1:=abt (lt_succ_self _)
 refine⟨by rw [au ne,aw],abr _,ne,e2,fun _=>none,(Heap.Ns1.of_empty e3).at fun o q=>aaD _ q,fun _=>True.intro,fun y hy=>absurd rfl hy⟩
theorem GK{prog:Program}{w:World}{env:Env}{e:Expr}{f:Str}{pos:Pos}{s:Shared}{Q:Value->Shared->Prop}(hb:attributeBase e f env (eval e env)=eval e env)
  (h:wpAny (model prog w) A (eval e env) (fun o s₁=>wpAny (model prog w) A (getAttr o f true) Q E s₁) E s):wpAny (model prog w) A (eval (.Attribute e f pos) env) Q E s :=
 Attribute_any_ h (by rw [arm_eval_Attribute,hb])
end
def KW(K:Frag)(ta:TE)(f:Str):TE:=fun σ H Q=>ta σ H fun x H1=>∃ a C dx fs v,x=.ref a/\H1 a=some (.ins C dx fs)/\xY K C/\fY K C f/\fs.lookup f=some v/\Q v H1
def KY(K:Frag)(ta tv:TE)(f:Str):TS:=fun D σ H=>tv σ H fun y H1=>ta σ H1 fun x H2=>∃ a C dx fs,x=.ref a/\H2 a=some (.ins C dx fs)/\xY K C/\fY K C f/\fs.length<1000 /\
 D.nx σ (upd H2 a (.ins C dx (iZ f y fs)))
section
variable {X:Cx}{o e value:Expr}{f:Str}{pos pos' nZ:Pos}{ta tv:TE}
theorem KZ(he:PE X e ta)(hb:attributeBase e f X.env (eval e X.env)=eval e X.env):PE X (.Attribute e f pos) (KW X.K ta f):=by
 intro pins s σ H Q I h
 refine GK hb (cp (he pins s σ H _ I h) fun u s1 ⟨x,H1,I1,rx,a,C,dx,fs,v,ex,ea,c,n,l,q⟩=>?_)
 subst ex
 obtain rfl:u=Value.ref a:=rx
 exact xZ I1 ea c n l fun u' s2 I2 ru=>⟨v,H1,I2,ru,q⟩
theorem K0(ha:PE X o ta)(hv:PE X value tv)(hs:swapsWith value (some (.Attribute o f pos')) pos.line X.env=pure false):PS X (.Assign [.Attribute o f pos'] value pos) (KY X.K ta tv f):=by
 intro pins s σ H D I h
 refine plainObj_wpAny_Assign_Attribute (cp (hv pins s σ H _ I h) fun u s1 ⟨y,H1,I1,ry,q⟩=>cp (ha pins s1 σ H1 _ I1 q) fun ov s2 ⟨x,H2,I2,rx,a,C,dx,fs,ex,ea,c,n,l,q2⟩=>?_) hs
 subst ex
 obtain rfl:ov=Value.ref a:=rx
 exact x6 I2 ea c n l ry fun s3 I3=>⟨σ,_,I3,q2⟩
end
section
variable {X:Cx}{pins:List (Addr×Obj)}{σ:St}{H:Hp}{s:Shared}{A:Around}{E:Value->Shared->Prop}{Q:Value->Shared->Prop}{c:Value}{b:Bool}
inductive mj(K:Frag)(H:Hp):V->Value->Prop where
 | dB:mj K H .dB (.type "NoneType")
 | bl (x:Bool):mj K H (.bl x) (.type "bool")
 | int (i:Int):mj K H (.int i) (.type "int")
 | str (x:Str):mj K H (.str x) (.type "str")
 | KA (x:UInt64):mj K H (.KA x) (.type "float")
 | lst {a:Addr} {xs:List V} (e:H a=some (.lst xs)):mj K H (.ref a) (.type "list")
 | sj {a:Addr} {o:Obj} {xs:List V} (e:H a=some (.sj o (.lst xs))):mj K H (.ref a) (.type "list")
 | tup {a:Addr} {xs:List V} (e:H a=some (.tup xs)):mj K H (.ref a) (.type "tuple")
 | dK {a:Addr} {kM:List (Key×V)} (e:H a=some (.dK kM)):mj K H (.ref a) (.type "dict")
 | dT {a:Addr} {kM:List (List Key×V)} (e:H a=some (.dT kM)):mj K H (.ref a) (.type "dict")
 | ins {a C dx:Addr} {fs:List (Str×V)} (e:H a=some (.ins C dx fs)) (cl:xY K C) (ha:findIn K (.ref C) "__class__"=some (some (.builtin "object.__class__")))
   (hn:specialIn K (.builtin "object.__class__") "__get__"=some (some (.builtin "getset_descriptor.__get__"))) (htk:takesIn K (.builtin "object.__class__")=some true)
   (hm:mroIn K C (.type "object")=some true):mj K H (.ref a) (.ref C)
theorem A6{x:V}{u t:Value}(I:Inv X pins σ H s)(rx:RelV x u)(ty:mj X.K H x t)(e:PySem.W.kitOne X.K t c=some b)(h:∀ tk,Q (.bool b) { s with toks:=tk }) :
  wpAny (model X.prog X.w) A (call (.builtin "isinstance") [u,c]) Q E s:=by
 cases ty with
 | dB=>cases (show u=Value.none from rx);exact PySem.W.kia_one PySem.W.kitx_none I.i9 True.intro e (fun z=>nomatch z) h
 | bl y=>cases (show u=Value.bool y from rx);exact PySem.W.kia_one PySem.W.kitx_bool I.i9 True.intro e (fun z=>nomatch z) h
 | int i=>obtain ⟨t,q⟩:=(show ∃ t,u=Value.int i t from rx);cases q;exact PySem.W.kia_one PySem.W.kitx_int I.i9 True.intro e (fun z=>nomatch z) h
 | str y=>obtain ⟨t,q⟩:=(show ∃ t,u=Value.str y t from rx);cases q;exact PySem.W.kia_one PySem.W.kitx_str I.i9 True.intro e (fun z=>nomatch z) h
 | KA y=>obtain ⟨t,q⟩:=(show ∃ t,u=Value.float y t from rx);cases q;exact PySem.W.kia_one PySem.W.kitx_float I.i9 True.intro e (fun z=>nomatch z) h
 | @lst a xs ea =>
  cases (show u=Value.ref a from rx)
  obtain ⟨_,_,n,_,h1⟩:=(show dv X.prog X.w H s.heap a (.lst xs) from I.aN a _ ea)
  exact PySem.W.kia_one kitx_list I.i9 ⟨_,h1,rfl⟩ e (fun z=>nomatch z) h
 | @sj a ob xs ea =>
  cases (show u=Value.ref a from rx)
  obtain ⟨_,_,_,n,_,h1⟩:=(show dv X.prog X.w H s.heap a (.sj ob (.lst xs)) from I.aN a _ ea)
  exact PySem.W.kia_one kitx_list I.i9 ⟨_,h1,rfl⟩ e (fun z=>nomatch z) h
 | @tup a xs ea =>
  cases (show u=Value.ref a from rx)
  obtain ⟨_,_,_,p⟩:=(show dv X.prog X.w H s.heap a (.tup xs) from I.aN a _ ea)
  obtain ⟨o,h1,h2,_⟩:=p
  exact PySem.W.kia_one kitx_tuple I.i9 ⟨o,h1,h2⟩ e (fun z=>nomatch z) h
 | @dK a kM ea =>
  cases (show u=Value.ref a from rx)
  obtain ⟨_,_,vs,_,p⟩:=(show dv X.prog X.w H s.heap a (.dK kM) from I.aN a _ ea)
  obtain ⟨o,es,ep,h1,h2,_⟩:=p
  exact PySem.W.kia_one kitx_dict I.i9 ⟨o,h1,h2.1⟩ e (fun z=>nomatch z) h
 | @dT a kM ea =>
  cases (show u=Value.ref a from rx)
  obtain ⟨_,_,xs,_,o,es,ep,h1,h2,_⟩:=(show dv X.prog X.w H s.heap a (.dT kM) from I.aN a _ ea)
  exact PySem.W.kia_one kitx_dict I.i9 ⟨o,h1,h2.1⟩ e (fun z=>nomatch z) h
 | @ins a C dx fs ea cl ha hn htk hm =>
  cases (show u=Value.ref a from rx)
  obtain ⟨mA,O,_⟩:=oF I.aN ea
  obtain ⟨od,J,_⟩:=O.look
  exact PySem.W.kia_one (PySem.W.kitx_own (cl.get _) cl.hd ha hn htk hm) I.i9 J e (fun z=>nomatch z) h
end
structure cj(k:Nat)(A:Around):Prop where
 hd:A.handled=none
 dp:A.depth+3*k+5<recursionLimit
 un:A.units+16*k+200<cLine
theorem cj.mono{j k:Nat}{A:Around}(r:cj k A)(h:j<=k):cj j A:=⟨r.hd,by have:=r.dp;lia,by have:=r.un;lia⟩
theorem cj.deeper{k:Nat}{A:Around}(r:cj (k+1) A)(env:Env):cj k (A.deeper env) :=
 ⟨r.hd,by have:=r.dp;show A.depth+1+3*k+5<_;lia,by have:=r.un;show A.units+3+16*k+200<_;lia⟩
theorem cj.in1{k:Nat}{A:Around}(r:cj (k+1) A):cj k A.in1 :=
 ⟨r.hd,by have:=r.dp;show A.depth+3*k+5<_;lia,by have:=r.un;show A.units+1+16*k+200<_;lia⟩
theorem x8 {A:Around} {C:Addr} {us:List Value} {kw:List (Str×Value)}:(A.under (.builtin "type.__call__" ⟨.ref C::us,kw⟩)).depth=A.depth+1:=by
 first|rfl|simp [Around.under,Code.weight,Code.isCreation,Code.isGuard,Code.isCaller,Code.frames,Code.isFrame,guardIds]
theorem x9 {A:Around} {C:Addr} {us:List Value} {kw:List (Str×Value)}:(A.under (.builtin "type.__call__" ⟨.ref C::us,kw⟩)).units=A.units+1:=by
 first|rfl|simp [Around.under,Code.cUnits,Code.frames,Code.isFrame]
theorem cj.make {k:Nat} {A:Around} (r:cj (k+1) A) (C:Addr) (us:List Value) (kw:List (Str×Value)):cj k (A.under (.builtin "type.__call__" ⟨.ref C::us,kw⟩)) :=
 ⟨r.hd,by have:=r.dp;rw [x8];lia,by have:=r.un;rw [x9];lia⟩
theorem cj.depth{k:Nat}{A:Around}(r:cj k A):A.depth<recursionLimit:=by have:=r.dp;lia
theorem cj.units{k:Nat}{A:Around}(r:cj k A):A.units+64<cLine:=by have:=r.un;lia
def yc:TA:=fun _ H Q=>Q [] H
def pf(ta:TE)(tr:TA):TA:=fun σ H Q=>ta σ H fun x H1=>tr σ H1 fun xs H2=>Q (x::xs) H2
section
variable {X:Cx}{e:Expr}{es:List Expr}{te:TE}{t:TA}{pos:Pos}
theorem ah:PA X [] yc:=fun _ _ _ _ H Q I h=>Calls.spliced_nil ⟨[],H,I,.nil,h⟩
theorem aa(ha:PE X e te)(hr:PA X es t)(hs:starEach (e::es) X.env=(false,eval e X.env)::starEach es X.env:=by rfl):PA X (e::es) (pf te t):=by
 intro pos pins s σ H Q I h
 rw [hs]
 show wpAny _ _ (spliced ((false,eval e X.env)::backTo pos (starEach es X.env))) _ _ s
 refine Calls.spliced_cons (cp (ha pins s σ H _ I h) fun u s1 ⟨x,H1,I1,r1,q1⟩=>?_)
 exact cp (hr pos pins s1 σ H1 _ I1 q1) fun us s2 ⟨xs,H2,I2,r2,q2⟩=>⟨x::xs,H2,I2,.cons r1 r2,q2⟩
def OI(t:TA):TE:=fun σ H Q=>t σ H fun xs H1=>xs.length<=sizeLine/\∀ p,H1 p=none->Q (.ref p) (upd H1 p (.tup xs))
def GL(t:TA):TE:=fun σ H Q=>t σ H fun xs H1=>xs.length<=sizeLine/\∀ p,H1 p=none->Q (.ref p) (upd H1 p (.lst xs))
theorem aV{x1}(h:PA X es t):PE X (.Tuple es x1 pos) (OI t):=by
 intro pins s σ H Q I hq
 refine wpAny_Tuple_spliced (cp (h pos pins s σ H _ I hq) fun us s1 ⟨xs,H1,I1,r,z,q⟩=>⟨by rw [<- r.length];exact z,?_⟩)
 have hf:H1 s1.heap.objs.size=none:=I1.aN.fresh (aaK _)
 refine⟨.ref s1.heap.objs.size,upd H1 s1.heap.objs.size (.tup xs),I1.laid (t':=s1.toks) (fun b u e=>aaD _ e) (aaK _) ?_,rfl,q _ hf⟩
 exact⟨z,us,r,⟨_,aaI _ rfl,rfl,_,rfl⟩⟩
theorem bV(h:PA X es t):PE X (.List es pos) (GL t):=by
 intro pins s σ H Q I hq
 refine wpAny_List_spliced (cp (h pos pins s σ H _ I hq) fun us s1 ⟨xs,H1,I1,r,z,q⟩=>⟨by rw [<- r.length];exact z,?_⟩)
 have hf:H1 s1.heap.objs.size=none:=I1.aN.fresh (aaK _)
 refine⟨.ref s1.heap.objs.size,upd H1 s1.heap.objs.size (.lst xs),I1.laid (t':=s1.toks) (fun b u e=>aaD _ e) (aaK _) ?_,rfl,q _ hf⟩
 exact⟨z,us,0,r,aaI _ rfl⟩
end
abbrev Sp:=List V->Hp->VK->XK->Prop
abbrev CH:=List Env->Hp->Shared->XK->Value->Shared->Prop
structure vN(P:Program)(w:World)(K:Frag)(mg:Str->Option Value)(base:Heap)(A:Around)(outer:List Env)(s:Shared)(H:Hp):Prop where
 frames:A.frames=some outer
 mod:Mod K mg base
 bs:∀ b o,base.get? b=some o->s.heap.get? b=some o/\H b=none
 qW:base.objs.size<=s.heap.objs.size
 ip:s.heap.FunFrames base outer
 CF:∀ b∈jV outer,H b=none
 aN:ft P w H s.heap
 bare:AllBare s.gens
def CE(outer:List Env)(P:Program)(w:World)(H:Hp)(s:Shared)(Q:VK)(u:Value)(s':Shared):Prop :=
 ∃ v H',s'.os=s.os/\AllBare s'.gens/\Un (jV outer) [] H H' s.heap s'.heap/\ft P w H' s'.heap/\RelV v u/\Q v H'
def CR(CX:CH)(outer:List Env)(P:Program)(w:World)(H:Hp)(s:Shared)(Q:VK)(E:XK)(r:Result)(s':Shared):Prop :=
 match r with
 | .ok (.ret u)=>CE outer P w H s Q u s'
 | .ok _=>False
 | .error e=>CX outer H s E e s'
structure j8(P:Program)(w:World)(K:Frag)(mg:Str->Option Value)(base:Heap)(CX:CH)(k:Nat)(f:Addr)(fd:FuncData)(ps:List Str)(sp:Sp):Prop where
 len:∀ vs H Q E,sp vs H Q E->vs.length=ps.length
 run:∀ (A:Around) (outer:List Env) (s:Shared) (H:Hp) (args:Args) (us:List Value) (vs:List V) (Q:VK) (E:XK),cj k A->vN P w K mg base A outer s H->BindsTo s fd args (ps.zip us)->Vals vs us->sp vs H Q E ->
  codeAny (model P w) A (.call (.ref f) args) (CR CX outer P w H s Q E) s
theorem vN.make{P:Program}{w:World}{K:Frag}{mg:Str->Option Value}{base:Heap}{A:Around}{outer:List Env}{s:Shared}{H:Hp}(e:vN P w K mg base A outer s H)(C:Addr)(us:List Value)(kw:List (Str×Value)) :
  vN P w K mg base (A.under (.builtin "type.__call__" ⟨.ref C::us,kw⟩)) outer s H:=⟨by first|exact e.frames|(simpa [Around.under,Code.envs,Code.isFrame,pushEnvs] using e.frames),e.mod,e.bs,e.qW,e.ip,e.CF,e.aN,e.bare⟩
section
variable {X:Cx}{pins:List (Addr×Obj)}{σ:St}{H:Hp}{s s':Shared}
theorem Inv.Dk(I:Inv X pins σ H s):vN X.prog X.w X.K X.mg X.base X.A X.stack s H :=
 ⟨I.ok.frames,I.ok.mod,I.bs,aaJ I.ok.qW I.sz,I.stack,I.eC,I.aN,I.bare⟩
theorem Inv.after{Q:VK}{u:Value}(I:Inv X pins σ H s)(h:CE X.stack X.prog X.w H s Q u s'):EP X pins σ Q u s':=by
 obtain ⟨v,H',os,bare,un,aN,r,q⟩:=h
 obtain ⟨hh,g,d,t,os'⟩:=s'
 obtain rfl:os'=s.os:=os
 exact⟨v,H',I.call (h':=hh) (g':=g) (d':=d) (t':=t) (ch:=[]) un aN bare (fun b z=>absurd z (by simp)),r,q⟩
end
def zY(sp:Sp)(ub:List V)(E:XK)(t:TA):TE:=fun σ H Q=>t σ H fun vs H1=>sp (vs++ub) H1 Q E
def Dl(C:Addr)(m:Str)(sp:Sp)(ub:List V)(E:XK)(ta:TE)(t:TA):TE:=fun σ H Q=>ta σ H fun x H1=>∃ a dx fs,x=.ref a/\H1 a=some (.ins C dx fs)/\fs.lookup m=none /\
 t σ H1 fun vs H2=>sp (x::(vs++ub)) H2 Q E
def Dm(C:Addr)(sp:Sp)(ub:List V)(E:XK)(t:TA):TE:=fun σ H Q=>t σ H fun vs H1=>∀ x dx,H1 x=none->H1 dx=none->dx≠x ->
 sp (.ref x::(vs++ub)) (upd (upd H1 dx (.own x)) x (.ins C dx [])) (fun v H2=>v=.dB/\Q (.ref x) H2) E
def Binds(K:Frag)(fd:FuncData)(ps:List Str)(ds:List Value):Prop :=
 ∀ (s:Shared) (us:List Value),K.In s.heap->(us++ds).length=ps.length->BindsTo s fd ⟨us,[]⟩ (ps.zip (us++ds))
theorem Binds.all{K:Frag}{fd:FuncData}{ps:List Str}(h:∀ us:List Value,us.length=ps.length->bindArgs fd ⟨us,[]⟩=pure (ps.zip us)):Binds K fd ps []:=fun s us _ hl=>by
 rw [append_nil] at hl ⊢
 exact .of_eq (h us hl)
def Passes(CX:CH)(X:Cx)(E:XK):Prop:=∀ (pins:List (Addr×Obj)) (σ:St) (H:Hp) (s:Shared) (e:Value) (s':Shared),Inv X pins σ H s->CX X.stack H s E e s'->X.xe e s'
section
variable {X:Cx}{CX:CH}{k:Nat}{f C:Addr}{fd:FuncData}{ps:List Str}{sp:Sp}{ub:List V}{ds:List Value}{E:XK}{x m:Str}{p pos apos:Pos}{e o:Expr}{es:List Expr}{ta:TE}{t:TA}
theorem Dn{pins:List (Addr×Obj)}{σ:St}{H:Hp}{s:Shared}{Q:VK}{us:List Value}{vs:List V}(F:j8 X.prog X.w X.K X.mg X.base CX k f fd ps sp)(hr:cj k X.A)(hb:Binds X.K fd ps ds)(hd:Vals ub ds)(hx:Passes CX X E)
  (I:Inv X pins σ H s) (r:Vals vs us) (h:sp (vs++ub) H Q E):wpAny (model X.prog X.w) X.A (call (.ref f) us) (EP X pins σ Q) X.xe s:=by
 have r2:Vals (vs++ub) (us++ds):=r.append hd
 have hl:(us++ds).length=ps.length:=by rw [<- r2.length];exact F.len _ _ _ _ h
 refine wpAny_call (codeAny_mono (F.run X.A X.stack s H ⟨us,[]⟩ (us++ds) (vs++ub) Q E hr I.Dk (hb s us I.i9 hl) r2 h) fun r s' hq=>?_)
 cases r with
 | error e=>exact hx pins σ H s e s' I hq
 | ok fl =>
  cases fl with
  | ret u=>exact I.after hq
  | next=>exact False.elim hq
  | brk=>exact False.elim hq
  | cont=>exact False.elim hq
theorem GN(F:j8 X.prog X.w X.K X.mg X.base CX k f fd ps sp)(hr:cj k X.A)(hg:Gl X x)(hm:X.mg x=some (.ref f))(hk:keepIn X.K (.ref f)=true)(hb:Binds X.K fd ps ds)(hd:Vals ub ds)(hx:Passes CX X E)
  (ha:PA X (e::es) t) (ph:(x == ("__debug__":Str))=false:=by decide) (he:starEach (e::es) X.env=(false,eval e X.env)::starEach es X.env:=by rfl) (i0:(backTo pos (starEach es X.env)).any (·.1)=false:=by rfl) :
  PE X (.Call (.Name x p) (e::es) [] pos) (zY sp ub E t):=by
 intro pins s σ H Q I h
 refine wpAny_Call_Name_kw (gF I hg hm ?_ ph)
 refine callWith_K (h₀:=X.base) I.ok.mod.Gz hk (cp (ha pos pins s σ H _ I h) fun us s1 ⟨vs,H1,I1,r,q⟩=>⟨I1.i9,?_⟩) he i0
 exact Dn F hr hb hd hx I1 r q
theorem GO{pl:Sem Bool}(he:PE X o ta)(c:xY X.K C)(hm:Meth X.K C m f)(F:j8 X.prog X.w X.K X.mg X.base CX k f fd ps sp)(hr:cj k X.A)(hb:Binds X.K fd ps ds)(hd:Vals ub ds)(hx:Passes CX X E)(ha:PA X (e::es) t)
  (jh:starEach (e::es) X.env=(false,eval e X.env)::starEach es X.env:=by rfl) (i0:(backTo pos (starEach es X.env)).any (·.1)=false:=by rfl)
  (ht:eval (.Call (.Attribute o m apos) (e::es) [] pos) X.env=(do
   let ov <- eval o X.env
   standAt apos.atName
   let (f,first) <- holding [ov] (getMethod ov m pl)
   callWith pos f first (backTo pos (starEach (e::es) X.env)) (backToKw pos (keywordEach [] X.env))):=by rfl) :
  PE X (.Call (.Attribute o m apos) (e::es) [] pos) (Dl C m sp ub E ta t):=by
 intro pins s σ H Q I h
 refine PySem.W.methodCall_KW (pl:=pl) (cp (he pins s σ H _ I h) fun u s1 ⟨x,H1,I1,rx,a,dx,fs,ex,ea,l,q⟩=>?_) ht
 subst ex
 obtain rfl:u=Value.ref a:=rx
 refine x5 I1 ea c hm l ?_
 refine callWith_K (first:=[.ref a]) (h₀:=X.base) I.ok.mod.Gz hm.kp (cp (ha pos pins s1 σ H1 _ I1 q) fun us s2 ⟨vs,H2,I2,r,q2⟩=>⟨I2.i9,?_⟩) jh i0
 exact Dn (us:=.ref a::us) (vs:=.ref a::vs) F hr hb hd hx I2 (.cons rfl r) q2
structure Mk(K:Frag)(C f:Addr):Prop where
 makes:makesIn K C=true
 init:findIn K (.ref C) "__init__"=some (some (.ref f))
 fn:isFn K (.ref f)=true
 kp:keepIn K (.ref C)=true
theorem Dp{pins:List (Addr×Obj)}{σ:St}{H:Hp}{s:Shared}{Q:VK}{us:List Value}{vs:List V}(M:Mk X.K C f)(F:j8 X.prog X.w X.K X.mg X.base CX k f fd ps sp)(hr:cj (k+1) X.A)(hb:Binds X.K fd ps ds)(hd:Vals ub ds)
  (hx:Passes CX X E) (I:Inv X pins σ H s) (r:Vals vs us)
  (h:∀ x dx,H x=none->H dx=none->dx≠x->sp (.ref x::(vs++ub)) (upd (upd H dx (.own x)) x (.ins C dx [])) (fun v H2=>v=.dB/\Q (.ref x) H2) E) :
  wpAny (model X.prog X.w) X.A (call (.ref C) us) (EP X pins σ Q) X.xe s:=by
 have hq:=h (s.heap.objs.size+1) s.heap.objs.size (I.aN.fresh (Nat.le_succ _)) (I.aN.fresh (aaK _)) (abt (lt_succ_self _))
 have I2:=Inv.made (C:=C) I
 have r2:Vals (V.ref (s.heap.objs.size+1)::(vs++ub)) (Value.ref (s.heap.objs.size+1)::(us++ds)):=.cons rfl (r.append hd)
 have hl:(Value.ref (s.heap.objs.size+1)::us++ds).length=ps.length:=by
  have e:=r2.length
  rw [F.len _ _ _ _ hq] at e
  exact e.symm
 refine wpAny_call (Dj (f:=f) I.i9 M.makes M.init (beq_iff_eq.mp M.fn) (codeAny_mono (F.run _ X.stack _ _ ⟨Value.ref (s.heap.objs.size+1)::us,[]⟩ (Value.ref (s.heap.objs.size+1)::(us++ds)) _ _ E (hr.make C us [])
  (I2.Dk.make C us []) (hb _ (Value.ref (s.heap.objs.size+1)::us) I2.i9 hl) r2 hq) fun r s' K1=>?_))
 cases r with
 | error e=>exact hx pins σ _ _ e s' I2 K1
 | ok fl =>
  cases fl with
  | ret u =>
   obtain ⟨v,H',I3,rv,ev,q3⟩:=I2.after K1
   subst ev
   exact⟨rv,⟨V.ref (s.heap.objs.size+1),H',I3,rfl,q3⟩⟩
  | next=>exact False.elim K1
  | brk=>exact False.elim K1
  | cont=>exact False.elim K1
theorem GP(M:Mk X.K C f)(F:j8 X.prog X.w X.K X.mg X.base CX k f fd ps sp)(hr:cj (k+1) X.A)(hg:Gl X x)(hm:X.mg x=some (.ref C))(hb:Binds X.K fd ps ds)(hd:Vals ub ds)(hx:Passes CX X E)
  (ha:PA X (e::es) t) (ph:(x == ("__debug__":Str))=false:=by decide) (he:starEach (e::es) X.env=(false,eval e X.env)::starEach es X.env:=by rfl) (i0:(backTo pos (starEach es X.env)).any (·.1)=false:=by rfl) :
  PE X (.Call (.Name x p) (e::es) [] pos) (Dm C sp ub E t):=by
 intro pins s σ H Q I h
 refine wpAny_Call_Name_kw (gF I hg hm ?_ ph)
 refine callWith_K (h₀:=X.base) I.ok.mod.Gz M.kp (cp (ha pos pins s σ H _ I h) fun us s1 ⟨vs,H1,I1,r,q⟩=>⟨I1.i9,?_⟩) he i0
 exact Dp M F hr hb hd hx I1 r q
end
def PK(X:Cx)(OJ:List Keyword)(t:TA):Prop :=
 ∀ (pos:Pos) (pins:List (Addr×Obj)) (s:Shared) (σ:St) (H:Hp) (Q:List V->Hp->Prop),Inv X pins σ H s->t σ H Q->wpAny (model X.prog X.w) X.A (evalAll ((backToKw pos (keywordEach OJ X.env)).map (·.2))) (AP X pins σ Q) X.xe s
section
variable {X:Cx}{CX:CH}{k:Nat}{f C:Addr}{fd:FuncData}{ps ks:List Str}{sp:Sp}{E:XK}{x m:Str}{p pos apos Dq:Pos}{e o:Expr}{es:List Expr}{OJ:List Keyword}{te ta:TE}{t tk:TA}{nm:Option Str}
theorem K2:PK X [] yc:=fun _ _ _ _ H Q I h=>wpAny_evalAll_nil ⟨[],H,I,.nil,h⟩
theorem GQ(ha:PE X e te)(hr:PK X OJ t):PK X (⟨nm,e,Dq⟩::OJ) (pf te t):=by
 intro pos pins s σ H Q I h
 show wpAny _ _ (evalAll ((do let v <- eval e X.env;standAt pos;pure v)::(backToKw pos (keywordEach OJ X.env)).map (·.2))) _ _ s
 refine wpAny_evalAll_cons (aaE (cp (ha pins s σ H _ I h) fun u s1 ⟨x,H1,I1,r1,q1⟩=>aaE (wpAny_standAt (aaT ?_))))
 exact cp (hr pos pins s1 σ H1 _ I1 q1) fun us s2 ⟨xs,H2,I2,r2,q2⟩=>⟨x::xs,H2,I2,.cons r1 r2,q2⟩
variable {g:List Value->List Value->List Value}{gV:List V->List V->List V}
end
structure aA(N P:List Str)(sc:Scope):Prop where
 kind:sc.kind=.function
 co:sc.isCoroutine=false
 gen:sc.isGenerator=false
 nd:N.Nodup
 pre:N.take P.length=P
 par:∀ x∈P,sc.names.lookup x=some .local\/sc.names.lookup x=some .cell
 K3:∀ y∈sc.names,y.2≠.free
theorem sN{kindOf:Str->Option NameKind}{x:Str}:∀ {binds:List (Str×Value)} {m:Str->Option Value},(∀ v,(x,v)∉binds)->bindL kindOf binds m x=m x
 | [],_,_=>rfl
 | (n,v)::r,m,h=>by
  unfold bindL
  rw [sN fun w hw=>h w (aa6 _ hw)]
  split
  ·have:x≠n:=by rintro rfl;exact h v mem_cons_self
   simp [this]
  ·rfl
theorem sQ{kindOf:Str->Option NameKind}{x:Str}:∀ {binds:List (Str×Value)} {m:Str->Option Value},(∀ v,(x,v)∉binds)->bindC kindOf binds m x=m x
 | [],_,_=>rfl
 | (n,v)::r,m,h=>by
  unfold bindC
  rw [sQ fun w hw=>h w (aa6 _ hw)]
  split
  ·rfl
  ·have:x≠n:=by rintro rfl;exact h v mem_cons_self
   simp [this]
theorem sR{kindOf:Str->Option NameKind}{x:Str}{v:Value}:∀ {P:List Str} {vs:List Value} {i:Nat} {m:Str->Option Value},P.Nodup->P[i]?=some x->vs[i]?=some v->kindOf x=some .local ->
  bindL kindOf (P.zip vs) m x=some v
 | [],_,_,_,_,h,_,_=>by simp at h
 | _::_,[],_,_,_,_,h,_=>by simp at h
 | p::P,w::vs,0,m,nd,h1,h2,hk=>by
  simp at h1 h2;subst h1;subst h2
  show bindL kindOf ((p,w)::P.zip vs) m p=_
  unfold bindL
  rw [sN fun v hv=>(nodup_cons.mp nd).1 (of_mem_zip hv).1,if_pos hk]
  simp
 | p::P,w::vs,i+1,m,nd,h1,h2,hk=>by
  show bindL kindOf ((p,w)::P.zip vs) m x=_
  unfold bindL
  exact sR (i:=i) (nodup_cons.mp nd).2 (by simpa using h1) (by simpa using h2) hk
theorem sS{kindOf:Str->Option NameKind}{x:Str}{v:Value}:∀ {P:List Str} {vs:List Value} {i:Nat} {m:Str->Option Value},P.Nodup->P[i]?=some x->vs[i]?=some v->kindOf x≠some .local ->
  bindC kindOf (P.zip vs) m x=some v
 | [],_,_,_,_,h,_,_=>by simp at h
 | _::_,[],_,_,_,_,h,_=>by simp at h
 | p::P,w::vs,0,m,nd,h1,h2,hk=>by
  simp at h1 h2;subst h1;subst h2
  show bindC kindOf ((p,w)::P.zip vs) m p=_
  unfold bindC
  rw [sQ fun v hv=>(nodup_cons.mp nd).1 (of_mem_zip hv).1,if_neg hk]
  simp
 | p::P,w::vs,i+1,m,nd,h1,h2,hk=>by
  show bindC kindOf ((p,w)::P.zip vs) m x=_
  unfold bindC
  exact sS (i:=i) (nodup_cons.mp nd).2 (by simpa using h1) (by simpa using h2) hk
def start(N:List Str)(vs:List V):St:=vs.map some++List.replicate (N.length - vs.length) none
def iz(CX:CH)(P:Program)(w:World)(K:Frag)(mg:Str->Option Value)(base:Heap)(N:List Str)(qual:Str)(scope:Scope)(f:Addr)(cd:Value)(A:Around)(outer:List Env)(s:Shared)(H:Hp)(E:XK):Cx where
 prog:=P
 w:=w
 K:=K
 mg:=mg
 base:=base
 A:=A.deeper (envOfC qual scope s.heap.objs.size f cd)
 N:=N
 s₀:=s
 H₀:=H
 env:=envOfC qual scope s.heap.objs.size f cd
 outer:=outer
 stack:=envOfC qual scope s.heap.objs.size f cd::outer
 ex:=[]
 calm:=true
 fn:=fun _=>true
 pn:=[]
 xe:=fun e s'=>wpAny (model P w) (A.deeper (envOfC qual scope s.heap.objs.size f cd)) (leaving (envOfC qual scope s.heap.objs.size f cd) e) (fun _ uc=>CX outer H s E e uc) (fun e' uc=>CX outer H s E e' uc) s'
theorem vO{sc:Scope}{n:Nat}{x:Str}(h:sc.names.lookup x=some .cell):∃ c,(cellsFrom n sc.names []).lookup x=some c:=by
 have q:=cellsFrom_some sc.names n [] (.inl h)
 exact aaS.mp q
theorem A7{CX:CH}{P:Program}{w:World}{K:Frag}{mg:Str->Option Value}{base:Heap}{N ps:List Str}{qual:Str}{scope:Scope}{f:Addr}{cd:Value}{A:Around}{outer:List Env}{s s1:Shared}{H:Hp}{E:XK}{us:List Value}{vs:List V}
  (S:aA N ps scope) (hd:A.handled=none) (e0:vN P w K mg base A outer s H) (hl:vs.length=ps.length) (r:Vals vs us)
  (x:InCallC s s.heap.objs.size (bindL (envOfC qual scope s.heap.objs.size f cd).kindOf (ps.zip us) fun _=>none) (cellsFrom (s.heap.objs.size+1) scope.names []) (bindC (envOfC qual scope s.heap.objs.size f cd).kindOf (ps.zip us) fun _=>none) s1) :
  Inv (iz CX P w K mg base N qual scope f cd A outer s H E) [] (start N vs) H s1:=by
 have i0:ps.length<=N.length:=by have:=congrArg List.length S.pre;rw [abi] at this;lia
 obtain ⟨h1,tk,rfl,hk⟩:=x.done
 have OK:∀ b:Addr,b∉(iz CX P w K mg base N qual scope f cd A outer s H E).ex:=fun b z=>absurd (show b∈([]:List Addr) from z) (by simp)
 refine⟨⟨e0.mod,S.kind,rfl,rfl,aaK _,fun y z c h1 h2=>?_,fun y hy=>?_,fun y c _ h=>?_,fun _=>hd,Around.frames_deeper e0.frames,.inr ⟨rfl,rfl⟩,fun b z=>absurd z (OK b),e0.bs,e0.qW,fun b _ _=>OK b,fun b z=>absurd z (OK b),e0.ip,e0.CF⟩,
  rfl,e0.bare,Un.kept hk,⟨_,x.toInCall.ns,fun i y v h1 h2 h3=>?_⟩,fun y c h=>⟨_,x.cell y c h⟩,e0.aN.fresh (aaK _),fun y c h=>?_,fun p hp=>absurd (show p∈([]:List (Addr×Obj)) from hp) (by simp),e0.aN.kept hk,?_⟩
 ·exact name_of_addr x.apart (PySem.mem_of_lookup h1) (PySem.mem_of_lookup h2)
 ·have hy:scope.names.lookup y=some .cell\/scope.names.lookup y=some .free:=hy
  rcases hy with hy|hy
  ·exact vO hy
  ·exact absurd rfl (S.K3 _ (PySem.mem_of_lookup hy))
 ·exact aaL (x.above y c (PySem.mem_of_lookup h))
 ·have hi:i<vs.length:=by
   unfold start at h2
   by_cases hi:i<vs.length
   ·exact hi
   ·rw [abe (by simpa using hi)] at h2
    rw [List.getElem?_replicate] at h2
    split at h2 <;> cases h2
  have ha:vs[i]?=some v:=by
   unfold start at h2
   rw [aaM (by simpa using hi),abk] at h2
   cases e:vs[i]? with
   | none=>rw [e] at h2;cases h2
   | some a=>rw [e] at h2;cases h2;rfl
  obtain ⟨u,hu,rv⟩:=r.get ha
  have hp:ps[i]?=some y:=by
   rw [<- S.pre,List.getElem?_take_of_lt (by lia)];exact h1
  have ndP:ps.Nodup:=by rw [<- S.pre];exact S.nd.sublist (List.take_sublist _ _)
  refine⟨u,rv,?_⟩
  rcases S.par y (aa3 hp) with k|k
  ·exact .inl ⟨k,sR ndP hp hu k⟩
  ·obtain ⟨c,e⟩:=vO (n:=s.heap.objs.size+1) k
   refine .inr ⟨.inl k,c,e,?_⟩
   have q:=x.cell y c e
   rw [sS ndP hp hu (by show scope.names.lookup y≠_;rw [k];decide)] at q
   exact q
 ·exact e0.aN.fresh (aaL (x.above y c (PySem.mem_of_lookup h)))
 ·unfold start
  show _=N.length
  rw [aa5,aa4,length_replicate]
  lia
theorem vP{CX:CH}{P:Program}{w:World}{K:Frag}{mg:Str->Option Value}{base:Heap}{k:Nat}{f:Addr}{name qual:Str}{params:Arguments}{body:List Stmt}{scope:Scope}{dV kV doc pm cZ ct oc:Value}{an od:Option Addr}
  {zZ:Array (Option Value)} {N ps:List Str} {sp:Sp} (lk:K.lookup f=some ⟨oc,od,.func (fnOf name qual params body scope dV kV doc pm an cZ ct),zZ⟩) (kO:codeIn K cZ qual=true) (S:aA N ps scope)
  (len:∀ vs H Q E,sp vs H Q E->vs.length=ps.length)
  (fZ:∀ (A:Around) (outer:List Env) (s:Shared) (H:Hp) (vs:List V) (Q:VK) (E:XK),cj k (A.deeper (envOfC qual scope s.heap.objs.size f cZ))->sp vs H Q E ->
   ∃ t,oE (iz CX P w K mg base N qual scope f cZ A outer s H E) body t/\t { nx:=fun _ H'=>Q .dB H',rt:=Q } (start N vs) H) :
  j8 P w K mg base CX (k+1) f (fnOf name qual params body scope dV kV doc pm an cZ ct) ps sp:=by
 refine⟨len,fun A outer s H args us vs Q E hr e0 hb r z0=>?_⟩
 have hl:=len _ _ _ _ z0
 have KX:K.In s.heap:=e0.mod.Gz.keeps fun b o e=>(e0.bs b o e).1
 have lim:s.heap.NoLimit:=e0.mod.nolimit.keeps fun b o e=>(e0.bs b o e).1
 have OL:∀ y∈ps.zip us,scope.names.lookup y.1=some .local\/(scope.names.lookup y.1=some .cell/\((cellsFrom (s.heap.objs.size+1) scope.names []).lookup y.1).isSome=true):=fun ⟨n,v⟩ hy=>by
  rcases S.par n (of_mem_zip hy).1 with q|q
  ·exact .inl q
  ·exact .inr ⟨q,cellsFrom_some _ _ _ (.inl q)⟩
 refine codeAny_call_function hr.depth (KX _ _ lk) rfl S.co S.gen rfl (PySem.W.codeRec_of KX kO) (hb _ _ _ _ ?_)
 refine wpAny_newFunctionEnv_cells S.kind OL fun env he s1 x=>?_
 subst he
 refine⟨lim.keeps x.toInCall.keep,codeAny_func ?_⟩
 obtain ⟨t,ht,hq⟩:=fZ A outer s H vs Q E (hr.deeper _) z0
 have I:Inv (iz CX P w K mg base N qual scope f cZ A outer s H E) [] (start N vs) H s1:=A7 S hr.hd e0 hl r x
 refine aaU (ht [] s1 (start N vs) H _ I hq) (fun fl s' hs=>?_) fun e s' hs=>hs
 have fin:∀ {σ':St} {H':Hp} {v:V} {u:Value},Inv (iz CX P w K mg base N qual scope f cZ A outer s H E) [] σ' H' s'->RelV v u->Q v H'->CE outer P w H s Q u s' :=
  fun {σ' H' v u} J rv q=>⟨v,H',J.os,J.bare,J.base,J.aN,rv,q⟩
 cases fl with
 | ret u =>
  obtain ⟨v,σ',H',J,rv,q⟩:=hs
  exact fin J rv q
 | next =>
  obtain ⟨σ',H',J,q⟩:=hs
  exact fin (v:=V.dB) (u:=Value.none) J rfl q
 | brk =>
  obtain ⟨_,_,_,q⟩:=hs
  exact False.elim q
 | cont =>
  obtain ⟨_,_,_,q⟩:=hs
  exact False.elim q
section
variable {X:Cx}{x:Str}{p pos:Pos}{e:Expr}{es:List Expr}{t:TA}{id T:String}{r:List V->Hp->VK->Prop}
def TR(r:List V->Hp->VK->Prop)(t:TA):TE:=fun σ H Q=>t σ H fun vs H1=>r vs H1 Q
theorem aH (hc:dc X (.builtin id) r) (hg:Gl X x) (hm:X.mg x=none) (hv:bootBuiltins x=some (.builtin id)) (ha:PA X (e::es) t) (hn:x≠"__name__":=by decide) (ph:(x == ("__debug__":Str))=false:=by decide)
  (he:starEach (e::es) X.env=(false,eval e X.env)::starEach es X.env:=by rfl) (i0:(backTo pos (starEach es X.env)).any (·.1)=false:=by rfl):PE X (.Call (.Name x p) (e::es) [] pos) (TR r t):=by
 intro pins s σ H Q I h
 refine wpAny_Call_Name_kw (iu I hg hm hv ?_ hn ph)
 exact PyProof.Rows.callWith_builtin1 (cp (ha pos pins s σ H _ I h) fun us s1 ⟨vs,H1,I1,r1,q1⟩=>hc pins s1 σ H1 vs us Q I1 r1 q1) he i0
theorem cW (hc:dc X (.type T) r) (hg:Gl X x) (hm:X.mg x=none) (hv:bootBuiltins x=some (.type T)) (ha:PA X (e::es) t) (hn:x≠"__name__":=by decide) (ph:(x == ("__debug__":Str))=false:=by decide)
  (he:starEach (e::es) X.env=(false,eval e X.env)::starEach es X.env:=by rfl) (i0:(backTo pos (starEach es X.env)).any (·.1)=false:=by rfl):PE X (.Call (.Name x p) (e::es) [] pos) (TR r t):=by
 intro pins s σ H Q I h
 refine wpAny_Call_Name_kw (iu I hg hm hv ?_ hn ph)
 exact callWith_type1 (cp (ha pos pins s σ H _ I h) fun us s1 ⟨vs,H1,I1,r1,q1⟩=>hc pins s1 σ H1 vs us Q I1 r1 q1) he i0
end
end L2
namespace HT
open PySem PyProof.Rows
section
variable {prog:Program}{w:World}{A:Around}{E:Value->Shared->Prop}{s:Shared}
theorem GR{t b:Addr}{vs ws:List Value}{Q:Value->Shared->Prop}(ht:IsTup s.heap t vs.toArray)(hb:IsTup s.heap b ws.toArray)(hv:vs≠[])
  (h1:ws=[]->Q (.ref t) s) (h2:ws≠[]->Q (.ref s.heap.objs.size) { s with heap:=s.heap.push { cls:=.type "tuple",data:=.seq (vs++ws).toArray } })
  (jc:vs.length+ws.length<=sizeLine):wpAny (model prog w) A (binaryOp .Add (.ref t) (.ref b)) Q E s:=by
 obtain ⟨⟨cls,dd,data,sl⟩,ho,hc,n,hd⟩:=id ht
 obtain ⟨⟨TU,Sw,data2,NG⟩,qY,Dr,n2,hd2⟩:=id hb
 simp only at hc hd Dr hd2
 subst hc hd Dr hd2
 have e:vs.toArray++ws.toArray=(vs++ws).toArray:=by simp
 by_cases hw:ws=[]
 ·exact concat_meets ⟨_,ho,rfl⟩ ⟨_,qY,rfl⟩ noFill_tuple_add seq_tuple_add PySem.F.slot_tuple_add PySem.F.entry_tuple_add (PySem.F.args_tuple_add_2 _ _)
   (tuple_addW1 t b vs.toArray ws.toArray n n2 dd Sw sl NG (by simpa using hv) (by simp [hw])) ⟨ho,qY,h1 hw⟩
 ·refine concat_meets ⟨_,ho,rfl⟩ ⟨_,qY,rfl⟩ noFill_tuple_add seq_tuple_add PySem.F.slot_tuple_add PySem.F.entry_tuple_add (PySem.F.args_tuple_add_2 _ _)
   (tuple_addW2 t b vs.toArray ws.toArray n n2 dd Sw sl NG (by simpa using hv) (by simpa using hw) (by rw [abj,abj];exact jc)) ⟨ho,qY,?_⟩
  rw [e]
  exact h2 hw
def dU(n d:Nat):Option Int->Nat
 | none=>d
 | some v=>if v<0 then (v+(n:Int)).toNat else min v.toNat n
theorem kP(n d:Nat):dU n d none=d:=rfl
theorem kR(n d k:Nat):dU n d (some (k:Int))=min k n:=by
 show (if (k:Int)<0 then ((k:Int)+(n:Int)).toNat else min (k:Int).toNat n)=min k n
 rw [if_neg (by lia),aby]
theorem K4(n d:Nat)(hd:d<=n)(o:Option Int):dU n d o<=n:=by
 cases o with
 | none=>exact hd
 | some v =>
  show (if v<0 then (v+(n:Int)).toNat else min v.toNat n)<=n
  by_cases hv:v<0
  ·rw [if_pos hv];lia
  ·rw [if_neg hv];exact Nat.min_le_right _ _
theorem z7(v:Int)(n d:Nat):(if v<0 then max (v+(n:Int)) 0 else min v (n:Int))=((dU n d (some v):Nat):Int):=by
 show (if v<0 then max (v+(n:Int)) 0 else min v (n:Int))=(((if v<0 then (v+(n:Int)).toNat else min v.toNat n):Nat):Int)
 by_cases hv:v<0
 ·simp only [if_pos hv];lia
 ·simp only [if_neg hv];lia
theorem ye(lo hi:Option Int)(n:Nat):Builtin.Slice.sliceAdjust lo hi 1 (n:Int)=(((dU n 0 lo:Nat):Int),((dU n n hi:Nat):Int)):=by
 have h1:¬ ((1:Int)<0):=by lia
 unfold Builtin.Slice.sliceAdjust
 simp only [h1,if_false]
 refine Prod.ext ?_ ?_
 ·cases lo with
  | none=>rfl
  | some v=>exact z7 v n 0
 ·cases hi with
  | none=>rfl
  | some v=>exact z7 v n n
theorem yj(i j:Nat):Builtin.Slice.slicePlaces (i:Int) (j:Int) 1=j - i:=by
 unfold Builtin.Slice.slicePlaces
 have h1:(1:Int) > 0:=by lia
 simp only [h1,if_true,Int.ediv_one]
 split <;> lia
theorem pj{v:Value}{o:Option Int}{Q:Option Int->Shared->Prop}(p:IsPart v o)(h:Q o s):wpAny (model prog w) A (Builtin.Slice.slicePartIndex v) Q E s:=by
 cases p with
 | none=>exact slicePart_none h
 | int i t=>exact slicePart_int h
theorem hU{sl:Addr}{vl vu:Value}{lo hi:Option Int}{n:Nat}{Q:Int×Int×Nat->Shared->Prop}(hs:s.heap.IsSliceOf sl vl vu .none)(pl:IsPart vl lo)(pu:IsPart vu hi)
  (h:Q (((dU n 0 lo:Nat):Int),1,dU n n hi - dU n 0 lo) s):wpAny (model prog w) A (Builtin.Slice.sliceApplied (.ref sl) (pure (n:Int))) Q E s:=by
 obtain ⟨os,K5,Sx,OM⟩:=id hs
 unfold Builtin.Slice.sliceApplied Builtin.Slice.sliceFields
 refine aaE (aaE (wpAny_field K5 OM (x:=vl) rfl (aaE (wpAny_field K5 OM (x:=vu) rfl (aaE (wpAny_field K5 OM (x:=.none) rfl (aaT ?_)))))))
 refine aaE (slicePart_none ?_)
 show wpAny _ _ (if ((1:Int) == 0)=true then _ else _) _ _ s
 rw [if_neg (by decide)]
 refine aaE (pj pl (aaE (pj pu (aaE (aaT ?_)))))
 show wpAny _ _ (match Builtin.Slice.sliceAdjust lo hi 1 (n:Int) with|(lo,hi)=>pure (lo,(1:Int),Builtin.Slice.slicePlaces lo hi 1)) _ _ s
 rw [ye lo hi n]
 show wpAny _ _ (pure (((dU n 0 lo:Nat):Int),(1:Int),Builtin.Slice.slicePlaces ((dU n 0 lo:Nat):Int) ((dU n n hi:Nat):Int) 1)) _ _ s
 rw [yj]
 exact aaT h
theorem Dt(xs:Array Value)(i k:Nat):((List.range k).filterMap fun (m:Nat)=>xs[((i:Int)+(m:Int)*1).toNat]?).toArray=((xs.toList.drop i).take k).toArray:=by
 have e:(fun (m:Nat)=>xs[((i:Int)+(m:Int)*1).toNat]?)=fun m=>xs[i+m]?:=by
  funext m
  have:((i:Int)+(m:Int)*1).toNat=i+m:=by lia
  rw [this]
 rw [e]
 have:=pick_run xs i k
 rw [List.filterMap_map] at this
 have e2:((fun x=>xs[x]?) ∘ fun x=>i+x)=fun m=>xs[i+m]?:=rfl
 rw [e2] at this
 rw [this]
theorem kU{t sl:Addr}{items:Array Value}{vl vu:Value}{lo hi:Option Int}{Q:Value->Shared->Prop}(ht:IsTup s.heap t items)(hs:s.heap.IsSliceOf sl vl vu .none)(pl:IsPart vl lo)(pu:IsPart vu hi)
  (hw:¬ (dU items.size 0 lo=0/\dU items.size items.size hi=items.size))
  (h:Q (.ref s.heap.objs.size) { s with heap:=s.heap.push { cls:=.type "tuple",data:=.seq ((items.toList.drop (dU items.size 0 lo)).take (dU items.size items.size hi - dU items.size 0 lo)).toArray } })
  (jc:items.size<=sizeLine):wpAny (model prog w) A (getItem (.ref t) (.ref sl)) Q E s:=by
 have z9:sizeOk (.seq ((items.toList.drop (dU items.size 0 lo)).take (dU items.size items.size hi - dU items.size 0 lo)).toArray):=by
  show ((items.toList.drop (dU items.size 0 lo)).take (dU items.size items.size hi - dU items.size 0 lo)).toArray.size<=sizeLine
  rw [abj,abi,length_drop,Array.length_toList]
  exact aaJ (Nat.min_le_right _ _) (aaJ (Nat.sub_le _ _) jc)
 have hj:dU items.size items.size hi<=items.size:=K4 _ _ (aaK _) hi
 obtain ⟨os,K5,Sx,OM⟩:=id hs
 have TV:s.TypeIs (.ref sl) "slice":=⟨os,K5,Sx⟩
 unfold getItem
 try with_reducible refine wpAny_holding ?_
 first|refine aaE (aaT ?_)|skip
 refine aaE (wpAny_sequenceKey ht.typeIs (by decide) ?_)
 refine aaE (wpAny_callSpecial?_slot (name:=Str.ofString "__getitem__") ht.typeIs PyProof.Rows.slot_tuple_getitem
  (wpAny_call_entry PyProof.Rows.slot_tuple_getitem ht.typeIs entry_tuple_getitem ?_ (args_tuple_getitem _ _)))
 show wpAny _ _ (Builtin.Tuple.tupleItemsOf (.ref t) >>= _) _ _ s
 refine aaE (tupleItemsOf_ ht ?_)
 refine aaE (wpAny_typeOf TV ?_)
 rw [if_pos (by decide)]
 refine aaE (hU hs pl pu ?_)
 have ik:¬ ((((dU items.size 0 lo:Nat):Int) == 0 && (1:Int) == 1 && (dU items.size items.size hi - dU items.size 0 lo) == items.size)=true):=by
  intro q
  rw [Bool.and_eq_true,Bool.and_eq_true] at q
  have q1:((dU items.size 0 lo:Nat):Int)=0:=eq_of_beq q.1.1
  have q2:dU items.size items.size hi - dU items.size 0 lo=items.size:=eq_of_beq q.2
  exact hw ⟨by lia,by lia⟩
 show wpAny _ _ (if (((dU items.size 0 lo:Nat):Int) == 0 && (1:Int) == 1 && (dU items.size items.size hi - dU items.size 0 lo) == items.size)=true then _ else _) _ _ s
 rw [if_neg ik,Dt]
 first
  | exact aaE (m:=Builtin.Tuple.tupleExact _) (wpAny_newObj_type (aaT ⟨_,rfl,aaT h⟩) z9)
  | exact aaE (m:=Builtin.Tuple.tupleExact _) (wpAny_newObj_type (aaE (aaT (aaT ⟨_,rfl,aaT h⟩))) z9)
  | exact aaE (aaE (m:=Builtin.Tuple.tupleExact _) (wpAny_newObj_type (aaT (aaT ⟨_,rfl,aaT h⟩)) z9))
  | exact aaE (aaE (m:=Builtin.Tuple.tupleExact _) (wpAny_newObj_type (aaT ⟨_,rfl,aaT h⟩) z9))
end
end HT
namespace L2
open PySem PySem.Spec PyProof.Rows
abbrev TO:=St->Hp->(Option Int->Hp->Prop)->Prop
def PO(X:Cx)(e:Option Expr)(t:TO):Prop :=
 ∀ (pins:List (Addr×Obj)) (s:Shared) (σ:St) (H:Hp) (Q:Option Int->Hp->Prop),Inv X pins σ H s->t σ H Q ->
  wpAny (model X.prog X.w) X.A (evalPart e X.env) (fun u s'=>∃ o H',Inv X pins σ H' s'/\IsPart u o/\Q o H') X.xe s
def Aa:TO:=fun _ H Q=>Q none H
def JG(t:TE):TO:=fun σ H Q=>t σ H fun x H1=>∃ i,x=.int i/\Q (some i) H1
theorem intsAre_of{ns:List Int}:∀ {us:List Value},Vals (ns.map V.int) us->IntsAre us ns:=by
 induction ns with
 | nil=>intro us r;rw [map_nil] at r;cases r;exact .nil
 | cons n ns ih =>
  intro us r
  rw [map_cons] at r
  cases r with
  | cons r1 r2 =>
   obtain ⟨t,e⟩:=r1
   subst e
   exact .cons n t (ih r2)
section
variable {X:Cx}{e:Expr}{te:TE}{lo hi:Option Expr}{tl th:TO}{pos p2:Pos}
theorem jB:PO X none Aa:=by
 intro pins s σ H Q I h
 rw [evalPart_none]
 exact aaT ⟨none,H,I,.none,h⟩
theorem jC(h:PE X e te):PO X (some e) (JG te):=by
 intro pins s σ H Q I hw
 rw [evalPart_some]
 refine cp (h pins s σ H _ I hw) fun u s1 ⟨x,H1,I1,r1,q1⟩=>?_
 obtain ⟨i,rfl,q⟩:=q1
 obtain ⟨t,rfl⟩:=r1
 exact⟨some i,H1,I1,.int i t,q⟩
def K6(X:Cx)(r:V->Option Int->Option Int->Hp->VK->Prop):Prop :=
 ∀ (pins:List (Addr×Obj)) (s:Shared) (σ:St) (H:Hp) (x:V) (v vl vu:Value) (lo hi:Option Int) (sl:Addr) (Q:VK),Inv X pins σ H s->RelV x v->s.heap.IsSliceOf sl vl vu .none->IsPart vl lo->IsPart vu hi->r x lo hi H Q ->
  ∃ T id,typeLookup (.type T) "__getitem__"=pure (some (.builtin id))/\s.TypeIs v T/\wpAny (model X.prog X.w) X.A (getItem v (.ref sl)) (EP X pins σ Q) X.xe s
def tSl(r:V->Option Int->Option Int->Hp->VK->Prop)(te:TE)(tl th:TO):TE:=fun σ H Q=>te σ H fun x H1=>tl σ H1 fun l H2=>th σ H2 fun u H3=>r x l u H3 Q
theorem hV{r:V->Option Int->Option Int->Hp->VK->Prop}(hr:K6 X r)(he:PE X e te)(hl:PO X lo tl)(hu:PO X hi th):PE X (.Subscript e (.Slice lo hi none p2) pos) (tSl r te tl th):=by
 intro pins s σ H Q I h
 refine Subscript_ (cp (he pins s σ H _ I h) fun v s1 ⟨x,H1,I1,r1,q1⟩=>?_)
 refine wpAny_Slice (cp (hl pins s1 σ H1 _ I1 q1) fun vl s2 ⟨l,H2,I2,pl,q2⟩=>cp (hu pins s2 σ H2 _ I2 q2) fun vu s3 ⟨u,H3,I3,pu,q3⟩=>?_)
 rw [evalPart_none]
 refine aaT ?_
 have I4:Inv X pins σ H3 { s3 with heap:=s3.heap.push { cls:=.type "slice",data:=.fields #[vl,vu,.none] } }:=I3.kept (t':=s3.toks) fun b ob q=>aaD _ q
 obtain ⟨T,id,hT,ht,hg⟩:=hr pins { s3 with heap:=s3.heap.push { cls:=.type "slice",data:=.fields #[vl,vu,.none] } } σ H3 x v vl vu l u s3.heap.objs.size Q I4 r1 (Heap.IsSliceOf.new ..) pl pu q3
 show wpAny (model X.prog X.w) X.A (subscriptTail e (.Slice lo hi none p2) v (.ref s3.heap.objs.size)) (EP X pins σ Q) X.xe { s3 with heap:=s3.heap.push { cls:=.type "slice",data:=.fields #[vl,vu,.none] } }
 exact tail_any (ops:=[.ref s3.heap.objs.size,v]) ht hT hg (by with_unfolding_all rfl)
def iA(xs:List V)(lo hi:Option Int):List V:=(xs.drop (HT.dU xs.length 0 lo)).take (HT.dU xs.length xs.length hi - HT.dU xs.length 0 lo)
theorem nK(xs:List V)(lo hi:Option Int):(iA xs lo hi).length<=xs.length:=by
 unfold iA
 rw [abi,length_drop]
 lia
def Du(K:Frag):V->Option Int->Option Int->Hp->VK->Prop:=fun x lo hi H Q=>∃ a xs,x=.ref a/\aR K H a xs /\
 ¬ (HT.dU xs.length 0 lo=0/\HT.dU xs.length xs.length hi=xs.length)/\∀ p,H p=none->Q (.ref p) (upd H p (.tup (iA xs lo hi)))
theorem Dv:K6 X (Du X.K):=by
 intro pins s σ H x v vl vu lo hi sl Q I rx hs pl pu h
 obtain ⟨a,xs,rfl,hx,hw,q⟩:=h
 cases rx
 obtain ⟨its,r,ht,hz⟩:=I.tuple hx
 have hlen:its.toArray.size=xs.length:=by rw [abj];exact r.length.symm
 refine⟨"tuple",_,PyProof.Rows.slot_tuple_getitem.lookup,ht.typeIs,?_⟩
 refine HT.kU ht hs pl pu (by rw [hlen];exact hw) ?_ (by rw [hlen];exact hz)
 rw [hlen]
 refine⟨.ref s.heap.objs.size,_,I.laid (t':=s.toks) (o:=.tup (iA xs lo hi)) (fun b ob q=>aaD _ q) (aaK _) ?_,rfl,q _ (I.aN.fresh (aaK _))⟩
 exact⟨aaJ (nK xs lo hi) hz,_,(r.drop (HT.dU xs.length 0 lo)).take (HT.dU xs.length xs.length hi - HT.dU xs.length 0 lo),IsTup.new _ _⟩
def Dw(K:Frag):R2:=fun x y H Q=>∃ a b xs ys,x=.ref a/\y=.ref b/\aR K H a xs/\aR K H b ys/\xs≠[]/\xs.length+ys.length<=sizeLine /\
 (ys=[]->Q (.ref a) H)/\(ys≠[]->∀ p,H p=none->Q (.ref p) (upd H p (.tup (xs++ys))))
theorem Vals.ud{xs:List V}{us:List Value}(r:Vals xs us):us=[]↔xs=[]:=by
 cases r with
 | nil=>simp
 | cons _ _=>simp
theorem Ab:jb X (binaryOp .Add) (Dw X.K):=by
 intro pins s σ H x y v u Q I rx ry h
 obtain ⟨a,b,xs,ys,rfl,rfl,ha,hb,hx,hz,q1,q2⟩:=h
 cases rx
 cases ry
 obtain ⟨its,r1,p1,_⟩:=I.tuple ha
 obtain ⟨Dx,r2,p2,_⟩:=I.tuple hb
 refine HT.GR p1 p2 (fun z=>hx (r1.ud.mp z)) (fun z=>⟨.ref a,H,I,rfl,q1 (r2.ud.mp z)⟩) (fun z=>?_) (by rw [<- r1.length,<- r2.length];exact hz)
 refine⟨.ref s.heap.objs.size,_,I.laid (t':=s.toks) (o:=.tup (xs++ys)) (fun b ob q=>aaD _ q) (aaK _) ?_,rfl,q2 (fun w=>z (r2.ud.mpr w)) _ (I.aN.fresh (aaK _))⟩
 exact⟨by rw [aa5];exact hz,_,r1.append r2,IsTup.new _ _⟩
end
def Gf(n:Nat)(i:Int):Option Nat:=if 0<=i then (if i<n then some i.toNat else none) else if -(n:Int)<=i then some (i+n).toNat else none
def Ac{α:Type}(xs:List α)(i:Int):Option α:=(Gf xs.length i).bind fun j=>xs[j]?
theorem Ad{n:Nat}{i:Int}{j:Nat}(h:Gf n i=some j):seqIndex? i n=some j/\j<n/\-(n:Int)<=i/\i<n:=by
 unfold Gf at h
 by_cases h0:0<=i
 ·rw [if_pos h0] at h
  by_cases h1:i<n
  ·rw [if_pos h1] at h
   have e:i.toNat=j:=aaN h
   exact⟨by rw [seqIndex_of h0 h1,e],by lia,by lia,h1⟩
  ·rw [if_neg h1] at h;cases h
 ·rw [if_neg h0] at h
  by_cases h1:-(n:Int)<=i
  ·rw [if_pos h1] at h
   have e:(i+n).toNat=j:=aaN h
   exact⟨by rw [seqIndex_neg (by lia) h1,e],by lia,h1,by lia⟩
  ·rw [if_neg h1] at h;cases h
theorem ue{α:Type}{xs:List α}{i:Int}{v:α}(h:Ac xs i=some v):∃ j,seqIndex? i xs.length=some j/\xs[j]?=some v/\j<xs.length/\-(xs.length:Int)<=i/\i<xs.length:=by
 unfold Ac at h
 cases e:Gf xs.length i with
 | none=>rw [e] at h;cases h
 | some j =>
  rw [e] at h
  obtain ⟨h1,h2,h3,h4⟩:=Ad e
  exact⟨j,h1,h,h2,h3,h4⟩
theorem bF{α:Type}{xs:List α}{j:Nat}{v:α}(h:xs[j]?=some v):Ac xs (j:Int)=some v:=by
 have hj:j<xs.length:=(aaG.mp h).1
 have e:Gf xs.length (j:Int)=some j:=by
  unfold Gf
  rw [if_pos (by lia),if_pos (by lia)];simp
 unfold Ac;rw [e];exact h
def GS(b:Expr):Prop:=∀ o i,subscripted b false o i=operate [o,i] (getItem o i)
def Gg(X:Cx)(r:R2):Prop :=
 ∀ (value slice:Expr) (pins:List (Addr×Obj)) (s:Shared) (σ:St) (H:Hp) (x y:V) (v u:Value) (Q:VK),Inv X pins σ H s->RelV x v->RelV y u->r x y H Q ->
  subscripted slice false v u=operate [v,u] (getItem v u)->wpAny (model X.prog X.w) X.A (subscriptTail value slice v u) (EP X pins σ Q) X.xe s
def TX(X:Cx)(id:String)(r:V->List V->Hp->VK->Prop):Prop :=
 ∀ (pins:List (Addr×Obj)) (s:Shared) (σ:St) (H:Hp) (x:V) (xs:List V) (v:Value) (us:List Value) (Q:VK),Inv X pins σ H s->RelV x v->Vals xs us->r x xs H Q ->
  wpAny (model X.prog X.w) X.A (call (.builtin id) (v::us)) (EP X pins σ Q) X.xe s
section
variable {X:Cx}{a b:Expr}{ta tb:TE}{pos:Pos}
theorem Gg.or{r r':R2}(h:Gg X r)(h':Gg X r'):Gg X (fun x y H Q=>r x y H Q\/r' x y H Q):=by
 intro value slice pins s σ H x y v u Q I rx ry q hs
 rcases q with q|q
 ·exact h value slice pins s σ H x y v u Q I rx ry q hs
 ·exact h' value slice pins s σ H x y v u Q I rx ry q hs
theorem aO{r:R2}(hr:Gg X r)(ha:PE X a ta)(hb:PE X b tb)(hs:GS b):PE X (.Subscript a b pos) (ND r ta tb):=by
 intro pins s σ H Q I h
 exact Subscript_ (KQ ha hb I h fun v u s2 x y H2 I2 rx ry q=>hr a b pins s2 σ H2 x y v u Q I2 rx ry q (hs _ _))
def ON(K:Frag):R2:=fun x y H Q=>∃ p xs i v,x=.ref p/\y=.int i/\aW K H p xs/\Ac xs i=some v/\Q v H
def OO(K:Frag):R2:=fun x y H Q=>∃ p xs i v,x=.ref p/\y=.int i/\aR K H p xs/\Ac xs i=some v/\Q v H
def K7:R2:=fun x y H Q=>∃ z i c,x=.str z/\y=.int i/\z.length<=sizeLine/\Ac z.cps.toList i=some c/\Q (.str ⟨#[c]⟩) H
theorem GU:Gg X (ON X.K):=by
 intro value slice pins s σ H x y v u Q I rx ry h hs
 obtain ⟨p,xs,i,z,rfl,rfl,hq,he,q⟩:=h
 cases rx
 obtain ⟨t,rfl⟩:=ry
 obtain ⟨its,r,pl,hz⟩:=I.list hq
 obtain ⟨j,h1,h2,h3,h4,h5⟩:=ue he
 obtain ⟨w,ew,OB⟩:=r.get h2
 have hl:=r.length
 have hn:=pe
 have fin:EP X pins σ Q w s:=⟨z,H,I,OB,q⟩
 by_cases h0:0<=i
 ·have hj:i.toNat=j:=by
   rw [seqIndex_of h0 h5] at h1
   exact aaN h1
  exact item_listR pl.isList h0 (by lia) (by rw [hj];simpa using ew) fin hs
 ·have hj:(i+(its.toArray.size:Int)).toNat=j:=by
   rw [seqIndex_neg (by lia) h4] at h1
   rw [abj,<- hl]
   exact aaN h1
  exact subscriptTail_builtinR (x:=w) pl.isList.typeIs slot_list_getitem.lookup
   (wpAny_getItem_list_neg (Q:=fun r s'=>r=w/\EP X pins σ Q r s') pl.isList (by lia) (by rw [abj] <;> lia) (by lia) (by rw [hj];simpa using ew) ⟨rfl,fin⟩) hs
theorem K8:Gg X (OO X.K):=by
 intro value slice pins s σ H x y v u Q I rx ry h hs
 obtain ⟨p,xs,i,z,rfl,rfl,hq,he,q⟩:=h
 cases rx
 obtain ⟨t,rfl⟩:=ry
 obtain ⟨its,r,pl,hz⟩:=I.tuple hq
 obtain ⟨j,h1,h2,h3,h4,h5⟩:=ue he
 obtain ⟨w,ew,OB⟩:=r.get h2
 have hl:=r.length
 have hn:=pe
 have fin:EP X pins σ Q w s:=⟨z,H,I,OB,q⟩
 exact subscriptTail_builtinR (x:=w) pl.typeIs slot_tuple_getitem.lookup
  (getItem_tuple (j:=j) (Q:=fun r s'=>r=w/\EP X pins σ Q r s') pl (by lia) (by lia) (by rw [abj,<- hl];exact h1) (by simpa using ew) ⟨rfl,fin⟩) hs
theorem uf:Gg X K7:=by
 intro value slice pins s σ H x y v u Q I rx ry h hs
 obtain ⟨z,i,c,rfl,rfl,hz,he,q⟩:=h
 obtain ⟨t,rfl⟩:=rx
 obtain ⟨t',rfl⟩:=ry
 obtain ⟨j,h1,h2,h3,h4,h5⟩:=ue he
 have hl:z.cps.toList.length=z.length:=by simp [Str.length]
 rw [hl] at h1 h4 h5
 have hn:=pe
 exact tail_any (typeIs_str s z t) slot_str_getitem.lookup (getItem_str (c:=c) (by
  have e1:decide (i < -(2 ^ 63:Int))=false:=aaQ (by lia)
  have e2:decide (i ≥ 2 ^ 63)=false:=aaQ (by lia)
  rw [e1,e2,Bool.or_false]) (by rw [h1];simpa using h2) ⟨.str ⟨#[c]⟩,H,I.tok _,⟨_,rfl⟩,q⟩) hs
def Sy(K:Frag):R2:=fun x y H Q=>ON K x y H Q\/OO K x y H Q\/K7 x y H Q
theorem K9:Gg X (Sy X.K):=GU.or (K8.or uf)
theorem yk (its:List Value) (n j:Nat) (u:Value):Obj.mapSeq (·.setIfInBounds j u) { cls:=.type "list",data:=.seq its.toArray n }={ cls:=.type "list",data:=.seq (its.set j u).toArray n }:=by
 simp [Obj.mapSeq]
theorem Inv.lst{pins:List (Addr×Obj)}{σ:St}{H:Hp}{s:Shared}{p:Addr}{xs:List V}(I:Inv X pins σ H s)(h:H p=some (.lst xs)) :
  ∃ (its:List Value) (n:Nat),Vals xs its/\s.heap.get? p=some { cls:=.type "list",data:=.seq its.toArray n }/\xs.length<=sizeLine:=by
 obtain ⟨z,its,n,r,e⟩:=I.aN p _ h
 exact⟨its,n,r,e,z⟩
theorem Inv.La{pins:List (Addr×Obj)}{σ:St}{H:Hp}{s:Shared}{p:Addr}{xs ys:List V}{its its':List Value}{n n':Nat}{f:Obj->Obj}(I:Inv X pins σ H s)(h:H p=some (.lst xs))
  (ho:s.heap.get? p=some { cls:=.type "list",data:=.seq its.toArray n }) (hf:f { cls:=.type "list",data:=.seq its.toArray n }={ cls:=.type "list",data:=.seq its'.toArray n' }) (r:Vals ys its') (hz:ys.length<=sizeLine) (t:Nat) :
  Inv X pins σ (upd H p (.lst ys)) { s with heap:=s.heap.update p f,toks:=t }:=by
 have e:(s.heap.update p f).get? p=some { cls:=.type "list",data:=.seq its'.toArray n' }:=by
  rw [Heap.get?_update_self f ho (by rw [hf] <;> rfl),hf]
 refine I.write (x:=p) (e:=p) (by rw [h];trivial) (.inl rfl) (fun b u hb q=>(Heap.get?_update_other _ _ (Ne.symm hb)).trans q) ⟨_,e⟩ ?_
 exact⟨hz,its',n',r,e⟩
def JH:V->V->V->Hp->(Hp->Prop)->Prop:=fun o i v H Q=>∃ p xs k j,o=.ref p/\i=.int k/\H p=some (.lst xs)/\Gf xs.length k=some j/\Q (upd H p (.lst (xs.set j v)))
theorem set_list:Oy X JH:=by
 intro pins s σ H o i v ov iv u Q I ro ri rv h
 obtain ⟨p,xs,k,j,rfl,rfl,hp,hj,q⟩:=h
 cases ro
 obtain ⟨t,rfl⟩:=ri
 obtain ⟨its,n,r,ho,hz⟩:=I.lst hp
 obtain ⟨h1,h2,h3,h4⟩:=Ad hj
 have hl:=r.length
 have hn:=pe
 have I':Inv X pins σ (upd H p (.lst (xs.set j v))) { s with heap:=s.heap.update p (Obj.mapSeq (·.setIfInBounds j u)) } :=
  I.La hp ho (yk its n j u) (r.set rv j) (by rw [length_set];exact hz) s.toks
 by_cases h0:0<=k
 ·have hk:k.toNat=j:=by
   rw [seqIndex_of h0 h4] at h1
   exact aaN h1
  exact PySem.W.ki_setAt ho h0 (by lia) (by rw [abj,<- hl];exact h4) (by rw [hk];exact⟨_,I',q⟩)
 ·have hk:(k+(its.toArray.size:Int)).toNat=j:=by
   rw [seqIndex_neg (by lia) h3] at h1
   rw [abj,<- hl]
   exact aaN h1
  exact PySem.W.ki_setBack ho (by lia) (by rw [abj,<- hl];exact h3) (by lia) (by rw [hk];exact⟨_,I',q⟩)
theorem ug(lo hi:Option Int)(n:Nat):(sliceBounds lo hi none n).1=((HT.dU n 0 lo:Nat):Int)/\(sliceBounds lo hi none n).2.1=((HT.dU n n hi:Nat):Int)/\(sliceBounds lo hi none n).2.2=1:=by
 refine⟨?_,?_,rfl⟩
 ·cases lo with
  | none=>simp [sliceBounds,HT.dU]
  | some i =>
   simp only [sliceBounds,HT.dU,Option.getD_none,show (1:Int) > 0 by decide,if_true]
   by_cases h:i<0
   ·simp only [h,if_true] <;> lia
   ·simp only [h,if_false] <;> lia
 ·cases hi with
  | none=>simp [sliceBounds,HT.dU]
  | some i =>
   simp only [sliceBounds,HT.dU,Option.getD_none,show (1:Int) > 0 by decide,if_true]
   by_cases h:i<0
   ·simp only [h,if_true] <;> lia
   ·simp only [h,if_false] <;> lia
theorem qZ(its:List Value)(lo hi:Option Int):slicePick its.toArray lo hi none=((its.drop (HT.dU its.length 0 lo)).take (HT.dU its.length its.length hi - HT.dU its.length 0 lo)).toArray:=by
 obtain ⟨h1,h2,h3⟩:=ug lo hi its.toArray.size
 unfold slicePick
 rw [h1,h2,h3]
 simp only [sliceRange_one,pick_run,abj] <;> rfl
def Dy(K:Frag):V->Option Int->Option Int->Hp->VK->Prop:=fun x lo hi H Q=>∃ a xs,x=.ref a/\aW K H a xs/\∀ p,H p=none->Q (.ref p) (upd H p (.lst (iA xs lo hi)))
theorem GV:K6 X (Dy X.K):=by
 intro pins s σ H x v vl vu lo hi sl Q I rx hs pl pu h
 obtain ⟨a,xs,rfl,hx,q⟩:=h
 cases rx
 obtain ⟨its,r,ht,hz⟩:=I.list hx
 have hlen:=r.length
 refine⟨"list",_,slot_list_getitem.lookup,ht.isList.typeIs,?_⟩
 refine wpAny_getItem_list_slice ht.isList hs pl pu .none (by simp) ?_ (by rw [abj] <;> lia)
 rw [qZ,<- hlen]
 refine⟨.ref s.heap.objs.size,_,I.laid (t':=s.toks) (o:=.lst (iA xs lo hi)) (fun b ob q=>aaD _ q) (aaK _) ?_,rfl,q _ (I.aN.fresh (aaK _))⟩
 exact⟨aaJ (nK xs lo hi) hz,_,0,(r.drop (HT.dU xs.length 0 lo)).take (HT.dU xs.length xs.length hi - HT.dU xs.length 0 lo),aaI _ rfl⟩
theorem uh:dc X (.builtin "len") (fun xs H Q=>∃ p ys,xs=[.ref p]/\(aW X.K H p ys\/aR X.K H p ys)/\Q (.int ys.length) H):=by
 intro pins s σ H xs us Q I r h
 obtain ⟨p,ys,rfl,hq,q⟩:=h
 obtain ⟨u,rfl,rx⟩:=vals1 r
 cases rx
 have hn:=pe
 rcases hq with hq|hq
 ·obtain ⟨its,r',pl,hz⟩:=I.list hq
  have hlen:=r'.length
  exact Calls.call_len_list pl.isList (by simp only [abj] <;> lia) ⟨.int ys.length,H,I.tok _,⟨s.toks+1,by rw [abj,hlen]⟩,q⟩
 ·obtain ⟨its,r',pl,hz⟩:=I.tuple hq
  have hlen:=r'.length
  exact len_tuple pl (by simp only [abj] <;> lia) ⟨.int ys.length,H,I.tok _,⟨s.toks+1,by rw [abj,hlen]⟩,q⟩
theorem ui:dc X (.type "list") (fun xs H Q=>∃ p ys,xs=[.ref p]/\(aW X.K H p ys\/aR X.K H p ys)/\∀ l,H l=none->Q (.ref l) (upd H l (.lst ys))):=by
 intro pins s σ H xs us Q I r h
 obtain ⟨p,ys,rfl,hq,q⟩:=h
 obtain ⟨u,rfl,rx⟩:=vals1 r
 cases rx
 have fin:∀ (its:List Value),Vals ys its->ys.length<=sizeLine->∀ (h':Heap) (c':Nat),(∀ b o',s.heap.get? b=some o'->h'.get? b=some o') ->
   h'.get? s.heap.objs.size=some { cls:=.type "list",dict:=none,data:=.seq its.toArray c',slots:=#[] }->EP X pins σ Q (.ref s.heap.objs.size) { s with heap:=h' }:=fun its r' hz h' c' kp e =>
  ⟨.ref s.heap.objs.size,_,I.laid (t':=s.toks) kp (aaK _) (show dv X.prog X.w _ h' _ (.lst ys) from ⟨hz,its,c',r',e⟩),rfl,q _ (I.aN.fresh (aaK _))⟩
 rcases hq with hq|hq
 ·obtain ⟨its,r',pl,hz⟩:=I.list hq
  have hlen:=r'.length
  obtain ⟨o,ho,hc,n,hd⟩:=pl.isList
  exact call_list_seq p (.inl rfl) ho hc hd (fun h' c' kp e=>fin its r' hz h' c' kp e) (by simp only [abj] <;> lia)
 ·obtain ⟨its,r',pl,hz⟩:=I.tuple hq
  have hlen:=r'.length
  obtain ⟨o,ho,hc,n,hd⟩:=pl
  exact call_list_seq p (.inr rfl) ho hc hd (fun h' c' kp e=>fin its r' hz h' c' kp e) (by simp only [abj] <;> lia)
theorem rd:dc X (.type "tuple") (fun xs H Q=>∃ p ys,xs=[.ref p]/\((aW X.K H p ys/\∀ l,H l=none->Q (.ref l) (upd H l (.tup ys)))\/(aR X.K H p ys/\Q (.ref p) H))):=by
 intro pins s σ H xs us Q I r h
 obtain ⟨p,ys,rfl,h⟩:=h
 obtain ⟨u,rfl,rx⟩:=vals1 r
 cases rx
 rcases h with ⟨hq,q⟩|⟨hq,q⟩
 ·obtain ⟨its,r',pl,hz⟩:=I.list hq
  have hlen:=r'.length
  refine call_tuple_list pl.isList (fun h' kp=>?_) (by simp only [abj] <;> lia)
  have I1:Inv X pins σ H { s with heap:=h' }:=I.kept (t':=s.toks) kp
  have I2:Inv X pins σ (upd H h'.objs.size (.tup ys)) { s with heap:=h'.push { cls:=.type "tuple",data:=.seq its.toArray } } :=
   I1.laid (t':=s.toks) (fun b o e=>aaD _ e) (aaK _) (show dv X.prog X.w _ _ _ (.tup ys) from ⟨hz,its,r',IsTup.new _ _⟩)
  exact⟨.ref h'.objs.size,_,I2,rfl,q _ (I1.aN.fresh (aaK _))⟩
 ·obtain ⟨its,r',pl,hz⟩:=I.tuple hq
  exact call_tuple_same pl ⟨.ref p,H,I,rfl,q⟩
def Lb(K:Frag)(T:String)(x:V)(H:Hp):Prop:=match x with
 | .str _=>T = "str"
 | .int _=>T = "int"
 | .ref p=>(T = "list"/\∃ xs,aW K H p xs)\/(T = "tuple"/\∃ o,K.lookup p=some o/\o.cls=.type "tuple"/\o.dict=none) \/
   (T = "dict"/\((∃ kM,H p=some (.dK kM))\/∃ kM,H p=some (.dT kM)))\/(T = "set"/\∃ S n,H p=some (.set S n))
 | _=>False
theorem Dz{pins:List (Addr×Obj)}{σ:St}{H:Hp}{s:Shared}{T:String}{x:V}{v:Value}(I:Inv X pins σ H s)(r:RelV x v)(ty:Lb X.K T x H) :
  s.TypeIs v T/\∀ a,v=.ref a->∃ ob,s.heap.get? a=some ob/\ob.dict=none:=by
 cases x with
 | str z =>
  obtain ⟨t,rfl⟩:=r
  cases (show T = "str" from ty)
  exact⟨typeIs_str s z t,fun _ e=>nomatch e⟩
 | int i =>
  obtain ⟨t,rfl⟩:=r
  cases (show T = "int" from ty)
  exact⟨typeIs_int s i t,fun _ e=>nomatch e⟩
 | ref p =>
  cases r
  rcases ty with ⟨rfl,xs,hq⟩|⟨rfl,o,hk,hc,hd⟩|⟨rfl,hk⟩|⟨rfl,S,n,hk⟩
  ·obtain ⟨its,_,pl,_⟩:=I.list hq
   refine⟨pl.isList.typeIs,fun a e=>?_⟩
   cases e
   obtain ⟨o,n,e,c,hd,_⟩:=pl
   exact⟨o,e,hd⟩
  ·refine⟨⟨o,I.i9 p o hk,hc⟩,fun a e=>?_⟩
   cases e
   exact⟨o,I.i9 _ o hk,hd⟩
  ·have z:∃ o,s.heap.get? p=some o/\o.ExactDict:=by
    rcases hk with ⟨kM,hk⟩|⟨kM,hk⟩
    ·obtain ⟨_,_,_,_,o,_,_,e,ex,_⟩:=I.aN p _ hk
     exact⟨o,e,ex⟩
    ·obtain ⟨_,_,_,_,o,_,_,e,ex,_⟩:=I.aN p _ hk
     exact⟨o,e,ex⟩
   obtain ⟨o,e,ex⟩:=z
   refine⟨⟨o,e,ex.1⟩,fun a e2=>?_⟩
   cases e2
   exact⟨o,e,ex.2.1⟩
  ·obtain ⟨o,_,_,_,e,ex,_⟩:=I.aN p _ hk
   refine⟨⟨o,e,ex.1⟩,fun a e2=>?_⟩
   cases e2
   exact⟨o,e,ex.2.1⟩
 | _=>exact False.elim ty
def OP(K:Frag)(T:String)(r:V->List V->Hp->VK->Prop)(to:TE):TE:=fun σ H Q=>to σ H fun x H1=>Lb K T x H1/\r x [] H1 Q
def tBM(K:Frag)(T:String)(r:V->List V->Hp->VK->Prop)(to:TE)(t:TA):TE:=fun σ H Q=>to σ H fun x H1=>Lb K T x H1/\t σ H1 fun xs H2=>r x xs H2 Q
variable {o e:Expr}{es:List Expr}{to:TE}{t:TA}{name:Str}{apos kW:Pos}{T id:String}{r:V->List V->Hp->VK->Prop}
theorem Lc (pa:PlainAttrs T) (slot:Slot T name id) (TY:typeOf (.builtin id)=pure (.type "method_descriptor")) (hm:TX X id r) (ho:PE X o to)
  (DA:attributeBase o name X.env (eval o X.env)=eval o X.env:=by rfl) (DB:(apos.endLine == kW.line)=true:=by rfl):PE X (.Call (.Attribute o name apos) [] [] kW) (OP X.K T r to):=by
 intro pins s σ H Q I h
 refine wpAny_Call_method0_late DA DB (cp (ho pins s σ H _ I h) fun v s1 ⟨x,H1,I1,r1,ty,q1⟩=>?_)
 obtain ⟨h1,h2⟩:=Dz I1 r1 ty
 exact⟨T,id,pa,slot,TY,h1,h2,Calls.callWith_builtin rfl (PySem.evalArgs_none (hm pins s1 σ H1 x [] v [] Q I1 r1 .nil q1))⟩
theorem kX (pa:PlainAttrs T) (slot:Slot T name id) (TY:typeOf (.builtin id)=pure (.type "method_descriptor")) (hm:TX X id r) (ho:PE X o to) (ha:PA X (e::es) t)
  (DA:attributeBase o name X.env (eval o X.env)=eval o X.env:=by rfl)
  (TZ:((backTo kW (starEach (e::es) X.env)).all (fun x=>!x.1) && (backToKw kW (keywordEach [] X.env)).all (fun x=>x.1.isSome)
   && decide ((e::es).length+([]:List Keyword).length+(if ([]:List Keyword).isEmpty then 0 else 1)<30))=true:=by rfl)
  (DB:(apos.endLine == kW.line)=true:=by rfl) (hs:starEach (e::es) X.env=(false,eval e X.env)::starEach es X.env:=by rfl) (Ld:(backTo kW (starEach es X.env)).any (·.1)=false:=by rfl) :
  PE X (.Call (.Attribute o name apos) (e::es) [] kW) (tBM X.K T r to t):=by
 intro pins s σ H Q I h
 refine wpAny_Call_method_late DA TZ DB rfl (cp (ho pins s σ H _ I h) fun v s1 ⟨x,H1,I1,r1,ty,q1⟩=>?_)
 obtain ⟨h1,h2⟩:=Dz I1 r1 ty
 refine⟨T,id,pa,slot,TY,h1,h2,?_⟩
 have hA:=ha kW pins s1 σ H1 _ I1 q1
 rw [hs] at hA ⊢
 refine Calls.callWith_builtin (by show (false || (backTo kW (starEach es X.env)).any (·.1))=false;rw [Ld] <;> rfl) (Calls.evalArgs_plain ?_)
 exact cp hA fun us s2 ⟨vs,H2,I2,r2,q2⟩=>hm pins s2 σ H2 x vs v us Q I2 r1 r2 q2
/- xs.append(e),list.index on a OQ tuple .. are TX facts of 06m -/
end
def MtM(X:Cx)(id:String)(r:V->List V->Hp->VK->Prop):Prop :=
 ∀ (pins:List (Addr×Obj)) (s:Shared) (σ:St) (H:Hp) (x:V) (xs:List V) (v:Value) (us:List Value) (Q:VK),Inv X pins σ H s->RelV x v->Vals xs us->r x xs H Q ->
  wpAny (model X.prog X.w) X.A (call (.builtin id) (v::us)) (EP X pins σ Q) X.xe s
theorem Vals.one:∀ {x:V} {us:List Value},Vals [x] us->∃ u,us=[u]/\RelV x u
 | _,_,.cons r .nil=>⟨_,rfl,r⟩
theorem Vals.zero:∀ {us:List Value},Vals [] us->us=[]
 | _,.nil=>rfl
theorem Vals.rep{xs:List V}{us:List Value}(h:Vals xs us):∀ k:Nat,Vals (List.replicate k xs).flatten (List.replicate k us).flatten
 | 0=>.nil
 | k+1=>by
  rw [replicate_succ,replicate_succ,flatten_cons,flatten_cons]
  exact Vals.append h (Vals.rep h k)
theorem foldl_rep(its:List Value):∀ (k:Nat) (acc:List Value),
  List.foldl (fun x1 x2=>x1++x2) acc.toArray (List.replicate k its.toArray)=(acc++(List.replicate k its).flatten).toArray
 | 0,acc=>by simp
 | k+1,acc=>by
  have e:acc.toArray++its.toArray=(acc++its).toArray:=by simp
  have e2:(acc++its)++(List.replicate k its).flatten=acc++(List.replicate (k+1) its).flatten:=by
   rw [replicate_succ,flatten_cons,append_assoc]
  rw [<- e2,<- foldl_rep its k (acc++its),<- e,replicate_succ,List.foldl_cons]
section
variable {X:Cx}{pins:List (Addr×Obj)}{σ:St}{H:Hp}{s:Shared}{l b:Addr}{xs ys zs:List V}
theorem Inv.OR{its its':List Value}{n:Nat}{f:Array Value->Array Value}{t':Nat}(I:Inv X pins σ H s)(hH:H l=some (.lst xs))
  (e:s.heap.get? l=some { cls:=.type "list",data:=.seq its.toArray n }) (hf:f its.toArray=its'.toArray) (hv:Vals ys its') (hz:ys.length<=sizeLine) :
  Inv X pins σ (upd H l (.lst ys)) { s with heap:=s.heap.update l (Obj.mapSeq f),toks:=t' }:=by
 have q:=PySem.IsL.update e f
 rw [hf] at q
 refine I.write (x:=l) (e:=l) (by rw [hH];exact trivial) (.inl rfl) (fun b' u hb hu=>(Heap.get?_update_other s.heap (Obj.mapSeq f) (Ne.symm hb)).trans hu) ⟨_,q⟩ ?_
 exact⟨hz,its',_,hv,q⟩
theorem Inv.yl{its:List Value}{t':Nat}(I:Inv X pins σ H s)(hv:Vals ys its)(hz:ys.length<=sizeLine) :
  Inv X pins σ (upd H s.heap.objs.size (.lst ys)) { s with heap:=s.heap.push { cls:=.type "list",data:=.seq its.toArray },toks:=t' } :=
 I.laid (fun _ _ q=>aaD _ q) (aaK _) ⟨hz,its,0,hv,aaI _ rfl⟩
theorem Inv.fresh(I:Inv X pins σ H s):H s.heap.objs.size=none:=I.aN.fresh (aaK _)
theorem Inv.DC (I:Inv X pins σ H s) (hH:H l=some (.lst xs)):xs.length<=sizeLine/\∃ (its:List Value) (n:Nat),Vals xs its/\xs.length=its.length/\s.heap.get? l=some { cls:=.type "list",data:=.seq its.toArray n }:=by
 obtain ⟨z,its,n,r,e⟩:=I.aN l _ hH
 exact⟨z,its,n,r,r.length,e⟩
theorem DD{n:Nat}(h:n<=sizeLine):Builtin.List.listTooLong n=false:=by
 unfold Builtin.List.listTooLong
 exact aaQ (by lia)
end
section
variable {X:Cx}
def Ae:V->List V->Hp->VK->Prop:=fun x vs H Q=>∃ l xs y,x=.ref l/\vs=[y]/\H l=some (.lst xs)/\xs.length<sizeLine/\Q .dB (upd H l (.lst (xs++[y])))
theorem cB:MtM X "list.append" Ae:=by
 intro pins s σ H x vs v us Q I rx rv h
 obtain ⟨l,xs,y,rfl,rfl,hH,hz,q⟩:=h
 cases rx
 obtain ⟨u,rfl,ru⟩:=rv.one
 obtain ⟨z,its,n,r,hl,e⟩:=I.DC hH
 refine call_meets F.slot_list_append ⟨_,e,rfl⟩ F.entry_list_append (F.args_list_append_2 _ _) (PySem.list_append l its.toArray n u (by rw [abj];lia)) ⟨e,?_⟩
 refine⟨.dB,_,I.OR (its':=its++[u]) hH e (by simp) (r.append (.cons ru .nil)) ?_,rfl,q⟩
 rw [aa5,aaF]
 lia
def DE:V->List V->Hp->VK->Prop:=fun x vs H Q=>∃ l xs,x=.ref l/\vs=[]/\H l=some (.lst xs)/\Q .dB (upd H l (.lst []))
theorem DF:MtM X "list.clear" DE:=by
 intro pins s σ H x vs v us Q I rx rv h
 obtain ⟨l,xs,rfl,rfl,hH,q⟩:=h
 cases rx
 have hus:=rv.zero
 subst hus
 obtain ⟨z,its,n,r,hl,e⟩:=I.DC hH
 refine call_meets F.slot_list_clear ⟨_,e,rfl⟩ F.entry_list_clear (F.args_list_clear_1 _) (AutoSeq1.list_clear_list_0 l its.toArray n (by rw [abj];lia)) ⟨e,?_⟩
 exact⟨.dB,_,I.OR (its':=[]) (ys:=[]) hH e rfl .nil (abr _),rfl,q⟩
def OS:R2:=fun x y H Q=>∃ l b xs zs,x=.ref l/\y=.ref b/\H l=some (.lst xs)/\H b=some (.lst zs)/\xs.length+zs.length<=sizeLine/\∀ p,H p=none->Q (.ref p) (upd H p (.lst (xs++zs)))
theorem iB:jb X (binaryOp .Add) OS:=by
 intro pins s σ H x y v u Q I rx ry h
 obtain ⟨l,b,xs,zs,rfl,rfl,hH,hB,hz,q⟩:=h
 cases rx
 cases ry
 obtain ⟨z,its,n,r,hl,e⟩:=I.DC hH
 obtain ⟨z2,Dx,n2,r2,Sz,e2⟩:=I.DC hB
 refine PySem.P.add_list e e2 ?_ (by rw [abj,abj];lia)
 have ea:its.toArray++Dx.toArray=(its++Dx).toArray:=by simp
 rw [ea]
 exact⟨.ref _,_,I.yl (t':=s.toks) (r.append r2) (by rw [aa5];lia),rfl,q _ I.fresh⟩
def OT:R2:=fun x y H Q=>∃ l k xs,x=.ref l/\y=.int k/\H l=some (.lst xs)/\-(2 ^ 63)<=k/\k<2 ^ 63/\xs.length*k.toNat<=sizeLine /\
 ∀ p,H p=none->Q (.ref p) (upd H p (.lst (List.replicate k.toNat xs).flatten))
theorem len_rep{α:Type}(xs:List α)(k:Nat):(List.replicate k xs).flatten.length=k*xs.length:=by
 induction k with
 | zero=>simp
 | succ k ih=>rw [replicate_succ,flatten_cons,aa5,ih,Nat.succ_mul,Nat.add_comm]
theorem Le:jb X (binaryOp .Mult) OT:=by
 intro pins s σ H x y v u Q I rx ry h
 obtain ⟨l,k,xs,rfl,rfl,hH,h1,h2,hz,q⟩:=h
 cases rx
 obtain ⟨t,rfl⟩:=ry
 obtain ⟨z,its,n,r,hl,e⟩:=I.DC hH
 have hlen:its.toArray.size*k.toNat<=sizeLine:=by rw [abj,<- hl];exact hz
 have T5:¬ its.toArray.size*k.toNat > (2 ^ 63 - 1) / 8:=by
  have:(sizeLine:Nat)<=(2 ^ 63 - 1) / 8:=by decide
  lia
 have rf:¬ (!Builtin.List.listFitsIndex k)=true:=by
  rw [fitsIndex_both h1 h2]
  exact Bool.false_ne_true
 have OU:¬ Builtin.List.listTooLong (its.toArray.size*k.toNat)=true:=by
  rw [DD hlen]
  exact Bool.false_ne_true
 have DG:List.foldl (fun x1 x2=>x1++x2) #[] (List.replicate (if its.toArray.isEmpty=true then 0 else k.toNat) its.toArray)=(List.replicate k.toNat its).flatten.toArray:=by
  have f0:∀ m:Nat,List.foldl (fun x1 x2=>x1++x2) #[] (List.replicate m its.toArray)=(List.replicate m its).flatten.toArray:=fun m=>by
   have:=foldl_rep its m []
   rw [List.nil_append] at this
   exact this
  rw [f0]
  cases its with
  | nil=>simp
  | cons a r'=>rw [if_neg (by simp)]
 refine wpAny_binaryOp_repeat_ref (T:="list") (U:="int") (by decide) ⟨_,e,rfl⟩ (fun s'=>typeIs_int s' k t) noFill_list_mul F.fills_int_mul F.slot_int_rmul repeat_list F.slot_int_index.lookup
  (call_meets F.slot_int_rmul (typeIs_int s k t) F.entry_int_rmul (F.args_int_rmul_2 _ _) (int___rmul___int_list k t l its.toArray n)
   ⟨e,rfl,⟨_,e,rfl⟩,call_meets F.slot_list_mul ⟨_,e,rfl⟩ F.entry_list_mul (F.args_list_mul_2 _ _) (AutoListH.list___mul___list_int_3 l its.toArray n k t rf T5 OU) ⟨e,?_⟩⟩)
 rw [DG]
 exact⟨.ref _,_,I.yl (t':=s.toks) (r.rep k.toNat) (by rw [len_rep,Nat.mul_comm];exact hz),rfl,q _ I.fresh⟩
end
end L2
namespace Att
open PySem PySem.W PySem.Calls PyProof.Rows
theorem n0{P:Params}{h:Heap}:∀ (ns:List Int) (vs:List Value),WellAll P h vs (ns.map WData.int)->IntsAre vs ns:=by
 intro ns
 induction ns with
 | nil =>
  intro vs w
  rw [map_nil] at w
  cases w
  exact .nil
 | cons n ns ih =>
  intro vs w
  rw [map_cons] at w
  cases w with
  | cons a b =>
   cases a
   exact .cons _ _ (ih _ b)
theorem A8{l:OpenLaw}{n:Nat}(hn:l.most=some n){P:Params}{h:Heap}{args:List WData}{vals:List Value}
  (GW:l.row.toRowW.claim.pre args=true) (T6:WellAll P h vals args) :
  ∃ a vs ns,vals=[Value.ref a]/\args=[WData.list (ns.map WData.int)]/\h.get? a=some { cls:=.type "list",data:=.seq vs.toArray }/\IntsAre vs ns/\ns.length<=n:=by
 have SA:WShape.hasAll [] args [.list .int]=true:=(pre_splitW GW).1
 have hc:l.pre.holds [] { args:=args }=true:=(pre_splitW GW).2
 obtain ⟨d,r,rfl,h1,h2⟩:=hasAllW_cons SA
 obtain rfl:=hasAllW_nil h2
 obtain ⟨xs,rfl,h3⟩:=hasW_list h1
 obtain ⟨ns,rfl⟩:=items_int h3
 have hlen:ns.length<=n:=by
  unfold OpenLaw.pre at hc
  have h4:(WTm.not (.lt (.lit (.int (n:Int))) (.len (.arg 0)))).holds [] { args:=[.list (ns.map .int)] }=true:=by
   have h4:=(holds_andW hc).1
   rw [hn] at h4
   exact h4
  have h5:=condW_of h4 (w_not (w_lt w_lit (w_len_list (w_arg rfl))))
  rw [aa4] at h5
  refine Nat.le_of_not_lt fun q=>?_
  have q':(n:Int)<((ns.length:Nat):Int):=by lia
  first
   | (rw [aaR q'] at h5;exact absurd h5 (by decide))
   | (simp at h5;lia)
 cases T6 with
 | cons w1 w2 =>
  cases w2
  cases w1 with
  | list ho T7=>exact⟨_,_,ns,rfl,rfl,ho,n0 ns _ T7,hlen⟩
theorem A9(l:OpenLaw)(args:List WData):l.row.toRowW.claim.post args (.bool true) args=true :=
 postW_of (r:=l.row.toRowW) (X:=(true == true))
  (show WShape.has [] (.bool true) .bool=true by first|rfl|decide|simp [WShape.has,WShape.arms,WShape.armsAll])
  (show (WTm.eq .res (.lit (.bool true))).value [] { args:=args,res:=some (.bool true),after:=args }=some (.bool (true == true)) from w_eq_bool (w_res rfl) w_lit) rfl
theorem vQ{l:OpenLaw}{n:Nat}{q:Program}{loose:List Str}{XP:(Str->Option Value)->Heap->Prop}{YP:World->Heap->Prop}{d:DefRec}
  (hn:l.most=some n) (T8:d.params.defaults=[])
  (call:∀ (w:World) (s₀ s₁:Shared) (mg mb:Str->Option Value) (fa:Addr) (o:Obj) (pm cd doc:Value) (a:Addr) (vs:List Value) (ns:List Int),
   Ground q loose [] XP w s₀ mg mb s₁.heap->YP w s₁.heap ->
   s₁.heap.get? fa=some o->o.data=.func (docDef d.name d.params d.body d.scope pm cd doc)->s₁.heap.CodeRec cd d.name->mg d.name=some (.ref fa) ->
   s₁.heap.get? a=some { cls:=.type "list",data:=.seq vs.toArray }->IntsAre vs ns->ns.length<=n->s₁.gens=#[] ->
   codeAny (model l.prog w) callerA (.call (.ref fa) ⟨[.ref a],[]⟩) (fun r s'=>r=.ok (.ret (.bool true))/\OldK s₁.heap s'.heap/\s'.os=s₁.os/\AllBare s'.gens) s₁) :
  WalkO q loose XP YP l.row.toRowW d [] (fun f vs=>PySem.call f vs):=by
 intro w s₀ s₁ mg mb G Y fa o pm cd doc dV kV ho hd kO hD OV hg args vals as GW hlay hrd T6 hlo
 obtain rfl:dV=.none:=Dflts.none hD T8
 obtain rfl:kV=.none:=Dflts.noKw hD
 obtain ⟨a,vs,ns,rfl,rfl,Lf,hints,hlen⟩:=A8 hn GW T6
 refine enter_call (codeAny_mono (call w s₀ s₁ mg mb fa o pm cd doc a vs ns G Y ho (fd_plain hd) kO OV Lf hints hlen hg) fun r s' hq=>?_)
 obtain ⟨rfl,h2,h3,h4⟩:=hq
 exact⟨.inl ⟨.bool true,.bool true,[],rfl,fun _=>rfl,.bool true,A9 l _,fun _=>⟨List.Pairwise.nil,fun _ hm=>(nomatch hm)⟩⟩,h2,h3,h4⟩
section
variable {prog:Program}{w:World}{A:Around}{E:Value->Shared->Prop}{s:Shared}{K:Frag}
end
end Att
namespace L2
open PySem PySem.Spec PyProof.Rows
theorem sU:∀ {vs:List Value} {ns:List Int},IntsAre vs ns->Vals (ns.map V.int) vs
 | _,_,.nil=>.nil
 | _,_,.cons n t h=>.cons ⟨t,rfl⟩ (sU h)
def aE(s:Stmt):Arguments:=match s with
 | .FunctionDef _ a _ _ _ _ _ _ _ _=>a
 | _=>{ posonlyargs:=[],args:=[],vararg:=none,kwonlyargs:=[],kw_defaults:=[],kwarg:=none,defaults:=[] }
def az(s:Stmt):List Stmt:=match s with
 | .FunctionDef _ _ b _ _ _ _ _ _ _=>b
 | _=>[]
def ak(s:Stmt):Scope:=match s with
 | .FunctionDef _ _ _ _ _ _ sc _ _ _=>sc
 | _=>{ kind:=.function,names:=[],isGenerator:=false,isCoroutine:=false }
abbrev CI:CH:=fun _ _ _ _ _ _=>False
abbrev E0:XK:=fun _ _ _=>False
theorem DH{X:Cx}:Passes CI X E0:=fun _ _ _ _ _ _ _ h=>h.elim
structure JI(K:Frag)(x qual:Str)(st:Stmt)(f:Addr)(fd:FuncData):Prop where
 ex:∃ (oc:Value) (od:Option Addr) (kV doc pm:Value) (an:Option Addr) (cZ ct:Value) (zZ:Array (Option Value)),
  fd=fnOf x qual (aE st) (az st) (ak st) .none kV doc pm an cZ ct/\K.lookup f=some ⟨oc,od,.func fd,zZ⟩/\codeIn K cZ qual=true
 kp:keepIn K (.ref f)=true
section
variable {P:Program}{w:World}{K:Frag}{mg:Str->Option Value}{base:Heap}
theorem JI.ok{x qual:Str}{st:Stmt}{f:Addr}{fd:FuncData}{N ps:List Str}{k:Nat}{sp:Sp}(F:JI K x qual st f fd)(S:aA N ps (ak st))(len:∀ vs H Q E,sp vs H Q E->vs.length=ps.length)
  (fZ:∀ (cZ:Value) (A:Around) (outer:List Env) (s:Shared) (H:Hp) (vs:List V) (Q:VK) (E:XK),cj k (A.deeper (envOfC qual (ak st) s.heap.objs.size f cZ))->sp vs H Q E ->
   ∃ t,oE (iz CI P w K mg base N qual (ak st) f cZ A outer s H E).Gb (az st) t/\t { nx:=fun _ H'=>Q .dB H',rt:=Q } (start N vs) H):j8 P w K mg base CI (k+1) f fd ps sp:=by
 obtain ⟨oc,od,kV,doc,pm,an,cZ,ct,zZ,rfl,lk,kO⟩:=F.ex
 refine vP lk kO S len fun A outer s H vs Q E hr z0=>?_
 obtain ⟨t,h,q⟩:=fZ cZ A outer s H vs Q E hr z0
 exact⟨t,h.Gb,q⟩
theorem JI.binds{x qual:Str}{st:Stmt}{f:Addr}{fd:FuncData}{ps:List Str}(F:JI K x qual st f fd)
  (h:∀ (kV doc pm:Value) (an:Option Addr) (cZ ct:Value) (us:List Value),us.length=ps.length->bindArgs (fnOf x qual (aE st) (az st) (ak st) .none kV doc pm an cZ ct) ⟨us,[]⟩=pure (ps.zip us)):Binds K fd ps []:=by
 obtain ⟨oc,od,kV,doc,pm,an,cZ,ct,zZ,rfl,lk,kO⟩:=F.ex
 exact .all (h kV doc pm an cZ ct)
theorem bj{x qual:Str}{st:Stmt}{f:Addr}{oc:Value}{od an:Option Addr}{zZ:Array (Option Value)}{kV doc pm cZ ct:Value}(l:K.lookup f=some ⟨oc,od,.func (fnOf x qual (aE st) (az st) (ak st) .none kV doc pm an cZ ct),zZ⟩)
  (c:codeIn K cZ qual=true) (k:keepIn K (.ref f)=true):JI K x qual st f (fnOf x qual (aE st) (az st) (ak st) .none kV doc pm an cZ ct):=⟨⟨oc,od,kV,doc,pm,an,cZ,ct,zZ,rfl,l,c⟩,k⟩
end
theorem bL{A:Around}{k:Nat}(hr:cj k A):A.units+1<cLine:=abb (Nat.add_le_add_left (by decide:1<=64) _) hr.units
theorem el{n:Nat}(h:n<=1000):n<sizeLine:=abb h (by decide)
section
variable {X:Cx}
theorem pv (i:Nat) {x:Str} {pos:Pos} (hN:X.N[i]?=some x:=by rfl) (hv:KD X.env.scope x:=by first|exact Or.inl rfl|exact Or.inr (Or.inl rfl)|exact Or.inr (Or.inr rfl)) (hd:(x == ("__debug__":Str))=false:=by decide)
  (kO:(x == ("__classdict__":Str))=false:=by decide):PE X (.Name x pos) (C5 i):=C6 hN hv hd kO
end
theorem DI{A B:Prop}(h:B):if false=true then A else B:=by
 rw [if_neg Bool.false_ne_true]
 exact h
theorem jM{A B:Prop}(h:A):if true=true then A else B:=by
 rw [if_pos rfl]
 exact h
def aj(H H':Hp):Prop:=∀ b o,H b=some o->H' b=some o
theorem aj.refl(H:Hp):aj H H:=fun _ _ h=>h
theorem aj.trans{H H1 H2:Hp}(a:aj H H1)(b:aj H1 H2):aj H H2:=fun c o h=>b c o (a c o h)
theorem aj.seq{K:Frag}{H H':Hp}{a:Addr}{xs:List V}(e:aj H H')(h:aW K H a xs):aW K H' a xs:=by
 rcases h with (h|⟨o,h⟩)|h
 ·exact .inl (.inl (e _ _ h))
 ·exact .inl (.inr ⟨o,e _ _ h⟩)
 ·exact .inr h
end L2
namespace L2
open PySem
def cF(cells:List (Str×Addr)):List (Str×NameKind)->List (Str×Addr)->List (Str×Addr)
 | [],acc=>acc
 | (n,k)::r,acc=>cF cells r (if k == .free then (match cells.lookup n with|some c=>(n,c)::acc|none=>acc) else acc)
theorem iC{scope:Scope}{env:Env}(h:∀ p∈scope.names,p.2=.free->∃ c,env.cells.lookup p.1=some c):closureFor scope env=pure (cF env.cells scope.names []):=by
 have key:∀ (names:List (Str×NameKind)) (acc:List (Str×Addr)),(∀ p∈names,p.2=.free->∃ c,env.cells.lookup p.1=some c) ->
   (forIn names acc (fun (x:Str×NameKind) (cs:List (Str×Addr))=>if (x.2 == NameKind.free)=true then (do let c <- cellOf env x.1;pure (ForInStep.yield ((x.1,c)::cs))) else pure (ForInStep.yield cs)):Sem (List (Str×Addr)))=pure (cF env.cells names acc):=by
  intro names
  induction names with
  | nil=>intro acc _;rfl
  | cons p r ih =>
   intro acc hp
   obtain ⟨n,k⟩:=p
   rw [forIn_cons]
   by_cases hk:k=.free
   ·subst hk
    obtain ⟨c,hc⟩:=hp (n,.free) mem_cons_self rfl
    have e:cellOf env n=pure c:=by unfold cellOf;rw [show env.cells.lookup n=some c from hc]
    show (if (NameKind.free == NameKind.free)=true then _ else _) >>= _=_
    rw [if_pos (by rfl)]
    dsimp only
    rw [e]
    show (forIn r ((n,c)::acc) _:Sem _)=_
    rw [ih _ fun q hq=>hp q (aa6 _ hq)]
    simp [cF,show env.cells.lookup n=some c from hc]
   ·have jd:(k == NameKind.free)=false:=by simpa using hk
    show (if (k == NameKind.free)=true then _ else _) >>= _=_
    rw [if_neg (by rw [jd];exact Bool.false_ne_true)]
    show (forIn r acc _:Sem _)=_
    rw [ih _ fun q hq=>hp q (aa6 _ hq)]
    simp [cF,jd]
 unfold closureFor
 have k:=key scope.names [] h
 exact (congrArg (fun m:Sem (List (Str×Addr))=>m >>= fun cs=>pure cs) k).trans rfl
theorem ia{cells:List (Str×Addr)}:∀ {names:List (Str×NameKind)} {acc:List (Str×Addr)},(∀ x c,acc.lookup x=some c->cells.lookup x=some c)->∀ x c,(cF cells names acc).lookup x=some c->cells.lookup x=some c
 | [],acc,h,x,c,e=>h x c e
 | (n,k)::r,acc,h,x,c,e=>by
  refine ia (names:=r) (fun y d q=>?_) x c e
  split at q
  ·split at q
   ·rename_i c0 T9
    rw [lookup_cons] at q
    split at q
    ·rename_i hy
     have hy':y=n:=by simpa using hy
     subst hy'
     rw [T9];exact q
    ·exact h y d q
   ·exact h y d q
  ·exact h y d q
theorem ib{cells:List (Str×Addr)}:∀ {names:List (Str×NameKind)} {acc:List (Str×Addr)} {x:Str},(acc.lookup x).isSome=true\/((x,NameKind.free)∈names/\(cells.lookup x).isSome=true)->((cF cells names acc).lookup x).isSome=true
 | [],acc,x,h=>by
  rcases h with h|h
  ·exact h
  ·exact absurd h.1 (by simp)
 | (n,k)::r,acc,x,h=>by
  refine ib (names:=r) ?_
  rcases h with h|⟨hm,hc⟩
  ·left
   split
   ·split
    ·rw [lookup_cons];split
     ·rfl
     ·exact h
    ·exact h
   ·exact h
  ·rcases aa7.mp hm with e|hm
   ·injection e with e1 e2
    subst e1;subst e2
    left
    rw [if_pos (by rfl)]
    cases hq:cells.lookup x with
    | none=>rw [hq] at hc;cases hc
    | some c=>simp
   ·exact .inr ⟨hm,hc⟩
section
variable {prog:Program}{w:World}{A:Around}
theorem ml{R:Result->Shared->Prop}{s:Shared}{elt target iter:Expr}{ifs:List Expr}{scope:Scope}{pos:Pos}{it acc:Value}{env:Env}{E:Value->Shared->Prop}(hE:∀ e s',E e s'->notedBy (model prog w) A env (fun e s'=>R (.error e) s') e s')(I:Nat->Shared->Prop)
  (turn:∀ n s,I n s->wpAny (model prog w) A (pyNext it) (fun r s₁=>match r with
   | none=>R (.ok .next) s₁
   | some v=>wpAny (model prog w) A (letOwnedTupleGo target it v) (fun _ s₁'=>wpAny (model prog w) A (assign target env v) (fun _ s₂ =>
     wpAny (model prog w) A (forIn ifs true fun c r=>if r=true then do let ok <- isTrue c env (eval c env);pure (ForInStep.yield ok) else pure (ForInStep.yield r)) (fun ok s₃ =>
      if ok=true then wpAny (model prog w) A (eval elt env) (fun x s₄ =>
       wpAny (model prog w) A (call (.builtin "list.append") [acc,x]) (fun _ s₅=>∃ m,m<n/\I m s₅) E s₄) E s₃
      else ∃ m,m<n/\I m s₃) E s₂) E s₁') E s₁) E s)
  (n:Nat) (h:I n s) :
  codeAny (model prog w) A (.compLoop (.ListComp elt [⟨target,iter,ifs,0⟩] scope pos) 0 it acc env) R s:=by
 have sV:∀ {α:Type} {t:Sem α} {Q:α->Shared->Prop} {s:Shared},wpAny (model prog w) A t Q E s->wpAny (model prog w) A t Q (notedBy (model prog w) A env fun e s'=>R (.error e) s') s:=fun q=>aaU q (fun _ _ z=>z) hE
 refine codeAny_loop rfl I (fun n s hI=>?_) n h
 show wpAny _ A ((compTurn (.ListComp elt [⟨target,iter,ifs,0⟩] scope pos) 0 it acc env).onRaise (fun x=>do noteFrame x env;theTreesLotGoes x)) _ _ s
 refine wpAny_noted ?_
 rw [compTurn_list]
 refine aaE (wpAny_standAt (aaE (aaU (sV (turn n s hI)) (fun r s₁ h₁=>?_) fun _ _ h'=>h')))
 cases r with
 | none=>exact aaT h₁
 | some v =>
  refine aaE (aaU (sV h₁) (fun _ s₁' h₁'=>?_) fun _ _ h'=>h')
  refine aaE (aaU (sV h₁') (fun _ s₂ h₂=>aaE (aaU (sV h₂) (fun ok s₃ h₃=>?_) fun _ _ h'=>h')) fun _ _ h'=>h')
  cases ok with
  | false=>exact aaT ⟨rfl,h₃⟩
  | true =>
   simp only [if_true] at h₃ ⊢
   exact aaE (aaE (aaU (sV h₃) (fun x s₄ h₄=>aaE (aaU (sV h₄) (fun _ s₅ h₅=>aaT (aaT ⟨rfl,h₅⟩)) fun _ _ h'=>h')) fun _ _ h'=>h'))
end
open PySem PySem.Spec PyProof.Rows
abbrev aY(X:Cx)(pins:List (Addr×Obj))(N:List Str)(scope:Scope)(C:Addr)(s:Shared)(H:Hp)(fp:List Addr):Cx :=
 { X with N:=N,s₀:=s,H₀:=H,env:=compEnvC scope (cF X.env.cells scope.names []) C X.env,outer:=X.stack,stack:=X.stack,ex:=fp,fn:=fun _=>false,pn:=X.pn++pins,xe:=fun _ _=>False }
def pick(ix:List (Option Nat))(σ:St):St:=ix.map fun o=>o.bind fun j=>(σ[j]?).join
def jN(X:Cx)(scope:Scope):List Str->List (Option Nat)->Prop
 | [],[]=>True
 | _::N,none::ix=>jN X scope N ix
 | x::N,some j::ix=>(X.N[j]?=some x/\KD X.env.scope x/\(X.env.scope.names.lookup x == some .local)=false/\scope.names.lookup x=some .free)/\jN X scope N ix
 | _,_=>False
theorem jN.len{X:Cx}{scope:Scope}:∀ {N:List Str} {ix:List (Option Nat)},jN X scope N ix->ix.length=N.length
 | [],[],_=>rfl
 | [],none::_,h=>h.elim
 | [],some _::_,h=>h.elim
 | _::_,[],h=>h.elim
 | _::N,none::ix,h=>by simp only [length_cons];rw [jN.len (N:=N) (ix:=ix) h]
 | _::N,some _::ix,h=>by simp only [length_cons];rw [jN.len (N:=N) (ix:=ix) h.2]
theorem jN.get{X:Cx}{scope:Scope}:∀ {N:List Str} {ix:List (Option Nat)} {i j:Nat} {x:Str},jN X scope N ix->N[i]?=some x->ix[i]?=some (some j) ->
  X.N[j]?=some x/\KD X.env.scope x/\(X.env.scope.names.lookup x == some .local)=false/\scope.names.lookup x=some .free
 | [],[],_,_,_,_,h,_=>by simp at h
 | [],none::_,_,_,_,h,_,_=>h.elim
 | [],some _::_,_,_,_,h,_,_=>h.elim
 | _::_,[],_,_,_,h,_,_=>h.elim
 | _::N,none::ix,0,_,_,_,_,e=>by simp at e
 | _::N,none::ix,i+1,_,_,h,h1,e=>jN.get (N:=N) (ix:=ix) (i:=i) h (by simpa using h1) (by simpa using e)
 | y::N,some k::ix,0,j,x,h,h1,e=>by
  simp at h1 e
  subst h1;subst e
  exact h.1
 | _::N,some _::ix,i+1,_,_,h,h1,e=>jN.get (N:=N) (ix:=ix) (i:=i) h.2 (by simpa using h1) (by simpa using e)
theorem kY{ix:List (Option Nat)}{σ:St}{i:Nat}{v:V}(h:(pick ix σ)[i]?=some (some v)):∃ j,ix[i]?=some (some j)/\σ[j]?=some (some v):=by
 unfold pick at h
 rw [abk] at h
 cases e:ix[i]? with
 | none=>rw [e] at h;cases h
 | some o =>
  rw [e] at h
  cases o with
  | none=>cases h
  | some j =>
   refine⟨j,rfl,?_⟩
   have h':(σ[j]?).join=some v:=aaN h
   cases q:σ[j]? with
   | none=>rw [q] at h';cases h'
   | some z=>rw [q] at h';have h2:z=some v:=h';rw [h2]
theorem dD{env : Env} : ∀ {names : List (Str × NameKind)} {x : Str}, (∀ y ∈ names, y.2 ≠ .cell) ->
    ((names.map fun (n, k) => if (k == NameKind.free && env.scope.kind == .function && env.kindOf n == some .cell) then (n, NameKind.cell) else (n, k)).lookup x=some .cell \/
     (names.map fun (n, k) => if (k == NameKind.free && env.scope.kind == .function && env.kindOf n == some .cell) then (n, NameKind.cell) else (n, k)).lookup x=some .free) -> names.lookup x=some .free
  | [], _, _, h => by simp at h
  | (n, k)::r, x, hc, h => by
    have ih := @dD env r x fun y hy => hc y (aa6 _ hy)
    have hk : k ≠ .cell := hc (n, k) mem_cons_self
    rw [map_cons] at h
    cases hx : x == n with
    | true =>
      rw [lookup_cons, hx]
      by_cases n4 : (k == NameKind.free && env.scope.kind == .function && env.kindOf n == some .cell)=true
      · have : k=.free := by
          simp only [Bool.and_eq_true, beq_iff_eq] at n4
          exact n4.1.1
        rw [this]
      · simp only [n4, Bool.false_eq_true, if_false, lookup_cons, hx] at h
        rcases h with h|h
        · exact absurd (aaN h) hk
        · exact h
    | false =>
      rw [lookup_cons, hx]
      refine ih ?_
      by_cases n4 : (k == NameKind.free && env.scope.kind == .function && env.kindOf n == some .cell)=true
      · simp only [n4, if_true, lookup_cons, hx] at h
        exact h
      · simp only [n4, Bool.false_eq_true, if_false, lookup_cons, hx] at h
        exact h
theorem fQ{env : Env} : ∀ {names : List (Str × NameKind)} {x : Str}, names.lookup x=some .free ->
    ((names.map fun (n, k) => if (k == NameKind.free && env.scope.kind == .function && env.kindOf n == some .cell) then (n, NameKind.cell) else (n, k)).lookup x=some .cell \/
     (names.map fun (n, k) => if (k == NameKind.free && env.scope.kind == .function && env.kindOf n == some .cell) then (n, NameKind.cell) else (n, k)).lookup x=some .free)
  | [], _, h => by simp at h
  | (n, k)::r, x, h => by
    have ih := @fQ env r x
    rw [map_cons]
    cases hx : x == n with
    | true =>
      rw [lookup_cons, hx] at h
      have hk : k=.free := aaN h
      subst hk
      by_cases n4 : (NameKind.free == NameKind.free && env.scope.kind == .function && env.kindOf n == some .cell)=true
      · simp only [n4, if_true, lookup_cons, hx];exact .inl trivial
      · simp only [n4, Bool.false_eq_true, if_false, lookup_cons, hx];exact .inr trivial
    | false =>
      rw [lookup_cons, hx] at h
      by_cases n4 : (k == NameKind.free && env.scope.kind == .function && env.kindOf n == some .cell)=true
      · simp only [n4, if_true, lookup_cons, hx];exact ih h
      · simp only [n4, Bool.false_eq_true, if_false, lookup_cons, hx];exact ih h
def SD(Y:Cx):List Expr->TT->Prop
 | [],t=>t=fun _ H Q=>Q true H
 | [c],t=>PT Y c t
 | _,_=>False
def bG(ix:List (Option Nat))(g:TG)(tt:TT)(te:TE)(σ:St)(Q:VK)(J:It)(H1:Hp):Prop:=∀ l,H1 l=none->∃ W:Nat->Nat->St->List V->Hp->Prop,
 (∃ m,W 0 m (pick ix σ) [] (upd H1 l (.lst [])))/\∀ i m σ1 ys H',W i m σ1 ys H'->H' l=some (.lst ys)/\((J.stop i H'/\Q (.ref l) H') \/
  (J.go i H'/\∃ m',m'<m/\∀ x H2,J.GF i H' x H2->g x σ1 H2 fun σ2 H3=>tt σ2 H3 fun b H4=>if b=true then te σ2 H4 fun y H5=>H5 l=some (.lst ys)/\ys.length<sizeLine/\W (i+1) m' σ2 (ys++[y]) (upd H5 l (.lst (ys++[y]))) else W (i+1) m' σ2 ys H4))
def Af(ix:List (Option Nat))(wi:TI)(g:TG)(tt:TT)(te:TE):TE:=fun σ H Q=>wi σ H fun J H1=>bG ix g tt te σ Q J H1
theorem Un.letGo{fs ex:List Addr}{H H':Hp}{h h1 h2:Heap}{C:Addr}(u:Un fs ex H H' h h1)(hC:h.objs.size<=C)(sb:Heap.SameBut C h1 h2):Un fs ex H H' h h2:=by
 have ne:∀ b o,h.get? b=some o->b≠C:=fun b o e=>abt (Nat.lt_of_lt_of_le (aaH e) hC)
 refine⟨fun b o e n hb hx=>(sb.2 b (ne b o e)).trans (u.keep b o e n hb hx),fun b o e n hb hx=>?_,u.free,fun b o e hx=>?_,u.il,u.gZ,u.hJ⟩
 ·obtain ⟨sl,q⟩:=u.slot b o e n hb hx
  exact⟨sl,(sb.2 b (ne b o e)).trans q⟩
 ·obtain ⟨o',q⟩:=u.there b o e hx
  exact⟨o',(sb.2 b (ne b o e)).trans q⟩
theorem ft.letGo{P:Program}{w:World}{H:Hp}{h h':Heap}{C:Addr}(x:ft P w H h)(hC:H C=none)(sb:Heap.SameBut C h h'):ft P w H h':=fun a o e=>by
 have na:∀ b u,H b=some u->b≠C:=fun b u q z=>by rw [z,hC] at q;cases q
 refine (x a o e).kN (fun b u hb q=>(sb.2 b ?_).trans q) (fun _ q=>q) fun _ _ q=>q
 rcases hb with rfl|hb
 ·exact na _ _ e
 ·exact na _ _ hb
section
variable {X:Cx}
theorem pk{Y:Cx}{ifs:List Expr}{tt:TT}(ht:SD Y ifs tt){pins:List (Addr×Obj)}{s:Shared}{σ:St}{H:Hp}{Q:Bool->Hp->Prop}(I:Inv Y pins σ H s)(h:tt σ H Q) :
  wpAny (model Y.prog Y.w) Y.A (forIn ifs true fun c r=>if r=true then do let ok <- isTrue c Y.env (eval c Y.env);pure (ForInStep.yield ok) else pure (ForInStep.yield r)) (TP Y pins σ Q) Y.xe s:=by
 match ifs,ht with
 | [],ht =>
  have e:tt=fun _ H Q=>Q true H:=ht
  subst e
  exact wpAny_tests_nil ⟨H,I,h⟩
 | [c],ht=>exact wpAny_tests_one ((show PT Y c tt from ht) pins s σ H Q I h)
 | _::_::_,ht=>exact False.elim ht
theorem bU{tg iter elt:Expr}{ifs:List Expr}{scope:Scope}{pos:Pos}{N:List Str}{ix:List (Option Nat)}{wi:TI}{g:TG}{tt:TT}{te:TE}
  (hc:X.calm=true) (hi:PI X tg iter wi)
  (hg:∀ pins C s H fp,PG (aY X pins N scope C s H fp) tg g)
  (ht:∀ pins C s H fp,SD (aY X pins N scope C s H fp) ifs tt)
  (he:∀ pins C s H fp,PE (aY X pins N scope C s H fp) elt te)
  (hk:scope.kind=.function) (dw:∀ y∈scope.names,y.2≠.cell) (pC:∀ y∈scope.names,y.2=.local->scope.names.lookup y.1=some .local)
  (jO:(scope.names.all fun y=>!(y.2 == NameKind.free) || (X.env.cells.lookup y.1).isSome)=true) (vC:jN X scope N ix)
  (hs:∀ x,foldedSetIterable iter X.env x=pure x:=by intro _;rfl) :
  PE X (.ListComp elt [⟨tg,iter,ifs,0⟩] scope pos) (Af ix wi g tt te):=by
 intro pins s σ H Q I h
 have qP:∀ y∈scope.names,y.2=.free->(X.env.cells.lookup y.1).isSome=true:=fun y hy e=>by
  have z:=all_eq_true.mp jO y hy
  rw [e] at z
  simpa using z
 have ym:∀ p∈scope.names,p.2=.free->∃ c,X.env.cells.lookup p.1=some c:=fun p hp e=>aaS.mp (qP p hp e)
 have cG:∀ x c,(cF X.env.cells scope.names []).lookup x=some c->X.env.cells.lookup x=some c:=ia (fun x c q=>by simp at q)
 have ji:∀ x,scope.names.lookup x=some .free->∃ c,(cF X.env.cells scope.names []).lookup x=some c:=fun x hx=>by
  have hm:=PySem.mem_of_lookup hx
  exact aaS.mp (ib (.inr ⟨hm,qP _ hm rfl⟩))
 rw [eval_ListComp]
 refine wpAny_comprehension_free (use:=none) rfl hs (iC ym) hk pC (cp (hi pins s σ H _ I h) fun v s1 h1=>cp h1 fun OC s2 h2=>?_)
 obtain ⟨it,fp,tn,J,H2,e,I2,T,Gd,f2,hW⟩:=h2
 subst e
 have pD:H2 s2.heap.objs.size=none:=I2.aN.fresh (aaK _)
 obtain ⟨W,⟨m0,w0⟩,turn⟩:=hW s2.heap.objs.size pD
 refine wpAny_newObj_type ?_
 have I3:Inv X pins σ (upd H2 s2.heap.objs.size (.lst [])) { s2 with heap:=s2.heap.push { cls:=.type "list",data:=.seq ([]:List Value).toArray } }:=I2.yl (its:=[]) (t':=s2.toks) .nil (abr _)
 have f3:∀ b∈fp,j7 X pins (upd H2 s2.heap.objs.size (.lst [])) b:=fun b hb=>by
  refine⟨?_,(f2 b hb).2⟩
  obtain ⟨o,eo,_⟩:=T.obj _ _ Gd b hb
  rw [au (abt (aaH eo))]
  exact (f2 b hb).1
 have sI:tn 0 (s2.heap.push { cls:=.type "list",data:=.seq ([]:List Value).toArray }):=T.keep _ _ _ Gd fun b _ o e=>aaD _ e
 generalize qQ:({ s2 with heap:=s2.heap.push { cls:=.type "list",data:=.seq ([]:List Value).toArray } }:Shared)=s3 at I3
 have sI:tn 0 s3.heap:=by rw [<- qQ];exact sI
 generalize hH3:upd H2 s2.heap.objs.size (.lst [])=H3 at I3 f3 w0
 generalize OW:s2.heap.objs.size=acc at *
 refine wpAny_newFunctionEnv dw (by intro y hy;simp at hy) (fun h₁ DJ DK=>?_) hk
 have old:∀ b o,s3.heap.get? b=some o->h₁.get? b=some o:=fun b o q=>DK.extBut b o (abt (aaH q)) (aaD _ q)
 have pE:H3 s3.heap.objs.size=none:=I3.aN.fresh (aaK _)
 have JJ:∀ b∈fp,b<s3.heap.objs.size:=fun b hb=>by
  obtain ⟨o,eo,_⟩:=T.obj _ _ sI b hb
  exact aaH eo
 have pF:∀ b,b≠X.env.locals->b∉X.fs->b∉jV X.stack:=fun b h1 h2 z=>by
  rcases aa7.mp (I3.iq b z) with q|q
  ·exact h1 q
  ·exact h2 q
 have Ua:∀ x c,X.env.cells.lookup x=some c->c<s3.heap.objs.size:=fun x c q=>by
  obtain ⟨v,z⟩:=I3.cell x c q
  exact z.lt
 have YI:∀ (h':Heap) (m:Str->Option Value),(∀ b o,s3.heap.get? b=some o->h'.get? b=some o)->h'.Ns s3.heap.objs.size m ->
   Inv (aY X pins N scope s3.heap.objs.size s3 H3 fp) [] (pick ix σ) H3 { s3 with heap:=h',toks:=s3.toks+([]:List (Str×Value)).length }:=by
  intro h' m jd hn
  refine⟨⟨I3.ok.mod,hk,I3.ok.glob,I3.ok.blt,aaK _,fun x y c q1 q2=>I3.ok.inj x y c (cG x c q1) (cG y c q2),fun x hx=>ji x (dD dw hx),fun x c hf _=>absurd hf Bool.false_ne_true,
   I3.ok.hd,I3.ok.frames,.inl rfl,fun b hb=>⟨abt (JJ b hb),fun x c q=>(f3 b hb).2.2.2.2.1 x c (cG x c q)⟩,I3.bs,aaJ I3.ok.qW I3.sz,fun b o e hb=>?_,fun b hb=>pF b (f3 b hb).2.1 (f3 b hb).2.2.1,I3.stack,I3.eC⟩,
   rfl,I3.bare,Un.kept jd,⟨m,hn,fun i x v h1 h2 h3=>?_⟩,fun x c q=>?_,pE,fun x c q=>I3.dF x c (cG x c q),fun p hp=>?_,I3.aN.kept jd,?_⟩
  ·have q:=(I3.bs b o e).2
   rcases (f3 b hb).2.2.2.1 with z|z
   ·exact I3.ok.oS b o e z
   ·exact absurd (Nat.lt_of_lt_of_le (aaH e) (aaJ I3.ok.qW z)) (Nat.lt_irrefl _)
  ·obtain ⟨j,e1,e2⟩:=kY h2
   obtain ⟨a1,a2,a3,a4⟩:=vC.get h1 e1
   obtain ⟨mX,Ub,Lg⟩:=I3.loc
   obtain ⟨u,ru,l⟩:=Lg j x v a1 e2 a2
   refine⟨u,ru,?_⟩
   rcases l with ⟨l1,_⟩|⟨_,c,lc,z⟩
   ·have Lh:X.env.scope.names.lookup x=some .local:=l1
    rw [Lh] at a3
    exact absurd a3 (by decide)
   ·obtain ⟨c',vI⟩:=ji x a4
    have ec:=cG x c' vI
    rw [lc] at ec
    have Li:c=c':=aaN ec
    subst Li
    exact .inr ⟨fQ a4,c,vI,z.keeps jd⟩
  ·obtain ⟨v,z⟩:=I3.cell x c (cG x c q)
   exact⟨v,z.keeps jd⟩
  ·have sW:p∈X.pn++pins:=by simpa using hp
   obtain ⟨a1,a2,a3,a4,a5⟩:=I3.pin p sW
   exact⟨jd _ _ a1,a2,abt (aaH a1),pF p.1 a3 a4,a5⟩
  ·show (pick ix σ).length=N.length
   unfold pick
   rw [aa4]
   exact vC.len
 have DL:∀ {pl:List (Addr×Obj)} {H':Hp},pl=[]->(∀ b∈fp,H' b=none)->∀ b∈fp,j7 (aY X pins N scope s3.heap.objs.size s3 H3 fp) pl H' b:=fun {pl H'} OX hn b hb=>by
  obtain ⟨f0,f1,GX,Gh,f4,f5⟩:=f3 b hb
  subst OX
  exact⟨hn b hb,abt (JJ b hb),pF b f1 GX,.inl hb,fun x c q=>f4 x c (cG x c q),fun p hp=>f5 p (by simpa using hp)⟩
 have loop:∀ s4:Shared,(∃ m,s4={ s3 with heap:=h₁,toks:=s3.toks+([]:List (Str×Value)).length }/\h₁.Ns s3.heap.objs.size m) ->
   codeAny (model X.prog X.w) X.A (.compLoop (.ListComp elt [⟨tg,iter,ifs,0⟩] scope pos) 0 (.ref it) (.ref acc) (compEnvC scope (cF X.env.cells scope.names []) s3.heap.objs.size X.env))
    (compPost (model X.prog X.w) X.A X.xe none (EP X pins σ Q) (.ref acc) s3.heap.objs.size) s4:=by
  rintro s4 ⟨m4,rfl,vR⟩
  refine ml (E:=fun _ _=>False) (fun _ _ z=>z.elim)
   (fun n s'=>∃ i σ' ys H',Inv (aY X pins N scope s3.heap.objs.size s3 H3 fp) [] σ' H' s'/\tn i s'.heap/\(∀ b∈fp,H' b=none)/\W i n σ' ys H') ?_ m0
   ⟨0,pick ix σ,[],H3,YI h₁ m4 old vR,T.keep _ _ _ sI fun b _ o q=>old b o q,fun b hb=>(f3 b hb).1,w0⟩
  rintro n s5 ⟨i,σ5,ys,H5,I5,CG,Ge,w5⟩
  obtain ⟨OY,vS⟩:=turn i n σ5 ys H5 w5
  rcases vS with ⟨stop,q⟩|⟨go,m',j9,step⟩
  ·refine cp (T.done (aY X pins N scope s3.heap.objs.size s3 H3 fp) rfl rfl rfl hc i [] s5 σ5 H5 (fun _ _=>False) I5 (DL rfl Ge) CG stop) fun r s6 ⟨hr,I6⟩=>?_
   subst hr
   obtain ⟨m6,OZ,_⟩:=I6.loc
   refine⟨m6,OZ,fun h' sb=>?_⟩
   refine⟨.ref acc,H5,I3.oV (ch:=fp) I6.os (I6.base.letGo (aaK _) sb) (I6.aN.letGo I6.free sb) I6.bare fun b hb=>?_,rfl,q⟩
   obtain ⟨f0,f1,GX,Gh,f4,f5⟩:=f3 b hb
   exact⟨Gh,f1,f4,f5⟩
  ·refine cp (T.item (aY X pins N scope s3.heap.objs.size s3 H3 fp) rfl rfl rfl hc i [] s5 σ5 H5 (fun _ _=>False) I5 (DL rfl Ge) CG go) fun r s6 ⟨u,hr,h6⟩=>?_
   subst hr
   refine cp h6 fun _ s7 ⟨x,H7,I7,r7,y7,CJ,O0⟩=>?_
   have O1:=I7.pinned (DL rfl O0) (T.obj _ _ CJ)
   refine cp (hg pins s3.heap.objs.size s3 H3 fp _ s7 σ5 H7 x u _ O1 r7 (step x H7 y7)) fun _ s8 ⟨σ8,H8,I8,q8⟩=>?_
   refine cp (pk (ht pins s3.heap.objs.size s3 H3 fp) I8 q8) fun b s9 ⟨H9,I9,q9⟩=>?_
   have back:∀ {σz:St} {Hz:Hp} {sz:Shared} {yz:List V},Inv (aY X pins N scope s3.heap.objs.size s3 H3 fp) ([]++iy fp s7.heap) σz Hz sz->W (i+1) m' σz yz Hz ->
     ∃ m,m<n/\∃ i σ' ys H',Inv (aY X pins N scope s3.heap.objs.size s3 H3 fp) [] σ' H' sz/\tn i sz.heap/\(∀ b∈fp,H' b=none)/\W i m σ' ys H':=fun {σz Hz sz yz} Iz wz=>by
    refine⟨m',j9,i+1,σz,yz,Hz,Iz.eE,T.keep _ _ _ CJ fun b hb o e=>(Iz.pin (b,o) (aaZ _ (aaZ _ (dg hb e)))).1,fun b hb=>?_,wz⟩
    obtain ⟨o,e,d⟩:=T.obj _ _ CJ b hb
    exact (Iz.pin (b,o) (aaZ _ (aaZ _ (dg hb e)))).2.1
   cases b with
   | false=>exact back I9 q9
   | true =>
    refine cp (he pins s3.heap.objs.size s3 H3 fp _ s9 σ8 H9 _ I9 q9) fun v JK ⟨y,GY,O2,O3,DM,DN,O4⟩=>?_
    refine cp (cB _ JK σ8 GY (.ref acc) [y] (.ref acc) [v] (fun _ H'=>H'=upd GY acc (.lst (ys++[y]))) O2 rfl (.cons O3 .nil) ⟨acc,ys,y,rfl,rfl,DM,DN,rfl⟩) fun _ NH ⟨_,Uc,O5,_,O6⟩=>?_
    subst O6
    exact back O5 O4
 have vR:∃ m,h₁.Ns s3.heap.objs.size m:=⟨_,DJ⟩
 obtain ⟨m4,vR⟩:=vR
 have L:=loop _ ⟨m4,rfl,vR⟩
 exact codeAny_compStart_list L (T.self _ 0 _ _ _ (T.keep _ _ _ sI fun b _ o q=>old b o q) L)
end
end L2
namespace L2
open PySem
theorem cq{a b:Nat}(h:@Ne Nat a b):@Ne Addr a b:=h
def bx(k:Bool)(h:Heap)(a:Addr)(xs:Array Value):Prop:=match k with|true=>h.IsTuple a xs|false=>h.IsList a xs
def i4(k:Bool)(h:Heap)(it a:Addr)(i:Nat):Prop:=match k with|true=>h.IsTupleIter it a i|false=>h.IsListIter it a i
def bD (k:Bool) (a:Addr):Obj:=match k with|true=>{ cls:=.type "tuple_iterator",data:=.fields #[.ref a,.int 0 0] }|false=>{ cls:=.type "list_iterator",data:=.fields #[.ref a,.int 0 0] }
abbrev IsT (h:Heap) (T:Addr) (vs:Array Value):Prop:=h.get? T=some { cls:=.type "tuple",data:=.seq vs }
theorem bx.keep{k:Bool}{h h':Heap}{a:Addr}{xs:Array Value}(x:bx k h a xs)(hk:∀ o,h.get? a=some o->h'.get? a=some o):bx k h' a xs:=by
 cases k with
 | true=>obtain ⟨o,e,r⟩:=x;exact⟨o,hk o e,r⟩
 | false=>obtain ⟨o,e,r⟩:=x;exact⟨o,hk o e,r⟩
theorem i4.keep{k:Bool}{h h':Heap}{it a:Addr}{i:Nat}(x:i4 k h it a i)(hk:∀ o,h.get? it=some o->h'.get? it=some o):i4 k h' it a i:=by
 cases k with
 | true=>obtain ⟨o,e,r⟩:=x;exact⟨o,hk o e,r⟩
 | false=>obtain ⟨o,e,r⟩:=x;exact⟨o,hk o e,r⟩
theorem i4.obj{k:Bool}{h:Heap}{it a:Addr}{i:Nat}(x:i4 k h it a i):∃ o,h.get? it=some o/\∀ v,o.data≠.cell v:=by
 cases k with
 | true=>obtain ⟨o,e,_,d⟩:=x;exact⟨o,e,fun v z=>by rw [d] at z;cases z⟩
 | false=>obtain ⟨o,e,_,d⟩:=x;exact⟨o,e,fun v z=>by rw [d] at z;cases z⟩
theorem bx.lt{k:Bool}{h:Heap}{a:Addr}{xs:Array Value}(x:bx k h a xs):a<h.objs.size:=by
 cases k with
 | true=>obtain ⟨o,e,_⟩:=x;exact aaH e
 | false=>obtain ⟨o,e,_⟩:=x;exact aaH e
theorem ic{k:Bool}{h:Heap}{it a:Addr}(e:h.get? it=some (bD k a)):i4 k h it a 0:=by
 cases k with
 | true=>exact⟨_,e,rfl,rfl⟩
 | false=>exact⟨_,e,rfl,rfl⟩
section
variable {prog:Program}{w:World}{A:Around}{E:Value->Shared->Prop}{s:Shared}
theorem gb{k:Bool}{a:Addr}{xs:Array Value}{Q:Value->Shared->Prop}(h:bx k s.heap a xs)(hQ:Q (.ref s.heap.objs.size) { s with heap:=s.heap.push (bD k a) }):wpAny (model prog w) A (pyIter (.ref a)) Q E s:=by
 cases k with
 | true=>exact wpAny_pyIter_tuple h hQ
 | false=>exact wpAny_pyIter_list h hQ
theorem kZ{it t:Addr}{i:Nat}{items}{x:Value}{Q:Value->Shared->Prop}(hit:s.heap.IsTupleIter it t i)
  (ht:s.heap.IsTuple t items) (hx:items[i]?=some x)
  (hQ:∀ h',h'.IsTupleIter it t (i+1)->Heap.SameBut it s.heap h'->Q x { s with heap:=h' }) :
  wpAny (model prog w) A (Builtin.SmallTypes.nextOf (.ref it)) Q E s:=by
 obtain ⟨o,ho,hc,hd⟩:=id hit
 obtain ⟨ol,Ud,_,nl,Ue⟩:=ht
 unfold Builtin.SmallTypes.nextOf
 refine aaE (wpAny_callSpecial?_slot (name:=Str.ofString "__next__") hit.typeIs F.slot_tuple_iterator_next
  (wpAny_call_entry F.slot_tuple_iterator_next hit.typeIs F.entry_tuple_iterator_next ?_ (F.args_tuple_iterator_next_1 _)))
 show wpAny _ _ (field (.ref it) 0 >>= _) _ _ s
 refine aaE (wpAny_field ho hd (x:=.ref t) rfl ?_)
 show wpAny _ _ (if (Value.ref t == Value.none)=true then _ else _) _ _ s
 rw [if_neg (show ¬ ((Value.ref t == Value.none)=true) from Bool.false_ne_true)]
 show wpAny _ _ (field (.ref it) 1 >>= _) _ _ s
 refine aaE (wpAny_field ho hd (x:=.int i 0) rfl ?_)
 show wpAny _ _ (seqItems? (.ref t) >>= _) _ _ s
 refine aaE (wpAny_seqItems Ud Ue ?_)
 simp only [aby,hx]
 refine aaE (wpAny_setField ho hd (by simp) (aaT ⟨x,rfl,aaT (hQ _ ?_ (Heap.SameBut.update ..))⟩))
 exact⟨_,Heap.get?_update_self _ ho (Obj.isFreed_of_fields (Obj.data_mapFields hd _)),(Obj.cls_mapFields ..).trans hc,by
  rw [Obj.data_mapFields hd];simp [rawInt]⟩
theorem mr{it t:Addr}{i:Nat}{items}{Q:Value->Shared->Prop}(hh:A.handled=none)
  (hit:s.heap.IsTupleIter it t i) (ht:s.heap.IsTuple t items) (hx:items[i]?=none)
  (hE:∀ h' e,Heap.ExtBut it s.heap h'->(∃ o,h'.get? e=some o/\o.cls=.type "StopIteration")->E (.ref e) { s with heap:=h' }) :
  wpAny (model prog w) A (Builtin.SmallTypes.nextOf (.ref it)) Q E s:=by
 obtain ⟨o,ho,hc,hd⟩:=id hit
 obtain ⟨ol,Ud,_,nl,Ue⟩:=ht
 unfold Builtin.SmallTypes.nextOf
 refine aaE (wpAny_callSpecial?_slot (name:=Str.ofString "__next__") hit.typeIs F.slot_tuple_iterator_next
  (wpAny_call_entry F.slot_tuple_iterator_next hit.typeIs F.entry_tuple_iterator_next ?_ (F.args_tuple_iterator_next_1 _)))
 show wpAny _ _ (field (.ref it) 0 >>= _) _ _ s
 refine aaE (wpAny_field ho hd (x:=.ref t) rfl ?_)
 show wpAny _ _ (if (Value.ref t == Value.none)=true then _ else _) _ _ s
 rw [if_neg (show ¬ ((Value.ref t == Value.none)=true) from Bool.false_ne_true)]
 show wpAny _ _ (field (.ref it) 1 >>= _) _ _ s
 refine aaE (wpAny_field ho hd (x:=.int i 0) rfl ?_)
 show wpAny _ _ (seqItems? (.ref t) >>= _) _ _ s
 refine aaE (wpAny_seqItems Ud Ue ?_)
 simp only [aby,hx]
 refine aaE (wpAny_rule (aaE (wpAny_setField ho hd (by simp) ?_)))
 show wpAny _ _ (newExc (.type "StopIteration") [] >>= _) _ _ _
 refine aaE ?_
 simp only [newExc,newTuple]
 refine aaE (wpAny_newObj_type ?_ (by size_fits))
 refine aaE (m:=firstArgMember _ _) (wpAny_of_eq (a:=Value.none) (by first|rfl|(simp only [firstArgMember];rfl)) ?_)
 refine wpAny_newObj_type ?_ (by size_fits)
 simp only [raiseNew]
 refine aaE (wpAny_handled ?_)
 first|rw [show A.in1.handled=none from hh]|rw [hh]
 refine aaE (aaT (wpAny_throw ?_))
 exact hE _ _ (((Heap.SameBut.update ..).extBut.push _).push _) ⟨_,aaI _ rfl,rfl⟩
theorem gc{k:Bool}{it a:Addr}{i:Nat}{xs:Array Value}{x:Value}{Q:Value->Shared->Prop}(hit:i4 k s.heap it a i)(hs:bx k s.heap a xs)(hx:xs[i]?=some x)
  (hQ:∀ h',i4 k h' it a (i+1)->Heap.SameBut it s.heap h'->Q x { s with heap:=h' }):wpAny (model prog w) A (Builtin.SmallTypes.nextOf (.ref it)) Q E s:=by
 cases k with
 | true=>exact kZ hit hs hx hQ
 | false=>exact wpAny_nextOf_list_item hit hs hx hQ
theorem oG{k:Bool}{it a:Addr}{i:Nat}{xs:Array Value}{Q:Value->Shared->Prop}(hh:A.handled=none)(hit:i4 k s.heap it a i)(hs:bx k s.heap a xs)(hx:xs[i]?=none)
  (hE:∀ h' e,Heap.ExtBut it s.heap h'->(∃ o,h'.get? e=some o/\o.cls=.type "StopIteration")->E (.ref e) { s with heap:=h' }):wpAny (model prog w) A (Builtin.SmallTypes.nextOf (.ref it)) Q E s:=by
 cases k with
 | true=>exact mr hh hit hs hx hE
 | false=>exact wpAny_nextOf_list_end hh hit hs hx hE
theorem jD{T:Addr}{vs:Array Value}{x:Value}{k:Nat}{Q:Unit->Shared->Prop}(hT:IsT s.heap T vs)(hz:vs.size<=8)
  (h:∀ h',IsT h' T (vs.setIfInBounds k x)->Heap.SameBut T s.heap h'->Q () { s with heap:=h' }):wpAny (model prog w) A (updateSeq T (·.setIfInBounds k x)) Q E s:=by
 have JL:vs.size<=sizeLine:=aaJ hz (by decide)
 refine wpAny_updateSeq (hz:=JL) (_hz':=by simp only [Array.size_setIfInBounds];lia) hT rfl (h _ ?_ (Heap.SameBut.update ..))
 show (s.heap.update T _).get? T=_
 rw [Heap.get?_update_self _ hT rfl]
 simp [Obj.mapSeq]
structure vT(k1 k2:Bool)(n a b:Nat)(i:Nat)(f0:Value)(h:Heap):Prop where
 z:IsZip h (n+4) (n+2) (n+3) f0
 ti:IsT h (n+2) #[.ref n,.ref (n+1)]
 to:∃ u v,IsT h (n+3) #[u,v]
 i1:i4 k1 h n a i
 i2:i4 k2 h (n+1) b i
def Off(l:List Addr)(h h':Heap):Prop:=∀ c o,c∉l->h.get? c=some o->h'.get? c=some o
theorem Off.of{c:Addr}{l:List Addr}{h h':Heap}(s:Heap.SameBut c h h')(hc:c∈l):Off l h h':=fun b o hb e=>(s.2 b fun z=>hb (z ▸ hc)).trans e
theorem Off.trans{l:List Addr}{h h1 h2:Heap}(a:Off l h h1)(b:Off l h1 h2):Off l h h2:=fun c o hc e=>b c o hc (a c o hc e)
theorem Off.push{l:List Addr}{h:Heap}(o:Obj):Off l h (h.push o):=fun _ _ _ e=>aaD _ e
theorem Ba{k1 k2:Bool}{n a b:Nat}{i:Nat}{xs ys:Array Value}{x y:Value}{Q:Value->Shared->Prop}(Z:vT k1 k2 n a b i .none s.heap)(ha:a<n)(hb:b<n)
  (h1:bx k1 s.heap a xs) (h2:bx k2 s.heap b ys) (hx:xs[i]?=some x) (hy:ys[i]?=some y)
  (hQ:∀ h',vT k1 k2 n a b (i+1) (rawInt s.heap.objs.size) h'->IsT h' s.heap.objs.size #[x,y]->h'.objs.size=s.heap.objs.size+1->Off [n,n+1,n+3,n+4] s.heap h'->Q (.ref s.heap.objs.size) { s with heap:=h' }) :
  wpAny (model prog w) A (Builtin.«zip.__next__» ⟨[.ref (n+4)],[]⟩) (fun fin s'=>∃ v,fin=.done (.ret v)/\Q v s') E s:=by
 obtain ⟨hz,vU,⟨u,v,Ag⟩,vD,nM⟩:=Z
 show wpAny _ _ (field (.ref (n+4)) 2 >>= _) _ _ _
 refine aaE (wpAny_field hz rfl (x:=.bool false) rfl ?_)
 show wpAny _ _ (field (.ref (n+4)) 3 >>= _) _ _ _
 refine aaE (wpAny_field hz rfl (x:=.ref (n+2)) rfl ?_)
 refine aaE (wpAny_seqItems vU rfl ?_)
 show wpAny _ _ (Builtin.SmallTypes.ownedTupleIsFree (.ref (n+4)) >>= _) _ _ _
 refine aaE ?_
 unfold Builtin.SmallTypes.ownedTupleIsFree
 refine aaE (wpAny_field hz rfl (x:=.none) rfl (aaT ?_))
 simp only [if_true]
 refine aaE (wpAny_rule ?_)
 refine aaE (wpAny_field hz rfl (x:=.ref (n+3)) rfl ?_)
 refine aaE (wpAny_setField_rec hz (by simp) fun g1 xJ kK=>?_)
 replace xJ:IsZip g1 (n+4) (n+2) (n+3) .ellipsis:=xJ
 refine aaE ?_
 simp only [zipIdx_cons,zipIdx_nil,forIn_cons,forIn_nil]
 refine aaE (aaE (wpAny_onRaise ?_))
 show wpAny _ _ (Builtin.SmallTypes.nextOf (.ref n) >>= _) _ _ _
 refine aaE (gc (vD.keep fun o e=>(kK.2 _ (cq (by lia))).trans e) (h1.keep fun o e=>(kK.2 _ (cq (by lia))).trans e) hx fun g2 GZ eL=>aaT ?_)
 have vV:IsT g2 (n+3) #[u,v]:=(eL.2 _ (cq (by lia))).trans ((kK.2 _ (cq (by lia))).trans Ag)
 refine aaE (wpAny_seqItems vV rfl ?_)
 refine aaE (jD vV (by simp) fun g3 vW qQ=>?_)
 replace vW:IsT g3 (n+3) #[x,v]:=vW
 refine aaE (wpAny_letGo (aaT ?_))
 refine aaE (aaE (wpAny_onRaise ?_))
 show wpAny _ _ (Builtin.SmallTypes.nextOf (.ref (n+1)) >>= _) _ _ _
 refine aaE (gc (nM.keep fun o e=>(qQ.2 _ (cq (by lia))).trans ((eL.2 _ (cq (by lia))).trans ((kK.2 _ (cq (by lia))).trans e))) (h2.keep fun o e=>(qQ.2 _ (cq (by lia))).trans ((eL.2 _ (cq (by lia))).trans ((kK.2 _ (cq (by lia))).trans e))) hy fun g4 Lj CK=>aaT ?_)
 have DO:IsT g4 (n+3) #[x,v]:=(CK.2 _ (cq (by lia))).trans vW
 refine aaE (wpAny_seqItems DO rfl ?_)
 refine aaE (jD DO (by simp) fun g5 vX Gi=>?_)
 replace vX:IsT g5 (n+3) #[x,y]:=vX
 refine aaE (wpAny_letGo (aaT (aaT ?_)))
 refine aaE (wpAny_seqItems vX rfl ?_)
 refine aaE (wpAny_newTuple ?_)
 have jc:g5.objs.size=s.heap.objs.size:=by rw [Gi.1,CK.1,qQ.1,eL.1,kK.1]
 have SE:IsZip g5 (n+4) (n+2) (n+3) .ellipsis:=(Gi.2 _ (cq (by lia))).trans ((CK.2 _ (cq (by lia))).trans ((qQ.2 _ (cq (by lia))).trans ((eL.2 _ (cq (by lia))).trans xJ)))
 have O7:Off [n,n+1,n+3,n+4] s.heap g5:=((((Off.of kK (by simp)).trans (Off.of eL (by simp))).trans (Off.of qQ (by simp))).trans (Off.of CK (by simp))).trans (Off.of Gi (by simp))
 have DP:n+4<g5.objs.size:=aaH SE
 show wpAny _ _ (Builtin.SmallTypes.ownedTupleHandOut (.ref (n+4)) (.ref g5.objs.size) >>= _) _ _ _
 refine aaE ?_
 unfold Builtin.SmallTypes.ownedTupleHandOut
 have hz6:IsZip (g5.push { cls:=.type "tuple",data:=.seq #[x,y] }) (n+4) (n+2) (n+3) .ellipsis:=aaD _ SE
 refine aaE (wpAny_setField_rec hz6 (by simp) fun g7 NI G1=>?_)
 replace NI:IsZip g7 (n+4) (n+2) (n+3) (rawInt g5.objs.size):=NI
 refine wpAny_setField_rec NI (by simp) fun g8 NJ Ug=>?_
 replace NJ:IsZip g8 (n+4) (n+2) (n+3) (rawInt g5.objs.size):=NJ
 have up:∀ c o,c≠n+4->g5.get? c=some o->g8.get? c=some o:=fun c o c1 e=>(Ug.2 _ c1).trans ((G1.2 _ c1).trans (aaD _ e))
 have hT8:IsT g8 g5.objs.size #[x,y]:=(Ug.2 _ (Nat.ne_of_gt DP)).trans ((G1.2 _ (Nat.ne_of_gt DP)).trans (aaI _ rfl))
 have O8:g8.objs.size=g5.objs.size+1:=by rw [Ug.1,G1.1,Heap.size_push]
 rw [jc] at NJ hT8 O8
 refine aaT ⟨_,rfl,?_⟩
 show Q (.ref g5.objs.size) _
 rw [jc]
 refine hQ g8 ⟨NJ,up _ _ (cq (by lia)) (O7 _ _ (by simp) vU),⟨x,y,up _ _ (cq (by lia)) vX⟩,?_,?_⟩ hT8 O8 fun c o hc e=>?_
 ·exact GZ.keep fun o e=>up _ o (cq (by lia)) ((Gi.2 _ (cq (by lia))).trans ((CK.2 _ (cq (by lia))).trans ((qQ.2 _ (cq (by lia))).trans e)))
 ·exact Lj.keep fun o e=>up _ o (cq (by lia)) ((Gi.2 _ (cq (by lia))).trans e)
 ·exact up c o (fun z=>hc (by simp [z])) (O7 c o hc e)
theorem Bb{k1 k2:Bool}{n a b:Nat}{i:Nat}{xs ys:Array Value}{Q:Fin->Shared->Prop}(hh:A.handled=none)(Z:vT k1 k2 n a b i .none s.heap)(ha:a<n)(hb:b<n)
  (h1:bx k1 s.heap a xs) (h2:bx k2 s.heap b ys) (yn:xs[i]?=none\/ys[i]?=none)
  (hE:∀ h' e,Off [n,n+1,n+3,n+4] s.heap h'->(∃ o,h'.get? e=some o/\o.cls=.type "StopIteration")->E (.ref e) { s with heap:=h' }) :
  wpAny (model prog w) A (Builtin.«zip.__next__» ⟨[.ref (n+4)],[]⟩) Q E s:=by
 obtain ⟨hz,vU,⟨u,v,Ag⟩,vD,nM⟩:=Z
 show wpAny _ _ (field (.ref (n+4)) 2 >>= _) _ _ _
 refine aaE (wpAny_field hz rfl (x:=.bool false) rfl ?_)
 show wpAny _ _ (field (.ref (n+4)) 3 >>= _) _ _ _
 refine aaE (wpAny_field hz rfl (x:=.ref (n+2)) rfl ?_)
 refine aaE (wpAny_seqItems vU rfl ?_)
 show wpAny _ _ (Builtin.SmallTypes.ownedTupleIsFree (.ref (n+4)) >>= _) _ _ _
 refine aaE ?_
 unfold Builtin.SmallTypes.ownedTupleIsFree
 refine aaE (wpAny_field hz rfl (x:=.none) rfl (aaT ?_))
 simp only [if_true]
 refine aaE (wpAny_rule ?_)
 refine aaE (wpAny_field hz rfl (x:=.ref (n+3)) rfl ?_)
 refine aaE (wpAny_setField_rec hz (by simp) fun g1 xJ kK=>?_)
 replace xJ:IsZip g1 (n+4) (n+2) (n+3) .ellipsis:=xJ
 refine aaE ?_
 simp only [zipIdx_cons,zipIdx_nil,forIn_cons,forIn_nil]
 refine aaE (aaE (wpAny_onRaise ?_))
 show wpAny _ _ (Builtin.SmallTypes.nextOf (.ref n) >>= _) _ _ _
 have fin:∀ {g h':Heap} {e:Addr},IsZip g (n+4) (n+2) (n+3) .ellipsis->(∃ o,g.get? e=some o/\o.cls=.type "StopIteration")->Off [n,n+1,n+3,n+4] s.heap g->∀ s':Shared,s'={ s with heap:=g } ->
   wpAny (model prog w) A (setField (.ref (n+4)) 0 .none) (fun _ s'=>E (.ref e) s') E s':=by
  intro g h' e hzg ⟨oe,Lk,O9⟩ off s' es
  subst es
  have Uh:e≠n+4:=fun z=>by subst z;rw [hzg] at Lk;cases Lk;simp at O9
  exact wpAny_setField_rec hzg (by simp) fun g9 _ G2=>hE g9 e (off.trans (Off.of G2 (by simp))) ⟨oe,(G2.2 _ Uh).trans Lk,O9⟩
 cases hx:xs[i]? with
 | none =>
  refine aaE (oG hh (vD.keep fun o e=>(kK.2 _ (cq (by lia))).trans e) (h1.keep fun o e=>(kK.2 _ (cq (by lia))).trans e) hx fun g2 e eL he=>?_)
  exact fin (h':=g2) (eL _ _ (cq (by lia)) xJ) he ((Off.of kK (by simp)).trans fun c o hc q=>eL c o (fun z=>hc (by simp [z])) q) _ rfl
 | some x =>
  have hy:ys[i]?=none:=by rcases yn with h|h;rw [hx] at h;cases h;exact h
  refine aaE (gc (vD.keep fun o e=>(kK.2 _ (cq (by lia))).trans e) (h1.keep fun o e=>(kK.2 _ (cq (by lia))).trans e) hx fun g2 GZ eL=>aaT ?_)
  have vV:IsT g2 (n+3) #[u,v]:=(eL.2 _ (cq (by lia))).trans ((kK.2 _ (cq (by lia))).trans Ag)
  refine aaE (wpAny_seqItems vV rfl ?_)
  refine aaE (jD vV (by simp) fun g3 vW qQ=>?_)
  refine aaE (wpAny_letGo (aaT ?_))
  refine aaE (aaE (wpAny_onRaise ?_))
  show wpAny _ _ (Builtin.SmallTypes.nextOf (.ref (n+1)) >>= _) _ _ _
  refine aaE (oG hh (nM.keep fun o e=>(qQ.2 _ (cq (by lia))).trans ((eL.2 _ (cq (by lia))).trans ((kK.2 _ (cq (by lia))).trans e))) (h2.keep fun o e=>(qQ.2 _ (cq (by lia))).trans ((eL.2 _ (cq (by lia))).trans ((kK.2 _ (cq (by lia))).trans e))) hy fun g4 e CK he=>?_)
  exact fin (h':=g4) (CK _ _ (cq (by lia)) ((qQ.2 _ (cq (by lia))).trans ((eL.2 _ (cq (by lia))).trans xJ))) he ((((Off.of kK (by simp)).trans (Off.of eL (by simp))).trans (Off.of qQ (by simp))).trans fun c o hc q=>CK c o (fun z=>hc (by simp [z])) q) _ rfl
theorem vY{k1 k2:Bool}{n a b:Nat}{i:Nat}{xs ys:Array Value}{x y:Value}{Q:Option Value->Shared->Prop}(Z:vT k1 k2 n a b i .none s.heap)(ha:a<n)(hb:b<n)
  (h1:bx k1 s.heap a xs) (h2:bx k2 s.heap b ys) (hx:xs[i]?=some x) (hy:ys[i]?=some y)
  (hQ:∀ h',vT k1 k2 n a b (i+1) (rawInt s.heap.objs.size) h'->IsT h' s.heap.objs.size #[x,y]->h'.objs.size=s.heap.objs.size+1->Off [n,n+1,n+3,n+4] s.heap h'->Q (some (.ref s.heap.objs.size)) { s with heap:=h' }) :
  wpAny (model prog w) A (pyNext (.ref (n+4))) Q E s:=by
 have hT:s.TypeIs (.ref (n+4)) "zip":=⟨_,Z.z,rfl⟩
 unfold pyNext
 exact aaE (wpAny_attempt (wpAny_callSpecial?_slot (name:=Str.ofString "__next__") hT F.slot_zip_next
  (wpAny_call_entry F.slot_zip_next hT F.entry_zip_next
   (Ba Z ha hb h1 h2 hx hy fun h' a1 a2 a3 a4=>aaT (hQ h' a1 a2 a3 a4)) (F.args_zip_next_1 _))))
theorem oa{k1 k2:Bool}{n a b:Nat}{i:Nat}{xs ys:Array Value}{Q:Option Value->Shared->Prop}(hh:A.handled=none)(Z:vT k1 k2 n a b i .none s.heap)(ha:a<n)(hb:b<n)
  (h1:bx k1 s.heap a xs) (h2:bx k2 s.heap b ys) (yn:xs[i]?=none\/ys[i]?=none)
  (hQ:∀ h',Off [n,n+1,n+3,n+4] s.heap h'->Q none { s with heap:=h' }):wpAny (model prog w) A (pyNext (.ref (n+4))) Q E s:=by
 have hT:s.TypeIs (.ref (n+4)) "zip":=⟨_,Z.z,rfl⟩
 unfold pyNext
 refine aaE (wpAny_attempt (wpAny_callSpecial?_slot (name:=Str.ofString "__next__") hT F.slot_zip_next
  (wpAny_call_entry F.slot_zip_next hT F.entry_zip_next (Bb (A:=A.in1) hh Z ha hb h1 h2 yn fun h' e hk he=>?_) (F.args_zip_next_1 _))))
 obtain ⟨o,ho,hc⟩:=he
 refine aaE (wpAny_isInstance (T:="StopIteration") (b:=true) ⟨o,ho,hc⟩ isSubtype_stop ?_)
 exact aaT (hQ _ hk)
end
abbrev JM (k1 k2:Bool) (h:Heap) (a b:Addr):Heap:=((((h.push (bD k1 a)).push (bD k2 b)).push { cls:=.type "tuple",data:=.seq #[.ref h.objs.size,.ref (h.objs.size+1)] }).push { cls:=.type "tuple",data:=.seq #[.none,.none] }).push
 { cls:=.type "zip",data:=.fields #[.none,.bool false,.bool false,.ref (h.objs.size+2),.ref (h.objs.size+3)] }
theorem Bc(k1 k2:Bool)(a b:Addr)(xs ys:Array Value) :
  Meets (Builtin.«zip.__new__» ⟨[.type "zip",.ref a,.ref b],[]⟩) (fun _ R s=>bx k1 s.heap a xs/\bx k2 s.heap b ys /\
   R (.ok (.ret (.ref (s.heap.objs.size+4)))) { s with heap:=JM k1 k2 s.heap a b }) :=
 .of_wp fun prog w A R s h=>by
  obtain ⟨hp,g,d,tk,os⟩:=s;obtain ⟨NK,Sz,h⟩:=h
  have DQ:=sub_zip
  have Ui:bx k1 (Shared.heap ⟨hp,g,d,tk,os⟩) a xs:=NK
  have Uj:bx k2 (Shared.heap ⟨hp.push (bD k1 a),g,d,tk,os⟩) b ys:=bx.keep Sz fun o e=>aaD _ e
  wp_walk using gb Ui,gb Uj
  refine⟨_,rfl,?_⟩
  simp only [Heap.size_push]
  exact h
open PySem PySem.Spec PyProof.Rows
def Sq(k:Bool)(K:Frag)(H:Hp)(a:Addr)(xs:List V):Prop:=match k with|true=>aR K H a xs|false=>aW K H a xs
section
variable {X:Cx}{pins:List (Addr×Obj)}{σ:St}{H H':Hp}{s:Shared}
theorem Inv.sq{k:Bool}{a:Addr}{xs:List V}(I:Inv X pins σ H s)(h:Sq k X.K H a xs):∃ its:List Value,Vals xs its/\bx k s.heap a its.toArray/\xs.length<=sizeLine:=by
 cases k with
 | true=>exact I.tuple h
 | false =>
  obtain ⟨its,r,p,z⟩:=I.list h
  exact⟨its,r,p.isList,z⟩
theorem Inv.my{k:Bool}{a:Addr}{xs ys:List V}(I:Inv X pins σ H s)(h:Sq k X.K H a xs)(h':Sq k X.K H a ys):xs=ys:=by
 cases k with
 | true=>exact I.sG h h'
 | false=>exact I.vK h h'
theorem Inv.off{h':Heap}{t':Nat}{ch:List Addr}(I:Inv X pins σ H s)(hf:∀ b∈ch,j7 X pins H b)(off:Off ch s.heap h')(aN:ft X.prog X.w H' h')
  (free:∀ b o,b∉ch->s.heap.get? b=some o->H b=none->H' b=none) (same:∀ b o,H b=some o->H' b=some o):Inv X pins σ H' { s with heap:=h',toks:=t' }:=by
 refine I.step (g':=s.gens) (d':=s.drawn) (ch:=ch) (fun b hb=>?_) (fun b o _ _ hc e _=>off b o hc e) (fun b o _ _ hc e _=>⟨o.slots,off b o hc e⟩) (fun b o hc e n=>free b o hc e n) (fun b o hc e=>⟨o,off b o hc e⟩)
  (fun b xs e=>same b _ e) (fun b o u e=>same b _ e) (fun b ps e=>⟨#[],by rw [same b _ e];simp⟩) (fun m hm=>?_) aN I.bare
 ·obtain ⟨f0,f1,f2,f3,f4,f5⟩:=hf b hb
  exact⟨f3,f1,f4,f5⟩
 ·obtain ⟨o,es,ep,ho,r⟩:=hm
  exact⟨o,es,ep,off _ o (fun z=>(hf _ z).2.1 rfl) ho,r⟩
theorem ft.off{P:Program}{w:World}{h h':Heap}{ch:List Addr}(x:ft P w H h)(hn:∀ b∈ch,H b=none)(off:Off ch h h'):ft P w H h':=fun a o e=>by
 have na:∀ b u,H b=some u->b∉ch:=fun b u q z=>by rw [hn b z] at q;cases q
 refine (x a o e).kN (fun b u hb q=>off b u ?_ q) (fun _ q=>q) fun _ _ q=>q
 rcases hb with rfl|hb
 ·exact na _ _ e
 ·exact na _ _ hb
theorem ft.yp{P:Program}{w:World}{h h':Heap}{ch:List Addr}{T:Addr}{ob:HO}(x:ft P w H h)(hn:∀ b∈ch,H b=none)(off:Off ch h h')(hT:h.objs.size<=T)(new:dv P w (upd H T ob) h' T ob):ft P w (upd H T ob) h':=fun a o e=>by
 have yq:=x.fresh hT
 have na:∀ b u,H b=some u->b∉ch:=fun b u q z=>by rw [hn b z] at q;cases q
 by_cases ha:a=T
 ·subst ha;rw [aw] at e;cases e;exact new
 ·rw [au ha] at e
  refine (x a o e).kN (fun b u hb q=>off b u ?_ q) (fun c q=>by rw [au (aF q yq)];exact q) fun c xs q=>by rw [au (aF q yq)];exact q
  rcases hb with rfl|hb
  ·exact na _ _ e
  ·exact na _ _ hb
end
theorem Ah{c:Addr}{n:Nat}(z:c∈([n,n+1,n+3,n+4]:List Addr)):c∈([n+4,n+2,n+3,n,n+1]:List Addr):=by
 simp only [aa7,not_mem_nil,or_false] at z ⊢
 rcases z with h|h|h|h <;> simp [h]
def Ll(K : Frag)(k1 k2 : Bool)(a b : Addr) : It :=
  ⟨fun i H => ∃ xs ys x y, Sq k1 K H a xs /\ Sq k2 K H b ys /\ xs[i]?=some x /\ ys[i]?=some y,
   fun i H v H' => ∃ p x y, v=.ref p /\ H p=none /\ (∀ xs, Sq k1 K H a xs -> xs[i]?=some x) /\ (∀ ys, Sq k2 K H b ys -> ys[i]?=some y) /\ H'=upd H p (.tup [x, y]),
   fun i H => ∃ xs ys, Sq k1 K H a xs /\ Sq k2 K H b ys /\ (xs.length <= i \/ ys.length <= i)⟩
theorem Bd{P:Program}{w:World}{K:Frag}{es:List Expr}{kk:Nat}{pos:Pos}{k1 k2:Bool}(n a b:Nat)(ha:a<n)(hb:b<n) :
  Turn P w K (.Tuple es kk pos) (Ll K k1 k2 a b) [n+4,n+2,n+3,n,n+1] (n+4) (fun i h=>vT k1 k2 n a b i .none h) where
 mem:=by simp
 obj:=fun i h st c hc=>by
  obtain ⟨hz,vU,⟨u,v,Ag⟩,vD,nM⟩:=st
  simp only [aa7,not_mem_nil,or_false] at hc
  rcases hc with rfl|rfl|rfl|rfl|rfl
  ·exact⟨_,hz,fun v z=>nomatch z⟩
  ·exact⟨_,vU,fun v z=>nomatch z⟩
  ·exact⟨_,Ag,fun v z=>nomatch z⟩
  ·exact vD.obj
  ·exact nM.obj
 keep:=fun i h h' st k=>by
  obtain ⟨hz,vU,⟨u,v,Ag⟩,vD,nM⟩:=st
  exact⟨k _ (by simp) _ hz,k _ (by simp) _ vU,⟨u,v,k _ (by simp) _ Ag⟩,vD.keep fun o e=>k _ (by simp) o e,nM.keep fun o e=>k _ (by simp) o e⟩
 item:=by
  intro X hP hw hK hc i pins s σ H E I hf st hg
  subst hP hw hK
  obtain ⟨xs,ys,x,y,qx,qy,ex,ey⟩:=hg
  obtain ⟨DR,r1,s1,_⟩:=I.sq qx
  obtain ⟨NL,r2,s2,_⟩:=I.sq qy
  obtain ⟨u,hu,ru⟩:=r1.get ex
  obtain ⟨v,hv,rv⟩:=r2.get ey
  refine vY st ha hb s1 s2 (x:=u) (y:=v) (by simpa using hu) (by simpa using hv) fun h' Z hT jc off=>⟨_,rfl,?_⟩
  have yq:H s.heap.objs.size=none:=I.aN.fresh (aaK _)
  have Pa:n+4<s.heap.objs.size:=aaH st.z
  refine wpAny_letOwnedTupleGo_zip Z.z fun h2 JL eL=>?_
  have jj:Off [n+4,n+2,n+3,n,n+1] s.heap h2:=fun c o hc e=>(eL.2 c fun z=>hc (by simp [z])).trans (off c o (fun z=>hc (Ah z)) e)
  have qR:IsT h2 s.heap.objs.size #[u,v]:=(eL.2 _ (Nat.ne_of_gt Pa)).trans hT
  refine⟨.ref s.heap.objs.size,upd H s.heap.objs.size (.tup [x,y]),?_,rfl,⟨_,x,y,rfl,yq,fun zs DS=>by rw [I.my DS qx];exact ex,fun zs DS=>by rw [I.my DS qy];exact ey,rfl⟩,?_,fun c hc=>?_⟩
  ·refine Inv.off (s:=s) (h':=h2) (t':=s.toks) (ch:=[n+4,n+2,n+3,n,n+1]) I hf jj (I.aN.yp (fun c hc=>(hf c hc).1) jj (aaK _) ?_) (fun c o _ e hn=>?_) fun c o e=>?_
   ·exact⟨by show 2<=sizeLine;decide,[u,v],.cons ru (.cons rv .nil),⟨_,qR,rfl,_,rfl⟩⟩
   ·rw [au (abt (aaH e))];exact hn
   ·rw [au (aF e yq)];exact e
  ·obtain ⟨z1,z2,⟨a1,a2,z3⟩,z4,z5⟩:=Z
   exact⟨JL,(eL.2 _ (cq (by lia))).trans z2,⟨a1,a2,(eL.2 _ (cq (by lia))).trans z3⟩,z4.keep fun o e=>(eL.2 _ (cq (by lia))).trans e,z5.keep fun o e=>(eL.2 _ (cq (by lia))).trans e⟩
  ·have cn:c≠s.heap.objs.size:=by
    simp only [aa7,not_mem_nil,or_false] at hc
    rcases hc with rfl|rfl|rfl|rfl|rfl <;> exact cq (by lia)
   rw [au cn];exact (hf c hc).1
 done:=by
  intro X hP hw hK hc i pins s σ H E I hf st hg
  subst hP hw hK
  obtain ⟨xs,ys,qx,qy,yn⟩:=hg
  obtain ⟨DR,r1,s1,_⟩:=I.sq qx
  obtain ⟨NL,r2,s2,_⟩:=I.sq qy
  have e1:=r1.length
  have e2:=r2.length
  refine oa (I.ok.hd hc) st ha hb s1 s2 ?_ fun h' off=>⟨rfl,?_⟩
  ·rcases yn with z|z
   ·exact .inl (by simp;lia)
   ·exact .inr (by simp;lia)
  ·have jj:Off [n+4,n+2,n+3,n,n+1] s.heap h':=fun c o hc e=>off c o (fun z=>hc (Ah z)) e
   exact Inv.off (s:=s) (t':=s.toks) I hf jj (I.aN.off (fun c hc=>(hf c hc).1) jj) (fun _ _ _ _ q=>q) fun _ _ q=>q
 self:=fun _ _ _ _ _ st h=>wpAny_pyIter_zip st.z h
section
variable {X:Cx}
def DT(K:Frag)(k1 k2:Bool)(ta:TA):TI:=fun σ H R=>ta σ H fun vs H1=>∃ a b,vs=[.ref a,.ref b]/\(∃ xs,Sq k1 K H1 a xs)/\(∃ ys,Sq k2 K H1 b ys)/\R (Ll K k1 k2 a b) H1
theorem G3 (k1 k2:Bool) {es:List Expr} {kk:Nat} {nZ:Pos} {a b:Expr} {ta:TA} {p pos:Pos} (hg:Gl X "zip") (hm:X.mg "zip"=none) (ha:PA X [a,b] ta) (hs:starEach [a,b] X.env=[(false,eval a X.env),(false,eval b X.env)]:=by rfl) (eL:starEach [b] X.env=[(false,eval b X.env)]:=by rfl) :
  PI X (.Tuple es kk nZ) (.Call (.Name "zip" p) [a,b] [] pos) (DT X.K k1 k2 ta):=by
 intro pins s σ H R I h
 refine Call_ (iu I hg hm boot_zip (callWith_type1 (cp (ha pos pins s σ H _ I h) fun us s1 ⟨vs,H1,I1,r1,q1⟩=>?_) (by rw [hs,eL]) (by rw [eL];rfl)))
 obtain ⟨a',b',e,⟨xs,qx⟩,⟨ys,qy⟩,q⟩:=q1
 subst e
 obtain ⟨u,v,rfl,ru,rv⟩:=vals2 r1
 cases ru
 cases rv
 obtain ⟨DR,r1,JN,_⟩:=I1.sq qx
 obtain ⟨NL,r2,Pb,_⟩:=I1.sq qy
 refine callType_new PySem.F.called_zip (by decide) (PySem.F.typeCall_zip_2 _ _) (PySem.F.newCall_zip_2 _ _) (fun obj=>PySem.F.args_object_init_3 obj _ _) PySem.F.entry_zip_new (Bc k1 k2 a' b' DR.toArray NL.toArray) ⟨JN,Pb,?_⟩
 have z1:(s1.heap.push (bD k1 a')).objs.size=s1.heap.objs.size+1:=Heap.size_push ..
 have z2:((s1.heap.push (bD k1 a')).push (bD k2 b')).objs.size=s1.heap.objs.size+2:=by rw [Heap.size_push,z1]
 have z3:(((s1.heap.push (bD k1 a')).push (bD k2 b')).push { cls:=.type "tuple",data:=.seq #[.ref s1.heap.objs.size,.ref (s1.heap.objs.size+1)] }).objs.size=s1.heap.objs.size+3:=by rw [Heap.size_push,z2]
 have z4:((((s1.heap.push (bD k1 a')).push (bD k2 b')).push { cls:=.type "tuple",data:=.seq #[.ref s1.heap.objs.size,.ref (s1.heap.objs.size+1)] }).push { cls:=.type "tuple",data:=.seq #[.none,.none] }).objs.size=s1.heap.objs.size+4:=by rw [Heap.size_push,z3]
 have g5:(JM k1 k2 s1.heap a' b').get? (s1.heap.objs.size+4)=some { cls:=.type "zip",data:=.fields #[.none,.bool false,.bool false,.ref (s1.heap.objs.size+2),.ref (s1.heap.objs.size+3)] }:=by rw [<- z4];exact aaI _ rfl
 have g4:(JM k1 k2 s1.heap a' b').get? (s1.heap.objs.size+3)=some { cls:=.type "tuple",data:=.seq #[.none,.none] }:=by rw [<- z3];exact aaD _ (aaI _ rfl)
 have g3:(JM k1 k2 s1.heap a' b').get? (s1.heap.objs.size+2)=some { cls:=.type "tuple",data:=.seq #[.ref s1.heap.objs.size,.ref (s1.heap.objs.size+1)] }:=by rw [<- z2];exact aaD _ (aaD _ (aaI _ rfl))
 have g2:(JM k1 k2 s1.heap a' b').get? (s1.heap.objs.size+1)=some (bD k2 b'):=by rw [<- z1];exact aaD _ (aaD _ (aaD _ (aaI _ (by cases k2 <;> rfl))))
 have g1:(JM k1 k2 s1.heap a' b').get? s1.heap.objs.size=some (bD k1 a'):=aaD _ (aaD _ (aaD _ (aaD _ (aaI _ (by cases k1 <;> rfl)))))
 have old:∀ c o,s1.heap.get? c=some o->(JM k1 k2 s1.heap a' b').get? c=some o:=fun c o x=>aaD _ (aaD _ (aaD _ (aaD _ (aaD _ x))))
 have Z:vT k1 k2 s1.heap.objs.size a' b' 0 .none (JM k1 k2 s1.heap a' b'):=⟨g5,g3,⟨_,_,g4⟩,ic g1,ic g2⟩
 show _/\_
 refine⟨⟨_,g5,rfl⟩,wpAny_pyIter_zip Z.z ?_⟩
 refine⟨_,_,_,_,H1,rfl,I1.kept (t':=s1.toks) old,Bd s1.heap.objs.size a' b' JN.lt Pb.lt,Z,fun c hc=>?_,q⟩
 have pG:s1.heap.objs.size<=c:=by
  simp only [aa7,not_mem_nil,or_false] at hc
  rcases hc with rfl|rfl|rfl|rfl|rfl <;> first|exact le_add_right _ _|exact aaK _
 exact I1.t7 pG (I1.aN.fresh pG)
end
def pH(i:Int):Nat:=Builtin.Int.intBits i
def Pc(i j:Int):Prop:=0<j/\j.natAbs.log2<9000
section
variable {X:Cx}
theorem vZ:jb X (binaryOp .FloorDiv) (rI Pc fun i j=>.int (i / j)):=NF fun i j _ _ _ _ _ hc q=>by
 have h1:(0:Int)<j:=hc.1
 exact floordiv_int (by lia) (by rw [aaX i (by lia)];exact q) (.inl (PyProof.noPylong_of_log2 hc.2))
def TyR (K:Frag) (H:Hp) (x:V) (t:Value):Prop:=mj K H x t\/(∃ a xs,x=.ref a/\aR K H a xs/\t=.type "tuple")\/(∃ a xs,x=.ref a/\aW K H a xs/\t=.type "list")
theorem v5:dc X (.builtin "isinstance") (fun xs H Q=>∃ x n t b,xs=[x,.ty n]/\TyR X.K H x t/\PySem.W.kitOne X.K t (.type n)=some b/\Q (.bl b) H):=by
 intro pins s σ H xs us Q I r h
 obtain ⟨x,n,t,b,rfl,ty,e,q⟩:=h
 obtain ⟨u,c,rfl,ru,rc⟩:=vals2 r
 obtain rfl:c=Value.type n:=rc
 have fin:∀ tk,EP X pins σ Q (.bool b) { s with toks:=tk }:=fun tk=>⟨.bl b,H,I.tok tk,rfl,q⟩
 rcases ty with ty|⟨a,ys,rfl,hs,rfl⟩|⟨a,ys,rfl,hs,rfl⟩
 ·exact A6 I ru ty e fin
 ·obtain rfl:u=Value.ref a:=ru
  obtain ⟨its,_,p,_⟩:=I.tuple hs
  obtain ⟨o,h1,h2,_⟩:=p
  exact PySem.W.kia_one kitx_tuple I.i9 ⟨o,h1,h2⟩ e (fun z=>nomatch z) fin
 ·obtain rfl:u=Value.ref a:=ru
  obtain ⟨its,_,p,_⟩:=I.list hs
  obtain ⟨o,n',h1,h2,_⟩:=p
  exact PySem.W.kia_one kitx_list I.i9 ⟨o,h1,h2⟩ e (fun z=>nomatch z) fin
end
theorem jk(K:Frag)(t:Value):PySem.W.kitOne K t t=some true:=by
 unfold PySem.W.kitOne
 rw [if_pos (by simp)]
def Def(K:Frag)(mg:Str->Option Value)(x:Str)(st:Stmt)(ps:List Str):Prop:=∃ f fd,JI K x x st f fd/\mg x=some (.ref f)/\Binds K fd ps []
def Ok(P:Program)(w:World)(K:Frag)(mg:Str->Option Value)(base:Heap)(k:Nat)(x:Str)(ps:List Str)(sp:Sp):Prop :=
 ∃ f fd,j8 P w K mg base CI k f fd ps sp/\mg x=some (.ref f)/\keepIn K (.ref f)=true/\Binds K fd ps []
section
variable {P:Program}{w:World}{K:Frag}{mg:Str->Option Value}{base:Heap}
theorem Def.ok{x:Str}{st:Stmt}{N ps:List Str}{k:Nat}{sp:Sp}(D:Def K mg x st ps)(S:aA N ps (ak st))(len:∀ vs H Q E,sp vs H Q E->vs.length=ps.length)
  (fZ:∀ (f:Addr) (cZ:Value) (A:Around) (outer:List Env) (s:Shared) (H:Hp) (vs:List V) (Q:VK) (E:XK),cj k (A.deeper (envOfC x (ak st) s.heap.objs.size f cZ))->sp vs H Q E ->
   ∃ t,oE (iz CI P w K mg base N x (ak st) f cZ A outer s H E).Gb (az st) t/\t { nx:=fun _ H'=>Q .dB H',rt:=Q } (start N vs) H):Ok P w K mg base (k+1) x ps sp:=by
 obtain ⟨f,fd,F,hm,hb⟩:=D
 exact⟨f,fd,F.ok S len fun cZ A outer s H vs Q E hr h=>fZ f cZ A outer s H vs Q E hr h,hm,F.kp,hb⟩
end
section
variable {X:Cx}{k:Nat}{x:Str}{ps:List Str}{sp:Sp}{p pos:Pos}{e:Expr}{es:List Expr}{t:TA}
theorem aP(O:Ok X.prog X.w X.K X.mg X.base k x ps sp)(hr:cj k X.A)(ha:PA X (e::es) t)(hg:Gl X x:=by rfl)
  (ph:(x == ("__debug__":Str))=false:=by decide) (he:starEach (e::es) X.env=(false,eval e X.env)::starEach es X.env:=by rfl) (i0:(backTo pos (starEach es X.env)).any (·.1)=false:=by rfl) :
  PE X (.Call (.Name x p) (e::es) [] pos) (zY sp [] E0 t):=by
 obtain ⟨f,fd,F,hm,hk,hb⟩:=O
 exact GN F hr hg hm hk hb .nil DH ha ph he i0
end
theorem aj.bf{H:Hp}{a:Addr}{o:HO}(h:H a=none):aj H (upd H a o):=fun b u e=>by rw [au (aF e h)];exact e
theorem aj.at{K:Frag}{H H':Hp}{a:Addr}{xs:List V}(e:aj H H')(h:aR K H a xs):aR K H' a xs:=by
 rcases h with (h|⟨o,h⟩)|h
 ·exact .inl (.inl (e _ _ h))
 ·exact .inl (.inr ⟨o,e _ _ h⟩)
 ·exact .inr h
theorem aj.sq{k:Bool}{K:Frag}{H H':Hp}{a:Addr}{xs:List V}(e:aj H H')(h:Sq k K H a xs):Sq k K H' a xs:=by
 cases k with
 | true=>exact aj.at e h
 | false=>exact aj.seq e h
def CW(t:Nat)(l:Addr)(n:Nat)(f:Nat->V)(fr:St)(H1:Hp)(i m:Nat)(σ1:St)(ys:List V)(H':Hp):Prop :=
 m=n - i/\i<=n/\(∃ own:St,own.length=t/\σ1=own++fr)/\ys=(List.range i).map f/\aj H1 H'/\H' l=some (.lst ys)
theorem CW.next{t:Nat}{l:Addr}{n:Nat}{f:Nat->V}{fr:St}{H1 H' H5:Hp}{i:Nat}{y:V}(own:St)(ho:own.length=t)(hi:i<n)(hn:n<=1000000)(hl:H1 l=none)(hs:aj H1 H')(d6:H' l=some (.lst ((List.range i).map f)))(s5:aj H' H5)(ey:y=f i) :
  H5 l=some (.lst ((List.range i).map f))/\((List.range i).map f).length<sizeLine/\CW t l n f fr H1 (i+1) (n - (i+1)) (own++fr) ((List.range i).map f++[y]) (upd H5 l (.lst ((List.range i).map f++[y]))):=by
 subst ey
 refine⟨s5 _ _ d6,?_,rfl,hi,⟨own,ho,rfl⟩,?_,fun b o e=>?_,aw⟩
 ·rw [aa4,abf]
  exact Nat.lt_of_lt_of_le (Nat.lt_of_lt_of_le hi hn) (by decide)
 ·rw [range_succ,abl];rfl
 ·rw [au (aF e hl)]
  exact s5 _ _ (hs _ _ e)
theorem Ai{J:It}{H1:Hp}{ix:List (Option Nat)}{σ:St}{g:TG}{tt:TT}{te:TE}{Q:VK}(t:Nat)(fr:St)(n:Nat)(f:Nat->V)(ka:pick ix σ=List.replicate t none++fr)
  (lC:∀ H',aj H1 H'->J.stop n H') (G4:∀ i H',i<n->aj H1 H'->J.go i H')
  (step:∀ i x l H' H2 own,own.length=t->i<n->H1 l=none->aj H1 H'->H' l=some (.lst ((List.range i).map f))->J.GF i H' x H2 ->
   g x (own++fr) H2 fun σ2 H3=>tt σ2 H3 fun b H4=>if b=true then te σ2 H4 fun y H5=>H5 l=some (.lst ((List.range i).map f))/\((List.range i).map f).length<sizeLine/\CW t l n f fr H1 (i+1) (n - (i+1)) σ2 ((List.range i).map f++[y]) (upd H5 l (.lst ((List.range i).map f++[y])))
    else CW t l n f fr H1 (i+1) (n - (i+1)) σ2 ((List.range i).map f) H4)
  (hQ:∀ l H',H1 l=none->aj H1 H'->H' l=some (.lst ((List.range n).map f))->Q (.ref l) H') :
  bG ix g tt te σ Q J H1:=by
 intro l hl
 refine⟨CW t l n f fr H1,⟨n,by simp,abr _,⟨_,length_replicate,ka⟩,rfl,aj.bf hl,aw⟩,?_⟩
 rintro i m σ1 ys H' ⟨rfl,hi,⟨own,ho,rfl⟩,rfl,hs,d6⟩
 refine⟨d6,?_⟩
 by_cases lD:i<n
 ·exact .inr ⟨G4 i H' lD hs,n - (i+1),by lia,fun x H2 hy=>step i x l H' H2 own ho lD hl hs d6 hy⟩
 ·obtain rfl:i=n:=by lia
  exact .inl ⟨lC H' hs,hQ l H' hl hs d6⟩
theorem lE{J:It}{H1:Hp}{ix:List (Option Nat)}{σ:St}{te:TE}{Q:VK}(fr:St)(n:Nat)(f:Nat->V)(ka:pick ix σ=none::fr)(hn:n<=1000000)
  (lC:∀ H',aj H1 H'->J.stop n H') (G4:∀ i H',i<n->aj H1 H'->J.go i H')
  (step:∀ i x H' H2 (Qc:VK),i<n->aj H1 H'->J.GF i H' x H2->(∀ H5,aj H' H5->Qc (f i) H5)->te (some x::fr) H2 Qc)
  (hQ:∀ l H',H1 l=none->aj H1 H'->H' l=some (.lst ((List.range n).map f))->Q (.ref l) H'):bG ix (bW 0) (fun _ H Q=>Q true H) te σ Q J H1:=by
 refine Ai 1 fr n f ka lC G4 (fun i x l H' H2 own ho hi hl hs d6 hy=>?_) hQ
 obtain ⟨o1,rfl⟩:∃ o1,own=[o1]:=by match own,ho with|[o1],_=>exact⟨o1,rfl⟩
 dsimp only [bW]
 rw [if_pos rfl]
 exact step i x H' H2 _ hi hs hy fun H5 s5=>CW.next (fr:=fr) [some x] rfl hi hn hl hs d6 s5 rfl
theorem gd{K:Frag}{k1 k2:Bool}{a b:Addr}{xs ys:List V}{H1:Hp}{ix:List (Option Nat)}{σ:St}{te:TE}{Q:VK}(fr:St)(f:Nat->V)(ka:pick ix σ=none::none::fr)(ha:Sq k1 K H1 a xs)(hb:Sq k2 K H1 b ys)(hlen:xs.length=ys.length)(hn:xs.length<=1000000)
  (step:∀ i x y H' (Qc:VK),xs[i]?=some x->ys[i]?=some y->aj H1 H'->(∀ H5,aj H' H5->Qc (f i) H5)->te (some x::some y::fr) H' Qc)
  (hQ:∀ l H',H1 l=none->aj H1 H'->H' l=some (.lst ((List.range xs.length).map f))->Q (.ref l) H'):bG ix (t6 K 2 (fL (bW 0) (fL (bW 1) vL))) (fun _ H Q=>Q true H) te σ Q (Ll K k1 k2 a b) H1:=by
 refine Ai 2 fr xs.length f ka (fun H' s=>⟨_,_,s.sq ha,s.sq hb,.inl (aaK _)⟩) (fun i H' hi s=>?_) (fun i x l H' H2 own ho hi hl hs d6 hy=>?_) hQ
 ·exact⟨_,_,xs[i],ys[i]'(hlen ▸ hi),s.sq ha,s.sq hb,aaY hi,aaY (hlen ▸ hi)⟩
 ·obtain ⟨o1,o2,rfl⟩:∃ o1 o2,own=[o1,o2]:=by match own,ho with|[o1,o2],_=>exact⟨o1,o2,rfl⟩
  obtain ⟨p,x',y',rfl,hp,e1,e2,rfl⟩:=hy
  have g1:=e1 _ (hs.sq ha)
  have g2:=e2 _ (hs.sq hb)
  refine⟨p,_,rfl,aR.of aw,rfl,_,_,rfl,_,_,rfl,rfl,?_⟩
  show ite (true=true) _ _
  rw [if_pos rfl]
  exact step i x' y' _ _ g1 g2 (hs.trans (aj.bf hp)) fun H5 s5=>CW.next (fr:=fr) [some x',some y'] rfl hi hn hl hs d6 ((aj.bf hp).trans s5) rfl
theorem bY{r:List Int}{i:Nat}{x:V}(h:(r.map V.int)[i]?=some x):x=.int (r.getD i 0)/\i<r.length:=by
 rw [abk] at h
 cases e:r[i]? with
 | none=>rw [e] at h;cases h
 | some z =>
  rw [e] at h
  have hl:=(aaG.mp e).1
  refine⟨?_,hl⟩
  rw [<- (aaN h),List.getD,e];rfl
theorem int_at{r:List Int}{i:Nat}(h:i<r.length):(r.map V.int)[i]?=some (.int (r.getD i 0)):=by
 rw [abk,List.getD,aaY h];rfl
theorem range_getD{α:Type}(f:Int->α)(r:List Int):(List.range r.length).map (fun i=>f (r.getD i 0))=r.map f:=by
 apply ext_getElem
 ·simp
 ·intro i h1 h2
  simp at h1 h2
  simp [List.getD,h1]
theorem Be{α:Type}(f:Int->Int->α)(r q:List Int)(h:r.length=q.length):(List.range r.length).map (fun i=>f (r.getD i 0) (q.getD i 0))=List.zipWith f r q:=by
 apply ext_getElem
 ·simp [h]
 ·intro i h1 h2
  simp at h1 h2
  have:i<q.length:=by lia
  simp [List.getD,h1,this]
theorem yr{K:Frag}{a b:Addr}{r q:List Int}{H1:Hp}{ix:List (Option Nat)}{σ:St}{Q:VK}(op:Int->Int->Int)(ka:pick ix σ=[none,none])(ha:aR K H1 a (r.map V.int))(hb:aR K H1 b (q.map V.int))(hlen:r.length=q.length)(hn:r.length<=1000)
  (hQ:∀ l H',H1 l=none->aj H1 H'->H' l=some (.lst ((List.zipWith op r q).map V.int))->Q (.ref l) H') :
  bG ix (t6 K 2 (fL (bW 0) (fL (bW 1) vL))) (fun _ H Q=>Q true H) (ND (GI fun i j=>.int (op i j)) (C5 0) (C5 1)) σ Q (Ll K true true a b) H1:=by
 refine gd (k1:=true) (k2:=true) [] (fun i=>.int (op (r.getD i 0) (q.getD i 0))) ka ha hb (by simpa using hlen) (by rw [aa4];lia) (fun i x y H' Qc ex ey hs kc=>?_) fun l H' hl hs d6=>hQ l H' hl hs ?_
 ·obtain ⟨rfl,_⟩:=bY ex
  obtain ⟨rfl,_⟩:=bY ey
  exact⟨_,rfl,_,rfl,_,_,rfl,rfl,kc _ (aj.refl _)⟩
 ·rw [d6,aa4,Be (fun x y=>V.int (op x y)) r q hlen,List.map_zipWith]
theorem Bf{K:Frag}{a:Addr}{r:List Int}{H1:Hp}{ix:List (Option Nat)}{σ:St}{te:TE}{Q:VK}(F:Int->V)(fr:St)(ka:pick ix σ=none::fr)(ha:aR K H1 a (r.map V.int))(hn:r.length<=1000)
  (step:∀ x H' (Qc:VK),x∈r->aj H1 H'->(∀ H5,aj H' H5->Qc (F x) H5)->te (some (.int x)::fr) H' Qc)
  (hQ:∀ l H',H1 l=none->aj H1 H'->H' l=some (.lst (r.map F))->Q (.ref l) H'):bG ix (bW 0) (fun _ H Q=>Q true H) te σ Q (NC K a) H1:=by
 refine lE fr r.length (fun i=>F (r.getD i 0)) ka (by lia) (fun H' s=>⟨_,s.at ha,by simp⟩) (fun i H' hi s=>⟨_,_,s.at ha,int_at hi⟩) (fun i x H' H2 Qc hi hs hy kc=>?_) fun l H' hl hs d6=>hQ l H' hl hs ?_
 ·obtain ⟨rfl,e1⟩:=hy
  obtain ⟨rfl,_⟩:=bY (e1 _ (hs.at ha))
  exact step _ _ Qc (by rw [List.getD,aaY hi];exact abw hi) hs kc
 ·rw [d6,range_getD F r]
theorem yt{K:Frag}{a:Addr}{r:List Int}{H1:Hp}{ix:List (Option Nat)}{σ:St}{te:TE}{Q:VK}(F:Int->V)(fr:St)(ka:pick ix σ=none::fr)(ha:aW K H1 a (r.map V.int))(hn:r.length<=1000)
  (step:∀ x H' (Qc:VK),x∈r->aj H1 H'->(∀ H5,aj H' H5->Qc (F x) H5)->te (some (.int x)::fr) H' Qc)
  (hQ:∀ l H',H1 l=none->aj H1 H'->H' l=some (.lst (r.map F))->Q (.ref l) H'):bG ix (bW 0) (fun _ H Q=>Q true H) te σ Q (GG K a) H1:=by
 refine lE fr r.length (fun i=>F (r.getD i 0)) ka (by lia) (fun H' s=>⟨_,s.seq ha,by simp⟩) (fun i H' hi s=>⟨_,_,s.seq ha,int_at hi⟩) (fun i x H' H2 Qc hi hs hy kc=>?_) fun l H' hl hs d6=>hQ l H' hl hs ?_
 ·obtain ⟨rfl,e1⟩:=hy
  obtain ⟨rfl,_⟩:=bY (e1 _ (hs.seq ha))
  exact step _ _ Qc (by rw [List.getD,aaY hi];exact abw hi) hs kc
 ·rw [d6,range_getD F r]
end L2
namespace d7
def JO(a b c d e:Nat):Int:=2 ^ a*3 ^ b*5 ^ c*7 ^ d*11 ^ e
def Uk(ps:List Int)(es:List Int):Int:=(List.zipWith (fun p e=>p ^ e.toNat) ps es).foldl (·*·) 1
def Lm:List Int:=[2,3,5,7,11]
def num(es:List Int):Int:=Uk Lm es
def P5(p:Int):Prop:=p=2\/p=3\/p=5\/p=7\/p=11
def Cop(m:Int):Prop:=∀ p,P5 p->m % p≠0
def bl(x:Int):Nat:=if x == 0 then 0 else x.natAbs.log2+1
theorem Aj{x:Int}{k:Nat}(h:x.natAbs<2 ^ k):bl x<=k:=by
 unfold bl
 split
 ·lia
 ·rename_i hx
  have qX:x.natAbs≠0:=by simpa using hx
  have:=(log2_lt qX).mpr h
  lia
def F(m:Int)(x y:Int):Prop:=2 ^ (-m).toNat*y<=2 ^ m.toNat*x
def rt(b c d e:Int):Int:=JO 0 b.toNat c.toNat d.toNat e.toNat
def rb(b c d e:Int):Int:=JO 0 (-b).toNat (-c).toNat (-d).toNat (-e).toNat
section
variable (c0 c1 c2 c3 c4:Nat){m:Int}(h:Cop m)
include h
end
theorem v7{α β:Type}{f:α->β}{qs ps:List β}(h:qs.Perm ps):∀ {l:List α},ps=l.map f->∃ m:List α,m.Perm l/\qs=m.map f:=by
 induction h with
 | nil=>intro l e;exact⟨[],by rw [List.map_eq_nil_iff.mp e.symm],rfl⟩
 | cons x _ ih =>
  intro l e
  cases l with
  | nil=>cases e
  | cons a l =>
   rw [map_cons] at e
   injection e with e1 e2
   obtain ⟨m,p,q⟩:=ih e2
   exact⟨a::m,p.cons a,by rw [map_cons,q,e1]⟩
 | swap x y l0 =>
  intro l e
  match l,e with
  | a::b::l,e =>
   simp only [map_cons,List.cons.injEq] at e
   obtain ⟨e1,e2,e3⟩:=e
   exact⟨b::a::l,.swap _ _ _,by rw [map_cons,map_cons,e1,e2,e3]⟩
 | trans _ _ Ul Um =>
  intro l e
  obtain ⟨m,p,q⟩:=Um e
  obtain ⟨m',p',q'⟩:=Ul q
  exact⟨m',p'.trans p,q'⟩
def sub(a b:List Int):List Int:=List.zipWith (· - ·) a b
def cA(r:List Int)(k:Int):List Int:=r.map (·*k)
def pI(n:Nat):List Int:=List.replicate n 0
theorem sub_len{a b:List Int}{n:Nat}(ha:a.length=n)(hb:b.length=n):(sub a b).length=n:=by simp [sub,ha,hb]
theorem aB{r:List Int}{n:Nat}{k:Int}(h:r.length=n):(cA r k).length=n:=by simp [cA,h]
theorem bH(n:Nat):(pI n).length=n:=by simp [pI]
theorem bC{a b:List Int}{n:Nat}(ha:a.length=n)(hb:b.length=n)(i:Nat):(sub a b).getD i 0=a.getD i 0 - b.getD i 0:=by
 by_cases h:i<n
 ·simp only [sub,List.getD,List.getElem?_zipWith]
  rw [aaY (by lia),aaY (by lia)]
  rfl
 ·simp only [sub,List.getD]
  rw [getElem?_eq_none (by simp;lia),getElem?_eq_none (by lia),getElem?_eq_none (by lia)]
  rfl
theorem bq(r:List Int)(k:Int)(i:Nat):(cA r k).getD i 0=r.getD i 0*k:=by
 simp only [cA,List.getD,abk]
 cases r[i]? <;> simp
theorem dH(n i:Nat):(pI n).getD i 0=0:=by
 simp only [pI,List.getD,List.getElem?_replicate]
 split <;> rfl
theorem bI{a b:List Int}{n:Nat}(ha:a.length=n)(hb:b.length=n)(h:∀ i,i<n->a.getD i 0=b.getD i 0):a=b:=by
 apply ext_getElem (by lia)
 intro i h1 h2
 have:=h i (by lia)
 rw [List.getD,List.getD,aaY h1,aaY h2] at this
 exact this
def Cl(n:Nat)(P:List Int->Prop):Prop:=P (pI n)/\∀ a b:List Int,a.length=n->b.length=n->P a->P b->P (sub a b)
def Span(n:Nat)(rs:List (List Int))(v:List Int):Prop:=∀ P:List Int->Prop,Cl n P->(∀ r∈rs,P r)->P v
def Len(n:Nat)(rs:List (List Int)):Prop:=∀ r∈rs,r.length=n
theorem Span.mem{n:Nat}{rs:List (List Int)}{r:List Int}(h:r∈rs):Span n rs r:=fun _ _ k=>k r h
theorem Span.zero{n:Nat}{rs:List (List Int)}:Span n rs (pI n):=fun _ c _=>c.1
theorem Span.sub{n:Nat}{rs:List (List Int)}{a b:List Int}(la:a.length=n)(lb:b.length=n)(ha:Span n rs a)(hb:Span n rs b):Span n rs (d7.sub a b):=fun P c k=>c.2 a b la lb (ha P c k) (hb P c k)
theorem Span.cl{n:Nat}(rs:List (List Int)):Cl n (Span n rs):=⟨Span.zero,fun _ _ la lb ha hb=>Span.sub la lb ha hb⟩
theorem Span.of{n:Nat}{rs qs:List (List Int)}{v:List Int}(h:Span n rs v)(hq:∀ r∈rs,Span n qs r):Span n qs v:=h _ (Span.cl qs) hq
theorem Span.len{n:Nat}{rs:List (List Int)}{v:List Int}(h:Span n rs v)(hl:Len n rs):v.length=n:=h (fun v=>v.length=n) ⟨bH n,fun _ _ ha hb _ _=>sub_len ha hb⟩ hl
theorem Span.neg{n:Nat}{rs:List (List Int)}{a:List Int}(la:a.length=n)(ha:Span n rs a):Span n rs (cA a (-1)):=by
 have e:cA a (-1)=d7.sub (pI n) a:=bI (aB la) (sub_len (bH n) la) fun i _=>by rw [bq,bC (bH n) la,dH];lia
 rw [e]
 exact Span.sub (bH n) la Span.zero ha
theorem Span.Ln{n:Nat}{rs:List (List Int)}{a:List Int}(la:a.length=n)(ha:Span n rs a):∀ k:Nat,Span n rs (cA a k)
 | 0=>by
  have e:cA a ((0:Nat):Int)=pI n:=bI (aB la) (bH n) fun i _=>by rw [bq,dH];simp
  rw [e]
  exact Span.zero
 | k+1=>by
  have e:cA a ((k+1:Nat):Int)=d7.sub (cA a k) (cA a (-1)):=bI (aB la) (sub_len (aB la) (aB la)) fun i _=>by
   rw [bq,bC (aB la) (aB la),bq,bq,Int.natCast_add,Int.mul_add]
   simp
  rw [e]
  exact Span.sub (aB la) (aB la) (Span.Ln la ha k) (Span.neg la ha)
theorem Span.mul{n:Nat}{rs:List (List Int)}{a:List Int}(la:a.length=n)(ha:Span n rs a)(k:Int):Span n rs (cA a k):=by
 rcases Int.le_total 0 k with h|h
 ·obtain ⟨m,rfl⟩:=Int.eq_ofNat_of_zero_le h
  exact Span.Ln la ha m
 ·obtain ⟨m,e⟩:=Int.eq_ofNat_of_zero_le (show 0<=-k by lia)
  have e2:cA a k=cA (cA a m) (-1):=bI (aB la) (aB (aB la)) fun i _=>by
   rw [bq,bq,bq,Int.mul_assoc]
   congr 1
   lia
  rw [e2]
  exact Span.neg (aB la) (Span.Ln la ha m)
def low(v s:List Int)(q:Int):List Int:=sub v (cA s q)
theorem bJ{v s:List Int}{n:Nat}{q:Int}(hv:v.length=n)(hs:s.length=n):(low v s q).length=n:=sub_len hv (aB hs)
theorem cu{v s:List Int}{n:Nat}(hv:v.length=n)(hs:s.length=n)(q:Int)(i:Nat):(low v s q).getD i 0=v.getD i 0 - s.getD i 0*q:=by rw [low,bC hv (aB hs),bq]
theorem Span.low{n:Nat}{rs:List (List Int)}{v s:List Int}(lv:v.length=n)(ls:s.length=n)(hv:Span n rs v)(hs:Span n rs s)(q:Int):Span n rs (d7.low v s q):=Span.sub lv (aB ls) hv (Span.mul ls hs q)
theorem Span.JP{n:Nat}{rs:List (List Int)}{v s:List Int}{q:Int}(lv:v.length=n)(ls:s.length=n)(hl:Span n rs (d7.low v s q))(hs:Span n rs s):Span n rs v:=by
 have e:v=d7.sub (d7.low v s q) (cA s (-q)):=bI lv (sub_len (bJ lv ls) (aB ls)) fun i _=>by
  rw [bC (bJ lv ls) (aB ls),cu lv ls,bq]
  rw [mul_neg]
  lia
 rw [e]
 exact Span.sub (bJ lv ls) (aB ls) hl (Span.mul ls hs _)
def Eqv(n:Nat)(rs qs:List (List Int)):Prop:=(∀ r∈rs,Span n qs r)/\∀ q∈qs,Span n rs q
theorem Eqv.refl{n:Nat}{rs:List (List Int)}:Eqv n rs rs:=⟨fun _=>Span.mem,fun _=>Span.mem⟩
theorem Eqv.symm{n:Nat}{rs qs:List (List Int)}(h:Eqv n rs qs):Eqv n qs rs:=⟨h.2,h.1⟩
theorem Eqv.trans{n:Nat}{rs qs ts:List (List Int)}(h:Eqv n rs qs)(k:Eqv n qs ts):Eqv n rs ts:=⟨fun r hr=>(h.1 r hr).of k.1,fun t ht=>(k.2 t ht).of h.2⟩
theorem Eqv.span{n:Nat}{rs qs:List (List Int)}(h:Eqv n rs qs){v:List Int}(hv:Span n rs v):Span n qs v:=hv.of h.1
theorem Span.Pd{n:Nat}{rs qs:List (List Int)}{v:List Int}(h:Span n qs v):Span n (rs++qs) v:=h.of fun _ hr=>Span.mem (aaZ _ hr)
theorem Eqv.turn{n:Nat}{s:List Int}{rs os:List (List Int)}(f:List Int->Int)(ls:s.length=n)(lr:Len n rs):Eqv n (s::rs++os) (s::(rs.map fun v=>d7.low v s (f v))++os):=by
 have kK:Span n (s::rs++os) s:=Span.mem (by simp)
 have eL:Span n (s::(rs.map fun v=>d7.low v s (f v))++os) s:=Span.mem (by simp)
 refine⟨fun r hr=>?_,fun r hr=>?_⟩
 ·rcases aa2.mp hr with h|h
  ·rcases aa7.mp h with rfl|h
   ·exact eL
   ·exact Span.JP (q:=f r) (lr r h) ls (Span.mem (aa0 _ (aa6 _ (aa8.mpr ⟨r,h,rfl⟩)))) eL
  ·exact Span.mem (aaZ _ h)
 ·rcases aa2.mp hr with h|h
  ·rcases aa7.mp h with rfl|h
   ·exact kK
   ·obtain ⟨v,hv,rfl⟩:=aa8.mp h
    exact Span.low (lr v hv) ls (Span.mem (aa0 _ (aa6 _ hv))) kK _
  ·exact Span.mem (aaZ _ h)
def Led(r:List Int)(k:Nat):Prop:=0<r.getD k 0/\∀ i,k<i->r.getD i 0=0
theorem Led.uniq{r:List Int}{j k:Nat}(a:Led r j)(b:Led r k):j=k:=by
 rcases Nat.lt_trichotomy j k with h|h|h
 ·have:=a.2 k h
  have:=b.1
  lia
 ·exact h
 ·have:=b.2 j h
  have:=a.1
  lia
def Bef(a b:List Int):Prop:=∀ k,Led b k->(∃ j,k<j/\Led a j)/\0<=a.getD k 0/\a.getD k 0<b.getD k 0
def SF(rs:List (List Int)):Prop:=(∀ r∈rs,∃ k,Led r k)/\rs.Pairwise Bef
theorem SF.tail{a:List Int}{rs:List (List Int)}(h:SF (a::rs)):SF rs:=⟨fun r hr=>h.1 r (aa6 _ hr),(abv.mp h.2).2⟩
theorem Span.cons{n:Nat}{a:List Int}{rs:List (List Int)}{v:List Int}(la:a.length=n)(lr:Len n rs)(h:Span n (a::rs) v):∃ c,v.length=n/\Span n rs (d7.low v a c):=by
 refine h (fun v=>∃ c,v.length=n/\Span n rs (d7.low v a c)) ⟨⟨0,bH n,?_⟩,?_⟩ ?_
 ·have e:d7.low (pI n) a 0=pI n:=bI (bJ (bH n) la) (bH n) fun i _=>by rw [cu (bH n) la,dH];simp
  rw [e]
  exact Span.zero
 ·rintro x y lx ly ⟨c,_,hc⟩ ⟨d,_,hd⟩
  refine⟨c - d,sub_len lx ly,?_⟩
  have e:d7.low (d7.sub x y) a (c - d)=d7.sub (d7.low x a c) (d7.low y a d):=bI (bJ (sub_len lx ly) la) (sub_len (bJ lx la) (bJ ly la)) fun i _=>by
   rw [cu (sub_len lx ly) la,bC lx ly,bC (bJ lx la) (bJ ly la),cu lx la,cu ly la,Int.mul_sub]
   lia
  rw [e]
  exact Span.sub (bJ lx la) (bJ ly la) hc hd
 ·intro r hr
  rcases aa7.mp hr with rfl|hr
  ·refine⟨1,la,?_⟩
   have e:d7.low r r 1=pI n:=bI (bJ la la) (bH n) fun i _=>by rw [cu la la,dH];lia
   rw [e]
   exact Span.zero
  ·refine⟨0,lr r hr,?_⟩
   have e:d7.low r a 0=r:=bI (bJ (lr r hr) la) (lr r hr) fun i _=>by rw [cu (lr r hr) la];simp
   rw [e]
   exact Span.mem hr
theorem Span.none{n:Nat}{v:List Int}(h:Span n [] v):v=pI n:=h (fun v=>v=pI n) ⟨rfl,fun a b _ _ ha hb=>by
 rw [ha,hb]
 exact bI (sub_len (bH n) (bH n)) (bH n) fun i _=>by rw [bC (bH n) (bH n),dH];rfl⟩ fun _ hr=>nomatch hr
theorem Span.Lp{n i:Nat}{rs:List (List Int)}{v:List Int}(lr:Len n rs)(h:Span n rs v)(h0:∀ r∈rs,r.getD i 0=0):v.getD i 0=0 :=
 (h (fun v=>v.length=n/\v.getD i 0=0) ⟨⟨bH n,dH n i⟩,fun a b la lb ha hb=>⟨sub_len la lb,by rw [bC la lb,ha.2,hb.2];rfl⟩⟩ fun r hr=>⟨lr r hr,h0 r hr⟩).2
theorem SF.v9{a:List Int}{rs:List (List Int)}(h:SF (a::rs)){j i:Nat}(hj:Led a j)(hi:j<=i):∀ r∈rs,r.getD i 0=0:=fun r hr=>by
 obtain ⟨k,hk⟩:=h.1 r (aa6 _ hr)
 obtain ⟨⟨j',JQ,lj⟩,_⟩:=(abv.mp h.2).1 r hr k hk
 have:=lj.uniq hj
 exact hk.2 i (by lia)
theorem SF.split{n:Nat}{a:List Int}{rs:List (List Int)}{v:List Int}{j:Nat}(h:SF (a::rs))(la:a.length=n)(lr:Len n rs)(hj:Led a j)(hv:Span n (a::rs) v) :
  ∃ c,Span n rs (d7.low v a c)/\v.getD j 0=a.getD j 0*c/\∀ i,j<i->v.getD i 0=0:=by
 obtain ⟨c,lv,hs⟩:=Span.cons la lr hv
 refine⟨c,hs,?_,fun i hi=>?_⟩
 ·have:=Span.Lp (i:=j) lr hs (h.v9 hj (aaK _))
  rw [cu lv la] at this
  lia
 ·have:=Span.Lp (i:=i) lr hs (h.v9 hj (by lia))
  rw [cu lv la,hj.2 i hi] at this
  lia
theorem wa{n:Nat}{v a:List Int}(lv:v.length=n)(la:a.length=n):d7.low v a 0=v:=bI (bJ lv la) lv fun i _=>by rw [cu lv la];simp
theorem SF.rest{n:Nat}{a:List Int}{rs:List (List Int)}{v:List Int}{j:Nat}(h:SF (a::rs))(la:a.length=n)(lr:Len n rs)(hj:Led a j)(hv:Span n (a::rs) v)(h0:v.getD j 0=0):Span n rs v:=by
 have lv:v.length=n:=hv.len fun r hr=>(aa7.mp hr).elim (fun z=>z ▸ la) (lr r)
 obtain ⟨c,hs,e,_⟩:=h.split la lr hj hv
 rw [h0] at e
 have hc:c=0:=by
  rcases Int.mul_eq_zero.mp e.symm with z|z
  ·have:=hj.1
   lia
  ·exact z
 rw [hc,wa lv la] at hs
 exact hs
theorem Bg{x l c:Int}(h:x=l*c)(hl:0<l)(h1:-l<x)(h2:x<l):x=0:=by
 rcases Int.lt_trichotomy c 0 with z|z|z
 ·have:l*c<=l*(-1):=Int.mul_le_mul_of_nonneg_left (by lia) (by lia)
  lia
 ·rw [z,Int.mul_zero] at h
  exact h
 ·have:l*1<=l*c:=Int.mul_le_mul_of_nonneg_left (by lia) (by lia)
  lia
theorem SF.small{n:Nat}:∀ {rs:List (List Int)} {v:List Int},SF rs->Len n rs->Span n rs v->(∀ r∈rs,∀ k,Led r k->-(r.getD k 0)<v.getD k 0/\v.getD k 0<r.getD k 0)->v=pI n
 | [],v,_,_,hv,_=>hv.none
 | a::rs,v,h,lr,hv,hs=>by
  obtain ⟨j,hj⟩:=h.1 a (.head _)
  have la:=lr a (.head _)
  have Uo:Len n rs:=fun r hr=>lr r (aa6 _ hr)
  obtain ⟨c,_,e,_⟩:=h.split la Uo hj hv
  have h0:=Bg e hj.1 (hs a (.head _) j hj).1 (hs a (.head _) j hj).2
  exact SF.small h.tail Uo (h.rest la Uo hj hv h0) fun r hr=>hs r (aa6 _ hr)
def qt(v s:List Int)(p:Nat):Int:=(v.getD p 0).fdiv (s.getD p 0)
def bN(p:Nat)(s v:List Int):List Int:=low v s (qt v s p)
theorem gf{v s:List Int}{n p:Nat}(hv:v.length=n)(hs:s.length=n):(bN p s v).length=n:=bJ hv hs
theorem mG{v s:List Int}{n p:Nat}(hv:v.length=n)(hs:s.length=n):(bN p s v).getD p 0=(v.getD p 0).fmod (s.getD p 0):=by rw [bN,cu hv hs,qt,Int.fmod_def]
theorem yu{x y a:Int}(e:x+y=a):x=a - y:=by rw [<- e,Int.add_sub_cancel]
theorem nN(a:Int){b:Int}(hb:b≠0):(a.fmod b).natAbs<b.natAbs/\(0<b->0<=a.fmod b)/\(b<0->a.fmod b<=0):=by
 rcases Int.lt_or_gt_of_ne hb with h|h
 ·have e:=Int.neg_fmod_neg a b
  have h1:=Int.fmod_nonneg_of_pos (-a) (show 0 < -b by lia)
  have h2:=Int.fmod_lt_of_pos (-a) (show 0 < -b by lia)
  lia
 ·have h1:=Int.fmod_nonneg_of_pos a h
  have h2:=Int.fmod_lt_of_pos a h
  lia
theorem Pe{a b:Int}(hb:b≠0)(NM:b.natAbs<=a.natAbs):(a.fdiv b).natAbs*b.natAbs<=2*a.natAbs:=by
 have e:=Int.mul_fdiv_add_fmod a b
 have h:=nN a hb
 have e2:(b*a.fdiv b).natAbs=(a.fdiv b).natAbs*b.natAbs:=by rw [abp,Nat.mul_comm]
 have e3:b*a.fdiv b=a - a.fmod b:=yu e
 rw [<- e2,e3]
 exact aaJ (natAbs_sub_le _ _) (by lia)
def Alike(a b:Int):Prop:=(0<a/\0<b)\/(a<0/\b<0)
theorem Lq{a b:Int}(hs:Alike a b)(NM:b.natAbs<=a.natAbs):(a.fdiv b).natAbs*b.natAbs+(a.fmod b).natAbs=a.natAbs:=by
 have e:=Int.mul_fdiv_add_fmod a b
 have hb:b≠0:=by rcases hs with h|h <;> lia
 have h:=nN a hb
 have e2:(b*a.fdiv b).natAbs=(a.fdiv b).natAbs*b.natAbs:=by rw [abp,Nat.mul_comm]
 have e3:b*a.fdiv b=a - a.fmod b:=yu e
 rw [<- e2,e3]
 have hl:=aaJ (aaL h.1) NM
 rcases hs with z|z
 ·have h1:=h.2.1 z.2
  rw [<- Int.natAbs_add_of_nonneg (by clear e e2 e3 h NM hb;lia) h1,Int.sub_add_cancel]
 ·have h1:=h.2.2 z.2
  rw [<- Int.natAbs_add_of_nonpos (by clear e e2 e3 h NM hb;lia) h1,Int.sub_add_cancel]
def de(M:Nat)(r:List Int):Prop:=∀ i,(r.getD i 0).natAbs<=M
theorem de.mono{M N:Nat}{r:List Int}(h:de M r)(k:M<=N):de N r:=fun i=>aaJ (h i) k
theorem DU{v s:List Int}{n M Q:Nat}{q:Int}(hv:v.length=n)(hs:s.length=n)(bv:de M v)(bs:de M s)(hq:q.natAbs<=Q):de (M+M*Q) (low v s q):=fun i=>by
 rw [cu hv hs]
 have h1:=natAbs_sub_le (v.getD i 0) (s.getD i 0*q)
 have h2:(s.getD i 0*q).natAbs<=M*Q:=by rw [abp];exact abd (bs i) hq
 have h3:=bv i
 lia
def at'(p:Nat)(v:List Int):Nat:=(v.getD p 0).natAbs
structure PS(n p M m l:Nat)(led os:List (List Int)):Prop where
 len:∀ v∈led++os,v.length=n
 bd:∀ v∈led++os,de M v
 lo:∀ v∈led,l<=at' p v/\at' p v<=m
 pos:0<l
 big:∃ v∈led,at' p v=m
 low:∃ v∈led,at' p v=l
 one:(∀ v∈led,0<v.getD p 0)\/∀ v∈led,v.getD p 0<0
 zero:∀ v∈os,v.getD p 0=0
def cQ(p:Nat)(s:List Int)(rest:List (List Int)):List (List Int):=(rest.map (bN p s)).filter (fun v=>v.getD p 0 != 0)
def fM(p:Nat)(s:List Int)(rest:List (List Int)):List (List Int):=(rest.map (bN p s)).filter (fun v=>v.getD p 0 == 0)
theorem DV{p:Nat}{s x:List Int}{rest:List (List Int)}:x∈rest.map (bN p s)↔x∈cQ p s rest\/x∈fM p s rest:=by
 unfold cQ fM
 rw [aa9,aa9]
 constructor
 ·intro h
  by_cases e:x.getD p 0=0
  ·exact .inr ⟨h,by simpa using e⟩
  ·exact .inl ⟨h,by simpa using e⟩
 ·rintro (h|h) <;> exact h.1
theorem Eqv.mem{n:Nat}{rs qs:List (List Int)}(h:∀ x,x∈rs↔x∈qs):Eqv n rs qs:=⟨fun r hr=>Span.mem ((h r).mp hr),fun q hq=>Span.mem ((h q).mpr hq)⟩
theorem DW{n p:Nat}{s:List Int}{rest os:List (List Int)}(ls:s.length=n)(lr:Len n rest):Eqv n (s::rest++os) (s::cQ p s rest++(os++fM p s rest)):=by
 refine (Eqv.turn (fun v=>qt v s p) ls lr).trans (Eqv.mem fun x=>?_)
 have h:=DV (p:=p) (s:=s) (x:=x) (rest:=rest)
 have h':x∈(rest.map fun v=>low v s (qt v s p))↔x∈cQ p s rest\/x∈fM p s rest:=h
 simp only [aa2,aa7,h']
 constructor
 ·rintro ((h|h|h)|h)
  ·exact .inl (.inl h)
  ·exact .inl (.inr h)
  ·exact .inr (.inr h)
  ·exact .inr (.inl h)
 ·rintro ((h|h)|h|h)
  ·exact .inl (.inl h)
  ·exact .inl (.inr (.inl h))
  ·exact .inr h
  ·exact .inl (.inr (.inr h))
def mz(p:Nat)(rs:List (List Int)):Nat:=(rs.map (at' p)).sum
theorem sY(p:Nat)(f:List Int->Bool):∀ rs:List (List Int),mz p (rs.filter f)<=mz p rs
 | []=>aaK _
 | r::rs=>by
  have h:=sY p f rs
  unfold mz at h ⊢
  rw [List.filter_cons]
  split <;> simp only [map_cons,sum_cons] <;> lia
theorem Ak{p l:Nat}{s:List Int}:∀ {rest:List (List Int)},rest≠[]->(∀ v∈rest,l<=at' p v)->(∀ v∈rest,at' p (bN p s v)<l)->mz p (rest.map (bN p s))<mz p rest
 | [],h,_,_=>absurd rfl h
 | [v],_,h1,h2=>by
  have a:=h1 v (.head _)
  have b:=h2 v (.head _)
  simp only [mz,map_cons,map_nil,sum_cons,List.sum_nil]
  lia
 | v::w::r,_,h1,h2=>by
  have a:=h1 v (.head _)
  have b:=h2 v (.head _)
  have c:=Ak (rest:=w::r) (by simp) (fun x hx=>h1 x (aa6 _ hx)) (fun x hx=>h2 x (aa6 _ hx))
  simp only [mz,map_cons,sum_cons] at c ⊢
  lia
theorem lF{v s:List Int}{n p:Nat}(hv:v.length=n)(hs:s.length=n)(h0:s.getD p 0≠0):at' p (bN p s v)<at' p s:=by
 have:=(nN (v.getD p 0) h0).1
 unfold at'
 rw [mG hv hs]
 exact this
def PI(n p M:Nat)(led os:List (List Int)):Prop :=
 (∀ v∈led++os,v.length=n)/\(∀ v∈led,v.getD p 0≠0)/\(∀ v∈os,v.getD p 0=0) /\
  ((∀ v∈led++os,de M v)\/(∃ m l M',PS n p M' m l led os/\M'*m*m*l<=3*(M*M*M*M))\/(led.length<=1/\∀ v∈led++os,de (6*(M*M*M*M)) v))
theorem uj(a:Int){b:Int}(hb:b≠0):(a.fdiv b).natAbs<=a.natAbs:=by
 have e:=Int.mul_fdiv_add_fmod a b
 have h:=(nN a hb).1
 have e2:(b*a.fdiv b).natAbs=(a.fdiv b).natAbs*b.natAbs:=by rw [abp,Nat.mul_comm]
 rw [yu e] at e2
 have h0:=natAbs_sub_le a (a.fmod b)
 rw [e2] at h0
 clear e e2
 generalize (a.fdiv b).natAbs=q at *
 cases q with
 | zero=>exact abr _
 | succ k =>
  have h1:k*1<=k*b.natAbs:=mul_le_mul_left _ (by lia)
  rw [add_mul,one_mul] at h0
  lia
theorem uk{v s:List Int}{n p S L:Nat}(hv:v.length=n)(hs:s.length=n)(h0:s.getD p 0≠0)(bv:de S v)(bs:de L s):de (S+L*S) (bN p s v):=fun i=>by
 unfold bN
 rw [cu hv hs]
 have h1:=natAbs_sub_le (v.getD i 0) (s.getD i 0*qt v s p)
 have h2:(s.getD i 0*qt v s p).natAbs<=L*S:=by rw [abp];exact abd (bs i) (aaJ (uj _ h0) (bv p))
 have h3:=bv i
 lia
theorem d8{v s:List Int}{n p i:Nat}(hv:v.length=n)(hs:s.length=n)(h0:s.getD i 0=0):(bN p s v).getD i 0=v.getD i 0:=by
 unfold bN
 rw [cu hv hs,h0]
 lia
theorem Led.bN{v s:List Int}{n p k:Nat}(hv:v.length=n)(hs:s.length=n)(hL:Led s p)(hk:p<k):Led (d7.bN p s v) k↔Led v k:=by
 unfold Led
 rw [d8 hv hs (hL.2 k hk)]
 constructor
 ·rintro ⟨a,b⟩
  exact⟨a,fun i hi=>by have z:=b i hi;rw [d8 hv hs (hL.2 i (by lia))] at z;exact z⟩
 ·rintro ⟨a,b⟩
  exact⟨a,fun i hi=>by rw [d8 hv hs (hL.2 i (by lia))];exact b i hi⟩
theorem SF.add{n p:Nat}{st:List (List Int)}{s:List Int}(h:SF st)(hl:∀ r∈st,∃ k,p<k/\Led r k)(lst:Len n st)(ls:s.length=n)(hL:Led s p) :
  SF (st.map (d7.bN p s)++[s])/\∀ r∈st.map (d7.bN p s)++[s],∃ k,p<=k/\Led r k:=by
 have d6:∀ r∈st,∃ k,p<k/\Led (d7.bN p s r) k:=fun r hr=>by
  obtain ⟨k,hk,z⟩:=hl r hr
  exact⟨k,hk,(Led.bN (lst r hr) ls hL hk).mpr z⟩
 have all:∀ r∈st.map (d7.bN p s)++[s],∃ k,p<=k/\Led r k:=fun r hr=>by
  rcases aa2.mp hr with a|a
  ·obtain ⟨u,hu,rfl⟩:=aa8.mp a
   obtain ⟨k,hk,z⟩:=d6 u hu
   exact⟨k,by lia,z⟩
  ·rw [aa1.mp a]
   exact⟨p,aaK _,hL⟩
 refine⟨⟨fun r hr=>?_,?_⟩,all⟩
 ·obtain ⟨k,_,z⟩:=all r hr
  exact⟨k,z⟩
 ·rw [List.pairwise_append]
  refine⟨?_,List.pairwise_singleton _ _,fun a ha b hb=>?_⟩
  ·rw [List.pairwise_map]
   refine List.Pairwise.imp_of_mem (fun {a b} ha hb NM k hk=>?_) h.2
   obtain ⟨kb,Up,zb⟩:=hl b hb
   have e:=hk.uniq ((Led.bN (lst b hb) ls hL Up).mpr zb)
   subst e
   obtain ⟨⟨j,hj,zj⟩,r1,r2⟩:=NM k zb
   rw [d8 (lst a ha) ls (hL.2 k Up),d8 (lst b hb) ls (hL.2 k Up)]
   exact⟨⟨j,hj,(Led.bN (lst a ha) ls hL (by lia)).mpr zj⟩,r1,r2⟩
  ·obtain ⟨u,hu,rfl⟩:=aa8.mp ha
   rw [aa1.mp hb]
   intro k hk
   have e:=hk.uniq hL
   subst e
   obtain ⟨j,hj,zj⟩:=d6 u hu
   have Uq:s.getD k 0≠0:=by
    have:=hL.1
    lia
   have f:=nN (u.getD k 0) Uq
   have g:=f.2.1 hL.1
   rw [mG (lst u hu) ls]
   exact⟨⟨j,hj,zj⟩,g,by have:=f.1;have:=hL.1;lia⟩
theorem Eqv.add{n p:Nat}{st os:List (List Int)}{s:List Int}(lst:Len n st)(ls:s.length=n):Eqv n (st++s::os) (st.map (d7.bN p s)++[s]++os):=by
 refine (Eqv.mem fun x=>?_).trans ((Eqv.turn (s:=s) (rs:=st) (os:=os) (fun v=>qt v s p) ls lst).trans (Eqv.mem fun x=>?_))
 ·simp only [aa2,aa7]
  constructor
  ·rintro (h|h|h)
   ·exact .inl (.inr h)
   ·exact .inl (.inl h)
   ·exact .inr h
  ·rintro ((h|h)|h)
   ·exact .inr (.inl h)
   ·exact .inl h
   ·exact .inr (.inr h)
 ·show x∈s::st.map (d7.bN p s)++os↔_
  simp only [aa2,aa7,not_mem_nil,or_false]
  constructor
  ·rintro ((h|h)|h)
   ·exact .inl (.inr h)
   ·exact .inl (.inl h)
   ·exact .inr h
  ·rintro ((h|h)|h)
   ·exact .inl (.inr h)
   ·exact .inl (.inl h)
   ·exact .inr h
theorem Eqv.app{n:Nat}{as bs cs:List (List Int)}(h:Eqv n as bs):Eqv n (cs++as) (cs++bs) :=
 ⟨fun r hr=>(aa2.mp hr).elim (fun z=>Span.mem (aa0 _ z)) fun z=>(h.1 r z).Pd,fun r hr=>(aa2.mp hr).elim (fun z=>Span.mem (aa0 _ z)) fun z=>(h.2 r z).Pd⟩
theorem Eqv.flip{n:Nat}{a:List Int}{rs:List (List Int)}(la:a.length=n):Eqv n (a::rs) (cA a (-1)::rs):=by
 have e:cA (cA a (-1)) (-1)=a:=bI (aB (aB la)) la fun i _=>by rw [bq,bq];lia
 refine⟨fun r hr=>?_,fun r hr=>?_⟩
 ·rcases aa7.mp hr with rfl|hr
  ·have:=Span.neg (rs:=cA r (-1)::rs) (aB la) (Span.mem (.head _))
   rw [e] at this
   exact this
  ·exact Span.mem (aa6 _ hr)
 ·rcases aa7.mp hr with rfl|hr
  ·exact Span.neg la (Span.mem (.head _))
  ·exact Span.mem (aa6 _ hr)
def r2(p:Nat×Nat):List Int:=[(p.1:Int),(p.2:Int)]
def prd:List (Nat×Nat)->Nat
 | []=>1
 | p::l=>p.2*prd l
def tot:List (Nat×Nat)->Nat
 | []=>0
 | p::l=>p.1*prd l+p.2*tot l
theorem wb(f m:Nat):Nat.gcd m (f % m)=Nat.gcd f m:=by rw [Nat.gcd_comm m,<- Nat.gcd_rec,Nat.gcd_comm]
theorem take_snoc{α:Type}{l:List α}{i:Nat}{x:α}(h:l[i]?=some x):l.take (i+1)=l.take i++[x]:=by
 rw [take_add_one,h];rfl
theorem iD(r:List Int){w i:Nat}(h:i<w):(r.take w).getD i 0=r.getD i 0:=by
 rw [List.getD,List.getD,List.getElem?_take,if_pos h]
theorem pJ(r:List Int){w i:Nat}(h:w<=i):(r.take w).getD i 0=0:=by
 rw [List.getD,List.getElem?_take,if_neg (by lia)]
 rfl
theorem mH{v s:List Int}{p w:Nat}(hp:p<w):(bN p s v).take w=bN p (s.take w) (v.take w):=by
 simp only [bN,low,sub,cA,qt,List.take_zipWith,map_take,iD _ hp]
theorem ie{v:List Int}{n w:Nat}(h:v.length=n)(hw:w<=n):(v.take w).length=w:=by rw [abi,h,min_eq_left hw]
def gr(b:Nat):Nat->Nat
 | 0=>b
 | i+1=>4*gr b i+3
def sb(b:Nat):Nat->Nat
 | 0=>0
 | i+1=>sb b i+gr b (i+1)+1
structure PT(p X m k:Nat)(led os:List (List Int)):Prop where
 bd:∀ v∈led++os,de X v
 hi:∀ v∈led,at' p v<=m
 one:(∀ v∈led,0<v.getD p 0)\/∀ v∈led,v.getD p 0<0
 low:∃ v∈led,at' p v+m<=k
theorem ig{p:Nat}{s:List Int}{rest:List (List Int)}{v:List Int}(hv:v∈cQ p s rest):∃ u∈rest,bN p s u=v/\v.getD p 0≠0:=by
 obtain ⟨a1,a2⟩:=aa9.mp hv
 obtain ⟨u,hu,e⟩:=aa8.mp a1
 exact⟨u,hu,e,by simpa using a2⟩
theorem Bh{p:Nat}{s:List Int}{rest:List (List Int)}{v:List Int}(hv:v∈fM p s rest):∃ u∈rest,bN p s u=v/\v.getD p 0=0:=by
 obtain ⟨a1,a2⟩:=aa9.mp hv
 obtain ⟨u,hu,e⟩:=aa8.mp a1
 exact⟨u,hu,e,by simpa using a2⟩
theorem lG{p:Nat}{s:List Int}{rest os:List (List Int)}{P:List Int->Prop}(h:∀ v∈s::rest++os,P v)(k:∀ v∈rest,P (bN p s v)):∀ v∈s::cQ p s rest++(os++fM p s rest),P v:=fun v hv=>by
 rcases aa2.mp hv with a|a
 ·rcases aa7.mp a with rfl|a
  ·exact h v (by simp)
  ·obtain ⟨u,hu,rfl,_⟩:=ig a
   exact k u hu
 ·rcases aa2.mp a with a|a
  ·exact h v (by simp [a])
  ·obtain ⟨u,hu,rfl,_⟩:=Bh a
   exact k u hu
theorem tj{n p:Nat}{s:List Int}{rest:List (List Int)}(ls:s.length=n)(lr:Len n rest)(tm:s.getD p 0≠0):(∀ v∈s::cQ p s rest,0<v.getD p 0)\/∀ v∈s::cQ p s rest,v.getD p 0<0:=by
 rcases Int.lt_or_gt_of_ne tm with z|z
 ·refine .inr fun v hv=>?_
  rcases aa7.mp hv with rfl|a
  ·exact z
  ·obtain ⟨u',CL,rfl,hn⟩:=ig a
   have:=(nN (u'.getD p 0) tm).2.2 z
   rw [mG (lr u' CL) ls] at hn ⊢
   lia
 ·refine .inl fun v hv=>?_
  rcases aa7.mp hv with rfl|a
  ·exact z
  ·obtain ⟨u',CL,rfl,hn⟩:=ig a
   have:=(nN (u'.getD p 0) tm).2.1 z
   rw [mG (lr u' CL) ls] at hn ⊢
   lia
theorem oH{n p:Nat}{s:List Int}{rest:List (List Int)}(ls:s.length=n)(lr:Len n rest)(tm:s.getD p 0≠0):∀ v∈s::cQ p s rest,at' p v<=at' p s:=fun v hv=>by
 rcases aa7.mp hv with rfl|a
 ·exact aaK _
 ·obtain ⟨u,hu,rfl,_⟩:=ig a
  exact aaL (lF (lr u hu) ls tm)
theorem PT.turn{n p X m k:Nat}{s:List Int}{rest os:List (List Int)}(h:PT p X m k (s::rest) os)(ls:s.length=n)(lr:Len n rest)(tm:s.getD p 0≠0)(hs:∀ v∈rest,at' p s<=at' p v) :
  ∃ X',(∀ v∈rest,de X' (bN p s v))/\X<=X'/\X'*at' p s<=X*k/\(cQ p s rest=[]\/PT p X' (at' p s) m (s::cQ p s rest) (os++fM p s rest)):=by
 have hl:0<at' p s:=by unfold at';lia
 have bs:=h.bd s (by simp)
 have br:∀ v∈rest,de X v:=fun v hv=>h.bd v (by simp [hv])
 have Pf:∀ v∈rest,Alike (v.getD p 0) (s.getD p 0):=fun v hv=>by
  rcases h.one with z|z
  ·exact .inl ⟨z v (aa6 _ hv),z s (.head _)⟩
  ·exact .inr ⟨z v (aa6 _ hv),z s (.head _)⟩
 have hq:∀ v∈rest,(qt v s p).natAbs*at' p s+at' p (bN p s v)=at' p v:=fun v hv=>by
  have:=Lq (Pf v hv) (hs v hv)
  unfold at'
  rw [mG (lr v hv) ls]
  exact this
 have hm:∀ v∈rest,at' p v<=m:=fun v hv=>h.hi v (aa6 _ hv)
 have hQ:∀ v∈rest,(qt v s p).natAbs<=m / at' p s:=fun v hv=>by
  rw [Nat.le_div_iff_mul_le hl]
  have:=hq v hv
  have:=hm v hv
  lia
 have hk:at' p s+m<=k:=by
  obtain ⟨v,hv,e⟩:=h.low
  rcases aa7.mp hv with rfl|hv
  ·exact e
  ·have:=hs v hv
   lia
 have hb:∀ v∈rest,de (X+X*(m / at' p s)) (bN p s v):=fun v hv=>DU (lr v hv) ls (br v hv) bs (hQ v hv)
 refine⟨X+X*(m / at' p s),hb,le_add_right _ _,?_,?_⟩
 ·have e1:X*(m / at' p s)*at' p s<=X*m:=by rw [mul_assoc];exact mul_le_mul_left _ (Nat.div_mul_le_self _ _)
  have e2:X*(at' p s+m)<=X*k:=mul_le_mul_left _ hk
  rw [Nat.mul_add] at e2
  rw [add_mul]
  lia
 ·by_cases hf:cQ p s rest=[]
  ·exact .inl hf
  ·refine .inr ⟨lG (fun v hv=>(h.bd v hv).mono (le_add_right _ _)) hb,oH ls lr tm,tj ls lr tm,?_⟩
   obtain ⟨w,hw⟩:=List.exists_mem_of_ne_nil _ hf
   refine⟨w,aa6 _ hw,?_⟩
   obtain ⟨u,hu,rfl,hn⟩:=ig hw
   have h1:=hq u hu
   have h2:=hm u hu
   have h3:=lF (lr u hu) ls tm
   have h4:=hs u hu
   have h5:1<=(qt u s p).natAbs:=by
    rcases eq_zero_or_pos (qt u s p).natAbs with z|z
    ·rw [z,Nat.zero_mul] at h1
     lia
    ·exact z
   have h6:1*at' p s<=(qt u s p).natAbs*at' p s:=abc _ h5
   lia
theorem PT.first{n p M A:Nat}{s:List Int}{rest os:List (List Int)}(ls:s.length=n)(lr:Len n rest)(rg:∀ v∈s::rest++os,de M v)(hA:∀ v∈s::rest,at' p v<=A)(tm:s.getD p 0≠0)(hs:∀ v∈rest,at' p s<=at' p v) :
  ∃ X',(∀ v∈rest,de X' (bN p s v))/\M<=X'/\X'*at' p s<=3*(M*A)/\(cQ p s rest=[]\/PT p X' (at' p s) (2*A) (s::cQ p s rest) (os++fM p s rest)):=by
 have hl:0<at' p s:=by unfold at';lia
 have bs:=rg s (by simp)
 have br:∀ v∈rest,de M v:=fun v hv=>rg v (by simp [hv])
 have lA:at' p s<=A:=hA s (.head _)
 have hQ:∀ v∈rest,(qt v s p).natAbs<=2*A / at' p s:=fun v hv=>by
  rw [Nat.le_div_iff_mul_le hl]
  have a:=Pe tm (hs v hv)
  have b:=hA v (aa6 _ hv)
  have a':(qt v s p).natAbs*at' p s<=2*at' p v:=a
  lia
 have hb:∀ v∈rest,de (M+M*(2*A / at' p s)) (bN p s v):=fun v hv=>DU (lr v hv) ls (br v hv) bs (hQ v hv)
 refine⟨M+M*(2*A / at' p s),hb,le_add_right _ _,?_,?_⟩
 ·have e1:M*(2*A / at' p s)*at' p s<=M*(2*A):=by rw [mul_assoc];exact mul_le_mul_left _ (Nat.div_mul_le_self _ _)
  have e2:M*at' p s<=M*A:=mul_le_mul_left _ lA
  have e3:M*(2*A)=2*(M*A):=Nat.mul_left_comm _ _ _
  rw [add_mul]
  lia
 ·by_cases hf:cQ p s rest=[]
  ·exact .inl hf
  ·refine .inr ⟨lG (fun v hv=>(rg v hv).mono (le_add_right _ _)) hb,oH ls lr tm,tj ls lr tm,?_⟩
   obtain ⟨w,hw⟩:=List.exists_mem_of_ne_nil _ hf
   refine⟨w,aa6 _ hw,?_⟩
   have:=oH ls lr tm w (aa6 _ hw)
   lia
def PJ(n p M A:Nat)(led os:List (List Int)):Prop :=
 (∀ v∈led++os,v.length=n)/\(∀ v∈led,v.getD p 0≠0)/\(∀ v∈os,v.getD p 0=0)/\(∀ v∈led,at' p v<=A) /\
  ((∀ v∈led++os,de M v)\/(∃ X m k,PT p X m k led os/\0<m/\0<k/\X*m*k<=6*(M*(A*A)))\/(led.length<=1/\∀ v∈led++os,de (6*(M*(A*A))) v))
theorem PJ.bd{n p M A:Nat}{led os:List (List Int)}(hA:0<A)(h:PJ n p M A led os):∀ v∈led++os,de (6*(M*(A*A))) v:=by
 obtain ⟨_,_,_,_,h|⟨X,m,k,h,hm,hk,hN⟩|h⟩:=h
 ·refine fun v hv=>(h v hv).mono ?_
  have:M*1<=M*(A*A):=mul_le_mul_left _ (mul_pos hA hA)
  lia
 ·refine fun v hv=>(h.bd v hv).mono ?_
  have h1:X*1<=X*(m*k):=mul_le_mul_left _ (mul_pos hm hk)
  rw [<- mul_assoc] at h1
  lia
 ·exact h.2
theorem PJ.turn{n p M A:Nat}{s:List Int}{rest led os:List (List Int)}(NN:0<A)(h:PJ n p M A led os)(e:(s::rest).Perm led)(hr:rest≠[])(hs:∀ v∈rest,at' p s<=at' p v) :
  PJ n p M A (s::cQ p s rest) (os++fM p s rest)/\mz p (s::cQ p s rest)<mz p led/\Eqv n (led++os) (s::cQ p s rest++(os++fM p s rest)):=by
 have hBd:=h.bd NN
 obtain ⟨h1,h2,h3,hA,h4⟩:=h
 have mem:∀ v,v∈s::rest↔v∈led:=fun v=>e.mem_iff
 have G5:∀ v,v∈s::rest++os->v∈led++os:=fun v hv=>(aa2.mp hv).elim (fun z=>aa0 _ ((mem v).mp z)) fun z=>aaZ _ z
 have xK:∀ v∈s::rest++os,v.length=n:=fun v hv=>h1 v (G5 v hv)
 have h2':∀ v∈s::rest,v.getD p 0≠0:=fun v hv=>h2 v ((mem v).mp hv)
 have hA':∀ v∈s::rest,at' p v<=A:=fun v hv=>hA v ((mem v).mp hv)
 have ls:=xK s (by simp)
 have lr:Len n rest:=fun v hv=>xK v (by simp [hv])
 have tm:=h2' s (.head _)
 have hl:0<at' p s:=by unfold at';lia
 have fin:∀ {X':Nat},(∀ v∈rest,de X' (bN p s v))->X'<=6*(M*(A*A))->cQ p s rest=[]->(s::cQ p s rest).length<=1/\∀ v∈s::cQ p s rest++(os++fM p s rest),de (6*(M*(A*A))) v:=fun {X'} b c z =>
  ⟨by rw [z];exact aaK _,lG (fun v hv=>hBd v (G5 v hv)) fun v hv=>(b v hv).mono c⟩
 refine⟨⟨lG xK fun v hv=>gf (lr v hv) ls,fun v hv=>?_,fun v hv=>?_,fun v hv=>aaJ (oH ls lr tm v hv) (hA' s (.head _)),?_⟩,?_,(Eqv.mem fun x=>?_).trans (DW ls lr)⟩
 ·rcases aa7.mp hv with rfl|a
  ·exact tm
  ·simpa using (aa9.mp a).2
 ·rcases aa2.mp hv with a|a
  ·exact h3 v a
  ·simpa using (aa9.mp a).2
 ·rcases h4 with h4|⟨X,m,k,h4,hm,hk,hN⟩|h4
  ·obtain ⟨X',b1,b2,b3,b4⟩:=PT.first ls lr (fun v hv=>h4 v (G5 v hv)) hA' tm hs
   rcases b4 with z|z
   ·refine .inr (.inr (fin b1 ?_ z))
    have e1:X'*1<=X'*at' p s:=mul_le_mul_left _ hl
    have e2:M*A*1<=M*A*A:=mul_le_mul_left _ NN
    rw [mul_assoc M A A] at e2
    lia
   ·refine .inr (.inl ⟨X',_,_,z,hl,by lia,?_⟩)
    calc X'*at' p s*(2*A)<=3*(M*A)*(2*A):=abc _ b3
     _=6*(M*(A*A)):=by rw [show 3*(M*A)*(2*A)=(3*2)*(M*(A*A)) by ac_rfl]
  ·have h5:PT p X m k (s::rest) os:=⟨fun v hv=>h4.bd v (G5 v hv),fun v hv=>h4.hi v ((mem v).mp hv),h4.one.imp (fun z v hv=>z v ((mem v).mp hv)) fun z v hv=>z v ((mem v).mp hv),by
    obtain ⟨v,hv,z⟩:=h4.low
    exact⟨v,(mem v).mpr hv,z⟩⟩
   obtain ⟨X',b1,b2,b3,b4⟩:=h5.turn ls lr tm hs
   rcases b4 with z|z
   ·refine .inr (.inr (fin b1 ?_ z))
    have e1:X'*1<=X'*at' p s:=mul_le_mul_left _ hl
    have e2:X*k*1<=X*k*m:=mul_le_mul_left _ hm
    rw [show X*k*m=X*m*k by ac_rfl] at e2
    lia
   ·refine .inr (.inl ⟨X',_,_,z,hl,hm,?_⟩)
    calc X'*at' p s*m<=X*k*m:=abc _ b3
     _=X*m*k:=by ac_rfl
     _<=_:=hN
  ·exact absurd h4.1 (by have:=e.length_eq;rw [length_cons] at this;cases rest with|nil=>exact absurd rfl hr|cons x y=>simp at this;lia)
 ·have hz:mz p (rest.map (bN p s))<mz p rest:=Ak hr hs fun v hv=>lF (lr v hv) ls tm
  have hf:mz p (cQ p s rest)<=mz p (rest.map (bN p s)):=sY p _ _
  have hp:mz p led=mz p (s::rest):=by
   unfold mz
   exact ((e.map (at' p)).sum_nat).symm
  rw [hp]
  show (at' p s::(cQ p s rest).map (at' p)).sum<(at' p s::rest.map (at' p)).sum
  rw [sum_cons,sum_cons]
  unfold mz at hz hf
  lia
 ·rw [aa2,aa2,<- mem x]
def gs(b:Nat):Nat->Nat
 | 0=>b
 | i+1=>3*gs b i+3
def ss(b:Nat):Nat->Nat
 | 0=>0
 | i+1=>ss b i+gs b (i+1)+1
theorem jE(b i:Nat):6*(2 ^ gs b i*(2 ^ gs b i*2 ^ gs b i))<2 ^ gs b (i+1):=by
 have e:(2:Nat) ^ gs b (i+1)=8*(2 ^ gs b i*(2 ^ gs b i*2 ^ gs b i)):=by
  rw [gs,pow_add,show 3*gs b i=gs b i+(gs b i+gs b i) by lia,pow_add,pow_add]
  lia
 have h:0<(2:Nat) ^ gs b i:=abq _
 have h2:=mul_pos h (mul_pos h h)
 rw [e]
 lia
structure SJ(n w b:Nat)(rs:List (List Int))(i:Nat)(st lf:List (List Int)):Prop where
 sf:SF (st.map (List.take w))
 ld:∀ r∈st,∃ k,w - i<=k/\Led (r.take w) k
 lst:Len n st
 SG:Len n lf
 z:∀ v∈lf,∀ j,w - i<=j->j<w->v.getD j 0=0
 e:Eqv n rs (st++lf)
 bl:∀ v∈lf,de (2 ^ gs b i) v
 bs:∀ v∈st,de (2 ^ ss b i) v
 lb:∀ r∈st,∀ k,Led (r.take w) k->(r.getD k 0).natAbs<=2 ^ gs b (w - 1 - k)
 c1:lf.length<=rs.length
 c2:st.length<=i
theorem SJ.start{n w b:Nat}{rs:List (List Int)}(hl:Len n rs)(hb:∀ v∈rs,de (2 ^ b) v):SJ n w b rs 0 [] rs :=
 ⟨⟨(fun _ z=>nomatch z),List.Pairwise.nil⟩,(fun _ z=>nomatch z),(fun _ z=>nomatch z),hl,(fun v _ j h1 h2=>by lia),Eqv.refl,hb,(fun _ z=>nomatch z),(fun _ z=>nomatch z),aaK _,aaK _⟩
theorem SJ.none{n w b i p:Nat}{rs st lf os:List (List Int)}(h:SJ n w b rs i st lf)(hp:p+i+1=w)(he:Eqv n lf os)(h0:∀ v∈os,v.getD p 0=0)(hl:Len n os)
  (hb:∀ v∈os,de (6*(2 ^ gs b i*(2 ^ gs b i*2 ^ gs b i))) v) (hc:os.length<=lf.length):SJ n w b rs (i+1) st os:=by
 refine⟨h.sf,fun r hr=>?_,h.lst,hl,fun v hv j h1 h2=>?_,h.e.trans he.app,fun v hv=>(hb v hv).mono (aaL (jE b i)),fun v hv=>(h.bs v hv).mono (aba (by decide) (by rw [ss];lia)),h.lb,aaJ hc h.c1,Nat.le_succ_of_le h.c2⟩
 ·obtain ⟨k,h1,h2⟩:=h.ld r hr
  exact⟨k,by lia,h2⟩
 ·by_cases e:j=p
  ·rw [e];exact h0 v hv
  ·exact Span.Lp h.SG (he.2 v hv) fun r hr=>h.z r hr j (by lia) h2
theorem SJ.one{n w b i p:Nat}{rs st lf os:List (List Int)}{s:List Int}(h:SJ n w b rs i st lf)(hp:p+i+1=w)(hw:w<=n)(he:Eqv n lf (s::os))(hs:0<s.getD p 0)(h0:∀ v∈os,v.getD p 0=0)(hl:Len n (s::os))
  (hb:∀ v∈s::os,de (6*(2 ^ gs b i*(2 ^ gs b i*2 ^ gs b i))) v) (hc:os.length+1<=lf.length) (Pg:at' p s<=2 ^ gs b i):SJ n w b rs (i+1) (st.map (bN p s)++[s]) os:=by
 have ls:s.length=n:=hl s (.head _)
 have lo:Len n os:=fun v hv=>hl v (.tail _ hv)
 have za:∀ v∈s::os,∀ j,w - i<=j->j<w->v.getD j 0=0:=fun v hv j h1 h2=>Span.Lp h.SG (he.2 v hv) fun r hr=>h.z r hr j h1 h2
 have hL:Led (s.take w) p:=⟨by rw [iD _ (by lia)];exact hs,fun j hj=>by
  by_cases e:j<w
  ·rw [iD _ e];exact za s (.head _) j (by lia) e
  ·exact pJ _ (by lia)⟩
 have lt:Len w (st.map (List.take w)):=fun r hr=>by
  obtain ⟨v,hv,rfl⟩:=aa8.mp hr
  exact ie (h.lst v hv) hw
 have d6:∀ r∈st.map (List.take w),∃ k,p<k/\Led r k:=fun r hr=>by
  obtain ⟨v,hv,rfl⟩:=aa8.mp hr
  obtain ⟨k,h1,h2⟩:=h.ld v hv
  exact⟨k,by lia,h2⟩
 have em:(st.map (bN p s)++[s]).map (List.take w)=(st.map (List.take w)).map (bN p (s.take w))++[s.take w]:=by
  rw [abl,abm,abm]
  congr 1
  exact abn fun v _=>mH (by lia)
 have hS:=SF.add h.sf d6 lt (ie ls hw) hL
 refine⟨by rw [em];exact hS.1,fun r hr=>?_,fun r hr=>?_,lo,fun v hv j h1 h2=>?_,?_,fun v hv=>(hb v (.tail _ hv)).mono (aaL (jE b i)),fun v hv=>?_,fun v hv k hk=>?_,?_,?_⟩
 ·rcases aa2.mp hr with z|z
  ·obtain ⟨v,hv,rfl⟩:=aa8.mp z
   obtain ⟨k,h1,h2⟩:=h.ld v hv
   refine⟨k,by lia,?_⟩
   rw [mH (by lia)]
   exact (Led.bN (ie (h.lst v hv) hw) (ie ls hw) hL (by lia)).mpr h2
  ·rw [aa1.mp z]
   exact⟨p,by lia,hL⟩
 ·rcases aa2.mp hr with z|z
  ·obtain ⟨v,hv,rfl⟩:=aa8.mp z
   exact gf (h.lst v hv) ls
  ·rw [aa1.mp z];exact ls
 ·by_cases e:j=p
  ·rw [e];exact h0 v hv
  ·exact za v (.tail _ hv) j (by lia) h2
 ·exact (h.e.trans he.app).trans (Eqv.add h.lst ls)
 ·have bS:=(hb s (.head _)).mono (aaL (jE b i))
  rcases aa2.mp hv with z|z
  ·obtain ⟨u,hu,rfl⟩:=aa8.mp z
   refine (uk (h.lst u hu) ls (by lia) (h.bs u hu) bS).mono ?_
   have h1:0<(2:Nat) ^ ss b i:=abq _
   have h2:0<(2:Nat) ^ gs b (i+1):=abq _
   have h3:(2:Nat) ^ ss b i<=2 ^ gs b (i+1)*2 ^ ss b i:=Nat.le_mul_of_pos_left _ h2
   rw [ss,pow_add,pow_add,Nat.mul_comm (2 ^ ss b i)]
   lia
  ·rw [aa1.mp z]
   exact bS.mono (aba (by decide) (by rw [ss];lia))
 ·rcases aa2.mp hv with z|z
  ·obtain ⟨u,hu,rfl⟩:=aa8.mp z
   obtain ⟨k',h1,h2⟩:=h.ld u hu
   have h3:=(Led.bN (ie (h.lst u hu) hw) (ie ls hw) hL (show p<k' by lia)).mpr h2
   rw [<- mH (by lia)] at h3
   have e:=hk.uniq h3
   subst e
   have hkw:k<w:=by
    have:=hk.1
    by_cases c:k<w
    ·exact c
    ·rw [pJ _ (by lia)] at this
     exact absurd this (by decide)
   rw [d8 (h.lst u hu) ls (za s (.head _) k (by lia) hkw)]
   exact h.lb u hu k h2
  ·rw [aa1.mp z] at hk ⊢
   have e:=hk.uniq hL
   rw [e,show w - 1 - p=i by lia]
   exact Pg
 ·have:=h.c1
  lia
 ·have:=h.c2
  rw [aa5,aa4]
  simp
  exact this
theorem SJ.all{n b:Nat}{rs st lf:List (List Int)}(h:SJ n n b rs n st lf):SF st/\Eqv n rs st:=by
 have e:st.map (List.take n)=st:=by
  rw [show st=st.map id by simp,abm]
  exact abn fun v hv=>abo (le_of_eq (h.lst v hv))
 have z:∀ v∈lf,v=pI n:=fun v hv=>bI (h.SG v hv) (bH n) fun i hi=>by rw [dH];exact h.z v hv i (by lia) hi
 refine⟨by rw [<- e];exact h.sf,h.e.trans ⟨fun r hr=>?_,fun r hr=>Span.mem (aa0 _ hr)⟩⟩
 rcases aa2.mp hr with y|y
 ·exact Span.mem y
 ·rw [z r y];exact Span.zero
def Ph(i:Nat):List (List Int)->List Int->Int
 | r::rs,p::ps=>p*r.getD i 0+Ph i rs ps
 | _,_=>0
def Mk(w:Nat)(rs:List (List Int))(v:List Int):Prop:=∀ i,i<w->v.getD i 0=Ph i rs (v.drop w)
structure LB(n w:Nat)(st:List (List Int))(i:Nat)(u v:List Int):Prop where
 len:v.length=n
 made:Span n st (sub u v)
 small:∀ j s k,j<i->st[j]?=some s->Led (s.take w) k->0<=v.getD k 0/\v.getD k 0<s.getD k 0
theorem fU{n:Nat}{u:List Int}(h:u.length=n):sub u u=pI n:=bI (sub_len h h) (bH n) fun i _=>by rw [bC h h,dH];lia
theorem LB.start{n w:Nat}{st:List (List Int)}{u:List Int}(h:u.length=n):LB n w st 0 u u:=⟨h,by rw [fU h];exact Span.zero,fun j s k hj=>by lia⟩
theorem um{s:List Int}{w k:Nat}(h:Led (s.take w) k):k<w:=by
 have:=h.1
 by_cases c:k<w
 ·exact c
 ·rw [pJ _ (by lia)] at this
  exact absurd this (by decide)
theorem LB.step{n w i k:Nat}{st:List (List Int)}{s u v:List Int}(h:LB n w st i u v)(lu:u.length=n)(hs:st[i]?=some s)(ls:s.length=n)(sf:SF (st.map (List.take w)))(hk:Led (s.take w) k):LB n w st (i+1) u (bN k s v):=by
 have kw:=um hk
 have rh:0<s.getD k 0:=by have:=hk.1;rwa [iD _ kw] at this
 have lH:s∈st:=aa3 hs
 refine⟨gf h.len ls,?_,fun j a k' hj ha jd=>?_⟩
 ·have e:sub u (bN k s v)=low (sub u v) s (-(qt v s k)):=bI (sub_len lu (gf h.len ls)) (bJ (sub_len lu h.len) ls) fun i _=>by
   rw [bC lu (gf h.len ls),bN,cu h.len ls,cu (sub_len lu h.len) ls,bC lu h.len,mul_neg]
   lia
  rw [e]
  exact Span.low (sub_len lu h.len) ls h.made (Span.mem lH) _
 ·by_cases c:j=i
  ·subst c
   rw [hs] at ha
   cases ha
   have e:=jd.uniq hk
   subst e
   rw [mG h.len ls]
   have:=nN (v.getD k' 0) (show s.getD k' 0≠0 by lia)
   have h2:=this.2.1 rh
   lia
  ·have SH:j<i:=by lia
   have hb:Bef (a.take w) (s.take w):=by
    have h1:(st.map (List.take w))[j]?=some (a.take w):=by rw [abk,ha];rfl
    have h2:(st.map (List.take w))[i]?=some (s.take w):=by rw [abk,hs];rfl
    obtain ⟨p1,e1⟩:=aaG.mp h1
    obtain ⟨p2,e2⟩:=aaG.mp h2
    have:=List.pairwise_iff_getElem.mp sf.2 j i p1 p2 SH
    rw [e1,e2] at this
    exact this
   obtain ⟨⟨k2,h1,h2⟩,_⟩:=hb k hk
   have e:=jd.uniq h2
   subst e
   have hz:s.getD k' 0=0:=by
    have:=hk.2 k' h1
    rwa [iD _ (um jd)] at this
   rw [d8 h.len ls hz]
   exact h.small j a k' SH ha jd
def dt(a b:List Int):Int:=(List.zipWith (·*·) a b).sum
def pd(R:List (List Int)):Nat->Nat->Int
 | _,0=>1
 | h,k+1=>(R.getD h []).getD h 0*pd R (h+1) k
theorem Bi{r:List Int}{h:Nat}(hl:r.length=5)(h1:Led r h):h<5:=by
 have:=h1.1
 by_cases c:h<5
 ·exact c
 ·rw [List.getD,getElem?_eq_none (by lia)] at this
  exact absurd this (by decide)
theorem G6{v:List Int}{n:Nat}(hl:v.length=n)(h:v≠pI n):∃ k,k<n/\v.getD k 0≠0/\∀ i,k<i->v.getD i 0=0:=by
 have:∀ m,m<=n->(∀ i,m<=i->v.getD i 0=0)->∃ k,k<n/\v.getD k 0≠0/\∀ i,k<i->v.getD i 0=0:=by
  intro m
  induction m with
  | zero=>intro _ hz;exact absurd (bI hl (bH n) fun i _=>by rw [hz i (abr _),dH]) h
  | succ m ih =>
   intro hm hz
   by_cases c:v.getD m 0=0
   ·exact ih (by lia) fun i hi=>by
     by_cases e:i=m
     ·rw [e];exact c
     ·exact hz i (by lia)
   ·exact⟨m,by lia,c,fun i hi=>hz i (by lia)⟩
 exact this n (aaK _) fun i hi=>by rw [List.getD,getElem?_eq_none (by lia)];rfl
theorem SF.wc{n j:Nat}:∀ {bs:List (List Int)} {v:List Int},SF bs->Len n bs->Span n bs v->v.getD j 0≠0->(∀ i,j<i->v.getD i 0=0)->∃ u∈bs,Led u j/\(u.getD j 0).natAbs<=(v.getD j 0).natAbs
 | [],v,_,_,hv,h0,_=>by
  rw [hv.none,dH] at h0
  exact absurd rfl h0
 | a::rs,v,h,hl,hv,h0,hz=>by
  obtain ⟨k,hk⟩:=h.1 a (.head _)
  have la:=hl a (.head _)
  have lr:Len n rs:=fun r hr=>hl r (.tail _ hr)
  obtain ⟨c,_,e,z⟩:=h.split la lr hk hv
  rcases Nat.lt_trichotomy k j with q|q|q
  ·exact absurd (z j q) h0
  ·subst q
   refine⟨a,.head _,hk,?_⟩
   have hc:c≠0:=fun z=>h0 (by rw [e,z,Int.mul_zero])
   rw [e,abp]
   exact Nat.le_mul_of_pos_right _ (by lia)
  ·obtain ⟨u,hu,r⟩:=SF.wc h.tail lr (h.rest la lr hk hv (hz k q)) h0 hz
   exact⟨u,.tail _ hu,r⟩
theorem SF.Al:∀ {rs:List (List Int)} {t u:List Int} {k:Nat},SF rs->t∈rs->u∈rs->Led u k->0<=t.getD k 0/\t.getD k 0<=u.getD k 0
 | [],_,_,_,_,h,_,_=>nomatch h
 | a::rs,t,u,k,h,ht,hu,hk=>by
  have hp:=abv.mp h.2
  rcases aa7.mp ht with rfl|Gj
  ·rcases aa7.mp hu with rfl|CL
   ·exact⟨Int.le_of_lt hk.1,Int.le_refl _⟩
   ·have:=(hp.1 u CL k hk).2
    exact⟨this.1,Int.le_of_lt this.2⟩
  ·rcases aa7.mp hu with rfl|CL
   ·rw [h.v9 hk (aaK _) t Gj]
    exact⟨Int.le_refl _,Int.le_of_lt hk.1⟩
   ·exact SF.Al h.tail Gj CL hk
theorem SF.count:∀ {rs:List (List Int)} {n:Nat},SF rs->(∀ r∈rs,∀ k,Led r k->k<n)->rs.length<=n
 | [],_,_,_=>abr _
 | a::rs,n,h,hk=>by
  obtain ⟨j,hj⟩:=h.1 a (.head _)
  have:=hk a (.head _) j hj
  have ih:=SF.count h.tail (n:=j) fun r hr k jd=>by
   obtain ⟨⟨j',JQ,lj⟩,_⟩:=(abv.mp h.2).1 r hr k jd
   have:=lj.uniq hj
   lia
  rw [length_cons]
  lia
def VZ(w:List Int)(m:Int)(x:List Int):Prop:=m ∣ dt x w
structure Lo(ks:List (List Int×Int))(st:List (List Int)):Prop where
 sf:SF st
 len:Len 5 st
 all:∀ x,Span 5 st x↔x.length=5/\∀ k∈ks,VZ k.1 k.2 x
def lb(W:Nat):Nat->Nat
 | 0=>0
 | i+1=>3*lb W i+2*W+12
theorem dh{α:Type}{r:List α}(h:r.length=5):∃ a b c d e,r=[a,b,c,d,e]:=by
 match r,h with
 | [a,b,c,d,e],_=>exact⟨a,b,c,d,e,rfl⟩
end d7
namespace og
open PySem PySem.Builtin PySem.Builtin.Str PySem.StrLaws
def dgt(c:Nat):Bool:=decide (48<=c) && decide (c<=57)
def cnt(z:Str)(m:Nat):Bool:=(decide (1<=z.length/\z.length<=m) && (z.cps[0]? != some 48)) && z.cps.toList.all dgt
end og
namespace og
open PySem PySem.Builtin PySem.Builtin.Str PySem.StrLaws PySem.NumText PySem.W.KIN PyProof.Rows
def num(z:Str):Nat:=digitsVal z.cps.toList
abbrev txt(n:Nat):Str:=PySem.Str.ofString (toString ((n:Nat):Int))
theorem DX:∀ m:Nat,0<m->((Nat.toDigits 10 m).map Char.toNat)[0]?≠some 48:=by
 intro m
 induction m using Nat.strongRecOn with
 | _ m ih =>
  intro hm
  by_cases h:m<10
  ·rw [Nat.toDigits_of_lt_base h]
   rcases (show m=1\/m=2\/m=3\/m=4\/m=5\/m=6\/m=7\/m=8\/m=9 by lia) with rfl|rfl|rfl|rfl|rfl|rfl|rfl|rfl|rfl <;> decide
  ·have j9:m % 10<10:=mod_lt m (by decide)
   have t:Nat.toDigits 10 (m / 10)++Nat.toDigits 10 (m % 10)=Nat.toDigits 10 (10*(m / 10)+m % 10):=Nat.toDigits_append_toDigits (by decide) (by lia) j9
   rw [Nat.div_add_mod] at t
   have:=ih (m / 10) (by lia) (by lia)
   rw [<- t,abl,List.getElem?_append]
   split
   ·exact this
   ·rename_i hl
    rw [getElem?_eq_none (by lia)] at this
    intro _
    have h1:=digitsVal
    have hv:=val_back (m / 10)
    rw [List.eq_nil_of_length_eq_zero (show ((Nat.toDigits 10 (m / 10)).map Char.toNat).length=0 by lia)] at hv
    have:(0:Nat)=m / 10:=hv
    lia
theorem uo:∀ (k m:Nat),0<k->m<10 ^ k->(Nat.toDigits 10 m).length<=k
 | 0,_,h,_=>absurd h (by decide)
 | 1,m,_,h=>by rw [Nat.toDigits_of_lt_base (by simpa using h)];exact aaK _
 | k+2,m,_,h=>by
  by_cases Pj:m<10
  ·rw [Nat.toDigits_of_lt_base Pj];simp
  ·have j9:m % 10<10:=mod_lt m (by decide)
   have t:Nat.toDigits 10 (m / 10)++Nat.toDigits 10 (m % 10)=Nat.toDigits 10 (10*(m / 10)+m % 10):=Nat.toDigits_append_toDigits (by decide) (by lia) j9
   rw [Nat.div_add_mod] at t
   have:=uo (k+1) (m / 10) (by lia) (by rw [pow_succ] at h;lia)
   rw [<- t,aa5,Nat.toDigits_of_lt_base j9]
   show _+1<=_
   lia
theorem Am{n m:Nat}(h0:0<n)(hm:0<m)(h:n<10 ^ m):cnt (txt n) m=true/\num (txt n)=n:=by
 have hs:=signs_num n
 have hl:(txt n).length=(Nat.toDigits 10 n).length:=by
  show (txt n).cps.size=_
  rw [<- Array.length_toList,hs,aa4]
 have h2:=uo m n hm h
 refine⟨?_,?_⟩
 ·unfold cnt
  rw [Bool.and_eq_true,Bool.and_eq_true,decide_eq_true_eq]
  have Lr:1<=(Nat.toDigits 10 n).length:=by
   have hv:=val_back n
   rcases eq_zero_or_pos (Nat.toDigits 10 n).length with e|e
   ·rw [List.eq_nil_of_length_eq_zero e] at hv
    have:(0:Nat)=n:=hv
    lia
   ·exact e
  refine⟨⟨⟨by lia,by lia⟩,?_⟩,?_⟩
  ·rw [bne_iff_ne,<- Array.getElem?_toList,hs]
   exact DX n h0
  ·rw [hs,all_eq_true]
   intro c hc
   obtain ⟨ch,vA,e⟩:=aa8.mp hc
   have r:=digit_range (Nat.isDigit_of_mem_toDigits (by decide) (by decide) vA)
   unfold dgt
   rw [Bool.and_eq_true,decide_eq_true_eq,decide_eq_true_eq,<- e]
   exact r
 ·unfold num
  rw [hs]
  exact val_back n
end og
namespace og
open PySem PySem.Builtin PySem.Builtin.Str PySem.StrLaws
theorem yv{z:Str}{m:Nat}(h:z.cps[0]?=some 48):cnt z m=false:=by
 unfold cnt;rw [h];simp
theorem wd{n m:Nat}(hm:0<m)(h:n<10 ^ m):(txt n).length<=m:=by
 have hs:=PySem.W.KIN.signs_num n
 show (txt n).cps.size<=m
 rw [<- Array.length_toList,hs,aa4]
 exact uo m n hm h
end og
namespace og
open PySem PySem.Builtin PySem.Builtin.Str PySem.StrLaws PySem.NumText PySem.W.KIN PyProof.Rows
theorem Ls{i:Int}(h:i.natAbs<2 ^ 1920):i.natAbs.log2<1920:=by
 rcases eq_zero_or_pos i.natAbs with e|e
 ·rw [e];decide
 ·exact (log2_lt (by lia)).mpr h
end og
namespace kL
open PySem PySem.Builtin PySem.Builtin.Str PySem.StrLaws PyProof.Rows
def seg(c d:Nat)(k:Int):List Nat:=List.replicate k.toNat c++List.replicate (-k).toNat d
def Ur(y:Str)(m:Nat):Option Int :=
 if y=⟨#[48]⟩ then some 0 else if y.cps[0]?=some 45 then (if og.cnt ⟨(y.cps.toList.drop 1).toArray⟩ m=true then some (-((og.num ⟨(y.cps.toList.drop 1).toArray⟩:Nat):Int)) else none) else if og.cnt y m=true then some ((og.num y:Nat):Int) else none
end kL
namespace kL
open PySem PySem.Builtin PySem.Builtin.Str PySem.StrLaws PySem.NumText PySem.W.KIN PyProof.Rows
theorem we(l:List Nat):(⟨l.toArray⟩:Str).cps.toList=l:=List.toList_toArray ..
theorem G7{y z:Str}(h:y.cps.toList=z.cps.toList):y=z:=by
 cases y;cases z
 congr 1
 exact Array.ext' h
end kL
namespace kL
open PySem PySem.NumText PySem.W.KIN PyProof.Rows
theorem app_list(a b:Str):(a++b).cps.toList=a.cps.toList++b.cps.toList:=by
 show (a.cps++b.cps).toList=_
 rw [Array.toList_append]
theorem DY(n:Nat):(Str.ofString (toString (-((n+1:Nat):Int)))).cps.toList=45::(og.txt (n+1)).cps.toList:=by
 rw [signs_num,signs_ofString]
 show ("-"++Nat.repr (n+1)).toList.map Char.toNat=_
 rw [String.toList_append,abl,Nat.toList_repr]
 rfl
theorem Lu{o:Int}(h1:-9999<=o)(h2:o<=9999):Ur (Str.ofString (toString o)) 4=some o/\(Str.ofString (toString o)).length<=5:=by
 rcases Int.lt_trichotomy o 0 with h|h|h
 ·obtain ⟨n,rfl⟩:∃ n:Nat,o=-((n+1:Nat):Int):=⟨(-o).toNat - 1,by lia⟩
  have hl:=DY n
  have ht:=og.Am (n:=n+1) (m:=4) (by lia) (by decide) (by lia)
  have hs:=og.wd (n:=n+1) (m:=4) (by decide) (by lia)
  have hlen:(Str.ofString (toString (-((n+1:Nat):Int)))).length=(og.txt (n+1)).length+1:=by
   show (Str.ofString (toString (-((n+1:Nat):Int)))).cps.size=_
   rw [<- Array.length_toList,hl,length_cons,Array.length_toList]
   rfl
  refine⟨?_,by lia⟩
  have hd:(⟨((Str.ofString (toString (-((n+1:Nat):Int)))).cps.toList.drop 1).toArray⟩:Str)=og.txt (n+1):=by
   apply G7
   rw [we,hl]
   rfl
  unfold Ur
  rw [if_neg (fun e=>by rw [e] at hl;cases hl),if_pos (by rw [<- Array.getElem?_toList,hl];rfl),hd,ht.1,ht.2,if_pos rfl]
 ·subst h
  exact⟨by decide +kernel,by decide +kernel⟩
 ·obtain ⟨n,rfl⟩:=Int.eq_ofNat_of_zero_le (Int.le_of_lt h)
  have ht:=og.Am (n:=n) (m:=4) (by lia) (by decide) (by lia)
  have hs:=og.wd (n:=n) (m:=4) (by decide) (by lia)
  have h45:(og.txt n).cps[0]?≠some 45:=fun e=>by
   have hc:=ht.1
   unfold og.cnt at hc
   rw [Bool.and_eq_true] at hc
   have hm:45∈(og.txt n).cps.toList:=aa3 (i:=0) (by rw [Array.getElem?_toList];exact e)
   exact absurd (all_eq_true.mp hc.2 45 hm) (by decide)
  have h48:og.txt n≠⟨#[48]⟩:=fun e=>by
   have hc:=ht.1
   rw [e,og.yv (by rfl)] at hc
   cases hc
  refine⟨?_,aaJ hs (by decide)⟩
  unfold Ur
  rw [show Str.ofString (toString ((n:Nat):Int))=og.txt n from rfl,if_neg h48,if_neg h45,ht.1,ht.2,if_pos rfl]
end kL
namespace d7
def gens(ms:List Int)(rs:List (List Int)):List (List Int):=(List.range 5).map fun i=>cA (rs.getD i []) (ms.getD i 0)
end d7
namespace Gap
structure Sg(P:Int->Int->Prop):Prop where
 add:∀ {n j n' j':Int},P n j->P n' j'->P (n+n') (j+j')
 neg:∀ {n j:Int},P n j->P (-n) (-j)->False
 tot:∀ n j:Int,j≠0->P n j\/P (-n) (-j)
 oct:∀ {n:Int},P n 0->0<n
section
variable {P:Int->Int->Prop}{o:Int->Int}{N:Int}
structure Ch(P:Int->Int->Prop)(o:Int->Int)(N:Int):Prop where
 s:Sg P
 z:o 0=0
 f:∀ j,0<j->j<N->P (o j) j/\P (1 - o j) (-j)
variable (C:Ch P o N)
include C
variable {a b:Int}(a0:0<a)(a1:a<N)(mn:∀ j,0<j->j<N->j≠a->P (o j - o a) (j - a))(b0:0<b)(b1:b<N)(mx:∀ j,0<j->j<N->j≠b->P (o b - o j) (b - j))
include a0 a1 mn in
include a0 a1 mn in
include b0 b1 mx in
include b0 b1 mx in
include a0 a1 mn b0 b1 mx in
include a0 a1 mn b0 b1 mx in
include a0 a1 mn b0 b1 mx in
end
end Gap
namespace kL
open PySem
def J(c:Nat):List (List Nat)->List Nat
 | []=>[]
 | [x]=>x
 | x::y::r=>x++c::J c (y::r)
end kL
namespace d7
def tq(q:Nat)(s v:List Int):List Int:=sub (cA v (s.getD q 0)) (cA s (v.getD q 0))
theorem eF{q n:Nat}{s v:List Int}(ls:s.length=n)(lv:v.length=n):(tq q s v).length=n:=sub_len (aB lv) (aB ls)
theorem eO{q n:Nat}{s v:List Int}(ls:s.length=n)(lv:v.length=n)(i:Nat):(tq q s v).getD i 0=v.getD i 0*s.getD q 0 - s.getD i 0*v.getD q 0:=by
 rw [tq,bC (aB lv) (aB ls),bq,bq]
theorem An{q n:Nat}{s v:List Int}(ls:s.length=n)(lv:v.length=n):(tq q s v).getD q 0=0:=by
 rw [eO ls lv,Int.mul_comm,Int.sub_self]
theorem Lv{q n e:Nat}{s v:List Int}(ls:s.length=n)(lv:v.length=n)(hs:de (2 ^ e) s)(hv:de (2 ^ e) v):de (2 ^ (2*e+1)) (tq q s v):=fun i=>by
 rw [eO ls lv]
 have h1:(v.getD i 0*s.getD q 0).natAbs<=2 ^ e*2 ^ e:=by rw [abp];exact abd (hv i) (hs q)
 have h2:(s.getD i 0*v.getD q 0).natAbs<=2 ^ e*2 ^ e:=by rw [abp];exact abd (hs i) (hv q)
 have e1:(2:Nat) ^ (2*e+1)=2 ^ e*2 ^ e+2 ^ e*2 ^ e:=by rw [pow_succ,Nat.two_mul,pow_add,Nat.mul_two]
 rw [e1]
 exact aaJ (natAbs_sub_le _ _) (Nat.add_le_add h1 h2)
theorem Span.tq{n q:Nat}{rs:List (List Int)}{s v:List Int}(ls:s.length=n)(hl:Len n rs)(h:Span n rs v):Span n (rs.map (d7.tq q s)) (d7.tq q s v):=by
 have:=h (fun v=>v.length=n/\Span n (rs.map (d7.tq q s)) (d7.tq q s v)) ⟨⟨bH n,?_⟩,fun a b la lb ha hb=>⟨sub_len la lb,?_⟩⟩ fun r hr=>⟨hl r hr,Span.mem (aa8.mpr ⟨r,hr,rfl⟩)⟩
 ·exact this.2
 ·have e:d7.tq q s (pI n)=pI n:=bI (eF ls (bH n)) (bH n) fun i _=>by rw [eO ls (bH n),dH,dH];simp
  rw [e]
  exact Span.zero
 ·have e:d7.tq q s (d7.sub a b)=d7.sub (d7.tq q s a) (d7.tq q s b):=bI (eF ls (sub_len la lb)) (sub_len (eF ls la) (eF ls lb)) fun i _=>by
   rw [eO ls (sub_len la lb),bC (eF ls la) (eF ls lb),eO ls la,eO ls lb,bC la lb,bC la lb,Int.sub_mul,Int.mul_sub]
   lia
  rw [e]
  exact Span.sub (eF ls la) (eF ls lb) ha.2 hb.2
theorem Span.Lw{n q:Nat}{rs:List (List Int)}{s v:List Int}(ls:s.length=n)(lv:v.length=n)(hs:Span n rs s)(hv:Span n rs v):Span n rs (d7.tq q s v) :=
 Span.sub (aB lv) (aB ls) (Span.mul lv hv _) (Span.mul ls hs _)
theorem wj{n:Nat}{x:List Int}(lx:x.length=n):cA x 1=x:=bI (aB lx) lx fun i _=>by rw [bq,Int.mul_one]
theorem Bj{n:Nat}{x:List Int}(lx:x.length=n)(c d:Int):cA (cA x c) d=cA x (c*d):=bI (aB (aB lx)) (aB lx) fun i _=>by rw [bq,bq,bq,Int.mul_assoc]
theorem Lx{n q e:Nat}{rs:List (List Int)}(hl:Len n rs)(hb:∀ r∈rs,de (2 ^ e) r):∃ Bk,Len n Bk/\(∀ r∈Bk,Span n rs r)/\(∀ r∈Bk,r.getD q 0=0)/\(∀ i,(∀ r∈rs,r.getD i 0=0)->∀ r∈Bk,r.getD i 0=0)/\(∀ r∈Bk,de (2 ^ (2*e+1)) r)/\∀ x,x.getD q 0=0->Span n rs x->∃ d:Int,d≠0/\Span n Bk (cA x d):=by
 by_cases h:∀ r∈rs,r.getD q 0=0
 ·exact⟨rs,hl,fun r hr=>Span.mem hr,h,fun i hi=>hi,fun r hr=>(hb r hr).mono (aba (by decide) (by lia)),fun x _ hx=>⟨1,by decide,by rw [wj (hx.len hl)];exact hx⟩⟩
 ·obtain ⟨s,h⟩:=Classical.not_forall.mp h
  obtain ⟨hs,h0⟩:=Classical.not_imp.mp h
  have ls:=hl s hs
  refine⟨rs.map (tq q s),fun r hr=>?_,fun r hr=>?_,fun r hr=>?_,fun i hi r hr=>?_,fun r hr=>?_,fun x hx hsx=>⟨s.getD q 0,h0,?_⟩⟩
  ·obtain ⟨v,hv,rfl⟩:=aa8.mp hr
   exact eF ls (hl v hv)
  ·obtain ⟨v,hv,rfl⟩:=aa8.mp hr
   exact Span.Lw ls (hl v hv) (Span.mem hs) (Span.mem hv)
  ·obtain ⟨v,hv,rfl⟩:=aa8.mp hr
   exact An ls (hl v hv)
  ·obtain ⟨v,hv,rfl⟩:=aa8.mp hr
   rw [eO ls (hl v hv),hi v hv,hi s hs]
   simp
  ·obtain ⟨v,hv,rfl⟩:=aa8.mp hr
   exact Lv ls (hl v hv) (hb s hs) (hb v hv)
  ·have lx:=hsx.len hl
   have ex:cA x (s.getD q 0)=d7.tq q s x:=bI (aB lx) (eF ls lx) fun i _=>by
    rw [bq,eO ls lx,hx];simp
   rw [ex]
   exact Span.tq ls hl hsx
def eb:Nat->Nat->Nat
 | 0,e=>e
 | k+1,e=>eb k (2*e+1)
theorem JR:∀ (k e:Nat),e<=eb k e
 | 0,e=>aaK e
 | k+1,e=>by have:=JR k (2*e+1);rw [eb];lia
theorem Ao:∀ {k l e:Nat},k<=l->eb k e<=eb l e
 | 0,l,e,_=>JR l e
 | k+1,l+1,e,h=>by rw [eb,eb];exact Ao (by lia)
theorem DZ{n:Nat}:∀ (qs:List Nat) {rs:List (List Int)} {e:Nat},Len n rs->(∀ r∈rs,de (2 ^ e) r)->∃ Bk,Len n Bk/\(∀ r∈Bk,Span n rs r)/\(∀ q∈qs,∀ r∈Bk,r.getD q 0=0)/\(∀ i,(∀ r∈rs,r.getD i 0=0)->∀ r∈Bk,r.getD i 0=0)/\(∀ r∈Bk,de (2 ^ eb qs.length e) r)/\∀ x,(∀ q∈qs,x.getD q 0=0)->Span n rs x->∃ d:Int,d≠0/\Span n Bk (cA x d)
 | [],rs,e,hl,hb=>⟨rs,hl,fun r hr=>Span.mem hr,(fun _ h=>nomatch h),fun i hi=>hi,hb,fun x _ hx=>⟨1,by decide,by rw [wj (hx.len hl)];exact hx⟩⟩
 | q::qs,rs,e,hl,hb=>by
  obtain ⟨r1,l1,s1,z1,k1,b1,f1⟩:=Lx (q:=q) hl hb
  obtain ⟨r2,l2,s2,z2,k2,b2,f2⟩:=DZ qs l1 b1
  refine⟨r2,l2,fun r hr=>(s2 r hr).of s1,fun p hp r hr=>?_,fun i hi=>k2 i (k1 i hi),b2,fun x hx hs=>?_⟩
  ·rcases aa7.mp hp with rfl|hp
   ·exact k2 p z1 r hr
   ·exact z2 p hp r hr
  ·have lx:=hs.len hl
   obtain ⟨d,hd,h1⟩:=f1 x (hx q (.head _)) hs
   obtain ⟨c,hc,h2⟩:=f2 (cA x d) (fun p hp=>by rw [bq,hx p (.tail _ hp),zero_mul]) h1
   exact⟨d*c,Int.mul_ne_zero hd hc,by rw [<- Bj lx];exact h2⟩
theorem SF.cleared{n k:Nat}:∀ {rs:List (List Int)} {x:List Int},SF rs->Len n rs->x.length=n->x.getD k 0≠0->(∀ u∈rs,u.getD k 0=0)->∃ y,y.length=n/\y.getD k 0≠0/\(∀ u∈rs,∀ j,Led u j->y.getD j 0=0)/\(∀ ts,(∀ u∈rs,Span n ts u)->Span n ts x->Span n ts y)/\∀ i,x.getD i 0=0->(∀ u∈rs,u.getD i 0=0)->y.getD i 0=0
 | [],x,_,_,lx,h0,_=>⟨x,lx,h0,(fun _ h=>nomatch h),fun _ _ h=>h,fun _ h _=>h⟩
 | u::us,x,sf,hl,lx,h0,hk=>by
  obtain ⟨j,hj⟩:=sf.1 u (.head _)
  have lu:=hl u (.head _)
  have lus:Len n us:=fun r hr=>hl r (.tail _ hr)
  have Us:u.getD j 0≠0:=by have:=hj.1;lia
  obtain ⟨y,ly,y0,yz,ys,yi⟩:=SF.cleared (x:=tq j u x) sf.tail lus (eF lu lx) (by
   rw [eO lu lx,hk u (.head _),zero_mul,Int.sub_zero]
   exact Int.mul_ne_zero h0 Us) fun r hr=>hk r (.tail _ hr)
  refine⟨y,ly,y0,fun r hr i hi=>?_,fun ts ht hx=>ys ts (fun r hr=>ht r (.tail _ hr)) (Span.Lw lu lx (ht u (.head _)) hx),fun i hi hz=>yi i ?_ fun r hr=>hz r (.tail _ hr)⟩
  ·rcases aa7.mp hr with rfl|hr
   ·rw [hi.uniq hj]
    exact yi j (An lu lx) (sf.v9 hj (aaK _))
   ·exact yz r hr i hi
  ·rw [eO lu lx,hi,hz u (.head _)]
   simp
theorem SF.Pk{n:Nat}:∀ {rs:List (List Int)} {t:List Int} {k:Nat},SF rs->Len n rs->t∈rs->Led t k->∃ y,Span n rs y/\y.getD k 0≠0/\∀ u∈rs,∀ j,Led u j->j≠k->y.getD j 0=0
 | [],_,_,_,_,h,_=>nomatch h
 | a::rs,t,k,sf,hl,ht,hk=>by
  have la:=hl a (.head _)
  have lr:Len n rs:=fun r hr=>hl r (.tail _ hr)
  obtain ⟨ja,hja⟩:=sf.1 a (.head _)
  rcases aa7.mp ht with rfl|Gj
  ·obtain ⟨y,ly,y0,yz,ys,_⟩:=SF.cleared (k:=k) (x:=t) sf.tail lr la (by have:=hk.1;lia) (sf.v9 hk (aaK _))
   refine⟨y,ys _ (fun u hu=>Span.mem (.tail _ hu)) (Span.mem (.head _)),y0,fun u hu j hj Pl=>?_⟩
   rcases aa7.mp hu with rfl|hu
   ·exact absurd (hj.uniq hk) Pl
   ·exact yz u hu j hj
  ·obtain ⟨y,ys,y0,yz⟩:=SF.Pk sf.tail lr Gj hk
   refine⟨y,ys.of fun u hu=>Span.mem (.tail _ hu),y0,fun u hu j hj Pl=>?_⟩
   rcases aa7.mp hu with rfl|hu
   ·exact Span.Lp lr ys (sf.v9 hj (aaK _))
   ·exact yz u hu j hj Pl
theorem SF.Ly{n:Nat}{T:List (List Int)}{v:List Int}(sf:SF T)(hl:Len n T)(h:Span n T v)(h0:∀ u∈T,∀ j,Led u j->v.getD j 0=0):v=pI n :=
 SF.small sf hl h fun r hr k hk=>by rw [h0 r hr k hk];have:=hk.1;lia
theorem SF.spread{n V:Nat}{T:List (List Int)}(sf:SF T)(hl:Len n T):∀ (ps:List (Nat×List Int)) {c:Nat} {v:List Int},Span n T v->(∀ p∈ps,Span n T p.2/\p.2.getD p.1 0≠0/\de V p.2/\∀ u∈T,∀ j,Led u j->j≠p.1->p.2.getD j 0=0)->(∀ p∈ps,∃ u∈T,Led u p.1)->(∀ u∈T,∀ j,Led u j->(∃ p∈ps,p.1=j)\/v.getD j 0=0)->(∀ p∈ps,(v.getD p.1 0).natAbs<=c*(p.2.getD p.1 0).natAbs)->de (ps.length*(c*V)) v
 | [],c,v,hv,_,_,h0,_=>fun i=>by
  rw [sf.Ly hl hv fun u hu j hj=>(h0 u hu j hj).elim (fun ⟨_,h,_⟩=>nomatch h) id,dH]
  exact abr _
 | p::ps,c,v,hv,hp,hu,h0,hc=>by
  obtain ⟨sp,p0,pb,pz⟩:=hp p (.head _)
  have lp:=sp.len hl
  have lv:=hv.len hl
  have ih:=SF.spread sf hl ps (c:=c*(p.2.getD p.1 0).natAbs) (v:=tq p.1 p.2 v) (Span.Lw lp lv sp hv) (fun q hq=>hp q (.tail _ hq)) (fun q hq=>hu q (.tail _ hq)) (fun u CL j hj=>?_) (fun q hq=>?_)
  ·intro i
   have h1:=ih i
   rw [eO lp lv] at h1
   have rh:0<(p.2.getD p.1 0).natAbs:=by lia
   have h2:(p.2.getD i 0*v.getD p.1 0).natAbs<=V*(c*(p.2.getD p.1 0).natAbs):=by
    rw [abp]
    exact abd (pb i) (hc p (.head _))
   have h3:=Int.natAbs_add_le (v.getD i 0*p.2.getD p.1 0 - p.2.getD i 0*v.getD p.1 0) (p.2.getD i 0*v.getD p.1 0)
   rw [Int.sub_add_cancel,abp] at h3
   refine Nat.le_of_mul_le_mul_right (c:=(p.2.getD p.1 0).natAbs) (aaJ h3 (aaJ (Nat.add_le_add h1 h2) (le_of_eq ?_))) rh
   rw [length_cons,add_mul,add_mul,one_mul]
   congr 1
   ·rw [mul_assoc,mul_assoc,mul_assoc,Nat.mul_comm V]
   ·rw [Nat.mul_comm V,mul_assoc,mul_assoc,Nat.mul_comm V]
  ·by_cases e:j=p.1
   ·right
    rw [e]
    exact An lp lv
   ·rcases h0 u CL j hj with ⟨q,hq,z⟩|z
    ·rcases aa7.mp hq with rfl|hq
     ·exact absurd z.symm e
     ·exact .inl ⟨q,hq,z⟩
    ·right
     rw [eO lp lv,z,pz u CL j hj e]
     simp
  ·by_cases e:q.1=p.1
   ·rw [e,An lp lv]
    exact abr _
   ·obtain ⟨u,CL,hj⟩:=hu q (.tail _ hq)
    rw [eO lp lv,pz u CL q.1 hj e,zero_mul,Int.sub_zero,abp]
    have:=abc (p.2.getD p.1 0).natAbs (hc q (.tail _ hq))
    rw [mul_assoc,Nat.mul_comm (q.2.getD q.1 0).natAbs,<- mul_assoc] at this
    exact this
theorem nO{α β:Type}{R:α->β->Prop}:∀ (l:List α),(∀ a∈l,∃ b,R a b)->∃ bs:List β,bs.length=l.length/\(∀ a∈l,∃ b∈bs,R a b)/\∀ b∈bs,∃ a∈l,R a b
 | [],_=>⟨[],rfl,(fun _ h=>nomatch h),(fun _ h=>nomatch h)⟩
 | a::l,h=>by
  obtain ⟨b,hb⟩:=h a (.head _)
  obtain ⟨bs,h1,h2,h3⟩:=nO l fun x hx=>h x (.tail _ hx)
  refine⟨b::bs,by rw [length_cons,h1,length_cons],fun x hx=>?_,fun y hy=>?_⟩
  ·rcases aa7.mp hx with rfl|hx
   ·exact⟨b,.head _,hb⟩
   ·obtain ⟨y,hy,r⟩:=h2 x hx
    exact⟨y,.tail _ hy,r⟩
  ·rcases aa7.mp hy with rfl|hy
   ·exact⟨a,.head _,hb⟩
   ·obtain ⟨x,hx,r⟩:=h3 y hy
    exact⟨x,.tail _ hx,r⟩
theorem SF.alone{n k:Nat}{T:List (List Int)}{y:List Int}(sf:SF T)(hl:Len n T)(hy:Span n T y)(y0:y.getD k 0≠0)(yz:∀ u∈T,∀ j,Led u j->j≠k->y.getD j 0=0):∃ u∈T,Led u k/\(u.getD k 0).natAbs<=(y.getD k 0).natAbs:=by
 have ly:=hy.len hl
 obtain ⟨i,_,hi,hz⟩:=G6 ly fun z=>y0 (by rw [z,dH])
 obtain ⟨u,hu,hj,hle⟩:=sf.wc hl hy hi hz
 by_cases e:i=k
 ·subst e
  exact⟨u,hu,hj,hle⟩
 ·exact absurd (yz u hu i hj e) hi
theorem SF.Lz{V:Nat}{T:List (List Int)}(sf:SF T)(hl:Len 5 T)(h:∀ t∈T,∃ p:Nat×List Int,Led t p.1/\Span 5 T p.2/\p.2.getD p.1 0≠0/\de V p.2/\∀ u∈T,∀ j,Led u j->j≠p.1->p.2.getD j 0=0):∀ t∈T,de (5*V) t:=fun t ht=>by
 obtain ⟨ps,h1,h2,h3⟩:=nO T h
 have h5:T.length<=5:=SF.count sf fun r hr j hj=>Bi (hl r hr) hj
 have:=sf.spread hl (V:=V) ps (c:=1) (Span.mem ht) (fun p hp=>?_) (fun p hp=>?_) (fun u hu j hj=>?_) (fun p hp=>?_)
 ·refine this.mono ?_
  rw [one_mul]
  exact abc _ (by lia)
 ·obtain ⟨a,ha,_,r⟩:=h3 p hp
  exact r
 ·obtain ⟨a,ha,hj,_⟩:=h3 p hp
  exact⟨a,ha,hj⟩
 ·obtain ⟨p,hp,JQ,_⟩:=h2 u hu
  exact .inl ⟨p,hp,JQ.uniq hj⟩
 ·obtain ⟨a,ha,hj,sp,p0,_,pz⟩:=h3 p hp
  obtain ⟨u,hu,hju,hle⟩:=sf.alone hl sp p0 pz
  have:=sf.Al ht hu hju
  rw [one_mul]
  lia
theorem up3(e:Nat):5*2 ^ e<=2 ^ (e+3):=by
 have h:(2:Nat) ^ (e+3)=8*2 ^ e:=by rw [pow_add,Nat.mul_comm]
 rw [h]
 exact abc _ (by decide)
def jl(T:List (List Int))(k:Nat):List Nat:=(List.range 5).filter fun j=>@decide (j≠k/\∃ u∈T,Led u j) (Classical.propDecidable _)
theorem iE{T:List (List Int)}{k j:Nat}:j∈jl T k↔j<5/\j≠k/\∃ u∈T,Led u j:=by
 unfold jl
 rw [aa9,abg,@decide_eq_true_iff]
theorem yw{T:List (List Int)}{k:Nat}(h:k<5):(jl T k).length<=4:=by
 unfold jl
 have h1:=(List.length_filter_lt_length_iff_exists (p:=fun j=>@decide (j≠k/\∃ u∈T,Led u j) (Classical.propDecidable _)) (l:=List.range 5)).mpr ⟨k,abg.mpr h,by simp⟩
 rw [abf] at h1
 lia
theorem SF.Pm{b:Nat}{rs T:List (List Int)}(sf:SF T)(hl:Len 5 T)(hr:Len 5 rs)(e:Eqv 5 rs T)(hb:∀ r∈rs,de (2 ^ b) r):∀ t∈T,de (2 ^ (16*b+18)) t:=by
 have key:=SF.Lz (V:=2 ^ (16*b+15)) sf hl fun t ht=>?_
 ·refine fun t ht=>(key t ht).mono ?_
  exact up3 (16*b+15)
 ·obtain ⟨k,hk⟩:=sf.1 t ht
  have k5:=Bi (hl t ht) hk
  obtain ⟨y,ys,y0,yz⟩:=sf.Pk hl ht hk
  obtain ⟨r2,l2,s2,z2,_,b2,f2⟩:=DZ (jl T k) hr hb
  obtain ⟨d,hd,hs⟩:=f2 y (fun q hq=>by
   obtain ⟨_,h2,u,hu,hj⟩:=iE.mp hq
   exact yz u hu q hj h2) (e.symm.span ys)
  have hex:∃ r∈r2,r.getD k 0≠0:=by
   refine Classical.byContradiction fun hn=>?_
   have h0:=Span.Lp (i:=k) l2 hs fun r hr=>Classical.byContradiction fun z=>hn ⟨r,hr,z⟩
   rw [bq] at h0
   exact (Int.mul_eq_zero.mp h0).elim y0 hd
  obtain ⟨x,hx,x0⟩:=hex
  refine⟨(k,x),hk,e.span (s2 x hx),x0,(b2 x hx).mono (aba (by decide) (aaJ (Ao (yw k5)) ?_)),fun u hu j hj Pl=>?_⟩
  ·simp only [eb]
   lia
  ·exact z2 j (iE.mpr ⟨Bi (hl u hu) hj,Pl,u,hu,hj⟩) x hx
def NO(w r:List Int):List Int:=r++[dt r w]
def Gk(rs:List (List Int)):Prop:=(∀ r∈rs,∃ k,Led r k)/\rs.Pairwise fun a b=>∀ k,Led b k->∃ j,k<j/\Led a j
theorem Gk.tail{a:List Int}{rs:List (List Int)}(h:Gk (a::rs)):Gk rs:=⟨fun r hr=>h.1 r (aa6 _ hr),(abv.mp h.2).2⟩
theorem Gk.v9{a:List Int}{rs:List (List Int)}(h:Gk (a::rs)){j i:Nat}(hj:Led a j)(hi:j<=i):∀ r∈rs,r.getD i 0=0:=fun r hr=>by
 obtain ⟨k,hk⟩:=h.1 r (aa6 _ hr)
 obtain ⟨j',h1,h2⟩:=(abv.mp h.2).1 r hr k hk
 have:=h2.uniq hj
 exact hk.2 i (by lia)
theorem Gk.top{n:Nat}:∀ {rs:List (List Int)} {v:List Int},Gk rs->Len n rs->Span n rs v->v≠pI n->∃ r∈rs,∃ k c,Led r k/\v.getD k 0=r.getD k 0*c/\c≠0/\∀ i,k<i->v.getD i 0=0
 | [],v,_,_,hv,hz=>absurd hv.none hz
 | a::rs,v,h,hl,hv,hz=>by
  have la:=hl a (.head _)
  have lr:Len n rs:=fun r hr=>hl r (.tail _ hr)
  obtain ⟨j,hj⟩:=h.1 a (.head _)
  obtain ⟨c,lv,hs⟩:=Span.cons la lr hv
  by_cases hc:c=0
  ·subst hc
   rw [wa lv la] at hs
   obtain ⟨r,hr,k,d,q1,q2,q3,q4⟩:=Gk.top h.tail lr hs hz
   exact⟨r,.tail _ hr,k,d,q1,q2,q3,q4⟩
  ·have at_:∀ i,j<=i->v.getD i 0=a.getD i 0*c:=fun i hi=>by
    have e:=Span.Lp lr hs (h.v9 hj hi)
    rw [cu lv la] at e
    lia
   refine⟨a,.head _,j,c,hj,at_ j (aaK _),hc,fun i hi=>?_⟩
   rw [at_ i (aaL hi),hj.2 i hi,zero_mul]
theorem yx{x c:Int}(hx:0<x)(hc:c≠0):x*c<=-x\/x<=x*c:=by
 rcases Int.lt_or_gt_of_ne hc with h|h
 ·left
  have:=Int.mul_le_mul_of_nonneg_left (show c<=-1 by lia) (Int.le_of_lt hx)
  lia
 ·right
  have:=Int.mul_le_mul_of_nonneg_left (show 1<=c by lia) (Int.le_of_lt hx)
  lia
end d7
namespace L2
open PySem PySem.Spec PyProof.Rows
def wk(K:Frag)(a:Addr)(xs:List V):Prop:=∀ H,aR K H a xs
theorem wk.at{K:Frag}{a:Addr}{xs:List V}{H:Hp}(h:wk K a xs):aR K H a xs:=h H
theorem aj.lst{H H':Hp}{a:Addr}{xs:List V}(e:aj H H')(h:H a=some (.lst xs)):H' a=some (.lst xs):=e _ _ h
theorem aj.cR{H H2:Hp}{l:Addr}{o:HO}(s:aj H H2)(h:H l=none):aj H (upd H2 l o):=fun b u e=>by
 rw [au (aF e h)];exact s _ _ e
def NP:V->Hp->(Bool->Hp->Prop)->Prop:=fun x H R=>∃ c,x=.bl c/\R c H
def Pn:V->Hp->(Option Int->Hp->Prop)->Prop:=fun x H R=>∃ i,x=.int i/\R (some i) H
def JS:List V->Hp->VK->Prop:=fun xs H Q=>xs.length<=sizeLine/\∀ p,H p=none->Q (.ref p) (upd H p (.tup xs))
def JT:List V->Hp->VK->Prop:=fun xs H Q=>xs.length<=sizeLine/\∀ p,H p=none->Q (.ref p) (upd H p (.lst xs))
def G8(K:Frag):List V->Hp->VK->Prop:=fun xs H Q=>∃ p ys,xs=[.ref p]/\(aW K H p ys\/aR K H p ys)/\Q (.int ys.length) H
def pK(K:Frag):List V->Hp->VK->Prop:=fun xs H Q=>∃ p ys,xs=[.ref p]/\((aW K H p ys/\∀ l,H l=none->Q (.ref l) (upd H l (.tup ys)))\/(aR K H p ys/\Q (.ref p) H))
def oI(K:Frag):List V->Hp->VK->Prop:=fun xs H Q=>∃ p ys,xs=[.ref p]/\(aW K H p ys\/aR K H p ys)/\∀ l,H l=none->Q (.ref l) (upd H l (.lst ys))
def gH(K:Frag):List V->Hp->VK->Prop:=fun xs H Q=>∃ x n t b,xs=[x,.ty n]/\TyR K H x t/\PySem.W.kitOne K t (.type n)=some b/\Q (.bl b) H
def Po:List V->Hp->VK->Prop:=fun xs H Q=>∃ i,xs=[.int i]/\Q (.int (if i<0 then -i else i)) H
def Pp(K:Frag):V->Hp->(It->Hp->Prop)->Prop:=fun x H R=>∃ a,x=.ref a/\(∃ xs,aW K H a xs)/\R (GG K a) H
def Pq(K:Frag):V->Hp->(It->Hp->Prop)->Prop:=fun x H R=>∃ a,x=.ref a/\(∃ xs,aR K H a xs)/\R (NC K a) H
def Pt:List V->Hp->(It->Hp->Prop)->Prop:=fun vs H R=>∃ j:Int,vs=[.int j]/\-(2 ^ 62)<=j/\j<2 ^ 62/\R (JC 0 j.toNat) H
def Pu(K:Frag)(k1 k2:Bool):List V->Hp->(It->Hp->Prop)->Prop:=fun vs H R=>∃ a b,vs=[.ref a,.ref b]/\(∃ xs,Sq k1 K H a xs)/\(∃ ys,Sq k2 K H b ys)/\R (Ll K k1 k2 a b) H
def D1(K:Frag)(T:String)(ts:TA)(r:V->List V->Hp->VK->Prop)(σ:St)(Q:VK):V->Hp->Prop:=fun x H1=>Lb K T x H1/\ts σ H1 fun xs H2=>r x xs H2 Q
def Ap(K:Frag)(T:String)(r:V->List V->Hp->VK->Prop)(Q:VK):V->Hp->Prop:=fun x H1=>Lb K T x H1/\r x [] H1 Q
def gI(g:TG)(tb:TS)(D:Ends)(J:It)(σ:St)(H:Hp):Prop:=∃ W:Nat->Nat->St->Hp->Prop,(∃ m,W 0 m σ H)/\∀ i m σ H,W i m σ H ->
 (J.stop i H/\D.nx σ H)\/(J.go i H/\∃ N:St->Hp->Prop,(∀ σ' H',N σ' H'->∃ m',m'<m/\W (i+1) m' σ' H')/\∀ x H',J.GF i H x H'->g x σ H' fun σ2 H2=>tb { D with nx:=N,ct:=N,bk:=D.nx } σ2 H2)
section
variable {X:Cx}
theorem Bl:dc X (.builtin "len") (G8 X.K):=uh
theorem wm:dc X (.type "tuple") (pK X.K):=rd
theorem yA:dc X (.type "list") (oI X.K):=ui
theorem uq:dc X (.builtin "isinstance") (gH X.K):=v5
theorem mI:dc X (.builtin "abs") Po:=Dh
end
section
variable {t u:TS}{D:Ends}{σ:St}{H:Hp}{te ta tb:TE}{g:TG}{tt tu:TT}{Q:VK}{i j:Int}{x y v w:V}{K:Frag}
theorem Pw(h:t { D with nx:=u D } σ H):Ou t u D σ H:=h
theorem Px(h:te σ H fun x H1=>g x σ H1 D.nx):GD te g D σ H:=h
theorem G9{n:Nat}{R:St->Hp->Prop}(h:R (σ.set n (some v)) H):bW n v σ H R:=h
theorem Py(h:te σ H D.rt):Ov te D σ H:=h
theorem LA(h:te σ H fun _ H1=>D.nx σ H1):JA te D σ H:=h
theorem LC(h:D.nx σ H):Jz D σ H:=h
theorem Pz{c:TT}(h:c σ H fun b H1=>if b=true then t D σ H1 else u D σ H1):Ow c t u D σ H:=h
theorem PB{n:Nat}(e:σ[n]?=some (some v))(h:Q v H):C5 n σ H Q:=⟨v,e,h⟩
theorem r_c(h:Q v H):tC v σ H Q:=h
theorem Ut{r:R2}(h:ta σ H fun x H1=>tb σ H1 fun y H2=>r x y H2 Q):ND r ta tb σ H Q:=h
theorem Uu{r:V->Hp->VK->Prop}(h:ta σ H fun x H1=>r x H1 Q):tUn r ta σ H Q:=h
theorem r_b{R:Bool->Hp->Prop}(h:te σ H fun x H1=>NP x H1 R):tB te σ H R:=h
theorem LD{R:Bool->Hp->Prop}(h:te σ H fun x H1=>NP x H1 R):JF te σ H R:=h
theorem LF{b:Bool}{R:Bool->Hp->Prop}(h:R b H):NP (.bl b) H R:=⟨b,rfl,h⟩
theorem PC{R:Bool->Hp->Prop}(h:tt σ H fun c H1=>if c=true then tu σ H1 R else R false H1):Om tt tu σ H R:=h
theorem Uv{R:Bool->Hp->Prop}(h:tt σ H fun c H1=>if c=true then R true H1 else tu σ H1 R):tOr tt tu σ H R:=h
theorem PD{R:Bool->Hp->Prop}(h:tt σ H fun c H1=>R (!c) H1):Oo tt σ H R:=h
theorem LG(h:ta σ H fun x H1=>NP x H1 fun c H2=>if c=true then tb σ H2 Q else Q (.bl false) H2):Jx ta tb σ H Q:=h
theorem PF(h:ta σ H fun x H1=>NP x H1 fun c H2=>if c=true then Q (.bl true) H2 else tb σ H2 Q):Oq ta tb σ H Q:=h
theorem LH(h:ta σ H fun x H1=>NP x H1 fun c H2=>Q (.bl (!c)) H2):Jy ta σ H Q:=h
theorem PH(h:tt σ H fun c H1=>if c=true then ta σ H1 Q else tb σ H1 Q):tIf tt ta tb σ H Q:=h
theorem PL{f:Int->Int->V}(h:Q (f i j) H):GI f (.int i) (.int j) H Q:=⟨i,j,rfl,rfl,h⟩
theorem r_I{C:Int->Int->Prop}{f:Int->Int->V}(c:C i j)(h:Q (f i j) H):rI C f (.int i) (.int j) H Q:=⟨i,j,rfl,rfl,c,h⟩
theorem r_U{f:Int->V}(h:Q (f i) H):rU f (.int i) H Q:=⟨i,rfl,h⟩
theorem PM{i j:Int}:decide (V.int i=V.int j)=decide (i=j):=by
 by_cases e:i=j
 ·subst e;simp
 ·rw [aaQ e];exact aaQ fun z=>e (by injection z)
theorem PN(h:Q (.bl (decide (i=j))) H):TN (.int i) (.int j) H Q:=⟨rfl,by rw [PM];exact h⟩
theorem PQ(h:Q (.bl (!decide (i=j))) H):rNe (.int i) (.int j) H Q:=⟨rfl,by rw [PM];exact h⟩
theorem PR{R:List V->Hp->Prop}(h:R [] H):yc σ H R:=h
theorem LI{ts:TA}{R:List V->Hp->Prop}(h:te σ H fun x H1=>ts σ H1 fun xs H2=>R (x::xs) H2):pf te ts σ H R:=h
theorem PU{ts:TA}(h:ts σ H fun xs H1=>JS xs H1 Q):OI ts σ H Q:=h
theorem PX{ts:TA}(h:ts σ H fun xs H1=>JT xs H1 Q):GL ts σ H Q:=h
theorem LJ{xs:List V}(hl:xs.length<=1000)(h:∀ p H2,aj H H2->H2 p=some (.tup xs)->Q (.ref p) H2):JS xs H Q :=
 ⟨aaL (el hl),fun p hp=>h p _ (aj.bf hp) aw⟩
theorem D2{xs:List V}(hl:xs.length<=1000)(h:∀ p H2,H p=none->aj H H2->H2 p=some (.lst xs)->Q (.ref p) H2):JT xs H Q :=
 ⟨aaL (el hl),fun p hp=>h p _ hp (aj.bf hp) aw⟩
theorem Uw{r:List V->Hp->VK->Prop}{ts:TA}(h:ts σ H fun vs H1=>r vs H1 Q):TR r ts σ H Q:=h
theorem LK{ix:List (Option Nat)}{wi:TI}(h:wi σ H fun J H1=>bG ix g tt te σ Q J H1):Af ix wi g tt te σ H Q:=h
theorem Ux{r:V->Option Int->Option Int->Hp->VK->Prop}{tl th:TO}(h:te σ H fun x H1=>tl σ H1 fun l H2=>th σ H2 fun u H3=>r x l u H3 Q):tSl r te tl th σ H Q:=h
theorem D3{R:Option Int->Hp->Prop}(h:R none H):Aa σ H R:=h
theorem LL{R:Option Int->Hp->Prop}(h:te σ H fun x H1=>Pn x H1 R):JG te σ H R:=h
theorem Hd{R:Option Int->Hp->Prop}(h:R (some i) H):Pn (.int i) H R:=⟨i,rfl,h⟩
theorem Uy{T:String}{r:V->List V->Hp->VK->Prop}{ts:TA}(h:te σ H fun x H1=>D1 K T ts r σ Q x H1):tBM K T r te ts σ H Q:=h
theorem PY{T:String}{r:V->List V->Hp->VK->Prop}(h:te σ H fun x H1=>Ap K T r Q x H1):OP K T r te σ H Q:=h
theorem PZ{wi:TI}{tb:TS}(h:wi σ H fun J H1=>gI g tb D J σ H1):OD wi g tb D σ H:=h
theorem He{R:It->Hp->Prop}(h:te σ H fun x H1=>Pp K x H1 R):De K te σ H R:=h
theorem LM{R:It->Hp->Prop}(h:te σ H fun x H1=>Pq K x H1 R):KN K te σ H R:=h
theorem LN{ts:TA}{R:It->Hp->Prop}(h:ts σ H fun vs H1=>Pt vs H1 R):JD ts σ H R:=h
theorem LO{k1 k2:Bool}{ts:TA}{R:It->Hp->Prop}(h:ts σ H fun vs H1=>Pu K k1 k2 vs H1 R):DT K k1 k2 ts σ H R:=h
theorem P0{a:Addr}{xs:List V}{R:It->Hp->Prop}(e:aW K H a xs)(h:R (GG K a) H):Pp K (.ref a) H R:=⟨a,rfl,⟨_,e⟩,h⟩
theorem P4{a:Addr}{xs:List V}{R:It->Hp->Prop}(e:aR K H a xs)(h:R (NC K a) H):Pq K (.ref a) H R:=⟨a,rfl,⟨_,e⟩,h⟩
theorem JU{R:It->Hp->Prop}(h1:-1000000<=j)(h2:j<=1000000)(h:R (JC 0 j.toNat) H):Pt [.int j] H R:=⟨j,rfl,by lia,by lia,h⟩
theorem P6{k1 k2:Bool}{a b:Addr}{xs ys:List V}{R:It->Hp->Prop}(e1:Sq k1 K H a xs)(e2:Sq k2 K H b ys)(h:R (Ll K k1 k2 a b) H):Pu K k1 k2 [.ref a,.ref b] H R:=⟨a,b,rfl,⟨_,e1⟩,⟨_,e2⟩,h⟩
theorem gh{a:Addr}{xs:List V}(h:aR K H a xs):Sq true K H a xs:=h
theorem d9{a:Addr}{xs:List V}(h:aW K H a xs):Sq false K H a xs:=h
theorem iW{a:Addr}{xs:List V}(e:aR K H a xs)(n:Ac xs i=some v)(h:Q v H):Sy K (.ref a) (.int i) H Q:=.inr (.inl ⟨a,xs,i,v,rfl,rfl,e,n,h⟩)
theorem fN{a:Addr}{xs:List V}(e:aW K H a xs)(n:Ac xs i=some v)(h:Q v H):Sy K (.ref a) (.int i) H Q:=.inl ⟨a,xs,i,v,rfl,rfl,e,n,h⟩
theorem LP{a:Addr}{xs:List V}(e:aR K H a xs)(h:Q (.int xs.length) H):G8 K [.ref a] H Q:=⟨a,xs,rfl,.inr e,h⟩
theorem LQ{a:Addr}{xs:List V}(e:aW K H a xs)(h:Q (.int xs.length) H):G8 K [.ref a] H Q:=⟨a,xs,rfl,.inl e,h⟩
theorem D4{a:Addr}{xs:List V}(e:aW K H a xs)(h:∀ p H2,aj H H2->H2 p=some (.tup xs)->Q (.ref p) H2):pK K [.ref a] H Q :=
 ⟨a,xs,rfl,.inl ⟨e,fun p hp=>h p _ (aj.bf hp) aw⟩⟩
theorem Hf{a:Addr}{xs:List V}(e:aW K H a xs)(h:∀ p H2,H p=none->aj H H2->H2 p=some (.lst xs)->Q (.ref p) H2):oI K [.ref a] H Q:=⟨a,xs,rfl,.inl e,fun p hp=>h p _ hp (aj.bf hp) aw⟩
theorem Hg{a:Addr}{xs:List V}(e:aR K H a xs)(h:∀ p H2,H p=none->aj H H2->H2 p=some (.lst xs)->Q (.ref p) H2):oI K [.ref a] H Q:=⟨a,xs,rfl,.inr e,fun p hp=>h p _ hp (aj.bf hp) aw⟩
theorem P7(h:Q (.int (if i<0 then -i else i)) H):Po [.int i] H Q:=⟨i,rfl,h⟩
theorem Hh{T:String}{ts:TA}{r:V->List V->Hp->VK->Prop}(e:Lb K T x H)(h:ts σ H fun xs H2=>r x xs H2 Q):D1 K T ts r σ Q x H:=⟨e,h⟩
theorem D5{T:String}{r:V->List V->Hp->VK->Prop}(e:Lb K T x H)(h:r x [] H Q):Ap K T r Q x H:=⟨e,h⟩
theorem dy{l:Addr}{xs:List V}(e:H l=some (.lst xs))(n:xs.length<=1000)(h:Q .dB (upd H l (.lst (xs++[y])))):Ae (.ref l) [y] H Q:=⟨l,xs,y,rfl,rfl,e,el n,h⟩
theorem D6{a b:Addr}{xs ys:List V}(e1:H a=some (.lst xs))(e2:H b=some (.lst ys))(n:xs.length+ys.length<=1000)(h:∀ p H2,H p=none->aj H H2->H2 p=some (.lst (xs++ys))->Q (.ref p) H2):OS (.ref a) (.ref b) H Q :=
 ⟨a,b,xs,ys,rfl,rfl,e1,e2,aaL (el n),fun p hp=>h p _ hp (aj.bf hp) aw⟩
theorem LS{a b:Addr}{xs ys:List V}(e1:aR K H a xs)(e2:aR K H b ys)(n1:xs≠[])(n2:ys≠[])(n:xs.length+ys.length<=1000)(h:∀ p H2,aj H H2->H2 p=some (.tup (xs++ys))->Q (.ref p) H2):Dw K (.ref a) (.ref b) H Q :=
 ⟨a,b,xs,ys,rfl,rfl,e1,e2,n1,aaL (el n),fun z=>absurd z n2,fun _ p hp=>h p _ (aj.bf hp) aw⟩
theorem P8{a:Addr}{xs:List V}{lo hi:Option Int}(e:aR K H a xs)(n:¬ (HT.dU xs.length 0 lo=0/\HT.dU xs.length xs.length hi=xs.length))(h:∀ p H2,aj H H2->H2 p=some (.tup (iA xs lo hi))->Q (.ref p) H2):Du K (.ref a) lo hi H Q :=
 ⟨a,xs,rfl,e,n,fun p hp=>h p _ (aj.bf hp) aw⟩
theorem JV{a:Addr}{xs:List V}{lo hi:Option Int}(e:aW K H a xs)(h:∀ p H2,H p=none->aj H H2->H2 p=some (.lst (iA xs lo hi))->Q (.ref p) H2):Dy K (.ref a) lo hi H Q :=
 ⟨a,xs,rfl,e,fun p hp=>h p _ hp (aj.bf hp) aw⟩
theorem LU {a:Addr} {xs:List V} {n:String} {b:Bool} (e:aR K H a xs) (k:PySem.W.kitOne K (.type "tuple") (.type n)=some b) (h:Q (.bl b) H):gH K [.ref a,.ty n] H Q:=⟨_,n,_,b,rfl,.inr (.inl ⟨a,xs,rfl,e,rfl⟩),k,h⟩
theorem LV {a:Addr} {xs:List V} {n:String} {b:Bool} (e:aW K H a xs) (k:PySem.W.kitOne K (.type "list") (.type n)=some b) (h:Q (.bl b) H):gH K [.ref a,.ty n] H Q:=⟨_,n,_,b,rfl,.inr (.inr ⟨a,xs,rfl,e,rfl⟩),k,h⟩
theorem LW {n:String} {b:Bool} (k:PySem.W.kitOne K (.type "int") (.type n)=some b) (h:Q (.bl b) H):gH K [.int i,.ty n] H Q:=⟨_,n,_,b,rfl,.inl (.int _),k,h⟩
theorem LX {c:Bool} {n:String} {b:Bool} (k:PySem.W.kitOne K (.type "bool") (.type n)=some b) (h:Q (.bl b) H):gH K [.bl c,.ty n] H Q:=⟨_,n,_,b,rfl,.inl (.bl _),k,h⟩
end
theorem gJ{c:Bool}{A B:Prop}(e:c=true)(h:A):if c=true then A else B:=by rw [if_pos e];exact h
theorem dE{c:Bool}{A B:Prop}(e:c=false)(h:B):if c=true then A else B:=by rw [e];exact DI h
theorem cT{c:Bool}{A B:Prop}(h1:c=true->A)(h2:c=false->B):if c=true then A else B:=by
 cases c with
 | true=>exact jM (h1 rfl)
 | false=>exact DI (h2 rfl)
section
variable {t u:TS}{D:Ends}{σ:St}{H:Hp}{te ta tb:TE}{g:TG}{tt tu:TT}{Q:VK}{i j:Int}{x y v w:V}{K:Frag}{X:Cx}
theorem Hi{sp:Sp}{E:XK}{ts:TA}(h:ts σ H fun vs H1=>sp vs H1 Q E):zY sp [] E ts σ H Q:=by
 unfold zY
 simp only [append_nil]
 exact h
def WGo(tb:TS)(D:Ends)(W:Nat->St->Hp->Prop)(m:Nat)(σ:St)(H1:Hp):Prop:=∃ N:St->Hp->Prop,(∀ σ' H',N σ' H'->∃ m',m'<m/\W m' σ' H')/\tb { D with nx:=N,ct:=N,bk:=D.nx } σ H1
theorem Aq{c:TT}{tb:TS}(W:Nat->St->Hp->Prop)(m:Nat)(h0:W m σ H)(hs:∀ m σ H,W m σ H->c σ H fun b H1=>if b=true then WGo tb D W m σ H1 else D.nx σ H1):Dc c tb D σ H:=⟨W,⟨m,h0⟩,hs⟩
theorem P9{tb:TS}{W:Nat->St->Hp->Prop}{m:Nat}(h:tb { D with nx:=fun σ' H'=>∃ m',m'<m/\W m' σ' H',ct:=fun σ' H'=>∃ m',m'<m/\W m' σ' H',bk:=D.nx } σ H):WGo tb D W m σ H:=⟨_,fun _ _ z=>z,h⟩
end
section
variable {X:Cx}(K:Frag)(hK:X.K=K)
include hK
theorem fD:dc X (.builtin "len") (G8 K):=hK ▸ Bl
theorem gi:dc X (.type "tuple") (pK K):=hK ▸ wm
theorem ur:dc X (.type "list") (oI K):=hK ▸ yA
theorem ck:dc X (.builtin "isinstance") (gH K):=hK ▸ uq
theorem aD:Gg X (Sy K):=hK ▸ K9
theorem Hj:K6 X (Du K):=hK ▸ Dv
theorem wo:K6 X (Dy K):=hK ▸ GV
theorem D7:jb X (binaryOp .Add) (Dw K):=hK ▸ Ab
theorem aZ{tg l:Expr}{tl:TE}(hl:PE X l tl):PI X tg l (De K tl):=hK ▸ GH hl
theorem Ar{tg l:Expr}{tl:TE}(hl:PE X l tl):PI X tg l (KN K tl):=hK ▸ KO hl
theorem dZ (k1 k2:Bool) {es:List Expr} {kk:Nat} {nZ:Pos} {a b:Expr} {ta:TA} {p pos:Pos} (hg:Gl X "zip") (hm:X.mg "zip"=none) (ha:PA X [a,b] ta) (hs:starEach [a,b] X.env=[(false,eval a X.env),(false,eval b X.env)]:=by rfl) (eL:starEach [b] X.env=[(false,eval b X.env)]:=by rfl) :
  PI X (.Tuple es kk nZ) (.Call (.Name "zip" p) [a,b] [] pos) (DT K k1 k2 ta):=hK ▸ G3 k1 k2 hg hm ha hs eL
theorem cH{es:List Expr}{k:Nat}{t:JB}{n:Nat}{pos:Pos}(hc:X.calm=true)(h:Ox X es t)
  (hn:(assignEach es X.env).length=n:=by rfl) (jh:(assignEach es X.env).findIdx? (·.1)=none:=by rfl):PG X (.Tuple es k pos) (t6 K n t):=hK ▸ KJ hc h hn jh
end
end L2
namespace d7
theorem oJ(x:Int):L2.pH x=bl x:=rfl
end d7
namespace L2
open PySem PySem.Spec PyProof.Rows
section
variable {H:Hp}{Q:VK}{K:Frag}
theorem wt(x:V)(xs:List V):iA (x::xs) (some 1) none=xs:=by
 have e:HT.dU (x::xs).length 0 (some 1)=1:=by
  have h:=HT.kR (x::xs).length 0 1
  simp only [length_cons] at h ⊢
  have h2:min 1 (xs.length+1)=1:=by lia
  rw [h2] at h
  exact h
 unfold iA
 rw [e,HT.kP]
 simp
theorem LY{a:Addr}{x:V}{xs:List V}(e:aW K H a (x::xs))(h:∀ p H2,H p=none->aj H H2->H2 p=some (.lst xs)->Q (.ref p) H2):Dy K (.ref a) (some 1) none H Q :=
 JV e fun p H2 n s m=>h p H2 n s (by rw [wt] at m;exact m)
theorem LZ{a:Addr}{x:V}{xs:List V}(e:aR K H a (x::xs))(h:∀ p H2,aj H H2->H2 p=some (.tup xs)->Q (.ref p) H2):Du K (.ref a) (some 1) none H Q :=
 P8 e (fun z=>by
  have h2:=HT.kR (x::xs).length 0 1
  have h3:HT.dU (x::xs).length 0 (some 1)=min 1 (x::xs).length:=h2
  rw [h3] at z
  have:=z.1
  simp only [length_cons] at this
  lia) fun p H2 s m=>h p H2 s (by rw [wt] at m;exact m)
end
end L2
namespace PySem.F
theorem pL (a b c:Value):checkTypeCall "zip" ⟨[a,b,c],[]⟩=pure ():=by kernel_rfl
theorem rj (a b c:Value):checkBuiltinCall "zip.__new__" ⟨[.type "zip",a,b,c],[]⟩=pure ():=by kernel_rfl
end PySem.F
namespace L2
open PySem
section
variable {prog:Program}{w:World}{A:Around}{E:Value->Shared->Prop}{s:Shared}
structure wu(k1 k2 k3:Bool)(n a b c:Nat)(i:Nat)(f0:Value)(h:Heap):Prop where
 z:IsZip h (n+5) (n+3) (n+4) f0
 ti:IsT h (n+3) #[.ref n,.ref (n+1),.ref (n+2)]
 to:∃ u v x,IsT h (n+4) #[u,v,x]
 i1:i4 k1 h n a i
 i2:i4 k2 h (n+1) b i
 i3:i4 k3 h (n+2) c i
theorem Bm{k1 k2 k3:Bool}{n a b c:Nat}{i:Nat}{xs ys zs:Array Value}{x y zz:Value}{Q:Value->Shared->Prop}(Z:wu k1 k2 k3 n a b c i .none s.heap)(ha:a<n)(hb:b<n)(hc:c<n)
  (h1:bx k1 s.heap a xs) (h2:bx k2 s.heap b ys) (h3:bx k3 s.heap c zs) (hx:xs[i]?=some x) (hy:ys[i]?=some y) (SI:zs[i]?=some zz)
  (hQ:∀ h',wu k1 k2 k3 n a b c (i+1) (rawInt s.heap.objs.size) h'->IsT h' s.heap.objs.size #[x,y,zz]->h'.objs.size=s.heap.objs.size+1->Off [n,n+1,n+2,n+4,n+5] s.heap h'->Q (.ref s.heap.objs.size) { s with heap:=h' }) :
  wpAny (model prog w) A (Builtin.«zip.__next__» ⟨[.ref (n+5)],[]⟩) (fun fin s'=>∃ v,fin=.done (.ret v)/\Q v s') E s:=by
 obtain ⟨hz,vU,⟨u,v,x0,Ag⟩,vD,nM,Bo⟩:=Z
 show wpAny _ _ (field (.ref (n+5)) 2 >>= _) _ _ _
 refine aaE (wpAny_field hz rfl (x:=.bool false) rfl ?_)
 show wpAny _ _ (field (.ref (n+5)) 3 >>= _) _ _ _
 refine aaE (wpAny_field hz rfl (x:=.ref (n+3)) rfl ?_)
 refine aaE (wpAny_seqItems vU rfl ?_)
 show wpAny _ _ (Builtin.SmallTypes.ownedTupleIsFree (.ref (n+5)) >>= _) _ _ _
 refine aaE ?_
 unfold Builtin.SmallTypes.ownedTupleIsFree
 refine aaE (wpAny_field hz rfl (x:=.none) rfl (aaT ?_))
 simp only [if_true]
 refine aaE (wpAny_rule ?_)
 refine aaE (wpAny_field hz rfl (x:=.ref (n+4)) rfl ?_)
 refine aaE (wpAny_setField_rec hz (by simp) fun g1 xJ kK=>?_)
 replace xJ:IsZip g1 (n+5) (n+3) (n+4) .ellipsis:=xJ
 refine aaE ?_
 simp only [zipIdx_cons,zipIdx_nil,forIn_cons,forIn_nil]
 refine aaE (aaE (wpAny_onRaise ?_))
 show wpAny _ _ (Builtin.SmallTypes.nextOf (.ref n) >>= _) _ _ _
 refine aaE (gc (vD.keep fun o e=>(kK.2 _ (cq (by lia))).trans e) (h1.keep fun o e=>(kK.2 _ (cq (by lia))).trans e) hx fun g2 GZ eL=>aaT ?_)
 have Qa:∀ d o,d≠n+5->d≠n->s.heap.get? d=some o->g2.get? d=some o:=fun d o d1 d2 e=>(eL.2 _ d2).trans ((kK.2 _ d1).trans e)
 have vV:IsT g2 (n+4) #[u,v,x0]:=Qa _ _ (cq (by lia)) (cq (by lia)) Ag
 refine aaE (wpAny_seqItems vV rfl ?_)
 refine aaE (jD vV (by simp) fun g3 vW qQ=>?_)
 replace vW:IsT g3 (n+4) #[x,v,x0]:=vW
 refine aaE (wpAny_letGo (aaT ?_))
 refine aaE (aaE (wpAny_onRaise ?_))
 show wpAny _ _ (Builtin.SmallTypes.nextOf (.ref (n+1)) >>= _) _ _ _
 refine aaE (gc (nM.keep fun o e=>(qQ.2 _ (cq (by lia))).trans (Qa _ _ (cq (by lia)) (cq (by lia)) e)) (h2.keep fun o e=>(qQ.2 _ (cq (by lia))).trans (Qa _ _ (cq (by lia)) (cq (by lia)) e)) hy fun g4 Lj CK=>aaT ?_)
 have SK:∀ d o,d≠n+4->d≠n+1->g2.get? d=some o->g4.get? d=some o:=fun d o d1 d2 e=>(CK.2 _ d2).trans ((qQ.2 _ d1).trans e)
 have DO:IsT g4 (n+4) #[x,v,x0]:=(CK.2 _ (cq (by lia))).trans vW
 refine aaE (wpAny_seqItems DO rfl ?_)
 refine aaE (jD DO (by simp) fun g5 vX Gi=>?_)
 replace vX:IsT g5 (n+4) #[x,y,x0]:=vX
 refine aaE (wpAny_letGo (aaT ?_))
 refine aaE (aaE (wpAny_onRaise ?_))
 show wpAny _ _ (Builtin.SmallTypes.nextOf (.ref (n+2)) >>= _) _ _ _
 refine aaE (gc (Bo.keep fun o e=>(Gi.2 _ (cq (by lia))).trans (SK _ _ (cq (by lia)) (cq (by lia)) (Qa _ _ (cq (by lia)) (cq (by lia)) e))) (h3.keep fun o e=>(Gi.2 _ (cq (by lia))).trans (SK _ _ (cq (by lia)) (cq (by lia)) (Qa _ _ (cq (by lia)) (cq (by lia)) e))) SI fun g6 Uz UA=>aaT ?_)
 have UB:∀ d o,d≠n+4->d≠n+2->g4.get? d=some o->g6.get? d=some o:=fun d o d1 d2 e=>(UA.2 _ d2).trans ((Gi.2 _ d1).trans e)
 have Qb:IsT g6 (n+4) #[x,y,x0]:=(UA.2 _ (cq (by lia))).trans vX
 refine aaE (wpAny_seqItems Qb rfl ?_)
 refine aaE (jD Qb (by simp) fun g7 Hl G1=>?_)
 replace Hl:IsT g7 (n+4) #[x,y,zz]:=Hl
 refine aaE (wpAny_letGo (aaT (aaT ?_)))
 refine aaE (wpAny_seqItems Hl rfl ?_)
 refine aaE (wpAny_newTuple ?_)
 have jc:g7.objs.size=s.heap.objs.size:=by rw [G1.1,UA.1,Gi.1,CK.1,qQ.1,eL.1,kK.1]
 have Qd:∀ d o,d≠n->d≠n+1->d≠n+2->d≠n+4->g1.get? d=some o->g7.get? d=some o:=fun d o d0 d1 d2 d4 e=>(G1.2 _ d4).trans (UB _ _ d4 d2 (SK _ _ d4 d1 ((eL.2 _ d0).trans e)))
 have NI:IsZip g7 (n+5) (n+3) (n+4) .ellipsis:=Qd _ _ (cq (by lia)) (cq (by lia)) (cq (by lia)) (cq (by lia)) xJ
 have Qe:Off [n,n+1,n+2,n+4,n+5] s.heap g7:=fun d o hd e=>by
  simp only [aa7,not_mem_nil,or_false,not_or] at hd
  exact Qd d o hd.1 hd.2.1 hd.2.2.1 hd.2.2.2.1 ((kK.2 _ hd.2.2.2.2).trans e)
 have DP:n+5<g7.objs.size:=aaH NI
 show wpAny _ _ (Builtin.SmallTypes.ownedTupleHandOut (.ref (n+5)) (.ref g7.objs.size) >>= _) _ _ _
 refine aaE ?_
 unfold Builtin.SmallTypes.ownedTupleHandOut
 have NJ:IsZip (g7.push { cls:=.type "tuple",data:=.seq #[x,y,zz] }) (n+5) (n+3) (n+4) .ellipsis:=aaD _ NI
 refine aaE (wpAny_setField_rec NJ (by simp) fun g9 UC G2=>?_)
 replace UC:IsZip g9 (n+5) (n+3) (n+4) (rawInt g7.objs.size):=UC
 refine wpAny_setField_rec UC (by simp) fun gA SM UD=>?_
 replace SM:IsZip gA (n+5) (n+3) (n+4) (rawInt g7.objs.size):=SM
 have up:∀ d o,d≠n+5->g7.get? d=some o->gA.get? d=some o:=fun d o d1 e=>(UD.2 _ d1).trans ((G2.2 _ d1).trans (aaD _ e))
 have uu:IsT gA g7.objs.size #[x,y,zz]:=(UD.2 _ (Nat.ne_of_gt DP)).trans ((G2.2 _ (Nat.ne_of_gt DP)).trans (aaI _ rfl))
 have Qf:gA.objs.size=g7.objs.size+1:=by rw [UD.1,G2.1,Heap.size_push]
 rw [jc] at SM uu Qf
 refine aaT ⟨_,rfl,?_⟩
 show Q (.ref g7.objs.size) _
 rw [jc]
 refine hQ gA ⟨SM,up _ _ (cq (by lia)) (Qe _ _ (by simp) vU),⟨x,y,zz,up _ _ (cq (by lia)) Hl⟩,?_,?_,?_⟩ uu Qf fun d o hd e=>?_
 ·exact GZ.keep fun o e=>up _ o (cq (by lia)) ((G1.2 _ (cq (by lia))).trans (UB _ _ (cq (by lia)) (cq (by lia)) (SK _ _ (cq (by lia)) (cq (by lia)) e)))
 ·exact Lj.keep fun o e=>up _ o (cq (by lia)) ((G1.2 _ (cq (by lia))).trans (UB _ _ (cq (by lia)) (cq (by lia)) e))
 ·exact Uz.keep fun o e=>up _ o (cq (by lia)) ((G1.2 _ (cq (by lia))).trans e)
 ·exact up d o (fun z=>hd (by simp [z])) (Qe d o hd e)
theorem Bp{k1 k2 k3:Bool}{n a b c:Nat}{i:Nat}{xs:Array Value}{Q:Fin->Shared->Prop}(hh:A.handled=none)(Z:wu k1 k2 k3 n a b c i .none s.heap)(ha:a<n)
  (h1:bx k1 s.heap a xs) (hx:xs[i]?=none)
  (hE:∀ h' e,Off [n,n+1,n+2,n+4,n+5] s.heap h'->(∃ o,h'.get? e=some o/\o.cls=.type "StopIteration")->E (.ref e) { s with heap:=h' }) :
  wpAny (model prog w) A (Builtin.«zip.__next__» ⟨[.ref (n+5)],[]⟩) Q E s:=by
 obtain ⟨hz,vU,⟨u,v,x0,Ag⟩,vD,nM,Bo⟩:=Z
 show wpAny _ _ (field (.ref (n+5)) 2 >>= _) _ _ _
 refine aaE (wpAny_field hz rfl (x:=.bool false) rfl ?_)
 show wpAny _ _ (field (.ref (n+5)) 3 >>= _) _ _ _
 refine aaE (wpAny_field hz rfl (x:=.ref (n+3)) rfl ?_)
 refine aaE (wpAny_seqItems vU rfl ?_)
 show wpAny _ _ (Builtin.SmallTypes.ownedTupleIsFree (.ref (n+5)) >>= _) _ _ _
 refine aaE ?_
 unfold Builtin.SmallTypes.ownedTupleIsFree
 refine aaE (wpAny_field hz rfl (x:=.none) rfl (aaT ?_))
 simp only [if_true]
 refine aaE (wpAny_rule ?_)
 refine aaE (wpAny_field hz rfl (x:=.ref (n+4)) rfl ?_)
 refine aaE (wpAny_setField_rec hz (by simp) fun g1 xJ kK=>?_)
 replace xJ:IsZip g1 (n+5) (n+3) (n+4) .ellipsis:=xJ
 refine aaE ?_
 simp only [zipIdx_cons,zipIdx_nil,forIn_cons,forIn_nil]
 refine aaE (aaE (wpAny_onRaise ?_))
 show wpAny _ _ (Builtin.SmallTypes.nextOf (.ref n) >>= _) _ _ _
 refine aaE (oG hh (vD.keep fun o e=>(kK.2 _ (cq (by lia))).trans e) (h1.keep fun o e=>(kK.2 _ (cq (by lia))).trans e) hx fun g2 e eL he=>?_)
 obtain ⟨oe,Lk,O9⟩:=he
 have JL:IsZip g2 (n+5) (n+3) (n+4) .ellipsis:=eL _ _ (cq (by lia)) xJ
 have Uh:e≠n+5:=fun z=>by subst z;rw [JL] at Lk;cases Lk;simp at O9
 exact wpAny_setField_rec JL (by simp) fun g9 _ G2=>hE g9 e (((Off.of kK (by simp)).trans fun d o hd q=>eL d o (fun z=>hd (by simp [z])) q).trans (Off.of G2 (by simp))) ⟨oe,(G2.2 _ Uh).trans Lk,O9⟩
theorem wx{k1 k2 k3:Bool}{n a b c:Nat}{i:Nat}{xs ys zs:Array Value}{x y zz:Value}{Q:Option Value->Shared->Prop}(Z:wu k1 k2 k3 n a b c i .none s.heap)(ha:a<n)(hb:b<n)(hc:c<n)
  (h1:bx k1 s.heap a xs) (h2:bx k2 s.heap b ys) (h3:bx k3 s.heap c zs) (hx:xs[i]?=some x) (hy:ys[i]?=some y) (SI:zs[i]?=some zz)
  (hQ:∀ h',wu k1 k2 k3 n a b c (i+1) (rawInt s.heap.objs.size) h'->IsT h' s.heap.objs.size #[x,y,zz]->h'.objs.size=s.heap.objs.size+1->Off [n,n+1,n+2,n+4,n+5] s.heap h'->Q (some (.ref s.heap.objs.size)) { s with heap:=h' }) :
  wpAny (model prog w) A (pyNext (.ref (n+5))) Q E s:=by
 have hT:s.TypeIs (.ref (n+5)) "zip":=⟨_,Z.z,rfl⟩
 unfold pyNext
 exact aaE (wpAny_attempt (wpAny_callSpecial?_slot (name:=Str.ofString "__next__") hT F.slot_zip_next
  (wpAny_call_entry F.slot_zip_next hT F.entry_zip_next
   (Bm Z ha hb hc h1 h2 h3 hx hy SI fun h' a1 a2 a3 a4=>aaT (hQ h' a1 a2 a3 a4)) (F.args_zip_next_1 _))))
theorem oh{k1 k2 k3:Bool}{n a b c:Nat}{i:Nat}{xs:Array Value}{Q:Option Value->Shared->Prop}(hh:A.handled=none)(Z:wu k1 k2 k3 n a b c i .none s.heap)(ha:a<n)
  (h1:bx k1 s.heap a xs) (hx:xs[i]?=none)
  (hQ:∀ h',Off [n,n+1,n+2,n+4,n+5] s.heap h'->Q none { s with heap:=h' }):wpAny (model prog w) A (pyNext (.ref (n+5))) Q E s:=by
 have hT:s.TypeIs (.ref (n+5)) "zip":=⟨_,Z.z,rfl⟩
 unfold pyNext
 refine aaE (wpAny_attempt (wpAny_callSpecial?_slot (name:=Str.ofString "__next__") hT F.slot_zip_next
  (wpAny_call_entry F.slot_zip_next hT F.entry_zip_next (Bp (A:=A.in1) hh Z ha h1 hx fun h' e hk he=>?_) (F.args_zip_next_1 _))))
 obtain ⟨o,ho,hc⟩:=he
 refine aaE (wpAny_isInstance (T:="StopIteration") (b:=true) ⟨o,ho,hc⟩ isSubtype_stop ?_)
 exact aaT (hQ _ hk)
end
abbrev Ho (k1 k2 k3:Bool) (h:Heap) (a b c:Addr):Heap:=(((((h.push (bD k1 a)).push (bD k2 b)).push (bD k3 c)).push { cls:=.type "tuple",data:=.seq #[.ref h.objs.size,.ref (h.objs.size+1),.ref (h.objs.size+2)] }).push { cls:=.type "tuple",data:=.seq #[.none,.none,.none] }).push
 { cls:=.type "zip",data:=.fields #[.none,.bool false,.bool false,.ref (h.objs.size+3),.ref (h.objs.size+4)] }
theorem Bq(k1 k2 k3:Bool)(a b c:Addr)(xs ys zs:Array Value) :
  Meets (Builtin.«zip.__new__» ⟨[.type "zip",.ref a,.ref b,.ref c],[]⟩) (fun _ R s=>bx k1 s.heap a xs/\bx k2 s.heap b ys/\bx k3 s.heap c zs /\
   R (.ok (.ret (.ref (s.heap.objs.size+5)))) { s with heap:=Ho k1 k2 k3 s.heap a b c }) :=
 .of_wp fun prog w A R s h=>by
  obtain ⟨hp,g,d,tk,os⟩:=s;obtain ⟨NK,Sz,L6,h⟩:=h
  have DQ:=sub_zip
  have Ui:bx k1 (Shared.heap ⟨hp,g,d,tk,os⟩) a xs:=NK
  have Uj:bx k2 (Shared.heap ⟨hp.push (bD k1 a),g,d,tk,os⟩) b ys:=bx.keep Sz fun o e=>aaD _ e
  have hL3:bx k3 (Shared.heap ⟨(hp.push (bD k1 a)).push (bD k2 b),g,d,tk,os⟩) c zs:=bx.keep L6 fun o e=>aaD _ (aaD _ e)
  wp_walk using gb Ui,gb Uj,gb hL3
  refine⟨_,rfl,?_⟩
  simp only [Heap.size_push]
  exact h
end L2
namespace PySem.F
theorem kd (a b c d:Value):argsOk "object.__init__" ⟨[a,b,c,d],[]⟩:=by
 unfold argsOk;rw [signature?_of (id:="object.__init__") (n:=['_','_','t','i','n','i','_','_']) (o:=['t','c','e','j','b','o']) (by kernel_rfl) owner_object];kernel_rfl
end PySem.F
namespace L2
open PySem PySem.Spec PyProof.Rows
theorem wy{c:Addr}{n:Nat}(z:c∈([n,n+1,n+2,n+4,n+5]:List Addr)):c∈([n+5,n+3,n+4,n,n+1,n+2]:List Addr):=by
 simp only [aa7,not_mem_nil,or_false] at z ⊢
 rcases z with h|h|h|h|h <;> simp [h]
def Hq(K : Frag)(k1 k2 k3 : Bool)(a b c : Addr) : It :=
  ⟨fun i H => ∃ xs ys zs x y z, Sq k1 K H a xs /\ Sq k2 K H b ys /\ Sq k3 K H c zs /\ xs[i]?=some x /\ ys[i]?=some y /\ zs[i]?=some z,
   fun i H v H' => ∃ p x y z, v=.ref p /\ H p=none /\ (∀ xs, Sq k1 K H a xs -> xs[i]?=some x) /\ (∀ ys, Sq k2 K H b ys -> ys[i]?=some y) /\ (∀ zs, Sq k3 K H c zs -> zs[i]?=some z) /\ H'=upd H p (.tup [x, y, z]),
   fun i H => ∃ xs, Sq k1 K H a xs /\ xs.length <= i⟩
theorem Br{P:Program}{w:World}{K:Frag}{es:List Expr}{kk:Nat}{pos:Pos}{k1 k2 k3:Bool}(n a b c:Nat)(ha:a<n)(hb:b<n)(hc:c<n) :
  Turn P w K (.Tuple es kk pos) (Hq K k1 k2 k3 a b c) [n+5,n+3,n+4,n,n+1,n+2] (n+5) (fun i h=>wu k1 k2 k3 n a b c i .none h) where
 mem:=by simp
 obj:=fun i h st d hd=>by
  obtain ⟨hz,vU,⟨u,v,x,Ag⟩,vD,nM,Bo⟩:=st
  simp only [aa7,not_mem_nil,or_false] at hd
  rcases hd with rfl|rfl|rfl|rfl|rfl|rfl
  ·exact⟨_,hz,fun v z=>nomatch z⟩
  ·exact⟨_,vU,fun v z=>nomatch z⟩
  ·exact⟨_,Ag,fun v z=>nomatch z⟩
  ·exact vD.obj
  ·exact nM.obj
  ·exact Bo.obj
 keep:=fun i h h' st k=>by
  obtain ⟨hz,vU,⟨u,v,x,Ag⟩,vD,nM,Bo⟩:=st
  exact⟨k _ (by simp) _ hz,k _ (by simp) _ vU,⟨u,v,x,k _ (by simp) _ Ag⟩,vD.keep fun o e=>k _ (by simp) o e,nM.keep fun o e=>k _ (by simp) o e,Bo.keep fun o e=>k _ (by simp) o e⟩
 item:=by
  intro X hP hw hK pG i pins s σ H E I hf st hg
  subst hP hw hK
  obtain ⟨xs,ys,zs,x,y,z,qx,qy,qz,ex,ey,ez⟩:=hg
  obtain ⟨DR,r1,s1,_⟩:=I.sq qx
  obtain ⟨NL,r2,s2,_⟩:=I.sq qy
  obtain ⟨is3,r3,s3,_⟩:=I.sq qz
  obtain ⟨u,hu,ru⟩:=r1.get ex
  obtain ⟨v,hv,rv⟩:=r2.get ey
  obtain ⟨t,ht,rt⟩:=r3.get ez
  refine wx st ha hb hc s1 s2 s3 (x:=u) (y:=v) (zz:=t) (by simpa using hu) (by simpa using hv) (by simpa using ht) fun h' Z hT jc off=>⟨_,rfl,?_⟩
  have yq:H s.heap.objs.size=none:=I.aN.fresh (aaK _)
  have Pa:n+5<s.heap.objs.size:=aaH st.z
  refine wpAny_letOwnedTupleGo_zip Z.z fun h2 JL eL=>?_
  have jj:Off [n+5,n+3,n+4,n,n+1,n+2] s.heap h2:=fun d o hd e=>(eL.2 d fun z=>hd (by simp [z])).trans (off d o (fun z=>hd (wy z)) e)
  have qR:IsT h2 s.heap.objs.size #[u,v,t]:=(eL.2 _ (Nat.ne_of_gt Pa)).trans hT
  refine⟨.ref s.heap.objs.size,upd H s.heap.objs.size (.tup [x,y,z]),?_,rfl,⟨_,x,y,z,rfl,yq,fun D8 DS=>by rw [I.my DS qx];exact ex,fun D8 DS=>by rw [I.my DS qy];exact ey,fun D8 DS=>by rw [I.my DS qz];exact ez,rfl⟩,?_,fun d hd=>?_⟩
  ·refine Inv.off (s:=s) (h':=h2) (t':=s.toks) (ch:=[n+5,n+3,n+4,n,n+1,n+2]) I hf jj (I.aN.yp (fun d hd=>(hf d hd).1) jj (aaK _) ?_) (fun d o _ e hn=>?_) fun d o e=>?_
   ·exact⟨by show 3<=sizeLine;decide,[u,v,t],.cons ru (.cons rv (.cons rt .nil)),⟨_,qR,rfl,_,rfl⟩⟩
   ·rw [au (abt (aaH e))];exact hn
   ·rw [au (aF e yq)];exact e
  ·obtain ⟨z1,z2,⟨a1,a2,a3,z3⟩,z4,z5,z6⟩:=Z
   exact⟨JL,(eL.2 _ (cq (by lia))).trans z2,⟨a1,a2,a3,(eL.2 _ (cq (by lia))).trans z3⟩,z4.keep fun o e=>(eL.2 _ (cq (by lia))).trans e,z5.keep fun o e=>(eL.2 _ (cq (by lia))).trans e,z6.keep fun o e=>(eL.2 _ (cq (by lia))).trans e⟩
  ·have cn:d≠s.heap.objs.size:=by
    simp only [aa7,not_mem_nil,or_false] at hd
    rcases hd with rfl|rfl|rfl|rfl|rfl|rfl <;> exact cq (by lia)
   rw [au cn];exact (hf d hd).1
 done:=by
  intro X hP hw hK pG i pins s σ H E I hf st hg
  subst hP hw hK
  obtain ⟨xs,qx,yn⟩:=hg
  obtain ⟨DR,r1,s1,_⟩:=I.sq qx
  have e1:=r1.length
  refine oh (I.ok.hd pG) st ha s1 (by simp;lia) fun h' off=>⟨rfl,?_⟩
  have jj:Off [n+5,n+3,n+4,n,n+1,n+2] s.heap h':=fun d o hd e=>off d o (fun z=>hd (wy z)) e
  exact Inv.off (s:=s) (t':=s.toks) I hf jj (I.aN.off (fun d hd=>(hf d hd).1) jj) (fun _ _ _ _ q=>q) fun _ _ q=>q
 self:=fun _ _ _ _ _ st h=>wpAny_pyIter_zip st.z h
def D9(K:Frag)(k1 k2 k3:Bool):List V->Hp->(It->Hp->Prop)->Prop:=fun vs H R=>∃ a b c,vs=[.ref a,.ref b,.ref c]/\(∃ xs,Sq k1 K H a xs)/\(∃ ys,Sq k2 K H b ys)/\(∃ zs,Sq k3 K H c zs)/\R (Hq K k1 k2 k3 a b c) H
def Ea(K:Frag)(k1 k2 k3:Bool)(ta:TA):TI:=fun σ H R=>ta σ H fun vs H1=>D9 K k1 k2 k3 vs H1 R
section
variable {X:Cx}
theorem vals3{x y z:V}{us:List Value}(r:Vals [x,y,z] us):∃ u v w',us=[u,v,w']/\RelV x u/\RelV y v/\RelV z w':=by
 cases r with
 | cons r1 t=>cases t with
  | cons r2 t=>cases t with
   | cons r3 t=>cases t;exact⟨_,_,_,rfl,r1,r2,r3⟩
theorem Hs (k1 k2 k3:Bool) {es:List Expr} {kk:Nat} {nZ:Pos} {a b c:Expr} {ta:TA} {p pos:Pos} (hg:Gl X "zip") (hm:X.mg "zip"=none) (ha:PA X [a,b,c] ta) (hs:starEach [a,b,c] X.env=(false,eval a X.env)::starEach [b,c] X.env:=by rfl) (i0:(backTo pos (starEach [b,c] X.env)).any (·.1)=false:=by rfl) :
  PI X (.Tuple es kk nZ) (.Call (.Name "zip" p) [a,b,c] [] pos) (Ea X.K k1 k2 k3 ta):=by
 intro pins s σ H R I h
 refine Call_ (iu I hg hm boot_zip (callWith_type1 (cp (ha pos pins s σ H _ I h) fun us s1 ⟨vs,H1,I1,r1,q1⟩=>?_) hs i0))
 obtain ⟨a',b',c',e,⟨xs,qx⟩,⟨ys,qy⟩,⟨zs,qz⟩,q⟩:=q1
 subst e
 obtain ⟨u,v,t,rfl,ru,rv,rt⟩:=vals3 r1
 cases ru
 cases rv
 cases rt
 obtain ⟨DR,r1,JN,_⟩:=I1.sq qx
 obtain ⟨NL,r2,Pb,_⟩:=I1.sq qy
 obtain ⟨is3,r3,s3',_⟩:=I1.sq qz
 refine callType_new PySem.F.called_zip (by decide) (PySem.F.pL _ _ _) (PySem.F.rj _ _ _) (fun obj=>PySem.F.kd obj _ _ _) PySem.F.entry_zip_new (Bq k1 k2 k3 a' b' c' DR.toArray NL.toArray is3.toArray) ⟨JN,Pb,s3',?_⟩
 have z1:(s1.heap.push (bD k1 a')).objs.size=s1.heap.objs.size+1:=Heap.size_push ..
 have z2:((s1.heap.push (bD k1 a')).push (bD k2 b')).objs.size=s1.heap.objs.size+2:=by rw [Heap.size_push,z1]
 have z3:(((s1.heap.push (bD k1 a')).push (bD k2 b')).push (bD k3 c')).objs.size=s1.heap.objs.size+3:=by rw [Heap.size_push,z2]
 have z4:((((s1.heap.push (bD k1 a')).push (bD k2 b')).push (bD k3 c')).push { cls:=.type "tuple",data:=.seq #[.ref s1.heap.objs.size,.ref (s1.heap.objs.size+1),.ref (s1.heap.objs.size+2)] }).objs.size=s1.heap.objs.size+4:=by rw [Heap.size_push,z3]
 have z5:(((((s1.heap.push (bD k1 a')).push (bD k2 b')).push (bD k3 c')).push { cls:=.type "tuple",data:=.seq #[.ref s1.heap.objs.size,.ref (s1.heap.objs.size+1),.ref (s1.heap.objs.size+2)] }).push { cls:=.type "tuple",data:=.seq #[.none,.none,.none] }).objs.size=s1.heap.objs.size+5:=by rw [Heap.size_push,z4]
 have g6:(Ho k1 k2 k3 s1.heap a' b' c').get? (s1.heap.objs.size+5)=some { cls:=.type "zip",data:=.fields #[.none,.bool false,.bool false,.ref (s1.heap.objs.size+3),.ref (s1.heap.objs.size+4)] }:=by rw [<- z5];exact aaI _ rfl
 have g5:(Ho k1 k2 k3 s1.heap a' b' c').get? (s1.heap.objs.size+4)=some { cls:=.type "tuple",data:=.seq #[.none,.none,.none] }:=by rw [<- z4];exact aaD _ (aaI _ rfl)
 have g4:(Ho k1 k2 k3 s1.heap a' b' c').get? (s1.heap.objs.size+3)=some { cls:=.type "tuple",data:=.seq #[.ref s1.heap.objs.size,.ref (s1.heap.objs.size+1),.ref (s1.heap.objs.size+2)] }:=by rw [<- z3];exact aaD _ (aaD _ (aaI _ rfl))
 have g3:(Ho k1 k2 k3 s1.heap a' b' c').get? (s1.heap.objs.size+2)=some (bD k3 c'):=by rw [<- z2];exact aaD _ (aaD _ (aaD _ (aaI _ (by cases k3 <;> rfl))))
 have g2:(Ho k1 k2 k3 s1.heap a' b' c').get? (s1.heap.objs.size+1)=some (bD k2 b'):=by rw [<- z1];exact aaD _ (aaD _ (aaD _ (aaD _ (aaI _ (by cases k2 <;> rfl)))))
 have g1:(Ho k1 k2 k3 s1.heap a' b' c').get? s1.heap.objs.size=some (bD k1 a'):=aaD _ (aaD _ (aaD _ (aaD _ (aaD _ (aaI _ (by cases k1 <;> rfl))))))
 have old:∀ d o,s1.heap.get? d=some o->(Ho k1 k2 k3 s1.heap a' b' c').get? d=some o:=fun d o x=>aaD _ (aaD _ (aaD _ (aaD _ (aaD _ (aaD _ x)))))
 have Z:wu k1 k2 k3 s1.heap.objs.size a' b' c' 0 .none (Ho k1 k2 k3 s1.heap a' b' c'):=⟨g6,g4,⟨_,_,_,g5⟩,ic g1,ic g2,ic g3⟩
 show _/\_
 refine⟨⟨_,g6,rfl⟩,wpAny_pyIter_zip Z.z ?_⟩
 refine⟨_,_,_,_,H1,rfl,I1.kept (t':=s1.toks) old,Br s1.heap.objs.size a' b' c' JN.lt Pb.lt s3'.lt,Z,fun d hd=>?_,q⟩
 have pG:s1.heap.objs.size<=d:=by
  simp only [aa7,not_mem_nil,or_false] at hd
  rcases hd with rfl|rfl|rfl|rfl|rfl|rfl <;> first|exact le_add_right _ _|exact aaK _
 exact I1.t7 pG (I1.aN.fresh pG)
theorem Eb (K:Frag) (hK:X.K=K) (k1 k2 k3:Bool) {es:List Expr} {kk:Nat} {nZ:Pos} {a b c:Expr} {ta:TA} {p pos:Pos} (hg:Gl X "zip") (hm:X.mg "zip"=none) (ha:PA X [a,b,c] ta) (hs:starEach [a,b,c] X.env=(false,eval a X.env)::starEach [b,c] X.env:=by rfl) (i0:(backTo pos (starEach [b,c] X.env)).any (·.1)=false:=by rfl) :
  PI X (.Tuple es kk nZ) (.Call (.Name "zip" p) [a,b,c] [] pos) (Ea K k1 k2 k3 ta):=hK ▸ Hs k1 k2 k3 hg hm ha hs i0
end
section
variable {D:Ends}{σ:St}{H:Hp}{K:Frag}
theorem Ht{k1 k2 k3:Bool}{ts:TA}{R:It->Hp->Prop}(h:ts σ H fun vs H1=>D9 K k1 k2 k3 vs H1 R):Ea K k1 k2 k3 ts σ H R:=h
theorem L7{k1 k2 k3:Bool}{a b c:Addr}{xs ys zs:List V}{R:It->Hp->Prop}(e1:Sq k1 K H a xs)(e2:Sq k2 K H b ys)(e3:Sq k3 K H c zs)(h:R (Hq K k1 k2 k3 a b c) H):D9 K k1 k2 k3 [.ref a,.ref b,.ref c] H R:=⟨a,b,c,rfl,⟨_,e1⟩,⟨_,e2⟩,⟨_,e3⟩,h⟩
end
def rm(H:Hp)(l:Addr):Hp:=fun b=>if b=l then none else H b
theorem wA{H:Hp}{l:Addr}:rm H l l=none:=by unfold rm;rw [if_pos rfl]
theorem Ec{H:Hp}{l b:Addr}(h:b≠l):rm H l b=H b:=by unfold rm;rw [if_neg h]
theorem oK{H:Hp}{l:Addr}:aj (rm H l) H:=fun b o e=>by
 by_cases h:b=l
 ·subst h;rw [wA] at e;cases e
 ·rw [Ec h] at e;exact e
theorem Ed{K:Frag}{H:Hp}{l a:Addr}{xs ys:List V}(h:aR K H a xs)(hl:H l=some (.lst ys)):aR K (rm H l) a xs:=by
 have ne:∀ {o},H a=some o->(∀ zs,o≠.lst zs)->a≠l:=fun {o} e n z=>by subst z;rw [hl] at e;exact n _ (aaN e).symm
 rcases h with (h|⟨o,h⟩)|h
 ·exact .inl (.inl (by rw [Ec (ne h fun _ z=>nomatch z)];exact h))
 ·exact .inl (.inr ⟨o,by rw [Ec (ne h fun _ z=>nomatch z)];exact h⟩)
 ·exact .inr h
end L2
namespace L2
open PySem PySem.Spec PyProof.Rows PySem.W
structure uw(K:Frag)(C:Addr):Prop where
 ga:findIn K (.ref C) "__getattribute__"=some (some (.builtin "BaseException.__getattribute__"))
 gt:findIn K (.ref C) "__getattr__"=some none
 fc:findObj K C none "__class__"=some (.bind (.builtin "getset_descriptor.__get__") (.builtin "object.__class__"))
 ob:mroIn K C (.type "object")=some true
 be:subIn K (.ref C) (.type "BaseException")=some true
 cl:(clsIn K C).isSome=true
section
variable {prog:Program}{w:World}{A:Around}{E:Value->Shared->Prop}{s:Shared}{K:Frag}{x C:Addr}{ox:Obj}
theorem Bs{Q:Option Value->Shared->Prop}(V:uw K C)(X:K.In s.heap)(I:InstAt s.heap x ox C none)(h:Q (some (.ref C)) { s with toks:=s.toks+1 }) :
  wpAny (model prog w) A (getAttr? (.ref x) "__class__") Q E s:=by
 obtain ⟨hh,g,d,t,os⟩:=s
 have L0:=I.type (M:=model prog w)
 have L1:=looks_findIn (M:=model prog w) X V.ga
 have L2:=looks_findIn (M:=model prog w) X V.gt
 have L3:=looks_find (M:=model prog w) X I V.fc
 have L4:=looks_subIn (M:=model prog w) X V.be
 have f3:=F.attr_ValueError.ga.bind (.ref x)
 unfold getAttr? getAttrBy? getAttrBy
 refine aaE (wpAny_mkText (aaE (wpAny_attempt (wpAny_holding (aaE (L0.at (aaE (L1.at ?_))))))))
 have CM:(Value.builtin "BaseException.__getattribute__" == Value.builtin "object.__getattribute__")=false:=by decide +kernel
 have NQ:(onTheHeap (Value.ref C) && Value.builtin "BaseException.__getattribute__" == Value.builtin "object.__getattribute__")=false:=by rw [CM];rfl
 dsimp only
 rw [NQ]
 simp only [Bool.false_eq_true,if_false]
 unfold getAttrByItsOwn hookBefore
 rw [if_pos (show onTheHeap (Value.ref C)=true from rfl)]
 refine aaE (L2.at (aaE (wpAny_attempt (wpAny_holding ?_))))
 unfold callGetattribute boundAndCalled
 rw [if_neg (by decide)]
 rw [f3]
 refine aaE (aaT (wpAny_call ?_))
 refine codeAny_call_builtin F.attr_ValueError.ga.plain F.entry_bexc_ga ?_
 have hk:builtinKind "BaseException.__getattribute__"=some .slot:=by decide +kernel
 have L8:splitId "BaseException.__getattribute__"=some ("BaseException","__getattribute__"):=by decide +kernel
 have ha:=F.args_bexc_ga (.ref x) (.str "__class__" t)
 simp only [checkBuiltinCall,hk,L8]
 refine aaE ?_
 unfold isInstance
 refine aaE (L0.at (L4.at ?_))
 rw [if_neg (by decide)]
 refine wpAny_of_eq (a:=()) ha ?_
 show wpAny _ _ (Builtin.«object.__getattribute__» ⟨[.ref x,.str "__class__" t],[]⟩) _ _ _
 unfold Builtin.«object.__getattribute__»
 refine aaE (aaT ?_)
 refine aaE (aaT (aaE (L0.at (aaE (L3.at ?_)))))
 show wpAny _ _ (holding [.builtin "object.__class__"] (call (.builtin "getset_descriptor.__get__") [.builtin "object.__class__",.ref x,.ref C]) >>= ret) _ _ _
 refine aaE (wpAny_holding (wpAny_call (class_get (s:=⟨hh,g,d,t+1,os⟩) X I V.ob ?_)))
 refine aaT ?_
 show wpAny _ _ (handedOut (.ref C)) _ _ _
 rw [handedOut_of rfl]
 exact aaT (aaT h)
end
end L2
namespace L2
open PySem PySem.Spec PyProof.Rows PySem.W
theorem pM{K:Frag}{a C:Addr}(V:uw K C):KitX K (.ref a) (.ref C) (fun h=>∃ ox,PySem.W.InstAt h a ox C none) where
 ty:=fun _ _ _ ⟨_,I⟩=>I.type
 it:=fun _ _ X _=>by
  obtain ⟨cd,hc⟩:=aaS.mp V.cl
  unfold clsIn at hc
  split at hc
  ·rename_i c' d' cd' xR ho
   intro A' Q' E' s' k q
   unfold isType loadHead
   exact aaE (wpAny_loadPart (k _ _ (X _ _ ho)) (aaT q))
  ·cases hc
 ne:=fun h tp dd its n sl X htp=>by
  obtain ⟨cd,hc⟩:=aaS.mp V.cl
  refine Bool.eq_false_iff.mpr fun q=>?_
  have e:C=tp:=Value.ref.inj (beq_iff_eq.mp q)
  subst e
  unfold clsIn at hc
  split at hc
  ·rename_i c' d' cd' xR ho
   have z:=(X _ _ ho).symm.trans htp
   cases z
  ·cases hc
 ca:=fun X ⟨_,I⟩ k=>Bs V X I k
def pN(a C:Addr):HO:=.ext fun h=>∃ ox,PySem.W.InstAt h a ox C none
section
variable {M:Model}{A:Around}{E:Value->Shared->Prop}{s:Shared}
theorem pO{base:Heap}{env:Env}{outer:List Env}{L e:Addr}{oe:Obj}{vs:Array Value}{head:Value}{ux:Bool}{Q:Unit->Shared->Prop}
  (qP:A.frames=some (env::outer)) (hl:s.heap.FunFrames base (env::outer)) (hf:env.frame=some L)
  (he:s.heap.get? e=some oe) (hd:oe.data=.fields vs) (jc:1<vs.size)
  (h:∀ h' T,(∀ b o,b≠e->b∉jV (env::outer)->s.heap.get? b=some o->h'.get? b=some o)->(∀ b o,b≠e->s.heap.get? b=some o->∃ sl,h'.get? b=some { o with slots:=sl }) ->
   s.heap.get? T=none->T≠e->h'.get? e=some (oe.mapFields (·.setIfInBounds 1 (.ref T)))->(∃ oT ts,h'.get? T=some oT/\oT.data=.fields ts/\ts[3]?=some .none)->Q () { s with heap:=h' }) :
  wpAny M A (do let a <- frameOf env;let pl <- entryPlaceOf L ux;let b <- EntryCells.newEntry head a .none (rawInt L) .none pl;setField (.ref e) 1 b) (fun _ s'=>wpAny M A (setFlight (.ref e) none) Q E s') E s:=by
 have L9:e∉(env::outer).filterMap (·.frame):=fun hm=>by
  obtain ⟨_,o,ho,uy⟩:=hl.mem hm
  rw [he] at ho;injection ho with ho;subst ho;exact uy vs hd
 refine aaE (wpAny_frameOf_fun qP hl hf fun h₁ Hv=>?_)
 refine aaE (wpAny_entryPlaceOf fun pl i0=>?_)
 unfold EntryCells.newEntry newFields
 refine aaE (wpAny_newObj_type ?_ (i0.sizeOk5 _ _ _ _ _))
 have Qg:h₁.get? e=some oe:=(Hv.2.1 e L9).trans he
 have Qh:=aaD (h:=h₁) { cls:=.type "traceback",dict:=none,data:=.fields ([head,.ref L,.none,rawInt L,.none]++(if pl.isEmpty then List.replicate 6 Value.none else pl)).toArray } Qg
 refine wpAny_setField Qh hd jc ?_
 have Ee:h₁.objs.size≠e:=Nat.ne_of_gt (aaH Qg)
 have hd₃:=Obj.data_mapFields hd (·.setIfInBounds 1 (Value.ref h₁.objs.size))
 have he₃:=Heap.get?_update_self (Obj.mapFields (·.setIfInBounds 1 (Value.ref h₁.objs.size))) Qh (Obj.isFreed_of_fields hd₃)
 have hT₃:=(Heap.get?_update_other (h₁.push { cls:=.type "traceback",dict:=none,data:=.fields ([head,.ref L,.none,rawInt L,.none]++(if pl.isEmpty then List.replicate 6 Value.none else pl)).toArray })
  (Obj.mapFields (·.setIfInBounds 1 (Value.ref h₁.objs.size))) (Ne.symm Ee)).trans (aaI h₁ rfl)
 unfold setFlight
 refine aaE (wpAny_field he₃ hd₃ (x:=.ref h₁.objs.size) (by simp [jc]) ?_)
 rw [if_pos (show (Value.ref h₁.objs.size != Value.none)=true from by simp)]
 have keep:∀ b o,b≠e->h₁.get? b=some o ->
   (((h₁.push { cls:=.type "traceback",dict:=none,data:=.fields ([head,.ref L,.none,rawInt L,.none]++(if pl.isEmpty then List.replicate 6 Value.none else pl)).toArray }).update e (Obj.mapFields (·.setIfInBounds 1 (Value.ref h₁.objs.size)))).update h₁.objs.size
    (Obj.mapFields (·.setIfInBounds 3 ((none:Option Addr).elim Value.none fun f=>rawInt f)))).get? b=some o:=fun b o vG hb=>by
  have hbT:h₁.objs.size≠b:=Nat.ne_of_gt (aaH hb)
  rw [Heap.get?_update_other _ _ hbT,Heap.get?_update_other _ _ (Ne.symm vG)]
  exact aaD _ hb
 refine wpAny_setField hT₃ rfl (by simp only [abj,aa5,length_cons,List.length_nil] <;> lia) (h _ h₁.objs.size (fun b o vG UE hb=>keep b o vG ((Hv.2.1 b UE).trans hb)) (fun b o vG hb=>?_) (Heap.get?_none_of_le (by rw [Hv.1];exact aaK _)) Ee ?_ ?_)
 ·obtain ⟨sl,hs⟩:=Hv.2.2 b o hb
  exact⟨sl,keep b _ vG hs⟩
 ·rw [Heap.get?_update_other _ _ Ee];exact he₃
 ·exact⟨_,_,Heap.get?_update_self _ hT₃ (Obj.isFreed_of_fields (Obj.data_mapFields rfl _)),Obj.data_mapFields rfl _,by first|(simp;done)|(rcases i0 with rfl|⟨_,_,_,_,_,_,_,rfl⟩ <;> simp)⟩
def uz(h:Heap)(e:Addr)(vs:Array Value):Option Addr->Prop
 | none=>vs[1]?=some .none
 | some T=>vs[1]?=some (.ref T)/\T≠e/\∃ oT ts,h.get? T=some oT/\oT.data=.fields ts/\ts[3]?=some .none
theorem mJ{base:Heap}{env:Env}{outer:List Env}{L e:Addr}{oe:Obj}{vs:Array Value}{T0:Option Addr}{Q:Unit->Shared->Prop}
  (qP:A.frames=some (env::outer)) (hl:s.heap.FunFrames base (env::outer)) (hf:env.frame=some L)
  (he:s.heap.get? e=some oe) (hd:oe.data=.fields vs) (hh:uz s.heap e vs T0)
  (h:∀ h' T,(∀ b o,b≠e->some b≠T0->b∉jV (env::outer)->s.heap.get? b=some o->h'.get? b=some o)->(∀ b o,b≠e->some b≠T0->s.heap.get? b=some o->∃ sl,h'.get? b=some { o with slots:=sl }) ->
   s.heap.get? T=none->T≠e->h'.get? e=some (oe.mapFields (·.setIfInBounds 1 (.ref T)))->(∃ oT ts,h'.get? T=some oT/\oT.data=.fields ts/\ts[3]?=some .none)->Q () { s with heap:=h' }) :
  wpAny M A (noteFrame (.ref e) env) (fun _ s'=>wpAny M A (setFlight (.ref e) none) Q E s') E s:=by
 unfold noteFrame
 simp only [hf]
 cases T0 with
 | none =>
  have h1:vs[1]?=some .none:=hh
  refine aaE (wpAny_field he hd h1 ?_)
  rw [if_neg (by decide)]
  exact pO qP hl hf he hd (Array.getElem?_eq_some_iff.mp h1).1 fun h' T k1 k2 k3 k4 k5 k6=>h h' T (fun b o b1 _ b3 b4=>k1 b o b1 b3 b4) (fun b o b1 _ b3=>k2 b o b1 b3) k3 k4 k5 k6
 | some T =>
  obtain ⟨h1,Ee,oT,ts,hT,qS,h3⟩:=hh
  refine aaE (wpAny_field he hd h1 ?_)
  rw [if_pos (show (Value.ref T != Value.none)=true from by simp)]
  refine aaE (wpAny_field hT qS h3 ?_)
  rw [if_neg (show ¬ ((Value.none == rawInt L)=true) from by simp [rawInt])]
  refine aaE (wpAny_setField hT qS (Array.getElem?_eq_some_iff.mp h3).1 ?_)
  have other:∀ b,b≠T->(s.heap.update T (Obj.mapFields (·.setIfInBounds 3 Value.none))).get? b=s.heap.get? b:=fun b hb=>Heap.get?_update_other _ _ (Ne.symm hb)
  have pP:∀ b o,s.heap.get? b=some o->(∀ vs,o.data≠.fields vs)->b≠T:=fun b o hb uy q=>by
   rw [q,hT] at hb;injection hb with hb;subst hb;exact uy ts qS
  have qR:=Heap.get?_update_self (Obj.mapFields (·.setIfInBounds 3 Value.none)) hT (Obj.isFreed_of_fields (Obj.data_mapFields qS _))
  refine pO qP (hl.of_keeps fun b o hb uy=>⟨o,(other b (pP b o hb uy)).trans hb,rfl⟩) hf ((other e (Ne.symm Ee)).trans he) hd (Array.getElem?_eq_some_iff.mp h1).1 fun h' T' k1 k2 k3 k4 k5 k6=>?_
  refine h h' T' (fun b o b1 b2 b3 b4=>k1 b o b1 b3 ((other b fun z=>b2 (by rw [z])).trans b4)) (fun b o b1 b2 b4=>k2 b o b1 ((other b fun z=>b2 (by rw [z])).trans b4)) ?_ k4 k5 k6
  by_cases hq:T'=T
  ·rw [hq,qR] at k3;cases k3
  ·rw [other T' hq] at k3;exact k3
theorem flight_again{e:Addr}{oe:Obj}{vs:Array Value}{T:Addr}{Q:Unit->Shared->Prop}(he:s.heap.get? e=some oe)(hd:oe.data=.fields vs)(hh:uz s.heap e vs (some T))
  (h:∀ h',(∀ b o,b≠T->s.heap.get? b=some o->h'.get? b=some o)->(∃ oT ts,h'.get? T=some oT/\oT.data=.fields ts/\ts[3]?=some .none)->Q () { s with heap:=h' }):wpAny M A (setFlight (.ref e) none) Q E s:=by
 obtain ⟨h1,Ee,oT,ts,hT,qS,h3⟩:=hh
 have Qi:3<ts.size:=(Array.getElem?_eq_some_iff.mp h3).1
 unfold setFlight
 refine aaE (wpAny_field he hd h1 ?_)
 rw [if_pos (show (Value.ref T != Value.none)=true from by simp)]
 refine wpAny_setField hT qS Qi (h _ (fun b o hb e=>(Heap.get?_update_other _ _ (Ne.symm hb)).trans e) ⟨_,_,Heap.get?_update_self _ hT (Obj.isFreed_of_fields (Obj.data_mapFields qS _)),Obj.data_mapFields qS _,?_⟩)
 simp [Qi]
end
end L2
namespace L2
open PySem PySem.Spec PyProof.Rows PySem.W
theorem dv.there{P:Program}{w:World}{H:Hp}{h:Heap}{a:Addr}{o:HO}(x:dv P w H h a o):∃ ob,h.get? a=some ob:=by
 cases o with
 | lst xs=>obtain ⟨_,_,_,_,e⟩:=x;exact⟨_,e⟩
 | tup xs=>obtain ⟨_,_,_,ob,e,_⟩:=x;exact⟨_,e⟩
 | dK kM=>obtain ⟨_,_,_,_,o,_,_,e,_⟩:=x;exact⟨_,e⟩
 | dT kM=>obtain ⟨_,_,_,_,o,_,_,e,_⟩:=x;exact⟨_,e⟩
 | set S n=>obtain ⟨o,_,_,_,e,_⟩:=x;exact⟨_,e⟩
 | ins C dx fs=>obtain ⟨_,_,_,e,_⟩:=x;exact⟨_,e⟩
 | own y=>obtain ⟨_,e⟩:=x;exact⟨_,e⟩
 | xd fs=>obtain ⟨_,⟨_,_,_,e,_⟩,_⟩:=x;exact⟨_,e⟩
 | Sn lo hi=>obtain ⟨_,_,_,e⟩:=x;exact⟨_,e⟩
 | sj ob u=>obtain ⟨e,_⟩:=x;exact⟨_,e⟩
 | oB ps=>exact⟨_,(show h.get? a=some _ from x)⟩
 | met f y=>exact⟨_,(show h.get? a=some _ from x)⟩
 | ext φ=>obtain ⟨_,⟨_,e⟩,_⟩:=x;exact⟨_,e⟩
theorem ft.free{P:Program}{w:World}{H:Hp}{h:Heap}{a:Addr}(x:ft P w H h)(e:h.get? a=none):H a=none:=by
 cases q:H a with
 | none=>rfl
 | some o=>obtain ⟨ob,z⟩:=(x a o q).there;rw [e] at z;cases z
def Exc(h:Heap)(H:Hp)(h0:Heap)(ps:List (Addr×Obj))(a C:Addr):Prop:=∃ oe vs T0,h.get? a=some oe/\oe.cls=.ref C/\oe.dict=none/\oe.data=.fields vs/\1<vs.size/\uz h a vs T0/\H a=none/\(h0.get? a=none/\∀ p∈ps,p.1≠a) /\
 ∀ T,T0=some T->H T=none/\h0.get? T=none/\∀ p∈ps,p.1≠T
def kf(P:Program)(w:World):CH:=fun outer H s E e s'=>∃ a C H',e=.ref a/\s'.os=s.os/\AllBare s'.gens/\Un (jV outer) [] H H' s.heap s'.heap/\ft P w H' s'.heap/\Exc s'.heap H' s.heap [] a C/\E (.ref C) none H'
abbrev qT:=Addr->St->Hp->Prop
def XW(X:Cx)(EX:qT):Value->Shared->Prop:=fun e s'=>∃ a C σ' H',e=.ref a/\Inv X.Gb [] σ' H' s'/\Exc s'.heap H' X.s₀.heap X.pn a C/\EX C σ' H'
theorem eG(o:Obj)(f:Array Value->Array Value):(o.mapFields f).dict=o.dict:=by
 unfold Obj.mapFields;split <;> rfl
theorem yB{P:Program}{w:World}{K:Frag}{mg:Str->Option Value}{base:Heap}{N:List Str}{qual:Str}{scope:Scope}{f:Addr}{cd:Value}{A:Around}{outer:List Env}{s:Shared}{H:Hp}{E:XK}{e:Value}{s':Shared}
  (h:XW (iz (kf P w) P w K mg base N qual scope f cd A outer s H E) (fun C _ H'=>E (.ref C) none H') e s'):(iz (kf P w) P w K mg base N qual scope f cd A outer s H E).xe e s':=by
 obtain ⟨a,C,σ',H',rfl,I,⟨oe,vs,T0,he,hc,Ef,hd,jc,hh,xM,⟨HH,_⟩,hT⟩,hE⟩:=h
 have lI:s.heap.get? a=none:=HH
 have yC:∀ T,T0=some T->H' T=none/\s.heap.get? T=none:=fun T z=>⟨(hT T z).1,(hT T z).2.1⟩
 show wpAny (model P w) (A.deeper (envOfC qual scope s.heap.objs.size f cd)) (leaving (envOfC qual scope s.heap.objs.size f cd) (.ref a)) _ _ s'
 unfold leaving
 refine aaE (mJ (L:=s.heap.objs.size) I.ok.frames I.stack rfl he hd hh fun h' T k1 k2 k3 k4 k5 k6=>?_)
 have ne:∀ b o,s.heap.get? b=some o->b≠a/\some b≠T0/\b≠s.heap.objs.size:=fun b o q=>⟨fun z=>(by rw [z,lI] at q;cases q),fun z=>(by rw [(yC b z.symm).2] at q;cases q),abt (aaH q)⟩
 have Ma:∀ b o,s.heap.get? b=some o->b∉jV outer->b∉jV (envOfC qual scope s.heap.objs.size f cd::outer):=fun b o q hb z=>by
  rcases aa7.mp (I.iq b z) with r|r
  ·exact (ne b o q).2.2 r
  ·exact hb r
 have off:Off (a::(T0.toList++jV (envOfC qual scope s.heap.objs.size f cd::outer))) s'.heap h':=fun b o hb q=>by
  simp only [aa7,aa2,not_or] at hb
  exact k1 b o hb.1 (fun z=>hb.2.1 (by rw [<- z];simp)) hb.2.2 q
 refine⟨a,C,H',rfl,I.os,I.bare,⟨fun b o q n hb hx=>?_,fun b o q n hb hx=>?_,fun b o q n hx=>I.base.free b o q n hx,fun b o q hx=>?_,I.base.il,I.base.gZ,I.base.hJ⟩,I.aN.off (fun b hb=>?_) off,?_,hE⟩
 ·exact k1 b o (ne b o q).1 (ne b o q).2.1 (Ma b o q hb) (I.base.keep b o q n hb hx)
 ·obtain ⟨sl,q1⟩:=I.base.slot b o q n hb hx
  obtain ⟨xR,q2⟩:=k2 b _ (ne b o q).1 (ne b o q).2.1 q1
  exact⟨xR,q2⟩
 ·obtain ⟨o',q1⟩:=I.base.there b o q hx
  obtain ⟨xR,q2⟩:=k2 b _ (ne b o q).1 (ne b o q).2.1 q1
  exact⟨_,q2⟩
 ·simp only [aa7,aa2] at hb
  rcases hb with rfl|hb|hb
  ·exact xM
  ·cases T0 with
   | none=>simp at hb
   | some T1 =>
    simp only [Option.toList_some,aa1] at hb
    rw [hb];exact (yC T1 rfl).1
  ·exact I.eC b hb
 ·refine⟨_,_,some T,k5,(Obj.cls_mapFields _ _).trans hc,(eG _ _).trans Ef,Obj.data_mapFields hd _,by simpa using jc,⟨by simp [jc],k4,k6⟩,xM,⟨lI,fun _ z=>nomatch z⟩,fun T' e=>?_⟩
  cases e
  refine⟨I.aN.free k3,?_,fun _ z=>nomatch z⟩
  cases q:s.heap.get? T with
  | none=>rfl
  | some o =>
   obtain ⟨o',q1⟩:=I.base.there T o q (by show T∉([]:List Addr);simp)
   rw [k3] at q1;cases q1
def tw(P:Program)(w:World)(K:Frag)(mg:Str->Option Value)(base:Heap)(k:Nat)(x:Str)(ps:List Str)(sp:Sp):Prop :=
 ∃ f fd,j8 P w K mg base (kf P w) k f fd ps sp/\mg x=some (.ref f)/\keepIn K (.ref f)=true/\Binds K fd ps []
theorem oE.xe{X:Cx}{E:Value->Shared->Prop}{st:List Stmt}{t:TS}(h:oE (X.eD E) st t)(k:∀ e s,E e s->X.xe e s):oE X st t:=fun pins s σ H D I hw =>
 aaU (h pins s σ H D (I.eD _) hw) (fun _ _ z=>z.dW) k
section
variable {P:Program}{w:World}{K:Frag}{mg:Str->Option Value}{base:Heap}
theorem Def.Qj{x:Str}{st:Stmt}{N ps:List Str}{k:Nat}{sp:Sp}(D:Def K mg x st ps)(S:aA N ps (ak st))(len:∀ vs H Q E,sp vs H Q E->vs.length=ps.length)
  (fZ:∀ (f:Addr) (cZ:Value) (A:Around) (outer:List Env) (s:Shared) (H:Hp) (vs:List V) (Q:VK) (E:XK),cj k (A.deeper (envOfC x (ak st) s.heap.objs.size f cZ))->sp vs H Q E ->
   ∃ t,oE ((iz (kf P w) P w K mg base N x (ak st) f cZ A outer s H E).eD (XW (iz (kf P w) P w K mg base N x (ak st) f cZ A outer s H E) fun C _ H'=>E (.ref C) none H')) (az st) t/\t { nx:=fun _ H'=>Q .dB H',rt:=Q } (start N vs) H):tw P w K mg base (k+1) x ps sp:=by
 obtain ⟨f,fd,F,hm,hb⟩:=D
 obtain ⟨oc,od,kV,doc,pm,an,cZ,ct,zZ,rfl,lk,kO⟩:=F.ex
 refine⟨f,_,vP lk kO S len fun A outer s H vs Q E hr z0=>?_,hm,F.kp,hb⟩
 obtain ⟨t,h,q⟩:=fZ f cZ A outer s H vs Q E hr z0
 exact⟨t,h.xe fun e s z=>yB z,q⟩
end
def yD(sp:Sp)(EX:qT)(t:TA):TE:=fun σ H Q=>t σ H fun vs H1=>sp vs H1 Q fun C _ H2=>∃ c,C=.ref c/\EX c σ H2
section
variable {X:Cx}{EX:qT}{k:Nat}{x:Str}{ps:List Str}{sp:Sp}{p pos:Pos}{e:Expr}{es:List Expr}{t:TA}
theorem uA(O:tw X.prog X.w X.K X.mg X.base k x ps sp)(hr:cj k X.A)(hX:∀ e s',XW X EX e s'->X.xe e s')(hex:X.ex=[])(ha:PA X (e::es) t)(hg:Gl X x:=by rfl)
  (ph:(x == ("__debug__":Str))=false:=by decide) (he:starEach (e::es) X.env=(false,eval e X.env)::starEach es X.env:=by rfl) (i0:(backTo pos (starEach es X.env)).any (·.1)=false:=by rfl) :
  PE X (.Call (.Name x p) (e::es) [] pos) (yD sp EX t):=by
 obtain ⟨f,fd,F,hm,hk,hb⟩:=O
 intro pins s σ H Q I h
 refine wpAny_Call_Name_kw (gF I hg hm ?_ ph)
 refine callWith_K (h₀:=X.base) I.ok.mod.Gz hk (cp (ha pos pins s σ H _ I h) fun us s1 ⟨vs,H1,I1,r,q⟩=>⟨I1.i9,?_⟩) he i0
 have r2:Vals (vs++[]) (us++[]):=r.append .nil
 have hl:(us++[]).length=ps.length:=by rw [<- r2.length,append_nil];exact F.len _ _ _ _ q
 rw [append_nil] at r2
 refine wpAny_call (codeAny_mono (F.run X.A X.stack s1 H1 ⟨us,[]⟩ (us++[]) vs Q _ hr I1.Dk (hb s1 us I1.i9 hl) r2 q) fun r s' hq=>?_)
 cases r with
 | error e =>
  obtain ⟨a,C,H',rfl,ho,Qk,un,aN,⟨oe,Mb,T0,e1,e2,e3,e4,e5,e6,e7,e8,e9⟩,c,ec,hE⟩:=hq
  cases ec
  have I2:Inv X pins σ H' s':=I1.oV (ch:=[]) ho un aN Qk fun b z=>absurd z (by simp)
  have nw:∀ b,s1.heap.get? b=none->X.s₀.heap.get? b=none:=fun b z=>by
   cases q:X.s₀.heap.get? b with
   | none=>rfl
   | some o =>
    obtain ⟨o',q1⟩:=I1.base.there b o q (by rw [hex];simp)
    rw [z] at q1;cases q1
  have np:∀ b,s1.heap.get? b=none->∀ p∈X.pn,p.1≠b:=fun b z p hp q=>by
   have:=(I1.pin p (aa0 _ hp)).1
   rw [q,z] at this;cases this
  exact hX _ _ ⟨a,C,σ,H',rfl,(I2.eZ fun p hp=>absurd hp (by simp)).eD _,⟨oe,Mb,T0,e1,e2,e3,e4,e5,e6,e7,⟨nw a e8.1,fun p hp=>np a e8.1 p hp⟩,fun T z=>⟨(e9 T z).1,nw T (e9 T z).2.1,fun p hp=>np T (e9 T z).2.1 p hp⟩⟩,hE⟩
 | ok fl =>
  cases fl with
  | ret u=>exact I1.after hq
  | next=>exact False.elim hq
  | brk=>exact False.elim hq
  | cont=>exact False.elim hq
end
end L2
namespace L2
open PySem PySem.Spec PyProof.Rows PySem.W
section
variable {X:Cx}{pins:List (Addr×Obj)}{σ:List (Option V)}{H H':Hp}{s:Shared}{h':Heap}
theorem Inv.tx{t':Nat}{ch:List Addr}(I:Inv X pins σ H s)
  (vA:∀ b∈ch,X.s₀.heap.get? b=none/\b≠X.env.locals/\(∀ x c,X.env.cells.lookup x=some c->c≠b)/\∀ p∈X.pn++pins,p.1≠b)
  (keep:∀ b o,b≠X.env.locals->b∉X.fs->b∉ch->s.heap.get? b=some o->H b=none->h'.get? b=some o)
  (slot:∀ b o,b≠X.env.locals->b∈X.fs->b∉ch->s.heap.get? b=some o->H b=none->∃ sl,h'.get? b=some { o with slots:=sl }) (free:∀ b o,b∉ch->s.heap.get? b=some o->H b=none->H' b=none)
  (there:∀ b o,b∉ch->s.heap.get? b=some o->∃ o',h'.get? b=some o')
  (il:∀ b xs,H b=some (.tup xs)->H' b=some (.tup xs)) (gZ:∀ b o u,H b=some (.sj o u)->H' b=some (.sj o u)) (hJ:∀ b ps,H b=some (.oB ps)->∃ more,H' b=some (.oB (ps++more)))
  (ns:∀ m,s.heap.Ns X.env.locals m->h'.Ns X.env.locals m) (aN:ft X.prog X.w H' h') :
  Inv X pins σ H' { s with heap:=h',toks:=t' }:=by
 have GA:∀ b o,X.s₀.heap.get? b=some o->b≠X.env.locals:=fun b o e=>abt (Nat.lt_of_lt_of_le (aaH e) I.ok.above)
 have GB:∀ b o,X.s₀.heap.get? b=some o->b∉ch:=fun b o e hb=>by rw [(vA b hb).1] at e;cases e
 have cellK:∀ x c,X.env.cells.lookup x=some c->∀ v,s.heap.IsCell c v->h'.IsCell c v:=fun x c e v ⟨o,ho,hd⟩=>by
  have C4:c∉ch:=fun z=>(vA c z).2.2.1 x c e rfl
  by_cases hc:c∈X.fs
  ·obtain ⟨sl,q⟩:=slot c o (I.A0 x c e) hc C4 ho (I.dF x c e)
   exact⟨_,q,hd⟩
  ·exact⟨o,keep c o (I.A0 x c e) hc C4 ho (I.dF x c e),hd⟩
 refine⟨I.ok,I.os,I.bare,⟨fun b o e n hb hx=>?_,fun b o e n hb hx=>?_,fun b o e n hx=>?_,fun b o e hx=>?_,fun b xs e=>il b xs (I.base.il b xs e),fun b o xs e=>gZ b o xs (I.base.gZ b o xs e),fun b ps e=>?_⟩,?_,fun x c e=>?_,?_,fun x c e=>?_,fun p hp=>?_,aN,I.len⟩
 ·exact keep b o (GA b o e) hb (GB b o e) (I.base.keep b o e n hb hx) (I.base.free b o e n hx)
 ·obtain ⟨sl,e1⟩:=I.base.slot b o e n hb hx
  obtain ⟨xR,e2⟩:=slot b _ (GA b o e) hb (GB b o e) e1 (I.base.free b o e n hx)
  exact⟨xR,e2⟩
 ·obtain ⟨o',e1⟩:=I.base.there b o e hx
  exact free b o' (GB b o e) e1 (I.base.free b o e n hx)
 ·obtain ⟨o',e1⟩:=I.base.there b o e hx
  exact there b o' (GB b o e) e1
 ·obtain ⟨m1,e1⟩:=I.base.hJ b ps e
  obtain ⟨m2,e2⟩:=hJ b _ e1
  exact⟨m1++m2,by rw [e2,Array.append_assoc]⟩
 ·obtain ⟨m,hn,hl⟩:=I.loc
  refine⟨m,ns m hn,fun i x v e1 e2 e3=>?_⟩
  obtain ⟨u,r,l⟩:=hl i x v e1 e2 e3
  refine⟨u,r,?_⟩
  rcases l with l|⟨k,c,e,z⟩
  ·exact .inl l
  ·exact .inr ⟨k,c,e,cellK x c e _ z⟩
 ·obtain ⟨v,z⟩:=I.cell x c e
  exact⟨v,cellK x c e v z⟩
 ·obtain ⟨m,⟨o,_,_,ho,_⟩,_⟩:=I.loc
  exact free _ o (fun z=>(vA _ z).2.1 rfl) ho I.free
 ·obtain ⟨v,o,ho,hd⟩:=I.cell x c e
  exact free c o (fun z=>(vA c z).2.2.1 x c e rfl) ho (I.dF x c e)
 ·obtain ⟨e,n,ne,nf,d⟩:=I.pin p hp
  have C4:p.1∉ch:=fun z=>(vA p.1 z).2.2.2 p hp rfl
  exact⟨keep p.1 p.2 ne nf C4 e n,free p.1 p.2 C4 e n,ne,nf,d⟩
theorem Inv.yE{a:Addr}{oe:Obj}{vs:Array Value}(I:Inv X pins σ H s)(he:s.heap.get? a=some oe)(hd:oe.data=.fields vs):a≠X.env.locals/\(∀ x c,X.env.cells.lookup x=some c->c≠a)/\a∉X.fs:=by
 refine⟨fun z=>?_,fun x c e z=>?_,fun z=>?_⟩
 ·obtain ⟨m,⟨o,_,_,ho,UG,_⟩,_⟩:=I.loc
  rw [z,ho] at he;cases he;rw [UG] at hd;cases hd
 ·obtain ⟨v,o,ho,UG⟩:=I.cell x c e
  rw [z,he] at ho;cases ho;rw [UG] at hd;cases hd
 ·obtain ⟨_,o,ho,uy⟩:=I.ip.mem z
  rw [he] at ho;cases ho;exact uy vs hd
end
theorem HI{K:Frag}{h:Heap}{C:Addr}{bmB:List Value}{newId:String}(X:K.In h)(q:excIn K C bmB newId=true) :
  ∃ bm N nm q bs hdct sn sub ab col dd k0 k1 k2 k3 k5 mN,h.get? C=some (excClassObj nm q C N bs bm hdct sn sub ab col dd k0 k1 k2 k3 k5 newId)/\h.Ns N mN/\mN "__init__"=none/\OwnTail h bmB bm:=by
 unfold excIn at q
 split at q
 ·rename_i dd cd sl ho
  split at q
  ·rename_i C' bm k0 k1 k2 k3 n k5 hm hs
   simp only [Bool.and_eq_true,beq_iff_eq,Bool.not_eq_true'] at q
   obtain ⟨⟨⟨⟨⟨rfl,rfl⟩,Ql⟩,ht⟩,aN⟩,nP⟩:=q
   obtain ⟨nm,bs,mro,ns,qn,hd,sn,sub,ab,col,del⟩:=cd
   dsimp only at hm Ql aN nP
   subst hm Ql
   have JW:sl=#[k0,k1,k2,k3,some (.builtin n),k5]:=by
    obtain ⟨l⟩:=sl
    simp only at hs
    rw [hs]
   subst JW
   exact⟨bm,ns,nm,qn,bs,hd,sn,sub,ab,col,dd,k0,k1,k2,k3,k5,_,X _ _ ho,.of_isNs (isNs_of_in X aN),nsMap_none_of_in X aN nP,tail_of_in X ht⟩
  ·cases q
 ·cases q
section
variable {X:Cx}{EX:qT}
def Eg(EX:qT)(C:Addr)(ta:TA):TS:=fun _ σ H=>ta σ H fun vs H1=>vs.length<=1000/\EX C σ H1
theorem Eh{x:Str}{np kW pos:Pos}{e0:Expr}{rest:List Expr}{C:Addr}{B Bn newId nid Mc inN:String}{bm bmN:List Value}{ta:TA}(q:excIn X.K C bm newId=true)(Fn:ExcBaseFacts Bn newId inN bmN)(hBn:bm.contains (.type Bn)=true)
  (FB:ExcBaseFacts B nid Mc bm) (hc:X.calm=true) (hX:∀ e s',XW X EX e s'->X.xe e s') (hex:X.ex=[]) (hg:Gl X x) (hm:X.mg x=some (.ref C)) (ha:PA X (e0::rest) ta)
  (he:starEach (e0::rest) X.env=(false,eval e0 X.env)::starEach rest X.env:=by rfl) (i0:(backTo kW (starEach rest X.env)).any (·.1)=false:=by rfl) (ph:(x == ("__debug__":Str))=false:=by decide) :
  PS X (.Raise (some (.Call (.Name x np) (e0::rest) [] kW)) none pos) (Eg EX C ta):=by
 intro pins s σ H D I h
 obtain ⟨bm',N,nm,qn,bs,hdct,sn,sub,ab,col,dd,k0,k1,k2,k3,k5,mN,hC,hN,nP,T⟩:=HI I.ok.mod.Gz q
 refine wpAny_Raise_call_subU (C:=C) (nm:=nm) (q:=qn) (N:=N) (bs:=bs) (bm:=bm') (hdct:=hdct) (sn:=sn) (sub:=sub) (ab:=ab) (col:=col) (dd:=dd) (k0:=k0) (k1:=k1) (k2:=k2) (k3:=k3) (k5:=k5)
  Fn hBn FB (mN:=mN) (T.hasType FB.hasBase) (I.ok.hd hc) (by rw [he];show (false || (backTo kW (starEach rest X.env)).any (·.1))=false;rw [i0];rfl) nP (gF I hg hm ⟨rfl,?_⟩ ph)
 have hh:=ha kW pins s σ H _ I h
 rw [he] at hh ⊢
 refine Calls.evalArgs_plain (aaU hh (fun us s2 z=>?_) fun _ _ y=>y)
 obtain ⟨vs,H1,I1,r,hl,hE⟩:=z
 refine⟨rfl,by rw [<- r.length];exact aaL (el hl),I1.bk _ _ hC,hN.keeps I1.bk,T.keeps I1.bk,fun h' e j9=>hX _ _ ?_⟩
 obtain ⟨t,het,htn,UH⟩:=j9.there
 have nw:X.s₀.heap.get? e=none:=by
  cases q:X.s₀.heap.get? e with
  | none=>rfl
  | some o =>
   obtain ⟨o',q1⟩:=I1.base.there e o q (by rw [hex];simp)
   rw [j9.new] at q1;cases q1
 have np:∀ p∈X.pn,p.1≠e:=fun p hp z=>by
  have:=(I1.pin p (aa0 _ hp)).1
  rw [z,j9.new] at this;cases this
 exact⟨e,C,σ,H1,rfl,((I1.kept (t':=s2.toks) j9.keeps).eZ fun p hp=>absurd hp (by simp)).eD _,⟨_,_,none,het,rfl,rfl,rfl,by simp,rfl,I1.aN.free j9.new,⟨nw,np⟩,fun T z=>nomatch z⟩,hE⟩
end
end L2
namespace L2
open PySem PySem.Spec PyProof.Rows PySem.W
structure pQ(K:Frag)(D:Addr):Prop where
 ty:typeIn K (.ref D)=some (.type "type")
 cl:(clsIn K D).isSome=true
 be:subIn K (.ref D) (.type "BaseException")=some true
theorem wB{K:Frag}{M:Model}{A:Around}{E:Value->Shared->Prop}{s:Shared}{a C D:Addr}{oe:Obj}{b:Bool}{Q:Bool->Shared->Prop}(V:pQ K D)(X:K.In s.heap)(he:s.heap.get? a=some oe)(hc:oe.cls=.ref C)
  (DQ:subIn K (.ref C) (.ref D)=some b) (h:Q b s):wpAny M A (excMatches (.ref a) (.ref D)) Q E s:=by
 obtain ⟨hh,g,d,t,os⟩:=s
 have L1:=looks_typeIn (M:=M) X V.ty
 have L2:Looks M hh (typeOf (.ref a)) (.ref C):=hc ▸ (Looks.ld he).andThen .now
 have L3:=looks_subIn (M:=M) X V.be
 have L4:=looks_subIn (M:=M) X DQ
 have L5:Looks M hh (isType (.ref D)) true:=by
  obtain ⟨cd,kO⟩:=aaS.mp V.cl
  unfold clsIn at kO
  split at kO
  ·rename_i c' d' cd' xR ho
   intro A' Q' E' s' k q
   unfold isType loadHead
   exact aaE (wpAny_loadPart (k _ _ (X _ _ ho)) (aaT q))
  ·cases kO
 have f:=tc_notTuple
 unfold excMatches isInstance isExcClass
 refine aaE ?_
 refine aaE (L1.at (wpAny_of_eq f ?_))
 simp only [Bool.false_eq_true,if_false]
 refine aaE (aaT ?_)
 simp only [forIn_cons,forIn_nil]
 refine aaE (aaE (aaE (aaE (L5.at ?_))))
 simp only [if_true]
 refine L3.at ?_
 simp only [Bool.not_true,Bool.false_eq_true,if_false]
 refine aaT (aaT ?_)
 refine aaE (L2.at ?_)
 refine aaE (aaE (aaE (L4.at ?_)))
 cases b with
 | true =>
  simp only [if_true]
  exact aaT (aaT (aaT h))
 | false =>
  simp only [Bool.false_eq_true,if_false]
  exact aaT (aaT (aaT h))
end L2
namespace L2
open PySem PySem.Spec PyProof.Rows PySem.W
abbrev Ei(X:Cx)(pins:List (Addr×Obj)):Cx:={ X with pn:=X.pn++pins }
abbrev Ej(X:Cx)(a:Addr):Cx:={ X with A:=X.A.mark (some (.ref a)),calm:=false,xe:=fun _ _=>False }
section
variable {X:Cx}{pins:List (Addr×Obj)}{σ:St}{H:Hp}{s:Shared}
theorem Inv.UI(I:Inv X pins σ H s):Inv (Ei X pins) [] σ H s :=
 ⟨⟨I.ok.mod,I.ok.kind,I.ok.glob,I.ok.blt,I.ok.above,I.ok.inj,I.ok.has,I.ok.Ga,I.ok.hd,I.ok.frames,I.ok.Jv,I.ok.NB,I.ok.bs,I.ok.qW,I.ok.oS,I.ok.vH,I.ok.ip,I.ok.CF⟩,I.os,I.bare,I.base,I.loc,I.cell,I.free,I.dF,fun p hp=>I.pin p (by simpa using hp),I.aN,I.len⟩
theorem Inv.Ek(I:Inv (Ei X pins) [] σ H s):Inv X pins σ H s :=
 ⟨⟨I.ok.mod,I.ok.kind,I.ok.glob,I.ok.blt,I.ok.above,I.ok.inj,I.ok.has,I.ok.Ga,I.ok.hd,I.ok.frames,I.ok.Jv,I.ok.NB,I.ok.bs,I.ok.qW,I.ok.oS,I.ok.vH,I.ok.ip,I.ok.CF⟩,I.os,I.bare,I.base,I.loc,I.cell,I.free,I.dF,fun p hp=>I.pin p (by simpa using hp),I.aN,I.len⟩
theorem Inv.Qm(I:Inv X pins σ H s)(a:Addr):Inv (Ej X a) pins σ H s :=
 ⟨⟨I.ok.mod,I.ok.kind,I.ok.glob,I.ok.blt,I.ok.above,I.ok.inj,I.ok.has,I.ok.Ga,(fun z=>nomatch z),I.ok.frames,I.ok.Jv,I.ok.NB,I.ok.bs,I.ok.qW,I.ok.oS,I.ok.vH,I.ok.ip,I.ok.CF⟩,I.os,I.bare,I.base,I.loc,I.cell,I.free,I.dF,I.pin,I.aN,I.len⟩
theorem Inv.HJ{a:Addr}(hhd:X.calm=true->X.A.handled=none)(I:Inv (Ej X a) pins σ H s):Inv X pins σ H s :=
 ⟨⟨I.ok.mod,I.ok.kind,I.ok.glob,I.ok.blt,I.ok.above,I.ok.inj,I.ok.has,I.ok.Ga,hhd,I.ok.frames,I.ok.Jv,I.ok.NB,I.ok.bs,I.ok.qW,I.ok.oS,I.ok.vH,I.ok.ip,I.ok.CF⟩,I.os,I.bare,I.base,I.loc,I.cell,I.free,I.dF,I.pin,I.aN,I.len⟩
theorem Inv.Qo{a C:Addr}{oe:Obj}{vs:Array Value}{t':Nat}(I:Inv X pins σ H s)(he:s.heap.get? a=some oe)(hc:oe.cls=.ref C)(Ef:oe.dict=none)(hd:oe.data=.fields vs)(hH:H a=none)(h0:X.s₀.heap.get? a=none)(hp:∀ p∈X.pn++pins,p.1≠a) :
  Inv X pins σ (upd H a (pN a C)) { s with toks:=t' }:=by
 obtain ⟨n1,n2,n3⟩:=I.yE he hd
 have ins:PySem.W.InstAt s.heap a oe C none:=⟨he,hc,by unfold notCls;rw [hd],by rw [Ef];trivial⟩
 refine I.tx (h':=s.heap) (ch:=[a]) (fun b hb=>?_) (fun b o _ _ _ e _=>e) (fun b o _ _ _ e _=>⟨o.slots,e⟩) (fun b o hb e n=>?_) (fun b o _ e=>⟨o,e⟩) (fun b xs e=>?_) (fun b o u e=>?_) (fun b ps e=>⟨#[],?_⟩) (fun m hm=>hm) ?_
 ·obtain rfl:b=a:=by simpa using hb
  exact⟨h0,n1,n2,hp⟩
 ·rw [au (by simpa using hb)];exact n
 ·rw [au (aF e hH)];exact e
 ·rw [au (aF e hH)];exact e
 ·rw [au (aF e hH)];simpa using e
 ·intro b o e
  by_cases hb:b=a
  ·subst hb
   rw [aw] at e
   cases e
   refine⟨⟨oe,ins⟩,⟨oe,he⟩,fun h1 h2 z k=>?_⟩
   obtain ⟨ox,z1,z2,z3,z4⟩:=z
   refine⟨ox,k _ z1,z2,z3,?_⟩
   cases q:ox.dict with
   | none=>trivial
   | some dx=>rw [q] at z4;exact z4.elim
  ·rw [au hb] at e
   exact (I.aN b o e).kN (fun _ _ _ q=>q) (fun c q=>by rw [au (aF q hH)];exact q) fun c xs q=>by rw [au (aF q hH)];exact q
theorem Inv.HK{i:Nat}{x:Str}{h':Heap}{m:Str->Option Value}{v:Option Value}{t':Nat}(I:Inv X pins σ H s)(hN:X.N.Nodup)(hi:X.N[i]?=some x)(hm:s.heap.Ns X.env.locals m)(TB:h'.Ns X.env.locals (fun y=>if y=x then v else m y))(hs:Heap.SameBut X.env.locals s.heap h') :
  Inv X pins (σ.set i none) H { s with heap:=h',toks:=t' }:=by
 obtain ⟨m2,hn,hl⟩:=id I.loc
 obtain ⟨oL,es,ep,Su,rL⟩:=id hn
 have em:m2=m:=by
  obtain ⟨o1,es1,ep1,NR,UJ,_,Md⟩:=hn
  obtain ⟨o2,es2,ep2,qY,hd2,_,UK⟩:=hm
  rw [NR] at qY;cases qY;rw [UJ] at hd2;cases hd2
  funext y
  rw [<- Md,<- UK]
 subst em
 have Ss:i<σ.length:=by rw [I.len];exact (aaG.mp hi).1
 have A0:=I.A0
 refine⟨I.ok,I.os,I.bare,⟨fun b o e n hb hx=>?_,fun b o e n hb hx=>?_,I.base.free,fun b o e hx=>?_,I.base.il,I.base.gZ,I.base.hJ⟩,⟨_,TB,fun j y v' e1 e2 e3=>?_⟩,fun y c e=>?_,I.free,I.dF,fun p hp=>?_,?_,by simpa using I.len⟩
 ·exact (hs.2 b (abt (Nat.lt_of_lt_of_le (aaH e) I.ok.above))).trans (I.base.keep b o e n hb hx)
 ·obtain ⟨sl,e1⟩:=I.base.slot b o e n hb hx
  exact⟨sl,(hs.2 b (abt (Nat.lt_of_lt_of_le (aaH e) I.ok.above))).trans e1⟩
 ·obtain ⟨o',e1⟩:=I.base.there b o e hx
  exact⟨o',(hs.2 b (abt (Nat.lt_of_lt_of_le (aaH e) I.ok.above))).trans e1⟩
 ·by_cases hj:j=i
  ·subst hj
   rw [getElem?_set_self Ss] at e2
   cases e2
  ·rw [getElem?_set_ne (Ne.symm hj)] at e2
   obtain ⟨u',r',q⟩:=hl j y v' e1 e2 e3
   refine⟨u',r',?_⟩
   rcases q with ⟨k,e⟩|⟨k,c,e,z⟩
   ·refine .inl ⟨k,?_⟩
    have:y≠x:=fun e=>hj (oU hN e1 (e ▸ hi))
    simp [this,e]
   ·exact .inr ⟨k,c,e,z.sameBut hs (A0 y c e)⟩
 ·obtain ⟨w',z⟩:=I.cell y c e
  exact⟨w',z.sameBut hs (A0 y c e)⟩
 ·obtain ⟨e,n,ne,nf,d⟩:=I.pin p hp
  exact⟨(hs.2 p.1 ne).trans e,n,ne,nf,d⟩
 ·intro b ob e
  refine (I.aN b ob e).kN (fun c w' hc q=>(hs.2 c ?_).trans q) (fun _ q=>q) fun _ _ q=>q
  rintro rfl
  rcases hc with rfl|hc
  ·rw [I.free] at e;cases e
  ·rw [I.free] at hc;cases hc
end
def Qp(K:Frag)(D0:Addr)(i:Nat)(tb:qT->TS)(th:TS):TS:=fun D σ H =>
 tb (fun C σ' H'=>subIn K (.ref C) (.ref D0)=some true/\∀ a,H' a=none->th { nx:=fun σ2 H2=>D.nx (σ2.set i none) H2,rt:=D.rt,bk:=fun σ2 H2=>D.bk (σ2.set i none) H2,ct:=fun σ2 H2=>D.ct (σ2.set i none) H2 } (σ'.set i (some (.ref a))) (upd H' a (pN a C))) D σ H
theorem Me{X:Cx}{body:List Stmt}{x n:Str}{np rh pos:Pos}{b0:Stmt}{JX:List Stmt}{i:Nat}{D0:Addr}{tb:qT->TS}{th:TS}(V:pQ X.K D0)(hex:X.ex=[])
  (jh:X.stack=X.env::X.outer) (qP:X.env.frame=some X.env.locals) (hN:X.N.Nodup) (hi:X.N[i]?=some n) (i5:X.env.scope.names.lookup n=some .local) (hg:Gl X x) (hm:X.mg x=some (.ref D0))
  (hb:∀ pins EX,oE ((Ei X pins).eD (XW (Ei X pins) EX)) body (tb EX)) (hs:∀ a,oE (Ej X a) (b0::JX) th) (ph:(x == ("__debug__":Str))=false:=by decide) :
  PS X (.Try body [.ExceptHandler (some (.Name x np)) (some n) (b0::JX) rh] [] [] pos) (Qp X.K D0 i tb th):=by
 intro pins s σ H D I h
 have back:∀ {f:Flow} {s':Shared} {E:Value->Shared->Prop},SP ((Ei X pins).eD E) [] D f s'->SP X pins D f s':=fun {f s' E} q=>by
  cases f with
  | next=>obtain ⟨σ',H',J,z⟩:=q;exact⟨σ',H',(Inv.dW J).Ek,z⟩
  | brk=>obtain ⟨σ',H',J,z⟩:=q;exact⟨σ',H',(Inv.dW J).Ek,z⟩
  | cont=>obtain ⟨σ',H',J,z⟩:=q;exact⟨σ',H',(Inv.dW J).Ek,z⟩
  | ret u=>obtain ⟨v,σ',H',J,r,z⟩:=q;exact⟨v,σ',H',(Inv.dW J).Ek,r,z⟩
 refine wpAny_Try_except (aaU (hb pins _ [] s σ H D (I.UI.eD _) h) (fun f s1 q=>?_) (fun e s1 q=>?_))
 ·cases f with
  | next=>exact wpAny_execs_nil (back q)
  | brk=>exact back q
  | cont=>exact back q
  | ret u=>exact back q
 obtain ⟨a,C,σ',H',rfl,I0,⟨oe,vs,T0,he,hc,Ef,hd,jc,hh,xM,⟨HH,JY⟩,hT⟩,DQ,hth⟩:=q
 have I1:Inv X pins σ' H' s1:=(Inv.dW I0).Ek
 have lI:X.s₀.heap.get? a=none:=HH
 have Qq:∀ p∈X.pn++pins,p.1≠a:=JY
 have yC:∀ T,T0=some T->H' T=none/\X.s₀.heap.get? T=none/\∀ p∈X.pn++pins,p.1≠T:=hT
 have UL:X.A.frames=some (X.env::X.outer):=by rw [<- jh];exact I1.ok.frames
 refine mJ (base:=X.base) (L:=X.env.locals) UL (jh ▸ I1.stack) qP he hd hh fun h1 T k1 k2 k3 k4 k5 k6=>?_
 obtain ⟨n1,n2,n3⟩:=I1.yE he hd
 have t1:∀ T',T0=some T'->∃ oT ts,s1.heap.get? T'=some oT/\oT.data=.fields ts:=fun T' z=>by
  subst z
  obtain ⟨_,_,oT,ts,q1,q2,_⟩:=hh
  exact⟨oT,ts,q1,q2⟩
 have UM:∀ b,b∈jV (X.env::X.outer)->b=X.env.locals\/b∈X.fs:=fun b hb=>by
  rcases aa7.mp (I1.iq b (jh ▸ hb)) with z|z
  ·exact .inl z
  ·exact .inr z
 have off:Off (a::(T0.toList++jV (X.env::X.outer))) s1.heap h1:=fun b o hb q=>by
  simp only [aa7,aa2,not_or] at hb
  exact k1 b o hb.1 (fun z=>hb.2.1 (by rw [<- z];simp)) hb.2.2 q
 have UN:ft X.prog X.w H' h1:=I1.aN.off (fun b hb=>by
  simp only [aa7,aa2] at hb
  rcases hb with rfl|hb|hb
  ·exact xM
  ·cases T0 with
   | none=>simp at hb
   | some T1 =>
    simp only [Option.toList_some,aa1] at hb
    rw [hb];exact (yC T1 rfl).1
  ·exact I1.eC b (jh ▸ hb)) off
 have NS:∀ b,b∉(a::T0.toList)->b≠a/\some b≠T0:=fun b hb=>by
  simp only [aa7,not_or] at hb
  exact⟨hb.1,fun z=>hb.2 (by rw [<- z];simp)⟩
 have I2:Inv X pins σ' H' { s1 with heap:=h1 }:=by
  refine I1.tx (h':=h1) (t':=s1.toks) (ch:=a::T0.toList) (fun b hb=>?_) (fun b o b1 b2 b3 e _=>?_) (fun b o b1 b2 b3 e _=>?_) (fun b o _ _ n=>n) (fun b o b3 e=>?_) (fun b xs e=>e) (fun b o u e=>e) (fun b ps e=>⟨#[],by rw [e];simp⟩) (fun m hm=>?_) UN
  ·rcases aa7.mp hb with rfl|hb
   ·exact⟨lI,n1,n2,Qq⟩
   ·cases T0 with
    | none=>simp at hb
    | some T1 =>
     simp only [Option.toList_some,aa1] at hb
     subst hb
     obtain ⟨oT,ts,q1,q2⟩:=t1 _ rfl
     obtain ⟨m1,m2,m3⟩:=I1.yE q1 q2
     exact⟨(yC _ rfl).2.1,m1,m2,(yC _ rfl).2.2⟩
  ·refine k1 b o (NS b b3).1 (NS b b3).2 (fun z=>?_) e
   rcases UM b z with q|q
   ·exact b1 q
   ·exact b2 q
  ·exact k2 b o (NS b b3).1 (NS b b3).2 e
  ·obtain ⟨sl,q⟩:=k2 b o (NS b b3).1 (NS b b3).2 e
   exact⟨_,q⟩
  ·obtain ⟨o,es,ep,ho,Jw,r⟩:=hm
   obtain ⟨sl,q⟩:=k2 _ o (fun z=>n1 z.symm) (fun z=>by
    obtain ⟨oT,ts,q1,q2⟩:=t1 _ z.symm
    exact (I1.yE q1 q2).1 rfl) ho
   exact⟨_,es,ep,q,Jw,r⟩
 have T2:H' T=none:=I1.aN.free k3
 have T3:X.s₀.heap.get? T=none:=by
  cases q:X.s₀.heap.get? T with
  | none=>rfl
  | some o =>
   obtain ⟨o',q1⟩:=I1.base.there T o q (by rw [hex];simp)
   rw [k3] at q1;cases q1
 have T4:∀ p∈X.pn++pins,p.1≠T:=fun p hp z=>by
  have:=(I1.pin p hp).1
  rw [z,k3] at this;cases this
 refine wpAny_handleBy_cons (codeAny_handlers_test (gF (X:=Ej X a) (I2.Qm a) hg hm ?_ ph)) (by intro z;cases z)
 refine wB V I2.i9 k5 ((Obj.cls_mapFields _ _).trans hc) DQ ?_
 refine codeAny_handlers_suite_as (flight_again k5 (Obj.data_mapFields hd _) ⟨by simp [jc],k4,k6⟩ fun h2 f1 f2=>?_)
 have I3:Inv X pins σ' H' { s1 with heap:=h2 }:=by
  obtain ⟨oT,ts,q1,q2,q3⟩:=k6
  obtain ⟨m1,m2,m3⟩:=I2.yE (a:=T) q1 q2
  have UO:ft X.prog X.w H' h2:=I2.aN.off (ch:=[T]) (fun b hb=>by rw [show b=T by simpa using hb];exact T2) fun b o hb q=>f1 b o (by simpa using hb) q
  refine Inv.tx (s:={ s1 with heap:=h1 }) (h':=h2) (t':=s1.toks) (ch:=[T]) I2 (fun b hb=>?_) (fun b o b1 b2 b3 e _=>f1 b o (by simpa using b3) e) (fun b o b1 b2 b3 e _=>⟨o.slots,f1 b o (by simpa using b3) e⟩) (fun b o _ _ n=>n) (fun b o b3 e=>⟨o,f1 b o (by simpa using b3) e⟩) (fun b xs e=>e) (fun b o u e=>e) (fun b ps e=>⟨#[],by rw [e];simp⟩) (fun m hm=>?_) UO
  ·obtain rfl:b=T:=by simpa using hb
   exact⟨T3,m1,m2,T4⟩
  ·obtain ⟨o,es,ep,ho,Jw,r⟩:=hm
   exact⟨o,es,ep,f1 _ o (fun z=>m1 z.symm) ho,Jw,r⟩
 have I4:Inv X pins σ' (upd H' a (pN a C)) { s1 with heap:=h2 }:=I3.Qo (t':=s1.toks) (f1 a _ (Ne.symm k4) k5) ((Obj.cls_mapFields _ _).trans hc) ((eG _ _).trans Ef) (Obj.data_mapFields hd _) xM lI Qq
 refine jf (X:=Ej X a) (v:=.ref a) (I4.Qm a) hN hi (Or.inl i5) rfl (fun s5 I6=>?_) (Or.inr i5)
 refine aaU (hs a pins s5 _ _ _ I6 (hth a xM)) (fun f s6 q=>?_) (fun _ _ z=>z.elim)
 have A1:(X.env.scope.kind == .class || (X.env.scope.kind == .module && X.env.locals != X.env.globals))=false:=by rw [I1.ok.kind];rfl
 cases f with
 | next =>
  obtain ⟨σ2,H2,J,z⟩:=q
  have J':=J.HJ I1.ok.hd
  obtain ⟨m,j9,_⟩:=id J'.loc
  exact wpAny_nameGoes_keeps i5 j9 A1 fun h' v hn xN=>⟨_,H2,J'.HK hN hi j9 hn xN,z⟩
 | brk =>
  obtain ⟨σ2,H2,J,z⟩:=q
  have J':=J.HJ I1.ok.hd
  obtain ⟨m,j9,_⟩:=id J'.loc
  exact wpAny_nameGoes_keeps i5 j9 A1 fun h' v hn xN=>⟨_,H2,J'.HK hN hi j9 hn xN,z⟩
 | cont =>
  obtain ⟨σ2,H2,J,z⟩:=q
  have J':=J.HJ I1.ok.hd
  obtain ⟨m,j9,_⟩:=id J'.loc
  exact wpAny_nameGoes_keeps i5 j9 A1 fun h' v hn xN=>⟨_,H2,J'.HK hN hi j9 hn xN,z⟩
 | ret u =>
  obtain ⟨v0,σ2,H2,J,r,z⟩:=q
  have J':=J.HJ I1.ok.hd
  obtain ⟨m,j9,_⟩:=id J'.loc
  exact wpAny_nameGoes_keeps i5 j9 A1 fun h' v hn xN=>⟨v0,_,H2,J'.HK hN hi j9 hn xN,r,z⟩
end L2
namespace L2
open PySem PySem.Spec PyProof.Rows PySem.W
def HP(K:Frag):List V->Hp->VK->Prop:=fun xs H Q=>∃ a C c b,xs=[.ref a,c]/\H a=some (pN a C)/\uw K C /\
 ((∃ n,c=.ty n/\kitOne K (.ref C) (.type n)=some b)\/(∃ D,c=.ref D/\kitOne K (.ref C) (.ref D)=some b)\/∃ (tp:Addr) (Ds:List Addr),c=.ref tp/\aR K H tp (Ds.map V.ref)/\kitAny K (.ref C) (Ds.map Value.ref)=some b)/\Q (.bl b) H
theorem tD:∀ {Ds:List Addr} {us:List Value},Vals (Ds.map V.ref) us->us=Ds.map Value.ref
 | [],_,.nil=>rfl
 | _::_,_,.cons r t=>by
  have e:=tD t
  cases r
  rw [e];rfl
section
variable {X:Cx}
theorem El:dc X (.builtin "isinstance") (HP X.K):=by
 intro pins s σ H xs us Q I r h
 obtain ⟨a,C,c,b,rfl,hH,V,ty,q⟩:=h
 obtain ⟨u,c',rfl,ru,rc⟩:=vals2 r
 obtain rfl:u=Value.ref a:=ru
 have fin:∀ tk,EP X pins σ Q (.bool b) { s with toks:=tk }:=fun tk=>⟨.bl b,H,I.tok tk,rfl,q⟩
 obtain ⟨hx,_⟩:=I.aN a _ hH
 rcases ty with ⟨n,rfl,e⟩|⟨D,rfl,e⟩|⟨tp,Ds,rfl,hs,e⟩
 ·obtain rfl:c'=Value.type n:=rc
  exact kia_one (pM V) I.i9 hx e (fun z=>nomatch z) fin
 ·obtain rfl:c'=Value.ref D:=rc
  exact kia_one (pM V) I.i9 hx e (fun z=>nomatch z) fin
 ·obtain rfl:c'=Value.ref tp:=rc
  obtain ⟨its,rv,p,_⟩:=I.tuple hs
  obtain ⟨⟨oc,od,da,sl⟩,h1,h2,n,h3⟩:=p
  dsimp only at h2 h3
  subst h2 h3
  rw [tD rv] at h1
  exact kia_tup (pM V) I.i9 hx h1 e (fun z=>nomatch z) fin
theorem yF (K:Frag) (hK:X.K=K):dc X (.builtin "isinstance") (HP K):=hK ▸ El
variable {K:Frag}{H:Hp}{Q:VK}
theorem Mf{a C:Addr}{n:String}{b:Bool}(W:uw K C)(e:H a=some (pN a C))(k:kitOne K (.ref C) (.type n)=some b)(h:Q (.bl b) H):HP K [.ref a,.ty n] H Q:=⟨a,C,_,b,rfl,e,W,.inl ⟨n,rfl,k⟩,h⟩
theorem Em{a C D:Addr}{b:Bool}(W:uw K C)(e:H a=some (pN a C))(k:kitOne K (.ref C) (.ref D)=some b)(h:Q (.bl b) H):HP K [.ref a,.ref D] H Q:=⟨a,C,_,b,rfl,e,W,.inr (.inl ⟨D,rfl,k⟩),h⟩
end
section
variable {K:Frag}{D:Ends}{σ:St}{H:Hp}{Q:VK}{EX:qT}
theorem HQ{sp:Sp}{ts:TA}(h:ts σ H fun vs H1=>sp vs H1 Q fun C _ H2=>∃ c,C=.ref c/\EX c σ H2):yD sp EX ts σ H Q:=h
theorem HR{C:Addr}{ts:TA}(h:ts σ H fun vs H1=>vs.length<=1000/\EX C σ H1):Eg EX C ts D σ H:=h
theorem Qr{D0:Addr}{i:Nat}{tb:qT->TS}{th:TS}(h:tb (fun C σ' H'=>subIn K (.ref C) (.ref D0)=some true/\∀ a,H' a=none->th { nx:=fun σ2 H2=>D.nx (σ2.set i none) H2,rt:=D.rt,bk:=fun σ2 H2=>D.bk (σ2.set i none) H2,ct:=fun σ2 H2=>D.ct (σ2.set i none) H2 } (σ'.set i (some (.ref a))) (upd H' a (pN a C))) D σ H):Qp K D0 i tb th D σ H:=h
end
end L2
namespace L2
open PySem PySem.Spec PyProof.Rows PySem.W
section
variable {K:Frag}{C D:Addr}{cd:ClassData}
theorem uw.mk' (q1:findIn K (.ref C) "__getattribute__"=some (some (.builtin "BaseException.__getattribute__"))) (q2:findIn K (.ref C) "__getattr__"=some none) (q3:clsIn K C=some cd)
  (q4:findIn K (.ref C) "__class__"=some (some (.builtin "object.__class__"))) (q5:specialIn K (.builtin "object.__class__") "__get__"=some (some (.builtin "getset_descriptor.__get__"))) (q6:takesIn K (.builtin "object.__class__")=some true)
  (q7:mroIn K C (.type "object")=some true) (q8:subIn K (.ref C) (.type "BaseException")=some true):uw K C :=
 ⟨q1,q2,by unfold findObj;rw [q3,Option.bind_some,q4,Option.bind_some];simp [q5,q6],q7,q8,by rw [q3];rfl⟩
theorem pQ.mk' (q1:typeIn K (.ref D)=some (.type "type")) (q2:clsIn K D=some cd) (q3:subIn K (.ref D) (.type "BaseException")=some true):pQ K D:=⟨q1,by rw [q2];rfl,q3⟩
theorem HS(V:pQ K D)(n:C≠D)(h:subIn K (.ref C) (.ref D)=some false):kitOne K (.ref C) (.ref D)=some false:=by
 unfold kitOne
 rw [if_neg (fun z=>n (Value.ref.inj (beq_iff_eq.mp z)))]
 show (if ((clsIn K D).isSome && typeIn K (.ref D) == some (.type "type"))=true then subIn K (.ref C) (.ref D) else none)=_
 rw [V.ty,V.cl]
 simp only [beq_self_eq_true,Bool.and_self,if_true]
 exact h
theorem Mg{n:String}{b:Bool}(m:kitMeta n=true)(h:subIn K (.ref C) (.type n)=some b):kitOne K (.ref C) (.type n)=some b:=by
 unfold kitOne
 rw [if_neg (fun z=>by cases beq_iff_eq.mp z)]
 show (if kitMeta n=true then subIn K (.ref C) (.type n) else none)=_
 rw [if_pos m]
 exact h
theorem oi:kitMeta "ValueError"=true:=by decide +kernel
end
open PySem PySem.Spec PyProof.Rows
section
variable {X:Cx}
theorem jF{y:Str}{py Qs:Pos}{k:Nat}{tg iter elt:Expr}{ifs:List Expr}{scope:Scope}{pos:Pos}{N:List Str}{ix:List (Option Nat)}{wi:TI}{g:TG}{tt:TT}{te:TE}
  (hN:X.N.Nodup) (hk0:X.N[k]?=some y) (hy:Loc X.env.scope y) (hc:X.calm=true) (hi:PI X tg iter wi)
  (hg:∀ pins C s H fp,PG (aY X pins N scope C s H fp) tg g)
  (ht:∀ pins C s H fp,SD (aY X pins N scope C s H fp) ifs tt)
  (he:∀ pins C s H fp,PE (aY X pins N scope C s H fp) elt te)
  (hk:scope.kind=.function) (dw:∀ y∈scope.names,y.2≠.cell) (pC:∀ y∈scope.names,y.2=.local->scope.names.lookup y.1=some .local)
  (jO:(scope.names.all fun y=>!(y.2 == NameKind.free) || (X.env.cells.lookup y.1).isSome)=true) (vC:jN X scope N ix)
  (hs:∀ x,foldedSetIterable iter X.env x=pure x:=by intro _;rfl)
  (hsw:swapsWith (.ListComp elt [⟨tg,iter,ifs,0⟩] scope pos) (some (.Name y py)) Qs.line X.env=pure true:=by rfl)
  (hf:X.fn y=true\/X.env.scope.names.lookup y=some .local:=by first|exact .inl rfl|exact .inr rfl|assumption) :
  PS X (.Assign [.Name y py] (.ListComp elt [⟨tg,iter,ifs,0⟩] scope pos) Qs) (GD (Af ix wi g tt te) (bW k)):=by
 intro pins s σ H D I h
 replace h:wi σ H fun J H1=>bG ix g tt te σ (fun x H1=>D.nx (σ.set k (some x)) H1) J H1:=h
 have qP:∀ y∈scope.names,y.2=.free->(X.env.cells.lookup y.1).isSome=true:=fun y hy e=>by
  have z:=all_eq_true.mp jO y hy
  rw [e] at z
  simpa using z
 have ym:∀ p∈scope.names,p.2=.free->∃ c,X.env.cells.lookup p.1=some c:=fun p hp e=>aaS.mp (qP p hp e)
 have cG:∀ x c,(cF X.env.cells scope.names []).lookup x=some c->X.env.cells.lookup x=some c:=ia (fun x c q=>by simp at q)
 have ji:∀ x,scope.names.lookup x=some .free->∃ c,(cF X.env.cells scope.names []).lookup x=some c:=fun x hx=>by
  have hm:=PySem.mem_of_lookup hx
  exact aaS.mp (ib (.inr ⟨hm,qP _ hm rfl⟩))
 rw [exec_Assign_Name_used _ _ _ _ hsw]
 refine aaE (wpAny_standAt (aaE ?_))
 show wpAny _ X.A (do let _ <- comprehension (.ListComp elt [⟨tg,iter,ifs,0⟩] scope pos) scope X.env _ (newList []) false (eval iter X.env) (some (assign (.Name y py) X.env))) _ _ s
 refine aaE (aaU (wpAny_comprehension_free (use:=some (assign (.Name y py) X.env)) (Q:=fun _ s'=>SP X pins D .next s') rfl hs (iC ym) hk pC (cp (hi pins s σ H _ I h) fun v s1 h1=>cp h1 fun OC s2 h2=>?_)) (fun _ s' hq=>aaT (aaT hq)) fun _ _ e=>e)
 obtain ⟨it,fp,tn,J,H2,e,I2,T,Gd,f2,hW⟩:=h2
 subst e
 have pD:H2 s2.heap.objs.size=none:=I2.aN.fresh (aaK _)
 obtain ⟨W,⟨m0,w0⟩,turn⟩:=hW s2.heap.objs.size pD
 refine wpAny_newObj_type ?_
 have I3:Inv X pins σ (upd H2 s2.heap.objs.size (.lst [])) { s2 with heap:=s2.heap.push { cls:=.type "list",data:=.seq ([]:List Value).toArray } }:=I2.yl (its:=[]) (t':=s2.toks) .nil (abr _)
 have f3:∀ b∈fp,j7 X pins (upd H2 s2.heap.objs.size (.lst [])) b:=fun b hb=>by
  refine⟨?_,(f2 b hb).2⟩
  obtain ⟨o,eo,_⟩:=T.obj _ _ Gd b hb
  rw [au (abt (aaH eo))]
  exact (f2 b hb).1
 have sI:tn 0 (s2.heap.push { cls:=.type "list",data:=.seq ([]:List Value).toArray }):=T.keep _ _ _ Gd fun b _ o e=>aaD _ e
 generalize qQ:({ s2 with heap:=s2.heap.push { cls:=.type "list",data:=.seq ([]:List Value).toArray } }:Shared)=s3 at I3
 have sI:tn 0 s3.heap:=by rw [<- qQ];exact sI
 generalize hH3:upd H2 s2.heap.objs.size (.lst [])=H3 at I3 f3 w0
 generalize OW:s2.heap.objs.size=acc at *
 refine wpAny_newFunctionEnv dw (by intro y hy;simp at hy) (fun h₁ DJ DK=>?_) hk
 have old:∀ b o,s3.heap.get? b=some o->h₁.get? b=some o:=fun b o q=>DK.extBut b o (abt (aaH q)) (aaD _ q)
 have pE:H3 s3.heap.objs.size=none:=I3.aN.fresh (aaK _)
 have JJ:∀ b∈fp,b<s3.heap.objs.size:=fun b hb=>by
  obtain ⟨o,eo,_⟩:=T.obj _ _ sI b hb
  exact aaH eo
 have pF:∀ b,b≠X.env.locals->b∉X.fs->b∉jV X.stack:=fun b h1 h2 z=>by
  rcases aa7.mp (I3.iq b z) with q|q
  ·exact h1 q
  ·exact h2 q
 have Ua:∀ x c,X.env.cells.lookup x=some c->c<s3.heap.objs.size:=fun x c q=>by
  obtain ⟨v,z⟩:=I3.cell x c q
  exact z.lt
 have YI:∀ (h':Heap) (m:Str->Option Value),(∀ b o,s3.heap.get? b=some o->h'.get? b=some o)->h'.Ns s3.heap.objs.size m ->
   Inv (aY X pins N scope s3.heap.objs.size s3 H3 fp) [] (pick ix σ) H3 { s3 with heap:=h',toks:=s3.toks+([]:List (Str×Value)).length }:=by
  intro h' m jd hn
  refine⟨⟨I3.ok.mod,hk,I3.ok.glob,I3.ok.blt,aaK _,fun x y c q1 q2=>I3.ok.inj x y c (cG x c q1) (cG y c q2),fun x hx=>ji x (dD dw hx),fun x c hf _=>absurd hf Bool.false_ne_true,
   I3.ok.hd,I3.ok.frames,.inl rfl,fun b hb=>⟨abt (JJ b hb),fun x c q=>(f3 b hb).2.2.2.2.1 x c (cG x c q)⟩,I3.bs,aaJ I3.ok.qW I3.sz,fun b o e hb=>?_,fun b hb=>pF b (f3 b hb).2.1 (f3 b hb).2.2.1,I3.stack,I3.eC⟩,
   rfl,I3.bare,Un.kept jd,⟨m,hn,fun i x v h1 h2 h3=>?_⟩,fun x c q=>?_,pE,fun x c q=>I3.dF x c (cG x c q),fun p hp=>?_,I3.aN.kept jd,?_⟩
  ·have q:=(I3.bs b o e).2
   rcases (f3 b hb).2.2.2.1 with z|z
   ·exact I3.ok.oS b o e z
   ·exact absurd (Nat.lt_of_lt_of_le (aaH e) (aaJ I3.ok.qW z)) (Nat.lt_irrefl _)
  ·obtain ⟨j,e1,e2⟩:=kY h2
   obtain ⟨a1,a2,a3,a4⟩:=vC.get h1 e1
   obtain ⟨mX,Ub,Lg⟩:=I3.loc
   obtain ⟨u,ru,l⟩:=Lg j x v a1 e2 a2
   refine⟨u,ru,?_⟩
   rcases l with ⟨l1,_⟩|⟨_,c,lc,z⟩
   ·have Lh:X.env.scope.names.lookup x=some .local:=l1
    rw [Lh] at a3
    exact absurd a3 (by decide)
   ·obtain ⟨c',vI⟩:=ji x a4
    have ec:=cG x c' vI
    rw [lc] at ec
    have Li:c=c':=aaN ec
    subst Li
    exact .inr ⟨fQ a4,c,vI,z.keeps jd⟩
  ·obtain ⟨v,z⟩:=I3.cell x c (cG x c q)
   exact⟨v,z.keeps jd⟩
  ·have sW:p∈X.pn++pins:=by simpa using hp
   obtain ⟨a1,a2,a3,a4,a5⟩:=I3.pin p sW
   exact⟨jd _ _ a1,a2,abt (aaH a1),pF p.1 a3 a4,a5⟩
  ·show (pick ix σ).length=N.length
   unfold pick
   rw [aa4]
   exact vC.len
 have DL:∀ {pl:List (Addr×Obj)} {H':Hp},pl=[]->(∀ b∈fp,H' b=none)->∀ b∈fp,j7 (aY X pins N scope s3.heap.objs.size s3 H3 fp) pl H' b:=fun {pl H'} OX hn b hb=>by
  obtain ⟨f0,f1,GX,Gh,f4,f5⟩:=f3 b hb
  subst OX
  exact⟨hn b hb,abt (JJ b hb),pF b f1 GX,.inl hb,fun x c q=>f4 x c (cG x c q),fun p hp=>f5 p (by simpa using hp)⟩
 have loop:∀ s4:Shared,(∃ m,s4={ s3 with heap:=h₁,toks:=s3.toks+([]:List (Str×Value)).length }/\h₁.Ns s3.heap.objs.size m) ->
   codeAny (model X.prog X.w) X.A (.compLoop (.ListComp elt [⟨tg,iter,ifs,0⟩] scope pos) 0 (.ref it) (.ref acc) (compEnvC scope (cF X.env.cells scope.names []) s3.heap.objs.size X.env))
    (compPost (model X.prog X.w) X.A X.xe (some (assign (.Name y py) X.env)) (fun _ s'=>SP X pins D .next s') (.ref acc) s3.heap.objs.size) s4:=by
  rintro s4 ⟨m4,rfl,vR⟩
  refine ml (E:=fun _ _=>False) (fun _ _ z=>z.elim)
   (fun n s'=>∃ i σ' ys H',Inv (aY X pins N scope s3.heap.objs.size s3 H3 fp) [] σ' H' s'/\tn i s'.heap/\(∀ b∈fp,H' b=none)/\W i n σ' ys H') ?_ m0
   ⟨0,pick ix σ,[],H3,YI h₁ m4 old vR,T.keep _ _ _ sI fun b _ o q=>old b o q,fun b hb=>(f3 b hb).1,w0⟩
  rintro n s5 ⟨i,σ5,ys,H5,I5,CG,Ge,w5⟩
  obtain ⟨OY,vS⟩:=turn i n σ5 ys H5 w5
  rcases vS with ⟨stop,q⟩|⟨go,m',j9,step⟩
  ·refine cp (T.done (aY X pins N scope s3.heap.objs.size s3 H3 fp) rfl rfl rfl hc i [] s5 σ5 H5 (fun _ _=>False) I5 (DL rfl Ge) CG stop) fun r s6 ⟨hr,I6⟩=>?_
   subst hr
   obtain ⟨m6,OZ,_⟩:=I6.loc
   have I6X:Inv X pins σ H5 s6:=I3.oV (ch:=fp) I6.os I6.base I6.aN I6.bare fun b hb=>by
    obtain ⟨f0,f1,GX,Gh,f4,f5⟩:=f3 b hb
    exact⟨Gh,f1,f4,f5⟩
   have GA:X.env.locals≠s3.heap.objs.size:=fun z=>by
    obtain ⟨m,⟨o,_,_,ho,_⟩,_⟩:=I3.loc
    exact Nat.lt_irrefl _ (z ▸ aaH ho)
   have Qu:∀ x c,X.env.cells.lookup x=some c->c≠s3.heap.objs.size:=fun x c e=>abt (Ua x c e)
   refine wpAny_assign_Name (sr (u:=.ref acc) (v:=.ref acc) I6X hN hk0 hy rfl (fun s7 I7 ⟨a7,sb7,ha7⟩=>?_) hf)
   have na7:s3.heap.objs.size≠a7:=by
    rcases ha7 with z|z
    ·exact fun w=>GA (z ▸ w.symm)
    ·exact fun w=>Qu _ _ z w.symm
   refine⟨m6,OZ.sameBut sb7 na7,fun h' sb=>?_⟩
   refine⟨σ.set k (some (.ref acc)),H5,Inv.tx (ch:=[s3.heap.objs.size]) I7 (fun b hb=>?_) (fun b o _ _ nb e _=>(sb.2 b (fun z=>nb (by rw [z];exact aa1.mpr rfl))).trans e) (fun b o _ _ nb e _=>⟨o.slots,(sb.2 b (fun z=>nb (by rw [z];exact aa1.mpr rfl))).trans e⟩)
    (fun _ _ _ _ e=>e) (fun b o nb e=>⟨o,(sb.2 b (fun z=>nb (by rw [z];exact aa1.mpr rfl))).trans e⟩) (fun _ _ e=>e) (fun _ _ _ e=>e) (fun b ps e=>⟨#[],by simpa using e⟩) (fun m hm=>hm.sameBut sb GA) (I7.aN.letGo I6.free sb),q⟩
   have eb:b=s3.heap.objs.size:=aa1.mp hb
   subst eb
   refine⟨?_,Ne.symm GA,Qu,fun p hp=>abt (aaH (I3.pin p hp).1)⟩
   cases q9:X.s₀.heap.get? s3.heap.objs.size with
   | none=>rfl
   | some o=>exact absurd (Nat.lt_of_lt_of_le (aaH q9) I3.sz) (Nat.lt_irrefl _)
  ·refine cp (T.item (aY X pins N scope s3.heap.objs.size s3 H3 fp) rfl rfl rfl hc i [] s5 σ5 H5 (fun _ _=>False) I5 (DL rfl Ge) CG go) fun r s6 ⟨u,hr,h6⟩=>?_
   subst hr
   refine cp h6 fun _ s7 ⟨x,H7,I7,r7,y7,CJ,O0⟩=>?_
   have O1:=I7.pinned (DL rfl O0) (T.obj _ _ CJ)
   refine cp (hg pins s3.heap.objs.size s3 H3 fp _ s7 σ5 H7 x u _ O1 r7 (step x H7 y7)) fun _ s8 ⟨σ8,H8,I8,q8⟩=>?_
   refine cp (pk (ht pins s3.heap.objs.size s3 H3 fp) I8 q8) fun b s9 ⟨H9,I9,q9⟩=>?_
   have back:∀ {σz:St} {Hz:Hp} {sz:Shared} {yz:List V},Inv (aY X pins N scope s3.heap.objs.size s3 H3 fp) ([]++iy fp s7.heap) σz Hz sz->W (i+1) m' σz yz Hz ->
     ∃ m,m<n/\∃ i σ' ys H',Inv (aY X pins N scope s3.heap.objs.size s3 H3 fp) [] σ' H' sz/\tn i sz.heap/\(∀ b∈fp,H' b=none)/\W i m σ' ys H':=fun {σz Hz sz yz} Iz wz=>by
    refine⟨m',j9,i+1,σz,yz,Hz,Iz.eE,T.keep _ _ _ CJ fun b hb o e=>(Iz.pin (b,o) (aaZ _ (aaZ _ (dg hb e)))).1,fun b hb=>?_,wz⟩
    obtain ⟨o,e,d⟩:=T.obj _ _ CJ b hb
    exact (Iz.pin (b,o) (aaZ _ (aaZ _ (dg hb e)))).2.1
   cases b with
   | false=>exact back I9 q9
   | true =>
    refine cp (he pins s3.heap.objs.size s3 H3 fp _ s9 σ8 H9 _ I9 q9) fun v JK ⟨y,GY,O2,O3,DM,DN,O4⟩=>?_
    refine cp (cB _ JK σ8 GY (.ref acc) [y] (.ref acc) [v] (fun _ H'=>H'=upd GY acc (.lst (ys++[y]))) O2 rfl (.cons O3 .nil) ⟨acc,ys,y,rfl,rfl,DM,DN,rfl⟩) fun _ NH ⟨_,Uc,O5,_,O6⟩=>?_
    subst O6
    exact back O5 O4
 have vR:∃ m,h₁.Ns s3.heap.objs.size m:=⟨_,DJ⟩
 obtain ⟨m4,vR⟩:=vR
 have L:=loop _ ⟨m4,rfl,vR⟩
 exact codeAny_compStart_list L (T.self _ 0 _ _ _ (T.keep _ _ _ sI fun b _ o q=>old b o q) L)
end
theorem oj:bootBuiltins "ValueError"=some (.type "ValueError"):=by decide +kernel
section
variable {K:Frag}{H:Hp}{Q:VK}{D:Ends}{σ:St}
theorem join{t:TS}{u:St->Hp->Prop}(P:St->Hp->Prop)(h1:∀ nx:St->Hp->Prop,(∀ σ' H',P σ' H'->nx σ' H')->t { D with nx:=nx } σ H)(h2:∀ σ' H',P σ' H'->u σ' H'):t { D with nx:=u } σ H:=h1 u h2
end
def Mh(K:Frag):List V->Hp->VK->Prop:=fun xs H Q=>∃ (a:Addr) (bs:List Bool),xs=[.ref a]/\aW K H a (bs.map V.bl)/\Q (.bl (bs.all id)) H
theorem yG(bs:List Bool):((List.range bs.length).all fun i=>(bs[i]?).getD true)=bs.all id:=by
 rw [Bool.eq_iff_iff,all_eq_true,all_eq_true]
 constructor
 ·intro h b hb
  obtain ⟨i,hi,rfl⟩:=abx hb
  have:=h i (abg.mpr hi)
  simpa [aaY hi] using this
 ·intro h i hi
  have CN:=abg.mp hi
  simpa [aaY CN] using h _ (abw CN)
section
variable {X:Cx}
theorem Bt (hc:X.calm=true):dc X (.builtin "all") (Mh X.K):=by
 intro pins s σ H xs us Q I r h
 obtain ⟨a,bs,rfl,hs,q⟩:=h
 obtain ⟨u,rfl,ru⟩:=vals1 r
 cases ru
 obtain ⟨its,rv,p,_⟩:=I.list hs
 have hl:s.heap.IsList a its.toArray:=by
  obtain ⟨o,n,h1,h2,h3⟩:=p
  exact⟨o,h1,h2,n,h3.2⟩
 have lD:a<s.heap.objs.size:=by obtain ⟨_,e,_⟩:=hl;exact aaH e
 have hh:X.A.handled=none:=I.ok.hd hc
 refine call_all_walk (wpAny_pyIter_list hl ?_)
 refine⟨s.heap.objs.size,[s.heap.objs.size,a],[s.heap.objs.size],its.toArray.size,_,_,fun i=>(bs[i]?).getD true,rfl,Walks.list (A:=X.A.in1) hh _ a (abt lD) its.toArray,
  ⟨⟨_,aaI _ rfl,rfl,rfl⟩,hl.push _⟩,fun i v s' Q' E' hP hQ=>?_,fun h' tk hk=>?_⟩
 ·have hP':its[i]?=some v:=by simpa using hP
  have hi:i<its.length:=(aaG.mp hP').1
  have hb:i<bs.length:=by have:=rv.length;simp at this;lia
  obtain ⟨u1,e1,r1⟩:=rv.get (i:=i) (x:=.bl bs[i]) (by simp [hb])
  rw [hP'] at e1
  cases e1
  cases r1
  simp only [aaY hb,Option.getD_some] at hQ
  exact wpAny_truthy_bool hQ
 ·have e:((List.range its.toArray.size).all fun i=>(bs[i]?).getD true)=bs.all id:=by
   have:=rv.length
   simp at this
   rw [abj,<- this];exact yG bs
  rw [e]
  exact⟨.bl (bs.all id),H,I.kept (t':=tk) (fun b x e=>hk b x (fun hm=>by rw [aa1.mp hm] at e;exact Nat.lt_irrefl _ (aaH e)) (aaD _ e)),rfl,q⟩
theorem Eo (K:Frag) (hK:X.K=K) (hc:X.calm=true):dc X (.builtin "all") (Mh K):=hK ▸ Bt hc
def Ep(K:Frag):R2:=fun x y H Q=>∃ a b xs ys,x=.ref a/\y=.ref b/\aR K H a xs/\aR K H b ys/\xs.length+ys.length<=sizeLine /\
 (xs=[]->Q (.ref b) H)/\(xs≠[]->ys=[]->Q (.ref a) H)/\(xs≠[]->ys≠[]->∀ p,H p=none->Q (.ref p) (upd H p (.tup (xs++ys))))
theorem HU:jb X (binaryOp .Add) (Ep X.K):=by
 intro pins s σ H x y v u Q I rx ry h
 obtain ⟨a,b,xs,ys,rfl,rfl,ha,hb,hz,q0,q1,q2⟩:=h
 by_cases hx:xs=[]
 ·subst hx
  cases rx
  cases ry
  obtain ⟨its,r1,p1,_⟩:=I.tuple ha
  obtain ⟨Dx,r2,p2,_⟩:=I.tuple hb
  cases r1
  obtain ⟨⟨cls,dd,data,sl⟩,ho,hc,n,hd⟩:=p1
  obtain ⟨⟨TU,Sw,data2,NG⟩,qY,Dr,n2,hd2⟩:=p2
  simp only at hc hd Dr hd2
  subst hc hd Dr hd2
  exact concat_meets ⟨_,ho,rfl⟩ ⟨_,qY,rfl⟩ noFill_tuple_add seq_tuple_add PySem.F.slot_tuple_add PySem.F.entry_tuple_add (PySem.F.args_tuple_add_2 _ _)
   (tuple_addW0 a b #[] Dx.toArray n n2 dd Sw sl NG rfl) ⟨ho,qY,⟨.ref b,H,I,rfl,q0 rfl⟩⟩
 ·exact Ab pins s σ H _ _ v u Q I rx ry ⟨a,b,xs,ys,rfl,rfl,ha,hb,hx,hz,q1 hx,q2 hx⟩
theorem wC(K:Frag)(hK:X.K=K):jb X (binaryOp .Add) (Ep K):=hK ▸ HU
end
section
variable {K:Frag}{H:Hp}{Q:VK}{σ:St}
theorem JZ{a:Addr}{bs:List Bool}(e:aW K H a (bs.map V.bl))(h:Q (.bl (bs.all id)) H):Mh K [.ref a] H Q:=⟨a,bs,rfl,e,h⟩
theorem Er{a b:Addr}{xs ys:List V}(e1:aR K H a xs)(e2:aR K H b ys)(n:xs.length+ys.length<=1000)(h:∀ p H2,aj H H2->aR K H2 p (xs++ys)->Q (.ref p) H2):Ep K (.ref a) (.ref b) H Q :=
 ⟨a,b,xs,ys,rfl,rfl,e1,e2,aaJ n (by decide),fun z=>by subst z;exact h b H (aj.refl _) e2,fun _ z=>by subst z;exact h a H (aj.refl _) (by rw [append_nil];exact e1),
  fun _ _ p hp=>h p _ (aj.bf hp) (aR.of aw)⟩
theorem Mi {n:String} {b:Bool} (k:PySem.W.kitOne K (.type "NoneType") (.type n)=some b) (h:Q (.bl b) H):gH K [.dB,.ty n] H Q:=⟨_,n,_,b,rfl,.inl .dB,k,h⟩
theorem Mj {x:Str} {n:String} {b:Bool} (k:PySem.W.kitOne K (.type "str") (.type n)=some b) (h:Q (.bl b) H):gH K [.str x,.ty n] H Q:=⟨_,n,_,b,rfl,.inl (.str _),k,h⟩
theorem Ml{to ti:TE}{t:GC}{v:V}{R:St->Hp->Prop}(h:to σ H fun o H1=>ti σ H1 fun i H2=>t o i v H2 fun H3=>R σ H3):Oz to ti t v σ H R:=h
theorem Es{p:Addr}{xs:List V}{k:Int}{j:Nat}{v:V}{R:Hp->Prop}(e:H p=some (.lst xs))(hj:Gf xs.length k=some j)(h:R (upd H p (.lst (xs.set j v)))):JH (.ref p) (.int k) v H R:=⟨p,xs,k,j,rfl,rfl,e,hj,h⟩
theorem yH{a:Addr}{xs:List V}{ix:List (Option Nat)}{te:TE}(F:V->V)(fr:St)(ka:pick ix σ=none::fr)(ha:aR K H a xs)(hn:xs.length<=1000)
  (step:∀ x H' (Qc:VK),x∈xs->aj H H'->(∀ H5,aj H' H5->Qc (F x) H5)->te (some x::fr) H' Qc)
  (hQ:∀ l H',H l=none->aj H H'->H' l=some (.lst (xs.map F))->Q (.ref l) H'):bG ix (bW 0) (fun _ H Q=>Q true H) te σ Q (NC K a) H:=by
 refine lE fr xs.length (fun i=>F (xs.getD i .dB)) ka (by lia) (fun H' s=>⟨_,s.at ha,by simp⟩) (fun i H' hi s=>⟨_,xs[i],s.at ha,aaY hi⟩) (fun i x H' H2 Qc hi hs hy kc=>?_) fun l H' hl hs d6=>hQ l H' hl hs ?_
 ·obtain ⟨rfl,e1⟩:=hy
  have e2:=e1 _ (hs.at ha)
  have e3:xs.getD i .dB=x:=by rw [List.getD,e2];rfl
  rw [e3] at kc
  exact step _ _ Qc (aa3 e2) hs kc
 ·rw [d6]
  congr 2
  apply ext_getElem (by simp)
  intro i h1 h2
  simp at h1 h2
  simp [List.getD,h2]
end
section
variable {X:Cx}{pins:List (Addr×Obj)}{σ:St}{H:Hp}{s:Shared}
theorem Inv.wrote{a:Addr}{o o':Obj}{h':Heap}{t':Nat}(I:Inv X (pins++[(a,o)]) σ H s)(h0:X.s₀.heap.get? a=none)(hc:∀ x c,X.env.cells.lookup x=some c->c≠a)(hp:∀ p∈X.pn++pins,p.1≠a)
  (sb:Heap.SameBut a s.heap h') (e:h'.get? a=some o') (d:∀ v,o'.data≠.cell v):Inv X (pins++[(a,o')]) σ H { s with heap:=h',toks:=t' }:=by
 obtain ⟨g1,g2,g3,g4,g5⟩:=I.pin (a,o) (aaZ _ (aaZ _ (aa1.mpr rfl)))
 have I1:Inv X pins σ H s:=I.eE
 have nm:∀ {b:Addr},b∉[a]->b≠a:=fun nb z=>nb (aa1.mpr z)
 have I2:Inv X pins σ H { s with heap:=h',toks:=t' }:=Inv.tx (ch:=[a]) I1 (fun b hb=>by
   have eb:b=a:=aa1.mp hb
   subst eb
   exact⟨h0,g3,hc,hp⟩) (fun b ob _ _ nb q _=>(sb.2 b (nm nb)).trans q) (fun b ob _ _ nb q _=>⟨ob.slots,(sb.2 b (nm nb)).trans q⟩)
   (fun _ _ _ _ q=>q) (fun b ob nb q=>⟨ob,(sb.2 b (nm nb)).trans q⟩) (fun _ _ q=>q) (fun _ _ _ q=>q) (fun b ps q=>⟨#[],by simpa using q⟩) (fun m hm=>hm.sameBut sb (Ne.symm g3)) (I1.aN.letGo g2 sb)
 exact I2.eZ fun p hp=>(aa2.mp hp).elim (fun z=>I2.pin p (aaZ _ z)) fun z=>by
  rw [aa1.mp z]
  exact⟨e,g2,g3,g4,d⟩
end
inductive PV:List (Int×V)->List (Int×Value)->Prop where
 | nil:PV [] []
 | cons {k:Int} {x:V} {u:Value} {qs ps} (r:RelV x u) (t:PV qs ps):PV ((k,x)::qs) ((k,u)::ps)
theorem PV.zip:∀ {kz:List Int} {xs:List V} {vs:List Value},Vals xs vs->PV (kz.zip xs) (kz.zip vs)
 | [],_,_,_=>.nil
 | _::_,_,_,.nil=>.nil
 | _::_,_,_,.cons r t=>.cons r (PV.zip t)
theorem PV.perm{ps ps':List (Int×Value)}(h:ps'.Perm ps):∀ {qs:List (Int×V)},PV qs ps->∃ SN:List (Int×V),SN.Perm qs/\PV SN ps':=by
 induction h with
 | nil=>intro qs h;exact⟨qs,.refl _,h⟩
 | cons x _ ih =>
  intro qs h
  cases h with
  | cons r t =>
   obtain ⟨SN,p,z⟩:=ih t
   exact⟨_::SN,p.cons _,.cons r z⟩
 | swap x y l =>
  intro qs h
  cases h with
  | cons r t =>
   cases t with
   | cons r2 t2=>exact⟨_::_::_,.swap _ _ _,.cons r2 (.cons r t2)⟩
 | trans _ _ Ul Um =>
  intro qs h
  obtain ⟨q1,p1,z1⟩:=Um h
  obtain ⟨q2,p2,z2⟩:=Ul z1
  exact⟨q2,p2.trans p1,z2⟩
theorem PV.vals:∀ {qs:List (Int×V)} {ps:List (Int×Value)},PV qs ps->Vals (qs.map Prod.snd) (ps.map Prod.snd)/\qs.map Prod.fst=ps.map Prod.fst
 | _,_,.nil=>⟨.nil,rfl⟩
 | _,_,.cons r t=>⟨.cons r t.vals.1,by rw [map_cons,map_cons,t.vals.2]⟩
section
variable {X:Cx}{pins:List (Addr×Obj)}{σ:St}{H:Hp}{s:Shared}
theorem As{p:Addr×Obj}(I:Inv X (pins++[p]) σ H s):s.heap.get? p.1=some p.2:=(I.pin p (aaZ _ (aaZ _ (aa1.mpr rfl)))).1
theorem UP{kA:Array Value}{kz:List Int}{j:Nat}{n:Int}{t:Tok}(hk:IntsAre kA.toList (kz.take j))(hn:kz[j]?=some n):IntsAre (kA.push (.int n t)).toList (kz.take (j+1)):=by
 rw [Array.toList_push,take_add_one,hn]
 exact ksk_snoc hk
end
theorem HV{h:Heap}{a:Addr}{m m':Str->Option Value}(x:h.Ns a m)(y:h.Ns a m'):m=m':=by
 obtain ⟨o1,es1,ep1,NR,UJ,_,Md⟩:=x
 obtain ⟨o2,es2,ep2,qY,hd2,_,UK⟩:=y
 rw [NR] at qY;cases qY;rw [UJ] at hd2;cases hd2
 funext z
 rw [<- Md,<- UK]
def eH(b:Bool)(kz:List Int)(xs ys:List V):Prop:=∃ qs:List (Int×V),qs.Perm (kz.zip xs)/\ys=qs.map Prod.snd/\qs.Pairwise (fun p q=>if b then q.1<=p.1 else p.1<=q.1)
theorem wD{b:Bool}:∀ {qs:List (Int×V)} {ps:List (Int×Value)},PV qs ps->ps.Pairwise (fun p q=>if b then q.1<=p.1 else p.1<=q.1)->qs.Pairwise (fun p q=>if b then q.1<=p.1 else p.1<=q.1)
 | _,_,.nil,_=>.nil
 | _,_,.cons (k:=k) (qs:=qs) (ps:=ps) r t,h=>by
  obtain ⟨h1,h2⟩:=abv.mp h
  refine abv.mpr ⟨fun q hq=>?_,wD t h2⟩
  have hm:q.1∈ps.map Prod.fst:=by rw [<- t.vals.2];exact aa8.mpr ⟨q,hq,rfl⟩
  obtain ⟨p,hp,e⟩:=aa8.mp hm
  have:=h1 p hp
  rw [e] at this
  exact this
theorem Bu{b:Bool}{kz:List Int}{xs:List V}{vs out:List Value}(hv:Vals xs vs)(h:KskOut b kz vs out):∃ ys,Vals ys out/\eH b kz xs ys:=by
 obtain ⟨ps,hp,rfl,hw⟩:=h
 obtain ⟨qs,h1,h2⟩:=PV.perm hp (PV.zip hv)
 exact⟨qs.map Prod.snd,h2.vals.1,qs,h1,rfl,wD h2 hw⟩
theorem eH.length{b:Bool}{kz:List Int}{xs ys:List V}(h:eH b kz xs ys)(hl:kz.length=xs.length):ys.length=xs.length:=by
 obtain ⟨qs,p,rfl,_⟩:=h
 rw [aa4,p.length_eq,List.length_zip,hl,Nat.min_self]
section
variable {X:Cx}{pins:List (Addr×Obj)}{σ:St}{H:Hp}{s:Shared}
def others(h:Heap)(L k a:Addr):List (Addr×Obj):=(List.range h.objs.size).filterMap fun b=>if b=L\/b=k\/b=a then none else (h.get? b).map fun o=>(b,o)
theorem iE{h:Heap}{L k a b:Addr}{o:Obj}(e:h.get? b=some o)(n1:b≠L)(n2:b≠k)(n3:b≠a):(b,o)∈others h L k a :=
 mem_filterMap.mpr ⟨b,abg.mpr (aaH e),by rw [if_neg (by simp [n1,n2,n3]),e];rfl⟩
theorem jG{h:Heap}{L k a:Addr}{p:Addr×Obj}(hp:p∈others h L k a):h.get? p.1=some p.2/\p.1≠L/\p.1≠k/\p.1≠a:=by
 obtain ⟨b,_,e⟩:=mem_filterMap.mp hp
 by_cases hb:b=L\/b=k\/b=a
 ·rw [if_pos hb] at e;cases e
 ·rw [if_neg hb] at e
  cases q:h.get? b with
  | none=>rw [q] at e;cases e
  | some o =>
   rw [q] at e
   cases e
   exact⟨q,fun z=>hb (.inl z),fun z=>hb (.inr (.inl z)),fun z=>hb (.inr (.inr z))⟩
theorem Et{a kS:Addr}{e1 e:Nat}{kA:Array Value}{b:Bool}{vs:List Value}{xs:List V}{kz:List Int}{P:PySem.Fin->Shared->Prop}{E:Value->Shared->Prop}
  (I:Inv X ((pins++[(a,seqObj "list" #[] e1)])++[(kS,seqObj "list" kA e)]) σ H s)
  (ha:X.s₀.heap.get? a=none/\(∀ x c,X.env.cells.lookup x=some c->c≠a)/\∀ p∈X.pn++pins,p.1≠a)
  (SO:X.s₀.heap.get? kS=none/\(∀ x c,X.env.cells.lookup x=some c->c≠kS)/\∀ p∈X.pn++(pins++[(a,seqObj "list" #[] e1)]),p.1≠kS)
  (hk:IntsAre kA.toList kz) (hv:Vals xs vs) (hlen:kz.length=vs.length) (HW:vs.length<64)
  (hP:∀ h' tk ys,Inv X pins σ (upd H a (.lst ys)) { s with heap:=h',toks:=tk }->eH b kz xs ys->P (.done (.ret .none)) { s with heap:=h',toks:=tk }) :
  wpAny (model X.prog X.w) X.A.in1.in1 (ksk_end a b vs.toArray e1 (.ref kS) kA) P E s:=by
 obtain ⟨k1,k2,k3,k4,_⟩:=I.pin (kS,seqObj "list" kA e) (aaZ _ (aaZ _ (aa1.mpr rfl)))
 obtain ⟨a1,a2,a3,a4,_⟩:=I.pin (a,seqObj "list" #[] e1) (aaZ _ (aa0 _ (aaZ _ (aa1.mpr rfl))))
 have hka:kS≠a:=fun z=>SO.2.2 (a,seqObj "list" #[] e1) (aaZ _ (aaZ _ (aa1.mpr rfl))) z.symm
 have I1:Inv X pins σ H s:=I.eE.eE
 obtain ⟨m,hn,_⟩:=id I1.loc
 have em:∀ b:Addr,({}:Heap).get? b=none:=fun b=>Heap.get?_none_of_le (abr _)
 refine ksk_end_ (h₀:=({}:Heap)) (L:=X.env.locals) (m:=m) (news:=others s.heap X.env.locals kS a) (e:=e) ⟨hn,fun b o q=>(by rw [em b] at q;cases q),abr _⟩ (fun p hp=>?_) hka (fun p hp=>(jG hp).2.2.1) (fun p hp=>(jG hp).2.2.2) hk hlen HW (fun h' tk out c F' N' ko=>?_)
 ·rcases aa2.mp hp with z|z
  ·exact⟨(jG z).1,(jG z).2.1,em _⟩
  ·rcases aa7.mp z with rfl|z
   ·exact⟨k1,k3,em _⟩
   ·rw [aa1.mp z]
    exact⟨a1,a3,em _⟩
 ·obtain ⟨ys,ry,so⟩:=Bu hv ko
  have kp:∀ b o,s.heap.get? b=some o->b≠X.env.locals->b≠kS->b≠a->h'.get? b=some o:=fun b o q n1 n2 n3=>(N' (b,o) (.tail _ (iE q n1 n2 n3))).1
  have na:h'.get? a=some (seqObj "list" out c):=(N' (a,seqObj "list" out c) (.head _)).1
  have nm:∀ {b:Addr},b∉[a,kS]->b≠a/\b≠kS:=fun nb=>⟨fun z=>nb (by rw [z];exact .head _),fun z=>nb (by rw [z];exact .tail _ (.head _))⟩
  refine hP h' tk ys (Inv.tx (ch:=[a,kS]) I1 (fun b hb=>?_) (fun b o nL _ nb q _=>kp b o q nL (nm nb).2 (nm nb).1) (fun b o nL _ nb q _=>⟨o.slots,kp b o q nL (nm nb).2 (nm nb).1⟩)
   (fun b o nb _ q=>by rw [au (nm nb).1];exact q) (fun b o nb q=>?_) (fun b ys q=>by rw [au (aF q a2)];exact q) (fun b o u q=>by rw [au (aF q a2)];exact q) (fun b ps q=>⟨#[],by rw [au (aF q a2)];simpa using q⟩)
   (fun m0 h0=>HV hn h0 ▸ F'.ns) (fun b o q=>?_)) so
  ·rcases aa7.mp hb with rfl|hb
   ·exact⟨ha.1,a3,ha.2.1,ha.2.2⟩
   ·have eb:b=kS:=aa1.mp hb
    subst eb
    exact⟨SO.1,k3,SO.2.1,fun p hp=>SO.2.2 p ((aa2.mp hp).elim (fun z=>aa0 _ z) fun z=>aaZ _ (aa0 _ z))⟩
  ·by_cases nL:b=X.env.locals
   ·subst nL
    obtain ⟨oL,_,_,Su,_⟩:=F'.ns
    exact⟨oL,Su⟩
   ·exact⟨o,kp b o q nL (nm nb).2 (nm nb).1⟩
  ·by_cases hb:b=a
   ·subst hb
    rw [aw] at q
    cases q
    refine⟨?_,out.toList,c,ry,by simpa using na⟩
    have:=so.length (hlen.trans hv.length.symm)
    rw [this,hv.length,sizeLine_eq]
    lia
   ·rw [au hb] at q
    have tr:∀ d u,H d=some u->d≠X.env.locals/\d≠kS/\d≠a:=fun d u z=>⟨fun w=>(by rw [w,I1.free] at z;cases z),fun w=>(by rw [w,k2] at z;cases z),fun w=>(by rw [w,a2] at z;cases z)⟩
    refine (I1.aN b o q).kN (fun d u hd z=>?_) (fun d z=>by rw [au (aF z a2)];exact z) fun d xs z=>by rw [au (aF z a2)];exact z
    have td:d≠X.env.locals/\d≠kS/\d≠a:=by
     rcases hd with rfl|hd
     ·exact tr _ _ q
     ·exact tr _ _ hd
    exact kp d u z td.1 td.2.1 td.2.2
end
mutual
inductive fR(K:Frag)(H:Hp):V->PyData->Prop where
 | dB:fR K H .dB .none
 | bl (b:Bool):fR K H (.bl b) (.bool b)
 | int (i:Int):fR K H (.int i) (.int i)
 | str (x:Str):fR K H (.str x) (.str x)
 | tup {a:Addr} {xs:List V} {ds:List PyData} (h:aR K H a xs) (t:Tells K H xs ds):fR K H (.ref a) (.tuple ds)
 | lst {a:Addr} {xs:List V} {ds:List PyData} (h:aW K H a xs) (t:Tells K H xs ds):fR K H (.ref a) (.list ds)
inductive Tells(K:Frag)(H:Hp):List V->List PyData->Prop where
 | nil:Tells K H [] []
 | cons {x:V} {d:PyData} {xs:List V} {ds:List PyData} (h:fR K H x d) (t:Tells K H xs ds):Tells K H (x::xs) (d::ds)
end
section
variable {X:Cx}{pins:List (Addr×Obj)}{σ:St}{H:Hp}{s:Shared}
mutual
theorem fR.reads(I:Inv X pins σ H s):∀ {v:V} {d:PyData} {u:Value},fR X.K H v d->RelV v u->∃ as,Reads s.heap u d as
 | _,_,u,.dB,r=>by cases (show u=Value.none from r);exact⟨_,.none⟩
 | _,_,u,.bl b,r=>by cases (show u=Value.bool b from r);exact⟨_,.bool b⟩
 | _,_,u,.int i,r=>by
  obtain ⟨t,q⟩:=(show ∃ t,u=Value.int i t from r)
  cases q
  exact⟨_,.int i t⟩
 | _,_,u,.str x,r=>by
  obtain ⟨t,q⟩:=(show ∃ t,u=Value.str x t from r)
  cases q
  exact⟨_,.str x t⟩
 | _,_,u,.tup (a:=a) h t,r=>by
  cases (show u=Value.ref a from r)
  obtain ⟨its,rv,p,_⟩:=I.tuple h
  obtain ⟨o,h1,h2,n,h3⟩:=p
  obtain ⟨as,ra⟩:=Tells.reads I t rv
  exact⟨_,reads_tuple_at h1 h2 h3 (by simpa using ra)⟩
 | _,_,u,.lst (a:=a) h t,r=>by
  cases (show u=Value.ref a from r)
  obtain ⟨its,rv,p,_⟩:=I.list h
  obtain ⟨o,n,h1,h2,h3⟩:=p
  obtain ⟨as,ra⟩:=Tells.reads I t rv
  exact⟨_,reads_list_at h1 h2 h3.2 (by simpa using ra)⟩
theorem Tells.reads(I:Inv X pins σ H s):∀ {vs:List V} {ds:List PyData} {us:List Value},Tells X.K H vs ds->Vals vs us->∃ as,ReadsAll s.heap us ds as
 | _,_,_,.nil,.nil=>⟨_,.nil⟩
 | _,_,_,.cons h t,.cons r rs=>by
  obtain ⟨as,ra⟩:=fR.reads I h r
  obtain ⟨bs,rb⟩:=Tells.reads I t rs
  exact⟨_,.cons ra rb⟩
end
def Bv(K:Frag)(neg:Bool):R2:=fun x y H Q=>∃ d e,fR K H x d/\fR K H y e/\SeqAt.shaped d=true/\SeqAt.shaped e=true/\Q (.bl (if neg then !PyData.eqv d e else PyData.eqv d e)) H
theorem Mm(hu:X.A.units+64<cLine):jb X (compareOp .Eq) (Bv X.K false):=by
 intro pins s σ H x y v u Q I rx ry h
 obtain ⟨d,e,hd,he,sd,se,q⟩:=h
 obtain ⟨as,ra⟩:=hd.reads I rx
 obtain ⟨bs,rb⟩:=he.reads I ry
 exact eq_dataH ra rb sd se hu ⟨.bl (PyData.eqv d e),H,I,rfl,q⟩
theorem Mn(hu:X.A.units+64<cLine):jb X (compareOp .NotEq) (Bv X.K true):=by
 intro pins s σ H x y v u Q I rx ry h
 obtain ⟨d,e,hd,he,sd,se,q⟩:=h
 obtain ⟨as,ra⟩:=hd.reads I rx
 obtain ⟨bs,rb⟩:=he.reads I ry
 exact ne_dataH ra rb sd se hu ⟨.bl (!PyData.eqv d e),H,I,rfl,q⟩
variable {K:Frag}
theorem Au(K:Frag)(hK:X.K=K)(hu:X.A.units+64<cLine):jb X (compareOp .Eq) (Bv K false):=hK ▸ Mm hu
theorem HX(K:Frag)(hK:X.K=K)(hu:X.A.units+64<cLine):jb X (compareOp .NotEq) (Bv K true):=hK ▸ Mn hu
end
section
variable {K:Frag}{H:Hp}{Q:VK}
theorem J0{x y:V}{d e:PyData}(hd:fR K H x d)(he:fR K H y e)(sd:SeqAt.shaped d=true)(se:SeqAt.shaped e=true)(h:Q (.bl (PyData.eqv d e)) H):Bv K false x y H Q:=⟨d,e,hd,he,sd,se,h⟩
theorem Qv{x y:V}{d e:PyData}(hd:fR K H x d)(he:fR K H y e)(sd:SeqAt.shaped d=true)(se:SeqAt.shaped e=true)(h:Q (.bl (!PyData.eqv d e)) H):Bv K true x y H Q:=⟨d,e,hd,he,sd,se,h⟩
def Rows(K:Frag)(H:Hp)(xs:List V)(rs:List (List Int)):Prop:=Tells K H xs (rs.map fun r=>.tuple (r.map PyData.int))
theorem Tells.ints:∀ (r:List Int),Tells K H (r.map V.int) (r.map PyData.int)
 | []=>.nil
 | i::r=>.cons (.int i) (Tells.ints r)
theorem fR.row{a:Addr}{r:List Int}(h:aR K H a (r.map V.int)):fR K H (.ref a) (.tuple (r.map PyData.int)):=.tup h (Tells.ints r)
end
end L2
namespace L2
open PySem PySem.Spec PyProof.Rows
section
variable {K:Frag}{g:TG}{D:Ends}{σ:St}{H:Hp}
theorem tF{J:It}{tb:TS}(n:Nat)(Pv:Nat->St->Hp->Prop)(h0:Pv 0 σ H)(G4:∀ i σ H2,i<n->Pv i σ H2->J.go i H2)(lC:∀ σ H2,Pv n σ H2->J.stop n H2)
  (hs:∀ i x σ H2 H3,i<n->Pv i σ H2->J.GF i H2 x H3->g x σ H3 fun σ2 H4=>tb { D with nx:=Pv (i+1),ct:=Pv (i+1),bk:=D.nx } σ2 H4) (hd:∀ σ H2,Pv n σ H2->D.nx σ H2):gI g tb D J σ H:=by
 refine⟨fun i m σ2 H2=>m=n - i/\i<=n/\Pv i σ2 H2,⟨n,by simp,abr _,h0⟩,?_⟩
 rintro i m σ2 H2 ⟨rfl,hi,p⟩
 by_cases lD:i<n
 ·exact .inr ⟨G4 i σ2 H2 lD p,Pv (i+1),fun σ' H' p'=>⟨n - (i+1),by lia,rfl,lD,p'⟩,fun x H' y=>hs i x σ2 H2 H' lD p y⟩
 ·have e:i=n:=by lia
  subst e
  exact .inl ⟨lC σ2 H2 p,hd σ2 H2 p⟩
theorem uB{lo:Int}{n:Nat}{tb:TS}(Pv:Nat->St->Hp->Prop)(h0:Pv 0 σ H)(hs:∀ i σ H2,i<n->Pv i σ H2->g (.int (lo+i)) σ H2 fun σ2 H4=>tb { D with nx:=Pv (i+1),ct:=Pv (i+1),bk:=D.nx } σ2 H4)(hd:∀ σ H2,Pv n σ H2->D.nx σ H2):gI g tb D (JC lo n) σ H:=by
 refine tF n Pv h0 (fun i σ H2 hi _=>hi) (fun σ H2 _=>aaK _) (fun i x σ H2 H3 hi p y=>?_) hd
 obtain ⟨rfl,rfl⟩:=y
 exact hs i σ _ hi p
theorem gQ{a:Addr}{xs:List V}{tb:TS}(Pv:Nat->St->Hp->Prop)(h0:Pv 0 σ H)(ha:∀ i σ H2,Pv i σ H2->aW K H2 a xs)(hs:∀ i x σ H2,xs[i]?=some x->Pv i σ H2->g x σ H2 fun σ2 H4=>tb { D with nx:=Pv (i+1),ct:=Pv (i+1),bk:=D.nx } σ2 H4)(hd:∀ σ H2,Pv xs.length σ H2->D.nx σ H2):gI g tb D (GG K a) σ H:=by
 refine tF xs.length Pv h0 (fun i σ H2 hi p=>⟨xs,xs[i],ha i σ H2 p,aaY hi⟩) (fun σ H2 p=>⟨xs,ha _ σ H2 p,aaK _⟩) (fun i x σ H2 H3 hi p y=>?_) hd
 obtain ⟨rfl,e⟩:=y
 exact hs i x σ _ (e xs (ha i σ _ p)) p
end
def Mo(K:Frag):List V->Hp->VK->Prop:=fun xs H Q=>∃ (a:Addr) (ns:List Int),xs=[.ref a]/\aW K H a (ns.map V.int)/\Q (.int ns.sum) H
def Eu(K:Frag):List V->Hp->VK->Prop:=fun xs H Q=>∃ (a:Addr) (ns:List Int),xs=[.ref a]/\aW K H a (ns.map V.int)/\ns≠[]/\∀ m,m∈ns->(∀ x∈ns,x<=m)->Q (.int m) H
section
variable {X:Cx}
theorem Bw (hc:X.calm=true):dc X (.builtin "sum") (Mo X.K):=by
 intro pins s σ H xs us Q I r h
 obtain ⟨a,ns,rfl,hs,q⟩:=h
 obtain ⟨u,rfl,ru⟩:=vals1 r
 cases ru
 obtain ⟨its,rv,p,_⟩:=I.list hs
 have hl:s.heap.IsList a its.toArray:=by
  obtain ⟨o,n,h1,h2,h3⟩:=p
  exact⟨o,h1,h2,n,h3.2⟩
 have hh:X.A.handled=none:=I.ok.hd hc
 have hi:IntsAre its ns:=intsAre_of rv
 obtain ⟨zs,hx⟩:=hi.allInts.items
 have hn:numsOf its.toArray.toList=ns:=by rw [show its.toArray.toList=its from rfl,hi.numsOf]
 rw [hx] at hl hn
 rw [nums_intItems] at hn
 refine sum_intListG hh hl fun h' tk t' hk=>?_
 rw [preSum_eq,abo (by simp),hn]
 exact⟨.int ns.sum,H,I.kept (t':=tk) hk,⟨t',rfl⟩,q⟩
theorem Bx (hc:X.calm=true):dc X (.builtin "max") (Eu X.K):=by
 intro pins s σ H xs us Q I r h
 obtain ⟨a,ns,rfl,hs,hne,q⟩:=h
 obtain ⟨u,rfl,ru⟩:=vals1 r
 cases ru
 obtain ⟨its,rv,p,_⟩:=I.list hs
 have hl:s.heap.IsList a its.toArray:=by
  obtain ⟨o,n,h1,h2,h3⟩:=p
  exact⟨o,h1,h2,n,h3.2⟩
 have hh:X.A.handled=none:=I.ok.hd hc
 have hi:IntsAre its ns:=intsAre_of rv
 obtain ⟨zs,hx⟩:=hi.allInts.items
 have hn:numsOf its.toArray.toList=ns:=by rw [show its.toArray.toList=its from rfl,hi.numsOf]
 rw [hx] at hl hn
 rw [nums_intItems] at hn
 have jc:0<zs.size:=by
  rcases eq_zero_or_pos zs.size with z|z
  ·exfalso;apply hne;rw [<- hn];apply List.eq_nil_of_length_eq_zero;rw [aa4,Array.length_toList,z]
  ·exact z
 refine max_intList hh hl jc fun v h' tk hv hk=>?_
 obtain ⟨t,rfl⟩:=intItems_at hv
 obtain ⟨h1,h2⟩:=argBest_gt (numAt zs) (zs.size - 1)
 refine⟨.int _,H,I.kept (t':=tk) hk,⟨t,rfl⟩,q _ ?_ fun b hb=>?_⟩
 ·rw [<- hn,numAt_eq];exact getD_mem (by rw [aa4,Array.length_toList];lia)
 ·rw [<- hn] at hb
  obtain ⟨j,hj,rfl⟩:=mem_getD hb
  rw [aa4,Array.length_toList] at hj
  rw [<- numAt_eq];exact h2 j (by lia)
theorem Mp (K:Frag) (hK:X.K=K) (hc:X.calm=true):dc X (.builtin "sum") (Mo K):=hK ▸ Bw hc
theorem Av (K:Frag) (hK:X.K=K) (hc:X.calm=true):dc X (.builtin "max") (Eu K):=hK ▸ Bx hc
end
section
variable {K:Frag}{H:Hp}{Q:VK}{σ:St}{ix:List (Option Nat)}
theorem Qw{a:Addr}{ns:List Int}(e:aW K H a (ns.map V.int))(h:Q (.int ns.sum) H):Mo K [.ref a] H Q:=⟨a,ns,rfl,e,h⟩
theorem Ew{a:Addr}{ns:List Int}(e:aW K H a (ns.map V.int))(n:ns≠[])(h:∀ m,m∈ns->(∀ x∈ns,x<=m)->Q (.int m) H):Eu K [.ref a] H Q:=⟨a,ns,rfl,e,n,h⟩
end
end L2
namespace L2
open PySem
structure En(k:Bool)(n a:Nat)(i:Nat)(h:Heap):Prop where
 ob:∃ last:Value,IsEnum h (n+1) n i last
 src:i4 k h n a i
section
variable {prog:Program}{w:World}{A:Around}{E:Value->Shared->Prop}{s:Shared}
theorem HY{k:Bool}{n a:Nat}{i:Nat}{xs:Array Value}{x:Value}{Q:Value->Shared->Prop}(Z:En k n a i s.heap)(ha:a<n)(hs:bx k s.heap a xs)(hx:xs[i]?=some x)
  (hQ:∀ h' t,IsEnumOut h' (n+1) n ((i:Int)+1) x s.heap.objs.size->i4 k h' n a (i+1)->IsT h' s.heap.objs.size #[.int i t,x]->h'.objs.size=s.heap.objs.size+1->Off [n,n+1] s.heap h'->Q (.ref s.heap.objs.size) { s with heap:=h',toks:=s.toks+1 }) :
  wpAny (model prog w) A (Builtin.«enumerate.__next__» ⟨[.ref (n+1)],[]⟩) (fun fin s'=>∃ v,fin=.done (.ret v)/\Q v s') E s:=by
 obtain ⟨⟨last,ob⟩,src⟩:=Z
 obtain ⟨hp,gg,dd,tt,oo⟩:=s
 have n1:(n+1:Addr)≠n:=cq (by lia)
 show wpAny _ _ (field (.ref (n+1)) 2 >>= _) _ _ _
 refine aaE (wpAny_field ob rfl (x:=.ref n) rfl (aaE (gc src hs hx fun g1 Qx q1=>?_)))
 replace q1:Heap.SameBut n hp g1:=q1
 have SQ:IsEnum g1 (n+1) n i last:=(q1.2 _ n1).trans ob
 show wpAny _ _ (field (.ref (n+1)) 3 >>= _) _ _ ⟨g1,gg,dd,tt,oo⟩
 refine aaE (wpAny_field SQ rfl (x:=rawInt i) rfl ?_)
 show wpAny _ _ (field (.ref (n+1)) 4 >>= _) _ _ ⟨g1,gg,dd,tt,oo⟩
 refine aaE (wpAny_field SQ rfl (x:=.none) rfl ?_)
 show wpAny _ _ (mkInt i >>= _) _ _ ⟨g1,gg,dd,tt,oo⟩
 refine aaE (wpAny_mkInt ?_)
 show wpAny _ _ (setField (.ref (n+1)) 3 (rawInt ((i:Int)+1)) >>= _) _ _ ⟨g1,gg,dd,tt+1,oo⟩
 refine aaE (wpAny_setField_rec SQ (by simp) fun g2 NU q2=>?_)
 replace q2:Heap.SameBut (n+1) g1 g2:=q2
 replace NU:IsEnum g2 (n+1) n ((i:Int)+1) last:=NU
 show wpAny _ _ (setField (.ref (n+1)) 4 .none >>= _) _ _ ⟨g2,gg,dd,tt+1,oo⟩
 refine aaE (wpAny_setField_rec NU (by simp) fun g3 SR q3=>?_)
 replace q3:Heap.SameBut (n+1) g2 g3:=q3
 replace SR:IsEnum g3 (n+1) n ((i:Int)+1) last:=SR
 show wpAny _ _ (newTuple [.int i tt,x] >>= _) _ _ ⟨g3,gg,dd,tt+1,oo⟩
 refine aaE (wpAny_newTuple ?_)
 have z3:g3.objs.size=hp.objs.size:=by rw [q3.1,q2.1,q1.1]
 have elt:n+1<hp.objs.size:=aaH ob
 obtain ⟨g4,e4⟩:∃ g4,g4=g3.push { cls:=.type "tuple",data:=.seq #[.int i tt,x] }:=⟨_,rfl⟩
 have UQ:IsEnum g4 (n+1) n ((i:Int)+1) last:=by rw [e4];exact aaD _ SR
 have t4:IsT g4 hp.objs.size #[.int i tt,x]:=by rw [e4,<- z3];exact aaI _ rfl
 have z4:g4.objs.size=hp.objs.size+1:=by rw [e4,Heap.size_push,z3]
 have o4:Off [n,n+1] hp g4:=by
  rw [e4]
  exact (((Off.of q1 (by simp)).trans (Off.of q2 (by simp))).trans (Off.of q3 (by simp))).trans (Off.push _)
 have UR:i4 k g4 n a (i+1):=Qx.keep fun o e=>by
  rw [e4]
  exact aaD _ ((q3.2 _ n1.symm).trans ((q2.2 _ n1.symm).trans e))
 show wpAny _ _ (Builtin.SmallTypes.ownedTupleIsFree (.ref (n+1)) >>= _) _ _ ⟨_,gg,dd,tt+1,oo⟩
 rw [z3,<- e4]
 clear e4 SR q3 NU q2 SQ q1 Qx z3
 refine aaE ?_
 unfold Builtin.SmallTypes.ownedTupleIsFree
 refine aaE (wpAny_field UQ rfl (x:=.none) rfl (aaT ?_))
 rw [if_pos rfl]
 refine aaE (wpAny_rule (aaE (wpAny_field UQ rfl (x:=last) rfl (aaE (wpAny_setField_rec UQ (by simp) fun g5 US q5=>?_)))))
 replace q5:Heap.SameBut (n+1) g4 g5:=q5
 replace US:IsEnum g5 (n+1) n ((i:Int)+1) x:=US
 show wpAny _ _ (Builtin.SmallTypes.ownedTupleHandOut (.ref (n+1)) (.ref hp.objs.size) >>= _) _ _ ⟨g5,gg,dd,tt+1,oo⟩
 refine aaE ?_
 unfold Builtin.SmallTypes.ownedTupleHandOut
 refine aaE (wpAny_setField_rec US (by simp) fun g6 UT q6=>?_)
 replace q6:Heap.SameBut (n+1) g5 g6:=q6
 replace UT:IsEnumOut g6 (n+1) n ((i:Int)+1) x hp.objs.size:=UT
 refine wpAny_setField_rec UT (by simp) fun g7 UU q7=>?_
 replace q7:Heap.SameBut (n+1) g6 g7:=q7
 replace UU:IsEnumOut g7 (n+1) n ((i:Int)+1) x hp.objs.size:=UU
 have up:∀ c o,c≠n+1->g4.get? c=some o->g7.get? c=some o:=fun c o hc e=>(q7.2 _ hc).trans ((q6.2 _ hc).trans ((q5.2 _ hc).trans e))
 refine aaE (wpAny_letGo (aaT ⟨_,rfl,hQ g7 tt UU (UR.keep fun o e=>up _ o n1.symm e) (up _ _ (Nat.ne_of_gt elt) t4) (by rw [q7.1,q6.1,q5.1,z4]) fun c o hc e=>?_⟩))
 exact up c o (fun z=>hc (by simp [z])) (o4 c o hc e)
theorem By{k:Bool}{n a:Nat}{i:Nat}{xs:Array Value}{x:Value}{Q:Option Value->Shared->Prop}(Z:En k n a i s.heap)(ha:a<n)(hs:bx k s.heap a xs)(hx:xs[i]?=some x)
  (hQ:∀ h' t,IsEnumOut h' (n+1) n ((i:Int)+1) x s.heap.objs.size->i4 k h' n a (i+1)->IsT h' s.heap.objs.size #[.int i t,x]->h'.objs.size=s.heap.objs.size+1->Off [n,n+1] s.heap h'->Q (some (.ref s.heap.objs.size)) { s with heap:=h',toks:=s.toks+1 }) :
  wpAny (model prog w) A (pyNext (.ref (n+1))) Q E s:=by
 have ty:s.TypeIs (.ref (n+1)) "enumerate":=by obtain ⟨last,ob⟩:=Z.ob;exact⟨_,ob,rfl⟩
 unfold pyNext
 exact aaE (wpAny_attempt (wpAny_callSpecial?_slot (name:=Str.ofString "__next__") ty F.slot_enumerate_next (wpAny_call_entry F.slot_enumerate_next ty F.entry_enumerate_next
  (HY Z ha hs hx fun h' t b1 b2 b3 b4 b5=>aaT (hQ h' t b1 b2 b3 b4 b5)) (F.args_enumerate_next_1 _))))
theorem rk{k:Bool}{n a:Nat}{i:Nat}{xs:Array Value}{Q:Option Value->Shared->Prop}(hh:A.handled=none)(Z:En k n a i s.heap)(hs:bx k s.heap a xs)(hx:xs[i]?=none)
  (hQ:∀ h',Off [n,n+1] s.heap h'->Q none { s with heap:=h' }):wpAny (model prog w) A (pyNext (.ref (n+1))) Q E s:=by
 obtain ⟨⟨last,ob⟩,src⟩:=Z
 have ty:s.TypeIs (.ref (n+1)) "enumerate":=⟨_,ob,rfl⟩
 unfold pyNext
 refine aaE (wpAny_attempt (wpAny_callSpecial?_slot (name:=Str.ofString "__next__") ty F.slot_enumerate_next (wpAny_call_entry F.slot_enumerate_next ty F.entry_enumerate_next ?_ (F.args_enumerate_next_1 _))))
 show wpAny _ _ (field (.ref (n+1)) 2 >>= _) _ _ _
 refine aaE (wpAny_field ob rfl (x:=.ref n) rfl (aaE (oG hh src hs hx fun h' e off ⟨o,ho,hc⟩=>?_)))
 exact aaE (wpAny_isInstance (T:="StopIteration") (b:=true) ⟨o,ho,hc⟩ isSubtype_stop (aaT (hQ _ fun c u hc e=>off c u (fun z=>hc (by simp [z])) e)))
abbrev NV (k:Bool) (h:Heap) (a:Addr):Heap:=(h.push (bD k a)).push { cls:=.type "enumerate",data:=.fields #[.none,.bool false,.ref h.objs.size,rawInt 0,.none,.none] }
end
end L2
namespace L2
open PySem
open AutoSeq1 (wpAny_loadPart')
theorem HZ(k:Bool)(a:Addr)(xs:Array Value) :
  Meets (Builtin.«enumerate.__new__» ⟨[.type "enumerate",.ref a],[]⟩) (fun _ R s=>bx k s.heap a xs/\R (.ok (.ret (.ref (s.heap.objs.size+1)))) { s with heap:=NV k s.heap a }) :=
 .of_wp fun prog w A R s h=>by
  obtain ⟨hp,gg,dd,tt,oo⟩:=s
  obtain ⟨src,r⟩:=h
  have sub:=sub_enumerate
  have S:bx k (Shared.heap ⟨hp,gg,dd,tt,oo⟩) a xs:=src
  obtain ⟨ob,e⟩:∃ ob,hp.get? a=some ob:=by
   cases k
   ·obtain ⟨ob,e,_⟩:=src;exact⟨ob,e⟩
   ·obtain ⟨ob,e,_⟩:=src;exact⟨ob,e⟩
  obtain ⟨oc,od,ot,os⟩:=ob
  have last:(hp.push (bD k a)).objs.size=hp.objs.size+1:=Heap.size_push ..
  have r':R (.ok (.ret (.ref (hp.push (bD k a)).objs.size))) ⟨NV k hp a,gg,dd,tt,oo⟩:=by rw [last];exact r
  wp_walk using wpAny_loadPart' e
  refine wpAny_stack_any fun st=>aaT ?_
  split
  ·rename_i c _ _ _ _ _
   cases (c == Value.type "enumerate") <;> (wp_walk using wpAny_loadPart' e,gb S;exact⟨_,rfl,r'⟩)
  ·wp_walk using wpAny_loadPart' e,gb S
   exact⟨_,rfl,r'⟩
open PySem PySem.Spec PyProof.Rows
def NW(K : Frag)(k : Bool)(a : Addr) : It :=
  ⟨fun i H => ∃ xs x, Sq k K H a xs /\ xs[i]?=some x,
   fun i H v H' => ∃ p x, v=.ref p /\ H p=none /\ (∀ xs, Sq k K H a xs -> xs[i]?=some x) /\ H'=upd H p (.tup [.int i, x]),
   fun i H => ∃ xs, Sq k K H a xs /\ xs.length <= i⟩
theorem Ia{P:Program}{w:World}{K:Frag}{es:List Expr}{kk:Nat}{pos:Pos}{k:Bool}(n a:Nat)(ha:a<n) :
  Turn P w K (.Tuple es kk pos) (NW K k a) [n+1,n] (n+1) (fun i h=>En k n a i h) where
 mem:=by simp
 obj:=fun i h st c hc=>by
  obtain ⟨⟨last,ob⟩,src⟩:=st
  simp only [aa7,not_mem_nil,or_false] at hc
  rcases hc with rfl|rfl
  ·exact⟨_,ob,fun v z=>nomatch z⟩
  ·exact src.obj
 keep:=fun i h h' st k=>by
  obtain ⟨⟨last,ob⟩,src⟩:=st
  exact⟨⟨last,k _ (by simp) _ ob⟩,src.keep fun o e=>k _ (by simp) o e⟩
 item:=by
  intro X hP hw hK hc i pins s σ H E I hf st hg
  subst hP hw hK
  obtain ⟨xs,x,qx,ex⟩:=hg
  obtain ⟨DR,r1,s1,_⟩:=I.sq qx
  obtain ⟨u,hu,ru⟩:=r1.get ex
  refine By st ha s1 (x:=u) (by simpa using hu) fun h' t ob src hT jc off=>⟨_,rfl,?_⟩
  have yq:H s.heap.objs.size=none:=I.aN.fresh (aaK _)
  have Pa:n+1<s.heap.objs.size:=by obtain ⟨last,b⟩:=st.ob;exact aaH b
  refine wpAny_letOwnedTupleGo_enum ob fun h2 NU eL=>?_
  have jj:Off [n+1,n] s.heap h2:=fun c o hc e=>(eL.2 c fun z=>hc (by simp [z])).trans (off c o (fun z=>hc (by simp only [aa7,not_mem_nil,or_false] at z ⊢;exact z.symm)) e)
  have qR:IsT h2 s.heap.objs.size #[.int i t,u]:=(eL.2 _ (Nat.ne_of_gt Pa)).trans hT
  refine⟨.ref s.heap.objs.size,upd H s.heap.objs.size (.tup [.int i,x]),?_,rfl,⟨_,x,rfl,yq,fun zs DS=>by rw [I.my DS qx];exact ex,rfl⟩,?_,fun c hc=>?_⟩
  ·refine Inv.off (s:=s) (h':=h2) (t':=s.toks+1) (ch:=[n+1,n]) I hf jj (I.aN.yp (fun c hc=>(hf c hc).1) jj (aaK _) ?_) (fun c o _ e hn=>?_) fun c o e=>?_
   ·exact⟨by show 2<=sizeLine;decide,[.int i t,u],.cons ⟨t,rfl⟩ (.cons ru .nil),⟨_,qR,rfl,_,rfl⟩⟩
   ·rw [au (abt (aaH e))];exact hn
   ·rw [au (aF e yq)];exact e
  ·exact⟨⟨_,NU⟩,src.keep fun o e=>(eL.2 _ (cq (by lia))).trans e⟩
  ·have cn:c≠s.heap.objs.size:=by
    simp only [aa7,not_mem_nil,or_false] at hc
    rcases hc with rfl|rfl <;> exact cq (by lia)
   rw [au cn];exact (hf c hc).1
 done:=by
  intro X hP hw hK hc i pins s σ H E I hf st hg
  subst hP hw hK
  obtain ⟨xs,qx,yn⟩:=hg
  obtain ⟨DR,r1,s1,_⟩:=I.sq qx
  have e1:=r1.length
  refine rk (I.ok.hd hc) st s1 (by simp;lia) fun h' off=>⟨rfl,?_⟩
  have jj:Off [n+1,n] s.heap h':=fun c o hc e=>off c o (fun z=>hc (by simp only [aa7,not_mem_nil,or_false] at z ⊢;exact z.symm)) e
  exact Inv.off (s:=s) (t':=s.toks) I hf jj (I.aN.off (fun c hc=>(hf c hc).1) jj) (fun _ _ _ _ q=>q) fun _ _ q=>q
 self:=fun _ _ _ _ _ st h=>by
  obtain ⟨last,ob⟩:=st.ob
  exact wpAny_pyIter_enum ob h
section
variable {X:Cx}
def Ex(K:Frag)(k:Bool)(ta:TA):TI:=fun σ H R=>ta σ H fun vs H1=>∃ a,vs=[.ref a]/\(∃ xs,Sq k K H1 a xs)/\R (NW K k a) H1
theorem Ib (k:Bool) {es:List Expr} {kk:Nat} {nZ:Pos} {a:Expr} {ta:TA} {p pos:Pos} (hg:Gl X "enumerate") (hm:X.mg "enumerate"=none) (ha:PA X [a] ta) (hs:starEach [a] X.env=[(false,eval a X.env)]:=by rfl) :
  PI X (.Tuple es kk nZ) (.Call (.Name "enumerate" p) [a] [] pos) (Ex X.K k ta):=by
 intro pins s σ H R I h
 refine Call_ (iu I hg hm boot_enumerate (callWith_type1 (cp (ha pos pins s σ H _ I h) fun us s1 ⟨vs,H1,I1,r1,q1⟩=>?_) (by rw [hs];rfl) (by rfl)))
 obtain ⟨a',e,⟨xs,qx⟩,q⟩:=q1
 subst e
 obtain ⟨u,rfl,ru⟩:=vals1 r1
 cases ru
 obtain ⟨DR,r1,JN,_⟩:=I1.sq qx
 refine callType_new PySem.F.called_enumerate (by decide) (PySem.F.typeCall_enumerate_1 _) (PySem.F.newCall_enumerate_1 _) (fun obj=>PySem.F.args_object_init_2 obj _) PySem.F.entry_enumerate_new (HZ k a' DR.toArray) ⟨JN,?_⟩
 have z1:(s1.heap.push (bD k a')).objs.size=s1.heap.objs.size+1:=Heap.size_push ..
 have g2:(NV k s1.heap a').get? (s1.heap.objs.size+1)=some { cls:=.type "enumerate",data:=.fields #[.none,.bool false,.ref s1.heap.objs.size,rawInt 0,.none,.none] }:=by rw [<- z1];exact aaI _ rfl
 have g1:(NV k s1.heap a').get? s1.heap.objs.size=some (bD k a'):=aaD _ (aaI _ (by cases k <;> rfl))
 have old:∀ c o,s1.heap.get? c=some o->(NV k s1.heap a').get? c=some o:=fun c o x=>aaD _ (aaD _ x)
 have Z:En k s1.heap.objs.size a' 0 (NV k s1.heap a'):=⟨⟨_,g2⟩,ic g1⟩
 show _/\_
 refine⟨⟨_,g2,rfl⟩,wpAny_pyIter_enum g2 ?_⟩
 refine⟨_,_,_,_,H1,rfl,I1.kept (t':=s1.toks) old,Ia s1.heap.objs.size a' JN.lt,Z,fun c hc=>?_,q⟩
 have pG:s1.heap.objs.size<=c:=by
  simp only [aa7,not_mem_nil,or_false] at hc
  rcases hc with rfl|rfl <;> first|exact le_add_right _ _|exact aaK _
 exact I1.t7 pG (I1.aN.fresh pG)
theorem pR (K:Frag) (hK:X.K=K) (k:Bool) {es:List Expr} {kk:Nat} {nZ:Pos} {a:Expr} {ta:TA} {p pos:Pos} (hg:Gl X "enumerate") (hm:X.mg "enumerate"=none) (ha:PA X [a] ta) (hs:starEach [a] X.env=[(false,eval a X.env)]:=by rfl) :
  PI X (.Tuple es kk nZ) (.Call (.Name "enumerate" p) [a] [] pos) (Ex K k ta):=hK ▸ Ib k hg hm ha hs
end
section
variable {K:Frag}{H:Hp}{σ:St}{D:Ends}
def Qz(K:Frag)(k:Bool):List V->Hp->(It->Hp->Prop)->Prop:=fun vs H R=>∃ a,vs=[.ref a]/\(∃ xs,Sq k K H a xs)/\R (NW K k a) H
theorem Ic{k:Bool}{ts:TA}{R:It->Hp->Prop}(h:ts σ H fun vs H1=>Qz K k vs H1 R):Ex K k ts σ H R:=h
theorem QA{k:Bool}{a:Addr}{xs:List V}{R:It->Hp->Prop}(e:Sq k K H a xs)(h:R (NW K k a) H):Qz K k [.ref a] H R:=⟨a,rfl,⟨_,e⟩,h⟩
end
inductive aK(K:Frag)(H:Hp):List V->List (List Int)->Prop where
 | nil:aK K H [] []
 | cons {a:Addr} {r:List Int} {xs:List V} {rs:List (List Int)} (h:aR K H a (r.map V.int)) (t:aK K H xs rs):aK K H (.ref a::xs) (r::rs)
namespace aK
variable {K:Frag}{H H':Hp}
theorem length:∀ {xs:List V} {rs:List (List Int)},aK K H xs rs->rs.length=xs.length
 | _,_,.nil=>rfl
 | _,_,.cons _ t=>by rw [length_cons,length_cons,t.length]
theorem get:∀ {xs:List V} {rs:List (List Int)} {i:Nat} {x:V},aK K H xs rs->xs[i]?=some x->∃ a r,x=.ref a/\aR K H a (r.map V.int)/\rs[i]?=some r
 | _,_,_,_,.nil,h=>by simp at h
 | _,_,0,_,.cons (a:=a) (r:=r) h _,e=>by
  simp at e
  exact⟨a,r,e.symm,h,rfl⟩
 | _,_,i+1,_,.cons _ t,e=>by
  obtain ⟨a,r,h1,h2,h3⟩:=get (i:=i) t (by simpa using e)
  exact⟨a,r,h1,h2,by simpa using h3⟩
theorem same:∀ {xs:List V} {rs:List (List Int)},aK K H xs rs->aj H H'->aK K H' xs rs
 | _,_,.nil,_=>.nil
 | _,_,.cons h t,s=>.cons (s.at h) (t.same s)
theorem append:∀ {xs ys:List V} {rs qs:List (List Int)},aK K H xs rs->aK K H ys qs->aK K H (xs++ys) (rs++qs)
 | _,_,_,_,.nil,u=>u
 | _,_,_,_,.cons h t,u=>.cons h (t.append u)
theorem snoc{xs:List V}{rs:List (List Int)}{a:Addr}{r:List Int}(t:aK K H xs rs)(h:aR K H a (r.map V.int)):aK K H (xs++[.ref a]) (rs++[r]):=t.append (.cons h .nil)
theorem off{l:Addr}{ys zs:List V}:∀ {xs:List V} {rs:List (List Int)},aK K H xs rs->H l=some (.lst ys)->aK K (upd H l (.lst zs)) xs rs
 | _,_,.nil,_=>.nil
 | _,_,.cons h t,e=>.cons ((Ed h e).imp (fun q=>q.imp (fun q=>by rw [au (fun z=>by rw [z,wA] at q;cases q)];exact oK _ _ q) fun ⟨o,q⟩=>⟨o,by rw [au (fun z=>by rw [z,wA] at q;cases q)];exact oK _ _ q⟩) id) (t.off e)
end aK
theorem jH{K:Frag}{H:Hp}{l a:Addr}{xs ys zs:List V}(h:aR K H a xs)(e:H l=some (.lst ys)):aR K (upd H l (.lst zs)) a xs :=
 (Ed h e).imp (fun q=>q.imp (fun q=>by rw [au (fun z=>by rw [z,wA] at q;cases q)];exact oK _ _ q) fun ⟨o,q⟩=>⟨o,by rw [au (fun z=>by rw [z,wA] at q;cases q)];exact oK _ _ q⟩) id
section
variable {K:Frag}{H:Hp}{σ:St}{Q:VK}{ix:List (Option Nat)}
theorem tG{J:It}{g:TG}{tt:TT}{te:TE}(t:Nat)(fr:St)(n:Nat)(rs:Nat->List (List Int))(ka:pick ix σ=List.replicate t none++fr)(h0:rs 0=[])(hn:∀ i,(rs i).length<=1000)
  (lC:∀ H',aj H H'->J.stop n H') (G4:∀ i H',i<n->aj H H'->J.go i H')
  (step:∀ i x H' H2 own,own.length=t->i<n->aj H H'->J.GF i H' x H2->∀ (Qy:St->VK) (Qn:St->Hp->Prop),
   (∀ iF a r H5,iF.length=t->aj H' H5->aR K H5 a (r.map V.int)->rs (i+1)=rs i++[r]->Qy (iF++fr) (.ref a) H5)->(∀ iF H4,iF.length=t->aj H' H4->rs (i+1)=rs i->Qn (iF++fr) H4) ->
   g x (own++fr) H2 fun σ2 H3=>tt σ2 H3 fun b H4=>if b=true then te σ2 H4 (Qy σ2) else Qn σ2 H4)
  (hQ:∀ l H' ys,H l=none->aj H H'->H' l=some (.lst ys)->aK K H' ys (rs n)->Q (.ref l) H'):bG ix g tt te σ Q J H:=by
 intro l hl
 refine⟨fun i m σ1 ys H'=>m=n - i/\i<=n/\(∃ own:St,own.length=t/\σ1=own++fr)/\aj H H'/\H' l=some (.lst ys)/\aK K H' ys (rs i),⟨n,by simp,abr _,⟨_,length_replicate,ka⟩,aj.bf hl,aw,by rw [h0];exact .nil⟩,?_⟩
 rintro i m σ1 ys H' ⟨rfl,hi,⟨own,ho,rfl⟩,hs,d6,hr⟩
 refine⟨d6,?_⟩
 by_cases lD:i<n
 ·refine .inr ⟨G4 i H' lD hs,n - (i+1),by lia,fun x H2 hy=>step i x H' H2 own ho lD hs hy _ _ (fun iF a r H5 qY s5 ha er=>?_) fun iF H4 qY s4 er=>?_⟩
  ·have l5:=s5 _ _ d6
   refine⟨l5,abb (by rw [<- hr.length];exact hn i) (el (aaK 1000)),rfl,lD,⟨iF,qY,rfl⟩,fun b o e=>?_,aw,?_⟩
   ·rw [au (aF e hl)]
    exact s5 _ _ (hs _ _ e)
   ·rw [er]
    exact ((hr.same s5).off l5).snoc (jH ha l5)
  ·exact⟨rfl,lD,⟨iF,qY,rfl⟩,hs.trans s4,s4 _ _ d6,by rw [er];exact hr.same s4⟩
 ·obtain rfl:i=n:=by lia
  exact .inl ⟨lC H' hs,hQ l H' ys hl hs d6 hr⟩
end
end L2
namespace L2
open PySem PySem.Spec PyProof.Rows PySem.W
section
variable {M:Model}{A:Around}{E:Value->Shared->Prop}{s:Shared}
theorem tH{base:Heap}{env:Env}{outer:List Env}{L e:Addr}{oe:Obj}{vs:Array Value}{head:Value}{ux:Bool}{Q:Unit->Shared->Prop}
  (qP:A.frames=some (env::outer)) (hl:s.heap.FunFrames base (env::outer)) (hf:env.frame=some L) (he:s.heap.get? e=some oe) (hd:oe.data=.fields vs) (jc:1<vs.size)
  (h:∀ h' T,(∀ b o,b≠e->b∉jV (env::outer)->s.heap.get? b=some o->h'.get? b=some o)->(∀ b o,b≠e->s.heap.get? b=some o->∃ sl,h'.get? b=some { o with slots:=sl }) ->
   s.heap.get? T=none->T≠e->h'.get? e=some (oe.mapFields (·.setIfInBounds 1 (.ref T)))->(∃ oT ts,h'.get? T=some oT/\oT.data=.fields ts/\ts[3]?=some (rawInt L))->Q () { s with heap:=h' }) :
  wpAny M A (do let a <- frameOf env;let pl <- entryPlaceOf L ux;let b <- EntryCells.newEntry head a .none (rawInt L) .none pl;setField (.ref e) 1 b) Q E s:=by
 have L9:e∉(env::outer).filterMap (·.frame):=fun hm=>by
  obtain ⟨_,o,ho,uy⟩:=hl.mem hm
  rw [he] at ho;injection ho with ho;subst ho;exact uy vs hd
 refine aaE (wpAny_frameOf_fun qP hl hf fun h₁ Hv=>aaE (wpAny_entryPlaceOf fun pl i0=>?_))
 unfold EntryCells.newEntry newFields
 refine aaE (wpAny_newObj_type ?_ (i0.sizeOk5 _ _ _ _ _))
 have Qg:h₁.get? e=some oe:=(Hv.2.1 e L9).trans he
 obtain ⟨tb,UW⟩:∃ tb:Obj,tb={ cls:=.type "traceback",dict:=none,data:=.fields ([head,.ref L,.none,rawInt L,.none]++(if pl.isEmpty then List.replicate 6 Value.none else pl)).toArray }:=⟨_,rfl⟩
 have htd:∃ ts,tb.data=.fields ts/\ts[3]?=some (rawInt L):=by rw [UW];exact⟨_,rfl,by simp⟩
 have uy:tb.isFreed=false:=by rw [UW];rfl
 show wpAny M A (setField (.ref e) 1 (.ref h₁.objs.size)) Q E { s with heap:=h₁.push _ }
 rw [<- UW]
 have Qh:=aaD (h:=h₁) tb Qg
 have Ee:h₁.objs.size≠e:=Nat.ne_of_gt (aaH Qg)
 refine wpAny_setField Qh hd jc (h _ h₁.objs.size (fun b o vG UE hb=>?_) (fun b o vG hb=>?_) (Heap.get?_none_of_le (by rw [Hv.1];exact aaK _)) Ee (Heap.get?_update_self _ Qh (Obj.isFreed_of_fields (Obj.data_mapFields hd _))) ?_)
 ·rw [Heap.get?_update_other _ _ (Ne.symm vG)]
  exact aaD _ ((Hv.2.1 b UE).trans hb)
 ·obtain ⟨sl,hs⟩:=Hv.2.2 b o hb
  exact⟨sl,by rw [Heap.get?_update_other _ _ (Ne.symm vG)];exact aaD _ hs⟩
 ·obtain ⟨ts,q1,q2⟩:=htd
  exact⟨tb,ts,(Heap.get?_update_other _ _ (Ne.symm Ee)).trans (aaI h₁ uy),q1,q2⟩
theorem Ey{base:Heap}{env:Env}{outer:List Env}{L e:Addr}{oe:Obj}{vs:Array Value}{T0:Option Addr}{Q:Unit->Shared->Prop}
  (qP:A.frames=some (env::outer)) (hl:s.heap.FunFrames base (env::outer)) (hf:env.frame=some L) (he:s.heap.get? e=some oe) (hd:oe.data=.fields vs) (hh:uz s.heap e vs T0)
  (h:∀ h' T,(∀ b o,b≠e->some b≠T0->b∉jV (env::outer)->s.heap.get? b=some o->h'.get? b=some o)->(∀ b o,b≠e->some b≠T0->s.heap.get? b=some o->∃ sl,h'.get? b=some { o with slots:=sl }) ->
   s.heap.get? T=none->T≠e->h'.get? e=some (oe.mapFields (·.setIfInBounds 1 (.ref T)))->(∃ oT ts,h'.get? T=some oT/\oT.data=.fields ts/\ts[3]?=some (rawInt L))->Q () { s with heap:=h' }) :
  wpAny M A (noteFrame (.ref e) env) Q E s:=by
 unfold noteFrame
 simp only [hf]
 cases T0 with
 | none =>
  have h1:vs[1]?=some .none:=hh
  refine aaE (wpAny_field he hd h1 ?_)
  rw [if_neg (by decide)]
  exact tH qP hl hf he hd (Array.getElem?_eq_some_iff.mp h1).1 fun h' T k1 k2 k3 k4 k5 k6=>h h' T (fun b o b1 _ b3 b4=>k1 b o b1 b3 b4) (fun b o b1 _ b3=>k2 b o b1 b3) k3 k4 k5 k6
 | some T =>
  obtain ⟨h1,Ee,oT,ts,hT,qS,h3⟩:=hh
  refine aaE (wpAny_field he hd h1 ?_)
  rw [if_pos (show (Value.ref T != Value.none)=true from by simp)]
  refine aaE (wpAny_field hT qS h3 ?_)
  rw [if_neg (show ¬ ((Value.none == rawInt L)=true) from by simp [rawInt])]
  refine aaE (wpAny_setField hT qS (Array.getElem?_eq_some_iff.mp h3).1 ?_)
  have other:∀ b,b≠T->(s.heap.update T (Obj.mapFields (·.setIfInBounds 3 Value.none))).get? b=s.heap.get? b:=fun b hb=>Heap.get?_update_other _ _ (Ne.symm hb)
  have pP:∀ b o,s.heap.get? b=some o->(∀ vs,o.data≠.fields vs)->b≠T:=fun b o hb uy q=>by
   rw [q,hT] at hb;injection hb with hb;subst hb;exact uy ts qS
  have qR:=Heap.get?_update_self (Obj.mapFields (·.setIfInBounds 3 Value.none)) hT (Obj.isFreed_of_fields (Obj.data_mapFields qS _))
  refine tH qP (hl.of_keeps fun b o hb uy=>⟨o,(other b (pP b o hb uy)).trans hb,rfl⟩) hf ((other e (Ne.symm Ee)).trans he) hd (Array.getElem?_eq_some_iff.mp h1).1 fun h' T' k1 k2 k3 k4 k5 k6=>?_
  refine h h' T' (fun b o b1 b2 b3 b4=>k1 b o b1 b3 ((other b fun z=>b2 (by rw [z])).trans b4)) (fun b o b1 b2 b4=>k2 b o b1 ((other b fun z=>b2 (by rw [z])).trans b4)) ?_ k4 k5 k6
  by_cases hq:T'=T
  ·rw [hq,qR] at k3;cases k3
  ·rw [other T' hq] at k3;exact k3
theorem tI{e T:Addr}{oe oT:Obj}{vs ts:Array Value}{fl:Option Addr}{Q:Unit->Shared->Prop}(he:s.heap.get? e=some oe)(hd:oe.data=.fields vs)(h1:vs[1]?=some (.ref T))(hT:s.heap.get? T=some oT)(qS:oT.data=.fields ts)(h3:3<ts.size)
  (h:∀ h',(∀ b o,b≠T->s.heap.get? b=some o->h'.get? b=some o)->(∃ oT ts,h'.get? T=some oT/\oT.data=.fields ts/\ts[3]?=some (fl.elim .none fun f=>rawInt f))->Q () { s with heap:=h' }):wpAny M A (setFlight (.ref e) fl) Q E s:=by
 unfold setFlight
 refine aaE (wpAny_field he hd h1 ?_)
 rw [if_pos (show (Value.ref T != Value.none)=true from by simp)]
 refine wpAny_setField hT qS h3 (h _ (fun b o hb e=>(Heap.get?_update_other _ _ (Ne.symm hb)).trans e) ⟨_,_,Heap.get?_update_self _ hT (Obj.isFreed_of_fields (Obj.data_mapFields qS _)),Obj.data_mapFields qS _,?_⟩)
 simp [h3]
theorem Ie{env:Env}{L e T:Addr}{oe oT:Obj}{vs ts:Array Value}{Q:Unit->Shared->Prop}(hf:env.frame=some L)(he:s.heap.get? e=some oe)(hd:oe.data=.fields vs)(h1:vs[1]?=some (.ref T))(hT:s.heap.get? T=some oT)(qS:oT.data=.fields ts)(h3:ts[3]?=some (rawInt L))(h:Q () s) :
  wpAny M A (noteFrame (.ref e) env) Q E s:=by
 unfold noteFrame
 simp only [hf]
 refine aaE (wpAny_field he hd h1 ?_)
 rw [if_pos (show (Value.ref T != Value.none)=true from by simp)]
 refine aaE (wpAny_field hT qS h3 ?_)
 rw [if_pos (by simp)]
 exact aaT h
end
def UX(h:Heap)(H:Hp)(h0:Heap)(ps:List (Addr×Obj))(L a C:Addr):Prop:=∃ oe vs T oT ts,h.get? a=some oe/\oe.cls=.ref C/\oe.dict=none/\oe.data=.fields vs/\1<vs.size/\vs[1]?=some (.ref T)/\T≠a/\h.get? T=some oT/\oT.data=.fields ts/\ts[3]?=some (rawInt L) /\
 H a=none/\(h0.get? a=none/\∀ p∈ps,p.1≠a)/\H T=none/\h0.get? T=none/\∀ p∈ps,p.1≠T
def XM(X:Cx)(EX:qT):Value->Shared->Prop:=fun e s'=>∃ a C σ' H',e=.ref a/\Inv X.Gb [] σ' H' s'/\UX s'.heap H' X.s₀.heap X.pn X.env.locals a C/\EX C σ' H'
def XP(X:Cx)(EX:qT):Value->Shared->Prop:=fun e s'=>XW X EX e s'\/XM X EX e s'
theorem Ig{P:Program}{w:World}{K:Frag}{mg:Str->Option Value}{base:Heap}{N:List Str}{qual:Str}{scope:Scope}{f:Addr}{cd:Value}{A:Around}{outer:List Env}{s:Shared}{H:Hp}{E:XK}{e:Value}{s':Shared}
  (h:XP (iz (kf P w) P w K mg base N qual scope f cd A outer s H E) (fun C _ H'=>E (.ref C) none H') e s'):(iz (kf P w) P w K mg base N qual scope f cd A outer s H E).xe e s':=by
 rcases h with h|h
 ·exact yB h
 obtain ⟨a,C,σ',H',rfl,I,⟨oe,vs,T,oT,ts,he,hc,Ef,hd,jc,h1,hTa,hT,qS,h3,xM,⟨HH,JY⟩,T2,T3,T4⟩,hE⟩:=h
 have lI:s.heap.get? a=none:=HH
 have T3':s.heap.get? T=none:=T3
 show wpAny (model P w) (A.deeper (envOfC qual scope s.heap.objs.size f cd)) (leaving (envOfC qual scope s.heap.objs.size f cd) (.ref a)) _ _ s'
 unfold leaving
 refine aaE (Ie (L:=s.heap.objs.size) rfl he hd h1 hT qS h3 (tI (fl:=none) he hd h1 hT qS (Array.getElem?_eq_some_iff.mp h3).1 fun h' f1 f2=>?_))
 have neT:∀ b o,s.heap.get? b=some o->b≠T:=fun b o q z=>by rw [z,T3'] at q;cases q
 refine⟨a,C,H',rfl,I.os,I.bare,⟨fun b o q n hb hx=>f1 b o (neT b o q) (I.base.keep b o q n hb hx),fun b o q n hb hx=>?_,fun b o q n hx=>I.base.free b o q n hx,fun b o q hx=>?_,I.base.il,I.base.gZ,I.base.hJ⟩,I.aN.off (ch:=[T]) (fun b hb=>by rw [show b=T by simpa using hb];exact T2) fun b o hb q=>f1 b o (by simpa using hb) q,?_,hE⟩
 ·obtain ⟨sl,q1⟩:=I.base.slot b o q n hb hx
  exact⟨sl,f1 _ _ (neT b o q) q1⟩
 ·obtain ⟨o',q1⟩:=I.base.there b o q hx
  exact⟨o',f1 _ _ (neT b o q) q1⟩
 ·exact⟨oe,vs,some T,f1 _ _ (Ne.symm hTa) he,hc,Ef,hd,jc,⟨h1,hTa,f2⟩,xM,⟨lI,fun _ z=>nomatch z⟩,fun T' e=>by cases e;exact⟨T2,T3',fun _ z=>nomatch z⟩⟩
section
variable {P:Program}{w:World}{K:Frag}{mg:Str->Option Value}{base:Heap}
theorem Def.okP{x:Str}{st:Stmt}{N ps:List Str}{k:Nat}{sp:Sp}(D:Def K mg x st ps)(S:aA N ps (ak st))(len:∀ vs H Q E,sp vs H Q E->vs.length=ps.length)
  (fZ:∀ (f:Addr) (cZ:Value) (A:Around) (outer:List Env) (s:Shared) (H:Hp) (vs:List V) (Q:VK) (E:XK),cj k (A.deeper (envOfC x (ak st) s.heap.objs.size f cZ))->sp vs H Q E ->
   ∃ t,oE ((iz (kf P w) P w K mg base N x (ak st) f cZ A outer s H E).eD (XP (iz (kf P w) P w K mg base N x (ak st) f cZ A outer s H E) fun C _ H'=>E (.ref C) none H')) (az st) t/\t { nx:=fun _ H'=>Q .dB H',rt:=Q } (start N vs) H):tw P w K mg base (k+1) x ps sp:=by
 obtain ⟨f,fd,F,hm,hb⟩:=D
 obtain ⟨oc,od,kV,doc,pm,an,cZ,ct,zZ,rfl,lk,kO⟩:=F.ex
 refine⟨f,_,vP lk kO S len fun A outer s H vs Q E hr z0=>?_,hm,F.kp,hb⟩
 obtain ⟨t,h,q⟩:=fZ f cZ A outer s H vs Q E hr z0
 exact⟨t,h.xe fun e s z=>Ig z,q⟩
end
open PySem PySem.Spec PyProof.Rows
section
variable {K:Frag}{H:Hp}{Q:VK}{σ:St}
theorem Aw{xs:List V}{j:Nat}:iA xs none (some (j:Int))=xs.take j:=by
 unfold iA
 rw [HT.kP,HT.kR,sub_zero,drop_zero]
 by_cases h:j<=xs.length
 ·rw [min_eq_left h]
 ·rw [Nat.min_eq_right (by lia),abo (by lia),abo (by lia)]
theorem Mq{a:Addr}{xs:List V}{j:Nat}(e:aW K H a xs)(h:∀ p H2,H p=none->aj H H2->H2 p=some (.lst (xs.take j))->Q (.ref p) H2):Dy K (.ref a) none (some (j:Int)) H Q :=
 JV e fun p H2 n s m=>h p H2 n s (by rw [Aw] at m;exact m)
theorem wF:∀ (r q:List Int),PyData.eqvAll (r.map PyData.int) (q.map PyData.int)=decide (r=q)
 | [],[]=>rfl
 | [],_::_=>rfl
 | _::_,[]=>rfl
 | x::r,y::q=>by
  have h:=wF r q
  simp only [map_cons,PyData.eqvAll,h,PyData.eqv]
  by_cases e:x=y
  ·subst e;by_cases e2:r=q <;> simp [e2]
  ·simp [e]
theorem Ih(r q:List Int):PyData.eqv (.tuple (r.map PyData.int)) (.tuple (q.map PyData.int))=decide (r=q):=by
 rw [<- wF r q]
 simp [PyData.eqv]
theorem lay_ints:∀ r:List Int,PyData.canLayAll0 (r.map PyData.int)=true
 | []=>rfl
 | _::r=>by simp only [map_cons,PyData.canLayAll0,lay_ints r,PyData.canLay0,Bool.and_self]
theorem Ii(r:List Int):PyData.canLay0 (.tuple (r.map PyData.int))=true:=by simp only [PyData.canLay0,lay_ints]
theorem tJ:∀ r:List Int,PyData.depthAll (r.map PyData.int)<=1
 | []=>by simp [PyData.depthAll]
 | _::r=>by
  have:=tJ r
  simp only [map_cons,PyData.depthAll,PyData.depth]
  lia
theorem Ez(r:List Int):PyData.depth (.tuple (r.map PyData.int))<=2:=by
 have:=tJ r
 simp only [PyData.depth]
 lia
end
section
variable {K:Frag}{H H':Hp}
theorem jX:∀ {zs:List (List Int×V)},(∀ p∈zs,∃ a,p.2=.ref a/\aR K H a (p.1.map V.int))->aK K H (zs.map Prod.snd) (zs.map Prod.fst)
 | [],_=>.nil
 | p::zs,h=>by
  obtain ⟨a,e,q⟩:=h p (mem_cons_self ..)
  rw [map_cons,map_cons,e]
  exact .cons q (jX fun z hz=>h z (aa6 _ hz))
theorem aK.pair:∀ {xs:List V} {rs:List (List Int)},aK K H xs rs->∀ p∈rs.zip xs,∃ a,p.2=.ref a/\aR K H a (p.1.map V.int)
 | _,_,.nil=>fun p hp=>by cases hp
 | _,_,.cons h t=>fun p hp=>by
  rcases aa7.mp hp with rfl|hp
  ·exact⟨_,rfl,h⟩
  ·exact t.pair p hp
theorem wG{xs ys:List V}{rs:List (List Int)}(f:List Int->Int)(hr:aK K H xs rs)(so:eH false (rs.map f) xs ys)(s:aj H H'):∃ qs,aK K H' ys qs/\qs.Perm rs/\qs.Pairwise fun a b=>f a<=f b:=by
 obtain ⟨ps,hp,rfl,hw⟩:=so
 have ez:(rs.map f).zip xs=(rs.zip xs).map fun p=>(f p.1,p.2):=by rw [List.zip_map_left];rfl
 obtain ⟨zs,pz,rfl⟩:=d7.v7 hp ez
 refine⟨zs.map Prod.fst,?_,?_,?_⟩
 ·rw [abm]
  exact (jX (zs:=zs) fun p h=>hr.pair p (pz.mem_iff.mp h)).same s
 ·have:=pz.map Prod.fst
  rw [List.map_fst_zip (by rw [hr.length];exact aaK _)] at this
  exact this
 ·rw [List.pairwise_map] at hw ⊢
  exact hw.imp fun h=>h
end
inductive gK(K:Frag)(H:Hp):List V->List (List Int×Int)->Prop where
 | nil:gK K H [] []
 | cons {a w:Addr} {r:List Int} {m:Int} {xs:List V} {ks:List (List Int×Int)} (h:aR K H a [.ref w,.int m]) (hw:aR K H w (r.map V.int)) (t:gK K H xs ks):gK K H (.ref a::xs) ((r,m)::ks)
namespace gK
variable {K:Frag}{H H':Hp}
theorem same:∀ {xs:List V} {ks:List (List Int×Int)},gK K H xs ks->aj H H'->gK K H' xs ks
 | _,_,.nil,_=>.nil
 | _,_,.cons h hw t,s=>.cons (s.at h) (s.at hw) (t.same s)
end gK
theorem EA{K:Frag}{a:Addr}{xs:List V}{H1:Hp}{ix:List (Option Nat)}{σ:St}{te:TE}{Q:VK}(fr:St)(f:Nat->V)(ka:pick ix σ=none::fr)(ha:aW K H1 a xs)(hn:xs.length<=1000000)
  (step:∀ (i:Nat) x H' (Qc:VK),xs[i]?=some x->aj H1 H'->(∀ H5,aj H' H5->Qc (f i) H5)->te (some x::fr) H' Qc)
  (hQ:∀ l H',H1 l=none->aj H1 H'->H' l=some (.lst ((List.range xs.length).map f))->Q (.ref l) H'):bG ix (bW 0) (fun _ H Q=>Q true H) te σ Q (GG K a) H1:=by
 refine lE fr xs.length f ka hn (fun H' s=>⟨xs,s.seq ha,aaK _⟩) (fun i H' hi s=>⟨xs,xs[i],s.seq ha,aaY hi⟩) (fun i x H' H2 Qc hi s hy kc=>?_) hQ
 obtain ⟨rfl,e⟩:=hy
 exact step i x _ Qc (e xs (s.seq ha)) s kc
end L2
namespace L2
open PySem PySem.Spec PyProof.Rows
section
variable {X:Cx}{pins:List (Addr×Obj)}{σ:St}{H:Hp}{s:Shared}
theorem yI{a kS f:Addr}{e1:Nat}{b:Bool}{vs:List Value}{xs:List V}{kz:List Int}{P:PySem.Fin->Shared->Prop}{E:Value->Shared->Prop}
  (KC:∀ (fV:List (Addr×Obj)) (H':Hp) (s':Shared) (i:Nat) (x:V) (u:Value) (n:Int),(∀ p∈pins,p∈fV)->xs[i]?=some x->kz[i]?=some n->aj H H'->RelV x u->Inv X fV σ H' s'->wpAny (model X.prog X.w) X.A.in1.in1 (call (.ref f) [u]) (EP X fV σ fun v Ij=>v=.int n/\aj H' Ij) (fun _ _=>False) s')
  (I:Inv X ((pins++[(a,seqObj "list" #[] e1)])++[(kS,seqObj "list" #[] 0)]) σ H s) (h0:X.s₀.heap.get? kS=none) (hc:∀ x c,X.env.cells.lookup x=some c->c≠kS) (hp:∀ p∈X.pn++(pins++[(a,seqObj "list" #[] e1)]),p.1≠kS)
  (hv:Vals xs vs) (hlen:kz.length=vs.length) (HW:vs.length<64)
  (done:∀ H' s' kA e,Inv X ((pins++[(a,seqObj "list" #[] e1)])++[(kS,seqObj "list" kA e)]) σ H' s'->aj H H'->IntsAre kA.toList kz->wpAny (model X.prog X.w) X.A.in1.in1 (ksk_end a b vs.toArray e1 (.ref kS) kA) P E s') :
  wpAny (model X.prog X.w) X.A.in1.in1 (ksk_rest a (.ref f) b vs.toArray e1 (.ref kS)) P E s:=by
 have UY:xs.length=vs.length:=hv.length
 let Wk:Nat->Shared->Prop:=fun i s'=>∃ H' kA e,Inv X ((pins++[(a,seqObj "list" #[] e1)])++[(kS,seqObj "list" kA e)]) σ H' s'/\aj H H'/\IntsAre kA.toList (kz.take i)
 have start:Wk 0 s:=⟨H,#[],0,I,aj.refl _,by rw [take_zero];exact .nil⟩
 have last:∀ s',Wk (0+vs.length) s'->wpAny (model X.prog X.w) X.A.in1.in1 (do let keys <- Builtin.List.listItems (.ref kS);ksk_end a b vs.toArray e1 (.ref kS) keys) P E s':=by
  rintro s' ⟨H',kA,e,I',sm,hk⟩
  rw [Nat.zero_add,abo (le_of_eq hlen)] at hk
  exact aaE (listItems_at (As I') rfl (done H' s' kA e I' sm hk))
 rw [ksk_rest]
 refine aaE (wpAny_rule ?_)
 rw [List.forIn_toArray]
 refine aaE (ksk_fold Wk vs 0 s start (fun j u s' hu w=>?_) last)
 rw [Nat.zero_add] at w ⊢
 obtain ⟨H',kA,e,I',sm,hk⟩:=w
 have hj:=(aaG.mp hu).1
 have UZ:kA.size+1<=64:=by
  have q:=hk.length
  rw [Array.length_toList,abi] at q
  lia
 obtain ⟨u',eu,ru⟩:=hv.get (aaY (UY.symm ▸ hj:j<xs.length))
 cases hu.symm.trans eu
 have hn:kz[j]?=some (kz[j]'(hlen.symm ▸ hj)):=aaY _
 refine aaE (wpAny_attempt (aaU (KC _ H' s' j _ _ _ (fun p hp=>aa0 _ (aa0 _ hp)) (aaY _) hn sm ru I') ?_ fun _ _ no=>no.elim))
 rintro _ s2 ⟨y,H2,I2,ry,rfl,sm2⟩
 obtain ⟨t2,rfl⟩:=ry
 have at2:=As I2
 refine aaE (listUpdate_at at2 rfl ?_ (by rw [sizeLine_eq];lia) (by rw [Array.size_push,sizeLine_eq];lia))
 exact aaT ⟨rfl,H2,_,_,I2.wrote h0 hc hp (Heap.SameBut.update _ _ _) (get?_update_seq at2 _) (fun _ z=>nomatch z),sm.trans sm2,UP hk hn⟩
theorem yJ{a f:Addr}{n:Nat}{b:Bool}{vs:List Value}{xs:List V}{kz:List Int}{P:PySem.Fin->Shared->Prop}{E:Value->Shared->Prop}
  (KC:∀ (fV:List (Addr×Obj)) (H':Hp) (s':Shared) (i:Nat) (x:V) (u:Value) (n:Int),(∀ p∈pins,p∈fV)->xs[i]?=some x->kz[i]?=some n->aj H H'->RelV x u->Inv X fV σ H' s'->wpAny (model X.prog X.w) X.A.in1.in1 (call (.ref f) [u]) (EP X fV σ fun v Ij=>v=.int n/\aj H' Ij) (fun _ _=>False) s') (I:Inv X pins σ H s) (ho:s.heap.get? a=some (seqObj "list" vs.toArray n)) (hfp:j7 X pins H a) (Uq:X.s₀.heap.objs.size<=a)
  (hv:Vals xs vs) (hlen:kz.length=vs.length) (HW:vs.length<64)
  (hP:∀ s' H' ys,aj H H'->H' a=none->Inv X pins σ (upd H' a (.lst ys)) s'->eH b kz xs ys->P (.done (.ret .none)) s') :
  wpAny (model X.prog X.w) X.A.in1.in1 (ksk_tree a (.ref f) b) P E s:=by
 obtain ⟨g0,g1,g2,_,g4,g5⟩:=hfp
 have a0:X.s₀.heap.get? a=none:=Heap.get?_none_of_le Uq
 have s1:=Heap.SameBut.update s.heap a (Obj.mapSeq fun _=>(#[]:Array Value))
 obtain ⟨e1,NR⟩:∃ e1,(s.heap.update a (Obj.mapSeq fun _=>(#[]:Array Value))).get? a=some (seqObj "list" #[] e1):=⟨_,get?_update_seq ho fun _=>#[]⟩
 have I0:Inv X (pins++[(a,seqObj "list" vs.toArray n)]) σ H s:=I.eZ fun p hp=>(aa2.mp hp).elim (fun z=>I.pin p (aaZ _ z)) fun z=>by
  rw [aa1.mp z]
  exact⟨ho,g0,g1,g2,fun v z=>nomatch z⟩
 have I1:Inv X (pins++[(a,seqObj "list" #[] e1)]) σ H { s with heap:=s.heap.update a (Obj.mapSeq fun _=>(#[]:Array Value)),toks:=s.toks }:=I0.wrote a0 g4 g5 s1 NR fun v z=>nomatch z
 unfold ksk_tree
 refine aaE (listItems_at ho rfl ?_)
 refine aaE (listUpdate_at ho rfl ?_ (by rw [abj,sizeLine_eq];lia) (abr _))
 refine aaE (seqEpoch_at NR rfl ?_)
 refine aaE (wpAny_newTuple ?_ (by show vs.length<=_;rw [sizeLine_eq];lia))
 refine aaE (wpAny_newList ?_ (abr _))
 refine wpAny_holding ?_
 generalize SS:s.heap.update a (Obj.mapSeq fun _=>(#[]:Array Value))=h1 at I1
 have lk:h1.objs.size<=(h1.push (seqObj "tuple" vs.toArray 0)).objs.size:=by rw [size_push'];exact Nat.le_succ _
 have I2:Inv X (pins++[(a,seqObj "list" #[] e1)]) σ H { s with heap:=(h1.push (seqObj "tuple" vs.toArray 0)).push (seqObj "list" #[] 0),toks:=s.toks } :=
  I1.kept (t':=s.toks) fun b o q=>aaD _ (aaD _ q)
 have hkn:H (h1.push (seqObj "tuple" vs.toArray 0)).objs.size=none:=I1.aN.fresh lk
 obtain ⟨_,q1,q2,_,q4,q5⟩:j7 X (pins++[(a,seqObj "list" #[] e1)]) H (h1.push (seqObj "tuple" vs.toArray 0)).objs.size:=I1.t7 lk hkn
 have k0:X.s₀.heap.get? (h1.push (seqObj "tuple" vs.toArray 0)).objs.size=none:=Heap.get?_none_of_le (aaJ I1.sz lk)
 have I3:Inv X ((pins++[(a,seqObj "list" #[] e1)])++[((h1.push (seqObj "tuple" vs.toArray 0)).objs.size,seqObj "list" #[] 0)]) σ H { s with heap:=(h1.push (seqObj "tuple" vs.toArray 0)).push (seqObj "list" #[] 0),toks:=s.toks } :=
  I2.eZ fun p hp=>(aa2.mp hp).elim (fun z=>I2.pin p (aaZ _ z)) fun z=>by
   rw [aa1.mp z]
   exact⟨aaI _ rfl,hkn,q1,q2,fun v z=>nomatch z⟩
 refine yI KC I3 k0 q4 q5 hv hlen HW fun H' s' kA e I' sm hk=>?_
 obtain ⟨_,an,_⟩:=I'.pin (a,seqObj "list" #[] e1) (aaZ _ (aa0 _ (aaZ _ (aa1.mpr rfl))))
 exact Et I' ⟨a0,g4,g5⟩ ⟨k0,q4,q5⟩ hk hv hlen HW fun h' tk ys J so=>hP _ H' ys sm an J so
theorem rl{l f:Addr}{xs:List V}{kz:List Int}{Q:VK}
  (KC:∀ (fV:List (Addr×Obj)) (H':Hp) (s':Shared) (i:Nat) (x:V) (u:Value) (n:Int),(∀ p∈pins,p∈fV)->xs[i]?=some x->kz[i]?=some n->aj H H'->RelV x u->Inv X fV σ H' s'->wpAny (model X.prog X.w) X.A.in1.in1 (call (.ref f) [u]) (EP X fV σ fun v Ij=>v=.int n/\aj H' Ij) (fun _ _=>False) s') (I:Inv X pins σ H s) (hs:aW X.K H l xs) (hlen:kz.length=xs.length) (HW:xs.length<64)
  (hQ:∀ p H' ys,aj H H'->H' p=some (.lst ys)->eH false kz xs ys->Q (.ref p) H') :
  wpAny (model X.prog X.w) X.A (call (.builtin "sorted") [.ref l] [(Str.ofString "key",.ref f)]) (EP X pins σ Q) X.xe s:=by
 obtain ⟨vs,hv,pl,_⟩:=I.list hs
 have hl:s.heap.IsList l vs.toArray:=by
  obtain ⟨o,n,h1,h2,h3⟩:=pl
  exact⟨o,h1,h2,n,h3.2⟩
 have hvl:vs.length<64:=by rw [<- hv.length];exact HW
 have UZ:vs.length<=sizeLine:=by rw [sizeLine_eq];lia
 refine call_function_entry_kw kind_sorted plain_sorted entry_sorted (ksk_s1 _ _) ?_
 rw [Builtin.«sorted»]
 refine aaE (m:=checkCount "sorted" 1 1 _) (aaT (aaE (collect_list hl ?_ UZ)))
 generalize hc:(s.heap.push (seqObj "list" #[] 0)).update s.heap.objs.size (Obj.mapSeq (·++vs.toArray))=uC
 have ecol:uC.objs.size=s.heap.objs.size+1:=by rw [<- hc,Heap.size_update,size_push']
 have U0:∀ b o,s.heap.get? b=some o->uC.get? b=some o:=fun b o q=>by
  rw [<- hc,(Heap.SameBut.update _ _ _).2 b (abt (aaH q))]
  exact aaD _ q
 have low:s.heap.objs.size<=uC.objs.size:=by lia
 have I2:Inv X pins σ H { s with heap:=uC.push (seqObj "list" vs.toArray 0),toks:=s.toks }:=I.kept fun b o q=>aaD _ (U0 b o q)
 have own:(uC.push (seqObj "list" vs.toArray 0)).get? uC.objs.size=some (seqObj "list" vs.toArray 0):=aaI _ rfl
 refine aaE (wpAny_newList ?_ UZ)
 refine aaE (wpAny_holding (wpAny_call_entry_kw (s:={ s with heap:=uC.push (seqObj "list" vs.toArray 0) }) slot_list_sort ⟨_,own,rfl⟩ entry_list_sort ?_ (ksk_l1 _ _)))
 show wpAny (model X.prog X.w) X.A.in1.in1 (Builtin.«list.sort» ⟨[.ref uC.objs.size],[(Str.ofString "key",.ref f)]⟩) _ _ _
 rw [ksk_t1]
 refine yJ KC I2 own (I.t7 low (I.aN.fresh low)) (aaJ I.sz low) hv (hlen.trans hv.length) hvl fun s' H' ys sm hn J so=>⟨_,rfl,?_⟩
 exact aaT ⟨_,rfl,.ref uC.objs.size,_,J,rfl,hQ _ _ ys (sm.trans (aj.bf hn)) aw so⟩
end
end L2
namespace L2
open PySem PySem.Spec PyProof.Rows PySem.W
abbrev Ax(X:Cx)(A:Around)(N:List Str)(qual:Str)(scope:Scope)(f:Addr)(cd:Value)(s:Shared)(H:Hp):Cx :=
 { X with A:=A.deeper (envX qual scope s.heap.objs.size f cd (cF X.env.cells scope.names [])),N:=N,s₀:=s,H₀:=H,env:=envX qual scope s.heap.objs.size f cd (cF X.env.cells scope.names []),outer:=X.stack,stack:=envX qual scope s.heap.objs.size f cd (cF X.env.cells scope.names [])::X.stack,ex:=[],fn:=fun _=>false,calm:=true,pn:=[],xe:=fun _ _=>False }
section
variable {X:Cx}{pins:List (Addr×Obj)}{σ:St}{H:Hp}{s:Shared}
theorem EB{A:Around}{f c':Addr}{qual p:Str}{fns:List Str}{ixs:List (Option Nat)}{params:Arguments}{body:Expr}{scope:Scope}{pm mK:Value}{x:V}{u:Value}{te:TE}{Q:VK}
  (I:Inv X pins σ H s) (hd:A.handled=none) (Mr:A.frames=some X.stack) (EC:A.depth<recursionLimit)
  (ho:s.heap.get? f=some (kla_obj "<lambda>" qual params body scope (cF X.env.cells scope.names []) pm c' mK)) (kO:s.heap.CodeRec (.ref c') qual)
  (jm:bindArgs (kla_fn "<lambda>" qual params body scope (cF X.env.cells scope.names []) pm (.ref c') mK) ⟨[u],[]⟩=pure [(p,u)])
  (i5:scope.names.lookup p=some .local) (Ik:scope.isCoroutine=false) (uD:scope.isGenerator=false) (hk:scope.kind=.function) (dw:∀ y∈scope.names,y.2≠.cell)
  (jO:(scope.names.all fun y=>!(y.2 == NameKind.free) || (X.env.cells.lookup y.1).isSome)=true) (vC:jN X scope fns ixs)
  (he:PE (Ax X A (p::fns) qual scope f (.ref c') s H) body te) (r:RelV x u) (h:te (some x::pick ixs σ) H Q) :
  wpAny (model X.prog X.w) A (call (.ref f) [u]) (EP X pins σ Q) (fun _ _=>False) s:=by
 have qP:∀ y∈scope.names,y.2=.free->(X.env.cells.lookup y.1).isSome=true:=fun y hy e=>by
  have z:=all_eq_true.mp jO y hy
  rw [e] at z
  simpa using z
 have cG:∀ x c,(cF X.env.cells scope.names []).lookup x=some c->X.env.cells.lookup x=some c:=ia (fun x c q=>by simp at q)
 have ji:∀ x,scope.names.lookup x=some .free->∃ c,(cF X.env.cells scope.names []).lookup x=some c:=fun x hx=>by
  have hm:=PySem.mem_of_lookup hx
  exact aaS.mp (ib (.inr ⟨hm,qP _ hm rfl⟩))
 refine wpAny_call (codeAny_mono (show codeAny _ _ _ (CR CI X.stack X.prog X.w H s Q E0) s from ?_) fun r s' hq=>?_)
 ·refine kla_callFunE EC ho rfl Ik uD rfl kO ?_
  rw [jm]
  refine aaT (wpAny_newFunctionEnv dw (fun y hy=>by rw [aa1.mp hy];exact i5) (fun h₁ nQ ED=>⟨I.nolimit.fresh _ ED,?_⟩) hk)
  show codeAny _ _ (.expr body (envX qual scope s.heap.objs.size f (.ref c') (cF X.env.cells scope.names []))) _ _
  have old:∀ b o,s.heap.get? b=some o->h₁.get? b=some o:=fun b o e=>ED.extBut b o (abt (aaH e)) (aaD _ e)
  have J:Inv (Ax X A (p::fns) qual scope f (.ref c') s H) [] (some x::pick ixs σ) H { s with heap:=h₁,toks:=s.toks+[(p,u)].length }:=by
   refine⟨⟨I.ok.mod,hk,rfl,rfl,aaK _,fun x y c q1 q2=>I.ok.inj x y c (cG x c q1) (cG y c q2),fun x hx=>?_,fun x c hf _=>absurd hf Bool.false_ne_true,fun _=>hd,Around.frames_deeper Mr,.inr ⟨rfl,rfl⟩,fun b hb=>(nomatch hb),I.bs,aaJ I.ok.qW I.sz,fun b _ _ hb=>(nomatch hb),fun b hb=>(nomatch hb),I.stack,I.eC⟩,
    rfl,I.bare,Un.kept old,⟨_,nQ,fun i y v h1 h2 h3=>?_⟩,fun x c q=>?_,I.aN.fresh (aaK _),fun x c q=>I.dF x c (cG x c q),fun p hp=>(nomatch hp),I.aN.kept old,?_⟩
   ·rcases hx with hx|hx
    ·exact absurd rfl (dw _ (PySem.mem_of_lookup hx))
    ·exact ji x hx
   ·match i with
    | 0 =>
     have e1:p=y:=by simpa using h1
     have e2:x=v:=by simpa using h2
     subst e1
     subst e2
     exact⟨u,r,.inl ⟨i5,by simp⟩⟩
    | i+1 =>
     obtain ⟨j,e1,e2⟩:=kY (show (pick ixs σ)[i]?=some (some v) by simpa using h2)
     obtain ⟨a1,a2,a3,a4⟩:=vC.get (show fns[i]?=some y by simpa using h1) e1
     obtain ⟨mX,Ub,Lg⟩:=I.loc
     obtain ⟨u',ru,l⟩:=Lg j y v a1 e2 a2
     refine⟨u',ru,?_⟩
     rcases l with ⟨l1,_⟩|⟨_,c,lc,z⟩
     ·have Lh:X.env.scope.names.lookup y=some .local:=l1
      rw [Lh] at a3
      exact absurd a3 (by decide)
     ·obtain ⟨c',vI⟩:=ji y a4
      have ec:=cG y c' vI
      rw [lc] at ec
      have Li:c=c':=aaN ec
      subst Li
      exact .inr ⟨.inr a4,c,vI,z.keeps old⟩
   ·obtain ⟨v,z⟩:=I.cell x c (cG x c q)
    exact⟨v,z.keeps old⟩
   ·show (some x::pick ixs σ).length=(p::fns).length
    unfold pick
    rw [length_cons,aa4,length_cons,vC.len]
  refine kla_codeExpr (aaU (he [] _ _ H Q J h) (fun v s' hv=>?_) fun _ _ no=>no.elim)
  obtain ⟨y,H',J',rv,q⟩:=hv
  exact⟨y,H',J'.os,J'.bare,J'.base,J'.aN,rv,q⟩
 ·cases r with
  | error e=>exact hq
  | ok fl =>
   cases fl with
   | ret u=>exact I.after hq
   | next=>exact False.elim hq
   | brk=>exact False.elim hq
   | cont=>exact False.elim hq
end
end L2
namespace L2
open PySem PySem.Spec PyProof.Rows PySem.W
def cX(P:Addr)(H H':Hp):Prop:=∀ b o,b≠P->H b=some o->H' b=some o
def lJ(c:Addr)(q:Str):HO:=.ext fun h=>h.CodeRec (.ref c) q
def fu(P:Addr)(lp:Pos)(q:Str)(H:Hp):Prop:=∃ ps:Array Value,H P=some (.oB ps)/\TriplesOk ps.toList/\(codeAmong lp ps.toList=none\/∃ c,codeAmong lp ps.toList=some (.ref c)/\H c=some (lJ c q))
theorem cX.trans{P:Addr}{H H1 H2:Hp}(a:cX P H H1)(b:cX P H1 H2):cX P H H2:=fun x o n e=>b x o n (a x o n e)
theorem cX.of{P:Addr}{H H1:Hp}(a:aj H H1):cX P H H1:=fun x o _ e=>a x o e
theorem fu.same{P:Addr}{lp:Pos}{q:Str}{H H':Hp}(t:fu P lp q H)(s:aj H H'):fu P lp q H':=by
 obtain ⟨ps,h1,h2,h3⟩:=t
 refine⟨ps,s _ _ h1,h2,h3.imp id fun ⟨c,e,z⟩=>⟨c,e,s _ _ z⟩⟩
def mM(f c:Addr)(qual:Str)(params:Arguments)(body:Expr)(scope:Scope)(cl:List (Str×Addr)):HO :=
 .ext fun h=>∃ pm mK,h.get? f=some (kla_obj "<lambda>" qual params body scope cl pm c mK)
section
variable {X:Cx}{pins:List (Addr×Obj)}{σ:St}{H:Hp}{s:Shared}
theorem wH {c P:Addr} {params:Arguments} {body:Expr} {scope:Scope} {lp:Pos} {Q:VK} (I:Inv X pins σ H s) (T:fu P lp (X.env.qual ++ "<lambda>") H)
  (nR:X.env.code=.ref c) (C:CodeHd X.base c P) (hB:X.base.BuiltinsAt X.mg P) (yK:defaultsOf params X.env=([],[]))
  (jO:(scope.names.all fun y=>!(y.2 == NameKind.free) || (X.env.cells.lookup y.1).isSome)=true)
  (h:∀ f c' H',cX P H H'->fu P lp (X.env.qual ++ "<lambda>") H'->H' f=some (mM f c' (X.env.qual ++ "<lambda>") params body scope (cF X.env.cells scope.names []))->H' c'=some (lJ c' (X.env.qual ++ "<lambda>"))->Q (.ref f) H') :
  wpAny (model X.prog X.w) X.A (eval (.Lambda params body scope lp) X.env) (EP X pins σ Q) X.xe s:=by
 have ym:∀ p∈scope.names,p.2=.free->∃ c,X.env.cells.lookup p.1=some c:=fun y hy e=>by
  have z:=all_eq_true.mp jO y hy
  rw [e] at z
  exact aaS.mp (by simpa using z)
 have pG:=iC ym
 obtain ⟨ps,hP,ht,hc⟩:=T
 have oP:s.heap.get? P=some (tabObj ps):=I.aN P _ hP
 have QB:s.heap.Ns mainGlobals X.mg:=I.mod.glob.keeps I.bk
 have hB':s.heap.BuiltinsAt X.mg P:=by
  obtain ⟨bm,ob,b1,b2,b3,b4,b5,b6⟩:=hB
  exact⟨bm,ob,b1,b2,b3,b4,I.bk _ _ b5,b6⟩
 have QC:∀ {h2:Heap} {f c':Addr} {pm mK:Value} {sc:Scope} {q:Str} {cl:List (Str×Addr)},h2.get? f=some (kla_obj "<lambda>" q params body sc cl pm c' mK)->∀ {H2:Hp},dv X.prog X.w H2 h2 f (mM f c' q params body sc cl):=fun {h2 f c' pm mK sc q cl} e {H2} =>
  ⟨⟨pm,mK,e⟩,⟨_,e⟩,fun h1 h3 ⟨pm,mK,z⟩ k=>⟨pm,mK,k _ z⟩⟩
 refine kla_eval yK ?_
 rcases hc with hn|⟨c',hc,KH⟩
 ·have hgP:mainGlobals≠P:=fun q=>by
   obtain ⟨o,es,ep,e,hd,_⟩:=QB
   rw [q,oP] at e;cases e;cases hd
  refine kla_makeFunction (mg:=X.mg) pG I.ok.glob QB nR (C.keeps I.bk) oP ht hn hgP hB' fun c' mK h' tk hx Lr lD Il htb=>?_
  obtain ⟨ob,NX⟩:∃ ob:Obj,ob=kla_obj "<lambda>" (X.env.qual ++ "<lambda>") params body scope (cF X.env.cells scope.names []) ((X.mg "__name__").getD .none) c' mK:=⟨_,rfl⟩
  have uy:ob.isFreed=false:=by rw [NX];rfl
  have SU:=aaI h' uy
  rw [<- NX]
  have big:s.heap.objs.size<=h'.objs.size:=aaJ Lr (aaL lD)
  have ncP:c'≠P:=Nat.ne_of_gt (Nat.lt_of_lt_of_le (aaH oP) Lr)
  have nfP:h'.objs.size≠P:=Nat.ne_of_gt (Nat.lt_of_lt_of_le (aaH oP) big)
  have ncf:c'≠h'.objs.size:=abt lD
  have old:∀ b o,b≠P->s.heap.get? b=some o->(h'.push ob).get? b=some o:=fun b o n e=>aaD _ (hx b o n e)
  have fc:H c'=none:=I.aN.fresh Lr
  have ff:H h'.objs.size=none:=I.aN.fresh big
  have sP:cX P H (upd (upd (upd H P (.oB (ps++#[rawInt lp.line,rawInt lp.col,.ref c']))) c' (lJ c' (X.env.qual ++ "<lambda>"))) h'.objs.size (mM h'.objs.size c' (X.env.qual ++ "<lambda>") params body scope (cF X.env.cells scope.names []))):=fun b o n e=>by
   rw [au (aF e ff),au (aF e fc),au n]
   exact e
  generalize QD:upd (upd (upd H P (.oB (ps++#[rawInt lp.line,rawInt lp.col,.ref c']))) c' (lJ c' (X.env.qual ++ "<lambda>"))) h'.objs.size (mM h'.objs.size c' (X.env.qual ++ "<lambda>") params body scope (cF X.env.cells scope.names []))=H' at sP
  have eP:H' P=some (.oB (ps++#[rawInt lp.line,rawInt lp.col,.ref c'])):=by rw [<- QD,au (Ne.symm nfP),au (Ne.symm ncP),aw]
  have ec:H' c'=some (lJ c' (X.env.qual ++ "<lambda>")):=by rw [<- QD,au ncf,aw]
  have ef:H' h'.objs.size=some (mM h'.objs.size c' (X.env.qual ++ "<lambda>") params body scope (cF X.env.cells scope.names [])):=by rw [<- QD,aw]
  have no:∀ b,H b=none->b≠h'.objs.size->b≠c'->H' b=none:=fun b n n1 n2=>by
   rw [<- QD,au n1,au n2,au (fun z=>by rw [z,hP] at n;cases n)]
   exact n
  have un:Un X.fs [] H H' s.heap (h'.push ob):=by
   refine⟨fun b o e n _ _=>old b o (fun z=>by rw [z,hP] at n;cases n) e,fun b o e n _ _=>⟨o.slots,old b o (fun z=>by rw [z,hP] at n;cases n) e⟩,fun b o e n _=>no b n (fun z=>?_) (fun z=>?_),fun b o e _=>?_,fun b xs e=>sP b _ (fun z=>by rw [z,hP] at e;cases e) e,fun b o u e=>sP b _ (fun z=>by rw [z,hP] at e;cases e) e,fun b qs e=>?_⟩
   ·exact absurd z (abt (Nat.lt_of_lt_of_le (aaH e) big))
   ·exact absurd z (abt (Nat.lt_of_lt_of_le (aaH e) Lr))
   ·by_cases hb:b=P
    ·subst hb
     exact⟨_,aaD _ htb⟩
    ·exact⟨o,old b o hb e⟩
   ·by_cases hb:b=P
    ·subst hb
     rw [hP] at e
     cases e
     exact⟨_,eP⟩
    ·exact⟨#[],by rw [sP b _ hb e];simp⟩
  have aN:ft X.prog X.w H' (h'.push ob):=fun b o e=>by
   by_cases h1:b=h'.objs.size
   ·subst h1
    rw [ef] at e
    cases e
    exact QC (by rw [SU,NX])
   ·by_cases h2:b=c'
    ·subst h2
     rw [ec] at e
     cases e
     obtain ⟨c2,oc,vs,t,e2,Ol,hd,hv⟩:=Il
     cases e2
     exact⟨⟨_,oc,vs,t,rfl,aaD _ Ol,hd,hv⟩,⟨oc,aaD _ Ol⟩,fun h1 h2 ⟨c3,o3,v3,t3,z1,z2,z3,z4⟩ k=>⟨c3,o3,v3,t3,z1,by cases z1;exact k _ z2,z3,z4⟩⟩
    ·by_cases h3:b=P
     ·subst h3
      rw [eP] at e
      cases e
      exact aaD _ htb
     ·have e0:H b=some o:=by rw [<- QD,au h1,au h2,au h3] at e;exact e
      refine (I.aN b o e0).kN (fun d u hd z=>old d u (fun w=>?_) z) (fun d z=>sP d _ (fun w=>by rw [w,hP] at z;cases z) z) fun d xs z=>sP d _ (fun w=>by rw [w,hP] at z;cases z) z
      rcases hd with rfl|hd
      ·exact h3 w
      ·rw [w,hP] at hd;cases hd
  refine⟨.ref h'.objs.size,H',I.un un aN,rfl,h _ c' H' sP ⟨_,eP,?_,.inr ⟨c',?_,ec⟩⟩ ef ec⟩
  ·rw [Array.toList_append]
   exact TriplesOk_snoc _ _ _ _ ht
  ·rw [Array.toList_append]
   exact codeAmong_snoc _ ht hn
 ·refine kla_makeFunctionHit (mg:=X.mg) pG I.ok.glob QB nR (C.keeps I.bk) oP ht hc hB' fun mK h' tk hk jc=>?_
  obtain ⟨ob,NX⟩:∃ ob:Obj,ob=kla_obj "<lambda>" (X.env.qual ++ "<lambda>") params body scope (cF X.env.cells scope.names []) ((X.mg "__name__").getD .none) c' mK:=⟨_,rfl⟩
  have uy:ob.isFreed=false:=by rw [NX];rfl
  have SU:=aaI h' uy
  have ff:H h'.objs.size=none:=I.aN.fresh jc
  have sm:aj H (upd H h'.objs.size (mM h'.objs.size c' (X.env.qual ++ "<lambda>") params body scope (cF X.env.cells scope.names []))):=aj.bf ff
  refine⟨.ref h'.objs.size,upd H h'.objs.size (mM h'.objs.size c' (X.env.qual ++ "<lambda>") params body scope (cF X.env.cells scope.names [])),I.laid (fun b u e=>aaD _ (hk b u e)) jc (QC (by rw [NX] at SU;exact SU)),rfl,h _ c' _ (cX.of sm) (fu.same ⟨ps,hP,ht,.inr ⟨c',hc,KH⟩⟩ sm) aw (sm _ _ KH)⟩
end
end L2
namespace L2
open PySem PySem.Spec PyProof.Rows PySem.W
section
variable {K:Frag}{H H':Hp}{P a:Addr}{lp:Pos}{q:Str}{xs:List V}
theorem fu.at(t:fu P lp q H):∃ ps,H P=some (.oB ps):=let ⟨ps,h,_⟩:=t;⟨ps,h⟩
theorem cX.seq(s:cX P H H')(t:fu P lp q H)(h:aW K H a xs):aW K H' a xs:=by
 obtain ⟨ps,hP⟩:=t.at
 exact h.imp (fun z=>z.imp (fun e=>s _ _ (fun w=>by rw [w,hP] at e;cases e) e) fun ⟨o,e⟩=>⟨o,s _ _ (fun w=>by rw [w,hP] at e;cases e) e⟩) id
end
def kg(K:Frag)(P:Addr)(lp:Pos)(q:Str)(ixs:List (Option Nat))(te:TE)(σ:St):V->Hp->VK->Prop:=fun x H Q=>∃ (l:Addr) (xs:List V) (kz:List Int),x=.ref l/\aW K H l xs/\kz.length=xs.length/\xs.length<64/\fu P lp q H /\
 (∀ (i:Nat) (x:V) (n:Int),xs[i]?=some x->kz[i]?=some n->∀ H',cX P H H'->te (some x::pick ixs σ) H' (fun v Ij=>v=.int n/\aj H' Ij)) /\
 ∀ p H' ys,cX P H H'->fu P lp q H'->H' p=some (.lst ys)->eH false kz xs ys->Q (.ref p) H'
def yL(K:Frag)(P:Addr)(lp:Pos)(q:Str)(ixs:List (Option Nat))(te:TE)(t:TE):TE:=fun σ H Q=>t σ H fun x H1=>kg K P lp q ixs te σ x H1 Q
section
variable {X:Cx}{k:Nat}{q y:Str}{fns:List Str}{ixs:List (Option Nat)}{params:Arguments}{body:Expr}{scope:Scope}{p lp Dq pos:Pos}{e:Expr}{t te:TE}{c P:Addr}
theorem EE (hq:X.env.qual ++ "<lambda>"=q) (hr:cj (k+2) X.A) (ha:PE X e t) (nR:X.env.code=.ref c) (C:CodeHd X.base c P) (hB:X.base.BuiltinsAt X.mg P)
  (jm:∀ (cl:List (Str×Addr)) (pm mK:Value) (c':Addr) (u:Value),bindArgs (kla_fn "<lambda>" q params body scope cl pm (.ref c') mK) ⟨[u],[]⟩=pure [(y,u)])
  (he:∀ f c' s H,PE (Ax X X.A.in1.in1 (y::fns) q scope f (.ref c') s H) body te)
  (i5:scope.names.lookup y=some .local) (Ik:scope.isCoroutine=false) (uD:scope.isGenerator=false) (hk:scope.kind=.function) (dw:∀ y∈scope.names,y.2≠.cell)
  (jO:(scope.names.all fun y=>!(y.2 == NameKind.free) || (X.env.cells.lookup y.1).isSome)=true) (vC:jN X scope fns ixs) (yK:defaultsOf params X.env=([],[]))
  (hg:Gl X (Str.ofString "sorted")) (hm:X.mg "sorted"=none) (hv:bootBuiltins "sorted"=some (.builtin "sorted"))
  (jh:starEach [e] X.env=(false,eval e X.env)::starEach [] X.env:=by rfl) :
  PE X (.Call (.Name "sorted" p) [e] [⟨some (Str.ofString "key"),.Lambda params body scope lp,Dq⟩] pos) (yL X.K P lp q ixs te t):=by
 subst hq
 intro pins s σ H Q I h
 refine wpAny_Call_Name_kw (iu I hg hm hv ?_ (by decide) (by decide))
 have JY:PA X [e] (pf t yc):=aa ha ah jh
 have U1:PE X (.Lambda params body scope lp) (fun _ H Q=>fu P lp (X.env.qual ++ "<lambda>") H/\∀ f c' H',cX P H H'->fu P lp (X.env.qual ++ "<lambda>") H'->H' f=some (mM f c' (X.env.qual ++ "<lambda>") params body scope (cF X.env.cells scope.names []))->H' c'=some (lJ c' (X.env.qual ++ "<lambda>"))->Q (.ref f) H') :=
  fun pins s σ H Q I h=>wH I h.1 nR C hB yK jO h.2
 have ka:PK X [⟨some (Str.ofString "key"),.Lambda params body scope lp,Dq⟩] (pf _ yc):=GQ U1 K2
 refine callWith_kw (cp (JY pos pins s σ H (fun vs H1=>∃ x,vs=[x]/\kg X.K P lp (X.env.qual ++ "<lambda>") ixs te σ x H1 Q) I ?_) fun us s1 ⟨vs,H1,I1,r,x,ev,q⟩=>?_) (by rw [jh];rfl) (by rw [jh];rfl) rfl rfl
 ·show t σ H fun x H1=>∃ z,[x]=[z]/\kg X.K P lp (X.env.qual ++ "<lambda>") ixs te σ z H1 Q
  have e:(fun (x:V) (H1:Hp)=>∃ z,[x]=[z]/\kg X.K P lp (X.env.qual ++ "<lambda>") ixs te σ z H1 Q)=fun x H1=>kg X.K P lp (X.env.qual ++ "<lambda>") ixs te σ x H1 Q:=by
   funext x H1
   apply propext
   exact⟨fun ⟨z,e,q⟩=>by cases e;exact q,fun q=>⟨x,rfl,q⟩⟩
  rw [e]
  exact h
 ·subst ev
  obtain ⟨u,rfl,ru⟩:=vals1 r
  obtain ⟨l,xs,kz,rfl,hs,h1,h2,tb,turn,hQ⟩:=q
  refine cp (ka pos pins s1 σ H1 (fun zs H2=>∃ f c',zs=[V.ref f]/\cX P H1 H2/\fu P lp (X.env.qual ++ "<lambda>") H2/\H2 f=some (mM f c' (X.env.qual ++ "<lambda>") params body scope (cF X.env.cells scope.names []))/\H2 c'=some (lJ c' (X.env.qual ++ "<lambda>"))) I1 ⟨tb,fun f c' H' a1 a2 a3 a4=>⟨f,c',rfl,a1,a2,a3,a4⟩⟩) fun ws s2 ⟨zs,H2,I2,rz,f,c',ez,sT,tT,ef,ec⟩=>?_
  subst ez
  obtain ⟨w,rfl,rw_⟩:=vals1 rz
  cases rw_
  cases ru
  refine rl (kz:=kz) (xs:=xs) (fun fV H' s' i x u n _ hx hn sm rx I'=>?_) I2 (sT.seq tb hs) h1 h2 fun p H' ys sm hp so=>hQ p H' ys (sT.trans (cX.of sm)) (tT.same sm) hp so
  obtain ⟨⟨pm,mK,eo⟩,_⟩:=I'.aN f _ (sm _ _ ef)
  obtain ⟨eco,_⟩:=I'.aN c' _ (sm _ _ ec)
  exact EB I' (cj.in1 (cj.in1 hr)).hd I'.ok.frames (by have:=(cj.in1 (cj.in1 hr)).dp;lia) eo eco (jm _ _ _ _ _) i5 Ik uD hk dw jO vC (he _ _ _ _) rx (turn i x n hx hn H' (sT.trans (cX.of sm)))
variable {K:Frag}
theorem Bz (K:Frag) (hK:X.K=K) (hq:X.env.qual ++ "<lambda>"=q) (hr:cj (k+2) X.A) (ha:PE X e t) (nR:X.env.code=.ref c) (C:CodeHd X.base c P) (hB:X.base.BuiltinsAt X.mg P)
  (jm:∀ (cl:List (Str×Addr)) (pm mK:Value) (c':Addr) (u:Value),bindArgs (kla_fn "<lambda>" q params body scope cl pm (.ref c') mK) ⟨[u],[]⟩=pure [(y,u)])
  (he:∀ f c' s H,PE (Ax X X.A.in1.in1 (y::fns) q scope f (.ref c') s H) body te)
  (i5:scope.names.lookup y=some .local) (Ik:scope.isCoroutine=false) (uD:scope.isGenerator=false) (hk:scope.kind=.function) (dw:∀ y∈scope.names,y.2≠.cell)
  (jO:(scope.names.all fun y=>!(y.2 == NameKind.free) || (X.env.cells.lookup y.1).isSome)=true) (vC:jN X scope fns ixs) (yK:defaultsOf params X.env=([],[]))
  (hg:Gl X (Str.ofString "sorted")) (hm:X.mg "sorted"=none) (hv:bootBuiltins "sorted"=some (.builtin "sorted"))
  (jh:starEach [e] X.env=(false,eval e X.env)::starEach [] X.env:=by rfl) :
  PE X (.Call (.Name "sorted" p) [e] [⟨some (Str.ofString "key"),.Lambda params body scope lp,Dq⟩] pos) (yL K P lp q ixs te t):=by
 subst hK
 exact EE hq hr ha nR C hB jm he i5 Ik uD hk dw jO vC yK hg hm hv jh
end
section
variable {K:Frag}{H:Hp}{Q:VK}{σ:St}{P:Addr}{lp:Pos}{q:Str}{ixs:List (Option Nat)}{te:TE}
theorem Im{t:TE}(h:t σ H fun x H1=>kg K P lp q ixs te σ x H1 Q):yL K P lp q ixs te t σ H Q:=h
theorem EF{l:Addr}{xs:List V}(kz:List Int)(tb:fu P lp q H)(hs:aW K H l xs)(h1:kz.length=xs.length)(h2:xs.length<64)
  (turn:∀ (i:Nat) (x:V) (n:Int),xs[i]?=some x->kz[i]?=some n->∀ H',cX P H H'->te (some x::pick ixs σ) H' (fun v Ij=>v=.int n/\aj H' Ij))
  (k:∀ p H' ys,cX P H H'->fu P lp q H'->H' p=some (.lst ys)->eH false kz xs ys->Q (.ref p) H'):kg K P lp q ixs te σ (.ref l) H Q:=⟨l,xs,kz,rfl,hs,h1,h2,tb,turn,k⟩
end
end L2
namespace L2
open PySem PySem.Spec PyProof.Rows PySem.W
def EG(tabs:List (Addr×Addr))(H:Hp):Prop:=∀ q∈tabs,H q.2=some (.oB #[])
def rn(K:Frag)(mg:Str->Option Value)(x:Str)(st:Stmt)(ps:List Str)(c:Addr):Prop :=
 ∃ (f:Addr) (fd:FuncData) (oc:Value) (od:Option Addr) (kV doc pm:Value) (an:Option Addr) (ct:Value) (zZ:Array (Option Value)),fd=fnOf x x (aE st) (az st) (ak st) .none kV doc pm an (.ref c) ct/\K.lookup f=some ⟨oc,od,.func fd,zZ⟩/\codeIn K (.ref c) x=true/\keepIn K (.ref f)=true/\mg x=some (.ref f)/\Binds K fd ps []
section
variable {Pr:Program}{w:World}{K:Frag}{mg:Str->Option Value}{base:Heap}
theorem rn.ok{x:Str}{st:Stmt}{N ps:List Str}{k:Nat}{sp:Sp}{c:Addr}(D:rn K mg x st ps c)(S:aA N ps (ak st))(len:∀ vs H Q E,sp vs H Q E->vs.length=ps.length)
  (fZ:∀ (f:Addr) (A:Around) (outer:List Env) (s:Shared) (H:Hp) (vs:List V) (Q:VK) (E:XK),cj k (A.deeper (envOfC x (ak st) s.heap.objs.size f (.ref c)))->sp vs H Q E ->
   ∃ t,oE (iz CI Pr w K mg base N x (ak st) f (.ref c) A outer s H E).Gb (az st) t/\t { nx:=fun _ H'=>Q .dB H',rt:=Q } (start N vs) H):Ok Pr w K mg base (k+1) x ps sp:=by
 obtain ⟨f,fd,oc,od,kV,doc,pm,an,ct,zZ,rfl,lk,kO,U2,hm,hb⟩:=D
 refine⟨f,_,vP lk kO S len fun A outer s H vs Q E hr z0=>?_,hm,U2,hb⟩
 obtain ⟨t,h,q⟩:=fZ f A outer s H vs Q E hr z0
 exact⟨t,h.Gb,q⟩
end
end L2
namespace L2
open PySem PySem.Spec PyProof.Rows PySem.W
def dX(K:Frag)(y:Str):Addr:=((tabIn K y).getD (0,0)).2
theorem uE{K:Frag}{y:Str}{c P:Addr}(h:tabIn K y=some (c,P)):dX K y=P:=by unfold dX;rw [h];rfl
open PySem PySem.Spec PyProof.Rows
def SV(hi:Int)(n:Nat):It:=⟨fun i _=>i<n,fun i H x H'=>H'=H/\x=.int (hi - i),fun i _=>n<=i⟩
theorem BA{P:Program}{w:World}{K:Frag}{tg:Expr}(it:Addr)(hi:Int)(n:Nat):Turn P w K tg (SV hi n) [it] it (fun i h=>IsRangeIter h it (hi+(i:Nat)*(-1)) ((n:Int) - (i:Nat)) (-1)) where
 mem:=by simp
 obj:=fun i h st b hb=>by
  obtain rfl:b=it:=by simpa using hb
  exact⟨_,st,fun v z=>nomatch (show Data.fields _=Data.cell v from z)⟩
 keep:=fun i h h' st k=>k it (by simp) _ st
 item:=by
  intro X hP hw hK hc i pins s σ H E I hf st hg
  subst hP hw hK
  obtain ⟨f0,f1,f2,f3,f4,f5⟩:=hf it (by simp)
  have WD:=Walks.range (prog:=X.prog) (w:=X.w) (I.ok.hd hc) it hi (-1) n
  refine WD.item i s _ _ hg st fun v h' tk hv Dd kk=>?_
  obtain ⟨t,rfl⟩:=hv
  have ID:Inv X pins σ H { s with heap:=h',toks:=tk }:=I.turned (fun b o hb e=>kk b o (by simpa using hb) e) f0 f1 f3 f4 f5
  refine⟨_,rfl,zU (s:={ s with heap:=h',toks:=tk }) (n:="range_iterator") Dd rfl rfl (by decide) ⟨.int (hi - i),H,ID,⟨t,?_⟩,⟨rfl,rfl⟩,Dd,fun b hb=>(hf b hb).1⟩⟩
  rw [show hi+(i:Int)*(-1)=hi - i by lia]
 done:=by
  intro X hP hw hK hc i pins s σ H E I hf st hg
  subst hP hw hK
  obtain ⟨f0,f1,f2,f3,f4,f5⟩:=hf it (by simp)
  exact wpAny_pyNext_range_end (I.ok.hd hc) st (by have nP:n<=i:=hg;lia) fun h' eb=>⟨rfl,I.turned (t':=s.toks) (fun b o hb e=>eb b o hb e) f0 f1 f3 f4 f5⟩
 self:=fun _ _ _ _ _ st h=>wpAny_pyIter_rangeiter st h
theorem tK(a b:Int):Builtin.Range.rangeSize a b (-1)=if b<a then a - b else 0:=by
 unfold Builtin.Range.rangeSize
 simp only [show ¬ ((-1:Int) > 0) by decide,if_false,Int.neg_neg,Int.ediv_one]
 split <;> lia
theorem small_down{a b:Int}(ha:-1000000<=a/\a<=1000000)(hb:-1000000<=b/\b<=1000000):Builtin.Range.small a b (-1)=true:=by
 unfold Builtin.Range.small
 rw [tK]
 simp only [Builtin.Range.rangeFitsLong,Bool.and_eq_true,Bool.or_eq_true,decide_eq_true_eq,beq_iff_eq,show ¬ ((-1:Int) > 0) by decide,if_false]
 split <;> lia
section
variable {X:Cx}{tg:Expr}
def Ms:List V->Hp->(It->Hp->Prop)->Prop:=fun vs H R=>∃ i j:Int,vs=[.int i,.int j,.int (-1)]/\(-1000000<=i/\i<=1000000)/\(-1000000<=j/\j<=1000000)/\R (SV i (i - j).toNat) H
def J1(ta:TA):TI:=fun σ H R=>ta σ H fun vs H1=>Ms vs H1 R
theorem BB {a b c:Expr} {ta:TA} {p pos:Pos} (hg:Gl X "range") (hm:X.mg "range"=none) (ha:PA X [a,b,c] ta) (hs:starEach [a,b,c] X.env=[(false,eval a X.env),(false,eval b X.env),(false,eval c X.env)]:=by rfl) (eL:starEach [b,c] X.env=[(false,eval b X.env),(false,eval c X.env)]:=by rfl) :
  PI X tg (.Call (.Name "range" p) [a,b,c] [] pos) (J1 ta):=by
 intro pins s σ H R I h
 refine Call_ (iu I hg hm boot_range (callWith_type1 (cp (ha pos pins s σ H _ I h) fun us s1 ⟨vs,H1,I1,r1,q1⟩=>?_) (by rw [hs,eL]) (by rw [eL];rfl)))
 obtain ⟨i,j,e,hi,hj,q⟩:=q1
 subst e
 cases r1 with
 | cons r rr =>
  cases rr with
  | cons r' rr =>
   cases rr with
   | cons r'' rr =>
    cases rr
    obtain ⟨t,rfl⟩:=r
    obtain ⟨t',rfl⟩:=r'
    obtain ⟨SW,rfl⟩:=r''
    refine call_range_3 (by decide) ?_ (Or.inl (PyProof.noPylong_of_log2 (by decide +kernel)))
    refine wpAny_pyIter_range (IsRange.new ..) (small_down hi hj) ?_
    have ID:Inv X pins σ H1 { s1 with heap:=s1.heap.push { cls:=.type "range",data:=.fields #[.int i t,.int j t',.int (-1) SW] },toks:=s1.toks }:=I1.kept fun b o e=>aaD _ e
    refine⟨(s1.heap.push { cls:=.type "range",data:=.fields #[.int i t,.int j t',.int (-1) SW] }).objs.size,[(s1.heap.push { cls:=.type "range",data:=.fields #[.int i t,.int j t',.int (-1) SW] }).objs.size],_,_,H1,rfl,
     ID.kept (t':=s1.toks) fun b o e=>aaD _ e,BA _ i (i - j).toNat,?_,fun b hb=>?_,q⟩
    ·have e1:i+((0:Nat):Int)*(-1)=i:=by simp
     have e2:(((i - j).toNat:Nat):Int) - ((0:Nat):Int)=Builtin.Range.rangeSize i j (-1):=by rw [tK];split <;> lia
     show IsRangeIter _ _ (i+((0:Nat):Int)*(-1)) ((((i - j).toNat:Nat):Int) - ((0:Nat):Int)) (-1)
     rw [e1,e2]
     exact aaI _ rfl
    ·obtain rfl:b=(s1.heap.push { cls:=.type "range",data:=.fields #[.int i t,.int j t',.int (-1) SW] }).objs.size:=by simpa using hb
     exact ID.t7 (aaK _) (ID.aN.fresh (aaK _))
end
section
variable {H:Hp}{σ:St}{R:It->Hp->Prop}
theorem Io{ts:TA}(h:ts σ H fun vs H1=>Ms vs H1 R):J1 ts σ H R:=h
theorem Mt{i j:Int}(h1:-1000000<=i/\i<=1000000)(h2:-1000000<=j/\j<=1000000)(h:R (SV i (i - j).toNat) H):Ms [.int i,.int j,.int (-1)] H R:=⟨i,j,rfl,h1,h2,h⟩
variable {g:TG}{D:Ends}
theorem Mu{hi:Int}{n:Nat}{tb:TS}(Pv:Nat->St->Hp->Prop)(h0:Pv 0 σ H)(hs:∀ i σ H2,i<n->Pv i σ H2->g (.int (hi - i)) σ H2 fun σ2 H4=>tb { D with nx:=Pv (i+1),ct:=Pv (i+1),bk:=D.nx } σ2 H4)(hd:∀ σ H2,Pv n σ H2->D.nx σ H2):gI g tb D (SV hi n) σ H:=by
 refine tF n Pv h0 (fun i σ H2 hi _=>hi) (fun σ H2 _=>aaK _) (fun i x σ H2 H3 hi p y=>?_) hd
 obtain ⟨rfl,rfl⟩:=y
 exact hs i σ _ hi p
end
theorem wI{α:Type}{rs:List α}{f:α->Bool}{i:Nat}{r:α}(h:rs[i]?=some r):(rs.take (i+1)).filter f=(rs.take i).filter f++(if f r then [r] else []):=by
 rw [take_add_one,h,filter_append]
 cases e:f r <;> simp [e]
theorem BC{α β:Type}{rs:List α}{g:α->β}{i:Nat}{r:α}(h:rs[i]?=some r):(rs.take (i+1)).map g=(rs.take i).map g++[g r]:=by
 rw [take_add_one,h,abl]
 rfl
section
variable {K:Frag}{H:Hp}{σ:St}{Q:VK}{ix:List (Option Nat)}{l:Addr}{xs:List V}{rs:List (List Int)}
theorem fg{tt:TT}{te:TE}(fr:St)(f:List Int->Bool)(ka:pick ix σ=none::fr)(hl:aW K H l xs)(hr:aK K H xs rs)(hn:rs.length<=1000)
  (test:∀ (a:Addr) (r:List Int) (H':Hp) (Qt:Bool->Hp->Prop),r∈rs->aj H H'->aR K H' a (r.map V.int)->(∀ H5,aj H' H5->Qt (f r) H5)->tt (some (.ref a)::fr) H' Qt)
  (elt:∀ (a:Addr) (H':Hp) (Qc:VK),aj H H'->Qc (.ref a) H'->te (some (.ref a)::fr) H' Qc)
  (hQ:∀ l2 H' ys,H l2=none->aj H H'->H' l2=some (.lst ys)->aK K H' ys (rs.filter f)->Q (.ref l2) H'):bG ix (bW 0) tt te σ Q (GG K l) H:=by
 have hlen:=hr.length
 refine tG (K:=K) 1 fr rs.length (fun i=>(rs.take i).filter f) ka rfl (fun i=>aaJ (aaW _ _) (aaJ (List.length_take_le' _ _) hn)) (fun H' s=>⟨xs,s.seq hl,by lia⟩) (fun i H' hi s=>⟨xs,xs[i]'(by lia),s.seq hl,aaY (by lia)⟩) (fun i x H' H2 own ho hi s hy Qy Qn ky kn=>?_) (fun l2 H' ys a b c d=>hQ l2 H' ys a b c (by rw [abh] at d;exact d))
 obtain ⟨o1,rfl⟩:∃ o1,own=[o1]:=by match own,ho with|[o1],_=>exact⟨o1,rfl⟩
 obtain ⟨rfl,e⟩:=hy
 obtain ⟨a,r,rfl,ha,nM⟩:=hr.get (e xs (s.seq hl))
 have lH:r∈rs:=by
  obtain ⟨h1,h2⟩:=aaG.mp nM
  rw [<- h2]
  exact abw h1
 have et:=wI (f:=f) nM
 dsimp only [bW]
 refine test a r _ _ lH s (s.at ha) fun H5 s5=>?_
 cases ef:f r with
 | true =>
  rw [ef] at et
  rw [if_pos rfl]
  exact elt a H5 _ (s.trans s5) (ky [some (.ref a)] a r H5 rfl s5 ((s.trans s5).at ha) et)
 | false =>
  rw [ef] at et
  rw [if_neg (by decide)]
  exact kn [some (.ref a)] H5 rfl s5 (by rw [et];simp)
theorem kh{te:TE}(fr:St)(g:List Int->List Int)(ka:pick ix σ=none::fr)(hl:aW K H l xs)(hr:aK K H xs rs)(hn:rs.length<=1000)
  (elt:∀ (a:Addr) (r:List Int) (H':Hp) (Qc:VK),r∈rs->aj H H'->aR K H' a (r.map V.int)->(∀ p H5,aj H' H5->aR K H5 p ((g r).map V.int)->Qc (.ref p) H5)->te (some (.ref a)::fr) H' Qc)
  (hQ:∀ l2 H' ys,H l2=none->aj H H'->H' l2=some (.lst ys)->aK K H' ys (rs.map g)->Q (.ref l2) H'):bG ix (bW 0) (fun _ H Q=>Q true H) te σ Q (GG K l) H:=by
 have hlen:=hr.length
 refine tG (K:=K) 1 fr rs.length (fun i=>(rs.take i).map g) ka rfl (fun i=>by rw [aa4];exact aaJ (List.length_take_le' _ _) hn) (fun H' s=>⟨xs,s.seq hl,by lia⟩) (fun i H' hi s=>⟨xs,xs[i]'(by lia),s.seq hl,aaY (by lia)⟩) (fun i x H' H2 own ho hi s hy Qy Qn ky kn=>?_) (fun l2 H' ys a b c d=>hQ l2 H' ys a b c (by rw [abh] at d;exact d))
 obtain ⟨o1,rfl⟩:∃ o1,own=[o1]:=by match own,ho with|[o1],_=>exact⟨o1,rfl⟩
 obtain ⟨rfl,e⟩:=hy
 obtain ⟨a,r,rfl,ha,nM⟩:=hr.get (e xs (s.seq hl))
 have lH:r∈rs:=by
  obtain ⟨h1,h2⟩:=aaG.mp nM
  rw [<- h2]
  exact abw h1
 dsimp only [bW]
 rw [if_pos rfl]
 exact elt a r _ _ lH s (s.at ha) fun p H5 s5 hp=>ky [some (.ref a)] p (g r) H5 rfl s5 hp (BC nM)
end
end L2
namespace L2
open PySem PySem.Spec PyProof.Rows PySem.W
theorem aK.Mv{K:Frag}{H:Hp}{xs:List V}{r:List Int}{rs:List (List Int)}(h:aK K H xs (r::rs)):∃ a ys,xs=.ref a::ys/\aR K H a (r.map V.int)/\aK K H ys rs:=by
 cases h with
 | cons h t=>exact⟨_,_,rfl,h,t⟩
open PySem PySem.Spec PyProof.Rows
theorem QE{i j:Nat}{ta:TA}{D:Ends}{σ:St}{H:Hp}(h:ta σ H fun vs H1=>∃ v w,vs=[v,w]/\D.nx ((σ.set i (some v)).set j (some w)) H1):OA i j ta D σ H:=h
theorem QF{F:V->V->Prop}{x y:V}(h:F x y):∃ v w,[x,y]=[v,w]/\F v w:=⟨x,y,rfl,h⟩
theorem EH{K:Frag}{D:Ends}{σ:St}{H:Hp}{k:Bool}{a:Addr}{xs:List V}{m n:Nat}{tb:TS}(Pv:Nat->St->Hp->Prop)(h0:Pv 0 σ H)(ha:∀ i σ H2,Pv i σ H2->Sq k K H2 a xs)
  (hs:∀ (i:Nat) x σ H2 H3,xs[i]?=some x->Pv i σ H2->aj H2 H3->tb { D with nx:=Pv (i+1),ct:=Pv (i+1),bk:=D.nx } ((σ.set m (some (.int i))).set n (some x)) H3)
  (hd:∀ σ H2,Pv xs.length σ H2->D.nx σ H2):gI (t6 K 2 (fL (bW m) (fL (bW n) vL))) tb D (NW K k a) σ H:=by
 refine tF xs.length Pv h0 (fun i σ H2 hi p=>⟨_,xs[i],ha i σ H2 p,aaY hi⟩) (fun σ H2 p=>⟨_,ha _ σ H2 p,aaK _⟩) (fun i x σ H2 H3 hi p y=>?_) hd
 obtain ⟨q,x',rfl,hp,e1,rfl⟩:=y
 have g1:=e1 _ (ha i σ _ p)
 refine⟨q,_,rfl,aR.of aw,rfl,_,_,rfl,_,_,rfl,rfl,?_⟩
 exact hs i x' σ _ _ g1 p (aj.bf hp)
theorem aj.new{a:Addr}{H H':Hp}(s:aj H H')(n:H' a=none):H a=none:=by
 match e:H a with
 | none=>rfl
 | some o =>
  rw [s a o e] at n
  cases n
theorem fu.off{P l:Addr}{lp:Pos}{q:Str}{H:Hp}{ys zs:List V}(t:fu P lp q H)(e:H l=some (.lst ys)):fu P lp q (upd H l (.lst zs)):=by
 obtain ⟨ps,h1,h2,h3⟩:=t
 refine⟨ps,by rw [au (fun z=>by rw [z,e] at h1;cases h1)];exact h1,h2,h3.imp id fun ⟨c,z,y⟩=>⟨c,z,by rw [au (fun z=>by rw [z,e] at y;cases y)];exact y⟩⟩
theorem yM{K:Frag}{D:Ends}{σ:St}{H:Hp}{k1 k2:Bool}{a b:Addr}{xs ys:List V}{m n:Nat}{tb:TS}(hlen:xs.length=ys.length)(Pv:Nat->St->Hp->Prop)(h0:Pv 0 σ H)(ha:∀ i σ H2,Pv i σ H2->Sq k1 K H2 a xs/\Sq k2 K H2 b ys)
  (hs:∀ (i:Nat) x y σ H2 H3,xs[i]?=some x->ys[i]?=some y->Pv i σ H2->aj H2 H3->tb { D with nx:=Pv (i+1),ct:=Pv (i+1),bk:=D.nx } ((σ.set m (some x)).set n (some y)) H3)
  (hd:∀ σ H2,Pv xs.length σ H2->D.nx σ H2):gI (t6 K 2 (fL (bW m) (fL (bW n) vL))) tb D (Ll K k1 k2 a b) σ H:=by
 refine tF xs.length Pv h0 (fun i σ H2 hi p=>?_) (fun σ H2 p=>?_) (fun i x σ H2 H3 hi p hy=>?_) hd
 ·exact⟨_,_,xs[i],ys[i]'(hlen ▸ hi),(ha i σ H2 p).1,(ha i σ H2 p).2,aaY hi,aaY (hlen ▸ hi)⟩
 ·exact⟨_,_,(ha _ σ H2 p).1,(ha _ σ H2 p).2,.inl (aaK _)⟩
 ·obtain ⟨q,x',y',rfl,hq,e1,e2,rfl⟩:=hy
  refine⟨q,_,rfl,aR.of aw,rfl,_,_,rfl,_,_,rfl,rfl,?_⟩
  exact hs i x' y' σ _ _ (e1 _ (ha i σ _ p).1) (e2 _ (ha i σ _ p).2) p (aj.bf hq)
section
variable {K:Frag}{H:Hp}{σ:St}{Q:VK}{ix:List (Option Nat)}
theorem eI{J:It}{g:TG}{tt:TT}{te:TE}(t:Nat)(fr:St)(n:Nat)(Pv:Addr->Nat->List V->Hp->Prop)(ka:pick ix σ=List.replicate t none++fr)
  (h0:∀ l H',H l=none->aj H H'->H' l=some (.lst [])->Pv l 0 [] H') (hn:∀ l i ys H',Pv l i ys H'->ys.length<=1000)
  (lC:∀ H',aj H H'->J.stop n H') (G4:∀ i H',i<n->aj H H'->J.go i H')
  (step:∀ l i x H' H2 own ys,own.length=t->i<n->H l=none->aj H H'->H' l=some (.lst ys)->Pv l i ys H'->J.GF i H' x H2->∀ (Qy:St->VK) (Qn:St->Hp->Prop),
   (∀ iF v H5,iF.length=t->aj H' H5->Pv l (i+1) (ys++[v]) (upd H5 l (.lst (ys++[v])))->Qy (iF++fr) v H5)->(∀ iF H4,iF.length=t->aj H' H4->Pv l (i+1) ys H4->Qn (iF++fr) H4) ->
   g x (own++fr) H2 fun σ2 H3=>tt σ2 H3 fun b H4=>if b=true then te σ2 H4 (Qy σ2) else Qn σ2 H4)
  (hQ:∀ l H' ys,H l=none->aj H H'->H' l=some (.lst ys)->Pv l n ys H'->Q (.ref l) H'):bG ix g tt te σ Q J H:=by
 intro l hl
 refine⟨fun i m σ1 ys H'=>m=n - i/\i<=n/\(∃ own:St,own.length=t/\σ1=own++fr)/\aj H H'/\H' l=some (.lst ys)/\Pv l i ys H',⟨n,by simp,abr _,⟨_,length_replicate,ka⟩,aj.bf hl,aw,h0 l _ hl (aj.bf hl) aw⟩,?_⟩
 rintro i m σ1 ys H' ⟨rfl,hi,⟨own,ho,rfl⟩,hs,d6,hp⟩
 refine⟨d6,?_⟩
 by_cases lD:i<n
 ·refine .inr ⟨G4 i H' lD hs,n - (i+1),by lia,fun x H2 hy=>step l i x H' H2 own ys ho lD hl hs d6 hp hy _ _ (fun iF v H5 qY s5 hp5=>?_) fun iF H4 qY s4 U3=>?_⟩
  ·have l5:=s5 _ _ d6
   refine⟨l5,abb (hn l i ys H' hp) (el (aaK 1000)),rfl,lD,⟨iF,qY,rfl⟩,fun b o e=>?_,aw,hp5⟩
   rw [au (aF e hl)]
   exact s5 _ _ (hs _ _ e)
  ·exact⟨rfl,lD,⟨iF,qY,rfl⟩,hs.trans s4,s4 _ _ d6,U3⟩
 ·obtain rfl:i=n:=by lia
  exact .inl ⟨lC H' hs,hQ l H' ys hl hs d6 hp⟩
end
inductive bM(H:Hp):List V->List (List Int)->Prop where
 | nil:bM H [] []
 | cons {a:Addr} {r:List Int} {xs:List V} {rs:List (List Int)} (h:H a=some (.lst (r.map V.int))) (t:bM H xs rs):bM H (.ref a::xs) (r::rs)
namespace bM
variable {H H':Hp}
theorem length:∀ {xs:List V} {rs:List (List Int)},bM H xs rs->rs.length=xs.length
 | _,_,.nil=>rfl
 | _,_,.cons _ t=>by rw [length_cons,length_cons,t.length]
theorem get:∀ {xs:List V} {rs:List (List Int)} {i:Nat} {x:V},bM H xs rs->xs[i]?=some x->∃ a r,x=.ref a/\H a=some (.lst (r.map V.int))/\rs[i]?=some r
 | _,_,_,_,.nil,h=>by simp at h
 | _,_,0,_,.cons (a:=a) (r:=r) h _,e=>by
  simp at e
  exact⟨a,r,e.symm,h,rfl⟩
 | _,_,i+1,_,.cons _ t,e=>by
  obtain ⟨a,r,h1,h2,h3⟩:=get (i:=i) t (by simpa using e)
  exact⟨a,r,h1,h2,by simpa using h3⟩
theorem same:∀ {xs:List V} {rs:List (List Int)},bM H xs rs->aj H H'->bM H' xs rs
 | _,_,.nil,_=>.nil
 | _,_,.cons h t,s=>.cons (s _ _ h) (t.same s)
theorem append:∀ {xs ys:List V} {rs qs:List (List Int)},bM H xs rs->bM H ys qs->bM H (xs++ys) (rs++qs)
 | _,_,_,_,.nil,u=>u
 | _,_,_,_,.cons h t,u=>.cons h (t.append u)
theorem off{l:Addr}{o:HO}:∀ {xs:List V} {rs:List (List Int)},bM H xs rs->(∀ x∈xs,x≠.ref l)->bM (upd H l o) xs rs
 | _,_,.nil,_=>.nil
 | _,_,.cons (a:=a) h t,n=>.cons (by rw [au (fun z=>n (.ref a) (.head _) (by rw [z]))];exact h) (t.off fun x hx=>n x (.tail _ hx))
end bM
section
variable {K:Frag}{H:Hp}{σ:St}{Q:VK}{ix:List (Option Nat)}{l:Addr}{xs:List V}{rs:List (List Int)}
theorem yN{tt:TT}{te:TE}{r:List Int}(fr:St)(f:Nat->Bool)(ka:pick ix σ=none::none::fr)(hl:aR K H l (r.map V.int))(hn:r.length<=1000)
  (U4:∀ (i:Nat) (H':Hp) (Qt:Bool->Hp->Prop),i<r.length->aj H H'->Qt (f i) H'->tt (some (.int i)::some (.int (r.getD i 0))::fr) H' Qt)
  (elt:∀ (i:Nat) (H':Hp) (Qc:VK),aj H H'->Qc (.int i) H'->te (some (.int i)::some (.int (r.getD i 0))::fr) H' Qc)
  (hQ:∀ l2 H',H l2=none->aj H H'->H' l2=some (.lst ((((List.range r.length).filter f).map fun (i:Nat)=>(i:Int)).map V.int))->Q (.ref l2) H'):bG ix (t6 K 2 (fL (bW 0) (fL (bW 1) vL))) tt te σ Q (NW K true l) H:=by
 refine eI 2 fr r.length (fun l i ys H'=>ys=(((List.range i).filter f).map fun (i:Nat)=>(i:Int)).map V.int/\i<=r.length) ka (fun l H' _ _ _=>⟨rfl,abr _⟩) (fun l i ys H' h=>by rw [h.1,aa4,aa4];exact aaJ (aaW _ _) (by rw [abf];lia)) (fun H' s=>⟨_,gh (s.at hl),by simp⟩) (fun i H' hi s=>⟨_,_,gh (s.at hl),int_at hi⟩) (fun l' i x H' H2 own ys ho hi wJ s d6 hp hy Qy Qn ky kn=>?_) (fun l2 H' ys a b c d=>hQ l2 H' a b (by rw [c,d.1]))
 obtain ⟨o1,o2,rfl⟩:∃ o1 o2,own=[o1,o2]:=by match own,ho with|[o1,o2],_=>exact⟨o1,o2,rfl⟩
 obtain ⟨q,x',rfl,hq,e1,rfl⟩:=hy
 obtain ⟨rfl,_⟩:=bY (e1 _ (gh (s.at hl)))
 have s2:=aj.bf (o:=.tup [.int (i:Nat),.int (r.getD i 0)]) hq
 refine⟨q,_,rfl,aR.of aw,rfl,_,_,rfl,_,_,rfl,rfl,?_⟩
 refine U4 i _ _ hi (s.trans s2) ?_
 cases ef:f i with
 | true =>
  rw [if_pos rfl]
  refine elt i _ _ (s.trans s2) (ky [some (.int i),some (.int (r.getD i 0))] _ _ rfl s2 ⟨?_,hi⟩)
  rw [range_succ,filter_append,hp.1]
  simp [ef]
 | false =>
  rw [if_neg (by decide)]
  refine kn [some (.int i),some (.int (r.getD i 0))] _ rfl s2 ⟨?_,hi⟩
  rw [range_succ,filter_append,hp.1]
  simp [ef]
end
end L2
namespace HT
open PySem PySem.Spec PyProof.Rows
section
variable {prog:Program}{w:World}{A:Around}{E:Value->Shared->Prop}{s:Shared}
theorem lK{t sl:Addr}{items:Array Value}{vl vu:Value}{lo hi:Option Int}{Q:Value->Shared->Prop}(ht:IsTup s.heap t items)(JW:s.heap.IsSliceOf sl vl vu .none)(pl:IsPart vl lo)(pu:IsPart vu hi)
  (hw:dU items.size 0 lo=0/\dU items.size items.size hi=items.size) (h:Q (.ref t) s):wpAny (model prog w) A (getItem (.ref t) (.ref sl)) Q E s:=by
 obtain ⟨os,K5,Sx,OM⟩:=id JW
 have TV:s.TypeIs (.ref sl) "slice":=⟨os,K5,Sx⟩
 unfold getItem
 try with_reducible refine wpAny_holding ?_
 first|refine aaE (aaT ?_)|skip
 refine aaE (wpAny_sequenceKey ht.typeIs (by decide) ?_)
 refine aaE (wpAny_callSpecial?_slot (name:=Str.ofString "__getitem__") ht.typeIs PyProof.Rows.slot_tuple_getitem
  (wpAny_call_entry PyProof.Rows.slot_tuple_getitem ht.typeIs entry_tuple_getitem ?_ (args_tuple_getitem _ _)))
 show wpAny _ _ (Builtin.Tuple.tupleItemsOf (.ref t) >>= _) _ _ s
 refine aaE (tupleItemsOf_ ht ?_)
 refine aaE (wpAny_typeOf TV ?_)
 rw [if_pos (by decide)]
 refine aaE (hU JW pl pu ?_)
 have U5:(((dU items.size 0 lo:Nat):Int) == 0 && (1:Int) == 1 && (dU items.size items.size hi - dU items.size 0 lo) == items.size)=true:=by
  rw [hw.1,hw.2]
  simp
 show wpAny _ _ (if (((dU items.size 0 lo:Nat):Int) == 0 && (1:Int) == 1 && (dU items.size items.size hi - dU items.size 0 lo) == items.size)=true then _ else _) _ _ s
 rw [if_pos U5]
 refine aaE ?_
 unfold Builtin.Tuple.tupleIsExact
 refine aaE (wpAny_typeOf ht.typeIs (aaT ?_))
 rw [if_pos (by decide)]
 refine aaE (wpAny_rule ?_)
 first
  | exact aaT ⟨_,rfl,aaT h⟩
  | exact aaE (aaT (aaT ⟨_,rfl,aaT h⟩))
end
end HT
namespace L2
open PySem PySem.Spec PyProof.Rows
section
variable {X:Cx}{K:Frag}{H:Hp}{Q:VK}
def Mw(K:Frag):V->Option Int->Option Int->Hp->VK->Prop:=fun x lo hi H Q=>∃ a xs,x=.ref a/\aR K H a xs/\((HT.dU xs.length 0 lo=0/\HT.dU xs.length xs.length hi=xs.length/\Q (.ref a) H)\/Du K x lo hi H Q)
theorem Ip:K6 X (Mw X.K):=by
 intro pins s σ H x v vl vu lo hi sl Q I rx hs pl pu h
 obtain ⟨a,xs,rfl,hx,⟨h1,h2,q⟩|h⟩:=h
 ·cases rx
  obtain ⟨its,r,ht,hz⟩:=I.tuple hx
  have hlen:its.toArray.size=xs.length:=by rw [abj];exact r.length.symm
  refine⟨"tuple",_,PyProof.Rows.slot_tuple_getitem.lookup,ht.typeIs,?_⟩
  exact HT.lK ht hs pl pu (by rw [hlen];exact⟨h1,h2⟩) ⟨.ref a,H,I,rfl,q⟩
 ·exact Dv pins s σ H _ v vl vu lo hi sl Q I rx hs pl pu h
theorem pT(K:Frag)(hK:X.K=K):K6 X (Mw K):=hK ▸ Ip
theorem EI{a:Addr}{xs:List V}{lo hi:Option Int}(e:aR K H a xs)(h:∀ p H2,aj H H2->aR K H2 p (iA xs lo hi)->Q (.ref p) H2):Mw K (.ref a) lo hi H Q:=by
 refine⟨a,xs,rfl,e,?_⟩
 by_cases c:HT.dU xs.length 0 lo=0/\HT.dU xs.length xs.length hi=xs.length
 ·refine .inl ⟨c.1,c.2,h a H (aj.refl _) ?_⟩
  have:iA xs lo hi=xs:=by
   unfold iA
   rw [c.1,c.2,sub_zero,drop_zero,abh]
  rw [this]
  exact e
 ·exact .inr ⟨a,xs,rfl,e,c,fun p hp=>h p _ (aj.bf hp) (aR.of aw)⟩
end
section
variable {K:Frag}{H:Hp}{σ:St}{Q:VK}{ix:List (Option Nat)}
theorem oM{a:Addr}{x y:V}{m n:Nat}{R:St->Hp->Prop}(h:aR K H a [x,y])(k:R ((σ.set m (some x)).set n (some y)) H):t6 K 2 (fL (bW m) (fL (bW n) vL)) (.ref a) σ H R:=⟨a,_,rfl,h,rfl,_,_,rfl,_,_,rfl,rfl,k⟩
end
def Ay:Stmt->Nat->Stmt
 | .ClassDef _ _ _ body _ _ _ _ _ _ _,j=>body.getD j (.Pass ⟨0,0,0,0⟩)
 | s,_=>s
def BD(K:Frag)(f:Addr)(x qual:Str)(st:Stmt)(ps:List Str):Prop:=∃ fd,JI K x qual st f fd/\Binds K fd ps []
def Mx(P:Program)(w:World)(K:Frag)(mg:Str->Option Value)(base:Heap)(k:Nat)(f:Addr)(ps:List Str)(sp:Sp):Prop :=
 ∃ fd,j8 P w K mg base CI k f fd ps sp/\keepIn K (.ref f)=true/\Binds K fd ps []
section
variable {P:Program}{w:World}{K:Frag}{mg:Str->Option Value}{base:Heap}
theorem BD.ok{fa:Addr}{x qual:Str}{st:Stmt}{N ps:List Str}{k:Nat}{sp:Sp}(D:BD K fa x qual st ps)(S:aA N ps (ak st))(len:∀ vs H Q E,sp vs H Q E->vs.length=ps.length)
  (fZ:∀ (f:Addr) (cZ:Value) (A:Around) (outer:List Env) (s:Shared) (H:Hp) (vs:List V) (Q:VK) (E:XK),cj k (A.deeper (envOfC qual (ak st) s.heap.objs.size f cZ))->sp vs H Q E ->
   ∃ t,oE (iz CI P w K mg base N qual (ak st) f cZ A outer s H E).Gb (az st) t/\t { nx:=fun _ H'=>Q .dB H',rt:=Q } (start N vs) H):Mx P w K mg base (k+1) fa ps sp:=by
 obtain ⟨fd,F,hb⟩:=D
 exact⟨fd,F.ok S len fun cZ A outer s H vs Q E hr h=>fZ fa cZ A outer s H vs Q E hr h,F.kp,hb⟩
end
section
variable {X:Cx}{k:Nat}{f C:Addr}{x m:Str}{ps:List Str}{sp:Sp}{p pos apos:Pos}{e o:Expr}{es:List Expr}{ta:TE}{t:TA}
theorem J2{pl:Sem Bool}(O:Mx X.prog X.w X.K X.mg X.base k f ps sp)(c:xY X.K C)(hm:Meth X.K C m f)(hr:cj k X.A)(he:PE X o ta)(ha:PA X (e::es) t)
  (jh:starEach (e::es) X.env=(false,eval e X.env)::starEach es X.env:=by rfl) (i0:(backTo pos (starEach es X.env)).any (·.1)=false:=by rfl)
  (ht:eval (.Call (.Attribute o m apos) (e::es) [] pos) X.env=(do
   let ov <- eval o X.env
   standAt apos.atName
   let (f,first) <- holding [ov] (getMethod ov m pl)
   callWith pos f first (backTo pos (starEach (e::es) X.env)) (backToKw pos (keywordEach [] X.env))):=by rfl) :
  PE X (.Call (.Attribute o m apos) (e::es) [] pos) (Dl C m sp [] E0 ta t):=by
 obtain ⟨fd,F,_,hb⟩:=O
 exact GO he c hm F hr hb .nil DH ha jh i0 ht
theorem QG(O:Mx X.prog X.w X.K X.mg X.base k f ps sp)(M:Mk X.K C f)(hr:cj (k+1) X.A)(hg:Gl X x)(hm:X.mg x=some (.ref C))(ha:PA X (e::es) t)
  (ph:(x == ("__debug__":Str))=false:=by decide) (he:starEach (e::es) X.env=(false,eval e X.env)::starEach es X.env:=by rfl) (i0:(backTo pos (starEach es X.env)).any (·.1)=false:=by rfl) :
  PE X (.Call (.Name x p) (e::es) [] pos) (Dm C sp [] E0 t):=by
 obtain ⟨fd,F,_,hb⟩:=O
 exact GP M F hr hg hm hb .nil DH ha ph he i0
theorem Iq{f:Str}(K:Frag)(hK:X.K=K)(he:PE X e ta)(hb:attributeBase e f X.env (eval e X.env)=eval e X.env):PE X (.Attribute e f pos) (KW K ta f):=hK ▸ KZ he hb
theorem Ir{f:Str}{value:Expr}{pos':Pos}{tv:TE}(K:Frag)(hK:X.K=K)(ha:PE X o ta)(hv:PE X value tv)(hs:swapsWith value (some (.Attribute o f pos')) pos.line X.env=pure false):PS X (.Assign [.Attribute o f pos'] value pos) (KY K ta tv f):=hK ▸ K0 ha hv hs
end
section
variable {K:Frag}{H:Hp}{σ:St}{Q:VK}{D:Ends}{ta tv:TE}{t:TA}{C:Addr}{m f:Str}{sp:Sp}{x:V}
def J3(C:Addr)(m:Str)(sp:Sp)(t:TA)(σ:St)(Q:VK)(x:V)(H1:Hp):Prop:=∃ a dx fs,x=.ref a/\H1 a=some (.ins C dx fs)/\fs.lookup m=none/\t σ H1 fun vs H2=>sp (x::(vs++[])) H2 Q E0
theorem My(h:ta σ H fun x H1=>J3 C m sp t σ Q x H1):Dl C m sp [] E0 ta t σ H Q:=h
theorem Iu{a dx:Addr}{fs:List (Str×V)}(e:H a=some (.ins C dx fs))(l:fs.lookup m=none)(h:t σ H fun vs H2=>sp (.ref a::(vs++[])) H2 Q E0):J3 C m sp t σ Q (.ref a) H:=⟨a,dx,fs,rfl,e,l,h⟩
def QH(C:Addr)(sp:Sp)(Q:VK)(vs:List V)(H1:Hp):Prop:=∀ x dx,H1 x=none->H1 dx=none->dx≠x->sp (.ref x::(vs++[])) (upd (upd H1 dx (.own x)) x (.ins C dx [])) (fun v H2=>v=.dB/\Q (.ref x) H2) E0
theorem Mz(h:t σ H fun vs H1=>QH C sp Q vs H1):Dm C sp [] E0 t σ H Q:=h
def QI(K:Frag)(f:Str)(Q:VK)(x:V)(H1:Hp):Prop:=∃ a C dx fs v,x=.ref a/\H1 a=some (.ins C dx fs)/\xY K C/\fY K C f/\fs.lookup f=some v/\Q v H1
theorem QJ(h:ta σ H fun x H1=>QI K f Q x H1):KW K ta f σ H Q:=h
theorem MA{a dx:Addr}{fs:List (Str×V)}{v:V}(e:H a=some (.ins C dx fs))(c:xY K C)(n:fY K C f)(l:fs.lookup f=some v)(h:Q v H):QI K f Q (.ref a) H:=⟨a,C,dx,fs,v,rfl,e,c,n,l,h⟩
def J4(K:Frag)(f:Str)(D:Ends)(σ:St)(y:V)(x:V)(H2:Hp):Prop:=∃ a C dx fs,x=.ref a/\H2 a=some (.ins C dx fs)/\xY K C/\fY K C f/\fs.length<1000/\D.nx σ (upd H2 a (.ins C dx (iZ f y fs)))
theorem MB(h:tv σ H fun y H1=>ta σ H1 fun x H2=>J4 K f D σ y x H2):KY K ta tv f D σ H:=h
theorem Iv{a dx:Addr}{fs:List (Str×V)}{y:V}(e:H a=some (.ins C dx fs))(c:xY K C)(n:fY K C f)(l:fs.length<1000)(h:D.nx σ (upd H a (.ins C dx (iZ f y fs)))):J4 K f D σ y (.ref a) H:=⟨a,C,dx,fs,rfl,e,c,n,l,h⟩
end
end L2
namespace L2
open PySem PySem.Spec PyProof.Rows PySem.W
theorem BE{Pr:Program}{w:World}{K:Frag}{mg mb:Str->Option Value}{CX:CH}{k:Nat}{fa a:Addr}{fd:FuncData}{x:Str}{sp:Sp}{s₁:Shared}{vs:List Value}{ns:List Int}{tabs:List (Addr×Addr)}
  (hT:TabsAt tabs s₁.heap) (hKt:∀ q∈tabs,K.lookup q.2=none)
  (SX:∃ bm ob,mg "__builtins__"=some (.ref bm)/\bm≠builtinsNs/\s₁.heap.get? bm=some ob/\ob.cls=.type "module"/\ob.dict=some builtinsNs/\ob.data=.plain)
  (hse:s₁.heap.NoSeer) (KX:K.In s₁.heap) (nQ:s₁.heap.Ns mainGlobals mg) (hb:s₁.heap.Ns builtinsNs mb) (CO:∀ x:Str,x≠"__name__"->mb x=bootBuiltins x) (U6:s₁.heap.NoLimit) (hg:s₁.gens=#[])
  (ha:s₁.heap.get? a=some { cls:=.type "list",data:=.seq vs.toArray }) (hi:IntsAre vs ns) (hl:ns.length<=sizeLine) (hr:cj k callerA)
  (F:∀ base:Heap,K.In base->base.Ns mainGlobals mg->(∀ q∈tabs,CodeHd base q.1 q.2/\base.BuiltinsAt mg q.2)->base.NoSeer->j8 Pr w K mg base CX k fa fd [x] sp) (jm:∀ (s:Shared) (u:Value),BindsTo s fd ⟨[u],[]⟩ [(x,u)])
  (z0:∀ H:Hp,EG tabs H->aW K H a (ns.map V.int)->sp [.ref a] H (fun v _=>v=.bl true) fun _ _ _=>False)
  (hCX:∀ H e s',CX [] H s₁ (fun _ _ _=>False) e s'->False) :
  codeAny (model Pr w) callerA (.call (.ref fa) ⟨[.ref a],[]⟩) (fun r s'=>r=.ok (.ret (.bool true))/\OldK s₁.heap s'.heap/\s'.os=s₁.os/\AllBare s'.gens) s₁:=by
 have rv:=sU hi
 have U7:=hi.length
 have naT:∀ q∈tabs,q.2≠a:=fun q hq z=>by
  have e:=(hT q hq).2
  rw [z,ha] at e
  cases e
 have core:∀ H:Hp,(∀ b u,H b=some u->(b=a/\K.lookup a=none/\∃ xs,u=.sj { cls:=.type "list",data:=.seq vs.toArray } (.lst xs))\/∃ q∈tabs,q.2=b/\u=.oB #[])->EG tabs H->aW K H a (ns.map V.int)->ft Pr w H s₁.heap ->
   codeAny (model Pr w) callerA (.call (.ref fa) ⟨[.ref a],[]⟩) (fun r s'=>r=.ok (.ret (.bool true))/\OldK s₁.heap s'.heap/\s'.os=s₁.os/\AllBare s'.gens) s₁:=by
  intro H hA h0 hS aN
  have lL:∀ {b:Addr} {o:Obj},s₁.heap.get? b=some o->H b=none->(nY s₁.heap H).get? b=some o:=fun e n=>C3 e n
  have SY:∀ {b:Addr} {o:Obj},s₁.heap.get? b=some o->(∀ v n,o.data≠.seq v n)->(∀ v,o.data=.fields v->o.cls≠.none)->H b=none:=fun {b o} e d d2=>by
   cases q:H b with
   | none=>rfl
   | some u =>
    rcases hA b u q with ⟨rfl,_⟩|⟨t,ht,rfl,_⟩
    ·rw [ha] at e
     cases e
     exact absurd rfl (d _ _)
    ·rw [(hT t ht).2] at e
     cases e
     exact absurd rfl (d2 _ rfl)
  have OK:∀ {b:Addr} {o:Obj} {es:Array DictEntry} {ep:Nat},s₁.heap.get? b=some o->o.data=.dict es ep->H b=none:=fun e d=>SY e (fun v n z=>by rw [d] at z;cases z) fun v z=>by rw [d] at z;cases z
  have J5:∀ {b:Addr} {m:Str->Option Value},s₁.heap.Ns b m->(nY s₁.heap H).Ns b m:=fun {b m} ⟨o,es,ep,e,d,r⟩=>⟨o,es,ep,lL e (OK e d),d,r⟩
  have hKb:K.In (nY s₁.heap H):=fun b o e=>lL (KX b o e) (by
   cases q:H b with
   | none=>rfl
   | some u =>
    rcases hA b u q with ⟨rfl,z,_⟩|⟨t,ht,rfl,_⟩
    ·rw [z] at e;cases e
    ·rw [hKt t ht] at e;cases e)
  have hM:Mod K mg (nY s₁.heap H):=⟨hKb,J5 nQ,⟨mb,J5 hb,CO⟩,let ⟨mc,h1,h2⟩:=U6;⟨mc,J5 h1,h2⟩⟩
  have hTb:∀ q∈tabs,CodeHd (nY s₁.heap H) q.1 q.2/\(nY s₁.heap H).BuiltinsAt mg q.2:=fun q hq=>by
   refine⟨?_,?_⟩
   ·obtain ⟨o,Mb,file,tf,flags,tg,inF,text,tt,e1,e2,e3,r⟩:=(hT q hq).1
    exact⟨o,Mb,file,tf,flags,tg,inF,text,tt,lL e1 (SY e1 (fun v n z=>by rw [e3] at z;cases z) fun v _ z=>by rw [e2] at z;cases z),e2,e3,r⟩
   ·obtain ⟨bm,ob,b1,b2,b3,b4,b5,b6⟩:=SX
    refine⟨bm,ob,b1,b2,fun z=>?_,fun z=>?_,lL b3 (SY b3 (fun v n z=>by rw [b6] at z;cases z) fun v z=>by rw [b6] at z;cases z),b4,b5,b6⟩
    ·obtain ⟨o,es,ep,e,hd,_⟩:=nQ
     rw [z,e] at b3;cases b3;rw [hd] at b6;cases b6
    ·rw [z,(hT q hq).2] at b3;cases b3;cases b4
  have hSb:(nY s₁.heap H).NoSeer:=⟨let ⟨mc,a,b⟩:=hse.statics;⟨mc,J5 a,b⟩,let ⟨mm,a,b⟩:=hse.mods;⟨mm,J5 a,b⟩,⟨mb,J5 hb,CO⟩,let ⟨bm,ob,b1,b2,b3,b4,b5,b6⟩:=SX;⟨mg,bm,ob,J5 nQ,b1,lL b3 (SY b3 (fun v n z=>by rw [b6] at z;cases z) fun v z=>by rw [b6] at z;cases z),b4,b5⟩⟩
  have e0:vN Pr w K mg (nY s₁.heap H) callerA [] s₁ H:=⟨rfl,hM,fun b o e=>Gx e,le_of_eq (AZ _ _),trivial,fun b hb=>absurd (show b∈([]:List Addr) from hb) (by simp),aN,.of_eq hg⟩
  refine codeAny_mono ((F _ hKb (J5 nQ) hTb hSb).run callerA [] s₁ H ⟨[.ref a],[]⟩ [.ref a] [.ref a] _ _ hr e0 (jm s₁ (.ref a)) (.cons rfl .nil) (z0 H h0 hS)) fun r s' h=>?_
  cases r with
  | error e=>exact (hCX H e s' h).elim
  | ok fl =>
   cases fl with
   | next=>exact False.elim h
   | brk=>exact False.elim h
   | cont=>exact False.elim h
   | ret u =>
    obtain ⟨v,H',os,bare,un,rp,r',q⟩:=h
    have q':v=.bl true:=q
    subst q'
    obtain rfl:u=Value.bool true:=r'
    have was:∀ b o,s₁.heap.get? b=some o->asItWas s₁.heap s'.heap b o/\∃ o',s'.heap.get? b=some o':=fun b o e=>by
     cases q:H b with
     | none =>
      have z:=un.keep b o e q (by intro z;exact absurd (show b∈([]:List Addr) from z) (by simp)) (by simp)
      exact⟨.inl z,_,z⟩
     | some u =>
      rcases hA b u q with ⟨rfl,_,xs,rfl⟩|⟨t,ht,rfl,rfl⟩
      ·have z2:=un.gZ b _ _ q
       obtain ⟨e1,_⟩:=aN b _ q
       obtain ⟨e2,_⟩:=rp b _ z2
       rw [e] at e1;cases e1
       exact⟨.inl e2,_,e2⟩
      ·obtain ⟨more,z2⟩:=un.hJ t.2 _ q
       have e2:s'.heap.get? t.2=some { cls:=.none,data:=.fields (#[]++more) }:=rp t.2 _ z2
       have e1:=(hT t ht).2
       rw [e] at e1
       cases e1
       exact⟨.inr (.inl ⟨((hT t ht).1.tab (hT t ht).2).isCodeTable,rfl,#[],more,rfl,e2⟩),_,e2⟩
    exact⟨rfl,⟨fun b o e=>(was b o e).1,fun b o e=>(was b o e).2⟩,os,bare⟩
 have J6:∀ (H:Hp) q,q∈tabs->dv Pr w H s₁.heap q.2 (.oB #[]):=fun H q hq=>(hT q hq).2
 cases hk:K.lookup a with
 | some o =>
  have e:=KX a o hk
  rw [ha] at e
  cases e
  refine core (fun b=>if (tabs.any fun q=>q.2 == b)=true then some (.oB #[]) else none) (fun b u z=>?_) (fun q hq=>if_pos (any_eq_true.mpr ⟨q,hq,by simp⟩)) (.inr ⟨_,vs.toArray,_,hk,rfl,rfl,rfl,by rw [abj,U7];exact hl,by simpa using rv⟩) (fun b u z=>?_)
  ·by_cases hb:(tabs.any fun q=>q.2 == b)=true
   ·have z':=(if_pos hb).symm.trans z
    cases z'
    obtain ⟨q,hq,e⟩:=any_eq_true.mp hb
    exact .inr ⟨q,hq,beq_iff_eq.mp e,rfl⟩
   ·have z':=(if_neg hb).symm.trans z
    cases z'
  ·by_cases hb:(tabs.any fun q=>q.2 == b)=true
   ·have z':=(if_pos hb).symm.trans z
    cases z'
    obtain ⟨q,hq,e⟩:=any_eq_true.mp hb
    rw [<- beq_iff_eq.mp e]
    exact J6 _ q hq
   ·have z':=(if_neg hb).symm.trans z
    cases z'
 | none =>
  have aT:¬ (tabs.any fun q=>q.2 == a)=true:=fun z=>by
   obtain ⟨q,hq,e⟩:=any_eq_true.mp z
   exact naT q hq (beq_iff_eq.mp e)
  obtain ⟨H,hH⟩:∃ H:Hp,H=fun b=>if (tabs.any fun q=>q.2 == b)=true then some (.oB #[]) else if b=a then some (.sj { cls:=.type "list",data:=.seq vs.toArray } (.lst (ns.map V.int))) else none:=⟨_,rfl⟩
  have xM:H a=some (.sj { cls:=.type "list",data:=.seq vs.toArray } (.lst (ns.map V.int))):=by
   rw [hH]
   show (if _ then _ else _)=_
   rw [if_neg aT,if_pos rfl]
  have hHt:EG tabs H:=fun q hq=>by
   rw [hH]
   exact if_pos (any_eq_true.mpr ⟨q,hq,by simp⟩)
  have all:∀ b u,H b=some u->(b=a/\u=.sj { cls:=.type "list",data:=.seq vs.toArray } (.lst (ns.map V.int)))\/∃ q∈tabs,q.2=b/\u=.oB #[]:=fun b u z=>by
   rw [hH] at z
   have z:(if (tabs.any fun q=>q.2 == b)=true then some (HO.oB #[]) else if b=a then some (.sj { cls:=.type "list",data:=.seq vs.toArray } (.lst (ns.map V.int))) else none)=some u:=z
   by_cases hb:(tabs.any fun q=>q.2 == b)=true
   ·rw [if_pos hb] at z
    cases z
    obtain ⟨q,hq,e⟩:=any_eq_true.mp hb
    exact .inr ⟨q,hq,beq_iff_eq.mp e,rfl⟩
   ·rw [if_neg hb] at z
    by_cases h2:b=a
    ·rw [if_pos h2] at z
     cases z
     exact .inl ⟨h2,rfl⟩
    ·rw [if_neg h2] at z
     cases z
  refine core H (fun b u z=>(all b u z).imp (fun ⟨e,eu⟩=>⟨e,hk,_,eu⟩) id) hHt (.inl (.inr ⟨_,xM⟩)) fun b u z=>?_
  rcases all b u z with ⟨rfl,rfl⟩|⟨q,hq,rfl,rfl⟩
  ·exact⟨ha,by rw [aa4];exact hl,vs,_,rv,ha⟩
  ·exact J6 _ q hq
theorem EJ{X:Cx}{e:Env}{l:List Env}(Y:X.base.NoSeer/\X.prog.given.tree=none)(jh:X.stack=e::l)(h1:e.scope.isGenerator=false)(h2:e.scope.isCoroutine=false)(h3:e.builtins=builtinsNs)(h4:e.globals=mainGlobals)(hr:cj 32 X.A) :
  jb X (binaryOp .FloorDiv) (rI (fun _ j=>j≠0) fun i j=>.int (i.fdiv j)):=by
 intro pins s σ H x y v u Q I rx ry h
 obtain ⟨i,j,rfl,rfl,hc,q⟩:=h
 obtain ⟨t,rfl⟩:=rx
 obtain ⟨t',rfl⟩:=ry
 have hd:X.A.depth+Builtin.pylongFrames<recursionLimit:=by
  have:=hr.dp
  have e1:Builtin.pylongFrames=100:=rfl
  lia
 exact floordiv_int hc ⟨.int (i.fdiv j),H,I.tok _,⟨_,rfl⟩,q⟩ (.inr (PylongRoom.of I.nolimit hd (SeerAt.of (Y.1.keeps I.bk) Y.2 (by rw [I.ok.frames,jh]) h1 h2 h3 h4)))
open PySem PySem.Spec PyProof.Rows
def nS(i j:Int):Prop:=pH i+pH j<=134217728
theorem nS.ok{i j:Int}(h:nS i j):IntMulOk i j:=by
 unfold IntMulOk
 intro z
 simp only [Bool.and_eq_true,decide_eq_true_eq] at z
 have z2:=z.2
 unfold Builtin.Int.intTooBig at z2
 have h':Builtin.Int.intBits i+Builtin.Int.intBits j<=134217728:=h
 have b:(134217728:Int)<=bitsLine:=by decide
 simp only [decide_eq_true_eq] at z2
 lia
theorem Iw{X:Cx}:jb X (binaryOp .Mult) (rI nS fun i j=>.int (i*j)):=NF fun _ _ _ _ _ _ _ hc q=>mul_int q hc.ok
end L2
namespace L2
open PySem PySem.Spec PyProof.Rows PySem.Builtin PySem.Builtin.Str
section
variable {X:Cx}
theorem dz{n:Nat}(h:n<=2000):n<=sizeLine:=aaJ h (by decide)
def J7:List V->Hp->VK->Prop:=fun xs H Q=>∃ i,xs=[.int i]/\i.natAbs.log2<1920/\Q (.str (toString i)) H
theorem BF:dc X (.type "str") J7:=ua
def J8:R2:=fun x y H Q=>∃ i j,x=.str i/\y=.str j/\i.length+j.length<=sizeLine/\Q (.str (i++j)) H
theorem oN:jb X (binaryOp .Add) J8:=xW
end
section
variable {D:Ends}{σ:St}{H:Hp}{te:TE}{g:TG}{Q:VK}{z y:Str}{K:Frag}
theorem MC{i:Int}(hi:i.natAbs.log2<1920)(h:Q (.str (toString i)) H):J7 [.int i] H Q:=⟨i,rfl,hi,h⟩
theorem uF(hz:z.length+y.length<=sizeLine)(h:Q (.str (z++y)) H):J8 (.str z) (.str y) H Q:=⟨z,y,rfl,rfl,hz,h⟩
theorem EK{i:Int}{c:Nat}(hz:z.length<=sizeLine)(h1:Ac z.cps.toList i=some c)(h:Q (.str ⟨#[c]⟩) H):K7 (.str z) (.int i) H Q:=⟨z,i,c,rfl,rfl,hz,h1,h⟩
end
open PySem PySem.Spec PyProof.Rows
section
variable {Q:VK}{H:Hp}{z y:Str}
theorem U8:decide (V.str z=V.str y)=decide (z=y):=by
 rw [Bool.eq_iff_iff];simp
theorem QK(h:Q (.bl (decide (z=y))) H):TN (.str z) (.str y) H Q:=⟨rfl,by rw [U8];exact h⟩
end
def QL:Expr->Option V
 | .Constant (.int i) _ _=>some (.int i)
 | .Constant (.str s) _ _=>some (.str s)
 | _=>none
def Az:List Expr->Option (List V)
 | []=>some []
 | e::es=>match QL e,Az es with
  | some v,some vs=>some (v::vs)
  | _,_=>none
def wK:List V->TA
 | []=>yc
 | v::vs=>pf (tC v) (wK vs)
theorem uG{X:Cx}:∀ {es:List Expr} {vs:List V},Az es=some vs->PA X es (wK vs)
 | [],vs,h=>by cases h;exact ah
 | e::es,vs,h=>by
  unfold Az at h
  split at h
  ·rename_i v ws h1 h2
   cases h
   unfold QL at h1
   split at h1
   ·cases h1;exact aa ag (uG h2)
   ·cases h1;exact aa ir (uG h2)
   ·cases h1
  ·cases h
theorem uH{X:Cx}{es:List Expr}{vs:List V}{pos:Pos}(h:Az es=some vs):PE X (.List es pos) (GL (wK vs)):=bV (uG h)
theorem tL{σ:St}{H:Hp}:∀ {vs:List V} {Q:List V->Hp->Prop},Q vs H->wK vs σ H Q
 | [],_,h=>h
 | v::vs,Q,h=>tL (vs:=vs) (Q:=fun xs H2=>Q (v::xs) H2) h
theorem MD{σ:St}{H:Hp}{Q:VK}{vs:List V}(hl:vs.length<=1000)(h:∀ p H2,H p=none->aj H H2->H2 p=some (.lst vs)->Q (.ref p) H2):GL (wK vs) σ H Q :=
 tL (vs:=vs) (D2 hl h)
theorem noraise{X:Cx}:∀ e s',XW X (fun _ _ _=>False) e s'->X.xe e s':=fun _ _ h=>by
 obtain ⟨_,_,_,_,_,_,_,z⟩:=h
 exact z.elim
section
variable {X:Cx}{a:Addr}{kM:List (Key×V)}
def wL(c:Nat)(n:Nat):Str:=⟨Array.replicate n c⟩
theorem tM(c:Nat):∀ (k:Nat) (b:Array Nat),(List.replicate k #[c]).foldl (·++·) b=b++Array.replicate k c
 | 0,b=>by simp
 | k+1,b=>by
  rw [replicate_succ,List.foldl_cons,tM c k,Array.append_assoc]
  congr 1
  apply Array.ext'
  simp [replicate_succ]
def J9:R2:=fun x y H Q=>∃ (c:Nat) (n:Int),x=.str ⟨#[c]⟩/\y=.int n/\(-1000<=n/\n<=1000)/\Q (.str (wL c n.toNat)) H
theorem AA:jb X (binaryOp .Mult) J9:=by
 intro pins s σ H x y v u Q I rx ry h
 obtain ⟨c,n,rfl,rfl,hn,q⟩:=h
 obtain ⟨t,rfl⟩:=rx
 obtain ⟨t',rfl⟩:=ry
 have l1:(⟨#[c]⟩:Str).length=1:=rfl
 refine P.mul_str (by rw [aaQ (by lia),aaQ (by lia)];rfl) (fun h1 _=>?_) (fun h1 _=>?_) ?_
 ·have xK:1<=n:=by lia
  have:(9000000000000:Int)<=(2 ^ 63 - 1) / n:=by
   rw [Int.le_ediv_iff_mul_le (by lia)]
   lia
  rw [l1]
  lia
 ·show decide (_ > sizeLine)=false
  rw [aaQ]
  rw [l1]
  have:=dz (show 1*n.toNat<=2000 by lia)
  lia
 ·split
  ·rename_i h1
   have e:wL c n.toNat=Str.empty:=by rw [show n.toNat=0 by lia];rfl
   rw [e] at q
   exact⟨by decide,⟨.str _,H,I.tok _,⟨_,rfl⟩,q⟩⟩
  ·split
   ·rename_i h1 h2
    have e:n=1:=by
     rw [Bool.or_eq_true,beq_iff_eq,beq_iff_eq,l1] at h2
     rcases h2 with h2|h2
     ·exact h2
     ·cases h2
    subst e
    exact⟨.str _,H,I,⟨_,rfl⟩,q⟩
   ·have e:(⟨(List.replicate n.toNat #[c]).foldl (·++·) #[]⟩:Str)=wL c n.toNat:=by
     unfold wL
     rw [tM,Array.empty_append]
    refine⟨?_,⟨.str _,H,I.tok _,⟨_,rfl⟩,?_⟩⟩
    ·show (⟨(List.replicate n.toNat #[c]).foldl (·++·) #[]⟩:Str).length<=sizeLine
     rw [e]
     show (Array.replicate n.toNat c).size<=sizeLine
     rw [Array.size_replicate]
     exact dz (by lia)
    ·show Q (.str ⟨(List.replicate n.toNat #[c]).foldl (·++·) #[]⟩) H
     rw [e]
     exact q
end
section
variable {H:Hp}{Q:VK}{a:Addr}{kM:List (Key×V)}{z y:Str}
theorem EL{c:Nat}{n:Int}(hn:-1000<=n/\n<=1000)(h:Q (.str (wL c n.toNat)) H):J9 (.str ⟨#[c]⟩) (.int n) H Q:=⟨c,n,rfl,rfl,hn,h⟩
end
section
variable {M:Model}{A:Around}{E:Value->Shared->Prop}{s:Shared}{env:Env}
def EM(M:Model)(A:Around)(E:Value->Shared->Prop)(Q:Value->Shared->Prop)(acc:Value)(cn:Env)(r:Result)(s':Shared):Prop :=
 match r with
 | .ok _=>∃ m,s'.heap.Ns cn.locals m/\∀ h',Heap.SameBut cn.locals s'.heap h'->Q acc { s' with heap:=h' }
 | .error x=>∃ m,s'.heap.Ns cn.locals m/\∀ h',Heap.SameBut cn.locals s'.heap h'->wpAny M A (passOn "comprehension.variables-let-go" x cn:Sem Value) (fun _ _=>False) E { s' with heap:=h' }
theorem yO{e:Expr}{scope:Scope}{pos:Pos}{mk fst:Sem Value}{g:Comprehension}{gs:List Comprehension}{cl:List (Str×Addr)}{Q:Value->Shared->Prop}
  (q1:clausesOf e=g::gs) (q2:∀ x,foldedSetIterable g.iter env x=pure x) (q3:closureFor scope env=pure cl) (q4:scope.kind=.function) (q5:∀ x∈scope.names,x.2=.local->scope.names.lookup x.1=some .local)
  (h:wpAny M A fst (fun x s1=>wpAny M A (pyIter x) (fun it s2=>wpAny M A mk (fun acc s3=>wpAny M A (newFunctionEnv scope env.globals cl [] env.qual none .none (some env)) (fun cn s4 =>
    codeAny M A (.compStart e 0 it acc { cn with scope:=relabel scope env }) (EM M A E Q acc { cn with scope:=relabel scope env }) s4) E s3) E s2) E s1) E s) :
  wpAny M A (comprehension e scope env pos mk false fst none) Q E s:=by
 unfold comprehension
 rw [q3,q1]
 refine aaE (aaU h (fun x s1 h1=>?_) fun _ _ z=>z)
 refine aaE (wpAny_standAt (aaE (wpAny_of_eq (q2 x) ?_)))
 refine aaE (wpAny_holding (aaU h1 (fun it s2 h2=>?_) fun _ _ z=>z))
 refine wpAny_standIf (aaE (aaU h2 (fun acc s3 h3=>?_) fun _ _ z=>z))
 refine aaE (aaT (aaE (aaU h3 (fun cn s4 h4=>?_) fun _ _ z=>z)))
 dsimp only
 have hv:∀ x∈(scope.names.filter fun x=>(x.2 == .local || x.2 == .cell) && x.1 != (".0":Str)).reverse,x.2=.local->Env.kindOf { cn with scope:=relabel scope env } x.1=some .local :=
  fun x hx hl=>lookup_relabel_local (q5 x (aa9.mp (List.mem_reverse.mp hx)).1 hl)
 refine wpAny_holding (aaE (wpAny_attempt (wpAny_holding (wpAny_run (codeAny_mono h4 fun r s' hr=>?_)))))
 cases r with
 | ok f =>
  obtain ⟨m,hn,hr⟩:=hr
  exact aaE (wpAny_holding (wpAny_comp_letGo (cenv:={ cn with scope:=relabel scope env }) q4 _ s' m hv hn fun h' m' _ U9=>aaT (hr h' U9)))
 | error x =>
  obtain ⟨m,hn,hr⟩:=hr
  exact aaE (wpAny_holding (wpAny_comp_letGo (cenv:={ cn with scope:=relabel scope env }) q4 _ s' m hv hn fun h' m' _ U9=>aaU (hr h' U9) (fun _ _ f=>f.elim) fun _ _ y=>y))
end
def EN(EX:qT)(ix:List (Option Nat))(wi:TI)(g:TG)(tt:TT)(te:qT->TE):TE:=fun σ H Q=>wi σ H fun J H1=>bG ix g tt (te fun C _ H'=>EX C σ H') σ Q J H1
section
variable {X:Cx}{EX:qT}
theorem ME{M:Model}{A:Around}{α:Type}{m:Sem α}{P Q:α->Shared->Prop}{E:Value->Shared->Prop}{s:Shared}(h:wpAny M A m P (fun _ _=>False) s)(k:∀ a s',P a s'->Q a s'):wpAny M A m Q E s:=aaU h k fun _ _ z=>z.elim
theorem EO{pins pl:List (Addr×Obj)}{N:List Str}{scope:Scope}{C:Addr}{s s':Shared}{H H':Hp}{fp:List Addr}{σ:St}(I:Inv (aY X pins N scope C s H fp) pl σ H' s'):Inv (aY X (pins++pl) N scope C s H fp) [] σ H' s':=by
 obtain ⟨⟨a1,a2,a3,a4,a5,a6,a7,a8,a9,b1,b2,b3,b4,b5,b6,b7,b8,b9⟩,c2,c3,c4,c5,c6,c7,c8,c9,d1,d2⟩:=I
 exact⟨⟨a1,a2,a3,a4,a5,a6,a7,a8,a9,b1,b2,b3,b4,b5,b6,b7,b8,b9⟩,c2,c3,c4,c5,c6,c7,c8,fun p hp=>c9 p (by
  have sW:p∈(X.pn++(pins++pl))++[]:=hp
  show p∈(X.pn++pins)++pl
  simpa using sW),d1,d2⟩
theorem Iy{pins pl:List (Addr×Obj)}{N:List Str}{scope:Scope}{C:Addr}{s s':Shared}{H H':Hp}{fp:List Addr}{σ:St}(I:Inv (aY X (pins++pl) N scope C s H fp) [] σ H' s'):Inv (aY X pins N scope C s H fp) pl σ H' s':=by
 obtain ⟨⟨a1,a2,a3,a4,a5,a6,a7,a8,a9,b1,b2,b3,b4,b5,b6,b7,b8,b9⟩,c2,c3,c4,c5,c6,c7,c8,c9,d1,d2⟩:=I
 exact⟨⟨a1,a2,a3,a4,a5,a6,a7,a8,a9,b1,b2,b3,b4,b5,b6,b7,b8,b9⟩,c2,c3,c4,c5,c6,c7,c8,fun p hp=>c9 p (by
  have sW:p∈(X.pn++pins)++pl:=hp
  show p∈(X.pn++(pins++pl))++[]
  simpa using sW),d1,d2⟩
theorem wM{tg iter elt:Expr}{ifs:List Expr}{scope:Scope}{pos:Pos}{N:List Str}{ix:List (Option Nat)}{wi:TI}{g:TG}{tt:TT}{te:qT->TE}
  (jh:X.stack=X.env::X.outer) (hfm:X.env.frame=some X.env.locals) (hex:X.ex=[]) (hX:∀ e s',XM X EX e s'->X.xe e s') (hc:X.calm=true) (hi:PI X tg iter wi)
  (hg:∀ pins C s H fp,PG (aY X pins N scope C s H fp) tg g)
  (ht:∀ pins C s H fp,SD (aY X pins N scope C s H fp) ifs tt)
  (he:∀ pins C s H fp EY,(∀ b∈fp,∃ o,(b,o)∈pins)->PE ((aY X pins N scope C s H fp).eD (XW (aY X pins N scope C s H fp) EY)) elt (te EY))
  (hk:scope.kind=.function) (dw:∀ y∈scope.names,y.2≠.cell) (pC:∀ y∈scope.names,y.2=.local->scope.names.lookup y.1=some .local)
  (jO:(scope.names.all fun y=>!(y.2 == NameKind.free) || (X.env.cells.lookup y.1).isSome)=true) (vC:jN X scope N ix)
  (hs:∀ x,foldedSetIterable iter X.env x=pure x:=by intro _;rfl) :
  PE X (.ListComp elt [⟨tg,iter,ifs,0⟩] scope pos) (EN EX ix wi g tt te):=by
 intro pins s σ H Q I h
 have qP:∀ y∈scope.names,y.2=.free->(X.env.cells.lookup y.1).isSome=true:=fun y hy e=>by
  have z:=all_eq_true.mp jO y hy
  rw [e] at z
  simpa using z
 have ym:∀ p∈scope.names,p.2=.free->∃ c,X.env.cells.lookup p.1=some c:=fun p hp e=>aaS.mp (qP p hp e)
 have cG:∀ x c,(cF X.env.cells scope.names []).lookup x=some c->X.env.cells.lookup x=some c:=ia (fun x c q=>by simp at q)
 have ji:∀ x,scope.names.lookup x=some .free->∃ c,(cF X.env.cells scope.names []).lookup x=some c:=fun x hx=>by
  have hm:=PySem.mem_of_lookup hx
  exact aaS.mp (ib (.inr ⟨hm,qP _ hm rfl⟩))
 rw [eval_ListComp]
 refine yO rfl hs (iC ym) hk pC (cp (hi pins s σ H _ I h) fun v s1 h1=>cp h1 fun OC s2 h2=>?_)
 obtain ⟨it,fp,tn,J,H2,e,I2,T,Gd,f2,hW⟩:=h2
 subst e
 have pD:H2 s2.heap.objs.size=none:=I2.aN.fresh (aaK _)
 obtain ⟨W,⟨m0,w0⟩,turn⟩:=hW s2.heap.objs.size pD
 refine wpAny_newObj_type ?_
 have I3:Inv X pins σ (upd H2 s2.heap.objs.size (.lst [])) { s2 with heap:=s2.heap.push { cls:=.type "list",data:=.seq ([]:List Value).toArray } }:=I2.yl (its:=[]) (t':=s2.toks) .nil (abr _)
 have f3:∀ b∈fp,j7 X pins (upd H2 s2.heap.objs.size (.lst [])) b:=fun b hb=>by
  refine⟨?_,(f2 b hb).2⟩
  obtain ⟨o,eo,_⟩:=T.obj _ _ Gd b hb
  rw [au (abt (aaH eo))]
  exact (f2 b hb).1
 have sI:tn 0 (s2.heap.push { cls:=.type "list",data:=.seq ([]:List Value).toArray }):=T.keep _ _ _ Gd fun b _ o e=>aaD _ e
 generalize qQ:({ s2 with heap:=s2.heap.push { cls:=.type "list",data:=.seq ([]:List Value).toArray } }:Shared)=s3 at I3
 have sI:tn 0 s3.heap:=by rw [<- qQ];exact sI
 generalize hH3:upd H2 s2.heap.objs.size (.lst [])=H3 at I3 f3 w0
 generalize OW:s2.heap.objs.size=acc at *
 refine wpAny_newFunctionEnv dw (by intro y hy;simp at hy) (fun h₁ DJ DK=>?_) hk
 have old:∀ b o,s3.heap.get? b=some o->h₁.get? b=some o:=fun b o q=>DK.extBut b o (abt (aaH q)) (aaD _ q)
 have pE:H3 s3.heap.objs.size=none:=I3.aN.fresh (aaK _)
 have JJ:∀ b∈fp,b<s3.heap.objs.size:=fun b hb=>by
  obtain ⟨o,eo,_⟩:=T.obj _ _ sI b hb
  exact aaH eo
 have pF:∀ b,b≠X.env.locals->b∉X.fs->b∉jV X.stack:=fun b h1 h2 z=>by
  rcases aa7.mp (I3.iq b z) with q|q
  ·exact h1 q
  ·exact h2 q
 have Ua:∀ x c,X.env.cells.lookup x=some c->c<s3.heap.objs.size:=fun x c q=>by
  obtain ⟨v,z⟩:=I3.cell x c q
  exact z.lt
 have YI:∀ (h':Heap) (m:Str->Option Value),(∀ b o,s3.heap.get? b=some o->h'.get? b=some o)->h'.Ns s3.heap.objs.size m ->
   Inv (aY X pins N scope s3.heap.objs.size s3 H3 fp) [] (pick ix σ) H3 { s3 with heap:=h',toks:=s3.toks+([]:List (Str×Value)).length }:=by
  intro h' m jd hn
  refine⟨⟨I3.ok.mod,hk,I3.ok.glob,I3.ok.blt,aaK _,fun x y c q1 q2=>I3.ok.inj x y c (cG x c q1) (cG y c q2),fun x hx=>ji x (dD dw hx),fun x c hf _=>absurd hf Bool.false_ne_true,
   I3.ok.hd,I3.ok.frames,.inl rfl,fun b hb=>⟨abt (JJ b hb),fun x c q=>(f3 b hb).2.2.2.2.1 x c (cG x c q)⟩,I3.bs,aaJ I3.ok.qW I3.sz,fun b o e hb=>?_,fun b hb=>pF b (f3 b hb).2.1 (f3 b hb).2.2.1,I3.stack,I3.eC⟩,
   rfl,I3.bare,Un.kept jd,⟨m,hn,fun i x v h1 h2 h3=>?_⟩,fun x c q=>?_,pE,fun x c q=>I3.dF x c (cG x c q),fun p hp=>?_,I3.aN.kept jd,?_⟩
  ·have q:=(I3.bs b o e).2
   rcases (f3 b hb).2.2.2.1 with z|z
   ·exact I3.ok.oS b o e z
   ·exact absurd (Nat.lt_of_lt_of_le (aaH e) (aaJ I3.ok.qW z)) (Nat.lt_irrefl _)
  ·obtain ⟨j,e1,e2⟩:=kY h2
   obtain ⟨a1,a2,a3,a4⟩:=vC.get h1 e1
   obtain ⟨mX,Ub,Lg⟩:=I3.loc
   obtain ⟨u,ru,l⟩:=Lg j x v a1 e2 a2
   refine⟨u,ru,?_⟩
   rcases l with ⟨l1,_⟩|⟨_,c,lc,z⟩
   ·have Lh:X.env.scope.names.lookup x=some .local:=l1
    rw [Lh] at a3
    exact absurd a3 (by decide)
   ·obtain ⟨c',vI⟩:=ji x a4
    have ec:=cG x c' vI
    rw [lc] at ec
    have Li:c=c':=aaN ec
    subst Li
    exact .inr ⟨fQ a4,c,vI,z.keeps jd⟩
  ·obtain ⟨v,z⟩:=I3.cell x c (cG x c q)
   exact⟨v,z.keeps jd⟩
  ·have sW:p∈X.pn++pins:=by simpa using hp
   obtain ⟨a1,a2,a3,a4,a5⟩:=I3.pin p sW
   exact⟨jd _ _ a1,a2,abt (aaH a1),pF p.1 a3 a4,a5⟩
  ·show (pick ix σ).length=N.length
   unfold pick
   rw [aa4]
   exact vC.len
 have DL:∀ {pl:List (Addr×Obj)} {H':Hp},pl=[]->(∀ b∈fp,H' b=none)->∀ b∈fp,j7 (aY X pins N scope s3.heap.objs.size s3 H3 fp) pl H' b:=fun {pl H'} OX hn b hb=>by
  obtain ⟨f0,f1,GX,Gh,f4,f5⟩:=f3 b hb
  subst OX
  exact⟨hn b hb,abt (JJ b hb),pF b f1 GX,.inl hb,fun x c q=>f4 x c (cG x c q),fun p hp=>f5 p (by simpa using hp)⟩
 have Va:∀ e s',(∃ pl,(∀ b∈fp,∃ o,(b,o)∈pl)/\XW (aY X (pins++pl) N scope s3.heap.objs.size s3 H3 fp) (fun C _ H'=>EX C σ H') e s')->notedBy (model X.prog X.w) X.A (compEnvC scope (cF X.env.cells scope.names []) s3.heap.objs.size X.env)
   (fun e s'=>EM (model X.prog X.w) X.A X.xe (EP X pins σ Q) (.ref acc) (compEnvC scope (cF X.env.cells scope.names []) s3.heap.objs.size X.env) (.error e) s') e s':=by
  rintro e s' ⟨pl,i0,a,C,σ',H',rfl,I0,⟨oe,vs,T0,S0,vI,Ef,hd,jc,hh,xM,⟨HH,JY⟩,yC⟩,hEX⟩
  have lI:s3.heap.get? a=none:=HH
  have vE:∀ T,T0=some T->H' T=none/\s3.heap.get? T=none:=fun T z=>⟨(yC T z).1,(yC T z).2.1⟩
  have UL:X.A.frames=some (X.env::X.outer):=by rw [<- jh];exact I3.ok.frames
  have hFF:s'.heap.FunFrames X.base X.stack:=I0.stack
  show wpAny _ _ (noteFrame (.ref a) X.env) _ _ s'
  refine Ey (base:=X.base) (L:=X.env.locals) UL (jh ▸ hFF) hfm S0 hd hh fun h1 T k1 k2 k3 k4 k5 k6=>?_
  obtain ⟨n1,n2,n3⟩:=I0.yE S0 hd
  have Gm:a≠s3.heap.objs.size:=n1
  obtain ⟨mC,hnC,_⟩:=I0.loc
  have Vb:s'.heap.Ns s3.heap.objs.size mC:=hnC
  obtain ⟨oC,esC,epC,hoC,rC⟩:=id Vb
  have tC:∀ T',T0=some T'->T'≠s3.heap.objs.size:=fun T' z=>by
   subst z
   obtain ⟨_,_,oT,ts,q1,q2,_⟩:=hh
   exact (I0.yE q1 q2).1
  have nTC:T≠s3.heap.objs.size:=fun z=>by rw [z,hoC] at k3;cases k3
  obtain ⟨slC,gC⟩:=k2 s3.heap.objs.size oC (Ne.symm Gm) (fun z=>tC _ z.symm rfl) hoC
  refine⟨mC,⟨_,esC,epC,gC,rC⟩,fun h2 sb=>?_⟩
  have g5:h2.get? a=some (oe.mapFields (·.setIfInBounds 1 (.ref T))):=(sb.2 a Gm).trans k5
  obtain ⟨oT,ts,t1,t2,t3⟩:=k6
  have g6:h2.get? T=some oT:=(sb.2 T nTC).trans t1
  have Vc:=Obj.data_mapFields hd (·.setIfInBounds 1 (Value.ref T))
  have Vd:(vs.setIfInBounds 1 (Value.ref T))[1]?=some (.ref T):=by simp [jc]
  unfold PySem.passOn
  refine aaE (wpAny_field g5 Vc Vd ?_)
  rw [if_neg (by simp)]
  show wpAny _ _ (setFlight (.ref a) X.env.frame >>= fun _=>throw _) _ _ _
  rw [hfm]
  refine aaE (tI (s:={ s' with heap:=h2 }) g5 Vc Vd g6 t2 (Array.getElem?_eq_some_iff.mp t3).1 fun h3 f1 f2=>wpAny_throw (hX _ _ ?_))
  obtain ⟨oT',ts',q1,q2,q3⟩:=f2
  have T2:H' T=none:=I0.aN.free k3
  have fpT:∀ b∈fp,b≠a/\b≠T/\some b≠T0:=fun b hb=>by
   obtain ⟨o,hbo⟩:=i0 b hb
   have hm:(b,o)∈(aY X (pins++pl) N scope s3.heap.objs.size s3 H3 fp).pn:=by
    show (b,o)∈X.pn++(pins++pl)
    exact aaZ _ (aaZ _ hbo)
   have z:=(I0.pin (b,o) (aa0 _ hm)).1
   exact⟨JY (b,o) hm,fun e=>(by rw [show (b,o).1=b from rfl,e,k3] at z;cases z),fun e=>(yC b e.symm).2.2 (b,o) hm rfl⟩
  have T3:s3.heap.get? T=none:=by
   cases q:s3.heap.get? T with
   | none=>rfl
   | some o =>
    by_cases hx:T∈fp
    ·exact absurd rfl (fpT T hx).2.1
    ·obtain ⟨o',z⟩:=I0.base.there T o q hx
     rw [k3] at z;cases z
  have ne:∀ b o,s3.heap.get? b=some o->b≠a/\some b≠T0/\b≠s3.heap.objs.size/\b≠T:=fun b o q=>⟨fun z=>(by rw [z,lI] at q;cases q),fun z=>(by rw [(vE b z.symm).2] at q;cases q),abt (aaH q),fun z=>(by rw [z,T3] at q;cases q)⟩
  have u3:Un (jV X.stack) fp H3 H' s3.heap h3:=by
   refine⟨fun b o q n hb hx=>?_,fun b o q n hb hx=>?_,fun b o q n hx=>I0.base.free b o q n hx,fun b o q hx=>?_,I0.base.il,I0.base.gZ,I0.base.hJ⟩
   ·obtain ⟨e1,e2,e3,e4⟩:=ne b o q
    exact f1 b o e4 ((sb.2 b e3).trans (k1 b o e1 e2 (jh ▸ hb) (I0.base.keep b o q n hb hx)))
   ·obtain ⟨e1,e2,e3,e4⟩:=ne b o q
    obtain ⟨sl,q1⟩:=I0.base.slot b o q n hb hx
    obtain ⟨xR,q2⟩:=k2 b _ e1 e2 q1
    exact⟨xR,f1 b _ e4 ((sb.2 b e3).trans q2)⟩
   ·obtain ⟨e1,e2,e3,e4⟩:=ne b o q
    obtain ⟨o',q1⟩:=I0.base.there b o q hx
    obtain ⟨xR,q2⟩:=k2 b _ e1 e2 q1
    exact⟨_,f1 b _ e4 ((sb.2 b e3).trans q2)⟩
  have Ve:ft X.prog X.w H' h3:=I0.aN.off (ch:=a::s3.heap.objs.size::(T0.toList++jV X.stack)) (fun b hb=>by
   simp only [aa7,aa2] at hb
   rcases hb with rfl|rfl|hb|hb
   ·exact xM
   ·exact I0.free
   ·cases T0 with
    | none=>simp at hb
    | some T1 =>
     simp only [Option.toList_some,aa1] at hb
     rw [hb];exact (vE T1 rfl).1
   ·exact I0.eC b hb) fun b o hb q=>by
    simp only [aa7,aa2,not_or] at hb
    have nT:b≠T:=fun z=>by rw [z,k3] at q;cases q
    exact f1 b o nT ((sb.2 b hb.2.1).trans (k1 b o hb.1 (fun z=>hb.2.2.1 (by rw [<- z];simp)) (jh ▸ hb.2.2.2) q))
  have IX:Inv X pins σ H' { s' with heap:=h3 }:=I3.oV (ch:=fp) I0.os u3 Ve I0.bare fun b hb=>by
   obtain ⟨f0,f1',GX,Gh,f4,f5⟩:=f3 b hb
   exact⟨Gh,f1',f4,f5⟩
  have nw:∀ b,s3.heap.get? b=none->X.s₀.heap.get? b=none:=fun b z=>by
   cases q:X.s₀.heap.get? b with
   | none=>rfl
   | some o =>
    obtain ⟨o',q1⟩:=I3.base.there b o q (by rw [hex];simp)
    rw [z] at q1;cases q1
  have np:∀ b,s3.heap.get? b=none->∀ p∈X.pn,p.1≠b:=fun b z p hp q=>by
   have:=(I3.pin p (aa0 _ hp)).1
   rw [q,z] at this;cases this
  have g7:h3.get? a=some (oe.mapFields (·.setIfInBounds 1 (.ref T))):=f1 a _ (Ne.symm k4) g5
  exact⟨a,C,σ,H',rfl,(IX.eZ fun p hp=>absurd hp (by simp)).eD _,⟨_,_,T,oT',ts',g7,(Obj.cls_mapFields _ _).trans vI,(eG _ _).trans Ef,Vc,by simpa using jc,Vd,k4,q1,q2,q3,xM,⟨nw a lI,fun p hp=>np a lI p hp⟩,T2,nw T T3,fun p hp=>np T T3 p hp⟩,hEX⟩
 have loop:∀ s4:Shared,(∃ m,s4={ s3 with heap:=h₁,toks:=s3.toks+([]:List (Str×Value)).length }/\h₁.Ns s3.heap.objs.size m) ->
   codeAny (model X.prog X.w) X.A (.compLoop (.ListComp elt [⟨tg,iter,ifs,0⟩] scope pos) 0 (.ref it) (.ref acc) (compEnvC scope (cF X.env.cells scope.names []) s3.heap.objs.size X.env))
    (EM (model X.prog X.w) X.A X.xe (EP X pins σ Q) (.ref acc) (compEnvC scope (cF X.env.cells scope.names []) s3.heap.objs.size X.env)) s4:=by
  rintro s4 ⟨m4,rfl,vR⟩
  refine ml (E:=fun e s'=>∃ pl,(∀ b∈fp,∃ o,(b,o)∈pl)/\XW (aY X (pins++pl) N scope s3.heap.objs.size s3 H3 fp) (fun C _ H'=>EX C σ H') e s') Va
   (fun n s'=>∃ i σ' ys H',Inv (aY X pins N scope s3.heap.objs.size s3 H3 fp) [] σ' H' s'/\tn i s'.heap/\(∀ b∈fp,H' b=none)/\W i n σ' ys H') ?_ m0
   ⟨0,pick ix σ,[],H3,YI h₁ m4 old vR,T.keep _ _ _ sI fun b _ o q=>old b o q,fun b hb=>(f3 b hb).1,w0⟩
  rintro n s5 ⟨i,σ5,ys,H5,I5,CG,Ge,w5⟩
  obtain ⟨OY,vS⟩:=turn i n σ5 ys H5 w5
  rcases vS with ⟨stop,q⟩|⟨go,m',j9,step⟩
  ·refine cp (T.done (aY X pins N scope s3.heap.objs.size s3 H3 fp) rfl rfl rfl hc i [] s5 σ5 H5 _ I5 (DL rfl Ge) CG stop) fun r s6 ⟨hr,I6⟩=>?_
   subst hr
   obtain ⟨m6,OZ,_⟩:=I6.loc
   refine⟨m6,OZ,fun h' sb=>?_⟩
   refine⟨.ref acc,H5,I3.oV (ch:=fp) I6.os (I6.base.letGo (aaK _) sb) (I6.aN.letGo I6.free sb) I6.bare fun b hb=>?_,rfl,q⟩
   obtain ⟨f0,f1,GX,Gh,f4,f5⟩:=f3 b hb
   exact⟨Gh,f1,f4,f5⟩
  ·refine cp (T.item (aY X pins N scope s3.heap.objs.size s3 H3 fp) rfl rfl rfl hc i [] s5 σ5 H5 _ I5 (DL rfl Ge) CG go) fun r s6 ⟨u,hr,h6⟩=>?_
   subst hr
   refine cp h6 fun _ s7 ⟨x,H7,I7,r7,y7,CJ,O0⟩=>?_
   have O1:=I7.pinned (DL rfl O0) (T.obj _ _ CJ)
   refine ME (hg pins s3.heap.objs.size s3 H3 fp _ s7 σ5 H7 x u _ O1 r7 (step x H7 y7)) fun _ s8 ⟨σ8,H8,I8,q8⟩=>?_
   refine ME (pk (ht pins s3.heap.objs.size s3 H3 fp) I8 q8) fun b s9 ⟨H9,I9,q9⟩=>?_
   have back:∀ {σz:St} {Hz:Hp} {sz:Shared} {yz:List V},Inv (aY X pins N scope s3.heap.objs.size s3 H3 fp) ([]++iy fp s7.heap) σz Hz sz->W (i+1) m' σz yz Hz ->
     ∃ m,m<n/\∃ i σ' ys H',Inv (aY X pins N scope s3.heap.objs.size s3 H3 fp) [] σ' H' sz/\tn i sz.heap/\(∀ b∈fp,H' b=none)/\W i m σ' ys H':=fun {σz Hz sz yz} Iz wz=>by
    refine⟨m',j9,i+1,σz,yz,Hz,Iz.eE,T.keep _ _ _ CJ fun b hb o e=>(Iz.pin (b,o) (aaZ _ (aaZ _ (dg hb e)))).1,fun b hb=>?_,wz⟩
    obtain ⟨o,e,d⟩:=T.obj _ _ CJ b hb
    exact (Iz.pin (b,o) (aaZ _ (aaZ _ (dg hb e)))).2.1
   cases b with
   | false=>exact back I9 q9
   | true =>
    have cov:∀ b∈fp,∃ o,(b,o)∈[]++iy fp s7.heap:=fun b hb=>by
     obtain ⟨o,e,d⟩:=T.obj _ _ CJ b hb
     exact⟨o,aaZ _ (dg hb e)⟩
    refine aaU (he (pins++([]++iy fp s7.heap)) s3.heap.objs.size s3 H3 fp (fun C _ H'=>EX C σ H') (fun b hb=>(cov b hb).imp fun _ z=>aaZ _ z) [] s9 σ8 H9 _ ((EO I9).eD _) q9) (fun v JK ⟨y,GY,Vf,O3,DM,DN,O4⟩=>?_) fun e s' z=>⟨_,cov,z⟩
    have O2:=Iy (Inv.dW Vf)
    refine ME (cB _ JK σ8 GY (.ref acc) [y] (.ref acc) [v] (fun _ H'=>H'=upd GY acc (.lst (ys++[y]))) O2 rfl (.cons O3 .nil) ⟨acc,ys,y,rfl,rfl,DM,DN,rfl⟩) fun _ NH ⟨_,Uc,O5,_,O6⟩=>?_
    subst O6
    exact back O5 O4
 have vR:∃ m,h₁.Ns s3.heap.objs.size m:=⟨_,DJ⟩
 obtain ⟨m4,vR⟩:=vR
 have L:=loop _ ⟨m4,rfl,vR⟩
 exact codeAny_compStart_list L (T.self _ 0 _ _ _ (T.keep _ _ _ sI fun b _ o q=>old b o q) L)
theorem AB{ix:List (Option Nat)}{wi:TI}{g:TG}{tt:TT}{te:qT->TE}{σ:St}{H:Hp}{Q:VK}(h:Af ix wi g tt (te fun C _ H'=>EX C σ H') σ H Q):EN EX ix wi g tt te σ H Q:=h
theorem AD{k:Nat}{x:Str}{ps:List Str}{sp:Sp}{p pos:Pos}{e:Expr}{es:List Expr}{t:TA}(O:tw X.prog X.w X.K X.mg X.base k x ps sp)(hr:cj k X.A)(hX:∀ e s',XW X EX e s'->X.xe e s')(hex:∀ b∈X.ex,∃ o,(b,o)∈X.pn)(ha:PA X (e::es) t)(hg:Gl X x:=by rfl)
  (ph:(x == ("__debug__":Str))=false:=by decide) (he:starEach (e::es) X.env=(false,eval e X.env)::starEach es X.env:=by rfl) (i0:(backTo pos (starEach es X.env)).any (·.1)=false:=by rfl) :
  PE X (.Call (.Name x p) (e::es) [] pos) (yD sp EX t):=by
 obtain ⟨f,fd,F,hm,hk,hb⟩:=O
 intro pins s σ H Q I h
 refine wpAny_Call_Name_kw (gF I hg hm ?_ ph)
 refine callWith_K (h₀:=X.base) I.ok.mod.Gz hk (cp (ha pos pins s σ H _ I h) fun us s1 ⟨vs,H1,I1,r,q⟩=>⟨I1.i9,?_⟩) he i0
 have r2:Vals (vs++[]) (us++[]):=r.append .nil
 have hl:(us++[]).length=ps.length:=by rw [<- r2.length,append_nil];exact F.len _ _ _ _ q
 rw [append_nil] at r2
 refine wpAny_call (codeAny_mono (F.run X.A X.stack s1 H1 ⟨us,[]⟩ (us++[]) vs Q _ hr I1.Dk (hb s1 us I1.i9 hl) r2 q) fun r s' hq=>?_)
 cases r with
 | error e =>
  obtain ⟨a,C,H',rfl,ho,Qk,un,aN,⟨oe,Mb,T0,e1,e2,e3,e4,e5,e6,e7,e8,e9⟩,c,ec,hE⟩:=hq
  cases ec
  have I2:Inv X pins σ H' s':=I1.oV (ch:=[]) ho un aN Qk fun b z=>absurd z (by simp)
  have nw:∀ b,s1.heap.get? b=none->X.s₀.heap.get? b=none:=fun b z=>by
   cases q:X.s₀.heap.get? b with
   | none=>rfl
   | some o =>
    obtain ⟨o',q1⟩:=I1.base.there b o q (fun hx=>by
     obtain ⟨o2,hm2⟩:=hex b hx
     have z2:=(I1.pin (b,o2) (aa0 _ hm2)).1
     rw [show (b,o2).1=b from rfl,z] at z2;cases z2)
    rw [z] at q1;cases q1
  have np:∀ b,s1.heap.get? b=none->∀ p∈X.pn,p.1≠b:=fun b z p hp q=>by
   have:=(I1.pin p (aa0 _ hp)).1
   rw [q,z] at this;cases this
  exact hX _ _ ⟨a,C,σ,H',rfl,(I2.eZ fun p hp=>absurd hp (by simp)).eD _,⟨oe,Mb,T0,e1,e2,e3,e4,e5,e6,e7,⟨nw a e8.1,fun p hp=>np a e8.1 p hp⟩,fun T z=>⟨(e9 T z).1,nw T (e9 T z).2.1,fun p hp=>np T (e9 T z).2.1 p hp⟩⟩,hE⟩
 | ok fl =>
  cases fl with
  | ret u=>exact I1.after hq
  | next=>exact False.elim hq
  | brk=>exact False.elim hq
  | cont=>exact False.elim hq
end
end L2
namespace Srt
open PySem PySem.W PyProof.Rows
section
variable {n:Nat}{key:Nat->Int}
def ky(key:Nat->Int)(p:Array Nat)(i:Nat):Int:=key (p.getD i 0)
end
end Srt
namespace L2
open PySem PySem.Spec PySem.W PyProof.Rows
def lk(r:List Int):Int:=r.foldl (fun k a=>k*4000001+a) 0
namespace Mat
def up(ts:List Nat)(a:Int)(u:Nat->Int):Nat->Int:=fun x=>if x∈ts then u x+a else u x
section
variable {n:Nat}{W:Nat->Nat->Int}{u v:Nat->Int}{g c:Nat->Option Nat}{first:Nat}{ts:List Nat}{os:List (Nat×Nat)}
def st(f:Nat->Option Nat)(i:Nat)(x:Option Nat):Nat->Option Nat:=fun k=>if k=i then x else f k
end
end Mat
end L2
namespace L2
open PySem PySem.Spec PyProof.Rows PySem.W
section
variable {K:Frag}{H:Hp}{σ:St}{Q:VK}{ix:List (Option Nat)}
theorem pU{n:Nat}{tt:TT}{te:TE}(fr:St)(f:Nat->Bool)(ka:pick ix σ=none::fr)(hn:n<=1000)
  (U4:∀ (i:Nat) (H':Hp) (Qc:Bool->Hp->Prop),i<n->aj H H'->(∀ H5,aj H' H5->Qc (f i) H5)->tt (some (.int (i:Int))::fr) H' Qc)
  (elt:∀ (i:Nat) (H':Hp) (Qc:VK),i<n->aj H H'->(∀ H5,aj H' H5->Qc (.int (i:Int)) H5)->te (some (.int (i:Int))::fr) H' Qc)
  (hQ:∀ l H',H l=none->aj H H'->H' l=some (.lst (((List.range n).filter f).map fun k:Nat=>V.int (k:Int)))->Q (.ref l) H'):bG ix (bW 0) tt te σ Q (JC 0 n) H:=by
 refine eI 1 fr n (fun l i ys H'=>ys=((List.range i).filter f).map (fun k:Nat=>V.int (k:Int))/\i<=n) ka (fun l H' _ _ _=>⟨rfl,abr _⟩) (fun l i ys H' h=>?_) (fun H' s=>aaK _) (fun i H' hi s=>hi) (fun l i x H' H2 own ys ho hi wJ s d6 hp hy Qy Qn ky kn=>?_) (fun l H' ys a b c d=>hQ l H' a b (by rw [c,d.1]))
 ·rw [h.1,aa4]
  have:=aaW f (List.range i)
  rw [abf] at this
  lia
 ·obtain ⟨o1,rfl⟩:∃ o1,own=[o1]:=by match own,ho with|[o1],_=>exact⟨o1,rfl⟩
  obtain ⟨rfl,rfl⟩:=hy
  dsimp only [bW]
  rw [Int.zero_add]
  refine U4 i _ _ hi s fun H3 s3=>?_
  have e:(List.range (i+1)).filter f=(List.range i).filter f++(if f i=true then [i] else []):=by
   rw [range_succ,filter_append]
   congr 1
   cases h:f i <;> simp [h]
  cases hf:f i with
  | true =>
   rw [if_pos rfl]
   refine elt i _ _ hi (s.trans s3) fun H5 s5=>ky [some (.int i)] _ H5 rfl (s3.trans s5) ⟨?_,hi⟩
   rw [e,hp.1,hf,abl];rfl
  | false =>
   rw [if_neg (by decide)]
   refine kn [some (.int i)] H3 rfl s3 ⟨?_,hi⟩
   rw [e,hp.1,hf,abl];simp
end
open PySem PySem.Spec PyProof.Rows
section
variable {K:Frag}{H:Hp}{σ:St}{Q:VK}{ix:List (Option Nat)}
theorem QM{l:Addr}{xs:List V}{n:Nat}(e:H l=some (.lst xs))(hn:xs.length*n<=1000)(h:∀ p H2,H p=none->aj H H2->H2 p=some (.lst (List.replicate n xs).flatten)->Q (.ref p) H2)(h1:n<=1000):OT (.ref l) (.int (n:Int)) H Q :=
 ⟨l,(n:Int),xs,rfl,rfl,e,by lia,by lia,aaJ (by rw [aby];exact hn) (by decide),fun p hp=>h p _ hp (aj.bf hp) (by rw [aby];exact aw)⟩
end
inductive Vg(K:Frag)(H:Hp):List V->List (Nat×List Int)->Prop where
 | nil:Vg K H [] []
 | cons {q a:Addr} {p:Nat} {r:List Int} {xs:List V} {ps:List (Nat×List Int)} (h:aR K H q [.int (p:Int),.ref a]) (hr:aR K H a (r.map V.int)) (t:Vg K H xs ps):Vg K H (.ref q::xs) ((p,r)::ps)
inductive Vh(K:Frag)(H:Hp):List V->List (List Int×Bool)->Prop where
 | nil:Vh K H [] []
 | cons {q a:Addr} {b:Bool} {r:List Int} {xs:List V} {ps:List (List Int×Bool)} (h:aR K H q [.ref a,.bl b]) (hr:aR K H a (r.map V.int)) (t:Vh K H xs ps):Vh K H (.ref q::xs) ((r,b)::ps)
structure Vi(K:Frag)(C:Addr):Prop where
 ca:findIn K (.ref C) "__class__"=some (some (.builtin "object.__class__"))
 cg:specialIn K (.builtin "object.__class__") "__get__"=some (some (.builtin "getset_descriptor.__get__"))
 ct:takesIn K (.builtin "object.__class__")=some true
 cm:mroIn K C (.type "object")=some true
section
variable {X:Cx}{C:Addr}{x:Str}{p pos:Pos}
theorem IA{e:Expr}{t t':TE}(h:PE X e t)(h':PE X e t'):PE X e (fun σ H Q=>t σ H Q\/t' σ H Q):=fun pins s σ H Q I z=>z.elim (h pins s σ H Q I) (h' pins s σ H Q I)
end
section
variable {K:Frag}{H:Hp}{Q:VK}
theorem IB{l:Addr}{xs:List V}(e:H l=some (.lst xs))(h:Q .dB (upd H l (.lst []))):DE (.ref l) [] H Q:=⟨l,xs,rfl,rfl,e,h⟩
end
def del(H:Hp)(c:Addr):Hp:=fun b=>if b=c then none else H b
theorem fv{H:Hp}{c:Addr}:del H c c=none:=by unfold del;rw [if_pos rfl]
theorem cL{H:Hp}{c b:Addr}(h:b≠c):del H c b=H b:=by unfold del;rw [if_neg h]
def bE(c:Addr)(v:V)(ob:Obj):HO:=.ext fun h=>h.get? c=some ob/\∃ u,RelV v u/\ob.data=.cell (some u)
theorem aj.del{H H':Hp}{c:Addr}{o:HO}(h:H c=some o)(s:aj (L2.del H c) H'):aj H (upd H' c o):=fun b u e=>by
 by_cases z:b=c
 ·subst z
  rw [h] at e
  cases e
  exact aw
 ·rw [au z]
  exact s b u (by rw [cL z];exact e)
theorem aj.wN{H H':Hp}{c:Addr}{o:HO}(h:H c=none)(s:aj (upd H c o) H'):aj H (L2.del H' c):=fun b u e=>by
 have z:b≠c:=fun z=>by rw [z,h] at e;cases e
 rw [cL z]
 exact s b u (by rw [au z];exact e)
section
variable {P:Program}{w:World}
theorem ft.lend{H:Hp}{h:Heap}{c:Addr}{v:V}{ob:Obj}(k:ft P w H h)(n:H c=none)(e:h.get? c=some ob)(hv:∃ u,RelV v u/\ob.data=.cell (some u)):ft P w (upd H c (bE c v ob)) h:=fun b o q=>by
 by_cases z:b=c
 ·subst z
  rw [aw] at q
  cases q
  exact⟨⟨e,hv⟩,⟨_,e⟩,fun h1 h2 x y=>⟨y _ x.1,x.2⟩⟩
 ·rw [au z] at q
  refine (k b o q).kN (fun d u _ y=>y) (fun d y=>?_) fun d xs y=>?_
  ·rw [au (fun z=>by rw [z,n] at y;cases y)];exact y
  ·rw [au (fun z=>by rw [z,n] at y;cases y)];exact y
theorem ft.back{H:Hp}{h:Heap}{c:Addr}{φ:Heap->Prop}(k:ft P w H h)(e:H c=some (.ext φ)):ft P w (L2.del H c) h:=fun b o q=>by
 have z:b≠c:=fun z=>by rw [z,fv] at q;cases q
 rw [cL z] at q
 refine (k b o q).kN (fun d u _ y=>y) (fun d y=>?_) fun d xs y=>?_
 ·rw [cL (fun z=>by rw [z,e] at y;cases y)];exact y
 ·rw [cL (fun z=>by rw [z,e] at y;cases y)];exact y
theorem Un.back{fs:List Addr}{H H':Hp}{h h':Heap}{c:Addr}{v:V}{ob:Obj}(u:Un fs [] (upd H c (bE c v ob)) H' h h')(n:H c=none)(e:h.get? c=some ob)(e':H' c=some (bE c v ob))(k:ft P w H' h'):Un fs [] H (L2.del H' c) h h':=by
 have hc:h'.get? c=some ob:=(k c _ e').1.1
 have up:∀ {b:Addr},b≠c->upd H c (bE c v ob) b=H b:=fun z=>au z
 have no:∀ {b:Addr} {o:HO},H b=some o->b≠c:=fun q z=>by rw [z,n] at q;cases q
 refine⟨fun b o q m hb hx=>?_,fun b o q m hb hx=>?_,fun b o q m hx=>?_,fun b o q hx=>u.there b o q hx,fun b xs q=>?_,fun b o x q=>?_,fun b ps q=>?_⟩
 ·by_cases z:b=c
  ·subst z;rw [e] at q;cases q;exact hc
  ·exact u.keep b o q (by rw [up z];exact m) hb hx
 ·by_cases z:b=c
  ·subst z;rw [e] at q;cases q;exact⟨ob.slots,hc⟩
  ·exact u.slot b o q (by rw [up z];exact m) hb hx
 ·by_cases z:b=c
  ·subst z;exact fv
  ·rw [cL z];exact u.free b o q (by rw [up z];exact m) hx
 ·rw [cL (no q)];exact u.il b xs (by rw [up (no q)];exact q)
 ·rw [cL (no q)];exact u.gZ b o x (by rw [up (no q)];exact q)
 ·rw [cL (no q)];exact u.hJ b ps (by rw [up (no q)];exact q)
end
section
variable {X:Cx}{pins:List (Addr×Obj)}{σ:St}{H:Hp}{s s':Shared}
theorem Inv.wN{y:Str}{c:Addr}{v:V}{u:Value}(I:Inv X pins σ H s)(hc:X.env.cells.lookup y=some c)(hf:X.fn y=true)(hu:s.heap.IsCell c (some u))(r:RelV v u) :
  ∃ ob,s.heap.get? c=some ob/\H c=none/\vN X.prog X.w X.K X.mg X.base X.A X.stack s (upd H c (bE c v ob)):=by
 obtain ⟨ob,e,d⟩:=hu
 have n:=I.dF y c hc
 have big:=I.ok.Ga y c hf hc
 have E:=I.Dk
 refine⟨ob,e,n,E.frames,E.mod,fun b o q=>?_,E.qW,E.ip,fun b hb=>?_,E.aN.lend n e ⟨u,r,d⟩,E.bare⟩
 ·have z:b≠c:=fun z=>by
   have h1:=aaH q
   have h2:=I.ok.qW
   rw [z] at h1
   exact absurd h1 (Nat.not_lt.mpr (aaJ h2 big))
  rw [au z]
  exact E.bs b o q
 ·have z:b≠c:=fun z=>by
   subst z
   rcases aa7.mp (I.iq b hb) with r1|r1
   ·obtain ⟨m,⟨o,es,ep,ho,r2⟩,_⟩:=I.loc
    rw [<- r1,e] at ho
    cases ho
    have:=r2.1
    rw [d] at this
    cases this
   ·have h1:=(I.ok.ip.mem r1).2
    obtain ⟨o1,q1,_⟩:=h1
    exact absurd (aaH q1) (Nat.not_lt.mpr big)
  rw [au z]
  exact E.CF b hb
theorem kf.back{outer:List Env}{E:XK}{e:Value}{c:Addr}{v:V}{ob:Obj}{P:Program}{w:World}(n:H c=none)(q:s.heap.get? c=some ob)(h:kf P w outer (upd H c (bE c v ob)) s (fun D o H'=>H' c=some (bE c v ob)/\E D o (L2.del H' c)) e s'):kf P w outer H s E e s':=by
 obtain ⟨a,C,H',rfl,os,bare,un,aN,⟨oe,vs,T0,k1,k2,k3,k4,k5,k6,k7,k8,k9⟩,e1,e2⟩:=h
 have dn:∀ {b:Addr},H' b=none->L2.del H' c b=none:=fun {b} m=>by
  by_cases z:b=c
  ·rw [z];exact fv
  ·rw [cL z];exact m
 exact⟨a,C,L2.del H' c,rfl,os,bare,un.back n q e1 aN,aN.back e1,⟨oe,vs,T0,k1,k2,k3,k4,k5,k6,dn k7,k8,fun T z=>⟨dn (k9 T z).1,(k9 T z).2⟩⟩,e2⟩
theorem IC{CX:CH}{k:Nat}{f:Addr}{fd:FuncData}{ps:List Str}{sp:Sp}{Q:VK}{us:List Value}{vs:List V}{y:Str}{c:Addr}{v:V}{u:Value}{E':Obj->XK}(F:j8 X.prog X.w X.K X.mg X.base CX k f fd ps sp)(hr:cj k X.A)(hb:Binds X.K fd ps [])
  (I:Inv X pins σ H s) (r:Vals vs us) (hc:X.env.cells.lookup y=some c) (hf:X.fn y=true) (hu:s.heap.IsCell c (some u)) (rv:RelV v u)
  (hx:∀ ob,H c=none->s.heap.get? c=some ob->∀ e s',CX X.stack (upd H c (bE c v ob)) s (E' ob) e s'->X.xe e s')
  (h:∀ ob,sp vs (upd H c (bE c v ob)) (fun r H'=>H' c=some (bE c v ob)/\Q r (L2.del H' c)) (E' ob)):wpAny (model X.prog X.w) X.A (call (.ref f) us) (EP X pins σ Q) X.xe s:=by
 obtain ⟨ob,e,n,E0⟩:=I.wN hc hf hu rv
 have hl:(us++[]).length=ps.length:=by rw [append_nil,<- r.length];exact F.len _ _ _ _ (h ob)
 have rg:=hb s us I.i9 hl
 rw [append_nil] at rg
 refine wpAny_call (codeAny_mono (F.run X.A X.stack s _ ⟨us,[]⟩ us vs _ (E' ob) hr E0 rg r (h ob)) fun r s' hq=>?_)
 cases r with
 | error e1=>exact hx ob n e e1 s' hq
 | ok fl =>
  cases fl with
  | ret u1 =>
   obtain ⟨v',H',os,bare,un,aN,rv',q1,q2⟩:=hq
   exact I.after ⟨v',L2.del H' c,os,bare,un.back n e q1 aN,aN.back q1,rv',q2⟩
  | next=>exact False.elim hq
  | brk=>exact False.elim hq
  | cont=>exact False.elim hq
theorem Un.lend{fs:List Addr}{H H':Hp}{h h':Heap}{c:Addr}{v:V}{ob:Obj}(u:Un fs [] (L2.del H c) H' h h')(e:H c=some (bE c v ob)):Un fs [] H (upd H' c (bE c v ob)) h h':=by
 have no:∀ {b:Addr},H b=none->b≠c:=fun m z=>by rw [z,e] at m;cases m
 refine⟨fun b o q m hb hx=>u.keep b o q (by rw [cL (no m)];exact m) hb hx,fun b o q m hb hx=>u.slot b o q (by rw [cL (no m)];exact m) hb hx,fun b o q m hx=>?_,fun b o q hx=>u.there b o q hx,fun b xs q=>?_,fun b o x q=>?_,fun b ps q=>?_⟩
 ·rw [au (no m)];exact u.free b o q (by rw [cL (no m)];exact m) hx
 ·have z:b≠c:=fun z=>by rw [z,e] at q;cases q
  rw [au z];exact u.il b xs (by rw [cL z];exact q)
 ·have z:b≠c:=fun z=>by rw [z,e] at q;cases q
  rw [au z];exact u.gZ b o x (by rw [cL z];exact q)
 ·have z:b≠c:=fun z=>by rw [z,e] at q;cases q
  rw [au z];exact u.hJ b ps (by rw [cL z];exact q)
end
end L2
namespace L2
open PySem PySem.Spec PyProof.Rows PySem.W
section
variable {X:Cx}{pins:List (Addr×Obj)}{σ:St}{H:Hp}{s s':Shared}
abbrev mO(X:Cx)(A:Around)(N:List Str)(qual:Str)(scope:Scope)(f:Addr)(cd:Value)(cl:List (Str×Addr))(s:Shared)(H:Hp)(xe:Value->Shared->Prop):Cx :=
 { X with A:=A.deeper (PySem.W.envX qual scope s.heap.objs.size f cd cl),N:=N,s₀:=s,H₀:=H,env:=PySem.W.envX qual scope s.heap.objs.size f cd cl,outer:=X.stack,stack:=PySem.W.envX qual scope s.heap.objs.size f cd cl::X.stack,ex:=[],fn:=fun _=>false,calm:=true,pn:=[],xe:=xe }
end
end L2
namespace L2
open PySem PySem.Spec PyProof.Rows PySem.W
section
variable {X:Cx}{pins:List (Addr×Obj)}{σ:St}{H:Hp}{s s':Shared}
theorem kf.lend{outer:List Env}{E:XK}{e:Value}{c:Addr}{v:V}{ob:Obj}{P:Program}{w:World}(hc:H c=some (bE c v ob))(q:s.heap.get? c=some ob)(hv:∃ u,RelV v u/\ob.data=.cell (some u))(nf:c∉jV outer)
  (h:kf P w outer (L2.del H c) s (fun D o H'=>H' c=none->E D o (upd H' c (bE c v ob))) e s'):kf P w outer H s E e s':=by
 obtain ⟨a,C,H',rfl,os,bare,un,aN,⟨oe,vs,T0,k1,k2,k3,k4,k5,k6,k7,k8,k9⟩,e2⟩:=h
 have MF:s'.heap.get? c=some ob:=un.keep c ob q fv nf (by simp)
 have wO:H' c=none:=un.free c ob q fv (by simp)
 have up:∀ {b:Addr},s.heap.get? b=none->H' b=none->upd H' c (bE c v ob) b=none:=fun {b} m m2=>by
  rw [au (fun z=>by rw [z,q] at m;cases m)]
  exact m2
 exact⟨a,C,upd H' c (bE c v ob),rfl,os,bare,un.lend hc,ft.lend aN wO MF hv,⟨oe,vs,T0,k1,k2,k3,k4,k5,k6,up k8.1 k7,k8,fun T z=>⟨up (k9 T z).2.1 (k9 T z).1,(k9 T z).2⟩⟩,e2 wO⟩
theorem IE{A:Around}{N:List Str}{qual:Str}{scope:Scope}{f:Addr}{cd:Value}{cl:List (Str×Addr)}{xe:Value->Shared->Prop}{E:XK}{e:Value}
  (h:XW (mO X A N qual scope f cd cl s H xe) (fun C _ H'=>E (.ref C) none H') e s') :
  wpAny (model X.prog X.w) (A.deeper (envX qual scope s.heap.objs.size f cd cl)) (leaving (envX qual scope s.heap.objs.size f cd cl) e) (fun _ uc=>kf X.prog X.w X.stack H s E e uc) (fun e' uc=>kf X.prog X.w X.stack H s E e' uc) s':=by
 obtain ⟨a,C,σ',H',rfl,I,⟨oe,vs,T0,he,hc,Ef,hd,jc,hh,xM,⟨HH,_⟩,hT⟩,hE⟩:=h
 have lI:s.heap.get? a=none:=HH
 have yC:∀ T,T0=some T->H' T=none/\s.heap.get? T=none:=fun T z=>⟨(hT T z).1,(hT T z).2.1⟩
 unfold leaving
 refine aaE (mJ (L:=s.heap.objs.size) I.ok.frames I.stack rfl he hd hh fun h' T k1 k2 k3 k4 k5 k6=>?_)
 have ne:∀ b o,s.heap.get? b=some o->b≠a/\some b≠T0/\b≠s.heap.objs.size:=fun b o q=>⟨fun z=>(by rw [z,lI] at q;cases q),fun z=>(by rw [(yC b z.symm).2] at q;cases q),abt (aaH q)⟩
 have Ma:∀ b o,s.heap.get? b=some o->b∉jV X.stack->b∉jV (envX qual scope s.heap.objs.size f cd cl::X.stack):=fun b o q hb z=>by
  rcases aa7.mp (I.iq b z) with r|r
  ·exact (ne b o q).2.2 r
  ·exact hb r
 have off:Off (a::(T0.toList++jV (envX qual scope s.heap.objs.size f cd cl::X.stack))) s'.heap h':=fun b o hb q=>by
  simp only [aa7,aa2,not_or] at hb
  exact k1 b o hb.1 (fun z=>hb.2.1 (by rw [<- z];simp)) hb.2.2 q
 refine⟨a,C,H',rfl,I.os,I.bare,⟨fun b o q n hb hx=>?_,fun b o q n hb hx=>?_,fun b o q n hx=>I.base.free b o q n hx,fun b o q hx=>?_,I.base.il,I.base.gZ,I.base.hJ⟩,I.aN.off (fun b hb=>?_) off,?_,hE⟩
 ·exact k1 b o (ne b o q).1 (ne b o q).2.1 (Ma b o q hb) (I.base.keep b o q n hb hx)
 ·obtain ⟨sl,q1⟩:=I.base.slot b o q n hb hx
  obtain ⟨xR,q2⟩:=k2 b _ (ne b o q).1 (ne b o q).2.1 q1
  exact⟨xR,q2⟩
 ·obtain ⟨o',q1⟩:=I.base.there b o q hx
  obtain ⟨xR,q2⟩:=k2 b _ (ne b o q).1 (ne b o q).2.1 q1
  exact⟨_,q2⟩
 ·simp only [aa7,aa2] at hb
  rcases hb with rfl|hb|hb
  ·exact xM
  ·cases T0 with
   | none=>simp at hb
   | some T1 =>
    simp only [Option.toList_some,aa1] at hb
    rw [hb];exact (yC T1 rfl).1
  ·exact I.eC b hb
 ·refine⟨_,_,some T,k5,(Obj.cls_mapFields _ _).trans hc,(eG _ _).trans Ef,Obj.data_mapFields hd _,by simpa using jc,⟨by simp [jc],k4,k6⟩,xM,⟨lI,fun _ z=>nomatch z⟩,fun T' e=>?_⟩
  cases e
  refine⟨I.aN.free k3,?_,fun _ z=>nomatch z⟩
  cases q:s.heap.get? T with
  | none=>rfl
  | some o =>
   obtain ⟨o',q1⟩:=I.base.there T o q (by show T∉([]:List Addr);simp)
   rw [k3] at q1;cases q1
theorem PE.xe{X:Cx}{E:Value->Shared->Prop}{e:Expr}{t:TE}(h:PE (X.eD E) e t)(k:∀ e s,E e s->X.xe e s):PE X e t:=fun pins s σ H Q I hw =>
 aaU (h pins s σ H Q (I.eD _) hw) (fun _ _ ⟨v,H',J,r,q⟩=>⟨v,H',J.dW,r,q⟩) k
theorem yP{A:Around}{f c' cS:Addr}{qual p y:Str}{params:Arguments}{body:Expr}{scope:Scope}{cl:List (Str×Addr)}{pm mK:Value}{x v:V}{u:Value}{ob:Obj}{te:TE}{Q:VK}{E:XK}
  (I:Inv X pins σ H s) (hd:A.handled=none) (Mr:A.frames=some X.stack) (EC:A.depth<recursionLimit)
  (ho:s.heap.get? f=some (kla_obj "<lambda>" qual params body scope cl pm c' mK)) (kO:s.heap.CodeRec (.ref c') qual)
  (jm:bindArgs (kla_fn "<lambda>" qual params body scope cl pm (.ref c') mK) ⟨[u],[]⟩=pure [(p,u)])
  (i5:scope.names.lookup p=some .local) (Ik:scope.isCoroutine=false) (uD:scope.isGenerator=false) (hk:scope.kind=.function) (dw:∀ y∈scope.names,y.2≠.cell)
  (sD:∀ z,scope.names.lookup z=some .free->z=y) (pG:∀ z c,cl.lookup z=some c->z=y/\c=cS) (QN:cl.lookup y=some cS) (Vj:scope.names.lookup y=some .free) (xO:H cS=some (bE cS v ob))
  (he:PE ((mO X A [p,y] qual scope f (.ref c') cl s (L2.del H cS) fun e s'=>wpAny (model X.prog X.w) (A.deeper (envX qual scope s.heap.objs.size f (.ref c') cl)) (leaving (envX qual scope s.heap.objs.size f (.ref c') cl) e) (fun _ uc=>kf X.prog X.w X.stack H s E e uc) (fun e' uc=>kf X.prog X.w X.stack H s E e' uc) s').eD
   (XW (mO X A [p,y] qual scope f (.ref c') cl s (L2.del H cS) fun e s'=>wpAny (model X.prog X.w) (A.deeper (envX qual scope s.heap.objs.size f (.ref c') cl)) (leaving (envX qual scope s.heap.objs.size f (.ref c') cl) e) (fun _ uc=>kf X.prog X.w X.stack H s E e uc) (fun e' uc=>kf X.prog X.w X.stack H s E e' uc) s') fun C _ H'=>H' cS=none->E (.ref C) none (upd H' cS (bE cS v ob)))) body te)
  (hx:∀ e s',kf X.prog X.w X.stack H s E e s'->X.xe e s')
  (r:RelV x u) (h:te [some x,some v] (L2.del H cS) fun z H2=>H2 cS=none->Q z (upd H2 cS (bE cS v ob))) :
  wpAny (model X.prog X.w) A (call (.ref f) [u]) (EP X pins σ Q) X.xe s:=by
 obtain ⟨⟨IF,uv,S1,NO⟩,_,_⟩:=I.aN cS _ xO
 have Ma:cS∉jV X.stack:=fun hb=>by have:=I.eC cS hb;rw [xO] at this;cases this
 have S0:=he.xe fun e s1 z=>aaU (IE (E:=fun D o H'=>H' cS=none->E D o (upd H' cS (bE cS v ob))) z) (fun _ _ q=>kf.lend xO IF ⟨uv,S1,NO⟩ Ma q) fun _ _ q=>kf.lend xO IF ⟨uv,S1,NO⟩ Ma q
 have ncl:∀ b,H b=none->b≠cS:=fun b m z=>by rw [z,xO] at m;cases m
 refine wpAny_call (codeAny_mono (show codeAny _ _ _ (CR (kf X.prog X.w) X.stack X.prog X.w H s Q E) s from ?_) fun r s' hq=>?_)
 ·refine kla_callFunE EC ho rfl Ik uD rfl kO ?_
  rw [jm]
  refine aaT (wpAny_newFunctionEnv dw (fun y hy=>by rw [aa1.mp hy];exact i5) (fun h₁ nQ ED=>⟨I.nolimit.fresh _ ED,?_⟩) hk)
  show codeAny _ _ (.expr body (envX qual scope s.heap.objs.size f (.ref c') cl)) _ _
  have old:∀ b o,s.heap.get? b=some o->h₁.get? b=some o:=fun b o e=>ED.extBut b o (abt (aaH e)) (aaD _ e)
  have QO:ft X.prog X.w (L2.del H cS) s.heap:=I.aN.back xO
  have dn:∀ {b:Addr},H b=none->L2.del H cS b=none:=fun {b} m=>by rw [cL (ncl b m)];exact m
  have J:Inv (mO X A [p,y] qual scope f (.ref c') cl s (L2.del H cS) fun e s'=>wpAny (model X.prog X.w) (A.deeper (envX qual scope s.heap.objs.size f (.ref c') cl)) (leaving (envX qual scope s.heap.objs.size f (.ref c') cl) e) (fun _ uc=>kf X.prog X.w X.stack H s E e uc) (fun e' uc=>kf X.prog X.w X.stack H s E e' uc) s') [] [some x,some v] (L2.del H cS) { s with heap:=h₁,toks:=s.toks+[(p,u)].length }:=by
   refine⟨⟨I.ok.mod,hk,rfl,rfl,aaK _,fun a b c q1 q2=>by rw [(pG a c q1).1,(pG b c q2).1],fun z hz=>?_,fun x c hf _=>absurd hf Bool.false_ne_true,fun _=>hd,Around.frames_deeper Mr,.inr ⟨rfl,rfl⟩,fun b hb=>(nomatch hb),fun b o q=>⟨(I.bs b o q).1,dn (I.bs b o q).2⟩,aaJ I.ok.qW I.sz,fun b _ _ hb=>(nomatch hb),fun b hb=>(nomatch hb),I.stack,fun b hb=>dn (I.eC b hb)⟩,
    rfl,I.bare,Un.kept old,⟨_,nQ,fun i z w h1 h2 h3=>?_⟩,fun z c q=>?_,QO.fresh (aaK _),fun z c q=>by rw [(pG z c q).2];exact fv,fun p hp=>(nomatch hp),QO.kept old,rfl⟩
   ·rcases hz with hz|hz
    ·exact absurd rfl (dw _ (PySem.mem_of_lookup hz))
    ·exact⟨cS,by rw [sD z hz];exact QN⟩
   ·match i with
    | 0 =>
     have e1:p=z:=by simpa using h1
     have e2:x=w:=by simpa using h2
     subst e1
     subst e2
     exact⟨u,r,.inl ⟨i5,by simp⟩⟩
    | 1 =>
     have e1:y=z:=by simpa using h1
     have e2:v=w:=by simpa using h2
     subst e1
     subst e2
     exact⟨uv,S1,.inr ⟨.inr Vj,cS,QN,⟨ob,old _ _ IF,NO⟩⟩⟩
    | i+2=>simp at h1
   ·rw [(pG z c q).2]
    exact⟨_,⟨ob,old _ _ IF,NO⟩⟩
  refine kla_codeExpr (aaU (S0 [] _ _ (L2.del H cS) _ J h) (fun z s' hv=>?_) fun _ _ z=>z)
  obtain ⟨z',H',J',rv,q⟩:=hv
  have un:Un (jV X.stack) [] (L2.del H cS) H' s.heap s'.heap:=J'.base
  have MF:s'.heap.get? cS=some ob:=un.keep cS ob IF fv Ma (by simp)
  have wO:H' cS=none:=un.free cS ob IF fv (by simp)
  exact⟨z',_,J'.os,J'.bare,un.lend xO,ft.lend J'.aN wO MF ⟨uv,S1,NO⟩,rv,q wO⟩
 ·cases r with
  | error e=>exact hx e s' hq
  | ok fl =>
   cases fl with
   | ret u=>exact I.after hq
   | next=>exact False.elim hq
   | brk=>exact False.elim hq
   | cont=>exact False.elim hq
end
end L2
namespace L2
open PySem PySem.Spec PyProof.Rows PySem.W
def ij(H:Hp)(f cS:Addr)(v:V)(ob:Obj)(q y:Str)(params:Arguments)(body:Expr)(scope:Scope):Prop:=∃ c' cl,H f=some (mM f c' q params body scope cl)/\H c'=some (lJ c' q)/\(∀ z c,cl.lookup z=some c->z=y/\c=cS)/\cl.lookup y=some cS/\H cS=some (bE cS v ob)
theorem ij.same{H H':Hp}{f cS:Addr}{v:V}{ob:Obj}{q y:Str}{params:Arguments}{body:Expr}{scope:Scope}(h:ij H f cS v ob q y params body scope)(s:aj H H'):ij H' f cS v ob q y params body scope:=by
 obtain ⟨c',cl,h1,h2,h3,h4,h5⟩:=h
 exact⟨c',cl,s _ _ h1,s _ _ h2,h3,h4,s _ _ h5⟩
def MG(q y:Str)(params:Arguments)(body:Expr)(scope:Scope)(te:TE)(i:Nat)(t:TE):TE:=fun σ H Q=>∃ f,σ[i]?=some (some (.ref f))/\FnO H f/\t σ H fun x H1=>∃ cS v ob,ij H1 f cS v ob q y params body scope/\te [some x,some v] (L2.del H1 cS) fun z H2=>H2 cS=none->Q z (upd H2 cS (bE cS v ob))
where FnO (H:Hp) (f:Addr):Prop:=∃ c' q params body scope cl,H f=some (mM f c' q params body scope cl)
section
variable {X:Cx}{k:Nat}
theorem wQ{P:Program}{w:World}{H:Hp}{h:Heap}{f c':Addr}{q:Str}{params:Arguments}{body:Expr}{scope:Scope}{cl:List (Str×Addr)}(k:ft P w H h)(e:H f=some (mM f c' q params body scope cl)):FnAt f h:=by
 obtain ⟨⟨pm,mK,z⟩,_⟩:=k f _ e
 exact⟨_,_,_,_,z⟩
end
end L2
namespace L2
open PySem PySem.Spec PyProof.Rows PySem.W
def QP(P:Addr)(lp:Pos)(q:Str)(params:Arguments)(body:Expr)(scope:Scope)(cells:List (Str×Addr)):TE:=fun _ H Q=>fu P lp q H/\∀ f c' H',cX P H H'->fu P lp q H'->H' f=some (mM f c' q params body scope (cF cells scope.names []))->H' c'=some (lJ c' q)->Q (.ref f) H'
def IG(cells:List (Str×Addr))(y:Str)(j:Nat)(sp:Sp)(EX:qT)(t:TA):TE:=fun σ H Q=>t σ H fun vs H1=>∃ v,σ[j]?=some (some v)/\∀ c ob,cells.lookup y=some c->H1 c=none->sp vs (upd H1 c (bE c v ob)) (fun r H'=>H' c=some (bE c v ob)/\Q r (L2.del H' c)) (fun D _ H'=>H' c=some (bE c v ob)/\∃ a,D=.ref a/\EX a σ (L2.del H' c))
def IH(q y:Str)(params:Arguments)(body:Expr)(scope:Scope)(te:qT->TE)(i:Nat)(EX:qT)(t:TE):TE:=fun σ H Q=>∃ f,σ[i]?=some (some (.ref f))/\MG.FnO H f/\t σ H fun x H1=>∃ cS v ob,ij H1 f cS v ob q y params body scope/\te (fun C _ H2=>H2 cS=none->∃ a,Value.ref C=.ref a/\EX a σ (upd H2 cS (bE cS v ob))) [some x,some v] (L2.del H1 cS) fun z H2=>H2 cS=none->Q z (upd H2 cS (bE cS v ob))
section
variable {X:Cx}{k:Nat}{x y:Str}{ps:List Str}{sp:Sp}{p pos:Pos}{e:Expr}{es:List Expr}{t:TA}{j:Nat}{EX:qT}
theorem AE {P c:Addr} {lp:Pos} {q:Str} {params:Arguments} {body:Expr} {scope:Scope} (hq:X.env.qual ++ "<lambda>"=q) (nR:X.env.code=.ref c) (C:CodeHd X.base c P) (hB:X.base.BuiltinsAt X.mg P) (yK:defaultsOf params X.env=([],[]))
  (jO:(scope.names.all fun y=>!(y.2 == NameKind.free) || (X.env.cells.lookup y.1).isSome)=true):PE X (.Lambda params body scope lp) (QP P lp q params body scope X.env.cells):=by
 subst hq
 exact fun pins s σ H Q I h=>wH I h.1 nR C hB yK jO h.2
theorem Ka{pins:List (Addr×Obj)}{σ:St}{H1:Hp}{s1 s':Shared}{e1:Value}(I1:Inv X pins σ H1 s1)(hex:X.ex=[])(hq:kf X.prog X.w X.stack H1 s1 (fun C _ H2=>∃ c,C=.ref c/\EX c σ H2) e1 s'):XW X EX e1 s':=by
 obtain ⟨a,C,H',rfl,ho,Qk,un,aN,⟨oe,Mb,T0,e1,e2,e3,e4,e5,e6,e7,e8,e9⟩,c,ec,hE⟩:=hq
 cases ec
 have I2:Inv X pins σ H' s':=I1.oV (ch:=[]) ho un aN Qk fun b z=>absurd z (by simp)
 have nw:∀ b,s1.heap.get? b=none->X.s₀.heap.get? b=none:=fun b z=>by
  cases q:X.s₀.heap.get? b with
  | none=>rfl
  | some o =>
   obtain ⟨o',q1⟩:=I1.base.there b o q (by rw [hex];simp)
   rw [z] at q1;cases q1
 have np:∀ b,s1.heap.get? b=none->∀ p∈X.pn,p.1≠b:=fun b z p hp q=>by
  have:=(I1.pin p (aa0 _ hp)).1
  rw [q,z] at this;cases this
 exact⟨a,C,σ,H',rfl,(I2.eZ fun p hp=>absurd hp (by simp)).eD _,⟨oe,Mb,T0,e1,e2,e3,e4,e5,e6,e7,⟨nw a e8.1,fun p hp=>np a e8.1 p hp⟩,fun T z=>⟨(e9 T z).1,nw T (e9 T z).2.1,fun p hp=>np T (e9 T z).2.1 p hp⟩⟩,hE⟩
theorem AF(O:tw X.prog X.w X.K X.mg X.base k x ps sp)(hr:cj k X.A)(hX:∀ e s',XW X EX e s'->X.xe e s')(hex:X.ex=[])(ha:PA X (e::es) t)(hN:X.N[j]?=some y)(hv:KD X.env.scope y)(hky:X.env.kindOf y=some .cell)(Oj:X.fn y=true)(hg:Gl X x:=by rfl)
  (ph:(x == ("__debug__":Str))=false:=by decide) (he:starEach (e::es) X.env=(false,eval e X.env)::starEach es X.env:=by rfl) (i0:(backTo pos (starEach es X.env)).any (·.1)=false:=by rfl) :
  PE X (.Call (.Name x p) (e::es) [] pos) (IG X.env.cells y j sp EX t):=by
 obtain ⟨f,fd,F,hm,hk,hb⟩:=O
 intro pins s σ H Q I h
 refine wpAny_Call_Name_kw (gF I hg hm ?_ ph)
 refine callWith_K (h₀:=X.base) I.ok.mod.Gz hk (cp (ha pos pins s σ H _ I h) fun us s1 ⟨vs,H1,I1,r,v,hσ,q⟩=>⟨I1.i9,?_⟩) he i0
 obtain ⟨m,hn,hl⟩:=I1.loc
 obtain ⟨u,ru,l⟩:=hl j y v hN hσ hv
 rcases l with ⟨l1,_⟩|⟨_,c,hc,dw⟩
 ·rw [hky] at l1;cases l1
 ·refine IC (E':=fun ob D _ H'=>H' c=some (bE c v ob)/\∃ a,D=.ref a/\EX a σ (L2.del H' c)) F hr hb I1 r hc Oj dw ru (fun ob n e e' s' z=>hX _ _ (Ka I1 hex (kf.back (E:=fun D _ H'=>∃ a,D=.ref a/\EX a σ H') n e z))) fun ob=>q c ob hc (I1.dF y c hc)
theorem tN{x p y q:Str}{i:Nat}{p1 pos:Pos}{e:Expr}{t:TE}{te:qT->TE}{params:Arguments}{body:Expr}{scope:Scope}(hr:cj k X.A)(hX:∀ e s',XW X EX e s'->X.xe e s')(hex:X.ex=[])(hN:X.N[i]?=some x)(hv:KD X.env.scope x)(ha:PE X e t)
  (jm:∀ (cl:List (Str×Addr)) (pm mK:Value) (c':Addr) (u:Value),bindArgs (kla_fn "<lambda>" q params body scope cl pm (.ref c') mK) ⟨[u],[]⟩=pure [(p,u)])
  (i5:scope.names.lookup p=some .local) (Ik:scope.isCoroutine=false) (uD:scope.isGenerator=false) (hk:scope.kind=.function) (dw:∀ y∈scope.names,y.2≠.cell)
  (sD:∀ z,scope.names.lookup z=some .free->z=y) (Vj:scope.names.lookup y=some .free)
  (he:∀ (EXl:qT) f c' cl s H xe,PE ((mO X X.A [p,y] q scope f (.ref c') cl s H xe).eD (XW (mO X X.A [p,y] q scope f (.ref c') cl s H xe) EXl)) body (te EXl))
  (ph:(x == ("__debug__":Str))=false:=by decide) (kO:(x == ("__classdict__":Str))=false:=by decide)
  (jh:starEach [e] X.env=(false,eval e X.env)::starEach [] X.env:=by rfl) (i0:(backTo pos (starEach [] X.env)).any (·.1)=false:=by rfl) :
  PE X (.Call (.Name x p1) [e] [] pos) (IH q y params body scope te i EX t):=by
 intro pins s σ H Q I ⟨f,hσ,⟨c0,q0,ps0,b0,s0,cl0,hf0⟩,h⟩
 refine wpAny_Call_Name_kw ?_
 refine cp (C6 (pos:=p1) hN hv ph kO pins s σ H (fun v H'=>v=.ref f/\H'=H) I ⟨.ref f,hσ,rfl,rfl⟩) fun u s1 ⟨v,H',I1,r1,e1,e2⟩=>?_
 subst e1
 subst e2
 obtain rfl:u=.ref f:=r1
 have JY:PA X [e] (pf t yc):=aa ha ah jh
 refine callWith_F (first:=[]) (wQ I1.aN hf0) (cp (JY pos pins s1 σ _ (fun vs H1=>match vs with|[x]=>∃ cS v ob,ij H1 f cS v ob q y params body scope/\te (fun C _ H2=>H2 cS=none->∃ a,Value.ref C=.ref a/\EX a σ (upd H2 cS (bE cS v ob))) [some x,some v] (L2.del H1 cS) fun z H2=>H2 cS=none->Q z (upd H2 cS (bE cS v ob))|_=>False) I1 h) fun us s2 ⟨vs,H2,I2,r2,hq⟩=>?_) jh i0
 cases r2 with
 | nil=>exact (show False from hq).elim
 | cons ru2 rb =>
  cases rb with
  | cons _ _=>exact (show False from hq).elim
  | nil =>
   obtain ⟨cS,v,ob,⟨c',cl,l1,l2,l3,l4,l5⟩,q2⟩:=(show ∃ cS v ob,ij H2 f cS v ob q y params body scope/\te (fun C _ H2=>H2 cS=none->∃ a,Value.ref C=.ref a/\EX a σ (upd H2 cS (bE cS v ob))) [some _,some v] (L2.del H2 cS) fun z H2=>H2 cS=none->Q z (upd H2 cS (bE cS v ob)) from hq)
   refine⟨wQ I2.aN l1,?_⟩
   obtain ⟨⟨pm,mK,IF⟩,_⟩:=I2.aN f _ l1
   obtain ⟨hcr,_⟩:=I2.aN c' _ l2
   exact yP (E:=fun D _ H'=>∃ a,D=.ref a/\EX a σ H') I2 hr.hd I2.ok.frames hr.depth IF hcr (jm cl pm mK c' _) i5 Ik uD hk dw sD l3 l4 Vj l5 (he _ f c' cl s2 _ _) (fun e1 s' z=>hX _ _ (Ka I2 hex z)) ru2 q2
end
section
variable {Pr:Program}{w:World}{K:Frag}{mg:Str->Option Value}{base:Heap}
theorem rn.Qj{x:Str}{st:Stmt}{N ps:List Str}{k:Nat}{sp:Sp}{c:Addr}(D:rn K mg x st ps c)(S:aA N ps (ak st))(len:∀ vs H Q E,sp vs H Q E->vs.length=ps.length)
  (fZ:∀ (f:Addr) (A:Around) (outer:List Env) (s:Shared) (H:Hp) (vs:List V) (Q:VK) (E:XK),cj k (A.deeper (envOfC x (ak st) s.heap.objs.size f (.ref c)))->sp vs H Q E ->
   ∃ t,oE ((iz (kf Pr w) Pr w K mg base N x (ak st) f (.ref c) A outer s H E).eD (XW (iz (kf Pr w) Pr w K mg base N x (ak st) f (.ref c) A outer s H E) fun C _ H'=>E (.ref C) none H')) (az st) t/\t { nx:=fun _ H'=>Q .dB H',rt:=Q } (start N vs) H):tw Pr w K mg base (k+1) x ps sp:=by
 obtain ⟨f,fd,oc,od,kV,doc,pm,an,ct,zZ,rfl,lk,kO,U2,hm,hb⟩:=D
 refine⟨f,_,vP lk kO S len fun A outer s H vs Q E hr z0=>?_,hm,U2,hb⟩
 obtain ⟨t,h,q⟩:=fZ f A outer s H vs Q E hr z0
 exact⟨t,h.xe fun e s z=>yB z,q⟩
end
end L2
namespace L2
open PySem PySem.Spec PyProof.Rows PySem.W
def QQ:Stmt->Expr
 | .Return (some e) _=>e
 | _=>.Name "" ⟨0,0,0,0⟩
def QR(i:Nat):Expr->Expr
 | .Call _ as _ _=>as.getD i (.Name "" ⟨0,0,0,0⟩)
 | e=>e
def BG:Expr->Arguments
 | .Lambda p _ _ _=>p
 | _=>⟨[],[],none,[],[],none,[]⟩
def BH:Expr->Expr
 | .Lambda _ b _ _=>b
 | e=>e
def wR:Expr->Scope
 | .Lambda _ _ s _=>s
 | _=>⟨.function,[],false,false,[]⟩
def QS:Expr->Pos
 | .Lambda _ _ _ l=>l
 | _=>⟨0,0,0,0⟩
theorem mP{y:Str}:∀ {l:List (Str×NameKind)},(l.all fun p=>!(p.2 == NameKind.free) || p.1 == y)=true->∀ z,l.lookup z=some .free->z=y
 | [],_,_,h=>by simp at h
 | (a,b)::l,h,z,e=>by
  rw [all_cons,Bool.and_eq_true] at h
  rw [lookup_cons] at e
  by_cases c:z == a
  ·rw [c] at e
   have eb:b=.free:=aaN e
   have:=h.1
   rw [eb] at this
   have ha:a=y:=by simpa using this
   rw [<- ha]
   exact eq_of_beq c
  ·rw [Bool.not_eq_true] at c
   rw [c] at e
   exact mP h.2 z e
end L2
namespace L2
open PySem PySem.Spec PyProof.Rows PySem.W
def ER(t t':TI):TI:=fun σ H R=>t σ H R\/t' σ H R
theorem II{X:Cx}{tg it:Expr}{t t':TI}(h:PI X tg it t)(h':PI X tg it t'):PI X tg it (ER t t'):=fun pins s σ H R I z=>z.elim (h pins s σ H R I) (h' pins s σ H R I)
theorem MH{σ:St}{H:Hp}{R:It->Hp->Prop}{t t':TI}(h:t σ H R):ER t t' σ H R:=.inl h
theorem IJ{σ:St}{H:Hp}{R:It->Hp->Prop}{t t':TI}(h:t' σ H R):ER t t' σ H R:=.inr h
theorem IK{K:Frag}{D:Ends}{σ:St}{H:Hp}{k1 k2 k3:Bool}{a b c:Addr}{xs ys zs:List V}{m n o:Nat}{tb:TS}(hlen:xs.length=ys.length)(Kb:xs.length=zs.length)(Pv:Nat->St->Hp->Prop)(h0:Pv 0 σ H)(ha:∀ i σ H2,Pv i σ H2->Sq k1 K H2 a xs/\Sq k2 K H2 b ys/\Sq k3 K H2 c zs)
  (hs:∀ (i:Nat) x y z σ H2 H3,xs[i]?=some x->ys[i]?=some y->zs[i]?=some z->Pv i σ H2->aj H2 H3->tb { D with nx:=Pv (i+1),ct:=Pv (i+1),bk:=D.nx } (((σ.set m (some x)).set n (some y)).set o (some z)) H3)
  (hd:∀ σ H2,Pv xs.length σ H2->D.nx σ H2):gI (t6 K 3 (fL (bW m) (fL (bW n) (fL (bW o) vL)))) tb D (Hq K k1 k2 k3 a b c) σ H:=by
 refine tF xs.length Pv h0 (fun i σ H2 hi p=>?_) (fun σ H2 p=>⟨_,(ha _ σ H2 p).1,aaK _⟩) (fun i x σ H2 H3 hi p hy=>?_) hd
 ·obtain ⟨a1,a2,a3⟩:=ha i σ H2 p
  exact⟨_,_,_,xs[i],ys[i]'(hlen ▸ hi),zs[i]'(Kb ▸ hi),a1,a2,a3,aaY hi,aaY (hlen ▸ hi),aaY (Kb ▸ hi)⟩
 ·obtain ⟨a1,a2,a3⟩:=ha i σ H2 p
  obtain ⟨q,x',y',z',rfl,hq,e1,e2,e3,rfl⟩:=hy
  refine⟨q,_,rfl,aR.of aw,rfl,_,_,rfl,_,_,rfl,_,_,rfl,rfl,?_⟩
  exact hs i x' y' z' σ _ _ (e1 _ a1) (e2 _ a2) (e3 _ a3) p (aj.bf hq)
end L2
namespace L2
open PySem PySem.Spec PyProof.Rows PySem.W
abbrev ki:=Addr×Pos×Str
def bK(Ts:List ki)(H H':Hp):Prop:=∀ b o,(∀ t∈Ts,b≠t.1)->H b=some o->H' b=some o
def cY(Ts:List ki)(H:Hp):Prop:=(Ts.map (·.1)).Nodup/\∀ t∈Ts,fu t.1 t.2.1 t.2.2 H
section
variable {Ts:List ki}{H H' H1 H2:Hp}{K:Frag}{a l:Addr}{xs:List V}
theorem bK.trans(s:bK Ts H H1)(u:bK Ts H1 H2):bK Ts H H2:=fun x o n e=>u x o n (s x o n e)
theorem bK.of(s:aj H H1):bK Ts H H1:=fun x o _ e=>s x o e
theorem cX.s{t:ki}(s:cX t.1 H H1)(h:t∈Ts):bK Ts H H1:=fun b o n e=>s b o (n t h) e
theorem cY.same(t:cY Ts H)(s:aj H H'):cY Ts H':=⟨t.1,fun x hx=>(t.2 x hx).same s⟩
theorem cY.no{b:Addr}{o:HO}(t:cY Ts H)(e:H b=some o)(h:∀ ps,o≠.oB ps):∀ x∈Ts,b≠x.1:=fun x hx z=>by
 obtain ⟨ps,hp⟩:=(t.2 x hx).at
 rw [<- z,e] at hp
 cases hp
 exact h ps rfl
theorem bK.get{b:Addr}{o:HO}(s:bK Ts H H')(t:cY Ts H)(e:H b=some o)(h:∀ ps,o≠.oB ps):H' b=some o:=s b o (t.no e h) e
theorem bK.at(s:bK Ts H H')(t:cY Ts H)(h:aR K H a xs):aR K H' a xs :=
 h.imp (fun z=>z.imp (fun e=>s.get t e fun _ w=>nomatch w) fun ⟨o,e⟩=>⟨o,s.get t e fun _ w=>nomatch w⟩) id
theorem bK.seq(s:bK Ts H H')(t:cY Ts H)(h:aW K H a xs):aW K H' a xs :=
 h.imp (fun z=>z.imp (fun e=>s.get t e fun _ w=>nomatch w) fun ⟨o,e⟩=>⟨o,s.get t e fun _ w=>nomatch w⟩) id
theorem bK.lst(s:bK Ts H H')(t:cY Ts H)(h:H a=some (.lst xs)):H' a=some (.lst xs):=s.get t h fun _ w=>nomatch w
theorem bK.new(s:bK Ts H H')(t:cY Ts H')(n:H' a=none):H a=none:=by
 match e:H a with
 | none=>rfl
 | some o =>
  by_cases z:∀ x∈Ts,a≠x.1
  ·rw [s a o z e] at n
   cases n
  ·exfalso
   apply z
   intro x hx w
   obtain ⟨ps,hp⟩:=(t.2 x hx).at
   rw [w,hp] at n
   cases n
theorem bK.cR{o:HO}(s:bK Ts H H2)(h:H l=none):bK Ts H (upd H2 l o):=fun b u n e=>by
 rw [au (fun z=>by rw [z,h] at e;cases e)]
 exact s b u n e
theorem cY.off{ys zs:List V}(t:cY Ts H)(e:H l=some (.lst ys)):cY Ts (upd H l (.lst zs)):=⟨t.1,fun x hx=>(t.2 x hx).off e⟩
theorem tO:∀ {Ts:List ki} {x t:ki},(Ts.map (·.1)).Nodup->x∈Ts->t∈Ts->x.1=t.1->x=t
 | y::Ts,x,t,h,hx,ht,e=>by
  rw [map_cons,nodup_cons] at h
  rcases aa7.mp hx with rfl|qX
  ·rcases aa7.mp ht with rfl|Gj
   ·rfl
   ·exact absurd (mem_map_of_mem (f:=fun y:ki=>y.1) Gj) (fun w=>h.1 (by rw [e];exact w))
  ·rcases aa7.mp ht with rfl|Gj
   ·exact absurd (mem_map_of_mem (f:=fun y:ki=>y.1) qX) (fun w=>h.1 (by rw [<- e];exact w))
   ·exact tO h.2 qX Gj e
theorem cY.step{t:ki}(T:cY Ts H)(ht:t∈Ts)(s:cX t.1 H H')(n:fu t.1 t.2.1 t.2.2 H'):cY Ts H':=by
 refine⟨T.1,fun x hx=>?_⟩
 by_cases z:x.1=t.1
 ·rw [tO T.1 hx ht z]
  exact n
 ·obtain ⟨ps,h1,h2,h3⟩:=T.2 x hx
  obtain ⟨pt,Gj⟩:=(T.2 t ht).at
  exact⟨ps,s _ _ z h1,h2,h3.imp id fun ⟨c,e,y⟩=>⟨c,e,s _ _ (fun w=>by rw [w,Gj] at y;cases y) y⟩⟩
end
def uI(Ts:Frag->List ki)(K:Frag):Sp:=fun vs H Q _=>∃ (a:Addr) (ns:List Int),vs=[.ref a]/\aW K H a (ns.map V.int)/\ns.length<=63/\cY (Ts K) H/\∀ H',Q (.bl true) H'
def pV(tf:Frag->Option (Addr×Addr))(K:Frag):Addr:=((tf K).getD (0,0)).2
theorem jI{tf:Frag->Option (Addr×Addr)}{K:Frag}{c P:Addr}(h:tf K=some (c,P)):pV tf K=P:=by unfold pV;rw [h];rfl
end L2
namespace L2
open PySem PySem.Spec PyProof.Rows PySem.W
theorem BI{l:OpenLaw}{k:Nat}{pq:Program}{loose:List Str}{XP:(Str->Option Value)->Heap->Prop}{YP:World->Heap->Prop}{d:DefRec}{K:Params->Frag}{x:Str}{c1 P1 c2 P2 c3 P3:Addr}(t1:Frag->Option (Addr×Addr))(lp1:Pos)(q1:Str)(t2:Frag->Option (Addr×Addr))(lp2:Pos)(q2:Str)(t3:Frag->Option (Addr×Addr))(lp3:Pos)(q3:Str)
  (hi:importsNone pq=true) (hn:l.most=some 63) (T8:d.params.defaults=[]) (hr:cj k callerA)
  (hY:∀ (w:World) (h:Heap),YP w h->(K w.params).In h/\h.get? P1=some (tabObj #[])/\h.get? P2=some (tabObj #[])/\h.get? P3=some (tabObj #[])) (QT:∀ w:World,t1 (K w.params)=some (c1,P1)) (QU:∀ w:World,t2 (K w.params)=some (c2,P2)) (QV:∀ w:World,t3 (K w.params)=some (c3,P3)) (SS:∀ w:World,codeHdIn (K w.params) c1 P1=true) (Vk:∀ w:World,codeHdIn (K w.params) c2 P2=true) (Vl:∀ w:World,codeHdIn (K w.params) c3 P3=true) (Vm:∀ w:World,(K w.params).lookup P1=none) (Vn:∀ w:World,(K w.params).lookup P2=none) (Vo:∀ w:World,(K w.params).lookup P3=none)
  (hd:[P1,P2,P3].Nodup)
  (F:∀ (w:World) (mg:Str->Option Value) (fa:Addr) (h:Heap),(K w.params).In h->h.Ns mainGlobals mg->mg d.name=some (.ref fa)->t1 (K w.params)=some (c1,P1)->t2 (K w.params)=some (c2,P2)->t3 (K w.params)=some (c3,P3) ->
   ∃ fd:FuncData,(∀ (s:Shared) (u:Value),BindsTo s fd ⟨[u],[]⟩ [(x,u)]) /\
    ∀ base:Heap,(K w.params).In base->base.Ns mainGlobals mg->CodeHd base c1 P1->base.BuiltinsAt mg P1->CodeHd base c2 P2->base.BuiltinsAt mg P2->CodeHd base c3 P3->base.BuiltinsAt mg P3->base.NoSeer->j8 l.prog w (K w.params) mg base CI k fa fd [x] (uI (fun K=>[(pV t1 K,lp1,q1),(pV t2 K,lp2,q2),(pV t3 K,lp3,q3)]) (K w.params))) :
  PySem.W.WalkO pq loose XP YP l.row.toRowW d [] (fun f vs=>PySem.call f vs):=by
 refine Att.vQ hn T8 fun w s₀ s₁ mg mb fa o pm cd doc a vs ns G Y ho Jw kO OV Lf hints hlen hg=>?_
 obtain ⟨KX,hP1,hP2,hP3⟩:=hY w _ Y
 obtain ⟨fd,hb,hF⟩:=F w mg fa _ KX G.T.g OV (QT w) (QU w) (QV w)
 have m1:(c1,P1)∈[(c1,P1),(c2,P2),(c3,P3)]:=.head _
 have m2:(c2,P2)∈[(c1,P1),(c2,P2),(c3,P3)]:=.tail _ (.head _)
 have m3:(c3,P3)∈[(c1,P1),(c2,P2),(c3,P3)]:=.tail _ (.tail _ (.head _))
 refine BE (tabs:=[(c1,P1),(c2,P2),(c3,P3)]) (fun t h1=>?_) (fun t h1=>?_) G.T.bmain (G.T.seer hi) KX G.T.g G.T.b G.T.builtins G.T.nolimit hg Lf hints (aaJ hlen (by decide)) hr (fun base b1 b2 b3 b4=>hF base b1 b2 (b3 _ m1).1 (b3 _ m1).2 (b3 _ m2).1 (b3 _ m2).2 (b3 _ m3).1 (b3 _ m3).2 b4) hb (fun H hO hS=>⟨a,ns,rfl,hS,hlen,⟨?_,fun t h1=>?_⟩,fun _=>rfl⟩) fun H e s' z=>z
 ·rcases aa7.mp h1 with rfl|h1
  ·exact⟨codeHd_of_K KX (SS w),hP1⟩
  ·rcases aa7.mp h1 with rfl|h1
   ·exact⟨codeHd_of_K KX (Vk w),hP2⟩
   ·rw [aa1.mp h1]
    exact⟨codeHd_of_K KX (Vl w),hP3⟩
 ·rcases aa7.mp h1 with rfl|h1
  ·exact Vm w
  ·rcases aa7.mp h1 with rfl|h1
   ·exact Vn w
   ·rw [aa1.mp h1]
    exact Vo w
 ·show [pV t1 (K w.params),pV t2 (K w.params),pV t3 (K w.params)].Nodup
  rw [jI (QT w),jI (QU w),jI (QV w)]
  exact hd
 ·rcases aa7.mp h1 with rfl|h1
  ·show fu (pV t1 (K w.params)) lp1 q1 H
   rw [jI (QT w)]
   exact⟨#[],hO _ m1,trivial,.inl rfl⟩
  ·rcases aa7.mp h1 with rfl|h1
   ·show fu (pV t2 (K w.params)) lp2 q2 H
    rw [jI (QU w)]
    exact⟨#[],hO _ m2,trivial,.inl rfl⟩
   ·rw [aa1.mp h1]
    show fu (pV t3 (K w.params)) lp3 q3 H
    rw [jI (QV w)]
    exact⟨#[],hO _ m3,trivial,.inl rfl⟩
open PySem PySem.Spec PyProof.Rows
theorem aK.iX{Ts:List ki}{K:Frag}{H H':Hp}(s:bK Ts H H')(t:cY Ts H):∀ {xs:List V} {rs:List (List Int)},aK K H xs rs->aK K H' xs rs
 | _,_,.nil=>.nil
 | _,_,.cons h u=>.cons (s.at t h) (u.iX s t)
theorem gK.iX{Ts:List ki}{K:Frag}{H H':Hp}(s:bK Ts H H')(t:cY Ts H):∀ {xs:List V} {ks:List (List Int×Int)},gK K H xs ks->gK K H' xs ks
 | _,_,.nil=>.nil
 | _,_,.cons h hw u=>.cons (s.at t h) (s.at t hw) (u.iX s t)
theorem bM.iX{Ts:List ki}{H H':Hp}(s:bK Ts H H')(t:cY Ts H):∀ {xs:List V} {rs:List (List Int)},bM H xs rs->bM H' xs rs
 | _,_,.nil=>.nil
 | _,_,.cons h u=>.cons (s.lst t h) (u.iX s t)
theorem cY.ins{Ts:List ki}{H:Hp}{x C dx:Addr}{fs:List (Str×V)}{o:HO}(t:cY Ts H)(e:H x=some (.ins C dx fs)):cY Ts (upd H x o):=by
 refine⟨t.1,fun r hr=>?_⟩
 obtain ⟨ps,h1,h2,h3⟩:=t.2 r hr
 refine⟨ps,by rw [au (fun z=>by rw [z,e] at h1;cases h1)];exact h1,h2,h3.imp id fun ⟨c,hc,hz⟩=>⟨c,hc,?_⟩⟩
 rw [au (fun z=>by rw [z,e] at hz;cases hz)]
 exact hz
section
variable {K:Frag}{H:Hp}{σ:St}{Q:VK}{ix:List (Option Nat)}
theorem tP{n:Nat}{te:TE}(fr:St)(P:Nat->Int->Prop)(ka:pick ix σ=none::fr)(hn:n<=1000)
  (step:∀ (i:Nat) H' (Qc:VK),i<n->aj H H'->(∀ x H5,P i x->aj H' H5->Qc (.int x) H5)->te (some (.int i)::fr) H' Qc)
  (hQ:∀ l H' (xs:List Int),H l=none->aj H H'->H' l=some (.lst (xs.map V.int))->xs.length=n->(∀ (i:Nat) (x:Int),xs[i]?=some x->P i x)->Q (.ref l) H'):bG ix (bW 0) (fun _ H Q=>Q true H) te σ Q (JC 0 n) H:=by
 refine eI 1 fr n (fun l i ys H'=>∃ xs:List Int,ys=xs.map V.int/\xs.length=i/\i<=n/\∀ (j:Nat) (x:Int),xs[j]?=some x->P j x) ka (fun l H' _ _ _=>⟨[],rfl,rfl,abr _,fun j x h=>by simp at h⟩) (fun l i ys H' ⟨xs,e,l1,l2,_⟩=>by rw [e,aa4];lia) (fun _ _=>aaK _) (fun i _ hi _=>hi) (fun l i x H' H2 own ys ho hi hl hs d6 hp hy Qy Qn ky kn=>?_) (fun l H' ys hl hs d6 hp=>?_)
 ·obtain ⟨xs,rfl,l1,l2,hP⟩:=hp
  obtain ⟨o,rfl⟩:∃ o,own=[o]:=by match own,ho with|[o],_=>exact⟨o,rfl⟩
  obtain ⟨rfl,rfl⟩:=hy
  dsimp only [bW]
  rw [if_pos rfl,Int.zero_add]
  refine step i _ _ hi hs fun y H5 py s5=>?_
  refine ky [some (.int i)] (.int y) H5 rfl s5 ⟨xs++[y],by rw [abl];rfl,by rw [aa5,l1];rfl,hi,fun j z hz=>?_⟩
  by_cases hj:j<xs.length
  ·rw [aaM hj] at hz
   exact hP j z hz
  ·have lD:=(aaG.mp hz).1
   rw [aa5,aaF] at lD
   obtain rfl:j=i:=by lia
   rw [abe (by lia),show j - xs.length=0 by lia] at hz
   cases hz
   exact py
 ·obtain ⟨xs,rfl,l1,_,hP⟩:=hp
  exact hQ l H' xs hl hs d6 l1 hP
end
section
variable {X:Cx}
theorem MI:jb X (compareOp .Is) (fun x y H Q=>∃ a b:Bool,x=.bl a/\y=.bl b/\Q (.bl (a == b)) H):=by
 intro pins s σ H x y v u Q I rx ry ⟨a,b,h1,h2,h⟩
 subst h1
 subst h2
 obtain rfl:v=.bool a:=rx
 obtain rfl:u=.bool b:=ry
 refine wpAny_is_plain rfl ⟨.bl (a == b),H,I,?_,h⟩
 cases a <;> cases b <;> rfl
end
end L2

set_option maxHeartbeats 8000000
namespace PySem.W.Fast
theorem tw2597273937128732203:True:=trivial
theorem tw18253368954228534790:True:=trivial
theorem tw12874921924792699762:True:=trivial
theorem tw8879200697660954279:True:=trivial
theorem tw11301560235715195211:True:=trivial
theorem tw4719349234050335556:True:=trivial
theorem tw3794208782293259531:True:=trivial
theorem tw8078975013074040362:True:=trivial
theorem tw14858276106946245724:True:=trivial
theorem tw9214066052245603778:True:=trivial
theorem tw12042542026868196881:True:=trivial
theorem tw2824082757896290951:True:=trivial
theorem tw18377261227206962894:True:=trivial
theorem tw5309568854827716154:True:=trivial
theorem tw13879286376814980773:True:=trivial
theorem tw4443806505506951070:True:=trivial
theorem tw3555862321220795898:True:=trivial
theorem tw4546290915170913703:True:=trivial
theorem tw9093263189409585969:True:=trivial
theorem tw2746301955308922989:True:=trivial
theorem tw9697408853668705466:True:=trivial
theorem tw13282572032776967559:True:=trivial
theorem tw12457395434203365408:True:=trivial
theorem tw4882241531664298146:True:=trivial
theorem tw2860065852939865060:True:=trivial
theorem tw16762042040468229254:True:=trivial
theorem tw11722972758874191697:True:=trivial
theorem tw1279872305588739670:True:=trivial
theorem tw9850946678015591443:True:=trivial
theorem tw10196679806050398439:True:=trivial
theorem tw13959474975626950341:True:=trivial
theorem tw9720323828894417535:True:=trivial
theorem tw17718518207204331346:True:=trivial
theorem tw4745791998003646637:True:=trivial
theorem tw7685217609458655511:True:=trivial
theorem tw1170305492953838637:True:=trivial
theorem tw8134283640936887478:True:=trivial
theorem tw4816014636280972328:True:=trivial
theorem tw17182256674791106157:True:=trivial
theorem tw17051418516050055826:True:=trivial
theorem tw12858997321279332893:True:=trivial
theorem tw5581147932422191789:True:=trivial
theorem tw11723060624954586887:True:=trivial
theorem tw2938936410773896770:True:=trivial
theorem tw12820173574769295272:True:=trivial
theorem tw7331426991673208209:True:=trivial
theorem tw223228535130591986:True:=trivial
theorem tw10348492210223470313:True:=trivial
theorem tw13333705614926507788:True:=trivial
theorem tw17967900145360767112:True:=trivial
theorem tw4939884777446107559:True:=trivial
theorem tw51330122602842451:True:=trivial
theorem tw11358465289698915529:True:=trivial
theorem tw7314390509187875938:True:=trivial
theorem tw12920346869248874368:True:=trivial
theorem tw3784406987092741128:True:=trivial
theorem tw11703992995858138491:True:=trivial
theorem tw3557202385565351349:True:=trivial
theorem tw4526810428582352402:True:=trivial
theorem tw17110836017190518603:True:=trivial
theorem tw2975537479586717175:True:=trivial
theorem tw14043333525303751112:True:=trivial
theorem tw14619666606511415052:True:=trivial
theorem tw17299066810067779739:True:=trivial
theorem tw17721584876047601083:True:=trivial
theorem tw12675662573312144445:True:=trivial
theorem tw12643780480850873962:True:=trivial
theorem tw2353337036362772381:True:=trivial
theorem tw5353471997336093826:True:=trivial
theorem tw9466331788814593111:True:=trivial
theorem tw15845855482446099740:True:=trivial
theorem tw4073380152153905971:True:=trivial
theorem tw10014263621809518180:True:=trivial
theorem tw4827068508419376698:True:=trivial
theorem tw15568408433397066401:True:=trivial
theorem tw16763583251092443215:True:=trivial
theorem tw4687868618518402049:True:=trivial
theorem tw10579560564439848238:True:=trivial
theorem tw5031279566348670651:True:=trivial
theorem tw719807587972146813:True:=trivial
theorem tw17192749974366374453:True:=trivial
theorem tw12916825094519005585:True:=trivial
theorem tw14557837417042630594:True:=trivial
theorem tw11013801784042200666:True:=trivial
theorem tw15642041393190181824:True:=trivial
theorem tw11349223114346800958:True:=trivial
theorem tw664196266764290845:True:=trivial
theorem tw1260668254457756057:True:=trivial
theorem tw12247851273334085770:True:=trivial
theorem tw9472408663756043373:True:=trivial
theorem tw6717087515217104298:True:=trivial
theorem tw12613652156895642649:True:=trivial
theorem tw18421947769384261690:True:=trivial
theorem tw8287122480344716368:True:=trivial
theorem tw1047394860089653849:True:=trivial
theorem tw6391607768088107503:True:=trivial
theorem tw10635994953267039718:True:=trivial
theorem tw11494085806281174944:True:=trivial
theorem tw13730743398597667637:True:=trivial
end PySem.W.Fast
namespace Law
open d7 (de Gk Eqv LB Led Len Lo PJ SF SJ Span at' oJ Aj bI uj dh wb gs jE Bi um fM cQ low bN uk gf lF cu bJ yx cA bq aB sub bC sub_len fU iD take_snoc pI dH)
open PySem L2
def top(i:Nat):Stmt:=PySem.Challenge.pw_tuningyard_k67_respelled.main.body.getD i (.Pass ⟨0,0,0,0⟩)
abbrev ed:Stmt:=top 8
abbrev gj:Stmt:=top 9
abbrev eQ:Stmt:=top 10
abbrev eR:Stmt:=top 11
abbrev kj:Stmt:=top 12
abbrev iG:Stmt:=top 13
abbrev cw:Stmt:=top 15
abbrev cM:Stmt:=top 16
abbrev eS:Stmt:=top 17
abbrev gk:Stmt:=top 18
abbrev cN:Stmt:=top 19
abbrev dI:Stmt:=top 20
abbrev bO:Stmt:=top 24
abbrev di:Stmt:=top 25
abbrev eT:Stmt:=top 26
abbrev gm:Stmt:=top 27
abbrev eU:Stmt:=top 28
abbrev iH:Stmt:=top 29
abbrev eV:Stmt:=top 30
abbrev cO:Stmt:=top 35
abbrev dj:Stmt:=top 36
abbrev dJ:Stmt:=top 37
abbrev dM:Stmt:=top 38
abbrev cx:Stmt:=top 39
abbrev dk:Stmt:=top 40
abbrev ee:Stmt:=top 41
abbrev eg:Stmt:=top 42
abbrev eW:Stmt:=top 43
abbrev eh:Stmt:=top 44
abbrev dN:Stmt:=top 45
abbrev ei:Stmt:=top 46
abbrev dq:Stmt:=top 47
abbrev eX:Stmt:=top 48
abbrev dO:Stmt:=top 49
abbrev gn:Stmt:=top 50
abbrev lM:Stmt:=top 51
abbrev bA:Stmt:=Ay (top 33) 0
abbrev bt:Stmt:=Ay (top 33) 1
@[elab_as_elim] theorem fh {α : Type} {P : List α -> Prop} (us : List α) (hl : us.length = 1) (h : ∀ a0 : α, P [a0]) : P us :=
 match us,hl with|[a0],_=>h a0
@[elab_as_elim] theorem bZ {α : Type} {P : List α -> Prop} (us : List α) (hl : us.length = 2) (h : ∀ a0 a1 : α, P [a0, a1]) : P us :=
 match us,hl with|[a0,a1],_=>h a0 a1
@[elab_as_elim] theorem lO {α : Type} {P : List α -> Prop} (us : List α) (hl : us.length = 3) (h : ∀ a0 a1 a2 : α, P [a0, a1, a2]) : P us :=
 match us,hl with|[a0,a1,a2],_=>h a0 a1 a2
def dot(a b:List Int):Int:=(List.zipWith (·*·) a b).sum
def val(w:List Int)(m:Int)(r:List Int):Int:=if m=0 then dot r w else dot r w % m
def num(c b:Int):Int:=(c+b) % (2*b+1) - b
def vals(ks:List (List Int×Int))(r:List Int):List Int:=ks.map fun k=>val k.1 k.2 r
theorem mem_of{α:Type}{ks:List α}{i:Nat}{k:α}(h:ks[i]?=some k):k∈ks:=by
 obtain ⟨h1,h2⟩:=aaG.mp h
 rw [<- h2]
 exact abw h1
def QW:Expr->Pos
 | .Call _ _ (⟨_,.Lambda _ _ _ p,_⟩::_) _=>p
 | _=>⟨0,0,0,0⟩
def MJ:Stmt->Expr
 | .Assign _ v _=>v
 | _=>.Constant .none 0 ⟨0,0,0,0⟩
def MK:Stmt->List Stmt
 | .While _ b _ _=>b
 | _=>[]
theorem ES{M:Nat}{r:List Int}{x:Int}(h:de M r)(hx:x∈r):x.natAbs<=M:=by
 obtain ⟨i,hi,e⟩:=abx hx
 have:=h i
 rw [List.getD,aaY hi,e] at this
 exact this
def jP(p:Nat)(v:List Int):List Int:=if v.getD p 0<0 then cA v (-1) else v
theorem ET{p:Nat}{v:List Int}(h:v.getD p 0≠0):0<(jP p v).getD p 0:=by
 unfold jP
 split
 ·rw [bq];lia
 ·lia
theorem IL{p:Nat}{v:List Int}:at' p (jP p v)=at' p v:=by
 unfold jP at'
 split
 ·rw [bq];lia
 ·rfl
theorem EU{p n:Nat}{v:List Int}(h:v.length=n):(jP p v).length=n:=by
 unfold jP
 split
 ·exact aB h
 ·exact h
theorem IM{p B:Nat}{v:List Int}(h:de B v):de B (jP p v):=by
 unfold jP
 split
 ·intro i
  rw [bq]
  have:=h i
  lia
 ·exact h
theorem ML{α:Type}(f:α->Bool):∀ l:List α,(l.filter fun v=>!f v).length+(l.filter f).length=l.length
 | []=>rfl
 | x::l=>by
  have h:=ML f l
  simp only [List.filter_cons,length_cons]
  cases f x <;> simp <;> lia
theorem EV(p:Nat)(s:List Int)(rest:List (List Int)):(cQ p s rest).length+(fM p s rest).length=rest.length:=by
 have h:=ML (fun v:List Int=>v.getD p 0 == 0) (rest.map (bN p s))
 rw [aa4] at h
 have e:(cQ p s rest)=(rest.map (bN p s)).filter (fun v=>!(v.getD p 0 == 0)):=rfl
 rw [e]
 unfold fM
 lia
theorem MM{b i:Nat}(hb:b<=109)(hi:i<5):gs b i<9000/\d7.ss b (i+1)<400000:=by
 match i,hi with
 | 0,_|1,_|2,_|3,_|4,_=>simp only [gs,d7.ss];lia
theorem getD_mem{q:List Int}{i:Nat}(h:i<q.length):q.getD i 0∈q:=by rw [List.getD,aaY h];exact abw h
abbrev IP:Pos:=QW (MJ ((MK ((az gm).getD 2 (.Pass ⟨0,0,0,0⟩))).getD 0 (.Pass ⟨0,0,0,0⟩)))
abbrev EW:Expr:=QR 1 (QQ ((az gk).getD 0 (.Pass ⟨0,0,0,0⟩)))
abbrev Kc:Pos:=QS EW
abbrev EZ:Expr:=QR 1 (QQ ((az dI).getD 0 (.Pass ⟨0,0,0,0⟩)))
abbrev Kd:Pos:=QS EZ
abbrev TsK (K:Frag):List ki:=[(dX K "parted",IP,"parted.<locals>.<lambda>"),(dX K "sounds",Kc,"sounds.<locals>.<lambda>"),(dX K "respelled",Kd,"respelled.<locals>.<lambda>")]
abbrev bP(K:Frag)(H:Hp):Prop:=cY (TsK K) H
abbrev i6(K:Frag)(H H':Hp):Prop:=bK (TsK K) H H'
def Vp(ls:List Int)(p B j:Nat)(x:Int):Prop:=(p<j->x=0)/\(j=p->x=ls.getD j 0)/\(j<p->0<ls.getD j 0->0<=x/\x<ls.getD j 0)/\x.natAbs<=B
def Vq(ls:List Int)(p B:Nat)(xs:List Int):Prop:=∀ j,j<xs.length->Vp ls p B j (xs.getD j 0)
def LR(ls:List Int)(p B:Nat)(r:List Int):Prop:=r.length=5/\Vq ls p B r
theorem LR.bd{ls r:List Int}{p B:Nat}(h:LR ls p B r):de B r:=fun i=>by
 by_cases c:i<r.length
 ·exact (h.2 i c).2.2.2
 ·rw [List.getD,getElem?_eq_none (by lia)]
  exact abr _
def TS(ls:List Int)(B lo:Nat)(rs:List (List Int)):Prop:=SF rs/\∀ r∈rs,∃ p,lo<=p/\p<5/\0<ls.getD p 0/\LR ls p B r
theorem AG{n j:Nat}(h:j<n):Gf n (j:Int)=some j:=by
 unfold Gf
 rw [if_pos (by lia),if_pos (by lia),aby]
theorem MN{M:Nat}{r:List Int}(h:∀ x∈r,x.natAbs<=M):de M r:=fun i=>by
 by_cases hi:i<r.length
 ·exact h _ (getD_mem hi)
 ·rw [List.getD,getElem?_eq_none (by lia)]
  exact abr _
def Hr(ks:List (List Int×Int))(r:List Int):Prop:=∃ k∈ks,val k.1 k.2 r≠0
instance (ks:List (List Int×Int)) (r:List Int):Decidable (Hr ks r):=inferInstanceAs (Decidable (∃ k∈ks,val k.1 k.2 r≠0))
theorem AH{x dx C:Addr}{H:Hp}(h1:H x=none)(h2:H dx=none):aj H (upd (upd H dx (.own x)) x (.ins C dx [])):=fun b o e=>by
 have n1:b≠x:=fun z=>by rw [z,h1] at e;cases e
 have n2:b≠dx:=fun z=>by rw [z,h2] at e;cases e
 rw [au n1,au n2]
 exact e
theorem MO{K:Frag}{x dx C:Addr}{H H1:Hp}{o:HO}(h1:H x=none)(h2:H dx=none)(s:i6 K (upd (upd H dx (.own x)) x (.ins C dx [])) H1):i6 K H (upd H1 x o):=fun b o' n e=>by
 have n1:b≠x:=fun z=>by rw [z,h1] at e;cases e
 rw [au n1]
 exact s b o' n (AH h1 h2 b o' e)
theorem lP{K:Frag}{H H1:Hp}{x C dx:Addr}{fs:List (Str×V)}(s:i6 K H H1)(t:bP K H)(e:H x=some (.ins C dx fs)):H1 x=some (.ins C dx fs):=s.get t e fun _ w=>nomatch w
inductive Tu where
 | plain:Tu
 | comma (st:List (List Int)):Tu
 | key (ks:List (List Int×Int)):Tu
 | tQ (w:List Int):Tu
def fw(K:Frag)(H:Hp)(t l:Addr):Tu->Prop
 | .plain=>∃ C dx,nsIn K mainGlobals "Tuning"=some (some (.ref C))/\H t=some (.ins C dx [])
 | .comma st=>∃ C dx ys,nsIn K mainGlobals "CommaTuning"=some (some (.ref C))/\H t=some (.ins C dx [("steps",.ref l)])/\H l=some (.lst ys)/\aK K H ys st
 | .key ks=>∃ C dx ys,nsIn K mainGlobals "KeyTuning"=some (some (.ref C))/\H t=some (.ins C dx [("own_keys",.ref l)])/\H l=some (.lst ys)/\gK K H ys ks
 | .tQ w=>∃ C dx ys,nsIn K mainGlobals "Board"=some (some (.ref C))/\H t=some (.ins C dx [("own_keys",.ref l),("octave",.int (w.getD 0 0))])/\H l=some (.lst ys)/\gK K H ys [(w,0)]
def Tu.ok:Tu->Prop
 | .plain=>True
 | .comma st=>SF st/\Len 5 st/\∀ v∈st,de (2 ^ 500) v
 | .key ks=>ks.length<=6/\(∀ k∈ks,k.2=0\/2<=k.2)/\∀ k∈ks,k.1.length=5/\de (2 ^ 20) k.1/\k.2.natAbs<=2 ^ 20
 | .tQ w=>w.length=5/\de (2 ^ 20) w
theorem fw.same{K:Frag}{H H':Hp}{t l:Addr}:∀ {u:Tu},fw K H t l u->aj H H'->fw K H' t l u
 | .plain,⟨C,dx,h1,h2⟩,s=>⟨C,dx,h1,s _ _ h2⟩
 | .comma _,⟨C,dx,ys,h1,h2,h3,h4⟩,s=>⟨C,dx,ys,h1,s _ _ h2,s _ _ h3,h4.same s⟩
 | .key _,⟨C,dx,ys,h1,h2,h3,h4⟩,s=>⟨C,dx,ys,h1,s _ _ h2,s _ _ h3,h4.same s⟩
 | .tQ _,⟨C,dx,ys,h1,h2,h3,h4⟩,s=>⟨C,dx,ys,h1,s _ _ h2,s _ _ h3,h4.same s⟩
theorem fw.keep{K:Frag}{H H':Hp}{t l:Addr}(tb:bP K H)(s:i6 K H H'):∀ {u:Tu},fw K H t l u->fw K H' t l u
 | .plain,⟨C,dx,h1,h2⟩=>⟨C,dx,h1,lP s tb h2⟩
 | .comma _,⟨C,dx,ys,h1,h2,h3,h4⟩=>⟨C,dx,ys,h1,lP s tb h2,s.lst tb h3,h4.iX s tb⟩
 | .key _,⟨C,dx,ys,h1,h2,h3,h4⟩=>⟨C,dx,ys,h1,lP s tb h2,s.lst tb h3,h4.iX s tb⟩
 | .tQ _,⟨C,dx,ys,h1,h2,h3,h4⟩=>⟨C,dx,ys,h1,lP s tb h2,s.lst tb h3,h4.iX s tb⟩
def IQ(st:List (List Int))(u v:List Int):Prop:=v.length=5/\Span 5 st (sub u v)/\∀ s∈st,∀ k,Led s k->0<=v.getD k 0/\v.getD k 0<s.getD k 0
theorem IS{st:List (List Int)}{a b u v:List Int}(sf:SF st)(hl:Len 5 st)(la:a.length=5)(lb:b.length=5)(ha:IQ st a u)(hb:IQ st b v):u=v↔Span 5 st (sub a b):=by
 obtain ⟨lu,su,ku⟩:=ha
 obtain ⟨lv,sv,kv⟩:=hb
 have e1:sub (sub a b) (sub (sub a u) (sub b v))=sub u v:=bI (sub_len (sub_len la lb) (sub_len (sub_len la lu) (sub_len lb lv))) (sub_len lu lv) fun i _=>by
  rw [bC (sub_len la lb) (sub_len (sub_len la lu) (sub_len lb lv)),bC la lb,bC (sub_len la lu) (sub_len lb lv),bC la lu,bC lb lv,bC lu lv]
  lia
 have hd:=Span.sub (sub_len la lu) (sub_len lb lv) su sv
 constructor
 ·rintro rfl
  have e2:sub a b=sub (sub a u) (sub b u):=bI (sub_len la lb) (sub_len (sub_len la lu) (sub_len lb lu)) fun i _=>by
   rw [bC la lb,bC (sub_len la lu) (sub_len lb lu),bC la lu,bC lb lu]
   lia
  rw [e2]
  exact hd
 ·intro h
  have h3:=Span.sub (sub_len la lb) (sub_len (sub_len la lu) (sub_len lb lv)) h hd
  rw [e1] at h3
  have hz:=SF.small sf hl h3 fun s hs k hk=>by
   rw [bC lu lv]
   have p1:=ku s hs k hk
   have p2:=kv s hs k hk
   lia
  exact bI lu lv fun i _=>by
   have:(sub u v).getD i 0=0:=by rw [hz,dH]
   rw [bC lu lv] at this
   lia
def Tu.tab:Tu->List (List Int)->Prop
 | .plain,st=>st=[]
 | .comma s,st=>st=s
 | .key ks,st=>Lo ks st
 | .tQ w,st=>Lo [(w,0)] st
theorem IT{K:Frag}{H:Hp}{x C dx a:Addr}{fs:List (Str×V)}{o:HO}{xs:List V}(h:aR K H a xs)(e:H x=some (.ins C dx fs)):aR K (upd H x o) a xs:=by
 rcases h with (h|⟨o',h⟩)|h
 ·exact .inl (.inl (by rw [au (fun z=>by rw [z,e] at h;cases h)];exact h))
 ·exact .inl (.inr ⟨o',by rw [au (fun z=>by rw [z,e] at h;cases h)];exact h⟩)
 ·exact .inr h
def Kn(K:Frag)(H:Hp)(v:V):Prop:=(∃ i,v=.int i)\/(∃ b,v=.bl b)\/v=.dB\/(∃ s,v=.str s)\/(∃ a xs,v=.ref a/\aW K H a xs)\/(∃ a xs,v=.ref a/\aR K H a xs)
theorem Kn.same{K:Frag}{H H':Hp}{v:V}(h:Kn K H v)(s:aj H H'):Kn K H' v:=by
 rcases h with h|h|h|h|⟨a,xs,h,z⟩|⟨a,xs,h,z⟩
 ·exact .inl h
 ·exact .inr (.inl h)
 ·exact .inr (.inr (.inl h))
 ·exact .inr (.inr (.inr (.inl h)))
 ·exact .inr (.inr (.inr (.inr (.inl ⟨a,xs,h,s.seq z⟩))))
 ·exact .inr (.inr (.inr (.inr (.inr ⟨a,xs,h,s.at z⟩))))
def wh:V->Bool
 | .int _=>true
 | _=>false
def NT(K:Frag)(H:Hp)(v:V):Prop:=(∃ i,v=.int i)\/v=.dB\/(∃ s,v=.str s)\/(∃ a xs,v=.ref a/\aW K H a xs)
def Odd(K:Frag)(H:Hp)(v:V):Prop:=(∃ (a:Addr) (xs:List V),v=.ref a/\aR K H a xs/\xs.length<=1000/\(∀ x∈xs,Kn K H x)/\(decide (xs.length=5) && xs.all wh)=false)\/NT K H v
theorem MP{xs:List V}{j:Nat}:iA xs none (some (j:Int))=xs.take j:=by
 unfold iA
 rw [HT.kP,HT.kR,sub_zero,drop_zero]
 by_cases h:j<=xs.length
 ·rw [min_eq_left h]
 ·rw [Nat.min_eq_right (by lia),abo (by lia),abo (by lia)]
theorem MQ{xs:List V}{j n:Nat}(hn:xs.length=n):iA xs (some ((j:Int)+1)) none=xs.drop (j+1):=by
 have e:((j:Int)+1)=((j+1:Nat):Int):=rfl
 unfold iA
 rw [HT.kP,e,HT.kR]
 by_cases h:j+1<=xs.length
 ·rw [min_eq_left h,abo (by rw [length_drop];lia)]
 ·rw [Nat.min_eq_right (by lia),Nat.sub_self,take_zero,List.drop_of_length_le (by lia)]
def fits(x0 x1 x2 x3 x4:Int):Bool:=[decide ((if x0<0 then -x0 else x0)<=700),decide ((if x1<0 then -x1 else x1)<=60),decide ((if x2<0 then -x2 else x2)<=60),decide ((if x3<0 then -x3 else x3)<=60),decide ((if x4<0 then -x4 else x4)<=60)].all id
theorem Vr{n:Nat}(h0:0<n)(h:n<2 ^ 9000):(n:Int).natAbs.log2<9000:=by
 have e:(n:Int).natAbs=n:=rfl
 rw [e]
 exact (log2_lt (by lia)).mpr h
theorem MR{t b:Nat}(h:0<b):Nat.gcd t b<=b:=Nat.le_of_dvd h (Nat.gcd_dvd_right t b)
def Ke(t0 t1 t2 t3 t4:Int):List Nat :=
 ([70,67,71,68,65,69,66]:List Nat).getD ((t1 - t4 - 2*t3+4*t2+1) % 7).toNat 0::(kL.seg 35 98 ((t1 - t4 - 2*t3+4*t2+1) / 7)++(kL.seg 43 45 (-t2)++(kL.seg 62 60 (-t3)++(kL.seg 94 118 t4++(46::(PySem.Str.ofString (toString (t0+5*t4+6*t3 - 4*t2+11*((t1 - t4 - 2*t3+4*t2+1) / 7) - ([2,0,-1,-3,-4,-6,-7]:List Int).getD ((t1 - t4 - 2*t3+4*t2+1) % 7).toNat 0))).cps.toList)))))
theorem wU{K:Frag}{H:Hp}{x C dx:Addr}{fs:List (Str×V)}{o:HO}:∀ {xs:List V} {rs:List (List Int)},aK K H xs rs->H x=some (.ins C dx fs)->aK K (upd H x o) xs rs
 | _,_,.nil,_=>.nil
 | _,_,.cons h t,e=>.cons (IT h e) (wU t e)
theorem fi{K:Frag}{H:Hp}{c a:Addr}{φ:Heap->Prop}{xs:List V}(h:aR K H a xs)(e:H c=some (.ext φ)):aR K (L2.del H c) a xs:=by
 rcases h with (h|⟨o,h⟩)|h
 ·exact .inl (.inl (by rw [cL (fun z=>by rw [z,e] at h;cases h)];exact h))
 ·exact .inl (.inr ⟨o,by rw [cL (fun z=>by rw [z,e] at h;cases h)];exact h⟩)
 ·exact .inr h
abbrev Nt:=Option (List Int)×(Int×Int)
def eJ(K:Frag)(H:Hp)(v:V):Option (List Int)->Prop
 | none=>v=.dB
 | some r=>∃ a,v=.ref a/\aR K H a (r.map V.int)/\r.length=5
theorem eJ.same{K:Frag}{H H':Hp}{v:V}(s:aj H H'):∀ {o:Option (List Int)},eJ K H v o->eJ K H' v o
 | none,h=>h
 | some _,⟨a,h1,h2,h3⟩=>⟨a,h1,s.at h2,h3⟩
def bQ(K:Frag)(H:Hp)(v:V)(n:Nt):Prop:=∃ a t l,v=.ref a/\aR K H a [t,.ref l]/\eJ K H t n.1/\aR K H l [.int n.2.1,.int n.2.2]
theorem bQ.same{K:Frag}{H H':Hp}{v:V}{n:Nt}(h:bQ K H v n)(s:aj H H'):bQ K H' v n:=by
 obtain ⟨a,t,l,h1,h2,h3,h4⟩:=h
 exact⟨a,t,l,h1,s.at h2,h3.same s,s.at h4⟩
def QX(r q:List Int):List Int:=List.zipWith (·+·) r q
def E1(r:List Int):Bool:=fits (r.getD 0 0) (r.getD 1 0) (r.getD 2 0) (r.getD 3 0) (r.getD 4 0)
def QY(q:List Int)(n:Nt):Nt:=(n.1.map fun r=>QX r q,n.2)
theorem eJ.off{K:Frag}{H:Hp}{v:V}{l:Addr}{ys zs:List V}(e:H l=some (.lst ys)):∀ {o:Option (List Int)},eJ K H v o->eJ K (upd H l (.lst zs)) v o
 | none,h=>h
 | some _,⟨a,h1,h2,h3⟩=>⟨a,h1,jH h2 e,h3⟩
theorem bQ.off{K:Frag}{H:Hp}{v:V}{n:Nt}{l:Addr}{ys zs:List V}(h:bQ K H v n)(e:H l=some (.lst ys)):bQ K (upd H l (.lst zs)) v n:=by
 obtain ⟨a,t,l,h1,h2,h3,h4⟩:=h
 exact⟨a,t,l,h1,jH h2 e,h3.off e,jH h4 e⟩
inductive bc(K:Frag)(H:Hp):List V->List Nt->Prop where
 | nil:bc K H [] []
 | cons {x:V} {n:Nt} {xs:List V} {ns:List Nt} (h:bQ K H x n) (t:bc K H xs ns):bc K H (x::xs) (n::ns)
theorem bc.length{K:Frag}{H:Hp}:∀ {xs:List V} {ns:List Nt},bc K H xs ns->ns.length=xs.length
 | _,_,.nil=>rfl
 | _,_,.cons _ t=>by simp [t.length]
theorem bc.get{K:Frag}{H:Hp}:∀ {xs:List V} {ns:List Nt} {i:Nat} {x:V},bc K H xs ns->xs[i]?=some x->∃ n,bQ K H x n/\ns[i]?=some n
 | _,_,i,x,.nil,h=>by simp at h
 | _,_,0,x,.cons h t,e=>by
  rw [List.getElem?_cons_zero] at e
  cases e
  exact⟨_,h,rfl⟩
 | _,_,i+1,x,.cons h t,e=>by
  obtain ⟨n,h1,h2⟩:=t.get (i:=i) (x:=x) (by simpa using e)
  exact⟨n,h1,by simpa using h2⟩
theorem bc.same{K:Frag}{H H':Hp}(s:aj H H'):∀ {xs:List V} {ns:List Nt},bc K H xs ns->bc K H' xs ns
 | _,_,.nil=>.nil
 | _,_,.cons h t=>.cons (h.same s) (t.same s)
theorem bc.off{K:Frag}{H:Hp}{l:Addr}{ys zs:List V}(e:H l=some (.lst ys)):∀ {xs:List V} {ns:List Nt},bc K H xs ns->bc K (upd H l (.lst zs)) xs ns
 | _,_,.nil=>.nil
 | _,_,.cons h t=>.cons (h.off e) (t.off e)
theorem bc.snoc{K:Frag}{H:Hp}{x:V}{n:Nt}(h:bQ K H x n):∀ {xs:List V} {ns:List Nt},bc K H xs ns->bc K H (xs++[x]) (ns++[n])
 | _,_,.nil=>.cons h .nil
 | _,_,.cons h1 t=>.cons h1 (t.snoc h)
inductive cb(K:Frag)(H:Hp):List V->List (List Nt)->Prop where
 | nil:cb K H [] []
 | cons {a:Addr} {ns:List Nt} {zs xs:List V} {bs:List (List Nt)} (h:H a=some (.lst zs)) (hn:bc K H zs ns) (t:cb K H xs bs):cb K H (.ref a::xs) (ns::bs)
theorem cb.length{K:Frag}{H:Hp}:∀ {xs:List V} {bs:List (List Nt)},cb K H xs bs->bs.length=xs.length
 | _,_,.nil=>rfl
 | _,_,.cons _ _ t=>by simp [t.length]
theorem cb.get{K:Frag}{H:Hp}:∀ {xs:List V} {bs:List (List Nt)} {i:Nat} {x:V},cb K H xs bs->xs[i]?=some x->∃ (a:Addr) (zs:List V) (ns:List Nt),x=.ref a/\H a=some (.lst zs)/\bc K H zs ns/\bs[i]?=some ns
 | _,_,i,x,.nil,h=>by simp at h
 | _,_,0,x,.cons h hn t,e=>by
  rw [List.getElem?_cons_zero] at e
  cases e
  exact⟨_,_,_,rfl,h,hn,rfl⟩
 | _,_,i+1,x,.cons h hn t,e=>by
  obtain ⟨a,zs,ns,h1,h2,h3,h4⟩:=t.get (i:=i) (x:=x) (by simpa using e)
  exact⟨a,zs,ns,h1,h2,h3,by simpa using h4⟩
theorem cb.same{K:Frag}{H H':Hp}(s:aj H H'):∀ {xs:List V} {bs:List (List Nt)},cb K H xs bs->cb K H' xs bs
 | _,_,.nil=>.nil
 | _,_,.cons h hn t=>.cons (s _ _ h) (hn.same s) (t.same s)
theorem cb.off{K:Frag}{H:Hp}{l:Addr}{ys zs:List V}(e:H l=some (.lst ys)):∀ {xs:List V} {bs:List (List Nt)},cb K H xs bs->V.ref l∉xs->cb K (upd H l (.lst zs)) xs bs
 | _,_,.nil,_=>.nil
 | _,_,.cons (a:=a) h hn t,no=>.cons (by rw [au (fun z=>no (by rw [z];exact .head _))];exact h) (hn.off e) (t.off e fun z=>no (.tail _ z))
theorem cb.snoc{K:Frag}{H:Hp}{a:Addr}{zs:List V}{ns:List Nt}(h:H a=some (.lst zs))(hn:bc K H zs ns):∀ {xs:List V} {bs:List (List Nt)},cb K H xs bs->cb K H (xs++[.ref a]) (bs++[ns])
 | _,_,.nil=>.cons h hn .nil
 | _,_,.cons h1 wO t=>.cons h1 wO (t.snoc h hn)
def aG(K:Frag)(H:Hp)(t m l:Addr)(mt:Int×Int)(xs:List V)(bs:List (List Nt)):Prop:=aR K H t [.ref m,.ref l]/\aR K H m [.int mt.1,.int mt.2]/\H l=some (.lst xs)/\cb K H xs bs
theorem aG.same{K:Frag}{H H':Hp}{t m l:Addr}{mt:Int×Int}{xs:List V}{bs:List (List Nt)}(h:aG K H t m l mt xs bs)(s:aj H H'):aG K H' t m l mt xs bs:=⟨s.at h.1,s.at h.2.1,s _ _ h.2.2.1,h.2.2.2.same s⟩
theorem eJ.del{K:Frag}{H:Hp}{v:V}{c:Addr}{φ:Heap->Prop}(e:H c=some (.ext φ)):∀ {o:Option (List Int)},eJ K H v o->eJ K (L2.del H c) v o
 | none,h=>h
 | some _,⟨a,h1,h2,h3⟩=>⟨a,h1,fi h2 e,h3⟩
theorem bQ.del{K:Frag}{H:Hp}{v:V}{n:Nt}{c:Addr}{φ:Heap->Prop}(h:bQ K H v n)(e:H c=some (.ext φ)):bQ K (L2.del H c) v n:=by
 obtain ⟨a,t,l,h1,h2,h3,h4⟩:=h
 exact⟨a,t,l,h1,fi h2 e,h3.del e,fi h4 e⟩
theorem bc.del{K:Frag}{H:Hp}{c:Addr}{φ:Heap->Prop}(e:H c=some (.ext φ)):∀ {xs:List V} {ns:List Nt},bc K H xs ns->bc K (L2.del H c) xs ns
 | _,_,.nil=>.nil
 | _,_,.cons h t=>.cons (h.del e) (t.del e)
theorem lQ{H:Hp}{a c:Addr}{φ:Heap->Prop}{xs:List V}(h:H a=some (.lst xs))(e:H c=some (.ext φ)):L2.del H c a=some (.lst xs):=by
 rw [cL (fun z=>by rw [z,e] at h;cases h)]
 exact h
theorem cb.del{K:Frag}{H:Hp}{c:Addr}{φ:Heap->Prop}(e:H c=some (.ext φ)):∀ {xs:List V} {bs:List (List Nt)},cb K H xs bs->cb K (L2.del H c) xs bs
 | _,_,.nil=>.nil
 | _,_,.cons h hn t=>.cons (lQ h e) (hn.del e) (t.del e)
theorem aG.del{K:Frag}{H:Hp}{t m l c:Addr}{φ:Heap->Prop}{mt:Int×Int}{xs:List V}{bs:List (List Nt)}(h:aG K H t m l mt xs bs)(e:H c=some (.ext φ)):aG K (L2.del H c) t m l mt xs bs:=⟨fi h.1 e,fi h.2.1 e,lQ h.2.2.1 e,h.2.2.2.del e⟩
theorem eJ.keep{K:Frag}{H H':Hp}{v:V}(tb:bP K H)(s:i6 K H H'):∀ {o:Option (List Int)},eJ K H v o->eJ K H' v o
 | none,h=>h
 | some _,⟨a,h1,h2,h3⟩=>⟨a,h1,s.at tb h2,h3⟩
theorem bc.keep{K:Frag}{H H':Hp}(tb:bP K H)(s:i6 K H H'):∀ {xs:List V} {ns:List Nt},bc K H xs ns->bc K H' xs ns
 | _,_,.nil=>.nil
 | _,_,.cons ⟨a,t,l,h1,h2,h3,h4⟩ tl=>.cons ⟨a,t,l,h1,s.at tb h2,h3.keep tb s,s.at tb h4⟩ (tl.keep tb s)
theorem cb.keep{K:Frag}{H H':Hp}(tb:bP K H)(s:i6 K H H'):∀ {xs:List V} {bs:List (List Nt)},cb K H xs bs->cb K H' xs bs
 | _,_,.nil=>.nil
 | _,_,.cons h hn t=>.cons (s.lst tb h) (hn.keep tb s) (t.keep tb s)
theorem wV{cells:List (Str×Addr)}{y:Str}:∀ {names:List (Str×NameKind)} {acc:List (Str×Addr)},(names.all fun p=>!(p.2 == NameKind.free) || p.1 == y)=true->(∀ z c,acc.lookup z=some c->z=y)->∀ z c,(cF cells names acc).lookup z=some c->z=y
 | [],acc,_,h,z,c,e=>h z c e
 | (n,k)::r,acc,ha,h,z,c,e=>by
  rw [all_cons,Bool.and_eq_true] at ha
  refine wV (names:=r) ha.2 (fun z c q=>?_) z c e
  by_cases hk:(k == NameKind.free)=true
  ·rw [if_pos hk] at q
   cases hl:cells.lookup n with
   | none=>rw [hl] at q;exact h z c q
   | some c0 =>
    rw [hl] at q
    simp only [lookup_cons] at q
    by_cases hz:(z == n)=true
    ·have:=ha.1
     rw [hk] at this
     rw [eq_of_beq hz]
     exact eq_of_beq (by simpa using this)
    ·rw [Bool.not_eq_true] at hz
     rw [hz] at q
     exact h z c q
  ·rw [if_neg hk] at q
   exact h z c q
theorem wW{cells:List (Str×Addr)}{y:Str}{c:Addr}{names:List (Str×NameKind)}(h1:(names.all fun p=>!(p.2 == NameKind.free) || p.1 == y)=true)(h2:(y,NameKind.free)∈names)(h3:cells.lookup y=some c):(∀ z c0,(cF cells names []).lookup z=some c0->z=y/\c0=c)/\(cF cells names []).lookup y=some c:=by
 have hs:∀ x c,(cF cells names []).lookup x=some c->cells.lookup x=some c:=ia (fun x c q=>by simp at q)
 have hk:∀ z c,(cF cells names []).lookup z=some c->z=y:=wV h1 (fun z c q=>by simp at q)
 obtain ⟨c1,e1⟩:=aaS.mp (ib (cells:=cells) (names:=names) (acc:=[]) (x:=y) (.inr ⟨h2,by rw [h3];rfl⟩))
 have e2:=hs y c1 e1
 rw [h3] at e2
 cases e2
 refine⟨fun z c0 e=>?_,e1⟩
 have ez:=hk z c0 e
 subst ez
 rw [e1] at e
 cases e
 exact⟨rfl,rfl⟩
def yQ(K:Frag):Nat->Hp->V->V->Prop
 | 0,_,_,_=>False
 | n+1,H,x,y=>(x=.dB/\y=.dB)\/(∃ s:Str,x=.str s/\y=.str s)\/(∃ i:Int,x=.int i/\y=.int i)\/(∃ (a b:Addr) (xs ys:List V),x=.ref a/\y=.ref b/\((aR K H a xs/\aR K H b ys)\/(H a=some (.lst xs)/\H b=some (.lst ys)))/\xs.length=ys.length/\xs.length<=1000/\∀ (i:Nat) (x' y':V),xs[i]?=some x'->ys[i]?=some y'->yQ K n H x' y')
theorem yQ.same{K:Frag}{H H':Hp}(s:aj H H'):∀ {n:Nat} {x y:V},yQ K n H x y->yQ K n H' x y
 | n+1,_,_,.inl h=>.inl h
 | n+1,_,_,.inr (.inl h)=>.inr (.inl h)
 | n+1,_,_,.inr (.inr (.inl h))=>.inr (.inr (.inl h))
 | n+1,_,_,.inr (.inr (.inr ⟨a,b,xs,ys,h1,h2,h3,h4,h5,h6⟩))=>.inr (.inr (.inr ⟨a,b,xs,ys,h1,h2,h3.imp (fun z=>⟨s.at z.1,s.at z.2⟩) (fun z=>⟨s _ _ z.1,s _ _ z.2⟩),h4,h5,fun i x' y' e1 e2=>(h6 i x' y' e1 e2).same s⟩))
def IU(z:Str):Option (List Int)->Prop
 | none=>z=PySem.Str.ofString "R"
 | some r=>∃ t0 t1 t2 t3 t4:Int,r=[t0,t1,t2,t3,t4]/\z.cps.toList=Ke t0 t1 t2 t3 t4/\(-100<=t0/\t0<=100)/\(-30<=t1/\t1<=30)/\(-1<=t2/\t2<=1)/\(-1<=t3/\t3<=1)/\(-1<=t4/\t4<=1)
theorem AI{t0 t1 t2 t3 t4:Int}(h:fits t0 t1 t2 t3 t4=true):(-700<=t0/\t0<=700)/\(-60<=t1/\t1<=60)/\(-60<=t2/\t2<=60)/\(-60<=t3/\t3<=60)/\(-60<=t4/\t4<=60):=by
 have ab:∀ (t b:Int),(if t<0 then -t else t)<=b->-b<=t/\t<=b:=fun t b h=>by split at h <;> lia
 unfold fits at h
 simp only [all_cons,all_nil,id,Bool.and_true,Bool.and_eq_true,decide_eq_true_eq] at h
 exact⟨ab _ _ h.1,ab _ _ h.2.1,ab _ _ h.2.2.1,ab _ _ h.2.2.2.1,ab _ _ h.2.2.2.2⟩
def sx(r:Int)(cf:Nat->Int)(st:List Int):Nat->Int
 | 0=>r
 | i+1=>sx r cf st i+cf i*st.getD i 0
def wX(l:Int×Int):Prop:=∃ t b:Nat,l=((t:Int),(b:Int))/\t<=9999/\b<=9999
def qU(n:Nt):Bool:=match n.1 with|none=>true|some r=>E1 r
def MS:Option (List Int)->Prop
 | none=>True
 | some r=>∃ t0 t1 t2 t3 t4:Int,r=[t0,t1,t2,t3,t4]/\(-100<=t0/\t0<=100)/\(-30<=t1/\t1<=30)/\(-1<=t2/\t2<=1)/\(-1<=t3/\t3<=1)/\(-1<=t4/\t4<=1)
theorem IU.sm{z:Str}:∀ {o:Option (List Int)},IU z o->MS o
 | none,_=>trivial
 | some _,⟨t0,t1,t2,t3,t4,h,_,b⟩=>⟨t0,t1,t2,t3,t4,h,b⟩
def AJ(mt:Int×Int)(bs:List (List Nt)):Prop:=1<=bs.length/\bs.length<=12/\(∀ ns∈bs,1<=ns.length/\ns.length<=12/\∀ n∈ns,MS n.1/\wX n.2)/\wX mt
theorem AK{t b:Nat}(h1:t<=9999)(h2:b<=9999):wX (((t / Nat.gcd t b:Nat):Int),((b / Nat.gcd t b:Nat):Int)):=⟨_,_,rfl,aaJ (Nat.div_le_self _ _) h1,aaJ (Nat.div_le_self _ _) h2⟩
theorem E2{r0 r1 r2 r3 r4:Int}{i:Nat}{x b:Int}(h1:([r0,r1,r2,r3,r4]:List Int)[i]?=some x)(h2:([700,60,60,60,60]:List Int)[i]?=some b)(h:b<(if x<0 then -x else x)):fits r0 r1 r2 r3 r4=false:=by
 cases hf:fits r0 r1 r2 r3 r4 with
 | false=>rfl
 | true =>
  exfalso
  have hb:=AI hf
  match i,h1,h2 with
  | 0,h1,h2=>cases h1;cases h2;split at h <;> lia
  | 1,h1,h2=>cases h1;cases h2;split at h <;> lia
  | 2,h1,h2=>cases h1;cases h2;split at h <;> lia
  | 3,h1,h2=>cases h1;cases h2;split at h <;> lia
  | 4,h1,h2=>cases h1;cases h2;split at h <;> lia
  | i+5,h1,_=>simp at h1
theorem BJ{r0 r1 r2 r3 r4:Int}(h:∀ i<5,∀ x b:Int,([r0,r1,r2,r3,r4]:List Int)[i]?=some x->([700,60,60,60,60]:List Int)[i]?=some b->(if x<0 then -x else x)<=b):fits r0 r1 r2 r3 r4=true:=by
 have h0:=h 0 (by decide) _ _ rfl rfl
 have h1:=h 1 (by decide) _ _ rfl rfl
 have h2:=h 2 (by decide) _ _ rfl rfl
 have h3:=h 3 (by decide) _ _ rfl rfl
 have h4:=h 4 (by decide) _ _ rfl rfl
 unfold fits
 simp only [all_cons,all_nil,id,Bool.and_true,Bool.and_eq_true,decide_eq_true_eq]
 exact⟨h0,h1,h2,h3,h4⟩
theorem aG.keep{K:Frag}{H H':Hp}{t m l:Addr}{mt:Int×Int}{xs:List V}{bs:List (List Nt)}(h:aG K H t m l mt xs bs)(tb:bP K H)(s:i6 K H H'):aG K H' t m l mt xs bs:=⟨s.at tb h.1,s.at tb h.2.1,s.lst tb h.2.2.1,h.2.2.2.keep tb s⟩
theorem IV{K:Frag}{H:Hp}{n:Nat}(i:Int):yQ K (n+1) H (.int i) (.int i):=.inr (.inr (.inl ⟨i,rfl,rfl⟩))
theorem uJ{K:Frag}{H:Hp}{n:Nat}{a b:Addr}{r:List Int}(h1:aR K H a (r.map V.int))(h2:aR K H b (r.map V.int))(h:r.length<=1000):yQ K (n+2) H (.ref a) (.ref b) :=
 .inr (.inr (.inr ⟨a,b,_,_,rfl,rfl,.inl ⟨h1,h2⟩,rfl,by rw [aa4];exact h,fun i x y e1 e2=>by
  rw [e1] at e2
  cases e2
  obtain ⟨rfl,_⟩:=bY e1
  exact IV _⟩))
theorem AL{K:Frag}{H:Hp}{n:Nat}{a b:Addr}{x y x' y':V}(h1:aR K H a [x,y])(h2:aR K H b [x',y'])(h3:yQ K n H x x')(h4:yQ K n H y y'):yQ K (n+1) H (.ref a) (.ref b) :=
 .inr (.inr (.inr ⟨a,b,_,_,rfl,rfl,.inl ⟨h1,h2⟩,rfl,by show 2<=1000;decide,fun i u v e1 e2=>by
  match i,e1,e2 with
  | 0,e1,e2=>cases e1;cases e2;exact h3
  | 1,e1,e2=>cases e1;cases e2;exact h4
  | i+2,e1,_=>simp at e1⟩))
theorem E3{K:Frag}{H:Hp}{n:Nat}{v w:V}:∀ {o:Option (List Int)},eJ K H v o->eJ K H w o->yQ K (n+2) H v w
 | none,h1,h2=>.inl ⟨h1,h2⟩
 | some _,⟨a,h1,h2,h3⟩,⟨b,h4,h5,_⟩=>by
  rw [h1,h4]
  exact uJ h2 h5 (by lia)
theorem E4{K:Frag}{H:Hp}{n:Nat}{v w:V}{q:Nt}(h1:bQ K H v q)(h2:bQ K H w q):yQ K (n+3) H v w:=by
 obtain ⟨a,t,l,rfl,g1,g2,g3⟩:=h1
 obtain ⟨a',t',l',rfl,g4,g5,g6⟩:=h2
 exact AL g1 g4 (E3 g2 g5) (uJ (r:=[q.2.1,q.2.2]) g3 g6 (by show 2<=1000;decide))
theorem IW{K:Frag}{H:Hp}{n:Nat}{a b:Addr}{xs ys:List V}{ns:List Nt}(h1:H a=some (.lst xs))(h2:H b=some (.lst ys))(g1:bc K H xs ns)(g2:bc K H ys ns)(h:ns.length<=100):yQ K (n+4) H (.ref a) (.ref b):=by
 have l1:=g1.length
 have l2:=g2.length
 refine .inr (.inr (.inr ⟨a,b,_,_,rfl,rfl,.inr ⟨h1,h2⟩,by lia,by lia,fun i x y e1 e2=>?_⟩))
 obtain ⟨q,q1,q2⟩:=g1.get e1
 obtain ⟨q',q3,q4⟩:=g2.get e2
 rw [q2] at q4
 cases q4
 exact E4 q1 q3
theorem lU{K:Frag}{H:Hp}{n:Nat}{t m l t' m' l':Addr}{mt:Int×Int}{xs ys:List V}{bs:List (List Nt)}(h1:aG K H t m l mt xs bs)(h2:aG K H t' m' l' mt ys bs)(h:bs.length<=100)(hn:∀ ns∈bs,ns.length<=100):yQ K (n+6) H (.ref t) (.ref t'):=by
 have l1:=h1.2.2.2.length
 have l2:=h2.2.2.2.length
 refine AL h1.1 h2.1 (uJ (r:=[mt.1,mt.2]) h1.2.1 h2.2.1 (by show 2<=1000;decide)) (.inr (.inr (.inr ⟨l,l',_,_,rfl,rfl,.inr ⟨h1.2.2.1,h2.2.2.1⟩,by lia,by lia,fun i x y e1 e2=>?_⟩)))
 obtain ⟨a,zs,ns,rfl,q1,q2,q3⟩:=h1.2.2.2.get e1
 obtain ⟨a',D8,oO,rfl,q4,q5,q6⟩:=h2.2.2.2.get e2
 rw [q3] at q6
 cases q6
 exact IW q1 q4 q2 q5 (hn _ (aa3 q3))
theorem cb.head{K:Frag}{H:Hp}:∀ {xs:List V} {bs:List (List Nt)},cb K H xs bs->1<=bs.length->∃ (a:Addr) (zs xs':List V),xs=.ref a::xs'/\H a=some (.lst zs)
 | _,_,.nil,h=>by simp at h
 | _,_,.cons h _ _,_=>⟨_,_,_,rfl,h⟩
theorem wY{K:Frag}{H:Hp}{c:Addr}{φ:Heap->Prop}(e:H c=some (.ext φ)):∀ {xs:List V} {rs:List (List Int)},aK K H xs rs->aK K (L2.del H c) xs rs
 | _,_,.nil=>.nil
 | _,_,.cons h u=>.cons (fi h e) (wY e u)
theorem pW{K:Frag}{H:Hp}{c:Addr}{φ:Heap->Prop}(e:H c=some (.ext φ)):∀ {xs:List V} {ks:List (List Int×Int)},gK K H xs ks->gK K (L2.del H c) xs ks
 | _,_,.nil=>.nil
 | _,_,.cons h hw u=>.cons (fi h e) (fi hw e) (pW e u)
theorem oQ{H:Hp}{a c C dx:Addr}{φ:Heap->Prop}{fs:List (Str×V)}(h:H a=some (.ins C dx fs))(e:H c=some (.ext φ)):L2.del H c a=some (.ins C dx fs):=by
 rw [cL (fun z=>by rw [z,e] at h;cases h)]
 exact h
theorem fw.del{K:Frag}{H:Hp}{t l c:Addr}{φ:Heap->Prop}(e:H c=some (.ext φ)):∀ {u:Tu},fw K H t l u->fw K (L2.del H c) t l u
 | .plain,⟨C,dx,h1,h2⟩=>⟨C,dx,h1,oQ h2 e⟩
 | .comma _,⟨C,dx,ys,h1,h2,h3,h4⟩=>⟨C,dx,ys,h1,oQ h2 e,lQ h3 e,wY e h4⟩
 | .key _,⟨C,dx,ys,h1,h2,h3,h4⟩=>⟨C,dx,ys,h1,oQ h2 e,lQ h3 e,pW e h4⟩
 | .tQ _,⟨C,dx,ys,h1,h2,h3,h4⟩=>⟨C,dx,ys,h1,oQ h2 e,lQ h3 e,pW e h4⟩
theorem MT{xs:List Int}{v:Int}{P m:Nat}(h:xs.length=P)(hv:0<v):Led (xs++[v]++List.replicate m 0) P:=by
 refine⟨?_,fun i hi=>?_⟩
 ·rw [List.getD,aaM (by rw [aa5,h];show P<P+1;lia),abe (by lia),show P - xs.length=0 by lia]
  exact hv
 ·rw [List.getD,abe (by rw [aa5,h];show P+1<=i;lia),List.getElem?_replicate]
  split <;> rfl
structure tR(rs:List (List Int)):Prop where
 S2:Gk rs
 len:Len 5 rs
 sm:∀ r∈rs,∀ x∈r,-3<=x/\x<=3
 cnt:rs.length<=3
theorem tR.of{rs:List (List Int)}{pl:Nat->Nat}(h3:rs.length<=3)(hp:∀ i j,i<j->j<3->pl j<pl i)(h:∀ (j:Nat) (r:List Int),rs[j]?=some r->Led r (pl j)/\r.length=5/\∀ x∈r,-3<=x/\x<=3):tR rs:=by
 have g:∀ r∈rs,∃ j,rs[j]?=some r:=fun r hr=>by
  obtain ⟨j,hj,e⟩:=abx hr
  exact⟨j,by rw [aaY hj,e]⟩
 refine⟨⟨fun r hr=>?_,?_⟩,fun r hr=>?_,fun r hr=>?_,h3⟩
 ·obtain ⟨j,hj⟩:=g r hr
  exact⟨_,(h j r hj).1⟩
 ·rw [List.pairwise_iff_getElem]
  intro i j hi hj TJ k hk
  have e1:=(h i _ (aaY hi)).1
  have e2:=(h j _ (aaY hj)).1
  rw [<- e2.uniq hk]
  exact⟨_,hp i j TJ (by lia),e1⟩
 ·obtain ⟨j,hj⟩:=g r hr
  exact (h j r hj).2.1
 ·obtain ⟨j,hj⟩:=g r hr
  exact (h j r hj).2.2
def RB(rs:List (List Int))(i:Nat)(r v:List Int):Prop:=v.length=5/\Span 5 rs (sub r v)/\∀ (j:Nat) (s:List Int) (k:Nat),j<i->rs[j]?=some s->Led s k->0<=v.getD k 0/\v.getD k 0<s.getD k 0
theorem RB.step{rs:List (List Int)}{i k:Nat}{r v s:List Int}(h:RB rs i r v)(hs:tR rs)(lr:r.length=5)(hi:rs[i]?=some s)(hk:Led s k):RB rs (i+1) r (low v s (v.getD k 0 / s.getD k 0)):=by
 obtain ⟨lv,h1,h2⟩:=h
 have hm:s∈rs:=aa3 hi
 have ls:=hs.len s hm
 refine⟨bJ lv ls,?_,fun j s' k' hj JQ jd=>?_⟩
 ·have e:sub r (low v s (v.getD k 0 / s.getD k 0))=low (sub r v) s (-(v.getD k 0 / s.getD k 0)):=bI (sub_len lr (bJ lv ls)) (bJ (sub_len lr lv) ls) fun n _=>by
   rw [bC lr (bJ lv ls),cu lv ls,cu (sub_len lr lv) ls,bC lr lv,mul_neg]
   lia
  rw [e]
  exact Span.low (sub_len lr lv) ls h1 (Span.mem hm) _
 ·rw [cu lv ls]
  by_cases SH:j=i
  ·subst SH
   rw [hi] at JQ
   cases JQ
   rw [hk.uniq jd] at *
   have e1:=emod_nonneg (v.getD k' 0) (show s.getD k' 0≠0 by have:=jd.1;lia)
   have e2:=emod_lt_of_pos (v.getD k' 0) jd.1
   have e3:=Int.emod_add_mul_ediv (v.getD k' 0) (s.getD k' 0)
   lia
  ·obtain ⟨vD,nM⟩:=aaG.mp hi
   obtain ⟨Vs,hj2⟩:=aaG.mp JQ
   obtain ⟨q,q1,q2⟩:=List.pairwise_iff_getElem.mp hs.S2.2 j i Vs vD (by lia) k (by rw [nM];exact hk)
   rw [hj2] at q2
   have e0:s.getD k' 0=0:=hk.2 k' (by rw [<- q2.uniq jd];exact q1)
   rw [e0,zero_mul,Int.sub_zero]
   exact h2 j s' k' (by lia) JQ jd
theorem QZ{q s B:Int}(h1:-B<=q/\q<=B)(h2:-3<=s/\s<=3):-(3*B)<=q*s/\q*s<=3*B:=by
 rcases (show s=-3\/s=-2\/s=-1\/s=0\/s=1\/s=2\/s=3 by lia) with rfl|rfl|rfl|rfl|rfl|rfl|rfl <;> lia
theorem IY{v s:List Int}(q:Int)(lv:v.length=5)(ls:s.length=5):List.zipWith (fun x y=>x - q*y) v s=low v s q:=by
 refine bI (n:=5) (by simp [lv,ls]) (bJ lv ls) fun i hi=>?_
 rw [cu lv ls]
 simp [List.getD,List.getElem?_zipWith,aaY (show i<v.length by lia),aaY (show i<s.length by lia),Int.mul_comm]
theorem E5{rs st:List (List Int)}{r v:List Int}(hs:tR rs)(sf:SF st)(hl:Len 5 st)(he:Eqv 5 rs st)(h:RB rs rs.length r v):IQ st r v:=by
 refine⟨h.1,he.span h.2.1,fun s hm k hk=>?_⟩
 have sz:s≠pI 5:=fun z=>by
  have:=hk.1
  rw [z,dH] at this
  lia
 obtain ⟨t,ht,k',c,p1,p2,p3,p4⟩:=hs.S2.top hs.len (he.2 s hm) sz
 have g3:=p1.1
 have ek:k'=k:=by
  rcases Nat.lt_trichotomy k' k with z|z|z
  ·have:=p4 k z
   have:=hk.1
   lia
  ·exact z
  ·have e1:=hk.2 k' z
   rw [e1] at p2
   rcases yx p1.1 p3 with w|w <;> lia
 subst ek
 obtain ⟨j,hj,e⟩:=abx ht
 have b:=h.2.2 j t k' hj (by rw [aaY hj,e]) p1
 have:=hk.1
 rcases yx p1.1 p3 with w|w <;> lia
def CmI(H:Hp)(pl:Addr)(zs:List V)(rs qs:List (List Int))(B:Int):Prop:=H pl=some (.lst zs)/\bM H zs qs/\(∀ x∈zs,x≠V.ref pl)/\Eqv 5 rs qs/\Len 5 qs/\qs.length=rs.length/\∀ v∈qs,∀ x∈v,-B<=x/\x<=B
theorem IZ{qs:List (List Int)}{i j:Nat}{u v:List Int}(hl:Len 5 qs)(hi:qs[i]?=some u)(hj:qs[j]?=some v)(ne:i≠j)(q:Int):Eqv 5 qs (qs.set i (low u v q)):=by
 have hu:=aa3 hi
 have hv:=aa3 hj
 have Vt:=(aaG.mp hi).1
 have DG:low u v q∈qs.set i (low u v q):=aa3 (i:=i) (by rw [getElem?_set_self Vt])
 have hvn:v∈qs.set i (low u v q):=aa3 (i:=j) (by rw [getElem?_set_ne ne];exact hj)
 refine⟨fun r hr=>?_,fun r hr=>?_⟩
 ·obtain ⟨n,hn,e⟩:=abx hr
  by_cases z:n=i
  ·subst z
   have:u=r:=by rw [aaY hn,e] at hi;exact (aaN hi).symm
   rw [<- this]
   exact Span.JP (hl u hu) (hl v hv) (Span.mem DG) (Span.mem hvn)
  ·exact Span.mem (aa3 (i:=n) (by rw [getElem?_set_ne (Ne.symm z),aaY hn,e]))
 ·rcases mem_or_eq_of_mem_set hr with z|z
  ·exact Span.mem z
  ·rw [z]
   exact Span.low (hl u hu) (hl v hv) (Span.mem hu) (Span.mem hv) q
theorem Ja{qs:List (List Int)}{i:Nat}{u:List Int}(hl:Len 5 qs)(hi:qs[i]?=some u):Eqv 5 qs (qs.set i (cA u (-1))):=by
 have hu:=aa3 hi
 have Vt:=(aaG.mp hi).1
 have DG:cA u (-1)∈qs.set i (cA u (-1)):=aa3 (i:=i) (by rw [getElem?_set_self Vt])
 refine⟨fun r hr=>?_,fun r hr=>?_⟩
 ·obtain ⟨n,hn,e⟩:=abx hr
  by_cases z:n=i
  ·subst z
   have:u=r:=by rw [aaY hn,e] at hi;exact (aaN hi).symm
   rw [<- this]
   have h2:=Span.neg (aB (hl u hu)) (Span.mem (n:=5) DG)
   have e2:cA (cA u (-1)) (-1)=u:=bI (aB (aB (hl u hu))) (hl u hu) fun n _=>by
    rw [bq,bq]
    lia
   rw [e2] at h2
   exact h2
  ·exact Span.mem (aa3 (i:=n) (by rw [getElem?_set_ne (Ne.symm z),aaY hn,e]))
 ·rcases mem_or_eq_of_mem_set hr with z|z
  ·exact Span.mem z
  ·rw [z]
   exact Span.neg (hl u hu) (Span.mem hu)
theorem tS{H:Hp}:∀ {zs:List V} {qs:List (List Int)} (i:Nat),bM H zs qs->bM H (zs.take i) (qs.take i)
 | _,_,0,_=>by rw [take_zero,take_zero];exact .nil
 | _,_,_+1,.nil=>.nil
 | _,_,i+1,.cons h t=>.cons h (tS i t)
theorem pX{H:Hp}{p:Addr}{r:List Int}(h:H p=some (.lst (r.map V.int))):∀ {zs:List V} {qs:List (List Int)} (i:Nat),bM H zs qs->bM H (zs.set i (.ref p)) (qs.set i r)
 | _,_,_,.nil=>.nil
 | _,_,0,.cons _ t=>.cons h t
 | _,_,i+1,.cons h1 t=>.cons h1 (pX h i t)
def AM(st:List (List Int))(r:List Int):List Int:=@dite _ (∃ v,IQ st r v) (Classical.propDecidable _) (fun h=>h.choose) fun _=>[]
theorem pY{st:List (List Int)}{r v:List Int}(sf:SF st)(hl:Len 5 st)(lr:r.length=5)(h:IQ st r v):AM st r=v:=by
 have hx:∃ v,IQ st r v:=⟨v,h⟩
 unfold AM
 rw [dif_pos hx]
 exact (IS sf hl lr lr hx.choose_spec h).mpr (by rw [fU lr];exact Span.zero)
def fj(st:List (List Int))(n:Nt):Nt:=(n.1.map (AM st),n.2)
def xP(md:Bool)(st:List (List Int))(n:Nt):Bool:=!md || qU (fj st n)
def kl(B:Int)(r:List Int):Prop:=r.length=5/\∀ x∈r,-B<=x/\x<=B
def i7(n:Nt):Prop:=∀ r,n.1=some r->kl 1000 r
def pZ:Bool->Hp->Addr->Addr->Addr->Obj->Prop
 | true,H,f,cS,x,ob=>ij H f cS (.ref x) ob "respelled.<locals>.<lambda>" "tuning" (BG EZ) (BH EZ) (wR EZ)
 | false,H,f,cS,x,ob=>ij H f cS (.ref x) ob "sounds.<locals>.<lambda>" "tuning" (BG EW) (BH EW) (wR EW)
theorem pZ.same{H H':Hp}{f cS x:Addr}{ob:Obj}:∀ {md:Bool},pZ md H f cS x ob->aj H H'->pZ md H' f cS x ob
 | true,h,s=>ij.same h s
 | false,h,s=>ij.same h s
theorem Kf{M:Nat}{w:List Int}{b:Int}(h:∀ x∈w,-b<=x/\x<=b)(hb:b.toNat<=M):de M w:=MN fun x hx=>by
 have:=h x hx
 lia
theorem E6{r:List Int}(h:kl 1000 r):de (2 ^ 20000) r:=Kf (b:=1000) h.2 (aaJ (show 1000<=2 ^ 10 by decide) (aba (by decide) (by decide)))
theorem uK{α:Type}{f:α->PyData}(h:∀ x,PyData.canLay0 (f x)=true):∀ l:List α,PyData.canLayAll0 (l.map f)=true
 | []=>rfl
 | x::l=>by simp only [map_cons,PyData.canLayAll0,uK h l,h x,Bool.and_self]
theorem qa{α:Type}{f:α->PyData}{d:Nat}(h:∀ x,PyData.depth (f x)<=d):∀ l:List α,PyData.depthAll (l.map f)<=d
 | []=>by simp [PyData.depthAll]
 | x::l=>by
  have:=qa h l
  have:=h x
  simp only [map_cons,PyData.depthAll]
  lia
theorem uL{α:Type}{f:α->PyData}(h:∀ x,PyData.eqv (f x) (f x)=true):∀ l:List α,PyData.eqvAll (l.map f) (l.map f)=true
 | []=>by simp [PyData.eqvAll]
 | x::l=>by simp only [map_cons,PyData.eqvAll,uL h l,h x,Bool.and_self]
def wZ(r:List Int):PyData:=.tuple (r.map PyData.int)
def tU:Option (List Int)->PyData
 | none=>.none
 | some r=>wZ r
def jY(n:Nt):PyData:=.tuple [tU n.1,wZ [n.2.1,n.2.2]]
def uM(ns:List Nt):PyData:=.list (ns.map jY)
def gp(mt:Int×Int)(bs:List (List Nt)):PyData:=.tuple [wZ [mt.1,mt.2],.list (bs.map uM)]
theorem qb(r:List Int):PyData.eqv (wZ r) (wZ r)=true:=by
 unfold wZ
 rw [Ih]
 exact aaR rfl
theorem BK(n:Nt):PyData.eqv (jY n) (jY n)=true:=by
 have h1:PyData.eqv (tU n.1) (tU n.1)=true:=by
  cases n.1 with
  | none=>rfl
  | some r=>exact qb r
 simp only [jY,PyData.eqv,PyData.eqvAll,h1,qb,Bool.and_self]
theorem E7(ns:List Nt):PyData.eqv (uM ns) (uM ns)=true:=by
 unfold uM
 simp only [PyData.eqv]
 exact uL BK ns
theorem BL(mt:Int×Int)(bs:List (List Nt)):PyData.eqv (gp mt bs) (gp mt bs)=true:=by
 simp only [gp,PyData.eqv,PyData.eqvAll,qb,uL E7 bs,Bool.and_self]
theorem qc(r:List Int):PyData.canLay0 (wZ r)=true:=Ii r
theorem mQ(r:List Int):PyData.depth (wZ r)<=2:=Ez r
theorem BM(n:Nt):PyData.canLay0 (jY n)=true:=by
 have h1:PyData.canLay0 (tU n.1)=true:=by
  cases n.1 with
  | none=>rfl
  | some r=>exact qc r
 simp only [jY,PyData.canLay0,PyData.canLayAll0,h1,qc,Bool.and_self]
theorem yR(n:Nt):PyData.depth (jY n)<=3:=by
 have h1:PyData.depth (tU n.1)<=2:=by
  cases n.1 with
  | none=>exact abr _
  | some r=>exact mQ r
 have h2:=mQ [n.2.1,n.2.2]
 simp only [jY,PyData.depth,PyData.depthAll]
 lia
theorem fS(mt:Int×Int)(bs:List (List Nt)):SeqAt.shaped (gp mt bs)=true:=by
 have h1:PyData.canLay0 (gp mt bs)=true:=by
  have:PyData.canLayAll0 (bs.map uM)=true:=uK (fun ns=>by simp only [uM,PyData.canLay0];exact uK BM ns) bs
  simp only [gp,PyData.canLay0,PyData.canLayAll0,qc,this,Bool.and_self]
 have h2:PyData.depth (gp mt bs)<=64:=by
  have d1:PyData.depthAll (bs.map uM)<=4:=qa (fun ns=>by
   have:=qa yR ns
   simp only [uM,PyData.depth]
   lia) bs
  have d2:=mQ [mt.1,mt.2]
  simp only [gp,PyData.depth,PyData.depthAll]
  lia
 unfold SeqAt.shaped
 rw [h1,aaR h2]
 rfl
theorem BN{K:Frag}{H:Hp}{v:V}:∀ {o:Option (List Int)},eJ K H v o->fR K H v (tU o)
 | none,h=>by
  have e:v=.dB:=h
  rw [e]
  exact .dB
 | some r,⟨a,h1,h2,_⟩=>by
  rw [h1]
  exact fR.row h2
theorem BO{K:Frag}{H:Hp}{v:V}{n:Nt}(h:bQ K H v n):fR K H v (jY n):=by
 obtain ⟨a,t,l,rfl,h1,h2,h3⟩:=h
 exact .tup h1 (.cons (BN h2) (.cons (fR.row (r:=[n.2.1,n.2.2]) h3) .nil))
theorem qd{K:Frag}{H:Hp}:∀ {xs:List V} {ns:List Nt},bc K H xs ns->Tells K H xs (ns.map jY)
 | _,_,.nil=>.nil
 | _,_,.cons h t=>.cons (BO h) (qd t)
theorem tV{K:Frag}{H:Hp}:∀ {xs:List V} {bs:List (List Nt)},cb K H xs bs->Tells K H xs (bs.map uM)
 | _,_,.nil=>.nil
 | _,_,.cons h hn t=>.cons (.lst (aW.of h) (qd hn)) (tV t)
theorem jJ{K:Frag}{H:Hp}{t m l:Addr}{mt:Int×Int}{xs:List V}{bs:List (List Nt)}(h:aG K H t m l mt xs bs):fR K H (.ref t) (gp mt bs) :=
 .tup h.1 (.cons (fR.row (r:=[mt.1,mt.2]) h.2.1) (.cons (.lst (aW.of h.2.2.1) (tV h.2.2.2)) .nil))
theorem BP{α β:Type}(f:α->β)(d:α)(l:List α):(List.range l.length).map (fun i=>f (l.getD i d))=l.map f:=by
 apply ext_getElem
 ·simp
 ·intro i h1 h2
  simp at h2
  simp [List.getD,aaY h2]
def qe(B:Int)(bs:List (List Nt)):Prop:=1<=bs.length/\bs.length<=12/\∀ ns∈bs,1<=ns.length/\ns.length<=12/\∀ n∈ns,∀ r,n.1=some r->kl B r
theorem qe.mono{B C:Int}{bs:List (List Nt)}(h:qe B bs)(hc:B<=C):qe C bs:=⟨h.1,h.2.1,fun ns hn=>⟨(h.2.2 ns hn).1,(h.2.2 ns hn).2.1,fun n hm r hr=>⟨((h.2.2 ns hn).2.2 n hm r hr).1,fun x hx=>by have:=((h.2.2 ns hn).2.2 n hm r hr).2 x hx;lia⟩⟩⟩
theorem qe.rows{B:Int}{bs:List (List Nt)}(h:qe B bs)(hc:B<=1000):∀ ns∈bs,ns.length<=12/\∀ n∈ns,i7 n:=fun ns hn=>⟨(h.2.2 ns hn).2.1,fun n hm r hr=>((h.mono hc).2.2 ns hn).2.2 n hm r hr⟩
theorem qe.lV{B:Int}{bs:List (List Nt)}(h:qe B bs)(hc:B<=1000):∀ ns∈bs,ns.length<=100/\∀ n∈ns,i7 n:=fun ns hn=>⟨aaJ (h.rows hc ns hn).1 (by decide),(h.rows hc ns hn).2⟩
theorem w6{B u0 u1 u2 u3 u4:Int}(h0:-B<=u0/\u0<=B)(h1:-B<=u1/\u1<=B)(h2:-B<=u2/\u2<=B)(h3:-B<=u3/\u3<=B)(h4:-B<=u4/\u4<=B):kl B [u0,u1,u2,u3,u4]:=⟨rfl,fun x hx=>by
 simp only [aa7,not_mem_nil,or_false] at hx
 rcases hx with rfl|rfl|rfl|rfl|rfl <;> assumption⟩
theorem bump{u0 u1 u2 u3 u4:Int}{j:Nat}(hj:j<5)(h:kl 718 [u0,u1,u2,u3,u4]):∃ r2:List Int,(List.take j (List.map V.int [u0,u1,u2,u3,u4])++[V.int (([u0,u1,u2,u3,u4]:List Int).getD j 0+1)])++List.drop (j+1) (List.map V.int [u0,u1,u2,u3,u4])=r2.map V.int/\kl 800 r2:=by
 have b0:=h.2 u0 (by simp)
 have b1:=h.2 u1 (by simp)
 have b2:=h.2 u2 (by simp)
 have b3:=h.2 u3 (by simp)
 have b4:=h.2 u4 (by simp)
 match j,hj with
 | 0,_=>exact⟨[u0+1,u1,u2,u3,u4],rfl,w6 (by lia) (by lia) (by lia) (by lia) (by lia)⟩
 | 1,_=>exact⟨[u0,u1+1,u2,u3,u4],rfl,w6 (by lia) (by lia) (by lia) (by lia) (by lia)⟩
 | 2,_=>exact⟨[u0,u1,u2+1,u3,u4],rfl,w6 (by lia) (by lia) (by lia) (by lia) (by lia)⟩
 | 3,_=>exact⟨[u0,u1,u2,u3+1,u4],rfl,w6 (by lia) (by lia) (by lia) (by lia) (by lia)⟩
 | 4,_=>exact⟨[u0,u1,u2,u3,u4+1],rfl,w6 (by lia) (by lia) (by lia) (by lia) (by lia)⟩
theorem Jb{l:List Int}(h:∀ x∈l,1<=x)(hl:1<=l.length):1<=l.sum:=by
 cases l with
 | nil=>simp at hl
 | cons a l =>
  have h1:=h a (.head _)
  have h2:∀ l:List Int,(∀ x∈l,1<=x)->0<=l.sum:=fun l=>by
   induction l with
   | nil=>simp
   | cons b l ih =>
    intro hh
    have:=hh b (.head _)
    have:=ih fun x hx=>hh x (.tail _ hx)
    rw [sum_cons]
    lia
  have:=h2 l fun x hx=>h x (.tail _ hx)
  rw [sum_cons]
  lia
theorem Kg{rs:List (List Int)}{r:List Int}(hs:tR rs)(lr:r.length=5):∀ i,i<=rs.length->∃ v,RB rs i r v
 | 0,_=>⟨r,lr,by rw [fU lr];exact Span.zero,fun j s k hj=>by lia⟩
 | i+1,hi=>by
  obtain ⟨v,hv⟩:=Kg hs lr i (by lia)
  obtain ⟨k,hk⟩:=hs.S2.1 rs[i] (abw _)
  exact⟨_,hv.step hs lr (aaY (by lia)) hk⟩
theorem AN{rs st:List (List Int)}{r:List Int}(hs:tR rs)(sf:SF st)(hl:Len 5 st)(he:Eqv 5 rs st)(lr:r.length=5):IQ st r (AM st r):=by
 obtain ⟨v,hv⟩:=Kg hs lr rs.length (aaK _)
 have h:=E5 hs sf hl he hv
 rw [pY sf hl lr h]
 exact h
theorem Jc{rs st:List (List Int)}{r:List Int}(hs:tR rs)(sf:SF st)(hl:Len 5 st)(he:Eqv 5 rs st)(lr:r.length=5):AM st (AM st r)=AM st r:=by
 have h:=AN hs sf hl he lr
 exact pY sf hl h.1 ⟨h.1,by rw [fU h.1];exact Span.zero,h.2.2⟩
theorem E8{rs st:List (List Int)}{B:Int}{bs:List (List Nt)}(hs:tR rs)(sf:SF st)(hl:Len 5 st)(he:Eqv 5 rs st)(h:qe B bs):((bs.map fun ns=>ns.map (fj st)).map fun ns=>ns.map (fj st))=bs.map fun ns=>ns.map (fj st):=by
 rw [abm]
 refine abn fun ns hn=>?_
 show (ns.map (fj st)).map (fj st)=ns.map (fj st)
 rw [abm]
 refine abn fun n hm=>?_
 obtain ⟨o,l⟩:=n
 cases o with
 | none=>rfl
 | some r =>
  show (some (AM st (AM st r)),l)=(some (AM st r),l)
  rw [Jc hs sf hl he ((h.2.2 ns hn).2.2 _ hm r rfl).1]
theorem qe.map{rs st:List (List Int)}{B:Int}{bs:List (List Nt)}(hs:tR rs)(sf:SF st)(hl:Len 5 st)(he:Eqv 5 rs st)(h:qe B bs)(hf:∀ ns∈(bs.map fun ns=>ns.map (fj st)),∀ n∈ns,qU n=true):qe 700 (bs.map fun ns=>ns.map (fj st)):=by
 refine⟨by rw [aa4];exact h.1,by rw [aa4];exact h.2.1,fun ns hn=>?_⟩
 have aN:=hf ns hn
 obtain ⟨q,hq,rfl⟩:=aa8.mp hn
 refine⟨by rw [aa4];exact (h.2.2 q hq).1,by rw [aa4];exact (h.2.2 q hq).2.1,fun n hm r hr=>?_⟩
 have hk:=aN n hm
 obtain ⟨x,hx,rfl⟩:=aa8.mp hm
 obtain ⟨o,l⟩:=x
 cases o with
 | none=>cases hr
 | some r0 =>
  have e:AM st r0=r:=by cases hr;rfl
  have l5:r.length=5:=by rw [<- e];exact (AN hs sf hl he ((h.2.2 q hq).2.2 _ hx r0 rfl).1).1
  have jd:E1 (AM st r0)=true:=hk
  rw [e] at jd
  obtain ⟨u0,u1,u2,u3,u4,rfl⟩:=dh l5
  have b:=AI (show fits u0 u1 u2 u3 u4=true from jd)
  exact w6 (by lia) (by lia) (by lia) (by lia) (by lia)
theorem qf{st:List (List Int)}{bs:List (List Nt)}{b:Nat}(h:∀ ns∈bs,ns.length<=b):∀ ns∈(bs.map fun ns=>ns.map (fj st)),ns.length<=b:=fun ns hn=>by
 obtain ⟨q,hq,rfl⟩:=aa8.mp hn
 rw [aa4]
 exact h q hq
theorem uN{st:List (List Int)}{bs:List (List Nt)}(h:(bs.all fun ns=>ns.all fun n=>qU (fj st n))=true):(∀ ns∈bs,∀ n∈ns,qU (fj st n)=true)/\∀ ns∈(bs.map fun ns=>ns.map (fj st)),∀ n∈ns,qU n=true:=by
 have h1:∀ ns∈bs,∀ n∈ns,qU (fj st n)=true:=fun ns h1 n h2=>all_eq_true.mp (all_eq_true.mp h ns h1) n h2
 refine⟨h1,fun ns hn n hm=>?_⟩
 obtain ⟨q,hq,rfl⟩:=aa8.mp hn
 obtain ⟨x,hx,rfl⟩:=aa8.mp hm
 exact h1 q hq x hx
theorem yS{st:List (List Int)}{bs:List (List Nt)}(h:(bs.all fun ns=>ns.all fun n=>qU (fj st n))=false):(∃ ns∈bs,∃ n∈ns,qU (fj st n)=false)/\∃ ns∈(bs.map fun ns=>ns.map (fj st)),∃ n∈ns,qU n=false:=by
 obtain ⟨ns,h1,h2⟩:=List.all_eq_false.mp h
 rw [Bool.not_eq_true] at h2
 obtain ⟨n,h3,h4⟩:=List.all_eq_false.mp h2
 rw [Bool.not_eq_true] at h4
 exact⟨⟨ns,h1,n,h3,h4⟩,_,mem_map_of_mem h1,_,mem_map_of_mem h3,h4⟩
theorem MS.kl{o:Option (List Int)}(h:MS o):∀ r,o=some r->kl 100 r:=fun r e=>by
 subst e
 obtain ⟨t0,t1,t2,t3,t4,rfl,b⟩:=h
 exact w6 (by lia) (by lia) (by lia) (by lia) (by lia)
theorem AJ.r{mt:Int×Int}{bs:List (List Nt)}(h:AJ mt bs):qe 100 bs:=⟨h.1,h.2.1,fun ns hn=>⟨(h.2.2.1 ns hn).1,(h.2.2.1 ns hn).2.1,fun n hm r hr=>MS.kl ((h.2.2.1 ns hn).2.2 n hm).1 r hr⟩⟩
theorem qe.mv{sq:List Int}(lq:sq.length=5)(hb:∀ x∈sq,-600<=x/\x<=600){bs:List (List Nt)}(h:qe 100 bs):qe 700 (bs.map fun ns=>ns.map (QY sq)):=by
 refine⟨by rw [aa4];exact h.1,by rw [aa4];exact h.2.1,fun ns hn=>?_⟩
 obtain ⟨q,hq,rfl⟩:=aa8.mp hn
 refine⟨by rw [aa4];exact (h.2.2 q hq).1,by rw [aa4];exact (h.2.2 q hq).2.1,fun n hm r hr=>?_⟩
 obtain ⟨x,hx,rfl⟩:=aa8.mp hm
 obtain ⟨o,l⟩:=x
 cases o with
 | none=>cases hr
 | some r0 =>
  have e:QX r0 sq=r:=by cases hr;rfl
  have AO:=(h.2.2 q hq).2.2 _ hx r0 rfl
  obtain ⟨u0,u1,u2,u3,u4,rfl⟩:=dh AO.1
  obtain ⟨w0,w1,w2,w3,w4,rfl⟩:=dh lq
  have b0:=AO.2 u0 (by simp)
  have b1:=AO.2 u1 (by simp)
  have b2:=AO.2 u2 (by simp)
  have b3:=AO.2 u3 (by simp)
  have b4:=AO.2 u4 (by simp)
  have c0:=hb w0 (by simp)
  have c1:=hb w1 (by simp)
  have c2:=hb w2 (by simp)
  have c3:=hb w3 (by simp)
  have c4:=hb w4 (by simp)
  rw [<- e]
  exact w6 (u0:=u0+w0) (u1:=u1+w1) (u2:=u2+w2) (u3:=u3+w3) (u4:=u4+w4) (by lia) (by lia) (by lia) (by lia) (by lia)
structure nU where
 E9:Addr
 qg:Addr
 gL:Addr
 cy:Addr
 eY:Addr
 aM:Addr
 dr:Addr
 cU:Addr
 fk:Tok
 oR:Tok
 bR:Addr
 bT:Addr
 bp:Addr
structure Txt(K:Frag)(mg:Str->Option Value)(G:nU):Prop where
 uO:mg "ValueError"=none
 Fb:mg "abs"=none
 Kh:mg "all"=none
 yT:mg "bool"=none
 jn:mg "enumerate"=none
 Fc:mg "int"=none
 aS:mg "isinstance"=none
 iY:mg "len"=none
 qh:mg "list"=none
 Ki:mg "max"=none
 gM:mg "range"=none
 Fd:mg "sorted"=none
 Fe:mg "str"=none
 Q0:mg "sum"=none
 fo:mg "tuple"=none
 jo:mg "zip"=none
 Q1:mg "ONE"=some (.ref G.E9)
 aC:wk K G.E9 [.int 0,.int 0,.int 0,.int 0,.int 0]
 Ff:mg "BOUNDS"=some (.ref G.qg)
 ao:wk K G.qg [.int 700,.int 60,.int 60,.int 60,.int 60]
 rA:mg "MOST_COMMAS"=some (.int 6 G.fk)
 AQ:mg "WIDTH"=some (.int 5 G.oR)
 w8:mg "YardError"=some (.ref G.gL)
 Kj:nsIn K mainGlobals "YardError"=some (some (.ref G.gL))
 w9:pQ K G.gL
 xa:mg "TooFar"=some (.ref G.cy)
 xb:nsIn K mainGlobals "TooFar"=some (some (.ref G.cy))
 Q2:pQ K G.cy
 fx:uw K G.cy
 Fg:excIn K G.cy [.type "ValueError",.type "Exception",.type "BaseException",.type "object"] "ValueError.__new__"=true
 yU:mg "NoCommas"=some (.ref G.eY)
 MU:nsIn K mainGlobals "NoCommas"=some (some (.ref G.eY))
 yV:pQ K G.eY
 rB:mg "CommaTuning"=some (.ref G.aM)
 dA:nsIn K mainGlobals "CommaTuning"=some (some (.ref G.aM))
 bz:xY K G.aM
 rD:Mk K G.aM G.dr
 Gn:Vi K G.aM
 fO:Meth K G.aM "sound" G.cU
 aU:fY K G.aM "steps"
 cz:subIn K (.ref G.cy) (.ref G.gL)=some true
 cI:subIn K (.ref G.cy) (.ref G.eY)=some false
 cJ:G.cy≠G.eY
 bX:subIn K (.ref G.cy) (.type "ValueError")=some true
def jq(K:Frag):Sp:=fun vs H Q _=>∃ v,vs=[v]/\Kn K H v/\Q (.bl (wh v)) H
def mR(K:Frag):Sp:=fun vs H Q _=>∃ v,vs=[v]/\((∃ (a:Addr) (xs:List V),v=.ref a/\aR K H a xs/\xs.length<=1000/\(∀ x∈xs,Kn K H x)/\∀ H',aj H H'->Q (.bl (decide (xs.length=5) && xs.all wh)) H')\/(NT K H v/\Q (.bl false) H))
def km(K:Frag):Sp:=fun vs H Q _=>∃ v,vs=[v]/\((∃ (a:Addr) (x0 x1 x2 x3 x4:Int),v=.ref a/\aR K H a [.int x0,.int x1,.int x2,.int x3,.int x4]/\∀ H',aj H H'->Q (.bl (fits x0 x1 x2 x3 x4)) H')\/(Odd K H v/\∀ H',aj H H'->Q (.bl false) H'))
def iI (K:Frag):Sp:=fun vs H Q E=>∃ (a:Addr) (x0 x1 x2 x3 x4:Int),vs=[.ref a]/\aR K H a [.int x0,.int x1,.int x2,.int x3,.int x4]/\(fits x0 x1 x2 x3 x4=false->∀ C H',nsIn K mainGlobals "TooFar"=some (some (.ref C))->aj H H'->E (.ref C) none H')/\(fits x0 x1 x2 x3 x4=true->∀ H',aj H H'->Q (.ref a) H')
def uP(K:Frag):Sp:=fun vs H Q _=>∃ (a b:Addr) (r q:List Int),vs=[.ref a,.ref b]/\aR K H a (r.map V.int)/\aR K H b (q.map V.int)/\r.length=q.length/\r.length<=1000/\∀ p H',aj H H'->H' p=some (.tup ((sub r q).map V.int))->Q (.ref p) H'
def lW(K:Frag):Sp:=fun vs H Q _=>∃ (a:Addr) (r:List Int) (n:Int),vs=[.ref a,.int n]/\aR K H a (r.map V.int)/\r.length<=1000/\(∀ x∈r,nS x n)/\∀ p H',aj H H'->H' p=some (.tup ((cA r n).map V.int))->Q (.ref p) H'
def fE (K:Frag):Sp:=fun vs H Q E=>∃ (a f cS b l0:Addr) (ob:Obj) (n:Nt) (md:Bool) (st:List (List Int)),vs=[.ref a,.ref f]/\bQ K H (.ref a) n/\i7 n/\pZ md H f cS b ob/\fw K H b l0 (.comma st)/\Tu.ok (.comma st)/\(xP md st n=false->∀ C H',nsIn K mainGlobals "TooFar"=some (some (.ref C))->aj H H'->E (.ref C) none H')/\(xP md st n=true->∀ p H',aj H H'->bQ K H' (.ref p) (fj st n)->Q (.ref p) H')
def gq (K:Frag):Sp:=fun vs H Q E=>∃ (a f cS b:Addr) (ob:Obj) (xs:List V) (ns:List Nt) (md:Bool) (st:List (List Int)) (l0:Addr),vs=[.ref a,.ref f]/\aW K H a xs/\bc K H xs ns/\ns.length<=100/\(∀ n∈ns,i7 n)/\pZ md H f cS b ob/\fw K H b l0 (.comma st)/\Tu.ok (.comma st)/\((∃ n∈ns,xP md st n=false)->∀ C H',nsIn K mainGlobals "TooFar"=some (some (.ref C))->aj H H'->E (.ref C) none H')/\((∀ n∈ns,xP md st n=true)->∀ l' H' ys,H l'=none->aj H H'->H' l'=some (.lst ys)->bc K H' ys (ns.map (fj st))->Q (.ref l') H')
def iJ (K:Frag):Sp:=fun vs H Q E=>∃ (a m l f cS b:Addr) (mt:Int×Int) (ob:Obj) (xs:List V) (bs:List (List Nt)) (md:Bool) (st:List (List Int)) (l0:Addr),vs=[.ref a,.ref f]/\aG K H a m l mt xs bs/\bs.length<=100/\(∀ ns∈bs,ns.length<=100/\∀ n∈ns,i7 n)/\pZ md H f cS b ob/\fw K H b l0 (.comma st)/\Tu.ok (.comma st)/\((∃ ns∈bs,∃ n∈ns,xP md st n=false)->∀ C H',nsIn K mainGlobals "TooFar"=some (some (.ref C))->aj H H'->E (.ref C) none H')/\((∀ ns∈bs,∀ n∈ns,xP md st n=true)->∀ t' l' H' ys,H l'=none->aj H H'->(∀ x∈ys,∃ b,x=V.ref b/\H b=none)->aG K H' t' m l' mt ys (bs.map fun ns=>ns.map (fj st))->Q (.ref t') H')
def mS(K:Frag):Sp:=fun vs H Q E=>∃ (a m l x l0:Addr) (mt:Int×Int) (xs:List V) (bs:List (List Nt)) (st:List (List Int)),vs=[.ref x,.ref a]/\aG K H a m l mt xs bs/\bs.length<=100/\(∀ ns∈bs,ns.length<=100/\∀ n∈ns,i7 n)/\fw K H x l0 (.comma st)/\Tu.ok (.comma st)/\bP K H/\∀ t' l' H' ys,H l'=none->i6 K H H'->bP K H'->(∀ x∈ys,∃ b,x=V.ref b/\H b=none)->aG K H' t' m l' mt ys (bs.map fun ns=>ns.map (fj st))->Q (.ref t') H'
def gu(K:Frag):Sp:=fun vs H Q E=>∃ (x l0 a1 m1 l1 a2 m2 l2:Addr) (MV MW:Int×Int) (Q3 Q4:List V) (Fh Fi:List (List Nt)) (st:List (List Int)),vs=[.ref x,.ref a1,.ref a2]/\aG K H a1 m1 l1 MV Q3 Fh/\Fh.length<=100/\(∀ ns∈Fh,ns.length<=100/\∀ n∈ns,i7 n)/\aG K H a2 m2 l2 MW Q4 Fi/\Fi.length<=100/\(∀ ns∈Fi,ns.length<=100/\∀ n∈ns,i7 n)/\fw K H x l0 (.comma st)/\Tu.ok (.comma st)/\bP K H/\∀ H',i6 K H H'->bP K H'->Q (.bl (PyData.eqv (gp MV (Fh.map fun ns=>ns.map (fj st))) (gp MW (Fi.map fun ns=>ns.map (fj st))))) H'
def iK (K:Frag):Sp:=fun vs H Q E=>∃ (a m l x l0:Addr) (mt:Int×Int) (xs:List V) (bs:List (List Nt)) (st:List (List Int)),vs=[.ref x,.ref a]/\aG K H a m l mt xs bs/\bs.length<=100/\(∀ ns∈bs,ns.length<=100/\∀ n∈ns,i7 n)/\fw K H x l0 (.comma st)/\Tu.ok (.comma st)/\bP K H/\((∃ ns∈bs,∃ n∈ns,qU (fj st n)=false)->∀ C H',nsIn K mainGlobals "TooFar"=some (some (.ref C))->i6 K H H'->bP K H'->E (.ref C) none H')/\((∀ ns∈bs,∀ n∈ns,qU (fj st n)=true)->∀ t' l' H' ys,H l'=none->i6 K H H'->bP K H'->(∀ x∈ys,∃ b,x=V.ref b/\H b=none)->aG K H' t' m l' mt ys (bs.map fun ns=>ns.map (fj st))->Q (.ref t') H')
def eK(K:Frag):Sp:=fun vs H Q _=>∃ (l:Addr) (ys:List V),vs=[.ref l]/\aW K H l ys/\ys.length<=6/\Q (.ref l) H
def gR(K:Frag):Sp:=fun vs H Q _=>∃ (a:Addr) (r:List Int) (k:Nat),vs=[.ref a]/\aR K H a (r.map V.int)/\r.length<=1000/\Led r k/\∀ H',aj H H'->Q (.int k) H'
def gv(K:Frag):Sp:=fun vs H Q _=>∃ (a b:Addr) (p n M k:Nat) (v s:List Int),vs=[.ref a,.ref b,.int p]/\aR K H a (v.map V.int)/\aR K H b (s.map V.int)/\v.length=n/\s.length=n/\n<=1000/\p<n/\s.getD p 0≠0/\de M v/\de M s/\M<2 ^ k/\k<=60000000/\∀ p' H',aj H H'->H' p'=some (.tup ((bN p s v).map V.int))->Q (.ref p') H'
def mT(K:Frag):Sp:=fun vs H Q _=>∃ (l:Addr) (p n M A k:Nat) (xs:List V) (rs:List (List Int)),vs=[.ref l,.int p]/\aW K H l xs/\aK K H xs rs/\rs.length<64/\Len n rs/\n<=1000/\p<n/\(∀ v∈rs,de M v)/\(∀ v∈rs,at' p v<=A)/\0<A/\6*(M*(A*A))<2 ^ k/\k<=60000000/\bP K H/\∀ t l1 l2 H' ys zs led os,i6 K H H'->bP K H'->aR K H' t [.ref l1,.ref l2]->aW K H' l1 ys->aK K H' ys led->aW K H' l2 zs->aK K H' zs os->led.length<=1->(∀ v∈led,0<v.getD p 0)->(∀ v∈os,v.getD p 0=0)->(∀ v∈led++os,v.length=n)->(∀ v∈led++os,de (6*(M*(A*A))) v)->Eqv n rs (led++os)->led.length+os.length<=rs.length->(∀ v∈led,at' p v<=A)->Q (.ref t) H'
def kr(K:Frag):Sp:=fun vs H Q _=>∃ (l:Addr) (w n b:Nat) (xs:List V) (rs:List (List Int)),vs=[.ref l,.int w]/\aW K H l xs/\aK K H xs rs/\rs.length<64/\Len n rs/\n<=1000/\w<=n/\(∀ v∈rs,de (2 ^ b) v)/\(∀ i,i<w->d7.ss b (i+1)<60000000)/\bP K H/\∀ l' H' ys st lf,H l'=none->i6 K H H'->bP K H'->H' l'=some (.lst ys)->aK K H' ys st->SJ n w b rs w st lf->Q (.ref l') H'
def qi(K:Frag):Sp:=fun vs H Q _=>∃ (l:Addr) (b:Nat) (xs:List V) (rs:List (List Int)),vs=[.ref l]/\aW K H l xs/\aK K H xs rs/\rs.length<=6/\Len 5 rs/\(∀ v∈rs,de (2 ^ b) v)/\b<=109/\bP K H/\∀ l' H' ys st,H l'=none->i6 K H H'->bP K H'->H' l'=some (.lst ys)->aK K H' ys st->SF st->Eqv 5 rs st->Len 5 st->st.length<=5->(∀ v∈st,de (2 ^ d7.ss b 5) v)->(∀ v∈st,∀ k,Led v k->(v.getD k 0).natAbs<=2 ^ gs b (4 - k))->Q (.ref l') H'
def kx(K:Frag):Sp:=fun vs H Q _=>∃ (l a:Addr) (n B C:Nat) (xs:List V) (st:List (List Int)) (u:List Int),vs=[.ref l,.ref a]/\aW K H l xs/\aK K H xs st/\aR K H a (u.map V.int)/\u.length=n/\5<=n/\n<=100/\Len n st/\st.length<=5/\SF (st.map (List.take 5))/\(∀ r∈st,de (2 ^ B) r)/\de (2 ^ C) u/\C+6*B<50000000/\∀ p H' v,aj H H'->aR K H' p (v.map V.int)->LB n 5 st st.length u v->de (2 ^ (C+(B+1)*5)) v->Q (.ref p) H'
def dP(K:Frag):Sp:=fun vs H Q _=>∃ (a:Addr) (ns:List Int) (k:Int),vs=[.ref a,.int k]/\aW K H a (ns.map V.int)/\0<=k/\Q (.int (ns.getD k.toNat 0)) H
def gS(K:Frag):Sp:=fun vs H Q _=>∃ (t b:Nat),vs=[.int t,.int b]/\0<b/\b<2 ^ 9000/\∀ p H',aj H H'->H' p=some (.tup [.int (t / Nat.gcd t b:Nat),.int (b / Nat.gcd t b:Nat)])->Q (.ref p) H'
def du(K:Frag):Sp:=fun vs H Q _=>∃ (c j:Int),vs=[.int c,.int j]/\(0<=j/\j<=1000)/\∀ m:Int,0<=m->m<999983->Q (.int m) H
def fT(K:Frag)(n:Nat):Sp:=fun vs H Q _=>∃ (x y:V),vs=[x,y]/\yQ K n H x y/\∀ H',aj H H'->Q (.bl true) H'
theorem jZ(K:Frag){vs:List V}{H:Hp}{Q:VK}{E:XK}:¬ fT K 0 vs H Q E:=fun ⟨_,_,_,h,_⟩=>h
def fF(K:Frag):Sp:=fun vs H Q _=>∃ (c:Int),vs=[.int c]/\(0<=c/\c<=1000000)/\∀ (p:Addr) H' (z:Str) (v:V) (o:Option (List Int)),aj H H'->H' p=some (.tup [.str z,v])->eJ K H' v o->IU z o->Q (.ref p) H'
def gT(K:Frag):Sp:=fun vs H Q _=>∃ (c:Int) (n t:Nat),vs=[.int c,.int n,.int t]/\1<=n/\n<=12/\n<=t/\t<=100/\∀ (l:Addr) H' (ps:List Int),H l=none->aj H H'->H' l=some (.lst (ps.map V.int))->ps.length=n->(∀ p∈ps,1<=p/\p<=t)->ps.sum=(t:Int)->Q (.ref l) H'
def jr(K:Frag):Sp:=fun vs H Q _=>∃ (a:Addr) (ns:List Int) (j:Int),vs=[.ref a,.int j]/\aW K H a (ns.map V.int)/\0<=j/\j<=100/\∀ (t m l:Addr) H' (mt:Int×Int) (xs:List V) (bs:List (List Nt)),aj H H'->aG K H' t m l mt xs bs->AJ mt bs->Q (.ref t) H'
def js(K:Frag):Sp:=fun vs H Q _=>∃ (a m l:Addr) (mt:Int×Int) (xs:List V) (bs:List (List Nt)),vs=[.ref a]/\aG K H a m l mt xs bs/\bs.length<=12/\∀ (t' l':Addr) H' (ys:List V),H l'=none->aj H H'->aG K H' t' m l' mt ys bs->Q (.ref t') H'
def kB(K:Frag):Sp:=fun vs H Q _=>∃ (a m l b:Addr) (mt:Int×Int) (xs:List V) (bs:List (List Nt)) (sq:List Int),vs=[.ref a,.ref b]/\aG K H a m l mt xs bs/\bs.length<=12/\(∀ ns∈bs,ns.length<=12)/\H b=some (.lst (sq.map V.int))/\sq.length=5/\∀ (t' l':Addr) H' (ys:List V),H l'=none->aj H H'->aG K H' t' m l' mt ys (bs.map fun ns=>ns.map (QY sq))->Q (.ref t') H'
def gN(K:Frag):Sp:=fun vs H Q _=>∃ (a m l:Addr) (mt:Int×Int) (xs:List V) (bs:List (List Nt)),vs=[.ref a]/\aG K H a m l mt xs bs/\bs.length<=12/\(∀ ns∈bs,ns.length<=12)/\((∃ ns∈bs,∃ n∈ns,qU n=false)->∀ H',aj H H'->Q (.bl false) H')/\((∀ ns∈bs,∀ n∈ns,qU n=true)->∀ H',aj H H'->Q (.bl true) H')
def iL(K:Frag):Sp:=fun vs H Q _=>∃ (a:Addr) (ns:List Int) (j:Int),vs=[.ref a,.int j]/\aW K H a (ns.map V.int)/\0<=j/\j<=100/\∀ (l:Addr) H' (ys:List V) (rs:List (List Int)),H l=none->aj H H'->H' l=some (.lst ys)->bM H' ys rs->(∀ x∈ys,x≠V.ref l)->tR rs->Q (.ref l) H'
def jt(K:Frag):Sp:=fun vs H Q _=>∃ (l a:Addr) (ys:List V) (rs:List (List Int)) (r:List Int),vs=[.ref l,.ref a]/\H l=some (.lst ys)/\bM H ys rs/\tR rs/\aR K H a (r.map V.int)/\r.length=5/\(∀ x∈r,-1000<=x/\x<=1000)/\∀ (p:Addr) H' (v:List Int),aj H H'->H' p=some (.tup (v.map V.int))->RB rs rs.length r v->Q (.ref p) H'
def gU(K:Frag):Sp:=fun vs H Q _=>∃ (l:Addr) (c:Int) (ys:List V) (rs:List (List Int)),vs=[.ref l,.int c]/\H l=some (.lst ys)/\bM H ys rs/\tR rs/\∀ (l':Addr) H' (zs:List V) (cs:List (List Int)),H l'=none->aj H H'->H' l'=some (.lst zs)->aK K H' zs cs->Eqv 5 rs cs->Len 5 cs->(∀ v∈cs,∀ x∈v,-24<=x/\x<=24)->cs.length<=4->Q (.ref l') H'
def kC(K:Frag):Sp:=fun vs H Q _=>∃ (sl a m l:Addr) (mt:Int×Int) (ss xs:List V) (bs:List (List Nt)) (rs st:List (List Int)),vs=[.ref sl,.ref a]/\aG K H a m l mt xs bs/\bs.length<=12/\(∀ ns∈bs,ns.length<=12/\∀ n∈ns,i7 n)/\H sl=some (.lst ss)/\bM H ss rs/\tR rs/\SF st/\Len 5 st/\Eqv 5 rs st/\∀ (t' l':Addr) H' (ys:List V),H l'=none->aj H H'->aG K H' t' m l' mt ys (bs.map fun ns=>ns.map (fj st))->Q (.ref t') H'
def iM(K:Frag):Sp:=fun vs H Q _=>∃ (sl a m l:Addr) (c:Int) (mt:Int×Int) (ss xs:List V) (bs:List (List Nt)) (rs:List (List Int)),vs=[.ref sl,.ref a,.int c]/\aG K H a m l mt xs bs/\qe 700 bs/\H sl=some (.lst ss)/\bM H ss rs/\tR rs/\∀ (t' l':Addr) H' (ys:List V) (BQ:List (List Nt)),H l'=none->aj H H'->aG K H' t' m l' mt ys BQ->qe 800 BQ->Q (.ref t') H'
def mU(K:Frag):Sp:=fun vs H Q _=>∃ (x l0 a m l dd dm dl:Addr) (mt:Int×Int) (xs yd:List V) (bs:List (List Nt)) (st:List (List Int)),vs=[.ref x,.ref a,.ref dd]/\aG K H a m l mt xs bs/\qe 800 bs/\aG K H dd dm dl mt yd (bs.map fun ns=>ns.map (fj st))/\fw K H x l0 (.comma st)/\Tu.ok (.comma st)/\bP K H/\∀ H',i6 K H H'->bP K H'->Q (.bl true) H'
def dY (K:Frag):Sp:=fun vs H Q _=>∃ (x l C dx:Addr) (b:Nat) (xs:List V) (rs:List (List Int)),vs=[.ref x,.ref l]/\nsIn K mainGlobals "CommaTuning"=some (some (.ref C))/\H x=some (.ins C dx [])/\aW K H l xs/\aK K H xs rs/\rs.length<=6/\Len 5 rs/\(∀ v∈rs,de (2 ^ b) v)/\b<=109/\bP K H/\∀ (l1:Addr) (H1:Hp) (ys:List V) (st:List (List Int)),H l1=none->i6 K H H1->bP K H1->H1 l1=some (.lst ys)->aK K H1 ys st->SF st->Eqv 5 rs st->Len 5 st->H1 x=some (.ins C dx [])->Q .dB (upd H1 x (.ins C dx [("steps",.ref l1)]))
def dQ(K:Frag):Sp:=fun vs H Q _=>∃ (x l a:Addr) (st:List (List Int)) (r:List Int),vs=[.ref x,.ref a]/\fw K H x l (.comma st)/\Tu.ok (.comma st)/\aR K H a (r.map V.int)/\r.length=5/\de (2 ^ 20000) r/\∀ (p:Addr) (H':Hp) (v:List Int),aj H H'->aR K H' p (v.map V.int)->IQ st r v->Q (.ref p) H'
section
variable {K:Frag}{H:Hp}{Q:VK}{E:XK}
theorem yW{v:V}(hv:Kn K H v)(k:Q (.bl (wh v)) H):jq K [v] H Q E:=⟨v,rfl,hv,k⟩
theorem qj{v:V}(h:(∃ (a:Addr) (xs:List V),v=.ref a/\aR K H a xs/\xs.length<=1000/\(∀ x∈xs,Kn K H x)/\∀ H',aj H H'->Q (.bl (decide (xs.length=5) && xs.all wh)) H')\/(NT K H v/\Q (.bl false) H)):mR K [v] H Q E:=⟨v,rfl,h⟩
theorem yX{a:Addr}{x0 x1 x2 x3 x4:Int}(ha:aR K H a [.int x0,.int x1,.int x2,.int x3,.int x4])(k:∀ H',aj H H'->Q (.bl (fits x0 x1 x2 x3 x4)) H'):km K [.ref a] H Q E:=⟨_,rfl,.inl ⟨a,x0,x1,x2,x3,x4,rfl,ha,k⟩⟩
theorem BR {a:Addr} {x0 x1 x2 x3 x4:Int} (ha:aR K H a [.int x0,.int x1,.int x2,.int x3,.int x4]) (ke:(fits x0 x1 x2 x3 x4=false->∀ C H',nsIn K mainGlobals "TooFar"=some (some (.ref C))->aj H H'->E (.ref C) none H')) (kq:(fits x0 x1 x2 x3 x4=true->∀ H',aj H H'->Q (.ref a) H')):iI K [.ref a] H Q E:=⟨a,x0,x1,x2,x3,x4,rfl,ha,ke,kq⟩
theorem MX{a b:Addr}(r q:List Int)(ha:aR K H a (r.map V.int))(hb:aR K H b (q.map V.int))(hl:r.length=q.length)(hn:r.length<=1000)(k:∀ p H',aj H H'->H' p=some (.tup ((sub r q).map V.int))->Q (.ref p) H'):uP K [.ref a,.ref b] H Q E:=⟨a,b,r,q,rfl,ha,hb,hl,hn,k⟩
theorem AR{a:Addr}{n:Int}(r:List Int)(ha:aR K H a (r.map V.int))(hn:r.length<=1000)(hm:∀ x∈r,nS x n)(k:∀ p H',aj H H'->H' p=some (.tup ((cA r n).map V.int))->Q (.ref p) H'):lW K [.ref a,.int n] H Q E:=⟨a,r,n,rfl,ha,hn,hm,k⟩
theorem qk {a f cS b l0:Addr} {ob:Obj} {n:Nt} {md:Bool} {st:List (List Int)} (h:bQ K H (.ref a) n/\i7 n/\pZ md H f cS b ob/\fw K H b l0 (.comma st)/\Tu.ok (.comma st)) (k:(xP md st n=false->∀ C H',nsIn K mainGlobals "TooFar"=some (some (.ref C))->aj H H'->E (.ref C) none H')/\(xP md st n=true->∀ p H',aj H H'->bQ K H' (.ref p) (fj st n)->Q (.ref p) H')):fE K [.ref a,.ref f] H Q E:=let ⟨h1,h2,h3,h4,h5⟩:=h;⟨a,f,cS,b,l0,ob,n,md,st,rfl,h1,h2,h3,h4,h5,k⟩
theorem rE {a f cS b:Addr} {ob:Obj} {xs:List V} {ns:List Nt} {md:Bool} {st:List (List Int)} {l0:Addr} (h:aW K H a xs/\bc K H xs ns/\ns.length<=100/\(∀ n∈ns,i7 n)/\pZ md H f cS b ob/\fw K H b l0 (.comma st)/\Tu.ok (.comma st)) (k:((∃ n∈ns,xP md st n=false)->∀ C H',nsIn K mainGlobals "TooFar"=some (some (.ref C))->aj H H'->E (.ref C) none H')/\((∀ n∈ns,xP md st n=true)->∀ l' H' ys,H l'=none->aj H H'->H' l'=some (.lst ys)->bc K H' ys (ns.map (fj st))->Q (.ref l') H')):gq K [.ref a,.ref f] H Q E:=let ⟨h1,h2,h3,h4,h5,h6,h7⟩:=h;⟨a,f,cS,b,ob,xs,ns,md,st,l0,rfl,h1,h2,h3,h4,h5,h6,h7,k⟩
theorem tW {a m l f cS b:Addr} {mt:Int×Int} {ob:Obj} {xs:List V} {bs:List (List Nt)} {md:Bool} {st:List (List Int)} {l0:Addr} (h:aG K H a m l mt xs bs/\bs.length<=100/\(∀ ns∈bs,ns.length<=100/\∀ n∈ns,i7 n)/\pZ md H f cS b ob/\fw K H b l0 (.comma st)/\Tu.ok (.comma st)) (k:((∃ ns∈bs,∃ n∈ns,xP md st n=false)->∀ C H',nsIn K mainGlobals "TooFar"=some (some (.ref C))->aj H H'->E (.ref C) none H')/\((∀ ns∈bs,∀ n∈ns,xP md st n=true)->∀ t' l' H' ys,H l'=none->aj H H'->(∀ x∈ys,∃ b,x=V.ref b/\H b=none)->aG K H' t' m l' mt ys (bs.map fun ns=>ns.map (fj st))->Q (.ref t') H')):iJ K [.ref a,.ref f] H Q E:=let ⟨h1,h2,h3,h4,h5,h6⟩:=h;⟨a,m,l,f,cS,b,mt,ob,xs,bs,md,st,l0,rfl,h1,h2,h3,h4,h5,h6,k⟩
theorem xc{a m l x l0:Addr}{mt:Int×Int}{xs:List V}{bs:List (List Nt)}{st:List (List Int)}(h:aG K H a m l mt xs bs/\bs.length<=100/\(∀ ns∈bs,ns.length<=100/\∀ n∈ns,i7 n)/\fw K H x l0 (.comma st)/\Tu.ok (.comma st)/\bP K H)(k:∀ t' l' H' ys,H l'=none->i6 K H H'->bP K H'->(∀ x∈ys,∃ b,x=V.ref b/\H b=none)->aG K H' t' m l' mt ys (bs.map fun ns=>ns.map (fj st))->Q (.ref t') H'):mS K [.ref x,.ref a] H Q E:=let ⟨h1,h2,h3,h4,h5,h6⟩:=h;⟨a,m,l,x,l0,mt,xs,bs,st,rfl,h1,h2,h3,h4,h5,h6,k⟩
theorem j0{x l0 a1 m1 l1 a2 m2 l2:Addr}{MV MW:Int×Int}{Q3 Q4:List V}{Fh Fi:List (List Nt)}{st:List (List Int)}(h:aG K H a1 m1 l1 MV Q3 Fh/\Fh.length<=100/\(∀ ns∈Fh,ns.length<=100/\∀ n∈ns,i7 n)/\aG K H a2 m2 l2 MW Q4 Fi/\Fi.length<=100/\(∀ ns∈Fi,ns.length<=100/\∀ n∈ns,i7 n)/\fw K H x l0 (.comma st)/\Tu.ok (.comma st)/\bP K H)(k:∀ H',i6 K H H'->bP K H'->Q (.bl (PyData.eqv (gp MV (Fh.map fun ns=>ns.map (fj st))) (gp MW (Fi.map fun ns=>ns.map (fj st))))) H'):gu K [.ref x,.ref a1,.ref a2] H Q E:=let ⟨h1,h2,h3,h4,h5,h6,h7,h8,h9⟩:=h;⟨x,l0,a1,m1,l1,a2,m2,l2,MV,MW,Q3,Q4,Fh,Fi,st,rfl,h1,h2,h3,h4,h5,h6,h7,h8,h9,k⟩
theorem nV {a m l x l0:Addr} {mt:Int×Int} {xs:List V} {bs:List (List Nt)} {st:List (List Int)} (h:aG K H a m l mt xs bs/\bs.length<=100/\(∀ ns∈bs,ns.length<=100/\∀ n∈ns,i7 n)/\fw K H x l0 (.comma st)/\Tu.ok (.comma st)/\bP K H) (k:((∃ ns∈bs,∃ n∈ns,qU (fj st n)=false)->∀ C H',nsIn K mainGlobals "TooFar"=some (some (.ref C))->i6 K H H'->bP K H'->E (.ref C) none H')/\((∀ ns∈bs,∀ n∈ns,qU (fj st n)=true)->∀ t' l' H' ys,H l'=none->i6 K H H'->bP K H'->(∀ x∈ys,∃ b,x=V.ref b/\H b=none)->aG K H' t' m l' mt ys (bs.map fun ns=>ns.map (fj st))->Q (.ref t') H')):iK K [.ref x,.ref a] H Q E:=let ⟨h1,h2,h3,h4,h5,h6⟩:=h;⟨a,m,l,x,l0,mt,xs,bs,st,rfl,h1,h2,h3,h4,h5,h6,k⟩
theorem mV{l:Addr}{ys:List V}(hl:aW K H l ys)(hn:ys.length<=6)(k:Q (.ref l) H):eK K [.ref l] H Q E:=⟨l,ys,rfl,hl,hn,k⟩
theorem uQ{a:Addr}{r:List Int}{k:Nat}(ha:aR K H a (r.map V.int))(hl:r.length<=1000)(hk:Led r k)(kk:∀ H',aj H H'->Q (.int k) H'):gR K [.ref a] H Q E:=⟨a,r,k,rfl,ha,hl,hk,kk⟩
theorem mW{a b:Addr}{p n M k:Nat}(v s:List Int)(ha:aR K H a (v.map V.int))(hb:aR K H b (s.map V.int))(lv:v.length=n)(ls:s.length=n)(hn:n<=1000)(hp:p<n)(h0:s.getD p 0≠0)(bv:de M v)(bs:de M s)(hM:M<2 ^ k)(hk:k<=60000000)(kk:∀ p' H',aj H H'->H' p'=some (.tup ((bN p s v).map V.int))->Q (.ref p') H'):gv K [.ref a,.ref b,.int p] H Q E:=⟨a,b,p,n,M,k,v,s,rfl,ha,hb,lv,ls,hn,hp,h0,bv,bs,hM,hk,kk⟩
theorem Fj{l:Addr}{p n M A k:Nat}{xs:List V}{rs:List (List Int)}(h:aW K H l xs/\aK K H xs rs/\rs.length<64/\Len n rs/\n<=1000/\p<n/\(∀ v∈rs,de M v)/\(∀ v∈rs,at' p v<=A)/\0<A/\6*(M*(A*A))<2 ^ k/\k<=60000000/\bP K H)(kk:∀ t l1 l2 H' ys zs led os,i6 K H H'->bP K H'->aR K H' t [.ref l1,.ref l2]->aW K H' l1 ys->aK K H' ys led->aW K H' l2 zs->aK K H' zs os->led.length<=1->(∀ v∈led,0<v.getD p 0)->(∀ v∈os,v.getD p 0=0)->(∀ v∈led++os,v.length=n)->(∀ v∈led++os,de (6*(M*(A*A))) v)->Eqv n rs (led++os)->led.length+os.length<=rs.length->(∀ v∈led,at' p v<=A)->Q (.ref t) H'):mT K [.ref l,.int p] H Q E:=let ⟨h1,h2,h3,h4,h5,h6,h7,h8,h9,Pj,Vu,NY⟩:=h;⟨l,p,n,M,A,k,xs,rs,rfl,h1,h2,h3,h4,h5,h6,h7,h8,h9,Pj,Vu,NY,kk⟩
theorem BS{l:Addr}{w n b:Nat}{xs:List V}{rs:List (List Int)}(h:aW K H l xs/\aK K H xs rs/\rs.length<64/\Len n rs/\n<=1000/\w<=n/\(∀ v∈rs,de (2 ^ b) v)/\(∀ i,i<w->d7.ss b (i+1)<60000000)/\bP K H)(kk:∀ l' H' ys st lf,H l'=none->i6 K H H'->bP K H'->H' l'=some (.lst ys)->aK K H' ys st->SJ n w b rs w st lf->Q (.ref l') H'):kr K [.ref l,.int w] H Q E:=let ⟨h1,h2,h3,h4,h5,h6,h7,h8,h9⟩:=h;⟨l,w,n,b,xs,rs,rfl,h1,h2,h3,h4,h5,h6,h7,h8,h9,kk⟩
theorem Jd{l:Addr}{b:Nat}{xs:List V}{rs:List (List Int)}(h:aW K H l xs/\aK K H xs rs/\rs.length<=6/\Len 5 rs/\(∀ v∈rs,de (2 ^ b) v)/\b<=109/\bP K H)(kk:∀ l' H' ys st,H l'=none->i6 K H H'->bP K H'->H' l'=some (.lst ys)->aK K H' ys st->SF st->Eqv 5 rs st->Len 5 st->st.length<=5->(∀ v∈st,de (2 ^ d7.ss b 5) v)->(∀ v∈st,∀ k,Led v k->(v.getD k 0).natAbs<=2 ^ gs b (4 - k))->Q (.ref l') H'):qi K [.ref l] H Q E:=let ⟨h1,h2,h3,h4,h5,h6,h7⟩:=h;⟨l,b,xs,rs,rfl,h1,h2,h3,h4,h5,h6,h7,kk⟩
theorem BU{l a:Addr}{n B C:Nat}{xs:List V}{st:List (List Int)}{u:List Int}(h:aW K H l xs/\aK K H xs st/\aR K H a (u.map V.int)/\u.length=n/\5<=n/\n<=100/\Len n st/\st.length<=5/\SF (st.map (List.take 5))/\(∀ r∈st,de (2 ^ B) r)/\de (2 ^ C) u/\C+6*B<50000000)(kk:∀ p H' v,aj H H'->aR K H' p (v.map V.int)->LB n 5 st st.length u v->de (2 ^ (C+(B+1)*5)) v->Q (.ref p) H'):kx K [.ref l,.ref a] H Q E:=let ⟨h1,h2,h3,h4,h5,h6,h7,h8,h9,Pj,Vu,NY⟩:=h;⟨l,a,n,B,C,xs,st,u,rfl,h1,h2,h3,h4,h5,h6,h7,h8,h9,Pj,Vu,NY,kk⟩
theorem rF{a:Addr}{ns:List Int}{j:Int}(ha:aW K H a (ns.map V.int))(h0:0<=j)(k:Q (.int (ns.getD j.toNat 0)) H):dP K [.ref a,.int j] H Q E:=⟨a,ns,j,rfl,ha,h0,k⟩
theorem lX{t b:Nat}(h0:0<b)(h9:b<2 ^ 9000)(k:∀ p H',aj H H'->H' p=some (.tup [.int (t / Nat.gcd t b:Nat),.int (b / Nat.gcd t b:Nat)])->Q (.ref p) H'):gS K [.int t,.int b] H Q E:=⟨t,b,rfl,h0,h9,k⟩
theorem df{c j:Int}(hj:0<=j/\j<=1000)(k:∀ m:Int,0<=m->m<999983->Q (.int m) H):du K [.int c,.int j] H Q E:=⟨c,j,rfl,hj,k⟩
theorem en{n:Nat}{x y:V}(h:yQ K n H x y)(k:∀ H',aj H H'->Q (.bl true) H'):fT K n [x,y] H Q E:=⟨x,y,rfl,h,k⟩
theorem ql{c:Int}(hc:0<=c/\c<=1000000)(k:∀ (p:Addr) H' (z:Str) (v:V) (o:Option (List Int)),aj H H'->H' p=some (.tup [.str z,v])->eJ K H' v o->IU z o->Q (.ref p) H'):fF K [.int c] H Q E:=⟨c,rfl,hc,k⟩
theorem uR{c:Int}{n t:Nat}(h:1<=n/\n<=12/\n<=t/\t<=100)(k:∀ (l:Addr) H' (ps:List Int),H l=none->aj H H'->H' l=some (.lst (ps.map V.int))->ps.length=n->(∀ p∈ps,1<=p/\p<=t)->ps.sum=(t:Int)->Q (.ref l) H'):gT K [.int c,.int n,.int t] H Q E:=let ⟨h1,h2,h3,h4⟩:=h;⟨c,n,t,rfl,h1,h2,h3,h4,k⟩
theorem yY{a:Addr}{ns:List Int}{j:Int}(h:aW K H a (ns.map V.int)/\0<=j/\j<=100)(k:∀ (t m l:Addr) H' (mt:Int×Int) (xs:List V) (bs:List (List Nt)),aj H H'->aG K H' t m l mt xs bs->AJ mt bs->Q (.ref t) H'):jr K [.ref a,.int j] H Q E:=let ⟨h1,h2,h3⟩:=h;⟨a,ns,j,rfl,h1,h2,h3,k⟩
theorem yZ{a m l:Addr}{mt:Int×Int}{xs:List V}{bs:List (List Nt)}(h:aG K H a m l mt xs bs/\bs.length<=12)(k:∀ (t' l':Addr) H' (ys:List V),H l'=none->aj H H'->aG K H' t' m l' mt ys bs->Q (.ref t') H'):js K [.ref a] H Q E:=⟨a,m,l,mt,xs,bs,rfl,h.1,h.2,k⟩
theorem BV{a m l b:Addr}{mt:Int×Int}{xs:List V}{bs:List (List Nt)}{sq:List Int}(h:aG K H a m l mt xs bs/\bs.length<=12/\(∀ ns∈bs,ns.length<=12)/\H b=some (.lst (sq.map V.int))/\sq.length=5)(k:∀ (t' l':Addr) H' (ys:List V),H l'=none->aj H H'->aG K H' t' m l' mt ys (bs.map fun ns=>ns.map (QY sq))->Q (.ref t') H'):kB K [.ref a,.ref b] H Q E:=let ⟨h1,h2,h3,h4,h5⟩:=h;⟨a,m,l,b,mt,xs,bs,sq,rfl,h1,h2,h3,h4,h5,k⟩
theorem iN{a m l:Addr}{mt:Int×Int}{xs:List V}{bs:List (List Nt)}(h:aG K H a m l mt xs bs/\bs.length<=12/\(∀ ns∈bs,ns.length<=12))(k:((∃ ns∈bs,∃ n∈ns,qU n=false)->∀ H',aj H H'->Q (.bl false) H')/\((∀ ns∈bs,∀ n∈ns,qU n=true)->∀ H',aj H H'->Q (.bl true) H')):gN K [.ref a] H Q E:=⟨a,m,l,mt,xs,bs,rfl,h.1,h.2.1,h.2.2,k⟩
theorem xg{a:Addr}{ns:List Int}{j:Int}(h:aW K H a (ns.map V.int)/\0<=j/\j<=100)(k:∀ (l:Addr) H' (ys:List V) (rs:List (List Int)),H l=none->aj H H'->H' l=some (.lst ys)->bM H' ys rs->(∀ x∈ys,x≠V.ref l)->tR rs->Q (.ref l) H'):iL K [.ref a,.int j] H Q E:=let ⟨h1,h2,h3⟩:=h;⟨a,ns,j,rfl,h1,h2,h3,k⟩
theorem y4{l a:Addr}{ys:List V}{rs:List (List Int)}{r:List Int}(h:H l=some (.lst ys)/\bM H ys rs/\tR rs/\aR K H a (r.map V.int)/\r.length=5/\(∀ x∈r,-1000<=x/\x<=1000))(k:∀ (p:Addr) H' (v:List Int),aj H H'->H' p=some (.tup (v.map V.int))->RB rs rs.length r v->Q (.ref p) H'):jt K [.ref l,.ref a] H Q E:=let ⟨h1,h2,h3,h4,h5,h6⟩:=h;⟨l,a,ys,rs,r,rfl,h1,h2,h3,h4,h5,h6,k⟩
theorem uS{l:Addr}{c:Int}{ys:List V}{rs:List (List Int)}(h:H l=some (.lst ys)/\bM H ys rs/\tR rs)(k:∀ (l':Addr) H' (zs:List V) (cs:List (List Int)),H l'=none->aj H H'->H' l'=some (.lst zs)->aK K H' zs cs->Eqv 5 rs cs->Len 5 cs->(∀ v∈cs,∀ x∈v,-24<=x/\x<=24)->cs.length<=4->Q (.ref l') H'):gU K [.ref l,.int c] H Q E:=let ⟨h1,h2,h3⟩:=h;⟨l,c,ys,rs,rfl,h1,h2,h3,k⟩
theorem tX{sl a m l:Addr}{mt:Int×Int}{ss xs:List V}{bs:List (List Nt)}{rs st:List (List Int)}(h:aG K H a m l mt xs bs/\bs.length<=12/\(∀ ns∈bs,ns.length<=12/\∀ n∈ns,i7 n)/\H sl=some (.lst ss)/\bM H ss rs/\tR rs/\SF st/\Len 5 st/\Eqv 5 rs st)(k:∀ (t' l':Addr) H' (ys:List V),H l'=none->aj H H'->aG K H' t' m l' mt ys (bs.map fun ns=>ns.map (fj st))->Q (.ref t') H'):kC K [.ref sl,.ref a] H Q E:=let ⟨h1,h2,h3,h4,h5,h6,h7,h8,h9⟩:=h;⟨sl,a,m,l,mt,ss,xs,bs,rs,st,rfl,h1,h2,h3,h4,h5,h6,h7,h8,h9,k⟩
theorem xh{sl a m l:Addr}{c:Int}{mt:Int×Int}{ss xs:List V}{bs:List (List Nt)}{rs:List (List Int)}(h:aG K H a m l mt xs bs/\qe 700 bs/\H sl=some (.lst ss)/\bM H ss rs/\tR rs)(k:∀ (t' l':Addr) H' (ys:List V) (BQ:List (List Nt)),H l'=none->aj H H'->aG K H' t' m l' mt ys BQ->qe 800 BQ->Q (.ref t') H'):iM K [.ref sl,.ref a,.int c] H Q E:=let ⟨h1,h2,h3,h4,h5⟩:=h;⟨sl,a,m,l,c,mt,ss,xs,bs,rs,rfl,h1,h2,h3,h4,h5,k⟩
theorem qm{x l0 a m l dd dm dl:Addr}{mt:Int×Int}{xs yd:List V}{bs:List (List Nt)}{st:List (List Int)}(h:aG K H a m l mt xs bs/\qe 800 bs/\aG K H dd dm dl mt yd (bs.map fun ns=>ns.map (fj st))/\fw K H x l0 (.comma st)/\Tu.ok (.comma st)/\bP K H)(k:∀ H',i6 K H H'->bP K H'->Q (.bl true) H'):mU K [.ref x,.ref a,.ref dd] H Q E:=let ⟨h1,h2,h3,h4,h5,h6⟩:=h;⟨x,l0,a,m,l,dd,dm,dl,mt,xs,yd,bs,st,rfl,h1,h2,h3,h4,h5,h6,k⟩
theorem kD {x l C dx:Addr} {b:Nat} {xs:List V} {rs:List (List Int)} (h:nsIn K mainGlobals "CommaTuning"=some (some (.ref C))/\H x=some (.ins C dx [])/\aW K H l xs/\aK K H xs rs/\rs.length<=6/\Len 5 rs/\(∀ v∈rs,de (2 ^ b) v)/\b<=109/\bP K H) (k:∀ (l1:Addr) (H1:Hp) (ys:List V) (st:List (List Int)),H l1=none->i6 K H H1->bP K H1->H1 l1=some (.lst ys)->aK K H1 ys st->SF st->Eqv 5 rs st->Len 5 st->H1 x=some (.ins C dx [])->Q .dB (upd H1 x (.ins C dx [("steps",.ref l1)]))):dY K [.ref x,.ref l] H Q E:=let ⟨h1,h2,h3,h4,h5,h6,h7,h8,h9⟩:=h;⟨x,l,C,dx,b,xs,rs,rfl,h1,h2,h3,h4,h5,h6,h7,h8,h9,k⟩
theorem fP{x l a:Addr}{st:List (List Int)}{r:List Int}(h:fw K H x l (.comma st)/\Tu.ok (.comma st)/\aR K H a (r.map V.int)/\r.length=5/\de (2 ^ 20000) r)(k:∀ (p:Addr) (H':Hp) (v:List Int),aj H H'->aR K H' p (v.map V.int)->IQ st r v->Q (.ref p) H'):dQ K [.ref x,.ref a] H Q E:=let ⟨h1,h2,h3,h4,h5⟩:=h;⟨x,l,a,st,r,rfl,h1,h2,h3,h4,h5,k⟩
end
local macro_rules|`(tactic| walk_at "hf") => `(tactic| first|assumption|exact L2.aR.of (by assumption)|exact L2.aW.of (by assumption)|exact L2.wk.at (by assumption)|((with_reducible apply L2.gh);(walk_at "hf"))|((with_reducible apply L2.d9);(walk_at "hf"))|((with_reducible apply L2.aj.at);(assumption);(walk_at "hf"))|((with_reducible apply L2.aj.seq);(assumption);(walk_at "hf"))|((with_reducible apply L2.aj.lst);(assumption);(walk_at "hf"))|((with_reducible apply L2.aj.sq);(assumption);(walk_at "hf")))
local macro_rules|`(tactic| walk_at "sm") => `(tactic| first|exact L2.aj.refl _|assumption|((refine L2.aj.trans ?_ (by assumption));walk_at "sm"))
local macro_rules|`(tactic| walk_at "side") => `(tactic| first|(show (0 : Int)<_;first|decide|lia)|exact⟨by decide, by decide⟩|exact⟨by lia, by lia⟩|exact Or.inl ⟨by decide, by decide⟩|exact Or.inr ⟨by decide, by decide⟩|exact Or.inr ⟨by lia, by lia⟩|exact Or.inl ⟨by lia, by lia⟩|exact⟨by decide, by decide, by decide⟩|assumption)
local macro_rules|`(tactic| walk_at "p") => `(tactic| first
 | (with_reducible refine L2.Pw ?_)|(with_reducible refine L2.Px ?_)|(with_reducible refine L2.G9 ?_)|(with_reducible refine L2.Py ?_)|(with_reducible refine L2.LA ?_)|(with_reducible refine L2.LC ?_)
 | ((with_reducible apply L2.PB);(exact rfl))|(with_reducible refine L2.r_c ?_)|(with_reducible refine L2.Ut ?_)|(with_reducible refine L2.Uu ?_)|(with_reducible refine L2.r_b ?_)|(with_reducible refine L2.LD ?_)|(with_reducible refine L2.LF ?_)
 | (with_reducible refine L2.PC ?_)|(with_reducible refine L2.Uv ?_)|(with_reducible refine L2.PD ?_)|(with_reducible refine L2.LG ?_)|(with_reducible refine L2.PF ?_)|(with_reducible refine L2.LH ?_)|(with_reducible refine L2.PH ?_)
 | (with_reducible refine L2.PL ?_)|((with_reducible refine L2.r_I ?_ ?_);(walk_at "side"))|(with_reducible refine L2.r_U ?_)|(with_reducible refine L2.PN ?_)|(with_reducible refine L2.PQ ?_)|(with_reducible refine L2.PR ?_)|(with_reducible refine L2.LI ?_)|(with_reducible refine L2.PU ?_)|(with_reducible refine L2.PX ?_)|((with_reducible refine L2.LJ ?_ ?_);(first|exact abu rfl|(focus (simp;done))|(focus (simp;lia)));intro p_ H_ s_ m_)|((with_reducible refine L2.D2 ?_ ?_);(first|exact abu rfl|(focus (simp;done))|(focus (simp;lia)));intro p_ H_ n_ s_ m_)
 | (with_reducible refine L2.Uw ?_)|(with_reducible refine L2.Hi ?_)|(with_reducible refine L2.LK ?_)|(with_reducible refine L2.Ux ?_)|(with_reducible refine L2.D3 ?_)|(with_reducible refine L2.LL ?_)|(with_reducible refine L2.Hd ?_)|(with_reducible refine L2.Uy ?_)|(with_reducible refine L2.PY ?_)
 | (with_reducible refine L2.PZ ?_)|(with_reducible refine L2.He ?_)|(with_reducible refine L2.LM ?_)|(with_reducible refine L2.LN ?_)|(with_reducible refine L2.LO ?_)
 | ((with_reducible apply L2.P0);(walk_at "hf"))|((with_reducible apply L2.P4);(walk_at "hf"))|((with_reducible refine L2.JU ?_ ?_ ?_);(first|decide|lia);(first|decide|lia))|((with_reducible apply L2.P6);(walk_at "hf");(walk_at "hf"))
 | ((with_reducible apply L2.LP);(walk_at "hf"))|((with_reducible apply L2.LQ);(walk_at "hf"))
 | ((with_reducible apply L2.D4);(walk_at "hf");intro p_ H_ s_ m_)|((with_reducible apply L2.Hf);(walk_at "hf");intro p_ H_ n_ s_ m_)|((with_reducible apply L2.Hg);(walk_at "hf");intro p_ H_ n_ s_ m_)
 | (with_reducible refine L2.P7 ?_)|((with_reducible apply L2.LU);(walk_at "hf");(first|exact L2.jk _ _|exact rfl))|((with_reducible apply L2.LV);(walk_at "hf");(first|exact L2.jk _ _|exact rfl))|((with_reducible apply L2.LW);(first|exact L2.jk _ _|exact rfl))|((with_reducible apply L2.LX);(first|exact L2.jk _ _|exact rfl))
 | ((with_reducible refine L2.D5 ?_ ?_);(first|exact rfl|exact Or.inl ⟨rfl,_,by walk_at "hf"⟩))|((with_reducible refine L2.Hh ?_ ?_);(first|exact rfl|exact Or.inl ⟨rfl,_,by walk_at "hf"⟩))
 | ((with_reducible apply L2.D6);(walk_at "hf");(walk_at "hf");(first|exact abu rfl|(focus (simp;done))|(focus (simp;lia)));intro p_ H_ n_ s_ m_)
 | ((with_reducible apply L2.LY);(walk_at "hf");intro p_ H_ n_ s_ m_)|((with_reducible apply L2.LZ);(walk_at "hf");intro p_ H_ s_ m_)
 | ((with_reducible apply L2.LS);(walk_at "hf");(walk_at "hf");(exact List.cons_ne_nil _ _);(exact List.cons_ne_nil _ _);(first|exact abu rfl|(focus (simp;done))|(focus (simp;lia)));intro p_ H_ s_ m_)
 | (with_reducible refine L2.Ht ?_)|((with_reducible apply L2.L7);(walk_at "hf");(walk_at "hf");(walk_at "hf"))|((with_reducible apply L2.Mi);(exact rfl))|((with_reducible apply L2.Mj);(exact rfl))|(with_reducible refine L2.Ml ?_)|(with_reducible refine L2.HQ ?_)|(with_reducible refine L2.HR ?_)|(with_reducible refine L2.Qr ?_)|(with_reducible refine L2.My ?_)|(with_reducible refine L2.Mz ?_)|(with_reducible refine L2.QJ ?_)|(with_reducible refine L2.MB ?_)|((with_reducible apply L2.MA);(assumption);(assumption);(assumption);(exact rfl))|((with_reducible apply L2.Iu);(assumption);(exact rfl))
 | (with_reducible refine L2.QE ?_)|(with_reducible refine L2.QF ?_)
 | (with_reducible refine L2.Io ?_)|((with_reducible refine L2.Mt ?_ ?_ ?_);(first|exact⟨by decide,by decide⟩|exact⟨by lia,by lia⟩);(first|exact⟨by decide,by decide⟩|exact⟨by lia,by lia⟩))|(with_reducible refine L2.Im ?_)|(with_reducible refine L2.Ic ?_)|((with_reducible apply L2.QA);(walk_at "hf")))
local macro_rules|`(tactic| walk_at "q") => `(tactic| first|(walk_at "p")|(with_reducible refine L2.Pz ?_))
local macro_rules|`(tactic| walk_at "x") => `(tactic| first|((with_reducible apply L2.iW);(walk_at "hf");(exact rfl))|((with_reducible apply L2.fN);(walk_at "hf");(exact rfl)))
local macro_rules|`(tactic| walk_at "r") => `(tactic| first|(walk_at "q")|(walk_at "x"))
local macro_rules|`(tactic| walk_at "v") => `(tactic| repeat walk_at "q")
local macro_rules|`(tactic| walk_at "j") => `(tactic| repeat (first|(walk_at "p")|(walk_at "x")))
local macro_rules|`(tactic| walk_at "sz") => `(tactic| first|exact L2.dz (by lia)|decide|exact L2.dz (by simp only [PySem.strLen_append];lia)|assumption)
local macro_rules|`(tactic| walk_at "p") => `(tactic| first|((with_reducible refine L2.MD ?_ ?_);(exact abu rfl);intro p_ H_ n_ s_ m_)|((with_reducible refine L2.uF ?_ ?_);(walk_at "sz"))|(with_reducible refine L2.QK ?_) )
local macro_rules|`(tactic| walk_at "p") => `(tactic| ((with_reducible apply rF);(walk_at "hf");(first|decide|lia)))
local macro_rules|`(tactic| walk_at "w") => `(tactic| repeat walk_at "r")
section
variable {P:Program}{w:World}{K:Frag}{mg:Str->Option Value}{base:Heap}{G:nU}
theorem xi:aA ["thing"] ["thing"] (ak ed):=⟨rfl,rfl,rfl,by decide +kernel,rfl,by decide +kernel,by decide +kernel⟩
theorem xj (D:Def K mg "is_whole" ed ["thing"]) (T:Txt K mg G) (Y:base.NoSeer/\P.given.tree=none):Ok P w K mg base 1 "is_whole" ["thing"] (jq K):=by
 have S:=xi
 refine D.ok S (fun vs H Q E h=>?_) (fun f cZ A outer s H vs Q E hr h=>?_)
 ·obtain ⟨_,rfl,_⟩:=h;rfl
 ·obtain ⟨v,rfl,hv,k⟩:=h
  have hu:=bL hr
  have aC:=T.aC
  have ao:=T.ao
  refine⟨_,(aq (aI (jg (aH (ck K rfl) rfl T.aS boot_isinstance (aa (pv 0) (aa (dC (v:=V.ty "int") rfl T.Fc boot_int rfl) ah))) (j6 (xT (aH (ck K rfl) rfl T.aS boot_isinstance (aa (pv 0) (aa (dC (v:=V.ty "bool") rfl T.yT boot_bool rfl) ah)))))))),?_⟩
  rcases hv with ⟨i,rfl⟩|⟨b,rfl⟩|rfl|⟨s,rfl⟩|⟨a,xs,rfl,hs⟩|⟨a,xs,rfl,hs⟩
  ·walk_at "w"
   refine jM ?_
   walk_at "w"
   exact k
  ·walk_at "w"
   refine jM ?_
   walk_at "w"
   exact k
  all_goals
   walk_at "w"
   refine DI ?_
   walk_at "w"
   exact k
theorem Je:aA ["one","other"] ["one","other"] (ak kj):=⟨rfl,rfl,rfl,by decide +kernel,rfl,by decide +kernel,by decide +kernel⟩
theorem Jf (D:Def K mg "over" kj ["one","other"]) (T:Txt K mg G) (Y:base.NoSeer/\P.given.tree=none):Ok P w K mg base 1 "over" ["one","other"] (uP K):=by
 have S:=Je
 refine D.ok S (fun vs H Q E h=>?_) (fun f cZ A outer s H vs Q E hr h=>?_)
 ·obtain ⟨_,_,_,_,rfl,_⟩:=h;rfl
 ·obtain ⟨a,b,r,q,rfl,ha,hb,hl,hn,k⟩:=h
  have hu:=bL hr
  have aC:=T.aC
  have ao:=T.ao
  refine⟨_,(aq (aI (cW (gi K rfl) rfl T.fo boot_tuple (aa (bU (N:=["number","taken"]) (ix:=[none,none]) rfl (dZ K rfl true true rfl T.jo (aa (pv 0) (aa (pv 1) ah))) (fun _ _ _ _ _=>(cH (n:=2) K rfl rfl (aJ (ax (i:=0) (show je ["number","taken"] by decide +kernel) rfl (Or.inl rfl)) (aJ (ax (i:=1) (show je ["number","taken"] by decide +kernel) rfl (Or.inl rfl)) cE)))) (fun _ _ _ _ _=>rfl) (fun _ _ _ _ _=>(av d3 (pv 0) (pv 1))) rfl (by decide +kernel) (by decide +kernel) rfl True.intro) ah)))),?_⟩
  walk_at "w"
  refine yr (r:=r) (q:=q) (· - ·) rfl ha hb hl hn fun l H1 NK s1 m1=>?_
  walk_at "w"
  rename_i p2 H2 s2 m2
  exact k _ _ (s1.trans s2) m2
theorem Fl:aA ["row","n"] ["row","n"] (ak iG):=⟨rfl,rfl,rfl,by decide +kernel,rfl,by decide +kernel,by decide +kernel⟩
theorem Fm (D:Def K mg "power" iG ["row","n"]) (T:Txt K mg G) (Y:base.NoSeer/\P.given.tree=none):Ok P w K mg base 1 "power" ["row","n"] (lW K):=by
 have S:=Fl
 refine D.ok S (fun vs H Q E h=>?_) (fun f cZ A outer s H vs Q E hr h=>?_)
 ·obtain ⟨_,_,_,rfl,_⟩:=h;rfl
 ·obtain ⟨a,r,n,rfl,ha,hn,hm,k⟩:=h
  have hu:=bL hr
  have aC:=T.aC
  have ao:=T.ao
  refine⟨_,(aq (aI (cW (gi K rfl) rfl T.fo boot_tuple (aa (bU (N:=["number","n"]) (ix:=[none,some 1]) rfl (Ar K rfl (pv 0)) (fun _ _ _ _ _=>(ax (i:=0) (show je ["number","n"] by decide +kernel) rfl (Or.inl rfl))) (fun _ _ _ _ _=>rfl) (fun _ _ _ _ _=>(av Iw (pv 0) (pv 1))) rfl (by decide +kernel) (by decide +kernel) rfl ⟨⟨rfl,Or.inr (Or.inl rfl),rfl,rfl⟩,True.intro⟩) ah)))),?_⟩
  walk_at "w"
  refine Bf (r:=r) (fun x=>.int (x*n)) [some (.int n)] rfl ha hn (fun x H' Qc hx s kc=>?_) (fun l H1 hl s1 m1=>?_)
  ·walk_at "w"
   refine r_I (C:=nS) (hm x hx) ?_
   exact kc _ (aj.refl _)
  walk_at "w"
  rename_i p2 H2 s2 m2
  refine k _ _ (s1.trans s2) ?_
  rw [m2,cA,abm]
  rfl
theorem lY:aA ["commas"] ["commas"] (ak bO):=⟨rfl,rfl,rfl,by decide +kernel,rfl,by decide +kernel,by decide +kernel⟩
theorem lZ (D:Def K mg "checked_commas" bO ["commas"]) (T:Txt K mg G) (Y:base.NoSeer/\P.given.tree=none):Ok P w K mg base 1 "checked_commas" ["commas"] (eK K):=by
 have S:=lY
 refine D.ok S (fun vs H Q E h=>?_) (fun f cZ A outer s H vs Q E hr h=>?_)
 ·obtain ⟨_,_,rfl,_⟩:=h;rfl
 ·obtain ⟨l,ys,rfl,hl,hn,k⟩:=h
  have hu:=bL hr
  have aC:=T.aC
  have ao:=T.ao
  refine⟨_,(ai (cP (ba sJ (aH (fD K rfl) rfl T.iY PySem.boot_len (aa (pv 0) ah)) (iw (v:=V.int 6) rfl T.rA ⟨_,rfl⟩) (aX _)) (aq C7) bg) (aq (aI (pv 0)))),?_⟩
  walk_at "w"
  refine dE (by simp;lia) ?_
  walk_at "w"
  exact k
theorem rG:aA ["row"] ["row"] (ak di):=⟨rfl,rfl,rfl,by decide +kernel,rfl,by decide +kernel,by decide +kernel⟩
theorem rH (D:Def K mg "lead_place" di ["row"]) (T:Txt K mg G) (Y:base.NoSeer/\P.given.tree=none):Ok P w K mg base 1 "lead_place" ["row"] (gR K):=by
 have S:=rG
 refine D.ok S (fun vs H Q E h=>?_) (fun f cZ A outer s H vs Q E hr h=>?_)
 ·obtain ⟨_,_,_,rfl,_⟩:=h;rfl
 ·obtain ⟨a,r,k,rfl,ha,hl,hk,kk⟩:=h
  have hu:=bL hr
  have aC:=T.aC
  have ao:=T.ao
  refine⟨_,(aq (aI (aH (Av K rfl rfl) rfl T.Ki boot_max (aa (bU (N:=["place","number"]) (ix:=[none,none]) rfl (pR K rfl true rfl T.jn (aa (pv 0) ah)) (fun _ _ _ _ _=>(cH (n:=2) K rfl rfl (aJ (ax (i:=0) (show je ["place","number"] by decide +kernel) rfl (Or.inl rfl)) (aJ (ax (i:=1) (show je ["place","number"] by decide +kernel) rfl (Or.inl rfl)) cE)))) (fun _ _ _ _ _=>(ba oY (pv 1) ag (aX _))) (fun _ _ _ _ _=>(pv 0)) rfl (by decide +kernel) (by decide +kernel) rfl True.intro) ah)))),?_⟩
  have hkl:k<r.length:=by
   have:=hk.1
   by_cases h:k<r.length
   ·exact h
   ·rw [List.getD,getElem?_eq_none (by lia)] at this
    exact absurd this (by decide)
  walk_at "w"
  refine yN (r:=r) [] (fun i=>r.getD i 0 != 0) rfl ha hl (fun i H' Qt hi s kt=>?_) (fun i H' Qc s kc=>?_) (fun l H1 n1 s1 m1=>?_)
  ·walk_at "w"
   have e:(!decide (r.getD i 0=0))=(r.getD i 0 != 0):=by
    by_cases h:r.getD i 0=0
    ·rw [h];rfl
    ·rw [aaQ h,bne_iff_ne.mpr h];rfl
   rw [e]
   exact kt
  ·walk_at "w"
   exact kc
  walk_at "w"
  have lH:(k:Int)∈((List.range r.length).filter fun i=>r.getD i 0 != 0).map fun (i:Nat)=>(i:Int):=by
   refine aa8.mpr ⟨k,aa9.mpr ⟨abg.mpr hkl,?_⟩,rfl⟩
   have:=hk.1
   exact bne_iff_ne.mpr (by lia)
  refine Ew (aW.of m1) (fun z=>by rw [z] at lH;simp at lH) fun m hm hx=>?_
  have e:m=k:=by
   have h1:=hx _ lH
   obtain ⟨j,hj,rfl⟩:=aa8.mp hm
   have h2:=(aa9.mp hj).2
   by_cases c:k<j
   ·rw [hk.2 j c] at h2
    exact absurd h2 (by decide)
   ·lia
  rw [e]
  exact kk _ s1
theorem qo:aA ["_law_script","_law_k"] ["_law_script","_law_k"] (ak cO):=⟨rfl,rfl,rfl,by decide +kernel,rfl,by decide +kernel,by decide +kernel⟩
theorem qp (D:Def K mg "_law_cell_at" cO ["_law_script","_law_k"]) (T:Txt K mg G) (Y:base.NoSeer/\P.given.tree=none):Ok P w K mg base 1 "_law_cell_at" ["_law_script","_law_k"] (dP K):=by
 have S:=qo
 refine D.ok S (fun vs H Q E h=>?_) (fun f cZ A outer s H vs Q E hr h=>?_)
 ·obtain ⟨_,_,_,rfl,_⟩:=h;rfl
 ·obtain ⟨a,ns,k,rfl,hs,h0,hQ⟩:=h
  have hu:=bL hr
  have aC:=T.aC
  have ao:=T.ao
  refine⟨_,(ai (cP (ba JE (pv 1) (aH (fD K rfl) rfl T.iY PySem.boot_len (aa (pv 0) ah)) (aX _)) (aq (aI (aO (aD K rfl) (pv 0) (pv 1) (fun _ _=>rfl)))) bg) (aq (aI ag))),?_⟩
  walk_at "w"
  refine cT (fun hc=>?_) (fun hc=>?_)
  ·have lD:k.toNat<ns.length:=by simp at hc;lia
   obtain ⟨j,rfl⟩:=Int.eq_ofNat_of_zero_le h0
   repeat walk_at "r"
   exact fN hs (bF (int_at (by simpa using lD))) hQ
  ·have Lr:ns.length<=k.toNat:=by simp at hc;lia
   have e:ns.getD k.toNat 0=0:=by rw [List.getD,getElem?_eq_none Lr];rfl
   rw [e] at hQ
   walk_at "w"
   exact hQ
theorem rJ:aA ["_law_top","_law_bottom","_law_one","_law_other_here"] ["_law_top","_law_bottom"] (ak dj):=⟨rfl,rfl,rfl,by decide +kernel,rfl,by decide +kernel,by decide +kernel⟩
theorem rK (D:Def K mg "_law_lowest" dj ["_law_top","_law_bottom"]) (T:Txt K mg G) (Y:base.NoSeer/\P.given.tree=none):Ok P w K mg base 1 "_law_lowest" ["_law_top","_law_bottom"] (gS K):=by
 have S:=rJ
 refine D.ok S (fun vs H Q E h=>?_) (fun f cZ A outer s H vs Q E hr h=>?_)
 ·obtain ⟨_,_,rfl,_⟩:=h;rfl
 ·obtain ⟨t,b,rfl,h0,h9,k⟩:=h
  have hu:=bL hr
  have aC:=T.aC
  have ao:=T.ao
  refine⟨_,(ai (ay (i:=2) S.nd rfl (Or.inl rfl) (pv 0)) (ai (ay (i:=3) S.nd rfl (Or.inl rfl) (pv 1)) (ai (vM PassesOwn.never (ba oY (pv 3) ag (aX _)) (aq (KL (i:=2) (j:=3) rfl S.nd rfl rfl (by decide) rfl rfl (aa (pv 3) (aa (av bu (pv 2) (pv 3)) ah)) rfl))) (aq (aI (aV (aa (av vZ (pv 0) (pv 2)) (aa (av vZ (pv 1) (pv 2)) ah)))))))),?_⟩
  walk_at "w"
  have hg:0<Nat.gcd t b:=Nat.gcd_pos_of_pos_right _ h0
  have hl:=Vr hg (abb (MR h0) h9)
  have hgi:(0:Int)<(Nat.gcd t b:Nat):=by lia
  refine join (fun σ' H'=>σ'=[some (.int t),some (.int b),some (.int (Nat.gcd t b:Nat)),some (.int 0)]/\H'=H) (fun nx xk=>?_) (fun σ' H' hP=>?_)
  ·refine Aq (fun m σ' H'=>∃ (f:Nat),σ'=[some (.int t),some (.int b),some (.int f),some (.int m)]/\H'=H/\Nat.gcd f m=Nat.gcd t b) b ⟨_,rfl,rfl,rfl⟩ (fun m σ' H' hw=>?_)
   obtain ⟨f,rfl,rfl,S3⟩:=hw
   walk_at "w"
   refine cT (fun hc=>?_) (fun hc=>?_)
   ·have hm:0<m:=by simp at hc;lia
    refine P9 ?_
    walk_at "w"
    refine⟨f % m,mod_lt _ hm,m,by rw [Int.natCast_emod] <;> rfl,rfl,?_⟩
    rw [wb]
    exact S3
   ·have hm:m=0:=by simp at hc;lia
    subst hm
    rw [Nat.gcd_zero_right] at S3
    subst S3
    exact xk _ _ ⟨rfl,rfl⟩
  obtain ⟨rfl,rfl⟩:=hP
  walk_at "w"
  rename_i p2 H2 s2 m2
  refine k _ _ s2 ?_
  rw [m2,Int.natCast_ediv,Int.natCast_ediv]
theorem uT:aA ["_law_cell","_law_k","_law_first"] ["_law_cell","_law_k"] (ak dJ):=⟨rfl,rfl,rfl,by decide +kernel,rfl,by decide +kernel,by decide +kernel⟩
theorem uU (D:Def K mg "_law_mixed" dJ ["_law_cell","_law_k"]) (T:Txt K mg G) (Y:base.NoSeer/\P.given.tree=none):Ok P w K mg base 1 "_law_mixed" ["_law_cell","_law_k"] (du K):=by
 have S:=uT
 refine D.ok S (fun vs H Q E h=>?_) (fun f cZ A outer s H vs Q E hr h=>?_)
 ·obtain ⟨_,_,rfl,_⟩:=h;rfl
 ·obtain ⟨c,j,rfl,hj,k⟩:=h
  have hu:=bL hr
  have aC:=T.aC
  have ao:=T.ao
  refine⟨_,(ai (ay (i:=2) S.nd rfl (Or.inl rfl) (av bu (av fC (av bu (av bh (av bh (av fC (av bu (pv 0) (av KU ag ag)) ag) (av fC (av fC (pv 1) (pv 1)) ag)) ag) ag) ag) ag)) (aq (aI (av bu (av bh (av bh (av fC (pv 2) (pv 2)) (av fC ag (pv 2))) (pv 1)) ag)))),?_⟩
  walk_at "w"
  exact k _ (emod_nonneg _ (by decide)) (emod_lt_of_pos _ (by decide))
theorem om:aA ["_law_mixed_here","_law_rows","_law_name","_law_row","_law_steps_here","_law_signs","_law_step","_law_share","_law_count","_law_octave"] ["_law_mixed_here"] (ak cx):=⟨rfl,rfl,rfl,by decide +kernel,rfl,by decide +kernel,by decide +kernel⟩
theorem oq (D:Def K mg "_law_name_row" cx ["_law_mixed_here"]) (T:Txt K mg G) (Y:base.NoSeer/\P.given.tree=none):Ok P w K mg base 1 "_law_name_row" ["_law_mixed_here"] (fF K):=by
 have S:=om
 refine D.ok S (fun vs H Q E h=>?_) (fun f cZ A outer s H vs Q E hr h=>?_)
 ·obtain ⟨_,rfl,_⟩:=h;rfl
 ·obtain ⟨c,rfl,hc,k⟩:=h
  have hu:=bL hr
  have aC:=T.aC
  have ao:=T.ao
  refine⟨_,(@ai _ _ _ _ _ (cP (ba jW (av bu (av fe (pv 0) ag) ag) ag (aX _)) (aq (aI (aV (aa ir (aa fz ah))))) bg) (@ai _ _ _ _ _ (@ay _ _ 1 _ _ _ _ S.nd rfl (Or.inl rfl) (@bV _ _ _ _ (@aa _ _ _ _ _ (@aV _ _ _ _ _ (aa ag (aa (fX d5 ag) (aa ag (aa ag (aa ag ah)))))) (@aa _ _ _ _ _ (@aV _ _ _ _ _ (aa ag (aa ag (aa ag (aa ag (aa ag ah)))))) (@aa _ _ _ _ _ (@aV _ _ _ _ _ (aa (fX d5 ag) (aa ag (aa ag (aa ag (aa ag ah)))))) (@aa _ _ _ _ _ (@aV _ _ _ _ _ (aa (fX d5 ag) (aa ag (aa ag (aa ag (aa ag ah)))))) (@aa _ _ _ _ _ (@aV _ _ _ _ _ (aa (fX d5 ag) (aa ag (aa ag (aa ag (aa ag ah)))))) ah (by rfl)) (by rfl)) (by rfl)) (by rfl)) (by rfl))) (by rfl) (by first|exact .inl rfl|exact .inr rfl|assumption)) (@ai _ _ _ _ _ (@ay _ _ 1 _ _ _ _ S.nd rfl (Or.inl rfl) (@av _ _ _ _ _ _ _ _ iB (pv 1) (@bV _ _ _ _ (@aa _ _ _ _ _ (@aV _ _ _ _ _ (aa (fX d5 ag) (aa ag (aa ag (aa ag (aa ag ah)))))) (@aa _ _ _ _ _ (@aV _ _ _ _ _ (aa (fX d5 ag) (aa ag (aa ag (aa ag (aa ag ah)))))) ah (by rfl)) (by rfl)))) (by rfl) (by first|exact .inl rfl|exact .inr rfl|assumption)) (@ai _ _ _ _ _ (ay (i:=2) S.nd rfl (Or.inl rfl) (aO uf ir (av bu (pv 0) ag) (fun _ _=>rfl))) (@ai _ _ _ _ _ (ay (i:=3) S.nd rfl (Or.inl rfl) (aO (aD K rfl) (pv 1) (av bu (pv 0) ag) (fun _ _=>rfl))) (@ai _ _ _ _ _ (@ay _ _ 4 _ _ _ _ S.nd rfl (Or.inl rfl) (@bV _ _ _ _ (@aa _ _ _ _ _ (@aV _ _ _ _ _ (aa (fX d5 ag) (aa ag (aa ag (aa ag (aa ag ah)))))) (@aa _ _ _ _ _ (@aV _ _ _ _ _ (aa (fX d5 ag) (aa ag (aa (fX d5 ag) (aa ag (aa ag ah)))))) (@aa _ _ _ _ _ (@aV _ _ _ _ _ (aa ag (aa (fX d5 ag) (aa ag (aa (fX d5 ag) (aa ag ah)))))) (@aa _ _ _ _ _ (@aV _ _ _ _ _ (aa (fX d5 ag) (aa ag (aa ag (aa ag (aa ag ah)))))) ah (by rfl)) (by rfl)) (by rfl)) (by rfl))) (by rfl) (by first|exact .inl rfl|exact .inr rfl|assumption)) (ai (cV PassesOwn.never rfl (Eb K rfl false false false rfl T.jo (@aa _ _ _ _ _ (bV (aa ir (aa ir (aa ir (aa ir ah))))) (@aa _ _ _ _ _ (pv 4) (@aa _ _ _ _ _ (bV (aa ag (aa ag (aa ag (aa ag ah))))) ah (by rfl)) (by rfl)) (by rfl))) (cH (n:=3) K rfl rfl (aJ (ax (i:=5) S.nd rfl (Or.inl rfl)) (aJ (ax (i:=6) S.nd rfl (Or.inl rfl)) (aJ (ax (i:=7) S.nd rfl (Or.inl rfl)) cE)))) (ai (ay (i:=8) S.nd rfl (Or.inr rfl) (av d3 (av bu (av fe (pv 0) (pv 7)) ag) ag)) (ai (ay (i:=2) S.nd rfl (Or.inl rfl) (av oN (av oN (pv 2) (av AA (aO uf (pv 5) ag (fun _ _=>rfl)) (pv 8))) (av AA (aO uf (pv 5) ag (fun _ _=>rfl)) (av d3 ag (pv 8))))) (aq (ay (i:=3) S.nd rfl (Or.inl rfl) (cW (gi K rfl) rfl T.fo boot_tuple (aa (bU (N:=["_law_x","_law_y","_law_count"]) (ix:=[none,none,some 8]) rfl (dZ K rfl true true rfl T.jo (aa (pv 3) (aa (pv 6) ah))) (fun _ _ _ _ _=>(cH (n:=2) K rfl rfl (aJ (ax (i:=0) (show je ["_law_x","_law_y","_law_count"] by decide +kernel) rfl (Or.inl rfl)) (aJ (ax (i:=1) (show je ["_law_x","_law_y","_law_count"] by decide +kernel) rfl (Or.inl rfl)) cE)))) (fun _ _ _ _ _=>rfl) (fun _ _ _ _ _=>(av bh (pv 0) (av fC (pv 2) (pv 1)))) rfl (by decide +kernel) (by decide +kernel) rfl ⟨⟨rfl,Or.inr (Or.inl rfl),rfl,rfl⟩,True.intro⟩) ah))))))) (ai (ay (i:=9) S.nd rfl (Or.inl rfl) (av d3 (av bu (av fe (pv 0) ag) ag) ag)) (aq (aI (aV (aa (av oN (av oN (pv 2) ir) (cW BF rfl T.Fe boot_str (aa (pv 9) ah))) (aa (av (D7 K rfl) (aV (aa (av bh (aO (aD K rfl) (pv 3) ag (fun _ _=>rfl)) (pv 9)) ah)) (hV (Hj K rfl) (pv 3) (jC ag) jB)) ah))))))))))))),?_⟩
  walk_at "w"
  refine cT (fun h1=>?_) (fun h1=>?_)
  ·walk_at "w"
   rename_i p1 H1 s1 m1
   exact k p1 H1 _ _ none s1 m1 rfl rfl
  ·obtain ⟨j,hj⟩:∃ j:Nat,c % 7=(j:Int):=⟨(c % 7).toNat,by lia⟩
   have hj7:j<7:=by lia
   walk_at "w"
   rw [hj]
   obtain ⟨L,hL⟩:∃ L,([70,67,71,68,65,69,66]:List Nat)[j]?=some L:=⟨_,aaY (by simpa using hj7)⟩
   refine EK (c:=L) (dz (by decide +kernel)) (bF (by rw [show (PySem.Str.ofString "FCGDAEB").cps.toList=[70,67,71,68,65,69,66] by decide];exact hL)) ?_
   walk_at "w"
   rename_i p0 H0 s0 m0 p1 H1 s1 m1 p2 H2 s2 m2 p3 H3 s3 m3 p4 H4 s4 m4 pa Ha na sa ma p5 H5 s5 m5 p6 H6 s6 m6 pb Hb nb sb mb pc Hc nc sc mc
   have e6:=sc _ _ (sb _ _ m6)
   have e5:=sc _ _ (sb _ _ (s6 _ _ m5))
   have sA:aj Ha Hc:=((s5.trans s6).trans sb).trans sc
   have sT:aj H Hc:=(((((s0.trans s1).trans s2).trans s3).trans s4).trans sa).trans sA
   have e4:=sA _ _ (sa _ _ m4)
   have e3:=sA _ _ (sa _ _ (s4 _ _ m3))
   have e2:=sA _ _ (sa _ _ (s4 _ _ (s3 _ _ m2)))
   have e1:=sA _ _ (sa _ _ (s4 _ _ (s3 _ _ (s2 _ _ m1))))
   have e0:=sA _ _ (sa _ _ (s4 _ _ (s3 _ _ (s2 _ _ (s1 _ _ m0)))))
   obtain ⟨q,r0,r1,hq,Q5,hLg,hrg,hr1,hr0b⟩:∃ (q:Addr) (r0 r1:Int),Ac ([V.ref p0,V.ref p1,V.ref p2,V.ref p3,V.ref p4]++[V.ref p5,V.ref p6]) (j:Int)=some (.ref q)/\Hc q=some (.tup [.int r0,.int r1,.int 0,.int 0,.int 0])/\([70,67,71,68,65,69,66]:List Nat).getD j 0=L/\([2,0,-1,-3,-4,-6,-7]:List Int).getD j 0=r0/\r1+1=(j:Int)/\(-7<=r0/\r0<=2):=by
    match j,hj7 with
    | 0,_=>cases hL;exact⟨_,_,_,rfl,e0,rfl,rfl,rfl,by decide⟩
    | 1,_=>cases hL;exact⟨_,_,_,rfl,e1,rfl,rfl,rfl,by decide⟩
    | 2,_=>cases hL;exact⟨_,_,_,rfl,e2,rfl,rfl,rfl,by decide⟩
    | 3,_=>cases hL;exact⟨_,_,_,rfl,e3,rfl,rfl,rfl,by decide⟩
    | 4,_=>cases hL;exact⟨_,_,_,rfl,e4,rfl,rfl,rfl,by decide⟩
    | 5,_=>cases hL;exact⟨_,_,_,rfl,e5,rfl,rfl,rfl,by decide⟩
    | 6,_=>cases hL;exact⟨_,_,_,rfl,e6,rfl,rfl,rfl,by decide⟩
   rw [hj]
   refine fN (aW.of mc) hq ?_
   clear e0 e1 e2 e3 e4 e5 e6 m0 m1 m2 m3 m4 ma m5 m6 mb s0 s1 s2 s3 s4 sa s5 s6 sb sc sA na nb nc hq
   walk_at "w"
   rename_i t0 T0 y0 v0 t1 T1 y1 v1 t2 T2 y2 v2 t3 T3 y3 v3 ls Ts ns ys vs lg Tg ng yg vg li Ti ni yi vi
   obtain ⟨cf,hcf⟩:∃ cf:Nat->Int,cf=fun i=>c / ([7,21,63,189]:List Int).getD i 1 % 3 - 1:=⟨_,rfl⟩
   have Q6:∀ i,i<4->-1<=cf i/\cf i<=1:=by
    intro i hi
    rw [hcf]
    show -1<=c / _ % 3 - 1/\c / _ % 3 - 1<=1
    lia
   have sH:aj Hc Ti:=(((((y0.trans y1).trans y2).trans y3).trans ys).trans yg).trans yi
   have w3:=yi _ _ (yg _ _ (ys _ _ v3))
   have w2:=yi _ _ (yg _ _ (ys _ _ (y3 _ _ v2)))
   have w1:=yi _ _ (yg _ _ (ys _ _ (y3 _ _ (y2 _ _ v1))))
   have w0:=yi _ _ (yg _ _ (ys _ _ (y3 _ _ (y2 _ _ (y1 _ _ v0)))))
   have wg:=yi _ _ vg
   have ws:=yi _ _ (yg _ _ vs)
   have wq:=sH _ _ Q5
   clear y0 y1 y2 y3 ys yg yi v0 v1 v2 v3 vg vs Q5 ns ng ni
   refine IK (K:=K) (k1:=false) (k2:=false) (k3:=false) (xs:=[V.str (PySem.Str.ofString "#b"),V.str (PySem.Str.ofString "+-"),V.str (PySem.Str.ofString "><"),V.str (PySem.Str.ofString "^v")]) (ys:=[V.ref t0,V.ref t1,V.ref t2,V.ref t3]) (zs:=[V.int 7,V.int 21,V.int 63,V.int 189]) rfl rfl (fun i σ Hn=>∃ (o5 o6 o7 o8:Option V) (p:Addr) (T':PySem.Str),σ=[some (.int c),some (.ref pc),some (.str T'),some (.ref p),some (.ref ls),o5,o6,o7,o8,none]/\aj Ti Hn/\Hn p=some (.tup [.int (sx r0 cf [-11,-4,6,-5] (i)),.int (sx r1 cf [7,4,-2,1] (i)),.int (sx 0 cf [0,-1,0,0] (i)),.int (sx 0 cf [0,0,-1,0] (i)),.int (sx 0 cf [0,0,0,1] (i))])/\T'.cps.toList=L::([kL.seg 35 98 (cf 0),kL.seg 43 45 (cf 1),kL.seg 62 60 (cf 2),kL.seg 94 118 (cf 3)].take i).flatten/\T'.length<=1+2*i) ⟨_,_,_,_,q,_,rfl,aj.refl _,wq,rfl,aaK _⟩ (fun i σ Hn hp=>by obtain ⟨_,_,_,_,_,_,rfl,sn,_⟩:=hp;exact⟨d9 (aW.of (sn _ _ wg)),d9 (aW.of (sn _ _ ws)),d9 (aW.of (sn _ _ vi))⟩) (fun i x y z σ Hn Hm hx hy hz hp sm=>?_) (fun σ Hn hp=>?_)
   ·obtain ⟨o5,o6,o7,o8,p,T',rfl,sn,mp,hT,lT⟩:=hp
    have hi:i<4:=(aaG.mp hx).1
    obtain ⟨S',c1,d1,tA,x0,x1,x2,x3,x4,sh,rfl,rfl,rfl,hS,htA,Vv,NQ,CM,NZ,hx4,SA,hsh0,hsg,hxb⟩:∃ (S':PySem.Str) (c1 d1:Nat) (tA:Addr) (x0 x1 x2 x3 x4 sh:Int),x=.str S'/\y=.ref tA/\z=.int sh/\S'.cps.toList=[c1,d1]/\Ti tA=some (.tup [.int x0,.int x1,.int x2,.int x3,.int x4])/\x0=([-11,-4,6,-5]:List Int).getD i 0/\x1=([7,4,-2,1]:List Int).getD i 0/\x2=([0,-1,0,0]:List Int).getD i 0/\x3=([0,0,-1,0]:List Int).getD i 0/\x4=([0,0,0,1]:List Int).getD i 0/\c / sh % 3 - 1=cf i/\(0<sh/\sh<=200)/\[kL.seg 35 98 (cf 0),kL.seg 43 45 (cf 1),kL.seg 62 60 (cf 2),kL.seg 94 118 (cf 3)][i]?=some (kL.seg c1 d1 (cf i))/\(∀ v∈[x0,x1,x2,x3,x4],-1000<=v/\v<=1000):=by
     rw [hcf]
     match i,hi with
     | 0,_=>cases hx;cases hy;cases hz;exact⟨_,35,98,t0,_,_,_,_,_,7,rfl,rfl,rfl,by decide,w0,rfl,rfl,rfl,rfl,rfl,rfl,by decide,rfl,by decide⟩
     | 1,_=>cases hx;cases hy;cases hz;exact⟨_,43,45,t1,_,_,_,_,_,21,rfl,rfl,rfl,by decide,w1,rfl,rfl,rfl,rfl,rfl,rfl,by decide,rfl,by decide⟩
     | 2,_=>cases hx;cases hy;cases hz;exact⟨_,62,60,t2,_,_,_,_,_,63,rfl,rfl,rfl,by decide,w2,rfl,rfl,rfl,rfl,rfl,rfl,by decide,rfl,by decide⟩
     | 3,_=>cases hx;cases hy;cases hz;exact⟨_,94,118,t3,_,_,_,_,_,189,rfl,rfl,rfl,by decide,w3,rfl,rfl,rfl,rfl,rfl,rfl,by decide,rfl,by decide⟩
    have lS:S'.length=2:=by show S'.cps.size=2;rw [<- Array.length_toList,hS];rfl
    have kb:=Q6 i hi
    obtain ⟨kk,hkk⟩:∃ kk,cf i=kk:=⟨_,rfl⟩
    rw [hkk] at SA hsg kb
    have MY:=aR.of (K:=K) (sm _ _ mp)
    have hb1:=aR.of (K:=K) ((sn.trans sm) _ _ htA)
    clear w0 w1 w2 w3 wg ws wq htA mp vi mc
    walk_at "w"
    rw [SA]
    refine EK (c:=c1) (dz (by lia)) (bF (j:=0) (by rw [hS];rfl)) ?_
    walk_at "w"
    refine EL (by lia) ?_
    have q1:(wL c1 kk.toNat).length=kk.toNat:=Array.size_replicate
    have q2:(wL d1 (0 - kk).toNat).length=(0 - kk).toNat:=Array.size_replicate
    walk_at "w"
    refine EK (c:=d1) (dz (by lia)) (bF (j:=1) (by rw [hS];rfl)) ?_
    walk_at "w"
    refine EL (by lia) ?_
    refine uF (dz (by rw [PySem.strLen_append];lia)) ?_
    walk_at "w"
    obtain ⟨a0,ea0⟩:∃ a,sx r0 cf [-11,-4,6,-5] i=a:=⟨_,rfl⟩
    obtain ⟨a1,ea1⟩:∃ a,sx r1 cf [7,4,-2,1] i=a:=⟨_,rfl⟩
    obtain ⟨a2,ea2⟩:∃ a,sx 0 cf [0,-1,0,0] i=a:=⟨_,rfl⟩
    obtain ⟨a3,ea3⟩:∃ a,sx 0 cf [0,0,-1,0] i=a:=⟨_,rfl⟩
    obtain ⟨a4,ea4⟩:∃ a,sx 0 cf [0,0,0,1] i=a:=⟨_,rfl⟩
    rw [ea0,ea1,ea2,ea3,ea4] at MY
    refine gd (k1:=true) (k2:=true) [some (.int kk)] (fun n=>.int (([a0,a1,a2,a3,a4]:List Int).getD n 0+kk*([x0,x1,x2,x3,x4]:List Int).getD n 0)) rfl (gh MY) (gh hb1) rfl (by show 5<=1000000;decide) (fun n x y H' Qc hx hy s kc=>?_) (fun l1 H1 NK s1 m1'=>?_)
    ·obtain ⟨rfl,_⟩:=bY (r:=[a0,a1,a2,a3,a4]) hx
     obtain ⟨rfl,hn⟩:=bY (r:=[x0,x1,x2,x3,x4]) hy
     have lH:([x0,x1,x2,x3,x4]:List Int).getD n 0∈[x0,x1,x2,x3,x4]:=by rw [List.getD,aaY hn];exact abw _
     walk_at "w"
     exact kc _ (aj.refl _)
    walk_at "w"
    rename_i p9 H9 s9 m9
    refine⟨_,_,_,_,p9,_,rfl,((sn.trans sm).trans s1).trans s9,?_,?_,?_⟩
    ·rw [m9]
     unfold sx
     rw [ea0,ea1,ea2,ea3,ea4,hkk,<- Vv,<- NQ,<- CM,<- NZ,<- hx4]
     rfl
    ·rw [kL.app_list,kL.app_list,hT,List.take_succ,hsg]
     simp [kL.seg,wL,append_assoc]
    ·rw [PySem.strLen_append,PySem.strLen_append,q1,q2];lia
   ·obtain ⟨o5,o6,o7,o8,p,T',rfl,sn,mp,hT,lT⟩:=hp
    have lT':T'.length<=1+2*4:=lT
    have c0:=Q6 0 (by decide)
    have c1:=Q6 1 (by decide)
    have c2:=Q6 2 (by decide)
    have c3:=Q6 3 (by decide)
    obtain ⟨k0,Vw⟩:∃ a,cf 0=a:=⟨_,rfl⟩
    obtain ⟨k1,Vx⟩:∃ a,cf 1=a:=⟨_,rfl⟩
    obtain ⟨k2,Vy⟩:∃ a,cf 2=a:=⟨_,rfl⟩
    obtain ⟨k3,Vz⟩:∃ a,cf 3=a:=⟨_,rfl⟩
    rw [Vw] at c0;rw [Vx] at c1;rw [Vy] at c2;rw [Vz] at c3
    have mp':Hn p=some (.tup [.int (r0+k0*-11+k1*-4+k2*6+k3*-5),.int (r1+k0*7+k1*4+k2*-2+k3*1),.int (0+k0*0+k1*-1+k2*0+k3*0),.int (0+k0*0+k1*0+k2*-1+k3*0),.int (0+k0*0+k1*0+k2*0+k3*1)]):=by rw [mp,<- Vw,<- Vx,<- Vy,<- Vz];rfl
    have S4:=aR.of (K:=K) mp'
    clear mp mp' w0 w1 w2 w3 wg ws wq vi mc
    walk_at "w"
    obtain ⟨o,ho⟩:∃ o,c / 567 % 9 - 4=o:=⟨_,rfl⟩
    have IF:-4<=o/\o<=4:=by lia
    have hoo:=kL.Lu (o:=o) (by lia) (by lia)
    rw [ho]
    refine uF (dz (show T'.length+1<=2000 by lia)) ?_
    walk_at "w"
    refine MC (og.Ls (abb (show o.natAbs<=9999 by lia) (by decide +kernel))) ?_
    walk_at "w"
    refine uF (dz (by rw [PySem.strLen_append];show T'.length+1+_<=2000;lia)) ?_
    have e46:(PySem.Str.ofString ".").cps.toList=[46]:=by decide
    have hZ:(T'++PySem.Str.ofString "."++PySem.Str.ofString (toString o)).cps.toList=L::(kL.seg 35 98 k0++(kL.seg 43 45 k1++(kL.seg 62 60 k2++(kL.seg 94 118 k3++(46::(PySem.Str.ofString (toString o)).cps.toList))))):=by
     rw [kL.app_list,kL.app_list,hT,e46,Vw,Vx,Vy,Vz]
     simp [append_assoc]
    generalize T'++PySem.Str.ofString "."++PySem.Str.ofString (toString o)=Z at hZ ⊢
    walk_at "w"
    rename_i pu Hu su mu pw Hw sw mw px Hx sX mx pz Hz sz mz
    obtain ⟨u0,VA⟩:∃ t,r0+k0*-11+k1*-4+k2*6+k3*-5+o=t:=⟨_,rfl⟩
    obtain ⟨u1,hu1⟩:∃ t,r1+k0*7+k1*4+k2*-2+k3*1=t:=⟨_,rfl⟩
    obtain ⟨u2,hu2⟩:∃ t,0+k0*0+k1*-1+k2*0+k3*0=t:=⟨_,rfl⟩
    obtain ⟨u3,hu3⟩:∃ t,0+k0*0+k1*0+k2*-1+k3*0=t:=⟨_,rfl⟩
    obtain ⟨u4,hu4⟩:∃ t,0+k0*0+k1*0+k2*0+k3*1=t:=⟨_,rfl⟩
    rw [VA,hu1,hu2,hu3,hu4] at mx
    refine k pz Hz Z (.ref px) (some [u0,u1,u2,u3,u4]) (sT.trans (sH.trans (sn.trans (su.trans (sw.trans (sX.trans sz)))))) mz ⟨px,rfl,sz.at (aR.of mx),rfl⟩ ⟨u0,u1,u2,u3,u4,rfl,?_,by lia,by lia,by lia,by lia,by lia⟩
    unfold Ke
    rw [show (u1 - u4 - 2*u3+4*u2+1) / 7=k0 by lia,show ((u1 - u4 - 2*u3+4*u2+1) % 7).toNat=j by lia,hLg,hrg,show u0+5*u4+6*u3 - 4*u2+11*k0 - r0=o by lia,show -u2=k1 by lia,show -u3=k2 by lia,show u4=k3 by lia]
    exact hZ
theorem xl:aA ["_law_tune_here"] ["_law_tune_here"] (ak eg):=⟨rfl,rfl,rfl,by decide +kernel,rfl,by decide +kernel,by decide +kernel⟩
theorem xm (D:Def K mg "_law_copy" eg ["_law_tune_here"]) (T:Txt K mg G) (Y:base.NoSeer/\P.given.tree=none):Ok P w K mg base 1 "_law_copy" ["_law_tune_here"] (js K):=by
 have S:=xl
 refine D.ok S (fun vs H Q E h=>?_) (fun f cZ A outer s H vs Q E hr h=>?_)
 ·obtain ⟨_,_,_,_,_,_,rfl,_⟩:=h;rfl
 ·obtain ⟨a,m,l,mt,xs,bs,rfl,⟨ha,hm,hl,Fo⟩,NY,k⟩:=h
  have hu:=bL hr
  have aC:=T.aC
  have ao:=T.ao
  refine⟨_,(aq (aI (aV (aa (aO (aD K rfl) (pv 0) ag (fun _ _=>rfl)) (aa (bU (N:=["_law_bar"]) (ix:=[none]) rfl (aZ K rfl (aO (aD K rfl) (pv 0) ag (fun _ _=>rfl))) (fun _ _ _ _ _=>(ax (i:=0) (show je ["_law_bar"] by decide +kernel) rfl (Or.inl rfl))) (fun _ _ _ _ _=>rfl) (fun _ _ _ _ _=>(cW (ur K rfl) rfl T.qh boot_list (aa (pv 0) ah))) rfl (by decide +kernel) (by decide +kernel) rfl True.intro) ah))))),?_⟩
  have lx:=Fo.length
  walk_at "w"
  refine eI 1 [] bs.length (fun l i ys H'=>cb K H' ys (bs.take i)/\(V.ref l∉ys)) rfl (fun l H' _ _ _=>⟨.nil,fun z=>nomatch z⟩) (fun l i ys H' h=>by have:=h.1.length;rw [abi] at this;lia) (fun H' s=>⟨xs,s.seq (aW.of hl),by lia⟩) (fun i H' hi s=>⟨xs,xs[i]'(by lia),s.seq (aW.of hl),aaY (by lia)⟩) (fun l2 i x H' H2 own ys ho hi wJ s9 d6 hp hy Qy Qn ky kn=>?_) (fun l2 H' ys wJ s9 d6 hp=>?_)
  ·obtain ⟨o1,rfl⟩:∃ o1,own=[o1]:=by match own,ho with|[o1],_=>exact⟨o1,rfl⟩
   obtain ⟨rfl,e⟩:=hy
   obtain ⟨a1,zs,ns,rfl,hz,nQ,nP⟩:=(Fo.same s9).get (e xs (s9.seq (aW.of hl)))
   have et:bs.take (i+1)=bs.take i++[ns]:=by rw [take_add_one,nP];rfl
   walk_at "w"
   refine jM ?_
   walk_at "w"
   rename_i l3 H9 n9 ou m9
   have Jg:=ou _ _ d6
   have ne:l3≠l2:=fun z=>by rw [z,d6] at n9;cases n9
   refine ky [some (.ref a1)] _ H9 rfl ou ⟨?_,fun z=>?_⟩
   ·rw [et]
    exact ((hp.1.same ou).off Jg hp.2).snoc (by rw [au ne];exact m9) ((nQ.same ou).off Jg)
   ·rcases aa2.mp z with z|z
    ·exact hp.2 z
    ·have:=aa1.mp z
     cases this
     exact ne rfl
  ·rw [abh] at hp
   have ha9:=s9.at ha
   walk_at "w"
   rename_i p5 H5 s5 m5
   exact k p5 l2 H5 ys wJ (s9.trans s5) ⟨aR.of m5,(s9.trans s5).at hm,s5 _ _ d6,hp.1.same s5⟩
theorem y6:aA ["_law_tune_here","_law_span","_law_bars","_law_bar","_law_notes","_law_tone","_law_length"] ["_law_tune_here","_law_span"] (ak eW):=⟨rfl,rfl,rfl,by decide +kernel,rfl,by decide +kernel,by decide +kernel⟩
theorem y8 (D:Def K mg "_law_put" eW ["_law_tune_here","_law_span"]) (T:Txt K mg G) (Y:base.NoSeer/\P.given.tree=none):Ok P w K mg base 1 "_law_put" ["_law_tune_here","_law_span"] (kB K):=by
 have S:=y6
 refine D.ok S (fun vs H Q E h=>?_) (fun f cZ A outer s H vs Q E hr h=>?_)
 ·obtain ⟨_,_,_,_,_,_,_,_,rfl,_⟩:=h;rfl
 ·obtain ⟨a,m,l,b,mt,xs,bs,sq,rfl,⟨ha,hm,hl,Fo⟩,NY,Q7,hb,lq,k⟩:=h
  have hu:=bL hr
  have aC:=T.aC
  have ao:=T.ao
  refine⟨_,(ai (ay (i:=2) S.nd rfl (Or.inl rfl) (bV ah)) (ai (cV PassesOwn.never rfl (aZ K rfl (aO (aD K rfl) (pv 0) ag (fun _ _=>rfl))) (ax (i:=3) S.nd rfl (Or.inl rfl)) (ai (ay (i:=4) S.nd rfl (Or.inl rfl) (bV ah)) (ai (cV PassesOwn.never rfl (aZ K rfl (pv 3)) (cH (n:=2) K rfl rfl (aJ (ax (i:=5) S.nd rfl (Or.inl rfl)) (aJ (ax (i:=6) S.nd rfl (Or.inl rfl)) cE))) (ai (cP (ba t9 (pv 5) fz (aX _)) (aq (ay (i:=5) S.nd rfl (Or.inl rfl) (cW (gi K rfl) rfl T.fo boot_tuple (aa (bU (N:=["_law_x","_law_y"]) (ix:=[none,none]) rfl (dZ K rfl true false rfl T.jo (aa (pv 5) (aa (pv 1) ah))) (fun _ _ _ _ _=>(cH (n:=2) K rfl rfl (aJ (ax (i:=0) (show je ["_law_x","_law_y"] by decide +kernel) rfl (Or.inl rfl)) (aJ (ax (i:=1) (show je ["_law_x","_law_y"] by decide +kernel) rfl (Or.inl rfl)) cE)))) (fun _ _ _ _ _=>rfl) (fun _ _ _ _ _=>(av bh (pv 0) (pv 1))) rfl (by decide +kernel) (by decide +kernel) rfl True.intro) ah)))) bg) (aq (fb (kX PySem.F.plainAttrs_list PySem.F.slot_list_append PySem.F.type_list_append cB (pv 4) (@aa _ _ _ _ _ (@aV _ _ _ _ _ (aa (pv 5) (aa (pv 6) ah))) ah (by rfl))))))) (aq (fb (kX PySem.F.plainAttrs_list PySem.F.slot_list_append PySem.F.type_list_append cB (pv 2) (aa (pv 4) ah))))))) (aq (aI (aV (aa (aO (aD K rfl) (pv 0) ag (fun _ _=>rfl)) (aa (pv 2) ah))))))),?_⟩
  have lx:=Fo.length
  obtain ⟨b0,b1,b2,b3,b4,rfl⟩:=dh lq
  walk_at "w"
  rename_i p1 H1 n1 s1 m1
  refine gQ (xs:=xs) (fun i σ Hn=>∃ (o1 o2 o3 o4:Option V) (ys:List V),σ=[some (.ref a),some (.ref b),some (.ref p1),o1,o2,o3,o4]/\aj H Hn/\Hn p1=some (.lst ys)/\cb K Hn ys ((bs.take i).map fun ns=>ns.map (QY [b0,b1,b2,b3,b4]))/\(V.ref p1∉ys)/\ys.length=i) ⟨_,_,_,_,[],rfl,s1,m1,.nil,(fun z=>nomatch z),rfl⟩ (fun i σ Hn hp=>by obtain ⟨_,_,_,_,_,rfl,sn,_⟩:=hp;exact aW.of (sn _ _ hl)) (fun i x σ Hn hx hp=>?_) (fun σ Hn hp=>?_)
  ·obtain ⟨o1,o2,o3,o4,ys,rfl,sn,mp,hB,ik,ly⟩:=hp
   have hi:i<xs.length:=(aaG.mp hx).1
   obtain ⟨a1,zs,ns,rfl,hz,nQ,nP⟩:=(Fo.same sn).get hx
   have AS:ns∈bs:=aa3 nP
   have et:bs.take (i+1)=bs.take i++[ns]:=by rw [take_add_one,nP];rfl
   have lz:=nQ.length
   have N2:=Q7 ns AS
   walk_at "w"
   rename_i p2 H2 n2 s2 m2
   have ne2:p2≠p1:=fun z=>by rw [z,mp] at n2;cases n2
   refine gQ (xs:=zs) (fun i' σ Hm=>∃ (o3 o4:Option V) (ws:List V),σ=[some (.ref a),some (.ref b),some (.ref p1),some (.ref a1),some (.ref p2),o3,o4]/\aj Hn Hm/\Hm p2=some (.lst ws)/\bc K Hm ws ((ns.take i').map (QY [b0,b1,b2,b3,b4]))/\ws.length=i') ⟨_,_,[],rfl,s2,m2,.nil,rfl⟩ (fun i' σ Hm hp=>by obtain ⟨_,_,_,rfl,sm,_⟩:=hp;exact aW.of (sm _ _ hz)) (fun i' x σ Hm qX hp=>?_) (fun σ Hm hp=>?_)
   ·obtain ⟨o3,o4,ws,rfl,sm,mw,hN,lw⟩:=hp
    have CN:i'<zs.length:=(aaG.mp qX).1
    obtain ⟨n,me,uV⟩:=(nQ.same sm).get qX
    have Kk:ns.take (i'+1)=ns.take i'++[n]:=by rw [take_add_one,uV];rfl
    obtain ⟨an,t,ln,rfl,wO,vB,CP⟩:=me
    obtain ⟨Gm,nt,nb⟩:=n
    have SX:=(sn.trans sm) _ _ hb
    refine oM wO ?_
    cases Gm with
    | none =>
     obtain rfl:t=.dB:=vB
     walk_at "w"
     refine⟨rfl,?_⟩
     walk_at "w"
     refine dE rfl ?_
     walk_at "w"
     rename_i p7 H7 s7 m7
     have e7:=s7 _ _ mw
     refine dy e7 (by lia) ?_
     walk_at "w"
     refine⟨_,_,ws++[.ref p7],rfl,(sm.trans s7).cR n2,aw,?_,by simp [lw]⟩
     rw [Kk,abl]
     refine ((hN.same s7).off e7).snoc (n:=(none,nt,nb)) (bQ.off ⟨p7,.dB,ln,rfl,aR.of m7,rfl,s7.at CP⟩ e7)
    | some r =>
     obtain ⟨ar,rfl,Gp,l5⟩:=vB
     obtain ⟨r0,r1,r2,r3,r4,rfl⟩:=dh l5
     walk_at "w"
     refine⟨rfl,?_⟩
     walk_at "w"
     refine gJ rfl ?_
     walk_at "w"
     refine gd (k1:=true) (k2:=false) [] (fun n=>.int (([r0,r1,r2,r3,r4]:List Int).getD n 0+([b0,b1,b2,b3,b4]:List Int).getD n 0)) rfl (gh Gp) (d9 (aW.of SX)) rfl (by show 5<=1000000;decide) (fun n x y H' Qc hx hy s kc=>?_) (fun l6 H6 n6 s6 m6=>?_)
     ·obtain ⟨rfl,_⟩:=bY (r:=[r0,r1,r2,r3,r4]) hx
      obtain ⟨rfl,_⟩:=bY (r:=[b0,b1,b2,b3,b4]) hy
      walk_at "w"
      exact kc _ (aj.refl _)
     walk_at "w"
     rename_i p8 H8 s8 m8 p9 H9 s9 m9
     have sZ:=(s6.trans s8).trans s9
     have e9:=sZ _ _ mw
     refine dy e9 (by lia) ?_
     walk_at "w"
     refine⟨_,_,ws++[.ref p9],rfl,(sm.trans sZ).cR n2,aw,?_,by simp [lw]⟩
     rw [Kk,abl]
     refine ((hN.same sZ).off e9).snoc (n:=(some [r0+b0,r1+b1,r2+b2,r3+b3,r4+b4],nt,nb)) (bQ.off ⟨p9,.ref p8,ln,rfl,aR.of m9,⟨p8,rfl,s9.at (aR.of m8),rfl⟩,sZ.at CP⟩ e9)
   ·obtain ⟨o3,o4,ws,rfl,sm,mw,hN,lw⟩:=hp
    rw [<- lz,abh] at hN
    have e1:=sm _ _ mp
    walk_at "w"
    refine dy e1 (by lia) ?_
    walk_at "w"
    refine⟨_,_,_,_,ys++[.ref p2],rfl,(sn.trans sm).cR n1,aw,?_,fun z=>?_,by simp [ly]⟩
    ·rw [et,abl]
     exact ((hB.same sm).off e1 ik).snoc (by rw [au ne2];exact mw) (hN.off e1)
    ·rcases aa2.mp z with z|z
     ·exact ik z
     ·have:=aa1.mp z
      cases this
      exact ne2 rfl
  ·obtain ⟨o1,o2,o3,o4,ys,rfl,sn,mp,hB,ik,ly⟩:=hp
   rw [<- lx,abh] at hB
   have ha2:=sn.at ha
   walk_at "w"
   rename_i p7 H7 s7 m7
   exact k p7 p1 H7 ys n1 (sn.trans s7) ⟨aR.of m7,(sn.trans s7).at hm,s7 _ _ mp,hB.same s7⟩
theorem xn:aA ["_law_tune_here","_law_bar","_law_tone","_law_length","_law_number","_law_bound"] ["_law_tune_here"] (ak eh):=⟨rfl,rfl,rfl,by decide +kernel,rfl,by decide +kernel,by decide +kernel⟩
theorem xo (D:Def K mg "_law_fits" eh ["_law_tune_here"]) (T:Txt K mg G) (Y:base.NoSeer/\P.given.tree=none):Ok P w K mg base 1 "_law_fits" ["_law_tune_here"] (gN K):=by
 have S:=xn
 refine D.ok S (fun vs H Q E h=>?_) (fun f cZ A outer s H vs Q E hr h=>?_)
 ·obtain ⟨_,_,_,_,_,_,rfl,_⟩:=h;rfl
 ·obtain ⟨a,m,l,mt,xs,bs,rfl,⟨ha,hm,hl,Fo⟩,NY,Q7,kF,kT⟩:=h
  have hu:=bL hr
  have aC:=T.aC
  have ao:=T.ao
  refine⟨_,(@ai _ _ _ _ _ (cV PassesOwn.never rfl (aZ K rfl (aO (aD K rfl) (pv 0) ag (fun _ _=>rfl))) (ax (i:=1) S.nd rfl (Or.inl rfl)) (@aq _ _ _ (cV PassesOwn.never rfl (aZ K rfl (pv 1)) (cH (n:=2) K rfl rfl (aJ (ax (i:=2) S.nd rfl (Or.inl rfl)) (aJ (ax (i:=3) S.nd rfl (Or.inl rfl)) cE))) (@aq _ _ _ (cP (ba t9 (pv 2) fz (aX _)) (@aq _ _ _ (cV PassesOwn.never rfl (dZ K rfl true false rfl T.jo (@aa _ _ _ _ _ (pv 2) (@aa _ _ _ _ _ (@uH _ _ _ _ (by rfl)) ah (by rfl)) (by rfl))) (cH (n:=2) K rfl rfl (aJ (ax (i:=4) S.nd rfl (Or.inl rfl)) (aJ (ax (i:=5) S.nd rfl (Or.inl rfl)) cE))) (aq (cP (ba sJ (aH mI rfl T.Fb boot_abs (aa (pv 4) ah)) (pv 5) (aX _)) (aq (aI fW)) bg)))) bg))))) (aq (aI fW))),?_⟩
  have lx:=Fo.length
  walk_at "w"
  refine gQ (xs:=xs) (fun i σ Hn=>∃ (o1 o2 o3 o4 o5:Option V),σ=[some (.ref a),o1,o2,o3,o4,o5]/\aj H Hn/\∀ ns∈bs.take i,∀ n∈ns,qU n=true) ⟨_,_,_,_,_,rfl,aj.refl _,by simp⟩ (fun i σ Hn hp=>by obtain ⟨_,_,_,_,_,rfl,sn,_⟩:=hp;exact aW.of (sn _ _ hl)) (fun i x σ Hn hx hp=>?_) (fun σ Hn hp=>?_)
  ·obtain ⟨o1,o2,o3,o4,o5,rfl,sn,hG⟩:=hp
   have hi:i<xs.length:=(aaG.mp hx).1
   obtain ⟨a1,zs,ns,rfl,hz,nQ,nP⟩:=(Fo.same sn).get hx
   have AS:ns∈bs:=aa3 nP
   have et:bs.take (i+1)=bs.take i++[ns]:=by rw [take_add_one,nP];rfl
   have lz:=nQ.length
   walk_at "w"
   refine gQ (xs:=zs) (fun i' σ Hm=>∃ (o2 o3 o4 o5:Option V),σ=[some (.ref a),some (.ref a1),o2,o3,o4,o5]/\aj Hn Hm/\∀ n∈ns.take i',qU n=true) ⟨_,_,_,_,rfl,aj.refl _,by simp⟩ (fun i' σ Hm hp=>by obtain ⟨_,_,_,_,rfl,sm,_⟩:=hp;exact aW.of (sm _ _ hz)) (fun i' x σ Hm qX hp=>?_) (fun σ Hm hp=>?_)
   ·obtain ⟨o2,o3,o4,o5,rfl,sm,Q8⟩:=hp
    have CN:i'<zs.length:=(aaG.mp qX).1
    obtain ⟨n,me,uV⟩:=(nQ.same sm).get qX
    have Kl:n∈ns:=aa3 uV
    have Kk:ns.take (i'+1)=ns.take i'++[n]:=by rw [take_add_one,uV];rfl
    obtain ⟨an,t,ln,rfl,wO,vB,CP⟩:=me
    obtain ⟨Gm,nt,nb⟩:=n
    refine oM wO ?_
    cases Gm with
    | none =>
     obtain rfl:t=.dB:=vB
     walk_at "w"
     refine⟨rfl,?_⟩
     walk_at "w"
     refine dE rfl ?_
     walk_at "w"
     refine⟨_,_,_,_,rfl,sm,fun n hn=>?_⟩
     rw [Kk] at hn
     rcases aa2.mp hn with z|z
     ·exact Q8 n z
     ·rw [aa1.mp z];rfl
    | some r =>
     obtain ⟨ar,rfl,Gp,l5⟩:=vB
     obtain ⟨r0,r1,r2,r3,r4,rfl⟩:=dh l5
     walk_at "w"
     refine⟨rfl,?_⟩
     walk_at "w"
     refine gJ rfl ?_
     walk_at "w"
     rename_i p7 H7 n7 s7 m7
     refine yM (k1:=true) (k2:=false) (xs:=[.int r0,.int r1,.int r2,.int r3,.int r4]) (ys:=[.int 700,.int 60,.int 60,.int 60,.int 60]) rfl (fun i2 σ Hz=>∃ (o4 o5:Option V),σ=[some (.ref a),some (.ref a1),some (.ref ar),some (.ref ln),o4,o5]/\aj H7 Hz/\∀ i3<i2,∀ x b:Int,([r0,r1,r2,r3,r4]:List Int)[i3]?=some x->([700,60,60,60,60]:List Int)[i3]?=some b->(if x<0 then -x else x)<=b) ⟨_,_,rfl,aj.refl _,fun i3 h3=>by lia⟩ (fun i2 σ Hz hp=>by obtain ⟨_,_,rfl,sz,_⟩:=hp;exact⟨gh ((s7.trans sz).at Gp),d9 (aW.of (sz _ _ m7))⟩) (fun i2 x y σ Hz Hy CM hy2 hp sy=>?_) (fun σ Hz hp=>?_)
     ·obtain ⟨o4,o5,rfl,sz,VB⟩:=hp
      obtain ⟨rfl,q1⟩:=bY (r:=[r0,r1,r2,r3,r4]) CM
      obtain ⟨rfl,q2⟩:=bY (r:=[700,60,60,60,60]) hy2
      have w1:([r0,r1,r2,r3,r4]:List Int)[i2]?=some (([r0,r1,r2,r3,r4]:List Int).getD i2 0):=by rw [List.getD,aaY q1];rfl
      have w2:([700,60,60,60,60]:List Int)[i2]?=some (([700,60,60,60,60]:List Int).getD i2 0):=by rw [List.getD,aaY q2];rfl
      generalize ([r0,r1,r2,r3,r4]:List Int).getD i2 0=xx at *
      generalize ([700,60,60,60,60]:List Int).getD i2 0=yy at *
      walk_at "w"
      refine cT (fun h1=>?_) (fun h1=>?_)
      ·walk_at "w"
       refine kF ⟨ns,AS,_,Kl,?_⟩ _ ((((sn.trans sm).trans s7).trans sz).trans sy)
       exact E2 w1 w2 (aaO h1)
      ·walk_at "w"
       refine⟨_,_,rfl,sz.trans sy,fun i3 h3 x b hx hb=>?_⟩
       by_cases lD:i3<i2
       ·exact VB i3 lD x b hx hb
       ·obtain rfl:i3=i2:=by lia
        rw [w1] at hx
        rw [w2] at hb
        cases hx
        cases hb
        have:=aaP h1
        lia
     ·obtain ⟨o4,o5,rfl,sz,VB⟩:=hp
      walk_at "w"
      refine⟨_,_,_,_,rfl,(sm.trans s7).trans sz,fun n hn=>?_⟩
      rw [Kk] at hn
      rcases aa2.mp hn with z|z
      ·exact Q8 n z
      ·rw [aa1.mp z]
       exact BJ VB
   ·obtain ⟨o2,o3,o4,o5,rfl,sm,Q8⟩:=hp
    rw [<- lz,abh] at Q8
    walk_at "w"
    refine⟨_,_,_,_,_,rfl,sn.trans sm,fun q hq=>?_⟩
    rw [et] at hq
    rcases aa2.mp hq with z|z
    ·exact hG q z
    ·rw [aa1.mp z];exact Q8
  ·obtain ⟨o1,o2,o3,o4,o5,rfl,sn,hG⟩:=hp
   rw [<- lx,abh] at hG
   walk_at "w"
   exact kT hG _ sn
theorem xp:aA ["_law_steps_here","_law_row","_law_found","_law_step","_law_place","_law_by"] ["_law_steps_here","_law_row"] (ak ei):=⟨rfl,rfl,rfl,by decide +kernel,rfl,by decide +kernel,by decide +kernel⟩
theorem xq (D:Def K mg "_law_rest" ei ["_law_steps_here","_law_row"]) (T:Txt K mg G) (Y:base.NoSeer/\P.given.tree=none):Ok P w K mg base 1 "_law_rest" ["_law_steps_here","_law_row"] (jt K):=by
 have S:=xp
 refine D.ok S (fun vs H Q E h=>?_) (fun f cZ A outer s H vs Q E hr h=>?_)
 ·obtain ⟨_,_,_,_,_,rfl,_⟩:=h;rfl
 ·obtain ⟨l,a,ys,rs,r,rfl,hl,hR,qr,ha,lr,hb,k⟩:=h
  have hu:=bL hr
  have aC:=T.aC
  have ao:=T.ao
  refine⟨_,(ai (ay (i:=2) S.nd rfl (Or.inl rfl) (cW (ur K rfl) rfl T.qh boot_list (aa (pv 1) ah))) (ai (cV PassesOwn.never rfl (aZ K rfl (pv 0)) (ax (i:=3) S.nd rfl (Or.inr rfl)) (ai (ay (i:=4) S.nd rfl (Or.inl rfl) (aH (Av K rfl rfl) rfl T.Ki boot_max (aa (bU (N:=["_law_k","_law_step"]) (ix:=[none,some 3]) rfl (eN rfl T.gM (aa ag ah)) (fun _ _ _ _ _=>(ax (i:=0) (show je ["_law_k","_law_step"] by decide +kernel) rfl (Or.inl rfl))) (fun _ _ _ _ _=>(ba oY (aO (aD K rfl) (pv 1) (pv 0) (fun _ _=>rfl)) ag (aX _))) (fun _ _ _ _ _=>(pv 0)) rfl (by decide +kernel) (by decide +kernel) rfl ⟨⟨rfl,Or.inr (Or.inl rfl),rfl,rfl⟩,True.intro⟩) ah))) (ai (ay (i:=5) S.nd rfl (Or.inr rfl) (av fe (aO (aD K rfl) (pv 2) (pv 4) (fun _ _=>rfl)) (aO (aD K rfl) (pv 3) (pv 4) (fun _ _=>rfl)))) (aq (jF (k:=2) (N:=["_law_x","_law_y","_law_by"]) (ix:=[none,none,some 5]) S.nd rfl (Or.inl rfl) rfl (dZ K rfl false false rfl T.jo (aa (pv 2) (aa (pv 3) ah))) (fun _ _ _ _ _=>(cH (n:=2) K rfl rfl (aJ (ax (i:=0) (show je ["_law_x","_law_y","_law_by"] by decide +kernel) rfl (Or.inl rfl)) (aJ (ax (i:=1) (show je ["_law_x","_law_y","_law_by"] by decide +kernel) rfl (Or.inl rfl)) cE)))) (fun _ _ _ _ _=>rfl) (fun _ _ _ _ _=>(av d3 (pv 0) (av fC (pv 2) (pv 1)))) rfl (by decide +kernel) (by decide +kernel) rfl ⟨⟨rfl,Or.inr (Or.inl rfl),rfl,rfl⟩,True.intro⟩))))) (aq (aI (cW (gi K rfl) rfl T.fo boot_tuple (aa (pv 2) ah)))))),?_⟩
  have lR:=hR.length
  have h3:=qr.cnt
  walk_at "w"
  rename_i p1 H1 n1 s1 m1
  refine gQ (xs:=ys) (fun i σ Hn=>∃ (o1 o2 o3:Option V) (fd:Addr) (v:List Int),σ=[some (.ref l),some (.ref a),some (.ref fd),o1,o2,o3]/\aj H Hn/\Hn fd=some (.lst (v.map V.int))/\RB rs i r v/\∀ x∈v,-(1000*4 ^ i)<=x/\x<=1000*4 ^ i) ⟨_,_,_,p1,r,rfl,s1,m1,⟨lr,by rw [fU lr];exact Span.zero,fun j s k hj=>by lia⟩,fun x hx=>by have:=hb x hx;lia⟩ (fun i σ Hn hp=>by obtain ⟨_,_,_,_,_,rfl,sn,_⟩:=hp;exact aW.of (sn _ _ hl)) (fun i x σ Hn hx hp=>?_) (fun σ Hn hp=>?_)
  ·obtain ⟨o1,o2,o3,fd,v,rfl,sn,mf,Km,Gq⟩:=hp
   have hi:i<ys.length:=(aaG.mp hx).1
   obtain ⟨as,s,rfl,hs,N3⟩:=(hR.same sn).get hx
   have xr:=aa3 N3
   obtain ⟨kk,hk⟩:=qr.S2.1 s xr
   have ls:=qr.len s xr
   have VC:kk<5:=Bi ls hk
   have lv:=Km.1
   have ED:=qr.sm s xr
   walk_at "w"
   refine pU [some (.ref as)] (fun i=>s.getD i 0 != 0) rfl (by decide) (fun i' H' Qc CN s' kc=>?_) (fun i' H' Qc CN s' kc=>?_) (fun l2 H2 n2 s2 m2=>?_)
   ·walk_at "v"
    refine fN (aW.of (s' _ _ hs)) (bF (int_at (by rw [ls];exact CN))) ?_
    walk_at "w"
    have e:(!decide (s.getD i' 0=0))=(s.getD i' 0 != 0):=by
     by_cases h:s.getD i' 0=0
     ·rw [h];rfl
     ·rw [aaQ h,bne_iff_ne.mpr h];rfl
    rw [e]
    exact kc _ (aj.refl _)
   ·walk_at "w"
    exact kc _ (aj.refl _)
   have m2':H2 l2=some (.lst ((((List.range 5).filter fun i=>s.getD i 0 != 0).map fun (i:Nat)=>(i:Int)).map V.int)):=by rw [abm];exact m2
   have lH:(kk:Int)∈((List.range 5).filter fun i=>s.getD i 0 != 0).map fun (i:Nat)=>(i:Int):=by
    refine aa8.mpr ⟨kk,aa9.mpr ⟨abg.mpr VC,?_⟩,rfl⟩
    have:=hk.1
    exact bne_iff_ne.mpr (by lia)
   walk_at "w"
   refine Ew (aW.of m2') (fun z=>by rw [z] at lH;simp at lH) fun mx hm qX=>?_
   have e:mx=kk:=by
    have h1:=qX _ lH
    obtain ⟨j,hj,rfl⟩:=aa8.mp hm
    have h2:=(aa9.mp hj).2
    by_cases c:kk<j
    ·rw [hk.2 j c] at h2
     exact absurd h2 (by decide)
    ·lia
   rw [e]
   have mf2:=s2 _ _ mf
   have eL:=s2 _ _ hs
   have pp:(4:Int) ^ (i+1)=4*4 ^ i:=by rw [Int.pow_succ,Int.mul_comm]
   have p4:(4:Int) ^ i<=4 ^ 2/\0<(4:Int) ^ i:=by
    rcases (show i=0\/i=1\/i=2 by lia) with rfl|rfl|rfl <;> decide
   obtain ⟨B,hB⟩:∃ B:Int,1000*4 ^ i=B:=⟨_,rfl⟩
   rw [hB] at Gq
   have hB0:0<=B/\B<=16000:=by lia
   obtain ⟨vk,VD⟩:∃ z,v.getD kk 0=z:=⟨_,rfl⟩
   obtain ⟨sk,S5⟩:∃ z,s.getD kk 0=z:=⟨_,rfl⟩
   have hskp:0<sk:=by rw [<- S5];exact hk.1
   have hvkb:-B<=vk/\vk<=B:=by
    rw [<- VD]
    exact Gq _ (by rw [List.getD,aaY (show kk<v.length by lia)];exact abw _)
   have hskb:sk<=3:=by
    rw [<- S5]
    exact (ED _ (by rw [List.getD,aaY (show kk<s.length by lia)];exact abw _)).2
   walk_at "w"
   refine fN (aW.of mf2) (bF (int_at (by lia))) ?_
   walk_at "w"
   refine fN (aW.of eL) (bF (int_at (by lia))) ?_
   rw [VD,S5]
   have S6:-B<=vk / sk/\vk / sk<=B:=by
    rcases (show sk=1\/sk=2\/sk=3 by lia) with rfl|rfl|rfl <;> lia
   have jh:=Km.step qr lr N3 hk
   rw [VD,S5,<- IY _ lv ls] at jh
   walk_at "w"
   obtain ⟨qq,Q9⟩:∃ z,vk / sk=z:=⟨_,rfl⟩
   rw [Q9] at jh S6 ⊢
   obtain ⟨v0,v1,v2,v3,v4,rfl⟩:=dh lv
   obtain ⟨w0,w1,w2,w3,w4,rfl⟩:=dh ls
   refine gd (k1:=false) (k2:=false) [some (.int qq)] (fun n=>.int (([v0,v1,v2,v3,v4]:List Int).getD n 0 - qq*([w0,w1,w2,w3,w4]:List Int).getD n 0)) rfl (d9 (aW.of mf2)) (d9 (aW.of eL)) rfl (by show 5<=1000000;decide) (fun n x y H' Qc hx hy s kc=>?_) (fun l3 H3 n3 s3 m3=>?_)
   ·obtain ⟨rfl,_⟩:=bY (r:=[v0,v1,v2,v3,v4]) hx
    obtain ⟨rfl,hn⟩:=bY (r:=[w0,w1,w2,w3,w4]) hy
    have hwb:=ED (([w0,w1,w2,w3,w4]:List Int).getD n 0) (by rw [List.getD,aaY hn];exact abw _)
    walk_at "w"
    exact kc _ (aj.refl _)
   walk_at "w"
   refine⟨_,_,_,l3,List.zipWith (fun x y=>x - qq*y) [v0,v1,v2,v3,v4] [w0,w1,w2,w3,w4],rfl,(sn.trans s2).trans s3,m3,jh,fun x CM=>?_⟩
   have hm:x∈[v0 - qq*w0,v1 - qq*w1,v2 - qq*w2,v3 - qq*w3,v4 - qq*w4]:=CM
   have fin:∀ a b,a∈[v0,v1,v2,v3,v4]->b∈[w0,w1,w2,w3,w4]->-(1000*4 ^ (i+1))<=a - qq*b/\a - qq*b<=1000*4 ^ (i+1):=fun a b VE VF=>by
    have z1:=Gq a VE
    have z2:=QZ S6 (ED b VF)
    rw [pp]
    lia
   simp only [aa7,not_mem_nil,or_false] at hm
   rcases hm with rfl|rfl|rfl|rfl|rfl <;> exact fin _ _ (by simp) (by simp)
  ·obtain ⟨o1,o2,o3,fd,v,rfl,sn,mf,Km,Gq⟩:=hp
   rw [<- lR] at Km
   walk_at "w"
   rename_i p5 H5 s5 m5
   exact k p5 H5 v (sn.trans s5) m5 Km
theorem BW:aA ["thing"] ["thing"] (ak gj):=⟨rfl,rfl,rfl,by decide +kernel,rfl,by decide +kernel,by decide +kernel⟩
structure BX(P:Program)(w:World)(K:Frag)(mg:Str->Option Value)(base:Heap)(G:nU):Prop where
 Fp:Ok P w K mg base 1 "is_whole" ["thing"] (jq K)
theorem BY (D:Def K mg "is_row" gj ["thing"]) (T:Txt K mg G) (O:BX P w K mg base G) (Y:base.NoSeer/\P.given.tree=none):Ok P w K mg base 2 "is_row" ["thing"] (mR K):=by
 have S:=BW
 refine D.ok S (fun vs H Q E h=>?_) (fun f cZ A outer s H vs Q E hr h=>?_)
 ·obtain ⟨_,rfl,_⟩:=h;rfl
 ·obtain ⟨v,rfl,h⟩:=h
  have hu:=bL hr
  have aC:=T.aC
  have ao:=T.ao
  refine⟨_,(ai (cP (PW.pt (vJ (eM (dG (aH (ck K rfl) rfl T.aS boot_isinstance (aa (pv 0) (aa (dC (v:=V.ty "tuple") rfl T.fo boot_tuple rfl) ah))))) (oW (ba oY (aH (fD K rfl) rfl T.iY PySem.boot_len (aa (pv 0) ah)) (aH (fD K rfl) rfl T.iY PySem.boot_len (aa (iw (v:=V.ref G.E9) rfl T.Q1 rfl) ah)) (aX _))))) (aq (aI fW)) bg) (aq (aI (aH (Eo K rfl rfl) rfl T.Kh boot_all (aa (bU (N:=["number"]) (ix:=[none]) rfl (Ar K rfl (pv 0)) (fun _ _ _ _ _=>(ax (i:=0) (show je ["number"] by decide +kernel) rfl (Or.inl rfl))) (fun _ _ _ _ _=>rfl) (fun _ _ _ _ _=>(aP O.Fp (hr.mono (by decide)) (aa (pv 0) ah))) rfl (by decide +kernel) (by decide +kernel) rfl True.intro) ah))))),?_⟩
  rcases h with ⟨a,xs,rfl,hs,hl,hk,k⟩|⟨hv,k⟩
  ·walk_at "w"
   refine DI ?_
   walk_at "w"
   refine cT (fun h1=>?_) (fun h1=>?_)
   ·have xK:xs.length≠5:=fun z=>by rw [z] at h1;simp at h1
    walk_at "w"
    rw [aaQ xK] at k
    exact k _ (aj.refl _)
   have xK:xs.length=5:=by simp at h1;lia
   walk_at "w"
   refine yH (fun x=>.bl (wh x)) [] rfl hs hl (fun x H' Qc hx s kc=>?_) (fun l H1 NK s1 m1=>?_)
   ·walk_at "w"
    refine yW ((hk x hx).same s) ?_
    walk_at "w"
    exact kc _ (aj.refl _)
   walk_at "w"
   refine JZ (bs:=xs.map wh) (aW.of (by rw [m1,abm];rfl)) ?_
   walk_at "w"
   rw [aaR xK,Bool.true_and] at k
   have e:(xs.map wh).all id=xs.all wh:=by rw [List.all_map];rfl
   rw [e]
   exact k _ s1
  ·rcases hv with ⟨i,rfl⟩|rfl|⟨s,rfl⟩|⟨a,xs,rfl,hs⟩
   all_goals
    walk_at "w"
    refine jM ?_
    walk_at "w"
    exact k
theorem rM:aA ["_law_cell","_law_count","_law_total","_law_pieces_here","_law_left","_law_k","_law_more"] ["_law_cell","_law_count","_law_total"] (ak dk):=⟨rfl,rfl,rfl,by decide +kernel,rfl,by decide +kernel,by decide +kernel⟩
structure rN(P:Program)(w:World)(K:Frag)(mg:Str->Option Value)(base:Heap)(G:nU):Prop where
 cC:Ok P w K mg base 1 "_law_mixed" ["_law_cell","_law_k"] (du K)
theorem rO (D:Def K mg "_law_pieces" dk ["_law_cell","_law_count","_law_total"]) (T:Txt K mg G) (O:rN P w K mg base G) (Y:base.NoSeer/\P.given.tree=none):Ok P w K mg base 2 "_law_pieces" ["_law_cell","_law_count","_law_total"] (gT K):=by
 have S:=rM
 refine D.ok S (fun vs H Q E h=>?_) (fun f cZ A outer s H vs Q E hr h=>?_)
 ·obtain ⟨_,_,_,rfl,_⟩:=h;rfl
 ·obtain ⟨c,n,t,rfl,h1,h2,h3,h4,k⟩:=h
  have hu:=bL hr
  have aC:=T.aC
  have ao:=T.ao
  refine⟨_,(ai (ay (i:=3) S.nd rfl (Or.inl rfl) (bV ah)) (ai (ay (i:=4) S.nd rfl (Or.inl rfl) (av d3 (pv 2) (pv 1))) (ai (cV PassesOwn.never rfl (eN rfl T.gM (aa (av d3 (pv 1) ag) ah)) (ax (i:=5) S.nd rfl (Or.inl rfl)) (ai (ay (i:=6) S.nd rfl (Or.inl rfl) (av bu (aP O.cC (hr.mono (by decide)) (aa (pv 0) (aa (av bh ag (pv 5)) ah))) (av bh (pv 4) ag))) (ai (fb (kX PySem.F.plainAttrs_list PySem.F.slot_list_append PySem.F.type_list_append cB (pv 3) (aa (av bh ag (pv 6)) ah))) (aq (ay (i:=4) S.nd rfl (Or.inl rfl) (av d3 (pv 4) (pv 6))))))) (aq (aI (av iB (pv 3) (bV (aa (av bh ag (pv 4)) ah)))))))),?_⟩
  walk_at "w"
  rename_i p1 H1 n1 s1 m1
  refine uB (fun i σ Hn=>∃ (o1 o2:Option V) (ps:List Int) (left:Int),σ=[some (.int c),some (.int (n:Int)),some (.int (t:Int)),some (.ref p1),some (.int left),o1,o2]/\aj H Hn/\Hn p1=some (.lst (ps.map V.int))/\ps.length=i/\(∀ p∈ps,1<=p/\p<=(t:Int))/\0<=left/\(i:Int)<=ps.sum/\ps.sum+left+n=t+i) ⟨_,_,[],_,rfl,s1,m1,rfl,(fun _ z=>nomatch z),by lia,by simp,by simp <;> lia⟩ (fun i σ Hn hi hp=>?_) (fun σ Hn hp=>?_)
  ·obtain ⟨o1,o2,ps,left,rfl,sn,mp,lp,S7,wJ,N3,Ra⟩:=hp
   have CN:i+1<n:=by lia
   walk_at "w"
   refine df (by lia) fun q1 z1 z2=>?_
   have b1:=emod_nonneg q1 (show left+1≠0 by lia)
   have b2:=emod_lt_of_pos q1 (show 0<left+1 by lia)
   have hlp:0<left+1:=by lia
   walk_at "w"
   refine dy mp (by rw [aa4];lia) ?_
   walk_at "w"
   refine⟨_,_,ps++[1+q1 % (left+1)],_,rfl,sn.cR n1,?_,by simp [lp],fun p hp=>?_,by lia,?_,?_⟩
   ·rw [aw,abl];rfl
   ·rcases aa2.mp hp with z|z
    ·exact S7 p z
    ·rw [aa1.mp z];lia
   ·rw [sum_append,sum_singleton];lia
   ·rw [sum_append,sum_singleton];lia
  ·obtain ⟨o1,o2,ps,left,rfl,sn,mp,lp,S7,wJ,N3,Ra⟩:=hp
   walk_at "w"
   rename_i p2 H2 n2 s2 m2 p3 H3 n3 s3 m3
   refine k p3 H3 (ps++[1+left]) ((sn.trans s2).new n3) ((sn.trans s2).trans s3) (by rw [m3,abl];rfl) (by rw [aa5];show ps.length+1=n;lia) (fun p hp=>?_) ?_
   ·rcases aa2.mp hp with z|z
    ·exact S7 p z
    ·rw [aa1.mp z];lia
   ·rw [sum_append,sum_singleton];lia
theorem uW:aA ["_law_script","_law_at","_law_some","_law_places","_law_steps_here","_law_k","_law_cell","_law_step"] ["_law_script","_law_at"] (ak dN):=⟨rfl,rfl,rfl,by decide +kernel,rfl,by decide +kernel,by decide +kernel⟩
structure uX(P:Program)(w:World)(K:Frag)(mg:Str->Option Value)(base:Heap)(G:nU):Prop where
 bB:Ok P w K mg base 1 "_law_cell_at" ["_law_script","_law_k"] (dP K)
 cC:Ok P w K mg base 1 "_law_mixed" ["_law_cell","_law_k"] (du K)
theorem uY (D:Def K mg "_law_steps" dN ["_law_script","_law_at"]) (T:Txt K mg G) (O:uX P w K mg base G) (Y:base.NoSeer/\P.given.tree=none):Ok P w K mg base 2 "_law_steps" ["_law_script","_law_at"] (iL K):=by
 have S:=uW
 refine D.ok S (fun vs H Q E h=>?_) (fun f cZ A outer s H vs Q E hr h=>?_)
 ·obtain ⟨_,_,_,rfl,_⟩:=h;rfl
 ·obtain ⟨a,ns,j,rfl,ha,Us,Vs,k⟩:=h
  have hu:=bL hr
  have aC:=T.aC
  have ao:=T.ao
  refine⟨_,(@ai _ _ _ _ _ (@ay _ _ 2 _ _ _ _ S.nd rfl (Or.inl rfl) (@bV _ _ _ _ (@aa _ _ _ _ _ (@aV _ _ _ _ _ (aa ag (aa ag (aa ag ah)))) (@aa _ _ _ _ _ (@aV _ _ _ _ _ (aa ag (aa ag (aa ag ah)))) (@aa _ _ _ _ _ (@aV _ _ _ _ _ (aa ag (aa ag (aa ag ah)))) (@aa _ _ _ _ _ (@aV _ _ _ _ _ (aa ag (aa ag (aa ag ah)))) (@aa _ _ _ _ _ (@aV _ _ _ _ _ (aa ag (aa ag (aa ag ah)))) (@aa _ _ _ _ _ (@aV _ _ _ _ _ (aa ag (aa ag (aa ag ah)))) (@aa _ _ _ _ _ (@aV _ _ _ _ _ (aa ag (aa ag (aa ag ah)))) (@aa _ _ _ _ _ (@aV _ _ _ _ _ (aa ag (aa ag (aa ag ah)))) ah (by rfl)) (by rfl)) (by rfl)) (by rfl)) (by rfl)) (by rfl)) (by rfl)) (by rfl))) (by rfl) (by first|exact .inl rfl|exact .inr rfl|assumption)) (ai (ay (i:=3) S.nd rfl (Or.inl rfl) (aO (aD K rfl) (pv 2) (av bu (av fe (aP O.bB (hr.mono (by decide)) (aa (pv 0) (aa (pv 1) ah))) ag) ag) (fun _ _=>rfl))) (ai (ay (i:=4) S.nd rfl (Or.inl rfl) (bV ah)) (ai (cV PassesOwn.never rfl (eN rfl T.gM (aa (av bu (aP O.bB (hr.mono (by decide)) (aa (pv 0) (aa (pv 1) ah))) ag) ah)) (ax (i:=5) S.nd rfl (Or.inl rfl)) (ai (ay (i:=6) S.nd rfl (Or.inr rfl) (av bh (aP O.bB (hr.mono (by decide)) (aa (pv 0) (aa (av bh (av bh (pv 1) ag) (pv 5)) ah))) (pv 5))) (ai (jF (k:=7) (N:=["_law_j","_law_cell"]) (ix:=[none,some 6]) S.nd rfl (Or.inl rfl) rfl (eN rfl T.gM (aa (aO (aD K rfl) (pv 3) (pv 5) (fun _ _=>rfl)) ah)) (fun _ _ _ _ _=>(ax (i:=0) (show je ["_law_j","_law_cell"] by decide +kernel) rfl (Or.inl rfl))) (fun _ _ _ _ _=>rfl) (fun _ _ _ _ _=>(av d3 (av bu (aP O.cC (hr.mono (by decide)) (aa (pv 1) (aa (av bh ag (pv 0)) ah))) ag) ag)) rfl (by decide +kernel) (by decide +kernel) rfl ⟨⟨rfl,Or.inr (Or.inl rfl),rfl,rfl⟩,True.intro⟩) (aq (fb (kX PySem.F.plainAttrs_list PySem.F.slot_list_append PySem.F.type_list_append cB (pv 4) (aa (av iB (av iB (pv 7) (bV (aa (av bh ag (av bu (aP O.cC (hr.mono (by decide)) (aa (pv 6) (aa ag ah))) ag)) ah))) (av Le (bV (aa ag ah)) (av d3 ag (aO (aD K rfl) (pv 3) (pv 5) (fun _ _=>rfl))))) ah))))))) (aq (aI (pv 4))))))),?_⟩
  walk_at "w"
  rename_i p0 H0 s0 m0 p1 H1 s1 m1 p2 H2 s2 m2 p3 H3 s3 m3 p4 H4 s4 m4 p5 H5 s5 m5 p6 H6 s6 m6 p7 H7 s7 m7 p8 H8 n8 s8 m8
  have e7:=s8 _ _ m7
  have e6:=s8 _ _ (s7 _ _ m6)
  have e5:=s8 _ _ (s7 _ _ (s6 _ _ m5))
  have e4:=s8 _ _ (s7 _ _ (s6 _ _ (s5 _ _ m4)))
  have e3:=s8 _ _ (s7 _ _ (s6 _ _ (s5 _ _ (s4 _ _ m3))))
  have e2:=s8 _ _ (s7 _ _ (s6 _ _ (s5 _ _ (s4 _ _ (s3 _ _ m2)))))
  have e1:=s8 _ _ (s7 _ _ (s6 _ _ (s5 _ _ (s4 _ _ (s3 _ _ (s2 _ _ m1))))))
  have e0:=s8 _ _ (s7 _ _ (s6 _ _ (s5 _ _ (s4 _ _ (s3 _ _ (s2 _ _ (s1 _ _ m0)))))))
  have sT:aj H H8:=(((((((s0.trans s1).trans s2).trans s3).trans s4).trans s5).trans s6).trans s7).trans s8
  obtain ⟨c,hc⟩:∃ c,ns.getD j.toNat 0=c:=⟨_,rfl⟩
  rw [hc]
  obtain ⟨i8,hi8,VG⟩:∃ i:Nat,c / 4 % 8=(i:Int)/\i<8:=⟨(c / 4 % 8).toNat,by lia,by lia⟩
  rw [hi8]
  obtain ⟨q,x0,x1,x2,hq,Q5,b0,b1,b2⟩:∃ (q:Addr) (x0 x1 x2:Nat),Ac [V.ref p0,V.ref p1,V.ref p2,V.ref p3,V.ref p4,V.ref p5,V.ref p6,V.ref p7] (i8:Int)=some (.ref q)/\H8 q=some (.tup [.int x0,.int x1,.int x2])/\x0<=4/\x1<x0/\x2<x1:=by
   match i8,VG with
   | 0,_=>exact⟨_,4,3,2,rfl,e0,by decide,by decide,by decide⟩
   | 1,_=>exact⟨_,4,3,1,rfl,e1,by decide,by decide,by decide⟩
   | 2,_=>exact⟨_,4,2,1,rfl,e2,by decide,by decide,by decide⟩
   | 3,_=>exact⟨_,3,2,1,rfl,e3,by decide,by decide,by decide⟩
   | 4,_=>exact⟨_,4,3,0,rfl,e4,by decide,by decide,by decide⟩
   | 5,_=>exact⟨_,4,2,0,rfl,e5,by decide,by decide,by decide⟩
   | 6,_=>exact⟨_,3,1,0,rfl,e6,by decide,by decide,by decide⟩
   | 7,_=>exact⟨_,2,1,0,rfl,e7,by decide,by decide,by decide⟩
  refine fN (aW.of m8) hq ?_
  clear e0 e1 e2 e3 e4 e5 e6 e7 m0 m1 m2 m3 m4 m5 m6 m7 s0 s1 s2 s3 s4 s5 s6 s7 s8 n8 hq hi8
  have haT:=sT.seq ha
  walk_at "w"
  rename_i pl HL nL sL mL
  have hqL:=sL _ _ Q5
  obtain ⟨N,hN,hN3⟩:∃ N:Nat,(c % 4).toNat=N/\N<=3:=⟨_,rfl,by lia⟩
  rw [hc,hN]
  obtain ⟨px,VH⟩:∃ px:Nat->Nat,px=fun i=>([x0,x1,x2]:List Nat).getD i 0:=⟨_,rfl⟩
  have hpd:∀ i j,i<j->j<3->px j<px i:=fun i j h1 h2=>by
   rw [VH]
   rcases (show (i=0/\j=1)\/(i=0/\j=2)\/(i=1/\j=2) by lia) with ⟨rfl,rfl⟩|⟨rfl,rfl⟩|⟨rfl,rfl⟩
   ·exact b1
   ·exact Nat.lt_trans b2 b1
   ·exact b2
  have U3:∀ i,i<3->px i<=4:=fun i h=>by
   rw [VH]
   match i,h with
   | 0,_=>exact b0
   | 1,_=>show x1<=4;lia
   | 2,_=>show x2<=4;lia
  refine uB (fun i σ Hn=>∃ (o1 o2 o3:Option V) (ys:List V) (rs:List (List Int)),σ=[some (.ref a),some (.int j),some (.ref p8),some (.ref q),some (.ref pl),o1,o2,o3]/\aj H8 Hn/\Hn pl=some (.lst ys)/\bM Hn ys rs/\(∀ x∈ys,x≠V.ref pl)/\rs.length=i/\(∀ (j:Nat) (r:List Int),rs[j]?=some r->Led r (px j)/\r.length=5/\∀ x∈r,-3<=x/\x<=3)) ⟨_,_,_,[],[],rfl,sL,mL,.nil,(fun _ z=>nomatch z),rfl,fun j r h=>by simp at h⟩ (fun i σ Hn hi hp=>?_) (fun σ Hn hp=>?_)
  ·obtain ⟨o1,o2,o3,ys,rs,rfl,sn,mp,hR,ik,N4,hl⟩:=hp
   have Bo:i<3:=by lia
   have haN:=sn.seq haT
   have hqN:aR K Hn q [.int x0,.int x1,.int x2]:=aR.of (sn _ _ Q5)
   have h4:=U3 i Bo
   obtain ⟨P,hP,vC⟩:∃ P:Nat,px i=P/\Ac [V.int x0,V.int x1,V.int x2] (0+(i:Int))=some (.int P):=by
    rw [VH]
    match i,Bo with
    | 0,_=>exact⟨_,rfl,rfl⟩
    | 1,_=>exact⟨_,rfl,rfl⟩
    | 2,_=>exact⟨_,rfl,rfl⟩
   rw [hP] at h4
   walk_at "w"
   refine iW hqN vC ?_
   walk_at "w"
   refine tP [some (.int _)] (fun _ x=>-2<=x/\x<=2) rfl (by lia) (fun i' H' Qc CN s' kc=>?_) (fun l5 H5 xs n5 s5 m5 lx hx=>?_)
   ·walk_at "w"
    refine df (by lia) fun mm g1 g2=>?_
    walk_at "w"
    exact kc _ _ (by lia) (aj.refl _)
   have lx':xs.length=P:=by rw [lx];lia
   walk_at "w"
   refine df (by lia) fun mm g1 g2=>?_
   walk_at "w"
   rename_i p6 H6 n6 s6 m6 p7 H7 n7 s7 m7 p9 H9 n9 s9 m9
   have VI:=((s5.trans s6).trans s7).trans s9
   refine iW (VI.at hqN) vC ?_
   refine PL ?_
   rw [show (4:Int) - (P:Int)=((4 - P:Nat):Int) by lia]
   refine QM m9 (by show 1*(4 - P)<=1000;lia) (fun pA HA nA sA mA=>?_) (by lia)
   have er:(List.replicate (4 - P) [V.int 0]).flatten=(List.replicate (4 - P) (0:Int)).map V.int:=by rw [List.map_replicate,List.flatten_replicate_singleton]
   rw [er] at mA
   refine D6 (sA _ _ (s9 _ _ m7)) mA (by rw [aa5,aa4,aa4,length_replicate];show _+1+_<=_;lia) fun pB HB nB sB mB=>?_
   have VJ:=(VI.trans sA).trans sB
   have eB:=VJ _ _ mp
   have lR:=hR.length
   walk_at "w"
   refine dy eB (by lia) ?_
   walk_at "w"
   have VL:0<1+mm % 3:=by lia
   have nB0:Hn pB=none:=(VI.trans sA).new nB
   have neB:pB≠pl:=fun z=>by rw [z,mp] at nB0;cases nB0
   refine⟨_,_,_,ys++[.ref pB],rs++[xs++[1+mm % 3]++List.replicate (4 - P) 0],rfl,(sn.trans VJ).cR nL,aw,?_,fun x qX=>?_,by simp [N4],fun j' r hr=>?_⟩
   ·refine ((hR.same VJ).off ik).append (.cons ?_ .nil)
    rw [au neB,mB,abl,abl]
    rfl
   ·rcases aa2.mp qX with z|z
    ·exact ik x z
    ·rw [aa1.mp z]
     intro e
     cases e
     exact neB rfl
   ·by_cases lD:j'<rs.length
    ·rw [aaM lD] at hr
     exact hl j' r hr
    ·have VM:=(aaG.mp hr).1
     rw [aa5,aaF] at VM
     obtain rfl:j'=i:=by lia
     rw [abe (by lia),show j' - rs.length=0 by lia] at hr
     cases hr
     rw [hP]
     refine⟨MT lx' VL,by rw [aa5,aa5,length_replicate,lx'];show P+1+(4 - P)=5;lia,fun x CM=>?_⟩
     rcases aa2.mp CM with z|z
     ·rcases aa2.mp z with z|z
      ·obtain ⟨j3,VN,e3⟩:=abx z
       have:=hx j3 x (by rw [aaY VN,e3])
       lia
      ·rw [aa1.mp z];lia
     ·rw [(List.mem_replicate.mp z).2];lia
  ·obtain ⟨o1,o2,o3,ys,rs,rfl,sn,mp,hR,ik,N4,hl⟩:=hp
   walk_at "w"
   exact k pl Hn ys rs (sT.new nL) (sT.trans sn) mp hR ik (tR.of (pl:=px) (by lia) hpd hl)
theorem rP:aA ["_law_steps_here","_law_cell","_law_commas_here","_law_k","_law_at","_law_by"] ["_law_steps_here","_law_cell"] (ak dq):=⟨rfl,rfl,rfl,by decide +kernel,rfl,by decide +kernel,by decide +kernel⟩
structure rQ(P:Program)(w:World)(K:Frag)(mg:Str->Option Value)(base:Heap)(G:nU):Prop where
 cC:Ok P w K mg base 1 "_law_mixed" ["_law_cell","_law_k"] (du K)
theorem rR (D:Def K mg "_law_commas" dq ["_law_steps_here","_law_cell"]) (T:Txt K mg G) (O:rQ P w K mg base G) (Y:base.NoSeer/\P.given.tree=none):Ok P w K mg base 2 "_law_commas" ["_law_steps_here","_law_cell"] (gU K):=by
 have S:=rP
 refine D.ok S (fun vs H Q E h=>?_) (fun f cZ A outer s H vs Q E hr h=>?_)
 ·obtain ⟨_,_,_,_,rfl,_⟩:=h;rfl
 ·obtain ⟨l,c,ys,rs,rfl,hl,hR,qr,k⟩:=h
  have hu:=bL hr
  have aC:=T.aC
  have ao:=T.ao
  refine⟨_,(@ai _ _ _ _ _ (jF (k:=2) (N:=["_law_step"]) (ix:=[none]) S.nd rfl (Or.inl rfl) rfl (aZ K rfl (pv 0)) (fun _ _ _ _ _=>(ax (i:=0) (show je ["_law_step"] by decide +kernel) rfl (Or.inl rfl))) (fun _ _ _ _ _=>rfl) (fun _ _ _ _ _=>(cW (ur K rfl) rfl T.qh boot_list (aa (pv 0) ah))) rfl (by decide +kernel) (by decide +kernel) rfl True.intro) (@ai _ _ _ _ _ (cV PassesOwn.never rfl (eN rfl T.gM (aa ag ah)) (ax (i:=3) S.nd rfl (Or.inl rfl)) (aq (cP (ba sJ (aH (fD K rfl) rfl T.iY PySem.boot_len (aa (pv 2) ah)) ag (aX _)) (ai (ay (i:=4) S.nd rfl (Or.inl rfl) (av bu (pv 3) (aH (fD K rfl) rfl T.iY PySem.boot_len (aa (pv 2) ah)))) (ai (ay (i:=5) S.nd rfl (Or.inr rfl) (av d3 (av bu (aP O.cC (hr.mono (by decide)) (aa (pv 1) (aa (av bh ag (pv 3)) ah))) ag) ag)) (aq (C9 (bU (N:=["_law_x","_law_y","_law_by"]) (ix:=[none,none,some 5]) rfl (dZ K rfl false false rfl T.jo (aa (aO (aD K rfl) (pv 2) (pv 4) (fun _ _=>rfl)) (aa (aO (aD K rfl) (pv 2) (av bu (av bh (pv 3) ag) (aH (fD K rfl) rfl T.iY PySem.boot_len (aa (pv 2) ah))) (fun _ _=>rfl)) ah))) (fun _ _ _ _ _=>(cH (n:=2) K rfl rfl (aJ (ax (i:=0) (show je ["_law_x","_law_y","_law_by"] by decide +kernel) rfl (Or.inl rfl)) (aJ (ax (i:=1) (show je ["_law_x","_law_y","_law_by"] by decide +kernel) rfl (Or.inl rfl)) cE)))) (fun _ _ _ _ _=>rfl) (fun _ _ _ _ _=>(av bh (pv 0) (av fC (pv 2) (pv 1)))) rfl (by decide +kernel) (by decide +kernel) rfl ⟨⟨rfl,Or.inr (Or.inl rfl),rfl,rfl⟩,True.intro⟩) (C8 (pv 2) (pv 4) set_list))))) bg))) (@ai _ _ _ _ _ (cP (PW.pt (xS (ba sJ (aH (fD K rfl) rfl T.iY PySem.boot_len (aa (pv 2) ah)) ag (aX _)) (t5 (ba jW (av bu (pv 1) ag) ag (aX _))))) (aq (C9 (bU (N:=["_law_x"]) (ix:=[none]) rfl (aZ K rfl (aO (aD K rfl) (pv 2) ag (fun _ _=>rfl))) (fun _ _ _ _ _=>(ax (i:=0) (show je ["_law_x"] by decide +kernel) rfl (Or.inl rfl))) (fun _ _ _ _ _=>rfl) (fun _ _ _ _ _=>(av d3 ag (pv 0))) rfl (by decide +kernel) (by decide +kernel) rfl True.intro) (C8 (pv 2) ag set_list))) bg) (@ai _ _ _ _ _ (cP (ba jW (av bu (av fe (pv 1) ag) ag) ag (aX _)) (aq (ay (i:=2) S.nd rfl (Or.inl rfl) (av iB (pv 2) (hV (wo K rfl) (pv 2) jB (jC ag))))) bg) (@ai _ _ _ _ _ (cP (ba jW (av bu (av fe (pv 1) ag) ag) ag (aX _)) (@aq _ _ _ (@ay _ _ 2 _ _ _ _ S.nd rfl (Or.inl rfl) (@av _ _ _ _ _ _ _ _ iB (bV (@aa _ _ _ _ _ (@uH _ _ _ _ (by rfl)) ah (by rfl))) (pv 2)) (by rfl) (by first|exact .inl rfl|exact .inr rfl|assumption))) bg) (aq (aI (bU (N:=["_law_comma"]) (ix:=[none]) rfl (aZ K rfl (pv 2)) (fun _ _ _ _ _=>(ax (i:=0) (show je ["_law_comma"] by decide +kernel) rfl (Or.inl rfl))) (fun _ _ _ _ _=>rfl) (fun _ _ _ _ _=>(cW (gi K rfl) rfl T.fo boot_tuple (aa (pv 0) ah))) rfl (by decide +kernel) (by decide +kernel) rfl True.intro)))))))),?_⟩
  have lR:=hR.length
  have h3:=qr.cnt
  walk_at "w"
  refine eI 1 [] rs.length (fun l i zs H'=>bM H' zs (rs.take i)/\∀ x∈zs,x≠V.ref l) rfl (fun l H' _ _ _=>⟨.nil,fun _ z=>nomatch z⟩) (fun l i zs H' h=>by have:=h.1.length;rw [abi] at this;lia) (fun H' s=>⟨ys,s.seq (aW.of hl),by lia⟩) (fun i H' hi s=>⟨ys,ys[i]'(by lia),s.seq (aW.of hl),aaY (by lia)⟩) (fun l2 i x H' H2 own zs ho hi wJ s9 d6 hp hy Qy Qn ky kn=>?_) (fun pl HA zs0 nA sA mA hp=>?_)
  ·obtain ⟨o1,rfl⟩:∃ o1,own=[o1]:=by match own,ho with|[o1],_=>exact⟨o1,rfl⟩
   obtain ⟨rfl,e⟩:=hy
   obtain ⟨a1,r,rfl,hz,VO⟩:=(hR.same s9).get (e ys (s9.seq (aW.of hl)))
   have et:rs.take (i+1)=rs.take i++[r]:=by rw [take_add_one,VO];rfl
   walk_at "w"
   refine jM ?_
   walk_at "w"
   rename_i l3 H9 n9 ou m9
   have Jg:=ou _ _ d6
   have ne:l3≠l2:=fun z=>by rw [z,d6] at n9;cases n9
   refine ky [some (.ref a1)] _ H9 rfl ou ⟨?_,fun x hx=>?_⟩
   ·rw [et]
    exact ((hp.1.same ou).off hp.2).append (.cons (by rw [au ne];exact m9) .nil)
   ·rcases aa2.mp hx with z|z
    ·exact hp.2 x z
    ·rw [aa1.mp z]
     intro w
     cases w
     exact ne rfl
  rw [abh] at hp
  walk_at "w"
  refine uB (fun i σ Hn=>∃ (o1 o2 o3:Option V) (zs:List V) (qs:List (List Int)),σ=[some (.ref l),some (.int c),some (.ref pl),o1,o2,o3]/\aj H Hn/\CmI Hn pl zs rs qs (3*2 ^ i)) ⟨_,_,_,zs0,rs,rfl,sA,mA,hp.1,hp.2,Eqv.refl,qr.len,rfl,(fun v hv x hx=>by have:=qr.sm v hv x hx;show -(3*1)<=x/\x<=3*1;lia)⟩ (fun i σ Hn hi hP=>?_) (fun σ Hn hP=>?_)
  ·have p2:(2:Int) ^ (i+1)=2*2 ^ i:=by rw [Int.pow_succ,Int.mul_comm]
   have p0:(0:Int)<2 ^ i:=by
    rcases (show i=0\/i=1\/i=2 by lia) with rfl|rfl|rfl <;> decide
   obtain ⟨o1,o2,o3,zs,qs,rfl,sn,mp,hL,ik,hE,nW,lq,hb⟩:=hP
   have Bo:i<3:=by lia
   have lz:=hL.length
   walk_at "w"
   refine cT (fun h1=>?_) (fun h1=>?_)
   ·have xK:1<zs.length:=by have:=aaO h1;lia
    obtain ⟨j1,j2,e1,e2,b1,b2,nej⟩:∃ j1 j2:Nat,(0+(i:Int)) % (zs.length:Int)=(j1:Int)/\(0+(i:Int)+1) % (zs.length:Int)=(j2:Int)/\j1<zs.length/\j2<zs.length/\j1≠j2:=by
     rcases (show zs.length=2\/zs.length=3 by lia) with e|e
     ·rw [e]
      exact⟨i % 2,(i+1) % 2,by lia,by lia,by lia,by lia,by lia⟩
     ·rw [e]
      exact⟨i % 3,(i+1) % 3,by lia,by lia,by lia,by lia,by lia⟩
    have SI:(0:Int)<(zs.length:Int):=by lia
    obtain ⟨a1,r1,VP,MY,MZ⟩:=hL.get (i:=j1) (aaY b1)
    obtain ⟨a2,r2,ez2,ha2,VQ⟩:=hL.get (i:=j2) (aaY b2)
    have M0:=nW r1 (aa3 MZ)
    have Rb:=nW r2 (aa3 VQ)
    have N5:=hb r1 (aa3 MZ)
    have bb2:=hb r2 (aa3 VQ)
    walk_at "w"
    refine df (by lia) fun mm g1 g2=>?_
    rw [e1]
    walk_at "w"
    refine fN (aW.of mp) (bF (by rw [aaY b1,VP])) ?_
    walk_at "w"
    rw [e2]
    refine fN (aW.of mp) (bF (by rw [aaY b2,ez2])) ?_
    walk_at "w"
    obtain ⟨bb,CO,M1⟩:∃ bb,mm % 3 - 1=bb/\(bb=-1\/bb=0\/bb=1):=⟨_,rfl,by lia⟩
    rw [CO]
    have Rc:List.zipWith (fun x y=>x+bb*y) r1 r2=low r1 r2 (-bb):=by
     refine bI (n:=5) (by simp [M0,Rb]) (bJ M0 Rb) fun n hn=>?_
     rw [cu M0 Rb]
     simp [List.getD,List.getElem?_zipWith,aaY (show n<r1.length by lia),aaY (show n<r2.length by lia),Int.mul_comm]
     rw [Int.neg_mul]
     lia
    have nb:∀ x∈low r1 r2 (-bb),-(3*2 ^ (i+1))<=x/\x<=3*2 ^ (i+1):=fun x hx=>by
     rw [<- Rc] at hx
     obtain ⟨n,hn,e⟩:=abx hx
     rw [List.getElem_zipWith] at e
     have z1:=N5 _ (abw (l:=r1) (by simp at hn;lia:n<r1.length))
     have z2:=bb2 _ (abw (l:=r2) (by simp at hn;lia:n<r2.length))
     rw [p2,<- e]
     rcases M1 with rfl|rfl|rfl <;> lia
    have Rf:=IZ nW MZ VQ nej (-bb)
    rw [<- Rc] at Rf nb
    have yl:(List.zipWith (fun x y=>x+bb*y) r1 r2).length=5:=by simp [M0,Rb]
    obtain ⟨u0,u1,u2,u3,u4,rfl⟩:=dh M0
    obtain ⟨w0,w1,w2,w3,w4,rfl⟩:=dh Rb
    have hbbm:-1000<=bb/\bb<=1000:=by lia
    refine gd (k1:=false) (k2:=false) [some (.int bb)] (fun n=>.int (([u0,u1,u2,u3,u4]:List Int).getD n 0+bb*([w0,w1,w2,w3,w4]:List Int).getD n 0)) rfl (d9 (aW.of MY)) (d9 (aW.of ha2)) rfl (by show 5<=1000000;decide) (fun n x y H' Qc hx hy s kc=>?_) (fun l5 H5 n5 s5 m5=>?_)
    ·obtain ⟨rfl,_⟩:=bY (r:=[u0,u1,u2,u3,u4]) hx
     obtain ⟨rfl,hn⟩:=bY (r:=[w0,w1,w2,w3,w4]) hy
     walk_at "w"
     exact kc _ (aj.refl _)
    have ne5:l5≠pl:=fun z=>by rw [z,mp] at n5;cases n5
    walk_at "w"
    refine Es (j:=j1) (s5 _ _ mp) (AG b1) ?_
    have Fq:bM H5 (zs.set j1 (.ref l5)) (qs.set j1 (List.zipWith (fun x y=>x+bb*y) [u0,u1,u2,u3,u4] [w0,w1,w2,w3,w4])):=pX m5 j1 (hL.same s5)
    have me:∀ x∈zs.set j1 (.ref l5),x≠V.ref pl:=fun x hx=>by
     rcases mem_or_eq_of_mem_set hx with z|z
     ·exact ik x z
     ·rw [z]
      intro w
      cases w
      exact ne5 rfl
    walk_at "w"
    refine⟨_,_,_,zs.set j1 (.ref l5),_,rfl,(sn.trans s5).cR nA,aw,Fq.off me,me,hE.trans Rf,fun v hv=>?_,by rw [length_set];exact lq,fun v hv x hx=>?_⟩
    ·rcases mem_or_eq_of_mem_set hv with z|z
     ·exact nW v z
     ·rw [z];exact yl
    ·rcases mem_or_eq_of_mem_set hv with z|z
     ·have:=hb v z x hx
      rw [p2]
      lia
     ·rw [z] at hx
      exact nb x hx
   ·walk_at "w"
    refine⟨_,_,_,zs,qs,rfl,sn,mp,hL,ik,hE,nW,lq,fun v hv x hx=>?_⟩
    have:=hb v hv x hx
    rw [p2]
    lia
  ·obtain ⟨o1,o2,o3,zs,qs,rfl,sn,mp,hL,ik,hE,nW,lq,hb⟩:=hP
   have hb:∀ v∈qs,∀ x∈v,-24<=x/\x<=24:=hb
   have lz:=hL.length
   walk_at "j"
   refine join (fun σ' H'=>∃ (zs:List V) (qs:List (List Int)),σ'=[some (.ref l),some (.int c),some (.ref pl),o1,o2,o3]/\aj H H'/\CmI H' pl zs rs qs 24) (fun nx xk=>?_) (fun σ' HB hB=>?_)
   ·have old:=xk _ _ ⟨zs,qs,rfl,sn,mp,hL,ik,hE,nW,lq,hb⟩
    walk_at "w"
    refine cT (fun h1=>?_) (fun h1=>?_)
    ·walk_at "w"
     refine cT (fun h2=>?_) (fun h2=>?_)
     ·have xK:0<zs.length:=by have:=aaO h1;lia
      obtain ⟨a1,r1,VP,MY,MZ⟩:=hL.get (i:=0) (aaY xK)
      have M0:=nW r1 (aa3 MZ)
      have N5:=hb r1 (aa3 MZ)
      have Rg:=Ja nW MZ
      have VR:cA r1 (-1)=r1.map fun x=>0 - x:=abn fun x _=>by lia
      rw [VR] at Rg
      walk_at "w"
      refine fN (aW.of mp) (bF (j:=0) (by rw [aaY xK,VP])) ?_
      walk_at "w"
      refine yt (r:=r1) (fun x=>.int (0 - x)) [] rfl (aW.of MY) (by lia) (fun x H' Qc hx s kc=>?_) (fun l5 H5 n5 s5 m5=>?_)
      ·walk_at "w"
       exact kc _ (aj.refl _)
      have m5':H5 l5=some (.lst ((r1.map fun x=>0 - x).map V.int)):=by rw [abm];exact m5
      have ne5:l5≠pl:=fun z=>by rw [z,mp] at n5;cases n5
      walk_at "w"
      refine Es (j:=0) (s5 _ _ mp) (AG xK) ?_
      have Fq:bM H5 (zs.set 0 (.ref l5)) (qs.set 0 (r1.map fun x=>0 - x)):=pX m5' 0 (hL.same s5)
      have me:∀ x∈zs.set 0 (.ref l5),x≠V.ref pl:=fun x hx=>by
       rcases mem_or_eq_of_mem_set hx with z|z
       ·exact ik x z
       ·rw [z]
        intro w
        cases w
        exact ne5 rfl
      refine xk _ _ ⟨zs.set 0 (.ref l5),_,rfl,(sn.trans s5).cR nA,aw,Fq.off me,me,hE.trans Rg,fun v hv=>?_,by rw [length_set];exact lq,fun v hv x hx=>?_⟩
      ·rcases mem_or_eq_of_mem_set hv with z|z
       ·exact nW v z
       ·rw [z,aa4];exact M0
      ·rcases mem_or_eq_of_mem_set hv with z|z
       ·exact hb v z x hx
       ·rw [z] at hx
        obtain ⟨y,hy,rfl⟩:=aa8.mp hx
        have:=N5 y hy
        lia
     ·walk_at "w"
      exact old
    ·walk_at "w"
     exact old
   clear mp hL ik hE nW lq hb lz sn
   obtain ⟨zs,qs,rfl,sn,mp,hL,ik,hE,nW,lq,hb⟩:=hB
   have lz:=hL.length
   walk_at "j"
   refine join (fun σ' H'=>∃ (pl:Addr) (zs:List V) (qs:List (List Int)),σ'=[some (.ref l),some (.int c),some (.ref pl),o1,o2,o3]/\aj H H'/\H' pl=some (.lst zs)/\bM H' zs qs/\Eqv 5 rs qs/\Len 5 qs/\qs.length<=4/\(c / 2 % 3=2->qs.length<=3)/\∀ v∈qs,∀ x∈v,-24<=x/\x<=24) (fun nx xk=>?_) (fun σ' HC hC=>?_)
   ·walk_at "w"
    refine cT (fun h1=>?_) (fun h1=>?_)
    ·have xK:c / 2 % 3=1:=by simpa using h1
     walk_at "w"
     refine Mq (j:=1) (aW.of mp) fun p5 H5 n5 s5 m5=>?_
     have lt:(zs.take 1).length<=1:=List.length_take_le _ _
     walk_at "w"
     rename_i p6 H6 n6 s6 m6
     have hL6:=hL.same (s5.trans s6)
     refine xk _ _ ⟨p6,zs++zs.take 1,qs++qs.take 1,rfl,(sn.trans s5).trans s6,m6,hL6.append (tS 1 hL6),hE.trans (Eqv.mem fun x=>?_),fun v hv=>?_,?_,fun z=>by lia,fun v hv=>?_⟩
     ·rw [aa2]
      exact⟨.inl,fun z=>z.elim id aaV⟩
     ·exact (aa2.mp hv).elim (nW v) fun z=>nW v (aaV z)
     ·have lt2:(qs.take 1).length<=1:=List.length_take_le _ _
      rw [aa5]
      lia
     ·exact (aa2.mp hv).elim (hb v) fun z=>hb v (aaV z)
    ·walk_at "w"
     exact xk _ _ ⟨pl,zs,qs,rfl,sn,mp,hL,hE,nW,by lia,fun _=>by lia,hb⟩
   clear mp hL ik hE nW lq hb lz sn
   obtain ⟨pl2,zs,qs,rfl,sn,mp,hL,hE,nW,lq,lq3,hb⟩:=hC
   have lz:=hL.length
   walk_at "j"
   refine join (fun σ' H'=>∃ (pl:Addr) (zs:List V) (qs:List (List Int)),σ'=[some (.ref l),some (.int c),some (.ref pl),o1,o2,o3]/\aj H H'/\H' pl=some (.lst zs)/\bM H' zs qs/\Eqv 5 rs qs/\Len 5 qs/\qs.length<=4/\∀ v∈qs,∀ x∈v,-24<=x/\x<=24) (fun nx xk=>?_) (fun σ' HC hC=>?_)
   ·walk_at "w"
    refine cT (fun h1=>?_) (fun h1=>?_)
    ·have xK:c / 2 % 3=2:=by simpa using h1
     have l3:=lq3 xK
     walk_at "w"
     rename_i p5 H5 n5 s5 m5 p6 H6 n6 s6 m6 p7 H7 n7 s7 m7
     have M3:=(s5.trans s6).trans s7
     refine xk _ _ ⟨p7,_,[0,0,0,0,0]::qs,rfl,sn.trans M3,m7,.cons ((s6.trans s7) _ _ m5) (hL.same M3),⟨fun r hr=>Span.of (hE.1 r hr) fun q hq=>Span.mem (.tail _ hq),fun q hq=>?_⟩,fun v hv=>?_,by rw [length_cons];lia,fun v hv x hx=>?_⟩
     ·rcases aa7.mp hq with rfl|hq
      ·exact Span.zero (n:=5)
      ·exact hE.2 q hq
     ·rcases aa7.mp hv with rfl|hv
      ·rfl
      ·exact nW v hv
     ·rcases aa7.mp hv with rfl|hv
      ·simp only [aa7,not_mem_nil,or_false,or_self] at hx
       rw [hx]
       decide
      ·exact hb v hv x hx
    ·walk_at "w"
     exact xk _ _ ⟨pl2,zs,qs,rfl,sn,mp,hL,hE,nW,lq,hb⟩
   clear mp hL hE nW lq lq3 hb lz sn
   obtain ⟨pl3,zs,qs,rfl,sn,mp,hL,hE,nW,lq,hb⟩:=hC
   have lz:=hL.length
   walk_at "w"
   refine eI 1 [] qs.length (fun l i ws H'=>aK K H' ws (qs.take i)) rfl (fun l H' _ _ _=>.nil) (fun l i ws H' h=>by have:=h.length;rw [abi] at this;lia) (fun H' s=>⟨zs,s.seq (aW.of mp),by lia⟩) (fun i H' hi s=>⟨zs,zs[i]'(by lia),s.seq (aW.of mp),aaY (by lia)⟩) (fun l2 i x H' H2 own ws ho hi wJ s9 d6 sW hy Qy Qn ky kn=>?_) (fun l2 H' ws wJ s9 d6 sW=>?_)
   ·obtain ⟨o1,rfl⟩:∃ o1,own=[o1]:=by match own,ho with|[o1],_=>exact⟨o1,rfl⟩
    obtain ⟨rfl,e⟩:=hy
    obtain ⟨a1,r,rfl,hz,VO⟩:=(hL.same s9).get (e zs (s9.seq (aW.of mp)))
    have et:qs.take (i+1)=qs.take i++[r]:=by rw [take_add_one,VO];rfl
    walk_at "w"
    refine jM ?_
    walk_at "w"
    rename_i l3 H9 ou m9
    have Jg:=ou _ _ d6
    refine ky [some (.ref a1)] _ H9 rfl ou ?_
    rw [et]
    exact ((sW.same ou).off Jg).append (.cons (jH (aR.of m9) Jg) .nil)
   ·rw [abh] at sW
    exact k l2 H' ws qs (sn.new wJ) (sn.trans s9) d6 sW hE nW hb lq
theorem y9:aA ["_law_steps_here","_law_tune_here","_law_bars","_law_bar"] ["_law_steps_here","_law_tune_here"] (ak eX):=⟨rfl,rfl,rfl,by decide +kernel,rfl,by decide +kernel,by decide +kernel⟩
structure zc(P:Program)(w:World)(K:Frag)(mg:Str->Option Value)(base:Heap)(G:nU):Prop where
 Fs:Ok P w K mg base 1 "_law_rest" ["_law_steps_here","_law_row"] (jt K)
theorem zd (D:Def K mg "_law_all" eX ["_law_steps_here","_law_tune_here"]) (T:Txt K mg G) (O:zc P w K mg base G) (Y:base.NoSeer/\P.given.tree=none):Ok P w K mg base 2 "_law_all" ["_law_steps_here","_law_tune_here"] (kC K):=by
 have S:=y9
 refine D.ok S (fun vs H Q E h=>?_) (fun f cZ A outer s H vs Q E hr h=>?_)
 ·obtain ⟨_,_,_,_,_,_,_,_,_,_,rfl,_⟩:=h;rfl
 ·obtain ⟨sl,a,m,l,mt,ss,xs,bs,rs,st,rfl,tu,ze,mh,JW,xN,qr,sf,OY,heq,k⟩:=h
  have hu:=bL hr
  have aC:=T.aC
  have ao:=T.ao
  refine⟨_,(ai (ay (i:=2) S.nd rfl (Or.inl rfl) (bV ah)) (ai (cV PassesOwn.never rfl (aZ K rfl (aO (aD K rfl) (pv 1) ag (fun _ _=>rfl))) (ax (i:=3) S.nd rfl (Or.inl rfl)) (aq (fb (kX PySem.F.plainAttrs_list PySem.F.slot_list_append PySem.F.type_list_append cB (pv 2) (aa (bU (N:=["_law_tone","_law_length","_law_steps_here"]) (ix:=[none,none,some 0]) rfl (aZ K rfl (pv 3)) (fun _ _ _ _ _=>(cH (n:=2) K rfl rfl (aJ (ax (i:=0) (show je ["_law_tone","_law_length","_law_steps_here"] by decide +kernel) rfl (Or.inl rfl)) (aJ (ax (i:=1) (show je ["_law_tone","_law_length","_law_steps_here"] by decide +kernel) rfl (Or.inl rfl)) cE)))) (fun _ _ _ _ _=>rfl) (fun _ _ _ _ _=>(aV (aa (oX (ba oZ (pv 0) fz (aX _)) fz (aP O.Fs (hr.mono (by decide)) (aa (pv 2) (aa (pv 0) ah)))) (aa (pv 1) ah)))) rfl (by decide +kernel) (by decide +kernel) rfl ⟨⟨rfl,Or.inr (Or.inl rfl),rfl,rfl⟩,True.intro⟩) ah))))) (aq (aI (aV (aa (aO (aD K rfl) (pv 1) ag (fun _ _=>rfl)) (aa (pv 2) ah))))))),?_⟩
  obtain ⟨M4,M5,Ko,Gr⟩:=id tu
  have lx:=Gr.length
  walk_at "w"
  rename_i pl HE nE sE mE
  refine gQ (xs:=xs) (fun i σ Hn=>∃ (o1:Option V) (ys:List V),σ=[some (.ref sl),some (.ref a),some (.ref pl),o1]/\aj H Hn/\Hn pl=some (.lst ys)/\cb K Hn ys ((bs.take i).map fun ns=>ns.map (fj st))/\(V.ref pl∉ys)/\ys.length=i) ⟨_,[],rfl,sE,mE,.nil,(fun z=>nomatch z),rfl⟩ (fun i σ Hn hp=>by obtain ⟨_,_,rfl,sn,_⟩:=hp;exact aW.of (sn _ _ Ko)) (fun i x σ Hn hx hp=>?_) (fun σ Hn hp=>?_)
  ·obtain ⟨o1,ys,rfl,sn,mp,hB,ik,ly⟩:=hp
   have hi:i<xs.length:=(aaG.mp hx).1
   obtain ⟨a1,D8,oO,rfl,hz,nQ,nP⟩:=(Gr.same sn).get hx
   have AS:oO∈bs:=aa3 nP
   have BZ:=mh oO AS
   have et:bs.take (i+1)=bs.take i++[oO]:=by rw [take_add_one,nP];rfl
   have lz:=nQ.length
   have N2:=BZ.1
   walk_at "w"
   refine eI 2 [some (.ref sl)] oO.length (fun l i ws H'=>bc K H' ws ((oO.take i).map (fj st))) rfl (fun _ _ _ _ _=>.nil) (fun l i ws H' h=>by have:=h.length;rw [aa4,abi] at this;lia) (fun H' s=>⟨D8,s.seq (aW.of hz),by lia⟩) (fun i H' hi s=>⟨D8,D8[i]'(by lia),s.seq (aW.of hz),aaY (by lia)⟩) (fun l i' x H' H2 own ws ho CN wJ s9 d6 sW hy Qy Qn ky kn=>?_) (fun l3 H3 ws n3 s3 m3 sW=>?_)
   ·obtain ⟨q1,q2,rfl⟩:∃ q1 q2,own=[q1,q2]:=by match own,ho with|[q1,q2],_=>exact⟨q1,q2,rfl⟩
    obtain ⟨rfl,e⟩:=hy
    obtain ⟨n,me,uV⟩:=(nQ.same s9).get (e D8 (s9.seq (aW.of hz)))
    have Kl:n∈oO:=aa3 uV
    have Kk:oO.take (i'+1)=oO.take i'++[n]:=by rw [take_add_one,uV];rfl
    have xr:=BZ.2 n Kl
    obtain ⟨an,tn,ln,rfl,wO,vB,CP⟩:=me
    obtain ⟨Gm,nt,nb⟩:=n
    refine oM wO ?_
    cases Gm with
    | none =>
     obtain rfl:tn=.dB:=vB
     walk_at "w"
     refine jM ?_
     walk_at "w"
     refine⟨rfl,?_⟩
     walk_at "w"
     refine gJ rfl ?_
     walk_at "w"
     rename_i p7 H7 s7 m7
     have e7:=s7 _ _ d6
     refine ky [some .dB,some (.ref ln)] _ H7 rfl s7 ?_
     rw [Kk,abl]
     exact ((sW.same s7).off e7).snoc (n:=fj st (none,nt,nb)) (bQ.off ⟨p7,.dB,ln,rfl,aR.of m7,rfl,s7.at CP⟩ e7)
    | some r =>
     obtain ⟨ar,rfl,Gp,l5⟩:=vB
     have M6:=xr r rfl
     walk_at "w"
     refine jM ?_
     walk_at "w"
     refine⟨rfl,?_⟩
     walk_at "w"
     refine dE rfl ?_
     have sT:=sn.trans s9
     walk_at "w"
     refine y4 ⟨sT _ _ JW,xN.same sT,qr,Gp,l5,M6.2⟩ fun z H5 v s5 SE Km=>?_
     have ev:AM st r=v:=pY sf OY l5 (E5 qr sf OY heq Km)
     walk_at "w"
     rename_i p7 H7 s7 m7
     have M3:=s5.trans s7
     have e7:=M3 _ _ d6
     refine ky [some (.ref ar),some (.ref ln)] _ H7 rfl M3 ?_
     rw [Kk,abl]
     refine ((sW.same M3).off e7).snoc (n:=fj st (some r,nt,nb)) (bQ.off ⟨p7,.ref z,ln,rfl,aR.of m7,⟨z,rfl,?_,?_⟩,M3.at CP⟩ e7)
     ·rw [ev]
      exact s7.at (aR.of SE)
     ·rw [ev]
      exact Km.1
   ·rw [abh] at sW
    have VS:=s3 _ _ mp
    have ne3:l3≠pl:=fun z=>by rw [z,mp] at n3;cases n3
    walk_at "w"
    refine dy VS (by lia) ?_
    walk_at "w"
    refine⟨_,ys++[.ref l3],rfl,(sn.trans s3).cR nE,aw,?_,fun z=>?_,by simp [ly]⟩
    ·rw [et,abl]
     exact ((hB.same s3).off VS ik).snoc (by rw [au ne3];exact m3) (sW.off VS)
    ·rcases aa2.mp z with z|z
     ·exact ik z
     ·have:=aa1.mp z
      cases this
      exact ne3 rfl
  ·obtain ⟨o1,ys,rfl,sn,mp,hB,ik,ly⟩:=hp
   rw [<- lx,abh] at hB
   have VT:=sn.at M4
   walk_at "w"
   rename_i pd HF sF mF
   exact k pd pl HF ys nE (sn.trans sF) ⟨aR.of mF,(sn.trans sF).at M5,sF _ _ mp,hB.same sF⟩
theorem uZ:aA ["_law_steps_here","_law_tune_here","_law_cell","_law_bars","_law_spot","_law_count","_law_bar","_law_notes","_law_tone","_law_length","_law_k","_law_step","_law_by","_law_at"] ["_law_steps_here","_law_tune_here","_law_cell"] (ak dO):=⟨rfl,rfl,rfl,by decide +kernel,rfl,by decide +kernel,by decide +kernel⟩
structure u5(P:Program)(w:World)(K:Frag)(mg:Str->Option Value)(base:Heap)(G:nU):Prop where
 cC:Ok P w K mg base 1 "_law_mixed" ["_law_cell","_law_k"] (du K)
theorem u6 (D:Def K mg "_law_other" dO ["_law_steps_here","_law_tune_here","_law_cell"]) (T:Txt K mg G) (O:u5 P w K mg base G) (Y:base.NoSeer/\P.given.tree=none):Ok P w K mg base 2 "_law_other" ["_law_steps_here","_law_tune_here","_law_cell"] (iM K):=by
 have S:=uZ
 refine D.ok S (fun vs H Q E h=>?_) (fun f cZ A outer s H vs Q E hr h=>?_)
 ·obtain ⟨_,_,_,_,_,_,_,_,_,_,rfl,_⟩:=h;rfl
 ·obtain ⟨sl,a,m,l,c,mt,ss,xs,bs,rs,rfl,tu,hR,JW,xN,qr,k⟩:=h
  have hu:=bL hr
  have aC:=T.aC
  have ao:=T.ao
  refine⟨_,(ai (ay (i:=3) S.nd rfl (Or.inl rfl) (bV ah)) (ai (ay (i:=4) S.nd rfl (Or.inl rfl) ag) (ai (ay (i:=5) S.nd rfl (Or.inl rfl) (aH (Mp K rfl rfl) rfl T.Q0 boot_sum (aa (bU (N:=["_law_bar"]) (ix:=[none]) rfl (aZ K rfl (aO (aD K rfl) (pv 1) ag (fun _ _=>rfl))) (fun _ _ _ _ _=>(ax (i:=0) (show je ["_law_bar"] by decide +kernel) rfl (Or.inl rfl))) (fun _ _ _ _ _=>rfl) (fun _ _ _ _ _=>(aH (fD K rfl) rfl T.iY PySem.boot_len (aa (pv 0) ah))) rfl (by decide +kernel) (by decide +kernel) rfl True.intro) ah))) (ai (cV PassesOwn.never rfl (aZ K rfl (aO (aD K rfl) (pv 1) ag (fun _ _=>rfl))) (ax (i:=6) S.nd rfl (Or.inl rfl)) (ai (ay (i:=7) S.nd rfl (Or.inl rfl) (bV ah)) (ai (cV PassesOwn.never rfl (aZ K rfl (pv 6)) (cH (n:=2) K rfl rfl (aJ (ax (i:=8) S.nd rfl (Or.inl rfl)) (aJ (ax (i:=9) S.nd rfl (Or.inl rfl)) cE))) (ai (ay (i:=4) S.nd rfl (Or.inl rfl) (av bh (pv 4) ag)) (ai (cP (ba t9 (pv 8) fz (aX _)) (ai (cV PassesOwn.never rfl (pR K rfl false rfl T.jn (aa (pv 0) ah)) (cH (n:=2) K rfl rfl (aJ (ax (i:=10) S.nd rfl (Or.inl rfl)) (aJ (ax (i:=11) S.nd rfl (Or.inl rfl)) cE))) (ai (ay (i:=12) S.nd rfl (Or.inr rfl) (av d3 (av bu (aP O.cC (hr.mono (by decide)) (aa (av bh (pv 2) (pv 4)) (aa (av bh ag (pv 10)) ah))) ag) ag)) (aq (ay (i:=8) S.nd rfl (Or.inl rfl) (cW (gi K rfl) rfl T.fo boot_tuple (aa (bU (N:=["_law_x","_law_y","_law_by"]) (ix:=[none,none,some 12]) rfl (dZ K rfl true false rfl T.jo (aa (pv 8) (aa (pv 11) ah))) (fun _ _ _ _ _=>(cH (n:=2) K rfl rfl (aJ (ax (i:=0) (show je ["_law_x","_law_y","_law_by"] by decide +kernel) rfl (Or.inl rfl)) (aJ (ax (i:=1) (show je ["_law_x","_law_y","_law_by"] by decide +kernel) rfl (Or.inl rfl)) cE)))) (fun _ _ _ _ _=>rfl) (fun _ _ _ _ _=>(av bh (pv 0) (av fC (pv 2) (pv 1)))) rfl (by decide +kernel) (by decide +kernel) rfl ⟨⟨rfl,Or.inr (Or.inl rfl),rfl,rfl⟩,True.intro⟩) ah)))))) (aq (cP (ba jW (av bh (av bu (pv 2) (av fC ag (pv 5))) ag) (pv 4) (aX _)) (ai (ay (i:=13) S.nd rfl (Or.inl rfl) (av bu (av fe (pv 2) ag) ag)) (aq (ay (i:=8) S.nd rfl (Or.inl rfl) (av (wC K rfl) (av (wC K rfl) (hV (pT K rfl) (pv 8) jB (jC (pv 13))) (aV (aa (av bh (aO (aD K rfl) (pv 8) (pv 13) (fun _ _=>rfl)) ag) ah))) (hV (pT K rfl) (pv 8) (jC (av bh (pv 13) ag)) jB))))) bg))) bg) (aq (fb (kX PySem.F.plainAttrs_list PySem.F.slot_list_append PySem.F.type_list_append cB (pv 7) (@aa _ _ _ _ _ (@aV _ _ _ _ _ (aa (pv 8) (aa (pv 9) ah))) ah (by rfl)))))))) (aq (fb (kX PySem.F.plainAttrs_list PySem.F.slot_list_append PySem.F.type_list_append cB (pv 3) (aa (pv 7) ah))))))) (aq (aI (aV (aa (aO (aD K rfl) (pv 1) ag (fun _ _=>rfl)) (aa (pv 3) ah))))))))),?_⟩
  obtain ⟨M4,M5,Ko,Gr⟩:=id tu
  have lx:=Gr.length
  have h3:=qr.cnt
  have lss:=xN.length
  have ze:=hR.2.1
  have lb1:=hR.1
  walk_at "w"
  rename_i pl HE nE sE mE
  have VU:=sE _ _ Ko
  refine EA [] (fun i=>.int ((bs.getD i []).length:Int)) rfl (aW.of VU) (by lia) (fun i x H' Qc hx s kc=>?_) (fun lc HC nC sC mC=>?_)
  ·obtain ⟨a1,zs,oO,rfl,hz,nQ,nP⟩:=((Gr.same sE).same s).get hx
   have e:bs.getD i []=oO:=by rw [List.getD,nP];rfl
   rw [e] at kc
   have lz:=nQ.length
   walk_at "w"
   rw [show (zs.length:Int)=(oO.length:Int) by lia]
   exact kc _ (aj.refl _)
  have mC':HC lc=some (.lst ((bs.map fun ns=>(ns.length:Int)).map V.int)):=by
   rw [mC,<- lx,BP (fun ns:List Nt=>V.int (ns.length:Int)) [] bs,abm]
   rfl
  walk_at "w"
  refine Qw (aW.of mC') ?_
  have zg:1<=(bs.map fun ns=>(ns.length:Int)).sum:=Jb (fun x hx=>by
   obtain ⟨ns,hn,rfl⟩:=aa8.mp hx
   have:=(hR.2.2 ns hn).1
   lia) (by rw [aa4];exact lb1)
  obtain ⟨cnt,T9⟩:∃ z,(bs.map fun ns=>(ns.length:Int)).sum=z:=⟨_,rfl⟩
  rw [T9] at zg ⊢
  have sEC:=sE.trans sC
  have Dr:0<2*cnt:=by lia
  walk_at "w"
  refine gQ (xs:=xs) (fun i σ Hn=>∃ (o6 o7 o8 o9 CQ CS CT CU:Option V) (sp:Int) (ys:List V) (BQ:List (List Nt)),σ=[some (.ref sl),some (.ref a),some (.int c),some (.ref pl),some (.int sp),some (.int cnt),o6,o7,o8,o9,CQ,CS,CT,CU]/\aj H Hn/\Hn pl=some (.lst ys)/\cb K Hn ys BQ/\(V.ref pl∉ys)/\BQ.length=i/\(∀ ns∈BQ,1<=ns.length/\ns.length<=12/\∀ n∈ns,∀ r,n.1=some r->kl 800 r)) ⟨_,_,_,_,_,_,_,_,_,[],[],rfl,sEC,sC _ _ mE,.nil,(fun z=>nomatch z),rfl,(fun _ z=>nomatch z)⟩ (fun i σ Hn hp=>by obtain ⟨_,_,_,_,_,_,_,_,_,_,_,rfl,sn,_⟩:=hp;exact aW.of (sn _ _ Ko)) (fun i x σ Hn hx hp=>?_) (fun σ Hn hp=>?_)
  ·obtain ⟨o6,o7,o8,o9,CQ,CS,CT,CU,sp,ys,BQ,rfl,sn,mp,hB,ik,lb',rp⟩:=hp
   have hi:i<xs.length:=(aaG.mp hx).1
   obtain ⟨a1,D8,oO,rfl,hz,nQ,nP⟩:=(Gr.same sn).get hx
   have AS:oO∈bs:=aa3 nP
   have BZ:=hR.2.2 oO AS
   have lz:=nQ.length
   have N2:=BZ.2.1
   have lB:=hB.length
   walk_at "w"
   rename_i p2 H2 n2 s2 m2
   have ne2:p2≠pl:=fun z=>by rw [z,mp] at n2;cases n2
   refine gQ (xs:=D8) (fun i' σ Hm=>∃ (o8 o9 CQ CS CT CU:Option V) (sp:Int) (ws:List V) (Ft:List Nt),σ=[some (.ref sl),some (.ref a),some (.int c),some (.ref pl),some (.int sp),some (.int cnt),some (.ref a1),some (.ref p2),o8,o9,CQ,CS,CT,CU]/\aj Hn Hm/\Hm p2=some (.lst ws)/\bc K Hm ws Ft/\Ft.length=i'/\∀ n∈Ft,∀ r,n.1=some r->kl 800 r) ⟨_,_,_,_,_,_,_,[],[],rfl,s2,m2,.nil,rfl,(fun _ z=>nomatch z)⟩ (fun i' σ Hm hp=>by obtain ⟨_,_,_,_,_,_,_,_,_,rfl,sm,_⟩:=hp;exact aW.of (sm _ _ hz)) (fun i' x σ Hm qX hp=>?_) (fun σ Hm hp=>?_)
   ·obtain ⟨o8,o9,CQ,CS,CT,CU,sp,ws,Ft,rfl,sm,mw,hN,ln2,Rh⟩:=hp
    have CN:i'<D8.length:=(aaG.mp qX).1
    obtain ⟨n,me,uV⟩:=(nQ.same sm).get qX
    have Kl:n∈oO:=aa3 uV
    have mh:=BZ.2.2 n Kl
    obtain ⟨an,tn,ln,rfl,wO,vB,CP⟩:=me
    obtain ⟨Gm,nt,nb⟩:=n
    have lN:=hN.length
    refine oM wO ?_
    have fin:∀ (CQ CS CT CU:Option V) (v:V) (o:Option (List Int)) (H7:Hp),aj Hm H7->eJ K H7 v o->(∀ r,o=some r->kl 800 r)->True:=fun _ _ _ _ _ _ _ _ _ _=>trivial
    cases Gm with
    | none =>
     obtain rfl:tn=.dB:=vB
     walk_at "w"
     refine⟨rfl,?_⟩
     walk_at "w"
     refine dE rfl ?_
     walk_at "w"
     rename_i p7 H7 s7 m7
     have e7:=s7 _ _ mw
     refine dy e7 (by lia) ?_
     walk_at "w"
     refine⟨_,_,_,_,_,_,_,ws++[.ref p7],Ft++[(none,nt,nb)],rfl,(sm.trans s7).cR n2,aw,((hN.same s7).off e7).snoc (n:=(none,nt,nb)) (bQ.off ⟨p7,.dB,ln,rfl,aR.of m7,rfl,s7.at CP⟩ e7),by simp [ln2],fun q hq r hr=>?_⟩
     rcases aa2.mp hq with z|z
     ·exact Rh q z r hr
     ·rw [aa1.mp z] at hr
      cases hr
    | some r =>
     obtain ⟨ar,rfl,Gp,l5⟩:=vB
     have M6:=mh r rfl
     walk_at "w"
     refine⟨rfl,?_⟩
     walk_at "w"
     refine gJ rfl ?_
     have sT:=sn.trans sm
     walk_at "w"
     refine EH (k:=false) (xs:=ss) (fun i2 σ Hk=>∃ (CQ CS CT CU:Option V) (q:Addr) (r':List Int),σ=[some (.ref sl),some (.ref a),some (.int c),some (.ref pl),some (.int (sp+1)),some (.int cnt),some (.ref a1),some (.ref p2),some (.ref q),some (.ref ln),CQ,CS,CT,CU]/\aj Hm Hk/\aR K Hk q (r'.map V.int)/\kl (700+6*i2) r') ⟨_,_,_,_,ar,r,rfl,aj.refl _,Gp,M6.1,fun x hx=>by have:=M6.2 x hx;lia⟩ (fun i2 σ Hk hp=>by obtain ⟨_,_,_,_,_,_,rfl,sk,_⟩:=hp;exact d9 (aW.of ((sT.trans sk) _ _ JW))) (fun i2 x σ Hk Hk' CM hp VV=>?_) (fun σ Hk hp=>?_)
     ·obtain ⟨CQ,CS,CT,CU,q,r',rfl,sk,hq,Gs⟩:=hp
      have nM:i2<ss.length:=(aaG.mp CM).1
      obtain ⟨as,s,rfl,hs,N3⟩:=(xN.same (sT.trans (sk.trans VV))).get CM
      have xr:=aa3 N3
      have ls:=qr.len s xr
      have ED:=qr.sm s xr
      have K1:=VV.at hq
      walk_at "w"
      refine df (by lia) fun mm g1 g2=>?_
      walk_at "w"
      obtain ⟨bb,CO,M1⟩:∃ bb,mm % 5 - 2=bb/\(-2<=bb/\bb<=2):=⟨_,rfl,by lia⟩
      rw [CO]
      obtain ⟨u0,u1,u2,u3,u4,rfl⟩:=dh Gs.1
      obtain ⟨w0,w1,w2,w3,w4,rfl⟩:=dh ls
      refine gd (k1:=true) (k2:=false) [some (.int bb)] (fun n=>.int (([u0,u1,u2,u3,u4]:List Int).getD n 0+bb*([w0,w1,w2,w3,w4]:List Int).getD n 0)) rfl (gh K1) (d9 (aW.of hs)) rfl (by show 5<=1000000;decide) (fun n x y H' Qc hx hy s kc=>?_) (fun l5 H5 n5 s5 m5=>?_)
      ·obtain ⟨rfl,_⟩:=bY (r:=[u0,u1,u2,u3,u4]) hx
       obtain ⟨rfl,hn⟩:=bY (r:=[w0,w1,w2,w3,w4]) hy
       walk_at "w"
       exact kc _ (aj.refl _)
      walk_at "w"
      rename_i p6 H6 s6 m6
      refine⟨_,_,_,_,p6,[u0+bb*w0,u1+bb*w1,u2+bb*w2,u3+bb*w3,u4+bb*w4],rfl,((sk.trans VV).trans s5).trans s6,aR.of m6,rfl,fun x hx=>?_⟩
      have fn:∀ a b,a∈[u0,u1,u2,u3,u4]->b∈[w0,w1,w2,w3,w4]->-(700+6*((i2+1:Nat):Int))<=a+bb*b/\a+bb*b<=700+6*((i2+1:Nat):Int):=fun a b VE VF=>by
       have z1:=Gs.2 a VE
       have z2:=QZ (B:=2) M1 (ED b VF)
       lia
      simp only [aa7,not_mem_nil,or_false] at hx
      rcases hx with rfl|rfl|rfl|rfl|rfl <;> exact fn _ _ (by simp) (by simp)
     ·obtain ⟨CQ,CS,CT,CU,q,r',rfl,sk,hq,Gs⟩:=hp
      have Gs:kl 718 r':=⟨Gs.1,fun x hx=>by have:=Gs.2 x hx;lia⟩
      walk_at "w"
      refine cT (fun h1=>?_) (fun h1=>?_)
      ·obtain ⟨u0,u1,u2,u3,u4,rfl⟩:=dh Gs.1
       obtain ⟨j5,hj5,Ri⟩:∃ j:Nat,c / 24 % 5=(j:Int)/\j<5:=⟨(c / 24 % 5).toNat,by lia,by lia⟩
       walk_at "w"
       rw [hj5]
       refine EI hq fun p5 H5 s5 m5=>?_
       rw [MP] at m5
       walk_at "w"
       refine iW (s5.at hq) (bF (int_at (r:=[u0,u1,u2,u3,u4]) Ri)) ?_
       walk_at "w"
       rename_i p6 H6 s6 m6
       refine Er (s6.at m5) (aR.of m6) (by rw [abi];show min j5 5+1<=1000;lia) fun p9 H9 s9 m9=>?_
       have sq9:=(s5.trans s6).trans s9
       have hq9:=sq9.at hq
       walk_at "w"
       refine EI hq9 fun pA HA sA mA=>?_
       rw [MQ (n:=5) rfl] at mA
       refine Er (sA.at m9) mA (by rw [aa5,abi,length_drop];show min j5 5+1+(5 - (j5+1))<=1000;lia) fun pB HB sB mB=>?_
       obtain ⟨r2,er2,Rj⟩:=bump Ri Gs
       rw [er2] at mB
       have Q9:=mB
       have s7:=sk.trans ((sq9.trans sA).trans sB)
       have VW:=s7 _ _ mw
       walk_at "w"
       rename_i p8 H8 s8 m8
       have xQ:=s7.trans s8
       have e8:=s8 _ _ VW
       refine dy e8 (by lia) ?_
       walk_at "w"
       refine⟨_,_,_,_,_,_,_,ws++[.ref p8],Ft++[(some r2,nt,nb)],rfl,(sm.trans xQ).cR n2,aw,((hN.same xQ).off e8).snoc (n:=(some r2,nt,nb)) (bQ.off ⟨p8,.ref pB,ln,rfl,aR.of m8,⟨pB,rfl,s8.at Q9,Rj.1⟩,xQ.at CP⟩ e8),by simp [ln2],fun z hz r0 AO=>?_⟩
       rcases aa2.mp hz with y|y
       ·exact Rh z y r0 AO
       ·rw [aa1.mp y] at AO
        cases AO
        exact Rj
      ·have Q9:=hq
       have s7:=sk
       have Rj:kl 800 r':=⟨Gs.1,fun x hx=>by have:=Gs.2 x hx;lia⟩
       have VW:=s7 _ _ mw
       walk_at "w"
       rename_i p8 H8 s8 m8
       have xQ:=s7.trans s8
       have e8:=s8 _ _ VW
       refine dy e8 (by lia) ?_
       walk_at "w"
       refine⟨_,_,_,_,_,_,_,ws++[.ref p8],Ft++[(some r',nt,nb)],rfl,(sm.trans xQ).cR n2,aw,((hN.same xQ).off e8).snoc (n:=(some r',nt,nb)) (bQ.off ⟨p8,.ref q,ln,rfl,aR.of m8,⟨q,rfl,s8.at Q9,Rj.1⟩,xQ.at CP⟩ e8),by simp [ln2],fun z hz r0 AO=>?_⟩
       rcases aa2.mp hz with y|y
       ·exact Rh z y r0 AO
       ·rw [aa1.mp y] at AO
        cases AO
        exact Rj
   ·obtain ⟨o8,o9,CQ,CS,CT,CU,sp,ws,Ft,rfl,sm,mw,hN,ln2,Rh⟩:=hp
    have e1:=sm _ _ mp
    walk_at "w"
    refine dy e1 (by lia) ?_
    walk_at "w"
    refine⟨_,_,_,_,_,_,_,_,_,ys++[.ref p2],BQ++[Ft],rfl,(sn.trans sm).cR nE,aw,((hB.same sm).off e1 ik).snoc (by rw [au ne2];exact mw) (hN.off e1),fun z=>?_,by simp [lb'],fun q hq=>?_⟩
    ·rcases aa2.mp z with z|z
     ·exact ik z
     ·have:=aa1.mp z
      cases this
      exact ne2 rfl
    ·rcases aa2.mp hq with z|z
     ·exact rp q z
     ·rw [aa1.mp z]
      exact⟨by have:=BZ.1;lia,by lia,Rh⟩
  ·obtain ⟨o6,o7,o8,o9,CQ,CS,CT,CU,sp,ys,BQ,rfl,sn,mp,hB,ik,lb',rp⟩:=hp
   have VT:=sn.at M4
   walk_at "w"
   rename_i pd HF sF mF
   exact k pd pl HF ys BQ nE (sn.trans sF) ⟨aR.of mF,(sn.trans sF).at M5,sF _ _ mp,hB.same sF⟩ ⟨by lia,by lia,rp⟩
theorem zh:aA ["thing"] ["thing"] (ak eQ):=⟨rfl,rfl,rfl,by decide +kernel,rfl,by decide +kernel,by decide +kernel⟩
structure zi(P:Program)(w:World)(K:Frag)(mg:Str->Option Value)(base:Heap)(G:nU):Prop where
 M7:Ok P w K mg base 2 "is_row" ["thing"] (mR K)
theorem zk (D:Def K mg "is_tone" eQ ["thing"]) (T:Txt K mg G) (O:zi P w K mg base G) (Y:base.NoSeer/\P.given.tree=none):Ok P w K mg base 3 "is_tone" ["thing"] (km K):=by
 have S:=zh
 refine D.ok S (fun vs H Q E h=>?_) (fun f cZ A outer s H vs Q E hr h=>?_)
 ·obtain ⟨_,rfl,_⟩:=h;rfl
 ·obtain ⟨v,rfl,h⟩:=h
  have hu:=bL hr
  have aC:=T.aC
  have ao:=T.ao
  refine⟨_,(ai (cP (eM (dG (aP O.M7 (hr.mono (by decide)) (aa (pv 0) ah)))) (aq (aI fW)) bg) (aq (aI (aH (Eo K rfl rfl) rfl T.Kh boot_all (aa (bU (N:=["number","bound"]) (ix:=[none,none]) rfl (dZ K rfl true true rfl T.jo (aa (pv 0) (aa (iw (v:=V.ref G.qg) rfl T.Ff rfl) ah))) (fun _ _ _ _ _=>(cH (n:=2) K rfl rfl (aJ (ax (i:=0) (show je ["number","bound"] by decide +kernel) rfl (Or.inl rfl)) (aJ (ax (i:=1) (show je ["number","bound"] by decide +kernel) rfl (Or.inl rfl)) cE)))) (fun _ _ _ _ _=>rfl) (fun _ _ _ _ _=>(gG OG (aH mI rfl T.Fb boot_abs (aa (pv 0) ah)) (pv 1) (aX _))) rfl (by decide +kernel) (by decide +kernel) rfl True.intro) ah))))),?_⟩
  rcases h with ⟨a,x0,x1,x2,x3,x4,rfl,hs,k⟩|⟨ho,k⟩
  ·walk_at "w"
   refine qj (.inl ⟨a,_,rfl,hs,(by show 5<=1000;decide),fun x hx=>?_,fun H1 s1=>?_⟩)
   ·simp only [aa7,not_mem_nil,or_false] at hx
    rcases hx with rfl|rfl|rfl|rfl|rfl <;> exact .inl ⟨_,rfl⟩
   walk_at "w"
   refine DI ?_
   walk_at "w"
   refine gd (k1:=true) (k2:=true) [] (fun i=>.bl (decide ((if ([x0,x1,x2,x3,x4]:List Int).getD i 0<0 then -([x0,x1,x2,x3,x4]:List Int).getD i 0 else ([x0,x1,x2,x3,x4]:List Int).getD i 0)<=([700,60,60,60,60]:List Int).getD i 0))) rfl (by walk_at "hf") (by walk_at "hf") (by rfl) (by show 5<=1000000;decide) (fun i x y H' Qc ex ey hs kc=>?_) (fun l H2 hl s2 m2=>?_)
   ·have hi:i<5:=(aaG.mp ex).1
    match i,hi with
    | 0,_|1,_|2,_|3,_|4,_ =>
     cases ex
     cases ey
     walk_at "w"
     exact kc _ (aj.refl _)
   walk_at "w"
   refine JZ (bs:=[decide ((if x0<0 then -x0 else x0)<=700),decide ((if x1<0 then -x1 else x1)<=60),decide ((if x2<0 then -x2 else x2)<=60),decide ((if x3<0 then -x3 else x3)<=60),decide ((if x4<0 then -x4 else x4)<=60)]) (aW.of m2) ?_
   walk_at "w"
   exact k _ (by walk_at "sm")
  ·rcases ho with ⟨a,xs,rfl,hs,hl,hk,hf⟩|hn
   ·walk_at "w"
    refine qj (.inl ⟨a,xs,rfl,hs,hl,hk,fun H1 s1=>?_⟩)
    rw [hf]
    walk_at "w"
    refine jM ?_
    walk_at "w"
    exact k _ s1
   ·walk_at "w"
    refine qj (.inr ⟨hn,?_⟩)
    walk_at "w"
    refine jM ?_
    walk_at "w"
    exact k _ (aj.refl _)
theorem xt:aA ["_law_script","_law_at","_law_bars","_law_total","_law_bottom","_law_form","_law_most","_law_k","_law_cell","_law_notes","_law_j","_law_piece"] ["_law_script","_law_at"] (ak ee):=⟨rfl,rfl,rfl,by decide +kernel,rfl,by decide +kernel,by decide +kernel⟩
structure xu(P:Program)(w:World)(K:Frag)(mg:Str->Option Value)(base:Heap)(G:nU):Prop where
 bB:Ok P w K mg base 1 "_law_cell_at" ["_law_script","_law_k"] (dP K)
 qu:Ok P w K mg base 1 "_law_lowest" ["_law_top","_law_bottom"] (gS K)
 cC:Ok P w K mg base 1 "_law_mixed" ["_law_cell","_law_k"] (du K)
 u7:Ok P w K mg base 1 "_law_name_row" ["_law_mixed_here"] (fF K)
 zl:Ok P w K mg base 2 "_law_pieces" ["_law_cell","_law_count","_law_total"] (gT K)
theorem xv (D:Def K mg "_law_tune" ee ["_law_script","_law_at"]) (T:Txt K mg G) (O:xu P w K mg base G) (Y:base.NoSeer/\P.given.tree=none):Ok P w K mg base 3 "_law_tune" ["_law_script","_law_at"] (jr K):=by
 have S:=xt
 refine D.ok S (fun vs H Q E h=>?_) (fun f cZ A outer s H vs Q E hr h=>?_)
 ·obtain ⟨_,_,_,rfl,_⟩:=h;rfl
 ·obtain ⟨a,ns,j,rfl,ha,Us,Vs,k⟩:=h
  have hu:=bL hr
  have aC:=T.aC
  have ao:=T.ao
  refine⟨_,(@ai _ _ _ _ _ (ay (i:=2) S.nd rfl (Or.inl rfl) (bV ah)) (@ai _ _ _ _ _ (ay (i:=3) S.nd rfl (Or.inl rfl) (av bh ag (av bu (aP O.bB (hr.mono (by decide)) (aa (pv 0) (aa (pv 1) ah))) ag))) (@ai _ _ _ _ _ (ay (i:=4) S.nd rfl (Or.inl rfl) (av bh ag (av bu (av fe (aP O.bB (hr.mono (by decide)) (aa (pv 0) (aa (pv 1) ah))) ag) ag))) (@ai _ _ _ _ _ (ay (i:=5) S.nd rfl (Or.inl rfl) (aP O.cC (hr.mono (by decide)) (aa (aP O.bB (hr.mono (by decide)) (aa (pv 0) (aa (pv 1) ah))) (aa ag ah)))) (@ai _ _ _ _ _ (ay (i:=6) S.nd rfl (Or.inl rfl) (aV (aa ag (aa ag ah)))) (@ai _ _ _ _ _ (cP (ba sJ (av bu (pv 5) ag) ag (aX _)) (@aq _ _ _ (@ay _ _ 6 _ _ _ _ S.nd rfl (Or.inl rfl) (aO (aD K rfl) (@bV _ _ _ _ (@aa _ _ _ _ _ (@aV _ _ _ _ _ (aa ag (aa ag ah))) (@aa _ _ _ _ _ (@aV _ _ _ _ _ (aa ag (aa ag ah))) ah (by rfl)) (by rfl))) (av bu (pv 5) ag) (fun _ _=>rfl)) (by rfl) (by first|exact .inl rfl|exact .inr rfl|assumption))) bg) (ai (cV PassesOwn.never rfl (eN rfl T.gM (aa (av bh ag (av bu (av fe (pv 5) ag) (aO (aD K rfl) (pv 6) ag (fun _ _=>rfl)))) ah)) (ax (i:=7) S.nd rfl (Or.inl rfl)) (ai (ay (i:=8) S.nd rfl (Or.inl rfl) (av bh (aP O.bB (hr.mono (by decide)) (aa (pv 0) (aa (av bh (av bh (pv 1) ag) (pv 7)) ah))) (pv 7))) (ai (ay (i:=9) S.nd rfl (Or.inl rfl) (bV ah)) (ai (cV PassesOwn.never rfl (pR K rfl false rfl T.jn (aa (aP O.zl (hr.mono (by decide)) (aa (pv 8) (aa (av bh ag (av bu (aP O.cC (hr.mono (by decide)) (aa (pv 8) (aa ag ah))) (aO (aD K rfl) (pv 6) ag (fun _ _=>rfl)))) (aa (pv 3) ah)))) ah)) (cH (n:=2) K rfl rfl (aJ (ax (i:=10) S.nd rfl (Or.inl rfl)) (aJ (ax (i:=11) S.nd rfl (Or.inl rfl)) cE))) (aq (fb (kX PySem.F.plainAttrs_list PySem.F.slot_list_append PySem.F.type_list_append cB (pv 9) (@aa _ _ _ _ _ (@aV _ _ _ _ _ (aa (aO (aD K rfl) (aP O.u7 (hr.mono (by decide)) (aa (aP O.cC (hr.mono (by decide)) (aa (pv 8) (aa (pv 10) ah))) ah)) ag (fun _ _=>rfl)) (aa (aP O.qu (hr.mono (by decide)) (aa (pv 11) (aa (pv 4) ah))) ah))) ah (by rfl)))))) (aq (fb (kX PySem.F.plainAttrs_list PySem.F.slot_list_append PySem.F.type_list_append cB (pv 2) (aa (pv 9) ah)))))))) (aq (aI (aV (aa (aP O.qu (hr.mono (by decide)) (aa (pv 3) (aa (pv 4) ah))) (aa (pv 2) ah)))))))))))),?_⟩
  walk_at "w"
  rename_i p1 H1 n1 s1 m1
  refine df (by lia) fun fm f1 f2=>?_
  have MY:=s1.seq ha
  obtain ⟨tt,UH,bt0,bt1⟩:∃ t:Nat,12+ns.getD j.toNat 0 % 10=(t:Int)/\12<=t/\t<=21:=⟨(12+ns.getD j.toNat 0 % 10).toNat,by lia,by lia,by lia⟩
  obtain ⟨bb,CO,bb0,N5⟩:∃ t:Nat,1+ns.getD j.toNat 0 / 10 % 16=(t:Int)/\1<=t/\t<=16:=⟨(1+ns.getD j.toNat 0 / 10 % 16).toNat,by lia,by lia,by lia⟩
  rw [UH,CO]
  clear UH CO
  walk_at "j"
  rename_i p2 H2 s2 m2
  refine join (fun σ' H'=>∃ (q:Addr) (u v:Nat),σ'=[some (.ref a),some (.int j),some (.ref p1),some (.int (tt:Int)),some (.int (bb:Int)),some (.int fm),some (.ref q),none,none,none,none,none]/\aj H1 H'/\aR K H' q [.int (u:Int),.int (v:Int)]/\(1<=u/\u<=12)/\(1<=v/\v<=12)) (fun nx xk=>?_) (fun σ' H' hp=>?_)
  ·walk_at "w"
   refine cT (fun h1=>?_) (fun h1=>?_)
   ·walk_at "w"
    rename_i p3 H3 s3 m3 p4 H4 s4 m4 p5 H5 n5 s5 m5
    rcases (show fm % 2=0\/fm % 2=1 by lia) with h2|h2
    ·rw [h2]
     refine fN (aW.of m5) (bF (j:=0) rfl) ?_
     walk_at "w"
     exact xk _ _ ⟨p3,6,2,rfl,((s2.trans s3).trans s4).trans s5,aR.of (s5 _ _ (s4 _ _ m3)),by decide,by decide⟩
    ·rw [h2]
     refine fN (aW.of m5) (bF (j:=1) rfl) ?_
     walk_at "w"
     exact xk _ _ ⟨p4,2,6,rfl,((s2.trans s3).trans s4).trans s5,aR.of (s5 _ _ m4),by decide,by decide⟩
   ·walk_at "w"
    exact xk _ _ ⟨p2,2,2,rfl,s2,aR.of m2,by decide,by decide⟩
  ·obtain ⟨q,u,v,rfl,s3,hq,hub,Gq⟩:=hp
   have VA:(0:Int)<(u:Int):=by lia
   have VL:(0:Int)<(v:Int):=by lia
   walk_at "w"
   have z1:=emod_nonneg (fm / 8) (show (u:Int)≠0 by lia)
   have z2:=emod_lt_of_pos (fm / 8) VA
   obtain ⟨N,hN,N0,N1⟩:∃ N:Nat,1+fm / 8 % (u:Int)=(N:Int)/\1<=N/\N<=12:=⟨(1+fm / 8 % (u:Int)).toNat,by lia,by lia,by lia⟩
   rw [hN]
   clear hN z1 z2
   refine JU (by lia) (by lia) ?_
   have sA:=s1.trans s3
   refine uB (fun i σ Hn=>∃ (o1 o2 o3 o4 o5:Option V) (ys:List V) (bs:List (List Nt)),σ=[some (.ref a),some (.int j),some (.ref p1),some (.int (tt:Int)),some (.int (bb:Int)),some (.int fm),some (.ref q),o1,o2,o3,o4,o5]/\aj H Hn/\aR K Hn q [.int (u:Int),.int (v:Int)]/\Hn p1=some (.lst ys)/\cb K Hn ys bs/\(V.ref p1∉ys)/\bs.length=i/\(∀ ns∈bs,1<=ns.length/\ns.length<=12/\∀ n∈ns,MS n.1/\wX n.2)) ⟨_,_,_,_,_,[],[],rfl,sA,hq,s3 _ _ m1,.nil,(fun z=>nomatch z),rfl,(fun _ z=>nomatch z)⟩ (fun i σ Hn hi hp=>?_) (fun σ Hn hp=>?_)
   ·obtain ⟨o1,o2,o3,o4,o5,ys,bs,rfl,sn,VX,mp,hB,ik,lb,aN⟩:=hp
    have han:=sn.seq ha
    have CN:i<12:=by lia
    walk_at "w"
    rename_i p5 H5 n5 s5 m5
    have hq5:=s5.at VX
    refine df (by lia) fun mm g1 g2=>?_
    walk_at "w"
    have z1:=emod_nonneg mm (show (v:Int)≠0 by lia)
    have z2:=emod_lt_of_pos mm VL
    obtain ⟨C,hC,C0,C1⟩:∃ C:Nat,1+mm % (v:Int)=(C:Int)/\1<=C/\C<=12:=⟨(1+mm % (v:Int)).toNat,by lia,by lia,by lia⟩
    rw [hC]
    refine uR ⟨C0,C1,by lia,by lia⟩ fun l6 H6 ps n6 s6 m6 lps hps Ra=>?_
    have Rk:p5≠p1:=fun z=>by rw [z,mp] at n5;cases n5
    walk_at "w"
    refine EH (k:=false) (xs:=ps.map V.int) (fun i' σ Hm=>∃ (o4 o5:Option V) (cv:Int) (ws:List V) (oO:List Nt),σ=[some (.ref a),some (.int j),some (.ref p1),some (.int (tt:Int)),some (.int (bb:Int)),some (.int fm),some (.ref q),some (.int (0+(i:Int))),some (.int cv),some (.ref p5),o4,o5]/\aj Hn Hm/\Hm l6=some (.lst (ps.map V.int))/\Hm p5=some (.lst ws)/\bc K Hm ws oO/\oO.length=i'/\∀ n∈oO,MS n.1/\wX n.2) ⟨_,_,_,[],[],rfl,s5.trans s6,m6,s6 _ _ m5,.nil,rfl,(fun _ z=>nomatch z)⟩ (fun i' σ Hm hp=>by obtain ⟨_,_,_,_,_,rfl,_,S8,_⟩:=hp;exact d9 (aW.of S8)) (fun i' x σ Hm Hm' hx hp sm'=>?_) (fun σ Hm hp=>?_)
    ·obtain ⟨o4,o5,cv,ws,oO,rfl,sm,S8,mw,hN,lw,rp⟩:=hp
     obtain ⟨rfl,nM⟩:=bY hx
     have S7:=hps _ (show ps.getD i' 0∈ps by rw [List.getD,aaY nM];exact abw _)
     obtain ⟨pp,S4,pp0,pp1⟩:∃ pp:Nat,ps.getD i' 0=(pp:Int)/\1<=pp/\pp<=21:=⟨(ps.getD i' 0).toNat,by lia,by lia,by lia⟩
     rw [S4]
     walk_at "w"
     refine df (by lia) fun m7 g3 g4=>?_
     walk_at "w"
     refine ql (by lia) fun p8 H8 z8 v8 o8 s8 m8 t8 nm8=>?_
     walk_at "w"
     refine lX (by lia) (abb N5 (by decide +kernel)) fun p9 H9 s9 m9=>?_
     walk_at "w"
     rename_i pA HA VY mA
     have sZ:=((sm'.trans s8).trans s9).trans VY
     have e9:=sZ _ _ mw
     have lN:=hN.length
     rw [lps] at nM
     have V0:l6≠p5:=fun z=>by
      have:=s5.trans s6
      rw [z,m5] at n6
      cases n6
     refine dy e9 (by lia) ?_
     walk_at "w"
     refine⟨_,_,_,ws++[.ref pA],oO++[(o8,((pp / Nat.gcd pp bb:Nat):Int),((bb / Nat.gcd pp bb:Nat):Int))],rfl,(sm.trans sZ).cR n5,by rw [au V0];exact sZ _ _ S8,aw,?_,by simp [lw],fun n hn=>?_⟩
     ·exact ((hN.same sZ).off e9).snoc (n:=(o8,((pp / Nat.gcd pp bb:Nat):Int),((bb / Nat.gcd pp bb:Nat):Int))) (bQ.off ⟨pA,v8,p9,rfl,aR.of mA,t8.same (s9.trans VY),VY.at (aR.of m9)⟩ e9)
     ·rcases aa2.mp hn with z|z
      ·exact rp n z
      ·rw [aa1.mp z]
       exact⟨nm8.sm,AK (by lia) (by lia)⟩
    ·obtain ⟨o4,o5,cv,ws,oO,rfl,sm,S8,mw,hN,lw,rp⟩:=hp
     have e1:=sm _ _ mp
     have lN:=hN.length
     have lB:=hB.length
     rw [aa4,lps] at lw
     walk_at "w"
     refine dy e1 (by lia) ?_
     walk_at "w"
     refine⟨_,_,_,_,_,ys++[.ref p5],bs++[oO],rfl,(sn.trans sm).cR n1,?_,aw,?_,fun z=>?_,by simp [lb],fun Ft vB=>?_⟩
     ·exact jH (sm.at VX) e1
     ·exact ((hB.same sm).off e1 ik).snoc (by rw [au Rk];exact mw) (hN.off e1)
     ·rcases aa2.mp z with z|z
      ·exact ik z
      ·have:=aa1.mp z
       cases this
       exact Rk rfl
     ·rcases aa2.mp vB with z|z
      ·exact aN Ft z
      ·rw [aa1.mp z]
       exact⟨by lia,by lia,rp⟩
   ·obtain ⟨o1,o2,o3,o4,o5,ys,bs,rfl,sn,VX,mp,hB,ik,lb,aN⟩:=hp
    walk_at "w"
    refine lX (by lia) (abb N5 (by decide +kernel)) fun p7 H7 s7 m7=>?_
    walk_at "w"
    rename_i p8 H8 s8 m8
    have sB:=s7.trans s8
    exact k p8 p7 p1 H8 (_,_) ys bs (sn.trans sB) ⟨aR.of m8,s8.at (aR.of m7),sB _ _ mp,hB.same sB⟩ ⟨by lia,by lia,aN,AK (by lia) (by lia)⟩
theorem zm:aA ["row"] ["row"] (ak eR):=⟨rfl,rfl,rfl,by decide +kernel,rfl,by decide +kernel,by decide +kernel⟩
structure zo(P:Program)(w:World)(K:Frag)(mg:Str->Option Value)(base:Heap)(G:nU):Prop where
 Jh:Ok P w K mg base 3 "is_tone" ["thing"] (km K)
theorem zp (D:Def K mg "tone_of" eR ["row"]) (T:Txt K mg G) (O:zo P w K mg base G) (Y:base.NoSeer/\P.given.tree=none):tw P w K mg base 4 "tone_of" ["row"] (iI K):=by
 have S:=zm
 refine D.Qj S (fun vs H Q E h=>?_) (fun f cZ A outer s H vs Q E hr h=>?_)
 ·obtain ⟨_,_,_,_,_,_,rfl,_⟩:=h;rfl
 ·obtain ⟨a,x0,x1,x2,x3,x4,rfl,ha,ke,kq⟩:=h
  have hu:=bL hr
  have aC:=T.aC
  have ao:=T.ao
  refine⟨_,(ai (cP (eM (dG (aP O.Jh (hr.mono (by decide)) (aa (pv 0) ah)))) (aq (Eh T.Fg PySem.F.excBase_ValueError (by decide +kernel) PySem.F.excBase_ValueError rfl (fun _ _ z=>z) rfl rfl T.xa (aa ir ah))) bg) (aq (aI (pv 0)))),?_⟩
  walk_at "w"
  refine yX (by walk_at "hf") fun H1 s1=>?_
  walk_at "w"
  refine cT (fun h1=>?_) (fun h1=>?_)
  ·walk_at "w"
   exact⟨by decide,ke (by simpa using h1) _ _ T.xb (by walk_at "sm")⟩
  walk_at "w"
  exact kq (by simpa using h1) _ (by walk_at "sm")
theorem u9:aA ["_law_found","_law_due","_law_one","_law_other_here"] ["_law_found","_law_due"] (ak dM):=⟨rfl,rfl,rfl,by decide +kernel,rfl,by decide +kernel,by decide +kernel⟩
theorem va (D:Def K mg "_law_alike" dM ["_law_found","_law_due"]) (T:Txt K mg G) (Y:base.NoSeer/\P.given.tree=none):∀ n:Nat,Ok P w K mg base (0+n+1) "_law_alike" ["_law_found","_law_due"] (fT K n):=by
 have S:=u9
 intro n
 induction n with
 | zero=>exact D.ok S (fun vs H Q E h=>absurd h (jZ K)) (fun f cZ A outer s H vs Q E hr h=>absurd h (jZ K))
 | succ n ih =>
 refine D.ok (k:=0+n+1) S (fun vs H Q E h=>?_) (fun f cZ A outer s H vs Q E hr h=>?_)
 ·obtain ⟨_,_,rfl,_⟩:=h;rfl
 ·obtain ⟨x,y,rfl,hA,k⟩:=h
  have hu:=bL hr
  have aC:=T.aC
  have ao:=T.ao
  refine⟨_,(ai (cP (PW.pt (vJ (ba oZ (pv 1) fz (aX _)) (oW (dG (aH (ck K rfl) rfl T.aS boot_isinstance (aa (pv 1) (aa (dC (v:=V.ty "str") rfl T.Fe boot_str rfl) ah))))))) (aq (aI (Ot (jg (gG oZ (pv 1) fz (aX _)) (j6 (gG oZ (pv 0) fz (aX _)))) (j6 (jg (aH (ck K rfl) rfl T.aS boot_isinstance (aa (pv 0) (aa (dC (v:=V.ty "str") rfl T.Fe boot_str rfl) ah))) (j6 (gG jW (pv 0) (pv 1) (aX _)))))))) bg) (ai (cP (dG (aH (ck K rfl) rfl T.aS boot_isinstance (aa (pv 1) (aa (dC (v:=V.ty "int") rfl T.Fc boot_int rfl) ah)))) (aq (aI (jg (aH (ck K rfl) rfl T.aS boot_isinstance (aa (pv 0) (aa (dC (v:=V.ty "int") rfl T.Fc boot_int rfl) ah))) (jg (xT (aH (ck K rfl) rfl T.aS boot_isinstance (aa (pv 0) (aa (dC (v:=V.ty "bool") rfl T.yT boot_bool rfl) ah)))) (j6 (gG jW (pv 0) (pv 1) (aX _))))))) bg) (ai (cP (PW.pt (vJ (PW.pt (xS (dG (aH (ck K rfl) rfl T.aS boot_isinstance (aa (pv 1) (aa (dC (v:=V.ty "tuple") rfl T.fo boot_tuple rfl) ah)))) (t5 (eM (dG (aH (ck K rfl) rfl T.aS boot_isinstance (aa (pv 0) (aa (dC (v:=V.ty "tuple") rfl T.fo boot_tuple rfl) ah)))))))) (oW (PW.pt (xS (dG (aH (ck K rfl) rfl T.aS boot_isinstance (aa (pv 1) (aa (dC (v:=V.ty "list") rfl T.qh boot_list rfl) ah)))) (t5 (eM (dG (aH (ck K rfl) rfl T.aS boot_isinstance (aa (pv 0) (aa (dC (v:=V.ty "list") rfl T.qh boot_list rfl) ah))))))))))) (aq (aI fW)) bg) (ai (cP (ba oY (aH (fD K rfl) rfl T.iY PySem.boot_len (aa (pv 0) ah)) (aH (fD K rfl) rfl T.iY PySem.boot_len (aa (pv 1) ah)) (aX _)) (aq (aI fW)) bg) (ai (cV PassesOwn.never rfl (II (dZ K rfl true true rfl T.jo (aa (pv 0) (aa (pv 1) ah))) (dZ K rfl false false rfl T.jo (aa (pv 0) (aa (pv 1) ah)))) (cH (n:=2) K rfl rfl (aJ (ax (i:=2) S.nd rfl (Or.inl rfl)) (aJ (ax (i:=3) S.nd rfl (Or.inl rfl)) cE))) (aq (cP (eM (dG (aP ih hr (aa (pv 2) (aa (pv 3) ah))))) (aq (aI fW)) bg))) (aq (aI fW))))))),?_⟩
  rcases hA with ⟨rfl,rfl⟩|⟨z,rfl,rfl⟩|⟨i,rfl,rfl⟩|⟨a,b,xs,ys,rfl,rfl,hk,hl,hb,Il⟩
  ·iterate 20 (first|exact k _ (aj.refl _)|refine⟨rfl,?_⟩|refine gJ rfl ?_|refine dE rfl ?_|(walk_at "w"))
  ·iterate 16 (first|exact k _ (aj.refl _)|refine⟨rfl,?_⟩|refine gJ rfl ?_|refine dE rfl ?_|refine gJ (aaR rfl) ?_|(walk_at "w"))
   rw [aaR rfl]
   exact k _ (aj.refl _)
  ·iterate 16 (first|exact k _ (aj.refl _)|refine⟨rfl,?_⟩|refine gJ rfl ?_|refine dE rfl ?_|refine gJ (aaR rfl) ?_|(walk_at "w"))
   rw [aaR rfl]
   exact k _ (aj.refl _)
  ·rcases hk with ⟨h1,h2⟩|⟨h1,h2⟩
   ·iterate 24 (first|refine⟨rfl,?_⟩|refine gJ rfl ?_|refine dE rfl ?_|refine dE (by rw [aaR (by lia)];rfl) ?_|(walk_at "w"))
    refine MH ?_
    walk_at "w"
    refine yM (k1:=true) (k2:=true) (xs:=xs) (ys:=ys) hl (fun i σ H2=>∃ o1 o2:Option V,σ=[some (.ref a),some (.ref b),o1,o2]/\aj H H2) ⟨_,_,rfl,aj.refl _⟩ (fun i σ H2 hp=>by obtain ⟨_,_,rfl,sn⟩:=hp;exact⟨gh (sn.at h1),gh (sn.at h2)⟩) (fun i x y σ H2 H3 hx hy hp s3=>?_) (fun σ H2 hp=>?_)
    ·obtain ⟨o1,o2,rfl,s2⟩:=hp
     walk_at "w"
     refine en ((Il i x y hx hy).same (s2.trans s3)) fun H4 s4=>?_
     walk_at "w"
     refine dE rfl ?_
     walk_at "w"
     exact⟨_,_,rfl,(s2.trans s3).trans s4⟩
    ·obtain ⟨o1,o2,rfl,s2⟩:=hp
     walk_at "w"
     exact k _ s2
   ·iterate 24 (first|refine⟨rfl,?_⟩|refine gJ rfl ?_|refine dE rfl ?_|refine dE (by rw [aaR (by lia)];rfl) ?_|(walk_at "w"))
    refine IJ ?_
    walk_at "w"
    refine yM (k1:=false) (k2:=false) (xs:=xs) (ys:=ys) hl (fun i σ H2=>∃ o1 o2:Option V,σ=[some (.ref a),some (.ref b),o1,o2]/\aj H H2) ⟨_,_,rfl,aj.refl _⟩ (fun i σ H2 hp=>by obtain ⟨_,_,rfl,sn⟩:=hp;exact⟨d9 (aW.of (sn _ _ h1)),d9 (aW.of (sn _ _ h2))⟩) (fun i x y σ H2 H3 hx hy hp s3=>?_) (fun σ H2 hp=>?_)
    ·obtain ⟨o1,o2,rfl,s2⟩:=hp
     walk_at "w"
     refine en ((Il i x y hx hy).same (s2.trans s3)) fun H4 s4=>?_
     walk_at "w"
     refine dE rfl ?_
     walk_at "w"
     exact⟨_,_,rfl,(s2.trans s3).trans s4⟩
    ·obtain ⟨o1,o2,rfl,s2⟩:=hp
     walk_at "w"
     exact k _ s2
theorem zq:aA ["vector","step","place"] ["vector","step","place"] (ak eT):=⟨rfl,rfl,rfl,by decide +kernel,rfl,by decide +kernel,by decide +kernel⟩
structure zr(P:Program)(w:World)(K:Frag)(mg:Str->Option Value)(base:Heap)(G:nU):Prop where
 over:Ok P w K mg base 1 "over" ["one","other"] (uP K)
 power:Ok P w K mg base 1 "power" ["row","n"] (lW K)
theorem zt (D:Def K mg "lowered" eT ["vector","step","place"]) (T:Txt K mg G) (O:zr P w K mg base G) (Y:base.NoSeer/\P.given.tree=none):Ok P w K mg base 34 "lowered" ["vector","step","place"] (gv K):=by
 have S:=zq
 refine D.ok S (fun vs H Q E h=>?_) (fun f cZ A outer s H vs Q E hr h=>?_)
 ·obtain ⟨_,_,_,_,_,_,_,_,rfl,_⟩:=h;rfl
 ·obtain ⟨a,b,p,n,M,k,v,s,rfl,ha,hb,lv,ls,hn,hp,h0,bv,bs,hM,hk,kk⟩:=h
  have hu:=bL hr
  have aC:=T.aC
  have ao:=T.ao
  refine⟨_,(aq (aI (aP O.over (hr.mono (by decide)) (aa (pv 0) (aa (aP O.power (hr.mono (by decide)) (aa (pv 1) (aa (av (EJ Y rfl rfl rfl rfl rfl (hr.mono (by decide))) (aO (aD K rfl) (pv 0) (pv 2) (fun _ _=>rfl)) (aO (aD K rfl) (pv 1) (pv 2) (fun _ _=>rfl))) ah))) ah))))),?_⟩
  walk_at "v"
  refine iW ha (bF (int_at (by lia))) ?_
  walk_at "v"
  refine iW hb (bF (int_at (by lia))) ?_
  walk_at "w"
  refine AR s hb (by lia) (fun x hx=>?_) fun p1 H1 s1 m1=>?_
  ·have b1:pH x<=k:=by
    rw [oJ]
    exact Aj (abb (ES bs hx) hM)
   have b2:pH ((v.getD p 0).fdiv (s.getD p 0))<=k:=by
    rw [oJ]
    exact Aj (abb (aaJ (uj _ h0) (bv p)) hM)
   unfold nS
   lia
  walk_at "w"
  refine MX v (cA s ((v.getD p 0).fdiv (s.getD p 0))) (s1.at ha) (aR.of m1) (by rw [lv,aB ls]) (by lia) fun p2 H2 s2 m2=>?_
  exact kk _ _ (s1.trans s2) m2
theorem B0:aA ["vectors","place","led","others","least","left"] ["vectors","place"] (ak gm):=⟨rfl,rfl,rfl,by decide +kernel,rfl,by decide +kernel,by decide +kernel⟩
structure B1(P:Program)(w:World)(K:Frag)(mg:Str->Option Value)(base:Heap)(G:nU):Prop where
 power:Ok P w K mg base 1 "power" ["row","n"] (lW K)
 lowered:Ok P w K mg base 34 "lowered" ["vector","step","place"] (gv K)
theorem B2 (D:rn K mg "parted" gm ["vectors","place"] G.bR) (T:Txt K mg G) (O:B1 P w K mg base G) (Y:base.NoSeer/\P.given.tree=none) (B:CodeHd base G.bR (dX K "parted")/\base.BuiltinsAt mg (dX K "parted")):Ok P w K mg base 35 "parted" ["vectors","place"] (mT K):=by
 have S:=B0
 refine D.ok S (fun vs H Q E h=>?_) (fun f A outer s H vs Q E hr h=>?_)
 ·obtain ⟨_,_,_,_,_,_,_,_,rfl,_⟩:=h;rfl
 ·obtain ⟨l,p,n,M,A,k,xs,rs,rfl,hl,CV,HW,CY,hn,hp,rg,hA,NN,hMk,hk,hT,kk⟩:=h
  have hu:=bL hr
  have aC:=T.aC
  have ao:=T.ao
  refine⟨_,(ai (jF (k:=2) (N:=["vector","place"]) (ix:=[none,some 1]) S.nd rfl (Or.inl rfl) rfl (aZ K rfl (pv 0)) (fun _ _ _ _ _=>(ax (i:=0) (show je ["vector","place"] by decide +kernel) rfl (Or.inl rfl))) (fun _ _ _ _ _=>(ba oY (aO (aD K rfl) (pv 0) (pv 1) (fun _ _=>rfl)) ag (aX _))) (fun _ _ _ _ _=>(pv 0)) rfl (by decide +kernel) (by decide +kernel) rfl ⟨⟨rfl,Or.inr (Or.inl rfl),rfl,rfl⟩,True.intro⟩) (ai (jF (k:=3) (N:=["vector","place"]) (ix:=[none,some 1]) S.nd rfl (Or.inl rfl) rfl (aZ K rfl (pv 0)) (fun _ _ _ _ _=>(ax (i:=0) (show je ["vector","place"] by decide +kernel) rfl (Or.inl rfl))) (fun _ _ _ _ _=>(ba jW (aO (aD K rfl) (pv 0) (pv 1) (fun _ _=>rfl)) ag (aX _))) (fun _ _ _ _ _=>(pv 0)) rfl (by decide +kernel) (by decide +kernel) rfl ⟨⟨rfl,Or.inr (Or.inl rfl),rfl,rfl⟩,True.intro⟩) (ai (vM PassesOwn.never (ba sJ (aH (fD K rfl) rfl T.iY PySem.boot_len (aa (pv 2) ah)) ag (aX _)) (ai (ay (i:=2) S.nd rfl (Or.inl rfl) (Bz (k:=0) (q:="parted.<locals>.<lambda>") (lp:=IP) (y:="vector") (fns:=["place"]) (ixs:=[some 1]) K rfl rfl (hr.mono (by decide)) (pv 2) rfl B.1 B.2 (fun _ _ _ _ _=>rfl) (fun _ _ _ _=>(aH mI rfl T.Fb boot_abs (aa (aO (aD K rfl) (pv 0) (pv 1) (fun _ _=>rfl)) ah))) rfl rfl rfl rfl (by decide +kernel) rfl ⟨⟨rfl,Or.inr (Or.inl rfl),rfl,rfl⟩,True.intro⟩ rfl rfl T.Fd boot_sorted)) (ai (ay (i:=4) S.nd rfl (Or.inr rfl) (aO (aD K rfl) (pv 2) ag (fun _ _=>rfl))) (ai (jF (k:=5) (N:=["vector","least","place"]) (ix:=[none,some 4,some 1]) S.nd rfl (Or.inl rfl) rfl (aZ K rfl (hV (wo K rfl) (pv 2) (jC ag) jB)) (fun _ _ _ _ _=>(ax (i:=0) (show je ["vector","least","place"] by decide +kernel) rfl (Or.inl rfl))) (fun _ _ _ _ _=>rfl) (fun _ _ _ _ _=>(aP O.lowered (hr.mono (by decide)) (aa (pv 0) (aa (pv 1) (aa (pv 2) ah))))) rfl (by decide +kernel) (by decide +kernel) rfl ⟨⟨rfl,Or.inr (Or.inl rfl),rfl,rfl⟩,⟨⟨rfl,Or.inr (Or.inl rfl),rfl,rfl⟩,True.intro⟩⟩) (ai (ay (i:=2) S.nd rfl (Or.inl rfl) (av iB (bV (aa (pv 4) ah)) (bU (N:=["vector","place"]) (ix:=[none,some 1]) rfl (aZ K rfl (pv 5)) (fun _ _ _ _ _=>(ax (i:=0) (show je ["vector","place"] by decide +kernel) rfl (Or.inl rfl))) (fun _ _ _ _ _=>(ba oY (aO (aD K rfl) (pv 0) (pv 1) (fun _ _=>rfl)) ag (aX _))) (fun _ _ _ _ _=>(pv 0)) rfl (by decide +kernel) (by decide +kernel) rfl ⟨⟨rfl,Or.inr (Or.inl rfl),rfl,rfl⟩,True.intro⟩))) (aq (ay (i:=3) S.nd rfl (Or.inl rfl) (av iB (pv 3) (bU (N:=["vector","place"]) (ix:=[none,some 1]) rfl (aZ K rfl (pv 5)) (fun _ _ _ _ _=>(ax (i:=0) (show je ["vector","place"] by decide +kernel) rfl (Or.inl rfl))) (fun _ _ _ _ _=>(ba jW (aO (aD K rfl) (pv 0) (pv 1) (fun _ _=>rfl)) ag (aX _))) (fun _ _ _ _ _=>(pv 0)) rfl (by decide +kernel) (by decide +kernel) rfl ⟨⟨rfl,Or.inr (Or.inl rfl),rfl,rfl⟩,True.intro⟩))))))))) (aq (aI (aV (aa (bU (N:=["vector","place"]) (ix:=[none,some 1]) rfl (aZ K rfl (pv 2)) (fun _ _ _ _ _=>(ax (i:=0) (show je ["vector","place"] by decide +kernel) rfl (Or.inl rfl))) (fun _ _ _ _ _=>rfl) (fun _ _ _ _ _=>(oX (ba JE (aO (aD K rfl) (pv 0) (pv 1) (fun _ _=>rfl)) ag (aX _)) (aP O.power (hr.mono (by decide)) (aa (pv 0) (aa (fX d5 ag) ah))) (pv 0))) rfl (by decide +kernel) (by decide +kernel) rfl ⟨⟨rfl,Or.inr (Or.inl rfl),rfl,rfl⟩,True.intro⟩) (aa (pv 3) ah)))))))),?_⟩
  walk_at "w"
  refine fg [some (.int p)] (fun v=>v.getD p 0 != 0) rfl hl CV (by lia) (fun a r H' Qt hr s ha kt=>?_) (fun a H' Qc s kc=>?_) (fun l1 H1 ys n1 s1 m1 r1=>?_)
  ·walk_at "v"
   refine iW ha (bF (int_at (by rw [CY r hr];exact hp))) ?_
   walk_at "w"
   exact kt _ (aj.refl _)
  ·walk_at "w"
   exact kc
  walk_at "w"
  have V1:=CV.same s1
  refine fg [some (.int p)] (fun v=>v.getD p 0 == 0) rfl (s1.seq hl) V1 (by lia) (fun a r H' Qt hr s ha kt=>?_) (fun a H' Qc s kc=>?_) (fun l2 H2 zs n2 s2 m2 r2=>?_)
  ·walk_at "v"
   refine iW ha (bF (int_at (by rw [CY r hr];exact hp))) ?_
   walk_at "w"
   exact kt _ (aj.refl _)
  ·walk_at "w"
   exact kc
  walk_at "j"
  refine join (fun σ' H'=>∃ (o4 o5:Option V) (l1 l2:Addr) (ys zs:List V) (led os:List (List Int)),σ'=[some (.ref l),some (.int p),some (.ref l1),some (.ref l2),o4,o5]/\i6 K H H'/\bP K H'/\H' l1=some (.lst ys)/\H' l2=some (.lst zs)/\aK K H' ys led/\aK K H' zs os/\PJ n p M A led os/\Eqv n rs (led++os)/\led.length+os.length<=rs.length/\led.length<=1/\∀ v∈led,at' p v<=A) (fun nx kn=>?_) (fun σ' H' hP=>?_)
  ·refine Aq (fun m σ' H'=>∃ (o4 o5:Option V) (l1 l2:Addr) (ys zs:List V) (led os:List (List Int)),σ'=[some (.ref l),some (.int p),some (.ref l1),some (.ref l2),o4,o5]/\i6 K H H'/\bP K H'/\H' l1=some (.lst ys)/\H' l2=some (.lst zs)/\aK K H' ys led/\aK K H' zs os/\PJ n p M A led os/\Eqv n rs (led++os)/\led.length+os.length<=rs.length/\(∀ v∈led,at' p v<=A)/\m=d7.mz p led) (d7.mz p (rs.filter fun v=>v.getD p 0 != 0)) ?_ (fun m σ' H' hw=>?_)
   ·have Dr:=ML (fun v:List Int=>v.getD p 0 == 0) rs
    refine⟨_,_,l1,l2,ys,zs,_,_,rfl,bK.of (s1.trans s2),hT.same (s1.trans s2),s2 _ _ m1,m2,r1.same s2,r2,⟨fun v hv=>?_,fun v hv=>?_,fun v hv=>?_,(fun v hv=>hA v (aa9.mp hv).1),.inl fun v hv=>?_⟩,Eqv.mem fun x=>?_,le_of_eq Dr,fun v hv=>hA v (aa9.mp hv).1,rfl⟩
    ·exact (aa2.mp hv).elim (fun z=>CY v (aa9.mp z).1) fun z=>CY v (aa9.mp z).1
    ·simpa using (aa9.mp hv).2
    ·simpa using (aa9.mp hv).2
    ·exact (aa2.mp hv).elim (fun z=>rg v (aa9.mp z).1) fun z=>rg v (aa9.mp z).1
    ·rw [aa2,aa9,aa9]
     constructor
     ·intro h
      by_cases e:x.getD p 0=0
      ·exact .inr ⟨h,by simpa using e⟩
      ·exact .inl ⟨h,by simpa using e⟩
     ·rintro (h|h) <;> exact h.1
   obtain ⟨o4,o5,l3,l4,Rl,M8,led,os,rfl,CZ,vE,e3,e4,r3,r4,vF,hE,hlen,Rm,rfl⟩:=hw
   walk_at "w"
   refine cT (fun hc=>?_) (fun hc=>?_)
   ·refine P9 ?_
    walk_at "w"
    have vI:1<Rl.length:=by have:=aaO hc;lia
    have lys:=r3.length
    refine EF (led.map fun v=>((at' p v:Nat):Int)) (vE.2 (dX K "parted",IP,"parted.<locals>.<lambda>") (.head _)) (aW.of e3) (by rw [aa4,r3.length]) (by lia) (fun i x nn hx Kl H5 S9=>?_) (fun pS H5 ysS S9 V2 m5 so=>?_)
    ·have s5:i6 K H' H5:=cX.s (t:=(dX K "parted",IP,"parted.<locals>.<lambda>")) S9 (.head _)
     obtain ⟨a,r,rfl,ha,hi⟩:=r3.get hx
     have er:nn=((at' p r:Nat):Int):=by rw [abk,hi] at Kl;exact (aaN Kl).symm
     subst er
     have Ta:=s5.at vE ha
     walk_at "v"
     refine iW Ta (bF (int_at (by rw [vF.1 r (aa0 _ (mem_of hi))];exact hp))) ?_
     walk_at "w"
     refine⟨?_,aj.refl _⟩
     unfold at'
     congr 1
     split <;> lia
    have s5:i6 K H' H5:=cX.s (t:=(dX K "parted",IP,"parted.<locals>.<lambda>")) S9 (.head _)
    have C2:bP K H5:=cY.step (t:=(dX K "parted",IP,"parted.<locals>.<lambda>")) vE (.head _) S9 V2
    obtain ⟨qs,rq,pq,wq⟩:=wG (fun v=>((at' p v:Nat):Int)) r3 so (aj.refl _)
    have rq5:=rq.iX s5 vE
    have lq:=pq.length_eq
    obtain ⟨sL,rest,rfl⟩:∃ sL rest,qs=sL::rest:=by
     cases qs with
     | nil=>simp at lq;lia
     | cons x y=>exact⟨x,y,rfl⟩
    have V3:rest≠[]:=fun z=>by rw [z] at lq;simp at lq;lia
    have hle:∀ v∈rest,at' p sL<=at' p v:=fun v hv=>by have:=(abv.mp wq).1 v hv;lia
    obtain ⟨tPI,tmz,tE⟩:=vF.turn NN pq V3 hle
    have e4':=s5.lst vE e4
    have r4':=r4.iX s5 vE
    obtain ⟨aL,ysR,rfl,haL,hR⟩:=rq5.Mv
    have mq:∀ v,v∈sL::rest->v∈led:=fun v hv=>pq.mem_iff.mp hv
    have hB:=vF.bd NN
    have V4:sL.length=n:=vF.1 sL (aa0 _ (mq sL (.head _)))
    have N4:∀ v∈rest,v.length=n:=fun v hv=>vF.1 v (aa0 _ (mq v (aa6 _ hv)))
    have lrest:rest.length<=63:=by have:=lq;simp at this;lia
    walk_at "w"
    refine fN (aW.of m5) (bF (j:=0) rfl) ?_
    walk_at "w"
    rename_i p6 H6 n6 s6 m6
    refine kh [some (.ref aL),some (.int p)] (bN p sL) rfl (aW.of m6) (hR.same s6) (by lia) (fun a r H7 Qc hr s7 ha kc=>?_) (fun l7 H7 Tb n7 s7 m7 r7=>?_)
    ·walk_at "w"
     exact mW r sL ha ((s6.trans s7).at haL) (N4 r hr) V4 hn hp (vF.2.1 sL (mq sL (.head _))) (hB r (aa0 _ (mq r (aa6 _ hr)))) (hB sL (aa0 _ (mq sL (.head _)))) hMk hk fun p8 H8 s8 m8=>kc _ _ s8 (aR.of m8)
    have ll7:∀ r∈rest.map (bN p sL),r.length=n:=fun r hr=>by
     obtain ⟨u,hu,rfl⟩:=aa8.mp hr
     exact gf (N4 u hu) V4
    walk_at "w"
    rename_i p8 H8 n8 s8 m8
    refine fg [some (.int p)] (fun v=>v.getD p 0 != 0) rfl (aW.of (s8 _ _ m7)) (r7.same s8) (by rw [aa4];lia) (fun a r H9 Qt hr s9 ha kt=>?_) (fun a H9 Qc s9 kc=>?_) (fun l9 H9 ys9 n9 s9 m9 r9=>?_)
    ·walk_at "v"
     refine iW ha (bF (int_at (by rw [ll7 r hr];exact hp))) ?_
     walk_at "w"
     exact kt _ (aj.refl _)
    ·walk_at "w"
     exact kc
    have cnt:=EV p sL rest
    have lq':rest.length+1=led.length:=by simpa using lq
    have l9':ys9.length=(cQ p sL rest).length:=r9.length.symm
    walk_at "w"
    rename_i p10 GY n10 JK m10
    have M9:=(s8.trans s9).trans JK
    refine fg [some (.int p)] (fun v=>v.getD p 0 == 0) rfl (aW.of (M9 _ _ m7)) (r7.same M9) (by rw [aa4];lia) (fun a r H9 Qt hr s9 ha kt=>?_) (fun a H9 Qc s9 kc=>?_) (fun Tc Uc Rn n11 NH m11 r11=>?_)
    ·walk_at "v"
     refine iW ha (bF (int_at (by rw [ll7 r hr];exact hp))) ?_
     walk_at "w"
     exact kt _ (aj.refl _)
    ·walk_at "w"
     exact kc
    have l11':Rn.length=(fM p sL rest).length:=r11.length.symm
    have lz:M8.length=os.length:=r4.length.symm
    have Ro:=((s6.trans s7).trans M9).trans NH
    walk_at "w"
    refine D6 (Ro _ _ e4') m11 (by lia) fun p12 H12 n12 Td m12=>?_
    have Ji:=Ro.trans Td
    refine⟨_,tmz,_,_,p10,p12,.ref aL::ys9,M8++Rn,sL::cQ p sL rest,os++fM p sL rest,rfl,CZ.trans (s5.trans (bK.of Ji)),C2.same Ji,Td _ _ (NH _ _ m10),m12,.cons (Ji.at haL) (r9.same ((JK.trans NH).trans Td)),(r4'.same Ji).append (r11.same Td),tPI,hE.trans tE,by simp;lia,fun v hv=>?_,rfl⟩
    rcases aa7.mp hv with rfl|hv
    ·exact Rm _ (mq _ (.head _))
    ·obtain ⟨u,hu,rfl⟩:=aa8.mp (aa9.mp hv).1
     exact aaJ (aaL (lF (N4 u hu) V4 (vF.2.1 sL (mq sL (.head _))))) (Rm _ (mq _ (.head _)))
   ·exact kn _ _ ⟨o4,o5,l3,l4,Rl,M8,led,os,rfl,CZ,vE,e3,e4,r3,r4,vF,hE,hlen,by have:=r3.length;have:=aaP hc;lia,Rm⟩
  obtain ⟨o4,o5,l3,l4,Rl,M8,led,os,rfl,CZ,vE,e3,e4,r3,r4,vF,hE,hlen,h1,Rm⟩:=hP
  have hB:=vF.bd NN
  walk_at "w"
  refine kh [some (.int p)] (jP p) rfl (aW.of e3) r3 (by lia) (fun a r H7 Qc hr s7 ha kc=>?_) (fun l7 H7 Tb n7 s7 m7 r7=>?_)
  ·have lr:=vF.1 r (aa0 _ hr)
   walk_at "v"
   refine iW ha (bF (int_at (by rw [lr];exact hp))) ?_
   walk_at "w"
   refine cT (fun hc=>?_) (fun hc=>?_)
   ·walk_at "w"
    refine AR r ha (by lia) (fun x hx=>?_) fun p8 H8 s8 m8=>kc _ _ s8 ?_
    ·have b1:pH x<=k:=by
      rw [oJ]
      exact Aj (abb (ES (hB r (aa0 _ hr)) hx) hMk)
     have b2:pH (-1)<=1:=by decide
     unfold nS
     lia
    ·unfold jP
     rw [if_pos (aaO hc)]
     exact aR.of m8
   ·walk_at "w"
    refine kc _ _ (aj.refl _) ?_
    unfold jP
    rw [if_neg (aaP hc)]
    exact ha
  walk_at "w"
  rename_i p8 H8 s8 m8
  have xQ:=s7.trans s8
  have mp:∀ v∈led.map (jP p),∃ u∈led,jP p u=v:=fun v hv=>by obtain ⟨u,hu,e⟩:=aa8.mp hv;exact⟨u,hu,e⟩
  refine kk p8 l7 l4 H8 Tb M8 (led.map (jP p)) os (CZ.trans (bK.of xQ)) (vE.same xQ) (aR.of m8) (aW.of (s8 _ _ m7)) (r7.same s8) (aW.of (xQ _ _ e4)) (r4.same xQ) (by rw [aa4];exact h1) (fun v hv=>?_) vF.2.2.1 (fun v hv=>?_) (fun v hv=>?_) (hE.trans ?_) (by rw [aa4];exact hlen) (fun v hv=>by obtain ⟨u,hu,rfl⟩:=mp v hv;rw [IL];exact Rm u hu)
  ·obtain ⟨u,hu,rfl⟩:=mp v hv
   exact ET (vF.2.1 u hu)
  ·rcases aa2.mp hv with z|z
   ·obtain ⟨u,hu,rfl⟩:=mp v z
    exact EU (vF.1 u (aa0 _ hu))
   ·exact vF.1 v (aaZ _ z)
  ·rcases aa2.mp hv with z|z
   ·obtain ⟨u,hu,rfl⟩:=mp v z
    exact IM (hB u (aa0 _ hu))
   ·exact hB v (aaZ _ z)
  ·match led,h1,vF with
   | [],_,_=>exact Eqv.refl
   | [u],_,vF =>
    show Eqv n (u::os) (jP p u::os)
    unfold jP
    split
    ·exact Eqv.flip (vF.1 u (.head _))
    ·exact Eqv.refl
theorem zu:aA ["steps","vector","left","step"] ["steps","vector"] (ak eV):=⟨rfl,rfl,rfl,by decide +kernel,rfl,by decide +kernel,by decide +kernel⟩
structure zv(P:Program)(w:World)(K:Frag)(mg:Str->Option Value)(base:Heap)(G:nU):Prop where
 zw:Ok P w K mg base 1 "lead_place" ["row"] (gR K)
 lowered:Ok P w K mg base 34 "lowered" ["vector","step","place"] (gv K)
theorem zx (D:Def K mg "left_by" eV ["steps","vector"]) (T:Txt K mg G) (O:zv P w K mg base G) (Y:base.NoSeer/\P.given.tree=none):Ok P w K mg base 35 "left_by" ["steps","vector"] (kx K):=by
 have S:=zu
 refine D.ok S (fun vs H Q E h=>?_) (fun f cZ A outer s H vs Q E hr h=>?_)
 ·obtain ⟨_,_,_,_,_,_,_,_,rfl,_⟩:=h;rfl
 ·obtain ⟨l,a,n,B,C,xs,st,u,rfl,hl,CV,ha,lu,hn5,hn,CY,h5,hsf,rg,hub,hBC,k⟩:=h
  have hu:=bL hr
  have aC:=T.aC
  have ao:=T.ao
  refine⟨_,(ai (ay (i:=2) S.nd rfl (Or.inl rfl) (pv 1)) (ai (cV PassesOwn.never rfl (aZ K rfl (pv 0)) (ax (i:=3) S.nd rfl (Or.inl rfl)) (aq (ay (i:=2) S.nd rfl (Or.inl rfl) (aP O.lowered (hr.mono (by decide)) (aa (pv 2) (aa (pv 3) (aa (aP O.zw (hr.mono (by decide)) (aa (hV (pT K rfl) (pv 3) jB (jC (iw (v:=V.int 5) rfl T.AQ ⟨_,rfl⟩))) ah)) ah))))))) (aq (aI (pv 2))))),?_⟩
  have lr:=CV.length
  walk_at "w"
  refine gQ (xs:=xs) (fun i σ H2=>∃ (o:Option V) (p:Addr) (v:List Int),σ=[some (.ref l),some (.ref a),some (.ref p),o]/\aj H H2/\aR K H2 p (v.map V.int)/\LB n 5 st i u v/\de (2 ^ (C+(B+1)*i)) v) ⟨_,a,u,rfl,aj.refl _,ha,LB.start lu,hub⟩ (fun i σ H2 hp=>by obtain ⟨o,p,v,rfl,s2,_⟩:=hp;exact s2.seq hl) (fun i x σ H2 hx hp=>?_) (fun σ H2 hp=>?_)
  ·obtain ⟨o,p,v,rfl,s2,mp,hv,Gq⟩:=hp
   obtain ⟨c,s,rfl,hc,hi⟩:=CV.get hx
   have hi5:i<5:=by have:=(aaG.mp hi).1;lia
   have xr:=mem_of hi
   have ls:=CY s xr
   obtain ⟨kk,hk⟩:=hsf.1 (s.take 5) (aa8.mpr ⟨s,xr,rfl⟩)
   have VC:=um hk
   have h0:s.getD kk 0≠0:=by have:=hk.1;rw [iD _ VC] at this;lia
   have Dr:=s2.at hc
   have hBi:(B+1)*i<=(B+1)*4:=mul_le_mul_left _ (by lia)
   have hB1:(B+1)*(i+1)=(B+1)*i+(B+1):=by rw [Nat.mul_add,Nat.mul_one]
   walk_at "w"
   refine EI Dr fun p3 H3 s3 m3=>?_
   rw [show (some (5:Int))=some ((5:Nat):Int) from rfl,Aw,<- map_take] at m3
   walk_at "w"
   refine uQ m3 (by rw [abi];lia) hk fun H4 s4=>?_
   walk_at "w"
   have V5:=s3.trans s4
   refine mW (M:=2 ^ (C+(B+1)*(i+1))) (k:=C+(B+1)*(i+1)+1) v s (V5.at mp) (V5.at Dr) hv.len ls (by lia) (by lia) h0 (Gq.mono (aba (by decide) (by lia))) ((rg s xr).mono (aba (by decide) (by lia))) (Nat.pow_lt_pow_right (by decide) (lt_succ_self _)) (by lia) fun p5 H5 s5 m5=>?_
   walk_at "w"
   refine⟨_,p5,_,rfl,s2.trans (V5.trans s5),aR.of m5,hv.step lu hi ls hsf hk,(uk hv.len ls h0 Gq (rg s xr)).mono ?_⟩
   rw [hB1,show C+((B+1)*i+(B+1))=B+(C+(B+1)*i)+1 by lia,pow_succ (n:=2) (m:=B+(C+(B+1)*i)),pow_add 2 B]
   have h3:(2:Nat) ^ (C+(B+1)*i)<=2 ^ B*2 ^ (C+(B+1)*i):=Nat.le_mul_of_pos_left _ (abq _)
   lia
  ·obtain ⟨o,p,v,rfl,s2,mp,hv,Gq⟩:=hp
   rw [<- lr] at hv
   walk_at "w"
   exact k _ _ v s2 mp hv (Gq.mono (aba (by decide) (Nat.add_le_add_left (mul_le_mul_left _ (by lia)) _)))
theorem zy:aA ["vectors","size","steps","left","place","parts","lead"] ["vectors","size"] (ak eU):=⟨rfl,rfl,rfl,by decide +kernel,rfl,by decide +kernel,by decide +kernel⟩
structure zA(P:Program)(w:World)(K:Frag)(mg:Str->Option Value)(base:Heap)(G:nU):Prop where
 lowered:Ok P w K mg base 34 "lowered" ["vector","step","place"] (gv K)
 parted:Ok P w K mg base 35 "parted" ["vectors","place"] (mT K)
theorem zB (D:Def K mg "stepped" eU ["vectors","size"]) (T:Txt K mg G) (O:zA P w K mg base G) (Y:base.NoSeer/\P.given.tree=none):Ok P w K mg base 36 "stepped" ["vectors","size"] (kr K):=by
 have S:=zy
 refine D.ok S (fun vs H Q E h=>?_) (fun f cZ A outer s H vs Q E hr h=>?_)
 ·obtain ⟨_,_,_,_,_,_,rfl,_⟩:=h;rfl
 ·obtain ⟨l,w,n,b,xs,rs,rfl,hl,CV,HW,CY,hn,hw,rg,QB,hT,kk⟩:=h
  have hu:=bL hr
  have aC:=T.aC
  have ao:=T.ao
  refine⟨_,(ai (ay (i:=2) S.nd rfl (Or.inl rfl) (bV ah)) (ai (ay (i:=3) S.nd rfl (Or.inl rfl) (pv 0)) (ai (cV PassesOwn.never rfl (BB rfl T.gM (aa (av d3 (pv 1) ag) (aa (fX d5 ag) (aa (fX d5 ag) ah)))) (ax (i:=4) S.nd rfl (Or.inr rfl)) (ai (ay (i:=5) S.nd rfl (Or.inl rfl) (aP O.parted (hr.mono (by decide)) (aa (pv 3) (aa (pv 4) ah)))) (ai (ay (i:=3) S.nd rfl (Or.inl rfl) (aO (aD K rfl) (pv 5) ag (fun _ _=>rfl))) (aq (cV PassesOwn.never rfl (aZ K rfl (aO (aD K rfl) (pv 5) ag (fun _ _=>rfl))) (ax (i:=6) S.nd rfl (Or.inr rfl)) (aq (ay (i:=2) S.nd rfl (Or.inl rfl) (av iB (bU (N:=["step","lead","place"]) (ix:=[none,some 6,some 4]) rfl (aZ K rfl (pv 2)) (fun _ _ _ _ _=>(ax (i:=0) (show je ["step","lead","place"] by decide +kernel) rfl (Or.inl rfl))) (fun _ _ _ _ _=>rfl) (fun _ _ _ _ _=>(aP O.lowered (hr.mono (by decide)) (aa (pv 0) (aa (pv 1) (aa (pv 2) ah))))) rfl (by decide +kernel) (by decide +kernel) rfl ⟨⟨rfl,Or.inr (Or.inl rfl),rfl,rfl⟩,⟨⟨rfl,Or.inr (Or.inl rfl),rfl,rfl⟩,True.intro⟩⟩) (bV (aa (pv 6) ah)))))))))) (aq (aI (pv 2)))))),?_⟩
  walk_at "w"
  rename_i ls0 H1 n1 s1 m1
  refine Mu (fun i σ H'=>∃ (o1 o2 o3:Option V) (ls ll:Addr) (ys zs:List V) (st lf:List (List Int)),σ=[some (.ref l),some (.int w),some (.ref ls),some (.ref ll),o1,o2,o3]/\H ls=none/\i6 K H H'/\bP K H'/\H' ls=some (.lst ys)/\aK K H' ys st/\aW K H' ll zs/\aK K H' zs lf/\SJ n w b rs i st lf) ⟨_,_,_,ls0,l,[],xs,[],rs,rfl,n1,bK.of s1,hT.same s1,m1,.nil,s1.seq hl,CV.same s1,SJ.start CY rg⟩ (fun i σ H' hi hp=>?_) (fun σ H' hp=>?_)
  ·obtain ⟨o1,o2,o3,ls,ll,ys,zs,st,lf,rfl,ik,sm,qR,e1,r1,e2,r2,hI⟩:=hp
   have hiw:i<w:=by lia
   obtain ⟨p,S4⟩:∃ p:Nat,(w:Int) - 1 - i=p:=⟨w - 1 - i,by lia⟩
   rw [S4]
   have hp1:p+i+1=w:=by lia
   have hgi:=QB i hiw
   have S3:gs b (i+1)=3*gs b i+3:=rfl
   have hg3:gs b (i+1)<=d7.ss b (i+1):=by rw [d7.ss];lia
   have c1:=hI.c1
   have c2:=hI.c2
   walk_at "w"
   refine Fj (M:=2 ^ gs b i) (A:=2 ^ gs b i) (k:=gs b (i+1)) (n:=n) (p:=p) ⟨e2,r2,by lia,hI.SG,hn,by lia,hI.bl,(fun v hv=>hI.bl v hv p),abq _,jE b i,by lia,qR⟩ fun t l1 l2 H3 Rl M8 led os CZ vE mt q1 qr1 q2 qr2 h1 rh h0 hlen N6 hE zg Pg=>?_
   have e13:=CZ.lst qR e1
   have r13:=r1.iX CZ qR
   have lq:=qr1.length
   have lst:=r1.length
   walk_at "w"
   refine gQ (xs:=Rl) (fun j σ H4=>∃ (o3:Option V) (ls:Addr) (ys:List V),σ=[some (.ref l),some (.int w),some (.ref ls),some (.ref l2),some (.int p),some (.ref t),o3]/\H ls=none/\aj H3 H4/\H4 ls=some (.lst ys)/\aK K H4 ys ((led.take j).foldl (fun st s=>st.map (bN p s)++[s]) st)) ⟨_,ls,ys,rfl,ik,aj.refl _,e13,r13⟩ (fun j σ H4 hp=>by obtain ⟨o3,ls,ys,rfl,_,s4,_⟩:=hp;exact s4.seq q1) (fun j x σ H4 hx hp=>?_) (fun σ H4 hp=>?_)
   ·obtain ⟨o4,ls4,ys4,rfl,Rp,s4,e4,r4⟩:=hp
    have hj:j=0:=by have:=(aaG.mp hx).1;lia
    subst hj
    rw [take_zero,List.foldl_nil] at r4
    obtain ⟨a,sv,rfl,ha,Bo⟩:=qr1.get hx
    have xr:=mem_of Bo
    have l4:=r4.length
    walk_at "w"
    refine kh [some (.ref a),some (.int p)] (bN p sv) rfl (aW.of e4) r4 (by lia) (fun a5 r5 H5 Qc Ta s5 ha5 kc=>?_) (fun l7 H7 Tb n7 s7 m7 r7=>?_)
    ·walk_at "w"
     exact mW (M:=2 ^ d7.ss b (i+1)) (k:=d7.ss b (i+1)+1) r5 sv ha5 ((s4.trans s5).at ha) (hI.lst r5 Ta) (hlen sv (aa0 _ xr)) hn (by lia) (by have:=rh sv xr;lia) ((hI.bs r5 Ta).mono (aba (by decide) (by rw [d7.ss];lia))) ((N6 sv (aa0 _ xr)).mono (aaJ (aaL (jE b i)) (aba (by decide) (by rw [d7.ss];lia)))) (Nat.pow_lt_pow_right (by decide) (lt_succ_self _)) (by lia) fun p8 H8 s8 m8=>kc _ _ s8 (aR.of m8)
    have l7':=r7.length
    rw [aa4] at l7'
    walk_at "w"
    rename_i p8 H8 n8 s8 m8 p9 H9 n9 s9 m9
    refine⟨_,p9,Tb++[.ref a],rfl,?_,((s4.trans s7).trans s8).trans s9,m9,?_⟩
    ·exact sm.new qR (CZ.new vE (((s4.trans s7).trans s8).new n9))
    ·rw [take_snoc Bo]
     exact (r7.same (s8.trans s9)).append (.cons ((((s4.trans s7).trans s8).trans s9).at ha) .nil)
   ·obtain ⟨o4,ls4,ys4,rfl,Rp,s4,e4,r4⟩:=hp
    rw [<- lq,abh] at r4
    refine⟨_,_,_,ls4,l2,ys4,M8,_,os,rfl,Rp,sm.trans (CZ.trans (bK.of s4)),vE.same s4,e4,r4,s4.seq q2,qr2.same s4,?_⟩
    match led,h1,hE,zg,N6,hlen,rh,Pg with
    | [],_,hE,zg,N6,hlen,_,_=>exact hI.none hp1 hE h0 hlen N6 (by simpa using zg)
    | [s],_,hE,zg,N6,hlen,rh,Pg=>exact hI.one hp1 hw hE (rh s (.head _)) h0 hlen N6 (by simp at zg;lia) (Pg s (.head _))
  ·obtain ⟨o1,o2,o3,ls,ll,ys,zs,st,lf,rfl,ik,sm,qR,e1,r1,e2,r2,hI⟩:=hp
   rw [show ((w:Int) - 1 - -1).toNat=w by lia] at hI
   walk_at "w"
   exact kk ls H' ys st lf ik sm qR e1 r1 hI
theorem ju:aA ["self","row"] ["self","row"] (ak bt):=⟨rfl,rfl,rfl,by decide +kernel,rfl,by decide +kernel,by decide +kernel⟩
structure jv(P:Program)(w:World)(K:Frag)(mg:Str->Option Value)(base:Heap)(G:nU):Prop where
 Jj:Ok P w K mg base 35 "left_by" ["steps","vector"] (kx K)
theorem jw (D:BD K G.cU "sound" "CommaTuning.sound" bt ["self","row"]) (T:Txt K mg G) (O:jv P w K mg base G) (Y:base.NoSeer/\P.given.tree=none):Mx P w K mg base 36 G.cU ["self","row"] (dQ K):=by
 have S:=ju
 refine D.ok S (fun vs H Q E h=>?_) (fun f cZ A outer s H vs Q E hr h=>?_)
 ·obtain ⟨_,_,_,_,_,rfl,_⟩:=h;rfl
 ·obtain ⟨x,l,a,st,r,rfl,⟨C,dx,ys,hC,hx,m1,r1⟩,⟨sf,hl,hb⟩,ha,lr,br,k⟩:=h
  have hu:=bL hr
  have aC:=T.aC
  have ao:=T.ao
  have bz:=T.bz
  have aU:=T.aU
  refine⟨_,(aq (aI (aP O.Jj (hr.mono (by decide)) (aa (Iq K rfl (pv 0) rfl) (aa (pv 1) ah))))),?_⟩
  obtain rfl:G.aM=C:=by have:=T.dA;rw [hC] at this;cases this;rfl
  have h5:st.length<=5:=SF.count sf fun q hq j hj=>Bi (hl q hq) hj
  have et:st.map (List.take 5)=st:=by
   conv=>rhs;rw [<- List.map_id st]
   exact abn fun q hq=>abo (by rw [hl q hq];exact aaK _)
  walk_at "w"
  refine BU (n:=5) (B:=500) (C:=20000) ⟨aW.of m1,r1,ha,lr,by decide,by decide,hl,h5,by rw [et];exact sf,hb,br,by decide⟩ fun p H' v s m V6 _=>k p H' v s m ⟨V6.len,V6.made,fun q hq j hj=>?_⟩
  obtain ⟨i,hi,e⟩:=abx hq
  exact V6.small i q j hi (by rw [aaY hi,e]) (by rw [abo (by rw [hl q hq];exact aaK _)];exact hj)
theorem Fu:aA ["commas"] ["commas"] (ak iH):=⟨rfl,rfl,rfl,by decide +kernel,rfl,by decide +kernel,by decide +kernel⟩
structure Fv(P:Program)(w:World)(K:Frag)(mg:Str->Option Value)(base:Heap)(G:nU):Prop where
 qv:Ok P w K mg base 1 "checked_commas" ["commas"] (eK K)
 Jk:Ok P w K mg base 36 "stepped" ["vectors","size"] (kr K)
theorem Fw (D:Def K mg "table" iH ["commas"]) (T:Txt K mg G) (O:Fv P w K mg base G) (Y:base.NoSeer/\P.given.tree=none):Ok P w K mg base 37 "table" ["commas"] (qi K):=by
 have S:=Fu
 refine D.ok S (fun vs H Q E h=>?_) (fun f cZ A outer s H vs Q E hr h=>?_)
 ·obtain ⟨_,_,_,_,rfl,_⟩:=h;rfl
 ·obtain ⟨l,b,xs,rs,rfl,hl,CV,h6,CY,rg,hb,hT,kk⟩:=h
  have hu:=bL hr
  have aC:=T.aC
  have ao:=T.ao
  refine⟨_,(aq (aI (aP O.Jk (hr.mono (by decide)) (aa (aP O.qv (hr.mono (by decide)) (aa (pv 0) ah)) (aa (iw (v:=V.int 5) rfl T.AQ ⟨_,rfl⟩) ah))))),?_⟩
  have lr:=CV.length
  walk_at "w"
  refine mV hl (by lia) ?_
  walk_at "w"
  refine BS (w:=5) (n:=5) (b:=b) ⟨hl,CV,by lia,CY,by decide,by decide,rg,fun i hi=>Nat.lt_trans (MM hb hi).2 (by decide),hT⟩ fun l' H' ys st lf hn sm yC e r hI=>?_
  have hc:=hI.c2
  exact kk l' H' ys st hn sm yC e r hI.all.1 hI.all.2 hI.lst hc hI.bs (fun v hv k hk=>hI.lb v hv k (by rw [abo (le_of_eq (hI.lst v hv))];exact hk))
theorem jQ:aA ["self","commas"] ["self","commas"] (ak bA):=⟨rfl,rfl,rfl,by decide +kernel,rfl,by decide +kernel,by decide +kernel⟩
structure jR(P:Program)(w:World)(K:Frag)(mg:Str->Option Value)(base:Heap)(G:nU):Prop where
 table:Ok P w K mg base 37 "table" ["commas"] (qi K)
theorem jS (D:BD K G.dr "__init__" "CommaTuning.__init__" bA ["self","commas"]) (T:Txt K mg G) (O:jR P w K mg base G) (Y:base.NoSeer/\P.given.tree=none):Mx P w K mg base 38 G.dr ["self","commas"] (dY K):=by
 have S:=jQ
 refine D.ok S (fun vs H Q E h=>?_) (fun f cZ A outer s H vs Q E hr h=>?_)
 ·obtain ⟨_,_,_,_,_,_,_,rfl,_⟩:=h;rfl
 ·obtain ⟨x,l,C,dx,b,xs,rs,rfl,hC,hx,hl,CV,h6,CY,rg,hb,hT,k⟩:=h
  have hu:=bL hr
  have aC:=T.aC
  have ao:=T.ao
  have bz:=T.bz
  have aU:=T.aU
  refine⟨_,(aq (Ir K rfl (pv 0) (aP O.table (hr.mono (by decide)) (aa (pv 1) ah)) rfl)),?_⟩
  obtain rfl:G.aM=C:=by have:=T.dA;rw [hC] at this;cases this;rfl
  walk_at "w"
  refine Jd (b:=b) ⟨hl,CV,h6,CY,rg,hb,hT⟩ fun l1 H1 ys st n1 rS B3 m1 r1 sf eqv l5 h5 _ _=>?_
  have NQ:=lP rS hT hx
  walk_at "w"
  refine Iv NQ bz aU (by decide) ?_
  exact k l1 H1 ys st n1 rS B3 m1 r1 sf eqv l5 NQ
theorem ow:aA ["note","change"] ["note","change"] (ak cw):=⟨rfl,rfl,rfl,by decide +kernel,rfl,by decide +kernel,by decide +kernel⟩
structure oy(P:Program)(w:World)(K:Frag)(mg:Str->Option Value)(base:Heap)(G:nU):Prop where
 AU:tw P w K mg base 4 "tone_of" ["row"] (iI K)
 gO:Mx P w K mg base 36 G.cU ["self","row"] (dQ K)
theorem oz (D:Def K mg "note_changed" cw ["note","change"]) (T:Txt K mg G) (O:oy P w K mg base G) (Y:base.NoSeer/\P.given.tree=none):tw P w K mg base 39 "note_changed" ["note","change"] (fE K):=by
 have S:=ow
 refine D.Qj S (fun vs H Q E h=>?_) (fun f cZ A outer s H vs Q E hr h=>?_)
 ·obtain ⟨_,_,_,_,_,_,_,_,_,rfl,_⟩:=h;rfl
 ·obtain ⟨a,f,cS,b,l0,ob,n,md,st,rfl,⟨a',t,l,ea,ha,ht,hl⟩,mh,rT,zC,aN,kE,kQ⟩:=h
  have hu:=bL hr
  have aC:=T.aC
  have ao:=T.ao
  have bz:=T.bz
  have aU:=T.aU
  refine⟨_,(aq (aI (aV (aa (oX (ba oZ (aO (aD K rfl) (pv 0) ag (fun _ _=>rfl)) fz (aX _)) fz (IA (tN (k:=37) (i:=1) (p:="tone") (y:="tuning") (q:="sounds.<locals>.<lambda>") (params:=BG EW) (body:=BH EW) (scope:=wR EW) (hr.mono (by decide)) (fun _ _ z=>z) rfl rfl (Or.inl rfl) (aO (aD K rfl) (pv 0) ag (fun _ _=>rfl)) (fun _ _ _ _ _=>rfl) rfl rfl rfl rfl (by decide +kernel) (mP rfl) rfl (fun _ _ _ _ _ _ _=>(J2 O.gO T.bz T.fO (((hr.mono (show 36+1<=_ by decide)).deeper _).mono (by decide)) (pv 1) (aa (pv 0) ah)))) (tN (k:=37) (i:=1) (p:="tone") (y:="tuning") (q:="respelled.<locals>.<lambda>") (params:=BG EZ) (body:=BH EZ) (scope:=wR EZ) (hr.mono (by decide)) (fun _ _ z=>z) rfl rfl (Or.inl rfl) (aO (aD K rfl) (pv 0) ag (fun _ _=>rfl)) (fun _ _ _ _ _=>rfl) rfl rfl rfl rfl (by decide +kernel) (mP rfl) rfl (fun _ _ _ _ _ _ _=>(uA O.AU (((hr.mono (show 36+1<=_ by decide)).deeper _).mono (by decide)) (fun _ _ z=>z) rfl (aa (J2 O.gO T.bz T.fO (((hr.mono (show 36+1<=_ by decide)).deeper _).mono (by decide)) (pv 1) (aa (pv 0) ah)) ah)))))) (aa (aO (aD K rfl) (pv 0) ag (fun _ _=>rfl)) ah))))),?_⟩
  obtain rfl:a=a':=by cases ea;rfl
  obtain ⟨n1,nt,nb⟩:=n
  walk_at "w"
  cases n1 with
  | none =>
   obtain rfl:t=.dB:=ht
   refine⟨rfl,?_⟩
   walk_at "w"
   refine gJ rfl ?_
   walk_at "w"
   rename_i p1 H1 s1 m1
   exact kQ (by cases md <;> rfl) p1 H1 s1 ⟨p1,.dB,l,rfl,aR.of m1,rfl,s1.at hl⟩
  | some r =>
   obtain ⟨ar,rfl,Gp,l5⟩:=ht
   have M6:=mh r rfl
   refine⟨rfl,?_⟩
   walk_at "w"
   refine dE rfl ?_
   cases md with
   | false =>
    have hL:ij H f cS (.ref b) ob "sounds.<locals>.<lambda>" "tuning" (BG EW) (BH EW) (wR EW):=rT
    obtain ⟨c',cl,l1,l2,l3,l4,xO⟩:=id hL
    refine .inl ⟨f,rfl,⟨_,_,_,_,_,_,l1⟩,?_⟩
    walk_at "w"
    refine⟨cS,.ref b,ob,hL,?_⟩
    have Rq:=zC.del xO
    obtain ⟨C0,dx0,ys0,V7,Vv,_⟩:=id Rq
    obtain rfl:G.aM=C0:=by have:=T.dA;rw [V7] at this;cases this;rfl
    walk_at "w"
    refine fP ⟨Rq,aN,fi Gp xO,l5,E6 M6⟩ fun p2 H2 v s2 m2 hv=>?_
    intro hn
    have ev:=pY aN.1 aN.2.1 l5 hv
    have sH:=aj.del xO s2
    have m3:=(aj.bf (o:=bE cS (.ref b) ob) hn).at m2
    have V8:=sH.at ha
    have L6:=sH.at hl
    generalize upd H2 cS (bE cS (.ref b) ob)=H4 at sH m3 V8 L6 ⊢
    walk_at "w"
    rename_i p5 H5 s5 m5
    refine kQ rfl p5 H5 (sH.trans s5) ⟨p5,.ref p2,l,rfl,aR.of m5,⟨p2,rfl,?_,?_⟩,s5.at L6⟩
    ·rw [ev]
     exact s5.at m3
    ·rw [ev]
     exact hv.1
   | true =>
    have hL:ij H f cS (.ref b) ob "respelled.<locals>.<lambda>" "tuning" (BG EZ) (BH EZ) (wR EZ):=rT
    obtain ⟨c',cl,l1,l2,l3,l4,xO⟩:=id hL
    refine .inr ⟨f,rfl,⟨_,_,_,_,_,_,l1⟩,?_⟩
    walk_at "w"
    refine⟨cS,.ref b,ob,hL,?_⟩
    have Rq:=zC.del xO
    obtain ⟨C0,dx0,ys0,V7,Vv,_⟩:=id Rq
    obtain rfl:G.aM=C0:=by have:=T.dA;rw [V7] at this;cases this;rfl
    walk_at "w"
    refine fP ⟨Rq,aN,fi Gp xO,l5,E6 M6⟩ fun p2 H2 v s2 m2 hv=>?_
    have ev:=pY aN.1 aN.2.1 l5 hv
    obtain ⟨v0,v1,v2,v3,v4,rfl⟩:=dh hv.1
    have eok:xP true st (some r,nt,nb)=fits v0 v1 v2 v3 v4:=by
     show (false || qU (fj st (some r,nt,nb)))=_
     rw [Bool.false_or]
     show E1 (AM st r)=_
     rw [ev]
     rfl
    rw [eok] at kE kQ
    walk_at "w"
    refine BR m2 (fun hf C H3 hC s3=>⟨C,rfl,fun _=>⟨C,rfl,?_⟩⟩) (fun hf H3 s3 CP=>?_)
    ·exact kE hf C _ hC (aj.del xO (s2.trans s3))
    ·have sH:=aj.del xO (s2.trans s3)
     have m3:=(aj.bf (o:=bE cS (.ref b) ob) CP).at (s3.at m2)
     have V8:=sH.at ha
     have L6:=sH.at hl
     generalize upd H3 cS (bE cS (.ref b) ob)=H4 at sH m3 V8 L6 ⊢
     walk_at "w"
     rename_i p5 H5 s5 m5
     refine kQ hf p5 H5 (sH.trans s5) ⟨p5,.ref p2,l,rfl,aR.of m5,⟨p2,rfl,?_,?_⟩,s5.at L6⟩
     ·rw [ev]
      exact s5.at m3
     ·rw [ev]
      rfl
theorem qw:aA ["bar","change"] ["bar","change"] (ak cM):=⟨rfl,rfl,rfl,by decide +kernel,rfl,by decide +kernel,by decide +kernel⟩
structure qA(P:Program)(w:World)(K:Frag)(mg:Str->Option Value)(base:Heap)(G:nU):Prop where
 vb:tw P w K mg base 39 "note_changed" ["note","change"] (fE K)
theorem qB (D:Def K mg "bar_changed" cM ["bar","change"]) (T:Txt K mg G) (O:qA P w K mg base G) (Y:base.NoSeer/\P.given.tree=none):tw P w K mg base 40 "bar_changed" ["bar","change"] (gq K):=by
 have S:=qw
 refine D.okP S (fun vs H Q E h=>?_) (fun f cZ A outer s H vs Q E hr h=>?_)
 ·obtain ⟨_,_,_,_,_,_,_,_,_,_,rfl,_⟩:=h;rfl
 ·obtain ⟨a,f,cS,b,ob,xs,ns,md,st,l0,rfl,ha,hn,Fx,mh,rT,hb,lq,kE,kQ⟩:=h
  have hu:=bL hr
  have aC:=T.aC
  have ao:=T.ao
  refine⟨_,(aq (aI (wM (N:=["note","change"]) (ix:=[none,some 1]) rfl rfl rfl (fun _ _ z=>.inr z) rfl (aZ K rfl (pv 0)) (fun _ _ _ _ _=>(ax (i:=0) (show je ["note","change"] by decide +kernel) rfl (Or.inl rfl))) (fun _ _ _ _ _=>rfl) (fun _ _ _ _ _ _ hz=>(AD O.vb (hr.mono (by decide)) (fun _ _ z=>z) (fun b hb=>(hz b hb).imp fun _ z=>aaZ _ z) (aa (pv 0) (aa (pv 1) ah)))) rfl (by decide +kernel) (by decide +kernel) rfl ⟨⟨rfl,Or.inr (Or.inl rfl),rfl,rfl⟩,True.intro⟩))),?_⟩
  have lx:=hn.length
  walk_at "w"
  refine AB ?_
  walk_at "w"
  refine eI 1 [some (.ref f)] ns.length (fun l i ys H'=>bc K H' ys ((ns.take i).map (fj st))/\∀ n∈ns.take i,xP md st n=true) rfl (fun l H' _ _ _=>⟨.nil,by simp⟩) (fun l i ys H' h=>by have:=h.1.length;rw [aa4,abi] at this;lia) (fun H' s=>⟨xs,s.seq ha,by lia⟩) (fun i H' hi s=>⟨xs,xs[i]'(by lia),s.seq ha,aaY (by lia)⟩) (fun l i x H' H2 own ys ho hi wJ s9 d6 hp hy Qy Qn ky kn=>?_) (fun l H' ys wJ s9 d6 hp=>?_)
  ·obtain ⟨o1,rfl⟩:∃ o1,own=[o1]:=by match own,ho with|[o1],_=>exact⟨o1,rfl⟩
   obtain ⟨rfl,e⟩:=hy
   obtain ⟨n,ik,nP⟩:=(hn.same s9).get (e xs (s9.seq ha))
   have AS:n∈ns:=aa3 nP
   have et:ns.take (i+1)=ns.take i++[n]:=by rw [take_add_one,nP];rfl
   obtain ⟨a1,t1,l1,rfl,me⟩:=id ik
   walk_at "w"
   refine jM ?_
   walk_at "w"
   refine qk ⟨ik,mh n AS,rT.same s9,hb.same s9,lq⟩ ⟨fun hf C H9 hC ou=>?_,fun hf p H9 ou hm=>?_⟩
   ·exact⟨C,rfl,kE ⟨n,AS,hf⟩ C H9 hC (s9.trans ou)⟩
   ·refine ky [some (.ref a1)] _ H9 rfl ou ⟨?_,fun m j9=>?_⟩
    ·rw [et,abl]
     exact ((hp.1.same ou).off (ou _ _ d6)).snoc (hm.off (ou _ _ d6))
    ·rw [et] at j9
     rcases aa2.mp j9 with z|z
     ·exact hp.2 m z
     ·rw [aa1.mp z];exact hf
  ·rw [abh] at hp
   exact kQ hp.2 l H' ys wJ s9 d6 hp.1
theorem zD:aA ["tune","change"] ["tune","change"] (ak eS):=⟨rfl,rfl,rfl,by decide +kernel,rfl,by decide +kernel,by decide +kernel⟩
structure zE(P:Program)(w:World)(K:Frag)(mg:Str->Option Value)(base:Heap)(G:nU):Prop where
 xw:tw P w K mg base 40 "bar_changed" ["bar","change"] (gq K)
theorem zF (D:Def K mg "changed" eS ["tune","change"]) (T:Txt K mg G) (O:zE P w K mg base G) (Y:base.NoSeer/\P.given.tree=none):tw P w K mg base 41 "changed" ["tune","change"] (iJ K):=by
 have S:=zD
 refine D.okP S (fun vs H Q E h=>?_) (fun f cZ A outer s H vs Q E hr h=>?_)
 ·obtain ⟨_,_,_,_,_,_,_,_,_,_,_,_,_,rfl,_⟩:=h;rfl
 ·obtain ⟨a,m,l,f,cS,b,mt,ob,xs,bs,md,st,l0,rfl,⟨ha,hm,hl,Fo⟩,Fx,Kp,rT,hb,lq,kE,kQ⟩:=h
  have hu:=bL hr
  have aC:=T.aC
  have ao:=T.ao
  refine⟨_,(aq (aI (aV (aa (aO (aD K rfl) (pv 0) ag (fun _ _=>rfl)) (aa (wM (N:=["bar","change"]) (ix:=[none,some 1]) rfl rfl rfl (fun _ _ z=>.inr z) rfl (aZ K rfl (aO (aD K rfl) (pv 0) ag (fun _ _=>rfl))) (fun _ _ _ _ _=>(ax (i:=0) (show je ["bar","change"] by decide +kernel) rfl (Or.inl rfl))) (fun _ _ _ _ _=>rfl) (fun _ _ _ _ _ _ hz=>(AD O.xw (hr.mono (by decide)) (fun _ _ z=>z) (fun b hb=>(hz b hb).imp fun _ z=>aaZ _ z) (aa (pv 0) (aa (pv 1) ah)))) rfl (by decide +kernel) (by decide +kernel) rfl ⟨⟨rfl,Or.inr (Or.inl rfl),rfl,rfl⟩,True.intro⟩) ah))))),?_⟩
  have lx:=Fo.length
  walk_at "w"
  refine AB ?_
  walk_at "w"
  refine eI 1 [some (.ref f)] bs.length (fun l i ys H'=>cb K H' ys ((bs.take i).map fun ns=>ns.map (fj st))/\(V.ref l∉ys)/\(∀ ns∈bs.take i,∀ n∈ns,xP md st n=true)/\∀ x∈ys,∃ b,x=V.ref b/\H b=none) rfl (fun l H' _ _ _=>⟨.nil,(fun z=>nomatch z),by simp,fun _ z=>nomatch z⟩) (fun l i ys H' h=>by have:=h.1.length;rw [aa4,abi] at this;lia) (fun H' s=>⟨xs,s.seq (aW.of hl),by lia⟩) (fun i H' hi s=>⟨xs,xs[i]'(by lia),s.seq (aW.of hl),aaY (by lia)⟩) (fun l2 i x H' H2 own ys ho hi wJ s9 d6 hp hy Qy Qn ky kn=>?_) (fun l2 H' ys wJ s9 d6 hp=>?_)
  ·obtain ⟨o1,rfl⟩:∃ o1,own=[o1]:=by match own,ho with|[o1],_=>exact⟨o1,rfl⟩
   obtain ⟨rfl,e⟩:=hy
   obtain ⟨a1,zs,ns,rfl,hz,nQ,nP⟩:=(Fo.same s9).get (e xs (s9.seq (aW.of hl)))
   have AS:ns∈bs:=aa3 nP
   have et:bs.take (i+1)=bs.take i++[ns]:=by rw [take_add_one,nP];rfl
   walk_at "w"
   refine jM ?_
   walk_at "w"
   refine rE ⟨aW.of hz,nQ,(Kp ns AS).1,(Kp ns AS).2,rT.same s9,hb.same s9,lq⟩ ⟨fun hf C H9 hC ou=>?_,fun hf l3 H9 zs9 n9 ou m9 hm9=>?_⟩
   ·obtain ⟨n,wO,vB⟩:=hf
    exact⟨C,rfl,kE ⟨ns,AS,n,wO,vB⟩ C H9 hC (s9.trans ou)⟩
   ·have Jg:=ou _ _ d6
    have ne:l3≠l2:=fun z=>by rw [z,d6] at n9;cases n9
    refine ky [some (.ref a1)] _ H9 rfl ou ⟨?_,fun z=>?_,fun q hq=>?_,fun x hx=>?_⟩
    ·rw [et,abl]
     exact ((hp.1.same ou).off Jg hp.2.1).snoc (by rw [au ne];exact m9) (hm9.off Jg)
    ·rcases aa2.mp z with z|z
     ·exact hp.2.1 z
     ·have:=aa1.mp z
      cases this
      exact ne rfl
    ·rw [et] at hq
     rcases aa2.mp hq with z|z
     ·exact hp.2.2.1 q z
     ·rw [aa1.mp z];exact hf
    ·rcases aa2.mp hx with z|z
     ·exact hp.2.2.2 x z
     ·exact⟨l3,aa1.mp z,s9.new n9⟩
  ·rw [abh] at hp
   have ha9:=s9.at ha
   walk_at "w"
   rename_i p5 H5 s5 m5
   exact kQ hp.2.2.1 p5 l2 H5 ys wJ (s9.trans s5) hp.2.2.2 ⟨aR.of m5,(s9.trans s5).at hm,s5 _ _ d6,hp.1.same s5⟩
theorem B4:aA ["tuning","tune"] ["tuning","tune"] (ak gk):=⟨rfl,rfl,rfl,by decide +kernel,rfl,by decide +kernel,by decide +kernel⟩
structure B5(P:Program)(w:World)(K:Frag)(mg:Str->Option Value)(base:Heap)(G:nU):Prop where
 changed:tw P w K mg base 41 "changed" ["tune","change"] (iJ K)
theorem B6 (D:rn K mg "sounds" gk ["tuning","tune"] G.bT) (T:Txt K mg G) (O:B5 P w K mg base G) (Y:base.NoSeer/\P.given.tree=none) (B:CodeHd base G.bT (dX K "sounds")/\base.BuiltinsAt mg (dX K "sounds")):tw P w K mg base 42 "sounds" ["tuning","tune"] (mS K):=by
 have S:=B4
 refine D.Qj S (fun vs H Q E h=>?_) (fun f A outer s H vs Q E hr h=>?_)
 ·obtain ⟨_,_,_,_,_,_,_,_,_,rfl,_⟩:=h;rfl
 ·obtain ⟨a,m,l,x,l0,mt,xs,bs,st,rfl,yq,Fx,mh,zC,aN,hT,kQ⟩:=h
  have hu:=bL hr
  have aC:=T.aC
  have ao:=T.ao
  refine⟨_,(aq (aI (AF (y:="tuning") (j:=0) O.changed (hr.mono (by decide)) (fun _ _ z=>z) rfl (aa (pv 1) (aa (AE (q:="sounds.<locals>.<lambda>") (lp:=Kc) rfl rfl B.1 B.2 rfl rfl) ah)) rfl (Or.inr (Or.inl rfl)) rfl rfl))),?_⟩
  obtain ⟨M4,M5,Ko,Gr⟩:=yq
  walk_at "w"
  refine⟨.ref a,rfl,hT.2 (dX K "sounds",Kc,"sounds.<locals>.<lambda>") (.tail _ (.head _)),fun f1 c1 H1 Na Rr Md MF=>?_⟩
  have B3:bP K H1:=cY.step (t:=(dX K "sounds",Kc,"sounds.<locals>.<lambda>")) hT (.tail _ (.head _)) Na Rr
  have rS:i6 K H H1:=cX.s (t:=(dX K "sounds",Kc,"sounds.<locals>.<lambda>")) Na (.tail _ (.head _))
  clear Na Rr
  refine⟨.ref x,rfl,fun c ob pG hn=>?_⟩
  have tu:aG K H1 a m l mt xs bs:=⟨rS.at hT M4,rS.at hT M5,rS.lst hT Ko,Gr.keep hT rS⟩
  have sc:aj H1 (upd H1 c (bE c (.ref x) ob)):=aj.bf hn
  have Fy:=wW (y:="tuning") (names:=(wR EW).names) rfl (by decide) pG
  have rT:pZ false (upd H1 c (bE c (.ref x) ob)) f1 c x ob:=⟨c1,_,sc _ _ Md,sc _ _ MF,Fy.1,Fy.2,aw⟩
  refine tW ⟨tu.same sc,Fx,mh,rT,(zC.keep hT rS).same sc,aN⟩ ⟨fun Jl C H2 hC s2=>?_,fun Kq t2 l2 H2 ys n2 s2 f2 h2=>?_⟩
  ·obtain ⟨ns,_,n,_,h3⟩:=Jl
   have e:xP false st n=true:=rfl
   rw [e] at h3
   cases h3
  ·refine⟨s2 _ _ aw,kQ t2 l2 _ ys (rS.new B3 (sc.new n2)) (rS.trans (bK.of (aj.wN hn s2))) (B3.same (aj.wN hn s2)) (fun y hy=>?_) (h2.del (s2 _ _ aw))⟩
   obtain ⟨b3,rfl,n3⟩:=f2 y hy
   exact⟨b3,rfl,rS.new B3 (sc.new n3)⟩
theorem vc:aA ["tuning","tune"] ["tuning","tune"] (ak dI):=⟨rfl,rfl,rfl,by decide +kernel,rfl,by decide +kernel,by decide +kernel⟩
structure vd(P:Program)(w:World)(K:Frag)(mg:Str->Option Value)(base:Heap)(G:nU):Prop where
 AU:tw P w K mg base 4 "tone_of" ["row"] (iI K)
 changed:tw P w K mg base 41 "changed" ["tune","change"] (iJ K)
theorem ve (D:rn K mg "respelled" dI ["tuning","tune"] G.bp) (T:Txt K mg G) (O:vd P w K mg base G) (Y:base.NoSeer/\P.given.tree=none) (B:CodeHd base G.bp (dX K "respelled")/\base.BuiltinsAt mg (dX K "respelled")):tw P w K mg base 42 "respelled" ["tuning","tune"] (iK K):=by
 have S:=vc
 refine D.Qj S (fun vs H Q E h=>?_) (fun f A outer s H vs Q E hr h=>?_)
 ·obtain ⟨_,_,_,_,_,_,_,_,_,rfl,_⟩:=h;rfl
 ·obtain ⟨a,m,l,x,l0,mt,xs,bs,st,rfl,yq,Fx,mh,zC,aN,hT,kQ⟩:=h
  have hu:=bL hr
  have aC:=T.aC
  have ao:=T.ao
  refine⟨_,(aq (aI (AF (y:="tuning") (j:=0) O.changed (hr.mono (by decide)) (fun _ _ z=>z) rfl (aa (pv 1) (aa (AE (q:="respelled.<locals>.<lambda>") (lp:=Kd) rfl rfl B.1 B.2 rfl rfl) ah)) rfl (Or.inr (Or.inl rfl)) rfl rfl))),?_⟩
  obtain ⟨M4,M5,Ko,Gr⟩:=yq
  walk_at "w"
  refine⟨.ref a,rfl,hT.2 (dX K "respelled",Kd,"respelled.<locals>.<lambda>") (.tail _ (.tail _ (.head _))),fun f1 c1 H1 Na Rr Md MF=>?_⟩
  have B3:bP K H1:=cY.step (t:=(dX K "respelled",Kd,"respelled.<locals>.<lambda>")) hT (.tail _ (.tail _ (.head _))) Na Rr
  have rS:i6 K H H1:=cX.s (t:=(dX K "respelled",Kd,"respelled.<locals>.<lambda>")) Na (.tail _ (.tail _ (.head _)))
  clear Na Rr
  refine⟨.ref x,rfl,fun c ob pG hn=>?_⟩
  have tu:aG K H1 a m l mt xs bs:=⟨rS.at hT M4,rS.at hT M5,rS.lst hT Ko,Gr.keep hT rS⟩
  have sc:aj H1 (upd H1 c (bE c (.ref x) ob)):=aj.bf hn
  have Fy:=wW (y:="tuning") (names:=(wR EZ).names) rfl (by decide) pG
  have rT:pZ true (upd H1 c (bE c (.ref x) ob)) f1 c x ob:=⟨c1,_,sc _ _ Md,sc _ _ MF,Fy.1,Fy.2,aw⟩
  refine tW ⟨tu.same sc,Fx,mh,rT,(zC.keep hT rS).same sc,aN⟩ ⟨fun Jl C H2 hC s2=>?_,fun Kq t2 l2 H2 ys n2 s2 f2 h2=>?_⟩
  ·refine⟨s2 _ _ aw,C,rfl,kQ.1 Jl C _ hC (rS.trans (bK.of (aj.wN hn s2))) (B3.same (aj.wN hn s2))⟩
  ·refine⟨s2 _ _ aw,kQ.2 Kq t2 l2 _ ys (rS.new B3 (sc.new n2)) (rS.trans (bK.of (aj.wN hn s2))) (B3.same (aj.wN hn s2)) (fun y hy=>?_) (h2.del (s2 _ _ aw))⟩
   obtain ⟨b3,rfl,n3⟩:=f2 y hy
   exact⟨b3,rfl,rS.new B3 (sc.new n3)⟩
theorem qC:aA ["tuning","one","other"] ["tuning","one","other"] (ak cN):=⟨rfl,rfl,rfl,by decide +kernel,rfl,by decide +kernel,by decide +kernel⟩
structure qD(P:Program)(w:World)(K:Frag)(mg:Str->Option Value)(base:Heap)(G:nU):Prop where
 Fz:tw P w K mg base 42 "sounds" ["tuning","tune"] (mS K)
theorem qE (D:Def K mg "heard_alike" cN ["tuning","one","other"]) (T:Txt K mg G) (O:qD P w K mg base G) (Y:base.NoSeer/\P.given.tree=none):Ok P w K mg base 43 "heard_alike" ["tuning","one","other"] (gu K):=by
 have S:=qC
 refine D.ok S (fun vs H Q E h=>?_) (fun f cZ A outer s H vs Q E hr h=>?_)
 ·obtain ⟨_,_,_,_,_,_,_,_,_,_,_,_,_,_,_,rfl,_⟩:=h;rfl
 ·obtain ⟨x,l0,a1,m1,l1,a2,m2,l2,MV,MW,Q3,Q4,Fh,Fi,st,rfl,t1,h1,r1,t2,h2,r2,zC,aN,hT,k⟩:=h
  have hu:=bL hr
  have aC:=T.aC
  have ao:=T.ao
  refine⟨_,(aq (aI (gG (Au K rfl hr.units) (uA (EX:=fun _ _ _=>False) O.Fz (hr.mono (by decide)) noraise rfl (aa (pv 0) (aa (pv 1) ah))) (uA (EX:=fun _ _ _=>False) O.Fz (hr.mono (by decide)) noraise rfl (aa (pv 0) (aa (pv 2) ah))) (aX _)))),?_⟩
  walk_at "w"
  refine xc ⟨t1,h1,r1,zC,aN,hT⟩ fun ta la HA ya nA V9 uu fA tua=>?_
  walk_at "w"
  refine xc ⟨t2.keep hT V9,h2,r2,zC.keep hT V9,aN,uu⟩ fun tb lb HB yb nB Kr Wa fB tub=>?_
  walk_at "w"
  refine J0 (jJ (tua.keep uu Kr)) (jJ tub) (fS _ _) (fS _ _) ?_
  exact k _ (V9.trans Kr) Wa
theorem B7:aA ["_law_tuning","_law_tune_here","_law_due","_law_handed","_law_found","_law_fine","e"] ["_law_tuning","_law_tune_here","_law_due"] (ak gn):=⟨rfl,rfl,rfl,by decide +kernel,rfl,by decide +kernel,by decide +kernel⟩
structure B8(P:Program)(w:World)(K:Frag)(mg:Str->Option Value)(base:Heap)(G:nU):Prop where
 B9:tw P w K mg base 42 "respelled" ["tuning","tune"] (iK K)
 mY:Ok P w K mg base 7 "_law_alike" ["_law_found","_law_due"] (fT K 6)
 FA:Ok P w K mg base 1 "_law_copy" ["_law_tune_here"] (js K)
 qF:Ok P w K mg base 1 "_law_fits" ["_law_tune_here"] (gN K)
theorem Ca (D:Def K mg "_law_is" gn ["_law_tuning","_law_tune_here","_law_due"]) (T:Txt K mg G) (O:B8 P w K mg base G) (Y:base.NoSeer/\P.given.tree=none):Ok P w K mg base 43 "_law_is" ["_law_tuning","_law_tune_here","_law_due"] (mU K):=by
 have S:=B7
 refine D.ok S (fun vs H Q E h=>?_) (fun f cZ A outer s H vs Q E hr h=>?_)
 ·obtain ⟨_,_,_,_,_,_,_,_,_,_,_,_,_,rfl,_⟩:=h;rfl
 ·obtain ⟨x,l0,a,m,l,dd,dm,dl,mt,xs,yd,bs,st,rfl,tu,hR,tud,zC,aN,hT,k⟩:=h
  have hu:=bL hr
  have aC:=T.aC
  have ao:=T.ao
  refine⟨_,(ai (ay (i:=3) S.nd rfl (Or.inl rfl) (aP O.FA (hr.mono (by decide)) (aa (pv 1) ah))) (ai (ay (i:=4) S.nd rfl (Or.inl rfl) fz) (ai (ay (i:=5) S.nd rfl (Or.inl rfl) fW) (ai (Me (i:=6) T.w9 rfl rfl rfl S.nd rfl rfl rfl T.w8 (fun _ _=>(aq (ay (i:=4) S.nd rfl (Or.inl rfl) (uA O.B9 (hr.mono (by decide)) (fun _ _ z=>z) rfl (aa (pv 0) (aa (pv 3) ah)))))) (fun _=>(aq (ay (i:=5) S.nd rfl (Or.inl rfl) (jg (aH (yF K rfl) rfl T.aS boot_isinstance (aa (pv 6) (aa (iw (v:=V.ref G.cy) rfl T.xa rfl) ah))) (jg (aH (yF K rfl) rfl T.aS boot_isinstance (aa (pv 6) (aa (dC (v:=V.ty "ValueError") rfl T.uO L2.oj rfl) ah))) (j6 (xT (aH (yF K rfl) rfl T.aS boot_isinstance (aa (pv 6) (aa (iw (v:=V.ref G.eY) rfl T.yU rfl) ah))))))))))) (ai (cP (eM (dG (aP O.mY (hr.mono (by decide)) (aa (pv 3) (aa (pv 1) ah))))) (aq (aI fW)) bg) (ai (cP (eM (dG (aP O.qF (hr.mono (by decide)) (aa (pv 2) ah)))) (aq (aI (pv 5))) bg) (ai (cP (eM (dG (aP O.mY (hr.mono (by decide)) (aa (pv 4) (aa (pv 2) ah))))) (aq (aI fW)) bg) (ai (fb (Lc PySem.F.plainAttrs_list PySem.F.slot_list_clear PySem.F.type_list_clear DF (aO (aD K rfl) (aO (aD K rfl) (pv 4) ag (fun _ _=>rfl)) ag (fun _ _=>rfl)))) (aq (aI (aP O.mY (hr.mono (by decide)) (aa (pv 3) (aa (pv 1) ah))))))))))))),?_⟩
  have ze:=hR.2.1
  have Cb:∀ ns∈bs,ns.length<=12:=fun ns h=>(hR.2.2 ns h).2.1
  have j4:bs.length<=100:=by lia
  have AV:∀ ns∈bs,ns.length<=100:=fun ns h=>aaJ (Cb ns h) (by decide)
  have FC:(bs.map fun ns=>ns.map (fj st)).length<=12:=by rw [aa4];exact ze
  have FD:(bs.map fun ns=>ns.map (fj st)).length<=100:=by rw [aa4];exact j4
  have mh:=hR.lV (by lia)
  walk_at "w"
  refine yZ ⟨tu,ze⟩ fun th lh H5 yh n5 s5 Rt=>?_
  have Wb:=tu.same s5
  have Ru:=tud.same s5
  have Rv:=zC.same s5
  have C2:bP K H5:=hT.same s5
  walk_at "w"
  cases rf:bs.all fun ns=>ns.all fun n=>qU (fj st n) with
  | false =>
   refine nV ⟨Rt,j4,mh,Rv,aN,C2⟩ ⟨fun Jl C H6 hC N7 Rw=>?_,fun hg=>(by obtain ⟨ns,h1,n,h2,h3⟩:=(yS rf).1;rw [hg ns h1 n h2] at h3;cases h3)⟩
   obtain rfl:C=G.cy:=by rw [T.xb] at hC;cases hC;rfl
   refine⟨_,rfl,T.cz,fun ae hae=>?_⟩
   have sX:aj H6 _:=aj.bf (o:=pN ae G.cy) hae
   walk_at "w"
   refine Em T.fx aw (jk _ _) ?_
   walk_at "w"
   refine jM ?_
   walk_at "w"
   refine Mf T.fx aw (Mg oi T.bX) ?_
   walk_at "w"
   refine jM ?_
   walk_at "w"
   refine Em T.fx aw (HS T.yV T.cJ T.cI) ?_
   have Rx:i6 K H5 (upd H6 ae (pN ae G.cy)):=N7.trans (bK.of sX)
   have hT7:bP K (upd H6 ae (pN ae G.cy)):=Rw.same sX
   have tu7:=Wb.keep C2 Rx
   have Ry:=Rt.keep C2 Rx
   have Rz:=Ru.keep C2 Rx
   generalize upd H6 ae (pN ae G.cy)=H7 at sX Rx hT7 tu7 Ry Rz ⊢
   walk_at "w"
   refine en (lU Ry tu7 j4 AV) fun H8 s8=>?_
   walk_at "w"
   refine dE rfl ?_
   walk_at "w"
   refine iN ⟨Rz.same s8,FC,qf Cb⟩ ⟨fun _ H9 s9=>?_,fun hg=>?_⟩
   ·walk_at "w"
    refine gJ rfl ?_
    walk_at "w"
    exact k _ ((bK.of s5).trans (Rx.trans (bK.of (s8.trans s9)))) (hT7.same (s8.trans s9))
   ·obtain ⟨ns,h1,n,h2,h3⟩:=(yS rf).2
    rw [hg ns h1 n h2] at h3
    cases h3
  | true =>
   refine nV ⟨Rt,j4,mh,Rv,aN,C2⟩ ⟨fun hb=>(by obtain ⟨ns,h1,n,h2,h3⟩:=hb;rw [(uN rf).1 ns h1 n h2] at h3;cases h3),fun _ tf lf H6 yf n6 N7 Rw fr6 tuf=>?_⟩
   have tu6:=Wb.keep C2 N7
   have Wc:=Rt.keep C2 N7
   have RA:=Ru.keep C2 N7
   walk_at "w"
   refine en (lU Wc tu6 j4 AV) fun H8 s8=>?_
   walk_at "w"
   refine dE rfl ?_
   walk_at "w"
   refine iN ⟨RA.same s8,FC,qf Cb⟩ ⟨fun hb=>(by obtain ⟨ns,h1,n,h2,h3⟩:=hb;rw [(uN rf).2 ns h1 n h2] at h3;cases h3),fun _ H9 s9=>?_⟩
   walk_at "w"
   refine dE rfl ?_
   have Wd:=s8.trans s9
   walk_at "w"
   refine en (lU (tuf.same Wd) (RA.same Wd) FD (qf AV)) fun HM sM=>?_
   walk_at "w"
   refine dE rfl ?_
   have We:=Wd.trans sM
   obtain ⟨uf1,uf2,uf3,uf4⟩:=tuf.same We
   obtain ⟨af,zf,xf,rfl,haf⟩:=uf4.head (by rw [aa4];exact hR.1)
   have naf:H5 af=none:=by
    obtain ⟨b9,e9,h9⟩:=fr6 _ (.head _)
    cases e9
    exact h9
   walk_at "w"
   refine fN (aW.of uf3) (bF (j:=0) rfl) ?_
   walk_at "w"
   refine IB haf ?_
   have Te:i6 K H5 (upd HM af (.lst [])):=(N7.trans (bK.of We)).cR naf
   have hTN:bP K (upd HM af (.lst [])):=(Rw.same We).off haf
   have tuN:=Wb.keep C2 Te
   have RC:=Rt.keep C2 Te
   generalize upd HM af (.lst [])=HN at Te hTN tuN RC ⊢
   walk_at "w"
   refine en (lU RC tuN j4 AV) fun HO sO=>?_
   exact k _ ((bK.of s5).trans (Te.trans (bK.of sO))) (hTN.same sO)
theorem Nb:aA ["_law_script","_law_steps_here","_law_tuning","_law_one","_law_bounds","_law_other_here","_law_dues","_law_found"] ["_law_script"] (ak lM):=⟨rfl,rfl,rfl,by decide +kernel,rfl,by decide +kernel,by decide +kernel⟩
structure Nc(P:Program)(w:World)(K:Frag)(mg:Str->Option Value)(base:Heap)(G:nU):Prop where
 nX:Ok P w K mg base 43 "heard_alike" ["tuning","one","other"] (gu K)
 bB:Ok P w K mg base 1 "_law_cell_at" ["_law_script","_law_k"] (dP K)
 FE:Ok P w K mg base 3 "_law_tune" ["_law_script","_law_at"] (jr K)
 Jm:Ok P w K mg base 1 "_law_put" ["_law_tune_here","_law_span"] (kB K)
 qF:Ok P w K mg base 1 "_law_fits" ["_law_tune_here"] (gN K)
 Cc:Ok P w K mg base 2 "_law_steps" ["_law_script","_law_at"] (iL K)
 zG:Ok P w K mg base 2 "_law_commas" ["_law_steps_here","_law_cell"] (gU K)
 AW:Ok P w K mg base 2 "_law_all" ["_law_steps_here","_law_tune_here"] (kC K)
 Cd:Ok P w K mg base 2 "_law_other" ["_law_steps_here","_law_tune_here","_law_cell"] (iM K)
 zH:Ok P w K mg base 43 "_law_is" ["_law_tuning","_law_tune_here","_law_due"] (mU K)
 mZ:Mx P w K mg base 38 G.dr ["self","commas"] (dY K)
theorem Nd {f:Addr} {fd:FuncData} (F:JI K "law" "law" lM f fd) (T:Txt K mg G) (O:Nc P w K mg base G) (Y:base.NoSeer/\P.given.tree=none):j8 P w K mg base CI 44 f fd ["_law_script"] ((uI fun K=>[((dX K "parted"),IP,"parted.<locals>.<lambda>"),((dX K "sounds"),Kc,"sounds.<locals>.<lambda>"),((dX K "respelled"),Kd,"respelled.<locals>.<lambda>")]) K):=by
 have S:=Nb
 refine F.ok S (fun vs H Q E h=>?_) (fun cZ A outer s H vs Q E hr h=>?_)
 ·obtain ⟨_,_,rfl,_⟩:=h;rfl
 ·obtain ⟨a,ns,rfl,hS,hlen,hT,k⟩:=h
  have hu:=bL hr
  have aC:=T.aC
  have ao:=T.ao
  have bz:=T.bz
  have aU:=T.aU
  refine⟨_,(@ai _ _ _ _ _ (ay (i:=1) S.nd rfl (Or.inl rfl) (aP O.Cc (hr.mono (by decide)) (aa (pv 0) (aa ag ah)))) (@ai _ _ _ _ _ (ay (i:=2) S.nd rfl (Or.inl rfl) (QG O.mZ T.rD (hr.mono (by decide)) rfl T.rB (aa (aP O.zG (hr.mono (by decide)) (aa (pv 1) (aa (aP O.bB (hr.mono (by decide)) (aa (pv 0) (aa ag ah))) ah))) ah))) (@ai _ _ _ _ _ (ay (i:=3) S.nd rfl (Or.inl rfl) (aP O.FE (hr.mono (by decide)) (aa (pv 0) (aa ag ah)))) (@ai _ _ _ _ _ (cP (ba jW (av bu (aP O.bB (hr.mono (by decide)) (aa (pv 0) (aa ag ah))) ag) ag (aX _)) (@ai _ _ _ _ _ (@ay _ _ 4 _ _ _ _ S.nd rfl (Or.inr rfl) (@uH _ _ _ _ (by rfl)) (by rfl) (by first|exact .inl rfl|exact .inr rfl|assumption)) (aq (ay (i:=3) S.nd rfl (Or.inl rfl) (aP O.Jm (hr.mono (by decide)) (aa (pv 3) (aa (bU (N:=["_law_k","_law_bounds","_law_script"]) (ix:=[none,some 4,some 0]) rfl (eN rfl T.gM (aa ag ah)) (fun _ _ _ _ _=>(ax (i:=0) (show je ["_law_k","_law_bounds","_law_script"] by decide +kernel) rfl (Or.inl rfl))) (fun _ _ _ _ _=>rfl) (fun _ _ _ _ _=>(av d3 (av bu (aP O.bB (hr.mono (by decide)) (aa (pv 2) (aa (av bh ag (pv 0)) ah))) (av bh (av fC ag (aO (aD K rfl) (pv 1) (pv 0) (fun _ _=>rfl))) ag)) (aO (aD K rfl) (pv 1) (pv 0) (fun _ _=>rfl)))) rfl (by decide +kernel) (by decide +kernel) rfl ⟨⟨rfl,Or.inr (Or.inl rfl),rfl,rfl⟩,⟨⟨rfl,Or.inr (Or.inl rfl),rfl,rfl⟩,True.intro⟩⟩) ah)))))) bg) (ai (ay (i:=5) S.nd rfl (Or.inl rfl) (aP O.Cd (hr.mono (by decide)) (aa (pv 1) (aa (pv 3) (aa (aP O.bB (hr.mono (by decide)) (aa (pv 0) (aa ag ah))) ah))))) (ai (ay (i:=6) S.nd rfl (Or.inl rfl) (bV (aa (aP O.AW (hr.mono (by decide)) (aa (pv 1) (aa (pv 3) ah))) (aa (aP O.AW (hr.mono (by decide)) (aa (pv 1) (aa (pv 5) ah))) ah)))) (ai (cP (PW.pt (vJ (eM (dG (aP O.zH (hr.mono (by decide)) (aa (pv 2) (aa (pv 3) (aa (aO (aD K rfl) (pv 6) ag (fun _ _=>rfl)) ah)))))) (oW (eM (dG (aP O.zH (hr.mono (by decide)) (aa (pv 2) (aa (pv 5) (aa (aO (aD K rfl) (pv 6) ag (fun _ _=>rfl)) ah))))))))) (aq (aI fW)) bg) (ai (ay (i:=7) S.nd rfl (Or.inl rfl) (aP O.nX (hr.mono (by decide)) (aa (pv 2) (aa (pv 3) (aa (pv 5) ah))))) (ai (cP (PW.pt (vJ (eM (dG (aH (ck K rfl) rfl T.aS boot_isinstance (aa (pv 7) (aa (dC (v:=V.ty "bool") rfl T.yT boot_bool rfl) ah))))) (oW (ba (HX K rfl hr.units) (pv 7) (gG (Au K rfl hr.units) (aO (aD K rfl) (pv 6) ag (fun _ _=>rfl)) (aO (aD K rfl) (pv 6) ag (fun _ _=>rfl)) (aX _)) (aX _))))) (aq (aI fW)) bg) (ai (cP (eM (dG (aP O.qF (hr.mono (by decide)) (aa (aO (aD K rfl) (pv 6) ag (fun _ _=>rfl)) ah)))) (aq (aI fW)) bg) (aq (aI (jg (aP O.zH (hr.mono (by decide)) (aa (pv 2) (aa (aO (aD K rfl) (pv 6) ag (fun _ _=>rfl)) (aa (aO (aD K rfl) (pv 6) ag (fun _ _=>rfl)) ah)))) (j6 (gG MI (aP O.nX (hr.mono (by decide)) (aa (pv 2) (aa (pv 3) (aa (aO (aD K rfl) (pv 6) ag (fun _ _=>rfl)) ah)))) fW (aX _)))))))))))))))),?_⟩
  walk_at "w"
  refine xg ⟨hS,by lia,by lia⟩ fun sl H1 ss rs n1 s1 m1 xN ik qr=>?_
  have hS1:=s1.seq hS
  have B3:bP K H1:=hT.same s1
  walk_at "w"
  refine uS ⟨m1,xN,qr⟩ fun lc H2 zs cs n2 s2 m2 hC hE nW rg h4=>?_
  have qR:bP K H2:=B3.same s2
  have Wf:∀ v∈cs,de (2 ^ 5) v:=fun v hv=>Kf (b:=24) (rg v hv) (by decide)
  intro x dx nx' ndx nex
  have sx:=AH (C:=G.aM) nx' ndx
  refine kD (b:=5) ⟨T.dA,aw,aW.of (sx _ _ m2),hC.same sx,by lia,nW,Wf,by decide,qR.same sx⟩ fun y1 H3 ysy st ny1 CZ vE Tf ry1 sf eqv N8 NZ=>⟨rfl,?_⟩
  have jh:=sf.Pm N8 nW eqv Wf
  have RD:i6 K H2 (upd H3 x (.ins G.aM dx [("steps",.ref y1)])):=MO nx' ndx CZ
  have Wg:bP K (upd H3 x (.ins G.aM dx [("steps",.ref y1)])):=vE.ins NZ
  have hyx:y1≠x:=fun z=>by rw [z,NZ] at Tf;cases Tf
  have zC:fw K (upd H3 x (.ins G.aM dx [("steps",.ref y1)])) x y1 (.comma st):=⟨_,_,ysy,T.dA,aw,by rw [au hyx];exact Tf,wU ry1 NZ⟩
  have aN:Tu.ok (.comma st):=⟨sf,N8,fun v hv=>(jh v hv).mono (aba (by decide) (by decide))⟩
  have heq:Eqv 5 rs st:=hE.trans eqv
  generalize upd H3 x (.ins G.aM dx [("steps",.ref y1)])=H4 at RD Wg zC ⊢
  have Wh:=RD.seq qR (s2.seq hS1)
  have msl:=RD.lst qR (s2 _ _ m1)
  have RE:=(xN.same s2).iX RD qR
  clear hS hS1 hT B3 qR m1 xN ik hC hE nW rg Wf sx jh Tf ry1 NZ hyx CZ vE RD
  walk_at "w"
  refine yY ⟨Wh,by lia,by lia⟩ fun t0 m0 l0 H5 mt xs0 bs0 s5 Wi Th=>?_
  have Wj:=s5.seq Wh
  have Wl:=Th.r
  walk_at "j"
  refine join (fun σ' H'=>∃ (o4:Option V) (t m l:Addr) (xs:List V) (bs:List (List Nt)),σ'=[some (.ref a),some (.ref sl),some (.ref x),some (.ref t),o4,none,none,none]/\aj H5 H'/\aG K H' t m l mt xs bs/\qe 700 bs) (fun nx xk=>?_) (fun σ' H6 hP=>?_)
  ·walk_at "w"
   refine cT (fun h1=>?_) (fun h1=>?_)
   ·walk_at "w"
    rename_i pb H6 n6 s6 m6
    refine tP [some (.ref pb),some (.ref a)] (fun _ x=>-600<=x/\x<=600) rfl (by decide) (fun i H' Qc hi s kc=>?_) (fun lq H7 sq n7 s7 m7 lq5 hq=>?_)
    ·obtain ⟨B,hB,hB0,hB1⟩:∃ B:Int,Ac [V.int 600,V.int 22,V.int 40,V.int 40,V.int 40] (i:Int)=some (.int B)/\0<=B/\B<=600:=by
      match i,(show i<5 from hi) with
      | 0,_=>exact⟨_,rfl,by decide,by decide⟩
      | 1,_=>exact⟨_,rfl,by decide,by decide⟩
      | 2,_=>exact⟨_,rfl,by decide,by decide⟩
      | 3,_=>exact⟨_,rfl,by decide,by decide⟩
      | 4,_=>exact⟨_,rfl,by decide,by decide⟩
     have hS':=(s6.trans s).seq Wj
     have mb:=s _ _ m6
     walk_at "w"
     refine fN (aW.of mb) hB ?_
     walk_at "w"
     refine fN (aW.of mb) hB ?_
     walk_at "w"
     obtain ⟨cc,KH⟩:∃ cc:Int,ns.getD (16+(i:Int)).toNat 0=cc:=⟨_,rfl⟩
     rw [KH]
     have z1:=emod_nonneg cc (show 2*B+1≠0 by lia)
     have z2:=emod_lt_of_pos cc (show 0<2*B+1 by lia)
     exact kc _ _ (by lia) (aj.refl _)
    have S6:∀ x∈sq,-600<=x/\x<=600:=fun x qX=>by
     obtain ⟨j3,VN,e3⟩:=abx qX
     exact hq j3 x (by rw [aaY VN,e3])
    have s67:=s6.trans s7
    walk_at "w"
    refine BV ⟨Wi.same s67,Th.2.1,fun ns h=>(Th.2.2.1 ns h).2.1,m7,lq5⟩ fun t' l' H8 ys n8 s8 tu8=>?_
    walk_at "w"
    exact xk _ _ ⟨_,t',m0,l',ys,_,rfl,s67.trans s8,tu8,Wl.mv lq5 S6⟩
   ·walk_at "w"
    exact xk _ _ ⟨_,t0,m0,l0,xs0,bs0,rfl,aj.refl _,Wi,Wl.mono (by decide)⟩
  ·obtain ⟨o4,t,m,l,xs,bs,rfl,s6,tu,hR⟩:=hP
   have Tj:=s5.trans s6
   have hS6:=s6.seq Wj
   have Wm:=zC.same Tj
   have Rw:bP K H6:=Wg.same Tj
   have Nf:=Tj _ _ msl
   have Ng:=RE.same Tj
   clear Wh Wj zC Wg msl RE Wi Th Wl
   have ze:=hR.2.1
   have j4:bs.length<=100:=by lia
   walk_at "w"
   refine xh ⟨tu,hR,Nf,Ng,qr⟩ fun to lo H7 yo bo n7 s7 tuo RF=>?_
   have RG:bo.length<=100:=by have:=RF.2.1;lia
   walk_at "w"
   refine tX ⟨tu.same s7,ze,hR.rows (by decide),s7 _ _ Nf,Ng.same s7,qr,sf,N8,heq⟩ fun d1 e1 H8 z1 n8 s8 Wn=>?_
   have xQ:=s7.trans s8
   walk_at "w"
   refine tX ⟨tuo.same s8,RF.2.1,RF.rows (by decide),xQ _ _ Nf,Ng.same xQ,qr,sf,N8,heq⟩ fun d2 e2 H9 z2 n9 s9 Wo=>?_
   have s79:=xQ.trans s9
   walk_at "w"
   rename_i pd HA nA sA mA
   have Wq:=s79.trans sA
   have Wr:=tu.same Wq
   have RH:=tuo.same ((s8.trans s9).trans sA)
   have Ks:=Wn.same (s9.trans sA)
   have Kt:=Wo.same sA
   have Jn:=Wm.same Wq
   have uu:bP K HA:=Rw.same Wq
   refine qm ⟨Wr,hR.mono (by decide),Ks,Jn,aN,uu⟩ fun HB Kr Wa=>?_
   walk_at "w"
   refine dE rfl ?_
   have mB:=Kr.lst uu mA
   walk_at "w"
   refine qm ⟨RH.keep uu Kr,RF,Kt.keep uu Kr,Jn.keep uu Kr,aN,Wa⟩ fun HC smC hTC=>?_
   have Jo:=Kr.trans smC
   walk_at "w"
   refine dE rfl ?_
   walk_at "w"
   refine j0 ⟨Wr.keep uu Jo,j4,hR.lV (by decide),RH.keep uu Jo,RG,RF.lV (by decide),Jn.keep uu Jo,aN,hTC⟩ fun HD smD hTD=>?_
   have Jp:=Jo.trans smD
   have mD:=Jp.lst uu mA
   have AX:=Ks.keep uu Jp
   have RI:=Kt.keep uu Jp
   obtain ⟨bb,CO⟩:∃ bb,PyData.eqv (gp mt (bs.map fun ns=>ns.map (fj st))) (gp mt (bo.map fun ns=>ns.map (fj st)))=bb:=⟨_,rfl⟩
   rw [CO]
   walk_at "w"
   refine dE rfl ?_
   walk_at "w"
   refine J0 (jJ AX) (jJ RI) (fS _ _) (fS _ _) ?_
   rw [CO]
   refine Qv (.bl bb) (.bl bb) rfl rfl ?_
   have eb:(!PyData.eqv (.bool bb) (.bool bb))=false:=by cases bb <;> rfl
   rw [eb]
   walk_at "w"
   refine dE rfl ?_
   have Cb:∀ ns∈bs,ns.length<=12:=fun ns h=>(hR.2.2 ns h).2.1
   have FC:(bs.map fun ns=>ns.map (fj st)).length<=12:=by rw [aa4];exact ze
   have FD:(bs.map fun ns=>ns.map (fj st)).length<=100:=by rw [aa4];exact j4
   walk_at "w"
   cases rf:bs.all fun ns=>ns.all fun n=>qU (fj st n) with
   | false =>
    refine iN ⟨AX,FC,qf Cb⟩ ⟨fun _ HE sE=>?_,fun hg=>(by obtain ⟨ns,h1,n,h2,h3⟩:=(yS rf).2;rw [hg ns h1 n h2] at h3;cases h3)⟩
    walk_at "w"
    refine gJ rfl ?_
    walk_at "w"
    exact k _
   | true =>
    refine iN ⟨AX,FC,qf Cb⟩ ⟨fun hb=>(by obtain ⟨ns,h1,n,h2,h3⟩:=hb;rw [(uN rf).2 ns h1 n h2] at h3;cases h3),fun _ HE sE=>?_⟩
    have hRd:=qe.map qr sf N8 heq hR (uN rf).2
    have etw:=E8 qr sf N8 heq hR
    have RJ:i6 K HA HE:=Jp.trans (bK.of sE)
    have RK:bP K HE:=hTD.same sE
    have FF:=AX.same sE
    have tuE:=Wr.keep uu RJ
    have RL:=Jn.keep uu RJ
    have mE:=sE _ _ mD
    walk_at "w"
    refine dE rfl ?_
    walk_at "w"
    refine qm ⟨FF,hRd.mono (by decide),(by rw [etw];exact FF),RL,aN,RK⟩ fun HF Tn hTF=>?_
    have mF:=Tn.lst RK mE
    walk_at "w"
    refine jM ?_
    walk_at "w"
    refine j0 ⟨tuE.keep RK Tn,j4,hR.lV (by decide),FF.keep RK Tn,FD,hRd.lV (by decide),RL.keep RK Tn,aN,hTF⟩ fun HG smG hTG=>?_
    rw [etw,BL]
    walk_at "w"
    refine⟨true,true,rfl,rfl,?_⟩
    exact k _
end
set_option maxHeartbeats 2000000
theorem all_mk {l:OpenLaw} {w:World} {K:Frag} {h:Heap} {mg:Str->Option Value} {fa:Addr} (X:K.In h) (G0:h.Ns mainGlobals mg) (RM:l.prog.given.tree=none) (hfa:mg "law"=some (.ref fa)) {bR iO:Addr} (kG:tabIn K "parted"=some (bR,iO)) {bT iP:Addr} (kH:tabIn K "sounds"=some (bT,iP)) {bp fG:Addr} (gW:tabIn K "respelled"=some (bp,fG)) {f0 f1 f2 f3 f4 f5 f6 f7 f8 f9 Ws Wt Wu Wv Ww Wx Wy Wz WA WB WC WE WG WH WI WJ WK WL WM WN WO WQ WR WS WT WU Nh Ni:Addr} {od0 an0 od1 an1 od2 an2 od3 an3 od4 an4 od5 an5 od6 an6 od7 an7 od8 an8 od9 an9 WV WW WX WY WZ W0 W2 W3 W4 W5 W6 W7 W8 W9 Xa Xb Xc Xd Xe Xf Xg Xh Xi Xj Xk Xl Xm Xn Xo Xp Xq Xr Xs Xt Xu Xv Xw Xx Xy Xz XA XB XC XD XE XF XG XH XI XJ XN RN XO XQ XR XS:Option Addr} {sl0 sl1 NG sl3 sl4 sl5 sl6 sl7 sl8 sl9 XT XU XX XY XZ X0 X1 X2 X3 X4 X5 X6 X7 X8 X9 Ya Yb Yc Yd Ye Yf Yg Yh Yi Yj Yk Yl Ym:Array (Option Value)} {oc0 kV0 dc0 pm0 cd0 ct0 oc1 kV1 dc1 pm1 cd1 ct1 oc2 kV2 dc2 pm2 cd2 ct2 oc3 kV3 dc3 pm3 cd3 ct3 oc4 kV4 dc4 pm4 cd4 ct4 oc5 kV5 dc5 pm5 cd5 ct5 oc6 kV6 dc6 pm6 cd6 ct6 oc7 kV7 dc7 pm7 cd7 ct7 oc8 kV8 dc8 pm8 cd8 ct8 oc9 kV9 dc9 pm9 ct9 Yn Yo Yp Yq RO Yr Ys Yt Yu Yv Yw Yx Yy Yz YA RP YB YC YD YE YF RQ YG YH YJ YK YL RR YM YN YO YQ YR YS YT YU YV YW RS YX YY YZ Y0 Y1 RT Y2 Y3 Y4 Y5 Y6 RU Y7 Y8 Y9 Za Zb RV Zc Zd Ze Zf Zg RW Zh Zi Zj Zk Zl RX Zm Zn Zo Zp Zq RY Zr Zs Zt Zu Zv RZ Zw Zx Zy Zz ZA R0 ZC ZD ZE ZF ZG R1 ZH ZI ZJ ZK ZL R3 ZM ZN ZO ZP ZQ R4 ZR ZS ZT ZU ZV R5 ZW ZX ZY ZZ Z0 R6 Z1 Z2 Z3 Z4 Z5 R7 Z6 Z7 Z8 Z9 aaa R8 aab aac aad aae aaf R9 aag aah aai aaj aak Sa aal aam aan aao aap Sb aaq aar Sd Se Sf Nj Sh aas aat aau aav Si aaw aax aay aaz aaA Sj aaB:Value} {aQ:Addr} {FG:Addr} {Nk:Option Addr} {Nl:Nat} {Nm:Array (Option Value)} {Nn Np Nq Nr Nu:Tok} {qG:Addr} {Ce:Option Addr} {Cf:Nat} {Cg:Array (Option Value)} {Ci Cj Ck Cm Cn:Tok} {fk:Tok} {oR:Tok} {eA:Addr} {vf:ClassData} {cK:Addr} {Co:ClassData} {ej:Addr} {xy:ClassData}
     (fq:nsIn K mainGlobals "CommaTuning"=some (some (.ref aQ)))
 (a0:nsIn K mainGlobals "is_whole"=some (some (.ref f0))) (l0:K.lookup f0=some ⟨oc0,od0,.func (fnOf "is_whole" "is_whole" (aE ed) (az ed) (ak ed) .none kV0 dc0 pm0 an0 cd0 ct0),sl0⟩) (c0:codeIn K cd0 "is_whole"=true) (k0:keepIn K (.ref f0)=true)
 (a1:nsIn K mainGlobals "is_row"=some (some (.ref f1))) (l1:K.lookup f1=some ⟨oc1,od1,.func (fnOf "is_row" "is_row" (aE gj) (az gj) (ak gj) .none kV1 dc1 pm1 an1 cd1 ct1),sl1⟩) (c1:codeIn K cd1 "is_row"=true) (k1:keepIn K (.ref f1)=true)
 (a2:nsIn K mainGlobals "is_tone"=some (some (.ref f2))) (l2:K.lookup f2=some ⟨oc2,od2,.func (fnOf "is_tone" "is_tone" (aE eQ) (az eQ) (ak eQ) .none kV2 dc2 pm2 an2 cd2 ct2),NG⟩) (c2:codeIn K cd2 "is_tone"=true) (k2:keepIn K (.ref f2)=true)
 (a3:nsIn K mainGlobals "tone_of"=some (some (.ref f3))) (l3:K.lookup f3=some ⟨oc3,od3,.func (fnOf "tone_of" "tone_of" (aE eR) (az eR) (ak eR) .none kV3 dc3 pm3 an3 cd3 ct3),sl3⟩) (c3:codeIn K cd3 "tone_of"=true) (k3:keepIn K (.ref f3)=true)
 (a4:nsIn K mainGlobals "over"=some (some (.ref f4))) (l4:K.lookup f4=some ⟨oc4,od4,.func (fnOf "over" "over" (aE kj) (az kj) (ak kj) .none kV4 dc4 pm4 an4 cd4 ct4),sl4⟩) (c4:codeIn K cd4 "over"=true) (k4:keepIn K (.ref f4)=true)
 (a5:nsIn K mainGlobals "power"=some (some (.ref f5))) (l5:K.lookup f5=some ⟨oc5,od5,.func (fnOf "power" "power" (aE iG) (az iG) (ak iG) .none kV5 dc5 pm5 an5 cd5 ct5),sl5⟩) (c5:codeIn K cd5 "power"=true) (k5:keepIn K (.ref f5)=true)
 (a6:nsIn K mainGlobals "note_changed"=some (some (.ref f6))) (l6:K.lookup f6=some ⟨oc6,od6,.func (fnOf "note_changed" "note_changed" (aE cw) (az cw) (ak cw) .none kV6 dc6 pm6 an6 cd6 ct6),sl6⟩) (c6:codeIn K cd6 "note_changed"=true) (k6:keepIn K (.ref f6)=true)
 (a7:nsIn K mainGlobals "bar_changed"=some (some (.ref f7))) (l7:K.lookup f7=some ⟨oc7,od7,.func (fnOf "bar_changed" "bar_changed" (aE cM) (az cM) (ak cM) .none kV7 dc7 pm7 an7 cd7 ct7),sl7⟩) (c7:codeIn K cd7 "bar_changed"=true) (k7:keepIn K (.ref f7)=true)
 (a8:nsIn K mainGlobals "changed"=some (some (.ref f8))) (l8:K.lookup f8=some ⟨oc8,od8,.func (fnOf "changed" "changed" (aE eS) (az eS) (ak eS) .none kV8 dc8 pm8 an8 cd8 ct8),sl8⟩) (c8:codeIn K cd8 "changed"=true) (k8:keepIn K (.ref f8)=true)
 (a9:nsIn K mainGlobals "sounds"=some (some (.ref f9))) (l9:K.lookup f9=some ⟨oc9,od9,.func (fnOf "sounds" "sounds" (aE gk) (az gk) (ak gk) .none kV9 dc9 pm9 an9 (.ref bT) ct9),sl9⟩) (c9:codeIn K (.ref bT) "sounds"=true) (k9:keepIn K (.ref f9)=true)
 (a10:nsIn K mainGlobals "heard_alike"=some (some (.ref Ws))) (l10:K.lookup Ws=some ⟨Yn,WV,.func (fnOf "heard_alike" "heard_alike" (aE cN) (az cN) (ak cN) .none Yo Yp Yq WW RO Yr),XT⟩) (c10:codeIn K RO "heard_alike"=true) (k10:keepIn K (.ref Ws)=true)
 (a11:nsIn K mainGlobals "respelled"=some (some (.ref Wt))) (Tc:K.lookup Wt=some ⟨Ys,WX,.func (fnOf "respelled" "respelled" (aE dI) (az dI) (ak dI) .none Yt Yu Yv WY (.ref bp) Yw),XU⟩) (c11:codeIn K (.ref bp) "respelled"=true) (k11:keepIn K (.ref Wt)=true)
 (a12:nsIn K mainGlobals "checked_commas"=some (some (.ref Wu))) (N2:K.lookup Wu=some ⟨Yx,WZ,.func (fnOf "checked_commas" "checked_commas" (aE bO) (az bO) (ak bO) .none Yy Yz YA W0 RP YB),XX⟩) (c12:codeIn K RP "checked_commas"=true) (k12:keepIn K (.ref Wu)=true)
 (a13:nsIn K mainGlobals "lead_place"=some (some (.ref Wv))) (l13:K.lookup Wv=some ⟨YC,W2,.func (fnOf "lead_place" "lead_place" (aE di) (az di) (ak di) .none YD YE YF W3 RQ YG),XY⟩) (c13:codeIn K RQ "lead_place"=true) (k13:keepIn K (.ref Wv)=true)
 (a14:nsIn K mainGlobals "lowered"=some (some (.ref Ww))) (l14:K.lookup Ww=some ⟨YH,W4,.func (fnOf "lowered" "lowered" (aE eT) (az eT) (ak eT) .none YJ YK YL W5 RR YM),XZ⟩) (c14:codeIn K RR "lowered"=true) (k14:keepIn K (.ref Ww)=true)
 (a15:nsIn K mainGlobals "parted"=some (some (.ref Wx))) (l15:K.lookup Wx=some ⟨YN,W6,.func (fnOf "parted" "parted" (aE gm) (az gm) (ak gm) .none YO YQ YR W7 (.ref bR) YS),X0⟩) (c15:codeIn K (.ref bR) "parted"=true) (k15:keepIn K (.ref Wx)=true)
 (a16:nsIn K mainGlobals "stepped"=some (some (.ref Wy))) (l16:K.lookup Wy=some ⟨YT,W8,.func (fnOf "stepped" "stepped" (aE eU) (az eU) (ak eU) .none YU YV YW W9 RS YX),X1⟩) (c16:codeIn K RS "stepped"=true) (k16:keepIn K (.ref Wy)=true)
 (a17:nsIn K mainGlobals "table"=some (some (.ref Wz))) (l17:K.lookup Wz=some ⟨YY,Xa,.func (fnOf "table" "table" (aE iH) (az iH) (ak iH) .none YZ Y0 Y1 Xb RT Y2),X2⟩) (c17:codeIn K RT "table"=true) (k17:keepIn K (.ref Wz)=true)
 (a18:nsIn K mainGlobals "left_by"=some (some (.ref WA))) (l18:K.lookup WA=some ⟨Y3,Xc,.func (fnOf "left_by" "left_by" (aE eV) (az eV) (ak eV) .none Y4 Y5 Y6 Xd RU Y7),X3⟩) (c18:codeIn K RU "left_by"=true) (k18:keepIn K (.ref WA)=true)
 (a19:nsIn K mainGlobals "_law_cell_at"=some (some (.ref WB))) (l19:K.lookup WB=some ⟨Y8,Xe,.func (fnOf "_law_cell_at" "_law_cell_at" (aE cO) (az cO) (ak cO) .none Y9 Za Zb Xf RV Zc),X4⟩) (c19:codeIn K RV "_law_cell_at"=true) (k19:keepIn K (.ref WB)=true)
 (a20:nsIn K mainGlobals "_law_lowest"=some (some (.ref WC))) (l20:K.lookup WC=some ⟨Zd,Xg,.func (fnOf "_law_lowest" "_law_lowest" (aE dj) (az dj) (ak dj) .none Ze Zf Zg Xh RW Zh),X5⟩) (c20:codeIn K RW "_law_lowest"=true) (k20:keepIn K (.ref WC)=true)
 (a21:nsIn K mainGlobals "_law_mixed"=some (some (.ref WE))) (l21:K.lookup WE=some ⟨Zi,Xi,.func (fnOf "_law_mixed" "_law_mixed" (aE dJ) (az dJ) (ak dJ) .none Zj Zk Zl Xj RX Zm),X6⟩) (c21:codeIn K RX "_law_mixed"=true) (k21:keepIn K (.ref WE)=true)
 (a22:nsIn K mainGlobals "_law_alike"=some (some (.ref WG))) (l22:K.lookup WG=some ⟨Zn,Xk,.func (fnOf "_law_alike" "_law_alike" (aE dM) (az dM) (ak dM) .none Zo Zp Zq Xl RY Zr),X7⟩) (c22:codeIn K RY "_law_alike"=true) (k22:keepIn K (.ref WG)=true)
 (a23:nsIn K mainGlobals "_law_name_row"=some (some (.ref WH))) (l23:K.lookup WH=some ⟨Zs,Xm,.func (fnOf "_law_name_row" "_law_name_row" (aE cx) (az cx) (ak cx) .none Zt Zu Zv Xn RZ Zw),X8⟩) (c23:codeIn K RZ "_law_name_row"=true) (k23:keepIn K (.ref WH)=true)
 (a24:nsIn K mainGlobals "_law_pieces"=some (some (.ref WI))) (l24:K.lookup WI=some ⟨Zx,Xo,.func (fnOf "_law_pieces" "_law_pieces" (aE dk) (az dk) (ak dk) .none Zy Zz ZA Xp R0 ZC),X9⟩) (c24:codeIn K R0 "_law_pieces"=true) (k24:keepIn K (.ref WI)=true)
 (a25:nsIn K mainGlobals "_law_tune"=some (some (.ref WJ))) (l25:K.lookup WJ=some ⟨ZD,Xq,.func (fnOf "_law_tune" "_law_tune" (aE ee) (az ee) (ak ee) .none ZE ZF ZG Xr R1 ZH),Ya⟩) (c25:codeIn K R1 "_law_tune"=true) (k25:keepIn K (.ref WJ)=true)
 (a26:nsIn K mainGlobals "_law_copy"=some (some (.ref WK))) (l26:K.lookup WK=some ⟨ZI,Xs,.func (fnOf "_law_copy" "_law_copy" (aE eg) (az eg) (ak eg) .none ZJ ZK ZL Xt R3 ZM),Yb⟩) (c26:codeIn K R3 "_law_copy"=true) (k26:keepIn K (.ref WK)=true)
 (a27:nsIn K mainGlobals "_law_put"=some (some (.ref WL))) (l27:K.lookup WL=some ⟨ZN,Xu,.func (fnOf "_law_put" "_law_put" (aE eW) (az eW) (ak eW) .none ZO ZP ZQ Xv R4 ZR),Yc⟩) (c27:codeIn K R4 "_law_put"=true) (k27:keepIn K (.ref WL)=true)
 (a28:nsIn K mainGlobals "_law_fits"=some (some (.ref WM))) (l28:K.lookup WM=some ⟨ZS,Xw,.func (fnOf "_law_fits" "_law_fits" (aE eh) (az eh) (ak eh) .none ZT ZU ZV Xx R5 ZW),Yd⟩) (c28:codeIn K R5 "_law_fits"=true) (k28:keepIn K (.ref WM)=true)
 (a29:nsIn K mainGlobals "_law_steps"=some (some (.ref WN))) (l29:K.lookup WN=some ⟨ZX,Xy,.func (fnOf "_law_steps" "_law_steps" (aE dN) (az dN) (ak dN) .none ZY ZZ Z0 Xz R6 Z1),Ye⟩) (c29:codeIn K R6 "_law_steps"=true) (k29:keepIn K (.ref WN)=true)
 (a30:nsIn K mainGlobals "_law_rest"=some (some (.ref WO))) (l30:K.lookup WO=some ⟨Z2,XA,.func (fnOf "_law_rest" "_law_rest" (aE ei) (az ei) (ak ei) .none Z3 Z4 Z5 XB R7 Z6),Yf⟩) (c30:codeIn K R7 "_law_rest"=true) (k30:keepIn K (.ref WO)=true)
 (a31:nsIn K mainGlobals "_law_commas"=some (some (.ref WQ))) (l31:K.lookup WQ=some ⟨Z7,XC,.func (fnOf "_law_commas" "_law_commas" (aE dq) (az dq) (ak dq) .none Z8 Z9 aaa XD R8 aab),Yg⟩) (c31:codeIn K R8 "_law_commas"=true) (k31:keepIn K (.ref WQ)=true)
 (a32:nsIn K mainGlobals "_law_all"=some (some (.ref WR))) (l32:K.lookup WR=some ⟨aac,XE,.func (fnOf "_law_all" "_law_all" (aE eX) (az eX) (ak eX) .none aad aae aaf XF R9 aag),Yh⟩) (c32:codeIn K R9 "_law_all"=true) (k32:keepIn K (.ref WR)=true)
 (a33:nsIn K mainGlobals "_law_other"=some (some (.ref WS))) (l33:K.lookup WS=some ⟨aah,XG,.func (fnOf "_law_other" "_law_other" (aE dO) (az dO) (ak dO) .none aai aaj aak XH Sa aal),Yi⟩) (c33:codeIn K Sa "_law_other"=true) (k33:keepIn K (.ref WS)=true)
 (a34:nsIn K mainGlobals "_law_is"=some (some (.ref WT))) (l34:K.lookup WT=some ⟨aam,XI,.func (fnOf "_law_is" "_law_is" (aE gn) (az gn) (ak gn) .none aan aao aap XJ Sb aaq),Yj⟩) (c34:codeIn K Sb "_law_is"=true) (k34:keepIn K (.ref WT)=true)
 (a35:nsIn K mainGlobals "law"=some (some (.ref WU))) (l35:K.lookup WU=some ⟨aar,XN,.func (fnOf "law" "law" (aE lM) (az lM) (ak lM) .none Sd Se Sf RN Nj Sh),Yk⟩) (c35:codeIn K Nj "law"=true) (k35:keepIn K (.ref WU)=true)
 (a36:findIn K (.ref aQ) "__init__"=some (some (.ref Nh))) (l36:K.lookup Nh=some ⟨aas,XO,.func (fnOf "__init__" "CommaTuning.__init__" (aE bA) (az bA) (ak bA) .none aat aau aav XQ Si aaw),Yl⟩) (c36:codeIn K Si "CommaTuning.__init__"=true) (k36:keepIn K (.ref Nh)=true) (i36:isFn K (.ref Nh)=true)
 (a37:findIn K (.ref aQ) "sound"=some (some (.ref Ni))) (l37:K.lookup Ni=some ⟨aax,XR,.func (fnOf "sound" "CommaTuning.sound" (aE bt) (az bt) (ak bt) .none aay aaz aaA XS Sj aaB),Ym⟩) (c37:codeIn K Sj "CommaTuning.sound"=true) (To:keepIn K (.ref Ni)=true) (i37:isFn K (.ref Ni)=true)
     (gw:plainGet K aQ Str.empty=true) (gx:hasDictIn K aQ=true) (gy:plainOver K aQ=true) (gz:findIn K (.ref aQ) "__setattr__"=some (some (.builtin "object.__setattr__"))) (gB:makesIn K aQ=true) (gD:keepIn K (.ref aQ)=true) (gE:findIn K (.ref aQ) "__init__"=some (some (.ref Nh))) (fH:findIn K (.ref aQ) "__class__"=some (some (.builtin "object.__class__"))) (fI:specialIn K (.builtin "object.__class__") "__get__"=some (some (.builtin "getset_descriptor.__get__"))) (fJ:takesIn K (.builtin "object.__class__")=some true) (fK:mroIn K aQ (.type "object")=some true) (dR:findIn K (.ref aQ) "sound"=some (some (.ref Ni))) (dS:findIn K (.ref aQ) "steps"=some none)
     (FH:nsIn K mainGlobals "ONE"=some (some (.ref FG))) (FI:K.lookup FG=some ⟨.type "tuple",Nk,.seq #[.int 0 Nn,.int 0 Np,.int 0 Nq,.int 0 Nr,.int 0 Nu] Nl,Nm⟩) (qH:nsIn K mainGlobals "BOUNDS"=some (some (.ref qG))) (qI:K.lookup qG=some ⟨.type "tuple",Ce,.seq #[.int 700 Ci,.int 60 Cj,.int 60 Ck,.int 60 Cm,.int 60 Cn] Cf,Cg⟩) (gX:nsIn K mainGlobals "MOST_COMMAS"=some (some (.int 6 fk))) (vh:nsIn K mainGlobals "WIDTH"=some (some (.int 5 oR))) (gP:nsIn K mainGlobals "YardError"=some (some (.ref eA))) (iQ:typeIn K (.ref eA)=some (.type "type")) (iR:clsIn K eA=some vf) (iS:subIn K (.ref eA) (.type "BaseException")=some true) (fx:nsIn K mainGlobals "TooFar"=some (some (.ref cK))) (nh:typeIn K (.ref cK)=some (.type "type")) (jK:clsIn K cK=some Co) (jL:subIn K (.ref cK) (.type "BaseException")=some true) (nj:findIn K (.ref cK) "__getattribute__"=some (some (.builtin "BaseException.__getattribute__"))) (nk:findIn K (.ref cK) "__getattr__"=some none) (nq:findIn K (.ref cK) "__class__"=some (some (.builtin "object.__class__"))) (nr:specialIn K (.builtin "object.__class__") "__get__"=some (some (.builtin "getset_descriptor.__get__"))) (nu:takesIn K (.builtin "object.__class__")=some true) (nv:mroIn K cK (.type "object")=some true) (ny:excIn K cK [.type "ValueError",.type "Exception",.type "BaseException",.type "object"] "ValueError.__new__"=true) (iT:nsIn K mainGlobals "NoCommas"=some (some (.ref ej))) (jx:typeIn K (.ref ej)=some (.type "type")) (jy:clsIn K ej=some xy) (jz:subIn K (.ref ej) (.type "BaseException")=some true) (cz:subIn K (.ref cK) (.ref eA)=some true) (cI:subIn K (.ref cK) (.ref ej)=some false) (cJ:cK ≠ ej) (bX:subIn K (.ref cK) (.type "ValueError")=some true) (iU:nsIn K mainGlobals "ValueError"=some none) (FJ:nsIn K mainGlobals "abs"=some none) (FK:nsIn K mainGlobals "all"=some none) (zI:nsIn K mainGlobals "bool"=some none) (jA:nsIn K mainGlobals "enumerate"=some none) (FL:nsIn K mainGlobals "int"=some none) (iV:nsIn K mainGlobals "isinstance"=some none) (FN:nsIn K mainGlobals "len"=some none) (zJ:nsIn K mainGlobals "list"=some none) (FO:nsIn K mainGlobals "max"=some none) (vj:nsIn K mainGlobals "range"=some none) (qJ:nsIn K mainGlobals "sorted"=some none) (FP:nsIn K mainGlobals "str"=some none) (FQ:nsIn K mainGlobals "sum"=some none) (vm:nsIn K mainGlobals "tuple"=some none) (FR:nsIn K mainGlobals "zip"=some none) :
    ∃ fd:FuncData,(∀ (s:Shared) (v:Value),BindsTo s fd ⟨[v],[]⟩ [("_law_script",v)])/\∀ base:Heap,K.In base->base.Ns mainGlobals mg->CodeHd base bR iO->base.BuiltinsAt mg iO->CodeHd base bT iP->base.BuiltinsAt mg iP->CodeHd base bp fG->base.BuiltinsAt mg fG->base.NoSeer->j8 l.prog w K mg base CI 44 fa fd ["_law_script"] ((uI fun K=>[((dX K "parted"),IP,"parted.<locals>.<lambda>"),((dX K "sounds"),Kc,"sounds.<locals>.<lambda>"),((dX K "respelled"),Kd,"respelled.<locals>.<lambda>")]) K):=by
  have e:=hfa.symm.trans (mg_of X G0 a35)
  cases e
  have T:Txt K mg ⟨FG,qG,eA,cK,ej,aQ,Nh,Ni,fk,oR,bR,bT,bp⟩:=⟨mg_none_of X G0 iU,mg_none_of X G0 FJ,mg_none_of X G0 FK,mg_none_of X G0 zI,mg_none_of X G0 jA,mg_none_of X G0 FL,mg_none_of X G0 iV,mg_none_of X G0 FN,mg_none_of X G0 zJ,mg_none_of X G0 FO,mg_none_of X G0 vj,mg_none_of X G0 qJ,mg_none_of X G0 FP,mg_none_of X G0 FQ,mg_none_of X G0 vm,mg_none_of X G0 FR,mg_of X G0 FH,fun H=>.inr ⟨_,_,_,FI,rfl,rfl,by show 5 <= sizeLine;decide,(.cons ⟨_,rfl⟩ (.cons ⟨_,rfl⟩ (.cons ⟨_,rfl⟩ (.cons ⟨_,rfl⟩ (.cons ⟨_,rfl⟩ .nil)))))⟩,mg_of X G0 qH,fun H=>.inr ⟨_,_,_,qI,rfl,rfl,by show 5 <= sizeLine;decide,(.cons ⟨_,rfl⟩ (.cons ⟨_,rfl⟩ (.cons ⟨_,rfl⟩ (.cons ⟨_,rfl⟩ (.cons ⟨_,rfl⟩ .nil)))))⟩,mg_of X G0 gX,mg_of X G0 vh,mg_of X G0 gP,gP,pQ.mk' iQ iR iS,mg_of X G0 fx,fx,pQ.mk' nh jK jL,uw.mk' nj nk jK nq nr nu nv jL,ny,mg_of X G0 iT,iT,pQ.mk' jx jy jz,mg_of X G0 fq,fq,⟨gw,gx,gy,gz⟩,⟨gB,gE,i36,gD⟩,⟨fH,fI,fJ,fK⟩,⟨dR,i37,To⟩,dS,cz,cI,cJ,bX⟩
  have F0:=bj (st:=ed) l0 c0 k0
  have zK:Def K mg "is_whole" ed ["thing"]:=⟨_,_,F0,mg_of X G0 a0,F0.binds (ps:=["thing"]) fun _ _ _ _ _ _ us hl=>fh us hl fun _=>rfl⟩
  have F1:=bj (st:=gj) l1 c1 k1
  have FT:Def K mg "is_row" gj ["thing"]:=⟨_,_,F1,mg_of X G0 a1,F1.binds (ps:=["thing"]) fun _ _ _ _ _ _ us hl=>fh us hl fun _=>rfl⟩
  have F2:=bj (st:=eQ) l2 c2 k2
  have Cp:Def K mg "is_tone" eQ ["thing"]:=⟨_,_,F2,mg_of X G0 a2,F2.binds (ps:=["thing"]) fun _ _ _ _ _ _ us hl=>fh us hl fun _=>rfl⟩
  have F3:=bj (st:=eR) l3 c3 k3
  have Cq:Def K mg "tone_of" eR ["row"]:=⟨_,_,F3,mg_of X G0 a3,F3.binds (ps:=["row"]) fun _ _ _ _ _ _ us hl=>fh us hl fun _=>rfl⟩
  have F4:=bj (st:=kj) l4 c4 k4
  have Nv:Def K mg "over" kj ["one","other"]:=⟨_,_,F4,mg_of X G0 a4,F4.binds (ps:=["one","other"]) fun _ _ _ _ _ _ us hl=>bZ us hl fun _ _=>rfl⟩
  have F5:=bj (st:=iG) l5 c5 k5
  have Jq:Def K mg "power" iG ["row","n"]:=⟨_,_,F5,mg_of X G0 a5,F5.binds (ps:=["row","n"]) fun _ _ _ _ _ _ us hl=>bZ us hl fun _ _=>rfl⟩
  have F6:=bj (st:=cw) l6 c6 k6
  have qK:Def K mg "note_changed" cw ["note","change"]:=⟨_,_,F6,mg_of X G0 a6,F6.binds (ps:=["note","change"]) fun _ _ _ _ _ _ us hl=>bZ us hl fun _ _=>rfl⟩
  have F7:=bj (st:=cM) l7 c7 k7
  have rV:Def K mg "bar_changed" cM ["bar","change"]:=⟨_,_,F7,mg_of X G0 a7,F7.binds (ps:=["bar","change"]) fun _ _ _ _ _ _ us hl=>bZ us hl fun _ _=>rfl⟩
  have F8:=bj (st:=eS) l8 c8 k8
  have Cr:Def K mg "changed" eS ["tune","change"]:=⟨_,_,F8,mg_of X G0 a8,F8.binds (ps:=["tune","change"]) fun _ _ _ _ _ _ us hl=>bZ us hl fun _ _=>rfl⟩
  have FU:rn K mg "sounds" gk ["tuning","tune"] bT:=⟨_,_,_,_,_,_,_,_,_,_,rfl,l9,c9,k9,mg_of X G0 a9,.all fun us hl=>match us,hl with|[_,_],_=>rfl⟩
  have F10:=bj (st:=cN) l10 c10 k10
  have rW:Def K mg "heard_alike" cN ["tuning","one","other"]:=⟨_,_,F10,mg_of X G0 a10,F10.binds (ps:=["tuning","one","other"]) fun _ _ _ _ _ _ us hl=>lO us hl fun _ _ _=>rfl⟩
  have xA:rn K mg "respelled" dI ["tuning","tune"] bp:=⟨_,_,_,_,_,_,_,_,_,_,rfl,Tc,c11,k11,mg_of X G0 a11,.all fun us hl=>match us,hl with|[_,_],_=>rfl⟩
  have F12:=bj (st:=bO) N2 c12 k12
  have nz:Def K mg "checked_commas" bO ["commas"]:=⟨_,_,F12,mg_of X G0 a12,F12.binds (ps:=["commas"]) fun _ _ _ _ _ _ us hl=>fh us hl fun _=>rfl⟩
  have F13:=bj (st:=di) l13 c13 k13
  have vn:Def K mg "lead_place" di ["row"]:=⟨_,_,F13,mg_of X G0 a13,F13.binds (ps:=["row"]) fun _ _ _ _ _ _ us hl=>fh us hl fun _=>rfl⟩
  have F14:=bj (st:=eT) l14 c14 k14
  have Cs:Def K mg "lowered" eT ["vector","step","place"]:=⟨_,_,F14,mg_of X G0 a14,F14.binds (ps:=["vector","step","place"]) fun _ _ _ _ _ _ us hl=>lO us hl fun _ _ _=>rfl⟩
  have FV:rn K mg "parted" gm ["vectors","place"] bR:=⟨_,_,_,_,_,_,_,_,_,_,rfl,l15,c15,k15,mg_of X G0 a15,.all fun us hl=>match us,hl with|[_,_],_=>rfl⟩
  have F16:=bj (st:=eU) l16 c16 k16
  have Ct:Def K mg "stepped" eU ["vectors","size"]:=⟨_,_,F16,mg_of X G0 a16,F16.binds (ps:=["vectors","size"]) fun _ _ _ _ _ _ us hl=>bZ us hl fun _ _=>rfl⟩
  have F17:=bj (st:=iH) l17 c17 k17
  have Jr:Def K mg "table" iH ["commas"]:=⟨_,_,F17,mg_of X G0 a17,F17.binds (ps:=["commas"]) fun _ _ _ _ _ _ us hl=>fh us hl fun _=>rfl⟩
  have F18:=bj (st:=eV) l18 c18 k18
  have Cu:Def K mg "left_by" eV ["steps","vector"]:=⟨_,_,F18,mg_of X G0 a18,F18.binds (ps:=["steps","vector"]) fun _ _ _ _ _ _ us hl=>bZ us hl fun _ _=>rfl⟩
  have F19:=bj (st:=cO) l19 c19 k19
  have rX:Def K mg "_law_cell_at" cO ["_law_script","_law_k"]:=⟨_,_,F19,mg_of X G0 a19,F19.binds (ps:=["_law_script","_law_k"]) fun _ _ _ _ _ _ us hl=>bZ us hl fun _ _=>rfl⟩
  have F20:=bj (st:=dj) l20 c20 k20
  have vo:Def K mg "_law_lowest" dj ["_law_top","_law_bottom"]:=⟨_,_,F20,mg_of X G0 a20,F20.binds (ps:=["_law_top","_law_bottom"]) fun _ _ _ _ _ _ us hl=>bZ us hl fun _ _=>rfl⟩
  have F21:=bj (st:=dJ) l21 c21 k21
  have xB:Def K mg "_law_mixed" dJ ["_law_cell","_law_k"]:=⟨_,_,F21,mg_of X G0 a21,F21.binds (ps:=["_law_cell","_law_k"]) fun _ _ _ _ _ _ us hl=>bZ us hl fun _ _=>rfl⟩
  have F22:=bj (st:=dM) l22 c22 k22
  have xC:Def K mg "_law_alike" dM ["_law_found","_law_due"]:=⟨_,_,F22,mg_of X G0 a22,F22.binds (ps:=["_law_found","_law_due"]) fun _ _ _ _ _ _ us hl=>bZ us hl fun _ _=>rfl⟩
  have F23:=bj (st:=cx) l23 c23 k23
  have qL:Def K mg "_law_name_row" cx ["_law_mixed_here"]:=⟨_,_,F23,mg_of X G0 a23,F23.binds (ps:=["_law_mixed_here"]) fun _ _ _ _ _ _ us hl=>fh us hl fun _=>rfl⟩
  have F24:=bj (st:=dk) l24 c24 k24
  have vp:Def K mg "_law_pieces" dk ["_law_cell","_law_count","_law_total"]:=⟨_,_,F24,mg_of X G0 a24,F24.binds (ps:=["_law_cell","_law_count","_law_total"]) fun _ _ _ _ _ _ us hl=>lO us hl fun _ _ _=>rfl⟩
  have F25:=bj (st:=ee) l25 c25 k25
  have zL:Def K mg "_law_tune" ee ["_law_script","_law_at"]:=⟨_,_,F25,mg_of X G0 a25,F25.binds (ps:=["_law_script","_law_at"]) fun _ _ _ _ _ _ us hl=>bZ us hl fun _ _=>rfl⟩
  have F26:=bj (st:=eg) l26 c26 k26
  have zM:Def K mg "_law_copy" eg ["_law_tune_here"]:=⟨_,_,F26,mg_of X G0 a26,F26.binds (ps:=["_law_tune_here"]) fun _ _ _ _ _ _ us hl=>fh us hl fun _=>rfl⟩
  have F27:=bj (st:=eW) l27 c27 k27
  have Cv:Def K mg "_law_put" eW ["_law_tune_here","_law_span"]:=⟨_,_,F27,mg_of X G0 a27,F27.binds (ps:=["_law_tune_here","_law_span"]) fun _ _ _ _ _ _ us hl=>bZ us hl fun _ _=>rfl⟩
  have F28:=bj (st:=eh) l28 c28 k28
  have zN:Def K mg "_law_fits" eh ["_law_tune_here"]:=⟨_,_,F28,mg_of X G0 a28,F28.binds (ps:=["_law_tune_here"]) fun _ _ _ _ _ _ us hl=>fh us hl fun _=>rfl⟩
  have F29:=bj (st:=dN) l29 c29 k29
  have xD:Def K mg "_law_steps" dN ["_law_script","_law_at"]:=⟨_,_,F29,mg_of X G0 a29,F29.binds (ps:=["_law_script","_law_at"]) fun _ _ _ _ _ _ us hl=>bZ us hl fun _ _=>rfl⟩
  have F30:=bj (st:=ei) l30 c30 k30
  have zO:Def K mg "_law_rest" ei ["_law_steps_here","_law_row"]:=⟨_,_,F30,mg_of X G0 a30,F30.binds (ps:=["_law_steps_here","_law_row"]) fun _ _ _ _ _ _ us hl=>bZ us hl fun _ _=>rfl⟩
  have F31:=bj (st:=dq) l31 c31 k31
  have vq:Def K mg "_law_commas" dq ["_law_steps_here","_law_cell"]:=⟨_,_,F31,mg_of X G0 a31,F31.binds (ps:=["_law_steps_here","_law_cell"]) fun _ _ _ _ _ _ us hl=>bZ us hl fun _ _=>rfl⟩
  have F32:=bj (st:=eX) l32 c32 k32
  have Cw:Def K mg "_law_all" eX ["_law_steps_here","_law_tune_here"]:=⟨_,_,F32,mg_of X G0 a32,F32.binds (ps:=["_law_steps_here","_law_tune_here"]) fun _ _ _ _ _ _ us hl=>bZ us hl fun _ _=>rfl⟩
  have F33:=bj (st:=dO) l33 c33 k33
  have xE:Def K mg "_law_other" dO ["_law_steps_here","_law_tune_here","_law_cell"]:=⟨_,_,F33,mg_of X G0 a33,F33.binds (ps:=["_law_steps_here","_law_tune_here","_law_cell"]) fun _ _ _ _ _ _ us hl=>lO us hl fun _ _ _=>rfl⟩
  have F34:=bj (st:=gn) l34 c34 k34
  have FW:Def K mg "_law_is" gn ["_law_tuning","_law_tune_here","_law_due"]:=⟨_,_,F34,mg_of X G0 a34,F34.binds (ps:=["_law_tuning","_law_tune_here","_law_due"]) fun _ _ _ _ _ _ us hl=>lO us hl fun _ _ _=>rfl⟩
  have F35:=bj (st:=lM) l35 c35 k35
  have F36:=bj (st:=bA) l36 c36 k36
  have kI:BD K Nh "__init__" "CommaTuning.__init__" bA ["self","commas"]:=⟨_,F36,F36.binds (ps:=["self","commas"]) fun _ _ _ _ _ _ us hl=>bZ us hl fun _ _=>rfl⟩
  have F37:=bj (st:=bt) l37 c37 To
  have jT:BD K Ni "sound" "CommaTuning.sound" bt ["self","row"]:=⟨_,F37,F37.binds (ps:=["self","row"]) fun _ _ _ _ _ _ us hl=>bZ us hl fun _ _=>rfl⟩
  refine⟨fnOf "law" "law" (aE lM) (az lM) (ak lM) .none Sd Se Sf RN Nj Sh,fun s v=>.of_eq rfl,fun base _ _ rY rZ r6 r8 nD nF Sk=>?_⟩
  have vt:CodeHd base bR (dX K "parted")/\base.BuiltinsAt mg (dX K "parted"):=by rw [uE kG];exact⟨rY,rZ⟩
  have vv:CodeHd base bT (dX K "sounds")/\base.BuiltinsAt mg (dX K "sounds"):=by rw [uE kH];exact⟨r6,r8⟩
  have oA:CodeHd base bp (dX K "respelled")/\base.BuiltinsAt mg (dX K "respelled"):=by rw [uE gW];exact⟨nD,nF⟩
  have Y:base.NoSeer/\l.prog.given.tree=none:=⟨Sk,RM⟩
  have zP:=xj (w:=w) zK T Y
  have Nw:=Jf (w:=w) Nv T Y
  have AY:=Fm (w:=w) Jq T Y
  have nG:=lZ (w:=w) nz T Y
  have vw:=rH (w:=w) vn T Y
  have gY:=qp (w:=w) rX T Y
  have vx:=rK (w:=w) vo T Y
  have fy:=uU (w:=w) xB T Y
  have qM:=oq (w:=w) qL T Y
  have zQ:=xm (w:=w) zM T Y
  have Cy:=y8 (w:=w) Cv T Y
  have qN:=xo (w:=w) zN T Y
  have zR:=xq (w:=w) zO T Y
  have FX:=BY (w:=w) FT T ⟨zP⟩ Y
  have vy:=rO (w:=w) vp T ⟨fy⟩ Y
  have xF:=uY (w:=w) xD T ⟨gY,fy⟩ Y
  have vz:=rR (w:=w) vq T ⟨fy⟩ Y
  have Cz:=zd (w:=w) Cw T ⟨zR⟩ Y
  have xG:=u6 (w:=w) xE T ⟨fy⟩ Y
  have CA:=zk (w:=w) Cp T ⟨FX⟩ Y
  have zS:=xv (w:=w) zL T ⟨gY,vx,fy,qM,vy⟩ Y
  have tY:=zp (w:=w) Cq T ⟨CA⟩ Y
  have xH:=va (w:=w) xC T Y 6
  have nH:=zt (w:=w) Cs T ⟨Nw,AY⟩ Y
  have FY:=B2 (w:=w) FV T ⟨AY,nH⟩ Y vt
  have CB:=zx (w:=w) Cu T ⟨vw,nH⟩ Y
  have CC:=zB (w:=w) Ct T ⟨nH,FY⟩ Y
  have jU:=jw (w:=w) jT T ⟨CB⟩ Y
  have Js:=Fw (w:=w) Jr T ⟨nG,CC⟩ Y
  have kJ:=jS (w:=w) kI T ⟨Js⟩ Y
  have qO:=oz (w:=w) qK T ⟨tY,jU⟩ Y
  have sg:=qB (w:=w) rV T ⟨qO⟩ Y
  have tZ:=zF (w:=w) Cr T ⟨sg⟩ Y
  have FZ:=B6 (w:=w) FU T ⟨tZ⟩ Y vv
  have xI:=ve (w:=w) xA T ⟨tY,tZ⟩ Y oA
  have si:=qE (w:=w) rW T ⟨FZ⟩ Y
  have F9:=Ca (w:=w) FW T ⟨xI,xH,zQ,qN⟩ Y
  exact Nd F35 T ⟨si,gY,zS,Cy,qN,xF,vz,Cz,xG,F9,kJ⟩ Y
end Law
open PySem PySem.W PyProof.Rows
set_option maxRecDepth 100000 in
theorem PySem.Challenge.cw_tuningyard_k67_respelled_holds : PySem.Challenge.rw_tuningyard_k67_respelled.Holds := by
 w_on;o_law;k_head;(case hw=>w_witness2)
 k_fill
 refine' L2.BI (l:=PySem.Challenge.rw_tuningyard_k67_respelled) (k:=44) (x:="_law_script") (fun K=>tabIn K "parted") Law.IP "parted.<locals>.<lambda>" (fun K=>tabIn K "sounds") Law.Kc "sounds.<locals>.<lambda>" (fun K=>tabIn K "respelled") Law.Kd "respelled.<locals>.<lambda>" (by decide +kernel) rfl rfl ⟨rfl,by decide,by decide⟩ ?hY ?QT ?QU ?QV ?SS ?Vk ?Vl ?Vm ?Vn ?Vo ?hd ?F
 case hY=>exact fun w h Y=>⟨PySem.W.km_in_of Y,km_tabs_of Y _ (.tail _ (.head _)),km_tabs_of Y _ (.tail _ (.tail _ (.head _))),km_tabs_of Y _ (.head _)⟩
 case QT=>exact fun w=>rfl
 case QU=>exact fun w=>rfl
 case QV=>exact fun w=>rfl
 case SS=>intro w;kernel_rfl
 case Vm=>intro w;kernel_rfl
 case Vk=>intro w;kernel_rfl
 case Vn=>intro w;kernel_rfl
 case Vl=>intro w;kernel_rfl
 case Vo=>intro w;kernel_rfl
 case hd=>decide
 case F =>
  intro w mg fa h KX G OV kG kH gW
  refine' Law.all_mk KX G rfl OV kG kH gW ?fq ?a0 ?l0 ?c0 ?k0 ?a1 ?l1 ?c1 ?k1 ?a2 ?l2 ?c2 ?k2 ?a3 ?l3 ?c3 ?k3 ?a4 ?l4 ?c4 ?k4 ?a5 ?l5 ?c5 ?k5 ?a6 ?l6 ?c6 ?k6 ?a7 ?l7 ?c7 ?k7 ?a8 ?l8 ?c8 ?k8 ?a9 ?l9 ?c9 ?k9 ?a10 ?l10 ?c10 ?k10 ?a11 ?Tc ?c11 ?k11 ?a12 ?N2 ?c12 ?k12 ?a13 ?l13 ?c13 ?k13 ?a14 ?l14 ?c14 ?k14 ?a15 ?l15 ?c15 ?k15 ?a16 ?l16 ?c16 ?k16 ?a17 ?l17 ?c17 ?k17 ?a18 ?l18 ?c18 ?k18 ?a19 ?l19 ?c19 ?k19 ?a20 ?l20 ?c20 ?k20 ?a21 ?l21 ?c21 ?k21 ?a22 ?l22 ?c22 ?k22 ?a23 ?l23 ?c23 ?k23 ?a24 ?l24 ?c24 ?k24 ?a25 ?l25 ?c25 ?k25 ?a26 ?l26 ?c26 ?k26 ?a27 ?l27 ?c27 ?k27 ?a28 ?l28 ?c28 ?k28 ?a29 ?l29 ?c29 ?k29 ?a30 ?l30 ?c30 ?k30 ?a31 ?l31 ?c31 ?k31 ?a32 ?l32 ?c32 ?k32 ?a33 ?l33 ?c33 ?k33 ?a34 ?l34 ?c34 ?k34 ?a35 ?l35 ?c35 ?k35 ?a36 ?l36 ?c36 ?k36 ?i36 ?a37 ?l37 ?c37 ?To ?i37 ?gw ?gx ?gy ?gz ?gB ?gD ?gE ?fH ?fI ?fJ ?fK ?dR ?dS ?FH ?FI ?qH ?qI ?gX ?vh ?gP ?iQ ?iR ?iS ?fx ?nh ?jK ?jL ?nj ?nk ?nq ?nr ?nu ?nv ?ny ?iT ?jx ?jy ?jz ?cz ?cI ?cJ ?bX ?iU ?FJ ?FK ?zI ?jA ?FL ?iV ?FN ?zJ ?FO ?vj ?qJ ?FP ?FQ ?vm ?FR
  (case fq=>k_is)
  (case a0=>k_is)
  (case l0=>k_is)
  (case c0=>k_is)
  (case k0=>k_is)
  (case a1=>k_is)
  (case l1=>k_is)
  (case c1=>k_is)
  (case k1=>k_is)
  (case a2=>k_is)
  (case l2=>k_is)
  (case c2=>k_is)
  (case k2=>k_is)
  (case a3=>k_is)
  (case l3=>k_is)
  (case c3=>k_is)
  (case k3=>k_is)
  (case a4=>k_is)
  (case l4=>k_is)
  (case c4=>k_is)
  (case k4=>k_is)
  (case a5=>k_is)
  (case l5=>k_is)
  (case c5=>k_is)
  (case k5=>k_is)
  (case a6=>k_is)
  (case l6=>k_is)
  (case c6=>k_is)
  (case k6=>k_is)
  (case a7=>k_is)
  (case l7=>k_is)
  (case c7=>k_is)
  (case k7=>k_is)
  (case a8=>k_is)
  (case l8=>k_is)
  (case c8=>k_is)
  (case k8=>k_is)
  (case a9=>k_is)
  (case l9=>k_is)
  (case c9=>k_is)
  (case k9=>k_is)
  (case a10=>k_is)
  (case l10=>k_is)
  (case c10=>k_is)
  (case k10=>k_is)
  (case a11=>k_is)
  (case Tc=>k_is)
  (case c11=>k_is)
  (case k11=>k_is)
  (case a12=>k_is)
  (case N2=>k_is)
  (case c12=>k_is)
  (case k12=>k_is)
  (case a13=>k_is)
  (case l13=>k_is)
  (case c13=>k_is)
  (case k13=>k_is)
  (case a14=>k_is)
  (case l14=>k_is)
  (case c14=>k_is)
  (case k14=>k_is)
  (case a15=>k_is)
  (case l15=>k_is)
  (case c15=>k_is)
  (case k15=>k_is)
  (case a16=>k_is)
  (case l16=>k_is)
  (case c16=>k_is)
  (case k16=>k_is)
  (case a17=>k_is)
  (case l17=>k_is)
  (case c17=>k_is)
  (case k17=>k_is)
  (case a18=>k_is)
  (case l18=>k_is)
  (case c18=>k_is)
  (case k18=>k_is)
  (case a19=>k_is)
  (case l19=>k_is)
  (case c19=>k_is)
  (case k19=>k_is)
  (case a20=>k_is)
  (case l20=>k_is)
  (case c20=>k_is)
  (case k20=>k_is)
  (case a21=>k_is)
  (case l21=>k_is)
  (case c21=>k_is)
  (case k21=>k_is)
  (case a22=>k_is)
  (case l22=>k_is)
  (case c22=>k_is)
  (case k22=>k_is)
  (case a23=>k_is)
  (case l23=>k_is)
  (case c23=>k_is)
  (case k23=>k_is)
  (case a24=>k_is)
  (case l24=>k_is)
  (case c24=>k_is)
  (case k24=>k_is)
  (case a25=>k_is)
  (case l25=>k_is)
  (case c25=>k_is)
  (case k25=>k_is)
  (case a26=>k_is)
  (case l26=>k_is)
  (case c26=>k_is)
  (case k26=>k_is)
  (case a27=>k_is)
  (case l27=>k_is)
  (case c27=>k_is)
  (case k27=>k_is)
  (case a28=>k_is)
  (case l28=>k_is)
  (case c28=>k_is)
  (case k28=>k_is)
  (case a29=>k_is)
  (case l29=>k_is)
  (case c29=>k_is)
  (case k29=>k_is)
  (case a30=>k_is)
  (case l30=>k_is)
  (case c30=>k_is)
  (case k30=>k_is)
  (case a31=>k_is)
  (case l31=>k_is)
  (case c31=>k_is)
  (case k31=>k_is)
  (case a32=>k_is)
  (case l32=>k_is)
  (case c32=>k_is)
  (case k32=>k_is)
  (case a33=>k_is)
  (case l33=>k_is)
  (case c33=>k_is)
  (case k33=>k_is)
  (case a34=>k_is)
  (case l34=>k_is)
  (case c34=>k_is)
  (case k34=>k_is)
  (case a35=>k_is)
  (case l35=>k_is)
  (case c35=>k_is)
  (case k35=>k_is)
  (case a36=>k_is)
  (case l36=>k_is)
  (case c36=>k_is)
  (case k36=>k_is)
  (case i36=>k_is)
  (case a37=>k_is)
  (case l37=>k_is)
  (case c37=>k_is)
  (case To=>k_is)
  (case i37=>k_is)
  (case gw=>k_is)
  (case gx=>k_is)
  (case gy=>k_is)
  (case gz=>k_is)
  (case gB=>k_is)
  (case gD=>k_is)
  (case gE=>k_is)
  (case fH=>k_is)
  (case fI=>k_is)
  (case fJ=>k_is)
  (case fK=>k_is)
  (case dR=>k_is)
  (case dS=>k_is)
  (case FH=>k_is)
  (case FI=>k_is)
  (case qH=>k_is)
  (case qI=>k_is)
  (case gX=>k_is)
  (case vh=>k_is)
  (case gP=>k_is)
  (case iQ=>k_is)
  (case iR=>k_is)
  (case iS=>k_is)
  (case fx=>k_is)
  (case nh=>k_is)
  (case jK=>k_is)
  (case jL=>k_is)
  (case nj=>k_is)
  (case nk=>k_is)
  (case nq=>k_is)
  (case nr=>k_is)
  (case nu=>k_is)
  (case nv=>k_is)
  (case ny=>k_exc)
  (case iT=>k_is)
  (case jx=>k_is)
  (case jy=>k_is)
  (case jz=>k_is)
  (case cz=>k_is)
  (case cI=>k_is)
  (case cJ=>decide)
  (case bX=>k_is)
  (case iU=>k_is)
  (case FJ=>k_is)
  (case FK=>k_is)
  (case zI=>k_is)
  (case jA=>k_is)
  (case FL=>k_is)
  (case iV=>k_is)
  (case FN=>k_is)
  (case zJ=>k_is)
  (case FO=>k_is)
  (case vj=>k_is)
  (case qJ=>k_is)
  (case FP=>k_is)
  (case FQ=>k_is)
  (case vm=>k_is)
  (case FR=>k_is)
