import PyProof.Rows.All
import Wide.All
import OpenK.AllK
import Wide.FinOn
import Lean
import PyProof.EqAt
import PyProof.EqKinds
import PyProof.TupleCall
import PyProof.CompMap
import PyProof.ZipIter
import PyProof.TupleIter
import PyProof.ExcAttrAll.ValueError
import KE.KSortKey
import KE.KRevIter
import KE.KLam
import KE.KNestM
import PyProof.Rows.Range3
import PyProof.EnumMake
import PyProof.JoinWalk
import PyProof.Rows.StrSplitJoin
import PyProof.Rows.StrWeight2
import PyProof.StrOps2
import KE.KSortTup
import KE.KMinKey
import PyProof.FactsAll.range_2
import PyProof.ListRange
import PyProof.Rows.StrCountLaw
import PyProof.Rows.SetFrom
import PyProof.Rows.FactsT2
import PyProof.StrLawsTight
import PyProof.StrLawsChain
import PyProof.Rows.StrItems
import KE.KIntText
import PyProof.StrLawsFirst
import PyProof.StrBlockL
import PyProof.Rows.StrNews2
import PyProof.StrWalks
import PySem.Challenge.RW_tuningyard_k66_whole_heard_alike_by_the
set_option Elab.async false
set_option linter.all false
set_option maxRecDepth 100000
noncomputable section
open PySem.W (CodeHd Frag InitBack InstAt Looks OpenLaw callWith_K cellsFrom_some clsIn codeIn emptyDict excIn findCls findIn fnOf handedIn hasDictIn instObj isFn keepIn kia_one kitOne kitx_dict kitx_list kitx_tuple km_tabs_of lookIn looks_findIn make_core makesIn makes_of methodCall_KW methodObj mg_none_of mg_of mroIn nsIn oi_run plainGet plainGet_of plainOver readsIn specialIn subIn tabIn takerIn takesIn typeIn)
open PyProof.Rows (boot_abs boot_all boot_bool boot_int boot_isinstance boot_max boot_sorted boot_str boot_sum boot_tuple callWith_type1)
open List (all_cons all_eq_true any_cons any_eq_false any_eq_true append_assoc append_nil drop_zero ext_getElem filter_append flatten_cons forIn_cons forIn_nil getElem?_append_left getElem?_append_right getElem?_eq_getElem getElem?_eq_none getElem?_map getElem?_set_ne getElem?_set_self getElem?_zipWith getElem_mem getElem_of_mem length_append length_cons length_drop length_map length_range length_replicate length_reverse length_set length_singleton length_take lookup_cons map_append map_congr_left map_cons map_inj_left map_map map_nil map_set map_take mem_append mem_append_left mem_append_right mem_cons mem_cons_of_mem mem_cons_self mem_filter mem_filterMap mem_map mem_map_of_mem mem_of_getElem? mem_of_mem_take mem_or_eq_of_mem_set mem_range mem_reverse mem_singleton nodup_cons not_mem_nil of_mem_zip pairwise_cons range_succ replicate_succ size_toArray sum_append sum_cons sum_singleton take_add_one take_length take_of_length_le take_zero zipIdx_cons zipIdx_nil)
open Nat (add_mul eq_zero_or_pos le_add_right le_of_ble_eq_true le_of_eq le_succ log2_lt lt_of_le_of_lt lt_succ_self mod_lt mul_assoc mul_le_mul mul_le_mul_left mul_le_mul_right mul_pos ne_of_lt one_mul pow_add pow_le_pow_right pow_succ sub_zero two_pow_pos zero_le)
open Int (emod_lt_of_pos emod_nonneg mul_neg natAbs_mul natAbs_sub_le toNat_natCast zero_mul)
section
open PySem PySem.Spec PyProof.Rows
abbrev aaG:=@Heap.get?_push_of_some
abbrev aaH:=@wpAny_bind
abbrev aaI:=@List.getElem?_eq_some_iff
abbrev aaJ:=@Heap.lt_size
abbrev aaK:=@Heap.get?_push_size
abbrev aaL:=@Nat.le_trans
abbrev aaM:=@Nat.le_refl
abbrev aaN:=@Nat.le_of_lt
abbrev aaO:=@Option.some.inj
abbrev aaP:=@Value.ref.inj
abbrev aaQ:=@of_decide_eq_true
abbrev aaR:=@of_decide_eq_false
abbrev aaS:=@decide_eq_false
abbrev aaT:=@decide_eq_true
abbrev aaU:=@Option.isSome_iff_exists
abbrev aaV:=@wpAny_pure
abbrev aaW:=@wpAny_mono
abbrev aaX:=@List.length_filter_le
abbrev aaY:=@Int.fdiv_eq_ediv_of_nonneg
abbrev aaZ:=@getElem?_eq_getElem
abbrev aa0:=@mem_append_right
abbrev aa1:=@mem_append_left
abbrev aa2:=@mem_singleton
abbrev aa3:=@mem_append
abbrev aa4:=@mem_of_getElem?
abbrev aa5:=@length_map
abbrev aa6:=@length_append
abbrev aa7:=@length_singleton
abbrev aa8:=@mem_cons_of_mem
abbrev aa9:=@mem_cons
abbrev aba:=@mem_map
abbrev abb:=@mem_filter
abbrev abc:=@pow_le_pow_right
abbrev abd:=@lt_of_le_of_lt
abbrev abe:=@mul_le_mul_right
abbrev abf:=@mul_le_mul
abbrev abg:=@getElem?_append_left
abbrev abh:=@getElem?_append_right
abbrev abi:=@length_range
abbrev abj:=@mem_range
abbrev abk:=@take_length
abbrev abl:=@length_take
abbrev abm:=@size_toArray
abbrev abn:=@getElem?_map
abbrev abo:=@map_append
abbrev abp:=@map_map
abbrev abq:=@map_congr_left
abbrev abr:=@take_of_length_le
abbrev abt:=@natAbs_mul
abbrev abu:=@two_pow_pos
abbrev abv:=@zero_le
abbrev abw:=@ne_of_lt
abbrev abx:=@le_of_ble_eq_true
abbrev aby:=@pairwise_cons
abbrev abz:=@mem_of_mem_take
abbrev abA:=@getElem_mem
abbrev abB:=@getElem_of_mem
abbrev abC:=@toNat_natCast
end
abbrev eT (l:List PySem.Str):=List.Nodup l
namespace L2
open PySem PySem.Spec PyProof.Rows
abbrev Key:=Sum Int Str
def Mi:Key->Value->Bool
 | .inl k,v=>Value.isInt k v
 | .inr x,v=>Value.isStrOf x v
def Ws(w:World):Key->Int
 | .inl k=>hashInt k
 | .inr x=>hashStr w x
theorem c8:∀ {k:Key} {v:Value},Mi k v=true->(∃ i t,k=Sum.inl i/\v=Value.int i t)\/(∃ x t,k=Sum.inr x/\v=Value.str x t)
 | .inl i,v,h=>by
  obtain ⟨t,e⟩:=Value.isInt_shape (k:=i) (v:=v) h
  exact .inl ⟨i,t,rfl,e⟩
 | .inr x,v,h=>by
  obtain ⟨t,e⟩:=Value.isStrOf_shape (x:=x) (v:=v) h
  exact .inr ⟨x,t,rfl,e⟩
theorem Np(a b:Int):decide ((Sum.inl a:Key)=Sum.inl b)=(a == b):=by
 by_cases e:a=b
 ·subst e;simp
 ·have h:¬ (Sum.inl a:Key)=Sum.inl b:=fun q=>e (Sum.inl.inj q)
  rw [aaS h]
  exact (beq_eq_false_iff_ne.mpr e).symm
theorem Nq(a b:Str):decide ((Sum.inr a:Key)=Sum.inr b)=decide (a=b):=by
 by_cases e:a=b
 ·subst e;simp
 ·have h:¬ (Sum.inr a:Key)=Sum.inr b:=fun q=>e (Sum.inr.inj q)
  rw [aaS h,aaS e]
theorem Nr(a:Int)(b:Str):decide ((Sum.inl a:Key)=Sum.inr b)=false:=aaS (fun q=>nomatch q)
theorem Nu(a:Str)(b:Int):decide ((Sum.inr a:Key)=Sum.inl b)=false:=aaS (fun q=>nomatch q)
def C6(prog:Program)(w:World):PySem.KeyKind prog w Key where
 is:=Mi
 hash:=Ws w
 inj:=fun v a b ha hb=>by
  rcases c8 ha with ⟨i,t,rfl,rfl⟩|⟨x,t,rfl,rfl⟩
  ·rcases c8 hb with ⟨j,u,rfl,e⟩|⟨y,u,rfl,e⟩
   ·injection e with e1 _;rw [e1]
   ·exact nomatch e
  ·rcases c8 hb with ⟨j,u,rfl,e⟩|⟨y,u,rfl,e⟩
   ·exact nomatch e
   ·injection e with e1 _;rw [e1]
 byValue:=fun k v h=>by
  rcases c8 h with ⟨i,t,rfl,rfl⟩|⟨x,t,rfl,rfl⟩ <;> rfl
 pyHash:=fun hv h=>by
  rcases c8 hv with ⟨i,t,rfl,rfl⟩|⟨x,t,rfl,rfl⟩
  ·exact wpAny_pyHash_int h
  ·exact wpAny_pyHash_str h
 eqBool:=fun hu hv h=>by
  rcases c8 hu with ⟨i,t,rfl,rfl⟩|⟨x,t,rfl,rfl⟩
  ·rcases c8 hv with ⟨j,u,rfl,rfl⟩|⟨y,u,rfl,rfl⟩
   ·rw [Np] at h;exact wpAny_eqBool_int h
   ·rw [Nr] at h;exact SeqAt.EqAt.int_str i t y u _ _ _ _ h
  ·rcases c8 hv with ⟨j,u,rfl,rfl⟩|⟨y,u,rfl,rfl⟩
   ·rw [Nu] at h;exact SeqAt.EqAt.str_int x t j u _ _ _ _ h
   ·rw [Nq] at h;exact wpAny_eqBool_str h
 «strs»:=fun k x t v h=>by
  rcases c8 h with ⟨i,u,rfl,e⟩|⟨y,u,rfl,e⟩
  ·exact nomatch e
  ·injection e with e1 _
   subst e1
   cases v <;> rfl
inductive V where
 | dz|bl (b:Bool)|int (i:Int)|str (x:Str)|FI (b:Array UInt8)|Nv (b:UInt64)|ref (a:Addr)|ty (n:String)
 deriving DecidableEq
def RelV:V->Value->Prop
 | .dz,u=>u=Value.none
 | .bl b,u=>u=Value.bool b
 | .int i,u=>∃ t,u=Value.int i t
 | .str x,u=>∃ t,u=Value.str x t
 | .FI b,u=>∃ t,u=Value.bytes b t
 | .Nv b,u=>∃ t,u=Value.float b t
 | .ref a,u=>u=Value.ref a
 | .ty n,u=>u=Value.type n
abbrev Vals:List V->List Value->Prop:=Paired RelV
theorem Vals.length{xs:List V}{us:List Value}(r:Vals xs us):xs.length=us.length:=Paired.length r
theorem Vals.get:∀ {xs:List V} {us:List Value} {i:Nat} {x:V},Vals xs us->xs[i]?=some x->∃ u,us[i]?=some u/\RelV x u
 | _,_,_,_,.nil,e=>by simp at e
 | _,_,0,_,.cons r _,e=>by simp at e;subst e;exact⟨_,rfl,r⟩
 | _,_,i+1,x,.cons _ t,e=>by
  obtain ⟨u,h1,h2⟩:=Vals.get (i:=i) (x:=x) t (by simpa using e)
  exact⟨u,by simpa using h1,h2⟩
theorem Vals.set{x:V}{u:Value}(r:RelV x u):∀ {xs:List V} {us:List Value} (i:Nat),Vals xs us->Vals (xs.set i x) (us.set i u)
 | _,_,_,.nil=>.nil
 | _,_,0,.cons _ t=>.cons r t
 | _,_,i+1,.cons q t=>.cons q (Vals.set r i t)
theorem Vals.append:∀ {xs ys:List V} {us ws:List Value},Vals xs us->Vals ys ws->Vals (xs++ys) (us++ws)
 | _,_,_,_,.nil,s=>s
 | _,_,_,_,.cons r t,s=>.cons r (Vals.append t s)
theorem Vals.take:∀ {xs:List V} {us:List Value} (n:Nat),Vals xs us->Vals (xs.take n) (us.take n)
 | _,_,0,_=>.nil
 | _,_,_+1,.nil=>.nil
 | _,_,n+1,.cons r t=>.cons r (Vals.take n t)
theorem Vals.drop:∀ {xs:List V} {us:List Value} (n:Nat),Vals xs us->Vals (xs.drop n) (us.drop n)
 | _,_,0,r=>r
 | _,_,_+1,.nil=>.nil
 | _,_,n+1,.cons _ t=>Vals.drop n t
def uZ:Option V->Option Value->Prop
 | some v,some u=>RelV v u
 | none,none=>True
 | _,_=>False
def KV{κ:Type}:List (κ×V)->List (κ×Value)->Prop:=Paired fun (p:κ×V) (q:κ×Value)=>p.1=q.1/\RelV p.2 q.2
def kV:Key->V
 | .inl i=>.int i
 | .inr x=>.str x
inductive HO where
 /-- a list -/
 | lst (xs:List V)
 /-- a tuple (never changes) -/
 | tup (xs:List V)
 /-- a dict Rz keys are ints and texts;one Rz keys are tuples of ints and texts (QR empty one is both) -/
 | dK (oX:List (Key×V))|dT (oX:List (List Key×V))
 /-- a set of ints: its members,its size -/
 | set (S:Int->Bool) (n:Nat)
 /-- an instance of QR class at C,its dict at dx,its attributes -/
 | ins (C dx:Addr) (fs:List (Str×V))
 /-- QR dict of QR instance at x -/
 | own (x:Addr)
 /-- QR dict of an exception -/
 | xd (fs:List (Str×V))
 /-- a bound method,f of x -/
 | met (f x:Addr)
 /-- a range object lo,lo+1,.. below hi -/
 | Wt (lo hi:Int)
 /-- a RA that is known to QR object (QR Wu;a dict while a loop walks it): read,never written while it is so -/
 | xa (o:Obj) (u:HO)
 /-- a code RC table -/
 | sG (ps:Array Value)
 /-- any other RA,by what is true of its one object (a def of one's own: SetO a S n:=HO.ext fun h=>..) -/
 | ext (φ:Heap->Prop)
abbrev Hp:=Addr->Option HO
def upd(H:Hp)(a:Addr)(o:HO):Hp:=fun b=>if b=a then some o else H b
theorem av{H:Hp}{a:Addr}{o:HO}:upd H a o a=some o:=by unfold upd;rw [if_pos rfl]
theorem ax{H:Hp}{a b:Addr}{o:HO}(h:b≠a):upd H a o b=H b:=by unfold upd;rw [if_neg h]
theorem bf{H:Hp}{a b:Addr}{o:HO}(h:H a=some o)(h':H b=none):a≠b:=by
 intro e;subst e;rw [h] at h';cases h'
section
variable (P:Program)(w:World)
def d3(H:Hp)(h:Heap)(a:Addr):HO->Prop
 | .lst xs=>xs.length<=sizeLine/\∃ (its:List Value) (n:Nat),Vals xs its/\h.get? a=some { cls:=.type "list",data:=.seq its.toArray n }
 | .tup xs=>xs.length<=sizeLine/\∃ its:List Value,Vals xs its/\IsTup h a its.toArray
 | .dK oX=>oX.length<=sizeLine/\(a == sysModules)=false/\∃ vs,KV oX vs/\h.DictOf (C6 P w) a vs
 | .dT oX=>oX.length<=sizeLine/\(a == sysModules)=false/\∃ xs:List (List Key×Addr×Value),
   Paired (fun (p:List Key×V) (q:List Key×Addr×Value)=>p.1=q.1/\H q.2.1=some (.tup (p.1.map kV))/\RelV p.2 q.2.2) oX xs /\
   ∃ o es ep,h.get? a=some o/\o.ExactDict/\o.data=.dict es ep/\es.toList=xs.map (entryOfKey (tupleKind (C6 P w)))/\(xs.map (·.1)).Nodup
 | .set S n=>h.SetOf (intKind P w) a S n
 | .ins C dx fs=>H dx=some (.own a)/\fs.length<=1000/\dx≠a/\h.get? a=some (instObj C dx) /\
   ∃ mA,h.Ns1 dx mA/\(∀ f,uZ (fs.lookup f) (mA f))/\PySem.Within mA (fs.map (·.1))
 | .own _=>∃ o,h.get? a=some o
 | .xd fs=>∃ mA,h.Ns1 a mA/\∀ f,uZ (fs.lookup f) (mA f)
 | .Wt lo hi=>∃ t u v,h.get? a=some { cls:=.type "range",data:=.fields #[.int lo t,.int hi u,.int 1 v] }
 | .xa o u=>h.get? a=some o/\d3 H h a u
 | .sG ps=>h.get? a=some { cls:=.none,data:=.fields ps }
 | .met f x=>h.get? a=some (methodObj (.ref f) (.ref x))
 | .ext φ=>φ h/\(∃ o,h.get? a=some o)/\∀ h1 h2:Heap,φ h1->(∀ o,h1.get? a=some o->h2.get? a=some o)->φ h2
def gW(H:Hp)(h:Heap):Prop:=∀ a o,H a=some o->d3 P w H h a o
end
section
variable {P:Program}{w:World}{H H':Hp}{h h':Heap}{a:Addr}{o:HO}
theorem d3.lt(x:d3 P w H h a o):a<h.objs.size:=by
 cases o with
 | lst xs=>obtain ⟨_,_,_,_,e⟩:=x;exact aaJ e
 | tup xs=>obtain ⟨_,_,_,p⟩:=x;exact p.lt
 | dK oX=>obtain ⟨_,_,_,_,o,_,_,e,_⟩:=x;exact aaJ e
 | dT oX=>obtain ⟨_,_,_,_,o,_,_,e,_⟩:=x;exact aaJ e
 | set S n=>obtain ⟨o,_,_,_,e,_⟩:=x;exact aaJ e
 | ins C dx fs=>obtain ⟨_,_,_,e,_⟩:=x;exact aaJ e
 | own y=>obtain ⟨_,e⟩:=x;exact aaJ e
 | xd fs=>obtain ⟨_,⟨_,_,_,e,_⟩,_⟩:=x;exact aaJ e
 | Wt lo hi=>obtain ⟨_,_,_,e⟩:=x;exact aaJ e
 | xa ob u=>obtain ⟨e,_⟩:=x;exact aaJ e
 | sG ps=>exact aaJ (show h.get? a=some _ from x)
 | met f y=>exact aaJ (show h.get? a=some _ from x)
 | ext φ=>obtain ⟨_,⟨_,e⟩,_⟩:=x;exact aaJ e
theorem Paired.RD{α β:Type}{F G:α->β->Prop}:∀ {l₁:List α} {l₂:List β},Paired F l₁ l₂->(∀ a b,F a b->G a b)->Paired G l₁ l₂
 | _,_,.nil,_=>.nil
 | _,_,.cons r t,f=>.cons (f _ _ r) (Paired.RD t f)
theorem d3.qX(x:d3 P w H h a o)(k:∀ b u,(b=a\/H b=some (.own a))->h.get? b=some u->h'.get? b=some u)
  (ho:∀ b,H b=some (.own a)->H' b=some (.own a)) (ht:∀ b xs,H b=some (.tup xs)->H' b=some (.tup xs)):d3 P w H' h' a o:=by
 induction o with
 | lst xs=>obtain ⟨z,its,n,r,e⟩:=x;exact⟨z,its,n,r,k _ _ (.inl rfl) e⟩
 | tup xs=>obtain ⟨z,its,r,ob,e,c⟩:=x;exact⟨z,its,r,ob,k _ _ (.inl rfl) e,c⟩
 | dK oX=>obtain ⟨z,y,vs,r,ob,es,ep,e,c⟩:=x;exact⟨z,y,vs,r,ob,es,ep,k _ _ (.inl rfl) e,c⟩
 | dT oX =>
  obtain ⟨z,y,xs,r,ob,es,ep,e,c⟩:=x
  exact⟨z,y,xs,Paired.RD r fun p q z=>⟨z.1,ht _ _ z.2.1,z.2.2⟩,ob,es,ep,k _ _ (.inl rfl) e,c⟩
 | set S n=>obtain ⟨ob,es,ep,t,e,c⟩:=x;exact⟨ob,es,ep,t,k _ _ (.inl rfl) e,c⟩
 | ins C dx fs =>
  obtain ⟨d,z,ne,e,mA,⟨od,es,ep,e2,c⟩,r⟩:=x
  exact⟨ho _ d,z,ne,k _ _ (.inl rfl) e,mA,⟨od,es,ep,k _ _ (.inr d) e2,c⟩,r⟩
 | own y=>obtain ⟨ob,e⟩:=x;exact⟨ob,k _ _ (.inl rfl) e⟩
 | xd fs=>obtain ⟨mA,⟨od,es,ep,e,c⟩,r⟩:=x;exact⟨mA,⟨od,es,ep,k _ _ (.inl rfl) e,c⟩,r⟩
 | Wt lo hi=>obtain ⟨t,u,v,e⟩:=x;exact⟨t,u,v,k _ _ (.inl rfl) e⟩
 | xa ob u ih=>obtain ⟨e,q⟩:=x;exact⟨k _ _ (.inl rfl) e,ih q⟩
 | sG ps =>
  have e:h.get? a=some { cls:=.none,data:=.fields ps }:=x
  show h'.get? a=some { cls:=.none,data:=.fields ps }
  exact k a _ (.inl rfl) e
 | met f y =>
  have e:h.get? a=some (methodObj (.ref f) (.ref y)):=x
  show h'.get? a=some (methodObj (.ref f) (.ref y))
  exact k a _ (.inl rfl) e
 | ext φ=>obtain ⟨p,⟨o,e⟩,st⟩:=x;exact⟨st _ _ p fun o q=>k _ _ (.inl rfl) q,⟨o,k _ _ (.inl rfl) e⟩,st⟩
theorem gW.lt(x:gW P w H h)(e:H a=some o):a<h.objs.size:=(x a o e).lt
theorem gW.fresh(x:gW P w H h)(e:h.objs.size<=a):H a=none:=by
 cases q:H a with
 | none=>rfl
 | some u=>exact absurd (Nat.lt_of_lt_of_le (x.lt q) e) (Nat.lt_irrefl _)
theorem gW.kept(x:gW P w H h)(k:∀ b u,h.get? b=some u->h'.get? b=some u):gW P w H h':=fun a o e =>
 (x a o e).qX (fun b u _ q=>k b u q) (fun _ q=>q) fun _ _ q=>q
theorem gW.laid(x:gW P w H h)(k:∀ b u,h.get? b=some u->h'.get? b=some u)(hp:h.objs.size<=a)(new:d3 P w (upd H a o) h' a o):gW P w (upd H a o) h':=fun b u e=>by
 have hn:=x.fresh hp
 by_cases hb:b=a
 ·subst hb;rw [av] at e;cases e;exact new
 ·rw [ax hb] at e
  exact (x b u e).qX (fun c v _ q=>k c v q) (fun c q=>by rw [ax (bf q hn)];exact q) fun c xs q=>by rw [ax (bf q hn)];exact q
end
def Rd(H:Hp)(a:Addr)(u:HO):Prop:=H a=some u\/∃ o,H a=some (.xa o u)
theorem Rd.ok{P:Program}{w:World}{H:Hp}{h:Heap}{a:Addr}{u:HO}(r:Rd H a u)(x:gW P w H h):d3 P w H h a u:=by
 rcases r with r|⟨o,r⟩
 ·exact x a u r
 ·obtain ⟨_,q⟩:=x a _ r
  exact q
def Vi:Option HO->Prop
 | some (.lst _)=>True
 | some (.dK _)=>True
 | some (.dT _)=>True
 | some (.set _ _)=>True
 | some (.ins _ _ _)=>True
 | some (.ext _)=>True
 | _=>False
section
variable {P:Program}{w:World}{H:Hp}{h h':Heap}{x e:Addr}{o':HO}
theorem gW.write(ok:gW P w H h)(mu:Vi (H x))(he:e=x\/H e=some (.own x))(k:∀ b u,b≠e->h.get? b=some u->h'.get? b=some u)(QS:∃ u,h'.get? e=some u)
  (new:d3 P w (upd H x o') h' x o'):gW P w (upd H x o') h':=fun b u q=>by
 have RE:∀ c y,H c=some (.own y)->c≠x:=fun c y r z=>by subst z;rw [r] at mu;exact mu
 have Wv:∀ c xs,H c=some (.tup xs)->c≠x:=fun c xs r z=>by subst z;rw [r] at mu;exact mu
 by_cases hb:b=x
 ·subst hb;rw [av] at q;cases q;exact new
 ·rw [ax hb] at q
  by_cases Nw:b=e
  ·have q':H b=some (.own x):=by
    rcases he with z|z
    ·exact absurd (Nw.trans z) hb
    ·rw [Nw];exact z
   rw [q] at q';cases q'
   obtain ⟨v,hv⟩:=QS
   exact⟨v,by rw [Nw];exact hv⟩
  ·refine (ok b u q).qX (fun c v hc r=>k c v ?_ r) (fun c r=>by rw [ax (RE c b r)];exact r) fun c xs r=>by rw [ax (Wv c xs r)];exact r
   rcases hc with rfl|hc
   ·exact Nw
   ·rintro rfl
    rcases he with z|z
    ·exact RE c b hc z
    ·rw [hc] at z;cases z;exact hb rfl
end
structure Un(fs ex:List Addr)(H H':Hp)(h h':Heap):Prop where
 keep:∀ b o,h.get? b=some o->H b=none->b∉fs->b∉ex->h'.get? b=some o
 slot:∀ b o,h.get? b=some o->H b=none->b∈fs->b∉ex->∃ sl,h'.get? b=some { o with slots:=sl }
 free:∀ b o,h.get? b=some o->H b=none->b∉ex->H' b=none
 there:∀ b o,h.get? b=some o->b∉ex->∃ o',h'.get? b=some o'
 nr:∀ b xs,H b=some (.tup xs)->H' b=some (.tup xs)
 lL:∀ b o u,H b=some (.xa o u)->H' b=some (.xa o u)
 lM:∀ b ps,H b=some (.sG ps)->∃ more,H' b=some (.sG (ps++more))
section
variable {fs fs' ex ex':List Addr}{H H1 H2:Hp}{h h1 h2 h':Heap}{a x e:Addr}{o:HO}
theorem Un.any(u:Un fs ex H H1 h h1){b:Addr}{ob:Obj}(q:h.get? b=some ob)(n:H b=none)(hx:b∉ex):∃ sl,h1.get? b=some { ob with slots:=sl }:=by
 by_cases hb:b∈fs
 ·exact u.slot b ob q n hb hx
 ·exact⟨ob.slots,u.keep b ob q n hb hx⟩
theorem Un.kept(k:∀ b u,h.get? b=some u->h'.get? b=some u):Un fs ex H H h h' :=
 ⟨fun b ob q _ _ _=>k b ob q,fun b ob q _ _ _=>⟨ob.slots,k b ob q⟩,fun _ _ _ n _=>n,fun b ob q _=>⟨ob,k b ob q⟩,fun _ _ q=>q,fun _ _ _ q=>q,fun _ ps q=>⟨#[],by rw [q];simp⟩⟩
theorem Un.refl:Un fs ex H H h h:=Un.kept fun _ _ q=>q
theorem Un.laid(k:∀ b u,h.get? b=some u->h'.get? b=some u)(hp:h.objs.size<=a)(hn:H a=none):Un fs ex H (upd H a o) h h' where
 keep:=fun b u q _ _ _=>k b u q
 slot:=fun b u q _ _ _=>⟨u.slots,k b u q⟩
 free:=fun b u q n _=>by rw [ax (abw (Nat.lt_of_lt_of_le (aaJ q) hp))];exact n
 there:=fun b u q _=>⟨u,k b u q⟩
 nr:=fun b xs q=>by rw [ax (bf q hn)];exact q
 lL:=fun b u xs q=>by rw [ax (bf q hn)];exact q
 lM:=fun b ps q=>⟨#[],by rw [ax (bf q hn),q];simp⟩
theorem Un.write(mu:Vi (H x))(he:e=x\/H e=some (.own x))(k:∀ b u,b≠e->h.get? b=some u->h'.get? b=some u)(QS:∃ u,h'.get? e=some u):Un fs ex H (upd H x o) h h':=by
 have hx:∀ b,H b=none->b≠x:=fun b n z=>by subst z;rw [n] at mu;exact mu
 have hb:∀ b,H b=none->b≠e:=fun b n z=>by
  subst z
  rcases he with r|r
  ·exact hx b n r
  ·rw [n] at r;cases r
 have hm:∀ b u,H b=some u->¬ Vi (some u)->b≠x:=fun b u q nm z=>by subst z;rw [q] at mu;exact nm mu
 refine⟨fun b u q n _ _=>k b u (hb b n) q,fun b u q n _ _=>⟨u.slots,k b u (hb b n) q⟩,fun b u q n _=>by rw [ax (hx b n)];exact n,fun b u q _=>?_,
  fun b xs q=>by rw [ax (hm b _ q fun z=>z)];exact q,fun b u xs q=>by rw [ax (hm b _ q fun z=>z)];exact q,fun b ps q=>⟨#[],by rw [ax (hm b _ q fun z=>z),q];simp⟩⟩
 by_cases Nw:b=e
 ·subst Nw;exact QS
 ·exact⟨u,k b u Nw q⟩
end
def Vj(h:Heap)(H:Hp):List Addr:=(List.range h.objs.size).filter fun a=>(H a).isSome
def qY(h:Heap)(H:Hp):Heap:=PySem.W.hideAll h (Vj h H)
theorem DS(h:Heap)(H:Hp):(qY h H).objs.size=h.objs.size:=PySem.W.hideAll_size _ _
theorem F1{h:Heap}{H:Hp}{b:Addr}{o:Obj}(e:h.get? b=some o)(n:H b=none):(qY h H).get? b=some o :=
 PySem.W.hideAll_get _ e fun hm=>by
  have q:(H b).isSome=true:=(abb.mp hm).2
  rw [n] at q;simp at q
theorem JS{h:Heap}{H:Hp}{b:Addr}{o:Obj}(e:(qY h H).get? b=some o):h.get? b=some o/\H b=none:=by
 have e':h.get? b=some o:=PySem.W.of_hideAll (Vj h H) e
 refine⟨e',?_⟩
 cases q:H b with
 | none=>rfl
 | some x =>
  have hm:b∈Vj h H:=abb.mpr ⟨abj.mpr (aaJ e'),by simp [q]⟩
  have z:(qY h H).get? b=none:=PySem.W.hideAll_none (Vj h H) hm
  rw [z] at e;cases e
def JT(g h:Heap)(L:Addr):List (Addr×Obj):=(List.range h.objs.size).filterMap fun a=>if a=L\/(g.get? a).isSome=true then none else (h.get? a).map fun o=>(a,o)
def rest(g h:Heap)(L d:Addr):List (Addr×Obj):=(JT g h L).filter fun p=>decide (p.1≠d)
structure Mod(K:Frag)(mg:Str->Option Value)(base:Heap):Prop where
 Nx:K.In base
 glob:base.Ns mainGlobals mg
 blt:∃ mb,base.Ns builtinsNs mb/\∀ x:Str,x≠"__name__"->mb x=bootBuiltins x
 nolimit:base.NoLimit
structure Cx where
 prog:Program
 w:World
 K:Frag
 mg:Str->Option Value
 base:Heap
 A:Around
 N:List Str
 s₀:Shared
 H₀:Hp
 env:Env
 outer:List Env
 stack:List Env
 ex:List Addr
 fn:Str->Bool
 calm:Bool
 pn:List (Addr×Obj)
 xe:Value->Shared->Prop
def Be(l:List Env):List Addr:=l.filterMap (·.frame)
abbrev Cx.fs(X:Cx):List Addr:=Be X.outer
def Ny(sc:Scope)(x:Str):Prop:=sc.names.lookup x=some .local\/sc.names.lookup x=some .cell\/sc.names.lookup x=some .free
def Loc(sc:Scope)(x:Str):Prop:=sc.names.lookup x=some .local\/sc.names.lookup x=some .cell
def Look(env:Env)(h:Heap)(m:Str->Option Value)(x:Str)(u:Value):Prop :=
 (env.kindOf x=some .local/\m x=some u)\/((env.kindOf x=some .cell\/env.kindOf x=some .free)/\∃ c,env.cells.lookup x=some c/\h.IsCell c (some u))
structure Cx.Ok(X:Cx):Prop where
 mod:Mod X.K X.mg X.base
 kind:X.env.scope.kind=.function
 glob:X.env.globals=mainGlobals
 blt:X.env.builtins=builtinsNs
 above:X.s₀.heap.objs.size<=X.env.locals
 inj:∀ x y c,X.env.cells.lookup x=some c->X.env.cells.lookup y=some c->x=y
 has:∀ x,(X.env.kindOf x=some .cell\/X.env.kindOf x=some .free)->∃ c,X.env.cells.lookup x=some c
 QT:∀ x c,X.fn x=true->X.env.cells.lookup x=some c->X.s₀.heap.objs.size<=c
 hd:X.calm=true->X.A.handled=none
 frames:X.A.frames=some X.stack
 Vk:X.stack=X.outer\/(X.stack=X.env::X.outer/\X.env.frame=some X.env.locals)
 exf:∀ b∈X.ex,b≠X.env.locals/\∀ x c,X.env.cells.lookup x=some c->c≠b
 bs:∀ b o,X.base.get? b=some o->X.s₀.heap.get? b=some o/\X.H₀ b=none
 Bf:X.base.objs.size<=X.s₀.heap.objs.size
 DT:∀ b o,X.base.get? b=some o->b∉X.ex
 JU:∀ b∈X.ex,b∉X.fs
 nu:X.s₀.heap.FunFrames X.base X.outer
 Mj:∀ b∈X.fs,X.H₀ b=none
structure Inv(X:Cx)(pins:List (Addr×Obj))(σ:List (Option V))(H:Hp)(s:Shared):Prop where
 ok:X.Ok
 os:s.os=X.s₀.os
 bare:AllBare s.gens
 base:Un X.fs X.ex X.H₀ H X.s₀.heap s.heap
 loc:∃ m,s.heap.Ns X.env.locals m/\∀ (i:Nat) (x:Str) (v:V),X.N[i]?=some x->σ[i]?=some (some v)->Ny X.env.scope x->∃ u,RelV v u/\Look X.env s.heap m x u
 cell:∀ x c,X.env.cells.lookup x=some c->∃ v,s.heap.IsCell c v
 free:H X.env.locals=none
 fO:∀ x c,X.env.cells.lookup x=some c->H c=none
 pin:∀ p∈X.pn++pins,s.heap.get? p.1=some p.2/\H p.1=none/\p.1≠X.env.locals/\p.1∉X.fs/\∀ v,p.2.data≠.cell v
 bc:gW X.prog X.w H s.heap
 len:σ.length=X.N.length
section
variable {X:Cx}{pins:List (Addr×Obj)}{σ:List (Option V)}{H H':Hp}{s:Shared}{h':Heap}
theorem Cx.Ok.Ww(ok:X.Ok){b:Addr}{o:Obj}(e:X.base.get? b=some o):b∉X.fs:=fun hb=>by
 have:=(ok.nu.mem hb).1
 rw [e] at this;cases this
theorem Inv.bs(I:Inv X pins σ H s):∀ b o,X.base.get? b=some o->s.heap.get? b=some o/\H b=none:=fun b o e =>
 ⟨I.base.keep b o (I.ok.bs b o e).1 (I.ok.bs b o e).2 (I.ok.Ww e) (I.ok.DT b o e),I.base.free b o (I.ok.bs b o e).1 (I.ok.bs b o e).2 (I.ok.DT b o e)⟩
theorem Inv.bk(I:Inv X pins σ H s):∀ b o,X.base.get? b=some o->s.heap.get? b=some o:=fun b o e=>(I.bs b o e).1
theorem Inv.mod(I:Inv X pins σ H s):Mod X.K X.mg X.base:=I.ok.mod
theorem Inv.kC(I:Inv X pins σ H s):X.K.In s.heap:=I.ok.mod.Nx.keeps I.bk
theorem Inv.nolimit(I:Inv X pins σ H s):s.heap.NoLimit:=I.ok.mod.nolimit.keeps I.bk
theorem Inv.lt(I:Inv X pins σ H s):X.env.locals<s.heap.objs.size:=let ⟨_,hn,_⟩:=I.loc;hn.lt
theorem Inv.sz(I:Inv X pins σ H s):X.s₀.heap.objs.size<=s.heap.objs.size:=aaL I.ok.above (aaN I.lt)
theorem Inv.Wx(I:Inv X pins σ H s){a:Addr}(h:s.heap.objs.size<=a):a∉X.fs:=fun hb=>by
 obtain ⟨_,o,ho,_⟩:=I.ok.nu.mem hb
 exact absurd (Nat.lt_of_lt_of_le (aaJ ho) (aaL I.sz h)) (Nat.lt_irrefl _)
theorem Inv.JV(I:Inv X pins σ H s):∀ x c,X.env.cells.lookup x=some c->c≠X.env.locals:=fun x c e z=>by
 obtain ⟨v,o,ho,hd⟩:=I.cell x c e
 obtain ⟨m,⟨o',es,ep,Nz,Vl,_⟩,_⟩:=I.loc
 rw [z,Nz] at ho;cases ho;rw [Vl] at hd;cases hd
theorem Inv.nu(I:Inv X pins σ H s):s.heap.FunFrames X.base X.outer:=by
 have all:∀ (l:List Env),(∀ b∈Be l,b∈X.fs)->X.s₀.heap.FunFrames X.base l->s.heap.FunFrames X.base l:=by
  intro l
  induction l with
  | nil=>intro _ _;trivial
  | cons env r ih =>
   intro hs hl
   obtain ⟨hk,⟨L,o,hf,hn,ho,hd⟩,hr⟩:=hl
   have hL:L∈X.fs:=hs L (by unfold Be;rw [List.filterMap_cons,hf];exact mem_cons_self)
   obtain ⟨sl,e⟩:=I.base.slot L o ho (I.ok.Mj L hL) hL fun z=>I.ok.JU L z hL
   exact⟨hk,⟨L,_,hf,hn,e,hd⟩,ih (fun b hb=>hs b (by unfold Be;rw [List.filterMap_cons,hf];exact aa8 _ hb)) hr⟩
 exact all X.outer (fun _ hb=>hb) I.ok.nu
theorem Inv.stack(I:Inv X pins σ H s):s.heap.FunFrames X.base X.stack:=by
 rcases I.ok.Vk with e|⟨e,hf⟩
 ·rw [e];exact I.nu
 ·rw [e]
  obtain ⟨m,hn,_⟩:=I.loc
  refine .cons (by rw [I.ok.kind];decide) hf hn ?_ I.nu
  exact Heap.get?_none_of_le (aaL I.ok.Bf I.ok.above)
theorem Inv.sJ(I:Inv X pins σ H s):∀ b∈Be X.stack,b∈X.env.locals::X.fs:=fun b hb=>by
 rcases I.ok.Vk with e|⟨e,hf⟩
 ·rw [e] at hb;exact aa8 _ hb
 ·rw [e] at hb
  unfold Be at hb
  rw [List.filterMap_cons,hf] at hb
  exact hb
theorem Inv.kD(I:Inv X pins σ H s):∀ b∈Be X.stack,H b=none:=fun b hb=>by
 rcases aa9.mp (I.sJ b hb) with e|hb
 ·rw [e];exact I.free
 ·obtain ⟨_,o,ho,_⟩:=I.ok.nu.mem hb
  exact I.base.free b o ho (I.ok.Mj b hb) fun z=>I.ok.JU b z hb
theorem Inv.step{g':Array GenState}{t':Nat}{d':Drawn}{ch:List Addr}(I:Inv X pins σ H s)
  (yY:∀ b∈ch,(b∈X.ex\/X.s₀.heap.objs.size<=b)/\b≠X.env.locals/\(∀ x c,X.env.cells.lookup x=some c->c≠b)/\∀ p∈X.pn++pins,p.1≠b)
  (keep:∀ b o,b≠X.env.locals->b∉X.fs->b∉ch->s.heap.get? b=some o->H b=none->h'.get? b=some o)
  (slot:∀ b o,b≠X.env.locals->b∈X.fs->b∉ch->s.heap.get? b=some o->H b=none->∃ sl,h'.get? b=some { o with slots:=sl }) (free:∀ b o,b∉ch->s.heap.get? b=some o->H b=none->H' b=none)
  (there:∀ b o,b∉ch->s.heap.get? b=some o->∃ o',h'.get? b=some o')
  (nr:∀ b xs,H b=some (.tup xs)->H' b=some (.tup xs)) (lL:∀ b o u,H b=some (.xa o u)->H' b=some (.xa o u)) (lM:∀ b ps,H b=some (.sG ps)->∃ more,H' b=some (.sG (ps++more)))
  (ns:∀ m,s.heap.Ns X.env.locals m->h'.Ns X.env.locals m) (bc:gW X.prog X.w H' h') (hg:AllBare g') :
  Inv X pins σ H' { s with heap:=h',gens:=g',drawn:=d',toks:=t' }:=by
 have JW:∀ b o,X.s₀.heap.get? b=some o->b≠X.env.locals:=fun b o e=>abw (Nat.lt_of_lt_of_le (aaJ e) I.ok.above)
 have JX:∀ b o,X.s₀.heap.get? b=some o->b∉X.ex->b∉ch:=fun b o e hx hb=>by
  rcases (yY b hb).1 with z|z
  ·exact hx z
  ·exact absurd (Nat.lt_of_lt_of_le (aaJ e) z) (Nat.lt_irrefl _)
 have cellK:∀ x c,X.env.cells.lookup x=some c->∀ v,s.heap.IsCell c v->h'.IsCell c v:=fun x c e v ⟨o,ho,hd⟩=>by
  have F2:c∉ch:=fun z=>(yY c z).2.2.1 x c e rfl
  by_cases hc:c∈X.fs
  ·obtain ⟨sl,q⟩:=slot c o (I.JV x c e) hc F2 ho (I.fO x c e)
   exact⟨_,q,hd⟩
  ·exact⟨o,keep c o (I.JV x c e) hc F2 ho (I.fO x c e),hd⟩
 refine⟨I.ok,I.os,hg,⟨fun b o e n hb hx=>?_,fun b o e n hb hx=>?_,fun b o e n hx=>?_,fun b o e hx=>?_,fun b xs e=>nr b xs (I.base.nr b xs e),fun b o xs e=>lL b o xs (I.base.lL b o xs e),fun b ps e=>?_⟩,?_,fun x c e=>?_,?_,fun x c e=>?_,fun p hp=>?_,bc,I.len⟩
 ·exact keep b o (JW b o e) hb (JX b o e hx) (I.base.keep b o e n hb hx) (I.base.free b o e n hx)
 ·obtain ⟨sl,e1⟩:=I.base.slot b o e n hb hx
  obtain ⟨Wy,e2⟩:=slot b _ (JW b o e) hb (JX b o e hx) e1 (I.base.free b o e n hx)
  exact⟨Wy,e2⟩
 ·obtain ⟨o',e1⟩:=I.base.there b o e hx
  exact free b o' (JX b o e hx) e1 (I.base.free b o e n hx)
 ·obtain ⟨o',e1⟩:=I.base.there b o e hx
  exact there b o' (JX b o e hx) e1
 ·obtain ⟨m1,e1⟩:=I.base.lM b ps e
  obtain ⟨m2,e2⟩:=lM b _ e1
  exact⟨m1++m2,by rw [e2,Array.append_assoc]⟩
 ·obtain ⟨m,hn,hl⟩:=I.loc
  refine⟨m,ns m hn,fun i x v e1 e2 e3=>?_⟩
  obtain ⟨u,r,l⟩:=hl i x v e1 e2 e3
  refine⟨u,r,?_⟩
  rcases l with l|⟨k,c,e,z⟩
  ·exact .inl l
  ·exact .inr ⟨k,c,e,cellK x c e _ z⟩
 ·obtain ⟨v,z⟩:=I.cell x c e
  exact⟨v,cellK x c e v z⟩
 ·obtain ⟨m,⟨o,_,_,ho,_⟩,_⟩:=I.loc
  exact free _ o (fun z=>(yY _ z).2.1 rfl) ho I.free
 ·obtain ⟨v,o,ho,hd⟩:=I.cell x c e
  exact free c o (fun z=>(yY c z).2.2.1 x c e rfl) ho (I.fO x c e)
 ·obtain ⟨e,n,ne,nf,d⟩:=I.pin p hp
  have F2:p.1∉ch:=fun z=>(yY p.1 z).2.2.2 p hp rfl
  exact⟨keep p.1 p.2 ne nf F2 e n,free p.1 p.2 F2 e n,ne,nf,d⟩
theorem Inv.un{t':Nat}(I:Inv X pins σ H s)(u:Un X.fs [] H H' s.heap h')(bc:gW X.prog X.w H' h'):Inv X pins σ H' { s with heap:=h',toks:=t' }:=by
 obtain ⟨m,⟨o,es,ep,ho,r⟩,_⟩:=id I.loc
 obtain ⟨sl,hL⟩:=u.any ho I.free (by simp)
 exact I.step (g':=s.gens) (d':=s.drawn) (ch:=[]) (fun _ z=>nomatch z) (fun b o _ hb _ e n=>u.keep b o e n hb (by simp)) (fun b o _ hb _ e n=>u.slot b o e n hb (by simp)) (fun b o _ e n=>u.free b o e n (by simp)) (fun b o _ e=>u.there b o e (by simp)) u.nr u.lL u.lM (fun m' hm=>by
  obtain ⟨o',Wz,WA,Nz,r'⟩:=hm
  rw [ho] at Nz;cases Nz
  exact⟨_,Wz,WA,hL,r'⟩) bc I.bare
theorem Inv.call{g':Array GenState}{t':Nat}{d':Drawn}{ch:List Addr}(I:Inv X pins σ H s)(u:Un (Be X.stack) ch H H' s.heap h')(bc:gW X.prog X.w H' h')(hg:AllBare g')
  (yY:∀ b∈ch,(b∈X.ex\/X.s₀.heap.objs.size<=b)/\b≠X.env.locals/\(∀ x c,X.env.cells.lookup x=some c->c≠b)/\∀ p∈X.pn++pins,p.1≠b) :
  Inv X pins σ H' { s with heap:=h',gens:=g',drawn:=d',toks:=t' }:=by
 obtain ⟨m,⟨o,es,ep,ho,r⟩,_⟩:=id I.loc
 obtain ⟨sl,hL⟩:=u.any ho I.free fun z=>(yY _ z).2.1 rfl
 exact I.step (ch:=ch) yY (fun b o hL hb hc e n=>u.keep b o e n (fun z=>(aa9.mp (I.sJ b z)).elim hL hb) hc) (fun b o _ _ hc e n=>u.any e n hc) (fun b o hc e n=>u.free b o e n hc) (fun b o hc e=>u.there b o e hc) u.nr u.lL u.lM (fun m' hm=>by
  obtain ⟨o',Wz,WA,Nz,r'⟩:=hm
  rw [ho] at Nz;cases Nz
  exact⟨_,Wz,WA,hL,r'⟩) bc hg
theorem Inv.turned{t':Nat}{it:Addr}(I:Inv X pins σ H s)(k:∀ b o,b≠it->s.heap.get? b=some o->h'.get? b=some o)(hn:H it=none)(hL:it≠X.env.locals)
  (h1:it∈X.ex\/X.s₀.heap.objs.size<=it) (h2:∀ x c,X.env.cells.lookup x=some c->c≠it) (h3:∀ p∈X.pn++pins,p.1≠it):Inv X pins σ H { s with heap:=h',toks:=t' }:=by
 have nit:∀ b u,H b=some u->b≠it:=fun b u e z=>by rw [z,hn] at e;cases e
 refine I.step (g':=s.gens) (d':=s.drawn) (ch:=[it]) (fun b hb=>?_) (fun b o _ _ hc e _=>k b o (fun z=>hc (by simp [z])) e) (fun b o _ _ hc e _=>⟨o.slots,k b o (fun z=>hc (by simp [z])) e⟩) (fun _ _ _ _ n=>n)
  (fun b o hc e=>⟨o,k b o (fun z=>hc (by simp [z])) e⟩) (fun _ _ e=>e) (fun _ _ _ e=>e) (fun b ps e=>⟨#[],by rw [e];simp⟩) (fun m hm=>?_) (fun b u e=>?_) I.bare
 ·have e:b=it:=by simpa using hb
  subst e
  exact⟨h1,hL,h2,h3⟩
 ·obtain ⟨o,es,ep,ho,r⟩:=hm
  exact⟨o,es,ep,k _ o (Ne.symm hL) ho,r⟩
 ·refine (I.bc b u e).qX (fun c v hc q=>k c v ?_ q) (fun _ q=>q) fun _ _ q=>q
  rcases hc with z|z
  ·rw [z];exact nit b u e
  ·exact nit c _ z
theorem Inv.tok(I:Inv X pins σ H s)(t:Nat):Inv X pins σ H { s with toks:=t }:=I.un (h':=s.heap) (t':=t) Un.refl I.bc
theorem Inv.kept{t':Nat}(I:Inv X pins σ H s)(k:∀ b u,s.heap.get? b=some u->h'.get? b=some u):Inv X pins σ H { s with heap:=h',toks:=t' }:=I.un (Un.kept k) (I.bc.kept k)
theorem Inv.laid{a:Addr}{o:HO}{t':Nat}(I:Inv X pins σ H s)(k:∀ b u,s.heap.get? b=some u->h'.get? b=some u)(hp:s.heap.objs.size<=a)(new:d3 X.prog X.w (upd H a o) h' a o) :
  Inv X pins σ (upd H a o) { s with heap:=h',toks:=t' }:=I.un (Un.laid k hp (I.bc.fresh hp)) (I.bc.laid k hp new)
theorem Inv.write{x e:Addr}{o:HO}{t':Nat}(I:Inv X pins σ H s)(mu:Vi (H x))(he:e=x\/H e=some (.own x))(k:∀ b u,b≠e->s.heap.get? b=some u->h'.get? b=some u)(QS:∃ u,h'.get? e=some u)
  (new:d3 X.prog X.w (upd H x o) h' x o):Inv X pins σ (upd H x o) { s with heap:=h',toks:=t' }:=I.un (Un.write mu he k QS) (I.bc.write mu he k QS new)
theorem Inv.nv{gk:List (Addr×Obj)}(I:Inv X pins σ H s)(h:∀ p∈gk,s.heap.get? p.1=some p.2/\H p.1=none/\p.1≠X.env.locals/\p.1∉X.fs/\∀ v,p.2.data≠.cell v):Inv X gk σ H s :=
 ⟨I.ok,I.os,I.bare,I.base,I.loc,I.cell,I.free,I.fO,fun p hp=>(aa3.mp hp).elim (fun z=>I.pin p (aa1 _ z)) (h p),I.bc,I.len⟩
theorem zd{N:List Str}(hN:N.Nodup){i j:Nat}{x:Str}(a:N[i]?=some x)(b:N[j]?=some x):i=j:=by
 obtain ⟨h1,e1⟩:=aaI.mp a
 obtain ⟨h2,e2⟩:=aaI.mp b
 exact (List.getElem_inj hN).mp (e1.trans e2.symm)
theorem wb{M:Model}{A:Around}{E:Value->Shared->Prop}{i:Nat}{x:Str}{v:V}{u:Value}{Q:Unit->Shared->Prop}(I:Inv X pins σ H s)(hN:X.N.Nodup)(hi:X.N[i]?=some x)(hx:Loc X.env.scope x)(r:RelV v u)
  (h:∀ s',Inv X pins (σ.set i (some v)) H s'->(∃ a,Heap.SameBut a s.heap s'.heap/\(a=X.env.locals\/X.env.cells.lookup x=some a))->Q () s') (hf:X.fn x=true\/X.env.scope.names.lookup x=some .local:=by first|exact .inl rfl|exact .inr rfl|assumption):wpAny M A (storeName X.env x u) Q E s:=by
 obtain ⟨m,hn,hl⟩:=id I.loc
 have WB:(X.env.scope.kind == .class || (X.env.scope.kind == .module && X.env.locals != X.env.globals))=false:=by rw [I.ok.kind];rfl
 have hiσ:i<σ.length:=by rw [I.len];exact (aaI.mp hi).1
 have JV:=I.JV
 have tracked:∀ {a:Addr} {h':Heap},(∃ o,s.heap.get? a=some o/\H a=none)->Heap.SameBut a s.heap h'->gW X.prog X.w H h':=fun {a h'} ha hs b ob e=>by
  obtain ⟨_,_,wc⟩:=ha
  refine (I.bc b ob e).qX (fun c w' hc q=>(hs.2 c ?_).trans q) (fun _ q=>q) fun _ _ q=>q
  rintro rfl
  rcases hc with rfl|hc
  ·rw [wc] at e;cases e
  ·rw [wc] at hc;cases hc
 rcases hx with hk|hk
 ·refine wpAny_storeName_local hk hn (fun h' hn' hs=>?_) WB
  obtain ⟨oL,_,_,WC,_⟩:=id hn
  refine h _ ⟨I.ok,I.os,I.bare,⟨fun b o e n hb hx=>?_,fun b o e n hb hx=>?_,I.base.free,fun b o e hx=>?_,I.base.nr,I.base.lL,I.base.lM⟩,⟨_,hn',fun j y v' e1 e2 e3=>?_⟩,fun y c e=>?_,I.free,I.fO,fun p hp=>?_,tracked ⟨oL,WC,I.free⟩ hs,by simpa using I.len⟩ ⟨_,hs,.inl rfl⟩
  ·exact (hs.2 b (abw (Nat.lt_of_lt_of_le (aaJ e) I.ok.above))).trans (I.base.keep b o e n hb hx)
  ·obtain ⟨sl,e1⟩:=I.base.slot b o e n hb hx
   exact⟨sl,(hs.2 b (abw (Nat.lt_of_lt_of_le (aaJ e) I.ok.above))).trans e1⟩
  ·obtain ⟨o',e1⟩:=I.base.there b o e hx
   exact⟨o',(hs.2 b (abw (Nat.lt_of_lt_of_le (aaJ e) I.ok.above))).trans e1⟩
  ·by_cases hj:j=i
   ·subst hj
    rw [hi] at e1;cases e1
    rw [getElem?_set_self hiσ] at e2
    cases e2
    exact⟨u,r,.inl ⟨hk,by simp⟩⟩
   ·rw [getElem?_set_ne (Ne.symm hj)] at e2
    obtain ⟨u',r',q⟩:=hl j y v' e1 e2 e3
    refine⟨u',r',?_⟩
    rcases q with ⟨k,e⟩|⟨k,c,e,z⟩
    ·refine .inl ⟨k,?_⟩
     have:y≠x:=fun e=>hj (zd hN e1 (e ▸ hi))
     simp [this,e]
    ·exact .inr ⟨k,c,e,z.sameBut hs (JV y c e)⟩
  ·obtain ⟨w',z⟩:=I.cell y c e
   exact⟨w',z.sameBut hs (JV y c e)⟩
  ·obtain ⟨e,n,ne,nf,d⟩:=I.pin p hp
   exact⟨(hs.2 p.1 ne).trans e,n,ne,nf,d⟩
 ·have RF:X.fn x=true:=by
   rcases hf with z|z
   ·exact z
   ·rw [z] at hk;cases hk
  obtain ⟨c,hc⟩:=I.ok.has x (.inl hk)
  obtain ⟨w',z⟩:=I.cell x c hc
  refine wpAny_storeName_cell I.ok.kind hk hc z (fun h' FJ hs=>?_)
  obtain ⟨oc,RG,WE⟩:=id z
  refine h { s with heap:=h' } ⟨I.ok,I.os,I.bare,⟨fun b o e n hb hx=>?_,fun b o e n hb hx=>?_,I.base.free,fun b o e hx=>?_,I.base.nr,I.base.lL,I.base.lM⟩,⟨m,hn.sameBut hs (Ne.symm (JV x c hc)),fun j y v' e1 e2 e3=>?_⟩,fun y c' e=>?_,I.free,I.fO,fun p hp=>?_,tracked ⟨oc,RG,I.fO x c hc⟩ hs,by simpa using I.len⟩ ⟨c,hs,.inr hc⟩
  ·exact (hs.2 b (abw (Nat.lt_of_lt_of_le (aaJ e) (I.ok.QT x c RF hc)))).trans (I.base.keep b o e n hb hx)
  ·obtain ⟨sl,e1⟩:=I.base.slot b o e n hb hx
   exact⟨sl,(hs.2 b (abw (Nat.lt_of_lt_of_le (aaJ e) (I.ok.QT x c RF hc)))).trans e1⟩
  ·obtain ⟨o',e1⟩:=I.base.there b o e hx
   exact⟨o',(hs.2 b (abw (Nat.lt_of_lt_of_le (aaJ e) (I.ok.QT x c RF hc)))).trans e1⟩
  ·by_cases hj:j=i
   ·subst hj
    rw [hi] at e1;cases e1
    rw [getElem?_set_self hiσ] at e2
    cases e2
    exact⟨u,r,.inr ⟨.inl hk,c,hc,FJ⟩⟩
   ·rw [getElem?_set_ne (Ne.symm hj)] at e2
    obtain ⟨u',r',q⟩:=hl j y v' e1 e2 e3
    refine⟨u',r',?_⟩
    rcases q with q|⟨k,c',e,z'⟩
    ·exact .inl q
    ·refine .inr ⟨k,c',e,z'.sameBut hs ?_⟩
     rintro rfl
     exact hj (zd hN e1 (I.ok.inj _ _ _ e hc ▸ hi))
  ·by_cases RH:c'=c
   ·subst RH;exact⟨_,FJ⟩
   ·obtain ⟨w2,z2⟩:=I.cell y c' e
    exact⟨w2,z2.sameBut hs RH⟩
  ·obtain ⟨e,n,ne,nf,d⟩:=I.pin p hp
   refine⟨(hs.2 p.1 ?_).trans e,n,ne,nf,d⟩
   intro q
   rw [q,RG] at e
   have q':oc=p.2:=aaO e
   exact d w' (by rw [<- q'];exact WE)
theorem ny{M:Model}{A:Around}{E:Value->Shared->Prop}{i:Nat}{x:Str}{v:V}{u:Value}{Q:Unit->Shared->Prop}(I:Inv X pins σ H s)(hN:X.N.Nodup)(hi:X.N[i]?=some x)(hx:Loc X.env.scope x)(r:RelV v u)
  (h:∀ s',Inv X pins (σ.set i (some v)) H s'->Q () s') (hf:X.fn x=true\/X.env.scope.names.lookup x=some .local:=by first|exact .inl rfl|exact .inr rfl|assumption):wpAny M A (storeName X.env x u) Q E s :=
 wb I hN hi hx r (fun s' I' _=>h s' I') hf
theorem Inv.Ml{s':Shared}{ch:List Addr}(I:Inv X pins σ H s)(ho:s'.os=s.os)(u:Un (Be X.stack) ch H H' s.heap s'.heap)(bc:gW X.prog X.w H' s'.heap)(hg:AllBare s'.gens)
  (yY:∀ b∈ch,(b∈X.ex\/X.s₀.heap.objs.size<=b)/\b≠X.env.locals/\(∀ x c,X.env.cells.lookup x=some c->c≠b)/\∀ p∈X.pn++pins,p.1≠b):Inv X pins σ H' s':=by
 obtain ⟨h',g',d',t',o'⟩:=s'
 have e:o'=s.os:=ho
 subst e
 exact I.call (g':=g') (t':=t') (d':=d') u bc hg yY
end
abbrev XK:=Value->Option Addr->Hp->Prop
abbrev St:=List (Option V)
abbrev VK:=V->Hp->Prop
abbrev TE:=St->Hp->VK->Prop
abbrev TT:=St->Hp->(Bool->Hp->Prop)->Prop
abbrev TA:=St->Hp->(List V->Hp->Prop)->Prop
structure Ends where
 nx:St->Hp->Prop
 rt:VK
 bk:St->Hp->Prop:=fun _ _=>False
 ct:St->Hp->Prop:=fun _ _=>False
abbrev TS:=Ends->St->Hp->Prop
def EP(X:Cx)(pins:List (Addr×Obj))(σ:St)(Q:VK)(u:Value)(s':Shared):Prop:=∃ v H',Inv X pins σ H' s'/\RelV v u/\Q v H'
def TP(X:Cx)(pins:List (Addr×Obj))(σ:St)(Q:Bool->Hp->Prop)(b:Bool)(s':Shared):Prop:=∃ H',Inv X pins σ H' s'/\Q b H'
def AP(X:Cx)(pins:List (Addr×Obj))(σ:St)(Q:List V->Hp->Prop)(us:List Value)(s':Shared):Prop:=∃ vs H',Inv X pins σ H' s'/\Vals vs us/\Q vs H'
def SP(X:Cx)(pins:List (Addr×Obj))(D:Ends)(f:Flow)(s':Shared):Prop :=
 match f with
 | .next=>∃ σ' H',Inv X pins σ' H' s'/\D.nx σ' H'
 | .brk=>∃ σ' H',Inv X pins σ' H' s'/\D.bk σ' H'
 | .cont=>∃ σ' H',Inv X pins σ' H' s'/\D.ct σ' H'
 | .ret u=>∃ v σ' H',Inv X pins σ' H' s'/\RelV v u/\D.rt v H'
def PE(X:Cx)(e:Expr)(t:TE):Prop :=
 ∀ (pins:List (Addr×Obj)) (s:Shared) (σ:St) (H:Hp) (Q:VK),Inv X pins σ H s->t σ H Q->wpAny (model X.prog X.w) X.A (eval e X.env) (EP X pins σ Q) X.xe s
def PT(X:Cx)(e:Expr)(t:TT):Prop :=
 ∀ (pins:List (Addr×Obj)) (s:Shared) (σ:St) (H:Hp) (Q:Bool->Hp->Prop),Inv X pins σ H s->t σ H Q->wpAny (model X.prog X.w) X.A (isTrue e X.env (eval e X.env)) (TP X pins σ Q) X.xe s
def PW(X:Cx)(e:Expr)(t:TT):Prop :=
 ∀ (whole:Sem Value) (pins:List (Addr×Obj)) (s:Shared) (σ:St) (H:Hp) (Q:Bool->Hp->Prop),Inv X pins σ H s->t σ H Q->wpAny (model X.prog X.w) X.A (isTrue e X.env whole) (TP X pins σ Q) X.xe s
theorem PW.pt{X:Cx}{e:Expr}{t:TT}(h:PW X e t):PT X e t:=h _
def PA(X:Cx)(es:List Expr)(t:TA):Prop :=
 ∀ (pos:Pos) (pins:List (Addr×Obj)) (s:Shared) (σ:St) (H:Hp) (Q:List V->Hp->Prop),Inv X pins σ H s->t σ H Q->wpAny (model X.prog X.w) X.A (spliced (backTo pos (starEach es X.env))) (AP X pins σ Q) X.xe s
def PS(X:Cx)(st:Stmt)(t:TS):Prop :=
 ∀ (pins:List (Addr×Obj)) (s:Shared) (σ:St) (H:Hp) (D:Ends),Inv X pins σ H s->t D σ H->wpAny (model X.prog X.w) X.A (exec st X.env) (SP X pins D) X.xe s
def Ba(X:Cx)(st:List Stmt)(t:TS):Prop :=
 ∀ (pins:List (Addr×Obj)) (s:Shared) (σ:St) (H:Hp) (D:Ends),Inv X pins σ H s->t D σ H->wpAny (model X.prog X.w) X.A (execs st X.env) (SP X pins D) X.xe s
theorem c6{α:Type}{t:Sem α}{Q Q':α->Shared->Prop}{M:Model}{A:Around}{E:Value->Shared->Prop}{s:Shared}(h:wpAny M A t Q E s)(hQ:∀ a s,Q a s->Q' a s):wpAny M A t Q' E s:=aaW h hQ fun _ _ x=>x
section
variable {X:Cx}
def Bg(i:Nat):TE:=fun σ H Q=>∃ v,σ[i]?=some (some v)/\Q v H
def tC(v:V):TE:=fun _ H Q=>Q v H
theorem F3 {i:Nat} {x:Str} {pos:Pos} (hN:X.N[i]?=some x) (hv:Ny X.env.scope x) (hd:(x == ("__debug__":Str))=false:=by decide) (xb:(x == ("__classdict__":Str))=false:=by decide):PE X (.Name x pos) (Bg i):=by
 intro pins s σ H Q I h
 obtain ⟨v,e,h⟩:=h
 obtain ⟨m,hn,hl⟩:=I.loc
 obtain ⟨u,r,l⟩:=hl i x v hN e hv
 have fin:EP X pins σ Q u s:=⟨v,H,I,r,h⟩
 rcases l with ⟨hk,hm⟩|⟨hk,c,hc,eC⟩
 ·exact wpAny_Name (wpAny_loadName_local I.ok.kind hk hn hm fin) hd
 ·rcases hk with hk|hk
  ·exact wpAny_Name (wpAny_loadName_cell I.ok.kind hk hc eC fin) hd
  ·exact wpAny_Name (wpAny_loadName_free I.ok.kind hk hc eC fin xb) hd
theorem ae{i j pos}:PE X (.Constant (.int i) j pos) (tC (.int i)):=fun _ _ _ H _ I h=>wpAny_Constant_int ⟨.int i,H,I.tok _,⟨_,rfl⟩,h⟩
theorem ze{b j pos}:PE X (.Constant (.bool b) j pos) (tC (.bl b)):=fun _ _ _ H _ I h=>Constant_bool ⟨.bl b,H,I,rfl,h⟩
theorem ib{j pos}:PE X (.Constant .none j pos) (tC .dz):=fun _ _ _ H _ I h=>Constant_none ⟨.dz,H,I,rfl,h⟩
theorem jL{x j pos}:PE X (.Constant (.str x) j pos) (tC (.str x)):=fun _ _ _ H _ I h=>Calls.Constant_str ⟨.str x,H,I.tok _,⟨_,rfl⟩,h⟩
def Gl(X:Cx)(x:Str):Prop:=X.env.kindOf x=some .globalImplicit
theorem kE{E:Value->Shared->Prop}{pins:List (Addr×Obj)}{s:Shared}{σ:St}{H:Hp}{x:Str}{u:Value}{pos:Pos}{Q:Value->Shared->Prop}(I:Inv X pins σ H s)(hg:Gl X x)(hm:X.mg x=some u)(h:Q u s)
  (hd:(x == ("__debug__":Str))=false:=by decide):wpAny (model X.prog X.w) X.A (eval (.Name x pos) X.env) Q E s :=
 Calls.Name_function_global I.ok.kind hg (Calls.loadGlobal_global (by rw [I.ok.glob];exact I.mod.glob.keeps I.bk) hm h) hd
theorem fv{E:Value->Shared->Prop}{pins:List (Addr×Obj)}{s:Shared}{σ:St}{H:Hp}{x:Str}{u:Value}{pos:Pos}{Q:Value->Shared->Prop}(I:Inv X pins σ H s)(hg:Gl X x)(hm:X.mg x=none)(hv:bootBuiltins x=some u)(h:Q u s)
  (hn:x≠"__name__":=by decide) (hd:(x == ("__debug__":Str))=false:=by decide):wpAny (model X.prog X.w) X.A (eval (.Name x pos) X.env) Q E s:=by
 obtain ⟨mb,h1,h2⟩:=I.mod.blt
 exact Calls.Name_function_global I.ok.kind hg (Calls.loadGlobal_builtin (by rw [I.ok.glob];exact I.mod.glob.keeps I.bk) hm (by rw [I.ok.blt];exact h1.keeps I.bk) ((h2 x hn).trans hv) h) hd
theorem kF {x:Str} {v:V} {u:Value} {pos:Pos} (hg:Gl X x) (hm:X.mg x=some u) (r:RelV v u) (hd:(x == ("__debug__":Str))=false:=by decide):PE X (.Name x pos) (tC v) :=
 fun _ _ _ H _ I h=>kE I hg hm ⟨v,H,I,r,h⟩ hd
theorem rO {x:Str} {v:V} {u:Value} {pos:Pos} (hg:Gl X x) (hm:X.mg x=none) (hv:bootBuiltins x=some u) (r:RelV v u) (hn:x≠"__name__":=by decide) (hd:(x == ("__debug__":Str))=false:=by decide):PE X (.Name x pos) (tC v) :=
 fun _ _ _ H _ I h=>fv I hg hm hv ⟨v,H,I,r,h⟩ hn hd
variable {a b:Expr}{ta tb:TE}{pos:Pos}
def tB(t:TE):TT:=fun σ H Q=>t σ H fun x H1=>∃ c,x=.bl c/\Q c H1
theorem sN{e:Expr}{t:TE}(h:PE X e t)(he:∀ whole,isTrue e X.env whole=(do let v <- whole;standAt e.pos;holding [v] (truthy v)):=by intro _;rfl):PT X e (tB t):=by
 intro pins s σ H Q I hw
 refine isTrue_plain (c6 (h pins s σ H _ I hw) fun v s1 ⟨x,H1,I1,r1,q1⟩=>?_) (he _)
 obtain ⟨d,rfl,q⟩:=q1
 cases r1
 exact wpAny_truthy_bool ⟨H1,I1,q⟩
variable {tA Vm:TT}{rest:List Expr}
def RI(t u:TT):TT:=fun σ H Q=>t σ H fun c H1=>if c=true then u σ H1 Q else Q false H1
def tOr(t u:TT):TT:=fun σ H Q=>t σ H fun c H1=>if c=true then Q true H1 else u σ H1 Q
def RJ(t:TT):TT:=fun σ H Q=>t σ H fun c H1=>Q (!c) H1
theorem nz(ha:PT X a tA):PW X (.BoolOp .And [a] pos) tA:=by
 intro wh pins s σ H Q I h
 refine isTrue_and (c6 (ha pins s σ H Q I h) fun c s1 e=>?_)
 cases c with
 | true=>exact isTrue_and_nil e
 | false=>exact e
theorem sO(ha:PT X a tA):PW X (.BoolOp .Or [a] pos) tA:=by
 intro wh pins s σ H Q I h
 refine isTrue_or (c6 (ha pins s σ H Q I h) fun c s1 e=>?_)
 cases c with
 | false=>exact isTrue_or_nil e
 | true=>exact e
theorem sQ(ha:PT X a tA)(hb:PW X (.BoolOp .And (b::rest) pos) Vm):PW X (.BoolOp .And (a::b::rest) pos) (RI tA Vm):=by
 intro wh pins s σ H Q I h
 refine isTrue_and (c6 (ha pins s σ H _ I h) fun c s1 ⟨H1,I1,q1⟩=>?_)
 cases c with
 | true=>exact hb wh pins s1 σ H1 Q I1 q1
 | false=>exact⟨H1,I1,q1⟩
theorem zf(ha:PT X a tA)(hb:PW X (.BoolOp .Or (b::rest) pos) Vm):PW X (.BoolOp .Or (a::b::rest) pos) (tOr tA Vm):=by
 intro wh pins s σ H Q I h
 refine isTrue_or (c6 (ha pins s σ H _ I h) fun c s1 ⟨H1,I1,q1⟩=>?_)
 cases c with
 | true=>exact⟨H1,I1,q1⟩
 | false=>exact hb wh pins s1 σ H1 Q I1 q1
theorem xc(ha:PT X a tA):PT X (.UnaryOp .Not a pos) (RJ tA):=by
 intro pins s σ H Q I h
 exact isTrue_not (ha pins s σ H (fun c H1=>Q (!c) H1) I h)
def Mm(ta tb:TE):TE:=fun σ H Q=>ta σ H fun x H1=>∃ c,x=.bl c/\if c=true then tb σ H1 Q else Q (.bl false) H1
def Mn(ta:TE):TE:=fun σ H Q=>ta σ H fun x H1=>∃ c,x=.bl c/\Q (.bl (!c)) H1
theorem F4{op}{t:TE}(h:PE X a t):PE X (.BoolOp op [a] pos) t:=fun pins s σ H Q I hw=>BoolOp_one (h pins s σ H Q I hw)
theorem F5(ha:PE X a ta)(hb:PE X (.BoolOp .And (b::rest) pos) tb):PE X (.BoolOp .And (a::b::rest) pos) (Mm ta tb):=by
 intro pins s σ H Q I h
 refine BoolOp_and (c6 (ha pins s σ H _ I h) fun v s1 ⟨x,H1,I1,r1,q1⟩=>?_)
 obtain ⟨c,rfl,q1⟩:=q1
 cases r1
 refine wpAny_truthy_bool ?_
 cases c with
 | true=>exact hb pins s1 σ H1 Q I1 q1
 | false=>exact⟨.bl false,H1,I1,rfl,q1⟩
theorem NA(ha:PE X a ta):PE X (.UnaryOp .Not a pos) (Mn ta):=by
 intro pins s σ H Q I h
 refine UnaryOp_ (c6 (ha pins s σ H _ I h) fun v s1 ⟨x,H1,I1,r1,q1⟩=>?_)
 obtain ⟨c,rfl,q1⟩:=q1
 cases r1
 exact not_of (wpAny_truthy_bool ⟨.bl (!c),H1,I1,rfl,q1⟩)
def tIf(t:TT)(ta tb:TE):TE:=fun σ H Q=>t σ H fun c H1=>if c=true then ta σ H1 Q else tb σ H1 Q
theorem gm{c:Expr}(hc:PT X c tA)(ha:PE X a ta)(hb:PE X b tb):PE X (.IfExp c a b pos) (tIf tA ta tb):=by
 intro pins s σ H Q I h
 refine wpAny_IfExp (c6 (hc pins s σ H _ I h) fun d s1 ⟨H1,I1,q1⟩=>?_)
 cases d with
 | true=>exact ha pins s1 σ H1 Q I1 q1
 | false=>exact hb pins s1 σ H1 Q I1 q1
end
def aR(K:Frag)(H:Hp)(a:Addr)(xs:List V):Prop :=
 Rd H a (.lst xs) \/
  ∃ (o:Obj) (its:Array Value) (n:Nat),K.lookup a=some o/\o.cls=.type "list"/\o.dict=none/\o.data=.seq its n/\its.size<=sizeLine/\Vals xs its.toList
def aN(K:Frag)(H:Hp)(a:Addr)(xs:List V):Prop :=
 Rd H a (.tup xs) \/
  ∃ (o:Obj) (its:Array Value) (n:Nat),K.lookup a=some o/\o.cls=.type "tuple"/\o.data=.seq its n/\its.size<=sizeLine/\Vals xs its.toList
def WG:Value->Option V
 | .none=>some .dz
 | .bool b=>some (.bl b)
 | .int i _=>some (.int i)
 | .str x _=>some (.str x)
 | .bytes b _=>some (.FI b)
 | .float b _=>some (.Nv b)
 | .ref a=>some (.ref a)
 | .type n=>some (.ty n)
 | _=>none
theorem RelV.abs{x:V}{u:Value}(r:RelV x u):WG u=some x:=by
 cases x with
 | dz=>cases r;rfl
 | bl _=>cases r;rfl
 | int _=>obtain ⟨t,rfl⟩:=r;rfl
 | str _=>obtain ⟨t,rfl⟩:=r;rfl
 | FI _=>obtain ⟨t,rfl⟩:=r;rfl
 | Nv _=>obtain ⟨t,rfl⟩:=r;rfl
 | ref _=>cases r;rfl
 | ty _=>cases r;rfl
theorem RelV.inj{x y:V}{u:Value}(r:RelV x u)(q:RelV y u):x=y:=aaO (r.abs.symm.trans q.abs)
theorem Vals.inj:∀ {xs ys:List V} {us:List Value},Vals xs us->Vals ys us->xs=ys
 | _,_,_,.nil,.nil=>rfl
 | _,_,_,.cons r t,.cons r' t'=>by rw [r.inj r',Vals.inj t t']
section
variable {X:Cx}{pins:List (Addr×Obj)}{σ:St}{H:Hp}{s:Shared}{a:Addr}{xs ys:List V}
theorem aR.of{K:Frag}(h:H a=some (.lst xs)):aR K H a xs:=.inl (.inl h)
theorem aN.of{K:Frag}(h:H a=some (.tup xs)):aN K H a xs:=.inl (.inl h)
theorem Inv.list(I:Inv X pins σ H s)(h:aR X.K H a xs):∃ its:List Value,Vals xs its/\PlainL s.heap a its.toArray/\xs.length<=sizeLine:=by
 rcases h with h|⟨o,its,n,hk,hc,hd,hs,hz,r⟩
 ·obtain ⟨z,its,n,r,e⟩:=h.ok I.bc
  exact⟨its,r,⟨_,n,e,rfl,rfl,rfl⟩,z⟩
 ·refine⟨its.toList,r,⟨o,n,I.kC a o hk,hc,hd,by simpa using hs⟩,?_⟩
  have e:=r.length
  simp only [Array.length_toList] at e
  lia
theorem Inv.tuple(I:Inv X pins σ H s)(h:aN X.K H a xs):∃ its:List Value,Vals xs its/\IsTup s.heap a its.toArray/\xs.length<=sizeLine:=by
 rcases h with h|⟨o,its,n,hk,hc,hs,hz,r⟩
 ·obtain ⟨z,its,r,p⟩:=h.ok I.bc
  exact⟨its,r,p,z⟩
 ·refine⟨its.toList,r,⟨o,I.kC a o hk,hc,n,by simpa using hs⟩,?_⟩
  have e:=r.length
  simp only [Array.length_toList] at e
  lia
theorem Inv.zg(I:Inv X pins σ H s)(h:aR X.K H a xs)(h':aR X.K H a ys):xs=ys:=by
 obtain ⟨its,r,⟨o,n,e,_,_,d⟩,_⟩:=I.list h
 obtain ⟨its',r',⟨o',n',e',_,_,d'⟩,_⟩:=I.list h'
 rw [e] at e';cases e'
 rw [d] at d'
 injection d' with d1 _
 have:its=its':=by simpa using congrArg Array.toList d1
 subst this
 exact r.inj r'
theorem Inv.wd(I:Inv X pins σ H s)(h:aN X.K H a xs)(h':aN X.K H a ys):xs=ys:=by
 obtain ⟨its,r,⟨o,e,_,n,d⟩,_⟩:=I.tuple h
 obtain ⟨its',r',⟨o',e',_,n',d'⟩,_⟩:=I.tuple h'
 rw [e] at e';cases e'
 rw [d] at d'
 injection d' with d1 _
 have:its=its':=by simpa using congrArg Array.toList d1
 subst this
 exact r.inj r'
end
abbrev Cx.u5(X:Cx)(E:Value->Shared->Prop):Cx:={ X with xe:=E }
abbrev Cx.Ju(X:Cx):Cx:=X.u5 fun _ _=>False
theorem Cx.Ok.u5{X:Cx}(ok:X.Ok)(E:Value->Shared->Prop):(X.u5 E).Ok :=
 ⟨ok.mod,ok.kind,ok.glob,ok.blt,ok.above,ok.inj,ok.has,ok.QT,ok.hd,ok.frames,ok.Vk,ok.exf,ok.bs,ok.Bf,ok.DT,ok.JU,ok.nu,ok.Mj⟩
theorem Cx.Ok.jM{X:Cx}{E:Value->Shared->Prop}(ok:(X.u5 E).Ok):X.Ok :=
 ⟨ok.mod,ok.kind,ok.glob,ok.blt,ok.above,ok.inj,ok.has,ok.QT,ok.hd,ok.frames,ok.Vk,ok.exf,ok.bs,ok.Bf,ok.DT,ok.JU,ok.nu,ok.Mj⟩
section
variable {X:Cx}{pins:List (Addr×Obj)}{σ:St}{H:Hp}{s:Shared}{E:Value->Shared->Prop}
theorem Inv.u5(I:Inv X pins σ H s)(E:Value->Shared->Prop):Inv (X.u5 E) pins σ H s:=⟨I.ok.u5 E,I.os,I.bare,I.base,I.loc,I.cell,I.free,I.fO,I.pin,I.bc,I.len⟩
theorem Inv.jM(I:Inv (X.u5 E) pins σ H s):Inv X pins σ H s:=⟨I.ok.jM,I.os,I.bare,I.base,I.loc,I.cell,I.free,I.fO,I.pin,I.bc,I.len⟩
theorem SP.jM{D:Ends}{f:Flow}{s':Shared}(h:SP (X.u5 E) pins D f s'):SP X pins D f s':=by
 cases f with
 | next=>obtain ⟨σ',H',I,q⟩:=h;exact⟨σ',H',I.jM,q⟩
 | brk=>obtain ⟨σ',H',I,q⟩:=h;exact⟨σ',H',I.jM,q⟩
 | cont=>obtain ⟨σ',H',I,q⟩:=h;exact⟨σ',H',I.jM,q⟩
 | ret u=>obtain ⟨v,σ',H',I,r,q⟩:=h;exact⟨v,σ',H',I.jM,r,q⟩
theorem Ba.Ju{st:List Stmt}{t:TS}(h:Ba X.Ju st t):Ba X st t:=fun pins s σ H D I hw =>
 aaW (h pins s σ H D (I.u5 _) hw) (fun _ _ q=>q.jM) fun _ _ z=>False.elim z
end
section
variable {X:Cx}{st:Stmt}{rest:List Stmt}{t u:TS}{e:Expr}{te:TE}{pos:Pos}
def Mo:TS:=fun D σ H=>D.nx σ H
def RK(t u:TS):TS:=fun D σ H=>t { D with nx:=u D } σ H
theorem aK:Ba X [] Mo:=fun _ _ σ H _ I h=>wpAny_execs_nil ⟨σ,H,I,h⟩
theorem ag(h1:PS X st t)(h2:Ba X rest u):Ba X (st::rest) (RK t u):=by
 intro pins s σ H D I h
 refine wpAny_execs_cons (c6 (h1 pins s σ H { D with nx:=u D } I h) fun f s1 q=>?_)
 cases f with
 | next =>
  obtain ⟨σ',H',I',q⟩:=q
  exact h2 pins s1 σ' H' D I' q
 | ret v=>exact q
 | brk=>exact q
 | cont=>exact q
theorem ao(h1:PS X st t):Ba X [st] t:=by
 intro pins s σ H D I h
 refine wpAny_execs_cons (c6 (h1 pins s σ H D I h) fun f s1 q=>?_)
 cases f with
 | next=>exact wpAny_execs_nil q
 | ret v=>exact q
 | brk=>exact q
 | cont=>exact q
theorem Inv.quiet{pins:List (Addr×Obj)}{σ:St}{H:Hp}{s:Shared}(I:Inv X pins σ H s):interactive X.env=false:=by simp [interactive,I.ok.kind]
def Mp(te:TE):TS:=fun D σ H=>te σ H fun _ H1=>D.nx σ H1
theorem ej(he:PE X e te)(hs:swapsWith e none pos.line X.env=pure false:=by rfl):PS X (.Expr e pos) (Mp te):=by
 intro pins s σ H D I h
 exact wpAny_Expr_any (c6 (he pins s σ H _ I h) fun v s1 ⟨x,H1,I1,r1,q1⟩=>⟨σ,H1,I1,q1⟩) I.quiet hs
def RL(te:TE):TS:=fun D σ H=>te σ H D.rt
theorem aG(he:PE X e te):PS X (.Return (some e) pos) (RL te):=by
 intro pins s σ H D I h
 exact wpAny_Return_some (c6 (he pins s σ H _ I h) fun v s1 ⟨x,H1,I1,r1,q1⟩=>⟨x,σ,H1,I1,r1,q1⟩)
def RM(c:TT)(t u:TS):TS:=fun D σ H=>c σ H fun b H1=>if b=true then t D σ H1 else u D σ H1
theorem bB{c:Expr}{a b:List Stmt}{tc:TT}(hc:PT X c tc)(ha:Ba X a t)(hb:Ba X b u):PS X (.If c a b pos) (RM tc t u):=by
 intro pins s σ H D I h
 refine wpAny_If (c6 (hc pins s σ H _ I h) fun d s1 ⟨H1,I1,q1⟩=>?_)
 cases d with
 | true=>exact ha pins s1 σ H1 D I1 q1
 | false=>exact hb pins s1 σ H1 D I1 q1
def NB:TS:=fun _ _ _=>False
theorem jN:PS X st NB:=fun _ _ _ _ _ _ h=>h.elim
end
abbrev TG:=V->St->Hp->(St->Hp->Prop)->Prop
abbrev Mq:=List V->St->Hp->(St->Hp->Prop)->Prop
def PG(X:Cx)(target:Expr)(t:TG):Prop :=
 ∀ (pins:List (Addr×Obj)) (s:Shared) (σ:St) (H:Hp) (v:V) (u:Value) (Q:St->Hp->Prop),Inv X pins σ H s->RelV v u->t v σ H Q ->
  wpAny (model X.prog X.w) X.A (assign target X.env u) (fun _ s'=>∃ σ' H',Inv X pins σ' H' s'/\Q σ' H') X.xe s
def RN(X:Cx)(ts:List Expr)(t:Mq):Prop :=
 ∀ (pins:List (Addr×Obj)) (s:Shared) (σ:St) (H:Hp) (vs:List V) (us:List Value) (Q:St->Hp->Prop),Inv X pins σ H s->Vals vs us->t vs σ H Q ->
  wpAny (model X.prog X.w) X.A (assignInOrder ((assignEach ts X.env).map (·.2)) us) (fun _ s'=>∃ σ' H',Inv X pins σ' H' s'/\Q σ' H') X.xe s
abbrev JY:=V->V->V->Hp->(Hp->Prop)->Prop
def RO(X:Cx)(t:JY):Prop :=
 ∀ (pins:List (Addr×Obj)) (s:Shared) (σ:St) (H:Hp) (o i v:V) (ov iv u:Value) (Q:Hp->Prop),Inv X pins σ H s->RelV o ov->RelV i iv->RelV v u->t o i v H Q ->
  wpAny (model X.prog X.w) X.A (setItem ov iv u) (fun _ s'=>∃ H',Inv X pins σ H' s'/\Q H') X.xe s
section
variable {X:Cx}{pos:Pos}
def bT(i:Nat):TG:=fun v σ H Q=>Q (σ.set i (some v)) H
theorem au{i:Nat}{x:Str}(hN:X.N.Nodup)(hi:X.N[i]?=some x)(hx:Loc X.env.scope x)(hf:X.fn x=true\/X.env.scope.names.lookup x=some .local:=by first|exact .inl rfl|exact .inr rfl|assumption):PG X (.Name x pos) (bT i):=by
 intro pins s σ H v u Q I r h
 exact wpAny_assign_Name (ny I hN hi hx r (fun s' I'=>⟨_,H,I',h⟩) hf)
def sR:Mq:=fun vs σ H Q=>vs=[]/\Q σ H
def d5(t:TG)(u:Mq):Mq:=fun vs σ H Q=>∃ v r,vs=v::r/\t v σ H fun σ' H'=>u r σ' H' Q
theorem cu:RN X [] sR:=by
 intro pins s σ H vs us Q I r h
 obtain ⟨e,h⟩:=h
 subst e
 cases r
 exact assignInOrder_nil ⟨σ,H,I,h⟩
theorem aJ{e:Expr}{es:List Expr}{t:TG}{u:Mq}(h1:PG X e t)(h2:RN X es u)
  (hs:(assignEach (e::es) X.env).map (·.2)=assign e X.env::(assignEach es X.env).map (·.2):=by rfl):RN X (e::es) (d5 t u):=by
 intro pins s σ H vs us Q I r h
 obtain ⟨v,vr,e1,h⟩:=h
 subst e1
 cases r with
 | cons r rr =>
  rw [hs]
  refine assignInOrder_cons (c6 (h1 pins s σ H _ _ _ I r h) fun _ s1 ⟨σ1,H1,I1,q1⟩=>?_)
  exact h2 pins s1 σ1 H1 _ _ Q I1 rr q1
def qZ(K:Frag)(n:Nat)(t:Mq):TG:=fun v σ H Q=>∃ a xs,v=.ref a/\aN K H a xs/\xs.length=n/\t xs σ H Q
theorem NC{es:List Expr}{k:Nat}{t:Mq}{n:Nat}(hc:X.calm=true)(h:RN X es t)
  (hn:(assignEach es X.env).length=n:=by rfl) (lO:(assignEach es X.env).findIdx? (·.1)=none:=by rfl):PG X (.Tuple es k pos) (qZ X.K n t):=by
 intro pins s σ H v u Q I r hw
 obtain ⟨a,xs,e1,hq,hl,hw⟩:=hw
 subst e1
 cases r
 obtain ⟨its,rv,ht,hz⟩:=I.tuple hq
 refine assign_Tuple_tuple (I.ok.hd hc) ht (by simp [hn,<- hl,rv.length]) lO fun h' hx=>?_
 have I1:Inv X pins σ H { s with heap:=h' }:=I.kept (t':=s.toks) fun b o e=>hx b o (abw (aaJ e)) e
 exact h pins _ σ H xs _ Q I1 (by simpa using rv) hw
def RP(to ti:TE)(t:JY):TG:=fun v σ H Q=>to σ H fun o H1=>ti σ H1 fun i H2=>t o i v H2 fun H3=>Q σ H3
theorem iP{o i:Expr}{to ti:TE}{t:JY}(ho:PE X o to)(hi:PE X i ti)(hs:RO X t)
  (ha:∀ v,assign (.Subscript o i pos) X.env v=(do
   let ov <- holding [v] (eval o X.env)
   let iv <- holding [v,ov] (eval i X.env)
   standAt pos
   holding [v,ov,iv] (setItem ov iv v)
   release [v,ov,iv] []):=by intro _;rfl):PG X (.Subscript o i pos) (RP to ti t):=by
 intro pins s σ H v u Q I r h
 rw [ha]
 refine aaH (wpAny_holding (c6 (ho pins s σ H _ I h) fun ov s1 ⟨x,H1,I1,r1,q1⟩=>?_))
 refine aaH (wpAny_holding (c6 (hi pins s1 σ H1 _ I1 q1) fun iv s2 ⟨y,H2,I2,r2,q2⟩=>?_))
 refine aaH (wpAny_standAt (aaH (wpAny_holding (c6 (hs pins s2 σ H2 x y v ov iv u _ I2 r1 r2 r q2) fun _ s3 ⟨H3,I3,q3⟩=>?_))))
 exact wpAny_release ⟨σ,H3,I3,q3⟩
def JZ(te:TE)(g:TG):TS:=fun D σ H=>te σ H fun x H1=>g x σ H1 D.nx
theorem gn{tg e:Expr}{te:TE}{g:TG}(he:PE X e te)(hg:PG X tg g)(hs:swapsWithSole [tg] e pos.line X.env=pure false:=by rfl)(hw:swappedStores [tg] e X.env=pure none:=by rfl)
  (h1:(assignEach [tg] X.env).map (·.2)=[assign tg X.env]:=by rfl):PS X (.Assign [tg] e pos) (JZ te g):=by
 intro pins s σ H D I h
 refine wpAny_Assign_stores (c6 (he pins s σ H _ I h) fun v s1 ⟨x,H1,I1,r1,q1⟩=>?_) hs hw
 rw [h1]
 exact c6 (hg pins s1 σ H1 x v _ I1 r1 q1) fun _ s2 q=>q
theorem aw{i:Nat}{x:Str}{e:Expr}{te:TE}{pos':Pos}(hN:X.N.Nodup)(hi:X.N[i]?=some x)(hx:Loc X.env.scope x)(he:PE X e te)(hs:swapsWith e (some (.Name x pos')) pos.line X.env=pure false:=by rfl)(hf:X.fn x=true\/X.env.scope.names.lookup x=some .local:=by first|exact .inl rfl|exact .inr rfl|assumption) :
  PS X (.Assign [.Name x pos'] e pos) (JZ te (bT i)):=by
 intro pins s σ H D I h
 refine wpAny_Assign_Name (c6 (he pins s σ H _ I h) fun v s1 ⟨y,H1,I1,r1,q1⟩=>?_) hs
 exact ny I1 hN hi hx r1 (fun s2 I2=>⟨_,H1,I2,q1⟩) hf
def RQ(i j:Nat)(ta:TA):TS:=fun D σ H=>ta σ H fun vs H1=>∃ v w,vs=[v,w]/\D.nx ((σ.set i (some v)).set j (some w)) H1
theorem ND{i j:Nat}{x y:Str}{a b:Expr}{ta:TA}{px py pt:Pos}{kt k2 WH}(hc:X.calm=true)(hN:X.N.Nodup)(hi:X.N[i]?=some x)(hj:X.N[j]?=some y)(WI:i≠j)
  (hx:X.env.scope.names.lookup x=some .local) (hy:X.env.scope.names.lookup y=some .local) (ha:PA X [a,b] ta)
  (hw:swappedStores [.Tuple [.Name x px,.Name y py] kt pt] (.Tuple [a,b] k2 WH) X.env=pure (some [x,y]))
  (hs:swapsWithSole [.Tuple [.Name x px,.Name y py] kt pt] (.Tuple [a,b] k2 WH) pos.line X.env=pure false:=by rfl) :
  PS X (.Assign [.Tuple [.Name x px,.Name y py] kt pt] (.Tuple [a,b] k2 WH) pos) (RQ i j ta):=by
 intro pins s σ H D I h
 rw [exec_Assign_arm]
 refine aaH (wpAny_standAt ?_)
 rw [hs]
 refine aaH (aaV ?_)
 rw [if_neg (by decide)]
 refine aaH (Tuple_ (c6 (ha _ pins s σ H _ I h) fun us s1 ⟨vs,H1,I1,r1,q1⟩=>?_))
 obtain ⟨v,w,e1,q1⟩:=q1
 subst e1
 obtain ⟨u1,u2,rfl,rv,RR⟩:∃ u1 u2,us=[u1,u2]/\RelV v u1/\RelV w u2:=by
  cases r1 with
  | cons p q =>
   cases q with
   | cons p' q' =>
    cases q'
    exact⟨_,_,rfl,p,p'⟩
 refine wpAny_newObj_type ?_ (by show 2<=sizeLine;decide)
 have I2:Inv X pins σ H1 { s1 with heap:=s1.heap.push { cls:=.type "tuple",data:=.seq [u1,u2].toArray } }:=I1.kept (t':=s1.toks) fun b o e=>aaG _ e
 rw [hw]
 refine aaH (aaV ?_)
 show wpAny (model X.prog X.w) X.A (do rule "assign.swapped-stores"; let items <- unpackItems (.ref s1.heap.objs.size) 2 none;assignInOrder [fun v=>bindName X.env y v,fun v=>bindName X.env x v] items.reverse;pure Flow.next) _ _ _
 refine aaH (wpAny_rule (aaH (unpackItems_tuple (items:=#[u1,u2]) (I.ok.hd hc) (IsTup.new s1.heap _) fun h' lP=>?_)))
 have I3:=I2.kept (h':=h') (t':=s1.toks) fun b o e=>lP b o (abw (aaJ e)) e
 show wpAny _ _ (assignInOrder [fun v=>bindName X.env y v,fun v=>bindName X.env x v] [u2,u1] >>= fun _=>pure Flow.next) _ _ _
 refine aaH (assignInOrder_cons (wpAny_bindName (ny I3 hN hj (.inl hy) RR (fun s2 I4=>?_) (.inr hy))))
 refine assignInOrder_cons (wpAny_bindName (ny I4 hN hi (.inl hx) rv (fun s3 I5=>assignInOrder_nil (aaV ?_)) (.inr hx)))
 rw [List.set_comm _ _ (Ne.symm WI)] at I5
 exact⟨_,H1,I5,q1⟩
end
section
variable {X:Cx}{pos:Pos}
def F6(c:TT)(tb:TS):TS:=fun D σ H=>∃ W:Nat->St->Hp->Prop,(∃ m,W m σ H)/\∀ m σ H,W m σ H ->
 c σ H fun b H1=>if b=true then ∃ N:St->Hp->Prop,(∀ σ' H',N σ' H'->∃ m',m'<m/\W m' σ' H')/\tb { D with nx:=N,ct:=N,bk:=D.nx } σ H1 else D.nx σ H1
theorem zh{c:Expr}{body:List Stmt}{tc:TT}{tb:TS}(hp:PassesOwn (model X.prog X.w) X.A X.env X.xe)(hc:PT X c tc)(hb:Ba X body tb):PS X (.While c body [] pos) (F6 tc tb):=by
 intro pins s σ H D I h
 obtain ⟨W,⟨m0,w0⟩,turn⟩:=h
 refine wpAny_While (codeAny_whileLoop (fun n s'=>∃ σ' H',Inv X pins σ' H' s'/\W n σ' H') ?_ m0 ⟨σ,H,I,w0⟩)
 rintro n s1 ⟨σ1,H1,I1,w1⟩
 refine wpAny_passesOwn hp (c6 (hc pins s1 σ1 H1 _ I1 (turn n σ1 H1 w1)) fun b s2 ⟨H2,I2,q2⟩=>?_)
 cases b with
 | true =>
  obtain ⟨N,hN,q2⟩:=q2
  rw [if_pos rfl]
  refine wpAny_passesOwn hp (c6 (hb pins s2 σ1 H2 _ I2 q2) fun f s3 q3=>?_)
  cases f with
  | next =>
   obtain ⟨σ3,H3,I3,n3⟩:=q3
   obtain ⟨m',hm,w3⟩:=hN σ3 H3 n3
   exact⟨m',hm,σ3,H3,I3,w3⟩
  | cont =>
   obtain ⟨σ3,H3,I3,n3⟩:=q3
   obtain ⟨m',hm,w3⟩:=hN σ3 H3 n3
   exact⟨m',hm,σ3,H3,I3,w3⟩
  | brk=>exact q3
  | ret v=>exact q3
 | false =>
  rw [if_neg Bool.false_ne_true]
  exact wpAny_execs_nil ⟨σ1,H2,I2,q2⟩
end
structure It where
 go:Nat->Hp->Prop
 J0:Nat->Hp->V->Hp->Prop
 stop:Nat->Hp->Prop
def oY(X:Cx)(pins:List (Addr×Obj))(H:Hp)(b:Addr):Prop :=
 H b=none/\b≠X.env.locals/\b∉X.fs/\(b∈X.ex\/X.s₀.heap.objs.size<=b)/\(∀ x c,X.env.cells.lookup x=some c->c≠b)/\∀ p∈X.pn++pins,p.1≠b
theorem Inv.u6{X:Cx}{pins:List (Addr×Obj)}{σ:St}{H H':Hp}{s:Shared}{b:Addr}(I:Inv X pins σ H s)(hb:s.heap.objs.size<=b)(hn:H' b=none):oY X pins H' b:=by
 refine⟨hn,Nat.ne_of_gt (Nat.lt_of_lt_of_le I.lt hb),I.Wx hb,.inr (aaL I.sz hb),fun x c e z=>?_,fun p hp z=>?_⟩
 ·obtain ⟨v,q⟩:=I.cell x c e
  exact absurd (Nat.lt_of_lt_of_le q.lt (by rw [z];exact hb)) (Nat.lt_irrefl _)
 ·exact absurd (Nat.lt_of_lt_of_le (aaJ (I.pin p hp).1) (by rw [z];exact hb)) (Nat.lt_irrefl _)
structure Turn(P:Program)(w:World)(K:Frag)(tg:Expr)(J:It)(fp:List Addr)(it:Addr)(tn:Nat->Heap->Prop):Prop where
 mem:it∈fp
 obj:∀ i h,tn i h->∀ b∈fp,∃ o,h.get? b=some o/\∀ v,o.data≠.cell v
 keep:∀ i h h',tn i h->(∀ b∈fp,∀ o,h.get? b=some o->h'.get? b=some o)->tn i h'
 item:∀ (X:Cx),X.prog=P->X.w=w->X.K=K->X.calm=true->∀ (i:Nat) (pins:List (Addr×Obj)) (s:Shared) (σ:St) (H:Hp) (E:Value->Shared->Prop),Inv X pins σ H s->(∀ b∈fp,oY X pins H b)->tn i s.heap->J.go i H ->
  wpAny (model P w) X.A (pyNext (.ref it)) (fun r s1=>∃ u,r=some u /\
   wpAny (model P w) X.A (letOwnedTupleGo tg (.ref it) u) (fun _ s2=>∃ x H',Inv X pins σ H' s2/\RelV x u/\J.J0 i H x H'/\tn (i+1) s2.heap/\∀ b∈fp,H' b=none) E s1) E s
 done:∀ (X:Cx),X.prog=P->X.w=w->X.K=K->X.calm=true->∀ (i:Nat) (pins:List (Addr×Obj)) (s:Shared) (σ:St) (H:Hp) (E:Value->Shared->Prop),Inv X pins σ H s->(∀ b∈fp,oY X pins H b)->tn i s.heap->J.stop i H ->
  wpAny (model P w) X.A (pyNext (.ref it)) (fun r s1=>r=none/\Inv X pins σ H s1) E s
 self:∀ (A:Around) (i:Nat) (s:Shared) (Q:Value->Shared->Prop) (E:Value->Shared->Prop),tn i s.heap->Q (.ref it) s->wpAny (model P w) A (pyIter (.ref it)) Q E s
abbrev TI:=St->Hp->(It->Hp->Prop)->Prop
def PIE(X:Cx)(pins:List (Addr×Obj))(σ:St)(tg:Expr)(R:It->Hp->Prop)(Vn:Value)(s2:Shared):Prop :=
 ∃ (it:Addr) (fp:List Addr) (tn:Nat->Heap->Prop) (J:It) (H':Hp),Vn=.ref it/\Inv X pins σ H' s2/\Turn X.prog X.w X.K tg J fp it tn/\tn 0 s2.heap/\(∀ b∈fp,oY X pins H' b)/\R J H'
def PI(X:Cx)(tg iter:Expr)(wi:TI):Prop :=
 ∀ (pins:List (Addr×Obj)) (s:Shared) (σ:St) (H:Hp) (R:It->Hp->Prop),Inv X pins σ H s->wi σ H R ->
  wpAny (model X.prog X.w) X.A (eval iter X.env) (fun v s1=>wpAny (model X.prog X.w) X.A (pyIter v) (PIE X pins σ tg R) X.xe s1) X.xe s
theorem C7{M : Model}{A : Around}{E : Value -> Shared -> Prop}{s : Shared}{tg : Expr}{it : Addr}{u : Value}{o : Obj}{n : String}{vs : Array Value}{Q : Unit -> Shared -> Prop}(ho : s.heap.get? it=some o)(hc : o.cls=.type n)(hd : o.data=.fields vs)
    (hn : ["enumerate", "zip", "dict_itemiterator", "dict_reverseitemiterator", "odict_iterator", "itertools.zip_longest", "itertools.pairwise"].contains n=false) (hQ : Q () s) : wpAny M A (letOwnedTupleGo tg (.ref it) u) Q E s := by
  unfold letOwnedTupleGo
  cases tg <;> first
    | exact aaV hQ
    | (cases u <;> first
        | exact aaV hQ
        | (refine aaH (wpAny_load ho ?_)
           rw [hc, hd]
           show wpAny M A (if (["enumerate", "zip", "dict_itemiterator", "dict_reverseitemiterator", "odict_iterator", "itertools.zip_longest", "itertools.pairwise"].contains n && vs[0]? == some (rawInt _))=true then _ else _) Q E s
           rw [if_neg (by intro h;rw [hn, Bool.false_and] at h;cases h)]
           exact aaV hQ))
def Jv(K:Frag)(a:Addr):It :=
 ⟨fun i H=>∃ xs x,aR K H a xs/\xs[i]?=some x,fun i H x H'=>H'=H/\∀ xs,aR K H a xs->xs[i]?=some x,fun i H=>∃ xs,aR K H a xs/\xs.length<=i⟩
def QU(K:Frag)(a:Addr):It :=
 ⟨fun i H=>∃ xs x,aN K H a xs/\xs[i]?=some x,fun i H x H'=>H'=H/\∀ xs,aN K H a xs->xs[i]?=some x,fun i H=>∃ xs,aN K H a xs/\xs.length<=i⟩
def Mr(lo:Int)(n:Nat):It:=⟨fun i _=>i<n,fun i H x H'=>H'=H/\x=.int (lo+i),fun i _=>n<=i⟩
theorem DU{P:Program}{w:World}{K:Frag}{tg:Expr}(a it:Addr):Turn P w K tg (Jv K a) [it] it (fun i h=>h.IsListIter it a i) where
 mem:=by simp
 obj:=fun i h st b hb=>by
  have e:b=it:=by simpa using hb
  subst e
  obtain ⟨o,e,c,d⟩:=st
  exact⟨o,e,fun v z=>by rw [d] at z;cases z⟩
 keep:=fun i h h' st k=>st.at fun o e=>k it (by simp) o e
 item:=by
  intro X hP hw hK hc i pins s σ H E I hf st hg
  subst hP hw hK
  obtain ⟨xs,x,hq,hx⟩:=hg
  obtain ⟨its,rv,p,hz⟩:=I.list hq
  obtain ⟨u,hu,ru⟩:=rv.get hx
  obtain ⟨f0,f1,f2,f3,f4,f5⟩:=hf it (by simp)
  refine wpAny_pyNext_list_item st p.isList (x:=u) (by simpa using hu) fun h' F7 sb=>?_
  have I1:Inv X pins σ H { s with heap:=h' }:=I.turned (t':=s.toks) (fun b o hb e=>(sb.2 b hb).trans e) f0 f1 f3 f4 f5
  obtain ⟨o,e,c,d⟩:=id F7
  exact⟨u,rfl,C7 (s:={ s with heap:=h' }) e c d (by decide) ⟨x,H,I1,ru,⟨rfl,fun ys hy=>by rw [I.zg hy hq];exact hx⟩,F7,fun b hb=>(hf b hb).1⟩⟩
 done:=by
  intro X hP hw hK hc i pins s σ H E I hf st hg
  subst hP hw hK
  obtain ⟨xs,hq,hx⟩:=hg
  obtain ⟨its,rv,p,hz⟩:=I.list hq
  obtain ⟨f0,f1,f2,f3,f4,f5⟩:=hf it (by simp)
  have hl:=rv.length
  exact wpAny_pyNext_list_end (I.ok.hd hc) st p.isList (by simp;lia) fun h' eb=>⟨rfl,I.turned (t':=s.toks) (fun b o hb e=>eb b o hb e) f0 f1 f3 f4 f5⟩
 self:=fun _ _ _ _ _ st h=>wpAny_pyIter_listiter st h
theorem Bh{P:Program}{w:World}{K:Frag}{tg:Expr}(a it:Addr):Turn P w K tg (QU K a) [it] it (fun i h=>h.IsTupleIter it a i) where
 mem:=by simp
 obj:=fun i h st b hb=>by
  have e:b=it:=by simpa using hb
  subst e
  obtain ⟨o,e,c,d⟩:=st
  exact⟨o,e,fun v z=>by rw [d] at z;cases z⟩
 keep:=fun i h h' st k=>st.at fun o e=>k it (by simp) o e
 item:=by
  intro X hP hw hK hc i pins s σ H E I hf st hg
  subst hP hw hK
  obtain ⟨xs,x,hq,hx⟩:=hg
  obtain ⟨its,rv,p,hz⟩:=I.tuple hq
  obtain ⟨u,hu,ru⟩:=rv.get hx
  obtain ⟨f0,f1,f2,f3,f4,f5⟩:=hf it (by simp)
  refine wpAny_pyNext_tuple_item st (show s.heap.IsTuple a its.toArray from p) (x:=u) (by simpa using hu) fun h' F7 sb=>?_
  have I1:Inv X pins σ H { s with heap:=h' }:=I.turned (t':=s.toks) (fun b o hb e=>(sb.2 b hb).trans e) f0 f1 f3 f4 f5
  obtain ⟨o,e,c,d⟩:=id F7
  exact⟨u,rfl,C7 (s:={ s with heap:=h' }) e c d (by decide) ⟨x,H,I1,ru,⟨rfl,fun ys hy=>by rw [I.wd hy hq];exact hx⟩,F7,fun b hb=>(hf b hb).1⟩⟩
 done:=by
  intro X hP hw hK hc i pins s σ H E I hf st hg
  subst hP hw hK
  obtain ⟨xs,hq,hx⟩:=hg
  obtain ⟨its,rv,p,hz⟩:=I.tuple hq
  obtain ⟨f0,f1,f2,f3,f4,f5⟩:=hf it (by simp)
  have hl:=rv.length
  exact wpAny_pyNext_tuple_end (I.ok.hd hc) st (show s.heap.IsTuple a its.toArray from p) (by simp;lia) fun h' eb=>⟨rfl,I.turned (t':=s.toks) (fun b o hb e=>eb b o hb e) f0 f1 f3 f4 f5⟩
 self:=fun _ _ _ _ _ st h=>wpAny_pyIter_tupleiter st h
theorem Bi{P:Program}{w:World}{K:Frag}{tg:Expr}(it:Addr)(lo:Int)(n:Nat):Turn P w K tg (Mr lo n) [it] it (fun i h=>IsRangeIter h it (lo+(i:Nat)*1) ((n:Int) - (i:Nat)) 1) where
 mem:=by simp
 obj:=fun i h st b hb=>by
  have e:b=it:=by simpa using hb
  subst e
  exact⟨_,st,fun v z=>by
   have z':Data.fields _=Data.cell v:=z
   cases z'⟩
 keep:=fun i h h' st k=>k it (by simp) _ st
 item:=by
  intro X hP hw hK hc i pins s σ H E I hf st hg
  subst hP hw hK
  obtain ⟨f0,f1,f2,f3,f4,f5⟩:=hf it (by simp)
  have W:=Walks.range (prog:=X.prog) (w:=X.w) (I.ok.hd hc) it lo 1 n
  refine W.item i s _ _ hg st fun v h' tk hv F7 kk=>?_
  obtain ⟨t,rfl⟩:=hv
  have I1:Inv X pins σ H { s with heap:=h',toks:=tk }:=I.turned (fun b o hb e=>kk b o (by simpa using hb) e) f0 f1 f3 f4 f5
  refine⟨_,rfl,C7 (s:={ s with heap:=h',toks:=tk }) (n:="range_iterator") F7 rfl rfl (by decide) ⟨.int (lo+i),H,I1,⟨t,?_⟩,⟨rfl,rfl⟩,F7,fun b hb=>(hf b hb).1⟩⟩
  rw [Int.mul_one]
 done:=by
  intro X hP hw hK hc i pins s σ H E I hf st hg
  subst hP hw hK
  obtain ⟨f0,f1,f2,f3,f4,f5⟩:=hf it (by simp)
  exact wpAny_pyNext_range_end (I.ok.hd hc) st (by have:n<=i:=hg;lia) fun h' eb=>⟨rfl,I.turned (t':=s.toks) (fun b o hb e=>eb b o hb e) f0 f1 f3 f4 f5⟩
 self:=fun _ _ _ _ _ st h=>wpAny_pyIter_rangeiter st h
section
variable {X:Cx}{tg:Expr}
def F8(K:Frag)(tl:TE):TI:=fun σ H R=>tl σ H fun x H1=>∃ a,x=.ref a/\(∃ xs,aR K H1 a xs)/\R (Jv K a) H1
def NF(K:Frag)(tl:TE):TI:=fun σ H R=>tl σ H fun x H1=>∃ a,x=.ref a/\(∃ xs,aN K H1 a xs)/\R (QU K a) H1
theorem J1{l:Expr}{tl:TE}(hl:PE X l tl):PI X tg l (F8 X.K tl):=by
 intro pins s σ H R I h
 refine c6 (hl pins s σ H _ I h) fun v s1 ⟨x,H1,I1,r1,q1⟩=>?_
 obtain ⟨a,e,⟨xs,hq⟩,q⟩:=q1
 subst e
 cases r1
 obtain ⟨its,rv,p,hz⟩:=I1.list hq
 refine wpAny_pyIter_list p.isList ?_
 refine⟨s1.heap.objs.size,[s1.heap.objs.size],_,_,H1,rfl,I1.kept (t':=s1.toks) fun b o e=>aaG _ e,DU a _,⟨_,aaK _ rfl,rfl,rfl⟩,fun b hb=>?_,q⟩
 have e:b=s1.heap.objs.size:=by simpa using hb
 subst e
 exact I1.u6 (aaM _) (I1.bc.fresh (aaM _))
theorem NG{l:Expr}{tl:TE}(hl:PE X l tl):PI X tg l (NF X.K tl):=by
 intro pins s σ H R I h
 refine c6 (hl pins s σ H _ I h) fun v s1 ⟨x,H1,I1,r1,q1⟩=>?_
 obtain ⟨a,e,⟨xs,hq⟩,q⟩:=q1
 subst e
 cases r1
 obtain ⟨its,rv,p,hz⟩:=I1.tuple hq
 refine wpAny_pyIter_tuple (show s1.heap.IsTuple a its.toArray from p) ?_
 refine⟨s1.heap.objs.size,[s1.heap.objs.size],_,_,H1,rfl,I1.kept (t':=s1.toks) fun b o e=>aaG _ e,Bh a _,⟨_,aaK _ rfl,rfl,rfl⟩,fun b hb=>?_,q⟩
 have e:b=s1.heap.objs.size:=by simpa using hb
 subst e
 exact I1.u6 (aaM _) (I1.bc.fresh (aaM _))
theorem F9{pins:List (Addr×Obj)}{σ:St}{H:Hp}{s:Shared}{R:It->Hp->Prop}{E:Value->Shared->Prop}{lo hi:Int}{t u v:Tok}{tk:Nat}(I:Inv X pins σ H s)(h1:-(2 ^ 62)<=lo)(h2:lo<2 ^ 62)(h3:-(2 ^ 62)<=hi)(h4:hi<2 ^ 62)
  (q:R (Mr lo (hi - lo).toNat) H):wpAny (model X.prog X.w) X.A (pyIter (.ref s.heap.objs.size)) (PIE X pins σ tg R) E { s with heap:=s.heap.push { cls:=.type "range",data:=.fields #[.int lo t,.int hi u,.int 1 v] },toks:=tk }:=by
 refine wpAny_pyIter_range (IsRange.new ..) (small_one h1 h2 h3 h4) ?_
 have I1:Inv X pins σ H { s with heap:=s.heap.push { cls:=.type "range",data:=.fields #[.int lo t,.int hi u,.int 1 v] },toks:=tk }:=I.kept fun b o e=>aaG _ e
 refine⟨(s.heap.push { cls:=.type "range",data:=.fields #[.int lo t,.int hi u,.int 1 v] }).objs.size,[(s.heap.push { cls:=.type "range",data:=.fields #[.int lo t,.int hi u,.int 1 v] }).objs.size],_,_,H,rfl,
  I1.kept (t':=tk) fun b o e=>aaG _ e,Bi _ lo (hi - lo).toNat,?_,fun b hb=>?_,q⟩
 ·have e1:lo+((0:Nat):Int)*1=lo:=by simp
  have e2:(((hi - lo).toNat:Nat):Int) - ((0:Nat):Int)=Builtin.Range.rangeSize lo hi 1:=by rw [rangeSize_one];split <;> lia
  show IsRangeIter _ _ (lo+((0:Nat):Int)*1) ((((hi - lo).toNat:Nat):Int) - ((0:Nat):Int)) 1
  rw [e1,e2]
  exact aaK _ rfl
 ·have e:b=(s.heap.push { cls:=.type "range",data:=.fields #[.int lo t,.int hi u,.int 1 v] }).objs.size:=by simpa using hb
  subst e
  exact I1.u6 (aaM _) (I1.bc.fresh (aaM _))
def Ms(ta:TA):TI:=fun σ H R=>ta σ H fun vs H1=>∃ j:Int,vs=[.int j]/\-(2 ^ 62)<=j/\j<2 ^ 62/\R (Mr 0 j.toNat) H1
theorem cR {a:Expr} {ta:TA} {p pos:Pos} (hg:Gl X "range") (hm:X.mg "range"=none) (ha:PA X [a] ta) (hs:starEach [a] X.env=[(false,eval a X.env)]:=by rfl):PI X tg (.Call (.Name "range" p) [a] [] pos) (Ms ta):=by
 intro pins s σ H R I h
 refine Call_ (fv I hg hm boot_range (callWith_type1 (c6 (ha pos pins s σ H _ I h) fun us s1 ⟨vs,H1,I1,r1,q1⟩=>?_) hs rfl))
 obtain ⟨j,e,q1,q2,q⟩:=q1
 subst e
 cases r1 with
 | cons r rr =>
  cases rr
  obtain ⟨t,rfl⟩:=r
  exact call_range_1 (F9 I1 (by lia) (by lia) q1 q2 (by simpa using q))
def RS(wi:TI)(g:TG)(tb:TS):TS:=fun D σ H=>wi σ H fun J H1=>∃ W:Nat->Nat->St->Hp->Prop,(∃ m,W 0 m σ H1)/\∀ i m σ H,W i m σ H ->
 (J.stop i H/\D.nx σ H)\/(J.go i H/\∃ N:St->Hp->Prop,(∀ σ' H',N σ' H'->∃ m',m'<m/\W (i+1) m' σ' H')/\∀ x H',J.J0 i H x H'->g x σ H' fun σ2 H2=>tb { D with nx:=N,ct:=N,bk:=D.nx } σ2 H2)
def oZ(fp:List Addr)(h:Heap):List (Addr×Obj):=fp.filterMap fun b=>(h.get? b).map fun o=>(b,o)
theorem fw{fp:List Addr}{h:Heap}{b:Addr}{o:Obj}(hb:b∈fp)(e:h.get? b=some o):(b,o)∈oZ fp h:=mem_filterMap.mpr ⟨b,hb,by rw [e];rfl⟩
theorem DV{fp:List Addr}{h:Heap}{p:Addr×Obj}(hp:p∈oZ fp h):p.1∈fp/\h.get? p.1=some p.2:=by
 obtain ⟨b,hb,e⟩:=mem_filterMap.mp hp
 cases q:h.get? b with
 | none=>rw [q] at e;cases e
 | some o =>
  rw [q] at e
  have e':(b,o)=p:=aaO e
  subst e'
  exact⟨hb,q⟩
theorem Inv.pinned{pins:List (Addr×Obj)}{σ:St}{H:Hp}{s:Shared}{fp:List Addr}(I:Inv X pins σ H s)(hf:∀ b∈fp,oY X pins H b)(ho:∀ b∈fp,∃ o,s.heap.get? b=some o/\∀ v,o.data≠.cell v):Inv X (pins++oZ fp s.heap) σ H s :=
 I.nv fun p hp=>(aa3.mp hp).elim (fun z=>I.pin p (aa0 _ z)) fun z=>by
  obtain ⟨hb,e⟩:=DV z
  obtain ⟨f0,f1,f2,_⟩:=hf p.1 hb
  obtain ⟨o,e',d⟩:=ho p.1 hb
  rw [e] at e';cases e'
  exact⟨e,f0,f1,f2,d⟩
theorem Inv.fP{pins pl:List (Addr×Obj)}{σ:St}{H:Hp}{s:Shared}(I:Inv X (pins++pl) σ H s):Inv X pins σ H s:=I.nv fun p hp=>I.pin p (aa0 _ (aa1 _ hp))
theorem dh{iter:Expr}{body:List Stmt}{wi:TI}{g:TG}{tb:TS}{pos:Pos}(hp:PassesOwn (model X.prog X.w) X.A X.env X.xe)(hc:X.calm=true)(hi:PI X tg iter wi)(hg:PG X tg g)(hb:Ba X body tb)
  (hs:∀ x,foldedSetIterable iter X.env x=pure x:=by intro _;rfl):PS X (.For tg iter body [] pos) (RS wi g tb):=by
 intro pins s σ H D I h
 refine wpAny_For (c6 (hi pins s σ H _ I h) fun v s1 h1=>c6 h1 fun Vn s2 h2=>?_) hs
 obtain ⟨it,fp,tn,J,H2,e,I2,T,NH,f2,W,⟨m0,w0⟩,turn⟩:=h2
 subst e
 have NI:∀ {H':Hp},(∀ b∈fp,H' b=none)->∀ b∈fp,oY X pins H' b:=fun hn b hb=>⟨hn b hb,(f2 b hb).2⟩
 refine codeAny_forLoop_any (fun n s'=>∃ i σ' H',Inv X pins σ' H' s'/\tn i s'.heap/\(∀ b∈fp,H' b=none)/\W i n σ' H') ?_ m0 ⟨0,σ,H2,I2,NH,fun b hb=>(f2 b hb).1,w0⟩
 rintro n s3 ⟨i,σ3,H3,I3,C8,fr3,w3⟩
 rcases turn i n σ3 H3 w3 with ⟨stop,qn⟩|⟨go,N,hN,step⟩
 ·refine wpAny_passesOwn hp (c6 (T.done X rfl rfl rfl hc i pins s3 σ3 H3 X.xe I3 (NI fr3) C8 stop) fun r s4 ⟨hr,I4⟩=>?_)
  subst hr
  exact wpAny_execs_nil ⟨σ3,H3,I4,qn⟩
 ·refine wpAny_passesOwn hp (c6 (T.item X rfl rfl rfl hc i pins s3 σ3 H3 X.xe I3 (NI fr3) C8 go) fun r s4 ⟨u,hr,h4⟩=>?_)
  subst hr
  refine wpAny_passesOwn hp (c6 h4 fun _ s5 ⟨x,H5,I5,r5,y5,J2,NJ⟩=>?_)
  have I5':=I5.pinned (NI NJ) (T.obj _ _ J2)
  refine wpAny_passesOwn hp (c6 (hg _ s5 σ3 H5 x u _ I5' r5 (step x H5 y5)) fun _ s6 ⟨σ6,H6,I6,q6⟩=>?_)
  refine wpAny_passesOwn hp (c6 (hb _ s6 σ6 H6 _ I6 q6) fun f s7 q7=>?_)
  have again:∀ {σ7:St} {H7:Hp},Inv X (pins++oZ fp s5.heap) σ7 H7 s7->N σ7 H7->∃ m,m<n/\∃ i σ' H',Inv X pins σ' H' s7/\tn i s7.heap/\(∀ b∈fp,H' b=none)/\W i m σ' H':=fun {σ7 H7} I7 n7=>by
   obtain ⟨m',hm,w7⟩:=hN σ7 H7 n7
   refine⟨m',hm,i+1,σ7,H7,I7.fP,T.keep _ _ _ J2 fun b hb o e=>(I7.pin (b,o) (aa0 _ (aa0 _ (fw hb e)))).1,fun b hb=>?_,w7⟩
   obtain ⟨o,e,d⟩:=T.obj _ _ J2 b hb
   exact (I7.pin (b,o) (aa0 _ (aa0 _ (fw hb e)))).2.1
  cases f with
  | next=>obtain ⟨σ7,H7,I7,n7⟩:=q7;exact again I7 n7
  | cont=>obtain ⟨σ7,H7,I7,n7⟩:=q7;exact again I7 n7
  | brk=>obtain ⟨σ7,H7,I7,q7⟩:=q7;exact⟨σ7,H7,I7.fP,q7⟩
  | ret v=>obtain ⟨x7,σ7,H7,I7,r7,q7⟩:=q7;exact⟨x7,σ7,H7,I7.fP,r7,q7⟩
end
abbrev R2:=V->V->Hp->VK->Prop
def jO(X:Cx)(f:Value->Value->Sem Value)(r:R2):Prop :=
 ∀ (pins:List (Addr×Obj)) (s:Shared) (σ:St) (H:Hp) (x y:V) (v u:Value) (Q:VK),Inv X pins σ H s->RelV x v->RelV y u->r x y H Q ->
  wpAny (model X.prog X.w) X.A (f v u) (EP X pins σ Q) X.xe s
def WJ(X:Cx)(f:Value->Sem Value)(r:V->Hp->VK->Prop):Prop :=
 ∀ (pins:List (Addr×Obj)) (s:Shared) (σ:St) (H:Hp) (x:V) (v:Value) (Q:VK),Inv X pins σ H s->RelV x v->r x H Q ->
  wpAny (model X.prog X.w) X.A (f v) (EP X pins σ Q) X.xe s
def dA(X:Cx)(f:Value)(r:List V->Hp->VK->Prop):Prop :=
 ∀ (pins:List (Addr×Obj)) (s:Shared) (σ:St) (H:Hp) (xs:List V) (us:List Value) (Q:VK),Inv X pins σ H s->Vals xs us->r xs H Q ->
  wpAny (model X.prog X.w) X.A (call f us) (EP X pins σ Q) X.xe s
def NK(r:R2)(ta tb:TE):TE:=fun σ H Q=>ta σ H fun x H1=>tb σ H1 fun y H2=>r x y H2 Q
def tUn(r:V->Hp->VK->Prop)(ta:TE):TE:=fun σ H Q=>ta σ H fun x H1=>r x H1 Q
def rI(C:Int->Int->Prop)(g:Int->Int->V):R2:=fun x y H Q=>∃ i j,x=.int i/\y=.int j/\C i j/\Q (g i j) H
def J3(g:Int->Int->V):R2:=fun x y H Q=>∃ i j,x=.int i/\y=.int j/\Q (g i j) H
def rU(g:Int->V):V->Hp->VK->Prop:=fun x H Q=>∃ i,x=.int i/\Q (g i) H
section
variable {X:Cx}{a b c:Expr}{ta tb tc:TE}{pos:Pos}
theorem NL(ha:PE X a ta)(hb:PE X b tb){pins:List (Addr×Obj)}{s:Shared}{σ:St}{H:Hp}{R:V->V->Hp->Prop}(I:Inv X pins σ H s)
  (h:ta σ H fun x H1=>tb σ H1 fun y H2=>R x y H2) {Q:Value->Shared->Prop} {f:Value->Value->Sem Value}
  (hf:∀ v u s2 x y H2,Inv X pins σ H2 s2->RelV x v->RelV y u->R x y H2->wpAny (model X.prog X.w) X.A (f v u) Q X.xe s2) :
  wpAny (model X.prog X.w) X.A (eval a X.env) (fun v s₁=>wpAny (model X.prog X.w) X.A (eval b X.env) (fun u s₂=>wpAny (model X.prog X.w) X.A (f v u) Q X.xe s₂) X.xe s₁) X.xe s:=by
 refine c6 (ha pins s σ H _ I h) fun v s1 ⟨x,H1,I1,r1,q1⟩=>?_
 refine c6 (hb pins s1 σ H1 _ I1 q1) fun u s2 ⟨y,H2,I2,r2,q2⟩=>?_
 exact hf v u s2 x y H2 I2 r1 r2 q2
theorem ah{op:Operator}{r:R2}(ho:jO X (binaryOp op) r)(ha:PE X a ta)(hb:PE X b tb):PE X (.BinOp a op b pos) (NK r ta tb):=by
 intro pins s σ H Q I h
 exact wpAny_BinOp (NL ha hb I h fun v u s2 x y H2 I2 rx ry q=>ho pins s2 σ H2 x y v u Q I2 rx ry q)
theorem fQ{op:UnaryOp}{r:V->Hp->VK->Prop}(ho:WJ X (unaryOp op) r)(ha:PE X a ta):PE X (.UnaryOp op a pos) (tUn r ta):=by
 intro pins s σ H Q I h
 exact UnaryOp_ (c6 (ha pins s σ H _ I h) fun v s1 ⟨x,H1,I1,r1,q1⟩=>ho pins s1 σ H1 x v Q I1 r1 q1)
theorem Mt{f:Value->Value->Sem Value}{C:Int->Int->Prop}{g:Int->Int->Int}
  (rule:∀ (i j:Int) (t u:Tok) (s:Shared) (Q:Value->Shared->Prop) (E:Value->Shared->Prop),C i j->Q (.int (g i j) s.toks) { s with toks:=s.toks+1 }->wpAny (model X.prog X.w) X.A (f (.int i t) (.int j u)) Q E s) :
  jO X f (rI C fun i j=>.int (g i j)):=by
 intro pins s σ H x y v u Q I rx ry h
 obtain ⟨i,j,rfl,rfl,hc,q⟩:=h
 obtain ⟨t,rfl⟩:=rx
 obtain ⟨t',rfl⟩:=ry
 exact rule i j t t' s _ _ hc ⟨.int (g i j),H,I.tok _,⟨_,rfl⟩,q⟩
theorem RT{f:Value->Value->Sem Value}{g:Int->Int->Int}
  (rule:∀ (i j:Int) (t u:Tok) (s:Shared) (Q:Value->Shared->Prop) (E:Value->Shared->Prop),Q (.int (g i j) s.toks) { s with toks:=s.toks+1 }->wpAny (model X.prog X.w) X.A (f (.int i t) (.int j u)) Q E s) :
  jO X f (J3 fun i j=>.int (g i j)):=by
 intro pins s σ H x y v u Q I rx ry h
 obtain ⟨i,j,rfl,rfl,q⟩:=h
 obtain ⟨t,rfl⟩:=rx
 obtain ⟨t',rfl⟩:=ry
 exact rule i j t t' s _ _ ⟨.int (g i j),H,I.tok _,⟨_,rfl⟩,q⟩
theorem NM{f:Value->Value->Sem Value}{g:Int->Int->Bool}
  (rule:∀ (i j:Int) (t u:Tok) (s:Shared) (Q:Value->Shared->Prop) (E:Value->Shared->Prop),Q (.bool (g i j)) s->wpAny (model X.prog X.w) X.A (f (.int i t) (.int j u)) Q E s) :
  jO X f (J3 fun i j=>.bl (g i j)):=by
 intro pins s σ H x y v u Q I rx ry h
 obtain ⟨i,j,rfl,rfl,q⟩:=h
 obtain ⟨t,rfl⟩:=rx
 obtain ⟨t',rfl⟩:=ry
 exact rule i j t t' s _ _ ⟨.bl (g i j),H,I,rfl,q⟩
def WK(i j:Int):Prop:=0<j/\j<1073741824
def WL(i j:Int):Prop:=0<=j/\j<=1000000/\i.natAbs<2 ^ 64
def NN(i j:Int):Prop:=(-(2 ^ 64)<i/\i<2 ^ 64)\/(-(2 ^ 64)<j/\j<2 ^ 64)
theorem NN.ok{i j:Int}(h:NN i j):IntMulOk i j:=by
 rcases h with ⟨h1,h2⟩|⟨h1,h2⟩
 ·exact .of_left (intBits_le_64 h1 h2)
 ·exact .of_right (intBits_le_64 h1 h2)
theorem aV:jO X (binaryOp .Add) (J3 fun i j=>.int (i+j)):=RT fun _ _ _ _ _ _ _ q=>add_int q
theorem bF:jO X (binaryOp .Sub) (J3 fun i j=>.int (i - j)):=RT fun _ _ _ _ _ _ _ q=>sub_int q
theorem cV:jO X (binaryOp .Mult) (rI NN fun i j=>.int (i*j)):=Mt fun _ _ _ _ _ _ _ hc q=>mul_int q hc.ok
theorem bx:jO X (binaryOp .FloorDiv) (rI WK fun i j=>.int (i / j)):=Mt fun i j _ _ _ _ _ hc q=>by
 have h1:(0:Int)<j:=hc.1
 have h2:j<1073741824:=hc.2
 exact floordiv_int (by lia) (by rw [aaY i (by lia)];exact q) (.inl (PyProof.noPylong_small (by lia)))
theorem aC:jO X (binaryOp .Mod) (rI (fun _ j=>0<j) fun i j=>.int (i % j)):=Mt fun i j _ _ _ _ _ hc q=>by
 have h1:(0:Int)<j:=hc
 exact mod_int' (by lia) (by rw [Int.fmod_eq_emod_of_nonneg i (by lia)];exact q)
theorem Bj:jO X (binaryOp .Pow) (rI WL fun i j=>.int (i ^ j.toNat)):=Mt fun _ _ _ _ _ _ _ hc q=>pow_int_small hc.1 hc.2.1 hc.2.2 q
theorem unI{f:Value->Sem Value}{g:Int->Int}
  (rule:∀ (i:Int) (t:Tok) (s:Shared) (Q:Value->Shared->Prop) (E:Value->Shared->Prop),Q (.int (g i) s.toks) { s with toks:=s.toks+1 }->wpAny (model X.prog X.w) X.A (f (.int i t)) Q E s) :
  WJ X f (rU fun i=>.int (g i)):=by
 intro pins s σ H x v Q I rx h
 obtain ⟨i,rfl,q⟩:=h
 obtain ⟨t,rfl⟩:=rx
 exact rule i t s _ _ ⟨.int (g i),H,I.tok _,⟨_,rfl⟩,q⟩
theorem d6:WJ X (unaryOp .USub) (rU fun i=>.int (-i)):=unI fun _ _ _ _ _ q=>neg_int q
end
def RU:V->V->Bool
 | .dz,.dz=>true|.dz,.int _=>true|.int _,.dz=>true|.dz,.bl _=>true|.bl _,.dz=>true|.dz,.str _=>true|.str _,.dz=>true
 | .int _,.int _=>true|.bl _,.bl _=>true|.str _,.str _=>true|.FI _,.FI _=>true
 | .int _,.str _=>true|.str _,.int _=>true|.bl _,.str _=>true|.str _,.bl _=>true
 | _,_=>false
def rEq:R2:=fun x y H Q=>RU x y=true/\Q (.bl (decide (x=y))) H
def rNe:R2:=fun x y H Q=>RU x y=true/\Q (.bl (!decide (x=y))) H
theorem C9{i j:Int}:decide (V.int i=V.int j)=(i == j):=by
 rw [Bool.eq_iff_iff]
 simp
theorem Ga{i j:Bool}:decide (V.bl i=V.bl j)=(i == j):=by
 rw [Bool.eq_iff_iff]
 simp
theorem Dc{i j:Str}:decide (V.str i=V.str j)=(i == j):=by
 rw [Bool.eq_iff_iff]
 simp
theorem Dd{i j:Array UInt8}:decide (V.FI i=V.FI j)=(i.toList == j.toList):=by
 rw [Bool.eq_iff_iff]
 cases i
 cases j
 simp
section
variable {X:Cx}{a b c:Expr}{ta tb tc:TE}{pos:Pos}
theorem bO{pins:List (Addr×Obj)}{σ:St}{H:Hp}{s:Shared}{Q:VK}{k k':Bool}(I:Inv X pins σ H s)(q:Q (.bl k) H)(e:k=k'):EP X pins σ Q (.bool k') s:=by
 subst e
 exact⟨.bl k,H,I,rfl,q⟩
theorem bM:jO X (compareOp .Eq) rEq:=by
 intro pins s σ H x y v u Q I rx ry h
 obtain ⟨hs,q⟩:=h
 cases x with
 | dz =>
  cases rx
  cases y with
  | dz=>cases ry;exact PySem.EqNone.eq_none_none (bO I q (by simp))
  | bl j=>cases ry;exact PySem.EqNone.eq_none_bool (bO I q (by simp))
  | int j=>obtain ⟨t',rfl⟩:=ry;exact PySem.EqNone.eq_none_int (bO I q (by simp))
  | str j=>obtain ⟨t',rfl⟩:=ry;exact PySem.EqNone.eq_none_str (bO I q (by simp))
  | _=>exact absurd (show false=true from hs) Bool.false_ne_true
 | bl i =>
  cases rx
  cases y with
  | dz=>cases ry;exact PySem.EqNone.eq_bool_none (bO I q (by simp))
  | bl j=>cases ry;exact eq_bool (bO I q Ga)
  | str j=>obtain ⟨t',rfl⟩:=ry;exact PySem.EqMixed.eq_bool_str (bO I q (by simp))
  | _=>exact absurd (show false=true from hs) Bool.false_ne_true
 | int i =>
  obtain ⟨t,rfl⟩:=rx
  cases y with
  | dz=>cases ry;exact PySem.EqNone.eq_int_none (bO I q (by simp))
  | int j=>obtain ⟨t',rfl⟩:=ry;exact eq_int (bO I q C9)
  | str j=>obtain ⟨t',rfl⟩:=ry;exact PySem.EqMixed.eq_int_str (bO I q (by simp))
  | _=>exact absurd (show false=true from hs) Bool.false_ne_true
 | str i =>
  obtain ⟨t,rfl⟩:=rx
  cases y with
  | dz=>cases ry;exact PySem.EqNone.eq_str_none (bO I q (by simp))
  | bl j=>cases ry;exact PySem.EqMixed.eq_str_bool (bO I q (by simp))
  | int j=>obtain ⟨t',rfl⟩:=ry;exact PySem.EqMixed.eq_str_int (bO I q (by simp))
  | str j=>obtain ⟨t',rfl⟩:=ry;exact eq_str (bO I q Dc)
  | _=>exact absurd (show false=true from hs) Bool.false_ne_true
 | FI i =>
  obtain ⟨t,rfl⟩:=rx
  cases y with
  | FI j=>obtain ⟨t',rfl⟩:=ry;exact PySem.W.eq_bytes (bO I q Dd)
  | _=>exact absurd (show false=true from hs) Bool.false_ne_true
 | _=>cases y <;> exact absurd (show false=true from hs) Bool.false_ne_true
theorem we:jO X (compareOp .NotEq) rNe:=by
 intro pins s σ H x y v u Q I rx ry h
 obtain ⟨hs,q⟩:=h
 cases x with
 | dz =>
  cases rx
  cases y with
  | dz=>cases ry;exact PySem.EqNone.ne_none_none (bO I q (by simp))
  | bl j=>cases ry;exact PySem.EqNone.ne_none_bool (bO I q (by simp))
  | int j=>obtain ⟨t',rfl⟩:=ry;exact PySem.EqNone.ne_none_int (bO I q (by simp))
  | str j=>obtain ⟨t',rfl⟩:=ry;exact PySem.EqNone.ne_none_str (bO I q (by simp))
  | _=>exact absurd (show false=true from hs) Bool.false_ne_true
 | bl i =>
  cases rx
  cases y with
  | dz=>cases ry;exact PySem.EqNone.ne_bool_none (bO I q (by simp))
  | bl j=>cases ry;exact ne_bool (bO I q (congrArg not Ga))
  | str j=>obtain ⟨t',rfl⟩:=ry;exact PySem.EqMixed.ne_bool_str (bO I q (by simp))
  | _=>exact absurd (show false=true from hs) Bool.false_ne_true
 | int i =>
  obtain ⟨t,rfl⟩:=rx
  cases y with
  | dz=>cases ry;exact PySem.EqNone.ne_int_none (bO I q (by simp))
  | int j=>obtain ⟨t',rfl⟩:=ry;exact ne_int (bO I q (congrArg not C9))
  | str j=>obtain ⟨t',rfl⟩:=ry;exact PySem.EqMixed.ne_int_str (bO I q (by simp))
  | _=>exact absurd (show false=true from hs) Bool.false_ne_true
 | str i =>
  obtain ⟨t,rfl⟩:=rx
  cases y with
  | dz=>cases ry;exact PySem.EqNone.ne_str_none (bO I q (by simp))
  | bl j=>cases ry;exact PySem.EqMixed.ne_str_bool (bO I q (by simp))
  | int j=>obtain ⟨t',rfl⟩:=ry;exact PySem.EqMixed.ne_str_int (bO I q (by simp))
  | str j=>obtain ⟨t',rfl⟩:=ry;exact ne_str (bO I q (congrArg not Dc))
  | _=>exact absurd (show false=true from hs) Bool.false_ne_true
 | FI i =>
  obtain ⟨t,rfl⟩:=rx
  cases y with
  | FI j=>obtain ⟨t',rfl⟩:=ry;exact PySem.W.ne_bytes (bO I q (congrArg not Dd))
  | _=>exact absurd (show false=true from hs) Bool.false_ne_true
 | _=>cases y <;> exact absurd (show false=true from hs) Bool.false_ne_true
theorem zi:jO X (compareOp .Lt) (J3 fun i j=>.bl (decide (i<j))):=NM fun _ _ _ _ _ _ _ q=>lt_int q
theorem RV:jO X (compareOp .LtE) (J3 fun i j=>.bl (decide (i<=j))):=NM fun _ _ _ _ _ _ _ q=>le_int q
theorem gZ:jO X (compareOp .Gt) (J3 fun i j=>.bl (decide (j<i))):=NM fun _ _ _ _ _ _ _ q=>gt_int q
theorem Bk:jO X (compareOp .Is) (fun x y H Q=>y=.dz/\Q (.bl (decide (x=.dz))) H):=by
 intro pins s σ H x y v u Q I rx ry h
 obtain ⟨rfl,q⟩:=h
 cases ry
 refine is_none_gen (bO I q ?_)
 cases x <;> first
  | (cases rx;rfl)
  | (obtain ⟨t,rfl⟩:=rx;rfl)
theorem J4:jO X (compareOp .IsNot) (fun x y H Q=>y=.dz/\Q (.bl (!decide (x=.dz))) H):=by
 intro pins s σ H x y v u Q I rx ry h
 obtain ⟨rfl,q⟩:=h
 cases ry
 refine isnot_none_gen (bO I q ?_)
 cases x <;> first
  | (cases rx;rfl)
  | (obtain ⟨t,rfl⟩:=rx;rfl)
theorem aH(b:Expr){op:CmpOp}(h:op≠.In:=by decide)(h2:op≠.NotIn:=by decide):behindInMarks op b=false:=by
 have e1:(op == CmpOp.In)=false:=by cases op <;> first|rfl|exact absurd rfl h
 have e2:(op == CmpOp.NotIn)=false:=by cases op <;> first|rfl|exact absurd rfl h2
 cases b <;> simp [behindInMarks,e1,e2]
theorem iQ{op:CmpOp}{r:R2}(ho:jO X (compareOp op) r)(ha:PE X a ta)(hb:PE X b tb)(hm:behindInMarks op b=false):PE X (.Compare a [op] [b] pos) (NK r ta tb):=by
 intro pins s σ H Q I h
 exact wpAny_Compare1 (NL ha hb I h fun v u s2 x y H2 I2 rx ry q=>ho pins s2 σ H2 x y v u Q I2 rx ry q) hm
def Mu(t:TE):TT:=fun σ H Q=>t σ H fun x H'=>∃ k,x=.bl k/\Q k H'
theorem ay{op:CmpOp}{r:R2}(ho:jO X (compareOp op) r)(ha:PE X a ta)(hb:PE X b tb)(hm:behindInMarks op b=false):PT X (.Compare a [op] [b] pos) (Mu (NK r ta tb)):=by
 intro pins s σ H Q I h
 refine wpAny_isTrue_Compare1 (c6 (ha pins s σ H _ I h) fun v s1 ⟨x,H1,I1,r1,q1⟩=>c6 (hb pins s1 σ H1 _ I1 q1) fun u s2 ⟨y,H2,I2,r2,q2⟩ =>
  c6 (ho pins s2 σ H2 x y v u _ I2 r1 r2 q2) fun c s3 ⟨z,H3,I3,r3,k,e,q3⟩=>?_) hm
 subst e
 cases r3
 exact wpAny_truthy_bool ⟨H3,I3,q3⟩
theorem sS:(sizeLine:Nat)<2 ^ 63:=by rw [sizeLine_eq];decide
theorem Bl:jO X (binaryOp .Add) (fun x y H Q=>∃ i j,x=.str i/\y=.str j/\i.length+j.length<=sizeLine/\Q (.str (i++j)) H):=by
 intro pins s σ H x y v u Q I rx ry h
 obtain ⟨i,j,rfl,rfl,hz,q⟩:=h
 obtain ⟨t,rfl⟩:=rx
 obtain ⟨t',rfl⟩:=ry
 exact add_str (fun t' tk=>⟨.str (i++j),H,I.tok _,⟨_,rfl⟩,q⟩) hz
theorem vals1{x:V}{us:List Value}(r:Vals [x] us):∃ u,us=[u]/\RelV x u:=by
 cases r with
 | cons r1 r2=>cases r2;exact⟨_,rfl,r1⟩
theorem vals2{x y:V}{us:List Value}(r:Vals [x,y] us):∃ u w',us=[u,w']/\RelV x u/\RelV y w':=by
 cases r with
 | cons r1 r2 =>
  cases r2 with
  | cons r3 r4=>cases r4;exact⟨_,_,rfl,r1,r3⟩
theorem Gb:dA X (.builtin "abs") (fun xs H Q=>∃ i,xs=[.int i]/\Q (.int (if i<0 then -i else i)) H):=by
 intro pins s σ H xs us Q I r h
 obtain ⟨i,rfl,q⟩:=h
 obtain ⟨u,rfl,t,rfl⟩:=vals1 r
 exact call_abs_int fun u tk=>⟨.int (if i<0 then -i else i),H,I.tok _,⟨_,rfl⟩,q⟩
theorem DW:dA X (.type "int") (fun xs H Q=>(∃ i,xs=[.int i]/\Q (.int i) H)\/∃ k,xs=[.bl k]/\Q (.int (if k then 1 else 0)) H):=by
 intro pins s σ H xs us Q I r h
 rcases h with ⟨i,rfl,q⟩|⟨k,rfl,q⟩
 ·obtain ⟨u,rfl,t,rfl⟩:=vals1 r
  exact call_int_int ⟨.int i,H,I,⟨_,rfl⟩,q⟩
 ·obtain ⟨u,rfl,r1⟩:=vals1 r
  cases r1
  exact call_int_bool ⟨.int (if k then 1 else 0),H,I.tok _,⟨_,rfl⟩,q⟩
theorem xf:dA X (.type "str") (fun xs H Q=>∃ i,xs=[.int i]/\i.natAbs.log2<1920/\Q (.str (toString i)) H):=by
 intro pins s σ H xs us Q I r h
 obtain ⟨i,rfl,hz,q⟩:=h
 obtain ⟨u,rfl,t,rfl⟩:=vals1 r
 exact PySem.P.str_of_int hz ⟨.str _,H,I.tok _,⟨_,rfl⟩,q⟩
end
structure Bm(h:Heap)(x dx C:Addr)(mA:Str->Option Value):Prop where
 obj:h.get? x=some (instObj C dx)
 ns:h.Ns1 dx mA
 ne:dx≠x
theorem DX{h:Heap}{dx:Addr}{mA:Str->Option Value}(n:h.Ns1 dx mA):∃ od,h.get? dx=some od/\∀ name,lookIn name od=some (mA name):=by
 obtain ⟨o,es,ep,ho,hd,hk,_,hm⟩:=n
 refine⟨o,ho,fun name=>?_⟩
 have e:=hm name
 unfold nsFind findBy at e
 rw [<- Array.find?_toList] at e
 unfold lookIn
 rw [hd]
 dsimp only
 split
 ·rename_i y q
  rw [q] at e
  exact congrArg some e
 ·rename_i q
  rw [q] at e
  have a:es.toList.any (·.refKey)=false:=by
   rw [any_eq_false]
   intro y hy
   obtain ⟨z,t,WM⟩:=hk y (Array.mem_toList_iff.mp hy)
   simp [DictEntry.refKey,WM]
  have a':¬ es.toList.any (·.refKey)=true:=by rw [a];exact Bool.false_ne_true
  rw [if_neg a']
  exact congrArg some e
theorem Bm.look{h:Heap}{x dx C:Addr}{mA:Str->Option Value}(I:Bm h x dx C mA):∃ od,InstAt h x (instObj C dx) C (some od)/\∀ name,lookIn name od=some (mA name) :=
 let ⟨od,ho,hl⟩:=DX I.ns
 ⟨od,⟨I.obj,rfl,rfl,ho⟩,hl⟩
section
variable {prog:Program}{w:World}{A:Around}{E:Value->Shared->Prop}{s:Shared}{K:Frag}{x dx C f:Addr}{mA:Str->Option Value}{name:Str}{v:Value}
theorem get_map{expr:Bool}{Q:Value->Shared->Prop}(X:K.In s.heap)(I:Bm s.heap x dx C mA)(hg:plainGet K C name=true)(hh:hasDictIn K C=true)
  (ha:findIn K (.ref C) name=some none) (hv:mA name=some v) (hv':handedIn v=true) (h:Q v { s with toks:=s.toks+1 }) :
  wpAny (model prog w) A (getAttr (.ref x) name expr) Q E s:=by
 obtain ⟨od,J,hl⟩:=I.look
 exact PySem.W.get_value X J (plainGet_of hg).1 (PySem.W.findObj_own hh ha rfl (by rw [hl,hv])) hv' h
theorem Gd{pl:Sem Bool}{Q:Value×List Value->Shared->Prop}(X:K.In s.heap)(I:Bm s.heap x dx C mA)(hg:plainGet K C name=true)
  (hf:findIn K (.ref C) name=some (some (.ref f))) (ht:isFn K (.ref f)=true) (hv:mA name=none) (h:Q (.ref f,[.ref x]) s) :
  wpAny (model prog w) A (getMethod (.ref x) name pl) Q E s:=by
 obtain ⟨od,J,hl⟩:=I.look
 exact PySem.W.method_fn X J (plainGet_of hg).1 (plainGet_of hg).2 hf (beq_iff_eq.mp ht) (by show (lookIn name od).map (·.isSome)=some false;rw [hl,hv];rfl) h
theorem J5{ns:List Str}{Q:Unit->Shared->Prop}(X:K.In s.heap)(I:Bm s.heap x dx C mA)
  (hs:findIn K (.ref C) "__setattr__"=some (some (.builtin "object.__setattr__"))) (hp:plainOver K C=true) (ht:takerIn K C name=some none) (hh:hasDictIn K C=true)
  (hw:PySem.Within mA ns) (wj:ns.length<=sizeLine)
  (h:∀ h',Bm h' x dx C (fun y=>if y=name then some v else mA y)->Heap.SameBut dx s.heap h'->Q () { s with heap:=h',toks:=s.toks+2 }) :
  wpAny (model prog w) A (setAttr (.ref x) name v) Q E s:=by
 obtain ⟨od,J,hl⟩:=I.look
 refine PySem.W.set_plain X J hs (PySem.W.osa_open (s:={ s with toks:=s.toks+1 }) (r:=none) X J hp ht fun b=>?_)
 obtain ⟨cd,hc,Vl⟩:=PySem.W.any_some hh
 have hx:s.heap.get? x=some ⟨.ref C,some dx,.plain,#[]⟩:=I.obj
 refine aaH (aaV (aaH (aaH (wpAny_loadPart hx (aaH (Looks.here (s:={ s with toks:=s.toks+1 }) (PySem.W.looks_clsIn X hc) ?_))))))
 rw [Vl]
 refine aaV (a:=some dx) (aaH (aaV (aaH ?_)))
 refine wpAny_nsSet1 (s:={ s with toks:=s.toks+1 }) I.ns fun h' Bn fu=>?_
 obtain ⟨oD,esD,epD,hoD,hdD,hcD⟩:=Bn.count (PySem.Within.cons name v hw)
 refine aaH (wpAny_lookBehind hoD (by rw [hdD];exact pastItsLine_dict (aaL hcD (by rw [length_cons];lia))) ?_)
 exact aaV (h _ ⟨(fu.2 _ (Ne.symm I.ne)).trans I.obj,Bn,I.ne⟩ fu)
theorem Ge{R:Result->Shared->Prop}{vs:List Value}{kw:List (Str×Value)}(X:K.In s.heap)(hm:makesIn K C=true)
  (hi:findIn K (.ref C) "__init__"=some (some (.ref f))) (hf:typeIn K (.ref f)=some (.type "function"))
  (h:codeAny (model prog w) (A.under (.builtin "type.__call__" ⟨.ref C::vs,kw⟩)) (.call (.ref f) ⟨.ref (s.heap.objs.size+1)::vs,kw⟩) (InitBack (s.heap.objs.size+1) R)
   { s with heap:=(s.heap.push emptyDict).push (instObj C s.heap.objs.size) }) :
  codeAny (model prog w) A (.call (.ref C) ⟨vs,kw⟩) R s:=by
 obtain ⟨hh,g,d,t,os⟩:=s
 exact make_core (makes_of X hm) (looks_findIn X hi) (fun self=>PySem.W.bind_fn X self hf) (.inl rfl) h
theorem DY{R:Result->Shared->Prop}(X:K.In s.heap)(hm:makesIn K C=true)
  (hi:findIn K (.ref C) "__init__"=some (some (.builtin "object.__init__")))
  (hb:∀ self,Looks (model prog w) s.heap (bindSpecial (.builtin "object.__init__") self) (.builtin "object.__init__",[self]))
  (h:codeAny (model prog w) (A.under (.builtin "type.__call__" ⟨[.ref C],[]⟩)) (.call (.builtin "object.__init__") ⟨[.ref (s.heap.objs.size+1)],[]⟩) (InitBack (s.heap.objs.size+1) R)
   { s with heap:=(s.heap.push emptyDict).push (instObj C s.heap.objs.size) }) :
  codeAny (model prog w) A (.call (.ref C) ⟨[],[]⟩) R s:=by
 obtain ⟨hh,g,d,t,os⟩:=s
 exact make_core (makes_of X hm) (looks_findIn X hi) hb (.inr ⟨rfl,rfl⟩) h
end
def jH(f:Str)(v:V):List (Str×V)->List (Str×V)
 | []=>[(f,v)]
 | (g,x)::r=>if g=f then (g,v)::r else (g,x)::jH f v r
theorem qI(f g:Str)(v:V):∀ fs:List (Str×V),(jH f v fs).lookup g=if g=f then some v else fs.lookup g
 | []=>by
  show List.lookup g [(f,v)]=_
  by_cases h:g=f
  ·have hb:(g == f)=true:=beq_iff_eq.mpr h
   simp only [List.lookup,hb,if_pos h]
  ·have hb:(g == f)=false:=beq_eq_false_iff_ne.mpr h
   simp only [List.lookup,hb,if_neg h]
 | (k,x)::r=>by
  have ih:=qI f g v r
  rw [show jH f v ((k,x)::r)=(if k=f then (k,v)::r else (k,x)::jH f v r) from rfl]
  by_cases hk:k=f
  ·rw [if_pos hk]
   by_cases h:g=k
   ·have hb:(g == k)=true:=beq_iff_eq.mpr h
    simp only [List.lookup,hb,if_pos (h.trans hk)]
   ·have hb:(g == k)=false:=beq_eq_false_iff_ne.mpr h
    simp only [List.lookup,hb,if_neg (fun e:g=f=>h (e.trans hk.symm))]
  ·rw [if_neg hk]
   by_cases h:g=k
   ·have hb:(g == k)=true:=beq_iff_eq.mpr h
    simp only [List.lookup,hb,if_neg (fun e:g=f=>hk (h.symm.trans e))]
   ·have hb:(g == k)=false:=beq_eq_false_iff_ne.mpr h
    simp only [List.lookup,hb]
    exact ih
theorem pe(f:Str)(v:V):∀ fs:List (Str×V),f∈(jH f v fs).map (·.1)/\∀ g,g∈fs.map (·.1)->g∈(jH f v fs).map (·.1)
 | []=>⟨by simp [jH],fun g h=>by simp at h⟩
 | (k,x)::r=>by
  obtain ⟨i1,i2⟩:=pe f v r
  rw [show jH f v ((k,x)::r)=(if k=f then (k,v)::r else (k,x)::jH f v r) from rfl]
  by_cases hk:k=f
  ·rw [if_pos hk]
   subst hk
   exact⟨by simp,fun g h=>by simpa using h⟩
  ·rw [if_neg hk]
   refine⟨?_,fun g h=>?_⟩
   ·rw [map_cons]
    exact aa8 _ i1
   ·rw [map_cons] at h ⊢
    rcases aa9.mp h with e|e
    ·exact aa9.mpr (.inl e)
    ·exact aa8 _ (i2 g e)
theorem qJ(f:Str)(v:V):∀ fs:List (Str×V),(jH f v fs).length<=fs.length+1
 | []=>by simp [jH]
 | (k,x)::r=>by
  have ih:=qJ f v r
  rw [show jH f v ((k,x)::r)=(if k=f then (k,v)::r else (k,x)::jH f v r) from rfl]
  by_cases hk:k=f
  ·rw [if_pos hk,length_cons,length_cons];lia
  ·rw [if_neg hk,length_cons,length_cons];lia
theorem uZ.some_of{v:V}{o:Option Value}(r:uZ (some v) o):∃ u,o=some u/\RelV v u:=by
 cases o with
 | none=>exact (show False from r).elim
 | some u=>exact⟨u,rfl,r⟩
theorem uZ.none_of{o:Option Value}(r:uZ none o):o=none:=by
 cases o with
 | none=>rfl
 | some u=>exact (show False from r).elim
theorem DZ{v:V}{u:Value}(r:RelV v u):handedIn u=true:=by
 cases v with
 | dz=>cases (show u=Value.none from r);rfl
 | bl b=>cases (show u=Value.bool b from r);rfl
 | int i=>obtain ⟨t,e⟩:=(show ∃ t,u=Value.int i t from r);cases e;rfl
 | str x=>obtain ⟨t,e⟩:=(show ∃ t,u=Value.str x t from r);cases e;rfl
 | FI b=>obtain ⟨t,e⟩:=(show ∃ t,u=Value.bytes b t from r);cases e;rfl
 | Nv b=>obtain ⟨t,e⟩:=(show ∃ t,u=Value.float b t from r);cases e;rfl
 | ref a=>cases (show u=Value.ref a from r);rfl
 | ty n=>cases (show u=Value.type n from r);rfl
section
variable {P:Program}{w:World}{H H':Hp}{h h':Heap}{a C dx:Addr}{fs fs':List (Str×V)}
theorem rP(bc:gW P w H h)(e:H a=some (.ins C dx fs)):∃ mA,Bm h a dx C mA/\(∀ f,uZ (fs.lookup f) (mA f))/\PySem.Within mA (fs.map (·.1))/\fs.length<=1000/\H dx=some (.own a):=by
 obtain ⟨d,z,ne,ob,mA,n,r,q⟩:=(show d3 P w H h a (.ins C dx fs) from bc a _ e)
 exact⟨mA,⟨ob,n,ne⟩,r,q,z,d⟩
end
structure yZ(K:Frag)(C:Addr):Prop where
 pg:plainGet K C Str.empty=true
 hd:hasDictIn K C=true
 po:plainOver K C=true
 sa:findIn K (.ref C) "__setattr__"=some (some (.builtin "object.__setattr__"))
theorem yZ.get{K:Frag}{C:Addr}(c:yZ K C)(f:Str):plainGet K C f=true:=c.pg
def eV(K:Frag)(C:Addr)(f:Str):Prop:=findIn K (.ref C) f=some none
theorem eV.RW{K:Frag}{C:Addr}{f:Str}(n:eV K C f):takerIn K C f=some none:=by
 unfold takerIn
 rw [show findIn K (.ref C) f=some none from n]
 rfl
structure Meth(K:Frag)(C:Addr)(m:Str)(f:Addr):Prop where
 at_:findIn K (.ref C) m=some (some (.ref f))
 fn:isFn K (.ref f)=true
 kp:keepIn K (.ref f)=true
section
variable {X:Cx}{pins:List (Addr×Obj)}{σ:St}{H:Hp}{s:Shared}{a C dx:Addr}{fs:List (Str×V)}{f:Str}{v:V}{A:Around}{E:Value->Shared->Prop}
theorem Bo{b:Bool}{Q:Value->Shared->Prop}(I:Inv X pins σ H s)(e:H a=some (.ins C dx fs))(c:yZ X.K C)(n:eV X.K C f)(l:fs.lookup f=some v)
  (h:∀ u s',Inv X pins σ H s'->RelV v u->Q u s'):wpAny (model X.prog X.w) A (getAttr (.ref a) f b) Q E s:=by
 obtain ⟨mA,O,r,_,_,_⟩:=rP I.bc e
 obtain ⟨u,hu,ru⟩:=uZ.some_of (v:=v) (o:=mA f) (by rw [<- l];exact r f)
 exact get_map I.kC O (c.get f) c.hd n hu (DZ ru) (h u _ (I.tok _) ru)
theorem Bp{m:Str}{g:Addr}{pl:Sem Bool}{Q:Value×List Value->Shared->Prop}(I:Inv X pins σ H s)(e:H a=some (.ins C dx fs))(c:yZ X.K C)(k:Meth X.K C m g)(l:fs.lookup m=none)
  (h:Q (.ref g,[.ref a]) s):wpAny (model X.prog X.w) A (getMethod (.ref a) m pl) Q E s:=by
 obtain ⟨mA,O,r,_,_,_⟩:=rP I.bc e
 have hn:mA m=none:=uZ.none_of (by rw [<- l];exact r m)
 exact Gd I.kC O (c.get m) k.at_ k.fn hn h
theorem Bq{y:V}{u:Value}{Q:Unit->Shared->Prop}(I:Inv X pins σ H s)(e:H a=some (.ins C dx fs))(c:yZ X.K C)(n:eV X.K C f)(hl:fs.length<1000)(ry:RelV y u)
  (h:∀ s',Inv X pins σ (upd H a (.ins C dx (jH f y fs))) s'->Q () s'):wpAny (model X.prog X.w) A (setAttr (.ref a) f u) Q E s:=by
 obtain ⟨mA,O,r,wi,_,ho⟩:=rP I.bc e
 have hz:(fs.map (·.1)).length<=sizeLine:=by rw [aa5,sizeLine_eq];lia
 refine J5 I.kC O c.sa c.po n.RW c.hd wi hz fun h' O' sb=>h _ ?_
 have hd:∃ o,h'.get? dx=some o:=let ⟨o,_,_,e',_⟩:=O'.ns;⟨o,e'⟩
 refine I.write (x:=a) (e:=dx) (by rw [e];exact True.intro) (.inr ho) (fun b q hb z=>(sb.2 b hb).trans z) hd ?_
 refine⟨by rw [ax O.ne];exact ho,?_,O.ne,O'.obj,_,O'.ns,fun g=>?_,fun g hg=>?_⟩
 ·have:=qJ f y fs;lia
 ·show uZ ((jH f y fs).lookup g) (if g=f then some u else mA g)
  rw [qI]
  by_cases q:g=f
  ·rw [if_pos q,if_pos q];exact ry
  ·rw [if_neg q,if_neg q];exact r g
 ·by_cases q:g=f
  ·rw [q];exact (pe f y fs).1
  ·refine (pe f y fs).2 g (wi g fun z=>hg ?_)
   show (if g=f then some u else mA g)=none
   rw [if_neg q];exact z
theorem Inv.made(I:Inv X pins σ H s):Inv X pins σ (upd (upd H s.heap.objs.size (.own (s.heap.objs.size+1))) (s.heap.objs.size+1) (.ins C s.heap.objs.size []))
  { s with heap:=(s.heap.push emptyDict).push (instObj C s.heap.objs.size) }:=by
 have e1:(s.heap.push emptyDict).get? s.heap.objs.size=some emptyDict:=aaK s.heap rfl
 have e2:((s.heap.push emptyDict).push (instObj C s.heap.objs.size)).get? (s.heap.objs.size+1)=some (instObj C s.heap.objs.size):=by
  have:=aaK (s.heap.push emptyDict) (o:=instObj C s.heap.objs.size) rfl
  rwa [Heap.size_push] at this
 have e3:(s.heap.push emptyDict).Ns s.heap.objs.size (fun _=>none):=⟨emptyDict,#[],_,e1,rfl,(fun e he=>absurd he (by simp)),fun _=>rfl⟩
 have I1:=I.laid (a:=s.heap.objs.size) (o:=.own (s.heap.objs.size+1)) (h':=s.heap.push emptyDict) (t':=s.toks) (fun b u q=>aaG _ q) (aaM _) ⟨_,e1⟩
 refine I1.laid (a:=s.heap.objs.size+1) (o:=.ins C s.heap.objs.size []) (t':=s.toks) (fun b u q=>aaG _ q) (le_of_eq (Heap.size_push _ _)) ?_
 have ne:s.heap.objs.size≠s.heap.objs.size+1:=abw (lt_succ_self _)
 refine⟨by rw [ax ne,av],abv _,ne,e2,fun _=>none,(Heap.Ns1.of_empty e3).at fun o q=>aaG _ q,fun _=>True.intro,fun y hy=>absurd rfl hy⟩
theorem J6{prog:Program}{w:World}{env:Env}{e:Expr}{f:Str}{pos:Pos}{s:Shared}{Q:Value->Shared->Prop}(hb:attributeBase e f env (eval e env)=eval e env)
  (h:wpAny (model prog w) A (eval e env) (fun o s₁=>wpAny (model prog w) A (getAttr o f true) Q E s₁) E s):wpAny (model prog w) A (eval (.Attribute e f pos) env) Q E s :=
 Attribute_any_ h (by rw [arm_eval_Attribute,hb])
end
def NO(K:Frag)(ta:TE)(f:Str):TE:=fun σ H Q=>ta σ H fun x H1=>∃ a C dx fs v,x=.ref a/\H1 a=some (.ins C dx fs)/\yZ K C/\eV K C f/\fs.lookup f=some v/\Q v H1
def NP(K:Frag)(ta tv:TE)(f:Str):TS:=fun D σ H=>tv σ H fun y H1=>ta σ H1 fun x H2=>∃ a C dx fs,x=.ref a/\H2 a=some (.ins C dx fs)/\yZ K C/\eV K C f/\fs.length<1000 /\
 D.nx σ (upd H2 a (.ins C dx (jH f y fs)))
section
variable {X:Cx}{o e value:Expr}{f:Str}{pos pos' rf:Pos}{ta tv:TE}
theorem NQ(he:PE X e ta)(hb:attributeBase e f X.env (eval e X.env)=eval e X.env):PE X (.Attribute e f pos) (NO X.K ta f):=by
 intro pins s σ H Q I h
 refine J6 hb (c6 (he pins s σ H _ I h) fun u s1 ⟨x,H1,I1,rx,a,C,dx,fs,v,ex,ea,c,n,l,q⟩=>?_)
 subst ex
 obtain rfl:u=Value.ref a:=rx
 exact Bo I1 ea c n l fun u' s2 I2 ru=>⟨v,H1,I2,ru,q⟩
theorem NR(ha:PE X o ta)(hv:PE X value tv)(hs:swapsWith value (some (.Attribute o f pos')) pos.line X.env=pure false):PS X (.Assign [.Attribute o f pos'] value pos) (NP X.K ta tv f):=by
 intro pins s σ H D I h
 refine plainObj_wpAny_Assign_Attribute (c6 (hv pins s σ H _ I h) fun u s1 ⟨y,H1,I1,ry,q⟩=>c6 (ha pins s1 σ H1 _ I1 q) fun ov s2 ⟨x,H2,I2,rx,a,C,dx,fs,ex,ea,c,n,l,q2⟩=>?_) hs
 subst ex
 obtain rfl:ov=Value.ref a:=rx
 exact Bq I2 ea c n l ry fun s3 I3=>⟨σ,_,I3,q2⟩
end
section
variable {X:Cx}{pins:List (Addr×Obj)}{σ:St}{H:Hp}{s:Shared}{A:Around}{E:Value->Shared->Prop}{Q:Value->Shared->Prop}{c:Value}{b:Bool}
inductive pf(K:Frag)(H:Hp):V->Value->Prop where
 | dz:pf K H .dz (.type "NoneType")
 | bl (x:Bool):pf K H (.bl x) (.type "bool")
 | int (i:Int):pf K H (.int i) (.type "int")
 | str (x:Str):pf K H (.str x) (.type "str")
 | Nv (x:UInt64):pf K H (.Nv x) (.type "float")
 | lst {a:Addr} {xs:List V} (e:H a=some (.lst xs)):pf K H (.ref a) (.type "list")
 | xa {a:Addr} {o:Obj} {xs:List V} (e:H a=some (.xa o (.lst xs))):pf K H (.ref a) (.type "list")
 | tup {a:Addr} {xs:List V} (e:H a=some (.tup xs)):pf K H (.ref a) (.type "tuple")
 | dK {a:Addr} {oX:List (Key×V)} (e:H a=some (.dK oX)):pf K H (.ref a) (.type "dict")
 | dT {a:Addr} {oX:List (List Key×V)} (e:H a=some (.dT oX)):pf K H (.ref a) (.type "dict")
 | ins {a C dx:Addr} {fs:List (Str×V)} (e:H a=some (.ins C dx fs)) (cl:yZ K C) (ha:findIn K (.ref C) "__class__"=some (some (.builtin "object.__class__")))
   (hn:specialIn K (.builtin "object.__class__") "__get__"=some (some (.builtin "getset_descriptor.__get__"))) (htk:takesIn K (.builtin "object.__class__")=some true)
   (hm:mroIn K C (.type "object")=some true):pf K H (.ref a) (.ref C)
theorem D0{x:V}{u t:Value}(I:Inv X pins σ H s)(rx:RelV x u)(ty:pf X.K H x t)(e:kitOne X.K t c=some b)(h:∀ tk,Q (.bool b) { s with toks:=tk }) :
  wpAny (model X.prog X.w) A (call (.builtin "isinstance") [u,c]) Q E s:=by
 cases ty with
 | dz=>cases (show u=Value.none from rx);exact kia_one PySem.W.kitx_none I.kC True.intro e (fun z=>nomatch z) h
 | bl y=>cases (show u=Value.bool y from rx);exact kia_one PySem.W.kitx_bool I.kC True.intro e (fun z=>nomatch z) h
 | int i=>obtain ⟨t,q⟩:=(show ∃ t,u=Value.int i t from rx);cases q;exact kia_one PySem.W.kitx_int I.kC True.intro e (fun z=>nomatch z) h
 | str y=>obtain ⟨t,q⟩:=(show ∃ t,u=Value.str y t from rx);cases q;exact kia_one PySem.W.kitx_str I.kC True.intro e (fun z=>nomatch z) h
 | Nv y=>obtain ⟨t,q⟩:=(show ∃ t,u=Value.float y t from rx);cases q;exact kia_one PySem.W.kitx_float I.kC True.intro e (fun z=>nomatch z) h
 | @lst a xs ea =>
  cases (show u=Value.ref a from rx)
  obtain ⟨_,_,n,_,h1⟩:=(show d3 X.prog X.w H s.heap a (.lst xs) from I.bc a _ ea)
  exact kia_one kitx_list I.kC ⟨_,h1,rfl⟩ e (fun z=>nomatch z) h
 | @xa a ob xs ea =>
  cases (show u=Value.ref a from rx)
  obtain ⟨_,_,_,n,_,h1⟩:=(show d3 X.prog X.w H s.heap a (.xa ob (.lst xs)) from I.bc a _ ea)
  exact kia_one kitx_list I.kC ⟨_,h1,rfl⟩ e (fun z=>nomatch z) h
 | @tup a xs ea =>
  cases (show u=Value.ref a from rx)
  obtain ⟨_,_,_,p⟩:=(show d3 X.prog X.w H s.heap a (.tup xs) from I.bc a _ ea)
  obtain ⟨o,h1,h2,_⟩:=p
  exact kia_one kitx_tuple I.kC ⟨o,h1,h2⟩ e (fun z=>nomatch z) h
 | @dK a oX ea =>
  cases (show u=Value.ref a from rx)
  obtain ⟨_,_,vs,_,p⟩:=(show d3 X.prog X.w H s.heap a (.dK oX) from I.bc a _ ea)
  obtain ⟨o,es,ep,h1,h2,_⟩:=p
  exact kia_one kitx_dict I.kC ⟨o,h1,h2.1⟩ e (fun z=>nomatch z) h
 | @dT a oX ea =>
  cases (show u=Value.ref a from rx)
  obtain ⟨_,_,xs,_,o,es,ep,h1,h2,_⟩:=(show d3 X.prog X.w H s.heap a (.dT oX) from I.bc a _ ea)
  exact kia_one kitx_dict I.kC ⟨o,h1,h2.1⟩ e (fun z=>nomatch z) h
 | @ins a C dx fs ea cl ha hn htk hm =>
  cases (show u=Value.ref a from rx)
  obtain ⟨mA,O,_⟩:=rP I.bc ea
  obtain ⟨od,J,_⟩:=O.look
  exact kia_one (PySem.W.kitx_own (cl.get _) cl.hd ha hn htk hm) I.kC J e (fun z=>nomatch z) h
end
structure c9(k:Nat)(A:Around):Prop where
 hd:A.handled=none
 dp:A.depth+3*k+5<recursionLimit
 un:A.units+16*k+200<cLine
theorem c9.mono{j k:Nat}{A:Around}(r:c9 k A)(h:j<=k):c9 j A:=⟨r.hd,by have:=r.dp;lia,by have:=r.un;lia⟩
theorem c9.deeper{k:Nat}{A:Around}(r:c9 (k+1) A)(env:Env):c9 k (A.deeper env) :=
 ⟨r.hd,by have:=r.dp;show A.depth+1+3*k+5<_;lia,by have:=r.un;show A.units+3+16*k+200<_;lia⟩
theorem c9.in1{k:Nat}{A:Around}(r:c9 (k+1) A):c9 k A.in1 :=
 ⟨r.hd,by have:=r.dp;show A.depth+3*k+5<_;lia,by have:=r.un;show A.units+1+16*k+200<_;lia⟩
theorem Br {A:Around} {C:Addr} {us:List Value} {kw:List (Str×Value)}:(A.under (.builtin "type.__call__" ⟨.ref C::us,kw⟩)).depth=A.depth+1:=by
 first|rfl|simp [Around.under,Code.weight,Code.isCreation,Code.isGuard,Code.isCaller,Code.frames,Code.isFrame,guardIds]
theorem Bs {A:Around} {C:Addr} {us:List Value} {kw:List (Str×Value)}:(A.under (.builtin "type.__call__" ⟨.ref C::us,kw⟩)).units=A.units+1:=by
 first|rfl|simp [Around.under,Code.cUnits,Code.frames,Code.isFrame]
theorem c9.make {k:Nat} {A:Around} (r:c9 (k+1) A) (C:Addr) (us:List Value) (kw:List (Str×Value)):c9 k (A.under (.builtin "type.__call__" ⟨.ref C::us,kw⟩)) :=
 ⟨r.hd,by have:=r.dp;rw [Br];lia,by have:=r.un;rw [Bs];lia⟩
theorem c9.depth{k:Nat}{A:Around}(r:c9 k A):A.depth<recursionLimit:=by have:=r.dp;lia
theorem c9.units{k:Nat}{A:Around}(r:c9 k A):A.units+64<cLine:=by have:=r.un;lia
def zk:TA:=fun _ H Q=>Q [] H
def qK(ta:TE)(tr:TA):TA:=fun σ H Q=>ta σ H fun x H1=>tr σ H1 fun xs H2=>Q (x::xs) H2
section
variable {X:Cx}{e:Expr}{es:List Expr}{te:TE}{t:TA}{pos:Pos}
theorem af:PA X [] zk:=fun _ _ _ _ H Q I h=>Calls.spliced_nil ⟨[],H,I,.nil,h⟩
theorem aa(ha:PE X e te)(hr:PA X es t)(hs:starEach (e::es) X.env=(false,eval e X.env)::starEach es X.env:=by rfl):PA X (e::es) (qK te t):=by
 intro pos pins s σ H Q I h
 rw [hs]
 show wpAny _ _ (spliced ((false,eval e X.env)::backTo pos (starEach es X.env))) _ _ s
 refine Calls.spliced_cons (c6 (ha pins s σ H _ I h) fun u s1 ⟨x,H1,I1,r1,q1⟩=>?_)
 exact c6 (hr pos pins s1 σ H1 _ I1 q1) fun us s2 ⟨xs,H2,I2,r2,q2⟩=>⟨x::xs,H2,I2,.cons r1 r2,q2⟩
def RX(t:TA):TE:=fun σ H Q=>t σ H fun xs H1=>xs.length<=sizeLine/\∀ p,H1 p=none->Q (.ref p) (upd H1 p (.tup xs))
def J7(t:TA):TE:=fun σ H Q=>t σ H fun xs H1=>xs.length<=sizeLine/\∀ p,H1 p=none->Q (.ref p) (upd H1 p (.lst xs))
theorem aQ{x1}(h:PA X es t):PE X (.Tuple es x1 pos) (RX t):=by
 intro pins s σ H Q I hq
 refine wpAny_Tuple_spliced (c6 (h pos pins s σ H _ I hq) fun us s1 ⟨xs,H1,I1,r,z,q⟩=>⟨by rw [<- r.length];exact z,?_⟩)
 have hf:H1 s1.heap.objs.size=none:=I1.bc.fresh (aaM _)
 refine⟨.ref s1.heap.objs.size,upd H1 s1.heap.objs.size (.tup xs),I1.laid (t':=s1.toks) (fun b u e=>aaG _ e) (aaM _) ?_,rfl,q _ hf⟩
 exact⟨z,us,r,⟨_,aaK _ rfl,rfl,_,rfl⟩⟩
theorem bG(h:PA X es t):PE X (.List es pos) (J7 t):=by
 intro pins s σ H Q I hq
 refine wpAny_List_spliced (c6 (h pos pins s σ H _ I hq) fun us s1 ⟨xs,H1,I1,r,z,q⟩=>⟨by rw [<- r.length];exact z,?_⟩)
 have hf:H1 s1.heap.objs.size=none:=I1.bc.fresh (aaM _)
 refine⟨.ref s1.heap.objs.size,upd H1 s1.heap.objs.size (.lst xs),I1.laid (t':=s1.toks) (fun b u e=>aaG _ e) (aaM _) ?_,rfl,q _ hf⟩
 exact⟨z,us,0,r,aaK _ rfl⟩
end
abbrev Sp:=List V->Hp->VK->XK->Prop
abbrev Gf:=List Env->Hp->Shared->XK->Value->Shared->Prop
structure zl(P:Program)(w:World)(K:Frag)(mg:Str->Option Value)(base:Heap)(A:Around)(outer:List Env)(s:Shared)(H:Hp):Prop where
 frames:A.frames=some outer
 mod:Mod K mg base
 bs:∀ b o,base.get? b=some o->s.heap.get? b=some o/\H b=none
 Bf:base.objs.size<=s.heap.objs.size
 nu:s.heap.FunFrames base outer
 Mj:∀ b∈Be outer,H b=none
 bc:gW P w H s.heap
 bare:AllBare s.gens
def CE(outer:List Env)(P:Program)(w:World)(H:Hp)(s:Shared)(Q:VK)(u:Value)(s':Shared):Prop :=
 ∃ v H',s'.os=s.os/\AllBare s'.gens/\Un (Be outer) [] H H' s.heap s'.heap/\gW P w H' s'.heap/\RelV v u/\Q v H'
def CR(CX:Gf)(outer:List Env)(P:Program)(w:World)(H:Hp)(s:Shared)(Q:VK)(E:XK)(r:Result)(s':Shared):Prop :=
 match r with
 | .ok (.ret u)=>CE outer P w H s Q u s'
 | .ok _=>False
 | .error e=>CX outer H s E e s'
structure nC(P:Program)(w:World)(K:Frag)(mg:Str->Option Value)(base:Heap)(CX:Gf)(k:Nat)(f:Addr)(fd:FuncData)(ps:List Str)(sp:Sp):Prop where
 len:∀ vs H Q E,sp vs H Q E->vs.length=ps.length
 run:∀ (A:Around) (outer:List Env) (s:Shared) (H:Hp) (args:Args) (us:List Value) (vs:List V) (Q:VK) (E:XK),c9 k A->zl P w K mg base A outer s H->BindsTo s fd args (ps.zip us)->Vals vs us->sp vs H Q E ->
  codeAny (model P w) A (.call (.ref f) args) (CR CX outer P w H s Q E) s
theorem zl.make{P:Program}{w:World}{K:Frag}{mg:Str->Option Value}{base:Heap}{A:Around}{outer:List Env}{s:Shared}{H:Hp}(e:zl P w K mg base A outer s H)(C:Addr)(us:List Value)(kw:List (Str×Value)) :
  zl P w K mg base (A.under (.builtin "type.__call__" ⟨.ref C::us,kw⟩)) outer s H:=⟨by first|exact e.frames|(simpa [Around.under,Code.envs,Code.isFrame,pushEnvs] using e.frames),e.mod,e.bs,e.Bf,e.nu,e.Mj,e.bc,e.bare⟩
section
variable {X:Cx}{pins:List (Addr×Obj)}{σ:St}{H:Hp}{s s':Shared}
theorem Inv.NS(I:Inv X pins σ H s):zl X.prog X.w X.K X.mg X.base X.A X.stack s H :=
 ⟨I.ok.frames,I.ok.mod,I.bs,aaL I.ok.Bf I.sz,I.stack,I.kD,I.bc,I.bare⟩
theorem Inv.after{Q:VK}{u:Value}(I:Inv X pins σ H s)(h:CE X.stack X.prog X.w H s Q u s'):EP X pins σ Q u s':=by
 obtain ⟨v,H',os,bare,un,bc,r,q⟩:=h
 obtain ⟨hh,g,d,t,os'⟩:=s'
 obtain rfl:os'=s.os:=os
 exact⟨v,H',I.call (h':=hh) (g':=g) (d':=d) (t':=t) (ch:=[]) un bc bare (fun b z=>absurd z (by simp)),r,q⟩
end
def zm(sp:Sp)(xg:List V)(E:XK)(t:TA):TE:=fun σ H Q=>t σ H fun vs H1=>sp (vs++xg) H1 Q E
def sU(C:Addr)(m:Str)(sp:Sp)(xg:List V)(E:XK)(ta:TE)(t:TA):TE:=fun σ H Q=>ta σ H fun x H1=>∃ a dx fs,x=.ref a/\H1 a=some (.ins C dx fs)/\fs.lookup m=none /\
 t σ H1 fun vs H2=>sp (x::(vs++xg)) H2 Q E
def Gg(C:Addr)(sp:Sp)(xg:List V)(E:XK)(t:TA):TE:=fun σ H Q=>t σ H fun vs H1=>∀ x dx,H1 x=none->H1 dx=none->dx≠x ->
 sp (.ref x::(vs++xg)) (upd (upd H1 dx (.own x)) x (.ins C dx [])) (fun v H2=>v=.dz/\Q (.ref x) H2) E
def Binds(K:Frag)(fd:FuncData)(ps:List Str)(ds:List Value):Prop :=
 ∀ (s:Shared) (us:List Value),K.In s.heap->(us++ds).length=ps.length->BindsTo s fd ⟨us,[]⟩ (ps.zip (us++ds))
theorem Binds.all{K:Frag}{fd:FuncData}{ps:List Str}(h:∀ us:List Value,us.length=ps.length->bindArgs fd ⟨us,[]⟩=pure (ps.zip us)):Binds K fd ps []:=fun s us _ hl=>by
 rw [append_nil] at hl ⊢
 exact .of_eq (h us hl)
def Passes(CX:Gf)(X:Cx)(E:XK):Prop:=∀ (pins:List (Addr×Obj)) (σ:St) (H:Hp) (s:Shared) (e:Value) (s':Shared),Inv X pins σ H s->CX X.stack H s E e s'->X.xe e s'
section
variable {X:Cx}{CX:Gf}{k:Nat}{f C:Addr}{fd:FuncData}{ps:List Str}{sp:Sp}{xg:List V}{ds:List Value}{E:XK}{x m:Str}{p pos apos:Pos}{e o:Expr}{es:List Expr}{ta:TE}{t:TA}
theorem Bt{pins:List (Addr×Obj)}{σ:St}{H:Hp}{s:Shared}{Q:VK}{us:List Value}{vs:List V}(F:nC X.prog X.w X.K X.mg X.base CX k f fd ps sp)(hr:c9 k X.A)(hb:Binds X.K fd ps ds)(hd:Vals xg ds)(hx:Passes CX X E)
  (I:Inv X pins σ H s) (r:Vals vs us) (h:sp (vs++xg) H Q E):wpAny (model X.prog X.w) X.A (call (.ref f) us) (EP X pins σ Q) X.xe s:=by
 have r2:Vals (vs++xg) (us++ds):=r.append hd
 have hl:(us++ds).length=ps.length:=by rw [<- r2.length];exact F.len _ _ _ _ h
 refine wpAny_call (codeAny_mono (F.run X.A X.stack s H ⟨us,[]⟩ (us++ds) (vs++xg) Q E hr I.NS (hb s us I.kC hl) r2 h) fun r s' hq=>?_)
 cases r with
 | error e=>exact hx pins σ H s e s' I hq
 | ok fl =>
  cases fl with
  | ret u=>exact I.after hq
  | next=>exact False.elim hq
  | brk=>exact False.elim hq
  | cont=>exact False.elim hq
theorem J8(F:nC X.prog X.w X.K X.mg X.base CX k f fd ps sp)(hr:c9 k X.A)(hg:Gl X x)(hm:X.mg x=some (.ref f))(hk:keepIn X.K (.ref f)=true)(hb:Binds X.K fd ps ds)(hd:Vals xg ds)(hx:Passes CX X E)
  (ha:PA X (e::es) t) (u7:(x == ("__debug__":Str))=false:=by decide) (he:starEach (e::es) X.env=(false,eval e X.env)::starEach es X.env:=by rfl) (qL:(backTo pos (starEach es X.env)).any (·.1)=false:=by rfl) :
  PE X (.Call (.Name x p) (e::es) [] pos) (zm sp xg E t):=by
 intro pins s σ H Q I h
 refine wpAny_Call_Name_kw (kE I hg hm ?_ u7)
 refine callWith_K (h₀:=X.base) I.ok.mod.Nx hk (c6 (ha pos pins s σ H _ I h) fun us s1 ⟨vs,H1,I1,r,q⟩=>⟨I1.kC,?_⟩) he qL
 exact Bt F hr hb hd hx I1 r q
theorem J9{pl:Sem Bool}(he:PE X o ta)(c:yZ X.K C)(hm:Meth X.K C m f)(F:nC X.prog X.w X.K X.mg X.base CX k f fd ps sp)(hr:c9 k X.A)(hb:Binds X.K fd ps ds)(hd:Vals xg ds)(hx:Passes CX X E)(ha:PA X (e::es) t)
  (lO:starEach (e::es) X.env=(false,eval e X.env)::starEach es X.env:=by rfl) (qL:(backTo pos (starEach es X.env)).any (·.1)=false:=by rfl)
  (ht:eval (.Call (.Attribute o m apos) (e::es) [] pos) X.env=(do
   let ov <- eval o X.env
   standAt apos.atName
   let (f,first) <- holding [ov] (getMethod ov m pl)
   callWith pos f first (backTo pos (starEach (e::es) X.env)) (backToKw pos (keywordEach [] X.env))):=by rfl) :
  PE X (.Call (.Attribute o m apos) (e::es) [] pos) (sU C m sp xg E ta t):=by
 intro pins s σ H Q I h
 refine methodCall_KW (pl:=pl) (c6 (he pins s σ H _ I h) fun u s1 ⟨x,H1,I1,rx,a,dx,fs,ex,ea,l,q⟩=>?_) ht
 subst ex
 obtain rfl:u=Value.ref a:=rx
 refine Bp I1 ea c hm l ?_
 refine callWith_K (first:=[.ref a]) (h₀:=X.base) I.ok.mod.Nx hm.kp (c6 (ha pos pins s1 σ H1 _ I1 q) fun us s2 ⟨vs,H2,I2,r,q2⟩=>⟨I2.kC,?_⟩) lO qL
 exact Bt (us:=.ref a::us) (vs:=.ref a::vs) F hr hb hd hx I2 (.cons rfl r) q2
structure Mk(K:Frag)(C f:Addr):Prop where
 makes:makesIn K C=true
 init:findIn K (.ref C) "__init__"=some (some (.ref f))
 fn:isFn K (.ref f)=true
 kp:keepIn K (.ref C)=true
theorem Gh{pins:List (Addr×Obj)}{σ:St}{H:Hp}{s:Shared}{Q:VK}{us:List Value}{vs:List V}(M:Mk X.K C f)(F:nC X.prog X.w X.K X.mg X.base CX k f fd ps sp)(hr:c9 (k+1) X.A)(hb:Binds X.K fd ps ds)(hd:Vals xg ds)
  (hx:Passes CX X E) (I:Inv X pins σ H s) (r:Vals vs us)
  (h:∀ x dx,H x=none->H dx=none->dx≠x->sp (.ref x::(vs++xg)) (upd (upd H dx (.own x)) x (.ins C dx [])) (fun v H2=>v=.dz/\Q (.ref x) H2) E) :
  wpAny (model X.prog X.w) X.A (call (.ref C) us) (EP X pins σ Q) X.xe s:=by
 have hq:=h (s.heap.objs.size+1) s.heap.objs.size (I.bc.fresh (le_succ _)) (I.bc.fresh (aaM _)) (abw (lt_succ_self _))
 have I2:=Inv.made (C:=C) I
 have r2:Vals (V.ref (s.heap.objs.size+1)::(vs++xg)) (Value.ref (s.heap.objs.size+1)::(us++ds)):=.cons rfl (r.append hd)
 have hl:(Value.ref (s.heap.objs.size+1)::us++ds).length=ps.length:=by
  have e:=r2.length
  rw [F.len _ _ _ _ hq] at e
  exact e.symm
 refine wpAny_call (Ge (f:=f) I.kC M.makes M.init (beq_iff_eq.mp M.fn) (codeAny_mono (F.run _ X.stack _ _ ⟨Value.ref (s.heap.objs.size+1)::us,[]⟩ (Value.ref (s.heap.objs.size+1)::(us++ds)) _ _ E (hr.make C us [])
  (I2.NS.make C us []) (hb _ (Value.ref (s.heap.objs.size+1)::us) I2.kC hl) r2 hq) fun r s' FK=>?_))
 cases r with
 | error e=>exact hx pins σ _ _ e s' I2 FK
 | ok fl =>
  cases fl with
  | ret u =>
   obtain ⟨v,H',I3,rv,ev,q3⟩:=I2.after FK
   subst ev
   exact⟨rv,⟨V.ref (s.heap.objs.size+1),H',I3,rfl,q3⟩⟩
  | next=>exact False.elim FK
  | brk=>exact False.elim FK
  | cont=>exact False.elim FK
theorem Ka(M:Mk X.K C f)(F:nC X.prog X.w X.K X.mg X.base CX k f fd ps sp)(hr:c9 (k+1) X.A)(hg:Gl X x)(hm:X.mg x=some (.ref C))(hb:Binds X.K fd ps ds)(hd:Vals xg ds)(hx:Passes CX X E)
  (ha:PA X (e::es) t) (u7:(x == ("__debug__":Str))=false:=by decide) (he:starEach (e::es) X.env=(false,eval e X.env)::starEach es X.env:=by rfl) (qL:(backTo pos (starEach es X.env)).any (·.1)=false:=by rfl) :
  PE X (.Call (.Name x p) (e::es) [] pos) (Gg C sp xg E t):=by
 intro pins s σ H Q I h
 refine wpAny_Call_Name_kw (kE I hg hm ?_ u7)
 refine callWith_K (h₀:=X.base) I.ok.mod.Nx M.kp (c6 (ha pos pins s σ H _ I h) fun us s1 ⟨vs,H1,I1,r,q⟩=>⟨I1.kC,?_⟩) he qL
 exact Gh M F hr hb hd hx I1 r q
end
def PK(X:Cx)(RY:List Keyword)(t:TA):Prop :=
 ∀ (pos:Pos) (pins:List (Addr×Obj)) (s:Shared) (σ:St) (H:Hp) (Q:List V->Hp->Prop),Inv X pins σ H s->t σ H Q->wpAny (model X.prog X.w) X.A (evalAll ((backToKw pos (keywordEach RY X.env)).map (·.2))) (AP X pins σ Q) X.xe s
section
variable {X:Cx}{CX:Gf}{k:Nat}{f C:Addr}{fd:FuncData}{ps ks:List Str}{sp:Sp}{E:XK}{x m:Str}{p pos apos Gi:Pos}{e o:Expr}{es:List Expr}{RY:List Keyword}{te ta:TE}{t tk:TA}{nm:Option Str}
theorem NU:PK X [] zk:=fun _ _ _ _ H Q I h=>wpAny_evalAll_nil ⟨[],H,I,.nil,h⟩
theorem Kb(ha:PE X e te)(hr:PK X RY t):PK X (⟨nm,e,Gi⟩::RY) (qK te t):=by
 intro pos pins s σ H Q I h
 show wpAny _ _ (evalAll ((do let v <- eval e X.env;standAt pos;pure v)::(backToKw pos (keywordEach RY X.env)).map (·.2))) _ _ s
 refine wpAny_evalAll_cons (aaH (c6 (ha pins s σ H _ I h) fun u s1 ⟨x,H1,I1,r1,q1⟩=>aaH (wpAny_standAt (aaV ?_))))
 exact c6 (hr pos pins s1 σ H1 _ I1 q1) fun us s2 ⟨xs,H2,I2,r2,q2⟩=>⟨x::xs,H2,I2,.cons r1 r2,q2⟩
variable {g:List Value->List Value->List Value}{gV:List V->List V->List V}
end
structure aF(N P:List Str)(sc:Scope):Prop where
 kind:sc.kind=.function
 co:sc.isCoroutine=false
 gen:sc.isGenerator=false
 nd:N.Nodup
 pre:N.take P.length=P
 par:∀ x∈P,sc.names.lookup x=some .local\/sc.names.lookup x=some .cell
 NV:∀ y∈sc.names,y.2≠.free
theorem wm{kindOf:Str->Option NameKind}{x:Str}:∀ {binds:List (Str×Value)} {m:Str->Option Value},(∀ v,(x,v)∉binds)->bindL kindOf binds m x=m x
 | [],_,_=>rfl
 | (n,v)::r,m,h=>by
  unfold bindL
  rw [wm fun w hw=>h w (aa8 _ hw)]
  split
  ·have:x≠n:=by rintro rfl;exact h v mem_cons_self
   simp [this]
  ·rfl
theorem wo{kindOf:Str->Option NameKind}{x:Str}:∀ {binds:List (Str×Value)} {m:Str->Option Value},(∀ v,(x,v)∉binds)->bindC kindOf binds m x=m x
 | [],_,_=>rfl
 | (n,v)::r,m,h=>by
  unfold bindC
  rw [wo fun w hw=>h w (aa8 _ hw)]
  split
  ·rfl
  ·have:x≠n:=by rintro rfl;exact h v mem_cons_self
   simp [this]
theorem wt{kindOf:Str->Option NameKind}{x:Str}{v:Value}:∀ {P:List Str} {vs:List Value} {i:Nat} {m:Str->Option Value},P.Nodup->P[i]?=some x->vs[i]?=some v->kindOf x=some .local ->
  bindL kindOf (P.zip vs) m x=some v
 | [],_,_,_,_,h,_,_=>by simp at h
 | _::_,[],_,_,_,_,h,_=>by simp at h
 | p::P,w::vs,0,m,nd,h1,h2,hk=>by
  simp at h1 h2;subst h1;subst h2
  show bindL kindOf ((p,w)::P.zip vs) m p=_
  unfold bindL
  rw [wm fun v hv=>(nodup_cons.mp nd).1 (of_mem_zip hv).1,if_pos hk]
  simp
 | p::P,w::vs,i+1,m,nd,h1,h2,hk=>by
  show bindL kindOf ((p,w)::P.zip vs) m x=_
  unfold bindL
  exact wt (i:=i) (nodup_cons.mp nd).2 (by simpa using h1) (by simpa using h2) hk
theorem wu{kindOf:Str->Option NameKind}{x:Str}{v:Value}:∀ {P:List Str} {vs:List Value} {i:Nat} {m:Str->Option Value},P.Nodup->P[i]?=some x->vs[i]?=some v->kindOf x≠some .local ->
  bindC kindOf (P.zip vs) m x=some v
 | [],_,_,_,_,h,_,_=>by simp at h
 | _::_,[],_,_,_,_,h,_=>by simp at h
 | p::P,w::vs,0,m,nd,h1,h2,hk=>by
  simp at h1 h2;subst h1;subst h2
  show bindC kindOf ((p,w)::P.zip vs) m p=_
  unfold bindC
  rw [wo fun v hv=>(nodup_cons.mp nd).1 (of_mem_zip hv).1,if_neg hk]
  simp
 | p::P,w::vs,i+1,m,nd,h1,h2,hk=>by
  show bindC kindOf ((p,w)::P.zip vs) m x=_
  unfold bindC
  exact wu (i:=i) (nodup_cons.mp nd).2 (by simpa using h1) (by simpa using h2) hk
def start(N:List Str)(vs:List V):St:=vs.map some++List.replicate (N.length - vs.length) none
def xh(CX:Gf)(P:Program)(w:World)(K:Frag)(mg:Str->Option Value)(base:Heap)(N:List Str)(qual:Str)(scope:Scope)(f:Addr)(cd:Value)(A:Around)(outer:List Env)(s:Shared)(H:Hp)(E:XK):Cx where
 prog:=P
 w:=w
 K:=K
 mg:=mg
 base:=base
 A:=A.deeper (envOfC qual scope s.heap.objs.size f cd)
 N:=N
 s₀:=s
 H₀:=H
 env:=envOfC qual scope s.heap.objs.size f cd
 outer:=outer
 stack:=envOfC qual scope s.heap.objs.size f cd::outer
 ex:=[]
 calm:=true
 fn:=fun _=>true
 pn:=[]
 xe:=fun e s'=>wpAny (model P w) (A.deeper (envOfC qual scope s.heap.objs.size f cd)) (leaving (envOfC qual scope s.heap.objs.size f cd) e) (fun _ WN=>CX outer H s E e WN) (fun e' WN=>CX outer H s E e' WN) s'
theorem zo{sc:Scope}{n:Nat}{x:Str}(h:sc.names.lookup x=some .cell):∃ c,(cellsFrom n sc.names []).lookup x=some c:=by
 have q:=cellsFrom_some sc.names n [] (.inl h)
 exact aaU.mp q
theorem D1{CX:Gf}{P:Program}{w:World}{K:Frag}{mg:Str->Option Value}{base:Heap}{N ps:List Str}{qual:Str}{scope:Scope}{f:Addr}{cd:Value}{A:Around}{outer:List Env}{s s1:Shared}{H:Hp}{E:XK}{us:List Value}{vs:List V}
  (S:aF N ps scope) (hd:A.handled=none) (e0:zl P w K mg base A outer s H) (hl:vs.length=ps.length) (r:Vals vs us)
  (x:InCallC s s.heap.objs.size (bindL (envOfC qual scope s.heap.objs.size f cd).kindOf (ps.zip us) fun _=>none) (cellsFrom (s.heap.objs.size+1) scope.names []) (bindC (envOfC qual scope s.heap.objs.size f cd).kindOf (ps.zip us) fun _=>none) s1) :
  Inv (xh CX P w K mg base N qual scope f cd A outer s H E) [] (start N vs) H s1:=by
 have qL:ps.length<=N.length:=by have:=congrArg List.length S.pre;rw [abl] at this;lia
 obtain ⟨h1,tk,rfl,hk⟩:=x.done
 have RZ:∀ b:Addr,b∉(xh CX P w K mg base N qual scope f cd A outer s H E).ex:=fun b z=>absurd (show b∈([]:List Addr) from z) (by simp)
 refine⟨⟨e0.mod,S.kind,rfl,rfl,aaM _,fun y z c h1 h2=>?_,fun y hy=>?_,fun y c _ h=>?_,fun _=>hd,Around.frames_deeper e0.frames,.inr ⟨rfl,rfl⟩,fun b z=>absurd z (RZ b),e0.bs,e0.Bf,fun b _ _=>RZ b,fun b z=>absurd z (RZ b),e0.nu,e0.Mj⟩,
  rfl,e0.bare,Un.kept hk,⟨_,x.toInCall.ns,fun i y v h1 h2 h3=>?_⟩,fun y c h=>⟨_,x.cell y c h⟩,e0.bc.fresh (aaM _),fun y c h=>?_,fun p hp=>absurd (show p∈([]:List (Addr×Obj)) from hp) (by simp),e0.bc.kept hk,?_⟩
 ·exact name_of_addr x.apart (PySem.mem_of_lookup h1) (PySem.mem_of_lookup h2)
 ·have hy:scope.names.lookup y=some .cell\/scope.names.lookup y=some .free:=hy
  rcases hy with hy|hy
  ·exact zo hy
  ·exact absurd rfl (S.NV _ (PySem.mem_of_lookup hy))
 ·exact aaN (x.above y c (PySem.mem_of_lookup h))
 ·have hi:i<vs.length:=by
   unfold start at h2
   by_cases hi:i<vs.length
   ·exact hi
   ·rw [abh (by simpa using hi)] at h2
    rw [List.getElem?_replicate] at h2
    split at h2 <;> cases h2
  have ha:vs[i]?=some v:=by
   unfold start at h2
   rw [abg (by simpa using hi),abn] at h2
   cases e:vs[i]? with
   | none=>rw [e] at h2;cases h2
   | some a=>rw [e] at h2;cases h2;rfl
  obtain ⟨u,hu,rv⟩:=r.get ha
  have hp:ps[i]?=some y:=by
   rw [<- S.pre,List.getElem?_take_of_lt (by lia)];exact h1
  have ndP:ps.Nodup:=by rw [<- S.pre];exact S.nd.sublist (List.take_sublist _ _)
  refine⟨u,rv,?_⟩
  rcases S.par y (aa4 hp) with k|k
  ·exact .inl ⟨k,wt ndP hp hu k⟩
  ·obtain ⟨c,e⟩:=zo (n:=s.heap.objs.size+1) k
   refine .inr ⟨.inl k,c,e,?_⟩
   have q:=x.cell y c e
   rw [wu ndP hp hu (by show scope.names.lookup y≠_;rw [k];decide)] at q
   exact q
 ·exact e0.bc.fresh (aaN (x.above y c (PySem.mem_of_lookup h)))
 ·unfold start
  show _=N.length
  rw [aa6,aa5,length_replicate]
  lia
theorem Mv{CX:Gf}{P:Program}{w:World}{K:Frag}{mg:Str->Option Value}{base:Heap}{k:Nat}{f:Addr}{name qual:Str}{params:Arguments}{body:List Stmt}{scope:Scope}{dV kV doc pm c7 ct oc:Value}{an od:Option Addr}
  {Gj:Array (Option Value)} {N ps:List Str} {sp:Sp} (lk:K.lookup f=some ⟨oc,od,.func (fnOf name qual params body scope dV kV doc pm an c7 ct),Gj⟩) (xb:codeIn K c7 qual=true) (S:aF N ps scope)
  (len:∀ vs H Q E,sp vs H Q E->vs.length=ps.length)
  (nD:∀ (A:Around) (outer:List Env) (s:Shared) (H:Hp) (vs:List V) (Q:VK) (E:XK),c9 k (A.deeper (envOfC qual scope s.heap.objs.size f c7))->sp vs H Q E ->
   ∃ t,Ba (xh CX P w K mg base N qual scope f c7 A outer s H E) body t/\t { nx:=fun _ H'=>Q .dz H',rt:=Q } (start N vs) H) :
  nC P w K mg base CX (k+1) f (fnOf name qual params body scope dV kV doc pm an c7 ct) ps sp:=by
 refine⟨len,fun A outer s H args us vs Q E hr e0 hb r Mw=>?_⟩
 have hl:=len _ _ _ _ Mw
 have KX:K.In s.heap:=e0.mod.Nx.keeps fun b o e=>(e0.bs b o e).1
 have lim:s.heap.NoLimit:=e0.mod.nolimit.keeps fun b o e=>(e0.bs b o e).1
 have R0:∀ y∈ps.zip us,scope.names.lookup y.1=some .local\/(scope.names.lookup y.1=some .cell/\((cellsFrom (s.heap.objs.size+1) scope.names []).lookup y.1).isSome=true):=fun ⟨n,v⟩ hy=>by
  rcases S.par n (of_mem_zip hy).1 with q|q
  ·exact .inl q
  ·exact .inr ⟨q,cellsFrom_some _ _ _ (.inl q)⟩
 refine codeAny_call_function hr.depth (KX _ _ lk) rfl S.co S.gen rfl (PySem.W.codeRec_of KX xb) (hb _ _ _ _ ?_)
 refine wpAny_newFunctionEnv_cells S.kind R0 fun env he s1 x=>?_
 subst he
 refine⟨lim.keeps x.toInCall.keep,codeAny_func ?_⟩
 obtain ⟨t,ht,hq⟩:=nD A outer s H vs Q E (hr.deeper _) Mw
 have I:Inv (xh CX P w K mg base N qual scope f c7 A outer s H E) [] (start N vs) H s1:=D1 S hr.hd e0 hl r x
 refine aaW (ht [] s1 (start N vs) H _ I hq) (fun fl s' hs=>?_) fun e s' hs=>hs
 have fin:∀ {σ':St} {H':Hp} {v:V} {u:Value},Inv (xh CX P w K mg base N qual scope f c7 A outer s H E) [] σ' H' s'->RelV v u->Q v H'->CE outer P w H s Q u s' :=
  fun {σ' H' v u} J rv q=>⟨v,H',J.os,J.bare,J.base,J.bc,rv,q⟩
 cases fl with
 | ret u =>
  obtain ⟨v,σ',H',J,rv,q⟩:=hs
  exact fin J rv q
 | next =>
  obtain ⟨σ',H',J,q⟩:=hs
  exact fin (v:=V.dz) (u:=Value.none) J rfl q
 | brk =>
  obtain ⟨_,_,_,q⟩:=hs
  exact False.elim q
 | cont =>
  obtain ⟨_,_,_,q⟩:=hs
  exact False.elim q
section
variable {X:Cx}{x:Str}{p pos:Pos}{e:Expr}{es:List Expr}{t:TA}{id T:String}{r:List V->Hp->VK->Prop}
def WO(r:List V->Hp->VK->Prop)(t:TA):TE:=fun σ H Q=>t σ H fun vs H1=>r vs H1 Q
theorem ba (hc:dA X (.builtin id) r) (hg:Gl X x) (hm:X.mg x=none) (hv:bootBuiltins x=some (.builtin id)) (ha:PA X (e::es) t) (hn:x≠"__name__":=by decide) (u7:(x == ("__debug__":Str))=false:=by decide)
  (he:starEach (e::es) X.env=(false,eval e X.env)::starEach es X.env:=by rfl) (qL:(backTo pos (starEach es X.env)).any (·.1)=false:=by rfl):PE X (.Call (.Name x p) (e::es) [] pos) (WO r t):=by
 intro pins s σ H Q I h
 refine wpAny_Call_Name_kw (fv I hg hm hv ?_ hn u7)
 exact PyProof.Rows.callWith_builtin1 (c6 (ha pos pins s σ H _ I h) fun us s1 ⟨vs,H1,I1,r1,q1⟩=>hc pins s1 σ H1 vs us Q I1 r1 q1) he qL
theorem bu (hc:dA X (.type T) r) (hg:Gl X x) (hm:X.mg x=none) (hv:bootBuiltins x=some (.type T)) (ha:PA X (e::es) t) (hn:x≠"__name__":=by decide) (u7:(x == ("__debug__":Str))=false:=by decide)
  (he:starEach (e::es) X.env=(false,eval e X.env)::starEach es X.env:=by rfl) (qL:(backTo pos (starEach es X.env)).any (·.1)=false:=by rfl):PE X (.Call (.Name x p) (e::es) [] pos) (WO r t):=by
 intro pins s σ H Q I h
 refine wpAny_Call_Name_kw (fv I hg hm hv ?_ hn u7)
 exact callWith_type1 (c6 (ha pos pins s σ H _ I h) fun us s1 ⟨vs,H1,I1,r1,q1⟩=>hc pins s1 σ H1 vs us Q I1 r1 q1) he qL
end
end L2
namespace HT
open PySem PyProof.Rows
section
variable {prog:Program}{w:World}{A:Around}{E:Value->Shared->Prop}{s:Shared}
theorem Kc{t b:Addr}{vs ws:List Value}{Q:Value->Shared->Prop}(ht:IsTup s.heap t vs.toArray)(hb:IsTup s.heap b ws.toArray)(hv:vs≠[])
  (h1:ws=[]->Q (.ref t) s) (h2:ws≠[]->Q (.ref s.heap.objs.size) { s with heap:=s.heap.push { cls:=.type "tuple",data:=.seq (vs++ws).toArray } })
  (wj:vs.length+ws.length<=sizeLine):wpAny (model prog w) A (binaryOp .Add (.ref t) (.ref b)) Q E s:=by
 obtain ⟨⟨cls,dd,data,sl⟩,ho,hc,n,hd⟩:=id ht
 obtain ⟨⟨cls2,dd2,data2,sl2⟩,Bu,Ke,n2,hd2⟩:=id hb
 simp only at hc hd Ke hd2
 subst hc hd Ke hd2
 have e:vs.toArray++ws.toArray=(vs++ws).toArray:=by simp
 by_cases hw:ws=[]
 ·exact concat_meets ⟨_,ho,rfl⟩ ⟨_,Bu,rfl⟩ noFill_tuple_add seq_tuple_add PySem.F.slot_tuple_add PySem.F.entry_tuple_add (PySem.F.args_tuple_add_2 _ _)
   (tuple_addW1 t b vs.toArray ws.toArray n n2 dd dd2 sl sl2 (by simpa using hv) (by simp [hw])) ⟨ho,Bu,h1 hw⟩
 ·refine concat_meets ⟨_,ho,rfl⟩ ⟨_,Bu,rfl⟩ noFill_tuple_add seq_tuple_add PySem.F.slot_tuple_add PySem.F.entry_tuple_add (PySem.F.args_tuple_add_2 _ _)
   (tuple_addW2 t b vs.toArray ws.toArray n n2 dd dd2 sl sl2 (by simpa using hv) (by simpa using hw) (by rw [abm,abm];exact wj)) ⟨ho,Bu,?_⟩
  rw [e]
  exact h2 hw
def ei(n d:Nat):Option Int->Nat
 | none=>d
 | some v=>if v<0 then (v+(n:Int)).toNat else min v.toNat n
theorem nF(n d:Nat):ei n d none=d:=rfl
theorem xi(n d k:Nat):ei n d (some (k:Int))=min k n:=by
 show (if (k:Int)<0 then ((k:Int)+(n:Int)).toNat else min (k:Int).toNat n)=min k n
 rw [if_neg (by lia),abC]
theorem NW(n d:Nat)(hd:d<=n)(o:Option Int):ei n d o<=n:=by
 cases o with
 | none=>exact hd
 | some v =>
  show (if v<0 then (v+(n:Int)).toNat else min v.toNat n)<=n
  by_cases hv:v<0
  ·rw [if_pos hv];lia
  ·rw [if_neg hv];exact Nat.min_le_right _ _
theorem De(v:Int)(n d:Nat):(if v<0 then max (v+(n:Int)) 0 else min v (n:Int))=((ei n d (some v):Nat):Int):=by
 show (if v<0 then max (v+(n:Int)) 0 else min v (n:Int))=(((if v<0 then (v+(n:Int)).toNat else min v.toNat n):Nat):Int)
 by_cases hv:v<0
 ·simp only [if_pos hv];lia
 ·simp only [if_neg hv];lia
theorem Bv(lo hi:Option Int)(n:Nat):Builtin.Slice.sliceAdjust lo hi 1 (n:Int)=(((ei n 0 lo:Nat):Int),((ei n n hi:Nat):Int)):=by
 have h1:¬ ((1:Int)<0):=by lia
 unfold Builtin.Slice.sliceAdjust
 simp only [h1,if_false]
 refine Prod.ext ?_ ?_
 ·cases lo with
  | none=>rfl
  | some v=>exact De v n 0
 ·cases hi with
  | none=>rfl
  | some v=>exact De v n n
theorem Bw(i j:Nat):Builtin.Slice.slicePlaces (i:Int) (j:Int) 1=j - i:=by
 unfold Builtin.Slice.slicePlaces
 have h1:(1:Int) > 0:=by lia
 simp only [h1,if_true,Int.ediv_one]
 split <;> lia
theorem sV{v:Value}{o:Option Int}{Q:Option Int->Shared->Prop}(p:IsPart v o)(h:Q o s):wpAny (model prog w) A (Builtin.Slice.slicePartIndex v) Q E s:=by
 cases p with
 | none=>exact slicePart_none h
 | int i t=>exact slicePart_int h
theorem iE{sl:Addr}{vl vu:Value}{lo hi:Option Int}{n:Nat}{Q:Int×Int×Nat->Shared->Prop}(hs:s.heap.IsSliceOf sl vl vu .none)(pl:IsPart vl lo)(pu:IsPart vu hi)
  (h:Q (((ei n 0 lo:Nat):Int),1,ei n n hi - ei n 0 lo) s):wpAny (model prog w) A (Builtin.Slice.sliceApplied (.ref sl) (pure (n:Int))) Q E s:=by
 obtain ⟨os,NX,Vo,FL⟩:=id hs
 unfold Builtin.Slice.sliceApplied Builtin.Slice.sliceFields
 refine aaH (aaH (wpAny_field NX FL (x:=vl) rfl (aaH (wpAny_field NX FL (x:=vu) rfl (aaH (wpAny_field NX FL (x:=.none) rfl (aaV ?_)))))))
 refine aaH (slicePart_none ?_)
 show wpAny _ _ (if ((1:Int) == 0)=true then _ else _) _ _ s
 rw [if_neg (by decide)]
 refine aaH (sV pl (aaH (sV pu (aaH (aaV ?_)))))
 show wpAny _ _ (match Builtin.Slice.sliceAdjust lo hi 1 (n:Int) with|(lo,hi)=>pure (lo,(1:Int),Builtin.Slice.slicePlaces lo hi 1)) _ _ s
 rw [Bv lo hi n]
 show wpAny _ _ (pure (((ei n 0 lo:Nat):Int),(1:Int),Builtin.Slice.slicePlaces ((ei n 0 lo:Nat):Int) ((ei n n hi:Nat):Int) 1)) _ _ s
 rw [Bw]
 exact aaV h
theorem Gk(xs:Array Value)(i k:Nat):((List.range k).filterMap fun (m:Nat)=>xs[((i:Int)+(m:Int)*1).toNat]?).toArray=((xs.toList.drop i).take k).toArray:=by
 have e:(fun (m:Nat)=>xs[((i:Int)+(m:Int)*1).toNat]?)=fun m=>xs[i+m]?:=by
  funext m
  have:((i:Int)+(m:Int)*1).toNat=i+m:=by lia
  rw [this]
 rw [e]
 have:=pick_run xs i k
 rw [List.filterMap_map] at this
 have e2:((fun x=>xs[x]?) ∘ fun x=>i+x)=fun m=>xs[i+m]?:=rfl
 rw [e2] at this
 rw [this]
theorem nG{t sl:Addr}{items:Array Value}{vl vu:Value}{lo hi:Option Int}{Q:Value->Shared->Prop}(ht:IsTup s.heap t items)(hs:s.heap.IsSliceOf sl vl vu .none)(pl:IsPart vl lo)(pu:IsPart vu hi)
  (hw:¬ (ei items.size 0 lo=0/\ei items.size items.size hi=items.size))
  (h:Q (.ref s.heap.objs.size) { s with heap:=s.heap.push { cls:=.type "tuple",data:=.seq ((items.toList.drop (ei items.size 0 lo)).take (ei items.size items.size hi - ei items.size 0 lo)).toArray } })
  (wj:items.size<=sizeLine):wpAny (model prog w) A (getItem (.ref t) (.ref sl)) Q E s:=by
 have Df:sizeOk (.seq ((items.toList.drop (ei items.size 0 lo)).take (ei items.size items.size hi - ei items.size 0 lo)).toArray):=by
  show ((items.toList.drop (ei items.size 0 lo)).take (ei items.size items.size hi - ei items.size 0 lo)).toArray.size<=sizeLine
  rw [abm,abl,length_drop,Array.length_toList]
  exact aaL (Nat.min_le_right _ _) (aaL (Nat.sub_le _ _) wj)
 have hj:ei items.size items.size hi<=items.size:=NW _ _ (aaM _) hi
 obtain ⟨os,NX,Vo,FL⟩:=id hs
 have WQ:s.TypeIs (.ref sl) "slice":=⟨os,NX,Vo⟩
 unfold getItem
 try with_reducible refine wpAny_holding ?_
 first|refine aaH (aaV ?_)|skip
 refine aaH (wpAny_sequenceKey ht.typeIs (by decide) ?_)
 refine aaH (wpAny_callSpecial?_slot (name:=Str.ofString "__getitem__") ht.typeIs PyProof.Rows.slot_tuple_getitem
  (wpAny_call_entry PyProof.Rows.slot_tuple_getitem ht.typeIs entry_tuple_getitem ?_ (args_tuple_getitem _ _)))
 show wpAny _ _ (Builtin.Tuple.tupleItemsOf (.ref t) >>= _) _ _ s
 refine aaH (tupleItemsOf_ ht ?_)
 refine aaH (wpAny_typeOf WQ ?_)
 rw [if_pos (by decide)]
 refine aaH (iE hs pl pu ?_)
 have hG:¬ ((((ei items.size 0 lo:Nat):Int) == 0 && (1:Int) == 1 && (ei items.size items.size hi - ei items.size 0 lo) == items.size)=true):=by
  intro q
  rw [Bool.and_eq_true,Bool.and_eq_true] at q
  have q1:((ei items.size 0 lo:Nat):Int)=0:=eq_of_beq q.1.1
  have q2:ei items.size items.size hi - ei items.size 0 lo=items.size:=eq_of_beq q.2
  exact hw ⟨by lia,by lia⟩
 show wpAny _ _ (if (((ei items.size 0 lo:Nat):Int) == 0 && (1:Int) == 1 && (ei items.size items.size hi - ei items.size 0 lo) == items.size)=true then _ else _) _ _ s
 rw [if_neg hG,Gk]
 first
  | exact aaH (m:=Builtin.Tuple.tupleExact _) (wpAny_newObj_type (aaV ⟨_,rfl,aaV h⟩) Df)
  | exact aaH (m:=Builtin.Tuple.tupleExact _) (wpAny_newObj_type (aaH (aaV (aaV ⟨_,rfl,aaV h⟩))) Df)
  | exact aaH (aaH (m:=Builtin.Tuple.tupleExact _) (wpAny_newObj_type (aaV (aaV ⟨_,rfl,aaV h⟩)) Df))
  | exact aaH (aaH (m:=Builtin.Tuple.tupleExact _) (wpAny_newObj_type (aaV ⟨_,rfl,aaV h⟩) Df))
end
end HT
namespace L2
open PySem PySem.Spec PyProof.Rows
abbrev TO:=St->Hp->(Option Int->Hp->Prop)->Prop
def PO(X:Cx)(e:Option Expr)(t:TO):Prop :=
 ∀ (pins:List (Addr×Obj)) (s:Shared) (σ:St) (H:Hp) (Q:Option Int->Hp->Prop),Inv X pins σ H s->t σ H Q ->
  wpAny (model X.prog X.w) X.A (evalPart e X.env) (fun u s'=>∃ o H',Inv X pins σ H' s'/\IsPart u o/\Q o H') X.xe s
def Dg:TO:=fun _ H Q=>Q none H
def Mx(t:TE):TO:=fun σ H Q=>t σ H fun x H1=>∃ i,x=.int i/\Q (some i) H1
theorem intsAre_of{ns:List Int}:∀ {us:List Value},Vals (ns.map V.int) us->IntsAre us ns:=by
 induction ns with
 | nil=>intro us r;rw [map_nil] at r;cases r;exact .nil
 | cons n ns ih =>
  intro us r
  rw [map_cons] at r
  cases r with
  | cons r1 r2 =>
   obtain ⟨t,e⟩:=r1
   subst e
   exact .cons n t (ih r2)
section
variable {X:Cx}{e:Expr}{te:TE}{lo hi:Option Expr}{tl th:TO}{pos p2:Pos}
theorem iR:PO X none Dg:=by
 intro pins s σ H Q I h
 rw [evalPart_none]
 exact aaV ⟨none,H,I,.none,h⟩
theorem iS(h:PE X e te):PO X (some e) (Mx te):=by
 intro pins s σ H Q I hw
 rw [evalPart_some]
 refine c6 (h pins s σ H _ I hw) fun u s1 ⟨x,H1,I1,r1,q1⟩=>?_
 obtain ⟨i,rfl,q⟩:=q1
 obtain ⟨t,rfl⟩:=r1
 exact⟨some i,H1,I1,.int i t,q⟩
def NY(X:Cx)(r:V->Option Int->Option Int->Hp->VK->Prop):Prop :=
 ∀ (pins:List (Addr×Obj)) (s:Shared) (σ:St) (H:Hp) (x:V) (v vl vu:Value) (lo hi:Option Int) (sl:Addr) (Q:VK),Inv X pins σ H s->RelV x v->s.heap.IsSliceOf sl vl vu .none->IsPart vl lo->IsPart vu hi->r x lo hi H Q ->
  ∃ T id,typeLookup (.type T) "__getitem__"=pure (some (.builtin id))/\s.TypeIs v T/\wpAny (model X.prog X.w) X.A (getItem v (.ref sl)) (EP X pins σ Q) X.xe s
def tSl(r:V->Option Int->Option Int->Hp->VK->Prop)(te:TE)(tl th:TO):TE:=fun σ H Q=>te σ H fun x H1=>tl σ H1 fun l H2=>th σ H2 fun u H3=>r x l u H3 Q
theorem gp{r:V->Option Int->Option Int->Hp->VK->Prop}(hr:NY X r)(he:PE X e te)(hl:PO X lo tl)(hu:PO X hi th):PE X (.Subscript e (.Slice lo hi none p2) pos) (tSl r te tl th):=by
 intro pins s σ H Q I h
 refine Subscript_ (c6 (he pins s σ H _ I h) fun v s1 ⟨x,H1,I1,r1,q1⟩=>?_)
 refine wpAny_Slice (c6 (hl pins s1 σ H1 _ I1 q1) fun vl s2 ⟨l,H2,I2,pl,q2⟩=>c6 (hu pins s2 σ H2 _ I2 q2) fun vu s3 ⟨u,H3,I3,pu,q3⟩=>?_)
 rw [evalPart_none]
 refine aaV ?_
 have I4:Inv X pins σ H3 { s3 with heap:=s3.heap.push { cls:=.type "slice",data:=.fields #[vl,vu,.none] } }:=I3.kept (t':=s3.toks) fun b ob q=>aaG _ q
 obtain ⟨T,id,hT,ht,hg⟩:=hr pins { s3 with heap:=s3.heap.push { cls:=.type "slice",data:=.fields #[vl,vu,.none] } } σ H3 x v vl vu l u s3.heap.objs.size Q I4 r1 (Heap.IsSliceOf.new ..) pl pu q3
 show wpAny (model X.prog X.w) X.A (subscriptTail e (.Slice lo hi none p2) v (.ref s3.heap.objs.size)) (EP X pins σ Q) X.xe { s3 with heap:=s3.heap.push { cls:=.type "slice",data:=.fields #[vl,vu,.none] } }
 exact tail_any (ops:=[.ref s3.heap.objs.size,v]) ht hT hg (by with_unfolding_all rfl)
def iT(xs:List V)(lo hi:Option Int):List V:=(xs.drop (HT.ei xs.length 0 lo)).take (HT.ei xs.length xs.length hi - HT.ei xs.length 0 lo)
theorem qM(xs:List V)(lo hi:Option Int):(iT xs lo hi).length<=xs.length:=by
 unfold iT
 rw [abl,length_drop]
 lia
def Gm(K:Frag):V->Option Int->Option Int->Hp->VK->Prop:=fun x lo hi H Q=>∃ a xs,x=.ref a/\aN K H a xs /\
 ¬ (HT.ei xs.length 0 lo=0/\HT.ei xs.length xs.length hi=xs.length)/\∀ p,H p=none->Q (.ref p) (upd H p (.tup (iT xs lo hi)))
theorem Gn:NY X (Gm X.K):=by
 intro pins s σ H x v vl vu lo hi sl Q I rx hs pl pu h
 obtain ⟨a,xs,rfl,hx,hw,q⟩:=h
 cases rx
 obtain ⟨its,r,ht,hz⟩:=I.tuple hx
 have hlen:its.toArray.size=xs.length:=by rw [abm];exact r.length.symm
 refine⟨"tuple",_,PyProof.Rows.slot_tuple_getitem.lookup,ht.typeIs,?_⟩
 refine HT.nG ht hs pl pu (by rw [hlen];exact hw) ?_ (by rw [hlen];exact hz)
 rw [hlen]
 refine⟨.ref s.heap.objs.size,_,I.laid (t':=s.toks) (o:=.tup (iT xs lo hi)) (fun b ob q=>aaG _ q) (aaM _) ?_,rfl,q _ (I.bc.fresh (aaM _))⟩
 exact⟨aaL (qM xs lo hi) hz,_,(r.drop (HT.ei xs.length 0 lo)).take (HT.ei xs.length xs.length hi - HT.ei xs.length 0 lo),IsTup.new _ _⟩
def Gp(K:Frag):R2:=fun x y H Q=>∃ a b xs ys,x=.ref a/\y=.ref b/\aN K H a xs/\aN K H b ys/\xs≠[]/\xs.length+ys.length<=sizeLine /\
 (ys=[]->Q (.ref a) H)/\(ys≠[]->∀ p,H p=none->Q (.ref p) (upd H p (.tup (xs++ys))))
theorem Vals.xj{xs:List V}{us:List Value}(r:Vals xs us):us=[]↔xs=[]:=by
 cases r with
 | nil=>simp
 | cons _ _=>simp
theorem Kf:jO X (binaryOp .Add) (Gp X.K):=by
 intro pins s σ H x y v u Q I rx ry h
 obtain ⟨a,b,xs,ys,rfl,rfl,ha,hb,hx,hz,q1,q2⟩:=h
 cases rx
 cases ry
 obtain ⟨its,r1,p1,_⟩:=I.tuple ha
 obtain ⟨NZ,r2,p2,_⟩:=I.tuple hb
 refine HT.Kc p1 p2 (fun z=>hx (r1.xj.mp z)) (fun z=>⟨.ref a,H,I,rfl,q1 (r2.xj.mp z)⟩) (fun z=>?_) (by rw [<- r1.length,<- r2.length];exact hz)
 refine⟨.ref s.heap.objs.size,_,I.laid (t':=s.toks) (o:=.tup (xs++ys)) (fun b ob q=>aaG _ q) (aaM _) ?_,rfl,q2 (fun w=>z (r2.xj.mpr w)) _ (I.bc.fresh (aaM _))⟩
 exact⟨by rw [aa6];exact hz,_,r1.append r2,IsTup.new _ _⟩
end
def Jw(n:Nat)(i:Int):Option Nat:=if 0<=i then (if i<n then some i.toNat else none) else if -(n:Int)<=i then some (i+n).toNat else none
def Dh{α:Type}(xs:List α)(i:Int):Option α:=(Jw xs.length i).bind fun j=>xs[j]?
theorem Di{n:Nat}{i:Int}{j:Nat}(h:Jw n i=some j):seqIndex? i n=some j/\j<n/\-(n:Int)<=i/\i<n:=by
 unfold Jw at h
 by_cases h0:0<=i
 ·rw [if_pos h0] at h
  by_cases h1:i<n
  ·rw [if_pos h1] at h
   have e:i.toNat=j:=aaO h
   exact⟨by rw [seqIndex_of h0 h1,e],by lia,by lia,h1⟩
  ·rw [if_neg h1] at h;cases h
 ·rw [if_neg h0] at h
  by_cases h1:-(n:Int)<=i
  ·rw [if_pos h1] at h
   have e:(i+n).toNat=j:=aaO h
   exact⟨by rw [seqIndex_neg (by lia) h1,e],by lia,h1,by lia⟩
  ·rw [if_neg h1] at h;cases h
theorem xk{α:Type}{xs:List α}{i:Int}{v:α}(h:Dh xs i=some v):∃ j,seqIndex? i xs.length=some j/\xs[j]?=some v/\j<xs.length/\-(xs.length:Int)<=i/\i<xs.length:=by
 unfold Dh at h
 cases e:Jw xs.length i with
 | none=>rw [e] at h;cases h
 | some j =>
  rw [e] at h
  obtain ⟨h1,h2,h3,h4⟩:=Di e
  exact⟨j,h1,h,h2,h3,h4⟩
theorem aS{α:Type}{xs:List α}{j:Nat}{v:α}(h:xs[j]?=some v):Dh xs (j:Int)=some v:=by
 have hj:j<xs.length:=(aaI.mp h).1
 have e:Jw xs.length (j:Int)=some j:=by
  unfold Jw
  rw [if_pos (by lia),if_pos (by lia)];simp
 unfold Dh;rw [e];exact h
def Kg(b:Expr):Prop:=∀ o i,subscripted b false o i=operate [o,i] (getItem o i)
def Jx(X:Cx)(r:R2):Prop :=
 ∀ (value slice:Expr) (pins:List (Addr×Obj)) (s:Shared) (σ:St) (H:Hp) (x y:V) (v u:Value) (Q:VK),Inv X pins σ H s->RelV x v->RelV y u->r x y H Q ->
  subscripted slice false v u=operate [v,u] (getItem v u)->wpAny (model X.prog X.w) X.A (subscriptTail value slice v u) (EP X pins σ Q) X.xe s
def MtR(X:Cx)(id:String)(r:V->List V->Hp->VK->Prop):Prop :=
 ∀ (pins:List (Addr×Obj)) (s:Shared) (σ:St) (H:Hp) (x:V) (xs:List V) (v:Value) (us:List Value) (Q:VK),Inv X pins σ H s->RelV x v->Vals xs us->r x xs H Q ->
  wpAny (model X.prog X.w) X.A (call (.builtin id) (v::us)) (EP X pins σ Q) X.xe s
section
variable {X:Cx}{a b:Expr}{ta tb:TE}{pos:Pos}
theorem Jx.or{r r':R2}(h:Jx X r)(h':Jx X r'):Jx X (fun x y H Q=>r x y H Q\/r' x y H Q):=by
 intro value slice pins s σ H x y v u Q I rx ry q hs
 rcases q with q|q
 ·exact h value slice pins s σ H x y v u Q I rx ry q hs
 ·exact h' value slice pins s σ H x y v u Q I rx ry q hs
theorem aM{r:R2}(hr:Jx X r)(ha:PE X a ta)(hb:PE X b tb)(hs:Kg b):PE X (.Subscript a b pos) (NK r ta tb):=by
 intro pins s σ H Q I h
 exact Subscript_ (NL ha hb I h fun v u s2 x y H2 I2 rx ry q=>hr a b pins s2 σ H2 x y v u Q I2 rx ry q (hs _ _))
def R1(K:Frag):R2:=fun x y H Q=>∃ p xs i v,x=.ref p/\y=.int i/\aR K H p xs/\Dh xs i=some v/\Q v H
def R3(K:Frag):R2:=fun x y H Q=>∃ p xs i v,x=.ref p/\y=.int i/\aN K H p xs/\Dh xs i=some v/\Q v H
def N2:R2:=fun x y H Q=>∃ z i c,x=.str z/\y=.int i/\z.length<=sizeLine/\Dh z.cps.toList i=some c/\Q (.str ⟨#[c]⟩) H
theorem Kh:Jx X (R1 X.K):=by
 intro value slice pins s σ H x y v u Q I rx ry h hs
 obtain ⟨p,xs,i,z,rfl,rfl,hq,he,q⟩:=h
 cases rx
 obtain ⟨t,rfl⟩:=ry
 obtain ⟨its,r,pl,hz⟩:=I.list hq
 obtain ⟨j,h1,h2,h3,h4,h5⟩:=xk he
 obtain ⟨w,ew,RR⟩:=r.get h2
 have hl:=r.length
 have hn:=sS
 have fin:EP X pins σ Q w s:=⟨z,H,I,RR,q⟩
 by_cases h0:0<=i
 ·have hj:i.toNat=j:=by
   rw [seqIndex_of h0 h5] at h1
   exact aaO h1
  exact item_listR pl.isList h0 (by lia) (by rw [hj];simpa using ew) fin hs
 ·have hj:(i+(its.toArray.size:Int)).toNat=j:=by
   rw [seqIndex_neg (by lia) h4] at h1
   rw [abm,<- hl]
   exact aaO h1
  exact subscriptTail_builtinR (x:=w) pl.isList.typeIs slot_list_getitem.lookup
   (wpAny_getItem_list_neg (Q:=fun r s'=>r=w/\EP X pins σ Q r s') pl.isList (by lia) (by rw [abm] <;> lia) (by lia) (by rw [hj];simpa using ew) ⟨rfl,fin⟩) hs
theorem N4:Jx X (R3 X.K):=by
 intro value slice pins s σ H x y v u Q I rx ry h hs
 obtain ⟨p,xs,i,z,rfl,rfl,hq,he,q⟩:=h
 cases rx
 obtain ⟨t,rfl⟩:=ry
 obtain ⟨its,r,pl,hz⟩:=I.tuple hq
 obtain ⟨j,h1,h2,h3,h4,h5⟩:=xk he
 obtain ⟨w,ew,RR⟩:=r.get h2
 have hl:=r.length
 have hn:=sS
 have fin:EP X pins σ Q w s:=⟨z,H,I,RR,q⟩
 exact subscriptTail_builtinR (x:=w) pl.typeIs slot_tuple_getitem.lookup
  (getItem_tuple (j:=j) (Q:=fun r s'=>r=w/\EP X pins σ Q r s') pl (by lia) (by lia) (by rw [abm,<- hl];exact h1) (by simpa using ew) ⟨rfl,fin⟩) hs
theorem xl:Jx X N2:=by
 intro value slice pins s σ H x y v u Q I rx ry h hs
 obtain ⟨z,i,c,rfl,rfl,hz,he,q⟩:=h
 obtain ⟨t,rfl⟩:=rx
 obtain ⟨t',rfl⟩:=ry
 obtain ⟨j,h1,h2,h3,h4,h5⟩:=xk he
 have hl:z.cps.toList.length=z.length:=by simp [Str.length]
 rw [hl] at h1 h4 h5
 have hn:=sS
 exact tail_any (typeIs_str s z t) slot_str_getitem.lookup (getItem_str (c:=c) (by
  have e1:decide (i < -(2 ^ 63:Int))=false:=aaS (by lia)
  have e2:decide (i ≥ 2 ^ 63)=false:=aaS (by lia)
  rw [e1,e2,Bool.or_false]) (by rw [h1];simpa using h2) ⟨.str ⟨#[c]⟩,H,I.tok _,⟨_,rfl⟩,q⟩) hs
def Vp(K:Frag):R2:=fun x y H Q=>R1 K x y H Q\/R3 K x y H Q\/N2 x y H Q
theorem N5:Jx X (Vp X.K):=Kh.or (N4.or xl)
theorem Bx (its:List Value) (n j:Nat) (u:Value):Obj.mapSeq (·.setIfInBounds j u) { cls:=.type "list",data:=.seq its.toArray n }={ cls:=.type "list",data:=.seq (its.set j u).toArray n }:=by
 simp [Obj.mapSeq]
theorem Inv.lst{pins:List (Addr×Obj)}{σ:St}{H:Hp}{s:Shared}{p:Addr}{xs:List V}(I:Inv X pins σ H s)(h:H p=some (.lst xs)) :
  ∃ (its:List Value) (n:Nat),Vals xs its/\s.heap.get? p=some { cls:=.type "list",data:=.seq its.toArray n }/\xs.length<=sizeLine:=by
 obtain ⟨z,its,n,r,e⟩:=I.bc p _ h
 exact⟨its,n,r,e,z⟩
theorem Inv.N6{pins:List (Addr×Obj)}{σ:St}{H:Hp}{s:Shared}{p:Addr}{xs ys:List V}{its its':List Value}{n n':Nat}{f:Obj->Obj}(I:Inv X pins σ H s)(h:H p=some (.lst xs))
  (ho:s.heap.get? p=some { cls:=.type "list",data:=.seq its.toArray n }) (hf:f { cls:=.type "list",data:=.seq its.toArray n }={ cls:=.type "list",data:=.seq its'.toArray n' }) (r:Vals ys its') (hz:ys.length<=sizeLine) (t:Nat) :
  Inv X pins σ (upd H p (.lst ys)) { s with heap:=s.heap.update p f,toks:=t }:=by
 have e:(s.heap.update p f).get? p=some { cls:=.type "list",data:=.seq its'.toArray n' }:=by
  rw [Heap.get?_update_self f ho (by rw [hf] <;> rfl),hf]
 refine I.write (x:=p) (e:=p) (by rw [h];trivial) (.inl rfl) (fun b u hb q=>(Heap.get?_update_other _ _ (Ne.symm hb)).trans q) ⟨_,e⟩ ?_
 exact⟨hz,its',n',r,e⟩
def My:V->V->V->Hp->(Hp->Prop)->Prop:=fun o i v H Q=>∃ p xs k j,o=.ref p/\i=.int k/\H p=some (.lst xs)/\Jw xs.length k=some j/\Q (upd H p (.lst (xs.set j v)))
theorem set_list:RO X My:=by
 intro pins s σ H o i v ov iv u Q I ro ri rv h
 obtain ⟨p,xs,k,j,rfl,rfl,hp,hj,q⟩:=h
 cases ro
 obtain ⟨t,rfl⟩:=ri
 obtain ⟨its,n,r,ho,hz⟩:=I.lst hp
 obtain ⟨h1,h2,h3,h4⟩:=Di hj
 have hl:=r.length
 have hn:=sS
 have I':Inv X pins σ (upd H p (.lst (xs.set j v))) { s with heap:=s.heap.update p (Obj.mapSeq (·.setIfInBounds j u)) } :=
  I.N6 hp ho (Bx its n j u) (r.set rv j) (by rw [length_set];exact hz) s.toks
 by_cases h0:0<=k
 ·have hk:k.toNat=j:=by
   rw [seqIndex_of h0 h4] at h1
   exact aaO h1
  exact PySem.W.ki_setAt ho h0 (by lia) (by rw [abm,<- hl];exact h4) (by rw [hk];exact⟨_,I',q⟩)
 ·have hk:(k+(its.toArray.size:Int)).toNat=j:=by
   rw [seqIndex_neg (by lia) h3] at h1
   rw [abm,<- hl]
   exact aaO h1
  exact PySem.W.ki_setBack ho (by lia) (by rw [abm,<- hl];exact h3) (by lia) (by rw [hk];exact⟨_,I',q⟩)
theorem xm(lo hi:Option Int)(n:Nat):(sliceBounds lo hi none n).1=((HT.ei n 0 lo:Nat):Int)/\(sliceBounds lo hi none n).2.1=((HT.ei n n hi:Nat):Int)/\(sliceBounds lo hi none n).2.2=1:=by
 refine⟨?_,?_,rfl⟩
 ·cases lo with
  | none=>simp [sliceBounds,HT.ei]
  | some i =>
   simp only [sliceBounds,HT.ei,Option.getD_none,show (1:Int) > 0 by decide,if_true]
   by_cases h:i<0
   ·simp only [h,if_true] <;> lia
   ·simp only [h,if_false] <;> lia
 ·cases hi with
  | none=>simp [sliceBounds,HT.ei]
  | some i =>
   simp only [sliceBounds,HT.ei,Option.getD_none,show (1:Int) > 0 by decide,if_true]
   by_cases h:i<0
   ·simp only [h,if_true] <;> lia
   ·simp only [h,if_false] <;> lia
theorem u9(its:List Value)(lo hi:Option Int):slicePick its.toArray lo hi none=((its.drop (HT.ei its.length 0 lo)).take (HT.ei its.length its.length hi - HT.ei its.length 0 lo)).toArray:=by
 obtain ⟨h1,h2,h3⟩:=xm lo hi its.toArray.size
 unfold slicePick
 rw [h1,h2,h3]
 simp only [sliceRange_one,pick_run,abm] <;> rfl
def Gq(K:Frag):V->Option Int->Option Int->Hp->VK->Prop:=fun x lo hi H Q=>∃ a xs,x=.ref a/\aR K H a xs/\∀ p,H p=none->Q (.ref p) (upd H p (.lst (iT xs lo hi)))
theorem Ki:NY X (Gq X.K):=by
 intro pins s σ H x v vl vu lo hi sl Q I rx hs pl pu h
 obtain ⟨a,xs,rfl,hx,q⟩:=h
 cases rx
 obtain ⟨its,r,ht,hz⟩:=I.list hx
 have hlen:=r.length
 refine⟨"list",_,slot_list_getitem.lookup,ht.isList.typeIs,?_⟩
 refine wpAny_getItem_list_slice ht.isList hs pl pu .none (by simp) ?_ (by rw [abm] <;> lia)
 rw [u9,<- hlen]
 refine⟨.ref s.heap.objs.size,_,I.laid (t':=s.toks) (o:=.lst (iT xs lo hi)) (fun b ob q=>aaG _ q) (aaM _) ?_,rfl,q _ (I.bc.fresh (aaM _))⟩
 exact⟨aaL (qM xs lo hi) hz,_,0,(r.drop (HT.ei xs.length 0 lo)).take (HT.ei xs.length xs.length hi - HT.ei xs.length 0 lo),aaK _ rfl⟩
def lG:V->Bool
 | .dz=>true
 | .bl _=>true
 | .int _=>true
 | .str _=>true
 | _=>false
def Mz:V->V->Bool
 | .dz,.dz=>true
 | .bl a,.bl b=>a == b
 | .bl a,.int b=>(if a then 1 else 0) == b
 | .int a,.bl b=>a == (if b then 1 else 0)
 | .int a,.int b=>a == b
 | .str a,.str b=>a == b
 | _,_=>false
theorem N7{A:Around}{s:Shared}{y x:V}{u v:Value}(ry:RelV y u)(rx:RelV x v)(fy:lG y=true)(fx:lG x=true):SeqAt.EqAt A s u v (Mz y x):=by
 cases y with
 | dz =>
  cases ry
  cases x with
  | dz=>cases rx;exact SeqAt.EqAt.same _
  | bl b=>cases rx;exact SeqAt.EqAt.none_bool b
  | int b=>obtain ⟨t,rfl⟩:=rx;exact SeqAt.EqAt.none_int b t
  | str b=>obtain ⟨t,rfl⟩:=rx;exact SeqAt.EqAt.none_str b t
  | _=>exact absurd (show false=true from fx) Bool.false_ne_true
 | bl a =>
  cases ry
  cases x with
  | dz=>cases rx;exact SeqAt.EqAt.bool_none a
  | bl b=>cases rx;exact SeqAt.EqAt.bool_bool a b
  | int b=>obtain ⟨t,rfl⟩:=rx;exact SeqAt.EqAt.bool_int a b t
  | str b=>obtain ⟨t,rfl⟩:=rx;exact SeqAt.EqAt.bool_str a b t
  | _=>exact absurd (show false=true from fx) Bool.false_ne_true
 | int a =>
  obtain ⟨t',rfl⟩:=ry
  cases x with
  | dz=>cases rx;exact SeqAt.EqAt.int_none a t'
  | bl b=>cases rx;exact SeqAt.EqAt.int_bool a t' b
  | int b=>obtain ⟨t,rfl⟩:=rx;exact SeqAt.EqAt.int_int a t' b t
  | str b=>obtain ⟨t,rfl⟩:=rx;exact SeqAt.EqAt.int_str a t' b t
  | _=>exact absurd (show false=true from fx) Bool.false_ne_true
 | str a =>
  obtain ⟨t',rfl⟩:=ry
  cases x with
  | dz=>cases rx;exact SeqAt.EqAt.str_none a t'
  | bl b=>cases rx;exact SeqAt.EqAt.str_bool a t' b
  | int b=>obtain ⟨t,rfl⟩:=rx;exact SeqAt.EqAt.str_int a t' b t
  | str b=>obtain ⟨t,rfl⟩:=rx;exact SeqAt.EqAt.str_str a t' b t
  | _=>exact absurd (show false=true from fx) Bool.false_ne_true
 | _=>exact absurd (show false=true from fy) Bool.false_ne_true
def Kj(x:V)(u:Value):Bool:=match u with
 | .none=>Mz .dz x
 | .bool b=>Mz (.bl b) x
 | .int i _=>Mz (.int i) x
 | .str z _=>Mz (.str z) x
 | _=>false
theorem Gr{x y:V}{u:Value}(r:RelV y u)(f:lG y=true):Kj x u=Mz y x:=by
 cases y with
 | dz=>cases r;rfl
 | bl b=>cases r;rfl
 | int i=>obtain ⟨t,rfl⟩:=r;rfl
 | str z=>obtain ⟨t,rfl⟩:=r;rfl
 | _=>exact absurd (show false=true from f) Bool.false_ne_true
theorem xn{x:V}:∀ {xs:List V} {us:List Value},Vals xs us->xs.all lG=true->us.any (Kj x)=xs.any fun y=>Mz y x
 | _,_,.nil,_=>rfl
 | y::xs,u::us,.cons r t,f=>by
  rw [all_cons,Bool.and_eq_true] at f
  rw [any_cons,any_cons,Gr r f.1,xn t f.2]
theorem sW{A:Around}{s:Shared}{x:V}{v:Value}(rx:RelV x v)(fx:lG x=true):∀ {xs:List V} {us:List Value},Vals xs us->xs.all lG=true->∀ u∈us,SeqAt.EqAt A s u v (Kj x u)
 | _,_,.nil,_=>fun u hu=>by cases hu
 | y::xs,u::us,.cons r t,f=>fun u' hu=>by
  rw [all_cons,Bool.and_eq_true] at f
  rcases aa9.mp hu with rfl|hu
  ·rw [Gr r f.1];exact N7 r rx f.1 fx
  ·exact sW rx fx t f.2 u' hu
def WR(x:V)(xs:List V):Bool:=xs.any fun y=>Mz y x
def WS(K:Frag)(neg:Bool):R2:=fun x y H Q=>∃ p xs,y=.ref p/\(aR K H p xs\/aN K H p xs)/\lG x=true/\xs.all lG=true/\Q (.bl (if neg then !WR x xs else WR x xs)) H
theorem D2:jO X (compareOp .In) (WS X.K false):=by
 intro pins s σ H x y v u Q I rx ry h
 obtain ⟨p,xs,rfl,hq,fx,fs,q⟩:=h
 cases ry
 rcases hq with hq|hq
 ·obtain ⟨its,r,pl,hz⟩:=I.list hq
  refine SeqAt.in_listAt (Kj x) pl.isList (fun w hw=>sW rx fx r fs w (by simpa using hw)) ⟨.bl _,H,I,rfl,?_⟩
  rw [show its.toArray.any (Kj x)=its.any (Kj x) by simp,xn r fs]
  exact q
 ·obtain ⟨its,r,pl,hz⟩:=I.tuple hq
  refine SeqAt.in_tupleAt (Kj x) pl (fun w hw=>sW rx fx r fs w (by simpa using hw)) ⟨.bl _,H,I,rfl,?_⟩
  rw [show its.toArray.any (Kj x)=its.any (Kj x) by simp,xn r fs]
  exact q
theorem xo:dA X (.builtin "len") (fun xs H Q=>∃ p ys,xs=[.ref p]/\(aR X.K H p ys\/aN X.K H p ys)/\Q (.int ys.length) H):=by
 intro pins s σ H xs us Q I r h
 obtain ⟨p,ys,rfl,hq,q⟩:=h
 obtain ⟨u,rfl,rx⟩:=vals1 r
 cases rx
 have hn:=sS
 rcases hq with hq|hq
 ·obtain ⟨its,r',pl,hz⟩:=I.list hq
  have hlen:=r'.length
  exact Calls.call_len_list pl.isList (by simp only [abm] <;> lia) ⟨.int ys.length,H,I.tok _,⟨s.toks+1,by rw [abm,hlen]⟩,q⟩
 ·obtain ⟨its,r',pl,hz⟩:=I.tuple hq
  have hlen:=r'.length
  exact len_tuple pl (by simp only [abm] <;> lia) ⟨.int ys.length,H,I.tok _,⟨s.toks+1,by rw [abm,hlen]⟩,q⟩
theorem xp:dA X (.type "list") (fun xs H Q=>∃ p ys,xs=[.ref p]/\(aR X.K H p ys\/aN X.K H p ys)/\∀ l,H l=none->Q (.ref l) (upd H l (.lst ys))):=by
 intro pins s σ H xs us Q I r h
 obtain ⟨p,ys,rfl,hq,q⟩:=h
 obtain ⟨u,rfl,rx⟩:=vals1 r
 cases rx
 have fin:∀ (its:List Value),Vals ys its->ys.length<=sizeLine->∀ (h':Heap) (c':Nat),(∀ b o',s.heap.get? b=some o'->h'.get? b=some o') ->
   h'.get? s.heap.objs.size=some { cls:=.type "list",dict:=none,data:=.seq its.toArray c',slots:=#[] }->EP X pins σ Q (.ref s.heap.objs.size) { s with heap:=h' }:=fun its r' hz h' c' kp e =>
  ⟨.ref s.heap.objs.size,_,I.laid (t':=s.toks) kp (aaM _) (show d3 X.prog X.w _ h' _ (.lst ys) from ⟨hz,its,c',r',e⟩),rfl,q _ (I.bc.fresh (aaM _))⟩
 rcases hq with hq|hq
 ·obtain ⟨its,r',pl,hz⟩:=I.list hq
  have hlen:=r'.length
  obtain ⟨o,ho,hc,n,hd⟩:=pl.isList
  exact call_list_seq p (.inl rfl) ho hc hd (fun h' c' kp e=>fin its r' hz h' c' kp e) (by simp only [abm] <;> lia)
 ·obtain ⟨its,r',pl,hz⟩:=I.tuple hq
  have hlen:=r'.length
  obtain ⟨o,ho,hc,n,hd⟩:=pl
  exact call_list_seq p (.inr rfl) ho hc hd (fun h' c' kp e=>fin its r' hz h' c' kp e) (by simp only [abm] <;> lia)
theorem va:dA X (.type "tuple") (fun xs H Q=>∃ p ys,xs=[.ref p]/\((aR X.K H p ys/\∀ l,H l=none->Q (.ref l) (upd H l (.tup ys)))\/(aN X.K H p ys/\Q (.ref p) H))):=by
 intro pins s σ H xs us Q I r h
 obtain ⟨p,ys,rfl,h⟩:=h
 obtain ⟨u,rfl,rx⟩:=vals1 r
 cases rx
 rcases h with ⟨hq,q⟩|⟨hq,q⟩
 ·obtain ⟨its,r',pl,hz⟩:=I.list hq
  have hlen:=r'.length
  refine call_tuple_list pl.isList (fun h' kp=>?_) (by simp only [abm] <;> lia)
  have I1:Inv X pins σ H { s with heap:=h' }:=I.kept (t':=s.toks) kp
  have I2:Inv X pins σ (upd H h'.objs.size (.tup ys)) { s with heap:=h'.push { cls:=.type "tuple",data:=.seq its.toArray } } :=
   I1.laid (t':=s.toks) (fun b o e=>aaG _ e) (aaM _) (show d3 X.prog X.w _ _ _ (.tup ys) from ⟨hz,its,r',IsTup.new _ _⟩)
  exact⟨.ref h'.objs.size,_,I2,rfl,q _ (I1.bc.fresh (aaM _))⟩
 ·obtain ⟨its,r',pl,hz⟩:=I.tuple hq
  exact call_tuple_same pl ⟨.ref p,H,I,rfl,q⟩
def Vq(K:Frag)(T:String)(x:V)(H:Hp):Prop:=match x with
 | .str _=>T = "str"
 | .int _=>T = "int"
 | .ref p=>(T = "list"/\∃ xs,aR K H p xs)\/(T = "tuple"/\∃ o,K.lookup p=some o/\o.cls=.type "tuple"/\o.dict=none) \/
   (T = "dict"/\((∃ oX,H p=some (.dK oX))\/∃ oX,H p=some (.dT oX)))\/(T = "set"/\∃ S n,H p=some (.set S n))
 | _=>False
theorem N8{pins:List (Addr×Obj)}{σ:St}{H:Hp}{s:Shared}{T:String}{x:V}{v:Value}(I:Inv X pins σ H s)(r:RelV x v)(ty:Vq X.K T x H) :
  s.TypeIs v T/\∀ a,v=.ref a->∃ ob,s.heap.get? a=some ob/\ob.dict=none:=by
 cases x with
 | str z =>
  obtain ⟨t,rfl⟩:=r
  cases (show T = "str" from ty)
  exact⟨typeIs_str s z t,fun _ e=>nomatch e⟩
 | int i =>
  obtain ⟨t,rfl⟩:=r
  cases (show T = "int" from ty)
  exact⟨typeIs_int s i t,fun _ e=>nomatch e⟩
 | ref p =>
  cases r
  rcases ty with ⟨rfl,xs,hq⟩|⟨rfl,o,hk,hc,hd⟩|⟨rfl,hk⟩|⟨rfl,S,n,hk⟩
  ·obtain ⟨its,_,pl,_⟩:=I.list hq
   refine⟨pl.isList.typeIs,fun a e=>?_⟩
   cases e
   obtain ⟨o,n,e,c,hd,_⟩:=pl
   exact⟨o,e,hd⟩
  ·refine⟨⟨o,I.kC p o hk,hc⟩,fun a e=>?_⟩
   cases e
   exact⟨o,I.kC _ o hk,hd⟩
  ·have z:∃ o,s.heap.get? p=some o/\o.ExactDict:=by
    rcases hk with ⟨oX,hk⟩|⟨oX,hk⟩
    ·obtain ⟨_,_,_,_,o,_,_,e,ex,_⟩:=I.bc p _ hk
     exact⟨o,e,ex⟩
    ·obtain ⟨_,_,_,_,o,_,_,e,ex,_⟩:=I.bc p _ hk
     exact⟨o,e,ex⟩
   obtain ⟨o,e,ex⟩:=z
   refine⟨⟨o,e,ex.1⟩,fun a e2=>?_⟩
   cases e2
   exact⟨o,e,ex.2.1⟩
  ·obtain ⟨o,_,_,_,e,ex,_⟩:=I.bc p _ hk
   refine⟨⟨o,e,ex.1⟩,fun a e2=>?_⟩
   cases e2
   exact⟨o,e,ex.2.1⟩
 | _=>exact False.elim ty
def tBM(K:Frag)(T:String)(r:V->List V->Hp->VK->Prop)(to:TE)(t:TA):TE:=fun σ H Q=>to σ H fun x H1=>Vq K T x H1/\t σ H1 fun xs H2=>r x xs H2 Q
variable {o e:Expr}{es:List Expr}{to:TE}{t:TA}{name:Str}{apos By:Pos}{T id:String}{r:V->List V->Hp->VK->Prop}
theorem jE (pa:PlainAttrs T) (slot:Slot T name id) (hty:typeOf (.builtin id)=pure (.type "method_descriptor")) (hm:MtR X id r) (ho:PE X o to) (ha:PA X (e::es) t)
  (R4:attributeBase o name X.env (eval o X.env)=eval o X.env:=by rfl)
  (WT:((backTo By (starEach (e::es) X.env)).all (fun x=>!x.1) && (backToKw By (keywordEach [] X.env)).all (fun x=>x.1.isSome)
   && decide ((e::es).length+([]:List Keyword).length+(if ([]:List Keyword).isEmpty then 0 else 1)<30))=true:=by rfl)
  (R5:(apos.endLine == By.line)=true:=by rfl) (hs:starEach (e::es) X.env=(false,eval e X.env)::starEach es X.env:=by rfl) (N9:(backTo By (starEach es X.env)).any (·.1)=false:=by rfl) :
  PE X (.Call (.Attribute o name apos) (e::es) [] By) (tBM X.K T r to t):=by
 intro pins s σ H Q I h
 refine wpAny_Call_method_late R4 WT R5 rfl (c6 (ho pins s σ H _ I h) fun v s1 ⟨x,H1,I1,r1,ty,q1⟩=>?_)
 obtain ⟨h1,h2⟩:=N8 I1 r1 ty
 refine⟨T,id,pa,slot,hty,h1,h2,?_⟩
 have hA:=ha By pins s1 σ H1 _ I1 q1
 rw [hs] at hA ⊢
 refine Calls.callWith_builtin (by show (false || (backTo By (starEach es X.env)).any (·.1))=false;rw [N9] <;> rfl) (Calls.evalArgs_plain ?_)
 exact c6 hA fun us s2 ⟨vs,H2,I2,r2,q2⟩=>hm pins s2 σ H2 x vs v us Q I2 r1 r2 q2
/- xs.append(e),list.index on a R6 tuple .. are MtR facts of 06m -/
end
def MtM(X:Cx)(id:String)(r:V->List V->Hp->VK->Prop):Prop :=
 ∀ (pins:List (Addr×Obj)) (s:Shared) (σ:St) (H:Hp) (x:V) (xs:List V) (v:Value) (us:List Value) (Q:VK),Inv X pins σ H s->RelV x v->Vals xs us->r x xs H Q ->
  wpAny (model X.prog X.w) X.A (call (.builtin id) (v::us)) (EP X pins σ Q) X.xe s
theorem Vals.one:∀ {x:V} {us:List Value},Vals [x] us->∃ u,us=[u]/\RelV x u
 | _,_,.cons r .nil=>⟨_,rfl,r⟩
theorem Vals.reverse{xs:List V}{us:List Value}(h:Vals xs us):Vals xs.reverse us.reverse:=by
 induction h with
 | nil=>exact .nil
 | cons r t ih=>rw [List.reverse_cons,List.reverse_cons];exact Vals.append ih (.cons r .nil)
theorem Vals.rep{xs:List V}{us:List Value}(h:Vals xs us):∀ k:Nat,Vals (List.replicate k xs).flatten (List.replicate k us).flatten
 | 0=>.nil
 | k+1=>by
  rw [replicate_succ,replicate_succ,flatten_cons,flatten_cons]
  exact Vals.append h (Vals.rep h k)
theorem foldl_rep(its:List Value):∀ (k:Nat) (acc:List Value),
  List.foldl (fun x1 x2=>x1++x2) acc.toArray (List.replicate k its.toArray)=(acc++(List.replicate k its).flatten).toArray
 | 0,acc=>by simp
 | k+1,acc=>by
  have e:acc.toArray++its.toArray=(acc++its).toArray:=by simp
  have e2:(acc++its)++(List.replicate k its).flatten=acc++(List.replicate (k+1) its).flatten:=by
   rw [replicate_succ,flatten_cons,append_assoc]
  rw [<- e2,<- foldl_rep its k (acc++its),<- e,replicate_succ,List.foldl_cons]
section
variable {X:Cx}{pins:List (Addr×Obj)}{σ:St}{H:Hp}{s:Shared}{l b:Addr}{xs ys zs:List V}
theorem Inv.WU{its its':List Value}{n:Nat}{f:Array Value->Array Value}{t':Nat}(I:Inv X pins σ H s)(hH:H l=some (.lst xs))
  (e:s.heap.get? l=some { cls:=.type "list",data:=.seq its.toArray n }) (hf:f its.toArray=its'.toArray) (hv:Vals ys its') (hz:ys.length<=sizeLine) :
  Inv X pins σ (upd H l (.lst ys)) { s with heap:=s.heap.update l (Obj.mapSeq f),toks:=t' }:=by
 have q:=PySem.IsL.update e f
 rw [hf] at q
 refine I.write (x:=l) (e:=l) (by rw [hH];exact trivial) (.inl rfl) (fun b' u hb hu=>(Heap.get?_update_other s.heap (Obj.mapSeq f) (Ne.symm hb)).trans hu) ⟨_,q⟩ ?_
 exact⟨hz,its',_,hv,q⟩
theorem Inv.D3{its:List Value}{t':Nat}(I:Inv X pins σ H s)(hv:Vals ys its)(hz:ys.length<=sizeLine) :
  Inv X pins σ (upd H s.heap.objs.size (.lst ys)) { s with heap:=s.heap.push { cls:=.type "list",data:=.seq its.toArray },toks:=t' } :=
 I.laid (fun _ _ q=>aaG _ q) (aaM _) ⟨hz,its,0,hv,aaK _ rfl⟩
theorem Inv.fresh(I:Inv X pins σ H s):H s.heap.objs.size=none:=I.bc.fresh (aaM _)
theorem Inv.Kk (I:Inv X pins σ H s) (hH:H l=some (.lst xs)):xs.length<=sizeLine/\∃ (its:List Value) (n:Nat),Vals xs its/\xs.length=its.length/\s.heap.get? l=some { cls:=.type "list",data:=.seq its.toArray n }:=by
 obtain ⟨z,its,n,r,e⟩:=I.bc l _ hH
 exact⟨z,its,n,r,r.length,e⟩
theorem Gs{n:Nat}(h:n<=sizeLine):Builtin.List.listTooLong n=false:=by
 unfold Builtin.List.listTooLong
 exact aaS (by lia)
end
section
variable {X:Cx}
def Dj:V->List V->Hp->VK->Prop:=fun x vs H Q=>∃ l xs y,x=.ref l/\vs=[y]/\H l=some (.lst xs)/\xs.length<sizeLine/\Q .dz (upd H l (.lst (xs++[y])))
theorem cF:MtM X "list.append" Dj:=by
 intro pins s σ H x vs v us Q I rx rv h
 obtain ⟨l,xs,y,rfl,rfl,hH,hz,q⟩:=h
 cases rx
 obtain ⟨u,rfl,ru⟩:=rv.one
 obtain ⟨z,its,n,r,hl,e⟩:=I.Kk hH
 refine call_meets F.slot_list_append ⟨_,e,rfl⟩ F.entry_list_append (F.args_list_append_2 _ _) (PySem.list_append l its.toArray n u (by rw [abm];lia)) ⟨e,?_⟩
 refine⟨.dz,_,I.WU (its':=its++[u]) hH e (by simp) (r.append (.cons ru .nil)) ?_,rfl,q⟩
 rw [aa6,aa7]
 lia
def R7:R2:=fun x y H Q=>∃ l b xs zs,x=.ref l/\y=.ref b/\H l=some (.lst xs)/\H b=some (.lst zs)/\xs.length+zs.length<=sizeLine/\∀ p,H p=none->Q (.ref p) (upd H p (.lst (xs++zs)))
theorem fC:jO X (binaryOp .Add) R7:=by
 intro pins s σ H x y v u Q I rx ry h
 obtain ⟨l,b,xs,zs,rfl,rfl,hH,hB,hz,q⟩:=h
 cases rx
 cases ry
 obtain ⟨z,its,n,r,hl,e⟩:=I.Kk hH
 obtain ⟨z2,NZ,n2,r2,Dk,e2⟩:=I.Kk hB
 refine PySem.P.add_list e e2 ?_ (by rw [abm,abm];lia)
 have ea:its.toArray++NZ.toArray=(its++NZ).toArray:=by simp
 rw [ea]
 exact⟨.ref _,_,I.D3 (t':=s.toks) (r.append r2) (by rw [aa6];lia),rfl,q _ I.fresh⟩
def R8:R2:=fun x y H Q=>∃ l k xs,x=.ref l/\y=.int k/\H l=some (.lst xs)/\-(2 ^ 63)<=k/\k<2 ^ 63/\xs.length*k.toNat<=sizeLine /\
 ∀ p,H p=none->Q (.ref p) (upd H p (.lst (List.replicate k.toNat xs).flatten))
theorem len_rep{α:Type}(xs:List α)(k:Nat):(List.replicate k xs).flatten.length=k*xs.length:=by
 induction k with
 | zero=>simp
 | succ k ih=>rw [replicate_succ,flatten_cons,aa6,ih,Nat.succ_mul,Nat.add_comm]
theorem Gu:jO X (binaryOp .Mult) R8:=by
 intro pins s σ H x y v u Q I rx ry h
 obtain ⟨l,k,xs,rfl,rfl,hH,h1,h2,hz,q⟩:=h
 cases rx
 obtain ⟨t,rfl⟩:=ry
 obtain ⟨z,its,n,r,hl,e⟩:=I.Kk hH
 have hlen:its.toArray.size*k.toNat<=sizeLine:=by rw [abm,<- hl];exact hz
 have WV:¬ its.toArray.size*k.toNat > (2 ^ 63 - 1) / 8:=by
  have:(sizeLine:Nat)<=(2 ^ 63 - 1) / 8:=by decide
  lia
 have WW:¬ (!Builtin.List.listFitsIndex k)=true:=by
  rw [fitsIndex_both h1 h2]
  exact Bool.false_ne_true
 have R9:¬ Builtin.List.listTooLong (its.toArray.size*k.toNat)=true:=by
  rw [Gs hlen]
  exact Bool.false_ne_true
 have Gv:List.foldl (fun x1 x2=>x1++x2) #[] (List.replicate (if its.toArray.isEmpty=true then 0 else k.toNat) its.toArray)=(List.replicate k.toNat its).flatten.toArray:=by
  have f0:∀ m:Nat,List.foldl (fun x1 x2=>x1++x2) #[] (List.replicate m its.toArray)=(List.replicate m its).flatten.toArray:=fun m=>by
   have:=foldl_rep its m []
   rw [List.nil_append] at this
   exact this
  rw [f0]
  cases its with
  | nil=>simp
  | cons a r'=>rw [if_neg (by simp)]
 refine wpAny_binaryOp_repeat_ref (T:="list") (U:="int") (by decide) ⟨_,e,rfl⟩ (fun s'=>typeIs_int s' k t) noFill_list_mul F.fills_int_mul F.slot_int_rmul repeat_list F.slot_int_index.lookup
  (call_meets F.slot_int_rmul (typeIs_int s k t) F.entry_int_rmul (F.args_int_rmul_2 _ _) (int___rmul___int_list k t l its.toArray n)
   ⟨e,rfl,⟨_,e,rfl⟩,call_meets F.slot_list_mul ⟨_,e,rfl⟩ F.entry_list_mul (F.args_list_mul_2 _ _) (AutoListH.list___mul___list_int_3 l its.toArray n k t WW WV R9) ⟨e,?_⟩⟩)
 rw [Gv]
 exact⟨.ref _,_,I.D3 (t':=s.toks) (r.rep k.toNat) (by rw [len_rep,Nat.mul_comm];exact hz),rfl,q _ I.fresh⟩
end
end L2
namespace Att
open PySem PySem.W PySem.Calls PyProof.Rows
theorem rg{P:Params}{h:Heap}:∀ (ns:List Int) (vs:List Value),WellAll P h vs (ns.map WData.int)->IntsAre vs ns:=by
 intro ns
 induction ns with
 | nil =>
  intro vs w
  rw [map_nil] at w
  cases w
  exact .nil
 | cons n ns ih =>
  intro vs w
  rw [map_cons] at w
  cases w with
  | cons a b =>
   cases a
   exact .cons _ _ (ih _ b)
theorem D4{l:OpenLaw}{n:Nat}(hn:l.most=some n){P:Params}{h:Heap}{args:List WData}{vals:List Value}
  (Kl:l.row.toRowW.claim.pre args=true) (WX:WellAll P h vals args) :
  ∃ a vs ns,vals=[Value.ref a]/\args=[WData.list (ns.map WData.int)]/\h.get? a=some { cls:=.type "list",data:=.seq vs.toArray }/\IntsAre vs ns/\ns.length<=n:=by
 have Vr:WShape.hasAll [] args [.list .int]=true:=(pre_splitW Kl).1
 have hc:l.pre.holds [] { args:=args }=true:=(pre_splitW Kl).2
 obtain ⟨d,r,rfl,h1,h2⟩:=hasAllW_cons Vr
 obtain rfl:=hasAllW_nil h2
 obtain ⟨xs,rfl,h3⟩:=hasW_list h1
 obtain ⟨ns,rfl⟩:=items_int h3
 have hlen:ns.length<=n:=by
  unfold OpenLaw.pre at hc
  have h4:(WTm.not (.lt (.lit (.int (n:Int))) (.len (.arg 0)))).holds [] { args:=[.list (ns.map .int)] }=true:=by
   have h4:=(holds_andW hc).1
   rw [hn] at h4
   exact h4
  have h5:=condW_of h4 (w_not (w_lt w_lit (w_len_list (w_arg rfl))))
  rw [aa5] at h5
  refine Nat.le_of_not_lt fun q=>?_
  have q':(n:Int)<((ns.length:Nat):Int):=by lia
  first
   | (rw [aaT q'] at h5;exact absurd h5 (by decide))
   | (simp at h5;lia)
 cases WX with
 | cons w1 w2 =>
  cases w2
  cases w1 with
  | list ho Gw=>exact⟨_,_,ns,rfl,rfl,ho,rg ns _ Gw,hlen⟩
theorem D5(l:OpenLaw)(args:List WData):l.row.toRowW.claim.post args (.bool true) args=true :=
 postW_of (r:=l.row.toRowW) (X:=(true == true))
  (show WShape.has [] (.bool true) .bool=true by first|rfl|decide|simp [WShape.has,WShape.arms,WShape.armsAll])
  (show (WTm.eq .res (.lit (.bool true))).value [] { args:=args,res:=some (.bool true),after:=args }=some (.bool (true == true)) from w_eq_bool (w_res rfl) w_lit) rfl
theorem zp{l:OpenLaw}{n:Nat}{q:Program}{loose:List Str}{XP:(Str->Option Value)->Heap->Prop}{YP:World->Heap->Prop}{d:DefRec}
  (hn:l.most=some n) (WY:d.params.defaults=[])
  (call:∀ (w:World) (s₀ s₁:Shared) (mg mb:Str->Option Value) (fa:Addr) (o:Obj) (pm cd doc:Value) (a:Addr) (vs:List Value) (ns:List Int),
   Ground q loose [] XP w s₀ mg mb s₁.heap->YP w s₁.heap ->
   s₁.heap.get? fa=some o->o.data=.func (docDef d.name d.params d.body d.scope pm cd doc)->s₁.heap.CodeRec cd d.name->mg d.name=some (.ref fa) ->
   s₁.heap.get? a=some { cls:=.type "list",data:=.seq vs.toArray }->IntsAre vs ns->ns.length<=n->s₁.gens=#[] ->
   codeAny (model l.prog w) callerA (.call (.ref fa) ⟨[.ref a],[]⟩) (fun r s'=>r=.ok (.ret (.bool true))/\OldK s₁.heap s'.heap/\s'.os=s₁.os/\AllBare s'.gens) s₁) :
  WalkO q loose XP YP l.row.toRowW d [] (fun f vs=>PySem.call f vs):=by
 intro w s₀ s₁ mg mb G Y fa o pm cd doc dV kV ho hd xb hD Sa hg args vals as Kl hlay hrd WX hlo
 obtain rfl:dV=.none:=Dflts.none hD WY
 obtain rfl:kV=.none:=Dflts.noKw hD
 obtain ⟨a,vs,ns,rfl,rfl,Oa,hints,hlen⟩:=D4 hn Kl WX
 refine enter_call (codeAny_mono (call w s₀ s₁ mg mb fa o pm cd doc a vs ns G Y ho (fd_plain hd) xb Sa Oa hints hlen hg) fun r s' hq=>?_)
 obtain ⟨rfl,h2,h3,h4⟩:=hq
 exact⟨.inl ⟨.bool true,.bool true,[],rfl,fun _=>rfl,.bool true,D5 l _,fun _=>⟨List.Pairwise.nil,fun _ hm=>(nomatch hm)⟩⟩,h2,h3,h4⟩
section
variable {prog:Program}{w:World}{A:Around}{E:Value->Shared->Prop}{s:Shared}{K:Frag}
end
end Att
namespace L2
open PySem PySem.Spec PyProof.Rows
theorem wx:∀ {vs:List Value} {ns:List Int},IntsAre vs ns->Vals (ns.map V.int) vs
 | _,_,.nil=>.nil
 | _,_,.cons n t h=>.cons ⟨t,rfl⟩ (wx h)
def cI(s:Stmt):Arguments:=match s with
 | .FunctionDef _ a _ _ _ _ _ _ _ _=>a
 | _=>{ posonlyargs:=[],args:=[],vararg:=none,kwonlyargs:=[],kw_defaults:=[],kwarg:=none,defaults:=[] }
def bN(s:Stmt):List Stmt:=match s with
 | .FunctionDef _ _ b _ _ _ _ _ _ _=>b
 | _=>[]
def aq(s:Stmt):Scope:=match s with
 | .FunctionDef _ _ _ _ _ _ sc _ _ _=>sc
 | _=>{ kind:=.function,names:=[],isGenerator:=false,isCoroutine:=false }
abbrev D6:Gf:=fun _ _ _ _ _ _=>False
abbrev E0:XK:=fun _ _ _=>False
theorem Dl{X:Cx}:Passes D6 X E0:=fun _ _ _ _ _ _ _ h=>h.elim
structure Km(K:Frag)(x qual:Str)(st:Stmt)(f:Addr)(fd:FuncData):Prop where
 ex:∃ (oc:Value) (od:Option Addr) (kV doc pm:Value) (an:Option Addr) (c7 ct:Value) (Gj:Array (Option Value)),
  fd=fnOf x qual (cI st) (bN st) (aq st) .none kV doc pm an c7 ct/\K.lookup f=some ⟨oc,od,.func fd,Gj⟩/\codeIn K c7 qual=true
 kp:keepIn K (.ref f)=true
section
variable {P:Program}{w:World}{K:Frag}{mg:Str->Option Value}{base:Heap}
theorem Km.ok{x qual:Str}{st:Stmt}{f:Addr}{fd:FuncData}{N ps:List Str}{k:Nat}{sp:Sp}(F:Km K x qual st f fd)(S:aF N ps (aq st))(len:∀ vs H Q E,sp vs H Q E->vs.length=ps.length)
  (nD:∀ (c7:Value) (A:Around) (outer:List Env) (s:Shared) (H:Hp) (vs:List V) (Q:VK) (E:XK),c9 k (A.deeper (envOfC qual (aq st) s.heap.objs.size f c7))->sp vs H Q E ->
   ∃ t,Ba (xh D6 P w K mg base N qual (aq st) f c7 A outer s H E).Ju (bN st) t/\t { nx:=fun _ H'=>Q .dz H',rt:=Q } (start N vs) H):nC P w K mg base D6 (k+1) f fd ps sp:=by
 obtain ⟨oc,od,kV,doc,pm,an,c7,ct,Gj,rfl,lk,xb⟩:=F.ex
 refine Mv lk xb S len fun A outer s H vs Q E hr Mw=>?_
 obtain ⟨t,h,q⟩:=nD c7 A outer s H vs Q E hr Mw
 exact⟨t,h.Ju,q⟩
theorem Km.binds{x qual:Str}{st:Stmt}{f:Addr}{fd:FuncData}{ps:List Str}(F:Km K x qual st f fd)
  (h:∀ (kV doc pm:Value) (an:Option Addr) (c7 ct:Value) (us:List Value),us.length=ps.length->bindArgs (fnOf x qual (cI st) (bN st) (aq st) .none kV doc pm an c7 ct) ⟨us,[]⟩=pure (ps.zip us)):Binds K fd ps []:=by
 obtain ⟨oc,od,kV,doc,pm,an,c7,ct,Gj,rfl,lk,xb⟩:=F.ex
 exact .all (h kV doc pm an c7 ct)
theorem iU{x qual:Str}{st:Stmt}{f:Addr}{oc:Value}{od an:Option Addr}{Gj:Array (Option Value)}{kV doc pm c7 ct:Value}(l:K.lookup f=some ⟨oc,od,.func (fnOf x qual (cI st) (bN st) (aq st) .none kV doc pm an c7 ct),Gj⟩)
  (c:codeIn K c7 qual=true) (k:keepIn K (.ref f)=true):Km K x qual st f (fnOf x qual (cI st) (bN st) (aq st) .none kV doc pm an c7 ct):=⟨⟨oc,od,kV,doc,pm,an,c7,ct,Gj,rfl,l,c⟩,k⟩
end
theorem bo{A:Around}{k:Nat}(hr:c9 k A):A.units+1<cLine:=abd (Nat.add_le_add_left (by decide:1<=64) _) hr.units
theorem fD{n:Nat}(h:n<=1000):n<sizeLine:=abd h (by decide)
section
variable {X:Cx}
theorem pv (i:Nat) {x:Str} {pos:Pos} (hN:X.N[i]?=some x:=by rfl) (hv:Ny X.env.scope x:=by first|exact Or.inl rfl|exact Or.inr (Or.inl rfl)|exact Or.inr (Or.inr rfl)) (hd:(x == ("__debug__":Str))=false:=by decide)
  (xb:(x == ("__classdict__":Str))=false:=by decide):PE X (.Name x pos) (Bg i):=F3 hN hv hd xb
end
theorem Gx{A B:Prop}(h:B):if false=true then A else B:=by
 rw [if_neg Bool.false_ne_true]
 exact h
theorem jI{A B:Prop}(h:A):if true=true then A else B:=by
 rw [if_pos rfl]
 exact h
def ai(H H':Hp):Prop:=∀ b o,H b=some o->H' b=some o
theorem ai.refl(H:Hp):ai H H:=fun _ _ h=>h
theorem ai.trans{H H1 H2:Hp}(a:ai H H1)(b:ai H1 H2):ai H H2:=fun c o h=>b c o (a c o h)
theorem ai.seq{K:Frag}{H H':Hp}{a:Addr}{xs:List V}(e:ai H H')(h:aR K H a xs):aR K H' a xs:=by
 rcases h with (h|⟨o,h⟩)|h
 ·exact .inl (.inl (e _ _ h))
 ·exact .inl (.inr ⟨o,e _ _ h⟩)
 ·exact .inr h
end L2
namespace L2
open PySem
def dP(cells:List (Str×Addr)):List (Str×NameKind)->List (Str×Addr)->List (Str×Addr)
 | [],acc=>acc
 | (n,k)::r,acc=>dP cells r (if k == .free then (match cells.lookup n with|some c=>(n,c)::acc|none=>acc) else acc)
theorem lQ{scope:Scope}{env:Env}(h:∀ p∈scope.names,p.2=.free->∃ c,env.cells.lookup p.1=some c):closureFor scope env=pure (dP env.cells scope.names []):=by
 have key:∀ (names:List (Str×NameKind)) (acc:List (Str×Addr)),(∀ p∈names,p.2=.free->∃ c,env.cells.lookup p.1=some c) ->
   (forIn names acc (fun (x:Str×NameKind) (cs:List (Str×Addr))=>if (x.2 == NameKind.free)=true then (do let c <- cellOf env x.1;pure (ForInStep.yield ((x.1,c)::cs))) else pure (ForInStep.yield cs)):Sem (List (Str×Addr)))=pure (dP env.cells names acc):=by
  intro names
  induction names with
  | nil=>intro acc _;rfl
  | cons p r ih =>
   intro acc hp
   obtain ⟨n,k⟩:=p
   rw [forIn_cons]
   by_cases hk:k=.free
   ·subst hk
    obtain ⟨c,hc⟩:=hp (n,.free) mem_cons_self rfl
    have e:cellOf env n=pure c:=by unfold cellOf;rw [show env.cells.lookup n=some c from hc]
    show (if (NameKind.free == NameKind.free)=true then _ else _) >>= _=_
    rw [if_pos (by rfl)]
    dsimp only
    rw [e]
    show (forIn r ((n,c)::acc) _:Sem _)=_
    rw [ih _ fun q hq=>hp q (aa8 _ hq)]
    simp [dP,show env.cells.lookup n=some c from hc]
   ·have ph:(k == NameKind.free)=false:=by simpa using hk
    show (if (k == NameKind.free)=true then _ else _) >>= _=_
    rw [if_neg (by rw [ph];exact Bool.false_ne_true)]
    show (forIn r acc _:Sem _)=_
    rw [ih _ fun q hq=>hp q (aa8 _ hq)]
    simp [dP,ph]
 unfold closureFor
 have k:=key scope.names [] h
 exact (congrArg (fun m:Sem (List (Str×Addr))=>m >>= fun cs=>pure cs) k).trans rfl
theorem jP{cells:List (Str×Addr)}:∀ {names:List (Str×NameKind)} {acc:List (Str×Addr)},(∀ x c,acc.lookup x=some c->cells.lookup x=some c)->∀ x c,(dP cells names acc).lookup x=some c->cells.lookup x=some c
 | [],acc,h,x,c,e=>h x c e
 | (n,k)::r,acc,h,x,c,e=>by
  refine jP (names:=r) (fun y d q=>?_) x c e
  split at q
  ·split at q
   ·rename_i c0 hc0
    rw [lookup_cons] at q
    split at q
    ·rename_i hy
     have hy':y=n:=by simpa using hy
     subst hy'
     rw [hc0];exact q
    ·exact h y d q
   ·exact h y d q
  ·exact h y d q
theorem jQ{cells:List (Str×Addr)}:∀ {names:List (Str×NameKind)} {acc:List (Str×Addr)} {x:Str},(acc.lookup x).isSome=true\/((x,NameKind.free)∈names/\(cells.lookup x).isSome=true)->((dP cells names acc).lookup x).isSome=true
 | [],acc,x,h=>by
  rcases h with h|h
  ·exact h
  ·exact absurd h.1 (by simp)
 | (n,k)::r,acc,x,h=>by
  refine jQ (names:=r) ?_
  rcases h with h|⟨hm,hc⟩
  ·left
   split
   ·split
    ·rw [lookup_cons];split
     ·rfl
     ·exact h
    ·exact h
   ·exact h
  ·rcases aa9.mp hm with e|hm
   ·injection e with e1 e2
    subst e1;subst e2
    left
    rw [if_pos (by rfl)]
    cases hq:cells.lookup x with
    | none=>rw [hq] at hc;cases hc
    | some c=>simp
   ·exact .inr ⟨hm,hc⟩
section
variable {prog:Program}{w:World}{A:Around}
theorem wy{R:Result->Shared->Prop}{s:Shared}{elt target iter:Expr}{ifs:List Expr}{scope:Scope}{pos:Pos}{it acc:Value}{env:Env}{E:Value->Shared->Prop}(hE:∀ e s',E e s'->notedBy (model prog w) A env (fun e s'=>R (.error e) s') e s')(I:Nat->Shared->Prop)
  (turn:∀ n s,I n s->wpAny (model prog w) A (pyNext it) (fun r s₁=>match r with
   | none=>R (.ok .next) s₁
   | some v=>wpAny (model prog w) A (letOwnedTupleGo target it v) (fun _ s₁'=>wpAny (model prog w) A (assign target env v) (fun _ s₂ =>
     wpAny (model prog w) A (forIn ifs true fun c r=>if r=true then do let ok <- isTrue c env (eval c env);pure (ForInStep.yield ok) else pure (ForInStep.yield r)) (fun ok s₃ =>
      if ok=true then wpAny (model prog w) A (eval elt env) (fun x s₄ =>
       wpAny (model prog w) A (call (.builtin "list.append") [acc,x]) (fun _ s₅=>∃ m,m<n/\I m s₅) E s₄) E s₃
      else ∃ m,m<n/\I m s₃) E s₂) E s₁') E s₁) E s)
  (n:Nat) (h:I n s) :
  codeAny (model prog w) A (.compLoop (.ListComp elt [⟨target,iter,ifs,0⟩] scope pos) 0 it acc env) R s:=by
 have wA:∀ {α:Type} {t:Sem α} {Q:α->Shared->Prop} {s:Shared},wpAny (model prog w) A t Q E s->wpAny (model prog w) A t Q (notedBy (model prog w) A env fun e s'=>R (.error e) s') s:=fun q=>aaW q (fun _ _ z=>z) hE
 refine codeAny_loop rfl I (fun n s hI=>?_) n h
 show wpAny _ A ((compTurn (.ListComp elt [⟨target,iter,ifs,0⟩] scope pos) 0 it acc env).onRaise (fun x=>do noteFrame x env;theTreesLotGoes x)) _ _ s
 refine wpAny_noted ?_
 rw [compTurn_list]
 refine aaH (wpAny_standAt (aaH (aaW (wA (turn n s hI)) (fun r s₁ h₁=>?_) fun _ _ h'=>h')))
 cases r with
 | none=>exact aaV h₁
 | some v =>
  refine aaH (aaW (wA h₁) (fun _ s₁' h₁'=>?_) fun _ _ h'=>h')
  refine aaH (aaW (wA h₁') (fun _ s₂ h₂=>aaH (aaW (wA h₂) (fun ok s₃ h₃=>?_) fun _ _ h'=>h')) fun _ _ h'=>h')
  cases ok with
  | false=>exact aaV ⟨rfl,h₃⟩
  | true =>
   simp only [if_true] at h₃ ⊢
   exact aaH (aaH (aaW (wA h₃) (fun x s₄ h₄=>aaH (aaW (wA h₄) (fun _ s₅ h₅=>aaV (aaV ⟨rfl,h₅⟩)) fun _ _ h'=>h')) fun _ _ h'=>h'))
end
open PySem PySem.Spec PyProof.Rows
abbrev dr(X:Cx)(pins:List (Addr×Obj))(N:List Str)(scope:Scope)(C:Addr)(s:Shared)(H:Hp)(fp:List Addr):Cx :=
 { X with N:=N,s₀:=s,H₀:=H,env:=compEnvC scope (dP X.env.cells scope.names []) C X.env,outer:=X.stack,stack:=X.stack,ex:=fp,fn:=fun _=>false,pn:=X.pn++pins,xe:=fun _ _=>False }
def pick(ix:List (Option Nat))(σ:St):St:=ix.map fun o=>o.bind fun j=>(σ[j]?).join
def lU(X:Cx)(scope:Scope):List Str->List (Option Nat)->Prop
 | [],[]=>True
 | _::N,none::ix=>lU X scope N ix
 | x::N,some j::ix=>(X.N[j]?=some x/\Ny X.env.scope x/\(X.env.scope.names.lookup x == some .local)=false/\scope.names.lookup x=some .free)/\lU X scope N ix
 | _,_=>False
theorem lU.len{X:Cx}{scope:Scope}:∀ {N:List Str} {ix:List (Option Nat)},lU X scope N ix->ix.length=N.length
 | [],[],_=>rfl
 | [],none::_,h=>h.elim
 | [],some _::_,h=>h.elim
 | _::_,[],h=>h.elim
 | _::N,none::ix,h=>by simp only [length_cons];rw [lU.len (N:=N) (ix:=ix) h]
 | _::N,some _::ix,h=>by simp only [length_cons];rw [lU.len (N:=N) (ix:=ix) h.2]
theorem lU.get{X:Cx}{scope:Scope}:∀ {N:List Str} {ix:List (Option Nat)} {i j:Nat} {x:Str},lU X scope N ix->N[i]?=some x->ix[i]?=some (some j) ->
  X.N[j]?=some x/\Ny X.env.scope x/\(X.env.scope.names.lookup x == some .local)=false/\scope.names.lookup x=some .free
 | [],[],_,_,_,_,h,_=>by simp at h
 | [],none::_,_,_,_,h,_,_=>h.elim
 | [],some _::_,_,_,_,h,_,_=>h.elim
 | _::_,[],_,_,_,h,_,_=>h.elim
 | _::N,none::ix,0,_,_,_,_,e=>by simp at e
 | _::N,none::ix,i+1,_,_,h,h1,e=>lU.get (N:=N) (ix:=ix) (i:=i) h (by simpa using h1) (by simpa using e)
 | y::N,some k::ix,0,j,x,h,h1,e=>by
  simp at h1 e
  subst h1;subst e
  exact h.1
 | _::N,some _::ix,i+1,_,_,h,h1,e=>lU.get (N:=N) (ix:=ix) (i:=i) h.2 (by simpa using h1) (by simpa using e)
theorem sY{ix:List (Option Nat)}{σ:St}{i:Nat}{v:V}(h:(pick ix σ)[i]?=some (some v)):∃ j,ix[i]?=some (some j)/\σ[j]?=some (some v):=by
 unfold pick at h
 rw [abn] at h
 cases e:ix[i]? with
 | none=>rw [e] at h;cases h
 | some o =>
  rw [e] at h
  cases o with
  | none=>cases h
  | some j =>
   refine⟨j,rfl,?_⟩
   have h':(σ[j]?).join=some v:=aaO h
   cases q:σ[j]? with
   | none=>rw [q] at h';cases h'
   | some z=>rw [q] at h';have h2:z=some v:=h';rw [h2]
theorem eW{env : Env} : ∀ {names : List (Str × NameKind)} {x : Str}, (∀ y ∈ names, y.2 ≠ .cell) ->
    ((names.map fun (n, k) => if (k == NameKind.free && env.scope.kind == .function && env.kindOf n == some .cell) then (n, NameKind.cell) else (n, k)).lookup x=some .cell \/
     (names.map fun (n, k) => if (k == NameKind.free && env.scope.kind == .function && env.kindOf n == some .cell) then (n, NameKind.cell) else (n, k)).lookup x=some .free) -> names.lookup x=some .free
  | [], _, _, h => by simp at h
  | (n, k)::r, x, hc, h => by
    have ih := @eW env r x fun y hy => hc y (aa8 _ hy)
    have hk : k ≠ .cell := hc (n, k) mem_cons_self
    rw [map_cons] at h
    cases hx : x == n with
    | true =>
      rw [lookup_cons, hx]
      by_cases rh : (k == NameKind.free && env.scope.kind == .function && env.kindOf n == some .cell)=true
      · have : k=.free := by
          simp only [Bool.and_eq_true, beq_iff_eq] at rh
          exact rh.1.1
        rw [this]
      · simp only [rh, Bool.false_eq_true, if_false, lookup_cons, hx] at h
        rcases h with h|h
        · exact absurd (aaO h) hk
        · exact h
    | false =>
      rw [lookup_cons, hx]
      refine ih ?_
      by_cases rh : (k == NameKind.free && env.scope.kind == .function && env.kindOf n == some .cell)=true
      · simp only [rh, if_true, lookup_cons, hx] at h
        exact h
      · simp only [rh, Bool.false_eq_true, if_false, lookup_cons, hx] at h
        exact h
theorem iV{env : Env} : ∀ {names : List (Str × NameKind)} {x : Str}, names.lookup x=some .free ->
    ((names.map fun (n, k) => if (k == NameKind.free && env.scope.kind == .function && env.kindOf n == some .cell) then (n, NameKind.cell) else (n, k)).lookup x=some .cell \/
     (names.map fun (n, k) => if (k == NameKind.free && env.scope.kind == .function && env.kindOf n == some .cell) then (n, NameKind.cell) else (n, k)).lookup x=some .free)
  | [], _, h => by simp at h
  | (n, k)::r, x, h => by
    have ih := @iV env r x
    rw [map_cons]
    cases hx : x == n with
    | true =>
      rw [lookup_cons, hx] at h
      have hk : k=.free := aaO h
      subst hk
      by_cases rh : (NameKind.free == NameKind.free && env.scope.kind == .function && env.kindOf n == some .cell)=true
      · simp only [rh, if_true, lookup_cons, hx];exact .inl trivial
      · simp only [rh, Bool.false_eq_true, if_false, lookup_cons, hx];exact .inr trivial
    | false =>
      rw [lookup_cons, hx] at h
      by_cases rh : (k == NameKind.free && env.scope.kind == .function && env.kindOf n == some .cell)=true
      · simp only [rh, if_true, lookup_cons, hx];exact ih h
      · simp only [rh, Bool.false_eq_true, if_false, lookup_cons, hx];exact ih h
def WZ(Y:Cx):List Expr->TT->Prop
 | [],t=>t=fun _ H Q=>Q true H
 | [c],t=>PT Y c t
 | _,_=>False
def bP(ix:List (Option Nat))(g:TG)(tt:TT)(te:TE)(σ:St)(Q:VK)(J:It)(H1:Hp):Prop:=∀ l,H1 l=none->∃ W:Nat->Nat->St->List V->Hp->Prop,
 (∃ m,W 0 m (pick ix σ) [] (upd H1 l (.lst [])))/\∀ i m σ1 ys H',W i m σ1 ys H'->H' l=some (.lst ys)/\((J.stop i H'/\Q (.ref l) H') \/
  (J.go i H'/\∃ m',m'<m/\∀ x H2,J.J0 i H' x H2->g x σ1 H2 fun σ2 H3=>tt σ2 H3 fun b H4=>if b=true then te σ2 H4 fun y H5=>H5 l=some (.lst ys)/\ys.length<sizeLine/\W (i+1) m' σ2 (ys++[y]) (upd H5 l (.lst (ys++[y]))) else W (i+1) m' σ2 ys H4))
def Gy(ix:List (Option Nat))(wi:TI)(g:TG)(tt:TT)(te:TE):TE:=fun σ H Q=>wi σ H fun J H1=>bP ix g tt te σ Q J H1
theorem Un.letGo{fs ex:List Addr}{H H':Hp}{h h1 h2:Heap}{C:Addr}(u:Un fs ex H H' h h1)(hC:h.objs.size<=C)(sb:Heap.SameBut C h1 h2):Un fs ex H H' h h2:=by
 have ne:∀ b o,h.get? b=some o->b≠C:=fun b o e=>abw (Nat.lt_of_lt_of_le (aaJ e) hC)
 refine⟨fun b o e n hb hx=>(sb.2 b (ne b o e)).trans (u.keep b o e n hb hx),fun b o e n hb hx=>?_,u.free,fun b o e hx=>?_,u.nr,u.lL,u.lM⟩
 ·obtain ⟨sl,q⟩:=u.slot b o e n hb hx
  exact⟨sl,(sb.2 b (ne b o e)).trans q⟩
 ·obtain ⟨o',q⟩:=u.there b o e hx
  exact⟨o',(sb.2 b (ne b o e)).trans q⟩
theorem gW.letGo{P:Program}{w:World}{H:Hp}{h h':Heap}{C:Addr}(x:gW P w H h)(hC:H C=none)(sb:Heap.SameBut C h h'):gW P w H h':=fun a o e=>by
 have na:∀ b u,H b=some u->b≠C:=fun b u q z=>by rw [z,hC] at q;cases q
 refine (x a o e).qX (fun b u hb q=>(sb.2 b ?_).trans q) (fun _ q=>q) fun _ _ q=>q
 rcases hb with rfl|hb
 ·exact na _ _ e
 ·exact na _ _ hb
section
variable {X:Cx}
theorem zq{Y:Cx}{ifs:List Expr}{tt:TT}(ht:WZ Y ifs tt){pins:List (Addr×Obj)}{s:Shared}{σ:St}{H:Hp}{Q:Bool->Hp->Prop}(I:Inv Y pins σ H s)(h:tt σ H Q) :
  wpAny (model Y.prog Y.w) Y.A (forIn ifs true fun c r=>if r=true then do let ok <- isTrue c Y.env (eval c Y.env);pure (ForInStep.yield ok) else pure (ForInStep.yield r)) (TP Y pins σ Q) Y.xe s:=by
 match ifs,ht with
 | [],ht =>
  have e:tt=fun _ H Q=>Q true H:=ht
  subst e
  exact wpAny_tests_nil ⟨H,I,h⟩
 | [c],ht=>exact wpAny_tests_one ((show PT Y c tt from ht) pins s σ H Q I h)
 | _::_::_,ht=>exact False.elim ht
theorem bg{tg iter elt:Expr}{ifs:List Expr}{scope:Scope}{pos:Pos}{N:List Str}{ix:List (Option Nat)}{wi:TI}{g:TG}{tt:TT}{te:TE}
  (hc:X.calm=true) (hi:PI X tg iter wi)
  (hg:∀ pins C s H fp,PG (dr X pins N scope C s H fp) tg g)
  (ht:∀ pins C s H fp,WZ (dr X pins N scope C s H fp) ifs tt)
  (he:∀ pins C s H fp,PE (dr X pins N scope C s H fp) elt te)
  (hk:scope.kind=.function) (eC:∀ y∈scope.names,y.2≠.cell) (Bz:∀ y∈scope.names,y.2=.local->scope.names.lookup y.1=some .local)
  (nH:(scope.names.all fun y=>!(y.2 == NameKind.free) || (X.env.cells.lookup y.1).isSome)=true) (BA:lU X scope N ix)
  (hs:∀ x,foldedSetIterable iter X.env x=pure x:=by intro _;rfl) :
  PE X (.ListComp elt [⟨tg,iter,ifs,0⟩] scope pos) (Gy ix wi g tt te):=by
 intro pins s σ H Q I h
 have Ko:∀ y∈scope.names,y.2=.free->(X.env.cells.lookup y.1).isSome=true:=fun y hy e=>by
  have z:=all_eq_true.mp nH y hy
  rw [e] at z
  simpa using z
 have Gz:∀ p∈scope.names,p.2=.free->∃ c,X.env.cells.lookup p.1=some c:=fun p hp e=>aaU.mp (Ko p hp e)
 have eG:∀ x c,(dP X.env.cells scope.names []).lookup x=some c->X.env.cells.lookup x=some c:=jP (fun x c q=>by simp at q)
 have qN:∀ x,scope.names.lookup x=some .free->∃ c,(dP X.env.cells scope.names []).lookup x=some c:=fun x hx=>by
  have hm:=PySem.mem_of_lookup hx
  exact aaU.mp (jQ (.inr ⟨hm,Ko _ hm rfl⟩))
 rw [eval_ListComp]
 refine wpAny_comprehension_free (use:=none) rfl hs (lQ Gz) hk Bz (c6 (hi pins s σ H _ I h) fun v s1 h1=>c6 h1 fun Vn s2 h2=>?_)
 obtain ⟨it,fp,tn,J,H2,e,I2,T,NH,f2,hW⟩:=h2
 subst e
 have BB:H2 s2.heap.objs.size=none:=I2.bc.fresh (aaM _)
 obtain ⟨W,⟨m0,w0⟩,turn⟩:=hW s2.heap.objs.size BB
 refine wpAny_newObj_type ?_
 have I3:Inv X pins σ (upd H2 s2.heap.objs.size (.lst [])) { s2 with heap:=s2.heap.push { cls:=.type "list",data:=.seq ([]:List Value).toArray } }:=I2.D3 (its:=[]) (t':=s2.toks) .nil (abv _)
 have f3:∀ b∈fp,oY X pins (upd H2 s2.heap.objs.size (.lst [])) b:=fun b hb=>by
  refine⟨?_,(f2 b hb).2⟩
  obtain ⟨o,eo,_⟩:=T.obj _ _ NH b hb
  rw [ax (abw (aaJ eo))]
  exact (f2 b hb).1
 have C8:tn 0 (s2.heap.push { cls:=.type "list",data:=.seq ([]:List Value).toArray }):=T.keep _ _ _ NH fun b _ o e=>aaG _ e
 generalize wB:({ s2 with heap:=s2.heap.push { cls:=.type "list",data:=.seq ([]:List Value).toArray } }:Shared)=s3 at I3
 have C8:tn 0 s3.heap:=by rw [<- wB];exact C8
 generalize hH3:upd H2 s2.heap.objs.size (.lst [])=H3 at I3 f3 w0
 generalize BC:s2.heap.objs.size=acc at *
 refine wpAny_newFunctionEnv eC (by intro y hy;simp at hy) (fun h₁ Ob Oc=>?_) hk
 have old:∀ b o,s3.heap.get? b=some o->h₁.get? b=some o:=fun b o q=>Oc.extBut b o (abw (aaJ q)) (aaG _ q)
 have BD:H3 s3.heap.objs.size=none:=I3.bc.fresh (aaM _)
 have Sb:∀ b∈fp,b<s3.heap.objs.size:=fun b hb=>by
  obtain ⟨o,eo,_⟩:=T.obj _ _ C8 b hb
  exact aaJ eo
 have BE:∀ b,b≠X.env.locals->b∉X.fs->b∉Be X.stack:=fun b h1 h2 z=>by
  rcases aa9.mp (I3.sJ b z) with q|q
  ·exact h1 q
  ·exact h2 q
 have clt:∀ x c,X.env.cells.lookup x=some c->c<s3.heap.objs.size:=fun x c q=>by
  obtain ⟨v,z⟩:=I3.cell x c q
  exact z.lt
 have YI:∀ (h':Heap) (m:Str->Option Value),(∀ b o,s3.heap.get? b=some o->h'.get? b=some o)->h'.Ns s3.heap.objs.size m ->
   Inv (dr X pins N scope s3.heap.objs.size s3 H3 fp) [] (pick ix σ) H3 { s3 with heap:=h',toks:=s3.toks+([]:List (Str×Value)).length }:=by
  intro h' m ph hn
  refine⟨⟨I3.ok.mod,hk,I3.ok.glob,I3.ok.blt,aaM _,fun x y c q1 q2=>I3.ok.inj x y c (eG x c q1) (eG y c q2),fun x hx=>qN x (eW eC hx),fun x c hf _=>absurd hf Bool.false_ne_true,
   I3.ok.hd,I3.ok.frames,.inl rfl,fun b hb=>⟨abw (Sb b hb),fun x c q=>(f3 b hb).2.2.2.2.1 x c (eG x c q)⟩,I3.bs,aaL I3.ok.Bf I3.sz,fun b o e hb=>?_,fun b hb=>BE b (f3 b hb).2.1 (f3 b hb).2.2.1,I3.stack,I3.kD⟩,
   rfl,I3.bare,Un.kept ph,⟨m,hn,fun i x v h1 h2 h3=>?_⟩,fun x c q=>?_,BD,fun x c q=>I3.fO x c (eG x c q),fun p hp=>?_,I3.bc.kept ph,?_⟩
  ·have q:=(I3.bs b o e).2
   rcases (f3 b hb).2.2.2.1 with z|z
   ·exact I3.ok.DT b o e z
   ·exact absurd (Nat.lt_of_lt_of_le (aaJ e) (aaL I3.ok.Bf z)) (Nat.lt_irrefl _)
  ·obtain ⟨j,e1,e2⟩:=sY h2
   obtain ⟨a1,a2,a3,a4⟩:=BA.get h1 e1
   obtain ⟨mX,hnX,Sd⟩:=I3.loc
   obtain ⟨u,ru,l⟩:=Sd j x v a1 e2 a2
   refine⟨u,ru,?_⟩
   rcases l with ⟨l1,_⟩|⟨_,c,lc,z⟩
   ·have Se:X.env.scope.names.lookup x=some .local:=l1
    rw [Se] at a3
    exact absurd a3 (by decide)
   ·obtain ⟨c',FJ⟩:=qN x a4
    have ec:=eG x c' FJ
    rw [lc] at ec
    have Sf:c=c':=aaO ec
    subst Sf
    exact .inr ⟨iV a4,c,FJ,z.keeps ph⟩
  ·obtain ⟨v,z⟩:=I3.cell x c (eG x c q)
   exact⟨v,z.keeps ph⟩
  ·have rQ:p∈X.pn++pins:=by simpa using hp
   obtain ⟨a1,a2,a3,a4,a5⟩:=I3.pin p rQ
   exact⟨ph _ _ a1,a2,abw (aaJ a1),BE p.1 a3 a4,a5⟩
  ·show (pick ix σ).length=N.length
   unfold pick
   rw [aa5]
   exact BA.len
 have Od:∀ {pl:List (Addr×Obj)} {H':Hp},pl=[]->(∀ b∈fp,H' b=none)->∀ b∈fp,oY (dr X pins N scope s3.heap.objs.size s3 H3 fp) pl H' b:=fun {pl H'} W0 hn b hb=>by
  obtain ⟨f0,f1,Sh,Si,f4,f5⟩:=f3 b hb
  subst W0
  exact⟨hn b hb,abw (Sb b hb),BE b f1 Sh,.inl hb,fun x c q=>f4 x c (eG x c q),fun p hp=>f5 p (by simpa using hp)⟩
 have loop:∀ s4:Shared,(∃ m,s4={ s3 with heap:=h₁,toks:=s3.toks+([]:List (Str×Value)).length }/\h₁.Ns s3.heap.objs.size m) ->
   codeAny (model X.prog X.w) X.A (.compLoop (.ListComp elt [⟨tg,iter,ifs,0⟩] scope pos) 0 (.ref it) (.ref acc) (compEnvC scope (dP X.env.cells scope.names []) s3.heap.objs.size X.env))
    (compPost (model X.prog X.w) X.A X.xe none (EP X pins σ Q) (.ref acc) s3.heap.objs.size) s4:=by
  rintro s4 ⟨m4,rfl,GA⟩
  refine wy (E:=fun _ _=>False) (fun _ _ z=>z.elim)
   (fun n s'=>∃ i σ' ys H',Inv (dr X pins N scope s3.heap.objs.size s3 H3 fp) [] σ' H' s'/\tn i s'.heap/\(∀ b∈fp,H' b=none)/\W i n σ' ys H') ?_ m0
   ⟨0,pick ix σ,[],H3,YI h₁ m4 old GA,T.keep _ _ _ C8 fun b _ o q=>old b o q,fun b hb=>(f3 b hb).1,w0⟩
  rintro n s5 ⟨i,σ5,ys,H5,I5,J2,NJ,w5⟩
  obtain ⟨hl5,GB⟩:=turn i n σ5 ys H5 w5
  rcases GB with ⟨stop,q⟩|⟨go,m',MA,step⟩
  ·refine c6 (T.done (dr X pins N scope s3.heap.objs.size s3 H3 fp) rfl rfl rfl hc i [] s5 σ5 H5 (fun _ _=>False) I5 (Od rfl NJ) J2 stop) fun r s6 ⟨hr,I6⟩=>?_
   subst hr
   obtain ⟨m6,W2,_⟩:=I6.loc
   refine⟨m6,W2,fun h' sb=>?_⟩
   refine⟨.ref acc,H5,I3.Ml (ch:=fp) I6.os (I6.base.letGo (aaM _) sb) (I6.bc.letGo I6.free sb) I6.bare fun b hb=>?_,rfl,q⟩
   obtain ⟨f0,f1,Sh,Si,f4,f5⟩:=f3 b hb
   exact⟨Si,f1,f4,f5⟩
  ·refine c6 (T.item (dr X pins N scope s3.heap.objs.size s3 H3 fp) rfl rfl rfl hc i [] s5 σ5 H5 (fun _ _=>False) I5 (Od rfl NJ) J2 go) fun r s6 ⟨u,hr,h6⟩=>?_
   subst hr
   refine c6 h6 fun _ s7 ⟨x,H7,I7,r7,y7,Oe,Vs⟩=>?_
   have W3:=I7.pinned (Od rfl Vs) (T.obj _ _ Oe)
   refine c6 (hg pins s3.heap.objs.size s3 H3 fp _ s7 σ5 H7 x u _ W3 r7 (step x H7 y7)) fun _ s8 ⟨σ8,H8,I8,q8⟩=>?_
   refine c6 (zq (ht pins s3.heap.objs.size s3 H3 fp) I8 q8) fun b s9 ⟨H9,I9,q9⟩=>?_
   have back:∀ {σz:St} {Hz:Hp} {sz:Shared} {yz:List V},Inv (dr X pins N scope s3.heap.objs.size s3 H3 fp) ([]++oZ fp s7.heap) σz Hz sz->W (i+1) m' σz yz Hz ->
     ∃ m,m<n/\∃ i σ' ys H',Inv (dr X pins N scope s3.heap.objs.size s3 H3 fp) [] σ' H' sz/\tn i sz.heap/\(∀ b∈fp,H' b=none)/\W i m σ' ys H':=fun {σz Hz sz yz} Iz wz=>by
    refine⟨m',MA,i+1,σz,yz,Hz,Iz.fP,T.keep _ _ _ Oe fun b hb o e=>(Iz.pin (b,o) (aa0 _ (aa0 _ (fw hb e)))).1,fun b hb=>?_,wz⟩
    obtain ⟨o,e,d⟩:=T.obj _ _ Oe b hb
    exact (Iz.pin (b,o) (aa0 _ (aa0 _ (fw hb e)))).2.1
   cases b with
   | false=>exact back I9 q9
   | true =>
    refine c6 (he pins s3.heap.objs.size s3 H3 fp _ s9 σ8 H9 _ I9 q9) fun v QV ⟨y,QW,W4,W5,Of,Og,W6⟩=>?_
    refine c6 (cF _ QV σ8 QW (.ref acc) [y] (.ref acc) [v] (fun _ H'=>H'=upd QW acc (.lst (ys++[y]))) W4 rfl (.cons W5 .nil) ⟨acc,ys,y,rfl,rfl,Of,Og,rfl⟩) fun _ Sj ⟨_,H11,W7,_,W8⟩=>?_
    subst W8
    exact back W7 W6
 have GA:∃ m,h₁.Ns s3.heap.objs.size m:=⟨_,Ob⟩
 obtain ⟨m4,GA⟩:=GA
 have L:=loop _ ⟨m4,rfl,GA⟩
 exact codeAny_compStart_list L (T.self _ 0 _ _ _ (T.keep _ _ _ C8 fun b _ o q=>old b o q) L)
end
end L2
namespace L2
open PySem
theorem cU{a b:Nat}(h:@Ne Nat a b):@Ne Addr a b:=h
def bQ(k:Bool)(h:Heap)(a:Addr)(xs:Array Value):Prop:=match k with|true=>h.IsTuple a xs|false=>h.IsList a xs
def jJ(k:Bool)(h:Heap)(it a:Addr)(i:Nat):Prop:=match k with|true=>h.IsTupleIter it a i|false=>h.IsListIter it a i
def bX (k:Bool) (a:Addr):Obj:=match k with|true=>{ cls:=.type "tuple_iterator",data:=.fields #[.ref a,.int 0 0] }|false=>{ cls:=.type "list_iterator",data:=.fields #[.ref a,.int 0 0] }
abbrev IsT (h:Heap) (T:Addr) (vs:Array Value):Prop:=h.get? T=some { cls:=.type "tuple",data:=.seq vs }
theorem bQ.keep{k:Bool}{h h':Heap}{a:Addr}{xs:Array Value}(x:bQ k h a xs)(hk:∀ o,h.get? a=some o->h'.get? a=some o):bQ k h' a xs:=by
 cases k with
 | true=>obtain ⟨o,e,r⟩:=x;exact⟨o,hk o e,r⟩
 | false=>obtain ⟨o,e,r⟩:=x;exact⟨o,hk o e,r⟩
theorem jJ.keep{k:Bool}{h h':Heap}{it a:Addr}{i:Nat}(x:jJ k h it a i)(hk:∀ o,h.get? it=some o->h'.get? it=some o):jJ k h' it a i:=by
 cases k with
 | true=>obtain ⟨o,e,r⟩:=x;exact⟨o,hk o e,r⟩
 | false=>obtain ⟨o,e,r⟩:=x;exact⟨o,hk o e,r⟩
theorem jJ.obj{k:Bool}{h:Heap}{it a:Addr}{i:Nat}(x:jJ k h it a i):∃ o,h.get? it=some o/\∀ v,o.data≠.cell v:=by
 cases k with
 | true=>obtain ⟨o,e,_,d⟩:=x;exact⟨o,e,fun v z=>by rw [d] at z;cases z⟩
 | false=>obtain ⟨o,e,_,d⟩:=x;exact⟨o,e,fun v z=>by rw [d] at z;cases z⟩
theorem bQ.lt{k:Bool}{h:Heap}{a:Addr}{xs:Array Value}(x:bQ k h a xs):a<h.objs.size:=by
 cases k with
 | true=>obtain ⟨o,e,_⟩:=x;exact aaJ e
 | false=>obtain ⟨o,e,_⟩:=x;exact aaJ e
theorem iF{k:Bool}{h:Heap}{it a:Addr}(e:h.get? it=some (bX k a)):jJ k h it a 0:=by
 cases k with
 | true=>exact⟨_,e,rfl,rfl⟩
 | false=>exact⟨_,e,rfl,rfl⟩
section
variable {prog:Program}{w:World}{A:Around}{E:Value->Shared->Prop}{s:Shared}
theorem gq{k:Bool}{a:Addr}{xs:Array Value}{Q:Value->Shared->Prop}(h:bQ k s.heap a xs)(hQ:Q (.ref s.heap.objs.size) { s with heap:=s.heap.push (bX k a) }):wpAny (model prog w) A (pyIter (.ref a)) Q E s:=by
 cases k with
 | true=>exact wpAny_pyIter_tuple h hQ
 | false=>exact wpAny_pyIter_list h hQ
theorem nI{it t:Addr}{i:Nat}{items}{x:Value}{Q:Value->Shared->Prop}(hit:s.heap.IsTupleIter it t i)
  (ht:s.heap.IsTuple t items) (hx:items[i]?=some x)
  (hQ:∀ h',h'.IsTupleIter it t (i+1)->Heap.SameBut it s.heap h'->Q x { s with heap:=h' }) :
  wpAny (model prog w) A (Builtin.SmallTypes.nextOf (.ref it)) Q E s:=by
 obtain ⟨o,ho,hc,hd⟩:=id hit
 obtain ⟨ol,W9,_,nl,Xa⟩:=ht
 unfold Builtin.SmallTypes.nextOf
 refine aaH (wpAny_callSpecial?_slot (name:=Str.ofString "__next__") hit.typeIs F.slot_tuple_iterator_next
  (wpAny_call_entry F.slot_tuple_iterator_next hit.typeIs F.entry_tuple_iterator_next ?_ (F.args_tuple_iterator_next_1 _)))
 show wpAny _ _ (field (.ref it) 0 >>= _) _ _ s
 refine aaH (wpAny_field ho hd (x:=.ref t) rfl ?_)
 show wpAny _ _ (if (Value.ref t == Value.none)=true then _ else _) _ _ s
 rw [if_neg (show ¬ ((Value.ref t == Value.none)=true) from Bool.false_ne_true)]
 show wpAny _ _ (field (.ref it) 1 >>= _) _ _ s
 refine aaH (wpAny_field ho hd (x:=.int i 0) rfl ?_)
 show wpAny _ _ (seqItems? (.ref t) >>= _) _ _ s
 refine aaH (wpAny_seqItems W9 Xa ?_)
 simp only [abC,hx]
 refine aaH (wpAny_setField ho hd (by simp) (aaV ⟨x,rfl,aaV (hQ _ ?_ (Heap.SameBut.update ..))⟩))
 exact⟨_,Heap.get?_update_self _ ho (Obj.isFreed_of_fields (Obj.data_mapFields hd _)),(Obj.cls_mapFields ..).trans hc,by
  rw [Obj.data_mapFields hd];simp [rawInt]⟩
theorem pj{it t:Addr}{i:Nat}{items}{Q:Value->Shared->Prop}(hh:A.handled=none)
  (hit:s.heap.IsTupleIter it t i) (ht:s.heap.IsTuple t items) (hx:items[i]?=none)
  (hE:∀ h' e,Heap.ExtBut it s.heap h'->(∃ o,h'.get? e=some o/\o.cls=.type "StopIteration")->E (.ref e) { s with heap:=h' }) :
  wpAny (model prog w) A (Builtin.SmallTypes.nextOf (.ref it)) Q E s:=by
 obtain ⟨o,ho,hc,hd⟩:=id hit
 obtain ⟨ol,W9,_,nl,Xa⟩:=ht
 unfold Builtin.SmallTypes.nextOf
 refine aaH (wpAny_callSpecial?_slot (name:=Str.ofString "__next__") hit.typeIs F.slot_tuple_iterator_next
  (wpAny_call_entry F.slot_tuple_iterator_next hit.typeIs F.entry_tuple_iterator_next ?_ (F.args_tuple_iterator_next_1 _)))
 show wpAny _ _ (field (.ref it) 0 >>= _) _ _ s
 refine aaH (wpAny_field ho hd (x:=.ref t) rfl ?_)
 show wpAny _ _ (if (Value.ref t == Value.none)=true then _ else _) _ _ s
 rw [if_neg (show ¬ ((Value.ref t == Value.none)=true) from Bool.false_ne_true)]
 show wpAny _ _ (field (.ref it) 1 >>= _) _ _ s
 refine aaH (wpAny_field ho hd (x:=.int i 0) rfl ?_)
 show wpAny _ _ (seqItems? (.ref t) >>= _) _ _ s
 refine aaH (wpAny_seqItems W9 Xa ?_)
 simp only [abC,hx]
 refine aaH (wpAny_rule (aaH (wpAny_setField ho hd (by simp) ?_)))
 show wpAny _ _ (newExc (.type "StopIteration") [] >>= _) _ _ _
 refine aaH ?_
 simp only [newExc,newTuple]
 refine aaH (wpAny_newObj_type ?_ (by size_fits))
 refine aaH (m:=firstArgMember _ _) (wpAny_of_eq (a:=Value.none) (by first|rfl|(simp only [firstArgMember];rfl)) ?_)
 refine wpAny_newObj_type ?_ (by size_fits)
 simp only [raiseNew]
 refine aaH (wpAny_handled ?_)
 first|rw [show A.in1.handled=none from hh]|rw [hh]
 refine aaH (aaV (wpAny_throw ?_))
 exact hE _ _ (((Heap.SameBut.update ..).extBut.push _).push _) ⟨_,aaK _ rfl,rfl⟩
theorem gu{k:Bool}{it a:Addr}{i:Nat}{xs:Array Value}{x:Value}{Q:Value->Shared->Prop}(hit:jJ k s.heap it a i)(hs:bQ k s.heap a xs)(hx:xs[i]?=some x)
  (hQ:∀ h',jJ k h' it a (i+1)->Heap.SameBut it s.heap h'->Q x { s with heap:=h' }):wpAny (model prog w) A (Builtin.SmallTypes.nextOf (.ref it)) Q E s:=by
 cases k with
 | true=>exact nI hit hs hx hQ
 | false=>exact wpAny_nextOf_list_item hit hs hx hQ
theorem rR{k:Bool}{it a:Addr}{i:Nat}{xs:Array Value}{Q:Value->Shared->Prop}(hh:A.handled=none)(hit:jJ k s.heap it a i)(hs:bQ k s.heap a xs)(hx:xs[i]?=none)
  (hE:∀ h' e,Heap.ExtBut it s.heap h'->(∃ o,h'.get? e=some o/\o.cls=.type "StopIteration")->E (.ref e) { s with heap:=h' }):wpAny (model prog w) A (Builtin.SmallTypes.nextOf (.ref it)) Q E s:=by
 cases k with
 | true=>exact pj hh hit hs hx hE
 | false=>exact wpAny_nextOf_list_end hh hit hs hx hE
theorem kG{T:Addr}{vs:Array Value}{x:Value}{k:Nat}{Q:Unit->Shared->Prop}(hT:IsT s.heap T vs)(hz:vs.size<=8)
  (h:∀ h',IsT h' T (vs.setIfInBounds k x)->Heap.SameBut T s.heap h'->Q () { s with heap:=h' }):wpAny (model prog w) A (updateSeq T (·.setIfInBounds k x)) Q E s:=by
 have GC:vs.size<=sizeLine:=aaL hz (by decide)
 refine wpAny_updateSeq (hz:=GC) (_hz':=by simp only [Array.size_setIfInBounds];lia) hT rfl (h _ ?_ (Heap.SameBut.update ..))
 show (s.heap.update T _).get? T=_
 rw [Heap.get?_update_self _ hT rfl]
 simp [Obj.mapSeq]
structure zr(k1 k2:Bool)(n a b:Nat)(i:Nat)(f0:Value)(h:Heap):Prop where
 z:IsZip h (n+4) (n+2) (n+3) f0
 ti:IsT h (n+2) #[.ref n,.ref (n+1)]
 to:∃ u v,IsT h (n+3) #[u,v]
 i1:jJ k1 h n a i
 i2:jJ k2 h (n+1) b i
def Off(l:List Addr)(h h':Heap):Prop:=∀ c o,c∉l->h.get? c=some o->h'.get? c=some o
theorem Off.of{c:Addr}{l:List Addr}{h h':Heap}(s:Heap.SameBut c h h')(hc:c∈l):Off l h h':=fun b o hb e=>(s.2 b fun z=>hb (z ▸ hc)).trans e
theorem Off.trans{l:List Addr}{h h1 h2:Heap}(a:Off l h h1)(b:Off l h1 h2):Off l h h2:=fun c o hc e=>b c o hc (a c o hc e)
theorem Off.push{l:List Addr}{h:Heap}(o:Obj):Off l h (h.push o):=fun _ _ _ e=>aaG _ e
theorem D7{k1 k2:Bool}{n a b:Nat}{i:Nat}{xs ys:Array Value}{x y:Value}{Q:Value->Shared->Prop}(Z:zr k1 k2 n a b i .none s.heap)(ha:a<n)(hb:b<n)
  (h1:bQ k1 s.heap a xs) (h2:bQ k2 s.heap b ys) (hx:xs[i]?=some x) (hy:ys[i]?=some y)
  (hQ:∀ h',zr k1 k2 n a b (i+1) (rawInt s.heap.objs.size) h'->IsT h' s.heap.objs.size #[x,y]->h'.objs.size=s.heap.objs.size+1->Off [n,n+1,n+3,n+4] s.heap h'->Q (.ref s.heap.objs.size) { s with heap:=h' }) :
  wpAny (model prog w) A (Builtin.«zip.__next__» ⟨[.ref (n+4)],[]⟩) (fun fin s'=>∃ v,fin=.done (.ret v)/\Q v s') E s:=by
 obtain ⟨hz,zt,⟨u,v,Dm⟩,y6,rj⟩:=Z
 show wpAny _ _ (field (.ref (n+4)) 2 >>= _) _ _ _
 refine aaH (wpAny_field hz rfl (x:=.bool false) rfl ?_)
 show wpAny _ _ (field (.ref (n+4)) 3 >>= _) _ _ _
 refine aaH (wpAny_field hz rfl (x:=.ref (n+2)) rfl ?_)
 refine aaH (wpAny_seqItems zt rfl ?_)
 show wpAny _ _ (Builtin.SmallTypes.ownedTupleIsFree (.ref (n+4)) >>= _) _ _ _
 refine aaH ?_
 unfold Builtin.SmallTypes.ownedTupleIsFree
 refine aaH (wpAny_field hz rfl (x:=.none) rfl (aaV ?_))
 simp only [if_true]
 refine aaH (wpAny_rule ?_)
 refine aaH (wpAny_field hz rfl (x:=.ref (n+3)) rfl ?_)
 refine aaH (wpAny_setField_rec hz (by simp) fun g1 xq nk=>?_)
 replace xq:IsZip g1 (n+4) (n+2) (n+3) .ellipsis:=xq
 refine aaH ?_
 simp only [zipIdx_cons,zipIdx_nil,forIn_cons,forIn_nil]
 refine aaH (aaH (wpAny_onRaise ?_))
 show wpAny _ _ (Builtin.SmallTypes.nextOf (.ref n) >>= _) _ _ _
 refine aaH (gu (y6.keep fun o e=>(nk.2 _ (cU (by lia))).trans e) (h1.keep fun o e=>(nk.2 _ (cU (by lia))).trans e) hx fun g2 Kp fu=>aaV ?_)
 have zu:IsT g2 (n+3) #[u,v]:=(fu.2 _ (cU (by lia))).trans ((nk.2 _ (cU (by lia))).trans Dm)
 refine aaH (wpAny_seqItems zu rfl ?_)
 refine aaH (kG zu (by simp) fun g3 zv wB=>?_)
 replace zv:IsT g3 (n+3) #[x,v]:=zv
 refine aaH (wpAny_letGo (aaV ?_))
 refine aaH (aaH (wpAny_onRaise ?_))
 show wpAny _ _ (Builtin.SmallTypes.nextOf (.ref (n+1)) >>= _) _ _ _
 refine aaH (gu (rj.keep fun o e=>(wB.2 _ (cU (by lia))).trans ((fu.2 _ (cU (by lia))).trans ((nk.2 _ (cU (by lia))).trans e))) (h2.keep fun o e=>(wB.2 _ (cU (by lia))).trans ((fu.2 _ (cU (by lia))).trans ((nk.2 _ (cU (by lia))).trans e))) hy fun g4 Oh FN=>aaV ?_)
 have GD:IsT g4 (n+3) #[x,v]:=(FN.2 _ (cU (by lia))).trans zv
 refine aaH (wpAny_seqItems GD rfl ?_)
 refine aaH (kG GD (by simp) fun g5 zw Jy=>?_)
 replace zw:IsT g5 (n+3) #[x,y]:=zw
 refine aaH (wpAny_letGo (aaV (aaV ?_)))
 refine aaH (wpAny_seqItems zw rfl ?_)
 refine aaH (wpAny_newTuple ?_)
 have wj:g5.objs.size=s.heap.objs.size:=by rw [Jy.1,FN.1,wB.1,fu.1,nk.1]
 have QX:IsZip g5 (n+4) (n+2) (n+3) .ellipsis:=(Jy.2 _ (cU (by lia))).trans ((FN.2 _ (cU (by lia))).trans ((wB.2 _ (cU (by lia))).trans ((fu.2 _ (cU (by lia))).trans xq)))
 have Sk:Off [n,n+1,n+3,n+4] s.heap g5:=((((Off.of nk (by simp)).trans (Off.of fu (by simp))).trans (Off.of wB (by simp))).trans (Off.of FN (by simp))).trans (Off.of Jy (by simp))
 have GF:n+4<g5.objs.size:=aaJ QX
 show wpAny _ _ (Builtin.SmallTypes.ownedTupleHandOut (.ref (n+4)) (.ref g5.objs.size) >>= _) _ _ _
 refine aaH ?_
 unfold Builtin.SmallTypes.ownedTupleHandOut
 have hz6:IsZip (g5.push { cls:=.type "tuple",data:=.seq #[x,y] }) (n+4) (n+2) (n+3) .ellipsis:=aaG _ QX
 refine aaH (wpAny_setField_rec hz6 (by simp) fun g7 QY Kq=>?_)
 replace QY:IsZip g7 (n+4) (n+2) (n+3) (rawInt g5.objs.size):=QY
 refine wpAny_setField_rec QY (by simp) fun g8 QZ Xb=>?_
 replace QZ:IsZip g8 (n+4) (n+2) (n+3) (rawInt g5.objs.size):=QZ
 have up:∀ c o,c≠n+4->g5.get? c=some o->g8.get? c=some o:=fun c o c1 e=>(Xb.2 _ c1).trans ((Kq.2 _ c1).trans (aaG _ e))
 have Sl:IsT g8 g5.objs.size #[x,y]:=(Xb.2 _ (Nat.ne_of_gt GF)).trans ((Kq.2 _ (Nat.ne_of_gt GF)).trans (aaK _ rfl))
 have Sm:g8.objs.size=g5.objs.size+1:=by rw [Xb.1,Kq.1,Heap.size_push]
 rw [wj] at QZ Sl Sm
 refine aaV ⟨_,rfl,?_⟩
 show Q (.ref g5.objs.size) _
 rw [wj]
 refine hQ g8 ⟨QZ,up _ _ (cU (by lia)) (Sk _ _ (by simp) zt),⟨x,y,up _ _ (cU (by lia)) zw⟩,?_,?_⟩ Sl Sm fun c o hc e=>?_
 ·exact Kp.keep fun o e=>up _ o (cU (by lia)) ((Jy.2 _ (cU (by lia))).trans ((FN.2 _ (cU (by lia))).trans ((wB.2 _ (cU (by lia))).trans e)))
 ·exact Oh.keep fun o e=>up _ o (cU (by lia)) ((Jy.2 _ (cU (by lia))).trans e)
 ·exact up c o (fun z=>hc (by simp [z])) (Sk c o hc e)
theorem D8{k1 k2:Bool}{n a b:Nat}{i:Nat}{xs ys:Array Value}{Q:Fin->Shared->Prop}(hh:A.handled=none)(Z:zr k1 k2 n a b i .none s.heap)(ha:a<n)(hb:b<n)
  (h1:bQ k1 s.heap a xs) (h2:bQ k2 s.heap b ys) (vb:xs[i]?=none\/ys[i]?=none)
  (hE:∀ h' e,Off [n,n+1,n+3,n+4] s.heap h'->(∃ o,h'.get? e=some o/\o.cls=.type "StopIteration")->E (.ref e) { s with heap:=h' }) :
  wpAny (model prog w) A (Builtin.«zip.__next__» ⟨[.ref (n+4)],[]⟩) Q E s:=by
 obtain ⟨hz,zt,⟨u,v,Dm⟩,y6,rj⟩:=Z
 show wpAny _ _ (field (.ref (n+4)) 2 >>= _) _ _ _
 refine aaH (wpAny_field hz rfl (x:=.bool false) rfl ?_)
 show wpAny _ _ (field (.ref (n+4)) 3 >>= _) _ _ _
 refine aaH (wpAny_field hz rfl (x:=.ref (n+2)) rfl ?_)
 refine aaH (wpAny_seqItems zt rfl ?_)
 show wpAny _ _ (Builtin.SmallTypes.ownedTupleIsFree (.ref (n+4)) >>= _) _ _ _
 refine aaH ?_
 unfold Builtin.SmallTypes.ownedTupleIsFree
 refine aaH (wpAny_field hz rfl (x:=.none) rfl (aaV ?_))
 simp only [if_true]
 refine aaH (wpAny_rule ?_)
 refine aaH (wpAny_field hz rfl (x:=.ref (n+3)) rfl ?_)
 refine aaH (wpAny_setField_rec hz (by simp) fun g1 xq nk=>?_)
 replace xq:IsZip g1 (n+4) (n+2) (n+3) .ellipsis:=xq
 refine aaH ?_
 simp only [zipIdx_cons,zipIdx_nil,forIn_cons,forIn_nil]
 refine aaH (aaH (wpAny_onRaise ?_))
 show wpAny _ _ (Builtin.SmallTypes.nextOf (.ref n) >>= _) _ _ _
 have fin:∀ {g h':Heap} {e:Addr},IsZip g (n+4) (n+2) (n+3) .ellipsis->(∃ o,g.get? e=some o/\o.cls=.type "StopIteration")->Off [n,n+1,n+3,n+4] s.heap g->∀ s':Shared,s'={ s with heap:=g } ->
   wpAny (model prog w) A (setField (.ref (n+4)) 0 .none) (fun _ s'=>E (.ref e) s') E s':=by
  intro g h' e hzg ⟨oe,Oi,Sn⟩ off s' es
  subst es
  have Xc:e≠n+4:=fun z=>by subst z;rw [hzg] at Oi;cases Oi;simp at Sn
  exact wpAny_setField_rec hzg (by simp) fun g9 _ Kr=>hE g9 e (off.trans (Off.of Kr (by simp))) ⟨oe,(Kr.2 _ Xc).trans Oi,Sn⟩
 cases hx:xs[i]? with
 | none =>
  refine aaH (rR hh (y6.keep fun o e=>(nk.2 _ (cU (by lia))).trans e) (h1.keep fun o e=>(nk.2 _ (cU (by lia))).trans e) hx fun g2 e fu he=>?_)
  exact fin (h':=g2) (fu _ _ (cU (by lia)) xq) he ((Off.of nk (by simp)).trans fun c o hc q=>fu c o (fun z=>hc (by simp [z])) q) _ rfl
 | some x =>
  have hy:ys[i]?=none:=by rcases vb with h|h;rw [hx] at h;cases h;exact h
  refine aaH (gu (y6.keep fun o e=>(nk.2 _ (cU (by lia))).trans e) (h1.keep fun o e=>(nk.2 _ (cU (by lia))).trans e) hx fun g2 Kp fu=>aaV ?_)
  have zu:IsT g2 (n+3) #[u,v]:=(fu.2 _ (cU (by lia))).trans ((nk.2 _ (cU (by lia))).trans Dm)
  refine aaH (wpAny_seqItems zu rfl ?_)
  refine aaH (kG zu (by simp) fun g3 zv wB=>?_)
  refine aaH (wpAny_letGo (aaV ?_))
  refine aaH (aaH (wpAny_onRaise ?_))
  show wpAny _ _ (Builtin.SmallTypes.nextOf (.ref (n+1)) >>= _) _ _ _
  refine aaH (rR hh (rj.keep fun o e=>(wB.2 _ (cU (by lia))).trans ((fu.2 _ (cU (by lia))).trans ((nk.2 _ (cU (by lia))).trans e))) (h2.keep fun o e=>(wB.2 _ (cU (by lia))).trans ((fu.2 _ (cU (by lia))).trans ((nk.2 _ (cU (by lia))).trans e))) hy fun g4 e FN he=>?_)
  exact fin (h':=g4) (FN _ _ (cU (by lia)) ((wB.2 _ (cU (by lia))).trans ((fu.2 _ (cU (by lia))).trans xq))) he ((((Off.of nk (by simp)).trans (Off.of fu (by simp))).trans (Off.of wB (by simp))).trans fun c o hc q=>FN c o (fun z=>hc (by simp [z])) q) _ rfl
theorem zx{k1 k2:Bool}{n a b:Nat}{i:Nat}{xs ys:Array Value}{x y:Value}{Q:Option Value->Shared->Prop}(Z:zr k1 k2 n a b i .none s.heap)(ha:a<n)(hb:b<n)
  (h1:bQ k1 s.heap a xs) (h2:bQ k2 s.heap b ys) (hx:xs[i]?=some x) (hy:ys[i]?=some y)
  (hQ:∀ h',zr k1 k2 n a b (i+1) (rawInt s.heap.objs.size) h'->IsT h' s.heap.objs.size #[x,y]->h'.objs.size=s.heap.objs.size+1->Off [n,n+1,n+3,n+4] s.heap h'->Q (some (.ref s.heap.objs.size)) { s with heap:=h' }) :
  wpAny (model prog w) A (pyNext (.ref (n+4))) Q E s:=by
 have hT:s.TypeIs (.ref (n+4)) "zip":=⟨_,Z.z,rfl⟩
 unfold pyNext
 exact aaH (wpAny_attempt (wpAny_callSpecial?_slot (name:=Str.ofString "__next__") hT F.slot_zip_next
  (wpAny_call_entry F.slot_zip_next hT F.entry_zip_next
   (D7 Z ha hb h1 h2 hx hy fun h' a1 a2 a3 a4=>aaV (hQ h' a1 a2 a3 a4)) (F.args_zip_next_1 _))))
theorem rk{k1 k2:Bool}{n a b:Nat}{i:Nat}{xs ys:Array Value}{Q:Option Value->Shared->Prop}(hh:A.handled=none)(Z:zr k1 k2 n a b i .none s.heap)(ha:a<n)(hb:b<n)
  (h1:bQ k1 s.heap a xs) (h2:bQ k2 s.heap b ys) (vb:xs[i]?=none\/ys[i]?=none)
  (hQ:∀ h',Off [n,n+1,n+3,n+4] s.heap h'->Q none { s with heap:=h' }):wpAny (model prog w) A (pyNext (.ref (n+4))) Q E s:=by
 have hT:s.TypeIs (.ref (n+4)) "zip":=⟨_,Z.z,rfl⟩
 unfold pyNext
 refine aaH (wpAny_attempt (wpAny_callSpecial?_slot (name:=Str.ofString "__next__") hT F.slot_zip_next
  (wpAny_call_entry F.slot_zip_next hT F.entry_zip_next (D8 (A:=A.in1) hh Z ha hb h1 h2 vb fun h' e hk he=>?_) (F.args_zip_next_1 _))))
 obtain ⟨o,ho,hc⟩:=he
 refine aaH (wpAny_isInstance (T:="StopIteration") (b:=true) ⟨o,ho,hc⟩ isSubtype_stop ?_)
 exact aaV (hQ _ hk)
end
abbrev MB (k1 k2:Bool) (h:Heap) (a b:Addr):Heap:=((((h.push (bX k1 a)).push (bX k2 b)).push { cls:=.type "tuple",data:=.seq #[.ref h.objs.size,.ref (h.objs.size+1)] }).push { cls:=.type "tuple",data:=.seq #[.none,.none] }).push
 { cls:=.type "zip",data:=.fields #[.none,.bool false,.bool false,.ref (h.objs.size+2),.ref (h.objs.size+3)] }
theorem D9(k1 k2:Bool)(a b:Addr)(xs ys:Array Value) :
  Meets (Builtin.«zip.__new__» ⟨[.type "zip",.ref a,.ref b],[]⟩) (fun _ R s=>bQ k1 s.heap a xs/\bQ k2 s.heap b ys /\
   R (.ok (.ret (.ref (s.heap.objs.size+4)))) { s with heap:=MB k1 k2 s.heap a b }) :=
 .of_wp fun prog w A R s h=>by
  obtain ⟨hp,g,d,tk,os⟩:=s;obtain ⟨FO,Dk,h⟩:=h
  have Xd:=sub_zip
  have Xe:bQ k1 (Shared.heap ⟨hp,g,d,tk,os⟩) a xs:=FO
  have Xf:bQ k2 (Shared.heap ⟨hp.push (bX k1 a),g,d,tk,os⟩) b ys:=bQ.keep Dk fun o e=>aaG _ e
  wp_walk using gq Xe,gq Xf
  refine⟨_,rfl,?_⟩
  simp only [Heap.size_push]
  exact h
open PySem PySem.Spec PyProof.Rows
def Sq(k:Bool)(K:Frag)(H:Hp)(a:Addr)(xs:List V):Prop:=match k with|true=>aN K H a xs|false=>aR K H a xs
section
variable {X:Cx}{pins:List (Addr×Obj)}{σ:St}{H H':Hp}{s:Shared}
theorem Inv.sq{k:Bool}{a:Addr}{xs:List V}(I:Inv X pins σ H s)(h:Sq k X.K H a xs):∃ its:List Value,Vals xs its/\bQ k s.heap a its.toArray/\xs.length<=sizeLine:=by
 cases k with
 | true=>exact I.tuple h
 | false =>
  obtain ⟨its,r,p,z⟩:=I.list h
  exact⟨its,r,p.isList,z⟩
theorem Inv.pC{k:Bool}{a:Addr}{xs ys:List V}(I:Inv X pins σ H s)(h:Sq k X.K H a xs)(h':Sq k X.K H a ys):xs=ys:=by
 cases k with
 | true=>exact I.wd h h'
 | false=>exact I.zg h h'
theorem Inv.off{h':Heap}{t':Nat}{ch:List Addr}(I:Inv X pins σ H s)(hf:∀ b∈ch,oY X pins H b)(off:Off ch s.heap h')(bc:gW X.prog X.w H' h')
  (free:∀ b o,b∉ch->s.heap.get? b=some o->H b=none->H' b=none) (same:∀ b o,H b=some o->H' b=some o):Inv X pins σ H' { s with heap:=h',toks:=t' }:=by
 refine I.step (g':=s.gens) (d':=s.drawn) (ch:=ch) (fun b hb=>?_) (fun b o _ _ hc e _=>off b o hc e) (fun b o _ _ hc e _=>⟨o.slots,off b o hc e⟩) (fun b o hc e n=>free b o hc e n) (fun b o hc e=>⟨o,off b o hc e⟩)
  (fun b xs e=>same b _ e) (fun b o u e=>same b _ e) (fun b ps e=>⟨#[],by rw [same b _ e];simp⟩) (fun m hm=>?_) bc I.bare
 ·obtain ⟨f0,f1,f2,f3,f4,f5⟩:=hf b hb
  exact⟨f3,f1,f4,f5⟩
 ·obtain ⟨o,es,ep,ho,r⟩:=hm
  exact⟨o,es,ep,off _ o (fun z=>(hf _ z).2.1 rfl) ho,r⟩
theorem gW.off{P:Program}{w:World}{h h':Heap}{ch:List Addr}(x:gW P w H h)(hn:∀ b∈ch,H b=none)(off:Off ch h h'):gW P w H h':=fun a o e=>by
 have na:∀ b u,H b=some u->b∉ch:=fun b u q z=>by rw [hn b z] at q;cases q
 refine (x a o e).qX (fun b u hb q=>off b u ?_ q) (fun _ q=>q) fun _ _ q=>q
 rcases hb with rfl|hb
 ·exact na _ _ e
 ·exact na _ _ hb
theorem gW.BF{P:Program}{w:World}{h h':Heap}{ch:List Addr}{T:Addr}{ob:HO}(x:gW P w H h)(hn:∀ b∈ch,H b=none)(off:Off ch h h')(hT:h.objs.size<=T)(new:d3 P w (upd H T ob) h' T ob):gW P w (upd H T ob) h':=fun a o e=>by
 have BG:=x.fresh hT
 have na:∀ b u,H b=some u->b∉ch:=fun b u q z=>by rw [hn b z] at q;cases q
 by_cases ha:a=T
 ·subst ha;rw [av] at e;cases e;exact new
 ·rw [ax ha] at e
  refine (x a o e).qX (fun b u hb q=>off b u ?_ q) (fun c q=>by rw [ax (bf q BG)];exact q) fun c xs q=>by rw [ax (bf q BG)];exact q
  rcases hb with rfl|hb
  ·exact na _ _ e
  ·exact na _ _ hb
end
theorem Dn{c:Addr}{n:Nat}(z:c∈([n,n+1,n+3,n+4]:List Addr)):c∈([n+4,n+2,n+3,n,n+1]:List Addr):=by
 simp only [aa9,not_mem_nil,or_false] at z ⊢
 rcases z with h|h|h|h <;> simp [h]
def Ks(K : Frag)(k1 k2 : Bool)(a b : Addr) : It :=
  ⟨fun i H => ∃ xs ys x y, Sq k1 K H a xs /\ Sq k2 K H b ys /\ xs[i]?=some x /\ ys[i]?=some y,
   fun i H v H' => ∃ p x y, v=.ref p /\ H p=none /\ (∀ xs, Sq k1 K H a xs -> xs[i]?=some x) /\ (∀ ys, Sq k2 K H b ys -> ys[i]?=some y) /\ H'=upd H p (.tup [x, y]),
   fun i H => ∃ xs ys, Sq k1 K H a xs /\ Sq k2 K H b ys /\ (xs.length <= i \/ ys.length <= i)⟩
theorem Ea{P:Program}{w:World}{K:Frag}{es:List Expr}{kk:Nat}{pos:Pos}{k1 k2:Bool}(n a b:Nat)(ha:a<n)(hb:b<n) :
  Turn P w K (.Tuple es kk pos) (Ks K k1 k2 a b) [n+4,n+2,n+3,n,n+1] (n+4) (fun i h=>zr k1 k2 n a b i .none h) where
 mem:=by simp
 obj:=fun i h st c hc=>by
  obtain ⟨hz,zt,⟨u,v,Dm⟩,y6,rj⟩:=st
  simp only [aa9,not_mem_nil,or_false] at hc
  rcases hc with rfl|rfl|rfl|rfl|rfl
  ·exact⟨_,hz,fun v z=>nomatch z⟩
  ·exact⟨_,zt,fun v z=>nomatch z⟩
  ·exact⟨_,Dm,fun v z=>nomatch z⟩
  ·exact y6.obj
  ·exact rj.obj
 keep:=fun i h h' st k=>by
  obtain ⟨hz,zt,⟨u,v,Dm⟩,y6,rj⟩:=st
  exact⟨k _ (by simp) _ hz,k _ (by simp) _ zt,⟨u,v,k _ (by simp) _ Dm⟩,y6.keep fun o e=>k _ (by simp) o e,rj.keep fun o e=>k _ (by simp) o e⟩
 item:=by
  intro X hP hw hK hc i pins s σ H E I hf st hg
  subst hP hw hK
  obtain ⟨xs,ys,x,y,qx,qy,ex,ey⟩:=hg
  obtain ⟨GG,r1,s1,_⟩:=I.sq qx
  obtain ⟨Q0,r2,s2,_⟩:=I.sq qy
  obtain ⟨u,hu,ru⟩:=r1.get ex
  obtain ⟨v,hv,rv⟩:=r2.get ey
  refine zx st ha hb s1 s2 (x:=u) (y:=v) (by simpa using hu) (by simpa using hv) fun h' Z hT wj off=>⟨_,rfl,?_⟩
  have BG:H s.heap.objs.size=none:=I.bc.fresh (aaM _)
  have So:n+4<s.heap.objs.size:=aaJ st.z
  refine wpAny_letOwnedTupleGo_zip Z.z fun h2 GC fu=>?_
  have jR:Off [n+4,n+2,n+3,n,n+1] s.heap h2:=fun c o hc e=>(fu.2 c fun z=>hc (by simp [z])).trans (off c o (fun z=>hc (Dn z)) e)
  have zy:IsT h2 s.heap.objs.size #[u,v]:=(fu.2 _ (Nat.ne_of_gt So)).trans hT
  refine⟨.ref s.heap.objs.size,upd H s.heap.objs.size (.tup [x,y]),?_,rfl,⟨_,x,y,rfl,BG,fun zs xr=>by rw [I.pC xr qx];exact ex,fun zs xr=>by rw [I.pC xr qy];exact ey,rfl⟩,?_,fun c hc=>?_⟩
  ·refine Inv.off (s:=s) (h':=h2) (t':=s.toks) (ch:=[n+4,n+2,n+3,n,n+1]) I hf jR (I.bc.BF (fun c hc=>(hf c hc).1) jR (aaM _) ?_) (fun c o _ e hn=>?_) fun c o e=>?_
   ·exact⟨by show 2<=sizeLine;decide,[u,v],.cons ru (.cons rv .nil),⟨_,zy,rfl,_,rfl⟩⟩
   ·rw [ax (abw (aaJ e))];exact hn
   ·rw [ax (bf e BG)];exact e
  ·obtain ⟨z1,z2,⟨a1,a2,z3⟩,z4,z5⟩:=Z
   exact⟨GC,(fu.2 _ (cU (by lia))).trans z2,⟨a1,a2,(fu.2 _ (cU (by lia))).trans z3⟩,z4.keep fun o e=>(fu.2 _ (cU (by lia))).trans e,z5.keep fun o e=>(fu.2 _ (cU (by lia))).trans e⟩
  ·have cn:c≠s.heap.objs.size:=by
    simp only [aa9,not_mem_nil,or_false] at hc
    rcases hc with rfl|rfl|rfl|rfl|rfl <;> exact cU (by lia)
   rw [ax cn];exact (hf c hc).1
 done:=by
  intro X hP hw hK hc i pins s σ H E I hf st hg
  subst hP hw hK
  obtain ⟨xs,ys,qx,qy,vb⟩:=hg
  obtain ⟨GG,r1,s1,_⟩:=I.sq qx
  obtain ⟨Q0,r2,s2,_⟩:=I.sq qy
  have e1:=r1.length
  have e2:=r2.length
  refine rk (I.ok.hd hc) st ha hb s1 s2 ?_ fun h' off=>⟨rfl,?_⟩
  ·rcases vb with z|z
   ·exact .inl (by simp;lia)
   ·exact .inr (by simp;lia)
  ·have jR:Off [n+4,n+2,n+3,n,n+1] s.heap h':=fun c o hc e=>off c o (fun z=>hc (Dn z)) e
   exact Inv.off (s:=s) (t':=s.toks) I hf jR (I.bc.off (fun c hc=>(hf c hc).1) jR) (fun _ _ _ _ q=>q) fun _ _ q=>q
 self:=fun _ _ _ _ _ st h=>wpAny_pyIter_zip st.z h
section
variable {X:Cx}
def GH(K:Frag)(k1 k2:Bool)(ta:TA):TI:=fun σ H R=>ta σ H fun vs H1=>∃ a b,vs=[.ref a,.ref b]/\(∃ xs,Sq k1 K H1 a xs)/\(∃ ys,Sq k2 K H1 b ys)/\R (Ks K k1 k2 a b) H1
theorem Kt (k1 k2:Bool) {es:List Expr} {kk:Nat} {rf:Pos} {a b:Expr} {ta:TA} {p pos:Pos} (hg:Gl X "zip") (hm:X.mg "zip"=none) (ha:PA X [a,b] ta) (hs:starEach [a,b] X.env=[(false,eval a X.env),(false,eval b X.env)]:=by rfl) (fu:starEach [b] X.env=[(false,eval b X.env)]:=by rfl) :
  PI X (.Tuple es kk rf) (.Call (.Name "zip" p) [a,b] [] pos) (GH X.K k1 k2 ta):=by
 intro pins s σ H R I h
 refine Call_ (fv I hg hm boot_zip (callWith_type1 (c6 (ha pos pins s σ H _ I h) fun us s1 ⟨vs,H1,I1,r1,q1⟩=>?_) (by rw [hs,fu]) (by rw [fu];rfl)))
 obtain ⟨a',b',e,⟨xs,qx⟩,⟨ys,qy⟩,q⟩:=q1
 subst e
 obtain ⟨u,v,rfl,ru,rv⟩:=vals2 r1
 cases ru
 cases rv
 obtain ⟨GG,r1,MC,_⟩:=I1.sq qx
 obtain ⟨Q0,r2,Oj,_⟩:=I1.sq qy
 refine callType_new PySem.F.called_zip (by decide) (PySem.F.typeCall_zip_2 _ _) (PySem.F.newCall_zip_2 _ _) (fun obj=>PySem.F.args_object_init_3 obj _ _) PySem.F.entry_zip_new (D9 k1 k2 a' b' GG.toArray Q0.toArray) ⟨MC,Oj,?_⟩
 have z1:(s1.heap.push (bX k1 a')).objs.size=s1.heap.objs.size+1:=Heap.size_push ..
 have z2:((s1.heap.push (bX k1 a')).push (bX k2 b')).objs.size=s1.heap.objs.size+2:=by rw [Heap.size_push,z1]
 have z3:(((s1.heap.push (bX k1 a')).push (bX k2 b')).push { cls:=.type "tuple",data:=.seq #[.ref s1.heap.objs.size,.ref (s1.heap.objs.size+1)] }).objs.size=s1.heap.objs.size+3:=by rw [Heap.size_push,z2]
 have z4:((((s1.heap.push (bX k1 a')).push (bX k2 b')).push { cls:=.type "tuple",data:=.seq #[.ref s1.heap.objs.size,.ref (s1.heap.objs.size+1)] }).push { cls:=.type "tuple",data:=.seq #[.none,.none] }).objs.size=s1.heap.objs.size+4:=by rw [Heap.size_push,z3]
 have g5:(MB k1 k2 s1.heap a' b').get? (s1.heap.objs.size+4)=some { cls:=.type "zip",data:=.fields #[.none,.bool false,.bool false,.ref (s1.heap.objs.size+2),.ref (s1.heap.objs.size+3)] }:=by rw [<- z4];exact aaK _ rfl
 have g4:(MB k1 k2 s1.heap a' b').get? (s1.heap.objs.size+3)=some { cls:=.type "tuple",data:=.seq #[.none,.none] }:=by rw [<- z3];exact aaG _ (aaK _ rfl)
 have g3:(MB k1 k2 s1.heap a' b').get? (s1.heap.objs.size+2)=some { cls:=.type "tuple",data:=.seq #[.ref s1.heap.objs.size,.ref (s1.heap.objs.size+1)] }:=by rw [<- z2];exact aaG _ (aaG _ (aaK _ rfl))
 have g2:(MB k1 k2 s1.heap a' b').get? (s1.heap.objs.size+1)=some (bX k2 b'):=by rw [<- z1];exact aaG _ (aaG _ (aaG _ (aaK _ (by cases k2 <;> rfl))))
 have g1:(MB k1 k2 s1.heap a' b').get? s1.heap.objs.size=some (bX k1 a'):=aaG _ (aaG _ (aaG _ (aaG _ (aaK _ (by cases k1 <;> rfl)))))
 have old:∀ c o,s1.heap.get? c=some o->(MB k1 k2 s1.heap a' b').get? c=some o:=fun c o x=>aaG _ (aaG _ (aaG _ (aaG _ (aaG _ x))))
 have Z:zr k1 k2 s1.heap.objs.size a' b' 0 .none (MB k1 k2 s1.heap a' b'):=⟨g5,g3,⟨_,_,g4⟩,iF g1,iF g2⟩
 show _/\_
 refine⟨⟨_,g5,rfl⟩,wpAny_pyIter_zip Z.z ?_⟩
 refine⟨_,_,_,_,H1,rfl,I1.kept (t':=s1.toks) old,Ea s1.heap.objs.size a' b' MC.lt Oj.lt,Z,fun c hc=>?_,q⟩
 have tj:s1.heap.objs.size<=c:=by
  simp only [aa9,not_mem_nil,or_false] at hc
  rcases hc with rfl|rfl|rfl|rfl|rfl <;> first|exact le_add_right _ _|exact aaM _
 exact I1.u6 tj (I1.bc.fresh tj)
end
def lH(i:Int):Nat:=Builtin.Int.intBits i
def jF(i j:Int):Prop:=lH i+lH j<=1000000
theorem jF.ok{i j:Int}(h:jF i j):IntMulOk i j:=by
 unfold IntMulOk
 intro z
 simp only [Bool.and_eq_true,decide_eq_true_eq] at z
 have z2:=z.2
 unfold Builtin.Int.intTooBig at z2
 have h':Builtin.Int.intBits i+Builtin.Int.intBits j<=1000000:=h
 have b:(1000000:Int)<=bitsLine:=by decide
 simp only [decide_eq_true_eq] at z2
 lia
def Sr(i j:Int):Prop:=0<j/\j.natAbs.log2<9000
section
variable {X:Cx}
theorem Ku:jO X (binaryOp .Mult) (rI jF fun i j=>.int (i*j)):=Mt fun _ _ _ _ _ _ _ hc q=>mul_int q hc.ok
theorem zA:jO X (binaryOp .FloorDiv) (rI Sr fun i j=>.int (i / j)):=Mt fun i j _ _ _ _ _ hc q=>by
 have h1:(0:Int)<j:=hc.1
 exact floordiv_int (by lia) (by rw [aaY i (by lia)];exact q) (.inl (PyProof.noPylong_of_log2 hc.2))
def TyR (K:Frag) (H:Hp) (x:V) (t:Value):Prop:=pf K H x t\/(∃ a xs,x=.ref a/\aN K H a xs/\t=.type "tuple")\/(∃ a xs,x=.ref a/\aR K H a xs/\t=.type "list")
theorem zB:dA X (.builtin "isinstance") (fun xs H Q=>∃ x n t b,xs=[x,.ty n]/\TyR X.K H x t/\kitOne X.K t (.type n)=some b/\Q (.bl b) H):=by
 intro pins s σ H xs us Q I r h
 obtain ⟨x,n,t,b,rfl,ty,e,q⟩:=h
 obtain ⟨u,c,rfl,ru,rc⟩:=vals2 r
 obtain rfl:c=Value.type n:=rc
 have fin:∀ tk,EP X pins σ Q (.bool b) { s with toks:=tk }:=fun tk=>⟨.bl b,H,I.tok tk,rfl,q⟩
 rcases ty with ty|⟨a,ys,rfl,hs,rfl⟩|⟨a,ys,rfl,hs,rfl⟩
 ·exact D0 I ru ty e fin
 ·obtain rfl:u=Value.ref a:=ru
  obtain ⟨its,_,p,_⟩:=I.tuple hs
  obtain ⟨o,h1,h2,_⟩:=p
  exact kia_one kitx_tuple I.kC ⟨o,h1,h2⟩ e (fun z=>nomatch z) fin
 ·obtain rfl:u=Value.ref a:=ru
  obtain ⟨its,_,p,_⟩:=I.list hs
  obtain ⟨o,n',h1,h2,_⟩:=p
  exact kia_one kitx_list I.kC ⟨o,h1,h2⟩ e (fun z=>nomatch z) fin
end
theorem nJ(K:Frag)(t:Value):kitOne K t t=some true:=by
 unfold kitOne
 rw [if_pos (by simp)]
def Def(K:Frag)(mg:Str->Option Value)(x:Str)(st:Stmt)(ps:List Str):Prop:=∃ f fd,Km K x x st f fd/\mg x=some (.ref f)/\Binds K fd ps []
def Ok(P:Program)(w:World)(K:Frag)(mg:Str->Option Value)(base:Heap)(k:Nat)(x:Str)(ps:List Str)(sp:Sp):Prop :=
 ∃ f fd,nC P w K mg base D6 k f fd ps sp/\mg x=some (.ref f)/\keepIn K (.ref f)=true/\Binds K fd ps []
section
variable {P:Program}{w:World}{K:Frag}{mg:Str->Option Value}{base:Heap}
theorem Def.ok{x:Str}{st:Stmt}{N ps:List Str}{k:Nat}{sp:Sp}(D:Def K mg x st ps)(S:aF N ps (aq st))(len:∀ vs H Q E,sp vs H Q E->vs.length=ps.length)
  (nD:∀ (f:Addr) (c7:Value) (A:Around) (outer:List Env) (s:Shared) (H:Hp) (vs:List V) (Q:VK) (E:XK),c9 k (A.deeper (envOfC x (aq st) s.heap.objs.size f c7))->sp vs H Q E ->
   ∃ t,Ba (xh D6 P w K mg base N x (aq st) f c7 A outer s H E).Ju (bN st) t/\t { nx:=fun _ H'=>Q .dz H',rt:=Q } (start N vs) H):Ok P w K mg base (k+1) x ps sp:=by
 obtain ⟨f,fd,F,hm,hb⟩:=D
 exact⟨f,fd,F.ok S len fun c7 A outer s H vs Q E hr h=>nD f c7 A outer s H vs Q E hr h,hm,F.kp,hb⟩
end
section
variable {X:Cx}{k:Nat}{x:Str}{ps:List Str}{sp:Sp}{p pos:Pos}{e:Expr}{es:List Expr}{t:TA}
theorem az(O:Ok X.prog X.w X.K X.mg X.base k x ps sp)(hr:c9 k X.A)(ha:PA X (e::es) t)(hg:Gl X x:=by rfl)
  (u7:(x == ("__debug__":Str))=false:=by decide) (he:starEach (e::es) X.env=(false,eval e X.env)::starEach es X.env:=by rfl) (qL:(backTo pos (starEach es X.env)).any (·.1)=false:=by rfl) :
  PE X (.Call (.Name x p) (e::es) [] pos) (zm sp [] E0 t):=by
 obtain ⟨f,fd,F,hm,hk,hb⟩:=O
 exact J8 F hr hg hm hk hb .nil Dl ha u7 he qL
end
theorem ai.bC{H:Hp}{a:Addr}{o:HO}(h:H a=none):ai H (upd H a o):=fun b u e=>by rw [ax (bf e h)];exact e
theorem ai.at{K:Frag}{H H':Hp}{a:Addr}{xs:List V}(e:ai H H')(h:aN K H a xs):aN K H' a xs:=by
 rcases h with (h|⟨o,h⟩)|h
 ·exact .inl (.inl (e _ _ h))
 ·exact .inl (.inr ⟨o,e _ _ h⟩)
 ·exact .inr h
theorem ai.sq{k:Bool}{K:Frag}{H H':Hp}{a:Addr}{xs:List V}(e:ai H H')(h:Sq k K H a xs):Sq k K H' a xs:=by
 cases k with
 | true=>exact ai.at e h
 | false=>exact ai.seq e h
def CW(t:Nat)(l:Addr)(n:Nat)(f:Nat->V)(fr:St)(H1:Hp)(i m:Nat)(σ1:St)(ys:List V)(H':Hp):Prop :=
 m=n - i/\i<=n/\(∃ own:St,own.length=t/\σ1=own++fr)/\ys=(List.range i).map f/\ai H1 H'/\H' l=some (.lst ys)
theorem CW.next{t:Nat}{l:Addr}{n:Nat}{f:Nat->V}{fr:St}{H1 H' H5:Hp}{i:Nat}{y:V}(own:St)(ho:own.length=t)(hi:i<n)(hn:n<=1000000)(hl:H1 l=none)(hs:ai H1 H')(dE:H' l=some (.lst ((List.range i).map f)))(s5:ai H' H5)(ey:y=f i) :
  H5 l=some (.lst ((List.range i).map f))/\((List.range i).map f).length<sizeLine/\CW t l n f fr H1 (i+1) (n - (i+1)) (own++fr) ((List.range i).map f++[y]) (upd H5 l (.lst ((List.range i).map f++[y]))):=by
 subst ey
 refine⟨s5 _ _ dE,?_,rfl,hi,⟨own,ho,rfl⟩,?_,fun b o e=>?_,av⟩
 ·rw [aa5,abi]
  exact Nat.lt_of_lt_of_le (Nat.lt_of_lt_of_le hi hn) (by decide)
 ·rw [range_succ,abo];rfl
 ·rw [ax (bf e hl)]
  exact s5 _ _ (hs _ _ e)
theorem Dp{J:It}{H1:Hp}{ix:List (Option Nat)}{σ:St}{g:TG}{tt:TT}{te:TE}{Q:VK}(t:Nat)(fr:St)(n:Nat)(f:Nat->V)(jK:pick ix σ=List.replicate t none++fr)
  (nK:∀ H',ai H1 H'->J.stop n H') (Kv:∀ i H',i<n->ai H1 H'->J.go i H')
  (step:∀ i x l H' H2 own,own.length=t->i<n->H1 l=none->ai H1 H'->H' l=some (.lst ((List.range i).map f))->J.J0 i H' x H2 ->
   g x (own++fr) H2 fun σ2 H3=>tt σ2 H3 fun b H4=>if b=true then te σ2 H4 fun y H5=>H5 l=some (.lst ((List.range i).map f))/\((List.range i).map f).length<sizeLine/\CW t l n f fr H1 (i+1) (n - (i+1)) σ2 ((List.range i).map f++[y]) (upd H5 l (.lst ((List.range i).map f++[y])))
    else CW t l n f fr H1 (i+1) (n - (i+1)) σ2 ((List.range i).map f) H4)
  (hQ:∀ l H',H1 l=none->ai H1 H'->H' l=some (.lst ((List.range n).map f))->Q (.ref l) H') :
  bP ix g tt te σ Q J H1:=by
 intro l hl
 refine⟨CW t l n f fr H1,⟨n,by simp,abv _,⟨_,length_replicate,jK⟩,rfl,ai.bC hl,av⟩,?_⟩
 rintro i m σ1 ys H' ⟨rfl,hi,⟨own,ho,rfl⟩,rfl,hs,dE⟩
 refine⟨dE,?_⟩
 by_cases lV:i<n
 ·exact .inr ⟨Kv i H' lV hs,n - (i+1),by lia,fun x H2 hy=>step i x l H' H2 own ho lV hl hs dE hy⟩
 ·obtain rfl:i=n:=by lia
  exact .inl ⟨nK H' hs,hQ l H' hl hs dE⟩
theorem nN{J:It}{H1:Hp}{ix:List (Option Nat)}{σ:St}{te:TE}{Q:VK}(fr:St)(n:Nat)(f:Nat->V)(jK:pick ix σ=none::fr)(hn:n<=1000000)
  (nK:∀ H',ai H1 H'->J.stop n H') (Kv:∀ i H',i<n->ai H1 H'->J.go i H')
  (step:∀ i x H' H2 (Qc:VK),i<n->ai H1 H'->J.J0 i H' x H2->(∀ H5,ai H' H5->Qc (f i) H5)->te (some x::fr) H2 Qc)
  (hQ:∀ l H',H1 l=none->ai H1 H'->H' l=some (.lst ((List.range n).map f))->Q (.ref l) H'):bP ix (bT 0) (fun _ H Q=>Q true H) te σ Q J H1:=by
 refine Dp 1 fr n f jK nK Kv (fun i x l H' H2 own ho hi hl hs dE hy=>?_) hQ
 obtain ⟨o1,rfl⟩:∃ o1,own=[o1]:=by match own,ho with|[o1],_=>exact⟨o1,rfl⟩
 dsimp only [bT]
 rw [if_pos rfl]
 exact step i x H' H2 _ hi hs hy fun H5 s5=>CW.next (fr:=fr) [some x] rfl hi hn hl hs dE s5 rfl
theorem fR{K:Frag}{k1 k2:Bool}{a b:Addr}{xs ys:List V}{H1:Hp}{ix:List (Option Nat)}{σ:St}{te:TE}{Q:VK}(fr:St)(f:Nat->V)(jK:pick ix σ=none::none::fr)(ha:Sq k1 K H1 a xs)(hb:Sq k2 K H1 b ys)(hlen:xs.length=ys.length)(hn:xs.length<=1000000)
  (step:∀ i x y H' (Qc:VK),xs[i]?=some x->ys[i]?=some y->ai H1 H'->(∀ H5,ai H' H5->Qc (f i) H5)->te (some x::some y::fr) H' Qc)
  (hQ:∀ l H',H1 l=none->ai H1 H'->H' l=some (.lst ((List.range xs.length).map f))->Q (.ref l) H'):bP ix (qZ K 2 (d5 (bT 0) (d5 (bT 1) sR))) (fun _ H Q=>Q true H) te σ Q (Ks K k1 k2 a b) H1:=by
 refine Dp 2 fr xs.length f jK (fun H' s=>⟨_,_,s.sq ha,s.sq hb,.inl (aaM _)⟩) (fun i H' hi s=>?_) (fun i x l H' H2 own ho hi hl hs dE hy=>?_) hQ
 ·exact⟨_,_,xs[i],ys[i]'(hlen ▸ hi),s.sq ha,s.sq hb,aaZ hi,aaZ (hlen ▸ hi)⟩
 ·obtain ⟨o1,o2,rfl⟩:∃ o1 o2,own=[o1,o2]:=by match own,ho with|[o1,o2],_=>exact⟨o1,o2,rfl⟩
  obtain ⟨p,x',y',rfl,hp,e1,e2,rfl⟩:=hy
  have g1:=e1 _ (hs.sq ha)
  have g2:=e2 _ (hs.sq hb)
  refine⟨p,_,rfl,aN.of av,rfl,_,_,rfl,_,_,rfl,rfl,?_⟩
  show ite (true=true) _ _
  rw [if_pos rfl]
  exact step i x' y' _ _ g1 g2 (hs.trans (ai.bC hp)) fun H5 s5=>CW.next (fr:=fr) [some x',some y'] rfl hi hn hl hs dE ((ai.bC hp).trans s5) rfl
theorem cb{r:List Int}{i:Nat}{x:V}(h:(r.map V.int)[i]?=some x):x=.int (r.getD i 0)/\i<r.length:=by
 rw [abn] at h
 cases e:r[i]? with
 | none=>rw [e] at h;cases h
 | some z =>
  rw [e] at h
  have hl:=(aaI.mp e).1
  refine⟨?_,hl⟩
  rw [<- (aaO h),List.getD,e];rfl
theorem int_at{r:List Int}{i:Nat}(h:i<r.length):(r.map V.int)[i]?=some (.int (r.getD i 0)):=by
 rw [abn,List.getD,aaZ h];rfl
theorem range_getD{α:Type}(f:Int->α)(r:List Int):(List.range r.length).map (fun i=>f (r.getD i 0))=r.map f:=by
 apply ext_getElem
 ·simp
 ·intro i h1 h2
  simp at h1 h2
  simp [List.getD,h1]
theorem Eb{α:Type}(f:Int->Int->α)(r q:List Int)(h:r.length=q.length):(List.range r.length).map (fun i=>f (r.getD i 0) (q.getD i 0))=List.zipWith f r q:=by
 apply ext_getElem
 ·simp [h]
 ·intro i h1 h2
  simp at h1 h2
  have:i<q.length:=by lia
  simp [List.getD,h1,this]
theorem tm{K:Frag}{a b:Addr}{r q:List Int}{H1:Hp}{ix:List (Option Nat)}{σ:St}{Q:VK}(op:Int->Int->Int)(jK:pick ix σ=[none,none])(ha:aN K H1 a (r.map V.int))(hb:aN K H1 b (q.map V.int))(hlen:r.length=q.length)(hn:r.length<=1000)
  (hQ:∀ l H',H1 l=none->ai H1 H'->H' l=some (.lst ((List.zipWith op r q).map V.int))->Q (.ref l) H') :
  bP ix (qZ K 2 (d5 (bT 0) (d5 (bT 1) sR))) (fun _ H Q=>Q true H) (NK (J3 fun i j=>.int (op i j)) (Bg 0) (Bg 1)) σ Q (Ks K true true a b) H1:=by
 refine fR (k1:=true) (k2:=true) [] (fun i=>.int (op (r.getD i 0) (q.getD i 0))) jK ha hb (by simpa using hlen) (by rw [aa5];lia) (fun i x y H' Qc ex ey hs kc=>?_) fun l H' hl hs dE=>hQ l H' hl hs ?_
 ·obtain ⟨rfl,_⟩:=cb ex
  obtain ⟨rfl,_⟩:=cb ey
  exact⟨_,rfl,_,rfl,_,_,rfl,rfl,kc _ (ai.refl _)⟩
 ·rw [dE,aa5,Eb (fun x y=>V.int (op x y)) r q hlen,List.map_zipWith]
theorem wC{K:Frag}{a:Addr}{r:List Int}{H1:Hp}{ix:List (Option Nat)}{σ:St}{te:TE}{Q:VK}(F:Int->V)(fr:St)(jK:pick ix σ=none::fr)(ha:aN K H1 a (r.map V.int))(hn:r.length<=1000)
  (step:∀ x H' (Qc:VK),x∈r->ai H1 H'->(∀ H5,ai H' H5->Qc (F x) H5)->te (some (.int x)::fr) H' Qc)
  (hQ:∀ l H',H1 l=none->ai H1 H'->H' l=some (.lst (r.map F))->Q (.ref l) H'):bP ix (bT 0) (fun _ H Q=>Q true H) te σ Q (QU K a) H1:=by
 refine nN fr r.length (fun i=>F (r.getD i 0)) jK (by lia) (fun H' s=>⟨_,s.at ha,by simp⟩) (fun i H' hi s=>⟨_,_,s.at ha,int_at hi⟩) (fun i x H' H2 Qc hi hs hy kc=>?_) fun l H' hl hs dE=>hQ l H' hl hs ?_
 ·obtain ⟨rfl,e1⟩:=hy
  obtain ⟨rfl,_⟩:=cb (e1 _ (hs.at ha))
  exact step _ _ Qc (by rw [List.getD,aaZ hi];exact abA hi) hs kc
 ·rw [dE,range_getD F r]
theorem d7{K:Frag}{a:Addr}{r:List Int}{H1:Hp}{ix:List (Option Nat)}{σ:St}{te:TE}{Q:VK}(F:Int->V)(fr:St)(jK:pick ix σ=none::fr)(ha:aR K H1 a (r.map V.int))(hn:r.length<=1000)
  (step:∀ x H' (Qc:VK),x∈r->ai H1 H'->(∀ H5,ai H' H5->Qc (F x) H5)->te (some (.int x)::fr) H' Qc)
  (hQ:∀ l H',H1 l=none->ai H1 H'->H' l=some (.lst (r.map F))->Q (.ref l) H'):bP ix (bT 0) (fun _ H Q=>Q true H) te σ Q (Jv K a) H1:=by
 refine nN fr r.length (fun i=>F (r.getD i 0)) jK (by lia) (fun H' s=>⟨_,s.seq ha,by simp⟩) (fun i H' hi s=>⟨_,_,s.seq ha,int_at hi⟩) (fun i x H' H2 Qc hi hs hy kc=>?_) fun l H' hl hs dE=>hQ l H' hl hs ?_
 ·obtain ⟨rfl,e1⟩:=hy
  obtain ⟨rfl,_⟩:=cb (e1 _ (hs.seq ha))
  exact step _ _ Qc (by rw [List.getD,aaZ hi];exact abA hi) hs kc
 ·rw [dE,range_getD F r]
end L2
namespace fU
def MD(a b c d e:Nat):Int:=2 ^ a*3 ^ b*5 ^ c*7 ^ d*11 ^ e
def Xg(ps:List Int)(es:List Int):Int:=(List.zipWith (fun p e=>p ^ e.toNat) ps es).foldl (·*·) 1
def Ol:List Int:=[2,3,5,7,11]
def num(es:List Int):Int:=Xg Ol es
def P5(p:Int):Prop:=p=2\/p=3\/p=5\/p=7\/p=11
def Cop(m:Int):Prop:=∀ p,P5 p->m % p≠0
def bl(x:Int):Nat:=if x == 0 then 0 else x.natAbs.log2+1
theorem zC{x:Int}{k:Nat}(h:x.natAbs<2 ^ k):bl x<=k:=by
 unfold bl
 split
 ·lia
 ·rename_i hx
  have lP:x.natAbs≠0:=by simpa using hx
  have:=(log2_lt lP).mpr h
  lia
def F(m:Int)(x y:Int):Prop:=2 ^ (-m).toNat*y<=2 ^ m.toNat*x
def rt(b c d e:Int):Int:=MD 0 b.toNat c.toNat d.toNat e.toNat
def rb(b c d e:Int):Int:=MD 0 (-b).toNat (-c).toNat (-d).toNat (-e).toNat
section
variable (c0 c1 c2 c3 c4:Nat){m:Int}(h:Cop m)
include h
end
theorem zD{α β:Type}{f:α->β}{qs ps:List β}(h:qs.Perm ps):∀ {l:List α},ps=l.map f->∃ m:List α,m.Perm l/\qs=m.map f:=by
 induction h with
 | nil=>intro l e;exact⟨[],by rw [List.map_eq_nil_iff.mp e.symm],rfl⟩
 | cons x _ ih =>
  intro l e
  cases l with
  | nil=>cases e
  | cons a l =>
   rw [map_cons] at e
   injection e with e1 e2
   obtain ⟨m,p,q⟩:=ih e2
   exact⟨a::m,p.cons a,by rw [map_cons,q,e1]⟩
 | swap x y l0 =>
  intro l e
  match l,e with
  | a::b::l,e =>
   simp only [map_cons,List.cons.injEq] at e
   obtain ⟨e1,e2,e3⟩:=e
   exact⟨b::a::l,.swap _ _ _,by rw [map_cons,map_cons,e1,e2,e3]⟩
 | trans _ _ Xh Xi =>
  intro l e
  obtain ⟨m,p,q⟩:=Xi e
  obtain ⟨m',p',q'⟩:=Xh q
  exact⟨m',p'.trans p,q'⟩
def sub(a b:List Int):List Int:=List.zipWith (· - ·) a b
def c5(r:List Int)(k:Int):List Int:=r.map (·*k)
def tp(n:Nat):List Int:=List.replicate n 0
theorem sub_len{a b:List Int}{n:Nat}(ha:a.length=n)(hb:b.length=n):(sub a b).length=n:=by simp [sub,ha,hb]
theorem aP{r:List Int}{n:Nat}{k:Int}(h:r.length=n):(c5 r k).length=n:=by simp [c5,h]
theorem bZ(n:Nat):(tp n).length=n:=by simp [tp]
theorem bW{a b:List Int}{n:Nat}(ha:a.length=n)(hb:b.length=n)(i:Nat):(sub a b).getD i 0=a.getD i 0 - b.getD i 0:=by
 by_cases h:i<n
 ·simp only [sub,List.getD,getElem?_zipWith]
  rw [aaZ (by lia),aaZ (by lia)]
  rfl
 ·simp only [sub,List.getD]
  rw [getElem?_eq_none (by simp;lia),getElem?_eq_none (by lia),getElem?_eq_none (by lia)]
  rfl
theorem bK(r:List Int)(k:Int)(i:Nat):(c5 r k).getD i 0=r.getD i 0*k:=by
 simp only [c5,List.getD,abn]
 cases r[i]? <;> simp
theorem d8(n i:Nat):(tp n).getD i 0=0:=by
 simp only [tp,List.getD,List.getElem?_replicate]
 split <;> rfl
theorem b7{a b:List Int}{n:Nat}(ha:a.length=n)(hb:b.length=n)(h:∀ i,i<n->a.getD i 0=b.getD i 0):a=b:=by
 apply ext_getElem (by lia)
 intro i h1 h2
 have:=h i (by lia)
 rw [List.getD,List.getD,aaZ h1,aaZ h2] at this
 exact this
def Cl(n:Nat)(P:List Int->Prop):Prop:=P (tp n)/\∀ a b:List Int,a.length=n->b.length=n->P a->P b->P (sub a b)
def Span(n:Nat)(rs:List (List Int))(v:List Int):Prop:=∀ P:List Int->Prop,Cl n P->(∀ r∈rs,P r)->P v
def Len(n:Nat)(rs:List (List Int)):Prop:=∀ r∈rs,r.length=n
theorem Span.mem{n:Nat}{rs:List (List Int)}{r:List Int}(h:r∈rs):Span n rs r:=fun _ _ k=>k r h
theorem Span.zero{n:Nat}{rs:List (List Int)}:Span n rs (tp n):=fun _ c _=>c.1
theorem Span.sub{n:Nat}{rs:List (List Int)}{a b:List Int}(la:a.length=n)(lb:b.length=n)(ha:Span n rs a)(hb:Span n rs b):Span n rs (fU.sub a b):=fun P c k=>c.2 a b la lb (ha P c k) (hb P c k)
theorem Span.cl{n:Nat}(rs:List (List Int)):Cl n (Span n rs):=⟨Span.zero,fun _ _ la lb ha hb=>Span.sub la lb ha hb⟩
theorem Span.of{n:Nat}{rs qs:List (List Int)}{v:List Int}(h:Span n rs v)(hq:∀ r∈rs,Span n qs r):Span n qs v:=h _ (Span.cl qs) hq
theorem Span.len{n:Nat}{rs:List (List Int)}{v:List Int}(h:Span n rs v)(hl:Len n rs):v.length=n:=h (fun v=>v.length=n) ⟨bZ n,fun _ _ ha hb _ _=>sub_len ha hb⟩ hl
theorem Span.neg{n:Nat}{rs:List (List Int)}{a:List Int}(la:a.length=n)(ha:Span n rs a):Span n rs (c5 a (-1)):=by
 have e:c5 a (-1)=fU.sub (tp n) a:=b7 (aP la) (sub_len (bZ n) la) fun i _=>by rw [bK,bW (bZ n) la,d8];lia
 rw [e]
 exact Span.sub (bZ n) la Span.zero ha
theorem Span.Om{n:Nat}{rs:List (List Int)}{a:List Int}(la:a.length=n)(ha:Span n rs a):∀ k:Nat,Span n rs (c5 a k)
 | 0=>by
  have e:c5 a ((0:Nat):Int)=tp n:=b7 (aP la) (bZ n) fun i _=>by rw [bK,d8];simp
  rw [e]
  exact Span.zero
 | k+1=>by
  have e:c5 a ((k+1:Nat):Int)=fU.sub (c5 a k) (c5 a (-1)):=b7 (aP la) (sub_len (aP la) (aP la)) fun i _=>by
   rw [bK,bW (aP la) (aP la),bK,bK,Int.natCast_add,Int.mul_add]
   simp
  rw [e]
  exact Span.sub (aP la) (aP la) (Span.Om la ha k) (Span.neg la ha)
theorem Span.mul{n:Nat}{rs:List (List Int)}{a:List Int}(la:a.length=n)(ha:Span n rs a)(k:Int):Span n rs (c5 a k):=by
 rcases Int.le_total 0 k with h|h
 ·obtain ⟨m,rfl⟩:=Int.eq_ofNat_of_zero_le h
  exact Span.Om la ha m
 ·obtain ⟨m,e⟩:=Int.eq_ofNat_of_zero_le (show 0<=-k by lia)
  have e2:c5 a k=c5 (c5 a m) (-1):=b7 (aP la) (aP (aP la)) fun i _=>by
   rw [bK,bK,bK,Int.mul_assoc]
   congr 1
   lia
  rw [e2]
  exact Span.neg (aP la) (Span.Om la ha m)
def low(v s:List Int)(q:Int):List Int:=sub v (c5 s q)
theorem b8{v s:List Int}{n:Nat}{q:Int}(hv:v.length=n)(hs:s.length=n):(low v s q).length=n:=sub_len hv (aP hs)
theorem cW{v s:List Int}{n:Nat}(hv:v.length=n)(hs:s.length=n)(q:Int)(i:Nat):(low v s q).getD i 0=v.getD i 0 - s.getD i 0*q:=by rw [low,bW hv (aP hs),bK]
theorem Span.low{n:Nat}{rs:List (List Int)}{v s:List Int}(lv:v.length=n)(ls:s.length=n)(hv:Span n rs v)(hs:Span n rs s)(q:Int):Span n rs (fU.low v s q):=Span.sub lv (aP ls) hv (Span.mul ls hs q)
theorem Span.ME{n:Nat}{rs:List (List Int)}{v s:List Int}{q:Int}(lv:v.length=n)(ls:s.length=n)(hl:Span n rs (fU.low v s q))(hs:Span n rs s):Span n rs v:=by
 have e:v=fU.sub (fU.low v s q) (c5 s (-q)):=b7 lv (sub_len (b8 lv ls) (aP ls)) fun i _=>by
  rw [bW (b8 lv ls) (aP ls),cW lv ls,bK]
  rw [mul_neg]
  lia
 rw [e]
 exact Span.sub (b8 lv ls) (aP ls) hl (Span.mul ls hs _)
def Eqv(n:Nat)(rs qs:List (List Int)):Prop:=(∀ r∈rs,Span n qs r)/\∀ q∈qs,Span n rs q
theorem Eqv.refl{n:Nat}{rs:List (List Int)}:Eqv n rs rs:=⟨fun _=>Span.mem,fun _=>Span.mem⟩
theorem Eqv.symm{n:Nat}{rs qs:List (List Int)}(h:Eqv n rs qs):Eqv n qs rs:=⟨h.2,h.1⟩
theorem Eqv.trans{n:Nat}{rs qs ts:List (List Int)}(h:Eqv n rs qs)(k:Eqv n qs ts):Eqv n rs ts:=⟨fun r hr=>(h.1 r hr).of k.1,fun t ht=>(k.2 t ht).of h.2⟩
theorem Eqv.span{n:Nat}{rs qs:List (List Int)}(h:Eqv n rs qs){v:List Int}(hv:Span n rs v):Span n qs v:=hv.of h.1
theorem Span.Ss{n:Nat}{rs qs:List (List Int)}{v:List Int}(h:Span n qs v):Span n (rs++qs) v:=h.of fun _ hr=>Span.mem (aa0 _ hr)
theorem Eqv.turn{n:Nat}{s:List Int}{rs os:List (List Int)}(f:List Int->Int)(ls:s.length=n)(lr:Len n rs):Eqv n (s::rs++os) (s::(rs.map fun v=>fU.low v s (f v))++os):=by
 have nk:Span n (s::rs++os) s:=Span.mem (by simp)
 have fu:Span n (s::(rs.map fun v=>fU.low v s (f v))++os) s:=Span.mem (by simp)
 refine⟨fun r hr=>?_,fun r hr=>?_⟩
 ·rcases aa3.mp hr with h|h
  ·rcases aa9.mp h with rfl|h
   ·exact fu
   ·exact Span.ME (q:=f r) (lr r h) ls (Span.mem (aa1 _ (aa8 _ (aba.mpr ⟨r,h,rfl⟩)))) fu
  ·exact Span.mem (aa0 _ h)
 ·rcases aa3.mp hr with h|h
  ·rcases aa9.mp h with rfl|h
   ·exact nk
   ·obtain ⟨v,hv,rfl⟩:=aba.mp h
    exact Span.low (lr v hv) ls (Span.mem (aa1 _ (aa8 _ hv))) nk _
  ·exact Span.mem (aa0 _ h)
def Led(r:List Int)(k:Nat):Prop:=0<r.getD k 0/\∀ i,k<i->r.getD i 0=0
theorem Led.uniq{r:List Int}{j k:Nat}(a:Led r j)(b:Led r k):j=k:=by
 rcases Nat.lt_trichotomy j k with h|h|h
 ·have:=a.2 k h
  have:=b.1
  lia
 ·exact h
 ·have:=b.2 j h
  have:=a.1
  lia
def Bef(a b:List Int):Prop:=∀ k,Led b k->(∃ j,k<j/\Led a j)/\0<=a.getD k 0/\a.getD k 0<b.getD k 0
def SF(rs:List (List Int)):Prop:=(∀ r∈rs,∃ k,Led r k)/\rs.Pairwise Bef
theorem SF.tail{a:List Int}{rs:List (List Int)}(h:SF (a::rs)):SF rs:=⟨fun r hr=>h.1 r (aa8 _ hr),(aby.mp h.2).2⟩
theorem Span.cons{n:Nat}{a:List Int}{rs:List (List Int)}{v:List Int}(la:a.length=n)(lr:Len n rs)(h:Span n (a::rs) v):∃ c,v.length=n/\Span n rs (fU.low v a c):=by
 refine h (fun v=>∃ c,v.length=n/\Span n rs (fU.low v a c)) ⟨⟨0,bZ n,?_⟩,?_⟩ ?_
 ·have e:fU.low (tp n) a 0=tp n:=b7 (b8 (bZ n) la) (bZ n) fun i _=>by rw [cW (bZ n) la,d8];simp
  rw [e]
  exact Span.zero
 ·rintro x y lx ly ⟨c,_,hc⟩ ⟨d,_,hd⟩
  refine⟨c - d,sub_len lx ly,?_⟩
  have e:fU.low (fU.sub x y) a (c - d)=fU.sub (fU.low x a c) (fU.low y a d):=b7 (b8 (sub_len lx ly) la) (sub_len (b8 lx la) (b8 ly la)) fun i _=>by
   rw [cW (sub_len lx ly) la,bW lx ly,bW (b8 lx la) (b8 ly la),cW lx la,cW ly la,Int.mul_sub]
   lia
  rw [e]
  exact Span.sub (b8 lx la) (b8 ly la) hc hd
 ·intro r hr
  rcases aa9.mp hr with rfl|hr
  ·refine⟨1,la,?_⟩
   have e:fU.low r r 1=tp n:=b7 (b8 la la) (bZ n) fun i _=>by rw [cW la la,d8];lia
   rw [e]
   exact Span.zero
  ·refine⟨0,lr r hr,?_⟩
   have e:fU.low r a 0=r:=b7 (b8 (lr r hr) la) (lr r hr) fun i _=>by rw [cW (lr r hr) la];simp
   rw [e]
   exact Span.mem hr
theorem Span.none{n:Nat}{v:List Int}(h:Span n [] v):v=tp n:=h (fun v=>v=tp n) ⟨rfl,fun a b _ _ ha hb=>by
 rw [ha,hb]
 exact b7 (sub_len (bZ n) (bZ n)) (bZ n) fun i _=>by rw [bW (bZ n) (bZ n),d8];rfl⟩ fun _ hr=>nomatch hr
theorem Span.Oo{n i:Nat}{rs:List (List Int)}{v:List Int}(lr:Len n rs)(h:Span n rs v)(h0:∀ r∈rs,r.getD i 0=0):v.getD i 0=0 :=
 (h (fun v=>v.length=n/\v.getD i 0=0) ⟨⟨bZ n,d8 n i⟩,fun a b la lb ha hb=>⟨sub_len la lb,by rw [bW la lb,ha.2,hb.2];rfl⟩⟩ fun r hr=>⟨lr r hr,h0 r hr⟩).2
theorem SF.zE{a:List Int}{rs:List (List Int)}(h:SF (a::rs)){j i:Nat}(hj:Led a j)(hi:j<=i):∀ r∈rs,r.getD i 0=0:=fun r hr=>by
 obtain ⟨k,hk⟩:=h.1 r (aa8 _ hr)
 obtain ⟨⟨j',MF,lj⟩,_⟩:=(aby.mp h.2).1 r hr k hk
 have:=lj.uniq hj
 exact hk.2 i (by lia)
theorem SF.split{n:Nat}{a:List Int}{rs:List (List Int)}{v:List Int}{j:Nat}(h:SF (a::rs))(la:a.length=n)(lr:Len n rs)(hj:Led a j)(hv:Span n (a::rs) v) :
  ∃ c,Span n rs (fU.low v a c)/\v.getD j 0=a.getD j 0*c/\∀ i,j<i->v.getD i 0=0:=by
 obtain ⟨c,lv,hs⟩:=Span.cons la lr hv
 refine⟨c,hs,?_,fun i hi=>?_⟩
 ·have:=Span.Oo (i:=j) lr hs (h.zE hj (aaM _))
  rw [cW lv la] at this
  lia
 ·have:=Span.Oo (i:=i) lr hs (h.zE hj (by lia))
  rw [cW lv la,hj.2 i hi] at this
  lia
theorem zF{n:Nat}{v a:List Int}(lv:v.length=n)(la:a.length=n):fU.low v a 0=v:=b7 (b8 lv la) lv fun i _=>by rw [cW lv la];simp
theorem SF.rest{n:Nat}{a:List Int}{rs:List (List Int)}{v:List Int}{j:Nat}(h:SF (a::rs))(la:a.length=n)(lr:Len n rs)(hj:Led a j)(hv:Span n (a::rs) v)(h0:v.getD j 0=0):Span n rs v:=by
 have lv:v.length=n:=hv.len fun r hr=>(aa9.mp hr).elim (fun z=>z ▸ la) (lr r)
 obtain ⟨c,hs,e,_⟩:=h.split la lr hj hv
 rw [h0] at e
 have hc:c=0:=by
  rcases Int.mul_eq_zero.mp e.symm with z|z
  ·have:=hj.1
   lia
  ·exact z
 rw [hc,zF lv la] at hs
 exact hs
theorem Ec{x l c:Int}(h:x=l*c)(hl:0<l)(h1:-l<x)(h2:x<l):x=0:=by
 rcases Int.lt_trichotomy c 0 with z|z|z
 ·have:l*c<=l*(-1):=Int.mul_le_mul_of_nonneg_left (by lia) (by lia)
  lia
 ·rw [z,Int.mul_zero] at h
  exact h
 ·have:l*1<=l*c:=Int.mul_le_mul_of_nonneg_left (by lia) (by lia)
  lia
theorem SF.small{n:Nat}:∀ {rs:List (List Int)} {v:List Int},SF rs->Len n rs->Span n rs v->(∀ r∈rs,∀ k,Led r k->-(r.getD k 0)<v.getD k 0/\v.getD k 0<r.getD k 0)->v=tp n
 | [],v,_,_,hv,_=>hv.none
 | a::rs,v,h,lr,hv,hs=>by
  obtain ⟨j,hj⟩:=h.1 a (.head _)
  have la:=lr a (.head _)
  have Xj:Len n rs:=fun r hr=>lr r (aa8 _ hr)
  obtain ⟨c,_,e,_⟩:=h.split la Xj hj hv
  have h0:=Ec e hj.1 (hs a (.head _) j hj).1 (hs a (.head _) j hj).2
  exact SF.small h.tail Xj (h.rest la Xj hj hv h0) fun r hr=>hs r (aa8 _ hr)
def qt(v s:List Int)(p:Nat):Int:=(v.getD p 0).fdiv (s.getD p 0)
def cj(p:Nat)(s v:List Int):List Int:=low v s (qt v s p)
theorem gv{v s:List Int}{n p:Nat}(hv:v.length=n)(hs:s.length=n):(cj p s v).length=n:=b8 hv hs
theorem pD{v s:List Int}{n p:Nat}(hv:v.length=n)(hs:s.length=n):(cj p s v).getD p 0=(v.getD p 0).fmod (s.getD p 0):=by rw [cj,cW hv hs,qt,Int.fmod_def]
theorem BH{x y a:Int}(e:x+y=a):x=a - y:=by rw [<- e,Int.add_sub_cancel]
theorem qO(a:Int){b:Int}(hb:b≠0):(a.fmod b).natAbs<b.natAbs/\(0<b->0<=a.fmod b)/\(b<0->a.fmod b<=0):=by
 rcases Int.lt_or_gt_of_ne hb with h|h
 ·have e:=Int.neg_fmod_neg a b
  have h1:=Int.fmod_nonneg_of_pos (-a) (show 0 < -b by lia)
  have h2:=Int.fmod_lt_of_pos (-a) (show 0 < -b by lia)
  lia
 ·have h1:=Int.fmod_nonneg_of_pos a h
  have h2:=Int.fmod_lt_of_pos a h
  lia
theorem Su{a b:Int}(hb:b≠0)(Q1:b.natAbs<=a.natAbs):(a.fdiv b).natAbs*b.natAbs<=2*a.natAbs:=by
 have e:=Int.mul_fdiv_add_fmod a b
 have h:=qO a hb
 have e2:(b*a.fdiv b).natAbs=(a.fdiv b).natAbs*b.natAbs:=by rw [abt,Nat.mul_comm]
 have e3:b*a.fdiv b=a - a.fmod b:=BH e
 rw [<- e2,e3]
 exact aaL (natAbs_sub_le _ _) (by lia)
def Alike(a b:Int):Prop:=(0<a/\0<b)\/(a<0/\b<0)
theorem Oq{a b:Int}(hs:Alike a b)(Q1:b.natAbs<=a.natAbs):(a.fdiv b).natAbs*b.natAbs+(a.fmod b).natAbs=a.natAbs:=by
 have e:=Int.mul_fdiv_add_fmod a b
 have hb:b≠0:=by rcases hs with h|h <;> lia
 have h:=qO a hb
 have e2:(b*a.fdiv b).natAbs=(a.fdiv b).natAbs*b.natAbs:=by rw [abt,Nat.mul_comm]
 have e3:b*a.fdiv b=a - a.fmod b:=BH e
 rw [<- e2,e3]
 have hl:=aaL (aaN h.1) Q1
 rcases hs with z|z
 ·have h1:=h.2.1 z.2
  rw [<- Int.natAbs_add_of_nonneg (by clear e e2 e3 h Q1 hb;lia) h1,Int.sub_add_cancel]
 ·have h1:=h.2.2 z.2
  rw [<- Int.natAbs_add_of_nonpos (by clear e e2 e3 h Q1 hb;lia) h1,Int.sub_add_cancel]
def dj(M:Nat)(r:List Int):Prop:=∀ i,(r.getD i 0).natAbs<=M
theorem dj.mono{M N:Nat}{r:List Int}(h:dj M r)(k:M<=N):dj N r:=fun i=>aaL (h i) k
theorem GI{v s:List Int}{n M Q:Nat}{q:Int}(hv:v.length=n)(hs:s.length=n)(bv:dj M v)(bs:dj M s)(hq:q.natAbs<=Q):dj (M+M*Q) (low v s q):=fun i=>by
 rw [cW hv hs]
 have h1:=natAbs_sub_le (v.getD i 0) (s.getD i 0*q)
 have h2:(s.getD i 0*q).natAbs<=M*Q:=by rw [abt];exact abf (bs i) hq
 have h3:=bv i
 lia
def at'(p:Nat)(v:List Int):Nat:=(v.getD p 0).natAbs
structure PS(n p M m l:Nat)(led os:List (List Int)):Prop where
 len:∀ v∈led++os,v.length=n
 bd:∀ v∈led++os,dj M v
 lo:∀ v∈led,l<=at' p v/\at' p v<=m
 pos:0<l
 big:∃ v∈led,at' p v=m
 low:∃ v∈led,at' p v=l
 one:(∀ v∈led,0<v.getD p 0)\/∀ v∈led,v.getD p 0<0
 zero:∀ v∈os,v.getD p 0=0
def dk(p:Nat)(s:List Int)(rest:List (List Int)):List (List Int):=(rest.map (cj p s)).filter (fun v=>v.getD p 0 != 0)
def gb(p:Nat)(s:List Int)(rest:List (List Int)):List (List Int):=(rest.map (cj p s)).filter (fun v=>v.getD p 0 == 0)
theorem GJ{p:Nat}{s x:List Int}{rest:List (List Int)}:x∈rest.map (cj p s)↔x∈dk p s rest\/x∈gb p s rest:=by
 unfold dk gb
 rw [abb,abb]
 constructor
 ·intro h
  by_cases e:x.getD p 0=0
  ·exact .inr ⟨h,by simpa using e⟩
  ·exact .inl ⟨h,by simpa using e⟩
 ·rintro (h|h) <;> exact h.1
theorem Eqv.mem{n:Nat}{rs qs:List (List Int)}(h:∀ x,x∈rs↔x∈qs):Eqv n rs qs:=⟨fun r hr=>Span.mem ((h r).mp hr),fun q hq=>Span.mem ((h q).mpr hq)⟩
theorem GK{n p:Nat}{s:List Int}{rest os:List (List Int)}(ls:s.length=n)(lr:Len n rest):Eqv n (s::rest++os) (s::dk p s rest++(os++gb p s rest)):=by
 refine (Eqv.turn (fun v=>qt v s p) ls lr).trans (Eqv.mem fun x=>?_)
 have h:=GJ (p:=p) (s:=s) (x:=x) (rest:=rest)
 have h':x∈(rest.map fun v=>low v s (qt v s p))↔x∈dk p s rest\/x∈gb p s rest:=h
 simp only [aa3,aa9,h']
 constructor
 ·rintro ((h|h|h)|h)
  ·exact .inl (.inl h)
  ·exact .inl (.inr h)
  ·exact .inr (.inr h)
  ·exact .inr (.inl h)
 ·rintro ((h|h)|h|h)
  ·exact .inl (.inl h)
  ·exact .inl (.inr (.inl h))
  ·exact .inr h
  ·exact .inl (.inr (.inr h))
def mz(p:Nat)(rs:List (List Int)):Nat:=(rs.map (at' p)).sum
theorem wD(p:Nat)(f:List Int->Bool):∀ rs:List (List Int),mz p (rs.filter f)<=mz p rs
 | []=>aaM _
 | r::rs=>by
  have h:=wD p f rs
  unfold mz at h ⊢
  rw [List.filter_cons]
  split <;> simp only [map_cons,sum_cons] <;> lia
theorem Dq{p l:Nat}{s:List Int}:∀ {rest:List (List Int)},rest≠[]->(∀ v∈rest,l<=at' p v)->(∀ v∈rest,at' p (cj p s v)<l)->mz p (rest.map (cj p s))<mz p rest
 | [],h,_,_=>absurd rfl h
 | [v],_,h1,h2=>by
  have a:=h1 v (.head _)
  have b:=h2 v (.head _)
  simp only [mz,map_cons,map_nil,sum_cons,List.sum_nil]
  lia
 | v::w::r,_,h1,h2=>by
  have a:=h1 v (.head _)
  have b:=h2 v (.head _)
  have c:=Dq (rest:=w::r) (by simp) (fun x hx=>h1 x (aa8 _ hx)) (fun x hx=>h2 x (aa8 _ hx))
  simp only [mz,map_cons,sum_cons] at c ⊢
  lia
theorem nO{v s:List Int}{n p:Nat}(hv:v.length=n)(hs:s.length=n)(h0:s.getD p 0≠0):at' p (cj p s v)<at' p s:=by
 have:=(qO (v.getD p 0) h0).1
 unfold at'
 rw [pD hv hs]
 exact this
def PI(n p M:Nat)(led os:List (List Int)):Prop :=
 (∀ v∈led++os,v.length=n)/\(∀ v∈led,v.getD p 0≠0)/\(∀ v∈os,v.getD p 0=0) /\
  ((∀ v∈led++os,dj M v)\/(∃ m l M',PS n p M' m l led os/\M'*m*m*l<=3*(M*M*M*M))\/(led.length<=1/\∀ v∈led++os,dj (6*(M*M*M*M)) v))
theorem xt(a:Int){b:Int}(hb:b≠0):(a.fdiv b).natAbs<=a.natAbs:=by
 have e:=Int.mul_fdiv_add_fmod a b
 have h:=(qO a hb).1
 have e2:(b*a.fdiv b).natAbs=(a.fdiv b).natAbs*b.natAbs:=by rw [abt,Nat.mul_comm]
 rw [BH e] at e2
 have h0:=natAbs_sub_le a (a.fmod b)
 rw [e2] at h0
 clear e e2
 generalize (a.fdiv b).natAbs=q at *
 cases q with
 | zero=>exact abv _
 | succ k =>
  have h1:k*1<=k*b.natAbs:=mul_le_mul_left _ (by lia)
  rw [add_mul,one_mul] at h0
  lia
theorem xu{v s:List Int}{n p S L:Nat}(hv:v.length=n)(hs:s.length=n)(h0:s.getD p 0≠0)(bv:dj S v)(bs:dj L s):dj (S+L*S) (cj p s v):=fun i=>by
 unfold cj
 rw [cW hv hs]
 have h1:=natAbs_sub_le (v.getD i 0) (s.getD i 0*qt v s p)
 have h2:(s.getD i 0*qt v s p).natAbs<=L*S:=by rw [abt];exact abf (bs i) (aaL (xt _ h0) (bv p))
 have h3:=bv i
 lia
theorem eS{v s:List Int}{n p i:Nat}(hv:v.length=n)(hs:s.length=n)(h0:s.getD i 0=0):(cj p s v).getD i 0=v.getD i 0:=by
 unfold cj
 rw [cW hv hs,h0]
 lia
theorem Led.cj{v s:List Int}{n p k:Nat}(hv:v.length=n)(hs:s.length=n)(hL:Led s p)(hk:p<k):Led (fU.cj p s v) k↔Led v k:=by
 unfold Led
 rw [eS hv hs (hL.2 k hk)]
 constructor
 ·rintro ⟨a,b⟩
  exact⟨a,fun i hi=>by have z:=b i hi;rw [eS hv hs (hL.2 i (by lia))] at z;exact z⟩
 ·rintro ⟨a,b⟩
  exact⟨a,fun i hi=>by rw [eS hv hs (hL.2 i (by lia))];exact b i hi⟩
theorem SF.add{n p:Nat}{st:List (List Int)}{s:List Int}(h:SF st)(hl:∀ r∈st,∃ k,p<k/\Led r k)(lst:Len n st)(ls:s.length=n)(hL:Led s p) :
  SF (st.map (fU.cj p s)++[s])/\∀ r∈st.map (fU.cj p s)++[s],∃ k,p<=k/\Led r k:=by
 have dE:∀ r∈st,∃ k,p<k/\Led (fU.cj p s r) k:=fun r hr=>by
  obtain ⟨k,hk,z⟩:=hl r hr
  exact⟨k,hk,(Led.cj (lst r hr) ls hL hk).mpr z⟩
 have all:∀ r∈st.map (fU.cj p s)++[s],∃ k,p<=k/\Led r k:=fun r hr=>by
  rcases aa3.mp hr with a|a
  ·obtain ⟨u,hu,rfl⟩:=aba.mp a
   obtain ⟨k,hk,z⟩:=dE u hu
   exact⟨k,by lia,z⟩
  ·rw [aa2.mp a]
   exact⟨p,aaM _,hL⟩
 refine⟨⟨fun r hr=>?_,?_⟩,all⟩
 ·obtain ⟨k,_,z⟩:=all r hr
  exact⟨k,z⟩
 ·rw [List.pairwise_append]
  refine⟨?_,List.pairwise_singleton _ _,fun a ha b hb=>?_⟩
  ·rw [List.pairwise_map]
   refine List.Pairwise.imp_of_mem (fun {a b} ha hb Q1 k hk=>?_) h.2
   obtain ⟨kb,Xk,zb⟩:=hl b hb
   have e:=hk.uniq ((Led.cj (lst b hb) ls hL Xk).mpr zb)
   subst e
   obtain ⟨⟨j,hj,zj⟩,r1,r2⟩:=Q1 k zb
   rw [eS (lst a ha) ls (hL.2 k Xk),eS (lst b hb) ls (hL.2 k Xk)]
   exact⟨⟨j,hj,(Led.cj (lst a ha) ls hL (by lia)).mpr zj⟩,r1,r2⟩
  ·obtain ⟨u,hu,rfl⟩:=aba.mp ha
   rw [aa2.mp hb]
   intro k hk
   have e:=hk.uniq hL
   subst e
   obtain ⟨j,hj,zj⟩:=dE u hu
   have Xl:s.getD k 0≠0:=by
    have:=hL.1
    lia
   have f:=qO (u.getD k 0) Xl
   have g:=f.2.1 hL.1
   rw [pD (lst u hu) ls]
   exact⟨⟨j,hj,zj⟩,g,by have:=f.1;have:=hL.1;lia⟩
theorem Eqv.add{n p:Nat}{st os:List (List Int)}{s:List Int}(lst:Len n st)(ls:s.length=n):Eqv n (st++s::os) (st.map (fU.cj p s)++[s]++os):=by
 refine (Eqv.mem fun x=>?_).trans ((Eqv.turn (s:=s) (rs:=st) (os:=os) (fun v=>qt v s p) ls lst).trans (Eqv.mem fun x=>?_))
 ·simp only [aa3,aa9]
  constructor
  ·rintro (h|h|h)
   ·exact .inl (.inr h)
   ·exact .inl (.inl h)
   ·exact .inr h
  ·rintro ((h|h)|h)
   ·exact .inr (.inl h)
   ·exact .inl h
   ·exact .inr (.inr h)
 ·show x∈s::st.map (fU.cj p s)++os↔_
  simp only [aa3,aa9,not_mem_nil,or_false]
  constructor
  ·rintro ((h|h)|h)
   ·exact .inl (.inr h)
   ·exact .inl (.inl h)
   ·exact .inr h
  ·rintro ((h|h)|h)
   ·exact .inl (.inr h)
   ·exact .inl (.inl h)
   ·exact .inr h
theorem Eqv.app{n:Nat}{as bs cs:List (List Int)}(h:Eqv n as bs):Eqv n (cs++as) (cs++bs) :=
 ⟨fun r hr=>(aa3.mp hr).elim (fun z=>Span.mem (aa1 _ z)) fun z=>(h.1 r z).Ss,fun r hr=>(aa3.mp hr).elim (fun z=>Span.mem (aa1 _ z)) fun z=>(h.2 r z).Ss⟩
theorem Eqv.flip{n:Nat}{a:List Int}{rs:List (List Int)}(la:a.length=n):Eqv n (a::rs) (c5 a (-1)::rs):=by
 have e:c5 (c5 a (-1)) (-1)=a:=b7 (aP (aP la)) la fun i _=>by rw [bK,bK];lia
 refine⟨fun r hr=>?_,fun r hr=>?_⟩
 ·rcases aa9.mp hr with rfl|hr
  ·have:=Span.neg (rs:=c5 r (-1)::rs) (aP la) (Span.mem (.head _))
   rw [e] at this
   exact this
  ·exact Span.mem (aa8 _ hr)
 ·rcases aa9.mp hr with rfl|hr
  ·exact Span.neg la (Span.mem (.head _))
  ·exact Span.mem (aa8 _ hr)
def r2(p:Nat×Nat):List Int:=[(p.1:Int),(p.2:Int)]
def prd:List (Nat×Nat)->Nat
 | []=>1
 | p::l=>p.2*prd l
def tot:List (Nat×Nat)->Nat
 | []=>0
 | p::l=>p.1*prd l+p.2*tot l
theorem zG(f m:Nat):Nat.gcd m (f % m)=Nat.gcd f m:=by rw [Nat.gcd_comm m,<- Nat.gcd_rec,Nat.gcd_comm]
theorem take_snoc{α:Type}{l:List α}{i:Nat}{x:α}(h:l[i]?=some x):l.take (i+1)=l.take i++[x]:=by
 rw [take_add_one,h];rfl
theorem iW(r:List Int){w i:Nat}(h:i<w):(r.take w).getD i 0=r.getD i 0:=by
 rw [List.getD,List.getD,List.getElem?_take,if_pos h]
theorem tq(r:List Int){w i:Nat}(h:w<=i):(r.take w).getD i 0=0:=by
 rw [List.getD,List.getElem?_take,if_neg (by lia)]
 rfl
theorem pE{v s:List Int}{p w:Nat}(hp:p<w):(cj p s v).take w=cj p (s.take w) (v.take w):=by
 simp only [cj,low,sub,c5,qt,List.take_zipWith,map_take,iW _ hp]
theorem iG{v:List Int}{n w:Nat}(h:v.length=n)(hw:w<=n):(v.take w).length=w:=by rw [abl,h,Nat.min_eq_left hw]
def gr(b:Nat):Nat->Nat
 | 0=>b
 | i+1=>4*gr b i+3
def sb(b:Nat):Nat->Nat
 | 0=>0
 | i+1=>sb b i+gr b (i+1)+1
structure PT(p X m k:Nat)(led os:List (List Int)):Prop where
 bd:∀ v∈led++os,dj X v
 hi:∀ v∈led,at' p v<=m
 one:(∀ v∈led,0<v.getD p 0)\/∀ v∈led,v.getD p 0<0
 low:∃ v∈led,at' p v+m<=k
theorem iH{p:Nat}{s:List Int}{rest:List (List Int)}{v:List Int}(hv:v∈dk p s rest):∃ u∈rest,cj p s u=v/\v.getD p 0≠0:=by
 obtain ⟨a1,a2⟩:=abb.mp hv
 obtain ⟨u,hu,e⟩:=aba.mp a1
 exact⟨u,hu,e,by simpa using a2⟩
theorem Ed{p:Nat}{s:List Int}{rest:List (List Int)}{v:List Int}(hv:v∈gb p s rest):∃ u∈rest,cj p s u=v/\v.getD p 0=0:=by
 obtain ⟨a1,a2⟩:=abb.mp hv
 obtain ⟨u,hu,e⟩:=aba.mp a1
 exact⟨u,hu,e,by simpa using a2⟩
theorem nP{p:Nat}{s:List Int}{rest os:List (List Int)}{P:List Int->Prop}(h:∀ v∈s::rest++os,P v)(k:∀ v∈rest,P (cj p s v)):∀ v∈s::dk p s rest++(os++gb p s rest),P v:=fun v hv=>by
 rcases aa3.mp hv with a|a
 ·rcases aa9.mp a with rfl|a
  ·exact h v (by simp)
  ·obtain ⟨u,hu,rfl,_⟩:=iH a
   exact k u hu
 ·rcases aa3.mp a with a|a
  ·exact h v (by simp [a])
  ·obtain ⟨u,hu,rfl,_⟩:=Ed a
   exact k u hu
theorem wF{n p:Nat}{s:List Int}{rest:List (List Int)}(ls:s.length=n)(lr:Len n rest)(wG:s.getD p 0≠0):(∀ v∈s::dk p s rest,0<v.getD p 0)\/∀ v∈s::dk p s rest,v.getD p 0<0:=by
 rcases Int.lt_or_gt_of_ne wG with z|z
 ·refine .inr fun v hv=>?_
  rcases aa9.mp hv with rfl|a
  ·exact z
  ·obtain ⟨u',FP,rfl,hn⟩:=iH a
   have:=(qO (u'.getD p 0) wG).2.2 z
   rw [pD (lr u' FP) ls] at hn ⊢
   lia
 ·refine .inl fun v hv=>?_
  rcases aa9.mp hv with rfl|a
  ·exact z
  ·obtain ⟨u',FP,rfl,hn⟩:=iH a
   have:=(qO (u'.getD p 0) wG).2.1 z
   rw [pD (lr u' FP) ls] at hn ⊢
   lia
theorem rS{n p:Nat}{s:List Int}{rest:List (List Int)}(ls:s.length=n)(lr:Len n rest)(wG:s.getD p 0≠0):∀ v∈s::dk p s rest,at' p v<=at' p s:=fun v hv=>by
 rcases aa9.mp hv with rfl|a
 ·exact aaM _
 ·obtain ⟨u,hu,rfl,_⟩:=iH a
  exact aaN (nO (lr u hu) ls wG)
theorem PT.turn{n p X m k:Nat}{s:List Int}{rest os:List (List Int)}(h:PT p X m k (s::rest) os)(ls:s.length=n)(lr:Len n rest)(wG:s.getD p 0≠0)(hs:∀ v∈rest,at' p s<=at' p v) :
  ∃ X',(∀ v∈rest,dj X' (cj p s v))/\X<=X'/\X'*at' p s<=X*k/\(dk p s rest=[]\/PT p X' (at' p s) m (s::dk p s rest) (os++gb p s rest)):=by
 have hl:0<at' p s:=by unfold at';lia
 have bs:=h.bd s (by simp)
 have br:∀ v∈rest,dj X v:=fun v hv=>h.bd v (by simp [hv])
 have Sv:∀ v∈rest,Alike (v.getD p 0) (s.getD p 0):=fun v hv=>by
  rcases h.one with z|z
  ·exact .inl ⟨z v (aa8 _ hv),z s (.head _)⟩
  ·exact .inr ⟨z v (aa8 _ hv),z s (.head _)⟩
 have hq:∀ v∈rest,(qt v s p).natAbs*at' p s+at' p (cj p s v)=at' p v:=fun v hv=>by
  have:=Oq (Sv v hv) (hs v hv)
  unfold at'
  rw [pD (lr v hv) ls]
  exact this
 have hm:∀ v∈rest,at' p v<=m:=fun v hv=>h.hi v (aa8 _ hv)
 have hQ:∀ v∈rest,(qt v s p).natAbs<=m / at' p s:=fun v hv=>by
  rw [Nat.le_div_iff_mul_le hl]
  have:=hq v hv
  have:=hm v hv
  lia
 have hk:at' p s+m<=k:=by
  obtain ⟨v,hv,e⟩:=h.low
  rcases aa9.mp hv with rfl|hv
  ·exact e
  ·have:=hs v hv
   lia
 have hb:∀ v∈rest,dj (X+X*(m / at' p s)) (cj p s v):=fun v hv=>GI (lr v hv) ls (br v hv) bs (hQ v hv)
 refine⟨X+X*(m / at' p s),hb,le_add_right _ _,?_,?_⟩
 ·have e1:X*(m / at' p s)*at' p s<=X*m:=by rw [mul_assoc];exact mul_le_mul_left _ (Nat.div_mul_le_self _ _)
  have e2:X*(at' p s+m)<=X*k:=mul_le_mul_left _ hk
  rw [Nat.mul_add] at e2
  rw [add_mul]
  lia
 ·by_cases hf:dk p s rest=[]
  ·exact .inl hf
  ·refine .inr ⟨nP (fun v hv=>(h.bd v hv).mono (le_add_right _ _)) hb,rS ls lr wG,wF ls lr wG,?_⟩
   obtain ⟨w,hw⟩:=List.exists_mem_of_ne_nil _ hf
   refine⟨w,aa8 _ hw,?_⟩
   obtain ⟨u,hu,rfl,hn⟩:=iH hw
   have h1:=hq u hu
   have h2:=hm u hu
   have h3:=nO (lr u hu) ls wG
   have h4:=hs u hu
   have h5:1<=(qt u s p).natAbs:=by
    rcases eq_zero_or_pos (qt u s p).natAbs with z|z
    ·rw [z,Nat.zero_mul] at h1
     lia
    ·exact z
   have h6:1*at' p s<=(qt u s p).natAbs*at' p s:=abe _ h5
   lia
theorem PT.first{n p M A:Nat}{s:List Int}{rest os:List (List Int)}(ls:s.length=n)(lr:Len n rest)(wH:∀ v∈s::rest++os,dj M v)(hA:∀ v∈s::rest,at' p v<=A)(wG:s.getD p 0≠0)(hs:∀ v∈rest,at' p s<=at' p v) :
  ∃ X',(∀ v∈rest,dj X' (cj p s v))/\M<=X'/\X'*at' p s<=3*(M*A)/\(dk p s rest=[]\/PT p X' (at' p s) (2*A) (s::dk p s rest) (os++gb p s rest)):=by
 have hl:0<at' p s:=by unfold at';lia
 have bs:=wH s (by simp)
 have br:∀ v∈rest,dj M v:=fun v hv=>wH v (by simp [hv])
 have lA:at' p s<=A:=hA s (.head _)
 have hQ:∀ v∈rest,(qt v s p).natAbs<=2*A / at' p s:=fun v hv=>by
  rw [Nat.le_div_iff_mul_le hl]
  have a:=Su wG (hs v hv)
  have b:=hA v (aa8 _ hv)
  have a':(qt v s p).natAbs*at' p s<=2*at' p v:=a
  lia
 have hb:∀ v∈rest,dj (M+M*(2*A / at' p s)) (cj p s v):=fun v hv=>GI (lr v hv) ls (br v hv) bs (hQ v hv)
 refine⟨M+M*(2*A / at' p s),hb,le_add_right _ _,?_,?_⟩
 ·have e1:M*(2*A / at' p s)*at' p s<=M*(2*A):=by rw [mul_assoc];exact mul_le_mul_left _ (Nat.div_mul_le_self _ _)
  have e2:M*at' p s<=M*A:=mul_le_mul_left _ lA
  have e3:M*(2*A)=2*(M*A):=Nat.mul_left_comm _ _ _
  rw [add_mul]
  lia
 ·by_cases hf:dk p s rest=[]
  ·exact .inl hf
  ·refine .inr ⟨nP (fun v hv=>(wH v hv).mono (le_add_right _ _)) hb,rS ls lr wG,wF ls lr wG,?_⟩
   obtain ⟨w,hw⟩:=List.exists_mem_of_ne_nil _ hf
   refine⟨w,aa8 _ hw,?_⟩
   have:=rS ls lr wG w (aa8 _ hw)
   lia
def PJ(n p M A:Nat)(led os:List (List Int)):Prop :=
 (∀ v∈led++os,v.length=n)/\(∀ v∈led,v.getD p 0≠0)/\(∀ v∈os,v.getD p 0=0)/\(∀ v∈led,at' p v<=A) /\
  ((∀ v∈led++os,dj M v)\/(∃ X m k,PT p X m k led os/\0<m/\0<k/\X*m*k<=6*(M*(A*A)))\/(led.length<=1/\∀ v∈led++os,dj (6*(M*(A*A))) v))
theorem PJ.bd{n p M A:Nat}{led os:List (List Int)}(hA:0<A)(h:PJ n p M A led os):∀ v∈led++os,dj (6*(M*(A*A))) v:=by
 obtain ⟨_,_,_,_,h|⟨X,m,k,h,hm,hk,hN⟩|h⟩:=h
 ·refine fun v hv=>(h v hv).mono ?_
  have:M*1<=M*(A*A):=mul_le_mul_left _ (mul_pos hA hA)
  lia
 ·refine fun v hv=>(h.bd v hv).mono ?_
  have h1:X*1<=X*(m*k):=mul_le_mul_left _ (mul_pos hm hk)
  rw [<- mul_assoc] at h1
  lia
 ·exact h.2
theorem PJ.turn{n p M A:Nat}{s:List Int}{rest led os:List (List Int)}(Q2:0<A)(h:PJ n p M A led os)(e:(s::rest).Perm led)(hr:rest≠[])(hs:∀ v∈rest,at' p s<=at' p v) :
  PJ n p M A (s::dk p s rest) (os++gb p s rest)/\mz p (s::dk p s rest)<mz p led/\Eqv n (led++os) (s::dk p s rest++(os++gb p s rest)):=by
 have hBd:=h.bd Q2
 obtain ⟨h1,h2,h3,hA,h4⟩:=h
 have mem:∀ v,v∈s::rest↔v∈led:=fun v=>e.mem_iff
 have Kw:∀ v,v∈s::rest++os->v∈led++os:=fun v hv=>(aa3.mp hv).elim (fun z=>aa1 _ ((mem v).mp z)) fun z=>aa0 _ z
 have oW:∀ v∈s::rest++os,v.length=n:=fun v hv=>h1 v (Kw v hv)
 have MG:∀ v∈s::rest,v.getD p 0≠0:=fun v hv=>h2 v ((mem v).mp hv)
 have hA':∀ v∈s::rest,at' p v<=A:=fun v hv=>hA v ((mem v).mp hv)
 have ls:=oW s (by simp)
 have lr:Len n rest:=fun v hv=>oW v (by simp [hv])
 have wG:=MG s (.head _)
 have hl:0<at' p s:=by unfold at';lia
 have fin:∀ {X':Nat},(∀ v∈rest,dj X' (cj p s v))->X'<=6*(M*(A*A))->dk p s rest=[]->(s::dk p s rest).length<=1/\∀ v∈s::dk p s rest++(os++gb p s rest),dj (6*(M*(A*A))) v:=fun {X'} b c z =>
  ⟨by rw [z];exact aaM _,nP (fun v hv=>hBd v (Kw v hv)) fun v hv=>(b v hv).mono c⟩
 refine⟨⟨nP oW fun v hv=>gv (lr v hv) ls,fun v hv=>?_,fun v hv=>?_,fun v hv=>aaL (rS ls lr wG v hv) (hA' s (.head _)),?_⟩,?_,(Eqv.mem fun x=>?_).trans (GK ls lr)⟩
 ·rcases aa9.mp hv with rfl|a
  ·exact wG
  ·simpa using (abb.mp a).2
 ·rcases aa3.mp hv with a|a
  ·exact h3 v a
  ·simpa using (abb.mp a).2
 ·rcases h4 with h4|⟨X,m,k,h4,hm,hk,hN⟩|h4
  ·obtain ⟨X',b1,b2,b3,b4⟩:=PT.first ls lr (fun v hv=>h4 v (Kw v hv)) hA' wG hs
   rcases b4 with z|z
   ·refine .inr (.inr (fin b1 ?_ z))
    have e1:X'*1<=X'*at' p s:=mul_le_mul_left _ hl
    have e2:M*A*1<=M*A*A:=mul_le_mul_left _ Q2
    rw [mul_assoc M A A] at e2
    lia
   ·refine .inr (.inl ⟨X',_,_,z,hl,by lia,?_⟩)
    calc X'*at' p s*(2*A)<=3*(M*A)*(2*A):=abe _ b3
     _=6*(M*(A*A)):=by rw [show 3*(M*A)*(2*A)=(3*2)*(M*(A*A)) by ac_rfl]
  ·have h5:PT p X m k (s::rest) os:=⟨fun v hv=>h4.bd v (Kw v hv),fun v hv=>h4.hi v ((mem v).mp hv),h4.one.imp (fun z v hv=>z v ((mem v).mp hv)) fun z v hv=>z v ((mem v).mp hv),by
    obtain ⟨v,hv,z⟩:=h4.low
    exact⟨v,(mem v).mpr hv,z⟩⟩
   obtain ⟨X',b1,b2,b3,b4⟩:=h5.turn ls lr wG hs
   rcases b4 with z|z
   ·refine .inr (.inr (fin b1 ?_ z))
    have e1:X'*1<=X'*at' p s:=mul_le_mul_left _ hl
    have e2:X*k*1<=X*k*m:=mul_le_mul_left _ hm
    rw [show X*k*m=X*m*k by ac_rfl] at e2
    lia
   ·refine .inr (.inl ⟨X',_,_,z,hl,hm,?_⟩)
    calc X'*at' p s*m<=X*k*m:=abe _ b3
     _=X*m*k:=by ac_rfl
     _<=_:=hN
  ·exact absurd h4.1 (by have:=e.length_eq;rw [length_cons] at this;cases rest with|nil=>exact absurd rfl hr|cons x y=>simp at this;lia)
 ·have hz:mz p (rest.map (cj p s))<mz p rest:=Dq hr hs fun v hv=>nO (lr v hv) ls wG
  have hf:mz p (dk p s rest)<=mz p (rest.map (cj p s)):=wD p _ _
  have hp:mz p led=mz p (s::rest):=by
   unfold mz
   exact ((e.map (at' p)).sum_nat).symm
  rw [hp]
  show (at' p s::(dk p s rest).map (at' p)).sum<(at' p s::rest.map (at' p)).sum
  rw [sum_cons,sum_cons]
  unfold mz at hz hf
  lia
 ·rw [aa3,aa3,<- mem x]
def gs(b:Nat):Nat->Nat
 | 0=>b
 | i+1=>3*gs b i+3
def ss(b:Nat):Nat->Nat
 | 0=>0
 | i+1=>ss b i+gs b (i+1)+1
theorem kH(b i:Nat):6*(2 ^ gs b i*(2 ^ gs b i*2 ^ gs b i))<2 ^ gs b (i+1):=by
 have e:(2:Nat) ^ gs b (i+1)=8*(2 ^ gs b i*(2 ^ gs b i*2 ^ gs b i)):=by
  rw [gs,pow_add,show 3*gs b i=gs b i+(gs b i+gs b i) by lia,pow_add,pow_add]
  lia
 have h:0<(2:Nat) ^ gs b i:=abu _
 have h2:=mul_pos h (mul_pos h h)
 rw [e]
 lia
structure SJ(n w b:Nat)(rs:List (List Int))(i:Nat)(st lf:List (List Int)):Prop where
 sf:SF (st.map (List.take w))
 ld:∀ r∈st,∃ k,w - i<=k/\Led (r.take w) k
 lst:Len n st
 Vt:Len n lf
 z:∀ v∈lf,∀ j,w - i<=j->j<w->v.getD j 0=0
 e:Eqv n rs (st++lf)
 bl:∀ v∈lf,dj (2 ^ gs b i) v
 bs:∀ v∈st,dj (2 ^ ss b i) v
 lb:∀ r∈st,∀ k,Led (r.take w) k->(r.getD k 0).natAbs<=2 ^ gs b (w - 1 - k)
 c1:lf.length<=rs.length
 c2:st.length<=i
theorem SJ.start{n w b:Nat}{rs:List (List Int)}(hl:Len n rs)(hb:∀ v∈rs,dj (2 ^ b) v):SJ n w b rs 0 [] rs :=
 ⟨⟨(fun _ z=>nomatch z),List.Pairwise.nil⟩,(fun _ z=>nomatch z),(fun _ z=>nomatch z),hl,(fun v _ j h1 h2=>by lia),Eqv.refl,hb,(fun _ z=>nomatch z),(fun _ z=>nomatch z),aaM _,aaM _⟩
theorem SJ.none{n w b i p:Nat}{rs st lf os:List (List Int)}(h:SJ n w b rs i st lf)(hp:p+i+1=w)(he:Eqv n lf os)(h0:∀ v∈os,v.getD p 0=0)(hl:Len n os)
  (hb:∀ v∈os,dj (6*(2 ^ gs b i*(2 ^ gs b i*2 ^ gs b i))) v) (hc:os.length<=lf.length):SJ n w b rs (i+1) st os:=by
 refine⟨h.sf,fun r hr=>?_,h.lst,hl,fun v hv j h1 h2=>?_,h.e.trans he.app,fun v hv=>(hb v hv).mono (aaN (kH b i)),fun v hv=>(h.bs v hv).mono (abc (by decide) (by rw [ss];lia)),h.lb,aaL hc h.c1,Nat.le_succ_of_le h.c2⟩
 ·obtain ⟨k,h1,h2⟩:=h.ld r hr
  exact⟨k,by lia,h2⟩
 ·by_cases e:j=p
  ·rw [e];exact h0 v hv
  ·exact Span.Oo h.Vt (he.2 v hv) fun r hr=>h.z r hr j (by lia) h2
theorem SJ.one{n w b i p:Nat}{rs st lf os:List (List Int)}{s:List Int}(h:SJ n w b rs i st lf)(hp:p+i+1=w)(hw:w<=n)(he:Eqv n lf (s::os))(hs:0<s.getD p 0)(h0:∀ v∈os,v.getD p 0=0)(hl:Len n (s::os))
  (hb:∀ v∈s::os,dj (6*(2 ^ gs b i*(2 ^ gs b i*2 ^ gs b i))) v) (hc:os.length+1<=lf.length) (Sw:at' p s<=2 ^ gs b i):SJ n w b rs (i+1) (st.map (cj p s)++[s]) os:=by
 have ls:s.length=n:=hl s (.head _)
 have lo:Len n os:=fun v hv=>hl v (.tail _ hv)
 have za:∀ v∈s::os,∀ j,w - i<=j->j<w->v.getD j 0=0:=fun v hv j h1 h2=>Span.Oo h.Vt (he.2 v hv) fun r hr=>h.z r hr j h1 h2
 have hL:Led (s.take w) p:=⟨by rw [iW _ (by lia)];exact hs,fun j hj=>by
  by_cases e:j<w
  ·rw [iW _ e];exact za s (.head _) j (by lia) e
  ·exact tq _ (by lia)⟩
 have lt:Len w (st.map (List.take w)):=fun r hr=>by
  obtain ⟨v,hv,rfl⟩:=aba.mp hr
  exact iG (h.lst v hv) hw
 have dE:∀ r∈st.map (List.take w),∃ k,p<k/\Led r k:=fun r hr=>by
  obtain ⟨v,hv,rfl⟩:=aba.mp hr
  obtain ⟨k,h1,h2⟩:=h.ld v hv
  exact⟨k,by lia,h2⟩
 have em:(st.map (cj p s)++[s]).map (List.take w)=(st.map (List.take w)).map (cj p (s.take w))++[s.take w]:=by
  rw [abo,abp,abp]
  congr 1
  exact abq fun v _=>pE (by lia)
 have hS:=SF.add h.sf dE lt (iG ls hw) hL
 refine⟨by rw [em];exact hS.1,fun r hr=>?_,fun r hr=>?_,lo,fun v hv j h1 h2=>?_,?_,fun v hv=>(hb v (.tail _ hv)).mono (aaN (kH b i)),fun v hv=>?_,fun v hv k hk=>?_,?_,?_⟩
 ·rcases aa3.mp hr with z|z
  ·obtain ⟨v,hv,rfl⟩:=aba.mp z
   obtain ⟨k,h1,h2⟩:=h.ld v hv
   refine⟨k,by lia,?_⟩
   rw [pE (by lia)]
   exact (Led.cj (iG (h.lst v hv) hw) (iG ls hw) hL (by lia)).mpr h2
  ·rw [aa2.mp z]
   exact⟨p,by lia,hL⟩
 ·rcases aa3.mp hr with z|z
  ·obtain ⟨v,hv,rfl⟩:=aba.mp z
   exact gv (h.lst v hv) ls
  ·rw [aa2.mp z];exact ls
 ·by_cases e:j=p
  ·rw [e];exact h0 v hv
  ·exact za v (.tail _ hv) j (by lia) h2
 ·exact (h.e.trans he.app).trans (Eqv.add h.lst ls)
 ·have bS:=(hb s (.head _)).mono (aaN (kH b i))
  rcases aa3.mp hv with z|z
  ·obtain ⟨u,hu,rfl⟩:=aba.mp z
   refine (xu (h.lst u hu) ls (by lia) (h.bs u hu) bS).mono ?_
   have h1:0<(2:Nat) ^ ss b i:=abu _
   have h2:0<(2:Nat) ^ gs b (i+1):=abu _
   have h3:(2:Nat) ^ ss b i<=2 ^ gs b (i+1)*2 ^ ss b i:=Nat.le_mul_of_pos_left _ h2
   rw [ss,pow_add,pow_add,Nat.mul_comm (2 ^ ss b i)]
   lia
  ·rw [aa2.mp z]
   exact bS.mono (abc (by decide) (by rw [ss];lia))
 ·rcases aa3.mp hv with z|z
  ·obtain ⟨u,hu,rfl⟩:=aba.mp z
   obtain ⟨k',h1,h2⟩:=h.ld u hu
   have h3:=(Led.cj (iG (h.lst u hu) hw) (iG ls hw) hL (show p<k' by lia)).mpr h2
   rw [<- pE (by lia)] at h3
   have e:=hk.uniq h3
   subst e
   have hkw:k<w:=by
    have:=hk.1
    by_cases c:k<w
    ·exact c
    ·rw [tq _ (by lia)] at this
     exact absurd this (by decide)
   rw [eS (h.lst u hu) ls (za s (.head _) k (by lia) hkw)]
   exact h.lb u hu k h2
  ·rw [aa2.mp z] at hk ⊢
   have e:=hk.uniq hL
   rw [e,show w - 1 - p=i by lia]
   exact Sw
 ·have:=h.c1
  lia
 ·have:=h.c2
  rw [aa6,aa5]
  simp
  exact this
theorem SJ.all{n b:Nat}{rs st lf:List (List Int)}(h:SJ n n b rs n st lf):SF st/\Eqv n rs st:=by
 have e:st.map (List.take n)=st:=by
  rw [show st=st.map id by simp,abp]
  exact abq fun v hv=>abr (le_of_eq (h.lst v hv))
 have z:∀ v∈lf,v=tp n:=fun v hv=>b7 (h.Vt v hv) (bZ n) fun i hi=>by rw [d8];exact h.z v hv i (by lia) hi
 refine⟨by rw [<- e];exact h.sf,h.e.trans ⟨fun r hr=>?_,fun r hr=>Span.mem (aa1 _ hr)⟩⟩
 rcases aa3.mp hr with y|y
 ·exact Span.mem y
 ·rw [z r y];exact Span.zero
def Sx(i:Nat):List (List Int)->List Int->Int
 | r::rs,p::ps=>p*r.getD i 0+Sx i rs ps
 | _,_=>0
def Mk(w:Nat)(rs:List (List Int))(v:List Int):Prop:=∀ i,i<w->v.getD i 0=Sx i rs (v.drop w)
structure LB(n w:Nat)(st:List (List Int))(i:Nat)(u v:List Int):Prop where
 len:v.length=n
 made:Span n st (sub u v)
 small:∀ j s k,j<i->st[j]?=some s->Led (s.take w) k->0<=v.getD k 0/\v.getD k 0<s.getD k 0
theorem iI{n:Nat}{u:List Int}(h:u.length=n):sub u u=tp n:=b7 (sub_len h h) (bZ n) fun i _=>by rw [bW h h,d8];lia
theorem LB.start{n w:Nat}{st:List (List Int)}{u:List Int}(h:u.length=n):LB n w st 0 u u:=⟨h,by rw [iI h];exact Span.zero,fun j s k hj=>by lia⟩
theorem xv{s:List Int}{w k:Nat}(h:Led (s.take w) k):k<w:=by
 have:=h.1
 by_cases c:k<w
 ·exact c
 ·rw [tq _ (by lia)] at this
  exact absurd this (by decide)
theorem LB.step{n w i k:Nat}{st:List (List Int)}{s u v:List Int}(h:LB n w st i u v)(lu:u.length=n)(hs:st[i]?=some s)(ls:s.length=n)(sf:SF (st.map (List.take w)))(hk:Led (s.take w) k):LB n w st (i+1) u (cj k s v):=by
 have kw:=xv hk
 have zH:0<s.getD k 0:=by have:=hk.1;rwa [iW _ kw] at this
 have lW:s∈st:=aa4 hs
 refine⟨gv h.len ls,?_,fun j a k' hj ha ph=>?_⟩
 ·have e:sub u (cj k s v)=low (sub u v) s (-(qt v s k)):=b7 (sub_len lu (gv h.len ls)) (b8 (sub_len lu h.len) ls) fun i _=>by
   rw [bW lu (gv h.len ls),cj,cW h.len ls,cW (sub_len lu h.len) ls,bW lu h.len,mul_neg]
   lia
  rw [e]
  exact Span.low (sub_len lu h.len) ls h.made (Span.mem lW) _
 ·by_cases c:j=i
  ·subst c
   rw [hs] at ha
   cases ha
   have e:=ph.uniq hk
   subst e
   rw [pD h.len ls]
   have:=qO (v.getD k' 0) (show s.getD k' 0≠0 by lia)
   have h2:=this.2.1 zH
   lia
  ·have Vu:j<i:=by lia
   have hb:Bef (a.take w) (s.take w):=by
    have h1:(st.map (List.take w))[j]?=some (a.take w):=by rw [abn,ha];rfl
    have h2:(st.map (List.take w))[i]?=some (s.take w):=by rw [abn,hs];rfl
    obtain ⟨p1,e1⟩:=aaI.mp h1
    obtain ⟨p2,e2⟩:=aaI.mp h2
    have:=List.pairwise_iff_getElem.mp sf.2 j i p1 p2 Vu
    rw [e1,e2] at this
    exact this
   obtain ⟨⟨k2,h1,h2⟩,_⟩:=hb k hk
   have e:=ph.uniq h2
   subst e
   have hz:s.getD k' 0=0:=by
    have:=hk.2 k' h1
    rwa [iW _ (xv ph)] at this
   rw [eS h.len ls hz]
   exact h.small j a k' Vu ha ph
def dt(a b:List Int):Int:=(List.zipWith (·*·) a b).sum
theorem BI{n:Nat}:∀ {a b c:List Int},a.length=n->b.length=n->c.length=n->dt (sub a b) c=dt a c - dt b c:=by
 induction n with
 | zero=>intro a b c ha hb hc;rw [List.length_eq_zero_iff.mp ha,List.length_eq_zero_iff.mp hb];simp [dt,sub]
 | succ n ih =>
  intro a b c ha hb hc
  match a,b,c,ha,hb,hc with
  | x::a,y::b,z::c,ha,hb,hc =>
   have e:=ih (a:=a) (b:=b) (c:=c) (by simpa using ha) (by simpa using hb) (by simpa using hc)
   unfold dt sub at e ⊢
   simp only [List.zipWith_cons_cons,sum_cons]
   rw [e,Int.sub_mul]
   lia
def pd(R:List (List Int)):Nat->Nat->Int
 | _,0=>1
 | h,k+1=>(R.getD h []).getD h 0*pd R (h+1) k
theorem Ee{r:List Int}{h:Nat}(hl:r.length=5)(h1:Led r h):h<5:=by
 have:=h1.1
 by_cases c:h<5
 ·exact c
 ·rw [List.getD,getElem?_eq_none (by lia)] at this
  exact absurd this (by decide)
theorem Kx{v:List Int}{n:Nat}(hl:v.length=n)(h:v≠tp n):∃ k,k<n/\v.getD k 0≠0/\∀ i,k<i->v.getD i 0=0:=by
 have:∀ m,m<=n->(∀ i,m<=i->v.getD i 0=0)->∃ k,k<n/\v.getD k 0≠0/\∀ i,k<i->v.getD i 0=0:=by
  intro m
  induction m with
  | zero=>intro _ hz;exact absurd (b7 hl (bZ n) fun i _=>by rw [hz i (abv _),d8]) h
  | succ m ih =>
   intro hm hz
   by_cases c:v.getD m 0=0
   ·exact ih (by lia) fun i hi=>by
     by_cases e:i=m
     ·rw [e];exact c
     ·exact hz i (by lia)
   ·exact⟨m,by lia,c,fun i hi=>hz i (by lia)⟩
 exact this n (aaM _) fun i hi=>by rw [List.getD,getElem?_eq_none (by lia)];rfl
theorem SF.zI{n j:Nat}:∀ {bs:List (List Int)} {v:List Int},SF bs->Len n bs->Span n bs v->v.getD j 0≠0->(∀ i,j<i->v.getD i 0=0)->∃ u∈bs,Led u j/\(u.getD j 0).natAbs<=(v.getD j 0).natAbs
 | [],v,_,_,hv,h0,_=>by
  rw [hv.none,d8] at h0
  exact absurd rfl h0
 | a::rs,v,h,hl,hv,h0,hz=>by
  obtain ⟨k,hk⟩:=h.1 a (.head _)
  have la:=hl a (.head _)
  have lr:Len n rs:=fun r hr=>hl r (.tail _ hr)
  obtain ⟨c,_,e,z⟩:=h.split la lr hk hv
  rcases Nat.lt_trichotomy k j with q|q|q
  ·exact absurd (z j q) h0
  ·subst q
   refine⟨a,.head _,hk,?_⟩
   have hc:c≠0:=fun z=>h0 (by rw [e,z,Int.mul_zero])
   rw [e,abt]
   exact Nat.le_mul_of_pos_right _ (by lia)
  ·obtain ⟨u,hu,r⟩:=SF.zI h.tail lr (h.rest la lr hk hv (hz k q)) h0 hz
   exact⟨u,.tail _ hu,r⟩
theorem SF.Dr:∀ {rs:List (List Int)} {t u:List Int} {k:Nat},SF rs->t∈rs->u∈rs->Led u k->0<=t.getD k 0/\t.getD k 0<=u.getD k 0
 | [],_,_,_,_,h,_,_=>nomatch h
 | a::rs,t,u,k,h,ht,hu,hk=>by
  have hp:=aby.mp h.2
  rcases aa9.mp ht with rfl|Jz
  ·rcases aa9.mp hu with rfl|FP
   ·exact⟨Int.le_of_lt hk.1,Int.le_refl _⟩
   ·have:=(hp.1 u FP k hk).2
    exact⟨this.1,Int.le_of_lt this.2⟩
  ·rcases aa9.mp hu with rfl|FP
   ·rw [h.zE hk (aaM _) t Jz]
    exact⟨Int.le_refl _,Int.le_of_lt hk.1⟩
   ·exact SF.Dr h.tail Jz FP hk
theorem SF.count:∀ {rs:List (List Int)} {n:Nat},SF rs->(∀ r∈rs,∀ k,Led r k->k<n)->rs.length<=n
 | [],_,_,_=>abv _
 | a::rs,n,h,hk=>by
  obtain ⟨j,hj⟩:=h.1 a (.head _)
  have:=hk a (.head _) j hj
  have ih:=SF.count h.tail (n:=j) fun r hr k ph=>by
   obtain ⟨⟨j',MF,lj⟩,_⟩:=(aby.mp h.2).1 r hr k ph
   have:=lj.uniq hj
   lia
  rw [length_cons]
  lia
def VZ(w:List Int)(m:Int)(x:List Int):Prop:=m ∣ dt x w
structure Lo(ks:List (List Int×Int))(st:List (List Int)):Prop where
 sf:SF st
 len:Len 5 st
 all:∀ x,Span 5 st x↔x.length=5/\∀ k∈ks,VZ k.1 k.2 x
def lb(W:Nat):Nat->Nat
 | 0=>0
 | i+1=>3*lb W i+2*W+12
theorem cJ{α:Type}{r:List α}(h:r.length=5):∃ a b c d e,r=[a,b,c,d,e]:=by
 match r,h with
 | [a,b,c,d,e],_=>exact⟨a,b,c,d,e,rfl⟩
end fU
namespace rn
open PySem PySem.Builtin PySem.Builtin.Str PySem.StrLaws
def dgt(c:Nat):Bool:=decide (48<=c) && decide (c<=57)
def cnt(z:Str)(m:Nat):Bool:=(decide (1<=z.length/\z.length<=m) && (z.cps[0]? != some 48)) && z.cps.toList.all dgt
end rn
namespace rn
open PySem PySem.Builtin PySem.Builtin.Str PySem.StrLaws PySem.NumText PySem.W.KIN PyProof.Rows
def num(z:Str):Nat:=digitsVal z.cps.toList
abbrev txt(n:Nat):Str:=PySem.Str.ofString (toString ((n:Nat):Int))
theorem GL:∀ m:Nat,0<m->((Nat.toDigits 10 m).map Char.toNat)[0]?≠some 48:=by
 intro m
 induction m using Nat.strongRecOn with
 | _ m ih =>
  intro hm
  by_cases h:m<10
  ·rw [Nat.toDigits_of_lt_base h]
   rcases (show m=1\/m=2\/m=3\/m=4\/m=5\/m=6\/m=7\/m=8\/m=9 by lia) with rfl|rfl|rfl|rfl|rfl|rfl|rfl|rfl|rfl <;> decide
  ·have MA:m % 10<10:=mod_lt m (by decide)
   have t:Nat.toDigits 10 (m / 10)++Nat.toDigits 10 (m % 10)=Nat.toDigits 10 (10*(m / 10)+m % 10):=Nat.toDigits_append_toDigits (by decide) (by lia) MA
   rw [Nat.div_add_mod] at t
   have:=ih (m / 10) (by lia) (by lia)
   rw [<- t,abo,List.getElem?_append]
   split
   ·exact this
   ·rename_i hl
    rw [getElem?_eq_none (by lia)] at this
    intro _
    have h1:=digitsVal
    have hv:=val_back (m / 10)
    rw [List.eq_nil_of_length_eq_zero (show ((Nat.toDigits 10 (m / 10)).map Char.toNat).length=0 by lia)] at hv
    have:(0:Nat)=m / 10:=hv
    lia
theorem xw:∀ (k m:Nat),0<k->m<10 ^ k->(Nat.toDigits 10 m).length<=k
 | 0,_,h,_=>absurd h (by decide)
 | 1,m,_,h=>by rw [Nat.toDigits_of_lt_base (by simpa using h)];exact aaM _
 | k+2,m,_,h=>by
  by_cases Sy:m<10
  ·rw [Nat.toDigits_of_lt_base Sy];simp
  ·have MA:m % 10<10:=mod_lt m (by decide)
   have t:Nat.toDigits 10 (m / 10)++Nat.toDigits 10 (m % 10)=Nat.toDigits 10 (10*(m / 10)+m % 10):=Nat.toDigits_append_toDigits (by decide) (by lia) MA
   rw [Nat.div_add_mod] at t
   have:=xw (k+1) (m / 10) (by lia) (by rw [pow_succ] at h;lia)
   rw [<- t,aa6,Nat.toDigits_of_lt_base MA]
   show _+1<=_
   lia
theorem Ds{n m:Nat}(h0:0<n)(hm:0<m)(h:n<10 ^ m):cnt (txt n) m=true/\num (txt n)=n:=by
 have hs:=signs_num n
 have hl:(txt n).length=(Nat.toDigits 10 n).length:=by
  show (txt n).cps.size=_
  rw [<- Array.length_toList,hs,aa5]
 have h2:=xw m n hm h
 refine⟨?_,?_⟩
 ·unfold cnt
  rw [Bool.and_eq_true,Bool.and_eq_true,decide_eq_true_eq]
  have Ky:1<=(Nat.toDigits 10 n).length:=by
   have hv:=val_back n
   rcases eq_zero_or_pos (Nat.toDigits 10 n).length with e|e
   ·rw [List.eq_nil_of_length_eq_zero e] at hv
    have:(0:Nat)=n:=hv
    lia
   ·exact e
  refine⟨⟨⟨by lia,by lia⟩,?_⟩,?_⟩
  ·rw [bne_iff_ne,<- Array.getElem?_toList,hs]
   exact GL n h0
  ·rw [hs,all_eq_true]
   intro c hc
   obtain ⟨ch,yY,e⟩:=aba.mp hc
   have r:=digit_range (Nat.isDigit_of_mem_toDigits (by decide) (by decide) yY)
   unfold dgt
   rw [Bool.and_eq_true,decide_eq_true_eq,decide_eq_true_eq,<- e]
   exact r
 ·unfold num
  rw [hs]
  exact val_back n
end rn
namespace rn
open PySem PySem.Builtin PySem.Builtin.Str PySem.StrLaws
theorem BJ{z:Str}{m:Nat}(h:z.cps[0]?=some 48):cnt z m=false:=by
 unfold cnt;rw [h];simp
theorem zJ{n m:Nat}(hm:0<m)(h:n<10 ^ m):(txt n).length<=m:=by
 have hs:=PySem.W.KIN.signs_num n
 show (txt n).cps.size<=m
 rw [<- Array.length_toList,hs,aa5]
 exact xw m n hm h
end rn
namespace rn
open PySem PySem.Builtin PySem.Builtin.Str PySem.StrLaws PySem.NumText PySem.W.KIN PyProof.Rows
theorem Ot{i:Int}(h:i.natAbs<2 ^ 1920):i.natAbs.log2<1920:=by
 rcases eq_zero_or_pos i.natAbs with e|e
 ·rw [e];decide
 ·exact (log2_lt (by lia)).mpr h
end rn
namespace qP
open PySem PySem.Builtin PySem.Builtin.Str PySem.StrLaws PyProof.Rows
def seg(c d:Nat)(k:Int):List Nat:=List.replicate k.toNat c++List.replicate (-k).toNat d
def Xm(y:Str)(m:Nat):Option Int :=
 if y=⟨#[48]⟩ then some 0 else if y.cps[0]?=some 45 then (if rn.cnt ⟨(y.cps.toList.drop 1).toArray⟩ m=true then some (-((rn.num ⟨(y.cps.toList.drop 1).toArray⟩:Nat):Int)) else none) else if rn.cnt y m=true then some ((rn.num y:Nat):Int) else none
end qP
namespace qP
open PySem PySem.Builtin PySem.Builtin.Str PySem.StrLaws PySem.NumText PySem.W.KIN PyProof.Rows
theorem zK(l:List Nat):(⟨l.toArray⟩:Str).cps.toList=l:=List.toList_toArray ..
theorem Kz{y z:Str}(h:y.cps.toList=z.cps.toList):y=z:=by
 cases y;cases z
 congr 1
 exact Array.ext' h
end qP
namespace qP
open PySem PySem.NumText PySem.W.KIN PyProof.Rows
theorem app_list(a b:Str):(a++b).cps.toList=a.cps.toList++b.cps.toList:=by
 show (a.cps++b.cps).toList=_
 rw [Array.toList_append]
theorem GN(n:Nat):(Str.ofString (toString (-((n+1:Nat):Int)))).cps.toList=45::(rn.txt (n+1)).cps.toList:=by
 rw [signs_num,signs_ofString]
 show ("-"++Nat.repr (n+1)).toList.map Char.toNat=_
 rw [String.toList_append,abo,Nat.toList_repr]
 rfl
theorem Ou{o:Int}(h1:-9999<=o)(h2:o<=9999):Xm (Str.ofString (toString o)) 4=some o/\(Str.ofString (toString o)).length<=5:=by
 rcases Int.lt_trichotomy o 0 with h|h|h
 ·obtain ⟨n,rfl⟩:∃ n:Nat,o=-((n+1:Nat):Int):=⟨(-o).toNat - 1,by lia⟩
  have hl:=GN n
  have ht:=rn.Ds (n:=n+1) (m:=4) (by lia) (by decide) (by lia)
  have hs:=rn.zJ (n:=n+1) (m:=4) (by decide) (by lia)
  have hlen:(Str.ofString (toString (-((n+1:Nat):Int)))).length=(rn.txt (n+1)).length+1:=by
   show (Str.ofString (toString (-((n+1:Nat):Int)))).cps.size=_
   rw [<- Array.length_toList,hl,length_cons,Array.length_toList]
   rfl
  refine⟨?_,by lia⟩
  have hd:(⟨((Str.ofString (toString (-((n+1:Nat):Int)))).cps.toList.drop 1).toArray⟩:Str)=rn.txt (n+1):=by
   apply Kz
   rw [zK,hl]
   rfl
  unfold Xm
  rw [if_neg (fun e=>by rw [e] at hl;cases hl),if_pos (by rw [<- Array.getElem?_toList,hl];rfl),hd,ht.1,ht.2,if_pos rfl]
 ·subst h
  exact⟨by decide +kernel,by decide +kernel⟩
 ·obtain ⟨n,rfl⟩:=Int.eq_ofNat_of_zero_le (Int.le_of_lt h)
  have ht:=rn.Ds (n:=n) (m:=4) (by lia) (by decide) (by lia)
  have hs:=rn.zJ (n:=n) (m:=4) (by decide) (by lia)
  have h45:(rn.txt n).cps[0]?≠some 45:=fun e=>by
   have hc:=ht.1
   unfold rn.cnt at hc
   rw [Bool.and_eq_true] at hc
   have hm:45∈(rn.txt n).cps.toList:=aa4 (i:=0) (by rw [Array.getElem?_toList];exact e)
   exact absurd (all_eq_true.mp hc.2 45 hm) (by decide)
  have h48:rn.txt n≠⟨#[48]⟩:=fun e=>by
   have hc:=ht.1
   rw [e,rn.BJ (by rfl)] at hc
   cases hc
  refine⟨?_,aaL hs (by decide)⟩
  unfold Xm
  rw [show Str.ofString (toString ((n:Nat):Int))=rn.txt n from rfl,if_neg h48,if_neg h45,ht.1,ht.2,if_pos rfl]
end qP
namespace fU
def gens(ms:List Int)(rs:List (List Int)):List (List Int):=(List.range 5).map fun i=>c5 (rs.getD i []) (ms.getD i 0)
end fU
namespace Gap
structure Sg(P:Int->Int->Prop):Prop where
 add:∀ {n j n' j':Int},P n j->P n' j'->P (n+n') (j+j')
 neg:∀ {n j:Int},P n j->P (-n) (-j)->False
 tot:∀ n j:Int,j≠0->P n j\/P (-n) (-j)
 oct:∀ {n:Int},P n 0->0<n
section
variable {P:Int->Int->Prop}{o:Int->Int}{N:Int}
structure Ch(P:Int->Int->Prop)(o:Int->Int)(N:Int):Prop where
 s:Sg P
 z:o 0=0
 f:∀ j,0<j->j<N->P (o j) j/\P (1 - o j) (-j)
variable (C:Ch P o N)
include C
variable {a b:Int}(a0:0<a)(a1:a<N)(mn:∀ j,0<j->j<N->j≠a->P (o j - o a) (j - a))(b0:0<b)(b1:b<N)(mx:∀ j,0<j->j<N->j≠b->P (o b - o j) (b - j))
include a0 a1 mn in
include a0 a1 mn in
include b0 b1 mx in
include b0 b1 mx in
include a0 a1 mn b0 b1 mx in
include a0 a1 mn b0 b1 mx in
include a0 a1 mn b0 b1 mx in
end
end Gap
namespace qP
open PySem
def J(c:Nat):List (List Nat)->List Nat
 | []=>[]
 | [x]=>x
 | x::y::r=>x++c::J c (y::r)
end qP
namespace fU
def wI(q:Nat)(s v:List Int):List Int:=sub (c5 v (s.getD q 0)) (c5 s (v.getD q 0))
theorem eX{q n:Nat}{s v:List Int}(ls:s.length=n)(lv:v.length=n):(wI q s v).length=n:=sub_len (aP lv) (aP ls)
theorem fE{q n:Nat}{s v:List Int}(ls:s.length=n)(lv:v.length=n)(i:Nat):(wI q s v).getD i 0=v.getD i 0*s.getD q 0 - s.getD i 0*v.getD q 0:=by
 rw [wI,bW (aP lv) (aP ls),bK,bK]
theorem Dt{q n:Nat}{s v:List Int}(ls:s.length=n)(lv:v.length=n):(wI q s v).getD q 0=0:=by
 rw [fE ls lv,Int.mul_comm,Int.sub_self]
theorem Ov{q n e:Nat}{s v:List Int}(ls:s.length=n)(lv:v.length=n)(hs:dj (2 ^ e) s)(hv:dj (2 ^ e) v):dj (2 ^ (2*e+1)) (wI q s v):=fun i=>by
 rw [fE ls lv]
 have h1:(v.getD i 0*s.getD q 0).natAbs<=2 ^ e*2 ^ e:=by rw [abt];exact abf (hv i) (hs q)
 have h2:(s.getD i 0*v.getD q 0).natAbs<=2 ^ e*2 ^ e:=by rw [abt];exact abf (hs i) (hv q)
 have e1:(2:Nat) ^ (2*e+1)=2 ^ e*2 ^ e+2 ^ e*2 ^ e:=by rw [pow_succ,Nat.two_mul,pow_add,Nat.mul_two]
 rw [e1]
 exact aaL (natAbs_sub_le _ _) (Nat.add_le_add h1 h2)
theorem Span.wI{n q:Nat}{rs:List (List Int)}{s v:List Int}(ls:s.length=n)(hl:Len n rs)(h:Span n rs v):Span n (rs.map (fU.wI q s)) (fU.wI q s v):=by
 have:=h (fun v=>v.length=n/\Span n (rs.map (fU.wI q s)) (fU.wI q s v)) ⟨⟨bZ n,?_⟩,fun a b la lb ha hb=>⟨sub_len la lb,?_⟩⟩ fun r hr=>⟨hl r hr,Span.mem (aba.mpr ⟨r,hr,rfl⟩)⟩
 ·exact this.2
 ·have e:fU.wI q s (tp n)=tp n:=b7 (eX ls (bZ n)) (bZ n) fun i _=>by rw [fE ls (bZ n),d8,d8];simp
  rw [e]
  exact Span.zero
 ·have e:fU.wI q s (fU.sub a b)=fU.sub (fU.wI q s a) (fU.wI q s b):=b7 (eX ls (sub_len la lb)) (sub_len (eX ls la) (eX ls lb)) fun i _=>by
   rw [fE ls (sub_len la lb),bW (eX ls la) (eX ls lb),fE ls la,fE ls lb,bW la lb,bW la lb,Int.sub_mul,Int.mul_sub]
   lia
  rw [e]
  exact Span.sub (eX ls la) (eX ls lb) ha.2 hb.2
theorem Span.Ow{n q:Nat}{rs:List (List Int)}{s v:List Int}(ls:s.length=n)(lv:v.length=n)(hs:Span n rs s)(hv:Span n rs v):Span n rs (fU.wI q s v) :=
 Span.sub (aP lv) (aP ls) (Span.mul lv hv _) (Span.mul ls hs _)
theorem zL{n:Nat}{x:List Int}(lx:x.length=n):c5 x 1=x:=b7 (aP lx) lx fun i _=>by rw [bK,Int.mul_one]
theorem Ef{n:Nat}{x:List Int}(lx:x.length=n)(c d:Int):c5 (c5 x c) d=c5 x (c*d):=b7 (aP (aP lx)) (aP lx) fun i _=>by rw [bK,bK,bK,Int.mul_assoc]
theorem Ox{n q e:Nat}{rs:List (List Int)}(hl:Len n rs)(hb:∀ r∈rs,dj (2 ^ e) r):∃ Eg,Len n Eg/\(∀ r∈Eg,Span n rs r)/\(∀ r∈Eg,r.getD q 0=0)/\(∀ i,(∀ r∈rs,r.getD i 0=0)->∀ r∈Eg,r.getD i 0=0)/\(∀ r∈Eg,dj (2 ^ (2*e+1)) r)/\∀ x,x.getD q 0=0->Span n rs x->∃ d:Int,d≠0/\Span n Eg (c5 x d):=by
 by_cases h:∀ r∈rs,r.getD q 0=0
 ·exact⟨rs,hl,fun r hr=>Span.mem hr,h,fun i hi=>hi,fun r hr=>(hb r hr).mono (abc (by decide) (by lia)),fun x _ hx=>⟨1,by decide,by rw [zL (hx.len hl)];exact hx⟩⟩
 ·obtain ⟨s,h⟩:=Classical.not_forall.mp h
  obtain ⟨hs,h0⟩:=Classical.not_imp.mp h
  have ls:=hl s hs
  refine⟨rs.map (wI q s),fun r hr=>?_,fun r hr=>?_,fun r hr=>?_,fun i hi r hr=>?_,fun r hr=>?_,fun x hx hsx=>⟨s.getD q 0,h0,?_⟩⟩
  ·obtain ⟨v,hv,rfl⟩:=aba.mp hr
   exact eX ls (hl v hv)
  ·obtain ⟨v,hv,rfl⟩:=aba.mp hr
   exact Span.Ow ls (hl v hv) (Span.mem hs) (Span.mem hv)
  ·obtain ⟨v,hv,rfl⟩:=aba.mp hr
   exact Dt ls (hl v hv)
  ·obtain ⟨v,hv,rfl⟩:=aba.mp hr
   rw [fE ls (hl v hv),hi v hv,hi s hs]
   simp
  ·obtain ⟨v,hv,rfl⟩:=aba.mp hr
   exact Ov ls (hl v hv) (hb s hs) (hb v hv)
  ·have lx:=hsx.len hl
   have ex:c5 x (s.getD q 0)=fU.wI q s x:=b7 (aP lx) (eX ls lx) fun i _=>by
    rw [bK,fE ls lx,hx];simp
   rw [ex]
   exact Span.wI ls hl hsx
def eb:Nat->Nat->Nat
 | 0,e=>e
 | k+1,e=>eb k (2*e+1)
theorem MH:∀ (k e:Nat),e<=eb k e
 | 0,e=>aaM e
 | k+1,e=>by have:=MH k (2*e+1);rw [eb];lia
theorem Du:∀ {k l e:Nat},k<=l->eb k e<=eb l e
 | 0,l,e,_=>MH l e
 | k+1,l+1,e,h=>by rw [eb,eb];exact Du (by lia)
theorem GO{n:Nat}:∀ (qs:List Nat) {rs:List (List Int)} {e:Nat},Len n rs->(∀ r∈rs,dj (2 ^ e) r)->∃ Eg,Len n Eg/\(∀ r∈Eg,Span n rs r)/\(∀ q∈qs,∀ r∈Eg,r.getD q 0=0)/\(∀ i,(∀ r∈rs,r.getD i 0=0)->∀ r∈Eg,r.getD i 0=0)/\(∀ r∈Eg,dj (2 ^ eb qs.length e) r)/\∀ x,(∀ q∈qs,x.getD q 0=0)->Span n rs x->∃ d:Int,d≠0/\Span n Eg (c5 x d)
 | [],rs,e,hl,hb=>⟨rs,hl,fun r hr=>Span.mem hr,(fun _ h=>nomatch h),fun i hi=>hi,hb,fun x _ hx=>⟨1,by decide,by rw [zL (hx.len hl)];exact hx⟩⟩
 | q::qs,rs,e,hl,hb=>by
  obtain ⟨r1,l1,s1,z1,k1,b1,f1⟩:=Ox (q:=q) hl hb
  obtain ⟨r2,l2,s2,z2,k2,b2,f2⟩:=GO qs l1 b1
  refine⟨r2,l2,fun r hr=>(s2 r hr).of s1,fun p hp r hr=>?_,fun i hi=>k2 i (k1 i hi),b2,fun x hx hs=>?_⟩
  ·rcases aa9.mp hp with rfl|hp
   ·exact k2 p z1 r hr
   ·exact z2 p hp r hr
  ·have lx:=hs.len hl
   obtain ⟨d,hd,h1⟩:=f1 x (hx q (.head _)) hs
   obtain ⟨c,hc,h2⟩:=f2 (c5 x d) (fun p hp=>by rw [bK,hx p (.tail _ hp),zero_mul]) h1
   exact⟨d*c,Int.mul_ne_zero hd hc,by rw [<- Ef lx];exact h2⟩
theorem SF.cleared{n k:Nat}:∀ {rs:List (List Int)} {x:List Int},SF rs->Len n rs->x.length=n->x.getD k 0≠0->(∀ u∈rs,u.getD k 0=0)->∃ y,y.length=n/\y.getD k 0≠0/\(∀ u∈rs,∀ j,Led u j->y.getD j 0=0)/\(∀ ts,(∀ u∈rs,Span n ts u)->Span n ts x->Span n ts y)/\∀ i,x.getD i 0=0->(∀ u∈rs,u.getD i 0=0)->y.getD i 0=0
 | [],x,_,_,lx,h0,_=>⟨x,lx,h0,(fun _ h=>nomatch h),fun _ _ h=>h,fun _ h _=>h⟩
 | u::us,x,sf,hl,lx,h0,hk=>by
  obtain ⟨j,hj⟩:=sf.1 u (.head _)
  have lu:=hl u (.head _)
  have lus:Len n us:=fun r hr=>hl r (.tail _ hr)
  have Sz:u.getD j 0≠0:=by have:=hj.1;lia
  obtain ⟨y,ly,y0,yz,ys,yi⟩:=SF.cleared (x:=wI j u x) sf.tail lus (eX lu lx) (by
   rw [fE lu lx,hk u (.head _),zero_mul,Int.sub_zero]
   exact Int.mul_ne_zero h0 Sz) fun r hr=>hk r (.tail _ hr)
  refine⟨y,ly,y0,fun r hr i hi=>?_,fun ts ht hx=>ys ts (fun r hr=>ht r (.tail _ hr)) (Span.Ow lu lx (ht u (.head _)) hx),fun i hi hz=>yi i ?_ fun r hr=>hz r (.tail _ hr)⟩
  ·rcases aa9.mp hr with rfl|hr
   ·rw [hi.uniq hj]
    exact yi j (Dt lu lx) (sf.zE hj (aaM _))
   ·exact yz r hr i hi
  ·rw [fE lu lx,hi,hz u (.head _)]
   simp
theorem SF.SA{n:Nat}:∀ {rs:List (List Int)} {t:List Int} {k:Nat},SF rs->Len n rs->t∈rs->Led t k->∃ y,Span n rs y/\y.getD k 0≠0/\∀ u∈rs,∀ j,Led u j->j≠k->y.getD j 0=0
 | [],_,_,_,_,h,_=>nomatch h
 | a::rs,t,k,sf,hl,ht,hk=>by
  have la:=hl a (.head _)
  have lr:Len n rs:=fun r hr=>hl r (.tail _ hr)
  obtain ⟨ja,hja⟩:=sf.1 a (.head _)
  rcases aa9.mp ht with rfl|Jz
  ·obtain ⟨y,ly,y0,yz,ys,_⟩:=SF.cleared (k:=k) (x:=t) sf.tail lr la (by have:=hk.1;lia) (sf.zE hk (aaM _))
   refine⟨y,ys _ (fun u hu=>Span.mem (.tail _ hu)) (Span.mem (.head _)),y0,fun u hu j hj SD=>?_⟩
   rcases aa9.mp hu with rfl|hu
   ·exact absurd (hj.uniq hk) SD
   ·exact yz u hu j hj
  ·obtain ⟨y,ys,y0,yz⟩:=SF.SA sf.tail lr Jz hk
   refine⟨y,ys.of fun u hu=>Span.mem (.tail _ hu),y0,fun u hu j hj SD=>?_⟩
   rcases aa9.mp hu with rfl|hu
   ·exact Span.Oo lr ys (sf.zE hj (aaM _))
   ·exact yz u hu j hj SD
theorem SF.Oy{n:Nat}{T:List (List Int)}{v:List Int}(sf:SF T)(hl:Len n T)(h:Span n T v)(h0:∀ u∈T,∀ j,Led u j->v.getD j 0=0):v=tp n :=
 SF.small sf hl h fun r hr k hk=>by rw [h0 r hr k hk];have:=hk.1;lia
theorem SF.spread{n V:Nat}{T:List (List Int)}(sf:SF T)(hl:Len n T):∀ (ps:List (Nat×List Int)) {c:Nat} {v:List Int},Span n T v->(∀ p∈ps,Span n T p.2/\p.2.getD p.1 0≠0/\dj V p.2/\∀ u∈T,∀ j,Led u j->j≠p.1->p.2.getD j 0=0)->(∀ p∈ps,∃ u∈T,Led u p.1)->(∀ u∈T,∀ j,Led u j->(∃ p∈ps,p.1=j)\/v.getD j 0=0)->(∀ p∈ps,(v.getD p.1 0).natAbs<=c*(p.2.getD p.1 0).natAbs)->dj (ps.length*(c*V)) v
 | [],c,v,hv,_,_,h0,_=>fun i=>by
  rw [sf.Oy hl hv fun u hu j hj=>(h0 u hu j hj).elim (fun ⟨_,h,_⟩=>nomatch h) id,d8]
  exact abv _
 | p::ps,c,v,hv,hp,hu,h0,hc=>by
  obtain ⟨sp,p0,pb,pz⟩:=hp p (.head _)
  have lp:=sp.len hl
  have lv:=hv.len hl
  have ih:=SF.spread sf hl ps (c:=c*(p.2.getD p.1 0).natAbs) (v:=wI p.1 p.2 v) (Span.Ow lp lv sp hv) (fun q hq=>hp q (.tail _ hq)) (fun q hq=>hu q (.tail _ hq)) (fun u FP j hj=>?_) (fun q hq=>?_)
  ·intro i
   have h1:=ih i
   rw [fE lp lv] at h1
   have zH:0<(p.2.getD p.1 0).natAbs:=by lia
   have h2:(p.2.getD i 0*v.getD p.1 0).natAbs<=V*(c*(p.2.getD p.1 0).natAbs):=by
    rw [abt]
    exact abf (pb i) (hc p (.head _))
   have h3:=Int.natAbs_add_le (v.getD i 0*p.2.getD p.1 0 - p.2.getD i 0*v.getD p.1 0) (p.2.getD i 0*v.getD p.1 0)
   rw [Int.sub_add_cancel,abt] at h3
   refine Nat.le_of_mul_le_mul_right (c:=(p.2.getD p.1 0).natAbs) (aaL h3 (aaL (Nat.add_le_add h1 h2) (le_of_eq ?_))) zH
   rw [length_cons,add_mul,add_mul,one_mul]
   congr 1
   ·rw [mul_assoc,mul_assoc,mul_assoc,Nat.mul_comm V]
   ·rw [Nat.mul_comm V,mul_assoc,mul_assoc,Nat.mul_comm V]
  ·by_cases e:j=p.1
   ·right
    rw [e]
    exact Dt lp lv
   ·rcases h0 u FP j hj with ⟨q,hq,z⟩|z
    ·rcases aa9.mp hq with rfl|hq
     ·exact absurd z.symm e
     ·exact .inl ⟨q,hq,z⟩
    ·right
     rw [fE lp lv,z,pz u FP j hj e]
     simp
  ·by_cases e:q.1=p.1
   ·rw [e,Dt lp lv]
    exact abv _
   ·obtain ⟨u,FP,hj⟩:=hu q (.tail _ hq)
    rw [fE lp lv,pz u FP q.1 hj e,zero_mul,Int.sub_zero,abt]
    have:=abe (p.2.getD p.1 0).natAbs (hc q (.tail _ hq))
    rw [mul_assoc,Nat.mul_comm (q.2.getD q.1 0).natAbs,<- mul_assoc] at this
    exact this
theorem qQ{α β:Type}{R:α->β->Prop}:∀ (l:List α),(∀ a∈l,∃ b,R a b)->∃ bs:List β,bs.length=l.length/\(∀ a∈l,∃ b∈bs,R a b)/\∀ b∈bs,∃ a∈l,R a b
 | [],_=>⟨[],rfl,(fun _ h=>nomatch h),(fun _ h=>nomatch h)⟩
 | a::l,h=>by
  obtain ⟨b,hb⟩:=h a (.head _)
  obtain ⟨bs,h1,h2,h3⟩:=qQ l fun x hx=>h x (.tail _ hx)
  refine⟨b::bs,by rw [length_cons,h1,length_cons],fun x hx=>?_,fun y hy=>?_⟩
  ·rcases aa9.mp hx with rfl|hx
   ·exact⟨b,.head _,hb⟩
   ·obtain ⟨y,hy,r⟩:=h2 x hx
    exact⟨y,.tail _ hy,r⟩
  ·rcases aa9.mp hy with rfl|hy
   ·exact⟨a,.head _,hb⟩
   ·obtain ⟨x,hx,r⟩:=h3 y hy
    exact⟨x,.tail _ hx,r⟩
theorem SF.alone{n k:Nat}{T:List (List Int)}{y:List Int}(sf:SF T)(hl:Len n T)(hy:Span n T y)(y0:y.getD k 0≠0)(yz:∀ u∈T,∀ j,Led u j->j≠k->y.getD j 0=0):∃ u∈T,Led u k/\(u.getD k 0).natAbs<=(y.getD k 0).natAbs:=by
 have ly:=hy.len hl
 obtain ⟨i,_,hi,hz⟩:=Kx ly fun z=>y0 (by rw [z,d8])
 obtain ⟨u,hu,hj,hle⟩:=sf.zI hl hy hi hz
 by_cases e:i=k
 ·subst e
  exact⟨u,hu,hj,hle⟩
 ·exact absurd (yz u hu i hj e) hi
theorem SF.Oz{V:Nat}{T:List (List Int)}(sf:SF T)(hl:Len 5 T)(h:∀ t∈T,∃ p:Nat×List Int,Led t p.1/\Span 5 T p.2/\p.2.getD p.1 0≠0/\dj V p.2/\∀ u∈T,∀ j,Led u j->j≠p.1->p.2.getD j 0=0):∀ t∈T,dj (5*V) t:=fun t ht=>by
 obtain ⟨ps,h1,h2,h3⟩:=qQ T h
 have h5:T.length<=5:=SF.count sf fun r hr j hj=>Ee (hl r hr) hj
 have:=sf.spread hl (V:=V) ps (c:=1) (Span.mem ht) (fun p hp=>?_) (fun p hp=>?_) (fun u hu j hj=>?_) (fun p hp=>?_)
 ·refine this.mono ?_
  rw [one_mul]
  exact abe _ (by lia)
 ·obtain ⟨a,ha,_,r⟩:=h3 p hp
  exact r
 ·obtain ⟨a,ha,hj,_⟩:=h3 p hp
  exact⟨a,ha,hj⟩
 ·obtain ⟨p,hp,MF,_⟩:=h2 u hu
  exact .inl ⟨p,hp,MF.uniq hj⟩
 ·obtain ⟨a,ha,hj,sp,p0,_,pz⟩:=h3 p hp
  obtain ⟨u,hu,hju,hle⟩:=sf.alone hl sp p0 pz
  have:=sf.Dr ht hu hju
  rw [one_mul]
  lia
theorem up3(e:Nat):5*2 ^ e<=2 ^ (e+3):=by
 have h:(2:Nat) ^ (e+3)=8*2 ^ e:=by rw [pow_add,Nat.mul_comm]
 rw [h]
 exact abe _ (by decide)
def jS(T:List (List Int))(k:Nat):List Nat:=(List.range 5).filter fun j=>@decide (j≠k/\∃ u∈T,Led u j) (Classical.propDecidable _)
theorem iX{T:List (List Int)}{k j:Nat}:j∈jS T k↔j<5/\j≠k/\∃ u∈T,Led u j:=by
 unfold jS
 rw [abb,abj,@decide_eq_true_iff]
theorem BK{T:List (List Int)}{k:Nat}(h:k<5):(jS T k).length<=4:=by
 unfold jS
 have h1:=(List.length_filter_lt_length_iff_exists (p:=fun j=>@decide (j≠k/\∃ u∈T,Led u j) (Classical.propDecidable _)) (l:=List.range 5)).mpr ⟨k,abj.mpr h,by simp⟩
 rw [abi] at h1
 lia
theorem SF.MI{b:Nat}{rs T:List (List Int)}(sf:SF T)(hl:Len 5 T)(hr:Len 5 rs)(e:Eqv 5 rs T)(hb:∀ r∈rs,dj (2 ^ b) r):∀ t∈T,dj (2 ^ (16*b+18)) t:=by
 have key:=SF.Oz (V:=2 ^ (16*b+15)) sf hl fun t ht=>?_
 ·refine fun t ht=>(key t ht).mono ?_
  exact up3 (16*b+15)
 ·obtain ⟨k,hk⟩:=sf.1 t ht
  have k5:=Ee (hl t ht) hk
  obtain ⟨y,ys,y0,yz⟩:=sf.SA hl ht hk
  obtain ⟨r2,l2,s2,z2,_,b2,f2⟩:=GO (jS T k) hr hb
  obtain ⟨d,hd,hs⟩:=f2 y (fun q hq=>by
   obtain ⟨_,h2,u,hu,hj⟩:=iX.mp hq
   exact yz u hu q hj h2) (e.symm.span ys)
  have hex:∃ r∈r2,r.getD k 0≠0:=by
   refine Classical.byContradiction fun hn=>?_
   have h0:=Span.Oo (i:=k) l2 hs fun r hr=>Classical.byContradiction fun z=>hn ⟨r,hr,z⟩
   rw [bK] at h0
   exact (Int.mul_eq_zero.mp h0).elim y0 hd
  obtain ⟨x,hx,x0⟩:=hex
  refine⟨(k,x),hk,e.span (s2 x hx),x0,(b2 x hx).mono (abc (by decide) (aaL (Du (BK k5)) ?_)),fun u hu j hj SD=>?_⟩
  ·simp only [eb]
   lia
  ·exact z2 j (iX.mpr ⟨Ee (hl u hu) hj,SD,u,hu,hj⟩) x hx
def Vv(w r:List Int):List Int:=r++[dt r w]
def JA(rs:List (List Int)):Prop:=(∀ r∈rs,∃ k,Led r k)/\rs.Pairwise fun a b=>∀ k,Led b k->∃ j,k<j/\Led a j
theorem JA.tail{a:List Int}{rs:List (List Int)}(h:JA (a::rs)):JA rs:=⟨fun r hr=>h.1 r (aa8 _ hr),(aby.mp h.2).2⟩
theorem JA.zE{a:List Int}{rs:List (List Int)}(h:JA (a::rs)){j i:Nat}(hj:Led a j)(hi:j<=i):∀ r∈rs,r.getD i 0=0:=fun r hr=>by
 obtain ⟨k,hk⟩:=h.1 r (aa8 _ hr)
 obtain ⟨j',h1,h2⟩:=(aby.mp h.2).1 r hr k hk
 have:=h2.uniq hj
 exact hk.2 i (by lia)
theorem JA.top{n:Nat}:∀ {rs:List (List Int)} {v:List Int},JA rs->Len n rs->Span n rs v->v≠tp n->∃ r∈rs,∃ k c,Led r k/\v.getD k 0=r.getD k 0*c/\c≠0/\∀ i,k<i->v.getD i 0=0
 | [],v,_,_,hv,hz=>absurd hv.none hz
 | a::rs,v,h,hl,hv,hz=>by
  have la:=hl a (.head _)
  have lr:Len n rs:=fun r hr=>hl r (.tail _ hr)
  obtain ⟨j,hj⟩:=h.1 a (.head _)
  obtain ⟨c,lv,hs⟩:=Span.cons la lr hv
  by_cases hc:c=0
  ·subst hc
   rw [zF lv la] at hs
   obtain ⟨r,hr,k,d,q1,q2,q3,q4⟩:=JA.top h.tail lr hs hz
   exact⟨r,.tail _ hr,k,d,q1,q2,q3,q4⟩
  ·have at_:∀ i,j<=i->v.getD i 0=a.getD i 0*c:=fun i hi=>by
    have e:=Span.Oo lr hs (h.zE hj hi)
    rw [cW lv la] at e
    lia
   refine⟨a,.head _,j,c,hj,at_ j (aaM _),hc,fun i hi=>?_⟩
   rw [at_ i (aaN hi),hj.2 i hi,zero_mul]
theorem BL{x c:Int}(hx:0<x)(hc:c≠0):x*c<=-x\/x<=x*c:=by
 rcases Int.lt_or_gt_of_ne hc with h|h
 ·left
  have:=Int.mul_le_mul_of_nonneg_left (show c<=-1 by lia) (Int.le_of_lt hx)
  lia
 ·right
  have:=Int.mul_le_mul_of_nonneg_left (show 1<=c by lia) (Int.le_of_lt hx)
  lia
end fU
namespace L2
open PySem PySem.Spec PyProof.Rows
def zM(K:Frag)(a:Addr)(xs:List V):Prop:=∀ H,aN K H a xs
theorem zM.at{K:Frag}{a:Addr}{xs:List V}{H:Hp}(h:zM K a xs):aN K H a xs:=h H
theorem ai.lst{H H':Hp}{a:Addr}{xs:List V}(e:ai H H')(h:H a=some (.lst xs)):H' a=some (.lst xs):=e _ _ h
theorem ai.bR{H H2:Hp}{l:Addr}{o:HO}(s:ai H H2)(h:H l=none):ai H (upd H2 l o):=fun b u e=>by
 rw [ax (bf e h)];exact s _ _ e
def SE:V->Hp->(Bool->Hp->Prop)->Prop:=fun x H R=>∃ c,x=.bl c/\R c H
def SG:V->Hp->(Option Int->Hp->Prop)->Prop:=fun x H R=>∃ i,x=.int i/\R (some i) H
def MJ:List V->Hp->VK->Prop:=fun xs H Q=>xs.length<=sizeLine/\∀ p,H p=none->Q (.ref p) (upd H p (.tup xs))
def MK:List V->Hp->VK->Prop:=fun xs H Q=>xs.length<=sizeLine/\∀ p,H p=none->Q (.ref p) (upd H p (.lst xs))
def KA(K:Frag):List V->Hp->VK->Prop:=fun xs H Q=>∃ p ys,xs=[.ref p]/\(aR K H p ys\/aN K H p ys)/\Q (.int ys.length) H
def tw(K:Frag):List V->Hp->VK->Prop:=fun xs H Q=>∃ p ys,xs=[.ref p]/\((aR K H p ys/\∀ l,H l=none->Q (.ref l) (upd H l (.tup ys)))\/(aN K H p ys/\Q (.ref p) H))
def rT(K:Frag):List V->Hp->VK->Prop:=fun xs H Q=>∃ p ys,xs=[.ref p]/\(aR K H p ys\/aN K H p ys)/\∀ l,H l=none->Q (.ref l) (upd H l (.lst ys))
def hJ(K:Frag):List V->Hp->VK->Prop:=fun xs H Q=>∃ x n t b,xs=[x,.ty n]/\TyR K H x t/\kitOne K t (.type n)=some b/\Q (.bl b) H
def SH:List V->Hp->VK->Prop:=fun xs H Q=>∃ i,xs=[.int i]/\Q (.int (if i<0 then -i else i)) H
def ML:List V->Hp->VK->Prop:=fun xs H Q=>(∃ i,xs=[.int i]/\Q (.int i) H)\/∃ k,xs=[.bl k]/\Q (.int (if k then 1 else 0)) H
def SI(K:Frag):V->Hp->(It->Hp->Prop)->Prop:=fun x H R=>∃ a,x=.ref a/\(∃ xs,aR K H a xs)/\R (Jv K a) H
def SK(K:Frag):V->Hp->(It->Hp->Prop)->Prop:=fun x H R=>∃ a,x=.ref a/\(∃ xs,aN K H a xs)/\R (QU K a) H
def SM:List V->Hp->(It->Hp->Prop)->Prop:=fun vs H R=>∃ j:Int,vs=[.int j]/\-(2 ^ 62)<=j/\j<2 ^ 62/\R (Mr 0 j.toNat) H
def SN(K:Frag)(k1 k2:Bool):List V->Hp->(It->Hp->Prop)->Prop:=fun vs H R=>∃ a b,vs=[.ref a,.ref b]/\(∃ xs,Sq k1 K H a xs)/\(∃ ys,Sq k2 K H b ys)/\R (Ks K k1 k2 a b) H
def GP(K:Frag)(T:String)(ts:TA)(r:V->List V->Hp->VK->Prop)(σ:St)(Q:VK):V->Hp->Prop:=fun x H1=>Vq K T x H1/\ts σ H1 fun xs H2=>r x xs H2 Q
def hU(g:TG)(tb:TS)(D:Ends)(J:It)(σ:St)(H:Hp):Prop:=∃ W:Nat->Nat->St->Hp->Prop,(∃ m,W 0 m σ H)/\∀ i m σ H,W i m σ H ->
 (J.stop i H/\D.nx σ H)\/(J.go i H/\∃ N:St->Hp->Prop,(∀ σ' H',N σ' H'->∃ m',m'<m/\W (i+1) m' σ' H')/\∀ x H',J.J0 i H x H'->g x σ H' fun σ2 H2=>tb { D with nx:=N,ct:=N,bk:=D.nx } σ2 H2)
section
variable {X:Cx}
theorem Eh:dA X (.builtin "len") (KA X.K):=xo
theorem zN:dA X (.type "tuple") (tw X.K):=va
theorem BM:dA X (.type "list") (rT X.K):=xp
theorem xx:dA X (.builtin "isinstance") (hJ X.K):=zB
theorem kI:dA X (.builtin "abs") SH:=Gb
theorem Ei:dA X (.type "int") ML:=DW
end
section
variable {t u:TS}{D:Ends}{σ:St}{H:Hp}{te ta tb:TE}{g:TG}{tt tu:TT}{Q:VK}{i j:Int}{x y v w:V}{K:Frag}
theorem SO(h:t { D with nx:=u D } σ H):RK t u D σ H:=h
theorem SQ(h:te σ H fun x H1=>g x σ H1 D.nx):JZ te g D σ H:=h
theorem KD{n:Nat}{R:St->Hp->Prop}(h:R (σ.set n (some v)) H):bT n v σ H R:=h
theorem SR(h:te σ H D.rt):RL te D σ H:=h
theorem OA(h:te σ H fun _ H1=>D.nx σ H1):Mp te D σ H:=h
theorem OB(h:D.nx σ H):Mo D σ H:=h
theorem SS{c:TT}(h:c σ H fun b H1=>if b=true then t D σ H1 else u D σ H1):RM c t u D σ H:=h
theorem MM{n:Nat}(e:σ[n]?=some (some v))(h:Q v H):Bg n σ H Q:=⟨v,e,h⟩
theorem r_c(h:Q v H):tC v σ H Q:=h
theorem Xn{r:R2}(h:ta σ H fun x H1=>tb σ H1 fun y H2=>r x y H2 Q):NK r ta tb σ H Q:=h
theorem Xo{r:V->Hp->VK->Prop}(h:ta σ H fun x H1=>r x H1 Q):tUn r ta σ H Q:=h
theorem r_b{R:Bool->Hp->Prop}(h:te σ H fun x H1=>SE x H1 R):tB te σ H R:=h
theorem OC{R:Bool->Hp->Prop}(h:te σ H fun x H1=>SE x H1 R):Mu te σ H R:=h
theorem OD{b:Bool}{R:Bool->Hp->Prop}(h:R b H):SE (.bl b) H R:=⟨b,rfl,h⟩
theorem SU{R:Bool->Hp->Prop}(h:tt σ H fun c H1=>if c=true then tu σ H1 R else R false H1):RI tt tu σ H R:=h
theorem Xp{R:Bool->Hp->Prop}(h:tt σ H fun c H1=>if c=true then R true H1 else tu σ H1 R):tOr tt tu σ H R:=h
theorem SV{R:Bool->Hp->Prop}(h:tt σ H fun c H1=>R (!c) H1):RJ tt σ H R:=h
theorem OE(h:ta σ H fun x H1=>SE x H1 fun c H2=>if c=true then tb σ H2 Q else Q (.bl false) H2):Mm ta tb σ H Q:=h
theorem OF(h:ta σ H fun x H1=>SE x H1 fun c H2=>Q (.bl (!c)) H2):Mn ta σ H Q:=h
theorem SW(h:tt σ H fun c H1=>if c=true then ta σ H1 Q else tb σ H1 Q):tIf tt ta tb σ H Q:=h
theorem SX{f:Int->Int->V}(h:Q (f i j) H):J3 f (.int i) (.int j) H Q:=⟨i,j,rfl,rfl,h⟩
theorem r_I{C:Int->Int->Prop}{f:Int->Int->V}(c:C i j)(h:Q (f i j) H):rI C f (.int i) (.int j) H Q:=⟨i,j,rfl,rfl,c,h⟩
theorem r_U{f:Int->V}(h:Q (f i) H):rU f (.int i) H Q:=⟨i,rfl,h⟩
theorem SY{i j:Int}:decide (V.int i=V.int j)=decide (i=j):=by
 by_cases e:i=j
 ·subst e;simp
 ·rw [aaS e];exact aaS fun z=>e (by injection z)
theorem S0(h:Q (.bl (decide (i=j))) H):rEq (.int i) (.int j) H Q:=⟨rfl,by rw [SY];exact h⟩
theorem S1(h:Q (.bl (!decide (i=j))) H):rNe (.int i) (.int j) H Q:=⟨rfl,by rw [SY];exact h⟩
theorem S2{R:List V->Hp->Prop}(h:R [] H):zk σ H R:=h
theorem OG{ts:TA}{R:List V->Hp->Prop}(h:te σ H fun x H1=>ts σ H1 fun xs H2=>R (x::xs) H2):qK te ts σ H R:=h
theorem S3{ts:TA}(h:ts σ H fun xs H1=>MJ xs H1 Q):RX ts σ H Q:=h
theorem S4{ts:TA}(h:ts σ H fun xs H1=>MK xs H1 Q):J7 ts σ H Q:=h
theorem OH{xs:List V}(hl:xs.length<=1000)(h:∀ p H2,ai H H2->H2 p=some (.tup xs)->Q (.ref p) H2):MJ xs H Q :=
 ⟨aaN (fD hl),fun p hp=>h p _ (ai.bC hp) av⟩
theorem GQ{xs:List V}(hl:xs.length<=1000)(h:∀ p H2,H p=none->ai H H2->H2 p=some (.lst xs)->Q (.ref p) H2):MK xs H Q :=
 ⟨aaN (fD hl),fun p hp=>h p _ hp (ai.bC hp) av⟩
theorem Xq{r:List V->Hp->VK->Prop}{ts:TA}(h:ts σ H fun vs H1=>r vs H1 Q):WO r ts σ H Q:=h
theorem OI{ix:List (Option Nat)}{wi:TI}(h:wi σ H fun J H1=>bP ix g tt te σ Q J H1):Gy ix wi g tt te σ H Q:=h
theorem Xr{r:V->Option Int->Option Int->Hp->VK->Prop}{tl th:TO}(h:te σ H fun x H1=>tl σ H1 fun l H2=>th σ H2 fun u H3=>r x l u H3 Q):tSl r te tl th σ H Q:=h
theorem GR{R:Option Int->Hp->Prop}(h:R none H):Dg σ H R:=h
theorem OJ{R:Option Int->Hp->Prop}(h:te σ H fun x H1=>SG x H1 R):Mx te σ H R:=h
theorem KG{R:Option Int->Hp->Prop}(h:R (some i) H):SG (.int i) H R:=⟨i,rfl,h⟩
theorem Xs{T:String}{r:V->List V->Hp->VK->Prop}{ts:TA}(h:te σ H fun x H1=>GP K T ts r σ Q x H1):tBM K T r te ts σ H Q:=h
theorem S5{wi:TI}{tb:TS}(h:wi σ H fun J H1=>hU g tb D J σ H1):RS wi g tb D σ H:=h
theorem KH{R:It->Hp->Prop}(h:te σ H fun x H1=>SI K x H1 R):F8 K te σ H R:=h
theorem OK{R:It->Hp->Prop}(h:te σ H fun x H1=>SK K x H1 R):NF K te σ H R:=h
theorem OL{ts:TA}{R:It->Hp->Prop}(h:ts σ H fun vs H1=>SM vs H1 R):Ms ts σ H R:=h
theorem OM{k1 k2:Bool}{ts:TA}{R:It->Hp->Prop}(h:ts σ H fun vs H1=>SN K k1 k2 vs H1 R):GH K k1 k2 ts σ H R:=h
theorem S6{a:Addr}{xs:List V}{R:It->Hp->Prop}(e:aR K H a xs)(h:R (Jv K a) H):SI K (.ref a) H R:=⟨a,rfl,⟨_,e⟩,h⟩
theorem S7{a:Addr}{xs:List V}{R:It->Hp->Prop}(e:aN K H a xs)(h:R (QU K a) H):SK K (.ref a) H R:=⟨a,rfl,⟨_,e⟩,h⟩
theorem MN{R:It->Hp->Prop}(h1:-1000000<=j)(h2:j<=1000000)(h:R (Mr 0 j.toNat) H):SM [.int j] H R:=⟨j,rfl,by lia,by lia,h⟩
theorem S8{k1 k2:Bool}{a b:Addr}{xs ys:List V}{R:It->Hp->Prop}(e1:Sq k1 K H a xs)(e2:Sq k2 K H b ys)(h:R (Ks K k1 k2 a b) H):SN K k1 k2 [.ref a,.ref b] H R:=⟨a,b,rfl,⟨_,e1⟩,⟨_,e2⟩,h⟩
theorem ic{a:Addr}{xs:List V}(h:aN K H a xs):Sq true K H a xs:=h
theorem cX{a:Addr}{xs:List V}(h:aR K H a xs):Sq false K H a xs:=h
theorem eH{a:Addr}{xs:List V}(e:aN K H a xs)(n:Dh xs i=some v)(h:Q v H):Vp K (.ref a) (.int i) H Q:=.inr (.inl ⟨a,xs,i,v,rfl,rfl,e,n,h⟩)
theorem du{a:Addr}{xs:List V}(e:aR K H a xs)(n:Dh xs i=some v)(h:Q v H):Vp K (.ref a) (.int i) H Q:=.inl ⟨a,xs,i,v,rfl,rfl,e,n,h⟩
theorem ON{a:Addr}{xs:List V}(e:aN K H a xs)(h:Q (.int xs.length) H):KA K [.ref a] H Q:=⟨a,xs,rfl,.inr e,h⟩
theorem OO{a:Addr}{xs:List V}(e:aR K H a xs)(h:Q (.int xs.length) H):KA K [.ref a] H Q:=⟨a,xs,rfl,.inl e,h⟩
theorem zO{a:Addr}{xs:List V}(e:aR K H a xs)(h:∀ p H2,ai H H2->H2 p=some (.tup xs)->Q (.ref p) H2):tw K [.ref a] H Q :=
 ⟨a,xs,rfl,.inl ⟨e,fun p hp=>h p _ (ai.bC hp) av⟩⟩
theorem KI{a:Addr}{xs:List V}(e:aR K H a xs)(h:∀ p H2,H p=none->ai H H2->H2 p=some (.lst xs)->Q (.ref p) H2):rT K [.ref a] H Q:=⟨a,xs,rfl,.inl e,fun p hp=>h p _ hp (ai.bC hp) av⟩
theorem KJ{a:Addr}{xs:List V}(e:aN K H a xs)(h:∀ p H2,H p=none->ai H H2->H2 p=some (.lst xs)->Q (.ref p) H2):rT K [.ref a] H Q:=⟨a,xs,rfl,.inr e,fun p hp=>h p _ hp (ai.bC hp) av⟩
theorem S9(h:Q (.int (if i<0 then -i else i)) H):SH [.int i] H Q:=⟨i,rfl,h⟩
theorem KL{b:Bool}(h:Q (.int (if b then 1 else 0)) H):ML [.bl b] H Q:=.inr ⟨b,rfl,h⟩
theorem KN{T:String}{ts:TA}{r:V->List V->Hp->VK->Prop}(e:Vq K T x H)(h:ts σ H fun xs H2=>r x xs H2 Q):GP K T ts r σ Q x H:=⟨e,h⟩
theorem dQ{l:Addr}{xs:List V}(e:H l=some (.lst xs))(n:xs.length<=1000)(h:Q .dz (upd H l (.lst (xs++[y])))):Dj (.ref l) [y] H Q:=⟨l,xs,y,rfl,rfl,e,fD n,h⟩
theorem Dv{a b:Addr}{xs ys:List V}(e1:H a=some (.lst xs))(e2:H b=some (.lst ys))(n:xs.length+ys.length<=1000)(h:∀ p H2,H p=none->ai H H2->H2 p=some (.lst (xs++ys))->Q (.ref p) H2):R7 (.ref a) (.ref b) H Q :=
 ⟨a,b,xs,ys,rfl,rfl,e1,e2,aaN (fD n),fun p hp=>h p _ hp (ai.bC hp) av⟩
theorem xy{a b:Addr}{xs ys:List V}(e1:aN K H a xs)(e2:aN K H b ys)(n1:xs≠[])(n2:ys≠[])(n:xs.length+ys.length<=1000)(h:∀ p H2,ai H H2->H2 p=some (.tup (xs++ys))->Q (.ref p) H2):Gp K (.ref a) (.ref b) H Q :=
 ⟨a,b,xs,ys,rfl,rfl,e1,e2,n1,aaN (fD n),fun z=>absurd z n2,fun _ p hp=>h p _ (ai.bC hp) av⟩
theorem Ta{a:Addr}{xs:List V}{lo hi:Option Int}(e:aN K H a xs)(n:¬ (HT.ei xs.length 0 lo=0/\HT.ei xs.length xs.length hi=xs.length))(h:∀ p H2,ai H H2->H2 p=some (.tup (iT xs lo hi))->Q (.ref p) H2):Gm K (.ref a) lo hi H Q :=
 ⟨a,xs,rfl,e,n,fun p hp=>h p _ (ai.bC hp) av⟩
theorem zP{a:Addr}{xs:List V}{lo hi:Option Int}(e:aR K H a xs)(h:∀ p H2,H p=none->ai H H2->H2 p=some (.lst (iT xs lo hi))->Q (.ref p) H2):Gq K (.ref a) lo hi H Q :=
 ⟨a,xs,rfl,e,fun p hp=>h p _ hp (ai.bC hp) av⟩
theorem OP {a:Addr} {xs:List V} {n:String} {b:Bool} (e:aN K H a xs) (k:kitOne K (.type "tuple") (.type n)=some b) (h:Q (.bl b) H):hJ K [.ref a,.ty n] H Q:=⟨_,n,_,b,rfl,.inr (.inl ⟨a,xs,rfl,e,rfl⟩),k,h⟩
theorem OQ {a:Addr} {xs:List V} {n:String} {b:Bool} (e:aR K H a xs) (k:kitOne K (.type "list") (.type n)=some b) (h:Q (.bl b) H):hJ K [.ref a,.ty n] H Q:=⟨_,n,_,b,rfl,.inr (.inr ⟨a,xs,rfl,e,rfl⟩),k,h⟩
theorem OR {n:String} {b:Bool} (k:kitOne K (.type "int") (.type n)=some b) (h:Q (.bl b) H):hJ K [.int i,.ty n] H Q:=⟨_,n,_,b,rfl,.inl (.int _),k,h⟩
theorem OS {c:Bool} {n:String} {b:Bool} (k:kitOne K (.type "bool") (.type n)=some b) (h:Q (.bl b) H):hJ K [.bl c,.ty n] H Q:=⟨_,n,_,b,rfl,.inl (.bl _),k,h⟩
end
theorem d9{c:Bool}{A B:Prop}(e:c=true)(h:A):if c=true then A else B:=by rw [if_pos e];exact h
theorem bH{c:Bool}{A B:Prop}(e:c=false)(h:B):if c=true then A else B:=by rw [e];exact Gx h
theorem aU{c:Bool}{A B:Prop}(h1:c=true->A)(h2:c=false->B):if c=true then A else B:=by
 cases c with
 | true=>exact jI (h1 rfl)
 | false=>exact Gx (h2 rfl)
section
variable {t u:TS}{D:Ends}{σ:St}{H:Hp}{te ta tb:TE}{g:TG}{tt tu:TT}{Q:VK}{i j:Int}{x y v w:V}{K:Frag}{X:Cx}
theorem KO{sp:Sp}{E:XK}{ts:TA}(h:ts σ H fun vs H1=>sp vs H1 Q E):zm sp [] E ts σ H Q:=by
 unfold zm
 simp only [append_nil]
 exact h
def WGo(tb:TS)(D:Ends)(W:Nat->St->Hp->Prop)(m:Nat)(σ:St)(H1:Hp):Prop:=∃ N:St->Hp->Prop,(∀ σ' H',N σ' H'->∃ m',m'<m/\W m' σ' H')/\tb { D with nx:=N,ct:=N,bk:=D.nx } σ H1
theorem Dw{c:TT}{tb:TS}(W:Nat->St->Hp->Prop)(m:Nat)(h0:W m σ H)(hs:∀ m σ H,W m σ H->c σ H fun b H1=>if b=true then WGo tb D W m σ H1 else D.nx σ H1):F6 c tb D σ H:=⟨W,⟨m,h0⟩,hs⟩
theorem Tb{tb:TS}{W:Nat->St->Hp->Prop}{m:Nat}(h:tb { D with nx:=fun σ' H'=>∃ m',m'<m/\W m' σ' H',ct:=fun σ' H'=>∃ m',m'<m/\W m' σ' H',bk:=D.nx } σ H):WGo tb D W m σ H:=⟨_,fun _ _ z=>z,h⟩
end
section
variable {X:Cx}(K:Frag)(hK:X.K=K)
include hK
theorem fF:dA X (.builtin "len") (KA K):=hK ▸ Eh
theorem cH:dA X (.type "tuple") (tw K):=hK ▸ zN
theorem nQ:dA X (.type "list") (rT K):=hK ▸ BM
theorem kJ:dA X (.builtin "isinstance") (hJ K):=hK ▸ xx
theorem aD:Jx X (Vp K):=hK ▸ N5
theorem KP:NY X (Gm K):=hK ▸ Gn
theorem jT:NY X (Gq K):=hK ▸ Ki
theorem nR:jO X (binaryOp .Add) (Gp K):=hK ▸ Kf
theorem OT:jO X (compareOp .In) (WS K false):=hK ▸ D2
theorem aW{tg l:Expr}{tl:TE}(hl:PE X l tl):PI X tg l (F8 K tl):=hK ▸ J1 hl
theorem xA{tg l:Expr}{tl:TE}(hl:PE X l tl):PI X tg l (NF K tl):=hK ▸ NG hl
theorem dR (k1 k2:Bool) {es:List Expr} {kk:Nat} {rf:Pos} {a b:Expr} {ta:TA} {p pos:Pos} (hg:Gl X "zip") (hm:X.mg "zip"=none) (ha:PA X [a,b] ta) (hs:starEach [a,b] X.env=[(false,eval a X.env),(false,eval b X.env)]:=by rfl) (fu:starEach [b] X.env=[(false,eval b X.env)]:=by rfl) :
  PI X (.Tuple es kk rf) (.Call (.Name "zip" p) [a,b] [] pos) (GH K k1 k2 ta):=hK ▸ Kt k1 k2 hg hm ha hs fu
theorem cw{es:List Expr}{k:Nat}{t:Mq}{n:Nat}{pos:Pos}(hc:X.calm=true)(h:RN X es t)
  (hn:(assignEach es X.env).length=n:=by rfl) (lO:(assignEach es X.env).findIdx? (·.1)=none:=by rfl):PG X (.Tuple es k pos) (qZ K n t):=hK ▸ NC hc h hn lO
end
end L2
namespace fU
theorem nS(x:Int):L2.lH x=bl x:=rfl
end fU
namespace L2
open PySem PySem.Spec PyProof.Rows
section
variable {H:Hp}{Q:VK}{K:Frag}
theorem zQ(x:V)(xs:List V):iT (x::xs) (some 1) none=xs:=by
 have e:HT.ei (x::xs).length 0 (some 1)=1:=by
  have h:=HT.xi (x::xs).length 0 1
  simp only [length_cons] at h ⊢
  have h2:min 1 (xs.length+1)=1:=by lia
  rw [h2] at h
  exact h
 unfold iT
 rw [e,HT.nF]
 simp
theorem OU{a:Addr}{x:V}{xs:List V}(e:aR K H a (x::xs))(h:∀ p H2,H p=none->ai H H2->H2 p=some (.lst xs)->Q (.ref p) H2):Gq K (.ref a) (some 1) none H Q :=
 zP e fun p H2 n s m=>h p H2 n s (by rw [zQ] at m;exact m)
theorem OV{a:Addr}{x:V}{xs:List V}(e:aN K H a (x::xs))(h:∀ p H2,ai H H2->H2 p=some (.tup xs)->Q (.ref p) H2):Gm K (.ref a) (some 1) none H Q :=
 Ta e (fun z=>by
  have h2:=HT.xi (x::xs).length 0 1
  have h3:HT.ei (x::xs).length 0 (some 1)=min 1 (x::xs).length:=h2
  rw [h3] at z
  have:=z.1
  simp only [length_cons] at this
  lia) fun p H2 s m=>h p H2 s (by rw [zQ] at m;exact m)
end
end L2
namespace PySem.F
theorem tx (a b c:Value):checkTypeCall "zip" ⟨[a,b,c],[]⟩=pure ():=by kernel_rfl
theorem vc (a b c:Value):checkBuiltinCall "zip.__new__" ⟨[.type "zip",a,b,c],[]⟩=pure ():=by kernel_rfl
end PySem.F
namespace L2
open PySem
section
variable {prog:Program}{w:World}{A:Around}{E:Value->Shared->Prop}{s:Shared}
structure zR(k1 k2 k3:Bool)(n a b c:Nat)(i:Nat)(f0:Value)(h:Heap):Prop where
 z:IsZip h (n+5) (n+3) (n+4) f0
 ti:IsT h (n+3) #[.ref n,.ref (n+1),.ref (n+2)]
 to:∃ u v x,IsT h (n+4) #[u,v,x]
 i1:jJ k1 h n a i
 i2:jJ k2 h (n+1) b i
 i3:jJ k3 h (n+2) c i
theorem Ej{k1 k2 k3:Bool}{n a b c:Nat}{i:Nat}{xs ys zs:Array Value}{x y zz:Value}{Q:Value->Shared->Prop}(Z:zR k1 k2 k3 n a b c i .none s.heap)(ha:a<n)(hb:b<n)(hc:c<n)
  (h1:bQ k1 s.heap a xs) (h2:bQ k2 s.heap b ys) (h3:bQ k3 s.heap c zs) (hx:xs[i]?=some x) (hy:ys[i]?=some y) (Vw:zs[i]?=some zz)
  (hQ:∀ h',zR k1 k2 k3 n a b c (i+1) (rawInt s.heap.objs.size) h'->IsT h' s.heap.objs.size #[x,y,zz]->h'.objs.size=s.heap.objs.size+1->Off [n,n+1,n+2,n+4,n+5] s.heap h'->Q (.ref s.heap.objs.size) { s with heap:=h' }) :
  wpAny (model prog w) A (Builtin.«zip.__next__» ⟨[.ref (n+5)],[]⟩) (fun fin s'=>∃ v,fin=.done (.ret v)/\Q v s') E s:=by
 obtain ⟨hz,zt,⟨u,v,x0,Dm⟩,y6,rj,Bb⟩:=Z
 show wpAny _ _ (field (.ref (n+5)) 2 >>= _) _ _ _
 refine aaH (wpAny_field hz rfl (x:=.bool false) rfl ?_)
 show wpAny _ _ (field (.ref (n+5)) 3 >>= _) _ _ _
 refine aaH (wpAny_field hz rfl (x:=.ref (n+3)) rfl ?_)
 refine aaH (wpAny_seqItems zt rfl ?_)
 show wpAny _ _ (Builtin.SmallTypes.ownedTupleIsFree (.ref (n+5)) >>= _) _ _ _
 refine aaH ?_
 unfold Builtin.SmallTypes.ownedTupleIsFree
 refine aaH (wpAny_field hz rfl (x:=.none) rfl (aaV ?_))
 simp only [if_true]
 refine aaH (wpAny_rule ?_)
 refine aaH (wpAny_field hz rfl (x:=.ref (n+4)) rfl ?_)
 refine aaH (wpAny_setField_rec hz (by simp) fun g1 xq nk=>?_)
 replace xq:IsZip g1 (n+5) (n+3) (n+4) .ellipsis:=xq
 refine aaH ?_
 simp only [zipIdx_cons,zipIdx_nil,forIn_cons,forIn_nil]
 refine aaH (aaH (wpAny_onRaise ?_))
 show wpAny _ _ (Builtin.SmallTypes.nextOf (.ref n) >>= _) _ _ _
 refine aaH (gu (y6.keep fun o e=>(nk.2 _ (cU (by lia))).trans e) (h1.keep fun o e=>(nk.2 _ (cU (by lia))).trans e) hx fun g2 Kp fu=>aaV ?_)
 have Tc:∀ d o,d≠n+5->d≠n->s.heap.get? d=some o->g2.get? d=some o:=fun d o d1 d2 e=>(fu.2 _ d2).trans ((nk.2 _ d1).trans e)
 have zu:IsT g2 (n+4) #[u,v,x0]:=Tc _ _ (cU (by lia)) (cU (by lia)) Dm
 refine aaH (wpAny_seqItems zu rfl ?_)
 refine aaH (kG zu (by simp) fun g3 zv wB=>?_)
 replace zv:IsT g3 (n+4) #[x,v,x0]:=zv
 refine aaH (wpAny_letGo (aaV ?_))
 refine aaH (aaH (wpAny_onRaise ?_))
 show wpAny _ _ (Builtin.SmallTypes.nextOf (.ref (n+1)) >>= _) _ _ _
 refine aaH (gu (rj.keep fun o e=>(wB.2 _ (cU (by lia))).trans (Tc _ _ (cU (by lia)) (cU (by lia)) e)) (h2.keep fun o e=>(wB.2 _ (cU (by lia))).trans (Tc _ _ (cU (by lia)) (cU (by lia)) e)) hy fun g4 Oh FN=>aaV ?_)
 have Vx:∀ d o,d≠n+4->d≠n+1->g2.get? d=some o->g4.get? d=some o:=fun d o d1 d2 e=>(FN.2 _ d2).trans ((wB.2 _ d1).trans e)
 have GD:IsT g4 (n+4) #[x,v,x0]:=(FN.2 _ (cU (by lia))).trans zv
 refine aaH (wpAny_seqItems GD rfl ?_)
 refine aaH (kG GD (by simp) fun g5 zw Jy=>?_)
 replace zw:IsT g5 (n+4) #[x,y,x0]:=zw
 refine aaH (wpAny_letGo (aaV ?_))
 refine aaH (aaH (wpAny_onRaise ?_))
 show wpAny _ _ (Builtin.SmallTypes.nextOf (.ref (n+2)) >>= _) _ _ _
 refine aaH (gu (Bb.keep fun o e=>(Jy.2 _ (cU (by lia))).trans (Vx _ _ (cU (by lia)) (cU (by lia)) (Tc _ _ (cU (by lia)) (cU (by lia)) e))) (h3.keep fun o e=>(Jy.2 _ (cU (by lia))).trans (Vx _ _ (cU (by lia)) (cU (by lia)) (Tc _ _ (cU (by lia)) (cU (by lia)) e))) Vw fun g6 Xt Xu=>aaV ?_)
 have Xv:∀ d o,d≠n+4->d≠n+2->g4.get? d=some o->g6.get? d=some o:=fun d o d1 d2 e=>(Xu.2 _ d2).trans ((Jy.2 _ d1).trans e)
 have Td:IsT g6 (n+4) #[x,y,x0]:=(Xu.2 _ (cU (by lia))).trans zw
 refine aaH (wpAny_seqItems Td rfl ?_)
 refine aaH (kG Td (by simp) fun g7 KQ Kq=>?_)
 replace KQ:IsT g7 (n+4) #[x,y,zz]:=KQ
 refine aaH (wpAny_letGo (aaV (aaV ?_)))
 refine aaH (wpAny_seqItems KQ rfl ?_)
 refine aaH (wpAny_newTuple ?_)
 have wj:g7.objs.size=s.heap.objs.size:=by rw [Kq.1,Xu.1,Jy.1,FN.1,wB.1,fu.1,nk.1]
 have Te:∀ d o,d≠n->d≠n+1->d≠n+2->d≠n+4->g1.get? d=some o->g7.get? d=some o:=fun d o d0 d1 d2 d4 e=>(Kq.2 _ d4).trans (Xv _ _ d4 d2 (Vx _ _ d4 d1 ((fu.2 _ d0).trans e)))
 have QY:IsZip g7 (n+5) (n+3) (n+4) .ellipsis:=Te _ _ (cU (by lia)) (cU (by lia)) (cU (by lia)) (cU (by lia)) xq
 have Tf:Off [n,n+1,n+2,n+4,n+5] s.heap g7:=fun d o hd e=>by
  simp only [aa9,not_mem_nil,or_false,not_or] at hd
  exact Te d o hd.1 hd.2.1 hd.2.2.1 hd.2.2.2.1 ((nk.2 _ hd.2.2.2.2).trans e)
 have GF:n+5<g7.objs.size:=aaJ QY
 show wpAny _ _ (Builtin.SmallTypes.ownedTupleHandOut (.ref (n+5)) (.ref g7.objs.size) >>= _) _ _ _
 refine aaH ?_
 unfold Builtin.SmallTypes.ownedTupleHandOut
 have QZ:IsZip (g7.push { cls:=.type "tuple",data:=.seq #[x,y,zz] }) (n+5) (n+3) (n+4) .ellipsis:=aaG _ QY
 refine aaH (wpAny_setField_rec QZ (by simp) fun g9 Xw Kr=>?_)
 replace Xw:IsZip g9 (n+5) (n+3) (n+4) (rawInt g7.objs.size):=Xw
 refine wpAny_setField_rec Xw (by simp) fun gA Vy Xx=>?_
 replace Vy:IsZip gA (n+5) (n+3) (n+4) (rawInt g7.objs.size):=Vy
 have up:∀ d o,d≠n+5->g7.get? d=some o->gA.get? d=some o:=fun d o d1 e=>(Xx.2 _ d1).trans ((Kr.2 _ d1).trans (aaG _ e))
 have FQ:IsT gA g7.objs.size #[x,y,zz]:=(Xx.2 _ (Nat.ne_of_gt GF)).trans ((Kr.2 _ (Nat.ne_of_gt GF)).trans (aaK _ rfl))
 have Th:gA.objs.size=g7.objs.size+1:=by rw [Xx.1,Kr.1,Heap.size_push]
 rw [wj] at Vy FQ Th
 refine aaV ⟨_,rfl,?_⟩
 show Q (.ref g7.objs.size) _
 rw [wj]
 refine hQ gA ⟨Vy,up _ _ (cU (by lia)) (Tf _ _ (by simp) zt),⟨x,y,zz,up _ _ (cU (by lia)) KQ⟩,?_,?_,?_⟩ FQ Th fun d o hd e=>?_
 ·exact Kp.keep fun o e=>up _ o (cU (by lia)) ((Kq.2 _ (cU (by lia))).trans (Xv _ _ (cU (by lia)) (cU (by lia)) (Vx _ _ (cU (by lia)) (cU (by lia)) e)))
 ·exact Oh.keep fun o e=>up _ o (cU (by lia)) ((Kq.2 _ (cU (by lia))).trans (Xv _ _ (cU (by lia)) (cU (by lia)) e))
 ·exact Xt.keep fun o e=>up _ o (cU (by lia)) ((Kq.2 _ (cU (by lia))).trans e)
 ·exact up d o (fun z=>hd (by simp [z])) (Tf d o hd e)
theorem Ek{k1 k2 k3:Bool}{n a b c:Nat}{i:Nat}{xs:Array Value}{Q:Fin->Shared->Prop}(hh:A.handled=none)(Z:zR k1 k2 k3 n a b c i .none s.heap)(ha:a<n)
  (h1:bQ k1 s.heap a xs) (hx:xs[i]?=none)
  (hE:∀ h' e,Off [n,n+1,n+2,n+4,n+5] s.heap h'->(∃ o,h'.get? e=some o/\o.cls=.type "StopIteration")->E (.ref e) { s with heap:=h' }) :
  wpAny (model prog w) A (Builtin.«zip.__next__» ⟨[.ref (n+5)],[]⟩) Q E s:=by
 obtain ⟨hz,zt,⟨u,v,x0,Dm⟩,y6,rj,Bb⟩:=Z
 show wpAny _ _ (field (.ref (n+5)) 2 >>= _) _ _ _
 refine aaH (wpAny_field hz rfl (x:=.bool false) rfl ?_)
 show wpAny _ _ (field (.ref (n+5)) 3 >>= _) _ _ _
 refine aaH (wpAny_field hz rfl (x:=.ref (n+3)) rfl ?_)
 refine aaH (wpAny_seqItems zt rfl ?_)
 show wpAny _ _ (Builtin.SmallTypes.ownedTupleIsFree (.ref (n+5)) >>= _) _ _ _
 refine aaH ?_
 unfold Builtin.SmallTypes.ownedTupleIsFree
 refine aaH (wpAny_field hz rfl (x:=.none) rfl (aaV ?_))
 simp only [if_true]
 refine aaH (wpAny_rule ?_)
 refine aaH (wpAny_field hz rfl (x:=.ref (n+4)) rfl ?_)
 refine aaH (wpAny_setField_rec hz (by simp) fun g1 xq nk=>?_)
 replace xq:IsZip g1 (n+5) (n+3) (n+4) .ellipsis:=xq
 refine aaH ?_
 simp only [zipIdx_cons,zipIdx_nil,forIn_cons,forIn_nil]
 refine aaH (aaH (wpAny_onRaise ?_))
 show wpAny _ _ (Builtin.SmallTypes.nextOf (.ref n) >>= _) _ _ _
 refine aaH (rR hh (y6.keep fun o e=>(nk.2 _ (cU (by lia))).trans e) (h1.keep fun o e=>(nk.2 _ (cU (by lia))).trans e) hx fun g2 e fu he=>?_)
 obtain ⟨oe,Oi,Sn⟩:=he
 have GC:IsZip g2 (n+5) (n+3) (n+4) .ellipsis:=fu _ _ (cU (by lia)) xq
 have Xc:e≠n+5:=fun z=>by subst z;rw [GC] at Oi;cases Oi;simp at Sn
 exact wpAny_setField_rec GC (by simp) fun g9 _ Kr=>hE g9 e (((Off.of nk (by simp)).trans fun d o hd q=>fu d o (fun z=>hd (by simp [z])) q).trans (Off.of Kr (by simp))) ⟨oe,(Kr.2 _ Xc).trans Oi,Sn⟩
theorem zS{k1 k2 k3:Bool}{n a b c:Nat}{i:Nat}{xs ys zs:Array Value}{x y zz:Value}{Q:Option Value->Shared->Prop}(Z:zR k1 k2 k3 n a b c i .none s.heap)(ha:a<n)(hb:b<n)(hc:c<n)
  (h1:bQ k1 s.heap a xs) (h2:bQ k2 s.heap b ys) (h3:bQ k3 s.heap c zs) (hx:xs[i]?=some x) (hy:ys[i]?=some y) (Vw:zs[i]?=some zz)
  (hQ:∀ h',zR k1 k2 k3 n a b c (i+1) (rawInt s.heap.objs.size) h'->IsT h' s.heap.objs.size #[x,y,zz]->h'.objs.size=s.heap.objs.size+1->Off [n,n+1,n+2,n+4,n+5] s.heap h'->Q (some (.ref s.heap.objs.size)) { s with heap:=h' }) :
  wpAny (model prog w) A (pyNext (.ref (n+5))) Q E s:=by
 have hT:s.TypeIs (.ref (n+5)) "zip":=⟨_,Z.z,rfl⟩
 unfold pyNext
 exact aaH (wpAny_attempt (wpAny_callSpecial?_slot (name:=Str.ofString "__next__") hT F.slot_zip_next
  (wpAny_call_entry F.slot_zip_next hT F.entry_zip_next
   (Ej Z ha hb hc h1 h2 h3 hx hy Vw fun h' a1 a2 a3 a4=>aaV (hQ h' a1 a2 a3 a4)) (F.args_zip_next_1 _))))
theorem rp{k1 k2 k3:Bool}{n a b c:Nat}{i:Nat}{xs:Array Value}{Q:Option Value->Shared->Prop}(hh:A.handled=none)(Z:zR k1 k2 k3 n a b c i .none s.heap)(ha:a<n)
  (h1:bQ k1 s.heap a xs) (hx:xs[i]?=none)
  (hQ:∀ h',Off [n,n+1,n+2,n+4,n+5] s.heap h'->Q none { s with heap:=h' }):wpAny (model prog w) A (pyNext (.ref (n+5))) Q E s:=by
 have hT:s.TypeIs (.ref (n+5)) "zip":=⟨_,Z.z,rfl⟩
 unfold pyNext
 refine aaH (wpAny_attempt (wpAny_callSpecial?_slot (name:=Str.ofString "__next__") hT F.slot_zip_next
  (wpAny_call_entry F.slot_zip_next hT F.entry_zip_next (Ek (A:=A.in1) hh Z ha h1 hx fun h' e hk he=>?_) (F.args_zip_next_1 _))))
 obtain ⟨o,ho,hc⟩:=he
 refine aaH (wpAny_isInstance (T:="StopIteration") (b:=true) ⟨o,ho,hc⟩ isSubtype_stop ?_)
 exact aaV (hQ _ hk)
end
abbrev KR (k1 k2 k3:Bool) (h:Heap) (a b c:Addr):Heap:=(((((h.push (bX k1 a)).push (bX k2 b)).push (bX k3 c)).push { cls:=.type "tuple",data:=.seq #[.ref h.objs.size,.ref (h.objs.size+1),.ref (h.objs.size+2)] }).push { cls:=.type "tuple",data:=.seq #[.none,.none,.none] }).push
 { cls:=.type "zip",data:=.fields #[.none,.bool false,.bool false,.ref (h.objs.size+3),.ref (h.objs.size+4)] }
theorem El(k1 k2 k3:Bool)(a b c:Addr)(xs ys zs:Array Value) :
  Meets (Builtin.«zip.__new__» ⟨[.type "zip",.ref a,.ref b,.ref c],[]⟩) (fun _ R s=>bQ k1 s.heap a xs/\bQ k2 s.heap b ys/\bQ k3 s.heap c zs /\
   R (.ok (.ret (.ref (s.heap.objs.size+5)))) { s with heap:=KR k1 k2 k3 s.heap a b c }) :=
 .of_wp fun prog w A R s h=>by
  obtain ⟨hp,g,d,tk,os⟩:=s;obtain ⟨FO,Dk,OW,h⟩:=h
  have Xd:=sub_zip
  have Xe:bQ k1 (Shared.heap ⟨hp,g,d,tk,os⟩) a xs:=FO
  have Xf:bQ k2 (Shared.heap ⟨hp.push (bX k1 a),g,d,tk,os⟩) b ys:=bQ.keep Dk fun o e=>aaG _ e
  have hL3:bQ k3 (Shared.heap ⟨(hp.push (bX k1 a)).push (bX k2 b),g,d,tk,os⟩) c zs:=bQ.keep OW fun o e=>aaG _ (aaG _ e)
  wp_walk using gq Xe,gq Xf,gq hL3
  refine⟨_,rfl,?_⟩
  simp only [Heap.size_push]
  exact h
end L2
namespace PySem.F
theorem lX (a b c d:Value):argsOk "object.__init__" ⟨[a,b,c,d],[]⟩:=by
 unfold argsOk;rw [signature?_of (id:="object.__init__") (n:=['_','_','t','i','n','i','_','_']) (o:=['t','c','e','j','b','o']) (by kernel_rfl) owner_object];kernel_rfl
end PySem.F
namespace L2
open PySem PySem.Spec PyProof.Rows
theorem zT{c:Addr}{n:Nat}(z:c∈([n,n+1,n+2,n+4,n+5]:List Addr)):c∈([n+5,n+3,n+4,n,n+1,n+2]:List Addr):=by
 simp only [aa9,not_mem_nil,or_false] at z ⊢
 rcases z with h|h|h|h|h <;> simp [h]
def KS(K : Frag)(k1 k2 k3 : Bool)(a b c : Addr) : It :=
  ⟨fun i H => ∃ xs ys zs x y z, Sq k1 K H a xs /\ Sq k2 K H b ys /\ Sq k3 K H c zs /\ xs[i]?=some x /\ ys[i]?=some y /\ zs[i]?=some z,
   fun i H v H' => ∃ p x y z, v=.ref p /\ H p=none /\ (∀ xs, Sq k1 K H a xs -> xs[i]?=some x) /\ (∀ ys, Sq k2 K H b ys -> ys[i]?=some y) /\ (∀ zs, Sq k3 K H c zs -> zs[i]?=some z) /\ H'=upd H p (.tup [x, y, z]),
   fun i H => ∃ xs, Sq k1 K H a xs /\ xs.length <= i⟩
theorem Em{P:Program}{w:World}{K:Frag}{es:List Expr}{kk:Nat}{pos:Pos}{k1 k2 k3:Bool}(n a b c:Nat)(ha:a<n)(hb:b<n)(hc:c<n) :
  Turn P w K (.Tuple es kk pos) (KS K k1 k2 k3 a b c) [n+5,n+3,n+4,n,n+1,n+2] (n+5) (fun i h=>zR k1 k2 k3 n a b c i .none h) where
 mem:=by simp
 obj:=fun i h st d hd=>by
  obtain ⟨hz,zt,⟨u,v,x,Dm⟩,y6,rj,Bb⟩:=st
  simp only [aa9,not_mem_nil,or_false] at hd
  rcases hd with rfl|rfl|rfl|rfl|rfl|rfl
  ·exact⟨_,hz,fun v z=>nomatch z⟩
  ·exact⟨_,zt,fun v z=>nomatch z⟩
  ·exact⟨_,Dm,fun v z=>nomatch z⟩
  ·exact y6.obj
  ·exact rj.obj
  ·exact Bb.obj
 keep:=fun i h h' st k=>by
  obtain ⟨hz,zt,⟨u,v,x,Dm⟩,y6,rj,Bb⟩:=st
  exact⟨k _ (by simp) _ hz,k _ (by simp) _ zt,⟨u,v,x,k _ (by simp) _ Dm⟩,y6.keep fun o e=>k _ (by simp) o e,rj.keep fun o e=>k _ (by simp) o e,Bb.keep fun o e=>k _ (by simp) o e⟩
 item:=by
  intro X hP hw hK tj i pins s σ H E I hf st hg
  subst hP hw hK
  obtain ⟨xs,ys,zs,x,y,z,qx,qy,qz,ex,ey,ez⟩:=hg
  obtain ⟨GG,r1,s1,_⟩:=I.sq qx
  obtain ⟨Q0,r2,s2,_⟩:=I.sq qy
  obtain ⟨is3,r3,s3,_⟩:=I.sq qz
  obtain ⟨u,hu,ru⟩:=r1.get ex
  obtain ⟨v,hv,rv⟩:=r2.get ey
  obtain ⟨t,ht,rt⟩:=r3.get ez
  refine zS st ha hb hc s1 s2 s3 (x:=u) (y:=v) (zz:=t) (by simpa using hu) (by simpa using hv) (by simpa using ht) fun h' Z hT wj off=>⟨_,rfl,?_⟩
  have BG:H s.heap.objs.size=none:=I.bc.fresh (aaM _)
  have So:n+5<s.heap.objs.size:=aaJ st.z
  refine wpAny_letOwnedTupleGo_zip Z.z fun h2 GC fu=>?_
  have jR:Off [n+5,n+3,n+4,n,n+1,n+2] s.heap h2:=fun d o hd e=>(fu.2 d fun z=>hd (by simp [z])).trans (off d o (fun z=>hd (zT z)) e)
  have zy:IsT h2 s.heap.objs.size #[u,v,t]:=(fu.2 _ (Nat.ne_of_gt So)).trans hT
  refine⟨.ref s.heap.objs.size,upd H s.heap.objs.size (.tup [x,y,z]),?_,rfl,⟨_,x,y,z,rfl,BG,fun Dx xr=>by rw [I.pC xr qx];exact ex,fun Dx xr=>by rw [I.pC xr qy];exact ey,fun Dx xr=>by rw [I.pC xr qz];exact ez,rfl⟩,?_,fun d hd=>?_⟩
  ·refine Inv.off (s:=s) (h':=h2) (t':=s.toks) (ch:=[n+5,n+3,n+4,n,n+1,n+2]) I hf jR (I.bc.BF (fun d hd=>(hf d hd).1) jR (aaM _) ?_) (fun d o _ e hn=>?_) fun d o e=>?_
   ·exact⟨by show 3<=sizeLine;decide,[u,v,t],.cons ru (.cons rv (.cons rt .nil)),⟨_,zy,rfl,_,rfl⟩⟩
   ·rw [ax (abw (aaJ e))];exact hn
   ·rw [ax (bf e BG)];exact e
  ·obtain ⟨z1,z2,⟨a1,a2,a3,z3⟩,z4,z5,z6⟩:=Z
   exact⟨GC,(fu.2 _ (cU (by lia))).trans z2,⟨a1,a2,a3,(fu.2 _ (cU (by lia))).trans z3⟩,z4.keep fun o e=>(fu.2 _ (cU (by lia))).trans e,z5.keep fun o e=>(fu.2 _ (cU (by lia))).trans e,z6.keep fun o e=>(fu.2 _ (cU (by lia))).trans e⟩
  ·have cn:d≠s.heap.objs.size:=by
    simp only [aa9,not_mem_nil,or_false] at hd
    rcases hd with rfl|rfl|rfl|rfl|rfl|rfl <;> exact cU (by lia)
   rw [ax cn];exact (hf d hd).1
 done:=by
  intro X hP hw hK tj i pins s σ H E I hf st hg
  subst hP hw hK
  obtain ⟨xs,qx,vb⟩:=hg
  obtain ⟨GG,r1,s1,_⟩:=I.sq qx
  have e1:=r1.length
  refine rp (I.ok.hd tj) st ha s1 (by simp;lia) fun h' off=>⟨rfl,?_⟩
  have jR:Off [n+5,n+3,n+4,n,n+1,n+2] s.heap h':=fun d o hd e=>off d o (fun z=>hd (zT z)) e
  exact Inv.off (s:=s) (t':=s.toks) I hf jR (I.bc.off (fun d hd=>(hf d hd).1) jR) (fun _ _ _ _ q=>q) fun _ _ q=>q
 self:=fun _ _ _ _ _ st h=>wpAny_pyIter_zip st.z h
def GS(K:Frag)(k1 k2 k3:Bool):List V->Hp->(It->Hp->Prop)->Prop:=fun vs H R=>∃ a b c,vs=[.ref a,.ref b,.ref c]/\(∃ xs,Sq k1 K H a xs)/\(∃ ys,Sq k2 K H b ys)/\(∃ zs,Sq k3 K H c zs)/\R (KS K k1 k2 k3 a b c) H
def GU(K:Frag)(k1 k2 k3:Bool)(ta:TA):TI:=fun σ H R=>ta σ H fun vs H1=>GS K k1 k2 k3 vs H1 R
section
variable {X:Cx}
theorem vals3{x y z:V}{us:List Value}(r:Vals [x,y,z] us):∃ u v w',us=[u,v,w']/\RelV x u/\RelV y v/\RelV z w':=by
 cases r with
 | cons r1 t=>cases t with
  | cons r2 t=>cases t with
   | cons r3 t=>cases t;exact⟨_,_,_,rfl,r1,r2,r3⟩
theorem KU (k1 k2 k3:Bool) {es:List Expr} {kk:Nat} {rf:Pos} {a b c:Expr} {ta:TA} {p pos:Pos} (hg:Gl X "zip") (hm:X.mg "zip"=none) (ha:PA X [a,b,c] ta) (hs:starEach [a,b,c] X.env=(false,eval a X.env)::starEach [b,c] X.env:=by rfl) (qL:(backTo pos (starEach [b,c] X.env)).any (·.1)=false:=by rfl) :
  PI X (.Tuple es kk rf) (.Call (.Name "zip" p) [a,b,c] [] pos) (GU X.K k1 k2 k3 ta):=by
 intro pins s σ H R I h
 refine Call_ (fv I hg hm boot_zip (callWith_type1 (c6 (ha pos pins s σ H _ I h) fun us s1 ⟨vs,H1,I1,r1,q1⟩=>?_) hs qL))
 obtain ⟨a',b',c',e,⟨xs,qx⟩,⟨ys,qy⟩,⟨zs,qz⟩,q⟩:=q1
 subst e
 obtain ⟨u,v,t,rfl,ru,rv,rt⟩:=vals3 r1
 cases ru
 cases rv
 cases rt
 obtain ⟨GG,r1,MC,_⟩:=I1.sq qx
 obtain ⟨Q0,r2,Oj,_⟩:=I1.sq qy
 obtain ⟨is3,r3,s3',_⟩:=I1.sq qz
 refine callType_new PySem.F.called_zip (by decide) (PySem.F.tx _ _ _) (PySem.F.vc _ _ _) (fun obj=>PySem.F.lX obj _ _ _) PySem.F.entry_zip_new (El k1 k2 k3 a' b' c' GG.toArray Q0.toArray is3.toArray) ⟨MC,Oj,s3',?_⟩
 have z1:(s1.heap.push (bX k1 a')).objs.size=s1.heap.objs.size+1:=Heap.size_push ..
 have z2:((s1.heap.push (bX k1 a')).push (bX k2 b')).objs.size=s1.heap.objs.size+2:=by rw [Heap.size_push,z1]
 have z3:(((s1.heap.push (bX k1 a')).push (bX k2 b')).push (bX k3 c')).objs.size=s1.heap.objs.size+3:=by rw [Heap.size_push,z2]
 have z4:((((s1.heap.push (bX k1 a')).push (bX k2 b')).push (bX k3 c')).push { cls:=.type "tuple",data:=.seq #[.ref s1.heap.objs.size,.ref (s1.heap.objs.size+1),.ref (s1.heap.objs.size+2)] }).objs.size=s1.heap.objs.size+4:=by rw [Heap.size_push,z3]
 have z5:(((((s1.heap.push (bX k1 a')).push (bX k2 b')).push (bX k3 c')).push { cls:=.type "tuple",data:=.seq #[.ref s1.heap.objs.size,.ref (s1.heap.objs.size+1),.ref (s1.heap.objs.size+2)] }).push { cls:=.type "tuple",data:=.seq #[.none,.none,.none] }).objs.size=s1.heap.objs.size+5:=by rw [Heap.size_push,z4]
 have g6:(KR k1 k2 k3 s1.heap a' b' c').get? (s1.heap.objs.size+5)=some { cls:=.type "zip",data:=.fields #[.none,.bool false,.bool false,.ref (s1.heap.objs.size+3),.ref (s1.heap.objs.size+4)] }:=by rw [<- z5];exact aaK _ rfl
 have g5:(KR k1 k2 k3 s1.heap a' b' c').get? (s1.heap.objs.size+4)=some { cls:=.type "tuple",data:=.seq #[.none,.none,.none] }:=by rw [<- z4];exact aaG _ (aaK _ rfl)
 have g4:(KR k1 k2 k3 s1.heap a' b' c').get? (s1.heap.objs.size+3)=some { cls:=.type "tuple",data:=.seq #[.ref s1.heap.objs.size,.ref (s1.heap.objs.size+1),.ref (s1.heap.objs.size+2)] }:=by rw [<- z3];exact aaG _ (aaG _ (aaK _ rfl))
 have g3:(KR k1 k2 k3 s1.heap a' b' c').get? (s1.heap.objs.size+2)=some (bX k3 c'):=by rw [<- z2];exact aaG _ (aaG _ (aaG _ (aaK _ (by cases k3 <;> rfl))))
 have g2:(KR k1 k2 k3 s1.heap a' b' c').get? (s1.heap.objs.size+1)=some (bX k2 b'):=by rw [<- z1];exact aaG _ (aaG _ (aaG _ (aaG _ (aaK _ (by cases k2 <;> rfl)))))
 have g1:(KR k1 k2 k3 s1.heap a' b' c').get? s1.heap.objs.size=some (bX k1 a'):=aaG _ (aaG _ (aaG _ (aaG _ (aaG _ (aaK _ (by cases k1 <;> rfl))))))
 have old:∀ d o,s1.heap.get? d=some o->(KR k1 k2 k3 s1.heap a' b' c').get? d=some o:=fun d o x=>aaG _ (aaG _ (aaG _ (aaG _ (aaG _ (aaG _ x)))))
 have Z:zR k1 k2 k3 s1.heap.objs.size a' b' c' 0 .none (KR k1 k2 k3 s1.heap a' b' c'):=⟨g6,g4,⟨_,_,_,g5⟩,iF g1,iF g2,iF g3⟩
 show _/\_
 refine⟨⟨_,g6,rfl⟩,wpAny_pyIter_zip Z.z ?_⟩
 refine⟨_,_,_,_,H1,rfl,I1.kept (t':=s1.toks) old,Em s1.heap.objs.size a' b' c' MC.lt Oj.lt s3'.lt,Z,fun d hd=>?_,q⟩
 have tj:s1.heap.objs.size<=d:=by
  simp only [aa9,not_mem_nil,or_false] at hd
  rcases hd with rfl|rfl|rfl|rfl|rfl|rfl <;> first|exact le_add_right _ _|exact aaM _
 exact I1.u6 tj (I1.bc.fresh tj)
theorem GV (K:Frag) (hK:X.K=K) (k1 k2 k3:Bool) {es:List Expr} {kk:Nat} {rf:Pos} {a b c:Expr} {ta:TA} {p pos:Pos} (hg:Gl X "zip") (hm:X.mg "zip"=none) (ha:PA X [a,b,c] ta) (hs:starEach [a,b,c] X.env=(false,eval a X.env)::starEach [b,c] X.env:=by rfl) (qL:(backTo pos (starEach [b,c] X.env)).any (·.1)=false:=by rfl) :
  PI X (.Tuple es kk rf) (.Call (.Name "zip" p) [a,b,c] [] pos) (GU K k1 k2 k3 ta):=hK ▸ KU k1 k2 k3 hg hm ha hs qL
end
section
variable {D:Ends}{σ:St}{H:Hp}{K:Frag}
theorem KW{k1 k2 k3:Bool}{ts:TA}{R:It->Hp->Prop}(h:ts σ H fun vs H1=>GS K k1 k2 k3 vs H1 R):GU K k1 k2 k3 ts σ H R:=h
theorem OX{k1 k2 k3:Bool}{a b c:Addr}{xs ys zs:List V}{R:It->Hp->Prop}(e1:Sq k1 K H a xs)(e2:Sq k2 K H b ys)(e3:Sq k3 K H c zs)(h:R (KS K k1 k2 k3 a b c) H):GS K k1 k2 k3 [.ref a,.ref b,.ref c] H R:=⟨a,b,c,rfl,⟨_,e1⟩,⟨_,e2⟩,⟨_,e3⟩,h⟩
end
def rm(H:Hp)(l:Addr):Hp:=fun b=>if b=l then none else H b
theorem zU{H:Hp}{l:Addr}:rm H l l=none:=by unfold rm;rw [if_pos rfl]
theorem GW{H:Hp}{l b:Addr}(h:b≠l):rm H l b=H b:=by unfold rm;rw [if_neg h]
theorem rV{H:Hp}{l:Addr}:ai (rm H l) H:=fun b o e=>by
 by_cases h:b=l
 ·subst h;rw [zU] at e;cases e
 ·rw [GW h] at e;exact e
theorem GX{K:Frag}{H:Hp}{l a:Addr}{xs ys:List V}(h:aN K H a xs)(hl:H l=some (.lst ys)):aN K (rm H l) a xs:=by
 have ne:∀ {o},H a=some o->(∀ zs,o≠.lst zs)->a≠l:=fun {o} e n z=>by subst z;rw [hl] at e;exact n _ (aaO e).symm
 rcases h with (h|⟨o,h⟩)|h
 ·exact .inl (.inl (by rw [GW (ne h fun _ z=>nomatch z)];exact h))
 ·exact .inl (.inr ⟨o,by rw [GW (ne h fun _ z=>nomatch z)];exact h⟩)
 ·exact .inr h
end L2
namespace L2
open PySem PySem.Spec PyProof.Rows PySem.W
section
variable {M:Model}{A:Around}{E:Value->Shared->Prop}{s:Shared}
def OY(h:Heap)(e:Addr)(vs:Array Value):Option Addr->Prop
 | none=>vs[1]?=some .none
 | some T=>vs[1]?=some (.ref T)/\T≠e/\∃ oT ts,h.get? T=some oT/\oT.data=.fields ts/\ts[3]?=some .none
end
end L2
namespace L2
open PySem PySem.Spec PyProof.Rows PySem.W
def Exc(h:Heap)(H:Hp)(h0:Heap)(ps:List (Addr×Obj))(a C:Addr):Prop:=∃ oe vs T0,h.get? a=some oe/\oe.cls=.ref C/\oe.dict=none/\oe.data=.fields vs/\1<vs.size/\OY h a vs T0/\H a=none/\(h0.get? a=none/\∀ p∈ps,p.1≠a) /\
 ∀ T,T0=some T->H T=none/\h0.get? T=none/\∀ p∈ps,p.1≠T
abbrev Vz:=Addr->St->Hp->Prop
def XW(X:Cx)(EX:Vz):Value->Shared->Prop:=fun e s'=>∃ a C σ' H',e=.ref a/\Inv X.Ju [] σ' H' s'/\Exc s'.heap H' X.s₀.heap X.pn a C/\EX C σ' H'
end L2
namespace L2
open PySem PySem.Spec PyProof.Rows PySem.W
section
variable {X:Cx}{pins:List (Addr×Obj)}{σ:List (Option V)}{H H':Hp}{s:Shared}{h':Heap}
theorem Inv.GY{t':Nat}{ch:List Addr}(I:Inv X pins σ H s)
  (yY:∀ b∈ch,X.s₀.heap.get? b=none/\b≠X.env.locals/\(∀ x c,X.env.cells.lookup x=some c->c≠b)/\∀ p∈X.pn++pins,p.1≠b)
  (keep:∀ b o,b≠X.env.locals->b∉X.fs->b∉ch->s.heap.get? b=some o->H b=none->h'.get? b=some o)
  (slot:∀ b o,b≠X.env.locals->b∈X.fs->b∉ch->s.heap.get? b=some o->H b=none->∃ sl,h'.get? b=some { o with slots:=sl }) (free:∀ b o,b∉ch->s.heap.get? b=some o->H b=none->H' b=none)
  (there:∀ b o,b∉ch->s.heap.get? b=some o->∃ o',h'.get? b=some o')
  (nr:∀ b xs,H b=some (.tup xs)->H' b=some (.tup xs)) (lL:∀ b o u,H b=some (.xa o u)->H' b=some (.xa o u)) (lM:∀ b ps,H b=some (.sG ps)->∃ more,H' b=some (.sG (ps++more)))
  (ns:∀ m,s.heap.Ns X.env.locals m->h'.Ns X.env.locals m) (bc:gW X.prog X.w H' h') :
  Inv X pins σ H' { s with heap:=h',toks:=t' }:=by
 have JW:∀ b o,X.s₀.heap.get? b=some o->b≠X.env.locals:=fun b o e=>abw (Nat.lt_of_lt_of_le (aaJ e) I.ok.above)
 have JX:∀ b o,X.s₀.heap.get? b=some o->b∉ch:=fun b o e hb=>by rw [(yY b hb).1] at e;cases e
 have cellK:∀ x c,X.env.cells.lookup x=some c->∀ v,s.heap.IsCell c v->h'.IsCell c v:=fun x c e v ⟨o,ho,hd⟩=>by
  have F2:c∉ch:=fun z=>(yY c z).2.2.1 x c e rfl
  by_cases hc:c∈X.fs
  ·obtain ⟨sl,q⟩:=slot c o (I.JV x c e) hc F2 ho (I.fO x c e)
   exact⟨_,q,hd⟩
  ·exact⟨o,keep c o (I.JV x c e) hc F2 ho (I.fO x c e),hd⟩
 refine⟨I.ok,I.os,I.bare,⟨fun b o e n hb hx=>?_,fun b o e n hb hx=>?_,fun b o e n hx=>?_,fun b o e hx=>?_,fun b xs e=>nr b xs (I.base.nr b xs e),fun b o xs e=>lL b o xs (I.base.lL b o xs e),fun b ps e=>?_⟩,?_,fun x c e=>?_,?_,fun x c e=>?_,fun p hp=>?_,bc,I.len⟩
 ·exact keep b o (JW b o e) hb (JX b o e) (I.base.keep b o e n hb hx) (I.base.free b o e n hx)
 ·obtain ⟨sl,e1⟩:=I.base.slot b o e n hb hx
  obtain ⟨Wy,e2⟩:=slot b _ (JW b o e) hb (JX b o e) e1 (I.base.free b o e n hx)
  exact⟨Wy,e2⟩
 ·obtain ⟨o',e1⟩:=I.base.there b o e hx
  exact free b o' (JX b o e) e1 (I.base.free b o e n hx)
 ·obtain ⟨o',e1⟩:=I.base.there b o e hx
  exact there b o' (JX b o e) e1
 ·obtain ⟨m1,e1⟩:=I.base.lM b ps e
  obtain ⟨m2,e2⟩:=lM b _ e1
  exact⟨m1++m2,by rw [e2,Array.append_assoc]⟩
 ·obtain ⟨m,hn,hl⟩:=I.loc
  refine⟨m,ns m hn,fun i x v e1 e2 e3=>?_⟩
  obtain ⟨u,r,l⟩:=hl i x v e1 e2 e3
  refine⟨u,r,?_⟩
  rcases l with l|⟨k,c,e,z⟩
  ·exact .inl l
  ·exact .inr ⟨k,c,e,cellK x c e _ z⟩
 ·obtain ⟨v,z⟩:=I.cell x c e
  exact⟨v,cellK x c e v z⟩
 ·obtain ⟨m,⟨o,_,_,ho,_⟩,_⟩:=I.loc
  exact free _ o (fun z=>(yY _ z).2.1 rfl) ho I.free
 ·obtain ⟨v,o,ho,hd⟩:=I.cell x c e
  exact free c o (fun z=>(yY c z).2.2.1 x c e rfl) ho (I.fO x c e)
 ·obtain ⟨e,n,ne,nf,d⟩:=I.pin p hp
  have F2:p.1∉ch:=fun z=>(yY p.1 z).2.2.2 p hp rfl
  exact⟨keep p.1 p.2 ne nf F2 e n,free p.1 p.2 F2 e n,ne,nf,d⟩
end
open PySem PySem.Spec PyProof.Rows
section
variable {X:Cx}
theorem dF{y:Str}{py Tj:Pos}{k:Nat}{tg iter elt:Expr}{ifs:List Expr}{scope:Scope}{pos:Pos}{N:List Str}{ix:List (Option Nat)}{wi:TI}{g:TG}{tt:TT}{te:TE}
  (hN:X.N.Nodup) (hk0:X.N[k]?=some y) (hy:Loc X.env.scope y) (hc:X.calm=true) (hi:PI X tg iter wi)
  (hg:∀ pins C s H fp,PG (dr X pins N scope C s H fp) tg g)
  (ht:∀ pins C s H fp,WZ (dr X pins N scope C s H fp) ifs tt)
  (he:∀ pins C s H fp,PE (dr X pins N scope C s H fp) elt te)
  (hk:scope.kind=.function) (eC:∀ y∈scope.names,y.2≠.cell) (Bz:∀ y∈scope.names,y.2=.local->scope.names.lookup y.1=some .local)
  (nH:(scope.names.all fun y=>!(y.2 == NameKind.free) || (X.env.cells.lookup y.1).isSome)=true) (BA:lU X scope N ix)
  (hs:∀ x,foldedSetIterable iter X.env x=pure x:=by intro _;rfl)
  (hsw:swapsWith (.ListComp elt [⟨tg,iter,ifs,0⟩] scope pos) (some (.Name y py)) Tj.line X.env=pure true:=by rfl)
  (hf:X.fn y=true\/X.env.scope.names.lookup y=some .local:=by first|exact .inl rfl|exact .inr rfl|assumption) :
  PS X (.Assign [.Name y py] (.ListComp elt [⟨tg,iter,ifs,0⟩] scope pos) Tj) (JZ (Gy ix wi g tt te) (bT k)):=by
 intro pins s σ H D I h
 replace h:wi σ H fun J H1=>bP ix g tt te σ (fun x H1=>D.nx (σ.set k (some x)) H1) J H1:=h
 have Ko:∀ y∈scope.names,y.2=.free->(X.env.cells.lookup y.1).isSome=true:=fun y hy e=>by
  have z:=all_eq_true.mp nH y hy
  rw [e] at z
  simpa using z
 have Gz:∀ p∈scope.names,p.2=.free->∃ c,X.env.cells.lookup p.1=some c:=fun p hp e=>aaU.mp (Ko p hp e)
 have eG:∀ x c,(dP X.env.cells scope.names []).lookup x=some c->X.env.cells.lookup x=some c:=jP (fun x c q=>by simp at q)
 have qN:∀ x,scope.names.lookup x=some .free->∃ c,(dP X.env.cells scope.names []).lookup x=some c:=fun x hx=>by
  have hm:=PySem.mem_of_lookup hx
  exact aaU.mp (jQ (.inr ⟨hm,Ko _ hm rfl⟩))
 rw [exec_Assign_Name_used _ _ _ _ hsw]
 refine aaH (wpAny_standAt (aaH ?_))
 show wpAny _ X.A (do let _ <- comprehension (.ListComp elt [⟨tg,iter,ifs,0⟩] scope pos) scope X.env _ (newList []) false (eval iter X.env) (some (assign (.Name y py) X.env))) _ _ s
 refine aaH (aaW (wpAny_comprehension_free (use:=some (assign (.Name y py) X.env)) (Q:=fun _ s'=>SP X pins D .next s') rfl hs (lQ Gz) hk Bz (c6 (hi pins s σ H _ I h) fun v s1 h1=>c6 h1 fun Vn s2 h2=>?_)) (fun _ s' hq=>aaV (aaV hq)) fun _ _ e=>e)
 obtain ⟨it,fp,tn,J,H2,e,I2,T,NH,f2,hW⟩:=h2
 subst e
 have BB:H2 s2.heap.objs.size=none:=I2.bc.fresh (aaM _)
 obtain ⟨W,⟨m0,w0⟩,turn⟩:=hW s2.heap.objs.size BB
 refine wpAny_newObj_type ?_
 have I3:Inv X pins σ (upd H2 s2.heap.objs.size (.lst [])) { s2 with heap:=s2.heap.push { cls:=.type "list",data:=.seq ([]:List Value).toArray } }:=I2.D3 (its:=[]) (t':=s2.toks) .nil (abv _)
 have f3:∀ b∈fp,oY X pins (upd H2 s2.heap.objs.size (.lst [])) b:=fun b hb=>by
  refine⟨?_,(f2 b hb).2⟩
  obtain ⟨o,eo,_⟩:=T.obj _ _ NH b hb
  rw [ax (abw (aaJ eo))]
  exact (f2 b hb).1
 have C8:tn 0 (s2.heap.push { cls:=.type "list",data:=.seq ([]:List Value).toArray }):=T.keep _ _ _ NH fun b _ o e=>aaG _ e
 generalize wB:({ s2 with heap:=s2.heap.push { cls:=.type "list",data:=.seq ([]:List Value).toArray } }:Shared)=s3 at I3
 have C8:tn 0 s3.heap:=by rw [<- wB];exact C8
 generalize hH3:upd H2 s2.heap.objs.size (.lst [])=H3 at I3 f3 w0
 generalize BC:s2.heap.objs.size=acc at *
 refine wpAny_newFunctionEnv eC (by intro y hy;simp at hy) (fun h₁ Ob Oc=>?_) hk
 have old:∀ b o,s3.heap.get? b=some o->h₁.get? b=some o:=fun b o q=>Oc.extBut b o (abw (aaJ q)) (aaG _ q)
 have BD:H3 s3.heap.objs.size=none:=I3.bc.fresh (aaM _)
 have Sb:∀ b∈fp,b<s3.heap.objs.size:=fun b hb=>by
  obtain ⟨o,eo,_⟩:=T.obj _ _ C8 b hb
  exact aaJ eo
 have BE:∀ b,b≠X.env.locals->b∉X.fs->b∉Be X.stack:=fun b h1 h2 z=>by
  rcases aa9.mp (I3.sJ b z) with q|q
  ·exact h1 q
  ·exact h2 q
 have clt:∀ x c,X.env.cells.lookup x=some c->c<s3.heap.objs.size:=fun x c q=>by
  obtain ⟨v,z⟩:=I3.cell x c q
  exact z.lt
 have YI:∀ (h':Heap) (m:Str->Option Value),(∀ b o,s3.heap.get? b=some o->h'.get? b=some o)->h'.Ns s3.heap.objs.size m ->
   Inv (dr X pins N scope s3.heap.objs.size s3 H3 fp) [] (pick ix σ) H3 { s3 with heap:=h',toks:=s3.toks+([]:List (Str×Value)).length }:=by
  intro h' m ph hn
  refine⟨⟨I3.ok.mod,hk,I3.ok.glob,I3.ok.blt,aaM _,fun x y c q1 q2=>I3.ok.inj x y c (eG x c q1) (eG y c q2),fun x hx=>qN x (eW eC hx),fun x c hf _=>absurd hf Bool.false_ne_true,
   I3.ok.hd,I3.ok.frames,.inl rfl,fun b hb=>⟨abw (Sb b hb),fun x c q=>(f3 b hb).2.2.2.2.1 x c (eG x c q)⟩,I3.bs,aaL I3.ok.Bf I3.sz,fun b o e hb=>?_,fun b hb=>BE b (f3 b hb).2.1 (f3 b hb).2.2.1,I3.stack,I3.kD⟩,
   rfl,I3.bare,Un.kept ph,⟨m,hn,fun i x v h1 h2 h3=>?_⟩,fun x c q=>?_,BD,fun x c q=>I3.fO x c (eG x c q),fun p hp=>?_,I3.bc.kept ph,?_⟩
  ·have q:=(I3.bs b o e).2
   rcases (f3 b hb).2.2.2.1 with z|z
   ·exact I3.ok.DT b o e z
   ·exact absurd (Nat.lt_of_lt_of_le (aaJ e) (aaL I3.ok.Bf z)) (Nat.lt_irrefl _)
  ·obtain ⟨j,e1,e2⟩:=sY h2
   obtain ⟨a1,a2,a3,a4⟩:=BA.get h1 e1
   obtain ⟨mX,hnX,Sd⟩:=I3.loc
   obtain ⟨u,ru,l⟩:=Sd j x v a1 e2 a2
   refine⟨u,ru,?_⟩
   rcases l with ⟨l1,_⟩|⟨_,c,lc,z⟩
   ·have Se:X.env.scope.names.lookup x=some .local:=l1
    rw [Se] at a3
    exact absurd a3 (by decide)
   ·obtain ⟨c',FJ⟩:=qN x a4
    have ec:=eG x c' FJ
    rw [lc] at ec
    have Sf:c=c':=aaO ec
    subst Sf
    exact .inr ⟨iV a4,c,FJ,z.keeps ph⟩
  ·obtain ⟨v,z⟩:=I3.cell x c (eG x c q)
   exact⟨v,z.keeps ph⟩
  ·have rQ:p∈X.pn++pins:=by simpa using hp
   obtain ⟨a1,a2,a3,a4,a5⟩:=I3.pin p rQ
   exact⟨ph _ _ a1,a2,abw (aaJ a1),BE p.1 a3 a4,a5⟩
  ·show (pick ix σ).length=N.length
   unfold pick
   rw [aa5]
   exact BA.len
 have Od:∀ {pl:List (Addr×Obj)} {H':Hp},pl=[]->(∀ b∈fp,H' b=none)->∀ b∈fp,oY (dr X pins N scope s3.heap.objs.size s3 H3 fp) pl H' b:=fun {pl H'} W0 hn b hb=>by
  obtain ⟨f0,f1,Sh,Si,f4,f5⟩:=f3 b hb
  subst W0
  exact⟨hn b hb,abw (Sb b hb),BE b f1 Sh,.inl hb,fun x c q=>f4 x c (eG x c q),fun p hp=>f5 p (by simpa using hp)⟩
 have loop:∀ s4:Shared,(∃ m,s4={ s3 with heap:=h₁,toks:=s3.toks+([]:List (Str×Value)).length }/\h₁.Ns s3.heap.objs.size m) ->
   codeAny (model X.prog X.w) X.A (.compLoop (.ListComp elt [⟨tg,iter,ifs,0⟩] scope pos) 0 (.ref it) (.ref acc) (compEnvC scope (dP X.env.cells scope.names []) s3.heap.objs.size X.env))
    (compPost (model X.prog X.w) X.A X.xe (some (assign (.Name y py) X.env)) (fun _ s'=>SP X pins D .next s') (.ref acc) s3.heap.objs.size) s4:=by
  rintro s4 ⟨m4,rfl,GA⟩
  refine wy (E:=fun _ _=>False) (fun _ _ z=>z.elim)
   (fun n s'=>∃ i σ' ys H',Inv (dr X pins N scope s3.heap.objs.size s3 H3 fp) [] σ' H' s'/\tn i s'.heap/\(∀ b∈fp,H' b=none)/\W i n σ' ys H') ?_ m0
   ⟨0,pick ix σ,[],H3,YI h₁ m4 old GA,T.keep _ _ _ C8 fun b _ o q=>old b o q,fun b hb=>(f3 b hb).1,w0⟩
  rintro n s5 ⟨i,σ5,ys,H5,I5,J2,NJ,w5⟩
  obtain ⟨hl5,GB⟩:=turn i n σ5 ys H5 w5
  rcases GB with ⟨stop,q⟩|⟨go,m',MA,step⟩
  ·refine c6 (T.done (dr X pins N scope s3.heap.objs.size s3 H3 fp) rfl rfl rfl hc i [] s5 σ5 H5 (fun _ _=>False) I5 (Od rfl NJ) J2 stop) fun r s6 ⟨hr,I6⟩=>?_
   subst hr
   obtain ⟨m6,W2,_⟩:=I6.loc
   have I6X:Inv X pins σ H5 s6:=I3.Ml (ch:=fp) I6.os I6.base I6.bc I6.bare fun b hb=>by
    obtain ⟨f0,f1,Sh,Si,f4,f5⟩:=f3 b hb
    exact⟨Si,f1,f4,f5⟩
   have JW:X.env.locals≠s3.heap.objs.size:=fun z=>by
    obtain ⟨m,⟨o,_,_,ho,_⟩,_⟩:=I3.loc
    exact Nat.lt_irrefl _ (z ▸ aaJ ho)
   have To:∀ x c,X.env.cells.lookup x=some c->c≠s3.heap.objs.size:=fun x c e=>abw (clt x c e)
   refine wpAny_assign_Name (wb (u:=.ref acc) (v:=.ref acc) I6X hN hk0 hy rfl (fun s7 I7 ⟨a7,sb7,ha7⟩=>?_) hf)
   have na7:s3.heap.objs.size≠a7:=by
    rcases ha7 with z|z
    ·exact fun w=>JW (z ▸ w.symm)
    ·exact fun w=>To _ _ z w.symm
   refine⟨m6,W2.sameBut sb7 na7,fun h' sb=>?_⟩
   refine⟨σ.set k (some (.ref acc)),H5,Inv.GY (ch:=[s3.heap.objs.size]) I7 (fun b hb=>?_) (fun b o _ _ nb e _=>(sb.2 b (fun z=>nb (by rw [z];exact aa2.mpr rfl))).trans e) (fun b o _ _ nb e _=>⟨o.slots,(sb.2 b (fun z=>nb (by rw [z];exact aa2.mpr rfl))).trans e⟩)
    (fun _ _ _ _ e=>e) (fun b o nb e=>⟨o,(sb.2 b (fun z=>nb (by rw [z];exact aa2.mpr rfl))).trans e⟩) (fun _ _ e=>e) (fun _ _ _ e=>e) (fun b ps e=>⟨#[],by simpa using e⟩) (fun m hm=>hm.sameBut sb JW) (I7.bc.letGo I6.free sb),q⟩
   have eb:b=s3.heap.objs.size:=aa2.mp hb
   subst eb
   refine⟨?_,Ne.symm JW,To,fun p hp=>abw (aaJ (I3.pin p hp).1)⟩
   cases q9:X.s₀.heap.get? s3.heap.objs.size with
   | none=>rfl
   | some o=>exact absurd (Nat.lt_of_lt_of_le (aaJ q9) I3.sz) (Nat.lt_irrefl _)
  ·refine c6 (T.item (dr X pins N scope s3.heap.objs.size s3 H3 fp) rfl rfl rfl hc i [] s5 σ5 H5 (fun _ _=>False) I5 (Od rfl NJ) J2 go) fun r s6 ⟨u,hr,h6⟩=>?_
   subst hr
   refine c6 h6 fun _ s7 ⟨x,H7,I7,r7,y7,Oe,Vs⟩=>?_
   have W3:=I7.pinned (Od rfl Vs) (T.obj _ _ Oe)
   refine c6 (hg pins s3.heap.objs.size s3 H3 fp _ s7 σ5 H7 x u _ W3 r7 (step x H7 y7)) fun _ s8 ⟨σ8,H8,I8,q8⟩=>?_
   refine c6 (zq (ht pins s3.heap.objs.size s3 H3 fp) I8 q8) fun b s9 ⟨H9,I9,q9⟩=>?_
   have back:∀ {σz:St} {Hz:Hp} {sz:Shared} {yz:List V},Inv (dr X pins N scope s3.heap.objs.size s3 H3 fp) ([]++oZ fp s7.heap) σz Hz sz->W (i+1) m' σz yz Hz ->
     ∃ m,m<n/\∃ i σ' ys H',Inv (dr X pins N scope s3.heap.objs.size s3 H3 fp) [] σ' H' sz/\tn i sz.heap/\(∀ b∈fp,H' b=none)/\W i m σ' ys H':=fun {σz Hz sz yz} Iz wz=>by
    refine⟨m',MA,i+1,σz,yz,Hz,Iz.fP,T.keep _ _ _ Oe fun b hb o e=>(Iz.pin (b,o) (aa0 _ (aa0 _ (fw hb e)))).1,fun b hb=>?_,wz⟩
    obtain ⟨o,e,d⟩:=T.obj _ _ Oe b hb
    exact (Iz.pin (b,o) (aa0 _ (aa0 _ (fw hb e)))).2.1
   cases b with
   | false=>exact back I9 q9
   | true =>
    refine c6 (he pins s3.heap.objs.size s3 H3 fp _ s9 σ8 H9 _ I9 q9) fun v QV ⟨y,QW,W4,W5,Of,Og,W6⟩=>?_
    refine c6 (cF _ QV σ8 QW (.ref acc) [y] (.ref acc) [v] (fun _ H'=>H'=upd QW acc (.lst (ys++[y]))) W4 rfl (.cons W5 .nil) ⟨acc,ys,y,rfl,rfl,Of,Og,rfl⟩) fun _ Sj ⟨_,H11,W7,_,W8⟩=>?_
    subst W8
    exact back W7 W6
 have GA:∃ m,h₁.Ns s3.heap.objs.size m:=⟨_,Ob⟩
 obtain ⟨m4,GA⟩:=GA
 have L:=loop _ ⟨m4,rfl,GA⟩
 exact codeAny_compStart_list L (T.self _ 0 _ _ _ (T.keep _ _ _ C8 fun b _ o q=>old b o q) L)
end
section
variable {K:Frag}{H:Hp}{Q:VK}{D:Ends}{σ:St}
theorem Tp{x:V}{p:Addr}{xs:List V}(e:aN K H p xs)(fx:lG x=true)(fs:xs.all lG=true)(h:Q (.bl (WR x xs)) H):WS K false x (.ref p) H Q:=⟨p,xs,rfl,.inr e,fx,fs,h⟩
theorem join{t:TS}{u:St->Hp->Prop}(P:St->Hp->Prop)(h1:∀ nx:St->Hp->Prop,(∀ σ' H',P σ' H'->nx σ' H')->t { D with nx:=nx } σ H)(h2:∀ σ' H',P σ' H'->u σ' H'):t { D with nx:=u } σ H:=h1 u h2
end
def OZ(K:Frag):List V->Hp->VK->Prop:=fun xs H Q=>∃ (a:Addr) (bs:List Bool),xs=[.ref a]/\aR K H a (bs.map V.bl)/\Q (.bl (bs.all id)) H
theorem BN(bs:List Bool):((List.range bs.length).all fun i=>(bs[i]?).getD true)=bs.all id:=by
 rw [Bool.eq_iff_iff,all_eq_true,all_eq_true]
 constructor
 ·intro h b hb
  obtain ⟨i,hi,rfl⟩:=abB hb
  have:=h i (abj.mpr hi)
  simpa [aaZ hi] using this
 ·intro h i hi
  have BO:=abj.mp hi
  simpa [aaZ BO] using h _ (abA BO)
section
variable {X:Cx}
theorem Eo (hc:X.calm=true):dA X (.builtin "all") (OZ X.K):=by
 intro pins s σ H xs us Q I r h
 obtain ⟨a,bs,rfl,hs,q⟩:=h
 obtain ⟨u,rfl,ru⟩:=vals1 r
 cases ru
 obtain ⟨its,rv,p,_⟩:=I.list hs
 have hl:s.heap.IsList a its.toArray:=by
  obtain ⟨o,n,h1,h2,h3⟩:=p
  exact⟨o,h1,h2,n,h3.2⟩
 have lV:a<s.heap.objs.size:=by obtain ⟨_,e,_⟩:=hl;exact aaJ e
 have hh:X.A.handled=none:=I.ok.hd hc
 refine call_all_walk (wpAny_pyIter_list hl ?_)
 refine⟨s.heap.objs.size,[s.heap.objs.size,a],[s.heap.objs.size],its.toArray.size,_,_,fun i=>(bs[i]?).getD true,rfl,Walks.list (A:=X.A.in1) hh _ a (abw lV) its.toArray,
  ⟨⟨_,aaK _ rfl,rfl,rfl⟩,hl.push _⟩,fun i v s' Q' E' hP hQ=>?_,fun h' tk hk=>?_⟩
 ·have hP':its[i]?=some v:=by simpa using hP
  have hi:i<its.length:=(aaI.mp hP').1
  have hb:i<bs.length:=by have:=rv.length;simp at this;lia
  obtain ⟨u1,e1,r1⟩:=rv.get (i:=i) (x:=.bl bs[i]) (by simp [hb])
  rw [hP'] at e1
  cases e1
  cases r1
  simp only [aaZ hb,Option.getD_some] at hQ
  exact wpAny_truthy_bool hQ
 ·have e:((List.range its.toArray.size).all fun i=>(bs[i]?).getD true)=bs.all id:=by
   have:=rv.length
   simp at this
   rw [abm,<- this];exact BN bs
  rw [e]
  exact⟨.bl (bs.all id),H,I.kept (t':=tk) (fun b x e=>hk b x (fun hm=>by rw [aa2.mp hm] at e;exact Nat.lt_irrefl _ (aaJ e)) (aaG _ e)),rfl,q⟩
theorem GZ (K:Frag) (hK:X.K=K) (hc:X.calm=true):dA X (.builtin "all") (OZ K):=hK ▸ Eo hc
end
section
variable {K:Frag}{H:Hp}{Q:VK}{σ:St}
theorem MO{a:Addr}{bs:List Bool}(e:aR K H a (bs.map V.bl))(h:Q (.bl (bs.all id)) H):OZ K [.ref a] H Q:=⟨a,bs,rfl,e,h⟩
theorem O0 {n:String} {b:Bool} (k:kitOne K (.type "NoneType") (.type n)=some b) (h:Q (.bl b) H):hJ K [.dz,.ty n] H Q:=⟨_,n,_,b,rfl,.inl .dz,k,h⟩
theorem O1 {x:Str} {n:String} {b:Bool} (k:kitOne K (.type "str") (.type n)=some b) (h:Q (.bl b) H):hJ K [.str x,.ty n] H Q:=⟨_,n,_,b,rfl,.inl (.str _),k,h⟩
theorem O2{to ti:TE}{t:JY}{v:V}{R:St->Hp->Prop}(h:to σ H fun o H1=>ti σ H1 fun i H2=>t o i v H2 fun H3=>R σ H3):RP to ti t v σ H R:=h
theorem eY{p:Addr}{xs:List V}{k:Int}{j:Nat}{v:V}{R:Hp->Prop}(e:H p=some (.lst xs))(hj:Jw xs.length k=some j)(h:R (upd H p (.lst (xs.set j v)))):My (.ref p) (.int k) v H R:=⟨p,xs,k,j,rfl,rfl,e,hj,h⟩
theorem BP{a:Addr}{xs:List V}{ix:List (Option Nat)}{te:TE}(F:V->V)(fr:St)(jK:pick ix σ=none::fr)(ha:aN K H a xs)(hn:xs.length<=1000)
  (step:∀ x H' (Qc:VK),x∈xs->ai H H'->(∀ H5,ai H' H5->Qc (F x) H5)->te (some x::fr) H' Qc)
  (hQ:∀ l H',H l=none->ai H H'->H' l=some (.lst (xs.map F))->Q (.ref l) H'):bP ix (bT 0) (fun _ H Q=>Q true H) te σ Q (QU K a) H:=by
 refine nN fr xs.length (fun i=>F (xs.getD i .dz)) jK (by lia) (fun H' s=>⟨_,s.at ha,by simp⟩) (fun i H' hi s=>⟨_,xs[i],s.at ha,aaZ hi⟩) (fun i x H' H2 Qc hi hs hy kc=>?_) fun l H' hl hs dE=>hQ l H' hl hs ?_
 ·obtain ⟨rfl,e1⟩:=hy
  have e2:=e1 _ (hs.at ha)
  have e3:xs.getD i .dz=x:=by rw [List.getD,e2];rfl
  rw [e3] at kc
  exact step _ _ Qc (aa4 e2) hs kc
 ·rw [dE]
  congr 2
  apply ext_getElem (by simp)
  intro i h1 h2
  simp at h1 h2
  simp [List.getD,h2]
end
section
variable {X:Cx}{pins:List (Addr×Obj)}{σ:St}{H:Hp}{s:Shared}
theorem Inv.wrote{a:Addr}{o o':Obj}{h':Heap}{t':Nat}(I:Inv X (pins++[(a,o)]) σ H s)(h0:X.s₀.heap.get? a=none)(hc:∀ x c,X.env.cells.lookup x=some c->c≠a)(hp:∀ p∈X.pn++pins,p.1≠a)
  (sb:Heap.SameBut a s.heap h') (e:h'.get? a=some o') (d:∀ v,o'.data≠.cell v):Inv X (pins++[(a,o')]) σ H { s with heap:=h',toks:=t' }:=by
 obtain ⟨g1,g2,g3,g4,g5⟩:=I.pin (a,o) (aa0 _ (aa0 _ (aa2.mpr rfl)))
 have I1:Inv X pins σ H s:=I.fP
 have nm:∀ {b:Addr},b∉[a]->b≠a:=fun nb z=>nb (aa2.mpr z)
 have I2:Inv X pins σ H { s with heap:=h',toks:=t' }:=Inv.GY (ch:=[a]) I1 (fun b hb=>by
   have eb:b=a:=aa2.mp hb
   subst eb
   exact⟨h0,g3,hc,hp⟩) (fun b ob _ _ nb q _=>(sb.2 b (nm nb)).trans q) (fun b ob _ _ nb q _=>⟨ob.slots,(sb.2 b (nm nb)).trans q⟩)
   (fun _ _ _ _ q=>q) (fun b ob nb q=>⟨ob,(sb.2 b (nm nb)).trans q⟩) (fun _ _ q=>q) (fun _ _ _ q=>q) (fun b ps q=>⟨#[],by simpa using q⟩) (fun m hm=>hm.sameBut sb (Ne.symm g3)) (I1.bc.letGo g2 sb)
 exact I2.nv fun p hp=>(aa3.mp hp).elim (fun z=>I2.pin p (aa0 _ z)) fun z=>by
  rw [aa2.mp z]
  exact⟨e,g2,g3,g4,d⟩
end
inductive PV:List (Int×V)->List (Int×Value)->Prop where
 | nil:PV [] []
 | cons {k:Int} {x:V} {u:Value} {qs ps} (r:RelV x u) (t:PV qs ps):PV ((k,x)::qs) ((k,u)::ps)
theorem PV.zip:∀ {kz:List Int} {xs:List V} {vs:List Value},Vals xs vs->PV (kz.zip xs) (kz.zip vs)
 | [],_,_,_=>.nil
 | _::_,_,_,.nil=>.nil
 | _::_,_,_,.cons r t=>.cons r (PV.zip t)
theorem PV.perm{ps ps':List (Int×Value)}(h:ps'.Perm ps):∀ {qs:List (Int×V)},PV qs ps->∃ VA:List (Int×V),VA.Perm qs/\PV VA ps':=by
 induction h with
 | nil=>intro qs h;exact⟨qs,.refl _,h⟩
 | cons x _ ih =>
  intro qs h
  cases h with
  | cons r t =>
   obtain ⟨VA,p,z⟩:=ih t
   exact⟨_::VA,p.cons _,.cons r z⟩
 | swap x y l =>
  intro qs h
  cases h with
  | cons r t =>
   cases t with
   | cons r2 t2=>exact⟨_::_::_,.swap _ _ _,.cons r2 (.cons r t2)⟩
 | trans _ _ Xh Xi =>
  intro qs h
  obtain ⟨q1,p1,z1⟩:=Xi h
  obtain ⟨q2,p2,z2⟩:=Xh z1
  exact⟨q2,p2.trans p1,z2⟩
theorem PV.vals:∀ {qs:List (Int×V)} {ps:List (Int×Value)},PV qs ps->Vals (qs.map Prod.snd) (ps.map Prod.snd)/\qs.map Prod.fst=ps.map Prod.fst
 | _,_,.nil=>⟨.nil,rfl⟩
 | _,_,.cons r t=>⟨.cons r t.vals.1,by rw [map_cons,map_cons,t.vals.2]⟩
section
variable {X:Cx}{pins:List (Addr×Obj)}{σ:St}{H:Hp}{s:Shared}
theorem Dy{p:Addr×Obj}(I:Inv X (pins++[p]) σ H s):s.heap.get? p.1=some p.2:=(I.pin p (aa0 _ (aa0 _ (aa2.mpr rfl)))).1
theorem Xy{kA:Array Value}{kz:List Int}{j:Nat}{n:Int}{t:Tok}(hk:IntsAre kA.toList (kz.take j))(hn:kz[j]?=some n):IntsAre (kA.push (.int n t)).toList (kz.take (j+1)):=by
 rw [Array.toList_push,take_add_one,hn]
 exact ksk_snoc hk
end
theorem KY{h:Heap}{a:Addr}{m m':Str->Option Value}(x:h.Ns a m)(y:h.Ns a m'):m=m':=by
 obtain ⟨o1,es1,ep1,VB,hd1,_,Tq⟩:=x
 obtain ⟨o2,es2,ep2,Bu,hd2,_,hf2⟩:=y
 rw [VB] at Bu;cases Bu;rw [hd1] at hd2;cases hd2
 funext z
 rw [<- Tq,<- hf2]
def eZ(b:Bool)(kz:List Int)(xs ys:List V):Prop:=∃ qs:List (Int×V),qs.Perm (kz.zip xs)/\ys=qs.map Prod.snd/\qs.Pairwise (fun p q=>if b then q.1<=p.1 else p.1<=q.1)
theorem zV{b:Bool}:∀ {qs:List (Int×V)} {ps:List (Int×Value)},PV qs ps->ps.Pairwise (fun p q=>if b then q.1<=p.1 else p.1<=q.1)->qs.Pairwise (fun p q=>if b then q.1<=p.1 else p.1<=q.1)
 | _,_,.nil,_=>.nil
 | _,_,.cons (k:=k) (qs:=qs) (ps:=ps) r t,h=>by
  obtain ⟨h1,h2⟩:=aby.mp h
  refine aby.mpr ⟨fun q hq=>?_,zV t h2⟩
  have hm:q.1∈ps.map Prod.fst:=by rw [<- t.vals.2];exact aba.mpr ⟨q,hq,rfl⟩
  obtain ⟨p,hp,e⟩:=aba.mp hm
  have:=h1 p hp
  rw [e] at this
  exact this
theorem Ep{b:Bool}{kz:List Int}{xs:List V}{vs out:List Value}(hv:Vals xs vs)(h:KskOut b kz vs out):∃ ys,Vals ys out/\eZ b kz xs ys:=by
 obtain ⟨ps,hp,rfl,hw⟩:=h
 obtain ⟨qs,h1,h2⟩:=PV.perm hp (PV.zip hv)
 exact⟨qs.map Prod.snd,h2.vals.1,qs,h1,rfl,zV h2 hw⟩
theorem eZ.length{b:Bool}{kz:List Int}{xs ys:List V}(h:eZ b kz xs ys)(hl:kz.length=xs.length):ys.length=xs.length:=by
 obtain ⟨qs,p,rfl,_⟩:=h
 rw [aa5,p.length_eq,List.length_zip,hl,Nat.min_self]
section
variable {X:Cx}{pins:List (Addr×Obj)}{σ:St}{H:Hp}{s:Shared}
def others(h:Heap)(L k a:Addr):List (Addr×Obj):=(List.range h.objs.size).filterMap fun b=>if b=L\/b=k\/b=a then none else (h.get? b).map fun o=>(b,o)
theorem iX{h:Heap}{L k a b:Addr}{o:Obj}(e:h.get? b=some o)(n1:b≠L)(n2:b≠k)(n3:b≠a):(b,o)∈others h L k a :=
 mem_filterMap.mpr ⟨b,abj.mpr (aaJ e),by rw [if_neg (by simp [n1,n2,n3]),e];rfl⟩
theorem kK{h:Heap}{L k a:Addr}{p:Addr×Obj}(hp:p∈others h L k a):h.get? p.1=some p.2/\p.1≠L/\p.1≠k/\p.1≠a:=by
 obtain ⟨b,_,e⟩:=mem_filterMap.mp hp
 by_cases hb:b=L\/b=k\/b=a
 ·rw [if_pos hb] at e;cases e
 ·rw [if_neg hb] at e
  cases q:h.get? b with
  | none=>rw [q] at e;cases e
  | some o =>
   rw [q] at e
   cases e
   exact⟨q,fun z=>hb (.inl z),fun z=>hb (.inr (.inl z)),fun z=>hb (.inr (.inr z))⟩
theorem G1{a kS:Addr}{e1 e:Nat}{kA:Array Value}{b:Bool}{vs:List Value}{xs:List V}{kz:List Int}{P:PySem.Fin->Shared->Prop}{E:Value->Shared->Prop}
  (I:Inv X ((pins++[(a,seqObj "list" #[] e1)])++[(kS,seqObj "list" kA e)]) σ H s)
  (ha:X.s₀.heap.get? a=none/\(∀ x c,X.env.cells.lookup x=some c->c≠a)/\∀ p∈X.pn++pins,p.1≠a)
  (VC:X.s₀.heap.get? kS=none/\(∀ x c,X.env.cells.lookup x=some c->c≠kS)/\∀ p∈X.pn++(pins++[(a,seqObj "list" #[] e1)]),p.1≠kS)
  (hk:IntsAre kA.toList kz) (hv:Vals xs vs) (hlen:kz.length=vs.length) (KZ:vs.length<64)
  (hP:∀ h' tk ys,Inv X pins σ (upd H a (.lst ys)) { s with heap:=h',toks:=tk }->eZ b kz xs ys->P (.done (.ret .none)) { s with heap:=h',toks:=tk }) :
  wpAny (model X.prog X.w) X.A.in1.in1 (ksk_end a b vs.toArray e1 (.ref kS) kA) P E s:=by
 obtain ⟨k1,k2,k3,k4,_⟩:=I.pin (kS,seqObj "list" kA e) (aa0 _ (aa0 _ (aa2.mpr rfl)))
 obtain ⟨a1,a2,a3,a4,_⟩:=I.pin (a,seqObj "list" #[] e1) (aa0 _ (aa1 _ (aa0 _ (aa2.mpr rfl))))
 have hka:kS≠a:=fun z=>VC.2.2 (a,seqObj "list" #[] e1) (aa0 _ (aa0 _ (aa2.mpr rfl))) z.symm
 have I1:Inv X pins σ H s:=I.fP.fP
 obtain ⟨m,hn,_⟩:=id I1.loc
 have em:∀ b:Addr,({}:Heap).get? b=none:=fun b=>Heap.get?_none_of_le (abv _)
 refine ksk_end_ (h₀:=({}:Heap)) (L:=X.env.locals) (m:=m) (news:=others s.heap X.env.locals kS a) (e:=e) ⟨hn,fun b o q=>(by rw [em b] at q;cases q),abv _⟩ (fun p hp=>?_) hka (fun p hp=>(kK hp).2.2.1) (fun p hp=>(kK hp).2.2.2) hk hlen KZ (fun h' tk out c F' N' ko=>?_)
 ·rcases aa3.mp hp with z|z
  ·exact⟨(kK z).1,(kK z).2.1,em _⟩
  ·rcases aa9.mp z with rfl|z
   ·exact⟨k1,k3,em _⟩
   ·rw [aa2.mp z]
    exact⟨a1,a3,em _⟩
 ·obtain ⟨ys,ry,so⟩:=Ep hv ko
  have kp:∀ b o,s.heap.get? b=some o->b≠X.env.locals->b≠kS->b≠a->h'.get? b=some o:=fun b o q n1 n2 n3=>(N' (b,o) (.tail _ (iX q n1 n2 n3))).1
  have na:h'.get? a=some (seqObj "list" out c):=(N' (a,seqObj "list" out c) (.head _)).1
  have nm:∀ {b:Addr},b∉[a,kS]->b≠a/\b≠kS:=fun nb=>⟨fun z=>nb (by rw [z];exact .head _),fun z=>nb (by rw [z];exact .tail _ (.head _))⟩
  refine hP h' tk ys (Inv.GY (ch:=[a,kS]) I1 (fun b hb=>?_) (fun b o nL _ nb q _=>kp b o q nL (nm nb).2 (nm nb).1) (fun b o nL _ nb q _=>⟨o.slots,kp b o q nL (nm nb).2 (nm nb).1⟩)
   (fun b o nb _ q=>by rw [ax (nm nb).1];exact q) (fun b o nb q=>?_) (fun b ys q=>by rw [ax (bf q a2)];exact q) (fun b o u q=>by rw [ax (bf q a2)];exact q) (fun b ps q=>⟨#[],by rw [ax (bf q a2)];simpa using q⟩)
   (fun m0 h0=>KY hn h0 ▸ F'.ns) (fun b o q=>?_)) so
  ·rcases aa9.mp hb with rfl|hb
   ·exact⟨ha.1,a3,ha.2.1,ha.2.2⟩
   ·have eb:b=kS:=aa2.mp hb
    subst eb
    exact⟨VC.1,k3,VC.2.1,fun p hp=>VC.2.2 p ((aa3.mp hp).elim (fun z=>aa1 _ z) fun z=>aa0 _ (aa1 _ z))⟩
  ·by_cases nL:b=X.env.locals
   ·subst nL
    obtain ⟨oL,_,_,WC,_⟩:=F'.ns
    exact⟨oL,WC⟩
   ·exact⟨o,kp b o q nL (nm nb).2 (nm nb).1⟩
  ·by_cases hb:b=a
   ·subst hb
    rw [av] at q
    cases q
    refine⟨?_,out.toList,c,ry,by simpa using na⟩
    have:=so.length (hlen.trans hv.length.symm)
    rw [this,hv.length,sizeLine_eq]
    lia
   ·rw [ax hb] at q
    have tr:∀ d u,H d=some u->d≠X.env.locals/\d≠kS/\d≠a:=fun d u z=>⟨fun w=>(by rw [w,I1.free] at z;cases z),fun w=>(by rw [w,k2] at z;cases z),fun w=>(by rw [w,a2] at z;cases z)⟩
    refine (I1.bc b o q).qX (fun d u hd z=>?_) (fun d z=>by rw [ax (bf z a2)];exact z) fun d xs z=>by rw [ax (bf z a2)];exact z
    have td:d≠X.env.locals/\d≠kS/\d≠a:=by
     rcases hd with rfl|hd
     ·exact tr _ _ q
     ·exact tr _ _ hd
    exact kp d u z td.1 td.2.1 td.2.2
end
mutual
inductive gw(K:Frag)(H:Hp):V->PyData->Prop where
 | dz:gw K H .dz .none
 | bl (b:Bool):gw K H (.bl b) (.bool b)
 | int (i:Int):gw K H (.int i) (.int i)
 | str (x:Str):gw K H (.str x) (.str x)
 | tup {a:Addr} {xs:List V} {ds:List PyData} (h:aN K H a xs) (t:Tells K H xs ds):gw K H (.ref a) (.tuple ds)
 | lst {a:Addr} {xs:List V} {ds:List PyData} (h:aR K H a xs) (t:Tells K H xs ds):gw K H (.ref a) (.list ds)
inductive Tells(K:Frag)(H:Hp):List V->List PyData->Prop where
 | nil:Tells K H [] []
 | cons {x:V} {d:PyData} {xs:List V} {ds:List PyData} (h:gw K H x d) (t:Tells K H xs ds):Tells K H (x::xs) (d::ds)
end
section
variable {X:Cx}{pins:List (Addr×Obj)}{σ:St}{H:Hp}{s:Shared}
mutual
theorem gw.reads(I:Inv X pins σ H s):∀ {v:V} {d:PyData} {u:Value},gw X.K H v d->RelV v u->∃ as,Reads s.heap u d as
 | _,_,u,.dz,r=>by cases (show u=Value.none from r);exact⟨_,.none⟩
 | _,_,u,.bl b,r=>by cases (show u=Value.bool b from r);exact⟨_,.bool b⟩
 | _,_,u,.int i,r=>by
  obtain ⟨t,q⟩:=(show ∃ t,u=Value.int i t from r)
  cases q
  exact⟨_,.int i t⟩
 | _,_,u,.str x,r=>by
  obtain ⟨t,q⟩:=(show ∃ t,u=Value.str x t from r)
  cases q
  exact⟨_,.str x t⟩
 | _,_,u,.tup (a:=a) h t,r=>by
  cases (show u=Value.ref a from r)
  obtain ⟨its,rv,p,_⟩:=I.tuple h
  obtain ⟨o,h1,h2,n,h3⟩:=p
  obtain ⟨as,ra⟩:=Tells.reads I t rv
  exact⟨_,reads_tuple_at h1 h2 h3 (by simpa using ra)⟩
 | _,_,u,.lst (a:=a) h t,r=>by
  cases (show u=Value.ref a from r)
  obtain ⟨its,rv,p,_⟩:=I.list h
  obtain ⟨o,n,h1,h2,h3⟩:=p
  obtain ⟨as,ra⟩:=Tells.reads I t rv
  exact⟨_,reads_list_at h1 h2 h3.2 (by simpa using ra)⟩
theorem Tells.reads(I:Inv X pins σ H s):∀ {vs:List V} {ds:List PyData} {us:List Value},Tells X.K H vs ds->Vals vs us->∃ as,ReadsAll s.heap us ds as
 | _,_,_,.nil,.nil=>⟨_,.nil⟩
 | _,_,_,.cons h t,.cons r rs=>by
  obtain ⟨as,ra⟩:=gw.reads I h r
  obtain ⟨bs,rb⟩:=Tells.reads I t rs
  exact⟨_,.cons ra rb⟩
end
def O3(K:Frag)(neg:Bool):R2:=fun x y H Q=>∃ d e,gw K H x d/\gw K H y e/\SeqAt.shaped d=true/\SeqAt.shaped e=true/\Q (.bl (if neg then !PyData.eqv d e else PyData.eqv d e)) H
theorem O4(hu:X.A.units+64<cLine):jO X (compareOp .Eq) (O3 X.K false):=by
 intro pins s σ H x y v u Q I rx ry h
 obtain ⟨d,e,hd,he,sd,se,q⟩:=h
 obtain ⟨as,ra⟩:=hd.reads I rx
 obtain ⟨bs,rb⟩:=he.reads I ry
 exact eq_dataH ra rb sd se hu ⟨.bl (PyData.eqv d e),H,I,rfl,q⟩
variable {K:Frag}
theorem rW(K:Frag)(hK:X.K=K)(hu:X.A.units+64<cLine):jO X (compareOp .Eq) (O3 K false):=hK ▸ O4 hu
end
section
variable {K:Frag}{H:Hp}{Q:VK}
theorem Dz{x y:V}{d e:PyData}(hd:gw K H x d)(he:gw K H y e)(sd:SeqAt.shaped d=true)(se:SeqAt.shaped e=true)(h:Q (.bl (PyData.eqv d e)) H):O3 K false x y H Q:=⟨d,e,hd,he,sd,se,h⟩
def Rows(K:Frag)(H:Hp)(xs:List V)(rs:List (List Int)):Prop:=Tells K H xs (rs.map fun r=>.tuple (r.map PyData.int))
theorem Tells.ints:∀ (r:List Int),Tells K H (r.map V.int) (r.map PyData.int)
 | []=>.nil
 | i::r=>.cons (.int i) (Tells.ints r)
theorem gw.row{a:Addr}{r:List Int}(h:aN K H a (r.map V.int)):gw K H (.ref a) (.tuple (r.map PyData.int)):=.tup h (Tells.ints r)
end
end L2
namespace L2
open PySem PySem.Spec PyProof.Rows
section
variable {K:Frag}{g:TG}{D:Ends}{σ:St}{H:Hp}
theorem wJ{J:It}{tb:TS}(n:Nat)(Pv:Nat->St->Hp->Prop)(h0:Pv 0 σ H)(Kv:∀ i σ H2,i<n->Pv i σ H2->J.go i H2)(nK:∀ σ H2,Pv n σ H2->J.stop n H2)
  (hs:∀ i x σ H2 H3,i<n->Pv i σ H2->J.J0 i H2 x H3->g x σ H3 fun σ2 H4=>tb { D with nx:=Pv (i+1),ct:=Pv (i+1),bk:=D.nx } σ2 H4) (hd:∀ σ H2,Pv n σ H2->D.nx σ H2):hU g tb D J σ H:=by
 refine⟨fun i m σ2 H2=>m=n - i/\i<=n/\Pv i σ2 H2,⟨n,by simp,abv _,h0⟩,?_⟩
 rintro i m σ2 H2 ⟨rfl,hi,p⟩
 by_cases lV:i<n
 ·exact .inr ⟨Kv i σ2 H2 lV p,Pv (i+1),fun σ' H' p'=>⟨n - (i+1),by lia,rfl,lV,p'⟩,fun x H' y=>hs i x σ2 H2 H' lV p y⟩
 ·have e:i=n:=by lia
  subst e
  exact .inl ⟨nK σ2 H2 p,hd σ2 H2 p⟩
theorem jU{lo:Int}{n:Nat}{tb:TS}(Pv:Nat->St->Hp->Prop)(h0:Pv 0 σ H)(hs:∀ i σ H2,i<n->Pv i σ H2->g (.int (lo+i)) σ H2 fun σ2 H4=>tb { D with nx:=Pv (i+1),ct:=Pv (i+1),bk:=D.nx } σ2 H4)(hd:∀ σ H2,Pv n σ H2->D.nx σ H2):hU g tb D (Mr lo n) σ H:=by
 refine wJ n Pv h0 (fun i σ H2 hi _=>hi) (fun σ H2 _=>aaM _) (fun i x σ H2 H3 hi p y=>?_) hd
 obtain ⟨rfl,rfl⟩:=y
 exact hs i σ _ hi p
theorem pF{a:Addr}{xs:List V}{tb:TS}(Pv:Nat->St->Hp->Prop)(h0:Pv 0 σ H)(ha:∀ i σ H2,Pv i σ H2->aR K H2 a xs)(hs:∀ i x σ H2,xs[i]?=some x->Pv i σ H2->g x σ H2 fun σ2 H4=>tb { D with nx:=Pv (i+1),ct:=Pv (i+1),bk:=D.nx } σ2 H4)(hd:∀ σ H2,Pv xs.length σ H2->D.nx σ H2):hU g tb D (Jv K a) σ H:=by
 refine wJ xs.length Pv h0 (fun i σ H2 hi p=>⟨xs,xs[i],ha i σ H2 p,aaZ hi⟩) (fun σ H2 p=>⟨xs,ha _ σ H2 p,aaM _⟩) (fun i x σ H2 H3 hi p y=>?_) hd
 obtain ⟨rfl,e⟩:=y
 exact hs i x σ _ (e xs (ha i σ _ p)) p
end
def O5(K:Frag):List V->Hp->VK->Prop:=fun xs H Q=>∃ (a:Addr) (ns:List Int),xs=[.ref a]/\aR K H a (ns.map V.int)/\Q (.int ns.sum) H
def G2(K:Frag):List V->Hp->VK->Prop:=fun xs H Q=>∃ (a:Addr) (ns:List Int),xs=[.ref a]/\aR K H a (ns.map V.int)/\ns≠[]/\∀ m,m∈ns->(∀ x∈ns,x<=m)->Q (.int m) H
def O6(i j:Int):Prop:=j≠0/\j.natAbs.log2<9000
section
variable {X:Cx}
theorem Er:jO X (binaryOp .FloorDiv) (rI O6 fun i j=>.int (i.fdiv j)):=Mt fun _ _ _ _ _ _ _ hc q=>floordiv_int hc.1 q (.inl (PyProof.noPylong_of_log2 hc.2))
theorem Es (hc:X.calm=true):dA X (.builtin "sum") (O5 X.K):=by
 intro pins s σ H xs us Q I r h
 obtain ⟨a,ns,rfl,hs,q⟩:=h
 obtain ⟨u,rfl,ru⟩:=vals1 r
 cases ru
 obtain ⟨its,rv,p,_⟩:=I.list hs
 have hl:s.heap.IsList a its.toArray:=by
  obtain ⟨o,n,h1,h2,h3⟩:=p
  exact⟨o,h1,h2,n,h3.2⟩
 have hh:X.A.handled=none:=I.ok.hd hc
 have hi:IntsAre its ns:=intsAre_of rv
 obtain ⟨zs,hx⟩:=hi.allInts.items
 have hn:numsOf its.toArray.toList=ns:=by rw [show its.toArray.toList=its from rfl,hi.numsOf]
 rw [hx] at hl hn
 rw [nums_intItems] at hn
 refine sum_intListG hh hl fun h' tk t' hk=>?_
 rw [preSum_eq,abr (by simp),hn]
 exact⟨.int ns.sum,H,I.kept (t':=tk) hk,⟨t',rfl⟩,q⟩
theorem Et (hc:X.calm=true):dA X (.builtin "max") (G2 X.K):=by
 intro pins s σ H xs us Q I r h
 obtain ⟨a,ns,rfl,hs,MP,q⟩:=h
 obtain ⟨u,rfl,ru⟩:=vals1 r
 cases ru
 obtain ⟨its,rv,p,_⟩:=I.list hs
 have hl:s.heap.IsList a its.toArray:=by
  obtain ⟨o,n,h1,h2,h3⟩:=p
  exact⟨o,h1,h2,n,h3.2⟩
 have hh:X.A.handled=none:=I.ok.hd hc
 have hi:IntsAre its ns:=intsAre_of rv
 obtain ⟨zs,hx⟩:=hi.allInts.items
 have hn:numsOf its.toArray.toList=ns:=by rw [show its.toArray.toList=its from rfl,hi.numsOf]
 rw [hx] at hl hn
 rw [nums_intItems] at hn
 have wj:0<zs.size:=by
  rcases eq_zero_or_pos zs.size with z|z
  ·exfalso;apply MP;rw [<- hn];apply List.eq_nil_of_length_eq_zero;rw [aa5,Array.length_toList,z]
  ·exact z
 refine max_intList hh hl wj fun v h' tk hv hk=>?_
 obtain ⟨t,rfl⟩:=intItems_at hv
 obtain ⟨h1,h2⟩:=argBest_gt (numAt zs) (zs.size - 1)
 refine⟨.int _,H,I.kept (t':=tk) hk,⟨t,rfl⟩,q _ ?_ fun b hb=>?_⟩
 ·rw [<- hn,numAt_eq];exact getD_mem (by rw [aa5,Array.length_toList];lia)
 ·rw [<- hn] at hb
  obtain ⟨j,hj,rfl⟩:=mem_getD hb
  rw [aa5,Array.length_toList] at hj
  rw [<- numAt_eq];exact h2 j (by lia)
theorem G3 (K:Frag) (hK:X.K=K) (hc:X.calm=true):dA X (.builtin "sum") (O5 K):=hK ▸ Es hc
theorem iY (K:Frag) (hK:X.K=K) (hc:X.calm=true):dA X (.builtin "max") (G2 K):=hK ▸ Et hc
end
section
variable {K:Frag}{H:Hp}{Q:VK}{σ:St}{ix:List (Option Nat)}
theorem MQ{a:Addr}{ns:List Int}(e:aR K H a (ns.map V.int))(h:Q (.int ns.sum) H):O5 K [.ref a] H Q:=⟨a,ns,rfl,e,h⟩
theorem lY{a:Addr}{ns:List Int}(e:aR K H a (ns.map V.int))(n:ns≠[])(h:∀ m,m∈ns->(∀ x∈ns,x<=m)->Q (.int m) H):G2 K [.ref a] H Q:=⟨a,ns,rfl,e,n,h⟩
end
end L2
namespace L2
open PySem
structure En(k:Bool)(n a:Nat)(i:Nat)(h:Heap):Prop where
 ob:∃ last:Value,IsEnum h (n+1) n i last
 src:jJ k h n a i
section
variable {prog:Program}{w:World}{A:Around}{E:Value->Shared->Prop}{s:Shared}
theorem K0{k:Bool}{n a:Nat}{i:Nat}{xs:Array Value}{x:Value}{Q:Value->Shared->Prop}(Z:En k n a i s.heap)(ha:a<n)(hs:bQ k s.heap a xs)(hx:xs[i]?=some x)
  (hQ:∀ h' t,IsEnumOut h' (n+1) n ((i:Int)+1) x s.heap.objs.size->jJ k h' n a (i+1)->IsT h' s.heap.objs.size #[.int i t,x]->h'.objs.size=s.heap.objs.size+1->Off [n,n+1] s.heap h'->Q (.ref s.heap.objs.size) { s with heap:=h',toks:=s.toks+1 }) :
  wpAny (model prog w) A (Builtin.«enumerate.__next__» ⟨[.ref (n+1)],[]⟩) (fun fin s'=>∃ v,fin=.done (.ret v)/\Q v s') E s:=by
 obtain ⟨⟨last,ob⟩,src⟩:=Z
 obtain ⟨hp,gg,dd,tt,oo⟩:=s
 have n1:(n+1:Addr)≠n:=cU (by lia)
 show wpAny _ _ (field (.ref (n+1)) 2 >>= _) _ _ _
 refine aaH (wpAny_field ob rfl (x:=.ref n) rfl (aaH (gu src hs hx fun g1 Tr q1=>?_)))
 replace q1:Heap.SameBut n hp g1:=q1
 have VD:IsEnum g1 (n+1) n i last:=(q1.2 _ n1).trans ob
 show wpAny _ _ (field (.ref (n+1)) 3 >>= _) _ _ ⟨g1,gg,dd,tt,oo⟩
 refine aaH (wpAny_field VD rfl (x:=rawInt i) rfl ?_)
 show wpAny _ _ (field (.ref (n+1)) 4 >>= _) _ _ ⟨g1,gg,dd,tt,oo⟩
 refine aaH (wpAny_field VD rfl (x:=.none) rfl ?_)
 show wpAny _ _ (mkInt i >>= _) _ _ ⟨g1,gg,dd,tt,oo⟩
 refine aaH (wpAny_mkInt ?_)
 show wpAny _ _ (setField (.ref (n+1)) 3 (rawInt ((i:Int)+1)) >>= _) _ _ ⟨g1,gg,dd,tt+1,oo⟩
 refine aaH (wpAny_setField_rec VD (by simp) fun g2 Q3 q2=>?_)
 replace q2:Heap.SameBut (n+1) g1 g2:=q2
 replace Q3:IsEnum g2 (n+1) n ((i:Int)+1) last:=Q3
 show wpAny _ _ (setField (.ref (n+1)) 4 .none >>= _) _ _ ⟨g2,gg,dd,tt+1,oo⟩
 refine aaH (wpAny_setField_rec Q3 (by simp) fun g3 VE q3=>?_)
 replace q3:Heap.SameBut (n+1) g2 g3:=q3
 replace VE:IsEnum g3 (n+1) n ((i:Int)+1) last:=VE
 show wpAny _ _ (newTuple [.int i tt,x] >>= _) _ _ ⟨g3,gg,dd,tt+1,oo⟩
 refine aaH (wpAny_newTuple ?_)
 have z3:g3.objs.size=hp.objs.size:=by rw [q3.1,q2.1,q1.1]
 have elt:n+1<hp.objs.size:=aaJ ob
 obtain ⟨g4,e4⟩:∃ g4,g4=g3.push { cls:=.type "tuple",data:=.seq #[.int i tt,x] }:=⟨_,rfl⟩
 have Xz:IsEnum g4 (n+1) n ((i:Int)+1) last:=by rw [e4];exact aaG _ VE
 have t4:IsT g4 hp.objs.size #[.int i tt,x]:=by rw [e4,<- z3];exact aaK _ rfl
 have z4:g4.objs.size=hp.objs.size+1:=by rw [e4,Heap.size_push,z3]
 have o4:Off [n,n+1] hp g4:=by
  rw [e4]
  exact (((Off.of q1 (by simp)).trans (Off.of q2 (by simp))).trans (Off.of q3 (by simp))).trans (Off.push _)
 have XA:jJ k g4 n a (i+1):=Tr.keep fun o e=>by
  rw [e4]
  exact aaG _ ((q3.2 _ n1.symm).trans ((q2.2 _ n1.symm).trans e))
 show wpAny _ _ (Builtin.SmallTypes.ownedTupleIsFree (.ref (n+1)) >>= _) _ _ ⟨_,gg,dd,tt+1,oo⟩
 rw [z3,<- e4]
 clear e4 VE q3 Q3 q2 VD q1 Tr z3
 refine aaH ?_
 unfold Builtin.SmallTypes.ownedTupleIsFree
 refine aaH (wpAny_field Xz rfl (x:=.none) rfl (aaV ?_))
 rw [if_pos rfl]
 refine aaH (wpAny_rule (aaH (wpAny_field Xz rfl (x:=last) rfl (aaH (wpAny_setField_rec Xz (by simp) fun g5 XB q5=>?_)))))
 replace q5:Heap.SameBut (n+1) g4 g5:=q5
 replace XB:IsEnum g5 (n+1) n ((i:Int)+1) x:=XB
 show wpAny _ _ (Builtin.SmallTypes.ownedTupleHandOut (.ref (n+1)) (.ref hp.objs.size) >>= _) _ _ ⟨g5,gg,dd,tt+1,oo⟩
 refine aaH ?_
 unfold Builtin.SmallTypes.ownedTupleHandOut
 refine aaH (wpAny_setField_rec XB (by simp) fun g6 XC q6=>?_)
 replace q6:Heap.SameBut (n+1) g5 g6:=q6
 replace XC:IsEnumOut g6 (n+1) n ((i:Int)+1) x hp.objs.size:=XC
 refine wpAny_setField_rec XC (by simp) fun g7 XD q7=>?_
 replace q7:Heap.SameBut (n+1) g6 g7:=q7
 replace XD:IsEnumOut g7 (n+1) n ((i:Int)+1) x hp.objs.size:=XD
 have up:∀ c o,c≠n+1->g4.get? c=some o->g7.get? c=some o:=fun c o hc e=>(q7.2 _ hc).trans ((q6.2 _ hc).trans ((q5.2 _ hc).trans e))
 refine aaH (wpAny_letGo (aaV ⟨_,rfl,hQ g7 tt XD (XA.keep fun o e=>up _ o n1.symm e) (up _ _ (Nat.ne_of_gt elt) t4) (by rw [q7.1,q6.1,q5.1,z4]) fun c o hc e=>?_⟩))
 exact up c o (fun z=>hc (by simp [z])) (o4 c o hc e)
theorem Eu{k:Bool}{n a:Nat}{i:Nat}{xs:Array Value}{x:Value}{Q:Option Value->Shared->Prop}(Z:En k n a i s.heap)(ha:a<n)(hs:bQ k s.heap a xs)(hx:xs[i]?=some x)
  (hQ:∀ h' t,IsEnumOut h' (n+1) n ((i:Int)+1) x s.heap.objs.size->jJ k h' n a (i+1)->IsT h' s.heap.objs.size #[.int i t,x]->h'.objs.size=s.heap.objs.size+1->Off [n,n+1] s.heap h'->Q (some (.ref s.heap.objs.size)) { s with heap:=h',toks:=s.toks+1 }) :
  wpAny (model prog w) A (pyNext (.ref (n+1))) Q E s:=by
 have ty:s.TypeIs (.ref (n+1)) "enumerate":=by obtain ⟨last,ob⟩:=Z.ob;exact⟨_,ob,rfl⟩
 unfold pyNext
 exact aaH (wpAny_attempt (wpAny_callSpecial?_slot (name:=Str.ofString "__next__") ty F.slot_enumerate_next (wpAny_call_entry F.slot_enumerate_next ty F.entry_enumerate_next
  (K0 Z ha hs hx fun h' t b1 b2 b3 b4 b5=>aaV (hQ h' t b1 b2 b3 b4 b5)) (F.args_enumerate_next_1 _))))
theorem vd{k:Bool}{n a:Nat}{i:Nat}{xs:Array Value}{Q:Option Value->Shared->Prop}(hh:A.handled=none)(Z:En k n a i s.heap)(hs:bQ k s.heap a xs)(hx:xs[i]?=none)
  (hQ:∀ h',Off [n,n+1] s.heap h'->Q none { s with heap:=h' }):wpAny (model prog w) A (pyNext (.ref (n+1))) Q E s:=by
 obtain ⟨⟨last,ob⟩,src⟩:=Z
 have ty:s.TypeIs (.ref (n+1)) "enumerate":=⟨_,ob,rfl⟩
 unfold pyNext
 refine aaH (wpAny_attempt (wpAny_callSpecial?_slot (name:=Str.ofString "__next__") ty F.slot_enumerate_next (wpAny_call_entry F.slot_enumerate_next ty F.entry_enumerate_next ?_ (F.args_enumerate_next_1 _))))
 show wpAny _ _ (field (.ref (n+1)) 2 >>= _) _ _ _
 refine aaH (wpAny_field ob rfl (x:=.ref n) rfl (aaH (rR hh src hs hx fun h' e off ⟨o,ho,hc⟩=>?_)))
 exact aaH (wpAny_isInstance (T:="StopIteration") (b:=true) ⟨o,ho,hc⟩ isSubtype_stop (aaV (hQ _ fun c u hc e=>off c u (fun z=>hc (by simp [z])) e)))
abbrev Q4 (k:Bool) (h:Heap) (a:Addr):Heap:=(h.push (bX k a)).push { cls:=.type "enumerate",data:=.fields #[.none,.bool false,.ref h.objs.size,rawInt 0,.none,.none] }
end
end L2
namespace L2
open PySem
open AutoSeq1 (wpAny_loadPart')
theorem K1(k:Bool)(a:Addr)(xs:Array Value) :
  Meets (Builtin.«enumerate.__new__» ⟨[.type "enumerate",.ref a],[]⟩) (fun _ R s=>bQ k s.heap a xs/\R (.ok (.ret (.ref (s.heap.objs.size+1)))) { s with heap:=Q4 k s.heap a }) :=
 .of_wp fun prog w A R s h=>by
  obtain ⟨hp,gg,dd,tt,oo⟩:=s
  obtain ⟨src,r⟩:=h
  have sub:=sub_enumerate
  have S:bQ k (Shared.heap ⟨hp,gg,dd,tt,oo⟩) a xs:=src
  obtain ⟨ob,e⟩:∃ ob,hp.get? a=some ob:=by
   cases k
   ·obtain ⟨ob,e,_⟩:=src;exact⟨ob,e⟩
   ·obtain ⟨ob,e,_⟩:=src;exact⟨ob,e⟩
  obtain ⟨oc,od,ot,os⟩:=ob
  have last:(hp.push (bX k a)).objs.size=hp.objs.size+1:=Heap.size_push ..
  have r':R (.ok (.ret (.ref (hp.push (bX k a)).objs.size))) ⟨Q4 k hp a,gg,dd,tt,oo⟩:=by rw [last];exact r
  wp_walk using wpAny_loadPart' e
  refine wpAny_stack_any fun st=>aaV ?_
  split
  ·rename_i c _ _ _ _ _
   cases (c == Value.type "enumerate") <;> (wp_walk using wpAny_loadPart' e,gq S;exact⟨_,rfl,r'⟩)
  ·wp_walk using wpAny_loadPart' e,gq S
   exact⟨_,rfl,r'⟩
open PySem PySem.Spec PyProof.Rows
def Q5(K : Frag)(k : Bool)(a : Addr) : It :=
  ⟨fun i H => ∃ xs x, Sq k K H a xs /\ xs[i]?=some x,
   fun i H v H' => ∃ p x, v=.ref p /\ H p=none /\ (∀ xs, Sq k K H a xs -> xs[i]?=some x) /\ H'=upd H p (.tup [.int i, x]),
   fun i H => ∃ xs, Sq k K H a xs /\ xs.length <= i⟩
theorem K2{P:Program}{w:World}{K:Frag}{es:List Expr}{kk:Nat}{pos:Pos}{k:Bool}(n a:Nat)(ha:a<n) :
  Turn P w K (.Tuple es kk pos) (Q5 K k a) [n+1,n] (n+1) (fun i h=>En k n a i h) where
 mem:=by simp
 obj:=fun i h st c hc=>by
  obtain ⟨⟨last,ob⟩,src⟩:=st
  simp only [aa9,not_mem_nil,or_false] at hc
  rcases hc with rfl|rfl
  ·exact⟨_,ob,fun v z=>nomatch z⟩
  ·exact src.obj
 keep:=fun i h h' st k=>by
  obtain ⟨⟨last,ob⟩,src⟩:=st
  exact⟨⟨last,k _ (by simp) _ ob⟩,src.keep fun o e=>k _ (by simp) o e⟩
 item:=by
  intro X hP hw hK hc i pins s σ H E I hf st hg
  subst hP hw hK
  obtain ⟨xs,x,qx,ex⟩:=hg
  obtain ⟨GG,r1,s1,_⟩:=I.sq qx
  obtain ⟨u,hu,ru⟩:=r1.get ex
  refine Eu st ha s1 (x:=u) (by simpa using hu) fun h' t ob src hT wj off=>⟨_,rfl,?_⟩
  have BG:H s.heap.objs.size=none:=I.bc.fresh (aaM _)
  have So:n+1<s.heap.objs.size:=by obtain ⟨last,b⟩:=st.ob;exact aaJ b
  refine wpAny_letOwnedTupleGo_enum ob fun h2 Q3 fu=>?_
  have jR:Off [n+1,n] s.heap h2:=fun c o hc e=>(fu.2 c fun z=>hc (by simp [z])).trans (off c o (fun z=>hc (by simp only [aa9,not_mem_nil,or_false] at z ⊢;exact z.symm)) e)
  have zy:IsT h2 s.heap.objs.size #[.int i t,u]:=(fu.2 _ (Nat.ne_of_gt So)).trans hT
  refine⟨.ref s.heap.objs.size,upd H s.heap.objs.size (.tup [.int i,x]),?_,rfl,⟨_,x,rfl,BG,fun zs xr=>by rw [I.pC xr qx];exact ex,rfl⟩,?_,fun c hc=>?_⟩
  ·refine Inv.off (s:=s) (h':=h2) (t':=s.toks+1) (ch:=[n+1,n]) I hf jR (I.bc.BF (fun c hc=>(hf c hc).1) jR (aaM _) ?_) (fun c o _ e hn=>?_) fun c o e=>?_
   ·exact⟨by show 2<=sizeLine;decide,[.int i t,u],.cons ⟨t,rfl⟩ (.cons ru .nil),⟨_,zy,rfl,_,rfl⟩⟩
   ·rw [ax (abw (aaJ e))];exact hn
   ·rw [ax (bf e BG)];exact e
  ·exact⟨⟨_,Q3⟩,src.keep fun o e=>(fu.2 _ (cU (by lia))).trans e⟩
  ·have cn:c≠s.heap.objs.size:=by
    simp only [aa9,not_mem_nil,or_false] at hc
    rcases hc with rfl|rfl <;> exact cU (by lia)
   rw [ax cn];exact (hf c hc).1
 done:=by
  intro X hP hw hK hc i pins s σ H E I hf st hg
  subst hP hw hK
  obtain ⟨xs,qx,vb⟩:=hg
  obtain ⟨GG,r1,s1,_⟩:=I.sq qx
  have e1:=r1.length
  refine vd (I.ok.hd hc) st s1 (by simp;lia) fun h' off=>⟨rfl,?_⟩
  have jR:Off [n+1,n] s.heap h':=fun c o hc e=>off c o (fun z=>hc (by simp only [aa9,not_mem_nil,or_false] at z ⊢;exact z.symm)) e
  exact Inv.off (s:=s) (t':=s.toks) I hf jR (I.bc.off (fun c hc=>(hf c hc).1) jR) (fun _ _ _ _ q=>q) fun _ _ q=>q
 self:=fun _ _ _ _ _ st h=>by
  obtain ⟨last,ob⟩:=st.ob
  exact wpAny_pyIter_enum ob h
section
variable {X:Cx}
def G4(K:Frag)(k:Bool)(ta:TA):TI:=fun σ H R=>ta σ H fun vs H1=>∃ a,vs=[.ref a]/\(∃ xs,Sq k K H1 a xs)/\R (Q5 K k a) H1
theorem K3 (k:Bool) {es:List Expr} {kk:Nat} {rf:Pos} {a:Expr} {ta:TA} {p pos:Pos} (hg:Gl X "enumerate") (hm:X.mg "enumerate"=none) (ha:PA X [a] ta) (hs:starEach [a] X.env=[(false,eval a X.env)]:=by rfl) :
  PI X (.Tuple es kk rf) (.Call (.Name "enumerate" p) [a] [] pos) (G4 X.K k ta):=by
 intro pins s σ H R I h
 refine Call_ (fv I hg hm boot_enumerate (callWith_type1 (c6 (ha pos pins s σ H _ I h) fun us s1 ⟨vs,H1,I1,r1,q1⟩=>?_) (by rw [hs];rfl) (by rfl)))
 obtain ⟨a',e,⟨xs,qx⟩,q⟩:=q1
 subst e
 obtain ⟨u,rfl,ru⟩:=vals1 r1
 cases ru
 obtain ⟨GG,r1,MC,_⟩:=I1.sq qx
 refine callType_new PySem.F.called_enumerate (by decide) (PySem.F.typeCall_enumerate_1 _) (PySem.F.newCall_enumerate_1 _) (fun obj=>PySem.F.args_object_init_2 obj _) PySem.F.entry_enumerate_new (K1 k a' GG.toArray) ⟨MC,?_⟩
 have z1:(s1.heap.push (bX k a')).objs.size=s1.heap.objs.size+1:=Heap.size_push ..
 have g2:(Q4 k s1.heap a').get? (s1.heap.objs.size+1)=some { cls:=.type "enumerate",data:=.fields #[.none,.bool false,.ref s1.heap.objs.size,rawInt 0,.none,.none] }:=by rw [<- z1];exact aaK _ rfl
 have g1:(Q4 k s1.heap a').get? s1.heap.objs.size=some (bX k a'):=aaG _ (aaK _ (by cases k <;> rfl))
 have old:∀ c o,s1.heap.get? c=some o->(Q4 k s1.heap a').get? c=some o:=fun c o x=>aaG _ (aaG _ x)
 have Z:En k s1.heap.objs.size a' 0 (Q4 k s1.heap a'):=⟨⟨_,g2⟩,iF g1⟩
 show _/\_
 refine⟨⟨_,g2,rfl⟩,wpAny_pyIter_enum g2 ?_⟩
 refine⟨_,_,_,_,H1,rfl,I1.kept (t':=s1.toks) old,K2 s1.heap.objs.size a' MC.lt,Z,fun c hc=>?_,q⟩
 have tj:s1.heap.objs.size<=c:=by
  simp only [aa9,not_mem_nil,or_false] at hc
  rcases hc with rfl|rfl <;> first|exact le_add_right _ _|exact aaM _
 exact I1.u6 tj (I1.bc.fresh tj)
theorem nT (K:Frag) (hK:X.K=K) (k:Bool) {es:List Expr} {kk:Nat} {rf:Pos} {a:Expr} {ta:TA} {p pos:Pos} (hg:Gl X "enumerate") (hm:X.mg "enumerate"=none) (ha:PA X [a] ta) (hs:starEach [a] X.env=[(false,eval a X.env)]:=by rfl) :
  PI X (.Tuple es kk rf) (.Call (.Name "enumerate" p) [a] [] pos) (G4 K k ta):=hK ▸ K3 k hg hm ha hs
end
section
variable {K:Frag}{H:Hp}{σ:St}{D:Ends}
def Tt(K:Frag)(k:Bool):List V->Hp->(It->Hp->Prop)->Prop:=fun vs H R=>∃ a,vs=[.ref a]/\(∃ xs,Sq k K H a xs)/\R (Q5 K k a) H
theorem K4{k:Bool}{ts:TA}{R:It->Hp->Prop}(h:ts σ H fun vs H1=>Tt K k vs H1 R):G4 K k ts σ H R:=h
theorem Tv{k:Bool}{a:Addr}{xs:List V}{R:It->Hp->Prop}(e:Sq k K H a xs)(h:R (Q5 K k a) H):Tt K k [.ref a] H R:=⟨a,rfl,⟨_,e⟩,h⟩
end
inductive aZ(K:Frag)(H:Hp):List V->List (List Int)->Prop where
 | nil:aZ K H [] []
 | cons {a:Addr} {r:List Int} {xs:List V} {rs:List (List Int)} (h:aN K H a (r.map V.int)) (t:aZ K H xs rs):aZ K H (.ref a::xs) (r::rs)
namespace aZ
variable {K:Frag}{H H':Hp}
theorem length:∀ {xs:List V} {rs:List (List Int)},aZ K H xs rs->rs.length=xs.length
 | _,_,.nil=>rfl
 | _,_,.cons _ t=>by rw [length_cons,length_cons,t.length]
theorem get:∀ {xs:List V} {rs:List (List Int)} {i:Nat} {x:V},aZ K H xs rs->xs[i]?=some x->∃ a r,x=.ref a/\aN K H a (r.map V.int)/\rs[i]?=some r
 | _,_,_,_,.nil,h=>by simp at h
 | _,_,0,_,.cons (a:=a) (r:=r) h _,e=>by
  simp at e
  exact⟨a,r,e.symm,h,rfl⟩
 | _,_,i+1,_,.cons _ t,e=>by
  obtain ⟨a,r,h1,h2,h3⟩:=get (i:=i) t (by simpa using e)
  exact⟨a,r,h1,h2,by simpa using h3⟩
theorem same:∀ {xs:List V} {rs:List (List Int)},aZ K H xs rs->ai H H'->aZ K H' xs rs
 | _,_,.nil,_=>.nil
 | _,_,.cons h t,s=>.cons (s.at h) (t.same s)
theorem append:∀ {xs ys:List V} {rs qs:List (List Int)},aZ K H xs rs->aZ K H ys qs->aZ K H (xs++ys) (rs++qs)
 | _,_,_,_,.nil,u=>u
 | _,_,_,_,.cons h t,u=>.cons h (t.append u)
theorem snoc{xs:List V}{rs:List (List Int)}{a:Addr}{r:List Int}(t:aZ K H xs rs)(h:aN K H a (r.map V.int)):aZ K H (xs++[.ref a]) (rs++[r]):=t.append (.cons h .nil)
theorem off{l:Addr}{ys zs:List V}:∀ {xs:List V} {rs:List (List Int)},aZ K H xs rs->H l=some (.lst ys)->aZ K (upd H l (.lst zs)) xs rs
 | _,_,.nil,_=>.nil
 | _,_,.cons h t,e=>.cons ((GX h e).imp (fun q=>q.imp (fun q=>by rw [ax (fun z=>by rw [z,zU] at q;cases q)];exact rV _ _ q) fun ⟨o,q⟩=>⟨o,by rw [ax (fun z=>by rw [z,zU] at q;cases q)];exact rV _ _ q⟩) id) (t.off e)
end aZ
theorem cx{K:Frag}{H:Hp}{l a:Addr}{xs ys zs:List V}(h:aN K H a xs)(e:H l=some (.lst ys)):aN K (upd H l (.lst zs)) a xs :=
 (GX h e).imp (fun q=>q.imp (fun q=>by rw [ax (fun z=>by rw [z,zU] at q;cases q)];exact rV _ _ q) fun ⟨o,q⟩=>⟨o,by rw [ax (fun z=>by rw [z,zU] at q;cases q)];exact rV _ _ q⟩) id
section
variable {K:Frag}{H:Hp}{σ:St}{Q:VK}{ix:List (Option Nat)}
theorem wK{J:It}{g:TG}{tt:TT}{te:TE}(t:Nat)(fr:St)(n:Nat)(rs:Nat->List (List Int))(jK:pick ix σ=List.replicate t none++fr)(h0:rs 0=[])(hn:∀ i,(rs i).length<=1000)
  (nK:∀ H',ai H H'->J.stop n H') (Kv:∀ i H',i<n->ai H H'->J.go i H')
  (step:∀ i x H' H2 own,own.length=t->i<n->ai H H'->J.J0 i H' x H2->∀ (Qy:St->VK) (Qn:St->Hp->Prop),
   (∀ ie a r H5,ie.length=t->ai H' H5->aN K H5 a (r.map V.int)->rs (i+1)=rs i++[r]->Qy (ie++fr) (.ref a) H5)->(∀ ie H4,ie.length=t->ai H' H4->rs (i+1)=rs i->Qn (ie++fr) H4) ->
   g x (own++fr) H2 fun σ2 H3=>tt σ2 H3 fun b H4=>if b=true then te σ2 H4 (Qy σ2) else Qn σ2 H4)
  (hQ:∀ l H' ys,H l=none->ai H H'->H' l=some (.lst ys)->aZ K H' ys (rs n)->Q (.ref l) H'):bP ix g tt te σ Q J H:=by
 intro l hl
 refine⟨fun i m σ1 ys H'=>m=n - i/\i<=n/\(∃ own:St,own.length=t/\σ1=own++fr)/\ai H H'/\H' l=some (.lst ys)/\aZ K H' ys (rs i),⟨n,by simp,abv _,⟨_,length_replicate,jK⟩,ai.bC hl,av,by rw [h0];exact .nil⟩,?_⟩
 rintro i m σ1 ys H' ⟨rfl,hi,⟨own,ho,rfl⟩,hs,dE,hr⟩
 refine⟨dE,?_⟩
 by_cases lV:i<n
 ·refine .inr ⟨Kv i H' lV hs,n - (i+1),by lia,fun x H2 hy=>step i x H' H2 own ho lV hs hy _ _ (fun ie a r H5 Bu s5 ha er=>?_) fun ie H4 Bu s4 er=>?_⟩
  ·have l5:=s5 _ _ dE
   refine⟨l5,abd (by rw [<- hr.length];exact hn i) (fD (aaM 1000)),rfl,lV,⟨ie,Bu,rfl⟩,fun b o e=>?_,av,?_⟩
   ·rw [ax (bf e hl)]
    exact s5 _ _ (hs _ _ e)
   ·rw [er]
    exact ((hr.same s5).off l5).snoc (cx ha l5)
  ·exact⟨rfl,lV,⟨ie,Bu,rfl⟩,hs.trans s4,s4 _ _ dE,by rw [er];exact hr.same s4⟩
 ·obtain rfl:i=n:=by lia
  exact .inl ⟨nK H' hs,hQ l H' ys hl hs dE hr⟩
end
end L2
namespace L2
open PySem PySem.Spec PyProof.Rows PySem.W
def XE(h:Heap)(H:Hp)(h0:Heap)(ps:List (Addr×Obj))(L a C:Addr):Prop:=∃ oe vs T oT ts,h.get? a=some oe/\oe.cls=.ref C/\oe.dict=none/\oe.data=.fields vs/\1<vs.size/\vs[1]?=some (.ref T)/\T≠a/\h.get? T=some oT/\oT.data=.fields ts/\ts[3]?=some (rawInt L) /\
 H a=none/\(h0.get? a=none/\∀ p∈ps,p.1≠a)/\H T=none/\h0.get? T=none/\∀ p∈ps,p.1≠T
def XM(X:Cx)(EX:Vz):Value->Shared->Prop:=fun e s'=>∃ a C σ' H',e=.ref a/\Inv X.Ju [] σ' H' s'/\XE s'.heap H' X.s₀.heap X.pn X.env.locals a C/\EX C σ' H'
def XP(X:Cx)(EX:Vz):Value->Shared->Prop:=fun e s'=>XW X EX e s'\/XM X EX e s'
open PySem PySem.Spec PyProof.Rows
section
variable {K:Frag}{H:Hp}{Q:VK}{σ:St}
theorem DA{xs:List V}{j:Nat}:iT xs none (some (j:Int))=xs.take j:=by
 unfold iT
 rw [HT.nF,HT.xi,sub_zero,drop_zero]
 by_cases h:j<=xs.length
 ·rw [Nat.min_eq_left h]
 ·rw [Nat.min_eq_right (by lia),abr (by lia),abr (by lia)]
theorem O7{a:Addr}{xs:List V}{j:Nat}(e:aR K H a xs)(h:∀ p H2,H p=none->ai H H2->H2 p=some (.lst (xs.take j))->Q (.ref p) H2):Gq K (.ref a) none (some (j:Int)) H Q :=
 zP e fun p H2 n s m=>h p H2 n s (by rw [DA] at m;exact m)
theorem zW:∀ (r q:List Int),PyData.eqvAll (r.map PyData.int) (q.map PyData.int)=decide (r=q)
 | [],[]=>rfl
 | [],_::_=>rfl
 | _::_,[]=>rfl
 | x::r,y::q=>by
  have h:=zW r q
  simp only [map_cons,PyData.eqvAll,h,PyData.eqv]
  by_cases e:x=y
  ·subst e;by_cases e2:r=q <;> simp [e2]
  ·simp [e]
theorem rX(r q:List Int):PyData.eqv (.tuple (r.map PyData.int)) (.tuple (q.map PyData.int))=decide (r=q):=by
 rw [<- zW r q]
 simp [PyData.eqv]
theorem lay_ints:∀ r:List Int,PyData.canLayAll0 (r.map PyData.int)=true
 | []=>rfl
 | _::r=>by simp only [map_cons,PyData.canLayAll0,lay_ints r,PyData.canLay0,Bool.and_self]
theorem DB(r:List Int):PyData.canLay0 (.tuple (r.map PyData.int))=true:=by simp only [PyData.canLay0,lay_ints]
theorem wL:∀ r:List Int,PyData.depthAll (r.map PyData.int)<=1
 | []=>by simp [PyData.depthAll]
 | _::r=>by
  have:=wL r
  simp only [map_cons,PyData.depthAll,PyData.depth]
  lia
theorem zX(r:List Int):PyData.depth (.tuple (r.map PyData.int))<=2:=by
 have:=wL r
 simp only [PyData.depth]
 lia
theorem BQ(r:List Int):SeqAt.shaped (.tuple (r.map PyData.int))=true:=by
 unfold SeqAt.shaped
 rw [DB,aaT (aaL (zX r) (by decide))];rfl
end
section
variable {K:Frag}{H H':Hp}
theorem lI:∀ {zs:List (List Int×V)},(∀ p∈zs,∃ a,p.2=.ref a/\aN K H a (p.1.map V.int))->aZ K H (zs.map Prod.snd) (zs.map Prod.fst)
 | [],_=>.nil
 | p::zs,h=>by
  obtain ⟨a,e,q⟩:=h p (mem_cons_self ..)
  rw [map_cons,map_cons,e]
  exact .cons q (lI fun z hz=>h z (aa8 _ hz))
theorem aZ.pair:∀ {xs:List V} {rs:List (List Int)},aZ K H xs rs->∀ p∈rs.zip xs,∃ a,p.2=.ref a/\aN K H a (p.1.map V.int)
 | _,_,.nil=>fun p hp=>by cases hp
 | _,_,.cons h t=>fun p hp=>by
  rcases aa9.mp hp with rfl|hp
  ·exact⟨_,rfl,h⟩
  ·exact t.pair p hp
theorem zY{xs ys:List V}{rs:List (List Int)}(f:List Int->Int)(hr:aZ K H xs rs)(so:eZ false (rs.map f) xs ys)(s:ai H H'):∃ qs,aZ K H' ys qs/\qs.Perm rs/\qs.Pairwise fun a b=>f a<=f b:=by
 obtain ⟨ps,hp,rfl,hw⟩:=so
 have ez:(rs.map f).zip xs=(rs.zip xs).map fun p=>(f p.1,p.2):=by rw [List.zip_map_left];rfl
 obtain ⟨zs,pz,rfl⟩:=fU.zD hp ez
 refine⟨zs.map Prod.fst,?_,?_,?_⟩
 ·rw [abp]
  exact (lI (zs:=zs) fun p h=>hr.pair p (pz.mem_iff.mp h)).same s
 ·have:=pz.map Prod.fst
  rw [List.map_fst_zip (by rw [hr.length];exact aaM _)] at this
  exact this
 ·rw [List.pairwise_map] at hw ⊢
  exact hw.imp fun h=>h
end
end L2
namespace L2
open PySem PySem.Spec PyProof.Rows PySem.W
theorem G5:typeLookup (.type "list_reverseiterator") "__len__"=pure none:=by rw [typeLookup_type,builtinLookup_eq_fast];kernel_rfl
theorem Ew:typeLookup (.type "list_reverseiterator") "__length_hint__"=pure (some (.builtin "list_reverseiterator.__length_hint__")):=by rw [typeLookup_type,builtinLookup_eq_fast];kernel_rfl
section
variable {prog:Program}{w:World}{A:Around}{E:Value->Shared->Prop}{s:Shared}{I l:Addr}{its:Array Value}
theorem G6 {Q:Bool->Shared->Prop} (ty:s.TypeIs (.ref I) "list_reverseiterator") (h:Q false s):wpAny (model prog w) A (Builtin.List.listLengthHint (.ref I)) Q E s:=by
 unfold Builtin.List.listLengthHint
 refine aaH (wpAny_specialOf ty G5 ?_)
 show wpAny _ _ (specialOf (Value.ref I) (Str.ofString "__length_hint__") >>= _) _ _ _
 refine aaH (wpAny_specialOf ty Ew ?_)
 generalize eid:("list_reverseiterator.__length_hint__":String)=nm
 wp_delta
 rw [show splitId nm=some ("list_reverseiterator","__length_hint__") by subst eid;decide +kernel]
 subst eid
 refine aaH (wpAny_isInstance (T:="list_reverseiterator") (b:=true) ty (by rw [isSubtype_type];kernel_rfl) ?_)
 refine wpAny_ite_split (fun z=>absurd z (by decide)) fun _=>?_
 refine wpAny_ite_split (fun _=>?_) (fun z=>absurd (by decide +kernel) z)
 refine wpAny_ite_split (fun z=>absurd z (by decide +kernel)) fun _=>?_
 exact aaV h
theorem zZ {R:Result->Shared->Prop} (hh:A.handled=none) (hI:s.heap.IsRevIter I l ((its.size:Int) - 1)) (hl:s.heap.IsList l its) (ne:l≠I) (S:Addr) (n1:S≠I) (n2:S≠l) (c0:Nat) (hS:s.heap.get? S=some { cls:=.type "list",data:=.seq #[] c0 }) (hz:its.size<=sizeLine)
  (hR:∀ h' tk acc c,(∀ b o,b≠S->b≠I->s.heap.get? b=some o->h'.get? b=some o)->h'.get? S=some { cls:=.type "list",dict:=none,data:=.seq acc c,slots:=#[] }->ItemsOf (fun i v=>its[its.size - 1 - i]?=some v) acc its.size->R (.ok (.ret .none)) { s with heap:=h',toks:=tk }) :
  wpAny (model prog w) A.in1 (Builtin.List.listExtendWith (.ref S) (.ref I) .none)
   (fun fin s'=>match fin with|.done f=>R (.ok f) s'|.again c'=>c'.quiet=true/\codeAny (model prog w) A c' R s') (fun e s'=>R (.error e) s') s:=by
 have W:=(Walks.listRev (prog:=prog) (w:=w) (A:=A.in1) hh I l ne its).toS
 have nf:S∉[I,l]:=by simp only [aa9,not_mem_nil,or_false,not_or];exact⟨n1,n2⟩
 have st:(fun (i:Nat) (s:Shared)=>(fun i h=>i<=its.size/\Heap.IsRevIter h I l ((its.size:Int) - 1 - (i:Int))/\h.IsList l its) i s.heap) 0 s:=⟨abv _,by simpa using hI,hl⟩
 unfold Builtin.List.listExtendWith
 refine aaH (wpAny_typeOf hI.typeIs ?_)
 simp only [show Builtin.List.listSameRef (.ref S) (.ref I)=false by simp [Builtin.List.listSameRef,n1],show (Value.type "list_reverseiterator" == Value.type "list")=false by decide,show (Value.type "list_reverseiterator" == Value.type "tuple")=false by decide,Bool.or_false,Bool.false_eq_true,if_false]
 refine aaH (wpAny_pyIter_revIter hI (aaH (wpAny_holding (G6 hI.typeIs ?_))))
 refine wpAny_ite_split (fun z=>absurd z (by decide)) fun _=>aaV ⟨plainId_quiet F.plain_extend_loop _,?_⟩
 refine codeAny_extend_loopS W hz S nf .none its.size 0 _ #[] c0 rfl (abv _) st hS (ItemsOf.nil _) fun s' acc c hm hS' BC=>?_
 rw [Moved.eq_with hm]
 exact hR s'.heap s'.toks acc c (fun b o b1 b2 e=>hm.heap b o (fun z=>(aa9.mp z).elim b1 fun y=>b2 (aa2.mp y)) e) hS' BC
theorem tD{Q:Value->Shared->Prop}(hh:A.handled=none)(hI:s.heap.IsRevIter I l ((its.size:Int) - 1))(hl:s.heap.IsList l its)(ne:l≠I)(hz:its.size<=sizeLine)
  (hQ:∀ h' tk acc c,(∀ b o,b≠I->s.heap.get? b=some o->h'.get? b=some o)->h'.get? s.heap.objs.size=some { cls:=.type "list",dict:=none,data:=.seq acc c,slots:=#[] }->ItemsOf (fun i v=>its[its.size - 1 - i]?=some v) acc its.size->Q (.ref s.heap.objs.size) { s with heap:=h',toks:=tk }) :
  wpAny (model prog w) A (call (.type "list") [.ref I]) Q E s:=by
 obtain ⟨oI,eI,rI⟩:=id hI
 obtain ⟨ol,el,rl⟩:=id hl
 refine callType_codes (Q₁:=fun obj t=>obj=.ref s.heap.objs.size/\t={ s with heap:=s.heap.push { cls:=.type "list",data:=.seq #[] } }) F.called_list (F.typeCall_list_1 _) F.entry_list_init (code_list_new _ ⟨rfl,rfl⟩) fun obj t ht=>?_
 obtain ⟨rfl,rfl⟩:=ht
 have own:(s.heap.push { cls:=.type "list",data:=.seq #[] }).get? s.heap.objs.size=some { cls:=.type "list",data:=.seq #[] }:=aaK _ rfl
 refine⟨⟨_,own,rfl⟩,F.args_list_init_2 _ _,?_⟩
 show wpAny _ _ (do let old <- Builtin.List.listItems (.ref s.heap.objs.size);Builtin.List.listUpdate (.ref s.heap.objs.size) (fun _=>#[]);letGo old.toList.reverse;Builtin.List.listExtendWith (.ref s.heap.objs.size) (.ref I) .none) _ _ _
 refine aaH ?_
 unfold Builtin.List.listItems
 refine aaH (wpAny_seqItems own rfl (aaV ?_))
 show wpAny _ _ (updateSeq s.heap.objs.size (fun _=>#[]) >>= fun _=>letGo (#[]:Array Value).toList.reverse >>= fun _=>Builtin.List.listExtendWith (.ref s.heap.objs.size) (.ref I) .none) _ _ _
 refine aaH (wpAny_updateSeq own rfl (aaH (wpAny_letGo ?_)))
 have ie:=Heap.get?_update_self (Obj.mapSeq (fun _=>(#[]:Array Value))) own rfl
 have XF:∀ b o,s.heap.get? b=some o->((s.heap.push { cls:=.type "list",data:=.seq #[] }).update s.heap.objs.size (Obj.mapSeq (fun _=>(#[]:Array Value)))).get? b=some o:=fun b o e=>(Heap.get?_update_other _ _ (Nat.ne_of_gt (aaJ e))).trans (aaG _ e)
 refine zZ (A:=A.in1) (its:=its) hh ⟨oI,XF _ _ eI,rI⟩ ⟨ol,XF _ _ el,rl⟩ ne _ (Nat.ne_of_gt (aaJ eI)) (Nat.ne_of_gt (aaJ el)) _ ie hz fun h' tk acc c k e BC=>⟨rfl,hQ h' tk acc c (fun b o b1 eb=>k b o (abw (aaJ eb)) b1 (XF b o eb)) e BC⟩
end
theorem Ex{its:List Value}{acc:Array Value}(h:ItemsOf (fun i v=>its.toArray[its.toArray.size - 1 - i]?=some v) acc its.toArray.size):acc=its.reverse.toArray:=by
 apply Array.ext
 ·rw [h.1];simp
 ·intro j h1 h2
  have e:=h.2 j _ (Array.getElem?_eq_getElem h1)
  have hj:j<its.length:=by have:=h.1;simp at this;lia
  simp only [abm,List.getElem?_toArray] at e
  simp only [List.getElem_toArray,List.getElem_reverse]
  rw [aaZ (by lia)] at e
  exact (aaO e).symm
def tF(K:Frag):V->Hp->VK->Prop:=fun x H Q=>∃ (l:Addr) (xs:List V),x=.ref l/\aR K H l xs/\∀ p,H p=none->Q (.ref p) (upd H p (.lst xs.reverse))
def G7(K:Frag)(t:TE):TE:=fun σ H Q=>t σ H fun x H1=>tF K x H1 Q
section
variable {X:Cx}{p p2 pos tG:Pos}{e:Expr}{t:TE}
theorem K5 (hc:X.calm=true) (ha:PE X e t) (hg:Gl X "list") (JB:Gl X "reversed") (hm:X.mg "list"=none) (G8:X.mg "reversed"=none)
  (lO:starEach [e] X.env=[(false,eval e X.env)]:=by rfl) (K6:starEach [Expr.Call (.Name "reversed" p2) [e] [] tG] X.env=[(false,eval (.Call (.Name "reversed" p2) [e] [] tG) X.env)]:=by rfl) :
  PE X (.Call (.Name "list" p) [.Call (.Name "reversed" p2) [e] [] tG] [] pos) (G7 X.K t):=by
 intro pins s σ H Q I h
 refine wpAny_Call_Name_kw (fv I hg hm boot_list ?_ (by decide) (by decide))
 refine callWith_type1 ?_ (by rw [K6];rfl) (by rfl)
 rw [K6]
 show wpAny _ _ (spliced ((false,eval (.Call (.Name "reversed" p2) [e] [] tG) X.env)::backTo pos [])) _ _ s
 refine Calls.spliced_cons (wpAny_Call_Name_kw (fv I JB G8 boot_reversed ?_ (by decide) (by decide)))
 refine callWith_type1 ?_ (by rw [lO];rfl) (by rfl)
 have Tw:PA X [e] (qK t zk):=aa ha af lO
 refine c6 (Tw tG pins s σ H (fun vs H1=>∃ x,vs=[x]/\tF X.K x H1 Q) I ?_) fun us s1 ⟨vs,H1,I1,r,x,ev,q⟩=>?_
 ·show t σ H fun x H1=>∃ z,[x]=[z]/\tF X.K z H1 Q
  have e:(fun (x:V) (H1:Hp)=>∃ z,[x]=[z]/\tF X.K z H1 Q)=fun x H1=>tF X.K x H1 Q:=by
   funext x H1
   apply propext
   exact⟨fun ⟨z,e,q⟩=>by cases e;exact q,fun q=>⟨x,rfl,q⟩⟩
  rw [e]
  exact h
 subst ev
 obtain ⟨u,rfl,ru⟩:=vals1 r
 obtain ⟨l,xs,rfl,hs,hQ⟩:=q
 cases ru
 obtain ⟨its,rv,pl,hz⟩:=I1.list hs
 have hl:s1.heap.IsList l its.toArray:=pl.isList
 have lV:l<s1.heap.objs.size:=by obtain ⟨o,e,_⟩:=hl;exact aaJ e
 refine call_reversed_list hl ?_
 have I2:Inv X pins σ H1 { s1 with heap:=s1.heap.push (revObj l ((its.toArray.size:Int) - 1)) }:=I1.kept (t':=s1.toks) fun b o q=>aaG _ q
 refine Calls.spliced_nil ?_
 have hlen:=rv.length
 refine tD (s:={ s1 with heap:=s1.heap.push (revObj l ((its.toArray.size:Int) - 1)) }) (I1.ok.hd hc) ⟨_,aaK _ rfl,rfl,rfl⟩ (hl.at fun o e=>aaG _ e) (abw lV) (by rw [abm,<- hlen];exact hz) fun h' tk acc c k hn BC=>?_
 rw [Ex BC] at hn
 have big:s1.heap.objs.size<=(s1.heap.push (revObj l ((its.toArray.size:Int) - 1))).objs.size:=by rw [size_push'];exact le_succ _
 refine⟨.ref _,upd H1 _ (.lst xs.reverse),I1.laid (t':=tk) (fun b u q=>k b u (abw (aaJ q)) (aaG _ q)) big ?_,rfl,hQ _ (I1.bc.fresh big)⟩
 exact⟨by rw [length_reverse];exact hz,its.reverse,c,rv.reverse,hn⟩
variable {K:Frag}
theorem G9 (K:Frag) (hK:X.K=K) (hc:X.calm=true) (ha:PE X e t) (hg:Gl X "list") (JB:Gl X "reversed") (hm:X.mg "list"=none) (G8:X.mg "reversed"=none)
  (lO:starEach [e] X.env=[(false,eval e X.env)]:=by rfl) (K6:starEach [Expr.Call (.Name "reversed" p2) [e] [] tG] X.env=[(false,eval (.Call (.Name "reversed" p2) [e] [] tG) X.env)]:=by rfl) :
  PE X (.Call (.Name "list" p) [.Call (.Name "reversed" p2) [e] [] tG] [] pos) (G7 K t):=hK ▸ K5 hc ha hg JB hm G8 lO K6
end
section
variable {K:Frag}{H:Hp}{Q:VK}{σ:St}
theorem O8{t:TE}(h:t σ H fun x H1=>tF K x H1 Q):G7 K t σ H Q:=h
theorem O9{l:Addr}{xs:List V}(e:aR K H l xs)(h:∀ p H2,H p=none->ai H H2->H2 p=some (.lst xs.reverse)->Q (.ref p) H2):tF K (.ref l) H Q:=⟨l,xs,rfl,e,fun p hp=>h p _ hp (ai.bC hp) av⟩
end
open PySem PySem.Spec PyProof.Rows
inductive bY(K:Frag)(H:Hp):List V->List (List Int×Int)->Prop where
 | nil:bY K H [] []
 | cons {a w:Addr} {r:List Int} {m:Int} {xs:List V} {ks:List (List Int×Int)} (h:aN K H a [.ref w,.int m]) (hw:aN K H w (r.map V.int)) (t:bY K H xs ks):bY K H (.ref a::xs) ((r,m)::ks)
namespace bY
variable {K:Frag}{H H':Hp}
theorem length:∀ {xs:List V} {ks:List (List Int×Int)},bY K H xs ks->ks.length=xs.length
 | _,_,.nil=>rfl
 | _,_,.cons _ _ t=>by rw [length_cons,length_cons,t.length]
theorem get:∀ {xs:List V} {ks:List (List Int×Int)} {i:Nat} {x:V},bY K H xs ks->xs[i]?=some x->∃ a w k,x=.ref a/\aN K H a [.ref w,.int k.2]/\aN K H w (k.1.map V.int)/\ks[i]?=some k
 | _,_,_,_,.nil,h=>by simp at h
 | _,_,0,_,.cons (a:=a) (w:=w) (r:=r) (m:=m) h hw _,e=>by
  simp at e
  exact⟨a,w,(r,m),e.symm,h,hw,rfl⟩
 | _,_,i+1,_,.cons _ _ t,e=>by
  obtain ⟨a,w,k,h1,h2,h3,h4⟩:=get (i:=i) t (by simpa using e)
  exact⟨a,w,k,h1,h2,h3,by simpa using h4⟩
theorem same:∀ {xs:List V} {ks:List (List Int×Int)},bY K H xs ks->ai H H'->bY K H' xs ks
 | _,_,.nil,_=>.nil
 | _,_,.cons h hw t,s=>.cons (s.at h) (s.at hw) (t.same s)
theorem append:∀ {xs ys:List V} {ks js:List (List Int×Int)},bY K H xs ks->bY K H ys js->bY K H (xs++ys) (ks++js)
 | _,_,_,_,.nil,u=>u
 | _,_,_,_,.cons h hw t,u=>.cons h hw (t.append u)
theorem snoc{xs:List V}{ks:List (List Int×Int)}{a w:Addr}{r:List Int}{m:Int}(t:bY K H xs ks)(h:aN K H a [.ref w,.int m])(hw:aN K H w (r.map V.int)):bY K H (xs++[.ref a]) (ks++[(r,m)]):=t.append (.cons h hw .nil)
theorem off{l:Addr}{ys zs:List V}:∀ {xs:List V} {ks:List (List Int×Int)},bY K H xs ks->H l=some (.lst ys)->bY K (upd H l (.lst zs)) xs ks
 | _,_,.nil,_=>.nil
 | _,_,.cons h hw t,e=>.cons (cx h e) (cx hw e) (t.off e)
end bY
theorem Hd{K:Frag}{a:Addr}{xs:List V}{H1:Hp}{ix:List (Option Nat)}{σ:St}{te:TE}{Q:VK}(fr:St)(f:Nat->V)(jK:pick ix σ=none::fr)(ha:aR K H1 a xs)(hn:xs.length<=1000000)
  (step:∀ (i:Nat) x H' (Qc:VK),xs[i]?=some x->ai H1 H'->(∀ H5,ai H' H5->Qc (f i) H5)->te (some x::fr) H' Qc)
  (hQ:∀ l H',H1 l=none->ai H1 H'->H' l=some (.lst ((List.range xs.length).map f))->Q (.ref l) H'):bP ix (bT 0) (fun _ H Q=>Q true H) te σ Q (Jv K a) H1:=by
 refine nN fr xs.length f jK hn (fun H' s=>⟨xs,s.seq ha,aaM _⟩) (fun i H' hi s=>⟨xs,xs[i],s.seq ha,aaZ hi⟩) (fun i x H' H2 Qc hi s hy kc=>?_) hQ
 obtain ⟨rfl,e⟩:=hy
 exact step i x _ Qc (e xs (s.seq ha)) s kc
end L2
namespace L2
open PySem PySem.Spec PyProof.Rows
section
variable {X:Cx}{pins:List (Addr×Obj)}{σ:St}{H:Hp}{s:Shared}
theorem BR{a kS f:Addr}{e1:Nat}{b:Bool}{vs:List Value}{xs:List V}{kz:List Int}{P:PySem.Fin->Shared->Prop}{E:Value->Shared->Prop}
  (KC:∀ (gk:List (Addr×Obj)) (H':Hp) (s':Shared) (i:Nat) (x:V) (u:Value) (n:Int),(∀ p∈pins,p∈gk)->xs[i]?=some x->kz[i]?=some n->ai H H'->RelV x u->Inv X gk σ H' s'->wpAny (model X.prog X.w) X.A.in1.in1 (call (.ref f) [u]) (EP X gk σ fun v K7=>v=.int n/\ai H' K7) (fun _ _=>False) s')
  (I:Inv X ((pins++[(a,seqObj "list" #[] e1)])++[(kS,seqObj "list" #[] 0)]) σ H s) (h0:X.s₀.heap.get? kS=none) (hc:∀ x c,X.env.cells.lookup x=some c->c≠kS) (hp:∀ p∈X.pn++(pins++[(a,seqObj "list" #[] e1)]),p.1≠kS)
  (hv:Vals xs vs) (hlen:kz.length=vs.length) (KZ:vs.length<64)
  (done:∀ H' s' kA e,Inv X ((pins++[(a,seqObj "list" #[] e1)])++[(kS,seqObj "list" kA e)]) σ H' s'->ai H H'->IntsAre kA.toList kz->wpAny (model X.prog X.w) X.A.in1.in1 (ksk_end a b vs.toArray e1 (.ref kS) kA) P E s') :
  wpAny (model X.prog X.w) X.A.in1.in1 (ksk_rest a (.ref f) b vs.toArray e1 (.ref kS)) P E s:=by
 have XG:xs.length=vs.length:=hv.length
 let Wk:Nat->Shared->Prop:=fun i s'=>∃ H' kA e,Inv X ((pins++[(a,seqObj "list" #[] e1)])++[(kS,seqObj "list" kA e)]) σ H' s'/\ai H H'/\IntsAre kA.toList (kz.take i)
 have start:Wk 0 s:=⟨H,#[],0,I,ai.refl _,by rw [take_zero];exact .nil⟩
 have last:∀ s',Wk (0+vs.length) s'->wpAny (model X.prog X.w) X.A.in1.in1 (do let keys <- Builtin.List.listItems (.ref kS);ksk_end a b vs.toArray e1 (.ref kS) keys) P E s':=by
  rintro s' ⟨H',kA,e,I',sm,hk⟩
  rw [Nat.zero_add,abr (le_of_eq hlen)] at hk
  exact aaH (listItems_at (Dy I') rfl (done H' s' kA e I' sm hk))
 rw [ksk_rest]
 refine aaH (wpAny_rule ?_)
 rw [List.forIn_toArray]
 refine aaH (ksk_fold Wk vs 0 s start (fun j u s' hu w=>?_) last)
 rw [Nat.zero_add] at w ⊢
 obtain ⟨H',kA,e,I',sm,hk⟩:=w
 have hj:=(aaI.mp hu).1
 have XH:kA.size+1<=64:=by
  have q:=hk.length
  rw [Array.length_toList,abl] at q
  lia
 obtain ⟨u',eu,ru⟩:=hv.get (aaZ (XG.symm ▸ hj:j<xs.length))
 cases hu.symm.trans eu
 have hn:kz[j]?=some (kz[j]'(hlen.symm ▸ hj)):=aaZ _
 refine aaH (wpAny_attempt (aaW (KC _ H' s' j _ _ _ (fun p hp=>aa1 _ (aa1 _ hp)) (aaZ _) hn sm ru I') ?_ fun _ _ no=>no.elim))
 rintro _ s2 ⟨y,H2,I2,ry,rfl,MR⟩
 obtain ⟨t2,rfl⟩:=ry
 have at2:=Dy I2
 refine aaH (listUpdate_at at2 rfl ?_ (by rw [sizeLine_eq];lia) (by rw [Array.size_push,sizeLine_eq];lia))
 exact aaV ⟨rfl,H2,_,_,I2.wrote h0 hc hp (Heap.SameBut.update _ _ _) (get?_update_seq at2 _) (fun _ z=>nomatch z),sm.trans MR,Xy hk hn⟩
theorem BS{a f:Addr}{n:Nat}{b:Bool}{vs:List Value}{xs:List V}{kz:List Int}{P:PySem.Fin->Shared->Prop}{E:Value->Shared->Prop}
  (KC:∀ (gk:List (Addr×Obj)) (H':Hp) (s':Shared) (i:Nat) (x:V) (u:Value) (n:Int),(∀ p∈pins,p∈gk)->xs[i]?=some x->kz[i]?=some n->ai H H'->RelV x u->Inv X gk σ H' s'->wpAny (model X.prog X.w) X.A.in1.in1 (call (.ref f) [u]) (EP X gk σ fun v K7=>v=.int n/\ai H' K7) (fun _ _=>False) s') (I:Inv X pins σ H s) (ho:s.heap.get? a=some (seqObj "list" vs.toArray n)) (hfp:oY X pins H a) (Xl:X.s₀.heap.objs.size<=a)
  (hv:Vals xs vs) (hlen:kz.length=vs.length) (KZ:vs.length<64)
  (hP:∀ s' H' ys,ai H H'->H' a=none->Inv X pins σ (upd H' a (.lst ys)) s'->eZ b kz xs ys->P (.done (.ret .none)) s') :
  wpAny (model X.prog X.w) X.A.in1.in1 (ksk_tree a (.ref f) b) P E s:=by
 obtain ⟨g0,g1,g2,_,g4,g5⟩:=hfp
 have a0:X.s₀.heap.get? a=none:=Heap.get?_none_of_le Xl
 have s1:=Heap.SameBut.update s.heap a (Obj.mapSeq fun _=>(#[]:Array Value))
 obtain ⟨e1,VB⟩:∃ e1,(s.heap.update a (Obj.mapSeq fun _=>(#[]:Array Value))).get? a=some (seqObj "list" #[] e1):=⟨_,get?_update_seq ho fun _=>#[]⟩
 have I0:Inv X (pins++[(a,seqObj "list" vs.toArray n)]) σ H s:=I.nv fun p hp=>(aa3.mp hp).elim (fun z=>I.pin p (aa0 _ z)) fun z=>by
  rw [aa2.mp z]
  exact⟨ho,g0,g1,g2,fun v z=>nomatch z⟩
 have I1:Inv X (pins++[(a,seqObj "list" #[] e1)]) σ H { s with heap:=s.heap.update a (Obj.mapSeq fun _=>(#[]:Array Value)),toks:=s.toks }:=I0.wrote a0 g4 g5 s1 VB fun v z=>nomatch z
 unfold ksk_tree
 refine aaH (listItems_at ho rfl ?_)
 refine aaH (listUpdate_at ho rfl ?_ (by rw [abm,sizeLine_eq];lia) (abv _))
 refine aaH (seqEpoch_at VB rfl ?_)
 refine aaH (wpAny_newTuple ?_ (by show vs.length<=_;rw [sizeLine_eq];lia))
 refine aaH (wpAny_newList ?_ (abv _))
 refine wpAny_holding ?_
 generalize hh1:s.heap.update a (Obj.mapSeq fun _=>(#[]:Array Value))=h1 at I1
 have lk:h1.objs.size<=(h1.push (seqObj "tuple" vs.toArray 0)).objs.size:=by rw [size_push'];exact le_succ _
 have I2:Inv X (pins++[(a,seqObj "list" #[] e1)]) σ H { s with heap:=(h1.push (seqObj "tuple" vs.toArray 0)).push (seqObj "list" #[] 0),toks:=s.toks } :=
  I1.kept (t':=s.toks) fun b o q=>aaG _ (aaG _ q)
 have Pa:H (h1.push (seqObj "tuple" vs.toArray 0)).objs.size=none:=I1.bc.fresh lk
 obtain ⟨_,q1,q2,_,q4,q5⟩:oY X (pins++[(a,seqObj "list" #[] e1)]) H (h1.push (seqObj "tuple" vs.toArray 0)).objs.size:=I1.u6 lk Pa
 have k0:X.s₀.heap.get? (h1.push (seqObj "tuple" vs.toArray 0)).objs.size=none:=Heap.get?_none_of_le (aaL I1.sz lk)
 have I3:Inv X ((pins++[(a,seqObj "list" #[] e1)])++[((h1.push (seqObj "tuple" vs.toArray 0)).objs.size,seqObj "list" #[] 0)]) σ H { s with heap:=(h1.push (seqObj "tuple" vs.toArray 0)).push (seqObj "list" #[] 0),toks:=s.toks } :=
  I2.nv fun p hp=>(aa3.mp hp).elim (fun z=>I2.pin p (aa0 _ z)) fun z=>by
   rw [aa2.mp z]
   exact⟨aaK _ rfl,Pa,q1,q2,fun v z=>nomatch z⟩
 refine BR KC I3 k0 q4 q5 hv hlen KZ fun H' s' kA e I' sm hk=>?_
 obtain ⟨_,an,_⟩:=I'.pin (a,seqObj "list" #[] e1) (aa0 _ (aa1 _ (aa0 _ (aa2.mpr rfl))))
 exact G1 I' ⟨a0,g4,g5⟩ ⟨k0,q4,q5⟩ hk hv hlen KZ fun h' tk ys J so=>hP _ H' ys sm an J so
theorem ve{l f:Addr}{xs:List V}{kz:List Int}{Q:VK}
  (KC:∀ (gk:List (Addr×Obj)) (H':Hp) (s':Shared) (i:Nat) (x:V) (u:Value) (n:Int),(∀ p∈pins,p∈gk)->xs[i]?=some x->kz[i]?=some n->ai H H'->RelV x u->Inv X gk σ H' s'->wpAny (model X.prog X.w) X.A.in1.in1 (call (.ref f) [u]) (EP X gk σ fun v K7=>v=.int n/\ai H' K7) (fun _ _=>False) s') (I:Inv X pins σ H s) (hs:aR X.K H l xs) (hlen:kz.length=xs.length) (KZ:xs.length<64)
  (hQ:∀ p H' ys,ai H H'->H' p=some (.lst ys)->eZ false kz xs ys->Q (.ref p) H') :
  wpAny (model X.prog X.w) X.A (call (.builtin "sorted") [.ref l] [(Str.ofString "key",.ref f)]) (EP X pins σ Q) X.xe s:=by
 obtain ⟨vs,hv,pl,_⟩:=I.list hs
 have hl:s.heap.IsList l vs.toArray:=by
  obtain ⟨o,n,h1,h2,h3⟩:=pl
  exact⟨o,h1,h2,n,h3.2⟩
 have hvl:vs.length<64:=by rw [<- hv.length];exact KZ
 have XH:vs.length<=sizeLine:=by rw [sizeLine_eq];lia
 refine call_function_entry_kw kind_sorted plain_sorted entry_sorted (ksk_s1 _ _) ?_
 rw [Builtin.«sorted»]
 refine aaH (m:=checkCount "sorted" 1 1 _) (aaV (aaH (collect_list hl ?_ XH)))
 generalize hc:(s.heap.push (seqObj "list" #[] 0)).update s.heap.objs.size (Obj.mapSeq (·++vs.toArray))=xB
 have ecol:xB.objs.size=s.heap.objs.size+1:=by rw [<- hc,Heap.size_update,size_push']
 have XI:∀ b o,s.heap.get? b=some o->xB.get? b=some o:=fun b o q=>by
  rw [<- hc,(Heap.SameBut.update _ _ _).2 b (abw (aaJ q))]
  exact aaG _ q
 have low:s.heap.objs.size<=xB.objs.size:=by lia
 have I2:Inv X pins σ H { s with heap:=xB.push (seqObj "list" vs.toArray 0),toks:=s.toks }:=I.kept fun b o q=>aaG _ (XI b o q)
 have own:(xB.push (seqObj "list" vs.toArray 0)).get? xB.objs.size=some (seqObj "list" vs.toArray 0):=aaK _ rfl
 refine aaH (wpAny_newList ?_ XH)
 refine aaH (wpAny_holding (wpAny_call_entry_kw (s:={ s with heap:=xB.push (seqObj "list" vs.toArray 0) }) slot_list_sort ⟨_,own,rfl⟩ entry_list_sort ?_ (ksk_l1 _ _)))
 show wpAny (model X.prog X.w) X.A.in1.in1 (Builtin.«list.sort» ⟨[.ref xB.objs.size],[(Str.ofString "key",.ref f)]⟩) _ _ _
 rw [ksk_t1]
 refine BS KC I2 own (I.u6 low (I.bc.fresh low)) (aaL I.sz low) hv (hlen.trans hv.length) hvl fun s' H' ys sm hn J so=>⟨_,rfl,?_⟩
 exact aaV ⟨_,rfl,.ref xB.objs.size,_,J,rfl,hQ _ _ ys (sm.trans (ai.bC hn)) av so⟩
end
end L2
namespace L2
open PySem PySem.Spec PyProof.Rows PySem.W
abbrev DC(X:Cx)(A:Around)(N:List Str)(qual:Str)(scope:Scope)(f:Addr)(cd:Value)(s:Shared)(H:Hp):Cx :=
 { X with A:=A.deeper (envX qual scope s.heap.objs.size f cd (dP X.env.cells scope.names [])),N:=N,s₀:=s,H₀:=H,env:=envX qual scope s.heap.objs.size f cd (dP X.env.cells scope.names []),outer:=X.stack,stack:=envX qual scope s.heap.objs.size f cd (dP X.env.cells scope.names [])::X.stack,ex:=[],fn:=fun _=>false,calm:=true,pn:=[],xe:=fun _ _=>False }
section
variable {X:Cx}{pins:List (Addr×Obj)}{σ:St}{H:Hp}{s:Shared}
theorem He{A:Around}{f c':Addr}{qual p:Str}{fns:List Str}{ixs:List (Option Nat)}{params:Arguments}{body:Expr}{scope:Scope}{pm pG:Value}{x:V}{u:Value}{te:TE}{Q:VK}
  (I:Inv X pins σ H s) (hd:A.handled=none) (Pb:A.frames=some X.stack) (Hf:A.depth<recursionLimit)
  (ho:s.heap.get? f=some (kla_obj "<lambda>" qual params body scope (dP X.env.cells scope.names []) pm c' pG)) (xb:s.heap.CodeRec (.ref c') qual)
  (jV:bindArgs (kla_fn "<lambda>" qual params body scope (dP X.env.cells scope.names []) pm (.ref c') pG) ⟨[u],[]⟩=pure [(p,u)])
  (tH:scope.names.lookup p=some .local) (K8:scope.isCoroutine=false) (xC:scope.isGenerator=false) (hk:scope.kind=.function) (eC:∀ y∈scope.names,y.2≠.cell)
  (nH:(scope.names.all fun y=>!(y.2 == NameKind.free) || (X.env.cells.lookup y.1).isSome)=true) (BA:lU X scope fns ixs)
  (he:PE (DC X A (p::fns) qual scope f (.ref c') s H) body te) (r:RelV x u) (h:te (some x::pick ixs σ) H Q) :
  wpAny (model X.prog X.w) A (call (.ref f) [u]) (EP X pins σ Q) (fun _ _=>False) s:=by
 have Ko:∀ y∈scope.names,y.2=.free->(X.env.cells.lookup y.1).isSome=true:=fun y hy e=>by
  have z:=all_eq_true.mp nH y hy
  rw [e] at z
  simpa using z
 have eG:∀ x c,(dP X.env.cells scope.names []).lookup x=some c->X.env.cells.lookup x=some c:=jP (fun x c q=>by simp at q)
 have qN:∀ x,scope.names.lookup x=some .free->∃ c,(dP X.env.cells scope.names []).lookup x=some c:=fun x hx=>by
  have hm:=PySem.mem_of_lookup hx
  exact aaU.mp (jQ (.inr ⟨hm,Ko _ hm rfl⟩))
 refine wpAny_call (codeAny_mono (show codeAny _ _ _ (CR D6 X.stack X.prog X.w H s Q E0) s from ?_) fun r s' hq=>?_)
 ·refine kla_callFunE Hf ho rfl K8 xC rfl xb ?_
  rw [jV]
  refine aaV (wpAny_newFunctionEnv eC (fun y hy=>by rw [aa2.mp hy];exact tH) (fun h₁ xD FR=>⟨I.nolimit.fresh _ FR,?_⟩) hk)
  show codeAny _ _ (.expr body (envX qual scope s.heap.objs.size f (.ref c') (dP X.env.cells scope.names []))) _ _
  have old:∀ b o,s.heap.get? b=some o->h₁.get? b=some o:=fun b o e=>FR.extBut b o (abw (aaJ e)) (aaG _ e)
  have J:Inv (DC X A (p::fns) qual scope f (.ref c') s H) [] (some x::pick ixs σ) H { s with heap:=h₁,toks:=s.toks+[(p,u)].length }:=by
   refine⟨⟨I.ok.mod,hk,rfl,rfl,aaM _,fun x y c q1 q2=>I.ok.inj x y c (eG x c q1) (eG y c q2),fun x hx=>?_,fun x c hf _=>absurd hf Bool.false_ne_true,fun _=>hd,Around.frames_deeper Pb,.inr ⟨rfl,rfl⟩,fun b hb=>(nomatch hb),I.bs,aaL I.ok.Bf I.sz,fun b _ _ hb=>(nomatch hb),fun b hb=>(nomatch hb),I.stack,I.kD⟩,
    rfl,I.bare,Un.kept old,⟨_,xD,fun i y v h1 h2 h3=>?_⟩,fun x c q=>?_,I.bc.fresh (aaM _),fun x c q=>I.fO x c (eG x c q),fun p hp=>(nomatch hp),I.bc.kept old,?_⟩
   ·rcases hx with hx|hx
    ·exact absurd rfl (eC _ (PySem.mem_of_lookup hx))
    ·exact qN x hx
   ·match i with
    | 0 =>
     have e1:p=y:=by simpa using h1
     have e2:x=v:=by simpa using h2
     subst e1
     subst e2
     exact⟨u,r,.inl ⟨tH,by simp⟩⟩
    | i+1 =>
     obtain ⟨j,e1,e2⟩:=sY (show (pick ixs σ)[i]?=some (some v) by simpa using h2)
     obtain ⟨a1,a2,a3,a4⟩:=BA.get (show fns[i]?=some y by simpa using h1) e1
     obtain ⟨mX,hnX,Sd⟩:=I.loc
     obtain ⟨u',ru,l⟩:=Sd j y v a1 e2 a2
     refine⟨u',ru,?_⟩
     rcases l with ⟨l1,_⟩|⟨_,c,lc,z⟩
     ·have Se:X.env.scope.names.lookup y=some .local:=l1
      rw [Se] at a3
      exact absurd a3 (by decide)
     ·obtain ⟨c',FJ⟩:=qN y a4
      have ec:=eG y c' FJ
      rw [lc] at ec
      have Sf:c=c':=aaO ec
      subst Sf
      exact .inr ⟨.inr a4,c,FJ,z.keeps old⟩
   ·obtain ⟨v,z⟩:=I.cell x c (eG x c q)
    exact⟨v,z.keeps old⟩
   ·show (some x::pick ixs σ).length=(p::fns).length
    unfold pick
    rw [length_cons,aa5,length_cons,BA.len]
  refine kla_codeExpr (aaW (he [] _ _ H Q J h) (fun v s' hv=>?_) fun _ _ no=>no.elim)
  obtain ⟨y,H',J',rv,q⟩:=hv
  exact⟨y,H',J'.os,J'.bare,J'.base,J'.bc,rv,q⟩
 ·cases r with
  | error e=>exact hq
  | ok fl =>
   cases fl with
   | ret u=>exact I.after hq
   | next=>exact False.elim hq
   | brk=>exact False.elim hq
   | cont=>exact False.elim hq
end
end L2
namespace L2
open PySem PySem.Spec PyProof.Rows PySem.W
def dv(P:Addr)(H H':Hp):Prop:=∀ b o,b≠P->H b=some o->H' b=some o
def nU(c:Addr)(q:Str):HO:=.ext fun h=>h.CodeRec (.ref c) q
def gx(P:Addr)(lp:Pos)(q:Str)(H:Hp):Prop:=∃ ps:Array Value,H P=some (.sG ps)/\TriplesOk ps.toList/\(codeAmong lp ps.toList=none\/∃ c,codeAmong lp ps.toList=some (.ref c)/\H c=some (nU c q))
theorem dv.trans{P:Addr}{H H1 H2:Hp}(a:dv P H H1)(b:dv P H1 H2):dv P H H2:=fun x o n e=>b x o n (a x o n e)
theorem dv.of{P:Addr}{H H1:Hp}(a:ai H H1):dv P H H1:=fun x o _ e=>a x o e
theorem gx.same{P:Addr}{lp:Pos}{q:Str}{H H':Hp}(t:gx P lp q H)(s:ai H H'):gx P lp q H':=by
 obtain ⟨ps,h1,h2,h3⟩:=t
 refine⟨ps,s _ _ h1,h2,h3.imp id fun ⟨c,e,z⟩=>⟨c,e,s _ _ z⟩⟩
def pH(f c:Addr)(qual:Str)(params:Arguments)(body:Expr)(scope:Scope)(cl:List (Str×Addr)):HO :=
 .ext fun h=>∃ pm pG,h.get? f=some (kla_obj "<lambda>" qual params body scope cl pm c pG)
section
variable {X:Cx}{pins:List (Addr×Obj)}{σ:St}{H:Hp}{s:Shared}
theorem z7 {c P:Addr} {params:Arguments} {body:Expr} {scope:Scope} {lp:Pos} {Q:VK} (I:Inv X pins σ H s) (T:gx P lp (X.env.qual ++ "<lambda>") H)
  (qR:X.env.code=.ref c) (C:CodeHd X.base c P) (hB:X.base.BuiltinsAt X.mg P) (BU:defaultsOf params X.env=([],[]))
  (nH:(scope.names.all fun y=>!(y.2 == NameKind.free) || (X.env.cells.lookup y.1).isSome)=true)
  (h:∀ f c' H',dv P H H'->gx P lp (X.env.qual ++ "<lambda>") H'->H' f=some (pH f c' (X.env.qual ++ "<lambda>") params body scope (dP X.env.cells scope.names []))->H' c'=some (nU c' (X.env.qual ++ "<lambda>"))->Q (.ref f) H') :
  wpAny (model X.prog X.w) X.A (eval (.Lambda params body scope lp) X.env) (EP X pins σ Q) X.xe s:=by
 have Gz:∀ p∈scope.names,p.2=.free->∃ c,X.env.cells.lookup p.1=some c:=fun y hy e=>by
  have z:=all_eq_true.mp nH y hy
  rw [e] at z
  exact aaU.mp (by simpa using z)
 have tj:=lQ Gz
 obtain ⟨ps,hP,ht,hc⟩:=T
 have oP:s.heap.get? P=some (tabObj ps):=I.bc P _ hP
 have Tx:s.heap.Ns mainGlobals X.mg:=I.mod.glob.keeps I.bk
 have hB':s.heap.BuiltinsAt X.mg P:=by
  obtain ⟨bm,ob,b1,b2,b3,b4,b5,b6⟩:=hB
  exact⟨bm,ob,b1,b2,b3,b4,I.bk _ _ b5,b6⟩
 have Tz:∀ {h2:Heap} {f c':Addr} {pm pG:Value} {sc:Scope} {q:Str} {cl:List (Str×Addr)},h2.get? f=some (kla_obj "<lambda>" q params body sc cl pm c' pG)->∀ {H2:Hp},d3 X.prog X.w H2 h2 f (pH f c' q params body sc cl):=fun {h2 f c' pm pG sc q cl} e {H2} =>
  ⟨⟨pm,pG,e⟩,⟨_,e⟩,fun h1 h3 ⟨pm,pG,z⟩ k=>⟨pm,pG,k _ z⟩⟩
 refine kla_eval BU ?_
 rcases hc with hn|⟨c',hc,RH⟩
 ·have hgP:mainGlobals≠P:=fun q=>by
   obtain ⟨o,es,ep,e,hd,_⟩:=Tx
   rw [q,oP] at e;cases e;cases hd
  refine kla_makeFunction (mg:=X.mg) tj I.ok.glob Tx qR (C.keeps I.bk) oP ht hn hgP hB' fun c' pG h' tk hx Ky lV XJ htb=>?_
  obtain ⟨ob,Q6⟩:∃ ob:Obj,ob=kla_obj "<lambda>" (X.env.qual ++ "<lambda>") params body scope (dP X.env.cells scope.names []) ((X.mg "__name__").getD .none) c' pG:=⟨_,rfl⟩
  have XN:ob.isFreed=false:=by rw [Q6];rfl
  have VF:=aaK h' XN
  rw [<- Q6]
  have big:s.heap.objs.size<=h'.objs.size:=aaL Ky (aaN lV)
  have ncP:c'≠P:=Nat.ne_of_gt (Nat.lt_of_lt_of_le (aaJ oP) Ky)
  have nfP:h'.objs.size≠P:=Nat.ne_of_gt (Nat.lt_of_lt_of_le (aaJ oP) big)
  have ncf:c'≠h'.objs.size:=abw lV
  have old:∀ b o,b≠P->s.heap.get? b=some o->(h'.push ob).get? b=some o:=fun b o n e=>aaG _ (hx b o n e)
  have fc:H c'=none:=I.bc.fresh Ky
  have ff:H h'.objs.size=none:=I.bc.fresh big
  have sP:dv P H (upd (upd (upd H P (.sG (ps++#[rawInt lp.line,rawInt lp.col,.ref c']))) c' (nU c' (X.env.qual ++ "<lambda>"))) h'.objs.size (pH h'.objs.size c' (X.env.qual ++ "<lambda>") params body scope (dP X.env.cells scope.names []))):=fun b o n e=>by
   rw [ax (bf e ff),ax (bf e fc),ax n]
   exact e
  generalize TB:upd (upd (upd H P (.sG (ps++#[rawInt lp.line,rawInt lp.col,.ref c']))) c' (nU c' (X.env.qual ++ "<lambda>"))) h'.objs.size (pH h'.objs.size c' (X.env.qual ++ "<lambda>") params body scope (dP X.env.cells scope.names []))=H' at sP
  have eP:H' P=some (.sG (ps++#[rawInt lp.line,rawInt lp.col,.ref c'])):=by rw [<- TB,ax (Ne.symm nfP),ax (Ne.symm ncP),av]
  have ec:H' c'=some (nU c' (X.env.qual ++ "<lambda>")):=by rw [<- TB,ax ncf,av]
  have ef:H' h'.objs.size=some (pH h'.objs.size c' (X.env.qual ++ "<lambda>") params body scope (dP X.env.cells scope.names [])):=by rw [<- TB,av]
  have no:∀ b,H b=none->b≠h'.objs.size->b≠c'->H' b=none:=fun b n n1 n2=>by
   rw [<- TB,ax n1,ax n2,ax (fun z=>by rw [z,hP] at n;cases n)]
   exact n
  have un:Un X.fs [] H H' s.heap (h'.push ob):=by
   refine⟨fun b o e n _ _=>old b o (fun z=>by rw [z,hP] at n;cases n) e,fun b o e n _ _=>⟨o.slots,old b o (fun z=>by rw [z,hP] at n;cases n) e⟩,fun b o e n _=>no b n (fun z=>?_) (fun z=>?_),fun b o e _=>?_,fun b xs e=>sP b _ (fun z=>by rw [z,hP] at e;cases e) e,fun b o u e=>sP b _ (fun z=>by rw [z,hP] at e;cases e) e,fun b qs e=>?_⟩
   ·exact absurd z (abw (Nat.lt_of_lt_of_le (aaJ e) big))
   ·exact absurd z (abw (Nat.lt_of_lt_of_le (aaJ e) Ky))
   ·by_cases hb:b=P
    ·subst hb
     exact⟨_,aaG _ htb⟩
    ·exact⟨o,old b o hb e⟩
   ·by_cases hb:b=P
    ·subst hb
     rw [hP] at e
     cases e
     exact⟨_,eP⟩
    ·exact⟨#[],by rw [sP b _ hb e];simp⟩
  have bc:gW X.prog X.w H' (h'.push ob):=fun b o e=>by
   by_cases h1:b=h'.objs.size
   ·subst h1
    rw [ef] at e
    cases e
    exact Tz (by rw [VF,Q6])
   ·by_cases h2:b=c'
    ·subst h2
     rw [ec] at e
     cases e
     obtain ⟨c2,oc,vs,t,e2,RG,hd,hv⟩:=XJ
     cases e2
     exact⟨⟨_,oc,vs,t,rfl,aaG _ RG,hd,hv⟩,⟨oc,aaG _ RG⟩,fun h1 h2 ⟨c3,o3,v3,t3,z1,z2,z3,z4⟩ k=>⟨c3,o3,v3,t3,z1,by cases z1;exact k _ z2,z3,z4⟩⟩
    ·by_cases h3:b=P
     ·subst h3
      rw [eP] at e
      cases e
      exact aaG _ htb
     ·have e0:H b=some o:=by rw [<- TB,ax h1,ax h2,ax h3] at e;exact e
      refine (I.bc b o e0).qX (fun d u hd z=>old d u (fun w=>?_) z) (fun d z=>sP d _ (fun w=>by rw [w,hP] at z;cases z) z) fun d xs z=>sP d _ (fun w=>by rw [w,hP] at z;cases z) z
      rcases hd with rfl|hd
      ·exact h3 w
      ·rw [w,hP] at hd;cases hd
  refine⟨.ref h'.objs.size,H',I.un un bc,rfl,h _ c' H' sP ⟨_,eP,?_,.inr ⟨c',?_,ec⟩⟩ ef ec⟩
  ·rw [Array.toList_append]
   exact TriplesOk_snoc _ _ _ _ ht
  ·rw [Array.toList_append]
   exact codeAmong_snoc _ ht hn
 ·refine kla_makeFunctionHit (mg:=X.mg) tj I.ok.glob Tx qR (C.keeps I.bk) oP ht hc hB' fun pG h' tk hk wj=>?_
  obtain ⟨ob,Q6⟩:∃ ob:Obj,ob=kla_obj "<lambda>" (X.env.qual ++ "<lambda>") params body scope (dP X.env.cells scope.names []) ((X.mg "__name__").getD .none) c' pG:=⟨_,rfl⟩
  have XN:ob.isFreed=false:=by rw [Q6];rfl
  have VF:=aaK h' XN
  have ff:H h'.objs.size=none:=I.bc.fresh wj
  have sm:ai H (upd H h'.objs.size (pH h'.objs.size c' (X.env.qual ++ "<lambda>") params body scope (dP X.env.cells scope.names []))):=ai.bC ff
  refine⟨.ref h'.objs.size,upd H h'.objs.size (pH h'.objs.size c' (X.env.qual ++ "<lambda>") params body scope (dP X.env.cells scope.names [])),I.laid (fun b u e=>aaG _ (hk b u e)) wj (Tz (by rw [Q6] at VF;exact VF)),rfl,h _ c' _ (dv.of sm) (gx.same ⟨ps,hP,ht,.inr ⟨c',hc,RH⟩⟩ sm) av (sm _ _ RH)⟩
end
end L2
namespace L2
open PySem PySem.Spec PyProof.Rows PySem.W
section
variable {K:Frag}{H H':Hp}{P a:Addr}{lp:Pos}{q:Str}{xs:List V}
theorem gx.at(t:gx P lp q H):∃ ps,H P=some (.sG ps):=let ⟨ps,h,_⟩:=t;⟨ps,h⟩
theorem dv.seq(s:dv P H H')(t:gx P lp q H)(h:aR K H a xs):aR K H' a xs:=by
 obtain ⟨ps,hP⟩:=t.at
 exact h.imp (fun z=>z.imp (fun e=>s _ _ (fun w=>by rw [w,hP] at e;cases e) e) fun ⟨o,e⟩=>⟨o,s _ _ (fun w=>by rw [w,hP] at e;cases e) e⟩) id
end
def lZ(K:Frag)(P:Addr)(lp:Pos)(q:Str)(ixs:List (Option Nat))(te:TE)(σ:St):V->Hp->VK->Prop:=fun x H Q=>∃ (l:Addr) (xs:List V) (kz:List Int),x=.ref l/\aR K H l xs/\kz.length=xs.length/\xs.length<64/\gx P lp q H /\
 (∀ (i:Nat) (x:V) (n:Int),xs[i]?=some x->kz[i]?=some n->∀ H',dv P H H'->te (some x::pick ixs σ) H' (fun v K7=>v=.int n/\ai H' K7)) /\
 ∀ p H' ys,dv P H H'->gx P lp q H'->H' p=some (.lst ys)->eZ false kz xs ys->Q (.ref p) H'
def BV(K:Frag)(P:Addr)(lp:Pos)(q:Str)(ixs:List (Option Nat))(te:TE)(t:TE):TE:=fun σ H Q=>t σ H fun x H1=>lZ K P lp q ixs te σ x H1 Q
section
variable {X:Cx}{k:Nat}{q y:Str}{fns:List Str}{ixs:List (Option Nat)}{params:Arguments}{body:Expr}{scope:Scope}{p lp Gi pos:Pos}{e:Expr}{t te:TE}{c P:Addr}
theorem Hg (hq:X.env.qual ++ "<lambda>"=q) (hr:c9 (k+2) X.A) (ha:PE X e t) (qR:X.env.code=.ref c) (C:CodeHd X.base c P) (hB:X.base.BuiltinsAt X.mg P)
  (jV:∀ (cl:List (Str×Addr)) (pm pG:Value) (c':Addr) (u:Value),bindArgs (kla_fn "<lambda>" q params body scope cl pm (.ref c') pG) ⟨[u],[]⟩=pure [(y,u)])
  (he:∀ f c' s H,PE (DC X X.A.in1.in1 (y::fns) q scope f (.ref c') s H) body te)
  (tH:scope.names.lookup y=some .local) (K8:scope.isCoroutine=false) (xC:scope.isGenerator=false) (hk:scope.kind=.function) (eC:∀ y∈scope.names,y.2≠.cell)
  (nH:(scope.names.all fun y=>!(y.2 == NameKind.free) || (X.env.cells.lookup y.1).isSome)=true) (BA:lU X scope fns ixs) (BU:defaultsOf params X.env=([],[]))
  (hg:Gl X (Str.ofString "sorted")) (hm:X.mg "sorted"=none) (hv:bootBuiltins "sorted"=some (.builtin "sorted"))
  (lO:starEach [e] X.env=(false,eval e X.env)::starEach [] X.env:=by rfl) :
  PE X (.Call (.Name "sorted" p) [e] [⟨some (Str.ofString "key"),.Lambda params body scope lp,Gi⟩] pos) (BV X.K P lp q ixs te t):=by
 subst hq
 intro pins s σ H Q I h
 refine wpAny_Call_Name_kw (fv I hg hm hv ?_ (by decide) (by decide))
 have Tw:PA X [e] (qK t zk):=aa ha af lO
 have XO:PE X (.Lambda params body scope lp) (fun _ H Q=>gx P lp (X.env.qual ++ "<lambda>") H/\∀ f c' H',dv P H H'->gx P lp (X.env.qual ++ "<lambda>") H'->H' f=some (pH f c' (X.env.qual ++ "<lambda>") params body scope (dP X.env.cells scope.names []))->H' c'=some (nU c' (X.env.qual ++ "<lambda>"))->Q (.ref f) H') :=
  fun pins s σ H Q I h=>z7 I h.1 qR C hB BU nH h.2
 have jK:PK X [⟨some (Str.ofString "key"),.Lambda params body scope lp,Gi⟩] (qK _ zk):=Kb XO NU
 refine callWith_kw (c6 (Tw pos pins s σ H (fun vs H1=>∃ x,vs=[x]/\lZ X.K P lp (X.env.qual ++ "<lambda>") ixs te σ x H1 Q) I ?_) fun us s1 ⟨vs,H1,I1,r,x,ev,q⟩=>?_) (by rw [lO];rfl) (by rw [lO];rfl) rfl rfl
 ·show t σ H fun x H1=>∃ z,[x]=[z]/\lZ X.K P lp (X.env.qual ++ "<lambda>") ixs te σ z H1 Q
  have e:(fun (x:V) (H1:Hp)=>∃ z,[x]=[z]/\lZ X.K P lp (X.env.qual ++ "<lambda>") ixs te σ z H1 Q)=fun x H1=>lZ X.K P lp (X.env.qual ++ "<lambda>") ixs te σ x H1 Q:=by
   funext x H1
   apply propext
   exact⟨fun ⟨z,e,q⟩=>by cases e;exact q,fun q=>⟨x,rfl,q⟩⟩
  rw [e]
  exact h
 ·subst ev
  obtain ⟨u,rfl,ru⟩:=vals1 r
  obtain ⟨l,xs,kz,rfl,hs,h1,h2,tb,turn,hQ⟩:=q
  refine c6 (jK pos pins s1 σ H1 (fun zs H2=>∃ f c',zs=[V.ref f]/\dv P H1 H2/\gx P lp (X.env.qual ++ "<lambda>") H2/\H2 f=some (pH f c' (X.env.qual ++ "<lambda>") params body scope (dP X.env.cells scope.names []))/\H2 c'=some (nU c' (X.env.qual ++ "<lambda>"))) I1 ⟨tb,fun f c' H' a1 a2 a3 a4=>⟨f,c',rfl,a1,a2,a3,a4⟩⟩) fun ws s2 ⟨zs,H2,I2,rz,f,c',ez,sT,tT,ef,ec⟩=>?_
  subst ez
  obtain ⟨w,rfl,rw_⟩:=vals1 rz
  cases rw_
  cases ru
  refine ve (kz:=kz) (xs:=xs) (fun gk H' s' i x u n _ hx hn sm rx I'=>?_) I2 (sT.seq tb hs) h1 h2 fun p H' ys sm hp so=>hQ p H' ys (sT.trans (dv.of sm)) (tT.same sm) hp so
  obtain ⟨⟨pm,pG,eo⟩,_⟩:=I'.bc f _ (sm _ _ ef)
  obtain ⟨eco,_⟩:=I'.bc c' _ (sm _ _ ec)
  exact He I' (c9.in1 (c9.in1 hr)).hd I'.ok.frames (by have:=(c9.in1 (c9.in1 hr)).dp;lia) eo eco (jV _ _ _ _ _) tH K8 xC hk eC nH BA (he _ _ _ _) rx (turn i x n hx hn H' (sT.trans (dv.of sm)))
variable {K:Frag}
theorem Ey (K:Frag) (hK:X.K=K) (hq:X.env.qual ++ "<lambda>"=q) (hr:c9 (k+2) X.A) (ha:PE X e t) (qR:X.env.code=.ref c) (C:CodeHd X.base c P) (hB:X.base.BuiltinsAt X.mg P)
  (jV:∀ (cl:List (Str×Addr)) (pm pG:Value) (c':Addr) (u:Value),bindArgs (kla_fn "<lambda>" q params body scope cl pm (.ref c') pG) ⟨[u],[]⟩=pure [(y,u)])
  (he:∀ f c' s H,PE (DC X X.A.in1.in1 (y::fns) q scope f (.ref c') s H) body te)
  (tH:scope.names.lookup y=some .local) (K8:scope.isCoroutine=false) (xC:scope.isGenerator=false) (hk:scope.kind=.function) (eC:∀ y∈scope.names,y.2≠.cell)
  (nH:(scope.names.all fun y=>!(y.2 == NameKind.free) || (X.env.cells.lookup y.1).isSome)=true) (BA:lU X scope fns ixs) (BU:defaultsOf params X.env=([],[]))
  (hg:Gl X (Str.ofString "sorted")) (hm:X.mg "sorted"=none) (hv:bootBuiltins "sorted"=some (.builtin "sorted"))
  (lO:starEach [e] X.env=(false,eval e X.env)::starEach [] X.env:=by rfl) :
  PE X (.Call (.Name "sorted" p) [e] [⟨some (Str.ofString "key"),.Lambda params body scope lp,Gi⟩] pos) (BV K P lp q ixs te t):=by
 subst hK
 exact Hg hq hr ha qR C hB jV he tH K8 xC hk eC nH BA BU hg hm hv lO
end
section
variable {K:Frag}{H:Hp}{Q:VK}{σ:St}{P:Addr}{lp:Pos}{q:Str}{ixs:List (Option Nat)}{te:TE}
theorem K9{t:TE}(h:t σ H fun x H1=>lZ K P lp q ixs te σ x H1 Q):BV K P lp q ixs te t σ H Q:=h
theorem Hh{l:Addr}{xs:List V}(kz:List Int)(tb:gx P lp q H)(hs:aR K H l xs)(h1:kz.length=xs.length)(h2:xs.length<64)
  (turn:∀ (i:Nat) (x:V) (n:Int),xs[i]?=some x->kz[i]?=some n->∀ H',dv P H H'->te (some x::pick ixs σ) H' (fun v K7=>v=.int n/\ai H' K7))
  (k:∀ p H' ys,dv P H H'->gx P lp q H'->H' p=some (.lst ys)->eZ false kz xs ys->Q (.ref p) H'):lZ K P lp q ixs te σ (.ref l) H Q:=⟨l,xs,kz,rfl,hs,h1,h2,tb,turn,k⟩
end
end L2
namespace L2
open PySem PySem.Spec PyProof.Rows PySem.W
def Hi(tabs:List (Addr×Addr))(H:Hp):Prop:=∀ q∈tabs,H q.2=some (.sG #[])
def z9(K:Frag)(mg:Str->Option Value)(x:Str)(st:Stmt)(ps:List Str)(c:Addr):Prop :=
 ∃ (f:Addr) (fd:FuncData) (oc:Value) (od:Option Addr) (kV doc pm:Value) (an:Option Addr) (ct:Value) (Gj:Array (Option Value)),fd=fnOf x x (cI st) (bN st) (aq st) .none kV doc pm an (.ref c) ct/\K.lookup f=some ⟨oc,od,.func fd,Gj⟩/\codeIn K (.ref c) x=true/\keepIn K (.ref f)=true/\mg x=some (.ref f)/\Binds K fd ps []
section
variable {Pr:Program}{w:World}{K:Frag}{mg:Str->Option Value}{base:Heap}
theorem z9.ok{x:Str}{st:Stmt}{N ps:List Str}{k:Nat}{sp:Sp}{c:Addr}(D:z9 K mg x st ps c)(S:aF N ps (aq st))(len:∀ vs H Q E,sp vs H Q E->vs.length=ps.length)
  (nD:∀ (f:Addr) (A:Around) (outer:List Env) (s:Shared) (H:Hp) (vs:List V) (Q:VK) (E:XK),c9 k (A.deeper (envOfC x (aq st) s.heap.objs.size f (.ref c)))->sp vs H Q E ->
   ∃ t,Ba (xh D6 Pr w K mg base N x (aq st) f (.ref c) A outer s H E).Ju (bN st) t/\t { nx:=fun _ H'=>Q .dz H',rt:=Q } (start N vs) H):Ok Pr w K mg base (k+1) x ps sp:=by
 obtain ⟨f,fd,oc,od,kV,doc,pm,an,ct,Gj,rfl,lk,xb,hkp,hm,hb⟩:=D
 refine⟨f,_,Mv lk xb S len fun A outer s H vs Q E hr Mw=>?_,hm,hkp,hb⟩
 obtain ⟨t,h,q⟩:=nD f A outer s H vs Q E hr Mw
 exact⟨t,h.Ju,q⟩
end
end L2
namespace L2
open PySem PySem.Spec PyProof.Rows PySem.W
def eD(K:Frag)(y:Str):Addr:=((tabIn K y).getD (0,0)).2
theorem xE{K:Frag}{y:Str}{c P:Addr}(h:tabIn K y=some (c,P)):eD K y=P:=by unfold eD;rw [h];rfl
open PySem PySem.Spec PyProof.Rows
def Q7(hi:Int)(n:Nat):It:=⟨fun i _=>i<n,fun i H x H'=>H'=H/\x=.int (hi - i),fun i _=>n<=i⟩
theorem wM{P:Program}{w:World}{K:Frag}{tg:Expr}(it:Addr)(hi:Int)(n:Nat):Turn P w K tg (Q7 hi n) [it] it (fun i h=>IsRangeIter h it (hi+(i:Nat)*(-1)) ((n:Int) - (i:Nat)) (-1)) where
 mem:=by simp
 obj:=fun i h st b hb=>by
  obtain rfl:b=it:=by simpa using hb
  exact⟨_,st,fun v z=>nomatch (show Data.fields _=Data.cell v from z)⟩
 keep:=fun i h h' st k=>k it (by simp) _ st
 item:=by
  intro X hP hw hK hc i pins s σ H E I hf st hg
  subst hP hw hK
  obtain ⟨f0,f1,f2,f3,f4,f5⟩:=hf it (by simp)
  have WD:=Walks.range (prog:=X.prog) (w:=X.w) (I.ok.hd hc) it hi (-1) n
  refine WD.item i s _ _ hg st fun v h' tk hv F7 kk=>?_
  obtain ⟨t,rfl⟩:=hv
  have ID:Inv X pins σ H { s with heap:=h',toks:=tk }:=I.turned (fun b o hb e=>kk b o (by simpa using hb) e) f0 f1 f3 f4 f5
  refine⟨_,rfl,C7 (s:={ s with heap:=h',toks:=tk }) (n:="range_iterator") F7 rfl rfl (by decide) ⟨.int (hi - i),H,ID,⟨t,?_⟩,⟨rfl,rfl⟩,F7,fun b hb=>(hf b hb).1⟩⟩
  rw [show hi+(i:Int)*(-1)=hi - i by lia]
 done:=by
  intro X hP hw hK hc i pins s σ H E I hf st hg
  subst hP hw hK
  obtain ⟨f0,f1,f2,f3,f4,f5⟩:=hf it (by simp)
  exact wpAny_pyNext_range_end (I.ok.hd hc) st (by have BW:n<=i:=hg;lia) fun h' eb=>⟨rfl,I.turned (t':=s.toks) (fun b o hb e=>eb b o hb e) f0 f1 f3 f4 f5⟩
 self:=fun _ _ _ _ _ st h=>wpAny_pyIter_rangeiter st h
theorem wN(a b:Int):Builtin.Range.rangeSize a b (-1)=if b<a then a - b else 0:=by
 unfold Builtin.Range.rangeSize
 simp only [show ¬ ((-1:Int) > 0) by decide,if_false,Int.neg_neg,Int.ediv_one]
 split <;> lia
theorem small_down{a b:Int}(ha:-1000000<=a/\a<=1000000)(hb:-1000000<=b/\b<=1000000):Builtin.Range.small a b (-1)=true:=by
 unfold Builtin.Range.small
 rw [wN]
 simp only [Builtin.Range.rangeFitsLong,Bool.and_eq_true,Bool.or_eq_true,decide_eq_true_eq,beq_iff_eq,show ¬ ((-1:Int) > 0) by decide,if_false]
 split <;> lia
section
variable {X:Cx}{tg:Expr}
def Pc:List V->Hp->(It->Hp->Prop)->Prop:=fun vs H R=>∃ i j:Int,vs=[.int i,.int j,.int (-1)]/\(-1000000<=i/\i<=1000000)/\(-1000000<=j/\j<=1000000)/\R (Q7 i (i - j).toNat) H
def MS(ta:TA):TI:=fun σ H R=>ta σ H fun vs H1=>Pc vs H1 R
theorem Ez {a b c:Expr} {ta:TA} {p pos:Pos} (hg:Gl X "range") (hm:X.mg "range"=none) (ha:PA X [a,b,c] ta) (hs:starEach [a,b,c] X.env=[(false,eval a X.env),(false,eval b X.env),(false,eval c X.env)]:=by rfl) (fu:starEach [b,c] X.env=[(false,eval b X.env),(false,eval c X.env)]:=by rfl) :
  PI X tg (.Call (.Name "range" p) [a,b,c] [] pos) (MS ta):=by
 intro pins s σ H R I h
 refine Call_ (fv I hg hm boot_range (callWith_type1 (c6 (ha pos pins s σ H _ I h) fun us s1 ⟨vs,H1,I1,r1,q1⟩=>?_) (by rw [hs,fu]) (by rw [fu];rfl)))
 obtain ⟨i,j,e,hi,hj,q⟩:=q1
 subst e
 cases r1 with
 | cons r rr =>
  cases rr with
  | cons r' rr =>
   cases rr with
   | cons r'' rr =>
    cases rr
    obtain ⟨t,rfl⟩:=r
    obtain ⟨t',rfl⟩:=r'
    obtain ⟨VG,rfl⟩:=r''
    refine call_range_3 (by decide) ?_ (Or.inl (PyProof.noPylong_of_log2 (by decide +kernel)))
    refine wpAny_pyIter_range (IsRange.new ..) (small_down hi hj) ?_
    have ID:Inv X pins σ H1 { s1 with heap:=s1.heap.push { cls:=.type "range",data:=.fields #[.int i t,.int j t',.int (-1) VG] },toks:=s1.toks }:=I1.kept fun b o e=>aaG _ e
    refine⟨(s1.heap.push { cls:=.type "range",data:=.fields #[.int i t,.int j t',.int (-1) VG] }).objs.size,[(s1.heap.push { cls:=.type "range",data:=.fields #[.int i t,.int j t',.int (-1) VG] }).objs.size],_,_,H1,rfl,
     ID.kept (t':=s1.toks) fun b o e=>aaG _ e,wM _ i (i - j).toNat,?_,fun b hb=>?_,q⟩
    ·have e1:i+((0:Nat):Int)*(-1)=i:=by simp
     have e2:(((i - j).toNat:Nat):Int) - ((0:Nat):Int)=Builtin.Range.rangeSize i j (-1):=by rw [wN];split <;> lia
     show IsRangeIter _ _ (i+((0:Nat):Int)*(-1)) ((((i - j).toNat:Nat):Int) - ((0:Nat):Int)) (-1)
     rw [e1,e2]
     exact aaK _ rfl
    ·obtain rfl:b=(s1.heap.push { cls:=.type "range",data:=.fields #[.int i t,.int j t',.int (-1) VG] }).objs.size:=by simpa using hb
     exact ID.u6 (aaM _) (ID.bc.fresh (aaM _))
end
section
variable {H:Hp}{σ:St}{R:It->Hp->Prop}
theorem La{ts:TA}(h:ts σ H fun vs H1=>Pc vs H1 R):MS ts σ H R:=h
theorem Pd{i j:Int}(h1:-1000000<=i/\i<=1000000)(h2:-1000000<=j/\j<=1000000)(h:R (Q7 i (i - j).toNat) H):Pc [.int i,.int j,.int (-1)] H R:=⟨i,j,rfl,h1,h2,h⟩
variable {g:TG}{D:Ends}
theorem Hj{hi:Int}{n:Nat}{tb:TS}(Pv:Nat->St->Hp->Prop)(h0:Pv 0 σ H)(hs:∀ i σ H2,i<n->Pv i σ H2->g (.int (hi - i)) σ H2 fun σ2 H4=>tb { D with nx:=Pv (i+1),ct:=Pv (i+1),bk:=D.nx } σ2 H4)(hd:∀ σ H2,Pv n σ H2->D.nx σ H2):hU g tb D (Q7 hi n) σ H:=by
 refine wJ n Pv h0 (fun i σ H2 hi _=>hi) (fun σ H2 _=>aaM _) (fun i x σ H2 H3 hi p y=>?_) hd
 obtain ⟨rfl,rfl⟩:=y
 exact hs i σ _ hi p
end
theorem Aa{α:Type}{rs:List α}{f:α->Bool}{i:Nat}{r:α}(h:rs[i]?=some r):(rs.take (i+1)).filter f=(rs.take i).filter f++(if f r then [r] else []):=by
 rw [take_add_one,h,filter_append]
 cases e:f r <;> simp [e]
theorem EA{α β:Type}{rs:List α}{g:α->β}{i:Nat}{r:α}(h:rs[i]?=some r):(rs.take (i+1)).map g=(rs.take i).map g++[g r]:=by
 rw [take_add_one,h,abo]
 rfl
section
variable {K:Frag}{H:Hp}{σ:St}{Q:VK}{ix:List (Option Nat)}{l:Addr}{xs:List V}{rs:List (List Int)}
theorem fK{tt:TT}{te:TE}(fr:St)(f:List Int->Bool)(jK:pick ix σ=none::fr)(hl:aR K H l xs)(hr:aZ K H xs rs)(hn:rs.length<=1000)
  (test:∀ (a:Addr) (r:List Int) (H':Hp) (Qt:Bool->Hp->Prop),r∈rs->ai H H'->aN K H' a (r.map V.int)->(∀ H5,ai H' H5->Qt (f r) H5)->tt (some (.ref a)::fr) H' Qt)
  (elt:∀ (a:Addr) (H':Hp) (Qc:VK),ai H H'->Qc (.ref a) H'->te (some (.ref a)::fr) H' Qc)
  (hQ:∀ l2 H' ys,H l2=none->ai H H'->H' l2=some (.lst ys)->aZ K H' ys (rs.filter f)->Q (.ref l2) H'):bP ix (bT 0) tt te σ Q (Jv K l) H:=by
 have hlen:=hr.length
 refine wK (K:=K) 1 fr rs.length (fun i=>(rs.take i).filter f) jK rfl (fun i=>aaL (aaX _ _) (aaL (List.length_take_le' _ _) hn)) (fun H' s=>⟨xs,s.seq hl,by lia⟩) (fun i H' hi s=>⟨xs,xs[i]'(by lia),s.seq hl,aaZ (by lia)⟩) (fun i x H' H2 own ho hi s hy Qy Qn ky kn=>?_) (fun l2 H' ys a b c d=>hQ l2 H' ys a b c (by rw [abk] at d;exact d))
 obtain ⟨o1,rfl⟩:∃ o1,own=[o1]:=by match own,ho with|[o1],_=>exact⟨o1,rfl⟩
 obtain ⟨rfl,e⟩:=hy
 obtain ⟨a,r,rfl,ha,rj⟩:=hr.get (e xs (s.seq hl))
 have lW:r∈rs:=by
  obtain ⟨h1,h2⟩:=aaI.mp rj
  rw [<- h2]
  exact abA h1
 have et:=Aa (f:=f) rj
 dsimp only [bT]
 refine test a r _ _ lW s (s.at ha) fun H5 s5=>?_
 cases ef:f r with
 | true =>
  rw [ef] at et
  rw [if_pos rfl]
  exact elt a H5 _ (s.trans s5) (ky [some (.ref a)] a r H5 rfl s5 ((s.trans s5).at ha) et)
 | false =>
  rw [ef] at et
  rw [if_neg (by decide)]
  exact kn [some (.ref a)] H5 rfl s5 (by rw [et];simp)
theorem md{te:TE}(fr:St)(g:List Int->List Int)(jK:pick ix σ=none::fr)(hl:aR K H l xs)(hr:aZ K H xs rs)(hn:rs.length<=1000)
  (elt:∀ (a:Addr) (r:List Int) (H':Hp) (Qc:VK),r∈rs->ai H H'->aN K H' a (r.map V.int)->(∀ p H5,ai H' H5->aN K H5 p ((g r).map V.int)->Qc (.ref p) H5)->te (some (.ref a)::fr) H' Qc)
  (hQ:∀ l2 H' ys,H l2=none->ai H H'->H' l2=some (.lst ys)->aZ K H' ys (rs.map g)->Q (.ref l2) H'):bP ix (bT 0) (fun _ H Q=>Q true H) te σ Q (Jv K l) H:=by
 have hlen:=hr.length
 refine wK (K:=K) 1 fr rs.length (fun i=>(rs.take i).map g) jK rfl (fun i=>by rw [aa5];exact aaL (List.length_take_le' _ _) hn) (fun H' s=>⟨xs,s.seq hl,by lia⟩) (fun i H' hi s=>⟨xs,xs[i]'(by lia),s.seq hl,aaZ (by lia)⟩) (fun i x H' H2 own ho hi s hy Qy Qn ky kn=>?_) (fun l2 H' ys a b c d=>hQ l2 H' ys a b c (by rw [abk] at d;exact d))
 obtain ⟨o1,rfl⟩:∃ o1,own=[o1]:=by match own,ho with|[o1],_=>exact⟨o1,rfl⟩
 obtain ⟨rfl,e⟩:=hy
 obtain ⟨a,r,rfl,ha,rj⟩:=hr.get (e xs (s.seq hl))
 have lW:r∈rs:=by
  obtain ⟨h1,h2⟩:=aaI.mp rj
  rw [<- h2]
  exact abA h1
 dsimp only [bT]
 rw [if_pos rfl]
 exact elt a r _ _ lW s (s.at ha) fun p H5 s5 hp=>ky [some (.ref a)] p (g r) H5 rfl s5 hp (EA rj)
end
end L2
namespace L2
open PySem PySem.Spec PyProof.Rows PySem.W
theorem aZ.Pe{K:Frag}{H:Hp}{xs:List V}{r:List Int}{rs:List (List Int)}(h:aZ K H xs (r::rs)):∃ a ys,xs=.ref a::ys/\aN K H a (r.map V.int)/\aZ K H ys rs:=by
 cases h with
 | cons h t=>exact⟨_,_,rfl,h,t⟩
open PySem PySem.Spec PyProof.Rows
theorem TC{i j:Nat}{ta:TA}{D:Ends}{σ:St}{H:Hp}(h:ta σ H fun vs H1=>∃ v w,vs=[v,w]/\D.nx ((σ.set i (some v)).set j (some w)) H1):RQ i j ta D σ H:=h
theorem TF{F:V->V->Prop}{x y:V}(h:F x y):∃ v w,[x,y]=[v,w]/\F v w:=⟨x,y,rfl,h⟩
theorem BX{K:Frag}{D:Ends}{σ:St}{H:Hp}{k:Bool}{a:Addr}{xs:List V}{m n:Nat}{tb:TS}(Pv:Nat->St->Hp->Prop)(h0:Pv 0 σ H)(ha:∀ i σ H2,Pv i σ H2->Sq k K H2 a xs)
  (hs:∀ (i:Nat) x σ H2 H3,xs[i]?=some x->Pv i σ H2->ai H2 H3->tb { D with nx:=Pv (i+1),ct:=Pv (i+1),bk:=D.nx } ((σ.set m (some (.int i))).set n (some x)) H3)
  (hd:∀ σ H2,Pv xs.length σ H2->D.nx σ H2):hU (qZ K 2 (d5 (bT m) (d5 (bT n) sR))) tb D (Q5 K k a) σ H:=by
 refine wJ xs.length Pv h0 (fun i σ H2 hi p=>⟨_,xs[i],ha i σ H2 p,aaZ hi⟩) (fun σ H2 p=>⟨_,ha _ σ H2 p,aaM _⟩) (fun i x σ H2 H3 hi p y=>?_) hd
 obtain ⟨q,x',rfl,hp,e1,rfl⟩:=y
 have g1:=e1 _ (ha i σ _ p)
 refine⟨q,_,rfl,aN.of av,rfl,_,_,rfl,_,_,rfl,rfl,?_⟩
 exact hs i x' σ _ _ g1 p (ai.bC hp)
theorem ai.new{a:Addr}{H H':Hp}(s:ai H H')(n:H' a=none):H a=none:=by
 match e:H a with
 | none=>rfl
 | some o =>
  rw [s a o e] at n
  cases n
section
variable {K:Frag}{H:Hp}{σ:St}{Q:VK}{ix:List (Option Nat)}
theorem cC{J:It}{g:TG}{tt:TT}{te:TE}(t:Nat)(fr:St)(n:Nat)(Pv:Addr->Nat->List V->Hp->Prop)(jK:pick ix σ=List.replicate t none++fr)
  (h0:∀ l H',H l=none->ai H H'->H' l=some (.lst [])->Pv l 0 [] H') (hn:∀ l i ys H',Pv l i ys H'->ys.length<=1000)
  (nK:∀ H',ai H H'->J.stop n H') (Kv:∀ i H',i<n->ai H H'->J.go i H')
  (step:∀ l i x H' H2 own ys,own.length=t->i<n->H l=none->ai H H'->H' l=some (.lst ys)->Pv l i ys H'->J.J0 i H' x H2->∀ (Qy:St->VK) (Qn:St->Hp->Prop),
   (∀ ie v H5,ie.length=t->ai H' H5->Pv l (i+1) (ys++[v]) (upd H5 l (.lst (ys++[v])))->Qy (ie++fr) v H5)->(∀ ie H4,ie.length=t->ai H' H4->Pv l (i+1) ys H4->Qn (ie++fr) H4) ->
   g x (own++fr) H2 fun σ2 H3=>tt σ2 H3 fun b H4=>if b=true then te σ2 H4 (Qy σ2) else Qn σ2 H4)
  (hQ:∀ l H' ys,H l=none->ai H H'->H' l=some (.lst ys)->Pv l n ys H'->Q (.ref l) H'):bP ix g tt te σ Q J H:=by
 intro l hl
 refine⟨fun i m σ1 ys H'=>m=n - i/\i<=n/\(∃ own:St,own.length=t/\σ1=own++fr)/\ai H H'/\H' l=some (.lst ys)/\Pv l i ys H',⟨n,by simp,abv _,⟨_,length_replicate,jK⟩,ai.bC hl,av,h0 l _ hl (ai.bC hl) av⟩,?_⟩
 rintro i m σ1 ys H' ⟨rfl,hi,⟨own,ho,rfl⟩,hs,dE,hp⟩
 refine⟨dE,?_⟩
 by_cases lV:i<n
 ·refine .inr ⟨Kv i H' lV hs,n - (i+1),by lia,fun x H2 hy=>step l i x H' H2 own ys ho lV hl hs dE hp hy _ _ (fun ie v H5 Bu s5 XQ=>?_) fun ie H4 Bu s4 Q8=>?_⟩
  ·have l5:=s5 _ _ dE
   refine⟨l5,abd (hn l i ys H' hp) (fD (aaM 1000)),rfl,lV,⟨ie,Bu,rfl⟩,fun b o e=>?_,av,XQ⟩
   rw [ax (bf e hl)]
   exact s5 _ _ (hs _ _ e)
  ·exact⟨rfl,lV,⟨ie,Bu,rfl⟩,hs.trans s4,s4 _ _ dE,Q8⟩
 ·obtain rfl:i=n:=by lia
  exact .inl ⟨nK H' hs,hQ l H' ys hl hs dE hp⟩
end
inductive cp(H:Hp):List V->List (List Int)->Prop where
 | nil:cp H [] []
 | cons {a:Addr} {r:List Int} {xs:List V} {rs:List (List Int)} (h:H a=some (.lst (r.map V.int))) (t:cp H xs rs):cp H (.ref a::xs) (r::rs)
namespace cp
variable {H H':Hp}
theorem length:∀ {xs:List V} {rs:List (List Int)},cp H xs rs->rs.length=xs.length
 | _,_,.nil=>rfl
 | _,_,.cons _ t=>by rw [length_cons,length_cons,t.length]
theorem get:∀ {xs:List V} {rs:List (List Int)} {i:Nat} {x:V},cp H xs rs->xs[i]?=some x->∃ a r,x=.ref a/\H a=some (.lst (r.map V.int))/\rs[i]?=some r
 | _,_,_,_,.nil,h=>by simp at h
 | _,_,0,_,.cons (a:=a) (r:=r) h _,e=>by
  simp at e
  exact⟨a,r,e.symm,h,rfl⟩
 | _,_,i+1,_,.cons _ t,e=>by
  obtain ⟨a,r,h1,h2,h3⟩:=get (i:=i) t (by simpa using e)
  exact⟨a,r,h1,h2,by simpa using h3⟩
theorem same:∀ {xs:List V} {rs:List (List Int)},cp H xs rs->ai H H'->cp H' xs rs
 | _,_,.nil,_=>.nil
 | _,_,.cons h t,s=>.cons (s _ _ h) (t.same s)
theorem append:∀ {xs ys:List V} {rs qs:List (List Int)},cp H xs rs->cp H ys qs->cp H (xs++ys) (rs++qs)
 | _,_,_,_,.nil,u=>u
 | _,_,_,_,.cons h t,u=>.cons h (t.append u)
theorem off{l:Addr}{o:HO}:∀ {xs:List V} {rs:List (List Int)},cp H xs rs->(∀ x∈xs,x≠.ref l)->cp (upd H l o) xs rs
 | _,_,.nil,_=>.nil
 | _,_,.cons (a:=a) h t,n=>.cons (by rw [ax (fun z=>n (.ref a) (.head _) (by rw [z]))];exact h) (t.off fun x hx=>n x (.tail _ hx))
end cp
section
variable {K:Frag}{H:Hp}{σ:St}{Q:VK}{ix:List (Option Nat)}{l:Addr}{xs:List V}{rs:List (List Int)}
theorem BY{tt:TT}{te:TE}{r:List Int}(fr:St)(f:Nat->Bool)(jK:pick ix σ=none::none::fr)(hl:aN K H l (r.map V.int))(hn:r.length<=1000)
  (XR:∀ (i:Nat) (H':Hp) (Qt:Bool->Hp->Prop),i<r.length->ai H H'->Qt (f i) H'->tt (some (.int i)::some (.int (r.getD i 0))::fr) H' Qt)
  (elt:∀ (i:Nat) (H':Hp) (Qc:VK),ai H H'->Qc (.int i) H'->te (some (.int i)::some (.int (r.getD i 0))::fr) H' Qc)
  (hQ:∀ l2 H',H l2=none->ai H H'->H' l2=some (.lst ((((List.range r.length).filter f).map fun (i:Nat)=>(i:Int)).map V.int))->Q (.ref l2) H'):bP ix (qZ K 2 (d5 (bT 0) (d5 (bT 1) sR))) tt te σ Q (Q5 K true l) H:=by
 refine cC 2 fr r.length (fun l i ys H'=>ys=(((List.range i).filter f).map fun (i:Nat)=>(i:Int)).map V.int/\i<=r.length) jK (fun l H' _ _ _=>⟨rfl,abv _⟩) (fun l i ys H' h=>by rw [h.1,aa5,aa5];exact aaL (aaX _ _) (by rw [abi];lia)) (fun H' s=>⟨_,ic (s.at hl),by simp⟩) (fun i H' hi s=>⟨_,_,ic (s.at hl),int_at hi⟩) (fun l' i x H' H2 own ys ho hi rY s dE hp hy Qy Qn ky kn=>?_) (fun l2 H' ys a b c d=>hQ l2 H' a b (by rw [c,d.1]))
 obtain ⟨o1,o2,rfl⟩:∃ o1 o2,own=[o1,o2]:=by match own,ho with|[o1,o2],_=>exact⟨o1,o2,rfl⟩
 obtain ⟨q,x',rfl,hq,e1,rfl⟩:=hy
 obtain ⟨rfl,_⟩:=cb (e1 _ (ic (s.at hl)))
 have s2:=ai.bC (o:=.tup [.int (i:Nat),.int (r.getD i 0)]) hq
 refine⟨q,_,rfl,aN.of av,rfl,_,_,rfl,_,_,rfl,rfl,?_⟩
 refine XR i _ _ hi (s.trans s2) ?_
 cases ef:f i with
 | true =>
  rw [if_pos rfl]
  refine elt i _ _ (s.trans s2) (ky [some (.int i),some (.int (r.getD i 0))] _ _ rfl s2 ⟨?_,hi⟩)
  rw [range_succ,filter_append,hp.1]
  simp [ef]
 | false =>
  rw [if_neg (by decide)]
  refine kn [some (.int i),some (.int (r.getD i 0))] _ rfl s2 ⟨?_,hi⟩
  rw [range_succ,filter_append,hp.1]
  simp [ef]
end
end L2
namespace HT
open PySem PySem.Spec PyProof.Rows
section
variable {prog:Program}{w:World}{A:Around}{E:Value->Shared->Prop}{s:Shared}
theorem nV{t sl:Addr}{items:Array Value}{vl vu:Value}{lo hi:Option Int}{Q:Value->Shared->Prop}(ht:IsTup s.heap t items)(hsl:s.heap.IsSliceOf sl vl vu .none)(pl:IsPart vl lo)(pu:IsPart vu hi)
  (hw:ei items.size 0 lo=0/\ei items.size items.size hi=items.size) (h:Q (.ref t) s):wpAny (model prog w) A (getItem (.ref t) (.ref sl)) Q E s:=by
 obtain ⟨os,NX,Vo,FL⟩:=id hsl
 have WQ:s.TypeIs (.ref sl) "slice":=⟨os,NX,Vo⟩
 unfold getItem
 try with_reducible refine wpAny_holding ?_
 first|refine aaH (aaV ?_)|skip
 refine aaH (wpAny_sequenceKey ht.typeIs (by decide) ?_)
 refine aaH (wpAny_callSpecial?_slot (name:=Str.ofString "__getitem__") ht.typeIs PyProof.Rows.slot_tuple_getitem
  (wpAny_call_entry PyProof.Rows.slot_tuple_getitem ht.typeIs entry_tuple_getitem ?_ (args_tuple_getitem _ _)))
 show wpAny _ _ (Builtin.Tuple.tupleItemsOf (.ref t) >>= _) _ _ s
 refine aaH (tupleItemsOf_ ht ?_)
 refine aaH (wpAny_typeOf WQ ?_)
 rw [if_pos (by decide)]
 refine aaH (iE hsl pl pu ?_)
 have XS:(((ei items.size 0 lo:Nat):Int) == 0 && (1:Int) == 1 && (ei items.size items.size hi - ei items.size 0 lo) == items.size)=true:=by
  rw [hw.1,hw.2]
  simp
 show wpAny _ _ (if (((ei items.size 0 lo:Nat):Int) == 0 && (1:Int) == 1 && (ei items.size items.size hi - ei items.size 0 lo) == items.size)=true then _ else _) _ _ s
 rw [if_pos XS]
 refine aaH ?_
 unfold Builtin.Tuple.tupleIsExact
 refine aaH (wpAny_typeOf ht.typeIs (aaV ?_))
 rw [if_pos (by decide)]
 refine aaH (wpAny_rule ?_)
 first
  | exact aaV ⟨_,rfl,aaV h⟩
  | exact aaH (aaV (aaV ⟨_,rfl,aaV h⟩))
end
end HT
namespace L2
open PySem PySem.Spec PyProof.Rows
section
variable {X:Cx}{K:Frag}{H:Hp}{Q:VK}
def Pf(K:Frag):V->Option Int->Option Int->Hp->VK->Prop:=fun x lo hi H Q=>∃ a xs,x=.ref a/\aN K H a xs/\((HT.ei xs.length 0 lo=0/\HT.ei xs.length xs.length hi=xs.length/\Q (.ref a) H)\/Gm K x lo hi H Q)
theorem Lb:NY X (Pf X.K):=by
 intro pins s σ H x v vl vu lo hi sl Q I rx hs pl pu h
 obtain ⟨a,xs,rfl,hx,⟨h1,h2,q⟩|h⟩:=h
 ·cases rx
  obtain ⟨its,r,ht,hz⟩:=I.tuple hx
  have hlen:its.toArray.size=xs.length:=by rw [abm];exact r.length.symm
  refine⟨"tuple",_,PyProof.Rows.slot_tuple_getitem.lookup,ht.typeIs,?_⟩
  exact HT.nV ht hs pl pu (by rw [hlen];exact⟨h1,h2⟩) ⟨.ref a,H,I,rfl,q⟩
 ·exact Gn pins s σ H _ v vl vu lo hi sl Q I rx hs pl pu h
theorem Hk(K:Frag)(hK:X.K=K):NY X (Pf K):=hK ▸ Lb
theorem TH{a:Addr}{xs:List V}{lo hi:Option Int}(e:aN K H a xs)(h:∀ p H2,ai H H2->aN K H2 p (iT xs lo hi)->Q (.ref p) H2):Pf K (.ref a) lo hi H Q:=by
 refine⟨a,xs,rfl,e,?_⟩
 by_cases c:HT.ei xs.length 0 lo=0/\HT.ei xs.length xs.length hi=xs.length
 ·refine .inl ⟨c.1,c.2,h a H (ai.refl _) ?_⟩
  have:iT xs lo hi=xs:=by
   unfold iT
   rw [c.1,c.2,sub_zero,drop_zero,abk]
  rw [this]
  exact e
 ·exact .inr ⟨a,xs,rfl,e,c,fun p hp=>h p _ (ai.bC hp) (aN.of av)⟩
end
section
variable {K:Frag}{H:Hp}{σ:St}{Q:VK}{ix:List (Option Nat)}
theorem xF{a:Addr}{x y:V}{m n:Nat}{R:St->Hp->Prop}(h:aN K H a [x,y])(k:R ((σ.set m (some x)).set n (some y)) H):qZ K 2 (d5 (bT m) (d5 (bT n) sR)) (.ref a) σ H R:=⟨a,_,rfl,h,rfl,_,_,rfl,_,_,rfl,rfl,k⟩
end
def iZ:Stmt->Nat->Stmt
 | .ClassDef _ _ _ body _ _ _ _ _ _ _,j=>body.getD j (.Pass ⟨0,0,0,0⟩)
 | s,_=>s
def kU(K:Frag)(f:Addr)(x qual:Str)(st:Stmt)(ps:List Str):Prop:=∃ fd,Km K x qual st f fd/\Binds K fd ps []
def xG(P:Program)(w:World)(K:Frag)(mg:Str->Option Value)(base:Heap)(k:Nat)(f:Addr)(ps:List Str)(sp:Sp):Prop :=
 ∃ fd,nC P w K mg base D6 k f fd ps sp/\keepIn K (.ref f)=true/\Binds K fd ps []
structure TJ(K:Frag)(C:Addr)(m:Str)(f:Addr):Prop where
 rd:readsIn K C (.type "type")=true
 at_:findCls K (.ref C) (.type "type") m=some (.val (.ref f))
 sp:specialIn K (.ref C) "__getattribute__"=some (some (.builtin "type.__getattribute__"))
section
variable {P:Program}{w:World}{K:Frag}{mg:Str->Option Value}{base:Heap}
theorem kU.ok{fa:Addr}{x qual:Str}{st:Stmt}{N ps:List Str}{k:Nat}{sp:Sp}(D:kU K fa x qual st ps)(S:aF N ps (aq st))(len:∀ vs H Q E,sp vs H Q E->vs.length=ps.length)
  (nD:∀ (f:Addr) (c7:Value) (A:Around) (outer:List Env) (s:Shared) (H:Hp) (vs:List V) (Q:VK) (E:XK),c9 k (A.deeper (envOfC qual (aq st) s.heap.objs.size f c7))->sp vs H Q E ->
   ∃ t,Ba (xh D6 P w K mg base N qual (aq st) f c7 A outer s H E).Ju (bN st) t/\t { nx:=fun _ H'=>Q .dz H',rt:=Q } (start N vs) H):xG P w K mg base (k+1) fa ps sp:=by
 obtain ⟨fd,F,hb⟩:=D
 exact⟨fd,F.ok S len fun c7 A outer s H vs Q E hr h=>nD fa c7 A outer s H vs Q E hr h,F.kp,hb⟩
end
section
variable {X:Cx}{k:Nat}{f C:Addr}{x m:Str}{ps:List Str}{sp:Sp}{p pos apos:Pos}{e o:Expr}{es:List Expr}{ta:TE}{t:TA}
theorem DD{pl:Sem Bool}(O:xG X.prog X.w X.K X.mg X.base k f ps sp)(c:yZ X.K C)(hm:Meth X.K C m f)(hr:c9 k X.A)(he:PE X o ta)(ha:PA X (e::es) t)
  (lO:starEach (e::es) X.env=(false,eval e X.env)::starEach es X.env:=by rfl) (qL:(backTo pos (starEach es X.env)).any (·.1)=false:=by rfl)
  (ht:eval (.Call (.Attribute o m apos) (e::es) [] pos) X.env=(do
   let ov <- eval o X.env
   standAt apos.atName
   let (f,first) <- holding [ov] (getMethod ov m pl)
   callWith pos f first (backTo pos (starEach (e::es) X.env)) (backToKw pos (keywordEach [] X.env))):=by rfl) :
  PE X (.Call (.Attribute o m apos) (e::es) [] pos) (sU C m sp [] E0 ta t):=by
 obtain ⟨fd,F,_,hb⟩:=O
 exact J9 he c hm F hr hb .nil Dl ha lO qL ht
theorem Hl(O:xG X.prog X.w X.K X.mg X.base k f ps sp)(M:Mk X.K C f)(hr:c9 (k+1) X.A)(hg:Gl X x)(hm:X.mg x=some (.ref C))(ha:PA X (e::es) t)
  (u7:(x == ("__debug__":Str))=false:=by decide) (he:starEach (e::es) X.env=(false,eval e X.env)::starEach es X.env:=by rfl) (qL:(backTo pos (starEach es X.env)).any (·.1)=false:=by rfl) :
  PE X (.Call (.Name x p) (e::es) [] pos) (Gg C sp [] E0 t):=by
 obtain ⟨fd,F,_,hb⟩:=O
 exact Ka M F hr hg hm hb .nil Dl ha u7 he qL
theorem XT{pl:Sem Bool}(O:xG X.prog X.w X.K X.mg X.base k f ps sp)(c:TJ X.K C m f)(hr:c9 k X.A)(hg:Gl X x)(hm:X.mg x=some (.ref C))(ha:PA X (e::es) t)
  (u7:(x == ("__debug__":Str))=false:=by decide) (lO:starEach (e::es) X.env=(false,eval e X.env)::starEach es X.env:=by rfl) (qL:(backTo pos (starEach es X.env)).any (·.1)=false:=by rfl)
  (ht:eval (.Call (.Attribute (.Name x p) m apos) (e::es) [] pos) X.env=(do
   let ov <- eval (.Name x p) X.env
   standAt apos.atName
   let (f,first) <- holding [ov] (getMethod ov m pl)
   callWith pos f first (backTo pos (starEach (e::es) X.env)) (backToKw pos (keywordEach [] X.env))):=by rfl) :
  PE X (.Call (.Attribute (.Name x p) m apos) (e::es) [] pos) (zm sp [] E0 t):=by
 obtain ⟨fd,F,kp,hb⟩:=O
 intro pins s σ H Q I h
 refine methodCall_KW (pl:=pl) (kE I hg hm ?_ u7) ht
 refine PySem.W.method_cls I.kC c.sp (PySem.W.cls_value I.kC c.rd c.at_ rfl ?_)
 refine callWith_K (first:=[]) (h₀:=X.base) I.ok.mod.Nx kp (c6 (ha pos pins _ σ H _ (I.tok _) h) fun us s1 ⟨vs,H1,I1,r,q⟩=>⟨I1.kC,?_⟩) lO qL
 exact Bt F hr hb .nil Dl I1 r q
theorem xH{f:Str}(K:Frag)(hK:X.K=K)(he:PE X e ta)(hb:attributeBase e f X.env (eval e X.env)=eval e X.env):PE X (.Attribute e f pos) (NO K ta f):=hK ▸ NQ he hb
theorem xI{f:Str}{value:Expr}{pos':Pos}{tv:TE}(K:Frag)(hK:X.K=K)(ha:PE X o ta)(hv:PE X value tv)(hs:swapsWith value (some (.Attribute o f pos')) pos.line X.env=pure false):PS X (.Assign [.Attribute o f pos'] value pos) (NP K ta tv f):=hK ▸ NR ha hv hs
end
section
variable {K:Frag}{H:Hp}{σ:St}{Q:VK}{D:Ends}{ta tv:TE}{t:TA}{C:Addr}{m f:Str}{sp:Sp}{x:V}
def MT(C:Addr)(m:Str)(sp:Sp)(t:TA)(σ:St)(Q:VK)(x:V)(H1:Hp):Prop:=∃ a dx fs,x=.ref a/\H1 a=some (.ins C dx fs)/\fs.lookup m=none/\t σ H1 fun vs H2=>sp (x::(vs++[])) H2 Q E0
theorem tI(h:ta σ H fun x H1=>MT C m sp t σ Q x H1):sU C m sp [] E0 ta t σ H Q:=h
theorem nW{a dx:Addr}{fs:List (Str×V)}(e:H a=some (.ins C dx fs))(l:fs.lookup m=none)(h:t σ H fun vs H2=>sp (.ref a::(vs++[])) H2 Q E0):MT C m sp t σ Q (.ref a) H:=⟨a,dx,fs,rfl,e,l,h⟩
def TK(C:Addr)(sp:Sp)(Q:VK)(vs:List V)(H1:Hp):Prop:=∀ x dx,H1 x=none->H1 dx=none->dx≠x->sp (.ref x::(vs++[])) (upd (upd H1 dx (.own x)) x (.ins C dx [])) (fun v H2=>v=.dz/\Q (.ref x) H2) E0
theorem Pg(h:t σ H fun vs H1=>TK C sp Q vs H1):Gg C sp [] E0 t σ H Q:=h
def TL(K:Frag)(f:Str)(Q:VK)(x:V)(H1:Hp):Prop:=∃ a C dx fs v,x=.ref a/\H1 a=some (.ins C dx fs)/\yZ K C/\eV K C f/\fs.lookup f=some v/\Q v H1
theorem TM(h:ta σ H fun x H1=>TL K f Q x H1):NO K ta f σ H Q:=h
theorem Ph{a dx:Addr}{fs:List (Str×V)}{v:V}(e:H a=some (.ins C dx fs))(c:yZ K C)(n:eV K C f)(l:fs.lookup f=some v)(h:Q v H):TL K f Q (.ref a) H:=⟨a,C,dx,fs,v,rfl,e,c,n,l,h⟩
def MU(K:Frag)(f:Str)(D:Ends)(σ:St)(y:V)(x:V)(H2:Hp):Prop:=∃ a C dx fs,x=.ref a/\H2 a=some (.ins C dx fs)/\yZ K C/\eV K C f/\fs.length<1000/\D.nx σ (upd H2 a (.ins C dx (jH f y fs)))
theorem Pj(h:tv σ H fun y H1=>ta σ H1 fun x H2=>MU K f D σ y x H2):NP K ta tv f D σ H:=h
theorem rZ{a dx:Addr}{fs:List (Str×V)}{y:V}(e:H a=some (.ins C dx fs))(c:yZ K C)(n:eV K C f)(l:fs.length<1000)(h:D.nx σ (upd H a (.ins C dx (jH f y fs)))):MU K f D σ y (.ref a) H:=⟨a,C,dx,fs,rfl,e,c,n,l,h⟩
end
section
variable {K:Frag}{H:Hp}{σ:St}{Q:VK}{ix:List (Option Nat)}
theorem Lc{k1 k2:Bool}{a b:Addr}{r q:List Int}(jK:pick ix σ=[none,none])(ha:Sq k1 K H a (r.map V.int))(hb:Sq k2 K H b (q.map V.int))(hlen:q.length<=r.length)(hn:r.length<=1000)(hm:∀ i,i<q.length->jF (r.getD i 0) (q.getD i 0))
  (hQ:∀ l H',H l=none->ai H H'->H' l=some (.lst ((List.zipWith (·*·) r q).map V.int))->Q (.ref l) H') :
  bP ix (qZ K 2 (d5 (bT 0) (d5 (bT 1) sR))) (fun _ H Q=>Q true H) (NK (rI jF fun i j=>.int (i*j)) (Bg 0) (Bg 1)) σ Q (Ks K k1 k2 a b) H:=by
 have lz:(List.zipWith (·*·) r q).length=q.length:=by rw [List.length_zipWith];lia
 refine cC 2 [] q.length (fun l i ys H'=>ys=((List.zipWith (·*·) r q).take i).map V.int/\i<=q.length) jK (fun l H' _ _ _=>⟨rfl,abv _⟩) (fun l i ys H' h=>by rw [h.1,aa5,abl];lia) (fun H' s=>⟨_,_,s.sq ha,s.sq hb,.inr (by simp)⟩) (fun i H' hi s=>⟨_,_,_,_,s.sq ha,s.sq hb,int_at (by lia),int_at hi⟩) (fun l' i x H' H2 own ys ho hi rY s dE hp hy Qy Qn ky kn=>?_) (fun l2 H' ys a b c d=>hQ l2 H' a b (by rw [c,d.1,abr (by lia)]))
 obtain ⟨o1,o2,rfl⟩:∃ o1 o2,own=[o1,o2]:=by match own,ho with|[o1,o2],_=>exact⟨o1,o2,rfl⟩
 obtain ⟨p,x',y',rfl,hq,e1,e2,rfl⟩:=hy
 obtain ⟨rfl,_⟩:=cb (e1 _ (s.sq ha))
 obtain ⟨rfl,_⟩:=cb (e2 _ (s.sq hb))
 have s2:=ai.bC (o:=.tup [.int (r.getD i 0),.int (q.getD i 0)]) hq
 refine⟨p,_,rfl,aN.of av,rfl,_,_,rfl,_,_,rfl,rfl,?_⟩
 show ite (true=true) _ _
 rw [if_pos rfl]
 refine⟨_,rfl,_,rfl,_,_,rfl,rfl,hm i hi,?_⟩
 refine ky [some (.int (r.getD i 0)),some (.int (q.getD i 0))] _ _ rfl s2 ⟨?_,hi⟩
 rw [hp.1,take_add_one,abo]
 congr 1
 have:(List.zipWith (·*·) r q)[i]?=some (r.getD i 0*q.getD i 0):=by
  rw [getElem?_zipWith,aaZ (show i<r.length by lia),aaZ hi,List.getD,List.getD,aaZ (show i<r.length by lia),aaZ hi]
  rfl
 rw [this]
 rfl
end
end L2
namespace L2
open PySem PySem.Spec PyProof.Rows PySem.W
theorem EB{Pr:Program}{w:World}{K:Frag}{mg mb:Str->Option Value}{CX:Gf}{k:Nat}{fa a:Addr}{fd:FuncData}{x:Str}{sp:Sp}{s₁:Shared}{vs:List Value}{ns:List Int}{tabs:List (Addr×Addr)}
  (hT:TabsAt tabs s₁.heap) (hKt:∀ q∈tabs,K.lookup q.2=none)
  (hbm:∃ bm ob,mg "__builtins__"=some (.ref bm)/\bm≠builtinsNs/\s₁.heap.get? bm=some ob/\ob.cls=.type "module"/\ob.dict=some builtinsNs/\ob.data=.plain)
  (hse:s₁.heap.NoSeer) (KX:K.In s₁.heap) (xD:s₁.heap.Ns mainGlobals mg) (hb:s₁.heap.Ns builtinsNs mb) (Ld:∀ x:Str,x≠"__name__"->mb x=bootBuiltins x) (XU:s₁.heap.NoLimit) (hg:s₁.gens=#[])
  (ha:s₁.heap.get? a=some { cls:=.type "list",data:=.seq vs.toArray }) (hi:IntsAre vs ns) (hl:ns.length<=sizeLine) (hr:c9 k callerA)
  (F:∀ base:Heap,K.In base->base.Ns mainGlobals mg->(∀ q∈tabs,CodeHd base q.1 q.2/\base.BuiltinsAt mg q.2)->base.NoSeer->nC Pr w K mg base CX k fa fd [x] sp) (jV:∀ (s:Shared) (u:Value),BindsTo s fd ⟨[u],[]⟩ [(x,u)])
  (Mw:∀ H:Hp,Hi tabs H->aR K H a (ns.map V.int)->sp [.ref a] H (fun v _=>v=.bl true) fun _ _ _=>False)
  (hCX:∀ H e s',CX [] H s₁ (fun _ _ _=>False) e s'->False) :
  codeAny (model Pr w) callerA (.call (.ref fa) ⟨[.ref a],[]⟩) (fun r s'=>r=.ok (.ret (.bool true))/\OldK s₁.heap s'.heap/\s'.os=s₁.os/\AllBare s'.gens) s₁:=by
 have rv:=wx hi
 have XX:=hi.length
 have naT:∀ q∈tabs,q.2≠a:=fun q hq z=>by
  have e:=(hT q hq).2
  rw [z,ha] at e
  cases e
 have core:∀ H:Hp,(∀ b u,H b=some u->(b=a/\K.lookup a=none/\∃ xs,u=.xa { cls:=.type "list",data:=.seq vs.toArray } (.lst xs))\/∃ q∈tabs,q.2=b/\u=.sG #[])->Hi tabs H->aR K H a (ns.map V.int)->gW Pr w H s₁.heap ->
   codeAny (model Pr w) callerA (.call (.ref fa) ⟨[.ref a],[]⟩) (fun r s'=>r=.ok (.ret (.bool true))/\OldK s₁.heap s'.heap/\s'.os=s₁.os/\AllBare s'.gens) s₁:=by
  intro H hA h0 hS bc
  have nX:∀ {b:Addr} {o:Obj},s₁.heap.get? b=some o->H b=none->(qY s₁.heap H).get? b=some o:=fun e n=>F1 e n
  have VH:∀ {b:Addr} {o:Obj},s₁.heap.get? b=some o->(∀ v n,o.data≠.seq v n)->(∀ v,o.data=.fields v->o.cls≠.none)->H b=none:=fun {b o} e d d2=>by
   cases q:H b with
   | none=>rfl
   | some u =>
    rcases hA b u q with ⟨rfl,_⟩|⟨t,ht,rfl,_⟩
    ·rw [ha] at e
     cases e
     exact absurd rfl (d _ _)
    ·rw [(hT t ht).2] at e
     cases e
     exact absurd rfl (d2 _ rfl)
  have RZ:∀ {b:Addr} {o:Obj} {es:Array DictEntry} {ep:Nat},s₁.heap.get? b=some o->o.data=.dict es ep->H b=none:=fun e d=>VH e (fun v n z=>by rw [d] at z;cases z) fun v z=>by rw [d] at z;cases z
  have MV:∀ {b:Addr} {m:Str->Option Value},s₁.heap.Ns b m->(qY s₁.heap H).Ns b m:=fun {b m} ⟨o,es,ep,e,d,r⟩=>⟨o,es,ep,nX e (RZ e d),d,r⟩
  have hKb:K.In (qY s₁.heap H):=fun b o e=>nX (KX b o e) (by
   cases q:H b with
   | none=>rfl
   | some u =>
    rcases hA b u q with ⟨rfl,z,_⟩|⟨t,ht,rfl,_⟩
    ·rw [z] at e;cases e
    ·rw [hKt t ht] at e;cases e)
  have hM:Mod K mg (qY s₁.heap H):=⟨hKb,MV xD,⟨mb,MV hb,Ld⟩,let ⟨mc,h1,h2⟩:=XU;⟨mc,MV h1,h2⟩⟩
  have hTb:∀ q∈tabs,CodeHd (qY s₁.heap H) q.1 q.2/\(qY s₁.heap H).BuiltinsAt mg q.2:=fun q hq=>by
   refine⟨?_,?_⟩
   ·obtain ⟨o,vs',file,tf,flags,tg,inF,text,tt,e1,e2,e3,r⟩:=(hT q hq).1
    exact⟨o,vs',file,tf,flags,tg,inF,text,tt,nX e1 (VH e1 (fun v n z=>by rw [e3] at z;cases z) fun v _ z=>by rw [e2] at z;cases z),e2,e3,r⟩
   ·obtain ⟨bm,ob,b1,b2,b3,b4,b5,b6⟩:=hbm
    refine⟨bm,ob,b1,b2,fun z=>?_,fun z=>?_,nX b3 (VH b3 (fun v n z=>by rw [b6] at z;cases z) fun v z=>by rw [b6] at z;cases z),b4,b5,b6⟩
    ·obtain ⟨o,es,ep,e,hd,_⟩:=xD
     rw [z,e] at b3;cases b3;rw [hd] at b6;cases b6
    ·rw [z,(hT q hq).2] at b3;cases b3;cases b4
  have hSb:(qY s₁.heap H).NoSeer:=⟨let ⟨mc,a,b⟩:=hse.statics;⟨mc,MV a,b⟩,let ⟨mm,a,b⟩:=hse.mods;⟨mm,MV a,b⟩,⟨mb,MV hb,Ld⟩,let ⟨bm,ob,b1,b2,b3,b4,b5,b6⟩:=hbm;⟨mg,bm,ob,MV xD,b1,nX b3 (VH b3 (fun v n z=>by rw [b6] at z;cases z) fun v z=>by rw [b6] at z;cases z),b4,b5⟩⟩
  have e0:zl Pr w K mg (qY s₁.heap H) callerA [] s₁ H:=⟨rfl,hM,fun b o e=>JS e,le_of_eq (DS _ _),trivial,fun b hb=>absurd (show b∈([]:List Addr) from hb) (by simp),bc,.of_eq hg⟩
  refine codeAny_mono ((F _ hKb (MV xD) hTb hSb).run callerA [] s₁ H ⟨[.ref a],[]⟩ [.ref a] [.ref a] _ _ hr e0 (jV s₁ (.ref a)) (.cons rfl .nil) (Mw H h0 hS)) fun r s' h=>?_
  cases r with
  | error e=>exact (hCX H e s' h).elim
  | ok fl =>
   cases fl with
   | next=>exact False.elim h
   | brk=>exact False.elim h
   | cont=>exact False.elim h
   | ret u =>
    obtain ⟨v,H',os,bare,un,EC,r',q⟩:=h
    have q':v=.bl true:=q
    subst q'
    obtain rfl:u=Value.bool true:=r'
    have was:∀ b o,s₁.heap.get? b=some o->asItWas s₁.heap s'.heap b o/\∃ o',s'.heap.get? b=some o':=fun b o e=>by
     cases q:H b with
     | none =>
      have z:=un.keep b o e q (by intro z;exact absurd (show b∈([]:List Addr) from z) (by simp)) (by simp)
      exact⟨.inl z,_,z⟩
     | some u =>
      rcases hA b u q with ⟨rfl,_,xs,rfl⟩|⟨t,ht,rfl,rfl⟩
      ·have z2:=un.lL b _ _ q
       obtain ⟨e1,_⟩:=bc b _ q
       obtain ⟨e2,_⟩:=EC b _ z2
       rw [e] at e1;cases e1
       exact⟨.inl e2,_,e2⟩
      ·obtain ⟨more,z2⟩:=un.lM t.2 _ q
       have e2:s'.heap.get? t.2=some { cls:=.none,data:=.fields (#[]++more) }:=EC t.2 _ z2
       have e1:=(hT t ht).2
       rw [e] at e1
       cases e1
       exact⟨.inr (.inl ⟨((hT t ht).1.tab (hT t ht).2).isCodeTable,rfl,#[],more,rfl,e2⟩),_,e2⟩
    exact⟨rfl,⟨fun b o e=>(was b o e).1,fun b o e=>(was b o e).2⟩,os,bare⟩
 have MW:∀ (H:Hp) q,q∈tabs->d3 Pr w H s₁.heap q.2 (.sG #[]):=fun H q hq=>(hT q hq).2
 cases hk:K.lookup a with
 | some o =>
  have e:=KX a o hk
  rw [ha] at e
  cases e
  refine core (fun b=>if (tabs.any fun q=>q.2 == b)=true then some (.sG #[]) else none) (fun b u z=>?_) (fun q hq=>if_pos (any_eq_true.mpr ⟨q,hq,by simp⟩)) (.inr ⟨_,vs.toArray,_,hk,rfl,rfl,rfl,by rw [abm,XX];exact hl,by simpa using rv⟩) (fun b u z=>?_)
  ·by_cases hb:(tabs.any fun q=>q.2 == b)=true
   ·have z':=(if_pos hb).symm.trans z
    cases z'
    obtain ⟨q,hq,e⟩:=any_eq_true.mp hb
    exact .inr ⟨q,hq,beq_iff_eq.mp e,rfl⟩
   ·have z':=(if_neg hb).symm.trans z
    cases z'
  ·by_cases hb:(tabs.any fun q=>q.2 == b)=true
   ·have z':=(if_pos hb).symm.trans z
    cases z'
    obtain ⟨q,hq,e⟩:=any_eq_true.mp hb
    rw [<- beq_iff_eq.mp e]
    exact MW _ q hq
   ·have z':=(if_neg hb).symm.trans z
    cases z'
 | none =>
  have aT:¬ (tabs.any fun q=>q.2 == a)=true:=fun z=>by
   obtain ⟨q,hq,e⟩:=any_eq_true.mp z
   exact naT q hq (beq_iff_eq.mp e)
  obtain ⟨H,hH⟩:∃ H:Hp,H=fun b=>if (tabs.any fun q=>q.2 == b)=true then some (.sG #[]) else if b=a then some (.xa { cls:=.type "list",data:=.seq vs.toArray } (.lst (ns.map V.int))) else none:=⟨_,rfl⟩
  have hHa:H a=some (.xa { cls:=.type "list",data:=.seq vs.toArray } (.lst (ns.map V.int))):=by
   rw [hH]
   show (if _ then _ else _)=_
   rw [if_neg aT,if_pos rfl]
  have hHt:Hi tabs H:=fun q hq=>by
   rw [hH]
   exact if_pos (any_eq_true.mpr ⟨q,hq,by simp⟩)
  have all:∀ b u,H b=some u->(b=a/\u=.xa { cls:=.type "list",data:=.seq vs.toArray } (.lst (ns.map V.int)))\/∃ q∈tabs,q.2=b/\u=.sG #[]:=fun b u z=>by
   rw [hH] at z
   have z:(if (tabs.any fun q=>q.2 == b)=true then some (HO.sG #[]) else if b=a then some (.xa { cls:=.type "list",data:=.seq vs.toArray } (.lst (ns.map V.int))) else none)=some u:=z
   by_cases hb:(tabs.any fun q=>q.2 == b)=true
   ·rw [if_pos hb] at z
    cases z
    obtain ⟨q,hq,e⟩:=any_eq_true.mp hb
    exact .inr ⟨q,hq,beq_iff_eq.mp e,rfl⟩
   ·rw [if_neg hb] at z
    by_cases h2:b=a
    ·rw [if_pos h2] at z
     cases z
     exact .inl ⟨h2,rfl⟩
    ·rw [if_neg h2] at z
     cases z
  refine core H (fun b u z=>(all b u z).imp (fun ⟨e,eu⟩=>⟨e,hk,_,eu⟩) id) hHt (.inl (.inr ⟨_,hHa⟩)) fun b u z=>?_
  rcases all b u z with ⟨rfl,rfl⟩|⟨q,hq,rfl,rfl⟩
  ·exact⟨ha,by rw [aa5];exact hl,vs,_,rv,ha⟩
  ·exact MW _ q hq
theorem Ho{X:Cx}{e:Env}{l:List Env}(Y:X.base.NoSeer/\X.prog.given.tree=none)(lO:X.stack=e::l)(h1:e.scope.isGenerator=false)(h2:e.scope.isCoroutine=false)(h3:e.builtins=builtinsNs)(h4:e.globals=mainGlobals)(hr:c9 32 X.A) :
  jO X (binaryOp .FloorDiv) (rI (fun _ j=>j≠0) fun i j=>.int (i.fdiv j)):=by
 intro pins s σ H x y v u Q I rx ry h
 obtain ⟨i,j,rfl,rfl,hc,q⟩:=h
 obtain ⟨t,rfl⟩:=rx
 obtain ⟨t',rfl⟩:=ry
 have hd:X.A.depth+Builtin.pylongFrames<recursionLimit:=by
  have:=hr.dp
  have e1:Builtin.pylongFrames=100:=rfl
  lia
 exact floordiv_int hc ⟨.int (i.fdiv j),H,I.tok _,⟨_,rfl⟩,q⟩ (.inr (PylongRoom.of I.nolimit hd (SeerAt.of (Y.1.keeps I.bk) Y.2 (by rw [I.ok.frames,lO]) h1 h2 h3 h4)))
open PySem PySem.Spec PyProof.Rows
def qS(i j:Int):Prop:=lH i+lH j<=134217728
theorem qS.ok{i j:Int}(h:qS i j):IntMulOk i j:=by
 unfold IntMulOk
 intro z
 simp only [Bool.and_eq_true,decide_eq_true_eq] at z
 have z2:=z.2
 unfold Builtin.Int.intTooBig at z2
 have h':Builtin.Int.intBits i+Builtin.Int.intBits j<=134217728:=h
 have b:(134217728:Int)<=bitsLine:=by decide
 simp only [decide_eq_true_eq] at z2
 lia
theorem Le{X:Cx}:jO X (binaryOp .Mult) (rI qS fun i j=>.int (i*j)):=Mt fun _ _ _ _ _ _ _ hc q=>mul_int q hc.ok
section
variable {K:Frag}{H:Hp}{σ:St}{Q:VK}{ix:List (Option Nat)}{l:Addr}{xs:List V}{rs:List (List Int)}
theorem Lf{a:Addr}{x y z:V}{m n o:Nat}{R:St->Hp->Prop}(h:aN K H a [x,y,z])(k:R (((σ.set m (some x)).set n (some y)).set o (some z)) H):qZ K 3 (d5 (bT m) (d5 (bT n) (d5 (bT o) sR))) (.ref a) σ H R:=⟨a,_,rfl,h,rfl,_,_,rfl,_,_,rfl,_,_,rfl,rfl,k⟩
end
end L2
namespace L2
open PySem PySem.Spec PyProof.Rows PySem.Builtin PySem.Builtin.Str
section
variable {X:Cx}
theorem dS{n:Nat}(h:n<=2000):n<=sizeLine:=aaL h (by decide)
def MX:List V->Hp->VK->Prop:=fun xs H Q=>∃ i,xs=[.int i]/\i.natAbs.log2<1920/\Q (.str (toString i)) H
theorem ED:dA X (.type "str") MX:=xf
def MY:R2:=fun x y H Q=>∃ i j,x=.str i/\y=.str j/\i.length+j.length<=sizeLine/\Q (.str (i++j)) H
theorem r6:jO X (binaryOp .Add) MY:=Bl
end
section
variable {D:Ends}{σ:St}{H:Hp}{te:TE}{g:TG}{Q:VK}{z y:Str}{K:Frag}
theorem Pk{i:Int}(hi:i.natAbs.log2<1920)(h:Q (.str (toString i)) H):MX [.int i] H Q:=⟨i,rfl,hi,h⟩
theorem xJ(hz:z.length+y.length<=sizeLine)(h:Q (.str (z++y)) H):MY (.str z) (.str y) H Q:=⟨z,y,rfl,rfl,hz,h⟩
theorem Hq{i:Int}{c:Nat}(hz:z.length<=sizeLine)(h1:Dh z.cps.toList i=some c)(h:Q (.str ⟨#[c]⟩) H):N2 (.str z) (.int i) H Q:=⟨z,i,c,rfl,rfl,hz,h1,h⟩
end
open PySem PySem.Spec PyProof.Rows
def TN:Expr->Option V
 | .Constant (.int i) _ _=>some (.int i)
 | .Constant (.str s) _ _=>some (.str s)
 | _=>none
def DE:List Expr->Option (List V)
 | []=>some []
 | e::es=>match TN e,DE es with
  | some v,some vs=>some (v::vs)
  | _,_=>none
def Ab:List V->TA
 | []=>zk
 | v::vs=>qK (tC v) (Ab vs)
theorem xK{X:Cx}:∀ {es:List Expr} {vs:List V},DE es=some vs->PA X es (Ab vs)
 | [],vs,h=>by cases h;exact af
 | e::es,vs,h=>by
  unfold DE at h
  split at h
  ·rename_i v ws h1 h2
   cases h
   unfold TN at h1
   split at h1
   ·cases h1;exact aa ae (xK h2)
   ·cases h1;exact aa jL (xK h2)
   ·cases h1
  ·cases h
theorem nY{X:Cx}{es:List Expr}{vs:List V}{pos:Pos}(h:DE es=some vs):PE X (.List es pos) (J7 (Ab vs)):=bG (xK h)
theorem wO{σ:St}{H:Hp}:∀ {vs:List V} {Q:List V->Hp->Prop},Q vs H->Ab vs σ H Q
 | [],_,h=>h
 | v::vs,Q,h=>wO (vs:=vs) (Q:=fun xs H2=>Q (v::xs) H2) h
theorem Pl{σ:St}{H:Hp}{Q:VK}{vs:List V}(hl:vs.length<=1000)(h:∀ p H2,H p=none->ai H H2->H2 p=some (.lst vs)->Q (.ref p) H2):J7 (Ab vs) σ H Q :=
 wO (vs:=vs) (GQ hl h)
section
variable {X:Cx}{a:Addr}{oX:List (Key×V)}
def Ac(c:Nat)(n:Nat):Str:=⟨Array.replicate n c⟩
theorem wQ(c:Nat):∀ (k:Nat) (b:Array Nat),(List.replicate k #[c]).foldl (·++·) b=b++Array.replicate k c
 | 0,b=>by simp
 | k+1,b=>by
  rw [replicate_succ,List.foldl_cons,wQ c k,Array.append_assoc]
  congr 1
  apply Array.ext'
  simp [replicate_succ]
def MZ:R2:=fun x y H Q=>∃ (c:Nat) (n:Int),x=.str ⟨#[c]⟩/\y=.int n/\(-1000<=n/\n<=1000)/\Q (.str (Ac c n.toNat)) H
theorem DF:jO X (binaryOp .Mult) MZ:=by
 intro pins s σ H x y v u Q I rx ry h
 obtain ⟨c,n,rfl,rfl,hn,q⟩:=h
 obtain ⟨t,rfl⟩:=rx
 obtain ⟨t',rfl⟩:=ry
 have l1:(⟨#[c]⟩:Str).length=1:=rfl
 refine P.mul_str (by rw [aaS (by lia),aaS (by lia)];rfl) (fun h1 _=>?_) (fun h1 _=>?_) ?_
 ·have oW:1<=n:=by lia
  have:(9000000000000:Int)<=(2 ^ 63 - 1) / n:=by
   rw [Int.le_ediv_iff_mul_le (by lia)]
   lia
  rw [l1]
  lia
 ·show decide (_ > sizeLine)=false
  rw [aaS]
  rw [l1]
  have:=dS (show 1*n.toNat<=2000 by lia)
  lia
 ·split
  ·rename_i h1
   have e:Ac c n.toNat=Str.empty:=by rw [show n.toNat=0 by lia];rfl
   rw [e] at q
   exact⟨by decide,⟨.str _,H,I.tok _,⟨_,rfl⟩,q⟩⟩
  ·split
   ·rename_i h1 h2
    have e:n=1:=by
     rw [Bool.or_eq_true,beq_iff_eq,beq_iff_eq,l1] at h2
     rcases h2 with h2|h2
     ·exact h2
     ·cases h2
    subst e
    exact⟨.str _,H,I,⟨_,rfl⟩,q⟩
   ·have e:(⟨(List.replicate n.toNat #[c]).foldl (·++·) #[]⟩:Str)=Ac c n.toNat:=by
     unfold Ac
     rw [wQ,Array.empty_append]
    refine⟨?_,⟨.str _,H,I.tok _,⟨_,rfl⟩,?_⟩⟩
    ·show (⟨(List.replicate n.toNat #[c]).foldl (·++·) #[]⟩:Str).length<=sizeLine
     rw [e]
     show (Array.replicate n.toNat c).size<=sizeLine
     rw [Array.size_replicate]
     exact dS (by lia)
    ·show Q (.str ⟨(List.replicate n.toNat #[c]).foldl (·++·) #[]⟩) H
     rw [e]
     exact q
end
section
variable {H:Hp}{Q:VK}{a:Addr}{oX:List (Key×V)}{z y:Str}
theorem Hs{c:Nat}{n:Int}(hn:-1000<=n/\n<=1000)(h:Q (.str (Ac c n.toNat)) H):MZ (.str ⟨#[c]⟩) (.int n) H Q:=⟨c,n,rfl,rfl,hn,h⟩
end
section
variable {K:Frag}{H:Hp}{σ:St}{Q:VK}{ix:List (Option Nat)}
theorem Lg{D:Ends}{k1 k2:Bool}{a b:Addr}{xs ys:List V}{m n:Nat}{tb:TS}(hlen:ys.length<=xs.length)(Pv:Nat->St->Hp->Prop)(h0:Pv 0 σ H)(ha:∀ i σ H2,Pv i σ H2->Sq k1 K H2 a xs/\Sq k2 K H2 b ys)
  (hs:∀ (i:Nat) x y σ H2 H3,xs[i]?=some x->ys[i]?=some y->Pv i σ H2->ai H2 H3->tb { D with nx:=Pv (i+1),ct:=Pv (i+1),bk:=D.nx } ((σ.set m (some x)).set n (some y)) H3)
  (hd:∀ σ H2,Pv ys.length σ H2->D.nx σ H2):hU (qZ K 2 (d5 (bT m) (d5 (bT n) sR))) tb D (Ks K k1 k2 a b) σ H:=by
 refine wJ ys.length Pv h0 (fun i σ H2 hi p=>?_) (fun σ H2 p=>?_) (fun i x σ H2 H3 hi p hy=>?_) hd
 ·exact⟨_,_,xs[i]'(Nat.lt_of_lt_of_le hi hlen),ys[i],(ha i σ H2 p).1,(ha i σ H2 p).2,aaZ _,aaZ hi⟩
 ·exact⟨_,_,(ha _ σ H2 p).1,(ha _ σ H2 p).2,.inr (aaM _)⟩
 ·obtain ⟨q,x',y',rfl,hq,e1,e2,rfl⟩:=hy
  refine⟨q,_,rfl,aN.of av,rfl,_,_,rfl,_,_,rfl,rfl,?_⟩
  exact hs i x' y' σ _ _ (e1 _ (ha i σ _ p).1) (e2 _ (ha i σ _ p).2) p (ai.bC hq)
end
end L2
namespace Srt
open PySem PySem.W PyProof.Rows
section
variable {n:Nat}{key:Nat->Int}
def ky(key:Nat->Int)(p:Array Nat)(i:Nat):Int:=key (p.getD i 0)
end
end Srt
namespace L2
open PySem PySem.Spec PySem.W PyProof.Rows
def lk(r:List Int):Int:=r.foldl (fun k a=>k*4000001+a) 0
namespace Mat
def up(ts:List Nat)(a:Int)(u:Nat->Int):Nat->Int:=fun x=>if x∈ts then u x+a else u x
section
variable {n:Nat}{W:Nat->Nat->Int}{u v:Nat->Int}{g c:Nat->Option Nat}{first:Nat}{ts:List Nat}{os:List (Nat×Nat)}
structure Tn(n:Nat)(W:Nat->Nat->Int)(u v:Nat->Int)(g0:Nat->Option Nat)(ts:List Nat)(os:List (Nat×Nat))(g c:Nat->Option Nat)(f:Nat)(i:Nat):Prop where
 pl:∃ o,os[i]?=some (f,o)
 part:∀ t b,b≠f->(g t=some b↔c b=some t)
 no:∀ t,g t≠some f
 old:∀ k t,k<=i->ts[k]?=some t->g t=g0 t
 MI:∀ t j,g t=some j->u t+v j=W t j
 ran:∀ t j,g t=some j->t<n/\j<n
 dom:∀ t,(g t).isSome=(g0 t).isSome
def st(f:Nat->Option Nat)(i:Nat)(x:Option Nat):Nat->Option Nat:=fun k=>if k=i then x else f k
end
end Mat
end L2
namespace L2
open PySem PySem.Spec PyProof.Rows PySem.W
section
variable {K:Frag}{H:Hp}{σ:St}{Q:VK}{ix:List (Option Nat)}
theorem tJ{n:Nat}{tt:TT}{te:TE}(fr:St)(f:Nat->Bool)(jK:pick ix σ=none::fr)(hn:n<=1000)
  (XR:∀ (i:Nat) (H':Hp) (Qc:Bool->Hp->Prop),i<n->ai H H'->(∀ H5,ai H' H5->Qc (f i) H5)->tt (some (.int (i:Int))::fr) H' Qc)
  (elt:∀ (i:Nat) (H':Hp) (Qc:VK),i<n->ai H H'->(∀ H5,ai H' H5->Qc (.int (i:Int)) H5)->te (some (.int (i:Int))::fr) H' Qc)
  (hQ:∀ l H',H l=none->ai H H'->H' l=some (.lst (((List.range n).filter f).map fun k:Nat=>V.int (k:Int)))->Q (.ref l) H'):bP ix (bT 0) tt te σ Q (Mr 0 n) H:=by
 refine cC 1 fr n (fun l i ys H'=>ys=((List.range i).filter f).map (fun k:Nat=>V.int (k:Int))/\i<=n) jK (fun l H' _ _ _=>⟨rfl,abv _⟩) (fun l i ys H' h=>?_) (fun H' s=>aaM _) (fun i H' hi s=>hi) (fun l i x H' H2 own ys ho hi rY s dE hp hy Qy Qn ky kn=>?_) (fun l H' ys a b c d=>hQ l H' a b (by rw [c,d.1]))
 ·rw [h.1,aa5]
  have:=aaX f (List.range i)
  rw [abi] at this
  lia
 ·obtain ⟨o1,rfl⟩:∃ o1,own=[o1]:=by match own,ho with|[o1],_=>exact⟨o1,rfl⟩
  obtain ⟨rfl,rfl⟩:=hy
  dsimp only [bT]
  rw [Int.zero_add]
  refine XR i _ _ hi s fun H3 s3=>?_
  have e:(List.range (i+1)).filter f=(List.range i).filter f++(if f i=true then [i] else []):=by
   rw [range_succ,filter_append]
   congr 1
   cases h:f i <;> simp [h]
  cases hf:f i with
  | true =>
   rw [if_pos rfl]
   refine elt i _ _ hi (s.trans s3) fun H5 s5=>ky [some (.int i)] _ H5 rfl (s3.trans s5) ⟨?_,hi⟩
   rw [e,hp.1,hf,abo];rfl
  | false =>
   rw [if_neg (by decide)]
   refine kn [some (.int i)] H3 rfl s3 ⟨?_,hi⟩
   rw [e,hp.1,hf,abo];simp
end
open PySem PySem.Spec PyProof.Rows
section
variable {K:Frag}{H:Hp}{σ:St}{Q:VK}{ix:List (Option Nat)}
theorem M0{l:Addr}{xs:List V}{n:Nat}(e:H l=some (.lst xs))(hn:xs.length*n<=1000)(h:∀ p H2,H p=none->ai H H2->H2 p=some (.lst (List.replicate n xs).flatten)->Q (.ref p) H2)(h1:n<=1000):R8 (.ref l) (.int (n:Int)) H Q :=
 ⟨l,(n:Int),xs,rfl,rfl,e,by lia,by lia,aaL (by rw [abC];exact hn) (by decide),fun p hp=>h p _ hp (ai.bC hp) (by rw [abC];exact av)⟩
end
inductive XY(K:Frag)(H:Hp):List V->List (Nat×List Int)->Prop where
 | nil:XY K H [] []
 | cons {q a:Addr} {p:Nat} {r:List Int} {xs:List V} {ps:List (Nat×List Int)} (h:aN K H q [.int (p:Int),.ref a]) (hr:aN K H a (r.map V.int)) (t:XY K H xs ps):XY K H (.ref q::xs) ((p,r)::ps)
inductive XZ(K:Frag)(H:Hp):List V->List (List Int×Bool)->Prop where
 | nil:XZ K H [] []
 | cons {q a:Addr} {b:Bool} {r:List Int} {xs:List V} {ps:List (List Int×Bool)} (h:aN K H q [.ref a,.bl b]) (hr:aN K H a (r.map V.int)) (t:XZ K H xs ps):XZ K H (.ref q::xs) ((r,b)::ps)
structure Lh(K:Frag)(C:Addr):Prop where
 ca:findIn K (.ref C) "__class__"=some (some (.builtin "object.__class__"))
 cg:specialIn K (.builtin "object.__class__") "__get__"=some (some (.builtin "getset_descriptor.__get__"))
 ct:takesIn K (.builtin "object.__class__")=some true
 cm:mroIn K C (.type "object")=some true
structure X0(K:Frag)(C:Addr):Prop where
 makes:makesIn K C=true
 init:findIn K (.ref C) "__init__"=some (some (.builtin "object.__init__"))
 kp:keepIn K (.ref C)=true
def Ht(C:Addr):TE:=fun _ H Q=>∀ x dx,H x=none->H dx=none->dx≠x->Q (.ref x) (upd (upd H dx (.own x)) x (.ins C dx []))
section
variable {X:Cx}{C:Addr}{x:Str}{p pos:Pos}
theorem EE{pins:List (Addr×Obj)}{σ:St}{H:Hp}{s:Shared}{Q:VK}(M:X0 X.K C)(I:Inv X pins σ H s)(h:Ht C σ H Q):wpAny (model X.prog X.w) X.A (call (.ref C) []) (EP X pins σ Q) X.xe s:=by
 have hq:=h (s.heap.objs.size+1) s.heap.objs.size (I.bc.fresh (le_succ _)) (I.bc.fresh (aaM _)) (abw (lt_succ_self _))
 have I2:=Inv.made (C:=C) I
 have Y:=makes_of (M:=model X.prog X.w) I.kC M.makes
 have g1:((s.heap.push emptyDict).push (instObj C s.heap.objs.size)).get? (s.heap.objs.size+1)=some (instObj C s.heap.objs.size):=by
  have:=aaK (s.heap.push emptyDict) (o:=instObj C s.heap.objs.size) rfl
  rwa [Heap.size_push] at this
 have y1:Looks (model X.prog X.w) ((s.heap.push emptyDict).push (instObj C s.heap.objs.size)) (typeOf (.ref (s.heap.objs.size+1))) (.ref C):=(Looks.ld g1).andThen .now
 have y2:Looks (model X.prog X.w) ((s.heap.push emptyDict).push (instObj C s.heap.objs.size)) (isInstance (.ref (s.heap.objs.size+1)) (.type "object")) true :=
  y1.andThen (Y.top.keeps fun b o e=>aaG _ (aaG _ e))
 refine wpAny_call (DY I.kC M.makes M.init (fun self=>Looks.of_pure (PySem.W.oi_bind self)) ?_)
 refine codeAny_call_builtin PySem.W.oi_plain PySem.W.entry_oi (@PySem.W.check_slot (model X.prog X.w) _ _ _ "object.__init__" "object" "__init__" (.ref (s.heap.objs.size+1)) [] [] _ PySem.W.oi_kind PySem.W.oi_split y2 (PySem.W.oi_args (.ref (s.heap.objs.size+1))) ?_)
 rw [oi_run]
 exact aaV ⟨rfl,⟨V.ref (s.heap.objs.size+1),_,I2,rfl,hq⟩⟩
theorem Pm (M:X0 X.K C) (hg:Gl X x) (hm:X.mg x=some (.ref C)) (u7:(x == ("__debug__":Str))=false:=by decide):PE X (.Call (.Name x p) [] [] pos) (Ht C):=by
 intro pins s σ H Q I h
 refine wpAny_Call_Name_kw (kE I hg hm ?_ u7)
 exact PySem.W.callWith_K0 I.kC M.kp (EE M I h)
theorem r8{e:Expr}{t t':TE}(h:PE X e t)(h':PE X e t'):PE X e (fun σ H Q=>t σ H Q\/t' σ H Q):=fun pins s σ H Q I z=>z.elim (h pins s σ H Q I) (h' pins s σ H Q I)
end
def del(H:Hp)(c:Addr):Hp:=fun b=>if b=c then none else H b
theorem jW{H:Hp}{c:Addr}:del H c c=none:=by unfold del;rw [if_pos rfl]
theorem dw{H:Hp}{c b:Addr}(h:b≠c):del H c b=H b:=by unfold del;rw [if_neg h]
def dB(c:Addr)(v:V)(ob:Obj):HO:=.ext fun h=>h.get? c=some ob/\∃ u,RelV v u/\ob.data=.cell (some u)
theorem ai.del{H H':Hp}{c:Addr}{o:HO}(h:H c=some o)(s:ai (L2.del H c) H'):ai H (upd H' c o):=fun b u e=>by
 by_cases z:b=c
 ·subst z
  rw [h] at e
  cases e
  exact av
 ·rw [ax z]
  exact s b u (by rw [dw z];exact e)
theorem ai.EF{H H':Hp}{c:Addr}{o:HO}(h:H c=none)(s:ai (upd H c o) H'):ai H (L2.del H' c):=fun b u e=>by
 have z:b≠c:=fun z=>by rw [z,h] at e;cases e
 rw [dw z]
 exact s b u (by rw [ax z];exact e)
section
variable {P:Program}{w:World}
theorem gW.lend{H:Hp}{h:Heap}{c:Addr}{v:V}{ob:Obj}(k:gW P w H h)(n:H c=none)(e:h.get? c=some ob)(hv:∃ u,RelV v u/\ob.data=.cell (some u)):gW P w (upd H c (dB c v ob)) h:=fun b o q=>by
 by_cases z:b=c
 ·subst z
  rw [av] at q
  cases q
  exact⟨⟨e,hv⟩,⟨_,e⟩,fun h1 h2 x y=>⟨y _ x.1,x.2⟩⟩
 ·rw [ax z] at q
  refine (k b o q).qX (fun d u _ y=>y) (fun d y=>?_) fun d xs y=>?_
  ·rw [ax (fun z=>by rw [z,n] at y;cases y)];exact y
  ·rw [ax (fun z=>by rw [z,n] at y;cases y)];exact y
theorem gW.back{H:Hp}{h:Heap}{c:Addr}{φ:Heap->Prop}(k:gW P w H h)(e:H c=some (.ext φ)):gW P w (L2.del H c) h:=fun b o q=>by
 have z:b≠c:=fun z=>by rw [z,jW] at q;cases q
 rw [dw z] at q
 refine (k b o q).qX (fun d u _ y=>y) (fun d y=>?_) fun d xs y=>?_
 ·rw [dw (fun z=>by rw [z,e] at y;cases y)];exact y
 ·rw [dw (fun z=>by rw [z,e] at y;cases y)];exact y
theorem Un.back{fs:List Addr}{H H':Hp}{h h':Heap}{c:Addr}{v:V}{ob:Obj}(u:Un fs [] (upd H c (dB c v ob)) H' h h')(n:H c=none)(e:h.get? c=some ob)(e':H' c=some (dB c v ob))(k:gW P w H' h'):Un fs [] H (L2.del H' c) h h':=by
 have hc:h'.get? c=some ob:=(k c _ e').1.1
 have up:∀ {b:Addr},b≠c->upd H c (dB c v ob) b=H b:=fun z=>ax z
 have no:∀ {b:Addr} {o:HO},H b=some o->b≠c:=fun q z=>by rw [z,n] at q;cases q
 refine⟨fun b o q m hb hx=>?_,fun b o q m hb hx=>?_,fun b o q m hx=>?_,fun b o q hx=>u.there b o q hx,fun b xs q=>?_,fun b o x q=>?_,fun b ps q=>?_⟩
 ·by_cases z:b=c
  ·subst z;rw [e] at q;cases q;exact hc
  ·exact u.keep b o q (by rw [up z];exact m) hb hx
 ·by_cases z:b=c
  ·subst z;rw [e] at q;cases q;exact⟨ob.slots,hc⟩
  ·exact u.slot b o q (by rw [up z];exact m) hb hx
 ·by_cases z:b=c
  ·subst z;exact jW
  ·rw [dw z];exact u.free b o q (by rw [up z];exact m) hx
 ·rw [dw (no q)];exact u.nr b xs (by rw [up (no q)];exact q)
 ·rw [dw (no q)];exact u.lL b o x (by rw [up (no q)];exact q)
 ·rw [dw (no q)];exact u.lM b ps (by rw [up (no q)];exact q)
end
section
variable {X:Cx}{pins:List (Addr×Obj)}{σ:St}{H:Hp}{s s':Shared}
theorem Inv.EF{y:Str}{c:Addr}{v:V}{u:Value}(I:Inv X pins σ H s)(hc:X.env.cells.lookup y=some c)(hf:X.fn y=true)(hu:s.heap.IsCell c (some u))(r:RelV v u) :
  ∃ ob,s.heap.get? c=some ob/\H c=none/\zl X.prog X.w X.K X.mg X.base X.A X.stack s (upd H c (dB c v ob)):=by
 obtain ⟨ob,e,d⟩:=hu
 have n:=I.fO y c hc
 have big:=I.ok.QT y c hf hc
 have E:=I.NS
 refine⟨ob,e,n,E.frames,E.mod,fun b o q=>?_,E.Bf,E.nu,fun b hb=>?_,E.bc.lend n e ⟨u,r,d⟩,E.bare⟩
 ·have z:b≠c:=fun z=>by
   have h1:=aaJ q
   have h2:=I.ok.Bf
   rw [z] at h1
   exact absurd h1 (Nat.not_lt.mpr (aaL h2 big))
  rw [ax z]
  exact E.bs b o q
 ·have z:b≠c:=fun z=>by
   subst z
   rcases aa9.mp (I.sJ b hb) with r1|r1
   ·obtain ⟨m,⟨o,es,ep,ho,r2⟩,_⟩:=I.loc
    rw [<- r1,e] at ho
    cases ho
    have:=r2.1
    rw [d] at this
    cases this
   ·have h1:=(I.ok.nu.mem r1).2
    obtain ⟨o1,q1,_⟩:=h1
    exact absurd (aaJ q1) (Nat.not_lt.mpr big)
  rw [ax z]
  exact E.Mj b hb
theorem Li{CX:Gf}{k:Nat}{f:Addr}{fd:FuncData}{ps:List Str}{sp:Sp}{Q:VK}{us:List Value}{vs:List V}{y:Str}{c:Addr}{v:V}{u:Value}{E':Obj->XK}(F:nC X.prog X.w X.K X.mg X.base CX k f fd ps sp)(hr:c9 k X.A)(hb:Binds X.K fd ps [])
  (I:Inv X pins σ H s) (r:Vals vs us) (hc:X.env.cells.lookup y=some c) (hf:X.fn y=true) (hu:s.heap.IsCell c (some u)) (rv:RelV v u)
  (hx:∀ ob,H c=none->s.heap.get? c=some ob->∀ e s',CX X.stack (upd H c (dB c v ob)) s (E' ob) e s'->X.xe e s')
  (h:∀ ob,sp vs (upd H c (dB c v ob)) (fun r H'=>H' c=some (dB c v ob)/\Q r (L2.del H' c)) (E' ob)):wpAny (model X.prog X.w) X.A (call (.ref f) us) (EP X pins σ Q) X.xe s:=by
 obtain ⟨ob,e,n,E0⟩:=I.EF hc hf hu rv
 have hl:(us++[]).length=ps.length:=by rw [append_nil,<- r.length];exact F.len _ _ _ _ (h ob)
 have wH:=hb s us I.kC hl
 rw [append_nil] at wH
 refine wpAny_call (codeAny_mono (F.run X.A X.stack s _ ⟨us,[]⟩ us vs _ (E' ob) hr E0 wH r (h ob)) fun r s' hq=>?_)
 cases r with
 | error e1=>exact hx ob n e e1 s' hq
 | ok fl =>
  cases fl with
  | ret u1 =>
   obtain ⟨v',H',os,bare,un,bc,rv',q1,q2⟩:=hq
   exact I.after ⟨v',L2.del H' c,os,bare,un.back n e q1 bc,bc.back q1,rv',q2⟩
  | next=>exact False.elim hq
  | brk=>exact False.elim hq
  | cont=>exact False.elim hq
theorem Un.lend{fs:List Addr}{H H':Hp}{h h':Heap}{c:Addr}{v:V}{ob:Obj}(u:Un fs [] (L2.del H c) H' h h')(e:H c=some (dB c v ob)):Un fs [] H (upd H' c (dB c v ob)) h h':=by
 have no:∀ {b:Addr},H b=none->b≠c:=fun m z=>by rw [z,e] at m;cases m
 refine⟨fun b o q m hb hx=>u.keep b o q (by rw [dw (no m)];exact m) hb hx,fun b o q m hb hx=>u.slot b o q (by rw [dw (no m)];exact m) hb hx,fun b o q m hx=>?_,fun b o q hx=>u.there b o q hx,fun b xs q=>?_,fun b o x q=>?_,fun b ps q=>?_⟩
 ·rw [ax (no m)];exact u.free b o q (by rw [dw (no m)];exact m) hx
 ·have z:b≠c:=fun z=>by rw [z,e] at q;cases q
  rw [ax z];exact u.nr b xs (by rw [dw z];exact q)
 ·have z:b≠c:=fun z=>by rw [z,e] at q;cases q
  rw [ax z];exact u.lL b o x (by rw [dw z];exact q)
 ·have z:b≠c:=fun z=>by rw [z,e] at q;cases q
  rw [ax z];exact u.lM b ps (by rw [dw z];exact q)
end
end L2
namespace L2
open PySem PySem.Spec PyProof.Rows PySem.W
section
variable {X:Cx}{pins:List (Addr×Obj)}{σ:St}{H:Hp}{s s':Shared}
abbrev BZ(X:Cx)(A:Around)(N:List Str)(qual:Str)(scope:Scope)(f:Addr)(cd:Value)(cl:List (Str×Addr))(s:Shared)(H:Hp)(xe:Value->Shared->Prop):Cx :=
 { X with A:=A.deeper (PySem.W.envX qual scope s.heap.objs.size f cd cl),N:=N,s₀:=s,H₀:=H,env:=PySem.W.envX qual scope s.heap.objs.size f cd cl,outer:=X.stack,stack:=PySem.W.envX qual scope s.heap.objs.size f cd cl::X.stack,ex:=[],fn:=fun _=>false,calm:=true,pn:=[],xe:=xe }
theorem EG{A:Around}{f c' cS:Addr}{qual p y:Str}{params:Arguments}{body:Expr}{scope:Scope}{cl:List (Str×Addr)}{pm pG:Value}{x v:V}{u:Value}{ob:Obj}{te:TE}{Q:VK}
  (I:Inv X pins σ H s) (hd:A.handled=none) (Pb:A.frames=some X.stack) (Hf:A.depth<recursionLimit)
  (ho:s.heap.get? f=some (kla_obj "<lambda>" qual params body scope cl pm c' pG)) (xb:s.heap.CodeRec (.ref c') qual)
  (jV:bindArgs (kla_fn "<lambda>" qual params body scope cl pm (.ref c') pG) ⟨[u],[]⟩=pure [(p,u)])
  (tH:scope.names.lookup p=some .local) (K8:scope.isCoroutine=false) (xC:scope.isGenerator=false) (hk:scope.kind=.function) (eC:∀ y∈scope.names,y.2≠.cell)
  (wc:∀ z,scope.names.lookup z=some .free->z=y) (tj:∀ z c,cl.lookup z=some c->z=y/\c=cS) (TQ:cl.lookup y=some cS) (X1:scope.names.lookup y=some .free) (EH:H cS=some (dB cS v ob))
  (he:PE (BZ X A [p,y] qual scope f (.ref c') cl s (L2.del H cS) fun _ _=>False) body te) (r:RelV x u) (h:te [some x,some v] (L2.del H cS) fun z H2=>H2 cS=none->Q z (upd H2 cS (dB cS v ob))) :
  wpAny (model X.prog X.w) A (call (.ref f) [u]) (EP X pins σ Q) (fun _ _=>False) s:=by
 obtain ⟨⟨Pn,uv,ruv,Vv⟩,_,_⟩:=I.bc cS _ EH
 have ncl:∀ b,H b=none->b≠cS:=fun b m z=>by rw [z,EH] at m;cases m
 refine wpAny_call (codeAny_mono (show codeAny _ _ _ (CR D6 X.stack X.prog X.w H s Q E0) s from ?_) fun r s' hq=>?_)
 ·refine kla_callFunE Hf ho rfl K8 xC rfl xb ?_
  rw [jV]
  refine aaV (wpAny_newFunctionEnv eC (fun y hy=>by rw [aa2.mp hy];exact tH) (fun h₁ xD FR=>⟨I.nolimit.fresh _ FR,?_⟩) hk)
  show codeAny _ _ (.expr body (envX qual scope s.heap.objs.size f (.ref c') cl)) _ _
  have old:∀ b o,s.heap.get? b=some o->h₁.get? b=some o:=fun b o e=>FR.extBut b o (abw (aaJ e)) (aaG _ e)
  have TR:gW X.prog X.w (L2.del H cS) s.heap:=I.bc.back EH
  have dn:∀ {b:Addr},H b=none->L2.del H cS b=none:=fun {b} m=>by rw [dw (ncl b m)];exact m
  have J:Inv (BZ X A [p,y] qual scope f (.ref c') cl s (L2.del H cS) fun _ _=>False) [] [some x,some v] (L2.del H cS) { s with heap:=h₁,toks:=s.toks+[(p,u)].length }:=by
   refine⟨⟨I.ok.mod,hk,rfl,rfl,aaM _,fun a b c q1 q2=>by rw [(tj a c q1).1,(tj b c q2).1],fun z hz=>?_,fun x c hf _=>absurd hf Bool.false_ne_true,fun _=>hd,Around.frames_deeper Pb,.inr ⟨rfl,rfl⟩,fun b hb=>(nomatch hb),fun b o q=>⟨(I.bs b o q).1,dn (I.bs b o q).2⟩,aaL I.ok.Bf I.sz,fun b _ _ hb=>(nomatch hb),fun b hb=>(nomatch hb),I.stack,fun b hb=>dn (I.kD b hb)⟩,
    rfl,I.bare,Un.kept old,⟨_,xD,fun i z w h1 h2 h3=>?_⟩,fun z c q=>?_,TR.fresh (aaM _),fun z c q=>by rw [(tj z c q).2];exact jW,fun p hp=>(nomatch hp),TR.kept old,rfl⟩
   ·rcases hz with hz|hz
    ·exact absurd rfl (eC _ (PySem.mem_of_lookup hz))
    ·exact⟨cS,by rw [wc z hz];exact TQ⟩
   ·match i with
    | 0 =>
     have e1:p=z:=by simpa using h1
     have e2:x=w:=by simpa using h2
     subst e1
     subst e2
     exact⟨u,r,.inl ⟨tH,by simp⟩⟩
    | 1 =>
     have e1:y=z:=by simpa using h1
     have e2:v=w:=by simpa using h2
     subst e1
     subst e2
     exact⟨uv,ruv,.inr ⟨.inr X1,cS,TQ,⟨ob,old _ _ Pn,Vv⟩⟩⟩
    | i+2=>simp at h1
   ·rw [(tj z c q).2]
    exact⟨_,⟨ob,old _ _ Pn,Vv⟩⟩
  refine kla_codeExpr (aaW (he [] _ _ (L2.del H cS) _ J h) (fun z s' hv=>?_) fun _ _ no=>no.elim)
  obtain ⟨z',H',J',rv,q⟩:=hv
  have un:Un (Be X.stack) [] (L2.del H cS) H' s.heap s'.heap:=J'.base
  have nfr:cS∉Be X.stack:=fun hb=>by have:=I.kD cS hb;rw [EH] at this;cases this
  have Lj:s'.heap.get? cS=some ob:=un.keep cS ob Pn jW nfr (by simp)
  have FT:H' cS=none:=un.free cS ob Pn jW (by simp)
  exact⟨z',_,J'.os,J'.bare,un.lend EH,gW.lend J'.bc FT Lj ⟨uv,ruv,Vv⟩,rv,q FT⟩
 ·cases r with
  | error e=>exact hq
  | ok fl =>
   cases fl with
   | ret u=>exact I.after hq
   | next=>exact False.elim hq
   | brk=>exact False.elim hq
   | cont=>exact False.elim hq
end
end L2
namespace L2
open PySem PySem.Spec PyProof.Rows PySem.W
def jG(H:Hp)(f cS:Addr)(v:V)(ob:Obj)(q y:Str)(params:Arguments)(body:Expr)(scope:Scope):Prop:=∃ c' cl,H f=some (pH f c' q params body scope cl)/\H c'=some (nU c' q)/\(∀ z c,cl.lookup z=some c->z=y/\c=cS)/\cl.lookup y=some cS/\H cS=some (dB cS v ob)
theorem jG.same{H H':Hp}{f cS:Addr}{v:V}{ob:Obj}{q y:Str}{params:Arguments}{body:Expr}{scope:Scope}(h:jG H f cS v ob q y params body scope)(s:ai H H'):jG H' f cS v ob q y params body scope:=by
 obtain ⟨c',cl,h1,h2,h3,h4,h5⟩:=h
 exact⟨c',cl,s _ _ h1,s _ _ h2,h3,h4,s _ _ h5⟩
def B0.FnO(H:Hp)(f:Addr):Prop:=∃ c' q params body scope cl,H f=some (pH f c' q params body scope cl)
def B0(q y:Str)(params:Arguments)(body:Expr)(scope:Scope)(te:TE)(i:Nat)(t:TE):TE:=fun σ H Q=>∃ f,σ[i]?=some (some (.ref f))/\B0.FnO H f/\t σ H fun x H1=>∃ cS v ob,jG H1 f cS v ob q y params body scope/\te [some x,some v] (L2.del H1 cS) fun z H2=>H2 cS=none->Q z (upd H2 cS (dB cS v ob))
section
variable {X:Cx}{k:Nat}
theorem Ad{P:Program}{w:World}{H:Hp}{h:Heap}{f c':Addr}{q:Str}{params:Arguments}{body:Expr}{scope:Scope}{cl:List (Str×Addr)}(k:gW P w H h)(e:H f=some (pH f c' q params body scope cl)):FnAt f h:=by
 obtain ⟨⟨pm,pG,z⟩,_⟩:=k f _ e
 exact⟨_,_,_,_,z⟩
theorem Ae{x p y q:Str}{i:Nat}{p1 pos:Pos}{e:Expr}{t te:TE}{params:Arguments}{body:Expr}{scope:Scope}(hr:c9 k X.A)(hN:X.N[i]?=some x)(hv:Ny X.env.scope x)(ha:PE X e t)(hxe:∀ e s,False->X.xe e s)
  (jV:∀ (cl:List (Str×Addr)) (pm pG:Value) (c':Addr) (u:Value),bindArgs (kla_fn "<lambda>" q params body scope cl pm (.ref c') pG) ⟨[u],[]⟩=pure [(p,u)])
  (tH:scope.names.lookup p=some .local) (K8:scope.isCoroutine=false) (xC:scope.isGenerator=false) (hk:scope.kind=.function) (eC:∀ y∈scope.names,y.2≠.cell)
  (wc:∀ z,scope.names.lookup z=some .free->z=y) (X1:scope.names.lookup y=some .free)
  (he:∀ f c' cl s H,PE (BZ X X.A [p,y] q scope f (.ref c') cl s H fun _ _=>False) body te)
  (u7:(x == ("__debug__":Str))=false:=by decide) (xb:(x == ("__classdict__":Str))=false:=by decide)
  (lO:starEach [e] X.env=(false,eval e X.env)::starEach [] X.env:=by rfl) (qL:(backTo pos (starEach [] X.env)).any (·.1)=false:=by rfl) :
  PE X (.Call (.Name x p1) [e] [] pos) (B0 q y params body scope te i t):=by
 intro pins s σ H Q I ⟨f,hσ,⟨c0,q0,ps0,b0,s0,cl0,hf0⟩,h⟩
 refine wpAny_Call_Name_kw ?_
 refine c6 (F3 (pos:=p1) hN hv u7 xb pins s σ H (fun v H'=>v=.ref f/\H'=H) I ⟨.ref f,hσ,rfl,rfl⟩) fun u s1 ⟨v,H',I1,r1,e1,e2⟩=>?_
 subst e1
 subst e2
 obtain rfl:u=.ref f:=r1
 have Tw:PA X [e] (qK t zk):=aa ha af lO
 refine callWith_F (first:=[]) (Ad I1.bc hf0) (c6 (Tw pos pins s1 σ _ (fun vs H1=>match vs with|[x]=>∃ cS v ob,jG H1 f cS v ob q y params body scope/\te [some x,some v] (L2.del H1 cS) fun z H2=>H2 cS=none->Q z (upd H2 cS (dB cS v ob))|_=>False) I1 h) fun us s2 ⟨vs,H2,I2,r2,hq⟩=>?_) lO qL
 cases r2 with
 | nil=>exact (show False from hq).elim
 | cons ru2 rb =>
  cases rb with
  | cons _ _=>exact (show False from hq).elim
  | nil =>
   obtain ⟨cS,v,ob,⟨c',cl,l1,l2,l3,l4,l5⟩,q2⟩:=(show ∃ cS v ob,jG H2 f cS v ob q y params body scope/\te [some _,some v] (L2.del H2 cS) fun z H2=>H2 cS=none->Q z (upd H2 cS (dB cS v ob)) from hq)
   refine⟨Ad I2.bc l1,?_⟩
   obtain ⟨⟨pm,pG,Pn⟩,_⟩:=I2.bc f _ l1
   obtain ⟨hcr,_⟩:=I2.bc c' _ l2
   exact aaW (EG I2 hr.hd I2.ok.frames hr.depth Pn hcr (jV cl pm pG c' _) tH K8 xC hk eC wc l3 l4 X1 l5 (he f c' cl s2 _) ru2 q2) (fun _ _ z=>z) hxe
end
end L2
namespace L2
open PySem PySem.Spec PyProof.Rows PySem.W
def TU(P:Addr)(lp:Pos)(q:Str)(params:Arguments)(body:Expr)(scope:Scope)(cells:List (Str×Addr)):TE:=fun _ H Q=>gx P lp q H/\∀ f c' H',dv P H H'->gx P lp q H'->H' f=some (pH f c' q params body scope (dP cells scope.names []))->H' c'=some (nU c' q)->Q (.ref f) H'
def Po(cells:List (Str×Addr))(y:Str)(j:Nat)(sp:Sp)(t:TA):TE:=fun σ H Q=>t σ H fun vs H1=>∃ v,σ[j]?=some (some v)/\∀ c ob,cells.lookup y=some c->H1 c=none->sp vs (upd H1 c (dB c v ob)) (fun r H'=>H' c=some (dB c v ob)/\Q r (L2.del H' c)) E0
section
variable {X:Cx}{k:Nat}{x y:Str}{ps:List Str}{sp:Sp}{p pos:Pos}{e:Expr}{es:List Expr}{t:TA}{j:Nat}{EX:Vz}
theorem DG {P c:Addr} {lp:Pos} {q:Str} {params:Arguments} {body:Expr} {scope:Scope} (hq:X.env.qual ++ "<lambda>"=q) (qR:X.env.code=.ref c) (C:CodeHd X.base c P) (hB:X.base.BuiltinsAt X.mg P) (BU:defaultsOf params X.env=([],[]))
  (nH:(scope.names.all fun y=>!(y.2 == NameKind.free) || (X.env.cells.lookup y.1).isSome)=true):PE X (.Lambda params body scope lp) (TU P lp q params body scope X.env.cells):=by
 subst hq
 exact fun pins s σ H Q I h=>z7 I h.1 qR C hB BU nH h.2
theorem Hv(O:Ok X.prog X.w X.K X.mg X.base k x ps sp)(hr:c9 k X.A)(ha:PA X (e::es) t)(hN:X.N[j]?=some y)(hv:Ny X.env.scope y)(hky:X.env.kindOf y=some .cell)(RF:X.fn y=true)(hg:Gl X x:=by rfl)
  (u7:(x == ("__debug__":Str))=false:=by decide) (he:starEach (e::es) X.env=(false,eval e X.env)::starEach es X.env:=by rfl) (qL:(backTo pos (starEach es X.env)).any (·.1)=false:=by rfl) :
  PE X (.Call (.Name x p) (e::es) [] pos) (Po X.env.cells y j sp t):=by
 obtain ⟨f,fd,F,hm,hk,hb⟩:=O
 intro pins s σ H Q I h
 refine wpAny_Call_Name_kw (kE I hg hm ?_ u7)
 refine callWith_K (h₀:=X.base) I.ok.mod.Nx hk (c6 (ha pos pins s σ H _ I h) fun us s1 ⟨vs,H1,I1,r,v,hσ,q⟩=>⟨I1.kC,?_⟩) he qL
 obtain ⟨m,hn,hl⟩:=I1.loc
 obtain ⟨u,ru,l⟩:=hl j y v hN hσ hv
 rcases l with ⟨l1,_⟩|⟨_,c,hc,eC⟩
 ·rw [hky] at l1;cases l1
 ·exact Li (E':=fun _=>E0) F hr hb I1 r hc RF eC ru (fun ob n e e' s' z=>(show False from z).elim) fun ob=>q c ob hc (I1.fO y c hc)
end
end L2
namespace L2
open PySem PySem.Spec PyProof.Rows PySem.W
def TV:Stmt->Expr
 | .Return (some e) _=>e
 | _=>.Name "" ⟨0,0,0,0⟩
def TX(i:Nat):Expr->Expr
 | .Call _ as _ _=>as.getD i (.Name "" ⟨0,0,0,0⟩)
 | e=>e
def EI:Expr->Arguments
 | .Lambda p _ _ _=>p
 | _=>⟨[],[],none,[],[],none,[]⟩
def EJ:Expr->Expr
 | .Lambda _ b _ _=>b
 | e=>e
def Af:Expr->Scope
 | .Lambda _ _ s _=>s
 | _=>⟨.function,[],false,false,[]⟩
def TY:Expr->Pos
 | .Lambda _ _ _ l=>l
 | _=>⟨0,0,0,0⟩
theorem pJ{y:Str}:∀ {l:List (Str×NameKind)},(l.all fun p=>!(p.2 == NameKind.free) || p.1 == y)=true->∀ z,l.lookup z=some .free->z=y
 | [],_,_,h=>by simp at h
 | (a,b)::l,h,z,e=>by
  rw [all_cons,Bool.and_eq_true] at h
  rw [lookup_cons] at e
  by_cases c:z == a
  ·rw [c] at e
   have eb:b=.free:=aaO e
   have:=h.1
   rw [eb] at this
   have ha:a=y:=by simpa using this
   rw [<- ha]
   exact eq_of_beq c
  ·rw [Bool.not_eq_true] at c
   rw [c] at e
   exact pJ h.2 z e
end L2
namespace L2
open PySem PySem.Spec PyProof.Rows PySem.W
theorem Lk{K:Frag}{D:Ends}{σ:St}{H:Hp}{k1 k2 k3:Bool}{a b c:Addr}{xs ys zs:List V}{m n o:Nat}{tb:TS}(hlen:xs.length=ys.length)(M1:xs.length=zs.length)(Pv:Nat->St->Hp->Prop)(h0:Pv 0 σ H)(ha:∀ i σ H2,Pv i σ H2->Sq k1 K H2 a xs/\Sq k2 K H2 b ys/\Sq k3 K H2 c zs)
  (hs:∀ (i:Nat) x y z σ H2 H3,xs[i]?=some x->ys[i]?=some y->zs[i]?=some z->Pv i σ H2->ai H2 H3->tb { D with nx:=Pv (i+1),ct:=Pv (i+1),bk:=D.nx } (((σ.set m (some x)).set n (some y)).set o (some z)) H3)
  (hd:∀ σ H2,Pv xs.length σ H2->D.nx σ H2):hU (qZ K 3 (d5 (bT m) (d5 (bT n) (d5 (bT o) sR)))) tb D (KS K k1 k2 k3 a b c) σ H:=by
 refine wJ xs.length Pv h0 (fun i σ H2 hi p=>?_) (fun σ H2 p=>⟨_,(ha _ σ H2 p).1,aaM _⟩) (fun i x σ H2 H3 hi p hy=>?_) hd
 ·obtain ⟨a1,a2,a3⟩:=ha i σ H2 p
  exact⟨_,_,_,xs[i],ys[i]'(hlen ▸ hi),zs[i]'(M1 ▸ hi),a1,a2,a3,aaZ hi,aaZ (hlen ▸ hi),aaZ (M1 ▸ hi)⟩
 ·obtain ⟨a1,a2,a3⟩:=ha i σ H2 p
  obtain ⟨q,x',y',z',rfl,hq,e1,e2,e3,rfl⟩:=hy
  refine⟨q,_,rfl,aN.of av,rfl,_,_,rfl,_,_,rfl,_,_,rfl,rfl,?_⟩
  exact hs i x' y' z' σ _ _ (e1 _ a1) (e2 _ a2) (e3 _ a3) p (ai.bC hq)
end L2
namespace L2
open PySem PySem.Spec PyProof.Rows PySem.W
abbrev me:=Addr×Pos×Str
def cq(Ts:List me)(H H':Hp):Prop:=∀ b o,(∀ t∈Ts,b≠t.1)->H b=some o->H' b=some o
def dW(Ts:List me)(H:Hp):Prop:=(Ts.map (·.1)).Nodup/\∀ t∈Ts,gx t.1 t.2.1 t.2.2 H
section
variable {Ts:List me}{H H' H1 H2:Hp}{K:Frag}{a l:Addr}{xs:List V}
theorem cq.trans(s:cq Ts H H1)(u:cq Ts H1 H2):cq Ts H H2:=fun x o n e=>u x o n (s x o n e)
theorem cq.of(s:ai H H1):cq Ts H H1:=fun x o _ e=>s x o e
theorem dv.s{t:me}(s:dv t.1 H H1)(h:t∈Ts):cq Ts H H1:=fun b o n e=>s b o (n t h) e
theorem dW.same(t:dW Ts H)(s:ai H H'):dW Ts H':=⟨t.1,fun x hx=>(t.2 x hx).same s⟩
theorem dW.no{b:Addr}{o:HO}(t:dW Ts H)(e:H b=some o)(h:∀ ps,o≠.sG ps):∀ x∈Ts,b≠x.1:=fun x hx z=>by
 obtain ⟨ps,hp⟩:=(t.2 x hx).at
 rw [<- z,e] at hp
 cases hp
 exact h ps rfl
theorem cq.get{b:Addr}{o:HO}(s:cq Ts H H')(t:dW Ts H)(e:H b=some o)(h:∀ ps,o≠.sG ps):H' b=some o:=s b o (t.no e h) e
theorem cq.at(s:cq Ts H H')(t:dW Ts H)(h:aN K H a xs):aN K H' a xs :=
 h.imp (fun z=>z.imp (fun e=>s.get t e fun _ w=>nomatch w) fun ⟨o,e⟩=>⟨o,s.get t e fun _ w=>nomatch w⟩) id
theorem cq.seq(s:cq Ts H H')(t:dW Ts H)(h:aR K H a xs):aR K H' a xs :=
 h.imp (fun z=>z.imp (fun e=>s.get t e fun _ w=>nomatch w) fun ⟨o,e⟩=>⟨o,s.get t e fun _ w=>nomatch w⟩) id
theorem cq.lst(s:cq Ts H H')(t:dW Ts H)(h:H a=some (.lst xs)):H' a=some (.lst xs):=s.get t h fun _ w=>nomatch w
theorem cq.new(s:cq Ts H H')(t:dW Ts H')(n:H' a=none):H a=none:=by
 match e:H a with
 | none=>rfl
 | some o =>
  by_cases z:∀ x∈Ts,a≠x.1
  ·rw [s a o z e] at n
   cases n
  ·exfalso
   apply z
   intro x hx w
   obtain ⟨ps,hp⟩:=(t.2 x hx).at
   rw [w,hp] at n
   cases n
theorem wR:∀ {Ts:List me} {x t:me},(Ts.map (·.1)).Nodup->x∈Ts->t∈Ts->x.1=t.1->x=t
 | y::Ts,x,t,h,hx,ht,e=>by
  rw [map_cons,nodup_cons] at h
  rcases aa9.mp hx with rfl|lP
  ·rcases aa9.mp ht with rfl|Jz
   ·rfl
   ·exact absurd (mem_map_of_mem (f:=fun y:me=>y.1) Jz) (fun w=>h.1 (by rw [e];exact w))
  ·rcases aa9.mp ht with rfl|Jz
   ·exact absurd (mem_map_of_mem (f:=fun y:me=>y.1) lP) (fun w=>h.1 (by rw [<- e];exact w))
   ·exact wR h.2 lP Jz e
theorem dW.step{t:me}(T:dW Ts H)(ht:t∈Ts)(s:dv t.1 H H')(n:gx t.1 t.2.1 t.2.2 H'):dW Ts H':=by
 refine⟨T.1,fun x hx=>?_⟩
 by_cases z:x.1=t.1
 ·rw [wR T.1 hx ht z]
  exact n
 ·obtain ⟨ps,h1,h2,h3⟩:=T.2 x hx
  obtain ⟨pt,Jz⟩:=(T.2 t ht).at
  exact⟨ps,s _ _ z h1,h2,h3.imp id fun ⟨c,e,y⟩=>⟨c,e,s _ _ (fun w=>by rw [w,Jz] at y;cases y) y⟩⟩
end
def xM(Ts:Frag->List me)(K:Frag):Sp:=fun vs H Q _=>∃ (a:Addr) (ns:List Int),vs=[.ref a]/\aR K H a (ns.map V.int)/\ns.length<=63/\dW (Ts K) H/\∀ H',Q (.bl true) H'
def tK(tf:Frag->Option (Addr×Addr))(K:Frag):Addr:=((tf K).getD (0,0)).2
theorem kL{tf:Frag->Option (Addr×Addr)}{K:Frag}{c P:Addr}(h:tf K=some (c,P)):tK tf K=P:=by unfold tK;rw [h];rfl
end L2
namespace L2
open PySem PySem.Spec PyProof.Rows PySem.W
theorem EK{l:OpenLaw}{k:Nat}{pq:Program}{loose:List Str}{XP:(Str->Option Value)->Heap->Prop}{YP:World->Heap->Prop}{d:DefRec}{K:Params->Frag}{x:Str}{c1 P1 c2 P2 c3 P3:Addr}(t1:Frag->Option (Addr×Addr))(lp1:Pos)(q1:Str)(t2:Frag->Option (Addr×Addr))(lp2:Pos)(q2:Str)(t3:Frag->Option (Addr×Addr))(lp3:Pos)(q3:Str)
  (hi:importsNone pq=true) (hn:l.most=some 63) (WY:d.params.defaults=[]) (hr:c9 k callerA)
  (hY:∀ (w:World) (h:Heap),YP w h->(K w.params).In h/\h.get? P1=some (tabObj #[])/\h.get? P2=some (tabObj #[])/\h.get? P3=some (tabObj #[])) (ht1:∀ w:World,t1 (K w.params)=some (c1,P1)) (ht2:∀ w:World,t2 (K w.params)=some (c2,P2)) (ht3:∀ w:World,t3 (K w.params)=some (c3,P3)) (hh1:∀ w:World,codeHdIn (K w.params) c1 P1=true) (hh2:∀ w:World,codeHdIn (K w.params) c2 P2=true) (hh3:∀ w:World,codeHdIn (K w.params) c3 P3=true) (hk1:∀ w:World,(K w.params).lookup P1=none) (hk2:∀ w:World,(K w.params).lookup P2=none) (hk3:∀ w:World,(K w.params).lookup P3=none)
  (hd:[P1,P2,P3].Nodup)
  (F:∀ (w:World) (mg:Str->Option Value) (fa:Addr) (h:Heap),(K w.params).In h->h.Ns mainGlobals mg->mg d.name=some (.ref fa)->t1 (K w.params)=some (c1,P1)->t2 (K w.params)=some (c2,P2)->t3 (K w.params)=some (c3,P3) ->
   ∃ fd:FuncData,(∀ (s:Shared) (u:Value),BindsTo s fd ⟨[u],[]⟩ [(x,u)]) /\
    ∀ base:Heap,(K w.params).In base->base.Ns mainGlobals mg->CodeHd base c1 P1->base.BuiltinsAt mg P1->CodeHd base c2 P2->base.BuiltinsAt mg P2->CodeHd base c3 P3->base.BuiltinsAt mg P3->base.NoSeer->nC l.prog w (K w.params) mg base D6 k fa fd [x] (xM (fun K=>[(tK t1 K,lp1,q1),(tK t2 K,lp2,q2),(tK t3 K,lp3,q3)]) (K w.params))) :
  PySem.W.WalkO pq loose XP YP l.row.toRowW d [] (fun f vs=>PySem.call f vs):=by
 refine Att.zp hn WY fun w s₀ s₁ mg mb fa o pm cd doc a vs ns G Y ho Vl xb Sa Oa hints hlen hg=>?_
 obtain ⟨KX,hP1,hP2,hP3⟩:=hY w _ Y
 obtain ⟨fd,hb,hF⟩:=F w mg fa _ KX G.T.g Sa (ht1 w) (ht2 w) (ht3 w)
 have m1:(c1,P1)∈[(c1,P1),(c2,P2),(c3,P3)]:=.head _
 have m2:(c2,P2)∈[(c1,P1),(c2,P2),(c3,P3)]:=.tail _ (.head _)
 have m3:(c3,P3)∈[(c1,P1),(c2,P2),(c3,P3)]:=.tail _ (.tail _ (.head _))
 refine EB (tabs:=[(c1,P1),(c2,P2),(c3,P3)]) (fun t h1=>?_) (fun t h1=>?_) G.T.bmain (G.T.seer hi) KX G.T.g G.T.b G.T.builtins G.T.nolimit hg Oa hints (aaL hlen (by decide)) hr (fun base b1 b2 b3 b4=>hF base b1 b2 (b3 _ m1).1 (b3 _ m1).2 (b3 _ m2).1 (b3 _ m2).2 (b3 _ m3).1 (b3 _ m3).2 b4) hb (fun H hO hS=>⟨a,ns,rfl,hS,hlen,⟨?_,fun t h1=>?_⟩,fun _=>rfl⟩) fun H e s' z=>z
 ·rcases aa9.mp h1 with rfl|h1
  ·exact⟨codeHd_of_K KX (hh1 w),hP1⟩
  ·rcases aa9.mp h1 with rfl|h1
   ·exact⟨codeHd_of_K KX (hh2 w),hP2⟩
   ·rw [aa2.mp h1]
    exact⟨codeHd_of_K KX (hh3 w),hP3⟩
 ·rcases aa9.mp h1 with rfl|h1
  ·exact hk1 w
  ·rcases aa9.mp h1 with rfl|h1
   ·exact hk2 w
   ·rw [aa2.mp h1]
    exact hk3 w
 ·show [tK t1 (K w.params),tK t2 (K w.params),tK t3 (K w.params)].Nodup
  rw [kL (ht1 w),kL (ht2 w),kL (ht3 w)]
  exact hd
 ·rcases aa9.mp h1 with rfl|h1
  ·show gx (tK t1 (K w.params)) lp1 q1 H
   rw [kL (ht1 w)]
   exact⟨#[],hO _ m1,trivial,.inl rfl⟩
  ·rcases aa9.mp h1 with rfl|h1
   ·show gx (tK t2 (K w.params)) lp2 q2 H
    rw [kL (ht2 w)]
    exact⟨#[],hO _ m2,trivial,.inl rfl⟩
   ·rw [aa2.mp h1]
    show gx (tK t3 (K w.params)) lp3 q3 H
    rw [kL (ht3 w)]
    exact⟨#[],hO _ m3,trivial,.inl rfl⟩
open PySem PySem.Spec PyProof.Rows
theorem aZ.iJ{Ts:List me}{K:Frag}{H H':Hp}(s:cq Ts H H')(t:dW Ts H):∀ {xs:List V} {rs:List (List Int)},aZ K H xs rs->aZ K H' xs rs
 | _,_,.nil=>.nil
 | _,_,.cons h u=>.cons (s.at t h) (u.iJ s t)
theorem bY.iJ{Ts:List me}{K:Frag}{H H':Hp}(s:cq Ts H H')(t:dW Ts H):∀ {xs:List V} {ks:List (List Int×Int)},bY K H xs ks->bY K H' xs ks
 | _,_,.nil=>.nil
 | _,_,.cons h hw u=>.cons (s.at t h) (s.at t hw) (u.iJ s t)
theorem cp.iJ{Ts:List me}{H H':Hp}(s:cq Ts H H')(t:dW Ts H):∀ {xs:List V} {rs:List (List Int)},cp H xs rs->cp H' xs rs
 | _,_,.nil=>.nil
 | _,_,.cons h u=>.cons (s.lst t h) (u.iJ s t)
theorem dW.ins{Ts:List me}{H:Hp}{x C dx:Addr}{fs:List (Str×V)}{o:HO}(t:dW Ts H)(e:H x=some (.ins C dx fs)):dW Ts (upd H x o):=by
 refine⟨t.1,fun r hr=>?_⟩
 obtain ⟨ps,h1,h2,h3⟩:=t.2 r hr
 refine⟨ps,by rw [ax (fun z=>by rw [z,e] at h1;cases h1)];exact h1,h2,h3.imp id fun ⟨c,hc,hz⟩=>⟨c,hc,?_⟩⟩
 rw [ax (fun z=>by rw [z,e] at hz;cases hz)]
 exact hz
section
variable {K:Frag}{H:Hp}{σ:St}{Q:VK}{ix:List (Option Nat)}
theorem kM{n:Nat}{te:TE}(fr:St)(P:Nat->Int->Prop)(jK:pick ix σ=none::fr)(hn:n<=1000)
  (step:∀ (i:Nat) H' (Qc:VK),i<n->ai H H'->(∀ x H5,P i x->ai H' H5->Qc (.int x) H5)->te (some (.int i)::fr) H' Qc)
  (hQ:∀ l H' (xs:List Int),H l=none->ai H H'->H' l=some (.lst (xs.map V.int))->xs.length=n->(∀ (i:Nat) (x:Int),xs[i]?=some x->P i x)->Q (.ref l) H'):bP ix (bT 0) (fun _ H Q=>Q true H) te σ Q (Mr 0 n) H:=by
 refine cC 1 fr n (fun l i ys H'=>∃ xs:List Int,ys=xs.map V.int/\xs.length=i/\i<=n/\∀ (j:Nat) (x:Int),xs[j]?=some x->P j x) jK (fun l H' _ _ _=>⟨[],rfl,rfl,abv _,fun j x h=>by simp at h⟩) (fun l i ys H' ⟨xs,e,l1,l2,_⟩=>by rw [e,aa5];lia) (fun _ _=>aaM _) (fun i _ hi _=>hi) (fun l i x H' H2 own ys ho hi hl hs dE hp hy Qy Qn ky kn=>?_) (fun l H' ys hl hs dE hp=>?_)
 ·obtain ⟨xs,rfl,l1,l2,hP⟩:=hp
  obtain ⟨o,rfl⟩:∃ o,own=[o]:=by match own,ho with|[o],_=>exact⟨o,rfl⟩
  obtain ⟨rfl,rfl⟩:=hy
  dsimp only [bT]
  rw [if_pos rfl,Int.zero_add]
  refine step i _ _ hi hs fun y H5 py s5=>?_
  refine ky [some (.int i)] (.int y) H5 rfl s5 ⟨xs++[y],by rw [abo];rfl,by rw [aa6,l1];rfl,hi,fun j z hz=>?_⟩
  by_cases hj:j<xs.length
  ·rw [abg hj] at hz
   exact hP j z hz
  ·have lV:=(aaI.mp hz).1
   rw [aa6,aa7] at lV
   obtain rfl:j=i:=by lia
   rw [abh (by lia),show j - xs.length=0 by lia] at hz
   cases hz
   exact py
 ·obtain ⟨xs,rfl,l1,_,hP⟩:=hp
  exact hQ l H' xs hl hs dE l1 hP
end
end L2
namespace L2
open PySem PySem.Spec PyProof.Rows PySem.W PyProof
section
variable {prog:Program}{w:World}{A:Around}{E:Value->Shared->Prop}{s:Shared}
theorem kW{r:Addr}{n:Int}{t u v:Tok}{Q:Value->Shared->Prop}(hr:IsRange s.heap r 0 n 1 t u v)(hn:0<=n/\n<=1000000)
  (h:Q (.ref s.heap.objs.size) { s with heap:=s.heap.push { cls:=.type "range_iterator",data:=.fields #[rawInt (n - 1),rawInt n,rawInt (-1)] } }):wpAny (model prog w) A (call (.builtin "range.__reversed__") [.ref r]) Q E s:=by
 have hT:s.TypeIs (.ref r) "range":=⟨_,hr,rfl⟩
 refine wpAny_call_entry F.slot_range_reversed hT F.entry_range_reversed ?_ (F.args_range_reversed_1 _)
 unfold Builtin.«range.__reversed__»
 refine aaH (wpAny_of_eq (a:=Value.ref r) rfl ?_)
 unfold Builtin.Range.rangeFields
 repeat (any_goals (first|assumption|wp_step))
 have wj:Builtin.Range.rangeSize 0 n 1=n:=by
  unfold Builtin.Range.rangeSize
  rw [if_pos (by decide)]
  split <;> lia
 have f1:Builtin.Range.rangeFitsLong n=true:=by
  unfold Builtin.Range.rangeFitsLong
  rw [aaT (show -(2 ^ 63)<=n by lia),aaT (show n<2 ^ 63 by lia)]
  rfl
 have f2:(Builtin.Range.rangeFitsLong 0 && Builtin.Range.rangeFitsLong n && Builtin.Range.rangeFitsLong 1 && Builtin.Range.rangeFitsLong (-1) && Builtin.Range.rangeFitsLong (0 - 1) && Builtin.Range.rangeFitsLong n)=true:=by
  rw [f1]
  decide
 rw [wj,f2,show (0:Int)+(n - 1)*1=n - 1 by lia]
 rw [if_neg (by decide),if_pos rfl]
 dsimp only
 repeat (any_goals (first|assumption|wp_step))
 exact⟨_,rfl,h⟩
theorem mh{r:Addr}{n:Int}{t u v:Tok}{Q₁:Value->Shared->Prop}(hr:IsRange s.heap r 0 n 1 t u v)(hn:0<=n/\n<=1000000)
  (h:Q₁ (.ref s.heap.objs.size) { s with heap:=s.heap.push { cls:=.type "range_iterator",data:=.fields #[rawInt (n - 1),rawInt n,rawInt (-1)] } }) :
  codeAny (model prog w) A (.call (.builtin "reversed.__new__") ⟨[.type "reversed",.ref r],[]⟩) (wants Q₁ E) s:=by
 have hT:s.TypeIs (.ref r) "range":=⟨_,hr,rfl⟩
 refine codeAny_of_tree ?_
 show wpAny _ A.in1 (do checkBuiltinCall "reversed.__new__" ⟨[.type "reversed",.ref r],[]⟩;again (.builtin "reversed.__new__" ⟨[.type "reversed",.ref r],[]⟩)) _ _ s
 refine aaH (wpAny_of_eq (F.newCall_reversed_1 _) (aaV ⟨plainId_quiet F.plain_reversed_new _,codeAny_builtin F.entry_reversed_new ?_⟩))
 rw [Around.under_plainId F.plain_reversed_new _]
 unfold Builtin.«reversed.__new__»
 refine aaH (wpAny_of_eq (newClass_reversed _) ?_)
 try dsimp only
 refine aaH (wpAny_of_eq (a:=()) (by first|rfl|kernel_rfl) ?_)
 refine aaH (wpAny_of_eq (a:=()) (by first|rfl|kernel_rfl) ?_)
 try dsimp only
 refine aaH (wpAny_specialOf hT F.slot_range_reversed.lookup ?_)
 try dsimp only
 refine aaH (wpAny_of_eq (F.slot_range_reversed.bind _) ?_)
 try dsimp only
 first
 | rw [if_neg (show ¬ ((Value.builtin "range.__reversed__" == Value.none)=true) from Bool.false_ne_true)]
 | (show wpAny _ _ (if (Value.builtin "range.__reversed__" == Value.none)=true then _ else _) _ _ _;rw [if_neg (show ¬ ((Value.builtin "range.__reversed__" == Value.none)=true) from Bool.false_ne_true)])
 refine aaH (wpAny_rule ?_)
 refine aaH (m:=runValue (.call (.builtin "range.__reversed__") ⟨[.ref r],[]⟩)) (show wpAny _ _ (call (.builtin "range.__reversed__") [.ref r]) _ _ _ from kW hr hn ?_)
 first
 | exact aaV h
 | exact aaH (aaV (aaV h))
theorem rA:isSubtype (.type "range_iterator") (.type "reversed")=pure false:=by rw [isSubtype_type];kernel_rfl
theorem kX{r:Addr}{n:Int}{t u v:Tok}{Q:Value->Shared->Prop}(hr:IsRange s.heap r 0 n 1 t u v)(hn:0<=n/\n<=1000000)
  (h:Q (.ref s.heap.objs.size) { s with heap:=s.heap.push { cls:=.type "range_iterator",data:=.fields #[rawInt (n - 1),rawInt n,rawInt (-1)] } }):wpAny (model prog w) A (call (.type "reversed") [.ref r]) Q E s:=by
 refine callType_other (U:="range_iterator") (Q₁:=fun obj s₁=>obj=.ref s.heap.objs.size/\s₁={ s with heap:=s.heap.push { cls:=.type "range_iterator",data:=.fields #[rawInt (n - 1),rawInt n,rawInt (-1)] } }) (by decide +kernel) F.create_reversed ⟨_,_,F.mro_reversed⟩ F.made_reversed rA (F.typeCall_reversed_1 _) (mh hr hn ⟨rfl,rfl⟩) ?_
 rintro obj s₁ ⟨rfl,rfl⟩
 exact⟨⟨_,aaK _ rfl,rfl⟩,h⟩
end
section
variable {X:Cx}{tg:Expr}
def Hy:List V->Hp->(It->Hp->Prop)->Prop:=fun vs H R=>∃ j:Int,vs=[.int j]/\(0<=j/\j<=1000000)/\R (Q7 (j - 1) j.toNat) H
def M3(ta:TA):TI:=fun σ H R=>ta σ H fun vs H1=>Hy vs H1 R
theorem EL {a:Expr} {ta:TA} {p pos p2 tG:Pos} (hg:Gl X "range") (hm:X.mg "range"=none) (JB:Gl X "reversed") (G8:X.mg "reversed"=none) (ha:PA X [a] ta) (hs:starEach [a] X.env=[(false,eval a X.env)]:=by rfl) :
  PI X tg (.Call (.Name "reversed" p2) [.Call (.Name "range" p) [a] [] pos] [] tG) (M3 ta):=by
 intro pins s σ H R I h
 refine wpAny_Call_Name_kw (fv I JB G8 boot_reversed ?_ (by decide) (by decide))
 refine callWith_type1 ?_ rfl rfl
 show wpAny _ _ (spliced ((false,eval (.Call (.Name "range" p) [a] [] pos) X.env)::backTo tG (starEach [] X.env))) _ _ s
 refine Calls.spliced_cons (wpAny_Call_Name_kw (fv I hg hm boot_range (callWith_type1 (c6 (ha pos pins s σ H _ I h) fun us s1 ⟨vs,H1,I1,r1,q1⟩=>?_) (by rw [hs];rfl) (by rfl)) (by decide) (by decide)))
 obtain ⟨j,e,hj,q⟩:=q1
 subst e
 obtain ⟨u,rfl,⟨t,rfl⟩⟩:=vals1 r1
 refine call_range_1 ?_
 refine Calls.spliced_nil ?_
 have I2:Inv X pins σ H1 { s1 with heap:=s1.heap.push { cls:=.type "range",data:=.fields #[.int 0 s1.toks,.int j t,.int 1 (s1.toks+1)] },toks:=s1.toks+1+1 }:=I1.kept fun b o e=>aaG _ e
 refine kX (IsRange.new ..) hj ?_
 refine wpAny_pyIter_rangeiter (aaK _ rfl) ?_
 refine⟨(s1.heap.push { cls:=.type "range",data:=.fields #[.int 0 s1.toks,.int j t,.int 1 (s1.toks+1)] }).objs.size,[(s1.heap.push { cls:=.type "range",data:=.fields #[.int 0 s1.toks,.int j t,.int 1 (s1.toks+1)] }).objs.size],_,_,H1,rfl,I2.kept (t':=s1.toks+1+1) fun b o e=>aaG _ e,wM _ (j - 1) j.toNat,?_,fun b hb=>?_,q⟩
 ·have e1:j - 1+((0:Nat):Int)*(-1)=j - 1:=by simp
  have e2:((j.toNat:Nat):Int) - ((0:Nat):Int)=j:=by lia
  show IsRangeIter _ _ (j - 1+((0:Nat):Int)*(-1)) (((j.toNat:Nat):Int) - ((0:Nat):Int)) (-1)
  rw [e1,e2]
  exact aaK _ rfl
 ·obtain rfl:b=(s1.heap.push { cls:=.type "range",data:=.fields #[.int 0 s1.toks,.int j t,.int 1 (s1.toks+1)] }).objs.size:=by simpa using hb
  exact I2.u6 (aaM _) (I2.bc.fresh (aaM _))
end
section
variable {H:Hp}{σ:St}{R:It->Hp->Prop}
theorem Ll{ts:TA}(h:ts σ H fun vs H1=>Hy vs H1 R):M3 ts σ H R:=h
theorem Pp{j:Int}(h1:0<=j/\j<=1000000)(h:R (Q7 (j - 1) j.toNat) H):Hy [.int j] H R:=⟨j,rfl,h1,h⟩
end
open PySem PySem.Spec PyProof.Rows
section
variable {K:Frag}{H:Hp}{σ:St}{Q:VK}{ix:List (Option Nat)}
theorem tL{te:TE}{a:Addr}{xs:List V}(fr:St)(P:Hp->V->Prop)(jK:pick ix σ=none::fr)(hl:aR K H a xs)(hn:xs.length<=1000)
  (X2:∀ H H' v,P H v->ai H H'->P H' v) (off:∀ H l ys zs v,P H v->H l=some (.lst ys)->P (upd H l (.lst zs)) v)
  (elt:∀ x H' Qc,x∈xs->ai H H'->(∀ v H5,ai H' H5->P H5 v->Qc v H5)->te (some x::fr) H' Qc)
  (hQ:∀ l2 H' zs,H l2=none->ai H H'->H' l2=some (.lst zs)->zs.length=xs.length->(∀ z∈zs,P H' z)->Q (.ref l2) H'):bP ix (bT 0) (fun _ H Q=>Q true H) te σ Q (Jv K a) H:=by
 refine cC 1 fr xs.length (fun l i ys H'=>ys.length=i/\i<=xs.length/\(∀ y∈ys,P H' y)) jK (fun l H' _ _ _=>⟨rfl,abv _,fun _ z=>nomatch z⟩) (fun l i ys H' h=>by have:=h.1;have:=h.2.1;lia) (fun H' s=>⟨xs,s.seq hl,by lia⟩) (fun i H' hi s=>⟨xs,xs[i]'(by lia),s.seq hl,aaZ (by lia)⟩) (fun l i x H' H2 own ys ho hi rY s dE hp hy Qy Qn ky kn=>?_) (fun l2 H' ys a b c d=>hQ l2 H' ys a b c d.1 d.2.2)
 obtain ⟨o1,rfl⟩:∃ o1,own=[o1]:=by match own,ho with|[o1],_=>exact⟨o1,rfl⟩
 obtain ⟨rfl,e⟩:=hy
 dsimp only [bT]
 rw [if_pos rfl]
 obtain ⟨M4,hp2,TZ⟩:=hp
 refine elt x _ _ (aa4 (e xs (s.seq hl))) s fun v H5 s5 hv=>?_
 have e5:=s5 _ _ dE
 refine ky [some x] v H5 rfl s5 ⟨by simp [M4],hi,fun y hy=>?_⟩
 rcases aa3.mp hy with z|z
 ·exact off _ _ _ _ _ (X2 _ _ _ (TZ y z) s5) e5
 ·rw [aa2.mp z]
  exact off _ _ _ _ _ hv e5
theorem EM{te:TE}{a b:Addr}{xs ys:List V}(fr:St)(P:Hp->V->Prop)(jK:pick ix σ=none::none::fr)(hl:aR K H a xs)(Dk:aR K H b ys)(hn:xs.length<=1000)(hxy:ys.length=xs.length)
  (X2:∀ H H' v,P H v->ai H H'->P H' v) (off:∀ H l ys zs v,P H v->H l=some (.lst ys)->P (upd H l (.lst zs)) v)
  (elt:∀ x y H' Qc,x∈xs->y∈ys->ai H H'->(∀ v H5,ai H' H5->P H5 v->Qc v H5)->te (some x::some y::fr) H' Qc)
  (hQ:∀ l2 H' zs,H l2=none->ai H H'->H' l2=some (.lst zs)->zs.length=xs.length->(∀ z∈zs,P H' z)->Q (.ref l2) H'):bP ix (qZ K 2 (d5 (bT 0) (d5 (bT 1) sR))) (fun _ H Q=>Q true H) te σ Q (Ks K false false a b) H:=by
 refine cC 2 fr xs.length (fun l i ys H'=>ys.length=i/\i<=xs.length/\(∀ y∈ys,P H' y)) jK (fun l H' _ _ _=>⟨rfl,abv _,fun _ z=>nomatch z⟩) (fun l i ys H' h=>by have:=h.1;have:=h.2.1;lia) (fun H' s=>⟨_,_,cX (s.seq hl),cX (s.seq Dk),.inr (by lia)⟩) (fun i H' hi s=>⟨_,_,xs[i]'(by lia),ys[i]'(by lia),cX (s.seq hl),cX (s.seq Dk),aaZ (by lia),aaZ (by lia)⟩) (fun l i x H' H2 own ws ho hi rY s dE hp hy Qy Qn ky kn=>?_) (fun l2 H' ys a b c d=>hQ l2 H' ys a b c d.1 d.2.2)
 obtain ⟨o1,o2,rfl⟩:∃ o1 o2,own=[o1,o2]:=by match own,ho with|[o1,o2],_=>exact⟨o1,o2,rfl⟩
 obtain ⟨p,x',y',rfl,hq,e1,e2,rfl⟩:=hy
 have hx:=e1 _ (cX (s.seq hl))
 have hy:=e2 _ (cX (s.seq Dk))
 have s2:=ai.bC (o:=.tup [x',y']) hq
 refine⟨p,_,rfl,aN.of av,rfl,_,_,rfl,_,_,rfl,rfl,?_⟩
 show ite (true=true) _ _
 rw [if_pos rfl]
 obtain ⟨M4,hp2,TZ⟩:=hp
 refine elt x' y' _ _ (aa4 hx) (aa4 hy) (s.trans s2) fun v H5 s5 hv=>?_
 have e5:=s5 _ _ (s2 _ _ dE)
 refine ky [some x',some y'] v H5 rfl (s2.trans s5) ⟨by simp [M4],hi,fun y hy=>?_⟩
 rcases aa3.mp hy with z|z
 ·exact off _ _ _ _ _ (X2 _ _ _ (TZ y z) (s2.trans s5)) e5
 ·rw [aa2.mp z]
  exact off _ _ _ _ _ hv e5
end
def gc(K:Frag)(n:Str)(st:Stmt):Prop:=∃ (f:Addr) (fd:FuncData),Km K n n st f fd/\nsIn K mainGlobals n=some (some (.ref f))
theorem B1{K:Frag}{n:Str}{st:Stmt}{f:Addr}{oc:Value}{od an:Option Addr}{sl:Array (Option Value)}{kV dc pm cd ct:Value}(a:nsIn K mainGlobals n=some (some (.ref f)))(l:K.lookup f=some ⟨oc,od,.func (fnOf n n (cI st) (bN st) (aq st) .none kV dc pm an cd ct),sl⟩)(c:codeIn K cd n=true)(k:keepIn K (.ref f)=true):gc K n st:=⟨f,_,iU l c k,a⟩
theorem gc.df{K:Frag}{n:Str}{st:Stmt}{mg:Str->Option Value}{h:Heap}{ps:List Str}(q:gc K n st)(X:K.In h)(G0:h.Ns mainGlobals mg)
  (b:∀ (kV doc pm:Value) (an:Option Addr) (c7 ct:Value) (us:List Value),us.length=ps.length->bindArgs (fnOf n n (cI st) (bN st) (aq st) .none kV doc pm an c7 ct) ⟨us,[]⟩=pure (ps.zip us)):Def K mg n st ps :=
 let ⟨f,fd,F,a⟩:=q
 ⟨f,fd,F,mg_of X G0 a,F.binds b⟩
end L2

set_option maxHeartbeats 8000000
namespace PySem.W.Fast
theorem tw14634651430297662870:True:=trivial
theorem tw17325087133306714229:True:=trivial
theorem tw5539162117711336121:True:=trivial
theorem tw14612540616246530073:True:=trivial
theorem tw6016969577826268982:True:=trivial
theorem tw5024139947764820624:True:=trivial
theorem tw97918126829604955:True:=trivial
theorem tw2552615376804863707:True:=trivial
theorem tw9063690344224924368:True:=trivial
theorem tw7413649648900279413:True:=trivial
theorem tw908904780675577134:True:=trivial
theorem tw10327242059426263565:True:=trivial
theorem tw18009095529446406180:True:=trivial
theorem tw2075505932698104271:True:=trivial
theorem tw2075650920054794184:True:=trivial
theorem tw14082786985738850044:True:=trivial
theorem tw14843653662034824684:True:=trivial
theorem tw7893442641704582289:True:=trivial
theorem tw8415048015343954399:True:=trivial
theorem tw1182482068087093998:True:=trivial
theorem tw13942226314502886093:True:=trivial
theorem tw6795150665516983730:True:=trivial
theorem tw1209047382129594451:True:=trivial
theorem tw4165559148401709125:True:=trivial
theorem tw5552375067482750963:True:=trivial
theorem tw18333378499907669423:True:=trivial
theorem tw17676154254050956807:True:=trivial
theorem tw16364457708033385206:True:=trivial
theorem tw5098114698510094680:True:=trivial
theorem tw17614310491860158060:True:=trivial
theorem tw6143729527992596088:True:=trivial
theorem tw9943938589407796918:True:=trivial
theorem tw16520553352444603551:True:=trivial
theorem tw8393622855704661754:True:=trivial
theorem tw14118722901227520702:True:=trivial
theorem tw12448321321642451710:True:=trivial
theorem tw8315323080281999804:True:=trivial
theorem tw778852851144024249:True:=trivial
theorem tw14236880559799455856:True:=trivial
theorem tw9392268428782672040:True:=trivial
theorem tw4250519461828968139:True:=trivial
theorem tw256684552103358690:True:=trivial
theorem tw9170837181708484572:True:=trivial
theorem tw17779571818914711031:True:=trivial
theorem tw16321504706120539937:True:=trivial
theorem tw10140451029364625240:True:=trivial
theorem tw2220522187698162849:True:=trivial
theorem tw10319924430246513071:True:=trivial
theorem tw16043668468727049613:True:=trivial
theorem tw4956194268609513104:True:=trivial
theorem tw12659637758305975589:True:=trivial
theorem tw6935947572301391770:True:=trivial
theorem tw14209505023529823552:True:=trivial
theorem tw5102000865360748912:True:=trivial
theorem tw12388190369970468102:True:=trivial
theorem tw14498480786759594949:True:=trivial
theorem tw16578037849178113354:True:=trivial
theorem tw7902837908052003191:True:=trivial
theorem tw6892995618737361202:True:=trivial
theorem tw8153029241926233332:True:=trivial
theorem tw15570572948071122850:True:=trivial
theorem tw13515407337962713410:True:=trivial
theorem tw864418471695020535:True:=trivial
theorem tw16570406234192286721:True:=trivial
theorem tw7702664733291327916:True:=trivial
theorem tw4926036932226624491:True:=trivial
theorem tw3106083030720661931:True:=trivial
theorem tw12496072339285646031:True:=trivial
theorem tw18217453238794330793:True:=trivial
theorem tw15496874077339782690:True:=trivial
theorem tw17463315882838166165:True:=trivial
theorem tw4332811362633954089:True:=trivial
theorem tw11739371087017892967:True:=trivial
theorem tw17397077808586607996:True:=trivial
theorem tw6628578094575230637:True:=trivial
theorem tw18216115756345773688:True:=trivial
theorem tw9513703395918968392:True:=trivial
theorem tw9063527707654265489:True:=trivial
theorem tw489261927351707752:True:=trivial
theorem tw9682589184121461837:True:=trivial
theorem tw1212715522579846442:True:=trivial
theorem tw15060172652545253103:True:=trivial
theorem tw17575865866775282216:True:=trivial
theorem tw17282138111894259229:True:=trivial
theorem tw4258115978451623771:True:=trivial
theorem tw14855485422755418261:True:=trivial
theorem tw4188782408800394944:True:=trivial
theorem tw13394202479556024108:True:=trivial
theorem tw2115409081865389030:True:=trivial
theorem tw10464643221857289737:True:=trivial
theorem tw8267958193286138609:True:=trivial
theorem tw14444159084470016721:True:=trivial
theorem tw14779218101344094129:True:=trivial
theorem tw12396177435970885245:True:=trivial
theorem tw18377043168857577959:True:=trivial
theorem tw13689238893736875598:True:=trivial
theorem tw6952819015993560544:True:=trivial
theorem tw13239880373530165968:True:=trivial
theorem tw14017775481253741008:True:=trivial
theorem tw13132731462641860948:True:=trivial
theorem tw6362050327766431869:True:=trivial
theorem tw5029711871235447350:True:=trivial
theorem tw8868680137968117588:True:=trivial
theorem tw2263201037436629401:True:=trivial
theorem tw10313375487012971089:True:=trivial
theorem tw3452564295788291053:True:=trivial
theorem tw17526996572984904202:True:=trivial
theorem tw15191660021435366929:True:=trivial
theorem tw1373235758207439:True:=trivial
theorem tw3301266926281625432:True:=trivial
theorem tw6493878139762667970:True:=trivial
theorem tw9171819969013685818:True:=trivial
theorem tw6831268756462639702:True:=trivial
theorem tw16793506749979922853:True:=trivial
theorem tw9789406045567884379:True:=trivial
theorem tw7037492510776451105:True:=trivial
theorem tw6643601500122447332:True:=trivial
theorem tw15841105781656425429:True:=trivial
theorem tw9545921122378801620:True:=trivial
theorem tw17944718375323352798:True:=trivial
theorem tw15814826440021153458:True:=trivial
theorem tw11639104793407596007:True:=trivial
theorem tw13650161844441044535:True:=trivial
theorem tw9433354622203844615:True:=trivial
theorem tw11552694451142841333:True:=trivial
theorem tw15018967187669321619:True:=trivial
theorem tw16056576846282418753:True:=trivial
theorem tw14450597457450503958:True:=trivial
theorem tw16399482270467590613:True:=trivial
theorem tw4405708027783259937:True:=trivial
theorem tw12583210436468534327:True:=trivial
theorem tw5784761492583110389:True:=trivial
theorem tw6779886125866531431:True:=trivial
theorem tw14087249512797306782:True:=trivial
theorem tw10019713018067322355:True:=trivial
theorem tw4864062188873941095:True:=trivial
theorem tw5494921860593892889:True:=trivial
theorem tw18281964762720896367:True:=trivial
theorem tw14377109508454183647:True:=trivial
theorem tw10339249104863620514:True:=trivial
theorem tw9851040693422518260:True:=trivial
theorem tw10845243781199151456:True:=trivial
theorem tw14427741261153667225:True:=trivial
end PySem.W.Fast
namespace Law
open fU (dj JA Eqv LB Led Len Lo PJ SF SJ Span VZ at' nS zC dt BI b7 xt cJ zG gs kH Ee xv gb dk low cj xu gv nO cW b8 BL c5 bK aP ss sub bW sub_len iI iW take_snoc tp d8)
open PySem L2
def top(i:Nat):Stmt:=PySem.Challenge.pw_tuningyard_k66_whole_heard_alike_by_the.main.body.getD i (.Pass ⟨0,0,0,0⟩)
abbrev mi:Stmt:=top 10
abbrev tM:Stmt:=top 11
abbrev pK:Stmt:=top 12
abbrev pL:Stmt:=top 13
abbrev xN:Stmt:=top 14
abbrev B2:Stmt:=top 15
abbrev xO:Stmt:=top 16
abbrev gy:Stmt:=top 18
abbrev ig:Stmt:=top 19
abbrev pM:Stmt:=top 20
abbrev i4:Stmt:=top 21
abbrev gz:Stmt:=top 22
abbrev ij:Stmt:=top 23
abbrev fG:Stmt:=top 27
abbrev i5:Stmt:=top 28
abbrev pN:Stmt:=top 29
abbrev gB:Stmt:=top 30
abbrev pO:Stmt:=top 31
abbrev xP:Stmt:=top 32
abbrev pP:Stmt:=top 33
abbrev xQ:Stmt:=top 35
abbrev xR:Stmt:=top 36
abbrev gC:Stmt:=top 39
abbrev tN:Stmt:=top 40
abbrev ik:Stmt:=top 47
abbrev i7:Stmt:=top 48
abbrev jX:Stmt:=top 49
abbrev gD:Stmt:=top 50
abbrev i9:Stmt:=top 51
abbrev mj:Stmt:=top 52
abbrev jY:Stmt:=top 53
abbrev ml:Stmt:=top 54
abbrev jb:Stmt:=top 55
abbrev jZ:Stmt:=top 56
abbrev mr:Stmt:=top 57
abbrev my:Stmt:=top 58
abbrev j0:Stmt:=top 59
abbrev jc:Stmt:=top 60
abbrev il:Stmt:=top 61
abbrev mC:Stmt:=top 62
abbrev jd:Stmt:=top 63
abbrev fH:Stmt:=top 64
abbrev fI:Stmt:=top 65
abbrev fJ:Stmt:=top 66
abbrev je:Stmt:=top 67
abbrev j4:Stmt:=top 68
abbrev j5:Stmt:=top 69
abbrev tO:Stmt:=top 70
abbrev j6:Stmt:=top 71
abbrev nZ:Stmt:=top 72
abbrev cY:Stmt:=iZ (top 42) 0
abbrev bU:Stmt:=iZ (top 43) 0
abbrev bL:Stmt:=iZ (top 43) 1
abbrev ck:Stmt:=iZ (top 44) 0
abbrev b9:Stmt:=iZ (top 44) 1
abbrev dG:Stmt:=iZ (top 45) 0
abbrev di:Stmt:=iZ (top 45) 1
@[elab_as_elim] theorem fb {α : Type} {P : List α -> Prop} (us : List α) (hl : us.length = 1) (h : ∀ a0 : α, P [a0]) : P us :=
 match us,hl with|[a0],_=>h a0
@[elab_as_elim] theorem bD {α : Type} {P : List α -> Prop} (us : List α) (hl : us.length = 2) (h : ∀ a0 a1 : α, P [a0, a1]) : P us :=
 match us,hl with|[a0,a1],_=>h a0 a1
@[elab_as_elim] theorem eO {α : Type} {P : List α -> Prop} (us : List α) (hl : us.length = 3) (h : ∀ a0 a1 a2 : α, P [a0, a1, a2]) : P us :=
 match us,hl with|[a0,a1,a2],_=>h a0 a1 a2
@[elab_as_elim] theorem Lm {α : Type} {P : List α -> Prop} (us : List α) (hl : us.length = 4) (h : ∀ a0 a1 a2 a3 : α, P [a0, a1, a2, a3]) : P us :=
 match us,hl with|[a0,a1,a2,a3],_=>h a0 a1 a2 a3
def dot(a b:List Int):Int:=(List.zipWith (·*·) a b).sum
def val(w:List Int)(m:Int)(r:List Int):Int:=if m=0 then dot r w else dot r w % m
def Ln(n:Nat)(r:List Int):Prop:=∀ x∈r,lH x<=n
theorem Ln.mul{n m:Nat}{r q:List Int}(h1:Ln n r)(h2:Ln m q)(h:n+m<=1000000)(hl:r.length=q.length):∀ i,i<r.length->jF (r.getD i 0) (q.getD i 0):=fun i hi=>by
 have a:=h1 (r.getD i 0) (by rw [List.getD,aaZ hi];exact abA hi)
 have b:=h2 (q.getD i 0) (by rw [List.getD,aaZ (hl ▸ hi)];exact abA _)
 unfold jF
 lia
def num(c b:Int):Int:=(c+b) % (2*b+1) - b
def vals(ks:List (List Int×Int))(r:List Int):List Int:=ks.map fun k=>val k.1 k.2 r
theorem mem_of{α:Type}{ks:List α}{i:Nat}{k:α}(h:ks[i]?=some k):k∈ks:=by
 obtain ⟨h1,h2⟩:=aaI.mp h
 rw [<- h2]
 exact abA h1
def T4:Expr->Pos
 | .Call _ _ (⟨_,.Lambda _ _ _ p,_⟩::_) _=>p
 | _=>⟨0,0,0,0⟩
def Pq:Stmt->Expr
 | .Assign _ v _=>v
 | _=>.Constant .none 0 ⟨0,0,0,0⟩
def Pt:Stmt->List Stmt
 | .While _ b _ _=>b
 | _=>[]
theorem B3{M:Nat}{r:List Int}{x:Int}(h:dj M r)(hx:x∈r):x.natAbs<=M:=by
 obtain ⟨i,hi,e⟩:=abB hx
 have:=h i
 rw [List.getD,aaZ hi,e] at this
 exact this
def kY(p:Nat)(v:List Int):List Int:=if v.getD p 0<0 then c5 v (-1) else v
theorem HD{p:Nat}{v:List Int}(h:v.getD p 0≠0):0<(kY p v).getD p 0:=by
 unfold kY
 split
 ·rw [bK];lia
 ·lia
theorem Lp{p:Nat}{v:List Int}:at' p (kY p v)=at' p v:=by
 unfold kY at'
 split
 ·rw [bK];lia
 ·rfl
theorem HG{p n:Nat}{v:List Int}(h:v.length=n):(kY p v).length=n:=by
 unfold kY
 split
 ·exact aP h
 ·exact h
theorem Lq{p B:Nat}{v:List Int}(h:dj B v):dj B (kY p v):=by
 unfold kY
 split
 ·intro i
  rw [bK]
  have:=h i
  lia
 ·exact h
theorem Pu{α:Type}(f:α->Bool):∀ l:List α,(l.filter fun v=>!f v).length+(l.filter f).length=l.length
 | []=>rfl
 | x::l=>by
  have h:=Pu f l
  simp only [List.filter_cons,length_cons]
  cases f x <;> simp <;> lia
theorem HH(p:Nat)(s:List Int)(rest:List (List Int)):(dk p s rest).length+(gb p s rest).length=rest.length:=by
 have h:=Pu (fun v:List Int=>v.getD p 0 == 0) (rest.map (cj p s))
 rw [aa5] at h
 have e:(dk p s rest)=(rest.map (cj p s)).filter (fun v=>!(v.getD p 0 == 0)):=rfl
 rw [e]
 unfold gb
 lia
theorem Pw{b i:Nat}(hb:b<=109)(hi:i<5):gs b i<9000/\ss b (i+1)<400000:=by
 match i,hi with
 | 0,_|1,_|2,_|3,_|4,_=>simp only [gs,ss];lia
theorem getD_mem{q:List Int}{i:Nat}(h:i<q.length):q.getD i 0∈q:=by rw [List.getD,aaZ h];exact abA h
abbrev Lr:Pos:=T4 (Pq ((Pt ((bN gB).getD 2 (.Pass ⟨0,0,0,0⟩))).getD 0 (.Pass ⟨0,0,0,0⟩)))
abbrev HJ:Expr:=TX 1 (TV ((bN i4).getD 0 (.Pass ⟨0,0,0,0⟩)))
abbrev M5:Pos:=TY HJ
abbrev HN:Expr:=TX 1 (TV ((bN gz).getD 0 (.Pass ⟨0,0,0,0⟩)))
abbrev M6:Pos:=TY HN
abbrev TsK (K:Frag):List me:=[(eD K "parted",Lr,"parted.<locals>.<lambda>"),(eD K "moved",M5,"moved.<locals>.<lambda>"),(eD K "sounds",M6,"sounds.<locals>.<lambda>")]
abbrev cE(K:Frag)(H:Hp):Prop:=dW (TsK K) H
abbrev kN(K:Frag)(H H':Hp):Prop:=cq (TsK K) H H'
def X3(ls:List Int)(p B j:Nat)(x:Int):Prop:=(p<j->x=0)/\(j=p->x=ls.getD j 0)/\(j<p->0<ls.getD j 0->0<=x/\x<ls.getD j 0)/\x.natAbs<=B
def X4(ls:List Int)(p B:Nat)(xs:List Int):Prop:=∀ j,j<xs.length->X3 ls p B j (xs.getD j 0)
def LR(ls:List Int)(p B:Nat)(r:List Int):Prop:=r.length=5/\X4 ls p B r
theorem LR.bd{ls r:List Int}{p B:Nat}(h:LR ls p B r):dj B r:=fun i=>by
 by_cases c:i<r.length
 ·exact (h.2 i c).2.2.2
 ·rw [List.getD,getElem?_eq_none (by lia)]
  exact abv _
def TS(ls:List Int)(B lo:Nat)(rs:List (List Int)):Prop:=SF rs/\∀ r∈rs,∃ p,lo<=p/\p<5/\0<ls.getD p 0/\LR ls p B r
theorem dX{n j:Nat}(h:j<n):Jw n (j:Int)=some j:=by
 unfold Jw
 rw [if_pos (by lia),if_pos (by lia),abC]
theorem Ls{M b:Nat}{r:List Int}(h:dj (2 ^ M) r)(hb:M<b):Ln b r:=fun x hx=>by
 rw [nS]
 exact zC (abd (B3 h hx) (Nat.pow_lt_pow_right (by decide) hb))
theorem Px{M:Nat}{r:List Int}(h:∀ x∈r,x.natAbs<=M):dj M r:=fun i=>by
 by_cases hi:i<r.length
 ·exact h _ (getD_mem hi)
 ·rw [List.getD,getElem?_eq_none (by lia)]
  exact abv _
def Hr(ks:List (List Int×Int))(r:List Int):Prop:=∃ k∈ks,val k.1 k.2 r≠0
instance (ks:List (List Int×Int)) (r:List Int):Decidable (Hr ks r):=inferInstanceAs (Decidable (∃ k∈ks,val k.1 k.2 r≠0))
theorem kO{x dx C:Addr}{H:Hp}(h1:H x=none)(h2:H dx=none):ai H (upd (upd H dx (.own x)) x (.ins C dx [])):=fun b o e=>by
 have n1:b≠x:=fun z=>by rw [z,h1] at e;cases e
 have n2:b≠dx:=fun z=>by rw [z,h2] at e;cases e
 rw [ax n1,ax n2]
 exact e
theorem Py{K:Frag}{x dx C:Addr}{H H1:Hp}{o:HO}(h1:H x=none)(h2:H dx=none)(s:kN K (upd (upd H dx (.own x)) x (.ins C dx [])) H1):kN K H (upd H1 x o):=fun b o' n e=>by
 have n1:b≠x:=fun z=>by rw [z,h1] at e;cases e
 rw [ax n1]
 exact s b o' n (kO h1 h2 b o' e)
theorem oa{K:Frag}{H H1:Hp}{x C dx:Addr}{fs:List (Str×V)}(s:kN K H H1)(t:cE K H)(e:H x=some (.ins C dx fs)):H1 x=some (.ins C dx fs):=s.get t e fun _ w=>nomatch w
inductive Tu where
 | plain:Tu
 | comma (st:List (List Int)):Tu
 | key (ks:List (List Int×Int)):Tu
 | cG (w:List Int):Tu
def gX(K:Frag)(H:Hp)(t l:Addr):Tu->Prop
 | .plain=>∃ C dx,nsIn K mainGlobals "Tuning"=some (some (.ref C))/\H t=some (.ins C dx [])
 | .comma st=>∃ C dx ys,nsIn K mainGlobals "CommaTuning"=some (some (.ref C))/\H t=some (.ins C dx [("steps",.ref l)])/\H l=some (.lst ys)/\aZ K H ys st
 | .key ks=>∃ C dx ys,nsIn K mainGlobals "KeyTuning"=some (some (.ref C))/\H t=some (.ins C dx [("own_keys",.ref l)])/\H l=some (.lst ys)/\bY K H ys ks
 | .cG w=>∃ C dx ys,nsIn K mainGlobals "Board"=some (some (.ref C))/\H t=some (.ins C dx [("own_keys",.ref l),("octave",.int (w.getD 0 0))])/\H l=some (.lst ys)/\bY K H ys [(w,0)]
def Tu.ok:Tu->Prop
 | .plain=>True
 | .comma st=>SF st/\Len 5 st/\∀ v∈st,dj (2 ^ 500) v
 | .key ks=>ks.length<=6/\(∀ k∈ks,k.2=0\/2<=k.2)/\∀ k∈ks,k.1.length=5/\dj (2 ^ 20) k.1/\k.2.natAbs<=2 ^ 20
 | .cG w=>w.length=5/\dj (2 ^ 20) w
def Tu.rl:Tu->List Int->List Int->Prop
 | .plain,a,b=>a=b
 | .comma st,a,b=>Span 5 st (sub a b)
 | .key ks,a,b=>∀ k∈ks,VZ k.1 k.2 (sub a b)
 | .cG w,a,b=>VZ w 0 (sub a b)
theorem gX.same{K:Frag}{H H':Hp}{t l:Addr}:∀ {u:Tu},gX K H t l u->ai H H'->gX K H' t l u
 | .plain,⟨C,dx,h1,h2⟩,s=>⟨C,dx,h1,s _ _ h2⟩
 | .comma _,⟨C,dx,ys,h1,h2,h3,h4⟩,s=>⟨C,dx,ys,h1,s _ _ h2,s _ _ h3,h4.same s⟩
 | .key _,⟨C,dx,ys,h1,h2,h3,h4⟩,s=>⟨C,dx,ys,h1,s _ _ h2,s _ _ h3,h4.same s⟩
 | .cG _,⟨C,dx,ys,h1,h2,h3,h4⟩,s=>⟨C,dx,ys,h1,s _ _ h2,s _ _ h3,h4.same s⟩
theorem gX.keep{K:Frag}{H H':Hp}{t l:Addr}(tb:cE K H)(s:kN K H H'):∀ {u:Tu},gX K H t l u->gX K H' t l u
 | .plain,⟨C,dx,h1,h2⟩=>⟨C,dx,h1,oa s tb h2⟩
 | .comma _,⟨C,dx,ys,h1,h2,h3,h4⟩=>⟨C,dx,ys,h1,oa s tb h2,s.lst tb h3,h4.iJ s tb⟩
 | .key _,⟨C,dx,ys,h1,h2,h3,h4⟩=>⟨C,dx,ys,h1,oa s tb h2,s.lst tb h3,h4.iJ s tb⟩
 | .cG _,⟨C,dx,ys,h1,h2,h3,h4⟩=>⟨C,dx,ys,h1,oa s tb h2,s.lst tb h3,h4.iJ s tb⟩
def Q9(st:List (List Int))(u v:List Int):Prop:=v.length=5/\Span 5 st (sub u v)/\∀ s∈st,∀ k,Led s k->0<=v.getD k 0/\v.getD k 0<s.getD k 0
theorem DH{st:List (List Int)}{a b u v:List Int}(sf:SF st)(hl:Len 5 st)(la:a.length=5)(lb:b.length=5)(ha:Q9 st a u)(hb:Q9 st b v):u=v↔Span 5 st (sub a b):=by
 obtain ⟨lu,su,ku⟩:=ha
 obtain ⟨lv,sv,kv⟩:=hb
 have e1:sub (sub a b) (sub (sub a u) (sub b v))=sub u v:=b7 (sub_len (sub_len la lb) (sub_len (sub_len la lu) (sub_len lb lv))) (sub_len lu lv) fun i _=>by
  rw [bW (sub_len la lb) (sub_len (sub_len la lu) (sub_len lb lv)),bW la lb,bW (sub_len la lu) (sub_len lb lv),bW la lu,bW lb lv,bW lu lv]
  lia
 have hd:=Span.sub (sub_len la lu) (sub_len lb lv) su sv
 constructor
 ·rintro rfl
  have e2:sub a b=sub (sub a u) (sub b u):=b7 (sub_len la lb) (sub_len (sub_len la lu) (sub_len lb lu)) fun i _=>by
   rw [bW la lb,bW (sub_len la lu) (sub_len lb lu),bW la lu,bW lb lu]
   lia
  rw [e2]
  exact hd
 ·intro h
  have h3:=Span.sub (sub_len la lb) (sub_len (sub_len la lu) (sub_len lb lv)) h hd
  rw [e1] at h3
  have hz:=SF.small sf hl h3 fun s hs k hk=>by
   rw [bW lu lv]
   have p1:=ku s hs k hk
   have p2:=kv s hs k hk
   lia
  exact b7 lu lv fun i _=>by
   have:(sub u v).getD i 0=0:=by rw [hz,d8]
   rw [bW lu lv] at this
   lia
theorem Ag{w a b:List Int}{m:Int}(lw:w.length=5)(la:a.length=5)(lb:b.length=5)(hm:m=0\/2<=m):val w m a=val w m b↔VZ w m (sub a b):=by
 have ea:dot a w=dt a w:=rfl
 have eb:dot b w=dt b w:=rfl
 unfold val VZ
 rw [ea,eb,BI la lb lw]
 by_cases c:m=0
 ·rw [if_pos c,if_pos c,c,Int.zero_dvd]
  lia
 ·rw [if_neg c,if_neg c]
  exact Int.emod_eq_emod_iff_emod_sub_eq_zero.trans ⟨Int.dvd_of_emod_eq_zero,Int.emod_eq_zero_of_dvd⟩
theorem EN{ks:List (List Int×Int)}{a b:List Int}(hl:∀ k∈ks,k.1.length=5)(hm:∀ k∈ks,k.2=0\/2<=k.2)(la:a.length=5)(lb:b.length=5):(ks.map fun k=>val k.1 k.2 a)=(ks.map fun k=>val k.1 k.2 b)↔∀ k∈ks,VZ k.1 k.2 (sub a b):=by
 rw [map_inj_left]
 exact⟨fun h k hk=>(Ag (hl k hk) la lb (hm k hk)).mp (h k hk),fun h k hk=>(Ag (hl k hk) la lb (hm k hk)).mpr (h k hk)⟩
def Tu.tab:Tu->List (List Int)->Prop
 | .plain,st=>st=[]
 | .comma s,st=>st=s
 | .key ks,st=>Lo ks st
 | .cG w,st=>Lo [(w,0)] st
theorem sg{K:Frag}{H:Hp}{x C dx a:Addr}{fs:List (Str×V)}{o:HO}{xs:List V}(h:aN K H a xs)(e:H x=some (.ins C dx fs)):aN K (upd H x o) a xs:=by
 rcases h with (h|⟨o',h⟩)|h
 ·exact .inl (.inl (by rw [ax (fun z=>by rw [z,e] at h;cases h)];exact h))
 ·exact .inl (.inr ⟨o',by rw [ax (fun z=>by rw [z,e] at h;cases h)];exact h⟩)
 ·exact .inr h
def Kn(K:Frag)(H:Hp)(v:V):Prop:=(∃ i,v=.int i)\/(∃ b,v=.bl b)\/v=.dz\/(∃ s,v=.str s)\/(∃ a xs,v=.ref a/\aR K H a xs)\/(∃ a xs,v=.ref a/\aN K H a xs)
theorem Kn.same{K:Frag}{H H':Hp}{v:V}(h:Kn K H v)(s:ai H H'):Kn K H' v:=by
 rcases h with h|h|h|h|⟨a,xs,h,z⟩|⟨a,xs,h,z⟩
 ·exact .inl h
 ·exact .inr (.inl h)
 ·exact .inr (.inr (.inl h))
 ·exact .inr (.inr (.inr (.inl h)))
 ·exact .inr (.inr (.inr (.inr (.inl ⟨a,xs,h,s.seq z⟩))))
 ·exact .inr (.inr (.inr (.inr (.inr ⟨a,xs,h,s.at z⟩))))
def wh:V->Bool
 | .int _=>true
 | _=>false
def NT(K:Frag)(H:Hp)(v:V):Prop:=(∃ i,v=.int i)\/v=.dz\/(∃ s,v=.str s)\/(∃ a xs,v=.ref a/\aR K H a xs)
def Odd(K:Frag)(H:Hp)(v:V):Prop:=(∃ (a:Addr) (xs:List V),v=.ref a/\aN K H a xs/\xs.length<=1000/\(∀ x∈xs,Kn K H x)/\(decide (xs.length=5) && xs.all wh)=false)\/NT K H v
def fits(x0 x1 x2 x3 x4:Int):Bool:=[decide ((if x0<0 then -x0 else x0)<=700),decide ((if x1<0 then -x1 else x1)<=60),decide ((if x2<0 then -x2 else x2)<=60),decide ((if x3<0 then -x3 else x3)<=60),decide ((if x4<0 then -x4 else x4)<=60)].all id
theorem X5{n:Nat}(h0:0<n)(h:n<2 ^ 9000):(n:Int).natAbs.log2<9000:=by
 have e:(n:Int).natAbs=n:=rfl
 rw [e]
 exact (log2_lt (by lia)).mpr h
theorem Pz{t b:Nat}(h:0<b):Nat.gcd t b<=b:=Nat.le_of_dvd h (Nat.gcd_dvd_right t b)
theorem Lu{t0 t1 t2 t3 t4:Int}(h:(-700<=t0/\t0<=700)/\(-60<=t1/\t1<=60)/\(-60<=t2/\t2<=60)/\(-60<=t3/\t3<=60)/\(-60<=t4/\t4<=60)):fits t0 t1 t2 t3 t4=true:=by
 unfold fits
 rw [aaT (show (if t0<0 then -t0 else t0)<=700 by split <;> lia),aaT (show (if t1<0 then -t1 else t1)<=60 by split <;> lia),aaT (show (if t2<0 then -t2 else t2)<=60 by split <;> lia),aaT (show (if t3<0 then -t3 else t3)<=60 by split <;> lia),aaT (show (if t4<0 then -t4 else t4)<=60 by split <;> lia)]
 rfl
theorem og{K:Frag}{H:Hp}{x C dx:Addr}{fs:List (Str×V)}{o:HO}:∀ {xs:List V} {ks:List (List Int×Int)},bY K H xs ks->H x=some (.ins C dx fs)->bY K (upd H x o) xs ks
 | _,_,.nil,_=>.nil
 | _,_,.cons h hw t,e=>.cons (sg h e) (sg hw e) (og t e)
theorem Ah{K:Frag}{H:Hp}{x C dx:Addr}{fs:List (Str×V)}{o:HO}:∀ {xs:List V} {rs:List (List Int)},aZ K H xs rs->H x=some (.ins C dx fs)->aZ K (upd H x o) xs rs
 | _,_,.nil,_=>.nil
 | _,_,.cons h t,e=>.cons (sg h e) (Ah t e)
theorem HP {K:Frag} {H1:Hp} {x l C dx:Addr} {a:List (Str×V)} {ys:List V} {w:List Int} (hC:nsIn K mainGlobals "Board"=some (some (.ref C))) (hx:H1 x=some (.ins C dx [])) (m:H1 l=some (.lst ys)) (kk:bY K H1 ys [(w,0)]) :
  gX K (upd (upd H1 x (.ins C dx a)) x (.ins C dx [("own_keys",.ref l),("octave",.int (w.getD 0 0))])) x l (.cG w):=by
 have ne:l≠x:=fun z=>by rw [z,hx] at m;cases m
 exact⟨C,dx,ys,hC,av,by rw [ax ne,ax ne];exact m,og (og kk hx) av⟩
theorem B4{H H1:Hp}{x C dx:Addr}{o o':HO}(nx:H x=none)(nd:H dx=none)(s:ai (upd (upd H dx (.own x)) x (.ins C dx [])) H1):ai H (upd (upd H1 x o) x o'):=fun b v e=>by
 have n1:b≠x:=fun z=>by rw [z,nx] at e;cases e
 rw [ax n1,ax n1]
 exact s _ _ (kO nx nd _ _ e)
theorem fe{K:Frag}{H:Hp}{c a:Addr}{φ:Heap->Prop}{xs:List V}(h:aN K H a xs)(e:H c=some (.ext φ)):aN K (L2.del H c) a xs:=by
 rcases h with (h|⟨o,h⟩)|h
 ·exact .inl (.inl (by rw [dw (fun z=>by rw [z,e] at h;cases h)];exact h))
 ·exact .inl (.inr ⟨o,by rw [dw (fun z=>by rw [z,e] at h;cases h)];exact h⟩)
 ·exact .inr h
inductive Tn where
 | row (r:List Int):Tn
 | num (i:Int):Tn
abbrev Nt:=Option Tn×(Int×Int)
def JC(K:Frag)(H:Hp)(v:V):Tn->Prop
 | .row r=>∃ a,v=.ref a/\aN K H a (r.map V.int)/\r.length<=100
 | .num i=>v=.int i
def fg(K:Frag)(H:Hp)(v:V):Option Tn->Prop
 | none=>v=.dz
 | some t=>JC K H v t
theorem JC.same{K:Frag}{H H':Hp}{v:V}(s:ai H H'):∀ {o:Tn},JC K H v o->JC K H' v o
 | .num _,h=>h
 | .row _,⟨a,h1,h2,h3⟩=>⟨a,h1,s.at h2,h3⟩
theorem fg.same{K:Frag}{H H':Hp}{v:V}(s:ai H H'):∀ {o:Option Tn},fg K H v o->fg K H' v o
 | none,h=>h
 | some _,h=>JC.same s h
def cZ(K:Frag)(H:Hp)(v:V)(n:Nt):Prop:=∃ a t l,v=.ref a/\aN K H a [t,.ref l]/\fg K H t n.1/\aN K H l [.int n.2.1,.int n.2.2]
theorem cZ.same{K:Frag}{H H':Hp}{v:V}{n:Nt}(h:cZ K H v n)(s:ai H H'):cZ K H' v n:=by
 obtain ⟨a,t,l,h1,h2,h3,h4⟩:=h
 exact⟨a,t,l,h1,s.at h2,h3.same s,s.at h4⟩
theorem fg.off{K:Frag}{H:Hp}{v:V}{l:Addr}{ys zs:List V}(e:H l=some (.lst ys)):∀ {o:Option Tn},fg K H v o->fg K (upd H l (.lst zs)) v o
 | none,h=>h
 | some (.num _),h=>h
 | some (.row _),⟨a,h1,h2,h3⟩=>⟨a,h1,cx h2 e,h3⟩
theorem cZ.off{K:Frag}{H:Hp}{v:V}{n:Nt}{l:Addr}{ys zs:List V}(h:cZ K H v n)(e:H l=some (.lst ys)):cZ K (upd H l (.lst zs)) v n:=by
 obtain ⟨a,t,l,h1,h2,h3,h4⟩:=h
 exact⟨a,t,l,h1,cx h2 e,h3.off e,cx h4 e⟩
inductive bE(K:Frag)(H:Hp):List V->List Nt->Prop where
 | nil:bE K H [] []
 | cons {x:V} {n:Nt} {xs:List V} {ns:List Nt} (h:cZ K H x n) (t:bE K H xs ns):bE K H (x::xs) (n::ns)
theorem bE.length{K:Frag}{H:Hp}:∀ {xs:List V} {ns:List Nt},bE K H xs ns->ns.length=xs.length
 | _,_,.nil=>rfl
 | _,_,.cons _ t=>by simp [t.length]
theorem bE.get{K:Frag}{H:Hp}:∀ {xs:List V} {ns:List Nt} {i:Nat} {x:V},bE K H xs ns->xs[i]?=some x->∃ n,cZ K H x n/\ns[i]?=some n
 | _,_,i,x,.nil,h=>by simp at h
 | _,_,0,x,.cons h t,e=>by
  rw [List.getElem?_cons_zero] at e
  cases e
  exact⟨_,h,rfl⟩
 | _,_,i+1,x,.cons h t,e=>by
  obtain ⟨n,h1,h2⟩:=t.get (i:=i) (x:=x) (by simpa using e)
  exact⟨n,h1,by simpa using h2⟩
theorem bE.same{K:Frag}{H H':Hp}(s:ai H H'):∀ {xs:List V} {ns:List Nt},bE K H xs ns->bE K H' xs ns
 | _,_,.nil=>.nil
 | _,_,.cons h t=>.cons (h.same s) (t.same s)
theorem bE.off{K:Frag}{H:Hp}{l:Addr}{ys zs:List V}(e:H l=some (.lst ys)):∀ {xs:List V} {ns:List Nt},bE K H xs ns->bE K (upd H l (.lst zs)) xs ns
 | _,_,.nil=>.nil
 | _,_,.cons h t=>.cons (h.off e) (t.off e)
theorem bE.snoc{K:Frag}{H:Hp}{x:V}{n:Nt}(h:cZ K H x n):∀ {xs:List V} {ns:List Nt},bE K H xs ns->bE K H (xs++[x]) (ns++[n])
 | _,_,.nil=>.cons h .nil
 | _,_,.cons h1 t=>.cons h1 (t.snoc h)
inductive cP(K:Frag)(H:Hp):List V->List (List Nt)->Prop where
 | nil:cP K H [] []
 | cons {a:Addr} {ns:List Nt} {zs xs:List V} {bs:List (List Nt)} (h:H a=some (.lst zs)) (hn:bE K H zs ns) (t:cP K H xs bs):cP K H (.ref a::xs) (ns::bs)
theorem cP.length{K:Frag}{H:Hp}:∀ {xs:List V} {bs:List (List Nt)},cP K H xs bs->bs.length=xs.length
 | _,_,.nil=>rfl
 | _,_,.cons _ _ t=>by simp [t.length]
theorem cP.get{K:Frag}{H:Hp}:∀ {xs:List V} {bs:List (List Nt)} {i:Nat} {x:V},cP K H xs bs->xs[i]?=some x->∃ (a:Addr) (zs:List V) (ns:List Nt),x=.ref a/\H a=some (.lst zs)/\bE K H zs ns/\bs[i]?=some ns
 | _,_,i,x,.nil,h=>by simp at h
 | _,_,0,x,.cons h hn t,e=>by
  rw [List.getElem?_cons_zero] at e
  cases e
  exact⟨_,_,_,rfl,h,hn,rfl⟩
 | _,_,i+1,x,.cons h hn t,e=>by
  obtain ⟨a,zs,ns,h1,h2,h3,h4⟩:=t.get (i:=i) (x:=x) (by simpa using e)
  exact⟨a,zs,ns,h1,h2,h3,by simpa using h4⟩
theorem cP.same{K:Frag}{H H':Hp}(s:ai H H'):∀ {xs:List V} {bs:List (List Nt)},cP K H xs bs->cP K H' xs bs
 | _,_,.nil=>.nil
 | _,_,.cons h hn t=>.cons (s _ _ h) (hn.same s) (t.same s)
theorem cP.off{K:Frag}{H:Hp}{l:Addr}{ys zs:List V}(e:H l=some (.lst ys)):∀ {xs:List V} {bs:List (List Nt)},cP K H xs bs->V.ref l∉xs->cP K (upd H l (.lst zs)) xs bs
 | _,_,.nil,_=>.nil
 | _,_,.cons (a:=a) h hn t,no=>.cons (by rw [ax (fun z=>no (by rw [z];exact .head _))];exact h) (hn.off e) (t.off e fun z=>no (.tail _ z))
theorem cP.snoc{K:Frag}{H:Hp}{a:Addr}{zs:List V}{ns:List Nt}(h:H a=some (.lst zs))(hn:bE K H zs ns):∀ {xs:List V} {bs:List (List Nt)},cP K H xs bs->cP K H (xs++[.ref a]) (bs++[ns])
 | _,_,.nil=>.cons h hn .nil
 | _,_,.cons h1 FT t=>.cons h1 FT (t.snoc h hn)
def bh(K:Frag)(H:Hp)(t m l:Addr)(mt:Int×Int)(xs:List V)(bs:List (List Nt)):Prop:=aN K H t [.ref m,.ref l]/\aN K H m [.int mt.1,.int mt.2]/\H l=some (.lst xs)/\cP K H xs bs
theorem bh.same{K:Frag}{H H':Hp}{t m l:Addr}{mt:Int×Int}{xs:List V}{bs:List (List Nt)}(h:bh K H t m l mt xs bs)(s:ai H H'):bh K H' t m l mt xs bs:=⟨s.at h.1,s.at h.2.1,s _ _ h.2.2.1,h.2.2.2.same s⟩
theorem fg.del{K:Frag}{H:Hp}{v:V}{c:Addr}{φ:Heap->Prop}(e:H c=some (.ext φ)):∀ {o:Option Tn},fg K H v o->fg K (L2.del H c) v o
 | none,h=>h
 | some (.num _),h=>h
 | some (.row _),⟨a,h1,h2,h3⟩=>⟨a,h1,fe h2 e,h3⟩
theorem cZ.del{K:Frag}{H:Hp}{v:V}{n:Nt}{c:Addr}{φ:Heap->Prop}(h:cZ K H v n)(e:H c=some (.ext φ)):cZ K (L2.del H c) v n:=by
 obtain ⟨a,t,l,h1,h2,h3,h4⟩:=h
 exact⟨a,t,l,h1,fe h2 e,h3.del e,fe h4 e⟩
theorem bE.del{K:Frag}{H:Hp}{c:Addr}{φ:Heap->Prop}(e:H c=some (.ext φ)):∀ {xs:List V} {ns:List Nt},bE K H xs ns->bE K (L2.del H c) xs ns
 | _,_,.nil=>.nil
 | _,_,.cons h t=>.cons (h.del e) (t.del e)
theorem oh{H:Hp}{a c:Addr}{φ:Heap->Prop}{xs:List V}(h:H a=some (.lst xs))(e:H c=some (.ext φ)):L2.del H c a=some (.lst xs):=by
 rw [dw (fun z=>by rw [z,e] at h;cases h)]
 exact h
theorem cP.del{K:Frag}{H:Hp}{c:Addr}{φ:Heap->Prop}(e:H c=some (.ext φ)):∀ {xs:List V} {bs:List (List Nt)},cP K H xs bs->cP K (L2.del H c) xs bs
 | _,_,.nil=>.nil
 | _,_,.cons h hn t=>.cons (oh h e) (hn.del e) (t.del e)
theorem bh.del{K:Frag}{H:Hp}{t m l c:Addr}{φ:Heap->Prop}{mt:Int×Int}{xs:List V}{bs:List (List Nt)}(h:bh K H t m l mt xs bs)(e:H c=some (.ext φ)):bh K (L2.del H c) t m l mt xs bs:=⟨fe h.1 e,fe h.2.1 e,oh h.2.2.1 e,h.2.2.2.del e⟩
theorem fg.keep{K:Frag}{H H':Hp}{v:V}(tb:cE K H)(s:kN K H H'):∀ {o:Option Tn},fg K H v o->fg K H' v o
 | none,h=>h
 | some (.num _),h=>h
 | some (.row _),⟨a,h1,h2,h3⟩=>⟨a,h1,s.at tb h2,h3⟩
theorem bE.keep{K:Frag}{H H':Hp}(tb:cE K H)(s:kN K H H'):∀ {xs:List V} {ns:List Nt},bE K H xs ns->bE K H' xs ns
 | _,_,.nil=>.nil
 | _,_,.cons ⟨a,t,l,h1,h2,h3,h4⟩ tl=>.cons ⟨a,t,l,h1,s.at tb h2,h3.keep tb s,s.at tb h4⟩ (tl.keep tb s)
theorem cP.keep{K:Frag}{H H':Hp}(tb:cE K H)(s:kN K H H'):∀ {xs:List V} {bs:List (List Nt)},cP K H xs bs->cP K H' xs bs
 | _,_,.nil=>.nil
 | _,_,.cons h hn t=>.cons (s.lst tb h) (hn.keep tb s) (t.keep tb s)
theorem Ai{cells:List (Str×Addr)}{y:Str}:∀ {names:List (Str×NameKind)} {acc:List (Str×Addr)},(names.all fun p=>!(p.2 == NameKind.free) || p.1 == y)=true->(∀ z c,acc.lookup z=some c->z=y)->∀ z c,(dP cells names acc).lookup z=some c->z=y
 | [],acc,_,h,z,c,e=>h z c e
 | (n,k)::r,acc,ha,h,z,c,e=>by
  rw [all_cons,Bool.and_eq_true] at ha
  refine Ai (names:=r) ha.2 (fun z c q=>?_) z c e
  by_cases hk:(k == NameKind.free)=true
  ·rw [if_pos hk] at q
   cases hl:cells.lookup n with
   | none=>rw [hl] at q;exact h z c q
   | some c0 =>
    rw [hl] at q
    simp only [lookup_cons] at q
    by_cases hz:(z == n)=true
    ·have:=ha.1
     rw [hk] at this
     rw [eq_of_beq hz]
     exact eq_of_beq (by simpa using this)
    ·rw [Bool.not_eq_true] at hz
     rw [hz] at q
     exact h z c q
  ·rw [if_neg hk] at q
   exact h z c q
theorem Aj{cells:List (Str×Addr)}{y:Str}{c:Addr}{names:List (Str×NameKind)}(h1:(names.all fun p=>!(p.2 == NameKind.free) || p.1 == y)=true)(h2:(y,NameKind.free)∈names)(h3:cells.lookup y=some c):(∀ z c0,(dP cells names []).lookup z=some c0->z=y/\c0=c)/\(dP cells names []).lookup y=some c:=by
 have hs:∀ x c,(dP cells names []).lookup x=some c->cells.lookup x=some c:=jP (fun x c q=>by simp at q)
 have hk:∀ z c,(dP cells names []).lookup z=some c->z=y:=Ai h1 (fun z c q=>by simp at q)
 obtain ⟨c1,e1⟩:=aaU.mp (jQ (cells:=cells) (names:=names) (acc:=[]) (x:=y) (.inr ⟨h2,by rw [h3];rfl⟩))
 have e2:=hs y c1 e1
 rw [h3] at e2
 cases e2
 refine⟨fun z c0 e=>?_,e1⟩
 have ez:=hk z c0 e
 subst ez
 rw [e1] at e
 cases e
 exact⟨rfl,rfl⟩
theorem bh.keep{K:Frag}{H H':Hp}{t m l:Addr}{mt:Int×Int}{xs:List V}{bs:List (List Nt)}(h:bh K H t m l mt xs bs)(tb:cE K H)(s:kN K H H'):bh K H' t m l mt xs bs:=⟨s.at tb h.1,s.at tb h.2.1,s.lst tb h.2.2.1,h.2.2.2.keep tb s⟩
def sx(r:Int)(cf:Nat->Int)(st:List Int):Nat->Int
 | 0=>r
 | i+1=>sx r cf st i+cf i*st.getD i 0
def fS(l:Int×Int):Prop:=∃ t b:Nat,l=((t:Int),(b:Int))/\t<=9999/\b<=9999/\1<=b
def smR(r:List Int):Prop:=∃ t0 t1 t2 t3 t4:Int,r=[t0,t1,t2,t3,t4]/\(-100<=t0/\t0<=100)/\(-20<=t1/\t1<=20)/\(-1<=t2/\t2<=1)/\(-1<=t3/\t3<=1)/\(-1<=t4/\t4<=1)
def M7:Option Tn->Prop
 | none=>True
 | some (.num _)=>False
 | some (.row r)=>smR r
def wU(mt:Int×Int)(bs:List (List Nt)):Prop:=1<=bs.length/\bs.length<=12/\(∀ ns∈bs,1<=ns.length/\ns.length<=12/\∀ n∈ns,M7 n.1/\fS n.2)/\fS mt
theorem si{t b:Nat}(h1:t<=9999)(h2:b<=9999)(h3:1<=b:=by lia):fS (((t / Nat.gcd t b:Nat):Int),((b / Nat.gcd t b:Nat):Int)):=⟨_,_,rfl,aaL (Nat.div_le_self _ _) h1,aaL (Nat.div_le_self _ _) h2,Nat.div_pos (Nat.gcd_le_right t h3) (Nat.gcd_pos_of_pos_right t h3)⟩
theorem Ak{K:Frag}{H:Hp}{c:Addr}{φ:Heap->Prop}(e:H c=some (.ext φ)):∀ {xs:List V} {rs:List (List Int)},aZ K H xs rs->aZ K (L2.del H c) xs rs
 | _,_,.nil=>.nil
 | _,_,.cons h u=>.cons (fe h e) (Ak e u)
theorem tP{K:Frag}{H:Hp}{c:Addr}{φ:Heap->Prop}(e:H c=some (.ext φ)):∀ {xs:List V} {ks:List (List Int×Int)},bY K H xs ks->bY K (L2.del H c) xs ks
 | _,_,.nil=>.nil
 | _,_,.cons h hw u=>.cons (fe h e) (fe hw e) (tP e u)
theorem sj{H:Hp}{a c C dx:Addr}{φ:Heap->Prop}{fs:List (Str×V)}(h:H a=some (.ins C dx fs))(e:H c=some (.ext φ)):L2.del H c a=some (.ins C dx fs):=by
 rw [dw (fun z=>by rw [z,e] at h;cases h)]
 exact h
theorem gX.del{K:Frag}{H:Hp}{t l c:Addr}{φ:Heap->Prop}(e:H c=some (.ext φ)):∀ {u:Tu},gX K H t l u->gX K (L2.del H c) t l u
 | .plain,⟨C,dx,h1,h2⟩=>⟨C,dx,h1,sj h2 e⟩
 | .comma _,⟨C,dx,ys,h1,h2,h3,h4⟩=>⟨C,dx,ys,h1,sj h2 e,oh h3 e,Ak e h4⟩
 | .key _,⟨C,dx,ys,h1,h2,h3,h4⟩=>⟨C,dx,ys,h1,sj h2 e,oh h3 e,tP e h4⟩
 | .cG _,⟨C,dx,ys,h1,h2,h3,h4⟩=>⟨C,dx,ys,h1,sj h2 e,oh h3 e,tP e h4⟩
def JD:Tu->List Int->Tn->Prop
 | .plain,r,y=>y=.row r
 | .comma st,r,y=>∃ v,y=.row v/\Q9 st r v
 | .key ks,r,y=>y=.row (ks.map fun k=>val k.1 k.2 r)
 | .cG w,r,y=>y=.num (dt r w)
theorem JD.uniq{u:Tu}(ho:u.ok){r:List Int}(lr:r.length=5){y z:Tn}(h:JD u r y)(k:JD u r z):y=z:=by
 cases u with
 | plain=>exact Eq.trans h (Eq.symm k)
 | comma st =>
  obtain ⟨v,rfl,hv⟩:=h
  obtain ⟨w,rfl,hw⟩:=k
  have:v=w:=(DH ho.1 ho.2.1 lr lr hv hw).mpr (by rw [iI lr];exact Span.zero)
  rw [this]
 | key ks=>exact Eq.trans h (Eq.symm k)
 | cG w=>exact Eq.trans h (Eq.symm k)
def uW(u:Tu)(r:List Int):Tn:=@dite _ (∃ y,JD u r y) (Classical.propDecidable _) (fun h=>h.choose) fun _=>.num 0
theorem gE{u:Tu}(ho:u.ok){r:List Int}(lr:r.length=5){y:Tn}(h:JD u r y):uW u r=y:=by
 have hx:∃ y,JD u r y:=⟨y,h⟩
 unfold uW
 rw [dif_pos hx]
 exact JD.uniq ho lr hx.choose_spec h
def kZ(n:Nt):Prop:=∀ t,n.1=some t->∃ r,t=.row r/\r.length=5/\dj (2 ^ 20000) r
theorem HQ{xs:List Int}{v:Int}{P m:Nat}(h:xs.length=P)(hv:0<v):Led (xs++[v]++List.replicate m 0) P:=by
 refine⟨?_,fun i hi=>?_⟩
 ·rw [List.getD,abg (by rw [aa6,h];show P<P+1;lia),abh (by lia),show P - xs.length=0 by lia]
  exact hv
 ·rw [List.getD,abh (by rw [aa6,h];show P+1<=i;lia),List.getElem?_replicate]
  split <;> rfl
structure DI(rs:List (List Int)):Prop where
 VI:JA rs
 len:Len 5 rs
 sm:∀ r∈rs,∀ x∈r,-3<=x/\x<=3
 cnt:rs.length<=5
theorem DI.of{rs:List (List Int)}{pl:Nat->Nat}(h3:rs.length<=5)(hp:∀ i j,i<j->j<rs.length->pl j<pl i)(h:∀ (j:Nat) (r:List Int),rs[j]?=some r->Led r (pl j)/\r.length=5/\∀ x∈r,-3<=x/\x<=3):DI rs:=by
 have g:∀ r∈rs,∃ j,rs[j]?=some r:=fun r hr=>by
  obtain ⟨j,hj,e⟩:=abB hr
  exact⟨j,by rw [aaZ hj,e]⟩
 refine⟨⟨fun r hr=>?_,?_⟩,fun r hr=>?_,fun r hr=>?_,h3⟩
 ·obtain ⟨j,hj⟩:=g r hr
  exact⟨_,(h j r hj).1⟩
 ·rw [List.pairwise_iff_getElem]
  intro i j hi hj WI k hk
  have e1:=(h i _ (aaZ hi)).1
  have e2:=(h j _ (aaZ hj)).1
  rw [<- e2.uniq hk]
  exact⟨_,hp i j WI hj,e1⟩
 ·obtain ⟨j,hj⟩:=g r hr
  exact (h j r hj).2.1
 ·obtain ⟨j,hj⟩:=g r hr
  exact (h j r hj).2.2
def RB(rs:List (List Int))(i:Nat)(r v:List Int):Prop:=v.length=5/\Span 5 rs (sub r v)/\∀ (j:Nat) (s:List Int) (k:Nat),j<i->rs[j]?=some s->Led s k->0<=v.getD k 0/\v.getD k 0<s.getD k 0
theorem RB.step{rs:List (List Int)}{i k:Nat}{r v s:List Int}(h:RB rs i r v)(hs:DI rs)(lr:r.length=5)(hi:rs[i]?=some s)(hk:Led s k):RB rs (i+1) r (low v s (v.getD k 0 / s.getD k 0)):=by
 obtain ⟨lv,h1,h2⟩:=h
 have hm:s∈rs:=aa4 hi
 have ls:=hs.len s hm
 refine⟨b8 lv ls,?_,fun j s' k' hj MF ph=>?_⟩
 ·have e:sub r (low v s (v.getD k 0 / s.getD k 0))=low (sub r v) s (-(v.getD k 0 / s.getD k 0)):=b7 (sub_len lr (b8 lv ls)) (b8 (sub_len lr lv) ls) fun n _=>by
   rw [bW lr (b8 lv ls),cW lv ls,cW (sub_len lr lv) ls,bW lr lv,mul_neg]
   lia
  rw [e]
  exact Span.low (sub_len lr lv) ls h1 (Span.mem hm) _
 ·rw [cW lv ls]
  by_cases Vu:j=i
  ·subst Vu
   rw [hi] at MF
   cases MF
   rw [hk.uniq ph] at *
   have e1:=emod_nonneg (v.getD k' 0) (show s.getD k' 0≠0 by have:=ph.1;lia)
   have e2:=emod_lt_of_pos (v.getD k' 0) ph.1
   have e3:=Int.emod_add_mul_ediv (v.getD k' 0) (s.getD k' 0)
   lia
  ·obtain ⟨y6,rj⟩:=aaI.mp hi
   obtain ⟨T5,hj2⟩:=aaI.mp MF
   obtain ⟨q,q1,q2⟩:=List.pairwise_iff_getElem.mp hs.VI.2 j i T5 y6 (by lia) k (by rw [rj];exact hk)
   rw [hj2] at q2
   have e0:s.getD k' 0=0:=hk.2 k' (by rw [<- q2.uniq ph];exact q1)
   rw [e0,zero_mul,Int.sub_zero]
   exact h2 j s' k' (by lia) MF ph
theorem T6{q s B:Int}(h1:-B<=q/\q<=B)(h2:-3<=s/\s<=3):-(3*B)<=q*s/\q*s<=3*B:=by
 rcases (show s=-3\/s=-2\/s=-1\/s=0\/s=1\/s=2\/s=3 by lia) with rfl|rfl|rfl|rfl|rfl|rfl|rfl <;> lia
theorem Lv{v s:List Int}(q:Int)(lv:v.length=5)(ls:s.length=5):List.zipWith (fun x y=>x - q*y) v s=low v s q:=by
 refine b7 (n:=5) (by simp [lv,ls]) (b8 lv ls) fun i hi=>?_
 rw [cW lv ls]
 simp [List.getD,getElem?_zipWith,aaZ (show i<v.length by lia),aaZ (show i<s.length by lia),Int.mul_comm]
inductive Kd where
 | plain (w:List Int):Kd
 | steps (rs:List (List Int)):Kd
 | keys (ks:List (List Int×Int)):Kd
 | cG (w:List Int):Kd
def Kd.num:Kd->Int
 | .plain _=>0
 | .steps _=>1
 | .keys _=>2
 | .cG _=>3
def cK(K:Frag)(H:Hp)(a:Addr):Kd->Prop
 | .plain w=>aN K H a (w.map V.int)
 | .steps rs=>∃ ys,H a=some (.lst ys)/\cp H ys rs/\∀ x∈ys,x≠V.ref a
 | .keys ks=>∃ ys,H a=some (.lst ys)/\bY K H ys ks
 | .cG w=>aN K H a (w.map V.int)
def Kd.ok:Kd->Prop
 | .plain w=>w.length=5
 | .steps rs=>DI rs
 | .keys ks=>ks.length<=6/\∀ k∈ks,k.1.length=5/\(∀ x∈k.1,-10<=x/\x<=10)/\(k.2=0\/2<=k.2)/\k.2<=100
 | .cG w=>w.length=5/\1<=w.getD 0 0/\∀ x∈w,-30<=x/\x<=30
theorem cK.same{K:Frag}{H H':Hp}{a:Addr}(s:ai H H'):∀ {d:Kd},cK K H a d->cK K H' a d
 | .plain _,h=>s.at h
 | .steps _,⟨ys,h1,h2,h3⟩=>⟨ys,s _ _ h1,h2.same s,h3⟩
 | .keys _,⟨ys,h1,h2⟩=>⟨ys,s _ _ h1,h2.same s⟩
 | .cG _,h=>s.at h
theorem cK.keep{K:Frag}{H H':Hp}{a:Addr}(tb:cE K H)(s:kN K H H'):∀ {d:Kd},cK K H a d->cK K H' a d
 | .plain _,h=>s.at tb h
 | .steps _,⟨ys,h1,h2,h3⟩=>⟨ys,s.lst tb h1,h2.iJ s tb,h3⟩
 | .keys _,⟨ys,h1,h2⟩=>⟨ys,s.lst tb h1,h2.iJ s tb⟩
 | .cG _,h=>s.at tb h
def VJ:Kd->List Int->Tn->Prop
 | .plain _,r,y=>y=.row r
 | .steps rs,r,y=>∃ v,y=.row v/\RB rs rs.length r v
 | .keys ks,r,y=>y=.row (ks.map fun k=>val k.1 k.2 r)
 | .cG w,r,y=>y=.num (val w 0 r)
theorem PB{rs st:List (List Int)}{r v:List Int}(hs:DI rs)(sf:SF st)(hl:Len 5 st)(he:Eqv 5 rs st)(h:RB rs rs.length r v):Q9 st r v:=by
 refine⟨h.1,he.span h.2.1,fun s hm k hk=>?_⟩
 have sz:s≠tp 5:=fun z=>by
  have:=hk.1
  rw [z,d8] at this
  lia
 obtain ⟨t,ht,k',c,p1,p2,p3,p4⟩:=hs.VI.top hs.len (he.2 s hm) sz
 have g3:=p1.1
 have ek:k'=k:=by
  rcases Nat.lt_trichotomy k' k with z|z|z
  ·have:=p4 k z
   have:=hk.1
   lia
  ·exact z
  ·have e1:=hk.2 k' z
   rw [e1] at p2
   rcases BL p1.1 p3 with w|w <;> lia
 subst ek
 obtain ⟨j,hj,e⟩:=abB ht
 have b:=h.2.2 j t k' hj (by rw [aaZ hj,e]) p1
 have:=hk.1
 rcases BL p1.1 p3 with w|w <;> lia
def PC(d:Kd)(u:Tu):Prop:=∀ r y,r.length=5->VJ d r y->JD u r y
theorem DJ{M:Nat}{w:List Int}{b:Int}(h:∀ x∈w,-b<=x/\x<=b)(hb:b.toNat<=M):dj M w:=Px fun x hx=>by
 have:=h x hx
 lia
def CmI(H:Hp)(pl:Addr)(zs:List V)(rs qs:List (List Int))(B:Int):Prop:=H pl=some (.lst zs)/\cp H zs qs/\(∀ x∈zs,x≠V.ref pl)/\Eqv 5 rs qs/\Len 5 qs/\qs.length=rs.length/\∀ v∈qs,∀ x∈v,-B<=x/\x<=B
theorem Lw{qs:List (List Int)}{i j:Nat}{u v:List Int}(hl:Len 5 qs)(hi:qs[i]?=some u)(hj:qs[j]?=some v)(ne:i≠j)(q:Int):Eqv 5 qs (qs.set i (low u v q)):=by
 have hu:=aa4 hi
 have hv:=aa4 hj
 have X6:=(aaI.mp hi).1
 have Gv:low u v q∈qs.set i (low u v q):=aa4 (i:=i) (by rw [getElem?_set_self X6])
 have hvn:v∈qs.set i (low u v q):=aa4 (i:=j) (by rw [getElem?_set_ne ne];exact hj)
 refine⟨fun r hr=>?_,fun r hr=>?_⟩
 ·obtain ⟨n,hn,e⟩:=abB hr
  by_cases z:n=i
  ·subst z
   have:u=r:=by rw [aaZ hn,e] at hi;exact (aaO hi).symm
   rw [<- this]
   exact Span.ME (hl u hu) (hl v hv) (Span.mem Gv) (Span.mem hvn)
  ·exact Span.mem (aa4 (i:=n) (by rw [getElem?_set_ne (Ne.symm z),aaZ hn,e]))
 ·rcases mem_or_eq_of_mem_set hr with z|z
  ·exact Span.mem z
  ·rw [z]
   exact Span.low (hl u hu) (hl v hv) (Span.mem hu) (Span.mem hv) q
theorem Lx{qs:List (List Int)}{i:Nat}{u:List Int}(hl:Len 5 qs)(hi:qs[i]?=some u):Eqv 5 qs (qs.set i (c5 u (-1))):=by
 have hu:=aa4 hi
 have X6:=(aaI.mp hi).1
 have Gv:c5 u (-1)∈qs.set i (c5 u (-1)):=aa4 (i:=i) (by rw [getElem?_set_self X6])
 refine⟨fun r hr=>?_,fun r hr=>?_⟩
 ·obtain ⟨n,hn,e⟩:=abB hr
  by_cases z:n=i
  ·subst z
   have:u=r:=by rw [aaZ hn,e] at hi;exact (aaO hi).symm
   rw [<- this]
   have h2:=Span.neg (aP (hl u hu)) (Span.mem (n:=5) Gv)
   have e2:c5 (c5 u (-1)) (-1)=u:=b7 (aP (aP (hl u hu))) (hl u hu) fun n _=>by
    rw [bK,bK]
    lia
   rw [e2] at h2
   exact h2
  ·exact Span.mem (aa4 (i:=n) (by rw [getElem?_set_ne (Ne.symm z),aaZ hn,e]))
 ·rcases mem_or_eq_of_mem_set hr with z|z
  ·exact Span.mem z
  ·rw [z]
   exact Span.neg (hl u hu) (Span.mem hu)
theorem wV{H:Hp}:∀ {zs:List V} {qs:List (List Int)} (i:Nat),cp H zs qs->cp H (zs.take i) (qs.take i)
 | _,_,0,_=>by rw [take_zero,take_zero];exact .nil
 | _,_,_+1,.nil=>.nil
 | _,_,i+1,.cons h t=>.cons h (wV i t)
theorem tQ{H:Hp}{p:Addr}{r:List Int}(h:H p=some (.lst (r.map V.int))):∀ {zs:List V} {qs:List (List Int)} (i:Nat),cp H zs qs->cp H (zs.set i (.ref p)) (qs.set i r)
 | _,_,_,.nil=>.nil
 | _,_,0,.cons _ t=>.cons h t
 | _,_,i+1,.cons h1 t=>.cons h1 (tQ h i t)
def Al(r q:List Int):List Int:=List.zipWith (·+·) r q
def T7(r:List Int):Bool:=fits (r.getD 0 0) (r.getD 1 0) (r.getD 2 0) (r.getD 3 0) (r.getD 4 0)
inductive B5 where
 | mv (sq:List Int):B5
 | sd (u:Tu):B5
def chO:B5->Option Tn->Option Tn
 | .mv sq,some (.row r)=>some (.row (Al r sq))
 | .sd u,some (.row r)=>some (uW u r)
 | _,o=>o
def gd(c:B5)(n:Nt):Nt:=(chO c n.1,n.2)
def JE:B5->Option Tn->Bool
 | .mv sq,some (.row r)=>T7 (Al r sq)
 | _,_=>true
def mD(K:Frag)(H:Hp)(x l0:Addr):B5->Prop
 | .mv sq=>aN K H x (sq.map V.int)/\sq.length=5
 | .sd u=>gX K H x l0 u/\u.ok
theorem mD.same{K:Frag}{H H':Hp}{x l0:Addr}:∀ {c:B5},mD K H x l0 c->ai H H'->mD K H' x l0 c
 | .mv _,h,s=>⟨s.at h.1,h.2⟩
 | .sd _,h,s=>⟨h.1.same s,h.2⟩
def tR:B5->Hp->Addr->Addr->Addr->Obj->Prop
 | .mv _,H,f,cS,x,ob=>jG H f cS (.ref x) ob "moved.<locals>.<lambda>" "span" (EI HJ) (EJ HJ) (Af HJ)
 | .sd _,H,f,cS,x,ob=>jG H f cS (.ref x) ob "sounds.<locals>.<lambda>" "tuning" (EI HN) (EJ HN) (Af HN)
theorem tR.same{H H':Hp}{f cS x:Addr}{ob:Obj}:∀ {c:B5},tR c H f cS x ob->ai H H'->tR c H' f cS x ob
 | .mv _,h,s=>jG.same h s
 | .sd _,h,s=>jG.same h s
theorem xS{α:Type}{f:α->PyData}(h:∀ x,PyData.canLay0 (f x)=true):∀ l:List α,PyData.canLayAll0 (l.map f)=true
 | []=>rfl
 | x::l=>by simp only [map_cons,PyData.canLayAll0,xS h l,h x,Bool.and_self]
theorem tS{α:Type}{f:α->PyData}{d:Nat}(h:∀ x,PyData.depth (f x)<=d):∀ l:List α,PyData.depthAll (l.map f)<=d
 | []=>by simp [PyData.depthAll]
 | x::l=>by
  have:=tS h l
  have:=h x
  simp only [map_cons,PyData.depthAll]
  lia
def jf(r:List Int):PyData:=.tuple (r.map PyData.int)
def HR:Tn->PyData
 | .row r=>jf r
 | .num i=>.int i
def oi:Option Tn->PyData
 | none=>.none
 | some y=>HR y
def lJ(n:Nt):PyData:=.tuple [oi n.1,jf [n.2.1,n.2.2]]
def xT(ns:List Nt):PyData:=.list (ns.map lJ)
def dC(mt:Int×Int)(bs:List (List Nt)):PyData:=.tuple [jf [mt.1,mt.2],.list (bs.map xT)]
theorem HS(r:List Int):PyData.eqv (jf r) (jf r)=true:=by
 unfold jf
 rw [rX]
 exact aaT rfl
theorem tU(r:List Int):PyData.canLay0 (jf r)=true:=DB r
theorem pQ(r:List Int):PyData.depth (jf r)<=2:=zX r
theorem EO(n:Nt):PyData.canLay0 (lJ n)=true:=by
 have h1:PyData.canLay0 (oi n.1)=true:=by
  cases n.1 with
  | none=>rfl
  | some y =>
   cases y with
   | row r=>exact tU r
   | num i=>rfl
 simp only [lJ,PyData.canLay0,PyData.canLayAll0,h1,tU,Bool.and_self]
theorem B6(n:Nt):PyData.depth (lJ n)<=3:=by
 have h1:PyData.depth (oi n.1)<=2:=by
  cases n.1 with
  | none=>exact abv _
  | some y =>
   cases y with
   | row r=>exact pQ r
   | num i=>exact abv _
 have h2:=pQ [n.2.1,n.2.2]
 simp only [lJ,PyData.depth,PyData.depthAll]
 lia
theorem gf(mt:Int×Int)(bs:List (List Nt)):SeqAt.shaped (dC mt bs)=true:=by
 have h1:PyData.canLay0 (dC mt bs)=true:=by
  have:PyData.canLayAll0 (bs.map xT)=true:=xS (fun ns=>by simp only [xT,PyData.canLay0];exact xS EO ns) bs
  simp only [dC,PyData.canLay0,PyData.canLayAll0,tU,this,Bool.and_self]
 have h2:PyData.depth (dC mt bs)<=64:=by
  have d1:PyData.depthAll (bs.map xT)<=4:=tS (fun ns=>by
   have:=tS B6 ns
   simp only [xT,PyData.depth]
   lia) bs
  have d2:=pQ [mt.1,mt.2]
  simp only [dC,PyData.depth,PyData.depthAll]
  lia
 unfold SeqAt.shaped
 rw [h1,aaT h2]
 rfl
theorem xU{K:Frag}{H:Hp}{v:V}:∀ {y:Tn},JC K H v y->gw K H v (HR y)
 | .row r,⟨a,h1,h2,_⟩=>by
  rw [h1]
  exact gw.row h2
 | .num i,h=>by
  have e:v=.int i:=h
  rw [e]
  exact .int i
theorem ER{K:Frag}{H:Hp}{v:V}:∀ {o:Option Tn},fg K H v o->gw K H v (oi o)
 | none,h=>by
  have e:v=.dz:=h
  rw [e]
  exact .dz
 | some y,h=>xU h
theorem ES{K:Frag}{H:Hp}{v:V}{n:Nt}(h:cZ K H v n):gw K H v (lJ n):=by
 obtain ⟨a,t,l,rfl,h1,h2,h3⟩:=h
 exact .tup h1 (.cons (ER h2) (.cons (gw.row (r:=[n.2.1,n.2.2]) h3) .nil))
theorem tV{K:Frag}{H:Hp}:∀ {xs:List V} {ns:List Nt},bE K H xs ns->Tells K H xs (ns.map lJ)
 | _,_,.nil=>.nil
 | _,_,.cons h t=>.cons (ES h) (tV t)
theorem wW{K:Frag}{H:Hp}:∀ {xs:List V} {bs:List (List Nt)},cP K H xs bs->Tells K H xs (bs.map xT)
 | _,_,.nil=>.nil
 | _,_,.cons h hn t=>.cons (.lst (aR.of h) (tV hn)) (wW t)
theorem kP{K:Frag}{H:Hp}{t m l:Addr}{mt:Int×Int}{xs:List V}{bs:List (List Nt)}(h:bh K H t m l mt xs bs):gw K H (.ref t) (dC mt bs) :=
 .tup h.1 (.cons (gw.row (r:=[mt.1,mt.2]) h.2.1) (.cons (.lst (aR.of h.2.2.1) (wW h.2.2.2)) .nil))
instance:DecidableEq Tn:=fun a b=>match a,b with
 | .row r,.row q=>if h:r=q then isTrue (by rw [h]) else isFalse fun e=>h (by cases e;rfl)
 | .num i,.num j=>if h:i=j then isTrue (by rw [h]) else isFalse fun e=>h (by cases e;rfl)
 | .row _,.num _=>isFalse fun e=>nomatch e
 | .num _,.row _=>isFalse fun e=>nomatch e
theorem sr{α:Type} [DecidableEq α] {f:α->PyData} (h:∀ x y,PyData.eqv (f x) (f y)=decide (x=y)):∀ l k:List α,PyData.eqvAll (l.map f) (k.map f)=decide (l=k)
 | [],[]=>by simp [PyData.eqvAll]
 | [],_::_=>by simp [PyData.eqvAll]
 | _::_,[]=>by simp [PyData.eqvAll]
 | x::l,y::k=>by
  simp only [map_cons,PyData.eqvAll,h x y,sr h l k,List.cons.injEq,Bool.decide_and]
theorem DK(y z:Tn):PyData.eqv (HR y) (HR z)=decide (y=z):=by
 cases y with
 | row r =>
  cases z with
  | row q =>
   show PyData.eqv (jf r) (jf q)=_
   unfold jf
   rw [rX]
   simp
  | num j=>simp [HR,jf,PyData.eqv]
 | num i =>
  cases z with
  | row q=>simp [HR,jf,PyData.eqv]
  | num j =>
   show PyData.eqv (.int i) (.int j)=_
   by_cases h:i=j
   ·subst h;simp [PyData.eqv]
   ·simp [PyData.eqv,h]
theorem ET(y z:Option Tn):PyData.eqv (oi y) (oi z)=decide (y=z):=by
 cases y with
 | none =>
  cases z with
  | none=>simp [oi,PyData.eqv]
  | some b=>cases b <;> simp [oi,HR,jf,PyData.eqv]
 | some a =>
  cases z with
  | none=>cases a <;> simp [oi,HR,jf,PyData.eqv]
  | some b =>
   show PyData.eqv (HR a) (HR b)=_
   rw [DK]
   simp
theorem B7(n q:Nt):PyData.eqv (lJ n) (lJ q)=decide (n=q):=by
 obtain ⟨a,b,c⟩:=n
 obtain ⟨a',b',c'⟩:=q
 have h2:PyData.eqv (jf [b,c]) (jf [b',c'])=decide ([b,c]=[b',c']):=rX _ _
 simp only [lJ,PyData.eqv,PyData.eqvAll,ET,h2]
 simp [Bool.decide_and]
theorem wX(n q:List Nt):PyData.eqv (xT n) (xT q)=decide (n=q):=by
 unfold xT
 simp only [PyData.eqv]
 exact sr B7 n q
theorem tW(mt:Int×Int)(n q:List (List Nt)):PyData.eqv (dC mt n) (dC mt q)=decide (n=q):=by
 simp only [dC,PyData.eqv,PyData.eqvAll,HS,sr wX n q,Bool.true_and,Bool.and_true]
def gY(B:Int)(r:List Int):Prop:=r.length=5/\∀ x∈r,-B<=x/\x<=B
def oj(B:Int):Option Tn->Prop
 | none=>True
 | some (.num _)=>False
 | some (.row r)=>gY B r
def xV(B:Int)(bs:List (List Nt)):Prop:=1<=bs.length/\bs.length<=20/\∀ ns∈bs,1<=ns.length/\ns.length<=12/\∀ n∈ns,oj B n.1
theorem oj.mono{B C:Int}(hc:B<=C):∀ {o:Option Tn},oj B o->oj C o
 | none,_=>trivial
 | some (.row _),h=>⟨h.1,fun x hx=>by have:=h.2 x hx;lia⟩
theorem xV.mono{B C:Int}{bs:List (List Nt)}(h:xV B bs)(hc:B<=C):xV C bs:=⟨h.1,h.2.1,fun ns hn=>⟨(h.2.2 ns hn).1,(h.2.2 ns hn).2.1,fun n hm=>((h.2.2 ns hn).2.2 n hm).mono hc⟩⟩
theorem oj.n{n:Nt}(h:oj 1000 n.1):kZ n:=fun t e=>by
 rw [e] at h
 cases t with
 | num i=>exact h.elim
 | row r=>exact⟨r,rfl,h.1,DJ (b:=1000) h.2 (aaL (show 1000<=2 ^ 10 by decide) (abc (by decide) (by decide)))⟩
theorem xV.rows{B:Int}{bs:List (List Nt)}(h:xV B bs)(hc:B<=1000):∀ ns∈bs,ns.length<=100/\∀ n∈ns,kZ n:=fun ns hn=>⟨aaL (h.2.2 ns hn).2.1 (by decide),fun n hm=>((h.2.2 ns hn).2.2 n hm |>.mono hc).n⟩
def vf(b c:Int)(r:List Int):Prop:=∃ t0 t1 t2 t3 t4:Int,r=[t0,t1,t2,t3,t4]/\(-b<=t0/\t0<=b)/\(-c<=t1/\t1<=c)/\(-c<=t2/\t2<=c)/\(-c<=t3/\t3<=c)/\(-c<=t4/\t4<=c)
def Am(b c:Int):Option Tn->Prop
 | none=>True
 | some (.num _)=>False
 | some (.row r)=>vf b c r
theorem T8{B u0 u1 u2 u3 u4:Int}(h0:-B<=u0/\u0<=B)(h1:-B<=u1/\u1<=B)(h2:-B<=u2/\u2<=B)(h3:-B<=u3/\u3<=B)(h4:-B<=u4/\u4<=B):gY B [u0,u1,u2,u3,u4]:=⟨rfl,fun x hx=>by
 simp only [aa9,not_mem_nil,or_false] at hx
 rcases hx with rfl|rfl|rfl|rfl|rfl <;> assumption⟩
theorem vf.b{b c:Int}(hc:c<=b){r:List Int}(h:vf b c r):gY b r:=by
 obtain ⟨_,_,_,_,_,rfl,h0,h1,h2,h3,h4⟩:=h
 exact T8 h0 (by lia) (by lia) (by lia) (by lia)
theorem gY.t{b:Int}{r:List Int}(h:gY b r):vf b b r:=by
 obtain ⟨u0,u1,u2,u3,u4,rfl⟩:=cJ h.1
 exact⟨_,_,_,_,_,rfl,h.2 u0 (by simp),h.2 u1 (by simp),h.2 u2 (by simp),h.2 u3 (by simp),h.2 u4 (by simp)⟩
theorem T9{b c d e:Int}{sq:List Int}(hs:vf d e sq)(h1:b+d<=700)(h2:c+e<=60):∀ {o:Option Tn},Am b c o->JE (.mv sq) o=true
 | none,_=>rfl
 | some (.row _),h=>by
  obtain ⟨t0,t1,t2,t3,t4,rfl,a0,a1,a2,a3,a4⟩:=h
  obtain ⟨s0,s1,s2,s3,s4,rfl,b0,b1,b2,b3,b4⟩:=hs
  show fits (t0+s0) (t1+s1) (t2+s2) (t3+s3) (t4+s4)=true
  exact Lu ⟨by lia,by lia,by lia,by lia,by lia⟩
def JF(b c:Int)(bs:List (List Nt)):Prop:=1<=bs.length/\bs.length<=12/\∀ ns∈bs,1<=ns.length/\ns.length<=12/\∀ n∈ns,Am b c n.1
theorem Am.m{b c:Int}(hc:c<=b):∀ {o:Option Tn},Am b c o->oj b o
 | none,_=>trivial
 | some (.row _),h=>vf.b hc h
def rB(bs:List (List Nt)):Prop:=∀ ns∈bs,∀ n∈ns,fS n.2
theorem JF.r{b c:Int}(hc:c<=b){bs:List (List Nt)}(h:JF b c bs):xV b bs:=⟨h.1,aaL h.2.1 (by decide),fun ns hn=>⟨(h.2.2 ns hn).1,(h.2.2 ns hn).2.1,fun n hm=>((h.2.2 ns hn).2.2 n hm).m hc⟩⟩
theorem M7.o:∀ {o:Option Tn},M7 o->Am 100 20 o
 | none,_=>trivial
 | some (.row _),⟨t0,t1,t2,t3,t4,h,b0,b1,b2,b3,b4⟩=>⟨t0,t1,t2,t3,t4,h,b0,b1,by lia,by lia,by lia⟩
theorem wU.o{mt:Int×Int}{bs:List (List Nt)}(h:wU mt bs):JF 100 20 bs:=⟨h.1,h.2.1,fun ns hn=>⟨(h.2.2.1 ns hn).1,(h.2.2.1 ns hn).2.1,fun n hm=>M7.o ((h.2.2.1 ns hn).2.2 n hm).1⟩⟩
def X7(mt:Int×Int)(bs:List (List Nt))(sq:List Int):Prop:=xV 700 bs/\gY 100 sq/\bs.length<=12/\(∀ ns∈bs,∀ n∈ns,JE (.mv sq) n.1=true)/\rB bs/\fS mt
theorem HU{b c d e:Int}{mt:Int×Int}{bs:List (List Nt)}{sq:List Int}(h:JF b c bs)(hL:rB bs)(hM:fS mt)(hs:vf d e sq)(h1:b+d<=700)(h2:c+e<=60)(hc:c<=b)(he:e<=d)(hd:d<=100)(hd0:0<=d):X7 mt bs sq:=⟨(h.r hc).mono (by lia),⟨(hs.b he).1,fun x hx=>by have:=(hs.b he).2 x hx;lia⟩,h.2.1,fun ns hn n hm=>T9 hs h1 h2 ((h.2.2 ns hn).2.2 n hm),hL,hM⟩
theorem wU.l{mt:Int×Int}{bs:List (List Nt)}(h:wU mt bs):rB bs/\fS mt:=⟨fun ns hn n hm=>((h.2.2.1 ns hn).2.2 n hm).2,h.2.2.2⟩
def HV(n:Nt):Nt:=(none,n.2)
theorem JF.X8{b c:Int}{bs:List (List Nt)}(h:JF b c bs):JF b c (bs.map fun ns=>ns.map HV):=by
 refine⟨by rw [aa5];exact h.1,by rw [aa5];exact h.2.1,fun ns hn=>?_⟩
 obtain ⟨q,hq,rfl⟩:=aba.mp hn
 refine⟨by rw [aa5];exact (h.2.2 q hq).1,by rw [aa5];exact (h.2.2 q hq).2.1,fun n hm=>?_⟩
 obtain ⟨x,hx,rfl⟩:=aba.mp hm
 exact trivial
theorem rB.X8{bs:List (List Nt)}(h:rB bs):rB (bs.map fun ns=>ns.map HV):=fun ns hn n hm=>by
 obtain ⟨q,hq,rfl⟩:=aba.mp hn
 obtain ⟨x,hx,rfl⟩:=aba.mp hm
 exact h q hq x hx
theorem M8{rs:List (List Int)}{r:List Int}(hs:DI rs)(lr:r.length=5):∀ i,i<=rs.length->∃ v,RB rs i r v
 | 0,_=>⟨r,lr,by rw [iI lr];exact Span.zero,fun j s k hj=>by lia⟩
 | i+1,hi=>by
  obtain ⟨v,hv⟩:=M8 hs lr i (by lia)
  obtain ⟨k,hk⟩:=hs.VI.1 rs[i] (abA _)
  exact⟨_,hv.step hs lr (aaZ (by lia)) hk⟩
theorem tX(y:Tn):SeqAt.shaped (HR y)=true:=by
 cases y with
 | row r=>exact BQ r
 | num i=>rfl
theorem xW{d:Kd}(h:d.ok){r:List Int}(lr:r.length=5):∃ y,VJ d r y:=by
 cases d with
 | plain w=>exact⟨_,rfl⟩
 | steps rs =>
  obtain ⟨v,hv⟩:=M8 (rs:=rs) h lr rs.length (aaM _)
  exact⟨_,v,rfl,hv⟩
 | keys ks=>exact⟨_,rfl⟩
 | cG w=>exact⟨_,rfl⟩
theorem HW{u:Tu}(ho:u.ok){a b:List Int}(la:a.length=5)(lb:b.length=5){y z:Tn}(hy:JD u a y)(hz:JD u b z):y=z↔u.rl a b:=by
 cases u with
 | plain =>
  obtain rfl:y=.row a:=hy
  obtain rfl:z=.row b:=hz
  exact⟨fun e=>by cases e;rfl,fun e=>by rw [show a=b from e]⟩
 | comma st =>
  obtain ⟨v,rfl,hv⟩:=hy
  obtain ⟨w,rfl,hw⟩:=hz
  have h:=DH ho.1 ho.2.1 la lb hv hw
  exact⟨fun e=>h.mp (by cases e;rfl),fun e=>by rw [h.mpr e]⟩
 | key ks =>
  obtain rfl:y=.row _:=hy
  obtain rfl:z=.row _:=hz
  have h:=EN (fun k hk=>(ho.2.2 k hk).1) ho.2.1 la lb
  exact⟨fun e=>h.mp (by injection e),fun e=>by rw [h.mpr e]⟩
 | cG w =>
  obtain rfl:y=.num _:=hy
  obtain rfl:z=.num _:=hz
  have h:dt a w=dt b w↔VZ w 0 (sub a b):=by
   rw [VZ,BI la lb ho.1,Int.zero_dvd]
   lia
  exact⟨fun e=>h.mp (by injection e),fun e=>by rw [h.mpr e]⟩
theorem om{r s:List Int}(lr:r.length=5)(ls:s.length=5):(Al r s).length=5:=by
 unfold Al
 rw [List.length_zipWith,lr,ls]
 rfl
theorem An{u:Tu}{r s:List Int}(lr:r.length=5)(ls:s.length=5):u.rl (Al r s) r↔u.rl s [0,0,0,0,0]:=by
 obtain ⟨r0,r1,r2,r3,r4,rfl⟩:=cJ lr
 obtain ⟨s0,s1,s2,s3,s4,rfl⟩:=cJ ls
 have e1:sub (Al [r0,r1,r2,r3,r4] [s0,s1,s2,s3,s4]) [r0,r1,r2,r3,r4]=[s0,s1,s2,s3,s4]:=by
  show [r0+s0 - r0,r1+s1 - r1,r2+s2 - r2,r3+s3 - r3,r4+s4 - r4]=_
  have e:∀ x y:Int,x+y - x=y:=fun x y=>by lia
  rw [e,e,e,e,e]
 have e2:sub [s0,s1,s2,s3,s4] [0,0,0,0,0]=[s0,s1,s2,s3,s4]:=by
  show [s0 - 0,s1 - 0,s2 - 0,s3 - 0,s4 - 0]=_
  rw [Int.sub_zero,Int.sub_zero,Int.sub_zero,Int.sub_zero,Int.sub_zero]
 cases u with
 | plain =>
  show [r0+s0,r1+s1,r2+s2,r3+s3,r4+s4]=[r0,r1,r2,r3,r4]↔[s0,s1,s2,s3,s4]=[0,0,0,0,0]
  simp only [List.cons.injEq,and_true]
  lia
 | comma st =>
  show Span 5 st (sub _ _)↔Span 5 st (sub _ _)
  rw [e1,e2]
 | key ks =>
  show (∀ k∈ks,VZ k.1 k.2 (sub _ _))↔∀ k∈ks,VZ k.1 k.2 (sub _ _)
  rw [e1,e2]
 | cG w =>
  show VZ w 0 (sub _ _)↔VZ w 0 (sub _ _)
  rw [e1,e2]
theorem Ly{d:Kd}{u:Tu}(hd:d.ok)(ho:u.ok)(hl:PC d u){r s:List Int}(lr:r.length=5)(ls:s.length=5):uW u r=uW u (Al r s)↔uW u s=uW u [0,0,0,0,0]:=by
 obtain ⟨y1,h1⟩:=xW hd lr
 obtain ⟨y2,h2⟩:=xW hd (om lr ls)
 obtain ⟨y3,h3⟩:=xW hd ls
 obtain ⟨y4,h4⟩:=xW hd (r:=[0,0,0,0,0]) rfl
 have g1:=hl _ _ lr h1
 have g2:=hl _ _ (om lr ls) h2
 have g3:=hl _ _ ls h3
 have g4:=hl [0,0,0,0,0] y4 rfl h4
 rw [gE ho lr g1,gE ho (om lr ls) g2,gE ho ls g3,gE ho (r:=[0,0,0,0,0]) rfl g4]
 have a1:=HW ho (om lr ls) lr g2 g1
 have a2:=HW ho ls (b:=[0,0,0,0,0]) rfl g3 g4
 exact⟨fun e=>a2.mpr ((An lr ls).mp (a1.mp e.symm)),fun e=>(a1.mpr ((An lr ls).mpr (a2.mp e))).symm⟩
def quiet(bs:List (List Nt)):Prop:=∀ ns∈bs,∀ n∈ns,n.1=none
theorem B8{d:Kd}{u:Tu}(hd:d.ok)(ho:u.ok)(hl:PC d u){s:List Int}(ls:s.length=5){B:Int}{bs:List (List Nt)}(h:xV B bs):(bs.map fun ns=>ns.map (gd (.sd u)))=((bs.map fun ns=>ns.map (gd (.mv s))).map fun ns=>ns.map (gd (.sd u)))↔(quiet bs\/uW u s=uW u [0,0,0,0,0]):=by
 have key:∀ n:Nt,oj B n.1->(gd (.sd u) n=gd (.sd u) (gd (.mv s) n)↔(n.1=none\/uW u s=uW u [0,0,0,0,0])):=fun n hn=>by
  obtain ⟨o,l⟩:=n
  cases o with
  | none=>exact⟨fun _=>.inl rfl,fun _=>rfl⟩
  | some y =>
   cases y with
   | num i=>exact (show False from hn).elim
   | row r =>
    have lr:r.length=5:=(show gY B r from hn).1
    show (some (uW u r),l)=(some (uW u (Al r s)),l)↔_
    rw [Prod.mk.injEq,Option.some.injEq,and_iff_left rfl,Ly hd ho hl lr ls]
    exact⟨.inr,fun z=>z.elim (fun e=>nomatch e) id⟩
 rw [abp,map_inj_left]
 constructor
 ·intro hh
  by_cases hq:quiet bs
  ·exact .inl hq
  ·right
   unfold quiet at hq
   simp only [Classical.not_forall] at hq
   obtain ⟨ns,hn,n,hm,MP⟩:=hq
   have h1:=hh ns hn
   have h2:ns.map (gd (.sd u))=(ns.map (gd (.mv s))).map (gd (.sd u)):=h1
   rw [abp,map_inj_left] at h2
   exact ((key n ((h.2.2 ns hn).2.2 n hm)).mp (h2 n hm)).elim (fun e=>absurd e MP) id
 ·intro hh ns hn
  show ns.map (gd (.sd u))=(ns.map (gd (.mv s))).map (gd (.sd u))
  rw [abp,map_inj_left]
  intro n hm
  exact (key n ((h.2.2 ns hn).2.2 n hm)).mpr (hh.imp (fun q=>q ns hn n hm) id)
def DL(K:Frag)(H:Hp)(v:V):Prop:=∃ (l:Addr) (t b:Nat),v=.ref l/\aN K H l [.int (t:Int),.int (b:Int)]/\1<=b/\b<=9999
def JG(K:Frag)(H:Hp)(v:V):Prop:=∃ o,fg K H v o/\oj 700 o
def EU(K:Frag)(H:Hp)(v:V):Prop:=∃ (a:Addr) (t z:V),v=.ref a/\aN K H a [t,z]/\JG K H t/\DL K H z
def Bc(K:Frag)(H:Hp)(v:V):Prop:=∃ (a:Addr) (zs:List V),v=.ref a/\H a=some (.lst zs)/\1<=zs.length/\zs.length<=12/\∀ z∈zs,EU K H z
section
variable {K:Frag}{H H':Hp}{v:V}
theorem DL.same(h:DL K H v)(s:ai H H'):DL K H' v:=by
 obtain ⟨l,t,b,h1,h2,h3⟩:=h
 exact⟨l,t,b,h1,s.at h2,h3⟩
theorem JG.same(h:JG K H v)(s:ai H H'):JG K H' v:=by
 obtain ⟨o,h1,h2⟩:=h
 exact⟨o,h1.same s,h2⟩
theorem EU.same(h:EU K H v)(s:ai H H'):EU K H' v:=by
 obtain ⟨a,t,z,h1,h2,h3,h4⟩:=h
 exact⟨a,t,z,h1,s.at h2,h3.same s,h4.same s⟩
theorem Bc.same(h:Bc K H v)(s:ai H H'):Bc K H' v:=by
 obtain ⟨a,zs,h1,h2,h3,h4,h5⟩:=h
 exact⟨a,zs,h1,s _ _ h2,h3,h4,fun z hz=>(h5 z hz).same s⟩
theorem DL.off{l:Addr}{ys zs:List V}(h:DL K H v)(e:H l=some (.lst ys)):DL K (upd H l (.lst zs)) v:=by
 obtain ⟨a,t,b,h1,h2,h3⟩:=h
 exact⟨a,t,b,h1,cx h2 e,h3⟩
theorem JG.off{l:Addr}{ys zs:List V}(h:JG K H v)(e:H l=some (.lst ys)):JG K (upd H l (.lst zs)) v:=by
 obtain ⟨o,h1,h2⟩:=h
 exact⟨o,h1.off e,h2⟩
theorem EU.off{l:Addr}{ys zs:List V}(h:EU K H v)(e:H l=some (.lst ys)):EU K (upd H l (.lst zs)) v:=by
 obtain ⟨a,t,z,h1,h2,h3,h4⟩:=h
 exact⟨a,t,z,h1,cx h2 e,h3.off e,h4.off e⟩
theorem Bc.off{l:Addr}{ys zs:List V}(h:Bc K H v)(e:H l=some (.lst ys))(n:v≠.ref l):Bc K (upd H l (.lst zs)) v:=by
 obtain ⟨a,ws,h1,h2,h3,h4,h5⟩:=h
 exact⟨a,ws,h1,by rw [ax (fun z=>n (by rw [h1,z]))];exact h2,h3,h4,fun z hz=>(h5 z hz).off e⟩
theorem DL.of{l:Addr}{p:Int×Int}(h:aN K H l [.int p.1,.int p.2])(o:fS p):DL K H (.ref l):=by
 obtain ⟨t,b,rfl,h1,h2,h3⟩:=o
 exact⟨l,t,b,rfl,h,h3,h2⟩
theorem EU.of{n:Nt}(h:cZ K H v n)(hr:oj 700 n.1)(o:fS n.2):EU K H v:=by
 obtain ⟨a,t,l,h1,h2,h3,h4⟩:=h
 exact⟨a,t,.ref l,h1,h2,⟨_,h3,hr⟩,DL.of h4 o⟩
theorem Bc.of{xs:List V}{bs:List (List Nt)}(h:cP K H xs bs)(hR:xV 700 bs)(hL:rB bs):∀ y∈xs,Bc K H y:=fun y hy=>by
 obtain ⟨i,hi⟩:=List.getElem?_of_mem hy
 obtain ⟨a,zs,ns,rfl,hz,hn,hb⟩:=h.get hi
 have hm:=aa4 hb
 have hr:=hR.2.2 ns hm
 have l1:=hn.length
 refine⟨a,zs,rfl,hz,by lia,by lia,fun z X9=>?_⟩
 obtain ⟨j,hj⟩:=List.getElem?_of_mem X9
 obtain ⟨n,h1,h2⟩:=hn.get hj
 exact EU.of h1 (hr.2.2 n (aa4 h2)) (hL ns hm n (aa4 h2))
theorem HX:∀ {zs:List V},(∀ z∈zs,EU K H z)->∃ ns,bE K H zs ns/\ns.length=zs.length/\∀ n∈ns,oj 700 n.1
 | [],_=>⟨[],.nil,rfl,fun _ z=>nomatch z⟩
 | z::zs,h=>by
  obtain ⟨ns,h1,h2,h3⟩:=HX (zs:=zs) fun x hx=>h x (.tail _ hx)
  obtain ⟨a,t,l,e,ha,⟨o,ho,hr⟩,⟨l',p,q,rfl,hl,_⟩⟩:=h z (.head _)
  refine⟨(o,(p:Int),(q:Int))::ns,.cons ⟨a,t,l',e,ha,ho,hl⟩ h1,by simp [h2],fun n hn=>?_⟩
  rcases aa9.mp hn with y|y
  ·rw [y];exact hr
  ·exact h3 n y
theorem HY:∀ {ys:List V},(∀ y∈ys,Bc K H y)->∃ bs,cP K H ys bs/\bs.length=ys.length/\∀ ns∈bs,1<=ns.length/\ns.length<=12/\∀ n∈ns,oj 700 n.1
 | [],_=>⟨[],.nil,rfl,fun _ z=>nomatch z⟩
 | y::ys,h=>by
  obtain ⟨bs,h1,h2,h3⟩:=HY (ys:=ys) fun x hx=>h x (.tail _ hx)
  obtain ⟨a,zs,rfl,hz,l1,l2,hn⟩:=h y (.head _)
  obtain ⟨ns,g1,g2,g3⟩:=HX hn
  refine⟨ns::bs,.cons hz g1 h1,by simp [h2],fun q hq=>?_⟩
  rcases aa9.mp hq with y|y
  ·rw [y];exact⟨by lia,by lia,g3⟩
  ·exact h3 q y
theorem B9{ys:List V}(h:∀ y∈ys,Bc K H y)(l1:1<=ys.length)(l2:ys.length<=20):∃ bs,cP K H ys bs/\xV 700 bs:=by
 obtain ⟨bs,h1,h2,h3⟩:=HY h
 exact⟨bs,h1,by lia,by lia,h3⟩
theorem HZ(n d:Nat):HT.ei n d (some (-1))=n - 1:=by
 show (if (-1:Int)<0 then ((-1:Int)+(n:Int)).toNat else min (-1:Int).toNat n)=n - 1
 rw [if_pos (by decide)]
 lia
theorem Ia{xs:List V}:iT xs none (some (-1))=xs.take (xs.length - 1):=by
 unfold iT
 rw [HT.nF,HZ,drop_zero,sub_zero]
theorem Ao{xs:List V}:iT xs (some (-1)) none=xs.drop (xs.length - 1):=by
 unfold iT
 rw [HT.nF,HZ,abr (by rw [length_drop];lia)]
end
theorem tY(m1 m2:Int×Int)(n q:List (List Nt)):PyData.eqv (dC m1 n) (dC m2 q)=(decide (m1=m2) && decide (n=q)):=by
 obtain ⟨a,b⟩:=m1
 obtain ⟨c,d⟩:=m2
 have h2:PyData.eqv (jf [a,b]) (jf [c,d])=decide ([a,b]=[c,d]):=rX _ _
 simp only [dC,PyData.eqv,PyData.eqvAll,h2,sr wX n q,Bool.and_true]
 simp [Bool.decide_and]
theorem Ap(m1 m2:Int×Int)(n q:List (List Nt)):PyData.eqv (dC m1 n) (dC m2 q)=PyData.eqv (dC m2 q) (dC m1 n):=by
 rw [tY,tY]
 congr 1 <;> exact decide_eq_decide.mpr eq_comm
def fz(n:Nt):Int:=if n.1.isSome then 1 else 0
def qz(ns:List Nt):Int:=if ns.any (fun n=>n.1.isSome) then 1 else 0
theorem PD{ns:List Nt}{m:Int}(h1:m∈ns.map fz)(h2:∀ x∈ns.map fz,x<=m):m=qz ns:=by
 unfold qz
 cases e:ns.any (fun n=>n.1.isSome) with
 | true =>
  obtain ⟨n,hn,hs⟩:=any_eq_true.mp e
  have:=h2 _ (mem_map_of_mem (f:=fz) hn)
  obtain ⟨q,hq,rfl⟩:=aba.mp h1
  unfold fz at this ⊢
  rw [if_pos hs] at this
  rw [if_pos rfl]
  split at this
  ·rw [if_pos (by assumption)]
  ·lia
 | false =>
  obtain ⟨q,hq,rfl⟩:=aba.mp h1
  have:=any_eq_false.mp e q hq
  unfold fz
  rw [if_neg this]
  rfl
theorem Lz{bs:List (List Nt)}{m:Int}(h1:m∈bs.map qz)(h2:∀ x∈bs.map qz,x<=m):m=0↔quiet bs:=by
 have key:∀ ns:List Nt,qz ns<=0↔∀ n∈ns,n.1=none:=fun ns=>by
  unfold qz
  cases e:ns.any (fun n=>n.1.isSome) with
  | true =>
   obtain ⟨n,hn,hs⟩:=any_eq_true.mp e
   refine⟨fun h=>absurd h (by decide),fun h=>?_⟩
   rw [h n hn] at hs
   exact absurd hs (by decide)
  | false=>exact⟨fun _ n hn=>by simpa using any_eq_false.mp e n hn,fun _=>by decide⟩
 have h0:∀ ns:List Nt,0<=qz ns:=fun ns=>by unfold qz;split <;> decide
 constructor
 ·intro h ns hn
  have:=h2 _ (mem_map_of_mem (f:=qz) hn)
  exact (key ns).mp (by lia)
 ·intro h
  obtain ⟨q,hq,rfl⟩:=aba.mp h1
  have:=(key q).mpr (h q hq)
  have:=h0 q
  lia
theorem Ua{K:Frag}{H:Hp}{v:V}{n:Nt}(h:fg K H v n.1):(if (!decide (v=V.dz))=true then (1:Int) else 0)=fz n:=by
 obtain ⟨o,l⟩:=n
 cases o with
 | none =>
  obtain rfl:v=.dz:=h
  rfl
 | some y =>
  have hv:v≠.dz:=fun e=>by
   subst e
   cases y with
   | row r =>
    obtain ⟨a,h1,_⟩:=h
    cases h1
   | num i=>cases h
  rw [aaS hv]
  rfl
theorem PF{d:Kd}{u:Tu}(hd:d.ok)(ho:u.ok)(hl:PC d u){s:List Int}(ls:s.length=5){B:Int}{mt:Int×Int}{bs:List (List Nt)}{dd:Bool}(h:xV B bs)(hq:dd=true↔quiet bs\/uW u s=uW u [0,0,0,0,0]):PyData.eqv (dC mt (bs.map fun ns=>ns.map (gd (.sd u)))) (dC mt ((bs.map fun ns=>ns.map (gd (.mv s))).map fun ns=>ns.map (gd (.sd u))))=dd:=by
 rw [tW]
 have g:=B8 hd ho hl ls h
 cases dd with
 | true=>exact aaT (g.mpr (hq.mp rfl))
 | false=>exact aaS fun e=>absurd (hq.mpr (g.mp e)) (by decide)
theorem PH{B:Int}{s:List Int}(hs:gY 100 s)(hB:B+100<=1000):∀ {o:Option Tn},oj B o->oj 1000 (chO (.mv s) o)
 | none,_=>trivial
 | some (.row r),h=>by
  obtain ⟨hl,hb⟩:gY B r:=h
  obtain ⟨ls,M9⟩:=hs
  obtain ⟨t0,t1,t2,t3,t4,rfl⟩:=cJ hl
  obtain ⟨s0,s1,s2,s3,s4,rfl⟩:=cJ ls
  have a0:=hb t0 (by simp)
  have a1:=hb t1 (by simp)
  have a2:=hb t2 (by simp)
  have a3:=hb t3 (by simp)
  have a4:=hb t4 (by simp)
  have c0:=M9 s0 (by simp)
  have c1:=M9 s1 (by simp)
  have c2:=M9 s2 (by simp)
  have c3:=M9 s3 (by simp)
  have c4:=M9 s4 (by simp)
  show gY 1000 [t0+s0,t1+s1,t2+s2,t3+s3,t4+s4]
  exact T8 (B:=1000) (by lia) (by lia) (by lia) (by lia) (by lia)
theorem PL{B:Int}{s:List Int}(hs:gY 100 s)(hB:B+100<=1000){bs:List (List Nt)}(h:xV B bs):xV 1000 (bs.map fun ns=>ns.map (gd (.mv s))):=by
 refine⟨by rw [aa5];exact h.1,by rw [aa5];exact h.2.1,fun ns hn=>?_⟩
 obtain ⟨q,hq,rfl⟩:=aba.mp hn
 refine⟨by rw [aa5];exact (h.2.2 q hq).1,by rw [aa5];exact (h.2.2 q hq).2.1,fun n hm=>?_⟩
 obtain ⟨x,hx,rfl⟩:=aba.mp hm
 exact PH hs hB ((h.2.2 q hq).2.2 x hx)
structure iK where
 Ib:Addr
 tZ:Addr
 gF:Addr
 bJ:Addr
 bV:Addr
 dH:Addr
 fh:Addr
 dI:Addr
 dm:Addr
 cT:Addr
 dY:Addr
 gh:Addr
 fL:Addr
 fM:Tok
 hV:Tok
 sy:Tok
 cy:Addr
 cQ:Addr
 cz:Addr
structure Txt(K:Frag)(mg:Str->Option Value)(G:iK):Prop where
 DM:mg "abs"=none
 Na:mg "all"=none
 Ic:mg "bool"=none
 hX:mg "enumerate"=none
 Nb:mg "int"=none
 gi:mg "isinstance"=none
 iL:mg "len"=none
 pR:mg "list"=none
 t5:mg "max"=none
 dJ:mg "range"=none
 t6:mg "reversed"=none
 Ie:mg "sorted"=none
 Ub:mg "str"=none
 Nc:mg "sum"=none
 da:mg "tuple"=none
 iM:mg "zip"=none
 Uc:mg "ONE"=some (.ref G.Ib)
 aB:zM K G.Ib [.int 0,.int 0,.int 0,.int 0,.int 0]
 Ig:mg "BOUNDS"=some (.ref G.tZ)
 aj:zM K G.tZ [.int 700,.int 60,.int 60,.int 60,.int 60]
 vh:mg "MOST_COMMAS"=some (.int 6 G.fM)
 Aq:mg "MOST_KEYS"=some (.int 6 G.hV)
 DN:mg "WIDTH"=some (.int 5 G.sy)
 Ih:mg "Tuning"=some (.ref G.gF)
 Ar:nsIn K mainGlobals "Tuning"=some (some (.ref G.gF))
 cD:yZ K G.gF
 EV:X0 K G.gF
 Ud:Lh K G.gF
 t7:Meth K G.gF "sound" G.fh
 vj:mg "CommaTuning"=some (.ref G.bJ)
 eJ:nsIn K mainGlobals "CommaTuning"=some (some (.ref G.bJ))
 aY:yZ K G.bJ
 vm:Mk K G.bJ G.dI
 JH:Lh K G.bJ
 k6:Meth K G.bJ "sound" G.dm
 aI:eV K G.bJ "steps"
 qT:mg "KeyTuning"=some (.ref G.bV)
 fT:nsIn K mainGlobals "KeyTuning"=some (some (.ref G.bV))
 bp:yZ K G.bV
 As:Mk K G.bV G.cT
 Nd:Lh K G.bV
 oq:Meth K G.bV "sound" G.dY
 pT:TJ K G.bV "__init__" G.cT
 aE:eV K G.bV "own_keys"
 LA:mg "Board"=some (.ref G.dH)
 jg:nsIn K mainGlobals "Board"=some (some (.ref G.dH))
 cL:yZ K G.dH
 LC:Mk K G.dH G.gh
 VL:Lh K G.dH
 vn:Meth K G.dH "sound" G.fL
 aO:eV K G.dH "own_keys"
 aX:eV K G.dH "octave"
def j7(K:Frag):Sp:=fun vs H Q _=>∃ v,vs=[v]/\Kn K H v/\Q (.bl (wh v)) H
def pU(K:Frag):Sp:=fun vs H Q _=>∃ v,vs=[v]/\((∃ (a:Addr) (xs:List V),v=.ref a/\aN K H a xs/\xs.length<=1000/\(∀ x∈xs,Kn K H x)/\∀ H',ai H H'->Q (.bl (decide (xs.length=5) && xs.all wh)) H')\/(NT K H v/\Q (.bl false) H))
def mG(K:Frag):Sp:=fun vs H Q _=>∃ v,vs=[v]/\((∃ (a:Addr) (x0 x1 x2 x3 x4:Int),v=.ref a/\aN K H a [.int x0,.int x1,.int x2,.int x3,.int x4]/\∀ H',ai H H'->Q (.bl (fits x0 x1 x2 x3 x4)) H')\/(Odd K H v/\∀ H',ai H H'->Q (.bl false) H'))
def jh(K:Frag):Sp:=fun vs H Q E=>∃ (a:Addr) (x0 x1 x2 x3 x4:Int),vs=[.ref a]/\aN K H a [.int x0,.int x1,.int x2,.int x3,.int x4]/\fits x0 x1 x2 x3 x4=true/\∀ H',ai H H'->Q (.ref a) H'
def ou(K:Frag):Sp:=fun vs H Q _=>∃ a b a0 a1 a2 a3 a4 b0 b1 b2 b3 b4,vs=[.ref a,.ref b]/\aN K H a [.int a0,.int a1,.int a2,.int a3,.int a4]/\aN K H b [.int b0,.int b1,.int b2,.int b3,.int b4]/\∀ p H',ai H H'->H' p=some (.tup [.int (a0+b0),.int (a1+b1),.int (a2+b2),.int (a3+b3),.int (a4+b4)])->Q (.ref p) H'
def xX(K:Frag):Sp:=fun vs H Q _=>∃ (a b:Addr) (r q:List Int),vs=[.ref a,.ref b]/\aN K H a (r.map V.int)/\aN K H b (q.map V.int)/\r.length=q.length/\r.length<=1000/\∀ p H',ai H H'->H' p=some (.tup ((sub r q).map V.int))->Q (.ref p) H'
def ow(K:Frag):Sp:=fun vs H Q _=>∃ (a:Addr) (r:List Int) (n:Int),vs=[.ref a,.int n]/\aN K H a (r.map V.int)/\r.length<=1000/\(∀ x∈r,qS x n)/\∀ p H',ai H H'->H' p=some (.tup ((c5 r n).map V.int))->Q (.ref p) H'
def fV(K:Frag):Sp:=fun vs H Q E=>∃ (a f cS b l0:Addr) (ob:Obj) (n:Nt) (ch:B5),vs=[.ref a,.ref f]/\cZ K H (.ref a) n/\kZ n/\tR ch H f cS b ob/\mD K H b l0 ch/\JE ch n.1=true/\∀ p H',ai H H'->cZ K H' (.ref p) (gd ch n)->Q (.ref p) H'
def gG(K:Frag):Sp:=fun vs H Q E=>∃ (a f cS b:Addr) (ob:Obj) (xs:List V) (ns:List Nt) (ch:B5) (l0:Addr),vs=[.ref a,.ref f]/\aR K H a xs/\bE K H xs ns/\ns.length<=100/\(∀ n∈ns,kZ n/\JE ch n.1=true)/\tR ch H f cS b ob/\mD K H b l0 ch/\∀ l' H' ys,H l'=none->ai H H'->H' l'=some (.lst ys)->bE K H' ys (ns.map (gd ch))->Q (.ref l') H'
def ji(K:Frag):Sp:=fun vs H Q E=>∃ (a m l f cS b:Addr) (mt:Int×Int) (ob:Obj) (xs:List V) (bs:List (List Nt)) (ch:B5) (l0:Addr),vs=[.ref a,.ref f]/\bh K H a m l mt xs bs/\bs.length<=100/\(∀ ns∈bs,ns.length<=100/\∀ n∈ns,kZ n/\JE ch n.1=true)/\tR ch H f cS b ob/\mD K H b l0 ch/\∀ t' l' H' ys,H l'=none->ai H H'->(∀ x∈ys,∃ b,x=V.ref b/\H b=none)->bh K H' t' m l' mt ys (bs.map fun ns=>ns.map (gd ch))->Q (.ref t') H'
def t9(K:Frag):Sp:=fun vs H Q E=>∃ (a m l x l0:Addr) (mt:Int×Int) (xs:List V) (bs:List (List Nt)) (sq:List Int),vs=[.ref a,.ref x]/\bh K H a m l mt xs bs/\bs.length<=100/\(∀ ns∈bs,ns.length<=100/\∀ n∈ns,kZ n/\JE (.mv sq) n.1=true)/\mD K H x l0 (.mv sq)/\cE K H/\∀ t' l' H' ys,H l'=none->kN K H H'->cE K H'->(∀ x∈ys,∃ b,x=V.ref b/\H b=none)->bh K H' t' m l' mt ys (bs.map fun ns=>ns.map (gd (.mv sq)))->Q (.ref t') H'
def pV(K:Frag):Sp:=fun vs H Q E=>∃ (a m l x l0:Addr) (mt:Int×Int) (xs:List V) (bs:List (List Nt)) (u:Tu),vs=[.ref x,.ref a]/\bh K H a m l mt xs bs/\bs.length<=100/\(∀ ns∈bs,ns.length<=100/\∀ n∈ns,kZ n)/\mD K H x l0 (.sd u)/\cE K H/\∀ t' l' H' ys,H l'=none->kN K H H'->cE K H'->(∀ x∈ys,∃ b,x=V.ref b/\H b=none)->bh K H' t' m l' mt ys (bs.map fun ns=>ns.map (gd (.sd u)))->Q (.ref t') H'
def gH(K:Frag):Sp:=fun vs H Q E=>∃ (x l0 a1 m1 l1 a2 m2 l2:Addr) (PM PN:Int×Int) (Ue Ug:List V) (Ii Ij:List (List Nt)) (u:Tu),vs=[.ref x,.ref a1,.ref a2]/\bh K H a1 m1 l1 PM Ue Ii/\Ii.length<=100/\(∀ ns∈Ii,ns.length<=100/\∀ n∈ns,kZ n)/\bh K H a2 m2 l2 PN Ug Ij/\Ij.length<=100/\(∀ ns∈Ij,ns.length<=100/\∀ n∈ns,kZ n)/\gX K H x l0 u/\u.ok/\cE K H/\∀ H',kN K H H'->cE K H'->Q (.bl (PyData.eqv (dC PM (Ii.map fun ns=>ns.map (gd (.sd u)))) (dC PN (Ij.map fun ns=>ns.map (gd (.sd u)))))) H'
def fi(K:Frag):Sp:=fun vs H Q _=>∃ (l:Addr) (ys:List V),vs=[.ref l]/\aR K H l ys/\ys.length<=6/\Q (.ref l) H
def ip(K:Frag):Sp:=fun vs H Q _=>∃ (a:Addr) (r:List Int) (k:Nat),vs=[.ref a]/\aN K H a (r.map V.int)/\r.length<=1000/\Led r k/\∀ H',ai H H'->Q (.int k) H'
def gI(K:Frag):Sp:=fun vs H Q _=>∃ (a b:Addr) (p n M k:Nat) (v s:List Int),vs=[.ref a,.ref b,.int p]/\aN K H a (v.map V.int)/\aN K H b (s.map V.int)/\v.length=n/\s.length=n/\n<=1000/\p<n/\s.getD p 0≠0/\dj M v/\dj M s/\M<2 ^ k/\k<=60000000/\∀ p' H',ai H H'->H' p'=some (.tup ((cj p s v).map V.int))->Q (.ref p') H'
def pW(K:Frag):Sp:=fun vs H Q _=>∃ (l:Addr) (p n M A k:Nat) (xs:List V) (rs:List (List Int)),vs=[.ref l,.int p]/\aR K H l xs/\aZ K H xs rs/\rs.length<64/\Len n rs/\n<=1000/\p<n/\(∀ v∈rs,dj M v)/\(∀ v∈rs,at' p v<=A)/\0<A/\6*(M*(A*A))<2 ^ k/\k<=60000000/\cE K H/\∀ t l1 l2 H' ys zs led os,kN K H H'->cE K H'->aN K H' t [.ref l1,.ref l2]->aR K H' l1 ys->aZ K H' ys led->aR K H' l2 zs->aZ K H' zs os->led.length<=1->(∀ v∈led,0<v.getD p 0)->(∀ v∈os,v.getD p 0=0)->(∀ v∈led++os,v.length=n)->(∀ v∈led++os,dj (6*(M*(A*A))) v)->Eqv n rs (led++os)->led.length+os.length<=rs.length->(∀ v∈led,at' p v<=A)->Q (.ref t) H'
def mH(K:Frag):Sp:=fun vs H Q _=>∃ (l:Addr) (w n b:Nat) (xs:List V) (rs:List (List Int)),vs=[.ref l,.int w]/\aR K H l xs/\aZ K H xs rs/\rs.length<64/\Len n rs/\n<=1000/\w<=n/\(∀ v∈rs,dj (2 ^ b) v)/\(∀ i,i<w->ss b (i+1)<60000000)/\cE K H/\∀ l' H' ys st lf,H l'=none->kN K H H'->cE K H'->H' l'=some (.lst ys)->aZ K H' ys st->SJ n w b rs w st lf->Q (.ref l') H'
def ua(K:Frag):Sp:=fun vs H Q _=>∃ (l:Addr) (b:Nat) (xs:List V) (rs:List (List Int)),vs=[.ref l]/\aR K H l xs/\aZ K H xs rs/\rs.length<=6/\Len 5 rs/\(∀ v∈rs,dj (2 ^ b) v)/\b<=109/\cE K H/\∀ l' H' ys st,H l'=none->kN K H H'->cE K H'->H' l'=some (.lst ys)->aZ K H' ys st->SF st->Eqv 5 rs st->Len 5 st->st.length<=5->(∀ v∈st,dj (2 ^ ss b 5) v)->(∀ v∈st,∀ k,Led v k->(v.getD k 0).natAbs<=2 ^ gs b (4 - k))->Q (.ref l') H'
def mJ(K:Frag):Sp:=fun vs H Q _=>∃ (l a:Addr) (n B C:Nat) (xs:List V) (st:List (List Int)) (u:List Int),vs=[.ref l,.ref a]/\aR K H l xs/\aZ K H xs st/\aN K H a (u.map V.int)/\u.length=n/\5<=n/\n<=100/\Len n st/\st.length<=5/\SF (st.map (List.take 5))/\(∀ r∈st,dj (2 ^ B) r)/\dj (2 ^ C) u/\C+6*B<50000000/\∀ p H' v,ai H H'->aN K H' p (v.map V.int)->LB n 5 st st.length u v->dj (2 ^ (C+(B+1)*5)) v->Q (.ref p) H'
def ox(K:Frag):Sp:=fun vs H Q _=>∃ (w r:Addr) (kk:Bool) (ws rs:List Int),vs=[.ref w,.ref r]/\Sq kk K H w (ws.map V.int)/\aN K H r (rs.map V.int)/\ws.length<=rs.length/\rs.length<=1000/\(∀ i,i<ws.length->jF (rs.getD i 0) (ws.getD i 0))/\∀ H',ai H H'->Q (.int (dt rs ws)) H'
def ub(K:Frag):Sp:=fun vs H Q _=>∃ (kk w r:Addr) (m:Int) (ws rs:List Int),vs=[.ref kk,.ref r]/\aN K H kk [.ref w,.int m]/\aN K H w (ws.map V.int)/\aN K H r (rs.map V.int)/\rs.length=ws.length/\rs.length<=1000/\(∀ i,i<rs.length->jF (rs.getD i 0) (ws.getD i 0))/\0<=m/\∀ H',ai H H'->Q (.int (val ws m rs)) H'
def eQ(K:Frag):Sp:=fun vs H Q _=>∃ (l:Addr) (xs:List V) (ks:List (List Int×Int)),vs=[.ref l]/\aR K H l xs/\bY K H xs ks/\ks.length<=6/\(∀ k∈ks,k.2=0\/2<=k.2)/\Q (.ref l) H
def kR(K:Frag):Sp:=fun vs H Q _=>∃ (l a:Addr) (xs:List V) (ks:List (List Int×Int)) (row:List Int),vs=[.ref l,.ref a]/\aR K H l xs/\bY K H xs ks/\ks.length<=6/\(∀ k∈ks,k.2=0\/2<=k.2)/\(∀ k∈ks,k.1.length=5/\Ln 1000 k.1)/\aN K H a (row.map V.int)/\row.length=5/\Ln 100000 row/\∀ p H',ai H H'->aN K H' p ((ks.map fun k=>val k.1 k.2 row).map V.int)->Q (.ref p) H'
def bI(K:Frag):Sp:=fun vs H Q _=>∃ (a:Addr) (ns:List Int) (k:Int),vs=[.ref a,.int k]/\aR K H a (ns.map V.int)/\0<=k/\Q (.int (ns.getD k.toNat 0)) H
def eL(K:Frag):Sp:=fun vs H Q _=>∃ (t b:Nat),vs=[.int t,.int b]/\0<b/\b<2 ^ 9000/\∀ p H',ai H H'->H' p=some (.tup [.int (t / Nat.gcd t b:Nat),.int (b / Nat.gcd t b:Nat)])->Q (.ref p) H'
def cA(K:Frag):Sp:=fun vs H Q _=>∃ (c j:Int),vs=[.int c,.int j]/\(0<=j/\j<=1000)/\∀ m:Int,0<=m->m<999983->Q (.int m) H
def fW(K:Frag):Sp:=fun vs H Q _=>∃ (c:Int),vs=[.int c]/\(0<=c/\c<=1000000)/\∀ (p:Addr) H' (z:Str) (v:V) (o:Option Tn),ai H H'->H' p=some (.tup [.str z,v])->fg K H' v o->M7 o->Q (.ref p) H'
def iq(K:Frag):Sp:=fun vs H Q _=>∃ (c:Int) (n t:Nat),vs=[.int c,.int n,.int t]/\1<=n/\n<=12/\n<=t/\t<=100/\∀ (l:Addr) H' (ps:List Int),H l=none->ai H H'->H' l=some (.lst (ps.map V.int))->ps.length=n->(∀ p∈ps,1<=p/\p<=t)->ps.sum=(t:Int)->Q (.ref l) H'
def j8(K:Frag):Sp:=fun vs H Q _=>∃ (a:Addr) (ns:List Int) (j:Int),vs=[.ref a,.int j]/\aR K H a (ns.map V.int)/\0<=j/\j<=100/\∀ (t m l:Addr) H' (mt:Int×Int) (xs:List V) (bs:List (List Nt)),ai H H'->bh K H' t m l mt xs bs->wU mt bs->Q (.ref t) H'
def jj(K:Frag):Sp:=fun vs H Q _=>∃ (a:Addr) (ns:List Int) (j:Int),vs=[.ref a,.int j]/\aR K H a (ns.map V.int)/\0<=j/\j<=100/\∀ (l:Addr) H' (ys:List V) (rs:List (List Int)),H l=none->ai H H'->H' l=some (.lst ys)->cp H' ys rs->(∀ x∈ys,x≠V.ref l)->DI rs->Q (.ref l) H'
def j9(K:Frag):Sp:=fun vs H Q _=>∃ (l a:Addr) (ys:List V) (rs:List (List Int)) (r:List Int),vs=[.ref l,.ref a]/\H l=some (.lst ys)/\cp H ys rs/\DI rs/\aN K H a (r.map V.int)/\r.length=5/\(∀ x∈r,-1000<=x/\x<=1000)/\∀ (p:Addr) H' (v:List Int),ai H H'->H' p=some (.tup (v.map V.int))->RB rs rs.length r v->Q (.ref p) H'
def ir(K:Frag):Sp:=fun vs H Q _=>∃ (l:Addr) (c:Int) (ys:List V) (rs:List (List Int)),vs=[.ref l,.int c]/\H l=some (.lst ys)/\cp H ys rs/\DI rs/\∀ (l':Addr) H' (zs:List V) (cs:List (List Int)),H l'=none->ai H H'->H' l'=some (.lst zs)->aZ K H' zs cs->Eqv 5 rs cs->Len 5 cs->(∀ v∈cs,∀ x∈v,-24<=x/\x<=24)->cs.length<=6->Q (.ref l') H'
def jk(K:Frag):Sp:=fun vs H Q _=>∃ (w a:Addr) (m:Int) (ws row:List Int),vs=[.ref w,.int m,.ref a]/\aN K H w (ws.map V.int)/\aN K H a (row.map V.int)/\ws.length=5/\row.length=5/\(m=0\/2<=m)/\(∀ x∈ws,-1000<=x/\x<=1000)/\∀ H',ai H H'->Q (.int (val ws m row)) H'
def ka(K:Frag):Sp:=fun vs H Q _=>∃ (a:Addr) (ns:List Int) (j:Int),vs=[.ref a,.int j]/\aR K H a (ns.map V.int)/\0<=j/\j<=100/\∀ (l:Addr) H' (ys:List V) (ks:List (List Int×Int)),H l=none->ai H H'->H' l=some (.lst ys)->bY K H' ys ks->ks.length<=3->(∀ k∈ks,k.1.length=5/\(∀ x∈k.1,-10<=x/\x<=10)/\(k.2=0\/2<=k.2)/\k.2<=12)->Q (.ref l) H'
def kd(K:Frag):Sp:=fun vs H Q _=>∃ (a:Addr) (ns:List Int) (kn j:Int),vs=[.ref a,.int kn,.int j]/\aR K H a (ns.map V.int)/\(0<=kn/\kn<=3)/\0<=j/\j<=50/\∀ (b:Addr) (d:Kd) H',ai H H'->cK K H' b d->d.ok->d.num=kn->Q (.ref b) H'
def gj(K:Frag):Sp:=fun vs H Q _=>∃ (b a:Addr) (d:Kd) (r:List Int),vs=[.int d.num,.ref b,.ref a]/\cK K H b d/\d.ok/\aN K H a (r.map V.int)/\r.length=5/\(∀ x∈r,-1000<=x/\x<=1000)/\∀ (z:V) H' (y:Tn),ai H H'->JC K H' z y->VJ d r y->Q z H'
def iu(K:Frag):Sp:=fun vs H Q _=>∃ (b:Addr) (d:Kd) (c:Int),vs=[.int d.num,.ref b,.int c]/\cK K H b d/\d.ok/\cE K H/\∀ (t l:Addr) (u:Tu) H',kN K H H'->cE K H'->gX K H' t l u->u.ok->PC d u->Q (.ref t) H'
def gJ(K:Frag):Sp:=fun vs H Q _=>∃ (b:Addr) (d:Kd) (c:Int),vs=[.int d.num,.ref b,.int c]/\cK K H b d/\d.ok/\∀ (l:Addr) H' (r:List Int),H l=none->ai H H'->H' l=some (.lst (r.map V.int))->gY 30 r->Q (.ref l) H'
def ke(K:Frag):Sp:=fun vs H Q _=>∃ (b:Addr) (d:Kd) (c e:Int),vs=[.int d.num,.ref b,.int c,.int e]/\cK K H b d/\d.ok/\∀ (p:Addr) H' (r:List Int),ai H H'->H' p=some (.tup (r.map V.int))->gY 31 r->Q (.ref p) H'
def eM(K:Frag):Sp:=fun vs H Q _=>∃ (c b:Int) (n:Nat),vs=[.int c,.int b,.int n]/\(0<b/\b<=1000)/\n<=10/\∀ (l:Addr) H' (xs:List Int),H l=none->ai H H'->H' l=some (.lst (xs.map V.int))->xs.length=n->(∀ x∈xs,0<=x/\x<b)->Q (.ref l) H'
def fj(K:Frag):Sp:=fun vs H Q _=>∃ (a:Addr) (ns:List Int),vs=[.ref a]/\aR K H a (ns.map V.int)/\∀ (t m l:Addr) H' (mt:Int×Int) (xs:List V) (bs:List (List Nt)),ai H H'->bh K H' t m l mt xs bs->JF 600 50 bs->rB bs->fS mt->Q (.ref t) H'
def fk(K:Frag):Sp:=fun vs H Q _=>∃ (a:Addr) (ns:List Int) (kn:Int),vs=[.ref a,.int kn]/\aR K H a (ns.map V.int)/\(0<=kn/\kn<=3)/\∀ (b:Addr) (d:Kd) H',ai H H'->cK K H' b d->d.ok->d.num=kn->Q (.ref b) H'
def fo(K:Frag):Sp:=fun vs H Q _=>∃ (a b:Addr) (ns:List Int) (d:Kd),vs=[.ref a,.int d.num,.ref b]/\aR K H a (ns.map V.int)/\cK K H b d/\d.ok/\∀ (p:Addr) H' (r:List Int),ai H H'->H' p=some (.tup (r.map V.int))->vf 100 10 r->Q (.ref p) H'
def iw(K:Frag):Sp:=fun vs H Q _=>∃ (a:Addr) (xs:List V),vs=[.ref a]/\H a=some (.lst xs)/\xs.length<=100/\∀ l H',H l=none->ai H H'->H' l=some (.lst xs.reverse)->Q (.ref l) H'
def jl(K:Frag):Sp:=fun vs H Q _=>∃ (a m l:Addr) (c:Int) (mt:Int×Int) (xs:List V) (bs:List (List Nt)),vs=[.ref a,.int c]/\bh K H a m l mt xs bs/\xV 700 bs/\bs.length<=12/\rB bs/\fS mt/\∀ (t' m' l':Addr) H' (Ra:Int×Int) (ys:List V) (Ca:List (List Nt)),ai H H'->bh K H' t' m' l' Ra ys Ca->xV 700 Ca->Q (.ref t') H'
def jm(K:Frag):Sp:=fun vs H Q _=>∃ (b a m l:Addr) (d:Kd) (u:Tu) (mt:Int×Int) (xs:List V) (bs:List (List Nt)),vs=[.int d.num,.ref b,.ref a]/\bh K H a m l mt xs bs/\xV 1000 bs/\cK K H b d/\d.ok/\u.ok/\PC d u/\∀ (t' l':Addr) H' (ys:List V),H l'=none->ai H H'->bh K H' t' m l' mt ys (bs.map fun ns=>ns.map (gd (.sd u)))->Q (.ref t') H'
def pX(K:Frag):Sp:=fun vs H Q _=>∃ (b:Bool),vs=[.bl b,.bl b]/\∀ H',ai H H'->Q (.bl true) H'
def jn(K:Frag):Sp:=fun vs H Q _=>∃ (a:Addr) (ns:List Int) (kn:Int) (fr:Bool),vs=[.ref a,.int kn,.bl fr]/\aR K H a (ns.map V.int)/\(0<=kn/\kn<=3)/\∀ (p b t m l q:Addr) (d:Kd) (mt:Int×Int) (xs:List V) (bs:List (List Nt)) (sq:List Int) H',ai H H'->H' p=some (.tup [.ref b,.ref t,.ref q])->cK K H' b d->d.ok->d.num=kn->bh K H' t m l mt xs bs->aN K H' q (sq.map V.int)->X7 mt bs sq->Q (.ref p) H'
def eR(K:Frag):Sp:=fun vs H Q _=>∃ (x y:V),vs=[x,y]/\Q y H
def eE (K:Frag):Sp:=fun vs H Q _=>∃ (x l C dx:Addr) (b:Nat) (xs:List V) (rs:List (List Int)),vs=[.ref x,.ref l]/\nsIn K mainGlobals "CommaTuning"=some (some (.ref C))/\H x=some (.ins C dx [])/\aR K H l xs/\aZ K H xs rs/\rs.length<=6/\Len 5 rs/\(∀ v∈rs,dj (2 ^ b) v)/\b<=109/\cE K H/\∀ (l1:Addr) (H1:Hp) (ys:List V) (st:List (List Int)),H l1=none->kN K H H1->cE K H1->H1 l1=some (.lst ys)->aZ K H1 ys st->SF st->Eqv 5 rs st->Len 5 st->H1 x=some (.ins C dx [])->Q .dz (upd H1 x (.ins C dx [("steps",.ref l1)]))
def de(K:Frag):Sp:=fun vs H Q _=>∃ (x l a:Addr) (st:List (List Int)) (r:List Int),vs=[.ref x,.ref a]/\gX K H x l (.comma st)/\Tu.ok (.comma st)/\aN K H a (r.map V.int)/\r.length=5/\dj (2 ^ 20000) r/\∀ (p:Addr) (H':Hp) (v:List Int),ai H H'->aN K H' p (v.map V.int)->Q9 st r v->Q (.ref p) H'
def dZ (K:Frag):Sp:=fun vs H Q _=>∃ (x l C dx:Addr) (ys:List V) (ks:List (List Int×Int)),vs=[.ref x,.ref l]/\(nsIn K mainGlobals "KeyTuning"=some (some (.ref C))\/nsIn K mainGlobals "Board"=some (some (.ref C)))/\H x=some (.ins C dx [])/\aR K H l ys/\bY K H ys ks/\ks.length<=6/\(∀ k∈ks,k.2=0\/2<=k.2)/\∀ (l1:Addr) (H1:Hp),H l1=none->ai H H1->H1 l1=some (.lst ys)->Q .dz (upd H1 x (.ins C dx [("own_keys",.ref l1)]))
def dM(K:Frag):Sp:=fun vs H Q _=>∃ (x l a:Addr) (ks:List (List Int×Int)) (r:List Int),vs=[.ref x,.ref a]/\gX K H x l (.key ks)/\Tu.ok (.key ks)/\aN K H a (r.map V.int)/\r.length=5/\dj (2 ^ 20000) r/\∀ (p:Addr) (H':Hp),ai H H'->aN K H' p ((ks.map fun k=>val k.1 k.2 r).map V.int)->Q (.ref p) H'
def iy (K:Frag):Sp:=fun vs H Q E=>∃ (x a C dx:Addr) (w:List Int),vs=[.ref x,.ref a]/\nsIn K mainGlobals "Board"=some (some (.ref C))/\H x=some (.ins C dx [])/\aN K H a (w.map V.int)/\w.length=5/\1<=w.getD 0 0/\(∀ (l1:Addr) (H1:Hp) (ys:List V),H l1=none->ai H H1->H1 l1=some (.lst ys)->bY K H1 ys [(w,0)]->H1 x=some (.ins C dx [])->Q .dz (upd (upd H1 x (.ins C dx [("own_keys",.ref l1)])) x (.ins C dx [("own_keys",.ref l1),("octave",.int (w.getD 0 0))])))
def fq(K:Frag):Sp:=fun vs H Q _=>∃ (x l a:Addr) (w r:List Int),vs=[.ref x,.ref a]/\gX K H x l (.cG w)/\Tu.ok (.cG w)/\aN K H a (r.map V.int)/\r.length=5/\dj (2 ^ 20000) r/\∀ (H':Hp),ai H H'->Q (.int (dt r w)) H'
section
variable {K:Frag}{H:Hp}{Q:VK}{E:XK}
theorem Cb{v:V}(hv:Kn K H v)(k:Q (.bl (wh v)) H):j7 K [v] H Q E:=⟨v,rfl,hv,k⟩
theorem uc{v:V}(h:(∃ (a:Addr) (xs:List V),v=.ref a/\aN K H a xs/\xs.length<=1000/\(∀ x∈xs,Kn K H x)/\∀ H',ai H H'->Q (.bl (decide (xs.length=5) && xs.all wh)) H')\/(NT K H v/\Q (.bl false) H)):pU K [v] H Q E:=⟨v,rfl,h⟩
theorem Cc{a:Addr}{x0 x1 x2 x3 x4:Int}(ha:aN K H a [.int x0,.int x1,.int x2,.int x3,.int x4])(k:∀ H',ai H H'->Q (.bl (fits x0 x1 x2 x3 x4)) H'):mG K [.ref a] H Q E:=⟨_,rfl,.inl ⟨a,x0,x1,x2,x3,x4,rfl,ha,k⟩⟩
theorem EW{a:Addr}{x0 x1 x2 x3 x4:Int}(ha:aN K H a [.int x0,.int x1,.int x2,.int x3,.int x4])(hf:fits x0 x1 x2 x3 x4=true)(kq:∀ H',ai H H'->Q (.ref a) H'):jh K [.ref a] H Q E:=⟨a,x0,x1,x2,x3,x4,rfl,ha,hf,kq⟩
theorem LD{a b:Addr}{a0 a1 a2 a3 a4 b0 b1 b2 b3 b4:Int}(ha:aN K H a [.int a0,.int a1,.int a2,.int a3,.int a4])(hb:aN K H b [.int b0,.int b1,.int b2,.int b3,.int b4])(k:∀ p H',ai H H'->H' p=some (.tup [.int (a0+b0),.int (a1+b1),.int (a2+b2),.int (a3+b3),.int (a4+b4)])->Q (.ref p) H'):ou K [.ref a,.ref b] H Q E:=⟨a,b,a0,a1,a2,a3,a4,b0,b1,b2,b3,b4,rfl,ha,hb,k⟩
theorem PQ{a b:Addr}(r q:List Int)(ha:aN K H a (r.map V.int))(hb:aN K H b (q.map V.int))(hl:r.length=q.length)(hn:r.length<=1000)(k:∀ p H',ai H H'->H' p=some (.tup ((sub r q).map V.int))->Q (.ref p) H'):xX K [.ref a,.ref b] H Q E:=⟨a,b,r,q,rfl,ha,hb,hl,hn,k⟩
theorem DO{a:Addr}{n:Int}(r:List Int)(ha:aN K H a (r.map V.int))(hn:r.length<=1000)(hm:∀ x∈r,qS x n)(k:∀ p H',ai H H'->H' p=some (.tup ((c5 r n).map V.int))->Q (.ref p) H'):ow K [.ref a,.int n] H Q E:=⟨a,r,n,rfl,ha,hn,hm,k⟩
theorem ud{a f cS b l0:Addr}{ob:Obj}{n:Nt}{ch:B5}(h:cZ K H (.ref a) n/\kZ n/\tR ch H f cS b ob/\mD K H b l0 ch/\JE ch n.1=true)(k:∀ p H',ai H H'->cZ K H' (.ref p) (gd ch n)->Q (.ref p) H'):fV K [.ref a,.ref f] H Q E:=let ⟨h1,h2,h3,h4,h5⟩:=h;⟨a,f,cS,b,l0,ob,n,ch,rfl,h1,h2,h3,h4,h5,k⟩
theorem vo{a f cS b:Addr}{ob:Obj}{xs:List V}{ns:List Nt}{ch:B5}{l0:Addr}(h:aR K H a xs/\bE K H xs ns/\ns.length<=100/\(∀ n∈ns,kZ n/\JE ch n.1=true)/\tR ch H f cS b ob/\mD K H b l0 ch)(k:∀ l' H' ys,H l'=none->ai H H'->H' l'=some (.lst ys)->bE K H' ys (ns.map (gd ch))->Q (.ref l') H'):gG K [.ref a,.ref f] H Q E:=let ⟨h1,h2,h3,h4,h5,h6⟩:=h;⟨a,f,cS,b,ob,xs,ns,ch,l0,rfl,h1,h2,h3,h4,h5,h6,k⟩
theorem wY{a m l f cS b:Addr}{mt:Int×Int}{ob:Obj}{xs:List V}{bs:List (List Nt)}{ch:B5}{l0:Addr}(h:bh K H a m l mt xs bs/\bs.length<=100/\(∀ ns∈bs,ns.length<=100/\∀ n∈ns,kZ n/\JE ch n.1=true)/\tR ch H f cS b ob/\mD K H b l0 ch)(k:∀ t' l' H' ys,H l'=none->ai H H'->(∀ x∈ys,∃ b,x=V.ref b/\H b=none)->bh K H' t' m l' mt ys (bs.map fun ns=>ns.map (gd ch))->Q (.ref t') H'):ji K [.ref a,.ref f] H Q E:=let ⟨h1,h2,h3,h4,h5⟩:=h;⟨a,m,l,f,cS,b,mt,ob,xs,bs,ch,l0,rfl,h1,h2,h3,h4,h5,k⟩
theorem LF{a m l x l0:Addr}{mt:Int×Int}{xs:List V}{bs:List (List Nt)}{sq:List Int}(h:bh K H a m l mt xs bs/\bs.length<=100/\(∀ ns∈bs,ns.length<=100/\∀ n∈ns,kZ n/\JE (.mv sq) n.1=true)/\mD K H x l0 (.mv sq)/\cE K H)(k:∀ t' l' H' ys,H l'=none->kN K H H'->cE K H'->(∀ x∈ys,∃ b,x=V.ref b/\H b=none)->bh K H' t' m l' mt ys (bs.map fun ns=>ns.map (gd (.mv sq)))->Q (.ref t') H'):t9 K [.ref a,.ref x] H Q E:=let ⟨h1,h2,h3,h4,h5⟩:=h;⟨a,m,l,x,l0,mt,xs,bs,sq,rfl,h1,h2,h3,h4,h5,k⟩
theorem Au{a m l x l0:Addr}{mt:Int×Int}{xs:List V}{bs:List (List Nt)}{u:Tu}(h:bh K H a m l mt xs bs/\bs.length<=100/\(∀ ns∈bs,ns.length<=100/\∀ n∈ns,kZ n)/\mD K H x l0 (.sd u)/\cE K H)(k:∀ t' l' H' ys,H l'=none->kN K H H'->cE K H'->(∀ x∈ys,∃ b,x=V.ref b/\H b=none)->bh K H' t' m l' mt ys (bs.map fun ns=>ns.map (gd (.sd u)))->Q (.ref t') H'):pV K [.ref x,.ref a] H Q E:=let ⟨h1,h2,h3,h4,h5⟩:=h;⟨a,m,l,x,l0,mt,xs,bs,u,rfl,h1,h2,h3,h4,h5,k⟩
theorem eN{x l0 a1 m1 l1 a2 m2 l2:Addr}{PM PN:Int×Int}{Ue Ug:List V}{Ii Ij:List (List Nt)}{u:Tu}(h:bh K H a1 m1 l1 PM Ue Ii/\Ii.length<=100/\(∀ ns∈Ii,ns.length<=100/\∀ n∈ns,kZ n)/\bh K H a2 m2 l2 PN Ug Ij/\Ij.length<=100/\(∀ ns∈Ij,ns.length<=100/\∀ n∈ns,kZ n)/\gX K H x l0 u/\u.ok/\cE K H)(k:∀ H',kN K H H'->cE K H'->Q (.bl (PyData.eqv (dC PM (Ii.map fun ns=>ns.map (gd (.sd u)))) (dC PN (Ij.map fun ns=>ns.map (gd (.sd u)))))) H'):gH K [.ref x,.ref a1,.ref a2] H Q E:=let ⟨h1,h2,h3,h4,h5,h6,h7,h8,h9⟩:=h;⟨x,l0,a1,m1,l1,a2,m2,l2,PM,PN,Ue,Ug,Ii,Ij,u,rfl,h1,h2,h3,h4,h5,h6,h7,h8,h9,k⟩
theorem pY{l:Addr}{ys:List V}(hl:aR K H l ys)(hn:ys.length<=6)(k:Q (.ref l) H):fi K [.ref l] H Q E:=⟨l,ys,rfl,hl,hn,k⟩
theorem xY{a:Addr}{r:List Int}{k:Nat}(ha:aN K H a (r.map V.int))(hl:r.length<=1000)(hk:Led r k)(kk:∀ H',ai H H'->Q (.int k) H'):ip K [.ref a] H Q E:=⟨a,r,k,rfl,ha,hl,hk,kk⟩
theorem pZ{a b:Addr}{p n M k:Nat}(v s:List Int)(ha:aN K H a (v.map V.int))(hb:aN K H b (s.map V.int))(lv:v.length=n)(ls:s.length=n)(hn:n<=1000)(hp:p<n)(h0:s.getD p 0≠0)(bv:dj M v)(bs:dj M s)(hM:M<2 ^ k)(hk:k<=60000000)(kk:∀ p' H',ai H H'->H' p'=some (.tup ((cj p s v).map V.int))->Q (.ref p') H'):gI K [.ref a,.ref b,.int p] H Q E:=⟨a,b,p,n,M,k,v,s,rfl,ha,hb,lv,ls,hn,hp,h0,bv,bs,hM,hk,kk⟩
theorem Ik{l:Addr}{p n M A k:Nat}{xs:List V}{rs:List (List Int)}(h:aR K H l xs/\aZ K H xs rs/\rs.length<64/\Len n rs/\n<=1000/\p<n/\(∀ v∈rs,dj M v)/\(∀ v∈rs,at' p v<=A)/\0<A/\6*(M*(A*A))<2 ^ k/\k<=60000000/\cE K H)(kk:∀ t l1 l2 H' ys zs led os,kN K H H'->cE K H'->aN K H' t [.ref l1,.ref l2]->aR K H' l1 ys->aZ K H' ys led->aR K H' l2 zs->aZ K H' zs os->led.length<=1->(∀ v∈led,0<v.getD p 0)->(∀ v∈os,v.getD p 0=0)->(∀ v∈led++os,v.length=n)->(∀ v∈led++os,dj (6*(M*(A*A))) v)->Eqv n rs (led++os)->led.length+os.length<=rs.length->(∀ v∈led,at' p v<=A)->Q (.ref t) H'):pW K [.ref l,.int p] H Q E:=let ⟨h1,h2,h3,h4,h5,h6,h7,h8,h9,Sy,Ya,VM⟩:=h;⟨l,p,n,M,A,k,xs,rs,rfl,h1,h2,h3,h4,h5,h6,h7,h8,h9,Sy,Ya,VM,kk⟩
theorem EY{l:Addr}{w n b:Nat}{xs:List V}{rs:List (List Int)}(h:aR K H l xs/\aZ K H xs rs/\rs.length<64/\Len n rs/\n<=1000/\w<=n/\(∀ v∈rs,dj (2 ^ b) v)/\(∀ i,i<w->ss b (i+1)<60000000)/\cE K H)(kk:∀ l' H' ys st lf,H l'=none->kN K H H'->cE K H'->H' l'=some (.lst ys)->aZ K H' ys st->SJ n w b rs w st lf->Q (.ref l') H'):mH K [.ref l,.int w] H Q E:=let ⟨h1,h2,h3,h4,h5,h6,h7,h8,h9⟩:=h;⟨l,w,n,b,xs,rs,rfl,h1,h2,h3,h4,h5,h6,h7,h8,h9,kk⟩
theorem LG{l:Addr}{b:Nat}{xs:List V}{rs:List (List Int)}(h:aR K H l xs/\aZ K H xs rs/\rs.length<=6/\Len 5 rs/\(∀ v∈rs,dj (2 ^ b) v)/\b<=109/\cE K H)(kk:∀ l' H' ys st,H l'=none->kN K H H'->cE K H'->H' l'=some (.lst ys)->aZ K H' ys st->SF st->Eqv 5 rs st->Len 5 st->st.length<=5->(∀ v∈st,dj (2 ^ ss b 5) v)->(∀ v∈st,∀ k,Led v k->(v.getD k 0).natAbs<=2 ^ gs b (4 - k))->Q (.ref l') H'):ua K [.ref l] H Q E:=let ⟨h1,h2,h3,h4,h5,h6,h7⟩:=h;⟨l,b,xs,rs,rfl,h1,h2,h3,h4,h5,h6,h7,kk⟩
theorem EZ{l a:Addr}{n B C:Nat}{xs:List V}{st:List (List Int)}{u:List Int}(h:aR K H l xs/\aZ K H xs st/\aN K H a (u.map V.int)/\u.length=n/\5<=n/\n<=100/\Len n st/\st.length<=5/\SF (st.map (List.take 5))/\(∀ r∈st,dj (2 ^ B) r)/\dj (2 ^ C) u/\C+6*B<50000000)(kk:∀ p H' v,ai H H'->aN K H' p (v.map V.int)->LB n 5 st st.length u v->dj (2 ^ (C+(B+1)*5)) v->Q (.ref p) H'):mJ K [.ref l,.ref a] H Q E:=let ⟨h1,h2,h3,h4,h5,h6,h7,h8,h9,Sy,Ya,VM⟩:=h;⟨l,a,n,B,C,xs,st,u,rfl,h1,h2,h3,h4,h5,h6,h7,h8,h9,Sy,Ya,VM,kk⟩
theorem Il{w r:Addr}{kk:Bool}(ws rs:List Int)(hw:Sq kk K H w (ws.map V.int))(hr:aN K H r (rs.map V.int))(hl:ws.length<=rs.length)(hn:rs.length<=1000)(hm:∀ i,i<ws.length->jF (rs.getD i 0) (ws.getD i 0))(k:∀ H',ai H H'->Q (.int (dt rs ws)) H'):ox K [.ref w,.ref r] H Q E:=⟨w,r,kk,ws,rs,rfl,hw,hr,hl,hn,hm,k⟩
theorem LH{w r:Addr}(ws rs:List Int)(hw:aN K H w (ws.map V.int))(hr:aN K H r (rs.map V.int))(hl:rs.length=ws.length)(hn:rs.length<=1000)(hm:∀ i,i<rs.length->jF (rs.getD i 0) (ws.getD i 0))(k:∀ H',ai H H'->Q (.int (dot rs ws)) H'):ox K [.ref w,.ref r] H Q E:=Il ws rs (ic hw) hr (by lia) hn (fun i hi=>hm i (by lia)) k
theorem LI{kk w r:Addr}{m:Int}(ws rs:List Int)(hk:aN K H kk [.ref w,.int m])(hw:aN K H w (ws.map V.int))(hr:aN K H r (rs.map V.int))(hl:rs.length=ws.length)(hn:rs.length<=1000)(hm:∀ i,i<rs.length->jF (rs.getD i 0) (ws.getD i 0))(h0:0<=m)(k:∀ H',ai H H'->Q (.int (val ws m rs)) H'):ub K [.ref kk,.ref r] H Q E:=⟨kk,w,r,m,ws,rs,rfl,hk,hw,hr,hl,hn,hm,h0,k⟩
theorem gK{l:Addr}{xs:List V}{ks:List (List Int×Int)}(h:aR K H l xs/\bY K H xs ks/\ks.length<=6/\(∀ k∈ks,k.2=0\/2<=k.2))(k:Q (.ref l) H):eQ K [.ref l] H Q E:=let ⟨h1,h2,h3,h4⟩:=h;⟨l,xs,ks,rfl,h1,h2,h3,h4,k⟩
theorem Av{l a:Addr}{xs:List V}{ks:List (List Int×Int)}{row:List Int}(h:aR K H l xs/\bY K H xs ks/\ks.length<=6/\(∀ k∈ks,k.2=0\/2<=k.2)/\(∀ k∈ks,k.1.length=5/\Ln 1000 k.1)/\aN K H a (row.map V.int)/\row.length=5/\Ln 100000 row)(k:∀ p H',ai H H'->aN K H' p ((ks.map fun k=>val k.1 k.2 row).map V.int)->Q (.ref p) H'):kR K [.ref l,.ref a] H Q E:=let ⟨h1,h2,h3,h4,h5,h6,h7,h8⟩:=h;⟨l,a,xs,ks,row,rfl,h1,h2,h3,h4,h5,h6,h7,h8,k⟩
theorem vp{a:Addr}{ns:List Int}{j:Int}(ha:aR K H a (ns.map V.int))(h0:0<=j)(k:Q (.int (ns.getD j.toNat 0)) H):bI K [.ref a,.int j] H Q E:=⟨a,ns,j,rfl,ha,h0,k⟩
theorem en{t b:Nat}(h0:0<b)(h9:b<2 ^ 9000)(k:∀ p H',ai H H'->H' p=some (.tup [.int (t / Nat.gcd t b:Nat),.int (b / Nat.gcd t b:Nat)])->Q (.ref p) H'):eL K [.int t,.int b] H Q E:=⟨t,b,rfl,h0,h9,k⟩
theorem bz{c j:Int}(hj:0<=j/\j<=1000)(k:∀ m:Int,0<=m->m<999983->Q (.int m) H):cA K [.int c,.int j] H Q E:=⟨c,j,rfl,hj,k⟩
theorem ue{c:Int}(hc:0<=c/\c<=1000000)(k:∀ (p:Addr) H' (z:Str) (v:V) (o:Option Tn),ai H H'->H' p=some (.tup [.str z,v])->fg K H' v o->M7 o->Q (.ref p) H'):fW K [.int c] H Q E:=⟨c,rfl,hc,k⟩
theorem xZ{c:Int}{n t:Nat}(h:1<=n/\n<=12/\n<=t/\t<=100)(k:∀ (l:Addr) H' (ps:List Int),H l=none->ai H H'->H' l=some (.lst (ps.map V.int))->ps.length=n->(∀ p∈ps,1<=p/\p<=t)->ps.sum=(t:Int)->Q (.ref l) H'):iq K [.int c,.int n,.int t] H Q E:=let ⟨h1,h2,h3,h4⟩:=h;⟨c,n,t,rfl,h1,h2,h3,h4,k⟩
theorem Cd{a:Addr}{ns:List Int}{j:Int}(h:aR K H a (ns.map V.int)/\0<=j/\j<=100)(k:∀ (t m l:Addr) H' (mt:Int×Int) (xs:List V) (bs:List (List Nt)),ai H H'->bh K H' t m l mt xs bs->wU mt bs->Q (.ref t) H'):j8 K [.ref a,.int j] H Q E:=let ⟨h1,h2,h3⟩:=h;⟨a,ns,j,rfl,h1,h2,h3,k⟩
theorem Aw{a:Addr}{ns:List Int}{j:Int}(h:aR K H a (ns.map V.int)/\0<=j/\j<=100)(k:∀ (l:Addr) H' (ys:List V) (rs:List (List Int)),H l=none->ai H H'->H' l=some (.lst ys)->cp H' ys rs->(∀ x∈ys,x≠V.ref l)->DI rs->Q (.ref l) H'):jj K [.ref a,.int j] H Q E:=let ⟨h1,h2,h3⟩:=h;⟨a,ns,j,rfl,h1,h2,h3,k⟩
theorem Ce{l a:Addr}{ys:List V}{rs:List (List Int)}{r:List Int}(h:H l=some (.lst ys)/\cp H ys rs/\DI rs/\aN K H a (r.map V.int)/\r.length=5/\(∀ x∈r,-1000<=x/\x<=1000))(k:∀ (p:Addr) H' (v:List Int),ai H H'->H' p=some (.tup (v.map V.int))->RB rs rs.length r v->Q (.ref p) H'):j9 K [.ref l,.ref a] H Q E:=let ⟨h1,h2,h3,h4,h5,h6⟩:=h;⟨l,a,ys,rs,r,rfl,h1,h2,h3,h4,h5,h6,k⟩
theorem x5{l:Addr}{c:Int}{ys:List V}{rs:List (List Int)}(h:H l=some (.lst ys)/\cp H ys rs/\DI rs)(k:∀ (l':Addr) H' (zs:List V) (cs:List (List Int)),H l'=none->ai H H'->H' l'=some (.lst zs)->aZ K H' zs cs->Eqv 5 rs cs->Len 5 cs->(∀ v∈cs,∀ x∈v,-24<=x/\x<=24)->cs.length<=6->Q (.ref l') H'):ir K [.ref l,.int c] H Q E:=let ⟨h1,h2,h3⟩:=h;⟨l,c,ys,rs,rfl,h1,h2,h3,k⟩
theorem qU{w a:Addr}{m:Int}{ws row:List Int}(h:aN K H w (ws.map V.int)/\aN K H a (row.map V.int)/\ws.length=5/\row.length=5/\(m=0\/2<=m)/\(∀ x∈ws,-1000<=x/\x<=1000))(k:∀ H',ai H H'->Q (.int (val ws m row)) H'):jk K [.ref w,.int m,.ref a] H Q E:=let ⟨h1,h2,h3,h4,h5,h6⟩:=h;⟨w,a,m,ws,row,rfl,h1,h2,h3,h4,h5,h6,k⟩
theorem Cf{a:Addr}{ns:List Int}{j:Int}(h:aR K H a (ns.map V.int)/\0<=j/\j<=100)(k:∀ (l:Addr) H' (ys:List V) (ks:List (List Int×Int)),H l=none->ai H H'->H' l=some (.lst ys)->bY K H' ys ks->ks.length<=3->(∀ k∈ks,k.1.length=5/\(∀ x∈k.1,-10<=x/\x<=10)/\(k.2=0\/2<=k.2)/\k.2<=12)->Q (.ref l) H'):ka K [.ref a,.int j] H Q E:=let ⟨h1,h2,h3⟩:=h;⟨a,ns,j,rfl,h1,h2,h3,k⟩
theorem Cg{a:Addr}{ns:List Int}{kn j:Int}(h:aR K H a (ns.map V.int)/\(0<=kn/\kn<=3)/\0<=j/\j<=50)(k:∀ (b:Addr) (d:Kd) H',ai H H'->cK K H' b d->d.ok->d.num=kn->Q (.ref b) H'):kd K [.ref a,.int kn,.int j] H Q E:=let ⟨h1,h2,h3,h4⟩:=h;⟨a,ns,kn,j,rfl,h1,h2,h3,h4,k⟩
theorem kf{b a:Addr}{d:Kd}{r:List Int}(h:cK K H b d/\d.ok/\aN K H a (r.map V.int)/\r.length=5/\(∀ x∈r,-1000<=x/\x<=1000))(k:∀ (z:V) H' (y:Tn),ai H H'->JC K H' z y->VJ d r y->Q z H'):gj K [.int d.num,.ref b,.ref a] H Q E:=let ⟨h1,h2,h3,h4,h5⟩:=h;⟨b,a,d,r,rfl,h1,h2,h3,h4,h5,k⟩
theorem x6{b:Addr}{d:Kd}{c:Int}(g:cK K H b d/\d.ok/\cE K H)(k:∀ (t l:Addr) (u:Tu) H',kN K H H'->cE K H'->gX K H' t l u->u.ok->PC d u->Q (.ref t) H'):iu K [.int d.num,.ref b,.int c] H Q E:=let ⟨h1,h2,h3⟩:=g;⟨b,d,c,rfl,h1,h2,h3,k⟩
theorem vq{b:Addr}{d:Kd}{c:Int}(h:cK K H b d/\d.ok)(k:∀ (l:Addr) H' (r:List Int),H l=none->ai H H'->H' l=some (.lst (r.map V.int))->gY 30 r->Q (.ref l) H'):gJ K [.int d.num,.ref b,.int c] H Q E:=⟨b,d,c,rfl,h.1,h.2,k⟩
theorem Ci{b:Addr}{d:Kd}{c e:Int}(h:cK K H b d/\d.ok)(k:∀ (p:Addr) H' (r:List Int),ai H H'->H' p=some (.tup (r.map V.int))->gY 31 r->Q (.ref p) H'):ke K [.int d.num,.ref b,.int c,.int e] H Q E:=⟨b,d,c,e,rfl,h.1,h.2,k⟩
theorem dN{c b:Int}{n:Nat}(h:(0<b/\b<=1000)/\n<=10)(k:∀ (l:Addr) H' (xs:List Int),H l=none->ai H H'->H' l=some (.lst (xs.map V.int))->xs.length=n->(∀ x∈xs,0<=x/\x<b)->Q (.ref l) H'):eM K [.int c,.int b,.int n] H Q E:=⟨c,b,n,rfl,h.1,h.2,k⟩
theorem qa{a:Addr}{ns:List Int}(h:aR K H a (ns.map V.int))(k:∀ (t m l:Addr) H' (mt:Int×Int) (xs:List V) (bs:List (List Nt)),ai H H'->bh K H' t m l mt xs bs->JF 600 50 bs->rB bs->fS mt->Q (.ref t) H'):fj K [.ref a] H Q E:=⟨a,ns,rfl,h,k⟩
theorem qb{a:Addr}{ns:List Int}{kn:Int}(h:aR K H a (ns.map V.int)/\(0<=kn/\kn<=3))(k:∀ (b:Addr) (d:Kd) H',ai H H'->cK K H' b d->d.ok->d.num=kn->Q (.ref b) H'):fk K [.ref a,.int kn] H Q E:=⟨a,ns,kn,rfl,h.1,h.2,k⟩
theorem qc{a b:Addr}{ns:List Int}{d:Kd}(h:aR K H a (ns.map V.int)/\cK K H b d/\d.ok)(k:∀ (p:Addr) H' (r:List Int),ai H H'->H' p=some (.tup (r.map V.int))->vf 100 10 r->Q (.ref p) H'):fo K [.ref a,.int d.num,.ref b] H Q E:=⟨a,b,ns,d,rfl,h.1,h.2.1,h.2.2,k⟩
theorem jo{a:Addr}{xs:List V}(h:H a=some (.lst xs))(hl:xs.length<=100)(k:∀ l H',H l=none->ai H H'->H' l=some (.lst xs.reverse)->Q (.ref l) H'):iw K [.ref a] H Q E:=⟨a,xs,rfl,h,hl,k⟩
theorem Ax{a m l:Addr}{c:Int}{mt:Int×Int}{xs:List V}{bs:List (List Nt)}(h:bh K H a m l mt xs bs/\xV 700 bs/\bs.length<=12/\rB bs/\fS mt)(k:∀ (t' m' l':Addr) H' (Ra:Int×Int) (ys:List V) (Ca:List (List Nt)),ai H H'->bh K H' t' m' l' Ra ys Ca->xV 700 Ca->Q (.ref t') H'):jl K [.ref a,.int c] H Q E:=let ⟨h1,h2,h3,h4,h5⟩:=h;⟨a,m,l,c,mt,xs,bs,rfl,h1,h2,h3,h4,h5,k⟩
theorem qV{b a m l:Addr}{d:Kd}{u:Tu}{mt:Int×Int}{xs:List V}{bs:List (List Nt)}(h:bh K H a m l mt xs bs/\xV 1000 bs/\cK K H b d/\d.ok/\u.ok/\PC d u)(k:∀ (t' l':Addr) H' (ys:List V),H l'=none->ai H H'->bh K H' t' m l' mt ys (bs.map fun ns=>ns.map (gd (.sd u)))->Q (.ref t') H'):jm K [.int d.num,.ref b,.ref a] H Q E:=let ⟨h1,h2,h3,h4,h5,h6⟩:=h;⟨b,a,m,l,d,u,mt,xs,bs,rfl,h1,h2,h3,h4,h5,h6,k⟩
theorem kg{b:Bool}(k:∀ H',ai H H'->Q (.bl true) H'):pX K [.bl b,.bl b] H Q E:=⟨b,rfl,k⟩
theorem Ay{a:Addr}{ns:List Int}{kn:Int}{fr:Bool}(h:aR K H a (ns.map V.int)/\(0<=kn/\kn<=3))(k:∀ (p b t m l q:Addr) (d:Kd) (mt:Int×Int) (xs:List V) (bs:List (List Nt)) (sq:List Int) H',ai H H'->H' p=some (.tup [.ref b,.ref t,.ref q])->cK K H' b d->d.ok->d.num=kn->bh K H' t m l mt xs bs->aN K H' q (sq.map V.int)->X7 mt bs sq->Q (.ref p) H'):jn K [.ref a,.int kn,.bl fr] H Q E:=⟨a,ns,kn,fr,rfl,h.1,h.2,k⟩
theorem uf{x y:V}(k:Q y H):eR K [x,y] H Q E:=⟨x,y,rfl,k⟩
theorem mN {x l C dx:Addr} {b:Nat} {xs:List V} {rs:List (List Int)} (h:nsIn K mainGlobals "CommaTuning"=some (some (.ref C))/\H x=some (.ins C dx [])/\aR K H l xs/\aZ K H xs rs/\rs.length<=6/\Len 5 rs/\(∀ v∈rs,dj (2 ^ b) v)/\b<=109/\cE K H) (k:∀ (l1:Addr) (H1:Hp) (ys:List V) (st:List (List Int)),H l1=none->kN K H H1->cE K H1->H1 l1=some (.lst ys)->aZ K H1 ys st->SF st->Eqv 5 rs st->Len 5 st->H1 x=some (.ins C dx [])->Q .dz (upd H1 x (.ins C dx [("steps",.ref l1)]))):eE K [.ref x,.ref l] H Q E:=let ⟨h1,h2,h3,h4,h5,h6,h7,h8,h9⟩:=h;⟨x,l,C,dx,b,xs,rs,rfl,h1,h2,h3,h4,h5,h6,h7,h8,h9,k⟩
theorem k7{x l a:Addr}{st:List (List Int)}{r:List Int}(h:gX K H x l (.comma st)/\Tu.ok (.comma st)/\aN K H a (r.map V.int)/\r.length=5/\dj (2 ^ 20000) r)(k:∀ (p:Addr) (H':Hp) (v:List Int),ai H H'->aN K H' p (v.map V.int)->Q9 st r v->Q (.ref p) H'):de K [.ref x,.ref a] H Q E:=let ⟨h1,h2,h3,h4,h5⟩:=h;⟨x,l,a,st,r,rfl,h1,h2,h3,h4,h5,k⟩
theorem iN {x l C dx:Addr} {ys:List V} {ks:List (List Int×Int)} (h:(nsIn K mainGlobals "KeyTuning"=some (some (.ref C))\/nsIn K mainGlobals "Board"=some (some (.ref C)))/\H x=some (.ins C dx [])/\aR K H l ys/\bY K H ys ks/\ks.length<=6/\(∀ k∈ks,k.2=0\/2<=k.2)) (k:∀ (l1:Addr) (H1:Hp),H l1=none->ai H H1->H1 l1=some (.lst ys)->Q .dz (upd H1 x (.ins C dx [("own_keys",.ref l1)]))):dZ K [.ref x,.ref l] H Q E:=let ⟨h1,h2,h3,h4,h5,h6⟩:=h;⟨x,l,C,dx,ys,ks,rfl,h1,h2,h3,h4,h5,h6,k⟩
theorem oy{x l a:Addr}{ks:List (List Int×Int)}{r:List Int}(h:gX K H x l (.key ks)/\Tu.ok (.key ks)/\aN K H a (r.map V.int)/\r.length=5/\dj (2 ^ 20000) r)(k:∀ (p:Addr) (H':Hp),ai H H'->aN K H' p ((ks.map fun k=>val k.1 k.2 r).map V.int)->Q (.ref p) H'):dM K [.ref x,.ref a] H Q E:=let ⟨h1,h2,h3,h4,h5⟩:=h;⟨x,l,a,ks,r,rfl,h1,h2,h3,h4,h5,k⟩
theorem x8 {x a C dx:Addr} {w:List Int} (h:nsIn K mainGlobals "Board"=some (some (.ref C))/\H x=some (.ins C dx [])/\aN K H a (w.map V.int)/\w.length=5/\1<=w.getD 0 0) (k:(∀ (l1:Addr) (H1:Hp) (ys:List V),H l1=none->ai H H1->H1 l1=some (.lst ys)->bY K H1 ys [(w,0)]->H1 x=some (.ins C dx [])->Q .dz (upd (upd H1 x (.ins C dx [("own_keys",.ref l1)])) x (.ins C dx [("own_keys",.ref l1),("octave",.int (w.getD 0 0))])))):iy K [.ref x,.ref a] H Q E:=let ⟨h1,h2,h3,h4,h5⟩:=h;⟨x,a,C,dx,w,rfl,h1,h2,h3,h4,h5,k⟩
theorem vt{x l a:Addr}{w r:List Int}(h:gX K H x l (.cG w)/\Tu.ok (.cG w)/\aN K H a (r.map V.int)/\r.length=5/\dj (2 ^ 20000) r)(k:∀ (H':Hp),ai H H'->Q (.int (dt r w)) H'):fq K [.ref x,.ref a] H Q E:=let ⟨h1,h2,h3,h4,h5⟩:=h;⟨x,l,a,w,r,rfl,h1,h2,h3,h4,h5,k⟩
theorem PR {a1 a2 a3 a4 x l p:Addr} {u:Tu} {σ:St} {ta:TE} {t:TA} {r:List Int} (w1:nsIn K mainGlobals "Tuning"=some (some (.ref a1))) (w2:nsIn K mainGlobals "CommaTuning"=some (some (.ref a2))) (w3:nsIn K mainGlobals "KeyTuning"=some (some (.ref a3))) (w4:nsIn K mainGlobals "Board"=some (some (.ref a4))) (hv:∀ R:V->Hp->Prop,R (.ref x) H->ta σ H R) (ht:∀ R:List V->Hp->Prop,R [.ref p] H->t σ H R) (hu:gX K H x l u) (h:u.ok/\aN K H p (r.map V.int)/\r.length=5/\dj (2 ^ 20000) r) (k:∀ (v:V) (H':Hp),ai H H'->JC K H' v (uW u r)->Q v H') :
  sU a1 "sound" (eR K) [] E0 ta t σ H Q\/sU a2 "sound" (de K) [] E0 ta t σ H Q\/sU a3 "sound" (dM K) [] E0 ta t σ H Q\/sU a4 "sound" (fq K) [] E0 ta t σ H Q:=by
 cases u with
 | plain =>
  obtain ⟨C,dx,hC,hx⟩:=id hu
  obtain rfl:=aaP (aaO (aaO (hC.symm.trans w1)))
  refine .inl (tI (hv _ (nW hx rfl (ht _ (uf (E:=E0) (k _ H (ai.refl _) ?_))))))
  rw [gE (u:=.plain) h.1 h.2.2.1 (y:=.row r) rfl]
  exact⟨p,rfl,h.2.1,by lia⟩
 | comma st =>
  obtain ⟨C,dx,ys,hC,hx,_⟩:=id hu
  obtain rfl:=aaP (aaO (aaO (hC.symm.trans w2)))
  refine .inr (.inl (tI (hv _ (nW hx rfl (ht _ (k7 (E:=E0) ⟨hu,h.1,h.2.1,h.2.2.1,h.2.2.2⟩ fun p' H' v s m hr=>k _ H' s ?_))))))
  rw [gE (u:=.comma st) h.1 h.2.2.1 (y:=.row v) ⟨v,rfl,hr⟩]
  exact⟨p',rfl,m,by rw [hr.1];decide⟩
 | key ks =>
  obtain ⟨C,dx,ys,hC,hx,_⟩:=id hu
  obtain rfl:=aaP (aaO (aaO (hC.symm.trans w3)))
  refine .inr (.inr (.inl (tI (hv _ (nW hx rfl (ht _ (oy (E:=E0) ⟨hu,h.1,h.2.1,h.2.2.1,h.2.2.2⟩ fun p' H' s m=>k _ H' s ?_)))))))
  rw [gE (u:=.key ks) h.1 h.2.2.1 (y:=.row _) rfl]
  exact⟨p',rfl,m,by rw [aa5];exact aaL h.1.1 (by decide)⟩
 | cG w =>
  obtain ⟨C,dx,ys,hC,hx,_⟩:=id hu
  obtain rfl:=aaP (aaO (aaO (hC.symm.trans w4)))
  refine .inr (.inr (.inr (tI (hv _ (nW hx rfl (ht _ (vt (E:=E0) ⟨hu,h.1,h.2.1,h.2.2.1,h.2.2.2⟩ fun H' s=>k _ H' s ?_)))))))
  rw [gE (u:=.cG w) h.1 h.2.2.1 (y:=.num _) rfl]
  rfl
end
local macro_rules|`(tactic| walk_at "hf") => `(tactic| first|assumption|exact L2.aN.of (by assumption)|exact L2.aR.of (by assumption)|exact L2.zM.at (by assumption)|((with_reducible apply L2.ic);(walk_at "hf"))|((with_reducible apply L2.cX);(walk_at "hf"))|((with_reducible apply L2.ai.at);(assumption);(walk_at "hf"))|((with_reducible apply L2.ai.seq);(assumption);(walk_at "hf"))|((with_reducible apply L2.ai.lst);(assumption);(walk_at "hf"))|((with_reducible apply L2.ai.sq);(assumption);(walk_at "hf")))
local macro_rules|`(tactic| walk_at "sm") => `(tactic| first|exact L2.ai.refl _|assumption|((refine L2.ai.trans ?_ (by assumption));walk_at "sm"))
local macro_rules|`(tactic| walk_at "side") => `(tactic| first|(show (0 : Int)<_;first|decide|lia)|exact⟨by decide, by decide⟩|exact⟨by lia, by lia⟩|exact Or.inl ⟨by decide, by decide⟩|exact Or.inr ⟨by decide, by decide⟩|exact Or.inr ⟨by lia, by lia⟩|exact Or.inl ⟨by lia, by lia⟩|exact⟨by decide, by decide, by decide⟩|assumption)
local macro_rules|`(tactic| walk_at "p") => `(tactic| first
 | (with_reducible refine L2.SO ?_)|(with_reducible refine L2.SQ ?_)|(with_reducible refine L2.KD ?_)|(with_reducible refine L2.SR ?_)|(with_reducible refine L2.OA ?_)|(with_reducible refine L2.OB ?_)
 | ((with_reducible apply L2.MM);(exact rfl))|(with_reducible refine L2.r_c ?_)|(with_reducible refine L2.Xn ?_)|(with_reducible refine L2.Xo ?_)|(with_reducible refine L2.r_b ?_)|(with_reducible refine L2.OC ?_)|(with_reducible refine L2.OD ?_)
 | (with_reducible refine L2.SU ?_)|(with_reducible refine L2.Xp ?_)|(with_reducible refine L2.SV ?_)|(with_reducible refine L2.OE ?_)|(with_reducible refine L2.OF ?_)|(with_reducible refine L2.SW ?_)
 | (with_reducible refine L2.SX ?_)|((with_reducible refine L2.r_I ?_ ?_);(walk_at "side"))|(with_reducible refine L2.r_U ?_)|(with_reducible refine L2.S0 ?_)|(with_reducible refine L2.S1 ?_)|(with_reducible refine L2.S2 ?_)|(with_reducible refine L2.OG ?_)|(with_reducible refine L2.S3 ?_)|(with_reducible refine L2.S4 ?_)|((with_reducible refine L2.OH ?_ ?_);(first|exact abx rfl|(focus (simp;done))|(focus (simp;lia)));intro p_ H_ s_ m_)|((with_reducible refine L2.GQ ?_ ?_);(first|exact abx rfl|(focus (simp;done))|(focus (simp;lia)));intro p_ H_ n_ s_ m_)
 | (with_reducible refine L2.Xq ?_)|(with_reducible refine L2.KO ?_)|(with_reducible refine L2.OI ?_)|(with_reducible refine L2.Xr ?_)|(with_reducible refine L2.GR ?_)|(with_reducible refine L2.OJ ?_)|(with_reducible refine L2.KG ?_)|(with_reducible refine L2.Xs ?_)|(with_reducible refine L2.S5 ?_)|(with_reducible refine L2.KH ?_)|(with_reducible refine L2.OK ?_)|(with_reducible refine L2.OL ?_)|(with_reducible refine L2.OM ?_)
 | ((with_reducible apply L2.S6);(walk_at "hf"))|((with_reducible apply L2.S7);(walk_at "hf"))|((with_reducible refine L2.MN ?_ ?_ ?_);(first|decide|lia);(first|decide|lia))|((with_reducible apply L2.S8);(walk_at "hf");(walk_at "hf"))
 | ((with_reducible apply L2.ON);(walk_at "hf"))|((with_reducible apply L2.OO);(walk_at "hf"))
 | ((with_reducible apply L2.zO);(walk_at "hf");intro p_ H_ s_ m_)|((with_reducible apply L2.KI);(walk_at "hf");intro p_ H_ n_ s_ m_)|((with_reducible apply L2.KJ);(walk_at "hf");intro p_ H_ n_ s_ m_)
 | (with_reducible refine L2.S9 ?_)|(with_reducible refine L2.KL ?_)|((with_reducible apply L2.OP);(walk_at "hf");(first|exact L2.nJ _ _|exact rfl))|((with_reducible apply L2.OQ);(walk_at "hf");(first|exact L2.nJ _ _|exact rfl))|((with_reducible apply L2.OR);(first|exact L2.nJ _ _|exact rfl))|((with_reducible apply L2.OS);(first|exact L2.nJ _ _|exact rfl))
 | ((with_reducible refine L2.KN ?_ ?_);(first|exact rfl|exact Or.inl ⟨rfl,_,by walk_at "hf"⟩))
 | ((with_reducible apply L2.Dv);(walk_at "hf");(walk_at "hf");(first|exact abx rfl|(focus (simp;done))|(focus (simp;lia)));intro p_ H_ n_ s_ m_)
 | ((with_reducible apply L2.OU);(walk_at "hf");intro p_ H_ n_ s_ m_)|((with_reducible apply L2.OV);(walk_at "hf");intro p_ H_ s_ m_)
 | ((with_reducible apply L2.xy);(walk_at "hf");(walk_at "hf");(exact List.cons_ne_nil _ _);(exact List.cons_ne_nil _ _);(first|exact abx rfl|(focus (simp;done))|(focus (simp;lia)));intro p_ H_ s_ m_)
 | (with_reducible refine L2.KW ?_)|((with_reducible apply L2.OX);(walk_at "hf");(walk_at "hf");(walk_at "hf"))|((with_reducible apply L2.O0);(exact rfl))|((with_reducible apply L2.O1);(exact rfl))|(with_reducible refine L2.O2 ?_)|((with_reducible apply L2.Tp);(walk_at "hf");(exact rfl);(exact rfl))|(with_reducible refine L2.tI ?_)|(with_reducible refine L2.Pg ?_)|(with_reducible refine L2.TM ?_)|(with_reducible refine L2.Pj ?_)|((with_reducible apply L2.Ph);(assumption);(assumption);(assumption);(exact rfl))|((with_reducible apply L2.nW);(assumption);(exact rfl))
 | (with_reducible refine L2.TC ?_)|(with_reducible refine L2.TF ?_)
 | (with_reducible refine L2.La ?_)|((with_reducible refine L2.Pd ?_ ?_ ?_);(first|exact⟨by decide,by decide⟩|exact⟨by lia,by lia⟩);(first|exact⟨by decide,by decide⟩|exact⟨by lia,by lia⟩))|(with_reducible refine L2.K9 ?_)|(with_reducible refine L2.O8 ?_)|((with_reducible apply L2.O9);(walk_at "hf");intro p_ H_ n_ s_ m_)|(with_reducible refine L2.K4 ?_)|((with_reducible apply L2.Tv);(walk_at "hf")))
local macro_rules|`(tactic| walk_at "q") => `(tactic| first|(walk_at "p")|(with_reducible refine L2.SS ?_))
local macro_rules|`(tactic| walk_at "x") => `(tactic| first|((with_reducible apply L2.eH);(walk_at "hf");(exact rfl))|((with_reducible apply L2.du);(walk_at "hf");(exact rfl)))
local macro_rules|`(tactic| walk_at "r") => `(tactic| first|(walk_at "q")|(walk_at "x"))
local macro_rules|`(tactic| walk_at "v") => `(tactic| repeat walk_at "q")
local macro_rules|`(tactic| walk_at "j") => `(tactic| repeat (first|(walk_at "p")|(walk_at "x")))
local macro_rules|`(tactic| walk_at "sz") => `(tactic| first|exact L2.dS (by lia)|decide|exact L2.dS (by simp only [PySem.strLen_append];lia)|assumption)
local macro_rules|`(tactic| walk_at "p") => `(tactic| first|((with_reducible refine L2.Pl ?_ ?_);(exact abx rfl);intro p_ H_ n_ s_ m_)|((with_reducible refine L2.xJ ?_ ?_);(walk_at "sz")) )
local macro_rules|`(tactic| walk_at "p") => `(tactic| ((with_reducible apply LD);(walk_at "hf");(walk_at "hf");intro p_ H_ s_ m_))
local macro_rules|`(tactic| walk_at "p") => `(tactic| ((with_reducible apply vp);(walk_at "hf");(first|decide|lia)))
local macro_rules|`(tactic| walk_at "w") => `(tactic| repeat walk_at "r")
section
variable {P:Program}{w:World}{K:Frag}{mg:Str->Option Value}{base:Heap}{G:iK}
theorem Az:aF ["thing"] ["thing"] (aq mi):=⟨rfl,rfl,rfl,by decide +kernel,rfl,by decide +kernel,by decide +kernel⟩
theorem AA (D:Def K mg "is_whole" mi ["thing"]) (T:Txt K mg G) (Y:base.NoSeer/\P.given.tree=none):Ok P w K mg base 1 "is_whole" ["thing"] (j7 K):=by
 have S:=Az
 refine D.ok S (fun vs H Q E h=>?_) (fun f c7 A outer s H vs Q E hr h=>?_)
 ·obtain ⟨_,rfl,_⟩:=h;rfl
 ·obtain ⟨v,rfl,hv,k⟩:=h
  have hu:=bo hr
  have aB:=T.aB
  have aj:=T.aj
  refine⟨_,(ao (aG (F5 (ba (kJ K rfl) rfl T.gi boot_isinstance (aa (pv 0) (aa (rO (v:=V.ty "int") rfl T.Nb boot_int rfl) af))) (F4 (NA (ba (kJ K rfl) rfl T.gi boot_isinstance (aa (pv 0) (aa (rO (v:=V.ty "bool") rfl T.Ic boot_bool rfl) af)))))))),?_⟩
  rcases hv with ⟨i,rfl⟩|⟨b,rfl⟩|rfl|⟨s,rfl⟩|⟨a,xs,rfl,hs⟩|⟨a,xs,rfl,hs⟩
  ·walk_at "w"
   refine jI ?_
   walk_at "w"
   exact k
  ·walk_at "w"
   refine jI ?_
   walk_at "w"
   exact k
  all_goals
   walk_at "w"
   refine Gx ?_
   walk_at "w"
   exact k
theorem Im:aF ["one","other"] ["one","other"] (aq xN):=⟨rfl,rfl,rfl,by decide +kernel,rfl,by decide +kernel,by decide +kernel⟩
theorem Io (D:Def K mg "times" xN ["one","other"]) (T:Txt K mg G) (Y:base.NoSeer/\P.given.tree=none):Ok P w K mg base 1 "times" ["one","other"] (ou K):=by
 have S:=Im
 refine D.ok S (fun vs H Q E h=>?_) (fun f c7 A outer s H vs Q E hr h=>?_)
 ·obtain ⟨_,_,_,_,_,_,_,_,_,_,_,_,rfl,_⟩:=h;rfl
 ·obtain ⟨a,b,a0,a1,a2,a3,a4,b0,b1,b2,b3,b4,rfl,ha,hb,k⟩:=h
  have hu:=bo hr
  have aB:=T.aB
  have aj:=T.aj
  refine⟨_,(ao (aG (bu (cH K rfl) rfl T.da boot_tuple (aa (bg (N:=["number","added"]) (ix:=[none,none]) rfl (dR K rfl true true rfl T.iM (aa (pv 0) (aa (pv 1) af))) (fun _ _ _ _ _=>(cw (n:=2) K rfl rfl (aJ (au (i:=0) (show eT ["number","added"] by decide +kernel) rfl (Or.inl rfl)) (aJ (au (i:=1) (show eT ["number","added"] by decide +kernel) rfl (Or.inl rfl)) cu)))) (fun _ _ _ _ _=>rfl) (fun _ _ _ _ _=>(ah aV (pv 0) (pv 1))) rfl (by decide +kernel) (by decide +kernel) rfl True.intro) af)))),?_⟩
  refine⟨_,rfl,_,rfl,a,b,rfl,⟨_,ha⟩,⟨_,hb⟩,tm (r:=[a0,a1,a2,a3,a4]) (q:=[b0,b1,b2,b3,b4]) (·+·) rfl ha hb rfl (by show 5<=1000;decide) fun l H' hl hs dE=>?_⟩
  exact zO (aR.of dE) fun p H2 s2 m=>k p H2 (hs.trans s2) m
theorem LJ:aF ["one","other"] ["one","other"] (aq B2):=⟨rfl,rfl,rfl,by decide +kernel,rfl,by decide +kernel,by decide +kernel⟩
theorem LK (D:Def K mg "over" B2 ["one","other"]) (T:Txt K mg G) (Y:base.NoSeer/\P.given.tree=none):Ok P w K mg base 1 "over" ["one","other"] (xX K):=by
 have S:=LJ
 refine D.ok S (fun vs H Q E h=>?_) (fun f c7 A outer s H vs Q E hr h=>?_)
 ·obtain ⟨_,_,_,_,rfl,_⟩:=h;rfl
 ·obtain ⟨a,b,r,q,rfl,ha,hb,hl,hn,k⟩:=h
  have hu:=bo hr
  have aB:=T.aB
  have aj:=T.aj
  refine⟨_,(ao (aG (bu (cH K rfl) rfl T.da boot_tuple (aa (bg (N:=["number","taken"]) (ix:=[none,none]) rfl (dR K rfl true true rfl T.iM (aa (pv 0) (aa (pv 1) af))) (fun _ _ _ _ _=>(cw (n:=2) K rfl rfl (aJ (au (i:=0) (show eT ["number","taken"] by decide +kernel) rfl (Or.inl rfl)) (aJ (au (i:=1) (show eT ["number","taken"] by decide +kernel) rfl (Or.inl rfl)) cu)))) (fun _ _ _ _ _=>rfl) (fun _ _ _ _ _=>(ah bF (pv 0) (pv 1))) rfl (by decide +kernel) (by decide +kernel) rfl True.intro) af)))),?_⟩
  walk_at "w"
  refine tm (r:=r) (q:=q) (· - ·) rfl ha hb hl hn fun l H1 FO s1 m1=>?_
  walk_at "w"
  rename_i p2 H2 s2 m2
  exact k _ _ (s1.trans s2) m2
theorem Ip:aF ["row","n"] ["row","n"] (aq xO):=⟨rfl,rfl,rfl,by decide +kernel,rfl,by decide +kernel,by decide +kernel⟩
theorem Iq (D:Def K mg "power" xO ["row","n"]) (T:Txt K mg G) (Y:base.NoSeer/\P.given.tree=none):Ok P w K mg base 1 "power" ["row","n"] (ow K):=by
 have S:=Ip
 refine D.ok S (fun vs H Q E h=>?_) (fun f c7 A outer s H vs Q E hr h=>?_)
 ·obtain ⟨_,_,_,rfl,_⟩:=h;rfl
 ·obtain ⟨a,r,n,rfl,ha,hn,hm,k⟩:=h
  have hu:=bo hr
  have aB:=T.aB
  have aj:=T.aj
  refine⟨_,(ao (aG (bu (cH K rfl) rfl T.da boot_tuple (aa (bg (N:=["number","n"]) (ix:=[none,some 1]) rfl (xA K rfl (pv 0)) (fun _ _ _ _ _=>(au (i:=0) (show eT ["number","n"] by decide +kernel) rfl (Or.inl rfl))) (fun _ _ _ _ _=>rfl) (fun _ _ _ _ _=>(ah Le (pv 0) (pv 1))) rfl (by decide +kernel) (by decide +kernel) rfl ⟨⟨rfl,Or.inr (Or.inl rfl),rfl,rfl⟩,True.intro⟩) af)))),?_⟩
  walk_at "w"
  refine wC (r:=r) (fun x=>.int (x*n)) [some (.int n)] rfl ha hn (fun x H' Qc hx s kc=>?_) (fun l H1 hl s1 m1=>?_)
  ·walk_at "w"
   refine r_I (C:=qS) (hm x hx) ?_
   exact kc _ (ai.refl _)
  walk_at "w"
  rename_i p2 H2 s2 m2
  refine k _ _ (s1.trans s2) ?_
  rw [m2,c5,abp]
  rfl
theorem oz:aF ["commas"] ["commas"] (aq fG):=⟨rfl,rfl,rfl,by decide +kernel,rfl,by decide +kernel,by decide +kernel⟩
theorem oA (D:Def K mg "checked_commas" fG ["commas"]) (T:Txt K mg G) (Y:base.NoSeer/\P.given.tree=none):Ok P w K mg base 1 "checked_commas" ["commas"] (fi K):=by
 have S:=oz
 refine D.ok S (fun vs H Q E h=>?_) (fun f c7 A outer s H vs Q E hr h=>?_)
 ·obtain ⟨_,_,rfl,_⟩:=h;rfl
 ·obtain ⟨l,ys,rfl,hl,hn,k⟩:=h
  have hu:=bo hr
  have aB:=T.aB
  have aj:=T.aj
  refine⟨_,(ag (bB (ay gZ (ba (fF K rfl) rfl T.iL PySem.boot_len (aa (pv 0) af)) (kF (v:=V.int 6) rfl T.vh ⟨_,rfl⟩) (aH _)) (ao jN) aK) (ao (aG (pv 0)))),?_⟩
  walk_at "w"
  refine bH (by simp;lia) ?_
  walk_at "w"
  exact k
theorem vv:aF ["row"] ["row"] (aq i5):=⟨rfl,rfl,rfl,by decide +kernel,rfl,by decide +kernel,by decide +kernel⟩
theorem vw (D:Def K mg "lead_place" i5 ["row"]) (T:Txt K mg G) (Y:base.NoSeer/\P.given.tree=none):Ok P w K mg base 1 "lead_place" ["row"] (ip K):=by
 have S:=vv
 refine D.ok S (fun vs H Q E h=>?_) (fun f c7 A outer s H vs Q E hr h=>?_)
 ·obtain ⟨_,_,_,rfl,_⟩:=h;rfl
 ·obtain ⟨a,r,k,rfl,ha,hl,hk,kk⟩:=h
  have hu:=bo hr
  have aB:=T.aB
  have aj:=T.aj
  refine⟨_,(ao (aG (ba (iY K rfl rfl) rfl T.t5 boot_max (aa (bg (N:=["place","number"]) (ix:=[none,none]) rfl (nT K rfl true rfl T.hX (aa (pv 0) af)) (fun _ _ _ _ _=>(cw (n:=2) K rfl rfl (aJ (au (i:=0) (show eT ["place","number"] by decide +kernel) rfl (Or.inl rfl)) (aJ (au (i:=1) (show eT ["place","number"] by decide +kernel) rfl (Or.inl rfl)) cu)))) (fun _ _ _ _ _=>(ay we (pv 1) ae (aH _))) (fun _ _ _ _ _=>(pv 0)) rfl (by decide +kernel) (by decide +kernel) rfl True.intro) af)))),?_⟩
  have hkl:k<r.length:=by
   have:=hk.1
   by_cases h:k<r.length
   ·exact h
   ·rw [List.getD,getElem?_eq_none (by lia)] at this
    exact absurd this (by decide)
  walk_at "w"
  refine BY (r:=r) [] (fun i=>r.getD i 0 != 0) rfl ha hl (fun i H' Qt hi s kt=>?_) (fun i H' Qc s kc=>?_) (fun l H1 n1 s1 m1=>?_)
  ·walk_at "w"
   have e:(!decide (r.getD i 0=0))=(r.getD i 0 != 0):=by
    by_cases h:r.getD i 0=0
    ·rw [h];rfl
    ·rw [aaS h,bne_iff_ne.mpr h];rfl
   rw [e]
   exact kt
  ·walk_at "w"
   exact kc
  walk_at "w"
  have lW:(k:Int)∈((List.range r.length).filter fun i=>r.getD i 0 != 0).map fun (i:Nat)=>(i:Int):=by
   refine aba.mpr ⟨k,abb.mpr ⟨abj.mpr hkl,?_⟩,rfl⟩
   have:=hk.1
   exact bne_iff_ne.mpr (by lia)
  refine lY (aR.of m1) (fun z=>by rw [z] at lW;simp at lW) fun m hm hx=>?_
  have e:m=k:=by
   have h1:=hx _ lW
   obtain ⟨j,hj,rfl⟩:=aba.mp hm
   have h2:=(abb.mp hj).2
   by_cases c:k<j
   ·rw [hk.2 j c] at h2
    exact absurd h2 (by decide)
   ·lia
  rw [e]
  exact kk _ s1
theorem Ir:aF ["weights","row"] ["weights","row"] (aq xQ):=⟨rfl,rfl,rfl,by decide +kernel,rfl,by decide +kernel,by decide +kernel⟩
theorem Iu (D:Def K mg "heard" xQ ["weights","row"]) (T:Txt K mg G) (Y:base.NoSeer/\P.given.tree=none):Ok P w K mg base 1 "heard" ["weights","row"] (ox K):=by
 have S:=Ir
 refine D.ok S (fun vs H Q E h=>?_) (fun f c7 A outer s H vs Q E hr h=>?_)
 ·obtain ⟨_,_,_,_,_,rfl,_⟩:=h;rfl
 ·obtain ⟨w,r,kk,ws,rs,rfl,hw,Yb,hl,hn,hm,k⟩:=h
  have hu:=bo hr
  have aB:=T.aB
  have aj:=T.aj
  refine⟨_,(ao (aG (ba (G3 K rfl rfl) rfl T.Nc boot_sum (aa (bg (N:=["number","weight"]) (ix:=[none,none]) rfl (dR K rfl true kk rfl T.iM (aa (pv 1) (aa (pv 0) af))) (fun _ _ _ _ _=>(cw (n:=2) K rfl rfl (aJ (au (i:=0) (show eT ["number","weight"] by decide +kernel) rfl (Or.inl rfl)) (aJ (au (i:=1) (show eT ["number","weight"] by decide +kernel) rfl (Or.inl rfl)) cu)))) (fun _ _ _ _ _=>rfl) (fun _ _ _ _ _=>(ah Ku (pv 0) (pv 1))) rfl (by decide +kernel) (by decide +kernel) rfl True.intro) af)))),?_⟩
  walk_at "w"
  refine Lc (r:=rs) (q:=ws) rfl (ic Yb) hw hl hn hm fun l H1 FO s1 m1=>?_
  walk_at "w"
  refine MQ (aR.of m1) ?_
  exact k _ s1
theorem rC:aF ["keys","key"] ["keys"] (aq gC):=⟨rfl,rfl,rfl,by decide +kernel,rfl,by decide +kernel,by decide +kernel⟩
theorem rD (D:Def K mg "checked_keys" gC ["keys"]) (T:Txt K mg G) (Y:base.NoSeer/\P.given.tree=none):Ok P w K mg base 1 "checked_keys" ["keys"] (eQ K):=by
 have S:=rC
 refine D.ok S (fun vs H Q E h=>?_) (fun f c7 A outer s H vs Q E hr h=>?_)
 ·obtain ⟨_,_,_,rfl,_⟩:=h;rfl
 ·obtain ⟨l,xs,ks,rfl,hl,hk,h6,hg,k⟩:=h
  have hu:=bo hr
  have aB:=T.aB
  have aj:=T.aj
  refine⟨_,(ag (bB (ay gZ (ba (fF K rfl) rfl T.iL PySem.boot_len (aa (pv 0) af)) (kF (v:=V.int 6) rfl T.Aq ⟨_,rfl⟩) (aH _)) (ao jN) aK) (ag (dh PassesOwn.never rfl (aW K rfl (pv 0)) (au (i:=1) S.nd rfl (Or.inl rfl)) (ao (bB (PW.pt (zf (ay zi (aM (aD K rfl) (pv 1) ae (fun _ _=>rfl)) ae (aH _)) (sO (ay bM (aM (aD K rfl) (pv 1) ae (fun _ _=>rfl)) ae (aH _))))) (ao jN) aK))) (ao (aG (pv 0))))),?_⟩
  have lk:=hk.length
  walk_at "w"
  refine bH (by simp;lia) ?_
  walk_at "w"
  refine pF (xs:=xs) (fun i σ H2=>∃ o:Option V,σ=[some (.ref l),o]/\H2=H) ⟨_,rfl,rfl⟩ (fun i σ H2 hp=>by obtain ⟨o,rfl,rfl⟩:=hp;exact hl) (fun i x σ H2 hx hp=>?_) (fun σ H2 hp=>?_)
  ·obtain ⟨o,rfl,rfl⟩:=hp
   obtain ⟨a,w,kk,rfl,h1,h2,h3⟩:=hk.get hx
   have hm:=hg kk (aa4 h3)
   walk_at "w"
   refine bH (aaS (by lia)) ?_
   walk_at "w"
   refine bH (aaS (by lia)) ?_
   exact⟨_,rfl,rfl⟩
  obtain ⟨o,rfl,rfl⟩:=hp
  walk_at "w"
  exact k
theorem ug:aF ["_law_script","_law_k"] ["_law_script","_law_k"] (aq ik):=⟨rfl,rfl,rfl,by decide +kernel,rfl,by decide +kernel,by decide +kernel⟩
theorem uh (D:Def K mg "_law_cell_at" ik ["_law_script","_law_k"]) (T:Txt K mg G) (Y:base.NoSeer/\P.given.tree=none):Ok P w K mg base 1 "_law_cell_at" ["_law_script","_law_k"] (bI K):=by
 have S:=ug
 refine D.ok S (fun vs H Q E h=>?_) (fun f c7 A outer s H vs Q E hr h=>?_)
 ·obtain ⟨_,_,_,rfl,_⟩:=h;rfl
 ·obtain ⟨a,ns,k,rfl,hs,h0,hQ⟩:=h
  have hu:=bo hr
  have aB:=T.aB
  have aj:=T.aj
  refine⟨_,(ag (bB (ay zi (pv 1) (ba (fF K rfl) rfl T.iL PySem.boot_len (aa (pv 0) af)) (aH _)) (ao (aG (aM (aD K rfl) (pv 0) (pv 1) (fun _ _=>rfl)))) aK) (ao (aG ae))),?_⟩
  walk_at "w"
  refine aU (fun hc=>?_) (fun hc=>?_)
  ·have lV:k.toNat<ns.length:=by simp at hc;lia
   obtain ⟨j,rfl⟩:=Int.eq_ofNat_of_zero_le h0
   repeat walk_at "r"
   exact du hs (aS (int_at (by simpa using lV))) hQ
  ·have Ky:ns.length<=k.toNat:=by simp at hc;lia
   have e:ns.getD k.toNat 0=0:=by rw [List.getD,getElem?_eq_none Ky];rfl
   rw [e] at hQ
   walk_at "w"
   exact hQ
theorem vx:aF ["_law_top","_law_bottom","_law_one","_law_other_here"] ["_law_top","_law_bottom"] (aq i7):=⟨rfl,rfl,rfl,by decide +kernel,rfl,by decide +kernel,by decide +kernel⟩
theorem vy (D:Def K mg "_law_lowest" i7 ["_law_top","_law_bottom"]) (T:Txt K mg G) (Y:base.NoSeer/\P.given.tree=none):Ok P w K mg base 1 "_law_lowest" ["_law_top","_law_bottom"] (eL K):=by
 have S:=vx
 refine D.ok S (fun vs H Q E h=>?_) (fun f c7 A outer s H vs Q E hr h=>?_)
 ·obtain ⟨_,_,rfl,_⟩:=h;rfl
 ·obtain ⟨t,b,rfl,h0,h9,k⟩:=h
  have hu:=bo hr
  have aB:=T.aB
  have aj:=T.aj
  refine⟨_,(ag (aw (i:=2) S.nd rfl (Or.inl rfl) (pv 0)) (ag (aw (i:=3) S.nd rfl (Or.inl rfl) (pv 1)) (ag (zh PassesOwn.never (ay we (pv 3) ae (aH _)) (ao (ND (i:=2) (j:=3) rfl S.nd rfl rfl (by decide) rfl rfl (aa (pv 3) (aa (ah aC (pv 2) (pv 3)) af)) rfl))) (ao (aG (aQ (aa (ah zA (pv 0) (pv 2)) (aa (ah zA (pv 1) (pv 2)) af)))))))),?_⟩
  walk_at "w"
  have hg:0<Nat.gcd t b:=Nat.gcd_pos_of_pos_right _ h0
  have hl:=X5 hg (abd (Pz h0) h9)
  have hgi:(0:Int)<(Nat.gcd t b:Nat):=by lia
  refine join (fun σ' H'=>σ'=[some (.int t),some (.int b),some (.int (Nat.gcd t b:Nat)),some (.int 0)]/\H'=H) (fun nx eF=>?_) (fun σ' H' hP=>?_)
  ·refine Dw (fun m σ' H'=>∃ (f:Nat),σ'=[some (.int t),some (.int b),some (.int f),some (.int m)]/\H'=H/\Nat.gcd f m=Nat.gcd t b) b ⟨_,rfl,rfl,rfl⟩ (fun m σ' H' hw=>?_)
   obtain ⟨f,rfl,rfl,JB⟩:=hw
   walk_at "w"
   refine aU (fun hc=>?_) (fun hc=>?_)
   ·have hm:0<m:=by simp at hc;lia
    refine Tb ?_
    walk_at "w"
    refine⟨f % m,mod_lt _ hm,m,by rw [Int.natCast_emod] <;> rfl,rfl,?_⟩
    rw [zG]
    exact JB
   ·have hm:m=0:=by simp at hc;lia
    subst hm
    rw [Nat.gcd_zero_right] at JB
    subst JB
    exact eF _ _ ⟨rfl,rfl⟩
  obtain ⟨rfl,rfl⟩:=hP
  walk_at "w"
  rename_i p2 H2 s2 m2
  refine k _ _ s2 ?_
  rw [m2,Int.natCast_ediv,Int.natCast_ediv]
theorem x9:aF ["_law_cell","_law_k","_law_first"] ["_law_cell","_law_k"] (aq jX):=⟨rfl,rfl,rfl,by decide +kernel,rfl,by decide +kernel,by decide +kernel⟩
theorem yc (D:Def K mg "_law_mixed" jX ["_law_cell","_law_k"]) (T:Txt K mg G) (Y:base.NoSeer/\P.given.tree=none):Ok P w K mg base 1 "_law_mixed" ["_law_cell","_law_k"] (cA K):=by
 have S:=x9
 refine D.ok S (fun vs H Q E h=>?_) (fun f c7 A outer s H vs Q E hr h=>?_)
 ·obtain ⟨_,_,rfl,_⟩:=h;rfl
 ·obtain ⟨c,j,rfl,hj,k⟩:=h
  have hu:=bo hr
  have aB:=T.aB
  have aj:=T.aj
  refine⟨_,(ag (aw (i:=2) S.nd rfl (Or.inl rfl) (ah aC (ah cV (ah aC (ah aV (ah aV (ah cV (ah aC (pv 0) (ah Bj ae ae)) ae) (ah cV (ah cV (pv 1) (pv 1)) ae)) ae) ae) ae) ae)) (ao (aG (ah aC (ah aV (ah aV (ah cV (pv 2) (pv 2)) (ah cV ae (pv 2))) (pv 1)) ae)))),?_⟩
  walk_at "w"
  exact k _ (emod_nonneg _ (by decide)) (emod_lt_of_pos _ (by decide))
theorem rE:aF ["_law_mixed_here","_law_rows","_law_name","_law_row","_law_steps_here","_law_signs","_law_step","_law_share","_law_count","_law_octave"] ["_law_mixed_here"] (aq gD):=⟨rfl,rfl,rfl,by decide +kernel,rfl,by decide +kernel,by decide +kernel⟩
theorem rF (D:Def K mg "_law_name_row" gD ["_law_mixed_here"]) (T:Txt K mg G) (Y:base.NoSeer/\P.given.tree=none):Ok P w K mg base 1 "_law_name_row" ["_law_mixed_here"] (fW K):=by
 have S:=rE
 refine D.ok S (fun vs H Q E h=>?_) (fun f c7 A outer s H vs Q E hr h=>?_)
 ·obtain ⟨_,rfl,_⟩:=h;rfl
 ·obtain ⟨c,rfl,hc,k⟩:=h
  have hu:=bo hr
  have aB:=T.aB
  have aj:=T.aj
  refine⟨_,(@ag _ _ _ _ _ (bB (ay bM (ah aC (ah bx (pv 0) ae) ae) ae (aH _)) (ao (aG (aQ (aa jL (aa ib af))))) aK) (@ag _ _ _ _ _ (@aw _ _ 1 _ _ _ _ S.nd rfl (Or.inl rfl) (@bG _ _ _ _ (@aa _ _ _ _ _ (@aQ _ _ _ _ _ (aa ae (aa (fQ d6 ae) (aa ae (aa ae (aa ae af)))))) (@aa _ _ _ _ _ (@aQ _ _ _ _ _ (aa ae (aa ae (aa ae (aa ae (aa ae af)))))) (@aa _ _ _ _ _ (@aQ _ _ _ _ _ (aa (fQ d6 ae) (aa ae (aa ae (aa ae (aa ae af)))))) (@aa _ _ _ _ _ (@aQ _ _ _ _ _ (aa (fQ d6 ae) (aa ae (aa ae (aa ae (aa ae af)))))) (@aa _ _ _ _ _ (@aQ _ _ _ _ _ (aa (fQ d6 ae) (aa ae (aa ae (aa ae (aa ae af)))))) af (by rfl)) (by rfl)) (by rfl)) (by rfl)) (by rfl))) (by rfl) (by first|exact .inl rfl|exact .inr rfl|assumption)) (@ag _ _ _ _ _ (@aw _ _ 1 _ _ _ _ S.nd rfl (Or.inl rfl) (@ah _ _ _ _ _ _ _ _ fC (pv 1) (@bG _ _ _ _ (@aa _ _ _ _ _ (@aQ _ _ _ _ _ (aa (fQ d6 ae) (aa ae (aa ae (aa ae (aa ae af)))))) (@aa _ _ _ _ _ (@aQ _ _ _ _ _ (aa (fQ d6 ae) (aa ae (aa ae (aa ae (aa ae af)))))) af (by rfl)) (by rfl)))) (by rfl) (by first|exact .inl rfl|exact .inr rfl|assumption)) (@ag _ _ _ _ _ (aw (i:=2) S.nd rfl (Or.inl rfl) (aM xl jL (ah aC (pv 0) ae) (fun _ _=>rfl))) (@ag _ _ _ _ _ (aw (i:=3) S.nd rfl (Or.inl rfl) (aM (aD K rfl) (pv 1) (ah aC (pv 0) ae) (fun _ _=>rfl))) (@ag _ _ _ _ _ (@aw _ _ 4 _ _ _ _ S.nd rfl (Or.inl rfl) (@bG _ _ _ _ (@aa _ _ _ _ _ (@aQ _ _ _ _ _ (aa (fQ d6 ae) (aa ae (aa ae (aa ae (aa ae af)))))) (@aa _ _ _ _ _ (@aQ _ _ _ _ _ (aa (fQ d6 ae) (aa ae (aa (fQ d6 ae) (aa ae (aa ae af)))))) (@aa _ _ _ _ _ (@aQ _ _ _ _ _ (aa ae (aa (fQ d6 ae) (aa ae (aa (fQ d6 ae) (aa ae af)))))) (@aa _ _ _ _ _ (@aQ _ _ _ _ _ (aa (fQ d6 ae) (aa ae (aa ae (aa ae (aa ae af)))))) af (by rfl)) (by rfl)) (by rfl)) (by rfl))) (by rfl) (by first|exact .inl rfl|exact .inr rfl|assumption)) (ag (dh PassesOwn.never rfl (GV K rfl false false false rfl T.iM (@aa _ _ _ _ _ (bG (aa jL (aa jL (aa jL (aa jL af))))) (@aa _ _ _ _ _ (pv 4) (@aa _ _ _ _ _ (bG (aa ae (aa ae (aa ae (aa ae af))))) af (by rfl)) (by rfl)) (by rfl))) (cw (n:=3) K rfl rfl (aJ (au (i:=5) S.nd rfl (Or.inl rfl)) (aJ (au (i:=6) S.nd rfl (Or.inl rfl)) (aJ (au (i:=7) S.nd rfl (Or.inl rfl)) cu)))) (ag (aw (i:=8) S.nd rfl (Or.inr rfl) (ah bF (ah aC (ah bx (pv 0) (pv 7)) ae) ae)) (ag (aw (i:=2) S.nd rfl (Or.inl rfl) (ah r6 (ah r6 (pv 2) (ah DF (aM xl (pv 5) ae (fun _ _=>rfl)) (pv 8))) (ah DF (aM xl (pv 5) ae (fun _ _=>rfl)) (ah bF ae (pv 8))))) (ao (aw (i:=3) S.nd rfl (Or.inl rfl) (bu (cH K rfl) rfl T.da boot_tuple (aa (bg (N:=["_law_x","_law_y","_law_count"]) (ix:=[none,none,some 8]) rfl (dR K rfl true true rfl T.iM (aa (pv 3) (aa (pv 6) af))) (fun _ _ _ _ _=>(cw (n:=2) K rfl rfl (aJ (au (i:=0) (show eT ["_law_x","_law_y","_law_count"] by decide +kernel) rfl (Or.inl rfl)) (aJ (au (i:=1) (show eT ["_law_x","_law_y","_law_count"] by decide +kernel) rfl (Or.inl rfl)) cu)))) (fun _ _ _ _ _=>rfl) (fun _ _ _ _ _=>(ah aV (pv 0) (ah cV (pv 2) (pv 1)))) rfl (by decide +kernel) (by decide +kernel) rfl ⟨⟨rfl,Or.inr (Or.inl rfl),rfl,rfl⟩,True.intro⟩) af))))))) (ag (aw (i:=9) S.nd rfl (Or.inl rfl) (ah bF (ah aC (ah bx (pv 0) ae) ae) ae)) (ao (aG (aQ (aa (ah r6 (ah r6 (pv 2) jL) (bu ED rfl T.Ub boot_str (aa (pv 9) af))) (aa (ah (nR K rfl) (aQ (aa (ah aV (aM (aD K rfl) (pv 3) ae (fun _ _=>rfl)) (pv 9)) af)) (gp (KP K rfl) (pv 3) (iS ae) iR)) af))))))))))))),?_⟩
  walk_at "w"
  refine aU (fun h1=>?_) (fun h1=>?_)
  ·walk_at "w"
   rename_i p1 H1 s1 m1
   exact k p1 H1 _ _ none s1 m1 rfl trivial
  ·obtain ⟨j,hj⟩:∃ j:Nat,c % 7=(j:Int):=⟨(c % 7).toNat,by lia⟩
   have hj7:j<7:=by lia
   walk_at "w"
   rw [hj]
   obtain ⟨L,hL⟩:∃ L,([70,67,71,68,65,69,66]:List Nat)[j]?=some L:=⟨_,aaZ (by simpa using hj7)⟩
   refine Hq (c:=L) (dS (by decide +kernel)) (aS (by rw [show (PySem.Str.ofString "FCGDAEB").cps.toList=[70,67,71,68,65,69,66] by decide];exact hL)) ?_
   walk_at "w"
   rename_i p0 H0 s0 m0 p1 H1 s1 m1 p2 H2 s2 m2 p3 H3 s3 m3 p4 H4 s4 m4 pa Ha na sa ma p5 H5 s5 m5 p6 H6 s6 m6 pb Hb nb sb mb pc Hc nc sc mc
   have e6:=sc _ _ (sb _ _ m6)
   have e5:=sc _ _ (sb _ _ (s6 _ _ m5))
   have sA:ai Ha Hc:=((s5.trans s6).trans sb).trans sc
   have sT:ai H Hc:=(((((s0.trans s1).trans s2).trans s3).trans s4).trans sa).trans sA
   have e4:=sA _ _ (sa _ _ m4)
   have e3:=sA _ _ (sa _ _ (s4 _ _ m3))
   have e2:=sA _ _ (sa _ _ (s4 _ _ (s3 _ _ m2)))
   have e1:=sA _ _ (sa _ _ (s4 _ _ (s3 _ _ (s2 _ _ m1))))
   have e0:=sA _ _ (sa _ _ (s4 _ _ (s3 _ _ (s2 _ _ (s1 _ _ m0)))))
   obtain ⟨q,r0,r1,hq,Uh,hLg,hrg,Rb,hr0b⟩:∃ (q:Addr) (r0 r1:Int),Dh ([V.ref p0,V.ref p1,V.ref p2,V.ref p3,V.ref p4]++[V.ref p5,V.ref p6]) (j:Int)=some (.ref q)/\Hc q=some (.tup [.int r0,.int r1,.int 0,.int 0,.int 0])/\([70,67,71,68,65,69,66]:List Nat).getD j 0=L/\([2,0,-1,-3,-4,-6,-7]:List Int).getD j 0=r0/\r1+1=(j:Int)/\(-7<=r0/\r0<=2):=by
    match j,hj7 with
    | 0,_=>cases hL;exact⟨_,_,_,rfl,e0,rfl,rfl,rfl,by decide⟩
    | 1,_=>cases hL;exact⟨_,_,_,rfl,e1,rfl,rfl,rfl,by decide⟩
    | 2,_=>cases hL;exact⟨_,_,_,rfl,e2,rfl,rfl,rfl,by decide⟩
    | 3,_=>cases hL;exact⟨_,_,_,rfl,e3,rfl,rfl,rfl,by decide⟩
    | 4,_=>cases hL;exact⟨_,_,_,rfl,e4,rfl,rfl,rfl,by decide⟩
    | 5,_=>cases hL;exact⟨_,_,_,rfl,e5,rfl,rfl,rfl,by decide⟩
    | 6,_=>cases hL;exact⟨_,_,_,rfl,e6,rfl,rfl,rfl,by decide⟩
   rw [hj]
   refine du (aR.of mc) hq ?_
   clear e0 e1 e2 e3 e4 e5 e6 m0 m1 m2 m3 m4 ma m5 m6 mb s0 s1 s2 s3 s4 sa s5 s6 sb sc sA na nb nc hq
   walk_at "w"
   rename_i t0 T0 y0 v0 t1 T1 y1 v1 t2 T2 y2 v2 t3 T3 y3 v3 ls Ts ns ys vs lg Tg ng yg vg li Ti ni yi vi
   obtain ⟨cf,hcf⟩:∃ cf:Nat->Int,cf=fun i=>c / ([7,21,63,189]:List Int).getD i 1 % 3 - 1:=⟨_,rfl⟩
   have JI:∀ i,i<4->-1<=cf i/\cf i<=1:=by
    intro i hi
    rw [hcf]
    show -1<=c / _ % 3 - 1/\c / _ % 3 - 1<=1
    lia
   have sH:ai Hc Ti:=(((((y0.trans y1).trans y2).trans y3).trans ys).trans yg).trans yi
   have w3:=yi _ _ (yg _ _ (ys _ _ v3))
   have w2:=yi _ _ (yg _ _ (ys _ _ (y3 _ _ v2)))
   have w1:=yi _ _ (yg _ _ (ys _ _ (y3 _ _ (y2 _ _ v1))))
   have w0:=yi _ _ (yg _ _ (ys _ _ (y3 _ _ (y2 _ _ (y1 _ _ v0)))))
   have wg:=yi _ _ vg
   have ws:=yi _ _ (yg _ _ vs)
   have wq:=sH _ _ Uh
   clear y0 y1 y2 y3 ys yg yi v0 v1 v2 v3 vg vs Uh ns ng ni
   refine Lk (K:=K) (k1:=false) (k2:=false) (k3:=false) (xs:=[V.str (PySem.Str.ofString "#b"),V.str (PySem.Str.ofString "+-"),V.str (PySem.Str.ofString "><"),V.str (PySem.Str.ofString "^v")]) (ys:=[V.ref t0,V.ref t1,V.ref t2,V.ref t3]) (zs:=[V.int 7,V.int 21,V.int 63,V.int 189]) rfl rfl (fun i σ Hn=>∃ (o5 o6 o7 o8:Option V) (p:Addr) (T':PySem.Str),σ=[some (.int c),some (.ref pc),some (.str T'),some (.ref p),some (.ref ls),o5,o6,o7,o8,none]/\ai Ti Hn/\Hn p=some (.tup [.int (sx r0 cf [-11,-4,6,-5] (i)),.int (sx r1 cf [7,4,-2,1] (i)),.int (sx 0 cf [0,-1,0,0] (i)),.int (sx 0 cf [0,0,-1,0] (i)),.int (sx 0 cf [0,0,0,1] (i))])/\T'.cps.toList=L::([qP.seg 35 98 (cf 0),qP.seg 43 45 (cf 1),qP.seg 62 60 (cf 2),qP.seg 94 118 (cf 3)].take i).flatten/\T'.length<=1+2*i) ⟨_,_,_,_,q,_,rfl,ai.refl _,wq,rfl,aaM _⟩ (fun i σ Hn hp=>by obtain ⟨_,_,_,_,_,_,rfl,sn,_⟩:=hp;exact⟨cX (aR.of (sn _ _ wg)),cX (aR.of (sn _ _ ws)),cX (aR.of (sn _ _ vi))⟩) (fun i x y z σ Hn Hm hx hy hz hp sm=>?_) (fun σ Hn hp=>?_)
   ·obtain ⟨o5,o6,o7,o8,p,T',rfl,sn,mp,hT,lT⟩:=hp
    have hi:i<4:=(aaI.mp hx).1
    obtain ⟨S',c1,d1,tA,x0,x1,x2,x3,x4,sh,rfl,rfl,rfl,hS,htA,hx0,Cj,Ck,VN,hx4,Vr,hsh0,hsg,hxb⟩:∃ (S':PySem.Str) (c1 d1:Nat) (tA:Addr) (x0 x1 x2 x3 x4 sh:Int),x=.str S'/\y=.ref tA/\z=.int sh/\S'.cps.toList=[c1,d1]/\Ti tA=some (.tup [.int x0,.int x1,.int x2,.int x3,.int x4])/\x0=([-11,-4,6,-5]:List Int).getD i 0/\x1=([7,4,-2,1]:List Int).getD i 0/\x2=([0,-1,0,0]:List Int).getD i 0/\x3=([0,0,-1,0]:List Int).getD i 0/\x4=([0,0,0,1]:List Int).getD i 0/\c / sh % 3 - 1=cf i/\(0<sh/\sh<=200)/\[qP.seg 35 98 (cf 0),qP.seg 43 45 (cf 1),qP.seg 62 60 (cf 2),qP.seg 94 118 (cf 3)][i]?=some (qP.seg c1 d1 (cf i))/\(∀ v∈[x0,x1,x2,x3,x4],-1000<=v/\v<=1000):=by
     rw [hcf]
     match i,hi with
     | 0,_=>cases hx;cases hy;cases hz;exact⟨_,35,98,t0,_,_,_,_,_,7,rfl,rfl,rfl,by decide,w0,rfl,rfl,rfl,rfl,rfl,rfl,by decide,rfl,by decide⟩
     | 1,_=>cases hx;cases hy;cases hz;exact⟨_,43,45,t1,_,_,_,_,_,21,rfl,rfl,rfl,by decide,w1,rfl,rfl,rfl,rfl,rfl,rfl,by decide,rfl,by decide⟩
     | 2,_=>cases hx;cases hy;cases hz;exact⟨_,62,60,t2,_,_,_,_,_,63,rfl,rfl,rfl,by decide,w2,rfl,rfl,rfl,rfl,rfl,rfl,by decide,rfl,by decide⟩
     | 3,_=>cases hx;cases hy;cases hz;exact⟨_,94,118,t3,_,_,_,_,_,189,rfl,rfl,rfl,by decide,w3,rfl,rfl,rfl,rfl,rfl,rfl,by decide,rfl,by decide⟩
    have lS:S'.length=2:=by show S'.cps.size=2;rw [<- Array.length_toList,hS];rfl
    have kb:=JI i hi
    obtain ⟨kk,hkk⟩:∃ kk,cf i=kk:=⟨_,rfl⟩
    rw [hkk] at Vr hsg kb
    have E1:=aN.of (K:=K) (sm _ _ mp)
    have hb1:=aN.of (K:=K) ((sn.trans sm) _ _ htA)
    clear w0 w1 w2 w3 wg ws wq htA mp vi mc
    walk_at "w"
    rw [Vr]
    refine Hq (c:=c1) (dS (by lia)) (aS (j:=0) (by rw [hS];rfl)) ?_
    walk_at "w"
    refine Hs (by lia) ?_
    have q1:(Ac c1 kk.toNat).length=kk.toNat:=Array.size_replicate
    have q2:(Ac d1 (0 - kk).toNat).length=(0 - kk).toNat:=Array.size_replicate
    walk_at "w"
    refine Hq (c:=d1) (dS (by lia)) (aS (j:=1) (by rw [hS];rfl)) ?_
    walk_at "w"
    refine Hs (by lia) ?_
    refine xJ (dS (by rw [PySem.strLen_append];lia)) ?_
    walk_at "w"
    obtain ⟨a0,ea0⟩:∃ a,sx r0 cf [-11,-4,6,-5] i=a:=⟨_,rfl⟩
    obtain ⟨a1,ea1⟩:∃ a,sx r1 cf [7,4,-2,1] i=a:=⟨_,rfl⟩
    obtain ⟨a2,ea2⟩:∃ a,sx 0 cf [0,-1,0,0] i=a:=⟨_,rfl⟩
    obtain ⟨a3,ea3⟩:∃ a,sx 0 cf [0,0,-1,0] i=a:=⟨_,rfl⟩
    obtain ⟨a4,ea4⟩:∃ a,sx 0 cf [0,0,0,1] i=a:=⟨_,rfl⟩
    rw [ea0,ea1,ea2,ea3,ea4] at E1
    refine fR (k1:=true) (k2:=true) [some (.int kk)] (fun n=>.int (([a0,a1,a2,a3,a4]:List Int).getD n 0+kk*([x0,x1,x2,x3,x4]:List Int).getD n 0)) rfl (ic E1) (ic hb1) rfl (by show 5<=1000000;decide) (fun n x y H' Qc hx hy s kc=>?_) (fun l1 H1 FO s1 m1'=>?_)
    ·obtain ⟨rfl,_⟩:=cb (r:=[a0,a1,a2,a3,a4]) hx
     obtain ⟨rfl,hn⟩:=cb (r:=[x0,x1,x2,x3,x4]) hy
     have lW:([x0,x1,x2,x3,x4]:List Int).getD n 0∈[x0,x1,x2,x3,x4]:=by rw [List.getD,aaZ hn];exact abA _
     walk_at "w"
     exact kc _ (ai.refl _)
    walk_at "w"
    rename_i p9 H9 s9 m9
    refine⟨_,_,_,_,p9,_,rfl,((sn.trans sm).trans s1).trans s9,?_,?_,?_⟩
    ·rw [m9]
     unfold sx
     rw [ea0,ea1,ea2,ea3,ea4,hkk,<- hx0,<- Cj,<- Ck,<- VN,<- hx4]
     rfl
    ·rw [qP.app_list,qP.app_list,hT,List.take_succ,hsg]
     simp [qP.seg,Ac,append_assoc]
    ·rw [PySem.strLen_append,PySem.strLen_append,q1,q2];lia
   ·obtain ⟨o5,o6,o7,o8,p,T',rfl,sn,mp,hT,lT⟩:=hp
    have lT':T'.length<=1+2*4:=lT
    have c0:=JI 0 (by decide)
    have c1:=JI 1 (by decide)
    have c2:=JI 2 (by decide)
    have c3:=JI 3 (by decide)
    obtain ⟨k0,Yc⟩:∃ a,cf 0=a:=⟨_,rfl⟩
    obtain ⟨k1,Yd⟩:∃ a,cf 1=a:=⟨_,rfl⟩
    obtain ⟨k2,Ye⟩:∃ a,cf 2=a:=⟨_,rfl⟩
    obtain ⟨k3,Yf⟩:∃ a,cf 3=a:=⟨_,rfl⟩
    rw [Yc] at c0;rw [Yd] at c1;rw [Ye] at c2;rw [Yf] at c3
    have Ui:Hn p=some (.tup [.int (r0+k0*-11+k1*-4+k2*6+k3*-5),.int (r1+k0*7+k1*4+k2*-2+k3*1),.int (0+k0*0+k1*-1+k2*0+k3*0),.int (0+k0*0+k1*0+k2*-1+k3*0),.int (0+k0*0+k1*0+k2*0+k3*1)]):=by rw [mp,<- Yc,<- Yd,<- Ye,<- Yf];rfl
    have VO:=aN.of (K:=K) Ui
    clear mp Ui w0 w1 w2 w3 wg ws wq vi mc
    walk_at "w"
    obtain ⟨o,ho⟩:∃ o,c / 567 % 9 - 4=o:=⟨_,rfl⟩
    have Pn:-4<=o/\o<=4:=by lia
    have hoo:=qP.Ou (o:=o) (by lia) (by lia)
    rw [ho]
    refine xJ (dS (show T'.length+1<=2000 by lia)) ?_
    walk_at "w"
    refine Pk (rn.Ot (abd (show o.natAbs<=9999 by lia) (by decide +kernel))) ?_
    walk_at "w"
    refine xJ (dS (by rw [PySem.strLen_append];show T'.length+1+_<=2000;lia)) ?_
    have e46:(PySem.Str.ofString ".").cps.toList=[46]:=by decide
    have hZ:(T'++PySem.Str.ofString "."++PySem.Str.ofString (toString o)).cps.toList=L::(qP.seg 35 98 k0++(qP.seg 43 45 k1++(qP.seg 62 60 k2++(qP.seg 94 118 k3++(46::(PySem.Str.ofString (toString o)).cps.toList))))):=by
     rw [qP.app_list,qP.app_list,hT,e46,Yc,Yd,Ye,Yf]
     simp [append_assoc]
    generalize T'++PySem.Str.ofString "."++PySem.Str.ofString (toString o)=Z at hZ ⊢
    walk_at "w"
    rename_i pu Hu su mu pw Hw sw mw px Hx sX mx pz Hz sz mz
    obtain ⟨u0,Yg⟩:∃ t,r0+k0*-11+k1*-4+k2*6+k3*-5+o=t:=⟨_,rfl⟩
    obtain ⟨u1,hu1⟩:∃ t,r1+k0*7+k1*4+k2*-2+k3*1=t:=⟨_,rfl⟩
    obtain ⟨u2,hu2⟩:∃ t,0+k0*0+k1*-1+k2*0+k3*0=t:=⟨_,rfl⟩
    obtain ⟨u3,hu3⟩:∃ t,0+k0*0+k1*0+k2*-1+k3*0=t:=⟨_,rfl⟩
    obtain ⟨u4,hu4⟩:∃ t,0+k0*0+k1*0+k2*0+k3*1=t:=⟨_,rfl⟩
    rw [Yg,hu1,hu2,hu3,hu4] at mx
    exact k pz Hz Z (.ref px) (some (.row [u0,u1,u2,u3,u4])) (sT.trans (sH.trans (sn.trans (su.trans (sw.trans (sX.trans sz)))))) mz ⟨px,rfl,sz.at (aN.of mx),by show 5<=100;decide⟩ ⟨u0,u1,u2,u3,u4,rfl,by lia,by lia,by lia,by lia,by lia⟩
theorem AB:aF ["_law_steps_here","_law_row","_law_found","_law_step","_law_place","_law_by"] ["_law_steps_here","_law_row"] (aq ml):=⟨rfl,rfl,rfl,by decide +kernel,rfl,by decide +kernel,by decide +kernel⟩
theorem AD (D:Def K mg "_law_rest" ml ["_law_steps_here","_law_row"]) (T:Txt K mg G) (Y:base.NoSeer/\P.given.tree=none):Ok P w K mg base 1 "_law_rest" ["_law_steps_here","_law_row"] (j9 K):=by
 have S:=AB
 refine D.ok S (fun vs H Q E h=>?_) (fun f c7 A outer s H vs Q E hr h=>?_)
 ·obtain ⟨_,_,_,_,_,rfl,_⟩:=h;rfl
 ·obtain ⟨l,a,ys,rs,r,rfl,hl,hR,Iv,ha,lr,hb,k⟩:=h
  have hu:=bo hr
  have aB:=T.aB
  have aj:=T.aj
  refine⟨_,(ag (aw (i:=2) S.nd rfl (Or.inl rfl) (bu (nQ K rfl) rfl T.pR PyProof.Rows.boot_list (aa (pv 1) af))) (ag (dh PassesOwn.never rfl (aW K rfl (pv 0)) (au (i:=3) S.nd rfl (Or.inr rfl)) (ag (aw (i:=4) S.nd rfl (Or.inl rfl) (ba (iY K rfl rfl) rfl T.t5 boot_max (aa (bg (N:=["_law_k","_law_step"]) (ix:=[none,some 3]) rfl (cR rfl T.dJ (aa ae af)) (fun _ _ _ _ _=>(au (i:=0) (show eT ["_law_k","_law_step"] by decide +kernel) rfl (Or.inl rfl))) (fun _ _ _ _ _=>(ay we (aM (aD K rfl) (pv 1) (pv 0) (fun _ _=>rfl)) ae (aH _))) (fun _ _ _ _ _=>(pv 0)) rfl (by decide +kernel) (by decide +kernel) rfl ⟨⟨rfl,Or.inr (Or.inl rfl),rfl,rfl⟩,True.intro⟩) af))) (ag (aw (i:=5) S.nd rfl (Or.inr rfl) (ah bx (aM (aD K rfl) (pv 2) (pv 4) (fun _ _=>rfl)) (aM (aD K rfl) (pv 3) (pv 4) (fun _ _=>rfl)))) (ao (dF (k:=2) (N:=["_law_x","_law_y","_law_by"]) (ix:=[none,none,some 5]) S.nd rfl (Or.inl rfl) rfl (dR K rfl false false rfl T.iM (aa (pv 2) (aa (pv 3) af))) (fun _ _ _ _ _=>(cw (n:=2) K rfl rfl (aJ (au (i:=0) (show eT ["_law_x","_law_y","_law_by"] by decide +kernel) rfl (Or.inl rfl)) (aJ (au (i:=1) (show eT ["_law_x","_law_y","_law_by"] by decide +kernel) rfl (Or.inl rfl)) cu)))) (fun _ _ _ _ _=>rfl) (fun _ _ _ _ _=>(ah bF (pv 0) (ah cV (pv 2) (pv 1)))) rfl (by decide +kernel) (by decide +kernel) rfl ⟨⟨rfl,Or.inr (Or.inl rfl),rfl,rfl⟩,True.intro⟩))))) (ao (aG (bu (cH K rfl) rfl T.da boot_tuple (aa (pv 2) af)))))),?_⟩
  have lR:=hR.length
  have h3:=Iv.cnt
  walk_at "w"
  rename_i p1 H1 n1 s1 m1
  refine pF (xs:=ys) (fun i σ Hn=>∃ (o1 o2 o3:Option V) (fd:Addr) (v:List Int),σ=[some (.ref l),some (.ref a),some (.ref fd),o1,o2,o3]/\ai H Hn/\Hn fd=some (.lst (v.map V.int))/\RB rs i r v/\∀ x∈v,-(1000*4 ^ i)<=x/\x<=1000*4 ^ i) ⟨_,_,_,p1,r,rfl,s1,m1,⟨lr,by rw [iI lr];exact Span.zero,fun j s k hj=>by lia⟩,fun x hx=>by have:=hb x hx;lia⟩ (fun i σ Hn hp=>by obtain ⟨_,_,_,_,_,rfl,sn,_⟩:=hp;exact aR.of (sn _ _ hl)) (fun i x σ Hn hx hp=>?_) (fun σ Hn hp=>?_)
  ·obtain ⟨o1,o2,o3,fd,v,rfl,sn,mf,JJ,JK⟩:=hp
   have hi:i<ys.length:=(aaI.mp hx).1
   obtain ⟨as,s,rfl,hs,LL⟩:=(hR.same sn).get hx
   have y8:=aa4 LL
   obtain ⟨kk,hk⟩:=Iv.VI.1 s y8
   have ls:=Iv.len s y8
   have hk5:kk<5:=Ee ls hk
   have lv:=JJ.1
   have FR:=Iv.sm s y8
   walk_at "w"
   refine tJ [some (.ref as)] (fun i=>s.getD i 0 != 0) rfl (by decide) (fun i' H' Qc BO s' kc=>?_) (fun i' H' Qc BO s' kc=>?_) (fun l2 H2 n2 s2 m2=>?_)
   ·walk_at "v"
    refine du (aR.of (s' _ _ hs)) (aS (int_at (by rw [ls];exact BO))) ?_
    walk_at "w"
    have e:(!decide (s.getD i' 0=0))=(s.getD i' 0 != 0):=by
     by_cases h:s.getD i' 0=0
     ·rw [h];rfl
     ·rw [aaS h,bne_iff_ne.mpr h];rfl
    rw [e]
    exact kc _ (ai.refl _)
   ·walk_at "w"
    exact kc _ (ai.refl _)
   have Nf:H2 l2=some (.lst ((((List.range 5).filter fun i=>s.getD i 0 != 0).map fun (i:Nat)=>(i:Int)).map V.int)):=by rw [abp];exact m2
   have lW:(kk:Int)∈((List.range 5).filter fun i=>s.getD i 0 != 0).map fun (i:Nat)=>(i:Int):=by
    refine aba.mpr ⟨kk,abb.mpr ⟨abj.mpr hk5,?_⟩,rfl⟩
    have:=hk.1
    exact bne_iff_ne.mpr (by lia)
   walk_at "w"
   refine lY (aR.of Nf) (fun z=>by rw [z] at lW;simp at lW) fun mx hm lP=>?_
   have e:mx=kk:=by
    have h1:=lP _ lW
    obtain ⟨j,hj,rfl⟩:=aba.mp hm
    have h2:=(abb.mp hj).2
    by_cases c:kk<j
    ·rw [hk.2 j c] at h2
     exact absurd h2 (by decide)
    ·lia
   rw [e]
   have mf2:=s2 _ _ mf
   have fu:=s2 _ _ hs
   have pp:(4:Int) ^ (i+1)=4*4 ^ i:=by rw [Int.pow_succ,Int.mul_comm]
   have p4:(4:Int) ^ i<=4 ^ 4/\0<(4:Int) ^ i:=by
    rcases (show i=0\/i=1\/i=2\/i=3\/i=4 by lia) with rfl|rfl|rfl|rfl|rfl <;> decide
   obtain ⟨B,hB⟩:∃ B:Int,1000*4 ^ i=B:=⟨_,rfl⟩
   rw [hB] at JK
   have hB0:0<=B/\B<=256000:=by lia
   obtain ⟨vk,Yh⟩:∃ z,v.getD kk 0=z:=⟨_,rfl⟩
   obtain ⟨sk,VP⟩:∃ z,s.getD kk 0=z:=⟨_,rfl⟩
   have hskp:0<sk:=by rw [<- VP];exact hk.1
   have hvkb:-B<=vk/\vk<=B:=by
    rw [<- Yh]
    exact JK _ (by rw [List.getD,aaZ (show kk<v.length by lia)];exact abA _)
   have hskb:sk<=3:=by
    rw [<- VP]
    exact (FR _ (by rw [List.getD,aaZ (show kk<s.length by lia)];exact abA _)).2
   walk_at "w"
   refine du (aR.of mf2) (aS (int_at (by lia))) ?_
   walk_at "w"
   refine du (aR.of fu) (aS (int_at (by lia))) ?_
   rw [Yh,VP]
   have hqb:-B<=vk / sk/\vk / sk<=B:=by
    rcases (show sk=1\/sk=2\/sk=3 by lia) with rfl|rfl|rfl <;> lia
   have lO:=JJ.step Iv lr LL hk
   rw [Yh,VP,<- Lv _ lv ls] at lO
   walk_at "w"
   obtain ⟨qq,hqq⟩:∃ z,vk / sk=z:=⟨_,rfl⟩
   rw [hqq] at lO hqb ⊢
   obtain ⟨v0,v1,v2,v3,v4,rfl⟩:=cJ lv
   obtain ⟨w0,w1,w2,w3,w4,rfl⟩:=cJ ls
   refine fR (k1:=false) (k2:=false) [some (.int qq)] (fun n=>.int (([v0,v1,v2,v3,v4]:List Int).getD n 0 - qq*([w0,w1,w2,w3,w4]:List Int).getD n 0)) rfl (cX (aR.of mf2)) (cX (aR.of fu)) rfl (by show 5<=1000000;decide) (fun n x y H' Qc hx hy s kc=>?_) (fun l3 H3 n3 s3 m3=>?_)
   ·obtain ⟨rfl,_⟩:=cb (r:=[v0,v1,v2,v3,v4]) hx
    obtain ⟨rfl,hn⟩:=cb (r:=[w0,w1,w2,w3,w4]) hy
    have Ng:=FR (([w0,w1,w2,w3,w4]:List Int).getD n 0) (by rw [List.getD,aaZ hn];exact abA _)
    walk_at "w"
    exact kc _ (ai.refl _)
   walk_at "w"
   refine⟨_,_,_,l3,List.zipWith (fun x y=>x - qq*y) [v0,v1,v2,v3,v4] [w0,w1,w2,w3,w4],rfl,(sn.trans s2).trans s3,m3,lO,fun x Ck=>?_⟩
   have hm:x∈[v0 - qq*w0,v1 - qq*w1,v2 - qq*w2,v3 - qq*w3,v4 - qq*w4]:=Ck
   have fin:∀ a b,a∈[v0,v1,v2,v3,v4]->b∈[w0,w1,w2,w3,w4]->-(1000*4 ^ (i+1))<=a - qq*b/\a - qq*b<=1000*4 ^ (i+1):=fun a b Yi VQ=>by
    have z1:=JK a Yi
    have z2:=T6 hqb (FR b VQ)
    rw [pp]
    lia
   simp only [aa9,not_mem_nil,or_false] at hm
   rcases hm with rfl|rfl|rfl|rfl|rfl <;> exact fin _ _ (by simp) (by simp)
  ·obtain ⟨o1,o2,o3,fd,v,rfl,sn,mf,JJ,JK⟩:=hp
   rw [<- lR] at JJ
   walk_at "w"
   rename_i p5 H5 s5 m5
   exact k p5 H5 v (sn.trans s5) m5 JJ
theorem yd:aF ["_law_w","_law_ring","_law_row","_law_total"] ["_law_w","_law_ring","_law_row"] (aq jZ):=⟨rfl,rfl,rfl,by decide +kernel,rfl,by decide +kernel,by decide +kernel⟩
theorem ye (D:Def K mg "_law_value" jZ ["_law_w","_law_ring","_law_row"]) (T:Txt K mg G) (Y:base.NoSeer/\P.given.tree=none):Ok P w K mg base 1 "_law_value" ["_law_w","_law_ring","_law_row"] (jk K):=by
 have S:=yd
 refine D.ok S (fun vs H Q E h=>?_) (fun f c7 A outer s H vs Q E hr h=>?_)
 ·obtain ⟨_,_,_,_,_,rfl,_⟩:=h;rfl
 ·obtain ⟨w,a,m,ws,row,rfl,hw,ha,lw,Uj,hm,Ng,k⟩:=h
  have hu:=bo hr
  have aB:=T.aB
  have aj:=T.aj
  refine⟨_,(ag (aw (i:=3) S.nd rfl (Or.inl rfl) (ba (G3 K rfl rfl) rfl T.Nc boot_sum (aa (bg (N:=["_law_x","_law_y"]) (ix:=[none,none]) rfl (dR K rfl true true rfl T.iM (aa (pv 0) (aa (pv 2) af))) (fun _ _ _ _ _=>(cw (n:=2) K rfl rfl (aJ (au (i:=0) (show eT ["_law_x","_law_y"] by decide +kernel) rfl (Or.inl rfl)) (aJ (au (i:=1) (show eT ["_law_x","_law_y"] by decide +kernel) rfl (Or.inl rfl)) cu)))) (fun _ _ _ _ _=>rfl) (fun _ _ _ _ _=>(ah cV (pv 0) (pv 1))) rfl (by decide +kernel) (by decide +kernel) rfl True.intro) af))) (ag (bB (ay bM (pv 1) ae (aH _)) (ao (aG (pv 3))) aK) (ao (aG (ah aC (pv 3) (pv 1)))))),?_⟩
  obtain ⟨w0,w1,w2,w3,w4,rfl⟩:=cJ lw
  obtain ⟨r0,r1,r2,r3,r4,rfl⟩:=cJ Uj
  walk_at "w"
  refine fR (k1:=true) (k2:=true) [] (fun n=>.int (([w0,w1,w2,w3,w4]:List Int).getD n 0*([r0,r1,r2,r3,r4]:List Int).getD n 0)) rfl (ic hw) (ic ha) rfl (by show 5<=1000000;decide) (fun n x y H' Qc hx hy s kc=>?_) (fun l3 H3 n3 s3 m3=>?_)
  ·obtain ⟨rfl,hn⟩:=cb (r:=[w0,w1,w2,w3,w4]) hx
   obtain ⟨rfl,_⟩:=cb (r:=[r0,r1,r2,r3,r4]) hy
   have lW:=Ng (([w0,w1,w2,w3,w4]:List Int).getD n 0) (by rw [List.getD,aaZ hn];exact abA _)
   walk_at "w"
   exact kc _ (ai.refl _)
  have m3':H3 l3=some (.lst ([w0*r0,w1*r1,w2*r2,w3*r3,w4*r4].map V.int)):=m3
  have ed:[w0*r0,w1*r1,w2*r2,w3*r3,w4*r4].sum=dot [r0,r1,r2,r3,r4] [w0,w1,w2,w3,w4]:=by
   show w0*r0+(w1*r1+(w2*r2+(w3*r3+(w4*r4+0))))=r0*w0+(r1*w1+(r2*w2+(r3*w3+(r4*w4+0))))
   rw [Int.mul_comm w0,Int.mul_comm w1,Int.mul_comm w2,Int.mul_comm w3,Int.mul_comm w4]
  walk_at "w"
  refine MQ (aR.of m3') ?_
  rw [ed]
  walk_at "w"
  refine aU (fun h4=>?_) (fun h4=>?_)
  ·have VR:m=0:=by simpa using h4
   have e:val [w0,w1,w2,w3,w4] m [r0,r1,r2,r3,r4]=dot [r0,r1,r2,r3,r4] [w0,w1,w2,w3,w4]:=by unfold val;rw [if_pos VR]
   rw [e] at k
   walk_at "w"
   exact k _ s3
  ·have VR:m≠0:=by simpa using h4
   have e:val [w0,w1,w2,w3,w4] m [r0,r1,r2,r3,r4]=dot [r0,r1,r2,r3,r4] [w0,w1,w2,w3,w4] % m:=by unfold val;rw [if_neg VR]
   rw [e] at k
   have G8:0<m:=by lia
   walk_at "w"
   exact k _ s3
theorem vz:aF ["_law_cell","_law_base","_law_many","_law_found","_law_k"] ["_law_cell","_law_base","_law_many"] (aq jd):=⟨rfl,rfl,rfl,by decide +kernel,rfl,by decide +kernel,by decide +kernel⟩
theorem vA (D:Def K mg "_law_digits" jd ["_law_cell","_law_base","_law_many"]) (T:Txt K mg G) (Y:base.NoSeer/\P.given.tree=none):Ok P w K mg base 1 "_law_digits" ["_law_cell","_law_base","_law_many"] (eM K):=by
 have S:=vz
 refine D.ok S (fun vs H Q E h=>?_) (fun f c7 A outer s H vs Q E hr h=>?_)
 ·obtain ⟨_,_,_,rfl,_⟩:=h;rfl
 ·obtain ⟨c,b,n,rfl,hb,hn,k⟩:=h
  have hu:=bo hr
  have aB:=T.aB
  have aj:=T.aj
  refine⟨_,(ag (aw (i:=3) S.nd rfl (Or.inl rfl) (bG af)) (ag (dh PassesOwn.never rfl (cR rfl T.dJ (aa (pv 2) af)) (au (i:=4) S.nd rfl (Or.inl rfl)) (ag (ej (jE PySem.F.plainAttrs_list PySem.F.slot_list_append PySem.F.type_list_append cF (pv 3) (aa (ah aC (pv 0) (pv 1)) af))) (ao (aw (i:=0) S.nd rfl (Or.inl rfl) (ah bx (pv 0) (pv 1)))))) (ao (aG (pv 3))))),?_⟩
  walk_at "w"
  rename_i p1 H1 n1 s1 m1
  refine jU (fun i σ Hn=>∃ (o1:Option V) (cc:Int) (xs:List Int),σ=[some (.int cc),some (.int b),some (.int (n:Int)),some (.ref p1),o1]/\ai H Hn/\Hn p1=some (.lst (xs.map V.int))/\xs.length=i/\∀ x∈xs,0<=x/\x<b) ⟨_,_,[],rfl,s1,m1,rfl,(fun _ z=>nomatch z)⟩ (fun i σ Hn hi hp=>?_) (fun σ Hn hp=>?_)
  ·obtain ⟨o1,cc,xs,rfl,sn,mp,lx,hx⟩:=hp
   have BO:i<n:=by lia
   have hb0:=hb.1
   have z1:=emod_nonneg cc (show b≠0 by lia)
   have z2:=emod_lt_of_pos cc hb0
   walk_at "w"
   refine dQ mp (by rw [aa5];lia) ?_
   walk_at "w"
   refine⟨_,_,xs++[cc % b],rfl,sn.bR n1,by rw [av,abo];rfl,by simp [lx],fun x lP=>?_⟩
   rcases aa3.mp lP with z|z
   ·exact hx x z
   ·rw [aa2.mp z]
    exact⟨z1,z2⟩
  ·obtain ⟨o1,cc,xs,rfl,sn,mp,lx,hx⟩:=hp
   walk_at "w"
   exact k p1 Hn xs n1 sn mp (by lia) hx
theorem vB:aF ["_law_some"] ["_law_some"] (aq je):=⟨rfl,rfl,rfl,by decide +kernel,rfl,by decide +kernel,by decide +kernel⟩
theorem vC (D:Def K mg "_law_turned" je ["_law_some"]) (T:Txt K mg G) (Y:base.NoSeer/\P.given.tree=none):Ok P w K mg base 1 "_law_turned" ["_law_some"] (iw K):=by
 have S:=vB
 refine D.ok S (fun vs H Q E h=>?_) (fun f c7 A outer s H vs Q E hr h=>?_)
 ·obtain ⟨_,_,rfl,_⟩:=h;rfl
 ·obtain ⟨a,xs,rfl,ha,hl,k⟩:=h
  have hu:=bo hr
  have aB:=T.aB
  have aj:=T.aj
  refine⟨_,(ao (aG (G9 K rfl rfl (pv 0) rfl rfl T.pR T.t6))),?_⟩
  walk_at "w"
  rename_i p1 H1 n1 s1 m1
  exact k p1 H1 n1 s1 m1
theorem E2:aF ["_law_found","_law_due"] ["_law_found","_law_due"] (aq tO):=⟨rfl,rfl,rfl,by decide +kernel,rfl,by decide +kernel,by decide +kernel⟩
theorem E3 (D:Def K mg "_law_is" tO ["_law_found","_law_due"]) (T:Txt K mg G) (Y:base.NoSeer/\P.given.tree=none):Ok P w K mg base 1 "_law_is" ["_law_found","_law_due"] (pX K):=by
 have S:=E2
 refine D.ok S (fun vs H Q E h=>?_) (fun f c7 A outer s H vs Q E hr h=>?_)
 ·obtain ⟨_,rfl,_⟩:=h;rfl
 ·obtain ⟨b,rfl,k⟩:=h
  have hu:=bo hr
  have aB:=T.aB
  have aj:=T.aj
  refine⟨_,(ao (aG (F5 (ba (kJ K rfl) rfl T.gi boot_isinstance (aa (pv 0) (aa (rO (v:=V.ty "bool") rfl T.Ic boot_bool rfl) af))) (F4 (iQ (rW K rfl hr.units) (pv 0) (pv 1) (aH _)))))),?_⟩
  walk_at "w"
  refine d9 rfl ?_
  walk_at "w"
  refine Dz (.bl b) (.bl b) rfl rfl ?_
  have e:PyData.eqv (.bool b) (.bool b)=true:=by cases b <;> rfl
  rw [e]
  exact k _ (ai.refl _)
theorem rG:aF ["self","row"] ["self","row"] (aq cY):=⟨rfl,rfl,rfl,by decide +kernel,rfl,by decide +kernel,by decide +kernel⟩
theorem rH (D:kU K G.fh "sound" "Tuning.sound" cY ["self","row"]) (T:Txt K mg G) (Y:base.NoSeer/\P.given.tree=none):xG P w K mg base 1 G.fh ["self","row"] (eR K):=by
 have S:=rG
 refine D.ok S (fun vs H Q E h=>?_) (fun f c7 A outer s H vs Q E hr h=>?_)
 ·obtain ⟨_,_,rfl,_⟩:=h;rfl
 ·obtain ⟨x,y,rfl,k⟩:=h
  have hu:=bo hr
  have aB:=T.aB
  have aj:=T.aj
  refine⟨_,(ao (aG (pv 1))),?_⟩
  walk_at "w"
  exact k
theorem E4:aF ["thing"] ["thing"] (aq tM):=⟨rfl,rfl,rfl,by decide +kernel,rfl,by decide +kernel,by decide +kernel⟩
structure E5(P:Program)(w:World)(K:Frag)(mg:Str->Option Value)(base:Heap)(G:iK):Prop where
 Iw:Ok P w K mg base 1 "is_whole" ["thing"] (j7 K)
theorem E6 (D:Def K mg "is_row" tM ["thing"]) (T:Txt K mg G) (O:E5 P w K mg base G) (Y:base.NoSeer/\P.given.tree=none):Ok P w K mg base 2 "is_row" ["thing"] (pU K):=by
 have S:=E4
 refine D.ok S (fun vs H Q E h=>?_) (fun f c7 A outer s H vs Q E hr h=>?_)
 ·obtain ⟨_,rfl,_⟩:=h;rfl
 ·obtain ⟨v,rfl,h⟩:=h
  have hu:=bo hr
  have aB:=T.aB
  have aj:=T.aj
  refine⟨_,(ag (bB (PW.pt (zf (xc (sN (ba (kJ K rfl) rfl T.gi boot_isinstance (aa (pv 0) (aa (rO (v:=V.ty "tuple") rfl T.da boot_tuple rfl) af))))) (sO (ay we (ba (fF K rfl) rfl T.iL PySem.boot_len (aa (pv 0) af)) (ba (fF K rfl) rfl T.iL PySem.boot_len (aa (kF (v:=V.ref G.Ib) rfl T.Uc rfl) af)) (aH _))))) (ao (aG ze)) aK) (ao (aG (ba (GZ K rfl rfl) rfl T.Na boot_all (aa (bg (N:=["number"]) (ix:=[none]) rfl (xA K rfl (pv 0)) (fun _ _ _ _ _=>(au (i:=0) (show eT ["number"] by decide +kernel) rfl (Or.inl rfl))) (fun _ _ _ _ _=>rfl) (fun _ _ _ _ _=>(az O.Iw (hr.mono (by decide)) (aa (pv 0) af))) rfl (by decide +kernel) (by decide +kernel) rfl True.intro) af))))),?_⟩
  rcases h with ⟨a,xs,rfl,hs,hl,hk,k⟩|⟨hv,k⟩
  ·walk_at "w"
   refine Gx ?_
   walk_at "w"
   refine aU (fun h1=>?_) (fun h1=>?_)
   ·have oW:xs.length≠5:=fun z=>by rw [z] at h1;simp at h1
    walk_at "w"
    rw [aaS oW] at k
    exact k _ (ai.refl _)
   have oW:xs.length=5:=by simp at h1;lia
   walk_at "w"
   refine BP (fun x=>.bl (wh x)) [] rfl hs hl (fun x H' Qc hx s kc=>?_) (fun l H1 FO s1 m1=>?_)
   ·walk_at "w"
    refine Cb ((hk x hx).same s) ?_
    walk_at "w"
    exact kc _ (ai.refl _)
   walk_at "w"
   refine MO (bs:=xs.map wh) (aR.of (by rw [m1,abp];rfl)) ?_
   walk_at "w"
   rw [aaT oW,Bool.true_and] at k
   have e:(xs.map wh).all id=xs.all wh:=by rw [List.all_map];rfl
   rw [e]
   exact k _ s1
  ·rcases hv with ⟨i,rfl⟩|rfl|⟨s,rfl⟩|⟨a,xs,rfl,hs⟩
   all_goals
    walk_at "w"
    refine jI ?_
    walk_at "w"
    exact k
theorem Iy:aF ["key","row","total"] ["key","row"] (aq xR):=⟨rfl,rfl,rfl,by decide +kernel,rfl,by decide +kernel,by decide +kernel⟩
structure IA(P:Program)(w:World)(K:Frag)(mg:Str->Option Value)(base:Heap)(G:iK):Prop where
 Uk:Ok P w K mg base 1 "heard" ["weights","row"] (ox K)
theorem IB (D:Def K mg "value" xR ["key","row"]) (T:Txt K mg G) (O:IA P w K mg base G) (Y:base.NoSeer/\P.given.tree=none):Ok P w K mg base 2 "value" ["key","row"] (ub K):=by
 have S:=Iy
 refine D.ok S (fun vs H Q E h=>?_) (fun f c7 A outer s H vs Q E hr h=>?_)
 ·obtain ⟨_,_,_,_,_,_,rfl,_⟩:=h;rfl
 ·obtain ⟨kk,w,r,m,ws,rs,rfl,hk,hw,Yb,hl,hn,hm,h0,k⟩:=h
  have hu:=bo hr
  have aB:=T.aB
  have aj:=T.aj
  refine⟨_,(ag (aw (i:=2) S.nd rfl (Or.inl rfl) (az O.Uk (hr.mono (by decide)) (aa (aM (aD K rfl) (pv 0) ae (fun _ _=>rfl)) (aa (pv 1) af)))) (ao (aG (gm (ay bM (aM (aD K rfl) (pv 0) ae (fun _ _=>rfl)) ae (aH _)) (pv 2) (ah aC (pv 2) (aM (aD K rfl) (pv 0) ae (fun _ _=>rfl))))))),?_⟩
  walk_at "w"
  refine LH ws rs hw Yb hl hn hm fun H1 s1=>?_
  walk_at "w"
  refine aU (fun hc=>?_) (fun hc=>?_)
  ·walk_at "w"
   unfold val at k
   rw [if_pos (aaQ hc)] at k
   exact k _ s1
  ·have hz:m≠0:=aaR hc
   unfold val at k
   rw [if_neg hz] at k
   walk_at "w"
   exact k _ s1
theorem vD:aF ["_law_cell","_law_count","_law_total","_law_pieces_here","_law_left","_law_k","_law_more"] ["_law_cell","_law_count","_law_total"] (aq i9):=⟨rfl,rfl,rfl,by decide +kernel,rfl,by decide +kernel,by decide +kernel⟩
structure vE(P:Program)(w:World)(K:Frag)(mg:Str->Option Value)(base:Heap)(G:iK):Prop where
 bA:Ok P w K mg base 1 "_law_mixed" ["_law_cell","_law_k"] (cA K)
theorem vF (D:Def K mg "_law_pieces" i9 ["_law_cell","_law_count","_law_total"]) (T:Txt K mg G) (O:vE P w K mg base G) (Y:base.NoSeer/\P.given.tree=none):Ok P w K mg base 2 "_law_pieces" ["_law_cell","_law_count","_law_total"] (iq K):=by
 have S:=vD
 refine D.ok S (fun vs H Q E h=>?_) (fun f c7 A outer s H vs Q E hr h=>?_)
 ·obtain ⟨_,_,_,rfl,_⟩:=h;rfl
 ·obtain ⟨c,n,t,rfl,h1,h2,h3,h4,k⟩:=h
  have hu:=bo hr
  have aB:=T.aB
  have aj:=T.aj
  refine⟨_,(ag (aw (i:=3) S.nd rfl (Or.inl rfl) (bG af)) (ag (aw (i:=4) S.nd rfl (Or.inl rfl) (ah bF (pv 2) (pv 1))) (ag (dh PassesOwn.never rfl (cR rfl T.dJ (aa (ah bF (pv 1) ae) af)) (au (i:=5) S.nd rfl (Or.inl rfl)) (ag (aw (i:=6) S.nd rfl (Or.inl rfl) (ah aC (az O.bA (hr.mono (by decide)) (aa (pv 0) (aa (ah aV ae (pv 5)) af))) (ah aV (pv 4) ae))) (ag (ej (jE PySem.F.plainAttrs_list PySem.F.slot_list_append PySem.F.type_list_append cF (pv 3) (aa (ah aV ae (pv 6)) af))) (ao (aw (i:=4) S.nd rfl (Or.inl rfl) (ah bF (pv 4) (pv 6))))))) (ao (aG (ah fC (pv 3) (bG (aa (ah aV ae (pv 4)) af)))))))),?_⟩
  walk_at "w"
  rename_i p1 H1 n1 s1 m1
  refine jU (fun i σ Hn=>∃ (o1 o2:Option V) (ps:List Int) (left:Int),σ=[some (.int c),some (.int (n:Int)),some (.int (t:Int)),some (.ref p1),some (.int left),o1,o2]/\ai H Hn/\Hn p1=some (.lst (ps.map V.int))/\ps.length=i/\(∀ p∈ps,1<=p/\p<=(t:Int))/\0<=left/\(i:Int)<=ps.sum/\ps.sum+left+n=t+i) ⟨_,_,[],_,rfl,s1,m1,rfl,(fun _ z=>nomatch z),by lia,by simp,by simp <;> lia⟩ (fun i σ Hn hi hp=>?_) (fun σ Hn hp=>?_)
  ·obtain ⟨o1,o2,ps,left,rfl,sn,mp,lp,LM,rY,LL,Ul⟩:=hp
   have BO:i+1<n:=by lia
   walk_at "w"
   refine bz (by lia) fun q1 z1 z2=>?_
   have b1:=emod_nonneg q1 (show left+1≠0 by lia)
   have b2:=emod_lt_of_pos q1 (show 0<left+1 by lia)
   have hlp:0<left+1:=by lia
   walk_at "w"
   refine dQ mp (by rw [aa5];lia) ?_
   walk_at "w"
   refine⟨_,_,ps++[1+q1 % (left+1)],_,rfl,sn.bR n1,?_,by simp [lp],fun p hp=>?_,by lia,?_,?_⟩
   ·rw [av,abo];rfl
   ·rcases aa3.mp hp with z|z
    ·exact LM p z
    ·rw [aa2.mp z];lia
   ·rw [sum_append,sum_singleton];lia
   ·rw [sum_append,sum_singleton];lia
  ·obtain ⟨o1,o2,ps,left,rfl,sn,mp,lp,LM,rY,LL,Ul⟩:=hp
   walk_at "w"
   rename_i p2 H2 n2 s2 m2 p3 H3 n3 s3 m3
   refine k p3 H3 (ps++[1+left]) ((sn.trans s2).new n3) ((sn.trans s2).trans s3) (by rw [m3,abo];rfl) (by rw [aa6];show ps.length+1=n;lia) (fun p hp=>?_) ?_
   ·rcases aa3.mp hp with z|z
    ·exact LM p z
    ·rw [aa2.mp z];lia
   ·rw [sum_append,sum_singleton];lia
theorem yf:aF ["_law_script","_law_at","_law_some","_law_places","_law_steps_here","_law_k","_law_cell","_law_step"] ["_law_script","_law_at"] (aq jY):=⟨rfl,rfl,rfl,by decide +kernel,rfl,by decide +kernel,by decide +kernel⟩
structure yh(P:Program)(w:World)(K:Frag)(mg:Str->Option Value)(base:Heap)(G:iK):Prop where
 aA:Ok P w K mg base 1 "_law_cell_at" ["_law_script","_law_k"] (bI K)
 bA:Ok P w K mg base 1 "_law_mixed" ["_law_cell","_law_k"] (cA K)
theorem yj (D:Def K mg "_law_steps" jY ["_law_script","_law_at"]) (T:Txt K mg G) (O:yh P w K mg base G) (Y:base.NoSeer/\P.given.tree=none):Ok P w K mg base 2 "_law_steps" ["_law_script","_law_at"] (jj K):=by
 have S:=yf
 refine D.ok S (fun vs H Q E h=>?_) (fun f c7 A outer s H vs Q E hr h=>?_)
 ·obtain ⟨_,_,_,rfl,_⟩:=h;rfl
 ·obtain ⟨a,ns,j,rfl,ha,Sz,T5,k⟩:=h
  have hu:=bo hr
  have aB:=T.aB
  have aj:=T.aj
  refine⟨_,(@ag _ _ _ _ _ (@aw _ _ 2 _ _ _ _ S.nd rfl (Or.inl rfl) (@bG _ _ _ _ (@aa _ _ _ _ _ (@aQ _ _ _ _ _ (aa ae (aa ae (aa ae af)))) (@aa _ _ _ _ _ (@aQ _ _ _ _ _ (aa ae (aa ae (aa ae af)))) (@aa _ _ _ _ _ (@aQ _ _ _ _ _ (aa ae (aa ae (aa ae af)))) (@aa _ _ _ _ _ (@aQ _ _ _ _ _ (aa ae (aa ae (aa ae af)))) (@aa _ _ _ _ _ (@aQ _ _ _ _ _ (aa ae (aa ae (aa ae af)))) (@aa _ _ _ _ _ (@aQ _ _ _ _ _ (aa ae (aa ae (aa ae af)))) (@aa _ _ _ _ _ (@aQ _ _ _ _ _ (aa ae (aa ae (aa ae af)))) (@aa _ _ _ _ _ (@aQ _ _ _ _ _ (aa ae (aa ae (aa ae af)))) af (by rfl)) (by rfl)) (by rfl)) (by rfl)) (by rfl)) (by rfl)) (by rfl)) (by rfl))) (by rfl) (by first|exact .inl rfl|exact .inr rfl|assumption)) (ag (aw (i:=3) S.nd rfl (Or.inl rfl) (aM (aD K rfl) (pv 2) (ah aC (ah bx (az O.aA (hr.mono (by decide)) (aa (pv 0) (aa (pv 1) af))) ae) ae) (fun _ _=>rfl))) (ag (aw (i:=4) S.nd rfl (Or.inl rfl) (bG af)) (ag (dh PassesOwn.never rfl (cR rfl T.dJ (aa (ah aC (az O.aA (hr.mono (by decide)) (aa (pv 0) (aa (pv 1) af))) ae) af)) (au (i:=5) S.nd rfl (Or.inl rfl)) (ag (aw (i:=6) S.nd rfl (Or.inr rfl) (ah aV (az O.aA (hr.mono (by decide)) (aa (pv 0) (aa (ah aV (ah aV (pv 1) ae) (pv 5)) af))) (pv 5))) (ag (dF (k:=7) (N:=["_law_j","_law_cell"]) (ix:=[none,some 6]) S.nd rfl (Or.inl rfl) rfl (cR rfl T.dJ (aa (aM (aD K rfl) (pv 3) (pv 5) (fun _ _=>rfl)) af)) (fun _ _ _ _ _=>(au (i:=0) (show eT ["_law_j","_law_cell"] by decide +kernel) rfl (Or.inl rfl))) (fun _ _ _ _ _=>rfl) (fun _ _ _ _ _=>(ah bF (ah aC (az O.bA (hr.mono (by decide)) (aa (pv 1) (aa (ah aV ae (pv 0)) af))) ae) ae)) rfl (by decide +kernel) (by decide +kernel) rfl ⟨⟨rfl,Or.inr (Or.inl rfl),rfl,rfl⟩,True.intro⟩) (ao (ej (jE PySem.F.plainAttrs_list PySem.F.slot_list_append PySem.F.type_list_append cF (pv 4) (aa (ah fC (ah fC (pv 7) (bG (aa (ah aV ae (ah aC (az O.bA (hr.mono (by decide)) (aa (pv 6) (aa ae af))) ae)) af))) (ah Gu (bG (aa ae af)) (ah bF ae (aM (aD K rfl) (pv 3) (pv 5) (fun _ _=>rfl))))) af))))))) (ao (aG (pv 4))))))),?_⟩
  walk_at "w"
  rename_i p0 H0 s0 m0 p1 H1 s1 m1 p2 H2 s2 m2 p3 H3 s3 m3 p4 H4 s4 m4 p5 H5 s5 m5 p6 H6 s6 m6 p7 H7 s7 m7 p8 H8 n8 s8 m8
  have e7:=s8 _ _ m7
  have e6:=s8 _ _ (s7 _ _ m6)
  have e5:=s8 _ _ (s7 _ _ (s6 _ _ m5))
  have e4:=s8 _ _ (s7 _ _ (s6 _ _ (s5 _ _ m4)))
  have e3:=s8 _ _ (s7 _ _ (s6 _ _ (s5 _ _ (s4 _ _ m3))))
  have e2:=s8 _ _ (s7 _ _ (s6 _ _ (s5 _ _ (s4 _ _ (s3 _ _ m2)))))
  have e1:=s8 _ _ (s7 _ _ (s6 _ _ (s5 _ _ (s4 _ _ (s3 _ _ (s2 _ _ m1))))))
  have e0:=s8 _ _ (s7 _ _ (s6 _ _ (s5 _ _ (s4 _ _ (s3 _ _ (s2 _ _ (s1 _ _ m0)))))))
  have sT:ai H H8:=(((((((s0.trans s1).trans s2).trans s3).trans s4).trans s5).trans s6).trans s7).trans s8
  obtain ⟨c,hc⟩:∃ c,ns.getD j.toNat 0=c:=⟨_,rfl⟩
  rw [hc]
  obtain ⟨i8,hi8,Yj⟩:∃ i:Nat,c / 4 % 8=(i:Int)/\i<8:=⟨(c / 4 % 8).toNat,by lia,by lia⟩
  rw [hi8]
  obtain ⟨q,x0,x1,x2,hq,Uh,b0,b1,b2⟩:∃ (q:Addr) (x0 x1 x2:Nat),Dh [V.ref p0,V.ref p1,V.ref p2,V.ref p3,V.ref p4,V.ref p5,V.ref p6,V.ref p7] (i8:Int)=some (.ref q)/\H8 q=some (.tup [.int x0,.int x1,.int x2])/\x0<=4/\x1<x0/\x2<x1:=by
   match i8,Yj with
   | 0,_=>exact⟨_,4,3,2,rfl,e0,by decide,by decide,by decide⟩
   | 1,_=>exact⟨_,4,3,1,rfl,e1,by decide,by decide,by decide⟩
   | 2,_=>exact⟨_,4,2,1,rfl,e2,by decide,by decide,by decide⟩
   | 3,_=>exact⟨_,3,2,1,rfl,e3,by decide,by decide,by decide⟩
   | 4,_=>exact⟨_,4,3,0,rfl,e4,by decide,by decide,by decide⟩
   | 5,_=>exact⟨_,4,2,0,rfl,e5,by decide,by decide,by decide⟩
   | 6,_=>exact⟨_,3,1,0,rfl,e6,by decide,by decide,by decide⟩
   | 7,_=>exact⟨_,2,1,0,rfl,e7,by decide,by decide,by decide⟩
  refine du (aR.of m8) hq ?_
  clear e0 e1 e2 e3 e4 e5 e6 e7 m0 m1 m2 m3 m4 m5 m6 m7 s0 s1 s2 s3 s4 s5 s6 s7 s8 n8 hq hi8
  have haT:=sT.seq ha
  walk_at "w"
  rename_i pl HL nL sL mL
  have hqL:=sL _ _ Uh
  obtain ⟨N,hN,hN3⟩:∃ N:Nat,(c % 4).toNat=N/\N<=3:=⟨_,rfl,by lia⟩
  rw [hc,hN]
  obtain ⟨px,Yk⟩:∃ px:Nat->Nat,px=fun i=>([x0,x1,x2]:List Nat).getD i 0:=⟨_,rfl⟩
  have hpd:∀ i j,i<j->j<3->px j<px i:=fun i j h1 h2=>by
   rw [Yk]
   rcases (show (i=0/\j=1)\/(i=0/\j=2)\/(i=1/\j=2) by lia) with ⟨rfl,rfl⟩|⟨rfl,rfl⟩|⟨rfl,rfl⟩
   ·exact b1
   ·exact Nat.lt_trans b2 b1
   ·exact b2
  have Q8:∀ i,i<3->px i<=4:=fun i h=>by
   rw [Yk]
   match i,h with
   | 0,_=>exact b0
   | 1,_=>show x1<=4;lia
   | 2,_=>show x2<=4;lia
  refine jU (fun i σ Hn=>∃ (o1 o2 o3:Option V) (ys:List V) (rs:List (List Int)),σ=[some (.ref a),some (.int j),some (.ref p8),some (.ref q),some (.ref pl),o1,o2,o3]/\ai H8 Hn/\Hn pl=some (.lst ys)/\cp Hn ys rs/\(∀ x∈ys,x≠V.ref pl)/\rs.length=i/\(∀ (j:Nat) (r:List Int),rs[j]?=some r->Led r (px j)/\r.length=5/\∀ x∈r,-3<=x/\x<=3)) ⟨_,_,_,[],[],rfl,sL,mL,.nil,(fun _ z=>nomatch z),rfl,fun j r h=>by simp at h⟩ (fun i σ Hn hi hp=>?_) (fun σ Hn hp=>?_)
  ·obtain ⟨o1,o2,o3,ys,rs,rfl,sn,mp,hR,hG,LN,hl⟩:=hp
   have Bb:i<3:=by lia
   have Um:=sn.seq haT
   have hqN:aN K Hn q [.int x0,.int x1,.int x2]:=aN.of (sn _ _ Uh)
   have h4:=Q8 i Bb
   obtain ⟨P,hP,BA⟩:∃ P:Nat,px i=P/\Dh [V.int x0,V.int x1,V.int x2] (0+(i:Int))=some (.int P):=by
    rw [Yk]
    match i,Bb with
    | 0,_=>exact⟨_,rfl,rfl⟩
    | 1,_=>exact⟨_,rfl,rfl⟩
    | 2,_=>exact⟨_,rfl,rfl⟩
   rw [hP] at h4
   walk_at "w"
   refine eH hqN BA ?_
   walk_at "w"
   refine kM [some (.int _)] (fun _ x=>-2<=x/\x<=2) rfl (by lia) (fun i' H' Qc BO s' kc=>?_) (fun l5 H5 xs n5 s5 m5 lx hx=>?_)
   ·walk_at "w"
    refine bz (by lia) fun mm g1 g2=>?_
    walk_at "w"
    exact kc _ _ (by lia) (ai.refl _)
   have Uo:xs.length=P:=by rw [lx];lia
   walk_at "w"
   refine bz (by lia) fun mm g1 g2=>?_
   walk_at "w"
   rename_i p6 H6 n6 s6 m6 p7 H7 n7 s7 m7 p9 H9 n9 s9 m9
   have Rc:=((s5.trans s6).trans s7).trans s9
   refine eH (Rc.at hqN) BA ?_
   refine SX ?_
   rw [show (4:Int) - (P:Int)=((4 - P:Nat):Int) by lia]
   refine M0 m9 (by show 1*(4 - P)<=1000;lia) (fun pA HA nA sA mA=>?_) (by lia)
   have er:(List.replicate (4 - P) [V.int 0]).flatten=(List.replicate (4 - P) (0:Int)).map V.int:=by rw [List.map_replicate,List.flatten_replicate_singleton]
   rw [er] at mA
   refine Dv (sA _ _ (s9 _ _ m7)) mA (by rw [aa6,aa5,aa5,length_replicate];show _+1+_<=_;lia) fun pB HB nB sB mB=>?_
   have PU:=(Rc.trans sA).trans sB
   have eB:=PU _ _ mp
   have lR:=hR.length
   walk_at "w"
   refine dQ eB (by lia) ?_
   walk_at "w"
   have Up:0<1+mm % 3:=by lia
   have Uq:Hn pB=none:=(Rc.trans sA).new nB
   have Ur:pB≠pl:=fun z=>by rw [z,mp] at Uq;cases Uq
   refine⟨_,_,_,ys++[.ref pB],rs++[xs++[1+mm % 3]++List.replicate (4 - P) 0],rfl,(sn.trans PU).bR nL,av,?_,fun x lP=>?_,by simp [LN],fun j' r hr=>?_⟩
   ·refine ((hR.same PU).off hG).append (.cons ?_ .nil)
    rw [ax Ur,mB,abo,abo]
    rfl
   ·rcases aa3.mp lP with z|z
    ·exact hG x z
    ·rw [aa2.mp z]
     intro e
     cases e
     exact Ur rfl
   ·by_cases lV:j'<rs.length
    ·rw [abg lV] at hr
     exact hl j' r hr
    ·have PX:=(aaI.mp hr).1
     rw [aa6,aa7] at PX
     obtain rfl:j'=i:=by lia
     rw [abh (by lia),show j' - rs.length=0 by lia] at hr
     cases hr
     rw [hP]
     refine⟨HQ Uo Up,by rw [aa6,aa6,length_replicate,Uo];show P+1+(4 - P)=5;lia,fun x Ck=>?_⟩
     rcases aa3.mp Ck with z|z
     ·rcases aa3.mp z with z|z
      ·obtain ⟨j3,PY,e3⟩:=abB z
       have:=hx j3 x (by rw [aaZ PY,e3])
       lia
      ·rw [aa2.mp z];lia
     ·rw [(List.mem_replicate.mp z).2];lia
  ·obtain ⟨o1,o2,o3,ys,rs,rfl,sn,mp,hR,hG,LN,hl⟩:=hp
   walk_at "w"
   exact k pl Hn ys rs (sT.new nL) (sT.trans sn) mp hR hG (DI.of (pl:=px) (by lia) (fun i j h1 h2=>hpd i j h1 (by lia)) hl)
theorem vG:aF ["_law_steps_here","_law_cell","_law_commas_here","_law_k","_law_at","_law_by"] ["_law_steps_here","_law_cell"] (aq jb):=⟨rfl,rfl,rfl,by decide +kernel,rfl,by decide +kernel,by decide +kernel⟩
structure vH(P:Program)(w:World)(K:Frag)(mg:Str->Option Value)(base:Heap)(G:iK):Prop where
 bA:Ok P w K mg base 1 "_law_mixed" ["_law_cell","_law_k"] (cA K)
theorem vI (D:Def K mg "_law_commas" jb ["_law_steps_here","_law_cell"]) (T:Txt K mg G) (O:vH P w K mg base G) (Y:base.NoSeer/\P.given.tree=none):Ok P w K mg base 2 "_law_commas" ["_law_steps_here","_law_cell"] (ir K):=by
 have S:=vG
 refine D.ok S (fun vs H Q E h=>?_) (fun f c7 A outer s H vs Q E hr h=>?_)
 ·obtain ⟨_,_,_,_,rfl,_⟩:=h;rfl
 ·obtain ⟨l,c,ys,rs,rfl,hl,hR,Iv,k⟩:=h
  have hu:=bo hr
  have aB:=T.aB
  have aj:=T.aj
  refine⟨_,(@ag _ _ _ _ _ (dF (k:=2) (N:=["_law_step"]) (ix:=[none]) S.nd rfl (Or.inl rfl) rfl (aW K rfl (pv 0)) (fun _ _ _ _ _=>(au (i:=0) (show eT ["_law_step"] by decide +kernel) rfl (Or.inl rfl))) (fun _ _ _ _ _=>rfl) (fun _ _ _ _ _=>(bu (nQ K rfl) rfl T.pR PyProof.Rows.boot_list (aa (pv 0) af))) rfl (by decide +kernel) (by decide +kernel) rfl True.intro) (@ag _ _ _ _ _ (dh PassesOwn.never rfl (cR rfl T.dJ (aa ae af)) (au (i:=3) S.nd rfl (Or.inl rfl)) (ao (bB (ay gZ (ba (fF K rfl) rfl T.iL PySem.boot_len (aa (pv 2) af)) ae (aH _)) (ag (aw (i:=4) S.nd rfl (Or.inl rfl) (ah aC (pv 3) (ba (fF K rfl) rfl T.iL PySem.boot_len (aa (pv 2) af)))) (ag (aw (i:=5) S.nd rfl (Or.inr rfl) (ah bF (ah aC (az O.bA (hr.mono (by decide)) (aa (pv 1) (aa (ah aV ae (pv 3)) af))) ae) ae)) (ao (gn (bg (N:=["_law_x","_law_y","_law_by"]) (ix:=[none,none,some 5]) rfl (dR K rfl false false rfl T.iM (aa (aM (aD K rfl) (pv 2) (pv 4) (fun _ _=>rfl)) (aa (aM (aD K rfl) (pv 2) (ah aC (ah aV (pv 3) ae) (ba (fF K rfl) rfl T.iL PySem.boot_len (aa (pv 2) af))) (fun _ _=>rfl)) af))) (fun _ _ _ _ _=>(cw (n:=2) K rfl rfl (aJ (au (i:=0) (show eT ["_law_x","_law_y","_law_by"] by decide +kernel) rfl (Or.inl rfl)) (aJ (au (i:=1) (show eT ["_law_x","_law_y","_law_by"] by decide +kernel) rfl (Or.inl rfl)) cu)))) (fun _ _ _ _ _=>rfl) (fun _ _ _ _ _=>(ah aV (pv 0) (ah cV (pv 2) (pv 1)))) rfl (by decide +kernel) (by decide +kernel) rfl ⟨⟨rfl,Or.inr (Or.inl rfl),rfl,rfl⟩,True.intro⟩) (iP (pv 2) (pv 4) set_list))))) aK))) (@ag _ _ _ _ _ (bB (PW.pt (sQ (ay gZ (ba (fF K rfl) rfl T.iL PySem.boot_len (aa (pv 2) af)) ae (aH _)) (nz (ay bM (ah aC (pv 1) ae) ae (aH _))))) (ao (gn (bg (N:=["_law_x"]) (ix:=[none]) rfl (aW K rfl (aM (aD K rfl) (pv 2) ae (fun _ _=>rfl))) (fun _ _ _ _ _=>(au (i:=0) (show eT ["_law_x"] by decide +kernel) rfl (Or.inl rfl))) (fun _ _ _ _ _=>rfl) (fun _ _ _ _ _=>(ah bF ae (pv 0))) rfl (by decide +kernel) (by decide +kernel) rfl True.intro) (iP (pv 2) ae set_list))) aK) (@ag _ _ _ _ _ (bB (ay bM (ah aC (ah bx (pv 1) ae) ae) ae (aH _)) (ao (aw (i:=2) S.nd rfl (Or.inl rfl) (ah fC (pv 2) (gp (jT K rfl) (pv 2) iR (iS ae))))) aK) (@ag _ _ _ _ _ (bB (ay bM (ah aC (ah bx (pv 1) ae) ae) ae (aH _)) (@ao _ _ _ (@aw _ _ 2 _ _ _ _ S.nd rfl (Or.inl rfl) (@ah _ _ _ _ _ _ _ _ fC (bG (@aa _ _ _ _ _ (@nY _ _ _ _ (by rfl)) af (by rfl))) (pv 2)) (by rfl) (by first|exact .inl rfl|exact .inr rfl|assumption))) aK) (ao (aG (bg (N:=["_law_comma"]) (ix:=[none]) rfl (aW K rfl (pv 2)) (fun _ _ _ _ _=>(au (i:=0) (show eT ["_law_comma"] by decide +kernel) rfl (Or.inl rfl))) (fun _ _ _ _ _=>rfl) (fun _ _ _ _ _=>(bu (cH K rfl) rfl T.da boot_tuple (aa (pv 0) af))) rfl (by decide +kernel) (by decide +kernel) rfl True.intro)))))))),?_⟩
  have lR:=hR.length
  have h3:=Iv.cnt
  walk_at "w"
  refine cC 1 [] rs.length (fun l i zs H'=>cp H' zs (rs.take i)/\∀ x∈zs,x≠V.ref l) rfl (fun l H' _ _ _=>⟨.nil,fun _ z=>nomatch z⟩) (fun l i zs H' h=>by have:=h.1.length;rw [abl] at this;lia) (fun H' s=>⟨ys,s.seq (aR.of hl),by lia⟩) (fun i H' hi s=>⟨ys,ys[i]'(by lia),s.seq (aR.of hl),aaZ (by lia)⟩) (fun l2 i x H' H2 own zs ho hi rY s9 dE hp hy Qy Qn ky kn=>?_) (fun pl HA zs0 nA sA mA hp=>?_)
  ·obtain ⟨o1,rfl⟩:∃ o1,own=[o1]:=by match own,ho with|[o1],_=>exact⟨o1,rfl⟩
   obtain ⟨rfl,e⟩:=hy
   obtain ⟨a1,r,rfl,hz,Yl⟩:=(hR.same s9).get (e ys (s9.seq (aR.of hl)))
   have et:rs.take (i+1)=rs.take i++[r]:=by rw [take_add_one,Yl];rfl
   walk_at "w"
   refine jI ?_
   walk_at "w"
   rename_i l3 H9 n9 uX m9
   have LO:=uX _ _ dE
   have ne:l3≠l2:=fun z=>by rw [z,dE] at n9;cases n9
   refine ky [some (.ref a1)] _ H9 rfl uX ⟨?_,fun x hx=>?_⟩
   ·rw [et]
    exact ((hp.1.same uX).off hp.2).append (.cons (by rw [ax ne];exact m9) .nil)
   ·rcases aa3.mp hx with z|z
    ·exact hp.2 x z
    ·rw [aa2.mp z]
     intro w
     cases w
     exact ne rfl
  rw [abk] at hp
  walk_at "w"
  refine jU (fun i σ Hn=>∃ (o1 o2 o3:Option V) (zs:List V) (qs:List (List Int)),σ=[some (.ref l),some (.int c),some (.ref pl),o1,o2,o3]/\ai H Hn/\CmI Hn pl zs rs qs (3*2 ^ i)) ⟨_,_,_,zs0,rs,rfl,sA,mA,hp.1,hp.2,Eqv.refl,Iv.len,rfl,(fun v hv x hx=>by have:=Iv.sm v hv x hx;show -(3*1)<=x/\x<=3*1;lia)⟩ (fun i σ Hn hi hP=>?_) (fun σ Hn hP=>?_)
  ·have p2:(2:Int) ^ (i+1)=2*2 ^ i:=by rw [Int.pow_succ,Int.mul_comm]
   have p0:(0:Int)<2 ^ i:=by
    rcases (show i=0\/i=1\/i=2 by lia) with rfl|rfl|rfl <;> decide
   obtain ⟨o1,o2,o3,zs,qs,rfl,sn,mp,hL,hG,hE,qd,lq,hb⟩:=hP
   have Bb:i<3:=by lia
   have lz:=hL.length
   walk_at "w"
   refine aU (fun h1=>?_) (fun h1=>?_)
   ·have oW:1<zs.length:=by have:=aaQ h1;lia
    obtain ⟨j1,j2,e1,e2,b1,b2,nej⟩:∃ j1 j2:Nat,(0+(i:Int)) % (zs.length:Int)=(j1:Int)/\(0+(i:Int)+1) % (zs.length:Int)=(j2:Int)/\j1<zs.length/\j2<zs.length/\j1≠j2:=by
     rcases (show zs.length=2\/zs.length=3\/zs.length=4\/zs.length=5 by lia) with e|e|e|e
     ·rw [e]
      exact⟨i % 2,(i+1) % 2,by lia,by lia,by lia,by lia,by lia⟩
     ·rw [e]
      exact⟨i % 3,(i+1) % 3,by lia,by lia,by lia,by lia,by lia⟩
     ·rw [e]
      exact⟨i % 4,(i+1) % 4,by lia,by lia,by lia,by lia,by lia⟩
     ·rw [e]
      exact⟨i % 5,(i+1) % 5,by lia,by lia,by lia,by lia,by lia⟩
    have Vw:(0:Int)<(zs.length:Int):=by lia
    obtain ⟨a1,r1,Ym,E1,PZ⟩:=hL.get (i:=j1) (aaZ b1)
    obtain ⟨a2,r2,ez2,Rf,P0⟩:=hL.get (i:=j2) (aaZ b2)
    have IC:=qd r1 (aa4 PZ)
    have LP:=qd r2 (aa4 P0)
    have Rg:=hb r1 (aa4 PZ)
    have bb2:=hb r2 (aa4 P0)
    walk_at "w"
    refine bz (by lia) fun mm g1 g2=>?_
    rw [e1]
    walk_at "w"
    refine du (aR.of mp) (aS (by rw [aaZ b1,Ym])) ?_
    walk_at "w"
    rw [e2]
    refine du (aR.of mp) (aS (by rw [aaZ b2,ez2])) ?_
    walk_at "w"
    obtain ⟨bb,Ld,P4⟩:∃ bb,mm % 3 - 1=bb/\(bb=-1\/bb=0\/bb=1):=⟨_,rfl,by lia⟩
    rw [Ld]
    have Us:List.zipWith (fun x y=>x+bb*y) r1 r2=low r1 r2 (-bb):=by
     refine b7 (n:=5) (by simp [IC,LP]) (b8 IC LP) fun n hn=>?_
     rw [cW IC LP]
     simp [List.getD,getElem?_zipWith,aaZ (show n<r1.length by lia),aaZ (show n<r2.length by lia),Int.mul_comm]
     rw [Int.neg_mul]
     lia
    have nb:∀ x∈low r1 r2 (-bb),-(3*2 ^ (i+1))<=x/\x<=3*2 ^ (i+1):=fun x hx=>by
     rw [<- Us] at hx
     obtain ⟨n,hn,e⟩:=abB hx
     rw [List.getElem_zipWith] at e
     have z1:=Rg _ (abA (l:=r1) (by simp at hn;lia:n<r1.length))
     have z2:=bb2 _ (abA (l:=r2) (by simp at hn;lia:n<r2.length))
     rw [p2,<- e]
     rcases P4 with rfl|rfl|rfl <;> lia
    have Ut:=Lw qd PZ P0 nej (-bb)
    rw [<- Us] at Ut nb
    have D3:(List.zipWith (fun x y=>x+bb*y) r1 r2).length=5:=by simp [IC,LP]
    obtain ⟨u0,u1,u2,u3,u4,rfl⟩:=cJ IC
    obtain ⟨w0,w1,w2,w3,w4,rfl⟩:=cJ LP
    have hbbm:-1000<=bb/\bb<=1000:=by lia
    refine fR (k1:=false) (k2:=false) [some (.int bb)] (fun n=>.int (([u0,u1,u2,u3,u4]:List Int).getD n 0+bb*([w0,w1,w2,w3,w4]:List Int).getD n 0)) rfl (cX (aR.of E1)) (cX (aR.of Rf)) rfl (by show 5<=1000000;decide) (fun n x y H' Qc hx hy s kc=>?_) (fun l5 H5 n5 s5 m5=>?_)
    ·obtain ⟨rfl,_⟩:=cb (r:=[u0,u1,u2,u3,u4]) hx
     obtain ⟨rfl,hn⟩:=cb (r:=[w0,w1,w2,w3,w4]) hy
     walk_at "w"
     exact kc _ (ai.refl _)
    have ne5:l5≠pl:=fun z=>by rw [z,mp] at n5;cases n5
    walk_at "w"
    refine eY (j:=j1) (s5 _ _ mp) (dX b1) ?_
    have IE:cp H5 (zs.set j1 (.ref l5)) (qs.set j1 (List.zipWith (fun x y=>x+bb*y) [u0,u1,u2,u3,u4] [w0,w1,w2,w3,w4])):=tQ m5 j1 (hL.same s5)
    have rJ:∀ x∈zs.set j1 (.ref l5),x≠V.ref pl:=fun x hx=>by
     rcases mem_or_eq_of_mem_set hx with z|z
     ·exact hG x z
     ·rw [z]
      intro w
      cases w
      exact ne5 rfl
    walk_at "w"
    refine⟨_,_,_,zs.set j1 (.ref l5),_,rfl,(sn.trans s5).bR nA,av,IE.off rJ,rJ,hE.trans Ut,fun v hv=>?_,by rw [length_set];exact lq,fun v hv x hx=>?_⟩
    ·rcases mem_or_eq_of_mem_set hv with z|z
     ·exact qd v z
     ·rw [z];exact D3
    ·rcases mem_or_eq_of_mem_set hv with z|z
     ·have:=hb v z x hx
      rw [p2]
      lia
     ·rw [z] at hx
      exact nb x hx
   ·walk_at "w"
    refine⟨_,_,_,zs,qs,rfl,sn,mp,hL,hG,hE,qd,lq,fun v hv x hx=>?_⟩
    have:=hb v hv x hx
    rw [p2]
    lia
  ·obtain ⟨o1,o2,o3,zs,qs,rfl,sn,mp,hL,hG,hE,qd,lq,hb⟩:=hP
   have hb:∀ v∈qs,∀ x∈v,-24<=x/\x<=24:=hb
   have lz:=hL.length
   walk_at "j"
   refine join (fun σ' H'=>∃ (zs:List V) (qs:List (List Int)),σ'=[some (.ref l),some (.int c),some (.ref pl),o1,o2,o3]/\ai H H'/\CmI H' pl zs rs qs 24) (fun nx eF=>?_) (fun σ' HB hB=>?_)
   ·have old:=eF _ _ ⟨zs,qs,rfl,sn,mp,hL,hG,hE,qd,lq,hb⟩
    walk_at "w"
    refine aU (fun h1=>?_) (fun h1=>?_)
    ·walk_at "w"
     refine aU (fun h2=>?_) (fun h2=>?_)
     ·have oW:0<zs.length:=by have:=aaQ h1;lia
      obtain ⟨a1,r1,Ym,E1,PZ⟩:=hL.get (i:=0) (aaZ oW)
      have IC:=qd r1 (aa4 PZ)
      have Rg:=hb r1 (aa4 PZ)
      have Uu:=Lx qd PZ
      have Yn:c5 r1 (-1)=r1.map fun x=>0 - x:=abq fun x _=>by lia
      rw [Yn] at Uu
      walk_at "w"
      refine du (aR.of mp) (aS (j:=0) (by rw [aaZ oW,Ym])) ?_
      walk_at "w"
      refine d7 (r:=r1) (fun x=>.int (0 - x)) [] rfl (aR.of E1) (by lia) (fun x H' Qc hx s kc=>?_) (fun l5 H5 n5 s5 m5=>?_)
      ·walk_at "w"
       exact kc _ (ai.refl _)
      have Yo:H5 l5=some (.lst ((r1.map fun x=>0 - x).map V.int)):=by rw [abp];exact m5
      have ne5:l5≠pl:=fun z=>by rw [z,mp] at n5;cases n5
      walk_at "w"
      refine eY (j:=0) (s5 _ _ mp) (dX oW) ?_
      have IE:cp H5 (zs.set 0 (.ref l5)) (qs.set 0 (r1.map fun x=>0 - x)):=tQ Yo 0 (hL.same s5)
      have rJ:∀ x∈zs.set 0 (.ref l5),x≠V.ref pl:=fun x hx=>by
       rcases mem_or_eq_of_mem_set hx with z|z
       ·exact hG x z
       ·rw [z]
        intro w
        cases w
        exact ne5 rfl
      refine eF _ _ ⟨zs.set 0 (.ref l5),_,rfl,(sn.trans s5).bR nA,av,IE.off rJ,rJ,hE.trans Uu,fun v hv=>?_,by rw [length_set];exact lq,fun v hv x hx=>?_⟩
      ·rcases mem_or_eq_of_mem_set hv with z|z
       ·exact qd v z
       ·rw [z,aa5];exact IC
      ·rcases mem_or_eq_of_mem_set hv with z|z
       ·exact hb v z x hx
       ·rw [z] at hx
        obtain ⟨y,hy,rfl⟩:=aba.mp hx
        have:=Rg y hy
        lia
     ·walk_at "w"
      exact old
    ·walk_at "w"
     exact old
   clear mp hL hG hE qd lq hb lz sn
   obtain ⟨zs,qs,rfl,sn,mp,hL,hG,hE,qd,lq,hb⟩:=hB
   have lz:=hL.length
   walk_at "j"
   refine join (fun σ' H'=>∃ (pl:Addr) (zs:List V) (qs:List (List Int)),σ'=[some (.ref l),some (.int c),some (.ref pl),o1,o2,o3]/\ai H H'/\H' pl=some (.lst zs)/\cp H' zs qs/\Eqv 5 rs qs/\Len 5 qs/\qs.length<=6/\(c / 2 % 3=2->qs.length<=5)/\∀ v∈qs,∀ x∈v,-24<=x/\x<=24) (fun nx eF=>?_) (fun σ' HC hC=>?_)
   ·walk_at "w"
    refine aU (fun h1=>?_) (fun h1=>?_)
    ·have oW:c / 2 % 3=1:=by simpa using h1
     walk_at "w"
     refine O7 (j:=1) (aR.of mp) fun p5 H5 n5 s5 m5=>?_
     have lt:(zs.take 1).length<=1:=List.length_take_le _ _
     walk_at "w"
     rename_i p6 H6 n6 s6 m6
     have hL6:=hL.same (s5.trans s6)
     refine eF _ _ ⟨p6,zs++zs.take 1,qs++qs.take 1,rfl,(sn.trans s5).trans s6,m6,hL6.append (wV 1 hL6),hE.trans (Eqv.mem fun x=>?_),fun v hv=>?_,?_,fun z=>by lia,fun v hv=>?_⟩
     ·rw [aa3]
      exact⟨.inl,fun z=>z.elim id abz⟩
     ·exact (aa3.mp hv).elim (qd v) fun z=>qd v (abz z)
     ·have lt2:(qs.take 1).length<=1:=List.length_take_le _ _
      rw [aa6]
      lia
     ·exact (aa3.mp hv).elim (hb v) fun z=>hb v (abz z)
    ·walk_at "w"
     exact eF _ _ ⟨pl,zs,qs,rfl,sn,mp,hL,hE,qd,by lia,fun _=>by lia,hb⟩
   clear mp hL hG hE qd lq hb lz sn
   obtain ⟨pl2,zs,qs,rfl,sn,mp,hL,hE,qd,lq,lq3,hb⟩:=hC
   have lz:=hL.length
   walk_at "j"
   refine join (fun σ' H'=>∃ (pl:Addr) (zs:List V) (qs:List (List Int)),σ'=[some (.ref l),some (.int c),some (.ref pl),o1,o2,o3]/\ai H H'/\H' pl=some (.lst zs)/\cp H' zs qs/\Eqv 5 rs qs/\Len 5 qs/\qs.length<=6/\∀ v∈qs,∀ x∈v,-24<=x/\x<=24) (fun nx eF=>?_) (fun σ' HC hC=>?_)
   ·walk_at "w"
    refine aU (fun h1=>?_) (fun h1=>?_)
    ·have oW:c / 2 % 3=2:=by simpa using h1
     have l3:=lq3 oW
     walk_at "w"
     rename_i p5 H5 n5 s5 m5 p6 H6 n6 s6 m6 p7 H7 n7 s7 m7
     have IF:=(s5.trans s6).trans s7
     refine eF _ _ ⟨p7,_,[0,0,0,0,0]::qs,rfl,sn.trans IF,m7,.cons ((s6.trans s7) _ _ m5) (hL.same IF),⟨fun r hr=>Span.of (hE.1 r hr) fun q hq=>Span.mem (.tail _ hq),fun q hq=>?_⟩,fun v hv=>?_,by rw [length_cons];lia,fun v hv x hx=>?_⟩
     ·rcases aa9.mp hq with rfl|hq
      ·exact Span.zero (n:=5)
      ·exact hE.2 q hq
     ·rcases aa9.mp hv with rfl|hv
      ·rfl
      ·exact qd v hv
     ·rcases aa9.mp hv with rfl|hv
      ·simp only [aa9,not_mem_nil,or_false,or_self] at hx
       rw [hx]
       decide
      ·exact hb v hv x hx
    ·walk_at "w"
     exact eF _ _ ⟨pl2,zs,qs,rfl,sn,mp,hL,hE,qd,lq,hb⟩
   clear mp hL hE qd lq lq3 hb lz sn
   obtain ⟨pl3,zs,qs,rfl,sn,mp,hL,hE,qd,lq,hb⟩:=hC
   have lz:=hL.length
   walk_at "w"
   refine cC 1 [] qs.length (fun l i ws H'=>aZ K H' ws (qs.take i)) rfl (fun l H' _ _ _=>.nil) (fun l i ws H' h=>by have:=h.length;rw [abl] at this;lia) (fun H' s=>⟨zs,s.seq (aR.of mp),by lia⟩) (fun i H' hi s=>⟨zs,zs[i]'(by lia),s.seq (aR.of mp),aaZ (by lia)⟩) (fun l2 i x H' H2 own ws ho hi rY s9 dE rQ hy Qy Qn ky kn=>?_) (fun l2 H' ws rY s9 dE rQ=>?_)
   ·obtain ⟨o1,rfl⟩:∃ o1,own=[o1]:=by match own,ho with|[o1],_=>exact⟨o1,rfl⟩
    obtain ⟨rfl,e⟩:=hy
    obtain ⟨a1,r,rfl,hz,Yl⟩:=(hL.same s9).get (e zs (s9.seq (aR.of mp)))
    have et:qs.take (i+1)=qs.take i++[r]:=by rw [take_add_one,Yl];rfl
    walk_at "w"
    refine jI ?_
    walk_at "w"
    rename_i l3 H9 uX m9
    have LO:=uX _ _ dE
    refine ky [some (.ref a1)] _ H9 rfl uX ?_
    rw [et]
    exact ((rQ.same uX).off LO).append (.cons (cx (aN.of m9) LO) .nil)
   ·rw [abk] at rQ
    exact k l2 H' ws qs (sn.new rY) (sn.trans s9) dE rQ hE qd hb lq
theorem AE:aF ["_law_script","_law_at","_law_keys_here","_law_k","_law_cell","_law_w"] ["_law_script","_law_at"] (aq mr):=⟨rfl,rfl,rfl,by decide +kernel,rfl,by decide +kernel,by decide +kernel⟩
structure AF(P:Program)(w:World)(K:Frag)(mg:Str->Option Value)(base:Heap)(G:iK):Prop where
 aA:Ok P w K mg base 1 "_law_cell_at" ["_law_script","_law_k"] (bI K)
 bA:Ok P w K mg base 1 "_law_mixed" ["_law_cell","_law_k"] (cA K)
theorem AG (D:Def K mg "_law_keys" mr ["_law_script","_law_at"]) (T:Txt K mg G) (O:AF P w K mg base G) (Y:base.NoSeer/\P.given.tree=none):Ok P w K mg base 2 "_law_keys" ["_law_script","_law_at"] (ka K):=by
 have S:=AE
 refine D.ok S (fun vs H Q E h=>?_) (fun f c7 A outer s H vs Q E hr h=>?_)
 ·obtain ⟨_,_,_,rfl,_⟩:=h;rfl
 ·obtain ⟨a,ns,j,rfl,ha,Sz,T5,k⟩:=h
  have hu:=bo hr
  have aB:=T.aB
  have aj:=T.aj
  refine⟨_,(@ag _ _ _ _ _ (aw (i:=2) S.nd rfl (Or.inl rfl) (bG af)) (@ag _ _ _ _ _ (dh PassesOwn.never rfl (cR rfl T.dJ (aa (ah aC (az O.aA (hr.mono (by decide)) (aa (pv 0) (aa (pv 1) af))) ae) af)) (au (i:=3) S.nd rfl (Or.inl rfl)) (@ag _ _ _ _ _ (aw (i:=4) S.nd rfl (Or.inr rfl) (ah aV (az O.aA (hr.mono (by decide)) (aa (pv 0) (aa (ah aV (ah aV (pv 1) ae) (pv 3)) af))) (pv 3))) (@ag _ _ _ _ _ (aw (i:=5) S.nd rfl (Or.inl rfl) (bu (cH K rfl) rfl T.da boot_tuple (aa (bg (N:=["_law_j","_law_cell"]) (ix:=[none,some 4]) rfl (cR rfl T.dJ (aa ae af)) (fun _ _ _ _ _=>(au (i:=0) (show eT ["_law_j","_law_cell"] by decide +kernel) rfl (Or.inl rfl))) (fun _ _ _ _ _=>rfl) (fun _ _ _ _ _=>(ah bF (ah aC (az O.bA (hr.mono (by decide)) (aa (pv 1) (aa (ah aV ae (pv 0)) af))) ae) ae)) rfl (by decide +kernel) (by decide +kernel) rfl ⟨⟨rfl,Or.inr (Or.inl rfl),rfl,rfl⟩,True.intro⟩) af))) (@ag _ _ _ _ _ (bB (PW.pt (sQ (ay gZ (pv 3) ae (aH _)) (nz (ay bM (ah aC (pv 4) ae) ae (aH _))))) (ao (aw (i:=5) S.nd rfl (Or.inl rfl) (bu (cH K rfl) rfl T.da boot_tuple (aa (bg (N:=["_law_x","_law_cell"]) (ix:=[none,some 4]) rfl (xA K rfl (aM (aD K rfl) (aM (aD K rfl) (pv 2) ae (fun _ _=>rfl)) ae (fun _ _=>rfl))) (fun _ _ _ _ _=>(au (i:=0) (show eT ["_law_x","_law_cell"] by decide +kernel) rfl (Or.inl rfl))) (fun _ _ _ _ _=>rfl) (fun _ _ _ _ _=>(ah cV (pv 0) (ah bF (ah aC (ah bx (pv 1) ae) ae) ae))) rfl (by decide +kernel) (by decide +kernel) rfl ⟨⟨rfl,Or.inr (Or.inl rfl),rfl,rfl⟩,True.intro⟩) af)))) aK) (@ao _ _ _ (ej (jE PySem.F.plainAttrs_list PySem.F.slot_list_append PySem.F.type_list_append cF (pv 2) (@aa _ _ _ _ _ (@aQ _ _ _ _ _ (aa (pv 5) (aa (aM (aD K rfl) (@nY _ _ _ _ (by rfl)) (ah aC (az O.bA (hr.mono (by decide)) (aa (pv 4) (aa ae af))) ae) (fun _ _=>rfl)) af))) af (by rfl))))))))) (ao (aG (pv 2))))),?_⟩
  walk_at "w"
  rename_i pl HL nL sL mL
  obtain ⟨c,hc⟩:∃ c,ns.getD j.toNat 0=c:=⟨_,rfl⟩
  rw [hc]
  obtain ⟨N,hN,hN3⟩:∃ N:Nat,(c % 4).toNat=N/\N<=3:=⟨_,rfl,by lia⟩
  rw [hN]
  refine jU (fun i σ Hn=>∃ (o1 o2 o3:Option V) (ys:List V) (ks:List (List Int×Int)),σ=[some (.ref a),some (.int j),some (.ref pl),o1,o2,o3]/\ai H Hn/\Hn pl=some (.lst ys)/\bY K Hn ys ks/\ks.length=i/\(∀ k∈ks,k.1.length=5/\(∀ x∈k.1,-10<=x/\x<=10)/\(k.2=0\/2<=k.2)/\k.2<=12)/\(∀ k,ks[0]?=some k->∀ x∈k.1,-5<=x/\x<=5)) ⟨_,_,_,[],[],rfl,sL,mL,.nil,rfl,(fun _ z=>nomatch z),fun k h=>by simp at h⟩ (fun i σ Hn hi hp=>?_) (fun σ Hn hp=>?_)
  ·obtain ⟨o1,o2,o3,ys,ks,rfl,sn,mp,hK,P6,hk,hk0⟩:=hp
   have Bb:i<3:=by lia
   have Um:=sn.seq ha
   walk_at "w"
   refine kM [some (.int _)] (fun _ x=>-5<=x/\x<=5) rfl (by decide) (fun i' H' Qc BO s' kc=>?_) (fun l5 H5 xs n5 s5 m5 lx hx=>?_)
   ·walk_at "w"
    refine bz (by lia) fun mm g1 g2=>?_
    walk_at "w"
    exact kc _ _ (by lia) (ai.refl _)
   have hxs:∀ x∈xs,-5<=x/\x<=5:=fun x lP=>by
    obtain ⟨j3,PY,e3⟩:=abB lP
    exact hx j3 x (by rw [aaZ PY,e3])
   obtain ⟨cv,hcv⟩:∃ cv,ns.getD (j+1+(0+(i:Int))).toNat 0+(0+(i:Int))=cv:=⟨_,rfl⟩
   rw [hcv]
   walk_at "j"
   rename_i p6 H6 s6 m6
   have Uv:=s5.trans s6
   refine join (fun σ' H'=>∃ (q:Addr) (ws:List Int),σ'=[some (.ref a),some (.int j),some (.ref pl),some (.int (0+(i:Int))),some (.int cv),some (.ref q)]/\ai Hn H'/\aN K H' q (ws.map V.int)/\ws.length=5/\(∀ x∈ws,-10<=x/\x<=10)/\(i=0->∀ x∈ws,-5<=x/\x<=5)) (fun nx eF=>?_) (fun σ' H7 hp=>?_)
   ·have old:nx [some (.ref a),some (.int j),some (.ref pl),some (.int (0+(i:Int))),some (.int cv),some (.ref p6)] H6:=eF _ _ ⟨p6,xs,rfl,Uv,aN.of m6,lx,fun x lP=>by have:=hxs x lP;lia,fun _=>hxs⟩
    walk_at "w"
    refine aU (fun h1=>?_) (fun h1=>?_)
    ·walk_at "w"
     refine aU (fun h2=>?_) (fun h2=>?_)
     ·have hi0:0<i:=by have:=aaQ h1;lia
      obtain ⟨ak,wk,w0,m0,E7,LQ,rfl,rfl,P7,P8⟩:∃ (ak wk:Addr) (w0:List Int) (m0:Int) (E7:List V) (LQ:List (List Int×Int)),ys=.ref ak::E7/\ks=(w0,m0)::LQ/\aN K Hn ak [.ref wk,.int m0]/\aN K Hn wk (w0.map V.int):=by
       cases hK with
       | nil=>exact absurd P6 (by simp;lia)
       | cons h hw t=>exact⟨_,_,_,_,_,_,rfl,rfl,h,hw⟩
      have b5:=hk0 _ rfl
      have Rh:=(hk _ (.head _)).1
      have Yp:=Uv.at P8
      have hak6:=Uv.at P7
      walk_at "w"
      refine du (aR.of (Uv _ _ mp)) (aS (j:=0) rfl) ?_
      walk_at "w"
      have hf:-2<=cv / 3 % 5 - 2/\cv / 3 % 5 - 2<=2:=by lia
      refine wC (r:=w0) (fun x=>.int (x*(cv / 3 % 5 - 2))) [some (.int cv)] rfl Yp (by rw [show w0.length=5 from Rh];decide) (fun x H' Qc lP s kc=>?_) (fun l8 H8 n8 s8 m8=>?_)
      ·walk_at "w"
       exact kc _ (ai.refl _)
      obtain ⟨ff,hff⟩:∃ ff,cv / 3 % 5 - 2=ff:=⟨_,rfl⟩
      rw [hff] at hf m8
      walk_at "w"
      rename_i p9 H9 s9 m9
      refine eF _ _ ⟨p9,w0.map (fun x=>x*ff),rfl,(Uv.trans s8).trans s9,aN.of (by rw [m9,abp];rfl),by rw [aa5];exact Rh,fun x lP=>?_,fun z=>by lia⟩
      obtain ⟨y,hy,rfl⟩:=aba.mp lP
      have hy5:=b5 y hy
      rcases (show ff=-2\/ff=-1\/ff=0\/ff=1\/ff=2 by lia) with rfl|rfl|rfl|rfl|rfl <;> lia
     ·walk_at "w"
      exact old
    ·walk_at "w"
     exact old
   ·obtain ⟨q,ws,rfl,s7,hq,lw,Ng,hw0⟩:=hp
    have mp7:=s7 _ _ mp
    walk_at "w"
    refine bz (by lia) fun mm g1 g2=>?_
    walk_at "w"
    rename_i p8 H8 n8 s8 m8
    obtain ⟨ring,Uw,hrg,Yq⟩:∃ ring:Int,Dh [V.int 0,V.int 0,V.int 2,V.int 3,V.int 5,V.int 12] (mm % 6)=some (.int ring)/\(ring=0\/2<=ring)/\ring<=12:=by
     obtain ⟨i6,hi6,Yr⟩:∃ i:Nat,mm % 6=(i:Int)/\i<6:=⟨(mm % 6).toNat,by lia,by lia⟩
     rw [hi6]
     match i6,Yr with
     | 0,_=>exact⟨_,rfl,by decide,by decide⟩
     | 1,_=>exact⟨_,rfl,by decide,by decide⟩
     | 2,_=>exact⟨_,rfl,by decide,by decide⟩
     | 3,_=>exact⟨_,rfl,by decide,by decide⟩
     | 4,_=>exact⟨_,rfl,by decide,by decide⟩
     | 5,_=>exact⟨_,rfl,by decide,by decide⟩
    refine du (aR.of m8) Uw ?_
    walk_at "w"
    rename_i pk HK sK mK
    have Ys:=s8.trans sK
    have s7K:=s7.trans Ys
    have eK:=Ys _ _ mp7
    have lK:=hK.length
    refine dQ eK (by lia) ?_
    walk_at "w"
    refine⟨_,_,_,ys++[.ref pk],ks++[(ws,ring)],rfl,(sn.trans s7K).bR nL,av,((hK.same s7K).off eK).snoc (cx (aN.of mK) eK) (cx (Ys.at hq) eK),by simp [P6],fun q' FK=>?_,fun q' FK=>?_⟩
    ·rcases aa3.mp FK with z|z
     ·exact hk q' z
     ·rw [aa2.mp z]
      exact⟨lw,Ng,hrg,Yq⟩
    ·cases ks with
     | nil =>
      cases FK
      exact hw0 (by simp at P6;lia)
     | cons q0 LQ=>exact hk0 q' FK
  ·obtain ⟨o1,o2,o3,ys,ks,rfl,sn,mp,hK,P6,hk,hk0⟩:=hp
   walk_at "w"
   exact k pl Hn ys ks nL sn mp hK (by lia) hk
theorem yk:aF ["_law_kind","_law_told_here","_law_row"] ["_law_kind","_law_told_here","_law_row"] (aq j0):=⟨rfl,rfl,rfl,by decide +kernel,rfl,by decide +kernel,by decide +kernel⟩
structure yl(P:Program)(w:World)(K:Frag)(mg:Str->Option Value)(base:Heap)(G:iK):Prop where
 IG:Ok P w K mg base 1 "_law_rest" ["_law_steps_here","_law_row"] (j9 K)
 wZ:Ok P w K mg base 1 "_law_value" ["_law_w","_law_ring","_law_row"] (jk K)
theorem ym (D:Def K mg "_law_sound" j0 ["_law_kind","_law_told_here","_law_row"]) (T:Txt K mg G) (O:yl P w K mg base G) (Y:base.NoSeer/\P.given.tree=none):Ok P w K mg base 2 "_law_sound" ["_law_kind","_law_told_here","_law_row"] (gj K):=by
 have S:=yk
 refine D.ok S (fun vs H Q E h=>?_) (fun f c7 A outer s H vs Q E hr h=>?_)
 ·obtain ⟨_,_,_,_,rfl,_⟩:=h;rfl
 ·obtain ⟨b,a,d,r,rfl,k8,bc,ha,lr,hrb,k⟩:=h
  have hu:=bo hr
  have aB:=T.aB
  have aj:=T.aj
  refine⟨_,(ag (bB (ay bM (pv 0) ae (aH _)) (ao (aG (pv 2))) aK) (ag (bB (ay bM (pv 0) ae (aH _)) (ao (aG (az O.IG (hr.mono (by decide)) (aa (pv 1) (aa (pv 2) af))))) aK) (ag (bB (ay bM (pv 0) ae (aH _)) (ao (aG (bu (cH K rfl) rfl T.da boot_tuple (aa (bg (N:=["_law_w","_law_ring","_law_row"]) (ix:=[none,none,some 2]) rfl (aW K rfl (pv 1)) (fun _ _ _ _ _=>(cw (n:=2) K rfl rfl (aJ (au (i:=0) (show eT ["_law_w","_law_ring","_law_row"] by decide +kernel) rfl (Or.inl rfl)) (aJ (au (i:=1) (show eT ["_law_w","_law_ring","_law_row"] by decide +kernel) rfl (Or.inl rfl)) cu)))) (fun _ _ _ _ _=>rfl) (fun _ _ _ _ _=>(az O.wZ (hr.mono (by decide)) (aa (pv 0) (aa (pv 1) (aa (pv 2) af))))) rfl (by decide +kernel) (by decide +kernel) rfl ⟨⟨rfl,Or.inr (Or.inl rfl),rfl,rfl⟩,True.intro⟩) af)))) aK) (ao (aG (az O.wZ (hr.mono (by decide)) (aa (pv 1) (aa ae (aa (pv 2) af))))))))),?_⟩
  cases d with
  | plain w =>
   walk_at "w"
   refine d9 rfl ?_
   walk_at "w"
   exact k _ _ (.row r) (ai.refl _) ⟨a,rfl,ha,by lia⟩ rfl
  | steps rs =>
   obtain ⟨ys,h1,h2,h3⟩:=k8
   walk_at "w"
   refine bH rfl ?_
   walk_at "w"
   refine d9 rfl ?_
   walk_at "w"
   refine Ce ⟨h1,h2,bc,ha,lr,hrb⟩ fun p H' v s m JJ=>?_
   exact k _ H' (.row v) s ⟨p,rfl,aN.of m,by rw [JJ.1];decide⟩ ⟨v,rfl,JJ⟩
  | keys ks =>
   obtain ⟨ys,h1,h2⟩:=k8
   have lK:=h2.length
   have h3:=bc.1
   walk_at "w"
   refine bH rfl ?_
   walk_at "w"
   refine bH rfl ?_
   walk_at "w"
   refine d9 rfl ?_
   walk_at "w"
   refine cC 2 [some (.ref a)] ks.length (fun l i zs H'=>zs=((ks.take i).map fun k=>val k.1 k.2 r).map V.int) rfl (fun _ _ _ _ _=>rfl) (fun l i zs H' h=>by rw [h,aa5,aa5,abl];lia) (fun H' s=>⟨ys,s.seq (aR.of h1),by lia⟩) (fun i H' hi s=>⟨ys,ys[i]'(by lia),s.seq (aR.of h1),aaZ (by lia)⟩) (fun l i x H' H2 own zs ho hi rY s9 dE hp hy Qy Qn ky kn=>?_) (fun l H' zs rY s9 dE hp=>?_)
   ·obtain ⟨o1,o2,rfl⟩:∃ o1 o2,own=[o1,o2]:=by match own,ho with|[o1,o2],_=>exact⟨o1,o2,rfl⟩
    obtain ⟨rfl,e⟩:=hy
    obtain ⟨ak,wk,⟨w0,m0⟩,rfl,P7,P8,hki⟩:=(h2.same s9).get (e ys (s9.seq (aR.of h1)))
    have Ri:=bc.2 _ (aa4 hki)
    have et:ks.take (i+1)=ks.take i++[(w0,m0)]:=by rw [take_add_one,hki];rfl
    refine xF P7 ?_
    walk_at "w"
    refine jI ?_
    walk_at "w"
    refine qU ⟨P8,s9.at ha,Ri.1,lr,Ri.2.2.1,fun x hx=>by have:=Ri.2.1 x hx;lia⟩ fun H3 s3=>?_
    refine ky [some (.ref wk),some (.int m0)] _ H3 rfl s3 ?_
    rw [hp,et,abo,abo]
    rfl
   ·rw [abk] at hp
    rw [hp] at dE
    walk_at "w"
    rename_i p5 H5 s5 m5
    exact k _ H5 (.row _) (s9.trans s5) ⟨p5,rfl,aN.of m5,by rw [aa5];lia⟩ rfl
  | cG w =>
   have k8:aN K H b (w.map V.int):=k8
   walk_at "w"
   refine bH rfl ?_
   walk_at "w"
   refine bH rfl ?_
   walk_at "w"
   refine bH rfl ?_
   walk_at "w"
   refine qU ⟨k8,ha,bc.1,lr,.inl rfl,fun x hx=>by have:=bc.2.2 x hx;lia⟩ fun H' s=>?_
   exact k _ H' (.num _) s rfl rfl
theorem ui:aF ["_law_kind","_law_told_here","_law_cell","_law_row","_law_k","_law_step","_law_by","_law_w","_law_one","_law_other_here"] ["_law_kind","_law_told_here","_law_cell"] (aq il):=⟨rfl,rfl,rfl,by decide +kernel,rfl,by decide +kernel,by decide +kernel⟩
structure uj(P:Program)(w:World)(K:Frag)(mg:Str->Option Value)(base:Heap)(G:iK):Prop where
 bA:Ok P w K mg base 1 "_law_mixed" ["_law_cell","_law_k"] (cA K)
theorem uk (D:Def K mg "_law_nothing" il ["_law_kind","_law_told_here","_law_cell"]) (T:Txt K mg G) (O:uj P w K mg base G) (Y:base.NoSeer/\P.given.tree=none):Ok P w K mg base 2 "_law_nothing" ["_law_kind","_law_told_here","_law_cell"] (gJ K):=by
 have S:=ui
 refine D.ok S (fun vs H Q E h=>?_) (fun f c7 A outer s H vs Q E hr h=>?_)
 ·obtain ⟨_,_,_,rfl,_⟩:=h;rfl
 ·obtain ⟨b,d,c,rfl,k8,bc,k⟩:=h
  have hu:=bo hr
  have aB:=T.aB
  have aj:=T.aj
  refine⟨_,(@ag _ _ _ _ _ (@aw _ _ 3 _ _ _ _ S.nd rfl (Or.inl rfl) (@nY _ _ _ _ (by rfl)) (by rfl) (by first|exact .inl rfl|exact .inr rfl|assumption)) (ag (bB (ay bM (pv 0) ae (aH _)) (ao (dh PassesOwn.never rfl (nT K rfl false rfl T.hX (aa (pv 1) af)) (cw (n:=2) K rfl rfl (aJ (au (i:=4) S.nd rfl (Or.inl rfl)) (aJ (au (i:=5) S.nd rfl (Or.inl rfl)) cu))) (ag (aw (i:=6) S.nd rfl (Or.inr rfl) (ah bF (ah aC (az O.bA (hr.mono (by decide)) (aa (pv 2) (aa (ah aV ae (pv 4)) af))) ae) ae)) (ao (dF (k:=3) (N:=["_law_x","_law_y","_law_by"]) (ix:=[none,none,some 6]) S.nd rfl (Or.inl rfl) rfl (dR K rfl false false rfl T.iM (aa (pv 3) (aa (pv 5) af))) (fun _ _ _ _ _=>(cw (n:=2) K rfl rfl (aJ (au (i:=0) (show eT ["_law_x","_law_y","_law_by"] by decide +kernel) rfl (Or.inl rfl)) (aJ (au (i:=1) (show eT ["_law_x","_law_y","_law_by"] by decide +kernel) rfl (Or.inl rfl)) cu)))) (fun _ _ _ _ _=>rfl) (fun _ _ _ _ _=>(ah aV (pv 0) (ah cV (pv 2) (pv 1)))) rfl (by decide +kernel) (by decide +kernel) rfl ⟨⟨rfl,Or.inr (Or.inl rfl),rfl,rfl⟩,True.intro⟩))))) aK) (ag (bB (PW.pt (zf (ay bM (pv 0) ae (aH _)) (sO (PW.pt (sQ (ay bM (pv 0) ae (aH _)) (nz (ay gZ (ba (fF K rfl) rfl T.iL PySem.boot_len (aa (pv 1) af)) ae (aH _)))))))) (ag (aw (i:=7) S.nd rfl (Or.inl rfl) (gm (ay bM (pv 0) ae (aH _)) (pv 1) (aM (aD K rfl) (aM (aD K rfl) (pv 1) ae (fun _ _=>rfl)) ae (fun _ _=>rfl)))) (ag (aw (i:=8) S.nd rfl (Or.inl rfl) (ah aC (az O.bA (hr.mono (by decide)) (aa (pv 2) (aa ae af))) ae)) (ag (aw (i:=9) S.nd rfl (Or.inl rfl) (ah aC (ah aV (ah aV (pv 8) ae) (ah aC (az O.bA (hr.mono (by decide)) (aa (pv 2) (aa ae af))) ae)) ae)) (ag (gn (ah bF ae (aM (aD K rfl) (pv 7) (pv 9) (fun _ _=>rfl))) (iP (pv 3) (pv 8) set_list)) (ao (gn (aM (aD K rfl) (pv 7) (pv 8) (fun _ _=>rfl)) (iP (pv 3) (pv 9) set_list))))))) aK) (ao (aG (pv 3)))))),?_⟩
  walk_at "w"
  rename_i p1 H1 n1 s1 m1
  have zero:gY 30 [0,0,0,0,0]:=⟨rfl,fun x hx=>by
   simp only [aa9,not_mem_nil,or_false,or_self] at hx
   rw [hx]
   decide⟩
  cases d with
  | plain w =>
   refine bH rfl ?_
   walk_at "w"
   refine bH rfl ?_
   walk_at "w"
   refine bH rfl ?_
   walk_at "w"
   refine bH rfl ?_
   walk_at "w"
   exact k p1 H1 [0,0,0,0,0] n1 s1 m1 zero
  | steps rs =>
   obtain ⟨ys,e1,hR,e3⟩:=k8
   have lR:=hR.length
   have h5:=bc.cnt
   refine d9 rfl ?_
   walk_at "w"
   refine BX (k:=false) (xs:=ys) (fun i σ Hn=>∃ (o4 o5 o6 o7 o8 o9:Option V) (q:Addr) (r:List Int),σ=[some (.int (Kd.steps rs).num),some (.ref b),some (.int c),some (.ref q),o4,o5,o6,o7,o8,o9]/\ai H Hn/\H q=none/\Hn q=some (.lst (r.map V.int))/\gY (6*i) r) ⟨_,_,_,_,_,_,p1,[0,0,0,0,0],rfl,s1,n1,m1,rfl,fun x hx=>by simp only [aa9,not_mem_nil,or_false,or_self] at hx;rw [hx];decide⟩ (fun i σ Hn hp=>by obtain ⟨_,_,_,_,_,_,_,_,rfl,sn,_⟩:=hp;exact cX (aR.of (sn _ _ e1))) (fun i x σ Hn Yt hx hp Bd=>?_) (fun σ Hn hp=>?_)
   ·obtain ⟨o4,o5,o6,o7,o8,o9,q,r,rfl,sn,nq,mq,P9⟩:=hp
    have hi:i<ys.length:=(aaI.mp hx).1
    obtain ⟨as,s,rfl,hs,LL⟩:=(hR.same (sn.trans Bd)).get hx
    have y8:=aa4 LL
    have ls:=bc.len s y8
    have FR:=bc.sm s y8
    have Yu:=Bd _ _ mq
    walk_at "w"
    refine bz (by lia) fun mm g1 g2=>?_
    walk_at "w"
    obtain ⟨bb,Ld,P4⟩:∃ bb,mm % 5 - 2=bb/\(-2<=bb/\bb<=2):=⟨_,rfl,by lia⟩
    rw [Ld]
    obtain ⟨u0,u1,u2,u3,u4,rfl⟩:=cJ P9.1
    obtain ⟨w0,w1,w2,w3,w4,rfl⟩:=cJ ls
    refine fR (k1:=false) (k2:=false) [some (.int bb)] (fun n=>.int (([u0,u1,u2,u3,u4]:List Int).getD n 0+bb*([w0,w1,w2,w3,w4]:List Int).getD n 0)) rfl (cX (aR.of Yu)) (cX (aR.of hs)) rfl (by show 5<=1000000;decide) (fun n x y H' Qc hx hy s kc=>?_) (fun l5 H5 n5 s5 m5=>?_)
    ·obtain ⟨rfl,_⟩:=cb (r:=[u0,u1,u2,u3,u4]) hx
     obtain ⟨rfl,hn⟩:=cb (r:=[w0,w1,w2,w3,w4]) hy
     walk_at "w"
     exact kc _ (ai.refl _)
    walk_at "w"
    refine⟨_,_,_,_,_,_,l5,[u0+bb*w0,u1+bb*w1,u2+bb*w2,u3+bb*w3,u4+bb*w4],rfl,(sn.trans Bd).trans s5,(sn.trans Bd).new n5,m5,rfl,fun x hx=>?_⟩
    have fn:∀ a b,a∈[u0,u1,u2,u3,u4]->b∈[w0,w1,w2,w3,w4]->-(6*((i+1:Nat):Int))<=a+bb*b/\a+bb*b<=6*((i+1:Nat):Int):=fun a b Yi VQ=>by
     have z1:=P9.2 a Yi
     have z2:=T6 (B:=2) P4 (FR b VQ)
     lia
    simp only [aa9,not_mem_nil,or_false] at hx
    rcases hx with rfl|rfl|rfl|rfl|rfl <;> exact fn _ _ (by simp) (by simp)
   ·obtain ⟨o4,o5,o6,o7,o8,o9,q,r,rfl,sn,nq,mq,P9⟩:=hp
    have P9:gY 30 r:=⟨P9.1,fun x hx=>by have:=P9.2 x hx;lia⟩
    walk_at "w"
    refine bH rfl ?_
    walk_at "w"
    refine bH rfl ?_
    walk_at "w"
    refine bH rfl ?_
    walk_at "w"
    exact k q Hn r nq sn mq P9
  | keys ks =>
   obtain ⟨ys,e1,hK⟩:=k8
   have lK:=hK.length
   refine bH rfl ?_
   walk_at "w"
   refine bH rfl ?_
   walk_at "w"
   refine d9 rfl ?_
   have Yv:=s1 _ _ e1
   walk_at "w"
   refine aU (fun h1=>?_) (fun h1=>?_)
   ·have oW:=aaQ h1
    obtain ⟨ak,wk,w,m0,E7,LQ,rfl,rfl,P7,P8⟩:∃ (ak wk:Addr) (w:List Int) (m0:Int) (E7:List V) (LQ:List (List Int×Int)),ys=.ref ak::E7/\ks=(w,m0)::LQ/\aN K H ak [.ref wk,.int m0]/\aN K H wk (w.map V.int):=by
     cases hK with
     | nil=>exact absurd oW (by simp)
     | cons h hw t=>exact⟨_,_,_,_,_,_,rfl,rfl,h,hw⟩
    have Ri:=bc.2 _ (.head _)
    have lw:w.length=5:=Ri.1
    have Ng:∀ x∈w,-30<=x/\x<=30:=fun x hx=>by have:=Ri.2.1 x hx;lia
    have Yw:=s1.at P7
    have hw:=s1.at P8
    walk_at "w"
    refine bH rfl ?_
    walk_at "w"
    refine du (aR.of Yv) (aS (j:=0) rfl) ?_
    walk_at "w"
    refine bz (by lia) fun u1 g1 g2=>?_
    walk_at "w"
    refine bz (by lia) fun u2 g3 g4=>?_
    walk_at "w"
    obtain ⟨j2,e2,b2⟩:∃ j2:Nat,(u1 % 5+1+u2 % 4) % 5=(j2:Int)/\j2<5:=⟨((u1 % 5+1+u2 % 4) % 5).toNat,by lia,by lia⟩
    rw [e2]
    obtain ⟨j1,e1,b1⟩:∃ j1:Nat,u1 % 5=(j1:Int)/\j1<5:=⟨(u1 % 5).toNat,by lia,by lia⟩
    rw [e1]
    refine eH hw (aS (int_at (by lia))) ?_
    walk_at "w"
    refine eY (j:=j1) m1 (dX b1) ?_
    have Qa:=cx (zs:=[V.int 0,.int 0,.int 0,.int 0,.int 0].set j1 (.int (0 - w.getD j2 0))) hw m1
    walk_at "w"
    refine eH Qa (aS (int_at (by lia))) ?_
    walk_at "w"
    refine eY (j:=j2) av (dX (by rw [length_set];exact b2)) ?_
    walk_at "w"
    have Ux:∀ j,j<5->-30<=w.getD j 0/\w.getD j 0<=30:=fun j hj=>Ng _ (by rw [List.getD,aaZ (show j<w.length by lia)];exact abA _)
    have z1:=Ux j1 b1
    have z2:=Ux j2 b2
    refine k p1 _ (([0,0,0,0,0].set j1 (0 - w.getD j2 0)).set j2 (w.getD j1 0)) n1 ((s1.bR n1).bR n1) (by rw [av,map_set,map_set];rfl) ⟨by rw [length_set,length_set];rfl,fun x hx=>?_⟩
    rcases mem_or_eq_of_mem_set hx with y|y
    ·rcases mem_or_eq_of_mem_set y with y|y
     ·simp only [aa9,not_mem_nil,or_false,or_self] at y
      rw [y]
      decide
     ·rw [y];lia
    ·rw [y];lia
   ·walk_at "w"
    exact k p1 H1 [0,0,0,0,0] n1 s1 m1 zero
  | cG w =>
   have hw:aN K H1 b (w.map V.int):=s1.at k8
   have lw:w.length=5:=bc.1
   have Ng:∀ x∈w,-30<=x/\x<=30:=bc.2.2
   refine bH rfl ?_
   walk_at "w"
   refine d9 rfl ?_
   walk_at "w"
   refine d9 rfl ?_
   walk_at "w"
   refine d9 rfl ?_
   walk_at "w"
   refine bz (by lia) fun u1 g1 g2=>?_
   walk_at "w"
   refine bz (by lia) fun u2 g3 g4=>?_
   walk_at "w"
   obtain ⟨j2,e2,b2⟩:∃ j2:Nat,(u1 % 5+1+u2 % 4) % 5=(j2:Int)/\j2<5:=⟨((u1 % 5+1+u2 % 4) % 5).toNat,by lia,by lia⟩
   rw [e2]
   obtain ⟨j1,e1,b1⟩:∃ j1:Nat,u1 % 5=(j1:Int)/\j1<5:=⟨(u1 % 5).toNat,by lia,by lia⟩
   rw [e1]
   refine eH hw (aS (int_at (by lia))) ?_
   walk_at "w"
   refine eY (j:=j1) m1 (dX b1) ?_
   have Qa:=cx (zs:=[V.int 0,.int 0,.int 0,.int 0,.int 0].set j1 (.int (0 - w.getD j2 0))) hw m1
   walk_at "w"
   refine eH Qa (aS (int_at (by lia))) ?_
   walk_at "w"
   refine eY (j:=j2) av (dX (by rw [length_set];exact b2)) ?_
   walk_at "w"
   have Ux:∀ j,j<5->-30<=w.getD j 0/\w.getD j 0<=30:=fun j hj=>Ng _ (by rw [List.getD,aaZ (show j<w.length by lia)];exact abA _)
   have z1:=Ux j1 b1
   have z2:=Ux j2 b2
   refine k p1 _ (([0,0,0,0,0].set j1 (0 - w.getD j2 0)).set j2 (w.getD j1 0)) n1 ((s1.bR n1).bR n1) (by rw [av,map_set,map_set];rfl) ⟨by rw [length_set,length_set];rfl,fun x hx=>?_⟩
   rcases mem_or_eq_of_mem_set hx with y|y
   ·rcases mem_or_eq_of_mem_set y with y|y
    ·simp only [aa9,not_mem_nil,or_false,or_self] at y
     rw [y]
     decide
    ·rw [y];lia
   ·rw [y];lia
theorem oB:aF ["_law_script","_law_counts","_law_bottom","_law_total","_law_bars","_law_at","_law_count","_law_left","_law_notes","_law_k","_law_cell","_law_more","_law_tone","_law_four"] ["_law_script"] (aq fH):=⟨rfl,rfl,rfl,by decide +kernel,rfl,by decide +kernel,by decide +kernel⟩
structure oC(P:Program)(w:World)(K:Frag)(mg:Str->Option Value)(base:Heap)(G:iK):Prop where
 aA:Ok P w K mg base 1 "_law_cell_at" ["_law_script","_law_k"] (bI K)
 ee:Ok P w K mg base 1 "_law_lowest" ["_law_top","_law_bottom"] (eL K)
 dO:Ok P w K mg base 1 "_law_digits" ["_law_cell","_law_base","_law_many"] (eM K)
theorem oE (D:Def K mg "_law_digit_tune" fH ["_law_script"]) (T:Txt K mg G) (O:oC P w K mg base G) (Y:base.NoSeer/\P.given.tree=none):Ok P w K mg base 2 "_law_digit_tune" ["_law_script"] (fj K):=by
 have S:=oB
 refine D.ok S (fun vs H Q E h=>?_) (fun f c7 A outer s H vs Q E hr h=>?_)
 ·obtain ⟨_,_,rfl,_⟩:=h;rfl
 ·obtain ⟨a,ns,rfl,ha,k⟩:=h
  have hu:=bo hr
  have aB:=T.aB
  have aj:=T.aj
  refine⟨_,(ag (dF (k:=1) (N:=["_law_digit"]) (ix:=[none]) S.nd rfl (Or.inl rfl) rfl (aW K rfl (az O.dO (hr.mono (by decide)) (aa (ah bx (az O.aA (hr.mono (by decide)) (aa (pv 0) (aa ae af))) ae) (aa ae (aa (ah aV ae (ah aC (az O.aA (hr.mono (by decide)) (aa (pv 0) (aa ae af))) ae)) af))))) (fun _ _ _ _ _=>(au (i:=0) (show eT ["_law_digit"] by decide +kernel) rfl (Or.inl rfl))) (fun _ _ _ _ _=>rfl) (fun _ _ _ _ _=>(ah aV ae (pv 0))) rfl (by decide +kernel) (by decide +kernel) rfl True.intro) (ag (aw (i:=2) S.nd rfl (Or.inl rfl) (ah aV ae (ah aC (az O.aA (hr.mono (by decide)) (aa (pv 0) (aa ae af))) ae))) (ag (aw (i:=3) S.nd rfl (Or.inl rfl) (ah aV (ba (iY K rfl rfl) rfl T.t5 boot_max (aa (pv 1) af)) (ah aC (az O.aA (hr.mono (by decide)) (aa (pv 0) (aa ae af))) (ah bF ae (ba (iY K rfl rfl) rfl T.t5 boot_max (aa (pv 1) af)))))) (ag (aw (i:=4) S.nd rfl (Or.inl rfl) (bG af)) (ag (dh PassesOwn.never rfl (nT K rfl false rfl T.hX (aa (pv 1) af)) (cw (n:=2) K rfl rfl (aJ (au (i:=5) S.nd rfl (Or.inl rfl)) (aJ (au (i:=6) S.nd rfl (Or.inl rfl)) cu))) (ag (aw (i:=7) S.nd rfl (Or.inl rfl) (ah bF (pv 3) (pv 6))) (ag (aw (i:=8) S.nd rfl (Or.inl rfl) (bG af)) (ag (dh PassesOwn.never rfl (cR rfl T.dJ (aa (pv 6) af)) (au (i:=9) S.nd rfl (Or.inl rfl)) (ag (aw (i:=10) S.nd rfl (Or.inl rfl) (ah aC (az O.aA (hr.mono (by decide)) (aa (pv 0) (aa (ah aV (ah aV ae (ah cV ae (pv 5))) (pv 9)) af))) (ah Bj ae ae))) (ag (aw (i:=11) S.nd rfl (Or.inl rfl) (pv 7)) (ag (bB (ay zi (pv 9) (ah bF (pv 6) ae) (aH _)) (ao (aw (i:=11) S.nd rfl (Or.inl rfl) (ah aC (ah Er (pv 10) (ah cV (ah cV ae ae) (ah Bj ae ae))) (ah aV (pv 7) ae)))) aK) (ag (aw (i:=7) S.nd rfl (Or.inl rfl) (ah bF (pv 7) (pv 11))) (ag (aw (i:=12) S.nd rfl (Or.inl rfl) ib) (ag (bB (ay gZ (ah aC (pv 10) ae) ae (aH _)) (ag (aw (i:=13) S.nd rfl (Or.inl rfl) (az O.dO (hr.mono (by decide)) (aa (ah bx (pv 10) (ah cV ae ae)) (aa ae (aa ae af))))) (ao (aw (i:=12) S.nd rfl (Or.inl rfl) (ah (nR K rfl) (aQ (aa (ah bF (ah aC (ah bx (pv 10) ae) ae) ae) af)) (bu (cH K rfl) rfl T.da boot_tuple (aa (bg (N:=["_law_number"]) (ix:=[none]) rfl (aW K rfl (pv 13)) (fun _ _ _ _ _=>(au (i:=0) (show eT ["_law_number"] by decide +kernel) rfl (Or.inl rfl))) (fun _ _ _ _ _=>rfl) (fun _ _ _ _ _=>(ah bF (pv 0) ae)) rfl (by decide +kernel) (by decide +kernel) rfl True.intro) af)))))) aK) (ao (ej (jE PySem.F.plainAttrs_list PySem.F.slot_list_append PySem.F.type_list_append cF (pv 8) (@aa _ _ _ _ _ (@aQ _ _ _ _ _ (aa (pv 12) (aa (az O.ee (hr.mono (by decide)) (aa (ah aV ae (pv 11)) (aa (pv 2) af))) af))) af (by rfl)))))))))))) (ao (ej (jE PySem.F.plainAttrs_list PySem.F.slot_list_append PySem.F.type_list_append cF (pv 4) (aa (pv 8) af)))))))) (ao (aG (aQ (aa (az O.ee (hr.mono (by decide)) (aa (pv 3) (aa (pv 2) af))) (aa (pv 4) af)))))))))),?_⟩
  walk_at "w"
  obtain ⟨c,hc⟩:∃ c,ns.getD (Int.toNat 10) 0=c:=⟨_,rfl⟩
  rw [hc]
  obtain ⟨N,hN,N1,N3⟩:∃ N:Nat,1+c % 3=(N:Int)/\1<=N/\N<=3:=⟨(1+c % 3).toNat,by lia,by lia,by lia⟩
  rw [hN]
  refine dN (n:=N) ⟨by decide,by lia⟩ fun ld H1 ds n1 s1 m1 VS FL=>?_
  walk_at "w"
  refine d7 (r:=ds) (fun x=>.int (1+x)) [] rfl (aR.of m1) (by lia) (fun x H' Qc hx s kc=>?_) (fun lc H2 n2 s2 m2=>?_)
  ·walk_at "w"
   exact kc _ (ai.refl _)
  have Nf:H2 lc=some (.lst ((ds.map fun x=>1+x).map V.int)):=by rw [abp];exact m2
  have JI:∀ x∈ds.map (fun x=>1+x),1<=x/\x<=3:=fun x hx=>by
   obtain ⟨y,hy,rfl⟩:=aba.mp hx
   have:=FL y hy
   lia
  have lcs:(ds.map fun x=>1+x).length=N:=by rw [aa5];exact VS
  generalize (ds.map fun x=>1+x)=cs at Nf JI lcs
  have MP:cs≠[]:=fun z=>by rw [z] at lcs;simp at lcs;lia
  have E8:=s1.trans s2
  have Rf:=E8.seq ha
  clear m1 m2 FL VS n1
  walk_at "w"
  refine lY (aR.of Nf) MP fun x1 Cj Uy=>?_
  walk_at "w"
  refine lY (aR.of Nf) MP fun x2 Ck G8=>?_
  have b1:=JI x1 Cj
  have b2:=JI x2 Ck
  have h5:0<5000 - x2:=by lia
  obtain ⟨bt,hbt,bt1,VT⟩:∃ b:Nat,1+ns.getD (Int.toNat 11) 0 % 9999=(b:Int)/\1<=b/\b<=9999:=⟨(1+ns.getD (Int.toNat 11) 0 % 9999).toNat,by lia,by lia,by lia⟩
  rw [hbt]
  have z1:=emod_nonneg (ns.getD (Int.toNat 12) 0) (show 5000 - x2≠0 by lia)
  have z2:=emod_lt_of_pos (ns.getD (Int.toNat 12) 0) h5
  walk_at "w"
  obtain ⟨tt,VU,tt1,tt2⟩:∃ t:Nat,x1+ns.getD (Int.toNat 12) 0 % (5000 - x2)=(t:Int)/\x1<=(t:Int)/\t<=5003:=⟨(x1+ns.getD (Int.toNat 12) 0 % (5000 - x2)).toNat,by lia,by lia,by lia⟩
  rw [VU]
  rename_i pl HL nL sL mL
  have s1L:=E8.trans sL
  have mcL:=sL _ _ Nf
  refine BX (k:=false) (xs:=cs.map V.int) (fun i σ Hn=>∃ (o5 o6 o7 o8 o9 yn Qb Nh JL:Option V) (ys:List V) (bs:List (List Nt)),σ=[some (.ref a),some (.ref lc),some (.int (bt:Int)),some (.int (tt:Int)),some (.ref pl),o5,o6,o7,o8,o9,yn,Qb,Nh,JL]/\ai H Hn/\Hn lc=some (.lst (cs.map V.int))/\Hn pl=some (.lst ys)/\cP K Hn ys bs/\(V.ref pl∉ys)/\bs.length=i/\(∀ gL∈bs,1<=gL.length/\gL.length<=12/\∀ n∈gL,Am 600 50 n.1/\fS n.2)) ⟨_,_,_,_,_,_,_,_,_,[],[],rfl,s1L,mcL,mL,.nil,(fun z=>nomatch z),rfl,(fun _ z=>nomatch z)⟩ (fun i σ Hn hp=>by obtain ⟨_,_,_,_,_,_,_,_,_,_,_,rfl,_,VV,_⟩:=hp;exact cX (aR.of VV)) (fun i x σ Hn Yt hx hp Bd=>?_) (fun σ Hn hp=>?_)
  ·obtain ⟨o5,o6,o7,o8,o9,yn,Qb,Nh,JL,ys,bs,rfl,sn,VV,mp,hB,hG,Yx,bc⟩:=hp
   obtain ⟨rfl,hci⟩:=cb hx
   have hcm:cs.getD i 0∈cs:=by rw [List.getD,aaZ hci];exact abA _
   have Lj:=JI _ hcm
   have Ke:=Uy _ hcm
   obtain ⟨ct,hct,ct1,ct3⟩:∃ n:Nat,cs.getD i 0=(n:Int)/\1<=n/\n<=3:=⟨(cs.getD i 0).toNat,by lia,by lia,by lia⟩
   rw [hct] at Lj Ke ⊢
   have lB:=hB.length
   have Ui:=Bd _ _ mp
   have Um:=(sn.trans Bd).seq ha
   walk_at "w"
   rename_i p2 Yy Yz Oj YA
   have ne2:p2≠pl:=fun z=>by rw [z,Ui] at Yz;cases Yz
   refine jU (fun i' σ Hm=>∃ (o9 yn Qb Nh JL:Option V) (left:Int) (ws:List V) (LS:List Nt),σ=[some (.ref a),some (.ref lc),some (.int (bt:Int)),some (.int (tt:Int)),some (.ref pl),some (.int (i:Int)),some (.int (ct:Int)),some (.int left),some (.ref p2),o9,yn,Qb,Nh,JL]/\ai Yt Hm/\Hm p2=some (.lst ws)/\bE K Hm ws LS/\LS.length=i'/\(0<=left/\left<=5003)/\∀ n∈LS,Am 600 50 n.1/\fS n.2) ⟨_,_,_,_,_,_,[],[],rfl,Oj,YA,.nil,rfl,by lia,(fun _ z=>nomatch z)⟩ (fun i' σ Hm BO hp=>?_) (fun σ Hm hp=>?_)
   ·obtain ⟨o9,yn,Qb,Nh,JL,left,ws,LS,rfl,sm,mw,VW,ln2,hlf,Uz⟩:=hp
    have Bb:i'<3:=by lia
    have haM:=sm.seq Um
    have lN:=VW.length
    walk_at "j"
    refine join (fun σ' H'=>∃ (cc more:Int),σ'=[some (.ref a),some (.ref lc),some (.int (bt:Int)),some (.int (tt:Int)),some (.ref pl),some (.int (i:Int)),some (.int (ct:Int)),some (.int left),some (.ref p2),some (.int (0+(i':Int))),some (.int cc),some (.int more),Nh,JL]/\H'=Hm/\0<=more/\more<=left) (fun nx eF=>?_) (fun σ' H7 hP=>?_)
    ·walk_at "w"
     refine aU (fun h1=>?_) (fun h1=>?_)
     ·have hlp:0<left+1:=by lia
      walk_at "w"
      refine eF _ _ ⟨_,_,rfl,rfl,?_,?_⟩
      ·exact emod_nonneg _ (by lia)
      ·exact Int.le_of_lt_add_one (emod_lt_of_pos _ hlp)
     ·walk_at "w"
      exact eF _ _ ⟨_,left,rfl,rfl,by lia,by lia⟩
    obtain ⟨cc,more,rfl,rfl,hm0,hmL⟩:=hP
    walk_at "j"
    refine join (fun σ' H'=>∃ (JL:Option V) (v:V) (o:Option Tn),σ'=[some (.ref a),some (.ref lc),some (.int (bt:Int)),some (.int (tt:Int)),some (.ref pl),some (.int (i:Int)),some (.int (ct:Int)),some (.int (left - more)),some (.ref p2),some (.int (0+(i':Int))),some (.int cc),some (.int more),some v,JL]/\ai H7 H'/\fg K H' v o/\Am 600 50 o) (fun nx eF=>?_) (fun σ' H8 hP=>?_)
    ·walk_at "w"
     refine aU (fun h1=>?_) (fun h1=>?_)
     ·walk_at "w"
      refine dN (n:=4) ⟨by decide,by decide⟩ fun ld H9 ds n9 s9 m9 VS FL=>?_
      walk_at "w"
      rename_i p5 H5 s5 m5
      have m9':=s5 _ _ m9
      refine d7 (r:=ds) (fun x=>.int (x - 50)) [] rfl (aR.of m9') (by lia) (fun x H' Qc hx s kc=>?_) (fun l6 H6 n6 s6 m6=>?_)
      ·walk_at "w"
       exact kc _ (ai.refl _)
      walk_at "w"
      rename_i p7 H7' s7 m7
      have mw':H7' p7=some (.tup ((ds.map fun x=>x - 50).map V.int)):=by rw [m7,abp];rfl
      have Ni:∀ x∈ds.map (fun x=>x - 50),-50<=x/\x<=50:=fun x Ck=>by
       obtain ⟨y,hy,rfl⟩:=aba.mp Ck
       have:=FL y hy
       lia
      have l4:(ds.map fun x=>x - 50).length=4:=by rw [aa5];exact VS
      generalize (ds.map fun x=>x - 50)=zs at mw' Ni l4
      obtain ⟨y1,y2,y3,y4,rfl⟩:∃ y1 y2 y3 y4,zs=[y1,y2,y3,y4]:=by match zs,l4 with|[y1,y2,y3,y4],_=>exact⟨_,_,_,_,rfl⟩
      refine xy ((s6.trans s7).at (aN.of m5)) (aN.of mw') (fun z=>nomatch z) (fun z=>nomatch z) (by show 1+4<=1000;decide) fun pA HA sA mA=>?_
      refine eF _ _ ⟨_,.ref pA,some (.row [cc / 5 % 1201 - 600,y1,y2,y3,y4]),rfl,(((s9.trans s5).trans s6).trans s7).trans sA,⟨pA,rfl,aN.of mA,by show 5<=100;decide⟩,⟨_,y1,y2,y3,y4,rfl,by lia,Ni y1 (by simp),Ni y2 (by simp),Ni y3 (by simp),Ni y4 (by simp)⟩⟩
     ·walk_at "w"
      exact eF _ _ ⟨_,.dz,none,rfl,ai.refl _,rfl,trivial⟩
    obtain ⟨o13',v,o,rfl,s8,hv,ho⟩:=hP
    obtain ⟨mo,hmo,mo1,mo2⟩:∃ m:Nat,1+more=(m:Int)/\1<=m/\m<=5004:=⟨(1+more).toNat,by lia,by lia,by lia⟩
    walk_at "w"
    rw [hmo]
    refine en (by lia) (abd VT (by decide +kernel)) fun p9 H9 s9 m9=>?_
    walk_at "w"
    rename_i pA HA sA mA
    have YB:=(s8.trans s9).trans sA
    have eA:=YB _ _ mw
    refine dQ eA (by lia) ?_
    walk_at "w"
    refine⟨_,_,_,_,_,_,ws++[.ref pA],LS++[(o,((mo / Nat.gcd mo bt:Nat):Int),((bt / Nat.gcd mo bt:Nat):Int))],rfl,(sm.trans YB).bR Yz,av,((VW.same YB).off eA).snoc (n:=(o,((mo / Nat.gcd mo bt:Nat):Int),((bt / Nat.gcd mo bt:Nat):Int))) (cZ.off ⟨pA,v,p9,rfl,aN.of mA,hv.same (s9.trans sA),sA.at (aN.of m9)⟩ eA),by simp [ln2],by lia,fun q hq=>?_⟩
    rcases aa3.mp hq with y|y
    ·exact Uz q y
    ·rw [aa2.mp y]
     exact⟨ho,si (by lia) VT⟩
   ·obtain ⟨o9,yn,Qb,Nh,JL,left,ws,LS,rfl,sm,mw,VW,ln2,hlf,Uz⟩:=hp
    have e1:=sm _ _ Ui
    walk_at "w"
    refine dQ e1 (by lia) ?_
    walk_at "w"
    refine⟨_,_,_,_,_,_,_,_,_,ys++[.ref p2],bs++[LS],rfl,((sn.trans Bd).trans sm).bR ((E8).new nL),?_,av,((hB.same (Bd.trans sm)).off e1 hG).snoc (by rw [ax ne2];exact mw) (VW.off e1),fun z=>?_,by simp [Yx],fun q hq=>?_⟩
    ·have:=(Bd.trans sm) _ _ VV
     rw [ax (fun z=>by rw [z] at Nf;rw [Nf] at nL;cases nL)]
     exact this
    ·rcases aa3.mp z with z|z
     ·exact hG z
     ·have:=aa2.mp z
      cases this
      exact ne2 rfl
    ·rcases aa3.mp hq with z|z
     ·exact bc q z
     ·rw [aa2.mp z]
      exact⟨by lia,by lia,Uz⟩
  ·obtain ⟨o5,o6,o7,o8,o9,yn,Qb,Nh,JL,ys,bs,rfl,sn,VV,mp,hB,hG,Yx,bc⟩:=hp
   rw [aa5,lcs] at Yx
   walk_at "w"
   refine en (by lia) (abd VT (by decide +kernel)) fun p7 H7 s7 m7=>?_
   walk_at "w"
   rename_i p8 H8 s8 m8
   have sB:=s7.trans s8
   exact k p8 p7 pl H8 (_,_) ys bs (sn.trans sB) ⟨aN.of m8,s8.at (aN.of m7),sB _ _ mp,hB.same sB⟩ ⟨by lia,by lia,fun gL hn=>⟨(bc gL hn).1,(bc gL hn).2.1,fun n hm=>((bc gL hn).2.2 n hm).1⟩⟩ (fun gL hn n hm=>((bc gL hn).2.2 n hm).2) (si (by lia) VT)
theorem oF:aF ["_law_script","_law_kind","_law_steps_here","_law_place","_law_cell","_law_step","_law_keys_here","_law_k","_law_w"] ["_law_script","_law_kind"] (aq fI):=⟨rfl,rfl,rfl,by decide +kernel,rfl,by decide +kernel,by decide +kernel⟩
structure oG(P:Program)(w:World)(K:Frag)(mg:Str->Option Value)(base:Heap)(G:iK):Prop where
 aA:Ok P w K mg base 1 "_law_cell_at" ["_law_script","_law_k"] (bI K)
 dO:Ok P w K mg base 1 "_law_digits" ["_law_cell","_law_base","_law_many"] (eM K)
theorem oH (D:Def K mg "_law_digit_told" fI ["_law_script","_law_kind"]) (T:Txt K mg G) (O:oG P w K mg base G) (Y:base.NoSeer/\P.given.tree=none):Ok P w K mg base 2 "_law_digit_told" ["_law_script","_law_kind"] (fk K):=by
 have S:=oF
 refine D.ok S (fun vs H Q E h=>?_) (fun f c7 A outer s H vs Q E hr h=>?_)
 ·obtain ⟨_,_,_,rfl,_⟩:=h;rfl
 ·obtain ⟨a,ns,kn,rfl,ha,Pa,k⟩:=h
  have hu:=bo hr
  have aB:=T.aB
  have aj:=T.aj
  refine⟨_,(ag (bB (ay bM (pv 1) ae (aH _)) (ag (aw (i:=2) S.nd rfl (Or.inl rfl) (bG af)) (ag (dh PassesOwn.never rfl (EL rfl T.dJ rfl T.t6 (aa ae af)) (au (i:=3) S.nd rfl (Or.inl rfl)) (ag (aw (i:=4) S.nd rfl (Or.inl rfl) (az O.aA (hr.mono (by decide)) (aa (pv 0) (aa (ah aV ae (pv 3)) af)))) (ao (bB (ay bM (ah aC (pv 4) ae) ae (aH _)) (ag (dF (k:=5) (N:=["_law_digit"]) (ix:=[none]) S.nd rfl (Or.inl rfl) rfl (aW K rfl (az O.dO (hr.mono (by decide)) (aa (ah bx (pv 4) ae) (aa ae (aa (pv 3) af))))) (fun _ _ _ _ _=>(au (i:=0) (show eT ["_law_digit"] by decide +kernel) rfl (Or.inl rfl))) (fun _ _ _ _ _=>rfl) (fun _ _ _ _ _=>(ah bF (pv 0) ae)) rfl (by decide +kernel) (by decide +kernel) rfl True.intro) (ao (ej (jE PySem.F.plainAttrs_list PySem.F.slot_list_append PySem.F.type_list_append cF (pv 2) (aa (ah fC (ah fC (pv 5) (bG (aa (ah aV ae (ah aC (ah bx (pv 4) ae) ae)) af))) (ah Gu (bG (aa ae af)) (ah bF ae (pv 3)))) af))))) aK)))) (ao (aG (pv 2))))) aK) (ag (bB (ay bM (pv 1) ae (aH _)) (ag (aw (i:=6) S.nd rfl (Or.inl rfl) (bG af)) (ag (dh PassesOwn.never rfl (cR rfl T.dJ (aa (ah aC (az O.aA (hr.mono (by decide)) (aa (pv 0) (aa ae af))) ae) af)) (au (i:=7) S.nd rfl (Or.inl rfl)) (ag (aw (i:=4) S.nd rfl (Or.inl rfl) (az O.aA (hr.mono (by decide)) (aa (pv 0) (aa (ah aV ae (pv 7)) af)))) (ag (aw (i:=8) S.nd rfl (Or.inl rfl) (bu (cH K rfl) rfl T.da boot_tuple (aa (bg (N:=["_law_digit"]) (ix:=[none]) rfl (aW K rfl (az O.dO (hr.mono (by decide)) (aa (ah bx (pv 4) ae) (aa ae (aa ae af))))) (fun _ _ _ _ _=>(au (i:=0) (show eT ["_law_digit"] by decide +kernel) rfl (Or.inl rfl))) (fun _ _ _ _ _=>rfl) (fun _ _ _ _ _=>(ah bF (pv 0) ae)) rfl (by decide +kernel) (by decide +kernel) rfl True.intro) af))) (ao (ej (jE PySem.F.plainAttrs_list PySem.F.slot_list_append PySem.F.type_list_append cF (pv 6) (@aa _ _ _ _ _ (@aQ _ _ _ _ _ (aa (pv 8) (aa (ah aV (ah cV (ah aC (ah bx (pv 4) ae) ae) (ah aC (pv 4) ae)) (ah cV ae (ah aC (pv 4) ae))) af))) af (by rfl)))))))) (ao (aG (pv 6))))) aK) (ag (aw (i:=4) S.nd rfl (Or.inl rfl) (az O.aA (hr.mono (by decide)) (aa (pv 0) (aa ae af)))) (ao (aG (ah (nR K rfl) (aQ (aa (ah aV ae (ah aC (pv 4) ae)) af)) (bu (cH K rfl) rfl T.da boot_tuple (aa (bg (N:=["_law_digit"]) (ix:=[none]) rfl (aW K rfl (az O.dO (hr.mono (by decide)) (aa (ah bx (pv 4) ae) (aa ae (aa ae af))))) (fun _ _ _ _ _=>(au (i:=0) (show eT ["_law_digit"] by decide +kernel) rfl (Or.inl rfl))) (fun _ _ _ _ _=>rfl) (fun _ _ _ _ _=>(ah bF (pv 0) ae)) rfl (by decide +kernel) (by decide +kernel) rfl True.intro) af)))))))),?_⟩
  walk_at "w"
  refine aU (fun h1=>?_) (fun h1=>?_)
  ·have oW:kn=1:=by simpa using h1
   walk_at "w"
   rename_i pl HL nL sL mL
   refine Ll ?_
   walk_at "w"
   refine Pp (by decide) ?_
   refine Hj (fun i σ Hn=>∃ (o3 o4 o5:Option V) (ys:List V) (rs:List (List Int)) (ps:List Nat),σ=[some (.ref a),some (.int kn),some (.ref pl),o3,o4,o5,none,none,none]/\ai H Hn/\Hn pl=some (.lst ys)/\cp Hn ys rs/\(∀ x∈ys,x≠V.ref pl)/\ps.length=rs.length/\rs.length<=i/\ps.Pairwise (fun p q=>q<p)/\(∀ p∈ps,5<=p+i/\p<=4)/\(∀ (j:Nat) (r:List Int),rs[j]?=some r->Led r (ps.getD j 0)/\r.length=5/\∀ x∈r,-3<=x/\x<=3)) ⟨_,_,_,[],[],[],rfl,sL,mL,.nil,(fun _ z=>nomatch z),rfl,aaM _,.nil,(fun _ z=>nomatch z),fun j r h=>by simp at h⟩ (fun i σ Hn hi hp=>?_) (fun σ Hn hp=>?_)
   ·obtain ⟨o3,o4,o5,ys,rs,ps,rfl,sn,mp,hR,hG,Rj,LN,VX,LM,hl⟩:=hp
    have hi5:i<5:=by lia
    obtain ⟨P,hP,hP4⟩:∃ P:Nat,(5:Int) - 1 - (i:Int)=(P:Int)/\P+i=4:=⟨4 - i,by lia,by lia⟩
    rw [hP]
    have Um:=sn.seq ha
    walk_at "w"
    obtain ⟨c,hc⟩:∃ c,ns.getD (4+(P:Int)).toNat 0=c:=⟨_,rfl⟩
    rw [hc]
    refine aU (fun h2=>?_) (fun h2=>?_)
    ·walk_at "w"
     refine dN (n:=P) ⟨by decide,by lia⟩ fun ld H5 xs n5 s5 m5 lx hx=>?_
     walk_at "w"
     refine d7 (r:=xs) (fun x=>.int (x - 2)) [] rfl (aR.of m5) (by lia) (fun x H' Qc hx s kc=>?_) (fun l6 H6 n6 s6 m6=>?_)
     ·walk_at "w"
      exact kc _ (ai.refl _)
     walk_at "w"
     rename_i p6 VY n6' Rk Rl p7 H7 n7 s7 m7 p9 H9 n9 s9 m9
     rw [show (4:Int) - (P:Int)=((4 - P:Nat):Int) by lia]
     refine M0 m9 (by show 1*(4 - P)<=1000;lia) (fun pA HA nA sA mA=>?_) (by lia)
     have er:(List.replicate (4 - P) [V.int 0]).flatten=(List.replicate (4 - P) (0:Int)).map V.int:=by rw [List.map_replicate,List.flatten_replicate_singleton]
     rw [er] at mA
     refine Dv (sA _ _ (s9 _ _ m7)) mA (by rw [aa6,aa5,aa5,length_replicate];show _+1+_<=_;lia) fun pB HB nB sB mB=>?_
     have Rc:=((((s5.trans s6).trans Rk).trans s7).trans s9).trans sA
     have PU:=Rc.trans sB
     have eB:=PU _ _ mp
     have lR:=hR.length
     walk_at "w"
     refine dQ eB (by lia) ?_
     walk_at "w"
     have Up:0<1+c / 2 % 3:=by lia
     have Uq:Hn pB=none:=Rc.new nB
     have Ur:pB≠pl:=fun z=>by rw [z,mp] at Uq;cases Uq
     have Uo:(xs.map fun x=>x - 2).length=P:=by rw [aa5];exact lx
     refine⟨_,_,_,ys++[.ref pB],rs++[(xs.map fun x=>x - 2)++[1+c / 2 % 3]++List.replicate (4 - P) 0],ps++[P],rfl,(sn.trans PU).bR nL,av,?_,fun x lP=>?_,by simp [Rj],by simp;lia,?_,fun p hp=>?_,fun j' r hr=>?_⟩
     ·refine ((hR.same PU).off hG).append (.cons ?_ .nil)
      rw [ax Ur,mB,abo,abo,abp]
      rfl
     ·rcases aa3.mp lP with z|z
      ·exact hG x z
      ·rw [aa2.mp z]
       intro e
       cases e
       exact Ur rfl
     ·rw [List.pairwise_append]
      refine⟨VX,List.pairwise_singleton _ _,fun p hp q hq=>?_⟩
      rw [aa2.mp hq]
      have:=LM p hp
      lia
     ·rcases aa3.mp hp with z|z
      ·have:=LM p z
       lia
      ·rw [aa2.mp z]
       lia
     ·by_cases lV:j'<rs.length
      ·rw [abg lV] at hr
       have:=hl j' r hr
       rw [List.getD,abg (by lia)]
       exact this
      ·have PX:=(aaI.mp hr).1
       rw [aa6,aa7] at PX
       obtain rfl:j'=rs.length:=by lia
       rw [abh (by lia),Nat.sub_self] at hr
       cases hr
       rw [List.getD,abh (by lia),show rs.length - ps.length=0 by lia]
       refine⟨HQ Uo Up,by rw [aa6,aa6,length_replicate,Uo];show P+1+(4 - P)=5;lia,fun x Ck=>?_⟩
       rcases aa3.mp Ck with z|z
       ·rcases aa3.mp z with z|z
        ·obtain ⟨y,hy,rfl⟩:=aba.mp z
         have:=hx y hy
         lia
        ·rw [aa2.mp z];lia
       ·rw [(List.mem_replicate.mp z).2];lia
    ·walk_at "w"
     refine⟨_,_,_,ys,rs,ps,rfl,sn,mp,hR,hG,Rj,by lia,VX,fun p hp=>by have:=LM p hp;lia,hl⟩
   ·obtain ⟨o3,o4,o5,ys,rs,ps,rfl,sn,mp,hR,hG,Rj,LN,VX,LM,hl⟩:=hp
    walk_at "w"
    refine k pl (.steps rs) Hn sn ⟨ys,mp,hR,hG⟩ (DI.of (pl:=fun j=>ps.getD j 0) LN (fun i j h1 h2=>?_) hl) oW.symm
    have hj:j<ps.length:=by lia
    have:=List.pairwise_iff_getElem.mp VX i j (by lia) hj h1
    show ps.getD j 0<ps.getD i 0
    rw [List.getD,List.getD,aaZ hj,aaZ (show i<ps.length by lia)]
    exact this
  ·have oW:kn≠1:=by simpa using h1
   walk_at "w"
   refine aU (fun h2=>?_) (fun h2=>?_)
   ·have MG:kn=2:=by simpa using h2
    walk_at "w"
    rename_i pl HL nL sL mL
    obtain ⟨N,hN,hN3⟩:∃ N:Nat,(ns.getD (Int.toNat 4) 0 % 4).toNat=N/\N<=3:=⟨_,rfl,by lia⟩
    rw [hN]
    refine jU (fun i σ Hn=>∃ (o4 o7 o8:Option V) (ys:List V) (ks:List (List Int×Int)),σ=[some (.ref a),some (.int kn),none,none,o4,none,some (.ref pl),o7,o8]/\ai H Hn/\Hn pl=some (.lst ys)/\bY K Hn ys ks/\ks.length=i/\(∀ k∈ks,k.1.length=5/\(∀ x∈k.1,-10<=x/\x<=10)/\(k.2=0\/2<=k.2)/\k.2<=100)) ⟨_,_,_,[],[],rfl,sL,mL,.nil,rfl,(fun _ z=>nomatch z)⟩ (fun i σ Hn hi hp=>?_) (fun σ Hn hp=>?_)
    ·obtain ⟨o4,o7,o8,ys,ks,rfl,sn,mp,hK,P6,hk⟩:=hp
     have Bb:i<3:=by lia
     have Um:=sn.seq ha
     have lK:=hK.length
     walk_at "w"
     obtain ⟨c,hc⟩:∃ c,ns.getD (5+(0+(i:Int))).toNat 0=c:=⟨_,rfl⟩
     rw [hc]
     refine dN (n:=5) ⟨by decide,by decide⟩ fun ld H5 xs n5 s5 m5 lx hx=>?_
     walk_at "w"
     refine d7 (r:=xs) (fun x=>.int (x - 10)) [] rfl (aR.of m5) (by lia) (fun x H' Qc hx s kc=>?_) (fun l6 H6 n6 s6 m6=>?_)
     ·walk_at "w"
      exact kc _ (ai.refl _)
     walk_at "w"
     rename_i p6 VY Rk Rl p7 H7 s7 m7
     have IF:=((s5.trans s6).trans Rk).trans s7
     have eK:=IF _ _ mp
     have mw:VY p6=some (.tup ((xs.map fun x=>x - 10).map V.int)):=by rw [Rl,abp];rfl
     refine dQ eK (by lia) ?_
     walk_at "w"
     refine⟨_,_,_,ys++[.ref p7],ks++[(xs.map fun x=>x - 10,_)],rfl,(sn.trans IF).bR nL,av,((hK.same IF).off eK).snoc (cx (aN.of m7) eK) (cx (s7.at (aN.of mw)) eK),by simp [P6],fun q' FK=>?_⟩
     rcases aa3.mp FK with z|z
     ·exact hk q' z
     ·rw [aa2.mp z]
      refine⟨by rw [aa5];exact lx,fun x Ck=>?_,?_,?_⟩
      ·obtain ⟨y,hy,rfl⟩:=aba.mp Ck
       have:=hx y hy
       lia
      ·rcases (show c % 2=0\/c % 2=1 by lia) with e|e
       ·left
        show c / 2 % 99*(c % 2)+2*(c % 2)=0
        rw [e]
        lia
       ·right
        show 2<=c / 2 % 99*(c % 2)+2*(c % 2)
        rw [e]
        lia
      ·show c / 2 % 99*(c % 2)+2*(c % 2)<=100
       rcases (show c % 2=0\/c % 2=1 by lia) with e|e <;> rw [e] <;> lia
    ·obtain ⟨o4,o7,o8,ys,ks,rfl,sn,mp,hK,P6,hk⟩:=hp
     walk_at "w"
     exact k pl (.keys ks) Hn sn ⟨ys,mp,hK⟩ ⟨by lia,hk⟩ MG.symm
   ·have MG:kn≠2:=by simpa using h2
    walk_at "w"
    obtain ⟨c,hc⟩:∃ c,ns.getD (Int.toNat 4) 0=c:=⟨_,rfl⟩
    rw [hc]
    rename_i p1 H1 s1 m1
    rw [hc] at m1
    refine dN (n:=4) ⟨by decide,by decide⟩ fun ld H5 xs n5 s5 m5 lx hx=>?_
    walk_at "w"
    refine d7 (r:=xs) (fun x=>.int (x - 10)) [] rfl (aR.of m5) (by lia) (fun x H' Qc hx s kc=>?_) (fun l6 H6 n6 s6 m6=>?_)
    ·walk_at "w"
     exact kc _ (ai.refl _)
    walk_at "w"
    rename_i p6 VY Rk Rl
    have mw:VY p6=some (.tup ((xs.map fun x=>x - 10).map V.int)):=by rw [Rl,abp];rfl
    have Ni:∀ x∈xs.map (fun x=>x - 10),-10<=x/\x<=10:=fun x Ck=>by
     obtain ⟨y,hy,rfl⟩:=aba.mp Ck
     have:=hx y hy
     lia
    have l4:(xs.map fun x=>x - 10).length=4:=by rw [aa5];exact lx
    generalize (xs.map fun x=>x - 10)=zs at mw Ni l4
    obtain ⟨x1,x2,x3,x4,rfl⟩:∃ x1 x2 x3 x4,zs=[x1,x2,x3,x4]:=by match zs,l4 with|[x1,x2,x3,x4],_=>exact⟨_,_,_,_,rfl⟩
    refine xy (((s5.trans s6).trans Rk).at (aN.of m1)) (aN.of mw) (fun z=>nomatch z) (fun z=>nomatch z) (by show 1+4<=1000;decide) fun p7 H7 s7 m7=>?_
    have hw:aN K H7 p7 ([1+c % 10,x1,x2,x3,x4].map V.int):=aN.of m7
    have sA:=(((s1.trans s5).trans s6).trans Rk).trans s7
    have hb:∀ x∈[1+c % 10,x1,x2,x3,x4],-30<=x/\x<=30:=fun x lP=>by
     rcases aa9.mp lP with rfl|lP
     ·lia
     ·have:=Ni x lP
      lia
    rcases (show kn=0\/kn=3 by lia) with rfl|rfl
    ·exact k p7 (.plain _) H7 sA hw rfl rfl
    ·exact k p7 (.cG _) H7 sA hw ⟨rfl,by show 1<=1+c % 10;lia,hb⟩ rfl
theorem oJ:aF ["_law_script","_law_kind","_law_told_here","_law_cell","_law_other_here","_law_row","_law_digit","_law_step","_law_w","_law_one","_law_two"] ["_law_script","_law_kind","_law_told_here"] (aq fJ):=⟨rfl,rfl,rfl,by decide +kernel,rfl,by decide +kernel,by decide +kernel⟩
structure oK(P:Program)(w:World)(K:Frag)(mg:Str->Option Value)(base:Heap)(G:iK):Prop where
 aA:Ok P w K mg base 1 "_law_cell_at" ["_law_script","_law_k"] (bI K)
 dO:Ok P w K mg base 1 "_law_digits" ["_law_cell","_law_base","_law_many"] (eM K)
theorem oM (D:Def K mg "_law_digit_span" fJ ["_law_script","_law_kind","_law_told_here"]) (T:Txt K mg G) (O:oK P w K mg base G) (Y:base.NoSeer/\P.given.tree=none):Ok P w K mg base 2 "_law_digit_span" ["_law_script","_law_kind","_law_told_here"] (fo K):=by
 have S:=oJ
 refine D.ok S (fun vs H Q E h=>?_) (fun f c7 A outer s H vs Q E hr h=>?_)
 ·obtain ⟨_,_,_,_,rfl,_⟩:=h;rfl
 ·obtain ⟨a,b,ns,d,rfl,ha,k8,bc,k⟩:=h
  have hu:=bo hr
  have aB:=T.aB
  have aj:=T.aj
  refine⟨_,(@ag _ _ _ _ _ (aw (i:=3) S.nd rfl (Or.inl rfl) (az O.aA (hr.mono (by decide)) (aa (pv 0) (aa ae af)))) (@ag _ _ _ _ _ (aw (i:=4) S.nd rfl (Or.inl rfl) (az O.aA (hr.mono (by decide)) (aa (pv 0) (aa ae af)))) (@ag _ _ _ _ _ (@aw _ _ 5 _ _ _ _ S.nd rfl (Or.inl rfl) (@nY _ _ _ _ (by rfl)) (by rfl) (by first|exact .inl rfl|exact .inr rfl|assumption)) (ag (bB (ay bM (pv 1) ae (aH _)) (ao (dh PassesOwn.never rfl (dR K rfl false false rfl T.iM (aa (az O.dO (hr.mono (by decide)) (aa (pv 4) (aa ae (aa ae af)))) (aa (pv 2) af))) (cw (n:=2) K rfl rfl (aJ (au (i:=6) S.nd rfl (Or.inr rfl)) (aJ (au (i:=7) S.nd rfl (Or.inl rfl)) cu))) (ao (dF (k:=5) (N:=["_law_x","_law_y","_law_digit"]) (ix:=[none,none,some 6]) S.nd rfl (Or.inl rfl) rfl (dR K rfl false false rfl T.iM (aa (pv 5) (aa (pv 7) af))) (fun _ _ _ _ _=>(cw (n:=2) K rfl rfl (aJ (au (i:=0) (show eT ["_law_x","_law_y","_law_digit"] by decide +kernel) rfl (Or.inl rfl)) (aJ (au (i:=1) (show eT ["_law_x","_law_y","_law_digit"] by decide +kernel) rfl (Or.inl rfl)) cu)))) (fun _ _ _ _ _=>rfl) (fun _ _ _ _ _=>(ah aV (pv 0) (ah cV (ah bF (pv 2) ae) (pv 1)))) rfl (by decide +kernel) (by decide +kernel) rfl ⟨⟨rfl,Or.inr (Or.inl rfl),rfl,rfl⟩,True.intro⟩)))) aK) (ag (bB (PW.pt (zf (ay bM (pv 1) ae (aH _)) (sO (PW.pt (sQ (ay bM (pv 1) ae (aH _)) (nz (ay gZ (ba (fF K rfl) rfl T.iL PySem.boot_len (aa (pv 2) af)) ae (aH _)))))))) (ag (aw (i:=8) S.nd rfl (Or.inl rfl) (gm (ay bM (pv 1) ae (aH _)) (pv 2) (aM (aD K rfl) (aM (aD K rfl) (pv 2) ae (fun _ _=>rfl)) ae (fun _ _=>rfl)))) (ag (aw (i:=9) S.nd rfl (Or.inl rfl) (ah aC (pv 4) ae)) (ag (aw (i:=10) S.nd rfl (Or.inl rfl) (ah aC (ah aV (ah aV (pv 9) ae) (ah aC (ah bx (pv 4) ae) ae)) ae)) (ag (gn (ah bF ae (aM (aD K rfl) (pv 8) (pv 10) (fun _ _=>rfl))) (iP (pv 5) (pv 9) set_list)) (ao (gn (aM (aD K rfl) (pv 8) (pv 9) (fun _ _=>rfl)) (iP (pv 5) (pv 10) set_list))))))) aK) (ag (bB (ay bM (ah aC (pv 3) ae) ae (aH _)) (ao (gn (ah bF (ah aV (aM (aD K rfl) (pv 5) (ah aC (ah bx (pv 3) ae) ae) (fun _ _=>rfl)) ae) (ah cV ae (ah aC (ah bx (pv 3) ae) ae))) (iP (pv 5) (ah aC (ah bx (pv 3) ae) ae) set_list))) aK) (ag (bB (ay bM (ah aC (pv 3) ae) ae (aH _)) (ao (aw (i:=5) S.nd rfl (Or.inl rfl) (ah fC (bG (aa (ah bF (ah aC (pv 4) ae) ae) af)) (bg (N:=["_law_digit"]) (ix:=[none]) rfl (aW K rfl (az O.dO (hr.mono (by decide)) (aa (ah bx (pv 4) ae) (aa ae (aa ae af))))) (fun _ _ _ _ _=>(au (i:=0) (show eT ["_law_digit"] by decide +kernel) rfl (Or.inl rfl))) (fun _ _ _ _ _=>rfl) (fun _ _ _ _ _=>(ah bF (pv 0) ae)) rfl (by decide +kernel) (by decide +kernel) rfl True.intro)))) aK) (ag (bB (PW.pt (zf (ay gZ (ba kI rfl T.DM boot_abs (aa (aM (aD K rfl) (pv 5) ae (fun _ _=>rfl)) af)) ae (aH _)) (sO (ay gZ (ba (iY K rfl rfl) rfl T.t5 boot_max (aa (bg (N:=["_law_number"]) (ix:=[none]) rfl (aW K rfl (gp (jT K rfl) (pv 5) (iS ae) iR)) (fun _ _ _ _ _=>(au (i:=0) (show eT ["_law_number"] by decide +kernel) rfl (Or.inl rfl))) (fun _ _ _ _ _=>rfl) (fun _ _ _ _ _=>(ba kI rfl T.DM boot_abs (aa (pv 0) af))) rfl (by decide +kernel) (by decide +kernel) rfl True.intro) af)) ae (aH _))))) (ao (aG (aQ (aa ae (aa ae (aa ae (aa ae (aa ae af)))))))) aK) (ao (aG (bu (cH K rfl) rfl T.da boot_tuple (aa (pv 5) af)))))))))))),?_⟩
  walk_at "j"
  rename_i p1 H1 n1 s1 m1
  obtain ⟨c,hc⟩:∃ c,ns.getD (Int.toNat 2) 0=c:=⟨_,rfl⟩
  obtain ⟨e,he⟩:∃ e,ns.getD (Int.toNat 3) 0=e:=⟨_,rfl⟩
  rw [hc,he]
  refine join (fun σ' H'=>∃ (o6 o7 o8 o9 yn:Option V) (q:Addr) (r:List Int),σ'=[some (.ref a),some (.int d.num),some (.ref b),some (.int c),some (.int e),some (.ref q),o6,o7,o8,o9,yn]/\ai H H'/\H q=none/\H' q=some (.lst (r.map V.int))/\r.length=5) (fun nx eF=>?_) (fun σ' H2 hP=>?_)
  ·cases d with
   | plain w =>
    walk_at "w"
    refine bH rfl ?_
    walk_at "w"
    exact eF _ _ ⟨_,_,_,_,_,p1,[0,0,0,0,0],rfl,s1,n1,m1,rfl⟩
   | steps rs =>
    obtain ⟨ys,e1,hR,e3⟩:=k8
    have lR:=hR.length
    have h5:=bc.cnt
    walk_at "w"
    refine d9 rfl ?_
    walk_at "w"
    refine dN (n:=5) ⟨by decide,by decide⟩ fun ld H3 ds n3 s3 m3 ld5 FL=>?_
    walk_at "w"
    refine Lg (k1:=false) (k2:=false) (xs:=ds.map V.int) (ys:=ys) (by rw [aa5];lia) (fun i σ Hn=>∃ (o6 o7:Option V) (q:Addr) (r:List Int),σ=[some (.ref a),some (.int (Kd.steps rs).num),some (.ref b),some (.int c),some (.int e),some (.ref q),o6,o7,none,none,none]/\ai H1 Hn/\Hn ld=some (.lst (ds.map V.int))/\H q=none/\Hn q=some (.lst (r.map V.int))/\r.length=5) ⟨_,_,p1,[0,0,0,0,0],rfl,s3,m3,n1,s3 _ _ m1,rfl⟩ (fun i σ Hn hp=>by obtain ⟨_,_,_,_,rfl,sn,V0,_⟩:=hp;exact⟨cX (aR.of V0),cX (aR.of ((s1.trans sn) _ _ e1))⟩) (fun i x y σ Hn Yt hx hy hp Bd=>?_) (fun σ Hn hp=>?_)
    ·obtain ⟨o6,o7,q,r,rfl,sn,V0,nq,mq,lr⟩:=hp
     obtain ⟨rfl,hdi⟩:=cb hx
     have u7:=FL (ds.getD i 0) (by rw [List.getD,aaZ hdi];exact abA _)
     obtain ⟨dg,hdg⟩:∃ z,ds.getD i 0=z:=⟨_,rfl⟩
     rw [hdg] at u7 ⊢
     obtain ⟨as,s,rfl,hs,LL⟩:=(hR.same (s1.trans (sn.trans Bd))).get hy
     have ls:=bc.len s (aa4 LL)
     have FR:=bc.sm s (aa4 LL)
     have Yu:=Bd _ _ mq
     walk_at "w"
     obtain ⟨u0,u1,u2,u3,u4,rfl⟩:=cJ lr
     obtain ⟨w0,w1,w2,w3,w4,rfl⟩:=cJ ls
     refine fR (k1:=false) (k2:=false) [some (.int dg)] (fun n=>.int (([u0,u1,u2,u3,u4]:List Int).getD n 0+(dg - 2)*([w0,w1,w2,w3,w4]:List Int).getD n 0)) rfl (cX (aR.of Yu)) (cX (aR.of hs)) rfl (by show 5<=1000000;decide) (fun n x y H' Qc hx hy s kc=>?_) (fun l5 H5 n5 s5 m5=>?_)
     ·obtain ⟨rfl,_⟩:=cb (r:=[u0,u1,u2,u3,u4]) hx
      obtain ⟨rfl,hn⟩:=cb (r:=[w0,w1,w2,w3,w4]) hy
      have hdm:-1000<=dg - 2/\dg - 2<=1000:=by lia
      walk_at "w"
      exact kc _ (ai.refl _)
     walk_at "w"
     exact⟨_,_,l5,[u0+(dg - 2)*w0,u1+(dg - 2)*w1,u2+(dg - 2)*w2,u3+(dg - 2)*w3,u4+(dg - 2)*w4],rfl,(sn.trans Bd).trans s5,(Bd.trans s5) _ _ V0,(s1.trans (sn.trans Bd)).new n5,m5,rfl⟩
    ·obtain ⟨o6,o7,q,r,rfl,sn,V0,nq,mq,lr⟩:=hp
     exact eF _ _ ⟨_,_,_,_,_,q,r,rfl,s1.trans sn,nq,mq,lr⟩
   | keys ks =>
    walk_at "w"
    refine bH rfl ?_
    walk_at "w"
    exact eF _ _ ⟨_,_,_,_,_,p1,[0,0,0,0,0],rfl,s1,n1,m1,rfl⟩
   | cG w =>
    walk_at "w"
    refine bH rfl ?_
    walk_at "w"
    exact eF _ _ ⟨_,_,_,_,_,p1,[0,0,0,0,0],rfl,s1,n1,m1,rfl⟩
  obtain ⟨o6,o7,o8,o9,yn,q,r,rfl,sn,nq,mq,lr⟩:=hP
  clear m1 s1 n1
  walk_at "j"
  refine join (fun σ' H'=>∃ (o6 o7 o8 o9 yn:Option V) (q:Addr) (r:List Int),σ'=[some (.ref a),some (.int d.num),some (.ref b),some (.int c),some (.int e),some (.ref q),o6,o7,o8,o9,yn]/\ai H H'/\H q=none/\H' q=some (.lst (r.map V.int))/\r.length=5) (fun nx eF=>?_) (fun σ' H3 hP=>?_)
  ·cases d with
   | plain w =>
    walk_at "w"
    refine bH rfl ?_
    walk_at "w"
    refine bH rfl ?_
    walk_at "w"
    refine bH rfl ?_
    walk_at "w"
    exact eF _ _ ⟨_,_,_,_,_,q,r,rfl,sn,nq,mq,lr⟩
   | steps rs =>
    walk_at "w"
    refine bH rfl ?_
    walk_at "w"
    refine bH rfl ?_
    walk_at "w"
    refine bH rfl ?_
    walk_at "w"
    exact eF _ _ ⟨_,_,_,_,_,q,r,rfl,sn,nq,mq,lr⟩
   | keys ks =>
    obtain ⟨ys,e1,hK⟩:=k8
    have lK:=hK.length
    have Yv:=sn _ _ e1
    walk_at "w"
    refine bH rfl ?_
    walk_at "w"
    refine d9 rfl ?_
    walk_at "w"
    refine aU (fun h1=>?_) (fun h1=>?_)
    ·have oW:=aaQ h1
     obtain ⟨ak,wk,w,m0,E7,LQ,rfl,rfl,P7,P8⟩:∃ (ak wk:Addr) (w:List Int) (m0:Int) (E7:List V) (LQ:List (List Int×Int)),ys=.ref ak::E7/\ks=(w,m0)::LQ/\aN K H ak [.ref wk,.int m0]/\aN K H wk (w.map V.int):=by
      cases hK with
      | nil=>exact absurd oW (by simp)
      | cons h hw t=>exact⟨_,_,_,_,_,_,rfl,rfl,h,hw⟩
     have lw:w.length=5:=(bc.2 _ (.head _)).1
     have Yw:=sn.at P7
     have hw:=sn.at P8
     walk_at "w"
     refine bH rfl ?_
     walk_at "w"
     refine du (aR.of Yv) (aS (j:=0) rfl) ?_
     obtain ⟨j2,e2,b2⟩:∃ j2:Nat,(e % 5+1+e / 5 % 4) % 5=(j2:Int)/\j2<5:=⟨((e % 5+1+e / 5 % 4) % 5).toNat,by lia,by lia⟩
     obtain ⟨j1,e1,b1⟩:∃ j1:Nat,e % 5=(j1:Int)/\j1<5:=⟨(e % 5).toNat,by lia,by lia⟩
     walk_at "w"
     rw [e2,e1]
     refine eH hw (aS (int_at (by lia))) ?_
     walk_at "w"
     refine eY (j:=j1) mq (dX (by rw [aa5];lia)) ?_
     have Qa:=cx (zs:=(r.map V.int).set j1 (.int (0 - w.getD j2 0))) hw mq
     walk_at "w"
     refine eH Qa (aS (int_at (by lia))) ?_
     walk_at "w"
     refine eY (j:=j2) av (dX (by rw [length_set,aa5];lia)) ?_
     exact eF _ _ ⟨_,_,_,_,_,q,(r.set j1 (0 - w.getD j2 0)).set j2 (w.getD j1 0),rfl,(sn.bR nq).bR nq,nq,by rw [av,map_set,map_set],by rw [length_set,length_set];exact lr⟩
    ·walk_at "w"
     exact eF _ _ ⟨_,_,_,_,_,q,r,rfl,sn,nq,mq,lr⟩
   | cG w =>
    have hw:aN K H2 b (w.map V.int):=sn.at k8
    have lw:w.length=5:=bc.1
    walk_at "w"
    refine d9 rfl ?_
    walk_at "w"
    refine d9 rfl ?_
    walk_at "w"
    refine d9 rfl ?_
    obtain ⟨j2,e2,b2⟩:∃ j2:Nat,(e % 5+1+e / 5 % 4) % 5=(j2:Int)/\j2<5:=⟨((e % 5+1+e / 5 % 4) % 5).toNat,by lia,by lia⟩
    obtain ⟨j1,e1,b1⟩:∃ j1:Nat,e % 5=(j1:Int)/\j1<5:=⟨(e % 5).toNat,by lia,by lia⟩
    walk_at "w"
    rw [e2,e1]
    refine eH hw (aS (int_at (by lia))) ?_
    walk_at "w"
    refine eY (j:=j1) mq (dX (by rw [aa5];lia)) ?_
    have Qa:=cx (zs:=(r.map V.int).set j1 (.int (0 - w.getD j2 0))) hw mq
    walk_at "w"
    refine eH Qa (aS (int_at (by lia))) ?_
    walk_at "w"
    refine eY (j:=j2) av (dX (by rw [length_set,aa5];lia)) ?_
    exact eF _ _ ⟨_,_,_,_,_,q,(r.set j1 (0 - w.getD j2 0)).set j2 (w.getD j1 0),rfl,(sn.bR nq).bR nq,nq,by rw [av,map_set,map_set],by rw [length_set,length_set];exact lr⟩
  obtain ⟨o6,o7,o8,o9,yn,q,r,rfl,sn,nq,mq,lr⟩:=hP
  walk_at "j"
  refine join (fun σ' H'=>∃ (o6 o7 o8 o9 yn:Option V) (q:Addr) (r:List Int),σ'=[some (.ref a),some (.int d.num),some (.ref b),some (.int c),some (.int e),some (.ref q),o6,o7,o8,o9,yn]/\ai H H'/\H q=none/\H' q=some (.lst (r.map V.int))/\r.length=5) (fun nx eF=>?_) (fun σ' H4 hP=>?_)
  ·walk_at "w"
   refine aU (fun h1=>?_) (fun h1=>?_)
   ·obtain ⟨j1,e1,b1⟩:∃ j1:Nat,c / 4 % 5=(j1:Int)/\j1<5:=⟨(c / 4 % 5).toNat,by lia,by lia⟩
    walk_at "w"
    rw [e1]
    refine du (aR.of mq) (aS (int_at (by lia))) ?_
    walk_at "w"
    rw [e1]
    refine eY (j:=j1) mq (dX (by rw [aa5];lia)) ?_
    exact eF _ _ ⟨_,_,_,_,_,q,r.set j1 (r.getD j1 0+1 - 2*(c / 20 % 2)),rfl,sn.bR nq,nq,by rw [av,map_set],by rw [length_set];exact lr⟩
   ·walk_at "w"
    exact eF _ _ ⟨_,_,_,_,_,q,r,rfl,sn,nq,mq,lr⟩
  obtain ⟨o6,o7,o8,o9,yn,q,r,rfl,sn,nq,mq,lr⟩:=hP
  walk_at "j"
  refine join (fun σ' H'=>∃ (o6 o7 o8 o9 yn:Option V) (q:Addr) (r:List Int),σ'=[some (.ref a),some (.int d.num),some (.ref b),some (.int c),some (.int e),some (.ref q),o6,o7,o8,o9,yn]/\ai H H'/\H q=none/\H' q=some (.lst (r.map V.int))/\r.length=5) (fun nx eF=>?_) (fun σ' H5 hP=>?_)
  ·walk_at "w"
   refine aU (fun h1=>?_) (fun h1=>?_)
   ·walk_at "w"
    rename_i p6 H6 n6 s6 m6
    refine dN (n:=4) ⟨by decide,by decide⟩ fun ld H7 xs n7 s7 m7 lx hx=>?_
    walk_at "w"
    refine d7 (r:=xs) (fun x=>.int (x - 10)) [] rfl (aR.of m7) (by lia) (fun x H' Qc hx s kc=>?_) (fun l8 H8 n8 s8 m8=>?_)
    ·walk_at "w"
     exact kc _ (ai.refl _)
    walk_at "w"
    rename_i p9 H9 n9 s9 m9
    have s68:=((sn.trans s6).trans s7).trans s8
    exact eF _ _ ⟨_,_,_,_,_,p9,[e % 201 - 100]++xs.map (fun x=>x - 10),rfl,s68.trans s9,s68.new n9,by rw [m9,abo,abp];rfl,by rw [aa6,aa5,lx];rfl⟩
   ·walk_at "w"
    exact eF _ _ ⟨_,_,_,_,_,q,r,rfl,sn,nq,mq,lr⟩
  obtain ⟨o6,o7,o8,o9,yn,q,r,rfl,sn,nq,mq,lr⟩:=hP
  obtain ⟨x0,x1,x2,x3,x4,rfl⟩:=cJ lr
  have zero:vf 100 10 [0,0,0,0,0]:=⟨0,0,0,0,0,rfl,by decide,by decide,by decide,by decide,by decide⟩
  walk_at "w"
  refine aU (fun h1=>?_) (fun h1=>?_)
  ·walk_at "w"
   refine d9 rfl ?_
   walk_at "w"
   rename_i p6 H6 s6 m6
   exact k p6 H6 [0,0,0,0,0] (sn.trans s6) m6 zero
  ·have oW:=aaR h1
   walk_at "w"
   rename_i p6 H6 n6 s6 m6
   have Rl:H6 p6=some (.lst (([x1,x2,x3,x4]:List Int).map V.int)):=m6
   refine d7 (r:=[x1,x2,x3,x4]) (fun x=>.int (if x<0 then -x else x)) [] rfl (aR.of Rl) (by show 4<=1000;decide) (fun x H' Qc hx s kc=>?_) (fun l7 H7 n7 s7 m7=>?_)
   ·walk_at "w"
    exact kc _ (ai.refl _)
   have m7':H7 l7=some (.lst ((([x1,x2,x3,x4]:List Int).map fun x=>if x<0 then -x else x).map V.int)):=m7
   walk_at "w"
   refine lY (aR.of m7') (fun z=>nomatch z) fun mx hm V1=>?_
   walk_at "w"
   refine aU (fun h2=>?_) (fun h2=>?_)
   ·walk_at "w"
    rename_i p8 H8 s8 m8
    exact k p8 H8 [0,0,0,0,0] (((sn.trans s6).trans s7).trans s8) m8 zero
   ·have MG:=aaR h2
    have g:∀ x∈[x1,x2,x3,x4],-10<=x/\x<=10:=fun x hx=>by
     have:=V1 _ (mem_map_of_mem (f:=fun x:Int=>if x<0 then -x else x) hx)
     split at this <;> lia
    have mq7:=(s6.trans s7) _ _ mq
    walk_at "w"
    rename_i p8 H8 s8 m8
    refine k p8 H8 [x0,x1,x2,x3,x4] (((sn.trans s6).trans s7).trans s8) m8 ⟨x0,x1,x2,x3,x4,rfl,?_,g x1 (by simp),g x2 (by simp),g x3 (by simp),g x4 (by simp)⟩
    split at oW <;> lia
theorem yo:aF ["_law_tune_here","_law_cell","_law_bars","_law_tone","_law_length","_law_made","_law_bar","_law_lengths","_law_tones"] ["_law_tune_here","_law_cell"] (aq j4):=⟨rfl,rfl,rfl,by decide +kernel,rfl,by decide +kernel,by decide +kernel⟩
structure yp(P:Program)(w:World)(K:Frag)(mg:Str->Option Value)(base:Heap)(G:iK):Prop where
 ee:Ok P w K mg base 1 "_law_lowest" ["_law_top","_law_bottom"] (eL K)
 mO:Ok P w K mg base 1 "_law_turned" ["_law_some"] (iw K)
theorem yq (D:Def K mg "_law_other" j4 ["_law_tune_here","_law_cell"]) (T:Txt K mg G) (O:yp P w K mg base G) (Y:base.NoSeer/\P.given.tree=none):Ok P w K mg base 2 "_law_other" ["_law_tune_here","_law_cell"] (jl K):=by
 have S:=yo
 refine D.ok S (fun vs H Q E h=>?_) (fun f c7 A outer s H vs Q E hr h=>?_)
 ·obtain ⟨_,_,_,_,_,_,_,rfl,_⟩:=h;rfl
 ·obtain ⟨a,m,l,c,mt,xs,bs,rfl,tu,hR,VM,qd,hLm,k⟩:=h
  have hu:=bo hr
  have aB:=T.aB
  have aj:=T.aj
  refine⟨_,(ag (dF (k:=2) (N:=["_law_bar"]) (ix:=[none]) S.nd rfl (Or.inl rfl) rfl (aW K rfl (aM (aD K rfl) (pv 0) ae (fun _ _=>rfl))) (fun _ _ _ _ _=>(au (i:=0) (show eT ["_law_bar"] by decide +kernel) rfl (Or.inl rfl))) (fun _ _ _ _ _=>rfl) (fun _ _ _ _ _=>(bu (nQ K rfl) rfl T.pR PyProof.Rows.boot_list (aa (pv 0) af))) rfl (by decide +kernel) (by decide +kernel) rfl True.intro) (ag (bB (ay bM (ah aC (pv 1) ae) ae (aH _)) (ag (gn (aM (aD K rfl) (aM (aD K rfl) (pv 2) ae (fun _ _=>rfl)) ae (fun _ _=>rfl)) (cw (n:=2) K rfl rfl (aJ (au (i:=3) S.nd rfl (Or.inl rfl)) (aJ (au (i:=4) S.nd rfl (Or.inl rfl)) cu)))) (ag (gn (aQ (aa (gm (ay Bk (pv 3) ib (aH _)) (aQ (aa ae (aa ae (aa ae (aa ae (aa ae af)))))) ib) (aa (pv 4) af))) (iP (aM (aD K rfl) (pv 2) ae (fun _ _=>rfl)) ae set_list)) (ao (aG (aQ (aa (aM (aD K rfl) (pv 0) ae (fun _ _=>rfl)) (aa (pv 2) af))))))) aK) (ag (bB (ay bM (ah aC (pv 1) ae) ae (aH _)) (ao (aG (aQ (aa (aM (aD K rfl) (pv 0) ae (fun _ _=>rfl)) (aa (az O.mO (hr.mono (by decide)) (aa (pv 2) af)) af))))) aK) (ag (bB (PW.pt (sQ (ay bM (ah aC (pv 1) ae) ae (aH _)) (nz (ay gZ (ba (fF K rfl) rfl T.iL PySem.boot_len (aa (pv 2) af)) ae (aH _))))) (ao (aG (aQ (aa (aM (aD K rfl) (pv 0) ae (fun _ _=>rfl)) (aa (gp (jT K rfl) (pv 2) iR (iS (fQ d6 ae))) af))))) aK) (ag (bB (ay gZ (ah aC (pv 1) ae) ae (aH _)) (ao (aG (aQ (aa (aM (aD K rfl) (pv 0) ae (fun _ _=>rfl)) (aa (ah fC (pv 2) (gp (jT K rfl) (pv 2) (iS (fQ d6 ae)) iR)) af))))) aK) (ag (aw (i:=5) S.nd rfl (Or.inl rfl) (bG af)) (ag (dh PassesOwn.never rfl (aW K rfl (pv 2)) (au (i:=6) S.nd rfl (Or.inl rfl)) (ag (dF (k:=7) (N:=["_law_note"]) (ix:=[none]) S.nd rfl (Or.inl rfl) rfl (aW K rfl (pv 6)) (fun _ _ _ _ _=>(au (i:=0) (show eT ["_law_note"] by decide +kernel) rfl (Or.inl rfl))) (fun _ _ _ _ _=>rfl) (fun _ _ _ _ _=>(aM (aD K rfl) (pv 0) ae (fun _ _=>rfl))) rfl (by decide +kernel) (by decide +kernel) rfl True.intro) (ag (bB (ay bM (ah aC (pv 1) ae) ae (aH _)) (ao (dF (k:=7) (N:=["_law_length"]) (ix:=[none]) S.nd rfl (Or.inl rfl) rfl (aW K rfl (pv 7)) (fun _ _ _ _ _=>(au (i:=0) (show eT ["_law_length"] by decide +kernel) rfl (Or.inl rfl))) (fun _ _ _ _ _=>rfl) (fun _ _ _ _ _=>(az O.ee (hr.mono (by decide)) (aa (ah cV ae (aM (aD K rfl) (pv 0) ae (fun _ _=>rfl))) (aa (aM (aD K rfl) (pv 0) ae (fun _ _=>rfl)) af)))) rfl (by decide +kernel) (by decide +kernel) rfl True.intro)) aK) (ag (bB (ay (OT K rfl) (ah aC (pv 1) ae) (aQ (aa ae (aa ae (aa ae af)))) (by with_unfolding_all rfl)) (ao (aw (i:=7) S.nd rfl (Or.inl rfl) (az O.mO (hr.mono (by decide)) (aa (pv 7) af)))) aK) (ag (dF (k:=8) (N:=["_law_note"]) (ix:=[none]) S.nd rfl (Or.inl rfl) rfl (aW K rfl (pv 6)) (fun _ _ _ _ _=>(au (i:=0) (show eT ["_law_note"] by decide +kernel) rfl (Or.inl rfl))) (fun _ _ _ _ _=>rfl) (fun _ _ _ _ _=>(aM (aD K rfl) (pv 0) ae (fun _ _=>rfl))) rfl (by decide +kernel) (by decide +kernel) rfl True.intro) (ag (bB (ay bM (ah aC (pv 1) ae) ae (aH _)) (ao (aw (i:=8) S.nd rfl (Or.inl rfl) (az O.mO (hr.mono (by decide)) (aa (pv 8) af)))) aK) (ao (ej (jE PySem.F.plainAttrs_list PySem.F.slot_list_append PySem.F.type_list_append cF (pv 5) (aa (bg (N:=["_law_tone","_law_length"]) (ix:=[none,none]) rfl (dR K rfl false false rfl T.iM (aa (pv 8) (aa (pv 7) af))) (fun _ _ _ _ _=>(cw (n:=2) K rfl rfl (aJ (au (i:=0) (show eT ["_law_tone","_law_length"] by decide +kernel) rfl (Or.inl rfl)) (aJ (au (i:=1) (show eT ["_law_tone","_law_length"] by decide +kernel) rfl (Or.inl rfl)) cu)))) (fun _ _ _ _ _=>rfl) (fun _ _ _ _ _=>(aQ (aa (pv 0) (aa (pv 1) af)))) rfl (by decide +kernel) (by decide +kernel) rfl True.intro) af)))))))))) (ag (bB (ay bM (ah aC (pv 1) ae) ae (aH _)) (ao (aG (aQ (aa (az O.ee (hr.mono (by decide)) (aa (ah cV ae (aM (aD K rfl) (aM (aD K rfl) (pv 0) ae (fun _ _=>rfl)) ae (fun _ _=>rfl))) (aa (aM (aD K rfl) (aM (aD K rfl) (pv 0) ae (fun _ _=>rfl)) ae (fun _ _=>rfl)) af))) (aa (pv 5) af))))) aK) (ao (aG (aQ (aa (aM (aD K rfl) (pv 0) ae (fun _ _=>rfl)) (aa (pv 5) af))))))))))))),?_⟩
  obtain ⟨IH,AH,E9,FU⟩:=id tu
  have lx:=FU.length
  have l1:=hR.1
  have hBr:∀ y∈xs,Bc K H y:=Bc.of FU hR qd
  walk_at "w"
  refine cC 1 [] xs.length (fun l i ys H'=>ys.length=i/\i<=12/\(∀ y∈ys,Bc K H' y)/\(V.ref l∉ys)/\∀ y∈ys,∃ b,y=.ref b/\H b=none) rfl (fun l H' _ _ _=>⟨rfl,by lia,(fun _ z=>nomatch z),(fun z=>nomatch z),fun _ z=>nomatch z⟩) (fun l i ys H' h=>by have:=h.1;have:=h.2.1;lia) (fun H' s=>⟨xs,s.seq (aR.of E9),by lia⟩) (fun i H' hi s=>⟨xs,xs[i]'(by lia),s.seq (aR.of E9),aaZ (by lia)⟩) (fun l2 i x H' Yy own ys ho hi rY s9 dE hp hy Qy Qn ky kn=>?_) (fun l2 H1 ys nl2 s1 II hp=>?_)
  ·obtain ⟨o1,rfl⟩:∃ o1,own=[o1]:=by match own,ho with|[o1],_=>exact⟨o1,rfl⟩
   obtain ⟨rfl,e⟩:=hy
   obtain ⟨a1,zs,rfl,hz,V2,V3,xr⟩:=(hBr x (aa4 (e xs (s9.seq (aR.of E9))))).same s9
   walk_at "w"
   refine jI ?_
   walk_at "w"
   rename_i p7 H8 n8 s8 m8
   have e8:=s8 _ _ dE
   have ne:p7≠l2:=fun z=>by rw [z,dE] at n8;cases n8
   obtain ⟨M4,hp2,TZ,Q8,XQ⟩:=hp
   refine ky [some (.ref a1)] _ H8 rfl s8 ⟨by simp [M4],by lia,fun y hy=>?_,fun z=>?_,fun y hy=>?_⟩
   ·rcases aa3.mp hy with z|z
    ·exact ((TZ y z).same s8).off e8 (fun z2=>Q8 (by rw [<- z2];exact z))
    ·rw [aa2.mp z]
     exact⟨p7,zs,rfl,by rw [ax ne];exact m8,V2,V3,fun z hz=>((xr z hz).same s8).off e8⟩
   ·rcases aa3.mp z with z|z
    ·exact Q8 z
    ·have:=aa2.mp z
     cases this
     exact ne rfl
   ·rcases aa3.mp hy with z|z
    ·exact XQ y z
    ·rw [aa2.mp z]
     exact⟨p7,rfl,s9.new n8⟩
  obtain ⟨ly,_,Qd,hG,Ko⟩:=hp
  have YC:=s1.at IH
  have htm:=s1.at AH
  walk_at "w"
  refine aU (fun h1=>?_) (fun h1=>?_)
  ·obtain ⟨y0,E7,rfl⟩:∃ y0 E7,ys=y0::E7:=by
    cases ys with
    | nil=>exact absurd ly (by simp;lia)
    | cons y t=>exact⟨_,_,rfl⟩
   obtain ⟨b0,zs,rfl,hz,V2,V3,xr⟩:=Qd y0 (.head _)
   obtain ⟨b0',eb,nb0⟩:=Ko _ (.head _)
   cases eb
   obtain ⟨z0,Dx,rfl⟩:∃ z0 Dx,zs=z0::Dx:=by
    cases zs with
    | nil=>exact absurd V2 (by simp)
    | cons y t=>exact⟨_,_,rfl⟩
   obtain ⟨an,tn,ln,rfl,FT,Bn,FV⟩:=xr z0 (.head _)
   walk_at "w"
   refine du (aR.of II) (aS (j:=0) rfl) ?_
   walk_at "w"
   refine du (aR.of hz) (aS (j:=0) rfl) ?_
   refine xF FT ?_
   have fin:∀ (tv:V) (p:Addr) (H5:Hp),ai H1 H5->H5 p=some (.tup [tv,ln])->JG K H5 tv->∀ p6 H6,ai (upd H5 b0 (.lst (.ref p::Dx))) H6->H6 p6=some (.tup [.ref m,.ref l2])->Q (.ref p6) H6:=fun tv p H5 s5 m5 hv p6 H6 s6 m6=>by
    have ez:=s5 _ _ hz
    have nl:l2≠b0:=fun z=>hG (by rw [z];exact .head _)
    have Gw:∀ y∈V.ref b0::E7,Bc K (upd H5 b0 (.lst (.ref p::Dx))) y:=fun y hy=>by
     by_cases hyb:y=.ref b0
     ·refine⟨b0,_,hyb,av,by simp,by simpa using V3,fun z X9=>?_⟩
      rcases aa9.mp X9 with w|w
      ·rw [w]
       exact EU.off ⟨p,tv,ln,rfl,aN.of m5,hv,FV.same s5⟩ ez
      ·exact ((xr z (.tail _ w)).same s5).off ez
     ·exact ((Qd y hy).same s5).off ez hyb
    obtain ⟨Ca,g1,g2⟩:=B9 Gw (by simp) (by lia)
    exact k p6 m l2 H6 mt _ Ca (((s1.trans s5).bR nb0).trans s6) ⟨aN.of m6,s6.at (cx ((s1.trans s5).at AH) ez),s6 _ _ (by rw [ax nl];exact s5 _ _ II),g1.same s6⟩ g2
   obtain ⟨o,ho,hro⟩:=Bn
   cases o with
   | none =>
    obtain rfl:tn=.dz:=ho
    walk_at "w"
    refine⟨rfl,?_⟩
    walk_at "w"
    refine d9 rfl ?_
    walk_at "w"
    rename_i p4 H4 s4 m4 p5 H5 s5 m5
    refine du (aR.of ((s4.trans s5) _ _ II)) (aS (j:=0) rfl) ?_
    walk_at "w"
    refine eY (j:=0) ((s4.trans s5) _ _ hz) (dX (by simp)) ?_
    have YD:=cx (zs:=(V.ref an::Dx).set 0 (.ref p5)) ((s4.trans s5).at YC) ((s4.trans s5) _ _ hz)
    walk_at "w"
    rename_i p6 H6 s6 m6
    exact fin _ p5 H5 (s4.trans s5) m5 ⟨some (.row [0,0,0,0,0]),⟨p4,rfl,s5.at (aN.of m4),by show 5<=100;decide⟩,⟨rfl,fun x hx=>by simp only [aa9,not_mem_nil,or_false,or_self] at hx;rw [hx];decide⟩⟩ p6 H6 s6 m6
   | some y =>
    have MP:∃ q,tn=.ref q:=by
     cases y with
     | num i=>exact (show False from hro).elim
     | row r=>exact⟨ho.choose,ho.choose_spec.1⟩
    obtain ⟨q,rfl⟩:=MP
    walk_at "w"
    refine⟨rfl,?_⟩
    walk_at "w"
    refine bH rfl ?_
    walk_at "w"
    rename_i p5 H5 s5 m5
    refine du (aR.of (s5 _ _ II)) (aS (j:=0) rfl) ?_
    walk_at "w"
    refine eY (j:=0) (s5 _ _ hz) (dX (by simp)) ?_
    have YD:=cx (zs:=(V.ref an::Dx).set 0 (.ref p5)) (s5.at YC) (s5 _ _ hz)
    walk_at "w"
    rename_i p6 H6 s6 m6
    exact fin _ p5 H5 s5 m5 ⟨none,rfl,trivial⟩ p6 H6 s6 m6
  have LU:∀ (zs:List V) (l3:Addr) (H5:Hp),ai H1 H5->H5 l3=some (.lst zs)->(∀ y∈zs,Bc K H5 y)->1<=zs.length->zs.length<=20->∀ p6 H6,ai H5 H6->H6 p6=some (.tup [.ref m,.ref l3])->Q (.ref p6) H6:=fun zs l3 H5 s5 m5 Gw z1 z2 p6 H6 s6 m6=>by
   obtain ⟨Ca,g1,g2⟩:=B9 Gw z1 z2
   exact k p6 m l3 H6 mt _ Ca ((s1.trans s5).trans s6) ⟨aN.of m6,((s1.trans s5).trans s6).at AH,s6 _ _ m5,g1.same s6⟩ g2
  have vb:∀ (l3 p5:Addr) (H5:Hp),ai H1 H5->H5 p5=some (.lst (ys++ys.drop (ys.length - 1)))->∀ p6 H6,ai H5 H6->H6 p6=some (.tup [.ref m,.ref p5])->Q (.ref p6) H6:=fun l3 p5 H5 s5 m5 p6 H6 s6 m6=>by
   refine LU _ p5 H5 s5 m5 (fun y hy=>?_) (by rw [aa6];lia) (by rw [aa6,length_drop];lia) p6 H6 s6 m6
   rcases aa3.mp hy with z|z
   ·exact (Qd y z).same s5
   ·exact (Qd y (List.mem_of_mem_drop z)).same s5
  walk_at "w"
  refine aU (fun h2=>?_) (fun h2=>?_)
  ·walk_at "w"
   refine jo II (by lia) fun l3 H3 n3 s3 m3=>?_
   walk_at "w"
   rename_i p6 H6 s6 m6
   exact LU _ l3 H3 s3 m3 (fun y hy=>(Qd y (mem_reverse.mp hy)).same s3) (by rw [length_reverse];lia) (by rw [length_reverse];lia) p6 H6 s6 m6
  walk_at "w"
  refine aU (fun h3=>?_) (fun h3=>?_)
  ·walk_at "w"
   refine aU (fun h4=>?_) (fun h4=>?_)
   ·have VR:=aaQ h4
    walk_at "w"
    refine zP (aR.of II) fun l3 H3 n3 s3 m3=>?_
    rw [Ia] at m3
    walk_at "w"
    rename_i p6 H6 s6 m6
    exact LU _ l3 H3 s3 m3 (fun y hy=>(Qd y (abz hy)).same s3) (by rw [abl];lia) (by rw [abl];lia) p6 H6 s6 m6
   ·walk_at "w"
    refine d9 (aaT (by have:=aaQ h3;lia)) ?_
    walk_at "w"
    refine zP (aR.of II) fun l3 H3 n3 s3 m3=>?_
    rw [Ao] at m3
    have ml3:=s3 _ _ II
    walk_at "w"
    rename_i p5 H5 n5 s5 m5 p6 H6 s6 m6
    exact vb l3 p5 H5 (s3.trans s5) m5 p6 H6 s6 m6
  walk_at "w"
  refine bH rfl ?_
  walk_at "w"
  refine aU (fun h5=>?_) (fun h5=>?_)
  ·walk_at "w"
   refine zP (aR.of II) fun l3 H3 n3 s3 m3=>?_
   rw [Ao] at m3
   have ml3:=s3 _ _ II
   walk_at "w"
   rename_i p5 H5 n5 s5 m5 p6 H6 s6 m6
   exact vb l3 p5 H5 (s3.trans s5) m5 p6 H6 s6 m6
  walk_at "w"
  rename_i pm HM nM sM mM
  refine pF (xs:=ys) (fun i σ Hn=>∃ (o6 o7 o8:Option V) (ws:List V),σ=[some (.ref a),some (.int c),some (.ref l2),none,none,some (.ref pm),o6,o7,o8]/\ai H1 Hn/\Hn pm=some (.lst ws)/\ws.length=i/\(V.ref pm∉ws)/\∀ y∈ws,Bc K Hn y) ⟨_,_,_,[],rfl,sM,mM,rfl,(fun z=>nomatch z),(fun _ z=>nomatch z)⟩ (fun i σ Hn hp=>by obtain ⟨_,_,_,_,rfl,sn,_⟩:=hp;exact aR.of (sn _ _ II)) (fun i x σ Hn hx hp=>?_) (fun σ Hn hp=>?_)
  ·obtain ⟨o6,o7,o8,ws,rfl,sn,mp,lw,YE,V4⟩:=hp
   obtain ⟨ab,zs,rfl,hz,V2,V3,xr⟩:=(Qd x (aa4 hx)).same sn
   have hi12:i<12:=by have:=(aaI.mp hx).1;lia
   walk_at "w"
   refine tL [] (DL K) rfl (aR.of hz) (by lia) (fun _ _ _ h s=>h.same s) (fun _ _ _ _ _ h e=>h.off e) (fun x H' Qc hx s kc=>?_) (fun l3 H3 ls n3 s3 m3 ll LV=>?_)
   ·obtain ⟨an,tn,ln,rfl,FT,Bn,FV⟩:=(xr x hx).same s
    walk_at "w"
    exact kc _ _ (ai.refl _) FV
   walk_at "j"
   refine join (fun σ' H'=>∃ (l4:Addr) (ls:List V),σ'=[some (.ref a),some (.int c),some (.ref l2),none,none,some (.ref pm),some (.ref ab),some (.ref l4),o8]/\ai Hn H'/\H' l4=some (.lst ls)/\ls.length=zs.length/\∀ z∈ls,DL K H' z) (fun nx eF=>?_) (fun σ' H4 hP=>?_)
   ·walk_at "w"
    refine aU (fun h6=>?_) (fun h6=>?_)
    ·walk_at "w"
     refine tL [] (DL K) rfl (aR.of m3) (by lia) (fun _ _ _ h s=>h.same s) (fun _ _ _ _ _ h e=>h.off e) (fun x H' Qc hx s kc=>?_) (fun l4 H4 V5 n4 s4 m4 ll4 YF=>?_)
     ·obtain ⟨al,t1,b1,rfl,hal,hb1,M9⟩:=(LV x hx).same s
      walk_at "w"
      rw [show 2*(t1:Int)=((2*t1:Nat):Int) by lia]
      exact en (by lia) (abd M9 (by decide +kernel)) fun p9 H9 s9 m9=>kc _ _ s9 ⟨p9,_,_,rfl,aN.of m9,Nat.div_pos (Nat.gcd_le_right _ (by lia)) (Nat.gcd_pos_of_pos_right _ (by lia)),aaL (Nat.div_le_self _ _) M9⟩
     ·exact eF _ _ ⟨l4,V5,rfl,s3.trans s4,m4,by lia,YF⟩
    ·walk_at "w"
     exact eF _ _ ⟨l3,ls,rfl,s3,m3,ll,LV⟩
   clear m3 LV ll s3 n3
   obtain ⟨l4,ls,rfl,s4,m4,ll,LV⟩:=hP
   walk_at "j"
   refine join (fun σ' H'=>∃ (l5:Addr) (ls:List V),σ'=[some (.ref a),some (.int c),some (.ref l2),none,none,some (.ref pm),some (.ref ab),some (.ref l5),o8]/\ai Hn H'/\H' l5=some (.lst ls)/\ls.length=zs.length/\∀ z∈ls,DL K H' z) (fun nx eF=>?_) (fun σ' H5 hP=>?_)
   ·walk_at "w"
    rename_i pI HI sI mI
    refine aU (fun h6=>?_) (fun h6=>?_)
    ·walk_at "w"
     refine jo (sI _ _ m4) (by lia) fun l7 H7 n7 s7 m7=>?_
     walk_at "w"
     exact eF _ _ ⟨l7,_,rfl,(s4.trans sI).trans s7,m7,by rw [length_reverse];exact ll,fun z hz=>(LV z (mem_reverse.mp hz)).same (sI.trans s7)⟩
    ·walk_at "w"
     exact eF _ _ ⟨l4,ls,rfl,s4.trans sI,sI _ _ m4,ll,fun z hz=>(LV z hz).same sI⟩
   clear m4 LV ll s4
   obtain ⟨l5,ls,rfl,s5,m5,ll,LV⟩:=hP
   have QX:=s5 _ _ hz
   walk_at "w"
   refine tL [] (JG K) rfl (aR.of QX) (by lia) (fun _ _ _ h s=>h.same s) (fun _ _ _ _ _ h e=>h.off e) (fun x H' Qc hx s kc=>?_) (fun l6 H6 ts n6 s6 m6 lt UA=>?_)
   ·obtain ⟨an,tn,ln,rfl,FT,Bn,FV⟩:=(xr x hx).same (s5.trans s)
    walk_at "w"
    exact kc _ _ (ai.refl _) Bn
   walk_at "j"
   refine join (fun σ' H'=>∃ (l7:Addr) (ts:List V),σ'=[some (.ref a),some (.int c),some (.ref l2),none,none,some (.ref pm),some (.ref ab),some (.ref l5),some (.ref l7)]/\ai H5 H'/\H' l7=some (.lst ts)/\ts.length=zs.length/\∀ z∈ts,JG K H' z) (fun nx eF=>?_) (fun σ' H7 hP=>?_)
   ·walk_at "w"
    refine aU (fun h6=>?_) (fun h6=>?_)
    ·walk_at "w"
     refine jo m6 (by lia) fun l7 H7 n7 s7 m7=>?_
     walk_at "w"
     exact eF _ _ ⟨l7,_,rfl,s6.trans s7,m7,by rw [length_reverse];exact lt,fun z hz=>(UA z (mem_reverse.mp hz)).same s7⟩
    ·walk_at "w"
     exact eF _ _ ⟨l6,ts,rfl,s6,m6,lt,UA⟩
   clear m6 UA lt s6 n6
   obtain ⟨l7,ts,rfl,s7,m7,lt,UA⟩:=hP
   have Yo:=s7 _ _ m5
   walk_at "w"
   refine EM [] (EU K) rfl (aR.of m7) (aR.of Yo) (by lia) (by lia) (fun _ _ _ h s=>h.same s) (fun _ _ _ _ _ h e=>h.off e) (fun x y H' Qc hx hy s kc=>?_) (fun l8 H8 ns8 n8 s8 m8 ln8 YG=>?_)
   ·walk_at "w"
    rename_i pA HA sA mA
    exact kc _ _ sA ⟨pA,x,y,rfl,aN.of mA,(UA x hx).same (s.trans sA),(LV y hy).same (s7.trans (s.trans sA))⟩
   have YH:=(s5.trans s7).trans s8
   have e8:=YH _ _ mp
   have ne:l8≠pm:=fun z=>by rw [z,(s5.trans s7) _ _ mp] at n8;cases n8
   walk_at "w"
   refine dQ e8 (by lia) ?_
   walk_at "w"
   refine⟨_,_,_,ws++[.ref l8],rfl,(sn.trans YH).bR nM,av,by simp [lw],fun z=>?_,fun y hy=>?_⟩
   ·rcases aa3.mp z with z|z
    ·exact YE z
    ·have:=aa2.mp z
     cases this
     exact ne rfl
   ·rcases aa3.mp hy with z|z
    ·exact ((V4 y z).same YH).off e8 (fun z2=>YE (by rw [<- z2];exact z))
    ·rw [aa2.mp z]
     exact⟨l8,ns8,rfl,by rw [ax ne];exact m8,by lia,by lia,fun z hz=>(YG z hz).off e8⟩
  ·obtain ⟨o6,o7,o8,ws,rfl,sn,mp,lw,YE,V4⟩:=hp
   have htn:=sn.at YC
   have htmn:=sn.at htm
   obtain ⟨V6,mtb,rfl,_,mb9,mb1⟩:=hLm
   walk_at "w"
   refine aU (fun h6=>?_) (fun h6=>?_)
   ·walk_at "w"
    rw [show 2*((V6:Int),(mtb:Int)).1=((2*V6:Nat):Int) by show 2*(V6:Int)=_;lia]
    refine en (t:=2*V6) (b:=mtb) (by lia) (abd mb9 (by decide +kernel)) fun p9 H9 s9 m9=>?_
    walk_at "w"
    rename_i p6 H6 s6 m6
    obtain ⟨Ca,g1,g2⟩:=B9 V4 (by lia) (by lia)
    have YJ:=s9.trans s6
    exact k p6 p9 pm H6 (_,_) ws Ca ((s1.trans sn).trans YJ) ⟨aN.of m6,s6.at (aN.of m9),YJ _ _ mp,g1.same YJ⟩ g2
   ·walk_at "w"
    rename_i p6 H6 s6 m6
    exact LU ws pm Hn sn mp V4 (by lia) (by lia) p6 H6 s6 m6
theorem oN:aF ["self","keys"] ["self","keys"] (aq ck):=⟨rfl,rfl,rfl,by decide +kernel,rfl,by decide +kernel,by decide +kernel⟩
structure oO(P:Program)(w:World)(K:Frag)(mg:Str->Option Value)(base:Heap)(G:iK):Prop where
 jq:Ok P w K mg base 1 "checked_keys" ["keys"] (eQ K)
theorem oQ (D:kU K G.cT "__init__" "KeyTuning.__init__" ck ["self","keys"]) (T:Txt K mg G) (O:oO P w K mg base G) (Y:base.NoSeer/\P.given.tree=none):xG P w K mg base 2 G.cT ["self","keys"] (dZ K):=by
 have S:=oN
 refine D.ok S (fun vs H Q E h=>?_) (fun f c7 A outer s H vs Q E hr h=>?_)
 ·obtain ⟨_,_,_,_,_,_,rfl,_⟩:=h;rfl
 ·obtain ⟨x,l,C,dx,ys,ks,rfl,hC,hx,hl,hk,h6,hg,k⟩:=h
  have hu:=bo hr
  have aB:=T.aB
  have aj:=T.aj
  have cD:=T.cD
  have aY:=T.aY
  have aI:=T.aI
  have bp:=T.bp
  have aE:=T.aE
  have cL:=T.cL
  have aO:=T.aO
  have aX:=T.aX
  refine⟨_,(ao (xI K rfl (pv 0) (bu (nQ K rfl) rfl T.pR PyProof.Rows.boot_list (aa (az O.jq (hr.mono (by decide)) (aa (pv 1) af)) af)) rfl)),?_⟩
  rcases hC with hC|hC
  ·obtain rfl:G.bV=C:=by have:=T.fT;rw [hC] at this;cases this;rfl
   walk_at "w"
   refine gK ⟨hl,hk,h6,hg⟩ ?_
   walk_at "w"
   rename_i l1 H1 n1 s1 m1
   refine rZ (s1 _ _ hx) bp aE (by decide) ?_
   exact k l1 H1 n1 s1 m1
  ·obtain rfl:G.dH=C:=by have:=T.jg;rw [hC] at this;cases this;rfl
   walk_at "w"
   refine gK ⟨hl,hk,h6,hg⟩ ?_
   walk_at "w"
   rename_i l1 H1 n1 s1 m1
   refine rZ (s1 _ _ hx) cL aO (by decide) ?_
   exact k l1 H1 n1 s1 m1
theorem Cm:aF ["thing"] ["thing"] (aq pK):=⟨rfl,rfl,rfl,by decide +kernel,rfl,by decide +kernel,by decide +kernel⟩
structure Cn(P:Program)(w:World)(K:Frag)(mg:Str->Option Value)(base:Heap)(G:iK):Prop where
 Qe:Ok P w K mg base 2 "is_row" ["thing"] (pU K)
theorem Co (D:Def K mg "is_tone" pK ["thing"]) (T:Txt K mg G) (O:Cn P w K mg base G) (Y:base.NoSeer/\P.given.tree=none):Ok P w K mg base 3 "is_tone" ["thing"] (mG K):=by
 have S:=Cm
 refine D.ok S (fun vs H Q E h=>?_) (fun f c7 A outer s H vs Q E hr h=>?_)
 ·obtain ⟨_,rfl,_⟩:=h;rfl
 ·obtain ⟨v,rfl,h⟩:=h
  have hu:=bo hr
  have aB:=T.aB
  have aj:=T.aj
  refine⟨_,(ag (bB (xc (sN (az O.Qe (hr.mono (by decide)) (aa (pv 0) af)))) (ao (aG ze)) aK) (ao (aG (ba (GZ K rfl rfl) rfl T.Na boot_all (aa (bg (N:=["number","bound"]) (ix:=[none,none]) rfl (dR K rfl true true rfl T.iM (aa (pv 0) (aa (kF (v:=V.ref G.tZ) rfl T.Ig rfl) af))) (fun _ _ _ _ _=>(cw (n:=2) K rfl rfl (aJ (au (i:=0) (show eT ["number","bound"] by decide +kernel) rfl (Or.inl rfl)) (aJ (au (i:=1) (show eT ["number","bound"] by decide +kernel) rfl (Or.inl rfl)) cu)))) (fun _ _ _ _ _=>rfl) (fun _ _ _ _ _=>(iQ RV (ba kI rfl T.DM boot_abs (aa (pv 0) af)) (pv 1) (aH _))) rfl (by decide +kernel) (by decide +kernel) rfl True.intro) af))))),?_⟩
  rcases h with ⟨a,x0,x1,x2,x3,x4,rfl,hs,k⟩|⟨ho,k⟩
  ·walk_at "w"
   refine uc (.inl ⟨a,_,rfl,hs,(by show 5<=1000;decide),fun x hx=>?_,fun H1 s1=>?_⟩)
   ·simp only [aa9,not_mem_nil,or_false] at hx
    rcases hx with rfl|rfl|rfl|rfl|rfl <;> exact .inl ⟨_,rfl⟩
   walk_at "w"
   refine Gx ?_
   walk_at "w"
   refine fR (k1:=true) (k2:=true) [] (fun i=>.bl (decide ((if ([x0,x1,x2,x3,x4]:List Int).getD i 0<0 then -([x0,x1,x2,x3,x4]:List Int).getD i 0 else ([x0,x1,x2,x3,x4]:List Int).getD i 0)<=([700,60,60,60,60]:List Int).getD i 0))) rfl (by walk_at "hf") (by walk_at "hf") (by rfl) (by show 5<=1000000;decide) (fun i x y H' Qc ex ey hs kc=>?_) (fun l H2 hl s2 m2=>?_)
   ·have hi:i<5:=(aaI.mp ex).1
    match i,hi with
    | 0,_|1,_|2,_|3,_|4,_ =>
     cases ex
     cases ey
     walk_at "w"
     exact kc _ (ai.refl _)
   walk_at "w"
   refine MO (bs:=[decide ((if x0<0 then -x0 else x0)<=700),decide ((if x1<0 then -x1 else x1)<=60),decide ((if x2<0 then -x2 else x2)<=60),decide ((if x3<0 then -x3 else x3)<=60),decide ((if x4<0 then -x4 else x4)<=60)]) (aR.of m2) ?_
   walk_at "w"
   exact k _ (by walk_at "sm")
  ·rcases ho with ⟨a,xs,rfl,hs,hl,hk,hf⟩|hn
   ·walk_at "w"
    refine uc (.inl ⟨a,xs,rfl,hs,hl,hk,fun H1 s1=>?_⟩)
    rw [hf]
    walk_at "w"
    refine jI ?_
    walk_at "w"
    exact k _ s1
   ·walk_at "w"
    refine uc (.inr ⟨hn,?_⟩)
    walk_at "w"
    refine jI ?_
    walk_at "w"
    exact k _ (ai.refl _)
theorem Fb:aF ["keys","row"] ["keys","row"] (aq tN):=⟨rfl,rfl,rfl,by decide +kernel,rfl,by decide +kernel,by decide +kernel⟩
structure Fc(P:Program)(w:World)(K:Frag)(mg:Str->Option Value)(base:Heap)(G:iK):Prop where
 value:Ok P w K mg base 2 "value" ["key","row"] (ub K)
 jq:Ok P w K mg base 1 "checked_keys" ["keys"] (eQ K)
theorem Fd (D:Def K mg "values" tN ["keys","row"]) (T:Txt K mg G) (O:Fc P w K mg base G) (Y:base.NoSeer/\P.given.tree=none):Ok P w K mg base 3 "values" ["keys","row"] (kR K):=by
 have S:=Fb
 refine D.ok S (fun vs H Q E h=>?_) (fun f c7 A outer s H vs Q E hr h=>?_)
 ·obtain ⟨_,_,_,_,_,rfl,_⟩:=h;rfl
 ·obtain ⟨l,a,xs,ks,row,rfl,hl,YK,h6,hg,hw,ha,Uj,hrf,k⟩:=h
  have hu:=bo hr
  have aB:=T.aB
  have aj:=T.aj
  refine⟨_,(ao (aG (bu (cH K rfl) rfl T.da boot_tuple (aa (bg (N:=["key","row"]) (ix:=[none,some 1]) rfl (aW K rfl (az O.jq (hr.mono (by decide)) (aa (pv 0) af))) (fun _ _ _ _ _=>(au (i:=0) (show eT ["key","row"] by decide +kernel) rfl (Or.inl rfl))) (fun _ _ _ _ _=>rfl) (fun _ _ _ _ _=>(az O.value (hr.mono (by decide)) (aa (pv 0) (aa (pv 1) af)))) rfl (by decide +kernel) (by decide +kernel) rfl ⟨⟨rfl,Or.inr (Or.inl rfl),rfl,rfl⟩,True.intro⟩) af)))),?_⟩
  have lk:=YK.length
  walk_at "w"
  refine gK ⟨hl,YK,h6,hg⟩ ?_
  walk_at "w"
  refine Hd (xs:=xs) [some (.ref a)] (fun i=>.int (val (ks.getD i ([],0)).1 (ks.getD i ([],0)).2 row)) rfl hl (by lia) (fun i x H' Qc hx s kc=>?_) (fun l2 H2 n2 s2 m2=>?_)
  ·obtain ⟨ak,wk,kk,rfl,h1,h2,h3⟩:=YK.get hx
   have hm:=aa4 h3
   obtain ⟨q1,q2⟩:=hw kk hm
   have e:ks.getD i ([],0)=kk:=by rw [List.getD,h3];rfl
   rw [e] at kc
   walk_at "w"
   exact LI kk.1 row (s.at h1) (s.at h2) (s.at ha) (by lia) (by lia) (Ln.mul hrf q2 (by decide) (by lia)) (by have:=hg kk hm;lia) fun H3 s3=>kc _ s3
  have ev:(List.range xs.length).map (fun i=>V.int (val (ks.getD i ([],0)).1 (ks.getD i ([],0)).2 row))=(ks.map fun k=>val k.1 k.2 row).map V.int:=by
   rw [<- lk,abp]
   refine ext_getElem (by simp) fun i h1 h2=>?_
   simp at h1
   simp [List.getD,aaZ h1]
  rw [ev] at m2
  walk_at "w"
  rename_i p3 H3 s3 m3
  exact k p3 H3 (s2.trans s3) (aN.of m3)
theorem AI:aF ["_law_script","_law_at","_law_bars","_law_total","_law_bottom","_law_form","_law_most","_law_k","_law_cell","_law_notes","_law_j","_law_piece"] ["_law_script","_law_at"] (aq mj):=⟨rfl,rfl,rfl,by decide +kernel,rfl,by decide +kernel,by decide +kernel⟩
structure AJ(P:Program)(w:World)(K:Frag)(mg:Str->Option Value)(base:Heap)(G:iK):Prop where
 aA:Ok P w K mg base 1 "_law_cell_at" ["_law_script","_law_k"] (bI K)
 ee:Ok P w K mg base 1 "_law_lowest" ["_law_top","_law_bottom"] (eL K)
 bA:Ok P w K mg base 1 "_law_mixed" ["_law_cell","_law_k"] (cA K)
 yr:Ok P w K mg base 1 "_law_name_row" ["_law_mixed_here"] (fW K)
 Cp:Ok P w K mg base 2 "_law_pieces" ["_law_cell","_law_count","_law_total"] (iq K)
theorem AK (D:Def K mg "_law_tune" mj ["_law_script","_law_at"]) (T:Txt K mg G) (O:AJ P w K mg base G) (Y:base.NoSeer/\P.given.tree=none):Ok P w K mg base 3 "_law_tune" ["_law_script","_law_at"] (j8 K):=by
 have S:=AI
 refine D.ok S (fun vs H Q E h=>?_) (fun f c7 A outer s H vs Q E hr h=>?_)
 ·obtain ⟨_,_,_,rfl,_⟩:=h;rfl
 ·obtain ⟨a,ns,j,rfl,ha,Sz,T5,k⟩:=h
  have hu:=bo hr
  have aB:=T.aB
  have aj:=T.aj
  refine⟨_,(@ag _ _ _ _ _ (aw (i:=2) S.nd rfl (Or.inl rfl) (bG af)) (@ag _ _ _ _ _ (aw (i:=3) S.nd rfl (Or.inl rfl) (ah aV ae (ah aC (az O.aA (hr.mono (by decide)) (aa (pv 0) (aa (pv 1) af))) ae))) (@ag _ _ _ _ _ (aw (i:=4) S.nd rfl (Or.inl rfl) (ah aV ae (ah aC (ah bx (az O.aA (hr.mono (by decide)) (aa (pv 0) (aa (pv 1) af))) ae) ae))) (@ag _ _ _ _ _ (aw (i:=5) S.nd rfl (Or.inl rfl) (az O.bA (hr.mono (by decide)) (aa (az O.aA (hr.mono (by decide)) (aa (pv 0) (aa (pv 1) af))) (aa ae af)))) (@ag _ _ _ _ _ (aw (i:=6) S.nd rfl (Or.inl rfl) (aQ (aa ae (aa ae af)))) (@ag _ _ _ _ _ (bB (ay gZ (ah aC (pv 5) ae) ae (aH _)) (@ao _ _ _ (@aw _ _ 6 _ _ _ _ S.nd rfl (Or.inl rfl) (aM (aD K rfl) (@bG _ _ _ _ (@aa _ _ _ _ _ (@aQ _ _ _ _ _ (aa ae (aa ae af))) (@aa _ _ _ _ _ (@aQ _ _ _ _ _ (aa ae (aa ae af))) af (by rfl)) (by rfl))) (ah aC (pv 5) ae) (fun _ _=>rfl)) (by rfl) (by first|exact .inl rfl|exact .inr rfl|assumption))) aK) (ag (dh PassesOwn.never rfl (cR rfl T.dJ (aa (ah aV ae (ah aC (ah bx (pv 5) ae) (aM (aD K rfl) (pv 6) ae (fun _ _=>rfl)))) af)) (au (i:=7) S.nd rfl (Or.inl rfl)) (ag (aw (i:=8) S.nd rfl (Or.inl rfl) (ah aV (az O.aA (hr.mono (by decide)) (aa (pv 0) (aa (ah aV (ah aV (pv 1) ae) (pv 7)) af))) (pv 7))) (ag (aw (i:=9) S.nd rfl (Or.inl rfl) (bG af)) (ag (dh PassesOwn.never rfl (nT K rfl false rfl T.hX (aa (az O.Cp (hr.mono (by decide)) (aa (pv 8) (aa (ah aV ae (ah aC (az O.bA (hr.mono (by decide)) (aa (pv 8) (aa ae af))) (aM (aD K rfl) (pv 6) ae (fun _ _=>rfl)))) (aa (pv 3) af)))) af)) (cw (n:=2) K rfl rfl (aJ (au (i:=10) S.nd rfl (Or.inl rfl)) (aJ (au (i:=11) S.nd rfl (Or.inl rfl)) cu))) (ao (ej (jE PySem.F.plainAttrs_list PySem.F.slot_list_append PySem.F.type_list_append cF (pv 9) (@aa _ _ _ _ _ (@aQ _ _ _ _ _ (aa (aM (aD K rfl) (az O.yr (hr.mono (by decide)) (aa (az O.bA (hr.mono (by decide)) (aa (pv 8) (aa (pv 10) af))) af)) ae (fun _ _=>rfl)) (aa (az O.ee (hr.mono (by decide)) (aa (pv 11) (aa (pv 4) af))) af))) af (by rfl)))))) (ao (ej (jE PySem.F.plainAttrs_list PySem.F.slot_list_append PySem.F.type_list_append cF (pv 2) (aa (pv 9) af)))))))) (ao (aG (aQ (aa (az O.ee (hr.mono (by decide)) (aa (pv 3) (aa (pv 4) af))) (aa (pv 2) af)))))))))))),?_⟩
  walk_at "w"
  rename_i p1 H1 n1 s1 m1
  refine bz (by lia) fun fm f1 f2=>?_
  have E1:=s1.seq ha
  obtain ⟨tt,VU,bt0,bt1⟩:∃ t:Nat,12+ns.getD j.toNat 0 % 10=(t:Int)/\12<=t/\t<=21:=⟨(12+ns.getD j.toNat 0 % 10).toNat,by lia,by lia,by lia⟩
  obtain ⟨bb,Ld,bb0,Rg⟩:∃ t:Nat,1+ns.getD j.toNat 0 / 10 % 16=(t:Int)/\1<=t/\t<=16:=⟨(1+ns.getD j.toNat 0 / 10 % 16).toNat,by lia,by lia,by lia⟩
  rw [VU,Ld]
  clear VU Ld
  walk_at "j"
  rename_i p2 H2 s2 m2
  refine join (fun σ' H'=>∃ (q:Addr) (u v:Nat),σ'=[some (.ref a),some (.int j),some (.ref p1),some (.int (tt:Int)),some (.int (bb:Int)),some (.int fm),some (.ref q),none,none,none,none,none]/\ai H1 H'/\aN K H' q [.int (u:Int),.int (v:Int)]/\(1<=u/\u<=12)/\(1<=v/\v<=12)) (fun nx eF=>?_) (fun σ' H' hp=>?_)
  ·walk_at "w"
   refine aU (fun h1=>?_) (fun h1=>?_)
   ·walk_at "w"
    rename_i p3 H3 s3 m3 p4 H4 s4 m4 p5 H5 n5 s5 m5
    rcases (show fm % 2=0\/fm % 2=1 by lia) with h2|h2
    ·rw [h2]
     refine du (aR.of m5) (aS (j:=0) rfl) ?_
     walk_at "w"
     exact eF _ _ ⟨p3,6,2,rfl,((s2.trans s3).trans s4).trans s5,aN.of (s5 _ _ (s4 _ _ m3)),by decide,by decide⟩
    ·rw [h2]
     refine du (aR.of m5) (aS (j:=1) rfl) ?_
     walk_at "w"
     exact eF _ _ ⟨p4,2,6,rfl,((s2.trans s3).trans s4).trans s5,aN.of (s5 _ _ m4),by decide,by decide⟩
   ·walk_at "w"
    exact eF _ _ ⟨p2,2,2,rfl,s2,aN.of m2,by decide,by decide⟩
  ·obtain ⟨q,u,v,rfl,s3,hq,hub,JK⟩:=hp
   have Yg:(0:Int)<(u:Int):=by lia
   have Up:(0:Int)<(v:Int):=by lia
   walk_at "w"
   have z1:=emod_nonneg (fm / 8) (show (u:Int)≠0 by lia)
   have z2:=emod_lt_of_pos (fm / 8) Yg
   obtain ⟨N,hN,N0,N1⟩:∃ N:Nat,1+fm / 8 % (u:Int)=(N:Int)/\1<=N/\N<=12:=⟨(1+fm / 8 % (u:Int)).toNat,by lia,by lia,by lia⟩
   rw [hN]
   clear hN z1 z2
   refine MN (by lia) (by lia) ?_
   have sA:=s1.trans s3
   refine jU (fun i σ Hn=>∃ (o1 o2 o3 o4 o5:Option V) (ys:List V) (bs:List (List Nt)),σ=[some (.ref a),some (.int j),some (.ref p1),some (.int (tt:Int)),some (.int (bb:Int)),some (.int fm),some (.ref q),o1,o2,o3,o4,o5]/\ai H Hn/\aN K Hn q [.int (u:Int),.int (v:Int)]/\Hn p1=some (.lst ys)/\cP K Hn ys bs/\(V.ref p1∉ys)/\bs.length=i/\(∀ ns∈bs,1<=ns.length/\ns.length<=12/\∀ n∈ns,M7 n.1/\fS n.2)) ⟨_,_,_,_,_,[],[],rfl,sA,hq,s3 _ _ m1,.nil,(fun z=>nomatch z),rfl,(fun _ z=>nomatch z)⟩ (fun i σ Hn hi hp=>?_) (fun σ Hn hp=>?_)
   ·obtain ⟨o1,o2,o3,o4,o5,ys,bs,rfl,sn,YL,mp,hB,hG,lb,bc⟩:=hp
    have han:=sn.seq ha
    have BO:i<12:=by lia
    walk_at "w"
    rename_i p5 H5 n5 s5 m5
    have YM:=s5.at YL
    refine bz (by lia) fun mm g1 g2=>?_
    walk_at "w"
    have z1:=emod_nonneg mm (show (v:Int)≠0 by lia)
    have z2:=emod_lt_of_pos mm Up
    obtain ⟨C,hC,C0,C1⟩:∃ C:Nat,1+mm % (v:Int)=(C:Int)/\1<=C/\C<=12:=⟨(1+mm % (v:Int)).toNat,by lia,by lia,by lia⟩
    rw [hC]
    refine xZ ⟨C0,C1,by lia,by lia⟩ fun l6 H6 ps n6 s6 m6 Rj hps Ul=>?_
    have UB:p5≠p1:=fun z=>by rw [z,mp] at n5;cases n5
    walk_at "w"
    refine BX (k:=false) (xs:=ps.map V.int) (fun i' σ Hm=>∃ (o4 o5:Option V) (cv:Int) (ws:List V) (gL:List Nt),σ=[some (.ref a),some (.int j),some (.ref p1),some (.int (tt:Int)),some (.int (bb:Int)),some (.int fm),some (.ref q),some (.int (0+(i:Int))),some (.int cv),some (.ref p5),o4,o5]/\ai Hn Hm/\Hm l6=some (.lst (ps.map V.int))/\Hm p5=some (.lst ws)/\bE K Hm ws gL/\gL.length=i'/\∀ n∈gL,M7 n.1/\fS n.2) ⟨_,_,_,[],[],rfl,s5.trans s6,m6,s6 _ _ m5,.nil,rfl,(fun _ z=>nomatch z)⟩ (fun i' σ Hm hp=>by obtain ⟨_,_,_,_,_,rfl,_,Rm,_⟩:=hp;exact cX (aR.of Rm)) (fun i' x σ Hm Hm' hx hp sm'=>?_) (fun σ Hm hp=>?_)
    ·obtain ⟨o4,o5,cv,ws,gL,rfl,sm,Rm,mw,hN,lw,EC⟩:=hp
     obtain ⟨rfl,rj⟩:=cb hx
     have LM:=hps _ (show ps.getD i' 0∈ps by rw [List.getD,aaZ rj];exact abA _)
     obtain ⟨pp,VO,pp0,pp1⟩:∃ pp:Nat,ps.getD i' 0=(pp:Int)/\1<=pp/\pp<=21:=⟨(ps.getD i' 0).toNat,by lia,by lia,by lia⟩
     rw [VO]
     walk_at "w"
     refine bz (by lia) fun m7 g3 g4=>?_
     walk_at "w"
     refine ue (by lia) fun p8 H8 z8 v8 o8 s8 m8 t8 nm8=>?_
     walk_at "w"
     refine en (by lia) (abd Rg (by decide +kernel)) fun p9 H9 s9 m9=>?_
     walk_at "w"
     rename_i pA HA YN mA
     have sZ:=((sm'.trans s8).trans s9).trans YN
     have e9:=sZ _ _ mw
     have lN:=hN.length
     rw [Rj] at rj
     have YO:l6≠p5:=fun z=>by
      have:=s5.trans s6
      rw [z,m5] at n6
      cases n6
     refine dQ e9 (by lia) ?_
     walk_at "w"
     refine⟨_,_,_,ws++[.ref pA],gL++[(o8,((pp / Nat.gcd pp bb:Nat):Int),((bb / Nat.gcd pp bb:Nat):Int))],rfl,(sm.trans sZ).bR n5,by rw [ax YO];exact sZ _ _ Rm,av,?_,by simp [lw],fun n hn=>?_⟩
     ·exact ((hN.same sZ).off e9).snoc (n:=(o8,((pp / Nat.gcd pp bb:Nat):Int),((bb / Nat.gcd pp bb:Nat):Int))) (cZ.off ⟨pA,v8,p9,rfl,aN.of mA,t8.same (s9.trans YN),YN.at (aN.of m9)⟩ e9)
     ·rcases aa3.mp hn with z|z
      ·exact EC n z
      ·rw [aa2.mp z]
       exact⟨nm8,si (by lia) (by lia)⟩
    ·obtain ⟨o4,o5,cv,ws,gL,rfl,sm,Rm,mw,hN,lw,EC⟩:=hp
     have e1:=sm _ _ mp
     have lN:=hN.length
     have lB:=hB.length
     rw [aa5,Rj] at lw
     walk_at "w"
     refine dQ e1 (by lia) ?_
     walk_at "w"
     refine⟨_,_,_,_,_,ys++[.ref p5],bs++[gL],rfl,(sn.trans sm).bR n1,?_,av,?_,fun z=>?_,by simp [lb],fun LS Bn=>?_⟩
     ·exact cx (sm.at YL) e1
     ·exact ((hB.same sm).off e1 hG).snoc (by rw [ax UB];exact mw) (hN.off e1)
     ·rcases aa3.mp z with z|z
      ·exact hG z
      ·have:=aa2.mp z
       cases this
       exact UB rfl
     ·rcases aa3.mp Bn with z|z
      ·exact bc LS z
      ·rw [aa2.mp z]
       exact⟨by lia,by lia,EC⟩
   ·obtain ⟨o1,o2,o3,o4,o5,ys,bs,rfl,sn,YL,mp,hB,hG,lb,bc⟩:=hp
    walk_at "w"
    refine en (by lia) (abd Rg (by decide +kernel)) fun p7 H7 s7 m7=>?_
    walk_at "w"
    rename_i p8 H8 s8 m8
    have sB:=s7.trans s8
    exact k p8 p7 p1 H8 (_,_) ys bs (sn.trans sB) ⟨aN.of m8,s8.at (aN.of m7),sB _ _ mp,hB.same sB⟩ ⟨by lia,by lia,bc,si (by lia) (by lia)⟩
theorem AL:aF ["_law_script","_law_kind","_law_at","_law_cell"] ["_law_script","_law_kind","_law_at"] (aq my):=⟨rfl,rfl,rfl,by decide +kernel,rfl,by decide +kernel,by decide +kernel⟩
structure AM(P:Program)(w:World)(K:Frag)(mg:Str->Option Value)(base:Heap)(G:iK):Prop where
 aA:Ok P w K mg base 1 "_law_cell_at" ["_law_script","_law_k"] (bI K)
 bA:Ok P w K mg base 1 "_law_mixed" ["_law_cell","_law_k"] (cA K)
 Fe:Ok P w K mg base 2 "_law_steps" ["_law_script","_law_at"] (jj K)
 IJ:Ok P w K mg base 2 "_law_keys" ["_law_script","_law_at"] (ka K)
theorem AN (D:Def K mg "_law_told" my ["_law_script","_law_kind","_law_at"]) (T:Txt K mg G) (O:AM P w K mg base G) (Y:base.NoSeer/\P.given.tree=none):Ok P w K mg base 3 "_law_told" ["_law_script","_law_kind","_law_at"] (kd K):=by
 have S:=AL
 refine D.ok S (fun vs H Q E h=>?_) (fun f c7 A outer s H vs Q E hr h=>?_)
 ·obtain ⟨_,_,_,_,rfl,_⟩:=h;rfl
 ·obtain ⟨a,ns,kn,j,rfl,ha,Pa,Sz,T5,k⟩:=h
  have hu:=bo hr
  have aB:=T.aB
  have aj:=T.aj
  refine⟨_,(ag (bB (ay bM (pv 1) ae (aH _)) (ao (aG (az O.Fe (hr.mono (by decide)) (aa (pv 0) (aa (pv 2) af))))) aK) (ag (bB (ay bM (pv 1) ae (aH _)) (ao (aG (az O.IJ (hr.mono (by decide)) (aa (pv 0) (aa (pv 2) af))))) aK) (ag (aw (i:=3) S.nd rfl (Or.inr rfl) (az O.aA (hr.mono (by decide)) (aa (pv 0) (aa (pv 2) af)))) (ao (aG (ah (nR K rfl) (aQ (aa (ah aV ae (ah aC (az O.bA (hr.mono (by decide)) (aa (pv 3) (aa ae af))) ae)) af)) (bu (cH K rfl) rfl T.da boot_tuple (aa (bg (N:=["_law_j","_law_cell"]) (ix:=[none,some 3]) rfl (cR rfl T.dJ (aa ae af)) (fun _ _ _ _ _=>(au (i:=0) (show eT ["_law_j","_law_cell"] by decide +kernel) rfl (Or.inl rfl))) (fun _ _ _ _ _=>rfl) (fun _ _ _ _ _=>(ah bF (ah aC (az O.bA (hr.mono (by decide)) (aa (pv 1) (aa (ah aV ae (pv 0)) af))) ae) ae)) rfl (by decide +kernel) (by decide +kernel) rfl ⟨⟨rfl,Or.inr (Or.inl rfl),rfl,rfl⟩,True.intro⟩) af)))))))),?_⟩
  walk_at "w"
  refine aU (fun h1=>?_) (fun h1=>?_)
  ·have oW:kn=1:=by simpa using h1
   walk_at "w"
   refine Aw ⟨ha,by lia,by lia⟩ fun l H' ys rs n s m hR hG Iv=>?_
   exact k l (.steps rs) H' s ⟨ys,m,hR,hG⟩ Iv oW.symm
  ·have oW:kn≠1:=by simpa using h1
   walk_at "w"
   refine aU (fun h2=>?_) (fun h2=>?_)
   ·have MG:kn=2:=by simpa using h2
    walk_at "w"
    refine Cf ⟨ha,by lia,by lia⟩ fun l H' ys ks n s m hK l3 hk=>?_
    exact k l (.keys ks) H' s ⟨ys,m,hK⟩ ⟨aaL l3 (by decide),fun q hq=>⟨(hk q hq).1,(hk q hq).2.1,(hk q hq).2.2.1,by have:=(hk q hq).2.2.2;lia⟩⟩ MG.symm
   ·have MG:kn≠2:=by simpa using h2
    walk_at "w"
    refine bz (by lia) fun mm g1 g2=>?_
    walk_at "w"
    rename_i p1 H1 s1 m1
    refine kM [some (.int _)] (fun _ x=>-30<=x/\x<=30) rfl (by decide) (fun i' H' Qc BO s' kc=>?_) (fun l5 H5 xs n5 s5 m5 lx hx=>?_)
    ·walk_at "w"
     refine bz (by lia) fun mm g1 g2=>?_
     walk_at "w"
     exact kc _ _ (by lia) (ai.refl _)
    walk_at "w"
    rename_i p6 H6 s6 m6
    obtain ⟨x1,x2,x3,x4,rfl⟩:∃ x1 x2 x3 x4,xs=[x1,x2,x3,x4]:=by match xs,lx with|[x1,x2,x3,x4],_=>exact⟨_,_,_,_,rfl⟩
    refine xy ((s5.trans s6).at (aN.of m1)) (aN.of m6) (fun z=>nomatch z) (fun z=>nomatch z) (by show 1+4<=1000;decide) fun p7 H7 s7 m7=>?_
    have hw:aN K H7 p7 ([1+mm % 19,x1,x2,x3,x4].map V.int):=aN.of m7
    have sA:=((s1.trans s5).trans s6).trans s7
    have hb:∀ x∈[1+mm % 19,x1,x2,x3,x4],-30<=x/\x<=30:=fun x lP=>by
     rcases aa9.mp lP with rfl|lP
     ·lia
     ·obtain ⟨j3,PY,e3⟩:=abB lP
      exact hx j3 x (by rw [aaZ PY,e3])
    rcases (show kn=0\/kn=3 by lia) with rfl|rfl
    ·exact k p7 (.plain _) H7 sA hw rfl rfl
    ·exact k p7 (.cG _) H7 sA hw ⟨rfl,by show 1<=1+mm % 19;lia,hb⟩ rfl
theorem AO:aF ["_law_kind","_law_told_here","_law_cell","_law_other_here","_law_span_here"] ["_law_kind","_law_told_here","_law_cell","_law_other_here"] (aq mC):=⟨rfl,rfl,rfl,by decide +kernel,rfl,by decide +kernel,by decide +kernel⟩
structure AQ(P:Program)(w:World)(K:Frag)(mg:Str->Option Value)(base:Heap)(G:iK):Prop where
 bA:Ok P w K mg base 1 "_law_mixed" ["_law_cell","_law_k"] (cA K)
 AR:Ok P w K mg base 2 "_law_nothing" ["_law_kind","_law_told_here","_law_cell"] (gJ K)
theorem AS (D:Def K mg "_law_span" mC ["_law_kind","_law_told_here","_law_cell","_law_other_here"]) (T:Txt K mg G) (O:AQ P w K mg base G) (Y:base.NoSeer/\P.given.tree=none):Ok P w K mg base 3 "_law_span" ["_law_kind","_law_told_here","_law_cell","_law_other_here"] (ke K):=by
 have S:=AO
 refine D.ok S (fun vs H Q E h=>?_) (fun f c7 A outer s H vs Q E hr h=>?_)
 ·obtain ⟨_,_,_,_,rfl,_⟩:=h;rfl
 ·obtain ⟨b,d,c,e,rfl,k8,bc,k⟩:=h
  have hu:=bo hr
  have aB:=T.aB
  have aj:=T.aj
  refine⟨_,(@ag _ _ _ _ _ (aw (i:=4) S.nd rfl (Or.inl rfl) (az O.AR (hr.mono (by decide)) (aa (pv 0) (aa (pv 1) (aa (pv 3) af))))) (@ag _ _ _ _ _ (bB (ay bM (ah aC (pv 2) ae) ae (aH _)) (ao (gn (ah bF (ah aV (aM (aD K rfl) (pv 4) (ah aC (ah bx (pv 2) ae) ae) (fun _ _=>rfl)) ae) (ah cV ae (ah aC (ah bx (pv 2) ae) ae))) (iP (pv 4) (ah aC (ah bx (pv 2) ae) ae) set_list))) aK) (@ag _ _ _ _ _ (bB (ay bM (ah aC (pv 2) ae) ae (aH _)) (ao (dF (k:=4) (N:=["_law_k","_law_other_here"]) (ix:=[none,some 3]) S.nd rfl (Or.inl rfl) rfl (cR rfl T.dJ (aa ae af)) (fun _ _ _ _ _=>(au (i:=0) (show eT ["_law_k","_law_other_here"] by decide +kernel) rfl (Or.inl rfl))) (fun _ _ _ _ _=>rfl) (fun _ _ _ _ _=>(ah bF (ah aC (az O.bA (hr.mono (by decide)) (aa (pv 1) (aa (ah aV ae (pv 0)) af))) ae) ae)) rfl (by decide +kernel) (by decide +kernel) rfl ⟨⟨rfl,Or.inr (Or.inl rfl),rfl,rfl⟩,True.intro⟩)) aK) (@ag _ _ _ _ _ (bB (ay bM (ah aC (pv 2) ae) ae (aH _)) (@ao _ _ _ (@aw _ _ 4 _ _ _ _ S.nd rfl (Or.inl rfl) (@nY _ _ _ _ (by rfl)) (by rfl) (by first|exact .inl rfl|exact .inr rfl|assumption))) aK) (ao (aG (bu (cH K rfl) rfl T.da boot_tuple (aa (pv 4) af)))))))),?_⟩
  walk_at "w"
  refine vq ⟨k8,bc⟩ fun l1 H1 r1 n1 s1 m1 Rb=>?_
  walk_at "j"
  refine join (fun σ' H'=>∃ (l:Addr) (r:List Int),σ'=[some (.int d.num),some (.ref b),some (.int c),some (.int e),some (.ref l)]/\ai H H'/\H' l=some (.lst (r.map V.int))/\gY 31 r) (fun nx eF=>?_) (fun σ' H2 hP=>?_)
  ·walk_at "w"
   refine aU (fun h1=>?_) (fun h1=>?_)
   ·obtain ⟨j1,e1,b1⟩:∃ j1:Nat,c / 4 % 5=(j1:Int)/\j1<5:=⟨(c / 4 % 5).toNat,by lia,by lia⟩
    have l5:=Rb.1
    have hz:-30<=r1.getD j1 0/\r1.getD j1 0<=30:=Rb.2 _ (by rw [List.getD,aaZ (show j1<r1.length by lia)];exact abA _)
    walk_at "w"
    rw [e1]
    refine du (aR.of m1) (aS (int_at (by lia))) ?_
    walk_at "w"
    rw [e1]
    refine eY (j:=j1) m1 (dX (by rw [aa5];lia)) ?_
    have hc:c / 20 % 2=0\/c / 20 % 2=1:=by lia
    refine eF _ _ ⟨l1,r1.set j1 (r1.getD j1 0+1 - 2*(c / 20 % 2)),rfl,s1.bR n1,by rw [av,map_set],by rw [length_set];exact l5,fun x hx=>?_⟩
    rcases mem_or_eq_of_mem_set hx with y|y
    ·have:=Rb.2 x y
     lia
    ·rw [y]
     lia
   ·walk_at "w"
    exact eF _ _ ⟨l1,r1,rfl,s1,m1,Rb.1,fun x hx=>by have:=Rb.2 x hx;lia⟩
  obtain ⟨l2,r2,rfl,s2,m2,Uz⟩:=hP
  walk_at "j"
  refine join (fun σ' H'=>∃ (l:Addr) (r:List Int),σ'=[some (.int d.num),some (.ref b),some (.int c),some (.int e),some (.ref l)]/\ai H H'/\H' l=some (.lst (r.map V.int))/\gY 31 r) (fun nx eF=>?_) (fun σ' H3 hP=>?_)
  ·walk_at "w"
   refine aU (fun h1=>?_) (fun h1=>?_)
   ·walk_at "w"
    refine kM [some (.int e)] (fun _ x=>-4<=x/\x<=4) rfl (by decide) (fun i H' Qc hi s kc=>?_) (fun lq H7 sq n7 s7 m7 lq5 hq=>?_)
    ·have hi5:i<5:=hi
     walk_at "w"
     refine bz (by lia) fun mm g1 g2=>?_
     walk_at "w"
     exact kc _ _ (by lia) (ai.refl _)
    walk_at "w"
    refine eF _ _ ⟨lq,sq,rfl,s2.trans s7,m7,lq5,fun x lP=>?_⟩
    obtain ⟨j3,PY,e3⟩:=abB lP
    have:=hq j3 x (by rw [aaZ PY,e3])
    lia
   ·walk_at "w"
    exact eF _ _ ⟨l2,r2,rfl,s2,m2,Uz⟩
  obtain ⟨l3,r3,rfl,s3,m3,hr3⟩:=hP
  walk_at "j"
  refine join (fun σ' H'=>∃ (l:Addr) (r:List Int),σ'=[some (.int d.num),some (.ref b),some (.int c),some (.int e),some (.ref l)]/\ai H H'/\H' l=some (.lst (r.map V.int))/\gY 31 r) (fun nx eF=>?_) (fun σ' H4 hP=>?_)
  ·walk_at "w"
   refine aU (fun h1=>?_) (fun h1=>?_)
   ·walk_at "w"
    rename_i p5 H5 n5 s5 m5
    refine eF _ _ ⟨p5,[0,0,0,0,0],rfl,s3.trans s5,m5,rfl,fun x hx=>?_⟩
    simp only [aa9,not_mem_nil,or_false,or_self] at hx
    rw [hx]
    decide
   ·walk_at "w"
    exact eF _ _ ⟨l3,r3,rfl,s3,m3,hr3⟩
  obtain ⟨l4,r4,rfl,s4,m4,hr4⟩:=hP
  walk_at "w"
  rename_i p5 H5 s5 m5
  exact k p5 H5 r4 (s4.trans s5) m5 hr4
theorem yt:aF ["_law_kind","_law_told_here","_law_tune_here","_law_bars","_law_bar"] ["_law_kind","_law_told_here","_law_tune_here"] (aq j5):=⟨rfl,rfl,rfl,by decide +kernel,rfl,by decide +kernel,by decide +kernel⟩
structure yu(P:Program)(w:World)(K:Frag)(mg:Str->Option Value)(base:Heap)(G:iK):Prop where
 kT:Ok P w K mg base 2 "_law_sound" ["_law_kind","_law_told_here","_law_row"] (gj K)
theorem yv (D:Def K mg "_law_heard" j5 ["_law_kind","_law_told_here","_law_tune_here"]) (T:Txt K mg G) (O:yu P w K mg base G) (Y:base.NoSeer/\P.given.tree=none):Ok P w K mg base 3 "_law_heard" ["_law_kind","_law_told_here","_law_tune_here"] (jm K):=by
 have S:=yt
 refine D.ok S (fun vs H Q E h=>?_) (fun f c7 A outer s H vs Q E hr h=>?_)
 ·obtain ⟨_,_,_,_,_,_,_,_,_,rfl,_⟩:=h;rfl
 ·obtain ⟨b,a,m,l,d,u,mt,xs,bs,rfl,tu,hR,k8,bc,FW,YQ,k⟩:=h
  have hu:=bo hr
  have aB:=T.aB
  have aj:=T.aj
  refine⟨_,(ag (aw (i:=3) S.nd rfl (Or.inl rfl) (bG af)) (ag (dh PassesOwn.never rfl (aW K rfl (aM (aD K rfl) (pv 2) ae (fun _ _=>rfl))) (au (i:=4) S.nd rfl (Or.inl rfl)) (ao (ej (jE PySem.F.plainAttrs_list PySem.F.slot_list_append PySem.F.type_list_append cF (pv 3) (aa (bg (N:=["_law_tone","_law_length","_law_kind","_law_told_here"]) (ix:=[none,none,some 0,some 1]) rfl (aW K rfl (pv 4)) (fun _ _ _ _ _=>(cw (n:=2) K rfl rfl (aJ (au (i:=0) (show eT ["_law_tone","_law_length","_law_kind","_law_told_here"] by decide +kernel) rfl (Or.inl rfl)) (aJ (au (i:=1) (show eT ["_law_tone","_law_length","_law_kind","_law_told_here"] by decide +kernel) rfl (Or.inl rfl)) cu)))) (fun _ _ _ _ _=>rfl) (fun _ _ _ _ _=>(aQ (aa (gm (ay Bk (pv 0) ib (aH _)) ib (az O.kT (hr.mono (by decide)) (aa (pv 2) (aa (pv 3) (aa (pv 0) af))))) (aa (pv 1) af)))) rfl (by decide +kernel) (by decide +kernel) rfl ⟨⟨rfl,Or.inr (Or.inl rfl),rfl,rfl⟩,⟨⟨rfl,Or.inr (Or.inl rfl),rfl,rfl⟩,True.intro⟩⟩) af))))) (ao (aG (aQ (aa (aM (aD K rfl) (pv 2) ae (fun _ _=>rfl)) (aa (pv 3) af))))))),?_⟩
  obtain ⟨IH,AH,E9,FU⟩:=id tu
  have lx:=FU.length
  have lb12:=hR.2.1
  walk_at "w"
  rename_i pl HE nE sE mE
  refine pF (xs:=xs) (fun i σ Hn=>∃ (o1:Option V) (ys:List V),σ=[some (.int d.num),some (.ref b),some (.ref a),some (.ref pl),o1]/\ai H Hn/\Hn pl=some (.lst ys)/\cP K Hn ys ((bs.take i).map fun ns=>ns.map (gd (.sd u)))/\(V.ref pl∉ys)/\ys.length=i) ⟨_,[],rfl,sE,mE,.nil,(fun z=>nomatch z),rfl⟩ (fun i σ Hn hp=>by obtain ⟨_,_,rfl,sn,_⟩:=hp;exact aR.of (sn _ _ E9)) (fun i x σ Hn hx hp=>?_) (fun σ Hn hp=>?_)
  ·obtain ⟨o1,ys,rfl,sn,mp,hB,hG,ly⟩:=hp
   have hi:i<xs.length:=(aaI.mp hx).1
   obtain ⟨a1,Dx,gL,rfl,hz,xD,BW⟩:=(FU.same sn).get hx
   have FX:gL∈bs:=aa4 BW
   have UC:=hR.2.2 gL FX
   have et:bs.take (i+1)=bs.take i++[gL]:=by rw [take_add_one,BW];rfl
   have lz:=xD.length
   have l12:=UC.2.1
   have YR:=k8.same sn
   walk_at "w"
   refine cC 2 [some (.int d.num),some (.ref b)] gL.length (fun l i ws H'=>bE K H' ws ((gL.take i).map (gd (.sd u)))) rfl (fun _ _ _ _ _=>.nil) (fun l i ws H' h=>by have:=h.length;rw [aa5,abl] at this;lia) (fun H' s=>⟨Dx,s.seq (aR.of hz),by lia⟩) (fun i H' hi s=>⟨Dx,Dx[i]'(by lia),s.seq (aR.of hz),aaZ (by lia)⟩) (fun l i' x H' H2 own ws ho BO rY s9 dE rQ hy Qy Qn ky kn=>?_) (fun l3 H3 ws n3 s3 m3 rQ=>?_)
   ·obtain ⟨q1,q2,rfl⟩:∃ q1 q2,own=[q1,q2]:=by match own,ho with|[q1,q2],_=>exact⟨q1,q2,rfl⟩
    obtain ⟨rfl,e⟩:=hy
    obtain ⟨n,rJ,Ff⟩:=(xD.same s9).get (e Dx (s9.seq (aR.of hz)))
    have V7:n∈gL:=aa4 Ff
    have Rn:gL.take (i'+1)=gL.take i'++[n]:=by rw [take_add_one,Ff];rfl
    have y8:=UC.2.2 n V7
    obtain ⟨an,tn,ln,rfl,FT,Bn,FV⟩:=rJ
    obtain ⟨n1',nt,nb⟩:=n
    refine xF FT ?_
    cases n1' with
    | none =>
     obtain rfl:tn=.dz:=Bn
     walk_at "w"
     refine jI ?_
     walk_at "w"
     refine⟨rfl,?_⟩
     walk_at "w"
     refine d9 rfl ?_
     walk_at "w"
     rename_i p7 H7 s7 m7
     have e7:=s7 _ _ dE
     refine ky [some .dz,some (.ref ln)] _ H7 rfl s7 ?_
     rw [Rn,abo]
     exact ((rQ.same s7).off e7).snoc (n:=gd (.sd u) (none,nt,nb)) (cZ.off ⟨p7,.dz,ln,rfl,aN.of m7,rfl,s7.at FV⟩ e7)
    | some tt =>
     cases tt with
     | num i0=>exact y8.elim
     | row r =>
      obtain ⟨ar,rfl,V8,_⟩:=Bn
      have V9:gY 1000 r:=y8
      walk_at "w"
      refine jI ?_
      walk_at "w"
      refine⟨rfl,?_⟩
      walk_at "w"
      refine bH rfl ?_
      walk_at "w"
      refine kf ⟨YR.same s9,bc,V8,V9.1,V9.2⟩ fun z H5 y s5 QX hD=>?_
      have ey:uW u r=y:=gE FW V9.1 (YQ r y V9.1 hD)
      walk_at "w"
      rename_i p7 H7 s7 m7
      have IF:=s5.trans s7
      have e7:=IF _ _ dE
      refine ky [some (.ref ar),some (.ref ln)] _ H7 rfl IF ?_
      rw [Rn,abo]
      refine ((rQ.same IF).off e7).snoc (n:=gd (.sd u) (some (.row r),nt,nb)) (cZ.off ⟨p7,z,ln,rfl,aN.of m7,?_,IF.at FV⟩ e7)
      show JC K H7 z (uW u r)
      rw [ey]
      exact QX.same s7
   ·rw [abk] at rQ
    have YS:=s3 _ _ mp
    have ne3:l3≠pl:=fun z=>by rw [z,mp] at n3;cases n3
    walk_at "w"
    refine dQ YS (by lia) ?_
    walk_at "w"
    refine⟨_,ys++[.ref l3],rfl,(sn.trans s3).bR nE,av,?_,fun z=>?_,by simp [ly]⟩
    ·rw [et,abo]
     exact ((hB.same s3).off YS hG).snoc (by rw [ax ne3];exact m3) (rQ.off YS)
    ·rcases aa3.mp z with z|z
     ·exact hG z
     ·have:=aa2.mp z
      cases this
      exact ne3 rfl
  ·obtain ⟨o1,ys,rfl,sn,mp,hB,hG,ly⟩:=hp
   rw [<- lx,abk] at hB
   have tu1n:=sn.at IH
   walk_at "w"
   rename_i pd HF sF mF
   exact k pd pl HF ys nE (sn.trans sF) ⟨aN.of mF,(sn.trans sF).at AH,sF _ _ mp,hB.same sF⟩
theorem vJ:aF ["self","row"] ["self","row"] (aq dG):=⟨rfl,rfl,rfl,by decide +kernel,rfl,by decide +kernel,by decide +kernel⟩
structure vK(P:Program)(w:World)(K:Frag)(mg:Str->Option Value)(base:Heap)(G:iK):Prop where
 gM:xG P w K mg base 2 G.cT ["self","keys"] (dZ K)
theorem vL (D:kU K G.gh "__init__" "Board.__init__" dG ["self","row"]) (T:Txt K mg G) (O:vK P w K mg base G) (Y:base.NoSeer/\P.given.tree=none):xG P w K mg base 3 G.gh ["self","row"] (iy K):=by
 have S:=vJ
 refine D.ok S (fun vs H Q E h=>?_) (fun f c7 A outer s H vs Q E hr h=>?_)
 ·obtain ⟨_,_,_,_,_,rfl,_⟩:=h;rfl
 ·obtain ⟨x,a,C,dx,w,rfl,hC,hx,ha,lw,hw1,k⟩:=h
  have hu:=bo hr
  have aB:=T.aB
  have aj:=T.aj
  have cD:=T.cD
  have aY:=T.aY
  have aI:=T.aI
  have bp:=T.bp
  have aE:=T.aE
  have cL:=T.cL
  have aO:=T.aO
  have aX:=T.aX
  refine⟨_,(@ag _ _ _ _ _ (bB (ay zi (aM (aD K rfl) (pv 1) ae (fun _ _=>rfl)) ae (aH _)) (ao jN) aK) (@ag _ _ _ _ _ (ej (XT O.gM T.pT (hr.mono (by decide)) rfl T.qT (@aa _ _ _ _ _ (pv 0) (@aa _ _ _ _ _ (@bG _ _ _ _ (@aa _ _ _ _ _ (@aQ _ _ _ _ _ (aa (pv 1) (aa ae af))) af (by rfl))) af (by rfl)) (by rfl)))) (ao (xI K rfl (pv 0) (aM (aD K rfl) (pv 1) ae (fun _ _=>rfl)) rfl)))),?_⟩
  obtain rfl:G.dH=C:=by have:=T.jg;rw [hC] at this;cases this;rfl
  walk_at "w"
  refine eH ha (aS (j:=0) (int_at (by lia))) ?_
  walk_at "w"
  refine bH (aaS (by lia)) ?_
  ·walk_at "w"
   rename_i p1 H1 s1 m1 l2 H2 n2 s2 m2
   have E8:=s1.trans s2
   have kk:bY K H2 [.ref p1] [(w,0)]:=.cons (s2.at (aN.of m1)) (E8.at ha) .nil
   refine iN ⟨.inr T.jg,E8 _ _ hx,aR.of m2,kk,abx rfl,fun k hk=>.inl (by rw [aa2.mp hk])⟩ fun l3 H3 n3 s3 m3=>?_
   have YT:=E8.trans s3
   have VN:=YT _ _ hx
   have Ro:=YT.at ha
   have hax:aN K (upd H3 x (.ins G.dH dx [("own_keys",.ref l3)])) a (w.map V.int):=sg Ro VN
   walk_at "w"
   refine eH hax (aS (j:=0) (int_at (by lia))) ?_
   walk_at "w"
   refine rZ av cL aX (abx rfl) ?_
   exact k l3 H3 [.ref p1] (E8.new n3) YT m3 (kk.same s3) VN
theorem Cq:aF ["row"] ["row"] (aq pL):=⟨rfl,rfl,rfl,by decide +kernel,rfl,by decide +kernel,by decide +kernel⟩
structure Cr(P:Program)(w:World)(K:Frag)(mg:Str->Option Value)(base:Heap)(G:iK):Prop where
 LW:Ok P w K mg base 3 "is_tone" ["thing"] (mG K)
theorem Cs (D:Def K mg "tone_of" pL ["row"]) (T:Txt K mg G) (O:Cr P w K mg base G) (Y:base.NoSeer/\P.given.tree=none):Ok P w K mg base 4 "tone_of" ["row"] (jh K):=by
 have S:=Cq
 refine D.ok S (fun vs H Q E h=>?_) (fun f c7 A outer s H vs Q E hr h=>?_)
 ·obtain ⟨_,_,_,_,_,_,rfl,_⟩:=h;rfl
 ·obtain ⟨a,x0,x1,x2,x3,x4,rfl,ha,hf,kq⟩:=h
  have hu:=bo hr
  have aB:=T.aB
  have aj:=T.aj
  refine⟨_,(ag (bB (xc (sN (az O.LW (hr.mono (by decide)) (aa (pv 0) af)))) (ao jN) aK) (ao (aG (pv 0)))),?_⟩
  walk_at "w"
  refine Cc (by walk_at "hf") fun H1 s1=>?_
  walk_at "w"
  refine bH (by rw [hf];rfl) ?_
  walk_at "w"
  exact kq _ (by walk_at "sm")
theorem yw:aF ["_law_script","_law_kind","_law_far","_law_told_here","_law_tune_here"] ["_law_script","_law_kind","_law_far"] (aq j6):=⟨rfl,rfl,rfl,by decide +kernel,rfl,by decide +kernel,by decide +kernel⟩
structure yx(P:Program)(w:World)(K:Frag)(mg:Str->Option Value)(base:Heap)(G:iK):Prop where
 aA:Ok P w K mg base 1 "_law_cell_at" ["_law_script","_law_k"] (bI K)
 IK:Ok P w K mg base 3 "_law_tune" ["_law_script","_law_at"] (j8 K)
 IL:Ok P w K mg base 3 "_law_told" ["_law_script","_law_kind","_law_at"] (kd K)
 IM:Ok P w K mg base 3 "_law_span" ["_law_kind","_law_told_here","_law_cell","_law_other_here"] (ke K)
 um:Ok P w K mg base 2 "_law_digit_tune" ["_law_script"] (fj K)
 uo:Ok P w K mg base 2 "_law_digit_told" ["_law_script","_law_kind"] (fk K)
 uq:Ok P w K mg base 2 "_law_digit_span" ["_law_script","_law_kind","_law_told_here"] (fo K)
theorem yy (D:Def K mg "_law_drawn" j6 ["_law_script","_law_kind","_law_far"]) (T:Txt K mg G) (O:yx P w K mg base G) (Y:base.NoSeer/\P.given.tree=none):Ok P w K mg base 4 "_law_drawn" ["_law_script","_law_kind","_law_far"] (jn K):=by
 have S:=yw
 refine D.ok S (fun vs H Q E h=>?_) (fun f c7 A outer s H vs Q E hr h=>?_)
 ·obtain ⟨_,_,_,_,rfl,_⟩:=h;rfl
 ·obtain ⟨a,ns,kn,fr,rfl,ha,Pa,k⟩:=h
  have hu:=bo hr
  have aB:=T.aB
  have aj:=T.aj
  refine⟨_,(ag (bB (sN (pv 2)) (ag (aw (i:=3) S.nd rfl (Or.inl rfl) (az O.uo (hr.mono (by decide)) (aa (pv 0) (aa (pv 1) af)))) (ao (aG (aQ (aa (pv 3) (aa (az O.um (hr.mono (by decide)) (aa (pv 0) af)) (aa (az O.uq (hr.mono (by decide)) (aa (pv 0) (aa (pv 1) (aa (pv 3) af)))) af))))))) aK) (ag (aw (i:=3) S.nd rfl (Or.inl rfl) (az O.IL (hr.mono (by decide)) (aa (pv 0) (aa (pv 1) (aa ae af))))) (ag (aw (i:=4) S.nd rfl (Or.inl rfl) (az O.IK (hr.mono (by decide)) (aa (pv 0) (aa ae af)))) (ag (bB (ay bM (ah aC (ah bx (az O.aA (hr.mono (by decide)) (aa (pv 0) (aa ae af))) ae) ae) ae (aH _)) (ao (aw (i:=4) S.nd rfl (Or.inl rfl) (aQ (aa (aM (aD K rfl) (pv 4) ae (fun _ _=>rfl)) (aa (bg (N:=["_law_bar"]) (ix:=[none]) rfl (aW K rfl (aM (aD K rfl) (pv 4) ae (fun _ _=>rfl))) (fun _ _ _ _ _=>(au (i:=0) (show eT ["_law_bar"] by decide +kernel) rfl (Or.inl rfl))) (fun _ _ _ _ _=>rfl) (fun _ _ _ _ _=>(bg (N:=["_law_note"]) (ix:=[none]) rfl (aW K rfl (pv 0)) (fun _ _ _ _ _=>(au (i:=0) (show eT ["_law_note"] by decide +kernel) rfl (Or.inl rfl))) (fun _ _ _ _ _=>rfl) (fun _ _ _ _ _=>(aQ (aa ib (aa (aM (aD K rfl) (pv 0) ae (fun _ _=>rfl)) af)))) rfl (by decide +kernel) (by decide +kernel) rfl True.intro)) rfl (by decide +kernel) (by decide +kernel) rfl True.intro) af))))) aK) (ao (aG (aQ (aa (pv 3) (aa (pv 4) (aa (az O.IM (hr.mono (by decide)) (aa (pv 1) (aa (pv 3) (aa (az O.aA (hr.mono (by decide)) (aa (pv 0) (aa ae af))) (aa (az O.aA (hr.mono (by decide)) (aa (pv 0) (aa ae af))) af))))) af)))))))))),?_⟩
  cases fr with
  | true =>
   walk_at "w"
   refine d9 rfl ?_
   walk_at "w"
   refine qb ⟨ha,Pa⟩ fun b d H1 s1 k8 bc Ct=>?_
   have E1:=s1.seq ha
   walk_at "w"
   refine qa E1 fun t m l H2 mt xs bs s2 tu hO hL hM=>?_
   have Rf:=s2.seq E1
   walk_at "w"
   rw [<- Ct]
   refine qc ⟨Rf,k8.same s2,bc⟩ fun q H3 sq s3 m3 YU=>?_
   walk_at "w"
   rename_i p4 H4 s4 m4
   have Rp:=(s2.trans s3).trans s4
   exact k p4 b t m l q d mt xs bs sq H4 (s1.trans Rp) m4 (k8.same Rp) bc Ct (tu.same (s3.trans s4)) (s4.at (aN.of m3)) (HU hO hL hM YU (by decide) (by decide) (by decide) (by decide) (by decide) (by decide))
  | false =>
   walk_at "w"
   refine bH rfl ?_
   walk_at "w"
   refine Cg ⟨ha,Pa,by lia,by lia⟩ fun b d H1 s1 k8 bc Ct=>?_
   have E1:=s1.seq ha
   walk_at "w"
   refine Cd ⟨E1,by lia,by lia⟩ fun t m l H2 mt xs bs s2 tu ok=>?_
   have Rf:=s2.seq E1
   walk_at "j"
   refine join (fun σ' H'=>∃ (t l:Addr) (xs:List V) (bs:List (List Nt)),σ'=[some (.ref a),some (.int kn),some (.bl false),some (.ref b),some (.ref t)]/\ai H2 H'/\bh K H' t m l mt xs bs/\JF 100 20 bs/\rB bs) (fun nx eF=>?_) (fun σ' H3 hP=>?_)
   ·walk_at "w"
    refine aU (fun h1=>?_) (fun h1=>?_)
    ·obtain ⟨IH,AH,E9,FU⟩:=id tu
     have lx:=FU.length
     have lb:=ok.2.1
     walk_at "w"
     refine cC 1 [] bs.length (fun l i ys H'=>cP K H' ys ((bs.take i).map fun ns=>ns.map HV)/\(V.ref l∉ys)) rfl (fun l H' _ _ _=>⟨.nil,fun z=>nomatch z⟩) (fun l i ys H' h=>by have:=h.1.length;rw [aa5,abl] at this;lia) (fun H' s=>⟨xs,s.seq (aR.of E9),by lia⟩) (fun i H' hi s=>⟨xs,xs[i]'(by lia),s.seq (aR.of E9),aaZ (by lia)⟩) (fun l2 i x H' Yy own ys ho hi rY s9 dE hp hy Qy Qn ky kn=>?_) (fun l2 H' ys rY s9 dE hp=>?_)
     ·obtain ⟨o1,rfl⟩:∃ o1,own=[o1]:=by match own,ho with|[o1],_=>exact⟨o1,rfl⟩
      obtain ⟨rfl,e⟩:=hy
      obtain ⟨a1,zs,gL,rfl,hz,xD,BW⟩:=(FU.same s9).get (e xs (s9.seq (aR.of E9)))
      have FX:gL∈bs:=aa4 BW
      have et:bs.take (i+1)=bs.take i++[gL]:=by rw [take_add_one,BW];rfl
      have lz:=xD.length
      have l12:=(ok.2.2.1 gL FX).2.1
      walk_at "w"
      refine jI ?_
      walk_at "w"
      refine cC 1 [] gL.length (fun l i ws H'=>bE K H' ws ((gL.take i).map HV)) rfl (fun _ _ _ _ _=>.nil) (fun l i ws H' h=>by have:=h.length;rw [aa5,abl] at this;lia) (fun H' s=>⟨zs,s.seq (aR.of hz),by lia⟩) (fun i H' hi s=>⟨zs,zs[i]'(by lia),s.seq (aR.of hz),aaZ (by lia)⟩) (fun l i' x H6 H7 own ws ho BO Rm s6 UD rQ hy Qy Qn YV kn'=>?_) (fun l3 H9 ws n9 uX m9 rQ=>?_)
      ·obtain ⟨o1,rfl⟩:∃ o1,own=[o1]:=by match own,ho with|[o1],_=>exact⟨o1,rfl⟩
       obtain ⟨rfl,e⟩:=hy
       obtain ⟨n,rJ,Ff⟩:=(xD.same s6).get (e zs (s6.seq (aR.of hz)))
       have Rn:gL.take (i'+1)=gL.take i'++[n]:=by rw [take_add_one,Ff];rfl
       obtain ⟨an,tn,ln,rfl,FT,Bn,FV⟩:=rJ
       walk_at "w"
       refine jI ?_
       walk_at "w"
       rename_i p7 H8 s8 m8
       have e8:=s8 _ _ UD
       refine YV [some (.ref an)] _ H8 rfl s8 ?_
       rw [Rn,abo]
       exact ((rQ.same s8).off e8).snoc (n:=HV n) (cZ.off ⟨p7,.dz,ln,rfl,aN.of m8,rfl,s8.at FV⟩ e8)
      ·rw [abk] at rQ
       have LO:=uX _ _ dE
       have ne:l3≠l2:=fun z=>by rw [z,dE] at n9;cases n9
       refine ky [some (.ref a1)] _ H9 rfl uX ⟨?_,fun z=>?_⟩
       ·rw [et,abo]
        exact ((hp.1.same uX).off LO hp.2).snoc (by rw [ax ne];exact m9) (rQ.off LO)
       ·rcases aa3.mp z with z|z
        ·exact hp.2 z
        ·have:=aa2.mp z
         cases this
         exact ne rfl
     ·rw [abk] at hp
      walk_at "w"
      rename_i p5 H5 s5 m5
      exact eF _ _ ⟨p5,l2,ys,_,rfl,s9.trans s5,⟨aN.of m5,(s9.trans s5).at AH,s5 _ _ dE,hp.1.same s5⟩,ok.o.X8,ok.l.1.X8⟩
    ·walk_at "w"
     exact eF _ _ ⟨t,l,xs,bs,rfl,ai.refl _,tu,ok.o,ok.l.1⟩
   obtain ⟨t,l,xs,bs,rfl,s3,tu,hO,hL⟩:=hP
   have Ro:=s3.seq Rf
   walk_at "w"
   rw [<- Ct]
   refine Ci ⟨k8.same (s2.trans s3),bc⟩ fun q H4 sq s4 m4 YU=>?_
   walk_at "w"
   rename_i p5 H5 s5 m5
   have LX:=((s2.trans s3).trans s4).trans s5
   exact k p5 b t m l q d mt xs bs sq H5 (s1.trans LX) m5 (k8.same LX) bc Ct (tu.same (s4.trans s5)) (s5.at (aN.of m4)) (HU hO hL ok.l.2 YU.t (by decide) (by decide) (by decide) (by decide) (by decide) (by decide))
theorem mP:aF ["self","row"] ["self","row"] (aq b9):=⟨rfl,rfl,rfl,by decide +kernel,rfl,by decide +kernel,by decide +kernel⟩
structure mQ(P:Program)(w:World)(K:Frag)(mg:Str->Option Value)(base:Heap)(G:iK):Prop where
 values:Ok P w K mg base 3 "values" ["keys","row"] (kR K)
theorem mR (D:kU K G.dY "sound" "KeyTuning.sound" b9 ["self","row"]) (T:Txt K mg G) (O:mQ P w K mg base G) (Y:base.NoSeer/\P.given.tree=none):xG P w K mg base 4 G.dY ["self","row"] (dM K):=by
 have S:=mP
 refine D.ok S (fun vs H Q E h=>?_) (fun f c7 A outer s H vs Q E hr h=>?_)
 ·obtain ⟨_,_,_,_,_,rfl,_⟩:=h;rfl
 ·obtain ⟨x,l,a,ks,r,rfl,⟨C,dx,ys,hC,hx,m1,k1⟩,⟨h6,hg,hw⟩,ha,lr,br,k⟩:=h
  have hu:=bo hr
  have aB:=T.aB
  have aj:=T.aj
  have cD:=T.cD
  have aY:=T.aY
  have aI:=T.aI
  have bp:=T.bp
  have aE:=T.aE
  have cL:=T.cL
  have aO:=T.aO
  have aX:=T.aX
  refine⟨_,(ao (aG (az O.values (hr.mono (by decide)) (aa (xH K rfl (pv 0) rfl) (aa (pv 1) af))))),?_⟩
  obtain rfl:G.bV=C:=by have:=T.fT;rw [hC] at this;cases this;rfl
  walk_at "w"
  exact Av ⟨aR.of m1,k1,h6,hg,fun q hq=>⟨(hw q hq).1,Ls (hw q hq).2.1 (by decide)⟩,ha,lr,Ls br (by decide)⟩ k
theorem ur:aF ["self","row"] ["self","row"] (aq di):=⟨rfl,rfl,rfl,by decide +kernel,rfl,by decide +kernel,by decide +kernel⟩
structure uu(P:Program)(w:World)(K:Frag)(mg:Str->Option Value)(base:Heap)(G:iK):Prop where
 values:Ok P w K mg base 3 "values" ["keys","row"] (kR K)
theorem uw (D:kU K G.fL "sound" "Board.sound" di ["self","row"]) (T:Txt K mg G) (O:uu P w K mg base G) (Y:base.NoSeer/\P.given.tree=none):xG P w K mg base 4 G.fL ["self","row"] (fq K):=by
 have S:=ur
 refine D.ok S (fun vs H Q E h=>?_) (fun f c7 A outer s H vs Q E hr h=>?_)
 ·obtain ⟨_,_,_,_,_,rfl,_⟩:=h;rfl
 ·obtain ⟨x,l,a,w,r,rfl,⟨C,dx,ys,hC,hx,m1,k1⟩,⟨lw,bw⟩,ha,lr,br,k⟩:=h
  have hu:=bo hr
  have aB:=T.aB
  have aj:=T.aj
  have cD:=T.cD
  have aY:=T.aY
  have aI:=T.aI
  have bp:=T.bp
  have aE:=T.aE
  have cL:=T.cL
  have aO:=T.aO
  have aX:=T.aX
  refine⟨_,(ao (aG (aM (aD K rfl) (az O.values (hr.mono (by decide)) (aa (xH K rfl (pv 0) rfl) (aa (pv 1) af))) ae (fun _ _=>rfl)))),?_⟩
  obtain rfl:G.dH=C:=by have:=T.jg;rw [hC] at this;cases this;rfl
  walk_at "w"
  refine Av ⟨aR.of m1,k1,abx rfl,fun q hq=>.inl (by rw [aa2.mp hq]),fun q hq=>by rw [aa2.mp hq];exact⟨lw,Ls bw (by decide)⟩,ha,lr,Ls br (by decide)⟩ fun p H' s m=>?_
  walk_at "w"
  have e:val w 0 r=dt r w:=by unfold val;rw [if_pos rfl];rfl
  show Q (.int (val w 0 r)) H'
  rw [e]
  exact k H' s
theorem Cu:aF ["vector","step","place"] ["vector","step","place"] (aq pN):=⟨rfl,rfl,rfl,by decide +kernel,rfl,by decide +kernel,by decide +kernel⟩
structure Cv(P:Program)(w:World)(K:Frag)(mg:Str->Option Value)(base:Heap)(G:iK):Prop where
 over:Ok P w K mg base 1 "over" ["one","other"] (xX K)
 power:Ok P w K mg base 1 "power" ["row","n"] (ow K)
theorem Cw (D:Def K mg "lowered" pN ["vector","step","place"]) (T:Txt K mg G) (O:Cv P w K mg base G) (Y:base.NoSeer/\P.given.tree=none):Ok P w K mg base 34 "lowered" ["vector","step","place"] (gI K):=by
 have S:=Cu
 refine D.ok S (fun vs H Q E h=>?_) (fun f c7 A outer s H vs Q E hr h=>?_)
 ·obtain ⟨_,_,_,_,_,_,_,_,rfl,_⟩:=h;rfl
 ·obtain ⟨a,b,p,n,M,k,v,s,rfl,ha,hb,lv,ls,hn,hp,h0,bv,bs,hM,hk,kk⟩:=h
  have hu:=bo hr
  have aB:=T.aB
  have aj:=T.aj
  refine⟨_,(ao (aG (az O.over (hr.mono (by decide)) (aa (pv 0) (aa (az O.power (hr.mono (by decide)) (aa (pv 1) (aa (ah (Ho Y rfl rfl rfl rfl rfl (hr.mono (by decide))) (aM (aD K rfl) (pv 0) (pv 2) (fun _ _=>rfl)) (aM (aD K rfl) (pv 1) (pv 2) (fun _ _=>rfl))) af))) af))))),?_⟩
  walk_at "v"
  refine eH ha (aS (int_at (by lia))) ?_
  walk_at "v"
  refine eH hb (aS (int_at (by lia))) ?_
  walk_at "w"
  refine DO s hb (by lia) (fun x hx=>?_) fun p1 H1 s1 m1=>?_
  ·have b1:lH x<=k:=by
    rw [nS]
    exact zC (abd (B3 bs hx) hM)
   have b2:lH ((v.getD p 0).fdiv (s.getD p 0))<=k:=by
    rw [nS]
    exact zC (abd (aaL (xt _ h0) (bv p)) hM)
   unfold qS
   lia
  walk_at "w"
  refine PQ v (c5 s ((v.getD p 0).fdiv (s.getD p 0))) (s1.at ha) (aN.of m1) (by rw [lv,aP ls]) (by lia) fun p2 H2 s2 m2=>?_
  exact kk _ _ (s1.trans s2) m2
theorem Fg:aF ["vectors","place","led","others","least","left"] ["vectors","place"] (aq gB):=⟨rfl,rfl,rfl,by decide +kernel,rfl,by decide +kernel,by decide +kernel⟩
structure Fh(P:Program)(w:World)(K:Frag)(mg:Str->Option Value)(base:Heap)(G:iK):Prop where
 power:Ok P w K mg base 1 "power" ["row","n"] (ow K)
 lowered:Ok P w K mg base 34 "lowered" ["vector","step","place"] (gI K)
theorem Fi (D:z9 K mg "parted" gB ["vectors","place"] G.cy) (T:Txt K mg G) (O:Fh P w K mg base G) (Y:base.NoSeer/\P.given.tree=none) (B:CodeHd base G.cy (eD K "parted")/\base.BuiltinsAt mg (eD K "parted")):Ok P w K mg base 35 "parted" ["vectors","place"] (pW K):=by
 have S:=Fg
 refine D.ok S (fun vs H Q E h=>?_) (fun f A outer s H vs Q E hr h=>?_)
 ·obtain ⟨_,_,_,_,_,_,_,_,rfl,_⟩:=h;rfl
 ·obtain ⟨l,p,n,M,A,k,xs,rs,rfl,hl,FY,KZ,FZ,hn,hp,wH,hA,Q2,hMk,hk,hT,kk⟩:=h
  have hu:=bo hr
  have aB:=T.aB
  have aj:=T.aj
  refine⟨_,(ag (dF (k:=2) (N:=["vector","place"]) (ix:=[none,some 1]) S.nd rfl (Or.inl rfl) rfl (aW K rfl (pv 0)) (fun _ _ _ _ _=>(au (i:=0) (show eT ["vector","place"] by decide +kernel) rfl (Or.inl rfl))) (fun _ _ _ _ _=>(ay we (aM (aD K rfl) (pv 0) (pv 1) (fun _ _=>rfl)) ae (aH _))) (fun _ _ _ _ _=>(pv 0)) rfl (by decide +kernel) (by decide +kernel) rfl ⟨⟨rfl,Or.inr (Or.inl rfl),rfl,rfl⟩,True.intro⟩) (ag (dF (k:=3) (N:=["vector","place"]) (ix:=[none,some 1]) S.nd rfl (Or.inl rfl) rfl (aW K rfl (pv 0)) (fun _ _ _ _ _=>(au (i:=0) (show eT ["vector","place"] by decide +kernel) rfl (Or.inl rfl))) (fun _ _ _ _ _=>(ay bM (aM (aD K rfl) (pv 0) (pv 1) (fun _ _=>rfl)) ae (aH _))) (fun _ _ _ _ _=>(pv 0)) rfl (by decide +kernel) (by decide +kernel) rfl ⟨⟨rfl,Or.inr (Or.inl rfl),rfl,rfl⟩,True.intro⟩) (ag (zh PassesOwn.never (ay gZ (ba (fF K rfl) rfl T.iL PySem.boot_len (aa (pv 2) af)) ae (aH _)) (ag (aw (i:=2) S.nd rfl (Or.inl rfl) (Ey (k:=0) (q:="parted.<locals>.<lambda>") (lp:=Lr) (y:="vector") (fns:=["place"]) (ixs:=[some 1]) K rfl rfl (hr.mono (by decide)) (pv 2) rfl B.1 B.2 (fun _ _ _ _ _=>rfl) (fun _ _ _ _=>(ba kI rfl T.DM boot_abs (aa (aM (aD K rfl) (pv 0) (pv 1) (fun _ _=>rfl)) af))) rfl rfl rfl rfl (by decide +kernel) rfl ⟨⟨rfl,Or.inr (Or.inl rfl),rfl,rfl⟩,True.intro⟩ rfl rfl T.Ie boot_sorted)) (ag (aw (i:=4) S.nd rfl (Or.inr rfl) (aM (aD K rfl) (pv 2) ae (fun _ _=>rfl))) (ag (dF (k:=5) (N:=["vector","least","place"]) (ix:=[none,some 4,some 1]) S.nd rfl (Or.inl rfl) rfl (aW K rfl (gp (jT K rfl) (pv 2) (iS ae) iR)) (fun _ _ _ _ _=>(au (i:=0) (show eT ["vector","least","place"] by decide +kernel) rfl (Or.inl rfl))) (fun _ _ _ _ _=>rfl) (fun _ _ _ _ _=>(az O.lowered (hr.mono (by decide)) (aa (pv 0) (aa (pv 1) (aa (pv 2) af))))) rfl (by decide +kernel) (by decide +kernel) rfl ⟨⟨rfl,Or.inr (Or.inl rfl),rfl,rfl⟩,⟨⟨rfl,Or.inr (Or.inl rfl),rfl,rfl⟩,True.intro⟩⟩) (ag (aw (i:=2) S.nd rfl (Or.inl rfl) (ah fC (bG (aa (pv 4) af)) (bg (N:=["vector","place"]) (ix:=[none,some 1]) rfl (aW K rfl (pv 5)) (fun _ _ _ _ _=>(au (i:=0) (show eT ["vector","place"] by decide +kernel) rfl (Or.inl rfl))) (fun _ _ _ _ _=>(ay we (aM (aD K rfl) (pv 0) (pv 1) (fun _ _=>rfl)) ae (aH _))) (fun _ _ _ _ _=>(pv 0)) rfl (by decide +kernel) (by decide +kernel) rfl ⟨⟨rfl,Or.inr (Or.inl rfl),rfl,rfl⟩,True.intro⟩))) (ao (aw (i:=3) S.nd rfl (Or.inl rfl) (ah fC (pv 3) (bg (N:=["vector","place"]) (ix:=[none,some 1]) rfl (aW K rfl (pv 5)) (fun _ _ _ _ _=>(au (i:=0) (show eT ["vector","place"] by decide +kernel) rfl (Or.inl rfl))) (fun _ _ _ _ _=>(ay bM (aM (aD K rfl) (pv 0) (pv 1) (fun _ _=>rfl)) ae (aH _))) (fun _ _ _ _ _=>(pv 0)) rfl (by decide +kernel) (by decide +kernel) rfl ⟨⟨rfl,Or.inr (Or.inl rfl),rfl,rfl⟩,True.intro⟩))))))))) (ao (aG (aQ (aa (bg (N:=["vector","place"]) (ix:=[none,some 1]) rfl (aW K rfl (pv 2)) (fun _ _ _ _ _=>(au (i:=0) (show eT ["vector","place"] by decide +kernel) rfl (Or.inl rfl))) (fun _ _ _ _ _=>rfl) (fun _ _ _ _ _=>(gm (ay zi (aM (aD K rfl) (pv 0) (pv 1) (fun _ _=>rfl)) ae (aH _)) (az O.power (hr.mono (by decide)) (aa (pv 0) (aa (fQ d6 ae) af))) (pv 0))) rfl (by decide +kernel) (by decide +kernel) rfl ⟨⟨rfl,Or.inr (Or.inl rfl),rfl,rfl⟩,True.intro⟩) (aa (pv 3) af)))))))),?_⟩
  walk_at "w"
  refine fK [some (.int p)] (fun v=>v.getD p 0 != 0) rfl hl FY (by lia) (fun a r H' Qt hr s ha kt=>?_) (fun a H' Qc s kc=>?_) (fun l1 H1 ys n1 s1 m1 r1=>?_)
  ·walk_at "v"
   refine eH ha (aS (int_at (by rw [FZ r hr];exact hp))) ?_
   walk_at "w"
   exact kt _ (ai.refl _)
  ·walk_at "w"
   exact kc
  walk_at "w"
  have YW:=FY.same s1
  refine fK [some (.int p)] (fun v=>v.getD p 0 == 0) rfl (s1.seq hl) YW (by lia) (fun a r H' Qt hr s ha kt=>?_) (fun a H' Qc s kc=>?_) (fun l2 H2 zs n2 s2 m2 r2=>?_)
  ·walk_at "v"
   refine eH ha (aS (int_at (by rw [FZ r hr];exact hp))) ?_
   walk_at "w"
   exact kt _ (ai.refl _)
  ·walk_at "w"
   exact kc
  walk_at "j"
  refine join (fun σ' H'=>∃ (o4 o5:Option V) (l1 l2:Addr) (ys zs:List V) (led os:List (List Int)),σ'=[some (.ref l),some (.int p),some (.ref l1),some (.ref l2),o4,o5]/\kN K H H'/\cE K H'/\H' l1=some (.lst ys)/\H' l2=some (.lst zs)/\aZ K H' ys led/\aZ K H' zs os/\PJ n p M A led os/\Eqv n rs (led++os)/\led.length+os.length<=rs.length/\led.length<=1/\∀ v∈led,at' p v<=A) (fun nx kn=>?_) (fun σ' H' hP=>?_)
  ·refine Dw (fun m σ' H'=>∃ (o4 o5:Option V) (l1 l2:Addr) (ys zs:List V) (led os:List (List Int)),σ'=[some (.ref l),some (.int p),some (.ref l1),some (.ref l2),o4,o5]/\kN K H H'/\cE K H'/\H' l1=some (.lst ys)/\H' l2=some (.lst zs)/\aZ K H' ys led/\aZ K H' zs os/\PJ n p M A led os/\Eqv n rs (led++os)/\led.length+os.length<=rs.length/\(∀ v∈led,at' p v<=A)/\m=fU.mz p led) (fU.mz p (rs.filter fun v=>v.getD p 0 != 0)) ?_ (fun m σ' H' hw=>?_)
   ·have Ke:=Pu (fun v:List Int=>v.getD p 0 == 0) rs
    refine⟨_,_,l1,l2,ys,zs,_,_,rfl,cq.of (s1.trans s2),hT.same (s1.trans s2),s2 _ _ m1,m2,r1.same s2,r2,⟨fun v hv=>?_,fun v hv=>?_,fun v hv=>?_,(fun v hv=>hA v (abb.mp hv).1),.inl fun v hv=>?_⟩,Eqv.mem fun x=>?_,le_of_eq Ke,fun v hv=>hA v (abb.mp hv).1,rfl⟩
    ·exact (aa3.mp hv).elim (fun z=>FZ v (abb.mp z).1) fun z=>FZ v (abb.mp z).1
    ·simpa using (abb.mp hv).2
    ·simpa using (abb.mp hv).2
    ·exact (aa3.mp hv).elim (fun z=>wH v (abb.mp z).1) fun z=>wH v (abb.mp z).1
    ·rw [aa3,abb,abb]
     constructor
     ·intro h
      by_cases e:x.getD p 0=0
      ·exact .inr ⟨h,by simpa using e⟩
      ·exact .inl ⟨h,by simpa using e⟩
     ·rintro (h|h) <;> exact h.1
   obtain ⟨o4,o5,l3,l4,UE,Qf,led,os,rfl,LY,F0,e3,e4,r3,r4,y9,hE,hlen,UG,rfl⟩:=hw
   walk_at "w"
   refine aU (fun hc=>?_) (fun hc=>?_)
   ·refine Tb ?_
    walk_at "w"
    have FJ:1<UE.length:=by have:=aaQ hc;lia
    have lys:=r3.length
    refine Hh (led.map fun v=>((at' p v:Nat):Int)) (F0.2 (eD K "parted",Lr,"parted.<locals>.<lambda>") (.head _)) (aR.of e3) (by rw [aa5,r3.length]) (by lia) (fun i x nn hx V7 H5 Wa=>?_) (fun pS H5 ysS Wa YX m5 so=>?_)
    ·have s5:kN K H' H5:=dv.s (t:=(eD K "parted",Lr,"parted.<locals>.<lambda>")) Wa (.head _)
     obtain ⟨a,r,rfl,ha,hi⟩:=r3.get hx
     have er:nn=((at' p r:Nat):Int):=by rw [abn,hi] at V7;exact (aaO V7).symm
     subst er
     have Wb:=s5.at F0 ha
     walk_at "v"
     refine eH Wb (aS (int_at (by rw [y9.1 r (aa1 _ (mem_of hi))];exact hp))) ?_
     walk_at "w"
     refine⟨?_,ai.refl _⟩
     unfold at'
     congr 1
     split <;> lia
    have s5:kN K H' H5:=dv.s (t:=(eD K "parted",Lr,"parted.<locals>.<lambda>")) Wa (.head _)
    have Wc:cE K H5:=dW.step (t:=(eD K "parted",Lr,"parted.<locals>.<lambda>")) F0 (.head _) Wa YX
    obtain ⟨qs,rq,pq,wq⟩:=zY (fun v=>((at' p v:Nat):Int)) r3 so (ai.refl _)
    have rq5:=rq.iJ s5 F0
    have lq:=pq.length_eq
    obtain ⟨sL,rest,rfl⟩:∃ sL rest,qs=sL::rest:=by
     cases qs with
     | nil=>simp at lq;lia
     | cons x y=>exact⟨x,y,rfl⟩
    have YY:rest≠[]:=fun z=>by rw [z] at lq;simp at lq;lia
    have hle:∀ v∈rest,at' p sL<=at' p v:=fun v hv=>by have:=(aby.mp wq).1 v hv;lia
    obtain ⟨tPI,tmz,tE⟩:=y9.turn Q2 pq YY hle
    have e4':=s5.lst F0 e4
    have r4':=r4.iJ s5 F0
    obtain ⟨aL,ysR,rfl,haL,hR⟩:=rq5.Pe
    have mq:∀ v,v∈sL::rest->v∈led:=fun v hv=>pq.mem_iff.mp hv
    have hB:=y9.bd Q2
    have YZ:sL.length=n:=y9.1 sL (aa1 _ (mq sL (.head _)))
    have LN:∀ v∈rest,v.length=n:=fun v hv=>y9.1 v (aa1 _ (mq v (aa8 _ hv)))
    have lrest:rest.length<=63:=by have:=lq;simp at this;lia
    walk_at "w"
    refine du (aR.of m5) (aS (j:=0) rfl) ?_
    walk_at "w"
    rename_i p6 H6 n6 s6 m6
    refine md [some (.ref aL),some (.int p)] (cj p sL) rfl (aR.of m6) (hR.same s6) (by lia) (fun a r H7 Qc hr s7 ha kc=>?_) (fun l7 H7 Wd n7 s7 m7 r7=>?_)
    ·walk_at "w"
     exact pZ r sL ha ((s6.trans s7).at haL) (LN r hr) YZ hn hp (y9.2.1 sL (mq sL (.head _))) (hB r (aa1 _ (mq r (aa8 _ hr)))) (hB sL (aa1 _ (mq sL (.head _)))) hMk hk fun p8 H8 s8 m8=>kc _ _ s8 (aN.of m8)
    have ll7:∀ r∈rest.map (cj p sL),r.length=n:=fun r hr=>by
     obtain ⟨u,hu,rfl⟩:=aba.mp hr
     exact gv (LN u hu) YZ
    walk_at "w"
    rename_i p8 H8 n8 s8 m8
    refine fK [some (.int p)] (fun v=>v.getD p 0 != 0) rfl (aR.of (s8 _ _ m7)) (r7.same s8) (by rw [aa5];lia) (fun a r H9 Qt hr s9 ha kt=>?_) (fun a H9 Qc s9 kc=>?_) (fun l9 H9 ys9 n9 s9 m9 r9=>?_)
    ·walk_at "v"
     refine eH ha (aS (int_at (by rw [ll7 r hr];exact hp))) ?_
     walk_at "w"
     exact kt _ (ai.refl _)
    ·walk_at "w"
     exact kc
    have cnt:=HH p sL rest
    have lq':rest.length+1=led.length:=by simpa using lq
    have l9':ys9.length=(dk p sL rest).length:=r9.length.symm
    walk_at "w"
    rename_i p10 QW n10 QV m10
    have Qg:=(s8.trans s9).trans QV
    refine fK [some (.int p)] (fun v=>v.getD p 0 == 0) rfl (aR.of (Qg _ _ m7)) (r7.same Qg) (by rw [aa5];lia) (fun a r H9 Qt hr s9 ha kt=>?_) (fun a H9 Qc s9 kc=>?_) (fun We H11 UH n11 Sj m11 r11=>?_)
    ·walk_at "v"
     refine eH ha (aS (int_at (by rw [ll7 r hr];exact hp))) ?_
     walk_at "w"
     exact kt _ (ai.refl _)
    ·walk_at "w"
     exact kc
    have l11':UH.length=(gb p sL rest).length:=r11.length.symm
    have lz:Qf.length=os.length:=r4.length.symm
    have UI:=((s6.trans s7).trans Qg).trans Sj
    walk_at "w"
    refine Dv (UI _ _ e4') m11 (by lia) fun p12 H12 n12 E8 m12=>?_
    have LZ:=UI.trans E8
    refine⟨_,tmz,_,_,p10,p12,.ref aL::ys9,Qf++UH,sL::dk p sL rest,os++gb p sL rest,rfl,LY.trans (s5.trans (cq.of LZ)),Wc.same LZ,E8 _ _ (Sj _ _ m10),m12,.cons (LZ.at haL) (r9.same ((QV.trans Sj).trans E8)),(r4'.same LZ).append (r11.same E8),tPI,hE.trans tE,by simp;lia,fun v hv=>?_,rfl⟩
    rcases aa9.mp hv with rfl|hv
    ·exact UG _ (mq _ (.head _))
    ·obtain ⟨u,hu,rfl⟩:=aba.mp (abb.mp hv).1
     exact aaL (aaN (nO (LN u hu) YZ (y9.2.1 sL (mq sL (.head _))))) (UG _ (mq _ (.head _)))
   ·exact kn _ _ ⟨o4,o5,l3,l4,UE,Qf,led,os,rfl,LY,F0,e3,e4,r3,r4,y9,hE,hlen,by have:=r3.length;have:=aaR hc;lia,UG⟩
  obtain ⟨o4,o5,l3,l4,UE,Qf,led,os,rfl,LY,F0,e3,e4,r3,r4,y9,hE,hlen,h1,UG⟩:=hP
  have hB:=y9.bd Q2
  walk_at "w"
  refine md [some (.int p)] (kY p) rfl (aR.of e3) r3 (by lia) (fun a r H7 Qc hr s7 ha kc=>?_) (fun l7 H7 Wd n7 s7 m7 r7=>?_)
  ·have lr:=y9.1 r (aa1 _ hr)
   walk_at "v"
   refine eH ha (aS (int_at (by rw [lr];exact hp))) ?_
   walk_at "w"
   refine aU (fun hc=>?_) (fun hc=>?_)
   ·walk_at "w"
    refine DO r ha (by lia) (fun x hx=>?_) fun p8 H8 s8 m8=>kc _ _ s8 ?_
    ·have b1:lH x<=k:=by
      rw [nS]
      exact zC (abd (B3 (hB r (aa1 _ hr)) hx) hMk)
     have b2:lH (-1)<=1:=by decide
     unfold qS
     lia
    ·unfold kY
     rw [if_pos (aaQ hc)]
     exact aN.of m8
   ·walk_at "w"
    refine kc _ _ (ai.refl _) ?_
    unfold kY
    rw [if_neg (aaR hc)]
    exact ha
  walk_at "w"
  rename_i p8 H8 s8 m8
  have Wf:=s7.trans s8
  have mp:∀ v∈led.map (kY p),∃ u∈led,kY p u=v:=fun v hv=>by obtain ⟨u,hu,e⟩:=aba.mp hv;exact⟨u,hu,e⟩
  refine kk p8 l7 l4 H8 Wd Qf (led.map (kY p)) os (LY.trans (cq.of Wf)) (F0.same Wf) (aN.of m8) (aR.of (s8 _ _ m7)) (r7.same s8) (aR.of (Wf _ _ e4)) (r4.same Wf) (by rw [aa5];exact h1) (fun v hv=>?_) y9.2.2.1 (fun v hv=>?_) (fun v hv=>?_) (hE.trans ?_) (by rw [aa5];exact hlen) (fun v hv=>by obtain ⟨u,hu,rfl⟩:=mp v hv;rw [Lp];exact UG u hu)
  ·obtain ⟨u,hu,rfl⟩:=mp v hv
   exact HD (y9.2.1 u hu)
  ·rcases aa3.mp hv with z|z
   ·obtain ⟨u,hu,rfl⟩:=mp v z
    exact HG (y9.1 u (aa1 _ hu))
   ·exact y9.1 v (aa0 _ z)
  ·rcases aa3.mp hv with z|z
   ·obtain ⟨u,hu,rfl⟩:=mp v z
    exact Lq (hB u (aa1 _ hu))
   ·exact hB v (aa0 _ z)
  ·match led,h1,y9 with
   | [],_,_=>exact Eqv.refl
   | [u],_,y9 =>
    show Eqv n (u::os) (kY p u::os)
    unfold kY
    split
    ·exact Eqv.flip (y9.1 u (.head _))
    ·exact Eqv.refl
theorem Cy:aF ["steps","vector","left","step"] ["steps","vector"] (aq pP):=⟨rfl,rfl,rfl,by decide +kernel,rfl,by decide +kernel,by decide +kernel⟩
structure Cz(P:Program)(w:World)(K:Frag)(mg:Str->Option Value)(base:Heap)(G:iK):Prop where
 CA:Ok P w K mg base 1 "lead_place" ["row"] (ip K)
 lowered:Ok P w K mg base 34 "lowered" ["vector","step","place"] (gI K)
theorem CB (D:Def K mg "left_by" pP ["steps","vector"]) (T:Txt K mg G) (O:Cz P w K mg base G) (Y:base.NoSeer/\P.given.tree=none):Ok P w K mg base 35 "left_by" ["steps","vector"] (mJ K):=by
 have S:=Cy
 refine D.ok S (fun vs H Q E h=>?_) (fun f c7 A outer s H vs Q E hr h=>?_)
 ·obtain ⟨_,_,_,_,_,_,_,_,rfl,_⟩:=h;rfl
 ·obtain ⟨l,a,n,B,C,xs,st,u,rfl,hl,FY,ha,lu,hn5,hn,FZ,h5,hsf,wH,hub,hBC,k⟩:=h
  have hu:=bo hr
  have aB:=T.aB
  have aj:=T.aj
  refine⟨_,(ag (aw (i:=2) S.nd rfl (Or.inl rfl) (pv 1)) (ag (dh PassesOwn.never rfl (aW K rfl (pv 0)) (au (i:=3) S.nd rfl (Or.inl rfl)) (ao (aw (i:=2) S.nd rfl (Or.inl rfl) (az O.lowered (hr.mono (by decide)) (aa (pv 2) (aa (pv 3) (aa (az O.CA (hr.mono (by decide)) (aa (gp (Hk K rfl) (pv 3) iR (iS (kF (v:=V.int 5) rfl T.DN ⟨_,rfl⟩))) af)) af))))))) (ao (aG (pv 2))))),?_⟩
  have lr:=FY.length
  walk_at "w"
  refine pF (xs:=xs) (fun i σ H2=>∃ (o:Option V) (p:Addr) (v:List Int),σ=[some (.ref l),some (.ref a),some (.ref p),o]/\ai H H2/\aN K H2 p (v.map V.int)/\LB n 5 st i u v/\dj (2 ^ (C+(B+1)*i)) v) ⟨_,a,u,rfl,ai.refl _,ha,LB.start lu,hub⟩ (fun i σ H2 hp=>by obtain ⟨o,p,v,rfl,s2,_⟩:=hp;exact s2.seq hl) (fun i x σ H2 hx hp=>?_) (fun σ H2 hp=>?_)
  ·obtain ⟨o,p,v,rfl,s2,mp,hv,JK⟩:=hp
   obtain ⟨c,s,rfl,hc,hi⟩:=FY.get hx
   have hi5:i<5:=by have:=(aaI.mp hi).1;lia
   have y8:=mem_of hi
   have ls:=FZ s y8
   obtain ⟨kk,hk⟩:=hsf.1 (s.take 5) (aba.mpr ⟨s,y8,rfl⟩)
   have hk5:=xv hk
   have h0:s.getD kk 0≠0:=by have:=hk.1;rw [iW _ hk5] at this;lia
   have Ke:=s2.at hc
   have hBi:(B+1)*i<=(B+1)*4:=mul_le_mul_left _ (by lia)
   have hB1:(B+1)*(i+1)=(B+1)*i+(B+1):=by rw [Nat.mul_add,Nat.mul_one]
   walk_at "w"
   refine TH Ke fun p3 H3 s3 m3=>?_
   rw [show (some (5:Int))=some ((5:Nat):Int) from rfl,DA,<- map_take] at m3
   walk_at "w"
   refine xY m3 (by rw [abl];lia) hk fun H4 s4=>?_
   walk_at "w"
   have Rp:=s3.trans s4
   refine pZ (M:=2 ^ (C+(B+1)*(i+1))) (k:=C+(B+1)*(i+1)+1) v s (Rp.at mp) (Rp.at Ke) hv.len ls (by lia) (by lia) h0 (JK.mono (abc (by decide) (by lia))) ((wH s y8).mono (abc (by decide) (by lia))) (Nat.pow_lt_pow_right (by decide) (lt_succ_self _)) (by lia) fun p5 H5 s5 m5=>?_
   walk_at "w"
   refine⟨_,p5,_,rfl,s2.trans (Rp.trans s5),aN.of m5,hv.step lu hi ls hsf hk,(xu hv.len ls h0 JK (wH s y8)).mono ?_⟩
   rw [hB1,show C+((B+1)*i+(B+1))=B+(C+(B+1)*i)+1 by lia,pow_succ (n:=2) (m:=B+(C+(B+1)*i)),pow_add 2 B]
   have h3:(2:Nat) ^ (C+(B+1)*i)<=2 ^ B*2 ^ (C+(B+1)*i):=Nat.le_mul_of_pos_left _ (abu _)
   lia
  ·obtain ⟨o,p,v,rfl,s2,mp,hv,JK⟩:=hp
   rw [<- lr] at hv
   walk_at "w"
   exact k _ _ v s2 mp hv (JK.mono (abc (by decide) (Nat.add_le_add_left (mul_le_mul_left _ (by lia)) _)))
theorem CC:aF ["vectors","size","steps","left","place","parts","lead"] ["vectors","size"] (aq pO):=⟨rfl,rfl,rfl,by decide +kernel,rfl,by decide +kernel,by decide +kernel⟩
structure CD(P:Program)(w:World)(K:Frag)(mg:Str->Option Value)(base:Heap)(G:iK):Prop where
 lowered:Ok P w K mg base 34 "lowered" ["vector","step","place"] (gI K)
 parted:Ok P w K mg base 35 "parted" ["vectors","place"] (pW K)
theorem CF (D:Def K mg "stepped" pO ["vectors","size"]) (T:Txt K mg G) (O:CD P w K mg base G) (Y:base.NoSeer/\P.given.tree=none):Ok P w K mg base 36 "stepped" ["vectors","size"] (mH K):=by
 have S:=CC
 refine D.ok S (fun vs H Q E h=>?_) (fun f c7 A outer s H vs Q E hr h=>?_)
 ·obtain ⟨_,_,_,_,_,_,rfl,_⟩:=h;rfl
 ·obtain ⟨l,w,n,b,xs,rs,rfl,hl,FY,KZ,FZ,hn,hw,wH,Tx,hT,kk⟩:=h
  have hu:=bo hr
  have aB:=T.aB
  have aj:=T.aj
  refine⟨_,(ag (aw (i:=2) S.nd rfl (Or.inl rfl) (bG af)) (ag (aw (i:=3) S.nd rfl (Or.inl rfl) (pv 0)) (ag (dh PassesOwn.never rfl (Ez rfl T.dJ (aa (ah bF (pv 1) ae) (aa (fQ d6 ae) (aa (fQ d6 ae) af)))) (au (i:=4) S.nd rfl (Or.inr rfl)) (ag (aw (i:=5) S.nd rfl (Or.inl rfl) (az O.parted (hr.mono (by decide)) (aa (pv 3) (aa (pv 4) af)))) (ag (aw (i:=3) S.nd rfl (Or.inl rfl) (aM (aD K rfl) (pv 5) ae (fun _ _=>rfl))) (ao (dh PassesOwn.never rfl (aW K rfl (aM (aD K rfl) (pv 5) ae (fun _ _=>rfl))) (au (i:=6) S.nd rfl (Or.inr rfl)) (ao (aw (i:=2) S.nd rfl (Or.inl rfl) (ah fC (bg (N:=["step","lead","place"]) (ix:=[none,some 6,some 4]) rfl (aW K rfl (pv 2)) (fun _ _ _ _ _=>(au (i:=0) (show eT ["step","lead","place"] by decide +kernel) rfl (Or.inl rfl))) (fun _ _ _ _ _=>rfl) (fun _ _ _ _ _=>(az O.lowered (hr.mono (by decide)) (aa (pv 0) (aa (pv 1) (aa (pv 2) af))))) rfl (by decide +kernel) (by decide +kernel) rfl ⟨⟨rfl,Or.inr (Or.inl rfl),rfl,rfl⟩,⟨⟨rfl,Or.inr (Or.inl rfl),rfl,rfl⟩,True.intro⟩⟩) (bG (aa (pv 6) af)))))))))) (ao (aG (pv 2)))))),?_⟩
  walk_at "w"
  rename_i ls0 H1 n1 s1 m1
  refine Hj (fun i σ H'=>∃ (o1 o2 o3:Option V) (ls ll:Addr) (ys zs:List V) (st lf:List (List Int)),σ=[some (.ref l),some (.int w),some (.ref ls),some (.ref ll),o1,o2,o3]/\H ls=none/\kN K H H'/\cE K H'/\H' ls=some (.lst ys)/\aZ K H' ys st/\aR K H' ll zs/\aZ K H' zs lf/\SJ n w b rs i st lf) ⟨_,_,_,ls0,l,[],xs,[],rs,rfl,n1,cq.of s1,hT.same s1,m1,.nil,s1.seq hl,FY.same s1,SJ.start FZ wH⟩ (fun i σ H' hi hp=>?_) (fun σ H' hp=>?_)
  ·obtain ⟨o1,o2,o3,ls,ll,ys,zs,st,lf,rfl,hG,sm,zy,e1,r1,e2,r2,hI⟩:=hp
   have hiw:i<w:=by lia
   obtain ⟨p,VO⟩:∃ p:Nat,(w:Int) - 1 - i=p:=⟨w - 1 - i,by lia⟩
   rw [VO]
   have M4:p+i+1=w:=by lia
   have hgi:=Tx i hiw
   have JB:gs b (i+1)=3*gs b i+3:=rfl
   have hg3:gs b (i+1)<=ss b (i+1):=by rw [ss];lia
   have c1:=hI.c1
   have c2:=hI.c2
   walk_at "w"
   refine Ik (M:=2 ^ gs b i) (A:=2 ^ gs b i) (k:=gs b (i+1)) (n:=n) (p:=p) ⟨e2,r2,by lia,hI.Vt,hn,by lia,hI.bl,(fun v hv=>hI.bl v hv p),abu _,kH b i,by lia,zy⟩ fun t l1 l2 H3 UE Qf led os LY F0 mt q1 qr1 q2 qr2 h1 zH h0 hlen Rq hE IP Sw=>?_
   have e13:=LY.lst zy e1
   have r13:=r1.iJ LY zy
   have lq:=qr1.length
   have lst:=r1.length
   walk_at "w"
   refine pF (xs:=UE) (fun j σ H4=>∃ (o3:Option V) (ls:Addr) (ys:List V),σ=[some (.ref l),some (.int w),some (.ref ls),some (.ref l2),some (.int p),some (.ref t),o3]/\H ls=none/\ai H3 H4/\H4 ls=some (.lst ys)/\aZ K H4 ys ((led.take j).foldl (fun st s=>st.map (cj p s)++[s]) st)) ⟨_,ls,ys,rfl,hG,ai.refl _,e13,r13⟩ (fun j σ H4 hp=>by obtain ⟨o3,ls,ys,rfl,_,s4,_⟩:=hp;exact s4.seq q1) (fun j x σ H4 hx hp=>?_) (fun σ H4 hp=>?_)
   ·obtain ⟨o4,V5,ys4,rfl,UJ,s4,e4,r4⟩:=hp
    have hj:j=0:=by have:=(aaI.mp hx).1;lia
    subst hj
    rw [take_zero,List.foldl_nil] at r4
    obtain ⟨a,sv,rfl,ha,Bb⟩:=qr1.get hx
    have y8:=mem_of Bb
    have l4:=r4.length
    walk_at "w"
    refine md [some (.ref a),some (.int p)] (cj p sv) rfl (aR.of e4) r4 (by lia) (fun a5 r5 H5 Qc Wb s5 ha5 kc=>?_) (fun l7 H7 Wd n7 s7 m7 r7=>?_)
    ·walk_at "w"
     exact pZ (M:=2 ^ ss b (i+1)) (k:=ss b (i+1)+1) r5 sv ha5 ((s4.trans s5).at ha) (hI.lst r5 Wb) (hlen sv (aa1 _ y8)) hn (by lia) (by have:=zH sv y8;lia) ((hI.bs r5 Wb).mono (abc (by decide) (by rw [ss];lia))) ((Rq sv (aa1 _ y8)).mono (aaL (aaN (kH b i)) (abc (by decide) (by rw [ss];lia)))) (Nat.pow_lt_pow_right (by decide) (lt_succ_self _)) (by lia) fun p8 H8 s8 m8=>kc _ _ s8 (aN.of m8)
    have l7':=r7.length
    rw [aa5] at l7'
    walk_at "w"
    rename_i p8 H8 n8 s8 m8 p9 H9 n9 s9 m9
    refine⟨_,p9,Wd++[.ref a],rfl,?_,((s4.trans s7).trans s8).trans s9,m9,?_⟩
    ·exact sm.new zy (LY.new F0 (((s4.trans s7).trans s8).new n9))
    ·rw [take_snoc Bb]
     exact (r7.same (s8.trans s9)).append (.cons ((((s4.trans s7).trans s8).trans s9).at ha) .nil)
   ·obtain ⟨o4,V5,ys4,rfl,UJ,s4,e4,r4⟩:=hp
    rw [<- lq,abk] at r4
    refine⟨_,_,_,V5,l2,ys4,Qf,_,os,rfl,UJ,sm.trans (LY.trans (cq.of s4)),F0.same s4,e4,r4,s4.seq q2,qr2.same s4,?_⟩
    match led,h1,hE,IP,Rq,hlen,zH,Sw with
    | [],_,hE,IP,Rq,hlen,_,_=>exact hI.none M4 hE h0 hlen Rq (by simpa using IP)
    | [s],_,hE,IP,Rq,hlen,zH,Sw=>exact hI.one M4 hw hE (zH s (.head _)) h0 hlen Rq (by simp at IP;lia) (Sw s (.head _))
  ·obtain ⟨o1,o2,o3,ls,ll,ys,zs,st,lf,rfl,hG,sm,zy,e1,r1,e2,r2,hI⟩:=hp
   rw [show ((w:Int) - 1 - -1).toNat=w by lia] at hI
   walk_at "w"
   exact kk ls H' ys st lf hG sm zy e1 r1 hI
theorem kh:aF ["self","row"] ["self","row"] (aq bL):=⟨rfl,rfl,rfl,by decide +kernel,rfl,by decide +kernel,by decide +kernel⟩
structure ki(P:Program)(w:World)(K:Frag)(mg:Str->Option Value)(base:Heap)(G:iK):Prop where
 L0:Ok P w K mg base 35 "left_by" ["steps","vector"] (mJ K)
theorem kj (D:kU K G.dm "sound" "CommaTuning.sound" bL ["self","row"]) (T:Txt K mg G) (O:ki P w K mg base G) (Y:base.NoSeer/\P.given.tree=none):xG P w K mg base 36 G.dm ["self","row"] (de K):=by
 have S:=kh
 refine D.ok S (fun vs H Q E h=>?_) (fun f c7 A outer s H vs Q E hr h=>?_)
 ·obtain ⟨_,_,_,_,_,rfl,_⟩:=h;rfl
 ·obtain ⟨x,l,a,st,r,rfl,⟨C,dx,ys,hC,hx,m1,r1⟩,⟨sf,hl,hb⟩,ha,lr,br,k⟩:=h
  have hu:=bo hr
  have aB:=T.aB
  have aj:=T.aj
  have cD:=T.cD
  have aY:=T.aY
  have aI:=T.aI
  have bp:=T.bp
  have aE:=T.aE
  have cL:=T.cL
  have aO:=T.aO
  have aX:=T.aX
  refine⟨_,(ao (aG (az O.L0 (hr.mono (by decide)) (aa (xH K rfl (pv 0) rfl) (aa (pv 1) af))))),?_⟩
  obtain rfl:G.bJ=C:=by have:=T.eJ;rw [hC] at this;cases this;rfl
  have h5:st.length<=5:=SF.count sf fun q hq j hj=>Ee (hl q hq) hj
  have et:st.map (List.take 5)=st:=by
   conv=>rhs;rw [<- List.map_id st]
   exact abq fun q hq=>abr (by rw [hl q hq];exact aaM _)
  walk_at "w"
  refine EZ (n:=5) (B:=500) (C:=20000) ⟨aR.of m1,r1,ha,lr,by decide,by decide,hl,h5,by rw [et];exact sf,hb,br,by decide⟩ fun p H' v s m Y0 _=>k p H' v s m ⟨Y0.len,Y0.made,fun q hq j hj=>?_⟩
  obtain ⟨i,hi,e⟩:=abB hq
  exact Y0.small i q j hi (by rw [aaZ hi,e]) (by rw [abr (by rw [hl q hq];exact aaM _)];exact hj)
theorem IQ:aF ["commas"] ["commas"] (aq xP):=⟨rfl,rfl,rfl,by decide +kernel,rfl,by decide +kernel,by decide +kernel⟩
structure IS(P:Program)(w:World)(K:Frag)(mg:Str->Option Value)(base:Heap)(G:iK):Prop where
 ux:Ok P w K mg base 1 "checked_commas" ["commas"] (fi K)
 L1:Ok P w K mg base 36 "stepped" ["vectors","size"] (mH K)
theorem IT (D:Def K mg "table" xP ["commas"]) (T:Txt K mg G) (O:IS P w K mg base G) (Y:base.NoSeer/\P.given.tree=none):Ok P w K mg base 37 "table" ["commas"] (ua K):=by
 have S:=IQ
 refine D.ok S (fun vs H Q E h=>?_) (fun f c7 A outer s H vs Q E hr h=>?_)
 ·obtain ⟨_,_,_,_,rfl,_⟩:=h;rfl
 ·obtain ⟨l,b,xs,rs,rfl,hl,FY,h6,FZ,wH,hb,hT,kk⟩:=h
  have hu:=bo hr
  have aB:=T.aB
  have aj:=T.aj
  refine⟨_,(ao (aG (az O.L1 (hr.mono (by decide)) (aa (az O.ux (hr.mono (by decide)) (aa (pv 0) af)) (aa (kF (v:=V.int 5) rfl T.DN ⟨_,rfl⟩) af))))),?_⟩
  have lr:=FY.length
  walk_at "w"
  refine pY hl (by lia) ?_
  walk_at "w"
  refine EY (w:=5) (n:=5) (b:=b) ⟨hl,FY,by lia,FZ,by decide,by decide,wH,fun i hi=>Nat.lt_trans (Pw hb hi).2 (by decide),hT⟩ fun l' H' ys st lf hn sm hT' e r hI=>?_
  have hc:=hI.c2
  exact kk l' H' ys st hn sm hT' e r hI.all.1 hI.all.2 hI.lst hc hI.bs (fun v hv k hk=>hI.lb v hv k (by rw [abr (le_of_eq (hI.lst v hv))];exact hk))
theorem k9:aF ["self","commas"] ["self","commas"] (aq bU):=⟨rfl,rfl,rfl,by decide +kernel,rfl,by decide +kernel,by decide +kernel⟩
structure lC(P:Program)(w:World)(K:Frag)(mg:Str->Option Value)(base:Heap)(G:iK):Prop where
 table:Ok P w K mg base 37 "table" ["commas"] (ua K)
theorem lD (D:kU K G.dI "__init__" "CommaTuning.__init__" bU ["self","commas"]) (T:Txt K mg G) (O:lC P w K mg base G) (Y:base.NoSeer/\P.given.tree=none):xG P w K mg base 38 G.dI ["self","commas"] (eE K):=by
 have S:=k9
 refine D.ok S (fun vs H Q E h=>?_) (fun f c7 A outer s H vs Q E hr h=>?_)
 ·obtain ⟨_,_,_,_,_,_,_,rfl,_⟩:=h;rfl
 ·obtain ⟨x,l,C,dx,b,xs,rs,rfl,hC,hx,hl,FY,h6,FZ,wH,hb,hT,k⟩:=h
  have hu:=bo hr
  have aB:=T.aB
  have aj:=T.aj
  have cD:=T.cD
  have aY:=T.aY
  have aI:=T.aI
  have bp:=T.bp
  have aE:=T.aE
  have cL:=T.cL
  have aO:=T.aO
  have aX:=T.aX
  refine⟨_,(ao (xI K rfl (pv 0) (az O.table (hr.mono (by decide)) (aa (pv 1) af)) rfl)),?_⟩
  obtain rfl:G.bJ=C:=by have:=T.eJ;rw [hC] at this;cases this;rfl
  walk_at "w"
  refine LG (b:=b) ⟨hl,FY,h6,FZ,wH,hb,hT⟩ fun l1 H1 ys st n1 uY zc m1 r1 sf eqv l5 h5 _ _=>?_
  have Cj:=oa uY hT hx
  walk_at "w"
  refine rZ Cj aY aI (by decide) ?_
  exact k l1 H1 ys st n1 uY zc m1 r1 sf eqv l5 Cj
theorem rK:aF ["note","change"] ["note","change"] (aq gy):=⟨rfl,rfl,rfl,by decide +kernel,rfl,by decide +kernel,by decide +kernel⟩
structure rL(P:Program)(w:World)(K:Frag)(mg:Str->Option Value)(base:Heap)(G:iK):Prop where
 DP:Ok P w K mg base 4 "tone_of" ["row"] (jh K)
 times:Ok P w K mg base 1 "times" ["one","other"] (ou K)
 AU:xG P w K mg base 4 G.fL ["self","row"] (fq K)
 oR:xG P w K mg base 36 G.dm ["self","row"] (de K)
 rM:xG P w K mg base 4 G.dY ["self","row"] (dM K)
 yA:xG P w K mg base 1 G.fh ["self","row"] (eR K)
theorem rN (D:Def K mg "note_changed" gy ["note","change"]) (T:Txt K mg G) (O:rL P w K mg base G) (Y:base.NoSeer/\P.given.tree=none):Ok P w K mg base 39 "note_changed" ["note","change"] (fV K):=by
 have S:=rK
 refine D.ok S (fun vs H Q E h=>?_) (fun f c7 A outer s H vs Q E hr h=>?_)
 ·obtain ⟨_,_,_,_,_,_,_,_,rfl,_⟩:=h;rfl
 ·obtain ⟨a,f,cS,b,l0,ob,n,ch,rfl,⟨a',t,l,ea,ha,ht,hl⟩,yB,vM,Nj,hf,kQ⟩:=h
  have hu:=bo hr
  have aB:=T.aB
  have aj:=T.aj
  have cD:=T.cD
  have aY:=T.aY
  have aI:=T.aI
  have bp:=T.bp
  have aE:=T.aE
  have cL:=T.cL
  have aO:=T.aO
  have aX:=T.aX
  refine⟨_,(ao (aG (aQ (aa (gm (ay Bk (aM (aD K rfl) (pv 0) ae (fun _ _=>rfl)) ib (aH _)) ib (r8 (Ae (k:=5) (i:=1) (p:="tone") (y:="span") (q:="moved.<locals>.<lambda>") (params:=EI HJ) (body:=EJ HJ) (scope:=Af HJ) (hr.mono (by decide)) rfl (Or.inl rfl) (aM (aD K rfl) (pv 0) ae (fun _ _=>rfl)) (fun _ _ z=>z.elim) (fun _ _ _ _ _=>rfl) rfl rfl rfl rfl (by decide +kernel) (pJ rfl) rfl (fun _ _ _ _ _=>(az O.DP (((hr.mono (show 4+1<=_ by decide)).deeper _).mono (by decide)) (aa (az O.times (((hr.mono (show 4+1<=_ by decide)).deeper _).mono (by decide)) (aa (pv 0) (aa (pv 1) af))) af)))) (Ae (k:=37) (i:=1) (p:="tone") (y:="tuning") (q:="sounds.<locals>.<lambda>") (params:=EI HN) (body:=EJ HN) (scope:=Af HN) (hr.mono (by decide)) rfl (Or.inl rfl) (aM (aD K rfl) (pv 0) ae (fun _ _=>rfl)) (fun _ _ z=>z.elim) (fun _ _ _ _ _=>rfl) rfl rfl rfl rfl (by decide +kernel) (pJ rfl) rfl (fun _ _ _ _ _=>(r8 (DD O.yA T.cD T.t7 (((hr.mono (show 36+1<=_ by decide)).deeper _).mono (by decide)) (pv 1) (aa (pv 0) af)) (r8 (DD O.oR T.aY T.k6 (((hr.mono (show 36+1<=_ by decide)).deeper _).mono (by decide)) (pv 1) (aa (pv 0) af)) (r8 (DD O.rM T.bp T.oq (((hr.mono (show 36+1<=_ by decide)).deeper _).mono (by decide)) (pv 1) (aa (pv 0) af)) (DD O.AU T.cL T.vn (((hr.mono (show 36+1<=_ by decide)).deeper _).mono (by decide)) (pv 1) (aa (pv 0) af))))))))) (aa (aM (aD K rfl) (pv 0) ae (fun _ _=>rfl)) af))))),?_⟩
  obtain rfl:a=a':=by cases ea;rfl
  obtain ⟨n1,nt,nb⟩:=n
  walk_at "w"
  cases n1 with
  | none =>
   obtain rfl:t=.dz:=ht
   refine⟨rfl,?_⟩
   walk_at "w"
   refine d9 rfl ?_
   walk_at "w"
   rename_i p1 H1 s1 m1
   exact kQ p1 H1 s1 ⟨p1,.dz,l,rfl,aN.of m1,by cases ch <;> rfl,s1.at hl⟩
  | some t0 =>
   obtain ⟨r,rfl,lr,br⟩:=yB t0 rfl
   obtain ⟨ar,rfl,V8,_⟩:=ht
   refine⟨rfl,?_⟩
   walk_at "w"
   refine bH rfl ?_
   cases ch with
   | mv sq =>
    have hL:jG H f cS (.ref b) ob "moved.<locals>.<lambda>" "span" (EI HJ) (EJ HJ) (Af HJ):=vM
    obtain ⟨hb,lq⟩:=Nj
    obtain ⟨b0,b1,b2,b3,b4,rfl⟩:=cJ lq
    obtain ⟨r0,r1,r2,r3,r4,rfl⟩:=cJ lr
    obtain ⟨c',cl,l1,l2,l3,l4,EH⟩:=id hL
    refine .inl ⟨f,rfl,⟨_,_,_,_,_,_,l1⟩,?_⟩
    walk_at "w"
    refine⟨cS,.ref b,ob,hL,?_⟩
    have har':aN K (L2.del H cS) ar [.int r0,.int r1,.int r2,.int r3,.int r4]:=fe V8 EH
    have VQ:aN K (L2.del H cS) b [.int b0,.int b1,.int b2,.int b3,.int b4]:=fe hb EH
    walk_at "w"
    rename_i p2 H2 s2 m2
    refine EW (aN.of m2) hf fun H3 s3=>?_
    ·intro FV
     have sH:=ai.del EH (s2.trans s3)
     have m3:aN K (upd H3 cS (dB cS (.ref b) ob)) p2 [.int (r0+b0),.int (r1+b1),.int (r2+b2),.int (r3+b3),.int (r4+b4)]:=by
      have e3:=s3 _ _ m2
      exact aN.of (by rw [ax (fun z=>by rw [z,FV] at e3;cases e3)];exact e3)
     have Ro:=sH.at ha
     have OW:=sH.at hl
     generalize upd H3 cS (dB cS (.ref b) ob)=H4 at sH m3 Ro OW ⊢
     walk_at "w"
     rename_i p5 H5 s5 m5
     exact kQ p5 H5 (sH.trans s5) ⟨p5,.ref p2,l,rfl,aN.of m5,⟨p2,rfl,s5.at m3,by show 5<=100;decide⟩,s5.at OW⟩
   | sd u =>
    have hL:jG H f cS (.ref b) ob "sounds.<locals>.<lambda>" "tuning" (EI HN) (EJ HN) (Af HN):=vM
    obtain ⟨Qh,bc⟩:=Nj
    obtain ⟨c',cl,l1,l2,l3,l4,EH⟩:=id hL
    refine .inr ⟨f,rfl,⟨_,_,_,_,_,_,l1⟩,?_⟩
    walk_at "w"
    refine⟨cS,.ref b,ob,hL,?_⟩
    refine PR T.Ar T.eJ T.fT T.jg (fun _ h=>MM rfl h) (fun R h=>?_) (Qh.del EH) ⟨bc,fe V8 EH,lr,br⟩ fun v H2 s2 hv=>?_
    ·walk_at "w"
     exact h
    intro hn
    have sH:=ai.del EH s2
    have hv3:=hv.same (ai.bC (o:=dB cS (.ref b) ob) hn)
    have Ro:=sH.at ha
    have OW:=sH.at hl
    generalize upd H2 cS (dB cS (.ref b) ob)=H4 at sH hv3 Ro OW ⊢
    walk_at "w"
    rename_i p5 H5 s5 m5
    exact kQ p5 H5 (sH.trans s5) ⟨p5,v,l,rfl,aN.of m5,hv3.same s5,s5.at OW⟩
theorem uy:aF ["bar","change"] ["bar","change"] (aq ig):=⟨rfl,rfl,rfl,by decide +kernel,rfl,by decide +kernel,by decide +kernel⟩
structure uz(P:Program)(w:World)(K:Frag)(mg:Str->Option Value)(base:Heap)(G:iK):Prop where
 yC:Ok P w K mg base 39 "note_changed" ["note","change"] (fV K)
theorem uA (D:Def K mg "bar_changed" ig ["bar","change"]) (T:Txt K mg G) (O:uz P w K mg base G) (Y:base.NoSeer/\P.given.tree=none):Ok P w K mg base 40 "bar_changed" ["bar","change"] (gG K):=by
 have S:=uy
 refine D.ok S (fun vs H Q E h=>?_) (fun f c7 A outer s H vs Q E hr h=>?_)
 ·obtain ⟨_,_,_,_,_,_,_,_,_,rfl,_⟩:=h;rfl
 ·obtain ⟨a,f,cS,b,ob,xs,ns,ch,l0,rfl,ha,hn,IU,yB,vM,hb,kQ⟩:=h
  have hu:=bo hr
  have aB:=T.aB
  have aj:=T.aj
  refine⟨_,(ao (aG (bg (N:=["note","change"]) (ix:=[none,some 1]) rfl (aW K rfl (pv 0)) (fun _ _ _ _ _=>(au (i:=0) (show eT ["note","change"] by decide +kernel) rfl (Or.inl rfl))) (fun _ _ _ _ _=>rfl) (fun _ _ _ _ _=>(az O.yC (hr.mono (by decide)) (aa (pv 0) (aa (pv 1) af)))) rfl (by decide +kernel) (by decide +kernel) rfl ⟨⟨rfl,Or.inr (Or.inl rfl),rfl,rfl⟩,True.intro⟩))),?_⟩
  have lx:=hn.length
  walk_at "w"
  refine cC 1 [some (.ref f)] ns.length (fun l i ys H'=>bE K H' ys ((ns.take i).map (gd ch))) rfl (fun l H' _ _ _=>.nil) (fun l i ys H' h=>by have:=h.length;rw [aa5,abl] at this;lia) (fun H' s=>⟨xs,s.seq ha,by lia⟩) (fun i H' hi s=>⟨xs,xs[i]'(by lia),s.seq ha,aaZ (by lia)⟩) (fun l i x H' H2 own ys ho hi rY s9 dE hp hy Qy Qn ky kn=>?_) (fun l H' ys rY s9 dE hp=>?_)
  ·obtain ⟨o1,rfl⟩:∃ o1,own=[o1]:=by match own,ho with|[o1],_=>exact⟨o1,rfl⟩
   obtain ⟨rfl,e⟩:=hy
   obtain ⟨n,hG,BW⟩:=(hn.same s9).get (e xs (s9.seq ha))
   have FX:n∈ns:=aa4 BW
   have et:ns.take (i+1)=ns.take i++[n]:=by rw [take_add_one,BW];rfl
   obtain ⟨a1,t1,l1,rfl,rJ⟩:=id hG
   walk_at "w"
   refine jI ?_
   walk_at "w"
   refine ud ⟨hG,(yB n FX).1,vM.same s9,hb.same s9,(yB n FX).2⟩ fun p H9 uX hm=>?_
   refine ky [some (.ref a1)] _ H9 rfl uX ?_
   rw [et,abo]
   exact ((hp.same uX).off (uX _ _ dE)).snoc (hm.off (uX _ _ dE))
  ·rw [abk] at hp
   exact kQ l H' ys rY s9 dE hp
theorem vN:aF ["_law_kind","_law_told_here","_law_cell"] ["_law_kind","_law_told_here","_law_cell"] (aq jc):=⟨rfl,rfl,rfl,by decide +kernel,rfl,by decide +kernel,by decide +kernel⟩
structure vO(P:Program)(w:World)(K:Frag)(mg:Str->Option Value)(base:Heap)(G:iK):Prop where
 CG:Ok P w K mg base 2 "_law_commas" ["_law_steps_here","_law_cell"] (ir K)
 CH:xG P w K mg base 3 G.gh ["self","row"] (iy K)
 qe:xG P w K mg base 38 G.dI ["self","commas"] (eE K)
 gM:xG P w K mg base 2 G.cT ["self","keys"] (dZ K)
theorem vP (D:Def K mg "_law_tuning" jc ["_law_kind","_law_told_here","_law_cell"]) (T:Txt K mg G) (O:vO P w K mg base G) (Y:base.NoSeer/\P.given.tree=none):Ok P w K mg base 40 "_law_tuning" ["_law_kind","_law_told_here","_law_cell"] (iu K):=by
 have S:=vN
 refine D.ok S (fun vs H Q E h=>?_) (fun f c7 A outer s H vs Q E hr h=>?_)
 ·obtain ⟨_,_,_,rfl,_⟩:=h;rfl
 ·obtain ⟨b,d,c,rfl,k8,bc,hT,k⟩:=h
  have hu:=bo hr
  have aB:=T.aB
  have aj:=T.aj
  have cD:=T.cD
  have aY:=T.aY
  have aI:=T.aI
  have bp:=T.bp
  have aE:=T.aE
  have cL:=T.cL
  have aO:=T.aO
  have aX:=T.aX
  refine⟨_,(ag (bB (ay bM (pv 0) ae (aH _)) (ao (aG (Pm T.EV rfl T.Ih))) aK) (ag (bB (ay bM (pv 0) ae (aH _)) (ao (aG (Hl O.qe T.vm (hr.mono (by decide)) rfl T.vj (aa (az O.CG (hr.mono (by decide)) (aa (pv 1) (aa (pv 2) af))) af)))) aK) (ag (bB (ay bM (pv 0) ae (aH _)) (ao (aG (Hl O.gM T.As (hr.mono (by decide)) rfl T.qT (aa (bu (nQ K rfl) rfl T.pR PyProof.Rows.boot_list (aa (pv 1) af)) af)))) aK) (ao (aG (Hl O.CH T.LC (hr.mono (by decide)) rfl T.LA (aa (pv 1) af))))))),?_⟩
  cases d with
  | plain w =>
   walk_at "w"
   refine d9 rfl ?_
   walk_at "w"
   intro x dx JM L3 Y1
   have sx:=kO (C:=G.gF) JM L3
   exact k x x .plain _ (cq.of sx) (hT.same sx) ⟨_,_,T.Ar,av⟩ trivial (fun r y _ h=>h)
  | steps rs =>
   obtain ⟨ys,e1,e2,e3⟩:=k8
   walk_at "w"
   refine bH rfl ?_
   walk_at "w"
   refine d9 rfl ?_
   walk_at "w"
   refine x5 ⟨e1,e2,bc⟩ fun lc H0 zs cs n0 s0 hh hC hE qd wH h4=>?_
   have hT0:cE K H0:=hT.same s0
   intro x dx JM L3 Y1
   have sx:=kO (C:=G.bJ) JM L3
   have hb5:∀ v∈cs,dj (2 ^ 5) v:=fun v hv=>DJ (b:=24) (wH v hv) (by decide)
   refine mN (b:=5) ⟨T.eJ,av,aR.of (sx _ _ hh),hC.same sx,by lia,qd,hb5,by decide,hT0.same sx⟩ fun y1 H1 ysy st ny1 uY zc Y2 ry1 sf eqv Y3 Cj=>⟨rfl,?_⟩
   have lO:=sf.MI Y3 qd eqv hb5
   have MR:kN K H0 (upd H1 x (.ins G.bJ dx [("steps",.ref y1)])):=Py JM L3 uY
   have zy:cE K (upd H1 x (.ins G.bJ dx [("steps",.ref y1)])):=zc.ins Cj
   have Y4:y1≠x:=fun z=>by rw [z,Cj] at Y2;cases Y2
   refine k x y1 (.comma st) _ ((cq.of s0).trans MR) zy ⟨_,_,ysy,T.eJ,av,by rw [ax Y4];exact Y2,Ah ry1 Cj⟩ ⟨sf,Y3,fun v hv=>(lO v hv).mono (abc (by decide) (by decide))⟩ (fun r y hr h=>?_)
   obtain ⟨v,rfl,JJ⟩:=h
   exact⟨v,rfl,PB bc sf Y3 (hE.trans eqv) JJ⟩
  | keys ks =>
   obtain ⟨ys,e1,hK0⟩:=k8
   walk_at "w"
   refine bH rfl ?_
   walk_at "w"
   refine bH rfl ?_
   walk_at "w"
   refine d9 rfl ?_
   walk_at "w"
   rename_i lh H0 n0 s0 hh
   have hK:=hK0.same s0
   intro x dx JM L3 Y1
   have sx:=kO (C:=G.bV) JM L3
   refine iN ⟨.inl T.fT,av,aR.of (sx _ _ hh),hK.same sx,bc.1,fun q hq=>(bc.2 q hq).2.2.1⟩ fun y2 H1 ny2 s1 Y5=>⟨rfl,?_⟩
   have Cj:=s1 _ _ (av (H:=upd H0 dx (.own x)) (a:=x) (o:=.ins G.bV dx []))
   have s2:ai H0 (upd H1 x (.ins G.bV dx [("own_keys",.ref y2)])):=fun b o e=>by
    rw [ax (fun z=>by rw [z,JM] at e;cases e)]
    exact s1 _ _ (sx _ _ e)
   have Y4:y2≠x:=fun z=>by rw [z,Cj] at Y5;cases Y5
   exact k x y2 (.key ks) _ (cq.of (s0.trans s2)) (hT.same (s0.trans s2)) ⟨_,_,_,T.fT,av,by rw [ax Y4];exact Y5,og (hK.same (sx.trans s1)) Cj⟩ ⟨bc.1,fun q hq=>(bc.2 q hq).2.2.1,fun q hq=>⟨(bc.2 q hq).1,DJ (b:=10) (bc.2 q hq).2.1 (by decide),by have:=(bc.2 q hq).2.2;lia⟩⟩ (fun r y _ h=>h)
  | cG w =>
   have k8:aN K H b (w.map V.int):=k8
   walk_at "w"
   refine bH rfl ?_
   walk_at "w"
   refine bH rfl ?_
   walk_at "w"
   refine bH rfl ?_
   walk_at "w"
   intro x dx JM L3 Y1
   have sx:=kO (C:=G.dH) JM L3
   refine x8 (w:=w) ⟨T.jg,av,sx.at k8,bc.1,bc.2.1⟩ fun l1 H1 ys1 nl1 s1 m1 k1 Cj=>⟨rfl,?_⟩
   have t1:=HP (a:=[("own_keys",.ref l1)]) T.jg Cj m1 k1
   have sb:=B4 (o:=.ins G.dH dx [("own_keys",.ref l1)]) (o':=.ins G.dH dx [("own_keys",.ref l1),("octave",.int (w.getD 0 0))]) JM L3 s1
   refine k x l1 (.cG w) _ (cq.of sb) (hT.same sb) t1 ⟨bc.1,DJ (b:=30) bc.2.2 (by decide)⟩ (fun r y _ h=>?_)
   have e:val w 0 r=dt r w:=by unfold val;rw [if_pos rfl];rfl
   show y=.num (dt r w)
   rw [<- e]
   exact h
theorem CI:aF ["tune","change"] ["tune","change"] (aq pM):=⟨rfl,rfl,rfl,by decide +kernel,rfl,by decide +kernel,by decide +kernel⟩
structure CJ(P:Program)(w:World)(K:Frag)(mg:Str->Option Value)(base:Heap)(G:iK):Prop where
 AV:Ok P w K mg base 40 "bar_changed" ["bar","change"] (gG K)
theorem CK (D:Def K mg "changed" pM ["tune","change"]) (T:Txt K mg G) (O:CJ P w K mg base G) (Y:base.NoSeer/\P.given.tree=none):Ok P w K mg base 41 "changed" ["tune","change"] (ji K):=by
 have S:=CI
 refine D.ok S (fun vs H Q E h=>?_) (fun f c7 A outer s H vs Q E hr h=>?_)
 ·obtain ⟨_,_,_,_,_,_,_,_,_,_,_,_,rfl,_⟩:=h;rfl
 ·obtain ⟨a,m,l,f,cS,b,mt,ob,xs,bs,ch,l0,rfl,⟨ha,hm,hl,hbs⟩,IU,Nk,vM,hb,kQ⟩:=h
  have hu:=bo hr
  have aB:=T.aB
  have aj:=T.aj
  refine⟨_,(ao (aG (aQ (aa (aM (aD K rfl) (pv 0) ae (fun _ _=>rfl)) (aa (bg (N:=["bar","change"]) (ix:=[none,some 1]) rfl (aW K rfl (aM (aD K rfl) (pv 0) ae (fun _ _=>rfl))) (fun _ _ _ _ _=>(au (i:=0) (show eT ["bar","change"] by decide +kernel) rfl (Or.inl rfl))) (fun _ _ _ _ _=>rfl) (fun _ _ _ _ _=>(az O.AV (hr.mono (by decide)) (aa (pv 0) (aa (pv 1) af)))) rfl (by decide +kernel) (by decide +kernel) rfl ⟨⟨rfl,Or.inr (Or.inl rfl),rfl,rfl⟩,True.intro⟩) af))))),?_⟩
  have lx:=hbs.length
  walk_at "w"
  refine cC 1 [some (.ref f)] bs.length (fun l i ys H'=>cP K H' ys ((bs.take i).map fun ns=>ns.map (gd ch))/\(V.ref l∉ys)/\∀ x∈ys,∃ b,x=V.ref b/\H b=none) rfl (fun l H' _ _ _=>⟨.nil,(fun z=>nomatch z),fun _ z=>nomatch z⟩) (fun l i ys H' h=>by have:=h.1.length;rw [aa5,abl] at this;lia) (fun H' s=>⟨xs,s.seq (aR.of hl),by lia⟩) (fun i H' hi s=>⟨xs,xs[i]'(by lia),s.seq (aR.of hl),aaZ (by lia)⟩) (fun l2 i x H' H2 own ys ho hi rY s9 dE hp hy Qy Qn ky kn=>?_) (fun l2 H' ys rY s9 dE hp=>?_)
  ·obtain ⟨o1,rfl⟩:∃ o1,own=[o1]:=by match own,ho with|[o1],_=>exact⟨o1,rfl⟩
   obtain ⟨rfl,e⟩:=hy
   obtain ⟨a1,zs,ns,rfl,hz,xD,BW⟩:=(hbs.same s9).get (e xs (s9.seq (aR.of hl)))
   have FX:ns∈bs:=aa4 BW
   have et:bs.take (i+1)=bs.take i++[ns]:=by rw [take_add_one,BW];rfl
   walk_at "w"
   refine jI ?_
   walk_at "w"
   refine vo ⟨aR.of hz,xD,(Nk ns FX).1,(Nk ns FX).2,vM.same s9,hb.same s9⟩ fun l3 H9 zs9 n9 uX m9 hm9=>?_
   ·have LO:=uX _ _ dE
    have ne:l3≠l2:=fun z=>by rw [z,dE] at n9;cases n9
    refine ky [some (.ref a1)] _ H9 rfl uX ⟨?_,fun z=>?_,fun x hx=>?_⟩
    ·rw [et,abo]
     exact ((hp.1.same uX).off LO hp.2.1).snoc (by rw [ax ne];exact m9) (hm9.off LO)
    ·rcases aa3.mp z with z|z
     ·exact hp.2.1 z
     ·have:=aa2.mp z
      cases this
      exact ne rfl
    ·rcases aa3.mp hx with z|z
     ·exact hp.2.2 x z
     ·exact⟨l3,aa2.mp z,s9.new n9⟩
  ·rw [abk] at hp
   have ha9:=s9.at ha
   walk_at "w"
   rename_i p5 H5 s5 m5
   exact kQ p5 l2 H5 ys rY (s9.trans s5) hp.2.2 ⟨aN.of m5,(s9.trans s5).at hm,s5 _ _ dE,hp.1.same s5⟩
theorem IV:aF ["tune","span"] ["tune","span"] (aq i4):=⟨rfl,rfl,rfl,by decide +kernel,rfl,by decide +kernel,by decide +kernel⟩
structure IW(P:Program)(w:World)(K:Frag)(mg:Str->Option Value)(base:Heap)(G:iK):Prop where
 DP:Ok P w K mg base 4 "tone_of" ["row"] (jh K)
 times:Ok P w K mg base 1 "times" ["one","other"] (ou K)
 changed:Ok P w K mg base 41 "changed" ["tune","change"] (ji K)
theorem IX (D:z9 K mg "moved" i4 ["tune","span"] G.cQ) (T:Txt K mg G) (O:IW P w K mg base G) (Y:base.NoSeer/\P.given.tree=none) (B:CodeHd base G.cQ (eD K "moved")/\base.BuiltinsAt mg (eD K "moved")):Ok P w K mg base 42 "moved" ["tune","span"] (t9 K):=by
 have S:=IV
 refine D.ok S (fun vs H Q E h=>?_) (fun f A outer s H vs Q E hr h=>?_)
 ·obtain ⟨_,_,_,_,_,_,_,_,_,rfl,_⟩:=h;rfl
 ·obtain ⟨a,m,l,x,l0,mt,xs,bs,sq,rfl,BG,IU,yB,Nj,hT,kQ⟩:=h
  have hu:=bo hr
  have aB:=T.aB
  have aj:=T.aj
  refine⟨_,(ao (aG (Hv (y:="span") (j:=1) O.changed (hr.mono (by decide)) (aa (pv 0) (aa (DG (q:="moved.<locals>.<lambda>") (lp:=M5) rfl rfl B.1 B.2 rfl rfl) af)) rfl (Or.inr (Or.inl rfl)) rfl rfl))),?_⟩
  obtain ⟨IH,AH,E9,FU⟩:=BG
  walk_at "w"
  refine⟨.ref a,rfl,hT.2 (eD K "moved",M5,"moved.<locals>.<lambda>") (.tail _ (.head _)),fun f1 c1 H1 Qi UK Tq Lj=>?_⟩
  have zc:cE K H1:=dW.step (t:=(eD K "moved",M5,"moved.<locals>.<lambda>")) hT (.tail _ (.head _)) Qi UK
  have uY:kN K H H1:=dv.s (t:=(eD K "moved",M5,"moved.<locals>.<lambda>")) Qi (.tail _ (.head _))
  clear Qi UK
  refine⟨.ref x,rfl,fun c ob tj hn=>?_⟩
  have tu:bh K H1 a m l mt xs bs:=⟨uY.at hT IH,uY.at hT AH,uY.lst hT E9,FU.keep hT uY⟩
  have sc:ai H1 (upd H1 c (dB c (.ref x) ob)):=ai.bC hn
  have IY:=Aj (y:="span") (names:=(Af HJ).names) rfl (by decide) tj
  have vM:tR (.mv sq) (upd H1 c (dB c (.ref x) ob)) f1 c x ob:=⟨c1,_,sc _ _ Tq,sc _ _ Lj,IY.1,IY.2,av⟩
  have Qj:mD K H1 x l0 (.mv sq):=⟨uY.at hT Nj.1,Nj.2⟩
  refine wY ⟨tu.same sc,IU,yB,vM,Qj.same sc⟩ fun t2 l2 H2 ys n2 s2 f2 h2=>?_
  ·refine⟨s2 _ _ av,kQ t2 l2 _ ys (uY.new zc (sc.new n2)) (uY.trans (cq.of (ai.EF hn s2))) (zc.same (ai.EF hn s2)) (fun y hy=>?_) (h2.del (s2 _ _ av))⟩
   obtain ⟨b3,rfl,n3⟩:=f2 y hy
   exact⟨b3,rfl,uY.new zc (sc.new n3)⟩
theorem Fj:aF ["tuning","tune"] ["tuning","tune"] (aq gz):=⟨rfl,rfl,rfl,by decide +kernel,rfl,by decide +kernel,by decide +kernel⟩
structure Fl(P:Program)(w:World)(K:Frag)(mg:Str->Option Value)(base:Heap)(G:iK):Prop where
 changed:Ok P w K mg base 41 "changed" ["tune","change"] (ji K)
theorem Fm (D:z9 K mg "sounds" gz ["tuning","tune"] G.cz) (T:Txt K mg G) (O:Fl P w K mg base G) (Y:base.NoSeer/\P.given.tree=none) (B:CodeHd base G.cz (eD K "sounds")/\base.BuiltinsAt mg (eD K "sounds")):Ok P w K mg base 42 "sounds" ["tuning","tune"] (pV K):=by
 have S:=Fj
 refine D.ok S (fun vs H Q E h=>?_) (fun f A outer s H vs Q E hr h=>?_)
 ·obtain ⟨_,_,_,_,_,_,_,_,_,rfl,_⟩:=h;rfl
 ·obtain ⟨a,m,l,x,l0,mt,xs,bs,u,rfl,BG,IU,yB,Nj,hT,kQ⟩:=h
  have hu:=bo hr
  have aB:=T.aB
  have aj:=T.aj
  refine⟨_,(ao (aG (Hv (y:="tuning") (j:=0) O.changed (hr.mono (by decide)) (aa (pv 1) (aa (DG (q:="sounds.<locals>.<lambda>") (lp:=M6) rfl rfl B.1 B.2 rfl rfl) af)) rfl (Or.inr (Or.inl rfl)) rfl rfl))),?_⟩
  obtain ⟨IH,AH,E9,FU⟩:=BG
  walk_at "w"
  refine⟨.ref a,rfl,hT.2 (eD K "sounds",M6,"sounds.<locals>.<lambda>") (.tail _ (.tail _ (.head _))),fun f1 c1 H1 Qi UK Tq Lj=>?_⟩
  have zc:cE K H1:=dW.step (t:=(eD K "sounds",M6,"sounds.<locals>.<lambda>")) hT (.tail _ (.tail _ (.head _))) Qi UK
  have uY:kN K H H1:=dv.s (t:=(eD K "sounds",M6,"sounds.<locals>.<lambda>")) Qi (.tail _ (.tail _ (.head _)))
  clear Qi UK
  refine⟨.ref x,rfl,fun c ob tj hn=>?_⟩
  have tu:bh K H1 a m l mt xs bs:=⟨uY.at hT IH,uY.at hT AH,uY.lst hT E9,FU.keep hT uY⟩
  have sc:ai H1 (upd H1 c (dB c (.ref x) ob)):=ai.bC hn
  have IY:=Aj (y:="tuning") (names:=(Af HN).names) rfl (by decide) tj
  have vM:tR (.sd u) (upd H1 c (dB c (.ref x) ob)) f1 c x ob:=⟨c1,_,sc _ _ Tq,sc _ _ Lj,IY.1,IY.2,av⟩
  have Qj:mD K H1 x l0 (.sd u):=⟨Nj.1.keep hT uY,Nj.2⟩
  refine wY ⟨tu.same sc,IU,fun ns hn=>⟨(yB ns hn).1,fun n hm=>⟨(yB ns hn).2 n hm,by cases n.1 <;> rfl⟩⟩,vM,Qj.same sc⟩ fun t2 l2 H2 ys n2 s2 f2 h2=>?_
  ·refine⟨s2 _ _ av,kQ t2 l2 _ ys (uY.new zc (sc.new n2)) (uY.trans (cq.of (ai.EF hn s2))) (zc.same (ai.EF hn s2)) (fun y hy=>?_) (h2.del (s2 _ _ av))⟩
   obtain ⟨b3,rfl,n3⟩:=f2 y hy
   exact⟨b3,rfl,uY.new zc (sc.new n3)⟩
theorem uB:aF ["tuning","one","other"] ["tuning","one","other"] (aq ij):=⟨rfl,rfl,rfl,by decide +kernel,rfl,by decide +kernel,by decide +kernel⟩
structure uC(P:Program)(w:World)(K:Frag)(mg:Str->Option Value)(base:Heap)(G:iK):Prop where
 IZ:Ok P w K mg base 42 "sounds" ["tuning","tune"] (pV K)
theorem uD (D:Def K mg "heard_alike" ij ["tuning","one","other"]) (T:Txt K mg G) (O:uC P w K mg base G) (Y:base.NoSeer/\P.given.tree=none):Ok P w K mg base 43 "heard_alike" ["tuning","one","other"] (gH K):=by
 have S:=uB
 refine D.ok S (fun vs H Q E h=>?_) (fun f c7 A outer s H vs Q E hr h=>?_)
 ·obtain ⟨_,_,_,_,_,_,_,_,_,_,_,_,_,_,_,rfl,_⟩:=h;rfl
 ·obtain ⟨x,l0,a1,m1,l1,a2,m2,l2,PM,PN,Ue,Ug,Ii,Ij,u,rfl,t1,h1,r1,t2,h2,r2,Qh,bc,hT,k⟩:=h
  have hu:=bo hr
  have aB:=T.aB
  have aj:=T.aj
  refine⟨_,(ao (aG (iQ (rW K rfl hr.units) (az O.IZ (hr.mono (by decide)) (aa (pv 0) (aa (pv 1) af))) (az O.IZ (hr.mono (by decide)) (aa (pv 0) (aa (pv 2) af))) (aH _)))),?_⟩
  walk_at "w"
  refine Au ⟨t1,h1,r1,⟨Qh,bc⟩,hT⟩ fun ta la HA ya nA JN FQ fA tua=>?_
  walk_at "w"
  refine Au ⟨t2.keep hT JN,h2,r2,⟨Qh.keep hT JN,bc⟩,FQ⟩ fun tb lb HB yb nB smB Wg fB UL=>?_
  walk_at "w"
  refine Dz (kP (tua.keep FQ smB)) (kP UL) (gf _ _) (gf _ _) ?_
  exact k _ (JN.trans smB) Wg
theorem Qk:aF ["_law_script","_law_kind","_law_told_here","_law_tune_here","_law_span_here","_law_tuning_here","_law_due","_law_other_here","_law_turn","_law_beside"] ["_law_script"] (aq nZ):=⟨rfl,rfl,rfl,by decide +kernel,rfl,by decide +kernel,by decide +kernel⟩
structure Ql(P:Program)(w:World)(K:Frag)(mg:Str->Option Value)(base:Heap)(G:iK):Prop where
 moved:Ok P w K mg base 42 "moved" ["tune","span"] (t9 K)
 kl:Ok P w K mg base 43 "heard_alike" ["tuning","one","other"] (gH K)
 aA:Ok P w K mg base 1 "_law_cell_at" ["_law_script","_law_k"] (bI K)
 kT:Ok P w K mg base 2 "_law_sound" ["_law_kind","_law_told_here","_law_row"] (gj K)
 CL:Ok P w K mg base 40 "_law_tuning" ["_law_kind","_law_told_here","_law_cell"] (iu K)
 Fn:Ok P w K mg base 2 "_law_other" ["_law_tune_here","_law_cell"] (jl K)
 w6:Ok P w K mg base 3 "_law_heard" ["_law_kind","_law_told_here","_law_tune_here"] (jm K)
 CM:Ok P w K mg base 1 "_law_is" ["_law_found","_law_due"] (pX K)
 Fo:Ok P w K mg base 4 "_law_drawn" ["_law_script","_law_kind","_law_far"] (jn K)
theorem Qm {f:Addr} {fd:FuncData} (F:Km K "law" "law" nZ f fd) (T:Txt K mg G) (O:Ql P w K mg base G) (Y:base.NoSeer/\P.given.tree=none):nC P w K mg base D6 44 f fd ["_law_script"] ((xM fun K=>[((eD K "parted"),Lr,"parted.<locals>.<lambda>"),((eD K "moved"),M5,"moved.<locals>.<lambda>"),((eD K "sounds"),M6,"sounds.<locals>.<lambda>")]) K):=by
 have S:=Qk
 refine F.ok S (fun vs H Q E h=>?_) (fun c7 A outer s H vs Q E hr h=>?_)
 ·obtain ⟨_,_,rfl,_⟩:=h;rfl
 ·obtain ⟨a,ns,rfl,hS,hlen,hT,k⟩:=h
  have hu:=bo hr
  have aB:=T.aB
  have aj:=T.aj
  refine⟨_,(ag (aw (i:=1) S.nd rfl (Or.inl rfl) (ah aC (ah bx (az O.aA (hr.mono (by decide)) (aa (pv 0) (aa ae af))) ae) ae)) (ag (gn (az O.Fo (hr.mono (by decide)) (aa (pv 0) (aa (pv 1) (aa (iQ bM (ah aC (az O.aA (hr.mono (by decide)) (aa (pv 0) (aa ae af))) ae) ae (aH _)) af)))) (cw (n:=3) K rfl rfl (aJ (au (i:=2) S.nd rfl (Or.inl rfl)) (aJ (au (i:=3) S.nd rfl (Or.inl rfl)) (aJ (au (i:=4) S.nd rfl (Or.inl rfl)) cu))))) (ag (aw (i:=5) S.nd rfl (Or.inl rfl) (az O.CL (hr.mono (by decide)) (aa (pv 1) (aa (pv 2) (aa (az O.aA (hr.mono (by decide)) (aa (pv 0) (aa ae af))) af))))) (ag (aw (i:=6) S.nd rfl (Or.inl rfl) (iQ (rW K rfl hr.units) (az O.kT (hr.mono (by decide)) (aa (pv 1) (aa (pv 2) (aa (pv 4) af)))) (az O.kT (hr.mono (by decide)) (@aa _ _ _ _ _ (pv 1) (@aa _ _ _ _ _ (pv 2) (@aa _ _ _ _ _ (@aQ _ _ _ _ _ (aa ae (aa ae (aa ae (aa ae (aa ae af)))))) af (by rfl)) (by rfl)) (by rfl))) (aH _))) (ag (bB (ay bM (ba (iY K rfl rfl) rfl T.t5 boot_max (aa (bg (N:=["_law_bar"]) (ix:=[none]) rfl (aW K rfl (aM (aD K rfl) (pv 3) ae (fun _ _=>rfl))) (fun _ _ _ _ _=>(au (i:=0) (show eT ["_law_bar"] by decide +kernel) rfl (Or.inl rfl))) (fun _ _ _ _ _=>rfl) (fun _ _ _ _ _=>(ba (iY K rfl rfl) rfl T.t5 boot_max (aa (bg (N:=["_law_note"]) (ix:=[none]) rfl (aW K rfl (pv 0)) (fun _ _ _ _ _=>(au (i:=0) (show eT ["_law_note"] by decide +kernel) rfl (Or.inl rfl))) (fun _ _ _ _ _=>rfl) (fun _ _ _ _ _=>(bu Ei rfl T.Nb boot_int (aa (iQ J4 (aM (aD K rfl) (pv 0) ae (fun _ _=>rfl)) ib (aH _)) af))) rfl (by decide +kernel) (by decide +kernel) rfl True.intro) af))) rfl (by decide +kernel) (by decide +kernel) rfl True.intro) af)) ae (aH _)) (ao (aw (i:=6) S.nd rfl (Or.inl rfl) ze)) aK) (ag (aw (i:=7) S.nd rfl (Or.inl rfl) (az O.moved (hr.mono (by decide)) (aa (pv 3) (aa (pv 4) af)))) (ag (aw (i:=8) S.nd rfl (Or.inl rfl) (ah aC (ah bx (az O.aA (hr.mono (by decide)) (aa (pv 0) (aa ae af))) ae) ae)) (ag (bB (xc (sN (az O.CM (hr.mono (by decide)) (aa (az O.kl (hr.mono (by decide)) (aa (pv 5) (aa (aM (aD K rfl) (bG (aa (pv 3) (aa (pv 7) af))) (pv 8) (fun _ _=>rfl)) (aa (aM (aD K rfl) (bG (aa (pv 7) (aa (pv 3) af))) (pv 8) (fun _ _=>rfl)) af)))) (aa (pv 6) af))))) (ao (aG ze)) aK) (ag (bB (ay bM (ah aC (ah bx (az O.aA (hr.mono (by decide)) (aa (pv 0) (aa ae af))) ae) ae) ae (aH _)) (ao (aG (az O.CM (hr.mono (by decide)) (aa (az O.kl (hr.mono (by decide)) (aa (pv 5) (aa (pv 7) (aa (pv 7) af)))) (aa ze af))))) aK) (ag (aw (i:=9) S.nd rfl (Or.inl rfl) (az O.Fn (hr.mono (by decide)) (aa (pv 3) (aa (ah bx (az O.aA (hr.mono (by decide)) (aa (pv 0) (aa ae af))) ae) af)))) (ag (aw (i:=6) S.nd rfl (Or.inl rfl) (iQ (rW K rfl hr.units) (az O.w6 (hr.mono (by decide)) (aa (pv 1) (aa (pv 2) (aa (pv 9) af)))) (az O.w6 (hr.mono (by decide)) (aa (pv 1) (aa (pv 2) (aa (pv 3) af)))) (aH _))) (ao (aG (az O.CM (hr.mono (by decide)) (aa (az O.kl (hr.mono (by decide)) (aa (pv 5) (aa (aM (aD K rfl) (bG (aa (pv 3) (aa (pv 9) af))) (pv 8) (fun _ _=>rfl)) (aa (aM (aD K rfl) (bG (aa (pv 9) (aa (pv 3) af))) (pv 8) (fun _ _=>rfl)) af)))) (aa (pv 6) af)))))))))))))))),?_⟩
  walk_at "w"
  refine Ay ⟨hS,by lia⟩ fun p b t m l q d mt xs bs sq H1 s1 mp k8 bc Ct tu hq hD=>?_
  have hS1:=s1.seq hS
  have zc:cE K H1:=hT.same s1
  refine Lf (aN.of mp) ?_
  rw [<- Ct]
  obtain ⟨JO,Qo,Y6,Y7,hDl,hDm⟩:=id hD
  walk_at "w"
  refine x6 ⟨k8,bc,zc⟩ fun x lx u H2 MR zy Qh FW UM=>?_
  have L4:=k8.keep zc MR
  have AH:=tu.keep zc MR
  have P0:=MR.at zc hq
  have hS2:=MR.seq zc hS1
  clear hS hS1 k8 tu hq hT zc mp
  walk_at "w"
  refine kf ⟨L4,bc,P0,Qo.1,fun x hx=>by have:=Qo.2 x hx;lia⟩ fun z1 H3 y1 s3 xq hD1=>?_
  walk_at "w"
  rename_i p4 H4 s4 m4
  refine kf (r:=[0,0,0,0,0]) ⟨L4.same (s3.trans s4),bc,aN.of m4,rfl,fun x hx=>by simp only [aa9,not_mem_nil,or_false,or_self] at hx;rw [hx];decide⟩ fun z2 H5 y2 s5 GC hD2=>?_
  have ey1:uW u sq=y1:=gE FW Qo.1 (UM _ _ Qo.1 hD1)
  have ey2:uW u [0,0,0,0,0]=y2:=gE FW rfl (UM [0,0,0,0,0] y2 rfl hD2)
  have LX:=(s3.trans s4).trans s5
  refine Dz (xU (xq.same (s4.trans s5))) (xU GC) (tX _) (tX _) ?_
  rw [DK,<- ey1,<- ey2]
  have UN:=L4.same LX
  have Y8:=AH.same LX
  have YM:=LX.at P0
  have hS5:=LX.seq hS2
  have UO:=Qh.same LX
  have Wc:cE K H5:=zy.same LX
  obtain ⟨Y9,Za,L5,Qp⟩:=id Y8
  have lx:=Qp.length
  have UP:=JO.1
  walk_at "j"
  refine join (fun σ' H'=>∃ (dd:Bool),σ'=[some (.ref a),some (.int d.num),some (.ref b),some (.ref t),some (.ref q),some (.ref x),some (.bl dd),none,none,none]/\ai H5 H'/\(dd=true↔quiet bs\/uW u sq=uW u [0,0,0,0,0])) (fun nx eF=>?_) (fun σ' H6 hP=>?_)
  ·walk_at "w"
   refine cC 1 [] bs.length (fun l i ys H'=>ys=((bs.take i).map qz).map V.int) rfl (fun _ _ _ _ _=>rfl) (fun l i ys H' h=>by rw [h,aa5,aa5,abl];lia) (fun H' s=>⟨xs,s.seq (aR.of L5),by lia⟩) (fun i H' hi s=>⟨xs,xs[i]'(by lia),s.seq (aR.of L5),aaZ (by lia)⟩) (fun l2 i x H' Yy own ys ho hi rY s9 dE hp hy Qy Qn ky kn=>?_) (fun l2 H' ys rY s9 dE hp=>?_)
   ·obtain ⟨o1,rfl⟩:∃ o1,own=[o1]:=by match own,ho with|[o1],_=>exact⟨o1,rfl⟩
    obtain ⟨rfl,e⟩:=hy
    obtain ⟨a1,zs,gL,rfl,hz,xD,BW⟩:=(Qp.same s9).get (e xs (s9.seq (aR.of L5)))
    have FX:gL∈bs:=aa4 BW
    have et:bs.take (i+1)=bs.take i++[gL]:=by rw [take_add_one,BW];rfl
    have lz:=xD.length
    have l12:=(JO.2.2 gL FX).2.1
    have l1:=(JO.2.2 gL FX).1
    walk_at "w"
    refine jI ?_
    walk_at "w"
    refine cC 1 [] gL.length (fun l i ws H'=>ws=((gL.take i).map fz).map V.int) rfl (fun _ _ _ _ _=>rfl) (fun l i ws H' h=>by rw [h,aa5,aa5,abl];lia) (fun H' s=>⟨zs,s.seq (aR.of hz),by lia⟩) (fun i H' hi s=>⟨zs,zs[i]'(by lia),s.seq (aR.of hz),aaZ (by lia)⟩) (fun l i' x H6 H7 own ws ho BO Rm s6 UD rQ hy Qy Qn YV kn'=>?_) (fun l3 H9 ws n9 uX m9 rQ=>?_)
    ·obtain ⟨o1,rfl⟩:∃ o1,own=[o1]:=by match own,ho with|[o1],_=>exact⟨o1,rfl⟩
     obtain ⟨rfl,e⟩:=hy
     obtain ⟨n,rJ,Ff⟩:=(xD.same s6).get (e zs (s6.seq (aR.of hz)))
     have Rn:gL.take (i'+1)=gL.take i'++[n]:=by rw [take_add_one,Ff];rfl
     obtain ⟨an,tn,ln,rfl,FT,Bn,FV⟩:=rJ
     walk_at "w"
     refine jI ?_
     walk_at "w"
     refine⟨rfl,?_⟩
     walk_at "w"
     rw [Ua Bn]
     refine YV [some (.ref an)] _ _ rfl (ai.refl _) ?_
     rw [Rn,abo,abo,rQ]
     rfl
    ·rw [abk] at rQ
     subst rQ
     walk_at "w"
     refine lY (aR.of m9) (fun z=>by rw [List.map_eq_nil_iff] at z;rw [z] at l1;cases l1) fun mx Uy G8=>?_
     rw [PD Uy G8]
     refine ky [some (.ref a1)] _ H9 rfl uX ?_
     rw [et,abo,abo,hp]
     rfl
   ·rw [abk] at hp
    subst hp
    walk_at "w"
    refine lY (aR.of dE) (fun z=>by rw [List.map_eq_nil_iff] at z;rw [z] at UP;cases UP) fun mx Uy G8=>?_
    have V1:=Lz Uy G8
    walk_at "w"
    refine aU (fun h1=>?_) (fun h1=>?_)
    ·walk_at "w"
     exact eF _ _ ⟨true,rfl,s9,⟨fun _=>.inl (V1.mp (aaQ h1)),fun _=>rfl⟩⟩
    ·walk_at "w"
     refine eF _ _ ⟨_,rfl,s9,⟨fun h=>.inr (aaQ h),fun h=>aaT (h.elim (fun z=>absurd (V1.mpr z) (aaR h1)) id)⟩⟩
  obtain ⟨dd,rfl,s6,hdd⟩:=hP
  clear xq GC L4 AH P0 hS2 Qh zy Y9 Za L5 Qp
  have UQ:=UN.same s6
  have Zb:=Y8.same s6
  have hq6:=s6.at YM
  have hS6:=s6.seq hS5
  have UR:=UO.same s6
  have Rr:cE K H6:=Wc.same s6
  clear UN Y8 YM hS5 UO Wc
  walk_at "w"
  refine LF (l0:=q) ⟨Zb,by lia,fun gL h1=>⟨(JO.rows (by decide) gL h1).1,fun n h2=>⟨(JO.rows (by decide) gL h1).2 n h2,Y7 gL h1 n h2⟩⟩,⟨hq6,Qo.1⟩,Rr⟩ fun t' l' H7 ys nl' Wh Qq Vs US=>?_
  have UT:=UQ.keep Rr Wh
  have Wi:=Zb.keep Rr Wh
  have hS7:=Wh.seq Rr hS6
  have L6:=UR.keep Rr Wh
  clear UQ Zb hq6 hS6 UR Rr
  have Wj:=JO.rows (show (700:Int)<=1000 by decide)
  have hmR:=PL Qo (show (700:Int)+100<=1000 by decide) JO
  have UU:=hmR.rows (show (1000:Int)<=1000 by decide)
  have FO:bs.length<=100:=by lia
  have Dk:(bs.map fun ns=>ns.map (gd (.mv sq))).length<=100:=by rw [aa5];lia
  have Zc:=PF (mt:=mt) bc FW UM Qo.1 JO hdd
  have Qr:=Ap mt mt (bs.map fun ns=>ns.map (gd (.sd u))) ((bs.map fun ns=>ns.map (gd (.mv sq))).map fun ns=>ns.map (gd (.sd u)))
  rw [Zc] at Qr
  generalize (bs.map fun ns=>ns.map (gd (.mv sq)))=bm at US hmR UU Dk Zc Qr
  obtain ⟨c1,Lj⟩:∃ c1,ns.getD (Int.toNat 1) 0=c1:=⟨_,rfl⟩
  have htr:c1 / 6 % 2=0\/c1 / 6 % 2=1:=by lia
  walk_at "j"
  rw [Lj]
  refine join (fun σ' H'=>σ'=[some (.ref a),some (.int d.num),some (.ref b),some (.ref t),some (.ref q),some (.ref x),some (.bl dd),some (.ref t'),some (.int (c1 / 6 % 2)),none]/\kN K H7 H'/\cE K H') (fun nx eF=>?_) (fun σ' H8 hP=>?_)
  ·walk_at "w"
   rename_i p8 H8 n8 s8 m8
   rcases htr with e|e
   ·rw [e]
    refine du (aR.of m8) (aS (j:=0) rfl) ?_
    walk_at "w"
    rename_i p9 H9 n9 s9 m9
    have vQ:=s8.trans s9
    refine eN ⟨Wi.same vQ,FO,Wj,US.same vQ,Dk,UU,L6.same vQ,FW,Qq.same vQ⟩ fun HA JN FQ=>?_
    rw [Zc]
    walk_at "w"
    refine kg fun HB sB=>?_
    walk_at "w"
    refine bH rfl ?_
    walk_at "w"
    exact eF _ _ ⟨by rw [e];rfl,((cq.of vQ).trans JN).trans (cq.of sB),FQ.same sB⟩
   ·rw [e]
    refine du (aR.of m8) (aS (j:=1) rfl) ?_
    walk_at "w"
    rename_i p9 H9 n9 s9 m9
    have vQ:=s8.trans s9
    refine eN ⟨US.same vQ,Dk,UU,Wi.same vQ,FO,Wj,L6.same vQ,FW,Qq.same vQ⟩ fun HA JN FQ=>?_
    rw [<- Qr]
    walk_at "w"
    refine kg fun HB sB=>?_
    walk_at "w"
    refine bH rfl ?_
    walk_at "w"
    exact eF _ _ ⟨by rw [e];rfl,((cq.of vQ).trans JN).trans (cq.of sB),FQ.same sB⟩
  obtain ⟨rfl,UW,Sl⟩:=hP
  have UX:=UT.keep Qq UW
  have Qs:=Wi.keep Qq UW
  have Zd:=US.keep Qq UW
  have hS8:=UW.seq Qq hS7
  have Qu:=L6.keep Qq UW
  clear UT Wi US hS7 L6
  walk_at "w"
  refine aU (fun h1=>?_) (fun h1=>?_)
  ·walk_at "w"
   refine eN ⟨Zd,Dk,UU,Zd,Dk,UU,Qu,FW,Sl⟩ fun HA JN FQ=>?_
   rw [show PyData.eqv (dC mt (bm.map fun ns=>ns.map (gd (.sd u)))) (dC mt (bm.map fun ns=>ns.map (gd (.sd u))))=true by rw [tW];exact aaT rfl]
   walk_at "w"
   exact kg fun HB sB=>k HB
  walk_at "w"
  refine Ax ⟨Qs,JO,Y6,hDl,hDm⟩ fun tb mb lb H9 Ra E7 Ca s9 UL Ze=>?_
  have Qv:=UX.same s9
  have Qw:=Qs.same s9
  have UY:=Qu.same s9
  have hT9:cE K H9:=Sl.same s9
  clear UX Qs Zd Qu
  walk_at "w"
  refine qV ⟨UL,Ze.mono (by decide),Qv,bc,FW,UM⟩ fun t1 l1 HA ys1 nA sA IH=>?_
  walk_at "w"
  refine qV ⟨Qw.same sA,JO.mono (by decide),Qv.same sA,bc,FW,UM⟩ fun t2 l2 HB ys2 nB sB AH=>?_
  walk_at "w"
  refine Dz (kP (IH.same sB)) (kP AH) (gf _ _) (gf _ _) ?_
  have UZ:=Ze.rows (show (700:Int)<=1000 by decide)
  have hlb:Ca.length<=100:=aaL Ze.2.1 (by decide)
  have Wl:=sA.trans sB
  have tuB:=Qw.same Wl
  have tuC:=UL.same Wl
  have U0:=UY.same Wl
  have Wg:=hT9.same Wl
  clear Qw UL UY Qv IH AH
  have hes:=Ap Ra mt (Ca.map fun ns=>ns.map (gd (.sd u))) (bs.map fun ns=>ns.map (gd (.sd u)))
  generalize Ky:PyData.eqv (dC Ra (Ca.map fun ns=>ns.map (gd (.sd u)))) (dC mt (bs.map fun ns=>ns.map (gd (.sd u))))=g at hes
  walk_at "w"
  rename_i p8 H8' n8 s8 m8
  rcases htr with e|e
  ·rw [e]
   refine du (aR.of m8) (aS (j:=0) rfl) ?_
   walk_at "w"
   rename_i p9 HC n9 sC m9
   have vQ:=s8.trans sC
   refine eN ⟨tuB.same vQ,FO,Wj,tuC.same vQ,hlb,UZ,U0.same vQ,FW,Wg.same vQ⟩ fun HE JN FQ=>?_
   rw [<- hes]
   walk_at "w"
   exact kg fun HF sF=>k HF
  ·rw [e]
   refine du (aR.of m8) (aS (j:=1) rfl) ?_
   walk_at "w"
   rename_i p9 HC n9 sC m9
   have vQ:=s8.trans sC
   refine eN ⟨tuC.same vQ,hlb,UZ,tuB.same vQ,FO,Wj,U0.same vQ,FW,Wg.same vQ⟩ fun HE JN FQ=>?_
   rw [Ky]
   walk_at "w"
   exact kg fun HF sF=>k HF
end
set_option maxHeartbeats 2000000
theorem all_mk {l:OpenLaw} {w:World} {K:Frag} {h:Heap} {mg:Str->Option Value} {fa:Addr} (X:K.In h) (G0:h.Ns mainGlobals mg) (U1:l.prog.given.tree=none) (hfa:mg "law"=some (.ref fa)) {cy jr:Addr} (mS:tabIn K "parted"=some (cy,jr)) {cQ km:Addr} (qf:tabIn K "moved"=some (cQ,km)) {cz jt:Addr} (mT:tabIn K "sounds"=some (cz,jt)) {Zf Zg Zh Zi Qx Qz QA Nl QB QC QD:Addr} {Zj Zk Zl Zm Zn Zo Zp U2 Zq Zr Zs Zt Zu Zv Zw Zx Zy Zz ZA ZC ZD ZE:Option Addr} {ZF ZG ZH ZI ZJ ZK ZL ZM ZN ZO ZP:Array (Option Value)} {ZQ ZR ZS ZT ZU ZV ZW ZX ZY ZZ Z0 Z1 Z2 Z3 Z4 Z5 U3 U4 U5 QE U6 Z6 Z7 Z8 Z9 U7 aaa aab aac aad aae U8 aaf aag aah aai aaj U9 aak aal aam aan aao Va aap aaq aar aas aat Vb aau aav aaw aax aay Vc aaz aaA aaB aaC aaD Vd aaE:Value} {dy:Addr} {bj:Addr} {bq:Addr} {dq:Addr} {Ja:Addr} {QF:Option Addr} {QG:Nat} {QH:Array (Option Value)} {QI QJ QK QL QM:Tok} {uE:Addr} {Fp:Option Addr} {Fq:Nat} {Fs:Array (Option Value)} {Ft Fu Fv Fw Fx:Tok} {fM:Tok} {hV:Tok} {sy:Tok}
     (oS:nsIn K mainGlobals "Tuning"=some (some (.ref dy))) (fN:nsIn K mainGlobals "CommaTuning"=some (some (.ref bj))) (ia:nsIn K mainGlobals "KeyTuning"=some (some (.ref bq))) (sD:nsIn K mainGlobals "Board"=some (some (.ref dq)))
 (a0:gc K "is_whole" mi)
 (a1:gc K "is_row" tM)
 (a2:gc K "is_tone" pK)
 (a3:gc K "tone_of" pL)
 (a4:gc K "times" xN)
 (a5:gc K "over" B2)
 (a6:gc K "power" xO)
 (a7:gc K "note_changed" gy)
 (a8:gc K "bar_changed" ig)
 (a9:gc K "changed" pM)
 (a10:nsIn K mainGlobals "moved"=some (some (.ref Zf))) (l10:K.lookup Zf=some ⟨ZQ,Zj,.func (fnOf "moved" "moved" (cI i4) (bN i4) (aq i4) .none ZR ZS ZT Zk (.ref cQ) ZU),ZF⟩) (c10:codeIn K (.ref cQ) "moved"=true) (k10:keepIn K (.ref Zf)=true)
 (a11:nsIn K mainGlobals "sounds"=some (some (.ref Zg))) (We:K.lookup Zg=some ⟨ZV,Zl,.func (fnOf "sounds" "sounds" (cI gz) (bN gz) (aq gz) .none ZW ZX ZY Zm (.ref cz) ZZ),ZG⟩) (c11:codeIn K (.ref cz) "sounds"=true) (k11:keepIn K (.ref Zg)=true)
 (a12:gc K "heard_alike" ij)
 (a13:gc K "checked_commas" fG)
 (a14:gc K "lead_place" i5)
 (a15:gc K "lowered" pN)
 (a16:nsIn K mainGlobals "parted"=some (some (.ref Zh))) (l16:K.lookup Zh=some ⟨Z0,Zn,.func (fnOf "parted" "parted" (cI gB) (bN gB) (aq gB) .none Z1 Z2 Z3 Zo (.ref cy) Z4),ZH⟩) (c16:codeIn K (.ref cy) "parted"=true) (k16:keepIn K (.ref Zh)=true)
 (a17:gc K "stepped" pO)
 (a18:gc K "table" xP)
 (a19:gc K "left_by" pP)
 (a20:gc K "heard" xQ)
 (a21:gc K "value" xR)
 (a22:gc K "checked_keys" gC)
 (a23:gc K "values" tN)
 (a24:gc K "_law_cell_at" ik)
 (a25:gc K "_law_lowest" i7)
 (a26:gc K "_law_mixed" jX)
 (a27:gc K "_law_name_row" gD)
 (a28:gc K "_law_pieces" i9)
 (a29:gc K "_law_tune" mj)
 (a30:gc K "_law_steps" jY)
 (a31:gc K "_law_rest" ml)
 (a32:gc K "_law_commas" jb)
 (a33:gc K "_law_value" jZ)
 (a34:gc K "_law_keys" mr)
 (a35:gc K "_law_told" my)
 (a36:gc K "_law_sound" j0)
 (a37:gc K "_law_tuning" jc)
 (a38:gc K "_law_nothing" il)
 (a39:gc K "_law_span" mC)
 (a40:gc K "_law_digits" jd)
 (a41:gc K "_law_digit_tune" fH)
 (a42:gc K "_law_digit_told" fI)
 (a43:gc K "_law_digit_span" fJ)
 (a44:gc K "_law_turned" je)
 (a45:gc K "_law_other" j4)
 (a46:gc K "_law_heard" j5)
 (a47:gc K "_law_is" tO)
 (a48:gc K "_law_drawn" j6)
 (a49:nsIn K mainGlobals "law"=some (some (.ref Zi))) (l49:K.lookup Zi=some ⟨Z5,Zp,.func (fnOf "law" "law" (cI nZ) (bN nZ) (aq nZ) .none U3 U4 U5 U2 QE U6),ZI⟩) (c49:codeIn K QE "law"=true) (k49:keepIn K (.ref Zi)=true)
 (a50:findIn K (.ref dy) "sound"=some (some (.ref Qx))) (Rh:K.lookup Qx=some ⟨Z6,Zq,.func (fnOf "sound" "Tuning.sound" (cI cY) (bN cY) (aq cY) .none Z7 Z8 Z9 Zr U7 aaa),ZJ⟩) (c50:codeIn K U7 "Tuning.sound"=true) (Wm:keepIn K (.ref Qx)=true) (i50:isFn K (.ref Qx)=true)
 (a51:findIn K (.ref bj) "__init__"=some (some (.ref Qz))) (IC:K.lookup Qz=some ⟨aab,Zs,.func (fnOf "__init__" "CommaTuning.__init__" (cI bU) (bN bU) (aq bU) .none aac aad aae Zt U8 aaf),ZK⟩) (c51:codeIn K U8 "CommaTuning.__init__"=true) (k51:keepIn K (.ref Qz)=true) (i51:isFn K (.ref Qz)=true)
 (a52:findIn K (.ref bj) "sound"=some (some (.ref QA))) (LP:K.lookup QA=some ⟨aag,Zu,.func (fnOf "sound" "CommaTuning.sound" (cI bL) (bN bL) (aq bL) .none aah aai aaj Zv U9 aak),ZL⟩) (c52:codeIn K U9 "CommaTuning.sound"=true) (Wn:keepIn K (.ref QA)=true) (i52:isFn K (.ref QA)=true)
 (a53:findIn K (.ref bq) "__init__"=some (some (.ref Nl))) (l53:K.lookup Nl=some ⟨aal,Zw,.func (fnOf "__init__" "KeyTuning.__init__" (cI ck) (bN ck) (aq ck) .none aam aan aao Zx Va aap),ZM⟩) (c53:codeIn K Va "KeyTuning.__init__"=true) (k53:keepIn K (.ref Nl)=true) (i53:isFn K (.ref Nl)=true)
 (a54:findIn K (.ref bq) "sound"=some (some (.ref QB))) (l54:K.lookup QB=some ⟨aaq,Zy,.func (fnOf "sound" "KeyTuning.sound" (cI b9) (bN b9) (aq b9) .none aar aas aat Zz Vb aau),ZN⟩) (c54:codeIn K Vb "KeyTuning.sound"=true) (Wo:keepIn K (.ref QB)=true) (i54:isFn K (.ref QB)=true)
 (a55:findIn K (.ref dq) "__init__"=some (some (.ref QC))) (l55:K.lookup QC=some ⟨aav,ZA,.func (fnOf "__init__" "Board.__init__" (cI dG) (bN dG) (aq dG) .none aaw aax aay ZC Vc aaz),ZO⟩) (c55:codeIn K Vc "Board.__init__"=true) (k55:keepIn K (.ref QC)=true) (i55:isFn K (.ref QC)=true)
 (a56:findIn K (.ref dq) "sound"=some (some (.ref QD))) (l56:K.lookup QD=some ⟨aaA,ZD,.func (fnOf "sound" "Board.sound" (cI di) (bN di) (aq di) .none aaB aaC aaD ZE Vd aaE),ZP⟩) (c56:codeIn K Vd "Board.sound"=true) (Wq:keepIn K (.ref QD)=true) (i56:isFn K (.ref QD)=true)
     (qg:plainGet K dy Str.empty=true) (qh:hasDictIn K dy=true) (qi:plainOver K dy=true) (qj:findIn K (.ref dy) "__setattr__"=some (some (.builtin "object.__setattr__"))) (qk:makesIn K dy=true) (ql:keepIn K (.ref dy)=true) (qm:findIn K (.ref dy) "__init__"=some (some (.builtin "object.__init__"))) (mU:findIn K (.ref dy) "__class__"=some (some (.builtin "object.__class__"))) (mV:specialIn K (.builtin "object.__class__") "__get__"=some (some (.builtin "getset_descriptor.__get__"))) (mW:takesIn K (.builtin "object.__class__")=some true) (mY:mroIn K dy (.type "object")=some true) (fX:findIn K (.ref dy) "sound"=some (some (.ref Qx))) (gN:plainGet K bj Str.empty=true) (gO:hasDictIn K bj=true) (gP:plainOver K bj=true) (gQ:findIn K (.ref bj) "__setattr__"=some (some (.builtin "object.__setattr__"))) (gR:makesIn K bj=true) (gS:keepIn K (.ref bj)=true) (gT:findIn K (.ref bj) "__init__"=some (some (.ref Qz))) (fY:findIn K (.ref bj) "__class__"=some (some (.builtin "object.__class__"))) (fZ:specialIn K (.builtin "object.__class__") "__get__"=some (some (.builtin "getset_descriptor.__get__"))) (f6:takesIn K (.builtin "object.__class__")=some true) (f7:mroIn K bj (.type "object")=some true) (eg:findIn K (.ref bj) "sound"=some (some (.ref QA))) (eh:findIn K (.ref bj) "steps"=some none) (ju:plainGet K bq Str.empty=true) (jv:hasDictIn K bq=true) (jw:plainOver K bq=true) (jx:findIn K (.ref bq) "__setattr__"=some (some (.builtin "object.__setattr__"))) (jy:makesIn K bq=true) (jz:keepIn K (.ref bq)=true) (jA:findIn K (.ref bq) "__init__"=some (some (.ref Nl))) (iz:findIn K (.ref bq) "__class__"=some (some (.builtin "object.__class__"))) (iA:specialIn K (.builtin "object.__class__") "__get__"=some (some (.builtin "getset_descriptor.__get__"))) (iB:takesIn K (.builtin "object.__class__")=some true) (iC:mroIn K bq (.type "object")=some true) (eU:findIn K (.ref bq) "sound"=some (some (.ref QB))) (cM:readsIn K bq (.type "type")=true) (cN:findCls K (.ref bq) (.type "type") "__init__"=some (.val (.ref Nl))) (cO:specialIn K (.ref bq) "__getattribute__"=some (some (.builtin "type.__getattribute__"))) (dU:findIn K (.ref bq) "own_keys"=some none) (uF:plainGet K dq Str.empty=true) (uG:hasDictIn K dq=true) (uH:plainOver K dq=true) (uI:findIn K (.ref dq) "__setattr__"=some (some (.builtin "object.__setattr__"))) (uJ:makesIn K dq=true) (uK:keepIn K (.ref dq)=true) (uL:findIn K (.ref dq) "__init__"=some (some (.ref QC))) (qo:findIn K (.ref dq) "__class__"=some (some (.builtin "object.__class__"))) (qp:specialIn K (.builtin "object.__class__") "__get__"=some (some (.builtin "getset_descriptor.__get__"))) (qr:takesIn K (.builtin "object.__class__")=some true) (qu:mroIn K dq (.type "object")=some true) (gU:findIn K (.ref dq) "sound"=some (some (.ref QD))) (ft:findIn K (.ref dq) "own_keys"=some none) (f9:findIn K (.ref dq) "octave"=some none)
     (Jb:nsIn K mainGlobals "ONE"=some (some (.ref Ja))) (Jc:K.lookup Ja=some ⟨.type "tuple",QF,.seq #[.int 0 QI,.int 0 QJ,.int 0 QK,.int 0 QL,.int 0 QM] QG,QH⟩) (uM:nsIn K mainGlobals "BOUNDS"=some (some (.ref uE))) (uN:K.lookup uE=some ⟨.type "tuple",Fp,.seq #[.int 700 Ft,.int 60 Fu,.int 60 Fv,.int 60 Fw,.int 60 Fx] Fq,Fs⟩) (iD:nsIn K mainGlobals "MOST_COMMAS"=some (some (.int 6 fM))) (kr:nsIn K mainGlobals "MOST_KEYS"=some (some (.int 6 hV))) (yD:nsIn K mainGlobals "WIDTH"=some (some (.int 5 sy))) (Jd:nsIn K mainGlobals "abs"=some none) (Je:nsIn K mainGlobals "all"=some none) (CN:nsIn K mainGlobals "bool"=some none) (kx:nsIn K mainGlobals "enumerate"=some none) (Jf:nsIn K mainGlobals "int"=some none) (jB:nsIn K mainGlobals "isinstance"=some none) (Jg:nsIn K mainGlobals "len"=some none) (CO:nsIn K mainGlobals "list"=some none) (Jh:nsIn K mainGlobals "max"=some none) (yE:nsIn K mainGlobals "range"=some none) (mZ:nsIn K mainGlobals "reversed"=some none) (uO:nsIn K mainGlobals "sorted"=some none) (Ji:nsIn K mainGlobals "str"=some none) (Jj:nsIn K mainGlobals "sum"=some none) (yF:nsIn K mainGlobals "tuple"=some none) (Jk:nsIn K mainGlobals "zip"=some none) :
    ∃ fd:FuncData,(∀ (s:Shared) (v:Value),BindsTo s fd ⟨[v],[]⟩ [("_law_script",v)])/\∀ base:Heap,K.In base->base.Ns mainGlobals mg->CodeHd base cy jr->base.BuiltinsAt mg jr->CodeHd base cQ km->base.BuiltinsAt mg km->CodeHd base cz jt->base.BuiltinsAt mg jt->base.NoSeer->nC l.prog w K mg base D6 44 fa fd ["_law_script"] ((xM fun K=>[((eD K "parted"),Lr,"parted.<locals>.<lambda>"),((eD K "moved"),M5,"moved.<locals>.<lambda>"),((eD K "sounds"),M6,"sounds.<locals>.<lambda>")]) K):=by
  have e:=hfa.symm.trans (mg_of X G0 a49)
  cases e
  have T:Txt K mg ⟨Ja,uE,dy,bj,bq,dq,Qx,Qz,QA,Nl,QB,QC,QD,fM,hV,sy,cy,cQ,cz⟩:=⟨mg_none_of X G0 Jd,mg_none_of X G0 Je,mg_none_of X G0 CN,mg_none_of X G0 kx,mg_none_of X G0 Jf,mg_none_of X G0 jB,mg_none_of X G0 Jg,mg_none_of X G0 CO,mg_none_of X G0 Jh,mg_none_of X G0 yE,mg_none_of X G0 mZ,mg_none_of X G0 uO,mg_none_of X G0 Ji,mg_none_of X G0 Jj,mg_none_of X G0 yF,mg_none_of X G0 Jk,mg_of X G0 Jb,fun H=>.inr ⟨_,_,_,Jc,rfl,rfl,by show 5 <= sizeLine;decide,(.cons ⟨_,rfl⟩ (.cons ⟨_,rfl⟩ (.cons ⟨_,rfl⟩ (.cons ⟨_,rfl⟩ (.cons ⟨_,rfl⟩ .nil)))))⟩,mg_of X G0 uM,fun H=>.inr ⟨_,_,_,uN,rfl,rfl,by show 5 <= sizeLine;decide,(.cons ⟨_,rfl⟩ (.cons ⟨_,rfl⟩ (.cons ⟨_,rfl⟩ (.cons ⟨_,rfl⟩ (.cons ⟨_,rfl⟩ .nil)))))⟩,mg_of X G0 iD,mg_of X G0 kr,mg_of X G0 yD,mg_of X G0 oS,oS,⟨qg,qh,qi,qj⟩,⟨qk,qm,ql⟩,⟨mU,mV,mW,mY⟩,⟨fX,i50,Wm⟩,mg_of X G0 fN,fN,⟨gN,gO,gP,gQ⟩,⟨gR,gT,i51,gS⟩,⟨fY,fZ,f6,f7⟩,⟨eg,i52,Wn⟩,eh,mg_of X G0 ia,ia,⟨ju,jv,jw,jx⟩,⟨jy,jA,i53,jz⟩,⟨iz,iA,iB,iC⟩,⟨eU,i54,Wo⟩,⟨cM,cN,cO⟩,dU,mg_of X G0 sD,sD,⟨uF,uG,uH,uI⟩,⟨uJ,uL,i55,uK⟩,⟨qo,qp,qr,qu⟩,⟨gU,i56,Wq⟩,ft,f9⟩
  have CP:=a0.df (ps:=["thing"]) X G0 fun _ _ _ _ _ _ us hl=>fb us hl fun _=>rfl
  have Jl:=a1.df (ps:=["thing"]) X G0 fun _ _ _ _ _ _ us hl=>fb us hl fun _=>rfl
  have Fy:=a2.df (ps:=["thing"]) X G0 fun _ _ _ _ _ _ us hl=>fb us hl fun _=>rfl
  have Fz:=a3.df (ps:=["row"]) X G0 fun _ _ _ _ _ _ us hl=>fb us hl fun _=>rfl
  have L7:=a4.df (ps:=["one","other"]) X G0 fun _ _ _ _ _ _ us hl=>bD us hl fun _ _=>rfl
  have QN:=a5.df (ps:=["one","other"]) X G0 fun _ _ _ _ _ _ us hl=>bD us hl fun _ _=>rfl
  have L8:=a6.df (ps:=["row","n"]) X G0 fun _ _ _ _ _ _ us hl=>bD us hl fun _ _=>rfl
  have uP:=a7.df (ps:=["note","change"]) X G0 fun _ _ _ _ _ _ us hl=>bD us hl fun _ _=>rfl
  have vR:=a8.df (ps:=["bar","change"]) X G0 fun _ _ _ _ _ _ us hl=>bD us hl fun _ _=>rfl
  have FA:=a9.df (ps:=["tune","change"]) X G0 fun _ _ _ _ _ _ us hl=>bD us hl fun _ _=>rfl
  have L9:z9 K mg "moved" i4 ["tune","span"] cQ:=⟨_,_,_,_,_,_,_,_,_,_,rfl,l10,c10,k10,mg_of X G0 a10,.all fun us hl=>match us,hl with|[_,_],_=>rfl⟩
  have Jm:z9 K mg "sounds" gz ["tuning","tune"] cz:=⟨_,_,_,_,_,_,_,_,_,_,rfl,We,c11,k11,mg_of X G0 a11,.all fun us hl=>match us,hl with|[_,_],_=>rfl⟩
  have vS:=a12.df (ps:=["tuning","one","other"]) X G0 fun _ _ _ _ _ _ us hl=>eO us hl fun _ _ _=>rfl
  have qv:=a13.df (ps:=["commas"]) X G0 fun _ _ _ _ _ _ us hl=>fb us hl fun _=>rfl
  have yG:=a14.df (ps:=["row"]) X G0 fun _ _ _ _ _ _ us hl=>fb us hl fun _=>rfl
  have FC:=a15.df (ps:=["vector","step","place"]) X G0 fun _ _ _ _ _ _ us hl=>eO us hl fun _ _ _=>rfl
  have Jn:z9 K mg "parted" gB ["vectors","place"] cy:=⟨_,_,_,_,_,_,_,_,_,_,rfl,l16,c16,k16,mg_of X G0 a16,.all fun us hl=>match us,hl with|[_,_],_=>rfl⟩
  have FD:=a17.df (ps:=["vectors","size"]) X G0 fun _ _ _ _ _ _ us hl=>bD us hl fun _ _=>rfl
  have Ma:=a18.df (ps:=["commas"]) X G0 fun _ _ _ _ _ _ us hl=>fb us hl fun _=>rfl
  have FE:=a19.df (ps:=["steps","vector"]) X G0 fun _ _ _ _ _ _ us hl=>bD us hl fun _ _=>rfl
  have Mb:=a20.df (ps:=["weights","row"]) X G0 fun _ _ _ _ _ _ us hl=>bD us hl fun _ _=>rfl
  have Mc:=a21.df (ps:=["key","row"]) X G0 fun _ _ _ _ _ _ us hl=>bD us hl fun _ _=>rfl
  have uQ:=a22.df (ps:=["keys"]) X G0 fun _ _ _ _ _ _ us hl=>fb us hl fun _=>rfl
  have Jo:=a23.df (ps:=["keys","row"]) X G0 fun _ _ _ _ _ _ us hl=>bD us hl fun _ _=>rfl
  have vT:=a24.df (ps:=["_law_script","_law_k"]) X G0 fun _ _ _ _ _ _ us hl=>bD us hl fun _ _=>rfl
  have yH:=a25.df (ps:=["_law_top","_law_bottom"]) X G0 fun _ _ _ _ _ _ us hl=>bD us hl fun _ _=>rfl
  have AW:=a26.df (ps:=["_law_cell","_law_k"]) X G0 fun _ _ _ _ _ _ us hl=>bD us hl fun _ _=>rfl
  have uR:=a27.df (ps:=["_law_mixed_here"]) X G0 fun _ _ _ _ _ _ us hl=>fb us hl fun _=>rfl
  have yI:=a28.df (ps:=["_law_cell","_law_count","_law_total"]) X G0 fun _ _ _ _ _ _ us hl=>eO us hl fun _ _ _=>rfl
  have CQ:=a29.df (ps:=["_law_script","_law_at"]) X G0 fun _ _ _ _ _ _ us hl=>bD us hl fun _ _=>rfl
  have AX:=a30.df (ps:=["_law_script","_law_at"]) X G0 fun _ _ _ _ _ _ us hl=>bD us hl fun _ _=>rfl
  have CS:=a31.df (ps:=["_law_steps_here","_law_row"]) X G0 fun _ _ _ _ _ _ us hl=>bD us hl fun _ _=>rfl
  have yJ:=a32.df (ps:=["_law_steps_here","_law_cell"]) X G0 fun _ _ _ _ _ _ us hl=>bD us hl fun _ _=>rfl
  have AY:=a33.df (ps:=["_law_w","_law_ring","_law_row"]) X G0 fun _ _ _ _ _ _ us hl=>eO us hl fun _ _ _=>rfl
  have CT:=a34.df (ps:=["_law_script","_law_at"]) X G0 fun _ _ _ _ _ _ us hl=>bD us hl fun _ _=>rfl
  have CU:=a35.df (ps:=["_law_script","_law_kind","_law_at"]) X G0 fun _ _ _ _ _ _ us hl=>eO us hl fun _ _ _=>rfl
  have AZ:=a36.df (ps:=["_law_kind","_law_told_here","_law_row"]) X G0 fun _ _ _ _ _ _ us hl=>eO us hl fun _ _ _=>rfl
  have yK:=a37.df (ps:=["_law_kind","_law_told_here","_law_cell"]) X G0 fun _ _ _ _ _ _ us hl=>eO us hl fun _ _ _=>rfl
  have vU:=a38.df (ps:=["_law_kind","_law_told_here","_law_cell"]) X G0 fun _ _ _ _ _ _ us hl=>eO us hl fun _ _ _=>rfl
  have CV:=a39.df (ps:=["_law_kind","_law_told_here","_law_cell","_law_other_here"]) X G0 fun _ _ _ _ _ _ us hl=>Lm us hl fun _ _ _ _=>rfl
  have yL:=a40.df (ps:=["_law_cell","_law_base","_law_many"]) X G0 fun _ _ _ _ _ _ us hl=>eO us hl fun _ _ _=>rfl
  have qw:=a41.df (ps:=["_law_script"]) X G0 fun _ _ _ _ _ _ us hl=>fb us hl fun _=>rfl
  have qA:=a42.df (ps:=["_law_script","_law_kind"]) X G0 fun _ _ _ _ _ _ us hl=>bD us hl fun _ _=>rfl
  have qB:=a43.df (ps:=["_law_script","_law_kind","_law_told_here"]) X G0 fun _ _ _ _ _ _ us hl=>eO us hl fun _ _ _=>rfl
  have yM:=a44.df (ps:=["_law_some"]) X G0 fun _ _ _ _ _ _ us hl=>fb us hl fun _=>rfl
  have A0:=a45.df (ps:=["_law_tune_here","_law_cell"]) X G0 fun _ _ _ _ _ _ us hl=>bD us hl fun _ _=>rfl
  have A1:=a46.df (ps:=["_law_kind","_law_told_here","_law_tune_here"]) X G0 fun _ _ _ _ _ _ us hl=>eO us hl fun _ _ _=>rfl
  have Jp:=a47.df (ps:=["_law_found","_law_due"]) X G0 fun _ _ _ _ _ _ us hl=>bD us hl fun _ _=>rfl
  have A2:=a48.df (ps:=["_law_script","_law_kind","_law_far"]) X G0 fun _ _ _ _ _ _ us hl=>eO us hl fun _ _ _=>rfl
  have F49:=iU (st:=nZ) l49 c49 k49
  have F50:=iU (st:=cY) Rh c50 Wm
  have uS:kU K Qx "sound" "Tuning.sound" cY ["self","row"]:=⟨_,F50,F50.binds (ps:=["self","row"]) fun _ _ _ _ _ _ us hl=>bD us hl fun _ _=>rfl⟩
  have F51:=iU (st:=bU) IC c51 k51
  have nh:kU K Qz "__init__" "CommaTuning.__init__" bU ["self","commas"]:=⟨_,F51,F51.binds (ps:=["self","commas"]) fun _ _ _ _ _ _ us hl=>bD us hl fun _ _=>rfl⟩
  have F52:=iU (st:=bL) LP c52 Wn
  have lE:kU K QA "sound" "CommaTuning.sound" bL ["self","row"]:=⟨_,F52,F52.binds (ps:=["self","row"]) fun _ _ _ _ _ _ us hl=>bD us hl fun _ _=>rfl⟩
  have F53:=iU (st:=ck) l53 c53 k53
  have qC:kU K Nl "__init__" "KeyTuning.__init__" ck ["self","keys"]:=⟨_,F53,F53.binds (ps:=["self","keys"]) fun _ _ _ _ _ _ us hl=>bD us hl fun _ _=>rfl⟩
  have F54:=iU (st:=b9) l54 c54 Wo
  have oU:kU K QB "sound" "KeyTuning.sound" b9 ["self","row"]:=⟨_,F54,F54.binds (ps:=["self","row"]) fun _ _ _ _ _ _ us hl=>bD us hl fun _ _=>rfl⟩
  have F55:=iU (st:=dG) l55 c55 k55
  have yN:kU K QC "__init__" "Board.__init__" dG ["self","row"]:=⟨_,F55,F55.binds (ps:=["self","row"]) fun _ _ _ _ _ _ us hl=>bD us hl fun _ _=>rfl⟩
  have F56:=iU (st:=di) l56 c56 Wq
  have vV:kU K QD "sound" "Board.sound" di ["self","row"]:=⟨_,F56,F56.binds (ps:=["self","row"]) fun _ _ _ _ _ _ us hl=>bD us hl fun _ _=>rfl⟩
  refine⟨fnOf "law" "law" (cI nZ) (bN nZ) (aq nZ) .none U3 U4 U5 U2 QE U6,fun s v=>.of_eq rfl,fun base _ _ vW vX yO yP vY vZ Ve=>?_⟩
  have yQ:CodeHd base cy (eD K "parted")/\base.BuiltinsAt mg (eD K "parted"):=by rw [xE mS];exact⟨vW,vX⟩
  have A3:CodeHd base cQ (eD K "moved")/\base.BuiltinsAt mg (eD K "moved"):=by rw [xE qf];exact⟨yO,yP⟩
  have yR:CodeHd base cz (eD K "sounds")/\base.BuiltinsAt mg (eD K "sounds"):=by rw [xE mT];exact⟨vY,vZ⟩
  have Y:base.NoSeer/\l.prog.given.tree=none:=⟨Ve,U1⟩
  have CY:=AA (w:=w) CP T Y
  have DQ:=Io (w:=w) L7 T Y
  have QO:=LK (w:=w) QN T Y
  have DR:=Iq (w:=w) L8 T Y
  have qD:=oA (w:=w) qv T Y
  have yS:=vw (w:=w) yG T Y
  have Md:=Iu (w:=w) Mb T Y
  have kB:=rD (w:=w) uQ T Y
  have cB:=uh (w:=w) vT T Y
  have jC:=vy (w:=w) yH T Y
  have dD:=yc (w:=w) AW T Y
  have uT:=rF (w:=w) uR T Y
  have CZ:=AD (w:=w) CS T Y
  have A4:=ye (w:=w) AY T Y
  have jD:=vA (w:=w) yL T Y
  have yT:=vC (w:=w) yM T Y
  have Jq:=E3 (w:=w) Jp T Y
  have uU:=rH (w:=w) uS T Y
  have Jr:=E6 (w:=w) Jl T ⟨CY⟩ Y
  have Me:=IB (w:=w) Mc T ⟨Md⟩ Y
  have yU:=vF (w:=w) yI T ⟨dD⟩ Y
  have A5:=yj (w:=w) AX T ⟨cB,dD⟩ Y
  have yV:=vI (w:=w) yJ T ⟨dD⟩ Y
  have C2:=AG (w:=w) CT T ⟨cB,dD⟩ Y
  have qW:=ym (w:=w) AZ T ⟨CZ,A4⟩ Y
  have v5:=uk (w:=w) vU T ⟨dD⟩ Y
  have qE:=oE (w:=w) qw T ⟨cB,jC,jD⟩ Y
  have qF:=oH (w:=w) qA T ⟨cB,jD⟩ Y
  have qG:=oM (w:=w) qB T ⟨cB,jD⟩ Y
  have A6:=yq (w:=w) A0 T ⟨jC,yT⟩ Y
  have iO:=oQ (w:=w) qC T ⟨kB⟩ Y
  have FF:=Co (w:=w) Fy T ⟨Jr⟩ Y
  have A7:=Fd (w:=w) Jo T ⟨Me,kB⟩ Y
  have C3:=AK (w:=w) CQ T ⟨cB,jC,dD,uT,yU⟩ Y
  have C4:=AN (w:=w) CU T ⟨cB,dD,A5,C2⟩ Y
  have C5:=AS (w:=w) CV T ⟨dD,v5⟩ Y
  have A8:=yv (w:=w) A1 T ⟨qW⟩ Y
  have yW:=vL (w:=w) yN T ⟨iO⟩ Y
  have w8:=Cs (w:=w) Fz T ⟨FF⟩ Y
  have A9:=yy (w:=w) A2 T ⟨cB,C3,C4,C5,qE,qF,qG⟩ Y
  have oV:=mR (w:=w) oU T ⟨A7⟩ Y
  have v7:=uw (w:=w) vV T ⟨A7⟩ Y
  have qH:=Cw (w:=w) FC T ⟨QO,DR⟩ Y
  have Js:=Fi (w:=w) Jn T ⟨DR,qH⟩ Y yQ
  have FG:=CB (w:=w) FE T ⟨yS,qH⟩ Y
  have FH:=CF (w:=w) FD T ⟨qH,Js⟩ Y
  have lF:=kj (w:=w) lE T ⟨FG⟩ Y
  have Mf:=IT (w:=w) Ma T ⟨qD,FH⟩ Y
  have nj:=lD (w:=w) nh T ⟨Mf⟩ Y
  have uV:=rN (w:=w) uP T ⟨w8,DQ,v7,lF,oV,uU⟩ Y
  have v9:=uA (w:=w) vR T ⟨uV⟩ Y
  have yX:=vP (w:=w) yK T ⟨yV,yW,nj,iO⟩ Y
  have w9:=CK (w:=w) FA T ⟨v9⟩ Y
  have Mg:=IX (w:=w) L9 T ⟨w8,DQ,w9⟩ Y A3
  have Jt:=Fm (w:=w) Jm T ⟨w9⟩ Y yR
  have wa:=uD (w:=w) vS T ⟨Jt⟩ Y
  exact Qm F49 T ⟨Mg,wa,cB,qW,yX,A6,A8,Jq,A9⟩ Y
end Law
open PySem PySem.W PyProof.Rows
set_option maxRecDepth 100000 in
theorem PySem.Challenge.cw_tuningyard_k66_whole_heard_alike_by_the_holds : PySem.Challenge.rw_tuningyard_k66_whole_heard_alike_by_the.Holds := by
 w_on;o_law;k_head;(case hw=>w_witness2)
 k_fill
 refine' L2.EK (l:=PySem.Challenge.rw_tuningyard_k66_whole_heard_alike_by_the) (k:=44) (x:="_law_script") (fun K=>tabIn K "parted") Law.Lr "parted.<locals>.<lambda>" (fun K=>tabIn K "moved") Law.M5 "moved.<locals>.<lambda>" (fun K=>tabIn K "sounds") Law.M6 "sounds.<locals>.<lambda>" (by decide +kernel) rfl rfl ⟨rfl,by decide,by decide⟩ ?hY ?ht1 ?ht2 ?ht3 ?hh1 ?hh2 ?hh3 ?hk1 ?hk2 ?hk3 ?hd ?F
 case hY=>exact fun w h Y=>⟨PySem.W.km_in_of Y,km_tabs_of Y _ (.head _),km_tabs_of Y _ (.tail _ (.tail _ (.head _))),km_tabs_of Y _ (.tail _ (.head _))⟩
 case ht1=>exact fun w=>rfl
 case ht2=>exact fun w=>rfl
 case ht3=>exact fun w=>rfl
 case hh1=>intro w;kernel_rfl
 case hk1=>intro w;kernel_rfl
 case hh2=>intro w;kernel_rfl
 case hk2=>intro w;kernel_rfl
 case hh3=>intro w;kernel_rfl
 case hk3=>intro w;kernel_rfl
 case hd=>decide
 case F =>
  intro w mg fa h KX G Sa mS qf mT
  refine' Law.all_mk KX G rfl Sa mS qf mT ?oS ?fN ?ia ?sD ?a0 ?a1 ?a2 ?a3 ?a4 ?a5 ?a6 ?a7 ?a8 ?a9 ?a10 ?l10 ?c10 ?k10 ?a11 ?We ?c11 ?k11 ?a12 ?a13 ?a14 ?a15 ?a16 ?l16 ?c16 ?k16 ?a17 ?a18 ?a19 ?a20 ?a21 ?a22 ?a23 ?a24 ?a25 ?a26 ?a27 ?a28 ?a29 ?a30 ?a31 ?a32 ?a33 ?a34 ?a35 ?a36 ?a37 ?a38 ?a39 ?a40 ?a41 ?a42 ?a43 ?a44 ?a45 ?a46 ?a47 ?a48 ?a49 ?l49 ?c49 ?k49 ?a50 ?Rh ?c50 ?Wm ?i50 ?a51 ?IC ?c51 ?k51 ?i51 ?a52 ?LP ?c52 ?Wn ?i52 ?a53 ?l53 ?c53 ?k53 ?i53 ?a54 ?l54 ?c54 ?Wo ?i54 ?a55 ?l55 ?c55 ?k55 ?i55 ?a56 ?l56 ?c56 ?Wq ?i56 ?qg ?qh ?qi ?qj ?qk ?ql ?qm ?mU ?mV ?mW ?mY ?fX ?gN ?gO ?gP ?gQ ?gR ?gS ?gT ?fY ?fZ ?f6 ?f7 ?eg ?eh ?ju ?jv ?jw ?jx ?jy ?jz ?jA ?iz ?iA ?iB ?iC ?eU ?cM ?cN ?cO ?dU ?uF ?uG ?uH ?uI ?uJ ?uK ?uL ?qo ?qp ?qr ?qu ?gU ?ft ?f9 ?Jb ?Jc ?uM ?uN ?iD ?kr ?yD ?Jd ?Je ?CN ?kx ?Jf ?jB ?Jg ?CO ?Jh ?yE ?mZ ?uO ?Ji ?Jj ?yF ?Jk
  case oS|fN|ia|sD=>k_is
  case a0|a1|a2|a3|a4|a5|a6|a7|a8|a9=>refine' L2.B1 ?a ?l ?c ?k;case a|l|c|k=>k_is
  case a10|l10|c10|k10|a11|We|c11|k11=>k_is
  case a12|a13|a14|a15=>refine' L2.B1 ?a ?l ?c ?k;case a|l|c|k=>k_is
  case a16|l16|c16|k16=>k_is
  case a17|a18|a19|a20|a21|a22|a23|a24|a25|a26|a27|a28|a29|a30|a31|a32|a33|a34|a35|a36|a37|a38|a39|a40|a41|a42|a43|a44|a45|a46|a47|a48=>refine' L2.B1 ?a ?l ?c ?k;case a|l|c|k=>k_is
  case a49|l49|c49|k49|a50|Rh|c50|Wm|i50|a51|IC|c51|k51|i51|a52|LP|c52|Wn|i52|a53|l53|c53|k53|i53|a54|l54|c54|Wo|i54|a55|l55|c55|k55|i55|a56|l56|c56|Wq|i56|qg|qh|qi|qj|qk|ql|qm|mU|mV|mW|mY|fX|gN|gO|gP|gQ|gR|gS|gT|fY|fZ|f6|f7|eg|eh|ju|jv|jw|jx|jy|jz|jA|iz|iA|iB|iC|eU|cM|cN|cO|dU|uF|uG|uH|uI|uJ|uK|uL|qo|qp|qr|qu|gU|ft|f9|Jb|Jc|uM|uN|iD|kr|yD|Jd|Je|CN|kx|Jf|jB|Jg|CO|Jh|yE|mZ|uO|Ji|Jj|yF|Jk=>k_is
