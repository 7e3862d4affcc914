import PyProof.Rows.All
import Wide.All
import OpenK.AllK
import Wide.FinOn
import Lean
import PyProof.EqAt
import PyProof.EqKinds
import PyProof.TupleCall
import PyProof.CompMap
import PyProof.ZipIter
import PyProof.TupleIter
import PyProof.ExcAttrAll.ValueError
import KE.KSortKey
import KE.KRevIter
import KE.KLam
import KE.KNestM
import PyProof.Rows.Range3
import PyProof.EnumMake
import PyProof.JoinWalk
import PyProof.Rows.StrSplitJoin
import PyProof.Rows.StrWeight2
import PyProof.StrOps2
import KE.KSortTup
import KE.KMinKey
import PyProof.FactsAll.range_2
import PyProof.ListRange
import PyProof.Rows.StrCountLaw
import PyProof.Rows.SetFrom
import PyProof.Rows.FactsT2
import PyProof.StrLawsTight
import PyProof.StrLawsChain
import PyProof.Rows.StrItems
import KE.KIntText
import PyProof.StrLawsFirst
import PyProof.StrBlockL
import PyProof.Rows.StrNews2
import PyProof.StrWalks
import PySem.Challenge.RW_tuningyard_k64_bad_bars_and_notes
set_option Elab.async false
set_option linter.all false
set_option maxRecDepth 100000
noncomputable section
open PySem.W (CodeHd Frag OpenLaw callWith_K clsIn excIn findIn instObj kIn_of kitx_dict kitx_list kitx_tuple methodObj mg_none_of mg_of mroIn plainGet specialIn subIn tabIn takesIn typeIn)
open PyProof.Rows (boot_abs boot_all boot_bool boot_int boot_isinstance boot_list boot_str boot_sum boot_tuple callWith_type1 split_pos)
open List (all_cons all_eq_true all_map any_cons append_assoc append_nil cons_append cons_ne_nil contains_cons drop_of_length_le drop_zero ext_getElem find?_cons flatten_cons forIn_cons forIn_nil getElem?_drop getElem?_eq_getElem getElem?_map getElem_mem length_append length_cons length_drop length_map length_nil length_replicate length_take lookup_cons map_append map_cons map_map map_nil map_take mem_append mem_append_left mem_append_right mem_cons mem_cons_of_mem mem_cons_self mem_filter mem_map mem_of_getElem? mem_of_mem_take mem_range mem_singleton nodup_cons not_mem_nil of_mem_zip pairwise_cons replicate_succ size_toArray sum_append sum_cons sum_singleton take_length take_of_length_le take_zero toList_toArray)
open Nat (div_le_self div_mul_cancel div_pos gcd_comm gcd_dvd_left gcd_dvd_right le_of_ble_eq_true le_of_dvd log2_lt lt_of_le_of_lt lt_or_ge min_eq_left min_eq_right min_le_right mod_lt mul_add mul_assoc mul_le_mul mul_pos ne_of_lt sub_zero zero_le)
open Int (emod_lt_of_pos emod_nonneg toNat_natCast)
section
open PySem PySem.Spec PyProof.Rows
abbrev aab:=@Heap.get?_push_of_some
abbrev aac:=@wpAny_bind
abbrev aad:=@List.getElem?_eq_some_iff
abbrev aae:=@Heap.lt_size
abbrev aaf:=@Heap.get?_push_size
abbrev aag:=@Nat.pow_le_pow_right
abbrev aah:=@Nat.le_trans
abbrev aai:=@Nat.le_refl
abbrev aaj:=@Nat.le_of_lt
abbrev aak:=@Nat.mul_le_mul_right
abbrev aal:=@List.getElem?_append_left
abbrev aam:=@List.getElem?_append_right
abbrev aan:=@List.map_congr_left
abbrev aao:=@Option.some.inj
abbrev aap:=@of_decide_eq_true
abbrev aaq:=@of_decide_eq_false
abbrev aar:=@decide_eq_false
abbrev aas:=@decide_eq_true
abbrev aat:=@Option.isSome_iff_exists
abbrev aau:=@wpAny_pure
abbrev aav:=@wpAny_mono
abbrev aaw:=@Int.fdiv_eq_ediv_of_nonneg
abbrev aax:=@getElem?_eq_getElem
abbrev aay:=@mem_append_right
abbrev aaz:=@mem_append_left
abbrev aaA:=@mem_singleton
abbrev aaB:=@mem_append
abbrev aaC:=@mem_of_getElem?
abbrev aaD:=@length_map
abbrev aaE:=@length_append
abbrev aaF:=@mem_cons_of_mem
abbrev aaG:=@mem_cons
abbrev aaH:=@mem_map
abbrev aaI:=@mem_filter
abbrev aaJ:=@lt_of_le_of_lt
abbrev aaK:=@mul_le_mul
abbrev aaL:=@mem_range
abbrev aaM:=@take_length
abbrev aaN:=@length_take
abbrev aaO:=@size_toArray
abbrev aaP:=@getElem?_map
abbrev aaQ:=@map_append
abbrev aaR:=@map_map
abbrev aaS:=@take_of_length_le
abbrev aaT:=@zero_le
abbrev aaU:=@ne_of_lt
abbrev aaV:=@le_of_ble_eq_true
abbrev aaW:=@pairwise_cons
abbrev aaX:=@mem_of_mem_take
abbrev aaY:=@getElem_mem
abbrev aaZ:=@toNat_natCast
end
abbrev Ci (l:List PySem.Str):=List.Nodup l
namespace L2
open PySem PySem.Spec PyProof.Rows
abbrev Key:=Sum Int Str
def vp:Key->Value->Bool
 | .inl k,v=>Value.isInt k v
 | .inr x,v=>Value.isStrOf x v
def U0(w:World):Key->Int
 | .inl k=>hashInt k
 | .inr x=>hashStr w x
theorem bZ:∀ {k:Key} {v:Value},vp k v=true->(∃ i t,k=Sum.inl i/\v=Value.int i t)\/(∃ x t,k=Sum.inr x/\v=Value.str x t)
 | .inl i,v,h=>by
  obtain ⟨t,e⟩:=Value.isInt_shape (k:=i) (v:=v) h
  exact .inl ⟨i,t,rfl,e⟩
 | .inr x,v,h=>by
  obtain ⟨t,e⟩:=Value.isStrOf_shape (x:=x) (v:=v) h
  exact .inr ⟨x,t,rfl,e⟩
theorem Ed(i:Int)(t:Tok):vp (.inl i) (.int i t)=true:=by simp [vp,Value.isInt]
theorem nu(x:Str)(t:Tok):vp (.inr x) (.str x t)=true:=by simp [vp,Value.isStrOf]
theorem Nw(a b:Int):decide ((Sum.inl a:Key)=Sum.inl b)=(a == b):=by
 by_cases e:a=b
 ·subst e;simp
 ·have h:¬ (Sum.inl a:Key)=Sum.inl b:=fun q=>e (Sum.inl.inj q)
  rw [aar h]
  exact (beq_eq_false_iff_ne.mpr e).symm
theorem Nx(a b:Str):decide ((Sum.inr a:Key)=Sum.inr b)=decide (a=b):=by
 by_cases e:a=b
 ·subst e;simp
 ·have h:¬ (Sum.inr a:Key)=Sum.inr b:=fun q=>e (Sum.inr.inj q)
  rw [aar h,aar e]
theorem Ny(a:Int)(b:Str):decide ((Sum.inl a:Key)=Sum.inr b)=false:=aar (fun q=>nomatch q)
theorem Nz(a:Str)(b:Int):decide ((Sum.inr a:Key)=Sum.inl b)=false:=aar (fun q=>nomatch q)
def bQ(prog:Program)(w:World):PySem.KeyKind prog w Key where
 is:=vp
 hash:=U0 w
 inj:=fun v a b ha hb=>by
  rcases bZ ha with ⟨i,t,rfl,rfl⟩|⟨x,t,rfl,rfl⟩
  ·rcases bZ hb with ⟨j,u,rfl,e⟩|⟨y,u,rfl,e⟩
   ·injection e with e1 _;rw [e1]
   ·exact nomatch e
  ·rcases bZ hb with ⟨j,u,rfl,e⟩|⟨y,u,rfl,e⟩
   ·exact nomatch e
   ·injection e with e1 _;rw [e1]
 byValue:=fun k v h=>by
  rcases bZ h with ⟨i,t,rfl,rfl⟩|⟨x,t,rfl,rfl⟩ <;> rfl
 pyHash:=fun hv h=>by
  rcases bZ hv with ⟨i,t,rfl,rfl⟩|⟨x,t,rfl,rfl⟩
  ·exact wpAny_pyHash_int h
  ·exact wpAny_pyHash_str h
 eqBool:=fun hu hv h=>by
  rcases bZ hu with ⟨i,t,rfl,rfl⟩|⟨x,t,rfl,rfl⟩
  ·rcases bZ hv with ⟨j,u,rfl,rfl⟩|⟨y,u,rfl,rfl⟩
   ·rw [Nw] at h;exact wpAny_eqBool_int h
   ·rw [Ny] at h;exact SeqAt.EqAt.int_str i t y u _ _ _ _ h
  ·rcases bZ hv with ⟨j,u,rfl,rfl⟩|⟨y,u,rfl,rfl⟩
   ·rw [Nz] at h;exact SeqAt.EqAt.str_int x t j u _ _ _ _ h
   ·rw [Nx] at h;exact wpAny_eqBool_str h
 «strs»:=fun k x t v h=>by
  rcases bZ h with ⟨i,u,rfl,e⟩|⟨y,u,rfl,e⟩
  ·exact nomatch e
  ·injection e with e1 _
   subst e1
   cases v <;> rfl
theorem y1(prog:Program)(w:World)(i:Int)(t:Tok):(bQ prog w).is (.inl i) (.int i t)=true:=Ed i t
theorem y2(prog:Program)(w:World)(x:Str)(t:Tok):(bQ prog w).is (.inr x) (.str x t)=true:=nu x t
inductive V where
 | dt|bl (b:Bool)|int (i:Int)|str (x:Str)|F5 (b:Array UInt8)|NA (b:UInt64)|ref (a:Addr)|ty (n:String)
 deriving DecidableEq
def RelV:V->Value->Prop
 | .dt,u=>u=Value.none
 | .bl b,u=>u=Value.bool b
 | .int i,u=>∃ t,u=Value.int i t
 | .str x,u=>∃ t,u=Value.str x t
 | .F5 b,u=>∃ t,u=Value.bytes b t
 | .NA b,u=>∃ t,u=Value.float b t
 | .ref a,u=>u=Value.ref a
 | .ty n,u=>u=Value.type n
abbrev Vals:List V->List Value->Prop:=Paired RelV
theorem Vals.length{xs:List V}{us:List Value}(r:Vals xs us):xs.length=us.length:=Paired.length r
theorem Vals.get:∀ {xs:List V} {us:List Value} {i:Nat} {x:V},Vals xs us->xs[i]?=some x->∃ u,us[i]?=some u/\RelV x u
 | _,_,_,_,.nil,e=>by simp at e
 | _,_,0,_,.cons r _,e=>by simp at e;subst e;exact⟨_,rfl,r⟩
 | _,_,i+1,x,.cons _ t,e=>by
  obtain ⟨u,h1,h2⟩:=Vals.get (i:=i) (x:=x) t (by simpa using e)
  exact⟨u,by simpa using h1,h2⟩
theorem Vals.set{x:V}{u:Value}(r:RelV x u):∀ {xs:List V} {us:List Value} (i:Nat),Vals xs us->Vals (xs.set i x) (us.set i u)
 | _,_,_,.nil=>.nil
 | _,_,0,.cons _ t=>.cons r t
 | _,_,i+1,.cons q t=>.cons q (Vals.set r i t)
theorem Vals.append:∀ {xs ys:List V} {us ws:List Value},Vals xs us->Vals ys ws->Vals (xs++ys) (us++ws)
 | _,_,_,_,.nil,s=>s
 | _,_,_,_,.cons r t,s=>.cons r (Vals.append t s)
theorem Vals.take:∀ {xs:List V} {us:List Value} (n:Nat),Vals xs us->Vals (xs.take n) (us.take n)
 | _,_,0,_=>.nil
 | _,_,_+1,.nil=>.nil
 | _,_,n+1,.cons r t=>.cons r (Vals.take n t)
theorem Vals.drop:∀ {xs:List V} {us:List Value} (n:Nat),Vals xs us->Vals (xs.drop n) (us.drop n)
 | _,_,0,r=>r
 | _,_,_+1,.nil=>.nil
 | _,_,n+1,.cons _ t=>Vals.drop n t
def ik:Option V->Option Value->Prop
 | some v,some u=>RelV v u
 | none,none=>True
 | _,_=>False
def KV{κ:Type}:List (κ×V)->List (κ×Value)->Prop:=Paired fun (p:κ×V) (q:κ×Value)=>p.1=q.1/\RelV p.2 q.2
def kV:Key->V
 | .inl i=>.int i
 | .inr x=>.str x
inductive HO where
 /-- a list -/
 | lst (xs:List V)
 /-- a tuple (never changes) -/
 | tup (xs:List V)
 /-- a dict QT keys are ints and texts;one QT keys are tuples of ints and texts (Qr empty one is both) -/
 | dK (aC:List (Key×V))|dT (aC:List (List Key×V))
 /-- a set of ints: its members,its size -/
 | set (S:Int->Bool) (n:Nat)
 /-- an instance of Qr class at C,its dict at dx,its attributes -/
 | ins (C dx:Addr) (fs:List (Str×V))
 /-- Qr dict of Qr instance at x -/
 | own (x:Addr)
 /-- Qr dict of an exception -/
 | xd (fs:List (Str×V))
 /-- a bound method,f of x -/
 | met (f x:Addr)
 /-- a range object lo,lo+1,.. below hi -/
 | Uw (lo hi:Int)
 /-- a QU Zi is known to Qr object (Qr U1;a dict while a loop walks it): read,never written while it is so -/
 | y3 (o:Obj) (u:HO)
 /-- a code QV table -/
 | J9 (ps:Array Value)
 /-- any other QU,by Zj is true of its one object (a def of XB own: Zk a S n:=HO.ext fun h=>..) -/
 | ext (φ:Heap->Prop)
abbrev Hp:=Addr->Option HO
def upd(H:Hp)(a:Addr)(o:HO):Hp:=fun b=>if b=a then some o else H b
theorem ao{H:Hp}{a:Addr}{o:HO}:upd H a o a=some o:=by unfold upd;rw [if_pos rfl]
theorem ar{H:Hp}{a b:Addr}{o:HO}(h:b≠a):upd H a o b=H b:=by unfold upd;rw [if_neg h]
theorem Kr{H:Hp}{a:Addr}{o u:HO}:upd (upd H a o) a u=upd H a u:=by
 funext b;unfold upd;split <;> rfl
theorem QW{H:Hp}{a b:Addr}{o u:HO}(h:H a=some o)(h':H b=some u)(d:o≠u):a≠b:=by
 intro e;subst e;rw [h] at h';exact d (aao h')
theorem aN{H:Hp}{a b:Addr}{o:HO}(h:H a=some o)(h':H b=none):a≠b:=by
 intro e;subst e;rw [h] at h';cases h'
section
variable (P:Program)(w:World)
def bJ(H:Hp)(h:Heap)(a:Addr):HO->Prop
 | .lst xs=>xs.length<=sizeLine/\∃ (its:List Value) (n:Nat),Vals xs its/\h.get? a=some { cls:=.type "list",data:=.seq its.toArray n }
 | .tup xs=>xs.length<=sizeLine/\∃ its:List Value,Vals xs its/\IsTup h a its.toArray
 | .dK aC=>aC.length<=sizeLine/\(a == sysModules)=false/\∃ vs,KV aC vs/\h.DictOf (bQ P w) a vs
 | .dT aC=>aC.length<=sizeLine/\(a == sysModules)=false/\∃ xs:List (List Key×Addr×Value),
   Paired (fun (p:List Key×V) (q:List Key×Addr×Value)=>p.1=q.1/\H q.2.1=some (.tup (p.1.map kV))/\RelV p.2 q.2.2) aC xs /\
   ∃ o es ep,h.get? a=some o/\o.ExactDict/\o.data=.dict es ep/\es.toList=xs.map (entryOfKey (tupleKind (bQ P w)))/\(xs.map (·.1)).Nodup
 | .set S n=>h.SetOf (intKind P w) a S n
 | .ins C dx fs=>H dx=some (.own a)/\fs.length<=1000/\dx≠a/\h.get? a=some (instObj C dx) /\
   ∃ mA,h.Ns1 dx mA/\(∀ f,ik (fs.lookup f) (mA f))/\PySem.Within mA (fs.map (·.1))
 | .own _=>∃ o,h.get? a=some o
 | .xd fs=>∃ mA,h.Ns1 a mA/\∀ f,ik (fs.lookup f) (mA f)
 | .Uw lo hi=>∃ t u v,h.get? a=some { cls:=.type "range",data:=.fields #[.int lo t,.int hi u,.int 1 v] }
 | .y3 o u=>h.get? a=some o/\bJ H h a u
 | .J9 ps=>h.get? a=some { cls:=.none,data:=.fields ps }
 | .met f x=>h.get? a=some (methodObj (.ref f) (.ref x))
 | .ext φ=>φ h/\(∃ o,h.get? a=some o)/\∀ h1 h2:Heap,φ h1->(∀ o,h1.get? a=some o->h2.get? a=some o)->φ h2
def eQ(H:Hp)(h:Heap):Prop:=∀ a o,H a=some o->bJ P w H h a o
end
section
variable {P:Program}{w:World}{H H':Hp}{h h':Heap}{a:Addr}{o:HO}
theorem bJ.lt(x:bJ P w H h a o):a<h.objs.size:=by
 cases o with
 | lst xs=>obtain ⟨_,_,_,_,e⟩:=x;exact aae e
 | tup xs=>obtain ⟨_,_,_,p⟩:=x;exact p.lt
 | dK aC=>obtain ⟨_,_,_,_,o,_,_,e,_⟩:=x;exact aae e
 | dT aC=>obtain ⟨_,_,_,_,o,_,_,e,_⟩:=x;exact aae e
 | set S n=>obtain ⟨o,_,_,_,e,_⟩:=x;exact aae e
 | ins C dx fs=>obtain ⟨_,_,_,e,_⟩:=x;exact aae e
 | own y=>obtain ⟨_,e⟩:=x;exact aae e
 | xd fs=>obtain ⟨_,⟨_,_,_,e,_⟩,_⟩:=x;exact aae e
 | Uw lo hi=>obtain ⟨_,_,_,e⟩:=x;exact aae e
 | y3 ob u=>obtain ⟨e,_⟩:=x;exact aae e
 | J9 ps=>exact aae (show h.get? a=some _ from x)
 | met f y=>exact aae (show h.get? a=some _ from x)
 | ext φ=>obtain ⟨_,⟨_,e⟩,_⟩:=x;exact aae e
theorem Paired.NB{α β:Type}{F G:α->β->Prop}:∀ {l₁:List α} {l₂:List β},Paired F l₁ l₂->(∀ a b,F a b->G a b)->Paired G l₁ l₂
 | _,_,.nil,_=>.nil
 | _,_,.cons r t,f=>.cons (f _ _ r) (Paired.NB t f)
theorem bJ.l8(x:bJ P w H h a o)(k:∀ b u,(b=a\/H b=some (.own a))->h.get? b=some u->h'.get? b=some u)
  (ho:∀ b,H b=some (.own a)->H' b=some (.own a)) (ht:∀ b xs,H b=some (.tup xs)->H' b=some (.tup xs)):bJ P w H' h' a o:=by
 induction o with
 | lst xs=>obtain ⟨z,its,n,r,e⟩:=x;exact⟨z,its,n,r,k _ _ (.inl rfl) e⟩
 | tup xs=>obtain ⟨z,its,r,ob,e,c⟩:=x;exact⟨z,its,r,ob,k _ _ (.inl rfl) e,c⟩
 | dK aC=>obtain ⟨z,y,vs,r,ob,es,ep,e,c⟩:=x;exact⟨z,y,vs,r,ob,es,ep,k _ _ (.inl rfl) e,c⟩
 | dT aC =>
  obtain ⟨z,y,xs,r,ob,es,ep,e,c⟩:=x
  exact⟨z,y,xs,Paired.NB r fun p q z=>⟨z.1,ht _ _ z.2.1,z.2.2⟩,ob,es,ep,k _ _ (.inl rfl) e,c⟩
 | set S n=>obtain ⟨ob,es,ep,t,e,c⟩:=x;exact⟨ob,es,ep,t,k _ _ (.inl rfl) e,c⟩
 | ins C dx fs =>
  obtain ⟨d,z,ne,e,mA,⟨od,es,ep,e2,c⟩,r⟩:=x
  exact⟨ho _ d,z,ne,k _ _ (.inl rfl) e,mA,⟨od,es,ep,k _ _ (.inr d) e2,c⟩,r⟩
 | own y=>obtain ⟨ob,e⟩:=x;exact⟨ob,k _ _ (.inl rfl) e⟩
 | xd fs=>obtain ⟨mA,⟨od,es,ep,e,c⟩,r⟩:=x;exact⟨mA,⟨od,es,ep,k _ _ (.inl rfl) e,c⟩,r⟩
 | Uw lo hi=>obtain ⟨t,u,v,e⟩:=x;exact⟨t,u,v,k _ _ (.inl rfl) e⟩
 | y3 ob u ih=>obtain ⟨e,q⟩:=x;exact⟨k _ _ (.inl rfl) e,ih q⟩
 | J9 ps =>
  have e:h.get? a=some { cls:=.none,data:=.fields ps }:=x
  show h'.get? a=some { cls:=.none,data:=.fields ps }
  exact k a _ (.inl rfl) e
 | met f y =>
  have e:h.get? a=some (methodObj (.ref f) (.ref y)):=x
  show h'.get? a=some (methodObj (.ref f) (.ref y))
  exact k a _ (.inl rfl) e
 | ext φ=>obtain ⟨p,⟨o,e⟩,st⟩:=x;exact⟨st _ _ p fun o q=>k _ _ (.inl rfl) q,⟨o,k _ _ (.inl rfl) e⟩,st⟩
theorem eQ.lt(x:eQ P w H h)(e:H a=some o):a<h.objs.size:=(x a o e).lt
theorem eQ.fresh(x:eQ P w H h)(e:h.objs.size<=a):H a=none:=by
 cases q:H a with
 | none=>rfl
 | some u=>exact absurd (Nat.lt_of_lt_of_le (x.lt q) e) (Nat.lt_irrefl _)
theorem eQ.kept(x:eQ P w H h)(k:∀ b u,h.get? b=some u->h'.get? b=some u):eQ P w H h':=fun a o e =>
 (x a o e).l8 (fun b u _ q=>k b u q) (fun _ q=>q) fun _ _ q=>q
theorem eQ.laid(x:eQ P w H h)(k:∀ b u,h.get? b=some u->h'.get? b=some u)(hp:h.objs.size<=a)(new:bJ P w (upd H a o) h' a o):eQ P w (upd H a o) h':=fun b u e=>by
 have hn:=x.fresh hp
 by_cases hb:b=a
 ·subst hb;rw [ao] at e;cases e;exact new
 ·rw [ar hb] at e
  exact (x b u e).l8 (fun c v _ q=>k c v q) (fun c q=>by rw [ar (aN q hn)];exact q) fun c xs q=>by rw [ar (aN q hn)];exact q
end
def Rd(H:Hp)(a:Addr)(u:HO):Prop:=H a=some u\/∃ o,H a=some (.y3 o u)
theorem Rd.ok{P:Program}{w:World}{H:Hp}{h:Heap}{a:Addr}{u:HO}(r:Rd H a u)(x:eQ P w H h):bJ P w H h a u:=by
 rcases r with r|⟨o,r⟩
 ·exact x a u r
 ·obtain ⟨_,q⟩:=x a _ r
  exact q
def QX:Option HO->Prop
 | some (.lst _)=>True
 | some (.dK _)=>True
 | some (.dT _)=>True
 | some (.set _ _)=>True
 | some (.ins _ _ _)=>True
 | some (.ext _)=>True
 | _=>False
section
variable {P:Program}{w:World}{H:Hp}{h h':Heap}{x e:Addr}{o':HO}
theorem eQ.write(ok:eQ P w H h)(mu:QX (H x))(he:e=x\/H e=some (.own x))(k:∀ b u,b≠e->h.get? b=some u->h'.get? b=some u)(Qs:∃ u,h'.get? e=some u)
  (new:bJ P w (upd H x o') h' x o'):eQ P w (upd H x o') h':=fun b u q=>by
 have QY:∀ c y,H c=some (.own y)->c≠x:=fun c y r z=>by subst z;rw [r] at mu;exact mu
 have U2:∀ c xs,H c=some (.tup xs)->c≠x:=fun c xs r z=>by subst z;rw [r] at mu;exact mu
 by_cases hb:b=x
 ·subst hb;rw [ao] at q;cases q;exact new
 ·rw [ar hb] at q
  by_cases v9:b=e
  ·have q':H b=some (.own x):=by
    rcases he with z|z
    ·exact absurd (v9.trans z) hb
    ·rw [v9];exact z
   rw [q] at q';cases q'
   obtain ⟨v,hv⟩:=Qs
   exact⟨v,by rw [v9];exact hv⟩
  ·refine (ok b u q).l8 (fun c v hc r=>k c v ?_ r) (fun c r=>by rw [ar (QY c b r)];exact r) fun c xs r=>by rw [ar (U2 c xs r)];exact r
   rcases hc with rfl|hc
   ·exact v9
   ·rintro rfl
    rcases he with z|z
    ·exact QY c b hc z
    ·rw [hc] at z;cases z;exact hb rfl
end
structure Un(fs ex:List Addr)(H H':Hp)(h h':Heap):Prop where
 keep:∀ b o,h.get? b=some o->H b=none->b∉fs->b∉ex->h'.get? b=some o
 slot:∀ b o,h.get? b=some o->H b=none->b∈fs->b∉ex->∃ sl,h'.get? b=some { o with slots:=sl }
 free:∀ b o,h.get? b=some o->H b=none->b∉ex->H' b=none
 there:∀ b o,h.get? b=some o->b∉ex->∃ o',h'.get? b=some o'
 jn:∀ b xs,H b=some (.tup xs)->H' b=some (.tup xs)
 je:∀ b o u,H b=some (.y3 o u)->H' b=some (.y3 o u)
 jo:∀ b ps,H b=some (.J9 ps)->∃ more,H' b=some (.J9 (ps++more))
section
variable {fs Zl ex ex':List Addr}{H H1 H2:Hp}{h h1 h2 h':Heap}{a x e:Addr}{o:HO}
theorem Un.any(u:Un fs ex H H1 h h1){b:Addr}{ob:Obj}(q:h.get? b=some ob)(n:H b=none)(hx:b∉ex):∃ sl,h1.get? b=some { ob with slots:=sl }:=by
 by_cases hb:b∈fs
 ·exact u.slot b ob q n hb hx
 ·exact⟨ob.slots,u.keep b ob q n hb hx⟩
theorem Un.kept(k:∀ b u,h.get? b=some u->h'.get? b=some u):Un fs ex H H h h' :=
 ⟨fun b ob q _ _ _=>k b ob q,fun b ob q _ _ _=>⟨ob.slots,k b ob q⟩,fun _ _ _ n _=>n,fun b ob q _=>⟨ob,k b ob q⟩,fun _ _ q=>q,fun _ _ _ q=>q,fun _ ps q=>⟨#[],by rw [q];simp⟩⟩
theorem Un.refl:Un fs ex H H h h:=Un.kept fun _ _ q=>q
theorem Un.laid(k:∀ b u,h.get? b=some u->h'.get? b=some u)(hp:h.objs.size<=a)(hn:H a=none):Un fs ex H (upd H a o) h h' where
 keep:=fun b u q _ _ _=>k b u q
 slot:=fun b u q _ _ _=>⟨u.slots,k b u q⟩
 free:=fun b u q n _=>by rw [ar (aaU (Nat.lt_of_lt_of_le (aae q) hp))];exact n
 there:=fun b u q _=>⟨u,k b u q⟩
 jn:=fun b xs q=>by rw [ar (aN q hn)];exact q
 je:=fun b u xs q=>by rw [ar (aN q hn)];exact q
 jo:=fun b ps q=>⟨#[],by rw [ar (aN q hn),q];simp⟩
theorem Un.write(mu:QX (H x))(he:e=x\/H e=some (.own x))(k:∀ b u,b≠e->h.get? b=some u->h'.get? b=some u)(Qs:∃ u,h'.get? e=some u):Un fs ex H (upd H x o) h h':=by
 have hx:∀ b,H b=none->b≠x:=fun b n z=>by subst z;rw [n] at mu;exact mu
 have hb:∀ b,H b=none->b≠e:=fun b n z=>by
  subst z
  rcases he with r|r
  ·exact hx b n r
  ·rw [n] at r;cases r
 have hm:∀ b u,H b=some u->¬ QX (some u)->b≠x:=fun b u q nm z=>by subst z;rw [q] at mu;exact nm mu
 refine⟨fun b u q n _ _=>k b u (hb b n) q,fun b u q n _ _=>⟨u.slots,k b u (hb b n) q⟩,fun b u q n _=>by rw [ar (hx b n)];exact n,fun b u q _=>?_,
  fun b xs q=>by rw [ar (hm b _ q fun z=>z)];exact q,fun b u xs q=>by rw [ar (hm b _ q fun z=>z)];exact q,fun b ps q=>⟨#[],by rw [ar (hm b _ q fun z=>z),q];simp⟩⟩
 by_cases v9:b=e
 ·subst v9;exact Qs
 ·exact⟨u,k b u v9 q⟩
end
def Ux(h:Heap)(H:Hp):List Addr:=(List.range h.objs.size).filter fun a=>(H a).isSome
def wa(h:Heap)(H:Hp):Heap:=PySem.W.hideAll h (Ux h H)
theorem Ee(h:Heap)(H:Hp):(wa h H).objs.size=h.objs.size:=PySem.W.hideAll_size _ _
theorem Gj{h:Heap}{H:Hp}{b:Addr}{o:Obj}(e:h.get? b=some o)(n:H b=none):(wa h H).get? b=some o :=
 PySem.W.hideAll_get _ e fun hm=>by
  have q:(H b).isSome=true:=(aaI.mp hm).2
  rw [n] at q;simp at q
theorem Ks{h:Heap}{H:Hp}{b:Addr}{o:Obj}(e:(wa h H).get? b=some o):h.get? b=some o/\H b=none:=by
 have e':h.get? b=some o:=PySem.W.of_hideAll (Ux h H) e
 refine⟨e',?_⟩
 cases q:H b with
 | none=>rfl
 | some x =>
  have hm:b∈Ux h H:=aaI.mpr ⟨aaL.mpr (aae e'),by simp [q]⟩
  have z:(wa h H).get? b=none:=PySem.W.hideAll_none (Ux h H) hm
  rw [z] at e;cases e
def Kt(g h:Heap)(L:Addr):List (Addr×Obj):=(List.range h.objs.size).filterMap fun a=>if a=L\/(g.get? a).isSome=true then none else (h.get? a).map fun o=>(a,o)
def rest(g h:Heap)(L d:Addr):List (Addr×Obj):=(Kt g h L).filter fun p=>decide (p.1≠d)
structure Mod(K:Frag)(mg:Str->Option Value)(base:Heap):Prop where
 F6:K.In base
 glob:base.Ns mainGlobals mg
 blt:∃ mb,base.Ns builtinsNs mb/\∀ x:Str,x≠"__name__"->mb x=bootBuiltins x
 nolimit:base.NoLimit
structure Cx where
 prog:Program
 w:World
 K:Frag
 mg:Str->Option Value
 base:Heap
 A:Around
 N:List Str
 s₀:Shared
 H₀:Hp
 env:Env
 outer:List Env
 stack:List Env
 ex:List Addr
 fn:Str->Bool
 calm:Bool
 pn:List (Addr×Obj)
 xe:Value->Shared->Prop
def j2(l:List Env):List Addr:=l.filterMap (·.frame)
abbrev Cx.fs(X:Cx):List Addr:=j2 X.outer
def QZ(sc:Scope)(x:Str):Prop:=sc.names.lookup x=some .local\/sc.names.lookup x=some .cell\/sc.names.lookup x=some .free
def Loc(sc:Scope)(x:Str):Prop:=sc.names.lookup x=some .local\/sc.names.lookup x=some .cell
def Look(env:Env)(h:Heap)(m:Str->Option Value)(x:Str)(u:Value):Prop :=
 (env.kindOf x=some .local/\m x=some u)\/((env.kindOf x=some .cell\/env.kindOf x=some .free)/\∃ c,env.cells.lookup x=some c/\h.IsCell c (some u))
structure Cx.Ok(X:Cx):Prop where
 mod:Mod X.K X.mg X.base
 kind:X.env.scope.kind=.function
 glob:X.env.globals=mainGlobals
 blt:X.env.builtins=builtinsNs
 above:X.s₀.heap.objs.size<=X.env.locals
 inj:∀ x y c,X.env.cells.lookup x=some c->X.env.cells.lookup y=some c->x=y
 has:∀ x,(X.env.kindOf x=some .cell\/X.env.kindOf x=some .free)->∃ c,X.env.cells.lookup x=some c
 Ka:∀ x c,X.fn x=true->X.env.cells.lookup x=some c->X.s₀.heap.objs.size<=c
 hd:X.calm=true->X.A.handled=none
 frames:X.A.frames=some X.stack
 Ku:X.stack=X.outer\/(X.stack=X.env::X.outer/\X.env.frame=some X.env.locals)
 NC:∀ b∈X.ex,b≠X.env.locals/\∀ x c,X.env.cells.lookup x=some c->c≠b
 bs:∀ b o,X.base.get? b=some o->X.s₀.heap.get? b=some o/\X.H₀ b=none
 wb:X.base.objs.size<=X.s₀.heap.objs.size
 qp:∀ b o,X.base.get? b=some o->b∉X.ex
 wc:∀ b∈X.ex,b∉X.fs
 iC:X.s₀.heap.FunFrames X.base X.outer
 Ef:∀ b∈X.fs,X.H₀ b=none
structure Inv(X:Cx)(pins:List (Addr×Obj))(σ:List (Option V))(H:Hp)(s:Shared):Prop where
 ok:X.Ok
 os:s.os=X.s₀.os
 bare:AllBare s.gens
 base:Un X.fs X.ex X.H₀ H X.s₀.heap s.heap
 loc:∃ m,s.heap.Ns X.env.locals m/\∀ (i:Nat) (x:Str) (v:V),X.N[i]?=some x->σ[i]?=some (some v)->QZ X.env.scope x->∃ u,RelV v u/\Look X.env s.heap m x u
 cell:∀ x c,X.env.cells.lookup x=some c->∃ v,s.heap.IsCell c v
 free:H X.env.locals=none
 d0:∀ x c,X.env.cells.lookup x=some c->H c=none
 pin:∀ p∈X.pn++pins,s.heap.get? p.1=some p.2/\H p.1=none/\p.1≠X.env.locals/\p.1∉X.fs/\∀ v,p.2.data≠.cell v
 aR:eQ X.prog X.w H s.heap
 len:σ.length=X.N.length
section
variable {X:Cx}{pins:List (Addr×Obj)}{σ:List (Option V)}{H H':Hp}{s:Shared}{h':Heap}
theorem Cx.Ok.U3(ok:X.Ok){b:Addr}{o:Obj}(e:X.base.get? b=some o):b∉X.fs:=fun hb=>by
 have:=(ok.iC.mem hb).1
 rw [e] at this;cases this
theorem Inv.bs(I:Inv X pins σ H s):∀ b o,X.base.get? b=some o->s.heap.get? b=some o/\H b=none:=fun b o e =>
 ⟨I.base.keep b o (I.ok.bs b o e).1 (I.ok.bs b o e).2 (I.ok.U3 e) (I.ok.qp b o e),I.base.free b o (I.ok.bs b o e).1 (I.ok.bs b o e).2 (I.ok.qp b o e)⟩
theorem Inv.bk(I:Inv X pins σ H s):∀ b o,X.base.get? b=some o->s.heap.get? b=some o:=fun b o e=>(I.bs b o e).1
theorem Inv.mod(I:Inv X pins σ H s):Mod X.K X.mg X.base:=I.ok.mod
theorem Inv.iA(I:Inv X pins σ H s):X.K.In s.heap:=I.ok.mod.F6.keeps I.bk
theorem Inv.lt(I:Inv X pins σ H s):X.env.locals<s.heap.objs.size:=let ⟨_,hn,_⟩:=I.loc;hn.lt
theorem Inv.sz(I:Inv X pins σ H s):X.s₀.heap.objs.size<=s.heap.objs.size:=aah I.ok.above (aaj I.lt)
theorem Inv.U4(I:Inv X pins σ H s){a:Addr}(h:s.heap.objs.size<=a):a∉X.fs:=fun hb=>by
 obtain ⟨_,o,ho,_⟩:=I.ok.iC.mem hb
 exact absurd (Nat.lt_of_lt_of_le (aae ho) (aah I.sz h)) (Nat.lt_irrefl _)
theorem Inv.Eg(I:Inv X pins σ H s):∀ x c,X.env.cells.lookup x=some c->c≠X.env.locals:=fun x c e z=>by
 obtain ⟨v,o,ho,hd⟩:=I.cell x c e
 obtain ⟨m,⟨o',es,ep,Gk,wd,_⟩,_⟩:=I.loc
 rw [z,Gk] at ho;cases ho;rw [wd] at hd;cases hd
theorem Inv.iC(I:Inv X pins σ H s):s.heap.FunFrames X.base X.outer:=by
 have all:∀ (l:List Env),(∀ b∈j2 l,b∈X.fs)->X.s₀.heap.FunFrames X.base l->s.heap.FunFrames X.base l:=by
  intro l
  induction l with
  | nil=>intro _ _;trivial
  | cons env r ih =>
   intro hs hl
   obtain ⟨hk,⟨L,o,hf,hn,ho,hd⟩,hr⟩:=hl
   have hL:L∈X.fs:=hs L (by unfold j2;rw [List.filterMap_cons,hf];exact mem_cons_self)
   obtain ⟨sl,e⟩:=I.base.slot L o ho (I.ok.Ef L hL) hL fun z=>I.ok.wc L z hL
   exact⟨hk,⟨L,_,hf,hn,e,hd⟩,ih (fun b hb=>hs b (by unfold j2;rw [List.filterMap_cons,hf];exact aaF _ hb)) hr⟩
 exact all X.outer (fun _ hb=>hb) I.ok.iC
theorem Inv.stack(I:Inv X pins σ H s):s.heap.FunFrames X.base X.stack:=by
 rcases I.ok.Ku with e|⟨e,hf⟩
 ·rw [e];exact I.iC
 ·rw [e]
  obtain ⟨m,hn,_⟩:=I.loc
  refine .cons (by rw [I.ok.kind];decide) hf hn ?_ I.iC
  exact Heap.get?_none_of_le (aah I.ok.wb I.ok.above)
theorem Inv.gT(I:Inv X pins σ H s):∀ b∈j2 X.stack,b∈X.env.locals::X.fs:=fun b hb=>by
 rcases I.ok.Ku with e|⟨e,hf⟩
 ·rw [e] at hb;exact aaF _ hb
 ·rw [e] at hb
  unfold j2 at hb
  rw [List.filterMap_cons,hf] at hb
  exact hb
theorem Inv.eh(I:Inv X pins σ H s):∀ b∈j2 X.stack,H b=none:=fun b hb=>by
 rcases aaG.mp (I.gT b hb) with e|hb
 ·rw [e];exact I.free
 ·obtain ⟨_,o,ho,_⟩:=I.ok.iC.mem hb
  exact I.base.free b o ho (I.ok.Ef b hb) fun z=>I.ok.wc b z hb
theorem Inv.step{g':Array GenState}{t':Nat}{d':Drawn}{ch:List Addr}(I:Inv X pins σ H s)
  (y0:∀ b∈ch,(b∈X.ex\/X.s₀.heap.objs.size<=b)/\b≠X.env.locals/\(∀ x c,X.env.cells.lookup x=some c->c≠b)/\∀ p∈X.pn++pins,p.1≠b)
  (keep:∀ b o,b≠X.env.locals->b∉X.fs->b∉ch->s.heap.get? b=some o->H b=none->h'.get? b=some o)
  (slot:∀ b o,b≠X.env.locals->b∈X.fs->b∉ch->s.heap.get? b=some o->H b=none->∃ sl,h'.get? b=some { o with slots:=sl }) (free:∀ b o,b∉ch->s.heap.get? b=some o->H b=none->H' b=none)
  (there:∀ b o,b∉ch->s.heap.get? b=some o->∃ o',h'.get? b=some o')
  (jn:∀ b xs,H b=some (.tup xs)->H' b=some (.tup xs)) (je:∀ b o u,H b=some (.y3 o u)->H' b=some (.y3 o u)) (jo:∀ b ps,H b=some (.J9 ps)->∃ more,H' b=some (.J9 (ps++more)))
  (ns:∀ m,s.heap.Ns X.env.locals m->h'.Ns X.env.locals m) (aR:eQ X.prog X.w H' h') (hg:AllBare g') :
  Inv X pins σ H' { s with heap:=h',gens:=g',drawn:=d',toks:=t' }:=by
 have Kv:∀ b o,X.s₀.heap.get? b=some o->b≠X.env.locals:=fun b o e=>aaU (Nat.lt_of_lt_of_le (aae e) I.ok.above)
 have Kw:∀ b o,X.s₀.heap.get? b=some o->b∉X.ex->b∉ch:=fun b o e hx hb=>by
  rcases (y0 b hb).1 with z|z
  ·exact hx z
  ·exact absurd (Nat.lt_of_lt_of_le (aae e) z) (Nat.lt_irrefl _)
 have cellK:∀ x c,X.env.cells.lookup x=some c->∀ v,s.heap.IsCell c v->h'.IsCell c v:=fun x c e v ⟨o,ho,hd⟩=>by
  have Gm:c∉ch:=fun z=>(y0 c z).2.2.1 x c e rfl
  by_cases hc:c∈X.fs
  ·obtain ⟨sl,q⟩:=slot c o (I.Eg x c e) hc Gm ho (I.d0 x c e)
   exact⟨_,q,hd⟩
  ·exact⟨o,keep c o (I.Eg x c e) hc Gm ho (I.d0 x c e),hd⟩
 refine⟨I.ok,I.os,hg,⟨fun b o e n hb hx=>?_,fun b o e n hb hx=>?_,fun b o e n hx=>?_,fun b o e hx=>?_,fun b xs e=>jn b xs (I.base.jn b xs e),fun b o xs e=>je b o xs (I.base.je b o xs e),fun b ps e=>?_⟩,?_,fun x c e=>?_,?_,fun x c e=>?_,fun p hp=>?_,aR,I.len⟩
 ·exact keep b o (Kv b o e) hb (Kw b o e hx) (I.base.keep b o e n hb hx) (I.base.free b o e n hx)
 ·obtain ⟨sl,e1⟩:=I.base.slot b o e n hb hx
  obtain ⟨A3,e2⟩:=slot b _ (Kv b o e) hb (Kw b o e hx) e1 (I.base.free b o e n hx)
  exact⟨A3,e2⟩
 ·obtain ⟨o',e1⟩:=I.base.there b o e hx
  exact free b o' (Kw b o e hx) e1 (I.base.free b o e n hx)
 ·obtain ⟨o',e1⟩:=I.base.there b o e hx
  exact there b o' (Kw b o e hx) e1
 ·obtain ⟨m1,e1⟩:=I.base.jo b ps e
  obtain ⟨m2,e2⟩:=jo b _ e1
  exact⟨m1++m2,by rw [e2,Array.append_assoc]⟩
 ·obtain ⟨m,hn,hl⟩:=I.loc
  refine⟨m,ns m hn,fun i x v e1 e2 e3=>?_⟩
  obtain ⟨u,r,l⟩:=hl i x v e1 e2 e3
  refine⟨u,r,?_⟩
  rcases l with l|⟨k,c,e,z⟩
  ·exact .inl l
  ·exact .inr ⟨k,c,e,cellK x c e _ z⟩
 ·obtain ⟨v,z⟩:=I.cell x c e
  exact⟨v,cellK x c e v z⟩
 ·obtain ⟨m,⟨o,_,_,ho,_⟩,_⟩:=I.loc
  exact free _ o (fun z=>(y0 _ z).2.1 rfl) ho I.free
 ·obtain ⟨v,o,ho,hd⟩:=I.cell x c e
  exact free c o (fun z=>(y0 c z).2.2.1 x c e rfl) ho (I.d0 x c e)
 ·obtain ⟨e,n,ne,nf,d⟩:=I.pin p hp
  have Gm:p.1∉ch:=fun z=>(y0 p.1 z).2.2.2 p hp rfl
  exact⟨keep p.1 p.2 ne nf Gm e n,free p.1 p.2 Gm e n,ne,nf,d⟩
theorem Inv.un{t':Nat}(I:Inv X pins σ H s)(u:Un X.fs [] H H' s.heap h')(aR:eQ X.prog X.w H' h'):Inv X pins σ H' { s with heap:=h',toks:=t' }:=by
 obtain ⟨m,⟨o,es,ep,ho,r⟩,_⟩:=id I.loc
 obtain ⟨sl,hL⟩:=u.any ho I.free (by simp)
 exact I.step (g':=s.gens) (d':=s.drawn) (ch:=[]) (fun _ z=>nomatch z) (fun b o _ hb _ e n=>u.keep b o e n hb (by simp)) (fun b o _ hb _ e n=>u.slot b o e n hb (by simp)) (fun b o _ e n=>u.free b o e n (by simp)) (fun b o _ e=>u.there b o e (by simp)) u.jn u.je u.jo (fun m' hm=>by
  obtain ⟨o',Uy,U5,Gk,r'⟩:=hm
  rw [ho] at Gk;cases Gk
  exact⟨_,Uy,U5,hL,r'⟩) aR I.bare
theorem Inv.call{g':Array GenState}{t':Nat}{d':Drawn}{ch:List Addr}(I:Inv X pins σ H s)(u:Un (j2 X.stack) ch H H' s.heap h')(aR:eQ X.prog X.w H' h')(hg:AllBare g')
  (y0:∀ b∈ch,(b∈X.ex\/X.s₀.heap.objs.size<=b)/\b≠X.env.locals/\(∀ x c,X.env.cells.lookup x=some c->c≠b)/\∀ p∈X.pn++pins,p.1≠b) :
  Inv X pins σ H' { s with heap:=h',gens:=g',drawn:=d',toks:=t' }:=by
 obtain ⟨m,⟨o,es,ep,ho,r⟩,_⟩:=id I.loc
 obtain ⟨sl,hL⟩:=u.any ho I.free fun z=>(y0 _ z).2.1 rfl
 exact I.step (ch:=ch) y0 (fun b o hL hb hc e n=>u.keep b o e n (fun z=>(aaG.mp (I.gT b z)).elim hL hb) hc) (fun b o _ _ hc e n=>u.any e n hc) (fun b o hc e n=>u.free b o e n hc) (fun b o hc e=>u.there b o e hc) u.jn u.je u.jo (fun m' hm=>by
  obtain ⟨o',Uy,U5,Gk,r'⟩:=hm
  rw [ho] at Gk;cases Gk
  exact⟨_,Uy,U5,hL,r'⟩) aR hg
theorem Inv.turned{t':Nat}{it:Addr}(I:Inv X pins σ H s)(k:∀ b o,b≠it->s.heap.get? b=some o->h'.get? b=some o)(hn:H it=none)(hL:it≠X.env.locals)
  (h1:it∈X.ex\/X.s₀.heap.objs.size<=it) (h2:∀ x c,X.env.cells.lookup x=some c->c≠it) (h3:∀ p∈X.pn++pins,p.1≠it):Inv X pins σ H { s with heap:=h',toks:=t' }:=by
 have X1:∀ b u,H b=some u->b≠it:=fun b u e z=>by rw [z,hn] at e;cases e
 refine I.step (g':=s.gens) (d':=s.drawn) (ch:=[it]) (fun b hb=>?_) (fun b o _ _ hc e _=>k b o (fun z=>hc (by simp [z])) e) (fun b o _ _ hc e _=>⟨o.slots,k b o (fun z=>hc (by simp [z])) e⟩) (fun _ _ _ _ n=>n)
  (fun b o hc e=>⟨o,k b o (fun z=>hc (by simp [z])) e⟩) (fun _ _ e=>e) (fun _ _ _ e=>e) (fun b ps e=>⟨#[],by rw [e];simp⟩) (fun m hm=>?_) (fun b u e=>?_) I.bare
 ·have e:b=it:=by simpa using hb
  subst e
  exact⟨h1,hL,h2,h3⟩
 ·obtain ⟨o,es,ep,ho,r⟩:=hm
  exact⟨o,es,ep,k _ o (Ne.symm hL) ho,r⟩
 ·refine (I.aR b u e).l8 (fun c v hc q=>k c v ?_ q) (fun _ q=>q) fun _ _ q=>q
  rcases hc with z|z
  ·rw [z];exact X1 b u e
  ·exact X1 c _ z
theorem Inv.tok(I:Inv X pins σ H s)(t:Nat):Inv X pins σ H { s with toks:=t }:=I.un (h':=s.heap) (t':=t) Un.refl I.aR
theorem Inv.kept{t':Nat}(I:Inv X pins σ H s)(k:∀ b u,s.heap.get? b=some u->h'.get? b=some u):Inv X pins σ H { s with heap:=h',toks:=t' }:=I.un (Un.kept k) (I.aR.kept k)
theorem Inv.laid{a:Addr}{o:HO}{t':Nat}(I:Inv X pins σ H s)(k:∀ b u,s.heap.get? b=some u->h'.get? b=some u)(hp:s.heap.objs.size<=a)(new:bJ X.prog X.w (upd H a o) h' a o) :
  Inv X pins σ (upd H a o) { s with heap:=h',toks:=t' }:=I.un (Un.laid k hp (I.aR.fresh hp)) (I.aR.laid k hp new)
theorem Inv.write{x e:Addr}{o:HO}{t':Nat}(I:Inv X pins σ H s)(mu:QX (H x))(he:e=x\/H e=some (.own x))(k:∀ b u,b≠e->s.heap.get? b=some u->h'.get? b=some u)(Qs:∃ u,h'.get? e=some u)
  (new:bJ X.prog X.w (upd H x o) h' x o):Inv X pins σ (upd H x o) { s with heap:=h',toks:=t' }:=I.un (Un.write mu he k Qs) (I.aR.write mu he k Qs new)
theorem Inv.ei{My:List (Addr×Obj)}(I:Inv X pins σ H s)(h:∀ p∈My,s.heap.get? p.1=some p.2/\H p.1=none/\p.1≠X.env.locals/\p.1∉X.fs/\∀ v,p.2.data≠.cell v):Inv X My σ H s :=
 ⟨I.ok,I.os,I.bare,I.base,I.loc,I.cell,I.free,I.d0,fun p hp=>(aaB.mp hp).elim (fun z=>I.pin p (aaz _ z)) (h p),I.aR,I.len⟩
theorem qV{N:List Str}(hN:N.Nodup){i j:Nat}{x:Str}(a:N[i]?=some x)(b:N[j]?=some x):i=j:=by
 obtain ⟨h1,e1⟩:=aad.mp a
 obtain ⟨h2,e2⟩:=aad.mp b
 exact (List.getElem_inj hN).mp (e1.trans e2.symm)
theorem vq{M:Model}{A:Around}{E:Value->Shared->Prop}{i:Nat}{x:Str}{v:V}{u:Value}{Q:Unit->Shared->Prop}(I:Inv X pins σ H s)(hN:X.N.Nodup)(hi:X.N[i]?=some x)(hx:Loc X.env.scope x)(r:RelV v u)
  (h:∀ s',Inv X pins (σ.set i (some v)) H s'->(∃ a,Heap.SameBut a s.heap s'.heap/\(a=X.env.locals\/X.env.cells.lookup x=some a))->Q () s') (hf:X.fn x=true\/X.env.scope.names.lookup x=some .local:=by first|exact .inl rfl|exact .inr rfl|assumption):wpAny M A (storeName X.env x u) Q E s:=by
 obtain ⟨m,hn,hl⟩:=id I.loc
 have Eh:(X.env.scope.kind == .class || (X.env.scope.kind == .module && X.env.locals != X.env.globals))=false:=by rw [I.ok.kind];rfl
 have Uz:i<σ.length:=by rw [I.len];exact (aad.mp hi).1
 have Eg:=I.Eg
 have tracked:∀ {a:Addr} {h':Heap},(∃ o,s.heap.get? a=some o/\H a=none)->Heap.SameBut a s.heap h'->eQ X.prog X.w H h':=fun {a h'} ha hs b ob e=>by
  obtain ⟨_,_,Mz⟩:=ha
  refine (I.aR b ob e).l8 (fun c w' hc q=>(hs.2 c ?_).trans q) (fun _ q=>q) fun _ _ q=>q
  rintro rfl
  rcases hc with rfl|hc
  ·rw [Mz] at e;cases e
  ·rw [Mz] at hc;cases hc
 rcases hx with hk|hk
 ·refine wpAny_storeName_local hk hn (fun h' Qt hs=>?_) Eh
  obtain ⟨oL,_,_,X2,_⟩:=id hn
  refine h _ ⟨I.ok,I.os,I.bare,⟨fun b o e n hb hx=>?_,fun b o e n hb hx=>?_,I.base.free,fun b o e hx=>?_,I.base.jn,I.base.je,I.base.jo⟩,⟨_,Qt,fun j y v' e1 e2 e3=>?_⟩,fun y c e=>?_,I.free,I.d0,fun p hp=>?_,tracked ⟨oL,X2,I.free⟩ hs,by simpa using I.len⟩ ⟨_,hs,.inl rfl⟩
  ·exact (hs.2 b (aaU (Nat.lt_of_lt_of_le (aae e) I.ok.above))).trans (I.base.keep b o e n hb hx)
  ·obtain ⟨sl,e1⟩:=I.base.slot b o e n hb hx
   exact⟨sl,(hs.2 b (aaU (Nat.lt_of_lt_of_le (aae e) I.ok.above))).trans e1⟩
  ·obtain ⟨o',e1⟩:=I.base.there b o e hx
   exact⟨o',(hs.2 b (aaU (Nat.lt_of_lt_of_le (aae e) I.ok.above))).trans e1⟩
  ·by_cases hj:j=i
   ·subst hj
    rw [hi] at e1;cases e1
    rw [List.getElem?_set_self Uz] at e2
    cases e2
    exact⟨u,r,.inl ⟨hk,by simp⟩⟩
   ·rw [List.getElem?_set_ne (Ne.symm hj)] at e2
    obtain ⟨u',r',q⟩:=hl j y v' e1 e2 e3
    refine⟨u',r',?_⟩
    rcases q with ⟨k,e⟩|⟨k,c,e,z⟩
    ·refine .inl ⟨k,?_⟩
     have:y≠x:=fun e=>hj (qV hN e1 (e ▸ hi))
     simp [this,e]
    ·exact .inr ⟨k,c,e,z.sameBut hs (Eg y c e)⟩
  ·obtain ⟨w',z⟩:=I.cell y c e
   exact⟨w',z.sameBut hs (Eg y c e)⟩
  ·obtain ⟨e,n,ne,nf,d⟩:=I.pin p hp
   exact⟨(hs.2 p.1 ne).trans e,n,ne,nf,d⟩
 ·have Kx:X.fn x=true:=by
   rcases hf with z|z
   ·exact z
   ·rw [z] at hk;cases hk
  obtain ⟨c,hc⟩:=I.ok.has x (.inl hk)
  obtain ⟨w',z⟩:=I.cell x c hc
  refine wpAny_storeName_cell I.ok.kind hk hc z (fun h' y4 hs=>?_)
  obtain ⟨oc,X3,U6⟩:=id z
  refine h { s with heap:=h' } ⟨I.ok,I.os,I.bare,⟨fun b o e n hb hx=>?_,fun b o e n hb hx=>?_,I.base.free,fun b o e hx=>?_,I.base.jn,I.base.je,I.base.jo⟩,⟨m,hn.sameBut hs (Ne.symm (Eg x c hc)),fun j y v' e1 e2 e3=>?_⟩,fun y c' e=>?_,I.free,I.d0,fun p hp=>?_,tracked ⟨oc,X3,I.d0 x c hc⟩ hs,by simpa using I.len⟩ ⟨c,hs,.inr hc⟩
  ·exact (hs.2 b (aaU (Nat.lt_of_lt_of_le (aae e) (I.ok.Ka x c Kx hc)))).trans (I.base.keep b o e n hb hx)
  ·obtain ⟨sl,e1⟩:=I.base.slot b o e n hb hx
   exact⟨sl,(hs.2 b (aaU (Nat.lt_of_lt_of_le (aae e) (I.ok.Ka x c Kx hc)))).trans e1⟩
  ·obtain ⟨o',e1⟩:=I.base.there b o e hx
   exact⟨o',(hs.2 b (aaU (Nat.lt_of_lt_of_le (aae e) (I.ok.Ka x c Kx hc)))).trans e1⟩
  ·by_cases hj:j=i
   ·subst hj
    rw [hi] at e1;cases e1
    rw [List.getElem?_set_self Uz] at e2
    cases e2
    exact⟨u,r,.inr ⟨.inl hk,c,hc,y4⟩⟩
   ·rw [List.getElem?_set_ne (Ne.symm hj)] at e2
    obtain ⟨u',r',q⟩:=hl j y v' e1 e2 e3
    refine⟨u',r',?_⟩
    rcases q with q|⟨k,c',e,z'⟩
    ·exact .inl q
    ·refine .inr ⟨k,c',e,z'.sameBut hs ?_⟩
     rintro rfl
     exact hj (qV hN e1 (I.ok.inj _ _ _ e hc ▸ hi))
  ·by_cases X4:c'=c
   ·subst X4;exact⟨_,y4⟩
   ·obtain ⟨w2,z2⟩:=I.cell y c' e
    exact⟨w2,z2.sameBut hs X4⟩
  ·obtain ⟨e,n,ne,nf,d⟩:=I.pin p hp
   refine⟨(hs.2 p.1 ?_).trans e,n,ne,nf,d⟩
   intro q
   rw [q,X3] at e
   have q':oc=p.2:=aao e
   exact d w' (by rw [<- q'];exact U6)
theorem qW{M:Model}{A:Around}{E:Value->Shared->Prop}{i:Nat}{x:Str}{v:V}{u:Value}{Q:Unit->Shared->Prop}(I:Inv X pins σ H s)(hN:X.N.Nodup)(hi:X.N[i]?=some x)(hx:Loc X.env.scope x)(r:RelV v u)
  (h:∀ s',Inv X pins (σ.set i (some v)) H s'->Q () s') (hf:X.fn x=true\/X.env.scope.names.lookup x=some .local:=by first|exact .inl rfl|exact .inr rfl|assumption):wpAny M A (storeName X.env x u) Q E s :=
 vq I hN hi hx r (fun s' I' _=>h s' I') hf
theorem Inv.qX{s':Shared}{ch:List Addr}(I:Inv X pins σ H s)(ho:s'.os=s.os)(u:Un (j2 X.stack) ch H H' s.heap s'.heap)(aR:eQ X.prog X.w H' s'.heap)(hg:AllBare s'.gens)
  (y0:∀ b∈ch,(b∈X.ex\/X.s₀.heap.objs.size<=b)/\b≠X.env.locals/\(∀ x c,X.env.cells.lookup x=some c->c≠b)/\∀ p∈X.pn++pins,p.1≠b):Inv X pins σ H' s':=by
 obtain ⟨h',g',d',t',o'⟩:=s'
 have e:o'=s.os:=ho
 subst e
 exact I.call (g':=g') (t':=t') (d':=d') u aR hg y0
end
abbrev XK:=Value->Option Addr->Hp->Prop
abbrev St:=List (Option V)
abbrev VK:=V->Hp->Prop
abbrev TE:=St->Hp->VK->Prop
abbrev TT:=St->Hp->(Bool->Hp->Prop)->Prop
abbrev TA:=St->Hp->(List V->Hp->Prop)->Prop
structure Ends where
 nx:St->Hp->Prop
 rt:VK
 bk:St->Hp->Prop:=fun _ _=>False
 ct:St->Hp->Prop:=fun _ _=>False
abbrev TS:=Ends->St->Hp->Prop
def EP(X:Cx)(pins:List (Addr×Obj))(σ:St)(Q:VK)(u:Value)(s':Shared):Prop:=∃ v H',Inv X pins σ H' s'/\RelV v u/\Q v H'
def TP(X:Cx)(pins:List (Addr×Obj))(σ:St)(Q:Bool->Hp->Prop)(b:Bool)(s':Shared):Prop:=∃ H',Inv X pins σ H' s'/\Q b H'
def AP(X:Cx)(pins:List (Addr×Obj))(σ:St)(Q:List V->Hp->Prop)(us:List Value)(s':Shared):Prop:=∃ vs H',Inv X pins σ H' s'/\Vals vs us/\Q vs H'
def SP(X:Cx)(pins:List (Addr×Obj))(D:Ends)(f:Flow)(s':Shared):Prop :=
 match f with
 | .next=>∃ σ' H',Inv X pins σ' H' s'/\D.nx σ' H'
 | .brk=>∃ σ' H',Inv X pins σ' H' s'/\D.bk σ' H'
 | .cont=>∃ σ' H',Inv X pins σ' H' s'/\D.ct σ' H'
 | .ret u=>∃ v σ' H',Inv X pins σ' H' s'/\RelV v u/\D.rt v H'
def PE(X:Cx)(e:Expr)(t:TE):Prop :=
 ∀ (pins:List (Addr×Obj)) (s:Shared) (σ:St) (H:Hp) (Q:VK),Inv X pins σ H s->t σ H Q->wpAny (model X.prog X.w) X.A (eval e X.env) (EP X pins σ Q) X.xe s
def PT(X:Cx)(e:Expr)(t:TT):Prop :=
 ∀ (pins:List (Addr×Obj)) (s:Shared) (σ:St) (H:Hp) (Q:Bool->Hp->Prop),Inv X pins σ H s->t σ H Q->wpAny (model X.prog X.w) X.A (isTrue e X.env (eval e X.env)) (TP X pins σ Q) X.xe s
def PW(X:Cx)(e:Expr)(t:TT):Prop :=
 ∀ (whole:Sem Value) (pins:List (Addr×Obj)) (s:Shared) (σ:St) (H:Hp) (Q:Bool->Hp->Prop),Inv X pins σ H s->t σ H Q->wpAny (model X.prog X.w) X.A (isTrue e X.env whole) (TP X pins σ Q) X.xe s
theorem PW.pt{X:Cx}{e:Expr}{t:TT}(h:PW X e t):PT X e t:=h _
def PA(X:Cx)(es:List Expr)(t:TA):Prop :=
 ∀ (pos:Pos) (pins:List (Addr×Obj)) (s:Shared) (σ:St) (H:Hp) (Q:List V->Hp->Prop),Inv X pins σ H s->t σ H Q->wpAny (model X.prog X.w) X.A (spliced (backTo pos (starEach es X.env))) (AP X pins σ Q) X.xe s
def PS(X:Cx)(st:Stmt)(t:TS):Prop :=
 ∀ (pins:List (Addr×Obj)) (s:Shared) (σ:St) (H:Hp) (D:Ends),Inv X pins σ H s->t D σ H->wpAny (model X.prog X.w) X.A (exec st X.env) (SP X pins D) X.xe s
def nv(X:Cx)(st:List Stmt)(t:TS):Prop :=
 ∀ (pins:List (Addr×Obj)) (s:Shared) (σ:St) (H:Hp) (D:Ends),Inv X pins σ H s->t D σ H->wpAny (model X.prog X.w) X.A (execs st X.env) (SP X pins D) X.xe s
theorem bS{α:Type}{t:Sem α}{Q Q':α->Shared->Prop}{M:Model}{A:Around}{E:Value->Shared->Prop}{s:Shared}(h:wpAny M A t Q E s)(hQ:∀ a s,Q a s->Q' a s):wpAny M A t Q' E s:=aav h hQ fun _ _ x=>x
section
variable {X:Cx}
def Gn(i:Nat):TE:=fun σ H Q=>∃ v,σ[i]?=some (some v)/\Q v H
def tC(v:V):TE:=fun _ H Q=>Q v H
theorem ND {i:Nat} {x:Str} {pos:Pos} (hN:X.N[i]?=some x) (hv:QZ X.env.scope x) (hd:(x == ("__debug__":Str))=false:=by decide) (ny:(x == ("__classdict__":Str))=false:=by decide):PE X (.Name x pos) (Gn i):=by
 intro pins s σ H Q I h
 obtain ⟨v,e,h⟩:=h
 obtain ⟨m,hn,hl⟩:=I.loc
 obtain ⟨u,r,l⟩:=hl i x v hN e hv
 have fin:EP X pins σ Q u s:=⟨v,H,I,r,h⟩
 rcases l with ⟨hk,hm⟩|⟨hk,c,hc,jq⟩
 ·exact wpAny_Name (wpAny_loadName_local I.ok.kind hk hn hm fin) hd
 ·rcases hk with hk|hk
  ·exact wpAny_Name (wpAny_loadName_cell I.ok.kind hk hc jq fin) hd
  ·exact wpAny_Name (wpAny_loadName_free I.ok.kind hk hc jq fin ny) hd
theorem ai{i j pos}:PE X (.Constant (.int i) j pos) (tC (.int i)):=fun _ _ _ H _ I h=>wpAny_Constant_int ⟨.int i,H,I.tok _,⟨_,rfl⟩,h⟩
theorem qY{b j pos}:PE X (.Constant (.bool b) j pos) (tC (.bl b)):=fun _ _ _ H _ I h=>Constant_bool ⟨.bl b,H,I,rfl,h⟩
theorem A8{j pos}:PE X (.Constant .none j pos) (tC .dt):=fun _ _ _ H _ I h=>Constant_none ⟨.dt,H,I,rfl,h⟩
theorem aH{x j pos}:PE X (.Constant (.str x) j pos) (tC (.str x)):=fun _ _ _ H _ I h=>Calls.Constant_str ⟨.str x,H,I.tok _,⟨_,rfl⟩,h⟩
def Gl(X:Cx)(x:Str):Prop:=X.env.kindOf x=some .globalImplicit
theorem dk{E:Value->Shared->Prop}{pins:List (Addr×Obj)}{s:Shared}{σ:St}{H:Hp}{x:Str}{u:Value}{pos:Pos}{Q:Value->Shared->Prop}(I:Inv X pins σ H s)(hg:Gl X x)(hm:X.mg x=some u)(h:Q u s)
  (hd:(x == ("__debug__":Str))=false:=by decide):wpAny (model X.prog X.w) X.A (eval (.Name x pos) X.env) Q E s :=
 Calls.Name_function_global I.ok.kind hg (Calls.loadGlobal_global (by rw [I.ok.glob];exact I.mod.glob.keeps I.bk) hm h) hd
theorem lD{E:Value->Shared->Prop}{pins:List (Addr×Obj)}{s:Shared}{σ:St}{H:Hp}{x:Str}{u:Value}{pos:Pos}{Q:Value->Shared->Prop}(I:Inv X pins σ H s)(hg:Gl X x)(hm:X.mg x=none)(hv:bootBuiltins x=some u)(h:Q u s)
  (hn:x≠"__name__":=by decide) (hd:(x == ("__debug__":Str))=false:=by decide):wpAny (model X.prog X.w) X.A (eval (.Name x pos) X.env) Q E s:=by
 obtain ⟨mb,h1,h2⟩:=I.mod.blt
 exact Calls.Name_function_global I.ok.kind hg (Calls.loadGlobal_builtin (by rw [I.ok.glob];exact I.mod.glob.keeps I.bk) hm (by rw [I.ok.blt];exact h1.keeps I.bk) ((h2 x hn).trans hv) h) hd
theorem aY {x:Str} {v:V} {u:Value} {pos:Pos} (hg:Gl X x) (hm:X.mg x=some u) (r:RelV v u) (hd:(x == ("__debug__":Str))=false:=by decide):PE X (.Name x pos) (tC v) :=
 fun _ _ _ H _ I h=>dk I hg hm ⟨v,H,I,r,h⟩ hd
theorem iD {x:Str} {v:V} {u:Value} {pos:Pos} (hg:Gl X x) (hm:X.mg x=none) (hv:bootBuiltins x=some u) (r:RelV v u) (hn:x≠"__name__":=by decide) (hd:(x == ("__debug__":Str))=false:=by decide):PE X (.Name x pos) (tC v) :=
 fun _ _ _ H _ I h=>lD I hg hm hv ⟨v,H,I,r,h⟩ hn hd
variable {a b:Expr}{ta tb:TE}{pos:Pos}
def tB(t:TE):TT:=fun σ H Q=>t σ H fun x H1=>∃ c,x=.bl c/\Q c H1
theorem jr{e:Expr}{t:TE}(h:PE X e t)(he:∀ whole,isTrue e X.env whole=(do let v <- whole;standAt e.pos;holding [v] (truthy v)):=by intro _;rfl):PT X e (tB t):=by
 intro pins s σ H Q I hw
 refine isTrue_plain (bS (h pins s σ H _ I hw) fun v s1 ⟨x,H1,I1,r1,q1⟩=>?_) (he _)
 obtain ⟨d,rfl,q⟩:=q1
 cases r1
 exact wpAny_truthy_bool ⟨H1,I1,q⟩
variable {tA UA:TT}{rest:List Expr}
def Q0(t u:TT):TT:=fun σ H Q=>t σ H fun c H1=>if c=true then u σ H1 Q else Q false H1
def X5(t u:TT):TT:=fun σ H Q=>t σ H fun c H1=>if c=true then Q true H1 else u σ H1 Q
def Q1(t:TT):TT:=fun σ H Q=>t σ H fun c H1=>Q (!c) H1
theorem C9(ha:PT X a tA):PW X (.BoolOp .And [a] pos) tA:=by
 intro wh pins s σ H Q I h
 refine isTrue_and (bS (ha pins s σ H Q I h) fun c s1 e=>?_)
 cases c with
 | true=>exact isTrue_and_nil e
 | false=>exact e
theorem qZ(ha:PT X a tA):PW X (.BoolOp .Or [a] pos) tA:=by
 intro wh pins s σ H Q I h
 refine isTrue_or (bS (ha pins s σ H Q I h) fun c s1 e=>?_)
 cases c with
 | false=>exact isTrue_or_nil e
 | true=>exact e
theorem Gp(ha:PT X a tA)(hb:PW X (.BoolOp .And (b::rest) pos) UA):PW X (.BoolOp .And (a::b::rest) pos) (Q0 tA UA):=by
 intro wh pins s σ H Q I h
 refine isTrue_and (bS (ha pins s σ H _ I h) fun c s1 ⟨H1,I1,q1⟩=>?_)
 cases c with
 | true=>exact hb wh pins s1 σ H1 Q I1 q1
 | false=>exact⟨H1,I1,q1⟩
theorem y6(ha:PT X a tA)(hb:PW X (.BoolOp .Or (b::rest) pos) UA):PW X (.BoolOp .Or (a::b::rest) pos) (X5 tA UA):=by
 intro wh pins s σ H Q I h
 refine isTrue_or (bS (ha pins s σ H _ I h) fun c s1 ⟨H1,I1,q1⟩=>?_)
 cases c with
 | true=>exact⟨H1,I1,q1⟩
 | false=>exact hb wh pins s1 σ H1 Q I1 q1
theorem lE(ha:PT X a tA):PT X (.UnaryOp .Not a pos) (Q1 tA):=by
 intro pins s σ H Q I h
 exact isTrue_not (ha pins s σ H (fun c H1=>Q (!c) H1) I h)
def MA(ta tb:TE):TE:=fun σ H Q=>ta σ H fun x H1=>∃ c,x=.bl c/\if c=true then tb σ H1 Q else Q (.bl false) H1
def MB(ta:TE):TE:=fun σ H Q=>ta σ H fun x H1=>∃ c,x=.bl c/\Q (.bl (!c)) H1
theorem NF{op}{t:TE}(h:PE X a t):PE X (.BoolOp op [a] pos) t:=fun pins s σ H Q I hw=>BoolOp_one (h pins s σ H Q I hw)
theorem NG(ha:PE X a ta)(hb:PE X (.BoolOp .And (b::rest) pos) tb):PE X (.BoolOp .And (a::b::rest) pos) (MA ta tb):=by
 intro pins s σ H Q I h
 refine BoolOp_and (bS (ha pins s σ H _ I h) fun v s1 ⟨x,H1,I1,r1,q1⟩=>?_)
 obtain ⟨c,rfl,q1⟩:=q1
 cases r1
 refine wpAny_truthy_bool ?_
 cases c with
 | true=>exact hb pins s1 σ H1 Q I1 q1
 | false=>exact⟨.bl false,H1,I1,rfl,q1⟩
theorem NH(ha:PE X a ta):PE X (.UnaryOp .Not a pos) (MB ta):=by
 intro pins s σ H Q I h
 refine UnaryOp_ (bS (ha pins s σ H _ I h) fun v s1 ⟨x,H1,I1,r1,q1⟩=>?_)
 obtain ⟨c,rfl,q1⟩:=q1
 cases r1
 exact not_of (wpAny_truthy_bool ⟨.bl (!c),H1,I1,rfl,q1⟩)
def X6(t:TT)(ta tb:TE):TE:=fun σ H Q=>t σ H fun c H1=>if c=true then ta σ H1 Q else tb σ H1 Q
theorem y8{c:Expr}(hc:PT X c tA)(ha:PE X a ta)(hb:PE X b tb):PE X (.IfExp c a b pos) (X6 tA ta tb):=by
 intro pins s σ H Q I h
 refine wpAny_IfExp (bS (hc pins s σ H _ I h) fun d s1 ⟨H1,I1,q1⟩=>?_)
 cases d with
 | true=>exact ha pins s1 σ H1 Q I1 q1
 | false=>exact hb pins s1 σ H1 Q I1 q1
end
def bA(K:Frag)(H:Hp)(a:Addr)(xs:List V):Prop :=
 Rd H a (.lst xs) \/
  ∃ (o:Obj) (its:Array Value) (n:Nat),K.lookup a=some o/\o.cls=.type "list"/\o.dict=none/\o.data=.seq its n/\its.size<=sizeLine/\Vals xs its.toList
def bh(K:Frag)(H:Hp)(a:Addr)(xs:List V):Prop :=
 Rd H a (.tup xs) \/
  ∃ (o:Obj) (its:Array Value) (n:Nat),K.lookup a=some o/\o.cls=.type "tuple"/\o.data=.seq its n/\its.size<=sizeLine/\Vals xs its.toList
def U7:Value->Option V
 | .none=>some .dt
 | .bool b=>some (.bl b)
 | .int i _=>some (.int i)
 | .str x _=>some (.str x)
 | .bytes b _=>some (.F5 b)
 | .float b _=>some (.NA b)
 | .ref a=>some (.ref a)
 | .type n=>some (.ty n)
 | _=>none
theorem RelV.abs{x:V}{u:Value}(r:RelV x u):U7 u=some x:=by
 cases x with
 | dt=>cases r;rfl
 | bl _=>cases r;rfl
 | int _=>obtain ⟨t,rfl⟩:=r;rfl
 | str _=>obtain ⟨t,rfl⟩:=r;rfl
 | F5 _=>obtain ⟨t,rfl⟩:=r;rfl
 | NA _=>obtain ⟨t,rfl⟩:=r;rfl
 | ref _=>cases r;rfl
 | ty _=>cases r;rfl
theorem RelV.inj{x y:V}{u:Value}(r:RelV x u)(q:RelV y u):x=y:=aao (r.abs.symm.trans q.abs)
theorem Vals.inj:∀ {xs ys:List V} {us:List Value},Vals xs us->Vals ys us->xs=ys
 | _,_,_,.nil,.nil=>rfl
 | _,_,_,.cons r t,.cons r' t'=>by rw [r.inj r',Vals.inj t t']
section
variable {X:Cx}{pins:List (Addr×Obj)}{σ:St}{H:Hp}{s:Shared}{a:Addr}{xs ys:List V}
theorem bA.of{K:Frag}(h:H a=some (.lst xs)):bA K H a xs:=.inl (.inl h)
theorem bh.of{K:Frag}(h:H a=some (.tup xs)):bh K H a xs:=.inl (.inl h)
theorem Inv.list(I:Inv X pins σ H s)(h:bA X.K H a xs):∃ its:List Value,Vals xs its/\PlainL s.heap a its.toArray/\xs.length<=sizeLine:=by
 rcases h with h|⟨o,its,n,hk,hc,hd,hs,hz,r⟩
 ·obtain ⟨z,its,n,r,e⟩:=h.ok I.aR
  exact⟨its,r,⟨_,n,e,rfl,rfl,rfl⟩,z⟩
 ·refine⟨its.toList,r,⟨o,n,I.iA a o hk,hc,hd,by simpa using hs⟩,?_⟩
  have e:=r.length
  simp only [Array.length_toList] at e
  lia
theorem Inv.tuple(I:Inv X pins σ H s)(h:bh X.K H a xs):∃ its:List Value,Vals xs its/\IsTup s.heap a its.toArray/\xs.length<=sizeLine:=by
 rcases h with h|⟨o,its,n,hk,hc,hs,hz,r⟩
 ·obtain ⟨z,its,r,p⟩:=h.ok I.aR
  exact⟨its,r,p,z⟩
 ·refine⟨its.toList,r,⟨o,I.iA a o hk,hc,n,by simpa using hs⟩,?_⟩
  have e:=r.length
  simp only [Array.length_toList] at e
  lia
theorem Inv.y9(I:Inv X pins σ H s)(h:bA X.K H a xs)(h':bA X.K H a ys):xs=ys:=by
 obtain ⟨its,r,⟨o,n,e,_,_,d⟩,_⟩:=I.list h
 obtain ⟨its',r',⟨o',n',e',_,_,d'⟩,_⟩:=I.list h'
 rw [e] at e';cases e'
 rw [d] at d'
 injection d' with d1 _
 have:its=its':=by simpa using congrArg Array.toList d1
 subst this
 exact r.inj r'
theorem Inv.vt(I:Inv X pins σ H s)(h:bh X.K H a xs)(h':bh X.K H a ys):xs=ys:=by
 obtain ⟨its,r,⟨o,e,_,n,d⟩,_⟩:=I.tuple h
 obtain ⟨its',r',⟨o',e',_,n',d'⟩,_⟩:=I.tuple h'
 rw [e] at e';cases e'
 rw [d] at d'
 injection d' with d1 _
 have:its=its':=by simpa using congrArg Array.toList d1
 subst this
 exact r.inj r'
end
abbrev Cx.dQ(X:Cx)(E:Value->Shared->Prop):Cx:={ X with xe:=E }
abbrev Cx.Ei(X:Cx):Cx:=X.dQ fun _ _=>False
theorem Cx.Ok.dQ{X:Cx}(ok:X.Ok)(E:Value->Shared->Prop):(X.dQ E).Ok :=
 ⟨ok.mod,ok.kind,ok.glob,ok.blt,ok.above,ok.inj,ok.has,ok.Ka,ok.hd,ok.frames,ok.Ku,ok.NC,ok.bs,ok.wb,ok.qp,ok.wc,ok.iC,ok.Ef⟩
theorem Cx.Ok.cc{X:Cx}{E:Value->Shared->Prop}(ok:(X.dQ E).Ok):X.Ok :=
 ⟨ok.mod,ok.kind,ok.glob,ok.blt,ok.above,ok.inj,ok.has,ok.Ka,ok.hd,ok.frames,ok.Ku,ok.NC,ok.bs,ok.wb,ok.qp,ok.wc,ok.iC,ok.Ef⟩
section
variable {X:Cx}{pins:List (Addr×Obj)}{σ:St}{H:Hp}{s:Shared}{E:Value->Shared->Prop}
theorem Inv.dQ(I:Inv X pins σ H s)(E:Value->Shared->Prop):Inv (X.dQ E) pins σ H s:=⟨I.ok.dQ E,I.os,I.bare,I.base,I.loc,I.cell,I.free,I.d0,I.pin,I.aR,I.len⟩
theorem Inv.cc(I:Inv (X.dQ E) pins σ H s):Inv X pins σ H s:=⟨I.ok.cc,I.os,I.bare,I.base,I.loc,I.cell,I.free,I.d0,I.pin,I.aR,I.len⟩
theorem SP.cc{D:Ends}{f:Flow}{s':Shared}(h:SP (X.dQ E) pins D f s'):SP X pins D f s':=by
 cases f with
 | next=>obtain ⟨σ',H',I,q⟩:=h;exact⟨σ',H',I.cc,q⟩
 | brk=>obtain ⟨σ',H',I,q⟩:=h;exact⟨σ',H',I.cc,q⟩
 | cont=>obtain ⟨σ',H',I,q⟩:=h;exact⟨σ',H',I.cc,q⟩
 | ret u=>obtain ⟨v,σ',H',I,r,q⟩:=h;exact⟨v,σ',H',I.cc,r,q⟩
theorem nv.Ei{st:List Stmt}{t:TS}(h:nv X.Ei st t):nv X st t:=fun pins s σ H D I hw =>
 aav (h pins s σ H D (I.dQ _) hw) (fun _ _ q=>q.cc) fun _ _ z=>False.elim z
end
section
variable {X:Cx}{st:Stmt}{rest:List Stmt}{t u:TS}{e:Expr}{te:TE}{pos:Pos}
def MC:TS:=fun D σ H=>D.nx σ H
def Q2(t u:TS):TS:=fun D σ H=>t { D with nx:=u D } σ H
theorem aV:nv X [] MC:=fun _ _ σ H _ I h=>wpAny_execs_nil ⟨σ,H,I,h⟩
theorem ag(h1:PS X st t)(h2:nv X rest u):nv X (st::rest) (Q2 t u):=by
 intro pins s σ H D I h
 refine wpAny_execs_cons (bS (h1 pins s σ H { D with nx:=u D } I h) fun f s1 q=>?_)
 cases f with
 | next =>
  obtain ⟨σ',H',I',q⟩:=q
  exact h2 pins s1 σ' H' D I' q
 | ret v=>exact q
 | brk=>exact q
 | cont=>exact q
theorem aj(h1:PS X st t):nv X [st] t:=by
 intro pins s σ H D I h
 refine wpAny_execs_cons (bS (h1 pins s σ H D I h) fun f s1 q=>?_)
 cases f with
 | next=>exact wpAny_execs_nil q
 | ret v=>exact q
 | brk=>exact q
 | cont=>exact q
theorem Inv.quiet{pins:List (Addr×Obj)}{σ:St}{H:Hp}{s:Shared}(I:Inv X pins σ H s):interactive X.env=false:=by simp [interactive,I.ok.kind]
def MD(te:TE):TS:=fun D σ H=>te σ H fun _ H1=>D.nx σ H1
theorem iE(he:PE X e te)(hs:swapsWith e none pos.line X.env=pure false:=by rfl):PS X (.Expr e pos) (MD te):=by
 intro pins s σ H D I h
 exact wpAny_Expr_any (bS (he pins s σ H _ I h) fun v s1 ⟨x,H1,I1,r1,q1⟩=>⟨σ,H1,I1,q1⟩) I.quiet hs
def Q3(te:TE):TS:=fun D σ H=>te σ H D.rt
theorem aP(he:PE X e te):PS X (.Return (some e) pos) (Q3 te):=by
 intro pins s σ H D I h
 exact wpAny_Return_some (bS (he pins s σ H _ I h) fun v s1 ⟨x,H1,I1,r1,q1⟩=>⟨x,σ,H1,I1,r1,q1⟩)
def NI(c:TT)(t u:TS):TS:=fun D σ H=>c σ H fun b H1=>if b=true then t D σ H1 else u D σ H1
theorem bT{c:Expr}{a b:List Stmt}{tc:TT}(hc:PT X c tc)(ha:nv X a t)(hb:nv X b u):PS X (.If c a b pos) (NI tc t u):=by
 intro pins s σ H D I h
 refine wpAny_If (bS (hc pins s σ H _ I h) fun d s1 ⟨H1,I1,q1⟩=>?_)
 cases d with
 | true=>exact ha pins s1 σ H1 D I1 q1
 | false=>exact hb pins s1 σ H1 D I1 q1
end
abbrev TG:=V->St->Hp->(St->Hp->Prop)->Prop
abbrev ME:=List V->St->Hp->(St->Hp->Prop)->Prop
def PG(X:Cx)(target:Expr)(t:TG):Prop :=
 ∀ (pins:List (Addr×Obj)) (s:Shared) (σ:St) (H:Hp) (v:V) (u:Value) (Q:St->Hp->Prop),Inv X pins σ H s->RelV v u->t v σ H Q ->
  wpAny (model X.prog X.w) X.A (assign target X.env u) (fun _ s'=>∃ σ' H',Inv X pins σ' H' s'/\Q σ' H') X.xe s
def Q4(X:Cx)(ts:List Expr)(t:ME):Prop :=
 ∀ (pins:List (Addr×Obj)) (s:Shared) (σ:St) (H:Hp) (vs:List V) (us:List Value) (Q:St->Hp->Prop),Inv X pins σ H s->Vals vs us->t vs σ H Q ->
  wpAny (model X.prog X.w) X.A (assignInOrder ((assignEach ts X.env).map (·.2)) us) (fun _ s'=>∃ σ' H',Inv X pins σ' H' s'/\Q σ' H') X.xe s
abbrev Ky:=V->V->V->Hp->(Hp->Prop)->Prop
def Q5(X:Cx)(t:Ky):Prop :=
 ∀ (pins:List (Addr×Obj)) (s:Shared) (σ:St) (H:Hp) (o i v:V) (ov iv u:Value) (Q:Hp->Prop),Inv X pins σ H s->RelV o ov->RelV i iv->RelV v u->t o i v H Q ->
  wpAny (model X.prog X.w) X.A (setItem ov iv u) (fun _ s'=>∃ H',Inv X pins σ H' s'/\Q H') X.xe s
section
variable {X:Cx}{pos:Pos}
def fN(i:Nat):TG:=fun v σ H Q=>Q (σ.set i (some v)) H
theorem aU{i:Nat}{x:Str}(hN:X.N.Nodup)(hi:X.N[i]?=some x)(hx:Loc X.env.scope x)(hf:X.fn x=true\/X.env.scope.names.lookup x=some .local:=by first|exact .inl rfl|exact .inr rfl|assumption):PG X (.Name x pos) (fN i):=by
 intro pins s σ H v u Q I r h
 exact wpAny_assign_Name (qW I hN hi hx r (fun s' I'=>⟨_,H,I',h⟩) hf)
def Kz:ME:=fun vs σ H Q=>vs=[]/\Q σ H
def q0(t:TG)(u:ME):ME:=fun vs σ H Q=>∃ v r,vs=v::r/\t v σ H fun σ' H'=>u r σ' H' Q
theorem ka:Q4 X [] Kz:=by
 intro pins s σ H vs us Q I r h
 obtain ⟨e,h⟩:=h
 subst e
 cases r
 exact assignInOrder_nil ⟨σ,H,I,h⟩
theorem cV{e:Expr}{es:List Expr}{t:TG}{u:ME}(h1:PG X e t)(h2:Q4 X es u)
  (hs:(assignEach (e::es) X.env).map (·.2)=assign e X.env::(assignEach es X.env).map (·.2):=by rfl):Q4 X (e::es) (q0 t u):=by
 intro pins s σ H vs us Q I r h
 obtain ⟨v,vr,e1,h⟩:=h
 subst e1
 cases r with
 | cons r rr =>
  rw [hs]
  refine assignInOrder_cons (bS (h1 pins s σ H _ _ _ I r h) fun _ s1 ⟨σ1,H1,I1,q1⟩=>?_)
  exact h2 pins s1 σ1 H1 _ _ Q I1 rr q1
def Gq(K:Frag)(n:Nat)(t:ME):TG:=fun v σ H Q=>∃ a xs,v=.ref a/\bh K H a xs/\xs.length=n/\t xs σ H Q
theorem NJ{es:List Expr}{k:Nat}{t:ME}{n:Nat}(hc:X.calm=true)(h:Q4 X es t)
  (hn:(assignEach es X.env).length=n:=by rfl) (iF:(assignEach es X.env).findIdx? (·.1)=none:=by rfl):PG X (.Tuple es k pos) (Gq X.K n t):=by
 intro pins s σ H v u Q I r hw
 obtain ⟨a,xs,e1,hq,hl,hw⟩:=hw
 subst e1
 cases r
 obtain ⟨its,rv,ht,hz⟩:=I.tuple hq
 refine assign_Tuple_tuple (I.ok.hd hc) ht (by simp [hn,<- hl,rv.length]) iF fun h' hx=>?_
 have I1:Inv X pins σ H { s with heap:=h' }:=I.kept (t':=s.toks) fun b o e=>hx b o (aaU (aae e)) e
 exact h pins _ σ H xs _ Q I1 (by simpa using rv) hw
def Q6(to ti:TE)(t:Ky):TG:=fun v σ H Q=>to σ H fun o H1=>ti σ H1 fun i H2=>t o i v H2 fun H3=>Q σ H3
theorem NK{o i:Expr}{to ti:TE}{t:Ky}(ho:PE X o to)(hi:PE X i ti)(hs:Q5 X t)
  (ha:∀ v,assign (.Subscript o i pos) X.env v=(do
   let ov <- holding [v] (eval o X.env)
   let iv <- holding [v,ov] (eval i X.env)
   standAt pos
   holding [v,ov,iv] (setItem ov iv v)
   release [v,ov,iv] []):=by intro _;rfl):PG X (.Subscript o i pos) (Q6 to ti t):=by
 intro pins s σ H v u Q I r h
 rw [ha]
 refine aac (wpAny_holding (bS (ho pins s σ H _ I h) fun ov s1 ⟨x,H1,I1,r1,q1⟩=>?_))
 refine aac (wpAny_holding (bS (hi pins s1 σ H1 _ I1 q1) fun iv s2 ⟨y,H2,I2,r2,q2⟩=>?_))
 refine aac (wpAny_standAt (aac (wpAny_holding (bS (hs pins s2 σ H2 x y v ov iv u _ I2 r1 r2 r q2) fun _ s3 ⟨H3,I3,q3⟩=>?_))))
 exact wpAny_release ⟨σ,H3,I3,q3⟩
def KA(te:TE)(g:TG):TS:=fun D σ H=>te σ H fun x H1=>g x σ H1 D.nx
theorem NL{tg e:Expr}{te:TE}{g:TG}(he:PE X e te)(hg:PG X tg g)(hs:swapsWithSole [tg] e pos.line X.env=pure false:=by rfl)(hw:swappedStores [tg] e X.env=pure none:=by rfl)
  (h1:(assignEach [tg] X.env).map (·.2)=[assign tg X.env]:=by rfl):PS X (.Assign [tg] e pos) (KA te g):=by
 intro pins s σ H D I h
 refine wpAny_Assign_stores (bS (he pins s σ H _ I h) fun v s1 ⟨x,H1,I1,r1,q1⟩=>?_) hs hw
 rw [h1]
 exact bS (hg pins s1 σ H1 x v _ I1 r1 q1) fun _ s2 q=>q
theorem aB{i:Nat}{x:Str}{e:Expr}{te:TE}{pos':Pos}(hN:X.N.Nodup)(hi:X.N[i]?=some x)(hx:Loc X.env.scope x)(he:PE X e te)(hs:swapsWith e (some (.Name x pos')) pos.line X.env=pure false:=by rfl)(hf:X.fn x=true\/X.env.scope.names.lookup x=some .local:=by first|exact .inl rfl|exact .inr rfl|assumption) :
  PS X (.Assign [.Name x pos'] e pos) (KA te (fN i)):=by
 intro pins s σ H D I h
 refine wpAny_Assign_Name (bS (he pins s σ H _ I h) fun v s1 ⟨y,H1,I1,r1,q1⟩=>?_) hs
 exact qW I1 hN hi hx r1 (fun s2 I2=>⟨_,H1,I2,q1⟩) hf
end
section
variable {X:Cx}{pos:Pos}
def Gr(c:TT)(tb:TS):TS:=fun D σ H=>∃ W:Nat->St->Hp->Prop,(∃ m,W m σ H)/\∀ m σ H,W m σ H ->
 c σ H fun b H1=>if b=true then ∃ N:St->Hp->Prop,(∀ σ' H',N σ' H'->∃ m',m'<m/\W m' σ' H')/\tb { D with nx:=N,ct:=N,bk:=D.nx } σ H1 else D.nx σ H1
theorem za{c:Expr}{body:List Stmt}{tc:TT}{tb:TS}(hp:PassesOwn (model X.prog X.w) X.A X.env X.xe)(hc:PT X c tc)(hb:nv X body tb):PS X (.While c body [] pos) (Gr tc tb):=by
 intro pins s σ H D I h
 obtain ⟨W,⟨m0,w0⟩,turn⟩:=h
 refine wpAny_While (codeAny_whileLoop (fun n s'=>∃ σ' H',Inv X pins σ' H' s'/\W n σ' H') ?_ m0 ⟨σ,H,I,w0⟩)
 rintro n s1 ⟨σ1,H1,I1,w1⟩
 refine wpAny_passesOwn hp (bS (hc pins s1 σ1 H1 _ I1 (turn n σ1 H1 w1)) fun b s2 ⟨H2,I2,q2⟩=>?_)
 cases b with
 | true =>
  obtain ⟨N,hN,q2⟩:=q2
  rw [if_pos rfl]
  refine wpAny_passesOwn hp (bS (hb pins s2 σ1 H2 _ I2 q2) fun f s3 q3=>?_)
  cases f with
  | next =>
   obtain ⟨σ3,H3,I3,n3⟩:=q3
   obtain ⟨m',hm,w3⟩:=hN σ3 H3 n3
   exact⟨m',hm,σ3,H3,I3,w3⟩
  | cont =>
   obtain ⟨σ3,H3,I3,n3⟩:=q3
   obtain ⟨m',hm,w3⟩:=hN σ3 H3 n3
   exact⟨m',hm,σ3,H3,I3,w3⟩
  | brk=>exact q3
  | ret v=>exact q3
 | false =>
  rw [if_neg Bool.false_ne_true]
  exact wpAny_execs_nil ⟨σ1,H2,I2,q2⟩
end
structure It where
 go:Nat->Hp->Prop
 Kb:Nat->Hp->V->Hp->Prop
 stop:Nat->Hp->Prop
def l9(X:Cx)(pins:List (Addr×Obj))(H:Hp)(b:Addr):Prop :=
 H b=none/\b≠X.env.locals/\b∉X.fs/\(b∈X.ex\/X.s₀.heap.objs.size<=b)/\(∀ x c,X.env.cells.lookup x=some c->c≠b)/\∀ p∈X.pn++pins,p.1≠b
theorem Inv.Ej{X:Cx}{pins:List (Addr×Obj)}{σ:St}{H H':Hp}{s:Shared}{b:Addr}(I:Inv X pins σ H s)(hb:s.heap.objs.size<=b)(hn:H' b=none):l9 X pins H' b:=by
 refine⟨hn,Nat.ne_of_gt (Nat.lt_of_lt_of_le I.lt hb),I.U4 hb,.inr (aah I.sz hb),fun x c e z=>?_,fun p hp z=>?_⟩
 ·obtain ⟨v,q⟩:=I.cell x c e
  exact absurd (Nat.lt_of_lt_of_le q.lt (by rw [z];exact hb)) (Nat.lt_irrefl _)
 ·exact absurd (Nat.lt_of_lt_of_le (aae (I.pin p hp).1) (by rw [z];exact hb)) (Nat.lt_irrefl _)
structure Turn(P:Program)(w:World)(K:Frag)(tg:Expr)(J:It)(fp:List Addr)(it:Addr)(tn:Nat->Heap->Prop):Prop where
 mem:it∈fp
 obj:∀ i h,tn i h->∀ b∈fp,∃ o,h.get? b=some o/\∀ v,o.data≠.cell v
 keep:∀ i h h',tn i h->(∀ b∈fp,∀ o,h.get? b=some o->h'.get? b=some o)->tn i h'
 item:∀ (X:Cx),X.prog=P->X.w=w->X.K=K->X.calm=true->∀ (i:Nat) (pins:List (Addr×Obj)) (s:Shared) (σ:St) (H:Hp) (E:Value->Shared->Prop),Inv X pins σ H s->(∀ b∈fp,l9 X pins H b)->tn i s.heap->J.go i H ->
  wpAny (model P w) X.A (pyNext (.ref it)) (fun r s1=>∃ u,r=some u /\
   wpAny (model P w) X.A (letOwnedTupleGo tg (.ref it) u) (fun _ s2=>∃ x H',Inv X pins σ H' s2/\RelV x u/\J.Kb i H x H'/\tn (i+1) s2.heap/\∀ b∈fp,H' b=none) E s1) E s
 done:∀ (X:Cx),X.prog=P->X.w=w->X.K=K->X.calm=true->∀ (i:Nat) (pins:List (Addr×Obj)) (s:Shared) (σ:St) (H:Hp) (E:Value->Shared->Prop),Inv X pins σ H s->(∀ b∈fp,l9 X pins H b)->tn i s.heap->J.stop i H ->
  wpAny (model P w) X.A (pyNext (.ref it)) (fun r s1=>r=none/\Inv X pins σ H s1) E s
 self:∀ (A:Around) (i:Nat) (s:Shared) (Q:Value->Shared->Prop) (E:Value->Shared->Prop),tn i s.heap->Q (.ref it) s->wpAny (model P w) A (pyIter (.ref it)) Q E s
abbrev TI:=St->Hp->(It->Hp->Prop)->Prop
def X7(X:Cx)(pins:List (Addr×Obj))(σ:St)(tg:Expr)(R:It->Hp->Prop)(Q7:Value)(s2:Shared):Prop :=
 ∃ (it:Addr) (fp:List Addr) (tn:Nat->Heap->Prop) (J:It) (H':Hp),Q7=.ref it/\Inv X pins σ H' s2/\Turn X.prog X.w X.K tg J fp it tn/\tn 0 s2.heap/\(∀ b∈fp,l9 X pins H' b)/\R J H'
def PI(X:Cx)(tg iter:Expr)(wi:TI):Prop :=
 ∀ (pins:List (Addr×Obj)) (s:Shared) (σ:St) (H:Hp) (R:It->Hp->Prop),Inv X pins σ H s->wi σ H R ->
  wpAny (model X.prog X.w) X.A (eval iter X.env) (fun v s1=>wpAny (model X.prog X.w) X.A (pyIter v) (X7 X pins σ tg R) X.xe s1) X.xe s
theorem zb{M : Model}{A : Around}{E : Value -> Shared -> Prop}{s : Shared}{tg : Expr}{it : Addr}{u : Value}{o : Obj}{n : String}{vs : Array Value}{Q : Unit -> Shared -> Prop}(ho : s.heap.get? it=some o)(hc : o.cls=.type n)(hd : o.data=.fields vs)
    (hn : ["enumerate", "zip", "dict_itemiterator", "dict_reverseitemiterator", "odict_iterator", "itertools.zip_longest", "itertools.pairwise"].contains n=false) (hQ : Q () s) : wpAny M A (letOwnedTupleGo tg (.ref it) u) Q E s := by
  unfold letOwnedTupleGo
  cases tg <;> first
    | exact aau hQ
    | (cases u <;> first
        | exact aau hQ
        | (refine aac (wpAny_load ho ?_)
           rw [hc, hd]
           show wpAny M A (if (["enumerate", "zip", "dict_itemiterator", "dict_reverseitemiterator", "odict_iterator", "itertools.zip_longest", "itertools.pairwise"].contains n && vs[0]? == some (rawInt _))=true then _ else _) Q E s
           rw [if_neg (by intro h;rw [hn, Bool.false_and] at h;cases h)]
           exact aau hQ))
def Qu(K:Frag)(a:Addr):It :=
 ⟨fun i H=>∃ xs x,bA K H a xs/\xs[i]?=some x,fun i H x H'=>H'=H/\∀ xs,bA K H a xs->xs[i]?=some x,fun i H=>∃ xs,bA K H a xs/\xs.length<=i⟩
def F7(K:Frag)(a:Addr):It :=
 ⟨fun i H=>∃ xs x,bh K H a xs/\xs[i]?=some x,fun i H x H'=>H'=H/\∀ xs,bh K H a xs->xs[i]?=some x,fun i H=>∃ xs,bh K H a xs/\xs.length<=i⟩
def KC(lo:Int)(n:Nat):It:=⟨fun i _=>i<n,fun i H x H'=>H'=H/\x=.int (lo+i),fun i _=>n<=i⟩
theorem Ek{P:Program}{w:World}{K:Frag}{tg:Expr}(a it:Addr):Turn P w K tg (Qu K a) [it] it (fun i h=>h.IsListIter it a i) where
 mem:=by simp
 obj:=fun i h st b hb=>by
  have e:b=it:=by simpa using hb
  subst e
  obtain ⟨o,e,c,d⟩:=st
  exact⟨o,e,fun v z=>by rw [d] at z;cases z⟩
 keep:=fun i h h' st k=>st.at fun o e=>k it (by simp) o e
 item:=by
  intro X hP hw hK hc i pins s σ H E I hf st hg
  subst hP hw hK
  obtain ⟨xs,x,hq,hx⟩:=hg
  obtain ⟨its,rv,p,hz⟩:=I.list hq
  obtain ⟨u,hu,ru⟩:=rv.get hx
  obtain ⟨f0,f1,f2,f3,f4,f5⟩:=hf it (by simp)
  refine wpAny_pyNext_list_item st p.isList (x:=u) (by simpa using hu) fun h' Dc sb=>?_
  have I1:Inv X pins σ H { s with heap:=h' }:=I.turned (t':=s.toks) (fun b o hb e=>(sb.2 b hb).trans e) f0 f1 f3 f4 f5
  obtain ⟨o,e,c,d⟩:=id Dc
  exact⟨u,rfl,zb (s:={ s with heap:=h' }) e c d (by decide) ⟨x,H,I1,ru,⟨rfl,fun ys hy=>by rw [I.y9 hy hq];exact hx⟩,Dc,fun b hb=>(hf b hb).1⟩⟩
 done:=by
  intro X hP hw hK hc i pins s σ H E I hf st hg
  subst hP hw hK
  obtain ⟨xs,hq,hx⟩:=hg
  obtain ⟨its,rv,p,hz⟩:=I.list hq
  obtain ⟨f0,f1,f2,f3,f4,f5⟩:=hf it (by simp)
  have hl:=rv.length
  exact wpAny_pyNext_list_end (I.ok.hd hc) st p.isList (by simp;lia) fun h' eb=>⟨rfl,I.turned (t':=s.toks) (fun b o hb e=>eb b o hb e) f0 f1 f3 f4 f5⟩
 self:=fun _ _ _ _ _ st h=>wpAny_pyIter_listiter st h
theorem A9{P:Program}{w:World}{K:Frag}{tg:Expr}(a it:Addr):Turn P w K tg (F7 K a) [it] it (fun i h=>h.IsTupleIter it a i) where
 mem:=by simp
 obj:=fun i h st b hb=>by
  have e:b=it:=by simpa using hb
  subst e
  obtain ⟨o,e,c,d⟩:=st
  exact⟨o,e,fun v z=>by rw [d] at z;cases z⟩
 keep:=fun i h h' st k=>st.at fun o e=>k it (by simp) o e
 item:=by
  intro X hP hw hK hc i pins s σ H E I hf st hg
  subst hP hw hK
  obtain ⟨xs,x,hq,hx⟩:=hg
  obtain ⟨its,rv,p,hz⟩:=I.tuple hq
  obtain ⟨u,hu,ru⟩:=rv.get hx
  obtain ⟨f0,f1,f2,f3,f4,f5⟩:=hf it (by simp)
  refine wpAny_pyNext_tuple_item st (show s.heap.IsTuple a its.toArray from p) (x:=u) (by simpa using hu) fun h' Dc sb=>?_
  have I1:Inv X pins σ H { s with heap:=h' }:=I.turned (t':=s.toks) (fun b o hb e=>(sb.2 b hb).trans e) f0 f1 f3 f4 f5
  obtain ⟨o,e,c,d⟩:=id Dc
  exact⟨u,rfl,zb (s:={ s with heap:=h' }) e c d (by decide) ⟨x,H,I1,ru,⟨rfl,fun ys hy=>by rw [I.vt hy hq];exact hx⟩,Dc,fun b hb=>(hf b hb).1⟩⟩
 done:=by
  intro X hP hw hK hc i pins s σ H E I hf st hg
  subst hP hw hK
  obtain ⟨xs,hq,hx⟩:=hg
  obtain ⟨its,rv,p,hz⟩:=I.tuple hq
  obtain ⟨f0,f1,f2,f3,f4,f5⟩:=hf it (by simp)
  have hl:=rv.length
  exact wpAny_pyNext_tuple_end (I.ok.hd hc) st (show s.heap.IsTuple a its.toArray from p) (by simp;lia) fun h' eb=>⟨rfl,I.turned (t':=s.toks) (fun b o hb e=>eb b o hb e) f0 f1 f3 f4 f5⟩
 self:=fun _ _ _ _ _ st h=>wpAny_pyIter_tupleiter st h
theorem Ba{P:Program}{w:World}{K:Frag}{tg:Expr}(it:Addr)(lo:Int)(n:Nat):Turn P w K tg (KC lo n) [it] it (fun i h=>IsRangeIter h it (lo+(i:Nat)*1) ((n:Int) - (i:Nat)) 1) where
 mem:=by simp
 obj:=fun i h st b hb=>by
  have e:b=it:=by simpa using hb
  subst e
  exact⟨_,st,fun v z=>by
   have z':Data.fields _=Data.cell v:=z
   cases z'⟩
 keep:=fun i h h' st k=>k it (by simp) _ st
 item:=by
  intro X hP hw hK hc i pins s σ H E I hf st hg
  subst hP hw hK
  obtain ⟨f0,f1,f2,f3,f4,f5⟩:=hf it (by simp)
  have W:=Walks.range (prog:=X.prog) (w:=X.w) (I.ok.hd hc) it lo 1 n
  refine W.item i s _ _ hg st fun v h' tk hv Dc kk=>?_
  obtain ⟨t,rfl⟩:=hv
  have I1:Inv X pins σ H { s with heap:=h',toks:=tk }:=I.turned (fun b o hb e=>kk b o (by simpa using hb) e) f0 f1 f3 f4 f5
  refine⟨_,rfl,zb (s:={ s with heap:=h',toks:=tk }) (n:="range_iterator") Dc rfl rfl (by decide) ⟨.int (lo+i),H,I1,⟨t,?_⟩,⟨rfl,rfl⟩,Dc,fun b hb=>(hf b hb).1⟩⟩
  rw [Int.mul_one]
 done:=by
  intro X hP hw hK hc i pins s σ H E I hf st hg
  subst hP hw hK
  obtain ⟨f0,f1,f2,f3,f4,f5⟩:=hf it (by simp)
  exact wpAny_pyNext_range_end (I.ok.hd hc) st (by have:n<=i:=hg;lia) fun h' eb=>⟨rfl,I.turned (t':=s.toks) (fun b o hb e=>eb b o hb e) f0 f1 f3 f4 f5⟩
 self:=fun _ _ _ _ _ st h=>wpAny_pyIter_rangeiter st h
section
variable {X:Cx}{tg:Expr}
def Gs(K:Frag)(tl:TE):TI:=fun σ H R=>tl σ H fun x H1=>∃ a,x=.ref a/\(∃ xs,bA K H1 a xs)/\R (Qu K a) H1
def NM(K:Frag)(tl:TE):TI:=fun σ H R=>tl σ H fun x H1=>∃ a,x=.ref a/\(∃ xs,bh K H1 a xs)/\R (F7 K a) H1
theorem KD{l:Expr}{tl:TE}(hl:PE X l tl):PI X tg l (Gs X.K tl):=by
 intro pins s σ H R I h
 refine bS (hl pins s σ H _ I h) fun v s1 ⟨x,H1,I1,r1,q1⟩=>?_
 obtain ⟨a,e,⟨xs,hq⟩,q⟩:=q1
 subst e
 cases r1
 obtain ⟨its,rv,p,hz⟩:=I1.list hq
 refine wpAny_pyIter_list p.isList ?_
 refine⟨s1.heap.objs.size,[s1.heap.objs.size],_,_,H1,rfl,I1.kept (t':=s1.toks) fun b o e=>aab _ e,Ek a _,⟨_,aaf _ rfl,rfl,rfl⟩,fun b hb=>?_,q⟩
 have e:b=s1.heap.objs.size:=by simpa using hb
 subst e
 exact I1.Ej (aai _) (I1.aR.fresh (aai _))
theorem NN{l:Expr}{tl:TE}(hl:PE X l tl):PI X tg l (NM X.K tl):=by
 intro pins s σ H R I h
 refine bS (hl pins s σ H _ I h) fun v s1 ⟨x,H1,I1,r1,q1⟩=>?_
 obtain ⟨a,e,⟨xs,hq⟩,q⟩:=q1
 subst e
 cases r1
 obtain ⟨its,rv,p,hz⟩:=I1.tuple hq
 refine wpAny_pyIter_tuple (show s1.heap.IsTuple a its.toArray from p) ?_
 refine⟨s1.heap.objs.size,[s1.heap.objs.size],_,_,H1,rfl,I1.kept (t':=s1.toks) fun b o e=>aab _ e,A9 a _,⟨_,aaf _ rfl,rfl,rfl⟩,fun b hb=>?_,q⟩
 have e:b=s1.heap.objs.size:=by simpa using hb
 subst e
 exact I1.Ej (aai _) (I1.aR.fresh (aai _))
theorem zc{pins:List (Addr×Obj)}{σ:St}{H:Hp}{s:Shared}{R:It->Hp->Prop}{E:Value->Shared->Prop}{lo hi:Int}{t u v:Tok}{tk:Nat}(I:Inv X pins σ H s)(h1:-(2 ^ 62)<=lo)(h2:lo<2 ^ 62)(h3:-(2 ^ 62)<=hi)(h4:hi<2 ^ 62)
  (q:R (KC lo (hi - lo).toNat) H):wpAny (model X.prog X.w) X.A (pyIter (.ref s.heap.objs.size)) (X7 X pins σ tg R) E { s with heap:=s.heap.push { cls:=.type "range",data:=.fields #[.int lo t,.int hi u,.int 1 v] },toks:=tk }:=by
 refine wpAny_pyIter_range (IsRange.new ..) (small_one h1 h2 h3 h4) ?_
 have I1:Inv X pins σ H { s with heap:=s.heap.push { cls:=.type "range",data:=.fields #[.int lo t,.int hi u,.int 1 v] },toks:=tk }:=I.kept fun b o e=>aab _ e
 refine⟨(s.heap.push { cls:=.type "range",data:=.fields #[.int lo t,.int hi u,.int 1 v] }).objs.size,[(s.heap.push { cls:=.type "range",data:=.fields #[.int lo t,.int hi u,.int 1 v] }).objs.size],_,_,H,rfl,
  I1.kept (t':=tk) fun b o e=>aab _ e,Ba _ lo (hi - lo).toNat,?_,fun b hb=>?_,q⟩
 ·have e1:lo+((0:Nat):Int)*1=lo:=by simp
  have e2:(((hi - lo).toNat:Nat):Int) - ((0:Nat):Int)=Builtin.Range.rangeSize lo hi 1:=by rw [rangeSize_one];split <;> lia
  show IsRangeIter _ _ (lo+((0:Nat):Int)*1) ((((hi - lo).toNat:Nat):Int) - ((0:Nat):Int)) 1
  rw [e1,e2]
  exact aaf _ rfl
 ·have e:b=(s.heap.push { cls:=.type "range",data:=.fields #[.int lo t,.int hi u,.int 1 v] }).objs.size:=by simpa using hb
  subst e
  exact I1.Ej (aai _) (I1.aR.fresh (aai _))
def MF(ta:TA):TI:=fun σ H R=>ta σ H fun vs H1=>∃ j:Int,vs=[.int j]/\-(2 ^ 62)<=j/\j<2 ^ 62/\R (KC 0 j.toNat) H1
def MG(ta:TA):TI:=fun σ H R=>ta σ H fun vs H1=>∃ i j:Int,vs=[.int i,.int j]/\(-(2 ^ 62)<=i/\i<2 ^ 62/\-(2 ^ 62)<=j/\j<2 ^ 62)/\R (KC i (j - i).toNat) H1
theorem nz {a:Expr} {ta:TA} {p pos:Pos} (hg:Gl X "range") (hm:X.mg "range"=none) (ha:PA X [a] ta) (hs:starEach [a] X.env=[(false,eval a X.env)]:=by rfl):PI X tg (.Call (.Name "range" p) [a] [] pos) (MF ta):=by
 intro pins s σ H R I h
 refine Call_ (lD I hg hm boot_range (callWith_type1 (bS (ha pos pins s σ H _ I h) fun us s1 ⟨vs,H1,I1,r1,q1⟩=>?_) hs rfl))
 obtain ⟨j,e,q1,q2,q⟩:=q1
 subst e
 cases r1 with
 | cons r rr =>
  cases rr
  obtain ⟨t,rfl⟩:=r
  exact call_range_1 (zc I1 (by lia) (by lia) q1 q2 (by simpa using q))
theorem El {a b:Expr} {ta:TA} {p pos:Pos} (hg:Gl X "range") (hm:X.mg "range"=none) (ha:PA X [a,b] ta) (hs:starEach [a,b] X.env=[(false,eval a X.env),(false,eval b X.env)]:=by rfl) (iB:starEach [b] X.env=[(false,eval b X.env)]:=by rfl) :
  PI X tg (.Call (.Name "range" p) [a,b] [] pos) (MG ta):=by
 intro pins s σ H R I h
 refine Call_ (lD I hg hm boot_range (callWith_type1 (bS (ha pos pins s σ H _ I h) fun us s1 ⟨vs,H1,I1,r1,q1⟩=>?_) (by rw [hs,iB]) (by rw [iB];rfl)))
 obtain ⟨i,j,e,⟨q1,q2,q3,q4⟩,q⟩:=q1
 subst e
 cases r1 with
 | cons r rr =>
  cases rr with
  | cons r' rr =>
   cases rr
   obtain ⟨t,rfl⟩:=r
   obtain ⟨t',rfl⟩:=r'
   exact call_range_2 (zc I1 q1 q2 q3 q4 q)
def Q8(wi:TI)(g:TG)(tb:TS):TS:=fun D σ H=>wi σ H fun J H1=>∃ W:Nat->Nat->St->Hp->Prop,(∃ m,W 0 m σ H1)/\∀ i m σ H,W i m σ H ->
 (J.stop i H/\D.nx σ H)\/(J.go i H/\∃ N:St->Hp->Prop,(∀ σ' H',N σ' H'->∃ m',m'<m/\W (i+1) m' σ' H')/\∀ x H',J.Kb i H x H'->g x σ H' fun σ2 H2=>tb { D with nx:=N,ct:=N,bk:=D.nx } σ2 H2)
def f6(fp:List Addr)(h:Heap):List (Addr×Obj):=fp.filterMap fun b=>(h.get? b).map fun o=>(b,o)
theorem cf{fp:List Addr}{h:Heap}{b:Addr}{o:Obj}(hb:b∈fp)(e:h.get? b=some o):(b,o)∈f6 fp h:=List.mem_filterMap.mpr ⟨b,hb,by rw [e];rfl⟩
theorem Em{fp:List Addr}{h:Heap}{p:Addr×Obj}(hp:p∈f6 fp h):p.1∈fp/\h.get? p.1=some p.2:=by
 obtain ⟨b,hb,e⟩:=List.mem_filterMap.mp hp
 cases q:h.get? b with
 | none=>rw [q] at e;cases e
 | some o =>
  rw [q] at e
  have e':(b,o)=p:=aao e
  subst e'
  exact⟨hb,q⟩
theorem Inv.pinned{pins:List (Addr×Obj)}{σ:St}{H:Hp}{s:Shared}{fp:List Addr}(I:Inv X pins σ H s)(hf:∀ b∈fp,l9 X pins H b)(ho:∀ b∈fp,∃ o,s.heap.get? b=some o/\∀ v,o.data≠.cell v):Inv X (pins++f6 fp s.heap) σ H s :=
 I.ei fun p hp=>(aaB.mp hp).elim (fun z=>I.pin p (aay _ z)) fun z=>by
  obtain ⟨hb,e⟩:=Em z
  obtain ⟨f0,f1,f2,_⟩:=hf p.1 hb
  obtain ⟨o,e',d⟩:=ho p.1 hb
  rw [e] at e';cases e'
  exact⟨e,f0,f1,f2,d⟩
theorem Inv.il{pins pl:List (Addr×Obj)}{σ:St}{H:Hp}{s:Shared}(I:Inv X (pins++pl) σ H s):Inv X pins σ H s:=I.ei fun p hp=>I.pin p (aay _ (aaz _ hp))
theorem fH{iter:Expr}{body:List Stmt}{wi:TI}{g:TG}{tb:TS}{pos:Pos}(hp:PassesOwn (model X.prog X.w) X.A X.env X.xe)(hc:X.calm=true)(hi:PI X tg iter wi)(hg:PG X tg g)(hb:nv X body tb)
  (hs:∀ x,foldedSetIterable iter X.env x=pure x:=by intro _;rfl):PS X (.For tg iter body [] pos) (Q8 wi g tb):=by
 intro pins s σ H D I h
 refine wpAny_For (bS (hi pins s σ H _ I h) fun v s1 h1=>bS h1 fun Q7 s2 h2=>?_) hs
 obtain ⟨it,fp,tn,J,H2,e,I2,T,Kc,f2,W,⟨m0,w0⟩,turn⟩:=h2
 subst e
 have NO:∀ {H':Hp},(∀ b∈fp,H' b=none)->∀ b∈fp,l9 X pins H' b:=fun hn b hb=>⟨hn b hb,(f2 b hb).2⟩
 refine codeAny_forLoop_any (fun n s'=>∃ i σ' H',Inv X pins σ' H' s'/\tn i s'.heap/\(∀ b∈fp,H' b=none)/\W i n σ' H') ?_ m0 ⟨0,σ,H2,I2,Kc,fun b hb=>(f2 b hb).1,w0⟩
 rintro n s3 ⟨i,σ3,H3,I3,vv,X8,w3⟩
 rcases turn i n σ3 H3 w3 with ⟨stop,qn⟩|⟨go,N,hN,step⟩
 ·refine wpAny_passesOwn hp (bS (T.done X rfl rfl rfl hc i pins s3 σ3 H3 X.xe I3 (NO X8) vv stop) fun r s4 ⟨hr,I4⟩=>?_)
  subst hr
  exact wpAny_execs_nil ⟨σ3,H3,I4,qn⟩
 ·refine wpAny_passesOwn hp (bS (T.item X rfl rfl rfl hc i pins s3 σ3 H3 X.xe I3 (NO X8) vv go) fun r s4 ⟨u,hr,h4⟩=>?_)
  subst hr
  refine wpAny_passesOwn hp (bS h4 fun _ s5 ⟨x,H5,I5,r5,y5,F8,Kd⟩=>?_)
  have Zm:=I5.pinned (NO Kd) (T.obj _ _ F8)
  refine wpAny_passesOwn hp (bS (hg _ s5 σ3 H5 x u _ Zm r5 (step x H5 y5)) fun _ s6 ⟨σ6,H6,I6,q6⟩=>?_)
  refine wpAny_passesOwn hp (bS (hb _ s6 σ6 H6 _ I6 q6) fun f s7 q7=>?_)
  have again:∀ {σ7:St} {H7:Hp},Inv X (pins++f6 fp s5.heap) σ7 H7 s7->N σ7 H7->∃ m,m<n/\∃ i σ' H',Inv X pins σ' H' s7/\tn i s7.heap/\(∀ b∈fp,H' b=none)/\W i m σ' H':=fun {σ7 H7} I7 n7=>by
   obtain ⟨m',hm,w7⟩:=hN σ7 H7 n7
   refine⟨m',hm,i+1,σ7,H7,I7.il,T.keep _ _ _ F8 fun b hb o e=>(I7.pin (b,o) (aay _ (aay _ (cf hb e)))).1,fun b hb=>?_,w7⟩
   obtain ⟨o,e,d⟩:=T.obj _ _ F8 b hb
   exact (I7.pin (b,o) (aay _ (aay _ (cf hb e)))).2.1
  cases f with
  | next=>obtain ⟨σ7,H7,I7,n7⟩:=q7;exact again I7 n7
  | cont=>obtain ⟨σ7,H7,I7,n7⟩:=q7;exact again I7 n7
  | brk=>obtain ⟨σ7,H7,I7,q7⟩:=q7;exact⟨σ7,H7,I7.il,q7⟩
  | ret v=>obtain ⟨x7,σ7,H7,I7,r7,q7⟩:=q7;exact⟨x7,σ7,H7,I7.il,r7,q7⟩
end
theorem Dd{K:Frag}{a:Addr}{xs:List V}{g:TG}{tb:TS}{D:Ends}{σ:St}{H:Hp}(Pv:Nat->St->Hp->Prop)(h0:Pv 0 σ H)(hl:∀ i σ H,i<=xs.length->Pv i σ H->bh K H a xs)
  (hs:∀ i x σ H,xs[i]?=some x->Pv i σ H->g x σ H fun σ2 H2=>tb { D with nx:=Pv (i+1),ct:=Pv (i+1),bk:=D.nx } σ2 H2) (hd:∀ σ H,Pv xs.length σ H->D.nx σ H) :
  ∃ W:Nat->Nat->St->Hp->Prop,(∃ m,W 0 m σ H)/\∀ i m σ H,W i m σ H ->
   ((F7 K a).stop i H/\D.nx σ H)\/((F7 K a).go i H/\∃ N:St->Hp->Prop,(∀ σ' H',N σ' H'->∃ m',m'<m/\W (i+1) m' σ' H')/\∀ x H',(F7 K a).Kb i H x H'->g x σ H' fun σ2 H2=>tb { D with nx:=N,ct:=N,bk:=D.nx } σ2 H2):=by
 refine⟨fun i m σ H=>m=xs.length - i/\i<=xs.length/\Pv i σ H,⟨xs.length,by simp,aaT _,h0⟩,?_⟩
 rintro i m σ H ⟨rfl,hi,p⟩
 have q:=hl i σ H hi p
 by_cases nA:i<xs.length
 ·refine .inr ⟨⟨xs,xs[i],q,by simp [nA]⟩,Pv (i+1),fun σ' H' p'=>⟨xs.length - (i+1),by lia,rfl,nA,p'⟩,fun x H' y=>?_⟩
  obtain ⟨e,y⟩:=y
  subst e
  exact hs i x σ _ (y xs q) p
 ·have e:i=xs.length:=by lia
  subst e
  exact .inl ⟨⟨xs,q,aai _⟩,hd σ H p⟩
abbrev R2:=V->V->Hp->VK->Prop
def ij(X:Cx)(f:Value->Value->Sem Value)(r:R2):Prop :=
 ∀ (pins:List (Addr×Obj)) (s:Shared) (σ:St) (H:Hp) (x y:V) (v u:Value) (Q:VK),Inv X pins σ H s->RelV x v->RelV y u->r x y H Q ->
  wpAny (model X.prog X.w) X.A (f v u) (EP X pins σ Q) X.xe s
def cq(X:Cx)(f:Value)(r:List V->Hp->VK->Prop):Prop :=
 ∀ (pins:List (Addr×Obj)) (s:Shared) (σ:St) (H:Hp) (xs:List V) (us:List Value) (Q:VK),Inv X pins σ H s->Vals xs us->r xs H Q ->
  wpAny (model X.prog X.w) X.A (call f us) (EP X pins σ Q) X.xe s
def Qv(r:R2)(ta tb:TE):TE:=fun σ H Q=>ta σ H fun x H1=>tb σ H1 fun y H2=>r x y H2 Q
def rI(C:Int->Int->Prop)(g:Int->Int->V):R2:=fun x y H Q=>∃ i j,x=.int i/\y=.int j/\C i j/\Q (g i j) H
def KG(g:Int->Int->V):R2:=fun x y H Q=>∃ i j,x=.int i/\y=.int j/\Q (g i j) H
section
variable {X:Cx}{a b c:Expr}{ta tb tc:TE}{pos:Pos}
theorem NP(ha:PE X a ta)(hb:PE X b tb){pins:List (Addr×Obj)}{s:Shared}{σ:St}{H:Hp}{R:V->V->Hp->Prop}(I:Inv X pins σ H s)
  (h:ta σ H fun x H1=>tb σ H1 fun y H2=>R x y H2) {Q:Value->Shared->Prop} {f:Value->Value->Sem Value}
  (hf:∀ v u s2 x y H2,Inv X pins σ H2 s2->RelV x v->RelV y u->R x y H2->wpAny (model X.prog X.w) X.A (f v u) Q X.xe s2) :
  wpAny (model X.prog X.w) X.A (eval a X.env) (fun v s₁=>wpAny (model X.prog X.w) X.A (eval b X.env) (fun u s₂=>wpAny (model X.prog X.w) X.A (f v u) Q X.xe s₂) X.xe s₁) X.xe s:=by
 refine bS (ha pins s σ H _ I h) fun v s1 ⟨x,H1,I1,r1,q1⟩=>?_
 refine bS (hb pins s1 σ H1 _ I1 q1) fun u s2 ⟨y,H2,I2,r2,q2⟩=>?_
 exact hf v u s2 x y H2 I2 r1 r2 q2
theorem aw{op:Operator}{r:R2}(ho:ij X (binaryOp op) r)(ha:PE X a ta)(hb:PE X b tb):PE X (.BinOp a op b pos) (Qv r ta tb):=by
 intro pins s σ H Q I h
 exact wpAny_BinOp (NP ha hb I h fun v u s2 x y H2 I2 rx ry q=>ho pins s2 σ H2 x y v u Q I2 rx ry q)
theorem Qw{f:Value->Value->Sem Value}{C:Int->Int->Prop}{g:Int->Int->Int}
  (rule:∀ (i j:Int) (t u:Tok) (s:Shared) (Q:Value->Shared->Prop) (E:Value->Shared->Prop),C i j->Q (.int (g i j) s.toks) { s with toks:=s.toks+1 }->wpAny (model X.prog X.w) X.A (f (.int i t) (.int j u)) Q E s) :
  ij X f (rI C fun i j=>.int (g i j)):=by
 intro pins s σ H x y v u Q I rx ry h
 obtain ⟨i,j,rfl,rfl,hc,q⟩:=h
 obtain ⟨t,rfl⟩:=rx
 obtain ⟨t',rfl⟩:=ry
 exact rule i j t t' s _ _ hc ⟨.int (g i j),H,I.tok _,⟨_,rfl⟩,q⟩
theorem Q9{f:Value->Value->Sem Value}{g:Int->Int->Int}
  (rule:∀ (i j:Int) (t u:Tok) (s:Shared) (Q:Value->Shared->Prop) (E:Value->Shared->Prop),Q (.int (g i j) s.toks) { s with toks:=s.toks+1 }->wpAny (model X.prog X.w) X.A (f (.int i t) (.int j u)) Q E s) :
  ij X f (KG fun i j=>.int (g i j)):=by
 intro pins s σ H x y v u Q I rx ry h
 obtain ⟨i,j,rfl,rfl,q⟩:=h
 obtain ⟨t,rfl⟩:=rx
 obtain ⟨t',rfl⟩:=ry
 exact rule i j t t' s _ _ ⟨.int (g i j),H,I.tok _,⟨_,rfl⟩,q⟩
theorem NQ{f:Value->Value->Sem Value}{g:Int->Int->Bool}
  (rule:∀ (i j:Int) (t u:Tok) (s:Shared) (Q:Value->Shared->Prop) (E:Value->Shared->Prop),Q (.bool (g i j)) s->wpAny (model X.prog X.w) X.A (f (.int i t) (.int j u)) Q E s) :
  ij X f (KG fun i j=>.bl (g i j)):=by
 intro pins s σ H x y v u Q I rx ry h
 obtain ⟨i,j,rfl,rfl,q⟩:=h
 obtain ⟨t,rfl⟩:=rx
 obtain ⟨t',rfl⟩:=ry
 exact rule i j t t' s _ _ ⟨.bl (g i j),H,I,rfl,q⟩
def U8(i j:Int):Prop:=0<j/\j<1073741824
def U9(i j:Int):Prop:=0<=j/\j<=1000000/\i.natAbs<2 ^ 64
def NR(i j:Int):Prop:=(-(2 ^ 64)<i/\i<2 ^ 64)\/(-(2 ^ 64)<j/\j<2 ^ 64)
theorem NR.ok{i j:Int}(h:NR i j):IntMulOk i j:=by
 rcases h with ⟨h1,h2⟩|⟨h1,h2⟩
 ·exact .of_left (intBits_le_64 h1 h2)
 ·exact .of_right (intBits_le_64 h1 h2)
theorem bK:ij X (binaryOp .Add) (KG fun i j=>.int (i+j)):=Q9 fun _ _ _ _ _ _ _ q=>add_int q
theorem js:ij X (binaryOp .Sub) (KG fun i j=>.int (i - j)):=Q9 fun _ _ _ _ _ _ _ q=>sub_int q
theorem nB:ij X (binaryOp .Mult) (rI NR fun i j=>.int (i*j)):=Qw fun _ _ _ _ _ _ _ hc q=>mul_int q hc.ok
theorem ma:ij X (binaryOp .FloorDiv) (rI U8 fun i j=>.int (i / j)):=Qw fun i j _ _ _ _ _ hc q=>by
 have h1:(0:Int)<j:=hc.1
 have h2:j<1073741824:=hc.2
 exact floordiv_int (by lia) (by rw [aaw i (by lia)];exact q) (.inl (PyProof.noPylong_small (by lia)))
theorem cv:ij X (binaryOp .Mod) (rI (fun _ j=>0<j) fun i j=>.int (i % j)):=Qw fun i j _ _ _ _ _ hc q=>by
 have h1:(0:Int)<j:=hc
 exact mod_int' (by lia) (by rw [Int.fmod_eq_emod_of_nonneg i (by lia)];exact q)
theorem NS:ij X (binaryOp .Pow) (rI U9 fun i j=>.int (i ^ j.toNat)):=Qw fun _ _ _ _ _ _ _ hc q=>pow_int_small hc.1 hc.2.1 hc.2.2 q
end
def Ra:V->V->Bool
 | .dt,.dt=>true|.dt,.int _=>true|.int _,.dt=>true|.dt,.bl _=>true|.bl _,.dt=>true|.dt,.str _=>true|.str _,.dt=>true
 | .int _,.int _=>true|.bl _,.bl _=>true|.str _,.str _=>true|.F5 _,.F5 _=>true
 | .int _,.str _=>true|.str _,.int _=>true|.bl _,.str _=>true|.str _,.bl _=>true
 | _,_=>false
def Va:R2:=fun x y H Q=>Ra x y=true/\Q (.bl (decide (x=y))) H
def Vb:R2:=fun x y H Q=>Ra x y=true/\Q (.bl (!decide (x=y))) H
theorem De{i j:Int}:decide (V.int i=V.int j)=(i == j):=by
 rw [Bool.eq_iff_iff]
 simp
theorem Gu{i j:Bool}:decide (V.bl i=V.bl j)=(i == j):=by
 rw [Bool.eq_iff_iff]
 simp
theorem Df{i j:Str}:decide (V.str i=V.str j)=(i == j):=by
 rw [Bool.eq_iff_iff]
 simp
theorem Dg{i j:Array UInt8}:decide (V.F5 i=V.F5 j)=(i.toList == j.toList):=by
 rw [Bool.eq_iff_iff]
 cases i
 cases j
 simp
section
variable {X:Cx}{a b c:Expr}{ta tb tc:TE}{pos:Pos}
theorem aX{pins:List (Addr×Obj)}{σ:St}{H:Hp}{s:Shared}{Q:VK}{k k':Bool}(I:Inv X pins σ H s)(q:Q (.bl k) H)(e:k=k'):EP X pins σ Q (.bool k') s:=by
 subst e
 exact⟨.bl k,H,I,rfl,q⟩
theorem ip:ij X (compareOp .Eq) Va:=by
 intro pins s σ H x y v u Q I rx ry h
 obtain ⟨hs,q⟩:=h
 cases x with
 | dt =>
  cases rx
  cases y with
  | dt=>cases ry;exact PySem.EqNone.eq_none_none (aX I q (by simp))
  | bl j=>cases ry;exact PySem.EqNone.eq_none_bool (aX I q (by simp))
  | int j=>obtain ⟨t',rfl⟩:=ry;exact PySem.EqNone.eq_none_int (aX I q (by simp))
  | str j=>obtain ⟨t',rfl⟩:=ry;exact PySem.EqNone.eq_none_str (aX I q (by simp))
  | _=>exact absurd (show false=true from hs) Bool.false_ne_true
 | bl i =>
  cases rx
  cases y with
  | dt=>cases ry;exact PySem.EqNone.eq_bool_none (aX I q (by simp))
  | bl j=>cases ry;exact eq_bool (aX I q Gu)
  | str j=>obtain ⟨t',rfl⟩:=ry;exact PySem.EqMixed.eq_bool_str (aX I q (by simp))
  | _=>exact absurd (show false=true from hs) Bool.false_ne_true
 | int i =>
  obtain ⟨t,rfl⟩:=rx
  cases y with
  | dt=>cases ry;exact PySem.EqNone.eq_int_none (aX I q (by simp))
  | int j=>obtain ⟨t',rfl⟩:=ry;exact eq_int (aX I q De)
  | str j=>obtain ⟨t',rfl⟩:=ry;exact PySem.EqMixed.eq_int_str (aX I q (by simp))
  | _=>exact absurd (show false=true from hs) Bool.false_ne_true
 | str i =>
  obtain ⟨t,rfl⟩:=rx
  cases y with
  | dt=>cases ry;exact PySem.EqNone.eq_str_none (aX I q (by simp))
  | bl j=>cases ry;exact PySem.EqMixed.eq_str_bool (aX I q (by simp))
  | int j=>obtain ⟨t',rfl⟩:=ry;exact PySem.EqMixed.eq_str_int (aX I q (by simp))
  | str j=>obtain ⟨t',rfl⟩:=ry;exact eq_str (aX I q Df)
  | _=>exact absurd (show false=true from hs) Bool.false_ne_true
 | F5 i =>
  obtain ⟨t,rfl⟩:=rx
  cases y with
  | F5 j=>obtain ⟨t',rfl⟩:=ry;exact PySem.W.eq_bytes (aX I q Dg)
  | _=>exact absurd (show false=true from hs) Bool.false_ne_true
 | _=>cases y <;> exact absurd (show false=true from hs) Bool.false_ne_true
theorem zd:ij X (compareOp .NotEq) Vb:=by
 intro pins s σ H x y v u Q I rx ry h
 obtain ⟨hs,q⟩:=h
 cases x with
 | dt =>
  cases rx
  cases y with
  | dt=>cases ry;exact PySem.EqNone.ne_none_none (aX I q (by simp))
  | bl j=>cases ry;exact PySem.EqNone.ne_none_bool (aX I q (by simp))
  | int j=>obtain ⟨t',rfl⟩:=ry;exact PySem.EqNone.ne_none_int (aX I q (by simp))
  | str j=>obtain ⟨t',rfl⟩:=ry;exact PySem.EqNone.ne_none_str (aX I q (by simp))
  | _=>exact absurd (show false=true from hs) Bool.false_ne_true
 | bl i =>
  cases rx
  cases y with
  | dt=>cases ry;exact PySem.EqNone.ne_bool_none (aX I q (by simp))
  | bl j=>cases ry;exact ne_bool (aX I q (congrArg not Gu))
  | str j=>obtain ⟨t',rfl⟩:=ry;exact PySem.EqMixed.ne_bool_str (aX I q (by simp))
  | _=>exact absurd (show false=true from hs) Bool.false_ne_true
 | int i =>
  obtain ⟨t,rfl⟩:=rx
  cases y with
  | dt=>cases ry;exact PySem.EqNone.ne_int_none (aX I q (by simp))
  | int j=>obtain ⟨t',rfl⟩:=ry;exact ne_int (aX I q (congrArg not De))
  | str j=>obtain ⟨t',rfl⟩:=ry;exact PySem.EqMixed.ne_int_str (aX I q (by simp))
  | _=>exact absurd (show false=true from hs) Bool.false_ne_true
 | str i =>
  obtain ⟨t,rfl⟩:=rx
  cases y with
  | dt=>cases ry;exact PySem.EqNone.ne_str_none (aX I q (by simp))
  | bl j=>cases ry;exact PySem.EqMixed.ne_str_bool (aX I q (by simp))
  | int j=>obtain ⟨t',rfl⟩:=ry;exact PySem.EqMixed.ne_str_int (aX I q (by simp))
  | str j=>obtain ⟨t',rfl⟩:=ry;exact ne_str (aX I q (congrArg not Df))
  | _=>exact absurd (show false=true from hs) Bool.false_ne_true
 | F5 i =>
  obtain ⟨t,rfl⟩:=rx
  cases y with
  | F5 j=>obtain ⟨t',rfl⟩:=ry;exact PySem.W.ne_bytes (aX I q (congrArg not Dg))
  | _=>exact absurd (show false=true from hs) Bool.false_ne_true
 | _=>cases y <;> exact absurd (show false=true from hs) Bool.false_ne_true
theorem MH:ij X (compareOp .Lt) (KG fun i j=>.bl (decide (i<j))):=NQ fun _ _ _ _ _ _ _ q=>lt_int q
theorem Gv:ij X (compareOp .LtE) (KG fun i j=>.bl (decide (i<=j))):=NQ fun _ _ _ _ _ _ _ q=>le_int q
theorem ze:ij X (compareOp .Gt) (KG fun i j=>.bl (decide (j<i))):=NQ fun _ _ _ _ _ _ _ q=>gt_int q
theorem Eo:ij X (compareOp .In) (fun x y H Q=>∃ i j,x=.str i/\y=.str j/\Q (.bl (!(Builtin.Str.occurrences j i 0 j.length 1).isEmpty)) H):=by
 intro pins s σ H x y v u Q I rx ry h
 obtain ⟨i,j,rfl,rfl,q⟩:=h
 obtain ⟨t,rfl⟩:=rx
 obtain ⟨t',rfl⟩:=ry
 exact in_str (aX I q rfl)
theorem NU:ij X (compareOp .Is) (fun x y H Q=>y=.dt/\Q (.bl (decide (x=.dt))) H):=by
 intro pins s σ H x y v u Q I rx ry h
 obtain ⟨rfl,q⟩:=h
 cases ry
 refine is_none_gen (aX I q ?_)
 cases x <;> first
  | (cases rx;rfl)
  | (obtain ⟨t,rfl⟩:=rx;rfl)
theorem aZ(b:Expr){op:CmpOp}(h:op≠.In:=by decide)(h2:op≠.NotIn:=by decide):behindInMarks op b=false:=by
 have e1:(op == CmpOp.In)=false:=by cases op <;> first|rfl|exact absurd rfl h
 have e2:(op == CmpOp.NotIn)=false:=by cases op <;> first|rfl|exact absurd rfl h2
 cases b <;> simp [behindInMarks,e1,e2]
theorem qM{op:CmpOp}{r:R2}(ho:ij X (compareOp op) r)(ha:PE X a ta)(hb:PE X b tb)(hm:behindInMarks op b=false):PE X (.Compare a [op] [b] pos) (Qv r ta tb):=by
 intro pins s σ H Q I h
 exact wpAny_Compare1 (NP ha hb I h fun v u s2 x y H2 I2 rx ry q=>ho pins s2 σ H2 x y v u Q I2 rx ry q) hm
def Gw(t:TE):TT:=fun σ H Q=>t σ H fun x H'=>∃ k,x=.bl k/\Q k H'
theorem aT{op:CmpOp}{r:R2}(ho:ij X (compareOp op) r)(ha:PE X a ta)(hb:PE X b tb)(hm:behindInMarks op b=false):PT X (.Compare a [op] [b] pos) (Gw (Qv r ta tb)):=by
 intro pins s σ H Q I h
 refine wpAny_isTrue_Compare1 (bS (ha pins s σ H _ I h) fun v s1 ⟨x,H1,I1,r1,q1⟩=>bS (hb pins s1 σ H1 _ I1 q1) fun u s2 ⟨y,H2,I2,r2,q2⟩ =>
  bS (ho pins s2 σ H2 x y v u _ I2 r1 r2 q2) fun c s3 ⟨z,H3,I3,r3,k,e,q3⟩=>?_) hm
 subst e
 cases r3
 exact wpAny_truthy_bool ⟨H3,I3,q3⟩
def Gx(r r':R2)(ta tb tc:TE):TE:=fun σ H Q=>ta σ H fun x H1=>tb σ H1 fun y H2=>r x y H2 fun z H3=>∃ k,z=.bl k /\
 (if k=true then tc σ H3 fun w' H4=>r' y w' H4 Q else Q (.bl false) H3)
theorem Gy{op Vc:CmpOp}{r r':R2}(ho:ij X (compareOp op) r)(Gk:ij X (compareOp Vc) r')(ha:PE X a ta)(hb:PE X b tb)(hc:PE X c tc)
  (hm:lastMarks [op,Vc] [b,c]=false:=by with_unfolding_all rfl):PT X (.Compare a [op,Vc] [b,c] pos) (Gw (Gx r r' ta tb tc)):=by
 intro pins s σ H Q I h
 refine isTrue_chain (bS (ha pins s σ H _ I h) fun v s1 ⟨x,H1,I1,r1,q1⟩=>test_link (bS (hb pins s1 σ H1 _ I1 q1) fun u s2 ⟨y,H2,I2,r2,q2⟩ =>
  bS (ho pins s2 σ H2 x y v u _ I2 r1 r2 q2) fun d s3 ⟨z,H3,I3,r3,k,e,q3⟩=>?_)) hm
 subst e
 cases r3
 refine wpAny_truthy_bool ?_
 cases k with
 | false =>
  obtain ⟨k',e',q'⟩:=q3
  cases e'
  exact ite_ff ⟨H3,I3,q'⟩
 | true =>
  refine ite_tt (test_last (bS (hc pins s3 σ H3 _ I3 q3) fun w' s4 ⟨z',H4,I4,r4,q4⟩=>bS (Gk pins s4 σ H4 y z' u w' _ I4 r2 r4 q4) fun d' s5 ⟨z2,H5,I5,r5,k2,e2,q5⟩=>?_))
  subst e2
  cases r5
  exact wpAny_truthy_bool ⟨H5,I5,q5⟩
theorem nD:(sizeLine:Nat)<2 ^ 63:=by rw [sizeLine_eq];decide
theorem Bb:ij X (binaryOp .Add) (fun x y H Q=>∃ i j,x=.str i/\y=.str j/\i.length+j.length<=sizeLine/\Q (.str (i++j)) H):=by
 intro pins s σ H x y v u Q I rx ry h
 obtain ⟨i,j,rfl,rfl,hz,q⟩:=h
 obtain ⟨t,rfl⟩:=rx
 obtain ⟨t',rfl⟩:=ry
 exact add_str (fun t' tk=>⟨.str (i++j),H,I.tok _,⟨_,rfl⟩,q⟩) hz
theorem vals1{x:V}{us:List Value}(r:Vals [x] us):∃ u,us=[u]/\RelV x u:=by
 cases r with
 | cons r1 r2=>cases r2;exact⟨_,rfl,r1⟩
theorem vals2{x y:V}{us:List Value}(r:Vals [x,y] us):∃ u w',us=[u,w']/\RelV x u/\RelV y w':=by
 cases r with
 | cons r1 r2 =>
  cases r2 with
  | cons r3 r4=>cases r4;exact⟨_,_,rfl,r1,r3⟩
theorem Gz:cq X (.builtin "abs") (fun xs H Q=>∃ i,xs=[.int i]/\Q (.int (if i<0 then -i else i)) H):=by
 intro pins s σ H xs us Q I r h
 obtain ⟨i,rfl,q⟩:=h
 obtain ⟨u,rfl,t,rfl⟩:=vals1 r
 exact call_abs_int fun u tk=>⟨.int (if i<0 then -i else i),H,I.tok _,⟨_,rfl⟩,q⟩
theorem we:cq X (.type "str") (fun xs H Q=>∃ i,xs=[.int i]/\i.natAbs.log2<1920/\Q (.str (toString i)) H):=by
 intro pins s σ H xs us Q I r h
 obtain ⟨i,rfl,hz,q⟩:=h
 obtain ⟨u,rfl,t,rfl⟩:=vals1 r
 exact PySem.P.str_of_int hz ⟨.str _,H,I.tok _,⟨_,rfl⟩,q⟩
end
structure NV(h:Heap)(x dx C:Addr)(mA:Str->Option Value):Prop where
 obj:h.get? x=some (instObj C dx)
 ns:h.Ns1 dx mA
 ne:dx≠x
theorem kb{h:Heap}{dx:Addr}{mA:Str->Option Value}(n:h.Ns1 dx mA):∃ od,h.get? dx=some od/\∀ name,PySem.W.lookIn name od=some (mA name):=by
 obtain ⟨o,es,ep,ho,hd,hk,_,hm⟩:=n
 refine⟨o,ho,fun name=>?_⟩
 have e:=hm name
 unfold nsFind findBy at e
 rw [<- Array.find?_toList] at e
 unfold PySem.W.lookIn
 rw [hd]
 dsimp only
 split
 ·rename_i y q
  rw [q] at e
  exact congrArg some e
 ·rename_i q
  rw [q] at e
  have a:es.toList.any (·.refKey)=false:=by
   rw [List.any_eq_false]
   intro y hy
   obtain ⟨z,t,Vd⟩:=hk y (Array.mem_toList_iff.mp hy)
   simp [DictEntry.refKey,Vd]
  have a':¬ es.toList.any (·.refKey)=true:=by rw [a];exact Bool.false_ne_true
  rw [if_neg a']
  exact congrArg some e
theorem NV.look{h:Heap}{x dx C:Addr}{mA:Str->Option Value}(I:NV h x dx C mA):∃ od,PySem.W.InstAt h x (instObj C dx) C (some od)/\∀ name,PySem.W.lookIn name od=some (mA name) :=
 let ⟨od,ho,hl⟩:=kb I.ns
 ⟨od,⟨I.obj,rfl,rfl,ho⟩,hl⟩
def wg(f:Str)(v:V):List (Str×V)->List (Str×V)
 | []=>[(f,v)]
 | (g,x)::r=>if g=f then (g,v)::r else (g,x)::wg f v r
theorem pb(f g:Str)(v:V):∀ fs:List (Str×V),(wg f v fs).lookup g=if g=f then some v else fs.lookup g
 | []=>by
  show List.lookup g [(f,v)]=_
  by_cases h:g=f
  ·have hb:(g == f)=true:=beq_iff_eq.mpr h
   simp only [List.lookup,hb,if_pos h]
  ·have hb:(g == f)=false:=beq_eq_false_iff_ne.mpr h
   simp only [List.lookup,hb,if_neg h]
 | (k,x)::r=>by
  have ih:=pb f g v r
  rw [show wg f v ((k,x)::r)=(if k=f then (k,v)::r else (k,x)::wg f v r) from rfl]
  by_cases hk:k=f
  ·rw [if_pos hk]
   by_cases h:g=k
   ·have hb:(g == k)=true:=beq_iff_eq.mpr h
    simp only [List.lookup,hb,if_pos (h.trans hk)]
   ·have hb:(g == k)=false:=beq_eq_false_iff_ne.mpr h
    simp only [List.lookup,hb,if_neg (fun e:g=f=>h (e.trans hk.symm))]
  ·rw [if_neg hk]
   by_cases h:g=k
   ·have hb:(g == k)=true:=beq_iff_eq.mpr h
    simp only [List.lookup,hb,if_neg (fun e:g=f=>hk (h.symm.trans e))]
   ·have hb:(g == k)=false:=beq_eq_false_iff_ne.mpr h
    simp only [List.lookup,hb]
    exact ih
theorem ik.some_of{v:V}{o:Option Value}(r:ik (some v) o):∃ u,o=some u/\RelV v u:=by
 cases o with
 | none=>exact (show False from r).elim
 | some u=>exact⟨u,rfl,r⟩
theorem ik.none_of{o:Option Value}(r:ik none o):o=none:=by
 cases o with
 | none=>rfl
 | some u=>exact (show False from r).elim
theorem Ep{v:V}{u:Value}(r:RelV v u):PySem.W.handedIn u=true:=by
 cases v with
 | dt=>cases (show u=Value.none from r);rfl
 | bl b=>cases (show u=Value.bool b from r);rfl
 | int i=>obtain ⟨t,e⟩:=(show ∃ t,u=Value.int i t from r);cases e;rfl
 | str x=>obtain ⟨t,e⟩:=(show ∃ t,u=Value.str x t from r);cases e;rfl
 | F5 b=>obtain ⟨t,e⟩:=(show ∃ t,u=Value.bytes b t from r);cases e;rfl
 | NA b=>obtain ⟨t,e⟩:=(show ∃ t,u=Value.float b t from r);cases e;rfl
 | ref a=>cases (show u=Value.ref a from r);rfl
 | ty n=>cases (show u=Value.type n from r);rfl
section
variable {P:Program}{w:World}{H H':Hp}{h h':Heap}{a C dx:Addr}{fs Zl:List (Str×V)}
theorem KH(aR:eQ P w H h)(e:H a=some (.ins C dx fs)):∃ mA,NV h a dx C mA/\(∀ f,ik (fs.lookup f) (mA f))/\PySem.Within mA (fs.map (·.1))/\fs.length<=1000/\H dx=some (.own a):=by
 obtain ⟨d,z,ne,ob,mA,n,r,q⟩:=(show bJ P w H h a (.ins C dx fs) from aR a _ e)
 exact⟨mA,⟨ob,n,ne⟩,r,q,z,d⟩
end
structure Ve(K:Frag)(C:Addr):Prop where
 pg:plainGet K C Str.empty=true
 hd:PySem.W.hasDictIn K C=true
 po:PySem.W.plainOver K C=true
 sa:findIn K (.ref C) "__setattr__"=some (some (.builtin "object.__setattr__"))
theorem Ve.get{K:Frag}{C:Addr}(c:Ve K C)(f:Str):plainGet K C f=true:=c.pg
def Bc(K:Frag)(C:Addr)(f:Str):Prop:=findIn K (.ref C) f=some none
theorem Bc.MI{K:Frag}{C:Addr}{f:Str}(n:Bc K C f):PySem.W.takerIn K C f=some none:=by
 unfold PySem.W.takerIn
 rw [show findIn K (.ref C) f=some none from n]
 rfl
section
variable {X:Cx}{pins:List (Addr×Obj)}{σ:St}{H:Hp}{s:Shared}{a C dx:Addr}{fs:List (Str×V)}{f:Str}{v:V}{A:Around}{E:Value->Shared->Prop}
theorem KI{prog:Program}{w:World}{env:Env}{e:Expr}{f:Str}{pos:Pos}{s:Shared}{Q:Value->Shared->Prop}(hb:attributeBase e f env (eval e env)=eval e env)
  (h:wpAny (model prog w) A (eval e env) (fun o s₁=>wpAny (model prog w) A (getAttr o f true) Q E s₁) E s):wpAny (model prog w) A (eval (.Attribute e f pos) env) Q E s :=
 Attribute_any_ h (by rw [arm_eval_Attribute,hb])
end
section
variable {X:Cx}{pins:List (Addr×Obj)}{σ:St}{H:Hp}{s:Shared}{A:Around}{E:Value->Shared->Prop}{Q:Value->Shared->Prop}{c:Value}{b:Bool}
inductive nE(K:Frag)(H:Hp):V->Value->Prop where
 | dt:nE K H .dt (.type "NoneType")
 | bl (x:Bool):nE K H (.bl x) (.type "bool")
 | int (i:Int):nE K H (.int i) (.type "int")
 | str (x:Str):nE K H (.str x) (.type "str")
 | NA (x:UInt64):nE K H (.NA x) (.type "float")
 | lst {a:Addr} {xs:List V} (e:H a=some (.lst xs)):nE K H (.ref a) (.type "list")
 | y3 {a:Addr} {o:Obj} {xs:List V} (e:H a=some (.y3 o (.lst xs))):nE K H (.ref a) (.type "list")
 | tup {a:Addr} {xs:List V} (e:H a=some (.tup xs)):nE K H (.ref a) (.type "tuple")
 | dK {a:Addr} {aC:List (Key×V)} (e:H a=some (.dK aC)):nE K H (.ref a) (.type "dict")
 | dT {a:Addr} {aC:List (List Key×V)} (e:H a=some (.dT aC)):nE K H (.ref a) (.type "dict")
 | ins {a C dx:Addr} {fs:List (Str×V)} (e:H a=some (.ins C dx fs)) (cl:Ve K C) (ha:findIn K (.ref C) "__class__"=some (some (.builtin "object.__class__")))
   (hn:specialIn K (.builtin "object.__class__") "__get__"=some (some (.builtin "getset_descriptor.__get__"))) (Qx:takesIn K (.builtin "object.__class__")=some true)
   (hm:mroIn K C (.type "object")=some true):nE K H (.ref a) (.ref C)
theorem Er{x:V}{u t:Value}(I:Inv X pins σ H s)(rx:RelV x u)(ty:nE X.K H x t)(e:PySem.W.kitOne X.K t c=some b)(h:∀ tk,Q (.bool b) { s with toks:=tk }) :
  wpAny (model X.prog X.w) A (call (.builtin "isinstance") [u,c]) Q E s:=by
 cases ty with
 | dt=>cases (show u=Value.none from rx);exact PySem.W.kia_one PySem.W.kitx_none I.iA True.intro e (fun z=>nomatch z) h
 | bl y=>cases (show u=Value.bool y from rx);exact PySem.W.kia_one PySem.W.kitx_bool I.iA True.intro e (fun z=>nomatch z) h
 | int i=>obtain ⟨t,q⟩:=(show ∃ t,u=Value.int i t from rx);cases q;exact PySem.W.kia_one PySem.W.kitx_int I.iA True.intro e (fun z=>nomatch z) h
 | str y=>obtain ⟨t,q⟩:=(show ∃ t,u=Value.str y t from rx);cases q;exact PySem.W.kia_one PySem.W.kitx_str I.iA True.intro e (fun z=>nomatch z) h
 | NA y=>obtain ⟨t,q⟩:=(show ∃ t,u=Value.float y t from rx);cases q;exact PySem.W.kia_one PySem.W.kitx_float I.iA True.intro e (fun z=>nomatch z) h
 | @lst a xs ea =>
  cases (show u=Value.ref a from rx)
  obtain ⟨_,_,n,_,h1⟩:=(show bJ X.prog X.w H s.heap a (.lst xs) from I.aR a _ ea)
  exact PySem.W.kia_one kitx_list I.iA ⟨_,h1,rfl⟩ e (fun z=>nomatch z) h
 | @y3 a ob xs ea =>
  cases (show u=Value.ref a from rx)
  obtain ⟨_,_,_,n,_,h1⟩:=(show bJ X.prog X.w H s.heap a (.y3 ob (.lst xs)) from I.aR a _ ea)
  exact PySem.W.kia_one kitx_list I.iA ⟨_,h1,rfl⟩ e (fun z=>nomatch z) h
 | @tup a xs ea =>
  cases (show u=Value.ref a from rx)
  obtain ⟨_,_,_,p⟩:=(show bJ X.prog X.w H s.heap a (.tup xs) from I.aR a _ ea)
  obtain ⟨o,h1,h2,_⟩:=p
  exact PySem.W.kia_one kitx_tuple I.iA ⟨o,h1,h2⟩ e (fun z=>nomatch z) h
 | @dK a aC ea =>
  cases (show u=Value.ref a from rx)
  obtain ⟨_,_,vs,_,p⟩:=(show bJ X.prog X.w H s.heap a (.dK aC) from I.aR a _ ea)
  obtain ⟨o,es,ep,h1,h2,_⟩:=p
  exact PySem.W.kia_one kitx_dict I.iA ⟨o,h1,h2.1⟩ e (fun z=>nomatch z) h
 | @dT a aC ea =>
  cases (show u=Value.ref a from rx)
  obtain ⟨_,_,xs,_,o,es,ep,h1,h2,_⟩:=(show bJ X.prog X.w H s.heap a (.dT aC) from I.aR a _ ea)
  exact PySem.W.kia_one kitx_dict I.iA ⟨o,h1,h2.1⟩ e (fun z=>nomatch z) h
 | @ins a C dx fs ea cl ha hn Qx hm =>
  cases (show u=Value.ref a from rx)
  obtain ⟨mA,O,_⟩:=KH I.aR ea
  obtain ⟨od,J,_⟩:=O.look
  exact PySem.W.kia_one (PySem.W.kitx_own (cl.get _) cl.hd ha hn Qx hm) I.iA J e (fun z=>nomatch z) h
end
structure de(k:Nat)(A:Around):Prop where
 hd:A.handled=none
 dp:A.depth+3*k+5<recursionLimit
 un:A.units+16*k+200<cLine
theorem de.mono{j k:Nat}{A:Around}(r:de k A)(h:j<=k):de j A:=⟨r.hd,by have:=r.dp;lia,by have:=r.un;lia⟩
theorem de.deeper{k:Nat}{A:Around}(r:de (k+1) A)(env:Env):de k (A.deeper env) :=
 ⟨r.hd,by have:=r.dp;show A.depth+1+3*k+5<_;lia,by have:=r.un;show A.units+3+16*k+200<_;lia⟩
theorem Bd {A:Around} {C:Addr} {us:List Value} {kw:List (Str×Value)}:(A.under (.builtin "type.__call__" ⟨.ref C::us,kw⟩)).depth=A.depth+1:=by
 first|rfl|simp [Around.under,Code.weight,Code.isCreation,Code.isGuard,Code.isCaller,Code.frames,Code.isFrame,guardIds]
theorem Be {A:Around} {C:Addr} {us:List Value} {kw:List (Str×Value)}:(A.under (.builtin "type.__call__" ⟨.ref C::us,kw⟩)).units=A.units+1:=by
 first|rfl|simp [Around.under,Code.cUnits,Code.frames,Code.isFrame]
theorem de.make {k:Nat} {A:Around} (r:de (k+1) A) (C:Addr) (us:List Value) (kw:List (Str×Value)):de k (A.under (.builtin "type.__call__" ⟨.ref C::us,kw⟩)) :=
 ⟨r.hd,by have:=r.dp;rw [Bd];lia,by have:=r.un;rw [Be];lia⟩
theorem de.depth{k:Nat}{A:Around}(r:de k A):A.depth<recursionLimit:=by have:=r.dp;lia
theorem de.units{k:Nat}{A:Around}(r:de k A):A.units+64<cLine:=by have:=r.un;lia
def NW:TA:=fun _ H Q=>Q [] H
def GA(ta:TE)(tr:TA):TA:=fun σ H Q=>ta σ H fun x H1=>tr σ H1 fun xs H2=>Q (x::xs) H2
section
variable {X:Cx}{e:Expr}{es:List Expr}{te:TE}{t:TA}{pos:Pos}
theorem af:PA X [] NW:=fun _ _ _ _ H Q I h=>Calls.spliced_nil ⟨[],H,I,.nil,h⟩
theorem aa(ha:PE X e te)(hr:PA X es t)(hs:starEach (e::es) X.env=(false,eval e X.env)::starEach es X.env:=by rfl):PA X (e::es) (GA te t):=by
 intro pos pins s σ H Q I h
 rw [hs]
 show wpAny _ _ (spliced ((false,eval e X.env)::backTo pos (starEach es X.env))) _ _ s
 refine Calls.spliced_cons (bS (ha pins s σ H _ I h) fun u s1 ⟨x,H1,I1,r1,q1⟩=>?_)
 exact bS (hr pos pins s1 σ H1 _ I1 q1) fun us s2 ⟨xs,H2,I2,r2,q2⟩=>⟨x::xs,H2,I2,.cons r1 r2,q2⟩
def Rb(t:TA):TE:=fun σ H Q=>t σ H fun xs H1=>xs.length<=sizeLine/\∀ p,H1 p=none->Q (.ref p) (upd H1 p (.tup xs))
def KJ(t:TA):TE:=fun σ H Q=>t σ H fun xs H1=>xs.length<=sizeLine/\∀ p,H1 p=none->Q (.ref p) (upd H1 p (.lst xs))
theorem bE{x1}(h:PA X es t):PE X (.Tuple es x1 pos) (Rb t):=by
 intro pins s σ H Q I hq
 refine wpAny_Tuple_spliced (bS (h pos pins s σ H _ I hq) fun us s1 ⟨xs,H1,I1,r,z,q⟩=>⟨by rw [<- r.length];exact z,?_⟩)
 have hf:H1 s1.heap.objs.size=none:=I1.aR.fresh (aai _)
 refine⟨.ref s1.heap.objs.size,upd H1 s1.heap.objs.size (.tup xs),I1.laid (t':=s1.toks) (fun b u e=>aab _ e) (aai _) ?_,rfl,q _ hf⟩
 exact⟨z,us,r,⟨_,aaf _ rfl,rfl,_,rfl⟩⟩
theorem eR(h:PA X es t):PE X (.List es pos) (KJ t):=by
 intro pins s σ H Q I hq
 refine wpAny_List_spliced (bS (h pos pins s σ H _ I hq) fun us s1 ⟨xs,H1,I1,r,z,q⟩=>⟨by rw [<- r.length];exact z,?_⟩)
 have hf:H1 s1.heap.objs.size=none:=I1.aR.fresh (aai _)
 refine⟨.ref s1.heap.objs.size,upd H1 s1.heap.objs.size (.lst xs),I1.laid (t':=s1.toks) (fun b u e=>aab _ e) (aai _) ?_,rfl,q _ hf⟩
 exact⟨z,us,0,r,aaf _ rfl⟩
end
abbrev Sp:=List V->Hp->VK->XK->Prop
abbrev A4:=List Env->Hp->Shared->XK->Value->Shared->Prop
structure qr(P:Program)(w:World)(K:Frag)(mg:Str->Option Value)(base:Heap)(A:Around)(outer:List Env)(s:Shared)(H:Hp):Prop where
 frames:A.frames=some outer
 mod:Mod K mg base
 bs:∀ b o,base.get? b=some o->s.heap.get? b=some o/\H b=none
 wb:base.objs.size<=s.heap.objs.size
 iC:s.heap.FunFrames base outer
 Ef:∀ b∈j2 outer,H b=none
 aR:eQ P w H s.heap
 bare:AllBare s.gens
def CE(outer:List Env)(P:Program)(w:World)(H:Hp)(s:Shared)(Q:VK)(u:Value)(s':Shared):Prop :=
 ∃ v H',s'.os=s.os/\AllBare s'.gens/\Un (j2 outer) [] H H' s.heap s'.heap/\eQ P w H' s'.heap/\RelV v u/\Q v H'
def CR(CX:A4)(outer:List Env)(P:Program)(w:World)(H:Hp)(s:Shared)(Q:VK)(E:XK)(r:Result)(s':Shared):Prop :=
 match r with
 | .ok (.ret u)=>CE outer P w H s Q u s'
 | .ok _=>False
 | .error e=>CX outer H s E e s'
structure rf(P:Program)(w:World)(K:Frag)(mg:Str->Option Value)(base:Heap)(CX:A4)(k:Nat)(f:Addr)(fd:FuncData)(ps:List Str)(sp:Sp):Prop where
 len:∀ vs H Q E,sp vs H Q E->vs.length=ps.length
 run:∀ (A:Around) (outer:List Env) (s:Shared) (H:Hp) (args:Args) (us:List Value) (vs:List V) (Q:VK) (E:XK),de k A->qr P w K mg base A outer s H->BindsTo s fd args (ps.zip us)->Vals vs us->sp vs H Q E ->
  codeAny (model P w) A (.call (.ref f) args) (CR CX outer P w H s Q E) s
theorem qr.make{P:Program}{w:World}{K:Frag}{mg:Str->Option Value}{base:Heap}{A:Around}{outer:List Env}{s:Shared}{H:Hp}(e:qr P w K mg base A outer s H)(C:Addr)(us:List Value)(kw:List (Str×Value)) :
  qr P w K mg base (A.under (.builtin "type.__call__" ⟨.ref C::us,kw⟩)) outer s H:=⟨by first|exact e.frames|(simpa [Around.under,Code.envs,Code.isFrame,pushEnvs] using e.frames),e.mod,e.bs,e.wb,e.iC,e.Ef,e.aR,e.bare⟩
section
variable {X:Cx}{pins:List (Addr×Obj)}{σ:St}{H:Hp}{s s':Shared}
theorem Inv.KL(I:Inv X pins σ H s):qr X.prog X.w X.K X.mg X.base X.A X.stack s H :=
 ⟨I.ok.frames,I.ok.mod,I.bs,aah I.ok.wb I.sz,I.stack,I.eh,I.aR,I.bare⟩
theorem Inv.after{Q:VK}{u:Value}(I:Inv X pins σ H s)(h:CE X.stack X.prog X.w H s Q u s'):EP X pins σ Q u s':=by
 obtain ⟨v,H',os,bare,un,aR,r,q⟩:=h
 obtain ⟨hh,g,d,t,Zn⟩:=s'
 obtain rfl:Zn=s.os:=os
 exact⟨v,H',I.call (h':=hh) (g':=g) (d':=d) (t':=t) (ch:=[]) un aR bare (fun b z=>absurd z (by simp)),r,q⟩
end
def Dh(sp:Sp)(MJ:List V)(E:XK)(t:TA):TE:=fun σ H Q=>t σ H fun vs H1=>sp (vs++MJ) H1 Q E
def Binds(K:Frag)(fd:FuncData)(ps:List Str)(ds:List Value):Prop :=
 ∀ (s:Shared) (us:List Value),K.In s.heap->(us++ds).length=ps.length->BindsTo s fd ⟨us,[]⟩ (ps.zip (us++ds))
theorem Binds.all{K:Frag}{fd:FuncData}{ps:List Str}(h:∀ us:List Value,us.length=ps.length->bindArgs fd ⟨us,[]⟩=pure (ps.zip us)):Binds K fd ps []:=fun s us _ hl=>by
 rw [append_nil] at hl ⊢
 exact .of_eq (h us hl)
def Passes(CX:A4)(X:Cx)(E:XK):Prop:=∀ (pins:List (Addr×Obj)) (σ:St) (H:Hp) (s:Shared) (e:Value) (s':Shared),Inv X pins σ H s->CX X.stack H s E e s'->X.xe e s'
section
variable {X:Cx}{CX:A4}{k:Nat}{f C:Addr}{fd:FuncData}{ps:List Str}{sp:Sp}{MJ:List V}{ds:List Value}{E:XK}{x m:Str}{p pos apos:Pos}{e o:Expr}{es:List Expr}{ta:TE}{t:TA}
theorem NX{pins:List (Addr×Obj)}{σ:St}{H:Hp}{s:Shared}{Q:VK}{us:List Value}{vs:List V}(F:rf X.prog X.w X.K X.mg X.base CX k f fd ps sp)(hr:de k X.A)(hb:Binds X.K fd ps ds)(hd:Vals MJ ds)(hx:Passes CX X E)
  (I:Inv X pins σ H s) (r:Vals vs us) (h:sp (vs++MJ) H Q E):wpAny (model X.prog X.w) X.A (call (.ref f) us) (EP X pins σ Q) X.xe s:=by
 have r2:Vals (vs++MJ) (us++ds):=r.append hd
 have hl:(us++ds).length=ps.length:=by rw [<- r2.length];exact F.len _ _ _ _ h
 refine wpAny_call (codeAny_mono (F.run X.A X.stack s H ⟨us,[]⟩ (us++ds) (vs++MJ) Q E hr I.KL (hb s us I.iA hl) r2 h) fun r s' hq=>?_)
 cases r with
 | error e=>exact hx pins σ H s e s' I hq
 | ok fl =>
  cases fl with
  | ret u=>exact I.after hq
  | next=>exact False.elim hq
  | brk=>exact False.elim hq
  | cont=>exact False.elim hq
theorem KN(F:rf X.prog X.w X.K X.mg X.base CX k f fd ps sp)(hr:de k X.A)(hg:Gl X x)(hm:X.mg x=some (.ref f))(hk:PySem.W.keepIn X.K (.ref f)=true)(hb:Binds X.K fd ps ds)(hd:Vals MJ ds)(hx:Passes CX X E)
  (ha:PA X (e::es) t) (me:(x == ("__debug__":Str))=false:=by decide) (he:starEach (e::es) X.env=(false,eval e X.env)::starEach es X.env:=by rfl) (jt:(backTo pos (starEach es X.env)).any (·.1)=false:=by rfl) :
  PE X (.Call (.Name x p) (e::es) [] pos) (Dh sp MJ E t):=by
 intro pins s σ H Q I h
 refine wpAny_Call_Name_kw (dk I hg hm ?_ me)
 refine callWith_K (h₀:=X.base) I.ok.mod.F6 hk (bS (ha pos pins s σ H _ I h) fun us s1 ⟨vs,H1,I1,r,q⟩=>⟨I1.iA,?_⟩) he jt
 exact NX F hr hb hd hx I1 r q
end
structure aE(N P:List Str)(sc:Scope):Prop where
 kind:sc.kind=.function
 co:sc.isCoroutine=false
 gen:sc.isGenerator=false
 nd:N.Nodup
 pre:N.take P.length=P
 par:∀ x∈P,sc.names.lookup x=some .local\/sc.names.lookup x=some .cell
 NY:∀ y∈sc.names,y.2≠.free
theorem vw{kindOf:Str->Option NameKind}{x:Str}:∀ {binds:List (Str×Value)} {m:Str->Option Value},(∀ v,(x,v)∉binds)->bindL kindOf binds m x=m x
 | [],_,_=>rfl
 | (n,v)::r,m,h=>by
  unfold bindL
  rw [vw fun w hw=>h w (aaF _ hw)]
  split
  ·have:x≠n:=by rintro rfl;exact h v mem_cons_self
   simp [this]
  ·rfl
theorem vx{kindOf:Str->Option NameKind}{x:Str}:∀ {binds:List (Str×Value)} {m:Str->Option Value},(∀ v,(x,v)∉binds)->bindC kindOf binds m x=m x
 | [],_,_=>rfl
 | (n,v)::r,m,h=>by
  unfold bindC
  rw [vx fun w hw=>h w (aaF _ hw)]
  split
  ·rfl
  ·have:x≠n:=by rintro rfl;exact h v mem_cons_self
   simp [this]
theorem vy{kindOf:Str->Option NameKind}{x:Str}{v:Value}:∀ {P:List Str} {vs:List Value} {i:Nat} {m:Str->Option Value},P.Nodup->P[i]?=some x->vs[i]?=some v->kindOf x=some .local ->
  bindL kindOf (P.zip vs) m x=some v
 | [],_,_,_,_,h,_,_=>by simp at h
 | _::_,[],_,_,_,_,h,_=>by simp at h
 | p::P,w::vs,0,m,nd,h1,h2,hk=>by
  simp at h1 h2;subst h1;subst h2
  show bindL kindOf ((p,w)::P.zip vs) m p=_
  unfold bindL
  rw [vw fun v hv=>(nodup_cons.mp nd).1 (of_mem_zip hv).1,if_pos hk]
  simp
 | p::P,w::vs,i+1,m,nd,h1,h2,hk=>by
  show bindL kindOf ((p,w)::P.zip vs) m x=_
  unfold bindL
  exact vy (i:=i) (nodup_cons.mp nd).2 (by simpa using h1) (by simpa using h2) hk
theorem vz{kindOf:Str->Option NameKind}{x:Str}{v:Value}:∀ {P:List Str} {vs:List Value} {i:Nat} {m:Str->Option Value},P.Nodup->P[i]?=some x->vs[i]?=some v->kindOf x≠some .local ->
  bindC kindOf (P.zip vs) m x=some v
 | [],_,_,_,_,h,_,_=>by simp at h
 | _::_,[],_,_,_,_,h,_=>by simp at h
 | p::P,w::vs,0,m,nd,h1,h2,hk=>by
  simp at h1 h2;subst h1;subst h2
  show bindC kindOf ((p,w)::P.zip vs) m p=_
  unfold bindC
  rw [vx fun v hv=>(nodup_cons.mp nd).1 (of_mem_zip hv).1,if_neg hk]
  simp
 | p::P,w::vs,i+1,m,nd,h1,h2,hk=>by
  show bindC kindOf ((p,w)::P.zip vs) m x=_
  unfold bindC
  exact vz (i:=i) (nodup_cons.mp nd).2 (by simpa using h1) (by simpa using h2) hk
def start(N:List Str)(vs:List V):St:=vs.map some++List.replicate (N.length - vs.length) none
def k7(CX:A4)(P:Program)(w:World)(K:Frag)(mg:Str->Option Value)(base:Heap)(N:List Str)(qual:Str)(scope:Scope)(f:Addr)(cd:Value)(A:Around)(outer:List Env)(s:Shared)(H:Hp)(E:XK):Cx where
 prog:=P
 w:=w
 K:=K
 mg:=mg
 base:=base
 A:=A.deeper (envOfC qual scope s.heap.objs.size f cd)
 N:=N
 s₀:=s
 H₀:=H
 env:=envOfC qual scope s.heap.objs.size f cd
 outer:=outer
 stack:=envOfC qual scope s.heap.objs.size f cd::outer
 ex:=[]
 calm:=true
 fn:=fun _=>true
 pn:=[]
 xe:=fun e s'=>wpAny (model P w) (A.deeper (envOfC qual scope s.heap.objs.size f cd)) (leaving (envOfC qual scope s.heap.objs.size f cd) e) (fun _ KO=>CX outer H s E e KO) (fun e' KO=>CX outer H s E e' KO) s'
theorem zf{sc:Scope}{n:Nat}{x:Str}(h:sc.names.lookup x=some .cell):∃ c,(cellsFrom n sc.names []).lookup x=some c:=by
 have q:=PySem.W.cellsFrom_some sc.names n [] (.inl h)
 exact aat.mp q
theorem vA{CX:A4}{P:Program}{w:World}{K:Frag}{mg:Str->Option Value}{base:Heap}{N ps:List Str}{qual:Str}{scope:Scope}{f:Addr}{cd:Value}{A:Around}{outer:List Env}{s s1:Shared}{H:Hp}{E:XK}{us:List Value}{vs:List V}
  (S:aE N ps scope) (hd:A.handled=none) (e0:qr P w K mg base A outer s H) (hl:vs.length=ps.length) (r:Vals vs us)
  (x:InCallC s s.heap.objs.size (bindL (envOfC qual scope s.heap.objs.size f cd).kindOf (ps.zip us) fun _=>none) (cellsFrom (s.heap.objs.size+1) scope.names []) (bindC (envOfC qual scope s.heap.objs.size f cd).kindOf (ps.zip us) fun _=>none) s1) :
  Inv (k7 CX P w K mg base N qual scope f cd A outer s H E) [] (start N vs) H s1:=by
 have jt:ps.length<=N.length:=by have:=congrArg List.length S.pre;rw [aaN] at this;lia
 obtain ⟨h1,tk,rfl,hk⟩:=x.done
 have Rc:∀ b:Addr,b∉(k7 CX P w K mg base N qual scope f cd A outer s H E).ex:=fun b z=>absurd (show b∈([]:List Addr) from z) (by simp)
 refine⟨⟨e0.mod,S.kind,rfl,rfl,aai _,fun y z c h1 h2=>?_,fun y hy=>?_,fun y c _ h=>?_,fun _=>hd,Around.frames_deeper e0.frames,.inr ⟨rfl,rfl⟩,fun b z=>absurd z (Rc b),e0.bs,e0.wb,fun b _ _=>Rc b,fun b z=>absurd z (Rc b),e0.iC,e0.Ef⟩,
  rfl,e0.bare,Un.kept hk,⟨_,x.toInCall.ns,fun i y v h1 h2 h3=>?_⟩,fun y c h=>⟨_,x.cell y c h⟩,e0.aR.fresh (aai _),fun y c h=>?_,fun p hp=>absurd (show p∈([]:List (Addr×Obj)) from hp) (by simp),e0.aR.kept hk,?_⟩
 ·exact name_of_addr x.apart (PySem.mem_of_lookup h1) (PySem.mem_of_lookup h2)
 ·have hy:scope.names.lookup y=some .cell\/scope.names.lookup y=some .free:=hy
  rcases hy with hy|hy
  ·exact zf hy
  ·exact absurd rfl (S.NY _ (PySem.mem_of_lookup hy))
 ·exact aaj (x.above y c (PySem.mem_of_lookup h))
 ·have hi:i<vs.length:=by
   unfold start at h2
   by_cases hi:i<vs.length
   ·exact hi
   ·rw [aam (by simpa using hi)] at h2
    rw [List.getElem?_replicate] at h2
    split at h2 <;> cases h2
  have ha:vs[i]?=some v:=by
   unfold start at h2
   rw [aal (by simpa using hi),aaP] at h2
   cases e:vs[i]? with
   | none=>rw [e] at h2;cases h2
   | some a=>rw [e] at h2;cases h2;rfl
  obtain ⟨u,hu,rv⟩:=r.get ha
  have hp:ps[i]?=some y:=by
   rw [<- S.pre,List.getElem?_take_of_lt (by lia)];exact h1
  have X9:ps.Nodup:=by rw [<- S.pre];exact S.nd.sublist (List.take_sublist _ _)
  refine⟨u,rv,?_⟩
  rcases S.par y (aaC hp) with k|k
  ·exact .inl ⟨k,vy X9 hp hu k⟩
  ·obtain ⟨c,e⟩:=zf (n:=s.heap.objs.size+1) k
   refine .inr ⟨.inl k,c,e,?_⟩
   have q:=x.cell y c e
   rw [vz X9 hp hu (by show scope.names.lookup y≠_;rw [k];decide)] at q
   exact q
 ·exact e0.aR.fresh (aaj (x.above y c (PySem.mem_of_lookup h)))
 ·unfold start
  show _=N.length
  rw [aaE,aaD,length_replicate]
  lia
theorem GB{CX:A4}{P:Program}{w:World}{K:Frag}{mg:Str->Option Value}{base:Heap}{k:Nat}{f:Addr}{name qual:Str}{params:Arguments}{body:List Stmt}{scope:Scope}{dV kV doc pm bU ct oc:Value}{an od:Option Addr}
  {Es:Array (Option Value)} {N ps:List Str} {sp:Sp} (lk:K.lookup f=some ⟨oc,od,.func (PySem.W.fnOf name qual params body scope dV kV doc pm an bU ct),Es⟩) (ny:PySem.W.codeIn K bU qual=true) (S:aE N ps scope)
  (len:∀ vs H Q E,sp vs H Q E->vs.length=ps.length)
  (iq:∀ (A:Around) (outer:List Env) (s:Shared) (H:Hp) (vs:List V) (Q:VK) (E:XK),de k (A.deeper (envOfC qual scope s.heap.objs.size f bU))->sp vs H Q E ->
   ∃ t,nv (k7 CX P w K mg base N qual scope f bU A outer s H E) body t/\t { nx:=fun _ H'=>Q .dt H',rt:=Q } (start N vs) H) :
  rf P w K mg base CX (k+1) f (PySem.W.fnOf name qual params body scope dV kV doc pm an bU ct) ps sp:=by
 refine⟨len,fun A outer s H args us vs Q E hr e0 hb r tq=>?_⟩
 have hl:=len _ _ _ _ tq
 have KX:K.In s.heap:=e0.mod.F6.keeps fun b o e=>(e0.bs b o e).1
 have lim:s.heap.NoLimit:=e0.mod.nolimit.keeps fun b o e=>(e0.bs b o e).1
 have Rf:∀ y∈ps.zip us,scope.names.lookup y.1=some .local\/(scope.names.lookup y.1=some .cell/\((cellsFrom (s.heap.objs.size+1) scope.names []).lookup y.1).isSome=true):=fun ⟨n,v⟩ hy=>by
  rcases S.par n (of_mem_zip hy).1 with q|q
  ·exact .inl q
  ·exact .inr ⟨q,PySem.W.cellsFrom_some _ _ _ (.inl q)⟩
 refine codeAny_call_function hr.depth (KX _ _ lk) rfl S.co S.gen rfl (PySem.W.codeRec_of KX ny) (hb _ _ _ _ ?_)
 refine wpAny_newFunctionEnv_cells S.kind Rf fun env he s1 x=>?_
 subst he
 refine⟨lim.keeps x.toInCall.keep,codeAny_func ?_⟩
 obtain ⟨t,ht,hq⟩:=iq A outer s H vs Q E (hr.deeper _) tq
 have I:Inv (k7 CX P w K mg base N qual scope f bU A outer s H E) [] (start N vs) H s1:=vA S hr.hd e0 hl r x
 refine aav (ht [] s1 (start N vs) H _ I hq) (fun fl s' hs=>?_) fun e s' hs=>hs
 have fin:∀ {σ':St} {H':Hp} {v:V} {u:Value},Inv (k7 CX P w K mg base N qual scope f bU A outer s H E) [] σ' H' s'->RelV v u->Q v H'->CE outer P w H s Q u s' :=
  fun {σ' H' v u} J rv q=>⟨v,H',J.os,J.bare,J.base,J.aR,rv,q⟩
 cases fl with
 | ret u =>
  obtain ⟨v,σ',H',J,rv,q⟩:=hs
  exact fin J rv q
 | next =>
  obtain ⟨σ',H',J,q⟩:=hs
  exact fin (v:=V.dt) (u:=Value.none) J rfl q
 | brk =>
  obtain ⟨_,_,_,q⟩:=hs
  exact False.elim q
 | cont =>
  obtain ⟨_,_,_,q⟩:=hs
  exact False.elim q
section
variable {X:Cx}{x:Str}{p pos:Pos}{e:Expr}{es:List Expr}{t:TA}{id T:String}{r:List V->Hp->VK->Prop}
def Vf(r:List V->Hp->VK->Prop)(t:TA):TE:=fun σ H Q=>t σ H fun vs H1=>r vs H1 Q
theorem aJ (hc:cq X (.builtin id) r) (hg:Gl X x) (hm:X.mg x=none) (hv:bootBuiltins x=some (.builtin id)) (ha:PA X (e::es) t) (hn:x≠"__name__":=by decide) (me:(x == ("__debug__":Str))=false:=by decide)
  (he:starEach (e::es) X.env=(false,eval e X.env)::starEach es X.env:=by rfl) (jt:(backTo pos (starEach es X.env)).any (·.1)=false:=by rfl):PE X (.Call (.Name x p) (e::es) [] pos) (Vf r t):=by
 intro pins s σ H Q I h
 refine wpAny_Call_Name_kw (lD I hg hm hv ?_ hn me)
 exact PyProof.Rows.callWith_builtin1 (bS (ha pos pins s σ H _ I h) fun us s1 ⟨vs,H1,I1,r1,q1⟩=>hc pins s1 σ H1 vs us Q I1 r1 q1) he jt
theorem bV (hc:cq X (.type T) r) (hg:Gl X x) (hm:X.mg x=none) (hv:bootBuiltins x=some (.type T)) (ha:PA X (e::es) t) (hn:x≠"__name__":=by decide) (me:(x == ("__debug__":Str))=false:=by decide)
  (he:starEach (e::es) X.env=(false,eval e X.env)::starEach es X.env:=by rfl) (jt:(backTo pos (starEach es X.env)).any (·.1)=false:=by rfl):PE X (.Call (.Name x p) (e::es) [] pos) (Vf r t):=by
 intro pins s σ H Q I h
 refine wpAny_Call_Name_kw (lD I hg hm hv ?_ hn me)
 exact callWith_type1 (bS (ha pos pins s σ H _ I h) fun us s1 ⟨vs,H1,I1,r1,q1⟩=>hc pins s1 σ H1 vs us Q I1 r1 q1) he jt
end
end L2
namespace HT
open PySem PyProof.Rows
section
variable {prog:Program}{w:World}{A:Around}{E:Value->Shared->Prop}{s:Shared}
theorem KP{t b:Addr}{vs ws:List Value}{Q:Value->Shared->Prop}(ht:IsTup s.heap t vs.toArray)(hb:IsTup s.heap b ws.toArray)(hv:vs≠[])
  (h1:ws=[]->Q (.ref t) s) (h2:ws≠[]->Q (.ref s.heap.objs.size) { s with heap:=s.heap.push { cls:=.type "tuple",data:=.seq (vs++ws).toArray } })
  (hsz:vs.length+ws.length<=sizeLine):wpAny (model prog w) A (binaryOp .Add (.ref t) (.ref b)) Q E s:=by
 obtain ⟨⟨cls,dd,data,sl⟩,ho,hc,n,hd⟩:=id ht
 obtain ⟨⟨Zo,Ya,data2,Yb⟩,Bf,Yc,n2,hd2⟩:=id hb
 simp only at hc hd Yc hd2
 subst hc hd Yc hd2
 have e:vs.toArray++ws.toArray=(vs++ws).toArray:=by simp
 by_cases hw:ws=[]
 ·exact concat_meets ⟨_,ho,rfl⟩ ⟨_,Bf,rfl⟩ noFill_tuple_add seq_tuple_add PySem.F.slot_tuple_add PySem.F.entry_tuple_add (PySem.F.args_tuple_add_2 _ _)
   (tuple_addW1 t b vs.toArray ws.toArray n n2 dd Ya sl Yb (by simpa using hv) (by simp [hw])) ⟨ho,Bf,h1 hw⟩
 ·refine concat_meets ⟨_,ho,rfl⟩ ⟨_,Bf,rfl⟩ noFill_tuple_add seq_tuple_add PySem.F.slot_tuple_add PySem.F.entry_tuple_add (PySem.F.args_tuple_add_2 _ _)
   (tuple_addW2 t b vs.toArray ws.toArray n n2 dd Ya sl Yb (by simpa using hv) (by simpa using hw) (by rw [aaO,aaO];exact hsz)) ⟨ho,Bf,?_⟩
  rw [e]
  exact h2 hw
def el(n d:Nat):Option Int->Nat
 | none=>d
 | some v=>if v<0 then (v+(n:Int)).toNat else min v.toNat n
theorem zg(n d:Nat):el n d none=d:=rfl
theorem Di(n d k:Nat):el n d (some (k:Int))=min k n:=by
 show (if (k:Int)<0 then ((k:Int)+(n:Int)).toNat else min (k:Int).toNat n)=min k n
 rw [if_neg (by lia),aaZ]
theorem NZ(n d:Nat)(hd:d<=n)(o:Option Int):el n d o<=n:=by
 cases o with
 | none=>exact hd
 | some v =>
  show (if v<0 then (v+(n:Int)).toNat else min v.toNat n)<=n
  by_cases hv:v<0
  ·rw [if_pos hv];lia
  ·rw [if_neg hv];exact min_le_right _ _
theorem Dj(v:Int)(n d:Nat):(if v<0 then max (v+(n:Int)) 0 else min v (n:Int))=((el n d (some v):Nat):Int):=by
 show (if v<0 then max (v+(n:Int)) 0 else min v (n:Int))=(((if v<0 then (v+(n:Int)).toNat else min v.toNat n):Nat):Int)
 by_cases hv:v<0
 ·simp only [if_pos hv];lia
 ·simp only [if_neg hv];lia
theorem Bg(lo hi:Option Int)(n:Nat):Builtin.Slice.sliceAdjust lo hi 1 (n:Int)=(((el n 0 lo:Nat):Int),((el n n hi:Nat):Int)):=by
 have h1:¬ ((1:Int)<0):=by lia
 unfold Builtin.Slice.sliceAdjust
 simp only [h1,if_false]
 refine Prod.ext ?_ ?_
 ·cases lo with
  | none=>rfl
  | some v=>exact Dj v n 0
 ·cases hi with
  | none=>rfl
  | some v=>exact Dj v n n
theorem Bh(i j:Nat):Builtin.Slice.slicePlaces (i:Int) (j:Int) 1=j - i:=by
 unfold Builtin.Slice.slicePlaces
 have h1:(1:Int) > 0:=by lia
 simp only [h1,if_true,Int.ediv_one]
 split <;> lia
theorem rh{v:Value}{o:Option Int}{Q:Option Int->Shared->Prop}(p:IsPart v o)(h:Q o s):wpAny (model prog w) A (Builtin.Slice.slicePartIndex v) Q E s:=by
 cases p with
 | none=>exact slicePart_none h
 | int i t=>exact slicePart_int h
theorem nF{sl:Addr}{vl vu:Value}{lo hi:Option Int}{n:Nat}{Q:Int×Int×Nat->Shared->Prop}(hs:s.heap.IsSliceOf sl vl vu .none)(pl:IsPart vl lo)(pu:IsPart vu hi)
  (h:Q (((el n 0 lo:Nat):Int),1,el n n hi - el n 0 lo) s):wpAny (model prog w) A (Builtin.Slice.sliceApplied (.ref sl) (pure (n:Int))) Q E s:=by
 obtain ⟨os,Rg,F9,Et⟩:=id hs
 unfold Builtin.Slice.sliceApplied Builtin.Slice.sliceFields
 refine aac (aac (wpAny_field Rg Et (x:=vl) rfl (aac (wpAny_field Rg Et (x:=vu) rfl (aac (wpAny_field Rg Et (x:=.none) rfl (aau ?_)))))))
 refine aac (slicePart_none ?_)
 show wpAny _ _ (if ((1:Int) == 0)=true then _ else _) _ _ s
 rw [if_neg (by decide)]
 refine aac (rh pl (aac (rh pu (aac (aau ?_)))))
 show wpAny _ _ (match Builtin.Slice.sliceAdjust lo hi 1 (n:Int) with|(lo,hi)=>pure (lo,(1:Int),Builtin.Slice.slicePlaces lo hi 1)) _ _ s
 rw [Bg lo hi n]
 show wpAny _ _ (pure (((el n 0 lo:Nat):Int),(1:Int),Builtin.Slice.slicePlaces ((el n 0 lo:Nat):Int) ((el n n hi:Nat):Int) 1)) _ _ s
 rw [Bh]
 exact aau h
theorem GC(xs:Array Value)(i k:Nat):((List.range k).filterMap fun (m:Nat)=>xs[((i:Int)+(m:Int)*1).toNat]?).toArray=((xs.toList.drop i).take k).toArray:=by
 have e:(fun (m:Nat)=>xs[((i:Int)+(m:Int)*1).toNat]?)=fun m=>xs[i+m]?:=by
  funext m
  have:((i:Int)+(m:Int)*1).toNat=i+m:=by lia
  rw [this]
 rw [e]
 have:=pick_run xs i k
 rw [List.filterMap_map] at this
 have e2:((fun x=>xs[x]?) ∘ fun x=>i+x)=fun m=>xs[i+m]?:=rfl
 rw [e2] at this
 rw [this]
theorem mh{t sl:Addr}{items:Array Value}{vl vu:Value}{lo hi:Option Int}{Q:Value->Shared->Prop}(ht:IsTup s.heap t items)(hs:s.heap.IsSliceOf sl vl vu .none)(pl:IsPart vl lo)(pu:IsPart vu hi)
  (hw:¬ (el items.size 0 lo=0/\el items.size items.size hi=items.size))
  (h:Q (.ref s.heap.objs.size) { s with heap:=s.heap.push { cls:=.type "tuple",data:=.seq ((items.toList.drop (el items.size 0 lo)).take (el items.size items.size hi - el items.size 0 lo)).toArray } })
  (hsz:items.size<=sizeLine):wpAny (model prog w) A (getItem (.ref t) (.ref sl)) Q E s:=by
 have Dk:sizeOk (.seq ((items.toList.drop (el items.size 0 lo)).take (el items.size items.size hi - el items.size 0 lo)).toArray):=by
  show ((items.toList.drop (el items.size 0 lo)).take (el items.size items.size hi - el items.size 0 lo)).toArray.size<=sizeLine
  rw [aaO,aaN,length_drop,Array.length_toList]
  exact aah (min_le_right _ _) (aah (Nat.sub_le _ _) hsz)
 have hj:el items.size items.size hi<=items.size:=NZ _ _ (aai _) hi
 obtain ⟨os,Rg,F9,Et⟩:=id hs
 have Zp:s.TypeIs (.ref sl) "slice":=⟨os,Rg,F9⟩
 unfold getItem
 try with_reducible refine wpAny_holding ?_
 first|refine aac (aau ?_)|skip
 refine aac (wpAny_sequenceKey ht.typeIs (by decide) ?_)
 refine aac (wpAny_callSpecial?_slot (name:=Str.ofString "__getitem__") ht.typeIs PyProof.Rows.slot_tuple_getitem
  (wpAny_call_entry PyProof.Rows.slot_tuple_getitem ht.typeIs entry_tuple_getitem ?_ (args_tuple_getitem _ _)))
 show wpAny _ _ (Builtin.Tuple.tupleItemsOf (.ref t) >>= _) _ _ s
 refine aac (tupleItemsOf_ ht ?_)
 refine aac (wpAny_typeOf Zp ?_)
 rw [if_pos (by decide)]
 refine aac (nF hs pl pu ?_)
 have GD:¬ ((((el items.size 0 lo:Nat):Int) == 0 && (1:Int) == 1 && (el items.size items.size hi - el items.size 0 lo) == items.size)=true):=by
  intro q
  rw [Bool.and_eq_true,Bool.and_eq_true] at q
  have q1:((el items.size 0 lo:Nat):Int)=0:=eq_of_beq q.1.1
  have q2:el items.size items.size hi - el items.size 0 lo=items.size:=eq_of_beq q.2
  exact hw ⟨by lia,by lia⟩
 show wpAny _ _ (if (((el items.size 0 lo:Nat):Int) == 0 && (1:Int) == 1 && (el items.size items.size hi - el items.size 0 lo) == items.size)=true then _ else _) _ _ s
 rw [if_neg GD,GC]
 first
  | exact aac (m:=Builtin.Tuple.tupleExact _) (wpAny_newObj_type (aau ⟨_,rfl,aau h⟩) Dk)
  | exact aac (m:=Builtin.Tuple.tupleExact _) (wpAny_newObj_type (aac (aau (aau ⟨_,rfl,aau h⟩))) Dk)
  | exact aac (aac (m:=Builtin.Tuple.tupleExact _) (wpAny_newObj_type (aau (aau ⟨_,rfl,aau h⟩)) Dk))
  | exact aac (aac (m:=Builtin.Tuple.tupleExact _) (wpAny_newObj_type (aau ⟨_,rfl,aau h⟩) Dk))
end
end HT
namespace L2
open PySem PySem.Spec PyProof.Rows
abbrev TO:=St->Hp->(Option Int->Hp->Prop)->Prop
def PO(X:Cx)(e:Option Expr)(t:TO):Prop :=
 ∀ (pins:List (Addr×Obj)) (s:Shared) (σ:St) (H:Hp) (Q:Option Int->Hp->Prop),Inv X pins σ H s->t σ H Q ->
  wpAny (model X.prog X.w) X.A (evalPart e X.env) (fun u s'=>∃ o H',Inv X pins σ H' s'/\IsPart u o/\Q o H') X.xe s
def Dl:TO:=fun _ H Q=>Q none H
def MK(t:TE):TO:=fun σ H Q=>t σ H fun x H1=>∃ i,x=.int i/\Q (some i) H1
theorem intsAre_of{ns:List Int}:∀ {us:List Value},Vals (ns.map V.int) us->IntsAre us ns:=by
 induction ns with
 | nil=>intro us r;rw [map_nil] at r;cases r;exact .nil
 | cons n ns ih =>
  intro us r
  rw [map_cons] at r
  cases r with
  | cons r1 r2 =>
   obtain ⟨t,e⟩:=r1
   subst e
   exact .cons n t (ih r2)
section
variable {X:Cx}{e:Expr}{te:TE}{lo hi:Option Expr}{tl th:TO}{pos p2:Pos}
theorem kf:PO X none Dl:=by
 intro pins s σ H Q I h
 rw [evalPart_none]
 exact aau ⟨none,H,I,.none,h⟩
theorem eZ(h:PE X e te):PO X (some e) (MK te):=by
 intro pins s σ H Q I hw
 rw [evalPart_some]
 refine bS (h pins s σ H _ I hw) fun u s1 ⟨x,H1,I1,r1,q1⟩=>?_
 obtain ⟨i,rfl,q⟩:=q1
 obtain ⟨t,rfl⟩:=r1
 exact⟨some i,H1,I1,.int i t,q⟩
def Qz(X:Cx)(r:V->Option Int->Option Int->Hp->VK->Prop):Prop :=
 ∀ (pins:List (Addr×Obj)) (s:Shared) (σ:St) (H:Hp) (x:V) (v vl vu:Value) (lo hi:Option Int) (sl:Addr) (Q:VK),Inv X pins σ H s->RelV x v->s.heap.IsSliceOf sl vl vu .none->IsPart vl lo->IsPart vu hi->r x lo hi H Q ->
  ∃ T id,typeLookup (.type T) "__getitem__"=pure (some (.builtin id))/\s.TypeIs v T/\wpAny (model X.prog X.w) X.A (getItem v (.ref sl)) (EP X pins σ Q) X.xe s
def Yd(r:V->Option Int->Option Int->Hp->VK->Prop)(te:TE)(tl th:TO):TE:=fun σ H Q=>te σ H fun x H1=>tl σ H1 fun l H2=>th σ H2 fun u H3=>r x l u H3 Q
theorem fh{r:V->Option Int->Option Int->Hp->VK->Prop}(hr:Qz X r)(he:PE X e te)(hl:PO X lo tl)(hu:PO X hi th):PE X (.Subscript e (.Slice lo hi none p2) pos) (Yd r te tl th):=by
 intro pins s σ H Q I h
 refine Subscript_ (bS (he pins s σ H _ I h) fun v s1 ⟨x,H1,I1,r1,q1⟩=>?_)
 refine wpAny_Slice (bS (hl pins s1 σ H1 _ I1 q1) fun vl s2 ⟨l,H2,I2,pl,q2⟩=>bS (hu pins s2 σ H2 _ I2 q2) fun vu s3 ⟨u,H3,I3,pu,q3⟩=>?_)
 rw [evalPart_none]
 refine aau ?_
 have I4:Inv X pins σ H3 { s3 with heap:=s3.heap.push { cls:=.type "slice",data:=.fields #[vl,vu,.none] } }:=I3.kept (t':=s3.toks) fun b ob q=>aab _ q
 obtain ⟨T,id,hT,ht,hg⟩:=hr pins { s3 with heap:=s3.heap.push { cls:=.type "slice",data:=.fields #[vl,vu,.none] } } σ H3 x v vl vu l u s3.heap.objs.size Q I4 r1 (Heap.IsSliceOf.new ..) pl pu q3
 show wpAny (model X.prog X.w) X.A (subscriptTail e (.Slice lo hi none p2) v (.ref s3.heap.objs.size)) (EP X pins σ Q) X.xe { s3 with heap:=s3.heap.push { cls:=.type "slice",data:=.fields #[vl,vu,.none] } }
 exact tail_any (ops:=[.ref s3.heap.objs.size,v]) ht hT hg (by with_unfolding_all rfl)
def nG(xs:List V)(lo hi:Option Int):List V:=(xs.drop (HT.el xs.length 0 lo)).take (HT.el xs.length xs.length hi - HT.el xs.length 0 lo)
theorem pf(xs:List V)(lo hi:Option Int):(nG xs lo hi).length<=xs.length:=by
 unfold nG
 rw [aaN,length_drop]
 lia
def N0(K:Frag):V->Option Int->Option Int->Hp->VK->Prop:=fun x lo hi H Q=>∃ a xs,x=.ref a/\bh K H a xs /\
 ¬ (HT.el xs.length 0 lo=0/\HT.el xs.length xs.length hi=xs.length)/\∀ p,H p=none->Q (.ref p) (upd H p (.tup (nG xs lo hi)))
theorem N1:Qz X (N0 X.K):=by
 intro pins s σ H x v vl vu lo hi sl Q I rx hs pl pu h
 obtain ⟨a,xs,rfl,hx,hw,q⟩:=h
 cases rx
 obtain ⟨its,r,ht,hz⟩:=I.tuple hx
 have hlen:its.toArray.size=xs.length:=by rw [aaO];exact r.length.symm
 refine⟨"tuple",_,PyProof.Rows.slot_tuple_getitem.lookup,ht.typeIs,?_⟩
 refine HT.mh ht hs pl pu (by rw [hlen];exact hw) ?_ (by rw [hlen];exact hz)
 rw [hlen]
 refine⟨.ref s.heap.objs.size,_,I.laid (t':=s.toks) (o:=.tup (nG xs lo hi)) (fun b ob q=>aab _ q) (aai _) ?_,rfl,q _ (I.aR.fresh (aai _))⟩
 exact⟨aah (pf xs lo hi) hz,_,(r.drop (HT.el xs.length 0 lo)).take (HT.el xs.length xs.length hi - HT.el xs.length 0 lo),IsTup.new _ _⟩
def GF(K:Frag):R2:=fun x y H Q=>∃ a b xs ys,x=.ref a/\y=.ref b/\bh K H a xs/\bh K H b ys/\xs≠[]/\xs.length+ys.length<=sizeLine /\
 (ys=[]->Q (.ref a) H)/\(ys≠[]->∀ p,H p=none->Q (.ref p) (upd H p (.tup (xs++ys))))
theorem Vals.wj{xs:List V}{us:List Value}(r:Vals xs us):us=[]↔xs=[]:=by
 cases r with
 | nil=>simp
 | cons _ _=>simp
theorem KQ:ij X (binaryOp .Add) (GF X.K):=by
 intro pins s σ H x y v u Q I rx ry h
 obtain ⟨a,b,xs,ys,rfl,rfl,ha,hb,hx,hz,q1,q2⟩:=h
 cases rx
 cases ry
 obtain ⟨its,r1,p1,_⟩:=I.tuple ha
 obtain ⟨N2,r2,p2,_⟩:=I.tuple hb
 refine HT.KP p1 p2 (fun z=>hx (r1.wj.mp z)) (fun z=>⟨.ref a,H,I,rfl,q1 (r2.wj.mp z)⟩) (fun z=>?_) (by rw [<- r1.length,<- r2.length];exact hz)
 refine⟨.ref s.heap.objs.size,_,I.laid (t':=s.toks) (o:=.tup (xs++ys)) (fun b ob q=>aab _ q) (aai _) ?_,rfl,q2 (fun w=>z (r2.wj.mpr w)) _ (I.aR.fresh (aai _))⟩
 exact⟨by rw [aaE];exact hz,_,r1.append r2,IsTup.new _ _⟩
end
def Ke(n:Nat)(i:Int):Option Nat:=if 0<=i then (if i<n then some i.toNat else none) else if -(n:Int)<=i then some (i+n).toNat else none
def Dm{α:Type}(xs:List α)(i:Int):Option α:=(Ke xs.length i).bind fun j=>xs[j]?
theorem wk{n:Nat}{i:Int}{j:Nat}(h:Ke n i=some j):seqIndex? i n=some j/\j<n/\-(n:Int)<=i/\i<n:=by
 unfold Ke at h
 by_cases h0:0<=i
 ·rw [if_pos h0] at h
  by_cases h1:i<n
  ·rw [if_pos h1] at h
   have e:i.toNat=j:=aao h
   exact⟨by rw [seqIndex_of h0 h1,e],by lia,by lia,h1⟩
  ·rw [if_neg h1] at h;cases h
 ·rw [if_neg h0] at h
  by_cases h1:-(n:Int)<=i
  ·rw [if_pos h1] at h
   have e:(i+n).toNat=j:=aao h
   exact⟨by rw [seqIndex_neg (by lia) h1,e],by lia,h1,by lia⟩
  ·rw [if_neg h1] at h;cases h
theorem wm{α:Type}{xs:List α}{i:Int}{v:α}(h:Dm xs i=some v):∃ j,seqIndex? i xs.length=some j/\xs[j]?=some v/\j<xs.length/\-(xs.length:Int)<=i/\i<xs.length:=by
 unfold Dm at h
 cases e:Ke xs.length i with
 | none=>rw [e] at h;cases h
 | some j =>
  rw [e] at h
  obtain ⟨h1,h2,h3,h4⟩:=wk e
  exact⟨j,h1,h,h2,h3,h4⟩
theorem iG{α:Type}{xs:List α}{j:Nat}{v:α}(h:xs[j]?=some v):Dm xs (j:Int)=some v:=by
 have hj:j<xs.length:=(aad.mp h).1
 have e:Ke xs.length (j:Int)=some j:=by
  unfold Ke
  rw [if_pos (by lia),if_pos (by lia)];simp
 unfold Dm;rw [e];exact h
def KR(b:Expr):Prop:=∀ o i,subscripted b false o i=operate [o,i] (getItem o i)
def GG(X:Cx)(r:R2):Prop :=
 ∀ (value slice:Expr) (pins:List (Addr×Obj)) (s:Shared) (σ:St) (H:Hp) (x y:V) (v u:Value) (Q:VK),Inv X pins σ H s->RelV x v->RelV y u->r x y H Q ->
  subscripted slice false v u=operate [v,u] (getItem v u)->wpAny (model X.prog X.w) X.A (subscriptTail value slice v u) (EP X pins σ Q) X.xe s
def Kf(X:Cx)(id:String)(r:V->List V->Hp->VK->Prop):Prop :=
 ∀ (pins:List (Addr×Obj)) (s:Shared) (σ:St) (H:Hp) (x:V) (xs:List V) (v:Value) (us:List Value) (Q:VK),Inv X pins σ H s->RelV x v->Vals xs us->r x xs H Q ->
  wpAny (model X.prog X.w) X.A (call (.builtin id) (v::us)) (EP X pins σ Q) X.xe s
section
variable {X:Cx}{a b:Expr}{ta tb:TE}{pos:Pos}
theorem GG.or{r r':R2}(h:GG X r)(h':GG X r'):GG X (fun x y H Q=>r x y H Q\/r' x y H Q):=by
 intro value slice pins s σ H x y v u Q I rx ry q hs
 rcases q with q|q
 ·exact h value slice pins s σ H x y v u Q I rx ry q hs
 ·exact h' value slice pins s σ H x y v u Q I rx ry q hs
theorem bL{r:R2}(hr:GG X r)(ha:PE X a ta)(hb:PE X b tb)(hs:KR b):PE X (.Subscript a b pos) (Qv r ta tb):=by
 intro pins s σ H Q I h
 exact Subscript_ (NP ha hb I h fun v u s2 x y H2 I2 rx ry q=>hr a b pins s2 σ H2 x y v u Q I2 rx ry q (hs _ _))
def Rh(K:Frag):R2:=fun x y H Q=>∃ p xs i v,x=.ref p/\y=.int i/\bA K H p xs/\Dm xs i=some v/\Q v H
def Ri(K:Frag):R2:=fun x y H Q=>∃ p xs i v,x=.ref p/\y=.int i/\bh K H p xs/\Dm xs i=some v/\Q v H
def N3:R2:=fun x y H Q=>∃ z i c,x=.str z/\y=.int i/\z.length<=sizeLine/\Dm z.cps.toList i=some c/\Q (.str ⟨#[c]⟩) H
theorem KS:GG X (Rh X.K):=by
 intro value slice pins s σ H x y v u Q I rx ry h hs
 obtain ⟨p,xs,i,z,rfl,rfl,hq,he,q⟩:=h
 cases rx
 obtain ⟨t,rfl⟩:=ry
 obtain ⟨its,r,pl,hz⟩:=I.list hq
 obtain ⟨j,h1,h2,h3,h4,h5⟩:=wm he
 obtain ⟨w,ew,Ga⟩:=r.get h2
 have hl:=r.length
 have hn:=nD
 have fin:EP X pins σ Q w s:=⟨z,H,I,Ga,q⟩
 by_cases h0:0<=i
 ·have hj:i.toNat=j:=by
   rw [seqIndex_of h0 h5] at h1
   exact aao h1
  exact item_listR pl.isList h0 (by lia) (by rw [hj];simpa using ew) fin hs
 ·have hj:(i+(its.toArray.size:Int)).toNat=j:=by
   rw [seqIndex_neg (by lia) h4] at h1
   rw [aaO,<- hl]
   exact aao h1
  exact subscriptTail_builtinR (x:=w) pl.isList.typeIs slot_list_getitem.lookup
   (wpAny_getItem_list_neg (Q:=fun r s'=>r=w/\EP X pins σ Q r s') pl.isList (by lia) (by rw [aaO] <;> lia) (by lia) (by rw [hj];simpa using ew) ⟨rfl,fin⟩) hs
theorem N4:GG X (Ri X.K):=by
 intro value slice pins s σ H x y v u Q I rx ry h hs
 obtain ⟨p,xs,i,z,rfl,rfl,hq,he,q⟩:=h
 cases rx
 obtain ⟨t,rfl⟩:=ry
 obtain ⟨its,r,pl,hz⟩:=I.tuple hq
 obtain ⟨j,h1,h2,h3,h4,h5⟩:=wm he
 obtain ⟨w,ew,Ga⟩:=r.get h2
 have hl:=r.length
 have hn:=nD
 have fin:EP X pins σ Q w s:=⟨z,H,I,Ga,q⟩
 exact subscriptTail_builtinR (x:=w) pl.typeIs slot_tuple_getitem.lookup
  (getItem_tuple (j:=j) (Q:=fun r s'=>r=w/\EP X pins σ Q r s') pl (by lia) (by lia) (by rw [aaO,<- hl];exact h1) (by simpa using ew) ⟨rfl,fin⟩) hs
theorem wo:GG X N3:=by
 intro value slice pins s σ H x y v u Q I rx ry h hs
 obtain ⟨z,i,c,rfl,rfl,hz,he,q⟩:=h
 obtain ⟨t,rfl⟩:=rx
 obtain ⟨t',rfl⟩:=ry
 obtain ⟨j,h1,h2,h3,h4,h5⟩:=wm he
 have hl:z.cps.toList.length=z.length:=by simp [Str.length]
 rw [hl] at h1 h4 h5
 have hn:=nD
 exact tail_any (typeIs_str s z t) slot_str_getitem.lookup (getItem_str (c:=c) (by
  have e1:decide (i < -(2 ^ 63:Int))=false:=aar (by lia)
  have e2:decide (i ≥ 2 ^ 63)=false:=aar (by lia)
  rw [e1,e2,Bool.or_false]) (by rw [h1];simpa using h2) ⟨.str ⟨#[c]⟩,H,I.tok _,⟨_,rfl⟩,q⟩) hs
def UB(K:Frag):R2:=fun x y H Q=>Rh K x y H Q\/Ri K x y H Q\/N3 x y H Q
theorem N5:GG X (UB X.K):=KS.or (N4.or wo)
theorem Bi (its:List Value) (n j:Nat) (u:Value):Obj.mapSeq (·.setIfInBounds j u) { cls:=.type "list",data:=.seq its.toArray n }={ cls:=.type "list",data:=.seq (its.set j u).toArray n }:=by
 simp [Obj.mapSeq]
theorem Inv.lst{pins:List (Addr×Obj)}{σ:St}{H:Hp}{s:Shared}{p:Addr}{xs:List V}(I:Inv X pins σ H s)(h:H p=some (.lst xs)) :
  ∃ (its:List Value) (n:Nat),Vals xs its/\s.heap.get? p=some { cls:=.type "list",data:=.seq its.toArray n }/\xs.length<=sizeLine:=by
 obtain ⟨z,its,n,r,e⟩:=I.aR p _ h
 exact⟨its,n,r,e,z⟩
theorem Inv.N6{pins:List (Addr×Obj)}{σ:St}{H:Hp}{s:Shared}{p:Addr}{xs ys:List V}{its its':List Value}{n n':Nat}{f:Obj->Obj}(I:Inv X pins σ H s)(h:H p=some (.lst xs))
  (ho:s.heap.get? p=some { cls:=.type "list",data:=.seq its.toArray n }) (hf:f { cls:=.type "list",data:=.seq its.toArray n }={ cls:=.type "list",data:=.seq its'.toArray n' }) (r:Vals ys its') (hz:ys.length<=sizeLine) (t:Nat) :
  Inv X pins σ (upd H p (.lst ys)) { s with heap:=s.heap.update p f,toks:=t }:=by
 have e:(s.heap.update p f).get? p=some { cls:=.type "list",data:=.seq its'.toArray n' }:=by
  rw [Heap.get?_update_self f ho (by rw [hf] <;> rfl),hf]
 refine I.write (x:=p) (e:=p) (by rw [h];trivial) (.inl rfl) (fun b u hb q=>(Heap.get?_update_other _ _ (Ne.symm hb)).trans q) ⟨_,e⟩ ?_
 exact⟨hz,its',n',r,e⟩
def ML:V->V->V->Hp->(Hp->Prop)->Prop:=fun o i v H Q=>∃ p xs k j,o=.ref p/\i=.int k/\H p=some (.lst xs)/\Ke xs.length k=some j/\Q (upd H p (.lst (xs.set j v)))
theorem set_list:Q5 X ML:=by
 intro pins s σ H o i v ov iv u Q I ro ri rv h
 obtain ⟨p,xs,k,j,rfl,rfl,hp,hj,q⟩:=h
 cases ro
 obtain ⟨t,rfl⟩:=ri
 obtain ⟨its,n,r,ho,hz⟩:=I.lst hp
 obtain ⟨h1,h2,h3,h4⟩:=wk hj
 have hl:=r.length
 have hn:=nD
 have I':Inv X pins σ (upd H p (.lst (xs.set j v))) { s with heap:=s.heap.update p (Obj.mapSeq (·.setIfInBounds j u)) } :=
  I.N6 hp ho (Bi its n j u) (r.set rv j) (by rw [List.length_set];exact hz) s.toks
 by_cases h0:0<=k
 ·have hk:k.toNat=j:=by
   rw [seqIndex_of h0 h4] at h1
   exact aao h1
  exact PySem.W.ki_setAt ho h0 (by lia) (by rw [aaO,<- hl];exact h4) (by rw [hk];exact⟨_,I',q⟩)
 ·have hk:(k+(its.toArray.size:Int)).toNat=j:=by
   rw [seqIndex_neg (by lia) h3] at h1
   rw [aaO,<- hl]
   exact aao h1
  exact PySem.W.ki_setBack ho (by lia) (by rw [aaO,<- hl];exact h3) (by lia) (by rw [hk];exact⟨_,I',q⟩)
theorem wq(lo hi:Option Int)(n:Nat):(sliceBounds lo hi none n).1=((HT.el n 0 lo:Nat):Int)/\(sliceBounds lo hi none n).2.1=((HT.el n n hi:Nat):Int)/\(sliceBounds lo hi none n).2.2=1:=by
 refine⟨?_,?_,rfl⟩
 ·cases lo with
  | none=>simp [sliceBounds,HT.el]
  | some i =>
   simp only [sliceBounds,HT.el,Option.getD_none,show (1:Int) > 0 by decide,if_true]
   by_cases h:i<0
   ·simp only [h,if_true] <;> lia
   ·simp only [h,if_false] <;> lia
 ·cases hi with
  | none=>simp [sliceBounds,HT.el]
  | some i =>
   simp only [sliceBounds,HT.el,Option.getD_none,show (1:Int) > 0 by decide,if_true]
   by_cases h:i<0
   ·simp only [h,if_true] <;> lia
   ·simp only [h,if_false] <;> lia
theorem tw(its:List Value)(lo hi:Option Int):slicePick its.toArray lo hi none=((its.drop (HT.el its.length 0 lo)).take (HT.el its.length its.length hi - HT.el its.length 0 lo)).toArray:=by
 obtain ⟨h1,h2,h3⟩:=wq lo hi its.toArray.size
 unfold slicePick
 rw [h1,h2,h3]
 simp only [sliceRange_one,pick_run,aaO] <;> rfl
def GH(K:Frag):V->Option Int->Option Int->Hp->VK->Prop:=fun x lo hi H Q=>∃ a xs,x=.ref a/\bA K H a xs/\∀ p,H p=none->Q (.ref p) (upd H p (.lst (nG xs lo hi)))
theorem KU:Qz X (GH X.K):=by
 intro pins s σ H x v vl vu lo hi sl Q I rx hs pl pu h
 obtain ⟨a,xs,rfl,hx,q⟩:=h
 cases rx
 obtain ⟨its,r,ht,hz⟩:=I.list hx
 have hlen:=r.length
 refine⟨"list",_,slot_list_getitem.lookup,ht.isList.typeIs,?_⟩
 refine wpAny_getItem_list_slice ht.isList hs pl pu .none (by simp) ?_ (by rw [aaO] <;> lia)
 rw [tw,<- hlen]
 refine⟨.ref s.heap.objs.size,_,I.laid (t':=s.toks) (o:=.lst (nG xs lo hi)) (fun b ob q=>aab _ q) (aai _) ?_,rfl,q _ (I.aR.fresh (aai _))⟩
 exact⟨aah (pf xs lo hi) hz,_,0,(r.drop (HT.el xs.length 0 lo)).take (HT.el xs.length xs.length hi - HT.el xs.length 0 lo),aaf _ rfl⟩
def k9:V->Bool
 | .dt=>true
 | .bl _=>true
 | .int _=>true
 | .str _=>true
 | _=>false
def GI:V->V->Bool
 | .dt,.dt=>true
 | .bl a,.bl b=>a == b
 | .bl a,.int b=>(if a then 1 else 0) == b
 | .int a,.bl b=>a == (if b then 1 else 0)
 | .int a,.int b=>a == b
 | .str a,.str b=>a == b
 | _,_=>false
theorem N7{A:Around}{s:Shared}{y x:V}{u v:Value}(ry:RelV y u)(rx:RelV x v)(fy:k9 y=true)(fx:k9 x=true):SeqAt.EqAt A s u v (GI y x):=by
 cases y with
 | dt =>
  cases ry
  cases x with
  | dt=>cases rx;exact SeqAt.EqAt.same _
  | bl b=>cases rx;exact SeqAt.EqAt.none_bool b
  | int b=>obtain ⟨t,rfl⟩:=rx;exact SeqAt.EqAt.none_int b t
  | str b=>obtain ⟨t,rfl⟩:=rx;exact SeqAt.EqAt.none_str b t
  | _=>exact absurd (show false=true from fx) Bool.false_ne_true
 | bl a =>
  cases ry
  cases x with
  | dt=>cases rx;exact SeqAt.EqAt.bool_none a
  | bl b=>cases rx;exact SeqAt.EqAt.bool_bool a b
  | int b=>obtain ⟨t,rfl⟩:=rx;exact SeqAt.EqAt.bool_int a b t
  | str b=>obtain ⟨t,rfl⟩:=rx;exact SeqAt.EqAt.bool_str a b t
  | _=>exact absurd (show false=true from fx) Bool.false_ne_true
 | int a =>
  obtain ⟨t',rfl⟩:=ry
  cases x with
  | dt=>cases rx;exact SeqAt.EqAt.int_none a t'
  | bl b=>cases rx;exact SeqAt.EqAt.int_bool a t' b
  | int b=>obtain ⟨t,rfl⟩:=rx;exact SeqAt.EqAt.int_int a t' b t
  | str b=>obtain ⟨t,rfl⟩:=rx;exact SeqAt.EqAt.int_str a t' b t
  | _=>exact absurd (show false=true from fx) Bool.false_ne_true
 | str a =>
  obtain ⟨t',rfl⟩:=ry
  cases x with
  | dt=>cases rx;exact SeqAt.EqAt.str_none a t'
  | bl b=>cases rx;exact SeqAt.EqAt.str_bool a t' b
  | int b=>obtain ⟨t,rfl⟩:=rx;exact SeqAt.EqAt.str_int a t' b t
  | str b=>obtain ⟨t,rfl⟩:=rx;exact SeqAt.EqAt.str_str a t' b t
  | _=>exact absurd (show false=true from fx) Bool.false_ne_true
 | _=>exact absurd (show false=true from fy) Bool.false_ne_true
def Bj(x:V)(u:Value):Bool:=match u with
 | .none=>GI .dt x
 | .bool b=>GI (.bl b) x
 | .int i _=>GI (.int i) x
 | .str z _=>GI (.str z) x
 | _=>false
theorem GJ{x y:V}{u:Value}(r:RelV y u)(f:k9 y=true):Bj x u=GI y x:=by
 cases y with
 | dt=>cases r;rfl
 | bl b=>cases r;rfl
 | int i=>obtain ⟨t,rfl⟩:=r;rfl
 | str z=>obtain ⟨t,rfl⟩:=r;rfl
 | _=>exact absurd (show false=true from f) Bool.false_ne_true
theorem mi{x:V}:∀ {xs:List V} {us:List Value},Vals xs us->xs.all k9=true->us.any (Bj x)=xs.any fun y=>GI y x
 | _,_,.nil,_=>rfl
 | y::xs,u::us,.cons r t,f=>by
  rw [all_cons,Bool.and_eq_true] at f
  rw [any_cons,any_cons,GJ r f.1,mi t f.2]
theorem ju{A:Around}{s:Shared}{x:V}{v:Value}(rx:RelV x v)(fx:k9 x=true):∀ {xs:List V} {us:List Value},Vals xs us->xs.all k9=true->∀ u∈us,SeqAt.EqAt A s u v (Bj x u)
 | _,_,.nil,_=>fun u hu=>by cases hu
 | y::xs,u::us,.cons r t,f=>fun u' hu=>by
  rw [all_cons,Bool.and_eq_true] at f
  rcases aaG.mp hu with rfl|hu
  ·rw [GJ r f.1];exact N7 r rx f.1 fx
  ·exact ju rx fx t f.2 u' hu
def Rj(x:V)(xs:List V):Bool:=xs.any fun y=>GI y x
def Rk(K:Frag)(neg:Bool):R2:=fun x y H Q=>∃ p xs,y=.ref p/\(bA K H p xs\/bh K H p xs)/\k9 x=true/\xs.all k9=true/\Q (.bl (if neg then !Rj x xs else Rj x xs)) H
theorem Eu:ij X (compareOp .In) (Rk X.K false):=by
 intro pins s σ H x y v u Q I rx ry h
 obtain ⟨p,xs,rfl,hq,fx,fs,q⟩:=h
 cases ry
 rcases hq with hq|hq
 ·obtain ⟨its,r,pl,hz⟩:=I.list hq
  refine SeqAt.in_listAt (Bj x) pl.isList (fun w hw=>ju rx fx r fs w (by simpa using hw)) ⟨.bl _,H,I,rfl,?_⟩
  rw [show its.toArray.any (Bj x)=its.any (Bj x) by simp,mi r fs]
  exact q
 ·obtain ⟨its,r,pl,hz⟩:=I.tuple hq
  refine SeqAt.in_tupleAt (Bj x) pl (fun w hw=>ju rx fx r fs w (by simpa using hw)) ⟨.bl _,H,I,rfl,?_⟩
  rw [show its.toArray.any (Bj x)=its.any (Bj x) by simp,mi r fs]
  exact q
theorem wt:ij X (compareOp .NotIn) (Rk X.K true):=by
 intro pins s σ H x y v u Q I rx ry h
 obtain ⟨p,xs,rfl,hq,fx,fs,q⟩:=h
 cases ry
 rcases hq with hq|hq
 ·obtain ⟨its,r,pl,hz⟩:=I.list hq
  refine SeqAt.notIn_listAt (Bj x) pl.isList (fun w hw=>ju rx fx r fs w (by simpa using hw)) ⟨.bl _,H,I,rfl,?_⟩
  rw [show its.toArray.any (Bj x)=its.any (Bj x) by simp,mi r fs]
  exact q
 ·obtain ⟨its,r,pl,hz⟩:=I.tuple hq
  refine SeqAt.notIn_tupleAt (Bj x) pl (fun w hw=>ju rx fx r fs w (by simpa using hw)) ⟨.bl _,H,I,rfl,?_⟩
  rw [show its.toArray.any (Bj x)=its.any (Bj x) by simp,mi r fs]
  exact q
theorem wu:cq X (.builtin "len") (fun xs H Q=>∃ p ys,xs=[.ref p]/\(bA X.K H p ys\/bh X.K H p ys)/\Q (.int ys.length) H):=by
 intro pins s σ H xs us Q I r h
 obtain ⟨p,ys,rfl,hq,q⟩:=h
 obtain ⟨u,rfl,rx⟩:=vals1 r
 cases rx
 have hn:=nD
 rcases hq with hq|hq
 ·obtain ⟨its,r',pl,hz⟩:=I.list hq
  have hlen:=r'.length
  exact Calls.call_len_list pl.isList (by simp only [aaO] <;> lia) ⟨.int ys.length,H,I.tok _,⟨s.toks+1,by rw [aaO,hlen]⟩,q⟩
 ·obtain ⟨its,r',pl,hz⟩:=I.tuple hq
  have hlen:=r'.length
  exact len_tuple pl (by simp only [aaO] <;> lia) ⟨.int ys.length,H,I.tok _,⟨s.toks+1,by rw [aaO,hlen]⟩,q⟩
theorem wx:cq X (.builtin "len") (fun xs H Q=>∃ z,xs=[.str z]/\z.length<=sizeLine/\Q (.int z.length) H):=by
 intro pins s σ H xs us Q I r h
 obtain ⟨z,rfl,hz,q⟩:=h
 obtain ⟨u,rfl,t,rfl⟩:=vals1 r
 have hn:=nD
 exact len_str (by lia) ⟨.int z.length,H,I.tok _,⟨_,rfl⟩,q⟩
theorem wy:cq X (.type "list") (fun xs H Q=>∃ p ys,xs=[.ref p]/\(bA X.K H p ys\/bh X.K H p ys)/\∀ l,H l=none->Q (.ref l) (upd H l (.lst ys))):=by
 intro pins s σ H xs us Q I r h
 obtain ⟨p,ys,rfl,hq,q⟩:=h
 obtain ⟨u,rfl,rx⟩:=vals1 r
 cases rx
 have fin:∀ (its:List Value),Vals ys its->ys.length<=sizeLine->∀ (h':Heap) (c':Nat),(∀ b o',s.heap.get? b=some o'->h'.get? b=some o') ->
   h'.get? s.heap.objs.size=some { cls:=.type "list",dict:=none,data:=.seq its.toArray c',slots:=#[] }->EP X pins σ Q (.ref s.heap.objs.size) { s with heap:=h' }:=fun its r' hz h' c' kp e =>
  ⟨.ref s.heap.objs.size,_,I.laid (t':=s.toks) kp (aai _) (show bJ X.prog X.w _ h' _ (.lst ys) from ⟨hz,its,c',r',e⟩),rfl,q _ (I.aR.fresh (aai _))⟩
 rcases hq with hq|hq
 ·obtain ⟨its,r',pl,hz⟩:=I.list hq
  have hlen:=r'.length
  obtain ⟨o,ho,hc,n,hd⟩:=pl.isList
  exact call_list_seq p (.inl rfl) ho hc hd (fun h' c' kp e=>fin its r' hz h' c' kp e) (by simp only [aaO] <;> lia)
 ·obtain ⟨its,r',pl,hz⟩:=I.tuple hq
  have hlen:=r'.length
  obtain ⟨o,ho,hc,n,hd⟩:=pl
  exact call_list_seq p (.inr rfl) ho hc hd (fun h' c' kp e=>fin its r' hz h' c' kp e) (by simp only [aaO] <;> lia)
theorem tD:cq X (.type "tuple") (fun xs H Q=>∃ p ys,xs=[.ref p]/\((bA X.K H p ys/\∀ l,H l=none->Q (.ref l) (upd H l (.tup ys)))\/(bh X.K H p ys/\Q (.ref p) H))):=by
 intro pins s σ H xs us Q I r h
 obtain ⟨p,ys,rfl,h⟩:=h
 obtain ⟨u,rfl,rx⟩:=vals1 r
 cases rx
 rcases h with ⟨hq,q⟩|⟨hq,q⟩
 ·obtain ⟨its,r',pl,hz⟩:=I.list hq
  have hlen:=r'.length
  refine call_tuple_list pl.isList (fun h' kp=>?_) (by simp only [aaO] <;> lia)
  have I1:Inv X pins σ H { s with heap:=h' }:=I.kept (t':=s.toks) kp
  have I2:Inv X pins σ (upd H h'.objs.size (.tup ys)) { s with heap:=h'.push { cls:=.type "tuple",data:=.seq its.toArray } } :=
   I1.laid (t':=s.toks) (fun b o e=>aab _ e) (aai _) (show bJ X.prog X.w _ _ _ (.tup ys) from ⟨hz,its,r',IsTup.new _ _⟩)
  exact⟨.ref h'.objs.size,_,I2,rfl,q _ (I1.aR.fresh (aai _))⟩
 ·obtain ⟨its,r',pl,hz⟩:=I.tuple hq
  exact call_tuple_same pl ⟨.ref p,H,I,rfl,q⟩
def UC(K:Frag)(T:String)(x:V)(H:Hp):Prop:=match x with
 | .str _=>T = "str"
 | .int _=>T = "int"
 | .ref p=>(T = "list"/\∃ xs,bA K H p xs)\/(T = "tuple"/\∃ o,K.lookup p=some o/\o.cls=.type "tuple"/\o.dict=none) \/
   (T = "dict"/\((∃ aC,H p=some (.dK aC))\/∃ aC,H p=some (.dT aC)))\/(T = "set"/\∃ S n,H p=some (.set S n))
 | _=>False
theorem N8{pins:List (Addr×Obj)}{σ:St}{H:Hp}{s:Shared}{T:String}{x:V}{v:Value}(I:Inv X pins σ H s)(r:RelV x v)(ty:UC X.K T x H) :
  s.TypeIs v T/\∀ a,v=.ref a->∃ ob,s.heap.get? a=some ob/\ob.dict=none:=by
 cases x with
 | str z =>
  obtain ⟨t,rfl⟩:=r
  cases (show T = "str" from ty)
  exact⟨typeIs_str s z t,fun _ e=>nomatch e⟩
 | int i =>
  obtain ⟨t,rfl⟩:=r
  cases (show T = "int" from ty)
  exact⟨typeIs_int s i t,fun _ e=>nomatch e⟩
 | ref p =>
  cases r
  rcases ty with ⟨rfl,xs,hq⟩|⟨rfl,o,hk,hc,hd⟩|⟨rfl,hk⟩|⟨rfl,S,n,hk⟩
  ·obtain ⟨its,_,pl,_⟩:=I.list hq
   refine⟨pl.isList.typeIs,fun a e=>?_⟩
   cases e
   obtain ⟨o,n,e,c,hd,_⟩:=pl
   exact⟨o,e,hd⟩
  ·refine⟨⟨o,I.iA p o hk,hc⟩,fun a e=>?_⟩
   cases e
   exact⟨o,I.iA _ o hk,hd⟩
  ·have z:∃ o,s.heap.get? p=some o/\o.ExactDict:=by
    rcases hk with ⟨aC,hk⟩|⟨aC,hk⟩
    ·obtain ⟨_,_,_,_,o,_,_,e,ex,_⟩:=I.aR p _ hk
     exact⟨o,e,ex⟩
    ·obtain ⟨_,_,_,_,o,_,_,e,ex,_⟩:=I.aR p _ hk
     exact⟨o,e,ex⟩
   obtain ⟨o,e,ex⟩:=z
   refine⟨⟨o,e,ex.1⟩,fun a e2=>?_⟩
   cases e2
   exact⟨o,e,ex.2.1⟩
  ·obtain ⟨o,_,_,_,e,ex,_⟩:=I.aR p _ hk
   refine⟨⟨o,e,ex.1⟩,fun a e2=>?_⟩
   cases e2
   exact⟨o,e,ex.2.1⟩
 | _=>exact False.elim ty
def Vg(K:Frag)(T:String)(r:V->List V->Hp->VK->Prop)(to:TE)(t:TA):TE:=fun σ H Q=>to σ H fun x H1=>UC K T x H1/\t σ H1 fun xs H2=>r x xs H2 Q
variable {o e:Expr}{es:List Expr}{to:TE}{t:TA}{name:Str}{apos ba:Pos}{T id:String}{r:V->List V->Hp->VK->Prop}
theorem fi (pa:PlainAttrs T) (slot:Slot T name id) (Vh:typeOf (.builtin id)=pure (.type "method_descriptor")) (hm:Kf X id r) (ho:PE X o to) (ha:PA X (e::es) t)
  (f7:attributeBase o name X.env (eval o X.env)=eval o X.env:=by rfl)
  (N9:((backTo ba (starEach (e::es) X.env)).all (fun x=>!x.1) && (backToKw ba (keywordEach [] X.env)).all (fun x=>x.1.isSome)
   && decide ((e::es).length+([]:List Keyword).length+(if ([]:List Keyword).isEmpty then 0 else 1)<30))=true:=by rfl)
  (GK:(apos.endLine == ba.line)=true:=by rfl) (hs:starEach (e::es) X.env=(false,eval e X.env)::starEach es X.env:=by rfl) (iH:(backTo ba (starEach es X.env)).any (·.1)=false:=by rfl) :
  PE X (.Call (.Attribute o name apos) (e::es) [] ba) (Vg X.K T r to t):=by
 intro pins s σ H Q I h
 refine wpAny_Call_method_late f7 N9 GK rfl (bS (ho pins s σ H _ I h) fun v s1 ⟨x,H1,I1,r1,ty,q1⟩=>?_)
 obtain ⟨h1,h2⟩:=N8 I1 r1 ty
 refine⟨T,id,pa,slot,Vh,h1,h2,?_⟩
 have hA:=ha ba pins s1 σ H1 _ I1 q1
 rw [hs] at hA ⊢
 refine Calls.callWith_builtin (by show (false || (backTo ba (starEach es X.env)).any (·.1))=false;rw [iH] <;> rfl) (Calls.evalArgs_plain ?_)
 exact bS hA fun us s2 ⟨vs,H2,I2,r2,q2⟩=>hm pins s2 σ H2 x vs v us Q I2 r1 r2 q2
/- xs.append(e),list.index on a Rl tuple .. are Kf facts of 06m -/
end
def Vi(X:Cx)(id:String)(r:V->List V->Hp->VK->Prop):Prop :=
 ∀ (pins:List (Addr×Obj)) (s:Shared) (σ:St) (H:Hp) (x:V) (xs:List V) (v:Value) (us:List Value) (Q:VK),Inv X pins σ H s->RelV x v->Vals xs us->r x xs H Q ->
  wpAny (model X.prog X.w) X.A (call (.builtin id) (v::us)) (EP X pins σ Q) X.xe s
theorem Vals.one:∀ {x:V} {us:List Value},Vals [x] us->∃ u,us=[u]/\RelV x u
 | _,_,.cons r .nil=>⟨_,rfl,r⟩
theorem Vals.eraseIdx:∀ {xs:List V} {us:List Value} (i:Nat),Vals xs us->Vals (xs.eraseIdx i) (us.eraseIdx i)
 | _,_,_,.nil=>.nil
 | _,_,0,.cons _ t=>t
 | _,_,i+1,.cons r t=>.cons r (Vals.eraseIdx i t)
theorem Vals.rep{xs:List V}{us:List Value}(h:Vals xs us):∀ k:Nat,Vals (List.replicate k xs).flatten (List.replicate k us).flatten
 | 0=>.nil
 | k+1=>by
  rw [replicate_succ,replicate_succ,flatten_cons,flatten_cons]
  exact Vals.append h (Vals.rep h k)
theorem vB{α:Type}:∀ (l:List α) (i:Nat),(l.eraseIdx i).length<=l.length
 | [],_=>aai _
 | _::_,0=>Nat.le_succ _
 | _::r,i+1=>Nat.succ_le_succ (vB r i)
theorem foldl_rep(its:List Value):∀ (k:Nat) (acc:List Value),
  List.foldl (fun x1 x2=>x1++x2) acc.toArray (List.replicate k its.toArray)=(acc++(List.replicate k its).flatten).toArray
 | 0,acc=>by simp
 | k+1,acc=>by
  have e:acc.toArray++its.toArray=(acc++its).toArray:=by simp
  have e2:(acc++its)++(List.replicate k its).flatten=acc++(List.replicate (k+1) its).flatten:=by
   rw [replicate_succ,flatten_cons,append_assoc]
  rw [<- e2,<- foldl_rep its k (acc++its),<- e,replicate_succ,List.foldl_cons]
section
variable {X:Cx}{pins:List (Addr×Obj)}{σ:St}{H:Hp}{s:Shared}{l b:Addr}{xs ys zs:List V}
theorem Inv.Oa{its its':List Value}{n:Nat}{f:Array Value->Array Value}{t':Nat}(I:Inv X pins σ H s)(hH:H l=some (.lst xs))
  (e:s.heap.get? l=some { cls:=.type "list",data:=.seq its.toArray n }) (hf:f its.toArray=its'.toArray) (hv:Vals ys its') (hz:ys.length<=sizeLine) :
  Inv X pins σ (upd H l (.lst ys)) { s with heap:=s.heap.update l (Obj.mapSeq f),toks:=t' }:=by
 have q:=PySem.IsL.update e f
 rw [hf] at q
 refine I.write (x:=l) (e:=l) (by rw [hH];exact trivial) (.inl rfl) (fun b' u hb hu=>(Heap.get?_update_other s.heap (Obj.mapSeq f) (Ne.symm hb)).trans hu) ⟨_,q⟩ ?_
 exact⟨hz,its',_,hv,q⟩
theorem Inv.GL{its:List Value}{t':Nat}(I:Inv X pins σ H s)(hv:Vals ys its)(hz:ys.length<=sizeLine) :
  Inv X pins σ (upd H s.heap.objs.size (.lst ys)) { s with heap:=s.heap.push { cls:=.type "list",data:=.seq its.toArray },toks:=t' } :=
 I.laid (fun _ _ q=>aab _ q) (aai _) ⟨hz,its,0,hv,aaf _ rfl⟩
theorem Inv.fresh(I:Inv X pins σ H s):H s.heap.objs.size=none:=I.aR.fresh (aai _)
theorem Inv.Ew (I:Inv X pins σ H s) (hH:H l=some (.lst xs)):xs.length<=sizeLine/\∃ (its:List Value) (n:Nat),Vals xs its/\xs.length=its.length/\s.heap.get? l=some { cls:=.type "list",data:=.seq its.toArray n }:=by
 obtain ⟨z,its,n,r,e⟩:=I.aR l _ hH
 exact⟨z,its,n,r,r.length,e⟩
theorem GN{n:Nat}(h:n<=sizeLine):Builtin.List.listTooLong n=false:=by
 unfold Builtin.List.listTooLong
 exact aar (by lia)
end
section
variable {X:Cx}
def Dn:V->List V->Hp->VK->Prop:=fun x vs H Q=>∃ l xs y,x=.ref l/\vs=[y]/\H l=some (.lst xs)/\xs.length<sizeLine/\Q .dt (upd H l (.lst (xs++[y])))
theorem eT:Vi X "list.append" Dn:=by
 intro pins s σ H x vs v us Q I rx rv h
 obtain ⟨l,xs,y,rfl,rfl,hH,hz,q⟩:=h
 cases rx
 obtain ⟨u,rfl,ru⟩:=rv.one
 obtain ⟨z,its,n,r,hl,e⟩:=I.Ew hH
 refine call_meets F.slot_list_append ⟨_,e,rfl⟩ F.entry_list_append (F.args_list_append_2 _ _) (PySem.list_append l its.toArray n u (by rw [aaO];lia)) ⟨e,?_⟩
 refine⟨.dt,_,I.Oa (its':=its++[u]) hH e (by simp) (r.append (.cons ru .nil)) ?_,rfl,q⟩
 rw [aaE,List.length_singleton]
 lia
def Ob:V->List V->Hp->VK->Prop:=fun x vs H Q=>∃ l xs i k y,x=.ref l/\vs=[.int i]/\H l=some (.lst xs)/\-(2 ^ 63)<=i/\i<2 ^ 63/\seqIndex? i xs.length=some k/\xs[k]?=some y/\Q y (upd H l (.lst (xs.eraseIdx k)))
theorem GO:Vi X "list.pop" Ob:=by
 intro pins s σ H x vs v us Q I rx rv h
 obtain ⟨l,xs,i,k,y,rfl,rfl,hH,h1,h2,hk,hy,q⟩:=h
 cases rx
 obtain ⟨u,rfl,ru⟩:=rv.one
 obtain ⟨t,rfl⟩:=ru
 obtain ⟨z,its,n,r,hl,e⟩:=I.Ew hH
 obtain ⟨w,hw,Ga⟩:=r.get hy
 refine call_meets F.slot_list_pop ⟨_,e,rfl⟩ F.entry_list_pop (F.args_list_pop_2 _ _)
  (MeetsSeq.list_pop_at l its.toArray n i t k w (fitsIndex_both h1 h2) (by rw [aaO,<- hl];exact hk) (by rw [<- Array.getElem?_toList];exact hw) (by rw [aaO];lia)) ⟨e,?_⟩
 refine⟨y,_,I.Oa (its':=its.eraseIdx k) hH e ?_ (r.eraseIdx k) ?_,Ga,q⟩
 ·show its.toArray.eraseIdxIfInBounds k=(its.eraseIdx k).toArray
  rw [List.eraseIdxIfInBounds_toArray]
 ·have:=vB xs k
  lia
def Rm:R2:=fun x y H Q=>∃ l b xs zs,x=.ref l/\y=.ref b/\H l=some (.lst xs)/\H b=some (.lst zs)/\xs.length+zs.length<=sizeLine/\∀ p,H p=none->Q (.ref p) (upd H p (.lst (xs++zs)))
theorem lF:ij X (binaryOp .Add) Rm:=by
 intro pins s σ H x y v u Q I rx ry h
 obtain ⟨l,b,xs,zs,rfl,rfl,hH,hB,hz,q⟩:=h
 cases rx
 cases ry
 obtain ⟨z,its,n,r,hl,e⟩:=I.Ew hH
 obtain ⟨z2,N2,n2,r2,MM,e2⟩:=I.Ew hB
 refine PySem.P.add_list e e2 ?_ (by rw [aaO,aaO];lia)
 have ea:its.toArray++N2.toArray=(its++N2).toArray:=by simp
 rw [ea]
 exact⟨.ref _,_,I.GL (t':=s.toks) (r.append r2) (by rw [aaE];lia),rfl,q _ I.fresh⟩
def Oc:R2:=fun x y H Q=>∃ l k xs,x=.ref l/\y=.int k/\H l=some (.lst xs)/\-(2 ^ 63)<=k/\k<2 ^ 63/\xs.length*k.toNat<=sizeLine /\
 ∀ p,H p=none->Q (.ref p) (upd H p (.lst (List.replicate k.toNat xs).flatten))
theorem len_rep{α:Type}(xs:List α)(k:Nat):(List.replicate k xs).flatten.length=k*xs.length:=by
 induction k with
 | zero=>simp
 | succ k ih=>rw [replicate_succ,flatten_cons,aaE,ih,Nat.succ_mul,Nat.add_comm]
theorem GP:ij X (binaryOp .Mult) Oc:=by
 intro pins s σ H x y v u Q I rx ry h
 obtain ⟨l,k,xs,rfl,rfl,hH,h1,h2,hz,q⟩:=h
 cases rx
 obtain ⟨t,rfl⟩:=ry
 obtain ⟨z,its,n,r,hl,e⟩:=I.Ew hH
 have hlen:its.toArray.size*k.toNat<=sizeLine:=by rw [aaO,<- hl];exact hz
 have Vj:¬ its.toArray.size*k.toNat > (2 ^ 63 - 1) / 8:=by
  have:(sizeLine:Nat)<=(2 ^ 63 - 1) / 8:=by decide
  lia
 have Vk:¬ (!Builtin.List.listFitsIndex k)=true:=by
  rw [fitsIndex_both h1 h2]
  exact Bool.false_ne_true
 have Rn:¬ Builtin.List.listTooLong (its.toArray.size*k.toNat)=true:=by
  rw [GN hlen]
  exact Bool.false_ne_true
 have Od:List.foldl (fun x1 x2=>x1++x2) #[] (List.replicate (if its.toArray.isEmpty=true then 0 else k.toNat) its.toArray)=(List.replicate k.toNat its).flatten.toArray:=by
  have f0:∀ m:Nat,List.foldl (fun x1 x2=>x1++x2) #[] (List.replicate m its.toArray)=(List.replicate m its).flatten.toArray:=fun m=>by
   have:=foldl_rep its m []
   rw [List.nil_append] at this
   exact this
  rw [f0]
  cases its with
  | nil=>simp
  | cons a r'=>rw [if_neg (by simp)]
 refine wpAny_binaryOp_repeat_ref (T:="list") (U:="int") (by decide) ⟨_,e,rfl⟩ (fun s'=>typeIs_int s' k t) noFill_list_mul F.fills_int_mul F.slot_int_rmul repeat_list F.slot_int_index.lookup
  (call_meets F.slot_int_rmul (typeIs_int s k t) F.entry_int_rmul (F.args_int_rmul_2 _ _) (int___rmul___int_list k t l its.toArray n)
   ⟨e,rfl,⟨_,e,rfl⟩,call_meets F.slot_list_mul ⟨_,e,rfl⟩ F.entry_list_mul (F.args_list_mul_2 _ _) (AutoListH.list___mul___list_int_3 l its.toArray n k t Vk Vj Rn) ⟨e,?_⟩⟩)
 rw [Od]
 exact⟨.ref _,_,I.GL (t':=s.toks) (r.rep k.toNat) (by rw [len_rep,Nat.mul_comm];exact hz),rfl,q _ I.fresh⟩
end
end L2
namespace Ye
open PySem PySem.W PySem.Calls PyProof.Rows
theorem qt{P:Params}{h:Heap}:∀ (ns:List Int) (vs:List Value),WellAll P h vs (ns.map WData.int)->IntsAre vs ns:=by
 intro ns
 induction ns with
 | nil =>
  intro vs w
  rw [map_nil] at w
  cases w
  exact .nil
 | cons n ns ih =>
  intro vs w
  rw [map_cons] at w
  cases w with
  | cons a b =>
   cases a
   exact .cons _ _ (ih _ b)
theorem Ex{l:OpenLaw}{n:Nat}(hn:l.most=some n){P:Params}{h:Heap}{args:List WData}{vals:List Value}
  (KW:l.row.toRowW.claim.pre args=true) (UD:WellAll P h vals args) :
  ∃ a vs ns,vals=[Value.ref a]/\args=[WData.list (ns.map WData.int)]/\h.get? a=some { cls:=.type "list",data:=.seq vs.toArray }/\IntsAre vs ns/\ns.length<=n:=by
 have Zq:WShape.hasAll [] args [.list .int]=true:=(pre_splitW KW).1
 have hc:l.pre.holds [] { args:=args }=true:=(pre_splitW KW).2
 obtain ⟨d,r,rfl,h1,h2⟩:=hasAllW_cons Zq
 obtain rfl:=hasAllW_nil h2
 obtain ⟨xs,rfl,h3⟩:=hasW_list h1
 obtain ⟨ns,rfl⟩:=items_int h3
 have hlen:ns.length<=n:=by
  unfold OpenLaw.pre at hc
  have h4:(WTm.not (.lt (.lit (.int (n:Int))) (.len (.arg 0)))).holds [] { args:=[.list (ns.map .int)] }=true:=by
   have h4:=(holds_andW hc).1
   rw [hn] at h4
   exact h4
  have h5:=condW_of h4 (w_not (w_lt w_lit (w_len_list (w_arg rfl))))
  rw [aaD] at h5
  refine Nat.le_of_not_lt fun q=>?_
  have q':(n:Int)<((ns.length:Nat):Int):=by lia
  first
   | (rw [aas q'] at h5;exact absurd h5 (by decide))
   | (simp at h5;lia)
 cases UD with
 | cons w1 w2 =>
  cases w2
  cases w1 with
  | list ho nJ=>exact⟨_,_,ns,rfl,rfl,ho,qt ns _ nJ,hlen⟩
theorem Ey(l:OpenLaw)(args:List WData):l.row.toRowW.claim.post args (.bool true) args=true :=
 postW_of (r:=l.row.toRowW) (X:=(true == true))
  (show WShape.has [] (.bool true) .bool=true by first|rfl|decide|simp [WShape.has,WShape.arms,WShape.armsAll])
  (show (WTm.eq .res (.lit (.bool true))).value [] { args:=args,res:=some (.bool true),after:=args }=some (.bool (true == true)) from w_eq_bool (w_res rfl) w_lit) rfl
theorem zh{l:OpenLaw}{n:Nat}{q:Program}{loose:List Str}{XP:(Str->Option Value)->Heap->Prop}{YP:World->Heap->Prop}{d:DefRec}
  (hn:l.most=some n) (Ro:d.params.defaults=[])
  (call:∀ (w:World) (s₀ s₁:Shared) (mg mb:Str->Option Value) (fa:Addr) (o:Obj) (pm cd doc:Value) (a:Addr) (vs:List Value) (ns:List Int),
   Ground q loose [] XP w s₀ mg mb s₁.heap->YP w s₁.heap ->
   s₁.heap.get? fa=some o->o.data=.func (docDef d.name d.params d.body d.scope pm cd doc)->s₁.heap.CodeRec cd d.name->mg d.name=some (.ref fa) ->
   s₁.heap.get? a=some { cls:=.type "list",data:=.seq vs.toArray }->IntsAre vs ns->ns.length<=n->s₁.gens=#[] ->
   codeAny (model l.prog w) callerA (.call (.ref fa) ⟨[.ref a],[]⟩) (fun r s'=>r=.ok (.ret (.bool true))/\OldK s₁.heap s'.heap/\s'.os=s₁.os/\AllBare s'.gens) s₁) :
  WalkO q loose XP YP l.row.toRowW d [] (fun f vs=>PySem.call f vs):=by
 intro w s₀ s₁ mg mb G Y fa o pm cd doc dV kV ho hd ny hD Rp hg args vals as KW Zr Rq UD Yf
 obtain rfl:dV=.none:=Dflts.none hD Ro
 obtain rfl:kV=.none:=Dflts.noKw hD
 obtain ⟨a,vs,ns,rfl,rfl,Oe,hints,hlen⟩:=Ex hn KW UD
 refine enter_call (codeAny_mono (call w s₀ s₁ mg mb fa o pm cd doc a vs ns G Y ho (fd_plain hd) ny Rp Oe hints hlen hg) fun r s' hq=>?_)
 obtain ⟨rfl,h2,h3,h4⟩:=hq
 exact⟨.inl ⟨.bool true,.bool true,[],rfl,fun _=>rfl,.bool true,Ey l _,fun _=>⟨List.Pairwise.nil,fun _ hm=>(nomatch hm)⟩⟩,h2,h3,h4⟩
section
variable {prog:Program}{w:World}{A:Around}{E:Value->Shared->Prop}{s:Shared}{K:Frag}
end
end Ye
namespace L2
open PySem PySem.Spec PyProof.Rows
theorem vC:∀ {vs:List Value} {ns:List Int},IntsAre vs ns->Vals (ns.map V.int) vs
 | _,_,.nil=>.nil
 | _,_,.cons n t h=>.cons ⟨t,rfl⟩ (vC h)
def KY(H:Hp):Prop:=∀ b,H b=none\/∃ o xs,H b=some (.y3 o (.lst xs))
theorem GQ{P:Program}{w:World}{K:Frag}{mg mb:Str->Option Value}{CX:A4}{k:Nat}{fa a:Addr}{fd:FuncData}{x:Str}{sp:Sp}{s₁:Shared}{vs:List Value}{ns:List Int}
  (KX:K.In s₁.heap) (Yg:s₁.heap.Ns mainGlobals mg) (hb:s₁.heap.Ns builtinsNs mb) (Bk:∀ x:Str,x≠"__name__"->mb x=bootBuiltins x) (Vl:s₁.heap.NoLimit) (hg:s₁.gens=#[])
  (ha:s₁.heap.get? a=some { cls:=.type "list",data:=.seq vs.toArray }) (hi:IntsAre vs ns) (hl:ns.length<=sizeLine) (hr:de k callerA)
  (F:∀ base:Heap,K.In base->base.Ns mainGlobals mg->rf P w K mg base CX k fa fd [x] sp) (Rr:∀ (s:Shared) (u:Value),BindsTo s fd ⟨[u],[]⟩ [(x,u)])
  (tq:∀ H:Hp,KY H->bA K H a (ns.map V.int)->sp [.ref a] H (fun v _=>v=.bl true) fun _ _ _=>False)
  (Rt:∀ H e s',CX [] H s₁ (fun _ _ _=>False) e s'->False) :
  codeAny (model P w) callerA (.call (.ref fa) ⟨[.ref a],[]⟩) (fun r s'=>r=.ok (.ret (.bool true))/\OldK s₁.heap s'.heap/\s'.os=s₁.os/\AllBare s'.gens) s₁:=by
 have rv:=vC hi
 have Vm:=hi.length
 have core:∀ H:Hp,KY H->bA K H a (ns.map V.int)->eQ P w H s₁.heap->(∀ b,H b≠none->b=a)->(H a≠none->K.lookup a=none) ->
   codeAny (model P w) callerA (.call (.ref fa) ⟨[.ref a],[]⟩) (fun r s'=>r=.ok (.ret (.bool true))/\OldK s₁.heap s'.heap/\s'.os=s₁.os/\AllBare s'.gens) s₁:=by
  intro H hO hS aR hA hK
  have Dp:∀ {b:Addr} {o:Obj},s₁.heap.get? b=some o->H b=none->(wa s₁.heap H).get? b=some o:=fun e n=>Gj e n
  have Rc:∀ {b:Addr} {o:Obj} {es:Array DictEntry} {ep:Nat},s₁.heap.get? b=some o->o.data=.dict es ep->H b=none:=fun {b o es ep} e d=>by
   cases q:H b with
   | none=>rfl
   | some u =>
    have e':b=a:=hA b (by rw [q];simp)
    subst e'
    rw [ha] at e;cases e
    have d':Data.seq vs.toArray _=Data.dict es ep:=d
    cases d'
  have UE:∀ {b:Addr} {m:Str->Option Value},s₁.heap.Ns b m->(wa s₁.heap H).Ns b m:=fun {b m} ⟨o,es,ep,e,d,r⟩=>⟨o,es,ep,Dp e (Rc e d),d,r⟩
  have Yh:K.In (wa s₁.heap H):=fun b o e=>Dp (KX b o e) (by
   cases q:H b with
   | none=>rfl
   | some u =>
    have e':b=a:=hA b (by rw [q];simp)
    subst e'
    rw [hK (by rw [q];simp)] at e;cases e)
  have hM:Mod K mg (wa s₁.heap H):=⟨Yh,UE Yg,⟨mb,UE hb,Bk⟩,let ⟨mc,h1,h2⟩:=Vl;⟨mc,UE h1,h2⟩⟩
  have e0:qr P w K mg (wa s₁.heap H) callerA [] s₁ H:=⟨rfl,hM,fun b o e=>Ks e,Nat.le_of_eq (Ee _ _),trivial,fun b hb=>absurd (show b∈([]:List Addr) from hb) (by simp),aR,.of_eq hg⟩
  refine codeAny_mono ((F _ Yh (UE Yg)).run callerA [] s₁ H ⟨[.ref a],[]⟩ [.ref a] [.ref a] _ _ hr e0 (Rr s₁ (.ref a)) (.cons rfl .nil) (tq H hO hS)) fun r s' h=>?_
  cases r with
  | error e=>exact (Rt H e s' h).elim
  | ok fl =>
   cases fl with
   | next=>exact False.elim h
   | brk=>exact False.elim h
   | cont=>exact False.elim h
   | ret u =>
    obtain ⟨v,H',os,bare,un,Vn,r',q⟩:=h
    have q':v=.bl true:=q
    subst q'
    obtain rfl:u=Value.bool true:=r'
    refine⟨rfl,OldK.of_keep fun b o e=>?_,os,bare⟩
    cases q:H b with
    | none=>exact un.keep b o e q (by intro z;exact absurd (show b∈([]:List Addr) from z) (by simp)) (by simp)
    | some u =>
     rcases hO b with z|⟨ob,xs,z⟩
     ·rw [q] at z;cases z
     ·have z2:=un.je b ob _ z
      obtain ⟨e1,_⟩:=aR b _ z
      obtain ⟨e2,_⟩:=Vn b _ z2
      rw [e] at e1;cases e1
      exact e2
 cases hk:K.lookup a with
 | some o =>
  have e:=KX a o hk
  rw [ha] at e
  cases e
  refine core (fun _=>none) (fun _=>.inl rfl) (.inr ⟨_,vs.toArray,_,hk,rfl,rfl,rfl,by rw [aaO,Vm];exact hl,by simpa using rv⟩) (fun b u z=>by have z':(none:Option HO)=some u:=z;cases z') (fun b z=>absurd rfl z) fun z=>absurd rfl z
 | none =>
  refine core (fun b=>if b=a then some (.y3 { cls:=.type "list",data:=.seq vs.toArray } (.lst (ns.map V.int))) else none) (fun b=>?_) (.inl (.inr ⟨{ cls:=.type "list",data:=.seq vs.toArray },if_pos rfl⟩)) (fun b u z=>?_) (fun b z=>?_) fun _=>hk
  ·by_cases hb:b=a
   ·exact .inr ⟨_,_,if_pos hb⟩
   ·exact .inl (if_neg hb)
  ·by_cases hb:b=a
   ·have z':=(if_pos hb).symm.trans z
    cases z'
    subst hb
    exact⟨ha,by rw [aaD];exact hl,vs,_,rv,ha⟩
   ·have z':=(if_neg hb).symm.trans z
    cases z'
  ·by_cases hb:b=a
   ·exact hb
   ·exact absurd (if_neg hb) z
theorem KZ{l:OpenLaw}{n k:Nat}{q:Program}{loose:List Str}{XP:(Str->Option Value)->Heap->Prop}{YP:World->Heap->Prop}{d:DefRec}{K:Params->Frag}{CX:World->A4}{sp:World->Sp}{x:Str}
  (hn:l.most=some n) (K0:n<=sizeLine) (Ro:d.params.defaults=[]) (hr:de k callerA)
  (hY:∀ (w:World) (h:Heap),YP w h->(K w.params).In h)
  (F:∀ (w:World) (mg:Str->Option Value) (fa:Addr) (h:Heap),(K w.params).In h->h.Ns mainGlobals mg->mg d.name=some (.ref fa) ->
   ∃ fd:FuncData,(∀ (s:Shared) (u:Value),BindsTo s fd ⟨[u],[]⟩ [(x,u)]) /\
    ∀ base:Heap,(K w.params).In base->base.Ns mainGlobals mg->rf l.prog w (K w.params) mg base (CX w) k fa fd [x] (sp w))
  (tq:∀ (w:World) (H:Hp) (a:Addr) (ns:List Int),ns.length<=n->KY H->bA (K w.params) H a (ns.map V.int)->sp w [.ref a] H (fun v _=>v=.bl true) fun _ _ _=>False)
  (Rt:∀ (w:World) (H:Hp) (s:Shared) (e:Value) (s':Shared),CX w [] H s (fun _ _ _=>False) e s'->False) :
  PySem.W.WalkO q loose XP YP l.row.toRowW d [] (fun f vs=>PySem.call f vs):=by
 refine Ye.zh hn Ro fun w s₀ s₁ mg mb fa o pm cd doc a vs ns G Y ho hd ny Rp Oe hints hlen hg=>?_
 have KX:=hY w _ Y
 obtain ⟨fd,hb,hF⟩:=F w mg fa _ KX G.T.g Rp
 exact GQ KX G.T.g G.T.b G.T.builtins G.T.nolimit hg Oe hints (aah hlen K0) hr hF hb (fun H hO hS=>tq w H a ns hlen hO hS) fun H e s'=>Rt w H s₁ e s'
theorem GR{l:OpenLaw}{n k:Nat}{q:Program}{loose:List Str}{XP:(Str->Option Value)->Heap->Prop}{YP:World->Heap->Prop}{d:DefRec}{K:Params->Frag}{CX:A4}{sp:Frag->Sp}{x:Str}
  (hn:l.most=some n) (K0:n<=sizeLine) (Ro:d.params.defaults=[]) (hr:de k callerA)
  (hY:∀ (w:World) (h:Heap),YP w h->(K w.params).In h)
  (F:∀ (w:World) (mg:Str->Option Value) (fa:Addr) (h:Heap),(K w.params).In h->h.Ns mainGlobals mg->mg d.name=some (.ref fa) ->
   ∃ fd:FuncData,(∀ (s:Shared) (u:Value),BindsTo s fd ⟨[u],[]⟩ [(x,u)]) /\
    ∀ base:Heap,(K w.params).In base->base.Ns mainGlobals mg->rf l.prog w (K w.params) mg base CX k fa fd [x] (sp (K w.params)))
  (tq:∀ (K:Frag) (H:Hp) (a:Addr) (ns:List Int),ns.length<=n->KY H->bA K H a (ns.map V.int)->sp K [.ref a] H (fun v _=>v=.bl true) fun _ _ _=>False)
  (Rt:∀ (H:Hp) (s:Shared) (e:Value) (s':Shared),CX [] H s (fun _ _ _=>False) e s'->False) :
  PySem.W.WalkO q loose XP YP l.row.toRowW d [] (fun f vs=>PySem.call f vs) :=
 KZ (K:=K) (CX:=fun _=>CX) (sp:=fun w=>sp (K w.params)) hn K0 Ro hr hY F (fun w H a ns h1 h2 h3=>tq (K w.params) H a ns h1 h2 h3) fun _ H s e s'=>Rt H s e s'
def fb(s:Stmt):Arguments:=match s with
 | .FunctionDef _ a _ _ _ _ _ _ _ _=>a
 | _=>{ posonlyargs:=[],args:=[],vararg:=none,kwonlyargs:=[],kw_defaults:=[],kwarg:=none,defaults:=[] }
def cx(s:Stmt):List Stmt:=match s with
 | .FunctionDef _ _ b _ _ _ _ _ _ _=>b
 | _=>[]
def aq(s:Stmt):Scope:=match s with
 | .FunctionDef _ _ _ _ _ _ sc _ _ _=>sc
 | _=>{ kind:=.function,names:=[],isGenerator:=false,isCoroutine:=false }
abbrev Kg:A4:=fun _ _ _ _ _ _=>False
abbrev E0:XK:=fun _ _ _=>False
theorem Ru{X:Cx}:Passes Kg X E0:=fun _ _ _ _ _ _ _ h=>h.elim
structure K1(K:Frag)(x qual:Str)(st:Stmt)(f:Addr)(fd:FuncData):Prop where
 ex:∃ (oc:Value) (od:Option Addr) (kV doc pm:Value) (an:Option Addr) (bU ct:Value) (Es:Array (Option Value)),
  fd=PySem.W.fnOf x qual (fb st) (cx st) (aq st) .none kV doc pm an bU ct/\K.lookup f=some ⟨oc,od,.func fd,Es⟩/\PySem.W.codeIn K bU qual=true
 kp:PySem.W.keepIn K (.ref f)=true
section
variable {P:Program}{w:World}{K:Frag}{mg:Str->Option Value}{base:Heap}
theorem K1.ok{x qual:Str}{st:Stmt}{f:Addr}{fd:FuncData}{N ps:List Str}{k:Nat}{sp:Sp}(F:K1 K x qual st f fd)(S:aE N ps (aq st))(len:∀ vs H Q E,sp vs H Q E->vs.length=ps.length)
  (iq:∀ (bU:Value) (A:Around) (outer:List Env) (s:Shared) (H:Hp) (vs:List V) (Q:VK) (E:XK),de k (A.deeper (envOfC qual (aq st) s.heap.objs.size f bU))->sp vs H Q E ->
   ∃ t,nv (k7 Kg P w K mg base N qual (aq st) f bU A outer s H E).Ei (cx st) t/\t { nx:=fun _ H'=>Q .dt H',rt:=Q } (start N vs) H):rf P w K mg base Kg (k+1) f fd ps sp:=by
 obtain ⟨oc,od,kV,doc,pm,an,bU,ct,Es,rfl,lk,ny⟩:=F.ex
 refine GB lk ny S len fun A outer s H vs Q E hr tq=>?_
 obtain ⟨t,h,q⟩:=iq bU A outer s H vs Q E hr tq
 exact⟨t,h.Ei,q⟩
theorem K1.binds{x qual:Str}{st:Stmt}{f:Addr}{fd:FuncData}{ps:List Str}(F:K1 K x qual st f fd)
  (h:∀ (kV doc pm:Value) (an:Option Addr) (bU ct:Value) (us:List Value),us.length=ps.length->bindArgs (PySem.W.fnOf x qual (fb st) (cx st) (aq st) .none kV doc pm an bU ct) ⟨us,[]⟩=pure (ps.zip us)):Binds K fd ps []:=by
 obtain ⟨oc,od,kV,doc,pm,an,bU,ct,Es,rfl,lk,ny⟩:=F.ex
 exact .all (h kV doc pm an bU ct)
theorem wA{x qual:Str}{st:Stmt}{f:Addr}{oc:Value}{od an:Option Addr}{Es:Array (Option Value)}{kV doc pm bU ct:Value}(l:K.lookup f=some ⟨oc,od,.func (PySem.W.fnOf x qual (fb st) (cx st) (aq st) .none kV doc pm an bU ct),Es⟩)
  (c:PySem.W.codeIn K bU qual=true) (k:PySem.W.keepIn K (.ref f)=true):K1 K x qual st f (PySem.W.fnOf x qual (fb st) (cx st) (aq st) .none kV doc pm an bU ct):=⟨⟨oc,od,kV,doc,pm,an,bU,ct,Es,rfl,l,c⟩,k⟩
end
theorem bt{A:Around}{k:Nat}(hr:de k A):A.units+1<cLine:=aaJ (Nat.add_le_add_left (by decide:1<=64) _) hr.units
theorem bW{n:Nat}(h:n<=1000):n<sizeLine:=aaJ h (by decide)
section
variable {X:Cx}
theorem pv (i:Nat) {x:Str} {pos:Pos} (hN:X.N[i]?=some x:=by rfl) (hv:QZ X.env.scope x:=by first|exact Or.inl rfl|exact Or.inr (Or.inl rfl)|exact Or.inr (Or.inr rfl)) (hd:(x == ("__debug__":Str))=false:=by decide)
  (ny:(x == ("__classdict__":Str))=false:=by decide):PE X (.Name x pos) (Gn i):=ND hN hv hd ny
end
theorem GS{A B:Prop}(h:B):if false=true then A else B:=by
 rw [if_neg Bool.false_ne_true]
 exact h
theorem rj{A B:Prop}(h:A):if true=true then A else B:=by
 rw [if_pos rfl]
 exact h
def ah(H H':Hp):Prop:=∀ b o,H b=some o->H' b=some o
theorem ah.refl(H:Hp):ah H H:=fun _ _ h=>h
theorem ah.trans{H H1 H2:Hp}(a:ah H H1)(b:ah H1 H2):ah H H2:=fun c o h=>b c o (a c o h)
theorem ah.seq{K:Frag}{H H':Hp}{a:Addr}{xs:List V}(e:ah H H')(h:bA K H a xs):bA K H' a xs:=by
 rcases h with (h|⟨o,h⟩)|h
 ·exact .inl (.inl (e _ _ h))
 ·exact .inl (.inr ⟨o,e _ _ h⟩)
 ·exact .inr h
end L2
namespace L2
open PySem
def f9(cells:List (Str×Addr)):List (Str×NameKind)->List (Str×Addr)->List (Str×Addr)
 | [],acc=>acc
 | (n,k)::r,acc=>f9 cells r (if k == .free then (match cells.lookup n with|some c=>(n,c)::acc|none=>acc) else acc)
theorem lG{scope:Scope}{env:Env}(h:∀ p∈scope.names,p.2=.free->∃ c,env.cells.lookup p.1=some c):closureFor scope env=pure (f9 env.cells scope.names []):=by
 have key:∀ (names:List (Str×NameKind)) (acc:List (Str×Addr)),(∀ p∈names,p.2=.free->∃ c,env.cells.lookup p.1=some c) ->
   (forIn names acc (fun (x:Str×NameKind) (cs:List (Str×Addr))=>if (x.2 == NameKind.free)=true then (do let c <- cellOf env x.1;pure (ForInStep.yield ((x.1,c)::cs))) else pure (ForInStep.yield cs)):Sem (List (Str×Addr)))=pure (f9 env.cells names acc):=by
  intro names
  induction names with
  | nil=>intro acc _;rfl
  | cons p r ih =>
   intro acc hp
   obtain ⟨n,k⟩:=p
   rw [forIn_cons]
   by_cases hk:k=.free
   ·subst hk
    obtain ⟨c,hc⟩:=hp (n,.free) mem_cons_self rfl
    have e:cellOf env n=pure c:=by unfold cellOf;rw [show env.cells.lookup n=some c from hc]
    show (if (NameKind.free == NameKind.free)=true then _ else _) >>= _=_
    rw [if_pos (by rfl)]
    dsimp only
    rw [e]
    show (forIn r ((n,c)::acc) _:Sem _)=_
    rw [ih _ fun q hq=>hp q (aaF _ hq)]
    simp [f9,show env.cells.lookup n=some c from hc]
   ·have vD:(k == NameKind.free)=false:=by simpa using hk
    show (if (k == NameKind.free)=true then _ else _) >>= _=_
    rw [if_neg (by rw [vD];exact Bool.false_ne_true)]
    show (forIn r acc _:Sem _)=_
    rw [ih _ fun q hq=>hp q (aaF _ hq)]
    simp [f9,vD]
 unfold closureFor
 have k:=key scope.names [] h
 exact (congrArg (fun m:Sem (List (Str×Addr))=>m >>= fun cs=>pure cs) k).trans rfl
theorem mj{cells:List (Str×Addr)}:∀ {names:List (Str×NameKind)} {acc:List (Str×Addr)},(∀ x c,acc.lookup x=some c->cells.lookup x=some c)->∀ x c,(f9 cells names acc).lookup x=some c->cells.lookup x=some c
 | [],acc,h,x,c,e=>h x c e
 | (n,k)::r,acc,h,x,c,e=>by
  refine mj (names:=r) (fun y d q=>?_) x c e
  split at q
  ·split at q
   ·rename_i c0 Zs
    rw [lookup_cons] at q
    split at q
    ·rename_i hy
     have K2:y=n:=by simpa using hy
     subst K2
     rw [Zs];exact q
    ·exact h y d q
   ·exact h y d q
  ·exact h y d q
theorem mq{cells:List (Str×Addr)}:∀ {names:List (Str×NameKind)} {acc:List (Str×Addr)} {x:Str},(acc.lookup x).isSome=true\/((x,NameKind.free)∈names/\(cells.lookup x).isSome=true)->((f9 cells names acc).lookup x).isSome=true
 | [],acc,x,h=>by
  rcases h with h|h
  ·exact h
  ·exact absurd h.1 (by simp)
 | (n,k)::r,acc,x,h=>by
  refine mq (names:=r) ?_
  rcases h with h|⟨hm,hc⟩
  ·left
   split
   ·split
    ·rw [lookup_cons];split
     ·rfl
     ·exact h
    ·exact h
   ·exact h
  ·rcases aaG.mp hm with e|hm
   ·injection e with e1 e2
    subst e1;subst e2
    left
    rw [if_pos (by rfl)]
    cases hq:cells.lookup x with
    | none=>rw [hq] at hc;cases hc
    | some c=>simp
   ·exact .inr ⟨hm,hc⟩
section
variable {prog:Program}{w:World}{A:Around}
theorem nK{R:Result->Shared->Prop}{s:Shared}{elt target iter:Expr}{ifs:List Expr}{scope:Scope}{pos:Pos}{it acc:Value}{env:Env}{E:Value->Shared->Prop}(hE:∀ e s',E e s'->notedBy (model prog w) A env (fun e s'=>R (.error e) s') e s')(I:Nat->Shared->Prop)
  (turn:∀ n s,I n s->wpAny (model prog w) A (pyNext it) (fun r s₁=>match r with
   | none=>R (.ok .next) s₁
   | some v=>wpAny (model prog w) A (letOwnedTupleGo target it v) (fun _ Yi=>wpAny (model prog w) A (assign target env v) (fun _ s₂ =>
     wpAny (model prog w) A (forIn ifs true fun c r=>if r=true then do let ok <- isTrue c env (eval c env);pure (ForInStep.yield ok) else pure (ForInStep.yield r)) (fun ok s₃ =>
      if ok=true then wpAny (model prog w) A (eval elt env) (fun x s₄ =>
       wpAny (model prog w) A (call (.builtin "list.append") [acc,x]) (fun _ s₅=>∃ m,m<n/\I m s₅) E s₄) E s₃
      else ∃ m,m<n/\I m s₃) E s₂) E Yi) E s₁) E s)
  (n:Nat) (h:I n s) :
  codeAny (model prog w) A (.compLoop (.ListComp elt [⟨target,iter,ifs,0⟩] scope pos) 0 it acc env) R s:=by
 have vE:∀ {α:Type} {t:Sem α} {Q:α->Shared->Prop} {s:Shared},wpAny (model prog w) A t Q E s->wpAny (model prog w) A t Q (notedBy (model prog w) A env fun e s'=>R (.error e) s') s:=fun q=>aav q (fun _ _ z=>z) hE
 refine codeAny_loop rfl I (fun n s hI=>?_) n h
 show wpAny _ A ((compTurn (.ListComp elt [⟨target,iter,ifs,0⟩] scope pos) 0 it acc env).onRaise (fun x=>do noteFrame x env;theTreesLotGoes x)) _ _ s
 refine wpAny_noted ?_
 rw [compTurn_list]
 refine aac (wpAny_standAt (aac (aav (vE (turn n s hI)) (fun r s₁ h₁=>?_) fun _ _ h'=>h')))
 cases r with
 | none=>exact aau h₁
 | some v =>
  refine aac (aav (vE h₁) (fun _ Yi Zt=>?_) fun _ _ h'=>h')
  refine aac (aav (vE Zt) (fun _ s₂ h₂=>aac (aav (vE h₂) (fun ok s₃ h₃=>?_) fun _ _ h'=>h')) fun _ _ h'=>h')
  cases ok with
  | false=>exact aau ⟨rfl,h₃⟩
  | true =>
   simp only [if_true] at h₃ ⊢
   exact aac (aac (aav (vE h₃) (fun x s₄ h₄=>aac (aav (vE h₄) (fun _ s₅ h₅=>aau (aau ⟨rfl,h₅⟩)) fun _ _ h'=>h')) fun _ _ h'=>h'))
end
open PySem PySem.Spec PyProof.Rows
abbrev aS(X:Cx)(pins:List (Addr×Obj))(N:List Str)(scope:Scope)(C:Addr)(s:Shared)(H:Hp)(fp:List Addr):Cx :=
 { X with N:=N,s₀:=s,H₀:=H,env:=compEnvC scope (f9 X.env.cells scope.names []) C X.env,outer:=X.stack,stack:=X.stack,ex:=fp,fn:=fun _=>false,pn:=X.pn++pins,xe:=fun _ _=>False }
def pick(ix:List (Option Nat))(σ:St):St:=ix.map fun o=>o.bind fun j=>(σ[j]?).join
def nL(X:Cx)(scope:Scope):List Str->List (Option Nat)->Prop
 | [],[]=>True
 | _::N,none::ix=>nL X scope N ix
 | x::N,some j::ix=>(X.N[j]?=some x/\QZ X.env.scope x/\(X.env.scope.names.lookup x == some .local)=false/\scope.names.lookup x=some .free)/\nL X scope N ix
 | _,_=>False
theorem nL.len{X:Cx}{scope:Scope}:∀ {N:List Str} {ix:List (Option Nat)},nL X scope N ix->ix.length=N.length
 | [],[],_=>rfl
 | [],none::_,h=>h.elim
 | [],some _::_,h=>h.elim
 | _::_,[],h=>h.elim
 | _::N,none::ix,h=>by simp only [length_cons];rw [nL.len (N:=N) (ix:=ix) h]
 | _::N,some _::ix,h=>by simp only [length_cons];rw [nL.len (N:=N) (ix:=ix) h.2]
theorem nL.get{X:Cx}{scope:Scope}:∀ {N:List Str} {ix:List (Option Nat)} {i j:Nat} {x:Str},nL X scope N ix->N[i]?=some x->ix[i]?=some (some j) ->
  X.N[j]?=some x/\QZ X.env.scope x/\(X.env.scope.names.lookup x == some .local)=false/\scope.names.lookup x=some .free
 | [],[],_,_,_,_,h,_=>by simp at h
 | [],none::_,_,_,_,h,_,_=>h.elim
 | [],some _::_,_,_,_,h,_,_=>h.elim
 | _::_,[],_,_,_,h,_,_=>h.elim
 | _::N,none::ix,0,_,_,_,_,e=>by simp at e
 | _::N,none::ix,i+1,_,_,h,h1,e=>nL.get (N:=N) (ix:=ix) (i:=i) h (by simpa using h1) (by simpa using e)
 | y::N,some k::ix,0,j,x,h,h1,e=>by
  simp at h1 e
  subst h1;subst e
  exact h.1
 | _::N,some _::ix,i+1,_,_,h,h1,e=>nL.get (N:=N) (ix:=ix) (i:=i) h.2 (by simpa using h1) (by simpa using e)
theorem rl{ix:List (Option Nat)}{σ:St}{i:Nat}{v:V}(h:(pick ix σ)[i]?=some (some v)):∃ j,ix[i]?=some (some j)/\σ[j]?=some (some v):=by
 unfold pick at h
 rw [aaP] at h
 cases e:ix[i]? with
 | none=>rw [e] at h;cases h
 | some o =>
  rw [e] at h
  cases o with
  | none=>cases h
  | some j =>
   refine⟨j,rfl,?_⟩
   have h':(σ[j]?).join=some v:=aao h
   cases q:σ[j]? with
   | none=>rw [q] at h';cases h'
   | some z=>rw [q] at h';have h2:z=some v:=h';rw [h2]
theorem dn{env : Env} : ∀ {names : List (Str × NameKind)} {x : Str}, (∀ y ∈ names, y.2 ≠ .cell) ->
    ((names.map fun (n, k) => if (k == NameKind.free && env.scope.kind == .function && env.kindOf n == some .cell) then (n, NameKind.cell) else (n, k)).lookup x=some .cell \/
     (names.map fun (n, k) => if (k == NameKind.free && env.scope.kind == .function && env.kindOf n == some .cell) then (n, NameKind.cell) else (n, k)).lookup x=some .free) -> names.lookup x=some .free
  | [], _, _, h => by simp at h
  | (n, k)::r, x, hc, h => by
    have ih := @dn env r x fun y hy => hc y (aaF _ hy)
    have hk : k ≠ .cell := hc (n, k) mem_cons_self
    rw [map_cons] at h
    cases hx : x == n with
    | true =>
      rw [lookup_cons, hx]
      by_cases qu : (k == NameKind.free && env.scope.kind == .function && env.kindOf n == some .cell)=true
      · have : k=.free := by
          simp only [Bool.and_eq_true, beq_iff_eq] at qu
          exact qu.1.1
        rw [this]
      · simp only [qu, Bool.false_eq_true, if_false, lookup_cons, hx] at h
        rcases h with h|h
        · exact absurd (aao h) hk
        · exact h
    | false =>
      rw [lookup_cons, hx]
      refine ih ?_
      by_cases qu : (k == NameKind.free && env.scope.kind == .function && env.kindOf n == some .cell)=true
      · simp only [qu, if_true, lookup_cons, hx] at h
        exact h
      · simp only [qu, Bool.false_eq_true, if_false, lookup_cons, hx] at h
        exact h
theorem fP{env : Env} : ∀ {names : List (Str × NameKind)} {x : Str}, names.lookup x=some .free ->
    ((names.map fun (n, k) => if (k == NameKind.free && env.scope.kind == .function && env.kindOf n == some .cell) then (n, NameKind.cell) else (n, k)).lookup x=some .cell \/
     (names.map fun (n, k) => if (k == NameKind.free && env.scope.kind == .function && env.kindOf n == some .cell) then (n, NameKind.cell) else (n, k)).lookup x=some .free)
  | [], _, h => by simp at h
  | (n, k)::r, x, h => by
    have ih := @fP env r x
    rw [map_cons]
    cases hx : x == n with
    | true =>
      rw [lookup_cons, hx] at h
      have hk : k=.free := aao h
      subst hk
      by_cases qu : (NameKind.free == NameKind.free && env.scope.kind == .function && env.kindOf n == some .cell)=true
      · simp only [qu, if_true, lookup_cons, hx];exact .inl trivial
      · simp only [qu, Bool.false_eq_true, if_false, lookup_cons, hx];exact .inr trivial
    | false =>
      rw [lookup_cons, hx] at h
      by_cases qu : (k == NameKind.free && env.scope.kind == .function && env.kindOf n == some .cell)=true
      · simp only [qu, if_true, lookup_cons, hx];exact ih h
      · simp only [qu, Bool.false_eq_true, if_false, lookup_cons, hx];exact ih h
def UG(Y:Cx):List Expr->TT->Prop
 | [],t=>t=fun _ H Q=>Q true H
 | [c],t=>PT Y c t
 | _,_=>False
def cb(ix:List (Option Nat))(g:TG)(tt:TT)(te:TE)(σ:St)(Q:VK)(J:It)(H1:Hp):Prop:=∀ l,H1 l=none->∃ W:Nat->Nat->St->List V->Hp->Prop,
 (∃ m,W 0 m (pick ix σ) [] (upd H1 l (.lst [])))/\∀ i m σ1 ys H',W i m σ1 ys H'->H' l=some (.lst ys)/\((J.stop i H'/\Q (.ref l) H') \/
  (J.go i H'/\∃ m',m'<m/\∀ x H2,J.Kb i H' x H2->g x σ1 H2 fun σ2 H3=>tt σ2 H3 fun b H4=>if b=true then te σ2 H4 fun y H5=>H5 l=some (.lst ys)/\ys.length<sizeLine/\W (i+1) m' σ2 (ys++[y]) (upd H5 l (.lst (ys++[y]))) else W (i+1) m' σ2 ys H4))
def GU(ix:List (Option Nat))(wi:TI)(g:TG)(tt:TT)(te:TE):TE:=fun σ H Q=>wi σ H fun J H1=>cb ix g tt te σ Q J H1
theorem Un.letGo{fs ex:List Addr}{H H':Hp}{h h1 h2:Heap}{C:Addr}(u:Un fs ex H H' h h1)(hC:h.objs.size<=C)(sb:Heap.SameBut C h1 h2):Un fs ex H H' h h2:=by
 have ne:∀ b o,h.get? b=some o->b≠C:=fun b o e=>aaU (Nat.lt_of_lt_of_le (aae e) hC)
 refine⟨fun b o e n hb hx=>(sb.2 b (ne b o e)).trans (u.keep b o e n hb hx),fun b o e n hb hx=>?_,u.free,fun b o e hx=>?_,u.jn,u.je,u.jo⟩
 ·obtain ⟨sl,q⟩:=u.slot b o e n hb hx
  exact⟨sl,(sb.2 b (ne b o e)).trans q⟩
 ·obtain ⟨o',q⟩:=u.there b o e hx
  exact⟨o',(sb.2 b (ne b o e)).trans q⟩
theorem eQ.letGo{P:Program}{w:World}{H:Hp}{h h':Heap}{C:Addr}(x:eQ P w H h)(hC:H C=none)(sb:Heap.SameBut C h h'):eQ P w H h':=fun a o e=>by
 have na:∀ b u,H b=some u->b≠C:=fun b u q z=>by rw [z,hC] at q;cases q
 refine (x a o e).l8 (fun b u hb q=>(sb.2 b ?_).trans q) (fun _ q=>q) fun _ _ q=>q
 rcases hb with rfl|hb
 ·exact na _ _ e
 ·exact na _ _ hb
section
variable {X:Cx}
theorem rn{Y:Cx}{ifs:List Expr}{tt:TT}(ht:UG Y ifs tt){pins:List (Addr×Obj)}{s:Shared}{σ:St}{H:Hp}{Q:Bool->Hp->Prop}(I:Inv Y pins σ H s)(h:tt σ H Q) :
  wpAny (model Y.prog Y.w) Y.A (forIn ifs true fun c r=>if r=true then do let ok <- isTrue c Y.env (eval c Y.env);pure (ForInStep.yield ok) else pure (ForInStep.yield r)) (TP Y pins σ Q) Y.xe s:=by
 match ifs,ht with
 | [],ht =>
  have e:tt=fun _ H Q=>Q true H:=ht
  subst e
  exact wpAny_tests_nil ⟨H,I,h⟩
 | [c],ht=>exact wpAny_tests_one ((show PT Y c tt from ht) pins s σ H Q I h)
 | _::_::_,ht=>exact False.elim ht
theorem fQ{tg iter elt:Expr}{ifs:List Expr}{scope:Scope}{pos:Pos}{N:List Str}{ix:List (Option Nat)}{wi:TI}{g:TG}{tt:TT}{te:TE}
  (hc:X.calm=true) (hi:PI X tg iter wi)
  (hg:∀ pins C s H fp,PG (aS X pins N scope C s H fp) tg g)
  (ht:∀ pins C s H fp,UG (aS X pins N scope C s H fp) ifs tt)
  (he:∀ pins C s H fp,PE (aS X pins N scope C s H fp) elt te)
  (hk:scope.kind=.function) (jq:∀ y∈scope.names,y.2≠.cell) (rp:∀ y∈scope.names,y.2=.local->scope.names.lookup y.1=some .local)
  (GV:(scope.names.all fun y=>!(y.2 == NameKind.free) || (X.env.cells.lookup y.1).isSome)=true) (MN:nL X scope N ix)
  (hs:∀ x,foldedSetIterable iter X.env x=pure x:=by intro _;rfl) :
  PE X (.ListComp elt [⟨tg,iter,ifs,0⟩] scope pos) (GU ix wi g tt te):=by
 intro pins s σ H Q I h
 have jk:∀ y∈scope.names,y.2=.free->(X.env.cells.lookup y.1).isSome=true:=fun y hy e=>by
  have z:=all_eq_true.mp GV y hy
  rw [e] at z
  simpa using z
 have GW:∀ p∈scope.names,p.2=.free->∃ c,X.env.cells.lookup p.1=some c:=fun p hp e=>aat.mp (jk p hp e)
 have du:∀ x c,(f9 X.env.cells scope.names []).lookup x=some c->X.env.cells.lookup x=some c:=mj (fun x c q=>by simp at q)
 have ph:∀ x,scope.names.lookup x=some .free->∃ c,(f9 X.env.cells scope.names []).lookup x=some c:=fun x hx=>by
  have hm:=PySem.mem_of_lookup hx
  exact aat.mp (mq (.inr ⟨hm,jk _ hm rfl⟩))
 rw [eval_ListComp]
 refine wpAny_comprehension_free (use:=none) rfl hs (lG GW) hk rp (bS (hi pins s σ H _ I h) fun v s1 h1=>bS h1 fun Q7 s2 h2=>?_)
 obtain ⟨it,fp,tn,J,H2,e,I2,T,Kc,f2,hW⟩:=h2
 subst e
 have rq:H2 s2.heap.objs.size=none:=I2.aR.fresh (aai _)
 obtain ⟨W,⟨m0,w0⟩,turn⟩:=hW s2.heap.objs.size rq
 refine wpAny_newObj_type ?_
 have I3:Inv X pins σ (upd H2 s2.heap.objs.size (.lst [])) { s2 with heap:=s2.heap.push { cls:=.type "list",data:=.seq ([]:List Value).toArray } }:=I2.GL (its:=[]) (t':=s2.toks) .nil (aaT _)
 have f3:∀ b∈fp,l9 X pins (upd H2 s2.heap.objs.size (.lst [])) b:=fun b hb=>by
  refine⟨?_,(f2 b hb).2⟩
  obtain ⟨o,eo,_⟩:=T.obj _ _ Kc b hb
  rw [ar (aaU (aae eo))]
  exact (f2 b hb).1
 have vv:tn 0 (s2.heap.push { cls:=.type "list",data:=.seq ([]:List Value).toArray }):=T.keep _ _ _ Kc fun b _ o e=>aab _ e
 generalize tE:({ s2 with heap:=s2.heap.push { cls:=.type "list",data:=.seq ([]:List Value).toArray } }:Shared)=s3 at I3
 have vv:tn 0 s3.heap:=by rw [<- tE];exact vv
 generalize Yj:upd H2 s2.heap.objs.size (.lst [])=H3 at I3 f3 w0
 generalize Rv:s2.heap.objs.size=acc at *
 refine wpAny_newFunctionEnv jq (by intro y hy;simp at hy) (fun h₁ GX GY=>?_) hk
 have old:∀ b o,s3.heap.get? b=some o->h₁.get? b=some o:=fun b o q=>GY.extBut b o (aaU (aae q)) (aab _ q)
 have rB:H3 s3.heap.objs.size=none:=I3.aR.fresh (aai _)
 have MO:∀ b∈fp,b<s3.heap.objs.size:=fun b hb=>by
  obtain ⟨o,eo,_⟩:=T.obj _ _ vv b hb
  exact aae eo
 have rD:∀ b,b≠X.env.locals->b∉X.fs->b∉j2 X.stack:=fun b h1 h2 z=>by
  rcases aaG.mp (I3.gT b z) with q|q
  ·exact h1 q
  ·exact h2 q
 have Vo:∀ x c,X.env.cells.lookup x=some c->c<s3.heap.objs.size:=fun x c q=>by
  obtain ⟨v,z⟩:=I3.cell x c q
  exact z.lt
 have YI:∀ (h':Heap) (m:Str->Option Value),(∀ b o,s3.heap.get? b=some o->h'.get? b=some o)->h'.Ns s3.heap.objs.size m ->
   Inv (aS X pins N scope s3.heap.objs.size s3 H3 fp) [] (pick ix σ) H3 { s3 with heap:=h',toks:=s3.toks+([]:List (Str×Value)).length }:=by
  intro h' m vD hn
  refine⟨⟨I3.ok.mod,hk,I3.ok.glob,I3.ok.blt,aai _,fun x y c q1 q2=>I3.ok.inj x y c (du x c q1) (du y c q2),fun x hx=>ph x (dn jq hx),fun x c hf _=>absurd hf Bool.false_ne_true,
   I3.ok.hd,I3.ok.frames,.inl rfl,fun b hb=>⟨aaU (MO b hb),fun x c q=>(f3 b hb).2.2.2.2.1 x c (du x c q)⟩,I3.bs,aah I3.ok.wb I3.sz,fun b o e hb=>?_,fun b hb=>rD b (f3 b hb).2.1 (f3 b hb).2.2.1,I3.stack,I3.eh⟩,
   rfl,I3.bare,Un.kept vD,⟨m,hn,fun i x v h1 h2 h3=>?_⟩,fun x c q=>?_,rB,fun x c q=>I3.d0 x c (du x c q),fun p hp=>?_,I3.aR.kept vD,?_⟩
  ·have q:=(I3.bs b o e).2
   rcases (f3 b hb).2.2.2.1 with z|z
   ·exact I3.ok.qp b o e z
   ·exact absurd (Nat.lt_of_lt_of_le (aae e) (aah I3.ok.wb z)) (Nat.lt_irrefl _)
  ·obtain ⟨j,e1,e2⟩:=rl h2
   obtain ⟨a1,a2,a3,a4⟩:=MN.get h1 e1
   obtain ⟨mX,Yk,Rw⟩:=I3.loc
   obtain ⟨u,ru,l⟩:=Rw j x v a1 e2 a2
   refine⟨u,ru,?_⟩
   rcases l with ⟨l1,_⟩|⟨_,c,lc,z⟩
   ·have Rx:X.env.scope.names.lookup x=some .local:=l1
    rw [Rx] at a3
    exact absurd a3 (by decide)
   ·obtain ⟨c',y4⟩:=ph x a4
    have ec:=du x c' y4
    rw [lc] at ec
    have Ry:c=c':=aao ec
    subst Ry
    exact .inr ⟨fP a4,c,y4,z.keeps vD⟩
  ·obtain ⟨v,z⟩:=I3.cell x c (du x c q)
   exact⟨v,z.keeps vD⟩
  ·have Bl:p∈X.pn++pins:=by simpa using hp
   obtain ⟨a1,a2,a3,a4,a5⟩:=I3.pin p Bl
   exact⟨vD _ _ a1,a2,aaU (aae a1),rD p.1 a3 a4,a5⟩
  ·show (pick ix σ).length=N.length
   unfold pick
   rw [aaD]
   exact MN.len
 have GZ:∀ {pl:List (Addr×Obj)} {H':Hp},pl=[]->(∀ b∈fp,H' b=none)->∀ b∈fp,l9 (aS X pins N scope s3.heap.objs.size s3 H3 fp) pl H' b:=fun {pl H'} Rz hn b hb=>by
  obtain ⟨f0,f1,Kh,Gb,f4,f5⟩:=f3 b hb
  subst Rz
  exact⟨hn b hb,aaU (MO b hb),rD b f1 Kh,.inl hb,fun x c q=>f4 x c (du x c q),fun p hp=>f5 p (by simpa using hp)⟩
 have loop:∀ s4:Shared,(∃ m,s4={ s3 with heap:=h₁,toks:=s3.toks+([]:List (Str×Value)).length }/\h₁.Ns s3.heap.objs.size m) ->
   codeAny (model X.prog X.w) X.A (.compLoop (.ListComp elt [⟨tg,iter,ifs,0⟩] scope pos) 0 (.ref it) (.ref acc) (compEnvC scope (f9 X.env.cells scope.names []) s3.heap.objs.size X.env))
    (compPost (model X.prog X.w) X.A X.xe none (EP X pins σ Q) (.ref acc) s3.heap.objs.size) s4:=by
  rintro s4 ⟨m4,rfl,zi⟩
  refine nK (E:=fun _ _=>False) (fun _ _ z=>z.elim)
   (fun n s'=>∃ i σ' ys H',Inv (aS X pins N scope s3.heap.objs.size s3 H3 fp) [] σ' H' s'/\tn i s'.heap/\(∀ b∈fp,H' b=none)/\W i n σ' ys H') ?_ m0
   ⟨0,pick ix σ,[],H3,YI h₁ m4 old zi,T.keep _ _ _ vv fun b _ o q=>old b o q,fun b hb=>(f3 b hb).1,w0⟩
  rintro n s5 ⟨i,σ5,ys,H5,I5,F8,Kd,w5⟩
  obtain ⟨Yl,rE⟩:=turn i n σ5 ys H5 w5
  rcases rE with ⟨stop,q⟩|⟨go,m',iI,step⟩
  ·refine bS (T.done (aS X pins N scope s3.heap.objs.size s3 H3 fp) rfl rfl rfl hc i [] s5 σ5 H5 (fun _ _=>False) I5 (GZ rfl Kd) F8 stop) fun r s6 ⟨hr,I6⟩=>?_
   subst hr
   obtain ⟨m6,RA,_⟩:=I6.loc
   refine⟨m6,RA,fun h' sb=>?_⟩
   refine⟨.ref acc,H5,I3.qX (ch:=fp) I6.os (I6.base.letGo (aai _) sb) (I6.aR.letGo I6.free sb) I6.bare fun b hb=>?_,rfl,q⟩
   obtain ⟨f0,f1,Kh,Gb,f4,f5⟩:=f3 b hb
   exact⟨Gb,f1,f4,f5⟩
  ·refine bS (T.item (aS X pins N scope s3.heap.objs.size s3 H3 fp) rfl rfl rfl hc i [] s5 σ5 H5 (fun _ _=>False) I5 (GZ rfl Kd) F8 go) fun r s6 ⟨u,hr,h6⟩=>?_
   subst hr
   refine bS h6 fun _ s7 ⟨x,H7,I7,r7,y7,Ez,RB⟩=>?_
   have RC:=I7.pinned (GZ rfl RB) (T.obj _ _ Ez)
   refine bS (hg pins s3.heap.objs.size s3 H3 fp _ s7 σ5 H7 x u _ RC r7 (step x H7 y7)) fun _ s8 ⟨σ8,H8,I8,q8⟩=>?_
   refine bS (rn (ht pins s3.heap.objs.size s3 H3 fp) I8 q8) fun b s9 ⟨H9,I9,q9⟩=>?_
   have back:∀ {σz:St} {Hz:Hp} {sz:Shared} {yz:List V},Inv (aS X pins N scope s3.heap.objs.size s3 H3 fp) ([]++f6 fp s7.heap) σz Hz sz->W (i+1) m' σz yz Hz ->
     ∃ m,m<n/\∃ i σ' ys H',Inv (aS X pins N scope s3.heap.objs.size s3 H3 fp) [] σ' H' sz/\tn i sz.heap/\(∀ b∈fp,H' b=none)/\W i m σ' ys H':=fun {σz Hz sz yz} Iz wz=>by
    refine⟨m',iI,i+1,σz,yz,Hz,Iz.il,T.keep _ _ _ Ez fun b hb o e=>(Iz.pin (b,o) (aay _ (aay _ (cf hb e)))).1,fun b hb=>?_,wz⟩
    obtain ⟨o,e,d⟩:=T.obj _ _ Ez b hb
    exact (Iz.pin (b,o) (aay _ (aay _ (cf hb e)))).2.1
   cases b with
   | false=>exact back I9 q9
   | true =>
    refine bS (he pins s3.heap.objs.size s3 H3 fp _ s9 σ8 H9 _ I9 q9) fun v G1 ⟨y,G2,RD,RE,G3,G4,RF⟩=>?_
    refine bS (eT _ G1 σ8 G2 (.ref acc) [y] (.ref acc) [v] (fun _ H'=>H'=upd G2 acc (.lst (ys++[y]))) RD rfl (.cons RE .nil) ⟨acc,ys,y,rfl,rfl,G3,G4,rfl⟩) fun _ K3 ⟨_,QA,RG,_,RH⟩=>?_
    subst RH
    exact back RG RF
 have zi:∃ m,h₁.Ns s3.heap.objs.size m:=⟨_,GX⟩
 obtain ⟨m4,zi⟩:=zi
 have L:=loop _ ⟨m4,rfl,zi⟩
 exact codeAny_compStart_list L (T.self _ 0 _ _ _ (T.keep _ _ _ vv fun b _ o q=>old b o q) L)
end
end L2
namespace L2
open PySem
theorem gb{a b:Nat}(h:@Ne Nat a b):@Ne Addr a b:=h
def cw(k:Bool)(h:Heap)(a:Addr)(xs:Array Value):Prop:=match k with|true=>h.IsTuple a xs|false=>h.IsList a xs
def jf(k:Bool)(h:Heap)(it a:Addr)(i:Nat):Prop:=match k with|true=>h.IsTupleIter it a i|false=>h.IsListIter it a i
def eA (k:Bool) (a:Addr):Obj:=match k with|true=>{ cls:=.type "tuple_iterator",data:=.fields #[.ref a,.int 0 0] }|false=>{ cls:=.type "list_iterator",data:=.fields #[.ref a,.int 0 0] }
abbrev IsT (h:Heap) (T:Addr) (vs:Array Value):Prop:=h.get? T=some { cls:=.type "tuple",data:=.seq vs }
theorem cw.keep{k:Bool}{h h':Heap}{a:Addr}{xs:Array Value}(x:cw k h a xs)(hk:∀ o,h.get? a=some o->h'.get? a=some o):cw k h' a xs:=by
 cases k with
 | true=>obtain ⟨o,e,r⟩:=x;exact⟨o,hk o e,r⟩
 | false=>obtain ⟨o,e,r⟩:=x;exact⟨o,hk o e,r⟩
theorem jf.keep{k:Bool}{h h':Heap}{it a:Addr}{i:Nat}(x:jf k h it a i)(hk:∀ o,h.get? it=some o->h'.get? it=some o):jf k h' it a i:=by
 cases k with
 | true=>obtain ⟨o,e,r⟩:=x;exact⟨o,hk o e,r⟩
 | false=>obtain ⟨o,e,r⟩:=x;exact⟨o,hk o e,r⟩
theorem jf.obj{k:Bool}{h:Heap}{it a:Addr}{i:Nat}(x:jf k h it a i):∃ o,h.get? it=some o/\∀ v,o.data≠.cell v:=by
 cases k with
 | true=>obtain ⟨o,e,_,d⟩:=x;exact⟨o,e,fun v z=>by rw [d] at z;cases z⟩
 | false=>obtain ⟨o,e,_,d⟩:=x;exact⟨o,e,fun v z=>by rw [d] at z;cases z⟩
theorem cw.lt{k:Bool}{h:Heap}{a:Addr}{xs:Array Value}(x:cw k h a xs):a<h.objs.size:=by
 cases k with
 | true=>obtain ⟨o,e,_⟩:=x;exact aae e
 | false=>obtain ⟨o,e,_⟩:=x;exact aae e
theorem rF{k:Bool}{h:Heap}{it a:Addr}(e:h.get? it=some (eA k a)):jf k h it a 0:=by
 cases k with
 | true=>exact⟨_,e,rfl,rfl⟩
 | false=>exact⟨_,e,rfl,rfl⟩
section
variable {prog:Program}{w:World}{A:Around}{E:Value->Shared->Prop}{s:Shared}
theorem mr{k:Bool}{a:Addr}{xs:Array Value}{Q:Value->Shared->Prop}(h:cw k s.heap a xs)(hQ:Q (.ref s.heap.objs.size) { s with heap:=s.heap.push (eA k a) }):wpAny (model prog w) A (pyIter (.ref a)) Q E s:=by
 cases k with
 | true=>exact wpAny_pyIter_tuple h hQ
 | false=>exact wpAny_pyIter_list h hQ
theorem mv{it t:Addr}{i:Nat}{items}{x:Value}{Q:Value->Shared->Prop}(hit:s.heap.IsTupleIter it t i)
  (ht:s.heap.IsTuple t items) (hx:items[i]?=some x)
  (hQ:∀ h',h'.IsTupleIter it t (i+1)->Heap.SameBut it s.heap h'->Q x { s with heap:=h' }) :
  wpAny (model prog w) A (Builtin.SmallTypes.nextOf (.ref it)) Q E s:=by
 obtain ⟨o,ho,hc,hd⟩:=id hit
 obtain ⟨ol,Vp,_,nl,Vq⟩:=ht
 unfold Builtin.SmallTypes.nextOf
 refine aac (wpAny_callSpecial?_slot (name:=Str.ofString "__next__") hit.typeIs F.slot_tuple_iterator_next
  (wpAny_call_entry F.slot_tuple_iterator_next hit.typeIs F.entry_tuple_iterator_next ?_ (F.args_tuple_iterator_next_1 _)))
 show wpAny _ _ (field (.ref it) 0 >>= _) _ _ s
 refine aac (wpAny_field ho hd (x:=.ref t) rfl ?_)
 show wpAny _ _ (if (Value.ref t == Value.none)=true then _ else _) _ _ s
 rw [if_neg (show ¬ ((Value.ref t == Value.none)=true) from Bool.false_ne_true)]
 show wpAny _ _ (field (.ref it) 1 >>= _) _ _ s
 refine aac (wpAny_field ho hd (x:=.int i 0) rfl ?_)
 show wpAny _ _ (seqItems? (.ref t) >>= _) _ _ s
 refine aac (wpAny_seqItems Vp Vq ?_)
 simp only [aaZ,hx]
 refine aac (wpAny_setField ho hd (by simp) (aau ⟨x,rfl,aau (hQ _ ?_ (Heap.SameBut.update ..))⟩))
 exact⟨_,Heap.get?_update_self _ ho (Obj.isFreed_of_fields (Obj.data_mapFields hd _)),(Obj.cls_mapFields ..).trans hc,by
  rw [Obj.data_mapFields hd];simp [rawInt]⟩
theorem nM{it t:Addr}{i:Nat}{items}{Q:Value->Shared->Prop}(hh:A.handled=none)
  (hit:s.heap.IsTupleIter it t i) (ht:s.heap.IsTuple t items) (hx:items[i]?=none)
  (hE:∀ h' e,Heap.ExtBut it s.heap h'->(∃ o,h'.get? e=some o/\o.cls=.type "StopIteration")->E (.ref e) { s with heap:=h' }) :
  wpAny (model prog w) A (Builtin.SmallTypes.nextOf (.ref it)) Q E s:=by
 obtain ⟨o,ho,hc,hd⟩:=id hit
 obtain ⟨ol,Vp,_,nl,Vq⟩:=ht
 unfold Builtin.SmallTypes.nextOf
 refine aac (wpAny_callSpecial?_slot (name:=Str.ofString "__next__") hit.typeIs F.slot_tuple_iterator_next
  (wpAny_call_entry F.slot_tuple_iterator_next hit.typeIs F.entry_tuple_iterator_next ?_ (F.args_tuple_iterator_next_1 _)))
 show wpAny _ _ (field (.ref it) 0 >>= _) _ _ s
 refine aac (wpAny_field ho hd (x:=.ref t) rfl ?_)
 show wpAny _ _ (if (Value.ref t == Value.none)=true then _ else _) _ _ s
 rw [if_neg (show ¬ ((Value.ref t == Value.none)=true) from Bool.false_ne_true)]
 show wpAny _ _ (field (.ref it) 1 >>= _) _ _ s
 refine aac (wpAny_field ho hd (x:=.int i 0) rfl ?_)
 show wpAny _ _ (seqItems? (.ref t) >>= _) _ _ s
 refine aac (wpAny_seqItems Vp Vq ?_)
 simp only [aaZ,hx]
 refine aac (wpAny_rule (aac (wpAny_setField ho hd (by simp) ?_)))
 show wpAny _ _ (newExc (.type "StopIteration") [] >>= _) _ _ _
 refine aac ?_
 simp only [newExc,newTuple]
 refine aac (wpAny_newObj_type ?_ (by size_fits))
 refine aac (m:=firstArgMember _ _) (wpAny_of_eq (a:=Value.none) (by first|rfl|(simp only [firstArgMember];rfl)) ?_)
 refine wpAny_newObj_type ?_ (by size_fits)
 simp only [raiseNew]
 refine aac (wpAny_handled ?_)
 first|rw [show A.in1.handled=none from hh]|rw [hh]
 refine aac (aau (wpAny_throw ?_))
 exact hE _ _ (((Heap.SameBut.update ..).extBut.push _).push _) ⟨_,aaf _ rfl,rfl⟩
theorem mw{k:Bool}{it a:Addr}{i:Nat}{xs:Array Value}{x:Value}{Q:Value->Shared->Prop}(hit:jf k s.heap it a i)(hs:cw k s.heap a xs)(hx:xs[i]?=some x)
  (hQ:∀ h',jf k h' it a (i+1)->Heap.SameBut it s.heap h'->Q x { s with heap:=h' }):wpAny (model prog w) A (Builtin.SmallTypes.nextOf (.ref it)) Q E s:=by
 cases k with
 | true=>exact mv hit hs hx hQ
 | false=>exact wpAny_nextOf_list_item hit hs hx hQ
theorem wB{k:Bool}{it a:Addr}{i:Nat}{xs:Array Value}{Q:Value->Shared->Prop}(hh:A.handled=none)(hit:jf k s.heap it a i)(hs:cw k s.heap a xs)(hx:xs[i]?=none)
  (hE:∀ h' e,Heap.ExtBut it s.heap h'->(∃ o,h'.get? e=some o/\o.cls=.type "StopIteration")->E (.ref e) { s with heap:=h' }):wpAny (model prog w) A (Builtin.SmallTypes.nextOf (.ref it)) Q E s:=by
 cases k with
 | true=>exact nM hh hit hs hx hE
 | false=>exact wpAny_nextOf_list_end hh hit hs hx hE
theorem wC{T:Addr}{vs:Array Value}{x:Value}{k:Nat}{Q:Unit->Shared->Prop}(hT:IsT s.heap T vs)(hz:vs.size<=8)
  (h:∀ h',IsT h' T (vs.setIfInBounds k x)->Heap.SameBut T s.heap h'->Q () { s with heap:=h' }):wpAny (model prog w) A (updateSeq T (·.setIfInBounds k x)) Q E s:=by
 have RI:vs.size<=sizeLine:=aah hz (by decide)
 refine wpAny_updateSeq (hz:=RI) (_hz':=by simp only [Array.size_setIfInBounds];lia) hT rfl (h _ ?_ (Heap.SameBut.update ..))
 show (s.heap.update T _).get? T=_
 rw [Heap.get?_update_self _ hT rfl]
 simp [Obj.mapSeq]
structure zj(k1 k2:Bool)(n a b:Nat)(i:Nat)(f0:Value)(h:Heap):Prop where
 z:IsZip h (n+4) (n+2) (n+3) f0
 ti:IsT h (n+2) #[.ref n,.ref (n+1)]
 to:∃ u v,IsT h (n+3) #[u,v]
 i1:jf k1 h n a i
 i2:jf k2 h (n+1) b i
def Off(l:List Addr)(h h':Heap):Prop:=∀ c o,c∉l->h.get? c=some o->h'.get? c=some o
theorem Off.of{c:Addr}{l:List Addr}{h h':Heap}(s:Heap.SameBut c h h')(hc:c∈l):Off l h h':=fun b o hb e=>(s.2 b fun z=>hb (z ▸ hc)).trans e
theorem Off.trans{l:List Addr}{h h1 h2:Heap}(a:Off l h h1)(b:Off l h1 h2):Off l h h2:=fun c o hc e=>b c o hc (a c o hc e)
theorem Off.push{l:List Addr}{h:Heap}(o:Obj):Off l h (h.push o):=fun _ _ _ e=>aab _ e
theorem EA{k1 k2:Bool}{n a b:Nat}{i:Nat}{xs ys:Array Value}{x y:Value}{Q:Value->Shared->Prop}(Z:zj k1 k2 n a b i .none s.heap)(ha:a<n)(hb:b<n)
  (h1:cw k1 s.heap a xs) (h2:cw k2 s.heap b ys) (hx:xs[i]?=some x) (hy:ys[i]?=some y)
  (hQ:∀ h',zj k1 k2 n a b (i+1) (rawInt s.heap.objs.size) h'->IsT h' s.heap.objs.size #[x,y]->h'.objs.size=s.heap.objs.size+1->Off [n,n+1,n+3,n+4] s.heap h'->Q (.ref s.heap.objs.size) { s with heap:=h' }) :
  wpAny (model prog w) A (Builtin.«zip.__next__» ⟨[.ref (n+4)],[]⟩) (fun fin s'=>∃ v,fin=.done (.ret v)/\Q v s') E s:=by
 obtain ⟨hz,MP,⟨u,v,Of⟩,MQ,Og⟩:=Z
 show wpAny _ _ (field (.ref (n+4)) 2 >>= _) _ _ _
 refine aac (wpAny_field hz rfl (x:=.bool false) rfl ?_)
 show wpAny _ _ (field (.ref (n+4)) 3 >>= _) _ _ _
 refine aac (wpAny_field hz rfl (x:=.ref (n+2)) rfl ?_)
 refine aac (wpAny_seqItems MP rfl ?_)
 show wpAny _ _ (Builtin.SmallTypes.ownedTupleIsFree (.ref (n+4)) >>= _) _ _ _
 refine aac ?_
 unfold Builtin.SmallTypes.ownedTupleIsFree
 refine aac (wpAny_field hz rfl (x:=.none) rfl (aau ?_))
 simp only [if_true]
 refine aac (wpAny_rule ?_)
 refine aac (wpAny_field hz rfl (x:=.ref (n+3)) rfl ?_)
 refine aac (wpAny_setField_rec hz (by simp) fun g1 G5 rG=>?_)
 replace G5:IsZip g1 (n+4) (n+2) (n+3) .ellipsis:=G5
 refine aac ?_
 simp only [List.zipIdx_cons,List.zipIdx_nil,forIn_cons,forIn_nil]
 refine aac (aac (wpAny_onRaise ?_))
 show wpAny _ _ (Builtin.SmallTypes.nextOf (.ref n) >>= _) _ _ _
 refine aac (mw (MQ.keep fun o e=>(rG.2 _ (gb (by lia))).trans e) (h1.keep fun o e=>(rG.2 _ (gb (by lia))).trans e) hx fun g2 RJ iB=>aau ?_)
 have G6:IsT g2 (n+3) #[u,v]:=(iB.2 _ (gb (by lia))).trans ((rG.2 _ (gb (by lia))).trans Of)
 refine aac (wpAny_seqItems G6 rfl ?_)
 refine aac (wC G6 (by simp) fun g3 K4 tE=>?_)
 replace K4:IsT g3 (n+3) #[x,v]:=K4
 refine aac (wpAny_letGo (aau ?_))
 refine aac (aac (wpAny_onRaise ?_))
 show wpAny _ _ (Builtin.SmallTypes.nextOf (.ref (n+1)) >>= _) _ _ _
 refine aac (mw (Og.keep fun o e=>(tE.2 _ (gb (by lia))).trans ((iB.2 _ (gb (by lia))).trans ((rG.2 _ (gb (by lia))).trans e))) (h2.keep fun o e=>(tE.2 _ (gb (by lia))).trans ((iB.2 _ (gb (by lia))).trans ((rG.2 _ (gb (by lia))).trans e))) hy fun g4 Vr MR=>aau ?_)
 have RK:IsT g4 (n+3) #[x,v]:=(MR.2 _ (gb (by lia))).trans K4
 refine aac (wpAny_seqItems RK rfl ?_)
 refine aac (wC RK (by simp) fun g5 K5 RL=>?_)
 replace K5:IsT g5 (n+3) #[x,y]:=K5
 refine aac (wpAny_letGo (aau (aau ?_)))
 refine aac (wpAny_seqItems K5 rfl ?_)
 refine aac (wpAny_newTuple ?_)
 have hsz:g5.objs.size=s.heap.objs.size:=by rw [RL.1,MR.1,tE.1,iB.1,rG.1]
 have Ym:IsZip g5 (n+4) (n+2) (n+3) .ellipsis:=(RL.2 _ (gb (by lia))).trans ((MR.2 _ (gb (by lia))).trans ((tE.2 _ (gb (by lia))).trans ((iB.2 _ (gb (by lia))).trans G5)))
 have RM:Off [n,n+1,n+3,n+4] s.heap g5:=((((Off.of rG (by simp)).trans (Off.of iB (by simp))).trans (Off.of tE (by simp))).trans (Off.of MR (by simp))).trans (Off.of RL (by simp))
 have RN:n+4<g5.objs.size:=aae Ym
 show wpAny _ _ (Builtin.SmallTypes.ownedTupleHandOut (.ref (n+4)) (.ref g5.objs.size) >>= _) _ _ _
 refine aac ?_
 unfold Builtin.SmallTypes.ownedTupleHandOut
 have Zu:IsZip (g5.push { cls:=.type "tuple",data:=.seq #[x,y] }) (n+4) (n+2) (n+3) .ellipsis:=aab _ Ym
 refine aac (wpAny_setField_rec Zu (by simp) fun g7 Vs Vt=>?_)
 replace Vs:IsZip g7 (n+4) (n+2) (n+3) (rawInt g5.objs.size):=Vs
 refine wpAny_setField_rec Vs (by simp) fun g8 UH Vu=>?_
 replace UH:IsZip g8 (n+4) (n+2) (n+3) (rawInt g5.objs.size):=UH
 have up:∀ c o,c≠n+4->g5.get? c=some o->g8.get? c=some o:=fun c o c1 e=>(Vu.2 _ c1).trans ((Vt.2 _ c1).trans (aab _ e))
 have Yn:IsT g8 g5.objs.size #[x,y]:=(Vu.2 _ (Nat.ne_of_gt RN)).trans ((Vt.2 _ (Nat.ne_of_gt RN)).trans (aaf _ rfl))
 have RO:g8.objs.size=g5.objs.size+1:=by rw [Vu.1,Vt.1,Heap.size_push]
 rw [hsz] at UH Yn RO
 refine aau ⟨_,rfl,?_⟩
 show Q (.ref g5.objs.size) _
 rw [hsz]
 refine hQ g8 ⟨UH,up _ _ (gb (by lia)) (RM _ _ (by simp) MP),⟨x,y,up _ _ (gb (by lia)) K5⟩,?_,?_⟩ Yn RO fun c o hc e=>?_
 ·exact RJ.keep fun o e=>up _ o (gb (by lia)) ((RL.2 _ (gb (by lia))).trans ((MR.2 _ (gb (by lia))).trans ((tE.2 _ (gb (by lia))).trans e)))
 ·exact Vr.keep fun o e=>up _ o (gb (by lia)) ((RL.2 _ (gb (by lia))).trans e)
 ·exact up c o (fun z=>hc (by simp [z])) (RM c o hc e)
theorem EB{k1 k2:Bool}{n a b:Nat}{i:Nat}{xs ys:Array Value}{Q:Fin->Shared->Prop}(hh:A.handled=none)(Z:zj k1 k2 n a b i .none s.heap)(ha:a<n)(hb:b<n)
  (h1:cw k1 s.heap a xs) (h2:cw k2 s.heap b ys) (EC:xs[i]?=none\/ys[i]?=none)
  (hE:∀ h' e,Off [n,n+1,n+3,n+4] s.heap h'->(∃ o,h'.get? e=some o/\o.cls=.type "StopIteration")->E (.ref e) { s with heap:=h' }) :
  wpAny (model prog w) A (Builtin.«zip.__next__» ⟨[.ref (n+4)],[]⟩) Q E s:=by
 obtain ⟨hz,MP,⟨u,v,Of⟩,MQ,Og⟩:=Z
 show wpAny _ _ (field (.ref (n+4)) 2 >>= _) _ _ _
 refine aac (wpAny_field hz rfl (x:=.bool false) rfl ?_)
 show wpAny _ _ (field (.ref (n+4)) 3 >>= _) _ _ _
 refine aac (wpAny_field hz rfl (x:=.ref (n+2)) rfl ?_)
 refine aac (wpAny_seqItems MP rfl ?_)
 show wpAny _ _ (Builtin.SmallTypes.ownedTupleIsFree (.ref (n+4)) >>= _) _ _ _
 refine aac ?_
 unfold Builtin.SmallTypes.ownedTupleIsFree
 refine aac (wpAny_field hz rfl (x:=.none) rfl (aau ?_))
 simp only [if_true]
 refine aac (wpAny_rule ?_)
 refine aac (wpAny_field hz rfl (x:=.ref (n+3)) rfl ?_)
 refine aac (wpAny_setField_rec hz (by simp) fun g1 G5 rG=>?_)
 replace G5:IsZip g1 (n+4) (n+2) (n+3) .ellipsis:=G5
 refine aac ?_
 simp only [List.zipIdx_cons,List.zipIdx_nil,forIn_cons,forIn_nil]
 refine aac (aac (wpAny_onRaise ?_))
 show wpAny _ _ (Builtin.SmallTypes.nextOf (.ref n) >>= _) _ _ _
 have fin:∀ {g h':Heap} {e:Addr},IsZip g (n+4) (n+2) (n+3) .ellipsis->(∃ o,g.get? e=some o/\o.cls=.type "StopIteration")->Off [n,n+1,n+3,n+4] s.heap g->∀ s':Shared,s'={ s with heap:=g } ->
   wpAny (model prog w) A (setField (.ref (n+4)) 0 .none) (fun _ s'=>E (.ref e) s') E s':=by
  intro g h' e Yo ⟨oe,Vv,Yp⟩ off s' es
  subst es
  have Zv:e≠n+4:=fun z=>by subst z;rw [Yo] at Vv;cases Vv;simp at Yp
  exact wpAny_setField_rec Yo (by simp) fun g9 _ Yq=>hE g9 e (off.trans (Off.of Yq (by simp))) ⟨oe,(Yq.2 _ Zv).trans Vv,Yp⟩
 cases hx:xs[i]? with
 | none =>
  refine aac (wB hh (MQ.keep fun o e=>(rG.2 _ (gb (by lia))).trans e) (h1.keep fun o e=>(rG.2 _ (gb (by lia))).trans e) hx fun g2 e iB he=>?_)
  exact fin (h':=g2) (iB _ _ (gb (by lia)) G5) he ((Off.of rG (by simp)).trans fun c o hc q=>iB c o (fun z=>hc (by simp [z])) q) _ rfl
 | some x =>
  have hy:ys[i]?=none:=by rcases EC with h|h;rw [hx] at h;cases h;exact h
  refine aac (mw (MQ.keep fun o e=>(rG.2 _ (gb (by lia))).trans e) (h1.keep fun o e=>(rG.2 _ (gb (by lia))).trans e) hx fun g2 RJ iB=>aau ?_)
  have G6:IsT g2 (n+3) #[u,v]:=(iB.2 _ (gb (by lia))).trans ((rG.2 _ (gb (by lia))).trans Of)
  refine aac (wpAny_seqItems G6 rfl ?_)
  refine aac (wC G6 (by simp) fun g3 K4 tE=>?_)
  refine aac (wpAny_letGo (aau ?_))
  refine aac (aac (wpAny_onRaise ?_))
  show wpAny _ _ (Builtin.SmallTypes.nextOf (.ref (n+1)) >>= _) _ _ _
  refine aac (wB hh (Og.keep fun o e=>(tE.2 _ (gb (by lia))).trans ((iB.2 _ (gb (by lia))).trans ((rG.2 _ (gb (by lia))).trans e))) (h2.keep fun o e=>(tE.2 _ (gb (by lia))).trans ((iB.2 _ (gb (by lia))).trans ((rG.2 _ (gb (by lia))).trans e))) hy fun g4 e MR he=>?_)
  exact fin (h':=g4) (MR _ _ (gb (by lia)) ((tE.2 _ (gb (by lia))).trans ((iB.2 _ (gb (by lia))).trans G5))) he ((((Off.of rG (by simp)).trans (Off.of iB (by simp))).trans (Off.of tE (by simp))).trans fun c o hc q=>MR c o (fun z=>hc (by simp [z])) q) _ rfl
theorem zk{k1 k2:Bool}{n a b:Nat}{i:Nat}{xs ys:Array Value}{x y:Value}{Q:Option Value->Shared->Prop}(Z:zj k1 k2 n a b i .none s.heap)(ha:a<n)(hb:b<n)
  (h1:cw k1 s.heap a xs) (h2:cw k2 s.heap b ys) (hx:xs[i]?=some x) (hy:ys[i]?=some y)
  (hQ:∀ h',zj k1 k2 n a b (i+1) (rawInt s.heap.objs.size) h'->IsT h' s.heap.objs.size #[x,y]->h'.objs.size=s.heap.objs.size+1->Off [n,n+1,n+3,n+4] s.heap h'->Q (some (.ref s.heap.objs.size)) { s with heap:=h' }) :
  wpAny (model prog w) A (pyNext (.ref (n+4))) Q E s:=by
 have hT:s.TypeIs (.ref (n+4)) "zip":=⟨_,Z.z,rfl⟩
 unfold pyNext
 exact aac (wpAny_attempt (wpAny_callSpecial?_slot (name:=Str.ofString "__next__") hT F.slot_zip_next
  (wpAny_call_entry F.slot_zip_next hT F.entry_zip_next
   (EA Z ha hb h1 h2 hx hy fun h' a1 a2 a3 a4=>aau (hQ h' a1 a2 a3 a4)) (F.args_zip_next_1 _))))
theorem qv{k1 k2:Bool}{n a b:Nat}{i:Nat}{xs ys:Array Value}{Q:Option Value->Shared->Prop}(hh:A.handled=none)(Z:zj k1 k2 n a b i .none s.heap)(ha:a<n)(hb:b<n)
  (h1:cw k1 s.heap a xs) (h2:cw k2 s.heap b ys) (EC:xs[i]?=none\/ys[i]?=none)
  (hQ:∀ h',Off [n,n+1,n+3,n+4] s.heap h'->Q none { s with heap:=h' }):wpAny (model prog w) A (pyNext (.ref (n+4))) Q E s:=by
 have hT:s.TypeIs (.ref (n+4)) "zip":=⟨_,Z.z,rfl⟩
 unfold pyNext
 refine aac (wpAny_attempt (wpAny_callSpecial?_slot (name:=Str.ofString "__next__") hT F.slot_zip_next
  (wpAny_call_entry F.slot_zip_next hT F.entry_zip_next (EB (A:=A.in1) hh Z ha hb h1 h2 EC fun h' e hk he=>?_) (F.args_zip_next_1 _))))
 obtain ⟨o,ho,hc⟩:=he
 refine aac (wpAny_isInstance (T:="StopIteration") (b:=true) ⟨o,ho,hc⟩ isSubtype_stop ?_)
 exact aau (hQ _ hk)
end
abbrev MS (k1 k2:Bool) (h:Heap) (a b:Addr):Heap:=((((h.push (eA k1 a)).push (eA k2 b)).push { cls:=.type "tuple",data:=.seq #[.ref h.objs.size,.ref (h.objs.size+1)] }).push { cls:=.type "tuple",data:=.seq #[.none,.none] }).push
 { cls:=.type "zip",data:=.fields #[.none,.bool false,.bool false,.ref (h.objs.size+2),.ref (h.objs.size+3)] }
theorem ED(k1 k2:Bool)(a b:Addr)(xs ys:Array Value) :
  Meets (Builtin.«zip.__new__» ⟨[.type "zip",.ref a,.ref b],[]⟩) (fun _ R s=>cw k1 s.heap a xs/\cw k2 s.heap b ys /\
   R (.ok (.ret (.ref (s.heap.objs.size+4)))) { s with heap:=MS k1 k2 s.heap a b }) :=
 .of_wp fun prog w A R s h=>by
  obtain ⟨hp,g,d,tk,os⟩:=s;obtain ⟨vF,MM,h⟩:=h
  have EE:=sub_zip
  have Zw:cw k1 (Shared.heap ⟨hp,g,d,tk,os⟩) a xs:=vF
  have Vw:cw k2 (Shared.heap ⟨hp.push (eA k1 a),g,d,tk,os⟩) b ys:=cw.keep MM fun o e=>aab _ e
  wp_walk using mr Zw,mr Vw
  refine⟨_,rfl,?_⟩
  simp only [Heap.size_push]
  exact h
open PySem PySem.Spec PyProof.Rows
def Sq(k:Bool)(K:Frag)(H:Hp)(a:Addr)(xs:List V):Prop:=match k with|true=>bh K H a xs|false=>bA K H a xs
section
variable {X:Cx}{pins:List (Addr×Obj)}{σ:St}{H H':Hp}{s:Shared}
theorem Inv.sq{k:Bool}{a:Addr}{xs:List V}(I:Inv X pins σ H s)(h:Sq k X.K H a xs):∃ its:List Value,Vals xs its/\cw k s.heap a its.toArray/\xs.length<=sizeLine:=by
 cases k with
 | true=>exact I.tuple h
 | false =>
  obtain ⟨its,r,p,z⟩:=I.list h
  exact⟨its,r,p.isList,z⟩
theorem Inv.Bm{k:Bool}{a:Addr}{xs ys:List V}(I:Inv X pins σ H s)(h:Sq k X.K H a xs)(h':Sq k X.K H a ys):xs=ys:=by
 cases k with
 | true=>exact I.vt h h'
 | false=>exact I.y9 h h'
theorem Inv.off{h':Heap}{t':Nat}{ch:List Addr}(I:Inv X pins σ H s)(hf:∀ b∈ch,l9 X pins H b)(off:Off ch s.heap h')(aR:eQ X.prog X.w H' h')
  (free:∀ b o,b∉ch->s.heap.get? b=some o->H b=none->H' b=none) (same:∀ b o,H b=some o->H' b=some o):Inv X pins σ H' { s with heap:=h',toks:=t' }:=by
 refine I.step (g':=s.gens) (d':=s.drawn) (ch:=ch) (fun b hb=>?_) (fun b o _ _ hc e _=>off b o hc e) (fun b o _ _ hc e _=>⟨o.slots,off b o hc e⟩) (fun b o hc e n=>free b o hc e n) (fun b o hc e=>⟨o,off b o hc e⟩)
  (fun b xs e=>same b _ e) (fun b o u e=>same b _ e) (fun b ps e=>⟨#[],by rw [same b _ e];simp⟩) (fun m hm=>?_) aR I.bare
 ·obtain ⟨f0,f1,f2,f3,f4,f5⟩:=hf b hb
  exact⟨f3,f1,f4,f5⟩
 ·obtain ⟨o,es,ep,ho,r⟩:=hm
  exact⟨o,es,ep,off _ o (fun z=>(hf _ z).2.1 rfl) ho,r⟩
theorem eQ.off{P:Program}{w:World}{h h':Heap}{ch:List Addr}(x:eQ P w H h)(hn:∀ b∈ch,H b=none)(off:Off ch h h'):eQ P w H h':=fun a o e=>by
 have na:∀ b u,H b=some u->b∉ch:=fun b u q z=>by rw [hn b z] at q;cases q
 refine (x a o e).l8 (fun b u hb q=>off b u ?_ q) (fun _ q=>q) fun _ _ q=>q
 rcases hb with rfl|hb
 ·exact na _ _ e
 ·exact na _ _ hb
theorem eQ.G7{P:Program}{w:World}{h h':Heap}{ch:List Addr}{T:Addr}{ob:HO}(x:eQ P w H h)(hn:∀ b∈ch,H b=none)(off:Off ch h h')(hT:h.objs.size<=T)(new:bJ P w (upd H T ob) h' T ob):eQ P w (upd H T ob) h':=fun a o e=>by
 have MT:=x.fresh hT
 have na:∀ b u,H b=some u->b∉ch:=fun b u q z=>by rw [hn b z] at q;cases q
 by_cases ha:a=T
 ·subst ha;rw [ao] at e;cases e;exact new
 ·rw [ar ha] at e
  refine (x a o e).l8 (fun b u hb q=>off b u ?_ q) (fun c q=>by rw [ar (aN q MT)];exact q) fun c xs q=>by rw [ar (aN q MT)];exact q
  rcases hb with rfl|hb
  ·exact na _ _ e
  ·exact na _ _ hb
end
theorem Dq{c:Addr}{n:Nat}(z:c∈([n,n+1,n+3,n+4]:List Addr)):c∈([n+4,n+2,n+3,n,n+1]:List Addr):=by
 simp only [aaG,not_mem_nil,or_false] at z ⊢
 rcases z with h|h|h|h <;> simp [h]
def QB(K : Frag)(k1 k2 : Bool)(a b : Addr) : It :=
  ⟨fun i H => ∃ xs ys x y, Sq k1 K H a xs /\ Sq k2 K H b ys /\ xs[i]?=some x /\ ys[i]?=some y,
   fun i H v H' => ∃ p x y, v=.ref p /\ H p=none /\ (∀ xs, Sq k1 K H a xs -> xs[i]?=some x) /\ (∀ ys, Sq k2 K H b ys -> ys[i]?=some y) /\ H'=upd H p (.tup [x, y]),
   fun i H => ∃ xs ys, Sq k1 K H a xs /\ Sq k2 K H b ys /\ (xs.length <= i \/ ys.length <= i)⟩
theorem EF{P:Program}{w:World}{K:Frag}{es:List Expr}{kk:Nat}{pos:Pos}{k1 k2:Bool}(n a b:Nat)(ha:a<n)(hb:b<n) :
  Turn P w K (.Tuple es kk pos) (QB K k1 k2 a b) [n+4,n+2,n+3,n,n+1] (n+4) (fun i h=>zj k1 k2 n a b i .none h) where
 mem:=by simp
 obj:=fun i h st c hc=>by
  obtain ⟨hz,MP,⟨u,v,Of⟩,MQ,Og⟩:=st
  simp only [aaG,not_mem_nil,or_false] at hc
  rcases hc with rfl|rfl|rfl|rfl|rfl
  ·exact⟨_,hz,fun v z=>nomatch z⟩
  ·exact⟨_,MP,fun v z=>nomatch z⟩
  ·exact⟨_,Of,fun v z=>nomatch z⟩
  ·exact MQ.obj
  ·exact Og.obj
 keep:=fun i h h' st k=>by
  obtain ⟨hz,MP,⟨u,v,Of⟩,MQ,Og⟩:=st
  exact⟨k _ (by simp) _ hz,k _ (by simp) _ MP,⟨u,v,k _ (by simp) _ Of⟩,MQ.keep fun o e=>k _ (by simp) o e,Og.keep fun o e=>k _ (by simp) o e⟩
 item:=by
  intro X hP hw hK hc i pins s σ H E I hf st hg
  subst hP hw hK
  obtain ⟨xs,ys,x,y,qx,qy,ex,ey⟩:=hg
  obtain ⟨Oh,r1,s1,_⟩:=I.sq qx
  obtain ⟨Vx,r2,s2,_⟩:=I.sq qy
  obtain ⟨u,hu,ru⟩:=r1.get ex
  obtain ⟨v,hv,rv⟩:=r2.get ey
  refine zk st ha hb s1 s2 (x:=u) (y:=v) (by simpa using hu) (by simpa using hv) fun h' Z hT hsz off=>⟨_,rfl,?_⟩
  have MT:H s.heap.objs.size=none:=I.aR.fresh (aai _)
  have Vy:n+4<s.heap.objs.size:=aae st.z
  refine wpAny_letOwnedTupleGo_zip Z.z fun h2 RI iB=>?_
  have rH:Off [n+4,n+2,n+3,n,n+1] s.heap h2:=fun c o hc e=>(iB.2 c fun z=>hc (by simp [z])).trans (off c o (fun z=>hc (Dq z)) e)
  have EG:IsT h2 s.heap.objs.size #[u,v]:=(iB.2 _ (Nat.ne_of_gt Vy)).trans hT
  refine⟨.ref s.heap.objs.size,upd H s.heap.objs.size (.tup [x,y]),?_,rfl,⟨_,x,y,rfl,MT,fun zs RP=>by rw [I.Bm RP qx];exact ex,fun zs RP=>by rw [I.Bm RP qy];exact ey,rfl⟩,?_,fun c hc=>?_⟩
  ·refine Inv.off (s:=s) (h':=h2) (t':=s.toks) (ch:=[n+4,n+2,n+3,n,n+1]) I hf rH (I.aR.G7 (fun c hc=>(hf c hc).1) rH (aai _) ?_) (fun c o _ e hn=>?_) fun c o e=>?_
   ·exact⟨by show 2<=sizeLine;decide,[u,v],.cons ru (.cons rv .nil),⟨_,EG,rfl,_,rfl⟩⟩
   ·rw [ar (aaU (aae e))];exact hn
   ·rw [ar (aN e MT)];exact e
  ·obtain ⟨z1,z2,⟨a1,a2,z3⟩,z4,z5⟩:=Z
   exact⟨RI,(iB.2 _ (gb (by lia))).trans z2,⟨a1,a2,(iB.2 _ (gb (by lia))).trans z3⟩,z4.keep fun o e=>(iB.2 _ (gb (by lia))).trans e,z5.keep fun o e=>(iB.2 _ (gb (by lia))).trans e⟩
  ·have cn:c≠s.heap.objs.size:=by
    simp only [aaG,not_mem_nil,or_false] at hc
    rcases hc with rfl|rfl|rfl|rfl|rfl <;> exact gb (by lia)
   rw [ar cn];exact (hf c hc).1
 done:=by
  intro X hP hw hK hc i pins s σ H E I hf st hg
  subst hP hw hK
  obtain ⟨xs,ys,qx,qy,EC⟩:=hg
  obtain ⟨Oh,r1,s1,_⟩:=I.sq qx
  obtain ⟨Vx,r2,s2,_⟩:=I.sq qy
  have e1:=r1.length
  have e2:=r2.length
  refine qv (I.ok.hd hc) st ha hb s1 s2 ?_ fun h' off=>⟨rfl,?_⟩
  ·rcases EC with z|z
   ·exact .inl (by simp;lia)
   ·exact .inr (by simp;lia)
  ·have rH:Off [n+4,n+2,n+3,n,n+1] s.heap h':=fun c o hc e=>off c o (fun z=>hc (Dq z)) e
   exact Inv.off (s:=s) (t':=s.toks) I hf rH (I.aR.off (fun c hc=>(hf c hc).1) rH) (fun _ _ _ _ q=>q) fun _ _ q=>q
 self:=fun _ _ _ _ _ st h=>wpAny_pyIter_zip st.z h
section
variable {X:Cx}
def G8(K:Frag)(k1 k2:Bool)(ta:TA):TI:=fun σ H R=>ta σ H fun vs H1=>∃ a b,vs=[.ref a,.ref b]/\(∃ xs,Sq k1 K H1 a xs)/\(∃ ys,Sq k2 K H1 b ys)/\R (QB K k1 k2 a b) H1
theorem K6 (k1 k2:Bool) {es:List Expr} {kk:Nat} {tF:Pos} {a b:Expr} {ta:TA} {p pos:Pos} (hg:Gl X "zip") (hm:X.mg "zip"=none) (ha:PA X [a,b] ta) (hs:starEach [a,b] X.env=[(false,eval a X.env),(false,eval b X.env)]:=by rfl) (iB:starEach [b] X.env=[(false,eval b X.env)]:=by rfl) :
  PI X (.Tuple es kk tF) (.Call (.Name "zip" p) [a,b] [] pos) (G8 X.K k1 k2 ta):=by
 intro pins s σ H R I h
 refine Call_ (lD I hg hm boot_zip (callWith_type1 (bS (ha pos pins s σ H _ I h) fun us s1 ⟨vs,H1,I1,r1,q1⟩=>?_) (by rw [hs,iB]) (by rw [iB];rfl)))
 obtain ⟨a',b',e,⟨xs,qx⟩,⟨ys,qy⟩,q⟩:=q1
 subst e
 obtain ⟨u,v,rfl,ru,rv⟩:=vals2 r1
 cases ru
 cases rv
 obtain ⟨Oh,r1,RQ,_⟩:=I1.sq qx
 obtain ⟨Vx,r2,Yr,_⟩:=I1.sq qy
 refine callType_new PySem.F.called_zip (by decide) (PySem.F.typeCall_zip_2 _ _) (PySem.F.newCall_zip_2 _ _) (fun obj=>PySem.F.args_object_init_3 obj _ _) PySem.F.entry_zip_new (ED k1 k2 a' b' Oh.toArray Vx.toArray) ⟨RQ,Yr,?_⟩
 have z1:(s1.heap.push (eA k1 a')).objs.size=s1.heap.objs.size+1:=Heap.size_push ..
 have z2:((s1.heap.push (eA k1 a')).push (eA k2 b')).objs.size=s1.heap.objs.size+2:=by rw [Heap.size_push,z1]
 have z3:(((s1.heap.push (eA k1 a')).push (eA k2 b')).push { cls:=.type "tuple",data:=.seq #[.ref s1.heap.objs.size,.ref (s1.heap.objs.size+1)] }).objs.size=s1.heap.objs.size+3:=by rw [Heap.size_push,z2]
 have z4:((((s1.heap.push (eA k1 a')).push (eA k2 b')).push { cls:=.type "tuple",data:=.seq #[.ref s1.heap.objs.size,.ref (s1.heap.objs.size+1)] }).push { cls:=.type "tuple",data:=.seq #[.none,.none] }).objs.size=s1.heap.objs.size+4:=by rw [Heap.size_push,z3]
 have g5:(MS k1 k2 s1.heap a' b').get? (s1.heap.objs.size+4)=some { cls:=.type "zip",data:=.fields #[.none,.bool false,.bool false,.ref (s1.heap.objs.size+2),.ref (s1.heap.objs.size+3)] }:=by rw [<- z4];exact aaf _ rfl
 have g4:(MS k1 k2 s1.heap a' b').get? (s1.heap.objs.size+3)=some { cls:=.type "tuple",data:=.seq #[.none,.none] }:=by rw [<- z3];exact aab _ (aaf _ rfl)
 have g3:(MS k1 k2 s1.heap a' b').get? (s1.heap.objs.size+2)=some { cls:=.type "tuple",data:=.seq #[.ref s1.heap.objs.size,.ref (s1.heap.objs.size+1)] }:=by rw [<- z2];exact aab _ (aab _ (aaf _ rfl))
 have g2:(MS k1 k2 s1.heap a' b').get? (s1.heap.objs.size+1)=some (eA k2 b'):=by rw [<- z1];exact aab _ (aab _ (aab _ (aaf _ (by cases k2 <;> rfl))))
 have g1:(MS k1 k2 s1.heap a' b').get? s1.heap.objs.size=some (eA k1 a'):=aab _ (aab _ (aab _ (aab _ (aaf _ (by cases k1 <;> rfl)))))
 have old:∀ c o,s1.heap.get? c=some o->(MS k1 k2 s1.heap a' b').get? c=some o:=fun c o x=>aab _ (aab _ (aab _ (aab _ (aab _ x))))
 have Z:zj k1 k2 s1.heap.objs.size a' b' 0 .none (MS k1 k2 s1.heap a' b'):=⟨g5,g3,⟨_,_,g4⟩,rF g1,rF g2⟩
 show _/\_
 refine⟨⟨_,g5,rfl⟩,wpAny_pyIter_zip Z.z ?_⟩
 refine⟨_,_,_,_,H1,rfl,I1.kept (t':=s1.toks) old,EF s1.heap.objs.size a' b' RQ.lt Yr.lt,Z,fun c hc=>?_,q⟩
 have Oi:s1.heap.objs.size<=c:=by
  simp only [aaG,not_mem_nil,or_false] at hc
  rcases hc with rfl|rfl|rfl|rfl|rfl <;> first|exact Nat.le_add_right _ _|exact aai _
 exact I1.Ej Oi (I1.aR.fresh Oi)
end
def vG(i:Int):Nat:=Builtin.Int.intBits i
def lg(i j:Int):Prop:=vG i+vG j<=1000000
theorem lg.ok{i j:Int}(h:lg i j):IntMulOk i j:=by
 unfold IntMulOk
 intro z
 simp only [Bool.and_eq_true,decide_eq_true_eq] at z
 have z2:=z.2
 unfold Builtin.Int.intTooBig at z2
 have h':Builtin.Int.intBits i+Builtin.Int.intBits j<=1000000:=h
 have b:(1000000:Int)<=bitsLine:=by decide
 simp only [decide_eq_true_eq] at z2
 lia
def RR(i j:Int):Prop:=0<j/\j.natAbs.log2<9000
section
variable {X:Cx}
theorem qN:ij X (binaryOp .Mult) (rI lg fun i j=>.int (i*j)):=Qw fun _ _ _ _ _ _ _ hc q=>mul_int q hc.ok
theorem zl:ij X (binaryOp .FloorDiv) (rI RR fun i j=>.int (i / j)):=Qw fun i j _ _ _ _ _ hc q=>by
 have h1:(0:Int)<j:=hc.1
 exact floordiv_int (by lia) (by rw [aaw i (by lia)];exact q) (.inl (PyProof.noPylong_of_log2 hc.2))
def Ys (K:Frag) (H:Hp) (x:V) (t:Value):Prop:=nE K H x t\/(∃ a xs,x=.ref a/\bh K H a xs/\t=.type "tuple")\/(∃ a xs,x=.ref a/\bA K H a xs/\t=.type "list")
theorem zm:cq X (.builtin "isinstance") (fun xs H Q=>∃ x n t b,xs=[x,.ty n]/\Ys X.K H x t/\PySem.W.kitOne X.K t (.type n)=some b/\Q (.bl b) H):=by
 intro pins s σ H xs us Q I r h
 obtain ⟨x,n,t,b,rfl,ty,e,q⟩:=h
 obtain ⟨u,c,rfl,ru,rc⟩:=vals2 r
 obtain rfl:c=Value.type n:=rc
 have fin:∀ tk,EP X pins σ Q (.bool b) { s with toks:=tk }:=fun tk=>⟨.bl b,H,I.tok tk,rfl,q⟩
 rcases ty with ty|⟨a,ys,rfl,hs,rfl⟩|⟨a,ys,rfl,hs,rfl⟩
 ·exact Er I ru ty e fin
 ·obtain rfl:u=Value.ref a:=ru
  obtain ⟨its,_,p,_⟩:=I.tuple hs
  obtain ⟨o,h1,h2,_⟩:=p
  exact PySem.W.kia_one kitx_tuple I.iA ⟨o,h1,h2⟩ e (fun z=>nomatch z) fin
 ·obtain rfl:u=Value.ref a:=ru
  obtain ⟨its,_,p,_⟩:=I.list hs
  obtain ⟨o,n',h1,h2,_⟩:=p
  exact PySem.W.kia_one kitx_list I.iA ⟨o,h1,h2⟩ e (fun z=>nomatch z) fin
end
theorem mB(K:Frag)(t:Value):PySem.W.kitOne K t t=some true:=by
 unfold PySem.W.kitOne
 rw [if_pos (by simp)]
def Def(K:Frag)(mg:Str->Option Value)(x:Str)(st:Stmt)(ps:List Str):Prop:=∃ f fd,K1 K x x st f fd/\mg x=some (.ref f)/\Binds K fd ps []
def Ok(P:Program)(w:World)(K:Frag)(mg:Str->Option Value)(base:Heap)(k:Nat)(x:Str)(ps:List Str)(sp:Sp):Prop :=
 ∃ f fd,rf P w K mg base Kg k f fd ps sp/\mg x=some (.ref f)/\PySem.W.keepIn K (.ref f)=true/\Binds K fd ps []
section
variable {P:Program}{w:World}{K:Frag}{mg:Str->Option Value}{base:Heap}
theorem Def.ok{x:Str}{st:Stmt}{N ps:List Str}{k:Nat}{sp:Sp}(D:Def K mg x st ps)(S:aE N ps (aq st))(len:∀ vs H Q E,sp vs H Q E->vs.length=ps.length)
  (iq:∀ (f:Addr) (bU:Value) (A:Around) (outer:List Env) (s:Shared) (H:Hp) (vs:List V) (Q:VK) (E:XK),de k (A.deeper (envOfC x (aq st) s.heap.objs.size f bU))->sp vs H Q E ->
   ∃ t,nv (k7 Kg P w K mg base N x (aq st) f bU A outer s H E).Ei (cx st) t/\t { nx:=fun _ H'=>Q .dt H',rt:=Q } (start N vs) H):Ok P w K mg base (k+1) x ps sp:=by
 obtain ⟨f,fd,F,hm,hb⟩:=D
 exact⟨f,fd,F.ok S len fun bU A outer s H vs Q E hr h=>iq f bU A outer s H vs Q E hr h,hm,F.kp,hb⟩
end
section
variable {X:Cx}{k:Nat}{x:Str}{ps:List Str}{sp:Sp}{p pos:Pos}{e:Expr}{es:List Expr}{t:TA}
theorem bj(O:Ok X.prog X.w X.K X.mg X.base k x ps sp)(hr:de k X.A)(ha:PA X (e::es) t)(hg:Gl X x:=by rfl)
  (me:(x == ("__debug__":Str))=false:=by decide) (he:starEach (e::es) X.env=(false,eval e X.env)::starEach es X.env:=by rfl) (jt:(backTo pos (starEach es X.env)).any (·.1)=false:=by rfl) :
  PE X (.Call (.Name x p) (e::es) [] pos) (Dh sp [] E0 t):=by
 obtain ⟨f,fd,F,hm,hk,hb⟩:=O
 exact KN F hr hg hm hk hb .nil Ru ha me he jt
end
def G9(K:Frag):Sp:=fun vs H Q _=>∃ (a:Addr) (ns:List Int),vs=[.ref a]/\bA K H a (ns.map V.int)/\ns.length<=63/\∀ H',Q (.bl true) H'
theorem ah.aW{H:Hp}{a:Addr}{o:HO}(h:H a=none):ah H (upd H a o):=fun b u e=>by rw [ar (aN e h)];exact e
theorem ah.at{K:Frag}{H H':Hp}{a:Addr}{xs:List V}(e:ah H H')(h:bh K H a xs):bh K H' a xs:=by
 rcases h with (h|⟨o,h⟩)|h
 ·exact .inl (.inl (e _ _ h))
 ·exact .inl (.inr ⟨o,e _ _ h⟩)
 ·exact .inr h
theorem ah.sq{k:Bool}{K:Frag}{H H':Hp}{a:Addr}{xs:List V}(e:ah H H')(h:Sq k K H a xs):Sq k K H' a xs:=by
 cases k with
 | true=>exact ah.at e h
 | false=>exact ah.seq e h
def CW(t:Nat)(l:Addr)(n:Nat)(f:Nat->V)(fr:St)(H1:Hp)(i m:Nat)(σ1:St)(ys:List V)(H':Hp):Prop :=
 m=n - i/\i<=n/\(∃ own:St,own.length=t/\σ1=own++fr)/\ys=(List.range i).map f/\ah H1 H'/\H' l=some (.lst ys)
theorem CW.next{t:Nat}{l:Addr}{n:Nat}{f:Nat->V}{fr:St}{H1 H' H5:Hp}{i:Nat}{y:V}(own:St)(ho:own.length=t)(hi:i<n)(hn:n<=1000000)(hl:H1 l=none)(hs:ah H1 H')(jg:H' l=some (.lst ((List.range i).map f)))(s5:ah H' H5)(ey:y=f i) :
  H5 l=some (.lst ((List.range i).map f))/\((List.range i).map f).length<sizeLine/\CW t l n f fr H1 (i+1) (n - (i+1)) (own++fr) ((List.range i).map f++[y]) (upd H5 l (.lst ((List.range i).map f++[y]))):=by
 subst ey
 refine⟨s5 _ _ jg,?_,rfl,hi,⟨own,ho,rfl⟩,?_,fun b o e=>?_,ao⟩
 ·rw [aaD,List.length_range]
  exact Nat.lt_of_lt_of_le (Nat.lt_of_lt_of_le hi hn) (by decide)
 ·rw [List.range_succ,aaQ];rfl
 ·rw [ar (aN e hl)]
  exact s5 _ _ (hs _ _ e)
theorem Dr{J:It}{H1:Hp}{ix:List (Option Nat)}{σ:St}{g:TG}{tt:TT}{te:TE}{Q:VK}(t:Nat)(fr:St)(n:Nat)(f:Nat->V)(wD:pick ix σ=List.replicate t none++fr)
  (mD:∀ H',ah H1 H'->J.stop n H') (Gd:∀ i H',i<n->ah H1 H'->J.go i H')
  (step:∀ i x l H' H2 own,own.length=t->i<n->H1 l=none->ah H1 H'->H' l=some (.lst ((List.range i).map f))->J.Kb i H' x H2 ->
   g x (own++fr) H2 fun σ2 H3=>tt σ2 H3 fun b H4=>if b=true then te σ2 H4 fun y H5=>H5 l=some (.lst ((List.range i).map f))/\((List.range i).map f).length<sizeLine/\CW t l n f fr H1 (i+1) (n - (i+1)) σ2 ((List.range i).map f++[y]) (upd H5 l (.lst ((List.range i).map f++[y])))
    else CW t l n f fr H1 (i+1) (n - (i+1)) σ2 ((List.range i).map f) H4)
  (hQ:∀ l H',H1 l=none->ah H1 H'->H' l=some (.lst ((List.range n).map f))->Q (.ref l) H') :
  cb ix g tt te σ Q J H1:=by
 intro l hl
 refine⟨CW t l n f fr H1,⟨n,by simp,aaT _,⟨_,length_replicate,wD⟩,rfl,ah.aW hl,ao⟩,?_⟩
 rintro i m σ1 ys H' ⟨rfl,hi,⟨own,ho,rfl⟩,rfl,hs,jg⟩
 refine⟨jg,?_⟩
 by_cases nA:i<n
 ·exact .inr ⟨Gd i H' nA hs,n - (i+1),by lia,fun x H2 hy=>step i x l H' H2 own ho nA hl hs jg hy⟩
 ·obtain rfl:i=n:=by lia
  exact .inl ⟨mD H' hs,hQ l H' hl hs jg⟩
theorem mE{J:It}{H1:Hp}{ix:List (Option Nat)}{σ:St}{te:TE}{Q:VK}(fr:St)(n:Nat)(f:Nat->V)(wD:pick ix σ=none::fr)(hn:n<=1000000)
  (mD:∀ H',ah H1 H'->J.stop n H') (Gd:∀ i H',i<n->ah H1 H'->J.go i H')
  (step:∀ i x H' H2 (Qc:VK),i<n->ah H1 H'->J.Kb i H' x H2->(∀ H5,ah H' H5->Qc (f i) H5)->te (some x::fr) H2 Qc)
  (hQ:∀ l H',H1 l=none->ah H1 H'->H' l=some (.lst ((List.range n).map f))->Q (.ref l) H'):cb ix (fN 0) (fun _ H Q=>Q true H) te σ Q J H1:=by
 refine Dr 1 fr n f wD mD Gd (fun i x l H' H2 own ho hi hl hs jg hy=>?_) hQ
 obtain ⟨o1,rfl⟩:∃ o1,own=[o1]:=by match own,ho with|[o1],_=>exact⟨o1,rfl⟩
 dsimp only [fN]
 rw [if_pos rfl]
 exact step i x H' H2 _ hi hs hy fun H5 s5=>CW.next (fr:=fr) [some x] rfl hi hn hl hs jg s5 rfl
theorem zo{K:Frag}{k1 k2:Bool}{a b:Addr}{xs ys:List V}{H1:Hp}{ix:List (Option Nat)}{σ:St}{te:TE}{Q:VK}(fr:St)(f:Nat->V)(wD:pick ix σ=none::none::fr)(ha:Sq k1 K H1 a xs)(hb:Sq k2 K H1 b ys)(hlen:xs.length=ys.length)(hn:xs.length<=1000000)
  (step:∀ i x y H' (Qc:VK),xs[i]?=some x->ys[i]?=some y->ah H1 H'->(∀ H5,ah H' H5->Qc (f i) H5)->te (some x::some y::fr) H' Qc)
  (hQ:∀ l H',H1 l=none->ah H1 H'->H' l=some (.lst ((List.range xs.length).map f))->Q (.ref l) H'):cb ix (Gq K 2 (q0 (fN 0) (q0 (fN 1) Kz))) (fun _ H Q=>Q true H) te σ Q (QB K k1 k2 a b) H1:=by
 refine Dr 2 fr xs.length f wD (fun H' s=>⟨_,_,s.sq ha,s.sq hb,.inl (aai _)⟩) (fun i H' hi s=>?_) (fun i x l H' H2 own ho hi hl hs jg hy=>?_) hQ
 ·exact⟨_,_,xs[i],ys[i]'(hlen ▸ hi),s.sq ha,s.sq hb,aax hi,aax (hlen ▸ hi)⟩
 ·obtain ⟨o1,o2,rfl⟩:∃ o1 o2,own=[o1,o2]:=by match own,ho with|[o1,o2],_=>exact⟨o1,o2,rfl⟩
  obtain ⟨p,x',y',rfl,hp,e1,e2,rfl⟩:=hy
  have g1:=e1 _ (hs.sq ha)
  have g2:=e2 _ (hs.sq hb)
  refine⟨p,_,rfl,bh.of ao,rfl,_,_,rfl,_,_,rfl,rfl,?_⟩
  show ite (true=true) _ _
  rw [if_pos rfl]
  exact step i x' y' _ _ g1 g2 (hs.trans (ah.aW hp)) fun H5 s5=>CW.next (fr:=fr) [some x',some y'] rfl hi hn hl hs jg ((ah.aW hp).trans s5) rfl
theorem wF{r:List Int}{i:Nat}{x:V}(h:(r.map V.int)[i]?=some x):x=.int (r.getD i 0)/\i<r.length:=by
 rw [aaP] at h
 cases e:r[i]? with
 | none=>rw [e] at h;cases h
 | some z =>
  rw [e] at h
  have hl:=(aad.mp e).1
  refine⟨?_,hl⟩
  rw [<- (aao h),List.getD,e];rfl
theorem int_at{r:List Int}{i:Nat}(h:i<r.length):(r.map V.int)[i]?=some (.int (r.getD i 0)):=by
 rw [aaP,List.getD,aax h];rfl
theorem range_getD{α:Type}(f:Int->α)(r:List Int):(List.range r.length).map (fun i=>f (r.getD i 0))=r.map f:=by
 apply ext_getElem
 ·simp
 ·intro i h1 h2
  simp at h1 h2
  simp [List.getD,h1]
theorem EH{α:Type}(f:Int->Int->α)(r q:List Int)(h:r.length=q.length):(List.range r.length).map (fun i=>f (r.getD i 0) (q.getD i 0))=List.zipWith f r q:=by
 apply ext_getElem
 ·simp [h]
 ·intro i h1 h2
  simp at h1 h2
  have:i<q.length:=by lia
  simp [List.getD,h1,this]
theorem Bo{K:Frag}{a b:Addr}{r q:List Int}{H1:Hp}{ix:List (Option Nat)}{σ:St}{Q:VK}(op:Int->Int->Int)(wD:pick ix σ=[none,none])(ha:bh K H1 a (r.map V.int))(hb:bh K H1 b (q.map V.int))(hlen:r.length=q.length)(hn:r.length<=1000)
  (hQ:∀ l H',H1 l=none->ah H1 H'->H' l=some (.lst ((List.zipWith op r q).map V.int))->Q (.ref l) H') :
  cb ix (Gq K 2 (q0 (fN 0) (q0 (fN 1) Kz))) (fun _ H Q=>Q true H) (Qv (KG fun i j=>.int (op i j)) (Gn 0) (Gn 1)) σ Q (QB K true true a b) H1:=by
 refine zo (k1:=true) (k2:=true) [] (fun i=>.int (op (r.getD i 0) (q.getD i 0))) wD ha hb (by simpa using hlen) (by rw [aaD];lia) (fun i x y H' Qc ex ey hs kc=>?_) fun l H' hl hs jg=>hQ l H' hl hs ?_
 ·obtain ⟨rfl,_⟩:=wF ex
  obtain ⟨rfl,_⟩:=wF ey
  exact⟨_,rfl,_,rfl,_,_,rfl,rfl,kc _ (ah.refl _)⟩
 ·rw [jg,aaD,EH (fun x y=>V.int (op x y)) r q hlen,List.map_zipWith]
theorem EI{K:Frag}{a:Addr}{r:List Int}{H1:Hp}{ix:List (Option Nat)}{σ:St}{te:TE}{Q:VK}(F:Int->V)(fr:St)(wD:pick ix σ=none::fr)(ha:bh K H1 a (r.map V.int))(hn:r.length<=1000)
  (step:∀ x H' (Qc:VK),x∈r->ah H1 H'->(∀ H5,ah H' H5->Qc (F x) H5)->te (some (.int x)::fr) H' Qc)
  (hQ:∀ l H',H1 l=none->ah H1 H'->H' l=some (.lst (r.map F))->Q (.ref l) H'):cb ix (fN 0) (fun _ H Q=>Q true H) te σ Q (F7 K a) H1:=by
 refine mE fr r.length (fun i=>F (r.getD i 0)) wD (by lia) (fun H' s=>⟨_,s.at ha,by simp⟩) (fun i H' hi s=>⟨_,_,s.at ha,int_at hi⟩) (fun i x H' H2 Qc hi hs hy kc=>?_) fun l H' hl hs jg=>hQ l H' hl hs ?_
 ·obtain ⟨rfl,e1⟩:=hy
  obtain ⟨rfl,_⟩:=wF (e1 _ (hs.at ha))
  exact step _ _ Qc (by rw [List.getD,aax hi];exact aaY hi) hs kc
 ·rw [jg,range_getD F r]
end L2
namespace Bp
def MU(a b c d e:Nat):Int:=2 ^ a*3 ^ b*5 ^ c*7 ^ d*11 ^ e
def Vz(ps:List Int)(es:List Int):Int:=(List.zipWith (fun p e=>p ^ e.toNat) ps es).foldl (·*·) 1
def Oj:List Int:=[2,3,5,7,11]
def num(es:List Int):Int:=Vz Oj es
def P5(p:Int):Prop:=p=2\/p=3\/p=5\/p=7\/p=11
def Zx(m:Int):Prop:=∀ p,P5 p->m % p≠0
def bl(x:Int):Nat:=if x == 0 then 0 else x.natAbs.log2+1
theorem Dt{x:Int}{k:Nat}(h:x.natAbs<2 ^ k):bl x<=k:=by
 unfold bl
 split
 ·lia
 ·rename_i hx
  have Zy:x.natAbs≠0:=by simpa using hx
  have:=(log2_lt Zy).mpr h
  lia
def F(m:Int)(x y:Int):Prop:=2 ^ (-m).toNat*y<=2 ^ m.toNat*x
def rt(b c d e:Int):Int:=MU 0 b.toNat c.toNat d.toNat e.toNat
def rb(b c d e:Int):Int:=MU 0 (-b).toNat (-c).toNat (-d).toNat (-e).toNat
section
variable (c0 c1 c2 c3 c4:Nat){m:Int}(h:Zx m)
include h
end
def sub(a b:List Int):List Int:=List.zipWith (· - ·) a b
def RS(r:List Int)(k:Int):List Int:=r.map (·*k)
def low(v s:List Int)(q:Int):List Int:=sub v (RS s q)
def Led(r:List Int)(k:Nat):Prop:=0<r.getD k 0/\∀ i,k<i->r.getD i 0=0
def Zz(a b:List Int):Prop:=∀ k,Led b k->(∃ j,k<j/\Led a j)/\0<=a.getD k 0/\a.getD k 0<b.getD k 0
def SF(rs:List (List Int)):Prop:=(∀ r∈rs,∃ k,Led r k)/\rs.Pairwise Zz
def UI(M:Nat)(r:List Int):Prop:=∀ i,(r.getD i 0).natAbs<=M
def at'(p:Nat)(v:List Int):Nat:=(v.getD p 0).natAbs
structure PS(n p M m l:Nat)(led os:List (List Int)):Prop where
 len:∀ v∈led++os,v.length=n
 bd:∀ v∈led++os,UI M v
 lo:∀ v∈led,l<=at' p v/\at' p v<=m
 pos:0<l
 big:∃ v∈led,at' p v=m
 low:∃ v∈led,at' p v=l
 one:(∀ v∈led,0<v.getD p 0)\/∀ v∈led,v.getD p 0<0
 zero:∀ v∈os,v.getD p 0=0
def mz(p:Nat)(rs:List (List Int)):Nat:=(rs.map (at' p)).sum
def PI(n p M:Nat)(led os:List (List Int)):Prop :=
 (∀ v∈led++os,v.length=n)/\(∀ v∈led,v.getD p 0≠0)/\(∀ v∈os,v.getD p 0=0) /\
  ((∀ v∈led++os,UI M v)\/(∃ m l M',PS n p M' m l led os/\M'*m*m*l<=3*(M*M*M*M))\/(led.length<=1/\∀ v∈led++os,UI (6*(M*M*M*M)) v))
def r2(p:Nat×Nat):List Int:=[(p.1:Int),(p.2:Int)]
def nN:List (Nat×Nat)->Nat
 | []=>1
 | p::l=>p.2*nN l
def A5:List (Nat×Nat)->Nat
 | []=>0
 | p::l=>p.1*nN l+p.2*A5 l
theorem rJ(x:Nat×Nat):∀ l,nN (l++[x])=nN l*x.2
 | []=>by simp [nN]
 | p::l=>by simp only [cons_append,nN,rJ x l,mul_assoc]
theorem zp(x:Nat×Nat):∀ l,A5 (l++[x])=A5 l*x.2+x.1*nN l
 | []=>by simp [nN,A5]
 | p::l=>by
  simp only [cons_append,nN,A5,rJ x l,zp x l]
  rw [mul_add,Nat.add_mul,mul_assoc,mul_assoc,Nat.mul_left_comm x.1 p.2,<- Nat.add_assoc]
theorem wG:∀ l:List (Nat×Nat),(∀ p∈l,0<p.2)->0<nN l
 | [],_=>Nat.one_pos
 | p::l,h=>mul_pos (h p (.head _)) (wG l fun q hq=>h q (.tail _ hq))
def Bq(l:List (Nat×Nat))(n d:Nat):Prop:=0<d/\Nat.gcd n d=1/\n*nN l=d*A5 l
theorem Bq.nil:Bq [] 0 1:=⟨Nat.one_pos,by decide,by simp [nN,A5]⟩
theorem Bq.snoc{l:List (Nat×Nat)}{n d:Nat}{x:Nat×Nat}(h:Bq l n d)(hx:0<x.2) :
  Bq (l++[x]) ((n*x.2+x.1*d) / Nat.gcd (n*x.2+x.1*d) (d*x.2)) (d*x.2 / Nat.gcd (n*x.2+x.1*d) (d*x.2)):=by
 obtain ⟨h1,h2,h3⟩:=h
 have hd:0<d*x.2:=mul_pos h1 hx
 have e:(n*x.2+x.1*d)*(nN l*x.2)=(d*x.2)*(A5 l*x.2+x.1*nN l):=by
  have:n*x.2*(nN l*x.2)=d*x.2*(A5 l*x.2):=by
   rw [show n*x.2*(nN l*x.2)=(n*nN l)*(x.2*x.2) by ac_rfl,h3]
   ac_rfl
  rw [Nat.add_mul,mul_add,this]
  congr 1
  ac_rfl
 generalize n*x.2+x.1*d=a at e ⊢
 generalize d*x.2=b at e hd ⊢
 have hg:0<Nat.gcd a b:=Nat.gcd_pos_of_pos_right _ hd
 obtain ⟨a',ea⟩:=gcd_dvd_left a b
 obtain ⟨b',eb⟩:=gcd_dvd_right a b
 refine⟨div_pos (le_of_dvd hd (gcd_dvd_right a b)) hg,Nat.gcd_div_gcd_div_gcd_of_pos_right hd,?_⟩
 rw [rJ,zp]
 have q1:a / Nat.gcd a b=a':=Nat.div_eq_of_eq_mul_right hg ea
 have q2:b / Nat.gcd a b=b':=Nat.div_eq_of_eq_mul_right hg eb
 rw [q1,q2]
 apply Nat.eq_of_mul_eq_mul_left hg
 rw [<- mul_assoc (Nat.gcd a b) a',<- mul_assoc (Nat.gcd a b) b',<- ea,<- eb]
 exact e
theorem Bq.uniq{l:List (Nat×Nat)}{n d n' d':Nat}(h:Bq l n d)(k:Bq l n' d')(hp:0<nN l):n=n'/\d=d':=by
 obtain ⟨h1,h2,h3⟩:=h
 obtain ⟨k1,k2,k3⟩:=k
 have e:n*d'=n'*d:=by
  apply Nat.eq_of_mul_eq_mul_left hp
  rw [show nN l*(n*d')=(n*nN l)*d' by ac_rfl,show nN l*(n'*d)=(n'*nN l)*d by ac_rfl,h3,k3]
  ac_rfl
 have c1:Nat.Coprime d n:=by rw [Nat.Coprime,gcd_comm];exact h2
 have c2:Nat.Coprime d' n':=by rw [Nat.Coprime,gcd_comm];exact k2
 have ZA:d ∣ d':=c1.dvd_of_dvd_mul_left (show d ∣ n*d' by rw [e];exact Nat.dvd_mul_left _ _)
 have ZC:d' ∣ d:=c2.dvd_of_dvd_mul_left (show d' ∣ n'*d by rw [<- e];exact Nat.dvd_mul_left _ _)
 have ed:=Nat.dvd_antisymm ZA ZC
 subst ed
 exact⟨Nat.eq_of_mul_eq_mul_right h1 e,rfl⟩
theorem Ha{n d t b B:Nat}(hn:n<=B)(hd:d<=B)(ht:t<=9999)(hb:b<=9999):n*b+t*d<=B*32768/\d*b<=B*32768:=by
 have h1:n*b<=B*9999:=aaK hn hb
 have h2:t*d<=9999*B:=aaK ht hd
 have h3:d*b<=B*9999:=aaK hd hb
 lia
theorem Hb(i:Nat):2 ^ (15*(i+1))=2 ^ (15*i)*32768:=by rw [mul_add,Nat.pow_add]
def gP(t b:Nat):Nat->Nat
 | 0=>0
 | 1=>t
 | _=>Nat.gcd t b
theorem zq(f m:Nat):Nat.gcd m (f % m)=Nat.gcd f m:=by rw [gcd_comm m,<- Nat.gcd_rec,gcd_comm]
theorem take_snoc{α:Type}{l:List α}{i:Nat}{x:α}(h:l[i]?=some x):l.take (i+1)=l.take i++[x]:=by
 rw [List.take_add_one,h];rfl
def gr(b:Nat):Nat->Nat
 | 0=>b
 | i+1=>4*gr b i+3
def sb(b:Nat):Nat->Nat
 | 0=>0
 | i+1=>sb b i+gr b (i+1)+1
structure PT(p X m k:Nat)(led os:List (List Int)):Prop where
 bd:∀ v∈led++os,UI X v
 hi:∀ v∈led,at' p v<=m
 one:(∀ v∈led,0<v.getD p 0)\/∀ v∈led,v.getD p 0<0
 low:∃ v∈led,at' p v+m<=k
def gs(b:Nat):Nat->Nat
 | 0=>b
 | i+1=>3*gs b i+3
def pd(R:List (List Int)):Nat->Nat->Int
 | _,0=>1
 | h,k+1=>(R.getD h []).getD h 0*pd R (h+1) k
def lb(W:Nat):Nat->Nat
 | 0=>0
 | i+1=>3*lb W i+2*W+12
end Bp
namespace bo
open PySem PySem.Builtin PySem.Builtin.Str PySem.StrLaws
theorem nO{z:Str}{c i:Nat}:At z ⟨#[c]⟩ z.length i↔z.cps[i]?=some c:=by
 unfold At subAt
 show i+1<=z.cps.size/\(z.cps.extract i (i+1) == #[c])=true↔_
 constructor
 ·rintro ⟨h1,h2⟩
  have h3:=eq_of_beq h2
  have h4:(z.cps.extract i (i+1))[0]?=some c:=by rw [h3];rfl
  rw [Array.getElem?_extract] at h4
  split at h4
  ·simpa using h4
  ·cases h4
 ·intro h
  have hi:i<z.cps.size:=by
   rcases lt_or_ge i z.cps.size with h1|h1
   ·exact h1
   ·rw [Array.getElem?_eq_none h1] at h;cases h
  refine⟨hi,beq_iff_eq.mpr ?_⟩
  apply Array.ext
  ·rw [Array.size_extract];simp;lia
  ·intro j h1 h2
   have:j=0:=by simp at h2;lia
   subst this
   rw [Array.getElem_extract]
   rw [Array.getElem?_eq_getElem hi] at h
   simpa using h
theorem wH{s sub:Str}{hi limit:Nat}(h1:sub.length=1):∀ (l:List Nat) (found:Array Nat) (free:Nat),l.Pairwise (·<·)->(∀ i∈l,free<=i)->found.size+l.length<=limit ->
  ∃ q:List Nat,(forIn l (found,free) (occBody s sub hi limit)).run.fst.toList=found.toList++q/\q.Sublist l/\∀ i∈l,(i∈q↔At s sub hi i)
 | [],found,free,_,_,_=>⟨[],by simp,.slnil,fun i h=>nomatch h⟩
 | a::l,found,free,hp,hf,hn=>by
  rw [forIn_cons]
  unfold occBody
  have ha:free<=a:=hf a (.head _)
  rw [length_cons] at hn
  obtain ⟨Du,tf⟩:=aaW.mp hp
  by_cases hc:At s sub hi a
  ·rw [if_pos ⟨⟨⟨by show found.size<limit;lia,ha⟩,hc.1⟩,hc.2⟩]
   obtain ⟨q,e,hs,hm⟩:=wH (limit:=limit) h1 l (found.push a) (a+sub.length) tf (fun i Hc=>by have:=Du i Hc;lia) (by rw [Array.size_push];lia)
   refine⟨a::q,?_,.cons_cons a hs,fun i Hc=>?_⟩
   ·refine Eq.trans e ?_
    rw [Array.toList_push,append_assoc];rfl
   ·rcases aaG.mp Hc with z|z
    ·subst z;exact⟨fun _=>hc,fun _=>.head _⟩
    ·have:=Du i z
     refine Iff.trans ⟨fun w=>?_,.tail _⟩ (hm i z)
     rcases aaG.mp w with y|y
     ·lia
     ·exact y
  ·rw [if_neg (fun h=>hc ⟨h.1.2,h.2⟩)]
   obtain ⟨q,e,hs,hm⟩:=wH (limit:=limit) h1 l found free tf (fun i Hc=>hf i (.tail _ Hc)) (by lia)
   refine⟨q,e,.cons a hs,fun i Hc=>?_⟩
   rcases aaG.mp Hc with z|z
   ·subst z
    refine⟨fun w=>?_,fun w=>absurd w hc⟩
    exact absurd (Du i (hs.subset w)) (Nat.lt_irrefl _)
   ·exact hm i z
theorem wI(z:Str)(c:Nat):∃ q:List Nat,occurrences z ⟨#[c]⟩ 0 z.length (z.length+1)=q/\q.Pairwise (·<·)/\∀ i:Nat,(i∈q↔z.cps[i]?=some c):=by
 obtain ⟨q,e,hs,hm⟩:=wH (s:=z) (sub:=⟨#[c]⟩) (hi:=z.length) (limit:=z.length+1) rfl (List.range' 0 (z.length+1 - 0)) #[] 0 (List.pairwise_lt_range' ..) (fun _ _=>aaT _) (by simp)
 refine⟨q,by rw [occ_eq];exact e.trans (by simp),(List.pairwise_lt_range' ..).sublist hs,fun i=>?_⟩
 rw [<- nO]
 constructor
 ·intro h
  exact (hm i (hs.subset h)).mp h
 ·intro h
  refine (hm i ?_).mpr h
  have:=h.1
  simp [List.mem_range']
  lia
theorem zr(z:Str)(c:Nat):((∀ i:Nat,z.cps[i]?≠some c)/\occurrences z ⟨#[c]⟩ 0 z.length 1=[])\/∃ i r,occurrences z ⟨#[c]⟩ 0 z.length 1=i::r/\z.cps[i]?=some c/\∀ k:Nat,k<i->z.cps[k]?≠some c:=by
 rcases occ_head z ⟨#[c]⟩ 1 (aai _) with ⟨h1,h2⟩|⟨i,r,h1,h2,h3⟩
 ·exact .inl ⟨fun i h=>h2 i (nO.mpr h),h1⟩
 ·exact .inr ⟨i,r,h1,nO.mp h2,fun k hk h=>h3 k hk (nO.mpr h)⟩
end bo
namespace bo
open PySem PySem.Builtin PySem.Builtin.Str PySem.StrLaws
def Dv(c:Nat):Bool:=decide (48<=c) && decide (c<=57)
def digits:Str:=⟨#[48,49,50,51,52,53,54,55,56,57]⟩
theorem EJ(c:Nat):(!(occurrences digits ⟨#[c]⟩ 0 digits.length 1).isEmpty)=Dv c:=by
 rw [Bool.eq_iff_iff,found_iff]
 have h1:(∃ i,i+Str.length ⟨#[c]⟩<=digits.length/\subAt digits ⟨#[c]⟩ i=true)↔∃ i:Nat,digits.cps[i]?=some c:=exists_congr fun i=>nO (z:=digits) (c:=c) (i:=i)
 rw [h1]
 unfold Dv
 rw [Bool.and_eq_true,decide_eq_true_eq,decide_eq_true_eq]
 constructor
 ·rintro ⟨i,h⟩
  have hi:i<10:=by
   rcases lt_or_ge i 10 with h1|h1
   ·exact h1
   ·rw [Array.getElem?_eq_none (show digits.cps.size<=i from h1)] at h;cases h
  have h2:digits.cps[i]?=some (48+i):=by
   rcases (show i=0\/i=1\/i=2\/i=3\/i=4\/i=5\/i=6\/i=7\/i=8\/i=9 by lia) with rfl|rfl|rfl|rfl|rfl|rfl|rfl|rfl|rfl|rfl <;> rfl
  rw [h2] at h
  injection h
  lia
 ·rintro ⟨h,h'⟩
  refine⟨c - 48,?_⟩
  rcases (show c=48\/c=49\/c=50\/c=51\/c=52\/c=53\/c=54\/c=55\/c=56\/c=57 by lia) with rfl|rfl|rfl|rfl|rfl|rfl|rfl|rfl|rfl|rfl <;> rfl
def cnt(z:Str)(m:Nat):Bool:=(decide (1<=z.length/\z.length<=m) && (z.cps[0]? != some 48)) && z.cps.toList.all Dv
abbrev aO:Str:=⟨#[47]⟩
theorem kind_le(z:Str):¬ Builtin.Str.strKind z<Builtin.Str.strKind aO:=by
 have h:Builtin.Str.strKind aO=1:=by simp [Builtin.Str.strKind]
 rw [h]
 unfold Builtin.Str.strKind
 split
 ·decide
 ·split <;> decide
theorem pj(z:Str):(∃ top bot,Txt.partition z aO=(top,aO,bot)/\(Txt.split z aO=[top,bot]\/((Txt.split z aO).length≠2/\bot.cps.toList.all Dv=false)))\/(Txt.partition z aO=(z,Str.empty,Str.empty)/\Txt.split z aO=[z]):=by
 obtain ⟨q,hq,hs,hm⟩:=wI z 47
 rcases zr z 47 with ⟨h1,h2⟩|⟨i,r,h1,h2,h3⟩
 ·have RT:q=[]:=List.eq_nil_iff_forall_not_mem.mpr fun i hi=>h1 i ((hm i).mp hi)
  refine .inr ⟨?_,?_⟩
  ·unfold Txt.partition;rw [h2]
  ·unfold Txt.split;rw [hq,RT]
   split
   ·rfl
   ·rfl
 ·have hi:i<z.length:=by
   rcases lt_or_ge i z.cps.size with h|h
   ·exact h
   ·rw [Array.getElem?_eq_none h] at h2;cases h2
  obtain ⟨r',rfl⟩:∃ r',q=i::r':=by
   have Yt:=(hm i).mpr h2
   cases q with
   | nil=>cases Yt
   | cons a t =>
    have ha:z.cps[a]?=some 47:=(hm a).mp (.head _)
    have:¬ a<i:=fun h=>h3 a h ha
    rcases aaG.mp Yt with e|e
    ·exact⟨t,by rw [e]⟩
    ·have:=(aaW.mp hs).1 i e
     lia
  have tq:Txt.split z aO=partsBetween z (i::r') 1:=by
   unfold Txt.split
   rw [hq,if_neg (by
    rw [Bool.or_eq_true,decide_eq_true_eq,decide_eq_true_eq]
    rintro (h|h)
    ·have:Str.length aO=1:=rfl
     lia
    ·exact kind_le z h),if_neg (by simp)]
   rfl
  refine .inl ⟨strSub z 0 i,strSub z (i+1) z.length,?_,?_⟩
  ·unfold Txt.partition;rw [h1];rfl
  ·rw [tq]
   cases r' with
   | nil=>exact .inl rfl
   | cons j t =>
    refine .inr ⟨by simp [partsBetween],?_⟩
    have hij:=(aaW.mp hs).1 j (.head _)
    have hj:z.cps[j]?=some 47:=(hm j).mp (.tail _ (.head _))
    have hjl:j<z.cps.size:=by
     rcases lt_or_ge j z.cps.size with h|h
     ·exact h
     ·rw [Array.getElem?_eq_none h] at hj;cases hj
    rw [Bool.eq_false_iff]
    intro nJ
    have VA:47∈(strSub z (i+1) z.length).cps.toList:=by
     have:(strSub z (i+1) z.length).cps[j - (i+1)]?=some 47:=by
      show (z.cps.extract (i+1) z.cps.size)[j - (i+1)]?=some 47
      rw [Array.getElem?_extract,if_pos (by lia),show i+1+(j - (i+1))=j by lia]
      exact hj
     rw [<- Array.getElem?_toList] at this
     exact aaC this
    exact absurd (all_eq_true.mp nJ 47 VA) (by decide)
end bo
namespace bo
open PySem PySem.Builtin PySem.Builtin.Str PySem.StrLaws PySem.NumText PySem.W.KIN PyProof.Rows
theorem Dw{z:Str}(h:z.cps.toList.all Dv=true):AllDigits z.cps.toList:=fun c hc=>by
 have:=all_eq_true.mp h c hc
 unfold Dv at this
 rw [Bool.and_eq_true,decide_eq_true_eq,decide_eq_true_eq] at this
 exact this
theorem Hd:∀ (cs:List Nat) (a:Nat),a<=cs.foldl (fun acc c=>acc*10+(c - 48)) a
 | [],a=>aai _
 | c::cs,a=>aah (by lia) (Hd cs (a*10+(c - 48)))
theorem He:∀ (cs:List Nat) (a:Nat),AllDigits cs->cs.foldl (fun acc c=>acc*10+(c - 48)) a<(a+1)*10 ^ cs.length
 | [],a,_=>by simp
 | c::cs,a,h=>by
  have h1:=h c (.head _)
  refine Nat.lt_of_lt_of_le (He cs _ fun d hd=>h d (.tail _ hd)) ?_
  rw [length_cons,Nat.pow_succ,Nat.mul_comm (10 ^ cs.length) 10,<- mul_assoc]
  have h2:a*10+(c - 48)+1<=(a+1)*10:=by lia
  exact aak _ h2
def num(z:Str):Nat:=digitsVal z.cps.toList
theorem fU{z:Str}{m:Nat}(h:cnt z m=true)(hm:m<=600):PySem.intText? z=some ((num z:Nat):Int)/\0<num z/\num z<10 ^ m/\z.length<=m:=by
 unfold cnt at h
 rw [Bool.and_eq_true,Bool.and_eq_true,decide_eq_true_eq] at h
 obtain ⟨⟨⟨h1,h2⟩,h3⟩,h4⟩:=h
 have hd:=Dw h4
 have hl:z.cps.toList.length=z.length:=Array.length_toList
 have Hf:z.cps.toList≠[]:=fun e=>by rw [e] at hl;simp at hl;lia
 refine⟨intText_digits hd Hf (by lia),?_,?_,h2⟩
 ·unfold num digitsVal
  have h0:z.cps.toList[0]?≠some 48:=by
   rw [Array.getElem?_toList]
   simpa using h3
  generalize z.cps.toList=cs at h0 hd Hf
  cases cs with
  | nil=>exact absurd rfl Hf
  | cons c cs =>
   have hc:=hd c (.head _)
   have:c≠48:=fun e=>h0 (by rw [e];rfl)
   exact Nat.lt_of_lt_of_le (show 0<0*10+(c - 48) by lia) (Hd cs _)
 ·have:=He z.cps.toList 0 hd
  unfold num digitsVal
  refine Nat.lt_of_lt_of_le this ?_
  rw [Nat.zero_add,Nat.one_mul]
  exact aag (by decide) (by lia)
abbrev txt(n:Nat):Str:=PySem.Str.ofString (toString ((n:Nat):Int))
theorem rK:∀ m:Nat,0<m->((Nat.toDigits 10 m).map Char.toNat)[0]?≠some 48:=by
 intro m
 induction m using Nat.strongRecOn with
 | _ m ih =>
  intro hm
  by_cases h:m<10
  ·rw [Nat.toDigits_of_lt_base h]
   rcases (show m=1\/m=2\/m=3\/m=4\/m=5\/m=6\/m=7\/m=8\/m=9 by lia) with rfl|rfl|rfl|rfl|rfl|rfl|rfl|rfl|rfl <;> decide
  ·have iI:m % 10<10:=mod_lt m (by decide)
   have t:Nat.toDigits 10 (m / 10)++Nat.toDigits 10 (m % 10)=Nat.toDigits 10 (10*(m / 10)+m % 10):=Nat.toDigits_append_toDigits (by decide) (by lia) iI
   rw [Nat.div_add_mod] at t
   have:=ih (m / 10) (by lia) (by lia)
   rw [<- t,aaQ,List.getElem?_append]
   split
   ·exact this
   ·rename_i hl
    rw [List.getElem?_eq_none (by lia)] at this
    intro _
    have h1:=digitsVal
    have hv:=val_back (m / 10)
    rw [List.eq_nil_of_length_eq_zero (show ((Nat.toDigits 10 (m / 10)).map Char.toNat).length=0 by lia)] at hv
    have:(0:Nat)=m / 10:=hv
    lia
theorem wJ:∀ (k m:Nat),0<k->m<10 ^ k->(Nat.toDigits 10 m).length<=k
 | 0,_,h,_=>absurd h (by decide)
 | 1,m,_,h=>by rw [Nat.toDigits_of_lt_base (by simpa using h)];exact aai _
 | k+2,m,_,h=>by
  by_cases ZD:m<10
  ·rw [Nat.toDigits_of_lt_base ZD];simp
  ·have iI:m % 10<10:=mod_lt m (by decide)
   have t:Nat.toDigits 10 (m / 10)++Nat.toDigits 10 (m % 10)=Nat.toDigits 10 (10*(m / 10)+m % 10):=Nat.toDigits_append_toDigits (by decide) (by lia) iI
   rw [Nat.div_add_mod] at t
   have:=wJ (k+1) (m / 10) (by lia) (by rw [Nat.pow_succ] at h;lia)
   rw [<- t,aaE,Nat.toDigits_of_lt_base iI]
   show _+1<=_
   lia
theorem wK{n m:Nat}(h0:0<n)(hm:0<m)(h:n<10 ^ m):cnt (txt n) m=true/\num (txt n)=n:=by
 have hs:=signs_num n
 have hl:(txt n).length=(Nat.toDigits 10 n).length:=by
  show (txt n).cps.size=_
  rw [<- Array.length_toList,hs,aaD]
 have h2:=wJ m n hm h
 refine⟨?_,?_⟩
 ·unfold cnt
  rw [Bool.and_eq_true,Bool.and_eq_true,decide_eq_true_eq]
  have Yu:1<=(Nat.toDigits 10 n).length:=by
   have hv:=val_back n
   rcases Nat.eq_zero_or_pos (Nat.toDigits 10 n).length with e|e
   ·rw [List.eq_nil_of_length_eq_zero e] at hv
    have:(0:Nat)=n:=hv
    lia
   ·exact e
  refine⟨⟨⟨by lia,by lia⟩,?_⟩,?_⟩
  ·rw [bne_iff_ne,<- Array.getElem?_toList,hs]
   exact rK n h0
  ·rw [hs,all_eq_true]
   intro c hc
   obtain ⟨ch,y0,e⟩:=aaH.mp hc
   have r:=digit_range (Nat.isDigit_of_mem_toDigits (by decide) (by decide) y0)
   unfold Dv
   rw [Bool.and_eq_true,decide_eq_true_eq,decide_eq_true_eq,<- e]
   exact r
 ·unfold num
  rw [hs]
  exact val_back n
theorem mF{z:Str}{m:Nat}(h:cnt z m=true)(i:Nat):z.cps[i]?≠some 47:=fun e=>by
 unfold cnt at h
 rw [Bool.and_eq_true] at h
 have hm:47∈z.cps.toList:=aaC (i:=i) (by rw [Array.getElem?_toList];exact e)
 exact absurd (all_eq_true.mp h.2 47 hm) (by decide)
theorem EK{a b:Str}{m:Nat}(ha:cnt a m=true)(hb:cnt b m=true):Txt.partition (a++aO++b) aO=(a,aO,b)/\Txt.split (a++aO++b) aO=[a,b]:=by
 have hz:(a++aO++b).cps=a.cps++#[47]++b.cps:=rfl
 have hn:(a++aO++b).length=a.length+1+b.length:=by
  show (a++aO++b).cps.size=_
  rw [hz,Array.size_append,Array.size_append];rfl
 have K7:∀ i:Nat,(a++aO++b).cps[i]?=some 47↔i=a.length:=fun i=>by
  rw [hz,Array.getElem?_append,Array.getElem?_append]
  constructor
  ·intro h
   split at h
   ·split at h
    ·exact absurd h (mF ha i)
    ·rename_i h1 h2
     rw [Array.size_append] at h1
     have:i<a.cps.size+1:=h1
     show i=a.cps.size
     lia
   ·exact absurd h (mF hb _)
  ·intro h
   have h':i=a.cps.size:=h
   rw [if_pos (by rw [Array.size_append];show i<a.cps.size+1;lia),if_neg (by lia),h',Nat.sub_self]
   rfl
 have MV:strSub (a++aO++b) 0 a.length=a:=by
  show (⟨(a++aO++b).cps.extract 0 a.cps.size⟩:Str)=a
  rw [hz,Array.append_assoc,Array.extract_append_left]
  simp
 have MW:strSub (a++aO++b) (a.length+1) (a++aO++b).length=b:=by
  show (⟨(a++aO++b).cps.extract (a.cps.size+1) (a++aO++b).cps.size⟩:Str)=b
  rw [hz]
  have:a.cps.size+1=(a.cps++#[47]).size:=by simp
  rw [this]
  generalize a.cps++#[47]=x
  have h0:x.extract x.size (x++b.cps).size=#[]:=Array.extract_empty_of_size_le_start (aai _)
  rw [Array.extract_append,h0]
  simp
 obtain ⟨q,hq,hs,hm⟩:=wI (a++aO++b) 47
 have RU:q=[a.length]:=by
  have h1:∀ i∈q,i=a.length:=fun i hi=>(K7 i).mp ((hm i).mp hi)
  have h2:a.length∈q:=(hm _).mpr ((K7 _).mpr rfl)
  cases q with
  | nil=>cases h2
  | cons x t =>
   have e:=h1 x (.head _)
   cases t with
   | nil=>rw [e]
   | cons y t =>
    have e2:=h1 y (.tail _ (.head _))
    have:=(aaW.mp hs).1 y (.head _)
    lia
 refine⟨?_,?_⟩
 ·unfold Txt.partition
  rcases zr (a++aO++b) 47 with ⟨h1,h2⟩|⟨i,r,h1,h2,h3⟩
  ·exact absurd ((K7 a.length).mpr rfl) (h1 _)
  ·rw [h1]
   have:=(K7 i).mp h2
   subst this
   show (strSub _ 0 _,aO,strSub _ (a.length+1) _)=_
   rw [MV,MW]
 ·unfold Txt.split
  rw [hq,RU,if_neg (by
   rw [Bool.or_eq_true,decide_eq_true_eq,decide_eq_true_eq]
   rintro (h|h)
   ·have:Str.length aO=1:=rfl
    lia
   ·exact kind_le _ h),if_neg (by simp)]
  show [strSub _ 0 _,strSub _ (a.length+1) _]=_
  rw [MV,MW]
end bo
namespace bo
open PySem PySem.Builtin PySem.Builtin.Str PySem.StrLaws
theorem wL{c d:Nat}:(⟨#[c]⟩:Str)=⟨#[d]⟩↔c=d:=by
 constructor
 ·intro h
  injection h with h
  simpa using h
 ·rintro rfl;rfl
theorem str0:Str.ofString "0"=⟨#[48]⟩:=by decide
theorem RV:Str.ofString "0123456789"=digits:=by decide
theorem RW:Str.ofString "/"=aO:=by decide
theorem vH{z:Str}{m:Nat}(h:¬ 1<=z.length):cnt z m=false:=by
 unfold cnt;rw [aar (fun h'=>h h'.1)];rfl
theorem Hg{z:Str}{m:Nat}(h:¬ z.length<=m):cnt z m=false:=by
 unfold cnt;rw [aar (fun h'=>h h'.2)];rfl
theorem Br{z:Str}{m:Nat}(h:z.cps[0]?=some 48):cnt z m=false:=by
 unfold cnt;rw [h];simp
theorem K8{z:Str}{m c:Nat}(h1:1<=z.length)(h2:z.length<=m)(h3:z.cps[0]?=some c)(h4:c≠48):cnt z m=z.cps.toList.all Dv:=by
 unfold cnt
 rw [aas ⟨h1,h2⟩,h3]
 have:(some c != some 48)=true:=by simpa using h4
 rw [this];rfl
theorem VB{z:Str}(h:1<=z.length):∃ c,z.cps[0]?=some c:=⟨_,Array.getElem?_eq_getElem (show 0<z.cps.size from h)⟩
theorem EL(l:List Nat):(List.range l.length).map (fun i=>(l[i]?).getD 0)=l:=by
 apply ext_getElem
 ·simp
 ·intro i h1 h2
  simp [h2]
theorem all_range(z:Str):((List.range z.cps.size).map fun i=>Dv ((z.cps[i]?).getD 0)).all id=z.cps.toList.all Dv:=by
 have h:=EL z.cps.toList
 rw [Array.length_toList] at h
 conv=>rhs;rw [<- h]
 rw [all_map,all_map]
 congr 1
 funext i
 simp
theorem K9{z:Str}{m:Nat}(h:z.cps.toList.all Dv=false):cnt z m=false:=by
 unfold cnt;rw [h,Bool.and_false]
theorem sub_len(z:Str)(i j:Nat):(strSub z i j).length<=z.length:=by
 show (z.cps.extract i j).size<=z.cps.size
 rw [Array.size_extract];lia
theorem rM(z y:Str):(Txt.partition z y).1.length<=z.length/\(Txt.partition z y).2.2.length<=z.length:=by
 unfold Txt.partition
 split
 ·exact⟨sub_len _ _ _,sub_len _ _ _⟩
 ·exact⟨aai _,aaT _⟩
theorem zt:∀ (q:List Nat) (lo n:Nat),q.Pairwise (·<·)->(∀ i∈q,lo<=i/\i<n)->q.length<=n - lo
 | [],_,_,_,_=>aaT _
 | a::q,lo,n,hp,hq=>by
  have h1:=aaW.mp hp
  have ha:=hq a (.head _)
  have:=zt q (a+1) n h1.2 fun i hi=>⟨h1.1 i hi,(hq i (.tail _ hi)).2⟩
  rw [length_cons]
  lia
theorem EM(z:Str)(w:Nat):∀ q:List Nat,(partsBetween z q w).length=q.length+1:=by
 intro q
 simp [partsBetween]
theorem split_len(z:Str):(Txt.split z aO).length<=z.length+1:=by
 obtain ⟨q,hq,hs,hm⟩:=wI z 47
 have hl:q.length<=z.length:=by
  refine zt q 0 z.length hs fun i hi=>⟨aaT _,?_⟩
  have:=(hm i).mp hi
  rcases lt_or_ge i z.cps.size with h|h
  ·exact h
  ·rw [Array.getElem?_eq_none h] at this;cases this
 unfold Txt.split
 rw [hq]
 split
 ·simp
 ·split
  ·simp
  ·rw [EM];lia
def lj(z:Str)(m:Nat):Option (Nat×Nat):=match Txt.split z aO with
 | [a,b]=>if (cnt a m && cnt b m)=true then some (num a,num b) else none
 | _=>none
theorem wM{z a b:Str}{m:Nat}(h:Txt.split z aO=[a,b]):lj z m=if (cnt a m && cnt b m)=true then some (num a,num b) else none:=by
 unfold lj;rw [h]
theorem wN{z:Str}{m:Nat}(h:(Txt.split z aO).length≠2):lj z m=none:=by
 unfold lj
 split
 ·rename_i a b e
  rw [e] at h
  exact absurd rfl h
 ·rfl
theorem Ol{z:Str}(h:(Txt.split z aO).length=2):∃ a b,Txt.split z aO=[a,b]/\a.length<=z.length/\b.length<=z.length:=by
 rcases pj z with ⟨a,b,h1,h2|h2⟩|⟨_,h2⟩
 ·have:=rM z aO
  rw [h1] at this
  exact⟨a,b,h2,this⟩
 ·exact absurd h h2.1
 ·rw [h2] at h;cases h
theorem Hh(z:Str)(m:Nat):lj z m=if (cnt (Txt.partition z aO).1 m && cnt (Txt.partition z aO).2.2 m)=true then some (num (Txt.partition z aO).1,num (Txt.partition z aO).2.2) else none:=by
 rcases pj z with ⟨a,b,h1,h2|h2⟩|⟨h1,h2⟩
 ·rw [wM h2,h1]
 ·rw [wN h2.1,h1]
  show none=if (cnt a m && cnt b m)=true then _ else _
  rw [K9 h2.2,Bool.and_false];rfl
 ·rw [wN (by rw [h2];exact Nat.noConfusion ∘ Nat.succ.inj),h1]
  show none=if (cnt z m && cnt Str.empty m)=true then _ else _
  rw [vH (z:=Str.empty) (by decide),Bool.and_false];rfl
theorem Hi{z:Str}{m t b:Nat}(hm:m<=600)(h:lj z m=some (t,b)):0<t/\t<10 ^ m/\0<b/\b<10 ^ m:=by
 rw [Hh] at h
 split at h
 ·rename_i hc
  rw [Bool.and_eq_true] at hc
  have h1:=fU hc.1 hm
  have h2:=fU hc.2 hm
  cases h
  exact⟨h1.2.1,h1.2.2.1,h2.2.1,h2.2.2.1⟩
 ·cases h
theorem zu{t b m:Nat}(h0:0<m)(ht:0<t/\t<10 ^ m)(hb:0<b/\b<10 ^ m):lj (txt t++aO++txt b) m=some (t,b):=by
 have h1:=wK ht.1 h0 ht.2
 have h2:=wK hb.1 h0 hb.2
 rw [wM (EK h1.1 h2.1).2,h1.1,h2.1,h1.2,h2.2];rfl
theorem Hj{n m:Nat}(hm:0<m)(h:n<10 ^ m):(txt n).length<=m:=by
 have hs:=PySem.W.KIN.signs_num n
 show (txt n).cps.size<=m
 rw [<- Array.length_toList,hs,aaD]
 exact wJ m n hm h
end bo
namespace bw
open PySem PySem.Builtin PySem.Builtin.Str PySem.StrLaws PyProof.Rows
theorem Om(i j n:Nat):strSliceIndices (some (i:Int)) (some (j:Int)) 1 n=strSliceIndices (some ((min i n:Nat):Int)) (some ((min j n:Nat):Int)) 1 n:=by
 have h0:¬ (i:Int)<0:=by lia
 have h1:¬ (j:Int)<0:=by lia
 have h2:(1:Int) > 0:=by decide
 have h3:¬ ((min i n:Nat):Int)<0:=by lia
 have h4:¬ ((min j n:Nat):Int)<0:=by lia
 have e1:min (i:Int) (n:Int)=min ((min i n:Nat):Int) (n:Int):=by lia
 have e2:min (j:Int) (n:Int)=min ((min j n:Nat):Int) (n:Int):=by lia
 simp only [strSliceIndices,h0,h1,h2,h3,h4,if_false,if_true,e1,e2]
theorem cut{z:Str}{i j:Nat}(h:i<=j):(Txt.slice z (some (i:Int)) (some (j:Int))).cps.toList=(z.cps.toList.drop i).take (j - i):=by
 have hl:z.cps.toList.length=z.length:=Array.length_toList
 have e:Txt.slice z (some (i:Int)) (some (j:Int))=Txt.slice z (some ((min i z.length:Nat):Int)) (some ((min j z.length:Nat):Int)):=by
  unfold Txt.slice
  rw [Om]
 rw [e,beq_iff_eq.mp (slice_closes (x:=z) (i:=((min i z.length:Nat):Int)) (j:=((min j z.length:Nat):Int)) ⟨by lia,by lia,by lia⟩)]
 show (List.take _ (List.drop _ z.cps.toList)).toArray.toList=_
 rw [toList_toArray]
 rw [show ((min i z.length:Nat):Int).toNat=min i z.length from rfl,show (((min j z.length:Nat):Int) - ((min i z.length:Nat):Int)).toNat=min j z.length - min i z.length by lia]
 by_cases hi:i<=z.length
 ·rw [min_eq_left hi]
  by_cases hj:j<=z.length
  ·rw [min_eq_left hj]
  ·rw [min_eq_right (by lia)]
   rw [aaS (by rw [length_drop];lia),aaS (by rw [length_drop];lia)]
 ·rw [min_eq_right (by lia:z.length<=i),min_eq_right (by lia:z.length<=j),drop_of_length_le (by lia),drop_of_length_le (by lia)]
  simp
theorem Hk{z:Str}{i:Nat}:(Txt.slice z (some (i:Int)) none).cps.toList=z.cps.toList.drop i:=by
 have hl:z.cps.toList.length=z.length:=Array.length_toList
 by_cases h:i<=z.length
 ·rw [slice_from_eq (b:=(z.length:Int)) (by lia) (by lia) rfl]
  show (List.take _ (List.drop _ z.cps.toList)).toArray.toList=_
  rw [toList_toArray,show (i:Int).toNat=i from rfl,aaS (by rw [length_drop];lia)]
 ·rw [slice_beyond (by lia),drop_of_length_le (by lia)]
  rfl
def runs(ds:List Nat)(c:Nat):Nat:=(ds.takeWhile (· == c)).length
theorem vI(d:Nat)(ds:List Nat)(c:Nat):runs (d::ds) c=if d=c then runs ds c+1 else 0:=by
 unfold runs
 rw [List.takeWhile_cons]
 by_cases h:d=c
 ·rw [if_pos h,if_pos (by simpa using h)];rfl
 ·rw [if_neg h,if_neg (by simpa using h)];rfl
theorem qO:∀ (ds:List Nat) (c:Nat),runs ds c<=ds.length
 | [],_=>aai _
 | d::ds,c=>by
  rw [vI]
  split
  ·have:=qO ds c;rw [length_cons];lia
  ·exact aaT _
theorem Dx:∀ (ds:List Nat) (c j:Nat),j<=runs ds c->(ds[j]?=some c↔j<runs ds c)
 | [],c,j,h=>by
  have:runs [] c=0:=rfl
  rw [this] at *
  simp
 | d::ds,c,j,h=>by
  rw [vI] at *
  by_cases hd:d=c
  ·rw [if_pos hd] at *
   cases j with
   | zero=>simp [hd]
   | succ j =>
    rw [List.getElem?_cons_succ,Dx ds c j (by lia)]
    lia
  ·rw [if_neg hd] at *
   have:j=0:=by lia
   subst this
   simp [hd]
def MX(cs:List Nat)(s:Nat×List Int)(m:Nat×Nat×List Int):Nat×List Int :=
 (s.1+((runs (cs.drop s.1) m.1:Int) - runs (cs.drop s.1) m.2.1).natAbs,List.zipWith (·+·) s.2 (m.2.2.map (·*((runs (cs.drop s.1) m.1:Int) - runs (cs.drop s.1) m.2.1))))
def marks:List (Nat×Nat×List Int):=[(35,98,[-11,7,0,0,0]),(43,45,[-4,4,-1,0,0]),(62,60,[6,-2,0,-1,0]),(94,118,[-5,1,0,0,1])]
def Bs(c:Nat):Option (List Int) :=
 if c=70 then some [2,-1,0,0,0] else if c=67 then some [0,0,0,0,0] else if c=71 then some [-1,1,0,0,0] else if c=68 then some [-3,2,0,0,0] else if c=65 then some [-4,3,0,0,0] else if c=69 then some [-6,4,0,0,0] else if c=66 then some [-7,5,0,0,0] else none
def zv(y:Str)(m:Nat):Option Int :=
 if y=⟨#[48]⟩ then some 0 else if y.cps[0]?=some 45 then (if bo.cnt ⟨(y.cps.toList.drop 1).toArray⟩ m=true then some (-((bo.num ⟨(y.cps.toList.drop 1).toArray⟩:Nat):Int)) else none) else if bo.cnt y m=true then some ((bo.num y:Nat):Int) else none
def Ge(z:Str):Option (List Int) :=
 if 300<z.length then none else
 match z.cps.toList with
 | []=>none
 | c::_=>match Bs c with
  | none=>none
  | some r0 =>
   if z.cps.toList[(marks.foldl (MX z.cps.toList) (1,r0)).1]?=some 46 then
    match zv ⟨(z.cps.toList.drop ((marks.foldl (MX z.cps.toList) (1,r0)).1+1)).toArray⟩ 4 with
    | none=>none
    | some o=>some (List.zipWith (·+·) (marks.foldl (MX z.cps.toList) (1,r0)).2 [o,0,0,0,0])
   else none
end bw
namespace bw
open PySem PySem.Builtin PySem.Builtin.Str PySem.StrLaws PySem.NumText PySem.W.KIN PyProof.Rows
theorem La{y:Str}{m:Nat}{o:Int}(hm:m<=600)(h:zv y m=some o):PySem.intText? y=some o/\y.length<=m+1:=by
 unfold zv at h
 split at h
 ·rename_i e
  cases h
  subst e
  exact⟨by decide +kernel,by show 1<=m+1;lia⟩
 ·split at h
  ·rename_i RX
   split at h
   ·rename_i hc
    cases h
    have hr:=bo.fU hc hm
    have e1:y.cps.toList=45::y.cps.toList.drop 1:=by
     rw [<- Array.getElem?_toList] at RX
     cases hy:y.cps.toList with
     | nil=>rw [hy] at RX;cases RX
     | cons a t=>rw [hy] at RX;cases RX;rfl
    have hl:y.length=(y.cps.toList.drop 1).length+1:=by
     show y.cps.size=_
     rw [<- Array.length_toList]
     conv=>lhs;rw [e1]
     rfl
    have MM:(⟨(y.cps.toList.drop 1).toArray⟩:Str).length=(y.cps.toList.drop 1).length:=by
     show (y.cps.toList.drop 1).toArray.size=_
     rw [aaO]
    unfold bo.cnt at hc
    rw [Bool.and_eq_true,Bool.and_eq_true,decide_eq_true_eq] at hc
    obtain ⟨⟨⟨c1,c2⟩,c3⟩,c4⟩:=hc
    have hd:=bo.Dw c4
    rw [show (⟨(y.cps.toList.drop 1).toArray⟩:Str).cps.toList=y.cps.toList.drop 1 from toList_toArray ..] at hd
    refine⟨?_,by lia⟩
    rw [intText_neg e1 hd (fun e=>by rw [MM,e] at c1;exact absurd c1 (by decide)) (by lia)]
    unfold bo.num
    rw [show (⟨(y.cps.toList.drop 1).toArray⟩:Str).cps.toList=y.cps.toList.drop 1 from toList_toArray ..]
   ·cases h
  ·split at h
   ·rename_i hc
    cases h
    have hr:=bo.fU hc hm
    exact⟨hr.1,by lia⟩
   ·cases h
theorem zw(l:List Nat):(⟨l.toArray⟩:Str).cps.toList=l:=toList_toArray ..
theorem mG{y z:Str}(h:y.cps.toList=z.cps.toList):y=z:=by
 cases y;cases z
 congr 1
 exact Array.ext' h
theorem Hl (y:Str):(decide (0+(Str.ofString "-").length<=y.length) && subAt y (Str.ofString "-") 0)=decide (y.cps[0]?=some 45):=by
 have e:Str.ofString "-"=⟨#[45]⟩:=by decide
 rw [e,Bool.eq_iff_iff,Bool.and_eq_true,decide_eq_true_eq,decide_eq_true_eq]
 exact bo.nO (z:=y) (c:=45) (i:=0)
end bw
namespace bw
open PySem PySem.Builtin PySem.Builtin.Str PySem.StrLaws PyProof.Rows
theorem Ho{z:Str}{j:Nat}:(Txt.slice z none (some (j:Int))).cps.toList=z.cps.toList.take j:=by
 have e:Txt.slice z none (some (j:Int))=Txt.slice z (some ((0:Nat):Int)) (some (j:Int)):=by
  have hl:z.cps.toList.length=z.length:=Array.length_toList
  have h0:¬ (j:Int)<0:=by lia
  have h2:(1:Int) > 0:=by decide
  have h3:min (0:Int) (z.length:Int)=0:=by lia
  have h5:max (0:Int) 0=0:=by lia
  unfold Txt.slice
  simp only [strSliceIndices,h0,h2,if_false,if_true,Int.ofNat_zero,Int.natCast_zero,Int.lt_irrefl,h3,h5]
 rw [e,cut (aaT _),drop_zero,sub_zero]
theorem Dy {z:Str} {p:Nat}:Txt.slice z (some (p:Int)) (some ((p:Int)+1))=Str.ofString "."↔z.cps.toList[p]?=some 46:=by
 have e:Str.ofString "."=⟨#[46]⟩:=by decide
 have h:=cut (z:=z) (i:=p) (j:=p+1) (by lia)
 rw [show ((p+1:Nat):Int)=(p:Int)+1 from rfl,show p+1 - p=1 by lia] at h
 rw [e]
 constructor
 ·intro q
  rw [q] at h
  have h':[46]=(z.cps.toList.drop p).take 1:=h
  have:(z.cps.toList.drop p)[0]?=some 46:=by
   cases hd:z.cps.toList.drop p with
   | nil=>rw [hd] at h';cases h'
   | cons a t=>rw [hd] at h';cases h';rfl
  rw [getElem?_drop] at this
  exact this
 ·intro q
  apply mG
  rw [h]
  have:(z.cps.toList.drop p)[0]?=some 46:=by rw [getElem?_drop];exact q
  cases hd:z.cps.toList.drop p with
  | nil=>rw [hd] at this;cases this
  | cons a t=>rw [hd] at this;cases this;rfl
theorem Hq{z:Str}{c:Nat}{t:List Nat}(h:z.cps.toList=c::t):Txt.slice z none (some 1)=⟨#[c]⟩:=by
 apply mG
 have:=Ho (z:=z) (j:=1)
 rw [h] at this
 exact this
theorem Dz(z:Str)(p:Nat):Txt.slice z (some ((p:Int)+1)) none=⟨(z.cps.toList.drop (p+1)).toArray⟩:=by
 apply mG
 rw [zw]
 exact Hk (i:=p+1)
end bw
namespace bw
open PySem
theorem Oo{z:Str}{c p:Nat}{t:List Nat}{r0 r:List Int}(h3:¬ 300<z.length)(F9:z.cps.toList=c::t)(hl:Bs c=some r0)(hf:marks.foldl (MX z.cps.toList) (1,r0)=(p,r)) :
  Ge z=if z.cps.toList[p]?=some 46 then (match zv ⟨(z.cps.toList.drop (p+1)).toArray⟩ 4 with|none=>none|some o=>some (List.zipWith (·+·) r [o,0,0,0,0])) else none:=by
 unfold Ge
 rw [if_neg h3]
 split
 ·rename_i e
  rw [F9] at e
  cases e
 ·rename_i c' t' e
  rw [F9] at e
  cases e
  rw [hl]
  simp only [hf]
theorem RY:Str.ofString "#"=⟨#[35]⟩:=by decide
theorem RZ:Str.ofString "b"=⟨#[98]⟩:=by decide
theorem R0:Str.ofString "+"=⟨#[43]⟩:=by decide
theorem R1:Str.ofString "-"=⟨#[45]⟩:=by decide
theorem R3:Str.ofString ">"=⟨#[62]⟩:=by decide
theorem R4:Str.ofString "<"=⟨#[60]⟩:=by decide
theorem R5:Str.ofString "^"=⟨#[94]⟩:=by decide
theorem Oq:Str.ofString "v"=⟨#[118]⟩:=by decide
end bw
namespace Bp
def gens(ms:List Int)(rs:List (List Int)):List (List Int):=(List.range 5).map fun i=>RS (rs.getD i []) (ms.getD i 0)
end Bp
namespace ZE
structure Sg(P:Int->Int->Prop):Prop where
 add:∀ {n j n' j':Int},P n j->P n' j'->P (n+n') (j+j')
 neg:∀ {n j:Int},P n j->P (-n) (-j)->False
 A5:∀ n j:Int,j≠0->P n j\/P (-n) (-j)
 oct:∀ {n:Int},P n 0->0<n
section
variable {P:Int->Int->Prop}{o:Int->Int}{N:Int}
structure Ch(P:Int->Int->Prop)(o:Int->Int)(N:Int):Prop where
 s:Sg P
 z:o 0=0
 f:∀ j,0<j->j<N->P (o j) j/\P (1 - o j) (-j)
variable (C:Ch P o N)
include C
variable {a b:Int}(a0:0<a)(a1:a<N)(mn:∀ j,0<j->j<N->j≠a->P (o j - o a) (j - a))(b0:0<b)(b1:b<N)(mx:∀ j,0<j->j<N->j≠b->P (o b - o j) (b - j))
include a0 a1 mn in
include a0 a1 mn in
include b0 b1 mx in
include b0 b1 mx in
include a0 a1 mn b0 b1 mx in
include a0 a1 mn b0 b1 mx in
include a0 a1 mn b0 b1 mx in
end
end ZE
namespace bw
open PySem
def J(c:Nat):List (List Nat)->List Nat
 | []=>[]
 | [x]=>x
 | x::y::r=>x++c::J c (y::r)
theorem Hr(c:Nat)(x:List Nat){r:List (List Nat)}(h:r≠[]):J c (x::r)=x++c::J c r:=by
 cases r with
 | nil=>exact absurd rfl h
 | cons y r=>rfl
theorem Hs{c:Nat}:∀ {x y r s:List Nat},c∉x->c∉y->x++c::r=y++c::s->x=y/\r=s
 | [],[],r,s,_,_,h=>⟨rfl,(List.cons.inj h).2⟩
 | [],d::y,r,s,_,hy,h=>absurd (.head _) ((List.cons.inj h).1 ▸ hy)
 | d::x,[],r,s,hx,_,h=>absurd (.head _) ((List.cons.inj h).1 ▸ hx)
 | d::x,e::y,r,s,hx,hy,h=>by
  obtain ⟨h1,h2⟩:=List.cons.inj h
  obtain ⟨h3,h4⟩:=Hs (fun z=>hx (.tail _ z)) (fun z=>hy (.tail _ z)) h2
  exact⟨by rw [h1,h3],h4⟩
theorem MY{c:Nat}:∀ {a b:List (List Nat)},a≠[]->b≠[]->(∀ x∈a,c∉x)->(∀ x∈b,c∉x)->J c a=J c b->a=b
 | [],_,h,_,_,_,_=>absurd rfl h
 | _::_,[],_,h,_,_,_=>absurd rfl h
 | [x],[y],_,_,_,_,h=>by rw [show x=y from h]
 | [x],y::z::b,_,_,ha,_,h=>by
  have h:x=y++c::J c (z::b):=h
  exact absurd (by rw [h];simp) (ha x (.head _))
 | x::z::a,[y],_,_,_,hb,h=>by
  have h:x++c::J c (z::a)=y:=h
  exact absurd (by rw [<- h];simp) (hb y (.head _))
 | x::u::a,y::v::b,_,_,ha,hb,h=>by
  have h:x++c::J c (u::a)=y++c::J c (v::b):=h
  obtain ⟨h1,h2⟩:=Hs (ha x (.head _)) (hb y (.head _)) h
  rw [h1,MY (a:=u::a) (b:=v::b) (cons_ne_nil _ _) (cons_ne_nil _ _) (fun z hz=>ha z (.tail _ hz)) (fun z hz=>hb z (.tail _ hz)) h2]
theorem zx(c:Nat):∀ ws:List Str,(Str.join ⟨#[c]⟩ ws).cps.toList=J c (ws.map fun w=>w.cps.toList)
 | []=>rfl
 | [x]=>rfl
 | x::y::r=>by
  have ih:=zx c (y::r)
  show (x++⟨#[c]⟩++Str.join ⟨#[c]⟩ (y::r)).cps.toList=x.cps.toList++c::J c ((y::r).map fun w=>w.cps.toList)
  rw [<- ih]
  show ((x.cps++#[c])++(Str.join ⟨#[c]⟩ (y::r)).cps).toList=_
  simp
end bw
namespace Bp
def eb:Nat->Nat->Nat
 | 0,e=>e
 | k+1,e=>eb k (2*e+1)
end Bp
namespace bw
open PySem PySem.Builtin PySem.Builtin.Str
def JL(y:List Nat):List (List Nat)->List Nat
 | []=>[]
 | [x]=>x
 | x::z::r=>x++(y++JL y (z::r))
theorem vJ(y:Str):∀ ws:List Str,(Str.join y ws).cps.toList=JL y.cps.toList (ws.map fun w=>w.cps.toList)
 | []=>rfl
 | [x]=>rfl
 | x::z::r=>by
  have ih:=vJ y (z::r)
  show (x++y++Str.join y (z::r)).cps.toList=x.cps.toList++(y.cps.toList++JL y.cps.toList ((z::r).map fun w=>w.cps.toList))
  rw [<- ih]
  show ((x.cps++y.cps)++(Str.join y (z::r)).cps).toList=_
  simp
theorem Bt{z y:Str}{n k j:Nat}{d:Nat}(h:StrLaws.At z y n k)(hj:y.cps.toList[j]?=some d):z.cps.toList[k+j]?=some d:=by
 have h2:=h.2
 rw [StrLaws.subAt_eq] at h2
 have h3:=eq_of_beq h2
 have hl:j<y.length:=by
  have:=(aad.mp hj).1
  simpa [Str.length] using this
 rw [<- h3,List.getElem?_take_of_lt hl,getElem?_drop] at hj
 exact hj
theorem at_of{z y:Str}{k:Nat}{r:List Nat}(h0:y.length≠0)(h:z.cps.toList.drop k=y.cps.toList++r):StrLaws.At z y z.length k:=by
 have hy:y.cps.toList.length=y.length:=by simp [Str.length]
 have hz:z.cps.toList.length=z.length:=by simp [Str.length]
 refine⟨?_,?_⟩
 ·have:=congrArg List.length h
  rw [length_drop,aaE,hy,hz] at this
  lia
 ·rw [StrLaws.subAt_eq,h,<- hy,List.take_left]
  exact beq_self_eq_true _
theorem Ht{z:Str}{a b:Nat}{x r:List Nat}(h:z.cps.toList.drop a=x++r)(hb:b=a+x.length):(strSub z a b).cps.toList=x:=by
 rw [StrLaws.strSub_toList,h,hb,Nat.add_sub_cancel_left,List.take_left]
theorem mH{l y r:Str}{c i:Nat}{u:List Nat}(hi:y.cps.toList[i]?=some c)(hu:y.cps.toList=u++y.cps.toList.drop i)(hui:u.length=i)(ZF:c∉u)(hl:c∉l.cps.toList):Txt.partition (l++y++r) y=(l,y,r):=by
 have ez:(l++y++r).cps.toList=l.cps.toList++(y.cps.toList++r.cps.toList):=by
  show ((l.cps++y.cps)++r.cps).toList=_
  simp
 have Yv:l.cps.toList.length=l.length:=by simp [Str.length]
 have ZG:y.cps.toList.length=y.length:=by simp [Str.length]
 have hd:(l++y++r).cps.toList.drop l.length=y.cps.toList++r.cps.toList:=by rw [ez,<- Yv,List.drop_left]
 have ZH:y.length≠0:=fun z=>by
  have:=(aad.mp hi).1
  lia
 have hA:=at_of ZH hd
 have no:∀ k,k<l.length->¬ StrLaws.At (l++y++r) y (l++y++r).length k:=fun k hk hA=>by
  have g:=Bt hA hi
  rw [ez] at g
  by_cases h1:k+i<l.length
  ·rw [aal (by lia)] at g
   exact hl (aaC g)
  ·rw [aam (by lia),hu,append_assoc,aal (by lia)] at g
   exact ZF (aaC g)
 unfold Txt.partition
 rcases StrLaws.occ_head (l++y++r) y 1 (aai 1) with ⟨h0,hn⟩|⟨j,q,h0,hj,hn⟩
 ·exact absurd hA (hn _)
 ·rw [h0]
  have e:j=l.length:=by
   rcases Nat.lt_trichotomy j l.length with w|w|w
   ·exact absurd hj (no j w)
   ·exact w
   ·exact absurd hA (hn _ w)
  subst e
  have e1:strSub (l++y++r) 0 l.length=l:=Str.ext' (Array.toList_inj.mp (Ht (x:=l.cps.toList) (by rw [drop_zero,ez]) (by rw [Yv,Nat.zero_add])))
  have e2:strSub (l++y++r) (l.length+y.length) (l++y++r).length=r:=by
   refine Str.ext' (Array.toList_inj.mp (Ht (x:=r.cps.toList) (r:=[]) ?_ ?_))
   ·rw [<- List.drop_drop,hd,<- ZG,List.drop_left,append_nil]
   ·rw [PySem.strLen_append,PySem.strLen_append]
    simp [Str.length]
  show (strSub (l++y++r) 0 l.length,y,strSub (l++y++r) (l.length+y.length) (l++y++r).length)=_
  rw [e1,e2]
end bw
namespace L2
open PySem PySem.Spec PyProof.Rows
def dq(K:Frag)(a:Addr)(xs:List V):Prop:=∀ H,bh K H a xs
theorem dq.at{K:Frag}{a:Addr}{xs:List V}{H:Hp}(h:dq K a xs):bh K H a xs:=h H
theorem ah.lst{H H':Hp}{a:Addr}{xs:List V}(e:ah H H')(h:H a=some (.lst xs)):H' a=some (.lst xs):=e _ _ h
theorem ah.gx{H H2:Hp}{l:Addr}{o:HO}(s:ah H H2)(h:H l=none):ah H (upd H2 l o):=fun b u e=>by
 rw [ar (aN e h)];exact s _ _ e
def R6:V->Hp->(Bool->Hp->Prop)->Prop:=fun x H R=>∃ c,x=.bl c/\R c H
def R7:V->Hp->(Option Int->Hp->Prop)->Prop:=fun x H R=>∃ i,x=.int i/\R (some i) H
def MZ:List V->Hp->VK->Prop:=fun xs H Q=>xs.length<=sizeLine/\∀ p,H p=none->Q (.ref p) (upd H p (.tup xs))
def M0:List V->Hp->VK->Prop:=fun xs H Q=>xs.length<=sizeLine/\∀ p,H p=none->Q (.ref p) (upd H p (.lst xs))
def Lb(K:Frag):List V->Hp->VK->Prop:=fun xs H Q=>∃ p ys,xs=[.ref p]/\(bA K H p ys\/bh K H p ys)/\Q (.int ys.length) H
def rN(K:Frag):List V->Hp->VK->Prop:=fun xs H Q=>∃ p ys,xs=[.ref p]/\((bA K H p ys/\∀ l,H l=none->Q (.ref l) (upd H l (.tup ys)))\/(bh K H p ys/\Q (.ref p) H))
def wO(K:Frag):List V->Hp->VK->Prop:=fun xs H Q=>∃ p ys,xs=[.ref p]/\(bA K H p ys\/bh K H p ys)/\∀ l,H l=none->Q (.ref l) (upd H l (.lst ys))
def gy(K:Frag):List V->Hp->VK->Prop:=fun xs H Q=>∃ x n t b,xs=[x,.ty n]/\Ys K H x t/\PySem.W.kitOne K t (.type n)=some b/\Q (.bl b) H
def R8:List V->Hp->VK->Prop:=fun xs H Q=>∃ i,xs=[.int i]/\Q (.int (if i<0 then -i else i)) H
def R9(K:Frag):V->Hp->(It->Hp->Prop)->Prop:=fun x H R=>∃ a,x=.ref a/\(∃ xs,bA K H a xs)/\R (Qu K a) H
def Sa(K:Frag):V->Hp->(It->Hp->Prop)->Prop:=fun x H R=>∃ a,x=.ref a/\(∃ xs,bh K H a xs)/\R (F7 K a) H
def Sb:List V->Hp->(It->Hp->Prop)->Prop:=fun vs H R=>∃ j:Int,vs=[.int j]/\-(2 ^ 62)<=j/\j<2 ^ 62/\R (KC 0 j.toNat) H
def Sd(K:Frag)(k1 k2:Bool):List V->Hp->(It->Hp->Prop)->Prop:=fun vs H R=>∃ a b,vs=[.ref a,.ref b]/\(∃ xs,Sq k1 K H a xs)/\(∃ ys,Sq k2 K H b ys)/\R (QB K k1 k2 a b) H
def Hu(K:Frag)(T:String)(ts:TA)(r:V->List V->Hp->VK->Prop)(σ:St)(Q:VK):V->Hp->Prop:=fun x H1=>UC K T x H1/\ts σ H1 fun xs H2=>r x xs H2 Q
def gz(g:TG)(tb:TS)(D:Ends)(J:It)(σ:St)(H:Hp):Prop:=∃ W:Nat->Nat->St->Hp->Prop,(∃ m,W 0 m σ H)/\∀ i m σ H,W i m σ H ->
 (J.stop i H/\D.nx σ H)\/(J.go i H/\∃ N:St->Hp->Prop,(∀ σ' H',N σ' H'->∃ m',m'<m/\W (i+1) m' σ' H')/\∀ x H',J.Kb i H x H'->g x σ H' fun σ2 H2=>tb { D with nx:=N,ct:=N,bk:=D.nx } σ2 H2)
section
variable {X:Cx}
theorem EN:cq X (.builtin "len") (Lb X.K):=wu
theorem zy:cq X (.type "tuple") (rN X.K):=tD
theorem Bu:cq X (.type "list") (wO X.K):=wy
theorem wQ:cq X (.builtin "isinstance") (gy X.K):=zm
theorem nP:cq X (.builtin "abs") R8:=Gz
end
section
variable {t u:TS}{D:Ends}{σ:St}{H:Hp}{te ta tb:TE}{g:TG}{tt tu:TT}{Q:VK}{i j:Int}{x y v w:V}{K:Frag}
theorem Se(h:t { D with nx:=u D } σ H):Q2 t u D σ H:=h
theorem Sf(h:te σ H fun x H1=>g x σ H1 D.nx):KA te g D σ H:=h
theorem Lc{n:Nat}{R:St->Hp->Prop}(h:R (σ.set n (some v)) H):fN n v σ H R:=h
theorem Sh(h:te σ H D.rt):Q3 te D σ H:=h
theorem Ot(h:te σ H fun _ H1=>D.nx σ H1):MD te D σ H:=h
theorem Ou(h:D.nx σ H):MC D σ H:=h
theorem Si{c:TT}(h:c σ H fun b H1=>if b=true then t D σ H1 else u D σ H1):NI c t u D σ H:=h
theorem Sj{n:Nat}(e:σ[n]?=some (some v))(h:Q v H):Gn n σ H Q:=⟨v,e,h⟩
theorem ZI(h:Q v H):tC v σ H Q:=h
theorem VC{r:R2}(h:ta σ H fun x H1=>tb σ H1 fun y H2=>r x y H2 Q):Qv r ta tb σ H Q:=h
theorem ZJ{R:Bool->Hp->Prop}(h:te σ H fun x H1=>R6 x H1 R):tB te σ H R:=h
theorem Ov{R:Bool->Hp->Prop}(h:te σ H fun x H1=>R6 x H1 R):Gw te σ H R:=h
theorem Ow{b:Bool}{R:Bool->Hp->Prop}(h:R b H):R6 (.bl b) H R:=⟨b,rfl,h⟩
theorem Sk{R:Bool->Hp->Prop}(h:tt σ H fun c H1=>if c=true then tu σ H1 R else R false H1):Q0 tt tu σ H R:=h
theorem VD{R:Bool->Hp->Prop}(h:tt σ H fun c H1=>if c=true then R true H1 else tu σ H1 R):X5 tt tu σ H R:=h
theorem Sl{R:Bool->Hp->Prop}(h:tt σ H fun c H1=>R (!c) H1):Q1 tt σ H R:=h
theorem Ox(h:ta σ H fun x H1=>R6 x H1 fun c H2=>if c=true then tb σ H2 Q else Q (.bl false) H2):MA ta tb σ H Q:=h
theorem Oy(h:ta σ H fun x H1=>R6 x H1 fun c H2=>Q (.bl (!c)) H2):MB ta σ H Q:=h
theorem Sm(h:tt σ H fun c H1=>if c=true then ta σ H1 Q else tb σ H1 Q):X6 tt ta tb σ H Q:=h
theorem VE{f:Int->Int->V}(h:Q (f i j) H):KG f (.int i) (.int j) H Q:=⟨i,j,rfl,rfl,h⟩
theorem VF{C:Int->Int->Prop}{f:Int->Int->V}(c:C i j)(h:Q (f i j) H):rI C f (.int i) (.int j) H Q:=⟨i,j,rfl,rfl,c,h⟩
theorem Sn{i j:Int}:decide (V.int i=V.int j)=decide (i=j):=by
 by_cases e:i=j
 ·subst e;simp
 ·rw [aar e];exact aar fun z=>e (by injection z)
theorem So(h:Q (.bl (decide (i=j))) H):Va (.int i) (.int j) H Q:=⟨rfl,by rw [Sn];exact h⟩
theorem Sr(h:Q (.bl (!decide (i=j))) H):Vb (.int i) (.int j) H Q:=⟨rfl,by rw [Sn];exact h⟩
theorem Ss{R:List V->Hp->Prop}(h:R [] H):NW σ H R:=h
theorem Oz{ts:TA}{R:List V->Hp->Prop}(h:te σ H fun x H1=>ts σ H1 fun xs H2=>R (x::xs) H2):GA te ts σ H R:=h
theorem Su{ts:TA}(h:ts σ H fun xs H1=>MZ xs H1 Q):Rb ts σ H Q:=h
theorem Sv{ts:TA}(h:ts σ H fun xs H1=>M0 xs H1 Q):KJ ts σ H Q:=h
theorem OA{xs:List V}(hl:xs.length<=1000)(h:∀ p H2,ah H H2->H2 p=some (.tup xs)->Q (.ref p) H2):MZ xs H Q :=
 ⟨aaj (bW hl),fun p hp=>h p _ (ah.aW hp) ao⟩
theorem Hv{xs:List V}(hl:xs.length<=1000)(h:∀ p H2,H p=none->ah H H2->H2 p=some (.lst xs)->Q (.ref p) H2):M0 xs H Q :=
 ⟨aaj (bW hl),fun p hp=>h p _ hp (ah.aW hp) ao⟩
theorem VG{r:List V->Hp->VK->Prop}{ts:TA}(h:ts σ H fun vs H1=>r vs H1 Q):Vf r ts σ H Q:=h
theorem OB{ix:List (Option Nat)}{wi:TI}(h:wi σ H fun J H1=>cb ix g tt te σ Q J H1):GU ix wi g tt te σ H Q:=h
theorem VH{r:V->Option Int->Option Int->Hp->VK->Prop}{tl th:TO}(h:te σ H fun x H1=>tl σ H1 fun l H2=>th σ H2 fun u H3=>r x l u H3 Q):Yd r te tl th σ H Q:=h
theorem Hw{R:Option Int->Hp->Prop}(h:R none H):Dl σ H R:=h
theorem OC{R:Option Int->Hp->Prop}(h:te σ H fun x H1=>R7 x H1 R):MK te σ H R:=h
theorem Ld{R:Option Int->Hp->Prop}(h:R (some i) H):R7 (.int i) H R:=⟨i,rfl,h⟩
theorem VI{T:String}{r:V->List V->Hp->VK->Prop}{ts:TA}(h:te σ H fun x H1=>Hu K T ts r σ Q x H1):Vg K T r te ts σ H Q:=h
theorem Sw{wi:TI}{tb:TS}(h:wi σ H fun J H1=>gz g tb D J σ H1):Q8 wi g tb D σ H:=h
theorem Le{R:It->Hp->Prop}(h:te σ H fun x H1=>R9 K x H1 R):Gs K te σ H R:=h
theorem OD{R:It->Hp->Prop}(h:te σ H fun x H1=>Sa K x H1 R):NM K te σ H R:=h
theorem OE{ts:TA}{R:It->Hp->Prop}(h:ts σ H fun vs H1=>Sb vs H1 R):MF ts σ H R:=h
theorem OF{k1 k2:Bool}{ts:TA}{R:It->Hp->Prop}(h:ts σ H fun vs H1=>Sd K k1 k2 vs H1 R):G8 K k1 k2 ts σ H R:=h
theorem Sx{a:Addr}{xs:List V}{R:It->Hp->Prop}(e:bA K H a xs)(h:R (Qu K a) H):R9 K (.ref a) H R:=⟨a,rfl,⟨_,e⟩,h⟩
theorem Sy{a:Addr}{xs:List V}{R:It->Hp->Prop}(e:bh K H a xs)(h:R (F7 K a) H):Sa K (.ref a) H R:=⟨a,rfl,⟨_,e⟩,h⟩
theorem Sz{R:It->Hp->Prop}(h1:-1000000<=j)(h2:j<=1000000)(h:R (KC 0 j.toNat) H):Sb [.int j] H R:=⟨j,rfl,by lia,by lia,h⟩
theorem SA{k1 k2:Bool}{a b:Addr}{xs ys:List V}{R:It->Hp->Prop}(e1:Sq k1 K H a xs)(e2:Sq k2 K H b ys)(h:R (QB K k1 k2 a b) H):Sd K k1 k2 [.ref a,.ref b] H R:=⟨a,b,rfl,⟨_,e1⟩,⟨_,e2⟩,h⟩
theorem OG{a:Addr}{xs:List V}(h:bh K H a xs):Sq true K H a xs:=h
theorem iJ{a:Addr}{xs:List V}(h:bA K H a xs):Sq false K H a xs:=h
theorem SD{a:Addr}{xs:List V}(e:bh K H a xs)(n:Dm xs i=some v)(h:Q v H):UB K (.ref a) (.int i) H Q:=.inr (.inl ⟨a,xs,i,v,rfl,rfl,e,n,h⟩)
theorem mI{a:Addr}{xs:List V}(e:bA K H a xs)(n:Dm xs i=some v)(h:Q v H):UB K (.ref a) (.int i) H Q:=.inl ⟨a,xs,i,v,rfl,rfl,e,n,h⟩
theorem OH{a:Addr}{xs:List V}(e:bh K H a xs)(h:Q (.int xs.length) H):Lb K [.ref a] H Q:=⟨a,xs,rfl,.inr e,h⟩
theorem OI{a:Addr}{xs:List V}(e:bA K H a xs)(h:Q (.int xs.length) H):Lb K [.ref a] H Q:=⟨a,xs,rfl,.inl e,h⟩
theorem zz{a:Addr}{xs:List V}(e:bA K H a xs)(h:∀ p H2,ah H H2->H2 p=some (.tup xs)->Q (.ref p) H2):rN K [.ref a] H Q :=
 ⟨a,xs,rfl,.inl ⟨e,fun p hp=>h p _ (ah.aW hp) ao⟩⟩
theorem Lf{a:Addr}{xs:List V}(e:bA K H a xs)(h:∀ p H2,H p=none->ah H H2->H2 p=some (.lst xs)->Q (.ref p) H2):wO K [.ref a] H Q:=⟨a,xs,rfl,.inl e,fun p hp=>h p _ hp (ah.aW hp) ao⟩
theorem SE(h:Q (.int (if i<0 then -i else i)) H):R8 [.int i] H Q:=⟨i,rfl,h⟩
theorem Lg{T:String}{ts:TA}{r:V->List V->Hp->VK->Prop}(e:UC K T x H)(h:ts σ H fun xs H2=>r x xs H2 Q):Hu K T ts r σ Q x H:=⟨e,h⟩
theorem rO{l:Addr}{xs:List V}(e:H l=some (.lst xs))(n:xs.length<=1000)(h:Q .dt (upd H l (.lst (xs++[y])))):Dn (.ref l) [y] H Q:=⟨l,xs,y,rfl,rfl,e,bW n,h⟩
theorem Hx{a b:Addr}{xs ys:List V}(e1:H a=some (.lst xs))(e2:H b=some (.lst ys))(n:xs.length+ys.length<=1000)(h:∀ p H2,H p=none->ah H H2->H2 p=some (.lst (xs++ys))->Q (.ref p) H2):Rm (.ref a) (.ref b) H Q :=
 ⟨a,b,xs,ys,rfl,rfl,e1,e2,aaj (bW n),fun p hp=>h p _ hp (ah.aW hp) ao⟩
theorem Hy{a b:Addr}{xs ys:List V}(e1:bh K H a xs)(e2:bh K H b ys)(n1:xs≠[])(n2:ys≠[])(n:xs.length+ys.length<=1000)(h:∀ p H2,ah H H2->H2 p=some (.tup (xs++ys))->Q (.ref p) H2):GF K (.ref a) (.ref b) H Q :=
 ⟨a,b,xs,ys,rfl,rfl,e1,e2,n1,aaj (bW n),fun z=>absurd z n2,fun _ p hp=>h p _ (ah.aW hp) ao⟩
theorem SG{a:Addr}{xs:List V}{lo hi:Option Int}(e:bh K H a xs)(n:¬ (HT.el xs.length 0 lo=0/\HT.el xs.length xs.length hi=xs.length))(h:∀ p H2,ah H H2->H2 p=some (.tup (nG xs lo hi))->Q (.ref p) H2):N0 K (.ref a) lo hi H Q :=
 ⟨a,xs,rfl,e,n,fun p hp=>h p _ (ah.aW hp) ao⟩
theorem M1{a:Addr}{xs:List V}{lo hi:Option Int}(e:bA K H a xs)(h:∀ p H2,H p=none->ah H H2->H2 p=some (.lst (nG xs lo hi))->Q (.ref p) H2):GH K (.ref a) lo hi H Q :=
 ⟨a,xs,rfl,e,fun p hp=>h p _ hp (ah.aW hp) ao⟩
theorem OJ {a:Addr} {xs:List V} {n:String} {b:Bool} (e:bh K H a xs) (k:PySem.W.kitOne K (.type "tuple") (.type n)=some b) (h:Q (.bl b) H):gy K [.ref a,.ty n] H Q:=⟨_,n,_,b,rfl,.inr (.inl ⟨a,xs,rfl,e,rfl⟩),k,h⟩
theorem OK {a:Addr} {xs:List V} {n:String} {b:Bool} (e:bA K H a xs) (k:PySem.W.kitOne K (.type "list") (.type n)=some b) (h:Q (.bl b) H):gy K [.ref a,.ty n] H Q:=⟨_,n,_,b,rfl,.inr (.inr ⟨a,xs,rfl,e,rfl⟩),k,h⟩
theorem OL {n:String} {b:Bool} (k:PySem.W.kitOne K (.type "int") (.type n)=some b) (h:Q (.bl b) H):gy K [.int i,.ty n] H Q:=⟨_,n,_,b,rfl,.inl (.int _),k,h⟩
theorem OM {c:Bool} {n:String} {b:Bool} (k:PySem.W.kitOne K (.type "bool") (.type n)=some b) (h:Q (.bl b) H):gy K [.bl c,.ty n] H Q:=⟨_,n,_,b,rfl,.inl (.bl _),k,h⟩
theorem SH{a:Addr}{xs:List V}{tb:TS}(Pv:Nat->St->Hp->Prop)(h0:Pv 0 σ H)(hl:∀ i σ H,i<=xs.length->Pv i σ H->bh K H a xs)
  (hs:∀ i x σ H,xs[i]?=some x->Pv i σ H->g x σ H fun σ2 H2=>tb { D with nx:=Pv (i+1),ct:=Pv (i+1),bk:=D.nx } σ2 H2) (hd:∀ σ H,Pv xs.length σ H->D.nx σ H):gz g tb D (F7 K a) σ H:=Dd Pv h0 hl hs hd
end
theorem mJ{c:Bool}{A B:Prop}(e:c=true)(h:A):if c=true then A else B:=by rw [if_pos e];exact h
theorem ll{c:Bool}{A B:Prop}(e:c=false)(h:B):if c=true then A else B:=by rw [e];exact GS h
theorem dR{c:Bool}{A B:Prop}(h1:c=true->A)(h2:c=false->B):if c=true then A else B:=by
 cases c with
 | true=>exact rj (h1 rfl)
 | false=>exact GS (h2 rfl)
section
variable {t u:TS}{D:Ends}{σ:St}{H:Hp}{te ta tb:TE}{g:TG}{tt tu:TT}{Q:VK}{i j:Int}{x y v w:V}{K:Frag}{X:Cx}
theorem Lh{sp:Sp}{E:XK}{ts:TA}(h:ts σ H fun vs H1=>sp vs H1 Q E):Dh sp [] E ts σ H Q:=by
 unfold Dh
 simp only [append_nil]
 exact h
def Yw(tb:TS)(D:Ends)(W:Nat->St->Hp->Prop)(m:Nat)(σ:St)(H1:Hp):Prop:=∃ N:St->Hp->Prop,(∀ σ' H',N σ' H'->∃ m',m'<m/\W m' σ' H')/\tb { D with nx:=N,ct:=N,bk:=D.nx } σ H1
theorem DA{c:TT}{tb:TS}(W:Nat->St->Hp->Prop)(m:Nat)(h0:W m σ H)(hs:∀ m σ H,W m σ H->c σ H fun b H1=>if b=true then Yw tb D W m σ H1 else D.nx σ H1):Gr c tb D σ H:=⟨W,⟨m,h0⟩,hs⟩
theorem SI{tb:TS}{W:Nat->St->Hp->Prop}{m:Nat}(h:tb { D with nx:=fun σ' H'=>∃ m',m'<m/\W m' σ' H',ct:=fun σ' H'=>∃ m',m'<m/\W m' σ' H',bk:=D.nx } σ H):Yw tb D W m σ H:=⟨_,fun _ _ z=>z,h⟩
theorem ON{a:Addr}{xs:List V}{tb:TS}(ha:bh K H a xs)(Pv:Nat->St->Prop)(h0:Pv 0 σ)(hs:∀ i x σ,xs[i]?=some x->Pv i σ->g x σ H fun σ2 H4=>tb { D with nx:=fun σ' H'=>Pv (i+1) σ'/\H'=H,ct:=fun σ' H'=>Pv (i+1) σ'/\H'=H,bk:=D.nx } σ2 H4)
  (hd:∀ σ,Pv xs.length σ->D.nx σ H):gz g tb D (F7 K a) σ H:=by
 refine Dd (xs:=xs) (fun i σ2 H2=>Pv i σ2/\H2=H) ⟨h0,rfl⟩ (fun i σ2 H2 _ p=>?_) (fun i x σ2 H2 hi p=>?_) (fun σ2 H2 p=>?_)
 ·obtain ⟨p,rfl⟩:=p
  exact ha
 ·obtain ⟨p,rfl⟩:=p
  exact hs i x σ2 hi p
 ·obtain ⟨p,rfl⟩:=p
  exact hd σ2 p
end
section
variable {X:Cx}(K:Frag)(hK:X.K=K)
include hK
theorem eU:cq X (.builtin "len") (Lb K):=hK ▸ EN
theorem zA:cq X (.type "tuple") (rN K):=hK ▸ zy
theorem Li:cq X (.type "list") (wO K):=hK ▸ Bu
theorem ir:cq X (.builtin "isinstance") (gy K):=hK ▸ wQ
theorem bp:GG X (UB K):=hK ▸ N5
theorem Lj:Qz X (N0 K):=hK ▸ N1
theorem rP:Qz X (GH K):=hK ▸ KU
theorem HB:ij X (binaryOp .Add) (GF K):=hK ▸ KQ
theorem OO:ij X (compareOp .In) (Rk K false):=hK ▸ Eu
theorem EO:ij X (compareOp .NotIn) (Rk K true):=hK ▸ wt
theorem gc{tg l:Expr}{tl:TE}(hl:PE X l tl):PI X tg l (Gs K tl):=hK ▸ KD hl
theorem mK{tg l:Expr}{tl:TE}(hl:PE X l tl):PI X tg l (NM K tl):=hK ▸ NN hl
theorem zB (k1 k2:Bool) {es:List Expr} {kk:Nat} {tF:Pos} {a b:Expr} {ta:TA} {p pos:Pos} (hg:Gl X "zip") (hm:X.mg "zip"=none) (ha:PA X [a,b] ta) (hs:starEach [a,b] X.env=[(false,eval a X.env),(false,eval b X.env)]:=by rfl) (iB:starEach [b] X.env=[(false,eval b X.env)]:=by rfl) :
  PI X (.Tuple es kk tF) (.Call (.Name "zip" p) [a,b] [] pos) (G8 K k1 k2 ta):=hK ▸ K6 k1 k2 hg hm ha hs iB
theorem kl{es:List Expr}{k:Nat}{t:ME}{n:Nat}{pos:Pos}(hc:X.calm=true)(h:Q4 X es t)
  (hn:(assignEach es X.env).length=n:=by rfl) (iF:(assignEach es X.env).findIdx? (·.1)=none:=by rfl):PG X (.Tuple es k pos) (Gq K n t):=hK ▸ NJ hc h hn iF
end
end L2
namespace Bp
theorem qP(x:Int):L2.vG x=bl x:=rfl
end Bp
namespace L2
open PySem
section
variable {prog:Program}{w:World}{A:Around}{E:Value->Shared->Prop}{s:Shared}
structure ZK(k1 k2 k3:Bool)(n a b c:Nat)(i:Nat)(f0:Value)(h:Heap):Prop where
 z:IsZip h (n+5) (n+3) (n+4) f0
 ti:IsT h (n+3) #[.ref n,.ref (n+1),.ref (n+2)]
 to:∃ u v x,IsT h (n+4) #[u,v,x]
 i1:jf k1 h n a i
 i2:jf k2 h (n+1) b i
 i3:jf k3 h (n+2) c i
end
open PySem PySem.Spec PyProof.Rows
def rm(H:Hp)(l:Addr):Hp:=fun b=>if b=l then none else H b
theorem zC{H:Hp}{l:Addr}:rm H l l=none:=by unfold rm;rw [if_pos rfl]
theorem HC{H:Hp}{l b:Addr}(h:b≠l):rm H l b=H b:=by unfold rm;rw [if_neg h]
theorem qQ{H:Hp}{l:Addr}:ah (rm H l) H:=fun b o e=>by
 by_cases h:b=l
 ·subst h;rw [zC] at e;cases e
 ·rw [HC h] at e;exact e
theorem HE{K:Frag}{H:Hp}{l a:Addr}{xs ys:List V}(h:bh K H a xs)(hl:H l=some (.lst ys)):bh K (rm H l) a xs:=by
 have ne:∀ {o},H a=some o->(∀ zs,o≠.lst zs)->a≠l:=fun {o} e n z=>by subst z;rw [hl] at e;exact n _ (aao e).symm
 rcases h with (h|⟨o,h⟩)|h
 ·exact .inl (.inl (by rw [HC (ne h fun _ z=>nomatch z)];exact h))
 ·exact .inl (.inr ⟨o,by rw [HC (ne h fun _ z=>nomatch z)];exact h⟩)
 ·exact .inr h
end L2
namespace L2
open PySem PySem.Spec PyProof.Rows PySem.W
structure fR(K:Frag)(C:Addr):Prop where
 ga:findIn K (.ref C) "__getattribute__"=some (some (.builtin "BaseException.__getattribute__"))
 gt:findIn K (.ref C) "__getattr__"=some none
 fc:findObj K C none "__class__"=some (.bind (.builtin "getset_descriptor.__get__") (.builtin "object.__class__"))
 ob:mroIn K C (.type "object")=some true
 be:subIn K (.ref C) (.type "BaseException")=some true
 cl:(clsIn K C).isSome=true
section
variable {prog:Program}{w:World}{A:Around}{E:Value->Shared->Prop}{s:Shared}{K:Frag}{x C:Addr}{ox:Obj}
theorem ER {Q:Option Value->Shared->Prop} (V:fR K C) (X:K.In s.heap) {od:Option Obj} (I:InstAt s.heap x ox C od) (fc:findObj K C od "__class__"=some (.bind (.builtin "getset_descriptor.__get__") (.builtin "object.__class__"))) (h:Q (some (.ref C)) { s with toks:=s.toks+1 }) :
  wpAny (model prog w) A (getAttr? (.ref x) "__class__") Q E s:=by
 obtain ⟨hh,g,d,t,os⟩:=s
 have L0:=I.type (M:=model prog w)
 have L1:=looks_findIn (M:=model prog w) X V.ga
 have L2:=looks_findIn (M:=model prog w) X V.gt
 have L3:=looks_find (M:=model prog w) X I fc
 have L4:=looks_subIn (M:=model prog w) X V.be
 have f3:=F.attr_ValueError.ga.bind (.ref x)
 unfold getAttr? getAttrBy? getAttrBy
 refine aac (wpAny_mkText (aac (wpAny_attempt (wpAny_holding (aac (L0.at (aac (L1.at ?_))))))))
 have VJ:(Value.builtin "BaseException.__getattribute__" == Value.builtin "object.__getattribute__")=false:=by decide +kernel
 have VL:(onTheHeap (Value.ref C) && Value.builtin "BaseException.__getattribute__" == Value.builtin "object.__getattribute__")=false:=by rw [VJ];rfl
 dsimp only
 rw [VL]
 simp only [Bool.false_eq_true,if_false]
 unfold getAttrByItsOwn hookBefore
 rw [if_pos (show onTheHeap (Value.ref C)=true from rfl)]
 refine aac (L2.at (aac (wpAny_attempt (wpAny_holding ?_))))
 unfold callGetattribute boundAndCalled
 rw [if_neg (by decide)]
 rw [f3]
 refine aac (aau (wpAny_call ?_))
 refine codeAny_call_builtin F.attr_ValueError.ga.plain F.entry_bexc_ga ?_
 have hk:builtinKind "BaseException.__getattribute__"=some .slot:=by decide +kernel
 have Bv:splitId "BaseException.__getattribute__"=some ("BaseException","__getattribute__"):=by decide +kernel
 have ha:=F.args_bexc_ga (.ref x) (.str "__class__" t)
 simp only [checkBuiltinCall,hk,Bv]
 refine aac ?_
 unfold isInstance
 refine aac (L0.at (L4.at ?_))
 rw [if_neg (by decide)]
 refine wpAny_of_eq (a:=()) ha ?_
 show wpAny _ _ (Builtin.«object.__getattribute__» ⟨[.ref x,.str "__class__" t],[]⟩) _ _ _
 unfold Builtin.«object.__getattribute__»
 refine aac (aau ?_)
 refine aac (aau (aac (L0.at (aac (L3.at ?_)))))
 show wpAny _ _ (holding [.builtin "object.__class__"] (call (.builtin "getset_descriptor.__get__") [.builtin "object.__class__",.ref x,.ref C]) >>= ret) _ _ _
 refine aac (wpAny_holding (wpAny_call (class_get (s:=⟨hh,g,d,t+1,os⟩) X I V.ob ?_)))
 refine aau ?_
 show wpAny _ _ (handedOut (.ref C)) _ _ _
 rw [handedOut_of rfl]
 exact aau (aau h)
end
end L2
namespace L2
open PySem PySem.Spec PyProof.Rows PySem.W
theorem rQ {K:Frag} {a C:Addr} (V:fR K C):KitX K (.ref a) (.ref C) (fun h=>∃ ox od,PySem.W.InstAt h a ox C od/\findObj K C od "__class__"=some (.bind (.builtin "getset_descriptor.__get__") (.builtin "object.__class__"))) where
 ty:=fun _ _ _ ⟨_,_,I,_⟩=>I.type
 it:=fun _ _ X _=>by
  obtain ⟨cd,hc⟩:=aat.mp V.cl
  unfold clsIn at hc
  split at hc
  ·rename_i c' d' VM A3 ho
   intro A' Q' E' s' k q
   unfold isType loadHead
   exact aac (wpAny_loadPart (k _ _ (X _ _ ho)) (aau q))
  ·cases hc
 ne:=fun h tp dd its n sl X ZL=>by
  obtain ⟨cd,hc⟩:=aat.mp V.cl
  refine Bool.eq_false_iff.mpr fun q=>?_
  have e:C=tp:=Value.ref.inj (beq_iff_eq.mp q)
  subst e
  unfold clsIn at hc
  split at hc
  ·rename_i c' d' VM A3 ho
   have z:=(X _ _ ho).symm.trans ZL
   cases z
  ·cases hc
 ca:=fun X ⟨_,_,I,fc⟩ k=>ER V X I fc k
theorem HF{K:Frag}{C:Addr}{o:Obj}{n:Str}{r:Builtin.ObjectAttr.Found}(h:findObj K C none n=some r)(hl:lookIn n o=some none):findObj K C (some o) n=some r:=by
 unfold findObj at h ⊢
 have e:∀ cd:ClassData,PySem.W.ownOf cd (some o) n=PySem.W.ownOf cd none n:=fun cd=>by unfold PySem.W.ownOf;dsimp only;rw [hl]
 simp only [e]
 exact h
def fj(a C:Addr)(d:Option Addr):HO:=.ext fun h=>∃ ox,h.get? a=some ox/\ox.cls=.ref C/\notCls ox=true/\ox.dict=d
def rR (H:Hp) (d:Option Addr):Prop:=∀ dx,d=some dx->∃ fs,H dx=some (.xd fs)/\fs.lookup ("__class__":Str)=none
theorem rR.none{H:Hp}:rR H none:=fun _ e=>nomatch e
section
variable {M:Model}{A:Around}{E:Value->Shared->Prop}{s:Shared}
theorem rS{base:Heap}{env:Env}{outer:List Env}{L e:Addr}{oe:Obj}{vs:Array Value}{head:Value}{wR:Bool}{Q:Unit->Shared->Prop}
  (jk:A.frames=some (env::outer)) (hl:s.heap.FunFrames base (env::outer)) (hf:env.frame=some L)
  (he:s.heap.get? e=some oe) (hd:oe.data=.fields vs) (hsz:1<vs.size)
  (h:∀ h' T,(∀ b o,b≠e->b∉j2 (env::outer)->s.heap.get? b=some o->h'.get? b=some o)->(∀ b o,b≠e->s.heap.get? b=some o->∃ sl,h'.get? b=some { o with slots:=sl }) ->
   s.heap.get? T=none->T≠e->h'.get? e=some (oe.mapFields (·.setIfInBounds 1 (.ref T)))->(∃ oT ts,h'.get? T=some oT/\oT.data=.fields ts/\ts[3]?=some .none)->Q () { s with heap:=h' }) :
  wpAny M A (do let a <- frameOf env;let pl <- entryPlaceOf L wR;let b <- EntryCells.newEntry head a .none (rawInt L) .none pl;setField (.ref e) 1 b) (fun _ s'=>wpAny M A (setFlight (.ref e) none) Q E s') E s:=by
 have OP:e∉(env::outer).filterMap (·.frame):=fun hm=>by
  obtain ⟨_,o,ho,Bw⟩:=hl.mem hm
  rw [he] at ho;injection ho with ho;subst ho;exact Bw vs hd
 refine aac (wpAny_frameOf_fun jk hl hf fun h₁ Lk=>?_)
 refine aac (wpAny_entryPlaceOf fun pl jt=>?_)
 unfold EntryCells.newEntry newFields
 refine aac (wpAny_newObj_type ?_ (jt.sizeOk5 _ _ _ _ _))
 have SJ:h₁.get? e=some oe:=(Lk.2.1 e OP).trans he
 have SK:=aab (h:=h₁) { cls:=.type "traceback",dict:=none,data:=.fields ([head,.ref L,.none,rawInt L,.none]++(if pl.isEmpty then List.replicate 6 Value.none else pl)).toArray } SJ
 refine wpAny_setField SK hd hsz ?_
 have HG:h₁.objs.size≠e:=Nat.ne_of_gt (aae SJ)
 have Yx:=Obj.data_mapFields hd (·.setIfInBounds 1 (Value.ref h₁.objs.size))
 have Yy:=Heap.get?_update_self (Obj.mapFields (·.setIfInBounds 1 (Value.ref h₁.objs.size))) SK (Obj.isFreed_of_fields Yx)
 have Yz:=(Heap.get?_update_other (h₁.push { cls:=.type "traceback",dict:=none,data:=.fields ([head,.ref L,.none,rawInt L,.none]++(if pl.isEmpty then List.replicate 6 Value.none else pl)).toArray })
  (Obj.mapFields (·.setIfInBounds 1 (Value.ref h₁.objs.size))) (Ne.symm HG)).trans (aaf h₁ rfl)
 unfold setFlight
 refine aac (wpAny_field Yy Yx (x:=.ref h₁.objs.size) (by simp [hsz]) ?_)
 rw [if_pos (show (Value.ref h₁.objs.size != Value.none)=true from by simp)]
 have keep:∀ b o,b≠e->h₁.get? b=some o ->
   (((h₁.push { cls:=.type "traceback",dict:=none,data:=.fields ([head,.ref L,.none,rawInt L,.none]++(if pl.isEmpty then List.replicate 6 Value.none else pl)).toArray }).update e (Obj.mapFields (·.setIfInBounds 1 (Value.ref h₁.objs.size)))).update h₁.objs.size
    (Obj.mapFields (·.setIfInBounds 3 ((none:Option Addr).elim Value.none fun f=>rawInt f)))).get? b=some o:=fun b o v9 hb=>by
  have ZM:h₁.objs.size≠b:=Nat.ne_of_gt (aae hb)
  rw [Heap.get?_update_other _ _ ZM,Heap.get?_update_other _ _ (Ne.symm v9)]
  exact aab _ hb
 refine wpAny_setField Yz rfl (by simp only [aaO,aaE,length_cons,length_nil] <;> lia) (h _ h₁.objs.size (fun b o v9 VN hb=>keep b o v9 ((Lk.2.1 b VN).trans hb)) (fun b o v9 hb=>?_) (Heap.get?_none_of_le (by rw [Lk.1];exact aai _)) HG ?_ ?_)
 ·obtain ⟨sl,hs⟩:=Lk.2.2 b o hb
  exact⟨sl,keep b _ v9 hs⟩
 ·rw [Heap.get?_update_other _ _ HG];exact Yy
 ·exact⟨_,_,Heap.get?_update_self _ Yz (Obj.isFreed_of_fields (Obj.data_mapFields rfl _)),Obj.data_mapFields rfl _,by first|(simp;done)|(rcases jt with rfl|⟨_,_,_,_,_,_,_,rfl⟩ <;> simp)⟩
def jv(h:Heap)(e:Addr)(vs:Array Value):Option Addr->Prop
 | none=>vs[1]?=some .none
 | some T=>vs[1]?=some (.ref T)/\T≠e/\∃ oT ts,h.get? T=some oT/\oT.data=.fields ts/\ts[3]?=some .none
theorem nQ{base:Heap}{env:Env}{outer:List Env}{L e:Addr}{oe:Obj}{vs:Array Value}{T0:Option Addr}{Q:Unit->Shared->Prop}
  (jk:A.frames=some (env::outer)) (hl:s.heap.FunFrames base (env::outer)) (hf:env.frame=some L)
  (he:s.heap.get? e=some oe) (hd:oe.data=.fields vs) (hh:jv s.heap e vs T0)
  (h:∀ h' T,(∀ b o,b≠e->some b≠T0->b∉j2 (env::outer)->s.heap.get? b=some o->h'.get? b=some o)->(∀ b o,b≠e->some b≠T0->s.heap.get? b=some o->∃ sl,h'.get? b=some { o with slots:=sl }) ->
   s.heap.get? T=none->T≠e->h'.get? e=some (oe.mapFields (·.setIfInBounds 1 (.ref T)))->(∃ oT ts,h'.get? T=some oT/\oT.data=.fields ts/\ts[3]?=some .none)->Q () { s with heap:=h' }) :
  wpAny M A (noteFrame (.ref e) env) (fun _ s'=>wpAny M A (setFlight (.ref e) none) Q E s') E s:=by
 unfold noteFrame
 simp only [hf]
 cases T0 with
 | none =>
  have h1:vs[1]?=some .none:=hh
  refine aac (wpAny_field he hd h1 ?_)
  rw [if_neg (by decide)]
  exact rS jk hl hf he hd (Array.getElem?_eq_some_iff.mp h1).1 fun h' T k1 k2 k3 k4 k5 k6=>h h' T (fun b o b1 _ b3 b4=>k1 b o b1 b3 b4) (fun b o b1 _ b3=>k2 b o b1 b3) k3 k4 k5 k6
 | some T =>
  obtain ⟨h1,HG,oT,ts,hT,lq,h3⟩:=hh
  refine aac (wpAny_field he hd h1 ?_)
  rw [if_pos (show (Value.ref T != Value.none)=true from by simp)]
  refine aac (wpAny_field hT lq h3 ?_)
  rw [if_neg (show ¬ ((Value.none == rawInt L)=true) from by simp [rawInt])]
  refine aac (wpAny_setField hT lq (Array.getElem?_eq_some_iff.mp h3).1 ?_)
  have other:∀ b,b≠T->(s.heap.update T (Obj.mapFields (·.setIfInBounds 3 Value.none))).get? b=s.heap.get? b:=fun b hb=>Heap.get?_update_other _ _ (Ne.symm hb)
  have rT:∀ b o,s.heap.get? b=some o->(∀ vs,o.data≠.fields vs)->b≠T:=fun b o hb Bw q=>by
   rw [q,hT] at hb;injection hb with hb;subst hb;exact Bw ts lq
  have EG:=Heap.get?_update_self (Obj.mapFields (·.setIfInBounds 3 Value.none)) hT (Obj.isFreed_of_fields (Obj.data_mapFields lq _))
  refine rS jk (hl.of_keeps fun b o hb Bw=>⟨o,(other b (rT b o hb Bw)).trans hb,rfl⟩) hf ((other e (Ne.symm HG)).trans he) hd (Array.getElem?_eq_some_iff.mp h1).1 fun h' T' k1 k2 k3 k4 k5 k6=>?_
  refine h h' T' (fun b o b1 b2 b3 b4=>k1 b o b1 b3 ((other b fun z=>b2 (by rw [z])).trans b4)) (fun b o b1 b2 b4=>k2 b o b1 ((other b fun z=>b2 (by rw [z])).trans b4)) ?_ k4 k5 k6
  by_cases hq:T'=T
  ·rw [hq,EG] at k3;cases k3
  ·rw [other T' hq] at k3;exact k3
theorem flight_again{e:Addr}{oe:Obj}{vs:Array Value}{T:Addr}{Q:Unit->Shared->Prop}(he:s.heap.get? e=some oe)(hd:oe.data=.fields vs)(hh:jv s.heap e vs (some T))
  (h:∀ h',(∀ b o,b≠T->s.heap.get? b=some o->h'.get? b=some o)->(∃ oT ts,h'.get? T=some oT/\oT.data=.fields ts/\ts[3]?=some .none)->Q () { s with heap:=h' }):wpAny M A (setFlight (.ref e) none) Q E s:=by
 obtain ⟨h1,HG,oT,ts,hT,lq,h3⟩:=hh
 have SM:3<ts.size:=(Array.getElem?_eq_some_iff.mp h3).1
 unfold setFlight
 refine aac (wpAny_field he hd h1 ?_)
 rw [if_pos (show (Value.ref T != Value.none)=true from by simp)]
 refine wpAny_setField hT lq SM (h _ (fun b o hb e=>(Heap.get?_update_other _ _ (Ne.symm hb)).trans e) ⟨_,_,Heap.get?_update_self _ hT (Obj.isFreed_of_fields (Obj.data_mapFields lq _)),Obj.data_mapFields lq _,?_⟩)
 simp [SM]
end
end L2
namespace L2
open PySem PySem.Spec PyProof.Rows PySem.W
theorem bJ.there{P:Program}{w:World}{H:Hp}{h:Heap}{a:Addr}{o:HO}(x:bJ P w H h a o):∃ ob,h.get? a=some ob:=by
 cases o with
 | lst xs=>obtain ⟨_,_,_,_,e⟩:=x;exact⟨_,e⟩
 | tup xs=>obtain ⟨_,_,_,ob,e,_⟩:=x;exact⟨_,e⟩
 | dK aC=>obtain ⟨_,_,_,_,o,_,_,e,_⟩:=x;exact⟨_,e⟩
 | dT aC=>obtain ⟨_,_,_,_,o,_,_,e,_⟩:=x;exact⟨_,e⟩
 | set S n=>obtain ⟨o,_,_,_,e,_⟩:=x;exact⟨_,e⟩
 | ins C dx fs=>obtain ⟨_,_,_,e,_⟩:=x;exact⟨_,e⟩
 | own y=>obtain ⟨_,e⟩:=x;exact⟨_,e⟩
 | xd fs=>obtain ⟨_,⟨_,_,_,e,_⟩,_⟩:=x;exact⟨_,e⟩
 | Uw lo hi=>obtain ⟨_,_,_,e⟩:=x;exact⟨_,e⟩
 | y3 ob u=>obtain ⟨e,_⟩:=x;exact⟨_,e⟩
 | J9 ps=>exact⟨_,(show h.get? a=some _ from x)⟩
 | met f y=>exact⟨_,(show h.get? a=some _ from x)⟩
 | ext φ=>obtain ⟨_,⟨_,e⟩,_⟩:=x;exact⟨_,e⟩
theorem eQ.free{P:Program}{w:World}{H:Hp}{h:Heap}{a:Addr}(x:eQ P w H h)(e:h.get? a=none):H a=none:=by
 cases q:H a with
 | none=>rfl
 | some o=>obtain ⟨ob,z⟩:=(x a o q).there;rw [e] at z;cases z
def fJ (mg:Str->Option Value) (C:Addr):Prop:=mg "NoSpan"=some (.ref C)\/mg "TooFar"=some (.ref C)\/mg "NoName"=some (.ref C)\/mg "NoLength"=some (.ref C)
def vK(p:Prop)(vs:Array Value):Prop:=1<vs.size/\(p->vs[2]?=some .none)
theorem vK.set{p:Prop}{vs:Array Value}{v:Value}(h:vK p vs):vK p (vs.setIfInBounds 1 v):=⟨by simpa using h.1,fun q=>by
 have:=h.2 q
 rw [Array.getElem?_setIfInBounds_ne (by decide)]
 exact this⟩
abbrev XC:=Addr×Option Addr
def Exc(mg:Str->Option Value)(h:Heap)(H:Hp)(h0:Heap)(ps:List (Addr×Obj))(a:Addr)(C:XC):Prop:=∃ oe vs T0,h.get? a=some oe/\oe.cls=.ref C.1/\oe.dict=C.2/\oe.data=.fields vs/\vK (fJ mg C.1) vs/\jv h a vs T0/\H a=none/\(h0.get? a=none/\∀ p∈ps,p.1≠a) /\
 ∀ T,T0=some T->H T=none/\h0.get? T=none/\∀ p∈ps,p.1≠T
def Ll(P:Program)(w:World)(mg:Str->Option Value):A4:=fun outer H s E e s'=>∃ a C H',e=.ref a/\s'.os=s.os/\AllBare s'.gens/\Un (j2 outer) [] H H' s.heap s'.heap/\eQ P w H' s'.heap/\Exc mg s'.heap H' s.heap [] a C/\E (.ref C.1) C.2 H'
abbrev lH:=XC->St->Hp->Prop
def XW(X:Cx)(EX:lH):Value->Shared->Prop:=fun e s'=>∃ a C σ' H',e=.ref a/\Inv X.Ei [] σ' H' s'/\Exc X.mg s'.heap H' X.s₀.heap X.pn a C/\EX C σ' H'
theorem bM(o:Obj)(f:Array Value->Array Value):(o.mapFields f).dict=o.dict:=by
 unfold Obj.mapFields;split <;> rfl
theorem HH{P:Program}{w:World}{K:Frag}{mg:Str->Option Value}{base:Heap}{N:List Str}{qual:Str}{scope:Scope}{f:Addr}{cd:Value}{A:Around}{outer:List Env}{s:Shared}{H:Hp}{E:XK}{e:Value}{s':Shared}
  (h:XW (k7 (Ll P w mg) P w K mg base N qual scope f cd A outer s H E) (fun C _ H'=>E (.ref C.1) C.2 H') e s'):(k7 (Ll P w mg) P w K mg base N qual scope f cd A outer s H E).xe e s':=by
 obtain ⟨a,C,σ',H',rfl,I,⟨oe,vs,T0,he,hc,qw,hd,hsz,hh,jl,⟨qz,_⟩,hT⟩,hE⟩:=h
 have jh:s.heap.get? a=none:=qz
 have pk:∀ T,T0=some T->H' T=none/\s.heap.get? T=none:=fun T z=>⟨(hT T z).1,(hT T z).2.1⟩
 show wpAny (model P w) (A.deeper (envOfC qual scope s.heap.objs.size f cd)) (leaving (envOfC qual scope s.heap.objs.size f cd) (.ref a)) _ _ s'
 unfold leaving
 refine aac (nQ (L:=s.heap.objs.size) I.ok.frames I.stack rfl he hd hh fun h' T k1 k2 k3 k4 k5 k6=>?_)
 have ne:∀ b o,s.heap.get? b=some o->b≠a/\some b≠T0/\b≠s.heap.objs.size:=fun b o q=>⟨fun z=>(by rw [z,jh] at q;cases q),fun z=>(by rw [(pk b z.symm).2] at q;cases q),aaU (aae q)⟩
 have ZN:∀ b o,s.heap.get? b=some o->b∉j2 outer->b∉j2 (envOfC qual scope s.heap.objs.size f cd::outer):=fun b o q hb z=>by
  rcases aaG.mp (I.gT b z) with r|r
  ·exact (ne b o q).2.2 r
  ·exact hb r
 have off:Off (a::(T0.toList++j2 (envOfC qual scope s.heap.objs.size f cd::outer))) s'.heap h':=fun b o hb q=>by
  simp only [aaG,aaB,not_or] at hb
  exact k1 b o hb.1 (fun z=>hb.2.1 (by rw [<- z];simp)) hb.2.2 q
 refine⟨a,C,H',rfl,I.os,I.bare,⟨fun b o q n hb hx=>?_,fun b o q n hb hx=>?_,fun b o q n hx=>I.base.free b o q n hx,fun b o q hx=>?_,I.base.jn,I.base.je,I.base.jo⟩,I.aR.off (fun b hb=>?_) off,?_,hE⟩
 ·exact k1 b o (ne b o q).1 (ne b o q).2.1 (ZN b o q hb) (I.base.keep b o q n hb hx)
 ·obtain ⟨sl,q1⟩:=I.base.slot b o q n hb hx
  obtain ⟨A3,q2⟩:=k2 b _ (ne b o q).1 (ne b o q).2.1 q1
  exact⟨A3,q2⟩
 ·obtain ⟨o',q1⟩:=I.base.there b o q hx
  obtain ⟨A3,q2⟩:=k2 b _ (ne b o q).1 (ne b o q).2.1 q1
  exact⟨_,q2⟩
 ·simp only [aaG,aaB] at hb
  rcases hb with rfl|hb|hb
  ·exact jl
  ·cases T0 with
   | none=>simp at hb
   | some T1 =>
    simp only [Option.toList_some,aaA] at hb
    rw [hb];exact (pk T1 rfl).1
  ·exact I.eh b hb
 ·refine⟨_,_,some T,k5,(Obj.cls_mapFields _ _).trans hc,(bM _ _).trans qw,Obj.data_mapFields hd _,hsz.set,⟨by simp [hsz.1],k4,k6⟩,jl,⟨jh,fun _ z=>nomatch z⟩,fun T' e=>?_⟩
  cases e
  refine⟨I.aR.free k3,?_,fun _ z=>nomatch z⟩
  cases q:s.heap.get? T with
  | none=>rfl
  | some o =>
   obtain ⟨o',q1⟩:=I.base.there T o q (by show T∉([]:List Addr);simp)
   rw [k3] at q1;cases q1
def rU(P:Program)(w:World)(K:Frag)(mg:Str->Option Value)(base:Heap)(k:Nat)(x:Str)(ps:List Str)(sp:Sp):Prop :=
 ∃ f fd,rf P w K mg base (Ll P w mg) k f fd ps sp/\mg x=some (.ref f)/\PySem.W.keepIn K (.ref f)=true/\Binds K fd ps []
theorem nv.xe{X:Cx}{E:Value->Shared->Prop}{st:List Stmt}{t:TS}(h:nv (X.dQ E) st t)(k:∀ e s,E e s->X.xe e s):nv X st t:=fun pins s σ H D I hw =>
 aav (h pins s σ H D (I.dQ _) hw) (fun _ _ z=>z.cc) k
section
variable {P:Program}{w:World}{K:Frag}{mg:Str->Option Value}{base:Heap}
theorem Def.UJ{x:Str}{st:Stmt}{N ps:List Str}{k:Nat}{sp:Sp}(D:Def K mg x st ps)(S:aE N ps (aq st))(len:∀ vs H Q E,sp vs H Q E->vs.length=ps.length)
  (iq:∀ (f:Addr) (bU:Value) (A:Around) (outer:List Env) (s:Shared) (H:Hp) (vs:List V) (Q:VK) (E:XK),de k (A.deeper (envOfC x (aq st) s.heap.objs.size f bU))->sp vs H Q E ->
   ∃ t,nv ((k7 (Ll P w mg) P w K mg base N x (aq st) f bU A outer s H E).dQ (XW (k7 (Ll P w mg) P w K mg base N x (aq st) f bU A outer s H E) fun C _ H'=>E (.ref C.1) C.2 H')) (cx st) t/\t { nx:=fun _ H'=>Q .dt H',rt:=Q } (start N vs) H):rU P w K mg base (k+1) x ps sp:=by
 obtain ⟨f,fd,F,hm,hb⟩:=D
 obtain ⟨oc,od,kV,doc,pm,an,bU,ct,Es,rfl,lk,ny⟩:=F.ex
 refine⟨f,_,GB lk ny S len fun A outer s H vs Q E hr tq=>?_,hm,F.kp,hb⟩
 obtain ⟨t,h,q⟩:=iq f bU A outer s H vs Q E hr tq
 exact⟨t,h.xe fun e s z=>HH z,q⟩
end
def Bx(sp:Sp)(EX:lH)(t:TA):TE:=fun σ H Q=>t σ H fun vs H1=>sp vs H1 Q fun C d H2=>∃ c,C=.ref c/\EX (c,d) σ H2
section
variable {X:Cx}{EX:lH}{k:Nat}{x:Str}{ps:List Str}{sp:Sp}{p pos:Pos}{e:Expr}{es:List Expr}{t:TA}
theorem jw(O:rU X.prog X.w X.K X.mg X.base k x ps sp)(hr:de k X.A)(hX:∀ e s',XW X EX e s'->X.xe e s')(hex:X.ex=[])(ha:PA X (e::es) t)(hg:Gl X x:=by rfl)
  (me:(x == ("__debug__":Str))=false:=by decide) (he:starEach (e::es) X.env=(false,eval e X.env)::starEach es X.env:=by rfl) (jt:(backTo pos (starEach es X.env)).any (·.1)=false:=by rfl) :
  PE X (.Call (.Name x p) (e::es) [] pos) (Bx sp EX t):=by
 obtain ⟨f,fd,F,hm,hk,hb⟩:=O
 intro pins s σ H Q I h
 refine wpAny_Call_Name_kw (dk I hg hm ?_ me)
 refine callWith_K (h₀:=X.base) I.ok.mod.F6 hk (bS (ha pos pins s σ H _ I h) fun us s1 ⟨vs,H1,I1,r,q⟩=>⟨I1.iA,?_⟩) he jt
 have r2:Vals (vs++[]) (us++[]):=r.append .nil
 have hl:(us++[]).length=ps.length:=by rw [<- r2.length,append_nil];exact F.len _ _ _ _ q
 rw [append_nil] at r2
 refine wpAny_call (codeAny_mono (F.run X.A X.stack s1 H1 ⟨us,[]⟩ (us++[]) vs Q _ hr I1.KL (hb s1 us I1.iA hl) r2 q) fun r s' hq=>?_)
 cases r with
 | error e =>
  obtain ⟨a,C,H',rfl,ho,VO,un,aR,⟨oe,VP,T0,e1,e2,e3,e4,e5,e6,e7,e8,e9⟩,c,ec,hE⟩:=hq
  cases ec
  have I2:Inv X pins σ H' s':=I1.qX (ch:=[]) ho un aR VO fun b z=>absurd z (by simp)
  have nw:∀ b,s1.heap.get? b=none->X.s₀.heap.get? b=none:=fun b z=>by
   cases q:X.s₀.heap.get? b with
   | none=>rfl
   | some o =>
    obtain ⟨o',q1⟩:=I1.base.there b o q (by rw [hex];simp)
    rw [z] at q1;cases q1
  have np:∀ b,s1.heap.get? b=none->∀ p∈X.pn,p.1≠b:=fun b z p hp q=>by
   have:=(I1.pin p (aaz _ hp)).1
   rw [q,z] at this;cases this
  exact hX _ _ ⟨a,C,σ,H',rfl,(I2.ei fun p hp=>absurd hp (by simp)).dQ _,⟨oe,VP,T0,e1,e2,e3,e4,e5,e6,e7,⟨nw a e8.1,fun p hp=>np a e8.1 p hp⟩,fun T z=>⟨(e9 T z).1,nw T (e9 T z).2.1,fun p hp=>np T (e9 T z).2.1 p hp⟩⟩,hE⟩
 | ok fl =>
  cases fl with
  | ret u=>exact I1.after hq
  | next=>exact False.elim hq
  | brk=>exact False.elim hq
  | cont=>exact False.elim hq
end
end L2
namespace L2
open PySem PySem.Spec PyProof.Rows PySem.W
section
variable {X:Cx}{pins:List (Addr×Obj)}{σ:List (Option V)}{H H':Hp}{s:Shared}{h':Heap}
theorem Inv.iu{t':Nat}{ch:List Addr}(I:Inv X pins σ H s)
  (y0:∀ b∈ch,X.s₀.heap.get? b=none/\b≠X.env.locals/\(∀ x c,X.env.cells.lookup x=some c->c≠b)/\∀ p∈X.pn++pins,p.1≠b)
  (keep:∀ b o,b≠X.env.locals->b∉X.fs->b∉ch->s.heap.get? b=some o->H b=none->h'.get? b=some o)
  (slot:∀ b o,b≠X.env.locals->b∈X.fs->b∉ch->s.heap.get? b=some o->H b=none->∃ sl,h'.get? b=some { o with slots:=sl }) (free:∀ b o,b∉ch->s.heap.get? b=some o->H b=none->H' b=none)
  (there:∀ b o,b∉ch->s.heap.get? b=some o->∃ o',h'.get? b=some o')
  (jn:∀ b xs,H b=some (.tup xs)->H' b=some (.tup xs)) (je:∀ b o u,H b=some (.y3 o u)->H' b=some (.y3 o u)) (jo:∀ b ps,H b=some (.J9 ps)->∃ more,H' b=some (.J9 (ps++more)))
  (ns:∀ m,s.heap.Ns X.env.locals m->h'.Ns X.env.locals m) (aR:eQ X.prog X.w H' h') :
  Inv X pins σ H' { s with heap:=h',toks:=t' }:=by
 have Kv:∀ b o,X.s₀.heap.get? b=some o->b≠X.env.locals:=fun b o e=>aaU (Nat.lt_of_lt_of_le (aae e) I.ok.above)
 have Kw:∀ b o,X.s₀.heap.get? b=some o->b∉ch:=fun b o e hb=>by rw [(y0 b hb).1] at e;cases e
 have cellK:∀ x c,X.env.cells.lookup x=some c->∀ v,s.heap.IsCell c v->h'.IsCell c v:=fun x c e v ⟨o,ho,hd⟩=>by
  have Gm:c∉ch:=fun z=>(y0 c z).2.2.1 x c e rfl
  by_cases hc:c∈X.fs
  ·obtain ⟨sl,q⟩:=slot c o (I.Eg x c e) hc Gm ho (I.d0 x c e)
   exact⟨_,q,hd⟩
  ·exact⟨o,keep c o (I.Eg x c e) hc Gm ho (I.d0 x c e),hd⟩
 refine⟨I.ok,I.os,I.bare,⟨fun b o e n hb hx=>?_,fun b o e n hb hx=>?_,fun b o e n hx=>?_,fun b o e hx=>?_,fun b xs e=>jn b xs (I.base.jn b xs e),fun b o xs e=>je b o xs (I.base.je b o xs e),fun b ps e=>?_⟩,?_,fun x c e=>?_,?_,fun x c e=>?_,fun p hp=>?_,aR,I.len⟩
 ·exact keep b o (Kv b o e) hb (Kw b o e) (I.base.keep b o e n hb hx) (I.base.free b o e n hx)
 ·obtain ⟨sl,e1⟩:=I.base.slot b o e n hb hx
  obtain ⟨A3,e2⟩:=slot b _ (Kv b o e) hb (Kw b o e) e1 (I.base.free b o e n hx)
  exact⟨A3,e2⟩
 ·obtain ⟨o',e1⟩:=I.base.there b o e hx
  exact free b o' (Kw b o e) e1 (I.base.free b o e n hx)
 ·obtain ⟨o',e1⟩:=I.base.there b o e hx
  exact there b o' (Kw b o e) e1
 ·obtain ⟨m1,e1⟩:=I.base.jo b ps e
  obtain ⟨m2,e2⟩:=jo b _ e1
  exact⟨m1++m2,by rw [e2,Array.append_assoc]⟩
 ·obtain ⟨m,hn,hl⟩:=I.loc
  refine⟨m,ns m hn,fun i x v e1 e2 e3=>?_⟩
  obtain ⟨u,r,l⟩:=hl i x v e1 e2 e3
  refine⟨u,r,?_⟩
  rcases l with l|⟨k,c,e,z⟩
  ·exact .inl l
  ·exact .inr ⟨k,c,e,cellK x c e _ z⟩
 ·obtain ⟨v,z⟩:=I.cell x c e
  exact⟨v,cellK x c e v z⟩
 ·obtain ⟨m,⟨o,_,_,ho,_⟩,_⟩:=I.loc
  exact free _ o (fun z=>(y0 _ z).2.1 rfl) ho I.free
 ·obtain ⟨v,o,ho,hd⟩:=I.cell x c e
  exact free c o (fun z=>(y0 c z).2.2.1 x c e rfl) ho (I.d0 x c e)
 ·obtain ⟨e,n,ne,nf,d⟩:=I.pin p hp
  have Gm:p.1∉ch:=fun z=>(y0 p.1 z).2.2.2 p hp rfl
  exact⟨keep p.1 p.2 ne nf Gm e n,free p.1 p.2 Gm e n,ne,nf,d⟩
theorem Inv.gd{a:Addr}{oe:Obj}{vs:Array Value}(I:Inv X pins σ H s)(he:s.heap.get? a=some oe)(hd:oe.data=.fields vs):a≠X.env.locals/\(∀ x c,X.env.cells.lookup x=some c->c≠a)/\a∉X.fs:=by
 refine⟨fun z=>?_,fun x c e z=>?_,fun z=>?_⟩
 ·obtain ⟨m,⟨o,_,_,ho,VQ,_⟩,_⟩:=I.loc
  rw [z,ho] at he;cases he;rw [VQ] at hd;cases hd
 ·obtain ⟨v,o,ho,VQ⟩:=I.cell x c e
  rw [z,he] at ho;cases ho;rw [VQ] at hd;cases hd
 ·obtain ⟨_,o,ho,Bw⟩:=I.iC.mem z
  rw [he] at ho;cases ho;exact Bw vs hd
end
theorem DB{K:Frag}{h:Heap}{C:Addr}{qB:List Value}{newId:String}(X:K.In h)(q:excIn K C qB newId=true) :
  ∃ bm N nm q bs hdct sn sub ab col dd k0 k1 k2 k3 k5 mN,h.get? C=some (excClassObj nm q C N bs bm hdct sn sub ab col dd k0 k1 k2 k3 k5 newId)/\h.Ns N mN/\mN "__init__"=none/\OwnTail h qB bm:=by
 unfold excIn at q
 split at q
 ·rename_i dd cd sl ho
  split at q
  ·rename_i C' bm k0 k1 k2 k3 n k5 hm hs
   simp only [Bool.and_eq_true,beq_iff_eq,Bool.not_eq_true'] at q
   obtain ⟨⟨⟨⟨⟨rfl,rfl⟩,HI⟩,ht⟩,aR⟩,DC⟩:=q
   obtain ⟨nm,bs,mro,ns,qn,hd,sn,sub,ab,col,del⟩:=cd
   dsimp only at hm HI aR DC
   subst hm HI
   have SN:sl=#[k0,k1,k2,k3,some (.builtin n),k5]:=by
    obtain ⟨l⟩:=sl
    simp only at hs
    rw [hs]
   subst SN
   exact⟨bm,ns,nm,qn,bs,hd,sn,sub,ab,col,dd,k0,k1,k2,k3,k5,_,X _ _ ho,.of_isNs (isNs_of_in X aR),nsMap_none_of_in X aR DC,tail_of_in X ht⟩
  ·cases q
 ·cases q
section
variable {X:Cx}{EX:lH}
def HJ(EX:lH)(C:Addr)(ta:TA):TS:=fun _ σ H=>ta σ H fun vs H1=>vs.length<=1000/\EX (C,none) σ H1
theorem fk{x:Str}{np ba pos:Pos}{e0:Expr}{rest:List Expr}{C:Addr}{B Bn newId wU cO wV:String}{bm wW:List Value}{ta:TA}(q:excIn X.K C bm newId=true)(Fn:ExcBaseFacts Bn newId wV wW)(tj:bm.contains (.type Bn)=true)
  (FB:ExcBaseFacts B wU cO bm) (hc:X.calm=true) (hX:∀ e s',XW X EX e s'->X.xe e s') (hex:X.ex=[]) (hg:Gl X x) (hm:X.mg x=some (.ref C)) (ha:PA X (e0::rest) ta)
  (he:starEach (e0::rest) X.env=(false,eval e0 X.env)::starEach rest X.env:=by rfl) (jt:(backTo ba (starEach rest X.env)).any (·.1)=false:=by rfl) (me:(x == ("__debug__":Str))=false:=by decide) :
  PS X (.Raise (some (.Call (.Name x np) (e0::rest) [] ba)) none pos) (HJ EX C ta):=by
 intro pins s σ H D I h
 obtain ⟨OQ,N,nm,qn,bs,hdct,sn,sub,ab,col,dd,k0,k1,k2,k3,k5,mN,hC,hN,DC,T⟩:=DB I.ok.mod.F6 q
 refine wpAny_Raise_call_subU (C:=C) (nm:=nm) (q:=qn) (N:=N) (bs:=bs) (bm:=OQ) (hdct:=hdct) (sn:=sn) (sub:=sub) (ab:=ab) (col:=col) (dd:=dd) (k0:=k0) (k1:=k1) (k2:=k2) (k3:=k3) (k5:=k5)
  Fn tj FB (mN:=mN) (T.hasType FB.hasBase) (I.ok.hd hc) (by rw [he];show (false || (backTo ba (starEach rest X.env)).any (·.1))=false;rw [jt];rfl) DC (dk I hg hm ⟨rfl,?_⟩ me)
 have hh:=ha ba pins s σ H _ I h
 rw [he] at hh ⊢
 refine Calls.evalArgs_plain (aav hh (fun us s2 z=>?_) fun _ _ y=>y)
 obtain ⟨vs,H1,I1,r,hl,hE⟩:=z
 refine⟨rfl,by rw [<- r.length];exact aaj (bW hl),I1.bk _ _ hC,hN.keeps I1.bk,T.keeps I1.bk,fun h' e iI=>hX _ _ ?_⟩
 obtain ⟨t,het,ZO,ZP⟩:=iI.there
 have nw:X.s₀.heap.get? e=none:=by
  cases q:X.s₀.heap.get? e with
  | none=>rfl
  | some o =>
   obtain ⟨o',q1⟩:=I1.base.there e o q (by rw [hex];simp)
   rw [iI.new] at q1;cases q1
 have np:∀ p∈X.pn,p.1≠e:=fun p hp z=>by
  have:=(I1.pin p (aaz _ hp)).1
  rw [z,iI.new] at this;cases this
 exact⟨e,(C,none),σ,H1,rfl,((I1.kept (t':=s2.toks) iI.keeps).ei fun p hp=>absurd hp (by simp)).dQ _,⟨_,_,none,het,rfl,rfl,rfl,⟨by simp,fun _=>rfl⟩,rfl,I1.aR.free iI.new,⟨nw,np⟩,fun T z=>nomatch z⟩,hE⟩
end
end L2
namespace L2
open PySem PySem.Spec PyProof.Rows PySem.W
structure d6(K:Frag)(D:Addr):Prop where
 ty:typeIn K (.ref D)=some (.type "type")
 cl:(clsIn K D).isSome=true
 be:subIn K (.ref D) (.type "BaseException")=some true
theorem jx{K:Frag}{M:Model}{A:Around}{E:Value->Shared->Prop}{s:Shared}{a C D:Addr}{oe:Obj}{b:Bool}{Q:Bool->Shared->Prop}(V:d6 K D)(X:K.In s.heap)(he:s.heap.get? a=some oe)(hc:oe.cls=.ref C)
  (EE:subIn K (.ref C) (.ref D)=some b) (h:Q b s):wpAny M A (excMatches (.ref a) (.ref D)) Q E s:=by
 obtain ⟨hh,g,d,t,os⟩:=s
 have L1:=looks_typeIn (M:=M) X V.ty
 have L2:Looks M hh (typeOf (.ref a)) (.ref C):=hc ▸ (Looks.ld he).andThen .now
 have L3:=looks_subIn (M:=M) X V.be
 have L4:=looks_subIn (M:=M) X EE
 have L5:Looks M hh (isType (.ref D)) true:=by
  obtain ⟨cd,ny⟩:=aat.mp V.cl
  unfold clsIn at ny
  split at ny
  ·rename_i c' d' VM A3 ho
   intro A' Q' E' s' k q
   unfold isType loadHead
   exact aac (wpAny_loadPart (k _ _ (X _ _ ho)) (aau q))
  ·cases ny
 have f:=tc_notTuple
 unfold excMatches isInstance isExcClass
 refine aac ?_
 refine aac (L1.at (wpAny_of_eq f ?_))
 simp only [Bool.false_eq_true,if_false]
 refine aac (aau ?_)
 simp only [forIn_cons,forIn_nil]
 refine aac (aac (aac (aac (L5.at ?_))))
 simp only [if_true]
 refine L3.at ?_
 simp only [Bool.not_true,Bool.false_eq_true,if_false]
 refine aau (aau ?_)
 refine aac (L2.at ?_)
 refine aac (aac (aac (L4.at ?_)))
 cases b with
 | true =>
  simp only [if_true]
  exact aau (aau (aau h))
 | false =>
  simp only [Bool.false_eq_true,if_false]
  exact aau (aau (aau h))
end L2
namespace L2
open PySem PySem.Spec PyProof.Rows PySem.W
abbrev qC(X:Cx)(pins:List (Addr×Obj)):Cx:={ X with pn:=X.pn++pins }
abbrev ji(X:Cx)(a:Addr):Cx:={ X with A:=X.A.mark (some (.ref a)),calm:=false,xe:=fun _ _=>False }
section
variable {X:Cx}{pins:List (Addr×Obj)}{σ:St}{H:Hp}{s:Shared}
theorem Inv.SO(I:Inv X pins σ H s):Inv (qC X pins) [] σ H s :=
 ⟨⟨I.ok.mod,I.ok.kind,I.ok.glob,I.ok.blt,I.ok.above,I.ok.inj,I.ok.has,I.ok.Ka,I.ok.hd,I.ok.frames,I.ok.Ku,I.ok.NC,I.ok.bs,I.ok.wb,I.ok.qp,I.ok.wc,I.ok.iC,I.ok.Ef⟩,I.os,I.bare,I.base,I.loc,I.cell,I.free,I.d0,fun p hp=>I.pin p (by simpa using hp),I.aR,I.len⟩
theorem Inv.tG(I:Inv (qC X pins) [] σ H s):Inv X pins σ H s :=
 ⟨⟨I.ok.mod,I.ok.kind,I.ok.glob,I.ok.blt,I.ok.above,I.ok.inj,I.ok.has,I.ok.Ka,I.ok.hd,I.ok.frames,I.ok.Ku,I.ok.NC,I.ok.bs,I.ok.wb,I.ok.qp,I.ok.wc,I.ok.iC,I.ok.Ef⟩,I.os,I.bare,I.base,I.loc,I.cell,I.free,I.d0,fun p hp=>I.pin p (by simpa using hp),I.aR,I.len⟩
theorem Inv.qD(I:Inv X pins σ H s)(a:Addr):Inv (ji X a) pins σ H s :=
 ⟨⟨I.ok.mod,I.ok.kind,I.ok.glob,I.ok.blt,I.ok.above,I.ok.inj,I.ok.has,I.ok.Ka,(fun z=>nomatch z),I.ok.frames,I.ok.Ku,I.ok.NC,I.ok.bs,I.ok.wb,I.ok.qp,I.ok.wc,I.ok.iC,I.ok.Ef⟩,I.os,I.bare,I.base,I.loc,I.cell,I.free,I.d0,I.pin,I.aR,I.len⟩
theorem Inv.rV{a:Addr}(ZQ:X.calm=true->X.A.handled=none)(I:Inv (ji X a) pins σ H s):Inv X pins σ H s :=
 ⟨⟨I.ok.mod,I.ok.kind,I.ok.glob,I.ok.blt,I.ok.above,I.ok.inj,I.ok.has,I.ok.Ka,ZQ,I.ok.frames,I.ok.Ku,I.ok.NC,I.ok.bs,I.ok.wb,I.ok.qp,I.ok.wc,I.ok.iC,I.ok.Ef⟩,I.os,I.bare,I.base,I.loc,I.cell,I.free,I.d0,I.pin,I.aR,I.len⟩
theorem Inv.SQ{a C:Addr}{d:Option Addr}{oe:Obj}{vs:Array Value}{t':Nat}(I:Inv X pins σ H s)(he:s.heap.get? a=some oe)(hc:oe.cls=.ref C)(qw:oe.dict=d)(hd:oe.data=.fields vs)(hH:H a=none)(h0:X.s₀.heap.get? a=none)(hp:∀ p∈X.pn++pins,p.1≠a) :
  Inv X pins σ (upd H a (fj a C d)) { s with toks:=t' }:=by
 obtain ⟨n1,n2,n3⟩:=I.gd he hd
 refine I.iu (h':=s.heap) (ch:=[a]) (fun b hb=>?_) (fun b o _ _ _ e _=>e) (fun b o _ _ _ e _=>⟨o.slots,e⟩) (fun b o hb e n=>?_) (fun b o _ e=>⟨o,e⟩) (fun b xs e=>?_) (fun b o u e=>?_) (fun b ps e=>⟨#[],?_⟩) (fun m hm=>hm) ?_
 ·obtain rfl:b=a:=by simpa using hb
  exact⟨h0,n1,n2,hp⟩
 ·rw [ar (by simpa using hb)];exact n
 ·rw [ar (aN e hH)];exact e
 ·rw [ar (aN e hH)];exact e
 ·rw [ar (aN e hH)];simpa using e
 ·intro b o e
  by_cases hb:b=a
  ·subst hb
   rw [ao] at e
   cases e
   refine⟨⟨oe,he,hc,by unfold notCls;rw [hd],qw⟩,⟨oe,he⟩,fun h1 h2 z k=>?_⟩
   obtain ⟨ox,z1,z2⟩:=z
   exact⟨ox,k _ z1,z2⟩
  ·rw [ar hb] at e
   exact (I.aR b o e).l8 (fun _ _ _ q=>q) (fun c q=>by rw [ar (aN q hH)];exact q) fun c xs q=>by rw [ar (aN q hH)];exact q
theorem Inv.Lm{i:Nat}{x:Str}{h':Heap}{m:Str->Option Value}{v:Option Value}{t':Nat}(I:Inv X pins σ H s)(hN:X.N.Nodup)(hi:X.N[i]?=some x)(hm:s.heap.Ns X.env.locals m)(Qt:h'.Ns X.env.locals (fun y=>if y=x then v else m y))(hs:Heap.SameBut X.env.locals s.heap h') :
  Inv X pins (σ.set i none) H { s with heap:=h',toks:=t' }:=by
 obtain ⟨m2,hn,hl⟩:=id I.loc
 obtain ⟨oL,es,ep,X2,rL⟩:=id hn
 have em:m2=m:=by
  obtain ⟨o1,es1,ep1,ZR,ZS,_,ZT⟩:=hn
  obtain ⟨o2,es2,ep2,Bf,hd2,_,ZU⟩:=hm
  rw [ZR] at Bf;cases Bf;rw [ZS] at hd2;cases hd2
  funext y
  rw [<- ZT,<- ZU]
 subst em
 have Uz:i<σ.length:=by rw [I.len];exact (aad.mp hi).1
 have Eg:=I.Eg
 refine⟨I.ok,I.os,I.bare,⟨fun b o e n hb hx=>?_,fun b o e n hb hx=>?_,I.base.free,fun b o e hx=>?_,I.base.jn,I.base.je,I.base.jo⟩,⟨_,Qt,fun j y v' e1 e2 e3=>?_⟩,fun y c e=>?_,I.free,I.d0,fun p hp=>?_,?_,by simpa using I.len⟩
 ·exact (hs.2 b (aaU (Nat.lt_of_lt_of_le (aae e) I.ok.above))).trans (I.base.keep b o e n hb hx)
 ·obtain ⟨sl,e1⟩:=I.base.slot b o e n hb hx
  exact⟨sl,(hs.2 b (aaU (Nat.lt_of_lt_of_le (aae e) I.ok.above))).trans e1⟩
 ·obtain ⟨o',e1⟩:=I.base.there b o e hx
  exact⟨o',(hs.2 b (aaU (Nat.lt_of_lt_of_le (aae e) I.ok.above))).trans e1⟩
 ·by_cases hj:j=i
  ·subst hj
   rw [List.getElem?_set_self Uz] at e2
   cases e2
  ·rw [List.getElem?_set_ne (Ne.symm hj)] at e2
   obtain ⟨u',r',q⟩:=hl j y v' e1 e2 e3
   refine⟨u',r',?_⟩
   rcases q with ⟨k,e⟩|⟨k,c,e,z⟩
   ·refine .inl ⟨k,?_⟩
    have:y≠x:=fun e=>hj (qV hN e1 (e ▸ hi))
    simp [this,e]
   ·exact .inr ⟨k,c,e,z.sameBut hs (Eg y c e)⟩
 ·obtain ⟨w',z⟩:=I.cell y c e
  exact⟨w',z.sameBut hs (Eg y c e)⟩
 ·obtain ⟨e,n,ne,nf,d⟩:=I.pin p hp
  exact⟨(hs.2 p.1 ne).trans e,n,ne,nf,d⟩
 ·intro b ob e
  refine (I.aR b ob e).l8 (fun c w' hc q=>(hs.2 c ?_).trans q) (fun _ q=>q) fun _ _ q=>q
  rintro rfl
  rcases hc with rfl|hc
  ·rw [I.free] at e;cases e
  ·rw [I.free] at hc;cases hc
end
end L2
namespace L2
open PySem PySem.Spec PyProof.Rows PySem.W
def HK(K:Frag):List V->Hp->VK->Prop:=fun xs H Q=>∃ a C d c b,xs=[.ref a,c]/\H a=some (fj a C d)/\rR H d/\fR K C /\
 ((∃ n,c=.ty n/\kitOne K (.ref C) (.type n)=some b)\/(∃ D,c=.ref D/\kitOne K (.ref C) (.ref D)=some b)\/∃ (tp:Addr) (Ds:List Addr),c=.ref tp/\bh K H tp (Ds.map V.ref)/\kitAny K (.ref C) (Ds.map Value.ref)=some b)/\Q (.bl b) H
theorem vL:∀ {Ds:List Addr} {us:List Value},Vals (Ds.map V.ref) us->us=Ds.map Value.ref
 | [],_,.nil=>rfl
 | _::_,_,.cons r t=>by
  have e:=vL t
  cases r
  rw [e];rfl
section
variable {X:Cx}
theorem HL{pins:List (Addr×Obj)}{s:Shared}{σ:St}{H:Hp}{a C:Addr}{d:Option Addr}(I:Inv X pins σ H s)(hH:H a=some (fj a C d))(Gf:rR H d)(V:fR X.K C) :
  ∃ ox od,PySem.W.InstAt s.heap a ox C od/\findObj X.K C od "__class__"=some (.bind (.builtin "getset_descriptor.__get__") (.builtin "object.__class__")):=by
 obtain ⟨⟨ox,h1,h2,h3,h4⟩,_⟩:=I.aR a _ hH
 cases d with
 | none=>exact⟨ox,none,⟨h1,h2,h3,by rw [h4];trivial⟩,V.fc⟩
 | some dx =>
  obtain ⟨fs,e,l⟩:=Gf dx rfl
  obtain ⟨mA,n,r⟩:=I.aR dx _ e
  obtain ⟨od,ho,hl⟩:=kb n
  have hn:mA "__class__"=none:=ik.none_of (by rw [<- l];exact r _)
  exact⟨ox,some od,⟨h1,h2,h3,by rw [h4];exact ho⟩,HF V.fc (by rw [hl,hn])⟩
theorem HM:cq X (.builtin "isinstance") (HK X.K):=by
 intro pins s σ H xs us Q I r h
 obtain ⟨a,C,d,c,b,rfl,hH,Gf,V,ty,q⟩:=h
 obtain ⟨u,c',rfl,ru,rc⟩:=vals2 r
 obtain rfl:u=Value.ref a:=ru
 have fin:∀ tk,EP X pins σ Q (.bool b) { s with toks:=tk }:=fun tk=>⟨.bl b,H,I.tok tk,rfl,q⟩
 have hx:=HL I hH Gf V
 rcases ty with ⟨n,rfl,e⟩|⟨D,rfl,e⟩|⟨tp,Ds,rfl,hs,e⟩
 ·obtain rfl:c'=Value.type n:=rc
  exact kia_one (rQ V) I.iA hx e (fun z=>nomatch z) fin
 ·obtain rfl:c'=Value.ref D:=rc
  exact kia_one (rQ V) I.iA hx e (fun z=>nomatch z) fin
 ·obtain rfl:c'=Value.ref tp:=rc
  obtain ⟨its,rv,p,_⟩:=I.tuple hs
  obtain ⟨⟨oc,od,da,sl⟩,h1,h2,n,h3⟩:=p
  dsimp only at h2 h3
  subst h2 h3
  rw [vL rv] at h1
  exact kia_tup (rQ V) I.iA hx h1 e (fun z=>nomatch z) fin
theorem nR (K:Frag) (hK:X.K=K):cq X (.builtin "isinstance") (HK K):=hK ▸ HM
variable {K:Frag}{H:Hp}{Q:VK}
end
section
variable {K:Frag}{H:Hp}{Q:VK}
theorem HN{a C:Addr}{d:Option Addr}{n:String}{b:Bool}(W:fR K C)(e:H a=some (fj a C d))(x:rR H d)(k:kitOne K (.ref C) (.type n)=some b)(h:Q (.bl b) H):HK K [.ref a,.ty n] H Q:=⟨a,C,d,_,b,rfl,e,x,W,.inl ⟨n,rfl,k⟩,h⟩
theorem OR{a C D:Addr}{d:Option Addr}{b:Bool}(W:fR K C)(e:H a=some (fj a C d))(x:rR H d)(k:kitOne K (.ref C) (.ref D)=some b)(h:Q (.bl b) H):HK K [.ref a,.ref D] H Q:=⟨a,C,d,_,b,rfl,e,x,W,.inr (.inl ⟨D,rfl,k⟩),h⟩
theorem By{a C tp:Addr}{d:Option Addr}{Ds:List Addr}{b:Bool}(W:fR K C)(e:H a=some (fj a C d))(x:rR H d)(hs:bh K H tp (Ds.map V.ref))(k:kitAny K (.ref C) (Ds.map Value.ref)=some b)(h:Q (.bl b) H):HK K [.ref a,.ref tp] H Q:=⟨a,C,d,_,b,rfl,e,x,W,.inr (.inr ⟨tp,Ds,rfl,hs,k⟩),h⟩
end
section
variable {K:Frag}{D:Ends}{σ:St}{H:Hp}{Q:VK}{EX:lH}
theorem Ln{sp:Sp}{ts:TA}(h:ts σ H fun vs H1=>sp vs H1 Q fun C d H2=>∃ c,C=.ref c/\EX (c,d) σ H2):Bx sp EX ts σ H Q:=h
theorem Lo{C:Addr}{ts:TA}(h:ts σ H fun vs H1=>vs.length<=1000/\EX (C,none) σ H1):HJ EX C ts D σ H:=h
end
end L2
namespace L2
open PySem PySem.Spec PyProof.Rows PySem.W
section
variable {K:Frag}{C D:Addr}{cd:ClassData}
theorem fR.mk' (q1:findIn K (.ref C) "__getattribute__"=some (some (.builtin "BaseException.__getattribute__"))) (q2:findIn K (.ref C) "__getattr__"=some none) (q3:clsIn K C=some cd)
  (q4:findIn K (.ref C) "__class__"=some (some (.builtin "object.__class__"))) (q5:specialIn K (.builtin "object.__class__") "__get__"=some (some (.builtin "getset_descriptor.__get__"))) (q6:takesIn K (.builtin "object.__class__")=some true)
  (q7:mroIn K C (.type "object")=some true) (q8:subIn K (.ref C) (.type "BaseException")=some true):fR K C :=
 ⟨q1,q2,by unfold findObj;rw [q3,Option.bind_some,q4,Option.bind_some];simp [q5,q6],q7,q8,by rw [q3];rfl⟩
theorem d6.mk' (q1:typeIn K (.ref D)=some (.type "type")) (q2:clsIn K D=some cd) (q3:subIn K (.ref D) (.type "BaseException")=some true):d6 K D:=⟨q1,by rw [q2];rfl,q3⟩
theorem Lp(V:d6 K D)(h:subIn K (.ref C) (.ref D)=some true):kitOne K (.ref C) (.ref D)=some true:=by
 unfold kitOne
 split
 ·rfl
 ·show (if ((clsIn K D).isSome && typeIn K (.ref D) == some (.type "type"))=true then subIn K (.ref C) (.ref D) else none)=_
  rw [V.ty,V.cl]
  simp only [beq_self_eq_true,Bool.and_self,if_true]
  exact h
theorem eC(V:d6 K D)(n:C≠D)(h:subIn K (.ref C) (.ref D)=some false):kitOne K (.ref C) (.ref D)=some false:=by
 unfold kitOne
 rw [if_neg (fun z=>n (Value.ref.inj (beq_iff_eq.mp z)))]
 show (if ((clsIn K D).isSome && typeIn K (.ref D) == some (.type "type"))=true then subIn K (.ref C) (.ref D) else none)=_
 rw [V.ty,V.cl]
 simp only [beq_self_eq_true,Bool.and_self,if_true]
 exact h
theorem HP{n:String}{b:Bool}(m:kitMeta n=true)(h:subIn K (.ref C) (.type n)=some b):kitOne K (.ref C) (.type n)=some b:=by
 unfold kitOne
 rw [if_neg (fun z=>by cases beq_iff_eq.mp z)]
 show (if kitMeta n=true then subIn K (.ref C) (.type n) else none)=_
 rw [if_pos m]
 exact h
theorem i4:kitMeta "ValueError"=true:=by decide +kernel
end
open PySem PySem.Spec PyProof.Rows
theorem i5:bootBuiltins "ValueError"=some (.type "ValueError"):=by decide +kernel
section
variable {K:Frag}{H:Hp}{Q:VK}{D:Ends}{σ:St}
theorem SR{x:V}{p:Addr}{xs:List V}(e:bh K H p xs)(fx:k9 x=true)(fs:xs.all k9=true)(h:Q (.bl (Rj x xs)) H):Rk K false x (.ref p) H Q:=⟨p,xs,rfl,.inr e,fx,fs,h⟩
theorem join{t:TS}{u:St->Hp->Prop}(P:St->Hp->Prop)(h1:∀ nx:St->Hp->Prop,(∀ σ' H',P σ' H'->nx σ' H')->t { D with nx:=nx } σ H)(h2:∀ σ' H',P σ' H'->u σ' H'):t { D with nx:=u } σ H:=h1 u h2
end
def OS(K:Frag):List V->Hp->VK->Prop:=fun xs H Q=>∃ (a:Addr) (bs:List Bool),xs=[.ref a]/\bA K H a (bs.map V.bl)/\Q (.bl (bs.all id)) H
theorem Bz(bs:List Bool):((List.range bs.length).all fun i=>(bs[i]?).getD true)=bs.all id:=by
 rw [Bool.eq_iff_iff,all_eq_true,all_eq_true]
 constructor
 ·intro h b hb
  obtain ⟨i,hi,rfl⟩:=List.getElem_of_mem hb
  have:=h i (aaL.mpr hi)
  simpa [aax hi] using this
 ·intro h i hi
  have Hc:=aaL.mp hi
  simpa [aax Hc] using h _ (aaY Hc)
section
variable {X:Cx}
theorem ES (hc:X.calm=true):cq X (.builtin "all") (OS X.K):=by
 intro pins s σ H xs us Q I r h
 obtain ⟨a,bs,rfl,hs,q⟩:=h
 obtain ⟨u,rfl,ru⟩:=vals1 r
 cases ru
 obtain ⟨its,rv,p,_⟩:=I.list hs
 have hl:s.heap.IsList a its.toArray:=by
  obtain ⟨o,n,h1,h2,h3⟩:=p
  exact⟨o,h1,h2,n,h3.2⟩
 have nA:a<s.heap.objs.size:=by obtain ⟨_,e,_⟩:=hl;exact aae e
 have hh:X.A.handled=none:=I.ok.hd hc
 refine call_all_walk (wpAny_pyIter_list hl ?_)
 refine⟨s.heap.objs.size,[s.heap.objs.size,a],[s.heap.objs.size],its.toArray.size,_,_,fun i=>(bs[i]?).getD true,rfl,Walks.list (A:=X.A.in1) hh _ a (aaU nA) its.toArray,
  ⟨⟨_,aaf _ rfl,rfl,rfl⟩,hl.push _⟩,fun i v s' Q' E' hP hQ=>?_,fun h' tk hk=>?_⟩
 ·have YA:its[i]?=some v:=by simpa using hP
  have hi:i<its.length:=(aad.mp YA).1
  have hb:i<bs.length:=by have:=rv.length;simp at this;lia
  obtain ⟨u1,e1,r1⟩:=rv.get (i:=i) (x:=.bl bs[i]) (by simp [hb])
  rw [YA] at e1
  cases e1
  cases r1
  simp only [aax hb,Option.getD_some] at hQ
  exact wpAny_truthy_bool hQ
 ·have e:((List.range its.toArray.size).all fun i=>(bs[i]?).getD true)=bs.all id:=by
   have:=rv.length
   simp at this
   rw [aaO,<- this];exact Bz bs
  rw [e]
  exact⟨.bl (bs.all id),H,I.kept (t':=tk) (fun b x e=>hk b x (fun hm=>by rw [aaA.mp hm] at e;exact Nat.lt_irrefl _ (aae e)) (aab _ e)),rfl,q⟩
theorem wX (K:Frag) (hK:X.K=K) (hc:X.calm=true):cq X (.builtin "all") (OS K):=hK ▸ ES hc
end
section
variable {K:Frag}{H:Hp}{Q:VK}{σ:St}
theorem DD{a:Addr}{bs:List Bool}(e:bA K H a (bs.map V.bl))(h:Q (.bl (bs.all id)) H):OS K [.ref a] H Q:=⟨a,bs,rfl,e,h⟩
theorem OT {n:String} {b:Bool} (k:PySem.W.kitOne K (.type "NoneType") (.type n)=some b) (h:Q (.bl b) H):gy K [.dt,.ty n] H Q:=⟨_,n,_,b,rfl,.inl .dt,k,h⟩
theorem OU {x:Str} {n:String} {b:Bool} (k:PySem.W.kitOne K (.type "str") (.type n)=some b) (h:Q (.bl b) H):gy K [.str x,.ty n] H Q:=⟨_,n,_,b,rfl,.inl (.str _),k,h⟩
theorem OV{to ti:TE}{t:Ky}{v:V}{R:St->Hp->Prop}(h:to σ H fun o H1=>ti σ H1 fun i H2=>t o i v H2 fun H3=>R σ H3):Q6 to ti t v σ H R:=h
theorem OW{p:Addr}{xs:List V}{k:Int}{j:Nat}{v:V}{R:Hp->Prop}(e:H p=some (.lst xs))(hj:Ke xs.length k=some j)(h:R (upd H p (.lst (xs.set j v)))):ML (.ref p) (.int k) v H R:=⟨p,xs,k,j,rfl,rfl,e,hj,h⟩
theorem BA{a:Addr}{xs:List V}{ix:List (Option Nat)}{te:TE}(F:V->V)(fr:St)(wD:pick ix σ=none::fr)(ha:bh K H a xs)(hn:xs.length<=1000)
  (step:∀ x H' (Qc:VK),x∈xs->ah H H'->(∀ H5,ah H' H5->Qc (F x) H5)->te (some x::fr) H' Qc)
  (hQ:∀ l H',H l=none->ah H H'->H' l=some (.lst (xs.map F))->Q (.ref l) H'):cb ix (fN 0) (fun _ H Q=>Q true H) te σ Q (F7 K a) H:=by
 refine mE fr xs.length (fun i=>F (xs.getD i .dt)) wD (by lia) (fun H' s=>⟨_,s.at ha,by simp⟩) (fun i H' hi s=>⟨_,xs[i],s.at ha,aax hi⟩) (fun i x H' H2 Qc hi hs hy kc=>?_) fun l H' hl hs jg=>hQ l H' hl hs ?_
 ·obtain ⟨rfl,e1⟩:=hy
  have e2:=e1 _ (hs.at ha)
  have e3:xs.getD i .dt=x:=by rw [List.getD,e2];rfl
  rw [e3] at kc
  exact step _ _ Qc (aaC e2) hs kc
 ·rw [jg]
  congr 2
  apply ext_getElem (by simp)
  intro i h1 h2
  simp at h1 h2
  simp [List.getD,h2]
end
section
variable {X:Cx}{pins:List (Addr×Obj)}{σ:St}{H:Hp}{s:Shared}
theorem wY{p:Addr×Obj}(I:Inv X (pins++[p]) σ H s):s.heap.get? p.1=some p.2:=(I.pin p (aay _ (aay _ (aaA.mpr rfl)))).1
end
mutual
inductive d3(K:Frag)(H:Hp):V->PyData->Prop where
 | dt:d3 K H .dt .none
 | bl (b:Bool):d3 K H (.bl b) (.bool b)
 | int (i:Int):d3 K H (.int i) (.int i)
 | str (x:Str):d3 K H (.str x) (.str x)
 | tup {a:Addr} {xs:List V} {ds:List PyData} (h:bh K H a xs) (t:Tells K H xs ds):d3 K H (.ref a) (.tuple ds)
 | lst {a:Addr} {xs:List V} {ds:List PyData} (h:bA K H a xs) (t:Tells K H xs ds):d3 K H (.ref a) (.list ds)
inductive Tells(K:Frag)(H:Hp):List V->List PyData->Prop where
 | nil:Tells K H [] []
 | cons {x:V} {d:PyData} {xs:List V} {ds:List PyData} (h:d3 K H x d) (t:Tells K H xs ds):Tells K H (x::xs) (d::ds)
end
section
variable {X:Cx}{pins:List (Addr×Obj)}{σ:St}{H:Hp}{s:Shared}
mutual
theorem d3.reads(I:Inv X pins σ H s):∀ {v:V} {d:PyData} {u:Value},d3 X.K H v d->RelV v u->∃ as,Reads s.heap u d as
 | _,_,u,.dt,r=>by cases (show u=Value.none from r);exact⟨_,.none⟩
 | _,_,u,.bl b,r=>by cases (show u=Value.bool b from r);exact⟨_,.bool b⟩
 | _,_,u,.int i,r=>by
  obtain ⟨t,q⟩:=(show ∃ t,u=Value.int i t from r)
  cases q
  exact⟨_,.int i t⟩
 | _,_,u,.str x,r=>by
  obtain ⟨t,q⟩:=(show ∃ t,u=Value.str x t from r)
  cases q
  exact⟨_,.str x t⟩
 | _,_,u,.tup (a:=a) h t,r=>by
  cases (show u=Value.ref a from r)
  obtain ⟨its,rv,p,_⟩:=I.tuple h
  obtain ⟨o,h1,h2,n,h3⟩:=p
  obtain ⟨as,ra⟩:=Tells.reads I t rv
  exact⟨_,reads_tuple_at h1 h2 h3 (by simpa using ra)⟩
 | _,_,u,.lst (a:=a) h t,r=>by
  cases (show u=Value.ref a from r)
  obtain ⟨its,rv,p,_⟩:=I.list h
  obtain ⟨o,n,h1,h2,h3⟩:=p
  obtain ⟨as,ra⟩:=Tells.reads I t rv
  exact⟨_,reads_list_at h1 h2 h3.2 (by simpa using ra)⟩
theorem Tells.reads(I:Inv X pins σ H s):∀ {vs:List V} {ds:List PyData} {us:List Value},Tells X.K H vs ds->Vals vs us->∃ as,ReadsAll s.heap us ds as
 | _,_,_,.nil,.nil=>⟨_,.nil⟩
 | _,_,_,.cons h t,.cons r rs=>by
  obtain ⟨as,ra⟩:=d3.reads I h r
  obtain ⟨bs,rb⟩:=Tells.reads I t rs
  exact⟨_,.cons ra rb⟩
end
def ET(K:Frag)(neg:Bool):R2:=fun x y H Q=>∃ d e,d3 K H x d/\d3 K H y e/\SeqAt.shaped d=true/\SeqAt.shaped e=true/\Q (.bl (if neg then !PyData.eqv d e else PyData.eqv d e)) H
theorem OX(hu:X.A.units+64<cLine):ij X (compareOp .Eq) (ET X.K false):=by
 intro pins s σ H x y v u Q I rx ry h
 obtain ⟨d,e,hd,he,sd,se,q⟩:=h
 obtain ⟨as,ra⟩:=hd.reads I rx
 obtain ⟨bs,rb⟩:=he.reads I ry
 exact eq_dataH ra rb sd se hu ⟨.bl (PyData.eqv d e),H,I,rfl,q⟩
theorem OY(hu:X.A.units+64<cLine):ij X (compareOp .NotEq) (ET X.K true):=by
 intro pins s σ H x y v u Q I rx ry h
 obtain ⟨d,e,hd,he,sd,se,q⟩:=h
 obtain ⟨as,ra⟩:=hd.reads I rx
 obtain ⟨bs,rb⟩:=he.reads I ry
 exact ne_dataH ra rb sd se hu ⟨.bl (!PyData.eqv d e),H,I,rfl,q⟩
variable {K:Frag}
theorem wZ(K:Frag)(hK:X.K=K)(hu:X.A.units+64<cLine):ij X (compareOp .Eq) (ET K false):=hK ▸ OX hu
theorem Lq(K:Frag)(hK:X.K=K)(hu:X.A.units+64<cLine):ij X (compareOp .NotEq) (ET K true):=hK ▸ OY hu
end
section
variable {K:Frag}{H:Hp}{Q:VK}
theorem HQ{x y:V}{d e:PyData}(hd:d3 K H x d)(he:d3 K H y e)(sd:SeqAt.shaped d=true)(se:SeqAt.shaped e=true)(h:Q (.bl (PyData.eqv d e)) H):ET K false x y H Q:=⟨d,e,hd,he,sd,se,h⟩
theorem SS{x y:V}{d e:PyData}(hd:d3 K H x d)(he:d3 K H y e)(sd:SeqAt.shaped d=true)(se:SeqAt.shaped e=true)(h:Q (.bl (!PyData.eqv d e)) H):ET K true x y H Q:=⟨d,e,hd,he,sd,se,h⟩
def Rows(K:Frag)(H:Hp)(xs:List V)(rs:List (List Int)):Prop:=Tells K H xs (rs.map fun r=>.tuple (r.map PyData.int))
theorem Tells.ints:∀ (r:List Int),Tells K H (r.map V.int) (r.map PyData.int)
 | []=>.nil
 | i::r=>.cons (.int i) (Tells.ints r)
theorem d3.row{a:Addr}{r:List Int}(h:bh K H a (r.map V.int)):d3 K H (.ref a) (.tuple (r.map PyData.int)):=.tup h (Tells.ints r)
end
end L2
namespace L2
open PySem PySem.Spec PyProof.Rows
section
variable {K:Frag}{g:TG}{D:Ends}{σ:St}{H:Hp}
theorem DE{J:It}{tb:TS}(n:Nat)(Pv:Nat->St->Hp->Prop)(h0:Pv 0 σ H)(Gd:∀ i σ H2,i<n->Pv i σ H2->J.go i H2)(mD:∀ σ H2,Pv n σ H2->J.stop n H2)
  (hs:∀ i x σ H2 H3,i<n->Pv i σ H2->J.Kb i H2 x H3->g x σ H3 fun σ2 H4=>tb { D with nx:=Pv (i+1),ct:=Pv (i+1),bk:=D.nx } σ2 H4) (hd:∀ σ H2,Pv n σ H2->D.nx σ H2):gz g tb D J σ H:=by
 refine⟨fun i m σ2 H2=>m=n - i/\i<=n/\Pv i σ2 H2,⟨n,by simp,aaT _,h0⟩,?_⟩
 rintro i m σ2 H2 ⟨rfl,hi,p⟩
 by_cases nA:i<n
 ·exact .inr ⟨Gd i σ2 H2 nA p,Pv (i+1),fun σ' H' p'=>⟨n - (i+1),by lia,rfl,nA,p'⟩,fun x H' y=>hs i x σ2 H2 H' nA p y⟩
 ·have e:i=n:=by lia
  subst e
  exact .inl ⟨mD σ2 H2 p,hd σ2 H2 p⟩
theorem w4{lo:Int}{n:Nat}{tb:TS}(Pv:Nat->St->Hp->Prop)(h0:Pv 0 σ H)(hs:∀ i σ H2,i<n->Pv i σ H2->g (.int (lo+i)) σ H2 fun σ2 H4=>tb { D with nx:=Pv (i+1),ct:=Pv (i+1),bk:=D.nx } σ2 H4)(hd:∀ σ H2,Pv n σ H2->D.nx σ H2):gz g tb D (KC lo n) σ H:=by
 refine DE n Pv h0 (fun i σ H2 hi _=>hi) (fun σ H2 _=>aai _) (fun i x σ H2 H3 hi p y=>?_) hd
 obtain ⟨rfl,rfl⟩:=y
 exact hs i σ _ hi p
theorem BB{a:Addr}{xs:List V}{tb:TS}(Pv:Nat->St->Hp->Prop)(h0:Pv 0 σ H)(ha:∀ i σ H2,Pv i σ H2->bA K H2 a xs)(hs:∀ i x σ H2,xs[i]?=some x->Pv i σ H2->g x σ H2 fun σ2 H4=>tb { D with nx:=Pv (i+1),ct:=Pv (i+1),bk:=D.nx } σ2 H4)(hd:∀ σ H2,Pv xs.length σ H2->D.nx σ H2):gz g tb D (Qu K a) σ H:=by
 refine DE xs.length Pv h0 (fun i σ H2 hi p=>⟨xs,xs[i],ha i σ H2 p,aax hi⟩) (fun σ H2 p=>⟨xs,ha _ σ H2 p,aai _⟩) (fun i x σ H2 H3 hi p y=>?_) hd
 obtain ⟨rfl,e⟩:=y
 exact hs i x σ _ (e xs (ha i σ _ p)) p
end
def OZ(K:Frag):List V->Hp->VK->Prop:=fun xs H Q=>∃ (a:Addr) (ns:List Int),xs=[.ref a]/\bA K H a (ns.map V.int)/\Q (.int ns.sum) H
section
variable {X:Cx}
theorem EU (hc:X.calm=true):cq X (.builtin "sum") (OZ X.K):=by
 intro pins s σ H xs us Q I r h
 obtain ⟨a,ns,rfl,hs,q⟩:=h
 obtain ⟨u,rfl,ru⟩:=vals1 r
 cases ru
 obtain ⟨its,rv,p,_⟩:=I.list hs
 have hl:s.heap.IsList a its.toArray:=by
  obtain ⟨o,n,h1,h2,h3⟩:=p
  exact⟨o,h1,h2,n,h3.2⟩
 have hh:X.A.handled=none:=I.ok.hd hc
 have hi:IntsAre its ns:=intsAre_of rv
 obtain ⟨zs,hx⟩:=hi.allInts.items
 have hn:numsOf its.toArray.toList=ns:=by rw [show its.toArray.toList=its from rfl,hi.numsOf]
 rw [hx] at hl hn
 rw [nums_intItems] at hn
 refine sum_intListG hh hl fun h' tk t' hk=>?_
 rw [preSum_eq,aaS (by simp),hn]
 exact⟨.int ns.sum,H,I.kept (t':=tk) hk,⟨t',rfl⟩,q⟩
theorem O0 (K:Frag) (hK:X.K=K) (hc:X.calm=true):cq X (.builtin "sum") (OZ K):=hK ▸ EU hc
end
section
variable {K:Frag}{H:Hp}{Q:VK}{σ:St}{ix:List (Option Nat)}
theorem SU{a:Addr}{ns:List Int}(e:bA K H a (ns.map V.int))(h:Q (.int ns.sum) H):OZ K [.ref a] H Q:=⟨a,ns,rfl,e,h⟩
end
end L2
namespace L2
open PySem
structure En(k:Bool)(n a:Nat)(i:Nat)(h:Heap):Prop where
 ob:∃ last:Value,IsEnum h (n+1) n i last
 src:jf k h n a i
section
variable {prog:Program}{w:World}{A:Around}{E:Value->Shared->Prop}{s:Shared}
theorem Lr{k:Bool}{n a:Nat}{i:Nat}{xs:Array Value}{x:Value}{Q:Value->Shared->Prop}(Z:En k n a i s.heap)(ha:a<n)(hs:cw k s.heap a xs)(hx:xs[i]?=some x)
  (hQ:∀ h' t,IsEnumOut h' (n+1) n ((i:Int)+1) x s.heap.objs.size->jf k h' n a (i+1)->IsT h' s.heap.objs.size #[.int i t,x]->h'.objs.size=s.heap.objs.size+1->Off [n,n+1] s.heap h'->Q (.ref s.heap.objs.size) { s with heap:=h',toks:=s.toks+1 }) :
  wpAny (model prog w) A (Builtin.«enumerate.__next__» ⟨[.ref (n+1)],[]⟩) (fun fin s'=>∃ v,fin=.done (.ret v)/\Q v s') E s:=by
 obtain ⟨⟨last,ob⟩,src⟩:=Z
 obtain ⟨hp,gg,dd,tt,oo⟩:=s
 have n1:(n+1:Addr)≠n:=gb (by lia)
 show wpAny _ _ (field (.ref (n+1)) 2 >>= _) _ _ _
 refine aac (wpAny_field ob rfl (x:=.ref n) rfl (aac (mw src hs hx fun g1 SV q1=>?_)))
 replace q1:Heap.SameBut n hp g1:=q1
 have UK:IsEnum g1 (n+1) n i last:=(q1.2 _ n1).trans ob
 show wpAny _ _ (field (.ref (n+1)) 3 >>= _) _ _ ⟨g1,gg,dd,tt,oo⟩
 refine aac (wpAny_field UK rfl (x:=rawInt i) rfl ?_)
 show wpAny _ _ (field (.ref (n+1)) 4 >>= _) _ _ ⟨g1,gg,dd,tt,oo⟩
 refine aac (wpAny_field UK rfl (x:=.none) rfl ?_)
 show wpAny _ _ (mkInt i >>= _) _ _ ⟨g1,gg,dd,tt,oo⟩
 refine aac (wpAny_mkInt ?_)
 show wpAny _ _ (setField (.ref (n+1)) 3 (rawInt ((i:Int)+1)) >>= _) _ _ ⟨g1,gg,dd,tt+1,oo⟩
 refine aac (wpAny_setField_rec UK (by simp) fun g2 QC q2=>?_)
 replace q2:Heap.SameBut (n+1) g1 g2:=q2
 replace QC:IsEnum g2 (n+1) n ((i:Int)+1) last:=QC
 show wpAny _ _ (setField (.ref (n+1)) 4 .none >>= _) _ _ ⟨g2,gg,dd,tt+1,oo⟩
 refine aac (wpAny_setField_rec QC (by simp) fun g3 UL q3=>?_)
 replace q3:Heap.SameBut (n+1) g2 g3:=q3
 replace UL:IsEnum g3 (n+1) n ((i:Int)+1) last:=UL
 show wpAny _ _ (newTuple [.int i tt,x] >>= _) _ _ ⟨g3,gg,dd,tt+1,oo⟩
 refine aac (wpAny_newTuple ?_)
 have z3:g3.objs.size=hp.objs.size:=by rw [q3.1,q2.1,q1.1]
 have elt:n+1<hp.objs.size:=aae ob
 obtain ⟨g4,e4⟩:∃ g4,g4=g3.push { cls:=.type "tuple",data:=.seq #[.int i tt,x] }:=⟨_,rfl⟩
 have VR:IsEnum g4 (n+1) n ((i:Int)+1) last:=by rw [e4];exact aab _ UL
 have t4:IsT g4 hp.objs.size #[.int i tt,x]:=by rw [e4,<- z3];exact aaf _ rfl
 have z4:g4.objs.size=hp.objs.size+1:=by rw [e4,Heap.size_push,z3]
 have o4:Off [n,n+1] hp g4:=by
  rw [e4]
  exact (((Off.of q1 (by simp)).trans (Off.of q2 (by simp))).trans (Off.of q3 (by simp))).trans (Off.push _)
 have VS:jf k g4 n a (i+1):=SV.keep fun o e=>by
  rw [e4]
  exact aab _ ((q3.2 _ n1.symm).trans ((q2.2 _ n1.symm).trans e))
 show wpAny _ _ (Builtin.SmallTypes.ownedTupleIsFree (.ref (n+1)) >>= _) _ _ ⟨_,gg,dd,tt+1,oo⟩
 rw [z3,<- e4]
 clear e4 UL q3 QC q2 UK q1 SV z3
 refine aac ?_
 unfold Builtin.SmallTypes.ownedTupleIsFree
 refine aac (wpAny_field VR rfl (x:=.none) rfl (aau ?_))
 rw [if_pos rfl]
 refine aac (wpAny_rule (aac (wpAny_field VR rfl (x:=last) rfl (aac (wpAny_setField_rec VR (by simp) fun g5 VT q5=>?_)))))
 replace q5:Heap.SameBut (n+1) g4 g5:=q5
 replace VT:IsEnum g5 (n+1) n ((i:Int)+1) x:=VT
 show wpAny _ _ (Builtin.SmallTypes.ownedTupleHandOut (.ref (n+1)) (.ref hp.objs.size) >>= _) _ _ ⟨g5,gg,dd,tt+1,oo⟩
 refine aac ?_
 unfold Builtin.SmallTypes.ownedTupleHandOut
 refine aac (wpAny_setField_rec VT (by simp) fun g6 VU q6=>?_)
 replace q6:Heap.SameBut (n+1) g5 g6:=q6
 replace VU:IsEnumOut g6 (n+1) n ((i:Int)+1) x hp.objs.size:=VU
 refine wpAny_setField_rec VU (by simp) fun g7 VW q7=>?_
 replace q7:Heap.SameBut (n+1) g6 g7:=q7
 replace VW:IsEnumOut g7 (n+1) n ((i:Int)+1) x hp.objs.size:=VW
 have up:∀ c o,c≠n+1->g4.get? c=some o->g7.get? c=some o:=fun c o hc e=>(q7.2 _ hc).trans ((q6.2 _ hc).trans ((q5.2 _ hc).trans e))
 refine aac (wpAny_letGo (aau ⟨_,rfl,hQ g7 tt VW (VS.keep fun o e=>up _ o n1.symm e) (up _ _ (Nat.ne_of_gt elt) t4) (by rw [q7.1,q6.1,q5.1,z4]) fun c o hc e=>?_⟩))
 exact up c o (fun z=>hc (by simp [z])) (o4 c o hc e)
theorem EV{k:Bool}{n a:Nat}{i:Nat}{xs:Array Value}{x:Value}{Q:Option Value->Shared->Prop}(Z:En k n a i s.heap)(ha:a<n)(hs:cw k s.heap a xs)(hx:xs[i]?=some x)
  (hQ:∀ h' t,IsEnumOut h' (n+1) n ((i:Int)+1) x s.heap.objs.size->jf k h' n a (i+1)->IsT h' s.heap.objs.size #[.int i t,x]->h'.objs.size=s.heap.objs.size+1->Off [n,n+1] s.heap h'->Q (some (.ref s.heap.objs.size)) { s with heap:=h',toks:=s.toks+1 }) :
  wpAny (model prog w) A (pyNext (.ref (n+1))) Q E s:=by
 have ty:s.TypeIs (.ref (n+1)) "enumerate":=by obtain ⟨last,ob⟩:=Z.ob;exact⟨_,ob,rfl⟩
 unfold pyNext
 exact aac (wpAny_attempt (wpAny_callSpecial?_slot (name:=Str.ofString "__next__") ty F.slot_enumerate_next (wpAny_call_entry F.slot_enumerate_next ty F.entry_enumerate_next
  (Lr Z ha hs hx fun h' t b1 b2 b3 b4 b5=>aau (hQ h' t b1 b2 b3 b4 b5)) (F.args_enumerate_next_1 _))))
theorem tH{k:Bool}{n a:Nat}{i:Nat}{xs:Array Value}{Q:Option Value->Shared->Prop}(hh:A.handled=none)(Z:En k n a i s.heap)(hs:cw k s.heap a xs)(hx:xs[i]?=none)
  (hQ:∀ h',Off [n,n+1] s.heap h'->Q none { s with heap:=h' }):wpAny (model prog w) A (pyNext (.ref (n+1))) Q E s:=by
 obtain ⟨⟨last,ob⟩,src⟩:=Z
 have ty:s.TypeIs (.ref (n+1)) "enumerate":=⟨_,ob,rfl⟩
 unfold pyNext
 refine aac (wpAny_attempt (wpAny_callSpecial?_slot (name:=Str.ofString "__next__") ty F.slot_enumerate_next (wpAny_call_entry F.slot_enumerate_next ty F.entry_enumerate_next ?_ (F.args_enumerate_next_1 _))))
 show wpAny _ _ (field (.ref (n+1)) 2 >>= _) _ _ _
 refine aac (wpAny_field ob rfl (x:=.ref n) rfl (aac (wB hh src hs hx fun h' e off ⟨o,ho,hc⟩=>?_)))
 exact aac (wpAny_isInstance (T:="StopIteration") (b:=true) ⟨o,ho,hc⟩ isSubtype_stop (aau (hQ _ fun c u hc e=>off c u (fun z=>hc (by simp [z])) e)))
abbrev QD (k:Bool) (h:Heap) (a:Addr):Heap:=(h.push (eA k a)).push { cls:=.type "enumerate",data:=.fields #[.none,.bool false,.ref h.objs.size,rawInt 0,.none,.none] }
end
end L2
namespace L2
open PySem
open AutoSeq1 (wpAny_loadPart')
theorem Ls(k:Bool)(a:Addr)(xs:Array Value) :
  Meets (Builtin.«enumerate.__new__» ⟨[.type "enumerate",.ref a],[]⟩) (fun _ R s=>cw k s.heap a xs/\R (.ok (.ret (.ref (s.heap.objs.size+1)))) { s with heap:=QD k s.heap a }) :=
 .of_wp fun prog w A R s h=>by
  obtain ⟨hp,gg,dd,tt,oo⟩:=s
  obtain ⟨src,r⟩:=h
  have sub:=sub_enumerate
  have S:cw k (Shared.heap ⟨hp,gg,dd,tt,oo⟩) a xs:=src
  obtain ⟨ob,e⟩:∃ ob,hp.get? a=some ob:=by
   cases k
   ·obtain ⟨ob,e,_⟩:=src;exact⟨ob,e⟩
   ·obtain ⟨ob,e,_⟩:=src;exact⟨ob,e⟩
  obtain ⟨oc,od,ot,os⟩:=ob
  have last:(hp.push (eA k a)).objs.size=hp.objs.size+1:=Heap.size_push ..
  have r':R (.ok (.ret (.ref (hp.push (eA k a)).objs.size))) ⟨QD k hp a,gg,dd,tt,oo⟩:=by rw [last];exact r
  wp_walk using wpAny_loadPart' e
  refine wpAny_stack_any fun st=>aau ?_
  split
  ·rename_i c _ _ _ _ _
   cases (c == Value.type "enumerate") <;> (wp_walk using wpAny_loadPart' e,mr S;exact⟨_,rfl,r'⟩)
  ·wp_walk using wpAny_loadPart' e,mr S
   exact⟨_,rfl,r'⟩
open PySem PySem.Spec PyProof.Rows
def SW(K : Frag)(k : Bool)(a : Addr) : It :=
  ⟨fun i H => ∃ xs x, Sq k K H a xs /\ xs[i]?=some x,
   fun i H v H' => ∃ p x, v=.ref p /\ H p=none /\ (∀ xs, Sq k K H a xs -> xs[i]?=some x) /\ H'=upd H p (.tup [.int i, x]),
   fun i H => ∃ xs, Sq k K H a xs /\ xs.length <= i⟩
theorem Lu{P:Program}{w:World}{K:Frag}{es:List Expr}{kk:Nat}{pos:Pos}{k:Bool}(n a:Nat)(ha:a<n) :
  Turn P w K (.Tuple es kk pos) (SW K k a) [n+1,n] (n+1) (fun i h=>En k n a i h) where
 mem:=by simp
 obj:=fun i h st c hc=>by
  obtain ⟨⟨last,ob⟩,src⟩:=st
  simp only [aaG,not_mem_nil,or_false] at hc
  rcases hc with rfl|rfl
  ·exact⟨_,ob,fun v z=>nomatch z⟩
  ·exact src.obj
 keep:=fun i h h' st k=>by
  obtain ⟨⟨last,ob⟩,src⟩:=st
  exact⟨⟨last,k _ (by simp) _ ob⟩,src.keep fun o e=>k _ (by simp) o e⟩
 item:=by
  intro X hP hw hK hc i pins s σ H E I hf st hg
  subst hP hw hK
  obtain ⟨xs,x,qx,ex⟩:=hg
  obtain ⟨Oh,r1,s1,_⟩:=I.sq qx
  obtain ⟨u,hu,ru⟩:=r1.get ex
  refine EV st ha s1 (x:=u) (by simpa using hu) fun h' t ob src hT hsz off=>⟨_,rfl,?_⟩
  have MT:H s.heap.objs.size=none:=I.aR.fresh (aai _)
  have Vy:n+1<s.heap.objs.size:=by obtain ⟨last,b⟩:=st.ob;exact aae b
  refine wpAny_letOwnedTupleGo_enum ob fun h2 QC iB=>?_
  have rH:Off [n+1,n] s.heap h2:=fun c o hc e=>(iB.2 c fun z=>hc (by simp [z])).trans (off c o (fun z=>hc (by simp only [aaG,not_mem_nil,or_false] at z ⊢;exact z.symm)) e)
  have EG:IsT h2 s.heap.objs.size #[.int i t,u]:=(iB.2 _ (Nat.ne_of_gt Vy)).trans hT
  refine⟨.ref s.heap.objs.size,upd H s.heap.objs.size (.tup [.int i,x]),?_,rfl,⟨_,x,rfl,MT,fun zs RP=>by rw [I.Bm RP qx];exact ex,rfl⟩,?_,fun c hc=>?_⟩
  ·refine Inv.off (s:=s) (h':=h2) (t':=s.toks+1) (ch:=[n+1,n]) I hf rH (I.aR.G7 (fun c hc=>(hf c hc).1) rH (aai _) ?_) (fun c o _ e hn=>?_) fun c o e=>?_
   ·exact⟨by show 2<=sizeLine;decide,[.int i t,u],.cons ⟨t,rfl⟩ (.cons ru .nil),⟨_,EG,rfl,_,rfl⟩⟩
   ·rw [ar (aaU (aae e))];exact hn
   ·rw [ar (aN e MT)];exact e
  ·exact⟨⟨_,QC⟩,src.keep fun o e=>(iB.2 _ (gb (by lia))).trans e⟩
  ·have cn:c≠s.heap.objs.size:=by
    simp only [aaG,not_mem_nil,or_false] at hc
    rcases hc with rfl|rfl <;> exact gb (by lia)
   rw [ar cn];exact (hf c hc).1
 done:=by
  intro X hP hw hK hc i pins s σ H E I hf st hg
  subst hP hw hK
  obtain ⟨xs,qx,EC⟩:=hg
  obtain ⟨Oh,r1,s1,_⟩:=I.sq qx
  have e1:=r1.length
  refine tH (I.ok.hd hc) st s1 (by simp;lia) fun h' off=>⟨rfl,?_⟩
  have rH:Off [n+1,n] s.heap h':=fun c o hc e=>off c o (fun z=>hc (by simp only [aaG,not_mem_nil,or_false] at z ⊢;exact z.symm)) e
  exact Inv.off (s:=s) (t':=s.toks) I hf rH (I.aR.off (fun c hc=>(hf c hc).1) rH) (fun _ _ _ _ q=>q) fun _ _ q=>q
 self:=fun _ _ _ _ _ st h=>by
  obtain ⟨last,ob⟩:=st.ob
  exact wpAny_pyIter_enum ob h
section
variable {X:Cx}
def HR(K:Frag)(k:Bool)(ta:TA):TI:=fun σ H R=>ta σ H fun vs H1=>∃ a,vs=[.ref a]/\(∃ xs,Sq k K H1 a xs)/\R (SW K k a) H1
theorem Lv (k:Bool) {es:List Expr} {kk:Nat} {tF:Pos} {a:Expr} {ta:TA} {p pos:Pos} (hg:Gl X "enumerate") (hm:X.mg "enumerate"=none) (ha:PA X [a] ta) (hs:starEach [a] X.env=[(false,eval a X.env)]:=by rfl) :
  PI X (.Tuple es kk tF) (.Call (.Name "enumerate" p) [a] [] pos) (HR X.K k ta):=by
 intro pins s σ H R I h
 refine Call_ (lD I hg hm boot_enumerate (callWith_type1 (bS (ha pos pins s σ H _ I h) fun us s1 ⟨vs,H1,I1,r1,q1⟩=>?_) (by rw [hs];rfl) (by rfl)))
 obtain ⟨a',e,⟨xs,qx⟩,q⟩:=q1
 subst e
 obtain ⟨u,rfl,ru⟩:=vals1 r1
 cases ru
 obtain ⟨Oh,r1,RQ,_⟩:=I1.sq qx
 refine callType_new PySem.F.called_enumerate (by decide) (PySem.F.typeCall_enumerate_1 _) (PySem.F.newCall_enumerate_1 _) (fun obj=>PySem.F.args_object_init_2 obj _) PySem.F.entry_enumerate_new (Ls k a' Oh.toArray) ⟨RQ,?_⟩
 have z1:(s1.heap.push (eA k a')).objs.size=s1.heap.objs.size+1:=Heap.size_push ..
 have g2:(QD k s1.heap a').get? (s1.heap.objs.size+1)=some { cls:=.type "enumerate",data:=.fields #[.none,.bool false,.ref s1.heap.objs.size,rawInt 0,.none,.none] }:=by rw [<- z1];exact aaf _ rfl
 have g1:(QD k s1.heap a').get? s1.heap.objs.size=some (eA k a'):=aab _ (aaf _ (by cases k <;> rfl))
 have old:∀ c o,s1.heap.get? c=some o->(QD k s1.heap a').get? c=some o:=fun c o x=>aab _ (aab _ x)
 have Z:En k s1.heap.objs.size a' 0 (QD k s1.heap a'):=⟨⟨_,g2⟩,rF g1⟩
 show _/\_
 refine⟨⟨_,g2,rfl⟩,wpAny_pyIter_enum g2 ?_⟩
 refine⟨_,_,_,_,H1,rfl,I1.kept (t':=s1.toks) old,Lu s1.heap.objs.size a' RQ.lt,Z,fun c hc=>?_,q⟩
 have Oi:s1.heap.objs.size<=c:=by
  simp only [aaG,not_mem_nil,or_false] at hc
  rcases hc with rfl|rfl <;> first|exact Nat.le_add_right _ _|exact aai _
 exact I1.Ej Oi (I1.aR.fresh Oi)
theorem mL (K:Frag) (hK:X.K=K) (k:Bool) {es:List Expr} {kk:Nat} {tF:Pos} {a:Expr} {ta:TA} {p pos:Pos} (hg:Gl X "enumerate") (hm:X.mg "enumerate"=none) (ha:PA X [a] ta) (hs:starEach [a] X.env=[(false,eval a X.env)]:=by rfl) :
  PI X (.Tuple es kk tF) (.Call (.Name "enumerate" p) [a] [] pos) (HR K k ta):=hK ▸ Lv k hg hm ha hs
end
section
variable {K:Frag}{H:Hp}{σ:St}{D:Ends}
def SX(K:Frag)(k:Bool):List V->Hp->(It->Hp->Prop)->Prop:=fun vs H R=>∃ a,vs=[.ref a]/\(∃ xs,Sq k K H a xs)/\R (SW K k a) H
theorem Lw{k:Bool}{ts:TA}{R:It->Hp->Prop}(h:ts σ H fun vs H1=>SX K k vs H1 R):HR K k ts σ H R:=h
theorem SY{k:Bool}{a:Addr}{xs:List V}{R:It->Hp->Prop}(e:Sq k K H a xs)(h:R (SW K k a) H):SX K k [.ref a] H R:=⟨a,rfl,⟨_,e⟩,h⟩
end
inductive fm(K:Frag)(H:Hp):List V->List (List Int)->Prop where
 | nil:fm K H [] []
 | cons {a:Addr} {r:List Int} {xs:List V} {rs:List (List Int)} (h:bh K H a (r.map V.int)) (t:fm K H xs rs):fm K H (.ref a::xs) (r::rs)
namespace fm
variable {K:Frag}{H H':Hp}
theorem length:∀ {xs:List V} {rs:List (List Int)},fm K H xs rs->rs.length=xs.length
 | _,_,.nil=>rfl
 | _,_,.cons _ t=>by rw [length_cons,length_cons,t.length]
theorem get:∀ {xs:List V} {rs:List (List Int)} {i:Nat} {x:V},fm K H xs rs->xs[i]?=some x->∃ a r,x=.ref a/\bh K H a (r.map V.int)/\rs[i]?=some r
 | _,_,_,_,.nil,h=>by simp at h
 | _,_,0,_,.cons (a:=a) (r:=r) h _,e=>by
  simp at e
  exact⟨a,r,e.symm,h,rfl⟩
 | _,_,i+1,_,.cons _ t,e=>by
  obtain ⟨a,r,h1,h2,h3⟩:=get (i:=i) t (by simpa using e)
  exact⟨a,r,h1,h2,by simpa using h3⟩
theorem append:∀ {xs ys:List V} {rs qs:List (List Int)},fm K H xs rs->fm K H ys qs->fm K H (xs++ys) (rs++qs)
 | _,_,_,_,.nil,u=>u
 | _,_,_,_,.cons h t,u=>.cons h (t.append u)
theorem snoc{xs:List V}{rs:List (List Int)}{a:Addr}{r:List Int}(t:fm K H xs rs)(h:bh K H a (r.map V.int)):fm K H (xs++[.ref a]) (rs++[r]):=t.append (.cons h .nil)
theorem off{l:Addr}{ys zs:List V}:∀ {xs:List V} {rs:List (List Int)},fm K H xs rs->H l=some (.lst ys)->fm K (upd H l (.lst zs)) xs rs
 | _,_,.nil,_=>.nil
 | _,_,.cons h t,e=>.cons ((HE h e).imp (fun q=>q.imp (fun q=>by rw [ar (fun z=>by rw [z,zC] at q;cases q)];exact qQ _ _ q) fun ⟨o,q⟩=>⟨o,by rw [ar (fun z=>by rw [z,zC] at q;cases q)];exact qQ _ _ q⟩) id) (t.off e)
end fm
theorem mM{K:Frag}{H:Hp}{l a:Addr}{xs ys zs:List V}(h:bh K H a xs)(e:H l=some (.lst ys)):bh K (upd H l (.lst zs)) a xs :=
 (HE h e).imp (fun q=>q.imp (fun q=>by rw [ar (fun z=>by rw [z,zC] at q;cases q)];exact qQ _ _ q) fun ⟨o,q⟩=>⟨o,by rw [ar (fun z=>by rw [z,zC] at q;cases q)];exact qQ _ _ q⟩) id
end L2
namespace L2
open PySem PySem.Spec PyProof.Rows PySem.W
section
variable {M:Model}{A:Around}{E:Value->Shared->Prop}{s:Shared}
theorem vM{base:Heap}{env:Env}{outer:List Env}{L e:Addr}{oe:Obj}{vs:Array Value}{head:Value}{wR:Bool}{Q:Unit->Shared->Prop}
  (jk:A.frames=some (env::outer)) (hl:s.heap.FunFrames base (env::outer)) (hf:env.frame=some L) (he:s.heap.get? e=some oe) (hd:oe.data=.fields vs) (hsz:1<vs.size)
  (h:∀ h' T,(∀ b o,b≠e->b∉j2 (env::outer)->s.heap.get? b=some o->h'.get? b=some o)->(∀ b o,b≠e->s.heap.get? b=some o->∃ sl,h'.get? b=some { o with slots:=sl }) ->
   s.heap.get? T=none->T≠e->h'.get? e=some (oe.mapFields (·.setIfInBounds 1 (.ref T)))->(∃ oT ts,h'.get? T=some oT/\oT.data=.fields ts/\ts[3]?=some (rawInt L))->Q () { s with heap:=h' }) :
  wpAny M A (do let a <- frameOf env;let pl <- entryPlaceOf L wR;let b <- EntryCells.newEntry head a .none (rawInt L) .none pl;setField (.ref e) 1 b) Q E s:=by
 have OP:e∉(env::outer).filterMap (·.frame):=fun hm=>by
  obtain ⟨_,o,ho,Bw⟩:=hl.mem hm
  rw [he] at ho;injection ho with ho;subst ho;exact Bw vs hd
 refine aac (wpAny_frameOf_fun jk hl hf fun h₁ Lk=>aac (wpAny_entryPlaceOf fun pl jt=>?_))
 unfold EntryCells.newEntry newFields
 refine aac (wpAny_newObj_type ?_ (jt.sizeOk5 _ _ _ _ _))
 have SJ:h₁.get? e=some oe:=(Lk.2.1 e OP).trans he
 obtain ⟨tb,VX⟩:∃ tb:Obj,tb={ cls:=.type "traceback",dict:=none,data:=.fields ([head,.ref L,.none,rawInt L,.none]++(if pl.isEmpty then List.replicate 6 Value.none else pl)).toArray }:=⟨_,rfl⟩
 have ZV:∃ ts,tb.data=.fields ts/\ts[3]?=some (rawInt L):=by rw [VX];exact⟨_,rfl,by simp⟩
 have Bw:tb.isFreed=false:=by rw [VX];rfl
 show wpAny M A (setField (.ref e) 1 (.ref h₁.objs.size)) Q E { s with heap:=h₁.push _ }
 rw [<- VX]
 have SK:=aab (h:=h₁) tb SJ
 have HG:h₁.objs.size≠e:=Nat.ne_of_gt (aae SJ)
 refine wpAny_setField SK hd hsz (h _ h₁.objs.size (fun b o v9 VN hb=>?_) (fun b o v9 hb=>?_) (Heap.get?_none_of_le (by rw [Lk.1];exact aai _)) HG (Heap.get?_update_self _ SK (Obj.isFreed_of_fields (Obj.data_mapFields hd _))) ?_)
 ·rw [Heap.get?_update_other _ _ (Ne.symm v9)]
  exact aab _ ((Lk.2.1 b VN).trans hb)
 ·obtain ⟨sl,hs⟩:=Lk.2.2 b o hb
  exact⟨sl,by rw [Heap.get?_update_other _ _ (Ne.symm v9)];exact aab _ hs⟩
 ·obtain ⟨ts,q1,q2⟩:=ZV
  exact⟨tb,ts,(Heap.get?_update_other _ _ (Ne.symm HG)).trans (aaf h₁ Bw),q1,q2⟩
theorem mO{base:Heap}{env:Env}{outer:List Env}{L e:Addr}{oe:Obj}{vs:Array Value}{T0:Option Addr}{Q:Unit->Shared->Prop}
  (jk:A.frames=some (env::outer)) (hl:s.heap.FunFrames base (env::outer)) (hf:env.frame=some L) (he:s.heap.get? e=some oe) (hd:oe.data=.fields vs) (hh:jv s.heap e vs T0)
  (h:∀ h' T,(∀ b o,b≠e->some b≠T0->b∉j2 (env::outer)->s.heap.get? b=some o->h'.get? b=some o)->(∀ b o,b≠e->some b≠T0->s.heap.get? b=some o->∃ sl,h'.get? b=some { o with slots:=sl }) ->
   s.heap.get? T=none->T≠e->h'.get? e=some (oe.mapFields (·.setIfInBounds 1 (.ref T)))->(∃ oT ts,h'.get? T=some oT/\oT.data=.fields ts/\ts[3]?=some (rawInt L))->Q () { s with heap:=h' }) :
  wpAny M A (noteFrame (.ref e) env) Q E s:=by
 unfold noteFrame
 simp only [hf]
 cases T0 with
 | none =>
  have h1:vs[1]?=some .none:=hh
  refine aac (wpAny_field he hd h1 ?_)
  rw [if_neg (by decide)]
  exact vM jk hl hf he hd (Array.getElem?_eq_some_iff.mp h1).1 fun h' T k1 k2 k3 k4 k5 k6=>h h' T (fun b o b1 _ b3 b4=>k1 b o b1 b3 b4) (fun b o b1 _ b3=>k2 b o b1 b3) k3 k4 k5 k6
 | some T =>
  obtain ⟨h1,HG,oT,ts,hT,lq,h3⟩:=hh
  refine aac (wpAny_field he hd h1 ?_)
  rw [if_pos (show (Value.ref T != Value.none)=true from by simp)]
  refine aac (wpAny_field hT lq h3 ?_)
  rw [if_neg (show ¬ ((Value.none == rawInt L)=true) from by simp [rawInt])]
  refine aac (wpAny_setField hT lq (Array.getElem?_eq_some_iff.mp h3).1 ?_)
  have other:∀ b,b≠T->(s.heap.update T (Obj.mapFields (·.setIfInBounds 3 Value.none))).get? b=s.heap.get? b:=fun b hb=>Heap.get?_update_other _ _ (Ne.symm hb)
  have rT:∀ b o,s.heap.get? b=some o->(∀ vs,o.data≠.fields vs)->b≠T:=fun b o hb Bw q=>by
   rw [q,hT] at hb;injection hb with hb;subst hb;exact Bw ts lq
  have EG:=Heap.get?_update_self (Obj.mapFields (·.setIfInBounds 3 Value.none)) hT (Obj.isFreed_of_fields (Obj.data_mapFields lq _))
  refine vM jk (hl.of_keeps fun b o hb Bw=>⟨o,(other b (rT b o hb Bw)).trans hb,rfl⟩) hf ((other e (Ne.symm HG)).trans he) hd (Array.getElem?_eq_some_iff.mp h1).1 fun h' T' k1 k2 k3 k4 k5 k6=>?_
  refine h h' T' (fun b o b1 b2 b3 b4=>k1 b o b1 b3 ((other b fun z=>b2 (by rw [z])).trans b4)) (fun b o b1 b2 b4=>k2 b o b1 ((other b fun z=>b2 (by rw [z])).trans b4)) ?_ k4 k5 k6
  by_cases hq:T'=T
  ·rw [hq,EG] at k3;cases k3
  ·rw [other T' hq] at k3;exact k3
theorem eV{e T:Addr}{oe oT:Obj}{vs ts:Array Value}{fl:Option Addr}{Q:Unit->Shared->Prop}(he:s.heap.get? e=some oe)(hd:oe.data=.fields vs)(h1:vs[1]?=some (.ref T))(hT:s.heap.get? T=some oT)(lq:oT.data=.fields ts)(h3:3<ts.size)
  (h:∀ h',(∀ b o,b≠T->s.heap.get? b=some o->h'.get? b=some o)->(∃ oT ts,h'.get? T=some oT/\oT.data=.fields ts/\ts[3]?=some (fl.elim .none fun f=>rawInt f))->Q () { s with heap:=h' }):wpAny M A (setFlight (.ref e) fl) Q E s:=by
 unfold setFlight
 refine aac (wpAny_field he hd h1 ?_)
 rw [if_pos (show (Value.ref T != Value.none)=true from by simp)]
 refine wpAny_setField hT lq h3 (h _ (fun b o hb e=>(Heap.get?_update_other _ _ (Ne.symm hb)).trans e) ⟨_,_,Heap.get?_update_self _ hT (Obj.isFreed_of_fields (Obj.data_mapFields lq _)),Obj.data_mapFields lq _,?_⟩)
 simp [h3]
theorem w6{env:Env}{L e T:Addr}{oe oT:Obj}{vs ts:Array Value}{Q:Unit->Shared->Prop}(hf:env.frame=some L)(he:s.heap.get? e=some oe)(hd:oe.data=.fields vs)(h1:vs[1]?=some (.ref T))(hT:s.heap.get? T=some oT)(lq:oT.data=.fields ts)(h3:ts[3]?=some (rawInt L))(h:Q () s) :
  wpAny M A (noteFrame (.ref e) env) Q E s:=by
 unfold noteFrame
 simp only [hf]
 refine aac (wpAny_field he hd h1 ?_)
 rw [if_pos (show (Value.ref T != Value.none)=true from by simp)]
 refine aac (wpAny_field hT lq h3 ?_)
 rw [if_pos (by simp)]
 exact aau h
end
def VY(mg:Str->Option Value)(h:Heap)(H:Hp)(h0:Heap)(ps:List (Addr×Obj))(L a:Addr)(C:XC):Prop:=∃ oe vs T oT ts,h.get? a=some oe/\oe.cls=.ref C.1/\oe.dict=C.2/\oe.data=.fields vs/\vK (fJ mg C.1) vs/\vs[1]?=some (.ref T)/\T≠a/\h.get? T=some oT/\oT.data=.fields ts/\ts[3]?=some (rawInt L) /\
 H a=none/\(h0.get? a=none/\∀ p∈ps,p.1≠a)/\H T=none/\h0.get? T=none/\∀ p∈ps,p.1≠T
def XM(X:Cx)(EX:lH):Value->Shared->Prop:=fun e s'=>∃ a C σ' H',e=.ref a/\Inv X.Ei [] σ' H' s'/\VY X.mg s'.heap H' X.s₀.heap X.pn X.env.locals a C/\EX C σ' H'
def XP(X:Cx)(EX:lH):Value->Shared->Prop:=fun e s'=>XW X EX e s'\/XM X EX e s'
section
variable {X:Cx}{EX:lH}{σ:St}{H:Hp}{s:Shared}
theorem Inv.mark{T:Addr}{oT:Obj}{ts:Array Value}{h':Heap}(I:Inv X [] σ H s)(hT:s.heap.get? T=some oT)(lq:oT.data=.fields ts)(n1:H T=none)(n2:X.s₀.heap.get? T=none)(n3:∀ p∈X.pn,p.1≠T)(f1:∀ b o,b≠T->s.heap.get? b=some o->h'.get? b=some o)(f2:∃ o,h'.get? T=some o) :
  Inv X [] σ H { s with heap:=h' }:=by
 obtain ⟨m1,m2,m3⟩:=I.gd hT lq
 have HS:eQ X.prog X.w H h':=I.aR.off (ch:=[T]) (fun b hb=>by rw [show b=T by simpa using hb];exact n1) fun b o hb q=>f1 b o (by simpa using hb) q
 refine Inv.iu (s:=s) (h':=h') (t':=s.toks) (ch:=[T]) I (fun b hb=>?_) (fun b o b1 b2 b3 e _=>f1 b o (by simpa using b3) e) (fun b o b1 b2 b3 e _=>⟨o.slots,f1 b o (by simpa using b3) e⟩) (fun b o _ _ n=>n) (fun b o b3 e=>⟨o,f1 b o (by simpa using b3) e⟩) (fun b xs e=>e) (fun b o u e=>e) (fun b ps e=>⟨#[],by rw [e];simp⟩) (fun m hm=>?_) HS
 ·obtain rfl:b=T:=by simpa using hb
  exact⟨n2,m1,m2,fun p hp=>n3 p (by simpa using hp)⟩
 ·obtain ⟨o,es,ep,ho,wd,r⟩:=hm
  exact⟨o,es,ep,f1 _ o (fun z=>m1 z.symm) ho,wd,r⟩
theorem EW(iF:X.stack=X.env::X.outer)(jk:X.env.frame=some X.env.locals)(hex:X.ex=[]):PassesOwn (model X.prog X.w) X.A X.env (XP X EX):=by
 rintro e s' (h|h)
 ·obtain ⟨a,C,σ',H',rfl,I0,⟨oe,vs,T0,he,hc,qw,hd,hsz,hh,jl,⟨qz,tm⟩,pk⟩,hE⟩:=h
  have HU:X.Ei.A.frames=some (X.env::X.outer):=by rw [<- iF];exact I0.ok.frames
  refine mO (base:=X.base) (L:=X.env.locals) HU (iF ▸ I0.stack) jk he hd hh fun h1 T k1 k2 k3 k4 k5 k6=>?_
  obtain ⟨n1,n2,n3⟩:=I0.gd he hd
  have t1:∀ T',T0=some T'->∃ oT ts,s'.heap.get? T'=some oT/\oT.data=.fields ts:=fun T' z=>by
   subst z
   obtain ⟨_,_,oT,ts,q1,q2,_⟩:=hh
   exact⟨oT,ts,q1,q2⟩
  have BC:∀ b,b∈j2 (X.env::X.outer)->b=X.env.locals\/b∈X.fs:=fun b hb=>by
   rcases aaG.mp (I0.gT b (iF ▸ hb)) with z|z
   ·exact .inl z
   ·exact .inr z
  have off:Off (a::(T0.toList++j2 (X.env::X.outer))) s'.heap h1:=fun b o hb q=>by
   simp only [aaG,aaB,not_or] at hb
   exact k1 b o hb.1 (fun z=>hb.2.1 (by rw [<- z];simp)) hb.2.2 q
  have BD:eQ X.prog X.w H' h1:=I0.aR.off (fun b hb=>by
   simp only [aaG,aaB] at hb
   rcases hb with rfl|hb|hb
   ·exact jl
   ·cases T0 with
    | none=>simp at hb
    | some T1 =>
     simp only [Option.toList_some,aaA] at hb
     rw [hb];exact (pk T1 rfl).1
   ·exact I0.eh b (iF ▸ hb)) off
  have nS:∀ b,b∉(a::T0.toList)->b≠a/\some b≠T0:=fun b hb=>by
   simp only [aaG,not_or] at hb
   exact⟨hb.1,fun z=>hb.2 (by rw [<- z];simp)⟩
  have I2:Inv X.Ei [] σ' H' { s' with heap:=h1 }:=by
   refine I0.iu (h':=h1) (t':=s'.toks) (ch:=a::T0.toList) (fun b hb=>?_) (fun b o b1 b2 b3 e _=>?_) (fun b o b1 b2 b3 e _=>?_) (fun b o _ _ n=>n) (fun b o b3 e=>?_) (fun b xs e=>e) (fun b o u e=>e) (fun b ps e=>⟨#[],by rw [e];simp⟩) (fun m hm=>?_) BD
   ·rcases aaG.mp hb with rfl|hb
    ·exact⟨qz,n1,n2,fun p hp=>tm p (by simpa using hp)⟩
    ·cases T0 with
     | none=>simp at hb
     | some T1 =>
      simp only [Option.toList_some,aaA] at hb
      subst hb
      obtain ⟨oT,ts,q1,q2⟩:=t1 _ rfl
      obtain ⟨m1,m2,m3⟩:=I0.gd q1 q2
      exact⟨(pk _ rfl).2.1,m1,m2,fun p hp=>(pk _ rfl).2.2 p (by simpa using hp)⟩
   ·refine k1 b o (nS b b3).1 (nS b b3).2 (fun z=>?_) e
    rcases BC b z with q|q
    ·exact b1 q
    ·exact b2 q
   ·exact k2 b o (nS b b3).1 (nS b b3).2 e
   ·obtain ⟨sl,q⟩:=k2 b o (nS b b3).1 (nS b b3).2 e
    exact⟨_,q⟩
   ·obtain ⟨o,es,ep,ho,wd,r⟩:=hm
    obtain ⟨sl,q⟩:=k2 _ o (fun z=>n1 z.symm) (fun z=>by
     obtain ⟨oT,ts,q1,q2⟩:=t1 _ z.symm
     exact (I0.gd q1 q2).1 rfl) ho
    exact⟨_,es,ep,q,wd,r⟩
  have T2:H' T=none:=I0.aR.free k3
  have T3:X.s₀.heap.get? T=none:=by
   cases q:X.s₀.heap.get? T with
   | none=>rfl
   | some o =>
    obtain ⟨o',q1⟩:=I0.base.there T o q (by show T∉X.ex;rw [hex];simp)
    rw [k3] at q1;cases q1
  have T4:∀ p∈X.pn,p.1≠T:=fun p hp z=>by
   have:=(I0.pin p (aaz _ hp)).1
   rw [z,k3] at this;cases this
  obtain ⟨oT,ts,S0,EG,Lx⟩:=k6
  have BE:=Obj.data_mapFields hd (·.setIfInBounds 1 (Value.ref T))
  have zD:(vs.setIfInBounds 1 (Value.ref T))[1]?=some (.ref T):=by simp [hsz.1]
  unfold cameBackBy
  refine aac (wpAny_field k5 BE zD ?_)
  rw [if_neg (by simp)]
  rw [jk]
  refine eV k5 BE zD S0 EG (Array.getElem?_eq_some_iff.mp Lx).1 fun h2 f1 f2=>.inr ?_
  obtain ⟨HV,HW,q1,q2,q3⟩:=f2
  refine⟨a,C,σ',H',rfl,Inv.mark (s:={ s' with heap:=h1 }) I2 S0 EG T2 T3 T4 f1 ⟨_,q1⟩,⟨_,_,T,HV,HW,f1 _ _ (Ne.symm k4) k5,(Obj.cls_mapFields _ _).trans hc,(bM _ _).trans qw,BE,hsz.set,zD,k4,q1,q2,q3,jl,⟨qz,tm⟩,T2,T3,T4⟩,hE⟩
 ·obtain ⟨a,C,σ',H',rfl,I0,⟨oe,vs,T,oT,ts,he,hc,qw,hd,hsz,h1,M3,hT,lq,h3,jl,⟨qz,tm⟩,T2,T3,T4⟩,hE⟩:=h
  refine w6 jk he hd h1 hT lq h3 ?_
  unfold cameBackBy
  refine aac (wpAny_field he hd h1 ?_)
  rw [if_neg (by simp)]
  rw [jk]
  refine eV he hd h1 hT lq (Array.getElem?_eq_some_iff.mp h3).1 fun h2 f1 f2=>.inr ?_
  obtain ⟨HV,HW,q1,q2,q3⟩:=f2
  exact⟨a,C,σ',H',rfl,Inv.mark I0 hT lq T2 T3 T4 f1 ⟨_,q1⟩,⟨oe,vs,T,HV,HW,f1 _ _ (Ne.symm M3) he,hc,qw,hd,hsz,h1,M3,q1,q2,q3,jl,⟨qz,tm⟩,T2,T3,T4⟩,hE⟩
end
theorem Ly{P:Program}{w:World}{K:Frag}{mg:Str->Option Value}{base:Heap}{N:List Str}{qual:Str}{scope:Scope}{f:Addr}{cd:Value}{A:Around}{outer:List Env}{s:Shared}{H:Hp}{E:XK}{e:Value}{s':Shared}
  (h:XP (k7 (Ll P w mg) P w K mg base N qual scope f cd A outer s H E) (fun C _ H'=>E (.ref C.1) C.2 H') e s'):(k7 (Ll P w mg) P w K mg base N qual scope f cd A outer s H E).xe e s':=by
 rcases h with h|h
 ·exact HH h
 obtain ⟨a,C,σ',H',rfl,I,⟨oe,vs,T,oT,ts,he,hc,qw,hd,hsz,h1,M3,hT,lq,h3,jl,⟨qz,tm⟩,T2,T3,T4⟩,hE⟩:=h
 have jh:s.heap.get? a=none:=qz
 have YB:s.heap.get? T=none:=T3
 show wpAny (model P w) (A.deeper (envOfC qual scope s.heap.objs.size f cd)) (leaving (envOfC qual scope s.heap.objs.size f cd) (.ref a)) _ _ s'
 unfold leaving
 refine aac (w6 (L:=s.heap.objs.size) rfl he hd h1 hT lq h3 (eV (fl:=none) he hd h1 hT lq (Array.getElem?_eq_some_iff.mp h3).1 fun h' f1 f2=>?_))
 have neT:∀ b o,s.heap.get? b=some o->b≠T:=fun b o q z=>by rw [z,YB] at q;cases q
 refine⟨a,C,H',rfl,I.os,I.bare,⟨fun b o q n hb hx=>f1 b o (neT b o q) (I.base.keep b o q n hb hx),fun b o q n hb hx=>?_,fun b o q n hx=>I.base.free b o q n hx,fun b o q hx=>?_,I.base.jn,I.base.je,I.base.jo⟩,I.aR.off (ch:=[T]) (fun b hb=>by rw [show b=T by simpa using hb];exact T2) fun b o hb q=>f1 b o (by simpa using hb) q,?_,hE⟩
 ·obtain ⟨sl,q1⟩:=I.base.slot b o q n hb hx
  exact⟨sl,f1 _ _ (neT b o q) q1⟩
 ·obtain ⟨o',q1⟩:=I.base.there b o q hx
  exact⟨o',f1 _ _ (neT b o q) q1⟩
 ·exact⟨oe,vs,some T,f1 _ _ (Ne.symm M3) he,hc,qw,hd,hsz,⟨h1,M3,f2⟩,jl,⟨jh,fun _ z=>nomatch z⟩,fun T' e=>by cases e;exact⟨T2,YB,fun _ z=>nomatch z⟩⟩
section
variable {P:Program}{w:World}{K:Frag}{mg:Str->Option Value}{base:Heap}
theorem Def.S1{x:Str}{st:Stmt}{N ps:List Str}{k:Nat}{sp:Sp}(D:Def K mg x st ps)(S:aE N ps (aq st))(len:∀ vs H Q E,sp vs H Q E->vs.length=ps.length)
  (iq:∀ (f:Addr) (bU:Value) (A:Around) (outer:List Env) (s:Shared) (H:Hp) (vs:List V) (Q:VK) (E:XK),de k (A.deeper (envOfC x (aq st) s.heap.objs.size f bU))->sp vs H Q E ->
   ∃ t,nv ((k7 (Ll P w mg) P w K mg base N x (aq st) f bU A outer s H E).dQ (XP (k7 (Ll P w mg) P w K mg base N x (aq st) f bU A outer s H E) fun C _ H'=>E (.ref C.1) C.2 H')) (cx st) t/\t { nx:=fun _ H'=>Q .dt H',rt:=Q } (start N vs) H):rU P w K mg base (k+1) x ps sp:=by
 obtain ⟨f,fd,F,hm,hb⟩:=D
 obtain ⟨oc,od,kV,doc,pm,an,bU,ct,Es,rfl,lk,ny⟩:=F.ex
 refine⟨f,_,GB lk ny S len fun A outer s H vs Q E hr tq=>?_,hm,F.kp,hb⟩
 obtain ⟨t,h,q⟩:=iq f bU A outer s H vs Q E hr tq
 exact⟨t,h.xe fun e s z=>Ly z,q⟩
end
open PySem PySem.Spec PyProof.Rows
def O1(K:Frag)(neg:Bool):R2:=fun x y H Q=>∃ (p:Addr) (ys:List V) (d:PyData) (ds:List PyData),y=.ref p/\bA K H p ys/\Tells K H ys ds/\d3 K H x d/\PyData.canLayAll0 ds=true/\d.canLay0=true/\d.depth<=60/\Q (.bl (if neg then !ds.any fun z=>PyData.eqv z d else ds.any fun z=>PyData.eqv z d)) H
def DF:V->List V->Hp->VK->Prop:=fun x vs H Q=>∃ (l:Addr) (xs:List V) (i:Nat) (y:V),x=.ref l/\vs=[.int i,y]/\H l=some (.lst xs)/\xs.length<=1000/\i<=1000/\Q .dt (upd H l (.lst (xs.take i++y::xs.drop i)))
section
variable {X:Cx}
theorem O2(hu:X.A.units+64<cLine):ij X (compareOp .In) (O1 X.K false):=by
 intro pins s σ H x y v u Q I rx ry h
 obtain ⟨p,ys,d,ds,rfl,hs,ht,hd,c1,c2,hz,q⟩:=h
 obtain ⟨as,ra⟩:=(d3.lst hs ht).reads I ry
 obtain ⟨bs,rb⟩:=hd.reads I rx
 exact SeqAt.in_list_reads ra rb c1 c2 (by have:=min_le_right (PyData.depthAll ds) d.depth;lia) ⟨.bl _,H,I,rfl,q⟩
theorem Lz(K:Frag)(hK:X.K=K)(hu:X.A.units+64<cLine):ij X (compareOp .In) (O1 K false):=hK ▸ O2 hu
theorem LA(its:List Value)(i:Nat)(u:Value):(fun xs:Array Value=>have k:=if (i:Int)<0 then ((i:Int)+(xs.size:Int)).toNat else min (i:Int).toNat xs.size;(xs.extract 0 k).push u++xs.extract k) its.toArray=(its.take i++u::its.drop i).toArray:=by
 have h0:¬ (i:Int)<0:=by lia
 simp only [h0,if_false,aaZ,aaO]
 apply Array.ext'
 simp only [Array.toList_append,Array.toList_push,Array.toList_extract,List.extract_eq_take_drop,sub_zero,drop_zero,aaO]
 by_cases h:i<=its.length
 ·rw [min_eq_left h]
  rw [aaS (l:=its.drop i) (by rw [length_drop];lia)]
  simp
 ·have h':its.length<=i:=by lia
  rw [min_eq_right h',aaS (l:=its) (aai _),aaS (l:=its) h',drop_of_length_le (aai _),drop_of_length_le h']
  simp
theorem EZ:Vi X "list.insert" DF:=by
 intro pins s σ H x vs v us Q I rx rv h
 obtain ⟨l,xs,i,y,rfl,rfl,hH,hz,hi,q⟩:=h
 cases rx
 obtain ⟨ui,u,rfl,ri,ru⟩:=vals2 rv
 obtain ⟨t,rfl⟩:=ri
 obtain ⟨z,its,n,r,hl,e⟩:=I.Ew hH
 have hlen:=r.length
 have ZW:Builtin.List.listFitsIndex (i:Int)=true:=by
  unfold Builtin.List.listFitsIndex
  simp only [Bool.and_eq_true,decide_eq_true_eq]
  lia
 refine call_meets F.slot_list_insert ⟨_,e,rfl⟩ F.entry_list_insert (F.args_list_insert_3 _ _ _) (@AutoSeq1.list_insert_list_int_val_1 l its.toArray n (i:Int) t u (by rw [ZW];decide) (by rw [aaO,<- hlen];exact aaj (bW hz))) ⟨e,?_⟩
 refine⟨.dt,_,I.Oa (its':=its.take i++u::its.drop i) hH e (LA its i u) ((r.take i).append (.cons ru (r.drop i))) ?_,rfl,q⟩
 simp only [aaE,length_cons,aaN,length_drop]
 have:xs.length+1<=sizeLine:=Nat.succ_le_of_lt (bW hz)
 lia
end
section
variable {K:Frag}{H:Hp}{Q:VK}{σ:St}
theorem S2{x:V}{p:Addr}{ys:List V}{d:PyData}{ds:List PyData}(hs:bA K H p ys)(ht:Tells K H ys ds)(hd:d3 K H x d)(c1:PyData.canLayAll0 ds=true)(c2:d.canLay0=true)(hz:d.depth<=60)(h:Q (.bl (ds.any fun z=>PyData.eqv z d)) H):O1 K false x (.ref p) H Q:=⟨p,ys,d,ds,rfl,hs,ht,hd,c1,c2,hz,h⟩
theorem HX{l:Addr}{xs:List V}{i:Nat}{y:V}(e:H l=some (.lst xs))(n:xs.length<=1000)(hi:i<=1000)(h:Q .dt (upd H l (.lst (xs.take i++y::xs.drop i)))):DF (.ref l) [.int i,y] H Q:=⟨l,xs,i,y,rfl,rfl,e,n,hi,h⟩
def M4:List V->Hp->(It->Hp->Prop)->Prop:=fun vs H R=>∃ i j:Int,vs=[.int i,.int j]/\(-(2 ^ 62)<=i/\i<2 ^ 62/\-(2 ^ 62)<=j/\j<2 ^ 62)/\R (KC i (j - i).toNat) H
theorem LB{ts:TA}{R:It->Hp->Prop}(h:ts σ H fun vs H1=>M4 vs H1 R):MG ts σ H R:=h
theorem O3{i j:Int}{R:It->Hp->Prop}(h1:-1000000<=i/\i<=1000000)(h2:-1000000<=j/\j<=1000000)(h:R (KC i (j - i).toNat) H):M4 [.int i,.int j] H R:=⟨i,j,rfl,⟨by lia,by lia,by lia,by lia⟩,h⟩
theorem LC{xs:List V}{j:Nat}:nG xs none (some (j:Int))=xs.take j:=by
 unfold nG
 rw [HT.zg,HT.Di,sub_zero,drop_zero]
 by_cases h:j<=xs.length
 ·rw [min_eq_left h]
 ·rw [min_eq_right (by lia),aaS (by lia),aaS (by lia)]
theorem LD{xs:List V}{j:Nat}:nG xs (some (j:Int)) none=xs.drop j:=by
 unfold nG
 rw [HT.zg,HT.Di]
 by_cases h:j<=xs.length
 ·rw [min_eq_left h,aaS (by rw [length_drop];lia)]
 ·rw [min_eq_right (by lia),Nat.sub_self,take_zero,drop_of_length_le (by lia)]
theorem HY{a:Addr}{xs:List V}{j:Nat}(e:bA K H a xs)(h:∀ p H2,H p=none->ah H H2->H2 p=some (.lst (xs.take j))->Q (.ref p) H2):GH K (.ref a) none (some (j:Int)) H Q :=
 M1 e fun p H2 n s m=>h p H2 n s (by rw [LC] at m;exact m)
theorem O4{a:Addr}{xs:List V}{j:Nat}(e:bA K H a xs)(h:∀ p H2,H p=none->ah H H2->H2 p=some (.lst (xs.drop j))->Q (.ref p) H2):GH K (.ref a) (some (j:Int)) none H Q :=
 M1 e fun p H2 n s m=>h p H2 n s (by rw [LD] at m;exact m)
theorem zE:∀ (r q:List Int),PyData.eqvAll (r.map PyData.int) (q.map PyData.int)=decide (r=q)
 | [],[]=>rfl
 | [],_::_=>rfl
 | _::_,[]=>rfl
 | x::r,y::q=>by
  have h:=zE r q
  simp only [map_cons,PyData.eqvAll,h,PyData.eqv]
  by_cases e:x=y
  ·subst e;by_cases e2:r=q <;> simp [e2]
  ·simp [e]
theorem LF(r q:List Int):PyData.eqv (.tuple (r.map PyData.int)) (.tuple (q.map PyData.int))=decide (r=q):=by
 rw [<- zE r q]
 simp [PyData.eqv]
theorem lay_ints:∀ r:List Int,PyData.canLayAll0 (r.map PyData.int)=true
 | []=>rfl
 | _::r=>by simp only [map_cons,PyData.canLayAll0,lay_ints r,PyData.canLay0,Bool.and_self]
end
end L2
namespace L2
open PySem PySem.Spec PyProof.Rows PySem.W
abbrev QE(A:Around):Around:={ A with handled:=none }
abbrev jy(k:Nat)(A:Around):Prop:=de k (QE A)
abbrev S3(CX:A4)(P:Program)(w:World)(K:Frag)(mg:Str->Option Value)(base:Heap)(N:List Str)(qual:Str)(scope:Scope)(f:Addr)(cd:Value)(A:Around)(outer:List Env)(s:Shared)(H:Hp)(E:XK):Cx :=
 { k7 CX P w K mg base N qual scope f cd A outer s H E with calm:=false }
theorem qr.QE{P:Program}{w:World}{K:Frag}{mg:Str->Option Value}{base:Heap}{A:Around}{outer:List Env}{s:Shared}{H:Hp}(e:qr P w K mg base A outer s H):qr P w K mg base (QE A) outer s H :=
 ⟨e.frames,e.mod,e.bs,e.wb,e.iC,e.Ef,e.aR,e.bare⟩
theorem BF{CX:A4}{P:Program}{w:World}{K:Frag}{mg:Str->Option Value}{base:Heap}{N ps:List Str}{qual:Str}{scope:Scope}{f:Addr}{cd:Value}{A:Around}{outer:List Env}{s s1:Shared}{H:Hp}{E:XK}{us:List Value}{vs:List V}
  (S:aE N ps scope) (e0:qr P w K mg base A outer s H) (hl:vs.length=ps.length) (r:Vals vs us)
  (x:InCallC s s.heap.objs.size (bindL (envOfC qual scope s.heap.objs.size f cd).kindOf (ps.zip us) fun _=>none) (cellsFrom (s.heap.objs.size+1) scope.names []) (bindC (envOfC qual scope s.heap.objs.size f cd).kindOf (ps.zip us) fun _=>none) s1) :
  Inv (S3 CX P w K mg base N qual scope f cd A outer s H E) [] (start N vs) H s1:=by
 have I:=vA (CX:=CX) (E:=E) (A:=QE A) S rfl e0.QE hl r x
 exact⟨⟨I.ok.mod,I.ok.kind,I.ok.glob,I.ok.blt,I.ok.above,I.ok.inj,I.ok.has,I.ok.Ka,(fun z=>nomatch z),Around.frames_deeper e0.frames,I.ok.Ku,I.ok.NC,I.ok.bs,I.ok.wb,I.ok.qp,I.ok.wc,I.ok.iC,I.ok.Ef⟩,I.os,I.bare,I.base,I.loc,I.cell,I.free,I.d0,I.pin,I.aR,I.len⟩
theorem de.ZX{j k:Nat}{A:Around}{h:Option Value}(r:de k A)(YC:j<=k):jy j (A.mark h):=⟨rfl,(r.mono YC).dp,(r.mono YC).un⟩
structure M5(P:Program)(w:World)(K:Frag)(mg:Str->Option Value)(base:Heap)(CX:A4)(k:Nat)(f:Addr)(fd:FuncData)(ps:List Str)(sp:Sp):Prop where
 len:∀ vs H Q E,sp vs H Q E->vs.length=ps.length
 run:∀ (A:Around) (outer:List Env) (s:Shared) (H:Hp) (args:Args) (us:List Value) (vs:List V) (Q:VK) (E:XK),jy k A->qr P w K mg base A outer s H->BindsTo s fd args (ps.zip us)->Vals vs us->sp vs H Q E ->
  codeAny (model P w) A (.call (.ref f) args) (CR CX outer P w H s Q E) s
theorem O5{CX:A4}{P:Program}{w:World}{K:Frag}{mg:Str->Option Value}{base:Heap}{k:Nat}{f:Addr}{name qual:Str}{params:Arguments}{body:List Stmt}{scope:Scope}{dV kV doc pm bU ct oc:Value}{an od:Option Addr}
  {Es:Array (Option Value)} {N ps:List Str} {sp:Sp} (lk:K.lookup f=some ⟨oc,od,.func (fnOf name qual params body scope dV kV doc pm an bU ct),Es⟩) (ny:codeIn K bU qual=true) (S:aE N ps scope)
  (len:∀ vs H Q E,sp vs H Q E->vs.length=ps.length)
  (iq:∀ (A:Around) (outer:List Env) (s:Shared) (H:Hp) (vs:List V) (Q:VK) (E:XK),jy k (A.deeper (envOfC qual scope s.heap.objs.size f bU))->sp vs H Q E ->
   ∃ t,nv (S3 CX P w K mg base N qual scope f bU A outer s H E) body t/\t { nx:=fun _ H'=>Q .dt H',rt:=Q } (start N vs) H) :
  M5 P w K mg base CX (k+1) f (fnOf name qual params body scope dV kV doc pm an bU ct) ps sp:=by
 refine⟨len,fun A outer s H args us vs Q E hr e0 hb r tq=>?_⟩
 have hl:=len _ _ _ _ tq
 have YD:K.In s.heap:=e0.mod.F6.keeps fun b o e=>(e0.bs b o e).1
 have lim:s.heap.NoLimit:=e0.mod.nolimit.keeps fun b o e=>(e0.bs b o e).1
 have kinds:∀ y∈ps.zip us,scope.names.lookup y.1=some .local\/(scope.names.lookup y.1=some .cell/\((cellsFrom (s.heap.objs.size+1) scope.names []).lookup y.1).isSome=true):=fun ⟨n,v⟩ hy =>
  (S.par n (of_mem_zip hy).1).imp id fun q=>⟨q,cellsFrom_some _ _ _ (.inl q)⟩
 have dep:A.depth<recursionLimit:=hr.depth
 refine codeAny_call_function dep (YD _ _ lk) rfl S.co S.gen rfl (codeRec_of YD ny) (hb _ _ _ _ (wpAny_newFunctionEnv_cells S.kind kinds fun env he s1 x=>?_))
 subst he
 obtain ⟨t,ht,hq⟩:=iq A outer s H vs Q E (hr.deeper _) tq
 have I:Inv (S3 CX P w K mg base N qual scope f bU A outer s H E) [] (start N vs) H s1:=BF S e0 hl r x
 refine⟨lim.keeps x.toInCall.keep,codeAny_func (aav (ht [] s1 (start N vs) H _ I hq) (fun fl s' hs=>?_) fun e s' hs=>hs)⟩
 have fin:∀ {σ':St} {H':Hp} {v:V} {u:Value},Inv (S3 CX P w K mg base N qual scope f bU A outer s H E) [] σ' H' s'->RelV v u->Q v H'->CE outer P w H s Q u s':=fun J rv q=>⟨_,_,J.os,J.bare,J.base,J.aR,rv,q⟩
 cases fl with
 | ret u =>
  obtain ⟨v,σ',H',J,rv,q⟩:=hs
  exact fin J rv q
 | next =>
  obtain ⟨σ',H',J,q⟩:=hs
  exact fin (v:=V.dt) (u:=Value.none) J rfl q
 | brk=>exact hs.elim fun _ z=>z.elim fun _ z=>z.2.elim
 | cont=>exact hs.elim fun _ z=>z.elim fun _ z=>z.2.elim
open PySem PySem.Spec PyProof.Rows
section
variable {κ:Type} [DecidableEq κ]
def dS(aC:List (κ×V))(k:κ):Option V:=(aC.find? fun kv=>decide (kv.1=k)).map (·.2)
def putK(aC:List (κ×V))(k:κ)(v:V):List (κ×V) :=
 if (aC.any fun kv=>decide (kv.1=k))=true then aC.map (fun kv=>if kv.1=k then (kv.1,v) else kv) else aC++[(k,v)]
theorem dv{p:κ×V}{r:List (κ×V)}{k:κ}(e:p.1=k):dS (p::r) k=some p.2:=by simp [dS,find?_cons,e]
theorem cW{p:κ×V}{r:List (κ×V)}{k:κ}(e:¬ p.1=k):dS (p::r) k=dS r k:=by simp [dS,find?_cons,e]
theorem mP(k:κ):∀ aC:List (κ×V),(aC.any fun kv=>decide (kv.1=k))=(dS aC k).isSome
 | []=>rfl
 | p::r=>by
  rw [any_cons]
  by_cases e:p.1=k
  ·simp only [dv e,aas e,Bool.true_or,Option.isSome_some]
  ·rw [cW e,aar e,Bool.false_or];exact mP k r
theorem zF(k j:κ)(y:V):∀ aC:List (κ×V),dS (aC.map fun kv=>if kv.1=k then (kv.1,y) else kv) j=(dS aC j).map fun x=>if j=k then y else x
 | []=>rfl
 | p::r=>by
  have ih:=zF k j y r
  rw [map_cons]
  by_cases h:p.1=k
  ·rw [if_pos h]
   by_cases e:p.1=j
   ·rw [dv (p:=(p.1,y)) e,dv e,Option.map_some,if_pos (e.symm.trans h)]
   ·rw [cW (p:=(p.1,y)) e,cW e,ih]
  ·rw [if_neg h]
   by_cases e:p.1=j
   ·rw [dv (p:=p) e,dv e,Option.map_some,if_neg (fun z=>h (e.trans z))]
   ·rw [cW (p:=p) e,cW e,ih]
theorem vN(k j:κ)(y:V):∀ aC:List (κ×V),dS aC k=none->dS (aC++[(k,y)]) j=if j=k then some y else dS aC j
 | [],_=>by
  by_cases e:k=j
  ·rw [if_pos e.symm];exact dv (p:=(k,y)) e
  ·rw [if_neg (fun z=>e z.symm)];exact cW (p:=(k,y)) e
 | p::r,hn=>by
  rw [cons_append]
  have hk:¬ p.1=k:=fun z=>by rw [dv z] at hn;cases hn
  rw [cW hk] at hn
  have ih:=vN k j y r hn
  by_cases e:p.1=j
  ·rw [dv e,dv e,if_neg (fun z=>hk (e.trans z))]
  ·rw [cW e,cW e,ih]
theorem zG(aC:List (κ×V))(k j:κ)(y:V):dS (putK aC k y) j=if j=k then some y else dS aC j:=by
 unfold putK
 by_cases a:(aC.any fun kv=>decide (kv.1=k))=true
 ·rw [if_pos a,zF]
  rw [mP] at a
  by_cases e:j=k
  ·obtain ⟨x,hx⟩:=aat.mp a
   rw [if_pos e,e,hx,Option.map_some,if_pos rfl]
  ·rw [if_neg e]
   cases dS aC j with
   | none=>rfl
   | some x=>rw [Option.map_some,if_neg e]
 ·rw [if_neg a]
  refine vN k j y aC ?_
  rw [mP] at a
  cases q:dS aC k with
  | none=>rfl
  | some x=>rw [q] at a;exact (a rfl).elim
theorem gA(aC:List (κ×V))(k:κ)(v:V):(putK aC k v).length<=aC.length+1:=by
 unfold putK
 split
 ·rw [aaD];lia
 ·rw [aaE,length_cons,length_nil];lia
theorem ik.vO{o:Option V}{u:Option Value}(r:ik o u):o.isSome=u.isSome:=by
 cases o with
 | none=>cases u with
  | none=>rfl
  | some _=>exact (show False from r).elim
 | some _=>cases u with
  | none=>exact (show False from r).elim
  | some _=>rfl
theorem ik.getD{o:Option V}{u:Option Value}{d:V}{d':Value}(r:ik o u)(rd:RelV d d'):RelV (o.getD d) (u.getD d'):=by
 cases o with
 | none=>cases u with
  | none=>exact rd
  | some _=>exact (show False from r).elim
 | some _=>cases u with
  | none=>exact (show False from r).elim
  | some _=>exact r
theorem KV.val{aC:List (κ×V)}{vs:List (κ×Value)}(r:KV aC vs)(k:κ):ik (dS aC k) (valueAt vs k):=by
 unfold KV at r
 induction r with
 | nil=>exact True.intro
 | @cons p q ps qs h t ih =>
  obtain ⟨h1,h2⟩:=h
  by_cases e:p.1=k
  ·have e':q.1=k:=h1.symm.trans e
   have b:valueAt (q::qs) k=some q.2:=by simp [valueAt,find?_cons,e']
   rw [dv e,b];exact h2
  ·have e':¬ q.1=k:=fun z=>e (h1.trans z)
   have b:valueAt (q::qs) k=valueAt qs k:=by simp [valueAt,find?_cons,e']
   rw [cW e,b];exact ih
theorem KV.any{aC:List (κ×V)}{vs:List (κ×Value)}(r:KV aC vs)(k:κ):(aC.any fun kv=>decide (kv.1=k))=vs.any fun kv=>decide (kv.1=k):=by
 unfold KV at r
 induction r with
 | nil=>rfl
 | cons h t ih=>rw [any_cons,any_cons,ih,h.1]
theorem KV.O6{aC:List (κ×V)}{vs:List (κ×Value)}(r:KV aC vs)(k:κ){y:V}{u:Value}(ry:RelV y u) :
  KV (aC.map fun kv=>if kv.1=k then (kv.1,y) else kv) (vs.map fun kv=>if kv.1=k then (kv.1,u) else kv):=by
 unfold KV at r ⊢
 induction r with
 | nil=>exact .nil
 | @cons p q ps qs h t ih =>
  rw [map_cons,map_cons]
  refine .cons ?_ ih
  obtain ⟨h1,h2⟩:=h
  by_cases e:p.1=k
  ·rw [if_pos e,if_pos (h1.symm.trans e)];exact⟨h1,ry⟩
  ·rw [if_neg e,if_neg (fun z=>e (h1.trans z))];exact⟨h1,h2⟩
theorem KV.put{aC:List (κ×V)}{vs:List (κ×Value)}(r:KV aC vs)(k:κ){y:V}{u:Value}(ry:RelV y u):KV (putK aC k y) (stored vs k u):=by
 unfold putK stored
 rw [r.any k]
 by_cases e:(vs.any fun kv=>decide (kv.1=k))=true
 ·rw [if_pos e,if_pos e];exact r.O6 k ry
 ·rw [if_neg e,if_neg e];exact Paired.snoc r ⟨rfl,ry⟩
theorem KV.length{aC:List (κ×V)}{vs:List (κ×Value)}(r:KV aC vs):aC.length=vs.length:=Paired.length r
end
theorem vP{P:Program}{w:World}{k:Key}{u:Value}(r:RelV (kV k) u):(bQ P w).is k u=true:=by
 cases k with
 | inl i=>obtain ⟨t,e⟩:=(show ∃ t,u=Value.int i t from r);subst e;exact y1 P w i t
 | inr x=>obtain ⟨t,e⟩:=(show ∃ t,u=Value.str x t from r);subst e;exact y2 P w x t
theorem vQ{P:Program}{w:World}:∀ {ks:List Key} {us:List Value},Vals (ks.map kV) us->ItemsAre (bQ P w) ks us
 | [],_,r=>by rw [map_nil] at r;cases r;exact .nil
 | k::ks,_,r=>by
  rw [map_cons] at r
  cases r with
  | cons h t=>exact .cons (vP h) (vQ t)
abbrev KT(H:Hp):List (List Key×V)->List (List Key×Addr×Value)->Prop:=Paired fun p q=>p.1=q.1/\H q.2.1=some (.tup (p.1.map kV))/\RelV p.2 q.2.2
theorem KT.val{H:Hp}{aC:List (List Key×V)}{xs:List (List Key×Addr×Value)}(r:KT H aC xs)(k:List Key):ik (dS aC k) ((atKey xs k).map (·.2)):=by
 induction r with
 | nil=>exact True.intro
 | @cons p q ps qs h t ih =>
  obtain ⟨h1,_,h2⟩:=h
  by_cases e:p.1=k
  ·have e':q.1=k:=h1.symm.trans e
   have b:atKey (q::qs) k=some q.2:=by simp [atKey,find?_cons,e']
   rw [dv e,b];exact h2
  ·have e':¬ q.1=k:=fun z=>e (h1.trans z)
   have b:atKey (q::qs) k=atKey qs k:=by simp [atKey,find?_cons,e']
   rw [cW e,b];exact ih
theorem KT.O6{H:Hp}{aC:List (List Key×V)}{xs:List (List Key×Addr×Value)}(r:KT H aC xs)(k:List Key){y:V}{u:Value}(ry:RelV y u) :
  KT H (aC.map fun kv=>if kv.1=k then (kv.1,y) else kv) (xs.map (putAt k u)):=by
 induction r with
 | nil=>exact .nil
 | @cons p q ps qs h t ih =>
  rw [map_cons,map_cons]
  refine .cons ?_ ih
  obtain ⟨h1,h2,h3⟩:=h
  unfold putAt
  by_cases e:p.1=k
  ·rw [if_pos e,if_pos (h1.symm.trans e)];exact⟨h1,h2,ry⟩
  ·rw [if_neg e,if_neg (fun z=>e (h1.trans z))];exact⟨h1,h2,h3⟩
theorem KT.put{H:Hp}{aC:List (List Key×V)}{xs:List (List Key×Addr×Value)}(r:KT H aC xs)(k:List Key){b:Addr}{y:V}{u:Value}(hb:H b=some (.tup (k.map kV)))(ry:RelV y u) :
  KT H (putK aC k y) (storedH xs k b u):=by
 have e:(aC.any fun kv=>decide (kv.1=k))=(atKey xs k).isSome:=by
  rw [mP,(r.val k).vO,Option.isSome_map]
 unfold putK storedH
 rw [e]
 by_cases q:(atKey xs k).isSome=true
 ·rw [if_pos q,if_pos q];exact r.O6 k ry
 ·rw [if_neg q,if_neg q];exact Paired.snoc r ⟨rfl,hb,ry⟩
theorem KT.keeps{H H':Hp}{aC:List (List Key×V)}{xs:List (List Key×Addr×Value)}(r:KT H aC xs)(ht:∀ b ys,H b=some (.tup ys)->H' b=some (.tup ys)):KT H' aC xs :=
 Paired.NB r fun _ _ z=>⟨z.1,ht _ _ z.2.1,z.2.2⟩
section
variable {P:Program}{w:World}{H:Hp}{h:Heap}{a:Addr}
theorem M6{u:HO}(ok:eQ P w H h)(e:Rd H a u):bJ P w H h a u:=e.ok ok
theorem HZ{aC:List (Key×V)}(ok:eQ P w H h)(e:Rd H a (.dK aC)):aC.length<=sizeLine/\(a == sysModules)=false/\∃ vs,KV aC vs/\h.DictOf (bQ P w) a vs :=
 show bJ P w H h a (.dK aC) from M6 ok e
theorem M7{aC:List (Key×V)}(ok:eQ P w H h)(e:H a=some (.dK aC)):aC.length<=sizeLine/\(a == sysModules)=false/\∃ vs,KV aC vs/\h.DictOf (bQ P w) a vs:=HZ ok (.inl e)
theorem BG{ks:List Key}(ok:eQ P w H h)(e:H a=some (.tup (ks.map kV))):(tupleKind (bQ P w)).is h ks a:=by
 obtain ⟨_,its,r,o,h1,h2,n,h3⟩:=(show bJ P w H h a (.tup (ks.map kV)) from ok a _ e)
 exact⟨o,its.toArray,n,h1,h2,h3,by simpa using vQ r⟩
theorem H0{aC:List (List Key×V)}(ok:eQ P w H h)(e:Rd H a (.dT aC)):aC.length<=sizeLine/\(a == sysModules)=false /\
  ∃ xs,KT H aC xs/\h.DictOfH (tupleKind (bQ P w)) a xs:=by
 obtain ⟨z,y,xs,r,o,es,ep,h1,h2,h3,h4,h5⟩:=(show bJ P w H h a (.dT aC) from M6 ok e)
 refine⟨z,y,xs,r,o,es,ep,h1,h2,h3,h4,fun x hx=>?_,h5⟩
 have all:∀ {l:List (List Key×V)} {m:List (List Key×Addr×Value)},KT H l m->∀ x∈m,(tupleKind (bQ P w)).is h x.1 x.2.1:=by
  intro l m q
  induction q with
  | nil=>intro x hx;exact nomatch hx
  | @cons p q ps qs hq t ih =>
   intro x hx
   rcases aaG.mp hx with e|hx
   ·subst e
    exact BG ok (by rw [<- hq.1];exact hq.2.1)
   ·exact ih x hx
 exact all r x hx
theorem S4{aC:List (List Key×V)}(ok:eQ P w H h)(e:H a=some (.dT aC)):aC.length<=sizeLine/\(a == sysModules)=false /\
  ∃ xs,KT H aC xs/\h.DictOfH (tupleKind (bQ P w)) a xs:=H0 ok (.inl e)
end
def E1(H:Hp)(a:Addr)(y:V)(r:Option V):Prop :=
 (∃ aC k,Rd H a (.dK aC)/\y=kV k/\r=dS aC k)\/∃ aC k b,Rd H a (.dT aC)/\y=.ref b/\H b=some (.tup (k.map kV))/\r=dS aC k
def E2(H:Hp)(a:Addr)(y v:V)(H':Hp):Prop :=
 (∃ aC k,H a=some (.dK aC)/\y=kV k/\aC.length<sizeLine/\H'=upd H a (.dK (putK aC k v))) \/
 ∃ aC k b,H a=some (.dT aC)/\y=.ref b/\H b=some (.tup (k.map kV))/\aC.length<sizeLine/\H'=upd H a (.dT (putK aC k v))
theorem E1.k{H:Hp}{a:Addr}{aC:List (Key×V)}{k:Key}(e:H a=some (.dK aC)):E1 H a (kV k) (dS aC k):=.inl ⟨aC,k,.inl e,rfl,rfl⟩
theorem E2.k{H:Hp}{a:Addr}{aC:List (Key×V)}{k:Key}{v:V}(e:H a=some (.dK aC))(hl:aC.length<sizeLine):E2 H a (kV k) v (upd H a (.dK (putK aC k v))):=.inl ⟨aC,k,e,rfl,hl,rfl⟩
section
variable {X:Cx}{pins:List (Addr×Obj)}{σ:St}{H:Hp}{s:Shared}{a:Addr}{y v:V}{u r:Value}{o:Option V}{A:Around}{E:Value->Shared->Prop}
theorem Inv.big(I:Inv X pins σ H s):sysModules<s.heap.objs.size:=by
 have h:mainGlobals<s.heap.objs.size:=(I.mod.glob.keeps I.bk).lt
 exact Nat.lt_trans (by decide) h
theorem w8{h':Heap}{t':Nat}{ob:HO}(I:Inv X pins σ H s)(mu:QX (H a))(hs:Heap.SameBut a s.heap h')(he:∃ q,h'.get? a=some q)(new:bJ X.prog X.w (upd H a ob) h' a ob) :
  Inv X pins σ (upd H a ob) { s with heap:=h',toks:=t' } :=
 I.write (x:=a) (e:=a) mu (.inl rfl) (fun b q hb z=>(hs.2 b hb).trans z) he new
theorem Ia{P:Program}{w:World}{H':Hp}{h':Heap}{aC:List (Key×V)}{vs:List (Key×Value)}(z:aC.length<=sizeLine)(hd:(a == sysModules)=false)(rel:KV aC vs)(dd:h'.DictOf (bQ P w) a vs) :
  bJ P w H' h' a (.dK aC):=⟨z,hd,vs,rel,dd⟩
theorem E3{H':Hp}{Q:Unit->Shared->Prop}(hu:A.units+1<cLine)(I:Inv X pins σ H s)(g:E2 H a y v H')(ry:RelV y u)(rv:RelV v r)(h:∀ s',Inv X pins σ H' s'->Q () s') :
  wpAny (model X.prog X.w) A (setItem (.ref a) u r) Q E s:=by
 rcases g with ⟨aC,k,e,ey,l,eH⟩|⟨aC,k,b,e,ey,eb,l,eH⟩
 ·subst ey eH
  obtain ⟨z,hd,vs,rel,dd⟩:=M7 I.aR e
  have hz:vs.length<=sizeLine:=by rw [<- rel.length];exact z
  have hl:(putK aC k v).length<=sizeLine:=by have:=gA aC k v;lia
  refine wpAny_setItem_pairs (hsz:=hz) (vP ry) dd fun h' O7 hs=>h _ ?_
  have he:∃ q,h'.get? a=some q:=let ⟨q,_,_,hq,_⟩:=O7;⟨q,hq⟩
  exact w8 I (by rw [e];exact True.intro) hs he (Ia hl hd (rel.put k rv) O7)
 ·subst ey eH
  cases (show u=Value.ref b from ry)
  obtain ⟨z,hd,xs,rel,dd⟩:=S4 I.aR e
  have hz:xs.length<=sizeLine:=by rw [<- Paired.length rel];exact z
  have hl:(putK aC k v).length<=sizeLine:=by have:=gA aC k v;lia
  refine wpAny_setItem_heap (hsz:=hz) (tupleKind_room_in1 hu) (BG I.aR eb) dd fun h' O7 hs=>h _ ?_
  obtain ⟨q,es,ep,hq,h2,h3,h4,_,h5⟩:=O7
  refine w8 I (by rw [e];exact True.intro) hs ⟨q,hq⟩ ⟨hl,hd,_,(rel.put k eb rv).keeps fun c ys ec=>?_,q,es,ep,hq,h2,h3,h4,h5⟩
  rw [ar (QW ec e (fun z=>nomatch z))]
  exact ec
end
def M8(td ty tv:TE):TS:=fun D σ H=>tv σ H fun v H1=>td σ H1 fun x H2=>ty σ H2 fun y H3=>∃ a H4,x=.ref a/\E2 H3 a y v H4/\D.nx σ H4
section
variable {X:Cx}{o i e value:Expr}{pos pos' tF:Pos}{td ty tv:TE}
theorem LG(hu:X.A.units+1<cLine)(ho:PE X o td)(hi:PE X i ty)(hv:PE X value tv)(hs:swapsWith value (some (.Subscript o i pos')) pos.line X.env=pure false) :
  PS X (.Assign [.Subscript o i pos'] value pos) (M8 td ty tv):=by
 intro pins s σ H D I h
 refine wpAny_Assign_Subscript (bS (hv pins s σ H _ I h) fun r s1 ⟨v,H1,I1,rv,q1⟩=>bS (ho pins s1 σ H1 _ I1 q1) fun u s2 ⟨x,H2,I2,rx,q2⟩=>bS (hi pins s2 σ H2 _ I2 q2) fun iv s3 ⟨y,H3,I3,ry,a,H4,ex,g,q3⟩=>?_) hs
 subst ex
 obtain rfl:u=Value.ref a:=rx
 exact E3 hu I3 g ry rv fun s4 I4=>⟨σ,H4,I4,q3⟩
end
theorem Ib {P:Program} {w:World} {H:Hp} (h:Heap) (hb:sysModules<h.objs.size):bJ P w H (h.push { cls:=.type "dict",data:=.dict #[] }) h.objs.size (.dK []) :=
 ⟨aaT _,beq_eq_false_iff_ne.mpr (Ne.symm (aaU hb)),[],.nil,Heap.DictOf.new h⟩
def rk(r:List Int):List Key:=r.map Sum.inl
def S5(x y v:V)(H:Hp)(R:Hp->Prop):Prop:=∃ a H4,x=.ref a/\E2 H a y v H4/\R H4
section
variable {H:Hp}{σ:St}{D:Ends}{Q:VK}
theorem O8{td ty tv:TE}(h:tv σ H fun v H1=>td σ H1 fun x H2=>ty σ H2 fun y H3=>S5 x y v H3 fun H4=>D.nx σ H4):M8 td ty tv D σ H:=h
end
inductive Ic(K:Frag)(H:Hp):List V->List (List Int×Int)->Prop where
 | nil:Ic K H [] []
 | cons {a w:Addr} {r:List Int} {m:Int} {xs:List V} {ks:List (List Int×Int)} (h:bh K H a [.ref w,.int m]) (hw:bh K H w (r.map V.int)) (t:Ic K H xs ks):Ic K H (.ref a::xs) ((r,m)::ks)
theorem Ie{K:Frag}{a:Addr}{xs:List V}{H1:Hp}{ix:List (Option Nat)}{σ:St}{te:TE}{Q:VK}(fr:St)(f:Nat->V)(wD:pick ix σ=none::fr)(ha:bA K H1 a xs)(hn:xs.length<=1000000)
  (step:∀ (i:Nat) x H' (Qc:VK),xs[i]?=some x->ah H1 H'->(∀ H5,ah H' H5->Qc (f i) H5)->te (some x::fr) H' Qc)
  (hQ:∀ l H',H1 l=none->ah H1 H'->H' l=some (.lst ((List.range xs.length).map f))->Q (.ref l) H'):cb ix (fN 0) (fun _ H Q=>Q true H) te σ Q (Qu K a) H1:=by
 refine mE fr xs.length f wD hn (fun H' s=>⟨xs,s.seq ha,aai _⟩) (fun i H' hi s=>⟨xs,xs[i],s.seq ha,aax hi⟩) (fun i x H' H2 Qc hi s hy kc=>?_) hQ
 obtain ⟨rfl,e⟩:=hy
 exact step i x _ Qc (e xs (s.seq ha)) s kc
theorem Ig{K:Frag}{D:Ends}{σ:St}{H:Hp}{k:Bool}{a:Addr}{xs:List V}{m n:Nat}{tb:TS}(Pv:Nat->St->Hp->Prop)(h0:Pv 0 σ H)(ha:∀ i σ H2,Pv i σ H2->Sq k K H2 a xs)
  (hs:∀ (i:Nat) x σ H2 H3,xs[i]?=some x->Pv i σ H2->ah H2 H3->tb { D with nx:=Pv (i+1),ct:=Pv (i+1),bk:=D.nx } ((σ.set m (some (.int i))).set n (some x)) H3)
  (hd:∀ σ H2,Pv xs.length σ H2->D.nx σ H2):gz (Gq K 2 (q0 (fN m) (q0 (fN n) Kz))) tb D (SW K k a) σ H:=by
 refine DE xs.length Pv h0 (fun i σ H2 hi p=>⟨_,xs[i],ha i σ H2 p,aax hi⟩) (fun σ H2 p=>⟨_,ha _ σ H2 p,aai _⟩) (fun i x σ H2 H3 hi p y=>?_) hd
 obtain ⟨q,x',rfl,hp,e1,rfl⟩:=y
 have g1:=e1 _ (ha i σ _ p)
 refine⟨q,_,rfl,bh.of ao,rfl,_,_,rfl,_,_,rfl,rfl,?_⟩
 exact hs i x' σ _ _ g1 p (ah.aW hp)
theorem ah.new{a:Addr}{H H':Hp}(s:ah H H')(n:H' a=none):H a=none:=by
 match e:H a with
 | none=>rfl
 | some o =>
  rw [s a o e] at n
  cases n
section
variable {K:Frag}{H:Hp}{σ:St}{Q:VK}{ix:List (Option Nat)}
theorem mQ{J:It}{g:TG}{tt:TT}{te:TE}(t:Nat)(fr:St)(n:Nat)(Pv:Addr->Nat->List V->Hp->Prop)(wD:pick ix σ=List.replicate t none++fr)
  (h0:∀ l H',H l=none->ah H H'->H' l=some (.lst [])->Pv l 0 [] H') (hn:∀ l i ys H',Pv l i ys H'->ys.length<=1000)
  (mD:∀ H',ah H H'->J.stop n H') (Gd:∀ i H',i<n->ah H H'->J.go i H')
  (step:∀ l i x H' H2 own ys,own.length=t->i<n->H l=none->ah H H'->H' l=some (.lst ys)->Pv l i ys H'->J.Kb i H' x H2->∀ (Qy:St->VK) (Qn:St->Hp->Prop),
   (∀ iK v H5,iK.length=t->ah H' H5->Pv l (i+1) (ys++[v]) (upd H5 l (.lst (ys++[v])))->Qy (iK++fr) v H5)->(∀ iK H4,iK.length=t->ah H' H4->Pv l (i+1) ys H4->Qn (iK++fr) H4) ->
   g x (own++fr) H2 fun σ2 H3=>tt σ2 H3 fun b H4=>if b=true then te σ2 H4 (Qy σ2) else Qn σ2 H4)
  (hQ:∀ l H' ys,H l=none->ah H H'->H' l=some (.lst ys)->Pv l n ys H'->Q (.ref l) H'):cb ix g tt te σ Q J H:=by
 intro l hl
 refine⟨fun i m σ1 ys H'=>m=n - i/\i<=n/\(∃ own:St,own.length=t/\σ1=own++fr)/\ah H H'/\H' l=some (.lst ys)/\Pv l i ys H',⟨n,by simp,aaT _,⟨_,length_replicate,wD⟩,ah.aW hl,ao,h0 l _ hl (ah.aW hl) ao⟩,?_⟩
 rintro i m σ1 ys H' ⟨rfl,hi,⟨own,ho,rfl⟩,hs,jg,hp⟩
 refine⟨jg,?_⟩
 by_cases nA:i<n
 ·refine .inr ⟨Gd i H' nA hs,n - (i+1),by lia,fun x H2 hy=>step l i x H' H2 own ys ho nA hl hs jg hp hy _ _ (fun iK v H5 Bf s5 VZ=>?_) fun iK H4 Bf s4 V0=>?_⟩
  ·have l5:=s5 _ _ jg
   refine⟨l5,aaJ (hn l i ys H' hp) (bW (aai 1000)),rfl,nA,⟨iK,Bf,rfl⟩,fun b o e=>?_,ao,VZ⟩
   rw [ar (aN e hl)]
   exact s5 _ _ (hs _ _ e)
  ·exact⟨rfl,nA,⟨iK,Bf,rfl⟩,hs.trans s4,s4 _ _ jg,V0⟩
 ·obtain rfl:i=n:=by lia
  exact .inl ⟨mD H' hs,hQ l H' ys hl hs jg hp⟩
end
inductive Ih(H:Hp):List V->List (List Int)->Prop where
 | nil:Ih H [] []
 | cons {a:Addr} {r:List Int} {xs:List V} {rs:List (List Int)} (h:H a=some (.lst (r.map V.int))) (t:Ih H xs rs):Ih H (.ref a::xs) (r::rs)
def DG:Stmt->Nat->Stmt
 | .ClassDef _ _ _ body _ _ _ _ _ _ _,j=>body.getD j (.Pass ⟨0,0,0,0⟩)
 | s,_=>s
def E4(K:Frag)(f:Addr)(x qual:Str)(st:Stmt)(ps:List Str):Prop:=∃ fd,K1 K x qual st f fd/\Binds K fd ps []
end L2
namespace L2
open PySem PySem.Spec PyProof.Rows PySem.Builtin PySem.Builtin.Str
def S6(z:Str):It:=⟨fun i _=>i<z.cps.size,fun i H x H'=>H'=H/\∃ c,z.cps[i]?=some c/\x=.str ⟨#[c]⟩,fun i _=>z.cps.size<=i⟩
theorem BH {P:Program} {w:World} {K:Frag} {tg:Expr} (it:Addr) (z:Str) (t:Tok):Turn P w K tg (S6 z) [it] it (fun i h=>h.IsStrIter it "str_ascii_iterator" z t i) where
 mem:=by simp
 obj:=fun i h st b hb=>by
  have e:b=it:=by simpa using hb
  subst e
  obtain ⟨o,e,c,d⟩:=st
  exact⟨o,e,fun v z=>by rw [d] at z;cases z⟩
 keep:=fun i h h' st k=>let ⟨o,ho,r⟩:=st;⟨o,k it (by simp) o ho,r⟩
 item:=by
  intro X hP hw hK hc i pins s σ H E I hf st hg
  subst hP hw hK
  obtain ⟨f0,f1,f2,f3,f4,f5⟩:=hf it (by simp)
  have hi:i<z.cps.size:=hg
  refine wpAny_pyNext_ascii_item st (c:=z.cps[i]) (by simp [hi]) fun h' Dc sb=>?_
  have I1:Inv X pins σ H { s with heap:=h',toks:=s.toks+1 }:=I.turned (fun b o hb e=>(sb.2 b hb).trans e) f0 f1 f3 f4 f5
  obtain ⟨o,e,c,d⟩:=id Dc
  exact⟨_,rfl,zb (s:={ s with heap:=h',toks:=s.toks+1 }) e c d (by decide) ⟨.str ⟨#[z.cps[i]]⟩,H,I1,⟨_,rfl⟩,⟨rfl,_,by simp [hi],rfl⟩,Dc,fun b hb=>(hf b hb).1⟩⟩
 done:=by
  intro X hP hw hK hc i pins s σ H E I hf st hg
  subst hP hw hK
  obtain ⟨f0,f1,f2,f3,f4,f5⟩:=hf it (by simp)
  have hi:z.cps.size<=i:=hg
  exact wpAny_pyNext_ascii_end (I.ok.hd hc) st (by simp [hi]) fun h' eb=>⟨rfl,I.turned (t':=s.toks) (fun b o hb e=>eb b o hb e) f0 f1 f3 f4 f5⟩
 self:=fun _ _ _ _ _ st h=>wpAny_pyIter_striter_ascii st h
theorem E5 {P:Program} {w:World} {K:Frag} {tg:Expr} (it:Addr) (z:Str) (t:Tok):Turn P w K tg (S6 z) [it] it (fun i h=>h.IsStrIter it "str_iterator" z t i) where
 mem:=by simp
 obj:=fun i h st b hb=>by
  have e:b=it:=by simpa using hb
  subst e
  obtain ⟨o,e,c,d⟩:=st
  exact⟨o,e,fun v z=>by rw [d] at z;cases z⟩
 keep:=fun i h h' st k=>let ⟨o,ho,r⟩:=st;⟨o,k it (by simp) o ho,r⟩
 item:=by
  intro X hP hw hK hc i pins s σ H E I hf st hg
  subst hP hw hK
  obtain ⟨f0,f1,f2,f3,f4,f5⟩:=hf it (by simp)
  have hi:i<z.cps.size:=hg
  refine wpAny_pyNext_wide_item st (c:=z.cps[i]) (by simp [hi]) fun h' Dc sb=>?_
  have I1:Inv X pins σ H { s with heap:=h',toks:=s.toks+1 }:=I.turned (fun b o hb e=>(sb.2 b hb).trans e) f0 f1 f3 f4 f5
  obtain ⟨o,e,c,d⟩:=id Dc
  exact⟨_,rfl,zb (s:={ s with heap:=h',toks:=s.toks+1 }) e c d (by decide) ⟨.str ⟨#[z.cps[i]]⟩,H,I1,⟨_,rfl⟩,⟨rfl,_,by simp [hi],rfl⟩,Dc,fun b hb=>(hf b hb).1⟩⟩
 done:=by
  intro X hP hw hK hc i pins s σ H E I hf st hg
  subst hP hw hK
  obtain ⟨f0,f1,f2,f3,f4,f5⟩:=hf it (by simp)
  have hi:z.cps.size<=i:=hg
  exact wpAny_pyNext_wide_end (I.ok.hd hc) st (by simp [hi]) fun h' eb=>⟨rfl,I.turned (t':=s.toks) (fun b o hb e=>eb b o hb e) f0 f1 f3 f4 f5⟩
 self:=fun _ _ _ _ _ st h=>wpAny_pyIter_striter_wide st h
def O9:V->Hp->(It->Hp->Prop)->Prop:=fun x H R=>∃ z,x=.str z/\R (S6 z) H
def S7(tl:TE):TI:=fun σ H R=>tl σ H fun x H1=>O9 x H1 R
section
variable {X:Cx}
theorem Pa{tg l:Expr}{tl:TE}(hl:PE X l tl):PI X tg l (S7 tl):=by
 intro pins s σ H R I h
 refine bS (hl pins s σ H _ I h) fun v s1 ⟨x,H1,I1,r1,q1⟩=>?_
 obtain ⟨z,e,q⟩:=q1
 subst e
 obtain ⟨t,rfl⟩:=r1
 have fp:∀ b∈[s1.heap.objs.size],l9 X pins H1 b:=fun b hb=>by
  have e:b=s1.heap.objs.size:=by simpa using hb
  subst e
  exact I1.Ej (aai _) (I1.aR.fresh (aai _))
 cases ha:z.cps.all (·<128)
 ·exact wpAny_pyIter_wide ha ⟨s1.heap.objs.size,[s1.heap.objs.size],_,_,H1,rfl,I1.kept (t':=s1.toks) fun b o e=>aab _ e,E5 _ z t,⟨_,aaf _ rfl,rfl,rfl⟩,fp,q⟩
 ·exact wpAny_pyIter_ascii ha ⟨s1.heap.objs.size,[s1.heap.objs.size],_,_,H1,rfl,I1.kept (t':=s1.toks) fun b o e=>aab _ e,BH _ z t,⟨_,aaf _ rfl,rfl,rfl⟩,fp,q⟩
def S8:V->Option Int->Option Int->Hp->VK->Prop:=fun x lo hi H Q=>∃ z,x=.str z/\z.length<=sizeLine/\Q (.str (Txt.slice z lo hi)) H
theorem part_of{v:Value}{o:Option Int}(h:IsPart v o):∃ l:Option (Int×Tok),v=partValue l/\o=l.map (·.1):=by
 cases h with
 | none=>exact⟨none,rfl,rfl⟩
 | int i t=>exact⟨some (i,t),rfl,rfl⟩
theorem w9:Qz X S8:=by
 intro pins s σ H x v vl vu lo hi sl Q I rx hs pl pu h
 obtain ⟨z,rfl,hz,q⟩:=h
 obtain ⟨t,rfl⟩:=rx
 obtain ⟨l,rfl,rfl⟩:=part_of pl
 obtain ⟨u,rfl,rfl⟩:=part_of pu
 refine⟨"str",_,F.slot_str_getitem.lookup,typeIs_str _ _ _,wpAny_getItem_str_slice (l:=l) (u:=u) (st:=none) hs rfl ?_⟩
 exact post_val_or_str ⟨aah (Txt.slice_le z _ _) hz,fun t' k=>⟨.str _,H,I.tok _,⟨_,rfl⟩,q⟩⟩
theorem nU:∀ (zs:List Str) (k:Nat),Vals (zs.map V.str) (strsFrom k zs)
 | [],_=>.nil
 | z::zs,k=>.cons ⟨_,rfl⟩ (nU zs (k+1))
def Ii:V->List V->Hp->VK->Prop:=fun x xs H Q=>∃ z y,x=.str z/\xs=[.str y]/\y.length≠0/\z.length<=2000/\(Txt.split z y).length<=2000/\∀ p,H p=none->Q (.ref p) (upd H p (.lst ((Txt.split z y).map V.str)))
theorem dU{n:Nat}(h:n<=2000):n<=sizeLine:=aah h (by decide)
theorem Ij:Kf X "str.split" Ii:=by
 intro pins s σ H x xs v us Q I rx rs h
 obtain ⟨z,y,rfl,rfl,hy,hz,hn,q⟩:=h
 obtain ⟨t,rfl⟩:=rx
 obtain ⟨u,rfl,t',rfl⟩:=vals1 rs
 have K2:(y.length == 0)=false:=by simpa using hy
 have V4:z.length<=sizeLine:=dU (by lia)
 have fin:∀ (k:Nat) (its:List Value),Vals ((Txt.split z y).map V.str) its->EP X pins σ Q (.ref s.heap.objs.size) { s with toks:=k,heap:=s.heap.push { cls:=.type "list",data:=.seq its.toArray } }:=fun k its r =>
  ⟨.ref s.heap.objs.size,_,I.laid (t':=k) (o:=.lst ((Txt.split z y).map V.str)) (fun b ob q=>aab _ q) (aai _) ⟨by rw [aaD];exact dU hn,_,0,r,aaf _ rfl⟩,rfl,q _ (I.aR.fresh (aai _))⟩
 cases h1:(decide (z.length<y.length) || decide (Builtin.Str.strKind z<Builtin.Str.strKind y))
 ·cases hf:(occurrences z y 0 z.length (z.length+1)).isEmpty
  ·have e:Txt.split z y=partsBetween z (occurrences z y 0 z.length (z.length+1)) y.length:=(if_neg (ne_true_of_eq_false h1)).trans (if_neg (ne_true_of_eq_false hf))
   refine call_meets F.slot_str_split (typeIs_str _ _ _) F.entry_str_split (F.args_str_split_2 _ _) (meets_str_split_sep z y t t' h1 K2 hf V4 (by rw [<- e];exact dU hn)) ?_
   rw [<- e]
   exact fin _ _ (nU _ _)
  ·have e:Txt.split z y=[z]:=(if_neg (ne_true_of_eq_false h1)).trans (if_pos hf)
   refine call_meets F.slot_str_split (typeIs_str _ _ _) F.entry_str_split (F.args_str_split_2 _ _) (meets_str_split_not_found z y t t' h1 K2 hf) ?_
   exact fin s.toks [.str z t] (by rw [e];exact .cons ⟨_,rfl⟩ .nil)
 ·have e:Txt.split z y=[z]:=if_pos h1
  refine call_meets F.slot_str_split (typeIs_str _ _ _) F.entry_str_split (F.args_str_split_2 _ _) (meets_str_split_cannot_occur z y t t' h1) ?_
  exact fin s.toks [.str z t] (by rw [e];exact .cons ⟨_,rfl⟩ .nil)
def M9:List V->Hp->VK->Prop:=fun xs H Q=>∃ z n,xs=[.str z]/\PySem.intText? z=some n/\z.length<=640/\Q (.int n) H
theorem nV:cq X (.type "int") M9:=by
 intro pins s σ H xs us Q I r h
 obtain ⟨z,n,rfl,hn,hl,q⟩:=h
 obtain ⟨u,rfl,t,rfl⟩:=vals1 r
 exact PySem.W.KIN.call_text hn hl ⟨.int n,H,I.tok _,⟨_,rfl⟩,q⟩
def Na:List V->Hp->VK->Prop:=fun xs H Q=>∃ i,xs=[.int i]/\i.natAbs.log2<1920/\Q (.str (toString i)) H
theorem fV:cq X (.type "str") Na:=we
def Nb:List V->Hp->VK->Prop:=fun xs H Q=>∃ z,xs=[.str z]/\z.length<=sizeLine/\Q (.int z.length) H
theorem lI:cq X (.builtin "len") Nb:=wx
def DH:R2:=fun x y H Q=>∃ i j,x=.str i/\y=.str j/\i.length+j.length<=sizeLine/\Q (.str (i++j)) H
theorem bg:ij X (binaryOp .Add) DH:=Bb
def S9:R2:=fun x y H Q=>∃ i j,x=.str i/\y=.str j/\Q (.bl (!(occurrences j i 0 j.length 1).isEmpty)) H
theorem Pb:ij X (compareOp .In) S9:=Eo
end
section
variable {D:Ends}{σ:St}{H:Hp}{te:TE}{g:TG}{Q:VK}{z y:Str}{K:Frag}
theorem Pc{R:It->Hp->Prop}(h:te σ H fun x H1=>O9 x H1 R):S7 te σ H R:=h
theorem Ta{R:It->Hp->Prop}(h:R (S6 z) H):O9 (.str z) H R:=⟨z,rfl,h⟩
theorem Tb{lo hi:Option Int}(hz:z.length<=sizeLine)(h:Q (.str (Txt.slice z lo hi)) H):S8 (.str z) lo hi H Q:=⟨z,rfl,hz,h⟩
theorem LH(hy:y.length≠0)(hz:z.length<=2000)(hn:(Txt.split z y).length<=2000)(h:∀ p H2,H p=none->ah H H2->H2 p=some (.lst ((Txt.split z y).map V.str))->Q (.ref p) H2):Ii (.str z) [.str y] H Q:=⟨z,y,rfl,rfl,hy,hz,hn,fun p hp=>h p _ hp (ah.aW hp) ao⟩
theorem BI{n:Int}(hn:PySem.intText? z=some n)(hl:z.length<=640)(h:Q (.int n) H):M9 [.str z] H Q:=⟨z,n,rfl,hn,hl,h⟩
theorem nW{i:Int}(hi:i.natAbs.log2<1920)(h:Q (.str (toString i)) H):Na [.int i] H Q:=⟨i,rfl,hi,h⟩
theorem Pd(hz:z.length<=sizeLine)(h:Q (.int z.length) H):Nb [.str z] H Q:=⟨z,rfl,hz,h⟩
theorem BJ(hz:z.length+y.length<=sizeLine)(h:Q (.str (z++y)) H):DH (.str z) (.str y) H Q:=⟨z,y,rfl,rfl,hz,h⟩
theorem Tc(h:Q (.bl (!(occurrences y z 0 y.length 1).isEmpty)) H):S9 (.str z) (.str y) H Q:=⟨z,y,rfl,rfl,h⟩
theorem Ik{i:Int}{c:Nat}(hz:z.length<=sizeLine)(h1:Dm z.cps.toList i=some c)(h:Q (.str ⟨#[c]⟩) H):N3 (.str z) (.int i) H Q:=⟨z,i,c,rfl,rfl,hz,h1,h⟩
theorem Il{ix:List (Option Nat)}(fr:St)(f:Nat->V)(wD:pick ix σ=none::fr)(hn:z.length<=1000)
  (step:∀ (i c:Nat) (H':Hp) (Qc:VK),z.cps[i]?=some c->ah H H'->(∀ H5,ah H' H5->Qc (f i) H5)->te (some (.str ⟨#[c]⟩)::fr) H' Qc)
  (hQ:∀ l H',H l=none->ah H H'->H' l=some (.lst ((List.range z.cps.size).map f))->Q (.ref l) H'):cb ix (fN 0) (fun _ H Q=>Q true H) te σ Q (S6 z) H :=
 mE fr z.cps.size f wD (aah hn (by decide)) (fun _ _=>aai _) (fun i _ hi _=>hi) (fun i x H' H2 Qc hi hs hy kc=>by obtain ⟨rfl,c,hc,rfl⟩:=hy;exact step i c _ Qc hc hs kc) hQ
end
def Nc(tc:TE)(r':R2)(y:V)(σ:St)(Q:VK):VK:=fun z H3=>∃ k,z=.bl k/\(if k=true then tc σ H3 fun w' H4=>r' y w' H4 Q else Q (.bl false) H3)
theorem LI{r r':R2}{ta tb tc:TE}{σ:St}{H:Hp}{Q:VK}(h:ta σ H fun x H1=>tb σ H1 fun y H2=>r x y H2 (Nc tc r' y σ Q)):Gx r r' ta tb tc σ H Q:=h
theorem Pe{r':R2}{tc:TE}{y:V}{σ:St}{H:Hp}{Q:VK}{k:Bool}(h:if k=true then tc σ H fun w' H4=>r' y w' H4 Q else Q (.bl false) H):Nc tc r' y σ Q (.bl k) H:=⟨k,rfl,h⟩
open PySem PySem.Spec PyProof.Rows
section
variable {Q:VK}{H:Hp}{z y:Str}
theorem Td:decide (V.str z=V.str y)=decide (z=y):=by
 rw [Bool.eq_iff_iff];simp
theorem Te(h:Q (.bl (decide (z=y))) H):Va (.str z) (.str y) H Q:=⟨rfl,by rw [Td];exact h⟩
theorem Tf(h:Q (.bl (!decide (z=y))) H):Vb (.str z) (.str y) H Q:=⟨rfl,by rw [Td];exact h⟩
end
def Tg:Expr->Option V
 | .Constant (.int i) _ _=>some (.int i)
 | .Constant (.str s) _ _=>some (.str s)
 | _=>none
def DI:List Expr->Option (List V)
 | []=>some []
 | e::es=>match Tg e,DI es with
  | some v,some vs=>some (v::vs)
  | _,_=>none
def zH:List V->TA
 | []=>NW
 | v::vs=>GA (tC v) (zH vs)
theorem xa{X:Cx}:∀ {es:List Expr} {vs:List V},DI es=some vs->PA X es (zH vs)
 | [],vs,h=>by cases h;exact af
 | e::es,vs,h=>by
  unfold DI at h
  split at h
  ·rename_i v ws h1 h2
   cases h
   unfold Tg at h1
   split at h1
   ·cases h1;exact aa ai (xa h2)
   ·cases h1;exact aa aH (xa h2)
   ·cases h1
  ·cases h
theorem mR{X:Cx}{es:List Expr}{vs:List V}{pos:Pos}(h:DI es=some vs):PE X (.List es pos) (KJ (zH vs)):=eR (xa h)
theorem vR{σ:St}{H:Hp}:∀ {vs:List V} {Q:List V->Hp->Prop},Q vs H->zH vs σ H Q
 | [],_,h=>h
 | v::vs,Q,h=>vR (vs:=vs) (Q:=fun xs H2=>Q (v::xs) H2) h
theorem Pf{σ:St}{H:Hp}{Q:VK}{vs:List V}(hl:vs.length<=1000)(h:∀ p H2,H p=none->ah H H2->H2 p=some (.lst vs)->Q (.ref p) H2):KJ (zH vs) σ H Q :=
 vR (vs:=vs) (Hv hl h)
theorem fe{Q:VK}{H:Hp}{z y:Str}{a b:Nat}(hz:z.length<=a)(hy:y.length<=b)(UM:a+b<=2000)(h:∀ x:Str,x=z++y->x.length<=a+b->Q (.str x) H):DH (.str z) (.str y) H Q:=BJ (dU (by lia)) (h _ rfl (by rw [PySem.strLen_append];lia))
def xb(P:Program)(w:World)(K:Frag)(a:Addr)(aC:List (Key×V)):Prop :=
 (a == sysModules)=false/\∀ h:Heap,K.In h->∃ vs,KV aC vs/\h.DictOf (bQ P w) a vs
def Pg(w:World)(x:Str×Tok×Addr):DictEntry:=⟨PyData.keyHash w.params x.1,.str x.1 x.2.1,.ref x.2.2⟩
theorem Ph {P:Program} {w:World} {K:Frag} {a:Addr} {xs:List (Str×Tok×Addr)} {ep:Nat} (lk:K.lookup a=some ⟨.type "dict",none,.dict (xs.map (Pg w)).toArray ep,#[]⟩) (hs:(a == sysModules)=false) (hn:(xs.map (·.1)).Nodup) :
  xb P w K a (xs.map fun x=>(.inr x.1,.ref x.2.2)):=by
 refine⟨hs,fun h KX=>⟨xs.map fun x=>(.inr x.1,.ref x.2.2),?_,_,_,_,KX _ _ lk,⟨rfl,rfl,rfl⟩,rfl,?_,?_,?_⟩⟩
 ·clear lk hn
  induction xs with
  | nil=>exact .nil
  | cons x xs ih=>exact .cons ⟨rfl,rfl⟩ ih
 ·intro e he
  have zI:e∈xs.map (Pg w):=by simpa using he
  obtain ⟨x,_,rfl⟩:=aaH.mp zI
  exact⟨.inr x.1,nu x.1 x.2.1,rfl⟩
 ·show Pairs _ (xs.map (Pg w)).toArray.toList _
  rw [toList_toArray]
  clear lk hn
  induction xs with
  | nil=>exact .nil
  | cons x xs ih=>exact .cons (nu x.1 x.2.1) rfl ih
 ·rw [aaR]
  have:(xs.map (·.1)).Pairwise (·≠·):=hn
  rw [List.Nodup,List.pairwise_map] at *
  exact hn.imp fun h e=>h (Sum.inr.inj e)
section
variable {X:Cx}{a:Addr}{aC:List (Key×V)}
def DJ(a:Addr)(aC:List (Key×V)):R2:=fun x y H Q=>∃ z:Str,x=.str z/\y=.ref a/\Q (.bl (!(dS aC (.inr z)).isSome)) H
theorem E6(F:xb X.prog X.w X.K a aC):ij X (compareOp .NotIn) (DJ a aC):=by
 intro pins s σ H x y v u Q I rx ry h
 obtain ⟨z,rfl,rfl,q⟩:=h
 obtain rfl:u=Value.ref a:=ry
 obtain ⟨hs,hF⟩:=F
 obtain ⟨vs,rel,dd⟩:=hF _ I.iA
 refine wpAny_notIn_of (vP (k:=.inr z) rx) hs dd.mapOf ?_
 rw [<- (rel.val (.inr z)).vO]
 exact⟨.bl _,H,I.tok _,rfl,q⟩
def Th(a:Addr)(aC:List (Key×V)):R2:=fun x y H Q=>∃ (z:Str) (v:V),x=.ref a/\y=.str z/\dS aC (.inr z)=some v/\Q v H
theorem Im(F:xb X.prog X.w X.K a aC):GG X (Th a aC):=by
 intro value slice pins s σ H x y v u Q I rx ry h hs
 obtain ⟨z,r,rfl,rfl,hv,q⟩:=h
 obtain rfl:v=Value.ref a:=rx
 obtain ⟨QF,hF⟩:=F
 obtain ⟨vs,rel,dd⟩:=hF _ I.iA
 obtain ⟨w',hw,Ga⟩:=ik.some_of (v:=r) (o:=valueAt vs (.inr z)) (by rw [<- hv];exact rel.val (.inr z))
 exact tail_any dd.typeIs PySem.F.slot_dict_getitem.lookup (wpAny_getItem_of (vP (k:=.inr z) ry) dd.mapOf hw ⟨r,H,I.tok _,Ga,q⟩) hs
def DK:V->List V->Hp->VK->Prop:=fun x xs H Q=>∃ z y,x=.str z/\xs=[.str y]/\Q (.bl (0+y.length<=z.length && Builtin.Str.subAt z y 0)) H
theorem E7:Kf X "str.startswith" DK:=by
 intro pins s σ H x xs v us Q I rx rs h
 obtain ⟨z,y,rfl,rfl,q⟩:=h
 obtain ⟨t,rfl⟩:=rx
 obtain ⟨u,rfl,t',rfl⟩:=vals1 rs
 exact call_gives F.slot_str_startswith (typeIs_str _ _ _) F.entry_str_startswith (F.args_str_startswith_2 _ _) (gives_str_startswith z y t t') ⟨.bl _,H,I,rfl,q⟩
end
section
variable {H:Hp}{Q:VK}{a:Addr}{aC:List (Key×V)}{z y:Str}
theorem Io(h:Q (.bl (!(dS aC (.inr z)).isSome)) H):DJ a aC (.str z) (.ref a) H Q:=⟨z,rfl,rfl,h⟩
theorem Ti{v:V}(hv:dS aC (.inr z)=some v)(h:Q v H):Th a aC (.ref a) (.str z) H Q:=⟨z,v,rfl,rfl,hv,h⟩
theorem Ip(h:Q (.bl (0+y.length<=z.length && Builtin.Str.subAt z y 0)) H):DK (.str z) [.str y] H Q:=⟨z,y,rfl,rfl,h⟩
end
end L2
namespace L2
open PySem PySem.Spec PyProof.Rows PySem.W
abbrev TH:=XC->Ends->St->Hp->Prop
def Iq(K:Frag)(D0:Addr)(i:Nat)(th:TS)(r:TH):TH:=fun C D σ' H'=>∃ b,subIn K (.ref C.1) (.ref D0)=some b /\
 (b=true->∀ a,H' a=none->th { nx:=fun σ2 H2=>D.nx (σ2.set i none) H2,rt:=D.rt,bk:=fun σ2 H2=>D.bk (σ2.set i none) H2,ct:=fun σ2 H2=>D.ct (σ2.set i none) H2 } (σ'.set i (some (.ref a))) (upd H' a (fj a C.1 C.2)))/\(b=false->r C D σ' H')
def Pj(K:Frag)(D0:Addr)(th:TS)(r:TH):TH:=fun C D σ' H'=>∃ b,subIn K (.ref C.1) (.ref D0)=some b /\
 (b=true->∀ a,H' a=none->th D σ' (upd H' a (fj a C.1 C.2)))/\(b=false->r C D σ' H')
inductive BK(X:Cx):List ExceptHandler->TH->Prop
 | nil:BK X [] (fun _ _ _ _=>False)
 | cons {x n:Str} {np tI:Pos} {b0:Stmt} {zJ:List Stmt} {i:Nat} {D0:Addr} {th:TS} {rest:List ExceptHandler} {r:TH} (V:d6 X.K D0) (hN:X.N.Nodup) (hi:X.N[i]?=some n) (BL:X.env.scope.names.lookup n=some .local)
   (hg:Gl X x) (hm:X.mg x=some (.ref D0)) (hs:∀ a,nv (ji X a) (b0::zJ) th) (hr:BK X rest r) (me:(x == ("__debug__":Str))=false:=by decide) :
   BK X (.ExceptHandler (some (.Name x np)) (some n) (b0::zJ) tI::rest) (Iq X.K D0 i th r)
 | Tj {x:Str} {np tI:Pos} {b0:Stmt} {zJ:List Stmt} {D0:Addr} {th:TS} {rest:List ExceptHandler} {r:TH} (V:d6 X.K D0)
   (hg:Gl X x) (hm:X.mg x=some (.ref D0)) (hs:∀ a,nv (ji X a) (b0::zJ) th) (hr:BK X rest r) (me:(x == ("__debug__":Str))=false:=by decide) :
   BK X (.ExceptHandler (some (.Name x np)) none (b0::zJ) tI::rest) (Pj X.K D0 th r)
theorem E8{X:Cx}{pins:List (Addr×Obj)}{σ':St}{H':Hp}{D:Ends}{a T:Addr}{C:XC}{s:Shared}{oe:Obj}{vs:Array Value}(I2:Inv X pins σ' H' s)(he:s.heap.get? a=some oe)(hc:oe.cls=.ref C.1)(qw:oe.dict=C.2)(hd:oe.data=.fields vs)
  (hh:jv s.heap a vs (some T)) (jl:H' a=none) (qz:X.s₀.heap.get? a=none) (tm:∀ p∈X.pn++pins,p.1≠a) (T2:H' T=none) (T3:X.s₀.heap.get? T=none) (T4:∀ p∈X.pn++pins,p.1≠T) :
  ∀ {Et:List ExceptHandler} {r:TH},BK X Et r->r C D σ' H'->wpAny (model X.prog X.w) X.A (handleBy (.ref a) X.env Et) (SP X pins D) X.xe s:=by
 have Eh:(X.env.scope.kind == .class || (X.env.scope.kind == .module && X.env.locals != X.env.globals))=false:=by rw [I2.ok.kind];rfl
 have hk4:=hh.2.1
 have YE:∀ {M:Model} {A:Around} {E:Value->Shared->Prop} {Q:Unit->Shared->Prop},(∀ h2,Inv X pins σ' (upd H' a (fj a C.1 C.2)) { s with heap:=h2 }->Q () { s with heap:=h2 })->wpAny M A (setFlight (.ref a) none) Q E s:=fun {M A E Q} q=>by
  refine flight_again he hd hh fun h2 f1 f2=>q h2 ?_
  have I3:Inv X pins σ' H' { s with heap:=h2 }:=by
   obtain ⟨_,_,oT,ts,q1,q2,q3⟩:=hh
   obtain ⟨m1,m2,m3⟩:=I2.gd (a:=T) q1 q2
   have HS:eQ X.prog X.w H' h2:=I2.aR.off (ch:=[T]) (fun b hb=>by rw [show b=T by simpa using hb];exact T2) fun b o hb q=>f1 b o (by simpa using hb) q
   refine Inv.iu (s:=s) (h':=h2) (t':=s.toks) (ch:=[T]) I2 (fun b hb=>?_) (fun b o b1 b2 b3 e _=>f1 b o (by simpa using b3) e) (fun b o b1 b2 b3 e _=>⟨o.slots,f1 b o (by simpa using b3) e⟩) (fun b o _ _ n=>n) (fun b o b3 e=>⟨o,f1 b o (by simpa using b3) e⟩) (fun b xs e=>e) (fun b o u e=>e) (fun b ps e=>⟨#[],by rw [e];simp⟩) (fun m hm=>?_) HS
   ·obtain rfl:b=T:=by simpa using hb
    exact⟨T3,m1,m2,T4⟩
   ·obtain ⟨o,es,ep,ho,wd,r⟩:=hm
    exact⟨o,es,ep,f1 _ o (fun z=>m1 z.symm) ho,wd,r⟩
  exact I3.SQ (t':=s.toks) (f1 a _ (Ne.symm hk4) he) hc qw hd jl qz tm
 intro Et r N h
 induction N with
 | nil=>exact h.elim
 | cons V hN hi BL hg hm hs hr me ih =>
  obtain ⟨b,EE,h1,h2⟩:=h
  refine wpAny_handleBy_cons (codeAny_handlers_test (dk (X:=ji X a) (I2.qD a) hg hm ?_ me)) (by intro z;cases z)
  refine jx V I2.iA he hc EE ?_
  cases b with
  | false=>exact ih (h2 rfl)
  | true =>
   refine codeAny_handlers_suite_as (YE fun h3 I4=>?_)
   refine qW (X:=ji X a) (v:=.ref a) (I4.qD a) hN hi (Or.inl BL) rfl (fun s5 I6=>?_) (Or.inr BL)
   refine aav (hs a pins s5 _ _ _ I6 (h1 rfl a jl)) (fun f s6 q=>?_) (fun _ _ z=>z.elim)
   cases f with
   | next =>
    obtain ⟨σ2,H2,J,z⟩:=q
    have J':=J.rV I2.ok.hd
    obtain ⟨m,iI,_⟩:=id J'.loc
    exact wpAny_nameGoes_keeps BL iI Eh fun h' v hn Pk=>⟨_,H2,J'.Lm hN hi iI hn Pk,z⟩
   | brk =>
    obtain ⟨σ2,H2,J,z⟩:=q
    have J':=J.rV I2.ok.hd
    obtain ⟨m,iI,_⟩:=id J'.loc
    exact wpAny_nameGoes_keeps BL iI Eh fun h' v hn Pk=>⟨_,H2,J'.Lm hN hi iI hn Pk,z⟩
   | cont =>
    obtain ⟨σ2,H2,J,z⟩:=q
    have J':=J.rV I2.ok.hd
    obtain ⟨m,iI,_⟩:=id J'.loc
    exact wpAny_nameGoes_keeps BL iI Eh fun h' v hn Pk=>⟨_,H2,J'.Lm hN hi iI hn Pk,z⟩
   | ret u =>
    obtain ⟨v0,σ2,H2,J,r,z⟩:=q
    have J':=J.rV I2.ok.hd
    obtain ⟨m,iI,_⟩:=id J'.loc
    exact wpAny_nameGoes_keeps BL iI Eh fun h' v hn Pk=>⟨v0,_,H2,J'.Lm hN hi iI hn Pk,r,z⟩
 | Tj V hg hm hs hr me ih =>
  obtain ⟨b,EE,h1,h2⟩:=h
  refine wpAny_handleBy_cons (codeAny_handlers_test (dk (X:=ji X a) (I2.qD a) hg hm ?_ me)) (by intro z;cases z)
  refine jx V I2.iA he hc EE ?_
  cases b with
  | false=>exact ih (h2 rfl)
  | true =>
   refine codeAny_handlers_suite (YE fun h3 I4=>?_)
   refine aav (hs a pins _ _ _ _ (I4.qD a) (h1 rfl a jl)) (fun f s6 q=>?_) (fun _ _ z=>z.elim)
   cases f with
   | next =>
    obtain ⟨σ2,H2,J,z⟩:=q
    exact⟨σ2,H2,J.rV I2.ok.hd,z⟩
   | brk =>
    obtain ⟨σ2,H2,J,z⟩:=q
    exact⟨σ2,H2,J.rV I2.ok.hd,z⟩
   | cont =>
    obtain ⟨σ2,H2,J,z⟩:=q
    exact⟨σ2,H2,J.rV I2.ok.hd,z⟩
   | ret u =>
    obtain ⟨v0,σ2,H2,J,r,z⟩:=q
    exact⟨v0,σ2,H2,J.rV I2.ok.hd,r,z⟩
def zK(tb:lH->TS)(r:TH):TS:=fun D σ H=>tb (fun C σ' H'=>r C D σ' H') D σ H
theorem LJ{X:Cx}{body:List Stmt}{h0:ExceptHandler}{hs:List ExceptHandler}{pos:Pos}{tb:lH->TS}{r:TH}(hex:X.ex=[])
  (iF:X.stack=X.env::X.outer) (jk:X.env.frame=some X.env.locals)
  (hb:∀ pins EX,nv ((qC X pins).dQ (XW (qC X pins) EX)) body (tb EX)) (N:BK X (h0::hs) r) :
  PS X (.Try body (h0::hs) [] [] pos) (zK tb r):=by
 intro pins s σ H D I h
 have back:∀ {f:Flow} {s':Shared} {E:Value->Shared->Prop},SP ((qC X pins).dQ E) [] D f s'->SP X pins D f s':=fun {f s' E} q=>by
  cases f with
  | next=>obtain ⟨σ',H',J,z⟩:=q;exact⟨σ',H',(Inv.cc J).tG,z⟩
  | brk=>obtain ⟨σ',H',J,z⟩:=q;exact⟨σ',H',(Inv.cc J).tG,z⟩
  | cont=>obtain ⟨σ',H',J,z⟩:=q;exact⟨σ',H',(Inv.cc J).tG,z⟩
  | ret u=>obtain ⟨v,σ',H',J,r,z⟩:=q;exact⟨v,σ',H',(Inv.cc J).tG,r,z⟩
 refine wpAny_Try_except (aav (hb pins _ [] s σ H D (I.SO.dQ _) h) (fun f s1 q=>?_) (fun e s1 q=>?_))
 ·cases f with
  | next=>exact wpAny_execs_nil (back q)
  | brk=>exact back q
  | cont=>exact back q
  | ret u=>exact back q
 obtain ⟨a,C,σ',H',rfl,I0,⟨oe,vs,T0,he,hc,qw,hd,hsz,hh,jl,⟨qz,tm⟩,hT⟩,V5⟩:=q
 have I1:Inv X pins σ' H' s1:=(Inv.cc I0).tG
 have jh:X.s₀.heap.get? a=none:=qz
 have Ir:∀ p∈X.pn++pins,p.1≠a:=tm
 have pk:∀ T,T0=some T->H' T=none/\X.s₀.heap.get? T=none/\∀ p∈X.pn++pins,p.1≠T:=hT
 have HU:X.A.frames=some (X.env::X.outer):=by rw [<- iF];exact I1.ok.frames
 refine nQ (base:=X.base) (L:=X.env.locals) HU (iF ▸ I1.stack) jk he hd hh fun h1 T k1 k2 k3 k4 k5 k6=>?_
 obtain ⟨n1,n2,n3⟩:=I1.gd he hd
 have t1:∀ T',T0=some T'->∃ oT ts,s1.heap.get? T'=some oT/\oT.data=.fields ts:=fun T' z=>by
  subst z
  obtain ⟨_,_,oT,ts,q1,q2,_⟩:=hh
  exact⟨oT,ts,q1,q2⟩
 have BC:∀ b,b∈j2 (X.env::X.outer)->b=X.env.locals\/b∈X.fs:=fun b hb=>by
  rcases aaG.mp (I1.gT b (iF ▸ hb)) with z|z
  ·exact .inl z
  ·exact .inr z
 have off:Off (a::(T0.toList++j2 (X.env::X.outer))) s1.heap h1:=fun b o hb q=>by
  simp only [aaG,aaB,not_or] at hb
  exact k1 b o hb.1 (fun z=>hb.2.1 (by rw [<- z];simp)) hb.2.2 q
 have BD:eQ X.prog X.w H' h1:=I1.aR.off (fun b hb=>by
  simp only [aaG,aaB] at hb
  rcases hb with rfl|hb|hb
  ·exact jl
  ·cases T0 with
   | none=>simp at hb
   | some T1 =>
    simp only [Option.toList_some,aaA] at hb
    rw [hb];exact (pk T1 rfl).1
  ·exact I1.eh b (iF ▸ hb)) off
 have nS:∀ b,b∉(a::T0.toList)->b≠a/\some b≠T0:=fun b hb=>by
  simp only [aaG,not_or] at hb
  exact⟨hb.1,fun z=>hb.2 (by rw [<- z];simp)⟩
 have I2:Inv X pins σ' H' { s1 with heap:=h1 }:=by
  refine I1.iu (h':=h1) (t':=s1.toks) (ch:=a::T0.toList) (fun b hb=>?_) (fun b o b1 b2 b3 e _=>?_) (fun b o b1 b2 b3 e _=>?_) (fun b o _ _ n=>n) (fun b o b3 e=>?_) (fun b xs e=>e) (fun b o u e=>e) (fun b ps e=>⟨#[],by rw [e];simp⟩) (fun m hm=>?_) BD
  ·rcases aaG.mp hb with rfl|hb
   ·exact⟨jh,n1,n2,Ir⟩
   ·cases T0 with
    | none=>simp at hb
    | some T1 =>
     simp only [Option.toList_some,aaA] at hb
     subst hb
     obtain ⟨oT,ts,q1,q2⟩:=t1 _ rfl
     obtain ⟨m1,m2,m3⟩:=I1.gd q1 q2
     exact⟨(pk _ rfl).2.1,m1,m2,(pk _ rfl).2.2⟩
  ·refine k1 b o (nS b b3).1 (nS b b3).2 (fun z=>?_) e
   rcases BC b z with q|q
   ·exact b1 q
   ·exact b2 q
  ·exact k2 b o (nS b b3).1 (nS b b3).2 e
  ·obtain ⟨sl,q⟩:=k2 b o (nS b b3).1 (nS b b3).2 e
   exact⟨_,q⟩
  ·obtain ⟨o,es,ep,ho,wd,r⟩:=hm
   obtain ⟨sl,q⟩:=k2 _ o (fun z=>n1 z.symm) (fun z=>by
    obtain ⟨oT,ts,q1,q2⟩:=t1 _ z.symm
    exact (I1.gd q1 q2).1 rfl) ho
   exact⟨_,es,ep,q,wd,r⟩
 have T3:X.s₀.heap.get? T=none:=by
  cases q:X.s₀.heap.get? T with
  | none=>rfl
  | some o =>
   obtain ⟨o',q1⟩:=I1.base.there T o q (by rw [hex];simp)
   rw [k3] at q1;cases q1
 have T4:∀ p∈X.pn++pins,p.1≠T:=fun p hp z=>by
  have:=(I1.pin p hp).1
  rw [z,k3] at this;cases this
 exact E8 (s:={ s1 with heap:=h1 }) I2 k5 ((Obj.cls_mapFields _ _).trans hc) ((bM _ _).trans qw) (Obj.data_mapFields hd _) ⟨by simp [hsz.1],k4,k6⟩ jl jh Ir (I1.aR.free k3) T3 T4 N V5
section
variable {K:Frag}{D:Ends}{σ:St}{H:Hp}
theorem Pl{tb:lH->TS}{r:TH}(h:tb (fun C σ' H'=>r C D σ' H') D σ H):zK tb r D σ H:=h
theorem xc{D0:Addr}{C:XC}{i:Nat}{th:TS}{r:TH}(e:subIn K (.ref C.1) (.ref D0)=some true)(h:∀ a,H a=none->th { nx:=fun σ2 H2=>D.nx (σ2.set i none) H2,rt:=D.rt,bk:=fun σ2 H2=>D.bk (σ2.set i none) H2,ct:=fun σ2 H2=>D.ct (σ2.set i none) H2 } (σ.set i (some (.ref a))) (upd H a (fj a C.1 C.2))):Iq K D0 i th r C D σ H:=⟨true,e,(fun _=>h),(fun z=>nomatch z)⟩
theorem BM{D0:Addr}{C:XC}{i:Nat}{th:TS}{r:TH}(e:subIn K (.ref C.1) (.ref D0)=some false)(h:r C D σ H):Iq K D0 i th r C D σ H:=⟨false,e,(fun z=>nomatch z),fun _=>h⟩
end
open PySem PySem.Spec PyProof.Rows
section
variable {M:Model}{A:Around}{E:Value->Shared->Prop}{s:Shared}{env:Env}
def Iu(M:Model)(A:Around)(E:Value->Shared->Prop)(Q:Value->Shared->Prop)(acc:Value)(cn:Env)(r:Result)(s':Shared):Prop :=
 match r with
 | .ok _=>∃ m,s'.heap.Ns cn.locals m/\∀ h',Heap.SameBut cn.locals s'.heap h'->Q acc { s' with heap:=h' }
 | .error x=>∃ m,s'.heap.Ns cn.locals m/\∀ h',Heap.SameBut cn.locals s'.heap h'->wpAny M A (passOn "comprehension.variables-let-go" x cn:Sem Value) (fun _ _=>False) E { s' with heap:=h' }
theorem BN{e:Expr}{scope:Scope}{pos:Pos}{mk fst:Sem Value}{g:Comprehension}{gs:List Comprehension}{cl:List (Str×Addr)}{Q:Value->Shared->Prop}
  (q1:clausesOf e=g::gs) (q2:∀ x,foldedSetIterable g.iter env x=pure x) (q3:closureFor scope env=pure cl) (q4:scope.kind=.function) (q5:∀ x∈scope.names,x.2=.local->scope.names.lookup x.1=some .local)
  (h:wpAny M A fst (fun x s1=>wpAny M A (pyIter x) (fun it s2=>wpAny M A mk (fun acc s3=>wpAny M A (newFunctionEnv scope env.globals cl [] env.qual none .none (some env)) (fun cn s4 =>
    codeAny M A (.compStart e 0 it acc { cn with scope:=relabel scope env }) (Iu M A E Q acc { cn with scope:=relabel scope env }) s4) E s3) E s2) E s1) E s) :
  wpAny M A (comprehension e scope env pos mk false fst none) Q E s:=by
 unfold comprehension
 rw [q3,q1]
 refine aac (aav h (fun x s1 h1=>?_) fun _ _ z=>z)
 refine aac (wpAny_standAt (aac (wpAny_of_eq (q2 x) ?_)))
 refine aac (wpAny_holding (aav h1 (fun it s2 h2=>?_) fun _ _ z=>z))
 refine wpAny_standIf (aac (aav h2 (fun acc s3 h3=>?_) fun _ _ z=>z))
 refine aac (aau (aac (aav h3 (fun cn s4 h4=>?_) fun _ _ z=>z)))
 dsimp only
 have hv:∀ x∈(scope.names.filter fun x=>(x.2 == .local || x.2 == .cell) && x.1 != (".0":Str)).reverse,x.2=.local->Env.kindOf { cn with scope:=relabel scope env } x.1=some .local :=
  fun x hx hl=>lookup_relabel_local (q5 x (aaI.mp (List.mem_reverse.mp hx)).1 hl)
 refine wpAny_holding (aac (wpAny_attempt (wpAny_holding (wpAny_run (codeAny_mono h4 fun r s' hr=>?_)))))
 cases r with
 | ok f =>
  obtain ⟨m,hn,hr⟩:=hr
  exact aac (wpAny_holding (wpAny_comp_letGo (cenv:={ cn with scope:=relabel scope env }) q4 _ s' m hv hn fun h' m' _ Gg=>aau (hr h' Gg)))
 | error x =>
  obtain ⟨m,hn,hr⟩:=hr
  exact aac (wpAny_holding (wpAny_comp_letGo (cenv:={ cn with scope:=relabel scope env }) q4 _ s' m hv hn fun h' m' _ Gg=>aav (hr h' Gg) (fun _ _ f=>f.elim) fun _ _ y=>y))
end
def BO(EX:lH)(ix:List (Option Nat))(wi:TI)(g:TG)(tt:TT)(te:lH->TE):TE:=fun σ H Q=>wi σ H fun J H1=>cb ix g tt (te fun C _ H'=>EX C σ H') σ Q J H1
section
variable {X:Cx}{EX:lH}
theorem E9{M:Model}{A:Around}{α:Type}{m:Sem α}{P Q:α->Shared->Prop}{E:Value->Shared->Prop}{s:Shared}(h:wpAny M A m P (fun _ _=>False) s)(k:∀ a s',P a s'->Q a s'):wpAny M A m Q E s:=aav h k fun _ _ z=>z.elim
theorem zL{pins pl:List (Addr×Obj)}{N:List Str}{scope:Scope}{C:Addr}{s s':Shared}{H H':Hp}{fp:List Addr}{σ:St}(I:Inv (aS X pins N scope C s H fp) pl σ H' s'):Inv (aS X (pins++pl) N scope C s H fp) [] σ H' s':=by
 obtain ⟨⟨a1,a2,a3,a4,a5,a6,a7,a8,a9,b1,b2,b3,b4,b5,b6,b7,b8,b9⟩,c2,c3,c4,c5,c6,c7,c8,c9,d1,d2⟩:=I
 exact⟨⟨a1,a2,a3,a4,a5,a6,a7,a8,a9,b1,b2,b3,b4,b5,b6,b7,b8,b9⟩,c2,c3,c4,c5,c6,c7,c8,fun p hp=>c9 p (by
  have Bl:p∈(X.pn++(pins++pl))++[]:=hp
  show p∈(X.pn++pins)++pl
  simpa using Bl),d1,d2⟩
theorem DL{pins pl:List (Addr×Obj)}{N:List Str}{scope:Scope}{C:Addr}{s s':Shared}{H H':Hp}{fp:List Addr}{σ:St}(I:Inv (aS X (pins++pl) N scope C s H fp) [] σ H' s'):Inv (aS X pins N scope C s H fp) pl σ H' s':=by
 obtain ⟨⟨a1,a2,a3,a4,a5,a6,a7,a8,a9,b1,b2,b3,b4,b5,b6,b7,b8,b9⟩,c2,c3,c4,c5,c6,c7,c8,c9,d1,d2⟩:=I
 exact⟨⟨a1,a2,a3,a4,a5,a6,a7,a8,a9,b1,b2,b3,b4,b5,b6,b7,b8,b9⟩,c2,c3,c4,c5,c6,c7,c8,fun p hp=>c9 p (by
  have Bl:p∈(X.pn++pins)++pl:=hp
  show p∈(X.pn++(pins++pl))++[]
  simpa using Bl),d1,d2⟩
theorem Iv{tg iter elt:Expr}{ifs:List Expr}{scope:Scope}{pos:Pos}{N:List Str}{ix:List (Option Nat)}{wi:TI}{g:TG}{tt:TT}{te:lH->TE}
  (iF:X.stack=X.env::X.outer) (Tn:X.env.frame=some X.env.locals) (hex:X.ex=[]) (hX:∀ e s',XM X EX e s'->X.xe e s') (hc:X.calm=true) (hi:PI X tg iter wi)
  (hg:∀ pins C s H fp,PG (aS X pins N scope C s H fp) tg g)
  (ht:∀ pins C s H fp,UG (aS X pins N scope C s H fp) ifs tt)
  (he:∀ pins C s H fp EY,(∀ b∈fp,∃ o,(b,o)∈pins)->PE ((aS X pins N scope C s H fp).dQ (XW (aS X pins N scope C s H fp) EY)) elt (te EY))
  (hk:scope.kind=.function) (jq:∀ y∈scope.names,y.2≠.cell) (rp:∀ y∈scope.names,y.2=.local->scope.names.lookup y.1=some .local)
  (GV:(scope.names.all fun y=>!(y.2 == NameKind.free) || (X.env.cells.lookup y.1).isSome)=true) (MN:nL X scope N ix)
  (hs:∀ x,foldedSetIterable iter X.env x=pure x:=by intro _;rfl) :
  PE X (.ListComp elt [⟨tg,iter,ifs,0⟩] scope pos) (BO EX ix wi g tt te):=by
 intro pins s σ H Q I h
 have jk:∀ y∈scope.names,y.2=.free->(X.env.cells.lookup y.1).isSome=true:=fun y hy e=>by
  have z:=all_eq_true.mp GV y hy
  rw [e] at z
  simpa using z
 have GW:∀ p∈scope.names,p.2=.free->∃ c,X.env.cells.lookup p.1=some c:=fun p hp e=>aat.mp (jk p hp e)
 have du:∀ x c,(f9 X.env.cells scope.names []).lookup x=some c->X.env.cells.lookup x=some c:=mj (fun x c q=>by simp at q)
 have ph:∀ x,scope.names.lookup x=some .free->∃ c,(f9 X.env.cells scope.names []).lookup x=some c:=fun x hx=>by
  have hm:=PySem.mem_of_lookup hx
  exact aat.mp (mq (.inr ⟨hm,jk _ hm rfl⟩))
 rw [eval_ListComp]
 refine BN rfl hs (lG GW) hk rp (bS (hi pins s σ H _ I h) fun v s1 h1=>bS h1 fun Q7 s2 h2=>?_)
 obtain ⟨it,fp,tn,J,H2,e,I2,T,Kc,f2,hW⟩:=h2
 subst e
 have rq:H2 s2.heap.objs.size=none:=I2.aR.fresh (aai _)
 obtain ⟨W,⟨m0,w0⟩,turn⟩:=hW s2.heap.objs.size rq
 refine wpAny_newObj_type ?_
 have I3:Inv X pins σ (upd H2 s2.heap.objs.size (.lst [])) { s2 with heap:=s2.heap.push { cls:=.type "list",data:=.seq ([]:List Value).toArray } }:=I2.GL (its:=[]) (t':=s2.toks) .nil (aaT _)
 have f3:∀ b∈fp,l9 X pins (upd H2 s2.heap.objs.size (.lst [])) b:=fun b hb=>by
  refine⟨?_,(f2 b hb).2⟩
  obtain ⟨o,eo,_⟩:=T.obj _ _ Kc b hb
  rw [ar (aaU (aae eo))]
  exact (f2 b hb).1
 have vv:tn 0 (s2.heap.push { cls:=.type "list",data:=.seq ([]:List Value).toArray }):=T.keep _ _ _ Kc fun b _ o e=>aab _ e
 generalize tE:({ s2 with heap:=s2.heap.push { cls:=.type "list",data:=.seq ([]:List Value).toArray } }:Shared)=s3 at I3
 have vv:tn 0 s3.heap:=by rw [<- tE];exact vv
 generalize Yj:upd H2 s2.heap.objs.size (.lst [])=H3 at I3 f3 w0
 generalize Rv:s2.heap.objs.size=acc at *
 refine wpAny_newFunctionEnv jq (by intro y hy;simp at hy) (fun h₁ GX GY=>?_) hk
 have old:∀ b o,s3.heap.get? b=some o->h₁.get? b=some o:=fun b o q=>GY.extBut b o (aaU (aae q)) (aab _ q)
 have rB:H3 s3.heap.objs.size=none:=I3.aR.fresh (aai _)
 have MO:∀ b∈fp,b<s3.heap.objs.size:=fun b hb=>by
  obtain ⟨o,eo,_⟩:=T.obj _ _ vv b hb
  exact aae eo
 have rD:∀ b,b≠X.env.locals->b∉X.fs->b∉j2 X.stack:=fun b h1 h2 z=>by
  rcases aaG.mp (I3.gT b z) with q|q
  ·exact h1 q
  ·exact h2 q
 have Vo:∀ x c,X.env.cells.lookup x=some c->c<s3.heap.objs.size:=fun x c q=>by
  obtain ⟨v,z⟩:=I3.cell x c q
  exact z.lt
 have YI:∀ (h':Heap) (m:Str->Option Value),(∀ b o,s3.heap.get? b=some o->h'.get? b=some o)->h'.Ns s3.heap.objs.size m ->
   Inv (aS X pins N scope s3.heap.objs.size s3 H3 fp) [] (pick ix σ) H3 { s3 with heap:=h',toks:=s3.toks+([]:List (Str×Value)).length }:=by
  intro h' m vD hn
  refine⟨⟨I3.ok.mod,hk,I3.ok.glob,I3.ok.blt,aai _,fun x y c q1 q2=>I3.ok.inj x y c (du x c q1) (du y c q2),fun x hx=>ph x (dn jq hx),fun x c hf _=>absurd hf Bool.false_ne_true,
   I3.ok.hd,I3.ok.frames,.inl rfl,fun b hb=>⟨aaU (MO b hb),fun x c q=>(f3 b hb).2.2.2.2.1 x c (du x c q)⟩,I3.bs,aah I3.ok.wb I3.sz,fun b o e hb=>?_,fun b hb=>rD b (f3 b hb).2.1 (f3 b hb).2.2.1,I3.stack,I3.eh⟩,
   rfl,I3.bare,Un.kept vD,⟨m,hn,fun i x v h1 h2 h3=>?_⟩,fun x c q=>?_,rB,fun x c q=>I3.d0 x c (du x c q),fun p hp=>?_,I3.aR.kept vD,?_⟩
  ·have q:=(I3.bs b o e).2
   rcases (f3 b hb).2.2.2.1 with z|z
   ·exact I3.ok.qp b o e z
   ·exact absurd (Nat.lt_of_lt_of_le (aae e) (aah I3.ok.wb z)) (Nat.lt_irrefl _)
  ·obtain ⟨j,e1,e2⟩:=rl h2
   obtain ⟨a1,a2,a3,a4⟩:=MN.get h1 e1
   obtain ⟨mX,Yk,Rw⟩:=I3.loc
   obtain ⟨u,ru,l⟩:=Rw j x v a1 e2 a2
   refine⟨u,ru,?_⟩
   rcases l with ⟨l1,_⟩|⟨_,c,lc,z⟩
   ·have Rx:X.env.scope.names.lookup x=some .local:=l1
    rw [Rx] at a3
    exact absurd a3 (by decide)
   ·obtain ⟨c',y4⟩:=ph x a4
    have ec:=du x c' y4
    rw [lc] at ec
    have Ry:c=c':=aao ec
    subst Ry
    exact .inr ⟨fP a4,c,y4,z.keeps vD⟩
  ·obtain ⟨v,z⟩:=I3.cell x c (du x c q)
   exact⟨v,z.keeps vD⟩
  ·have Bl:p∈X.pn++pins:=by simpa using hp
   obtain ⟨a1,a2,a3,a4,a5⟩:=I3.pin p Bl
   exact⟨vD _ _ a1,a2,aaU (aae a1),rD p.1 a3 a4,a5⟩
  ·show (pick ix σ).length=N.length
   unfold pick
   rw [aaD]
   exact MN.len
 have GZ:∀ {pl:List (Addr×Obj)} {H':Hp},pl=[]->(∀ b∈fp,H' b=none)->∀ b∈fp,l9 (aS X pins N scope s3.heap.objs.size s3 H3 fp) pl H' b:=fun {pl H'} Rz hn b hb=>by
  obtain ⟨f0,f1,Kh,Gb,f4,f5⟩:=f3 b hb
  subst Rz
  exact⟨hn b hb,aaU (MO b hb),rD b f1 Kh,.inl hb,fun x c q=>f4 x c (du x c q),fun p hp=>f5 p (by simpa using hp)⟩
 have Pm:∀ e s',(∃ pl,(∀ b∈fp,∃ o,(b,o)∈pl)/\XW (aS X (pins++pl) N scope s3.heap.objs.size s3 H3 fp) (fun C _ H'=>EX C σ H') e s')->notedBy (model X.prog X.w) X.A (compEnvC scope (f9 X.env.cells scope.names []) s3.heap.objs.size X.env)
   (fun e s'=>Iu (model X.prog X.w) X.A X.xe (EP X pins σ Q) (.ref acc) (compEnvC scope (f9 X.env.cells scope.names []) s3.heap.objs.size X.env) (.error e) s') e s':=by
  rintro e s' ⟨pl,jt,a,C,σ',H',rfl,I0,⟨oe,vs,T0,zI,y4,qw,hd,hsz,hh,jl,⟨qz,tm⟩,pk⟩,To⟩
  have jh:s3.heap.get? a=none:=qz
  have Lx:∀ T,T0=some T->H' T=none/\s3.heap.get? T=none:=fun T z=>⟨(pk T z).1,(pk T z).2.1⟩
  have HU:X.A.frames=some (X.env::X.outer):=by rw [<- iF];exact I3.ok.frames
  have V6:s'.heap.FunFrames X.base X.stack:=I0.stack
  show wpAny _ _ (noteFrame (.ref a) X.env) _ _ s'
  refine mO (base:=X.base) (L:=X.env.locals) HU (iF ▸ V6) Tn zI hd hh fun h1 T k1 k2 k3 k4 k5 k6=>?_
  obtain ⟨n1,n2,n3⟩:=I0.gd zI hd
  have Tp:a≠s3.heap.objs.size:=n1
  obtain ⟨mC,V7,_⟩:=I0.loc
  have Pn:s'.heap.Ns s3.heap.objs.size mC:=V7
  obtain ⟨oC,V8,V9,Tq,rC⟩:=id Pn
  have tC:∀ T',T0=some T'->T'≠s3.heap.objs.size:=fun T' z=>by
   subst z
   obtain ⟨_,_,oT,ts,q1,q2,_⟩:=hh
   exact (I0.gd q1 q2).1
  have Wa:T≠s3.heap.objs.size:=fun z=>by rw [z,Tq] at k3;cases k3
  obtain ⟨ZY,gC⟩:=k2 s3.heap.objs.size oC (Ne.symm Tp) (fun z=>tC _ z.symm rfl) Tq
  refine⟨mC,⟨_,V8,V9,gC,rC⟩,fun h2 sb=>?_⟩
  have g5:h2.get? a=some (oe.mapFields (·.setIfInBounds 1 (.ref T))):=(sb.2 a Tp).trans k5
  obtain ⟨oT,ts,t1,t2,t3⟩:=k6
  have g6:h2.get? T=some oT:=(sb.2 T Wa).trans t1
  have BE:=Obj.data_mapFields hd (·.setIfInBounds 1 (Value.ref T))
  have zD:(vs.setIfInBounds 1 (Value.ref T))[1]?=some (.ref T):=by simp [hsz.1]
  unfold PySem.passOn
  refine aac (wpAny_field g5 BE zD ?_)
  rw [if_neg (by simp)]
  show wpAny _ _ (setFlight (.ref a) X.env.frame >>= fun _=>throw _) _ _ _
  rw [Tn]
  refine aac (eV (s:={ s' with heap:=h2 }) g5 BE zD g6 t2 (Array.getElem?_eq_some_iff.mp t3).1 fun h3 f1 f2=>wpAny_throw (hX _ _ ?_))
  obtain ⟨HV,HW,q1,q2,q3⟩:=f2
  have T2:H' T=none:=I0.aR.free k3
  have Wb:∀ b∈fp,b≠a/\b≠T/\some b≠T0:=fun b hb=>by
   obtain ⟨o,Wc⟩:=jt b hb
   have hm:(b,o)∈(aS X (pins++pl) N scope s3.heap.objs.size s3 H3 fp).pn:=by
    show (b,o)∈X.pn++(pins++pl)
    exact aay _ (aay _ Wc)
   have z:=(I0.pin (b,o) (aaz _ hm)).1
   exact⟨tm (b,o) hm,fun e=>(by rw [show (b,o).1=b from rfl,e,k3] at z;cases z),fun e=>(pk b e.symm).2.2 (b,o) hm rfl⟩
  have T3:s3.heap.get? T=none:=by
   cases q:s3.heap.get? T with
   | none=>rfl
   | some o =>
    by_cases hx:T∈fp
    ·exact absurd rfl (Wb T hx).2.1
    ·obtain ⟨o',z⟩:=I0.base.there T o q hx
     rw [k3] at z;cases z
  have ne:∀ b o,s3.heap.get? b=some o->b≠a/\some b≠T0/\b≠s3.heap.objs.size/\b≠T:=fun b o q=>⟨fun z=>(by rw [z,jh] at q;cases q),fun z=>(by rw [(Lx b z.symm).2] at q;cases q),aaU (aae q),fun z=>(by rw [z,T3] at q;cases q)⟩
  have u3:Un (j2 X.stack) fp H3 H' s3.heap h3:=by
   refine⟨fun b o q n hb hx=>?_,fun b o q n hb hx=>?_,fun b o q n hx=>I0.base.free b o q n hx,fun b o q hx=>?_,I0.base.jn,I0.base.je,I0.base.jo⟩
   ·obtain ⟨e1,e2,e3,e4⟩:=ne b o q
    exact f1 b o e4 ((sb.2 b e3).trans (k1 b o e1 e2 (iF ▸ hb) (I0.base.keep b o q n hb hx)))
   ·obtain ⟨e1,e2,e3,e4⟩:=ne b o q
    obtain ⟨sl,q1⟩:=I0.base.slot b o q n hb hx
    obtain ⟨A3,q2⟩:=k2 b _ e1 e2 q1
    exact⟨A3,f1 b _ e4 ((sb.2 b e3).trans q2)⟩
   ·obtain ⟨e1,e2,e3,e4⟩:=ne b o q
    obtain ⟨o',q1⟩:=I0.base.there b o q hx
    obtain ⟨A3,q2⟩:=k2 b _ e1 e2 q1
    exact⟨_,f1 b _ e4 ((sb.2 b e3).trans q2)⟩
  have Po:eQ X.prog X.w H' h3:=I0.aR.off (ch:=a::s3.heap.objs.size::(T0.toList++j2 X.stack)) (fun b hb=>by
   simp only [aaG,aaB] at hb
   rcases hb with rfl|rfl|hb|hb
   ·exact jl
   ·exact I0.free
   ·cases T0 with
    | none=>simp at hb
    | some T1 =>
     simp only [Option.toList_some,aaA] at hb
     rw [hb];exact (Lx T1 rfl).1
   ·exact I0.eh b hb) fun b o hb q=>by
    simp only [aaG,aaB,not_or] at hb
    have nT:b≠T:=fun z=>by rw [z,k3] at q;cases q
    exact f1 b o nT ((sb.2 b hb.2.1).trans (k1 b o hb.1 (fun z=>hb.2.2.1 (by rw [<- z];simp)) (iF ▸ hb.2.2.2) q))
  have IX:Inv X pins σ H' { s' with heap:=h3 }:=I3.qX (ch:=fp) I0.os u3 Po I0.bare fun b hb=>by
   obtain ⟨f0,Wd,Kh,Gb,f4,f5⟩:=f3 b hb
   exact⟨Gb,Wd,f4,f5⟩
  have nw:∀ b,s3.heap.get? b=none->X.s₀.heap.get? b=none:=fun b z=>by
   cases q:X.s₀.heap.get? b with
   | none=>rfl
   | some o =>
    obtain ⟨o',q1⟩:=I3.base.there b o q (by rw [hex];simp)
    rw [z] at q1;cases q1
  have np:∀ b,s3.heap.get? b=none->∀ p∈X.pn,p.1≠b:=fun b z p hp q=>by
   have:=(I3.pin p (aaz _ hp)).1
   rw [q,z] at this;cases this
  have g7:h3.get? a=some (oe.mapFields (·.setIfInBounds 1 (.ref T))):=f1 a _ (Ne.symm k4) g5
  exact⟨a,C,σ,H',rfl,(IX.ei fun p hp=>absurd hp (by simp)).dQ _,⟨_,_,T,HV,HW,g7,(Obj.cls_mapFields _ _).trans y4,(bM _ _).trans qw,BE,hsz.set,zD,k4,q1,q2,q3,jl,⟨nw a jh,fun p hp=>np a jh p hp⟩,T2,nw T T3,fun p hp=>np T T3 p hp⟩,To⟩
 have loop:∀ s4:Shared,(∃ m,s4={ s3 with heap:=h₁,toks:=s3.toks+([]:List (Str×Value)).length }/\h₁.Ns s3.heap.objs.size m) ->
   codeAny (model X.prog X.w) X.A (.compLoop (.ListComp elt [⟨tg,iter,ifs,0⟩] scope pos) 0 (.ref it) (.ref acc) (compEnvC scope (f9 X.env.cells scope.names []) s3.heap.objs.size X.env))
    (Iu (model X.prog X.w) X.A X.xe (EP X pins σ Q) (.ref acc) (compEnvC scope (f9 X.env.cells scope.names []) s3.heap.objs.size X.env)) s4:=by
  rintro s4 ⟨m4,rfl,zi⟩
  refine nK (E:=fun e s'=>∃ pl,(∀ b∈fp,∃ o,(b,o)∈pl)/\XW (aS X (pins++pl) N scope s3.heap.objs.size s3 H3 fp) (fun C _ H'=>EX C σ H') e s') Pm
   (fun n s'=>∃ i σ' ys H',Inv (aS X pins N scope s3.heap.objs.size s3 H3 fp) [] σ' H' s'/\tn i s'.heap/\(∀ b∈fp,H' b=none)/\W i n σ' ys H') ?_ m0
   ⟨0,pick ix σ,[],H3,YI h₁ m4 old zi,T.keep _ _ _ vv fun b _ o q=>old b o q,fun b hb=>(f3 b hb).1,w0⟩
  rintro n s5 ⟨i,σ5,ys,H5,I5,F8,Kd,w5⟩
  obtain ⟨Yl,rE⟩:=turn i n σ5 ys H5 w5
  rcases rE with ⟨stop,q⟩|⟨go,m',iI,step⟩
  ·refine bS (T.done (aS X pins N scope s3.heap.objs.size s3 H3 fp) rfl rfl rfl hc i [] s5 σ5 H5 _ I5 (GZ rfl Kd) F8 stop) fun r s6 ⟨hr,I6⟩=>?_
   subst hr
   obtain ⟨m6,RA,_⟩:=I6.loc
   refine⟨m6,RA,fun h' sb=>?_⟩
   refine⟨.ref acc,H5,I3.qX (ch:=fp) I6.os (I6.base.letGo (aai _) sb) (I6.aR.letGo I6.free sb) I6.bare fun b hb=>?_,rfl,q⟩
   obtain ⟨f0,f1,Kh,Gb,f4,f5⟩:=f3 b hb
   exact⟨Gb,f1,f4,f5⟩
  ·refine bS (T.item (aS X pins N scope s3.heap.objs.size s3 H3 fp) rfl rfl rfl hc i [] s5 σ5 H5 _ I5 (GZ rfl Kd) F8 go) fun r s6 ⟨u,hr,h6⟩=>?_
   subst hr
   refine bS h6 fun _ s7 ⟨x,H7,I7,r7,y7,Ez,RB⟩=>?_
   have RC:=I7.pinned (GZ rfl RB) (T.obj _ _ Ez)
   refine E9 (hg pins s3.heap.objs.size s3 H3 fp _ s7 σ5 H7 x u _ RC r7 (step x H7 y7)) fun _ s8 ⟨σ8,H8,I8,q8⟩=>?_
   refine E9 (rn (ht pins s3.heap.objs.size s3 H3 fp) I8 q8) fun b s9 ⟨H9,I9,q9⟩=>?_
   have back:∀ {σz:St} {Hz:Hp} {sz:Shared} {yz:List V},Inv (aS X pins N scope s3.heap.objs.size s3 H3 fp) ([]++f6 fp s7.heap) σz Hz sz->W (i+1) m' σz yz Hz ->
     ∃ m,m<n/\∃ i σ' ys H',Inv (aS X pins N scope s3.heap.objs.size s3 H3 fp) [] σ' H' sz/\tn i sz.heap/\(∀ b∈fp,H' b=none)/\W i m σ' ys H':=fun {σz Hz sz yz} Iz wz=>by
    refine⟨m',iI,i+1,σz,yz,Hz,Iz.il,T.keep _ _ _ Ez fun b hb o e=>(Iz.pin (b,o) (aay _ (aay _ (cf hb e)))).1,fun b hb=>?_,wz⟩
    obtain ⟨o,e,d⟩:=T.obj _ _ Ez b hb
    exact (Iz.pin (b,o) (aay _ (aay _ (cf hb e)))).2.1
   cases b with
   | false=>exact back I9 q9
   | true =>
    have Tr:∀ b∈fp,∃ o,(b,o)∈[]++f6 fp s7.heap:=fun b hb=>by
     obtain ⟨o,e,d⟩:=T.obj _ _ Ez b hb
     exact⟨o,aay _ (cf hb e)⟩
    refine aav (he (pins++([]++f6 fp s7.heap)) s3.heap.objs.size s3 H3 fp (fun C _ H'=>EX C σ H') (fun b hb=>(Tr b hb).imp fun _ z=>aay _ z) [] s9 σ8 H9 _ ((zL I9).dQ _) q9) (fun v G1 ⟨y,G2,Pp,RE,G3,G4,RF⟩=>?_) fun e s' z=>⟨_,Tr,z⟩
    have RD:=DL (Inv.cc Pp)
    refine E9 (eT _ G1 σ8 G2 (.ref acc) [y] (.ref acc) [v] (fun _ H'=>H'=upd G2 acc (.lst (ys++[y]))) RD rfl (.cons RE .nil) ⟨acc,ys,y,rfl,rfl,G3,G4,rfl⟩) fun _ K3 ⟨_,QA,RG,_,RH⟩=>?_
    subst RH
    exact back RG RF
 have zi:∃ m,h₁.Ns s3.heap.objs.size m:=⟨_,GX⟩
 obtain ⟨m4,zi⟩:=zi
 have L:=loop _ ⟨m4,rfl,zi⟩
 exact codeAny_compStart_list L (T.self _ 0 _ _ _ (T.keep _ _ _ vv fun b _ o q=>old b o q) L)
theorem DM{ix:List (Option Nat)}{wi:TI}{g:TG}{tt:TT}{te:lH->TE}{σ:St}{H:Hp}{Q:VK}(h:GU ix wi g tt (te fun C _ H'=>EX C σ H') σ H Q):BO EX ix wi g tt te σ H Q:=h
theorem DN{k:Nat}{x:Str}{ps:List Str}{sp:Sp}{p pos:Pos}{e:Expr}{es:List Expr}{t:TA}(O:rU X.prog X.w X.K X.mg X.base k x ps sp)(hr:de k X.A)(hX:∀ e s',XW X EX e s'->X.xe e s')(hex:∀ b∈X.ex,∃ o,(b,o)∈X.pn)(ha:PA X (e::es) t)(hg:Gl X x:=by rfl)
  (me:(x == ("__debug__":Str))=false:=by decide) (he:starEach (e::es) X.env=(false,eval e X.env)::starEach es X.env:=by rfl) (jt:(backTo pos (starEach es X.env)).any (·.1)=false:=by rfl) :
  PE X (.Call (.Name x p) (e::es) [] pos) (Bx sp EX t):=by
 obtain ⟨f,fd,F,hm,hk,hb⟩:=O
 intro pins s σ H Q I h
 refine wpAny_Call_Name_kw (dk I hg hm ?_ me)
 refine callWith_K (h₀:=X.base) I.ok.mod.F6 hk (bS (ha pos pins s σ H _ I h) fun us s1 ⟨vs,H1,I1,r,q⟩=>⟨I1.iA,?_⟩) he jt
 have r2:Vals (vs++[]) (us++[]):=r.append .nil
 have hl:(us++[]).length=ps.length:=by rw [<- r2.length,append_nil];exact F.len _ _ _ _ q
 rw [append_nil] at r2
 refine wpAny_call (codeAny_mono (F.run X.A X.stack s1 H1 ⟨us,[]⟩ (us++[]) vs Q _ hr I1.KL (hb s1 us I1.iA hl) r2 q) fun r s' hq=>?_)
 cases r with
 | error e =>
  obtain ⟨a,C,H',rfl,ho,VO,un,aR,⟨oe,VP,T0,e1,e2,e3,e4,e5,e6,e7,e8,e9⟩,c,ec,hE⟩:=hq
  cases ec
  have I2:Inv X pins σ H' s':=I1.qX (ch:=[]) ho un aR VO fun b z=>absurd z (by simp)
  have nw:∀ b,s1.heap.get? b=none->X.s₀.heap.get? b=none:=fun b z=>by
   cases q:X.s₀.heap.get? b with
   | none=>rfl
   | some o =>
    obtain ⟨o',q1⟩:=I1.base.there b o q (fun hx=>by
     obtain ⟨o2,We⟩:=hex b hx
     have z2:=(I1.pin (b,o2) (aaz _ We)).1
     rw [show (b,o2).1=b from rfl,z] at z2;cases z2)
    rw [z] at q1;cases q1
  have np:∀ b,s1.heap.get? b=none->∀ p∈X.pn,p.1≠b:=fun b z p hp q=>by
   have:=(I1.pin p (aaz _ hp)).1
   rw [q,z] at this;cases this
  exact hX _ _ ⟨a,C,σ,H',rfl,(I2.ei fun p hp=>absurd hp (by simp)).dQ _,⟨oe,VP,T0,e1,e2,e3,e4,e5,e6,e7,⟨nw a e8.1,fun p hp=>np a e8.1 p hp⟩,fun T z=>⟨(e9 T z).1,nw T (e9 T z).2.1,fun p hp=>np T (e9 T z).2.1 p hp⟩⟩,hE⟩
 | ok fl =>
  cases fl with
  | ret u=>exact I1.after hq
  | next=>exact False.elim hq
  | brk=>exact False.elim hq
  | cont=>exact False.elim hq
end
end L2
namespace ZZ
open PySem PySem.W PyProof.Rows
section
variable {n:Nat}{key:Nat->Int}
def ky(key:Nat->Int)(p:Array Nat)(i:Nat):Int:=key (p.getD i 0)
end
end ZZ
namespace L2
open PySem PySem.Spec PySem.W PyProof.Rows
def lk(r:List Int):Int:=r.foldl (fun k a=>k*4000001+a) 0
end L2
namespace L2
open PySem PySem.Spec PyProof.Rows PySem.W
theorem mS:∀ {zs:List Str} {its:List Value},Vals (zs.map V.str) its->∃ l:List (Str×Tok),strValues l=its/\l.map (·.1)=zs
 | [],_,h=>by cases h;exact⟨[],rfl,rfl⟩
 | z::zs,_,h=>by
  cases h with
  | cons r h =>
   obtain ⟨t,rfl⟩:=r
   obtain ⟨l,e1,e2⟩:=mS h
   exact⟨(z,t)::l,by rw [<- e1];rfl,by rw [<- e2];rfl⟩
end L2
namespace L2
open PySem PySem.Spec PyProof.Rows PySem.W
def qR(K:Frag):V->List V->Hp->VK->Prop:=fun x vs H Q=>∃ (p:Addr) (ys:List V) (y:V) (d:PyData) (ds:List PyData) (j:Nat),x=.ref p/\vs=[y]/\bA K H p ys/\Tells K H ys ds/\d3 K H y d/\PyData.canLayAll0 ds=true/\d.canLay0=true/\d.depth<=60/\j<=1000/\(∃ z,ds[j]?=some z/\PyData.eqv z d=true)/\(∀ (m:Nat) (z:PyData),m<j->ds[m]?=some z->PyData.eqv z d=false)/\Q (.int (j:Int)) H
theorem Fb {X:Cx} (hu:X.A.units+64<cLine):Kf X "list.index" (qR X.K):=by
 intro pins s σ H x vs v us Q I rx rs h
 obtain ⟨p,ys,y,d,ds,j,rfl,rfl,hs,ht,hd,c1,c2,hz,hj,⟨z0,YF,G5⟩,GD,q⟩:=h
 obtain ⟨u,rfl,ru⟩:=vals1 rs
 obtain ⟨as,ra⟩:=(d3.lst hs ht).reads I rx
 obtain ⟨bs,rb⟩:=hd.reads I ru
 cases ra with
 | @list a o its n _ as h1 h2 h3 h4 =>
  obtain ⟨cls,dd,data,sl⟩:=o
  simp only at h2 h3
  subst h2 h3
  have hm:=SeqAt.readsAll_map ds _ _ c1 h4
  have K7:∀ (m:Nat) (iI:m<its.size),ds[m]?=some (SeqAt.readOf s.heap its[m]):=fun m iI=>by
   rw [<- hm,aaP,Array.getElem?_toList,Array.getElem?_eq_getElem iI]
   rfl
  have YG:j<its.size:=by
   have e:(its.toList.map (SeqAt.readOf s.heap)).length=ds.length:=by rw [hm]
   rw [aaD,Array.length_toList] at e
   have:=(aad.mp YF).1
   lia
  refine call_meets F.slot_list_index ⟨_,h1,rfl⟩ F.entry_list_index (F.args_list_index_2 _ _) (SeqAt.list_indexAt _ its n dd sl u (fun w=>PyData.eqv (SeqAt.readOf s.heap w) d) j YG (by lia) ?_ (fun m iI Z0=>?_)) ⟨h1,SeqAt.items_eqAt h4 rb c1 c2 (by have:=min_le_right (PyData.depthAll ds) d.depth;lia),⟨.int _,H,I.tok _,⟨_,rfl⟩,q⟩⟩
  ·have:=K7 j YG
   rw [YF] at this
   cases this
   exact G5
  ·exact GD m _ Z0 (K7 m iI)
theorem BP {X:Cx} (K:Frag) (hK:X.K=K) (hu:X.A.units+64<cLine):Kf X "list.index" (qR K):=hK ▸ Fb hu
theorem Iw{K:Frag}{H:Hp}{Q:VK}{p:Addr}{ys:List V}{y:V}{d:PyData}{ds:List PyData}(j:Nat)(hs:bA K H p ys)(ht:Tells K H ys ds)(hd:d3 K H y d)(c1:PyData.canLayAll0 ds=true)(c2:d.canLay0=true)(hz:d.depth<=60)(hj:j<=1000)(h1:∃ z,ds[j]?=some z/\PyData.eqv z d=true)(h2:∀ (m:Nat) (z:PyData),m<j->ds[m]?=some z->PyData.eqv z d=false)(h:Q (.int (j:Int)) H):qR K (.ref p) [y] H Q:=⟨p,ys,y,d,ds,j,rfl,rfl,hs,ht,hd,c1,c2,hz,hj,h1,h2,h⟩
namespace Z1
def up(ts:List Nat)(a:Int)(u:Nat->Int):Nat->Int:=fun x=>if x∈ts then u x+a else u x
section
variable {n:Nat}{W:Nat->Nat->Int}{u v:Nat->Int}{g c:Nat->Option Nat}{first:Nat}{ts:List Nat}{os:List (Nat×Nat)}
def st(f:Nat->Option Nat)(i:Nat)(x:Option Nat):Nat->Option Nat:=fun k=>if k=i then x else f k
end
end Z1
end L2
namespace L2
open PySem PySem.Spec PyProof.Rows
section
variable {K:Frag}{H:Hp}{σ:St}{Q:VK}{ix:List (Option Nat)}
theorem Ts{l:Addr}{xs:List V}{n:Nat}(e:H l=some (.lst xs))(hn:xs.length*n<=1000)(h:∀ p H2,H p=none->ah H H2->H2 p=some (.lst (List.replicate n xs).flatten)->Q (.ref p) H2)(h1:n<=1000):Oc (.ref l) (.int (n:Int)) H Q :=
 ⟨l,(n:Int),xs,rfl,rfl,e,by lia,by lia,aah (by rw [aaZ];exact hn) (by decide),fun p hp=>h p _ hp (ah.aW hp) (by rw [aaZ];exact ao)⟩
end
theorem Iy{K:Frag}{H:Hp}{Q:VK}{p:Addr}{ns:List Int}{m:Int}(j:Nat)(hs:bA K H p (ns.map V.int))(hj:j<=1000)(h1:ns[j]?=some m)(h2:∀ i,i<j->ns[i]?≠some m)(h:Q (.int (j:Int)) H):qR K (.ref p) [.int m] H Q:=by
 refine Iw j hs (Tells.ints ns) (.int m) ?_ rfl (aaT _) hj ⟨.int m,by rw [aaP,h1];rfl,?_⟩ (fun i z hi hz=>?_) h
 ·exact lay_ints ns
 ·show (m == m)=true
  exact beq_self_eq_true m
 ·rw [aaP] at hz
  obtain ⟨x,hx,rfl⟩:=Option.map_eq_some_iff.mp hz
  show (x == m)=false
  rw [beq_eq_false_iff_ne]
  rintro rfl
  exact h2 i hi hx
inductive Wf(K:Frag)(H:Hp):List V->List (Nat×List Int)->Prop where
 | nil:Wf K H [] []
 | cons {q a:Addr} {p:Nat} {r:List Int} {xs:List V} {ps:List (Nat×List Int)} (h:bh K H q [.int (p:Int),.ref a]) (hr:bh K H a (r.map V.int)) (t:Wf K H xs ps):Wf K H (.ref q::xs) ((p,r)::ps)
theorem Pq{K:Frag}{D:Ends}{σ:St}{H:Hp}{g:TG}{a:Addr}{xs:List V}{tb:TS}(Pv:Nat->St->Hp->Prop)(h0:Pv 0 σ H)(ha:∀ i σ H2,Pv i σ H2->bh K H2 a xs)(hs:∀ i x σ H2,xs[i]?=some x->Pv i σ H2->g x σ H2 fun σ2 H4=>tb { D with nx:=Pv (i+1),ct:=Pv (i+1),bk:=D.nx } σ2 H4)(hd:∀ σ H2,Pv xs.length σ H2->D.nx σ H2):gz g tb D (F7 K a) σ H:=by
 refine DE xs.length Pv h0 (fun i σ H2 hi hp=>⟨xs,xs[i],ha i σ H2 hp,aax hi⟩) (fun σ H2 hp=>⟨xs,ha _ σ H2 hp,aai _⟩) (fun i x σ H2 H3 hi hp hy=>?_) hd
 obtain ⟨rfl,e⟩:=hy
 exact hs i x σ H3 (e xs (ha i σ H3 hp)) hp
inductive Wg(K:Frag)(H:Hp):List V->List (List Int×Bool)->Prop where
 | nil:Wg K H [] []
 | cons {q a:Addr} {b:Bool} {r:List Int} {xs:List V} {ps:List (List Int×Bool)} (h:bh K H q [.ref a,.bl b]) (hr:bh K H a (r.map V.int)) (t:Wg K H xs ps):Wg K H (.ref q::xs) ((r,b)::ps)
def del(H:Hp)(c:Addr):Hp:=fun b=>if b=c then none else H b
theorem mT{H:Hp}{c:Addr}:del H c c=none:=by unfold del;rw [if_pos rfl]
theorem fK{H:Hp}{c b:Addr}(h:b≠c):del H c b=H b:=by unfold del;rw [if_neg h]
section
variable {P:Program}{w:World}
theorem eQ.back{H:Hp}{h:Heap}{c:Addr}{φ:Heap->Prop}(k:eQ P w H h)(e:H c=some (.ext φ)):eQ P w (L2.del H c) h:=fun b o q=>by
 have z:b≠c:=fun z=>by rw [z,mT] at q;cases q
 rw [fK z] at q
 refine (k b o q).l8 (fun d u _ y=>y) (fun d y=>?_) fun d xs y=>?_
 ·rw [fK (fun z=>by rw [z,e] at y;cases y)];exact y
 ·rw [fK (fun z=>by rw [z,e] at y;cases y)];exact y
end
end L2
namespace L2
open PySem PySem.Spec PyProof.Rows PySem.W
def IA:V->List V->Hp->VK->Prop:=fun x xs H Q=>∃ y l zs,x=.str y/\xs=[.ref l]/\H l=some (.lst (zs.map V.str))/\y.length<=16/\((zs.map (·.length)).sum+zs.length<=1000000)/\Q (.str (Str.join y zs)) H
theorem zM {X:Cx}:Kf X "str.join" IA:=by
 intro pins s σ H x xs v us Q I rx rs h
 obtain ⟨y,l,zs,rfl,rfl,hl,hy,hw,q⟩:=h
 obtain ⟨t,rfl⟩:=rx
 obtain ⟨u,rfl,ru⟩:=vals1 rs
 cases ru
 obtain ⟨z,its,n,r,e⟩:=(show bJ X.prog X.w H s.heap l (.lst (zs.map V.str)) from I.aR l _ hl)
 obtain ⟨ps,e1,e2⟩:=mS r
 subst e1
 refine SC.join (l:=ps) ⟨_,e,rfl,n,rfl⟩ e2 (joinOk_of_weight (by lia) (by lia)) fun t' k=>?_
 have ej:Txt.join y zs=Str.join y zs:=eq_of_beq (join_closes (ys:=zs) (rfl:y=y))
 rw [ej]
 exact⟨.str _,H,I.tok _,⟨_,rfl⟩,q⟩
theorem DO{H:Hp}{Q:VK}{y:Str}{l:Addr}{zs:List Str}(hl:H l=some (.lst (zs.map V.str)))(hy:y.length<=16)(hw:(zs.map (·.length)).sum+zs.length<=1000000)(h:Q (.str (Str.join y zs)) H):IA (.str y) [.ref l] H Q:=⟨y,l,zs,rfl,rfl,hl,hy,hw,h⟩
end L2
namespace L2
open PySem PySem.Spec PyProof.Rows PySem.W
end L2
namespace L2
open PySem PySem.Spec PyProof.Rows PySem.Builtin PySem.Builtin.Str
section
variable {X:Cx}
theorem IB{n:Nat}(h:n<=1000000):n<=sizeLine:=aah h (by decide)
def DP:V->List V->Hp->VK->Prop:=fun x xs H Q=>∃ z y,x=.str z/\xs=[.str y]/\y.length≠0/\z.length<=1000000/\(Txt.split z y).length<=2000/\∀ p,H p=none->Q (.ref p) (upd H p (.lst ((Txt.split z y).map V.str)))
theorem km:Kf X "str.split" DP:=by
 intro pins s σ H x xs v us Q I rx rs h
 obtain ⟨z,y,rfl,rfl,hy,hz,hn,q⟩:=h
 obtain ⟨t,rfl⟩:=rx
 obtain ⟨u,rfl,t',rfl⟩:=vals1 rs
 have K2:(y.length == 0)=false:=by simpa using hy
 have V4:z.length<=sizeLine:=IB hz
 have K0:(Txt.split z y).length<=sizeLine:=IB (by lia)
 have xf:∀ (k:Nat) (its:List Value),Vals ((Txt.split z y).map V.str) its->EP X pins σ Q (.ref s.heap.objs.size) { s with toks:=k,heap:=s.heap.push { cls:=.type "list",data:=.seq its.toArray } }:=fun k its r =>
  ⟨.ref s.heap.objs.size,_,I.laid (t':=k) (o:=.lst ((Txt.split z y).map V.str)) (fun b ob q=>aab _ q) (aai _) ⟨by rw [aaD];exact K0,_,0,r,aaf _ rfl⟩,rfl,q _ (I.aR.fresh (aai _))⟩
 cases h1:(decide (z.length<y.length) || decide (Builtin.Str.strKind z<Builtin.Str.strKind y))
 ·cases hf:(occurrences z y 0 z.length (z.length+1)).isEmpty
  ·have e:Txt.split z y=partsBetween z (occurrences z y 0 z.length (z.length+1)) y.length:=(if_neg (ne_true_of_eq_false h1)).trans (if_neg (ne_true_of_eq_false hf))
   refine call_meets F.slot_str_split (typeIs_str _ _ _) F.entry_str_split (F.args_str_split_2 _ _) (meets_str_split_sep z y t t' h1 K2 hf V4 (by rw [<- e];exact K0)) ?_
   rw [<- e]
   exact xf _ _ (nU _ _)
  ·have e:Txt.split z y=[z]:=(if_neg (ne_true_of_eq_false h1)).trans (if_pos hf)
   refine call_meets F.slot_str_split (typeIs_str _ _ _) F.entry_str_split (F.args_str_split_2 _ _) (meets_str_split_not_found z y t t' h1 K2 hf) ?_
   exact xf s.toks [.str z t] (by rw [e];exact .cons ⟨_,rfl⟩ .nil)
 ·have e:Txt.split z y=[z]:=if_pos h1
  refine call_meets F.slot_str_split (typeIs_str _ _ _) F.entry_str_split (F.args_str_split_2 _ _) (meets_str_split_cannot_occur z y t t' h1) ?_
  exact xf s.toks [.str z t] (by rw [e];exact .cons ⟨_,rfl⟩ .nil)
def IC:V->List V->Hp->VK->Prop:=fun x xs H Q=>∃ z y,x=.str z/\xs=[.str y]/\y.length≠0/\z.length<=1000000/\∀ p,H p=none->Q (.ref p) (upd H p (.tup [.str (Txt.partition z y).1,.str (Txt.partition z y).2.1,.str (Txt.partition z y).2.2]))
theorem zN:Kf X "str.partition" IC:=by
 intro pins s σ H x xs v us Q I rx rs h
 obtain ⟨z,y,rfl,rfl,hy,hz,q⟩:=h
 obtain ⟨t,rfl⟩:=rx
 obtain ⟨u,rfl,t',rfl⟩:=vals1 rs
 have K2:(y.length == 0)=false:=by simpa using hy
 refine call_meets F.slot_str_partition (typeIs_str _ _ _) F.entry_str_partition (F.args_str_partition_2 _ _) (meets_str_partition z y t t' K2 (IB hz)) ?_
 have xf:∀ (k:Nat) (a b c:Str) (t1 t2 t3:Tok),Txt.partition z y=(a,b,c)->EP X pins σ Q (.ref s.heap.objs.size) { s with toks:=k,heap:=s.heap.push { cls:=.type "tuple",data:=.seq [Value.str a t1,.str b t2,.str c t3].toArray } }:=fun k a b c t1 t2 t3 e=>by
  rw [e] at q
  exact⟨.ref s.heap.objs.size,_,I.laid (t':=k) (o:=.tup [.str a,.str b,.str c]) (fun b ob q=>aab _ q) (aai _) ⟨by show 3<=sizeLine;decide,_,.cons ⟨_,rfl⟩ (.cons ⟨_,rfl⟩ (.cons ⟨_,rfl⟩ .nil)),IsTup.new _ _⟩,rfl,q _ (I.aR.fresh (aai _))⟩
 unfold Txt.partition at xf
 cases ho:occurrences z y 0 z.length 1 with
 | nil=>rw [ho] at xf;exact xf _ _ _ _ _ _ _ rfl
 | cons i r=>rw [ho] at xf;exact xf _ _ _ _ _ _ _ rfl
end
section
variable {H:Hp}{Q:VK}{z y:Str}
theorem mU{ws:List Str}(hy:y.length≠0)(hz:z.length<=1000000)(hn:ws.length<=2000)(e:Txt.split z y=ws)(h:∀ p H2,H p=none->ah H H2->H2 p=some (.lst (ws.map V.str))->Q (.ref p) H2):DP (.str z) [.str y] H Q:=⟨z,y,rfl,rfl,hy,hz,by rw [e];exact hn,fun p hp=>h p _ hp (ah.aW hp) (by rw [e];exact ao)⟩
theorem DQ{a b c:Str}(hy:y.length≠0)(hz:z.length<=1000000)(e:Txt.partition z y=(a,b,c))(h:∀ p H2,ah H H2->H2 p=some (.tup [.str a,.str b,.str c])->Q (.ref p) H2):IC (.str z) [.str y] H Q:=⟨z,y,rfl,rfl,hy,hz,fun p hp=>h p _ (ah.aW hp) (by rw [e];exact ao)⟩
end
open PySem PySem.Spec PyProof.Rows
def jm(K:Frag)(n:Str)(st:Stmt):Prop:=∃ (f:Addr) (fd:FuncData),K1 K n n st f fd/\PySem.W.nsIn K mainGlobals n=some (some (.ref f))
theorem Pr{K:Frag}{n:Str}{st:Stmt}{f:Addr}{oc:Value}{od an:Option Addr}{sl:Array (Option Value)}{kV dc pm cd ct:Value}(a:PySem.W.nsIn K mainGlobals n=some (some (.ref f)))(l:K.lookup f=some ⟨oc,od,.func (PySem.W.fnOf n n (fb st) (cx st) (aq st) .none kV dc pm an cd ct),sl⟩)(c:PySem.W.codeIn K cd n=true)(k:PySem.W.keepIn K (.ref f)=true):jm K n st:=⟨f,_,wA l c k,a⟩
theorem jm.df{K:Frag}{n:Str}{st:Stmt}{mg:Str->Option Value}{h:Heap}{ps:List Str}(q:jm K n st)(X:K.In h)(G0:h.Ns mainGlobals mg)
  (b:∀ (kV doc pm:Value) (an:Option Addr) (bU ct:Value) (us:List Value),us.length=ps.length->bindArgs (PySem.W.fnOf n n (fb st) (cx st) (aq st) .none kV doc pm an bU ct) ⟨us,[]⟩=pure (ps.zip us)):Def K mg n st ps :=
 let ⟨f,fd,F,a⟩:=q
 ⟨f,fd,F,mg_of X G0 a,F.binds b⟩
inductive Fa{α:Type}(P:V->α->Prop):List V->List α->Prop where
 | nil:Fa P [] []
 | cons {x:V} {a:α} {xs:List V} {as:List α} (h:P x a) (t:Fa P xs as):Fa P (x::xs) (a::as)
section
variable {α:Type}{P P':V->α->Prop}
theorem Fa.length:∀ {xs:List V} {as:List α},Fa P xs as->as.length=xs.length
 | _,_,.nil=>rfl
 | _,_,.cons _ t=>by simp [t.length]
theorem Fa.get:∀ {xs:List V} {as:List α} {i:Nat} {x:V},Fa P xs as->xs[i]?=some x->∃ a,P x a/\as[i]?=some a
 | _,_,i,x,.nil,h=>by simp at h
 | _,_,0,x,.cons h t,e=>by
  rw [List.getElem?_cons_zero] at e
  cases e
  exact⟨_,h,rfl⟩
 | _,_,i+1,x,.cons h t,e=>by
  obtain ⟨n,h1,h2⟩:=t.get (i:=i) (x:=x) (by simpa using e)
  exact⟨n,h1,by simpa using h2⟩
theorem Fa.imp(f:∀ x a,P x a->P' x a):∀ {xs:List V} {as:List α},Fa P xs as->Fa P' xs as
 | _,_,.nil=>.nil
 | _,_,.cons h t=>.cons (f _ _ h) (t.imp f)
theorem Fa.snoc{x:V}{a:α}(h:P x a):∀ {xs:List V} {as:List α},Fa P xs as->Fa P (xs++[x]) (as++[a])
 | _,_,.nil=>.cons h .nil
 | _,_,.cons h1 t=>.cons h1 (t.snoc h)
end
end L2
namespace L2
open PySem PySem.Spec PyProof.Rows PySem.W PyProof
theorem lr:entryFor table "proto.unchain"=some Builtin.«proto.unchain»:=entryFor_of_fast (by kernel_rfl)
section
variable {prog:Program}{w:World}{A:Around}{E:Value->Shared->Prop}{env:Env}
variable {nm q:Str}{C N:Addr}{bs bm:List Value}{hdct:Bool}{sn:List Str}{sub:List Value}{ab:Bool}{col:Option Bool}{dd:Option Addr}{k0 k1 k2 k3 k5:Option Value}{newId:String}
theorem BQ {s:Shared} {x c:Sem Value} {Q:Flow->Shared->Prop} {a:Addr} (f7:bm.contains (.type "BaseException")=true) (hh:A.handled=some (.ref a))
  (h:wpAny (model prog w) A x (fun v s₁=>∃ e t oa va,v=.ref e/\s₁.heap.get? C=some (excClassObj nm q C N bs bm hdct sn sub ab col dd k0 k1 k2 k3 k5 newId) /\
   s₁.heap.get? e=some { cls:=.ref C,data:=.fields #[.ref t,.none,.none,.none,.bool false,.none] }/\s₁.heap.get? a=some oa/\oa.data=.fields va/\va[2]?=some .none/\a≠e/\C≠e /\
   (∀ Q',Q' Value.none s₁->wpAny (model prog w) A c Q' E s₁)/\∀ h',(∀ b,b≠e->h'.get? b=s₁.heap.get? b)->h'.get? e=some { cls:=.ref C,data:=.fields #[.ref t,.none,.ref a,.none,.bool true,.none] }->E (.ref e) { s₁ with heap:=h' }) E s) :
  wpAny (model prog w) A (raiseStmt env (some x) (some c)) Q E s:=by
 have Tt:(Value.ref C::bm).contains (.type "BaseException")=true:=by rw [contains_cons,f7,Bool.or_true]
 unfold raiseStmt
 refine aac (aav h (fun v s₁ h₁=>?_) fun _ _ x=>x)
 obtain ⟨e,t,oa,va,rfl,hC,he,ha,Tu,h2,Fc,Z2,hc,hE⟩:=h₁
 obtain ⟨hp,g,d,tk,os⟩:=s₁
 refine aac (wpAny_holding (hc _ ?_))
 refine aac (aau ?_)
 repeat (first|with_reducible refine wpAny_loadPart_at he ?_|with_reducible refine wpAny_loadPart_at hC ?_|(with_reducible refine wpAny_isSubtype_exc hC ?_;rw [Tt])|wp_step)
 have RT:hp.get? e=some { cls:=.ref C,data:=.fields #[.ref t,.none,.none,.none,.bool false,.none] }:=he
 have RU:=Heap.get?_update_self (Obj.mapFields fun x=>x.setIfInBounds 3 Value.none) RT (Obj.isFreed_of_fields (Obj.data_mapFields rfl _))
 have Pt:=Heap.get?_update_self (Obj.mapFields fun x=>x.setIfInBounds 4 (Value.bool true)) RU (Obj.isFreed_of_fields (Obj.data_mapFields (Obj.data_mapFields rfl _) _))
 have ho:∀ b,b≠e->((hp.update e (Obj.mapFields fun x=>x.setIfInBounds 3 Value.none)).update e (Obj.mapFields fun x=>x.setIfInBounds 4 (Value.bool true))).get? b=hp.get? b:=fun b hb=>by
  rw [Heap.get?_update_other _ _ (Ne.symm hb),Heap.get?_update_other _ _ (Ne.symm hb)]
 generalize (hp.update e (Obj.mapFields fun x=>x.setIfInBounds 3 Value.none)).update e (Obj.mapFields fun x=>x.setIfInBounds 4 (Value.bool true))=Wh at Pt ho ⊢
 have Wi:Wh.get? a=some oa:=(ho a Fc).trans ha
 unfold raiseNew
 refine aac (wpAny_handled ?_)
 rw [hh]
 dsimp only
 rw [if_pos (by simpa using Fc)]
 refine aac (wpAny_holding (runValue_entry (id:="proto.unchain") (b:=Builtin.«proto.unchain») lr ?_))
 unfold Builtin.«proto.unchain»
 refine aac (wpAny_field Wi Tu h2 ?_)
 rw [if_pos (by decide)]
 repeat (first|wp_step)
 refine⟨_,rfl,?_⟩
 repeat (first|with_reducible refine wpAny_loadPart_at Pt ?_|wp_step)
 refine hE _ (fun b hb=>?_) ?_
 ·exact (Heap.get?_update_other _ _ (Ne.symm hb)).trans (ho b hb)
 ·exact Heap.get?_update_self _ Pt (Obj.isFreed_of_fields (Obj.data_mapFields rfl _))
end
section
variable {X:Cx}{EX:lH}{σ:St}{H:Hp}{s:Shared}
theorem rW{m:Option Value}(iF:X.stack=X.env::X.outer)(jk:X.env.frame=some X.env.locals)(hex:X.ex=[]):PassesOwnAt (model X.prog X.w) (X.A.mark m) X.A X.env (XP X EX):=by
 rintro e s' (h|h)
 ·obtain ⟨a,C,σ',H',rfl,I0,⟨oe,vs,T0,he,hc,qw,hd,hsz,hh,jl,⟨qz,tm⟩,pk⟩,hE⟩:=h
  have HU:X.Ei.A.frames=some (X.env::X.outer):=by rw [<- iF];exact I0.ok.frames
  refine mO (base:=X.base) (L:=X.env.locals) HU (iF ▸ I0.stack) jk he hd hh fun h1 T k1 k2 k3 k4 k5 k6=>?_
  obtain ⟨n1,n2,n3⟩:=I0.gd he hd
  have t1:∀ T',T0=some T'->∃ oT ts,s'.heap.get? T'=some oT/\oT.data=.fields ts:=fun T' z=>by
   subst z
   obtain ⟨_,_,oT,ts,q1,q2,_⟩:=hh
   exact⟨oT,ts,q1,q2⟩
  have BC:∀ b,b∈j2 (X.env::X.outer)->b=X.env.locals\/b∈X.fs:=fun b hb=>by
   rcases aaG.mp (I0.gT b (iF ▸ hb)) with z|z
   ·exact .inl z
   ·exact .inr z
  have off:Off (a::(T0.toList++j2 (X.env::X.outer))) s'.heap h1:=fun b o hb q=>by
   simp only [aaG,aaB,not_or] at hb
   exact k1 b o hb.1 (fun z=>hb.2.1 (by rw [<- z];simp)) hb.2.2 q
  have BD:eQ X.prog X.w H' h1:=I0.aR.off (fun b hb=>by
   simp only [aaG,aaB] at hb
   rcases hb with rfl|hb|hb
   ·exact jl
   ·cases T0 with
    | none=>simp at hb
    | some T1 =>
     simp only [Option.toList_some,aaA] at hb
     rw [hb];exact (pk T1 rfl).1
   ·exact I0.eh b (iF ▸ hb)) off
  have nS:∀ b,b∉(a::T0.toList)->b≠a/\some b≠T0:=fun b hb=>by
   simp only [aaG,not_or] at hb
   exact⟨hb.1,fun z=>hb.2 (by rw [<- z];simp)⟩
  have I2:Inv X.Ei [] σ' H' { s' with heap:=h1 }:=by
   refine I0.iu (h':=h1) (t':=s'.toks) (ch:=a::T0.toList) (fun b hb=>?_) (fun b o b1 b2 b3 e _=>?_) (fun b o b1 b2 b3 e _=>?_) (fun b o _ _ n=>n) (fun b o b3 e=>?_) (fun b xs e=>e) (fun b o u e=>e) (fun b ps e=>⟨#[],by rw [e];simp⟩) (fun m hm=>?_) BD
   ·rcases aaG.mp hb with rfl|hb
    ·exact⟨qz,n1,n2,fun p hp=>tm p (by simpa using hp)⟩
    ·cases T0 with
     | none=>simp at hb
     | some T1 =>
      simp only [Option.toList_some,aaA] at hb
      subst hb
      obtain ⟨oT,ts,q1,q2⟩:=t1 _ rfl
      obtain ⟨m1,m2,m3⟩:=I0.gd q1 q2
      exact⟨(pk _ rfl).2.1,m1,m2,fun p hp=>(pk _ rfl).2.2 p (by simpa using hp)⟩
   ·refine k1 b o (nS b b3).1 (nS b b3).2 (fun z=>?_) e
    rcases BC b z with q|q
    ·exact b1 q
    ·exact b2 q
   ·exact k2 b o (nS b b3).1 (nS b b3).2 e
   ·obtain ⟨sl,q⟩:=k2 b o (nS b b3).1 (nS b b3).2 e
    exact⟨_,q⟩
   ·obtain ⟨o,es,ep,ho,wd,r⟩:=hm
    obtain ⟨sl,q⟩:=k2 _ o (fun z=>n1 z.symm) (fun z=>by
     obtain ⟨oT,ts,q1,q2⟩:=t1 _ z.symm
     exact (I0.gd q1 q2).1 rfl) ho
    exact⟨_,es,ep,q,wd,r⟩
  have T2:H' T=none:=I0.aR.free k3
  have T3:X.s₀.heap.get? T=none:=by
   cases q:X.s₀.heap.get? T with
   | none=>rfl
   | some o =>
    obtain ⟨o',q1⟩:=I0.base.there T o q (by show T∉X.ex;rw [hex];simp)
    rw [k3] at q1;cases q1
  have T4:∀ p∈X.pn,p.1≠T:=fun p hp z=>by
   have:=(I0.pin p (aaz _ hp)).1
   rw [z,k3] at this;cases this
  obtain ⟨oT,ts,S0,EG,Lx⟩:=k6
  have BE:=Obj.data_mapFields hd (·.setIfInBounds 1 (Value.ref T))
  have zD:(vs.setIfInBounds 1 (Value.ref T))[1]?=some (.ref T):=by simp [hsz.1]
  unfold cameBackBy
  refine aac (wpAny_field k5 BE zD ?_)
  rw [if_neg (by simp)]
  rw [jk]
  refine eV k5 BE zD S0 EG (Array.getElem?_eq_some_iff.mp Lx).1 fun h2 f1 f2=>.inr ?_
  obtain ⟨HV,HW,q1,q2,q3⟩:=f2
  refine⟨a,C,σ',H',rfl,Inv.mark (s:={ s' with heap:=h1 }) I2 S0 EG T2 T3 T4 f1 ⟨_,q1⟩,⟨_,_,T,HV,HW,f1 _ _ (Ne.symm k4) k5,(Obj.cls_mapFields _ _).trans hc,(bM _ _).trans qw,BE,hsz.set,zD,k4,q1,q2,q3,jl,⟨qz,tm⟩,T2,T3,T4⟩,hE⟩
 ·obtain ⟨a,C,σ',H',rfl,I0,⟨oe,vs,T,oT,ts,he,hc,qw,hd,hsz,h1,M3,hT,lq,h3,jl,⟨qz,tm⟩,T2,T3,T4⟩,hE⟩:=h
  refine w6 jk he hd h1 hT lq h3 ?_
  unfold cameBackBy
  refine aac (wpAny_field he hd h1 ?_)
  rw [if_neg (by simp)]
  rw [jk]
  refine eV he hd h1 hT lq (Array.getElem?_eq_some_iff.mp h3).1 fun h2 f1 f2=>.inr ?_
  obtain ⟨HV,HW,q1,q2,q3⟩:=f2
  exact⟨a,C,σ',H',rfl,Inv.mark I0 hT lq T2 T3 T4 f1 ⟨_,q1⟩,⟨oe,vs,T,HV,HW,f1 _ _ (Ne.symm M3) he,hc,qw,hd,hsz,h1,M3,q1,q2,q3,jl,⟨qz,tm⟩,T2,T3,T4⟩,hE⟩
end
section
variable {prog:Program}{w:World}{A:Around}{E:Value->Shared->Prop}{s:Shared}{env:Env}
variable {nm q:Str}{C N:Addr}{bs bm qB:List Value}{hdct:Bool}{sn:List Str}{sub:List Value}{ab:Bool}{col:Option Bool}{dd:Option Addr}{k0 k1 k2 k3 k5:Option Value}{B Bn newId wU cO wV:String}{wW:List Value}
theorem qE(Fn:ExcBaseFacts Bn newId wV wW)(tj:qB.contains (.type Bn)=true)(F:ExcBaseFacts B wU cO qB){mN:Str->Option Value}{x:Str}{np ba pos kp:Pos}{kn:Nat}{args:List Expr}{Q:Flow->Shared->Prop}{a:Addr}
  (f7:bm.contains (.type "BaseException")=true) (hh:A.handled=some (.ref a)) (iH:(backTo ba (starEach args env)).any (·.1)=false) (DC:mN "__init__"=none)
  (h:wpAny (model prog w) A (eval (.Name x np) env) (fun f s₁=>f=.ref C/\wpAny (model prog w) A (evalArgs (.ref C) true (backTo ba (starEach args env)) [])
   (fun av s₂=>av.kw=[]/\av.pos.length<=sizeLine/\s₂.heap.get? C=some (excClassObj nm q C N bs bm hdct sn sub ab col dd k0 k1 k2 k3 k5 newId)/\s₂.heap.Ns N mN/\OwnTail s₂.heap qB bm /\
    (∃ oa va,s₂.heap.get? a=some oa/\oa.data=.fields va/\va[2]?=some .none) /\
    ∀ h1 e t h',Heap.MadeExcOf s₂.heap h1 e (.ref C) av.pos->(∀ b,b≠e->h'.get? b=h1.get? b)->h'.get? e=some { cls:=.ref C,data:=.fields #[.ref t,.none,.ref a,.none,.bool true,.none] }->E (.ref e) { s₂ with heap:=h' }) E s₁) E s) :
  wpAny (model prog w) A (exec (.Raise (some (.Call (.Name x np) args [] ba)) (some (.Constant .none kn kp)) pos) env) Q E s:=by
 rw [arm_exec_Raise]
 refine aac (wpAny_standAt (BQ (C:=C) (nm:=nm) (q:=q) (N:=N) (bs:=bs) (bm:=bm) (hdct:=hdct) (sn:=sn) (sub:=sub) (ab:=ab) (col:=col) (dd:=dd) (k0:=k0) (k1:=k1) (k2:=k2) (k3:=k3) (k5:=k5) (newId:=newId) f7 hh ?_))
 refine aac (aav (wpAny_Call_ofName (aav h (fun f s₁ h₁=>?_) fun _ _ x=>x)) (fun v s₃ h₃=>aac (wpAny_standAt (aau h₃))) fun _ _ x=>x)
 obtain ⟨rfl,h₁⟩:=h₁
 unfold callWith
 refine aac (wpAny_holding (aav h₁ (fun av s₂ h₂=>aac (wpAny_standAt ?_)) fun _ _ x=>x))
 obtain ⟨apos,Tv⟩:=av
 obtain ⟨Tw,hlen,hC,hn,T,⟨oa,va,ha,Tu,h2⟩,h₂⟩:=h₂
 obtain rfl:Tv=[]:=Tw
 obtain ⟨hp,g,d,tk,os⟩:=s₂
 simp only [iH]
 refine aac (wpAny_keeperOf_exc hC ?_)
 refine aac (wpAny_call_exc_subU (hrest:=hlen) Fn tj F T hC hn DC fun h' e hm=>aac (wpAny_holding (wpAny_point (aau ?_))))
 obtain ⟨t,ht,_,_⟩:=hm.there
 have Od:=hm.new
 have ne:∀ b o,hp.get? b=some o->b≠e:=fun b o z q=>by rw [q,Od] at z;cases z
 refine⟨e,t,oa,va,rfl,hm.keeps _ _ hC,ht,hm.keeps _ _ ha,Tu,h2,ne _ _ ha,ne _ _ hC,fun Q' hq=>?_,fun Z3 o1 o2=>h₂ h' e t Z3 hm o1 o2⟩
 rw [arm_eval_Constant]
 exact aac (aau (aac (wpAny_standAt (aau hq))))
end
theorem d6.ID{K:Frag}{M:Model}{hh:Heap}{D:Addr}(V:d6 K D)(X:K.In hh):Looks M hh (isType (.ref D)) true:=by
 obtain ⟨cd,ny⟩:=aat.mp V.cl
 unfold clsIn at ny
 split at ny
 ·rename_i c' d' VM A3 ho
  intro A' Q' E' s' k q
  unfold isType loadHead
  exact aac (wpAny_loadPart (k _ _ (X _ _ ho)) (aau q))
 ·cases ny
def Pu(X:Cx)(Et:List ExceptHandler)(r:TH):Prop:=∀ {pins:List (Addr×Obj)} {σ':St} {H':Hp} {D:Ends} {a T:Addr} {C:XC} {s:Shared} {oe:Obj} {vs:Array Value},Inv X pins σ' H' s->s.heap.get? a=some oe->oe.cls=.ref C.1->oe.dict=C.2->oe.data=.fields vs ->
 jv s.heap a vs (some T)->vK (fJ X.mg C.1) vs->H' a=none->X.s₀.heap.get? a=none->(∀ p∈X.pn++pins,p.1≠a)->H' T=none->X.s₀.heap.get? T=none->(∀ p∈X.pn++pins,p.1≠T)->r C D σ' H'->wpAny (model X.prog X.w) X.A (handleBy (.ref a) X.env Et) (SP X pins D) X.xe s
theorem DR{X:Cx}{body:List Stmt}{h0:ExceptHandler}{hs:List ExceptHandler}{pos:Pos}{tb:lH->TS}{r:TH}(hex:X.ex=[])
  (iF:X.stack=X.env::X.outer) (jk:X.env.frame=some X.env.locals)
  (hb:∀ pins EX,nv ((qC X pins).dQ (XW (qC X pins) EX)) body (tb EX)) (N:Pu X (h0::hs) r) :
  PS X (.Try body (h0::hs) [] [] pos) (zK tb r):=by
 intro pins s σ H D I h
 have back:∀ {f:Flow} {s':Shared} {E:Value->Shared->Prop},SP ((qC X pins).dQ E) [] D f s'->SP X pins D f s':=fun {f s' E} q=>by
  cases f with
  | next=>obtain ⟨σ',H',J,z⟩:=q;exact⟨σ',H',(Inv.cc J).tG,z⟩
  | brk=>obtain ⟨σ',H',J,z⟩:=q;exact⟨σ',H',(Inv.cc J).tG,z⟩
  | cont=>obtain ⟨σ',H',J,z⟩:=q;exact⟨σ',H',(Inv.cc J).tG,z⟩
  | ret u=>obtain ⟨v,σ',H',J,r,z⟩:=q;exact⟨v,σ',H',(Inv.cc J).tG,r,z⟩
 refine wpAny_Try_except (aav (hb pins _ [] s σ H D (I.SO.dQ _) h) (fun f s1 q=>?_) (fun e s1 q=>?_))
 ·cases f with
  | next=>exact wpAny_execs_nil (back q)
  | brk=>exact back q
  | cont=>exact back q
  | ret u=>exact back q
 obtain ⟨a,C,σ',H',rfl,I0,⟨oe,vs,T0,he,hc,qw,hd,hsz,hh,jl,⟨qz,tm⟩,hT⟩,V5⟩:=q
 have I1:Inv X pins σ' H' s1:=(Inv.cc I0).tG
 have jh:X.s₀.heap.get? a=none:=qz
 have Ir:∀ p∈X.pn++pins,p.1≠a:=tm
 have pk:∀ T,T0=some T->H' T=none/\X.s₀.heap.get? T=none/\∀ p∈X.pn++pins,p.1≠T:=hT
 have HU:X.A.frames=some (X.env::X.outer):=by rw [<- iF];exact I1.ok.frames
 refine nQ (base:=X.base) (L:=X.env.locals) HU (iF ▸ I1.stack) jk he hd hh fun h1 T k1 k2 k3 k4 k5 k6=>?_
 obtain ⟨n1,n2,n3⟩:=I1.gd he hd
 have t1:∀ T',T0=some T'->∃ oT ts,s1.heap.get? T'=some oT/\oT.data=.fields ts:=fun T' z=>by
  subst z
  obtain ⟨_,_,oT,ts,q1,q2,_⟩:=hh
  exact⟨oT,ts,q1,q2⟩
 have BC:∀ b,b∈j2 (X.env::X.outer)->b=X.env.locals\/b∈X.fs:=fun b hb=>by
  rcases aaG.mp (I1.gT b (iF ▸ hb)) with z|z
  ·exact .inl z
  ·exact .inr z
 have off:Off (a::(T0.toList++j2 (X.env::X.outer))) s1.heap h1:=fun b o hb q=>by
  simp only [aaG,aaB,not_or] at hb
  exact k1 b o hb.1 (fun z=>hb.2.1 (by rw [<- z];simp)) hb.2.2 q
 have BD:eQ X.prog X.w H' h1:=I1.aR.off (fun b hb=>by
  simp only [aaG,aaB] at hb
  rcases hb with rfl|hb|hb
  ·exact jl
  ·cases T0 with
   | none=>simp at hb
   | some T1 =>
    simp only [Option.toList_some,aaA] at hb
    rw [hb];exact (pk T1 rfl).1
  ·exact I1.eh b (iF ▸ hb)) off
 have nS:∀ b,b∉(a::T0.toList)->b≠a/\some b≠T0:=fun b hb=>by
  simp only [aaG,not_or] at hb
  exact⟨hb.1,fun z=>hb.2 (by rw [<- z];simp)⟩
 have I2:Inv X pins σ' H' { s1 with heap:=h1 }:=by
  refine I1.iu (h':=h1) (t':=s1.toks) (ch:=a::T0.toList) (fun b hb=>?_) (fun b o b1 b2 b3 e _=>?_) (fun b o b1 b2 b3 e _=>?_) (fun b o _ _ n=>n) (fun b o b3 e=>?_) (fun b xs e=>e) (fun b o u e=>e) (fun b ps e=>⟨#[],by rw [e];simp⟩) (fun m hm=>?_) BD
  ·rcases aaG.mp hb with rfl|hb
   ·exact⟨jh,n1,n2,Ir⟩
   ·cases T0 with
    | none=>simp at hb
    | some T1 =>
     simp only [Option.toList_some,aaA] at hb
     subst hb
     obtain ⟨oT,ts,q1,q2⟩:=t1 _ rfl
     obtain ⟨m1,m2,m3⟩:=I1.gd q1 q2
     exact⟨(pk _ rfl).2.1,m1,m2,(pk _ rfl).2.2⟩
  ·refine k1 b o (nS b b3).1 (nS b b3).2 (fun z=>?_) e
   rcases BC b z with q|q
   ·exact b1 q
   ·exact b2 q
  ·exact k2 b o (nS b b3).1 (nS b b3).2 e
  ·obtain ⟨sl,q⟩:=k2 b o (nS b b3).1 (nS b b3).2 e
   exact⟨_,q⟩
  ·obtain ⟨o,es,ep,ho,wd,r⟩:=hm
   obtain ⟨sl,q⟩:=k2 _ o (fun z=>n1 z.symm) (fun z=>by
    obtain ⟨oT,ts,q1,q2⟩:=t1 _ z.symm
    exact (I1.gd q1 q2).1 rfl) ho
   exact⟨_,es,ep,q,wd,r⟩
 have T3:X.s₀.heap.get? T=none:=by
  cases q:X.s₀.heap.get? T with
  | none=>rfl
  | some o =>
   obtain ⟨o',q1⟩:=I1.base.there T o q (by rw [hex];simp)
   rw [k3] at q1;cases q1
 have T4:∀ p∈X.pn++pins,p.1≠T:=fun p hp z=>by
  have:=(I1.pin p hp).1
  rw [z,k3] at this;cases this
 exact N (s:={ s1 with heap:=h1 }) I2 k5 ((Obj.cls_mapFields _ _).trans hc) ((bM _ _).trans qw) (Obj.data_mapFields hd _) ⟨by simp [hsz.1],k4,k6⟩ hsz.set jl jh Ir (I1.aR.free k3) T3 T4 V5
end L2
namespace L2
open PySem PySem.Spec PyProof.Rows PySem.W PyProof
theorem vS{mg:Str->Option Value}{x:Str}{A C:Addr}(g:mg x=some (.ref A))(n:C≠A):mg x≠some (.ref C):=fun z=>n (by rw [g] at z;cases z;rfl)
theorem IE{mg:Str->Option Value}{x:Str}{C:Addr}(g:mg x=none):mg x≠some (.ref C):=fun z=>by rw [g] at z;cases z
theorem zO {mg:Str->Option Value} {C:Addr} (a:mg "NoSpan"≠some (.ref C)) (b:mg "TooFar"≠some (.ref C)) (c:mg "NoName"≠some (.ref C)) (d:mg "NoLength"≠some (.ref C)):¬ fJ mg C:=fun z=>z.elim a fun z=>z.elim b fun z=>z.elim c d
open PySem PySem.Spec PyProof.Rows
def Fd(z:Str)(k:Nat):Str:=⟨((List.replicate k z.cps.toList).flatten).toArray⟩
theorem zP(a:Array Nat):∀ (k:Nat) (b:Array Nat),((List.replicate k a).foldl (·++·) b).toList=b.toList++(List.replicate k a.toList).flatten
 | 0,b=>by simp
 | k+1,b=>by
  rw [replicate_succ,List.foldl_cons,zP a k,replicate_succ,flatten_cons,Array.toList_append,append_assoc]
theorem zQ{a b:Str}(h:a.cps.toList=b.cps.toList):a=b:=by
 obtain ⟨⟨l⟩⟩:=a
 obtain ⟨⟨m⟩⟩:=b
 cases h
 rfl
theorem IF(z:Str)(k:Nat):(Fd z k).length=z.length*k:=by
 show ((List.replicate k z.cps.toList).flatten).toArray.size=z.cps.size*k
 rw [aaO]
 induction k with
 | zero=>rfl
 | succ k ih=>rw [replicate_succ,flatten_cons,aaE,ih,Array.length_toList,Nat.mul_succ];lia
theorem Nd{n:Nat}(h:n<=10000):n<=sizeLine:=aah h (by decide)
def IG:R2:=fun x y H Q=>∃ z n,x=.str z/\y=.int n/\(0<=n/\n<=10000)/\z.length*n.toNat<=10000/\z.length<=1000/\Q (.str (Fd z n.toNat)) H
section
variable {X:Cx}
theorem IH:ij X (binaryOp .Mult) IG:=by
 intro pins s σ H x y v u Q I rx ry h
 obtain ⟨z,n,rfl,rfl,hn,hz,G5,q⟩:=h
 obtain ⟨t,rfl⟩:=rx
 obtain ⟨t',rfl⟩:=ry
 refine P.mul_str (by rw [aar (by lia),aar (by lia)];rfl) (fun h1 _=>?_) (fun h1 _=>?_) ?_
 ·have QG:1<=n:=by lia
  have:(900000000000:Int)<=(2 ^ 63 - 1) / n:=by
   rw [Int.le_ediv_iff_mul_le (by lia)]
   lia
  have:(z.length:Int)<=1000:=by lia
  lia
 ·show decide (_ > sizeLine)=false
  rw [aar]
  have:=Nd hz
  lia
 ·split
  ·rename_i h1
   have e:Str.empty=Fd z n.toNat:=by rw [show n.toNat=0 by lia];rfl
   exact⟨by decide,⟨.str _,H,I.tok _,⟨_,rfl⟩,e ▸ q⟩⟩
  ·split
   ·rename_i h1 h2
    have e:z=Fd z n.toNat:=by
     refine zQ ?_
     show z.cps.toList=(List.replicate n.toNat z.cps.toList).flatten
     rw [Bool.or_eq_true,beq_iff_eq,beq_iff_eq] at h2
     rcases h2 with h2|h2
     ·rw [h2];simp
     ·have:z.cps.toList=[]:=List.eq_nil_of_length_eq_zero (by rw [Array.length_toList];exact h2)
      rw [this];simp
    exact⟨.str _,H,I,⟨_,rfl⟩,e ▸ q⟩
   ·rename_i h1 h2
    have e:(⟨(List.replicate n.toNat z.cps).foldl (·++·) #[]⟩:Str)=Fd z n.toNat:=zQ (by rw [zP];rfl)
    exact⟨by rw [e,IF];exact Nd hz,⟨.str _,H,I.tok _,⟨_,rfl⟩,e ▸ q⟩⟩
end
section
variable {H:Hp}{Q:VK}
theorem LK{z:Str}{n:Int}(hn:0<=n/\n<=10000)(h:z.length*n.toNat<=10000)(hz:z.length<=1000)(q:Q (.str (Fd z n.toNat)) H):IG (.str z) (.int n) H Q:=⟨z,n,rfl,rfl,hn,h,hz,q⟩
end
end L2
namespace L2
open PySem PyProof PySem.W
section
variable {prog:Program}{w:World}{A:Around}{E:Value->Shared->Prop}{h:Heap}{g:Array GenState}{d:Drawn}{t:Nat}{os:OsState}
variable {nm q:Str}{C N:Addr}{bs bm qB:List Value}{hdct:Bool}{sn:List Str}{sub:List Value}{ab:Bool}{col:Option Bool}{dd:Option Addr}{k0 k1 k2 k3 k5:Option Value}{B Bn newId wU cO wV:String}{wW:List Value}
theorem qF(Fn:ExcBaseFacts Bn newId wV wW)(tj:qB.contains (.type Bn)=true)(F:ExcBaseFacts B wU cO qB)(T:OwnTail h qB bm){mN:Str->Option Value}{rest:List Value}{fI:Addr}{oI:Obj}{Q:Fin->Shared->Prop}
  (hC:h.get? C=some (excClassObj nm q C N bs bm hdct sn sub ab col dd k0 k1 k2 k3 k5 newId)) (hn:h.Ns N mN) (hi:mN "__init__"=some (.ref fI)) (Pw:h.get? fI=some oI) (Px:oI.cls=.type "function")
  (hq:∀ h' e,Heap.MadeExcOf h h' e (.ref C) rest->wpAny (model prog w) A (call (.ref fI) (.ref e::rest)) (fun r s'=>r=.none/\Q (.done (.ret (.ref e))) s') E ⟨h',g,d,t,os⟩) (hrest:rest.length<=sizeLine) :
  wpAny (model prog w) A (Builtin.«type.__call__» ⟨.ref C::rest,[]⟩) Q E ⟨h,g,d,t,os⟩:=by
 repeat (first|with_reducible refine wpAny_loadPart_at hC ?_|with_reducible refine wpAny_madeBy_exc hC ?_|wp_step)
 refine codeAny_call_builtin_code (Code.quiet_builtin _ Fn.quiet) (wpAny_check_new_subU Fn tj T hC ?_)
 refine codeAny_exc_new_subU Fn tj F T hC ?_ hrest
 show wpAny _ _ _ _ _ _
 have YH:=aab { cls:=.ref C,data:=.fields #[.ref h.objs.size,.none,.none,.none,.bool false,.none] }
  (aab { cls:=.type "tuple",data:=.seq rest.toArray } hC)
 have Wj:=aab { cls:=.ref C,data:=.fields #[.ref h.objs.size,.none,.none,.none,.bool false,.none] }
  (aab { cls:=.type "tuple",data:=.seq rest.toArray } Pw)
 have Z4:((h.push { cls:=.type "tuple",data:=.seq rest.toArray }).push { cls:=.ref C,data:=.fields #[.ref h.objs.size,.none,.none,.none,.bool false,.none] }).Ns N mN :=
  let ⟨o,es,ep,e,r⟩:=hn;⟨o,es,ep,aab _ (aab _ e),r⟩
 have Tx:((h.push { cls:=.type "tuple",data:=.seq rest.toArray }).push
   { cls:=.ref C,data:=.fields #[.ref h.objs.size,.none,.none,.none,.bool false,.none] }).get? (h.objs.size+1)=some
   { cls:=.ref C,data:=.fields #[.ref h.objs.size,.none,.none,.none,.bool false,.none] }:=by heap_get
 have Z5:(Value.ref C::bm).contains (.ref C)=true:=by simp
 have T₁:=T.keeps (h':=(h.push { cls:=.type "tuple",data:=.seq rest.toArray }).push { cls:=.ref C,data:=.fields #[.ref h.objs.size,.none,.none,.none,.bool false,.none] })
  fun b o e=>aab _ (aab _ e)
 unfold isInstance
 repeat (first|with_reducible refine wpAny_loadPart_at Tx ?_|(with_reducible refine wpAny_isSubtype_exc YH ?_;rw [Z5])|wp_step)
 show wpAny _ _ (typeLookup (.ref C) _) _ _ _
 refine wpAny_typeLookup_tail YH Z4 T₁ F.mroIs F.init.lookup ?_
 rw [hi]
 refine wpAny_holding (aac ?_)
 unfold bindSpecial
 refine aac (wpAny_typeOf (T:="function") ⟨_,Wj,Px⟩ ?_)
 rw [if_pos (by decide)]
 refine aau (aac (aav (hq _ (h.objs.size+1) ⟨fun b o hb=>aab _ (aab _ hb),Heap.get?_none_of_le (Nat.le_succ _),h.objs.size,Tx,Heap.get?_none_of_le (aai _),?_⟩) (fun r s' hr=>?_) fun _ _ x=>x))
 ·exact aab _ (Heap.get?_push_at rfl rfl)
 ·obtain ⟨rfl,hQ⟩:=hr
  wp_walk
  exact hQ
theorem rX(Fn:ExcBaseFacts Bn newId wV wW)(tj:qB.contains (.type Bn)=true)(F:ExcBaseFacts B wU cO qB)(T:OwnTail h qB bm){mN:Str->Option Value}{rest:List Value}{fI:Addr}{oI:Obj}{Q:Value->Shared->Prop}
  (hC:h.get? C=some (excClassObj nm q C N bs bm hdct sn sub ab col dd k0 k1 k2 k3 k5 newId)) (hn:h.Ns N mN) (hi:mN "__init__"=some (.ref fI)) (Pw:h.get? fI=some oI) (Px:oI.cls=.type "function")
  (hq:∀ h' e,Heap.MadeExcOf h h' e (.ref C) rest->wpAny (model prog w) (A.under (.builtin "type.__call__" ⟨.ref C::rest,[]⟩)) (call (.ref fI) (.ref e::rest)) (fun r s'=>r=.none/\Q (.ref e) s') E ⟨h',g,d,t,os⟩) (hrest:rest.length<=sizeLine) :
  wpAny (model prog w) A (call (.ref C) rest) Q E ⟨h,g,d,t,os⟩:=by
 have f1:=tc_lookup
 have f2:=tc_bind (.ref C)
 have hT:(⟨h,g,d,t,os⟩:Shared).TypeIs (.ref C) "type":=⟨_,hC,rfl⟩
 refine wpAny_call (codeAny_of_tree ?_)
 show wpAny _ _ (callAny (.ref C) _) _ _ _
 repeat (any_goals (first|assumption|with_reducible refine wpAny_loadPart_at hC ?_|wp_step))
 refine⟨rfl,?_⟩
 refine codeAny_call_builtin_at (Code.quiet_builtin _ (by decide +kernel)) entry_typeCall (wpAny_check_type_call_sub hC (qF (hrest:=hrest) Fn tj F T hC hn hi Pw Px fun h' e hm=>?_))
 exact hq h' e hm
end
def xg:List Value->Bool
 | .type a::r=>a == "ValueError" && r == [.type "Exception",.type "BaseException",.type "object"]
 | .ref _::r=>xg r
 | _=>false
theorem rY (self:Value):∀ {l:List Value},xg l=true->refuseLoop self "__setattr__" l=pure ()
 | .type a::r,e=>by
  have e':(a == "ValueError" && r == [.type "Exception",.type "BaseException",.type "object"])=true:=e
  rw [Bool.and_eq_true] at e'
  rw [show a = "ValueError" from beq_iff_eq.mp e'.1,show r=[.type "Exception",.type "BaseException",.type "object"] from eq_of_beq e'.2]
  exact PySem.F.store_ValueError.passes self
 | .ref c::r,e=>by rw [refuseLoop_ref];exact rY self e
def xh(K:Frag)(C:Addr):Bool:=(clsIn K C).any fun cd=>xg cd.mro && cd.hasDict
section
variable {prog:Program}{w:World}{A:Around}{s:Shared}{K:Frag}{x C:Addr}{R:Result->Shared->Prop}
theorem vT {ox:Obj} {od:Option Obj} {name:Str} {tk:Tok} {v:Value} (X:K.In s.heap) (I:InstAt s.heap x ox C od) (hp:xh K C=true) (Z6:mroIn K C (.type "object")=some true) (ht:takerIn K C name=some none)
  (h:∀ b,wpAny (model prog w) A.in1 (Builtin.ObjectAttr.storeInOwnDict (.ref x) (.ref C) (.str name tk) name v b)
   (fun fin s'=>match fin with|.done f=>R (.ok f) s'|.again c'=>c'.quiet=true/\codeAny (model prog w) A c' R s') (fun e s'=>R (.error e) s') s) :
  codeAny (model prog w) A (.call (.builtin "object.__setattr__") ⟨[.ref x,.str name tk,v],[]⟩) R s:=by
 have SF:=PySem.F.store_object
 obtain ⟨cd,hc,ho⟩:=any_some hp
 rw [Bool.and_eq_true] at ho
 have sub:Looks (model prog w) s.heap (isInstance (.ref x) (.type "object")) true:=I.type.andThen (looks_mroIn X Z6)
 refine codeAny_call_builtin SF.slot.plain SF.entry (@check_slot (model prog w) _ _ s "object.__setattr__" "object" "__setattr__" (.ref x) [.str name tk,v] [] _ SF.kind SF.split sub (SF.args (.ref x) (.str name tk) v) ?_)
 obtain ⟨attr,ha,hr⟩:=Option.bind_eq_some_iff.mp ht
 have hm:Looks (model prog w) s.heap (mroOf (.ref C)) cd.mro:=(looks_clsIn X hc).andThen .now
 have L3:Looks (model prog w) s.heap (Builtin.ObjectAttr.storeTaker? attr) none:=by
  cases attr with
  | none=>exact .now
  | some a =>
   obtain ⟨b,hb,e⟩:=Option.map_eq_some_iff.mp hr
   refine (looks_takesIn X hb).andThen ?_
   cases b with
   | false=>exact .now
   | true=>cases e
 rw [osa_eq,refuse_eq]
 refine aac (aac (I.type.here (aac (hm.here ?_))))
 rw [rY _ ho.1]
 refine aau (aac (I.type.here (aac ((looks_findIn X ha).here (aac (L3.here ?_))))))
 exact h _
end
end L2
namespace L2
open PySem PySem.Spec PyProof.Rows PySem.W
section
variable {prog:Program}{w:World}{A:Around}{E:Value->Shared->Prop}{s:Shared}{K:Frag}{x C:Addr}{ox:Obj}{od:Option Obj}{v:Value}{name:Str}
theorem II{b:Bool}{Q:Value->Shared->Prop}(V:fR K C)(X:K.In s.heap)(I:InstAt s.heap x ox C od)(fo:findObj K C od name=some (.value v))(hv:handedIn v=true)(h:Q v { s with toks:=s.toks+1 }) :
  wpAny (model prog w) A (getAttr (.ref x) name b) Q E s:=by
 obtain ⟨hh,g,d,t,os⟩:=s
 have L0:=I.type (M:=model prog w)
 have L1:=looks_findIn (M:=model prog w) X V.ga
 have L2:=looks_findIn (M:=model prog w) X V.gt
 have L3:=looks_find (M:=model prog w) X I fo
 have L4:=looks_subIn (M:=model prog w) X V.be
 have f3:=F.attr_ValueError.ga.bind (.ref x)
 unfold getAttr getAttrBy
 refine aac (wpAny_mkText (wpAny_holding (aac (L0.at (aac (L1.at ?_))))))
 have VJ:(Value.builtin "BaseException.__getattribute__" == Value.builtin "object.__getattribute__")=false:=by decide +kernel
 have VL:(onTheHeap (Value.ref C) && Value.builtin "BaseException.__getattribute__" == Value.builtin "object.__getattribute__")=false:=by rw [VJ];rfl
 dsimp only
 rw [VL]
 simp only [Bool.false_eq_true,if_false]
 unfold getAttrByItsOwn hookBefore
 rw [if_pos (show onTheHeap (Value.ref C)=true from rfl)]
 refine aac (L2.at (aac (wpAny_attempt (wpAny_holding ?_))))
 unfold callGetattribute boundAndCalled
 rw [if_neg (by cases b <;> decide)]
 rw [f3]
 refine aac (aau (wpAny_call ?_))
 refine codeAny_call_builtin F.attr_ValueError.ga.plain F.entry_bexc_ga ?_
 have hk:builtinKind "BaseException.__getattribute__"=some .slot:=by decide +kernel
 have Bv:splitId "BaseException.__getattribute__"=some ("BaseException","__getattribute__"):=by decide +kernel
 have ha:=F.args_bexc_ga (.ref x) (.str name t)
 simp only [checkBuiltinCall,hk,Bv]
 refine aac ?_
 unfold isInstance
 refine aac (L0.at (L4.at ?_))
 rw [if_neg (by decide)]
 refine wpAny_of_eq (a:=()) ha ?_
 show wpAny _ _ (Builtin.«object.__getattribute__» ⟨[.ref x,.str name t],[]⟩) _ _ _
 unfold Builtin.«object.__getattribute__»
 refine aac (aau ?_)
 refine aac (aau (aac (L0.at (aac (L3.at ?_)))))
 refine aau ?_
 show wpAny _ _ (handedOut v) _ _ _
 rw [handedOut_of hv]
 exact aau h
end
end L2
namespace L2
open PySem PySem.Spec PyProof.Rows PySem.W PyProof
section
variable {prog:Program}{w:World}{A:Around}{E:Value->Shared->Prop}{env:Env}
variable {nm q:Str}{C N:Addr}{bs bm:List Value}{hdct:Bool}{sn:List Str}{sub:List Value}{ab:Bool}{col:Option Bool}{dd:Option Addr}{k0 k1 k2 k3 k5:Option Value}{newId:String}
theorem BR {s:Shared} {x:Sem Value} {Q:Flow->Shared->Prop} (f7:bm.contains (.type "BaseException")=true) (hh:A.handled=none)
  (h:wpAny (model prog w) A x (fun v s₁=>∃ e t dx,v=.ref e/\s₁.heap.get? C=some (excClassObj nm q C N bs bm hdct sn sub ab col dd k0 k1 k2 k3 k5 newId) /\
   s₁.heap.get? e=some { cls:=.ref C,dict:=dx,data:=.fields #[.ref t,.none,.none,.none,.bool false,.none] }/\E (.ref e) s₁) E s) :
  wpAny (model prog w) A (raiseStmt env (some x) none) Q E s:=by
 have Tt:(Value.ref C::bm).contains (.type "BaseException")=true:=by rw [contains_cons,f7,Bool.or_true]
 unfold raiseStmt
 refine aac (aav h (fun v s₁ h₁=>?_) fun _ _ x=>x)
 obtain ⟨e,t,dx,rfl,hC,he,hE⟩:=h₁
 obtain ⟨hp,g,d,tk,os⟩:=s₁
 repeat (first|with_reducible refine wpAny_loadPart_at he ?_|with_reducible refine wpAny_loadPart_at hC ?_|(with_reducible refine wpAny_isSubtype_exc hC ?_;rw [Tt])|wp_step)
 exact wpAny_raiseNew_none hh hE
theorem zR {s:Shared} {x c:Sem Value} {Q:Flow->Shared->Prop} {a:Addr} (f7:bm.contains (.type "BaseException")=true) (hh:A.handled=some (.ref a))
  (h:wpAny (model prog w) A x (fun v s₁=>∃ e t dx oa va,v=.ref e/\s₁.heap.get? C=some (excClassObj nm q C N bs bm hdct sn sub ab col dd k0 k1 k2 k3 k5 newId) /\
   s₁.heap.get? e=some { cls:=.ref C,dict:=dx,data:=.fields #[.ref t,.none,.none,.none,.bool false,.none] }/\s₁.heap.get? a=some oa/\oa.data=.fields va/\va[2]?=some .none/\a≠e/\C≠e /\
   (∀ Q',Q' Value.none s₁->wpAny (model prog w) A c Q' E s₁)/\∀ h',(∀ b,b≠e->h'.get? b=s₁.heap.get? b)->h'.get? e=some { cls:=.ref C,dict:=dx,data:=.fields #[.ref t,.none,.ref a,.none,.bool true,.none] }->E (.ref e) { s₁ with heap:=h' }) E s) :
  wpAny (model prog w) A (raiseStmt env (some x) (some c)) Q E s:=by
 have Tt:(Value.ref C::bm).contains (.type "BaseException")=true:=by rw [contains_cons,f7,Bool.or_true]
 unfold raiseStmt
 refine aac (aav h (fun v s₁ h₁=>?_) fun _ _ x=>x)
 obtain ⟨e,t,dx,oa,va,rfl,hC,he,ha,Tu,h2,Fc,Z2,hc,hE⟩:=h₁
 obtain ⟨hp,g,d,tk,os⟩:=s₁
 refine aac (wpAny_holding (hc _ ?_))
 refine aac (aau ?_)
 repeat (first|with_reducible refine wpAny_loadPart_at he ?_|with_reducible refine wpAny_loadPart_at hC ?_|(with_reducible refine wpAny_isSubtype_exc hC ?_;rw [Tt])|wp_step)
 have RT:hp.get? e=some { cls:=.ref C,dict:=dx,data:=.fields #[.ref t,.none,.none,.none,.bool false,.none] }:=he
 have RU:=Heap.get?_update_self (Obj.mapFields fun x=>x.setIfInBounds 3 Value.none) RT (Obj.isFreed_of_fields (Obj.data_mapFields rfl _))
 have Pt:=Heap.get?_update_self (Obj.mapFields fun x=>x.setIfInBounds 4 (Value.bool true)) RU (Obj.isFreed_of_fields (Obj.data_mapFields (Obj.data_mapFields rfl _) _))
 have ho:∀ b,b≠e->((hp.update e (Obj.mapFields fun x=>x.setIfInBounds 3 Value.none)).update e (Obj.mapFields fun x=>x.setIfInBounds 4 (Value.bool true))).get? b=hp.get? b:=fun b hb=>by
  rw [Heap.get?_update_other _ _ (Ne.symm hb),Heap.get?_update_other _ _ (Ne.symm hb)]
 generalize (hp.update e (Obj.mapFields fun x=>x.setIfInBounds 3 Value.none)).update e (Obj.mapFields fun x=>x.setIfInBounds 4 (Value.bool true))=Wh at Pt ho ⊢
 have Wi:Wh.get? a=some oa:=(ho a Fc).trans ha
 unfold raiseNew
 refine aac (wpAny_handled ?_)
 rw [hh]
 dsimp only
 rw [if_pos (by simpa using Fc)]
 refine aac (wpAny_holding (runValue_entry (id:="proto.unchain") (b:=Builtin.«proto.unchain») lr ?_))
 unfold Builtin.«proto.unchain»
 refine aac (wpAny_field Wi Tu h2 ?_)
 rw [if_pos (by decide)]
 repeat (first|wp_step)
 refine⟨_,rfl,?_⟩
 repeat (first|with_reducible refine wpAny_loadPart_at Pt ?_|wp_step)
 refine hE _ (fun b hb=>?_) ?_
 ·exact (Heap.get?_update_other _ _ (Ne.symm hb)).trans (ho b hb)
 ·exact Heap.get?_update_self _ Pt (Obj.isFreed_of_fields (Obj.data_mapFields rfl _))
end
section
variable {prog:Program}{w:World}{A:Around}{E:Value->Shared->Prop}{s:Shared}{env:Env}
variable {nm q:Str}{C N:Addr}{bs bm qB:List Value}{hdct:Bool}{sn:List Str}{sub:List Value}{ab:Bool}{col:Option Bool}{dd:Option Addr}{k0 k1 k2 k3 k5:Option Value}{B Bn newId wU cO wV:String}{wW:List Value}
def IJ(prog:Program)(w:World)(A:Around)(C fI:Addr)(us:List Value)(s₂:Shared)(R:Addr->Option Addr->Addr->Shared->Prop)(E:Value->Shared->Prop):Prop:=∀ h' e,Heap.MadeExcOf s₂.heap h' e (.ref C) us ->
 wpAny (model prog w) (A.under (.builtin "type.__call__" ⟨.ref C::us,[]⟩)) (call (.ref fI) (.ref e::us)) (fun r s'=>r=.none/\∃ t dx,s'.heap.get? e=some { cls:=.ref C,dict:=dx,data:=.fields #[.ref t,.none,.none,.none,.bool false,.none] }/\R e dx t s') E { s₂ with heap:=h' }
theorem zS(Fn:ExcBaseFacts Bn newId wV wW)(tj:qB.contains (.type Bn)=true)(F:ExcBaseFacts B wU cO qB){mN:Str->Option Value}{x:Str}{np ba pos:Pos}{args:List Expr}{Q:Flow->Shared->Prop}{fI:Addr}{oI:Obj}
  (f7:bm.contains (.type "BaseException")=true) (hh:A.handled=none) (iH:(backTo ba (starEach args env)).any (·.1)=false) (hi:mN "__init__"=some (.ref fI)) (Px:oI.cls=.type "function")
  (h:wpAny (model prog w) A (eval (.Name x np) env) (fun f s₁=>f=.ref C/\wpAny (model prog w) A (evalArgs (.ref C) true (backTo ba (starEach args env)) [])
   (fun av s₂=>av.kw=[]/\av.pos.length<=sizeLine/\s₂.heap.get? C=some (excClassObj nm q C N bs bm hdct sn sub ab col dd k0 k1 k2 k3 k5 newId)/\s₂.heap.Ns N mN/\OwnTail s₂.heap qB bm/\s₂.heap.get? fI=some oI /\
    IJ prog w A C fI av.pos s₂ (fun e dx t s'=>s'.heap.get? C=some (excClassObj nm q C N bs bm hdct sn sub ab col dd k0 k1 k2 k3 k5 newId)/\E (.ref e) s') E) E s₁) E s) :
  wpAny (model prog w) A (exec (.Raise (some (.Call (.Name x np) args [] ba)) none pos) env) Q E s:=by
 rw [arm_exec_Raise]
 refine aac (wpAny_standAt (BR (C:=C) (nm:=nm) (q:=q) (N:=N) (bs:=bs) (bm:=bm) (hdct:=hdct) (sn:=sn) (sub:=sub) (ab:=ab) (col:=col) (dd:=dd) (k0:=k0) (k1:=k1) (k2:=k2) (k3:=k3) (k5:=k5) (newId:=newId) f7 hh ?_))
 refine aac (aav (wpAny_Call_ofName (aav h (fun f s₁ h₁=>?_) fun _ _ x=>x)) (fun v s₃ h₃=>aac (wpAny_standAt (aau h₃))) fun _ _ x=>x)
 obtain ⟨rfl,h₁⟩:=h₁
 unfold callWith
 refine aac (wpAny_holding (aav h₁ (fun av s₂ h₂=>aac (wpAny_standAt ?_)) fun _ _ x=>x))
 obtain ⟨apos,Tv⟩:=av
 obtain ⟨Tw,hlen,hC,hn,T,Pw,h₂⟩:=h₂
 obtain rfl:Tv=[]:=Tw
 obtain ⟨hp,g,d,tk,os⟩:=s₂
 simp only [iH]
 refine aac (wpAny_keeperOf_exc hC ?_)
 refine aac (rX (hrest:=hlen) Fn tj F T hC hn hi Pw Px fun h' e hm=>?_)
 refine aav (h₂ h' e hm) (fun r s' hr=>⟨hr.1,?_⟩) fun _ _ x=>x
 obtain ⟨_,t,dx,ht,Wk,hE⟩:=hr
 exact aac (wpAny_holding (wpAny_point (aau ⟨e,t,dx,rfl,Wk,ht,hE⟩)))
theorem nY(Fn:ExcBaseFacts Bn newId wV wW)(tj:qB.contains (.type Bn)=true)(F:ExcBaseFacts B wU cO qB){mN:Str->Option Value}{x:Str}{np ba pos kp:Pos}{kn:Nat}{args:List Expr}{Q:Flow->Shared->Prop}{a fI:Addr}{oI:Obj}
  (f7:bm.contains (.type "BaseException")=true) (hh:A.handled=some (.ref a)) (iH:(backTo ba (starEach args env)).any (·.1)=false) (hi:mN "__init__"=some (.ref fI)) (Px:oI.cls=.type "function")
  (h:wpAny (model prog w) A (eval (.Name x np) env) (fun f s₁=>f=.ref C/\wpAny (model prog w) A (evalArgs (.ref C) true (backTo ba (starEach args env)) [])
   (fun av s₂=>av.kw=[]/\av.pos.length<=sizeLine/\s₂.heap.get? C=some (excClassObj nm q C N bs bm hdct sn sub ab col dd k0 k1 k2 k3 k5 newId)/\s₂.heap.Ns N mN/\OwnTail s₂.heap qB bm/\s₂.heap.get? fI=some oI /\
    IJ prog w A C fI av.pos s₂ (fun e dx t s'=>s'.heap.get? C=some (excClassObj nm q C N bs bm hdct sn sub ab col dd k0 k1 k2 k3 k5 newId)/\C≠e/\a≠e/\(∃ oa va,s'.heap.get? a=some oa/\oa.data=.fields va/\va[2]?=some .none) /\
     ∀ h',(∀ b,b≠e->h'.get? b=s'.heap.get? b)->h'.get? e=some { cls:=.ref C,dict:=dx,data:=.fields #[.ref t,.none,.ref a,.none,.bool true,.none] }->E (.ref e) { s' with heap:=h' }) E) E s₁) E s) :
  wpAny (model prog w) A (exec (.Raise (some (.Call (.Name x np) args [] ba)) (some (.Constant .none kn kp)) pos) env) Q E s:=by
 rw [arm_exec_Raise]
 refine aac (wpAny_standAt (zR (C:=C) (nm:=nm) (q:=q) (N:=N) (bs:=bs) (bm:=bm) (hdct:=hdct) (sn:=sn) (sub:=sub) (ab:=ab) (col:=col) (dd:=dd) (k0:=k0) (k1:=k1) (k2:=k2) (k3:=k3) (k5:=k5) (newId:=newId) f7 hh ?_))
 refine aac (aav (wpAny_Call_ofName (aav h (fun f s₁ h₁=>?_) fun _ _ x=>x)) (fun v s₃ h₃=>aac (wpAny_standAt (aau h₃))) fun _ _ x=>x)
 obtain ⟨rfl,h₁⟩:=h₁
 unfold callWith
 refine aac (wpAny_holding (aav h₁ (fun av s₂ h₂=>aac (wpAny_standAt ?_)) fun _ _ x=>x))
 obtain ⟨apos,Tv⟩:=av
 obtain ⟨Tw,hlen,hC,hn,T,Pw,h₂⟩:=h₂
 obtain rfl:Tv=[]:=Tw
 obtain ⟨hp,g,d,tk,os⟩:=s₂
 simp only [iH]
 refine aac (wpAny_keeperOf_exc hC ?_)
 refine aac (rX (hrest:=hlen) Fn tj F T hC hn hi Pw Px fun h' e hm=>?_)
 refine aav (h₂ h' e hm) (fun r s' hr=>⟨hr.1,?_⟩) fun _ _ x=>x
 obtain ⟨_,t,dx,ht,Wk,nC,na,⟨oa,va,e1,e2,e3⟩,hE⟩:=hr
 refine aac (wpAny_holding (wpAny_point (aau ⟨e,t,dx,oa,va,rfl,Wk,ht,e1,e2,e3,na,nC,fun Q' hq=>?_,hE⟩)))
 rw [arm_eval_Constant]
 exact aac (aau (aac (wpAny_standAt (aau hq))))
end
end L2
namespace L2
open PySem PySem.Spec PyProof.Rows PySem.W PyProof
def gu(a C:Addr)(d:Option Addr):HO:=.ext fun h=>∃ t,h.get? a=some { cls:=.ref C,dict:=d,data:=.fields #[.ref t,.none,.none,.none,.bool false,.none] }
theorem gu.keep{a C:Addr}{d:Option Addr}:∀ h1 h2:Heap,(∃ t,h1.get? a=some { cls:=.ref C,dict:=d,data:=.fields #[.ref t,.none,.none,.none,.bool false,.none] })->(∀ o,h1.get? a=some o->h2.get? a=some o)->∃ t,h2.get? a=some { cls:=.ref C,dict:=d,data:=.fields #[.ref t,.none,.none,.none,.bool false,.none] }:=fun _ _ ⟨t,e⟩ k=>⟨t,k _ e⟩
structure zT(K:Frag)(C:Addr)(f:Str):Prop where
 sa:findIn K (.ref C) "__setattr__"=some (some (.builtin "object.__setattr__"))
 st:xh K C=true
 ob:mroIn K C (.type "object")=some true
 na:Bc K C f
section
variable {X:Cx}{pins:List (Addr×Obj)}{σ:St}{H:Hp}{s:Shared}
theorem Inv.Py{a:Addr}{φ:Heap->Prop}{oe:Obj}{vs:Array Value}{t':Nat}(I:Inv X pins σ H s)(he:s.heap.get? a=some oe)(hd:oe.data=.fields vs)(hφ:φ s.heap)(iF:∀ h1 h2:Heap,φ h1->(∀ o,h1.get? a=some o->h2.get? a=some o)->φ h2)
  (hH:H a=none) (h0:X.s₀.heap.get? a=none) (hp:∀ p∈X.pn++pins,p.1≠a):Inv X pins σ (upd H a (.ext φ)) { s with toks:=t' }:=by
 obtain ⟨n1,n2,n3⟩:=I.gd he hd
 refine I.iu (h':=s.heap) (ch:=[a]) (fun b hb=>?_) (fun b o _ _ _ e _=>e) (fun b o _ _ _ e _=>⟨o.slots,e⟩) (fun b o hb e n=>?_) (fun b o _ e=>⟨o,e⟩) (fun b xs e=>?_) (fun b o u e=>?_) (fun b ps e=>⟨#[],?_⟩) (fun m hm=>hm) ?_
 ·obtain rfl:b=a:=by simpa using hb
  exact⟨h0,n1,n2,hp⟩
 ·rw [ar (by simpa using hb)];exact n
 ·rw [ar (aN e hH)];exact e
 ·rw [ar (aN e hH)];exact e
 ·rw [ar (aN e hH)];simpa using e
 ·intro b o e
  by_cases hb:b=a
  ·subst hb
   rw [ao] at e
   cases e
   exact⟨hφ,⟨oe,he⟩,iF⟩
  ·rw [ar hb] at e
   exact (I.aR b o e).l8 (fun _ _ _ q=>q) (fun c q=>by rw [ar (aN q hH)];exact q) fun c xs q=>by rw [ar (aN q hH)];exact q
theorem Inv.DS{a:Addr}{φ:Heap->Prop}{oe:Obj}{vs:Array Value}{t':Nat}(I:Inv X pins σ H s)(e:H a=some (.ext φ))(he:s.heap.get? a=some oe)(hd:oe.data=.fields vs)(h0:X.s₀.heap.get? a=none)(hp:∀ p∈X.pn++pins,p.1≠a) :
  Inv X pins σ (L2.del H a) { s with toks:=t' }:=by
 obtain ⟨n1,n2,n3⟩:=I.gd he hd
 have ne:∀ {b:Addr} {o:HO},H b=some o->(∀ φ,o≠.ext φ)->L2.del H a b=some o:=fun {b o} q n=>by
  have:b≠a:=fun z=>by rw [z,e] at q;cases q;exact n _ rfl
  rw [fK this];exact q
 refine I.iu (h':=s.heap) (ch:=[a]) (fun b hb=>?_) (fun b o _ _ _ e _=>e) (fun b o _ _ _ e _=>⟨o.slots,e⟩) (fun b o hb e n=>?_) (fun b o _ e=>⟨o,e⟩) (fun b xs q=>ne q fun _ z=>nomatch z) (fun b o u q=>ne q fun _ z=>nomatch z) (fun b ps q=>⟨#[],?_⟩) (fun m hm=>hm) (I.aR.back e)
 ·obtain rfl:b=a:=by simpa using hb
  exact⟨h0,n1,n2,hp⟩
 ·rw [fK (by simpa using hb)];exact n
 ·rw [Array.append_empty];exact ne q fun _ z=>nomatch z
theorem LL{A:Around}{E:Value->Shared->Prop}{a C:Addr}{d:Option Addr}{f:Str}{y:V}{u:Value}{Q:Unit->Shared->Prop}(I:Inv X pins σ H s)(ea:H a=some (gu a C d))(V:zT X.K C f)(ry:RelV y u)
  (h:(d=none/\∀ dx,H dx=none->dx≠a->∀ s',Inv X pins σ (upd (upd H dx (.xd [(f,y)])) a (gu a C (some dx))) s'->Q () s')\/∃ dx fs,d=some dx/\H dx=some (.xd fs)/\fs.length<1000/\∀ s',Inv X pins σ (upd H dx (.xd (wg f y fs))) s'->Q () s') :
  wpAny (model X.prog X.w) A (setAttr (.ref a) f u) Q E s:=by
 obtain ⟨⟨t,hx⟩,_⟩:=I.aR a _ ea
 obtain ⟨cd,hc,wd⟩:=any_some V.st
 rw [Bool.and_eq_true] at wd
 rcases h with ⟨rfl,h⟩|⟨dx,fs,rfl,ed,hl,h⟩
 ·have J:InstAt s.heap a _ C none:=⟨hx,rfl,rfl,trivial⟩
  refine set_plain I.iA J V.sa (vT (s:={ s with toks:=s.toks+1 }) I.iA J V.st V.ob V.na.MI fun b=>?_)
  refine aac (aau (aac (aac (wpAny_loadPart hx (aac (Looks.here (s:={ s with toks:=s.toks+1 }) (looks_clsIn I.iA hc) ?_))))))
  rw [wd.2]
  have YJ:(s.heap.push { cls:=.type "dict",data:=.dict #[] }).get? a=some _:=aab _ hx
  have Wl:a≠s.heap.objs.size:=aaU (aae hx)
  rw [if_neg (by decide)]
  dsimp only
  rw [if_neg (by simp [typeHasDict])]
  refine aac (wpAny_alloc' (h:=s.heap) ?_)
  refine aac (wpAny_update' YJ ?_)
  refine aau ?_
  have YK:((s.heap.push { cls:=.type "dict",data:=.dict #[] }).update a fun o=>{ cls:=o.cls,dict:=some s.heap.objs.size,data:=o.data,slots:=o.slots }).get? s.heap.objs.size=some { cls:=.type "dict",data:=.dict #[] } :=
   (Heap.get?_update_ne _ _ _ _ Wl.symm).trans (Heap.get?_push_at rfl rfl)
  have YL:((s.heap.push { cls:=.type "dict",data:=.dict #[] }).update a fun o=>{ cls:=o.cls,dict:=some s.heap.objs.size,data:=o.data,slots:=o.slots }).get? a=some { cls:=.ref C,dict:=some s.heap.objs.size,data:=.fields #[.ref t,.none,.none,.none,.bool false,.none] } :=
   Heap.get?_update_self _ YJ rfl
  have Gd:∀ b o,b≠a->s.heap.get? b=some o->((s.heap.push { cls:=.type "dict",data:=.dict #[] }).update a fun o=>{ cls:=o.cls,dict:=some s.heap.objs.size,data:=o.data,slots:=o.slots }).get? b=some o:=fun b o nb e =>
   (Heap.get?_update_ne _ _ _ _ nb).trans (aab _ e)
  generalize ((s.heap.push { cls:=.type "dict",data:=.dict #[] }).update a fun o=>{ cls:=o.cls,dict:=some s.heap.objs.size,data:=o.data,slots:=o.slots })=h1 at YK YL Gd ⊢
  have Z7:h1.Ns s.heap.objs.size (fun _=>none):=⟨_,#[],_,YK,rfl,fun e he=>absurd he (by simp),fun _=>rfl⟩
  show wpAny _ _ (Builtin.ObjectAttr.storeInDict s.heap.objs.size (.str f _) f u) _ _ _
  unfold Builtin.ObjectAttr.storeInDict Builtin.ObjectAttr.newKeyGuard
  refine aac (aau (aac (wpAny_nsSet1 (Heap.Ns1.of_empty Z7) fun h' Qt hs=>?_)))
  obtain ⟨oD,Z8,Z9,UN,Wm,Wn⟩:=Qt.count (Within.cons f u Within.nil)
  refine aac (wpAny_lookBehind UN (by rw [Wm];exact pastItsLine_dict (aah Wn (by rw [length_cons,length_nil,sizeLine_eq];lia))) ?_)
  refine aau ?_
  have nd:H s.heap.objs.size=none:=I.aR.fresh (aai _)
  have eb:∀ b o,b≠a->s.heap.get? b=some o->h'.get? b=some o:=fun b o nb e=>(hs.2 b (aaU (aae e))).trans (Gd b o nb e)
  have Wo:h'.get? a=some { cls:=.ref C,dict:=some s.heap.objs.size,data:=.fields #[.ref t,.none,.none,.none,.bool false,.none] }:=(hs.2 a Wl).trans YL
  have up:∀ {b:Addr} {o:HO},H b=some o->b≠a->upd (upd H s.heap.objs.size (.xd [(f,y)])) a (gu a C (some s.heap.objs.size)) b=some o:=fun {b o} e nb=>by
   rw [ar nb,ar (aN e nd)];exact e
  have na:∀ {b:Addr} {o:HO},H b=some o->(∀ φ,o≠.ext φ)->b≠a:=fun {b o} e n z=>by rw [z,ea] at e;cases e;exact n _ rfl
  refine h s.heap.objs.size nd Wl.symm _ (Inv.iu (s:=s) (h':=h') (ch:=[]) I (fun b hb=>absurd hb (by simp)) (fun b o _ _ _ e n=>eb b o (fun z=>by rw [z,ea] at n;cases n) e) (fun b o _ _ _ e n=>⟨o.slots,eb b o (fun z=>by rw [z,ea] at n;cases n) e⟩) (fun b o _ e n=>?_) (fun b o _ e=>?_) (fun b xs e=>up e (na e fun _ z=>nomatch z)) (fun b o v e=>up e (na e fun _ z=>nomatch z)) (fun b ps e=>⟨#[],by rw [Array.append_empty];exact up e (na e fun _ z=>nomatch z)⟩) (fun m hm=>?_) (fun b o e=>?_))
  ·have nb:b≠a:=fun z=>by rw [z,ea] at n;cases n
   rw [ar nb,ar (aaU (aae e))];exact n
  ·by_cases nb:b=a
   ·rw [nb];exact⟨_,Wo⟩
   ·exact⟨o,eb b o nb e⟩
  ·obtain ⟨o,es,ep,ho,r⟩:=hm
   exact⟨o,es,ep,eb _ o (fun z=>by have n:=I.free;rw [z,ea] at n;cases n) ho,r⟩
  ·by_cases nb:b=a
   ·subst nb
    rw [ao] at e
    cases e
    exact⟨⟨t,Wo⟩,⟨_,Wo⟩,gu.keep⟩
   ·rw [ar nb] at e
    by_cases YM:b=s.heap.objs.size
    ·subst YM
     rw [ao] at e
     cases e
     refine⟨_,Qt,fun g=>?_⟩
     by_cases q:g=f
     ·rw [q];simp [ik,ry]
     ·simp [ik,q,List.lookup,beq_eq_false_iff_ne.mpr q]
    ·rw [ar YM] at e
     refine (I.aR b o e).l8 (fun c v hc q=>eb c v ?_ q) (fun c q=>up q (na q fun _ z=>nomatch z)) fun c xs q=>up q (na q fun _ z=>nomatch z)
     rcases hc with rfl|hc
     ·exact nb
     ·exact na hc fun _ z=>nomatch z
 ·obtain ⟨mA,n,r⟩:=I.aR dx _ ed
  obtain ⟨od,ho,hlk⟩:=kb n
  have nx:dx≠a:=fun z=>by rw [z,ea] at ed;cases ed
  have J:InstAt s.heap a _ C (some od):=⟨hx,rfl,rfl,ho⟩
  have wi:PySem.Within mA (fs.map (·.1)):=fun g hg=>by
   have rg:=r g
   cases q:fs.lookup g with
   | none=>rw [q] at rg;exact absurd (ik.none_of rg) hg
   | some v=>exact aaH.mpr ⟨_,PySem.mem_of_lookup q,rfl⟩
  refine set_plain I.iA J V.sa (vT (s:={ s with toks:=s.toks+1 }) I.iA J V.st V.ob V.na.MI fun b=>?_)
  refine aac (aau (aac (aac (wpAny_loadPart hx (aac (Looks.here (s:={ s with toks:=s.toks+1 }) (looks_clsIn I.iA hc) ?_))))))
  rw [wd.2]
  refine aau (a:=some dx) (aac (aau (aac ?_)))
  refine wpAny_nsSet1 (s:={ s with toks:=s.toks+1 }) n fun h' K0 iB=>?_
  obtain ⟨oD,Z8,Z9,UN,Wm,Wn⟩:=K0.count (PySem.Within.cons f u wi)
  refine aac (wpAny_lookBehind UN (by rw [Wm];exact pastItsLine_dict (aah Wn (by rw [length_cons,aaD,sizeLine_eq];lia))) ?_)
  refine aau (h _ ?_)
  have eb:∀ b o,b≠dx->s.heap.get? b=some o->h'.get? b=some o:=fun b o nb e=>(iB.2 b nb).trans e
  have up:∀ {b:Addr} {o:HO},H b=some o->b≠dx->upd H dx (.xd (wg f y fs)) b=some o:=fun {b o} e nb=>by rw [ar nb];exact e
  have na:∀ {b:Addr} {o:HO},H b=some o->(∀ φ,o≠.xd φ)->b≠dx:=fun {b o} e n z=>by rw [z,ed] at e;cases e;exact n _ rfl
  refine Inv.iu (s:=s) (h':=h') (ch:=[]) I (fun b hb=>absurd hb (by simp)) (fun b o _ _ _ e n=>eb b o (fun z=>by rw [z,ed] at n;cases n) e) (fun b o _ _ _ e n=>⟨o.slots,eb b o (fun z=>by rw [z,ed] at n;cases n) e⟩) (fun b o _ e n=>?_) (fun b o _ e=>?_) (fun b xs e=>up e (na e fun _ z=>nomatch z)) (fun b o v e=>up e (na e fun _ z=>nomatch z)) (fun b ps e=>⟨#[],by rw [Array.append_empty];exact up e (na e fun _ z=>nomatch z)⟩) (fun m hm=>?_) (fun b o e=>?_)
  ·have nb:b≠dx:=fun z=>by rw [z,ed] at n;cases n
   rw [ar nb];exact n
  ·by_cases nb:b=dx
   ·rw [nb];exact⟨_,UN⟩
   ·exact⟨o,eb b o nb e⟩
  ·obtain ⟨o,es,ep,Gk,r'⟩:=hm
   exact⟨o,es,ep,eb _ o (fun z=>by have n:=I.free;rw [z,ed] at n;cases n) Gk,r'⟩
  ·by_cases nb:b=dx
   ·subst nb
    rw [ao] at e
    cases e
    refine⟨_,K0,fun g=>?_⟩
    show ik ((wg f y fs).lookup g) (if g=f then some u else mA g)
    rw [pb]
    by_cases q:g=f
    ·rw [if_pos q,if_pos q];exact ry
    ·rw [if_neg q,if_neg q];exact r g
   ·rw [ar nb] at e
    refine (I.aR b o e).l8 (fun c v hc q=>eb c v ?_ q) (fun c q=>up q (na q fun _ z=>nomatch z)) fun c xs q=>up q (na q fun _ z=>nomatch z)
    rcases hc with rfl|hc
    ·exact nb
    ·exact na hc fun _ z=>nomatch z
end
end L2
namespace L2
open PySem PySem.Spec PyProof.Rows PySem.W PyProof
def iL(K:Frag)(C:Addr)(qB:List Value)(newId:String)(fI:Addr):Bool:=match K.lookup C with
 | some ⟨.type "type",_,.cls cd,sl⟩=>(match cd.mro,sl.toList with
  | .ref C'::bm,[_,_,_,_,some (.builtin n),_]=>C' == C && n == newId && !cd.hasDel && tailIn K qB bm && nsOkIn K cd.ns && nsIn K cd.ns "__init__" == some (some (.ref fI))
  | _,_=>false)
 | _=>false
theorem BS{K:Frag}{h:Heap}{N:Addr}{mg:Str->Option Value}{n:Str}{v:Value}(X:K.In h)(G:h.Ns N mg)(e:nsIn K N n=some (some v)):mg n=some v:=by
 obtain ⟨o,es,ep,ho,hd,_,hf⟩:=G
 unfold nsIn at e
 split at e
 ·rename_i c d Uy n' sl q
  have:=X _ _ q
  rw [ho] at this
  cases this
  cases hd
  split at e
  ·rename_i en he
   cases e
   rw [<- hf]
   unfold nsFind findBy
   rw [<- Array.find?_toList,he]
   rfl
  ·split at e <;> cases e
 ·cases e
theorem zU{K:Frag}{h:Heap}{C fI:Addr}{qB:List Value}{newId:String}(X:K.In h)(q:iL K C qB newId fI=true) :
  ∃ bm N nm q bs hdct sn sub ab col dd k0 k1 k2 k3 k5 mN,h.get? C=some (excClassObj nm q C N bs bm hdct sn sub ab col dd k0 k1 k2 k3 k5 newId)/\h.Ns N mN/\mN "__init__"=some (.ref fI)/\OwnTail h qB bm:=by
 unfold iL at q
 split at q
 ·rename_i dd cd sl ho
  split at q
  ·rename_i C' bm k0 k1 k2 k3 n k5 hm hs
   simp only [Bool.and_eq_true,beq_iff_eq,Bool.not_eq_true'] at q
   obtain ⟨⟨⟨⟨⟨rfl,rfl⟩,HI⟩,ht⟩,aR⟩,DC⟩:=q
   obtain ⟨nm,bs,mro,ns,qn,hd,sn,sub,ab,col,del⟩:=cd
   dsimp only at hm HI aR DC
   subst hm HI
   have SN:sl=#[k0,k1,k2,k3,some (.builtin n),k5]:=by
    obtain ⟨l⟩:=sl
    simp only at hs
    rw [hs]
   subst SN
   exact⟨bm,ns,nm,qn,bs,hd,sn,sub,ab,col,dd,k0,k1,k2,k3,k5,_,X _ _ ho,.of_isNs (isNs_of_in X aR),BS X (.of_isNs (isNs_of_in X aR)) DC,tail_of_in X ht⟩
  ·cases q
 ·cases q
theorem IK {K:Frag} {h:Heap} {f:Addr} (X:K.In h) (q:isFn K (.ref f)=true):∃ o,h.get? f=some o/\o.cls=.type "function":=by
 have e:typeIn K (.ref f)=some (.type "function"):=beq_iff_eq.mp q
 obtain ⟨o,a,b⟩:=Option.map_eq_some_iff.mp (show (K.lookup f).map (·.cls)=some (.type "function") from e)
 exact⟨o,X _ _ a,b⟩
def xi(P:Program)(w:World)(K:Frag)(mg:Str->Option Value)(base:Heap)(k:Nat)(f:Addr)(ps:List Str)(sp:Sp):Prop :=
 ∃ fd,M5 P w K mg base Kg k f fd ps sp/\keepIn K (.ref f)=true/\Binds K fd ps []
section
variable {P:Program}{w:World}{K:Frag}{mg:Str->Option Value}{base:Heap}
theorem E4.YN{fa:Addr}{x qual:Str}{st:Stmt}{N ps:List Str}{k:Nat}{sp:Sp}(D:E4 K fa x qual st ps)(S:aE N ps (aq st))(len:∀ vs H Q E,sp vs H Q E->vs.length=ps.length)
  (iq:∀ (f:Addr) (bU:Value) (A:Around) (outer:List Env) (s:Shared) (H:Hp) (vs:List V) (Q:VK) (E:XK),jy k (A.deeper (envOfC qual (aq st) s.heap.objs.size f bU))->sp vs H Q E ->
   ∃ t,nv (S3 Kg P w K mg base N qual (aq st) f bU A outer s H E).Ei (cx st) t/\t { nx:=fun _ H'=>Q .dt H',rt:=Q } (start N vs) H):xi P w K mg base (k+1) fa ps sp:=by
 obtain ⟨fd,F,hb⟩:=D
 obtain ⟨oc,od,kV,doc,pm,an,bU,ct,Es,rfl,lk,ny⟩:=F.ex
 refine⟨_,O5 lk ny S len fun A outer s H vs Q E hr tq=>?_,F.kp,hb⟩
 obtain ⟨t,h,q⟩:=iq fa bU A outer s H vs Q E hr tq
 exact⟨t,h.Ei,q⟩
end
theorem de.h{k:Nat}{A:Around}(r:de k A):jy k A:=⟨rfl,r.dp,r.un⟩
theorem jy.make {k:Nat} {A:Around} (r:jy (k+1) A) (C:Addr) (us:List Value) (kw:List (Str×Value)):jy k (A.under (.builtin "type.__call__" ⟨.ref C::us,kw⟩)):=de.make (A:=QE A) r C us kw
def vU(C:Addr)(sp:Sp)(Z:Addr->Option Addr->Hp->Prop)(vs:List V)(H1:Hp):Prop:=∀ e,H1 e=none->sp (.ref e::vs) (upd H1 e (gu e C none)) (fun v H2=>v=.dt/\∃ d,H2 e=some (gu e C d)/\Z e d H2) E0
section
variable {Y:Cx}{pins:List (Addr×Obj)}{σ:St}{H1:Hp}{s1:Shared}
theorem zV{k:Nat}{fI C:Addr}{ps:List Str}{sp:Sp}{us:List Value}{vs:List V}{Z:Addr->Option Addr->Hp->Prop}{R:Addr->Option Addr->Addr->Shared->Prop}{E:Value->Shared->Prop}(O:xi Y.prog Y.w Y.K Y.mg Y.base k fI ps sp)(hr:jy (k+1) Y.A)(hex:Y.ex=[])(I1:Inv Y pins σ H1 s1)(r:Vals vs us)
  (h:vU C sp Z vs H1)
  (fin:∀ e d t H2 s',Y.s₀.heap.get? e=none->(∀ p∈Y.pn++pins,p.1≠e)->s1.heap.get? e=none->H2 e=some (gu e C d)->Inv Y pins σ H2 s'->s'.heap.get? e=some { cls:=.ref C,dict:=d,data:=.fields #[.ref t,.none,.none,.none,.bool false,.none] }->Z e d H2->R e d t s'):IJ Y.prog Y.w Y.A C fI us s1 R E:=by
 obtain ⟨fd,F,kp,hb⟩:=O
 intro h' e hm
 obtain ⟨t,het,ZO,ZP⟩:=hm.there
 have nw:Y.s₀.heap.get? e=none:=by
  cases q:Y.s₀.heap.get? e with
  | none=>rfl
  | some o =>
   obtain ⟨o',q1⟩:=I1.base.there e o q (by rw [hex];simp)
   rw [hm.new] at q1;cases q1
 have np:∀ p∈Y.pn++pins,p.1≠e:=fun p hp z=>by
  have:=(I1.pin p hp).1
  rw [z,hm.new] at this;cases this
 have nH:H1 e=none:=I1.aR.free hm.new
 have I2:Inv Y pins σ (upd H1 e (gu e C none)) { s1 with heap:=h' }:=(I1.kept (t':=s1.toks) hm.keeps).Py (t':=s1.toks) het rfl ⟨t,het⟩ gu.keep nH nw np
 have hq:=h e nH
 have r2:Vals (V.ref e::vs) (Value.ref e::us):=.cons rfl r
 have hl:(Value.ref e::us++[]).length=ps.length:=by
  have z:=r2.length
  rw [F.len _ _ _ _ hq] at z
  rw [append_nil]
  exact z.symm
 have Bk:=hb _ (Value.ref e::us) I2.iA hl
 rw [append_nil] at Bk
 refine wpAny_call (codeAny_mono (F.run _ Y.stack _ _ ⟨Value.ref e::us,[]⟩ (Value.ref e::us) _ _ _ (hr.make C us []) (I2.KL.make C us []) Bk r2 hq) fun rr s' Tz=>?_)
 cases rr with
 | error e=>exact False.elim Tz
 | ok fl =>
  cases fl with
  | ret u =>
   obtain ⟨v,H',I3,rv,ev,d,e1,z⟩:=I2.after Tz
   subst ev
   obtain ⟨⟨t',g⟩,_⟩:=I3.aR e _ e1
   exact⟨rv,t',d,g,fin e d t' H' s' nw np hm.new e1 I3 g z⟩
  | next=>exact False.elim Tz
  | brk=>exact False.elim Tz
  | cont=>exact False.elim Tz
end
section
variable {X:Cx}{EX:lH}
def DT(EX:lH)(C:Addr)(sp:Sp)(ta:TA):TS:=fun _ σ H=>ta σ H fun vs H1=>vs.length<=1000/\vU C sp (fun e d H2=>EX (C,d) σ (L2.del H2 e)) vs H1
theorem vV{x:Str}{np ba pos:Pos}{e0:Expr}{rest:List Expr}{k:Nat}{fI C:Addr}{ps:List Str}{sp:Sp}{B Bn newId wU cO wV:String}{bm wW:List Value}{ta:TA}(O:xi X.prog X.w X.K X.mg X.base k fI ps sp)(q:iL X.K C bm newId fI=true)(Kx:isFn X.K (.ref fI)=true)(hr:jy (k+1) X.A)(Fn:ExcBaseFacts Bn newId wV wW)(tj:bm.contains (.type Bn)=true)
  (FB:ExcBaseFacts B wU cO bm) (hc:X.calm=true) (hX:∀ e s',XW X EX e s'->X.xe e s') (hex:X.ex=[]) (hg:Gl X x) (hm:X.mg x=some (.ref C)) (ha:PA X (e0::rest) ta)
  (he:starEach (e0::rest) X.env=(false,eval e0 X.env)::starEach rest X.env:=by rfl) (jt:(backTo ba (starEach rest X.env)).any (·.1)=false:=by rfl) (me:(x == ("__debug__":Str))=false:=by decide) :
  PS X (.Raise (some (.Call (.Name x np) (e0::rest) [] ba)) none pos) (DT EX C sp ta):=by
 intro pins s σ H D I h
 obtain ⟨OQ,N,nm,qn,bs,hdct,sn,sub,ab,col,dd,k0,k1,k2,k3,k5,mN,hC,hN,hi,T⟩:=zU I.ok.mod.F6 q
 obtain ⟨oI,Wq,Wr⟩:=IK I.ok.mod.F6 Kx
 refine zS (C:=C) (nm:=nm) (q:=qn) (N:=N) (bs:=bs) (bm:=OQ) (hdct:=hdct) (sn:=sn) (sub:=sub) (ab:=ab) (col:=col) (dd:=dd) (k0:=k0) (k1:=k1) (k2:=k2) (k3:=k3) (k5:=k5) (fI:=fI) (oI:=oI)
  Fn tj FB (mN:=mN) (T.hasType FB.hasBase) (I.ok.hd hc) (by rw [he];show (false || (backTo ba (starEach rest X.env)).any (·.1))=false;rw [jt];rfl) hi Wr (dk I hg hm ⟨rfl,?_⟩ me)
 have hh:=ha ba pins s σ H _ I h
 rw [he] at hh ⊢
 refine Calls.evalArgs_plain (aav hh (fun us s2 z=>?_) fun _ _ y=>y)
 obtain ⟨vs,H1,I1,r,hl,hE⟩:=z
 refine⟨rfl,by rw [<- r.length];exact aaj (bW hl),I1.bk _ _ hC,hN.keeps I1.bk,T.keeps I1.bk,I1.bk _ _ Wq,zV O hr hex I1 r hE fun e d t H2 s' nw np n1 e1 I3 g z=>⟨I3.bk _ _ hC,hX _ _ ?_⟩⟩
 exact⟨e,(C,d),σ,L2.del H2 e,rfl,((I3.DS (t':=s'.toks) e1 g rfl nw np).ei fun p hp=>absurd hp (by simp)).dQ _,⟨_,_,none,g,rfl,rfl,rfl,⟨by simp,fun _=>rfl⟩,rfl,mT,⟨nw,fun p hp=>np p (aaz _ hp)⟩,fun T z=>nomatch z⟩,z⟩
theorem zW{C:Addr}{sp:Sp}{ta:TA}{D:Ends}{σ:St}{H:Hp}(h:ta σ H fun vs H1=>vs.length<=1000/\vU C sp (fun e d H2=>EX (C,d) σ (L2.del H2 e)) vs H1):DT EX C sp ta D σ H:=h
end
end L2
namespace L2
open PySem PySem.Spec PyProof.Rows PySem.W PyProof
section
variable {X:Cx}{o e value:Expr}{f:Str}{pos pos':Pos}{ta tv:TE}
def Ws(K:Frag)(ta tv:TE)(f:Str):TS:=fun D σ H=>tv σ H fun y H1=>ta σ H1 fun x H2=>∃ a C d,x=.ref a/\H2 a=some (gu a C d)/\zT K C f /\
 ((d=none/\∀ dx,H2 dx=none->dx≠a->D.nx σ (upd (upd H2 dx (.xd [(f,y)])) a (gu a C (some dx))))\/∃ dx fs,d=some dx/\H2 dx=some (.xd fs)/\fs.length<1000/\D.nx σ (upd H2 dx (.xd (wg f y fs))))
theorem TB(ha:PE X o ta)(hv:PE X value tv)(hs:swapsWith value (some (.Attribute o f pos')) pos.line X.env=pure false):PS X (.Assign [.Attribute o f pos'] value pos) (Ws X.K ta tv f):=by
 intro pins s σ H D I h
 refine plainObj_wpAny_Assign_Attribute (bS (hv pins s σ H _ I h) fun u s1 ⟨y,H1,I1,ry,q⟩=>bS (ha pins s1 σ H1 _ I1 q) fun ov s2 ⟨x,H2,I2,rx,a,C,d,ex,ea,V,q2⟩=>?_) hs
 subst ex
 obtain rfl:ov=Value.ref a:=rx
 refine LL I2 ea V ry ?_
 rcases q2 with ⟨e,q2⟩|⟨dx,fs,e1,e2,e3,q2⟩
 ·exact .inl ⟨e,fun dx n ne s' J=>⟨σ,_,J,q2 dx n ne⟩⟩
 ·exact .inr ⟨dx,fs,e1,e2,e3,fun s' J=>⟨σ,_,J,q2⟩⟩
theorem BU(K:Frag)(hK:X.K=K)(ha:PE X o ta)(hv:PE X value tv)(hs:swapsWith value (some (.Attribute o f pos')) pos.line X.env=pure false):PS X (.Assign [.Attribute o f pos'] value pos) (Ws K ta tv f):=hK ▸ TB ha hv hs
def Wt(K:Frag)(f:Str)(Q:VK)(x:V)(H1:Hp):Prop:=∃ a C dx fs v,x=.ref a/\H1 a=some (fj a C (some dx))/\fR K C/\zT K C f/\H1 dx=some (.xd fs)/\fs.lookup f=some v/\Q v H1
def Wu(K:Frag)(ta:TE)(f:Str):TE:=fun σ H Q=>ta σ H fun x H1=>Wt K f Q x H1
theorem TC(he:PE X e ta)(hb:attributeBase e f X.env (eval e X.env)=eval e X.env):PE X (.Attribute e f pos) (Wu X.K ta f):=by
 intro pins s σ H Q I h
 refine KI hb (bS (he pins s σ H _ I h) fun u s1 ⟨x,H1,I1,rx,a,C,dx,fs,v,ex,ea,V,W,ed,l,q⟩=>?_)
 subst ex
 obtain rfl:u=Value.ref a:=rx
 obtain ⟨⟨ox,h1,h2,h3,h4⟩,_⟩:=I1.aR a _ ea
 obtain ⟨mA,n,r⟩:=I1.aR dx _ ed
 obtain ⟨od,ho,hl⟩:=kb n
 obtain ⟨w,hw,Ga⟩:=ik.some_of (v:=v) (o:=mA f) (by rw [<- l];exact r f)
 obtain ⟨cd,hc,hd⟩:=any_some W.st
 rw [Bool.and_eq_true] at hd
 have hh:hasDictIn X.K C=true:=by unfold hasDictIn;rw [hc];exact hd.2
 exact II V I1.iA ⟨h1,h2,h3,by rw [h4];exact ho⟩ (findObj_own hh W.na rfl (by rw [hl,hw])) (Ep Ga) ⟨v,H1,I1.tok _,Ga,q⟩
theorem BV(K:Frag)(hK:X.K=K)(he:PE X e ta)(hb:attributeBase e f X.env (eval e X.env)=eval e X.env):PE X (.Attribute e f pos) (Wu K ta f):=hK ▸ TC he hb
end
section
variable {K:Frag}{D:Ends}{σ:St}{H:Hp}{Q:VK}{ta tv:TE}{f:Str}
theorem Pz(h:ta σ H fun x H1=>Wt K f Q x H1):Wu K ta f σ H Q:=h
theorem IL{a C dx:Addr}{fs:List (Str×V)}{v:V}(V1:fR K C)(W:zT K C f)(e:H a=some (fj a C (some dx)))(ed:H dx=some (.xd fs))(l:fs.lookup f=some v)(h:Q v H):Wt K f Q (.ref a) H:=⟨a,C,dx,fs,v,rfl,e,V1,W,ed,l,h⟩
def Wv(K:Frag)(f:Str)(D:Ends)(σ:St)(y:V)(x:V)(H2:Hp):Prop:=∃ a C d,x=.ref a/\H2 a=some (gu a C d)/\zT K C f /\
 ((d=none/\∀ dx,H2 dx=none->dx≠a->D.nx σ (upd (upd H2 dx (.xd [(f,y)])) a (gu a C (some dx))))\/∃ dx fs,d=some dx/\H2 dx=some (.xd fs)/\fs.length<1000/\D.nx σ (upd H2 dx (.xd (wg f y fs))))
theorem IM(h:tv σ H fun y H1=>ta σ H1 fun x H2=>Wv K f D σ y x H2):Ws K ta tv f D σ H:=h
end
theorem xj{K:Frag}{M:Model}{A:Around}{E:Value->Shared->Prop}{s:Shared}{a C D1 D2 D3 tp:Addr}{oe:Obj}{b1 b2 b3:Bool}{Q:Bool->Shared->Prop}(V1:d6 K D1)(V2:d6 K D2)(V3:d6 K D3)(X:K.In s.heap)(he:s.heap.get? a=some oe)(hc:oe.cls=.ref C)
  (ht:IsTup s.heap tp #[.ref D1,.ref D2,.ref D3]) (rG:subIn K (.ref C) (.ref D1)=some b1) (iB:subIn K (.ref C) (.ref D2)=some b2) (tE:subIn K (.ref C) (.ref D3)=some b3) (h:Q (b1 || b2 || b3) s):wpAny M A (excMatches (.ref a) (.ref tp)) Q E s:=by
 obtain ⟨o,ho,hco,n,hd⟩:=ht
 obtain ⟨hh,g,d,t,os⟩:=s
 have L2:Looks M hh (typeOf (.ref a)) (.ref C):=hc ▸ (Looks.ld he).andThen .now
 have L31:=looks_subIn (M:=M) X V1.be
 have L32:=looks_subIn (M:=M) X V2.be
 have L33:=looks_subIn (M:=M) X V3.be
 have L41:=looks_subIn (M:=M) X rG
 have L42:=looks_subIn (M:=M) X iB
 have L43:=looks_subIn (M:=M) X tE
 have L51:=V1.ID (M:=M) X
 have L52:=V2.ID (M:=M) X
 have L53:=V3.ID (M:=M) X
 unfold excMatches
 refine aac (wpAny_isInstance ⟨o,ho,hco⟩ isSubtype_tuple_tuple ?_)
 dsimp only
 rw [if_pos rfl]
 refine aac (wpAny_seqItems ho hd ?_)
 refine aac (aau ?_)
 simp only [Option.getD_some,forIn_cons,forIn_nil]
 unfold isExcClass
 refine aac (aac (aac (aac (L51.at ?_))))
 simp only [if_true]
 refine L31.at ?_
 simp only [Bool.not_true,Bool.false_eq_true,if_false]
 refine aau ?_
 refine aac (aac (aac (L52.at ?_)))
 simp only [if_true]
 refine L32.at ?_
 simp only [Bool.not_true,Bool.false_eq_true,if_false]
 refine aau ?_
 refine aac (aac (aac (L53.at ?_)))
 simp only [if_true]
 refine L33.at ?_
 simp only [Bool.not_true,Bool.false_eq_true,if_false]
 refine aau (aau ?_)
 refine aac (L2.at ?_)
 refine aac (aac (aac (L41.at ?_)))
 cases b1 with
 | true =>
  simp only [if_true]
  exact aau (aau (aau h))
 | false =>
  simp only [Bool.false_eq_true,if_false]
  refine aau ?_
  refine aac (aac (L42.at ?_))
  cases b2 with
  | true =>
   simp only [if_true]
   exact aau (aau (aau h))
  | false =>
   simp only [Bool.false_eq_true,if_false]
   refine aau ?_
   refine aac (aac (L43.at ?_))
   cases b3 with
   | true =>
    simp only [if_true]
    exact aau (aau (aau h))
   | false =>
    simp only [Bool.false_eq_true,if_false]
    exact aau (aau (aau h))
end L2
namespace L2
open PySem PySem.Spec PyProof.Rows PySem.W PyProof
section
variable {X:Cx}{EX:lH}{pins:List (Addr×Obj)}{σ':St}{H':Hp}{D:Ends}{a T:Addr}{s:Shared}{oe:Obj}{vs:Array Value}
theorem IP{M:Model}{A:Around}{E:Value->Shared->Prop}{Q:Unit->Shared->Prop}(I3:Inv X pins σ' H' s)(UO:s.heap.get? a=some oe)(hd:oe.data=.fields vs)(hh3:jv s.heap a vs (some T))(jl:H' a=none)(T2:H' T=none)(T3:X.s₀.heap.get? T=none)(T4:∀ p∈X.pn++pins,p.1≠T)
  (qq:∀ h2,h2.get? a=some oe->Inv X (pins++[(a,oe)]) σ' H' { s with heap:=h2 }->Q () { s with heap:=h2 }):wpAny M A (setFlight (.ref a) none) Q E s:=by
 have hk4:=hh3.2.1
 refine flight_again UO hd hh3 fun h2 f1 f2=>qq h2 (f1 a _ (Ne.symm hk4) UO) ?_
 have I4:Inv X pins σ' H' { s with heap:=h2 }:=by
  obtain ⟨_,_,oT,ts,q1,q2,q3⟩:=hh3
  obtain ⟨m1,m2,m3⟩:=I3.gd (a:=T) q1 q2
  have HS:eQ X.prog X.w H' h2:=I3.aR.off (ch:=[T]) (fun b hb=>by rw [show b=T by simpa using hb];exact T2) fun b o hb q=>f1 b o (by simpa using hb) q
  refine Inv.iu (s:=s) (h':=h2) (t':=s.toks) (ch:=[T]) I3 (fun b hb=>?_) (fun b o b1 b2 b3 e _=>f1 b o (by simpa using b3) e) (fun b o b1 b2 b3 e _=>⟨o.slots,f1 b o (by simpa using b3) e⟩) (fun b o _ _ n=>n) (fun b o b3 e=>⟨o,f1 b o (by simpa using b3) e⟩) (fun b xs e=>e) (fun b o u e=>e) (fun b ps e=>⟨#[],by simpa using e⟩) (fun m hm=>?_) HS
  ·obtain rfl:b=T:=by simpa using hb
   exact⟨T3,m1,m2,T4⟩
  ·obtain ⟨o,es,ep,ho,wd,r⟩:=hm
   exact⟨o,es,ep,f1 _ o (fun z=>m1 z.symm) ho,wd,r⟩
 obtain ⟨r1,r2,r3⟩:=I4.gd (f1 a _ (Ne.symm hk4) UO) hd
 refine I4.ei fun p hp=>?_
 rcases aaB.mp hp with hp|hp
 ·exact I4.pin p (aay _ hp)
 ·obtain rfl:=aaA.mp hp
  exact⟨f1 a _ (Ne.symm hk4) UO,jl,r1,r3,fun v z=>by rw [hd] at z;cases z⟩
theorem IQ{x:Str}{np ba BW kp:Pos}{kn:Nat}{e0:Expr}{rest:List Expr}{C0:Addr}{B Bn newId wU cO wV:String}{bm wW:List Value}{ta:TA}(I4:Inv X (pins++[(a,oe)]) σ' H' s)(hd:oe.data=.fields vs)(h2:vs[2]?=some .none)
  (q:excIn X.K C0 bm newId=true) (Fn:ExcBaseFacts Bn newId wV wW) (tj:bm.contains (.type Bn)=true) (FB:ExcBaseFacts B wU cO bm) (hex:X.ex=[]) (hX:∀ e s',XW X EX e s'->X.xe e s') (PB:¬ fJ X.mg C0) (hg:Gl X x) (hm:X.mg x=some (.ref C0)) (ha:∀ a,PA (ji X a) (e0::rest) ta)
  (zI:starEach (e0::rest) X.env=(false,eval e0 X.env)::starEach rest X.env) (jt:(backTo ba (starEach rest X.env)).any (·.1)=false) (me:(x == ("__debug__":Str))=false) (PC:ta σ' H' fun vs H1=>vs.length<=1000/\EX (C0,none) σ' H1) :
  wpAny (model X.prog X.w) (X.A.mark (some (.ref a))) (exec (.Raise (some (.Call (.Name x np) (e0::rest) [] ba)) (some (.Constant .none kn kp)) BW) X.env) (fun _ _=>False) X.xe s:=by
 obtain ⟨OQ,N,nm,qn,bs,hdct,sn,sub,ab,col,dd,k0,k1,k2,k3,k5,mN,hC,hN,DC,T'⟩:=DB I4.ok.mod.F6 q
 refine qE (C:=C0) (nm:=nm) (q:=qn) (N:=N) (bs:=bs) (bm:=OQ) (hdct:=hdct) (sn:=sn) (sub:=sub) (ab:=ab) (col:=col) (dd:=dd) (k0:=k0) (k1:=k1) (k2:=k2) (k3:=k3) (k5:=k5) (a:=a)
  Fn tj FB (mN:=mN) (T'.hasType FB.hasBase) rfl (by rw [zI];show (false || (backTo ba (starEach rest X.env)).any (·.1))=false;rw [jt];rfl) DC (dk (X:=ji X a) (I4.qD a) hg hm ⟨rfl,?_⟩ me)
 have hh:=ha a ba _ _ σ' H' _ (I4.qD a) PC
 rw [zI] at hh ⊢
 refine Calls.evalArgs_plain (aav hh (fun us s2 z=>?_) fun _ _ y=>y.elim)
 obtain ⟨ws,H1,J1,r,hl,To⟩:=z
 have I5:Inv X (pins++[(a,oe)]) σ' H1 s2:=Inv.rV I4.ok.hd J1
 refine⟨rfl,by rw [<- r.length];exact aaj (bW hl),I5.bk _ _ hC,hN.keeps I5.bk,T'.keeps I5.bk,⟨oe,vs,wY I5,hd,h2⟩,fun h1 e t h' iI o1 o2=>hX _ _ ?_⟩
 have nw:X.s₀.heap.get? e=none:=by
  cases q:X.s₀.heap.get? e with
  | none=>rfl
  | some o =>
   obtain ⟨o',q1⟩:=I5.base.there e o q (by rw [hex];simp)
   rw [iI.new] at q1;cases q1
 have np:∀ p∈X.pn,p.1≠e:=fun p hp z=>by
  have:=(I5.pin p (aaz _ hp)).1
  rw [z,iI.new] at this;cases this
 have kp:∀ b o,s2.heap.get? b=some o->h'.get? b=some o:=fun b o z=>by
  rw [o1 b (fun y=>by rw [y,iI.new] at z;cases z)]
  exact iI.keeps _ _ z
 exact⟨e,(C0,none),σ',H1,rfl,((I5.kept (t':=s2.toks) kp).ei fun p hp=>absurd hp (by simp)).dQ _,⟨_,_,none,o2,rfl,rfl,rfl,⟨by simp,fun z=>absurd z PB⟩,rfl,I5.aR.free iI.new,⟨nw,np⟩,fun T z=>nomatch z⟩,To⟩
theorem Fe{x:Str}{np ba BW kp:Pos}{kn:Nat}{e0:Expr}{rest:List Expr}{k:Nat}{fI C0:Addr}{ps:List Str}{sp:Sp}{B Bn newId wU cO wV:String}{bm wW:List Value}{ta:TA}(I4:Inv X (pins++[(a,oe)]) σ' H' s)(hd:oe.data=.fields vs)(h2:vs[2]?=some .none)
  (O:xi X.prog X.w X.K X.mg X.base k fI ps sp) (hr:jy (k+1) (X.A.mark (some (.ref a)))) (Kx:isFn X.K (.ref fI)=true)
  (q:iL X.K C0 bm newId fI=true) (Fn:ExcBaseFacts Bn newId wV wW) (tj:bm.contains (.type Bn)=true) (FB:ExcBaseFacts B wU cO bm) (hex:X.ex=[]) (hX:∀ e s',XW X EX e s'->X.xe e s') (PB:¬ fJ X.mg C0) (hg:Gl X x) (hm:X.mg x=some (.ref C0)) (ha:∀ a,PA (ji X a) (e0::rest) ta)
  (zI:starEach (e0::rest) X.env=(false,eval e0 X.env)::starEach rest X.env) (jt:(backTo ba (starEach rest X.env)).any (·.1)=false) (me:(x == ("__debug__":Str))=false) (PC:ta σ' H' fun vs H1=>vs.length<=1000/\vU C0 sp (fun e d H2=>EX (C0,d) σ' (L2.del H2 e)) vs H1) :
  wpAny (model X.prog X.w) (X.A.mark (some (.ref a))) (exec (.Raise (some (.Call (.Name x np) (e0::rest) [] ba)) (some (.Constant .none kn kp)) BW) X.env) (fun _ _=>False) X.xe s:=by
 obtain ⟨OQ,N,nm,qn,bs,hdct,sn,sub,ab,col,dd,k0,k1,k2,k3,k5,mN,hC,hN,hi,T'⟩:=zU I4.ok.mod.F6 q
 obtain ⟨oI,Wq,Wr⟩:=IK I4.ok.mod.F6 Kx
 refine nY (C:=C0) (nm:=nm) (q:=qn) (N:=N) (bs:=bs) (bm:=OQ) (hdct:=hdct) (sn:=sn) (sub:=sub) (ab:=ab) (col:=col) (dd:=dd) (k0:=k0) (k1:=k1) (k2:=k2) (k3:=k3) (k5:=k5) (a:=a) (fI:=fI) (oI:=oI)
  Fn tj FB (mN:=mN) (T'.hasType FB.hasBase) rfl (by rw [zI];show (false || (backTo ba (starEach rest X.env)).any (·.1))=false;rw [jt];rfl) hi Wr (dk (X:=ji X a) (I4.qD a) hg hm ⟨rfl,?_⟩ me)
 have hh:=ha a ba _ _ σ' H' _ (I4.qD a) PC
 rw [zI] at hh ⊢
 refine Calls.evalArgs_plain (aav hh (fun us s2 z=>?_) fun _ _ y=>y.elim)
 obtain ⟨ws,H1,J1,r,hl,hE⟩:=z
 have I5:Inv X (pins++[(a,oe)]) σ' H1 s2:=Inv.rV I4.ok.hd J1
 refine⟨rfl,by rw [<- r.length];exact aaj (bW hl),I5.bk _ _ hC,hN.keeps I5.bk,T'.keeps I5.bk,I5.bk _ _ Wq,zV (Y:=ji X a) O hr hex J1 r hE fun e d t H2 s' nw np n1 e1 J3 g z=>?_⟩
 have I6:Inv X (pins++[(a,oe)]) σ' H2 s':=Inv.rV I4.ok.hd J3
 have ga:s'.heap.get? a=some oe:=wY I6
 have gC:=I6.bk _ _ hC
 have ne:∀ b o,s2.heap.get? b=some o->b≠e:=fun b o z q=>by rw [q,n1] at z;cases z
 have YO:∀ p∈X.pn++(pins++[(a,oe)]),p.1≠e:=np
 refine⟨gC,ne _ _ (I5.bk _ _ hC),ne _ _ (wY I5),⟨oe,vs,ga,hd,h2⟩,fun h' o1 o2=>hX _ _ ?_⟩
 have I7:Inv X [] σ' (L2.del H2 e) s':=(I6.DS (t':=s'.toks) e1 g rfl nw YO).ei fun p hp=>absurd hp (by simp)
 have nX:∀ p∈X.pn,p.1≠e:=fun p hp=>YO p (aaz _ hp)
 exact⟨e,(C0,d),σ',L2.del H2 e,rfl,(Inv.mark I7 g rfl mT nw nX (fun b o nb z=>(o1 b nb).trans z) ⟨_,o2⟩).dQ _,⟨_,_,none,o2,rfl,rfl,rfl,⟨by simp,fun z=>absurd z PB⟩,rfl,mT,⟨nw,nX⟩,fun T z=>nomatch z⟩,z⟩
end
def TF(mg:Str->Option Value)(K:Frag)(D1 C0:Addr)(EX:lH)(ta:TA):TH:=fun C _ σ' H'=>fJ mg C.1/\subIn K (.ref C.1) (.ref D1)=some true/\ta σ' H' fun vs H1=>vs.length<=1000/\EX (C0,none) σ' H1
def Nf(mg:Str->Option Value)(K:Frag)(D1 D2 D3 C0:Addr)(sp:Sp)(EX:lH)(ta:TA):TH:=fun C _ σ' H'=>fJ mg C.1/\∃ b1 b2 b3,subIn K (.ref C.1) (.ref D1)=some b1/\subIn K (.ref C.1) (.ref D2)=some b2/\subIn K (.ref C.1) (.ref D3)=some b3/\(b1 || b2 || b3)=true /\
 ta σ' H' fun vs H1=>vs.length<=1000/\vU C0 sp (fun e d H2=>EX (C0,d) σ' (L2.del H2 e)) vs H1
theorem PD{X:Cx}{EX:lH}{body:List Stmt}{tb:lH->TS}{x1 x:Str}{p1 np ba BW kp tI pos:Pos}{kn:Nat}{e0:Expr}{rest:List Expr}{D1 C0:Addr}{B Bn newId wU cO wV:String}{bm wW:List Value}{ta:TA}
  (hex:X.ex=[]) (iF:X.stack=X.env::X.outer) (jk:X.env.frame=some X.env.locals) (hb:∀ pins EX,nv ((qC X pins).dQ (XW (qC X pins) EX)) body (tb EX))
  (V1:d6 X.K D1) (Ww:Gl X x1) (TJ:X.mg x1=some (.ref D1))
  (q:excIn X.K C0 bm newId=true) (Fn:ExcBaseFacts Bn newId wV wW) (tj:bm.contains (.type Bn)=true) (FB:ExcBaseFacts B wU cO bm) (hX:∀ e s',XW X EX e s'->X.xe e s')
  (hE:∀ m,PassesOwnAt (model X.prog X.w) (X.A.mark m) X.A X.env X.xe) (PB:¬ fJ X.mg C0) (hg:Gl X x) (hm:X.mg x=some (.ref C0)) (ha:∀ a,PA (ji X a) (e0::rest) ta)
  (zI:starEach (e0::rest) X.env=(false,eval e0 X.env)::starEach rest X.env:=by rfl) (jt:(backTo ba (starEach rest X.env)).any (·.1)=false:=by rfl)
  (me:(x == ("__debug__":Str))=false:=by decide) (PF:(x1 == ("__debug__":Str))=false:=by decide) :
  PS X (.Try body [.ExceptHandler (some (.Name x1 p1)) none [.Raise (some (.Call (.Name x np) (e0::rest) [] ba)) (some (.Constant .none kn kp)) BW] tI] [] [] pos) (zK tb (TF X.mg X.K D1 C0 EX ta)):=by
 refine DR hex iF jk hb ?_
 intro pins σ' H' D a T C s oe vs I2 he hc qw hd hh hf jl qz tm T2 T3 T4 hr
 obtain ⟨hP,rG,PC⟩:=hr
 refine wpAny_handleBy_cons (codeAny_handlers_test (dk (X:=ji X a) (I2.qD a) Ww TJ ?_ PF)) (by intro z;cases z)
 refine jx V1 I2.iA he hc rG ?_
 refine codeAny_handlers_suite (IP I2 he hd hh jl T2 T3 T4 fun h4 he4 I4=>?_)
 exact wpAny_execs_cons (aav (E:=X.xe) (Q:=fun _ _=>False) (IQ I4 hd (hf.2 hP) q Fn tj FB hex hX PB hg hm ha zI jt me PC) (fun _ _ z=>z.elim) fun e s' z=>hE _ e s' z)
theorem LM{X:Cx}{EX:lH}{body:List Stmt}{tb:lH->TS}{x1 x2 x3 x:Str}{p1 p2 p3 np ba BW kp tF tI pos:Pos}{kk kn:Nat}{e0:Expr}{rest:List Expr}{j k:Nat}{fI D1 D2 D3 C0:Addr}{ps:List Str}{sp:Sp}{B Bn newId wU cO wV:String}{bm wW:List Value}{ta:TA}
  (hex:X.ex=[]) (iF:X.stack=X.env::X.outer) (jk:X.env.frame=some X.env.locals) (hb:∀ pins EX,nv ((qC X pins).dQ (XW (qC X pins) EX)) body (tb EX))
  (V1:d6 X.K D1) (V2:d6 X.K D2) (V3:d6 X.K D3) (Ww:Gl X x1) (TJ:X.mg x1=some (.ref D1)) (hg2:Gl X x2) (We:X.mg x2=some (.ref D2)) (hg3:Gl X x3) (hm3:X.mg x3=some (.ref D3))
  (O:xi X.prog X.w X.K X.mg X.base k fI ps sp) (hr:de j X.A) (hj:k+1<=j) (Kx:isFn X.K (.ref fI)=true)
  (q:iL X.K C0 bm newId fI=true) (Fn:ExcBaseFacts Bn newId wV wW) (tj:bm.contains (.type Bn)=true) (FB:ExcBaseFacts B wU cO bm) (hX:∀ e s',XW X EX e s'->X.xe e s')
  (hE:∀ m,PassesOwnAt (model X.prog X.w) (X.A.mark m) X.A X.env X.xe) (PB:¬ fJ X.mg C0) (hg:Gl X x) (hm:X.mg x=some (.ref C0)) (ha:∀ a,PA (ji X a) (e0::rest) ta)
  (zI:starEach (e0::rest) X.env=(false,eval e0 X.env)::starEach rest X.env:=by rfl) (jt:(backTo ba (starEach rest X.env)).any (·.1)=false:=by rfl)
  (me:(x == ("__debug__":Str))=false:=by decide) (PF:(x1 == ("__debug__":Str))=false:=by decide) (Wx:(x2 == ("__debug__":Str))=false:=by decide) (Wy:(x3 == ("__debug__":Str))=false:=by decide) :
  PS X (.Try body [.ExceptHandler (some (.Tuple [.Name x1 p1,.Name x2 p2,.Name x3 p3] kk tF)) none [.Raise (some (.Call (.Name x np) (e0::rest) [] ba)) (some (.Constant .none kn kp)) BW] tI] [] [] pos) (zK tb (Nf X.mg X.K D1 D2 D3 C0 sp EX ta)):=by
 refine DR hex iF jk hb ?_
 intro pins σ' H' D a T C s oe vs I2 he hc qw hd hh hf jl qz tm T2 T3 T4 TK
 obtain ⟨hP,b1,b2,b3,rG,iB,tE,Bk,PC⟩:=TK
 refine wpAny_handleBy_cons (codeAny_handlers_test (Tuple_ (spliced_more (dk (X:=ji X a) (I2.qD a) Ww TJ (spliced_more (dk (X:=ji X a) (I2.qD a) hg2 We (spliced_more (dk (X:=ji X a) (I2.qD a) hg3 hm3 (spliced_none ?_) Wy)) Wx)) PF)))) (by intro z;cases z)
 have kS:∀ b o,s.heap.get? b=some o->(s.heap.push { cls:=.type "tuple",dict:=none,data:=.seq [Value.ref D1,.ref D2,.ref D3].toArray }).get? b=some o:=fun b o z=>aab _ z
 have I3:Inv X pins σ' H' { s with heap:=s.heap.push { cls:=.type "tuple",dict:=none,data:=.seq [Value.ref D1,.ref D2,.ref D3].toArray } }:=I2.kept (t':=s.toks) kS
 have hh3:jv (s.heap.push { cls:=.type "tuple",dict:=none,data:=.seq [Value.ref D1,.ref D2,.ref D3].toArray }) a vs (some T):=by
  obtain ⟨z1,z2,oT,ts,z3,z4,z5⟩:=hh
  exact⟨z1,z2,oT,ts,kS _ _ z3,z4,z5⟩
 refine wpAny_newObj_type ?_
 refine xj V1 V2 V3 I3.iA (kS _ _ he) hc (IsTup.new _ _) rG iB tE ?_
 rw [Bk]
 refine codeAny_handlers_suite (IP I3 (kS _ _ he) hd hh3 jl T2 T3 T4 fun h4 he4 I4=>?_)
 exact wpAny_execs_cons (aav (E:=X.xe) (Q:=fun _ _=>False) (Fe I4 hd (hf.2 hP) O (hr.ZX hj) Kx q Fn tj FB hex hX PB hg hm ha zI jt me PC) (fun _ _ z=>z.elim) fun e s' z=>hE _ e s' z)
section
variable {mg:Str->Option Value}{K:Frag}{D1 D2 D3 C0:Addr}{C:XC}{EX:lH}{ta:TA}{D:Ends}{σ:St}{H:Hp}{b1 b2 b3:Bool}{sp:Sp}
theorem TL(hP:fJ mg C.1)(h1:subIn K (.ref C.1) (.ref D1)=some true)(h:ta σ H fun vs H1=>vs.length<=1000/\EX (C0,none) σ H1):TF mg K D1 C0 EX ta C D σ H:=⟨hP,h1,h⟩
theorem BX(hP:fJ mg C.1)(h1:subIn K (.ref C.1) (.ref D1)=some b1)(h2:subIn K (.ref C.1) (.ref D2)=some b2)(h3:subIn K (.ref C.1) (.ref D3)=some b3)(hb:(b1 || b2 || b3)=true)
  (h:ta σ H fun vs H1=>vs.length<=1000/\vU C0 sp (fun e d H2=>EX (C0,d) σ (L2.del H2 e)) vs H1):Nf mg K D1 D2 D3 C0 sp EX ta C D σ H:=⟨hP,b1,b2,b3,h1,h2,h3,hb,h⟩
end
open PySem PySem.Spec PyProof.Rows
def BY:List (TE×TE)->St->Hp->(List (V×V)->Hp->Prop)->Prop
 | [],_,H,Q=>Q [] H
 | (tk,tv)::r,σ,H,Q=>tk σ H fun x H1=>tv σ H1 fun y H2=>BY r σ H2 fun ps H3=>Q ((x,y)::ps) H3
abbrev VV:List (V×V)->List (Value×Value)->Prop:=Paired fun p q=>RelV p.1 q.1/\RelV p.2 q.2
def UP(X:Cx)(pos:Pos)(keys:List (Option Expr))(values:List Expr)(LN:List (TE×TE)):Prop :=
 ∀ (pins:List (Addr×Obj)) (s:Shared) (σ:St) (H:Hp) (Q:List (V×V)->Hp->Prop),Inv X pins σ H s->BY LN σ H Q ->
  wpAny (model X.prog X.w) X.A (evalPairs (pairTrees keys values X.env pos)) (fun vs s'=>∃ ps H',Inv X pins σ H' s'/\VV ps vs/\Q ps H') X.xe s
theorem LO{X:Cx}{pos:Pos}:UP X pos [] [] []:=fun pins s σ H Q I h=>pairTrees_nil_walk ⟨[],H,I,.nil,h⟩
theorem IS{X:Cx}{pos:Pos}{k v:Expr}{ks:List (Option Expr)}{vs:List Expr}{tk tv:TE}{LN:List (TE×TE)}(hk:PE X k tk)(hv:PE X v tv)(hr:UP X pos ks vs LN) :
  UP X pos (some k::ks) (v::vs) ((tk,tv)::LN):=fun pins s σ H Q I h =>
 pairTrees_cons_walk (bS (hk pins s σ H _ I h) fun u s1 ⟨x,H1,I1,rx,q1⟩=>bS (hv pins s1 σ H1 _ I1 q1) fun w2 s2 ⟨y,H2,I2,ry,q2⟩ =>
  bS (hr pins s2 σ H2 _ I2 q2) fun ws s3 ⟨ps,H3,I3,rel,q3⟩=>⟨(x,y)::ps,H3,I3,.cons ⟨rx,ry⟩ rel,q3⟩)
def nZ(aC more:List (Key×V)):List (Key×V):=more.foldl (fun acc kv=>putK acc kv.1 kv.2) aC
theorem KV.merge:∀ {more:List (Key×V)} {rs:List (Key×Value)} {aC:List (Key×V)} {vs:List (Key×Value)},KV more rs->KV aC vs->KV (nZ aC more) (merged vs rs):=by
 intro more rs aC vs r
 unfold KV at r
 induction r generalizing aC vs with
 | nil=>intro q;exact q
 | @cons p q ps qs h t ih =>
  intro r0
  have e:KV (putK aC p.1 p.2) (stored vs q.1 q.2):=by
   have:=r0.put p.1 h.2
   rw [<- h.1];exact this
  exact ih e
theorem lu:∀ (more aC:List (Key×V)),(nZ aC more).length<=aC.length+more.length
 | [],aC=>by show aC.length<=aC.length+0;lia
 | p::r,aC=>by
  have h1:=lu r (putK aC p.1 p.2)
  have h2:=gA aC p.1 p.2
  show (nZ (putK aC p.1 p.2) r).length<=_
  rw [length_cons];lia
theorem rZ{P:Program}{w:World}:∀ {aC:List (Key×V)} {ws:List (Value×Value)},VV (aC.map fun kv=>(kV kv.1,kv.2)) ws->∃ rs,Carries (bQ P w) ws rs/\KV aC rs
 | [],_,r=>by rw [map_nil] at r;cases r;exact⟨[],True.intro,.nil⟩
 | p::aC,_,r=>by
  rw [map_cons] at r
  cases r with
  | @cons a b as bs h t =>
   obtain ⟨rs,c,q⟩:=rZ (P:=P) (w:=w) t
   obtain ⟨b1,b2⟩:=b
   exact⟨(p.1,b2)::rs,⟨vP h.1,rfl,c⟩,.cons ⟨rfl,h.2⟩ q⟩
def Ng(LN:List (TE×TE)):TE:=fun σ H Q=>∀ p,H p=none->BY LN σ (upd H p (.dK [])) fun ps H2=>H2 p=some (.dK [])/\∃ aC:List (Key×V),ps=aC.map (fun kv=>(kV kv.1,kv.2))/\aC.length<=15/\Q (.ref p) (upd H2 p (.dK (nZ [] aC)))
theorem LP{X:Cx}{pos:Pos}{keys:List (Option Expr)}{values:List Expr}{LN:List (TE×TE)}(h:UP X pos keys values LN)(nJ:keys.all (·.isSome)=true)(hl:keys.length=values.length)(h0:keys≠[])
  (zD:keys.length<=15):PE X (.Dict keys values pos) (Ng LN):=by
 intro pins s σ H Q I q
 have hn:=I.aR.fresh (aai s.heap.objs.size)
 have I1:=I.laid (a:=s.heap.objs.size) (o:=.dK []) (h':=s.heap.push { cls:=.type "dict",data:=.dict #[] }) (t':=s.toks) (fun _ _ q=>aab _ q) (aai _) (Ib s.heap I.big)
 refine wpAny_Dict_walk (knd:=bQ X.prog X.w) nJ hl h0 zD (bS (h pins _ σ _ _ I1 (q _ hn)) fun ws s2 ⟨ps,H2,I2,rel,e,aC,ep,lk,q2⟩=>?_)
 subst ep
 obtain ⟨rs,c,rk⟩:=rZ (P:=X.prog) (w:=X.w) rel
 obtain ⟨z,hd,vs0,r0,dd⟩:=M7 I2.aR e
 cases r0
 refine⟨rs,c,dd,fun h' O7 hs=>⟨.ref s.heap.objs.size,_,?_,rfl,q2⟩⟩
 have hz:(nZ [] aC).length<=sizeLine:=by
  have h1:=lu aC []
  rw [length_nil] at h1
  rw [sizeLine_eq];lia
 have he:∃ q,h'.get? s.heap.objs.size=some q:=let ⟨q,_,_,hq,_⟩:=O7;⟨q,hq⟩
 exact w8 I2 (by rw [e];exact True.intro) hs he (Ia hz hd (rk.merge .nil) O7)
structure M2(X:Cx)(o:Expr)(m:Str)(apos:Pos)(e f:Expr)(ba:Pos):Prop where
 base:attributeBase o m X.env (eval o X.env)=eval o X.env
 few:((backTo ba (starEach [e,f] X.env)).all (fun x=>!x.1) && (backToKw ba (keywordEach [] X.env)).all (fun x=>x.1.isSome)
  && decide (([e,f]:List Expr).length+([]:List Keyword).length+(if ([]:List Keyword).isEmpty then 0 else 1)<30))=true
 line:(apos.endLine == ba.line)=true
 trees:backTo ba (starEach [e,f] X.env)=[(false,eval e X.env),(false,eval f X.env)]
def Wz(H:Hp)(a:Addr):Prop:=(∃ aC,Rd H a (.dK aC))\/∃ aC,Rd H a (.dT aC)
theorem PH{X:Cx}{pins:List (Addr×Obj)}{σ:St}{H:Hp}{s:Shared}{a:Addr}(I:Inv X pins σ H s)(d:Wz H a) :
  s.TypeIs (.ref a) "dict"/\(∀ b,Value.ref a=.ref b->∃ ob,s.heap.get? b=some ob/\ob.dict=none)/\(a == sysModules)=false:=by
 rcases d with ⟨aC,e⟩|⟨aC,e⟩
 ·obtain ⟨_,hd,vs,_,dd⟩:=HZ I.aR e
  refine⟨dd.typeIs,fun b q=>?_,hd⟩
  cases q
  obtain ⟨ob,_,_,h1,h2,_⟩:=dd
  exact⟨ob,h1,h2.2.1⟩
 ·obtain ⟨_,hd,xs,_,dd⟩:=H0 I.aR e
  refine⟨dd.typeIs,fun b q=>?_,hd⟩
  cases q
  obtain ⟨ob,_,_,h1,h2,_⟩:=dd
  exact⟨ob,h1,h2.2.1⟩
section
variable {X:Cx}{pins:List (Addr×Obj)}{σ:St}{H:Hp}{s:Shared}{a:Addr}{y d:V}{u r:Value}{o:Option V}{A:Around}{E:Value->Shared->Prop}
theorem PJ{Q:Value->Shared->Prop}(hu:A.units+1<cLine)(I:Inv X pins σ H s)(g:E1 H a y o)(ry:RelV y u)(rd:RelV d r)(h:∀ w' s',Inv X pins σ H s'->RelV (o.getD d) w'->Q w' s') :
  wpAny (model X.prog X.w) A (call (.builtin "dict.get") [.ref a,u,r]) Q E s:=by
 rcases g with ⟨aC,k,e,ey,l⟩|⟨aC,k,b,e,ey,eb,l⟩
 ·subst ey
  obtain ⟨z,hd,vs,rel,dd⟩:=HZ I.aR e
  refine call_meetsIn PySem.F.slot_dict_get dd.typeIs PySem.F.entry_dict_get (PySem.F.args_dict_get_3 _ _ _) (meets_dict_get_default (bQ X.prog X.w) a (vP ry) hd r) ⟨_,dd.mapOf,h _ _ (I.tok _) ?_⟩
  rw [l]
  exact (rel.val k).getD rd
 ·subst ey
  cases (show u=Value.ref b from ry)
  obtain ⟨z,hd,xs,rel,dd⟩:=H0 I.aR e
  refine call_meetsIn PySem.F.slot_dict_get dd.typeIs PySem.F.entry_dict_get (PySem.F.args_dict_get_3 _ _ _) (meetsH_dict_get_default (tupleKind (bQ X.prog X.w)) a b hd r) ⟨tupleKind_room_in1 hu,k,xs,BG I.aR eb,dd,h _ _ (I.tok _) ?_⟩
  rw [l]
  exact (rel.val k).getD rd
end
def IT(td ty tx:TE):TE:=fun σ H Q=>td σ H fun x H1=>∃ a,x=.ref a/\Wz H1 a/\ty σ H1 fun y H2=>tx σ H2 fun z H3=>∃ o,E1 H3 a y o/\Q (o.getD z) H3
section
variable {X:Cx}{o e f:Expr}{apos ba:Pos}{td ty tx:TE}
theorem IU (hu:X.A.units+1<cLine) (ho:PE X o td) (he:PE X e ty) (hf:PE X f tx) (m:M2 X o "get" apos e f ba):PE X (.Call (.Attribute o "get" apos) [e,f] [] ba) (IT td ty tx):=by
 intro pins s σ H Q I h
 refine wpAny_Call_method m.base m.few m.line PySem.F.plainAttrs_dict PySem.F.slot_dict_get PySem.F.type_dict_get (bS (ho pins s σ H _ I h) fun u s1 ⟨x,H1,I1,rx,a,ex,d,q1⟩=>?_)
 subst ex
 obtain rfl:u=Value.ref a:=rx
 obtain ⟨t1,t2,_⟩:=PH I1 d
 refine⟨t1,t2,?_⟩
 rw [m.trees]
 refine Calls.callWith_builtin rfl (Calls.evalArgs_plain (Calls.spliced_cons (bS (he pins s1 σ H1 _ I1 q1) fun iv s2 ⟨y,H2,I2,ry,q2⟩ =>
  Calls.spliced_cons (bS (hf pins s2 σ H2 _ I2 q2) fun fv s3 ⟨z,H3,I3,rz,ov,g,q3⟩=>Calls.spliced_nil ?_))))
 exact PJ hu I3 g ry rz fun w' s4 I4 Ga=>⟨_,H3,I4,Ga,q3⟩
end
section
variable {σ:St}{H:Hp}{Q:VK}{tk tv td ty tx:TE}
def IV(p:Addr)(Q:VK)(x y:V)(H2:Hp):Prop:=H2 p=some (.dK [])/\∃ aC:List (Key×V),[(x,y)]=aC.map (fun kv=>(kV kv.1,kv.2))/\aC.length<=15/\Q (.ref p) (upd H2 p (.dK (nZ [] aC)))
theorem LQ(h:∀ p,H p=none->tk σ (upd H p (.dK [])) fun x H1=>tv σ H1 fun y H2=>IV p Q x y H2):Ng [(tk,tv)] σ H Q:=h
theorem LR{p:Addr}{z:Str}{y:V}(e:H p=some (.dK []))(h:Q (.ref p) (upd H p (.dK [(.inr z,y)]))):IV p Q (.str z) y H:=⟨e,[(.inr z,y)],rfl,aaV rfl,h⟩
theorem LS(h:td σ H fun x H1=>∃ a,x=.ref a/\Wz H1 a/\ty σ H1 fun y H2=>tx σ H2 fun z H3=>∃ o,E1 H3 a y o/\Q (o.getD z) H3):IT td ty tx σ H Q:=h
end
section
variable {M:Model}{A:Around}{E:Value->Shared->Prop}{s:Shared}{env:Env}
def BZ(M:Model)(A:Around)(E:Value->Shared->Prop)(Q:Value->Shared->Prop)(u:Value->Sem Unit)(acc:Value)(cn:Env)(r:Result)(s':Shared):Prop :=
 match r with
 | .ok _=>wpAny M A (u acc) (fun _ KO=>∃ m,KO.heap.Ns cn.locals m/\∀ h',Heap.SameBut cn.locals KO.heap h'->Q .none { KO with heap:=h' }) E s'
 | .error x=>∃ m,s'.heap.Ns cn.locals m/\∀ h',Heap.SameBut cn.locals s'.heap h'->wpAny M A (passOn "comprehension.variables-let-go" x cn:Sem Value) (fun _ _=>False) E { s' with heap:=h' }
theorem zX{e:Expr}{scope:Scope}{pos:Pos}{mk fst:Sem Value}{g:Comprehension}{gs:List Comprehension}{cl:List (Str×Addr)}{Q:Value->Shared->Prop}{u:Value->Sem Unit}
  (q1:clausesOf e=g::gs) (q2:∀ x,foldedSetIterable g.iter env x=pure x) (q3:closureFor scope env=pure cl) (q4:scope.kind=.function) (q5:∀ x∈scope.names,x.2=.local->scope.names.lookup x.1=some .local)
  (h:wpAny M A fst (fun x s1=>wpAny M A (pyIter x) (fun it s2=>wpAny M A mk (fun acc s3=>wpAny M A (newFunctionEnv scope env.globals cl [] env.qual none .none (some env)) (fun cn s4 =>
    codeAny M A (.compStart e 0 it acc { cn with scope:=relabel scope env }) (BZ M A E Q u acc { cn with scope:=relabel scope env }) s4) E s3) E s2) E s1) E s) :
  wpAny M A (comprehension e scope env pos mk false fst (some u)) Q E s:=by
 unfold comprehension
 rw [q3,q1]
 refine aac (aav h (fun x s1 h1=>?_) fun _ _ z=>z)
 refine aac (wpAny_standAt (aac (wpAny_of_eq (q2 x) ?_)))
 refine aac (wpAny_holding (aav h1 (fun it s2 h2=>?_) fun _ _ z=>z))
 refine wpAny_standIf (aac (aav h2 (fun acc s3 h3=>?_) fun _ _ z=>z))
 refine aac (aau (aac (aav h3 (fun cn s4 h4=>?_) fun _ _ z=>z)))
 dsimp only
 have hv:∀ x∈(scope.names.filter fun x=>(x.2 == .local || x.2 == .cell) && x.1 != (".0":Str)).reverse,x.2=.local->Env.kindOf { cn with scope:=relabel scope env } x.1=some .local :=
  fun x hx hl=>lookup_relabel_local (q5 x (aaI.mp (List.mem_reverse.mp hx)).1 hl)
 have hv':∀ x∈(scope.names.filter fun x=>(x.2 == .local || x.2 == .cell) && x.1 != (".0":Str)).reverse.drop 1++(scope.names.filter fun x=>(x.2 == .local || x.2 == .cell) && x.1 != (".0":Str)).reverse.take 1,x.2=.local->Env.kindOf { cn with scope:=relabel scope env } x.1=some .local:=fun x hx hl=>by
  rcases aaB.mp hx with h1|h1
  ·exact hv x (List.mem_of_mem_drop h1) hl
  ·exact hv x (aaX h1) hl
 refine wpAny_holding (aac (wpAny_attempt (wpAny_holding (wpAny_run (codeAny_mono h4 fun r s' hr=>?_)))))
 cases r with
 | ok f =>
  refine aac (wpAny_rule (aac (wpAny_holding (aav (show wpAny M A (u acc) _ E s' from hr) (fun _ KO TK=>?_) fun _ _ h'=>h'))))
  obtain ⟨m,hn,TK⟩:=TK
  exact aac (wpAny_comp_letGo (cenv:={ cn with scope:=relabel scope env }) q4 _ KO m hv' hn fun h' m' _ Gg=>aau (TK h' Gg))
 | error x =>
  obtain ⟨m,hn,hr⟩:=hr
  exact aac (wpAny_holding (wpAny_comp_letGo (cenv:={ cn with scope:=relabel scope env }) q4 _ s' m hv hn fun h' m' _ Gg=>aav (hr h' Gg) (fun _ _ f=>f.elim) fun _ _ y=>y))
end
section
variable {X:Cx}{EX:lH}
theorem IW{y:Str}{py TM:Pos}{k:Nat}{tg iter elt:Expr}{ifs:List Expr}{scope:Scope}{pos:Pos}{N:List Str}{ix:List (Option Nat)}{wi:TI}{g:TG}{tt:TT}{te:lH->TE}
  (iF:X.stack=X.env::X.outer) (Tn:X.env.frame=some X.env.locals) (hex:X.ex=[]) (hX:∀ e s',XM X EX e s'->X.xe e s') (hc:X.calm=true) (hN:X.N.Nodup) (hk0:X.N[k]?=some y) (hy:Loc X.env.scope y) (hi:PI X tg iter wi)
  (hg:∀ pins C s H fp,PG (aS X pins N scope C s H fp) tg g)
  (ht:∀ pins C s H fp,UG (aS X pins N scope C s H fp) ifs tt)
  (he:∀ pins C s H fp EY,(∀ b∈fp,∃ o,(b,o)∈pins)->PE ((aS X pins N scope C s H fp).dQ (XW (aS X pins N scope C s H fp) EY)) elt (te EY))
  (hk:scope.kind=.function) (jq:∀ y∈scope.names,y.2≠.cell) (rp:∀ y∈scope.names,y.2=.local->scope.names.lookup y.1=some .local)
  (GV:(scope.names.all fun y=>!(y.2 == NameKind.free) || (X.env.cells.lookup y.1).isSome)=true) (MN:nL X scope N ix)
  (hs:∀ x,foldedSetIterable iter X.env x=pure x:=by intro _;rfl)
  (hsw:swapsWith (.ListComp elt [⟨tg,iter,ifs,0⟩] scope pos) (some (.Name y py)) TM.line X.env=pure true:=by rfl)
  (hf:X.fn y=true\/X.env.scope.names.lookup y=some .local:=by first|exact .inl rfl|exact .inr rfl|assumption) :
  PS X (.Assign [.Name y py] (.ListComp elt [⟨tg,iter,ifs,0⟩] scope pos) TM) (KA (BO EX ix wi g tt te) (fN k)):=by
 intro pins s σ H D I h
 replace h:wi σ H fun J H1=>cb ix g tt (te fun C _ H'=>EX C σ H') σ (fun x H1=>D.nx (σ.set k (some x)) H1) J H1:=h
 have jk:∀ y∈scope.names,y.2=.free->(X.env.cells.lookup y.1).isSome=true:=fun y hy e=>by
  have z:=all_eq_true.mp GV y hy
  rw [e] at z
  simpa using z
 have GW:∀ p∈scope.names,p.2=.free->∃ c,X.env.cells.lookup p.1=some c:=fun p hp e=>aat.mp (jk p hp e)
 have du:∀ x c,(f9 X.env.cells scope.names []).lookup x=some c->X.env.cells.lookup x=some c:=mj (fun x c q=>by simp at q)
 have ph:∀ x,scope.names.lookup x=some .free->∃ c,(f9 X.env.cells scope.names []).lookup x=some c:=fun x hx=>by
  have hm:=PySem.mem_of_lookup hx
  exact aat.mp (mq (.inr ⟨hm,jk _ hm rfl⟩))
 rw [exec_Assign_Name_used _ _ _ _ hsw]
 refine aac (wpAny_standAt (aac ?_))
 show wpAny _ X.A (do let _ <- comprehension (.ListComp elt [⟨tg,iter,ifs,0⟩] scope pos) scope X.env _ (newList []) false (eval iter X.env) (some (assign (.Name y py) X.env))) _ _ s
 refine aac (aav (zX (u:=assign (.Name y py) X.env) (Q:=fun _ s'=>SP X pins D .next s') rfl hs (lG GW) hk rp (bS (hi pins s σ H _ I h) fun v s1 h1=>bS h1 fun Q7 s2 h2=>?_)) (fun _ s' hq=>aau (aau hq)) fun _ _ e=>e)
 obtain ⟨it,fp,tn,J,H2,e,I2,T,Kc,f2,hW⟩:=h2
 subst e
 have rq:H2 s2.heap.objs.size=none:=I2.aR.fresh (aai _)
 obtain ⟨W,⟨m0,w0⟩,turn⟩:=hW s2.heap.objs.size rq
 refine wpAny_newObj_type ?_
 have I3:Inv X pins σ (upd H2 s2.heap.objs.size (.lst [])) { s2 with heap:=s2.heap.push { cls:=.type "list",data:=.seq ([]:List Value).toArray } }:=I2.GL (its:=[]) (t':=s2.toks) .nil (aaT _)
 have f3:∀ b∈fp,l9 X pins (upd H2 s2.heap.objs.size (.lst [])) b:=fun b hb=>by
  refine⟨?_,(f2 b hb).2⟩
  obtain ⟨o,eo,_⟩:=T.obj _ _ Kc b hb
  rw [ar (aaU (aae eo))]
  exact (f2 b hb).1
 have vv:tn 0 (s2.heap.push { cls:=.type "list",data:=.seq ([]:List Value).toArray }):=T.keep _ _ _ Kc fun b _ o e=>aab _ e
 generalize tE:({ s2 with heap:=s2.heap.push { cls:=.type "list",data:=.seq ([]:List Value).toArray } }:Shared)=s3 at I3
 have vv:tn 0 s3.heap:=by rw [<- tE];exact vv
 generalize Yj:upd H2 s2.heap.objs.size (.lst [])=H3 at I3 f3 w0
 generalize Rv:s2.heap.objs.size=acc at *
 refine wpAny_newFunctionEnv jq (by intro y hy;simp at hy) (fun h₁ GX GY=>?_) hk
 have old:∀ b o,s3.heap.get? b=some o->h₁.get? b=some o:=fun b o q=>GY.extBut b o (aaU (aae q)) (aab _ q)
 have rB:H3 s3.heap.objs.size=none:=I3.aR.fresh (aai _)
 have MO:∀ b∈fp,b<s3.heap.objs.size:=fun b hb=>by
  obtain ⟨o,eo,_⟩:=T.obj _ _ vv b hb
  exact aae eo
 have rD:∀ b,b≠X.env.locals->b∉X.fs->b∉j2 X.stack:=fun b h1 h2 z=>by
  rcases aaG.mp (I3.gT b z) with q|q
  ·exact h1 q
  ·exact h2 q
 have Vo:∀ x c,X.env.cells.lookup x=some c->c<s3.heap.objs.size:=fun x c q=>by
  obtain ⟨v,z⟩:=I3.cell x c q
  exact z.lt
 have YI:∀ (h':Heap) (m:Str->Option Value),(∀ b o,s3.heap.get? b=some o->h'.get? b=some o)->h'.Ns s3.heap.objs.size m ->
   Inv (aS X pins N scope s3.heap.objs.size s3 H3 fp) [] (pick ix σ) H3 { s3 with heap:=h',toks:=s3.toks+([]:List (Str×Value)).length }:=by
  intro h' m vD hn
  refine⟨⟨I3.ok.mod,hk,I3.ok.glob,I3.ok.blt,aai _,fun x y c q1 q2=>I3.ok.inj x y c (du x c q1) (du y c q2),fun x hx=>ph x (dn jq hx),fun x c hf _=>absurd hf Bool.false_ne_true,
   I3.ok.hd,I3.ok.frames,.inl rfl,fun b hb=>⟨aaU (MO b hb),fun x c q=>(f3 b hb).2.2.2.2.1 x c (du x c q)⟩,I3.bs,aah I3.ok.wb I3.sz,fun b o e hb=>?_,fun b hb=>rD b (f3 b hb).2.1 (f3 b hb).2.2.1,I3.stack,I3.eh⟩,
   rfl,I3.bare,Un.kept vD,⟨m,hn,fun i x v h1 h2 h3=>?_⟩,fun x c q=>?_,rB,fun x c q=>I3.d0 x c (du x c q),fun p hp=>?_,I3.aR.kept vD,?_⟩
  ·have q:=(I3.bs b o e).2
   rcases (f3 b hb).2.2.2.1 with z|z
   ·exact I3.ok.qp b o e z
   ·exact absurd (Nat.lt_of_lt_of_le (aae e) (aah I3.ok.wb z)) (Nat.lt_irrefl _)
  ·obtain ⟨j,e1,e2⟩:=rl h2
   obtain ⟨a1,a2,a3,a4⟩:=MN.get h1 e1
   obtain ⟨mX,Yk,Rw⟩:=I3.loc
   obtain ⟨u,ru,l⟩:=Rw j x v a1 e2 a2
   refine⟨u,ru,?_⟩
   rcases l with ⟨l1,_⟩|⟨_,c,lc,z⟩
   ·have Rx:X.env.scope.names.lookup x=some .local:=l1
    rw [Rx] at a3
    exact absurd a3 (by decide)
   ·obtain ⟨c',y4⟩:=ph x a4
    have ec:=du x c' y4
    rw [lc] at ec
    have Ry:c=c':=aao ec
    subst Ry
    exact .inr ⟨fP a4,c,y4,z.keeps vD⟩
  ·obtain ⟨v,z⟩:=I3.cell x c (du x c q)
   exact⟨v,z.keeps vD⟩
  ·have Bl:p∈X.pn++pins:=by simpa using hp
   obtain ⟨a1,a2,a3,a4,a5⟩:=I3.pin p Bl
   exact⟨vD _ _ a1,a2,aaU (aae a1),rD p.1 a3 a4,a5⟩
  ·show (pick ix σ).length=N.length
   unfold pick
   rw [aaD]
   exact MN.len
 have GZ:∀ {pl:List (Addr×Obj)} {H':Hp},pl=[]->(∀ b∈fp,H' b=none)->∀ b∈fp,l9 (aS X pins N scope s3.heap.objs.size s3 H3 fp) pl H' b:=fun {pl H'} Rz hn b hb=>by
  obtain ⟨f0,f1,Kh,Gb,f4,f5⟩:=f3 b hb
  subst Rz
  exact⟨hn b hb,aaU (MO b hb),rD b f1 Kh,.inl hb,fun x c q=>f4 x c (du x c q),fun p hp=>f5 p (by simpa using hp)⟩
 have Pm:∀ e s',(∃ pl,(∀ b∈fp,∃ o,(b,o)∈pl)/\XW (aS X (pins++pl) N scope s3.heap.objs.size s3 H3 fp) (fun C _ H'=>EX C σ H') e s')->notedBy (model X.prog X.w) X.A (compEnvC scope (f9 X.env.cells scope.names []) s3.heap.objs.size X.env)
   (fun e s'=>BZ (model X.prog X.w) X.A X.xe (fun _ s'=>SP X pins D .next s') (assign (.Name y py) X.env) (.ref acc) (compEnvC scope (f9 X.env.cells scope.names []) s3.heap.objs.size X.env) (.error e) s') e s':=by
  rintro e s' ⟨pl,jt,a,C,σ',H',rfl,I0,⟨oe,vs,T0,zI,y4,qw,hd,hsz,hh,jl,⟨qz,tm⟩,pk⟩,To⟩
  have jh:s3.heap.get? a=none:=qz
  have Lx:∀ T,T0=some T->H' T=none/\s3.heap.get? T=none:=fun T z=>⟨(pk T z).1,(pk T z).2.1⟩
  have HU:X.A.frames=some (X.env::X.outer):=by rw [<- iF];exact I3.ok.frames
  have V6:s'.heap.FunFrames X.base X.stack:=I0.stack
  show wpAny _ _ (noteFrame (.ref a) X.env) _ _ s'
  refine mO (base:=X.base) (L:=X.env.locals) HU (iF ▸ V6) Tn zI hd hh fun h1 T k1 k2 k3 k4 k5 k6=>?_
  obtain ⟨n1,n2,n3⟩:=I0.gd zI hd
  have Tp:a≠s3.heap.objs.size:=n1
  obtain ⟨mC,V7,_⟩:=I0.loc
  have Pn:s'.heap.Ns s3.heap.objs.size mC:=V7
  obtain ⟨oC,V8,V9,Tq,rC⟩:=id Pn
  have tC:∀ T',T0=some T'->T'≠s3.heap.objs.size:=fun T' z=>by
   subst z
   obtain ⟨_,_,oT,ts,q1,q2,_⟩:=hh
   exact (I0.gd q1 q2).1
  have Wa:T≠s3.heap.objs.size:=fun z=>by rw [z,Tq] at k3;cases k3
  obtain ⟨ZY,gC⟩:=k2 s3.heap.objs.size oC (Ne.symm Tp) (fun z=>tC _ z.symm rfl) Tq
  refine⟨mC,⟨_,V8,V9,gC,rC⟩,fun h2 sb=>?_⟩
  have g5:h2.get? a=some (oe.mapFields (·.setIfInBounds 1 (.ref T))):=(sb.2 a Tp).trans k5
  obtain ⟨oT,ts,t1,t2,t3⟩:=k6
  have g6:h2.get? T=some oT:=(sb.2 T Wa).trans t1
  have BE:=Obj.data_mapFields hd (·.setIfInBounds 1 (Value.ref T))
  have zD:(vs.setIfInBounds 1 (Value.ref T))[1]?=some (.ref T):=by simp [hsz.1]
  unfold PySem.passOn
  refine aac (wpAny_field g5 BE zD ?_)
  rw [if_neg (by simp)]
  show wpAny _ _ (setFlight (.ref a) X.env.frame >>= fun _=>throw _) _ _ _
  rw [Tn]
  refine aac (eV (s:={ s' with heap:=h2 }) g5 BE zD g6 t2 (Array.getElem?_eq_some_iff.mp t3).1 fun h3 f1 f2=>wpAny_throw (hX _ _ ?_))
  obtain ⟨HV,HW,q1,q2,q3⟩:=f2
  have T2:H' T=none:=I0.aR.free k3
  have Wb:∀ b∈fp,b≠a/\b≠T/\some b≠T0:=fun b hb=>by
   obtain ⟨o,Wc⟩:=jt b hb
   have hm:(b,o)∈(aS X (pins++pl) N scope s3.heap.objs.size s3 H3 fp).pn:=by
    show (b,o)∈X.pn++(pins++pl)
    exact aay _ (aay _ Wc)
   have z:=(I0.pin (b,o) (aaz _ hm)).1
   exact⟨tm (b,o) hm,fun e=>(by rw [show (b,o).1=b from rfl,e,k3] at z;cases z),fun e=>(pk b e.symm).2.2 (b,o) hm rfl⟩
  have T3:s3.heap.get? T=none:=by
   cases q:s3.heap.get? T with
   | none=>rfl
   | some o =>
    by_cases hx:T∈fp
    ·exact absurd rfl (Wb T hx).2.1
    ·obtain ⟨o',z⟩:=I0.base.there T o q hx
     rw [k3] at z;cases z
  have ne:∀ b o,s3.heap.get? b=some o->b≠a/\some b≠T0/\b≠s3.heap.objs.size/\b≠T:=fun b o q=>⟨fun z=>(by rw [z,jh] at q;cases q),fun z=>(by rw [(Lx b z.symm).2] at q;cases q),aaU (aae q),fun z=>(by rw [z,T3] at q;cases q)⟩
  have u3:Un (j2 X.stack) fp H3 H' s3.heap h3:=by
   refine⟨fun b o q n hb hx=>?_,fun b o q n hb hx=>?_,fun b o q n hx=>I0.base.free b o q n hx,fun b o q hx=>?_,I0.base.jn,I0.base.je,I0.base.jo⟩
   ·obtain ⟨e1,e2,e3,e4⟩:=ne b o q
    exact f1 b o e4 ((sb.2 b e3).trans (k1 b o e1 e2 (iF ▸ hb) (I0.base.keep b o q n hb hx)))
   ·obtain ⟨e1,e2,e3,e4⟩:=ne b o q
    obtain ⟨sl,q1⟩:=I0.base.slot b o q n hb hx
    obtain ⟨A3,q2⟩:=k2 b _ e1 e2 q1
    exact⟨A3,f1 b _ e4 ((sb.2 b e3).trans q2)⟩
   ·obtain ⟨e1,e2,e3,e4⟩:=ne b o q
    obtain ⟨o',q1⟩:=I0.base.there b o q hx
    obtain ⟨A3,q2⟩:=k2 b _ e1 e2 q1
    exact⟨_,f1 b _ e4 ((sb.2 b e3).trans q2)⟩
  have Po:eQ X.prog X.w H' h3:=I0.aR.off (ch:=a::s3.heap.objs.size::(T0.toList++j2 X.stack)) (fun b hb=>by
   simp only [aaG,aaB] at hb
   rcases hb with rfl|rfl|hb|hb
   ·exact jl
   ·exact I0.free
   ·cases T0 with
    | none=>simp at hb
    | some T1 =>
     simp only [Option.toList_some,aaA] at hb
     rw [hb];exact (Lx T1 rfl).1
   ·exact I0.eh b hb) fun b o hb q=>by
    simp only [aaG,aaB,not_or] at hb
    have nT:b≠T:=fun z=>by rw [z,k3] at q;cases q
    exact f1 b o nT ((sb.2 b hb.2.1).trans (k1 b o hb.1 (fun z=>hb.2.2.1 (by rw [<- z];simp)) (iF ▸ hb.2.2.2) q))
  have IX:Inv X pins σ H' { s' with heap:=h3 }:=I3.qX (ch:=fp) I0.os u3 Po I0.bare fun b hb=>by
   obtain ⟨f0,Wd,Kh,Gb,f4,f5⟩:=f3 b hb
   exact⟨Gb,Wd,f4,f5⟩
  have nw:∀ b,s3.heap.get? b=none->X.s₀.heap.get? b=none:=fun b z=>by
   cases q:X.s₀.heap.get? b with
   | none=>rfl
   | some o =>
    obtain ⟨o',q1⟩:=I3.base.there b o q (by rw [hex];simp)
    rw [z] at q1;cases q1
  have np:∀ b,s3.heap.get? b=none->∀ p∈X.pn,p.1≠b:=fun b z p hp q=>by
   have:=(I3.pin p (aaz _ hp)).1
   rw [q,z] at this;cases this
  have g7:h3.get? a=some (oe.mapFields (·.setIfInBounds 1 (.ref T))):=f1 a _ (Ne.symm k4) g5
  exact⟨a,C,σ,H',rfl,(IX.ei fun p hp=>absurd hp (by simp)).dQ _,⟨_,_,T,HV,HW,g7,(Obj.cls_mapFields _ _).trans y4,(bM _ _).trans qw,BE,hsz.set,zD,k4,q1,q2,q3,jl,⟨nw a jh,fun p hp=>np a jh p hp⟩,T2,nw T T3,fun p hp=>np T T3 p hp⟩,To⟩
 have loop:∀ s4:Shared,(∃ m,s4={ s3 with heap:=h₁,toks:=s3.toks+([]:List (Str×Value)).length }/\h₁.Ns s3.heap.objs.size m) ->
   codeAny (model X.prog X.w) X.A (.compLoop (.ListComp elt [⟨tg,iter,ifs,0⟩] scope pos) 0 (.ref it) (.ref acc) (compEnvC scope (f9 X.env.cells scope.names []) s3.heap.objs.size X.env))
    (BZ (model X.prog X.w) X.A X.xe (fun _ s'=>SP X pins D .next s') (assign (.Name y py) X.env) (.ref acc) (compEnvC scope (f9 X.env.cells scope.names []) s3.heap.objs.size X.env)) s4:=by
  rintro s4 ⟨m4,rfl,zi⟩
  refine nK (E:=fun e s'=>∃ pl,(∀ b∈fp,∃ o,(b,o)∈pl)/\XW (aS X (pins++pl) N scope s3.heap.objs.size s3 H3 fp) (fun C _ H'=>EX C σ H') e s') Pm
   (fun n s'=>∃ i σ' ys H',Inv (aS X pins N scope s3.heap.objs.size s3 H3 fp) [] σ' H' s'/\tn i s'.heap/\(∀ b∈fp,H' b=none)/\W i n σ' ys H') ?_ m0
   ⟨0,pick ix σ,[],H3,YI h₁ m4 old zi,T.keep _ _ _ vv fun b _ o q=>old b o q,fun b hb=>(f3 b hb).1,w0⟩
  rintro n s5 ⟨i,σ5,ys,H5,I5,F8,Kd,w5⟩
  obtain ⟨Yl,rE⟩:=turn i n σ5 ys H5 w5
  rcases rE with ⟨stop,q⟩|⟨go,m',iI,step⟩
  ·refine bS (T.done (aS X pins N scope s3.heap.objs.size s3 H3 fp) rfl rfl rfl hc i [] s5 σ5 H5 _ I5 (GZ rfl Kd) F8 stop) fun r s6 ⟨hr,I6⟩=>?_
   subst hr
   obtain ⟨m6,RA,_⟩:=I6.loc
   have I6X:Inv X pins σ H5 s6:=I3.qX (ch:=fp) I6.os I6.base I6.aR I6.bare fun b hb=>by
    obtain ⟨f0,f1,Kh,Gb,f4,f5⟩:=f3 b hb
    exact⟨Gb,f1,f4,f5⟩
   have Kv:X.env.locals≠s3.heap.objs.size:=fun z=>by
    obtain ⟨m,⟨o,_,_,ho,_⟩,_⟩:=I3.loc
    exact Nat.lt_irrefl _ (z ▸ aae ho)
   have TN:∀ x c,X.env.cells.lookup x=some c->c≠s3.heap.objs.size:=fun x c e=>aaU (Vo x c e)
   refine wpAny_assign_Name (vq (u:=.ref acc) (v:=.ref acc) I6X hN hk0 hy rfl (fun s7 I7 ⟨a7,sb7,ha7⟩=>?_) hf)
   have na7:s3.heap.objs.size≠a7:=by
    rcases ha7 with z|z
    ·exact fun w=>Kv (z ▸ w.symm)
    ·exact fun w=>TN _ _ z w.symm
   refine⟨m6,RA.sameBut sb7 na7,fun h' sb=>?_⟩
   refine⟨σ.set k (some (.ref acc)),H5,Inv.iu (ch:=[s3.heap.objs.size]) I7 (fun b hb=>?_) (fun b o _ _ nb e _=>(sb.2 b (fun z=>nb (by rw [z];exact aaA.mpr rfl))).trans e) (fun b o _ _ nb e _=>⟨o.slots,(sb.2 b (fun z=>nb (by rw [z];exact aaA.mpr rfl))).trans e⟩)
    (fun _ _ _ _ e=>e) (fun b o nb e=>⟨o,(sb.2 b (fun z=>nb (by rw [z];exact aaA.mpr rfl))).trans e⟩) (fun _ _ e=>e) (fun _ _ _ e=>e) (fun b ps e=>⟨#[],by simpa using e⟩) (fun m hm=>hm.sameBut sb Kv) (I7.aR.letGo I6.free sb),q⟩
   have eb:b=s3.heap.objs.size:=aaA.mp hb
   subst eb
   refine⟨?_,Ne.symm Kv,TN,fun p hp=>aaU (aae (I3.pin p hp).1)⟩
   cases q9:X.s₀.heap.get? s3.heap.objs.size with
   | none=>rfl
   | some o=>exact absurd (Nat.lt_of_lt_of_le (aae q9) I3.sz) (Nat.lt_irrefl _)
  ·refine bS (T.item (aS X pins N scope s3.heap.objs.size s3 H3 fp) rfl rfl rfl hc i [] s5 σ5 H5 _ I5 (GZ rfl Kd) F8 go) fun r s6 ⟨u,hr,h6⟩=>?_
   subst hr
   refine bS h6 fun _ s7 ⟨x,H7,I7,r7,y7,Ez,RB⟩=>?_
   have RC:=I7.pinned (GZ rfl RB) (T.obj _ _ Ez)
   refine E9 (hg pins s3.heap.objs.size s3 H3 fp _ s7 σ5 H7 x u _ RC r7 (step x H7 y7)) fun _ s8 ⟨σ8,H8,I8,q8⟩=>?_
   refine E9 (rn (ht pins s3.heap.objs.size s3 H3 fp) I8 q8) fun b s9 ⟨H9,I9,q9⟩=>?_
   have back:∀ {σz:St} {Hz:Hp} {sz:Shared} {yz:List V},Inv (aS X pins N scope s3.heap.objs.size s3 H3 fp) ([]++f6 fp s7.heap) σz Hz sz->W (i+1) m' σz yz Hz ->
     ∃ m,m<n/\∃ i σ' ys H',Inv (aS X pins N scope s3.heap.objs.size s3 H3 fp) [] σ' H' sz/\tn i sz.heap/\(∀ b∈fp,H' b=none)/\W i m σ' ys H':=fun {σz Hz sz yz} Iz wz=>by
    refine⟨m',iI,i+1,σz,yz,Hz,Iz.il,T.keep _ _ _ Ez fun b hb o e=>(Iz.pin (b,o) (aay _ (aay _ (cf hb e)))).1,fun b hb=>?_,wz⟩
    obtain ⟨o,e,d⟩:=T.obj _ _ Ez b hb
    exact (Iz.pin (b,o) (aay _ (aay _ (cf hb e)))).2.1
   cases b with
   | false=>exact back I9 q9
   | true =>
    have Tr:∀ b∈fp,∃ o,(b,o)∈[]++f6 fp s7.heap:=fun b hb=>by
     obtain ⟨o,e,d⟩:=T.obj _ _ Ez b hb
     exact⟨o,aay _ (cf hb e)⟩
    refine aav (he (pins++([]++f6 fp s7.heap)) s3.heap.objs.size s3 H3 fp (fun C _ H'=>EX C σ H') (fun b hb=>(Tr b hb).imp fun _ z=>aay _ z) [] s9 σ8 H9 _ ((zL I9).dQ _) q9) (fun v G1 ⟨y,G2,Pp,RE,G3,G4,RF⟩=>?_) fun e s' z=>⟨_,Tr,z⟩
    have RD:=DL (Inv.cc Pp)
    refine E9 (eT _ G1 σ8 G2 (.ref acc) [y] (.ref acc) [v] (fun _ H'=>H'=upd G2 acc (.lst (ys++[y]))) RD rfl (.cons RE .nil) ⟨acc,ys,y,rfl,rfl,G3,G4,rfl⟩) fun _ K3 ⟨_,QA,RG,_,RH⟩=>?_
    subst RH
    exact back RG RF
 have zi:∃ m,h₁.Ns s3.heap.objs.size m:=⟨_,GX⟩
 obtain ⟨m4,zi⟩:=zi
 have L:=loop _ ⟨m4,rfl,zi⟩
 exact codeAny_compStart_list L (T.self _ 0 _ _ _ (T.keep _ _ _ vv fun b _ o q=>old b o q) L)
end
end L2

set_option maxHeartbeats 8000000
namespace PySem.W.Fast
theorem tw16258772466656445215:True:=trivial
theorem tw92918814659350975:True:=trivial
theorem tw658662410317298970:True:=trivial
theorem tw6912826487520642035:True:=trivial
theorem tw10277091998627206189:True:=trivial
theorem tw589947172285035736:True:=trivial
theorem tw12656908940511414587:True:=trivial
theorem tw15833166047998712044:True:=trivial
theorem tw9078125312915300769:True:=trivial
theorem tw18011526993680840742:True:=trivial
theorem tw10817876610847117786:True:=trivial
theorem tw13940014952687368777:True:=trivial
theorem tw3283946528435173701:True:=trivial
theorem tw11161942947068317546:True:=trivial
theorem tw3662257665715513458:True:=trivial
theorem tw16118271827622487842:True:=trivial
theorem tw9725113543613517914:True:=trivial
theorem tw8777682196097032944:True:=trivial
theorem tw17774947269192255531:True:=trivial
theorem tw11336975619132745515:True:=trivial
theorem tw6295531017942682411:True:=trivial
theorem tw4729816394589456995:True:=trivial
theorem tw13317119620366330682:True:=trivial
theorem tw11952107034278499905:True:=trivial
theorem tw14212605279068978231:True:=trivial
theorem tw12097570292754959017:True:=trivial
theorem tw13704961773658585325:True:=trivial
theorem tw2627497444704732906:True:=trivial
theorem tw15588222010605538719:True:=trivial
theorem tw8182668900378403456:True:=trivial
theorem tw5768507167776381770:True:=trivial
theorem tw3113372451801756840:True:=trivial
theorem tw16046584701432919645:True:=trivial
theorem tw10856162402135235407:True:=trivial
theorem tw14739461644236026111:True:=trivial
theorem tw10769164325131726276:True:=trivial
theorem tw8699633057316430366:True:=trivial
theorem tw2155723322594778708:True:=trivial
theorem tw5478834183256358451:True:=trivial
theorem tw9580047687404498478:True:=trivial
theorem tw12671487792096517257:True:=trivial
theorem tw17493815351979542163:True:=trivial
theorem tw11041328566309190398:True:=trivial
theorem tw8221758802708049159:True:=trivial
theorem tw11677526430732505918:True:=trivial
theorem tw7793568729877252041:True:=trivial
theorem tw2715277720617291894:True:=trivial
theorem tw4005069263743119941:True:=trivial
theorem tw4624254365203363392:True:=trivial
theorem tw5269750437126916045:True:=trivial
theorem tw12121803123492904396:True:=trivial
theorem tw18205816491064501899:True:=trivial
theorem tw5910932738343692734:True:=trivial
theorem tw10792500792833209200:True:=trivial
theorem tw17159230640678424376:True:=trivial
theorem tw9511695928104100452:True:=trivial
theorem tw1819636782541083920:True:=trivial
theorem tw5814289680064343842:True:=trivial
theorem tw9059495168763174189:True:=trivial
theorem tw3390925550555161790:True:=trivial
theorem tw5010605334654065683:True:=trivial
theorem tw5889026131098007697:True:=trivial
theorem tw17418706099525157880:True:=trivial
theorem tw17166097786490886174:True:=trivial
theorem tw9669999773785509963:True:=trivial
theorem tw1053308048855541330:True:=trivial
theorem tw5450247667875589048:True:=trivial
theorem tw5779879765641325283:True:=trivial
theorem tw13803080068739430184:True:=trivial
theorem tw5057058893574002121:True:=trivial
theorem tw9458661003721804772:True:=trivial
theorem tw15585356903766363401:True:=trivial
theorem tw8327205266720647012:True:=trivial
theorem tw7224741844041609345:True:=trivial
theorem tw5998600117947359529:True:=trivial
theorem tw11333593132083625716:True:=trivial
theorem tw47911246032222344:True:=trivial
theorem tw5397233349914961012:True:=trivial
theorem tw11989821285344603225:True:=trivial
theorem tw13848469856044533522:True:=trivial
theorem tw4978649212667821866:True:=trivial
theorem tw5556295009010304192:True:=trivial
theorem tw14555877145002867247:True:=trivial
theorem tw16285688208302504694:True:=trivial
theorem tw805722630402934131:True:=trivial
theorem tw9348762692224427053:True:=trivial
theorem tw17110343438652263756:True:=trivial
theorem tw12277911790613944740:True:=trivial
theorem tw15747785248880680737:True:=trivial
theorem tw10698502717345063220:True:=trivial
theorem tw6573893637586531294:True:=trivial
theorem tw8679198700443141605:True:=trivial
theorem tw4992652174240023328:True:=trivial
theorem tw1223027991503138486:True:=trivial
theorem tw3858396786057701775:True:=trivial
theorem tw9779135684386307589:True:=trivial
theorem tw14199355910432897581:True:=trivial
theorem tw3752735877227647651:True:=trivial
end PySem.W.Fast
namespace Law
open Bp (Bq qP Dt gP zq Hb nN wG Ha take_snoc A5)
open PySem L2
def top(i:Nat):Stmt:=PySem.Challenge.pw_tuningyard_k64_bad_bars_and_notes.main.body.getD i (.Pass ⟨0,0,0,0⟩)
abbrev gU:Stmt:=top 9
abbrev jz:Stmt:=top 10
abbrev iM:Stmt:=top 11
abbrev iN:Stmt:=top 12
abbrev r6:Stmt:=top 13
abbrev gV:Stmt:=top 16
abbrev r8:Stmt:=top 17
abbrev lJ:Stmt:=top 21
abbrev r9:Stmt:=top 22
abbrev n0:Stmt:=top 23
abbrev og:Stmt:=top 24
abbrev xk:Stmt:=top 25
abbrev xl:Stmt:=top 26
abbrev iO:Stmt:=top 32
abbrev iP:Stmt:=top 33
abbrev gW:Stmt:=top 34
abbrev xm:Stmt:=top 35
abbrev fL:Stmt:=top 42
abbrev jA:Stmt:=top 43
abbrev lK:Stmt:=top 44
abbrev iQ:Stmt:=top 45
abbrev jB:Stmt:=top 46
abbrev gX:Stmt:=top 48
abbrev jC:Stmt:=top 49
abbrev iR:Stmt:=top 50
abbrev oh:Stmt:=top 51
abbrev lL:Stmt:=top 52
abbrev jD:Stmt:=top 53
abbrev iS:Stmt:=top 54
abbrev iT:Stmt:=top 55
abbrev oi:Stmt:=top 56
abbrev lM:Stmt:=top 57
abbrev lN:Stmt:=top 58
abbrev mV:Stmt:=top 59
abbrev cm:Stmt:=DG (top 6) 0
abbrev bN:Stmt:=DG (top 7) 0
@[elab_as_elim] theorem dr {α : Type} {P : List α -> Prop} (us : List α) (hl : us.length = 1) (h : ∀ a0 : α, P [a0]) : P us :=
 match us,hl with|[a0],_=>h a0
@[elab_as_elim] theorem dW {α : Type} {P : List α -> Prop} (us : List α) (hl : us.length = 2) (h : ∀ a0 a1 : α, P [a0, a1]) : P us :=
 match us,hl with|[a0,a1],_=>h a0 a1
@[elab_as_elim] theorem gB {α : Type} {P : List α -> Prop} (us : List α) (hl : us.length = 3) (h : ∀ a0 a1 a2 : α, P [a0, a1, a2]) : P us :=
 match us,hl with|[a0,a1,a2],_=>h a0 a1 a2
def Kn(K:Frag)(H:Hp)(v:V):Prop:=(∃ i,v=.int i)\/(∃ b,v=.bl b)\/v=.dt\/(∃ s,v=.str s)\/(∃ a xs,v=.ref a/\bA K H a xs)\/(∃ a xs,v=.ref a/\bh K H a xs)
theorem Kn.same{K:Frag}{H H':Hp}{v:V}(h:Kn K H v)(s:ah H H'):Kn K H' v:=by
 rcases h with h|h|h|h|⟨a,xs,h,z⟩|⟨a,xs,h,z⟩
 ·exact .inl h
 ·exact .inr (.inl h)
 ·exact .inr (.inr (.inl h))
 ·exact .inr (.inr (.inr (.inl h)))
 ·exact .inr (.inr (.inr (.inr (.inl ⟨a,xs,h,s.seq z⟩))))
 ·exact .inr (.inr (.inr (.inr (.inr ⟨a,xs,h,s.at z⟩))))
def wh:V->Bool
 | .int _=>true
 | _=>false
def NT(K:Frag)(H:Hp)(v:V):Prop:=(∃ i,v=.int i)\/v=.dt\/(∃ s,v=.str s)\/(∃ a xs,v=.ref a/\bA K H a xs)
def Odd(K:Frag)(H:Hp)(v:V):Prop:=(∃ (a:Addr) (xs:List V),v=.ref a/\bh K H a xs/\xs.length<=1000/\(∀ x∈xs,Kn K H x)/\(decide (xs.length=5) && xs.all wh)=false)\/NT K H v
def fits(x0 x1 x2 x3 x4:Int):Bool:=[decide ((if x0<0 then -x0 else x0)<=700),decide ((if x1<0 then -x1 else x1)<=60),decide ((if x2<0 then -x2 else x2)<=60),decide ((if x3<0 then -x3 else x3)<=60),decide ((if x4<0 then -x4 else x4)<=60)].all id
theorem mem_of{α:Type}{ks:List α}{i:Nat}{k:α}(h:ks[i]?=some k):k∈ks:=by
 obtain ⟨h1,h2⟩:=aad.mp h
 rw [<- h2]
 exact aaY h1
theorem Nh{n k:Nat}(h:n<2 ^ k):vG (n:Int)<=k:=by
 rw [qP]
 exact Dt (by simpa using h)
theorem WA{n:Nat}(h0:0<n)(h:n<2 ^ 9000):(n:Int).natAbs.log2<9000:=by
 have e:(n:Int).natAbs=n:=rfl
 rw [e]
 exact (log2_lt (by lia)).mpr h
theorem PK{n m a b:Nat}(hn:n<2 ^ a)(hm:m<2 ^ b)(h:a+b<=1000000):lg (n:Int) (m:Int):=by
 have:=Nh hn
 have:=Nh hm
 unfold lg
 lia
theorem PL{n i:Nat}(h:n<=2 ^ (15*i))(hi:i<=60):n<2 ^ 901 :=
 aaJ (aah h (aag (by decide) (show 15*i<=900 by lia))) (by decide +kernel)
theorem WB{n i:Nat}(h:n<=2 ^ (15*i)*32768)(hi:i<=60):n<2 ^ 9000 :=
 aaJ (aah h (aak _ (aag (by decide) (show 15*i<=900 by lia)))) (by decide +kernel)
theorem xn{n:Nat}(h:n<=9999):n<2 ^ 14:=by lia
def gD(p:Nat×Nat):Prop:=(0<p.1/\p.1<=9999)/\(0<p.2/\p.2<=9999)
theorem IY{t b:Nat}(h:0<b):Nat.gcd t b<=b:=le_of_dvd h (gcd_dvd_right t b)
theorem LU{t b:Nat}(h:0<t):Nat.gcd t b<=t:=le_of_dvd h (gcd_dvd_left t b)
theorem IZ{t b:Nat}(ht:0<t/\t<=9999)(hb:0<b/\b<=9999):gD (t / Nat.gcd t b,b / Nat.gcd t b):=by
 have hg:0<Nat.gcd t b:=Nat.gcd_pos_of_pos_right _ hb.1
 exact⟨⟨div_pos (LU ht.1) hg,aah (div_le_self _ _) ht.2⟩,div_pos (IY hb.1) hg,aah (div_le_self _ _) hb.2⟩
theorem LV{rs:List (Nat×Nat)}{i:Nat}{r:List Int}(h:(rs.map Bp.r2)[i]?=some r):∃ p,rs[i]?=some p/\r=Bp.r2 p:=by
 rw [aaP] at h
 match e:rs[i]?,h with
 | some p,h=>exact⟨p,rfl,(aao h).symm⟩
def vW(a0 a1 a2 a3 a4 a5 a6:Addr)(c:Nat):Option V:=if c=70 then some (.ref a0) else if c=67 then some (.ref a1) else if c=71 then some (.ref a2) else if c=68 then some (.ref a3) else if c=65 then some (.ref a4) else if c=69 then some (.ref a5) else if c=66 then some (.ref a6) else none
theorem B0{s:String}{d c:Nat}(h:PySem.Str.ofString s=⟨#[d]⟩):(Sum.inr (PySem.Str.ofString s):Key)=Sum.inr ⟨#[c]⟩↔c=d:=by
 rw [h]
 constructor
 ·intro e;exact (bo.wL.mp (Sum.inr.inj e)).symm
 ·rintro rfl;rfl
theorem zY {a0 a1 a2 a3 a4 a5 a6:Addr} (c:Nat):dS [(.inr "F",.ref a0),(.inr "C",.ref a1),(.inr "G",.ref a2),(.inr "D",.ref a3),(.inr "A",.ref a4),(.inr "E",.ref a5),(.inr "B",.ref a6)] ((.inr ⟨#[c]⟩):Key)=vW a0 a1 a2 a3 a4 a5 a6 c:=by
 unfold dS vW
 simp only [find?_cons,List.find?_nil,B0 (s:="F") (d:=70) (by decide),B0 (s:="C") (d:=67) (by decide),B0 (s:="G") (d:=71) (by decide),B0 (s:="D") (d:=68) (by decide),B0 (s:="A") (d:=65) (by decide),B0 (s:="E") (d:=69) (by decide),B0 (s:="B") (d:=66) (by decide)]
 by_cases h0:c=70
 ·simp [h0]
 by_cases h1:c=67
 ·simp [h0,h1]
 by_cases h2:c=71
 ·simp [h0,h1,h2]
 by_cases h3:c=68
 ·simp [h0,h1,h2,h3]
 by_cases h4:c=65
 ·simp [h0,h1,h2,h3,h4]
 by_cases h5:c=69
 ·simp [h0,h1,h2,h3,h4,h5]
 by_cases h6:c=66
 ·simp [h0,h1,h2,h3,h4,h5,h6]
 ·simp [h0,h1,h2,h3,h4,h5,h6]
theorem Ja {a0 a1 a2 a3 a4 a5 a6:Addr}:dS [(.inr "F",.ref a0),(.inr "C",.ref a1),(.inr "G",.ref a2),(.inr "D",.ref a3),(.inr "A",.ref a4),(.inr "E",.ref a5),(.inr "B",.ref a6)] ((.inr (PySem.Str.ofString "")):Key)=none:=by
 unfold dS
 have k:∀ s:String,PySem.Str.ofString s≠PySem.Str.ofString ""->((Sum.inr (PySem.Str.ofString s):Key)=Sum.inr (PySem.Str.ofString ""))=False:=fun s h=>eq_false fun e=>h (Sum.inr.inj e)
 simp only [find?_cons,List.find?_nil,k "F" (by decide),k "C" (by decide),k "G" (by decide),k "D" (by decide),k "A" (by decide),k "E" (by decide),k "B" (by decide),decide_false]
 rfl
theorem Ff{a0 a1 a2 a3 a4 a5 a6:Addr}{c:Nat}(h:bw.Bs c=none):vW a0 a1 a2 a3 a4 a5 a6 c=none:=by
 unfold bw.Bs at h
 unfold vW
 repeat (split at h;cases h;rw [if_neg (by assumption)])
theorem WC{x n:Int}(hx:-1000<=x/\x<=1000)(hn:-1000<=n/\n<=1000):lg x n:=by
 have h1:vG x<=10:=by rw [qP];exact Dt (by lia)
 have h2:vG n<=10:=by rw [qP];exact Dt (by lia)
 unfold lg
 lia
def bO(p:Nat×Nat):Nat×Nat:=(p.1 / Nat.gcd p.1 p.2,p.2 / Nat.gcd p.1 p.2)
theorem kx{p:Nat×Nat}(h:gD p):gD (bO p):=IZ h.1 h.2
theorem Jb{p:Nat×Nat}(h:gD p):Nat.gcd (bO p).1 (bO p).2=1:=Nat.gcd_div_gcd_div_gcd_of_pos_right h.2.1
theorem B1{p q:Nat×Nat}(hp:gD p)(hq:gD q)(h:bO p=bO q):p.1*q.2=q.1*p.2:=by
 obtain ⟨a,b⟩:=p
 obtain ⟨c,d⟩:=q
 have h1:a / Nat.gcd a b=c / Nat.gcd c d:=congrArg Prod.fst h
 have h2:b / Nat.gcd a b=d / Nat.gcd c d:=congrArg Prod.snd h
 have g1:a=a / Nat.gcd a b*Nat.gcd a b:=(div_mul_cancel (gcd_dvd_left a b)).symm
 have g2:b=b / Nat.gcd a b*Nat.gcd a b:=(div_mul_cancel (gcd_dvd_right a b)).symm
 have g3:c=c / Nat.gcd c d*Nat.gcd c d:=(div_mul_cancel (gcd_dvd_left c d)).symm
 have g4:d=d / Nat.gcd c d*Nat.gcd c d:=(div_mul_cancel (gcd_dvd_right c d)).symm
 rw [<- h1] at g3
 rw [<- h2] at g4
 show a*d=c*b
 generalize a / Nat.gcd a b=x at *
 generalize b / Nat.gcd a b=y at *
 generalize Nat.gcd a b=g at *
 generalize Nat.gcd c d=k at *
 rw [g1,g2,g3,g4]
 ac_rfl
inductive Res where
 | gv
 | bar (k:Nat)
 | note (k j:Nat)
 | read
def B2:List Nat->Nat
 | []=>0
 | n::r=>if n=0 then 0 else B2 r+1
def jj(tt:Nat):Nat->List (List Nat)->Res
 | _,[]=>.read
 | k,ps::r=>if 24<ps.length then .bar k else if 0∈ps then .note k (B2 ps) else if ps.sum=tt then jj tt (k+1) r else .bar k
def Jc(tt:Nat)(bs:List (List Nat)):Res:=if 40<bs.length then .gv else jj tt 0 bs
theorem Jd:∀ {ps:List Nat} {i:Nat},(∀ n∈ps.take i,n≠0)->ps[i]?=some 0->B2 ps=i
 | [],i,_,h=>by simp at h
 | n::r,0,_,h=>by
  cases h
  rfl
 | n::r,i+1,h,e=>by
  have hn:n≠0:=h n (by simp)
  show (if n=0 then 0 else B2 r+1)=i+1
  rw [if_neg hn,Jd (i:=i) (fun m hm=>h m (by simp [hm])) (by simpa using e)]
def LW:Str:=PySem.Str.ofString "="
def zZ:List Str:=["R","C.0","F#.-1","Bb<.2","E-.10","A.0","G+^.3"]
def gw (s:Str) (p b:Nat):Str:=s++LW++bo.txt p++PySem.Str.ofString "/"++bo.txt b
def Ni:Str:=PySem.Str.ofString "R=1/1"
def Good(tt bb:Nat)(w:Str)(n:Nat):Prop:=(w=Ni/\n=bb)\/∃ s∈zZ,(1<=n/\n<=tt)/\w=gw s n bb
def B3:List Str:=["","C.0","C.0=","=1/4","C.0=1/0","R","r=1/4","C0=1/4","C.0=1/4=","C.0==1/4","R.0=1/4","C.0=01/4","C.0=1/4/4","C.0=1","C.0=10000/1","H.0=1/4","C.-0=1/4","C.9999=1/4","Cb#.0=1/4","C.0:=1/4","c.0=1/4","C####################.0=1/4","|"]
def pw(tt bb:Nat)(w:Str):Prop:=(∃ n,Good tt bb w n)\/w∈B3
def okN (s:Str):Bool:=decide (s=PySem.Str.ofString "R") || match bw.Ge s with
 | some [x0,x1,x2,x3,x4]=>fits x0 x1 x2 x3 x4
 | _=>false
def Fg(w:Str):Option (Nat×Nat):=if okN (PySem.Txt.partition w LW).1=true then bo.lj (PySem.Txt.partition w LW).2.2 4 else none
theorem DU:∀ w∈B3,Fg w=none:=by decide +kernel
theorem LX:∀ w∈B3,w.length<=40/\32∉w.cps.toList:=by decide +kernel
theorem sf:∀ s∈zZ,okN s=true/\s.length<=6/\∀ c∈s.cps.toList,c≠32/\c≠58/\c≠61:=by decide +kernel
theorem gY{n:Nat}(h:0<n/\n<=9999):(∀ c∈(bo.txt n).cps.toList,c≠32/\c≠58)/\(bo.txt n).length<=4:=by
 refine⟨fun c hc=>?_,bo.Hj (by decide) (by lia)⟩
 have h1:=(bo.wK (n:=n) (m:=4) h.1 (by decide) (by lia)).1
 unfold bo.cnt at h1
 rw [Bool.and_eq_true] at h1
 have h2:=all_eq_true.mp h1.2 c hc
 unfold bo.Dv at h2
 rw [Bool.and_eq_true,decide_eq_true_eq,decide_eq_true_eq] at h2
 lia
theorem mW(a b:Str):(a++b).cps.toList=a.cps.toList++b.cps.toList:=by
 show (a.cps++b.cps).toList=_
 simp
theorem B4{a b:Str}(h:a.cps.toList=b.cps.toList):a=b:=bw.mG h
theorem Je(s:Str)(p b:Nat):gw s p b=s++LW++(bo.txt p++bo.aO++bo.txt b):=by
 refine B4 ?_
 unfold gw
 simp only [mW,append_assoc]
 rfl
theorem LY{s:Str}(h:s∈zZ)(p b:Nat):PySem.Txt.partition (gw s p b) LW=(s,LW,bo.txt p++bo.aO++bo.txt b):=by
 rw [Je]
 exact bw.mH (c:=61) (i:=0) (u:=[]) (by decide) (by decide) rfl (fun z=>nomatch z) (fun z=>((sf s h).2.2 61 z).2.2 rfl)
section
variable {tt bb n:Nat}{w:Str}
theorem Good.pos(hb:1<=bb/\bb<=16)(ht:tt<=15)(h:Good tt bb w n):1<=n/\n<=16:=by
 rcases h with ⟨_,rfl⟩|⟨s,_,h,_⟩
 ·exact hb
 ·lia
theorem Good.rd(hb:1<=bb/\bb<=16)(ht:tt<=15)(h:Good tt bb w n):∃ p,Fg w=some p/\gD p/\bO p=bO (n,bb):=by
 rcases h with ⟨rfl,rfl⟩|⟨s,hs,hn,rfl⟩
 ·refine⟨(1,1),by decide +kernel,⟨by decide,by decide⟩,?_⟩
  have e:bO (n,n)=(1,1):=by
   unfold bO
   simp only [Nat.gcd_self]
   rw [Nat.div_self (by lia)]
  rw [e]
  decide
 ·refine⟨(n,bb),?_,⟨⟨by lia,by show n<=9999;lia⟩,by show 0<bb/\bb<=9999;lia⟩,rfl⟩
  unfold Fg
  rw [LY hs,if_pos (sf s hs).1]
  exact bo.zu (by decide) ⟨by lia,by lia⟩ ⟨by lia,by lia⟩
theorem Good.uniq{m:Nat}(hb:1<=bb/\bb<=16)(ht:tt<=15)(h:Good tt bb w n)(k:Good tt bb w m):n=m:=by
 obtain ⟨p,e1,g1,l1⟩:=h.rd hb ht
 obtain ⟨q,e2,g2,l2⟩:=k.rd hb ht
 rw [e1] at e2
 cases e2
 have hn:=h.pos hb ht
 have hm:=k.pos hb ht
 have:=B1 (p:=(n,bb)) (q:=(m,bb)) ⟨⟨hn.1,by show n<=9999;lia⟩,by show 0<bb/\bb<=9999;lia⟩ ⟨⟨hm.1,by show m<=9999;lia⟩,by show 0<bb/\bb<=9999;lia⟩ (l1.symm.trans l2)
 exact Nat.eq_of_mul_eq_mul_right (show 0<bb by lia) this
theorem Good.sg(hb:1<=bb/\bb<=16)(ht:tt<=15)(h:Good tt bb w n):w.length<=40/\∀ c∈w.cps.toList,c≠32/\c≠58:=by
 rcases h with ⟨rfl,rfl⟩|⟨s,hs,hn,rfl⟩
 ·exact⟨by decide,by decide⟩
 ·have h1:=sf s hs
  have h2:=gY (n:=n) ⟨by lia,by lia⟩
  have h3:=gY (n:=bb) ⟨by lia,by lia⟩
  refine⟨?_,fun c hc=>?_⟩
  ·rw [Je]
   have e1:LW.length=1:=by decide
   have e2:bo.aO.length=1:=by decide
   simp only [PySem.strLen_append,e1,e2]
   lia
  ·rw [Je] at hc
   simp only [mW,aaB] at hc
   have e1:LW.cps.toList=[61]:=by decide
   rw [e1] at hc
   rcases hc with (hc|hc)|((hc|hc)|hc)
   ·exact⟨(h1.2.2 c hc).1,(h1.2.2 c hc).2.1⟩
   ·obtain rfl:c=61:=by simpa using hc
    decide
   ·exact h2.1 c hc
   ·obtain rfl:c=47:=by simpa using hc
    decide
   ·exact h3.1 c hc
def vl(tt bb:Nat)(w:Str):Nat:=open Classical in if h:∃ n,Good tt bb w n then h.choose else 0
theorem DV(hb:1<=bb/\bb<=16)(ht:tt<=15)(h:Good tt bb w n):vl tt bb w=n:=by
 have hx:∃ n,Good tt bb w n:=⟨n,h⟩
 unfold vl
 rw [dif_pos hx]
 exact hx.choose_spec.uniq hb ht h
theorem DW(h:¬ ∃ n,Good tt bb w n):vl tt bb w=0:=by unfold vl;rw [dif_neg h]
theorem sh(hb:1<=bb/\bb<=16)(ht:tt<=15)(h:pw tt bb w):(vl tt bb w=0/\Fg w=none)\/((1<=vl tt bb w/\vl tt bb w<=16)/\∃ p,Fg w=some p/\gD p/\bO p=bO (vl tt bb w,bb)):=by
 rcases h with ⟨n,h⟩|h
 ·rw [DV hb ht h]
  exact .inr ⟨h.pos hb ht,h.rd hb ht⟩
 ·refine .inl ⟨DW fun ⟨n,k⟩=>?_,DU w h⟩
  obtain ⟨p,e,_⟩:=k.rd hb ht
  rw [DU w h] at e
  cases e
theorem pw.sg(hb:1<=bb/\bb<=16)(ht:tt<=15)(h:pw tt bb w):w.length<=40/\32∉w.cps.toList:=by
 rcases h with ⟨n,h⟩|h
 ·exact⟨(h.sg hb ht).1,fun z=>((h.sg hb ht).2 32 z).1 rfl⟩
 ·exact LX w h
end
theorem DX{bb:Nat}(hb:1<=bb/\bb<=16):∀ {vs:List Nat} {ps:List (Nat×Nat)},ps=vs.map (fun v=>bO (v,bb))->(∀ v∈vs,1<=v/\v<=16)->nN ps*vs.sum=bb*A5 ps
 | [],ps,e,_=>by subst e;simp [A5]
 | v::vs,ps,e,h=>by
  subst e
  have ih:=DX hb (vs:=vs) rfl fun x hx=>h x (.tail _ hx)
  have g1:v=v / Nat.gcd v bb*Nat.gcd v bb:=(div_mul_cancel (gcd_dvd_left v bb)).symm
  have g2:bb=bb / Nat.gcd v bb*Nat.gcd v bb:=(div_mul_cancel (gcd_dvd_right v bb)).symm
  have key:bb / Nat.gcd v bb*v=bb*(v / Nat.gcd v bb):=by
   generalize v / Nat.gcd v bb=x at g1 ⊢
   generalize bb / Nat.gcd v bb=y at g2 ⊢
   generalize Nat.gcd v bb=g at g1 g2
   rw [g1,g2]
   ac_rfl
  simp only [map_cons,sum_cons,nN,A5,bO]
  simp only [bO] at ih
  generalize vs.sum=S at ih ⊢
  generalize nN (vs.map fun v=>(v / Nat.gcd v bb,bb / Nat.gcd v bb))=P at ih ⊢
  generalize A5 (vs.map fun v=>(v / Nat.gcd v bb,bb / Nat.gcd v bb))=T at ih ⊢
  generalize v / Nat.gcd v bb=x at key ⊢
  generalize bb / Nat.gcd v bb=y at key ⊢
  rw [mul_add,mul_add,show y*P*v=(y*v)*P by ac_rfl,key,show y*P*S=y*(P*S) by ac_rfl,ih]
  ac_rfl
theorem LZ{tt bb n d:Nat}{vs:List Nat}(hb:1<=bb/\bb<=16)(ht:4<=tt/\tt<=15)(h:∀ v∈vs,1<=v/\v<=16)(hL:Bq (vs.map fun v=>bO (v,bb)) n d):(n,d)=bO (tt,bb)↔vs.sum=tt:=by
 have hg:gD (tt,bb):=⟨by show 0<tt/\tt<=9999;lia,by show 0<bb/\bb<=9999;lia⟩
 have hgs:∀ p∈vs.map (fun v=>bO (v,bb)),gD p:=fun p hp=>by
  obtain ⟨v,hv,rfl⟩:=aaH.mp hp
  have:=h v hv
  exact kx ⟨by show 0<v/\v<=9999;lia,by show 0<bb/\bb<=9999;lia⟩
 have tI:=wG _ fun p hp=>(hgs p hp).2.1
 have e:=DX hb rfl h
 obtain ⟨a',ea⟩:=gcd_dvd_left tt bb
 obtain ⟨b',eb⟩:=gcd_dvd_right tt bb
 have hG:0<Nat.gcd tt bb:=Nat.gcd_pos_of_pos_right _ (by lia)
 have q1:tt / Nat.gcd tt bb=a':=Nat.div_eq_of_eq_mul_right hG ea
 have q2:bb / Nat.gcd tt bb=b':=Nat.div_eq_of_eq_mul_right hG eb
 generalize hP:nN (vs.map fun v=>bO (v,bb))=P at *
 generalize hT:A5 (vs.map fun v=>bO (v,bb))=T at *
 constructor
 ·intro q
  have hn:n=a':=(congrArg Prod.fst q).trans q1
  have hd:d=b':=(congrArg Prod.snd q).trans q2
  have l3:=hL.2.2
  rw [hP,hT,hn,hd] at l3
  apply Nat.eq_of_mul_eq_mul_left tI
  rw [e]
  apply Nat.eq_of_mul_eq_mul_left (show 0<b' by rw [<- q2];exact (kx hg).2.1)
  rw [show b'*(bb*T)=bb*(b'*T) by ac_rfl,<- l3]
  generalize Nat.gcd tt bb=g at *
  rw [eb,ea]
  ac_rfl
 ·intro q
  rw [q] at e
  have Vw:Bq (vs.map fun v=>bO (v,bb)) (bO (tt,bb)).1 (bO (tt,bb)).2:=by
   refine⟨(kx hg).2.1,Jb hg,?_⟩
   rw [hP,hT]
   show tt / Nat.gcd tt bb*P=bb / Nat.gcd tt bb*T
   rw [q1,q2]
   apply Nat.eq_of_mul_eq_mul_left hG
   rw [<- mul_assoc,<- mul_assoc,<- ea,<- eb,Nat.mul_comm tt]
   exact e
  obtain ⟨e1,e2⟩:=hL.uniq Vw (by rw [hP];exact tI)
  exact Prod.ext e1 e2
def qG:List (List (List Nat))->List (List Nat)
 | []=>[]
 | [x]=>x
 | x::y::r=>x++[124]::qG (y::r)
theorem Nj{c:Nat}:∀ {a b:List (List Nat)},a≠[]->b≠[]->bw.J c (a++b)=bw.J c a++c::bw.J c b
 | [],_,h,_=>absurd rfl h
 | [x],b,_,hb=>bw.Hr c x hb
 | x::y::r,b,_,hb=>by
  show x++c::bw.J c ((y::r)++b)=(x++c::bw.J c (y::r))++c::bw.J c b
  rw [Nj (a:=y::r) (cons_ne_nil _ _) hb]
  simp
theorem Jf:∀ {l:List (List (List Nat))},l≠[]->(∀ x∈l,x≠[])->qG l≠[]
 | [],h,_=>absurd rfl h
 | [x],_,h=>h x (.head _)
 | x::y::r,_,_=>by show x++[124]::qG (y::r)≠[];simp
theorem z6:∀ {l:List (List (List Nat))},(∀ x∈l,x≠[])->bw.JL [32,124,32] (l.map (bw.J 32))=bw.J 32 (qG l)
 | [],_=>rfl
 | [x],_=>rfl
 | x::y::r,h=>by
  have ih:=z6 (l:=y::r) fun z hz=>h z (.tail _ hz)
  have hn:qG (y::r)≠[]:=Jf (cons_ne_nil _ _) fun z hz=>h z (.tail _ hz)
  show bw.J 32 x++([32,124,32]++bw.JL [32,124,32] ((y::r).map (bw.J 32)))=bw.J 32 (x++[124]::qG (y::r))
  rw [ih,Nj (h x (.head _)) (cons_ne_nil _ _),bw.Hr 32 [124] hn]
  simp
theorem DY:∀ {l:List (List (List Nat))} {x:List (List Nat)} {w:List Nat},x∈l->w∈x->w∈qG l
 | [y],x,w,hx,hw=>by
  obtain rfl:x=y:=by simpa using hx
  exact hw
 | y::z::r,x,w,hx,hw=>by
  show w∈y++[124]::qG (z::r)
  rcases aaG.mp hx with rfl|hx
  ·exact aaz _ hw
  ·exact aay _ (.tail _ (DY hx hw))
theorem xo:∀ {l:List (List (List Nat))} {w:List Nat},w∈qG l->w=[124]\/∃ x∈l,w∈x
 | [],w,h=>nomatch h
 | [y],w,h=>.inr ⟨y,.head _,h⟩
 | y::z::r,w,h=>by
  have h:w∈y++[124]::qG (z::r):=h
  rcases aaB.mp h with h|h
  ·exact .inr ⟨y,.head _,h⟩
  ·rcases aaG.mp h with h|h
   ·exact .inl h
   ·rcases xo h with e|⟨x,hx,hw⟩
    ·exact .inl e
    ·exact .inr ⟨x,.tail _ hx,hw⟩
abbrev gZ:Str:=⟨#[32]⟩
def dy:Str:=PySem.Str.ofString " | "
theorem L6:dy.cps.toList=[32,124,32]:=by decide
def tJ(bz:List (List Str)):Str:=PySem.Str.join dy (bz.map (PySem.Str.join gZ))
def Fh(bz:List (List Str)):List (List (List Nat)):=bz.map fun ws=>ws.map fun w=>w.cps.toList
theorem xp(bz:List (List Str))(h:∀ ws∈bz,ws≠[]):(tJ bz).cps.toList=bw.J 32 (qG (Fh bz)):=by
 unfold tJ
 rw [bw.vJ,L6,aaR]
 rw [<- z6 (fun x hx=>by
  obtain ⟨ws,hw,rfl⟩:=aaH.mp hx
  simpa using h ws hw)]
 unfold Fh
 rw [aaR]
 congr 1
 refine aan fun ws _=>?_
 show (PySem.Str.join ⟨#[32]⟩ ws).cps.toList=_
 exact bw.zx 32 ws
theorem DZ{tt bb:Nat}{bz:List (List Str)}(hb:1<=bb/\bb<=16)(ht:tt<=15)(h0:bz≠[])(h1:∀ ws∈bz,ws≠[])(h:∀ ws∈bz,∀ w∈ws,pw tt bb w) :
  qG (Fh bz)=qG (Fh ((PySem.Txt.split (tJ bz) dy).map fun z=>PySem.Txt.split z gZ))/\∀ ws∈(PySem.Txt.split (tJ bz) dy).map (fun z=>PySem.Txt.split z gZ),ws≠[]:=by
 have e1:=xp bz h1
 let P:=PySem.Txt.split (tJ bz) dy
 have hP:P=PySem.Txt.split (tJ bz) dy:=rfl
 have eP:tJ (P.map fun z=>PySem.Txt.split z gZ)=tJ bz:=by
  unfold tJ
  rw [aaR]
  rw [show P.map (PySem.Str.join gZ ∘ fun z=>PySem.Txt.split z gZ)=P from (aan (g:=id) fun x _=>PySem.StrLaws.join_split x gZ).trans (List.map_id _)]
  exact PySem.StrLaws.join_split _ _
 have Hf:∀ ws∈P.map (fun z=>PySem.Txt.split z gZ),ws≠[]:=fun ws hw q=>by
  obtain ⟨x,_,rfl⟩:=aaH.mp hw
  have:=split_pos x gZ
  rw [q] at this
  cases this
 have e2:=xp _ Hf
 rw [eP,e1] at e2
 have hP0:P≠[]:=fun q=>by
  have:=split_pos (tJ bz) dy
  rw [<- hP,q] at this
  cases this
 have nb:∀ (l:List (List Str)),(∀ ws∈l,∀ w∈ws,32∉w.cps.toList)->∀ x∈qG (Fh l),32∉x:=fun l hl x hx=>by
  rcases xo hx with rfl|⟨y,hy,TQ⟩
  ·decide
  ·obtain ⟨ws,oj,rfl⟩:=aaH.mp hy
   obtain ⟨v,hv,rfl⟩:=aaH.mp TQ
   exact hl ws oj v hv
 have ne:∀ (l:List (List Str)),l≠[]->(∀ ws∈l,ws≠[])->qG (Fh l)≠[]:=fun l hl MM=>Jf (by unfold Fh;simpa using hl) fun x hx=>by
  obtain ⟨ws,oj,rfl⟩:=aaH.mp hx
  simpa using MM ws oj
 refine⟨?_,Hf⟩
 exact bw.MY (ne bz h0 h1) (ne _ (by simpa using hP0) Hf) (nb bz fun ws oj v hv=>((h ws oj v hv).sg hb ht).2) (nb _ fun ws oj v hv=>by
  obtain ⟨x,_,rfl⟩:=aaH.mp oj
  exact PySem.StrLaws.split_free x 32 v hv) e2
theorem Fi{tt bb:Nat}{bz:List (List Str)}(hb:1<=bb/\bb<=16)(ht:tt<=15)(h0:bz≠[])(h1:∀ ws∈bz,ws≠[])(h:∀ ws∈bz,∀ w∈ws,pw tt bb w) :
  ∀ z∈PySem.Txt.split (tJ bz) dy,∀ w∈PySem.Txt.split z gZ,pw tt bb w:=by
 intro z hz w hw
 have eq:=(DZ hb ht h0 h1 h).1
 let P:=PySem.Txt.split (tJ bz) dy
 have hm:w.cps.toList∈qG (Fh (P.map fun z=>PySem.Txt.split z gZ)):=DY (x:=(PySem.Txt.split z gZ).map fun w=>w.cps.toList) (aaH.mpr ⟨PySem.Txt.split z gZ,aaH.mpr ⟨z,hz,rfl⟩,rfl⟩) (aaH.mpr ⟨w,hw,rfl⟩)
 rw [<- eq] at hm
 rcases xo hm with e|⟨y,hy,TQ⟩
 ·right
  rw [show w=PySem.Str.ofString "|" from B4 (e.trans (by decide))]
  decide
 ·obtain ⟨ws,oj,rfl⟩:=aaH.mp hy
  obtain ⟨v,hv,e⟩:=aaH.mp TQ
  rw [show w=v from (B4 e).symm]
  exact h ws oj v hv
def mY:List Nat->Bool
 | []=>true
 | [_]=>true
 | a::b::r=>!(a == 58 && b == 32) && mY (b::r)
theorem si{c:Nat}{l:List Nat}(hc:c≠58)(h:mY l=true):mY (c::l)=true:=by
 cases l with
 | nil=>rfl
 | cons b r =>
  show (!(c == 58 && b == 32) && mY (b::r))=true
  rw [beq_eq_false_iff_ne.mpr hc,h];rfl
theorem mZ:∀ {l:List Nat},58∉l->mY l=true
 | [],_=>rfl
 | c::l,h=>si (fun z=>h (by rw [z];exact .head _)) (mZ fun z=>h (.tail _ z))
theorem qS:∀ {a b:List Nat},mY a=true->mY b=true->a.getLast?≠some 58->mY (a++b)=true
 | [],b,_,hb,_=>hb
 | [c],b,_,hb,hl=>si (fun z=>hl (by rw [z];rfl)) hb
 | c::d::r,b,ha,hb,hl=>by
  have ha:(!(c == 58 && d == 32) && mY (d::r))=true:=ha
  rw [Bool.and_eq_true] at ha
  show (!(c == 58 && d == 32) && mY ((d::r)++b))=true
  rw [ha.1,qS ha.2 hb (by rw [List.getLast?_cons_cons] at hl;exact hl)];rfl
theorem Jg:∀ {l:List Nat} {i:Nat},mY l=true->l[i]?=some 58->l[i+1]?≠some 32
 | [],i,_,h=>by simp at h
 | [c],i,_,_=>by simp
 | c::d::r,0,h,e=>by
  have h:(!(c == 58 && d == 32) && mY (d::r))=true:=h
  rw [Bool.and_eq_true] at h
  intro z
  have e1:c=58:=by simpa using e
  have e2:d=32:=by simpa using z
  rw [e1,e2] at h
  exact absurd h.1 (by decide)
 | c::d::r,i+1,h,e=>by
  have h:(!(c == 58 && d == 32) && mY (d::r))=true:=h
  rw [Bool.and_eq_true] at h
  have:=Jg (i:=i) h.2 (by simpa using e)
  simpa using this
abbrev k8:Str:=PySem.Str.ofString ": "
theorem D4:k8.cps.toList=[58,32]:=by decide
theorem L7{z:Str}(h:mY z.cps.toList=true):PySem.Txt.partition z k8=(z,PySem.Str.empty,PySem.Str.empty):=by
 unfold PySem.Txt.partition
 rcases PySem.StrLaws.occ_head z k8 1 (aai 1) with ⟨h0,hn⟩|⟨j,q,h0,hj,hn⟩
 ·rw [h0]
 ·have a:=bw.Bt (j:=0) hj (show k8.cps.toList[0]?=some 58 by rw [D4];rfl)
  have b:=bw.Bt (j:=1) hj (show k8.cps.toList[1]?=some 32 by rw [D4];rfl)
  exact absurd b (Jg h a)
theorem Jh:∀ w∈B3,mY w.cps.toList=true/\w.cps.toList.getLast?≠some 58:=by decide +kernel
theorem pw.mY{tt bb:Nat}{w:Str}(hb:1<=bb/\bb<=16)(ht:tt<=15)(h:pw tt bb w):Law.mY w.cps.toList=true/\w.cps.toList.getLast?≠some 58:=by
 rcases h with ⟨n,h⟩|h
 ·have no:58∉w.cps.toList:=fun z=>((h.sg hb ht).2 58 z).2 rfl
  exact⟨mZ no,fun z=>no (List.mem_of_getLast? z)⟩
 ·exact Jh w h
theorem Nk:∀ {l:List (List Nat)},(∀ x∈l,mY x=true/\x.getLast?≠some 58)->mY (bw.J 32 l)=true
 | [],_=>rfl
 | [x],h=>(h x (.head _)).1
 | x::y::r,h=>by
  show mY (x++32::bw.J 32 (y::r))=true
  exact qS (h x (.head _)).1 (si (by decide) (Nk (l:=y::r) fun z hz=>h z (.tail _ hz))) (h x (.head _)).2
theorem L8{tt bb:Nat}{bz:List (List Str)}(hb:1<=bb/\bb<=16)(ht:tt<=15)(h1:∀ ws∈bz,ws≠[])(h:∀ ws∈bz,∀ w∈ws,pw tt bb w):mY (tJ bz).cps.toList=true:=by
 rw [xp bz h1]
 refine Nk fun x hx=>?_
 rcases xo hx with rfl|⟨y,hy,TQ⟩
 ·decide
 ·obtain ⟨ws,oj,rfl⟩:=aaH.mp hy
  obtain ⟨v,hv,rfl⟩:=aaH.mp TQ
  exact (h ws oj v hv).mY hb ht
def A6(tt bb:Nat)(z:Str):List Nat:=(PySem.Txt.split z gZ).map (vl tt bb)
def B5(tt bb:Nat)(z:Str):Res:=Jc tt ((PySem.Txt.split z dy).map (A6 tt bb))
theorem z7{tt k:Nat}{ps:List Nat}{r:List (List Nat)}:jj tt k (ps::r)=match jj tt k [ps] with
  | .read=>jj tt (k+1) r
  | o=>o:=by
 have e:∀ q,jj tt k (ps::q)=if 24<ps.length then .bar k else if 0∈ps then .note k (B2 ps) else if ps.sum=tt then jj tt (k+1) q else .bar k:=fun q=>rfl
 rw [e,e]
 by_cases h1:24<ps.length
 ·rw [if_pos h1,if_pos h1]
 ·rw [if_neg h1,if_neg h1]
  by_cases h2:0∈ps
  ·rw [if_pos h2,if_pos h2]
  ·rw [if_neg h2,if_neg h2]
   by_cases h3:ps.sum=tt
   ·rw [if_pos h3,if_pos h3];rfl
   ·rw [if_neg h3,if_neg h3]
theorem z8{tt k:Nat}{ps:List Nat}:jj tt k [ps]=if 24<ps.length then .bar k else if 0∈ps then .note k (B2 ps) else if ps.sum=tt then .read else .bar k:=rfl
theorem rM{z y a m c:Str}(h:PySem.Txt.partition z y=(a,m,c)):a.length<=z.length/\c.length<=z.length:=by
 have e:=PySem.StrLaws.partition_sum z y
 rw [h] at e
 have:=congrArg PySem.Str.length e
 rw [PySem.strLen_append,PySem.strLen_append] at this
 dsimp only at this
 lia
section
variable {H:Hp}{e dx:Addr}{a b c d:HO}
theorem sj(ne:H e=none)(nd:upd H e a dx=none):ah H (L2.del (upd (upd (upd H e a) dx b) e c) e):=fun x o h=>by
 have n1:x≠e:=fun z=>by rw [z,ne] at h;cases h
 have n2:x≠dx:=fun z=>by rw [z] at h n1;rw [ar n1,h] at nd;cases nd
 rw [fK n1,ar n1,ar n2,ar n1];exact h
theorem lO(ne:H e=none)(nd:upd H e a dx=none):ah H (L2.del (upd (upd (upd (upd H e a) dx b) e c) dx d) e):=fun x o h=>by
 have n1:x≠e:=fun z=>by rw [z,ne] at h;cases h
 have n2:x≠dx:=fun z=>by rw [z] at h n1;rw [ar n1,h] at nd;cases nd
 rw [fK n1,ar n2,ar n1,ar n2,ar n1];exact h
end
def Ki(K:Frag)(H:Hp)(v:V)(p:Nat×Nat):Prop:=∃ q x l,v=.ref q/\bh K H q [x,.ref l]/\bh K H l ((Bp.r2 p).map V.int)
theorem Ki.same{K:Frag}{H H':Hp}(s:ah H H')(v:V)(p:Nat×Nat):Ki K H v p->Ki K H' v p:=fun ⟨q,x,l,e,a,b⟩=>⟨q,x,l,e,s.at a,s.at b⟩
theorem Ki.off{K:Frag}{H:Hp}{o:Addr}{ys zs:List V}(h:H o=some (.lst ys))(v:V)(p:Nat×Nat):Ki K H v p->Ki K (upd H o (.lst zs)) v p:=fun ⟨q,x,l,e,a,b⟩=>⟨q,x,l,e,mM a h,mM b h⟩
theorem iw{α:Type}{l:List α}{j:Nat}{x:α}(h:l[j]?=some x):l.take (j+1)=l.take j++[x]:=by rw [List.take_add_one,h];rfl
def Nl:Res->List V
 | .gv=>[.str "tune",.bl false,.bl true]
 | .bar k=>[.str "bar",.int (k:Nat),.bl false,.bl true]
 | .note k j=>[.str "note",.int (k:Nat),.int (j:Nat),.bl false,.bl true]
 | .read=>[.str "read"]
theorem nc{K:Frag}{C:Addr}:∀ {Ds:List Addr},(∀ D∈Ds,PySem.W.kitOne K (.ref C) (.ref D)=some false)->PySem.W.kitAny K (.ref C) (Ds.map Value.ref)=some false
 | [],_=>rfl
 | D::Ds,h=>by
  show PySem.W.kitAny K (.ref C) (.ref D::Ds.map Value.ref)=some false
  unfold PySem.W.kitAny
  rw [h D (.head _)]
  exact nc fun E hE=>h E (.tail _ hE)
theorem B6{P:V->Prop}{xs:List V}{i:Int}{H:Hp}{p:Addr}(_:H p=some (.lst xs))(h:∀ v∈xs,P v)(h0:0<=i)(h1:i<xs.length):∃ v,Dm xs i=some v/\P v:=by
 obtain ⟨k,rfl⟩:∃ k:Nat,i=k:=⟨i.toNat,by lia⟩
 have hk:k<xs.length:=by lia
 exact⟨xs[k],iG (aax hk),h _ (aaY hk)⟩
def Kj:Res->List V
 | .gv=>[.str "tune"]
 | .bar k=>[.str "bar",.int (k:Nat)]
 | .note k j=>[.str "note",.int (k:Nat),.int (j:Nat)]
 | .read=>[.str "read"]
def nI(ps:List Nat):List Int:=ps.map fun n:Nat=>(n:Int)
theorem PM(ps:List Nat):((nI ps).map V.int).length=ps.length:=by unfold nI;rw [aaD,aaD]
theorem Ji(ps:List Nat)(i:Nat):(nI ps)[i]?=(ps[i]?).map fun n:Nat=>(n:Int):=by unfold nI;rw [aaP]
def L9(K:Frag)(H:Hp)(v:V)(ps:List Nat):Prop:=∃ a,v=.ref a/\bA K H a ((nI ps).map V.int)
theorem Jj:∀ ps:List Nat,(nI ps).sum=(ps.sum:Int)
 | []=>rfl
 | n::r=>by
  show (n:Int)+(nI r).sum=((n+r.sum:Nat):Int)
  rw [Jj r];lia
theorem xq:∀ {ps:List Nat},0∈ps->ps[B2 ps]?=some 0/\∀ i,i<B2 ps->ps[i]?≠some 0
 | [],h=>nomatch h
 | n::r,h=>by
  by_cases hn:n=0
  ·have e:B2 (n::r)=0:=by show (if n=0 then 0 else B2 r+1)=0;rw [if_pos hn]
   rw [e,hn]
   exact⟨rfl,fun i hi=>absurd hi (Nat.not_lt_zero _)⟩
  ·have e:B2 (n::r)=B2 r+1:=by show (if n=0 then 0 else B2 r+1)=_;rw [if_neg hn]
   have hr:0∈r:=by
    rcases aaG.mp h with z|z
    ·exact absurd z.symm hn
    ·exact z
   obtain ⟨h1,h2⟩:=xq hr
   rw [e]
   refine⟨by simpa using h1,fun i hi=>?_⟩
   cases i with
   | zero=>intro z;exact hn (by simpa using z)
   | succ i=>simpa using h2 i (by lia)
theorem PN:∀ {ps:List Nat},0∈ps->B2 ps<ps.length:=fun {ps} h=>(aad.mp (xq h).1).1
theorem L9.same{K:Frag}{H H':Hp}(s:ah H H')(v:V)(ps:List Nat):L9 K H v ps->L9 K H' v ps:=fun ⟨a,e,h⟩=>⟨a,e,s.seq h⟩
theorem z9{K:Frag}{H:Hp}:∀ ps:List Nat,Tells K H ((nI ps).map V.int) (ps.map fun n:Nat=>PyData.int (n:Int))
 | []=>.nil
 | n::r=>.cons (.int _) (z9 r)
theorem Jk:∀ ps:List Nat,PyData.canLayAll0 (ps.map fun n:Nat=>PyData.int (n:Int))=true
 | []=>rfl
 | n::r=>by
  show (PyData.canLay0 (.int (n:Int)) && PyData.canLayAll0 (r.map fun n:Nat=>PyData.int (n:Int)))=true
  rw [Jk r];rfl
theorem Jl:∀ ps:List Nat,((ps.map fun n:Nat=>PyData.int (n:Int)).any fun z=>PyData.eqv z (.int 0))=decide (0∈ps)
 | []=>rfl
 | n::r=>by
  rw [map_cons,any_cons,Jl r]
  have e:PyData.eqv (.int (n:Int)) (.int 0)=decide ((n:Int)=0):=by
   show ((n:Int) == 0)=_
   by_cases h:(n:Int)=0
   ·rw [h];rfl
   ·rw [beq_eq_false_iff_ne.mpr h,aar h]
  rw [e]
  by_cases hn:n=0
  ·subst hn;simp
  ·have h1:¬ (n:Int)=0:=by lia
   have h2:¬ 0=n:=fun z=>hn z.symm
   rw [aar h1,Bool.false_or]
   exact decide_eq_decide.mpr ⟨fun z=>.tail _ z,fun z=>(aaG.mp z).elim (fun y=>absurd y h2) id⟩
def PQ(tt bb:Nat)(aC:List (Key×V)):Prop:=∀ (w:Str) (v:V),dS aC (.inr w)=some v->∃ n:Nat,v=.int (n:Int)/\Good tt bb w n
def B7(aC:List (Key×V))(w:Str):Prop:=dS aC (.inr w)≠none
theorem PQ.put{tt bb n:Nat}{aC:List (Key×V)}{w:Str}(h:PQ tt bb aC)(g:Good tt bb w n):PQ tt bb (putK aC (.inr w) (.int (n:Int))):=fun x v e=>by
 rw [zG] at e
 split at e
 ·rename_i q
  cases e
  cases q
  exact⟨n,rfl,g⟩
 ·exact h x v e
theorem B7.put{aC:List (Key×V)}{w x:Str}{v:V}(h:B7 aC x\/x=w):B7 (putK aC (.inr w) v) x:=by
 unfold B7
 rw [zG]
 split
 ·exact fun z=>nomatch z
 ·rename_i q
  rcases h with h|h
  ·exact h
  ·exact absurd (by rw [h]) q
theorem PQ.fin{tt bb:Nat}{aC:List (Key×V)}(hb:1<=bb/\bb<=16)(ht:tt<=15)(h:PQ tt bb aC)(h1:B7 aC Ni)(h2:∀ s∈zZ,∀ q,1<=q->q<=tt->B7 aC (gw s q bb))(w:Str):(dS aC (.inr w)).getD (.int 0)=.int ((vl tt bb w:Nat):Int):=by
 cases e:dS aC (.inr w) with
 | some v =>
  obtain ⟨n,rfl,g⟩:=h w v e
  rw [DV hb ht g];rfl
 | none =>
  rw [DW]
  ·rfl
  rintro ⟨n,g⟩
  rcases g with ⟨rfl,_⟩|⟨s,hs,hn,rfl⟩
  ·exact h1 e
  ·exact h2 s hs n hn.1 hn.2 e
def PR(tt bb:Nat)(H:Hp)(d:Addr):Prop:=∃ aC,H d=some (.dK aC)/\∀ w:Str,(dS aC (.inr w)).getD (.int 0)=.int ((vl tt bb w:Nat):Int)
theorem PR.same{tt bb:Nat}{H H':Hp}{d:Addr}(s:ah H H'):PR tt bb H d->PR tt bb H' d:=fun ⟨aC,e,h⟩=>⟨aC,s _ _ e,h⟩
theorem om{n:Nat}(h:n<=9999):((n:Nat):Int).natAbs.log2<1920:=by
 show n.log2<1920
 rcases Nat.eq_zero_or_pos n with rfl|h0
 ·decide
 ·exact (log2_lt (by lia)).mpr (aaJ h (by decide +kernel))
def Gh(K:Frag)(o:Addr)(H:Hp)(v:V)(ps:List Nat):Prop:=∃ a,v=.ref a/\a≠o/\H a=some (.lst ((nI ps).map V.int))
theorem Gh.same{K:Frag}{o:Addr}{H H':Hp}(s:ah H H')(v:V)(ps:List Nat):Gh K o H v ps->Gh K o H' v ps:=fun ⟨a,e,n,h⟩=>⟨a,e,n,s _ _ h⟩
theorem Gh.off{K:Frag}{o:Addr}{H:Hp}{x:HO}(v:V)(ps:List Nat):Gh K o H v ps->Gh K o (upd H o x) v ps:=fun ⟨a,e,n,h⟩=>⟨a,e,n,by rw [ar n];exact h⟩
theorem Gh.ls{K:Frag}{o:Addr}{H:Hp}(v:V)(ps:List Nat):Gh K o H v ps->L9 K H v ps:=fun ⟨a,e,_,h⟩=>⟨a,e,bA.of h⟩
def A7(H:Hp)(v:V)(ws:List Str):Prop:=∃ a,v=.ref a/\H a=some (.lst (ws.map V.str))
def Gi(o:Addr)(H:Hp)(v:V)(ws:List Str):Prop:=∃ a,v=.ref a/\a≠o/\H a=some (.lst (ws.map V.str))
theorem A7.same{H H':Hp}(s:ah H H')(v:V)(ws:List Str):A7 H v ws->A7 H' v ws:=fun ⟨a,e,h⟩=>⟨a,e,s _ _ h⟩
theorem Gi.same{o:Addr}{H H':Hp}(s:ah H H')(v:V)(ws:List Str):Gi o H v ws->Gi o H' v ws:=fun ⟨a,e,n,h⟩=>⟨a,e,n,s _ _ h⟩
theorem Gi.off{o:Addr}{H:Hp}{x:HO}(v:V)(ws:List Str):Gi o H v ws->Gi o (upd H o x) v ws:=fun ⟨a,e,n,h⟩=>⟨a,e,n,by rw [ar n];exact h⟩
theorem Gi.br{o:Addr}{H:Hp}(v:V)(ws:List Str):Gi o H v ws->A7 H v ws:=fun ⟨a,e,_,h⟩=>⟨a,e,h⟩
def sk(tt bb N:Nat)(bz:List (List Str)):Prop:=(1<=bz.length/\bz.length<=5)/\∀ ws∈bz,(1<=ws.length/\ws.length<=N)/\∀ w∈ws,pw tt bb w
theorem TR{i:Int}(h0:0<=i)(h1:i<7):∃ s,s∈zZ/\Dm (zZ.map V.str) i=some (.str s):=by
 obtain ⟨k,rfl⟩:∃ k:Nat,i=k:=⟨i.toNat,by lia⟩
 have hk:k<zZ.length:=by show k<7;lia
 exact⟨zZ[k],aaY hk,iG (by rw [aaP,aax hk];rfl)⟩
theorem PU{c:TT}{A B:TS}{D:Ends}{σ:St}{H:Hp}(b:Bool)(h1:∀ Q':Bool->Hp->Prop,Q' b H->c σ H Q')(h2:if b=true then A D σ H else B D σ H):NI c A B D σ H:=h1 _ h2
theorem D5{n j:Nat}(h:j<n):Ke n (j:Int)=some j:=by
 unfold Ke
 rw [if_pos (by lia),if_pos (by lia),aaZ]
theorem vX{α β:Type}(f:α->β):∀ (l:List α) (k:Nat),(l.eraseIdx k).map f=(l.map f).eraseIdx k
 | [],_=>rfl
 | _::_,0=>rfl
 | x::l,k+1=>congrArg (f x::·) (vX f l k)
section
variable {α:Type}{P:V->α->Prop}
theorem xr:∀ {xs ys:List V} {as bs:List α},Fa P xs as->Fa P ys bs->Fa P (xs++ys) (as++bs)
 | _,_,_,_,.nil,k=>k
 | _,_,_,_,.cons h t,k=>.cons h (xr t k)
theorem xt:∀ {xs:List V} {as:List α} (n:Nat),Fa P xs as->Fa P (xs.take n) (as.take n)
 | _,_,0,_=>by rw [take_zero,take_zero];exact .nil
 | _,_,_+1,.nil=>.nil
 | _,_,n+1,.cons h t=>.cons h (xt n t)
theorem D6:∀ {xs:List V} {as:List α} (n:Nat),Fa P xs as->Fa P (xs.drop n) (as.drop n)
 | _,_,0,h=>h
 | _,_,_+1,.nil=>.nil
 | _,_,n+1,.cons _ t=>D6 n t
theorem Jm{xs:List V}{as:List α}(h:Fa P xs as):∀ n:Nat,Fa P (List.replicate n xs).flatten (List.replicate n as).flatten
 | 0=>.nil
 | n+1=>by
  rw [replicate_succ,flatten_cons,replicate_succ,flatten_cons]
  exact xr h (Jm h n)
end
theorem PV{H:Hp}{Q:VK}{l:Addr}{xs:List V}{k:Int}(e:H l=some (.lst xs))(hk:-1000<=k/\k<=1000)(hn:xs.length*k.toNat<=1000)(h:∀ p H2,H p=none->ah H H2->H2 p=some (.lst (List.replicate k.toNat xs).flatten)->Q (.ref p) H2):Oc (.ref l) (.int k) H Q :=
 ⟨l,k,xs,rfl,rfl,e,by lia,by lia,aah hn (by decide),fun p hp=>h p _ hp (ah.aW hp) ao⟩
theorem D7(s:Str):∀ n:Nat,(List.replicate n [V.str s]).flatten=(List.replicate n s).map V.str
 | 0=>rfl
 | n+1=>by rw [replicate_succ,flatten_cons,D7 s n];rfl
theorem ff{Q:VK}{H:Hp}{z y:Str}{a b:Nat}(hz:z.length<=a)(hy:y.length<=b)(UM:a+b<=200000)(h:∀ x:Str,x=z++y->x.length<=a+b->Q (.str x) H):DH (.str z) (.str y) H Q:=BJ (aah (show z.length+y.length<=200000 by lia) (by decide +kernel)) (h _ rfl (by rw [PySem.strLen_append];lia))
def Et:List Str:=["","0/4","3","3/4 "," 3/4","03/4","10000/1","3//4","-3/4"]
theorem PX:∀ s∈Et,(s.length<=10/\58∉s.cps.toList)/\bo.lj s 4=none:=by decide +kernel
def TU(kd:Int)(h b z:Str):Prop:=∃ a m c,PySem.Txt.partition z k8=(a,m,c)/\(kd=1->m=PySem.Str.empty)/\(kd=2->a.length<=1000/\m≠PySem.Str.empty/\bo.lj a 4=none)/\(kd≠1->kd≠2->a=h/\m=k8/\c=b)
theorem Aa{h b:Str}(hh:58∉h.cps.toList):PySem.Txt.partition (h++k8++b) k8=(h,k8,b):=bw.mH (c:=58) (i:=0) (u:=[]) (by decide) (by decide) rfl (fun z=>nomatch z) hh
theorem TU.one{h b z:Str}(e:mY z.cps.toList=true):TU 1 h b z:=⟨_,_,_,L7 e,fun _=>rfl,fun z=>absurd z (by decide),fun z=>absurd rfl z⟩
theorem xu{h b m:Str}(hh:58∉h.cps.toList)(hb:mY b.cps.toList=true)(hm:mY m.cps.toList=true)(hl:m.cps.toList.getLast?≠some 58):mY (h++m++b).cps.toList=true:=by
 rw [mW,mW,append_assoc]
 exact qS (mZ hh) (qS hm hb hl) fun z=>hh (List.mem_of_getLast? z)
theorem Jn:∀ {l:List (List (List Nat))},(∀ x∈l,x≠[])->l.length<=(qG l).length/\∀ x∈l,x.length<=(qG l).length
 | [],_=>⟨aai _,fun _ z=>nomatch z⟩
 | [x],h=>by
  have:=List.length_pos_iff.mpr (h x (.head _))
  exact⟨this,fun y hy=>by rw [aaA.mp hy];exact aai _⟩
 | x::y::r,h=>by
  have ih:=Jn (l:=y::r) fun z hz=>h z (.tail _ hz)
  have e:(qG (x::y::r)).length=x.length+((qG (y::r)).length+1):=by
   show (x++[124]::qG (y::r)).length=_
   rw [aaE];rfl
  rw [e]
  refine⟨by rw [length_cons];have:=ih.1;lia,fun z hz=>?_⟩
  rcases aaG.mp hz with rfl|hz
  ·lia
  ·have:=ih.2 z hz
   lia
theorem Jo{N:Nat}:∀ {l:List (List (List Nat))},(∀ x∈l,x.length<=N)->(qG l).length<=l.length*(N+1)
 | [],_=>aaT _
 | [x],h=>by
  have:=h x (.head _)
  show x.length<=1*(N+1)
  lia
 | x::y::r,h=>by
  have ih:=Jo (N:=N) (l:=y::r) fun z hz=>h z (.tail _ hz)
  have:=h x (.head _)
  have e:(qG (x::y::r)).length=x.length+((qG (y::r)).length+1):=by
   show (x++[124]::qG (y::r)).length=_
   rw [aaE];rfl
  rw [e,length_cons,Nat.succ_mul]
  lia
theorem xv{b:Nat}:∀ {l:List Str},(∀ z∈l,z.length<=b)->(l.map (·.length)).sum<=b*l.length
 | [],_=>by simp
 | z::l,h=>by
  have h1:=h z (.head _)
  have h2:=xv (l:=l) (b:=b) fun y hy=>h y (.tail _ hy)
  rw [map_cons,sum_cons,length_cons,mul_add]
  lia
theorem oq(x:Str):∀ l:List Str,(Str.join x l).length<=(l.map (·.length)).sum+x.length*l.length
 | []=>by show 0<=_;exact aaT _
 | [z]=>by
  show z.length<=_
  rw [map_cons,sum_cons]
  lia
 | z::y::l=>by
  have:=oq x (y::l)
  have e:Str.join x (z::y::l)=z++x++Str.join x (y::l):=rfl
  rw [e,PySem.strLen_append,PySem.strLen_append,map_cons,sum_cons,length_cons,mul_add]
  lia
theorem Ab(x:Str):∀ {l:List Str} {p:Str},p∈l->p.length<=(Str.join x l).length
 | [z],p,h=>by rw [aaA.mp h];exact aai _
 | z::y::l,p,h=>by
  have e:Str.join x (z::y::l)=z++x++Str.join x (y::l):=rfl
  rw [e,PySem.strLen_append,PySem.strLen_append]
  rcases aaG.mp h with rfl|h
  ·lia
  ·have:=Ab x h
   lia
def TV(tt bb:Nat)(bz:List (List Str)):Prop:=(1<=bz.length/\bz.length<=41)/\∀ ws∈bz,(1<=ws.length/\ws.length<=31)/\∀ w∈ws,pw tt bb w
section
variable {tt bb:Nat}{bz:List (List Str)}
theorem D8{ws:List Str}(hb:1<=bb/\bb<=16)(ht:tt<=15)(h1:ws.length<=31)(h:∀ w∈ws,pw tt bb w):(ws.map (·.length)).sum<=1240/\(PySem.Str.join gZ ws).length<=1271:=by
 have s1:=xv (b:=40) fun w hw=>((h w hw).sg hb ht).1
 have s2:=oq gZ ws
 rw [show gZ.length=1 from rfl] at s2
 lia
theorem D9(hb:1<=bb/\bb<=16)(ht:tt<=15)(h:TV tt bb bz):((bz.map (PySem.Str.join gZ)).map (·.length)).sum<=52111/\(tJ bz).length<=60000:=by
 have s1:=xv (b:=1271) (l:=bz.map (PySem.Str.join gZ)) fun z hz=>by
  obtain ⟨ws,hw,rfl⟩:=aaH.mp hz
  exact (D8 hb ht (h.2 ws hw).1.2 (h.2 ws hw).2).2
 have s2:=oq dy (bz.map (PySem.Str.join gZ))
 have h1:=h.1
 rw [aaD] at s1 s2
 rw [show dy.length=3 by decide] at s2
 refine⟨by lia,?_⟩
 show (PySem.Str.join dy (bz.map (PySem.Str.join gZ))).length<=60000
 lia
theorem Ma(hb:1<=bb/\bb<=16)(ht:tt<=15)(h:TV tt bb bz):(PySem.Txt.split (tJ bz) dy).length<=1500/\∀ p∈PySem.Txt.split (tJ bz) dy,p.length<=100000/\(PySem.Txt.split p gZ).length<=1500/\∀ w∈PySem.Txt.split p gZ,pw tt bb w:=by
 have h0:bz≠[]:=fun z=>by have:=h.1.1;rw [z] at this;cases this
 have h1:∀ ws∈bz,ws≠[]:=fun ws hw z=>by have:=(h.2 ws hw).1.1;rw [z] at this;cases this
 have h2:∀ ws∈bz,∀ w∈ws,pw tt bb w:=fun ws hw=>(h.2 ws hw).2
 obtain ⟨e,Hf⟩:=DZ hb ht h0 h1 h2
 have hw:=Fi hb ht h0 h1 h2
 have hi:=Jo (N:=31) (l:=Fh bz) fun x hx=>by
  obtain ⟨ws,oj,rfl⟩:=aaH.mp hx
  rw [aaD];exact (h.2 ws oj).1.2
 rw [e] at hi
 have lo:=Jn (l:=Fh ((PySem.Txt.split (tJ bz) dy).map fun z=>PySem.Txt.split z gZ)) fun x hx=>by
  obtain ⟨ws,oj,rfl⟩:=aaH.mp hx
  have:=Hf ws oj
  simpa using this
 have lc:(Fh bz).length=bz.length:=aaD ..
 have ld:(Fh ((PySem.Txt.split (tJ bz) dy).map fun z=>PySem.Txt.split z gZ)).length=(PySem.Txt.split (tJ bz) dy).length:=by unfold Fh;rw [aaD,aaD]
 rw [lc] at hi
 rw [ld] at lo
 have hl:=h.1.2
 refine⟨by lia,fun p hp=>⟨?_,?_,hw p hp⟩⟩
 ·have:=Ab dy hp
  rw [PySem.StrLaws.join_split] at this
  have:=(D9 hb ht h).2
  lia
 ·have:=lo.2 _ (aaH.mpr ⟨_,aaH.mpr ⟨p,hp,rfl⟩,rfl⟩)
  rw [aaD] at this
  lia
end
theorem Fj{H:Hp}{σ:St}{Q:VK}{ix:List (Option Nat)}{J:It}{g:TG}{tt:TT}{te:TE}(t:Nat)(fr:St)(n:Nat)(Pv:Addr->Nat->List V->Hp->Prop)(wD:pick ix σ=List.replicate t none++fr)
  (h0:∀ l H',H l=none->ah H H'->H' l=some (.lst [])->Pv l 0 [] H') (hn:∀ l i ys H',Pv l i ys H'->ys.length<=2000)
  (mD:∀ H',ah H H'->J.stop n H') (Gd:∀ i H',i<n->ah H H'->J.go i H')
  (step:∀ l i x H' H2 own ys,own.length=t->i<n->H l=none->ah H H'->H' l=some (.lst ys)->Pv l i ys H'->J.Kb i H' x H2->∀ (Qy:St->VK) (Qn:St->Hp->Prop),
   (∀ iK v H5,iK.length=t->ah H' H5->Pv l (i+1) (ys++[v]) (upd H5 l (.lst (ys++[v])))->Qy (iK++fr) v H5)->(∀ iK H4,iK.length=t->ah H' H4->Pv l (i+1) ys H4->Qn (iK++fr) H4) ->
   g x (own++fr) H2 fun σ2 H3=>tt σ2 H3 fun b H4=>if b=true then te σ2 H4 (Qy σ2) else Qn σ2 H4)
  (hQ:∀ l H' ys,H l=none->ah H H'->H' l=some (.lst ys)->Pv l n ys H'->Q (.ref l) H'):cb ix g tt te σ Q J H:=by
 intro l hl
 refine⟨fun i m σ1 ys H'=>m=n - i/\i<=n/\(∃ own:St,own.length=t/\σ1=own++fr)/\ah H H'/\H' l=some (.lst ys)/\Pv l i ys H',⟨n,by simp,aaT _,⟨_,length_replicate,wD⟩,ah.aW hl,ao,h0 l _ hl (ah.aW hl) ao⟩,?_⟩
 rintro i m σ1 ys H' ⟨rfl,hi,⟨own,ho,rfl⟩,hs,jg,hp⟩
 refine⟨jg,?_⟩
 by_cases nA:i<n
 ·refine .inr ⟨Gd i H' nA hs,n - (i+1),by lia,fun x H2 hy=>step l i x H' H2 own ys ho nA hl hs jg hp hy _ _ (fun iK v H5 Bf s5 VZ=>?_) fun iK H4 Bf s4 V0=>?_⟩
  ·have l5:=s5 _ _ jg
   refine⟨l5,aaJ (hn l i ys H' hp) (by decide),rfl,nA,⟨iK,Bf,rfl⟩,fun b o e=>?_,ao,VZ⟩
   rw [ar (aN e hl)]
   exact s5 _ _ (hs _ _ e)
  ·exact⟨rfl,nA,⟨iK,Bf,rfl⟩,hs.trans s4,s4 _ _ jg,V0⟩
 ·obtain rfl:i=n:=by lia
  exact .inl ⟨mD H' hs,hQ l H' ys hl hs jg hp⟩
theorem PY {X:Cx} {o e:Expr} {es:List Expr} {to:TE} {t:TA} {name:Str} {apos ba:Pos} {T id:String} {r:V->List V->Hp->VK->Prop} (K:Frag) (hK:X.K=K) (pa:PlainAttrs T) (slot:Slot T name id) (Vh:typeOf (.builtin id)=pure (.type "method_descriptor")) (hm:Kf X id r) (ho:PE X o to) (ha:PA X (e::es) t)
  (f7:attributeBase o name X.env (eval o X.env)=eval o X.env:=by rfl)
  (N9:((backTo ba (starEach (e::es) X.env)).all (fun x=>!x.1) && (backToKw ba (keywordEach [] X.env)).all (fun x=>x.1.isSome)
   && decide ((e::es).length+([]:List Keyword).length+(if ([]:List Keyword).isEmpty then 0 else 1)<30))=true:=by rfl)
  (GK:(apos.endLine == ba.line)=true:=by rfl) (hs:starEach (e::es) X.env=(false,eval e X.env)::starEach es X.env:=by rfl) (iH:(backTo ba (starEach es X.env)).any (·.1)=false:=by rfl) :
  PE X (.Call (.Attribute o name apos) (e::es) [] ba) (Vg K T r to t):=hK ▸ fi pa slot Vh hm ho ha f7 N9 GK hs iH
theorem TX(i a b:Int):Rj (.int i) [.int a,.int b]=decide (i=a\/i=b):=by
 have e:Rj (.int i) [.int a,.int b]=(GI (.int a) (.int i) || (GI (.int b) (.int i) || false)):=rfl
 have q:∀ x y:Int,GI (.int x) (.int y)=decide (y=x):=fun x y=>by
  show (x == y)=decide (y=x)
  by_cases h:x=y
  ·rw [h,aas rfl];exact beq_self_eq_true y
  ·rw [beq_eq_false_iff_ne.mpr h,aar fun z=>h z.symm]
 rw [e,q,q,Bool.or_false,<- Bool.decide_or]
theorem sk.fin{tt bb N:Nat}{bz:List (List Str)}(h:sk tt bb N bz)(hN:N<=31):TV tt bb bz:=by
 have:=h.1
 exact⟨by lia,fun ws hw=>⟨by have:=(h.2 ws hw).1;lia,(h.2 ws hw).2⟩⟩
theorem sk.rep{tt bb N n:Nat}{bz:List (List Str)}(h:sk tt bb N bz)(hN:N<=31)(hn:1<=n/\n<=41):TV tt bb ((List.replicate 41 bz).flatten.take n):=by
 have:=h.1
 refine⟨by rw [aaN,len_rep];lia,fun ws hw=>?_⟩
 obtain ⟨l,hl,hw⟩:=List.mem_flatten.mp (aaX hw)
 rw [(List.mem_replicate.mp hl).2] at hw
 exact (h.fin hN).2 ws hw
def Jp(kd:Int)(tt bb:Nat)(z:Str):Res:=if kd=1\/kd=2 then .gv else B5 tt bb z
theorem ou{kd:Int}{tt bb:Nat}{z:Str}(h:kd=1\/kd=2):Jp kd tt bb z=.gv:=if_pos h
theorem vY{kd:Int}{tt bb:Nat}{z:Str}(h:¬ (kd=1\/kd=2)):Jp kd tt bb z=B5 tt bb z:=if_neg h
theorem rK{tt bb:Nat}(ht:4<=tt/\tt<=15)(hb:1<=bb/\bb<=16):(58∉(bo.txt tt++bo.aO++bo.txt bb).cps.toList/\(bo.txt tt++bo.aO++bo.txt bb).length<=100)/\bo.lj (bo.txt tt++bo.aO++bo.txt bb) 4=some (tt,bb):=by
 have h2:=gY (n:=tt) ⟨by lia,by lia⟩
 have h3:=gY (n:=bb) ⟨by lia,by lia⟩
 refine⟨⟨fun hc=>?_,?_⟩,bo.zu (by decide) ⟨by lia,by lia⟩ ⟨by lia,by lia⟩⟩
 ·simp only [mW,aaB] at hc
  rcases hc with (hc|hc)|hc
  ·exact (h2.1 58 hc).2 rfl
  ·exact absurd hc (by decide)
  ·exact (h3.1 58 hc).2 rfl
 ·have e2:bo.aO.length=1:=by decide
  simp only [PySem.strLen_append,e2]
  lia
theorem Mb:∀ R:Res,¬ (HT.el (Nl R).length 0 (some 1)=0/\HT.el (Nl R).length (Nl R).length (some ((Kj R).length:Int))=(Nl R).length)
 | .gv=>by decide
 | .bar _=>fun z=>absurd z.1 (show ¬ HT.el 4 0 (some 1)=0 by decide)
 | .note _ _=>fun z=>absurd z.1 (show ¬ HT.el 5 0 (some 1)=0 by decide)
 | .read=>by decide
theorem Mc:∀ R:Res,∃ is:List Int,nG (Nl R) (some 1) (some ((Kj R).length:Int))=is.map V.int
 | .gv=>⟨[],rfl⟩
 | .bar k=>⟨[(k:Int)],rfl⟩
 | .note k j=>⟨[(k:Int),(j:Int)],rfl⟩
 | .read=>⟨[],rfl⟩
def Kk:Res->List PyData
 | .gv=>[.str "tune"]
 | .bar k=>[.str "bar",.int (k:Nat)]
 | .note k j=>[.str "note",.int (k:Nat),.int (j:Nat)]
 | .read=>[.str "read"]
theorem kz{K:Frag}{H:Hp}:∀ R:Res,Tells K H (Kj R) (Kk R)
 | .gv=>.cons (.str _) .nil
 | .bar _=>.cons (.str _) (.cons (.int _) .nil)
 | .note _ _=>.cons (.str _) (.cons (.int _) (.cons (.int _) .nil))
 | .read=>.cons (.str _) .nil
theorem vZ{K:Frag}{H:Hp}:∀ {xs ys:List V} {ds es:List PyData},Tells K H xs ds->Tells K H ys es->Tells K H (xs++ys) (ds++es)
 | _,_,_,_,.nil,k=>k
 | _,_,_,_,.cons h t,k=>.cons h (vZ t k)
theorem Md:∀ {R:Res},R≠.read->Nl R=Kj R++[.bl false,.bl true]
 | .gv,_=>rfl
 | .bar _,_=>rfl
 | .note _ _,_=>rfl
 | .read,h=>absurd rfl h
theorem Jq:∀ R:Res,Kj R≠[]/\(Kj R).length<=3
 | .gv=>⟨fun z=>(by cases z),by decide⟩
 | .bar _=>⟨fun z=>(by cases z),by show 2<=3;decide⟩
 | .note _ _=>⟨fun z=>(by cases z),by show 3<=3;decide⟩
 | .read=>⟨fun z=>(by cases z),by decide⟩
theorem kA(R:Res):SeqAt.shaped (.tuple (Kk R))=true/\SeqAt.shaped (.tuple (Kk R++[.bool false,.bool true]))=true/\PyData.canLay0 (.tuple (Kk R))=true/\PyData.canLay0 (.tuple (Kk R++[.bool false,.bool true]))=true:=by
 cases R <;> refine⟨?_,?_,?_,?_⟩ <;> first|rfl|decide +kernel|(simp [Kk,SeqAt.shaped,PyData.canLay0,PyData.canLayAll0];first|decide +kernel|exact⟨by decide +kernel,rfl⟩|exact⟨by decide +kernel,by simp [PyData.depth,PyData.depthAll]⟩)
theorem Jr:∀ {R:Res},R≠.read->PyData.eqv (.tuple (Kk R)) (.tuple [.str "read"])=false
 | .gv,_=>by decide
 | .bar _,_=>rfl
 | .note _ _,_=>rfl
 | .read,h=>absurd rfl h
structure qT where
 Js:Addr
 sr:Addr
 bF:Addr
 aQ:Addr
 aF:Addr
 ax:Addr
 aG:Addr
 aA:Addr
 au:Addr
 kJ:Addr
 jE:Addr
 jF:Addr
 jG:Addr
 jH:Addr
 jI:Addr
 jJ:Addr
 jK:Addr
 xw:Addr
 ow:Addr
 px:Addr
 oy:Addr
 pE:Addr
 oz:Addr
 p0:Addr
 oA:Addr
 qd:Addr
 d4:Addr
 dA:Addr
 kK:Tok
 dX:Tok
 xx:Tok
 gE:Tok
 iU:Tok
 eI:Tok
 gF:Tok
 fS:Tok
structure Txt(P:Program)(w:World)(K:Frag)(mg:Str->Option Value)(G:qT):Prop where
 Ac:mg "NoSpan"=none
 ng:mg "ValueError"=none
 Jt:mg "abs"=none
 Ea:mg "all"=none
 Ju:mg "bool"=none
 gG:mg "enumerate"=none
 Ad:mg "int"=none
 bc:mg "isinstance"=none
 fO:mg "len"=none
 PZ:mg "list"=none
 qU:mg "range"=none
 v5:mg "str"=none
 TY:mg "sum"=none
 xy:mg "tuple"=none
 Nm:mg "zip"=none
 TZ:mg "ONE"=some (.ref G.Js)
 aI:dq K G.Js [.int 0,.int 0,.int 0,.int 0,.int 0]
 Jv:mg "BOUNDS"=some (.ref G.sr)
 ak:dq K G.sr [.int 700,.int 60,.int 60,.int 60,.int 60]
 v7:mg "LETTERS"=some (.ref G.kJ)
 Me:mg "MARKS"=some (.ref G.xw)
 v8:xb P w K G.kJ [(.inr "F",.ref G.jE),(.inr "C",.ref G.jF),(.inr "G",.ref G.jG),(.inr "D",.ref G.jH),(.inr "A",.ref G.jI),(.inr "E",.ref G.jJ),(.inr "B",.ref G.jK)]
 fq:dq K G.jE [.int (2),.int (-1),.int (0),.int (0),.int (0)]
 ft:dq K G.jF [.int (0),.int (0),.int (0),.int (0),.int (0)]
 fu:dq K G.jG [.int (-1),.int (1),.int (0),.int (0),.int (0)]
 fw:dq K G.jH [.int (-3),.int (2),.int (0),.int (0),.int (0)]
 fz:dq K G.jI [.int (-4),.int (3),.int (0),.int (0),.int (0)]
 fA:dq K G.jJ [.int (-6),.int (4),.int (0),.int (0),.int (0)]
 fB:dq K G.jK [.int (-7),.int (5),.int (0),.int (0),.int (0)]
 nh:dq K G.xw [.ref G.ow,.ref G.oy,.ref G.oz,.ref G.oA]
 fW:dq K G.ow [.str "#",.str "b",.ref G.px]
 fC:dq K G.px [.int (-11),.int (7),.int (0),.int (0),.int (0)]
 fX:dq K G.oy [.str "+",.str "-",.ref G.pE]
 fD:dq K G.pE [.int (-4),.int (4),.int (-1),.int (0),.int (0)]
 fY:dq K G.oz [.str ">",.str "<",.ref G.p0]
 fE:dq K G.p0 [.int (6),.int (-2),.int (0),.int (-1),.int (0)]
 fZ:dq K G.oA [.str "^",.str "v",.ref G.qd]
 fF:dq K G.qd [.int (-5),.int (1),.int (0),.int (0),.int (1)]
 Fl:mg "LONGEST"=some (.int 300 G.kK)
 oB:mg "OCTAVE_FIGURES"=some (.int 4 G.dX)
 P0:mg "REST"=some (.str "R" G.xx)
 Ae:mg "METER_END"=some (.str ": " G.gE)
 B8:mg "BAR_LINE"=some (.str " | " G.iU)
 su:mg "MOST_FIGURES"=some (.int 4 G.eI)
 Af:mg "MOST_BARS"=some (.int 40 G.gF)
 xA:mg "MOST_NOTES"=some (.int 24 G.fS)
 Ag:mg "YardError"=some (.ref G.bF)
 Nn:PySem.W.nsIn K mainGlobals "YardError"=some (some (.ref G.bF))
 Ah:d6 K G.bF
 jL:mg "TooFar"=some (.ref G.aQ)
 Ai:PySem.W.nsIn K mainGlobals "TooFar"=some (some (.ref G.aQ))
 Jw:d6 K G.aQ
 jM:fR K G.aQ
 Jx:excIn K G.aQ [.type "ValueError",.type "Exception",.type "BaseException",.type "object"] "ValueError.__new__"=true
 dC:mg "NoName"=some (.ref G.aF)
 iy:PySem.W.nsIn K mainGlobals "NoName"=some (some (.ref G.aF))
 ni:d6 K G.aF
 jN:fR K G.aF
 nj:excIn K G.aF [.type "ValueError",.type "Exception",.type "BaseException",.type "object"] "ValueError.__new__"=true
 cp:mg "NoLength"=some (.ref G.ax)
 lP:PySem.W.nsIn K mainGlobals "NoLength"=some (some (.ref G.ax))
 gf:d6 K G.ax
 gh:fR K G.ax
 B9:excIn K G.ax [.type "ValueError",.type "Exception",.type "BaseException",.type "object"] "ValueError.__new__"=true
 jO:mg "NoTune"=some (.ref G.aG)
 nk:PySem.W.nsIn K mainGlobals "NoTune"=some (some (.ref G.aG))
 Aj:d6 K G.aG
 gi:fR K G.aG
 sv:excIn K G.aG [.type "ValueError",.type "Exception",.type "BaseException",.type "object"] "ValueError.__new__"=true
 jP:mg "BadBar"=some (.ref G.aA)
 iz:PySem.W.nsIn K mainGlobals "BadBar"=some (some (.ref G.aA))
 sx:d6 K G.aA
 fG:fR K G.aA
 Ak:iL K G.aA [.type "ValueError",.type "Exception",.type "BaseException",.type "object"] "ValueError.__new__" G.d4=true
 Al:PySem.W.isFn K (.ref G.d4)=true
 nq:zT K G.aA "bar"
 kL:mg "BadNote"=some (.ref G.au)
 d5:PySem.W.nsIn K mainGlobals "BadNote"=some (some (.ref G.au))
 oE:d6 K G.au
 dY:fR K G.au
 Fm:iL K G.au [.type "ValueError",.type "Exception",.type "BaseException",.type "object"] "ValueError.__new__" G.dA=true
 Fo:PySem.W.isFn K (.ref G.dA)=true
 ly:zT K G.au "bar"
 jd:zT K G.au "place"
 cX:subIn K (.ref G.aQ) (.ref G.aQ)=some true
 cY:subIn K (.ref G.aQ) (.ref G.aF)=some false
 eg:G.aQ≠G.aF
 cg:subIn K (.ref G.aQ) (.ref G.ax)=some false
 dG:G.aQ≠G.ax
 ek:subIn K (.ref G.aQ) (.ref G.aG)=some false
 er:G.aQ≠G.aG
 eu:subIn K (.ref G.aQ) (.ref G.aA)=some false
 eB:G.aQ≠G.aA
 dZ:subIn K (.ref G.aQ) (.ref G.au)=some false
 d7:G.aQ≠G.au
 cZ:subIn K (.ref G.aF) (.ref G.aQ)=some false
 eE:G.aF≠G.aQ
 dg:subIn K (.ref G.aF) (.ref G.aF)=some true
 cj:subIn K (.ref G.aF) (.ref G.ax)=some false
 dH:G.aF≠G.ax
 eF:subIn K (.ref G.aF) (.ref G.aG)=some false
 eG:G.aF≠G.aG
 eK:subIn K (.ref G.aF) (.ref G.aA)=some false
 eL:G.aF≠G.aA
 d8:subIn K (.ref G.aF) (.ref G.au)=some false
 d9:G.aF≠G.au
 ck:subIn K (.ref G.ax) (.ref G.aQ)=some false
 dI:G.ax≠G.aQ
 cu:subIn K (.ref G.ax) (.ref G.aF)=some false
 dJ:G.ax≠G.aF
 bf:subIn K (.ref G.ax) (.ref G.ax)=some true
 dM:subIn K (.ref G.ax) (.ref G.aG)=some false
 dN:G.ax≠G.aG
 dO:subIn K (.ref G.ax) (.ref G.aA)=some false
 dP:G.ax≠G.aA
 cP:subIn K (.ref G.ax) (.ref G.au)=some false
 cQ:G.ax≠G.au
 eN:subIn K (.ref G.aG) (.ref G.aQ)=some false
 dh:G.aG≠G.aQ
 di:subIn K (.ref G.aG) (.ref G.aF)=some false
 bX:G.aG≠G.aF
 cy:subIn K (.ref G.aG) (.ref G.ax)=some false
 bx:G.aG≠G.ax
 dj:subIn K (.ref G.aG) (.ref G.aG)=some true
 dm:subIn K (.ref G.aG) (.ref G.aA)=some false
 dw:G.aG≠G.aA
 cG:subIn K (.ref G.aG) (.ref G.au)=some false
 cH:G.aG≠G.au
 eO:subIn K (.ref G.aA) (.ref G.aQ)=some false
 eS:G.aA≠G.aQ
 dz:subIn K (.ref G.aA) (.ref G.aF)=some false
 dB:G.aA≠G.aF
 cz:subIn K (.ref G.aA) (.ref G.ax)=some false
 cA:G.aA≠G.ax
 bY:subIn K (.ref G.aA) (.ref G.aG)=some false
 dD:G.aA≠G.aG
 dF:subIn K (.ref G.aA) (.ref G.aA)=some true
 cI:subIn K (.ref G.aA) (.ref G.au)=some false
 cJ:G.aA≠G.au
 ee:subIn K (.ref G.au) (.ref G.aQ)=some false
 cK:G.au≠G.aQ
 cL:subIn K (.ref G.au) (.ref G.aF)=some false
 bH:G.au≠G.aF
 bP:subIn K (.ref G.au) (.ref G.ax)=some false
 bq:G.au≠G.ax
 cM:subIn K (.ref G.au) (.ref G.aG)=some false
 ef:G.au≠G.aG
 bI:subIn K (.ref G.au) (.ref G.aA)=some false
 cN:G.au≠G.aA
 cB:subIn K (.ref G.au) (.ref G.au)=some true
 cR:subIn K (.ref G.aQ) (.ref G.bF)=some true
 cS:subIn K (.ref G.aF) (.ref G.bF)=some true
 cC:subIn K (.ref G.ax) (.ref G.bF)=some true
 cT:subIn K (.ref G.aG) (.ref G.bF)=some true
 cU:subIn K (.ref G.aA) (.ref G.bF)=some true
 bB:subIn K (.ref G.au) (.ref G.bF)=some true
 cE:subIn K (.ref G.aQ) (.type "ValueError")=some true
 cF:subIn K (.ref G.aF) (.type "ValueError")=some true
 bR:subIn K (.ref G.ax) (.type "ValueError")=some true
 bC:subIn K (.ref G.aG) (.type "ValueError")=some true
 bD:subIn K (.ref G.aA) (.type "ValueError")=some true
 cD:subIn K (.ref G.au) (.type "ValueError")=some true
def eJ(K:Frag):Sp:=fun vs H Q _=>∃ (z:Str) (m:Nat),vs=[.str z,.int m]/\z.length<=1000/\∀ H',ah H H'->Q (.bl (bo.cnt z m)) H'
def iV(K:Frag):Sp:=fun vs H Q _=>∃ (y:Str) (m:Nat),vs=[.str y,.int m]/\y.length<=1000/\∀ H',ah H H'->Q (.bl (bw.zv y m).isSome) H'
def g0(K:Frag):Sp:=fun vs H Q _=>∃ (z:Str) (m:Nat),vs=[.str z,.int m]/\z.length<=1000/\m<=600/\(∀ t b:Nat,bo.lj z m=some (t,b)->∀ p H',ah H H'->H' p=some (.tup [.int t,.int b])->Q (.ref p) H')/\(bo.lj z m=none->∀ H',ah H H'->Q .dt H')
def hJ(K:Frag):Sp:=fun vs H Q _=>∃ (a:Addr) (t b:Nat),vs=[.ref a]/\bh K H a [.int t,.int b]/\Q (.int (Nat.gcd t b:Nat)) H
def kM(K:Frag):Sp:=fun vs H Q _=>∃ (t b:Nat),vs=[.int t,.int b]/\0<b/\b<2 ^ 9000/\∀ p H',ah H H'->H' p=some (.tup [.int (t / Nat.gcd t b:Nat),.int (b / Nat.gcd t b:Nat)])->Q (.ref p) H'
def eM (K:Frag):Sp:=fun vs H Q E=>∃ (z:Str),vs=[.str z]/\z.length<=1000/\(∀ t b:Nat,bo.lj z 4=some (t,b)->∀ p H',ah H H'->H' p=some (.tup [.int (t / Nat.gcd t b:Nat),.int (b / Nat.gcd t b:Nat)])->Q (.ref p) H')/\(bo.lj z 4=none->∀ C H',PySem.W.nsIn K mainGlobals "NoLength"=some (some (.ref C))->ah H H'->E (.ref C) none H')
def oF(K:Frag):Sp:=fun vs H Q _=>∃ (l:Addr) (xs:List V) (rs:List (Nat×Nat)),vs=[.ref l]/\bA K H l xs/\fm K H xs (rs.map Bp.r2)/\(∀ p∈rs,gD p)/\rs.length<=60/\∀ p H' n d,ah H H'->H' p=some (.tup [.int (n:Nat),.int (d:Nat)])->Bq rs n d->n<=2 ^ (15*rs.length)->d<=2 ^ (15*rs.length)->Q (.ref p) H'
def jQ(K:Frag):Sp:=fun vs H Q _=>∃ v,vs=[v]/\Kn K H v/\Q (.bl (wh v)) H
def oG(K:Frag):Sp:=fun vs H Q _=>∃ v,vs=[v]/\((∃ (a:Addr) (xs:List V),v=.ref a/\bh K H a xs/\xs.length<=1000/\(∀ x∈xs,Kn K H x)/\∀ H',ah H H'->Q (.bl (decide (xs.length=5) && xs.all wh)) H')\/(NT K H v/\Q (.bl false) H))
def lQ(K:Frag):Sp:=fun vs H Q _=>∃ v,vs=[v]/\((∃ (a:Addr) (x0 x1 x2 x3 x4:Int),v=.ref a/\bh K H a [.int x0,.int x1,.int x2,.int x3,.int x4]/\∀ H',ah H H'->Q (.bl (fits x0 x1 x2 x3 x4)) H')\/(Odd K H v/\∀ H',ah H H'->Q (.bl false) H'))
def lR (K:Frag):Sp:=fun vs H Q E=>∃ (a:Addr) (x0 x1 x2 x3 x4:Int),vs=[.ref a]/\bh K H a [.int x0,.int x1,.int x2,.int x3,.int x4]/\(fits x0 x1 x2 x3 x4=false->∀ C H',PySem.W.nsIn K mainGlobals "TooFar"=some (some (.ref C))->ah H H'->E (.ref C) none H')/\(fits x0 x1 x2 x3 x4=true->∀ H',ah H H'->Q (.ref a) H')
def sy(K:Frag):Sp:=fun vs H Q _=>∃ a b a0 a1 a2 a3 a4 b0 b1 b2 b3 b4,vs=[.ref a,.ref b]/\bh K H a [.int a0,.int a1,.int a2,.int a3,.int a4]/\bh K H b [.int b0,.int b1,.int b2,.int b3,.int b4]/\∀ p H',ah H H'->H' p=some (.tup [.int (a0+b0),.int (a1+b1),.int (a2+b2),.int (a3+b3),.int (a4+b4)])->Q (.ref p) H'
def sC(K:Frag):Sp:=fun vs H Q _=>∃ (a:Addr) (x0 x1 x2 x3 x4 n:Int),vs=[.ref a,.int n]/\bh K H a [.int x0,.int x1,.int x2,.int x3,.int x4]/\((∀ x∈[x0,x1,x2,x3,x4],-1000<=x/\x<=1000)/\(-1000<=n/\n<=1000))/\∀ p H',ah H H'->H' p=some (.tup [.int (x0*n),.int (x1*n),.int (x2*n),.int (x3*n),.int (x4*n)])->Q (.ref p) H'
def hV(K:Frag):Sp:=fun vs H Q _=>∃ (z:Str) (s c:Nat),vs=[.str z,.int s,.str ⟨#[c]⟩]/\z.length<=1000/\Q (.int (bw.runs (z.cps.toList.drop s) c:Nat)) H
def hZ(K:Frag):Sp:=fun vs H Q _=>∃ (z:Str) (s c d:Nat) (m:Addr) (r:V),vs=[.str z,.int s,.ref m]/\z.length<=1000/\bh K H m [.str ⟨#[c]⟩,.str ⟨#[d]⟩,r]/\Q (.int ((bw.runs (z.cps.toList.drop s) c:Int) - bw.runs (z.cps.toList.drop s) d)) H
def gj (K:Frag):Sp:=fun vs H Q E=>∃ y:Str,vs=[.str y]/\y.length<=1000/\(bw.zv y 4=none->∀ C H',PySem.W.nsIn K mainGlobals "NoName"=some (some (.ref C))->ah H H'->E (.ref C) none H')/\(∀ o,bw.zv y 4=some o->∀ H',ah H H'->Q (.int o) H')
def sE (K:Frag):Sp:=fun vs H Q E=>∃ z:Str,vs=[.str z]/\z.length<=1000/\(bw.Ge z=none->(∀ C H',PySem.W.nsIn K mainGlobals "NoName"=some (some (.ref C))->ah H H'->E (.ref C) none H'))/\(∀ x0 x1 x2 x3 x4:Int,bw.Ge z=some [x0,x1,x2,x3,x4]->fits x0 x1 x2 x3 x4=false->(∀ C H',PySem.W.nsIn K mainGlobals "TooFar"=some (some (.ref C))->ah H H'->E (.ref C) none H'))/\(∀ x0 x1 x2 x3 x4:Int,bw.Ge z=some [x0,x1,x2,x3,x4]->fits x0 x1 x2 x3 x4=true->∀ p H',ah H H'->H' p=some (.tup [.int x0,.int x1,.int x2,.int x3,.int x4])->Q (.ref p) H')
def eW (K:Frag):Sp:=fun vs H Q E=>∃ z:Str,vs=[.str z]/\z.length<=1000/\(okN z=false->∀ (C:Addr) H',(PySem.W.nsIn K mainGlobals "NoName"=some (some (.ref C))\/PySem.W.nsIn K mainGlobals "TooFar"=some (some (.ref C)))->ah H H'->E (.ref C) none H')/\(okN z=true->∀ v H',ah H H'->Q v H')
def iW (K:Frag):Sp:=fun vs H Q E=>∃ (w:Str) (k j:Nat),vs=[.str w,.int k,.int j]/\w.length<=1000/\(Fg w=none->∀ (C dx:Addr) H',PySem.W.nsIn K mainGlobals "BadNote"=some (some (.ref C))->ah H H'->H' dx=some (.xd [("bar",.int (k:Nat)),("place",.int (j:Nat))])->E (.ref C) (some dx) H')/\(∀ p,Fg w=some p->∀ q v l H',ah H H'->H' q=some (.tup [v,.ref l])->H' l=some (.tup [.int (bO p).1,.int (bO p).2])->Q (.ref q) H')
def jR (K:Frag):Sp:=fun vs H Q E=>∃ (z:Str) (k:Nat) (m:Addr) (tt bb:Nat),vs=[.str z,.int k,.ref m]/\z.length<=100000/\(PySem.Txt.split z gZ).length<=1500/\bh K H m [.int (bO (tt,bb)).1,.int (bO (tt,bb)).2]/\(1<=bb/\bb<=16)/\(4<=tt/\tt<=15)/\(∀ w∈PySem.Txt.split z gZ,pw tt bb w)/\(jj tt k [A6 tt bb z]=.bar k->∀ (C dx:Addr) H',PySem.W.nsIn K mainGlobals "BadBar"=some (some (.ref C))->ah H H'->H' dx=some (.xd [("bar",.int (k:Nat))])->E (.ref C) (some dx) H')/\(∀ j,jj tt k [A6 tt bb z]=.note k j->∀ (C dx:Addr) H',PySem.W.nsIn K mainGlobals "BadNote"=some (some (.ref C))->ah H H'->H' dx=some (.xd [("bar",.int (k:Nat)),("place",.int (j:Nat))])->E (.ref C) (some dx) H')/\(jj tt k [A6 tt bb z]=.read->∀ v H',ah H H'->Q v H')
def h7 (K:Frag):Sp:=fun vs H Q E=>∃ z:Str,vs=[.str z]/\z.length<=1000/\(bo.lj z 4=none->∀ (C:Addr) H',PySem.W.nsIn K mainGlobals "NoTune"=some (some (.ref C))->ah H H'->E (.ref C) none H')/\(∀ p,bo.lj z 4=some p->∀ m H',ah H H'->H' m=some (.tup [.int (bO p).1,.int (bO p).2])->Q (.ref m) H')
def iX (K:Frag):Sp:=fun vs H Q E=>∃ (z a m b:Str) (R:Res),vs=[.str z]/\z.length<=200000/\PySem.Txt.partition z k8=(a,m,b)/\((m=PySem.Str.empty/\R=.gv)\/(a.length<=1000/\m≠PySem.Str.empty/\bo.lj a 4=none/\R=.gv)\/∃ tt bb,a.length<=1000/\m≠PySem.Str.empty/\bo.lj a 4=some (tt,bb)/\(1<=bb/\bb<=16)/\(4<=tt/\tt<=15)/\(PySem.Txt.split b dy).length<=1500/\b.length<=200000/\(∀ p∈PySem.Txt.split b dy,p.length<=100000/\(PySem.Txt.split p gZ).length<=1500/\∀ w∈PySem.Txt.split p gZ,pw tt bb w)/\R=B5 tt bb b)/\(R=.gv->∀ (C:Addr) H',PySem.W.nsIn K mainGlobals "NoTune"=some (some (.ref C))->ah H H'->E (.ref C) none H')/\(∀ k,R=.bar k->∀ (C dx:Addr) H',PySem.W.nsIn K mainGlobals "BadBar"=some (some (.ref C))->ah H H'->H' dx=some (.xd [("bar",.int (k:Nat))])->E (.ref C) (some dx) H')/\(∀ k j,R=.note k j->∀ (C dx:Addr) H',PySem.W.nsIn K mainGlobals "BadNote"=some (some (.ref C))->ah H H'->H' dx=some (.xd [("bar",.int (k:Nat)),("place",.int (j:Nat))])->E (.ref C) (some dx) H')/\(R=.read->∀ v H',ah H H'->Q v H')
def dE(K:Frag):Sp:=fun vs H Q _=>∃ (a:Addr) (ns:List Int) (k:Int),vs=[.ref a,.int k]/\bA K H a (ns.map V.int)/\0<=k/\Q (.int (ns.getD k.toNat 0)) H
def fT(K:Frag):Sp:=fun vs H Q _=>∃ (c j:Int),vs=[.int c,.int j]/\(0<=j/\j<=1000)/\∀ m:Int,0<=m->m<999983->Q (.int m) H
def h8(K:Frag):Sp:=fun vs H Q _=>∃ (c:Int) (n t:Nat),vs=[.int c,.int n,.int t]/\1<=n/\n<=24/\n<=t/\t<=100/\∀ (l:Addr) H' (ps:List Int),H l=none->ah H H'->H' l=some (.lst (ps.map V.int))->ps.length=n->(∀ p∈ps,1<=p/\p<=t)->ps.sum=(t:Int)->Q (.ref l) H'
def lS(K:Frag):Sp:=fun vs H Q _=>∃ c:Int,vs=[.int c]/\∀ (w:Str) H',ah H H'->w∈B3->Q (.str w) H'
def jS(K:Frag):Sp:=fun vs H Q _=>∃ (a:Addr) (ns:List Int) (tt bb:Nat),vs=[.ref a,.int tt,.int bb]/\bA K H a (ns.map V.int)/\(4<=tt/\tt<=15)/\(1<=bb/\bb<=16)/\∀ l xs bz H',ah H H'->H' l=some (.lst xs)->Fa (A7 H') xs bz->sk tt bb 4 bz->Q (.ref l) H'
def iY(K:Frag):Sp:=fun vs H Q _=>∃ (tt bb:Nat),vs=[.int tt,.int bb]/\(4<=tt/\tt<=15)/\(1<=bb/\bb<=16)/\∀ d H',ah H H'->PR tt bb H' d->Q (.ref d) H'
def ia(K:Frag):Sp:=fun vs H Q _=>∃ (z:Str) (d:Addr) (tt bb:Nat),vs=[.str z,.ref d]/\z.length<=200000/\PR tt bb H d/\(PySem.Txt.split z dy).length<=1500/\(∀ p∈PySem.Txt.split z dy,p.length<=100000/\(PySem.Txt.split p gZ).length<=1500)/\∀ l H' xs,ah H H'->H' l=some (.lst xs)->Fa (L9 K H') xs ((PySem.Txt.split z dy).map (A6 tt bb))->Q (.ref l) H'
def ib(K:Frag):Sp:=fun vs H Q _=>∃ (l:Addr) (xs:List V) (bz:List (List Str)) (tt bb N:Nat) (c:Int),vs=[.ref l,.int c]/\H l=some (.lst xs)/\Fa (A7 H) xs bz/\sk tt bb N bz/\N<=60/\∀ l2 P1 Ca H',ah H H'->H' l2=some (.lst P1)->Fa (A7 H') P1 Ca->sk tt bb (max N 29+1) Ca->Q (.ref l2) H'
def lT(K:Frag):Sp:=fun vs H Q _=>∃ (l:Addr) (xs:List V) (bs:List (List Nat)) (tt:Nat),vs=[.ref l,.int tt]/\bA K H l xs/\Fa (L9 K H) xs bs/\bs.length<=1500/\(∀ ps∈bs,ps.length<=1500)/\∀ p H',ah H H'->H' p=some (.tup (Kj (Jc tt bs)))->Q (.ref p) H'
def jT(K:Frag):Sp:=fun vs H Q _=>∃ (a:Addr) (ns:List Int) (b h:Str),vs=[.ref a,.str b,.str h]/\bA K H a (ns.map V.int)/\58∉h.cps.toList/\h.length<=100/\mY b.cps.toList=true/\b.length<=100000/\∀ (z:Str) H',ah H H'->z.length<=200000->TU (ns.getD 0 0 % 6) h b z->Q (.str z) H'
def jU(K:Frag):Sp:=fun vs H Q E=>∃ (z a m b:Str) (R:Res),vs=[.str z]/\z.length<=200000/\PySem.Txt.partition z k8=(a,m,b)/\((m=PySem.Str.empty/\R=.gv)\/(a.length<=1000/\m≠PySem.Str.empty/\bo.lj a 4=none/\R=.gv)\/∃ tt bb,a.length<=1000/\m≠PySem.Str.empty/\bo.lj a 4=some (tt,bb)/\(1<=bb/\bb<=16)/\(4<=tt/\tt<=15)/\(PySem.Txt.split b dy).length<=1500/\b.length<=200000/\(∀ p∈PySem.Txt.split b dy,p.length<=100000/\(PySem.Txt.split p gZ).length<=1500/\∀ w∈PySem.Txt.split p gZ,pw tt bb w)/\R=B5 tt bb b)/\∀ p H',ah H H'->H' p=some (.tup (Nl R))->Q (.ref p) H'
def gk (K:Frag):Sp:=fun vs H Q _=>∃ (e C:Addr) (y:V),vs=[.ref e,y]/\H e=some (gu e C none)/\PySem.W.nsIn K mainGlobals "BadBar"=some (some (.ref C))/\∀ dx,H dx=none->dx≠e->Q .dt (upd (upd H dx (.xd [("bar",y)])) e (gu e C (some dx)))
def fM (K:Frag):Sp:=fun vs H Q _=>∃ (e C:Addr) (y x:V),vs=[.ref e,y,x]/\H e=some (gu e C none)/\PySem.W.nsIn K mainGlobals "BadNote"=some (some (.ref C))/\∀ dx,H dx=none->dx≠e->Q .dt (upd (upd (upd H dx (.xd [("bar",y)])) e (gu e C (some dx))) dx (.xd [("bar",y),("place",x)]))
section
variable {K:Frag}{H:Hp}{Q:VK}{E:XK}
theorem fg{z:Str}{m:Nat}(hz:z.length<=1000)(k:∀ H',ah H H'->Q (.bl (bo.cnt z m)) H'):eJ K [.str z,.int m] H Q E:=⟨z,m,rfl,hz,k⟩
theorem Am{y:Str}{m:Nat}(hy:y.length<=1000)(k:∀ H',ah H H'->Q (.bl (bw.zv y m).isSome) H'):iV K [.str y,.int m] H Q E:=⟨y,m,rfl,hy,k⟩
theorem xB{z:Str}{m:Nat}(h:z.length<=1000/\m<=600)(k:(∀ t b:Nat,bo.lj z m=some (t,b)->∀ p H',ah H H'->H' p=some (.tup [.int t,.int b])->Q (.ref p) H')/\(bo.lj z m=none->∀ H',ah H H'->Q .dt H')):g0 K [.str z,.int m] H Q E:=⟨z,m,rfl,h.1,h.2,k.1,k.2⟩
theorem xC{a:Addr}{t b:Nat}(ha:bh K H a [.int t,.int b])(k:Q (.int (Nat.gcd t b:Nat)) H):hJ K [.ref a] H Q E:=⟨a,t,b,rfl,ha,k⟩
theorem An{t b:Nat}(h0:0<b)(h9:b<2 ^ 9000)(k:∀ p H',ah H H'->H' p=some (.tup [.int (t / Nat.gcd t b:Nat),.int (b / Nat.gcd t b:Nat)])->Q (.ref p) H'):kM K [.int t,.int b] H Q E:=⟨t,b,rfl,h0,h9,k⟩
theorem lz {z:Str} (h:z.length<=1000) (k:(∀ t b:Nat,bo.lj z 4=some (t,b)->∀ p H',ah H H'->H' p=some (.tup [.int (t / Nat.gcd t b:Nat),.int (b / Nat.gcd t b:Nat)])->Q (.ref p) H')/\(bo.lj z 4=none->∀ C H',PySem.W.nsIn K mainGlobals "NoLength"=some (some (.ref C))->ah H H'->E (.ref C) none H')):eM K [.str z] H Q E:=⟨z,rfl,h,k.1,k.2⟩
theorem Jy{l:Addr}{xs:List V}{rs:List (Nat×Nat)}(hl:bA K H l xs)(hr:fm K H xs (rs.map Bp.r2))(hg:∀ p∈rs,gD p)(hn:rs.length<=60)(k:∀ p H' n d,ah H H'->H' p=some (.tup [.int (n:Nat),.int (d:Nat)])->Bq rs n d->n<=2 ^ (15*rs.length)->d<=2 ^ (15*rs.length)->Q (.ref p) H'):oF K [.ref l] H Q E:=⟨l,xs,rs,rfl,hl,hr,hg,hn,k⟩
theorem Cb{v:V}(hv:Kn K H v)(k:Q (.bl (wh v)) H):jQ K [v] H Q E:=⟨v,rfl,hv,k⟩
theorem sF{v:V}(h:(∃ (a:Addr) (xs:List V),v=.ref a/\bh K H a xs/\xs.length<=1000/\(∀ x∈xs,Kn K H x)/\∀ H',ah H H'->Q (.bl (decide (xs.length=5) && xs.all wh)) H')\/(NT K H v/\Q (.bl false) H)):oG K [v] H Q E:=⟨v,rfl,h⟩
theorem Cc{a:Addr}{x0 x1 x2 x3 x4:Int}(ha:bh K H a [.int x0,.int x1,.int x2,.int x3,.int x4])(k:∀ H',ah H H'->Q (.bl (fits x0 x1 x2 x3 x4)) H'):lQ K [.ref a] H Q E:=⟨_,rfl,.inl ⟨a,x0,x1,x2,x3,x4,rfl,ha,k⟩⟩
theorem Fp {a:Addr} {x0 x1 x2 x3 x4:Int} (ha:bh K H a [.int x0,.int x1,.int x2,.int x3,.int x4]) (ke:(fits x0 x1 x2 x3 x4=false->∀ C H',PySem.W.nsIn K mainGlobals "TooFar"=some (some (.ref C))->ah H H'->E (.ref C) none H')) (kq:(fits x0 x1 x2 x3 x4=true->∀ H',ah H H'->Q (.ref a) H')):lR K [.ref a] H Q E:=⟨a,x0,x1,x2,x3,x4,rfl,ha,ke,kq⟩
theorem Mf{a b:Addr}{a0 a1 a2 a3 a4 b0 b1 b2 b3 b4:Int}(ha:bh K H a [.int a0,.int a1,.int a2,.int a3,.int a4])(hb:bh K H b [.int b0,.int b1,.int b2,.int b3,.int b4])(k:∀ p H',ah H H'->H' p=some (.tup [.int (a0+b0),.int (a1+b1),.int (a2+b2),.int (a3+b3),.int (a4+b4)])->Q (.ref p) H'):sy K [.ref a,.ref b] H Q E:=⟨a,b,a0,a1,a2,a3,a4,b0,b1,b2,b3,b4,rfl,ha,hb,k⟩
theorem Mg{a:Addr}{x0 x1 x2 x3 x4 n:Int}(ha:bh K H a [.int x0,.int x1,.int x2,.int x3,.int x4])(hb:(∀ x∈[x0,x1,x2,x3,x4],-1000<=x/\x<=1000)/\(-1000<=n/\n<=1000))(k:∀ p H',ah H H'->H' p=some (.tup [.int (x0*n),.int (x1*n),.int (x2*n),.int (x3*n),.int (x4*n)])->Q (.ref p) H'):sC K [.ref a,.int n] H Q E:=⟨a,x0,x1,x2,x3,x4,n,rfl,ha,hb,k⟩
theorem nr{z:Str}{s c:Nat}(hz:z.length<=1000)(k:Q (.int (bw.runs (z.cps.toList.drop s) c:Nat)) H):hV K [.str z,.int s,.str ⟨#[c]⟩] H Q E:=⟨z,s,c,rfl,hz,k⟩
theorem xD{z:Str}{s c d:Nat}{m:Addr}{r:V}(hz:z.length<=1000)(hm:bh K H m [.str ⟨#[c]⟩,.str ⟨#[d]⟩,r])(k:Q (.int ((bw.runs (z.cps.toList.drop s) c:Int) - bw.runs (z.cps.toList.drop s) d)) H):hZ K [.str z,.int s,.ref m] H Q E:=⟨z,s,c,d,m,r,rfl,hz,hm,k⟩
theorem tK {y:Str} (hy:y.length<=1000) (k:(bw.zv y 4=none->∀ C H',PySem.W.nsIn K mainGlobals "NoName"=some (some (.ref C))->ah H H'->E (.ref C) none H')/\(∀ o,bw.zv y 4=some o->∀ H',ah H H'->Q (.int o) H')):gj K [.str y] H Q E:=⟨y,rfl,hy,k.1,k.2⟩
theorem Mh {z:Str} (hz:z.length<=1000) (k:(bw.Ge z=none->(∀ C H',PySem.W.nsIn K mainGlobals "NoName"=some (some (.ref C))->ah H H'->E (.ref C) none H'))/\(∀ x0 x1 x2 x3 x4:Int,bw.Ge z=some [x0,x1,x2,x3,x4]->fits x0 x1 x2 x3 x4=false->(∀ C H',PySem.W.nsIn K mainGlobals "TooFar"=some (some (.ref C))->ah H H'->E (.ref C) none H'))/\(∀ x0 x1 x2 x3 x4:Int,bw.Ge z=some [x0,x1,x2,x3,x4]->fits x0 x1 x2 x3 x4=true->∀ p H',ah H H'->H' p=some (.tup [.int x0,.int x1,.int x2,.int x3,.int x4])->Q (.ref p) H')):sE K [.str z] H Q E:=⟨z,rfl,hz,k.1,k.2.1,k.2.2⟩
theorem qH {z:Str} (h:z.length<=1000) (k:(okN z=false->∀ (C:Addr) H',(PySem.W.nsIn K mainGlobals "NoName"=some (some (.ref C))\/PySem.W.nsIn K mainGlobals "TooFar"=some (some (.ref C)))->ah H H'->E (.ref C) none H')/\(okN z=true->∀ v H',ah H H'->Q v H')):eW K [.str z] H Q E:=⟨z,rfl,h,k.1,k.2⟩
theorem Ao {w:Str} {k j:Nat} (h:w.length<=1000) (kk:(Fg w=none->∀ (C dx:Addr) H',PySem.W.nsIn K mainGlobals "BadNote"=some (some (.ref C))->ah H H'->H' dx=some (.xd [("bar",.int (k:Nat)),("place",.int (j:Nat))])->E (.ref C) (some dx) H')/\(∀ p,Fg w=some p->∀ q v l H',ah H H'->H' q=some (.tup [v,.ref l])->H' l=some (.tup [.int (bO p).1,.int (bO p).2])->Q (.ref q) H')):iW K [.str w,.int k,.int j] H Q E:=⟨w,k,j,rfl,h,kk.1,kk.2⟩
theorem Cd {z:Str} {k:Nat} {m:Addr} {tt bb:Nat} (h:z.length<=100000/\(PySem.Txt.split z gZ).length<=1500/\bh K H m [.int (bO (tt,bb)).1,.int (bO (tt,bb)).2]/\(1<=bb/\bb<=16)/\(4<=tt/\tt<=15)/\(∀ w∈PySem.Txt.split z gZ,pw tt bb w)) (kk:(jj tt k [A6 tt bb z]=.bar k->∀ (C dx:Addr) H',PySem.W.nsIn K mainGlobals "BadBar"=some (some (.ref C))->ah H H'->H' dx=some (.xd [("bar",.int (k:Nat))])->E (.ref C) (some dx) H')/\(∀ j,jj tt k [A6 tt bb z]=.note k j->∀ (C dx:Addr) H',PySem.W.nsIn K mainGlobals "BadNote"=some (some (.ref C))->ah H H'->H' dx=some (.xd [("bar",.int (k:Nat)),("place",.int (j:Nat))])->E (.ref C) (some dx) H')/\(jj tt k [A6 tt bb z]=.read->∀ v H',ah H H'->Q v H')):jR K [.str z,.int k,.ref m] H Q E:=⟨z,k,m,tt,bb,rfl,h.1,h.2.1,h.2.2.1,h.2.2.2.1,h.2.2.2.2.1,h.2.2.2.2.2,kk.1,kk.2.1,kk.2.2⟩
theorem nt {z:Str} (h:z.length<=1000) (k:(bo.lj z 4=none->∀ (C:Addr) H',PySem.W.nsIn K mainGlobals "NoTune"=some (some (.ref C))->ah H H'->E (.ref C) none H')/\(∀ p,bo.lj z 4=some p->∀ m H',ah H H'->H' m=some (.tup [.int (bO p).1,.int (bO p).2])->Q (.ref m) H')):h7 K [.str z] H Q E:=⟨z,rfl,h,k.1,k.2⟩
theorem Ap {z a m b:Str} {R:Res} (h1:z.length<=200000) (h2:PySem.Txt.partition z k8=(a,m,b)) (h3:((m=PySem.Str.empty/\R=.gv)\/(a.length<=1000/\m≠PySem.Str.empty/\bo.lj a 4=none/\R=.gv)\/∃ tt bb,a.length<=1000/\m≠PySem.Str.empty/\bo.lj a 4=some (tt,bb)/\(1<=bb/\bb<=16)/\(4<=tt/\tt<=15)/\(PySem.Txt.split b dy).length<=1500/\b.length<=200000/\(∀ p∈PySem.Txt.split b dy,p.length<=100000/\(PySem.Txt.split p gZ).length<=1500/\∀ w∈PySem.Txt.split p gZ,pw tt bb w)/\R=B5 tt bb b)) (k:(R=.gv->∀ (C:Addr) H',PySem.W.nsIn K mainGlobals "NoTune"=some (some (.ref C))->ah H H'->E (.ref C) none H')/\(∀ k,R=.bar k->∀ (C dx:Addr) H',PySem.W.nsIn K mainGlobals "BadBar"=some (some (.ref C))->ah H H'->H' dx=some (.xd [("bar",.int (k:Nat))])->E (.ref C) (some dx) H')/\(∀ k j,R=.note k j->∀ (C dx:Addr) H',PySem.W.nsIn K mainGlobals "BadNote"=some (some (.ref C))->ah H H'->H' dx=some (.xd [("bar",.int (k:Nat)),("place",.int (j:Nat))])->E (.ref C) (some dx) H')/\(R=.read->∀ v H',ah H H'->Q v H')):iX K [.str z] H Q E:=⟨z,a,m,b,R,rfl,h1,h2,h3,k.1,k.2.1,k.2.2.1,k.2.2.2⟩
theorem tL{a:Addr}{ns:List Int}{j:Int}(ha:bA K H a (ns.map V.int))(h0:0<=j)(k:Q (.int (ns.getD j.toNat 0)) H):dE K [.ref a,.int j] H Q E:=⟨a,ns,j,rfl,ha,h0,k⟩
theorem jV{c j:Int}(hj:0<=j/\j<=1000)(k:∀ m:Int,0<=m->m<999983->Q (.int m) H):fT K [.int c,.int j] H Q E:=⟨c,j,rfl,hj,k⟩
theorem xE{c:Int}{n t:Nat}(h:1<=n/\n<=24/\n<=t/\t<=100)(k:∀ (l:Addr) H' (ps:List Int),H l=none->ah H H'->H' l=some (.lst (ps.map V.int))->ps.length=n->(∀ p∈ps,1<=p/\p<=t)->ps.sum=(t:Int)->Q (.ref l) H'):h8 K [.int c,.int n,.int t] H Q E:=let ⟨h1,h2,h3,h4⟩:=h;⟨c,n,t,rfl,h1,h2,h3,h4,k⟩
theorem Fq{c:Int}(k:∀ (w:Str) H',ah H H'->w∈B3->Q (.str w) H'):lS K [.int c] H Q E:=⟨c,rfl,k⟩
theorem Ce{a:Addr}{ns:List Int}{tt bb:Nat}(h:bA K H a (ns.map V.int)/\(4<=tt/\tt<=15)/\(1<=bb/\bb<=16))(k:∀ l xs bz H',ah H H'->H' l=some (.lst xs)->Fa (A7 H') xs bz->sk tt bb 4 bz->Q (.ref l) H'):jS K [.ref a,.int tt,.int bb] H Q E:=⟨a,ns,tt,bb,rfl,h.1,h.2.1,h.2.2,k⟩
theorem Aq{tt bb:Nat}(h:(4<=tt/\tt<=15)/\(1<=bb/\bb<=16))(k:∀ d H',ah H H'->PR tt bb H' d->Q (.ref d) H'):iY K [.int tt,.int bb] H Q E:=⟨tt,bb,rfl,h.1,h.2,k⟩
theorem xF{z:Str}{d:Addr}{tt bb:Nat}(h:z.length<=200000/\PR tt bb H d/\(PySem.Txt.split z dy).length<=1500/\(∀ p∈PySem.Txt.split z dy,p.length<=100000/\(PySem.Txt.split p gZ).length<=1500))(k:∀ l H' xs,ah H H'->H' l=some (.lst xs)->Fa (L9 K H') xs ((PySem.Txt.split z dy).map (A6 tt bb))->Q (.ref l) H'):ia K [.str z,.ref d] H Q E:=⟨z,d,tt,bb,rfl,h.1,h.2.1,h.2.2.1,h.2.2.2,k⟩
theorem xG{l:Addr}{xs:List V}{bz:List (List Str)}{tt bb N:Nat}{c:Int}(h:H l=some (.lst xs)/\Fa (A7 H) xs bz/\sk tt bb N bz/\N<=60)(k:∀ l2 P1 Ca H',ah H H'->H' l2=some (.lst P1)->Fa (A7 H') P1 Ca->sk tt bb (max N 29+1) Ca->Q (.ref l2) H'):ib K [.ref l,.int c] H Q E:=⟨l,xs,bz,tt,bb,N,c,rfl,h.1,h.2.1,h.2.2.1,h.2.2.2,k⟩
theorem Fs{l:Addr}{xs:List V}{bs:List (List Nat)}{tt:Nat}(h1:bA K H l xs)(h:Fa (L9 K H) xs bs/\bs.length<=1500/\(∀ ps∈bs,ps.length<=1500))(k:∀ p H',ah H H'->H' p=some (.tup (Kj (Jc tt bs)))->Q (.ref p) H'):lT K [.ref l,.int tt] H Q E:=⟨l,xs,bs,tt,rfl,h1,h.1,h.2.1,h.2.2,k⟩
theorem Cf{a:Addr}{ns:List Int}{b h:Str}(q:bA K H a (ns.map V.int)/\58∉h.cps.toList/\h.length<=100/\mY b.cps.toList=true/\b.length<=100000)(k:∀ (z:Str) H',ah H H'->z.length<=200000->TU (ns.getD 0 0 % 6) h b z->Q (.str z) H'):jT K [.ref a,.str b,.str h] H Q E:=⟨a,ns,b,h,rfl,q.1,q.2.1,q.2.2.1,q.2.2.2.1,q.2.2.2.2,k⟩
theorem Cg{z a m b:Str}{R:Res}(h1:z.length<=200000)(h2:PySem.Txt.partition z k8=(a,m,b))(h3:((m=PySem.Str.empty/\R=.gv)\/(a.length<=1000/\m≠PySem.Str.empty/\bo.lj a 4=none/\R=.gv)\/∃ tt bb,a.length<=1000/\m≠PySem.Str.empty/\bo.lj a 4=some (tt,bb)/\(1<=bb/\bb<=16)/\(4<=tt/\tt<=15)/\(PySem.Txt.split b dy).length<=1500/\b.length<=200000/\(∀ p∈PySem.Txt.split b dy,p.length<=100000/\(PySem.Txt.split p gZ).length<=1500/\∀ w∈PySem.Txt.split p gZ,pw tt bb w)/\R=B5 tt bb b))(k:∀ p H',ah H H'->H' p=some (.tup (Nl R))->Q (.ref p) H'):jU K [.str z] H Q E:=⟨z,a,m,b,R,rfl,h1,h2,h3,k⟩
theorem lA {e C:Addr} {y:V} (h:H e=some (gu e C none)) (hc:PySem.W.nsIn K mainGlobals "BadBar"=some (some (.ref C))) (k:∀ dx,H dx=none->dx≠e->Q .dt (upd (upd H dx (.xd [("bar",y)])) e (gu e C (some dx)))):gk K [.ref e,y] H Q E:=⟨e,C,y,rfl,h,hc,k⟩
theorem gm {e C:Addr} {y x:V} (h:H e=some (gu e C none)) (hc:PySem.W.nsIn K mainGlobals "BadNote"=some (some (.ref C))) (k:∀ dx,H dx=none->dx≠e->Q .dt (upd (upd (upd H dx (.xd [("bar",y)])) e (gu e C (some dx))) dx (.xd [("bar",y),("place",x)]))):fM K [.ref e,y,x] H Q E:=⟨e,C,y,x,rfl,h,hc,k⟩
end
local macro_rules|`(tactic| walk_at "hf") => `(tactic| first|assumption|exact L2.bh.of (by assumption)|exact L2.bA.of (by assumption)|exact L2.dq.at (by assumption)|((with_reducible apply L2.OG);(walk_at "hf"))|((with_reducible apply L2.iJ);(walk_at "hf"))|((with_reducible apply L2.ah.at);(assumption);(walk_at "hf"))|((with_reducible apply L2.ah.seq);(assumption);(walk_at "hf"))|((with_reducible apply L2.ah.lst);(assumption);(walk_at "hf"))|((with_reducible apply L2.ah.sq);(assumption);(walk_at "hf")))
local macro_rules|`(tactic| walk_at "sm") => `(tactic| first|exact L2.ah.refl _|assumption|((refine L2.ah.trans ?_ (by assumption));walk_at "sm"))
local macro_rules|`(tactic| walk_at "side") => `(tactic| first|(show (0 : Int)<_;first|decide|lia)|exact⟨by decide, by decide⟩|exact⟨by lia, by lia⟩|exact Or.inl ⟨by decide, by decide⟩|exact Or.inr ⟨by decide, by decide⟩|exact Or.inr ⟨by lia, by lia⟩|exact Or.inl ⟨by lia, by lia⟩|exact⟨by decide, by decide, by decide⟩|assumption)
local macro_rules|`(tactic| walk_at "p") => `(tactic| first
 | (with_reducible refine L2.Se ?_)|(with_reducible refine L2.Sf ?_)|(with_reducible refine L2.Lc ?_)|(with_reducible refine L2.Sh ?_)|(with_reducible refine L2.Ot ?_)|(with_reducible refine L2.Ou ?_)
 | ((with_reducible apply L2.Sj);(exact rfl))|(with_reducible refine L2.ZI ?_)|(with_reducible refine L2.VC ?_)|(with_reducible refine L2.ZJ ?_)|(with_reducible refine L2.Ov ?_)|(with_reducible refine L2.Ow ?_)
 | (with_reducible refine L2.Sk ?_)|(with_reducible refine L2.VD ?_)|(with_reducible refine L2.Sl ?_)|(with_reducible refine L2.Ox ?_)|(with_reducible refine L2.Oy ?_)|(with_reducible refine L2.Sm ?_)
 | (with_reducible refine L2.VE ?_)|((with_reducible refine L2.VF ?_ ?_);(walk_at "side"))|(with_reducible refine L2.So ?_)|(with_reducible refine L2.Sr ?_)|(with_reducible refine L2.Ss ?_)|(with_reducible refine L2.Oz ?_)|(with_reducible refine L2.Su ?_)|(with_reducible refine L2.Sv ?_)|((with_reducible refine L2.OA ?_ ?_);(first|exact aaV rfl|(focus (simp;done))|(focus (simp;lia)));intro p_ H_ s_ m_)|((with_reducible refine L2.Hv ?_ ?_);(first|exact aaV rfl|(focus (simp;done))|(focus (simp;lia)));intro p_ H_ n_ s_ m_)
 | (with_reducible refine L2.VG ?_)|(with_reducible refine L2.Lh ?_)|(with_reducible refine L2.OB ?_)|(with_reducible refine L2.VH ?_)|(with_reducible refine L2.Hw ?_)|(with_reducible refine L2.OC ?_)|(with_reducible refine L2.Ld ?_)|(with_reducible refine L2.VI ?_)|(with_reducible refine L2.Sw ?_)|(with_reducible refine L2.Le ?_)|(with_reducible refine L2.OD ?_)|(with_reducible refine L2.OE ?_)|(with_reducible refine L2.OF ?_)
 | ((with_reducible apply L2.Sx);(walk_at "hf"))|((with_reducible apply L2.Sy);(walk_at "hf"))|((with_reducible refine L2.Sz ?_ ?_ ?_);(first|decide|lia);(first|decide|lia))|((with_reducible apply L2.SA);(walk_at "hf");(walk_at "hf"))
 | ((with_reducible apply L2.OH);(walk_at "hf"))|((with_reducible apply L2.OI);(walk_at "hf"))
 | ((with_reducible apply L2.zz);(walk_at "hf");intro p_ H_ s_ m_)|((with_reducible apply L2.Lf);(walk_at "hf");intro p_ H_ n_ s_ m_)|(with_reducible refine L2.SE ?_)|((with_reducible apply L2.OJ);(walk_at "hf");(first|exact L2.mB _ _|exact rfl))|((with_reducible apply L2.OK);(walk_at "hf");(first|exact L2.mB _ _|exact rfl))|((with_reducible apply L2.OL);(first|exact L2.mB _ _|exact rfl))|((with_reducible apply L2.OM);(first|exact L2.mB _ _|exact rfl))
 | ((with_reducible refine L2.Lg ?_ ?_);(first|exact rfl|exact Or.inl ⟨rfl,_,by walk_at "hf"⟩))
 | ((with_reducible apply L2.Hx);(walk_at "hf");(walk_at "hf");(first|exact aaV rfl|(focus (simp;done))|(focus (simp;lia)));intro p_ H_ n_ s_ m_)
 | ((with_reducible apply L2.Hy);(walk_at "hf");(walk_at "hf");(exact cons_ne_nil _ _);(exact cons_ne_nil _ _);(first|exact aaV rfl|(focus (simp;done))|(focus (simp;lia)));intro p_ H_ s_ m_)
 | ((with_reducible apply L2.OT);(exact rfl))|((with_reducible apply L2.OU);(exact rfl))|(with_reducible refine L2.OV ?_)|(with_reducible refine L2.Ln ?_)|(with_reducible refine L2.Lo ?_)|(with_reducible refine L2.Pl ?_)|((with_reducible apply L2.SR);(walk_at "hf");(exact rfl);(exact rfl))|(with_reducible refine L2.O8 ?_)|(with_reducible refine L2.LB ?_)|((with_reducible refine L2.O3 ?_ ?_ ?_);(first|exact⟨by decide,by decide⟩|exact⟨by lia,by lia⟩);(first|exact⟨by decide,by decide⟩|exact⟨by lia,by lia⟩))|(with_reducible refine L2.Lw ?_)|((with_reducible apply L2.SY);(walk_at "hf")))
local macro_rules|`(tactic| walk_at "q") => `(tactic| first|(walk_at "p")|(with_reducible refine L2.Si ?_))
local macro_rules|`(tactic| walk_at "x") => `(tactic| first|((with_reducible apply L2.SD);(walk_at "hf");(exact rfl))|((with_reducible apply L2.mI);(walk_at "hf");(exact rfl)))
local macro_rules|`(tactic| walk_at "r") => `(tactic| first|(walk_at "q")|(walk_at "x"))
local macro_rules|`(tactic| walk_at "v") => `(tactic| repeat walk_at "q")
local macro_rules|`(tactic| walk_at "j") => `(tactic| repeat (first|(walk_at "p")|(walk_at "x")))
local macro_rules|`(tactic| walk_at "sz") => `(tactic| first|exact L2.dU (by lia)|decide|exact L2.dU (by simp only [PySem.strLen_append];lia)|assumption)
local macro_rules|`(tactic| walk_at "p") => `(tactic| first|((with_reducible refine L2.Pf ?_ ?_);(exact aaV rfl);intro p_ H_ n_ s_ m_)|(with_reducible refine L2.Pc ?_)|(with_reducible refine L2.Ta ?_)|((with_reducible refine L2.Pd ?_ ?_);(walk_at "sz"))|((with_reducible refine L2.BJ ?_ ?_);(walk_at "sz"))|(with_reducible refine L2.Tc ?_)|((with_reducible refine L2.Tb ?_ ?_);(walk_at "sz"))|(with_reducible refine L2.LI ?_)|(with_reducible refine L2.Pe ?_)|(with_reducible refine L2.Te ?_)|(with_reducible refine L2.Tf ?_) )
local macro_rules|`(tactic| walk_at "p") => `(tactic| ((with_reducible apply Mf);(walk_at "hf");(walk_at "hf");intro p_ H_ s_ m_))
local macro_rules|`(tactic| walk_at "p") => `(tactic| ((with_reducible apply tL);(walk_at "hf");(first|decide|lia)))
local macro_rules|`(tactic| walk_at "w") => `(tactic| repeat walk_at "r")
section
variable {P:Program}{w:World}{K:Frag}{mg:Str->Option Value}{base:Heap}{G:qT}
theorem sG:aE ["text","most"] ["text","most"] (aq gU):=⟨rfl,rfl,rfl,by decide +kernel,rfl,by decide +kernel,by decide +kernel⟩
theorem sH (D:Def K mg "is_counting" gU ["text","most"]) (T:Txt P w K mg G):Ok P w K mg base 1 "is_counting" ["text","most"] (eJ K):=by
 have S:=sG
 refine D.ok S (fun vs H Q E h=>?_) (fun f bU A outer s H vs Q E hr h=>?_)
 ·obtain ⟨_,_,rfl,_⟩:=h;rfl
 ·obtain ⟨z,m,rfl,hz,k⟩:=h
  have hu:=bt hr
  have aI:=T.aI
  have ak:=T.ak
  refine⟨_,(ag (bT (PW.pt (y6 (lE (Gy Gv Gv ai (aJ lI rfl T.fO PySem.boot_len (aa (pv 0) af)) (pv 1))) (qZ (aT ip (bL wo (pv 0) ai (fun _ _=>rfl)) aH (aZ _))))) (aj (aP qY)) aV) (aj (aP (aJ (wX K rfl rfl) rfl T.Ea boot_all (aa (fQ (N:=["figure"]) (ix:=[none]) rfl (Pa (pv 0)) (fun _ _ _ _ _=>(aU (i:=0) (show Ci ["figure"] by decide +kernel) rfl (Or.inl rfl))) (fun _ _ _ _ _=>rfl) (fun _ _ _ _ _=>(qM Pb (pv 0) aH (by with_unfolding_all rfl))) rfl (by decide +kernel) (by decide +kernel) rfl True.intro) af))))),?_⟩
  walk_at "w"
  by_cases h1:1<=z.length
  ·rw [if_pos (aas (by lia))]
   walk_at "w"
   by_cases h2:z.length<=m
   ·rw [if_neg (by rw [aas (show (z.length:Int)<=(m:Int) by lia)];decide)]
    walk_at "w"
    obtain ⟨c,hc⟩:=bo.VB h1
    refine Ik (dU (by lia)) (iG (j:=0) (by rw [Array.getElem?_toList];exact hc)) ?_
    walk_at "w"
    rw [bo.str0]
    by_cases h3:c=48
    ·rw [if_pos (aas (by rw [h3]))]
     walk_at "w"
     rw [bo.Br (by rw [hc,h3])] at k
     exact k _ (ah.refl _)
    ·rw [if_neg (by rw [aar (fun e=>h3 (bo.wL.mp e))];decide)]
     walk_at "w"
     refine Il _ (fun i=>V.bl (bo.Dv ((z.cps[i]?).getD 0))) rfl hz (fun i d H' Qc hd s1 kc=>?_) (fun l H' hl s1 m1=>?_)
     ·walk_at "w"
      rw [bo.RV,bo.EJ]
      have:=kc _ (ah.refl _)
      rw [hd] at this
      exact this
     ·walk_at "w"
      refine DD (bs:=(List.range z.cps.size).map fun i=>bo.Dv ((z.cps[i]?).getD 0)) (bA.of (by rw [aaR];exact m1)) ?_
      rw [bo.all_range,<- bo.K8 h1 h2 hc h3]
      exact k _ s1
   ·rw [if_pos (by rw [aar (show ¬ (z.length:Int)<=(m:Int) by lia)];rfl)]
    walk_at "w"
    rw [bo.Hg h2] at k
    exact k _ (ah.refl _)
  ·rw [if_neg (by rw [aar (show ¬ (1:Int)<=z.length by lia)];decide)]
   walk_at "w"
   rw [bo.vH h1] at k
   exact k _ (ah.refl _)
theorem xH:aE ["text","most"] ["text","most"] (aq jz):=⟨rfl,rfl,rfl,by decide +kernel,rfl,by decide +kernel,by decide +kernel⟩
structure xI(P:Program)(w:World)(K:Frag)(mg:Str->Option Value)(base:Heap)(G:qT):Prop where
 jW:Ok P w K mg base 1 "is_counting" ["text","most"] (eJ K)
theorem xJ (D:Def K mg "is_signed" jz ["text","most"]) (T:Txt P w K mg G) (O:xI P w K mg base G):Ok P w K mg base 2 "is_signed" ["text","most"] (iV K):=by
 have S:=xH
 refine D.ok S (fun vs H Q E h=>?_) (fun f bU A outer s H vs Q E hr h=>?_)
 ·obtain ⟨_,_,rfl,_⟩:=h;rfl
 ·obtain ⟨y,m,rfl,hy,k⟩:=h
  have hu:=bt hr
  have aI:=T.aI
  have ak:=T.ak
  refine⟨_,(ag (bT (aT ip (pv 0) aH (aZ _)) (aj (aP qY)) aV) (aj (aP (bj O.jW (hr.mono (by decide)) (aa (y8 (jr (fi PySem.F.plainAttrs_str PySem.F.slot_str_startswith PySem.F.type_str_startswith E7 (pv 0) (aa aH af))) (fh w9 (pv 0) (eZ ai) kf) (pv 0)) (aa (pv 1) af)))))),?_⟩
  walk_at "w"
  rw [bo.str0]
  by_cases h0:y=⟨#[48]⟩
  ·rw [if_pos (aas h0)]
   walk_at "w"
   have e:bw.zv y m=some 0:=by unfold bw.zv;rw [if_pos h0]
   rw [e] at k
   exact k _ (ah.refl _)
  rw [if_neg (by rw [aar h0];decide)]
  walk_at "w"
  refine Ip ?_
  rw [bw.Hl]
  walk_at "w"
  by_cases h1:y.cps[0]?=some 45
  ·rw [if_pos (aas h1)]
   walk_at "w"
   refine fg (aah (PySem.Txt.slice_le y _ _) hy) fun H1 s1=>?_
   have es:PySem.Txt.slice y (some 1) none=⟨(y.cps.toList.drop 1).toArray⟩:=bw.Dz y 0
   rw [es]
   have e:(bw.zv y m).isSome=bo.cnt ⟨(y.cps.toList.drop 1).toArray⟩ m:=by
    unfold bw.zv
    rw [if_neg h0,if_pos h1]
    cases bo.cnt ⟨(y.cps.toList.drop 1).toArray⟩ m <;> rfl
   rw [e] at k
   exact k _ s1
  ·rw [if_neg (by rw [aar h1];decide)]
   walk_at "w"
   refine fg hy fun H1 s1=>?_
   have e:(bw.zv y m).isSome=bo.cnt y m:=by
    unfold bw.zv
    rw [if_neg h0,if_neg h1]
    cases bo.cnt y m <;> rfl
   rw [e] at k
   exact k _ s1
theorem tM:aE ["text","most","parts"] ["text","most"] (aq iM):=⟨rfl,rfl,rfl,by decide +kernel,rfl,by decide +kernel,by decide +kernel⟩
structure tN(P:Program)(w:World)(K:Frag)(mg:Str->Option Value)(base:Heap)(G:qT):Prop where
 jW:Ok P w K mg base 1 "is_counting" ["text","most"] (eJ K)
theorem tO (D:Def K mg "parts_read" iM ["text","most"]) (T:Txt P w K mg G) (O:tN P w K mg base G):Ok P w K mg base 2 "parts_read" ["text","most"] (g0 K):=by
 have S:=tM
 refine D.ok S (fun vs H Q E h=>?_) (fun f bU A outer s H vs Q E hr h=>?_)
 ·obtain ⟨_,_,rfl,_⟩:=h;rfl
 ·obtain ⟨z,m,rfl,hz,hm,k1,k2⟩:=h
  have hu:=bt hr
  have aI:=T.aI
  have ak:=T.ak
  refine⟨_,(ag (aB (i:=2) S.nd rfl (Or.inl rfl) (fi PySem.F.plainAttrs_str PySem.F.slot_str_split PySem.F.type_str_split Ij (pv 0) (aa aH af))) (ag (bT (PW.pt (y6 (aT zd (aJ (eU K rfl) rfl T.fO PySem.boot_len (aa (pv 2) af)) ai (aZ _)) (qZ (lE (jr (aJ (wX K rfl rfl) rfl T.Ea boot_all (aa (fQ (N:=["part","most"]) (ix:=[none,some 1]) rfl (gc K rfl (pv 2)) (fun _ _ _ _ _=>(aU (i:=0) (show Ci ["part","most"] by decide +kernel) rfl (Or.inl rfl))) (fun _ _ _ _ _=>rfl) (fun _ _ _ _ _=>(bj O.jW (hr.mono (by decide)) (aa (pv 0) (aa (pv 1) af)))) rfl (by decide +kernel) (by decide +kernel) rfl ⟨⟨rfl,Or.inr (Or.inl rfl),rfl,rfl⟩,True.intro⟩) af))))))) (aj (aP A8)) aV) (aj (aP (bE (aa (bV nV rfl T.Ad boot_int (aa (bL (bp K rfl) (pv 2) ai (fun _ _=>rfl)) af)) (aa (bV nV rfl T.Ad boot_int (aa (bL (bp K rfl) (pv 2) ai (fun _ _=>rfl)) af)) af))))))),?_⟩
  have SN:=bo.split_len z
  walk_at "w"
  refine LH (by decide) (by lia) (by rw [bo.RW];lia) fun p1 H1 n1 s1 m1=>?_
  rw [bo.RW] at m1
  by_cases h2:(PySem.Txt.split z bo.aO).length=2
  ·obtain ⟨a,b,UM,la,lb⟩:=bo.Ol h2
   rw [UM] at m1
   have m1:H1 p1=some (.lst [.str a,.str b]):=m1
   have P2:=bo.wM (m:=m) UM
   walk_at "w"
   rw [if_neg (show ¬ (!decide ((([V.str a,V.str b].length:Nat):Int)=2))=true from Bool.noConfusion)]
   walk_at "w"
   refine Ie _ (fun i=>V.bl (bo.cnt (([a,b]:List Str).getD i a) m)) rfl (bA.of m1) (show 2<=1000000 by decide) (fun i x H' Qc hx s2 kc=>?_) (fun l H' hl s2 m2=>?_)
   ·have hi:i<2:=(aad.mp hx).1
    match i,hi with
    | 0,_ =>
     cases hx
     walk_at "w"
     exact fg (by lia) fun H5 s5=>kc _ s5
    | 1,_ =>
     cases hx
     walk_at "w"
     exact fg (by lia) fun H5 s5=>kc _ s5
   ·have m2:H' l=some (.lst ([bo.cnt a m,bo.cnt b m].map V.bl)):=m2
    walk_at "w"
    refine DD (bA.of m2) ?_
    rw [show [bo.cnt a m,bo.cnt b m].all id=(bo.cnt a m && bo.cnt b m) by simp]
    walk_at "w"
    by_cases hc:(bo.cnt a m && bo.cnt b m)=true
    ·rw [hc] at P2 ⊢
     rw [if_pos rfl] at P2
     rw [Bool.and_eq_true] at hc
     have r1:=bo.fU hc.1 hm
     have r2:=bo.fU hc.2 hm
     have m3:=s2 _ _ m1
     rw [if_neg (show ¬ (!true)=true by decide)]
     walk_at "w"
     refine BI r1.1 (by lia) ?_
     walk_at "w"
     refine BI r2.1 (by lia) ?_
     walk_at "w"
     rename_i p4 H4 s4 m4
     exact k1 _ _ P2 _ _ ((s1.trans s2).trans s4) m4
    ·rw [if_neg hc] at P2
     rw [Bool.not_eq_true] at hc
     rw [hc]
     rw [if_pos (show (!false)=true from rfl)]
     walk_at "w"
     exact k2 P2 _ (s1.trans s2)
  ·have P2:=bo.wN (m:=m) h2
   walk_at "w"
   rw [if_pos (by rw [aaD,aar (by lia)];rfl)]
   walk_at "w"
   exact k2 P2 _ s1
theorem tP:aE ["numbers","found","number","other","left"] ["numbers"] (aq iN):=⟨rfl,rfl,rfl,by decide +kernel,rfl,by decide +kernel,by decide +kernel⟩
theorem tQ (D:Def K mg "divisor_of" iN ["numbers"]) (T:Txt P w K mg G):Ok P w K mg base 1 "divisor_of" ["numbers"] (hJ K):=by
 have S:=tP
 refine D.ok S (fun vs H Q E h=>?_) (fun f bU A outer s H vs Q E hr h=>?_)
 ·obtain ⟨_,_,_,rfl,_⟩:=h;rfl
 ·obtain ⟨a,t,b,rfl,ha,k⟩:=h
  have hu:=bt hr
  have aI:=T.aI
  have ak:=T.ak
  refine⟨_,(ag (aB (i:=1) S.nd rfl (Or.inl rfl) ai) (ag (fH PassesOwn.never rfl (mK K rfl (pv 0)) (aU (i:=2) S.nd rfl (Or.inl rfl)) (ag (aB (i:=3) S.nd rfl (Or.inl rfl) (aJ nP rfl T.Jt boot_abs (aa (pv 2) af))) (aj (za PassesOwn.never (aT zd (pv 3) ai (aZ _)) (ag (aB (i:=4) S.nd rfl (Or.inl rfl) (aw cv (pv 1) (pv 3))) (ag (aB (i:=1) S.nd rfl (Or.inl rfl) (pv 3)) (aj (aB (i:=3) S.nd rfl (Or.inl rfl) (pv 4))))))))) (aj (aP (pv 1))))),?_⟩
  walk_at "w"
  refine ON ha (fun i σ=>∃ o1 o2 o3,σ=[some (.ref a),some (.int (gP t b i:Nat)),o1,o2,o3]) ⟨_,_,_,rfl⟩ (fun i x σ hx hp=>?_) (fun σ hp=>?_)
  ·obtain ⟨o1,o2,o3,rfl⟩:=hp
   have hi:i<2:=(aad.mp hx).1
   obtain ⟨z,rfl,hz⟩:∃ z:Nat,x=.int z/\Nat.gcd (gP t b i) z=gP t b (i+1):=by
    match i,hi with
    | 0,_=>cases hx;exact⟨t,rfl,Nat.gcd_zero_left _⟩
    | 1,_=>cases hx;exact⟨b,rfl,rfl⟩
   have WD:¬ ((z:Int)<0):=by lia
   walk_at "w"
   rw [if_neg WD]
   refine DA (fun m σ' H'=>∃ (f:Nat) (o:Option V),σ'=[some (.ref a),some (.int f),some (.int z),some (.int m),o]/\H'=H/\Nat.gcd f m=gP t b (i+1)) z ⟨_,_,rfl,rfl,hz⟩ (fun m σ' H' hw=>?_)
   obtain ⟨f,o,rfl,rfl,hg⟩:=hw
   walk_at "w"
   refine dR (fun hc=>?_) (fun hc=>?_)
   ·have hm:0<m:=by simp at hc;lia
    refine SI ?_
    walk_at "w"
    refine⟨f % m,mod_lt _ hm,m,_,by rw [Int.natCast_emod] <;> rfl,rfl,?_⟩
    rw [zq]
    exact hg
   ·have hm:m=0:=by simp at hc;lia
    subst hm
    rw [Nat.gcd_zero_right] at hg
    subst hg
    exact⟨⟨_,_,_,rfl⟩,rfl⟩
  ·obtain ⟨o1,o2,o3,rfl⟩:=hp
   walk_at "w"
   exact k
theorem Ft:aE ["top","bottom","divisor"] ["top","bottom"] (aq r6):=⟨rfl,rfl,rfl,by decide +kernel,rfl,by decide +kernel,by decide +kernel⟩
structure Fu(P:Program)(w:World)(K:Frag)(mg:Str->Option Value)(base:Heap)(G:qT):Prop where
 Cj:Ok P w K mg base 1 "divisor_of" ["numbers"] (hJ K)
theorem Fv (D:Def K mg "lowest" r6 ["top","bottom"]) (T:Txt P w K mg G) (O:Fu P w K mg base G):Ok P w K mg base 2 "lowest" ["top","bottom"] (kM K):=by
 have S:=Ft
 refine D.ok S (fun vs H Q E h=>?_) (fun f bU A outer s H vs Q E hr h=>?_)
 ·obtain ⟨_,_,rfl,_⟩:=h;rfl
 ·obtain ⟨t,b,rfl,h0,h9,k⟩:=h
  have hu:=bt hr
  have aI:=T.aI
  have ak:=T.ak
  refine⟨_,(ag (aB (i:=2) S.nd rfl (Or.inl rfl) (bj O.Cj (hr.mono (by decide)) (@aa _ _ _ _ _ (@bE _ _ _ _ _ (aa (pv 0) (aa (pv 1) af))) af (by rfl)))) (aj (aP (bE (aa (aw zl (pv 0) (pv 2)) (aa (aw zl (pv 1) (pv 2)) af)))))),?_⟩
  walk_at "w"
  rename_i p1 H1 s1 m1
  refine xC (bh.of m1) ?_
  have hg:0<Nat.gcd t b:=Nat.gcd_pos_of_pos_right _ h0
  have hl:=WA hg (aaJ (IY h0) h9)
  have hgi:(0:Int)<(Nat.gcd t b:Nat):=by lia
  walk_at "w"
  rename_i p2 H2 s2 m2
  refine k _ _ (s1.trans s2) ?_
  rw [m2,Int.natCast_ediv,Int.natCast_ediv]
theorem sI:aE ["text","parts"] ["text"] (aq gV):=⟨rfl,rfl,rfl,by decide +kernel,rfl,by decide +kernel,by decide +kernel⟩
structure sJ(P:Program)(w:World)(K:Frag)(mg:Str->Option Value)(base:Heap)(G:qT):Prop where
 Ck:Ok P w K mg base 2 "parts_read" ["text","most"] (g0 K)
 Cm:Ok P w K mg base 2 "lowest" ["top","bottom"] (kM K)
theorem sL (D:Def K mg "length_read" gV ["text"]) (T:Txt P w K mg G) (O:sJ P w K mg base G):rU P w K mg base 3 "length_read" ["text"] (eM K):=by
 have S:=sI
 refine D.UJ S (fun vs H Q E h=>?_) (fun f bU A outer s H vs Q E hr h=>?_)
 ·obtain ⟨_,rfl,_⟩:=h;rfl
 ·obtain ⟨z,rfl,hz,k1,k2⟩:=h
  have hu:=bt hr
  have aI:=T.aI
  have ak:=T.ak
  refine⟨_,(ag (aB (i:=1) S.nd rfl (Or.inl rfl) (bj O.Ck (hr.mono (by decide)) (aa (pv 0) (aa (aY (v:=V.int 4) rfl T.su ⟨_,rfl⟩) af)))) (ag (bT (aT NU (pv 1) A8 (aZ _)) (aj (fk T.B9 PySem.F.excBase_ValueError (by decide +kernel) PySem.F.excBase_ValueError rfl (fun _ _ z=>z) rfl rfl T.cp (aa aH af))) aV) (aj (aP (bj O.Cm (hr.mono (by decide)) (aa (bL (bp K rfl) (pv 1) ai (fun _ _=>rfl)) (aa (bL (bp K rfl) (pv 1) ai (fun _ _=>rfl)) af))))))),?_⟩
  walk_at "w"
  refine xB ⟨hz,by decide⟩ ⟨fun t b ht p1 H1 s1 m1=>?_,fun hn H1 s1=>?_⟩
  ·have hb:=bo.Hi (by decide) ht
   have h9:b<2 ^ 9000:=Nat.lt_trans hb.2.2.2 (by decide +kernel)
   walk_at "w"
   refine⟨rfl,?_⟩
   walk_at "w"
   rw [if_neg (show ¬ decide (V.ref p1=V.dt)=true by rw [aar (fun h=>nomatch h)];decide)]
   walk_at "w"
   exact An hb.2.2.1 h9 fun p2 H2 s2 m2=>k1 _ _ ht _ _ (s1.trans s2) m2
  ·walk_at "w"
   refine⟨rfl,?_⟩
   walk_at "w"
   rw [if_pos (by decide)]
   walk_at "w"
   exact⟨by decide,k2 hn _ _ T.lP s1⟩
theorem Fw:aE ["lengths","total","length"] ["lengths"] (aq r8):=⟨rfl,rfl,rfl,by decide +kernel,rfl,by decide +kernel,by decide +kernel⟩
structure Fx(P:Program)(w:World)(K:Frag)(mg:Str->Option Value)(base:Heap)(G:qT):Prop where
 Cm:Ok P w K mg base 2 "lowest" ["top","bottom"] (kM K)
theorem Fy (D:Def K mg "summed" r8 ["lengths"]) (T:Txt P w K mg G) (O:Fx P w K mg base G):Ok P w K mg base 3 "summed" ["lengths"] (oF K):=by
 have S:=Fw
 refine D.ok S (fun vs H Q E h=>?_) (fun f bU A outer s H vs Q E hr h=>?_)
 ·obtain ⟨_,_,_,rfl,_⟩:=h;rfl
 ·obtain ⟨l,xs,rs,rfl,hl,YQ,hg,hn,k⟩:=h
  have hu:=bt hr
  have aI:=T.aI
  have ak:=T.ak
  refine⟨_,(ag (aB (i:=1) S.nd rfl (Or.inl rfl) (bE (aa ai (aa ai af)))) (ag (fH PassesOwn.never rfl (gc K rfl (pv 0)) (aU (i:=2) S.nd rfl (Or.inl rfl)) (aj (aB (i:=1) S.nd rfl (Or.inl rfl) (bj O.Cm (hr.mono (by decide)) (aa (aw bK (aw qN (bL (bp K rfl) (pv 1) ai (fun _ _=>rfl)) (bL (bp K rfl) (pv 2) ai (fun _ _=>rfl))) (aw qN (bL (bp K rfl) (pv 2) ai (fun _ _=>rfl)) (bL (bp K rfl) (pv 1) ai (fun _ _=>rfl)))) (aa (aw qN (bL (bp K rfl) (pv 1) ai (fun _ _=>rfl)) (bL (bp K rfl) (pv 2) ai (fun _ _=>rfl))) af)))))) (aj (aP (pv 1))))),?_⟩
  walk_at "w"
  rename_i p1 H1 s1 m1
  refine BB (xs:=xs) (fun i σ H2=>∃ (o:Option V) (p:Addr) (n d:Nat),σ=[some (.ref l),some (.ref p),o]/\ah H H2/\H2 p=some (.tup [.int n,.int d])/\Bq (rs.take i) n d/\n<=2 ^ (15*i)/\d<=2 ^ (15*i)) ⟨_,p1,0,1,rfl,s1,m1,Bq.nil,aaT _,aai _⟩ (fun i σ H2 hp=>by obtain ⟨o,p,n,d,rfl,s2,_⟩:=hp;exact s2.seq hl) (fun i x σ H2 hx hp=>?_) (fun σ H2 hp=>?_)
  ·obtain ⟨o,p,n,d,rfl,s2,m2,hL,bn,bd⟩:=hp
   obtain ⟨a,r,rfl,h2,h3⟩:=YQ.get hx
   obtain ⟨q,hq,rfl⟩:=LV h3
   have g:=hg q (mem_of hq)
   have hi:i<60:=by have:=(aad.mp hq).1;lia
   have ha:=s2.at h2
   have hqt:bh K H2 a [.int (q.1:Nat),.int (q.2:Nat)]:=ha
   have WE:=Ha bn bd g.1.2 g.2.2
   have k1:lg (n:Int) (q.2:Int):=PK (PL bn (by lia)) (xn g.2.2) (by decide)
   have k2:lg (q.1:Int) (d:Int):=PK (xn g.1.2) (PL bd (by lia)) (by decide)
   have k3:lg (d:Int) (q.2:Int):=PK (PL bd (by lia)) (xn g.2.2) (by decide)
   walk_at "w"
   rw [<- Int.natCast_mul,<- Int.natCast_mul,<- Int.natCast_mul,<- Int.natCast_add]
   refine An (mul_pos hL.1 g.2.1) (WB WE.2 (by lia)) fun p4 H4 s4 m4=>?_
   walk_at "w"
   refine⟨_,_,_,_,rfl,s2.trans s4,m4,?_,?_,?_⟩
   ·rw [take_snoc hq]
    exact hL.snoc g.2.1
   ·rw [Hb];exact aah (div_le_self _ _) WE.1
   ·rw [Hb];exact aah (div_le_self _ _) WE.2
  ·obtain ⟨o,p,n,d,rfl,s2,m2,hL,bn,bd⟩:=hp
   have hy:=YQ.length
   rw [aaD] at hy
   rw [<- hy] at bn bd hL
   rw [aaM] at hL
   walk_at "w"
   exact k _ _ n d s2 m2 hL bn bd
theorem Ar:aE ["thing"] ["thing"] (aq lJ):=⟨rfl,rfl,rfl,by decide +kernel,rfl,by decide +kernel,by decide +kernel⟩
theorem As (D:Def K mg "is_whole" lJ ["thing"]) (T:Txt P w K mg G):Ok P w K mg base 1 "is_whole" ["thing"] (jQ K):=by
 have S:=Ar
 refine D.ok S (fun vs H Q E h=>?_) (fun f bU A outer s H vs Q E hr h=>?_)
 ·obtain ⟨_,rfl,_⟩:=h;rfl
 ·obtain ⟨v,rfl,hv,k⟩:=h
  have hu:=bt hr
  have aI:=T.aI
  have ak:=T.ak
  refine⟨_,(aj (aP (NG (aJ (ir K rfl) rfl T.bc boot_isinstance (aa (pv 0) (aa (iD (v:=V.ty "int") rfl T.Ad boot_int rfl) af))) (NF (NH (aJ (ir K rfl) rfl T.bc boot_isinstance (aa (pv 0) (aa (iD (v:=V.ty "bool") rfl T.Ju boot_bool rfl) af)))))))),?_⟩
  rcases hv with ⟨i,rfl⟩|⟨b,rfl⟩|rfl|⟨s,rfl⟩|⟨a,xs,rfl,hs⟩|⟨a,xs,rfl,hs⟩
  ·walk_at "w"
   refine rj ?_
   walk_at "w"
   exact k
  ·walk_at "w"
   refine rj ?_
   walk_at "w"
   exact k
  all_goals
   walk_at "w"
   refine GS ?_
   walk_at "w"
   exact k
theorem Fz:aE ["thing"] ["thing"] (aq r9):=⟨rfl,rfl,rfl,by decide +kernel,rfl,by decide +kernel,by decide +kernel⟩
structure FA(P:Program)(w:World)(K:Frag)(mg:Str->Option Value)(base:Heap)(G:qT):Prop where
 Jz:Ok P w K mg base 1 "is_whole" ["thing"] (jQ K)
theorem FC (D:Def K mg "is_row" r9 ["thing"]) (T:Txt P w K mg G) (O:FA P w K mg base G):Ok P w K mg base 2 "is_row" ["thing"] (oG K):=by
 have S:=Fz
 refine D.ok S (fun vs H Q E h=>?_) (fun f bU A outer s H vs Q E hr h=>?_)
 ·obtain ⟨_,rfl,_⟩:=h;rfl
 ·obtain ⟨v,rfl,h⟩:=h
  have hu:=bt hr
  have aI:=T.aI
  have ak:=T.ak
  refine⟨_,(ag (bT (PW.pt (y6 (lE (jr (aJ (ir K rfl) rfl T.bc boot_isinstance (aa (pv 0) (aa (iD (v:=V.ty "tuple") rfl T.xy boot_tuple rfl) af))))) (qZ (aT zd (aJ (eU K rfl) rfl T.fO PySem.boot_len (aa (pv 0) af)) (aJ (eU K rfl) rfl T.fO PySem.boot_len (aa (aY (v:=V.ref G.Js) rfl T.TZ rfl) af)) (aZ _))))) (aj (aP qY)) aV) (aj (aP (aJ (wX K rfl rfl) rfl T.Ea boot_all (aa (fQ (N:=["number"]) (ix:=[none]) rfl (mK K rfl (pv 0)) (fun _ _ _ _ _=>(aU (i:=0) (show Ci ["number"] by decide +kernel) rfl (Or.inl rfl))) (fun _ _ _ _ _=>rfl) (fun _ _ _ _ _=>(bj O.Jz (hr.mono (by decide)) (aa (pv 0) af))) rfl (by decide +kernel) (by decide +kernel) rfl True.intro) af))))),?_⟩
  rcases h with ⟨a,xs,rfl,hs,hl,hk,k⟩|⟨hv,k⟩
  ·walk_at "w"
   refine GS ?_
   walk_at "w"
   refine dR (fun h1=>?_) (fun h1=>?_)
   ·have QG:xs.length≠5:=fun z=>by rw [z] at h1;simp at h1
    walk_at "w"
    rw [aar QG] at k
    exact k _ (ah.refl _)
   have QG:xs.length=5:=by simp at h1;lia
   walk_at "w"
   refine BA (fun x=>.bl (wh x)) [] rfl hs hl (fun x H' Qc hx s kc=>?_) (fun l H1 vF s1 m1=>?_)
   ·walk_at "w"
    refine Cb ((hk x hx).same s) ?_
    walk_at "w"
    exact kc _ (ah.refl _)
   walk_at "w"
   refine DD (bs:=xs.map wh) (bA.of (by rw [m1,aaR];rfl)) ?_
   walk_at "w"
   rw [aas QG,Bool.true_and] at k
   have e:(xs.map wh).all id=xs.all wh:=by rw [all_map];rfl
   rw [e]
   exact k _ s1
  ·rcases hv with ⟨i,rfl⟩|rfl|⟨s,rfl⟩|⟨a,xs,rfl,hs⟩
   all_goals
    walk_at "w"
    refine rj ?_
    walk_at "w"
    exact k
theorem Cn:aE ["thing"] ["thing"] (aq n0):=⟨rfl,rfl,rfl,by decide +kernel,rfl,by decide +kernel,by decide +kernel⟩
structure Co(P:Program)(w:World)(K:Frag)(mg:Str->Option Value)(base:Heap)(G:qT):Prop where
 P4:Ok P w K mg base 2 "is_row" ["thing"] (oG K)
theorem Cp (D:Def K mg "is_tone" n0 ["thing"]) (T:Txt P w K mg G) (O:Co P w K mg base G):Ok P w K mg base 3 "is_tone" ["thing"] (lQ K):=by
 have S:=Cn
 refine D.ok S (fun vs H Q E h=>?_) (fun f bU A outer s H vs Q E hr h=>?_)
 ·obtain ⟨_,rfl,_⟩:=h;rfl
 ·obtain ⟨v,rfl,h⟩:=h
  have hu:=bt hr
  have aI:=T.aI
  have ak:=T.ak
  refine⟨_,(ag (bT (lE (jr (bj O.P4 (hr.mono (by decide)) (aa (pv 0) af)))) (aj (aP qY)) aV) (aj (aP (aJ (wX K rfl rfl) rfl T.Ea boot_all (aa (fQ (N:=["number","bound"]) (ix:=[none,none]) rfl (zB K rfl true true rfl T.Nm (aa (pv 0) (aa (aY (v:=V.ref G.sr) rfl T.Jv rfl) af))) (fun _ _ _ _ _=>(kl (n:=2) K rfl rfl (cV (aU (i:=0) (show Ci ["number","bound"] by decide +kernel) rfl (Or.inl rfl)) (cV (aU (i:=1) (show Ci ["number","bound"] by decide +kernel) rfl (Or.inl rfl)) ka)))) (fun _ _ _ _ _=>rfl) (fun _ _ _ _ _=>(qM Gv (aJ nP rfl T.Jt boot_abs (aa (pv 0) af)) (pv 1) (aZ _))) rfl (by decide +kernel) (by decide +kernel) rfl True.intro) af))))),?_⟩
  rcases h with ⟨a,x0,x1,x2,x3,x4,rfl,hs,k⟩|⟨ho,k⟩
  ·walk_at "w"
   refine sF (.inl ⟨a,_,rfl,hs,(by show 5<=1000;decide),fun x hx=>?_,fun H1 s1=>?_⟩)
   ·simp only [aaG,not_mem_nil,or_false] at hx
    rcases hx with rfl|rfl|rfl|rfl|rfl <;> exact .inl ⟨_,rfl⟩
   walk_at "w"
   refine GS ?_
   walk_at "w"
   refine zo (k1:=true) (k2:=true) [] (fun i=>.bl (decide ((if ([x0,x1,x2,x3,x4]:List Int).getD i 0<0 then -([x0,x1,x2,x3,x4]:List Int).getD i 0 else ([x0,x1,x2,x3,x4]:List Int).getD i 0)<=([700,60,60,60,60]:List Int).getD i 0))) rfl (by walk_at "hf") (by walk_at "hf") (by rfl) (by show 5<=1000000;decide) (fun i x y H' Qc ex ey hs kc=>?_) (fun l H2 hl s2 m2=>?_)
   ·have hi:i<5:=(aad.mp ex).1
    match i,hi with
    | 0,_|1,_|2,_|3,_|4,_ =>
     cases ex
     cases ey
     walk_at "w"
     exact kc _ (ah.refl _)
   walk_at "w"
   refine DD (bs:=[decide ((if x0<0 then -x0 else x0)<=700),decide ((if x1<0 then -x1 else x1)<=60),decide ((if x2<0 then -x2 else x2)<=60),decide ((if x3<0 then -x3 else x3)<=60),decide ((if x4<0 then -x4 else x4)<=60)]) (bA.of m2) ?_
   walk_at "w"
   exact k _ (by walk_at "sm")
  ·rcases ho with ⟨a,xs,rfl,hs,hl,hk,hf⟩|hn
   ·walk_at "w"
    refine sF (.inl ⟨a,xs,rfl,hs,hl,hk,fun H1 s1=>?_⟩)
    rw [hf]
    walk_at "w"
    refine rj ?_
    walk_at "w"
    exact k _ s1
   ·walk_at "w"
    refine sF (.inr ⟨hn,?_⟩)
    walk_at "w"
    refine rj ?_
    walk_at "w"
    exact k _ (ah.refl _)
theorem Cq:aE ["row"] ["row"] (aq og):=⟨rfl,rfl,rfl,by decide +kernel,rfl,by decide +kernel,by decide +kernel⟩
structure Cr(P:Program)(w:World)(K:Frag)(mg:Str->Option Value)(base:Heap)(G:qT):Prop where
 Mi:Ok P w K mg base 3 "is_tone" ["thing"] (lQ K)
theorem Cs (D:Def K mg "tone_of" og ["row"]) (T:Txt P w K mg G) (O:Cr P w K mg base G):rU P w K mg base 4 "tone_of" ["row"] (lR K):=by
 have S:=Cq
 refine D.UJ S (fun vs H Q E h=>?_) (fun f bU A outer s H vs Q E hr h=>?_)
 ·obtain ⟨_,_,_,_,_,_,rfl,_⟩:=h;rfl
 ·obtain ⟨a,x0,x1,x2,x3,x4,rfl,ha,ke,kq⟩:=h
  have hu:=bt hr
  have aI:=T.aI
  have ak:=T.ak
  refine⟨_,(ag (bT (lE (jr (bj O.Mi (hr.mono (by decide)) (aa (pv 0) af)))) (aj (fk T.Jx PySem.F.excBase_ValueError (by decide +kernel) PySem.F.excBase_ValueError rfl (fun _ _ z=>z) rfl rfl T.jL (aa aH af))) aV) (aj (aP (pv 0)))),?_⟩
  walk_at "w"
  refine Cc (by walk_at "hf") fun H1 s1=>?_
  walk_at "w"
  refine dR (fun h1=>?_) (fun h1=>?_)
  ·walk_at "w"
   exact⟨by decide,ke (by simpa using h1) _ _ T.Ai (by walk_at "sm")⟩
  walk_at "w"
  exact kq (by simpa using h1) _ (by walk_at "sm")
theorem JA:aE ["one","other"] ["one","other"] (aq xk):=⟨rfl,rfl,rfl,by decide +kernel,rfl,by decide +kernel,by decide +kernel⟩
theorem JB (D:Def K mg "times" xk ["one","other"]) (T:Txt P w K mg G):Ok P w K mg base 1 "times" ["one","other"] (sy K):=by
 have S:=JA
 refine D.ok S (fun vs H Q E h=>?_) (fun f bU A outer s H vs Q E hr h=>?_)
 ·obtain ⟨_,_,_,_,_,_,_,_,_,_,_,_,rfl,_⟩:=h;rfl
 ·obtain ⟨a,b,a0,a1,a2,a3,a4,b0,b1,b2,b3,b4,rfl,ha,hb,k⟩:=h
  have hu:=bt hr
  have aI:=T.aI
  have ak:=T.ak
  refine⟨_,(aj (aP (bV (zA K rfl) rfl T.xy boot_tuple (aa (fQ (N:=["number","added"]) (ix:=[none,none]) rfl (zB K rfl true true rfl T.Nm (aa (pv 0) (aa (pv 1) af))) (fun _ _ _ _ _=>(kl (n:=2) K rfl rfl (cV (aU (i:=0) (show Ci ["number","added"] by decide +kernel) rfl (Or.inl rfl)) (cV (aU (i:=1) (show Ci ["number","added"] by decide +kernel) rfl (Or.inl rfl)) ka)))) (fun _ _ _ _ _=>rfl) (fun _ _ _ _ _=>(aw bK (pv 0) (pv 1))) rfl (by decide +kernel) (by decide +kernel) rfl True.intro) af)))),?_⟩
  refine⟨_,rfl,_,rfl,a,b,rfl,⟨_,ha⟩,⟨_,hb⟩,Bo (r:=[a0,a1,a2,a3,a4]) (q:=[b0,b1,b2,b3,b4]) (·+·) rfl ha hb rfl (by show 5<=1000;decide) fun l H' hl hs jg=>?_⟩
  exact zz (bA.of jg) fun p H2 s2 m=>k p H2 (hs.trans s2) m
theorem JC:aE ["row","n"] ["row","n"] (aq xl):=⟨rfl,rfl,rfl,by decide +kernel,rfl,by decide +kernel,by decide +kernel⟩
theorem JD (D:Def K mg "power" xl ["row","n"]) (T:Txt P w K mg G):Ok P w K mg base 1 "power" ["row","n"] (sC K):=by
 have S:=JC
 refine D.ok S (fun vs H Q E h=>?_) (fun f bU A outer s H vs Q E hr h=>?_)
 ·obtain ⟨_,_,_,_,_,_,_,rfl,_⟩:=h;rfl
 ·obtain ⟨a,x0,x1,x2,x3,x4,n,rfl,ha,hb,k⟩:=h
  have hu:=bt hr
  have aI:=T.aI
  have ak:=T.ak
  refine⟨_,(aj (aP (bV (zA K rfl) rfl T.xy boot_tuple (aa (fQ (N:=["number","n"]) (ix:=[none,some 1]) rfl (mK K rfl (pv 0)) (fun _ _ _ _ _=>(aU (i:=0) (show Ci ["number","n"] by decide +kernel) rfl (Or.inl rfl))) (fun _ _ _ _ _=>rfl) (fun _ _ _ _ _=>(aw qN (pv 0) (pv 1))) rfl (by decide +kernel) (by decide +kernel) rfl ⟨⟨rfl,Or.inr (Or.inl rfl),rfl,rfl⟩,True.intro⟩) af)))),?_⟩
  walk_at "w"
  refine EI (r:=[x0,x1,x2,x3,x4]) (fun x=>.int (x*n)) [some (.int n)] rfl ha (by show 5<=1000;decide) (fun x H' Qc hx s kc=>?_) (fun l H2 hl s2 m2=>?_)
  ·walk_at "w"
   refine VF (WC (hb.1 x hx) hb.2) ?_
   exact kc _ (ah.refl _)
  walk_at "w"
  rename_i p3 H3 s3 m3
  exact k _ _ (s2.trans s3) m3
theorem tR:aE ["text","start","sign","end"] ["text","start","sign"] (aq iO):=⟨rfl,rfl,rfl,by decide +kernel,rfl,by decide +kernel,by decide +kernel⟩
theorem tS (D:Def K mg "run_length" iO ["text","start","sign"]) (T:Txt P w K mg G):Ok P w K mg base 1 "run_length" ["text","start","sign"] (hV K):=by
 have S:=tR
 refine D.ok S (fun vs H Q E h=>?_) (fun f bU A outer s H vs Q E hr h=>?_)
 ·obtain ⟨_,_,_,rfl,_⟩:=h;rfl
 ·obtain ⟨z,st,c,rfl,hz,k⟩:=h
  have hu:=bt hr
  have aI:=T.aI
  have ak:=T.ak
  refine⟨_,(ag (aB (i:=3) S.nd rfl (Or.inl rfl) (pv 1)) (ag (za PassesOwn.never (PW.pt (Gp (aT MH (pv 3) (aJ lI rfl T.fO PySem.boot_len (aa (pv 0) af)) (aZ _)) (C9 (aT ip (bL wo (pv 0) (pv 3) (fun _ _=>rfl)) (pv 2) (aZ _))))) (aj (aB (i:=3) S.nd rfl (Or.inl rfl) (aw bK (pv 3) ai)))) (aj (aP (aw js (pv 3) (pv 1)))))),?_⟩
  have Oi:z.cps.toList.length=z.length:=Array.length_toList
  have hra:=bw.Dx (z.cps.toList.drop st) c
  have hrl:=bw.qO (z.cps.toList.drop st) c
  rw [length_drop] at hrl
  generalize bw.runs (z.cps.toList.drop st) c=R at *
  walk_at "w"
  refine join (fun σ' H'=>σ'=[some (.str z),some (.int st),some (.str ⟨#[c]⟩),some (.int ((st+R:Nat):Int))]/\H'=H) (fun nx Eb=>?_) (fun σ' H' hP=>?_)
  ·refine DA (fun mm σ' H'=>H'=H/\∃ j:Nat,j<=R/\mm=R - j/\σ'=[some (.str z),some (.int st),some (.str ⟨#[c]⟩),some (.int ((st+j:Nat):Int))]) R ⟨rfl,0,aaT _,rfl,rfl⟩ (fun mm σ' H' hw=>?_)
   obtain ⟨rfl,j,hj,rfl,rfl⟩:=hw
   have hd:=hra j hj
   rw [getElem?_drop] at hd
   walk_at "w"
   by_cases nA:st+j<z.length
   ·rw [if_pos (aas (by lia))]
    walk_at "w"
    obtain ⟨d,WG⟩:∃ d,z.cps.toList[st+j]?=some d:=⟨_,aax (by lia)⟩
    refine Ik (dU (by lia)) (iG WG) ?_
    walk_at "w"
    by_cases hc:d=c
    ·subst hc
     have T5:=hd.mp WG
     rw [if_pos (aas rfl)]
     refine SI ?_
     walk_at "w"
     exact⟨R - (j+1),by lia,rfl,j+1,T5,rfl,by rw [show ((st+(j+1):Nat):Int)=((st+j:Nat):Int)+1 by lia] <;> rfl⟩
    ·rw [if_neg (by rw [aar (fun e=>hc (bo.wL.mp e))];decide)]
     have T5:j=R:=by
      apply Nat.le_antisymm hj
      apply Nat.not_lt.mp
      intro h
      have:=hd.mpr h
      rw [WG] at this
      exact hc (aao this)
     subst T5
     exact Eb _ _ ⟨rfl,rfl⟩
   ·rw [if_neg (by rw [aar (by lia)];decide)]
    have T5:j=R:=by
     apply Nat.le_antisymm hj
     apply Nat.not_lt.mp
     intro h
     have:=hd.mpr h
     rw [List.getElem?_eq_none (by lia)] at this
     cases this
    subst T5
    rw [if_neg (show ¬ false=true by decide)]
    exact Eb _ _ ⟨rfl,rfl⟩
  obtain ⟨rfl,rfl⟩:=hP
  walk_at "w"
  rw [show ((st+R:Nat):Int) - (st:Int)=(R:Int) by lia]
  exact k
theorem tT:aE ["text","start","mark"] ["text","start","mark"] (aq iP):=⟨rfl,rfl,rfl,by decide +kernel,rfl,by decide +kernel,by decide +kernel⟩
structure tU(P:Program)(w:World)(K:Frag)(mg:Str->Option Value)(base:Heap)(G:qT):Prop where
 sM:Ok P w K mg base 1 "run_length" ["text","start","sign"] (hV K)
theorem tV (D:Def K mg "count_read" iP ["text","start","mark"]) (T:Txt P w K mg G) (O:tU P w K mg base G):Ok P w K mg base 2 "count_read" ["text","start","mark"] (hZ K):=by
 have S:=tT
 refine D.ok S (fun vs H Q E h=>?_) (fun f bU A outer s H vs Q E hr h=>?_)
 ·obtain ⟨_,_,_,_,_,_,rfl,_⟩:=h;rfl
 ·obtain ⟨z,st,c,d,m,r,rfl,hz,hm,k⟩:=h
  have hu:=bt hr
  have aI:=T.aI
  have ak:=T.ak
  refine⟨_,(aj (aP (aw js (bj O.sM (hr.mono (by decide)) (aa (pv 0) (aa (pv 1) (aa (bL (bp K rfl) (pv 2) ai (fun _ _=>rfl)) af)))) (bj O.sM (hr.mono (by decide)) (aa (pv 0) (aa (pv 1) (aa (bL (bp K rfl) (pv 2) ai (fun _ _=>rfl)) af))))))),?_⟩
  walk_at "w"
  refine nr hz ?_
  walk_at "w"
  refine nr hz ?_
  walk_at "w"
  exact k
theorem sN:aE ["text"] ["text"] (aq gW):=⟨rfl,rfl,rfl,by decide +kernel,rfl,by decide +kernel,by decide +kernel⟩
structure sO(P:Program)(w:World)(K:Frag)(mg:Str->Option Value)(base:Heap)(G:qT):Prop where
 FD:Ok P w K mg base 2 "is_signed" ["text","most"] (iV K)
theorem sP (D:Def K mg "octave_read" gW ["text"]) (T:Txt P w K mg G) (O:sO P w K mg base G):rU P w K mg base 3 "octave_read" ["text"] (gj K):=by
 have S:=sN
 refine D.UJ S (fun vs H Q E h=>?_) (fun f bU A outer s H vs Q E hr h=>?_)
 ·obtain ⟨_,rfl,_⟩:=h;rfl
 ·obtain ⟨y,rfl,hy,k1,k2⟩:=h
  have hu:=bt hr
  have aI:=T.aI
  have ak:=T.ak
  refine⟨_,(ag (bT (lE (jr (bj O.FD (hr.mono (by decide)) (aa (pv 0) (aa (aY (v:=V.int 4) rfl T.oB ⟨_,rfl⟩) af))))) (aj (fk T.nj PySem.F.excBase_ValueError (by decide +kernel) PySem.F.excBase_ValueError rfl (fun _ _ z=>z) rfl rfl T.dC (aa aH af))) aV) (aj (aP (bV nV rfl T.Ad boot_int (aa (pv 0) af))))),?_⟩
  walk_at "w"
  refine Am hy fun H1 s1=>?_
  walk_at "w"
  cases ho:bw.zv y 4 with
  | none =>
   rw [if_pos (by rfl)]
   walk_at "w"
   exact⟨by decide,k1 ho _ _ T.iy s1⟩
  | some o =>
   rw [if_neg (show ¬ (!(some o).isSome)=true from Bool.noConfusion)]
   walk_at "w"
   have h:=bw.La (by decide) ho
   exact BI h.1 (by lia) (k2 o ho _ s1)
theorem JE:aE ["text","row","place","mark","count"] ["text"] (aq xm):=⟨rfl,rfl,rfl,by decide +kernel,rfl,by decide +kernel,by decide +kernel⟩
structure JF(P:Program)(w:World)(K:Frag)(mg:Str->Option Value)(base:Heap)(G:qT):Prop where
 Mj:rU P w K mg base 4 "tone_of" ["row"] (lR K)
 times:Ok P w K mg base 1 "times" ["one","other"] (sy K)
 power:Ok P w K mg base 1 "power" ["row","n"] (sC K)
 Ct:Ok P w K mg base 2 "count_read" ["text","start","mark"] (hZ K)
 Au:rU P w K mg base 3 "octave_read" ["text"] (gj K)
theorem JG (D:Def K mg "named" xm ["text"]) (T:Txt P w K mg G) (O:JF P w K mg base G):rU P w K mg base 5 "named" ["text"] (sE K):=by
 have S:=JE
 refine D.S1 S (fun vs H Q E h=>?_) (fun f bU A outer s H vs Q E hr h=>?_)
 ·obtain ⟨_,rfl,_⟩:=h;rfl
 ·obtain ⟨z,rfl,hz,k1,k2,k3⟩:=h
  have hu:=bt hr
  have aI:=T.aI
  have ak:=T.ak
  have fq:=T.fq
  have ft:=T.ft
  have fu:=T.fu
  have fw:=T.fw
  have fz:=T.fz
  have fA:=T.fA
  have fB:=T.fB
  have nh:=T.nh
  have fW:=T.fW
  have fC:=T.fC
  have fX:=T.fX
  have fD:=T.fD
  have fY:=T.fY
  have fE:=T.fE
  have fZ:=T.fZ
  have fF:=T.fF
  refine⟨_,(ag (bT (aT ze (aJ lI rfl T.fO PySem.boot_len (aa (pv 0) af)) (aY (v:=V.int 300) rfl T.Fl ⟨_,rfl⟩) (aZ _)) (aj (fk T.nj PySem.F.excBase_ValueError (by decide +kernel) PySem.F.excBase_ValueError rfl (fun _ _ z=>.inl z) rfl rfl T.dC (aa aH af))) aV) (ag (bT (aT (E6 T.v8) (fh w9 (pv 0) kf (eZ ai)) (aY (v:=V.ref G.kJ) rfl T.v7 rfl) (by with_unfolding_all rfl)) (aj (fk T.nj PySem.F.excBase_ValueError (by decide +kernel) PySem.F.excBase_ValueError rfl (fun _ _ z=>.inl z) rfl rfl T.dC (aa aH af))) aV) (ag (aB (i:=1) S.nd rfl (Or.inl rfl) (bL (Im T.v8) (aY (v:=V.ref G.kJ) rfl T.v7 rfl) (bL wo (pv 0) ai (fun _ _=>rfl)) (fun _ _=>rfl))) (ag (aB (i:=2) S.nd rfl (Or.inl rfl) ai) (ag (fH (EW rfl rfl rfl) rfl (mK K rfl (aY (v:=V.ref G.xw) rfl T.Me rfl)) (aU (i:=3) S.nd rfl (Or.inl rfl)) (ag (aB (i:=4) S.nd rfl (Or.inl rfl) (bj O.Ct (hr.mono (by decide)) (aa (pv 0) (aa (pv 2) (aa (pv 3) af))))) (ag (aB (i:=1) S.nd rfl (Or.inl rfl) (bj O.times (hr.mono (by decide)) (aa (pv 1) (aa (bj O.power (hr.mono (by decide)) (aa (bL (bp K rfl) (pv 3) ai (fun _ _=>rfl)) (aa (pv 4) af))) af)))) (aj (aB (i:=2) S.nd rfl (Or.inl rfl) (aw bK (pv 2) (aJ nP rfl T.Jt boot_abs (aa (pv 4) af)))))))) (ag (bT (aT zd (fh w9 (pv 0) (eZ (pv 2)) (eZ (aw bK (pv 2) ai))) aH (aZ _)) (aj (fk T.nj PySem.F.excBase_ValueError (by decide +kernel) PySem.F.excBase_ValueError rfl (fun _ _ z=>.inl z) rfl rfl T.dC (aa aH af))) aV) (aj (aP (jw O.Mj (hr.mono (by decide)) (fun _ _ z=>.inl z) rfl (aa (bj O.times (hr.mono (by decide)) (@aa _ _ _ _ _ (pv 1) (@aa _ _ _ _ _ (@bE _ _ _ _ _ (aa (jw O.Au (hr.mono (by decide)) (fun _ _ z=>.inl z) rfl (aa (fh w9 (pv 0) (eZ (aw bK (pv 2) ai)) kf) af)) (aa ai (aa ai (aa ai (aa ai af)))))) af (by rfl)) (by rfl))) af)))))))))),?_⟩
  have Oi:z.cps.toList.length=z.length:=Array.length_toList
  walk_at "w"
  refine dR (fun h1=>?_) (fun h1=>?_)
  ·walk_at "w"
   have QG:=aap h1
   refine⟨by decide,k1 ?_ _ _ T.iy (ah.refl _)⟩
   unfold bw.Ge
   rw [if_pos (by lia)]
  have QG:=aaq h1
  have h3:¬ 300<z.length:=by lia
  walk_at "w"
  refine Io ?_
  match F9:z.cps.toList with
  | [] =>
   have e1:PySem.Txt.slice z none (some 1)=PySem.Str.ofString "":=bw.mG ((bw.Ho (z:=z) (j:=1)).trans (by rw [F9];rfl))
   rw [e1,Ja]
   walk_at "w"
   rw [if_pos (by rfl)]
   walk_at "w"
   refine⟨by decide,k1 ?_ _ _ T.iy (ah.refl _)⟩
   unfold bw.Ge
   rw [if_neg h3,F9]
  | c::tl =>
  rw [bw.Hq F9,zY]
  match xK:bw.Bs c with
  | none =>
   rw [Ff xK]
   walk_at "w"
   rw [if_pos (by rfl)]
   walk_at "w"
   refine⟨by decide,k1 ?_ _ _ T.iy (ah.refl _)⟩
   unfold bw.Ge
   rw [if_neg h3,F9]
   show (match bw.Bs c with|none=>none|some r0=>_)=none
   rw [xK]
  | some r0 =>
  obtain ⟨A,x0,x1,x2,x3,x4,rfl,hA,qA⟩:∃ (A:Addr) (x0 x1 x2 x3 x4:Int),r0=[x0,x1,x2,x3,x4]/\vW G.jE G.jF G.jG G.jH G.jI G.jJ G.jK c=some (.ref A)/\dq K A [.int x0,.int x1,.int x2,.int x3,.int x4]:=by
   unfold bw.Bs at xK
   unfold vW
   split at xK
   ·cases xK;rw [if_pos (by assumption)];exact⟨_,_,_,_,_,_,rfl,rfl,fq⟩
   split at xK
   ·cases xK;rw [if_neg (by assumption),if_pos (by assumption)];exact⟨_,_,_,_,_,_,rfl,rfl,ft⟩
   split at xK
   ·cases xK;rw [if_neg (by assumption),if_neg (by assumption),if_pos (by assumption)];exact⟨_,_,_,_,_,_,rfl,rfl,fu⟩
   split at xK
   ·cases xK;rw [if_neg (by assumption),if_neg (by assumption),if_neg (by assumption),if_pos (by assumption)];exact⟨_,_,_,_,_,_,rfl,rfl,fw⟩
   split at xK
   ·cases xK;rw [if_neg (by assumption),if_neg (by assumption),if_neg (by assumption),if_neg (by assumption),if_pos (by assumption)];exact⟨_,_,_,_,_,_,rfl,rfl,fz⟩
   split at xK
   ·cases xK;rw [if_neg (by assumption),if_neg (by assumption),if_neg (by assumption),if_neg (by assumption),if_neg (by assumption),if_pos (by assumption)];exact⟨_,_,_,_,_,_,rfl,rfl,fA⟩
   split at xK
   ·cases xK;rw [if_neg (by assumption),if_neg (by assumption),if_neg (by assumption),if_neg (by assumption),if_neg (by assumption),if_neg (by assumption),if_pos (by assumption)];exact⟨_,_,_,_,_,_,rfl,rfl,fB⟩
   ·cases xK
  rw [hA]
  walk_at "w"
  rw [if_neg (show ¬ (!(some (V.ref A)).isSome)=true from Bool.noConfusion)]
  walk_at "w"
  refine Ik (dU (by lia)) (iG (j:=0) (by rw [F9];rfl)) ?_
  refine Ti ((zY c).trans hA) ?_
  walk_at "w"
  refine SH (K:=K) (xs:=[V.ref G.ow,V.ref G.oy,V.ref G.oz,V.ref G.oA]) (fun i σ H2=>∃ (o1 o2:Option V) (p:Addr) (pl:Nat) (r0 r1 r2 r3 r4:Int),σ=[some (.str z),some (.ref p),some (.int (pl:Int)),o1,o2]/\ah H H2/\bh K H2 p [.int r0,.int r1,.int r2,.int r3,.int r4]/\(bw.marks.take i).foldl (bw.MX z.cps.toList) (1,[x0,x1,x2,x3,x4])=(pl,[r0,r1,r2,r3,r4])) ⟨_,_,A,1,x0,x1,x2,x3,x4,rfl,ah.refl _,qA.at,rfl⟩ (fun _ _ _ _ _=>nh.at) (fun i x σ H2 hx hp=>?_) (fun σ H2 hp=>?_)
  ·obtain ⟨o1,o2,p,pl,r0,r1,r2,r3,r4,rfl,s2,Mk,JH⟩:=hp
   have hi:i<4:=(aad.mp hx).1
   obtain ⟨mA,c1,d1,rA,m0,m1,m2,m3,m4,rfl,hmA,hrA,hmk,hbm⟩:∃ (mA:Addr) (c1 d1:Nat) (rA:Addr) (m0 m1 m2 m3 m4:Int),x=.ref mA/\dq K mA [.str ⟨#[c1]⟩,.str ⟨#[d1]⟩,.ref rA]/\dq K rA [.int m0,.int m1,.int m2,.int m3,.int m4]/\bw.marks[i]?=some (c1,d1,[m0,m1,m2,m3,m4])/\∀ y∈[m0,m1,m2,m3,m4],-1000<=y/\y<=1000:=by
    rw [bw.RY,bw.RZ] at fW
    rw [bw.R0,bw.R1] at fX
    rw [bw.R3,bw.R4] at fY
    rw [bw.R5,bw.Oq] at fZ
    match i,hi with
    | 0,_=>cases hx;exact⟨_,35,98,_,_,_,_,_,_,rfl,fW,fC,rfl,by decide⟩
    | 1,_=>cases hx;exact⟨_,43,45,_,_,_,_,_,_,rfl,fX,fD,rfl,by decide⟩
    | 2,_=>cases hx;exact⟨_,62,60,_,_,_,_,_,_,rfl,fY,fE,rfl,by decide⟩
    | 3,_=>cases hx;exact⟨_,94,118,_,_,_,_,_,_,rfl,fZ,fF,rfl,by decide⟩
   have rE:(bw.marks.take (i+1)).foldl (bw.MX z.cps.toList) (1,[x0,x1,x2,x3,x4])=bw.MX z.cps.toList (pl,[r0,r1,r2,r3,r4]) (c1,d1,[m0,m1,m2,m3,m4]):=by
    rw [List.take_succ,hmk,List.foldl_append,JH];rfl
   have rl1:=bw.qO (z.cps.toList.drop pl) c1
   have rl2:=bw.qO (z.cps.toList.drop pl) d1
   rw [length_drop] at rl1 rl2
   clear nh fW fX fY fZ fC fD fE fF fq ft fu fw fz fA fB
   have qm:=hmA.at (H:=H2)
   walk_at "w"
   refine xD hz qm ?_
   obtain ⟨kc,YR⟩:∃ kc:Int,(bw.runs (z.cps.toList.drop pl) c1:Int) - bw.runs (z.cps.toList.drop pl) d1=kc:=⟨_,rfl⟩
   have WH:(bw.marks.take (i+1)).foldl (bw.MX z.cps.toList) (1,[x0,x1,x2,x3,x4])=(pl+kc.natAbs,List.zipWith (·+·) [r0,r1,r2,r3,r4] ([m0,m1,m2,m3,m4].map (·*kc))):=by rw [rE,<- YR];rfl
   rw [YR]
   walk_at "w"
   refine Mg hrA.at ⟨hbm,by lia⟩ fun p3 H3 s3 m3'=>?_
   have WI:=s3.at Mk
   walk_at "w"
   rename_i p4 H4 s4 m4'
   exact⟨_,_,p4,pl+kc.natAbs,_,_,_,_,_,by rw [show ((pl+kc.natAbs:Nat):Int)=(pl:Int)+(if kc<0 then -kc else kc) by split <;> lia] <;> rfl,(s2.trans s3).trans s4,bh.of m4',WH⟩
  ·obtain ⟨o1,o2,p,pl,r0,r1,r2,r3,r4,rfl,s2,Mk,JH⟩:=hp
   have Np:=bw.Oo h3 F9 xK JH
   clear nh fW fX fY fZ fC fD fE fF fq ft fu fw fz fA fB
   walk_at "w"
   by_cases Ml:z.cps.toList[pl]?=some 46
   ·rw [if_pos Ml] at Np
    rw [if_neg (by rw [aas (bw.Dy.mpr Ml)];decide)]
    walk_at "w"
    rw [bw.Dz]
    have hle:(⟨(z.cps.toList.drop (pl+1)).toArray⟩:PySem.Str).length<=1000:=by
     show (z.cps.toList.drop (pl+1)).toArray.size<=1000
     rw [aaO,length_drop];lia
    refine tK hle ⟨fun hn C H3 hC s3=>?_,fun o ho H3 s3=>?_⟩
    ·rw [hn] at Np
     exact⟨_,rfl,k1 Np _ _ hC (s2.trans s3)⟩
    ·rw [ho] at Np
     have WI:=s3.at Mk
     walk_at "w"
     rename_i p4 H4 s4 m4 p5 H5 s5 m5
     have YS:=((s2.trans s3).trans s4).trans s5
     refine Fp (bh.of m5) (fun hf C H6 hC s6=>⟨_,rfl,k2 _ _ _ _ _ Np hf _ _ hC (YS.trans s6)⟩) (fun hf H6 s6=>?_)
     exact k3 _ _ _ _ _ Np hf _ _ (YS.trans s6) (s6 _ _ m5)
   ·rw [if_neg Ml] at Np
    rw [if_pos (by rw [aar (fun e=>Ml (bw.Dy.mp e))];rfl)]
    walk_at "w"
    exact⟨by decide,k1 Np _ _ T.iy s2⟩
theorem oH:aE ["text"] ["text"] (aq fL):=⟨rfl,rfl,rfl,by decide +kernel,rfl,by decide +kernel,by decide +kernel⟩
structure oJ(P:Program)(w:World)(K:Frag)(mg:Str->Option Value)(base:Heap)(G:qT):Prop where
 named:rU P w K mg base 5 "named" ["text"] (sE K)
theorem oK (D:Def K mg "sounding_read" fL ["text"]) (T:Txt P w K mg G) (O:oJ P w K mg base G):rU P w K mg base 6 "sounding_read" ["text"] (eW K):=by
 have S:=oH
 refine D.UJ S (fun vs H Q E h=>?_) (fun f bU A outer s H vs Q E hr h=>?_)
 ·obtain ⟨_,rfl,_⟩:=h;rfl
 ·obtain ⟨z,rfl,hz,k1,k2⟩:=h
  have hu:=bt hr
  have aI:=T.aI
  have ak:=T.ak
  refine⟨_,(aj (aP (y8 (aT ip (pv 0) (aY (v:=V.str "R") rfl T.P0 ⟨_,rfl⟩) (aZ _)) A8 (jw O.named (hr.mono (by decide)) (fun _ _ z=>z) rfl (aa (pv 0) af))))),?_⟩
  walk_at "w"
  by_cases hR:z=PySem.Str.ofString "R"
  ·refine mJ (aas hR) ?_
   walk_at "w"
   exact k2 (by unfold okN;rw [aas hR];rfl) _ _ (ah.refl _)
  ·refine ll (aar hR) ?_
   walk_at "w"
   refine Mh hz ⟨fun hn C H1 hC s1=>?_,fun x0 x1 x2 x3 x4 hn hf C H1 hC s1=>?_,fun x0 x1 x2 x3 x4 hn hf p H1 s1 m1=>?_⟩
   ·exact⟨C,rfl,k1 (by unfold okN;rw [aar hR,hn];rfl) C H1 (.inl hC) s1⟩
   ·exact⟨C,rfl,k1 (by unfold okN;rw [aar hR,hn];exact hf) C H1 (.inr hC) s1⟩
   ·exact k2 (by unfold okN;rw [aar hR,hn];exact hf) _ _ s1
theorem xM:aE ["word","number","place","parts"] ["word","number","place"] (aq jA):=⟨rfl,rfl,rfl,by decide +kernel,rfl,by decide +kernel,by decide +kernel⟩
structure xN(P:Program)(w:World)(K:Frag)(mg:Str->Option Value)(base:Heap)(G:qT):Prop where
 jX:rU P w K mg base 3 "length_read" ["text"] (eM K)
 tW:rU P w K mg base 6 "sounding_read" ["text"] (eW K)
 xO:xi P w K mg base 1 G.dA ["self","bar","place"] (fM K)
theorem xP (D:Def K mg "note_read" jA ["word","number","place"]) (T:Txt P w K mg G) (O:xN P w K mg base G):rU P w K mg base 7 "note_read" ["word","number","place"] (iW K):=by
 have S:=xM
 refine D.S1 S (fun vs H Q E h=>?_) (fun f bU A outer s H vs Q E hr h=>?_)
 ·obtain ⟨_,_,_,rfl,_⟩:=h;rfl
 ·obtain ⟨w,k,j,rfl,hw,k1,k2⟩:=h
  have hu:=bt hr
  have aI:=T.aI
  have ak:=T.ak
  refine⟨_,(ag (aB (i:=3) S.nd rfl (Or.inl rfl) (fi PySem.F.plainAttrs_str PySem.F.slot_str_partition PySem.F.type_str_partition zN (pv 0) (aa aH af))) (aj (LM rfl rfl rfl (fun _ _=>(aj (aP (bE (aa (jw O.tW (hr.mono (by decide)) (fun _ _ z=>z) rfl (aa (bL (bp K rfl) (pv 3) ai (fun _ _=>rfl)) af)) (aa (jw O.jX (hr.mono (by decide)) (fun _ _ z=>z) rfl (aa (bL (bp K rfl) (pv 3) ai (fun _ _=>rfl)) af)) af)))))) T.ni T.Jw T.gf rfl T.dC rfl T.jL rfl T.cp O.xO hr (by decide) T.Fo T.Fm PySem.F.excBase_ValueError (by decide +kernel) PySem.F.excBase_ValueError (fun _ _ z=>.inl z) (fun _=>rW rfl rfl rfl) (zO (IE T.Ac) (vS T.jL T.cK) (vS T.dC T.bH) (vS T.cp T.bq)) rfl T.kL (fun _=>(aa (pv 1) (aa (pv 2) af)))))),?_⟩
  obtain ⟨a,m,c,hp⟩:∃ a m c,PySem.Txt.partition w LW=(a,m,c):=⟨_,_,_,rfl⟩
  have hl:=rM hp
  have Rq:Fg w=if okN a=true then bo.lj c 4 else none:=by unfold Fg;rw [hp]
  walk_at "w"
  refine DQ (by decide) (by lia) hp fun p1 H1 s1 m1=>?_
  walk_at "w"
  refine qH (by lia) ⟨fun GD C H2 hC s2=>?_,fun aR v H2 s2=>?_⟩
  ·have hn:Fg w=none:=by rw [Rq,GD];rfl
   rcases hC with hC|hC
   ·obtain rfl:C=G.aF:=by rw [T.iy] at hC;cases hC;rfl
    refine⟨_,rfl,BX (.inr (.inr (.inl T.dC))) T.dg T.cZ T.cj rfl ?_⟩
    walk_at "w"
    refine⟨aaV rfl,fun e ne=>gm ao T.d5 fun dx nd nx=>⟨rfl,some dx,by rw [ar nx.symm];exact ao,k1 hn _ dx _ T.d5 ((s1.trans s2).trans (lO ne nd)) ?_⟩⟩
    rw [fK nx];exact ao
   ·obtain rfl:C=G.aQ:=by rw [T.Ai] at hC;cases hC;rfl
    refine⟨_,rfl,BX (.inr (.inl T.jL)) T.cY T.cX T.cg rfl ?_⟩
    walk_at "w"
    refine⟨aaV rfl,fun e ne=>gm ao T.d5 fun dx nd nx=>⟨rfl,some dx,by rw [ar nx.symm];exact ao,k1 hn _ dx _ T.d5 ((s1.trans s2).trans (lO ne nd)) ?_⟩⟩
    rw [fK nx];exact ao
  rw [if_pos aR] at Rq
  have m2:=s2 _ _ m1
  walk_at "w"
  refine lz (by lia) ⟨fun t b e q H3 s3 m3=>?_,fun e4 C H3 hC s3=>?_⟩
  ·walk_at "w"
   rename_i p4 H4 s4 m4
   exact k2 (t,b) (by rw [Rq,e]) p4 v q H4 (((s1.trans s2).trans s3).trans s4) m4 (s4 _ _ m3)
  ·obtain rfl:C=G.ax:=by rw [T.lP] at hC;cases hC;rfl
   refine⟨_,rfl,BX (.inr (.inr (.inr T.cp))) T.cu T.ck T.bf rfl ?_⟩
   walk_at "w"
   refine⟨aaV rfl,fun e ne=>gm ao T.d5 fun dx nd nx=>⟨rfl,some dx,by rw [ar nx.symm];exact ao,k1 (by rw [Rq,e4]) _ dx _ T.d5 (((s1.trans s2).trans s3).trans (lO ne nd)) ?_⟩⟩
   rw [fK nx];exact ao
theorem Av:aE ["text","number","meter","words","notes"] ["text","number","meter"] (aq lK):=⟨rfl,rfl,rfl,by decide +kernel,rfl,by decide +kernel,by decide +kernel⟩
structure Aw(P:Program)(w:World)(K:Frag)(mg:Str->Option Value)(base:Heap)(G:qT):Prop where
 P6:Ok P w K mg base 3 "summed" ["lengths"] (oF K)
 FE:rU P w K mg base 7 "note_read" ["word","number","place"] (iW K)
 qe:xi P w K mg base 1 G.d4 ["self","bar"] (gk K)
theorem Ax (D:Def K mg "bar_read" lK ["text","number","meter"]) (T:Txt P w K mg G) (O:Aw P w K mg base G):rU P w K mg base 8 "bar_read" ["text","number","meter"] (jR K):=by
 have S:=Av
 refine D.S1 S (fun vs H Q E h=>?_) (fun f bU A outer s H vs Q E hr h=>?_)
 ·obtain ⟨_,_,_,_,_,rfl,_⟩:=h;rfl
 ·obtain ⟨z,k,m,tt,bb,rfl,hz,QH,hm,hb,ht,hw,k1,k2,k3⟩:=h
  have hu:=bt hr
  have aI:=T.aI
  have ak:=T.ak
  refine⟨_,(ag (aB (i:=3) S.nd rfl (Or.inl rfl) (fi PySem.F.plainAttrs_str PySem.F.slot_str_split PySem.F.type_str_split km (pv 0) (aa aH af))) (ag (bT (aT ze (aJ (eU K rfl) rfl T.fO PySem.boot_len (aa (pv 3) af)) (aY (v:=V.int 24) rfl T.xA ⟨_,rfl⟩) (aZ _)) (aj (vV O.qe T.Ak T.Al (de.h (hr.mono (by decide))) PySem.F.excBase_ValueError (by decide +kernel) PySem.F.excBase_ValueError rfl (fun _ _ z=>.inl z) rfl rfl T.jP (aa (pv 1) af))) aV) (ag (IW (k:=4) (N:=["place","word","number"]) (ix:=[none,none,some 1]) rfl rfl rfl (fun _ _ z=>.inr z) rfl S.nd rfl (Or.inl rfl) (mL K rfl false rfl T.gG (aa (pv 3) af)) (fun _ _ _ _ _=>(kl (n:=2) K rfl rfl (cV (aU (i:=0) (show Ci ["place","word","number"] by decide +kernel) rfl (Or.inl rfl)) (cV (aU (i:=1) (show Ci ["place","word","number"] by decide +kernel) rfl (Or.inl rfl)) ka)))) (fun _ _ _ _ _=>rfl) (fun _ _ _ _ _ _ hz=>(DN O.FE (hr.mono (by decide)) (fun _ _ z=>z) (fun b hb=>(hz b hb).imp fun _ z=>aay _ z) (aa (pv 1) (aa (pv 2) (aa (pv 0) af))))) rfl (by decide +kernel) (by decide +kernel) rfl ⟨⟨rfl,Or.inr (Or.inl rfl),rfl,rfl⟩,True.intro⟩) (ag (bT (aT (Lq K rfl hr.units) (bj O.P6 (hr.mono (by decide)) (aa (fQ (N:=["note"]) (ix:=[none]) rfl (gc K rfl (pv 4)) (fun _ _ _ _ _=>(aU (i:=0) (show Ci ["note"] by decide +kernel) rfl (Or.inl rfl))) (fun _ _ _ _ _=>rfl) (fun _ _ _ _ _=>(bL (bp K rfl) (pv 0) ai (fun _ _=>rfl))) rfl (by decide +kernel) (by decide +kernel) rfl True.intro) af)) (pv 2) (aZ _)) (aj (vV O.qe T.Ak T.Al (de.h (hr.mono (by decide))) PySem.F.excBase_ValueError (by decide +kernel) PySem.F.excBase_ValueError rfl (fun _ _ z=>.inl z) rfl rfl T.jP (aa (pv 1) af))) aV) (aj (aP (pv 4))))))),?_⟩
  have UQ:tt<=15:=ht.2
  rw [z8] at k1 k2 k3
  unfold A6 at k1 k2 k3
  obtain ⟨ws,oj⟩:∃ ws,PySem.Txt.split z gZ=ws:=⟨_,rfl⟩
  rw [oj] at hw QH k1 k2 k3
  rw [aaD] at k1 k2 k3
  walk_at "w"
  refine mU (ws:=ws) (by decide) (by lia) (by lia) oj fun p1 H1 n1 s1 m1=>?_
  have TJ:=s1.at hm
  have lm:(ws.map V.str).length=ws.length:=aaD ..
  walk_at "w"
  by_cases T6:24<ws.length
  ·refine mJ (aas (by lia)) ?_
   rw [if_pos T6] at k1
   refine zW ?_
   walk_at "w"
   refine⟨aaV rfl,fun e ne=>lA ao T.iz fun dx nd nx=>⟨rfl,some dx,ao,k1 rfl _ dx _ T.iz (s1.trans (sj ne nd)) ?_⟩⟩
   rw [fK nx,ar nx];exact ao
  refine ll (aar (by lia)) ?_
  rw [if_neg T6] at k1 k2 k3
  walk_at "w"
  refine DM ?_
  walk_at "w"
  refine mQ 2 [some (.int (k:Int))] ws.length (fun l j ys H'=>Fa (Ki K H') ys ((ws.take j).map fun w=>bO (vl tt bb w,bb))/\∀ w∈ws.take j,vl tt bb w≠0) rfl (fun _ _ _ _ _=>⟨.nil,fun _ z=>nomatch z⟩) (fun l j ys H' h=>by have:=h.1.length;rw [aaD,aaN] at this;lia) (fun H' s=>⟨_,iJ (s.seq (bA.of m1)),by lia⟩) (fun j H' hj s=>⟨_,_,iJ (s.seq (bA.of m1)),aax (by lia)⟩) (fun l j x H' WJ own ys ho hj QI s9 jg hp hy Qy Qn ky kn=>?_) (fun l2 H' ys nl2 s2 UR hp=>?_)
  ·obtain ⟨o1,o2,rfl⟩:∃ o1 o2,own=[o1,o2]:=by match own,ho with|[o1,o2],_=>exact⟨o1,o2,rfl⟩
   obtain ⟨q,x',rfl,hq,e1,rfl⟩:=hy
   have hx:=e1 _ (iJ (s9.seq (bA.of m1)))
   obtain ⟨w,Kl,rfl⟩:∃ w,ws[j]?=some w/\x'=V.str w:=by
    rw [aaP,aax hj] at hx
    exact⟨_,aax hj,by cases hx;rfl⟩
   have et:=iw Kl
   have Mm:=aaC Kl
   have Qx:=hw w Mm
   have sq:=ah.aW (o:=.tup [.int (j:Nat),.str w]) hq
   refine⟨q,_,rfl,bh.of ao,rfl,_,_,rfl,_,_,rfl,rfl,?_⟩
   refine rj ?_
   walk_at "w"
   refine Ao (aah (Qx.sg hb UQ).1 (by decide)) ⟨fun GD C dx H3 hC s3 m3=>⟨C,rfl,?_⟩,fun p Mk p3 v3 l3 H3 s3 m3 WK=>?_⟩
   ·have h0:vl tt bb w=0:=by
     rcases sh hb UQ Qx with ⟨z,_⟩|⟨_,p,e,_⟩
     ·exact z
     ·rw [GD] at e;cases e
    refine k2 j ?_ C dx H3 hC (s1.trans (s9.trans (sq.trans s3))) m3
    rw [if_pos (aaH.mpr ⟨w,Mm,h0⟩),Jd (i:=j) (fun n hn=>?_) (by rw [aaP,Kl,<- h0];rfl)]
    rw [<- map_take] at hn
    obtain ⟨u,hu,rfl⟩:=aaH.mp hn
    exact hp.2 u hu
   ·obtain ⟨hv,p',e,_,Yf⟩:(1<=vl tt bb w/\vl tt bb w<=16)/\∃ p,Fg w=some p/\gD p/\bO p=bO (vl tt bb w,bb):=by
     rcases sh hb UQ Qx with ⟨_,z⟩|z
     ·rw [Mk] at z;cases z
     ·exact z
    rw [Mk] at e
    cases e
    have e3:=(sq.trans s3) _ _ jg
    refine ky [some (.int (j:Nat)),some (.str w)] _ H3 rfl (sq.trans s3) ⟨?_,fun u hu=>?_⟩
    ·rw [et,aaQ]
     refine ((hp.1.imp (Ki.same (sq.trans s3))).imp (Ki.off e3)).snoc ⟨p3,v3,l3,rfl,mM (bh.of m3) e3,mM (bh.of ?_) e3⟩
     show H3 l3=some (.tup ((Bp.r2 (bO (vl tt bb w,bb))).map V.int))
     rw [<- Yf];exact WK
    ·rw [et] at hu
     rcases aaB.mp hu with z|z
     ·exact hp.2 u z
     ·rw [aaA.mp z];lia
  rw [aaM] at hp
  have lh:=hp.1.length
  rw [aaD] at lh
  have h0:0∉ws.map (vl tt bb):=fun z=>by
   obtain ⟨w,Mm,e⟩:=aaH.mp z
   exact hp.2 w Mm e
  rw [if_neg h0] at k1 k3
  have YT:∀ v∈ws.map (vl tt bb),1<=v/\v<=16:=fun v hv=>by
   obtain ⟨w,Mm,rfl⟩:=aaH.mp hv
   rcases sh hb UQ (hw w Mm) with ⟨z,_⟩|⟨z,_⟩
   ·exact absurd z (hp.2 w Mm)
   ·exact z
  walk_at "w"
  refine mQ 1 [] ws.length (fun l j zs H'=>fm K H' zs (((ws.take j).map fun w=>bO (vl tt bb w,bb)).map Bp.r2)) rfl (fun _ _ _ _ _=>.nil) (fun l j zs H' h=>by have:=h.length;rw [aaD,aaD,aaN] at this;lia) (fun H' s=>⟨_,s.seq (bA.of UR),by lia⟩) (fun j H' hj s=>⟨ys,ys[j]'(by lia),s.seq (bA.of UR),aax (by lia)⟩) (fun l j x H3 H4 own zs ho hj QI s9 jg Bl hy Qy Qn ky kn=>?_) (fun l3 H3 zs nl3 s3 WK Bl=>?_)
  ·obtain ⟨o1,rfl⟩:∃ o1,own=[o1]:=by match own,ho with|[o1],_=>exact⟨o1,rfl⟩
   obtain ⟨rfl,e⟩:=hy
   obtain ⟨n,GD,DC⟩:=(hp.1.imp (Ki.same s9)).get (e ys (s9.seq (bA.of UR)))
   obtain ⟨w,Kl,rfl⟩:∃ w,ws[j]?=some w/\n=bO (vl tt bb w,bb):=by
    rw [aaP,aax hj] at DC
    exact⟨_,aax hj,by cases DC;rfl⟩
   have et:=iw Kl
   obtain ⟨an,tn,ln,rfl,YU,hn3⟩:=GD
   walk_at "w"
   refine rj ?_
   walk_at "w"
   refine ky [some (.ref an)] _ _ rfl (ah.refl _) ?_
   rw [et,aaQ,aaQ]
   exact (Bl.off jg).snoc (mM hn3 jg)
  rw [aaM] at Bl
  have em:(ws.map fun w=>bO (vl tt bb w,bb))=(ws.map (vl tt bb)).map fun v=>bO (v,bb):=by rw [aaR];rfl
  rw [em] at Bl
  have hg:∀ p∈(ws.map (vl tt bb)).map (fun v=>bO (v,bb)),gD p:=fun p hp=>by
   obtain ⟨v,hv,rfl⟩:=aaH.mp hp
   have:=YT v hv
   exact kx ⟨by show 0<v/\v<=9999;lia,by show 0<bb/\bb<=9999;lia⟩
  walk_at "w"
  refine Jy (bA.of WK) Bl hg (by rw [aaD,aaD];lia) fun p5 H5 n d s5 m5 WL hn hd=>?_
  have T7:=LZ hb ht YT WL
  have WM:=s2.trans (s3.trans s5)
  have hm5:bh K H5 m (([((bO (tt,bb)).1:Int),((bO (tt,bb)).2:Int)]:List Int).map V.int):=WM.at TJ
  walk_at "w"
  refine SS (d3.row (r:=[(n:Int),(d:Int)]) (bh.of m5)) (d3.row hm5) rfl rfl ?_
  rw [LF]
  walk_at "w"
  by_cases tX:(ws.map (vl tt bb)).sum=tt
  ·have e:=T7.mpr tX
   rw [if_pos tX] at k3
   refine ll (by rw [<- e,aas rfl];rfl) ?_
   walk_at "w"
   exact k3 rfl _ _ (s1.trans WM)
  ·rw [if_neg tX] at k1
   have Hf:¬ ([(n:Int),(d:Int)]=[((bO (tt,bb)).1:Int),((bO (tt,bb)).2:Int)]):=fun z=>tX (T7.mp (by
    obtain ⟨z1,z2⟩:=List.cons.inj z
    exact Prod.ext (Int.ofNat_inj.mp z1) (Int.ofNat_inj.mp (List.cons.inj z2).1)))
   refine mJ (by rw [aar Hf];rfl) ?_
   refine zW ?_
   walk_at "w"
   refine⟨aaV rfl,fun e ne=>lA ao T.iz fun dx nd nx=>⟨rfl,some dx,ao,k1 rfl _ dx _ T.iz ((s1.trans WM).trans (sj ne nd)) ?_⟩⟩
   rw [fK nx,ar nx];exact ao
theorem tY:aE ["text"] ["text"] (aq iQ):=⟨rfl,rfl,rfl,by decide +kernel,rfl,by decide +kernel,by decide +kernel⟩
structure tZ(P:Program)(w:World)(K:Frag)(mg:Str->Option Value)(base:Heap)(G:qT):Prop where
 jX:rU P w K mg base 3 "length_read" ["text"] (eM K)
theorem t5 (D:Def K mg "meter_read" iQ ["text"]) (T:Txt P w K mg G) (O:tZ P w K mg base G):rU P w K mg base 4 "meter_read" ["text"] (h7 K):=by
 have S:=tY
 refine D.S1 S (fun vs H Q E h=>?_) (fun f bU A outer s H vs Q E hr h=>?_)
 ·obtain ⟨_,rfl,_⟩:=h;rfl
 ·obtain ⟨z,rfl,hz,k1,k2⟩:=h
  have hu:=bt hr
  have aI:=T.aI
  have ak:=T.ak
  refine⟨_,(aj (PD rfl rfl rfl (fun _ _=>(aj (aP (jw O.jX (hr.mono (by decide)) (fun _ _ z=>z) rfl (aa (pv 0) af))))) T.gf rfl T.cp T.sv PySem.F.excBase_ValueError (by decide +kernel) PySem.F.excBase_ValueError (fun _ _ z=>.inl z) (fun _=>rW rfl rfl rfl) (zO (IE T.Ac) (vS T.jL T.dh) (vS T.dC T.bX) (vS T.cp T.bx)) rfl T.jO (fun _=>(aa aH af)))),?_⟩
  walk_at "w"
  refine lz hz ⟨fun t b e q H3 s3 m3=>?_,fun e C H3 hC s3=>?_⟩
  ·exact k2 (t,b) e _ _ s3 m3
  ·obtain rfl:C=G.ax:=by rw [T.lP] at hC;cases hC;rfl
   refine⟨_,rfl,TL (.inr (.inr (.inr T.cp))) T.bf ?_⟩
   walk_at "w"
   exact⟨by decide,k1 e _ _ T.nk s3⟩
theorem xQ:aE ["text","parts","meter","texts"] ["text"] (aq jB):=⟨rfl,rfl,rfl,by decide +kernel,rfl,by decide +kernel,by decide +kernel⟩
structure xR(P:Program)(w:World)(K:Frag)(mg:Str->Option Value)(base:Heap)(G:qT):Prop where
 JI:rU P w K mg base 8 "bar_read" ["text","number","meter"] (jR K)
 Cu:rU P w K mg base 4 "meter_read" ["text"] (h7 K)
theorem xS (D:Def K mg "tune_read" jB ["text"]) (T:Txt P w K mg G) (O:xR P w K mg base G):rU P w K mg base 9 "tune_read" ["text"] (iX K):=by
 have S:=xQ
 refine D.S1 S (fun vs H Q E h=>?_) (fun f bU A outer s H vs Q E hr h=>?_)
 ·obtain ⟨_,_,_,_,_,rfl,_⟩:=h;rfl
 ·obtain ⟨z,a,m,b,R,rfl,hz,hp,hR,k0,k1,k2,k3⟩:=h
  have hu:=bt hr
  have aI:=T.aI
  have ak:=T.ak
  refine⟨_,(ag (aB (i:=1) S.nd rfl (Or.inl rfl) (fi PySem.F.plainAttrs_str PySem.F.slot_str_partition PySem.F.type_str_partition zN (pv 0) (aa (aY (v:=V.str ": ") rfl T.Ae ⟨_,rfl⟩) af))) (ag (bT (aT ip (bL (bp K rfl) (pv 1) ai (fun _ _=>rfl)) aH (aZ _)) (aj (fk T.sv PySem.F.excBase_ValueError (by decide +kernel) PySem.F.excBase_ValueError rfl (fun _ _ z=>.inl z) rfl rfl T.jO (aa aH af))) aV) (ag (aB (i:=2) S.nd rfl (Or.inr rfl) (jw O.Cu (hr.mono (by decide)) (fun _ _ z=>.inl z) rfl (aa (bL (bp K rfl) (pv 1) ai (fun _ _=>rfl)) af))) (ag (aB (i:=3) S.nd rfl (Or.inl rfl) (fi PySem.F.plainAttrs_str PySem.F.slot_str_split PySem.F.type_str_split km (bL (bp K rfl) (pv 1) ai (fun _ _=>rfl)) (aa (aY (v:=V.str " | ") rfl T.B8 ⟨_,rfl⟩) af))) (ag (bT (aT ze (aJ (eU K rfl) rfl T.fO PySem.boot_len (aa (pv 3) af)) (aY (v:=V.int 40) rfl T.Af ⟨_,rfl⟩) (aZ _)) (aj (fk T.sv PySem.F.excBase_ValueError (by decide +kernel) PySem.F.excBase_ValueError rfl (fun _ _ z=>.inl z) rfl rfl T.jO (aa aH af))) aV) (aj (aP (bE (aa (pv 2) (aa (Iv (N:=["number","bar","meter"]) (ix:=[none,none,some 2]) rfl rfl rfl (fun _ _ z=>.inr z) rfl (mL K rfl false rfl T.gG (aa (pv 3) af)) (fun _ _ _ _ _=>(kl (n:=2) K rfl rfl (cV (aU (i:=0) (show Ci ["number","bar","meter"] by decide +kernel) rfl (Or.inl rfl)) (cV (aU (i:=1) (show Ci ["number","bar","meter"] by decide +kernel) rfl (Or.inl rfl)) ka)))) (fun _ _ _ _ _=>rfl) (fun _ _ _ _ _ _ hz=>(DN O.JI (hr.mono (by decide)) (fun _ _ z=>z) (fun b hb=>(hz b hb).imp fun _ z=>aay _ z) (aa (pv 1) (aa (pv 0) (aa (pv 2) af))))) rfl (by decide +kernel) (by decide +kernel) rfl ⟨⟨rfl,Or.inr (Or.inl rfl),rfl,rfl⟩,True.intro⟩) af)))))))))),?_⟩
  walk_at "w"
  refine DQ (by decide) (by lia) hp fun p1 H1 s1 m1=>?_
  walk_at "w"
  rcases hR with ⟨hm,rfl⟩|⟨ha,hm,GD,rfl⟩|⟨tt,bb,ha,hm,Mk,hb,ht,QH,Km,JJ,rfl⟩
  ·refine mJ (aas hm) ?_
   walk_at "w"
   exact⟨by decide,k0 rfl _ _ T.nk s1⟩
  ·refine ll (aar hm) ?_
   walk_at "w"
   refine nt ha ⟨fun _ C H2 hC s2=>⟨C,rfl,k0 rfl C H2 hC (s1.trans s2)⟩,fun p e=>?_⟩
   rw [GD] at e
   cases e
  refine ll (aar hm) ?_
  walk_at "w"
  refine nt ha ⟨fun e=>?_,fun p e mt H2 s2 m2=>?_⟩
  ·rw [Mk] at e
   cases e
  rw [Mk] at e
  cases e
  have YV:=s2 _ _ m1
  unfold B5 Jc at k0 k1 k2 k3
  rw [aaD] at k0 k1 k2 k3
  obtain ⟨Ps,T8⟩:∃ Ps,PySem.Txt.split b dy=Ps:=⟨_,rfl⟩
  rw [T8] at QH JJ k0 k1 k2 k3
  walk_at "w"
  refine mU (ws:=Ps) (by decide) (by lia) (by lia) T8 fun p3 H3 n3 s3 m3=>?_
  have lm:(Ps.map V.str).length=Ps.length:=aaD ..
  walk_at "w"
  by_cases T9:40<Ps.length
  ·refine mJ (aas (by lia)) ?_
   rw [if_pos T9] at k0
   walk_at "w"
   exact⟨by decide,k0 rfl _ _ T.nk (s1.trans (s2.trans s3))⟩
  refine ll (aar (by lia)) ?_
  rw [if_neg T9] at k1 k2 k3
  clear k0
  have m2':=s3 _ _ m2
  have US:=s1.trans (s2.trans s3)
  obtain ⟨U,hU⟩:∃ U,jj tt 0 (Ps.map (A6 tt bb))=U:=⟨_,rfl⟩
  rw [hU] at k1 k2 k3
  walk_at "w"
  refine DM ?_
  walk_at "w"
  refine mQ 2 [some (.ref mt)] Ps.length (fun l j ys H'=>ys.length=j/\j<=Ps.length/\U=jj tt j ((Ps.drop j).map (A6 tt bb))) rfl (fun _ _ _ _ _=>⟨rfl,aaT _,hU.symm⟩) (fun l j ys H' h=>by lia) (fun H' s=>⟨_,iJ (s.seq (bA.of m3)),by lia⟩) (fun j H' hj s=>⟨_,_,iJ (s.seq (bA.of m3)),aax (by lia)⟩) (fun l j x H' WJ own ys ho hj QI s9 jg hp hy Qy Qn ky kn=>?_) (fun l2 H' ys nl2 s4 UR hp=>?_)
  ·obtain ⟨o1,o2,rfl⟩:∃ o1 o2,own=[o1,o2]:=by match own,ho with|[o1,o2],_=>exact⟨o1,o2,rfl⟩
   obtain ⟨q,x',rfl,hq,e1,rfl⟩:=hy
   have Ua:=e1 _ (iJ (s9.seq (bA.of m3)))
   obtain ⟨p,YW,rfl⟩:∃ p,Ps[j]?=some p/\x'=V.str p:=by
    rw [aaP,aax hj] at Ua
    exact⟨_,aax hj,by cases Ua;rfl⟩
   have hd:Ps.drop j=p::Ps.drop (j+1):=by rw [List.drop_eq_getElem_cons hj,(aad.mp YW).2]
   obtain ⟨Du,tf,Nq⟩:=hp
   rw [hd,map_cons,z7] at Nq
   have sq:=ah.aW (o:=.tup [.int (j:Nat),.str p]) hq
   obtain ⟨g1,g2,g3⟩:=JJ p (aaC YW)
   refine⟨q,_,rfl,bh.of ao,rfl,_,_,rfl,_,_,rfl,rfl,?_⟩
   refine rj ?_
   walk_at "w"
   have sA:=US.trans (s9.trans sq)
   refine Cd (tt:=tt) (bb:=bb) ⟨g1,g2,(s9.trans sq).at (bh.of m2'),hb,ht,g3⟩ ⟨fun e C dx H5 hC s5 m5=>⟨C,rfl,k1 j (by rw [Nq,e]) C dx H5 hC (sA.trans s5) m5⟩,fun i e C dx H5 hC s5 m5=>⟨C,rfl,k2 j i (by rw [Nq,e]) C dx H5 hC (sA.trans s5) m5⟩,fun e v H5 s5=>?_⟩
   rw [e] at Nq
   exact ky [some (.int (j:Nat)),some (.str p)] _ H5 rfl (sq.trans s5) ⟨by rw [aaE,Du];rfl,by lia,Nq⟩
  obtain ⟨Du,tf,Nq⟩:=hp
  rw [List.drop_length] at Nq
  walk_at "w"
  rename_i p6 H6 s6 m6
  exact k3 Nq _ _ (US.trans (s4.trans s6))
theorem sQ:aE ["_law_script","_law_k"] ["_law_script","_law_k"] (aq gX):=⟨rfl,rfl,rfl,by decide +kernel,rfl,by decide +kernel,by decide +kernel⟩
theorem sR (D:Def K mg "_law_cell_at" gX ["_law_script","_law_k"]) (T:Txt P w K mg G):Ok P w K mg base 1 "_law_cell_at" ["_law_script","_law_k"] (dE K):=by
 have S:=sQ
 refine D.ok S (fun vs H Q E h=>?_) (fun f bU A outer s H vs Q E hr h=>?_)
 ·obtain ⟨_,_,_,rfl,_⟩:=h;rfl
 ·obtain ⟨a,ns,k,rfl,hs,h0,hQ⟩:=h
  have hu:=bt hr
  have aI:=T.aI
  have ak:=T.ak
  refine⟨_,(ag (bT (aT MH (pv 1) (aJ (eU K rfl) rfl T.fO PySem.boot_len (aa (pv 0) af)) (aZ _)) (aj (aP (bL (bp K rfl) (pv 0) (pv 1) (fun _ _=>rfl)))) aV) (aj (aP ai))),?_⟩
  walk_at "w"
  refine dR (fun hc=>?_) (fun hc=>?_)
  ·have nA:k.toNat<ns.length:=by simp at hc;lia
   obtain ⟨j,rfl⟩:=Int.eq_ofNat_of_zero_le h0
   repeat walk_at "r"
   exact mI hs (iG (int_at (by simpa using nA))) hQ
  ·have Yu:ns.length<=k.toNat:=by simp at hc;lia
   have e:ns.getD k.toNat 0=0:=by rw [List.getD,List.getElem?_eq_none Yu];rfl
   rw [e] at hQ
   walk_at "w"
   exact hQ
theorem xT:aE ["_law_cell","_law_k","_law_first"] ["_law_cell","_law_k"] (aq jC):=⟨rfl,rfl,rfl,by decide +kernel,rfl,by decide +kernel,by decide +kernel⟩
theorem xU (D:Def K mg "_law_mixed" jC ["_law_cell","_law_k"]) (T:Txt P w K mg G):Ok P w K mg base 1 "_law_mixed" ["_law_cell","_law_k"] (fT K):=by
 have S:=xT
 refine D.ok S (fun vs H Q E h=>?_) (fun f bU A outer s H vs Q E hr h=>?_)
 ·obtain ⟨_,_,rfl,_⟩:=h;rfl
 ·obtain ⟨c,j,rfl,hj,k⟩:=h
  have hu:=bt hr
  have aI:=T.aI
  have ak:=T.ak
  refine⟨_,(ag (aB (i:=2) S.nd rfl (Or.inl rfl) (aw cv (aw nB (aw cv (aw bK (aw bK (aw nB (aw cv (pv 0) (aw NS ai ai)) ai) (aw nB (aw nB (pv 1) (pv 1)) ai)) ai) ai) ai) ai)) (aj (aP (aw cv (aw bK (aw bK (aw nB (pv 2) (pv 2)) (aw nB ai (pv 2))) (pv 1)) ai)))),?_⟩
  walk_at "w"
  exact k _ (emod_nonneg _ (by decide)) (emod_lt_of_pos _ (by decide))
theorem t6:aE ["_law_cell","_law_count","_law_total","_law_pieces_here","_law_left","_law_k","_law_more"] ["_law_cell","_law_count","_law_total"] (aq iR):=⟨rfl,rfl,rfl,by decide +kernel,rfl,by decide +kernel,by decide +kernel⟩
structure t7(P:Program)(w:World)(K:Frag)(mg:Str->Option Value)(base:Heap)(G:qT):Prop where
 kN:Ok P w K mg base 1 "_law_mixed" ["_law_cell","_law_k"] (fT K)
theorem t8 (D:Def K mg "_law_pieces" iR ["_law_cell","_law_count","_law_total"]) (T:Txt P w K mg G) (O:t7 P w K mg base G):Ok P w K mg base 2 "_law_pieces" ["_law_cell","_law_count","_law_total"] (h8 K):=by
 have S:=t6
 refine D.ok S (fun vs H Q E h=>?_) (fun f bU A outer s H vs Q E hr h=>?_)
 ·obtain ⟨_,_,_,rfl,_⟩:=h;rfl
 ·obtain ⟨c,n,t,rfl,h1,h2,h3,h4,k⟩:=h
  have hu:=bt hr
  have aI:=T.aI
  have ak:=T.ak
  refine⟨_,(ag (aB (i:=3) S.nd rfl (Or.inl rfl) (eR af)) (ag (aB (i:=4) S.nd rfl (Or.inl rfl) (aw js (pv 2) (pv 1))) (ag (fH PassesOwn.never rfl (nz rfl T.qU (aa (aw js (pv 1) ai) af)) (aU (i:=5) S.nd rfl (Or.inl rfl)) (ag (aB (i:=6) S.nd rfl (Or.inl rfl) (aw cv (bj O.kN (hr.mono (by decide)) (aa (pv 0) (aa (aw bK ai (pv 5)) af))) (aw bK (pv 4) ai))) (ag (iE (fi PySem.F.plainAttrs_list PySem.F.slot_list_append PySem.F.type_list_append eT (pv 3) (aa (aw bK ai (pv 6)) af))) (aj (aB (i:=4) S.nd rfl (Or.inl rfl) (aw js (pv 4) (pv 6))))))) (aj (aP (aw lF (pv 3) (eR (aa (aw bK ai (pv 4)) af)))))))),?_⟩
  walk_at "w"
  rename_i p1 H1 n1 s1 m1
  refine w4 (fun i σ Hn=>∃ (o1 o2:Option V) (ps:List Int) (left:Int),σ=[some (.int c),some (.int (n:Int)),some (.int (t:Int)),some (.ref p1),some (.int left),o1,o2]/\ah H Hn/\Hn p1=some (.lst (ps.map V.int))/\ps.length=i/\(∀ p∈ps,1<=p/\p<=(t:Int))/\0<=left/\(i:Int)<=ps.sum/\ps.sum+left+n=t+i) ⟨_,_,[],_,rfl,s1,m1,rfl,(fun _ z=>nomatch z),by lia,by simp,by simp <;> lia⟩ (fun i σ Hn hi hp=>?_) (fun σ Hn hp=>?_)
  ·obtain ⟨o1,o2,ps,left,rfl,sn,mp,lp,WN,QI,Ub,tX⟩:=hp
   have Hc:i+1<n:=by lia
   walk_at "w"
   refine jV (by lia) fun q1 z1 z2=>?_
   have b1:=emod_nonneg q1 (show left+1≠0 by lia)
   have b2:=emod_lt_of_pos q1 (show 0<left+1 by lia)
   have hlp:0<left+1:=by lia
   walk_at "w"
   refine rO mp (by rw [aaD];lia) ?_
   walk_at "w"
   refine⟨_,_,ps++[1+q1 % (left+1)],_,rfl,sn.gx n1,?_,by simp [lp],fun p hp=>?_,by lia,?_,?_⟩
   ·rw [ao,aaQ];rfl
   ·rcases aaB.mp hp with z|z
    ·exact WN p z
    ·rw [aaA.mp z];lia
   ·rw [sum_append,sum_singleton];lia
   ·rw [sum_append,sum_singleton];lia
  ·obtain ⟨o1,o2,ps,left,rfl,sn,mp,lp,WN,QI,Ub,tX⟩:=hp
   walk_at "w"
   rename_i p2 H2 n2 s2 m2 p3 H3 n3 s3 m3
   refine k p3 H3 (ps++[1+left]) ((sn.trans s2).new n3) ((sn.trans s2).trans s3) (by rw [m3,aaQ];rfl) (by rw [aaE];show ps.length+1=n;lia) (fun p hp=>?_) ?_
   ·rcases aaB.mp hp with z|z
    ·exact WN p z
    ·rw [aaA.mp z];lia
   ·rw [sum_append,sum_singleton];lia
theorem Cv:aE ["_law_cell","_law_some"] ["_law_cell"] (aq oh):=⟨rfl,rfl,rfl,by decide +kernel,rfl,by decide +kernel,by decide +kernel⟩
theorem Cw (D:Def K mg "_law_bad" oh ["_law_cell"]) (T:Txt P w K mg G):Ok P w K mg base 1 "_law_bad" ["_law_cell"] (lS K):=by
 have S:=Cv
 refine D.ok S (fun vs H Q E h=>?_) (fun f bU A outer s H vs Q E hr h=>?_)
 ·obtain ⟨_,rfl,_⟩:=h;rfl
 ·obtain ⟨c,rfl,k⟩:=h
  have hu:=bt hr
  have aI:=T.aI
  have ak:=T.ak
  refine⟨_,(@ag _ _ _ _ _ (@aB _ _ 1 _ _ _ _ S.nd rfl (Or.inl rfl) (@mR _ _ _ _ (by rfl)) (by rfl) (by first|exact .inl rfl|exact .inr rfl|assumption)) (@ag _ _ _ _ _ (@aB _ _ 1 _ _ _ _ S.nd rfl (Or.inl rfl) (@aw _ _ _ _ _ _ _ _ lF (pv 1) (@mR _ _ _ _ (by rfl))) (by rfl) (by first|exact .inl rfl|exact .inr rfl|assumption)) (ag (aB (i:=1) S.nd rfl (Or.inl rfl) (aw lF (pv 1) (eR (aa aH (aa aH (aa (aw bg (aw bg aH (aw IH aH ai)) aH) (aa aH af))))))) (aj (aP (bL (bp K rfl) (pv 1) (aw cv (pv 0) ai) (fun _ _=>rfl))))))),?_⟩
  walk_at "w"
  refine LK (by decide) (by decide) (by decide) ?_
  walk_at "w"
  rename_i p1 H1 n1 s1 m1 p2 H2 n2 s2 m2 p3 H3 n3 s3 m3 p4 H4 n4 s4 m4 p5 H5 n5 s5 m5
  obtain ⟨v,hv,z,rfl,hz⟩:=B6 (i:=c % 23) (P:=fun v=>∃ z,v=.str z/\z∈B3) m5 (by
   simp only [aaB,aaG,not_mem_nil,or_false]
   intro v hv
   rcases hv with (hv|hv)|hv
   all_goals repeat' (rcases hv with hv|hv)
   all_goals first|exact⟨_,rfl,by decide⟩|exact⟨_,rfl,by decide +kernel⟩) (emod_nonneg c (by decide)) (emod_lt_of_pos c (by decide))
  exact mI (bA.of m5) hv (k _ _ (s1.trans (s2.trans (s3.trans (s4.trans s5)))) hz)
theorem Ay:aE ["_law_script","_law_total","_law_bottom","_law_bars_here","_law_k","_law_cell","_law_words","_law_j","_law_piece","_law_name"] ["_law_script","_law_total","_law_bottom"] (aq lL):=⟨rfl,rfl,rfl,by decide +kernel,rfl,by decide +kernel,by decide +kernel⟩
structure Az(P:Program)(w:World)(K:Frag)(mg:Str->Option Value)(base:Heap)(G:qT):Prop where
 bG:Ok P w K mg base 1 "_law_cell_at" ["_law_script","_law_k"] (dE K)
 kN:Ok P w K mg base 1 "_law_mixed" ["_law_cell","_law_k"] (fT K)
 Cy:Ok P w K mg base 2 "_law_pieces" ["_law_cell","_law_count","_law_total"] (h8 K)
theorem AA (D:Def K mg "_law_bars" lL ["_law_script","_law_total","_law_bottom"]) (T:Txt P w K mg G) (O:Az P w K mg base G):Ok P w K mg base 3 "_law_bars" ["_law_script","_law_total","_law_bottom"] (jS K):=by
 have S:=Ay
 refine D.ok S (fun vs H Q E h=>?_) (fun f bU A outer s H vs Q E hr h=>?_)
 ·obtain ⟨_,_,_,_,rfl,_⟩:=h;rfl
 ·obtain ⟨a,ns,tt,bb,rfl,hS,ht,hb,k⟩:=h
  have hu:=bt hr
  have aI:=T.aI
  have ak:=T.ak
  refine⟨_,(@ag _ _ _ _ _ (aB (i:=3) S.nd rfl (Or.inl rfl) (eR af)) (@ag _ _ _ _ _ (fH PassesOwn.never rfl (nz rfl T.qU (aa (aw bK ai (aw cv (bj O.bG (hr.mono (by decide)) (aa (pv 0) (aa ai af))) ai)) af)) (aU (i:=4) S.nd rfl (Or.inl rfl)) (@ag _ _ _ _ _ (aB (i:=5) S.nd rfl (Or.inl rfl) (aw bK (bj O.bG (hr.mono (by decide)) (aa (pv 0) (aa (aw bK ai (pv 4)) af))) (pv 4))) (@ag _ _ _ _ _ (aB (i:=6) S.nd rfl (Or.inl rfl) (eR af)) (@ag _ _ _ _ _ (fH PassesOwn.never rfl (mL K rfl false rfl T.gG (aa (bj O.Cy (hr.mono (by decide)) (aa (pv 5) (aa (aw bK ai (aw cv (bj O.kN (hr.mono (by decide)) (aa (pv 5) (aa ai af))) ai)) (aa (pv 1) af)))) af)) (kl (n:=2) K rfl rfl (cV (aU (i:=7) S.nd rfl (Or.inl rfl)) (cV (aU (i:=8) S.nd rfl (Or.inl rfl)) ka))) (@ag _ _ _ _ _ (@aB _ _ 9 _ _ _ _ S.nd rfl (Or.inl rfl) (bL (bp K rfl) (@mR _ _ _ _ (by rfl)) (aw cv (bj O.kN (hr.mono (by decide)) (aa (pv 5) (aa (pv 7) af))) ai) (fun _ _=>rfl)) (by rfl) (by first|exact .inl rfl|exact .inr rfl|assumption)) (aj (iE (fi PySem.F.plainAttrs_list PySem.F.slot_list_append PySem.F.type_list_append eT (pv 6) (aa (aw bg (aw bg (aw bg (aw bg (pv 9) aH) (bV fV rfl T.v5 boot_str (aa (pv 8) af))) aH) (bV fV rfl T.v5 boot_str (aa (pv 2) af))) af)))))) (aj (iE (fi PySem.F.plainAttrs_list PySem.F.slot_list_append PySem.F.type_list_append eT (pv 3) (aa (pv 6) af)))))))) (aj (aP (pv 3))))),?_⟩
  walk_at "w"
  rename_i l1 H1 n1 s1 m1
  obtain ⟨cn,hcn⟩:∃ cn:Nat,(1+ns.getD (Int.toNat 1) 0 % 5).toNat=cn:=⟨_,rfl⟩
  rw [hcn]
  have hcb:1<=cn/\cn<=5:=by lia
  refine w4 (fun i σ Hn=>∃ (o4 o5 o6 o7 o8 o9:Option V) (xs:List V) (bz:List (List Str)),σ=[some (.ref a),some (.int (tt:Int)),some (.int (bb:Int)),some (.ref l1),o4,o5,o6,o7,o8,o9]/\ah H Hn/\Hn l1=some (.lst xs)/\Fa (Gi l1 Hn) xs bz/\bz.length=i/\∀ ws∈bz,(1<=ws.length/\ws.length<=4)/\∀ w∈ws,pw tt bb w) ⟨_,_,_,_,_,_,[],[],rfl,s1,m1,.nil,rfl,fun _ z=>nomatch z⟩ (fun i σ Hn hi hp=>?_) (fun σ Hn hp=>?_)
  ·obtain ⟨o4,o5,o6,o7,o8,o9,xs,bz,rfl,sn,vF,hF,Km,aR⟩:=hp
   have YX:=hF.length
   rw [Int.zero_add]
   have hS1:=sn.seq hS
   walk_at "w"
   rename_i p2 H2 n2 s2 m2
   generalize ns.getD (8+(i:Int)).toNat 0+(i:Int)=cl
   refine jV (by decide) fun mx mx0 mx1=>?_
   walk_at "w"
   obtain ⟨ct,hct⟩:∃ ct:Nat,1+mx % 4=(ct:Int):=Int.eq_ofNat_of_zero_le (by lia)
   have WO:1<=ct/\ct<=4:=by lia
   rw [hct]
   refine xE ⟨WO.1,by lia,by lia,by lia⟩ fun l3 H3 ps n3 s3 m3 lps JJ tX=>?_
   have Uc:p2≠l1:=fun z=>by rw [z,vF] at n2;cases n2
   have ne31:l3≠l1:=fun z=>by rw [z,s2 _ _ vF] at n3;cases n3
   have WQ:l3≠p2:=fun z=>by rw [z,m2] at n3;cases n3
   have s23:=s2.trans s3
   have lpm:(ps.map V.int).length=ct:=by rw [aaD];exact lps
   walk_at "w"
   refine Ig (k:=false) (xs:=ps.map V.int) (fun j σ Hm=>∃ (o7 o8 o9:Option V) (ws:List Str),σ=[some (.ref a),some (.int (tt:Int)),some (.int (bb:Int)),some (.ref l1),some (.int (i:Int)),some (.int cl),some (.ref p2),o7,o8,o9]/\ah Hn Hm/\Hm l3=some (.lst (ps.map V.int))/\Hm p2=some (.lst (ws.map V.str))/\ws.length=j/\∀ w∈ws,pw tt bb w) ⟨_,_,_,[],rfl,s23,m3,s3 _ _ m2,rfl,fun _ z=>nomatch z⟩ (fun j σ Hm hp=>by obtain ⟨_,_,_,_,rfl,_,h,_⟩:=hp;exact iJ (bA.of h)) (fun j x σ Hm Hm' hx hp Ud=>?_) (fun σ Hm hp=>?_)
   ·obtain ⟨o7,o8,o9,ws,rfl,sm,YY,tf,WR,oj⟩:=hp
    obtain ⟨pp,rfl,pp0,pp1⟩:∃ pp:Nat,x=V.int (pp:Int)/\1<=pp/\pp<=tt:=by
     obtain ⟨u,hu,rfl⟩:=aaH.mp (aaC hx)
     have:=JJ u hu
     exact⟨u.toNat,by rw [show ((u.toNat:Nat):Int)=u by lia],by lia,by lia⟩
    have hj:j<ct:=by have:=(aad.mp hx).1;lia
    walk_at "w"
    rename_i p5 H5 n5 s5 m5
    refine jV (by lia) fun my my0 my1=>?_
    obtain ⟨s,QF,hsa⟩:=TR (i:=my % 7) (by lia) (by lia)
    have m5':H5 p5=some (.lst (zZ.map V.str)):=m5
    walk_at "w"
    refine mI (bA.of m5') hsa ?_
    have WS:=(sf s QF).2.1
    have Du:=gY (n:=pp) ⟨by lia,by lia⟩
    have WT:=gY (n:=bb) ⟨by lia,by lia⟩
    have hpw:=(Ud.trans s5) _ _ tf
    walk_at "w"
    refine fe (a:=6) (b:=1) WS (by decide) (by decide) fun x1 e1 q1=>?_
    walk_at "w"
    refine nW (om (by lia)) ?_
    refine fe q1 (b:=4) Du.2 (by decide) fun x2 e2 q2=>?_
    walk_at "w"
    refine fe q2 (b:=1) (by decide) (by decide) fun x3 e3 q3=>?_
    walk_at "w"
    refine nW (om (by lia)) ?_
    refine fe q3 (b:=4) WT.2 (by decide) fun x4 e4 q4=>?_
    have hg:pw tt bb x4:=.inl ⟨pp,.inr ⟨s,QF,by lia,by rw [e4,e3,e2,e1];rfl⟩⟩
    walk_at "w"
    refine rO hpw (by rw [aaD];lia) ?_
    refine⟨_,_,_,ws++[x4],rfl,(sm.trans (Ud.trans s5)).gx n2,?_,?_,by rw [aaE,WR];rfl,fun w hw=>?_⟩
    ·rw [ar WQ];exact (Ud.trans s5) _ _ YY
    ·rw [aaQ];exact ao
    ·rcases aaB.mp hw with z|z
     ·exact oj w z
     ·rw [aaA.mp z];exact hg
   ·obtain ⟨o7,o8,o9,ws,rfl,sm,YY,tf,WR,oj⟩:=hp
    rw [lpm] at WR
    walk_at "w"
    have hlm:=sm _ _ vF
    refine rO hlm (by lia) ?_
    refine⟨_,_,_,_,_,_,xs++[.ref p2],bz++[ws],rfl,(sn.trans sm).gx n1,ao,((hF.imp (Gi.same sm)).imp Gi.off).snoc ⟨p2,rfl,Uc,by rw [ar Uc];exact tf⟩,by rw [aaE,Km];rfl,fun ws' hw'=>?_⟩
    rcases aaB.mp hw' with z|z
    ·exact aR ws' z
    ·rw [aaA.mp z];exact⟨by lia,oj⟩
  ·obtain ⟨o4,o5,o6,o7,o8,o9,xs,bz,rfl,sn,vF,hF,Km,aR⟩:=hp
   walk_at "w"
   exact k _ xs bz _ sn vF (hF.imp Gi.br) ⟨by lia,aR⟩
theorem xV:aE ["_law_total","_law_bottom","_law_known_here","_law_name","_law_piece"] ["_law_total","_law_bottom"] (aq jD):=⟨rfl,rfl,rfl,by decide +kernel,rfl,by decide +kernel,by decide +kernel⟩
theorem xW (D:Def K mg "_law_known" jD ["_law_total","_law_bottom"]) (T:Txt P w K mg G):Ok P w K mg base 1 "_law_known" ["_law_total","_law_bottom"] (iY K):=by
 have S:=xV
 refine D.ok S (fun vs H Q E h=>?_) (fun f bU A outer s H vs Q E hr h=>?_)
 ·obtain ⟨_,_,rfl,_⟩:=h;rfl
 ·obtain ⟨tt,bb,rfl,ht,hb,k⟩:=h
  have hu:=bt hr
  have aI:=T.aI
  have ak:=T.ak
  refine⟨_,(@ag _ _ _ _ _ (aB (i:=2) S.nd rfl (Or.inl rfl) (LP (IS aH (pv 1) LO) rfl rfl (by simp) (by decide))) (@ag _ _ _ _ _ (fH PassesOwn.never rfl (gc K rfl (@mR _ _ _ _ (by rfl))) (aU (i:=3) S.nd rfl (Or.inl rfl)) (aj (fH PassesOwn.never rfl (El rfl T.qU (aa ai (aa (aw bK (pv 0) ai) af))) (aU (i:=4) S.nd rfl (Or.inl rfl)) (aj (LG hu (pv 2) (aw bg (aw bg (aw bg (aw bg (pv 3) aH) (bV fV rfl T.v5 boot_str (aa (pv 4) af))) aH) (bV fV rfl T.v5 boot_str (aa (pv 1) af))) (pv 4) rfl))))) (aj (aP (pv 2))))),?_⟩
  walk_at "w"
  refine LQ fun p hp=>?_
  walk_at "w"
  refine LR ao ?_
  rw [Kr]
  have sD:ah H (upd H p (.dK [(.inr (Str.ofString "R=1/1"),.int (bb:Int))])):=ah.aW hp
  have eD:upd H p (.dK [(.inr (Str.ofString "R=1/1"),.int (bb:Int))]) p=some (.dK [(.inr (Str.ofString "R=1/1"),.int (bb:Int))]):=ao
  generalize upd H p (.dK [(.inr (Str.ofString "R=1/1"),.int (bb:Int))])=HD at sD eD
  walk_at "w"
  rename_i l1 H1 n1 s1 m1
  have m1':H1 l1=some (.lst (zZ.map V.str)):=m1
  have np:p≠l1:=fun z=>by rw [<- z,eD] at n1;cases n1
  refine BB (xs:=zZ.map V.str) (fun i σ Hn=>∃ (o3 o4:Option V) (aC:List (Key×V)),σ=[some (.int (tt:Int)),some (.int (bb:Int)),some (.ref p),o3,o4]/\ah H Hn/\Hn l1=some (.lst (zZ.map V.str))/\Hn p=some (.dK aC)/\PQ tt bb aC/\aC.length<=1+15*i/\B7 aC Ni/\∀ s∈zZ.take i,∀ q,1<=q->q<=tt->B7 aC (gw s q bb)) ⟨_,_,_,rfl,sD.trans s1,m1',s1 _ _ eD,?_,aai _,?_,fun _ z=>nomatch z⟩ (fun i σ Hn hp=>by obtain ⟨_,_,_,rfl,_,h,_⟩:=hp;exact bA.of h) (fun i x σ Hn hx hp=>?_) (fun σ Hn hp=>?_)
  ·intro w v e
   by_cases q:w=Ni
   ·subst q
    rw [show dS [((Sum.inr (Str.ofString "R=1/1"):Key),V.int (bb:Int))] (.inr Ni)=some (.int (bb:Int)) from rfl] at e
    cases e
    exact⟨bb,rfl,.inl ⟨rfl,rfl⟩⟩
   ·rw [cW (fun z=>q (by cases z;rfl))] at e
    cases e
  ·exact fun z=>nomatch z
  ·obtain ⟨o3,o4,aC,rfl,sn,vF,P7,P8,hlen,hr,nJ⟩:=hp
   obtain ⟨s,Ub,rfl⟩:∃ s,zZ[i]?=some s/\x=V.str s:=by
    rw [aaP] at hx
    cases q:zZ[i]? with
    | none=>rw [q] at hx;cases hx
    | some s=>rw [q] at hx;cases hx;exact⟨s,rfl,rfl⟩
   have QF:=aaC Ub
   have WS:=(sf s QF).2.1
   have et:=iw Ub
   have hi7:i<7:=(aad.mp Ub).1
   walk_at "w"
   rw [show ((tt:Int)+1 - 1).toNat=tt by lia]
   refine w4 (fun j σ Ue=>∃ (o4:Option V) (aC:List (Key×V)),σ=[some (.int (tt:Int)),some (.int (bb:Int)),some (.ref p),some (.str s),o4]/\ah H Ue/\Ue l1=some (.lst (zZ.map V.str))/\Ue p=some (.dK aC)/\PQ tt bb aC/\aC.length<=1+15*i+j/\B7 aC Ni/\(∀ s∈zZ.take i,∀ q,1<=q->q<=tt->B7 aC (gw s q bb))/\∀ q,1<=q->q<=j->B7 aC (gw s q bb)) ⟨_,aC,rfl,sn,vF,P7,P8,hlen,hr,nJ,fun q h1 h2=>absurd h1 (by lia)⟩ (fun j σ Ue hj tf=>?_) (fun σ Ue tf=>?_)
   ·obtain ⟨o4,aC,rfl,sn,vF,P7,P8,hlen,hr,nJ,hq⟩:=tf
    rw [show (1:Int)+(j:Int)=((j+1:Nat):Int) by lia]
    have Du:=gY (n:=j+1) ⟨by lia,by lia⟩
    have tf:=gY (n:=bb) ⟨by lia,by lia⟩
    walk_at "w"
    refine fe (a:=6) (b:=1) WS (by decide) (by decide) fun x1 e1 q1=>?_
    walk_at "w"
    refine nW (om (by lia)) ?_
    refine fe q1 (b:=4) Du.2 (by decide) fun x2 e2 q2=>?_
    walk_at "w"
    refine fe q2 (b:=1) (by decide) (by decide) fun x3 e3 q3=>?_
    walk_at "w"
    refine nW (om (by lia)) ?_
    refine fe q3 (b:=4) tf.2 (by decide) fun x4 e4 q4=>?_
    have ew:x4=gw s (j+1) bb:=by rw [e4,e3,e2,e1];rfl
    have hg:Good tt bb x4 (j+1):=.inr ⟨s,QF,by lia,ew⟩
    have lput:=gA aC (.inr x4) (.int ((j+1:Nat):Int))
    refine⟨p,_,rfl,E2.k (k:=.inr x4) P7 (aaJ (show aC.length<=1000 by lia) (by decide)),_,putK aC (.inr x4) (.int ((j+1:Nat):Int)),rfl,sn.gx hp,?_,ao,P8.put hg,by lia,B7.put (.inl hr),fun s' Gg q h1 h2=>B7.put (.inl (nJ s' Gg q h1 h2)),fun q h1 h2=>?_⟩
    ·rw [ar np.symm];exact vF
    ·by_cases hqj:q<=j
     ·exact B7.put (.inl (hq q h1 hqj))
     ·rw [show q=j+1 by lia,<- ew];exact B7.put (.inr rfl)
   ·obtain ⟨o4,aC,rfl,sn,vF,P7,P8,hlen,hr,nJ,hq⟩:=tf
    refine⟨_,_,aC,rfl,sn,vF,P7,P8,by lia,hr,fun s' Gg q h1 h2=>?_⟩
    rw [et] at Gg
    rcases aaB.mp Gg with z|z
    ·exact nJ s' z q h1 h2
    ·rw [aaA.mp z];exact hq q h1 h2
  ·obtain ⟨o3,o4,aC,rfl,sn,vF,P7,P8,hlen,hr,nJ⟩:=hp
   walk_at "w"
   exact k _ _ sn ⟨aC,P7,fun w=>P8.fin hb ht.2 hr (fun s hs=>nJ s (by rw [aaD,aaM];exact hs)) w⟩
theorem t9:aE ["_law_body","_law_known_here","_law_bars_here","_law_part"] ["_law_body","_law_known_here"] (aq iS):=⟨rfl,rfl,rfl,by decide +kernel,rfl,by decide +kernel,by decide +kernel⟩
theorem ua (D:Def K mg "_law_parted" iS ["_law_body","_law_known_here"]) (T:Txt P w K mg G):Ok P w K mg base 1 "_law_parted" ["_law_body","_law_known_here"] (ia K):=by
 have S:=t9
 refine D.ok S (fun vs H Q E h=>?_) (fun f bU A outer s H vs Q E hr h=>?_)
 ·obtain ⟨_,_,_,_,rfl,_⟩:=h;rfl
 ·obtain ⟨z,d,tt,bb,rfl,hz,hd,QH,JJ,k⟩:=h
  have hu:=bt hr
  have aI:=T.aI
  have ak:=T.ak
  refine⟨_,(ag (aB (i:=2) S.nd rfl (Or.inl rfl) (eR af)) (ag (fH PassesOwn.never rfl (gc K rfl (fi PySem.F.plainAttrs_str PySem.F.slot_str_split PySem.F.type_str_split km (pv 0) (aa aH af))) (aU (i:=3) S.nd rfl (Or.inl rfl)) (aj (iE (fi PySem.F.plainAttrs_list PySem.F.slot_list_append PySem.F.type_list_append eT (pv 2) (aa (fQ (N:=["_law_word","_law_known_here"]) (ix:=[none,some 1]) rfl (gc K rfl (fi PySem.F.plainAttrs_str PySem.F.slot_str_split PySem.F.type_str_split km (pv 3) (aa aH af))) (fun _ _ _ _ _=>(aU (i:=0) (show Ci ["_law_word","_law_known_here"] by decide +kernel) rfl (Or.inl rfl))) (fun _ _ _ _ _=>rfl) (fun _ _ _ _ _=>(IU hu (pv 1) (pv 0) ai ⟨rfl,rfl,rfl,rfl⟩)) rfl (by decide +kernel) (by decide +kernel) rfl ⟨⟨rfl,Or.inr (Or.inl rfl),rfl,rfl⟩,True.intro⟩) af))))) (aj (aP (pv 2))))),?_⟩
  obtain ⟨Ps,T8⟩:∃ Ps,PySem.Txt.split z dy=Ps:=⟨_,rfl⟩
  rw [T8] at QH JJ k
  walk_at "w"
  rename_i l1 H1 n1 s1 m1
  refine mU (ws:=Ps) (by decide) (by lia) (by lia) T8 fun p2 H2 n2 s2 m2=>?_
  have nl:p2≠l1:=fun z=>by rw [z,m1] at n2;cases n2
  walk_at "w"
  refine BB (xs:=Ps.map V.str) (fun i σ Hn=>∃ (o3:Option V) (xs:List V),σ=[some (.str z),some (.ref d),some (.ref l1),o3]/\ah H Hn/\Hn p2=some (.lst (Ps.map V.str))/\Hn l1=some (.lst xs)/\Fa (Gh K l1 Hn) xs ((Ps.take i).map (A6 tt bb))) ⟨_,[],rfl,s1.trans s2,m2,s2 _ _ m1,.nil⟩ (fun i σ Hn hp=>by obtain ⟨_,_,rfl,_,h,_⟩:=hp;exact bA.of h) (fun i x σ Hn hx hp=>?_) (fun σ Hn hp=>?_)
  ·obtain ⟨o3,xs,rfl,sn,tf,vF,hF⟩:=hp
   obtain ⟨p,QJ,rfl⟩:∃ p,Ps[i]?=some p/\x=V.str p:=by
    rw [aaP] at hx
    cases q:Ps[i]? with
    | none=>rw [q] at hx;cases hx
    | some s=>rw [q] at hx;cases hx;exact⟨s,rfl,rfl⟩
   have et:=iw QJ
   obtain ⟨g1,g2⟩:=JJ p (aaC QJ)
   obtain ⟨ws,oj⟩:∃ ws,PySem.Txt.split p gZ=ws:=⟨_,rfl⟩
   have YX:=hF.length
   rw [aaD,aaN] at YX
   walk_at "w"
   refine mU (ws:=ws) (by decide) (by lia) (by rw [<- oj];lia) oj fun p3 H3 n3 s3 m3=>?_
   rw [oj] at g2
   have lm:(ws.map V.str).length=ws.length:=aaD ..
   walk_at "w"
   refine Fj 1 [some (.ref d)] ws.length (fun l j ys H'=>ys=(ws.take j).map fun w=>V.int ((vl tt bb w:Nat):Int)) rfl (fun _ _ _ _ _=>rfl) (fun l j ys H' h=>by rw [h,aaD,aaN];lia) (fun H' s=>⟨_,s.seq (bA.of m3),by lia⟩) (fun j H' hj s=>⟨_,_,s.seq (bA.of m3),aax (by lia)⟩) (fun l j x H' WJ own ys ho hj QI s9 jg hp hy Qy Qn ky kn=>?_) (fun l4 H4 ys n4 s4 m4 hp=>?_)
   ·obtain ⟨o1,rfl⟩:∃ o1,own=[o1]:=by match own,ho with|[o1],_=>exact⟨o1,rfl⟩
    obtain ⟨rfl,e⟩:=hy
    have Ua:=e _ (s9.seq (bA.of (K:=K) m3))
    obtain ⟨w,Kl,rfl⟩:∃ w,ws[j]?=some w/\x=V.str w:=by
     rw [aaP,aax hj] at Ua
     exact⟨_,aax hj,by cases Ua;rfl⟩
    have WU:=iw Kl
    obtain ⟨aC,YZ,hkv⟩:=hd.same (sn.trans (s3.trans s9))
    walk_at "w"
    refine rj ?_
    refine LS ?_
    walk_at "w"
    refine⟨d,rfl,.inl ⟨aC,.inl YZ⟩,?_⟩
    walk_at "w"
    refine⟨_,E1.k (k:=.inr w) YZ,?_⟩
    rw [hkv w]
    exact ky [some (.str w)] _ _ rfl (ah.refl _) (by rw [WU,aaQ,hp];rfl)
   rw [aaM] at hp
   have UT:=s3.trans s4
   have hl4:=UT _ _ vF
   walk_at "w"
   refine⟨l1,xs,_,rfl,rfl,hl4,aaJ (show xs.length<=2000 by lia) (by decide),?_⟩
   have Y0:l4≠l1:=fun z=>by rw [z,s3 _ _ vF] at n4;cases n4
   refine⟨_,xs++[.ref l4],rfl,(sn.trans UT).gx n1,?_,ao,?_⟩
   ·rw [ar nl];exact UT _ _ tf
   ·rw [et,aaQ]
    refine ((hF.imp (Gh.same UT)).imp Gh.off).snoc ⟨l4,rfl,Y0,?_⟩
    rw [ar Y0,m4,hp]
    show _=some (HO.lst ((nI (A6 tt bb p)).map V.int))
    unfold A6 nI
    rw [oj,aaR,aaR];rfl
  ·obtain ⟨o3,xs,rfl,sn,tf,vF,hF⟩:=hp
   rw [aaD,aaM] at hF
   walk_at "w"
   exact k _ _ xs sn vF (hF.imp Gh.ls)
theorem ub:aE ["_law_bars_here","_law_cell","_law_at","_law_words","_law_place","_law_kind","_law_bad_here","_law_most"] ["_law_bars_here","_law_cell"] (aq iT):=⟨rfl,rfl,rfl,by decide +kernel,rfl,by decide +kernel,by decide +kernel⟩
structure uc(P:Program)(w:World)(K:Frag)(mg:Str->Option Value)(base:Heap)(G:qT):Prop where
 Mn:Ok P w K mg base 1 "_law_bad" ["_law_cell"] (lS K)
theorem ud (D:Def K mg "_law_spoilt" iT ["_law_bars_here","_law_cell"]) (T:Txt P w K mg G) (O:uc P w K mg base G):Ok P w K mg base 2 "_law_spoilt" ["_law_bars_here","_law_cell"] (ib K):=by
 have S:=ub
 refine D.ok S (fun vs H Q E h=>?_) (fun f bU A outer s H vs Q E hr h=>?_)
 ·obtain ⟨_,_,_,_,_,_,_,rfl,_⟩:=h;rfl
 ·obtain ⟨l,xs,bz,tt,bb,N,c,rfl,hl,hF,aR,hN,k⟩:=h
  have hu:=bt hr
  have aI:=T.aI
  have ak:=T.ak
  refine⟨_,(ag (aB (i:=2) S.nd rfl (Or.inl rfl) (aw cv (pv 1) (aJ (eU K rfl) rfl T.fO PySem.boot_len (aa (pv 0) af)))) (ag (aB (i:=3) S.nd rfl (Or.inl rfl) (bV (Li K rfl) rfl T.PZ boot_list (aa (bL (bp K rfl) (pv 0) (pv 2) (fun _ _=>rfl)) af))) (ag (aB (i:=4) S.nd rfl (Or.inl rfl) (aw cv (aw ma (pv 1) ai) (aJ (eU K rfl) rfl T.fO PySem.boot_len (aa (pv 3) af)))) (ag (aB (i:=5) S.nd rfl (Or.inl rfl) (aw cv (aw ma (pv 1) ai) ai)) (ag (aB (i:=6) S.nd rfl (Or.inl rfl) (bj O.Mn (hr.mono (by decide)) (aa (aw ma (pv 1) ai) af))) (ag (bT (PW.pt (y6 (aT ip (pv 5) ai (aZ _)) (qZ (PW.pt (Gp (aT ip (pv 5) ai (aZ _)) (C9 (aT ip (aJ (eU K rfl) rfl T.fO PySem.boot_len (aa (pv 3) af)) ai (aZ _)))))))) (aj (NL (pv 6) (NK (pv 3) (pv 4) set_list))) (aj (bT (aT ip (pv 5) ai (aZ _)) (aj (iE (fi PySem.F.plainAttrs_list PySem.F.slot_list_insert PySem.F.type_list_insert EZ (pv 3) (aa (pv 4) (aa aH af))))) (aj (bT (aT ip (pv 5) ai (aZ _)) (ag (aB (i:=7) S.nd rfl (Or.inl rfl) (bL (bp K rfl) (eR (aa ai (aa ai (aa ai af)))) (aw cv (aw ma (pv 1) ai) ai) (fun _ _=>rfl))) (aj (aB (i:=3) S.nd rfl (Or.inl rfl) (aw lF (aw lF (pv 3) (aw GP (eR (aa aH af)) (aw js (aw js (pv 7) ai) (aJ (eU K rfl) rfl T.fO PySem.boot_len (aa (pv 3) af))))) (eR (aa (pv 6) af)))))) (aj (bT (aT ip (pv 5) ai (aZ _)) (aj (iE (fi PySem.F.plainAttrs_list PySem.F.slot_list_pop PySem.F.type_list_pop GO (pv 3) (aa (pv 4) af)))) aV))))))) (aj (aP (aw lF (aw lF (fh (rP K rfl) (pv 0) kf (eZ (pv 2))) (eR (aa (pv 3) af))) (fh (rP K rfl) (pv 0) (eZ (aw bK (pv 2) ai)) kf)))))))))),?_⟩
  have lx:=hF.length
  have Y1:=aR.1
  walk_at "w"
  obtain ⟨at',K7⟩:∃ at':Nat,c % (xs.length:Int)=(at':Int):=Int.eq_ofNat_of_zero_le (emod_nonneg _ (by lia))
  have nA:at'<xs.length:=by have:=emod_lt_of_pos c (show 0<(xs.length:Int) by lia);lia
  rw [K7]
  obtain ⟨ws,⟨a0,ha0,Y2⟩,hwi⟩:=hF.get (aax nA)
  have Mm:=aaC hwi
  obtain ⟨UD,QK⟩:=aR.2 ws Mm
  refine mI (bA.of hl) (iG (aax nA)) ?_
  rw [ha0]
  walk_at "w"
  rename_i p2 H2 n2 s2 m2
  have Mo:(ws.map V.str).length=ws.length:=aaD ..
  rw [Mo]
  obtain ⟨pl,jt⟩:∃ pl:Nat,c / 5 % (ws.length:Int)=(pl:Int):=Int.eq_ofNat_of_zero_le (emod_nonneg _ (by lia))
  have Mp:pl<ws.length:=by have:=emod_lt_of_pos (c / 5) (show 0<(ws.length:Int) by lia);lia
  refine VF (show (0:Int)<(ws.length:Int) by lia) ?_
  rw [jt]
  walk_at "w"
  refine Fq fun bd H3 s3 hbd=>?_
  obtain ⟨kd,UU⟩:∃ kd,c / 20 % 6=kd:=⟨_,rfl⟩
  rw [UU]
  have m3:=s3 _ _ m2
  have Y3:pw tt bb bd:=.inr hbd
  have Y4:pw tt bb Ni:=.inl ⟨bb,.inl ⟨rfl,rfl⟩⟩
  walk_at "j"
  refine join (fun σ' H'=>∃ (o7:Option V) (p:Addr) (QL:List Str),σ'=[some (.ref l),some (.int c),some (.int (at':Int)),some (.ref p),some (.int (pl:Int)),some (.int kd),some (.str bd),o7]/\ah H H'/\H p=none/\H' p=some (.lst (QL.map V.str))/\(1<=QL.length/\QL.length<=max N 29+1)/\∀ w∈QL,pw tt bb w) (fun nx Eb=>?_) (fun σ' H4 hP=>?_)
  ·refine PU (decide (kd=1\/(kd=4/\ws.length=1))) (fun Q' Ug=>?_) ?_
   ·walk_at "w"
    by_cases k1:kd=1
    ·rw [if_pos (aas k1)]
     rw [aas (.inl k1)] at Ug
     exact Ug
    ·rw [if_neg (by rw [aar k1];decide)]
     walk_at "w"
     by_cases k4:kd=4
     ·rw [if_pos (aas k4)]
      walk_at "w"
      rw [Mo,show decide ((ws.length:Int)=1)=decide (kd=1\/(kd=4/\ws.length=1)) from decide_eq_decide.mpr ⟨fun h=>.inr ⟨k4,by lia⟩,fun h=>h.elim (fun z=>absurd z k1) (fun z=>by lia)⟩]
      exact Ug
     ·rw [if_neg (by rw [aar k4];decide)]
      rw [aar (fun z=>z.elim k1 fun y=>k4 y.1)] at Ug
      exact Ug
   refine dR (fun hc=>?_) (fun hc=>?_)
   ·walk_at "w"
    refine OW (j:=pl) m3 (D5 (by rw [Mo];exact Mp)) ?_
    refine Eb _ _ ⟨_,p2,ws.set pl bd,rfl,(s2.trans s3).gx n2,n2,by rw [List.map_set];exact ao,by rw [List.length_set];lia,fun w hw=>?_⟩
    rcases List.mem_or_eq_of_mem_set hw with z|z
    ·exact QK w z
    ·rw [z];exact Y3
   have y4:=aaq hc
   walk_at "w"
   refine dR (fun h2=>?_) (fun h2=>?_)
   ·walk_at "w"
    refine HX m3 (by lia) (by lia) ?_
    refine Eb _ _ ⟨_,p2,ws.take pl++Ni::ws.drop pl,rfl,(s2.trans s3).gx n2,n2,by rw [aaQ,map_cons,map_take,List.map_drop];exact ao,by rw [aaE,length_cons,aaN,length_drop];lia,fun w hw=>?_⟩
    rcases aaB.mp hw with z|z
    ·exact QK w (aaX z)
    ·rcases aaG.mp z with z|z
     ·rw [z];exact Y4
     ·exact QK w (List.mem_of_mem_drop z)
   walk_at "w"
   refine dR (fun h3=>?_) (fun h3=>?_)
   ·walk_at "w"
    rename_i p5 H5 n5 s5 m5
    obtain ⟨mo,hmo,hmb⟩:∃ mo:Int,Dm [V.int 24,V.int 25,V.int 30] (c / 120 % 3)=some (.int mo)/\(24<=mo/\mo<=30):=by
     have h0:0<=c / 120 % 3:=emod_nonneg _ (by decide)
     have h1:c / 120 % 3<3:=emod_lt_of_pos _ (by decide)
     rcases (show c / 120 % 3=0\/c / 120 % 3=1\/c / 120 % 3=2 by lia) with e|e|e <;> rw [e]
     ·exact⟨24,rfl,by decide⟩
     ·exact⟨25,rfl,by decide⟩
     ·exact⟨30,rfl,by decide⟩
    refine mI (bA.of m5) hmo ?_
    have m6:=s5 _ _ m3
    walk_at "w"
    rename_i p7 H7 n7 s7 m7
    obtain ⟨rk,WV⟩:∃ rk:Nat,(mo - 1 - ((ws.map V.str).length:Int)).toNat=rk:=⟨_,rfl⟩
    rw [Mo] at WV
    have hrb:rk<=29/\(rk=0\/ws.length+rk+1<=30):=by lia
    refine PV m7 (by rw [Mo];lia) (by rw [Mo,WV];show 1*rk<=1000;lia) fun p8 H8 n8 s8 m8=>?_
    rw [Mo,WV,D7] at m8
    have m9:=(s7.trans s8) _ _ m6
    refine Hx m9 m8 (by rw [Mo,aaD,length_replicate];lia) fun p9 H9 n9 s9 m9'=>?_
    walk_at "w"
    rename_i Y5 G2 n10 G1 Uh UW QA n11 K3 QM
    have Ui:=s2.trans (s3.trans (s5.trans (s7.trans (s8.trans (s9.trans G1)))))
    refine Eb _ _ ⟨_,UW,ws++List.replicate rk (Str.ofString "R=1/1")++[bd],rfl,Ui.trans K3,Ui.new n11,by rw [aaQ,aaQ];exact QM,by rw [aaE,aaE,length_replicate];show 1<=_+1/\_+1<=_;lia,fun w hw=>?_⟩
    rcases aaB.mp hw with z|z
    ·rcases aaB.mp z with z|z
     ·exact QK w z
     ·rw [(List.mem_replicate.mp z).2];exact Y4
    ·rw [aaA.mp z];exact Y3
   walk_at "w"
   refine dR (fun h4=>?_) (fun h4=>?_)
   ·walk_at "w"
    have WW:kd=4:=aap h4
    have hgt:ws.length≠1:=fun z=>y4 (.inr ⟨WW,z⟩)
    refine⟨p2,_,(pl:Int),pl,.str ws[pl],rfl,rfl,m3,by lia,by lia,(wk (D5 (by rw [Mo];exact Mp))).1,by rw [aaP,aax Mp];rfl,?_⟩
    refine Eb _ _ ⟨_,p2,ws.eraseIdx pl,rfl,(s2.trans s3).gx n2,n2,by rw [vX];exact ao,by rw [List.length_eraseIdx_of_lt Mp];lia,fun w hw=>QK w (List.mem_of_mem_eraseIdx hw)⟩
   walk_at "w"
   exact Eb _ _ ⟨_,p2,ws,rfl,s2.trans s3,n2,m3,by lia,QK⟩
  obtain ⟨o7,p,QL,rfl,s4,np,m4,MM,ht2⟩:=hP
  have Y6:=s4 _ _ hl
  have hF4:=hF.imp (A7.same s4)
  walk_at "w"
  refine HY (j:=at') (bA.of Y6) fun p5 H5 n5 s5 m5=>?_
  walk_at "w"
  rename_i p6 H6 n6 s6 m6 p7 H7 n7 s7 m7
  have Y7:=s5.trans (s6.trans s7)
  refine O4 (j:=at'+1) (bA.of (Y7 _ _ Y6)) fun p8 H8 n8 s8 m8=>?_
  refine Hx (s8 _ _ m7) m8 (by rw [aaE,aaN,length_drop];show _+1+_<=1000;lia) fun p9 H9 n9 s9 m9=>?_
  have WX:=Y7.trans (s8.trans s9)
  have Y8:=hF4.imp (A7.same WX)
  refine k p9 _ (bz.take at'++[QL]++bz.drop (at'+1)) H9 (s4.trans WX) m9 (xr (xr (xt at' Y8) (.cons ⟨p,rfl,WX _ _ m4⟩ .nil)) (D6 (at'+1) Y8)) ⟨by rw [aaE,aaE,aaN,length_drop];show 1<=_+1+_/\_+1+_<=5;lia,fun w3 hw3=>?_⟩
  rcases aaB.mp hw3 with z|z
  ·rcases aaB.mp z with z|z
   ·have:=aR.2 w3 (aaX z)
    exact⟨by lia,this.2⟩
   ·rw [aaA.mp z];exact⟨MM,ht2⟩
  ·have:=aR.2 w3 (List.mem_of_mem_drop z)
   exact⟨by lia,this.2⟩
theorem Cz:aE ["_law_bars_here","_law_total","_law_at","_law_pieces_here"] ["_law_bars_here","_law_total"] (aq oi):=⟨rfl,rfl,rfl,by decide +kernel,rfl,by decide +kernel,by decide +kernel⟩
theorem CA (D:Def K mg "_law_due" oi ["_law_bars_here","_law_total"]) (T:Txt P w K mg G):Ok P w K mg base 1 "_law_due" ["_law_bars_here","_law_total"] (lT K):=by
 have S:=Cz
 refine D.ok S (fun vs H Q E h=>?_) (fun f bU A outer s H vs Q E hr h=>?_)
 ·obtain ⟨_,_,_,_,rfl,_⟩:=h;rfl
 ·obtain ⟨l,xs,bs,tt,rfl,hl,hF,QH,JJ,k⟩:=h
  have hu:=bt hr
  have aI:=T.aI
  have ak:=T.ak
  refine⟨_,(ag (bT (aT ze (aJ (eU K rfl) rfl T.fO PySem.boot_len (aa (pv 0) af)) ai (aZ _)) (aj (aP (bE (aa aH af)))) aV) (ag (fH PassesOwn.never rfl (mL K rfl false rfl T.gG (aa (pv 0) af)) (kl (n:=2) K rfl rfl (cV (aU (i:=2) S.nd rfl (Or.inl rfl)) (cV (aU (i:=3) S.nd rfl (Or.inl rfl)) ka))) (ag (bT (aT ze (aJ (eU K rfl) rfl T.fO PySem.boot_len (aa (pv 3) af)) ai (aZ _)) (aj (aP (bE (aa aH (aa (pv 2) af))))) aV) (ag (bT (aT (Lz K rfl hr.units) ai (pv 3) (by with_unfolding_all rfl)) (aj (aP (bE (aa aH (aa (pv 2) (aa (fi PySem.F.plainAttrs_list PySem.F.slot_list_index PySem.F.type_list_index (BP K rfl hr.units) (pv 3) (aa ai af)) af)))))) aV) (aj (bT (aT zd (aJ (O0 K rfl rfl) rfl T.TY boot_sum (aa (pv 3) af)) (pv 1) (aZ _)) (aj (aP (bE (aa aH (aa (pv 2) af))))) aV))))) (aj (aP (bE (aa aH af)))))),?_⟩
  have lx:=hF.length
  unfold Jc at k
  walk_at "w"
  by_cases T9:40<bs.length
  ·refine mJ (aas (by lia)) ?_
   rw [if_pos T9] at k
   walk_at "w"
   rename_i p2 H2 s2 m2
   exact k p2 H2 s2 m2
  refine ll (aar (by lia)) ?_
  rw [if_neg T9] at k
  obtain ⟨U,hU⟩:∃ U,jj tt 0 bs=U:=⟨_,rfl⟩
  rw [hU] at k
  walk_at "w"
  refine Ig (k:=false) (xs:=xs) (fun i σ Hn=>∃ (o2 o3:Option V),σ=[some (.ref l),some (.int (tt:Int)),o2,o3]/\ah H Hn/\U=jj tt i (bs.drop i)) ⟨_,_,rfl,ah.refl _,hU.symm⟩ (fun i σ Hn hp=>by obtain ⟨_,_,rfl,sn,_⟩:=hp;exact iJ (sn.seq hl)) (fun i x σ Hn Hn' hx hp Ud=>?_) (fun σ Hn hp=>?_)
  ·obtain ⟨o2,o3,rfl,sn,Ec⟩:=hp
   have Uj:=sn.trans Ud
   obtain ⟨ps,⟨a,rfl,ha⟩,QJ⟩:=(hF.imp (L9.same Uj)).get hx
   have hi:=(aad.mp QJ).1
   have hd:bs.drop i=ps::bs.drop (i+1):=by rw [List.drop_eq_getElem_cons hi,(aad.mp QJ).2]
   rw [hd,z7,z8] at Ec
   have lp:=PM ps
   have lp5:=JJ ps (aaC QJ)
   walk_at "w"
   by_cases T6:24<ps.length
   ·refine mJ (aas (by lia)) ?_
    rw [if_pos T6] at Ec
    walk_at "w"
    rename_i p2 H2 s2 m2
    exact k p2 H2 (Uj.trans s2) (by rw [Ec];exact m2)
   refine ll (aar (by lia)) ?_
   rw [if_neg T6] at Ec
   walk_at "w"
   refine S2 ha (z9 ps) (.int _) (Jk ps) rfl (by decide) ?_
   rw [Jl]
   walk_at "w"
   by_cases h0:0∈ps
   ·refine mJ (aas h0) ?_
    rw [if_pos h0] at Ec
    obtain ⟨g1,g2⟩:=xq h0
    walk_at "w"
    refine Iy (B2 ps) ha (by have:=PN h0;lia) (by rw [Ji,g1];rfl) (fun j hj z=>?_) ?_
    ·rw [Ji] at z
     cases q:ps[j]? with
     | none=>rw [q] at z;cases z
     | some n =>
      rw [q] at z
      refine g2 j hj ?_
      have:(n:Int)=0:=by simpa using z
      rw [q,show n=0 by lia]
    walk_at "w"
    rename_i p2 H2 s2 m2
    exact k p2 H2 (Uj.trans s2) (by rw [Ec];exact m2)
   refine ll (aar h0) ?_
   rw [if_neg h0] at Ec
   walk_at "w"
   refine SU ha ?_
   rw [Jj]
   walk_at "w"
   by_cases tX:ps.sum=tt
   ·rw [if_pos tX] at Ec
    refine ll (by rw [aas (by lia)];rfl) ?_
    walk_at "w"
    exact⟨_,_,rfl,Uj,Ec⟩
   ·rw [if_neg tX] at Ec
    refine mJ (by rw [aar (by lia)];rfl) ?_
    walk_at "w"
    rename_i p2 H2 s2 m2
    exact k p2 H2 (Uj.trans s2) (by rw [Ec];exact m2)
  ·obtain ⟨o2,o3,rfl,sn,Ec⟩:=hp
   rw [lx.symm,List.drop_length] at Ec
   walk_at "w"
   rename_i p2 H2 s2 m2
   exact k p2 H2 (sn.trans s2) (by rw [Ec];exact m2)
theorem AB:aE ["_law_script","_law_body","_law_head","_law_kind","_law_cell","_law_some"] ["_law_script","_law_body","_law_head"] (aq lM):=⟨rfl,rfl,rfl,by decide +kernel,rfl,by decide +kernel,by decide +kernel⟩
structure AD(P:Program)(w:World)(K:Frag)(mg:Str->Option Value)(base:Heap)(G:qT):Prop where
 bG:Ok P w K mg base 1 "_law_cell_at" ["_law_script","_law_k"] (dE K)
theorem AE (D:Def K mg "_law_text" lM ["_law_script","_law_body","_law_head"]) (T:Txt P w K mg G) (O:AD P w K mg base G):Ok P w K mg base 2 "_law_text" ["_law_script","_law_body","_law_head"] (jT K):=by
 have S:=AB
 refine D.ok S (fun vs H Q E h=>?_) (fun f bU A outer s H vs Q E hr h=>?_)
 ·obtain ⟨_,_,_,_,rfl,_⟩:=h;rfl
 ·obtain ⟨a,ns,b,h,rfl,hS,hh,UX,hb,Km,k⟩:=h
  have hu:=bt hr
  have aI:=T.aI
  have ak:=T.ak
  refine⟨_,(@ag _ _ _ _ _ (aB (i:=3) S.nd rfl (Or.inl rfl) (aw cv (bj O.bG (hr.mono (by decide)) (aa (pv 0) (aa ai af))) ai)) (@ag _ _ _ _ _ (aB (i:=4) S.nd rfl (Or.inl rfl) (aw ma (bj O.bG (hr.mono (by decide)) (aa (pv 0) (aa ai af))) ai)) (@ag _ _ _ _ _ (bT (aT ip (pv 3) ai (aZ _)) (@aj _ _ _ (aP (bL (bp K rfl) (eR (aa (pv 2) (aa (aw bg (aw bg (pv 2) aH) (pv 1)) (aa (aw bg (aw bg (pv 2) aH) (pv 1)) (aa (aw bg (aw bg (pv 2) aH) (pv 1)) (aa aH (aa (pv 1) af))))))) (aw cv (pv 4) ai) (fun _ _=>rfl)))) aV) (@ag _ _ _ _ _ (bT (aT ip (pv 3) ai (aZ _)) (@ag _ _ _ _ _ (@aB _ _ 5 _ _ _ _ S.nd rfl (Or.inl rfl) (@mR _ _ _ _ (by rfl)) (by rfl) (by first|exact .inl rfl|exact .inr rfl|assumption)) (aj (aP (aw bg (aw bg (bL (bp K rfl) (pv 5) (aw cv (pv 4) ai) (fun _ _=>rfl)) aH) (pv 1))))) aV) (aj (aP (aw bg (aw bg (pv 2) aH) (pv 1)))))))),?_⟩
  walk_at "w"
  have e0:ns.getD (Int.toNat 0) 0=ns.getD 0 0:=rfl
  rw [e0]
  generalize ns.getD 0 0=c0 at *
  refine dR (fun h1=>?_) (fun h1=>?_)
  ·have h1:=aap h1
   rw [h1] at k
   walk_at "w"
   refine ff (a:=100) (b:=1) UX (by decide) (by decide) fun x1 e1 q1=>?_
   walk_at "w"
   refine ff q1 Km (by decide) fun x2 e2 q2=>?_
   walk_at "w"
   refine ff (a:=100) (b:=2) UX (by decide) (by decide) fun x3 e3 q3=>?_
   walk_at "w"
   refine ff q3 Km (by decide) fun x4 e4 q4=>?_
   walk_at "w"
   refine ff (a:=100) (b:=1) UX (by decide) (by decide) fun x5 e5 q5=>?_
   walk_at "w"
   refine ff q5 Km (by decide) fun x6 e6 q6=>?_
   walk_at "w"
   rename_i p1 H1 n1 s1 m1
   obtain ⟨v,hv,z,rfl,hz,hzl⟩:=B6 (i:=c0 / 6 % 6) (P:=fun v=>∃ z:Str,v=.str z/\mY z.cps.toList=true/\z.length<=200000) m1 (by
    simp only [aaG,not_mem_nil,or_false]
    intro v hv
    rcases hv with rfl|rfl|rfl|rfl|rfl|rfl
    ·exact⟨_,rfl,mZ hh,by lia⟩
    ·exact⟨_,rfl,by rw [e2,e1];exact xu hh hb (by decide) (by decide),by lia⟩
    ·exact⟨_,rfl,by rw [e4,e3];exact xu hh hb (by decide) (by decide),by lia⟩
    ·exact⟨_,rfl,by rw [e6,e5];exact xu hh hb (by decide) (by decide),by lia⟩
    ·exact⟨_,rfl,by decide,by decide⟩
    ·exact⟨_,rfl,hb,by lia⟩) (emod_nonneg _ (by decide)) (emod_lt_of_pos _ (by decide))
   exact mI (bA.of m1) hv (k _ _ s1 hzl (TU.one hz))
  ·have h1:=aaq h1
   walk_at "w"
   refine dR (fun h2=>?_) (fun h2=>?_)
   ·have h2:=aap h2
    rw [h2] at k
    walk_at "w"
    rename_i p1 H1 n1 s1 m1
    obtain ⟨v,hv,z,rfl,hz⟩:=B6 (i:=c0 / 6 % 9) (P:=fun v=>∃ z:Str,v=.str z/\z∈Et) m1 (by
     simp only [aaG,not_mem_nil,or_false]
     intro v hv
     repeat' (rcases hv with hv|hv)
     all_goals exact⟨_,rfl,by decide⟩) (emod_nonneg _ (by decide)) (emod_lt_of_pos _ (by decide))
    obtain ⟨⟨g1,g2⟩,g3⟩:=PX z hz
    refine mI (bA.of m1) hv ?_
    walk_at "w"
    refine ff (b:=2) g1 (by decide) (by decide) fun x1 e1 q1=>?_
    walk_at "w"
    refine ff q1 Km (by decide) fun x2 e2 q2=>?_
    exact k _ _ s1 (by lia) ⟨z,k8,b,by rw [e2,e1];exact Aa g2,fun y=>absurd y (by decide),fun _=>⟨by lia,by decide,g3⟩,fun _ y=>absurd rfl y⟩
   ·have h2:=aaq h2
    walk_at "w"
    refine ff (b:=2) UX (by decide) (by decide) fun x1 e1 q1=>?_
    walk_at "w"
    refine ff q1 Km (by decide) fun x2 e2 q2=>?_
    exact k _ _ (ah.refl _) (by lia) ⟨h,k8,b,by rw [e2,e1];exact Aa hh,fun y=>absurd y h1,fun y=>absurd y h2,fun _ _=>⟨rfl,rfl,rfl⟩⟩
theorem AF:aE ["_law_text_here","_law_found","e"] ["_law_text_here"] (aq lN):=⟨rfl,rfl,rfl,by decide +kernel,rfl,by decide +kernel,by decide +kernel⟩
structure AG(P:Program)(w:World)(K:Frag)(mg:Str->Option Value)(base:Heap)(G:qT):Prop where
 FF:rU P w K mg base 9 "tune_read" ["text"] (iX K)
theorem AH (D:Def K mg "_law_told" lN ["_law_text_here"]) (T:Txt P w K mg G) (O:AG P w K mg base G):Ok P w K mg base 10 "_law_told" ["_law_text_here"] (jU K):=by
 have S:=AF
 refine D.ok S (fun vs H Q E h=>?_) (fun f bU A outer s H vs Q E hr h=>?_)
 ·obtain ⟨_,_,_,_,_,rfl,_⟩:=h;rfl
 ·obtain ⟨z,a,m,b,R,rfl,hz,hp,hR,k⟩:=h
  have hu:=bt hr
  have aI:=T.aI
  have ak:=T.ak
  refine⟨_,(ag (aB (i:=1) S.nd rfl (Or.inl rfl) (bE (aa aH af))) (ag (LJ rfl rfl rfl (fun _ _=>(aj (iE (jw O.FF (hr.mono (by decide)) (fun _ _ z=>z) rfl (aa (pv 0) af))))) (.cons (i:=2) T.Aj S.nd rfl rfl rfl T.jO (fun _=>(aj (aB (i:=1) S.nd rfl (Or.inl rfl) (bE (aa aH (aa (aJ (nR K rfl) rfl T.bc boot_isinstance (@aa _ _ _ _ _ (pv 2) (@aa _ _ _ _ _ (@bE _ _ _ _ _ (aa (aY (v:=V.ref G.aA) rfl T.jP rfl) (aa (aY (v:=V.ref G.au) rfl T.kL rfl) (aa (aY (v:=V.ref G.aF) rfl T.dC rfl) (aa (aY (v:=V.ref G.ax) rfl T.cp rfl) af))))) af (by rfl)) (by rfl))) (aa (aJ (nR K rfl) rfl T.bc boot_isinstance (aa (pv 2) (aa (iD (v:=V.ty "ValueError") rfl T.ng L2.i5 rfl) af))) af))))))) (.cons (i:=2) T.sx S.nd rfl rfl rfl T.jP (fun _=>(aj (aB (i:=1) S.nd rfl (Or.inl rfl) (bE (aa aH (aa (BV K rfl (pv 2) rfl) (aa (aJ (nR K rfl) rfl T.bc boot_isinstance (@aa _ _ _ _ _ (pv 2) (@aa _ _ _ _ _ (@bE _ _ _ _ _ (aa (aY (v:=V.ref G.au) rfl T.kL rfl) (aa (aY (v:=V.ref G.aG) rfl T.jO rfl) (aa (aY (v:=V.ref G.aF) rfl T.dC rfl) (aa (aY (v:=V.ref G.ax) rfl T.cp rfl) af))))) af (by rfl)) (by rfl))) (aa (aJ (nR K rfl) rfl T.bc boot_isinstance (aa (pv 2) (aa (iD (v:=V.ty "ValueError") rfl T.ng L2.i5 rfl) af))) af)))))))) (.cons (i:=2) T.oE S.nd rfl rfl rfl T.kL (fun _=>(aj (aB (i:=1) S.nd rfl (Or.inl rfl) (bE (aa aH (aa (BV K rfl (pv 2) rfl) (aa (BV K rfl (pv 2) rfl) (aa (aJ (nR K rfl) rfl T.bc boot_isinstance (@aa _ _ _ _ _ (pv 2) (@aa _ _ _ _ _ (@bE _ _ _ _ _ (aa (aY (v:=V.ref G.aA) rfl T.jP rfl) (aa (aY (v:=V.ref G.aF) rfl T.dC rfl) (aa (aY (v:=V.ref G.ax) rfl T.cp rfl) af)))) af (by rfl)) (by rfl))) (aa (aJ (nR K rfl) rfl T.bc boot_isinstance (aa (pv 2) (aa (aY (v:=V.ref G.bF) rfl T.Ag rfl) af))) af))))))))) .nil)))) (aj (aP (pv 1))))),?_⟩
  walk_at "j"
  rename_i p1 H1 s1 m1
  refine Ap hz hp hR ⟨fun e C H9 hC s9=>?_,fun i e C dx H9 hC s9 m9=>?_,fun i j e C dx H9 hC s9 m9=>?_,fun e v H9 s9=>?_⟩
  ·obtain rfl:C=G.aG:=by rw [T.nk] at hC;cases hC;rfl
   refine⟨_,rfl,xc T.dj fun ae Fc=>?_⟩
   have JK:upd H9 ae (fj ae G.aG none) ae=some (fj ae G.aG none):=ao
   have sA:=(s1.trans s9).trans (ah.aW (o:=fj ae G.aG none) Fc)
   dsimp only
   generalize upd H9 ae (fj ae G.aG none)=HA at JK sA ⊢
   walk_at "w"
   rename_i p2 H2 s2 m2
   have he:=s2 _ _ JK
   have Gf:rR H2 none:=rR.none
   refine By (Ds:=[G.aA,G.au,G.aF,G.ax]) T.gi he Gf (bh.of m2) (nc ?_) ?_
   ·intro D hD
    simp only [aaG,not_mem_nil,or_false] at hD
    rcases hD with rfl|rfl|rfl|rfl
    ·exact eC T.sx T.dw T.dm
    ·exact eC T.oE T.cH T.cG
    ·exact eC T.ni T.bX T.di
    ·exact eC T.gf T.bx T.cy
   walk_at "w"
   refine HN T.gi he Gf (HP i4 T.bC) ?_
   walk_at "w"
   rename_i p3 H3 s3 m3
   exact k p3 H3 (sA.trans (s2.trans s3)) (by rw [e];exact m3)
  ·obtain rfl:C=G.aA:=by rw [T.iz] at hC;cases hC;rfl
   refine⟨_,rfl,BM T.bY (xc T.dF fun ae Fc=>?_)⟩
   have nx:dx≠ae:=fun z=>by rw [z,Fc] at m9;cases m9
   have JK:upd H9 ae (fj ae G.aA (some dx)) ae=some (fj ae G.aA (some dx)):=ao
   have Nr:upd H9 ae (fj ae G.aA (some dx)) dx=some (.xd [("bar",.int (i:Nat))]):=by rw [ar nx];exact m9
   have sA:=(s1.trans s9).trans (ah.aW (o:=fj ae G.aA (some dx)) Fc)
   dsimp only
   generalize upd H9 ae (fj ae G.aA (some dx))=HA at JK Nr sA ⊢
   walk_at "w"
   refine Pz ?_
   walk_at "w"
   refine IL T.fG T.nq JK Nr rfl ?_
   walk_at "w"
   rename_i p2 H2 s2 m2
   have he:=s2 _ _ JK
   have Gf:rR H2 (some dx):=fun d e=>by cases e;exact⟨_,s2 _ _ Nr,by rfl⟩
   refine By (Ds:=[G.au,G.aG,G.aF,G.ax]) T.fG he Gf (bh.of m2) (nc ?_) ?_
   ·intro D hD
    simp only [aaG,not_mem_nil,or_false] at hD
    rcases hD with rfl|rfl|rfl|rfl
    ·exact eC T.oE T.cJ T.cI
    ·exact eC T.Aj T.dD T.bY
    ·exact eC T.ni T.dB T.dz
    ·exact eC T.gf T.cA T.cz
   walk_at "w"
   refine HN T.fG he Gf (HP i4 T.bD) ?_
   walk_at "w"
   rename_i p3 H3 s3 m3
   exact k p3 H3 (sA.trans (s2.trans s3)) (by rw [e];exact m3)
  ·obtain rfl:C=G.au:=by rw [T.d5] at hC;cases hC;rfl
   refine⟨_,rfl,BM T.cM (BM T.bI (xc T.cB fun ae Fc=>?_))⟩
   have nx:dx≠ae:=fun z=>by rw [z,Fc] at m9;cases m9
   have JK:upd H9 ae (fj ae G.au (some dx)) ae=some (fj ae G.au (some dx)):=ao
   have Nr:upd H9 ae (fj ae G.au (some dx)) dx=some (.xd [("bar",.int (i:Nat)),("place",.int (j:Nat))]):=by rw [ar nx];exact m9
   have sA:=(s1.trans s9).trans (ah.aW (o:=fj ae G.au (some dx)) Fc)
   dsimp only
   generalize upd H9 ae (fj ae G.au (some dx))=HA at JK Nr sA ⊢
   walk_at "w"
   refine Pz ?_
   walk_at "w"
   refine IL T.dY T.ly JK Nr rfl ?_
   walk_at "w"
   refine Pz ?_
   walk_at "w"
   refine IL T.dY T.jd JK Nr rfl ?_
   walk_at "w"
   rename_i p2 H2 s2 m2
   have he:=s2 _ _ JK
   have Gf:rR H2 (some dx):=fun d e=>by cases e;exact⟨_,s2 _ _ Nr,by rfl⟩
   refine By (Ds:=[G.aA,G.aF,G.ax]) T.dY he Gf (bh.of m2) (nc ?_) ?_
   ·intro D hD
    simp only [aaG,not_mem_nil,or_false] at hD
    rcases hD with rfl|rfl|rfl
    ·exact eC T.sx T.cN T.bI
    ·exact eC T.ni T.bH T.cL
    ·exact eC T.gf T.bq T.bP
   walk_at "w"
   refine OR T.dY he Gf (Lp T.Ah T.bB) ?_
   walk_at "w"
   rename_i p3 H3 s3 m3
   exact k p3 H3 (sA.trans (s2.trans s3)) (by rw [e];exact m3)
  ·walk_at "w"
   exact k p1 H9 (s1.trans s9) (by rw [e];exact s9 _ _ m1)
theorem P9:aE ["_law_script","_law_total","_law_bottom","_law_bars_here","_law_k","_law_kind","_law_body","_law_due_here","_law_found","_law_part"] ["_law_script"] (aq mV):=⟨rfl,rfl,rfl,by decide +kernel,rfl,by decide +kernel,by decide +kernel⟩
structure Qa(P:Program)(w:World)(K:Frag)(mg:Str->Option Value)(base:Heap)(G:qT):Prop where
 bG:Ok P w K mg base 1 "_law_cell_at" ["_law_script","_law_k"] (dE K)
 JM:Ok P w K mg base 3 "_law_bars" ["_law_script","_law_total","_law_bottom"] (jS K)
 FG:Ok P w K mg base 1 "_law_known" ["_law_total","_law_bottom"] (iY K)
 CB:Ok P w K mg base 1 "_law_parted" ["_law_body","_law_known_here"] (ia K)
 CC:Ok P w K mg base 2 "_law_spoilt" ["_law_bars_here","_law_cell"] (ib K)
 Mq:Ok P w K mg base 1 "_law_due" ["_law_bars_here","_law_total"] (lT K)
 JN:Ok P w K mg base 2 "_law_text" ["_law_script","_law_body","_law_head"] (jT K)
 JO:Ok P w K mg base 10 "_law_told" ["_law_text_here"] (jU K)
theorem Qb {f:Addr} {fd:FuncData} (F:K1 K "law" "law" mV f fd) (T:Txt P w K mg G) (O:Qa P w K mg base G):rf P w K mg base Kg 11 f fd ["_law_script"] (G9 K):=by
 have S:=P9
 refine F.ok S (fun vs H Q E h=>?_) (fun bU A outer s H vs Q E hr h=>?_)
 ·obtain ⟨_,_,rfl,_⟩:=h;rfl
 ·obtain ⟨a,ns,rfl,hS,hlen,k⟩:=h
  have hu:=bt hr
  have aI:=T.aI
  have ak:=T.ak
  refine⟨_,(ag (aB (i:=1) S.nd rfl (Or.inl rfl) (aw bK ai (aw cv (bj O.bG (hr.mono (by decide)) (aa (pv 0) (aa ai af))) ai))) (ag (aB (i:=2) S.nd rfl (Or.inl rfl) (aw bK ai (aw cv (bj O.bG (hr.mono (by decide)) (aa (pv 0) (aa ai af))) ai))) (ag (aB (i:=3) S.nd rfl (Or.inl rfl) (bj O.JM (hr.mono (by decide)) (aa (pv 0) (aa (pv 1) (aa (pv 2) af))))) (ag (fH PassesOwn.never rfl (nz rfl T.qU (aa ai af)) (aU (i:=4) S.nd rfl (Or.inl rfl)) (aj (aB (i:=3) S.nd rfl (Or.inl rfl) (bj O.CC (hr.mono (by decide)) (aa (pv 3) (aa (bj O.bG (hr.mono (by decide)) (aa (pv 0) (aa (aw bK ai (pv 4)) af))) af)))))) (ag (aB (i:=5) S.nd rfl (Or.inl rfl) (aw cv (bj O.bG (hr.mono (by decide)) (aa (pv 0) (aa ai af))) ai)) (ag (bT (aT (OO K rfl) (pv 5) (bE (aa ai (aa ai af))) (by with_unfolding_all rfl)) (aj (aB (i:=3) S.nd rfl (Or.inl rfl) (fh (rP K rfl) (aw GP (pv 3) ai) kf (eZ (bL (bp K rfl) (eR (aa ai (aa ai af))) (aw js (pv 5) ai) (fun _ _=>rfl)))))) aV) (ag (aB (i:=6) S.nd rfl (Or.inl rfl) (fi PySem.F.plainAttrs_str PySem.F.slot_str_join PySem.F.type_str_join zM aH (aa (fQ (N:=["_law_words"]) (ix:=[none]) rfl (gc K rfl (pv 3)) (fun _ _ _ _ _=>(aU (i:=0) (show Ci ["_law_words"] by decide +kernel) rfl (Or.inl rfl))) (fun _ _ _ _ _=>rfl) (fun _ _ _ _ _=>(PY K rfl PySem.F.plainAttrs_str PySem.F.slot_str_join PySem.F.type_str_join zM aH (aa (pv 0) af))) rfl (by decide +kernel) (by decide +kernel) rfl True.intro) af))) (ag (aB (i:=7) S.nd rfl (Or.inl rfl) (bE (aa aH af))) (ag (bT (aT (EO K rfl) (pv 5) (bE (aa ai (aa ai af))) (by with_unfolding_all rfl)) (aj (aB (i:=7) S.nd rfl (Or.inl rfl) (bj O.Mq (hr.mono (by decide)) (aa (bj O.CB (hr.mono (by decide)) (aa (pv 6) (aa (bj O.FG (hr.mono (by decide)) (aa (pv 1) (aa (pv 2) af))) af))) (aa (pv 1) af))))) aV) (ag (aB (i:=8) S.nd rfl (Or.inl rfl) (bj O.JO (hr.mono (by decide)) (aa (bj O.JN (hr.mono (by decide)) (aa (pv 0) (aa (pv 6) (aa (aw bg (aw bg (bV fV rfl T.v5 boot_str (aa (pv 1) af)) aH) (bV fV rfl T.v5 boot_str (aa (pv 2) af))) af)))) af))) (ag (fH PassesOwn.never rfl (mK K rfl (fh (Lj K rfl) (pv 8) (eZ ai) (eZ (aJ (eU K rfl) rfl T.fO PySem.boot_len (aa (pv 7) af))))) (aU (i:=9) S.nd rfl (Or.inl rfl)) (aj (bT (PW.pt (y6 (lE (jr (aJ (ir K rfl) rfl T.bc boot_isinstance (aa (pv 9) (aa (iD (v:=V.ty "int") rfl T.Ad boot_int rfl) af))))) (qZ (jr (aJ (ir K rfl) rfl T.bc boot_isinstance (aa (pv 9) (aa (iD (v:=V.ty "bool") rfl T.Ju boot_bool rfl) af))))))) (aj (aP qY)) aV))) (ag (bT (aT (wZ K rfl hr.units) (pv 7) (bE (aa aH af)) (aZ _)) (aj (aP (qM (wZ K rfl hr.units) (pv 8) (pv 7) (aZ _)))) aV) (aj (aP (qM (wZ K rfl hr.units) (pv 8) (aw (HB K rfl) (pv 7) (bE (aa qY (aa qY af)))) (aZ _)))))))))))))))),?_⟩
  walk_at "w"
  obtain ⟨tt,hte,Nt⟩:∃ tt:Nat,4+ns.getD (Int.toNat 2) 0 % 12=(tt:Int)/\(4<=tt/\tt<=15):=⟨(4+ns.getD (Int.toNat 2) 0 % 12).toNat,by lia,by lia⟩
  obtain ⟨bb,v9,Bk⟩:∃ bb:Nat,1+ns.getD (Int.toNat 3) 0 % 16=(bb:Int)/\(1<=bb/\bb<=16):=⟨(1+ns.getD (Int.toNat 3) 0 % 16).toNat,by lia,by lia⟩
  rw [hte,v9]
  refine Ce ⟨hS,Nt,Bk⟩ fun l1 xs1 bs1 H1 s1 m1 F1 ok1=>?_
  walk_at "w"
  refine w4 (fun i σ Hn=>∃ (o4 o5 o6 o7 o8 o9:Option V) (l:Addr) (xs:List V) (bz:List (List Str)) (N:Nat),σ=[some (.ref a),some (.int (tt:Int)),some (.int (bb:Int)),some (.ref l),o4,o5,o6,o7,o8,o9]/\ah H Hn/\Hn l=some (.lst xs)/\Fa (A7 Hn) xs bz/\sk tt bb N bz/\N<=29+i) ⟨_,_,_,_,_,_,l1,xs1,bs1,4,rfl,s1,m1,F1,ok1,by lia⟩ (fun i σ Hn hi hp=>?_) (fun σ Hn hp=>?_)
  ·obtain ⟨o4,o5,o6,o7,o8,o9,l,xs,bz,N,rfl,sn,ml,hF,aR,hN⟩:=hp
   have Y9:=sn.seq hS
   walk_at "w"
   refine xG ⟨ml,hF,aR,by lia⟩ fun l2 P1 Ca H2 s2 m2 F2 ok2=>?_
   exact⟨_,_,_,_,_,_,l2,P1,Ca,_,rfl,sn.trans s2,m2,F2,ok2,by lia⟩
  obtain ⟨o4,o5,o6,o7,o8,o9,l,xs,bz,N,rfl,sn,ml,hF,aR,hN⟩:=hp
  have Y9:=sn.seq hS
  have e0:ns.getD (Int.toNat 0) 0=ns.getD 0 0:=rfl
  walk_at "j"
  refine join (fun σ' H'=>∃ (o4 o6 o7 o8 o9:Option V) (l:Addr) (xs:List V) (bz:List (List Str)),σ'=[some (.ref a),some (.int (tt:Int)),some (.int (bb:Int)),some (.ref l),o4,some (.int (ns.getD 0 0 % 6)),o6,o7,o8,o9]/\ah H H'/\H' l=some (.lst xs)/\Fa (A7 H') xs bz/\TV tt bb bz) (fun nx Eb=>?_) (fun σ' H4 hP=>?_)
  ·have lx:=hF.length
   have Y1:=aR.1
   walk_at "w"
   rename_i pz Hz sz mz
   rw [TX,e0]
   have ml:=sz _ _ ml
   have hF:=hF.imp (A7.same sz)
   have sn:=sn.trans sz
   refine dR (fun h1=>?_) (fun h1=>?_)
   ·have h1:=aap h1
    walk_at "w"
    refine Ts (n:=41) ml (by lia) (fun p5 H5 n5 s5 m5=>?_) (by decide)
    walk_at "w"
    rename_i p6 H6 n6 s6 m6
    obtain ⟨n,hn,YU⟩:∃ n:Nat,Dm [V.int 41,V.int 40] (ns.getD 0 0 % 6 - 3)=some (.int (n:Int))/\(1<=n/\n<=41):=by
     rcases h1 with e|e <;> rw [e]
     ·exact⟨41,rfl,by decide⟩
     ·exact⟨40,rfl,by decide⟩
    refine mI (bA.of m6) hn ?_
    walk_at "w"
    refine HY (j:=n) (bA.of (s6 _ _ m5)) fun p7 H7 n7 s7 m7=>?_
    have sa:=s5.trans (s6.trans s7)
    exact Eb _ _ ⟨_,_,_,_,_,p7,_,_,rfl,sn.trans sa,m7,xt n (Jm (hF.imp (A7.same sa)) 41),aR.rep (by lia) YU⟩
   ·walk_at "w"
    exact Eb _ _ ⟨_,_,_,_,_,l,xs,bz,rfl,sn,ml,hF,aR.fin (by lia)⟩
  clear Y9 ml hF aR hN sn
  obtain ⟨o4,o6,o7,o8,o9,l,xs,bz,rfl,s4,ml,hF,aR⟩:=hP
  obtain ⟨kd,UU⟩:∃ kd,ns.getD 0 0 % 6=kd:=⟨_,rfl⟩
  rw [UU]
  have lx:=hF.length
  have Y1:=aR.1
  have hS4:=s4.seq hS
  walk_at "w"
  refine mQ 1 [] xs.length (fun l j ys H'=>ys=((bz.take j).map (PySem.Str.join gZ)).map V.str) rfl (fun _ _ _ _ _=>rfl) (fun l j ys H' h=>by rw [h,aaD,aaD,aaN];lia) (fun H' s=>⟨_,s.seq (bA.of ml),aai _⟩) (fun j H' hj s=>⟨_,_,s.seq (bA.of ml),aax hj⟩) (fun l j x H' WJ own ys ho hj QI s9 jg hp hy Qy Qn ky kn=>?_) (fun l5 H5 ys n5 s5 m5 hp=>?_)
  ·obtain ⟨o1,rfl⟩:∃ o1,own=[o1]:=by match own,ho with|[o1],_=>exact⟨o1,rfl⟩
   obtain ⟨rfl,e⟩:=hy
   obtain ⟨ws,⟨a0,rfl,Y2⟩,Kl⟩:=hF.get (e _ (s9.seq (bA.of (K:=K) ml)))
   have WU:=iw Kl
   obtain ⟨g1,g2⟩:=aR.2 ws (aaC Kl)
   have SN:=(D8 Bk Nt.2 g1.2 g2).1
   have ma9:=s9 _ _ Y2
   walk_at "w"
   refine rj ?_
   walk_at "w"
   refine DO ma9 (by decide) (by lia) ?_
   exact ky [some (.ref a0)] _ _ rfl (ah.refl _) (by rw [WU,aaQ,aaQ,hp];rfl)
  rw [<- lx,aaM] at hp
  subst hp
  have Km:=D9 Bk Nt.2 aR
  obtain ⟨Du,tf⟩:=Ma Bk Nt.2 aR
  have hnc:=L8 Bk Nt.2 (fun ws hw z=>by have:=(aR.2 ws hw).1.1;rw [z] at this;cases this) (fun ws hw=>(aR.2 ws hw).2)
  walk_at "w"
  refine DO m5 (by decide) (by rw [aaD];lia) ?_
  rw [show Str.join (Str.ofString " | ") (bz.map (PySem.Str.join gZ))=tJ bz from rfl]
  generalize tJ bz=z at *
  walk_at "j"
  rename_i p6 H6 s6 m6
  have Za:=s5.trans s6
  have hS6:=Za.seq hS4
  have Zb:=s4.trans Za
  refine join (fun σ' H'=>∃ (o8 o9:Option V) (pd:Addr),σ'=[some (.ref a),some (.int (tt:Int)),some (.int (bb:Int)),some (.ref l),o4,some (.int kd),some (.str z),some (.ref pd),o8,o9]/\ah H H'/\H' pd=some (.tup (Kj (Jp kd tt bb z)))) (fun nx Eb=>?_) (fun σ' H8 hP=>?_)
  ·walk_at "w"
   rename_i pz Hz sz mz
   refine⟨pz,[V.int 1,V.int 2],rfl,.inr (bh.of mz),rfl,rfl,?_⟩
   rw [if_pos rfl,TX]
   walk_at "w"
   refine dR (fun h1=>?_) (fun h1=>?_)
   ·have h1:¬ (kd=1\/kd=2):=fun y=>by rw [aas y] at h1;cases h1
    walk_at "w"
    refine Aq ⟨Nt,Bk⟩ fun d H9 s9 hd=>?_
    walk_at "w"
    refine xF ⟨by lia,hd,Du,fun p hp=>⟨(tf p hp).1,(tf p hp).2.1⟩⟩ fun l10 G2 xs10 G1 Uh F10=>?_
    walk_at "w"
    refine Fs (bA.of Uh) ⟨F10,by rw [aaD];exact Du,fun ps JJ=>?_⟩ fun UW QA K3 QM=>?_
    ·obtain ⟨p,hp,rfl⟩:=aaH.mp JJ
     unfold A6
     rw [aaD]
     exact (tf p hp).2.1
    walk_at "w"
    exact Eb _ _ ⟨_,_,UW,rfl,Zb.trans (sz.trans (s9.trans (G1.trans K3))),by rw [vY h1];exact QM⟩
   ·have h1:kd=1\/kd=2:=by
     by_cases y:kd=1\/kd=2
     ·exact y
     ·rw [aar y] at h1;cases h1
    walk_at "w"
    exact Eb _ _ ⟨_,_,p6,rfl,Zb.trans sz,by rw [ou h1];exact sz _ _ m6⟩
  obtain ⟨o8,o9,pd,rfl,s8,m8⟩:=hP
  have hS8:=s8.seq hS
  obtain ⟨⟨hh1,hh2⟩,hh3⟩:=rK Nt Bk
  have ht1:=gY (n:=tt) ⟨by lia,by lia⟩
  have ht2:=gY (n:=bb) ⟨by lia,by lia⟩
  walk_at "w"
  refine nW (om (n:=tt) (by lia)) ?_
  walk_at "w"
  refine fe (a:=4) (b:=1) ht1.2 (by decide) (by decide) fun x1 e1 q1=>?_
  walk_at "w"
  refine nW (om (n:=bb) (by lia)) ?_
  refine fe q1 (b:=4) ht2.2 (by decide) fun x2 e2 q2=>?_
  have e3:x2=bo.txt tt++bo.aO++bo.txt bb:=by rw [e2,e1];rfl
  rw [e3]
  walk_at "w"
  refine Cf (ns:=ns) ⟨hS8,hh1,hh2,hnc,by lia⟩ fun z2 H9 s9 RI ⟨a',m',c',Uk,t1,t2,t3⟩=>?_
  walk_at "w"
  refine Cg (R:=Jp kd tt bb z) RI Uk ?_ fun Y5 G2 G1 Uh=>?_
  ·rw [UU] at t1 t2 t3
   by_cases k1:kd=1
   ·exact .inl ⟨t1 k1,ou (.inl k1)⟩
   ·by_cases k2:kd=2
    ·obtain ⟨q1,q2,q3⟩:=t2 k2
     exact .inr (.inl ⟨q1,q2,q3,ou (.inr k2)⟩)
    ·obtain ⟨rfl,rfl,rfl⟩:=t3 k1 k2
     exact .inr (.inr ⟨tt,bb,by lia,by decide,hh3,Bk,Nt,Du,by lia,tf,vY fun y=>y.elim k1 k2⟩)
  have m8':=(s9.trans G1) _ _ m8
  generalize Jp kd tt bb z=R at *
  walk_at "w"
  refine SG (bh.of Uh) (Mb R) fun UW QA K3 QM=>?_
  obtain ⟨is,his⟩:=Mc R
  rw [his] at QM
  walk_at "w"
  refine Pq (xs:=is.map V.int) (fun i σ Hn=>∃ o9:Option V,σ=[some (.ref a),some (.int (tt:Int)),some (.int (bb:Int)),some (.ref l),o4,some (.int kd),some (.str z),some (.ref pd),some (.ref Y5),o9]/\ah QA Hn) ⟨_,rfl,ah.refl _⟩ (fun i σ Hn hp=>by obtain ⟨_,rfl,h⟩:=hp;exact h.at (bh.of QM)) (fun i x σ Hn hx hp=>?_) (fun σ Hn hp=>?_)
  ·obtain ⟨o9,rfl,sn⟩:=hp
   obtain ⟨n,_,rfl⟩:=aaH.mp (aaC hx)
   walk_at "w"
   rw [if_neg (by decide)]
   walk_at "w"
   rw [if_neg (by decide)]
   exact⟨_,rfl,sn⟩
  obtain ⟨o9,rfl,sn⟩:=hp
  have md:=(K3.trans sn) _ _ m8'
  have mf:=(K3.trans sn) _ _ Uh
  obtain ⟨g1,g2,g3,g4⟩:=kA R
  walk_at "w"
  rename_i p12 H12 UY YV
  refine HQ (d3.tup (bh.of (UY _ _ md)) (kz R)) (d3.tup (bh.of YV) (.cons (.str _) .nil)) g1 (kA .read).1 ?_
  walk_at "w"
  by_cases hR:R=.read
  ·subst hR
   rw [if_pos (by decide)]
   walk_at "w"
   refine HQ (d3.tup (bh.of (UY _ _ mf)) (kz .read)) (d3.tup (bh.of (UY _ _ md)) (kz .read)) (kA .read).1 (kA .read).1 ?_
   rw [show PyData.eqv (.tuple (Kk .read)) (.tuple (Kk .read))=true by decide]
   exact k _
  ·rw [Jr hR,if_neg (by decide)]
   walk_at "w"
   rename_i p13 H13 US m13
   have sb:=UY.trans US
   refine Hy (bh.of (sb _ _ md)) (bh.of m13) (Jq R).1 (fun y=>by cases y) (by have:=(Jq R).2;show _+2<=1000;lia) fun p14 H14 s14 m14=>?_
   have Zc:=(sb.trans s14) _ _ mf
   rw [Md hR] at Zc
   have tl:Tells K H14 (Kj R++[.bl false,.bl true]) (Kk R++[.bool false,.bool true]):=vZ (kz R) (.cons (.bl _) (.cons (.bl _) .nil))
   refine HQ (d3.tup (bh.of Zc) tl) (d3.tup (bh.of m14) tl) g2 g2 ?_
   rw [PySem.SeqAt.eqv_refl _ g4]
   exact k _
theorem sS:aE ["self","bar"] ["self","bar"] (aq cm):=⟨rfl,rfl,rfl,by decide +kernel,rfl,by decide +kernel,by decide +kernel⟩
theorem sT (D:E4 K G.d4 "__init__" "BadBar.__init__" cm ["self","bar"]) (T:Txt P w K mg G):xi P w K mg base 1 G.d4 ["self","bar"] (gk K):=by
 have S:=sS
 refine D.YN S (fun vs H Q E h=>?_) (fun f bU A outer s H vs Q E hr h=>?_)
 ·obtain ⟨_,_,_,rfl,_⟩:=h;rfl
 ·obtain ⟨e,C,y,rfl,he,hc,k⟩:=h
  have hu:=bt hr
  have aI:=T.aI
  have ak:=T.ak
  refine⟨_,(aj (BU K rfl (pv 0) (pv 1) rfl)),?_⟩
  obtain rfl:C=G.aA:=by rw [T.iz] at hc;cases hc;rfl
  refine IM ?_
  walk_at "w"
  exact⟨e,G.aA,none,rfl,he,T.nq,.inl ⟨rfl,fun dx n ne=>k dx n ne⟩⟩
theorem qI:aE ["self","bar","place"] ["self","bar","place"] (aq bN):=⟨rfl,rfl,rfl,by decide +kernel,rfl,by decide +kernel,by decide +kernel⟩
theorem qJ (D:E4 K G.dA "__init__" "BadNote.__init__" bN ["self","bar","place"]) (T:Txt P w K mg G):xi P w K mg base 1 G.dA ["self","bar","place"] (fM K):=by
 have S:=qI
 refine D.YN S (fun vs H Q E h=>?_) (fun f bU A outer s H vs Q E hr h=>?_)
 ·obtain ⟨_,_,_,_,rfl,_⟩:=h;rfl
 ·obtain ⟨e,C,y,x,rfl,he,hc,k⟩:=h
  have hu:=bt hr
  have aI:=T.aI
  have ak:=T.ak
  refine⟨_,(ag (BU K rfl (pv 0) (pv 1) rfl) (aj (BU K rfl (pv 0) (pv 2) rfl))),?_⟩
  obtain rfl:C=G.au:=by rw [T.d5] at hc;cases hc;rfl
  walk_at "w"
  refine IM ?_
  walk_at "w"
  refine⟨e,G.au,none,rfl,he,T.ly,.inl ⟨rfl,fun dx n ne=>?_⟩⟩
  dsimp only
  refine IM ?_
  walk_at "w"
  exact⟨e,G.au,some dx,rfl,ao,T.jd,.inr ⟨dx,[("bar",y)],rfl,by rw [ar ne];exact ao,aaV rfl,k dx n ne⟩⟩
end
set_option maxHeartbeats 2000000
theorem all_mk {l:OpenLaw} {w:World} {K:Frag} {h:Heap} {mg:Str->Option Value} {fa:Addr} (X:K.In h) (G0:h.Ns mainGlobals mg) (hfa:mg "law"=some (.ref fa)) {WY Qd Qe:Addr} {WZ Ul W0 W2 W3 W4:Option Addr} {W5 W6 W7:Array (Option Value)} {W8 Um Uo Up Qf Uq W9 Xa Xb Xc Ur Xd Xe Xf Xg Xh Us Xi:Value} {JP:Addr} {Qg:Option Addr} {Qh:Nat} {Qi:Array (Option Value)} {Qj Qk Ql Qm Qo:Tok} {sU:Addr} {FH:Option Addr} {FI:Nat} {FJ:Array (Option Value)} {FK FL FN FO FP:Tok} {kO:Addr} {CD:Nat} {qf qg qh qi qj qk ql:Tok} {gH:Addr} {xX:Nat} {ue uf ug uh uj:Tok} {xY:Option Addr} {xZ:Array (Option Value)} {gI:Addr} {x8:Nat} {uk um uo uq ur:Tok} {x9:Option Addr} {ya:Array (Option Value)} {gJ:Addr} {yb:Nat} {uu uv uw ux uy:Tok} {yc:Option Addr} {yd:Array (Option Value)} {gK:Addr} {ye:Nat} {uz uA uB uC uD:Tok} {yf:Option Addr} {yg:Array (Option Value)} {gL:Addr} {yh:Nat} {uE uF uG uH uI:Tok} {yi:Option Addr} {yj:Array (Option Value)} {gM:Addr} {yk:Nat} {uJ uK uL uM uN:Tok} {yl:Option Addr} {ym:Array (Option Value)} {gN:Addr} {yn:Nat} {uO uP uQ uR uS:Tok} {yo:Option Addr} {yp:Array (Option Value)} {yq:Addr} {JQ:Nat} {JR:Option Addr} {JS:Array (Option Value)} {oM:Addr} {CF:Nat} {AI AJ:Tok} {CG:Option Addr} {CH:Array (Option Value)} {jY:Addr} {yr:Nat} {uT uU uV uW uX:Tok} {yt:Option Addr} {yu:Array (Option Value)} {oN:Addr} {CI:Nat} {AK AL:Tok} {CJ:Option Addr} {CK:Array (Option Value)} {jZ:Addr} {yv:Nat} {uY uZ u0 u2 u4:Tok} {yw:Option Addr} {yx:Array (Option Value)} {oO:Addr} {CL:Nat} {AM AN:Tok} {CM:Option Addr} {CN:Array (Option Value)} {j0:Addr} {yy:Nat} {u5 u6 u7 u9 vb:Tok} {yA:Option Addr} {yB:Array (Option Value)} {oP:Addr} {CO:Nat} {AO AQ:Tok} {CP:Option Addr} {CQ:Array (Option Value)} {j1:Addr} {yC:Nat} {vc vd ve vf vg:Tok} {yD:Option Addr} {yE:Array (Option Value)} {kK:Tok} {dX:Tok} {xx:Tok} {gE:Tok} {iU:Tok} {eI:Tok} {gF:Tok} {fS:Tok} {bu:Addr} {yF:ClassData} {aK:Addr} {FQ:ClassData} {aL:Addr} {FR:ClassData} {ay:Addr} {AR:ClassData} {aM:Addr} {FT:ClassData} {aD:Addr} {FU:ClassData} {az:Addr} {CS:ClassData}
     (fG:PySem.W.nsIn K mainGlobals "BadBar"=some (some (.ref aD))) (dY:PySem.W.nsIn K mainGlobals "BadNote"=some (some (.ref az)))
 (a0:jm K "is_counting" gU)
 (a1:jm K "is_signed" jz)
 (a2:jm K "parts_read" iM)
 (a3:jm K "divisor_of" iN)
 (a4:jm K "lowest" r6)
 (a5:jm K "length_read" gV)
 (a6:jm K "summed" r8)
 (a7:jm K "is_whole" lJ)
 (a8:jm K "is_row" r9)
 (a9:jm K "is_tone" n0)
 (Xj:jm K "tone_of" og)
 (Xk:jm K "times" xk)
 (Xl:jm K "power" xl)
 (Xm:jm K "run_length" iO)
 (Xn:jm K "count_read" iP)
 (Xo:jm K "octave_read" gW)
 (Xp:jm K "named" xm)
 (Xq:jm K "sounding_read" fL)
 (Xr:jm K "note_read" jA)
 (Xs:jm K "bar_read" lK)
 (Xu:jm K "meter_read" iQ)
 (Xv:jm K "tune_read" jB)
 (Xw:jm K "_law_cell_at" gX)
 (Xx:jm K "_law_mixed" jC)
 (Xy:jm K "_law_pieces" iR)
 (Xz:jm K "_law_bad" oh)
 (XA:jm K "_law_bars" lL)
 (XD:jm K "_law_known" jD)
 (XE:jm K "_law_parted" iS)
 (XF:jm K "_law_spoilt" iT)
 (XG:jm K "_law_due" oi)
 (XH:jm K "_law_text" lM)
 (XI:jm K "_law_told" lN)
 (XJ:PySem.W.nsIn K mainGlobals "law"=some (some (.ref WY))) (XN:K.lookup WY=some ⟨W8,WZ,.func (PySem.W.fnOf "law" "law" (fb mV) (cx mV) (aq mV) .none Um Uo Up Ul Qf Uq),W5⟩) (XO:PySem.W.codeIn K Qf "law"=true) (XQ:PySem.W.keepIn K (.ref WY)=true)
 (Zd:findIn K (.ref aD) "__init__"=some (some (.ref Qd))) (XR:K.lookup Qd=some ⟨W9,W0,.func (PySem.W.fnOf "__init__" "BadBar.__init__" (fb cm) (cx cm) (aq cm) .none Xa Xb Xc W2 Ur Xd),W6⟩) (XS:PySem.W.codeIn K Ur "BadBar.__init__"=true) (XT:PySem.W.keepIn K (.ref Qd)=true) (XU:PySem.W.isFn K (.ref Qd)=true)
 (Ze:findIn K (.ref az) "__init__"=some (some (.ref Qe))) (XX:K.lookup Qe=some ⟨Xe,W3,.func (PySem.W.fnOf "__init__" "BadNote.__init__" (fb bN) (cx bN) (aq bN) .none Xf Xg Xh W4 Us Xi),W7⟩) (XY:PySem.W.codeIn K Us "BadNote.__init__"=true) (XZ:PySem.W.keepIn K (.ref Qe)=true) (X0:PySem.W.isFn K (.ref Qe)=true)
     (JT:PySem.W.nsIn K mainGlobals "ONE"=some (some (.ref JP))) (JU:K.lookup JP=some ⟨.type "tuple",Qg,.seq #[.int 0 Qj,.int 0 Qk,.int 0 Ql,.int 0 Qm,.int 0 Qo] Qh,Qi⟩) (sV:PySem.W.nsIn K mainGlobals "BOUNDS"=some (some (.ref sU))) (sW:K.lookup sU=some ⟨.type "tuple",FH,.seq #[.int 700 FK,.int 60 FL,.int 60 FN,.int 60 FO,.int 60 FP] FI,FJ⟩) (oQ:PySem.W.nsIn K mainGlobals "LETTERS"=some (some (.ref kO))) (yG:PySem.W.nsIn K mainGlobals "MARKS"=some (some (.ref yq))) (oR:K.lookup kO=some ⟨.type "dict",none,.dict #[⟨PySem.PyData.keyHash w.params "F",.str "F" qf,.ref gH⟩,⟨PySem.PyData.keyHash w.params "C",.str "C" qg,.ref gI⟩,⟨PySem.PyData.keyHash w.params "G",.str "G" qh,.ref gJ⟩,⟨PySem.PyData.keyHash w.params "D",.str "D" qi,.ref gK⟩,⟨PySem.PyData.keyHash w.params "A",.str "A" qj,.ref gL⟩,⟨PySem.PyData.keyHash w.params "E",.str "E" qk,.ref gM⟩,⟨PySem.PyData.keyHash w.params "B",.str "B" ql,.ref gN⟩] CD,#[]⟩) (ic:(kO == PySem.sysModules)=false) (j3:K.lookup gH=some ⟨.type "tuple",xY,.seq #[.int (2) ue,.int (-1) uf,.int (0) ug,.int (0) uh,.int (0) uj] xX,xZ⟩) (j4:K.lookup gI=some ⟨.type "tuple",x9,.seq #[.int (0) uk,.int (0) um,.int (0) uo,.int (0) uq,.int (0) ur] x8,ya⟩) (j5:K.lookup gJ=some ⟨.type "tuple",yc,.seq #[.int (-1) uu,.int (1) uv,.int (0) uw,.int (0) ux,.int (0) uy] yb,yd⟩) (j6:K.lookup gK=some ⟨.type "tuple",yf,.seq #[.int (-3) uz,.int (2) uA,.int (0) uB,.int (0) uC,.int (0) uD] ye,yg⟩) (j7:K.lookup gL=some ⟨.type "tuple",yi,.seq #[.int (-4) uE,.int (3) uF,.int (0) uG,.int (0) uH,.int (0) uI] yh,yj⟩) (j8:K.lookup gM=some ⟨.type "tuple",yl,.seq #[.int (-6) uJ,.int (4) uK,.int (0) uL,.int (0) uM,.int (0) uN] yk,ym⟩) (j9:K.lookup gN=some ⟨.type "tuple",yo,.seq #[.int (-7) uO,.int (5) uP,.int (0) uQ,.int (0) uR,.int (0) uS] yn,yp⟩) (yH:K.lookup yq=some ⟨.type "tuple",JR,.seq #[.ref oM,.ref oN,.ref oO,.ref oP] JQ,JS⟩) (oS:K.lookup oM=some ⟨.type "tuple",CG,.seq #[.str "#" AI,.str "b" AJ,.ref jY] CF,CH⟩) (kg:K.lookup jY=some ⟨.type "tuple",yt,.seq #[.int (-11) uT,.int (7) uU,.int (0) uV,.int (0) uW,.int (0) uX] yr,yu⟩) (oU:K.lookup oN=some ⟨.type "tuple",CJ,.seq #[.str "+" AK,.str "-" AL,.ref jZ] CI,CK⟩) (kh:K.lookup jZ=some ⟨.type "tuple",yw,.seq #[.int (-4) uY,.int (4) uZ,.int (-1) u0,.int (0) u2,.int (0) u4] yv,yx⟩) (oV:K.lookup oO=some ⟨.type "tuple",CM,.seq #[.str ">" AM,.str "<" AN,.ref j0] CL,CN⟩) (ki:K.lookup j0=some ⟨.type "tuple",yA,.seq #[.int (6) u5,.int (-2) u6,.int (0) u7,.int (-1) u9,.int (0) vb] yy,yB⟩) (oW:K.lookup oP=some ⟨.type "tuple",CP,.seq #[.str "^" AO,.str "v" AQ,.ref j1] CO,CQ⟩) (kj:K.lookup j1=some ⟨.type "tuple",yD,.seq #[.int (-5) vc,.int (1) vd,.int (0) ve,.int (0) vf,.int (1) vg] yC,yE⟩) (oX:PySem.W.nsIn K mainGlobals "LONGEST"=some (some (.int 300 kK))) (eX:PySem.W.nsIn K mainGlobals "OCTAVE_FIGURES"=some (some (.int 4 dX))) (CT:PySem.W.nsIn K mainGlobals "REST"=some (some (.str "R" xx))) (ko:PySem.W.nsIn K mainGlobals "METER_END"=some (some (.str ": " gE))) (lU:PySem.W.nsIn K mainGlobals "BAR_LINE"=some (some (.str " | " iU))) (gn:PySem.W.nsIn K mainGlobals "MOST_FIGURES"=some (some (.int 4 eI))) (kr:PySem.W.nsIn K mainGlobals "MOST_BARS"=some (some (.int 40 gF))) (iZ:PySem.W.nsIn K mainGlobals "MOST_NOTES"=some (some (.int 24 fS))) (gO:PySem.W.nsIn K mainGlobals "YardError"=some (some (.ref bu))) (i0:typeIn K (.ref bu)=some (.type "type")) (i6:clsIn K bu=some yF) (i7:subIn K (.ref bu) (.type "BaseException")=some true) (jM:PySem.W.nsIn K mainGlobals "TooFar"=some (some (.ref aK))) (oY:typeIn K (.ref aK)=some (.type "type")) (kP:clsIn K aK=some FQ) (kQ:subIn K (.ref aK) (.type "BaseException")=some true) (oZ:findIn K (.ref aK) "__getattribute__"=some (some (.builtin "BaseException.__getattribute__"))) (pe:findIn K (.ref aK) "__getattr__"=some none) (pq:findIn K (.ref aK) "__class__"=some (some (.builtin "object.__class__"))) (pA:specialIn K (.builtin "object.__class__") "__get__"=some (some (.builtin "getset_descriptor.__get__"))) (pB:takesIn K (.builtin "object.__class__")=some true) (pC:mroIn K aK (.type "object")=some true) (pD:excIn K aK [.type "ValueError",.type "Exception",.type "BaseException",.type "object"] "ValueError.__new__"=true) (jN:PySem.W.nsIn K mainGlobals "NoName"=some (some (.ref aL))) (pF:typeIn K (.ref aL)=some (.type "type")) (kR:clsIn K aL=some FR) (kT:subIn K (.ref aL) (.type "BaseException")=some true) (pG:findIn K (.ref aL) "__getattribute__"=some (some (.builtin "BaseException.__getattribute__"))) (pH:findIn K (.ref aL) "__getattr__"=some none) (pI:findIn K (.ref aL) "__class__"=some (some (.builtin "object.__class__"))) (pJ:specialIn K (.builtin "object.__class__") "__get__"=some (some (.builtin "getset_descriptor.__get__"))) (pK:takesIn K (.builtin "object.__class__")=some true) (pL:mroIn K aL (.type "object")=some true) (pM:excIn K aL [.type "ValueError",.type "Exception",.type "BaseException",.type "object"] "ValueError.__new__"=true) (gh:PySem.W.nsIn K mainGlobals "NoLength"=some (some (.ref ay))) (ku:typeIn K (.ref ay)=some (.type "type")) (gQ:clsIn K ay=some AR) (gR:subIn K (.ref ay) (.type "BaseException")=some true) (kB:findIn K (.ref ay) "__getattribute__"=some (some (.builtin "BaseException.__getattribute__"))) (kC:findIn K (.ref ay) "__getattr__"=some none) (kD:findIn K (.ref ay) "__class__"=some (some (.builtin "object.__class__"))) (kE:specialIn K (.builtin "object.__class__") "__get__"=some (some (.builtin "getset_descriptor.__get__"))) (kF:takesIn K (.builtin "object.__class__")=some true) (kG:mroIn K ay (.type "object")=some true) (kH:excIn K ay [.type "ValueError",.type "Exception",.type "BaseException",.type "object"] "ValueError.__new__"=true) (gi:PySem.W.nsIn K mainGlobals "NoTune"=some (some (.ref aM))) (pN:typeIn K (.ref aM)=some (.type "type")) (kU:clsIn K aM=some FT) (kW:subIn K (.ref aM) (.type "BaseException")=some true) (pO:findIn K (.ref aM) "__getattribute__"=some (some (.builtin "BaseException.__getattribute__"))) (pP:findIn K (.ref aM) "__getattr__"=some none) (pQ:findIn K (.ref aM) "__class__"=some (some (.builtin "object.__class__"))) (pR:specialIn K (.builtin "object.__class__") "__get__"=some (some (.builtin "getset_descriptor.__get__"))) (pS:takesIn K (.builtin "object.__class__")=some true) (pT:mroIn K aM (.type "object")=some true) (pU:excIn K aM [.type "ValueError",.type "Exception",.type "BaseException",.type "object"] "ValueError.__new__"=true) (pV:typeIn K (.ref aD)=some (.type "type")) (kX:clsIn K aD=some FU) (kY:subIn K (.ref aD) (.type "BaseException")=some true) (pW:findIn K (.ref aD) "__getattribute__"=some (some (.builtin "BaseException.__getattribute__"))) (pX:findIn K (.ref aD) "__getattr__"=some none) (pY:findIn K (.ref aD) "__class__"=some (some (.builtin "object.__class__"))) (pZ:specialIn K (.builtin "object.__class__") "__get__"=some (some (.builtin "getset_descriptor.__get__"))) (qa:takesIn K (.builtin "object.__class__")=some true) (kZ:mroIn K aD (.type "object")=some true) (qb:iL K aD [.type "ValueError",.type "Exception",.type "BaseException",.type "object"] "ValueError.__new__" Qd=true) (lV:xh K aD=true) (qc:findIn K (.ref aD) "__setattr__"=some (some (.builtin "object.__setattr__"))) (ie:findIn K (.ref aD) "bar"=some none) (lW:typeIn K (.ref az)=some (.type "type")) (i8:clsIn K az=some CS) (i9:subIn K (.ref az) (.type "BaseException")=some true) (lX:findIn K (.ref az) "__getattribute__"=some (some (.builtin "BaseException.__getattribute__"))) (lY:findIn K (.ref az) "__getattr__"=some none) (lZ:findIn K (.ref az) "__class__"=some (some (.builtin "object.__class__"))) (l0:specialIn K (.builtin "object.__class__") "__get__"=some (some (.builtin "getset_descriptor.__get__"))) (l6:takesIn K (.builtin "object.__class__")=some true) (gp:mroIn K az (.type "object")=some true) (l7:iL K az [.type "ValueError",.type "Exception",.type "BaseException",.type "object"] "ValueError.__new__" Qe=true) (gS:xh K az=true) (ja:findIn K (.ref az) "__setattr__"=some (some (.builtin "object.__setattr__"))) (gq:findIn K (.ref az) "bar"=some none) (eY:findIn K (.ref az) "place"=some none) (cX:subIn K (.ref aK) (.ref aK)=some true) (cY:subIn K (.ref aK) (.ref aL)=some false) (eg:aK ≠ aL) (cg:subIn K (.ref aK) (.ref ay)=some false) (dG:aK ≠ ay) (ek:subIn K (.ref aK) (.ref aM)=some false) (er:aK ≠ aM) (eu:subIn K (.ref aK) (.ref aD)=some false) (eB:aK ≠ aD) (dZ:subIn K (.ref aK) (.ref az)=some false) (d7:aK ≠ az) (cZ:subIn K (.ref aL) (.ref aK)=some false) (eE:aL ≠ aK) (dg:subIn K (.ref aL) (.ref aL)=some true) (cj:subIn K (.ref aL) (.ref ay)=some false) (dH:aL ≠ ay) (eF:subIn K (.ref aL) (.ref aM)=some false) (eG:aL ≠ aM) (eK:subIn K (.ref aL) (.ref aD)=some false) (eL:aL ≠ aD) (d8:subIn K (.ref aL) (.ref az)=some false) (d9:aL ≠ az) (ck:subIn K (.ref ay) (.ref aK)=some false) (dI:ay ≠ aK) (cu:subIn K (.ref ay) (.ref aL)=some false) (dJ:ay ≠ aL) (bf:subIn K (.ref ay) (.ref ay)=some true) (dM:subIn K (.ref ay) (.ref aM)=some false) (dN:ay ≠ aM) (dO:subIn K (.ref ay) (.ref aD)=some false) (dP:ay ≠ aD) (cP:subIn K (.ref ay) (.ref az)=some false) (cQ:ay ≠ az) (eN:subIn K (.ref aM) (.ref aK)=some false) (dh:aM ≠ aK) (di:subIn K (.ref aM) (.ref aL)=some false) (bX:aM ≠ aL) (cy:subIn K (.ref aM) (.ref ay)=some false) (bx:aM ≠ ay) (dj:subIn K (.ref aM) (.ref aM)=some true) (dm:subIn K (.ref aM) (.ref aD)=some false) (dw:aM ≠ aD) (cG:subIn K (.ref aM) (.ref az)=some false) (cH:aM ≠ az) (eO:subIn K (.ref aD) (.ref aK)=some false) (eS:aD ≠ aK) (dz:subIn K (.ref aD) (.ref aL)=some false) (dB:aD ≠ aL) (cz:subIn K (.ref aD) (.ref ay)=some false) (cA:aD ≠ ay) (bY:subIn K (.ref aD) (.ref aM)=some false) (dD:aD ≠ aM) (dF:subIn K (.ref aD) (.ref aD)=some true) (cI:subIn K (.ref aD) (.ref az)=some false) (cJ:aD ≠ az) (ee:subIn K (.ref az) (.ref aK)=some false) (cK:az ≠ aK) (cL:subIn K (.ref az) (.ref aL)=some false) (bH:az ≠ aL) (bP:subIn K (.ref az) (.ref ay)=some false) (bq:az ≠ ay) (cM:subIn K (.ref az) (.ref aM)=some false) (ef:az ≠ aM) (bI:subIn K (.ref az) (.ref aD)=some false) (cN:az ≠ aD) (cB:subIn K (.ref az) (.ref az)=some true) (cR:subIn K (.ref aK) (.ref bu)=some true) (cS:subIn K (.ref aL) (.ref bu)=some true) (cC:subIn K (.ref ay) (.ref bu)=some true) (cT:subIn K (.ref aM) (.ref bu)=some true) (cU:subIn K (.ref aD) (.ref bu)=some true) (bB:subIn K (.ref az) (.ref bu)=some true) (cE:subIn K (.ref aK) (.type "ValueError")=some true) (cF:subIn K (.ref aL) (.type "ValueError")=some true) (bR:subIn K (.ref ay) (.type "ValueError")=some true) (bC:subIn K (.ref aM) (.type "ValueError")=some true) (bD:subIn K (.ref aD) (.type "ValueError")=some true) (cD:subIn K (.ref az) (.type "ValueError")=some true) (sX:PySem.W.nsIn K mainGlobals "NoSpan"=some none) (jb:PySem.W.nsIn K mainGlobals "ValueError"=some none) (JV:PySem.W.nsIn K mainGlobals "abs"=some none) (JW:PySem.W.nsIn K mainGlobals "all"=some none) (CU:PySem.W.nsIn K mainGlobals "bool"=some none) (kI:PySem.W.nsIn K mainGlobals "enumerate"=some none) (JX:PySem.W.nsIn K mainGlobals "int"=some none) (jc:PySem.W.nsIn K mainGlobals "isinstance"=some none) (JY:PySem.W.nsIn K mainGlobals "len"=some none) (CV:PySem.W.nsIn K mainGlobals "list"=some none) (yI:PySem.W.nsIn K mainGlobals "range"=some none) (JZ:PySem.W.nsIn K mainGlobals "str"=some none) (J0:PySem.W.nsIn K mainGlobals "sum"=some none) (yJ:PySem.W.nsIn K mainGlobals "tuple"=some none) (J2:PySem.W.nsIn K mainGlobals "zip"=some none) :
    ∃ fd:FuncData,(∀ (s:Shared) (v:Value),BindsTo s fd ⟨[v],[]⟩ [("_law_script",v)])/\∀ base:Heap,K.In base->base.Ns mainGlobals mg->rf l.prog w K mg base Kg 11 fa fd ["_law_script"] (G9 K):=by
  have e:=hfa.symm.trans (mg_of X G0 XJ)
  cases e
  have T:Txt l.prog w K mg ⟨JP,sU,bu,aK,aL,ay,aM,aD,az,kO,gH,gI,gJ,gK,gL,gM,gN,yq,oM,jY,oN,jZ,oO,j0,oP,j1,Qd,Qe,kK,dX,xx,gE,iU,eI,gF,fS⟩:=⟨mg_none_of X G0 sX,mg_none_of X G0 jb,mg_none_of X G0 JV,mg_none_of X G0 JW,mg_none_of X G0 CU,mg_none_of X G0 kI,mg_none_of X G0 JX,mg_none_of X G0 jc,mg_none_of X G0 JY,mg_none_of X G0 CV,mg_none_of X G0 yI,mg_none_of X G0 JZ,mg_none_of X G0 J0,mg_none_of X G0 yJ,mg_none_of X G0 J2,mg_of X G0 JT,fun H=>.inr ⟨_,_,_,JU,rfl,rfl,by show 5 <= sizeLine;decide,(.cons ⟨_,rfl⟩ (.cons ⟨_,rfl⟩ (.cons ⟨_,rfl⟩ (.cons ⟨_,rfl⟩ (.cons ⟨_,rfl⟩ .nil)))))⟩,mg_of X G0 sV,fun H=>.inr ⟨_,_,_,sW,rfl,rfl,by show 5 <= sizeLine;decide,(.cons ⟨_,rfl⟩ (.cons ⟨_,rfl⟩ (.cons ⟨_,rfl⟩ (.cons ⟨_,rfl⟩ (.cons ⟨_,rfl⟩ .nil)))))⟩,mg_of X G0 oQ,mg_of X G0 yG,Ph (xs:=[("F",qf,gH),("C",qg,gI),("G",qh,gJ),("D",qi,gK),("A",qj,gL),("E",qk,gM),("B",ql,gN)]) oR ic (show Ci ["F","C","G","D","A","E","B"] by decide +kernel),fun H=>.inr ⟨_,_,_,j3,rfl,rfl,by show 5 <= sizeLine;decide,(.cons ⟨_,rfl⟩ (.cons ⟨_,rfl⟩ (.cons ⟨_,rfl⟩ (.cons ⟨_,rfl⟩ (.cons ⟨_,rfl⟩ .nil)))))⟩,fun H=>.inr ⟨_,_,_,j4,rfl,rfl,by show 5 <= sizeLine;decide,(.cons ⟨_,rfl⟩ (.cons ⟨_,rfl⟩ (.cons ⟨_,rfl⟩ (.cons ⟨_,rfl⟩ (.cons ⟨_,rfl⟩ .nil)))))⟩,fun H=>.inr ⟨_,_,_,j5,rfl,rfl,by show 5 <= sizeLine;decide,(.cons ⟨_,rfl⟩ (.cons ⟨_,rfl⟩ (.cons ⟨_,rfl⟩ (.cons ⟨_,rfl⟩ (.cons ⟨_,rfl⟩ .nil)))))⟩,fun H=>.inr ⟨_,_,_,j6,rfl,rfl,by show 5 <= sizeLine;decide,(.cons ⟨_,rfl⟩ (.cons ⟨_,rfl⟩ (.cons ⟨_,rfl⟩ (.cons ⟨_,rfl⟩ (.cons ⟨_,rfl⟩ .nil)))))⟩,fun H=>.inr ⟨_,_,_,j7,rfl,rfl,by show 5 <= sizeLine;decide,(.cons ⟨_,rfl⟩ (.cons ⟨_,rfl⟩ (.cons ⟨_,rfl⟩ (.cons ⟨_,rfl⟩ (.cons ⟨_,rfl⟩ .nil)))))⟩,fun H=>.inr ⟨_,_,_,j8,rfl,rfl,by show 5 <= sizeLine;decide,(.cons ⟨_,rfl⟩ (.cons ⟨_,rfl⟩ (.cons ⟨_,rfl⟩ (.cons ⟨_,rfl⟩ (.cons ⟨_,rfl⟩ .nil)))))⟩,fun H=>.inr ⟨_,_,_,j9,rfl,rfl,by show 5 <= sizeLine;decide,(.cons ⟨_,rfl⟩ (.cons ⟨_,rfl⟩ (.cons ⟨_,rfl⟩ (.cons ⟨_,rfl⟩ (.cons ⟨_,rfl⟩ .nil)))))⟩,fun H=>.inr ⟨_,_,_,yH,rfl,rfl,by show 4 <= sizeLine;decide,(.cons rfl (.cons rfl (.cons rfl (.cons rfl .nil))))⟩,fun H=>.inr ⟨_,_,_,oS,rfl,rfl,by show 3 <= sizeLine;decide,(.cons ⟨_,rfl⟩ (.cons ⟨_,rfl⟩ (.cons rfl .nil)))⟩,fun H=>.inr ⟨_,_,_,kg,rfl,rfl,by show 5 <= sizeLine;decide,(.cons ⟨_,rfl⟩ (.cons ⟨_,rfl⟩ (.cons ⟨_,rfl⟩ (.cons ⟨_,rfl⟩ (.cons ⟨_,rfl⟩ .nil)))))⟩,fun H=>.inr ⟨_,_,_,oU,rfl,rfl,by show 3 <= sizeLine;decide,(.cons ⟨_,rfl⟩ (.cons ⟨_,rfl⟩ (.cons rfl .nil)))⟩,fun H=>.inr ⟨_,_,_,kh,rfl,rfl,by show 5 <= sizeLine;decide,(.cons ⟨_,rfl⟩ (.cons ⟨_,rfl⟩ (.cons ⟨_,rfl⟩ (.cons ⟨_,rfl⟩ (.cons ⟨_,rfl⟩ .nil)))))⟩,fun H=>.inr ⟨_,_,_,oV,rfl,rfl,by show 3 <= sizeLine;decide,(.cons ⟨_,rfl⟩ (.cons ⟨_,rfl⟩ (.cons rfl .nil)))⟩,fun H=>.inr ⟨_,_,_,ki,rfl,rfl,by show 5 <= sizeLine;decide,(.cons ⟨_,rfl⟩ (.cons ⟨_,rfl⟩ (.cons ⟨_,rfl⟩ (.cons ⟨_,rfl⟩ (.cons ⟨_,rfl⟩ .nil)))))⟩,fun H=>.inr ⟨_,_,_,oW,rfl,rfl,by show 3 <= sizeLine;decide,(.cons ⟨_,rfl⟩ (.cons ⟨_,rfl⟩ (.cons rfl .nil)))⟩,fun H=>.inr ⟨_,_,_,kj,rfl,rfl,by show 5 <= sizeLine;decide,(.cons ⟨_,rfl⟩ (.cons ⟨_,rfl⟩ (.cons ⟨_,rfl⟩ (.cons ⟨_,rfl⟩ (.cons ⟨_,rfl⟩ .nil)))))⟩,mg_of X G0 oX,mg_of X G0 eX,mg_of X G0 CT,mg_of X G0 ko,mg_of X G0 lU,mg_of X G0 gn,mg_of X G0 kr,mg_of X G0 iZ,mg_of X G0 gO,gO,d6.mk' i0 i6 i7,mg_of X G0 jM,jM,d6.mk' oY kP kQ,fR.mk' oZ pe kP pq pA pB pC kQ,pD,mg_of X G0 jN,jN,d6.mk' pF kR kT,fR.mk' pG pH kR pI pJ pK pL kT,pM,mg_of X G0 gh,gh,d6.mk' ku gQ gR,fR.mk' kB kC gQ kD kE kF kG gR,kH,mg_of X G0 gi,gi,d6.mk' pN kU kW,fR.mk' pO pP kU pQ pR pS pT kW,pU,mg_of X G0 fG,fG,d6.mk' pV kX kY,fR.mk' pW pX kX pY pZ qa kZ kY,qb,XU,⟨qc,lV,kZ,ie⟩,mg_of X G0 dY,dY,d6.mk' lW i8 i9,fR.mk' lX lY i8 lZ l0 l6 gp i9,l7,X0,⟨ja,gS,gp,gq⟩,⟨ja,gS,gp,eY⟩,cX,cY,eg,cg,dG,ek,er,eu,eB,dZ,d7,cZ,eE,dg,cj,dH,eF,eG,eK,eL,d8,d9,ck,dI,cu,dJ,bf,dM,dN,dO,dP,cP,cQ,eN,dh,di,bX,cy,bx,dj,dm,dw,cG,cH,eO,eS,dz,dB,cz,cA,bY,dD,dF,cI,cJ,ee,cK,cL,bH,bP,bq,cM,ef,bI,cN,cB,cR,cS,cC,cT,cU,bB,cE,cF,bR,bC,bD,cD⟩
  have vh:=a0.df (ps:=["text","most"]) X G0 fun _ _ _ _ _ _ us hl=>dW us hl fun _ _=>rfl
  have AS:=a1.df (ps:=["text","most"]) X G0 fun _ _ _ _ _ _ us hl=>dW us hl fun _ _=>rfl
  have yK:=a2.df (ps:=["text","most"]) X G0 fun _ _ _ _ _ _ us hl=>dW us hl fun _ _=>rfl
  have yL:=a3.df (ps:=["numbers"]) X G0 fun _ _ _ _ _ _ us hl=>dr us hl fun _=>rfl
  have J4:=a4.df (ps:=["top","bottom"]) X G0 fun _ _ _ _ _ _ us hl=>dW us hl fun _ _=>rfl
  have vi:=a5.df (ps:=["text"]) X G0 fun _ _ _ _ _ _ us hl=>dr us hl fun _=>rfl
  have J5:=a6.df (ps:=["lengths"]) X G0 fun _ _ _ _ _ _ us hl=>dr us hl fun _=>rfl
  have CY:=a7.df (ps:=["thing"]) X G0 fun _ _ _ _ _ _ us hl=>dr us hl fun _=>rfl
  have J6:=a8.df (ps:=["thing"]) X G0 fun _ _ _ _ _ _ us hl=>dr us hl fun _=>rfl
  have FV:=a9.df (ps:=["thing"]) X G0 fun _ _ _ _ _ _ us hl=>dr us hl fun _=>rfl
  have FW:=Xj.df (ps:=["row"]) X G0 fun _ _ _ _ _ _ us hl=>dr us hl fun _=>rfl
  have Mr:=Xk.df (ps:=["one","other"]) X G0 fun _ _ _ _ _ _ us hl=>dW us hl fun _ _=>rfl
  have Ms:=Xl.df (ps:=["row","n"]) X G0 fun _ _ _ _ _ _ us hl=>dW us hl fun _ _=>rfl
  have yM:=Xm.df (ps:=["text","start","sign"]) X G0 fun _ _ _ _ _ _ us hl=>gB us hl fun _ _ _=>rfl
  have yN:=Xn.df (ps:=["text","start","mark"]) X G0 fun _ _ _ _ _ _ us hl=>gB us hl fun _ _ _=>rfl
  have vj:=Xo.df (ps:=["text"]) X G0 fun _ _ _ _ _ _ us hl=>dr us hl fun _=>rfl
  have Mt:=Xp.df (ps:=["text"]) X G0 fun _ _ _ _ _ _ us hl=>dr us hl fun _=>rfl
  have qK:=Xq.df (ps:=["text"]) X G0 fun _ _ _ _ _ _ us hl=>dr us hl fun _=>rfl
  have AU:=Xr.df (ps:=["word","number","place"]) X G0 fun _ _ _ _ _ _ us hl=>gB us hl fun _ _ _=>rfl
  have CZ:=Xs.df (ps:=["text","number","meter"]) X G0 fun _ _ _ _ _ _ us hl=>gB us hl fun _ _ _=>rfl
  have yO:=Xu.df (ps:=["text"]) X G0 fun _ _ _ _ _ _ us hl=>dr us hl fun _=>rfl
  have AV:=Xv.df (ps:=["text"]) X G0 fun _ _ _ _ _ _ us hl=>dr us hl fun _=>rfl
  have vk:=Xw.df (ps:=["_law_script","_law_k"]) X G0 fun _ _ _ _ _ _ us hl=>dW us hl fun _ _=>rfl
  have AW:=Xx.df (ps:=["_law_cell","_law_k"]) X G0 fun _ _ _ _ _ _ us hl=>dW us hl fun _ _=>rfl
  have yP:=Xy.df (ps:=["_law_cell","_law_count","_law_total"]) X G0 fun _ _ _ _ _ _ us hl=>gB us hl fun _ _ _=>rfl
  have FX:=Xz.df (ps:=["_law_cell"]) X G0 fun _ _ _ _ _ _ us hl=>dr us hl fun _=>rfl
  have C1:=XA.df (ps:=["_law_script","_law_total","_law_bottom"]) X G0 fun _ _ _ _ _ _ us hl=>gB us hl fun _ _ _=>rfl
  have AX:=XD.df (ps:=["_law_total","_law_bottom"]) X G0 fun _ _ _ _ _ _ us hl=>dW us hl fun _ _=>rfl
  have yQ:=XE.df (ps:=["_law_body","_law_known_here"]) X G0 fun _ _ _ _ _ _ us hl=>dW us hl fun _ _=>rfl
  have yR:=XF.df (ps:=["_law_bars_here","_law_cell"]) X G0 fun _ _ _ _ _ _ us hl=>dW us hl fun _ _=>rfl
  have FY:=XG.df (ps:=["_law_bars_here","_law_total"]) X G0 fun _ _ _ _ _ _ us hl=>dW us hl fun _ _=>rfl
  have C2:=XH.df (ps:=["_law_script","_law_body","_law_head"]) X G0 fun _ _ _ _ _ _ us hl=>gB us hl fun _ _ _=>rfl
  have C3:=XI.df (ps:=["_law_text_here"]) X G0 fun _ _ _ _ _ _ us hl=>dr us hl fun _=>rfl
  have F33:=wA (st:=mV) XN XO XQ
  have Zf:=wA (st:=cm) XR XS XT
  have vm:E4 K Qd "__init__" "BadBar.__init__" cm ["self","bar"]:=⟨_,Zf,Zf.binds (ps:=["self","bar"]) fun _ _ _ _ _ _ us hl=>dW us hl fun _ _=>rfl⟩
  have Zg:=wA (st:=bN) XX XY XZ
  have sY:E4 K Qe "__init__" "BadNote.__init__" bN ["self","bar","place"]:=⟨_,Zg,Zg.binds (ps:=["self","bar","place"]) fun _ _ _ _ _ _ us hl=>gB us hl fun _ _ _=>rfl⟩
  refine⟨PySem.W.fnOf "law" "law" (fb mV) (cx mV) (aq mV) .none Um Uo Up Ul Qf Uq,fun s v=>.of_eq rfl,fun base _ _=>?_⟩
  have lB:=sH (base:=base) vh T
  have yS:=tQ (base:=base) yL T
  have C4:=As (base:=base) CY T
  have Mu:=JB (base:=base) Mr T
  have Mv:=JD (base:=base) Ms T
  have yT:=tS (base:=base) yM T
  have ig:=sR (base:=base) vk T
  have qo:=xU (base:=base) AW T
  have FZ:=Cw (base:=base) FX T
  have AY:=xW (base:=base) AX T
  have yU:=ua (base:=base) yQ T
  have F0:=CA (base:=base) FY T
  have vn:=sT (base:=base) vm T
  have sZ:=qJ (base:=base) sY T
  have AZ:=xJ (base:=base) AS T ⟨lB⟩
  have yV:=tO (base:=base) yK T ⟨lB⟩
  have A0:=Fv (base:=base) J4 T ⟨yS⟩
  have J7:=FC (base:=base) J6 T ⟨C4⟩
  have yW:=tV (base:=base) yN T ⟨yT⟩
  have yX:=t8 (base:=base) yP T ⟨qo⟩
  have yY:=ud (base:=base) yR T ⟨FZ⟩
  have C5:=AE (base:=base) C2 T ⟨ig⟩
  have lC:=sL (base:=base) vi T ⟨yV,A0⟩
  have J8:=Fy (base:=base) J5 T ⟨A0⟩
  have F3:=Cp (base:=base) FV T ⟨J7⟩
  have vo:=sP (base:=base) vj T ⟨AZ⟩
  have C6:=AA (base:=base) C1 T ⟨ig,qo,yX⟩
  have F4:=Cs (base:=base) FW T ⟨F3⟩
  have yZ:=t5 (base:=base) yO T ⟨lC⟩
  have Mw:=JG (base:=base) Mt T ⟨F4,Mu,Mv,yW,vo⟩
  have qL:=oK (base:=base) qK T ⟨Mw⟩
  have A1:=xP (base:=base) AU T ⟨lC,qL,sZ⟩
  have C7:=Ax (base:=base) CZ T ⟨J8,A1,vn⟩
  have A2:=xS (base:=base) AV T ⟨C7,yZ⟩
  have C8:=AH (base:=base) C3 T ⟨A2⟩
  exact Qb F33 T ⟨ig,C6,AY,yU,yY,F0,C5,C8⟩
end Law
open PySem PySem.W PyProof.Rows
set_option maxRecDepth 100000 in
theorem PySem.Challenge.cw_tuningyard_k64_bad_bars_and_notes_holds : PySem.Challenge.rw_tuningyard_k64_bad_bars_and_notes.Holds := by
 w_on;o_law;k_head;(case hw=>w_witness2)
 k_fill
 refine L2.GR (l:=PySem.Challenge.rw_tuningyard_k64_bad_bars_and_notes) (n:=63) (k:=11) (x:="_law_script") (CX:=L2.Kg) (sp:=L2.G9) rfl (by decide) rfl ⟨rfl,by decide,by decide⟩ (fun w h Y=>kIn_of Y) ?F (fun _ _ a ns hl _ hS=>⟨a,ns,rfl,hS,hl,fun _=>rfl⟩) fun _ _ _ _ z=>z
 case F =>
  intro w mg fa h KX G Rp
  refine' Law.all_mk KX G Rp ?fG ?dY ?a0 ?a1 ?a2 ?a3 ?a4 ?a5 ?a6 ?a7 ?a8 ?a9 ?Xj ?Xk ?Xl ?Xm ?Xn ?Xo ?Xp ?Xq ?Xr ?Xs ?Xu ?Xv ?Xw ?Xx ?Xy ?Xz ?XA ?XD ?XE ?XF ?XG ?XH ?XI ?XJ ?XN ?XO ?XQ ?Zd ?XR ?XS ?XT ?XU ?Ze ?XX ?XY ?XZ ?X0 ?JT ?JU ?sV ?sW ?oQ ?yG ?oR ?ic ?j3 ?j4 ?j5 ?j6 ?j7 ?j8 ?j9 ?yH ?oS ?kg ?oU ?kh ?oV ?ki ?oW ?kj ?oX ?eX ?CT ?ko ?lU ?gn ?kr ?iZ ?gO ?i0 ?i6 ?i7 ?jM ?oY ?kP ?kQ ?oZ ?pe ?pq ?pA ?pB ?pC ?pD ?jN ?pF ?kR ?kT ?pG ?pH ?pI ?pJ ?pK ?pL ?pM ?gh ?ku ?gQ ?gR ?kB ?kC ?kD ?kE ?kF ?kG ?kH ?gi ?pN ?kU ?kW ?pO ?pP ?pQ ?pR ?pS ?pT ?pU ?pV ?kX ?kY ?pW ?pX ?pY ?pZ ?qa ?kZ ?qb ?lV ?qc ?ie ?lW ?i8 ?i9 ?lX ?lY ?lZ ?l0 ?l6 ?gp ?l7 ?gS ?ja ?gq ?eY ?cX ?cY ?eg ?cg ?dG ?ek ?er ?eu ?eB ?dZ ?d7 ?cZ ?eE ?dg ?cj ?dH ?eF ?eG ?eK ?eL ?d8 ?d9 ?ck ?dI ?cu ?dJ ?bf ?dM ?dN ?dO ?dP ?cP ?cQ ?eN ?dh ?di ?bX ?cy ?bx ?dj ?dm ?dw ?cG ?cH ?eO ?eS ?dz ?dB ?cz ?cA ?bY ?dD ?dF ?cI ?cJ ?ee ?cK ?cL ?bH ?bP ?bq ?cM ?ef ?bI ?cN ?cB ?cR ?cS ?cC ?cT ?cU ?bB ?cE ?cF ?bR ?bC ?bD ?cD ?sX ?jb ?JV ?JW ?CU ?kI ?JX ?jc ?JY ?CV ?yI ?JZ ?J0 ?yJ ?J2
  case fG|dY=>k_is
  case a0|a1|a2|a3|a4|a5|a6|a7|a8|a9|Xj|Xk|Xl|Xm|Xn|Xo|Xp|Xq|Xr|Xs|Xu|Xv|Xw|Xx|Xy|Xz|XA|XD|XE|XF|XG|XH|XI=>refine' L2.Pr ?a ?l ?c ?k;case a|l|c|k=>k_is
  case XJ|XN|XO|XQ|Zd|XR|XS|XT|XU|Ze|XX|XY|XZ|X0|JT|JU|sV|sW|oQ|yG|oR=>k_is
  case ic=>decide
  case j3|j4|j5|j6|j7|j8|j9|yH|oS|kg|oU|kh|oV|ki|oW|kj|oX|eX|CT|ko|lU|gn|kr|iZ|gO|i0|i6|i7|jM|oY|kP|kQ|oZ|pe|pq|pA|pB|pC=>k_is
  case pD=>k_exc
  case jN|pF|kR|kT|pG|pH|pI|pJ|pK|pL=>k_is
  case pM=>k_exc
  case gh|ku|gQ|gR|kB|kC|kD|kE|kF|kG=>k_is
  case kH=>k_exc
  case gi|pN|kU|kW|pO|pP|pQ|pR|pS|pT=>k_is
  case pU=>k_exc
  case pV|kX|kY|pW|pX|pY|pZ|qa|kZ=>k_is
  case qb|lV=>kernel_rfl
  case qc|ie|lW|i8|i9|lX|lY|lZ|l0|l6|gp=>k_is
  case l7|gS=>kernel_rfl
  case ja|gq|eY|cX|cY=>k_is
  case eg=>decide
  case cg=>k_is
  case dG=>decide
  case ek=>k_is
  case er=>decide
  case eu=>k_is
  case eB=>decide
  case dZ=>k_is
  case d7=>decide
  case cZ=>k_is
  case eE=>decide
  case dg|cj=>k_is
  case dH=>decide
  case eF=>k_is
  case eG=>decide
  case eK=>k_is
  case eL=>decide
  case d8=>k_is
  case d9=>decide
  case ck=>k_is
  case dI=>decide
  case cu=>k_is
  case dJ=>decide
  case bf|dM=>k_is
  case dN=>decide
  case dO=>k_is
  case dP=>decide
  case cP=>k_is
  case cQ=>decide
  case eN=>k_is
  case dh=>decide
  case di=>k_is
  case bX=>decide
  case cy=>k_is
  case bx=>decide
  case dj|dm=>k_is
  case dw=>decide
  case cG=>k_is
  case cH=>decide
  case eO=>k_is
  case eS=>decide
  case dz=>k_is
  case dB=>decide
  case cz=>k_is
  case cA=>decide
  case bY=>k_is
  case dD=>decide
  case dF|cI=>k_is
  case cJ=>decide
  case ee=>k_is
  case cK=>decide
  case cL=>k_is
  case bH=>decide
  case bP=>k_is
  case bq=>decide
  case cM=>k_is
  case ef=>decide
  case bI=>k_is
  case cN=>decide
  case cB|cR|cS|cC|cT|cU|bB|cE|cF|bR|bC|bD|cD|sX|jb|JV|JW|CU|kI|JX|jc|JY|CV|yI|JZ|J0|yJ|J2=>k_is
