import PyProof.Rows.All
import Wide.All
import OpenK.AllK
import Wide.FinOn
import Lean
import PyProof.EqAt
import PyProof.EqKinds
import PyProof.TupleCall
import PyProof.CompMap
import PyProof.ZipIter
import PyProof.TupleIter
import PyProof.ExcAttrAll.ValueError
import KE.KSortKey
import KE.KRevIter
import PySem.Challenge.RW_tuningyard_k41_values
set_option Elab.async false
set_option linter.all false
set_option maxRecDepth 100000
/-! THE HAND LAYER, for ints, bools, texts, own classes, LISTS and tuples (index, slices, in, append, pop ..), calls, loops. Paste it whole ahead of your own text; what your proof does not reach may be deleted. -/
namespace L2
open PySem PySem.Spec PyProof.Rows

/-- a key: an int or a str -/
abbrev Key := Sum Int Str
def keyIs : Key → Value → Bool
  | .inl k, v => Value.isInt k v
  | .inr x, v => Value.isStrOf x v
def keyH (w : World) : Key → Int
  | .inl k => hashInt k
  | .inr x => hashStr w x
theorem keyIs_shape : ∀ {k : Key} {v : Value}, keyIs k v = true → (∃ i t, k = Sum.inl i ∧ v = Value.int i t) ∨ (∃ x t, k = Sum.inr x ∧ v = Value.str x t)
  | .inl i, v, h => by
    obtain ⟨t, e⟩ := Value.isInt_shape (k := i) (v := v) h
    exact .inl ⟨i, t, rfl, e⟩
  | .inr x, v, h => by
    obtain ⟨t, e⟩ := Value.isStrOf_shape (x := x) (v := v) h
    exact .inr ⟨x, t, rfl, e⟩
theorem keyIs_int (i : Int) (t : Tok) : keyIs (.inl i) (.int i t) = true := by simp [keyIs, Value.isInt]
theorem keyIs_str (x : Str) (t : Tok) : keyIs (.inr x) (.str x t) = true := by simp [keyIs, Value.isStrOf]
theorem key_ll (a b : Int) : decide ((Sum.inl a : Key) = Sum.inl b) = (a == b) := by
  by_cases e : a = b
  · subst e; simp
  · have h : ¬ (Sum.inl a : Key) = Sum.inl b := fun q => e (Sum.inl.inj q)
    rw [decide_eq_false h]
    exact (beq_eq_false_iff_ne.mpr e).symm
theorem key_rr (a b : Str) : decide ((Sum.inr a : Key) = Sum.inr b) = decide (a = b) := by
  by_cases e : a = b
  · subst e; simp
  · have h : ¬ (Sum.inr a : Key) = Sum.inr b := fun q => e (Sum.inr.inj q)
    rw [decide_eq_false h, decide_eq_false e]
theorem key_lr (a : Int) (b : Str) : decide ((Sum.inl a : Key) = Sum.inr b) = false := decide_eq_false (fun q => nomatch q)
theorem key_rl (a : Str) (b : Int) : decide ((Sum.inr a : Key) = Sum.inl b) = false := decide_eq_false (fun q => nomatch q)

def mixKind (prog : Program) (w : World) : PySem.KeyKind prog w Key where
  is := keyIs
  hash := keyH w
  inj := fun v a b ha hb => by
    rcases keyIs_shape ha with ⟨i, t, rfl, rfl⟩ | ⟨x, t, rfl, rfl⟩
    · rcases keyIs_shape hb with ⟨j, u, rfl, e⟩ | ⟨y, u, rfl, e⟩
      · injection e with e1 _; rw [e1]
      · exact nomatch e
    · rcases keyIs_shape hb with ⟨j, u, rfl, e⟩ | ⟨y, u, rfl, e⟩
      · exact nomatch e
      · injection e with e1 _; rw [e1]
  byValue := fun k v h => by
    rcases keyIs_shape h with ⟨i, t, rfl, rfl⟩ | ⟨x, t, rfl, rfl⟩ <;> rfl
  pyHash := fun hv h => by
    rcases keyIs_shape hv with ⟨i, t, rfl, rfl⟩ | ⟨x, t, rfl, rfl⟩
    · exact wpAny_pyHash_int h
    · exact wpAny_pyHash_str h
  eqBool := fun hu hv h => by
    rcases keyIs_shape hu with ⟨i, t, rfl, rfl⟩ | ⟨x, t, rfl, rfl⟩
    · rcases keyIs_shape hv with ⟨j, u, rfl, rfl⟩ | ⟨y, u, rfl, rfl⟩
      · rw [key_ll] at h; exact wpAny_eqBool_int h
      · rw [key_lr] at h; exact SeqAt.EqAt.int_str i t y u _ _ _ _ h
    · rcases keyIs_shape hv with ⟨j, u, rfl, rfl⟩ | ⟨y, u, rfl, rfl⟩
      · rw [key_rl] at h; exact SeqAt.EqAt.str_int x t j u _ _ _ _ h
      · rw [key_rr] at h; exact wpAny_eqBool_str h
  «strs» := fun k x t v h => by
    rcases keyIs_shape h with ⟨i, u, rfl, e⟩ | ⟨y, u, rfl, e⟩
    · exact nomatch e
    · injection e with e1 _
      subst e1
      cases v <;> rfl

theorem mixKind_is (prog : Program) (w : World) (k : Key) (v : Value) : (mixKind prog w).is k v = keyIs k v := rfl
theorem mixKind_int (prog : Program) (w : World) (i : Int) (t : Tok) : (mixKind prog w).is (.inl i) (.int i t) = true := keyIs_int i t
theorem mixKind_str (prog : Program) (w : World) (x : Str) (t : Tok) : (mixKind prog w).is (.inr x) (.str x t) = true := keyIs_str x t
end L2

namespace L2
open PySem PySem.Spec PyProof.Rows

/-- a value, without the heap -/
inductive V where
  | non | bl (b : Bool) | int (i : Int) | str (x : Str) | byt (b : Array UInt8) | flt (b : UInt64) | ref (a : Addr) | ty (n : String)
  deriving DecidableEq

def RelV : V → Value → Prop
  | .non, u => u = Value.none
  | .bl b, u => u = Value.bool b
  | .int i, u => ∃ t, u = Value.int i t
  | .str x, u => ∃ t, u = Value.str x t
  | .byt b, u => ∃ t, u = Value.bytes b t
  | .flt b, u => ∃ t, u = Value.float b t
  | .ref a, u => u = Value.ref a
  | .ty n, u => u = Value.type n

abbrev Vals : List V → List Value → Prop := Paired RelV
theorem Vals.length {xs : List V} {us : List Value} (r : Vals xs us) : xs.length = us.length := Paired.length r
theorem Vals.get : ∀ {xs : List V} {us : List Value} {i : Nat} {x : V}, Vals xs us → xs[i]? = some x → ∃ u, us[i]? = some u ∧ RelV x u
  | _, _, _, _, .nil, e => by simp at e
  | _, _, 0, _, .cons r _, e => by simp at e; subst e; exact ⟨_, rfl, r⟩
  | _, _, i + 1, x, .cons _ t, e => by
    obtain ⟨u, h1, h2⟩ := Vals.get (i := i) (x := x) t (by simpa using e)
    exact ⟨u, by simpa using h1, h2⟩
theorem Vals.set {x : V} {u : Value} (r : RelV x u) : ∀ {xs : List V} {us : List Value} (i : Nat), Vals xs us → Vals (xs.set i x) (us.set i u)
  | _, _, _, .nil => .nil
  | _, _, 0, .cons _ t => .cons r t
  | _, _, i + 1, .cons q t => .cons q (Vals.set r i t)
theorem Vals.append : ∀ {xs ys : List V} {us ws : List Value}, Vals xs us → Vals ys ws → Vals (xs ++ ys) (us ++ ws)
  | _, _, _, _, .nil, s => s
  | _, _, _, _, .cons r t, s => .cons r (Vals.append t s)
theorem Vals.take : ∀ {xs : List V} {us : List Value} (n : Nat), Vals xs us → Vals (xs.take n) (us.take n)
  | _, _, 0, _ => .nil
  | _, _, _ + 1, .nil => .nil
  | _, _, n + 1, .cons r t => .cons r (Vals.take n t)
theorem Vals.drop : ∀ {xs : List V} {us : List Value} (n : Nat), Vals xs us → Vals (xs.drop n) (us.drop n)
  | _, _, 0, r => r
  | _, _, _ + 1, .nil => .nil
  | _, _, n + 1, .cons _ t => Vals.drop n t
theorem Vals.none_of : ∀ {xs : List V} {us : List Value} {i : Nat}, Vals xs us → xs[i]? = none → us[i]? = none := fun {xs us i} r e => by
  have h1 := r.length
  have h2 : xs.length ≤ i := List.getElem?_eq_none_iff.mp e
  exact List.getElem?_eq_none_iff.mpr (by omega)

def RelO : Option V → Option Value → Prop
  | some v, some u => RelV v u
  | none, none => True
  | _, _ => False
def KV {κ : Type} : List (κ × V) → List (κ × Value) → Prop := Paired fun (p : κ × V) (q : κ × Value) => p.1 = q.1 ∧ RelV p.2 q.2

/-- a key of a dict (00_mix): an int or a text -/
def kV : Key → V
  | .inl i => .int i
  | .inr x => .str x

/-- what stands at a tracked address -/
inductive HO where
  /-- a list -/
  | lst (xs : List V)
  /-- a tuple (never changes) -/
  | tup (xs : List V)
  /-- a dict whose keys are ints and texts; one whose keys are tuples of ints and texts (the empty one is both) -/
  | dK (kvs : List (Key × V)) | dT (kvs : List (List Key × V))
  /-- a set of ints: its members, its size -/
  | set (S : Int → Bool) (n : Nat)
  /-- an instance of the class at C, its dict at dx, its attributes -/
  | ins (C dx : Addr) (fs : List (Str × V))
  /-- the dict of the instance at x -/
  | own (x : Addr)
  /-- the dict of an exception -/
  | xd (fs : List (Str × V))
  /-- a bound method, f of x -/
  | met (f x : Addr)
  /-- a range object lo, lo + 1, .. below hi -/
  | rng (lo hi : Int)
  /-- a thing that is known to the object (the script; a dict while a loop walks it): read, never written while it is so -/
  | frz (o : Obj) (u : HO)
  /-- a code object's table -/
  | tbl (ps : Array Value)
  /-- any other thing, by what is true of its one object (a def of one's own: SetO a S n := HO.ext fun h => ..) -/
  | ext (φ : Heap → Prop)

abbrev Hp := Addr → Option HO
def upd (H : Hp) (a : Addr) (o : HO) : Hp := fun b => if b = a then some o else H b
theorem upd_same {H : Hp} {a : Addr} {o : HO} : upd H a o a = some o := by unfold upd; rw [if_pos rfl]
theorem upd_ne {H : Hp} {a b : Addr} {o : HO} (h : b ≠ a) : upd H a o b = H b := by unfold upd; rw [if_neg h]
theorem upd_upd {H : Hp} {a : Addr} {o u : HO} : upd (upd H a o) a u = upd H a u := by
  funext b; unfold upd; split <;> rfl
/-- two objects of different content stand apart -/
theorem ne_of {H : Hp} {a b : Addr} {o u : HO} (h : H a = some o) (h' : H b = some u) (d : o ≠ u) : a ≠ b := by
  intro e; subst e; rw [h] at h'; exact d (Option.some.inj h')
theorem ne_of_none {H : Hp} {a b : Addr} {o : HO} (h : H a = some o) (h' : H b = none) : a ≠ b := by
  intro e; subst e; rw [h] at h'; cases h'

section
variable (P : Program) (w : World)
def ObjOk (H : Hp) (h : Heap) (a : Addr) : HO → Prop
  | .lst xs => xs.length ≤ sizeLine ∧ ∃ (its : List Value) (n : Nat), Vals xs its ∧ h.get? a = some { cls := .type "list", data := .seq its.toArray n }
  | .tup xs => xs.length ≤ sizeLine ∧ ∃ its : List Value, Vals xs its ∧ IsTup h a its.toArray
  | .dK kvs => kvs.length ≤ sizeLine ∧ (a == sysModules) = false ∧ ∃ vs, KV kvs vs ∧ h.DictOf (mixKind P w) a vs
  | .dT kvs => kvs.length ≤ sizeLine ∧ (a == sysModules) = false ∧ ∃ xs : List (List Key × Addr × Value),
      Paired (fun (p : List Key × V) (q : List Key × Addr × Value) => p.1 = q.1 ∧ H q.2.1 = some (.tup (p.1.map kV)) ∧ RelV p.2 q.2.2) kvs xs ∧
      ∃ o es ep, h.get? a = some o ∧ o.ExactDict ∧ o.data = .dict es ep ∧ es.toList = xs.map (entryOfKey (tupleKind (mixKind P w))) ∧ (xs.map (·.1)).Nodup
  | .set S n => h.SetOf (intKind P w) a S n
  | .ins C dx fs => H dx = some (.own a) ∧ fs.length ≤ 1000 ∧ dx ≠ a ∧ h.get? a = some (PySem.W.instObj C dx) ∧
      ∃ mA, h.Ns1 dx mA ∧ (∀ f, RelO (fs.lookup f) (mA f)) ∧ PySem.Within mA (fs.map (·.1))
  | .own _ => ∃ o, h.get? a = some o
  | .xd fs => ∃ mA, h.Ns1 a mA ∧ ∀ f, RelO (fs.lookup f) (mA f)
  | .rng lo hi => ∃ t u v, h.get? a = some { cls := .type "range", data := .fields #[.int lo t, .int hi u, .int 1 v] }
  | .frz o u => h.get? a = some o ∧ ObjOk H h a u
  | .tbl ps => h.get? a = some { cls := .none, data := .fields ps }
  | .met f x => h.get? a = some (PySem.W.methodObj (.ref f) (.ref x))
  | .ext φ => φ h ∧ (∃ o, h.get? a = some o) ∧ ∀ h1 h2 : Heap, φ h1 → (∀ o, h1.get? a = some o → h2.get? a = some o) → φ h2
/-- the abstract heap is held -/
def HOk (H : Hp) (h : Heap) : Prop := ∀ a o, H a = some o → ObjOk P w H h a o
end

section
variable {P : Program} {w : World} {H H' : Hp} {h h' : Heap} {a : Addr} {o : HO}
theorem ObjOk.lt (x : ObjOk P w H h a o) : a < h.objs.size := by
  cases o with
  | lst xs => obtain ⟨_, _, _, _, e⟩ := x; exact Heap.lt_size e
  | tup xs => obtain ⟨_, _, _, p⟩ := x; exact p.lt
  | dK kvs => obtain ⟨_, _, _, _, o, _, _, e, _⟩ := x; exact Heap.lt_size e
  | dT kvs => obtain ⟨_, _, _, _, o, _, _, e, _⟩ := x; exact Heap.lt_size e
  | set S n => obtain ⟨o, _, _, _, e, _⟩ := x; exact Heap.lt_size e
  | ins C dx fs => obtain ⟨_, _, _, e, _⟩ := x; exact Heap.lt_size e
  | own y => obtain ⟨_, e⟩ := x; exact Heap.lt_size e
  | xd fs => obtain ⟨_, ⟨_, _, _, e, _⟩, _⟩ := x; exact Heap.lt_size e
  | rng lo hi => obtain ⟨_, _, _, e⟩ := x; exact Heap.lt_size e
  | frz ob u => obtain ⟨e, _⟩ := x; exact Heap.lt_size e
  | tbl ps => exact Heap.lt_size (show h.get? a = some _ from x)
  | met f y => exact Heap.lt_size (show h.get? a = some _ from x)
  | ext φ => obtain ⟨_, ⟨_, e⟩, _⟩ := x; exact Heap.lt_size e
theorem Paired.mapP {α β : Type} {F G : α → β → Prop} : ∀ {l₁ : List α} {l₂ : List β}, Paired F l₁ l₂ → (∀ a b, F a b → G a b) → Paired G l₁ l₂
  | _, _, .nil, _ => .nil
  | _, _, .cons r t, f => .cons (f _ _ r) (Paired.mapP t f)
theorem Paired.imp' {α β : Type} {F G : α → β → Prop} (f : ∀ a b, F a b → G a b) {l₁ : List α} {l₂ : List β} (r : Paired F l₁ l₂) : Paired G l₁ l₂ := Paired.mapP r f
/-- what an object's description leans on: its own object, its own dict, the tuples -/
theorem ObjOk.stay (x : ObjOk P w H h a o) (k : ∀ b u, (b = a ∨ H b = some (.own a)) → h.get? b = some u → h'.get? b = some u)
    (ho : ∀ b, H b = some (.own a) → H' b = some (.own a)) (ht : ∀ b xs, H b = some (.tup xs) → H' b = some (.tup xs)) : ObjOk P w H' h' a o := by
  induction o with
  | lst xs => obtain ⟨z, its, n, r, e⟩ := x; exact ⟨z, its, n, r, k _ _ (.inl rfl) e⟩
  | tup xs => obtain ⟨z, its, r, ob, e, c⟩ := x; exact ⟨z, its, r, ob, k _ _ (.inl rfl) e, c⟩
  | dK kvs => obtain ⟨z, y, vs, r, ob, es, ep, e, c⟩ := x; exact ⟨z, y, vs, r, ob, es, ep, k _ _ (.inl rfl) e, c⟩
  | dT kvs =>
    obtain ⟨z, y, xs, r, ob, es, ep, e, c⟩ := x
    exact ⟨z, y, xs, Paired.mapP r fun p q z => ⟨z.1, ht _ _ z.2.1, z.2.2⟩, ob, es, ep, k _ _ (.inl rfl) e, c⟩
  | set S n => obtain ⟨ob, es, ep, t, e, c⟩ := x; exact ⟨ob, es, ep, t, k _ _ (.inl rfl) e, c⟩
  | ins C dx fs =>
    obtain ⟨d, z, ne, e, mA, ⟨od, es, ep, e2, c⟩, r⟩ := x
    exact ⟨ho _ d, z, ne, k _ _ (.inl rfl) e, mA, ⟨od, es, ep, k _ _ (.inr d) e2, c⟩, r⟩
  | own y => obtain ⟨ob, e⟩ := x; exact ⟨ob, k _ _ (.inl rfl) e⟩
  | xd fs => obtain ⟨mA, ⟨od, es, ep, e, c⟩, r⟩ := x; exact ⟨mA, ⟨od, es, ep, k _ _ (.inl rfl) e, c⟩, r⟩
  | rng lo hi => obtain ⟨t, u, v, e⟩ := x; exact ⟨t, u, v, k _ _ (.inl rfl) e⟩
  | frz ob u ih => obtain ⟨e, q⟩ := x; exact ⟨k _ _ (.inl rfl) e, ih q⟩
  | tbl ps =>
    have e : h.get? a = some { cls := .none, data := .fields ps } := x
    show h'.get? a = some { cls := .none, data := .fields ps }
    exact k a _ (.inl rfl) e
  | met f y =>
    have e : h.get? a = some (PySem.W.methodObj (.ref f) (.ref y)) := x
    show h'.get? a = some (PySem.W.methodObj (.ref f) (.ref y))
    exact k a _ (.inl rfl) e
  | ext φ => obtain ⟨p, ⟨o, e⟩, st⟩ := x; exact ⟨st _ _ p fun o q => k _ _ (.inl rfl) q, ⟨o, k _ _ (.inl rfl) e⟩, st⟩
theorem HOk.lt (x : HOk P w H h) (e : H a = some o) : a < h.objs.size := (x a o e).lt
theorem HOk.fresh (x : HOk P w H h) (e : h.objs.size ≤ a) : H a = none := by
  cases q : H a with
  | none => rfl
  | some u => exact absurd (Nat.lt_of_lt_of_le (x.lt q) e) (Nat.lt_irrefl _)
/-- every object of the heap is kept -/
theorem HOk.kept (x : HOk P w H h) (k : ∀ b u, h.get? b = some u → h'.get? b = some u) : HOk P w H h' := fun a o e =>
  (x a o e).stay (fun b u _ q => k b u q) (fun _ q => q) fun _ _ q => q
/-- a new object is laid and tracked -/
theorem HOk.laid (x : HOk P w H h) (k : ∀ b u, h.get? b = some u → h'.get? b = some u) (hp : h.objs.size ≤ a) (new : ObjOk P w (upd H a o) h' a o) : HOk P w (upd H a o) h' := fun b u e => by
  have hn := x.fresh hp
  by_cases hb : b = a
  · subst hb; rw [upd_same] at e; cases e; exact new
  · rw [upd_ne hb] at e
    exact (x b u e).stay (fun c v _ q => k c v q) (fun c q => by rw [upd_ne (ne_of_none q hn)]; exact q) fun c xs q => by rw [upd_ne (ne_of_none q hn)]; exact q
end

/-- what may be read as u: it is u, or a known u -/
def Rd (H : Hp) (a : Addr) (u : HO) : Prop := H a = some u ∨ ∃ o, H a = some (.frz o u)
theorem Rd.of {H : Hp} {a : Addr} {u : HO} (h : H a = some u) : Rd H a u := .inl h
theorem Rd.ok {P : Program} {w : World} {H : Hp} {h : Heap} {a : Addr} {u : HO} (r : Rd H a u) (x : HOk P w H h) : ObjOk P w H h a u := by
  rcases r with r | ⟨o, r⟩
  · exact x a u r
  · obtain ⟨_, q⟩ := x a _ r
    exact q
/-- what may be written -/
def Mut : Option HO → Prop
  | some (.lst _) => True
  | some (.dK _) => True
  | some (.dT _) => True
  | some (.set _ _) => True
  | some (.ins _ _ _) => True
  | some (.ext _) => True
  | _ => False
section
variable {P : Program} {w : World} {H : Hp} {h h' : Heap} {x e : Addr} {o' : HO}
/-- the object at e is changed: x itself, or the dict of the instance x -/
theorem HOk.write (ok : HOk P w H h) (mu : Mut (H x)) (he : e = x ∨ H e = some (.own x)) (k : ∀ b u, b ≠ e → h.get? b = some u → h'.get? b = some u) (heo : ∃ u, h'.get? e = some u)
    (new : ObjOk P w (upd H x o') h' x o') : HOk P w (upd H x o') h' := fun b u q => by
  have nown : ∀ c y, H c = some (.own y) → c ≠ x := fun c y r z => by subst z; rw [r] at mu; exact mu
  have ntup : ∀ c xs, H c = some (.tup xs) → c ≠ x := fun c xs r z => by subst z; rw [r] at mu; exact mu
  by_cases hb : b = x
  · subst hb; rw [upd_same] at q; cases q; exact new
  · rw [upd_ne hb] at q
    by_cases hbe : b = e
    · have q' : H b = some (.own x) := by
        rcases he with z | z
        · exact absurd (hbe.trans z) hb
        · rw [hbe]; exact z
      rw [q] at q'; cases q'
      obtain ⟨v, hv⟩ := heo
      exact ⟨v, by rw [hbe]; exact hv⟩
    · refine (ok b u q).stay (fun c v hc r => k c v ?_ r) (fun c r => by rw [upd_ne (nown c b r)]; exact r) fun c xs r => by rw [upd_ne (ntup c xs r)]; exact r
      rcases hc with rfl | hc
      · exact hbe
      · rintro rfl
        rcases he with z | z
        · exact nown c b hc z
        · rw [hc] at z; cases z; exact hb rfl
end

/-! ### kept unless tracked; of the frames at fs (the callers') the slots may change (an exception that passes writes there); of the records at ex (iterators) nothing is said -/
structure Un (fs ex : List Addr) (H H' : Hp) (h h' : Heap) : Prop where
  keep : ∀ b o, h.get? b = some o → H b = none → b ∉ fs → b ∉ ex → h'.get? b = some o
  slot : ∀ b o, h.get? b = some o → H b = none → b ∈ fs → b ∉ ex → ∃ sl, h'.get? b = some { o with slots := sl }
  free : ∀ b o, h.get? b = some o → H b = none → b ∉ ex → H' b = none
  there : ∀ b o, h.get? b = some o → b ∉ ex → ∃ o', h'.get? b = some o'
  tups : ∀ b xs, H b = some (.tup xs) → H' b = some (.tup xs)
  frzs : ∀ b o u, H b = some (.frz o u) → H' b = some (.frz o u)
  tbls : ∀ b ps, H b = some (.tbl ps) → ∃ more, H' b = some (.tbl (ps ++ more))
section
variable {fs fs' ex ex' : List Addr} {H H1 H2 : Hp} {h h1 h2 h' : Heap} {a x e : Addr} {o : HO}
theorem Un.any (u : Un fs ex H H1 h h1) {b : Addr} {ob : Obj} (q : h.get? b = some ob) (n : H b = none) (hx : b ∉ ex) : ∃ sl, h1.get? b = some { ob with slots := sl } := by
  by_cases hb : b ∈ fs
  · exact u.slot b ob q n hb hx
  · exact ⟨ob.slots, u.keep b ob q n hb hx⟩
theorem Un.trans (a : Un fs ex H H1 h h1) (b : Un fs ex H1 H2 h1 h2) : Un fs ex H H2 h h2 where
  keep := fun c ob q n hc hx => b.keep c ob (a.keep c ob q n hc hx) (a.free c ob q n hx) hc hx
  slot := fun c ob q n hc hx => by
    obtain ⟨sl, e1⟩ := a.slot c ob q n hc hx
    obtain ⟨sl', e2⟩ := b.slot c _ e1 (a.free c ob q n hx) hc hx
    exact ⟨sl', e2⟩
  free := fun c ob q n hx => by
    obtain ⟨o', e1⟩ := a.there c ob q hx
    exact b.free c o' e1 (a.free c ob q n hx) hx
  there := fun c ob q hx => by
    obtain ⟨o', e1⟩ := a.there c ob q hx
    exact b.there c o' e1 hx
  tups := fun c xs q => b.tups c xs (a.tups c xs q)
  frzs := fun c ob xs q => b.frzs c ob xs (a.frzs c ob xs q)
  tbls := fun c ps q => by
    obtain ⟨m1, e1⟩ := a.tbls c ps q
    obtain ⟨m2, e2⟩ := b.tbls c _ e1
    exact ⟨m1 ++ m2, by rw [e2, Array.append_assoc]⟩
theorem Un.kept (k : ∀ b u, h.get? b = some u → h'.get? b = some u) : Un fs ex H H h h' :=
  ⟨fun b ob q _ _ _ => k b ob q, fun b ob q _ _ _ => ⟨ob.slots, k b ob q⟩, fun _ _ _ n _ => n, fun b ob q _ => ⟨ob, k b ob q⟩, fun _ _ q => q, fun _ _ _ q => q, fun _ ps q => ⟨#[], by rw [q]; simp⟩⟩
theorem Un.refl : Un fs ex H H h h := Un.kept fun _ _ q => q
theorem Un.laid (k : ∀ b u, h.get? b = some u → h'.get? b = some u) (hp : h.objs.size ≤ a) (hn : H a = none) : Un fs ex H (upd H a o) h h' where
  keep := fun b u q _ _ _ => k b u q
  slot := fun b u q _ _ _ => ⟨u.slots, k b u q⟩
  free := fun b u q n _ => by rw [upd_ne (Nat.ne_of_lt (Nat.lt_of_lt_of_le (Heap.lt_size q) hp))]; exact n
  there := fun b u q _ => ⟨u, k b u q⟩
  tups := fun b xs q => by rw [upd_ne (ne_of_none q hn)]; exact q
  frzs := fun b u xs q => by rw [upd_ne (ne_of_none q hn)]; exact q
  tbls := fun b ps q => ⟨#[], by rw [upd_ne (ne_of_none q hn), q]; simp⟩
theorem Un.write (mu : Mut (H x)) (he : e = x ∨ H e = some (.own x)) (k : ∀ b u, b ≠ e → h.get? b = some u → h'.get? b = some u) (heo : ∃ u, h'.get? e = some u) : Un fs ex H (upd H x o) h h' := by
  have hx : ∀ b, H b = none → b ≠ x := fun b n z => by subst z; rw [n] at mu; exact mu
  have hb : ∀ b, H b = none → b ≠ e := fun b n z => by
    subst z
    rcases he with r | r
    · exact hx b n r
    · rw [n] at r; cases r
  have hm : ∀ b u, H b = some u → ¬ Mut (some u) → b ≠ x := fun b u q nm z => by subst z; rw [q] at mu; exact nm mu
  refine ⟨fun b u q n _ _ => k b u (hb b n) q, fun b u q n _ _ => ⟨u.slots, k b u (hb b n) q⟩, fun b u q n _ => by rw [upd_ne (hx b n)]; exact n, fun b u q _ => ?_,
    fun b xs q => by rw [upd_ne (hm b _ q fun z => z)]; exact q, fun b u xs q => by rw [upd_ne (hm b _ q fun z => z)]; exact q, fun b ps q => ⟨#[], by rw [upd_ne (hm b _ q fun z => z), q]; simp⟩⟩
  by_cases hbe : b = e
  · subst hbe; exact heo
  · exact ⟨u, k b u hbe q⟩
theorem Un.mono (u : Un fs ex H H1 h h1) (hs : ∀ b ∈ fs, b ∈ fs') (hx : ∀ b ∈ ex, b ∈ ex') : Un fs' ex' H H1 h h1 :=
  ⟨fun b ob q n hb he => u.keep b ob q n (fun z => hb (hs b z)) fun z => he (hx b z), fun _ _ q n _ he => u.any q n fun z => he (hx _ z), fun b ob q n he => u.free b ob q n fun z => he (hx b z), fun b ob q he => u.there b ob q fun z => he (hx b z), u.tups, u.frzs, u.tbls⟩
end

/-! ### the heap without what is tracked -/
def trk (h : Heap) (H : Hp) : List Addr := (List.range h.objs.size).filter fun a => (H a).isSome
def hidT (h : Heap) (H : Hp) : Heap := PySem.W.hideAll h (trk h H)
theorem hidT_size (h : Heap) (H : Hp) : (hidT h H).objs.size = h.objs.size := PySem.W.hideAll_size _ _
theorem hidT_get {h : Heap} {H : Hp} {b : Addr} {o : Obj} (e : h.get? b = some o) (n : H b = none) : (hidT h H).get? b = some o :=
  PySem.W.hideAll_get _ e fun hm => by
    have q : (H b).isSome = true := (List.mem_filter.mp hm).2
    rw [n] at q; simp at q
theorem of_hidT {h : Heap} {H : Hp} {b : Addr} {o : Obj} (e : (hidT h H).get? b = some o) : h.get? b = some o ∧ H b = none := by
  have e' : h.get? b = some o := PySem.W.of_hideAll (trk h H) e
  refine ⟨e', ?_⟩
  cases q : H b with
  | none => rfl
  | some x =>
    have hm : b ∈ trk h H := List.mem_filter.mpr ⟨List.mem_range.mpr (Heap.lt_size e'), by simp [q]⟩
    have z : (hidT h H).get? b = none := PySem.W.hideAll_none (trk h H) hm
    rw [z] at e; cases e

/-! ### OpenK's ledger, filled with every new object but one -/
def allNews (g h : Heap) (L : Addr) : List (Addr × Obj) := (List.range h.objs.size).filterMap fun a => if a = L ∨ (g.get? a).isSome = true then none else (h.get? a).map fun o => (a, o)
theorem mem_allNews {g h : Heap} {L a : Addr} {o : Obj} (h1 : a ≠ L) (h2 : g.get? a = none) (h3 : h.get? a = some o) : (a, o) ∈ allNews g h L :=
  List.mem_filterMap.mpr ⟨a, List.mem_range.mpr (Heap.lt_size h3), by simp [h1, h2, h3]⟩
theorem of_mem_allNews {g h : Heap} {L : Addr} {p : Addr × Obj} (hp : p ∈ allNews g h L) : p.1 ≠ L ∧ g.get? p.1 = none ∧ h.get? p.1 = some p.2 := by
  obtain ⟨b, _, e⟩ := List.mem_filterMap.mp hp
  split at e
  · cases e
  · rename_i hn
    cases q : h.get? b with
    | none => rw [q] at e; simp at e
    | some u =>
      rw [q] at e
      simp only [Option.map_some, Option.some.injEq] at e
      subst e
      refine ⟨fun z => hn (.inl z), ?_, q⟩
      show g.get? b = none
      cases r : g.get? b with
      | none => rfl
      | some v => exact (hn (.inr (by simp [r]))).elim
def rest (g h : Heap) (L d : Addr) : List (Addr × Obj) := (allNews g h L).filter fun p => decide (p.1 ≠ d)
theorem rest_ne {g h : Heap} {L d : Addr} : ∀ p ∈ rest g h L d, p.1 ≠ d := fun p hp => of_decide_eq_true (List.mem_filter.mp hp).2
theorem mem_rest {g h : Heap} {L d a : Addr} {o : Obj} (h1 : a ≠ L) (h2 : g.get? a = none) (h3 : h.get? a = some o) (h4 : a ≠ d) : (a, o) ∈ rest g h L d :=
  List.mem_filter.mpr ⟨mem_allNews h1 h2 h3, decide_eq_true h4⟩
theorem news_all {g h : Heap} {L : Addr} : News g L h (allNews g h L) := fun p hp => let ⟨a, b, c⟩ := of_mem_allNews hp; ⟨c, a, b⟩
theorem news_at {g h : Heap} {L d : Addr} {o : Obj} (h1 : d ≠ L) (h2 : g.get? d = none) (h3 : h.get? d = some o) : News g L h ((d, o) :: rest g h L d) := fun p hp => by
  rcases List.mem_cons.mp hp with rfl | hp
  · exact ⟨h3, h1, h2⟩
  · exact news_all p (List.mem_filter.mp hp).1
/-- behind a rule that changed d alone: all else but the frame is kept -/
theorem kept_of_news {g h h' : Heap} {L d : Addr} {m : Str → Option Value} (k : ∀ b o, g.get? b = some o → h.get? b = some o) (F : Fr g L h' m) (N : News g L h' (rest g h L d)) :
    ∀ b o, b ≠ L → b ≠ d → h.get? b = some o → h'.get? b = some o := fun b o h1 h2 e => by
  cases q : g.get? b with
  | some u =>
    have := k b u q
    rw [e] at this; cases this
    exact F.keep b _ q
  | none => exact (N (b, o) (mem_rest h1 q e h2)).1
end L2

namespace L2
open PySem PySem.Spec PyProof.Rows

/-- the module's facts, over the base: the heap at the law's entry without what is tracked there -/
structure Mod (K : PySem.W.Frag) (mg : Str → Option Value) (base : Heap) : Prop where
  kin : K.In base
  glob : base.Ns mainGlobals mg
  blt : ∃ mb, base.Ns builtinsNs mb ∧ ∀ x : Str, x ≠ "__name__" → mb x = bootBuiltins x
  nolimit : base.NoLimit

/-- the context: a def's body (or a comprehension's block) running. base: fixed through the whole law; s₀, H₀: the entry; outer: the frames whose slots others may change (a def's callers); stack: all frames that run;
   ex: iterators that were made ahead of the entry and are walked here (a comprehension's); fn: the names whose cells were made at the entry (a def: all; a comprehension's block: its own); calm: not within an except suite; pn: pins that every state bears; xe: what is wanted of an exception that leaves the code -/
structure Cx where
  prog : Program
  w : World
  K : PySem.W.Frag
  mg : Str → Option Value
  base : Heap
  A : Around
  N : List Str
  s₀ : Shared
  H₀ : Hp
  env : Env
  outer : List Env
  stack : List Env
  ex : List Addr
  fn : Str → Bool
  calm : Bool
  pn : List (Addr × Obj)
  xe : Value → Shared → Prop
/-- the callers' frames -/
def frs (l : List Env) : List Addr := l.filterMap (·.frame)
abbrev Cx.fs (X : Cx) : List Addr := frs X.outer

def Vis (sc : Scope) (x : Str) : Prop := sc.names.lookup x = some .local ∨ sc.names.lookup x = some .cell ∨ sc.names.lookup x = some .free
def Loc (sc : Scope) (x : Str) : Prop := sc.names.lookup x = some .local ∨ sc.names.lookup x = some .cell
def Look (env : Env) (h : Heap) (m : Str → Option Value) (x : Str) (u : Value) : Prop :=
  (env.kindOf x = some .local ∧ m x = some u) ∨ ((env.kindOf x = some .cell ∨ env.kindOf x = some .free) ∧ ∃ c, env.cells.lookup x = some c ∧ h.IsCell c (some u))

structure Cx.Ok (X : Cx) : Prop where
  mod : Mod X.K X.mg X.base
  kind : X.env.scope.kind = .function
  glob : X.env.globals = mainGlobals
  blt : X.env.builtins = builtinsNs
  above : X.s₀.heap.objs.size ≤ X.env.locals
  inj : ∀ x y c, X.env.cells.lookup x = some c → X.env.cells.lookup y = some c → x = y
  has : ∀ x, (X.env.kindOf x = some .cell ∨ X.env.kindOf x = some .free) → ∃ c, X.env.cells.lookup x = some c
  cab : ∀ x c, X.fn x = true → X.env.cells.lookup x = some c → X.s₀.heap.objs.size ≤ c
  hd : X.calm = true → X.A.handled = none
  frames : X.A.frames = some X.stack
  stk : X.stack = X.outer ∨ (X.stack = X.env :: X.outer ∧ X.env.frame = some X.env.locals)
  exf : ∀ b ∈ X.ex, b ≠ X.env.locals ∧ ∀ x c, X.env.cells.lookup x = some c → c ≠ b
  bs : ∀ b o, X.base.get? b = some o → X.s₀.heap.get? b = some o ∧ X.H₀ b = none
  bsz : X.base.objs.size ≤ X.s₀.heap.objs.size
  noex : ∀ b o, X.base.get? b = some o → b ∉ X.ex
  exfs : ∀ b ∈ X.ex, b ∉ X.fs
  funs : X.s₀.heap.FunFrames X.base X.outer
  frf : ∀ b ∈ X.fs, X.H₀ b = none

structure Inv (X : Cx) (pins : List (Addr × Obj)) (σ : List (Option V)) (H : Hp) (s : Shared) : Prop where
  ok : X.Ok
  os : s.os = X.s₀.os
  bare : AllBare s.gens
  base : Un X.fs X.ex X.H₀ H X.s₀.heap s.heap
  loc : ∃ m, s.heap.Ns X.env.locals m ∧ ∀ (i : Nat) (x : Str) (v : V), X.N[i]? = some x → σ[i]? = some (some v) → Vis X.env.scope x → ∃ u, RelV v u ∧ Look X.env s.heap m x u
  cell : ∀ x c, X.env.cells.lookup x = some c → ∃ v, s.heap.IsCell c v
  free : H X.env.locals = none
  freeC : ∀ x c, X.env.cells.lookup x = some c → H c = none
  pin : ∀ p ∈ X.pn ++ pins, s.heap.get? p.1 = some p.2 ∧ H p.1 = none ∧ p.1 ≠ X.env.locals ∧ p.1 ∉ X.fs ∧ ∀ v, p.2.data ≠ .cell v
  hok : HOk X.prog X.w H s.heap
  len : σ.length = X.N.length

section
variable {X : Cx} {pins : List (Addr × Obj)} {σ : List (Option V)} {H H' : Hp} {s : Shared} {h' : Heap}

theorem Cx.Ok.nofr (ok : X.Ok) {b : Addr} {o : Obj} (e : X.base.get? b = some o) : b ∉ X.fs := fun hb => by
  have := (ok.funs.mem hb).1
  rw [e] at this; cases this
theorem Inv.bs (I : Inv X pins σ H s) : ∀ b o, X.base.get? b = some o → s.heap.get? b = some o ∧ H b = none := fun b o e =>
  ⟨I.base.keep b o (I.ok.bs b o e).1 (I.ok.bs b o e).2 (I.ok.nofr e) (I.ok.noex b o e), I.base.free b o (I.ok.bs b o e).1 (I.ok.bs b o e).2 (I.ok.noex b o e)⟩
theorem Inv.bk (I : Inv X pins σ H s) : ∀ b o, X.base.get? b = some o → s.heap.get? b = some o := fun b o e => (I.bs b o e).1
theorem Inv.mod (I : Inv X pins σ H s) : Mod X.K X.mg X.base := I.ok.mod
theorem Inv.kIn (I : Inv X pins σ H s) : X.K.In s.heap := I.ok.mod.kin.keeps I.bk
theorem Inv.nolimit (I : Inv X pins σ H s) : s.heap.NoLimit := I.ok.mod.nolimit.keeps I.bk
/-- the frame over the base: for OpenK's rules (K.In X.base is I.mod.kin) -/
theorem Inv.fr (I : Inv X pins σ H s) : ∃ m, Fr X.base X.env.locals s.heap m :=
  let ⟨m, hn, _⟩ := I.loc
  ⟨m, hn, I.bk, Nat.le_trans I.ok.bsz I.ok.above⟩
theorem Inv.lt (I : Inv X pins σ H s) : X.env.locals < s.heap.objs.size := let ⟨_, hn, _⟩ := I.loc; hn.lt
theorem Inv.sz (I : Inv X pins σ H s) : X.s₀.heap.objs.size ≤ s.heap.objs.size := Nat.le_trans I.ok.above (Nat.le_of_lt I.lt)
theorem Inv.nofs (I : Inv X pins σ H s) {a : Addr} (h : s.heap.objs.size ≤ a) : a ∉ X.fs := fun hb => by
  obtain ⟨_, o, ho, _⟩ := I.ok.funs.mem hb
  exact absurd (Nat.lt_of_lt_of_le (Heap.lt_size ho) (Nat.le_trans I.sz h)) (Nat.lt_irrefl _)
theorem Inv.cne (I : Inv X pins σ H s) : ∀ x c, X.env.cells.lookup x = some c → c ≠ X.env.locals := fun x c e z => by
  obtain ⟨v, o, ho, hd⟩ := I.cell x c e
  obtain ⟨m, ⟨o', es, ep, ho', hd', _⟩, _⟩ := I.loc
  rw [z, ho'] at ho; cases ho; rw [hd'] at hd; cases hd
theorem Inv.funs (I : Inv X pins σ H s) : s.heap.FunFrames X.base X.outer := by
  have all : ∀ (l : List Env), (∀ b ∈ frs l, b ∈ X.fs) → X.s₀.heap.FunFrames X.base l → s.heap.FunFrames X.base l := by
    intro l
    induction l with
    | nil => intro _ _; trivial
    | cons env r ih =>
      intro hs hl
      obtain ⟨hk, ⟨L, o, hf, hn, ho, hd⟩, hr⟩ := hl
      have hL : L ∈ X.fs := hs L (by unfold frs; rw [List.filterMap_cons, hf]; exact List.mem_cons_self)
      obtain ⟨sl, e⟩ := I.base.slot L o ho (I.ok.frf L hL) hL fun z => I.ok.exfs L z hL
      exact ⟨hk, ⟨L, _, hf, hn, e, hd⟩, ih (fun b hb => hs b (by unfold frs; rw [List.filterMap_cons, hf]; exact List.mem_cons_of_mem _ hb)) hr⟩
  exact all X.outer (fun _ hb => hb) I.ok.funs

/-- the frames that run, for a call -/
theorem Inv.stack (I : Inv X pins σ H s) : s.heap.FunFrames X.base X.stack := by
  rcases I.ok.stk with e | ⟨e, hf⟩
  · rw [e]; exact I.funs
  · rw [e]
    obtain ⟨m, hn, _⟩ := I.loc
    refine .cons (by rw [I.ok.kind]; decide) hf hn ?_ I.funs
    exact Heap.get?_none_of_le (Nat.le_trans I.ok.bsz I.ok.above)
theorem Inv.stkSub (I : Inv X pins σ H s) : ∀ b ∈ frs X.stack, b ∈ X.env.locals :: X.fs := fun b hb => by
  rcases I.ok.stk with e | ⟨e, hf⟩
  · rw [e] at hb; exact List.mem_cons_of_mem _ hb
  · rw [e] at hb
    unfold frs at hb
    rw [List.filterMap_cons, hf] at hb
    exact hb
theorem Inv.stkFree (I : Inv X pins σ H s) : ∀ b ∈ frs X.stack, H b = none := fun b hb => by
  rcases List.mem_cons.mp (I.stkSub b hb) with e | hb
  · rw [e]; exact I.free
  · obtain ⟨_, o, ho, _⟩ := I.ok.funs.mem hb
    exact I.base.free b o ho (I.ok.frf b hb) fun z => I.ok.exfs b z hb

/-- THE STEP: the untracked objects but the frame and the records at ch are kept (the callers' frames up to slots), the frame's map is kept, the new abstract heap is held -/
theorem Inv.step {g' : Array GenState} {t' : Nat} {d' : Drawn} {ch : List Addr} (I : Inv X pins σ H s)
    (hch : ∀ b ∈ ch, (b ∈ X.ex ∨ X.s₀.heap.objs.size ≤ b) ∧ b ≠ X.env.locals ∧ (∀ x c, X.env.cells.lookup x = some c → c ≠ b) ∧ ∀ p ∈ X.pn ++ pins, p.1 ≠ b)
    (keep : ∀ b o, b ≠ X.env.locals → b ∉ X.fs → b ∉ ch → s.heap.get? b = some o → H b = none → h'.get? b = some o)
    (slot : ∀ b o, b ≠ X.env.locals → b ∈ X.fs → b ∉ ch → s.heap.get? b = some o → H b = none → ∃ sl, h'.get? b = some { o with slots := sl }) (free : ∀ b o, b ∉ ch → s.heap.get? b = some o → H b = none → H' b = none)
    (there : ∀ b o, b ∉ ch → s.heap.get? b = some o → ∃ o', h'.get? b = some o')
    (tups : ∀ b xs, H b = some (.tup xs) → H' b = some (.tup xs)) (frzs : ∀ b o u, H b = some (.frz o u) → H' b = some (.frz o u)) (tbls : ∀ b ps, H b = some (.tbl ps) → ∃ more, H' b = some (.tbl (ps ++ more)))
    (ns : ∀ m, s.heap.Ns X.env.locals m → h'.Ns X.env.locals m) (hok : HOk X.prog X.w H' h') (hg : AllBare g') :
    Inv X pins σ H' { s with heap := h', gens := g', drawn := d', toks := t' } := by
  have neL : ∀ b o, X.s₀.heap.get? b = some o → b ≠ X.env.locals := fun b o e => Nat.ne_of_lt (Nat.lt_of_lt_of_le (Heap.lt_size e) I.ok.above)
  have neC : ∀ b o, X.s₀.heap.get? b = some o → b ∉ X.ex → b ∉ ch := fun b o e hx hb => by
    rcases (hch b hb).1 with z | z
    · exact hx z
    · exact absurd (Nat.lt_of_lt_of_le (Heap.lt_size e) z) (Nat.lt_irrefl _)
  have cellK : ∀ x c, X.env.cells.lookup x = some c → ∀ v, s.heap.IsCell c v → h'.IsCell c v := fun x c e v ⟨o, ho, hd⟩ => by
    have nch : c ∉ ch := fun z => (hch c z).2.2.1 x c e rfl
    by_cases hc : c ∈ X.fs
    · obtain ⟨sl, q⟩ := slot c o (I.cne x c e) hc nch ho (I.freeC x c e)
      exact ⟨_, q, hd⟩
    · exact ⟨o, keep c o (I.cne x c e) hc nch ho (I.freeC x c e), hd⟩
  refine ⟨I.ok, I.os, hg, ⟨fun b o e n hb hx => ?_, fun b o e n hb hx => ?_, fun b o e n hx => ?_, fun b o e hx => ?_, fun b xs e => tups b xs (I.base.tups b xs e), fun b o xs e => frzs b o xs (I.base.frzs b o xs e), fun b ps e => ?_⟩, ?_, fun x c e => ?_, ?_, fun x c e => ?_, fun p hp => ?_, hok, I.len⟩
  · exact keep b o (neL b o e) hb (neC b o e hx) (I.base.keep b o e n hb hx) (I.base.free b o e n hx)
  · obtain ⟨sl, e1⟩ := I.base.slot b o e n hb hx
    obtain ⟨sl', e2⟩ := slot b _ (neL b o e) hb (neC b o e hx) e1 (I.base.free b o e n hx)
    exact ⟨sl', e2⟩
  · obtain ⟨o', e1⟩ := I.base.there b o e hx
    exact free b o' (neC b o e hx) e1 (I.base.free b o e n hx)
  · obtain ⟨o', e1⟩ := I.base.there b o e hx
    exact there b o' (neC b o e hx) e1
  · obtain ⟨m1, e1⟩ := I.base.tbls b ps e
    obtain ⟨m2, e2⟩ := tbls b _ e1
    exact ⟨m1 ++ m2, by rw [e2, Array.append_assoc]⟩
  · obtain ⟨m, hn, hl⟩ := I.loc
    refine ⟨m, ns m hn, fun i x v e1 e2 e3 => ?_⟩
    obtain ⟨u, r, l⟩ := hl i x v e1 e2 e3
    refine ⟨u, r, ?_⟩
    rcases l with l | ⟨k, c, e, z⟩
    · exact .inl l
    · exact .inr ⟨k, c, e, cellK x c e _ z⟩
  · obtain ⟨v, z⟩ := I.cell x c e
    exact ⟨v, cellK x c e v z⟩
  · obtain ⟨m, ⟨o, _, _, ho, _⟩, _⟩ := I.loc
    exact free _ o (fun z => (hch _ z).2.1 rfl) ho I.free
  · obtain ⟨v, o, ho, hd⟩ := I.cell x c e
    exact free c o (fun z => (hch c z).2.2.1 x c e rfl) ho (I.freeC x c e)
  · obtain ⟨e, n, ne, nf, d⟩ := I.pin p hp
    have nch : p.1 ∉ ch := fun z => (hch p.1 z).2.2.2 p hp rfl
    exact ⟨keep p.1 p.2 ne nf nch e n, free p.1 p.2 nch e n, ne, nf, d⟩
/-- .. where the frame's own object is kept too -/
theorem Inv.un {t' : Nat} (I : Inv X pins σ H s) (u : Un X.fs [] H H' s.heap h') (hok : HOk X.prog X.w H' h') : Inv X pins σ H' { s with heap := h', toks := t' } := by
  obtain ⟨m, ⟨o, es, ep, ho, r⟩, _⟩ := id I.loc
  obtain ⟨sl, hL⟩ := u.any ho I.free (by simp)
  exact I.step (g' := s.gens) (d' := s.drawn) (ch := []) (fun _ z => nomatch z) (fun b o _ hb _ e n => u.keep b o e n hb (by simp)) (fun b o _ hb _ e n => u.slot b o e n hb (by simp)) (fun b o _ e n => u.free b o e n (by simp)) (fun b o _ e => u.there b o e (by simp)) u.tups u.frzs u.tbls (fun m' hm => by
    obtain ⟨o', es', ep', ho', r'⟩ := hm
    rw [ho] at ho'; cases ho'
    exact ⟨_, es', ep', hL, r'⟩) hok I.bare
/-- behind a call (or a comprehension's block): the slots of this frame may have changed too, the records at ch may have turned -/
theorem Inv.call {g' : Array GenState} {t' : Nat} {d' : Drawn} {ch : List Addr} (I : Inv X pins σ H s) (u : Un (frs X.stack) ch H H' s.heap h') (hok : HOk X.prog X.w H' h') (hg : AllBare g')
    (hch : ∀ b ∈ ch, (b ∈ X.ex ∨ X.s₀.heap.objs.size ≤ b) ∧ b ≠ X.env.locals ∧ (∀ x c, X.env.cells.lookup x = some c → c ≠ b) ∧ ∀ p ∈ X.pn ++ pins, p.1 ≠ b) :
    Inv X pins σ H' { s with heap := h', gens := g', drawn := d', toks := t' } := by
  obtain ⟨m, ⟨o, es, ep, ho, r⟩, _⟩ := id I.loc
  obtain ⟨sl, hL⟩ := u.any ho I.free fun z => (hch _ z).2.1 rfl
  exact I.step (ch := ch) hch (fun b o hL hb hc e n => u.keep b o e n (fun z => (List.mem_cons.mp (I.stkSub b z)).elim hL hb) hc) (fun b o _ _ hc e n => u.any e n hc) (fun b o hc e n => u.free b o e n hc) (fun b o hc e => u.there b o e hc) u.tups u.frzs u.tbls (fun m' hm => by
    obtain ⟨o', es', ep', ho', r'⟩ := hm
    rw [ho] at ho'; cases ho'
    exact ⟨_, es', ep', hL, r'⟩) hok hg
/-- an untracked record of ours (an iterator) has turned -/
theorem Inv.turned {t' : Nat} {it : Addr} (I : Inv X pins σ H s) (k : ∀ b o, b ≠ it → s.heap.get? b = some o → h'.get? b = some o) (hn : H it = none) (hL : it ≠ X.env.locals)
    (h1 : it ∈ X.ex ∨ X.s₀.heap.objs.size ≤ it) (h2 : ∀ x c, X.env.cells.lookup x = some c → c ≠ it) (h3 : ∀ p ∈ X.pn ++ pins, p.1 ≠ it) : Inv X pins σ H { s with heap := h', toks := t' } := by
  have nit : ∀ b u, H b = some u → b ≠ it := fun b u e z => by rw [z, hn] at e; cases e
  refine I.step (g' := s.gens) (d' := s.drawn) (ch := [it]) (fun b hb => ?_) (fun b o _ _ hc e _ => k b o (fun z => hc (by simp [z])) e) (fun b o _ _ hc e _ => ⟨o.slots, k b o (fun z => hc (by simp [z])) e⟩) (fun _ _ _ _ n => n)
    (fun b o hc e => ⟨o, k b o (fun z => hc (by simp [z])) e⟩) (fun _ _ e => e) (fun _ _ _ e => e) (fun b ps e => ⟨#[], by rw [e]; simp⟩) (fun m hm => ?_) (fun b u e => ?_) I.bare
  · have e : b = it := by simpa using hb
    subst e
    exact ⟨h1, hL, h2, h3⟩
  · obtain ⟨o, es, ep, ho, r⟩ := hm
    exact ⟨o, es, ep, k _ o (Ne.symm hL) ho, r⟩
  · refine (I.hok b u e).stay (fun c v hc q => k c v ?_ q) (fun _ q => q) fun _ _ q => q
    rcases hc with z | z
    · rw [z]; exact nit b u e
    · exact nit c _ z
theorem Inv.tok (I : Inv X pins σ H s) (t : Nat) : Inv X pins σ H { s with toks := t } := I.un (h' := s.heap) (t' := t) Un.refl I.hok
/-- all objects kept -/
theorem Inv.kept {t' : Nat} (I : Inv X pins σ H s) (k : ∀ b u, s.heap.get? b = some u → h'.get? b = some u) : Inv X pins σ H { s with heap := h', toks := t' } := I.un (Un.kept k) (I.hok.kept k)
/-- a new object laid and tracked -/
theorem Inv.laid {a : Addr} {o : HO} {t' : Nat} (I : Inv X pins σ H s) (k : ∀ b u, s.heap.get? b = some u → h'.get? b = some u) (hp : s.heap.objs.size ≤ a) (new : ObjOk X.prog X.w (upd H a o) h' a o) :
    Inv X pins σ (upd H a o) { s with heap := h', toks := t' } := I.un (Un.laid k hp (I.hok.fresh hp)) (I.hok.laid k hp new)
/-- an object written -/
theorem Inv.write {x e : Addr} {o : HO} {t' : Nat} (I : Inv X pins σ H s) (mu : Mut (H x)) (he : e = x ∨ H e = some (.own x)) (k : ∀ b u, b ≠ e → s.heap.get? b = some u → h'.get? b = some u) (heo : ∃ u, h'.get? e = some u)
    (new : ObjOk X.prog X.w (upd H x o) h' x o) : Inv X pins σ (upd H x o) { s with heap := h', toks := t' } := I.un (Un.write mu he k heo) (I.hok.write mu he k heo new)
/-- forgetting slots, pins -/
theorem Inv.weak {σ' : List (Option V)} (I : Inv X pins σ H s) (hl : σ'.length = σ.length) (w : ∀ (i : Nat) v, σ'[i]? = some (some v) → σ[i]? = some (some v)) : Inv X pins σ' H s :=
  ⟨I.ok, I.os, I.bare, I.base, let ⟨m, hn, hl'⟩ := I.loc; ⟨m, hn, fun i x v e1 e2 e3 => hl' i x v e1 (w i v e2) e3⟩, I.cell, I.free, I.freeC, I.pin, I.hok, hl.trans I.len⟩
theorem Inv.pins_of {pins' : List (Addr × Obj)} (I : Inv X pins σ H s) (h : ∀ p ∈ pins', s.heap.get? p.1 = some p.2 ∧ H p.1 = none ∧ p.1 ≠ X.env.locals ∧ p.1 ∉ X.fs ∧ ∀ v, p.2.data ≠ .cell v) : Inv X pins' σ H s :=
  ⟨I.ok, I.os, I.bare, I.base, I.loc, I.cell, I.free, I.freeC, fun p hp => (List.mem_append.mp hp).elim (fun z => I.pin p (List.mem_append_left _ z)) (h p), I.hok, I.len⟩

theorem nodup_ix {N : List Str} (hN : N.Nodup) {i j : Nat} {x : Str} (a : N[i]? = some x) (b : N[j]? = some x) : i = j := by
  obtain ⟨h1, e1⟩ := List.getElem?_eq_some_iff.mp a
  obtain ⟨h2, e2⟩ := List.getElem?_eq_some_iff.mp b
  exact (List.getElem_inj hN).mp (e1.trans e2.symm)

/-- a name is stored; what changed -/
theorem store_ok2 {M : Model} {A : Around} {E : Value → Shared → Prop} {i : Nat} {x : Str} {v : V} {u : Value} {Q : Unit → Shared → Prop} (I : Inv X pins σ H s) (hN : X.N.Nodup) (hi : X.N[i]? = some x) (hx : Loc X.env.scope x) (r : RelV v u)
    (h : ∀ s', Inv X pins (σ.set i (some v)) H s' → (∃ a, Heap.SameBut a s.heap s'.heap ∧ (a = X.env.locals ∨ X.env.cells.lookup x = some a)) → Q () s') (hf : X.fn x = true ∨ X.env.scope.names.lookup x = some .local := by first | exact .inl rfl | exact .inr rfl | assumption) : wpAny M A (storeName X.env x u) Q E s := by
  obtain ⟨m, hn, hl⟩ := id I.loc
  have hcls : (X.env.scope.kind == .class || (X.env.scope.kind == .module && X.env.locals != X.env.globals)) = false := by rw [I.ok.kind]; rfl
  have hiσ : i < σ.length := by rw [I.len]; exact (List.getElem?_eq_some_iff.mp hi).1
  have cne := I.cne
  have tracked : ∀ {a : Addr} {h' : Heap}, (∃ o, s.heap.get? a = some o ∧ H a = none) → Heap.SameBut a s.heap h' → HOk X.prog X.w H h' := fun {a h'} ha hs b ob e => by
    obtain ⟨_, _, hfree⟩ := ha
    refine (I.hok b ob e).stay (fun c w' hc q => (hs.2 c ?_).trans q) (fun _ q => q) fun _ _ q => q
    rintro rfl
    rcases hc with rfl | hc
    · rw [hfree] at e; cases e
    · rw [hfree] at hc; cases hc
  rcases hx with hk | hk
  · refine wpAny_storeName_local hk hn (fun h' hn' hs => ?_) hcls
    obtain ⟨oL, _, _, hoL, _⟩ := id hn
    refine h _ ⟨I.ok, I.os, I.bare, ⟨fun b o e n hb hx => ?_, fun b o e n hb hx => ?_, I.base.free, fun b o e hx => ?_, I.base.tups, I.base.frzs, I.base.tbls⟩, ⟨_, hn', fun j y v' e1 e2 e3 => ?_⟩, fun y c e => ?_, I.free, I.freeC, fun p hp => ?_, tracked ⟨oL, hoL, I.free⟩ hs, by simpa using I.len⟩ ⟨_, hs, .inl rfl⟩
    · exact (hs.2 b (Nat.ne_of_lt (Nat.lt_of_lt_of_le (Heap.lt_size e) I.ok.above))).trans (I.base.keep b o e n hb hx)
    · obtain ⟨sl, e1⟩ := I.base.slot b o e n hb hx
      exact ⟨sl, (hs.2 b (Nat.ne_of_lt (Nat.lt_of_lt_of_le (Heap.lt_size e) I.ok.above))).trans e1⟩
    · obtain ⟨o', e1⟩ := I.base.there b o e hx
      exact ⟨o', (hs.2 b (Nat.ne_of_lt (Nat.lt_of_lt_of_le (Heap.lt_size e) I.ok.above))).trans e1⟩
    · by_cases hj : j = i
      · subst hj
        rw [hi] at e1; cases e1
        rw [List.getElem?_set_self hiσ] at e2
        cases e2
        exact ⟨u, r, .inl ⟨hk, by simp⟩⟩
      · rw [List.getElem?_set_ne (Ne.symm hj)] at e2
        obtain ⟨u', r', q⟩ := hl j y v' e1 e2 e3
        refine ⟨u', r', ?_⟩
        rcases q with ⟨k, e⟩ | ⟨k, c, e, z⟩
        · refine .inl ⟨k, ?_⟩
          have : y ≠ x := fun e => hj (nodup_ix hN e1 (e ▸ hi))
          simp [this, e]
        · exact .inr ⟨k, c, e, z.sameBut hs (cne y c e)⟩
    · obtain ⟨w', z⟩ := I.cell y c e
      exact ⟨w', z.sameBut hs (cne y c e)⟩
    · obtain ⟨e, n, ne, nf, d⟩ := I.pin p hp
      exact ⟨(hs.2 p.1 ne).trans e, n, ne, nf, d⟩
  · have hfn : X.fn x = true := by
      rcases hf with z | z
      · exact z
      · rw [z] at hk; cases hk
    obtain ⟨c, hc⟩ := I.ok.has x (.inl hk)
    obtain ⟨w', z⟩ := I.cell x c hc
    refine wpAny_storeName_cell I.ok.kind hk hc z (fun h' hc' hs => ?_)
    obtain ⟨oc, hoc, hocd⟩ := id z
    refine h { s with heap := h' } ⟨I.ok, I.os, I.bare, ⟨fun b o e n hb hx => ?_, fun b o e n hb hx => ?_, I.base.free, fun b o e hx => ?_, I.base.tups, I.base.frzs, I.base.tbls⟩, ⟨m, hn.sameBut hs (Ne.symm (cne x c hc)), fun j y v' e1 e2 e3 => ?_⟩, fun y c' e => ?_, I.free, I.freeC, fun p hp => ?_, tracked ⟨oc, hoc, I.freeC x c hc⟩ hs, by simpa using I.len⟩ ⟨c, hs, .inr hc⟩
    · exact (hs.2 b (Nat.ne_of_lt (Nat.lt_of_lt_of_le (Heap.lt_size e) (I.ok.cab x c hfn hc)))).trans (I.base.keep b o e n hb hx)
    · obtain ⟨sl, e1⟩ := I.base.slot b o e n hb hx
      exact ⟨sl, (hs.2 b (Nat.ne_of_lt (Nat.lt_of_lt_of_le (Heap.lt_size e) (I.ok.cab x c hfn hc)))).trans e1⟩
    · obtain ⟨o', e1⟩ := I.base.there b o e hx
      exact ⟨o', (hs.2 b (Nat.ne_of_lt (Nat.lt_of_lt_of_le (Heap.lt_size e) (I.ok.cab x c hfn hc)))).trans e1⟩
    · by_cases hj : j = i
      · subst hj
        rw [hi] at e1; cases e1
        rw [List.getElem?_set_self hiσ] at e2
        cases e2
        exact ⟨u, r, .inr ⟨.inl hk, c, hc, hc'⟩⟩
      · rw [List.getElem?_set_ne (Ne.symm hj)] at e2
        obtain ⟨u', r', q⟩ := hl j y v' e1 e2 e3
        refine ⟨u', r', ?_⟩
        rcases q with q | ⟨k, c', e, z'⟩
        · exact .inl q
        · refine .inr ⟨k, c', e, z'.sameBut hs ?_⟩
          rintro rfl
          exact hj (nodup_ix hN e1 (I.ok.inj _ _ _ e hc ▸ hi))
    · by_cases hcc : c' = c
      · subst hcc; exact ⟨_, hc'⟩
      · obtain ⟨w2, z2⟩ := I.cell y c' e
        exact ⟨w2, z2.sameBut hs hcc⟩
    · obtain ⟨e, n, ne, nf, d⟩ := I.pin p hp
      refine ⟨(hs.2 p.1 ?_).trans e, n, ne, nf, d⟩
      intro q
      rw [q, hoc] at e
      have q' : oc = p.2 := Option.some.inj e
      exact d w' (by rw [← q']; exact hocd)
theorem store_ok {M : Model} {A : Around} {E : Value → Shared → Prop} {i : Nat} {x : Str} {v : V} {u : Value} {Q : Unit → Shared → Prop} (I : Inv X pins σ H s) (hN : X.N.Nodup) (hi : X.N[i]? = some x) (hx : Loc X.env.scope x) (r : RelV v u)
    (h : ∀ s', Inv X pins (σ.set i (some v)) H s' → Q () s') (hf : X.fn x = true ∨ X.env.scope.names.lookup x = some .local := by first | exact .inl rfl | exact .inr rfl | assumption) : wpAny M A (storeName X.env x u) Q E s :=
  store_ok2 I hN hi hx r (fun s' I' _ => h s' I') hf
/-- behind a call or a block, the state as it is -/
theorem Inv.call' {s' : Shared} {ch : List Addr} (I : Inv X pins σ H s) (ho : s'.os = s.os) (u : Un (frs X.stack) ch H H' s.heap s'.heap) (hok : HOk X.prog X.w H' s'.heap) (hg : AllBare s'.gens)
    (hch : ∀ b ∈ ch, (b ∈ X.ex ∨ X.s₀.heap.objs.size ≤ b) ∧ b ≠ X.env.locals ∧ (∀ x c, X.env.cells.lookup x = some c → c ≠ b) ∧ ∀ p ∈ X.pn ++ pins, p.1 ≠ b) : Inv X pins σ H' s' := by
  obtain ⟨h', g', d', t', o'⟩ := s'
  have e : o' = s.os := ho
  subst e
  exact I.call (g' := g') (t' := t') (d' := d') u hok hg hch
end

/-! ### the judgements -/
/-- an exception: its class, its own dict's address (where it has one), the abstract heap behind it -/
abbrev XK := Value → Option Addr → Hp → Prop
abbrev St := List (Option V)
abbrev VK := V → Hp → Prop
/-- an expression's reading; a test's; an argument list's -/
abbrev TE := St → Hp → VK → Prop
abbrev TT := St → Hp → (Bool → Hp → Prop) → Prop
abbrev TA := St → Hp → (List V → Hp → Prop) → Prop
/-- what is wanted behind a statement -/
structure Ends where
  nx : St → Hp → Prop
  rt : VK
  bk : St → Hp → Prop := fun _ _ => False
  ct : St → Hp → Prop := fun _ _ => False
abbrev TS := Ends → St → Hp → Prop

def EP (X : Cx) (pins : List (Addr × Obj)) (σ : St) (Q : VK) (u : Value) (s' : Shared) : Prop := ∃ v H', Inv X pins σ H' s' ∧ RelV v u ∧ Q v H'
def TP (X : Cx) (pins : List (Addr × Obj)) (σ : St) (Q : Bool → Hp → Prop) (b : Bool) (s' : Shared) : Prop := ∃ H', Inv X pins σ H' s' ∧ Q b H'
def AP (X : Cx) (pins : List (Addr × Obj)) (σ : St) (Q : List V → Hp → Prop) (us : List Value) (s' : Shared) : Prop := ∃ vs H', Inv X pins σ H' s' ∧ Vals vs us ∧ Q vs H'
def SP (X : Cx) (pins : List (Addr × Obj)) (D : Ends) (f : Flow) (s' : Shared) : Prop :=
  match f with
  | .next => ∃ σ' H', Inv X pins σ' H' s' ∧ D.nx σ' H'
  | .brk => ∃ σ' H', Inv X pins σ' H' s' ∧ D.bk σ' H'
  | .cont => ∃ σ' H', Inv X pins σ' H' s' ∧ D.ct σ' H'
  | .ret u => ∃ v σ' H', Inv X pins σ' H' s' ∧ RelV v u ∧ D.rt v H'

def PE (X : Cx) (e : Expr) (t : TE) : Prop :=
  ∀ (pins : List (Addr × Obj)) (s : Shared) (σ : St) (H : Hp) (Q : VK), Inv X pins σ H s → t σ H Q → wpAny (model X.prog X.w) X.A (eval e X.env) (EP X pins σ Q) X.xe s
def PT (X : Cx) (e : Expr) (t : TT) : Prop :=
  ∀ (pins : List (Addr × Obj)) (s : Shared) (σ : St) (H : Hp) (Q : Bool → Hp → Prop), Inv X pins σ H s → t σ H Q → wpAny (model X.prog X.w) X.A (isTrue e X.env (eval e X.env)) (TP X pins σ Q) X.xe s
/-- a test whatever its 'whole' is (and, or) -/
def PW (X : Cx) (e : Expr) (t : TT) : Prop :=
  ∀ (whole : Sem Value) (pins : List (Addr × Obj)) (s : Shared) (σ : St) (H : Hp) (Q : Bool → Hp → Prop), Inv X pins σ H s → t σ H Q → wpAny (model X.prog X.w) X.A (isTrue e X.env whole) (TP X pins σ Q) X.xe s
theorem PW.pt {X : Cx} {e : Expr} {t : TT} (h : PW X e t) : PT X e t := h _
/-- an argument list (no star), from the left -/
def PA (X : Cx) (es : List Expr) (t : TA) : Prop :=
  ∀ (pos : Pos) (pins : List (Addr × Obj)) (s : Shared) (σ : St) (H : Hp) (Q : List V → Hp → Prop), Inv X pins σ H s → t σ H Q → wpAny (model X.prog X.w) X.A (spliced (backTo pos (starEach es X.env))) (AP X pins σ Q) X.xe s
def PS (X : Cx) (st : Stmt) (t : TS) : Prop :=
  ∀ (pins : List (Addr × Obj)) (s : Shared) (σ : St) (H : Hp) (D : Ends), Inv X pins σ H s → t D σ H → wpAny (model X.prog X.w) X.A (exec st X.env) (SP X pins D) X.xe s
def PSs (X : Cx) (st : List Stmt) (t : TS) : Prop :=
  ∀ (pins : List (Addr × Obj)) (s : Shared) (σ : St) (H : Hp) (D : Ends), Inv X pins σ H s → t D σ H → wpAny (model X.prog X.w) X.A (execs st X.env) (SP X pins D) X.xe s
/-- weaken the end -/
theorem thn {α : Type} {t : Sem α} {Q Q' : α → Shared → Prop} {M : Model} {A : Around} {E : Value → Shared → Prop} {s : Shared} (h : wpAny M A t Q E s) (hQ : ∀ a s, Q a s → Q' a s) : wpAny M A t Q' E s := wpAny_mono h hQ fun _ _ x => x
end L2

namespace L2
open PySem PySem.Spec PyProof.Rows
section
variable {X : Cx}

/-- two expressions in a row -/
theorem bin {a b : Expr} {ta tb : TE} (ha : PE X a ta) (hb : PE X b tb) {pins : List (Addr × Obj)} {s : Shared} {σ : St} {H : Hp} {R : V → V → Hp → Prop} (I : Inv X pins σ H s) (h : ta σ H fun x H1 => tb σ H1 fun y H2 => R x y H2)
    {α : Type} {Q : α → Shared → Prop} {f : Value → Value → Sem α}
    (hf : ∀ v u s2 x y H2, Inv X pins σ H2 s2 → RelV x v → RelV y u → R x y H2 → wpAny (model X.prog X.w) X.A (f v u) Q X.xe s2) :
    wpAny (model X.prog X.w) X.A (eval a X.env) (fun v s₁ => wpAny (model X.prog X.w) X.A (eval b X.env) (fun u s₂ => wpAny (model X.prog X.w) X.A (f v u) Q X.xe s₂) X.xe s₁) X.xe s := by
  refine thn (ha pins s σ H _ I h) fun v s1 ⟨x, H1, I1, r1, q1⟩ => ?_
  refine thn (hb pins s1 σ H1 _ I1 q1) fun u s2 ⟨y, H2, I2, r2, q2⟩ => ?_
  exact hf v u s2 x y H2 I2 r1 r2 q2

/-! ### names and constants -/
def tVar (i : Nat) : TE := fun σ H Q => ∃ v, σ[i]? = some (some v) ∧ Q v H
def tC (v : V) : TE := fun _ H Q => Q v H
theorem pe_var {i : Nat} {x : Str} {pos : Pos} (hN : X.N[i]? = some x) (hv : Vis X.env.scope x) (hd : (x == ("__debug__" : Str)) = false := by decide) (hcd : (x == ("__classdict__" : Str)) = false := by decide) : PE X (.Name x pos) (tVar i) := by
  intro pins s σ H Q I h
  obtain ⟨v, e, h⟩ := h
  obtain ⟨m, hn, hl⟩ := I.loc
  obtain ⟨u, r, l⟩ := hl i x v hN e hv
  have fin : EP X pins σ Q u s := ⟨v, H, I, r, h⟩
  rcases l with ⟨hk, hm⟩ | ⟨hk, c, hc, hcell⟩
  · exact wpAny_Name (wpAny_loadName_local I.ok.kind hk hn hm fin) hd
  · rcases hk with hk | hk
    · exact wpAny_Name (wpAny_loadName_cell I.ok.kind hk hc hcell fin) hd
    · exact wpAny_Name (wpAny_loadName_free I.ok.kind hk hc hcell fin hcd) hd
theorem pe_int {i j pos} : PE X (.Constant (.int i) j pos) (tC (.int i)) := fun _ _ _ H _ I h => wpAny_Constant_int ⟨.int i, H, I.tok _, ⟨_, rfl⟩, h⟩
theorem pe_bl {b j pos} : PE X (.Constant (.bool b) j pos) (tC (.bl b)) := fun _ _ _ H _ I h => Constant_bool ⟨.bl b, H, I, rfl, h⟩
theorem pe_non {j pos} : PE X (.Constant .none j pos) (tC .non) := fun _ _ _ H _ I h => Constant_none ⟨.non, H, I, rfl, h⟩
theorem pe_str {x j pos} : PE X (.Constant (.str x) j pos) (tC (.str x)) := fun _ _ _ H _ I h => Calls.Constant_str ⟨.str x, H, I.tok _, ⟨_, rfl⟩, h⟩

/-- a global name of the def -/
def Gl (X : Cx) (x : Str) : Prop := X.env.kindOf x = some .globalImplicit
theorem ld_glob {E : Value → Shared → Prop} {pins : List (Addr × Obj)} {s : Shared} {σ : St} {H : Hp} {x : Str} {u : Value} {pos : Pos} {Q : Value → Shared → Prop} (I : Inv X pins σ H s) (hg : Gl X x) (hm : X.mg x = some u) (h : Q u s)
    (hd : (x == ("__debug__" : Str)) = false := by decide) : wpAny (model X.prog X.w) X.A (eval (.Name x pos) X.env) Q E s :=
  Calls.Name_function_global I.ok.kind hg (Calls.loadGlobal_global (by rw [I.ok.glob]; exact I.mod.glob.keeps I.bk) hm h) hd
theorem ld_blt {E : Value → Shared → Prop} {pins : List (Addr × Obj)} {s : Shared} {σ : St} {H : Hp} {x : Str} {u : Value} {pos : Pos} {Q : Value → Shared → Prop} (I : Inv X pins σ H s) (hg : Gl X x) (hm : X.mg x = none) (hv : bootBuiltins x = some u) (h : Q u s)
    (hn : x ≠ "__name__" := by decide) (hd : (x == ("__debug__" : Str)) = false := by decide) : wpAny (model X.prog X.w) X.A (eval (.Name x pos) X.env) Q E s := by
  obtain ⟨mb, h1, h2⟩ := I.mod.blt
  exact Calls.Name_function_global I.ok.kind hg (Calls.loadGlobal_builtin (by rw [I.ok.glob]; exact I.mod.glob.keeps I.bk) hm (by rw [I.ok.blt]; exact h1.keeps I.bk) ((h2 x hn).trans hv) h) hd
/-- a module's constant, a class, a function, as a value -/
theorem pe_glob {x : Str} {v : V} {u : Value} {pos : Pos} (hg : Gl X x) (hm : X.mg x = some u) (r : RelV v u) (hd : (x == ("__debug__" : Str)) = false := by decide) : PE X (.Name x pos) (tC v) :=
  fun _ _ _ H _ I h => ld_glob I hg hm ⟨v, H, I, r, h⟩ hd
theorem pe_bltn {x : Str} {v : V} {u : Value} {pos : Pos} (hg : Gl X x) (hm : X.mg x = none) (hv : bootBuiltins x = some u) (r : RelV v u) (hn : x ≠ "__name__" := by decide) (hd : (x == ("__debug__" : Str)) = false := by decide) : PE X (.Name x pos) (tC v) :=
  fun _ _ _ H _ I h => ld_blt I hg hm hv ⟨v, H, I, r, h⟩ hn hd

/-! ### arithmetic -/
/-- two ints -/
def t2I (ta tb : TE) (k : Int → Int → Hp → Prop) : St → Hp → Prop := fun σ H => ta σ H fun x H1 => tb σ H1 fun y H2 => ∃ i j, x = .int i ∧ y = .int j ∧ k i j H2
def tAdd (ta tb : TE) : TE := fun σ H Q => t2I ta tb (fun i j H2 => Q (.int (i + j)) H2) σ H
def tSub (ta tb : TE) : TE := fun σ H Q => t2I ta tb (fun i j H2 => Q (.int (i - j)) H2) σ H
/-- the left factor below 2^64 -/
def tMul (ta tb : TE) : TE := fun σ H Q => t2I ta tb (fun i j H2 => (-(2 ^ 64) < i ∧ i < 2 ^ 64) ∧ Q (.int (i * j)) H2) σ H
variable {a b : Expr} {ta tb : TE} {pos : Pos}
theorem pe_add (ha : PE X a ta) (hb : PE X b tb) : PE X (.BinOp a .Add b pos) (tAdd ta tb) := by
  intro pins s σ H Q I h
  refine wpAny_BinOp (bin ha hb I h fun v u s2 x y H2 I2 rx ry q => ?_)
  obtain ⟨i, j, rfl, rfl, q⟩ := q
  obtain ⟨t, rfl⟩ := rx
  obtain ⟨t', rfl⟩ := ry
  exact add_int ⟨.int _, H2, I2.tok _, ⟨_, rfl⟩, q⟩
theorem pe_sub (ha : PE X a ta) (hb : PE X b tb) : PE X (.BinOp a .Sub b pos) (tSub ta tb) := by
  intro pins s σ H Q I h
  refine wpAny_BinOp (bin ha hb I h fun v u s2 x y H2 I2 rx ry q => ?_)
  obtain ⟨i, j, rfl, rfl, q⟩ := q
  obtain ⟨t, rfl⟩ := rx
  obtain ⟨t', rfl⟩ := ry
  exact sub_int ⟨.int _, H2, I2.tok _, ⟨_, rfl⟩, q⟩
theorem pe_mul (ha : PE X a ta) (hb : PE X b tb) : PE X (.BinOp a .Mult b pos) (tMul ta tb) := by
  intro pins s σ H Q I h
  refine wpAny_BinOp (bin ha hb I h fun v u s2 x y H2 I2 rx ry q => ?_)
  obtain ⟨i, j, rfl, rfl, ⟨q1, q2⟩, q⟩ := q
  obtain ⟨t, rfl⟩ := rx
  obtain ⟨t', rfl⟩ := ry
  exact mul_int ⟨.int _, H2, I2.tok _, ⟨_, rfl⟩, q⟩ (.of_left (intBits_le_64 q1 q2))

/-! ### comparisons -/
def PC (X : Cx) (op : CmpOp) (a b : Expr) (t : TE) : Prop :=
  ∀ (pins : List (Addr × Obj)) (s : Shared) (σ : St) (H : Hp) (Q : VK), Inv X pins σ H s → t σ H Q →
    wpAny (model X.prog X.w) X.A (eval a X.env) (fun v s₁ => wpAny (model X.prog X.w) X.A (eval b X.env) (fun u s₂ => wpAny (model X.prog X.w) X.A (compareOp op v u) (EP X pins σ Q) X.xe s₂) X.xe s₁) X.xe s
theorem nobehind (b : Expr) {op : CmpOp} (h : op ≠ .In) (h2 : op ≠ .NotIn) : behindInMarks op b = false := by
  have e1 : (op == CmpOp.In) = false := by cases op <;> first | rfl | exact absurd rfl h
  have e2 : (op == CmpOp.NotIn) = false := by cases op <;> first | rfl | exact absurd rfl h2
  cases b <;> simp [behindInMarks, e1, e2]
def tCmp (p : Int → Int → Bool) (ta tb : TE) : TE := fun σ H Q => t2I ta tb (fun i j H2 => Q (.bl (p i j)) H2) σ H
abbrev tLt : TE → TE → TE := tCmp fun i j => decide (i < j)
abbrev tLe : TE → TE → TE := tCmp fun i j => decide (i ≤ j)
abbrev tGt : TE → TE → TE := tCmp fun i j => decide (j < i)
abbrev tGe : TE → TE → TE := tCmp fun i j => decide (j ≤ i)
abbrev tEqI : TE → TE → TE := tCmp fun i j => decide (i = j)
abbrev tNeI : TE → TE → TE := tCmp fun i j => !decide (i = j)
/-- a comparison of two ints, by its rule -/
theorem pc_int {op : CmpOp} {p : Int → Int → Bool} (ha : PE X a ta) (hb : PE X b tb)
    (rule : ∀ (i j : Int) (t u : Tok) (Q : Value → Shared → Prop) (s : Shared), Q (.bool (p i j)) s → wpAny (model X.prog X.w) X.A (compareOp op (.int i t) (.int j u)) Q X.xe s) : PC X op a b (tCmp p ta tb) := by
  intro pins s σ H Q I h
  refine bin ha hb I h fun v u s2 x y H2 I2 rx ry q => ?_
  obtain ⟨i, j, rfl, rfl, q⟩ := q
  obtain ⟨t, rfl⟩ := rx
  obtain ⟨t', rfl⟩ := ry
  exact rule i j t t' _ s2 ⟨.bl _, H2, I2, rfl, q⟩
theorem pc_lt (ha : PE X a ta) (hb : PE X b tb) : PC X .Lt a b (tLt ta tb) := pc_int ha hb fun _ _ _ _ _ _ h => lt_int h
theorem pc_le (ha : PE X a ta) (hb : PE X b tb) : PC X .LtE a b (tLe ta tb) := pc_int ha hb fun _ _ _ _ _ _ h => le_int h
theorem pc_gt (ha : PE X a ta) (hb : PE X b tb) : PC X .Gt a b (tGt ta tb) := pc_int ha hb fun _ _ _ _ _ _ h => gt_int h
theorem pc_ge (ha : PE X a ta) (hb : PE X b tb) : PC X .GtE a b (tGe ta tb) := pc_int ha hb fun _ _ _ _ _ _ h => ge_int h
theorem pc_eqI (ha : PE X a ta) (hb : PE X b tb) : PC X .Eq a b (tEqI ta tb) := pc_int ha hb fun _ _ _ _ _ _ h => eq_int (by rw [Bool.beq_eq_decide_eq]; exact h)
theorem pc_neI (ha : PE X a ta) (hb : PE X b tb) : PC X .NotEq a b (tNeI ta tb) := pc_int ha hb fun _ _ _ _ _ _ h => ne_int (by rw [bne, Bool.beq_eq_decide_eq]; exact h)
/-- is None -/
def tIsN (ta : TE) : TE := fun σ H Q => ta σ H fun x H1 => Q (.bl (decide (x = .non))) H1
def tNotN (ta : TE) : TE := fun σ H Q => ta σ H fun x H1 => Q (.bl (!decide (x = .non))) H1
theorem RelV.none_iff {x : V} {v : Value} (r : RelV x v) : (v == Value.none) = decide (x = .non) := by
  cases x with
  | non => cases r; rfl
  | bl _ => cases r; rfl
  | int _ => obtain ⟨t, rfl⟩ := r; rfl
  | str _ => obtain ⟨t, rfl⟩ := r; rfl
  | byt _ => obtain ⟨t, rfl⟩ := r; rfl
  | flt _ => obtain ⟨t, rfl⟩ := r; rfl
  | ref _ => cases r; rfl
  | ty _ => cases r; rfl
theorem pc_isN {j pos'} (ha : PE X a ta) : PC X .Is a (.Constant .none j pos') (tIsN ta) := by
  intro pins s σ H Q I h
  refine thn (ha pins s σ H _ I h) fun v s1 ⟨x, H1, I1, r1, q1⟩ => ?_
  exact Constant_none (is_none_gen ⟨.bl _, H1, I1, by rw [r1.none_iff]; rfl, q1⟩)
theorem pc_notN {j pos'} (ha : PE X a ta) : PC X .IsNot a (.Constant .none j pos') (tNotN ta) := by
  intro pins s σ H Q I h
  refine thn (ha pins s σ H _ I h) fun v s1 ⟨x, H1, I1, r1, q1⟩ => ?_
  exact Constant_none (isnot_none_gen ⟨.bl _, H1, I1, by rw [r1.none_iff]; rfl, q1⟩)
/-- a comparison as a value, as a test -/
def tB (t : TE) : TT := fun σ H Q => t σ H fun x H1 => ∃ c, x = .bl c ∧ Q c H1
theorem pe_cmp {op : CmpOp} {t : TE} (h : PC X op a b t) (h1 : behindInMarks op b = false := by first | exact nobehind _ (by decide) (by decide) | rfl) : PE X (.Compare a [op] [b] pos) t := fun pins s σ H Q I hw => wpAny_Compare1 (h pins s σ H Q I hw) h1
theorem pt_cmp {op : CmpOp} {t : TE} (h : PC X op a b t) (h1 : behindInMarks op b = false := by first | exact nobehind _ (by decide) (by decide) | rfl) : PT X (.Compare a [op] [b] pos) (tB t) := by
  intro pins s σ H Q I hw
  refine wpAny_isTrue_Compare1 (thn (h pins s σ H _ I hw) fun v s1 h1 => thn h1 fun u s2 h2 => thn h2 fun c s3 ⟨x, H1, I1, r1, q1⟩ => ?_) h1
  obtain ⟨d, rfl, q⟩ := q1
  cases r1
  exact wpAny_truthy_bool ⟨H1, I1, q⟩
/-- an expression whose value is a bool, as a test -/
theorem pt_val {e : Expr} {t : TE} (h : PE X e t) (he : ∀ whole, isTrue e X.env whole = (do let v ← whole; standAt e.pos; holding [v] (truthy v)) := by intro _; rfl) : PT X e (tB t) := by
  intro pins s σ H Q I hw
  refine isTrue_plain (thn (h pins s σ H _ I hw) fun v s1 ⟨x, H1, I1, r1, q1⟩ => ?_) (he _)
  obtain ⟨d, rfl, q⟩ := q1
  cases r1
  exact wpAny_truthy_bool ⟨H1, I1, q⟩

/-! ### and, or, not -/
variable {tA tB' : TT} {rest : List Expr}
def tAnd (t u : TT) : TT := fun σ H Q => t σ H fun c H1 => if c = true then u σ H1 Q else Q false H1
def tOr (t u : TT) : TT := fun σ H Q => t σ H fun c H1 => if c = true then Q true H1 else u σ H1 Q
def tNot (t : TT) : TT := fun σ H Q => t σ H fun c H1 => Q (!c) H1
theorem pw_and1 (ha : PT X a tA) : PW X (.BoolOp .And [a] pos) tA := by
  intro wh pins s σ H Q I h
  refine isTrue_and (thn (ha pins s σ H Q I h) fun c s1 e => ?_)
  cases c with
  | true => exact isTrue_and_nil e
  | false => exact e
theorem pw_or1 (ha : PT X a tA) : PW X (.BoolOp .Or [a] pos) tA := by
  intro wh pins s σ H Q I h
  refine isTrue_or (thn (ha pins s σ H Q I h) fun c s1 e => ?_)
  cases c with
  | false => exact isTrue_or_nil e
  | true => exact e
theorem pw_and (ha : PT X a tA) (hb : PW X (.BoolOp .And (b :: rest) pos) tB') : PW X (.BoolOp .And (a :: b :: rest) pos) (tAnd tA tB') := by
  intro wh pins s σ H Q I h
  refine isTrue_and (thn (ha pins s σ H _ I h) fun c s1 ⟨H1, I1, q1⟩ => ?_)
  cases c with
  | true => exact hb wh pins s1 σ H1 Q I1 q1
  | false => exact ⟨H1, I1, q1⟩
theorem pw_or (ha : PT X a tA) (hb : PW X (.BoolOp .Or (b :: rest) pos) tB') : PW X (.BoolOp .Or (a :: b :: rest) pos) (tOr tA tB') := by
  intro wh pins s σ H Q I h
  refine isTrue_or (thn (ha pins s σ H _ I h) fun c s1 ⟨H1, I1, q1⟩ => ?_)
  cases c with
  | true => exact ⟨H1, I1, q1⟩
  | false => exact hb wh pins s1 σ H1 Q I1 q1
theorem pt_not (ha : PT X a tA) : PT X (.UnaryOp .Not a pos) (tNot tA) := by
  intro pins s σ H Q I h
  exact isTrue_not (ha pins s σ H (fun c H1 => Q (!c) H1) I h)
/-- .. as values (bools) -/
def tAndV (ta tb : TE) : TE := fun σ H Q => ta σ H fun x H1 => ∃ c, x = .bl c ∧ if c = true then tb σ H1 Q else Q (.bl false) H1
def tOrV (ta tb : TE) : TE := fun σ H Q => ta σ H fun x H1 => ∃ c, x = .bl c ∧ if c = true then Q (.bl true) H1 else tb σ H1 Q
def tNotV (ta : TE) : TE := fun σ H Q => ta σ H fun x H1 => ∃ c, x = .bl c ∧ Q (.bl (!c)) H1
theorem pe_one {op} {t : TE} (h : PE X a t) : PE X (.BoolOp op [a] pos) t := fun pins s σ H Q I hw => BoolOp_one (h pins s σ H Q I hw)
theorem pe_and (ha : PE X a ta) (hb : PE X (.BoolOp .And (b :: rest) pos) tb) : PE X (.BoolOp .And (a :: b :: rest) pos) (tAndV ta tb) := by
  intro pins s σ H Q I h
  refine BoolOp_and (thn (ha pins s σ H _ I h) fun v s1 ⟨x, H1, I1, r1, q1⟩ => ?_)
  obtain ⟨c, rfl, q1⟩ := q1
  cases r1
  refine wpAny_truthy_bool ?_
  cases c with
  | true => exact hb pins s1 σ H1 Q I1 q1
  | false => exact ⟨.bl false, H1, I1, rfl, q1⟩
theorem pe_or (ha : PE X a ta) (hb : PE X (.BoolOp .Or (b :: rest) pos) tb) : PE X (.BoolOp .Or (a :: b :: rest) pos) (tOrV ta tb) := by
  intro pins s σ H Q I h
  refine BoolOp_or (thn (ha pins s σ H _ I h) fun v s1 ⟨x, H1, I1, r1, q1⟩ => ?_)
  obtain ⟨c, rfl, q1⟩ := q1
  cases r1
  refine wpAny_truthy_bool ?_
  cases c with
  | false => exact hb pins s1 σ H1 Q I1 q1
  | true => exact ⟨.bl true, H1, I1, rfl, q1⟩
theorem pe_not (ha : PE X a ta) : PE X (.UnaryOp .Not a pos) (tNotV ta) := by
  intro pins s σ H Q I h
  refine UnaryOp_ (thn (ha pins s σ H _ I h) fun v s1 ⟨x, H1, I1, r1, q1⟩ => ?_)
  obtain ⟨c, rfl, q1⟩ := q1
  cases r1
  exact not_of (wpAny_truthy_bool ⟨.bl (!c), H1, I1, rfl, q1⟩)
/-- a if t else b -/
def tIf (t : TT) (ta tb : TE) : TE := fun σ H Q => t σ H fun c H1 => if c = true then ta σ H1 Q else tb σ H1 Q
theorem pe_ifExp {c : Expr} (hc : PT X c tA) (ha : PE X a ta) (hb : PE X b tb) : PE X (.IfExp c a b pos) (tIf tA ta tb) := by
  intro pins s σ H Q I h
  refine wpAny_IfExp (thn (hc pins s σ H _ I h) fun d s1 ⟨H1, I1, q1⟩ => ?_)
  cases d with
  | true => exact ha pins s1 σ H1 Q I1 q1
  | false => exact hb pins s1 σ H1 Q I1 q1
end
end L2

namespace L2
open PySem PySem.Spec PyProof.Rows

/-! ### a list, a tuple that is read: tracked, frozen, or an object of the module -/
def SqL (K : PySem.W.Frag) (H : Hp) (a : Addr) (xs : List V) : Prop :=
  Rd H a (.lst xs) ∨
    ∃ (o : Obj) (its : Array Value) (n : Nat), K.lookup a = some o ∧ o.cls = .type "list" ∧ o.dict = none ∧ o.data = .seq its n ∧ its.size ≤ sizeLine ∧ Vals xs its.toList
def SqT (K : PySem.W.Frag) (H : Hp) (a : Addr) (xs : List V) : Prop :=
  Rd H a (.tup xs) ∨
    ∃ (o : Obj) (its : Array Value) (n : Nat), K.lookup a = some o ∧ o.cls = .type "tuple" ∧ o.data = .seq its n ∧ its.size ≤ sizeLine ∧ Vals xs its.toList
def absV : Value → Option V
  | .none => some .non
  | .bool b => some (.bl b)
  | .int i _ => some (.int i)
  | .str x _ => some (.str x)
  | .bytes b _ => some (.byt b)
  | .float b _ => some (.flt b)
  | .ref a => some (.ref a)
  | .type n => some (.ty n)
  | _ => none
theorem RelV.abs {x : V} {u : Value} (r : RelV x u) : absV u = some x := by
  cases x with
  | non => cases r; rfl
  | bl _ => cases r; rfl
  | int _ => obtain ⟨t, rfl⟩ := r; rfl
  | str _ => obtain ⟨t, rfl⟩ := r; rfl
  | byt _ => obtain ⟨t, rfl⟩ := r; rfl
  | flt _ => obtain ⟨t, rfl⟩ := r; rfl
  | ref _ => cases r; rfl
  | ty _ => cases r; rfl
theorem RelV.inj {x y : V} {u : Value} (r : RelV x u) (q : RelV y u) : x = y := Option.some.inj (r.abs.symm.trans q.abs)
theorem Vals.inj : ∀ {xs ys : List V} {us : List Value}, Vals xs us → Vals ys us → xs = ys
  | _, _, _, .nil, .nil => rfl
  | _, _, _, .cons r t, .cons r' t' => by rw [r.inj r', Vals.inj t t']
section
variable {X : Cx} {pins : List (Addr × Obj)} {σ : St} {H : Hp} {s : Shared} {a : Addr} {xs ys : List V}
theorem SqL.of {K : PySem.W.Frag} (h : H a = some (.lst xs)) : SqL K H a xs := .inl (.inl h)
theorem SqT.of {K : PySem.W.Frag} (h : H a = some (.tup xs)) : SqT K H a xs := .inl (.inl h)
theorem Inv.list (I : Inv X pins σ H s) (h : SqL X.K H a xs) : ∃ its : List Value, Vals xs its ∧ PlainL s.heap a its.toArray ∧ xs.length ≤ sizeLine := by
  rcases h with h | ⟨o, its, n, hk, hc, hd, hs, hz, r⟩
  · obtain ⟨z, its, n, r, e⟩ := h.ok I.hok
    exact ⟨its, r, ⟨_, n, e, rfl, rfl, rfl⟩, z⟩
  · refine ⟨its.toList, r, ⟨o, n, I.kIn a o hk, hc, hd, by simpa using hs⟩, ?_⟩
    have e := r.length
    simp only [Array.length_toList] at e
    omega
theorem Inv.tuple (I : Inv X pins σ H s) (h : SqT X.K H a xs) : ∃ its : List Value, Vals xs its ∧ IsTup s.heap a its.toArray ∧ xs.length ≤ sizeLine := by
  rcases h with h | ⟨o, its, n, hk, hc, hs, hz, r⟩
  · obtain ⟨z, its, r, p⟩ := h.ok I.hok
    exact ⟨its, r, p, z⟩
  · refine ⟨its.toList, r, ⟨o, I.kIn a o hk, hc, n, by simpa using hs⟩, ?_⟩
    have e := r.length
    simp only [Array.length_toList] at e
    omega
theorem Inv.list_inj (I : Inv X pins σ H s) (h : SqL X.K H a xs) (h' : SqL X.K H a ys) : xs = ys := by
  obtain ⟨its, r, ⟨o, n, e, _, _, d⟩, _⟩ := I.list h
  obtain ⟨its', r', ⟨o', n', e', _, _, d'⟩, _⟩ := I.list h'
  rw [e] at e'; cases e'
  rw [d] at d'
  injection d' with d1 _
  have : its = its' := by simpa using congrArg Array.toList d1
  subst this
  exact r.inj r'
theorem Inv.tuple_inj (I : Inv X pins σ H s) (h : SqT X.K H a xs) (h' : SqT X.K H a ys) : xs = ys := by
  obtain ⟨its, r, ⟨o, e, _, n, d⟩, _⟩ := I.tuple h
  obtain ⟨its', r', ⟨o', e', _, n', d'⟩, _⟩ := I.tuple h'
  rw [e] at e'; cases e'
  rw [d] at d'
  injection d' with d1 _
  have : its = its' := by simpa using congrArg Array.toList d1
  subst this
  exact r.inj r'
end

/-! ### another wish about exceptions -/
abbrev Cx.wish (X : Cx) (E : Value → Shared → Prop) : Cx := { X with xe := E }
/-- no exception leaves -/
abbrev Cx.nox (X : Cx) : Cx := X.wish fun _ _ => False
theorem Cx.Ok.wish {X : Cx} (ok : X.Ok) (E : Value → Shared → Prop) : (X.wish E).Ok :=
  ⟨ok.mod, ok.kind, ok.glob, ok.blt, ok.above, ok.inj, ok.has, ok.cab, ok.hd, ok.frames, ok.stk, ok.exf, ok.bs, ok.bsz, ok.noex, ok.exfs, ok.funs, ok.frf⟩
theorem Cx.Ok.unwish {X : Cx} {E : Value → Shared → Prop} (ok : (X.wish E).Ok) : X.Ok :=
  ⟨ok.mod, ok.kind, ok.glob, ok.blt, ok.above, ok.inj, ok.has, ok.cab, ok.hd, ok.frames, ok.stk, ok.exf, ok.bs, ok.bsz, ok.noex, ok.exfs, ok.funs, ok.frf⟩
section
variable {X : Cx} {pins : List (Addr × Obj)} {σ : St} {H : Hp} {s : Shared} {E : Value → Shared → Prop}
theorem Inv.wish (I : Inv X pins σ H s) (E : Value → Shared → Prop) : Inv (X.wish E) pins σ H s := ⟨I.ok.wish E, I.os, I.bare, I.base, I.loc, I.cell, I.free, I.freeC, I.pin, I.hok, I.len⟩
theorem Inv.unwish (I : Inv (X.wish E) pins σ H s) : Inv X pins σ H s := ⟨I.ok.unwish, I.os, I.bare, I.base, I.loc, I.cell, I.free, I.freeC, I.pin, I.hok, I.len⟩
theorem SP.unwish {D : Ends} {f : Flow} {s' : Shared} (h : SP (X.wish E) pins D f s') : SP X pins D f s' := by
  cases f with
  | next => obtain ⟨σ', H', I, q⟩ := h; exact ⟨σ', H', I.unwish, q⟩
  | brk => obtain ⟨σ', H', I, q⟩ := h; exact ⟨σ', H', I.unwish, q⟩
  | cont => obtain ⟨σ', H', I, q⟩ := h; exact ⟨σ', H', I.unwish, q⟩
  | ret u => obtain ⟨v, σ', H', I, r, q⟩ := h; exact ⟨v, σ', H', I.unwish, r, q⟩
theorem PE.nox {e : Expr} {t : TE} (h : PE X.nox e t) : PE X e t := fun pins s σ H Q I hw =>
  wpAny_mono (h pins s σ H Q (I.wish _) hw) (fun _ _ ⟨v, H', I', r, q⟩ => ⟨v, H', I'.unwish, r, q⟩) fun _ _ z => False.elim z
theorem PT.nox {e : Expr} {t : TT} (h : PT X.nox e t) : PT X e t := fun pins s σ H Q I hw =>
  wpAny_mono (h pins s σ H Q (I.wish _) hw) (fun _ _ ⟨H', I', q⟩ => ⟨H', I'.unwish, q⟩) fun _ _ z => False.elim z
theorem PSs.nox {st : List Stmt} {t : TS} (h : PSs X.nox st t) : PSs X st t := fun pins s σ H D I hw =>
  wpAny_mono (h pins s σ H D (I.wish _) hw) (fun _ _ q => q.unwish) fun _ _ z => False.elim z
end

/-! ### blocks and small statements -/
section
variable {X : Cx} {st : Stmt} {rest : List Stmt} {t u : TS} {e : Expr} {te : TE} {pos : Pos}
def tNext : TS := fun D σ H => D.nx σ H
def tSeq (t u : TS) : TS := fun D σ H => t { D with nx := u D } σ H
theorem pss_nil : PSs X [] tNext := fun _ _ σ H _ I h => wpAny_execs_nil ⟨σ, H, I, h⟩
theorem pss_cons (h1 : PS X st t) (h2 : PSs X rest u) : PSs X (st :: rest) (tSeq t u) := by
  intro pins s σ H D I h
  refine wpAny_execs_cons (thn (h1 pins s σ H { D with nx := u D } I h) fun f s1 q => ?_)
  cases f with
  | next =>
    obtain ⟨σ', H', I', q⟩ := q
    exact h2 pins s1 σ' H' D I' q
  | ret v => exact q
  | brk => exact q
  | cont => exact q
theorem pss_one (h1 : PS X st t) : PSs X [st] t := by
  intro pins s σ H D I h
  refine wpAny_execs_cons (thn (h1 pins s σ H D I h) fun f s1 q => ?_)
  cases f with
  | next => exact wpAny_execs_nil q
  | ret v => exact q
  | brk => exact q
  | cont => exact q
def tBreak : TS := fun D σ H => D.bk σ H
def tCont : TS := fun D σ H => D.ct σ H
theorem ps_pass : PS X (.Pass pos) tNext := fun _ _ σ H _ I h => wpAny_Pass ⟨σ, H, I, h⟩
theorem ps_break : PS X (.Break pos) tBreak := fun _ _ σ H _ I h => wpAny_Break ⟨σ, H, I, h⟩
theorem ps_continue : PS X (.Continue pos) tCont := fun _ _ σ H _ I h => wpAny_Continue ⟨σ, H, I, h⟩
/-- in a def's body nothing is shown -/
theorem Inv.quiet {pins : List (Addr × Obj)} {σ : St} {H : Hp} {s : Shared} (I : Inv X pins σ H s) : interactive X.env = false := by simp [interactive, I.ok.kind]
/-- a docstring -/
theorem ps_doc {x j pos pos'} : PS X (.Expr (.Constant (.str x) j pos) pos') tNext := fun _ s σ H _ I h => wpAny_Expr (Calls.Constant_str (show SP X _ _ .next { s with toks := s.toks + 1 } from ⟨σ, H, I.tok _, h⟩)) I.quiet
/-- an expression whose value is dropped -/
def tDrop (te : TE) : TS := fun D σ H => te σ H fun _ H1 => D.nx σ H1
theorem ps_expr (he : PE X e te) (hs : swapsWith e none pos.line X.env = pure false := by rfl) : PS X (.Expr e pos) (tDrop te) := by
  intro pins s σ H D I h
  exact wpAny_Expr_any (thn (he pins s σ H _ I h) fun v s1 ⟨x, H1, I1, r1, q1⟩ => ⟨σ, H1, I1, q1⟩) I.quiet hs
def tRet (te : TE) : TS := fun D σ H => te σ H D.rt
theorem ps_ret (he : PE X e te) : PS X (.Return (some e) pos) (tRet te) := by
  intro pins s σ H D I h
  exact wpAny_Return_some (thn (he pins s σ H _ I h) fun v s1 ⟨x, H1, I1, r1, q1⟩ => ⟨x, σ, H1, I1, r1, q1⟩)
def tRetN : TS := fun D _ H => D.rt .non H
theorem ps_retN : PS X (.Return none pos) tRetN := fun _ _ σ H _ I h => wpAny_Return_none ⟨.non, σ, H, I, rfl, h⟩
def tIfS (c : TT) (t u : TS) : TS := fun D σ H => c σ H fun b H1 => if b = true then t D σ H1 else u D σ H1
theorem ps_if {c : Expr} {a b : List Stmt} {tc : TT} (hc : PT X c tc) (ha : PSs X a t) (hb : PSs X b u) : PS X (.If c a b pos) (tIfS tc t u) := by
  intro pins s σ H D I h
  refine wpAny_If (thn (hc pins s σ H _ I h) fun d s1 ⟨H1, I1, q1⟩ => ?_)
  cases d with
  | true => exact ha pins s1 σ H1 D I1 q1
  | false => exact hb pins s1 σ H1 D I1 q1
/-- code that the proof never comes to -/
def tNever : TS := fun _ _ _ => False
theorem ps_never : PS X st tNever := fun _ _ _ _ _ _ h => h.elim
theorem pss_never {sts : List Stmt} : PSs X sts tNever := fun _ _ _ _ _ _ h => h.elim
end

/-! ### targets -/
abbrev TG := V → St → Hp → (St → Hp → Prop) → Prop
abbrev TGs := List V → St → Hp → (St → Hp → Prop) → Prop
def PG (X : Cx) (target : Expr) (t : TG) : Prop :=
  ∀ (pins : List (Addr × Obj)) (s : Shared) (σ : St) (H : Hp) (v : V) (u : Value) (Q : St → Hp → Prop), Inv X pins σ H s → RelV v u → t v σ H Q →
    wpAny (model X.prog X.w) X.A (assign target X.env u) (fun _ s' => ∃ σ' H', Inv X pins σ' H' s' ∧ Q σ' H') X.xe s
/-- several targets, one after another -/
def PGs (X : Cx) (ts : List Expr) (t : TGs) : Prop :=
  ∀ (pins : List (Addr × Obj)) (s : Shared) (σ : St) (H : Hp) (vs : List V) (us : List Value) (Q : St → Hp → Prop), Inv X pins σ H s → Vals vs us → t vs σ H Q →
    wpAny (model X.prog X.w) X.A (assignInOrder ((assignEach ts X.env).map (·.2)) us) (fun _ s' => ∃ σ' H', Inv X pins σ' H' s' ∧ Q σ' H') X.xe s
/-- o[i] = v, by values -/
abbrev TSet := V → V → V → Hp → (Hp → Prop) → Prop
def PSet (X : Cx) (t : TSet) : Prop :=
  ∀ (pins : List (Addr × Obj)) (s : Shared) (σ : St) (H : Hp) (o i v : V) (ov iv u : Value) (Q : Hp → Prop), Inv X pins σ H s → RelV o ov → RelV i iv → RelV v u → t o i v H Q →
    wpAny (model X.prog X.w) X.A (setItem ov iv u) (fun _ s' => ∃ H', Inv X pins σ H' s' ∧ Q H') X.xe s
/-- a op= b, by values -/
abbrev TIp := V → V → Hp → VK → Prop
def PIp (X : Cx) (op : Operator) (t : TIp) : Prop :=
  ∀ (pins : List (Addr × Obj)) (s : Shared) (σ : St) (H : Hp) (x y : V) (v u : Value) (Q : VK), Inv X pins σ H s → RelV x v → RelV y u → t x y H Q →
    wpAny (model X.prog X.w) X.A (inplaceOp op v u) (EP X pins σ Q) X.xe s
section
variable {X : Cx} {pos : Pos}
def gName (i : Nat) : TG := fun v σ H Q => Q (σ.set i (some v)) H
theorem pg_name {i : Nat} {x : Str} (hN : X.N.Nodup) (hi : X.N[i]? = some x) (hx : Loc X.env.scope x) (hf : X.fn x = true ∨ X.env.scope.names.lookup x = some .local := by first | exact .inl rfl | exact .inr rfl | assumption) : PG X (.Name x pos) (gName i) := by
  intro pins s σ H v u Q I r h
  exact wpAny_assign_Name (store_ok I hN hi hx r (fun s' I' => ⟨_, H, I', h⟩) hf)
def gNil : TGs := fun vs σ H Q => vs = [] ∧ Q σ H
def gCons (t : TG) (u : TGs) : TGs := fun vs σ H Q => ∃ v r, vs = v :: r ∧ t v σ H fun σ' H' => u r σ' H' Q
theorem pgs_nil : PGs X [] gNil := by
  intro pins s σ H vs us Q I r h
  obtain ⟨e, h⟩ := h
  subst e
  cases r
  exact assignInOrder_nil ⟨σ, H, I, h⟩
theorem pgs_cons {e : Expr} {es : List Expr} {t : TG} {u : TGs} (h1 : PG X e t) (h2 : PGs X es u)
    (hs : (assignEach (e :: es) X.env).map (·.2) = assign e X.env :: (assignEach es X.env).map (·.2) := by rfl) : PGs X (e :: es) (gCons t u) := by
  intro pins s σ H vs us Q I r h
  obtain ⟨v, vr, e1, h⟩ := h
  subst e1
  cases r with
  | cons r rr =>
    rw [hs]
    refine assignInOrder_cons (thn (h1 pins s σ H _ _ _ I r h) fun _ s1 ⟨σ1, H1, I1, q1⟩ => ?_)
    exact h2 pins s1 σ1 H1 _ _ Q I1 rr q1
/-- (a, b, ..) = a tuple of that length -/
def gTup (K : PySem.W.Frag) (n : Nat) (t : TGs) : TG := fun v σ H Q => ∃ a xs, v = .ref a ∧ SqT K H a xs ∧ xs.length = n ∧ t xs σ H Q
theorem pg_tup {es : List Expr} {k : Nat} {t : TGs} {n : Nat} (hc : X.calm = true) (h : PGs X es t)
    (hn : (assignEach es X.env).length = n := by rfl) (hst : (assignEach es X.env).findIdx? (·.1) = none := by rfl) : PG X (.Tuple es k pos) (gTup X.K n t) := by
  intro pins s σ H v u Q I r hw
  obtain ⟨a, xs, e1, hq, hl, hw⟩ := hw
  subst e1
  cases r
  obtain ⟨its, rv, ht, hz⟩ := I.tuple hq
  refine assign_Tuple_tuple (I.ok.hd hc) ht (by simp [hn, ← hl, rv.length]) hst fun h' hx => ?_
  have I1 : Inv X pins σ H { s with heap := h' } := I.kept (t' := s.toks) fun b o e => hx b o (Nat.ne_of_lt (Heap.lt_size e)) e
  exact h pins _ σ H xs _ Q I1 (by simpa using rv) hw
/-- o[i] = .. -/
def gSub (to ti : TE) (t : TSet) : TG := fun v σ H Q => to σ H fun o H1 => ti σ H1 fun i H2 => t o i v H2 fun H3 => Q σ H3
theorem pg_sub {o i : Expr} {to ti : TE} {t : TSet} (ho : PE X o to) (hi : PE X i ti) (hs : PSet X t)
    (ha : ∀ v, assign (.Subscript o i pos) X.env v = (do
      let ov ← holding [v] (eval o X.env)
      let iv ← holding [v, ov] (eval i X.env)
      standAt pos
      holding [v, ov, iv] (setItem ov iv v)
      release [v, ov, iv] []) := by intro _; rfl) : PG X (.Subscript o i pos) (gSub to ti t) := by
  intro pins s σ H v u Q I r h
  rw [ha]
  refine wpAny_bind (wpAny_holding (thn (ho pins s σ H _ I h) fun ov s1 ⟨x, H1, I1, r1, q1⟩ => ?_))
  refine wpAny_bind (wpAny_holding (thn (hi pins s1 σ H1 _ I1 q1) fun iv s2 ⟨y, H2, I2, r2, q2⟩ => ?_))
  refine wpAny_bind (wpAny_standAt (wpAny_bind (wpAny_holding (thn (hs pins s2 σ H2 x y v ov iv u _ I2 r1 r2 r q2) fun _ s3 ⟨H3, I3, q3⟩ => ?_))))
  exact wpAny_release ⟨σ, H3, I3, q3⟩
/-- target = value -/
def tAsg (te : TE) (g : TG) : TS := fun D σ H => te σ H fun x H1 => g x σ H1 D.nx
theorem ps_asg {tg e : Expr} {te : TE} {g : TG} (he : PE X e te) (hg : PG X tg g) (hs : swapsWithSole [tg] e pos.line X.env = pure false := by rfl) (hw : swappedStores [tg] e X.env = pure none := by rfl)
    (h1 : (assignEach [tg] X.env).map (·.2) = [assign tg X.env] := by rfl) : PS X (.Assign [tg] e pos) (tAsg te g) := by
  intro pins s σ H D I h
  refine wpAny_Assign_stores (thn (he pins s σ H _ I h) fun v s1 ⟨x, H1, I1, r1, q1⟩ => ?_) hs hw
  rw [h1]
  exact thn (hg pins s1 σ H1 x v _ I1 r1 q1) fun _ s2 q => q
/-- name = value -/
theorem ps_set {i : Nat} {x : Str} {e : Expr} {te : TE} {pos' : Pos} (hN : X.N.Nodup) (hi : X.N[i]? = some x) (hx : Loc X.env.scope x) (he : PE X e te) (hs : swapsWith e (some (.Name x pos')) pos.line X.env = pure false := by rfl) (hf : X.fn x = true ∨ X.env.scope.names.lookup x = some .local := by first | exact .inl rfl | exact .inr rfl | assumption) :
    PS X (.Assign [.Name x pos'] e pos) (tAsg te (gName i)) := by
  intro pins s σ H D I h
  refine wpAny_Assign_Name (thn (he pins s σ H _ I h) fun v s1 ⟨y, H1, I1, r1, q1⟩ => ?_) hs
  exact store_ok I1 hN hi hx r1 (fun s2 I2 => ⟨_, H1, I2, q1⟩) hf
/-- a, b = x, y with plain local names: stored from the right; the pair itself is not tracked (the opening rows as in PyProof/Rows/TupAssign.lean:23) -/
def tPar (i j : Nat) (ta : TA) : TS := fun D σ H => ta σ H fun vs H1 => ∃ v w, vs = [v, w] ∧ D.nx ((σ.set i (some v)).set j (some w)) H1
theorem ps_par {i j : Nat} {x y : Str} {a b : Expr} {ta : TA} {px py pt : Pos} {kt k2 pt2} (hc : X.calm = true) (hN : X.N.Nodup) (hi : X.N[i]? = some x) (hj : X.N[j]? = some y) (hij : i ≠ j)
    (hx : X.env.scope.names.lookup x = some .local) (hy : X.env.scope.names.lookup y = some .local) (ha : PA X [a, b] ta)
    (hw : swappedStores [.Tuple [.Name x px, .Name y py] kt pt] (.Tuple [a, b] k2 pt2) X.env = pure (some [x, y]))
    (hs : swapsWithSole [.Tuple [.Name x px, .Name y py] kt pt] (.Tuple [a, b] k2 pt2) pos.line X.env = pure false := by rfl) :
    PS X (.Assign [.Tuple [.Name x px, .Name y py] kt pt] (.Tuple [a, b] k2 pt2) pos) (tPar i j ta) := by
  intro pins s σ H D I h
  rw [exec_Assign_arm]
  refine wpAny_bind (wpAny_standAt ?_)
  rw [hs]
  refine wpAny_bind (wpAny_pure ?_)
  rw [if_neg (by decide)]
  refine wpAny_bind (Tuple_ (thn (ha _ pins s σ H _ I h) fun us s1 ⟨vs, H1, I1, r1, q1⟩ => ?_))
  obtain ⟨v, w, e1, q1⟩ := q1
  subst e1
  obtain ⟨u1, u2, rfl, rv, rw'⟩ : ∃ u1 u2, us = [u1, u2] ∧ RelV v u1 ∧ RelV w u2 := by
    cases r1 with
    | cons p q =>
      cases q with
      | cons p' q' =>
        cases q'
        exact ⟨_, _, rfl, p, p'⟩
  refine wpAny_newObj_type ?_ (by show 2 ≤ sizeLine; decide)
  have I2 : Inv X pins σ H1 { s1 with heap := s1.heap.push { cls := .type "tuple", data := .seq [u1, u2].toArray } } := I1.kept (t' := s1.toks) fun b o e => Heap.get?_push_of_some _ e
  rw [hw]
  refine wpAny_bind (wpAny_pure ?_)
  show wpAny (model X.prog X.w) X.A (do rule "assign.swapped-stores"; let items ← unpackItems (.ref s1.heap.objs.size) 2 none; assignInOrder [fun v => bindName X.env y v, fun v => bindName X.env x v] items.reverse; pure Flow.next) _ _ _
  refine wpAny_bind (wpAny_rule (wpAny_bind (unpackItems_tuple (items := #[u1, u2]) (I.ok.hd hc) (IsTup.new s1.heap _) fun h' hx' => ?_)))
  have I3 := I2.kept (h' := h') (t' := s1.toks) fun b o e => hx' b o (Nat.ne_of_lt (Heap.lt_size e)) e
  show wpAny _ _ (assignInOrder [fun v => bindName X.env y v, fun v => bindName X.env x v] [u2, u1] >>= fun _ => pure Flow.next) _ _ _
  refine wpAny_bind (assignInOrder_cons (wpAny_bindName (store_ok I3 hN hj (.inl hy) rw' (fun s2 I4 => ?_) (.inr hy))))
  refine assignInOrder_cons (wpAny_bindName (store_ok I4 hN hi (.inl hx) rv (fun s3 I5 => assignInOrder_nil (wpAny_pure ?_)) (.inr hx)))
  rw [List.set_comm _ _ (Ne.symm hij)] at I5
  exact ⟨_, H1, I5, q1⟩
/-- name op= e -/
def tAug (i : Nat) (te : TE) (ti : TIp) : TS := fun D σ H => ∃ x, σ[i]? = some (some x) ∧ te σ H fun y H1 => ti x y H1 fun z H2 => D.nx (σ.set i (some z)) H2
theorem ps_aug {i : Nat} {x : Str} {e : Expr} {te : TE} {op : Operator} {ti : TIp} {pos' : Pos} (hN : X.N.Nodup) (hi : X.N[i]? = some x) (hx : Loc X.env.scope x) (he : PE X e te) (ho : PIp X op ti) (hf : X.fn x = true ∨ X.env.scope.names.lookup x = some .local := by first | exact .inl rfl | exact .inr rfl | assumption) :
    PS X (.AugAssign (.Name x pos') op e pos) (tAug i te ti) := by
  intro pins s σ H D I h
  obtain ⟨v, e1, h⟩ := h
  obtain ⟨m, hn, hl⟩ := I.loc
  have vis : Vis X.env.scope x := by rcases hx with k | k; exact .inl k; exact .inr (.inl k)
  obtain ⟨u, r, l⟩ := hl i x v hi e1 vis
  refine wpAny_AugAssign_Name ?_
  have go : wpAny (model X.prog X.w) X.A (eval e X.env) (fun w s₂ => wpAny (model X.prog X.w) X.A (inplaceOp op u w) (fun r s₃ => wpAny (model X.prog X.w) X.A (storeName X.env x r) (fun _ => SP X pins D .next) X.xe s₃) X.xe s₂) X.xe s := by
    refine thn (he pins s σ H _ I h) fun w s1 ⟨y, H1, I1, r1, q1⟩ => ?_
    refine thn (ho pins s1 σ H1 v y u w _ I1 r r1 q1) fun z s2 ⟨zv, H2, I2, r2, q2⟩ => ?_
    exact store_ok I2 hN hi hx r2 (fun s3 I3 => ⟨_, H2, I3, q2⟩) hf
  rcases l with ⟨hk, hm⟩ | ⟨hk, c, hc, hcell⟩
  · exact wpAny_loadName_local I.ok.kind hk hn hm go
  · rcases hk with hk | hk
    · exact wpAny_loadName_cell I.ok.kind hk hc hcell go
    · rcases hx with k | k
      · have : X.env.scope.names.lookup x = some .free := hk
        rw [k] at this; cases this
      · have : X.env.scope.names.lookup x = some .free := hk
        rw [k] at this; cases this
/-- o[i] op= e -/
def tAugS (to ti te : TE) (tget : V → V → Hp → VK → Prop) (tip : TIp) (tset : TSet) : TS := fun D σ H => to σ H fun o H1 => ti σ H1 fun i H2 => tget o i H2 fun x H3 => te σ H3 fun y H4 => tip x y H4 fun z H5 => tset o i z H5 fun H6 => D.nx σ H6
/-- o[i], by values -/
def PGet (X : Cx) (t : V → V → Hp → VK → Prop) : Prop :=
  ∀ (pins : List (Addr × Obj)) (s : Shared) (σ : St) (H : Hp) (o i : V) (ov iv : Value) (Q : VK), Inv X pins σ H s → RelV o ov → RelV i iv → t o i H Q →
    wpAny (model X.prog X.w) X.A (getItem ov iv) (EP X pins σ Q) X.xe s
theorem ps_augS {o i e : Expr} {to ti te : TE} {tget : V → V → Hp → VK → Prop} {tip : TIp} {tset : TSet} {op : Operator} {tpos : Pos} (ho : PE X o to) (hi : PE X i ti) (hg : PGet X tget) (he : PE X e te) (hp : PIp X op tip) (hs : PSet X tset)
    (ha : ∀ ov iv new, augStore i ov iv new = (do holding [new, ov, iv] (setItem ov iv new); release [new, ov, iv] []; pure .next) := by intros; rfl) : PS X (.AugAssign (.Subscript o i tpos) op e pos) (tAugS to ti te tget tip tset) := by
  intro pins s σ H D I h
  refine wpAny_AugAssign_SubscriptAny (thn (ho pins s σ H _ I h) fun ov s1 ⟨x1, H1, I1, r1, q1⟩ => ?_) ha
  refine thn (hi pins s1 σ H1 _ I1 q1) fun iv s2 ⟨x2, H2, I2, r2, q2⟩ => ?_
  refine thn (hg pins s2 σ H2 x1 x2 ov iv _ I2 r1 r2 q2) fun old s3 ⟨x3, H3, I3, r3, q3⟩ => ?_
  refine thn (he pins s3 σ H3 _ I3 q3) fun v s4 ⟨x4, H4, I4, r4, q4⟩ => ?_
  refine thn (hp pins s4 σ H4 x3 x4 old v _ I4 r3 r4 q4) fun new s5 ⟨x5, H5, I5, r5, q5⟩ => ?_
  exact thn (hs pins s5 σ H5 x1 x2 x5 ov iv new _ I5 r1 r2 r5 q5) fun _ s6 ⟨H6, I6, q6⟩ => ⟨σ, H6, I6, q6⟩
/-- ints -/
def ipI (f : Int → Int → Int) : TIp := fun x y H Q => ∃ i j, x = .int i ∧ y = .int j ∧ Q (.int (f i j)) H
theorem ip_add : PIp X .Add (ipI fun i j => i + j) := by
  intro pins s σ H x y v u Q I r1 r2 h
  obtain ⟨i, j, e1, e2, q⟩ := h
  subst e1; subst e2
  obtain ⟨t, rfl⟩ := r1
  obtain ⟨t', rfl⟩ := r2
  exact iadd_int ⟨.int _, H, I.tok _, ⟨_, rfl⟩, q⟩
theorem ip_sub : PIp X .Sub (ipI fun i j => i - j) := by
  intro pins s σ H x y v u Q I r1 r2 h
  obtain ⟨i, j, e1, e2, q⟩ := h
  subst e1; subst e2
  obtain ⟨t, rfl⟩ := r1
  obtain ⟨t', rfl⟩ := r2
  exact isub_int ⟨.int _, H, I.tok _, ⟨_, rfl⟩, q⟩
end

/-! ### while -/
section
variable {X : Cx} {pos : Pos}
/-- the invariant W with its measure -/
def tWhile (c : TT) (tb : TS) : TS := fun D σ H => ∃ W : Nat → St → Hp → Prop, (∃ m, W m σ H) ∧ ∀ m σ H, W m σ H →
  c σ H fun b H1 => if b = true then ∃ N : St → Hp → Prop, (∀ σ' H', N σ' H' → ∃ m', m' < m ∧ W m' σ' H') ∧ tb { D with nx := N, ct := N, bk := D.nx } σ H1 else D.nx σ H1
theorem ps_while {c : Expr} {body : List Stmt} {tc : TT} {tb : TS} (hp : PassesOwn (model X.prog X.w) X.A X.env X.xe) (hc : PT X c tc) (hb : PSs X body tb) : PS X (.While c body [] pos) (tWhile tc tb) := by
  intro pins s σ H D I h
  obtain ⟨W, ⟨m0, w0⟩, turn⟩ := h
  refine wpAny_While (codeAny_whileLoop (fun n s' => ∃ σ' H', Inv X pins σ' H' s' ∧ W n σ' H') ?_ m0 ⟨σ, H, I, w0⟩)
  rintro n s1 ⟨σ1, H1, I1, w1⟩
  refine wpAny_passesOwn hp (thn (hc pins s1 σ1 H1 _ I1 (turn n σ1 H1 w1)) fun b s2 ⟨H2, I2, q2⟩ => ?_)
  cases b with
  | true =>
    obtain ⟨N, hN, q2⟩ := q2
    rw [if_pos rfl]
    refine wpAny_passesOwn hp (thn (hb pins s2 σ1 H2 _ I2 q2) fun f s3 q3 => ?_)
    cases f with
    | next =>
      obtain ⟨σ3, H3, I3, n3⟩ := q3
      obtain ⟨m', hm, w3⟩ := hN σ3 H3 n3
      exact ⟨m', hm, σ3, H3, I3, w3⟩
    | cont =>
      obtain ⟨σ3, H3, I3, n3⟩ := q3
      obtain ⟨m', hm, w3⟩ := hN σ3 H3 n3
      exact ⟨m', hm, σ3, H3, I3, w3⟩
    | brk => exact q3
    | ret v => exact q3
  | false =>
    rw [if_neg Bool.false_ne_true]
    exact wpAny_execs_nil ⟨σ1, H2, I2, q2⟩
end

/-! ### what a loop or a comprehension walks -/
/-- at turn i: it yields x (the heap may grow), or it stops -/
structure It where
  go : Nat → Hp → Prop
  yld : Nat → Hp → V → Hp → Prop
  stop : Nat → Hp → Prop
/-- the iterator's own objects may turn: they are not the frame's, not pinned, younger than the entry (or a comprehension's own) -/
def FpOk (X : Cx) (pins : List (Addr × Obj)) (H : Hp) (b : Addr) : Prop :=
  H b = none ∧ b ≠ X.env.locals ∧ b ∉ X.fs ∧ (b ∈ X.ex ∨ X.s₀.heap.objs.size ≤ b) ∧ (∀ x c, X.env.cells.lookup x = some c → c ≠ b) ∧ ∀ p ∈ X.pn ++ pins, p.1 ≠ b
theorem Inv.fpOk {X : Cx} {pins : List (Addr × Obj)} {σ : St} {H H' : Hp} {s : Shared} {b : Addr} (I : Inv X pins σ H s) (hb : s.heap.objs.size ≤ b) (hn : H' b = none) : FpOk X pins H' b := by
  refine ⟨hn, Nat.ne_of_gt (Nat.lt_of_lt_of_le I.lt hb), I.nofs hb, .inr (Nat.le_trans I.sz hb), fun x c e z => ?_, fun p hp z => ?_⟩
  · obtain ⟨v, q⟩ := I.cell x c e
    exact absurd (Nat.lt_of_lt_of_le q.lt (by rw [z]; exact hb)) (Nat.lt_irrefl _)
  · exact absurd (Nat.lt_of_lt_of_le (Heap.lt_size (I.pin p hp).1) (by rw [z]; exact hb)) (Nat.lt_irrefl _)
structure Turn (P : Program) (w : World) (K : PySem.W.Frag) (tg : Expr) (J : It) (fp : List Addr) (it : Addr) (tn : Nat → Heap → Prop) : Prop where
  mem : it ∈ fp
  obj : ∀ i h, tn i h → ∀ b ∈ fp, ∃ o, h.get? b = some o ∧ ∀ v, o.data ≠ .cell v
  keep : ∀ i h h', tn i h → (∀ b ∈ fp, ∀ o, h.get? b = some o → h'.get? b = some o) → tn i h'
  item : ∀ (X : Cx), X.prog = P → X.w = w → X.K = K → X.calm = true → ∀ (i : Nat) (pins : List (Addr × Obj)) (s : Shared) (σ : St) (H : Hp) (E : Value → Shared → Prop), Inv X pins σ H s → (∀ b ∈ fp, FpOk X pins H b) → tn i s.heap → J.go i H →
    wpAny (model P w) X.A (pyNext (.ref it)) (fun r s1 => ∃ u, r = some u ∧
      wpAny (model P w) X.A (letOwnedTupleGo tg (.ref it) u) (fun _ s2 => ∃ x H', Inv X pins σ H' s2 ∧ RelV x u ∧ J.yld i H x H' ∧ tn (i + 1) s2.heap ∧ ∀ b ∈ fp, H' b = none) E s1) E s
  done : ∀ (X : Cx), X.prog = P → X.w = w → X.K = K → X.calm = true → ∀ (i : Nat) (pins : List (Addr × Obj)) (s : Shared) (σ : St) (H : Hp) (E : Value → Shared → Prop), Inv X pins σ H s → (∀ b ∈ fp, FpOk X pins H b) → tn i s.heap → J.stop i H →
    wpAny (model P w) X.A (pyNext (.ref it)) (fun r s1 => r = none ∧ Inv X pins σ H s1) E s
  self : ∀ (A : Around) (i : Nat) (s : Shared) (Q : Value → Shared → Prop) (E : Value → Shared → Prop), tn i s.heap → Q (.ref it) s → wpAny (model P w) A (pyIter (.ref it)) Q E s
abbrev TI := St → Hp → (It → Hp → Prop) → Prop
/-- an iterator has come -/
def PIE (X : Cx) (pins : List (Addr × Obj)) (σ : St) (tg : Expr) (R : It → Hp → Prop) (itv : Value) (s2 : Shared) : Prop :=
  ∃ (it : Addr) (fp : List Addr) (tn : Nat → Heap → Prop) (J : It) (H' : Hp), itv = .ref it ∧ Inv X pins σ H' s2 ∧ Turn X.prog X.w X.K tg J fp it tn ∧ tn 0 s2.heap ∧ (∀ b ∈ fp, FpOk X pins H' b) ∧ R J H'
def PI (X : Cx) (tg iter : Expr) (wi : TI) : Prop :=
  ∀ (pins : List (Addr × Obj)) (s : Shared) (σ : St) (H : Hp) (R : It → Hp → Prop), Inv X pins σ H s → wi σ H R →
    wpAny (model X.prog X.w) X.A (eval iter X.env) (fun v s1 => wpAny (model X.prog X.w) X.A (pyIter v) (PIE X pins σ tg R) X.xe s1) X.xe s

/-- the step ahead of the store is nothing for an iterator that keeps no tuple -/
theorem go_of {M : Model} {A : Around} {E : Value → Shared → Prop} {s : Shared} {tg : Expr} {it : Addr} {u : Value} {o : Obj} {n : String} {vs : Array Value} {Q : Unit → Shared → Prop} (ho : s.heap.get? it = some o) (hc : o.cls = .type n) (hd : o.data = .fields vs)
    (hn : ["enumerate", "zip", "dict_itemiterator", "dict_reverseitemiterator", "odict_iterator", "itertools.zip_longest", "itertools.pairwise"].contains n = false) (hQ : Q () s) : wpAny M A (letOwnedTupleGo tg (.ref it) u) Q E s := by
  unfold letOwnedTupleGo
  cases tg <;> first
    | exact wpAny_pure hQ
    | (cases u <;> first
        | exact wpAny_pure hQ
        | (refine wpAny_bind (wpAny_load ho ?_)
           rw [hc, hd]
           show wpAny M A (if (["enumerate", "zip", "dict_itemiterator", "dict_reverseitemiterator", "odict_iterator", "itertools.zip_longest", "itertools.pairwise"].contains n && vs[0]? == some (rawInt _)) = true then _ else _) Q E s
           rw [if_neg (by intro h; rw [hn, Bool.false_and] at h; cases h)]
           exact wpAny_pure hQ))

/-- the list at a, as it stands at each turn (a loop may append to it) -/
def Itl (K : PySem.W.Frag) (a : Addr) : It :=
  ⟨fun i H => ∃ xs x, SqL K H a xs ∧ xs[i]? = some x, fun i H x H' => H' = H ∧ ∀ xs, SqL K H a xs → xs[i]? = some x, fun i H => ∃ xs, SqL K H a xs ∧ xs.length ≤ i⟩
def Itt (K : PySem.W.Frag) (a : Addr) : It :=
  ⟨fun i H => ∃ xs x, SqT K H a xs ∧ xs[i]? = some x, fun i H x H' => H' = H ∧ ∀ xs, SqT K H a xs → xs[i]? = some x, fun i H => ∃ xs, SqT K H a xs ∧ xs.length ≤ i⟩
/-- lo, lo + 1, .. (n of them) -/
def Itr (lo : Int) (n : Nat) : It := ⟨fun i _ => i < n, fun i H x H' => H' = H ∧ x = .int (lo + i), fun i _ => n ≤ i⟩
theorem turn_list {P : Program} {w : World} {K : PySem.W.Frag} {tg : Expr} (a it : Addr) : Turn P w K tg (Itl K a) [it] it (fun i h => h.IsListIter it a i) where
  mem := by simp
  obj := fun i h st b hb => by
    have e : b = it := by simpa using hb
    subst e
    obtain ⟨o, e, c, d⟩ := st
    exact ⟨o, e, fun v z => by rw [d] at z; cases z⟩
  keep := fun i h h' st k => st.at fun o e => k it (by simp) o e
  item := by
    intro X hP hw hK hc i pins s σ H E I hf st hg
    subst hP hw hK
    obtain ⟨xs, x, hq, hx⟩ := hg
    obtain ⟨its, rv, p, hz⟩ := I.list hq
    obtain ⟨u, hu, ru⟩ := rv.get hx
    obtain ⟨f0, f1, f2, f3, f4, f5⟩ := hf it (by simp)
    refine wpAny_pyNext_list_item st p.isList (x := u) (by simpa using hu) fun h' st' sb => ?_
    have I1 : Inv X pins σ H { s with heap := h' } := I.turned (t' := s.toks) (fun b o hb e => (sb.2 b hb).trans e) f0 f1 f3 f4 f5
    obtain ⟨o, e, c, d⟩ := id st'
    exact ⟨u, rfl, go_of (s := { s with heap := h' }) e c d (by decide) ⟨x, H, I1, ru, ⟨rfl, fun ys hy => by rw [I.list_inj hy hq]; exact hx⟩, st', fun b hb => (hf b hb).1⟩⟩
  done := by
    intro X hP hw hK hc i pins s σ H E I hf st hg
    subst hP hw hK
    obtain ⟨xs, hq, hx⟩ := hg
    obtain ⟨its, rv, p, hz⟩ := I.list hq
    obtain ⟨f0, f1, f2, f3, f4, f5⟩ := hf it (by simp)
    have hl := rv.length
    exact wpAny_pyNext_list_end (I.ok.hd hc) st p.isList (by simp; omega) fun h' eb => ⟨rfl, I.turned (t' := s.toks) (fun b o hb e => eb b o hb e) f0 f1 f3 f4 f5⟩
  self := fun _ _ _ _ _ st h => wpAny_pyIter_listiter st h
theorem turn_tuple {P : Program} {w : World} {K : PySem.W.Frag} {tg : Expr} (a it : Addr) : Turn P w K tg (Itt K a) [it] it (fun i h => h.IsTupleIter it a i) where
  mem := by simp
  obj := fun i h st b hb => by
    have e : b = it := by simpa using hb
    subst e
    obtain ⟨o, e, c, d⟩ := st
    exact ⟨o, e, fun v z => by rw [d] at z; cases z⟩
  keep := fun i h h' st k => st.at fun o e => k it (by simp) o e
  item := by
    intro X hP hw hK hc i pins s σ H E I hf st hg
    subst hP hw hK
    obtain ⟨xs, x, hq, hx⟩ := hg
    obtain ⟨its, rv, p, hz⟩ := I.tuple hq
    obtain ⟨u, hu, ru⟩ := rv.get hx
    obtain ⟨f0, f1, f2, f3, f4, f5⟩ := hf it (by simp)
    refine wpAny_pyNext_tuple_item st (show s.heap.IsTuple a its.toArray from p) (x := u) (by simpa using hu) fun h' st' sb => ?_
    have I1 : Inv X pins σ H { s with heap := h' } := I.turned (t' := s.toks) (fun b o hb e => (sb.2 b hb).trans e) f0 f1 f3 f4 f5
    obtain ⟨o, e, c, d⟩ := id st'
    exact ⟨u, rfl, go_of (s := { s with heap := h' }) e c d (by decide) ⟨x, H, I1, ru, ⟨rfl, fun ys hy => by rw [I.tuple_inj hy hq]; exact hx⟩, st', fun b hb => (hf b hb).1⟩⟩
  done := by
    intro X hP hw hK hc i pins s σ H E I hf st hg
    subst hP hw hK
    obtain ⟨xs, hq, hx⟩ := hg
    obtain ⟨its, rv, p, hz⟩ := I.tuple hq
    obtain ⟨f0, f1, f2, f3, f4, f5⟩ := hf it (by simp)
    have hl := rv.length
    exact wpAny_pyNext_tuple_end (I.ok.hd hc) st (show s.heap.IsTuple a its.toArray from p) (by simp; omega) fun h' eb => ⟨rfl, I.turned (t' := s.toks) (fun b o hb e => eb b o hb e) f0 f1 f3 f4 f5⟩
  self := fun _ _ _ _ _ st h => wpAny_pyIter_tupleiter st h
theorem turn_range {P : Program} {w : World} {K : PySem.W.Frag} {tg : Expr} (it : Addr) (lo : Int) (n : Nat) : Turn P w K tg (Itr lo n) [it] it (fun i h => IsRangeIter h it (lo + (i : Nat) * 1) ((n : Int) - (i : Nat)) 1) where
  mem := by simp
  obj := fun i h st b hb => by
    have e : b = it := by simpa using hb
    subst e
    exact ⟨_, st, fun v z => by
      have z' : Data.fields _ = Data.cell v := z
      cases z'⟩
  keep := fun i h h' st k => k it (by simp) _ st
  item := by
    intro X hP hw hK hc i pins s σ H E I hf st hg
    subst hP hw hK
    obtain ⟨f0, f1, f2, f3, f4, f5⟩ := hf it (by simp)
    have W := Walks.range (prog := X.prog) (w := X.w) (I.ok.hd hc) it lo 1 n
    refine W.item i s _ _ hg st fun v h' tk hv st' kk => ?_
    obtain ⟨t, rfl⟩ := hv
    have I1 : Inv X pins σ H { s with heap := h', toks := tk } := I.turned (fun b o hb e => kk b o (by simpa using hb) e) f0 f1 f3 f4 f5
    refine ⟨_, rfl, go_of (s := { s with heap := h', toks := tk }) (n := "range_iterator") st' rfl rfl (by decide) ⟨.int (lo + i), H, I1, ⟨t, ?_⟩, ⟨rfl, rfl⟩, st', fun b hb => (hf b hb).1⟩⟩
    rw [Int.mul_one]
  done := by
    intro X hP hw hK hc i pins s σ H E I hf st hg
    subst hP hw hK
    obtain ⟨f0, f1, f2, f3, f4, f5⟩ := hf it (by simp)
    exact wpAny_pyNext_range_end (I.ok.hd hc) st (by have : n ≤ i := hg; omega) fun h' eb => ⟨rfl, I.turned (t' := s.toks) (fun b o hb e => eb b o hb e) f0 f1 f3 f4 f5⟩
  self := fun _ _ _ _ _ st h => wpAny_pyIter_rangeiter st h
end L2

namespace L2
open PySem PySem.Spec PyProof.Rows
section
variable {X : Cx} {tg : Expr}
def iList (K : PySem.W.Frag) (tl : TE) : TI := fun σ H R => tl σ H fun x H1 => ∃ a, x = .ref a ∧ (∃ xs, SqL K H1 a xs) ∧ R (Itl K a) H1
def iTup (K : PySem.W.Frag) (tl : TE) : TI := fun σ H R => tl σ H fun x H1 => ∃ a, x = .ref a ∧ (∃ xs, SqT K H1 a xs) ∧ R (Itt K a) H1
theorem pi_list {l : Expr} {tl : TE} (hl : PE X l tl) : PI X tg l (iList X.K tl) := by
  intro pins s σ H R I h
  refine thn (hl pins s σ H _ I h) fun v s1 ⟨x, H1, I1, r1, q1⟩ => ?_
  obtain ⟨a, e, ⟨xs, hq⟩, q⟩ := q1
  subst e
  cases r1
  obtain ⟨its, rv, p, hz⟩ := I1.list hq
  refine wpAny_pyIter_list p.isList ?_
  refine ⟨s1.heap.objs.size, [s1.heap.objs.size], _, _, H1, rfl, I1.kept (t' := s1.toks) fun b o e => Heap.get?_push_of_some _ e, turn_list a _, ⟨_, Heap.get?_push_size _ rfl, rfl, rfl⟩, fun b hb => ?_, q⟩
  have e : b = s1.heap.objs.size := by simpa using hb
  subst e
  exact I1.fpOk (Nat.le_refl _) (I1.hok.fresh (Nat.le_refl _))
theorem pi_tup {l : Expr} {tl : TE} (hl : PE X l tl) : PI X tg l (iTup X.K tl) := by
  intro pins s σ H R I h
  refine thn (hl pins s σ H _ I h) fun v s1 ⟨x, H1, I1, r1, q1⟩ => ?_
  obtain ⟨a, e, ⟨xs, hq⟩, q⟩ := q1
  subst e
  cases r1
  obtain ⟨its, rv, p, hz⟩ := I1.tuple hq
  refine wpAny_pyIter_tuple (show s1.heap.IsTuple a its.toArray from p) ?_
  refine ⟨s1.heap.objs.size, [s1.heap.objs.size], _, _, H1, rfl, I1.kept (t' := s1.toks) fun b o e => Heap.get?_push_of_some _ e, turn_tuple a _, ⟨_, Heap.get?_push_size _ rfl, rfl, rfl⟩, fun b hb => ?_, q⟩
  have e : b = s1.heap.objs.size := by simpa using hb
  subst e
  exact I1.fpOk (Nat.le_refl _) (I1.hok.fresh (Nat.le_refl _))
/-- a range object just made, walked -/
theorem range_it {pins : List (Addr × Obj)} {σ : St} {H : Hp} {s : Shared} {R : It → Hp → Prop} {E : Value → Shared → Prop} {lo hi : Int} {t u v : Tok} {tk : Nat} (I : Inv X pins σ H s) (h1 : -(2 ^ 62) ≤ lo) (h2 : lo < 2 ^ 62) (h3 : -(2 ^ 62) ≤ hi) (h4 : hi < 2 ^ 62)
    (q : R (Itr lo (hi - lo).toNat) H) : wpAny (model X.prog X.w) X.A (pyIter (.ref s.heap.objs.size)) (PIE X pins σ tg R) E { s with heap := s.heap.push { cls := .type "range", data := .fields #[.int lo t, .int hi u, .int 1 v] }, toks := tk } := by
  refine wpAny_pyIter_range (IsRange.new ..) (small_one h1 h2 h3 h4) ?_
  have I1 : Inv X pins σ H { s with heap := s.heap.push { cls := .type "range", data := .fields #[.int lo t, .int hi u, .int 1 v] }, toks := tk } := I.kept fun b o e => Heap.get?_push_of_some _ e
  refine ⟨(s.heap.push { cls := .type "range", data := .fields #[.int lo t, .int hi u, .int 1 v] }).objs.size, [(s.heap.push { cls := .type "range", data := .fields #[.int lo t, .int hi u, .int 1 v] }).objs.size], _, _, H, rfl,
    I1.kept (t' := tk) fun b o e => Heap.get?_push_of_some _ e, turn_range _ lo (hi - lo).toNat, ?_, fun b hb => ?_, q⟩
  · have e1 : lo + ((0 : Nat) : Int) * 1 = lo := by simp
    have e2 : (((hi - lo).toNat : Nat) : Int) - ((0 : Nat) : Int) = Builtin.Range.rangeSize lo hi 1 := by rw [rangeSize_one]; split <;> omega
    show IsRangeIter _ _ (lo + ((0 : Nat) : Int) * 1) ((((hi - lo).toNat : Nat) : Int) - ((0 : Nat) : Int)) 1
    rw [e1, e2]
    exact Heap.get?_push_size _ rfl
  · have e : b = (s.heap.push { cls := .type "range", data := .fields #[.int lo t, .int hi u, .int 1 v] }).objs.size := by simpa using hb
    subst e
    exact I1.fpOk (Nat.le_refl _) (I1.hok.fresh (Nat.le_refl _))
def iRng1 (ta : TA) : TI := fun σ H R => ta σ H fun vs H1 => ∃ j : Int, vs = [.int j] ∧ -(2 ^ 62) ≤ j ∧ j < 2 ^ 62 ∧ R (Itr 0 j.toNat) H1
def iRng2 (ta : TA) : TI := fun σ H R => ta σ H fun vs H1 => ∃ i j : Int, vs = [.int i, .int j] ∧ (-(2 ^ 62) ≤ i ∧ i < 2 ^ 62 ∧ -(2 ^ 62) ≤ j ∧ j < 2 ^ 62) ∧ R (Itr i (j - i).toNat) H1
theorem pi_range1 {a : Expr} {ta : TA} {p pos : Pos} (hg : Gl X "range") (hm : X.mg "range" = none) (ha : PA X [a] ta) (hs : starEach [a] X.env = [(false, eval a X.env)] := by rfl) : PI X tg (.Call (.Name "range" p) [a] [] pos) (iRng1 ta) := by
  intro pins s σ H R I h
  refine Call_ (ld_blt I hg hm boot_range (PyProof.Rows.callWith_type1 (thn (ha pos pins s σ H _ I h) fun us s1 ⟨vs, H1, I1, r1, q1⟩ => ?_) hs rfl))
  obtain ⟨j, e, q1, q2, q⟩ := q1
  subst e
  cases r1 with
  | cons r rr =>
    cases rr
    obtain ⟨t, rfl⟩ := r
    exact call_range_1 (range_it I1 (by omega) (by omega) q1 q2 (by simpa using q))
theorem pi_range2 {a b : Expr} {ta : TA} {p pos : Pos} (hg : Gl X "range") (hm : X.mg "range" = none) (ha : PA X [a, b] ta) (hs : starEach [a, b] X.env = [(false, eval a X.env), (false, eval b X.env)] := by rfl) (hs2 : starEach [b] X.env = [(false, eval b X.env)] := by rfl) :
    PI X tg (.Call (.Name "range" p) [a, b] [] pos) (iRng2 ta) := by
  intro pins s σ H R I h
  refine Call_ (ld_blt I hg hm boot_range (PyProof.Rows.callWith_type1 (thn (ha pos pins s σ H _ I h) fun us s1 ⟨vs, H1, I1, r1, q1⟩ => ?_) (by rw [hs, hs2]) (by rw [hs2]; rfl)))
  obtain ⟨i, j, e, ⟨q1, q2, q3, q4⟩, q⟩ := q1
  subst e
  cases r1 with
  | cons r rr =>
    cases rr with
    | cons r' rr =>
      cases rr
      obtain ⟨t, rfl⟩ := r
      obtain ⟨t', rfl⟩ := r'
      exact call_range_2 (range_it I1 q1 q2 q3 q4 q)

/-! ### for -/
/-- W: the invariant by the turn and a measure; N: what the body is to reach -/
def tFor (wi : TI) (g : TG) (tb : TS) : TS := fun D σ H => wi σ H fun J H1 => ∃ W : Nat → Nat → St → Hp → Prop, (∃ m, W 0 m σ H1) ∧ ∀ i m σ H, W i m σ H →
  (J.stop i H ∧ D.nx σ H) ∨ (J.go i H ∧ ∃ N : St → Hp → Prop, (∀ σ' H', N σ' H' → ∃ m', m' < m ∧ W (i + 1) m' σ' H') ∧ ∀ x H', J.yld i H x H' → g x σ H' fun σ2 H2 => tb { D with nx := N, ct := N, bk := D.nx } σ2 H2)
/-- the records at fp as they stand -/
def pinsAt (fp : List Addr) (h : Heap) : List (Addr × Obj) := fp.filterMap fun b => (h.get? b).map fun o => (b, o)
theorem mem_pinsAt {fp : List Addr} {h : Heap} {b : Addr} {o : Obj} (hb : b ∈ fp) (e : h.get? b = some o) : (b, o) ∈ pinsAt fp h := List.mem_filterMap.mpr ⟨b, hb, by rw [e]; rfl⟩
theorem of_pinsAt {fp : List Addr} {h : Heap} {p : Addr × Obj} (hp : p ∈ pinsAt fp h) : p.1 ∈ fp ∧ h.get? p.1 = some p.2 := by
  obtain ⟨b, hb, e⟩ := List.mem_filterMap.mp hp
  cases q : h.get? b with
  | none => rw [q] at e; cases e
  | some o =>
    rw [q] at e
    have e' : (b, o) = p := Option.some.inj e
    subst e'
    exact ⟨hb, q⟩
theorem Inv.pinned {pins : List (Addr × Obj)} {σ : St} {H : Hp} {s : Shared} {fp : List Addr} (I : Inv X pins σ H s) (hf : ∀ b ∈ fp, FpOk X pins H b) (ho : ∀ b ∈ fp, ∃ o, s.heap.get? b = some o ∧ ∀ v, o.data ≠ .cell v) : Inv X (pins ++ pinsAt fp s.heap) σ H s :=
  I.pins_of fun p hp => (List.mem_append.mp hp).elim (fun z => I.pin p (List.mem_append_right _ z)) fun z => by
    obtain ⟨hb, e⟩ := of_pinsAt z
    obtain ⟨f0, f1, f2, _⟩ := hf p.1 hb
    obtain ⟨o, e', d⟩ := ho p.1 hb
    rw [e] at e'; cases e'
    exact ⟨e, f0, f1, f2, d⟩
theorem Inv.unpinned {pins pl : List (Addr × Obj)} {σ : St} {H : Hp} {s : Shared} (I : Inv X (pins ++ pl) σ H s) : Inv X pins σ H s := I.pins_of fun p hp => I.pin p (List.mem_append_right _ (List.mem_append_left _ hp))
theorem ps_for {iter : Expr} {body : List Stmt} {wi : TI} {g : TG} {tb : TS} {pos : Pos} (hp : PassesOwn (model X.prog X.w) X.A X.env X.xe) (hc : X.calm = true) (hi : PI X tg iter wi) (hg : PG X tg g) (hb : PSs X body tb)
    (hs : ∀ x, foldedSetIterable iter X.env x = pure x := by intro _; rfl) : PS X (.For tg iter body [] pos) (tFor wi g tb) := by
  intro pins s σ H D I h
  refine wpAny_For (thn (hi pins s σ H _ I h) fun v s1 h1 => thn h1 fun itv s2 h2 => ?_) hs
  obtain ⟨it, fp, tn, J, H2, e, I2, T, st2, f2, W, ⟨m0, w0⟩, turn⟩ := h2
  subst e
  -- what stays true of the iterator's objects through the loop
  have stat : ∀ {H' : Hp}, (∀ b ∈ fp, H' b = none) → ∀ b ∈ fp, FpOk X pins H' b := fun hn b hb => ⟨hn b hb, (f2 b hb).2⟩
  refine codeAny_forLoop_any (fun n s' => ∃ i σ' H', Inv X pins σ' H' s' ∧ tn i s'.heap ∧ (∀ b ∈ fp, H' b = none) ∧ W i n σ' H') ?_ m0 ⟨0, σ, H2, I2, st2, fun b hb => (f2 b hb).1, w0⟩
  rintro n s3 ⟨i, σ3, H3, I3, st3, fr3, w3⟩
  rcases turn i n σ3 H3 w3 with ⟨stop, qn⟩ | ⟨go, N, hN, step⟩
  · refine wpAny_passesOwn hp (thn (T.done X rfl rfl rfl hc i pins s3 σ3 H3 X.xe I3 (stat fr3) st3 stop) fun r s4 ⟨hr, I4⟩ => ?_)
    subst hr
    exact wpAny_execs_nil ⟨σ3, H3, I4, qn⟩
  · refine wpAny_passesOwn hp (thn (T.item X rfl rfl rfl hc i pins s3 σ3 H3 X.xe I3 (stat fr3) st3 go) fun r s4 ⟨u, hr, h4⟩ => ?_)
    subst hr
    refine wpAny_passesOwn hp (thn h4 fun _ s5 ⟨x, H5, I5, r5, y5, st5, fr5⟩ => ?_)
    have I5' := I5.pinned (stat fr5) (T.obj _ _ st5)
    refine wpAny_passesOwn hp (thn (hg _ s5 σ3 H5 x u _ I5' r5 (step x H5 y5)) fun _ s6 ⟨σ6, H6, I6, q6⟩ => ?_)
    refine wpAny_passesOwn hp (thn (hb _ s6 σ6 H6 _ I6 q6) fun f s7 q7 => ?_)
    have again : ∀ {σ7 : St} {H7 : Hp}, Inv X (pins ++ pinsAt fp s5.heap) σ7 H7 s7 → N σ7 H7 → ∃ m, m < n ∧ ∃ i σ' H', Inv X pins σ' H' s7 ∧ tn i s7.heap ∧ (∀ b ∈ fp, H' b = none) ∧ W i m σ' H' := fun {σ7 H7} I7 n7 => by
      obtain ⟨m', hm, w7⟩ := hN σ7 H7 n7
      refine ⟨m', hm, i + 1, σ7, H7, I7.unpinned, T.keep _ _ _ st5 fun b hb o e => (I7.pin (b, o) (List.mem_append_right _ (List.mem_append_right _ (mem_pinsAt hb e)))).1, fun b hb => ?_, w7⟩
      obtain ⟨o, e, d⟩ := T.obj _ _ st5 b hb
      exact (I7.pin (b, o) (List.mem_append_right _ (List.mem_append_right _ (mem_pinsAt hb e)))).2.1
    cases f with
    | next => obtain ⟨σ7, H7, I7, n7⟩ := q7; exact again I7 n7
    | cont => obtain ⟨σ7, H7, I7, n7⟩ := q7; exact again I7 n7
    | brk => obtain ⟨σ7, H7, I7, q7⟩ := q7; exact ⟨σ7, H7, I7.unpinned, q7⟩
    | ret v => obtain ⟨x7, σ7, H7, I7, r7, q7⟩ := q7; exact ⟨x7, σ7, H7, I7.unpinned, r7, q7⟩
end

/-! ### the forms one uses -/
/-- over a list that the body leaves as it is -/
theorem for_list {K : PySem.W.Frag} {a : Addr} {xs : List V} {g : TG} {tb : TS} {D : Ends} {σ : St} {H : Hp} (Pv : Nat → St → Hp → Prop) (h0 : Pv 0 σ H) (hl : ∀ i σ H, i ≤ xs.length → Pv i σ H → SqL K H a xs)
    (hs : ∀ i x σ H, xs[i]? = some x → Pv i σ H → g x σ H fun σ2 H2 => tb { D with nx := Pv (i + 1), ct := Pv (i + 1), bk := D.nx } σ2 H2) (hd : ∀ σ H, Pv xs.length σ H → D.nx σ H) :
    ∃ W : Nat → Nat → St → Hp → Prop, (∃ m, W 0 m σ H) ∧ ∀ i m σ H, W i m σ H →
      ((Itl K a).stop i H ∧ D.nx σ H) ∨ ((Itl K a).go i H ∧ ∃ N : St → Hp → Prop, (∀ σ' H', N σ' H' → ∃ m', m' < m ∧ W (i + 1) m' σ' H') ∧ ∀ x H', (Itl K a).yld i H x H' → g x σ H' fun σ2 H2 => tb { D with nx := N, ct := N, bk := D.nx } σ2 H2) := by
  refine ⟨fun i m σ H => m = xs.length - i ∧ i ≤ xs.length ∧ Pv i σ H, ⟨xs.length, by simp, Nat.zero_le _, h0⟩, ?_⟩
  rintro i m σ H ⟨rfl, hi, p⟩
  have q := hl i σ H hi p
  by_cases hlt : i < xs.length
  · refine .inr ⟨⟨xs, xs[i], q, by simp [hlt]⟩, Pv (i + 1), fun σ' H' p' => ⟨xs.length - (i + 1), by omega, rfl, hlt, p'⟩, fun x H' y => ?_⟩
    obtain ⟨e, y⟩ := y
    subst e
    exact hs i x σ _ (y xs q) p
  · have e : i = xs.length := by omega
    subst e
    exact .inl ⟨⟨xs, q, Nat.le_refl _⟩, hd σ H p⟩
theorem for_tup {K : PySem.W.Frag} {a : Addr} {xs : List V} {g : TG} {tb : TS} {D : Ends} {σ : St} {H : Hp} (Pv : Nat → St → Hp → Prop) (h0 : Pv 0 σ H) (hl : ∀ i σ H, i ≤ xs.length → Pv i σ H → SqT K H a xs)
    (hs : ∀ i x σ H, xs[i]? = some x → Pv i σ H → g x σ H fun σ2 H2 => tb { D with nx := Pv (i + 1), ct := Pv (i + 1), bk := D.nx } σ2 H2) (hd : ∀ σ H, Pv xs.length σ H → D.nx σ H) :
    ∃ W : Nat → Nat → St → Hp → Prop, (∃ m, W 0 m σ H) ∧ ∀ i m σ H, W i m σ H →
      ((Itt K a).stop i H ∧ D.nx σ H) ∨ ((Itt K a).go i H ∧ ∃ N : St → Hp → Prop, (∀ σ' H', N σ' H' → ∃ m', m' < m ∧ W (i + 1) m' σ' H') ∧ ∀ x H', (Itt K a).yld i H x H' → g x σ H' fun σ2 H2 => tb { D with nx := N, ct := N, bk := D.nx } σ2 H2) := by
  refine ⟨fun i m σ H => m = xs.length - i ∧ i ≤ xs.length ∧ Pv i σ H, ⟨xs.length, by simp, Nat.zero_le _, h0⟩, ?_⟩
  rintro i m σ H ⟨rfl, hi, p⟩
  have q := hl i σ H hi p
  by_cases hlt : i < xs.length
  · refine .inr ⟨⟨xs, xs[i], q, by simp [hlt]⟩, Pv (i + 1), fun σ' H' p' => ⟨xs.length - (i + 1), by omega, rfl, hlt, p'⟩, fun x H' y => ?_⟩
    obtain ⟨e, y⟩ := y
    subst e
    exact hs i x σ _ (y xs q) p
  · have e : i = xs.length := by omega
    subst e
    exact .inl ⟨⟨xs, q, Nat.le_refl _⟩, hd σ H p⟩
theorem for_range {lo : Int} {n : Nat} {g : TG} {tb : TS} {D : Ends} {σ : St} {H : Hp} (Pv : Nat → St → Hp → Prop) (h0 : Pv 0 σ H)
    (hs : ∀ i σ H, i < n → Pv i σ H → g (.int (lo + i)) σ H fun σ2 H2 => tb { D with nx := Pv (i + 1), ct := Pv (i + 1), bk := D.nx } σ2 H2) (hd : ∀ σ H, Pv n σ H → D.nx σ H) :
    ∃ W : Nat → Nat → St → Hp → Prop, (∃ m, W 0 m σ H) ∧ ∀ i m σ H, W i m σ H →
      ((Itr lo n).stop i H ∧ D.nx σ H) ∨ ((Itr lo n).go i H ∧ ∃ N : St → Hp → Prop, (∀ σ' H', N σ' H' → ∃ m', m' < m ∧ W (i + 1) m' σ' H') ∧ ∀ x H', (Itr lo n).yld i H x H' → g x σ H' fun σ2 H2 => tb { D with nx := N, ct := N, bk := D.nx } σ2 H2) := by
  refine ⟨fun i m σ H => m = n - i ∧ i ≤ n ∧ Pv i σ H, ⟨n, by simp, Nat.zero_le _, h0⟩, ?_⟩
  rintro i m σ H ⟨rfl, hi, p⟩
  by_cases hlt : i < n
  · refine .inr ⟨hlt, Pv (i + 1), fun σ' H' p' => ⟨n - (i + 1), by omega, rfl, hlt, p'⟩, fun x H' y => ?_⟩
    obtain ⟨e, y⟩ := y
    subst e y
    exact hs i σ _ hlt p
  · have e : i = n := by omega
    subst e
    exact .inl ⟨Nat.le_refl _, hd σ H p⟩
/-- while, by a word and a measure of the state -/
theorem while_by {c : TT} {tb : TS} {D : Ends} {σ : St} {H : Hp} (Pv : St → Hp → Prop) (μ : St → Hp → Nat) (h0 : Pv σ H)
    (hs : ∀ σ H, Pv σ H → c σ H fun b H1 => if b = true then tb { D with nx := fun σ' H' => Pv σ' H' ∧ μ σ' H' < μ σ H, ct := fun σ' H' => Pv σ' H' ∧ μ σ' H' < μ σ H, bk := D.nx } σ H1 else D.nx σ H1)
    (mono : ∀ σ H Q Q', (∀ b H1, Q b H1 → Q' b H1) → c σ H Q → c σ H Q') : tWhile c tb D σ H := by
  refine ⟨fun m σ H => m = μ σ H ∧ Pv σ H, ⟨_, rfl, h0⟩, ?_⟩
  rintro m σ H ⟨rfl, p⟩
  refine mono σ H _ _ (fun b H1 q => ?_) (hs σ H p)
  cases b with
  | true => exact ⟨_, fun σ' H' ⟨p', l⟩ => ⟨_, l, rfl, p'⟩, q⟩
  | false => exact q
end L2

namespace L2
open PySem PySem.Spec PyProof.Rows

abbrev R2 := V → V → Hp → VK → Prop
/-- a two-place operation on values: f is binaryOp op, inplaceOp op or compareOp op -/
def OpR (X : Cx) (f : Value → Value → Sem Value) (r : R2) : Prop :=
  ∀ (pins : List (Addr × Obj)) (s : Shared) (σ : St) (H : Hp) (x y : V) (v u : Value) (Q : VK), Inv X pins σ H s → RelV x v → RelV y u → r x y H Q →
    wpAny (model X.prog X.w) X.A (f v u) (EP X pins σ Q) X.xe s
/-- a one-place operation -/
def UnR (X : Cx) (f : Value → Sem Value) (r : V → Hp → VK → Prop) : Prop :=
  ∀ (pins : List (Addr × Obj)) (s : Shared) (σ : St) (H : Hp) (x : V) (v : Value) (Q : VK), Inv X pins σ H s → RelV x v → r x H Q →
    wpAny (model X.prog X.w) X.A (f v) (EP X pins σ Q) X.xe s
/-- a call of a value that is known (a builtin, a type) with values -/
def CallR (X : Cx) (f : Value) (r : List V → Hp → VK → Prop) : Prop :=
  ∀ (pins : List (Addr × Obj)) (s : Shared) (σ : St) (H : Hp) (xs : List V) (us : List Value) (Q : VK), Inv X pins σ H s → Vals xs us → r xs H Q →
    wpAny (model X.prog X.w) X.A (call f us) (EP X pins σ Q) X.xe s
/-- a value's truth -/
def TruR (X : Cx) (r : V → Hp → (Bool → Hp → Prop) → Prop) : Prop :=
  ∀ (pins : List (Addr × Obj)) (s : Shared) (σ : St) (H : Hp) (x : V) (v : Value) (Q : Bool → Hp → Prop), Inv X pins σ H s → RelV x v → r x H Q →
    wpAny (model X.prog X.w) X.A (truthy v) (TP X pins σ Q) X.xe s

def tOp (r : R2) (ta tb : TE) : TE := fun σ H Q => ta σ H fun x H1 => tb σ H1 fun y H2 => r x y H2 Q
def tUn (r : V → Hp → VK → Prop) (ta : TE) : TE := fun σ H Q => ta σ H fun x H1 => r x H1 Q
/-- ints in, under C, and a value out -/
def rI (C : Int → Int → Prop) (g : Int → Int → V) : R2 := fun x y H Q => ∃ i j, x = .int i ∧ y = .int j ∧ C i j ∧ Q (g i j) H
def rI0 (g : Int → Int → V) : R2 := fun x y H Q => ∃ i j, x = .int i ∧ y = .int j ∧ Q (g i j) H
def rU (g : Int → V) : V → Hp → VK → Prop := fun x H Q => ∃ i, x = .int i ∧ Q (g i) H

section
variable {X : Cx} {a b c : Expr} {ta tb tc : TE} {pos : Pos}

theorem binT (ha : PE X a ta) (hb : PE X b tb) {pins : List (Addr × Obj)} {s : Shared} {σ : St} {H : Hp} {R : V → V → Hp → Prop} (I : Inv X pins σ H s)
    (h : ta σ H fun x H1 => tb σ H1 fun y H2 => R x y H2) {Q : Value → Shared → Prop} {f : Value → Value → Sem Value}
    (hf : ∀ v u s2 x y H2, Inv X pins σ H2 s2 → RelV x v → RelV y u → R x y H2 → wpAny (model X.prog X.w) X.A (f v u) Q X.xe s2) :
    wpAny (model X.prog X.w) X.A (eval a X.env) (fun v s₁ => wpAny (model X.prog X.w) X.A (eval b X.env) (fun u s₂ => wpAny (model X.prog X.w) X.A (f v u) Q X.xe s₂) X.xe s₁) X.xe s := by
  refine thn (ha pins s σ H _ I h) fun v s1 ⟨x, H1, I1, r1, q1⟩ => ?_
  refine thn (hb pins s1 σ H1 _ I1 q1) fun u s2 ⟨y, H2, I2, r2, q2⟩ => ?_
  exact hf v u s2 x y H2 I2 r1 r2 q2

theorem pe_op {op : Operator} {r : R2} (ho : OpR X (binaryOp op) r) (ha : PE X a ta) (hb : PE X b tb) : PE X (.BinOp a op b pos) (tOp r ta tb) := by
  intro pins s σ H Q I h
  exact wpAny_BinOp (binT ha hb I h fun v u s2 x y H2 I2 rx ry q => ho pins s2 σ H2 x y v u Q I2 rx ry q)
theorem pe_un {op : UnaryOp} {r : V → Hp → VK → Prop} (ho : UnR X (unaryOp op) r) (ha : PE X a ta) : PE X (.UnaryOp op a pos) (tUn r ta) := by
  intro pins s σ H Q I h
  exact UnaryOp_ (thn (ha pins s σ H _ I h) fun v s1 ⟨x, H1, I1, r1, q1⟩ => ho pins s1 σ H1 x v Q I1 r1 q1)
/-- a op= e at a name: the name's slot i -/
theorem augR {op : Operator} {r : R2} (ho : OpR X (inplaceOp op) r) {pins : List (Addr × Obj)} {s : Shared} {σ : St} {H : Hp} {x y : V} {v u : Value} {Q : VK} (I : Inv X pins σ H s)
    (rx : RelV x v) (ry : RelV y u) (q : r x y H Q) : wpAny (model X.prog X.w) X.A (inplaceOp op v u) (EP X pins σ Q) X.xe s := ho pins s σ H x y v u Q I rx ry q

/-! ### ints -/
theorem opI {f : Value → Value → Sem Value} {C : Int → Int → Prop} {g : Int → Int → Int}
    (rule : ∀ (i j : Int) (t u : Tok) (s : Shared) (Q : Value → Shared → Prop) (E : Value → Shared → Prop), C i j → Q (.int (g i j) s.toks) { s with toks := s.toks + 1 } → wpAny (model X.prog X.w) X.A (f (.int i t) (.int j u)) Q E s) :
    OpR X f (rI C fun i j => .int (g i j)) := by
  intro pins s σ H x y v u Q I rx ry h
  obtain ⟨i, j, rfl, rfl, hc, q⟩ := h
  obtain ⟨t, rfl⟩ := rx
  obtain ⟨t', rfl⟩ := ry
  exact rule i j t t' s _ _ hc ⟨.int (g i j), H, I.tok _, ⟨_, rfl⟩, q⟩
theorem opI0 {f : Value → Value → Sem Value} {g : Int → Int → Int}
    (rule : ∀ (i j : Int) (t u : Tok) (s : Shared) (Q : Value → Shared → Prop) (E : Value → Shared → Prop), Q (.int (g i j) s.toks) { s with toks := s.toks + 1 } → wpAny (model X.prog X.w) X.A (f (.int i t) (.int j u)) Q E s) :
    OpR X f (rI0 fun i j => .int (g i j)) := by
  intro pins s σ H x y v u Q I rx ry h
  obtain ⟨i, j, rfl, rfl, q⟩ := h
  obtain ⟨t, rfl⟩ := rx
  obtain ⟨t', rfl⟩ := ry
  exact rule i j t t' s _ _ ⟨.int (g i j), H, I.tok _, ⟨_, rfl⟩, q⟩
theorem opB0 {f : Value → Value → Sem Value} {g : Int → Int → Bool}
    (rule : ∀ (i j : Int) (t u : Tok) (s : Shared) (Q : Value → Shared → Prop) (E : Value → Shared → Prop), Q (.bool (g i j)) s → wpAny (model X.prog X.w) X.A (f (.int i t) (.int j u)) Q E s) :
    OpR X f (rI0 fun i j => .bl (g i j)) := by
  intro pins s σ H x y v u Q I rx ry h
  obtain ⟨i, j, rfl, rfl, q⟩ := h
  obtain ⟨t, rfl⟩ := rx
  obtain ⟨t', rfl⟩ := ry
  exact rule i j t t' s _ _ ⟨.bl (g i j), H, I, rfl, q⟩

def CDiv (i j : Int) : Prop := 0 < j ∧ j < 1073741824
def CDivN (i j : Int) : Prop := j ≠ 0 ∧ j.natAbs < 1073741824
def CPow (i j : Int) : Prop := 0 ≤ j ∧ j ≤ 1000000 ∧ i.natAbs < 2 ^ 64
def CMul (i j : Int) : Prop := (-(2 ^ 64) < i ∧ i < 2 ^ 64) ∨ (-(2 ^ 64) < j ∧ j < 2 ^ 64)
theorem CMul.ok {i j : Int} (h : CMul i j) : IntMulOk i j := by
  rcases h with ⟨h1, h2⟩ | ⟨h1, h2⟩
  · exact .of_left (intBits_le_64 h1 h2)
  · exact .of_right (intBits_le_64 h1 h2)
theorem two_pow_nn (k : Nat) : (0 : Int) ≤ 2 ^ k := by
  rw [two_pow_cast]
  exact Int.natCast_nonneg _

theorem op_add : OpR X (binaryOp .Add) (rI0 fun i j => .int (i + j)) := opI0 fun _ _ _ _ _ _ _ q => add_int q
theorem op_sub : OpR X (binaryOp .Sub) (rI0 fun i j => .int (i - j)) := opI0 fun _ _ _ _ _ _ _ q => sub_int q
theorem op_mul : OpR X (binaryOp .Mult) (rI CMul fun i j => .int (i * j)) := opI fun _ _ _ _ _ _ _ hc q => mul_int q hc.ok
/-- // by a positive divisor -/
theorem op_fdiv : OpR X (binaryOp .FloorDiv) (rI CDiv fun i j => .int (i / j)) := opI fun i j _ _ _ _ _ hc q => by
  have h1 : (0 : Int) < j := hc.1
  have h2 : j < 1073741824 := hc.2
  exact floordiv_int (by omega) (by rw [Int.fdiv_eq_ediv_of_nonneg i (by omega)]; exact q) (.inl (PyProof.noPylong_small (by omega)))
theorem op_fdivN : OpR X (binaryOp .FloorDiv) (rI CDivN fun i j => .int (i.fdiv j)) := opI fun _ _ _ _ _ _ _ hc q => floordiv_int hc.1 q (.inl (PyProof.noPylong_small hc.2))
/-- % by a positive divisor of any size -/
theorem op_mod : OpR X (binaryOp .Mod) (rI (fun _ j => 0 < j) fun i j => .int (i % j)) := opI fun i j _ _ _ _ _ hc q => by
  have h1 : (0 : Int) < j := hc
  exact mod_int' (by omega) (by rw [Int.fmod_eq_emod_of_nonneg i (by omega)]; exact q)
theorem op_modN : OpR X (binaryOp .Mod) (rI (fun _ j => j ≠ 0) fun i j => .int (i.fmod j)) := opI fun _ _ _ _ _ _ _ hc q => mod_int' hc q
theorem op_pow : OpR X (binaryOp .Pow) (rI CPow fun i j => .int (i ^ j.toNat)) := opI fun _ _ _ _ _ _ _ hc q => pow_int_small hc.1 hc.2.1 hc.2.2 q
theorem op_shl : OpR X (binaryOp .LShift) (rI CPow fun i j => .int (i * 2 ^ j.toNat)) := opI fun _ _ _ _ _ _ _ hc q => lshift_int_small hc.1 hc.2.1 hc.2.2 q
theorem op_shr : OpR X (binaryOp .RShift) (rI (fun _ j => 0 ≤ j) fun i j => .int (i / 2 ^ j.toNat)) := opI fun i j _ _ _ _ _ hc q =>
  rshift_int hc (by rw [Int.fdiv_eq_ediv_of_nonneg i (two_pow_nn _)]; exact q)
theorem op_and : OpR X (binaryOp .BitAnd) (rI0 fun i j => .int (Builtin.bitAnd i j)) := opI0 fun _ _ _ _ _ _ _ q => and_int q
theorem op_or : OpR X (binaryOp .BitOr) (rI0 fun i j => .int (Builtin.bitOr i j)) := opI0 fun _ _ _ _ _ _ _ q => or_int q
theorem op_xor : OpR X (binaryOp .BitXor) (rI0 fun i j => .int (Builtin.bitXor i j)) := opI0 fun _ _ _ _ _ _ _ q => xor_int q

theorem iop_add : OpR X (inplaceOp .Add) (rI0 fun i j => .int (i + j)) := opI0 fun _ _ _ _ _ _ _ q => iadd_int q
theorem iop_sub : OpR X (inplaceOp .Sub) (rI0 fun i j => .int (i - j)) := opI0 fun _ _ _ _ _ _ _ q => isub_int q
theorem iop_mul : OpR X (inplaceOp .Mult) (rI CMul fun i j => .int (i * j)) := opI fun _ _ _ _ _ _ _ hc q => imul_int q hc.ok
theorem iop_fdiv : OpR X (inplaceOp .FloorDiv) (rI CDiv fun i j => .int (i / j)) := opI fun i j _ _ _ _ _ hc q => by
  have h1 : (0 : Int) < j := hc.1
  have h2 : j < 1073741824 := hc.2
  exact ifloordiv_int (by omega) (by rw [Int.fdiv_eq_ediv_of_nonneg i (by omega)]; exact q) (.inl (PyProof.noPylong_small (by omega)))
theorem iop_mod : OpR X (inplaceOp .Mod) (rI (fun _ j => 0 < j) fun i j => .int (i % j)) := opI fun i j _ _ _ _ _ hc q => by
  have h1 : (0 : Int) < j := hc
  exact imod_int (by omega) (by rw [Int.fmod_eq_emod_of_nonneg i (by omega)]; exact q)
theorem iop_shl : OpR X (inplaceOp .LShift) (rI CPow fun i j => .int (i * 2 ^ j.toNat)) := opI fun _ _ _ _ _ _ _ hc q => ilshift_int_small hc.1 hc.2.1 hc.2.2 q
theorem iop_shr : OpR X (inplaceOp .RShift) (rI (fun _ j => 0 ≤ j) fun i j => .int (i / 2 ^ j.toNat)) := opI fun i j _ _ _ _ _ hc q =>
  irshift_int hc (by rw [Int.fdiv_eq_ediv_of_nonneg i (two_pow_nn _)]; exact q)
theorem iop_and : OpR X (inplaceOp .BitAnd) (rI0 fun i j => .int (Builtin.bitAnd i j)) := opI0 fun _ _ _ _ _ _ _ q => iand_int q
theorem iop_or : OpR X (inplaceOp .BitOr) (rI0 fun i j => .int (Builtin.bitOr i j)) := opI0 fun _ _ _ _ _ _ _ q => ior_int q
theorem iop_xor : OpR X (inplaceOp .BitXor) (rI0 fun i j => .int (Builtin.bitXor i j)) := opI0 fun _ _ _ _ _ _ _ q => ixor_int q

theorem unI {f : Value → Sem Value} {g : Int → Int}
    (rule : ∀ (i : Int) (t : Tok) (s : Shared) (Q : Value → Shared → Prop) (E : Value → Shared → Prop), Q (.int (g i) s.toks) { s with toks := s.toks + 1 } → wpAny (model X.prog X.w) X.A (f (.int i t)) Q E s) :
    UnR X f (rU fun i => .int (g i)) := by
  intro pins s σ H x v Q I rx h
  obtain ⟨i, rfl, q⟩ := h
  obtain ⟨t, rfl⟩ := rx
  exact rule i t s _ _ ⟨.int (g i), H, I.tok _, ⟨_, rfl⟩, q⟩
theorem un_neg : UnR X (unaryOp .USub) (rU fun i => .int (-i)) := unI fun _ _ _ _ _ q => neg_int q
theorem un_inv : UnR X (unaryOp .Invert) (rU fun i => .int (Builtin.bitNot i)) := unI fun _ _ _ _ _ q => invert_int q

/-! ### bools among ints: n += (a < b) -/
theorem op_add_ib : OpR X (binaryOp .Add) (fun x y H Q => ∃ i k, x = .int i ∧ y = .bl k ∧ Q (.int (i + b2i k)) H) := by
  intro pins s σ H x y v u Q I rx ry h
  obtain ⟨i, k, rfl, rfl, q⟩ := h
  obtain ⟨t, rfl⟩ := rx
  cases ry
  exact add_int_bool ⟨.int (i + b2i k), H, I.tok _, ⟨_, rfl⟩, q⟩
end

/-! ### comparisons -/
/-- the scalars that == tells apart as data does -/
def scal : V → V → Bool
  | .non, .non => true | .non, .int _ => true | .int _, .non => true | .non, .bl _ => true | .bl _, .non => true | .non, .str _ => true | .str _, .non => true
  | .int _, .int _ => true | .bl _, .bl _ => true | .str _, .str _ => true | .byt _, .byt _ => true
  | .int _, .str _ => true | .str _, .int _ => true | .bl _, .str _ => true | .str _, .bl _ => true
  | _, _ => false
def rEq : R2 := fun x y H Q => scal x y = true ∧ Q (.bl (decide (x = y))) H
def rNe : R2 := fun x y H Q => scal x y = true ∧ Q (.bl (!decide (x = y))) H

theorem dec_int {i j : Int} : decide (V.int i = V.int j) = (i == j) := by
  rw [Bool.eq_iff_iff]
  simp
theorem dec_bl {i j : Bool} : decide (V.bl i = V.bl j) = (i == j) := by
  rw [Bool.eq_iff_iff]
  simp
theorem dec_str {i j : Str} : decide (V.str i = V.str j) = (i == j) := by
  rw [Bool.eq_iff_iff]
  simp
theorem dec_byt {i j : Array UInt8} : decide (V.byt i = V.byt j) = (i.toList == j.toList) := by
  rw [Bool.eq_iff_iff]
  cases i
  cases j
  simp

section
variable {X : Cx} {a b c : Expr} {ta tb tc : TE} {pos : Pos}
theorem fin_bl {pins : List (Addr × Obj)} {σ : St} {H : Hp} {s : Shared} {Q : VK} {k k' : Bool} (I : Inv X pins σ H s) (q : Q (.bl k) H) (e : k = k') : EP X pins σ Q (.bool k') s := by
  subst e
  exact ⟨.bl k, H, I, rfl, q⟩
theorem op_eq : OpR X (compareOp .Eq) rEq := by
  intro pins s σ H x y v u Q I rx ry h
  obtain ⟨hs, q⟩ := h
  cases x with
  | non =>
    cases rx
    cases y with
    | non => cases ry; exact PySem.EqNone.eq_none_none (fin_bl I q (by simp))
    | bl j => cases ry; exact PySem.EqNone.eq_none_bool (fin_bl I q (by simp))
    | int j => obtain ⟨t', rfl⟩ := ry; exact PySem.EqNone.eq_none_int (fin_bl I q (by simp))
    | str j => obtain ⟨t', rfl⟩ := ry; exact PySem.EqNone.eq_none_str (fin_bl I q (by simp))
    | _ => exact absurd (show false = true from hs) Bool.false_ne_true
  | bl i =>
    cases rx
    cases y with
    | non => cases ry; exact PySem.EqNone.eq_bool_none (fin_bl I q (by simp))
    | bl j => cases ry; exact eq_bool (fin_bl I q dec_bl)
    | str j => obtain ⟨t', rfl⟩ := ry; exact PySem.EqMixed.eq_bool_str (fin_bl I q (by simp))
    | _ => exact absurd (show false = true from hs) Bool.false_ne_true
  | int i =>
    obtain ⟨t, rfl⟩ := rx
    cases y with
    | non => cases ry; exact PySem.EqNone.eq_int_none (fin_bl I q (by simp))
    | int j => obtain ⟨t', rfl⟩ := ry; exact eq_int (fin_bl I q dec_int)
    | str j => obtain ⟨t', rfl⟩ := ry; exact PySem.EqMixed.eq_int_str (fin_bl I q (by simp))
    | _ => exact absurd (show false = true from hs) Bool.false_ne_true
  | str i =>
    obtain ⟨t, rfl⟩ := rx
    cases y with
    | non => cases ry; exact PySem.EqNone.eq_str_none (fin_bl I q (by simp))
    | bl j => cases ry; exact PySem.EqMixed.eq_str_bool (fin_bl I q (by simp))
    | int j => obtain ⟨t', rfl⟩ := ry; exact PySem.EqMixed.eq_str_int (fin_bl I q (by simp))
    | str j => obtain ⟨t', rfl⟩ := ry; exact eq_str (fin_bl I q dec_str)
    | _ => exact absurd (show false = true from hs) Bool.false_ne_true
  | byt i =>
    obtain ⟨t, rfl⟩ := rx
    cases y with
    | byt j => obtain ⟨t', rfl⟩ := ry; exact PySem.W.eq_bytes (fin_bl I q dec_byt)
    | _ => exact absurd (show false = true from hs) Bool.false_ne_true
  | _ => cases y <;> exact absurd (show false = true from hs) Bool.false_ne_true
theorem op_ne : OpR X (compareOp .NotEq) rNe := by
  intro pins s σ H x y v u Q I rx ry h
  obtain ⟨hs, q⟩ := h
  cases x with
  | non =>
    cases rx
    cases y with
    | non => cases ry; exact PySem.EqNone.ne_none_none (fin_bl I q (by simp))
    | bl j => cases ry; exact PySem.EqNone.ne_none_bool (fin_bl I q (by simp))
    | int j => obtain ⟨t', rfl⟩ := ry; exact PySem.EqNone.ne_none_int (fin_bl I q (by simp))
    | str j => obtain ⟨t', rfl⟩ := ry; exact PySem.EqNone.ne_none_str (fin_bl I q (by simp))
    | _ => exact absurd (show false = true from hs) Bool.false_ne_true
  | bl i =>
    cases rx
    cases y with
    | non => cases ry; exact PySem.EqNone.ne_bool_none (fin_bl I q (by simp))
    | bl j => cases ry; exact ne_bool (fin_bl I q (congrArg not dec_bl))
    | str j => obtain ⟨t', rfl⟩ := ry; exact PySem.EqMixed.ne_bool_str (fin_bl I q (by simp))
    | _ => exact absurd (show false = true from hs) Bool.false_ne_true
  | int i =>
    obtain ⟨t, rfl⟩ := rx
    cases y with
    | non => cases ry; exact PySem.EqNone.ne_int_none (fin_bl I q (by simp))
    | int j => obtain ⟨t', rfl⟩ := ry; exact ne_int (fin_bl I q (congrArg not dec_int))
    | str j => obtain ⟨t', rfl⟩ := ry; exact PySem.EqMixed.ne_int_str (fin_bl I q (by simp))
    | _ => exact absurd (show false = true from hs) Bool.false_ne_true
  | str i =>
    obtain ⟨t, rfl⟩ := rx
    cases y with
    | non => cases ry; exact PySem.EqNone.ne_str_none (fin_bl I q (by simp))
    | bl j => cases ry; exact PySem.EqMixed.ne_str_bool (fin_bl I q (by simp))
    | int j => obtain ⟨t', rfl⟩ := ry; exact PySem.EqMixed.ne_str_int (fin_bl I q (by simp))
    | str j => obtain ⟨t', rfl⟩ := ry; exact ne_str (fin_bl I q (congrArg not dec_str))
    | _ => exact absurd (show false = true from hs) Bool.false_ne_true
  | byt i =>
    obtain ⟨t, rfl⟩ := rx
    cases y with
    | byt j => obtain ⟨t', rfl⟩ := ry; exact PySem.W.ne_bytes (fin_bl I q (congrArg not dec_byt))
    | _ => exact absurd (show false = true from hs) Bool.false_ne_true
  | _ => cases y <;> exact absurd (show false = true from hs) Bool.false_ne_true

theorem op_lt : OpR X (compareOp .Lt) (rI0 fun i j => .bl (decide (i < j))) := opB0 fun _ _ _ _ _ _ _ q => lt_int q
theorem op_le : OpR X (compareOp .LtE) (rI0 fun i j => .bl (decide (i ≤ j))) := opB0 fun _ _ _ _ _ _ _ q => le_int q
theorem op_gt : OpR X (compareOp .Gt) (rI0 fun i j => .bl (decide (j < i))) := opB0 fun _ _ _ _ _ _ _ q => gt_int q
theorem op_ge : OpR X (compareOp .GtE) (rI0 fun i j => .bl (decide (j ≤ i))) := opB0 fun _ _ _ _ _ _ _ q => ge_int q
theorem op_lt_str : OpR X (compareOp .Lt) (fun x y H Q => ∃ i j, x = .str i ∧ y = .str j ∧ Q (.bl (decide (i.cps.toList < j.cps.toList))) H) := by
  intro pins s σ H x y v u Q I rx ry h
  obtain ⟨i, j, rfl, rfl, q⟩ := h
  obtain ⟨t, rfl⟩ := rx
  obtain ⟨t', rfl⟩ := ry
  exact lt_str (fin_bl I q rfl)
/-- the one string within the other -/
theorem op_in_str : OpR X (compareOp .In) (fun x y H Q => ∃ i j, x = .str i ∧ y = .str j ∧ Q (.bl (!(Builtin.Str.occurrences j i 0 j.length 1).isEmpty)) H) := by
  intro pins s σ H x y v u Q I rx ry h
  obtain ⟨i, j, rfl, rfl, q⟩ := h
  obtain ⟨t, rfl⟩ := rx
  obtain ⟨t', rfl⟩ := ry
  exact in_str (fin_bl I q rfl)

/-- is None, is not None: the right side a value none -/
theorem op_isN : OpR X (compareOp .Is) (fun x y H Q => y = .non ∧ Q (.bl (decide (x = .non))) H) := by
  intro pins s σ H x y v u Q I rx ry h
  obtain ⟨rfl, q⟩ := h
  cases ry
  refine is_none_gen (fin_bl I q ?_)
  cases x <;> first
    | (cases rx; rfl)
    | (obtain ⟨t, rfl⟩ := rx; rfl)
theorem op_notN : OpR X (compareOp .IsNot) (fun x y H Q => y = .non ∧ Q (.bl (!decide (x = .non))) H) := by
  intro pins s σ H x y v u Q I rx ry h
  obtain ⟨rfl, q⟩ := h
  cases ry
  refine isnot_none_gen (fin_bl I q ?_)
  cases x <;> first
    | (cases rx; rfl)
    | (obtain ⟨t, rfl⟩ := rx; rfl)

theorem op_notin_str : OpR X (compareOp .NotIn) (fun x y H Q => ∃ i j, x = .str i ∧ y = .str j ∧ Q (.bl (!(!(Builtin.Str.occurrences j i 0 j.length 1).isEmpty))) H) := by
  intro pins s σ H x y v u Q I rx ry h
  obtain ⟨i, j, rfl, rfl, q⟩ := h
  obtain ⟨t, rfl⟩ := rx
  obtain ⟨t', rfl⟩ := ry
  exact notIn_str (fin_bl I q rfl)
/-- is, is not of two objects that are tracked lists or instances -/
def isObj : HO → Bool
  | .lst _ => true
  | .ins _ _ _ => true
  | _ => false
theorem obj_there {pins : List (Addr × Obj)} {s : Shared} {σ : St} {H : Hp} {a : Addr} {o : HO} (I : Inv X pins σ H s) (h : H a = some o) (p : isObj o = true) : ∃ ob, s.heap.get? a = some ob ∧ ob.cls ≠ .type "tuple" := by
  cases o with
  | lst xs =>
    obtain ⟨_, its, n, _, e⟩ : xs.length ≤ sizeLine ∧ ∃ (its : List Value) (n : Nat), Vals xs its ∧ s.heap.get? a = some { cls := .type "list", data := .seq its.toArray n } := I.hok a _ h
    exact ⟨_, e, (by show Value.type "list" ≠ .type "tuple"; decide +kernel)⟩
  | ins C dx fs =>
    have x := I.hok a _ h
    obtain ⟨_, _, _, e, _⟩ := x
    exact ⟨_, e, (by show Value.ref C ≠ .type "tuple"; exact fun z => by cases z)⟩
  | _ => exact absurd (show false = true from p) Bool.false_ne_true
theorem op_is_ref : OpR X (compareOp .Is) (fun x y H Q => ∃ a b oa ob, x = .ref a ∧ y = .ref b ∧ H a = some oa ∧ isObj oa = true ∧ H b = some ob ∧ isObj ob = true ∧ Q (.bl (decide (a = b))) H) := by
  intro pins s σ H x y v u Q I rx ry h
  obtain ⟨a, b, oa, ob, rfl, rfl, ha, pa, hb, pb, q⟩ := h
  cases rx
  cases ry
  obtain ⟨o1, e1, n1⟩ := obj_there I ha pa
  obtain ⟨o2, e2, _⟩ := obj_there I hb pb
  by_cases z : a = b
  · subst z
    exact wpAny_is_ref_self (fin_bl I q (by simp))
  · exact wpAny_is_ref_other z e1 e2 n1 (fin_bl I q (by simp [z]))
theorem op_isnot_ref : OpR X (compareOp .IsNot) (fun x y H Q => ∃ a b oa ob, x = .ref a ∧ y = .ref b ∧ H a = some oa ∧ isObj oa = true ∧ H b = some ob ∧ isObj ob = true ∧ Q (.bl (!decide (a = b))) H) := by
  intro pins s σ H x y v u Q I rx ry h
  obtain ⟨a, b, oa, ob, rfl, rfl, ha, pa, hb, pb, q⟩ := h
  cases rx
  cases ry
  obtain ⟨o1, e1, n1⟩ := obj_there I ha pa
  obtain ⟨o2, e2, _⟩ := obj_there I hb pb
  by_cases z : a = b
  · subst z
    exact wpAny_isNot_ref_self (fin_bl I q (by simp))
  · exact wpAny_isNot_ref_other z e1 e2 n1 (fin_bl I q (by simp [z]))

/-- two rules for one operation: by cases -/
theorem OpR.or {f : Value → Value → Sem Value} {r r' : R2} (h : OpR X f r) (h' : OpR X f r') : OpR X f (fun x y H Q => r x y H Q ∨ r' x y H Q) := by
  intro pins s σ H x y v u Q I rx ry q
  rcases q with q | q
  · exact h pins s σ H x y v u Q I rx ry q
  · exact h' pins s σ H x y v u Q I rx ry q

theorem nomark (b : Expr) {op : CmpOp} (h : op ≠ .In := by decide) (h2 : op ≠ .NotIn := by decide) : behindInMarks op b = false := by
  have e1 : (op == CmpOp.In) = false := by cases op <;> first | rfl | exact absurd rfl h
  have e2 : (op == CmpOp.NotIn) = false := by cases op <;> first | rfl | exact absurd rfl h2
  cases b <;> simp [behindInMarks, e1, e2]
/-- a comparison as a value; hm: nomark b, or (for in, not in) by with_unfolding_all rfl -/
theorem pe_cmpR {op : CmpOp} {r : R2} (ho : OpR X (compareOp op) r) (ha : PE X a ta) (hb : PE X b tb) (hm : behindInMarks op b = false) : PE X (.Compare a [op] [b] pos) (tOp r ta tb) := by
  intro pins s σ H Q I h
  exact wpAny_Compare1 (binT ha hb I h fun v u s2 x y H2 I2 rx ry q => ho pins s2 σ H2 x y v u Q I2 rx ry q) hm
/-- a reading of a value as a test -/
def tTest (t : TE) : TT := fun σ H Q => t σ H fun x H' => ∃ k, x = .bl k ∧ Q k H'
theorem pt_cmpR {op : CmpOp} {r : R2} (ho : OpR X (compareOp op) r) (ha : PE X a ta) (hb : PE X b tb) (hm : behindInMarks op b = false) : PT X (.Compare a [op] [b] pos) (tTest (tOp r ta tb)) := by
  intro pins s σ H Q I h
  refine wpAny_isTrue_Compare1 (thn (ha pins s σ H _ I h) fun v s1 ⟨x, H1, I1, r1, q1⟩ => thn (hb pins s1 σ H1 _ I1 q1) fun u s2 ⟨y, H2, I2, r2, q2⟩ =>
    thn (ho pins s2 σ H2 x y v u _ I2 r1 r2 q2) fun c s3 ⟨z, H3, I3, r3, k, e, q3⟩ => ?_) hm
  subst e
  cases r3
  exact wpAny_truthy_bool ⟨H3, I3, q3⟩
/-- a op1 b op2 c -/
def tChain (r r' : R2) (ta tb tc : TE) : TE := fun σ H Q => ta σ H fun x H1 => tb σ H1 fun y H2 => r x y H2 fun z H3 => ∃ k, z = .bl k ∧
  (if k = true then tc σ H3 fun w' H4 => r' y w' H4 Q else Q (.bl false) H3)
theorem pe_chain {op op' : CmpOp} {r r' : R2} (ho : OpR X (compareOp op) r) (ho' : OpR X (compareOp op') r') (ha : PE X a ta) (hb : PE X b tb) (hc : PE X c tc)
    (hm : lastMarks [op, op'] [b, c] = false := by with_unfolding_all rfl) : PE X (.Compare a [op, op'] [b, c] pos) (tChain r r' ta tb tc) := by
  intro pins s σ H Q I h
  refine Compare_chain (thn (ha pins s σ H _ I h) fun v s1 ⟨x, H1, I1, r1, q1⟩ => chain_link (thn (hb pins s1 σ H1 _ I1 q1) fun u s2 ⟨y, H2, I2, r2, q2⟩ =>
    thn (ho pins s2 σ H2 x y v u _ I2 r1 r2 q2) fun d s3 ⟨z, H3, I3, r3, k, e, q3⟩ => ?_)) hm
  subst e
  cases r3
  refine wpAny_truthy_bool ?_
  cases k with
  | false => exact ite_ff ⟨.bl false, H3, I3, rfl, q3⟩
  | true => exact ite_tt (chain_last (thn (hc pins s3 σ H3 _ I3 q3) fun w' s4 ⟨z', H4, I4, r4, q4⟩ => ho' pins s4 σ H4 y z' u w' Q I4 r2 r4 q4))
theorem pt_chain {op op' : CmpOp} {r r' : R2} (ho : OpR X (compareOp op) r) (ho' : OpR X (compareOp op') r') (ha : PE X a ta) (hb : PE X b tb) (hc : PE X c tc)
    (hm : lastMarks [op, op'] [b, c] = false := by with_unfolding_all rfl) : PT X (.Compare a [op, op'] [b, c] pos) (tTest (tChain r r' ta tb tc)) := by
  intro pins s σ H Q I h
  refine isTrue_chain (thn (ha pins s σ H _ I h) fun v s1 ⟨x, H1, I1, r1, q1⟩ => test_link (thn (hb pins s1 σ H1 _ I1 q1) fun u s2 ⟨y, H2, I2, r2, q2⟩ =>
    thn (ho pins s2 σ H2 x y v u _ I2 r1 r2 q2) fun d s3 ⟨z, H3, I3, r3, k, e, q3⟩ => ?_)) hm
  subst e
  cases r3
  refine wpAny_truthy_bool ?_
  cases k with
  | false =>
    obtain ⟨k', e', q'⟩ := q3
    cases e'
    exact ite_ff ⟨H3, I3, q'⟩
  | true =>
    refine ite_tt (test_last (thn (hc pins s3 σ H3 _ I3 q3) fun w' s4 ⟨z', H4, I4, r4, q4⟩ => thn (ho' pins s4 σ H4 y z' u w' _ I4 r2 r4 q4) fun d' s5 ⟨z2, H5, I5, r5, k2, e2, q5⟩ => ?_))
    subst e2
    cases r5
    exact wpAny_truthy_bool ⟨H5, I5, q5⟩

/-! ### truth -/
/-- a value's truth by the abstract heap -/
def TruV (K : PySem.W.Frag) (x : V) (H : Hp) (k : Bool) : Prop :=
  match x with
  | .non => k = false
  | .bl b => k = b
  | .int i => k = (i != 0)
  | .str y => y.length ≤ sizeLine ∧ k = ((y.length : Int) != 0)
  | .byt y => y.size ≤ sizeLine ∧ k = ((y.size : Int) != 0)
  | .ref p => (∃ xs, SqL K H p xs ∧ k = !xs.isEmpty) ∨ (∃ xs, SqT K H p xs ∧ k = !xs.isEmpty) ∨ ∃ kvs, H p = some (.dK kvs) ∧ k = !kvs.isEmpty
  | _ => False
theorem isEmpty_kv {κ : Type} {kvs : List (κ × V)} {vs : List (κ × Value)} (r : KV kvs vs) : (!vs.isEmpty) = !kvs.isEmpty := by
  cases r <;> rfl
theorem isEmpty_of {xs : List V} {its : List Value} (r : Vals xs its) : (!its.toArray.isEmpty) = !xs.isEmpty := by
  cases r <;> simp
theorem line63 : (sizeLine : Nat) < 2 ^ 63 := by rw [sizeLine_eq]; decide
theorem tru_ok : TruR X (fun x H Q => ∃ k, TruV X.K x H k ∧ Q k H) := by
  intro pins s σ H x v Q I rx h
  obtain ⟨k, e, q⟩ := h
  have hl := line63
  have hs : sizeLine = 16777216 := sizeLine_eq
  cases x with
  | non =>
    cases rx
    have e' : k = false := e
    subst e'
    exact truthy_none ⟨H, I, q⟩
  | bl b =>
    cases rx
    have e' : k = b := e
    subst e'
    exact wpAny_truthy_bool ⟨H, I, q⟩
  | int i =>
    obtain ⟨t, rfl⟩ := rx
    have e' : k = (i != 0) := e
    subst e'
    exact PySem.P.truthy_int ⟨H, I, q⟩
  | str y =>
    obtain ⟨t, rfl⟩ := rx
    obtain ⟨hy, e'⟩ : y.length ≤ sizeLine ∧ k = ((y.length : Int) != 0) := e
    subst e'
    exact PySem.P.truthy_str (by omega) ⟨H, I.tok _, q⟩
  | byt y =>
    obtain ⟨t, rfl⟩ := rx
    obtain ⟨hy, e'⟩ : y.size ≤ sizeLine ∧ k = ((y.size : Int) != 0) := e
    subst e'
    exact PySem.W.truthy_bytes (by omega) ⟨H, I.tok _, q⟩
  | ref p =>
    cases rx
    have e' : (∃ xs, SqL X.K H p xs ∧ k = !xs.isEmpty) ∨ (∃ xs, SqT X.K H p xs ∧ k = !xs.isEmpty) ∨ ∃ kvs, H p = some (.dK kvs) ∧ k = !kvs.isEmpty := e
    rcases e' with ⟨xs, hx, e'⟩ | ⟨xs, hx, e'⟩ | ⟨kvs, hx, e'⟩
    · subst e'
      obtain ⟨its, r, pl, hz⟩ := I.list hx
      have hlen := r.length
      exact wpAny_truthy_list pl.isList (by simp only [List.size_toArray]; omega) ⟨H, I.tok _, by rw [isEmpty_of r]; exact q⟩
    · subst e'
      obtain ⟨its, r, pl, hz⟩ := I.tuple hx
      have hlen := r.length
      exact truthy_tuple pl (by simp only [List.size_toArray]; omega) ⟨H, I.tok _, by rw [isEmpty_of r]; exact q⟩
    · subst e'
      obtain ⟨hz, hS, vs, r, m⟩ : kvs.length ≤ sizeLine ∧ (p == sysModules) = false ∧ ∃ vs, KV kvs vs ∧ s.heap.DictOf (mixKind X.prog X.w) p vs := I.hok p _ hx
      have hlen : kvs.length = vs.length := Paired.length r
      exact wpAny_truthy_dict hS m (by omega) ⟨H, I.tok _, by rw [isEmpty_kv r]; exact q⟩
  | _ => exact (show False from e).elim
/-- any expression whose test is its value's truth (a name, a call, a subscript, a field ..: he by fun _ => rfl) -/
theorem pt_truth (ha : PE X a ta) (he : ∀ whole, isTrue a X.env whole = (do let v ← whole; standAt a.pos; holding [v] (truthy v))) :
    PT X a (fun σ H Q => ta σ H fun x H' => ∃ k, TruV X.K x H' k ∧ Q k H') := by
  intro pins s σ H Q I h
  exact isTrue_plain (thn (ha pins s σ H _ I h) fun v s1 ⟨x, H1, I1, r1, q1⟩ => tru_ok pins s1 σ H1 x v Q I1 r1 q1) (he _)

/-! ### strs and bytes -/
theorem pe_byt {x : List UInt8} {k : Nat} : PE X (.Constant (.bytes x) k pos) (fun _ H Q => Q (.byt x.toArray) H) := fun _ _ _ H _ I h => PySem.W.Constant_bytes ⟨.byt x.toArray, H, I.tok _, ⟨_, rfl⟩, h⟩
theorem op_add_str : OpR X (binaryOp .Add) (fun x y H Q => ∃ i j, x = .str i ∧ y = .str j ∧ i.length + j.length ≤ sizeLine ∧ Q (.str (i ++ j)) H) := by
  intro pins s σ H x y v u Q I rx ry h
  obtain ⟨i, j, rfl, rfl, hz, q⟩ := h
  obtain ⟨t, rfl⟩ := rx
  obtain ⟨t', rfl⟩ := ry
  exact add_str (fun t' tk => ⟨.str (i ++ j), H, I.tok _, ⟨_, rfl⟩, q⟩) hz
theorem iop_add_str : OpR X (inplaceOp .Add) (fun x y H Q => ∃ i j, x = .str i ∧ y = .str j ∧ i.length + j.length ≤ sizeLine ∧ Q (.str (i ++ j)) H) := by
  intro pins s σ H x y v u Q I rx ry h
  obtain ⟨i, j, rfl, rfl, hz, q⟩ := h
  obtain ⟨t, rfl⟩ := rx
  obtain ⟨t', rfl⟩ := ry
  exact iadd_str (fun t' tk => ⟨.str (i ++ j), H, I.tok _, ⟨_, rfl⟩, q⟩) hz
theorem op_add_byt : OpR X (binaryOp .Add) (fun x y H Q => ∃ i j, x = .byt i ∧ y = .byt j ∧ i.size + j.size ≤ 16777216 ∧ Q (.byt (i ++ j)) H) := by
  intro pins s σ H x y v u Q I rx ry h
  obtain ⟨i, j, rfl, rfl, hz, q⟩ := h
  obtain ⟨t, rfl⟩ := rx
  obtain ⟨t', rfl⟩ := ry
  exact PySem.W.KBy.add_bytes hz (fun t' tk => ⟨.byt (i ++ j), H, I.tok _, ⟨_, rfl⟩, q⟩)

def PlainIxT (b : Expr) : Prop := ∀ o i, subscripted b false o i = operate [o, i] (getItem o i)
/-- s[i], 0 ≤ i < len -/
theorem pe_item_str (ha : PE X a ta) (hb : PE X b tb) (hs : PlainIxT b) :
    PE X (.Subscript a b pos) (tOp (fun x y H Q => ∃ z i c, x = .str z ∧ y = .int i ∧ 0 ≤ i ∧ i < 2 ^ 63 ∧ i < z.length ∧ z.cps[i.toNat]? = some c ∧ Q (.str ⟨#[c]⟩) H) ta tb) := by
  intro pins s σ H Q I h
  refine Subscript_ (binT ha hb I h fun v u s2 x y H2 I2 rx ry q => ?_)
  obtain ⟨z, i, c, rfl, rfl, h0, h63, h1, hc, q⟩ := q
  obtain ⟨t, rfl⟩ := rx
  obtain ⟨t', rfl⟩ := ry
  have e : seqIndex? i z.length = some i.toNat := PySem.StrLaws.seqIndex_nonneg h0 h1
  exact tail_any (typeIs_str s2 z t) slot_str_getitem.lookup (getItem_str (c := c) (by
    have e1 : decide (i < -(2 ^ 63 : Int)) = false := decide_eq_false (by omega)
    have e2 : decide (i ≥ 2 ^ 63) = false := decide_eq_false (by omega)
    rw [e1, e2] <;> rfl) (by rw [e]; exact hc) ⟨.str ⟨#[c]⟩, H2, I2.tok _, ⟨_, rfl⟩, q⟩) (hs _ _)
/-- b[i], 0 ≤ i < len -/
theorem pe_item_byt (ha : PE X a ta) (hb : PE X b tb) (hs : PlainIxT b) :
    PE X (.Subscript a b pos) (tOp (fun x y H Q => ∃ (z : List UInt8) (i : Int), x = .byt z.toArray ∧ y = .int i ∧ z.length ≤ sizeLine ∧ 0 ≤ i ∧ i < z.length ∧ Q (.int ((z.getD i.toNat 0).toNat : Nat)) H) ta tb) := by
  intro pins s σ H Q I h
  refine Subscript_ (binT ha hb I h fun v u s2 x y H2 I2 rx ry q => ?_)
  obtain ⟨z, i, rfl, rfl, hz, h0, h1, q⟩ := q
  obtain ⟨t, rfl⟩ := rx
  obtain ⟨t', rfl⟩ := ry
  have hl : sizeLine = 16777216 := sizeLine_eq
  exact tail_any (PySem.W.typeIs_bytes s2 z.toArray t) PySem.W.FB.slot_bytes_getitem.lookup (PySem.W.getItem_bytes (by omega) h0 h1 ⟨.int ((z.getD i.toNat 0).toNat : Nat), H2, I2.tok _, ⟨_, rfl⟩, q⟩) (hs _ _)

/-! ### scalar builtins, by CallR -/
theorem vals1 {x : V} {us : List Value} (r : Vals [x] us) : ∃ u, us = [u] ∧ RelV x u := by
  cases r with
  | cons r1 r2 => cases r2; exact ⟨_, rfl, r1⟩
theorem vals2 {x y : V} {us : List Value} (r : Vals [x, y] us) : ∃ u w', us = [u, w'] ∧ RelV x u ∧ RelV y w' := by
  cases r with
  | cons r1 r2 =>
    cases r2 with
    | cons r3 r4 => cases r4; exact ⟨_, _, rfl, r1, r3⟩
theorem call_abs : CallR X (.builtin "abs") (fun xs H Q => ∃ i, xs = [.int i] ∧ Q (.int (if i < 0 then -i else i)) H) := by
  intro pins s σ H xs us Q I r h
  obtain ⟨i, rfl, q⟩ := h
  obtain ⟨u, rfl, t, rfl⟩ := vals1 r
  exact call_abs_int fun u tk => ⟨.int (if i < 0 then -i else i), H, I.tok _, ⟨_, rfl⟩, q⟩
theorem call_max2 (hc : X.calm = true) : CallR X (.builtin "max") (fun xs H Q => ∃ i j, xs = [.int i, .int j] ∧ Q (.int (if j > i then j else i)) H) := by
  intro pins s σ H xs us Q I r h
  obtain ⟨i, j, rfl, q⟩ := h
  obtain ⟨u, w', rfl, ⟨t, rfl⟩, ⟨t', rfl⟩⟩ := vals2 r
  refine max_two_ints (I.ok.hd hc) fun h' tk k => ⟨_, H, I.kept k, ?_, q⟩
  by_cases hj : j > i
  · rw [if_pos hj, if_pos hj]; exact ⟨_, rfl⟩
  · rw [if_neg hj, if_neg hj]; exact ⟨_, rfl⟩
theorem call_min2 (hc : X.calm = true) : CallR X (.builtin "min") (fun xs H Q => ∃ i j, xs = [.int i, .int j] ∧ Q (.int (if j < i then j else i)) H) := by
  intro pins s σ H xs us Q I r h
  obtain ⟨i, j, rfl, q⟩ := h
  obtain ⟨u, w', rfl, ⟨t, rfl⟩, ⟨t', rfl⟩⟩ := vals2 r
  refine min_two_ints (I.ok.hd hc) fun h' tk k => ⟨_, H, I.kept k, ?_, q⟩
  by_cases hj : j < i
  · rw [if_pos hj, if_pos hj]; exact ⟨_, rfl⟩
  · rw [if_neg hj, if_neg hj]; exact ⟨_, rfl⟩
theorem call_int1 : CallR X (.type "int") (fun xs H Q => (∃ i, xs = [.int i] ∧ Q (.int i) H) ∨ ∃ k, xs = [.bl k] ∧ Q (.int (if k then 1 else 0)) H) := by
  intro pins s σ H xs us Q I r h
  rcases h with ⟨i, rfl, q⟩ | ⟨k, rfl, q⟩
  · obtain ⟨u, rfl, t, rfl⟩ := vals1 r
    exact call_int_int ⟨.int i, H, I, ⟨_, rfl⟩, q⟩
  · obtain ⟨u, rfl, r1⟩ := vals1 r
    cases r1
    exact call_int_bool ⟨.int (if k then 1 else 0), H, I.tok _, ⟨_, rfl⟩, q⟩
theorem call_bool1 : CallR X (.type "bool") (fun xs H Q => (∃ i, xs = [.int i] ∧ Q (.bl (i != 0)) H) ∨ ∃ k, xs = [.bl k] ∧ Q (.bl k) H) := by
  intro pins s σ H xs us Q I r h
  rcases h with ⟨i, rfl, q⟩ | ⟨k, rfl, q⟩
  · obtain ⟨u, rfl, t, rfl⟩ := vals1 r
    exact call_bool_int ⟨.bl (i != 0), H, I, rfl, q⟩
  · obtain ⟨u, rfl, r1⟩ := vals1 r
    cases r1
    exact call_bool_bool ⟨.bl k, H, I, rfl, q⟩
theorem call_str_int : CallR X (.type "str") (fun xs H Q => ∃ i, xs = [.int i] ∧ i.natAbs.log2 < 1920 ∧ Q (.str (toString i)) H) := by
  intro pins s σ H xs us Q I r h
  obtain ⟨i, rfl, hz, q⟩ := h
  obtain ⟨u, rfl, t, rfl⟩ := vals1 r
  exact PySem.P.str_of_int hz ⟨.str _, H, I.tok _, ⟨_, rfl⟩, q⟩
theorem call_ord : CallR X (.builtin "ord") (fun xs H Q => ∃ x, xs = [.str x] ∧ x.length = 1 ∧ Q (.int (x.cps.getD 0 0 : Nat)) H) := by
  intro pins s σ H xs us Q I r h
  obtain ⟨x, rfl, hz, q⟩ := h
  obtain ⟨u, rfl, t, rfl⟩ := vals1 r
  exact ord_of_one hz ⟨.int _, H, I.tok _, ⟨_, rfl⟩, q⟩
theorem call_chr : CallR X (.builtin "chr") (fun xs H Q => ∃ i, xs = [.int i] ∧ 0 ≤ i ∧ i ≤ 1114111 ∧ Q (.str ⟨#[i.toNat]⟩) H) := by
  intro pins s σ H xs us Q I r h
  obtain ⟨i, rfl, h0, h1, q⟩ := h
  obtain ⟨u, rfl, t, rfl⟩ := vals1 r
  exact chr_of_range h0 h1 ⟨.str _, H, I.tok _, ⟨_, rfl⟩, q⟩
/-- len of a str, a bytes, a list, a tuple -/
def LenV (K : PySem.W.Frag) (x : V) (H : Hp) (n : Nat) : Prop :=
  match x with
  | .str y => y.length ≤ sizeLine ∧ n = y.length
  | .byt y => y.size ≤ sizeLine ∧ n = y.size
  | .ref p => (∃ xs, SqL K H p xs ∧ n = xs.length) ∨ ∃ xs, SqT K H p xs ∧ n = xs.length
  | _ => False
theorem call_len : CallR X (.builtin "len") (fun xs H Q => ∃ x n, xs = [x] ∧ LenV X.K x H n ∧ Q (.int n) H) := by
  intro pins s σ H xs us Q I r h
  obtain ⟨x, n, rfl, e, q⟩ := h
  obtain ⟨u, rfl, rx⟩ := vals1 r
  have hl := line63
  have hs : sizeLine = 16777216 := sizeLine_eq
  cases x with
  | str y =>
    obtain ⟨t, rfl⟩ := rx
    obtain ⟨hy, e'⟩ : y.length ≤ sizeLine ∧ n = y.length := e
    subst e'
    exact len_str (by omega) ⟨.int _, H, I.tok _, ⟨_, rfl⟩, q⟩
  | byt y =>
    obtain ⟨t, rfl⟩ := rx
    obtain ⟨hy, e'⟩ : y.size ≤ sizeLine ∧ n = y.size := e
    subst e'
    exact PySem.W.len_bytes (by omega) ⟨.int _, H, I.tok _, ⟨_, rfl⟩, q⟩
  | ref p =>
    cases rx
    have e' : (∃ xs, SqL X.K H p xs ∧ n = xs.length) ∨ ∃ xs, SqT X.K H p xs ∧ n = xs.length := e
    rcases e' with ⟨xs, hx, e'⟩ | ⟨xs, hx, e'⟩
    · subst e'
      obtain ⟨its, r', pl, hz⟩ := I.list hx
      have hlen := r'.length
      exact Calls.call_len_list pl.isList (by simp only [List.size_toArray]; omega) ⟨.int xs.length, H, I.tok _, ⟨_, by simp only [List.size_toArray]; rw [hlen]⟩, q⟩
    · subst e'
      obtain ⟨its, r', pl, hz⟩ := I.tuple hx
      have hlen := r'.length
      exact len_tuple pl (by simp only [List.size_toArray]; omega) ⟨.int xs.length, H, I.tok _, ⟨_, by simp only [List.size_toArray]; rw [hlen]⟩, q⟩
  | _ => exact (show False from e).elim
/-- divmod: a new tuple -/
theorem call_divmod : CallR X (.builtin "divmod") (fun xs H Q => ∃ i j, xs = [.int i, .int j] ∧ CDiv i j ∧ ∀ p, H p = none → Q (.ref p) (upd H p (.tup [.int (i / j), .int (i % j)]))) := by
  intro pins s σ H xs us Q I r h
  obtain ⟨i, j, rfl, ⟨h1, h2⟩, q⟩ := h
  obtain ⟨u, w', rfl, ⟨t, rfl⟩, ⟨t', rfl⟩⟩ := vals2 r
  refine divmod_int (by omega) ?_ (.inl (PyProof.noPylong_small (by omega)))
  rw [Int.fdiv_eq_ediv_of_nonneg i (by omega), Int.fmod_eq_emod_of_nonneg i (by omega)]
  have hn : H s.heap.objs.size = none := I.hok.fresh (Nat.le_refl _)
  refine ⟨.ref s.heap.objs.size, _, ?_, rfl, q _ hn⟩
  refine I.laid (fun b o e => Heap.get?_push_of_some _ e) (Nat.le_refl _) ⟨by simp only [List.length_cons, List.length_nil]; rw [sizeLine_eq]; decide, [.int (i / j) s.toks, .int (i % j) (s.toks + 1)], .cons ⟨_, rfl⟩ (.cons ⟨_, rfl⟩ .nil), ?_⟩
  exact ⟨_, Heap.get?_push_size s.heap rfl, rfl, 0, rfl⟩
end
end L2

namespace L2
open PySem PySem.Spec PyProof.Rows

/-! ### an instance, its attributes a map -/
structure ObjM (h : Heap) (x dx C : Addr) (mA : Str → Option Value) : Prop where
  obj : h.get? x = some (PySem.W.instObj C dx)
  ns : h.Ns1 dx mA
  ne : dx ≠ x

theorem lookIn_ns {h : Heap} {dx : Addr} {mA : Str → Option Value} (n : h.Ns1 dx mA) : ∃ od, h.get? dx = some od ∧ ∀ name, PySem.W.lookIn name od = some (mA name) := by
  obtain ⟨o, es, ep, ho, hd, hk, _, hm⟩ := n
  refine ⟨o, ho, fun name => ?_⟩
  have e := hm name
  unfold nsFind findBy at e
  rw [← Array.find?_toList] at e
  unfold PySem.W.lookIn
  rw [hd]
  dsimp only
  split
  · rename_i y q
    rw [q] at e
    exact congrArg some e
  · rename_i q
    rw [q] at e
    have a : es.toList.any (·.refKey) = false := by
      rw [List.any_eq_false]
      intro y hy
      obtain ⟨z, t, hkey⟩ := hk y (Array.mem_toList_iff.mp hy)
      simp [DictEntry.refKey, hkey]
    have a' : ¬ es.toList.any (·.refKey) = true := by rw [a]; exact Bool.false_ne_true
    rw [if_neg a']
    exact congrArg some e

theorem ObjM.look {h : Heap} {x dx C : Addr} {mA : Str → Option Value} (I : ObjM h x dx C mA) : ∃ od, PySem.W.InstAt h x (PySem.W.instObj C dx) C (some od) ∧ ∀ name, PySem.W.lookIn name od = some (mA name) :=
  let ⟨od, ho, hl⟩ := lookIn_ns I.ns
  ⟨od, ⟨I.obj, rfl, rfl, ho⟩, hl⟩

section
variable {prog : Program} {w : World} {A : Around} {E : Value → Shared → Prop} {s : Shared} {K : PySem.W.Frag} {x dx C f : Addr} {mA : Str → Option Value} {name : Str} {v : Value}

theorem get_map {expr : Bool} {Q : Value → Shared → Prop} (X : K.In s.heap) (I : ObjM s.heap x dx C mA) (hg : PySem.W.plainGet K C name = true) (hh : PySem.W.hasDictIn K C = true)
    (ha : PySem.W.findIn K (.ref C) name = some none) (hv : mA name = some v) (hv' : PySem.W.handedIn v = true) (h : Q v { s with toks := s.toks + 1 }) :
    wpAny (model prog w) A (getAttr (.ref x) name expr) Q E s := by
  obtain ⟨od, J, hl⟩ := I.look
  exact PySem.W.get_value X J (PySem.W.plainGet_of hg).1 (PySem.W.findObj_own hh ha rfl (by rw [hl, hv])) hv' h

theorem get_const {expr : Bool} {a : Value} {Q : Value → Shared → Prop} (X : K.In s.heap) (I : ObjM s.heap x dx C mA) (hg : PySem.W.plainGet K C name = true) (hh : PySem.W.hasDictIn K C = true)
    (ha : PySem.W.findIn K (.ref C) name = some (some a)) (hn : PySem.W.specialIn K a "__get__" = some none) (hc : PySem.W.copiedNames.contains name = false) (hv : mA name = none) (hv' : PySem.W.handedIn a = true)
    (h : Q a { s with toks := s.toks + 1 }) : wpAny (model prog w) A (getAttr (.ref x) name expr) Q E s := by
  obtain ⟨od, J, hl⟩ := I.look
  exact PySem.W.get_value X J (PySem.W.plainGet_of hg).1 (PySem.W.findObj_cls hh ha hn hv' hc (by rw [hl, hv])) hv' h

theorem get_meth {pl : Sem Bool} {Q : Value × List Value → Shared → Prop} (X : K.In s.heap) (I : ObjM s.heap x dx C mA) (hg : PySem.W.plainGet K C name = true)
    (hf : PySem.W.findIn K (.ref C) name = some (some (.ref f))) (ht : PySem.W.isFn K (.ref f) = true) (hv : mA name = none) (h : Q (.ref f, [.ref x]) s) :
    wpAny (model prog w) A (getMethod (.ref x) name pl) Q E s := by
  obtain ⟨od, J, hl⟩ := I.look
  exact PySem.W.method_fn X J (PySem.W.plainGet_of hg).1 (PySem.W.plainGet_of hg).2 hf (beq_iff_eq.mp ht) (by show (PySem.W.lookIn name od).map (·.isSome) = some false; rw [hl, hv]; rfl) h

theorem set_map {ns : List Str} {Q : Unit → Shared → Prop} (X : K.In s.heap) (I : ObjM s.heap x dx C mA)
    (hs : PySem.W.findIn K (.ref C) "__setattr__" = some (some (.builtin "object.__setattr__"))) (hp : PySem.W.plainOver K C = true) (ht : PySem.W.takerIn K C name = some none) (hh : PySem.W.hasDictIn K C = true)
    (hw : PySem.Within mA ns) (hsz : ns.length ≤ sizeLine)
    (h : ∀ h', ObjM h' x dx C (fun y => if y = name then some v else mA y) → Heap.SameBut dx s.heap h' → Q () { s with heap := h', toks := s.toks + 2 }) :
    wpAny (model prog w) A (setAttr (.ref x) name v) Q E s := by
  obtain ⟨od, J, hl⟩ := I.look
  refine PySem.W.set_plain X J hs (PySem.W.osa_open (s := { s with toks := s.toks + 1 }) (r := none) X J hp ht fun b => ?_)
  obtain ⟨cd, hc, hd'⟩ := PySem.W.any_some hh
  have hx : s.heap.get? x = some ⟨.ref C, some dx, .plain, #[]⟩ := I.obj
  refine wpAny_bind (wpAny_pure (wpAny_bind (wpAny_bind (wpAny_loadPart hx (wpAny_bind (PySem.W.Looks.here (s := { s with toks := s.toks + 1 }) (PySem.W.looks_clsIn X hc) ?_))))))
  rw [hd']
  refine wpAny_pure (a := some dx) (wpAny_bind (wpAny_pure (wpAny_bind ?_)))
  refine wpAny_nsSet1 (s := { s with toks := s.toks + 1 }) I.ns fun h' hn2 hs2 => ?_
  obtain ⟨oD, esD, epD, hoD, hdD, hcD⟩ := hn2.count (PySem.Within.cons name v hw)
  refine wpAny_bind (wpAny_lookBehind hoD (by rw [hdD]; exact pastItsLine_dict (Nat.le_trans hcD (by rw [List.length_cons]; omega))) ?_)
  exact wpAny_pure (h _ ⟨(hs2.2 _ (Ne.symm I.ne)).trans I.obj, hn2, I.ne⟩ hs2)

/-- C(..): the dict at the heap's end, the instance behind it; then its __init__ -/
theorem make_map {R : Result → Shared → Prop} {vs : List Value} {kw : List (Str × Value)} (X : K.In s.heap) (hm : PySem.W.makesIn K C = true)
    (hi : PySem.W.findIn K (.ref C) "__init__" = some (some (.ref f))) (hf : PySem.W.typeIn K (.ref f) = some (.type "function"))
    (h : codeAny (model prog w) (A.under (.builtin "type.__call__" ⟨.ref C :: vs, kw⟩)) (.call (.ref f) ⟨.ref (s.heap.objs.size + 1) :: vs, kw⟩) (PySem.W.InitBack (s.heap.objs.size + 1) R)
      { s with heap := (s.heap.push PySem.W.emptyDict).push (PySem.W.instObj C s.heap.objs.size) }) :
    codeAny (model prog w) A (.call (.ref C) ⟨vs, kw⟩) R s := by
  obtain ⟨hh, g, d, t, os⟩ := s
  exact PySem.W.make_core (PySem.W.makes_of X hm) (PySem.W.looks_findIn X hi) (fun self => PySem.W.bind_fn X self hf) (.inl rfl) h
/-- C() where there is no __init__ but object's -/
theorem make_map0 {R : Result → Shared → Prop} (X : K.In s.heap) (hm : PySem.W.makesIn K C = true)
    (hi : PySem.W.findIn K (.ref C) "__init__" = some (some (.builtin "object.__init__")))
    (hb : ∀ self, PySem.W.Looks (model prog w) s.heap (bindSpecial (.builtin "object.__init__") self) (.builtin "object.__init__", [self]))
    (h : codeAny (model prog w) (A.under (.builtin "type.__call__" ⟨[.ref C], []⟩)) (.call (.builtin "object.__init__") ⟨[.ref (s.heap.objs.size + 1)], []⟩) (PySem.W.InitBack (s.heap.objs.size + 1) R)
      { s with heap := (s.heap.push PySem.W.emptyDict).push (PySem.W.instObj C s.heap.objs.size) }) :
    codeAny (model prog w) A (.call (.ref C) ⟨[], []⟩) R s := by
  obtain ⟨hh, g, d, t, os⟩ := s
  exact PySem.W.make_core (PySem.W.makes_of X hm) (PySem.W.looks_findIn X hi) hb (.inr ⟨rfl, rfl⟩) h
end

/-! ### the attributes as a list of pairs -/
def putF (f : Str) (v : V) : List (Str × V) → List (Str × V)
  | [] => [(f, v)]
  | (g, x) :: r => if g = f then (g, v) :: r else (g, x) :: putF f v r
theorem lookup_putF (f g : Str) (v : V) : ∀ fs : List (Str × V), (putF f v fs).lookup g = if g = f then some v else fs.lookup g
  | [] => by
    show List.lookup g [(f, v)] = _
    by_cases h : g = f
    · have hb : (g == f) = true := beq_iff_eq.mpr h
      simp only [List.lookup, hb, if_pos h]
    · have hb : (g == f) = false := beq_eq_false_iff_ne.mpr h
      simp only [List.lookup, hb, if_neg h]
  | (k, x) :: r => by
    have ih := lookup_putF f g v r
    rw [show putF f v ((k, x) :: r) = (if k = f then (k, v) :: r else (k, x) :: putF f v r) from rfl]
    by_cases hk : k = f
    · rw [if_pos hk]
      by_cases h : g = k
      · have hb : (g == k) = true := beq_iff_eq.mpr h
        simp only [List.lookup, hb, if_pos (h.trans hk)]
      · have hb : (g == k) = false := beq_eq_false_iff_ne.mpr h
        simp only [List.lookup, hb, if_neg (fun e : g = f => h (e.trans hk.symm))]
    · rw [if_neg hk]
      by_cases h : g = k
      · have hb : (g == k) = true := beq_iff_eq.mpr h
        simp only [List.lookup, hb, if_neg (fun e : g = f => hk (h.symm.trans e))]
      · have hb : (g == k) = false := beq_eq_false_iff_ne.mpr h
        simp only [List.lookup, hb]
        exact ih
theorem keys_putF (f : Str) (v : V) : ∀ fs : List (Str × V), f ∈ (putF f v fs).map (·.1) ∧ ∀ g, g ∈ fs.map (·.1) → g ∈ (putF f v fs).map (·.1)
  | [] => ⟨by simp [putF], fun g h => by simp at h⟩
  | (k, x) :: r => by
    obtain ⟨i1, i2⟩ := keys_putF f v r
    rw [show putF f v ((k, x) :: r) = (if k = f then (k, v) :: r else (k, x) :: putF f v r) from rfl]
    by_cases hk : k = f
    · rw [if_pos hk]
      subst hk
      exact ⟨by simp, fun g h => by simpa using h⟩
    · rw [if_neg hk]
      refine ⟨?_, fun g h => ?_⟩
      · rw [List.map_cons]
        exact List.mem_cons_of_mem _ i1
      · rw [List.map_cons] at h ⊢
        rcases List.mem_cons.mp h with e | e
        · exact List.mem_cons.mpr (.inl e)
        · exact List.mem_cons_of_mem _ (i2 g e)
theorem length_putF (f : Str) (v : V) : ∀ fs : List (Str × V), (putF f v fs).length ≤ fs.length + 1
  | [] => by simp [putF]
  | (k, x) :: r => by
    have ih := length_putF f v r
    rw [show putF f v ((k, x) :: r) = (if k = f then (k, v) :: r else (k, x) :: putF f v r) from rfl]
    by_cases hk : k = f
    · rw [if_pos hk, List.length_cons, List.length_cons]; omega
    · rw [if_neg hk, List.length_cons, List.length_cons]; omega

theorem RelO.some_of {v : V} {o : Option Value} (r : RelO (some v) o) : ∃ u, o = some u ∧ RelV v u := by
  cases o with
  | none => exact (show False from r).elim
  | some u => exact ⟨u, rfl, r⟩
theorem RelO.none_of {o : Option Value} (r : RelO none o) : o = none := by
  cases o with
  | none => rfl
  | some u => exact (show False from r).elim
theorem handed_of {v : V} {u : Value} (r : RelV v u) : PySem.W.handedIn u = true := by
  cases v with
  | non => cases (show u = Value.none from r); rfl
  | bl b => cases (show u = Value.bool b from r); rfl
  | int i => obtain ⟨t, e⟩ := (show ∃ t, u = Value.int i t from r); cases e; rfl
  | str x => obtain ⟨t, e⟩ := (show ∃ t, u = Value.str x t from r); cases e; rfl
  | byt b => obtain ⟨t, e⟩ := (show ∃ t, u = Value.bytes b t from r); cases e; rfl
  | flt b => obtain ⟨t, e⟩ := (show ∃ t, u = Value.float b t from r); cases e; rfl
  | ref a => cases (show u = Value.ref a from r); rfl
  | ty n => cases (show u = Value.type n from r); rfl

section
variable {P : Program} {w : World} {H H' : Hp} {h h' : Heap} {a C dx : Addr} {fs fs' : List (Str × V)}
theorem ins_get (hok : HOk P w H h) (e : H a = some (.ins C dx fs)) : ∃ mA, ObjM h a dx C mA ∧ (∀ f, RelO (fs.lookup f) (mA f)) ∧ PySem.Within mA (fs.map (·.1)) ∧ fs.length ≤ 1000 ∧ H dx = some (.own a) := by
  obtain ⟨d, z, ne, ob, mA, n, r, q⟩ := (show ObjOk P w H h a (.ins C dx fs) from hok a _ e)
  exact ⟨mA, ⟨ob, n, ne⟩, r, q, z, d⟩
end

/-! ### what of the text a class must have -/
structure Cls (K : PySem.W.Frag) (C : Addr) : Prop where
  pg : PySem.W.plainGet K C Str.empty = true
  hd : PySem.W.hasDictIn K C = true
  po : PySem.W.plainOver K C = true
  sa : PySem.W.findIn K (.ref C) "__setattr__" = some (some (.builtin "object.__setattr__"))
theorem Cls.get {K : PySem.W.Frag} {C : Addr} (c : Cls K C) (f : Str) : PySem.W.plainGet K C f = true := c.pg
/-- no class of it has the name -/
def NoAttr (K : PySem.W.Frag) (C : Addr) (f : Str) : Prop := PySem.W.findIn K (.ref C) f = some none
theorem NoAttr.taker {K : PySem.W.Frag} {C : Addr} {f : Str} (n : NoAttr K C f) : PySem.W.takerIn K C f = some none := by
  unfold PySem.W.takerIn
  rw [show PySem.W.findIn K (.ref C) f = some none from n]
  rfl
/-- a constant of the class -/
structure Con (K : PySem.W.Frag) (C : Addr) (f : Str) (v : V) (u : Value) : Prop where
  at_ : PySem.W.findIn K (.ref C) f = some (some u)
  rel : RelV v u
  get : PySem.W.specialIn K u "__get__" = some none
  cp : PySem.W.copiedNames.contains f = false
/-- a method: a plain def of the class or of one above it -/
structure Meth (K : PySem.W.Frag) (C : Addr) (m : Str) (f : Addr) : Prop where
  at_ : PySem.W.findIn K (.ref C) m = some (some (.ref f))
  fn : PySem.W.isFn K (.ref f) = true
  kp : PySem.W.keepIn K (.ref f) = true

section
variable {X : Cx} {pins : List (Addr × Obj)} {σ : St} {H : Hp} {s : Shared} {a C dx : Addr} {fs : List (Str × V)} {f : Str} {v : V} {A : Around} {E : Value → Shared → Prop}

theorem getattr_ok {b : Bool} {Q : Value → Shared → Prop} (I : Inv X pins σ H s) (e : H a = some (.ins C dx fs)) (c : Cls X.K C) (n : NoAttr X.K C f) (l : fs.lookup f = some v)
    (h : ∀ u s', Inv X pins σ H s' → RelV v u → Q u s') : wpAny (model X.prog X.w) A (getAttr (.ref a) f b) Q E s := by
  obtain ⟨mA, O, r, _, _, _⟩ := ins_get I.hok e
  obtain ⟨u, hu, ru⟩ := RelO.some_of (v := v) (o := mA f) (by rw [← l]; exact r f)
  exact get_map I.kIn O (c.get f) c.hd n hu (handed_of ru) (h u _ (I.tok _) ru)

theorem getcon_ok {b : Bool} {u : Value} {Q : Value → Shared → Prop} (I : Inv X pins σ H s) (e : H a = some (.ins C dx fs)) (c : Cls X.K C) (k : Con X.K C f v u) (l : fs.lookup f = none)
    (h : ∀ s', Inv X pins σ H s' → Q u s') : wpAny (model X.prog X.w) A (getAttr (.ref a) f b) Q E s := by
  obtain ⟨mA, O, r, _, _, _⟩ := ins_get I.hok e
  have hn : mA f = none := RelO.none_of (by rw [← l]; exact r f)
  exact get_const I.kIn O (c.get f) c.hd k.at_ k.get k.cp hn (handed_of k.rel) (h _ (I.tok _))

theorem getmeth_ok {m : Str} {g : Addr} {pl : Sem Bool} {Q : Value × List Value → Shared → Prop} (I : Inv X pins σ H s) (e : H a = some (.ins C dx fs)) (c : Cls X.K C) (k : Meth X.K C m g) (l : fs.lookup m = none)
    (h : Q (.ref g, [.ref a]) s) : wpAny (model X.prog X.w) A (getMethod (.ref a) m pl) Q E s := by
  obtain ⟨mA, O, r, _, _, _⟩ := ins_get I.hok e
  have hn : mA m = none := RelO.none_of (by rw [← l]; exact r m)
  exact get_meth I.kIn O (c.get m) k.at_ k.fn hn h

theorem setattr_ok {y : V} {u : Value} {Q : Unit → Shared → Prop} (I : Inv X pins σ H s) (e : H a = some (.ins C dx fs)) (c : Cls X.K C) (n : NoAttr X.K C f) (hl : fs.length < 1000) (ry : RelV y u)
    (h : ∀ s', Inv X pins σ (upd H a (.ins C dx (putF f y fs))) s' → Q () s') : wpAny (model X.prog X.w) A (setAttr (.ref a) f u) Q E s := by
  obtain ⟨mA, O, r, wi, _, ho⟩ := ins_get I.hok e
  have hz : (fs.map (·.1)).length ≤ sizeLine := by rw [List.length_map, sizeLine_eq]; omega
  refine set_map I.kIn O c.sa c.po n.taker c.hd wi hz fun h' O' sb => h _ ?_
  have hd : ∃ o, h'.get? dx = some o := let ⟨o, _, _, e', _⟩ := O'.ns; ⟨o, e'⟩
  refine I.write (x := a) (e := dx) (by rw [e]; exact True.intro) (.inr ho) (fun b q hb z => (sb.2 b hb).trans z) hd ?_
  refine ⟨by rw [upd_ne O.ne]; exact ho, ?_, O.ne, O'.obj, _, O'.ns, fun g => ?_, fun g hg => ?_⟩
  · have := length_putF f y fs; omega
  · show RelO ((putF f y fs).lookup g) (if g = f then some u else mA g)
    rw [lookup_putF]
    by_cases q : g = f
    · rw [if_pos q, if_pos q]; exact ry
    · rw [if_neg q, if_neg q]; exact r g
  · by_cases q : g = f
    · rw [q]; exact (keys_putF f y fs).1
    · refine (keys_putF f y fs).2 g (wi g fun z => hg ?_)
      show (if g = f then some u else mA g) = none
      rw [if_neg q]; exact z

/-- a new instance, tracked, without attributes -/
theorem Inv.made (I : Inv X pins σ H s) : Inv X pins σ (upd (upd H s.heap.objs.size (.own (s.heap.objs.size + 1))) (s.heap.objs.size + 1) (.ins C s.heap.objs.size []))
    { s with heap := (s.heap.push PySem.W.emptyDict).push (PySem.W.instObj C s.heap.objs.size) } := by
  have e1 : (s.heap.push PySem.W.emptyDict).get? s.heap.objs.size = some PySem.W.emptyDict := Heap.get?_push_size s.heap rfl
  have e2 : ((s.heap.push PySem.W.emptyDict).push (PySem.W.instObj C s.heap.objs.size)).get? (s.heap.objs.size + 1) = some (PySem.W.instObj C s.heap.objs.size) := by
    have := Heap.get?_push_size (s.heap.push PySem.W.emptyDict) (o := PySem.W.instObj C s.heap.objs.size) rfl
    rwa [Heap.size_push] at this
  have e3 : (s.heap.push PySem.W.emptyDict).Ns s.heap.objs.size (fun _ => none) := ⟨PySem.W.emptyDict, #[], _, e1, rfl, (fun e he => absurd he (by simp)), fun _ => rfl⟩
  have I1 := I.laid (a := s.heap.objs.size) (o := .own (s.heap.objs.size + 1)) (h' := s.heap.push PySem.W.emptyDict) (t' := s.toks) (fun b u q => Heap.get?_push_of_some _ q) (Nat.le_refl _) ⟨_, e1⟩
  refine I1.laid (a := s.heap.objs.size + 1) (o := .ins C s.heap.objs.size []) (t' := s.toks) (fun b u q => Heap.get?_push_of_some _ q) (Nat.le_of_eq (Heap.size_push _ _)) ?_
  have ne : s.heap.objs.size ≠ s.heap.objs.size + 1 := Nat.ne_of_lt (Nat.lt_succ_self _)
  refine ⟨by rw [upd_ne ne, upd_same], Nat.zero_le _, ne, e2, fun _ => none, (Heap.Ns1.of_empty e3).at fun o q => Heap.get?_push_of_some _ q, fun _ => True.intro, fun y hy => absurd rfl hy⟩

/-- e.f where nothing but the object is asked: through attributeBase (super) and the last hold -/
theorem attr_of {prog : Program} {w : World} {env : Env} {e : Expr} {f : Str} {pos : Pos} {s : Shared} {Q : Value → Shared → Prop} (hb : attributeBase e f env (eval e env) = eval e env)
    (h : wpAny (model prog w) A (eval e env) (fun o s₁ => wpAny (model prog w) A (getAttr o f true) Q E s₁) E s) : wpAny (model prog w) A (eval (.Attribute e f pos) env) Q E s :=
  Attribute_any_ h (by rw [arm_eval_Attribute, hb])
end

/-! ### readings and rules -/
/-- e.f, an attribute of the instance -/
def tFld (K : PySem.W.Frag) (ta : TE) (f : Str) : TE := fun σ H Q => ta σ H fun x H1 => ∃ a C dx fs v, x = .ref a ∧ H1 a = some (.ins C dx fs) ∧ Cls K C ∧ NoAttr K C f ∧ fs.lookup f = some v ∧ Q v H1
/-- e.f, a constant of the class -/
def tCon (K : PySem.W.Frag) (ta : TE) (f : Str) : TE := fun σ H Q => ta σ H fun x H1 => ∃ a C dx fs v u, x = .ref a ∧ H1 a = some (.ins C dx fs) ∧ Cls K C ∧ Con K C f v u ∧ fs.lookup f = none ∧ Q v H1
/-- e.f = value -/
def sFld (K : PySem.W.Frag) (ta tv : TE) (f : Str) : TS := fun D σ H => tv σ H fun y H1 => ta σ H1 fun x H2 => ∃ a C dx fs, x = .ref a ∧ H2 a = some (.ins C dx fs) ∧ Cls K C ∧ NoAttr K C f ∧ fs.length < 1000 ∧
  D.nx σ (upd H2 a (.ins C dx (putF f y fs)))
/-- an augmented operator on two values -/
def InOp (X : Cx) (op : Operator) (rd : V → V → Hp → VK → Prop) : Prop :=
  ∀ (pins : List (Addr × Obj)) (s : Shared) (σ : St) (H : Hp) (x y : V) (u v : Value) (Q : VK), Inv X pins σ H s → RelV x u → RelV y v → rd x y H Q → wpAny (model X.prog X.w) X.A (inplaceOp op u v) (EP X pins σ Q) X.xe s
/-- e.f op= value -/
def sFldAug (K : PySem.W.Frag) (ta tv : TE) (rd : V → V → Hp → VK → Prop) (f : Str) : TS := fun D σ H => ta σ H fun x H1 => ∃ a C dx fs v, x = .ref a ∧ H1 a = some (.ins C dx fs) ∧ Cls K C ∧ NoAttr K C f ∧ fs.lookup f = some v ∧
  tv σ H1 fun y H2 => rd v y H2 fun z H3 => ∃ dx' fs', H3 a = some (.ins C dx' fs') ∧ fs'.length < 1000 ∧ D.nx σ (upd H3 a (.ins C dx' (putF f z fs')))

section
variable {X : Cx} {o e value : Expr} {f : Str} {pos pos' tpos : Pos} {ta tv : TE}
theorem pe_fld (he : PE X e ta) (hb : attributeBase e f X.env (eval e X.env) = eval e X.env) : PE X (.Attribute e f pos) (tFld X.K ta f) := by
  intro pins s σ H Q I h
  refine attr_of hb (thn (he pins s σ H _ I h) fun u s1 ⟨x, H1, I1, rx, a, C, dx, fs, v, ex, ea, c, n, l, q⟩ => ?_)
  subst ex
  obtain rfl : u = Value.ref a := rx
  exact getattr_ok I1 ea c n l fun u' s2 I2 ru => ⟨v, H1, I2, ru, q⟩
theorem pe_con (he : PE X e ta) (hb : attributeBase e f X.env (eval e X.env) = eval e X.env) : PE X (.Attribute e f pos) (tCon X.K ta f) := by
  intro pins s σ H Q I h
  refine attr_of hb (thn (he pins s σ H _ I h) fun u s1 ⟨x, H1, I1, rx, a, C, dx, fs, v, u0, ex, ea, c, k, l, q⟩ => ?_)
  subst ex
  obtain rfl : u = Value.ref a := rx
  exact getcon_ok I1 ea c k l fun s2 I2 => ⟨v, H1, I2, k.rel, q⟩
theorem ps_fld (ha : PE X o ta) (hv : PE X value tv) (hs : swapsWith value (some (.Attribute o f pos')) pos.line X.env = pure false) : PS X (.Assign [.Attribute o f pos'] value pos) (sFld X.K ta tv f) := by
  intro pins s σ H D I h
  refine plainObj_wpAny_Assign_Attribute (thn (hv pins s σ H _ I h) fun u s1 ⟨y, H1, I1, ry, q⟩ => thn (ha pins s1 σ H1 _ I1 q) fun ov s2 ⟨x, H2, I2, rx, a, C, dx, fs, ex, ea, c, n, l, q2⟩ => ?_) hs
  subst ex
  obtain rfl : ov = Value.ref a := rx
  exact setattr_ok I2 ea c n l ry fun s3 I3 => ⟨σ, _, I3, q2⟩
theorem ps_fldaug {op : Operator} {rd : V → V → Hp → VK → Prop} (ha : PE X o ta) (hv : PE X value tv) (hop : InOp X op rd) : PS X (.AugAssign (.Attribute o f tpos) op value pos) (sFldAug X.K ta tv rd f) := by
  intro pins s σ H D I h
  refine wpAny_AugAssign_AttributeAny (thn (ha pins s σ H _ I h) fun ov s1 ⟨x, H1, I1, rx, a, C, dx, fs, v, ex, ea, c, n, l, q⟩ => ?_)
  subst ex
  obtain rfl : ov = Value.ref a := rx
  refine getattr_ok I1 ea c n l fun u s2 I2 ru => thn (hv pins s2 σ H1 _ I2 q) fun w3 s3 ⟨y, H2, I3, ry, q3⟩ => thn (hop pins s3 σ H2 v y u w3 _ I3 ru ry q3) fun w4 s4 ⟨z, H3, I4, rz, dx', fs', ea', l', q4⟩ => ?_
  exact setattr_ok I4 ea' c n l' rz fun s5 I5 => ⟨σ, _, I5, q4⟩
def rAdd : V → V → Hp → VK → Prop := fun x y H Q => ∃ i j, x = .int i ∧ y = .int j ∧ Q (.int (i + j)) H
def rSub : V → V → Hp → VK → Prop := fun x y H Q => ∃ i j, x = .int i ∧ y = .int j ∧ Q (.int (i - j)) H
theorem in_add : InOp X .Add rAdd := by
  rintro pins s σ H x y u v Q I rx ry ⟨i, j, rfl, rfl, q⟩
  obtain ⟨t, rfl⟩ := (show ∃ t, u = Value.int i t from rx)
  obtain ⟨t', rfl⟩ := (show ∃ t', v = Value.int j t' from ry)
  exact PyProof.Rows.iadd_int ⟨.int (i + j), H, I.tok _, ⟨_, rfl⟩, q⟩
theorem in_sub : InOp X .Sub rSub := by
  rintro pins s σ H x y u v Q I rx ry ⟨i, j, rfl, rfl, q⟩
  obtain ⟨t, rfl⟩ := (show ∃ t, u = Value.int i t from rx)
  obtain ⟨t', rfl⟩ := (show ∃ t', v = Value.int j t' from ry)
  exact PyProof.Rows.isub_int ⟨.int (i - j), H, I.tok _, ⟨_, rfl⟩, q⟩

/-- what is between an instance and its method: the tree of a method call -/
theorem methcall_of {pl : Sem Bool} {m : Str} {apos : Pos} {args : List Expr} {pins : List (Addr × Obj)} {s : Shared} {σ : St} {H : Hp} {Q : Value → Shared → Prop} {te : TE} (he : PE X e te) (I : Inv X pins σ H s)
    (h : te σ H fun x H1 => ∃ a C dx fs g, x = .ref a ∧ H1 a = some (.ins C dx fs) ∧ Cls X.K C ∧ Meth X.K C m g ∧ fs.lookup m = none ∧
      ∀ s1, Inv X pins σ H1 s1 → wpAny (model X.prog X.w) X.A (callWith pos (.ref g) [.ref a] (backTo pos (starEach args X.env)) (backToKw pos (keywordEach [] X.env))) Q X.xe s1)
    (ht : eval (.Call (.Attribute e m apos) args [] pos) X.env = (do
      let ov ← eval e X.env
      standAt apos.atName
      let (f, first) ← holding [ov] (getMethod ov m pl)
      callWith pos f first (backTo pos (starEach args X.env)) (backToKw pos (keywordEach [] X.env)))) :
    wpAny (model X.prog X.w) X.A (eval (.Call (.Attribute e m apos) args [] pos) X.env) Q X.xe s := by
  refine PySem.W.methodCall_KW (pl := pl) (thn (he pins s σ H _ I h) fun u s1 ⟨x, H1, I1, rx, a, C, dx, fs, g, ex, ea, c, k, l, q⟩ => ?_) ht
  subst ex
  obtain rfl : u = Value.ref a := rx
  exact getmeth_ok I1 ea c k l (q s1 I1)
end

/-! ### isinstance -/
section
variable {X : Cx} {pins : List (Addr × Obj)} {σ : St} {H : Hp} {s : Shared} {A : Around} {E : Value → Shared → Prop} {Q : Value → Shared → Prop} {c : Value} {b : Bool}
/-- the type of a value, as the fragment's deciders take it; for an instance its class -/
inductive TyOf (K : PySem.W.Frag) (H : Hp) : V → Value → Prop where
  | non : TyOf K H .non (.type "NoneType")
  | bl (x : Bool) : TyOf K H (.bl x) (.type "bool")
  | int (i : Int) : TyOf K H (.int i) (.type "int")
  | str (x : Str) : TyOf K H (.str x) (.type "str")
  | flt (x : UInt64) : TyOf K H (.flt x) (.type "float")
  | lst {a : Addr} {xs : List V} (e : H a = some (.lst xs)) : TyOf K H (.ref a) (.type "list")
  | frz {a : Addr} {o : Obj} {xs : List V} (e : H a = some (.frz o (.lst xs))) : TyOf K H (.ref a) (.type "list")
  | tup {a : Addr} {xs : List V} (e : H a = some (.tup xs)) : TyOf K H (.ref a) (.type "tuple")
  | dK {a : Addr} {kvs : List (Key × V)} (e : H a = some (.dK kvs)) : TyOf K H (.ref a) (.type "dict")
  | dT {a : Addr} {kvs : List (List Key × V)} (e : H a = some (.dT kvs)) : TyOf K H (.ref a) (.type "dict")
  | ins {a C dx : Addr} {fs : List (Str × V)} (e : H a = some (.ins C dx fs)) (cl : Cls K C) (ha : PySem.W.findIn K (.ref C) "__class__" = some (some (.builtin "object.__class__")))
      (hn : PySem.W.specialIn K (.builtin "object.__class__") "__get__" = some (some (.builtin "getset_descriptor.__get__"))) (htk : PySem.W.takesIn K (.builtin "object.__class__") = some true)
      (hm : PySem.W.mroIn K C (.type "object") = some true) : TyOf K H (.ref a) (.ref C)
/-- isinstance(x, c) for one class c, a built-in or an own one: kitOne's answer -/
theorem isinst_ok {x : V} {u t : Value} (I : Inv X pins σ H s) (rx : RelV x u) (ty : TyOf X.K H x t) (e : PySem.W.kitOne X.K t c = some b) (h : ∀ tk, Q (.bool b) { s with toks := tk }) :
    wpAny (model X.prog X.w) A (call (.builtin "isinstance") [u, c]) Q E s := by
  cases ty with
  | non => cases (show u = Value.none from rx); exact PySem.W.kia_one PySem.W.kitx_none I.kIn True.intro e (fun z => nomatch z) h
  | bl y => cases (show u = Value.bool y from rx); exact PySem.W.kia_one PySem.W.kitx_bool I.kIn True.intro e (fun z => nomatch z) h
  | int i => obtain ⟨t, q⟩ := (show ∃ t, u = Value.int i t from rx); cases q; exact PySem.W.kia_one PySem.W.kitx_int I.kIn True.intro e (fun z => nomatch z) h
  | str y => obtain ⟨t, q⟩ := (show ∃ t, u = Value.str y t from rx); cases q; exact PySem.W.kia_one PySem.W.kitx_str I.kIn True.intro e (fun z => nomatch z) h
  | flt y => obtain ⟨t, q⟩ := (show ∃ t, u = Value.float y t from rx); cases q; exact PySem.W.kia_one PySem.W.kitx_float I.kIn True.intro e (fun z => nomatch z) h
  | @lst a xs ea =>
    cases (show u = Value.ref a from rx)
    obtain ⟨_, _, n, _, h1⟩ := (show ObjOk X.prog X.w H s.heap a (.lst xs) from I.hok a _ ea)
    exact PySem.W.kia_one PySem.W.kitx_list I.kIn ⟨_, h1, rfl⟩ e (fun z => nomatch z) h
  | @frz a ob xs ea =>
    cases (show u = Value.ref a from rx)
    obtain ⟨_, _, _, n, _, h1⟩ := (show ObjOk X.prog X.w H s.heap a (.frz ob (.lst xs)) from I.hok a _ ea)
    exact PySem.W.kia_one PySem.W.kitx_list I.kIn ⟨_, h1, rfl⟩ e (fun z => nomatch z) h
  | @tup a xs ea =>
    cases (show u = Value.ref a from rx)
    obtain ⟨_, _, _, p⟩ := (show ObjOk X.prog X.w H s.heap a (.tup xs) from I.hok a _ ea)
    obtain ⟨o, h1, h2, _⟩ := p
    exact PySem.W.kia_one PySem.W.kitx_tuple I.kIn ⟨o, h1, h2⟩ e (fun z => nomatch z) h
  | @dK a kvs ea =>
    cases (show u = Value.ref a from rx)
    obtain ⟨_, _, vs, _, p⟩ := (show ObjOk X.prog X.w H s.heap a (.dK kvs) from I.hok a _ ea)
    obtain ⟨o, es, ep, h1, h2, _⟩ := p
    exact PySem.W.kia_one PySem.W.kitx_dict I.kIn ⟨o, h1, h2.1⟩ e (fun z => nomatch z) h
  | @dT a kvs ea =>
    cases (show u = Value.ref a from rx)
    obtain ⟨_, _, xs, _, o, es, ep, h1, h2, _⟩ := (show ObjOk X.prog X.w H s.heap a (.dT kvs) from I.hok a _ ea)
    exact PySem.W.kia_one PySem.W.kitx_dict I.kIn ⟨o, h1, h2.1⟩ e (fun z => nomatch z) h
  | @ins a C dx fs ea cl ha hn htk hm =>
    cases (show u = Value.ref a from rx)
    obtain ⟨mA, O, _⟩ := ins_get I.hok ea
    obtain ⟨od, J, _⟩ := O.look
    exact PySem.W.kia_one (PySem.W.kitx_own (cl.get _) cl.hd ha hn htk hm) I.kIn J e (fun z => nomatch z) h
end
end L2

namespace L2
open PySem PySem.Spec PyProof.Rows

/-! ### room -/
structure Room (k : Nat) (A : Around) : Prop where
  hd : A.handled = none
  dp : A.depth + 3 * k + 5 < recursionLimit
  un : A.units + 16 * k + 200 < cLine
theorem Room.mono {j k : Nat} {A : Around} (r : Room k A) (h : j ≤ k) : Room j A := ⟨r.hd, by have := r.dp; omega, by have := r.un; omega⟩
theorem Room.deeper {k : Nat} {A : Around} (r : Room (k + 1) A) (env : Env) : Room k (A.deeper env) :=
  ⟨r.hd, by have := r.dp; show A.depth + 1 + 3 * k + 5 < _; omega, by have := r.un; show A.units + 3 + 16 * k + 200 < _; omega⟩
theorem Room.in1 {k : Nat} {A : Around} (r : Room (k + 1) A) : Room k A.in1 :=
  ⟨r.hd, by have := r.dp; show A.depth + 3 * k + 5 < _; omega, by have := r.un; show A.units + 1 + 16 * k + 200 < _; omega⟩
theorem make_depth {A : Around} {C : Addr} {us : List Value} {kw : List (Str × Value)} : (A.under (.builtin "type.__call__" ⟨.ref C :: us, kw⟩)).depth = A.depth + 1 := by
  first | rfl | simp [Around.under, Code.weight, Code.isCreation, Code.isGuard, Code.isCaller, Code.frames, Code.isFrame, guardIds]
theorem make_units {A : Around} {C : Addr} {us : List Value} {kw : List (Str × Value)} : (A.under (.builtin "type.__call__" ⟨.ref C :: us, kw⟩)).units = A.units + 1 := by
  first | rfl | simp [Around.under, Code.cUnits, Code.frames, Code.isFrame]
theorem Room.make {k : Nat} {A : Around} (r : Room (k + 1) A) (C : Addr) (us : List Value) (kw : List (Str × Value)) : Room k (A.under (.builtin "type.__call__" ⟨.ref C :: us, kw⟩)) :=
  ⟨r.hd, by have := r.dp; rw [make_depth]; omega, by have := r.un; rw [make_units]; omega⟩
theorem Room.depth {k : Nat} {A : Around} (r : Room k A) : A.depth < recursionLimit := by have := r.dp; omega
theorem Room.units {k : Nat} {A : Around} (r : Room k A) : A.units + 64 < cLine := by have := r.un; omega
theorem Room.units0 {k : Nat} {A : Around} (r : Room k A) : A.units < cLine := by have := r.un; omega

/-! ### argument lists and displays -/
def tNil : TA := fun _ H Q => Q [] H
def tCons (ta : TE) (tr : TA) : TA := fun σ H Q => ta σ H fun x H1 => tr σ H1 fun xs H2 => Q (x :: xs) H2
section
variable {X : Cx} {e : Expr} {es : List Expr} {te : TE} {t : TA} {pos : Pos}
theorem pa_nil : PA X [] tNil := fun _ _ _ _ H Q I h => Calls.spliced_nil ⟨[], H, I, .nil, h⟩
theorem pa_cons (ha : PE X e te) (hr : PA X es t) (hs : starEach (e :: es) X.env = (false, eval e X.env) :: starEach es X.env := by rfl) : PA X (e :: es) (tCons te t) := by
  intro pos pins s σ H Q I h
  rw [hs]
  show wpAny _ _ (spliced ((false, eval e X.env) :: backTo pos (starEach es X.env))) _ _ s
  refine Calls.spliced_cons (thn (ha pins s σ H _ I h) fun u s1 ⟨x, H1, I1, r1, q1⟩ => ?_)
  exact thn (hr pos pins s1 σ H1 _ I1 q1) fun us s2 ⟨xs, H2, I2, r2, q2⟩ => ⟨x :: xs, H2, I2, .cons r1 r2, q2⟩

/-- a tuple, a list of written items -/
def tTup (t : TA) : TE := fun σ H Q => t σ H fun xs H1 => xs.length ≤ sizeLine ∧ ∀ p, H1 p = none → Q (.ref p) (upd H1 p (.tup xs))
def tLst (t : TA) : TE := fun σ H Q => t σ H fun xs H1 => xs.length ≤ sizeLine ∧ ∀ p, H1 p = none → Q (.ref p) (upd H1 p (.lst xs))
theorem pe_tup {x1} (h : PA X es t) : PE X (.Tuple es x1 pos) (tTup t) := by
  intro pins s σ H Q I hq
  refine wpAny_Tuple_spliced (thn (h pos pins s σ H _ I hq) fun us s1 ⟨xs, H1, I1, r, z, q⟩ => ⟨by rw [← r.length]; exact z, ?_⟩)
  have hf : H1 s1.heap.objs.size = none := I1.hok.fresh (Nat.le_refl _)
  refine ⟨.ref s1.heap.objs.size, upd H1 s1.heap.objs.size (.tup xs), I1.laid (t' := s1.toks) (fun b u e => Heap.get?_push_of_some _ e) (Nat.le_refl _) ?_, rfl, q _ hf⟩
  exact ⟨z, us, r, ⟨_, Heap.get?_push_size _ rfl, rfl, _, rfl⟩⟩
theorem pe_lst (h : PA X es t) : PE X (.List es pos) (tLst t) := by
  intro pins s σ H Q I hq
  refine wpAny_List_spliced (thn (h pos pins s σ H _ I hq) fun us s1 ⟨xs, H1, I1, r, z, q⟩ => ⟨by rw [← r.length]; exact z, ?_⟩)
  have hf : H1 s1.heap.objs.size = none := I1.hok.fresh (Nat.le_refl _)
  refine ⟨.ref s1.heap.objs.size, upd H1 s1.heap.objs.size (.lst xs), I1.laid (t' := s1.toks) (fun b u e => Heap.get?_push_of_some _ e) (Nat.le_refl _) ?_, rfl, q _ hf⟩
  exact ⟨z, us, 0, r, Heap.get?_push_size _ rfl⟩
end

/-! ### what a def promises -/
/-- a def's promise: the bound arguments in the parameters' order, the heap, the wanted end, the wanted exception -/
abbrev Sp := List V → Hp → VK → XK → Prop
/-- how an exception lies behind a call (file 08 gives it): the callers' frames, abstract heap and state ahead of the call, the wish, the exception, the state -/
abbrev CXT := List Env → Hp → Shared → XK → Value → Shared → Prop

/-- the state at a call -/
structure Env0 (P : Program) (w : World) (K : PySem.W.Frag) (mg : Str → Option Value) (base : Heap) (A : Around) (outer : List Env) (s : Shared) (H : Hp) : Prop where
  frames : A.frames = some outer
  mod : Mod K mg base
  bs : ∀ b o, base.get? b = some o → s.heap.get? b = some o ∧ H b = none
  bsz : base.objs.size ≤ s.heap.objs.size
  funs : s.heap.FunFrames base outer
  frf : ∀ b ∈ frs outer, H b = none
  hok : HOk P w H s.heap
  bare : AllBare s.gens
/-- a call's end -/
def CE (outer : List Env) (P : Program) (w : World) (H : Hp) (s : Shared) (Q : VK) (u : Value) (s' : Shared) : Prop :=
  ∃ v H', s'.os = s.os ∧ AllBare s'.gens ∧ Un (frs outer) [] H H' s.heap s'.heap ∧ HOk P w H' s'.heap ∧ RelV v u ∧ Q v H'
def CR (CX : CXT) (outer : List Env) (P : Program) (w : World) (H : Hp) (s : Shared) (Q : VK) (E : XK) (r : Result) (s' : Shared) : Prop :=
  match r with
  | .ok (.ret u) => CE outer P w H s Q u s'
  | .ok _ => False
  | .error e => CX outer H s E e s'
structure FnOk (P : Program) (w : World) (K : PySem.W.Frag) (mg : Str → Option Value) (base : Heap) (CX : CXT) (k : Nat) (f : Addr) (fd : FuncData) (ps : List Str) (sp : Sp) : Prop where
  len : ∀ vs H Q E, sp vs H Q E → vs.length = ps.length
  run : ∀ (A : Around) (outer : List Env) (s : Shared) (H : Hp) (args : Args) (us : List Value) (vs : List V) (Q : VK) (E : XK), Room k A → Env0 P w K mg base A outer s H → BindsTo s fd args (ps.zip us) → Vals vs us → sp vs H Q E →
    codeAny (model P w) A (.call (.ref f) args) (CR CX outer P w H s Q E) s
theorem FnOk.mono {P : Program} {w : World} {K : PySem.W.Frag} {mg : Str → Option Value} {base : Heap} {CX : CXT} {j k : Nat} {f : Addr} {fd : FuncData} {ps : List Str} {sp : Sp} (F : FnOk P w K mg base CX j f fd ps sp) (h : j ≤ k) :
    FnOk P w K mg base CX k f fd ps sp := ⟨F.len, fun A outer s H args us vs Q E hr => F.run A outer s H args us vs Q E (hr.mono h)⟩
/-- a weaker promise -/
theorem FnOk.imp {P : Program} {w : World} {K : PySem.W.Frag} {mg : Str → Option Value} {base : Heap} {CX : CXT} {k : Nat} {f : Addr} {fd : FuncData} {ps : List Str} {sp sp' : Sp} (F : FnOk P w K mg base CX k f fd ps sp)
    (h : ∀ vs H Q E, sp' vs H Q E → sp vs H Q E) : FnOk P w K mg base CX k f fd ps sp' :=
  ⟨fun vs H Q E q => F.len vs H Q E (h _ _ _ _ q), fun A outer s H args us vs Q E hr he hb hv hs => F.run A outer s H args us vs Q E hr he hb hv (h _ _ _ _ hs)⟩

theorem Env0.make {P : Program} {w : World} {K : PySem.W.Frag} {mg : Str → Option Value} {base : Heap} {A : Around} {outer : List Env} {s : Shared} {H : Hp} (e : Env0 P w K mg base A outer s H) (C : Addr) (us : List Value) (kw : List (Str × Value)) :
    Env0 P w K mg base (A.under (.builtin "type.__call__" ⟨.ref C :: us, kw⟩)) outer s H := ⟨by first | exact e.frames | (simpa [Around.under, Code.envs, Code.isFrame, pushEnvs] using e.frames), e.mod, e.bs, e.bsz, e.funs, e.frf, e.hok, e.bare⟩
theorem Env0.in1 {P : Program} {w : World} {K : PySem.W.Frag} {mg : Str → Option Value} {base : Heap} {A : Around} {outer : List Env} {s : Shared} {H : Hp} (e : Env0 P w K mg base A outer s H) :
    Env0 P w K mg base A.in1 outer s H := ⟨e.frames, e.mod, e.bs, e.bsz, e.funs, e.frf, e.hok, e.bare⟩

section
variable {X : Cx} {pins : List (Addr × Obj)} {σ : St} {H : Hp} {s s' : Shared}
/-- from a body: what a callee wants -/
theorem Inv.env0 (I : Inv X pins σ H s) : Env0 X.prog X.w X.K X.mg X.base X.A X.stack s H :=
  ⟨I.ok.frames, I.ok.mod, I.bs, Nat.le_trans I.ok.bsz I.sz, I.stack, I.stkFree, I.hok, I.bare⟩
/-- behind a call -/
theorem Inv.after {Q : VK} {u : Value} (I : Inv X pins σ H s) (h : CE X.stack X.prog X.w H s Q u s') : EP X pins σ Q u s' := by
  obtain ⟨v, H', os, bare, un, hok, r, q⟩ := h
  obtain ⟨hh, g, d, t, os'⟩ := s'
  obtain rfl : os' = s.os := os
  exact ⟨v, H', I.call (h' := hh) (g' := g) (d' := d) (t' := t) (ch := []) un hok bare (fun b z => absurd z (by simp)), r, q⟩
end

/-! ### calls -/
/-- f(..): the written arguments, then the defaults dvs; E: what is wanted of an exception -/
def tCall (sp : Sp) (dvs : List V) (E : XK) (t : TA) : TE := fun σ H Q => t σ H fun vs H1 => sp (vs ++ dvs) H1 Q E
/-- o.m(..) of an instance of the class at C -/
def tMeth (C : Addr) (m : Str) (sp : Sp) (dvs : List V) (E : XK) (ta : TE) (t : TA) : TE := fun σ H Q => ta σ H fun x H1 => ∃ a dx fs, x = .ref a ∧ H1 a = some (.ins C dx fs) ∧ fs.lookup m = none ∧
  t σ H1 fun vs H2 => sp (x :: (vs ++ dvs)) H2 Q E
/-- C(..): a new instance and its dict, then __init__ -/
def tMake (C : Addr) (sp : Sp) (dvs : List V) (E : XK) (t : TA) : TE := fun σ H Q => t σ H fun vs H1 => ∀ x dx, H1 x = none → H1 dx = none → dx ≠ x →
  sp (.ref x :: (vs ++ dvs)) (upd (upd H1 dx (.own x)) x (.ins C dx [])) (fun v H2 => v = .non ∧ Q (.ref x) H2) E

/-- how the parameters are bound: us the positional arguments, kw the keywords' values by name, ds the defaults that fill up -/
def Binds (K : PySem.W.Frag) (fd : FuncData) (ps : List Str) (ds : List Value) : Prop :=
  ∀ (s : Shared) (us : List Value), K.In s.heap → (us ++ ds).length = ps.length → BindsTo s fd ⟨us, []⟩ (ps.zip (us ++ ds))
/-- every parameter is given -/
theorem Binds.all {K : PySem.W.Frag} {fd : FuncData} {ps : List Str} (h : ∀ us : List Value, us.length = ps.length → bindArgs fd ⟨us, []⟩ = pure (ps.zip us)) : Binds K fd ps [] := fun s us _ hl => by
  rw [List.append_nil] at hl ⊢
  exact .of_eq (h us hl)

/-- an exception of a callee reaches what this body wants of exceptions -/
def Passes (CX : CXT) (X : Cx) (E : XK) : Prop := ∀ (pins : List (Addr × Obj)) (σ : St) (H : Hp) (s : Shared) (e : Value) (s' : Shared), Inv X pins σ H s → CX X.stack H s E e s' → X.xe e s'

section
variable {X : Cx} {CX : CXT} {k : Nat} {f C : Addr} {fd : FuncData} {ps : List Str} {sp : Sp} {dvs : List V} {ds : List Value} {E : XK} {x m : Str} {p pos apos : Pos} {e o : Expr} {es : List Expr} {ta : TE} {t : TA}

/-- the callee runs -/
theorem run_fn {pins : List (Addr × Obj)} {σ : St} {H : Hp} {s : Shared} {Q : VK} {us : List Value} {vs : List V} (F : FnOk X.prog X.w X.K X.mg X.base CX k f fd ps sp) (hr : Room k X.A) (hb : Binds X.K fd ps ds) (hd : Vals dvs ds) (hx : Passes CX X E)
    (I : Inv X pins σ H s) (r : Vals vs us) (h : sp (vs ++ dvs) H Q E) : wpAny (model X.prog X.w) X.A (call (.ref f) us) (EP X pins σ Q) X.xe s := by
  have r2 : Vals (vs ++ dvs) (us ++ ds) := r.append hd
  have hl : (us ++ ds).length = ps.length := by rw [← r2.length]; exact F.len _ _ _ _ h
  refine wpAny_call (codeAny_mono (F.run X.A X.stack s H ⟨us, []⟩ (us ++ ds) (vs ++ dvs) Q E hr I.env0 (hb s us I.kIn hl) r2 h) fun r s' hq => ?_)
  cases r with
  | error e => exact hx pins σ H s e s' I hq
  | ok fl =>
    cases fl with
    | ret u => exact I.after hq
    | next => exact False.elim hq
    | brk => exact False.elim hq
    | cont => exact False.elim hq

theorem pe_call (F : FnOk X.prog X.w X.K X.mg X.base CX k f fd ps sp) (hr : Room k X.A) (hg : Gl X x) (hm : X.mg x = some (.ref f)) (hk : PySem.W.keepIn X.K (.ref f) = true) (hb : Binds X.K fd ps ds) (hd : Vals dvs ds) (hx : Passes CX X E)
    (ha : PA X (e :: es) t) (hdb : (x == ("__debug__" : Str)) = false := by decide) (he : starEach (e :: es) X.env = (false, eval e X.env) :: starEach es X.env := by rfl) (hpl : (backTo pos (starEach es X.env)).any (·.1) = false := by rfl) :
    PE X (.Call (.Name x p) (e :: es) [] pos) (tCall sp dvs E t) := by
  intro pins s σ H Q I h
  refine wpAny_Call_Name_kw (ld_glob I hg hm ?_ hdb)
  refine PySem.W.callWith_K (h₀ := X.base) I.ok.mod.kin hk (thn (ha pos pins s σ H _ I h) fun us s1 ⟨vs, H1, I1, r, q⟩ => ⟨I1.kIn, ?_⟩) he hpl
  exact run_fn F hr hb hd hx I1 r q
theorem pe_call0 (F : FnOk X.prog X.w X.K X.mg X.base CX k f fd ps sp) (hr : Room k X.A) (hg : Gl X x) (hm : X.mg x = some (.ref f)) (hk : PySem.W.keepIn X.K (.ref f) = true) (hb : Binds X.K fd ps ds) (hd : Vals dvs ds) (hx : Passes CX X E)
    (hdb : (x == ("__debug__" : Str)) = false := by decide) : PE X (.Call (.Name x p) [] [] pos) (tCall sp dvs E tNil) := by
  intro pins s σ H Q I h
  refine wpAny_Call_Name_kw (ld_glob I hg hm ?_ hdb)
  exact PySem.W.callWith_K0 I.kIn hk (run_fn (us := []) F hr hb hd hx I .nil h)

/-- o.m(e, ..) -/
theorem pe_meth {pl : Sem Bool} (he : PE X o ta) (c : Cls X.K C) (hm : Meth X.K C m f) (F : FnOk X.prog X.w X.K X.mg X.base CX k f fd ps sp) (hr : Room k X.A) (hb : Binds X.K fd ps ds) (hd : Vals dvs ds) (hx : Passes CX X E) (ha : PA X (e :: es) t)
    (hst : starEach (e :: es) X.env = (false, eval e X.env) :: starEach es X.env := by rfl) (hpl : (backTo pos (starEach es X.env)).any (·.1) = false := by rfl)
    (ht : eval (.Call (.Attribute o m apos) (e :: es) [] pos) X.env = (do
      let ov ← eval o X.env
      standAt apos.atName
      let (f, first) ← holding [ov] (getMethod ov m pl)
      callWith pos f first (backTo pos (starEach (e :: es) X.env)) (backToKw pos (keywordEach [] X.env))) := by rfl) :
    PE X (.Call (.Attribute o m apos) (e :: es) [] pos) (tMeth C m sp dvs E ta t) := by
  intro pins s σ H Q I h
  refine PySem.W.methodCall_KW (pl := pl) (thn (he pins s σ H _ I h) fun u s1 ⟨x, H1, I1, rx, a, dx, fs, ex, ea, l, q⟩ => ?_) ht
  subst ex
  obtain rfl : u = Value.ref a := rx
  refine getmeth_ok I1 ea c hm l ?_
  refine PySem.W.callWith_K (first := [.ref a]) (h₀ := X.base) I.ok.mod.kin hm.kp (thn (ha pos pins s1 σ H1 _ I1 q) fun us s2 ⟨vs, H2, I2, r, q2⟩ => ⟨I2.kIn, ?_⟩) hst hpl
  exact run_fn (us := .ref a :: us) (vs := .ref a :: vs) F hr hb hd hx I2 (.cons rfl r) q2
/-- o.m() -/
theorem pe_meth0 {pl : Sem Bool} (he : PE X o ta) (c : Cls X.K C) (hm : Meth X.K C m f) (F : FnOk X.prog X.w X.K X.mg X.base CX k f fd ps sp) (hr : Room k X.A) (hb : Binds X.K fd ps ds) (hd : Vals dvs ds) (hx : Passes CX X E)
    (ht : eval (.Call (.Attribute o m apos) [] [] pos) X.env = (do
      let ov ← eval o X.env
      standAt apos.atName
      let (f, first) ← holding [ov] (getMethod ov m pl)
      callWith pos f first (backTo pos (starEach [] X.env)) (backToKw pos (keywordEach [] X.env))) := by rfl) :
    PE X (.Call (.Attribute o m apos) [] [] pos) (tMeth C m sp dvs E ta tNil) := by
  intro pins s σ H Q I h
  refine PySem.W.methodCall_KW (pl := pl) (thn (he pins s σ H _ I h) fun u s1 ⟨x, H1, I1, rx, a, dx, fs, ex, ea, l, q⟩ => ?_) ht
  subst ex
  obtain rfl : u = Value.ref a := rx
  refine getmeth_ok I1 ea c hm l ?_
  exact PySem.W.callWith_K0 (first := [.ref a]) I1.kIn hm.kp (run_fn (us := [.ref a]) (vs := [.ref a]) F hr hb hd hx I1 (.cons rfl .nil) q)

/-- what a class must have to be made -/
structure Mk (K : PySem.W.Frag) (C f : Addr) : Prop where
  makes : PySem.W.makesIn K C = true
  init : PySem.W.findIn K (.ref C) "__init__" = some (some (.ref f))
  fn : PySem.W.isFn K (.ref f) = true
  kp : PySem.W.keepIn K (.ref C) = true

theorem run_make {pins : List (Addr × Obj)} {σ : St} {H : Hp} {s : Shared} {Q : VK} {us : List Value} {vs : List V} (M : Mk X.K C f) (F : FnOk X.prog X.w X.K X.mg X.base CX k f fd ps sp) (hr : Room (k + 1) X.A) (hb : Binds X.K fd ps ds) (hd : Vals dvs ds)
    (hx : Passes CX X E) (I : Inv X pins σ H s) (r : Vals vs us)
    (h : ∀ x dx, H x = none → H dx = none → dx ≠ x → sp (.ref x :: (vs ++ dvs)) (upd (upd H dx (.own x)) x (.ins C dx [])) (fun v H2 => v = .non ∧ Q (.ref x) H2) E) :
    wpAny (model X.prog X.w) X.A (call (.ref C) us) (EP X pins σ Q) X.xe s := by
  have hq := h (s.heap.objs.size + 1) s.heap.objs.size (I.hok.fresh (Nat.le_succ _)) (I.hok.fresh (Nat.le_refl _)) (Nat.ne_of_lt (Nat.lt_succ_self _))
  have I2 := Inv.made (C := C) I
  have r2 : Vals (V.ref (s.heap.objs.size + 1) :: (vs ++ dvs)) (Value.ref (s.heap.objs.size + 1) :: (us ++ ds)) := .cons rfl (r.append hd)
  have hl : (Value.ref (s.heap.objs.size + 1) :: us ++ ds).length = ps.length := by
    have e := r2.length
    rw [F.len _ _ _ _ hq] at e
    exact e.symm
  refine wpAny_call (make_map (f := f) I.kIn M.makes M.init (beq_iff_eq.mp M.fn) (codeAny_mono (F.run _ X.stack _ _ ⟨Value.ref (s.heap.objs.size + 1) :: us, []⟩ (Value.ref (s.heap.objs.size + 1) :: (us ++ ds)) _ _ E (hr.make C us [])
    (I2.env0.make C us []) (hb _ (Value.ref (s.heap.objs.size + 1) :: us) I2.kIn hl) r2 hq) fun r s' hq' => ?_))
  cases r with
  | error e => exact hx pins σ _ _ e s' I2 hq'
  | ok fl =>
    cases fl with
    | ret u =>
      obtain ⟨v, H', I3, rv, ev, q3⟩ := I2.after hq'
      subst ev
      exact ⟨rv, ⟨V.ref (s.heap.objs.size + 1), H', I3, rfl, q3⟩⟩
    | next => exact False.elim hq'
    | brk => exact False.elim hq'
    | cont => exact False.elim hq'
theorem pe_make (M : Mk X.K C f) (F : FnOk X.prog X.w X.K X.mg X.base CX k f fd ps sp) (hr : Room (k + 1) X.A) (hg : Gl X x) (hm : X.mg x = some (.ref C)) (hb : Binds X.K fd ps ds) (hd : Vals dvs ds) (hx : Passes CX X E)
    (ha : PA X (e :: es) t) (hdb : (x == ("__debug__" : Str)) = false := by decide) (he : starEach (e :: es) X.env = (false, eval e X.env) :: starEach es X.env := by rfl) (hpl : (backTo pos (starEach es X.env)).any (·.1) = false := by rfl) :
    PE X (.Call (.Name x p) (e :: es) [] pos) (tMake C sp dvs E t) := by
  intro pins s σ H Q I h
  refine wpAny_Call_Name_kw (ld_glob I hg hm ?_ hdb)
  refine PySem.W.callWith_K (h₀ := X.base) I.ok.mod.kin M.kp (thn (ha pos pins s σ H _ I h) fun us s1 ⟨vs, H1, I1, r, q⟩ => ⟨I1.kIn, ?_⟩) he hpl
  exact run_make M F hr hb hd hx I1 r q
theorem pe_make0 (M : Mk X.K C f) (F : FnOk X.prog X.w X.K X.mg X.base CX k f fd ps sp) (hr : Room (k + 1) X.A) (hg : Gl X x) (hm : X.mg x = some (.ref C)) (hb : Binds X.K fd ps ds) (hd : Vals dvs ds) (hx : Passes CX X E)
    (hdb : (x == ("__debug__" : Str)) = false := by decide) : PE X (.Call (.Name x p) [] [] pos) (tMake C sp dvs E tNil) := by
  intro pins s σ H Q I h
  refine wpAny_Call_Name_kw (ld_glob I hg hm ?_ hdb)
  exact PySem.W.callWith_K0 I.kIn M.kp (run_make (us := []) M F hr hb hd hx I .nil h)
end

/-! ### keywords -/
/-- the values of the keywords, from the left -/
def PK (X : Cx) (kws : List Keyword) (t : TA) : Prop :=
  ∀ (pos : Pos) (pins : List (Addr × Obj)) (s : Shared) (σ : St) (H : Hp) (Q : List V → Hp → Prop), Inv X pins σ H s → t σ H Q → wpAny (model X.prog X.w) X.A (evalAll ((backToKw pos (keywordEach kws X.env)).map (·.2))) (AP X pins σ Q) X.xe s
section
variable {X : Cx} {CX : CXT} {k : Nat} {f C : Addr} {fd : FuncData} {ps ks : List Str} {sp : Sp} {E : XK} {x m : Str} {p pos apos kpos : Pos} {e o : Expr} {es : List Expr} {kws : List Keyword} {te ta : TE} {t tk : TA} {nm : Option Str}
theorem pk_nil : PK X [] tNil := fun _ _ _ _ H Q I h => wpAny_evalAll_nil ⟨[], H, I, .nil, h⟩
theorem pk_cons (ha : PE X e te) (hr : PK X kws t) : PK X (⟨nm, e, kpos⟩ :: kws) (tCons te t) := by
  intro pos pins s σ H Q I h
  show wpAny _ _ (evalAll ((do let v ← eval e X.env; standAt pos; pure v) :: (backToKw pos (keywordEach kws X.env)).map (·.2))) _ _ s
  refine wpAny_evalAll_cons (wpAny_bind (thn (ha pins s σ H _ I h) fun u s1 ⟨x, H1, I1, r1, q1⟩ => wpAny_bind (wpAny_standAt (wpAny_pure ?_))))
  exact thn (hr pos pins s1 σ H1 _ I1 q1) fun us s2 ⟨xs, H2, I2, r2, q2⟩ => ⟨x :: xs, H2, I2, .cons r1 r2, q2⟩

/-- how a call with keywords binds: g puts the positional values us and the keywords' values ws (names ks) in the parameters' order, defaults among them -/
structure KBinds (K : PySem.W.Frag) (fd : FuncData) (ps ks : List Str) (g : List Value → List Value → List Value) (gV : List V → List V → List V) : Prop where
  to : ∀ (s : Shared) (us ws : List Value), K.In s.heap → (g us ws).length = ps.length → BindsTo s fd ⟨us, ks.zip ws⟩ (ps.zip (g us ws))
  rel : ∀ {vs : List V} {us : List Value} {zs : List V} {ws : List Value}, Vals vs us → Vals zs ws → Vals (gV vs zs) (g us ws)
def tCallK (sp : Sp) (gV : List V → List V → List V) (E : XK) (t tk : TA) : TE := fun σ H Q => t σ H fun vs H1 => tk σ H1 fun zs H2 => sp (gV vs zs) H2 Q E
variable {g : List Value → List Value → List Value} {gV : List V → List V → List V}
theorem run_fnk {pins : List (Addr × Obj)} {σ : St} {H : Hp} {s : Shared} {Q : VK} {us ws : List Value} {vs zs : List V} (F : FnOk X.prog X.w X.K X.mg X.base CX k f fd ps sp) (hr : Room k X.A) (hb : KBinds X.K fd ps ks g gV) (hx : Passes CX X E)
    (I : Inv X pins σ H s) (r : Vals vs us) (rz : Vals zs ws) (h : sp (gV vs zs) H Q E) : wpAny (model X.prog X.w) X.A (call (.ref f) us (ks.zip ws)) (EP X pins σ Q) X.xe s := by
  have r2 := hb.rel r rz
  have hl : (g us ws).length = ps.length := by rw [← r2.length]; exact F.len _ _ _ _ h
  refine wpAny_call (codeAny_mono (F.run X.A X.stack s H ⟨us, ks.zip ws⟩ (g us ws) (gV vs zs) Q E hr I.env0 (hb.to s us ws I.kIn hl) r2 h) fun r s' hq => ?_)
  cases r with
  | error e => exact hx pins σ H s e s' I hq
  | ok fl =>
    cases fl with
    | ret u => exact I.after hq
    | next => exact False.elim hq
    | brk => exact False.elim hq
    | cont => exact False.elim hq
/-- f(e, .., k = v, ..) -/
theorem pe_callK (F : FnOk X.prog X.w X.K X.mg X.base CX k f fd ps sp) (hr : Room k X.A) (hg : Gl X x) (hm : X.mg x = some (.ref f)) (hk : PySem.W.keepIn X.K (.ref f) = true) (hb : KBinds X.K fd ps ks g gV) (hx : Passes CX X E)
    (ha : PA X (e :: es) t) (hkw : PK X kws tk) (hall : (backToKw pos (keywordEach kws X.env)).all (·.1.isSome) = true := by rfl) (hks : (backToKw pos (keywordEach kws X.env)).filterMap (·.1) = ks := by rfl)
    (hdb : (x == ("__debug__" : Str)) = false := by decide) (he : starEach (e :: es) X.env = (false, eval e X.env) :: starEach es X.env := by rfl)
    (hpl : ((backTo pos (starEach (e :: es) X.env)).any (·.1) || (backToKw pos (keywordEach kws X.env)).any (·.1.isNone)) = false := by rfl) :
    PE X (.Call (.Name x p) (e :: es) kws pos) (tCallK sp gV E t tk) := by
  intro pins s σ H Q I h
  refine wpAny_Call_Name_kw (ld_glob I hg hm ?_ hdb)
  refine PySem.W.callWith_KW (h₀ := X.base) I.ok.mod.kin hk hall (thn (ha pos pins s σ H _ I h) fun us s1 ⟨vs, H1, I1, r, q⟩ => ?_) hpl he
  refine thn (hkw pos pins s1 σ H1 _ I1 q) fun ws s2 ⟨zs, H2, I2, rz, q2⟩ => ⟨I2.kIn, ?_⟩
  rw [hks]
  exact run_fnk F hr hb hx I2 r rz q2
end

/-! ### a def's body keeps its promise -/
/-- names: the parameters first -/
structure FnScope (N P : List Str) (sc : Scope) : Prop where
  kind : sc.kind = .function
  co : sc.isCoroutine = false
  gen : sc.isGenerator = false
  nd : N.Nodup
  pre : N.take P.length = P
  par : ∀ x ∈ P, sc.names.lookup x = some .local ∨ sc.names.lookup x = some .cell
  nofree : ∀ y ∈ sc.names, y.2 ≠ .free

theorem bindL_out {kindOf : Str → Option NameKind} {x : Str} : ∀ {binds : List (Str × Value)} {m : Str → Option Value}, (∀ v, (x, v) ∉ binds) → bindL kindOf binds m x = m x
  | [], _, _ => rfl
  | (n, v) :: r, m, h => by
    unfold bindL
    rw [bindL_out fun w hw => h w (List.mem_cons_of_mem _ hw)]
    split
    · have : x ≠ n := by rintro rfl; exact h v List.mem_cons_self
      simp [this]
    · rfl
theorem bindC_out {kindOf : Str → Option NameKind} {x : Str} : ∀ {binds : List (Str × Value)} {m : Str → Option Value}, (∀ v, (x, v) ∉ binds) → bindC kindOf binds m x = m x
  | [], _, _ => rfl
  | (n, v) :: r, m, h => by
    unfold bindC
    rw [bindC_out fun w hw => h w (List.mem_cons_of_mem _ hw)]
    split
    · rfl
    · have : x ≠ n := by rintro rfl; exact h v List.mem_cons_self
      simp [this]
theorem bindL_get {kindOf : Str → Option NameKind} {x : Str} {v : Value} : ∀ {P : List Str} {vs : List Value} {i : Nat} {m : Str → Option Value}, P.Nodup → P[i]? = some x → vs[i]? = some v → kindOf x = some .local →
    bindL kindOf (P.zip vs) m x = some v
  | [], _, _, _, _, h, _, _ => by simp at h
  | _ :: _, [], _, _, _, _, h, _ => by simp at h
  | p :: P, w :: vs, 0, m, nd, h1, h2, hk => by
    simp at h1 h2; subst h1; subst h2
    show bindL kindOf ((p, w) :: P.zip vs) m p = _
    unfold bindL
    rw [bindL_out fun v hv => (List.nodup_cons.mp nd).1 (List.of_mem_zip hv).1, if_pos hk]
    simp
  | p :: P, w :: vs, i + 1, m, nd, h1, h2, hk => by
    show bindL kindOf ((p, w) :: P.zip vs) m x = _
    unfold bindL
    exact bindL_get (i := i) (List.nodup_cons.mp nd).2 (by simpa using h1) (by simpa using h2) hk
theorem bindC_get {kindOf : Str → Option NameKind} {x : Str} {v : Value} : ∀ {P : List Str} {vs : List Value} {i : Nat} {m : Str → Option Value}, P.Nodup → P[i]? = some x → vs[i]? = some v → kindOf x ≠ some .local →
    bindC kindOf (P.zip vs) m x = some v
  | [], _, _, _, _, h, _, _ => by simp at h
  | _ :: _, [], _, _, _, _, h, _ => by simp at h
  | p :: P, w :: vs, 0, m, nd, h1, h2, hk => by
    simp at h1 h2; subst h1; subst h2
    show bindC kindOf ((p, w) :: P.zip vs) m p = _
    unfold bindC
    rw [bindC_out fun v hv => (List.nodup_cons.mp nd).1 (List.of_mem_zip hv).1, if_neg hk]
    simp
  | p :: P, w :: vs, i + 1, m, nd, h1, h2, hk => by
    show bindC kindOf ((p, w) :: P.zip vs) m x = _
    unfold bindC
    exact bindC_get (i := i) (List.nodup_cons.mp nd).2 (by simpa using h1) (by simpa using h2) hk

/-- the names' values at the entry -/
def start (N : List Str) (vs : List V) : St := vs.map some ++ List.replicate (N.length - vs.length) none

/-- the context of a def's body, at its entry; an exception leaves the frame, then lies as CX says -/
def cxOf (CX : CXT) (P : Program) (w : World) (K : PySem.W.Frag) (mg : Str → Option Value) (base : Heap) (N : List Str) (qual : Str) (scope : Scope) (f : Addr) (cd : Value) (A : Around) (outer : List Env) (s : Shared) (H : Hp) (E : XK) : Cx where
  prog := P
  w := w
  K := K
  mg := mg
  base := base
  A := A.deeper (envOfC qual scope s.heap.objs.size f cd)
  N := N
  s₀ := s
  H₀ := H
  env := envOfC qual scope s.heap.objs.size f cd
  outer := outer
  stack := envOfC qual scope s.heap.objs.size f cd :: outer
  ex := []
  calm := true
  fn := fun _ => true
  pn := []
  xe := fun e s' => wpAny (model P w) (A.deeper (envOfC qual scope s.heap.objs.size f cd)) (leaving (envOfC qual scope s.heap.objs.size f cd) e) (fun _ s'' => CX outer H s E e s'') (fun e' s'' => CX outer H s E e' s'') s'

theorem cell_has {sc : Scope} {n : Nat} {x : Str} (h : sc.names.lookup x = some .cell) : ∃ c, (cellsFrom n sc.names []).lookup x = some c := by
  have q := PySem.W.cellsFrom_some sc.names n [] (.inl h)
  exact Option.isSome_iff_exists.mp q

theorem inv_start {CX : CXT} {P : Program} {w : World} {K : PySem.W.Frag} {mg : Str → Option Value} {base : Heap} {N ps : List Str} {qual : Str} {scope : Scope} {f : Addr} {cd : Value} {A : Around} {outer : List Env} {s s1 : Shared} {H : Hp} {E : XK} {us : List Value} {vs : List V}
    (S : FnScope N ps scope) (hd : A.handled = none) (e0 : Env0 P w K mg base A outer s H) (hl : vs.length = ps.length) (r : Vals vs us)
    (x : InCallC s s.heap.objs.size (bindL (envOfC qual scope s.heap.objs.size f cd).kindOf (ps.zip us) fun _ => none) (cellsFrom (s.heap.objs.size + 1) scope.names []) (bindC (envOfC qual scope s.heap.objs.size f cd).kindOf (ps.zip us) fun _ => none) s1) :
    Inv (cxOf CX P w K mg base N qual scope f cd A outer s H E) [] (start N vs) H s1 := by
  have hpl : ps.length ≤ N.length := by have := congrArg List.length S.pre; rw [List.length_take] at this; omega
  obtain ⟨h1, tk, rfl, hk⟩ := x.done
  have noA : ∀ b : Addr, b ∉ (cxOf CX P w K mg base N qual scope f cd A outer s H E).ex := fun b z => absurd (show b ∈ ([] : List Addr) from z) (by simp)
  refine ⟨⟨e0.mod, S.kind, rfl, rfl, Nat.le_refl _, fun y z c h1 h2 => ?_, fun y hy => ?_, fun y c _ h => ?_, fun _ => hd, Around.frames_deeper e0.frames, .inr ⟨rfl, rfl⟩, fun b z => absurd z (noA b), e0.bs, e0.bsz, fun b _ _ => noA b, fun b z => absurd z (noA b), e0.funs, e0.frf⟩,
    rfl, e0.bare, Un.kept hk, ⟨_, x.toInCall.ns, fun i y v h1 h2 h3 => ?_⟩, fun y c h => ⟨_, x.cell y c h⟩, e0.hok.fresh (Nat.le_refl _), fun y c h => ?_, fun p hp => absurd (show p ∈ ([] : List (Addr × Obj)) from hp) (by simp), e0.hok.kept hk, ?_⟩
  · exact name_of_addr x.apart (PySem.mem_of_lookup h1) (PySem.mem_of_lookup h2)
  · have hy : scope.names.lookup y = some .cell ∨ scope.names.lookup y = some .free := hy
    rcases hy with hy | hy
    · exact cell_has hy
    · exact absurd rfl (S.nofree _ (PySem.mem_of_lookup hy))
  · exact Nat.le_of_lt (x.above y c (PySem.mem_of_lookup h))
  · have hi : i < vs.length := by
      unfold start at h2
      by_cases hi : i < vs.length
      · exact hi
      · rw [List.getElem?_append_right (by simpa using hi)] at h2
        rw [List.getElem?_replicate] at h2
        split at h2 <;> cases h2
    have ha : vs[i]? = some v := by
      unfold start at h2
      rw [List.getElem?_append_left (by simpa using hi), List.getElem?_map] at h2
      cases e : vs[i]? with
      | none => rw [e] at h2; cases h2
      | some a => rw [e] at h2; cases h2; rfl
    obtain ⟨u, hu, rv⟩ := r.get ha
    have hp : ps[i]? = some y := by
      rw [← S.pre, List.getElem?_take_of_lt (by omega)]; exact h1
    have ndP : ps.Nodup := by rw [← S.pre]; exact S.nd.sublist (List.take_sublist _ _)
    refine ⟨u, rv, ?_⟩
    rcases S.par y (List.mem_of_getElem? hp) with k | k
    · exact .inl ⟨k, bindL_get ndP hp hu k⟩
    · obtain ⟨c, e⟩ := cell_has (n := s.heap.objs.size + 1) k
      refine .inr ⟨.inl k, c, e, ?_⟩
      have q := x.cell y c e
      rw [bindC_get ndP hp hu (by show scope.names.lookup y ≠ _; rw [k]; decide)] at q
      exact q
  · exact e0.hok.fresh (Nat.le_of_lt (x.above y c (PySem.mem_of_lookup h)))
  · unfold start
    show _ = N.length
    rw [List.length_append, List.length_map, List.length_replicate]
    omega

/-- THE RULE: a def (or a method) of the text, by its body. The body's reading t is chosen for each entry; it is run at the parameters' values -/
theorem fn_of {CX : CXT} {P : Program} {w : World} {K : PySem.W.Frag} {mg : Str → Option Value} {base : Heap} {k : Nat} {f : Addr} {name qual : Str} {params : Arguments} {body : List Stmt} {scope : Scope} {dV kV doc pm cdv ct oc : Value} {an od : Option Addr}
    {osl : Array (Option Value)} {N ps : List Str} {sp : Sp} (lk : K.lookup f = some ⟨oc, od, .func (PySem.W.fnOf name qual params body scope dV kV doc pm an cdv ct), osl⟩) (hcd : PySem.W.codeIn K cdv qual = true) (S : FnScope N ps scope)
    (len : ∀ vs H Q E, sp vs H Q E → vs.length = ps.length)
    (hbody : ∀ (A : Around) (outer : List Env) (s : Shared) (H : Hp) (vs : List V) (Q : VK) (E : XK), Room k (A.deeper (envOfC qual scope s.heap.objs.size f cdv)) → sp vs H Q E →
      ∃ t, PSs (cxOf CX P w K mg base N qual scope f cdv A outer s H E) body t ∧ t { nx := fun _ H' => Q .non H', rt := Q } (start N vs) H) :
    FnOk P w K mg base CX (k + 1) f (PySem.W.fnOf name qual params body scope dV kV doc pm an cdv ct) ps sp := by
  refine ⟨len, fun A outer s H args us vs Q E hr e0 hb r hsp => ?_⟩
  have hl := len _ _ _ _ hsp
  have KX : K.In s.heap := e0.mod.kin.keeps fun b o e => (e0.bs b o e).1
  have lim : s.heap.NoLimit := e0.mod.nolimit.keeps fun b o e => (e0.bs b o e).1
  have hkind : ∀ y ∈ ps.zip us, scope.names.lookup y.1 = some .local ∨ (scope.names.lookup y.1 = some .cell ∧ ((cellsFrom (s.heap.objs.size + 1) scope.names []).lookup y.1).isSome = true) := fun ⟨n, v⟩ hy => by
    rcases S.par n (List.of_mem_zip hy).1 with q | q
    · exact .inl q
    · exact .inr ⟨q, PySem.W.cellsFrom_some _ _ _ (.inl q)⟩
  refine codeAny_call_function hr.depth (KX _ _ lk) rfl S.co S.gen rfl (PySem.W.codeRec_of KX hcd) (hb _ _ _ _ ?_)
  refine wpAny_newFunctionEnv_cells S.kind hkind fun env he s1 x => ?_
  subst he
  refine ⟨lim.keeps x.toInCall.keep, codeAny_func ?_⟩
  obtain ⟨t, ht, hq⟩ := hbody A outer s H vs Q E (hr.deeper _) hsp
  have I : Inv (cxOf CX P w K mg base N qual scope f cdv A outer s H E) [] (start N vs) H s1 := inv_start S hr.hd e0 hl r x
  refine wpAny_mono (ht [] s1 (start N vs) H _ I hq) (fun fl s' hs => ?_) fun e s' hs => hs
  have fin : ∀ {σ' : St} {H' : Hp} {v : V} {u : Value}, Inv (cxOf CX P w K mg base N qual scope f cdv A outer s H E) [] σ' H' s' → RelV v u → Q v H' → CE outer P w H s Q u s' :=
    fun {σ' H' v u} J rv q => ⟨v, H', J.os, J.bare, J.base, J.hok, rv, q⟩
  cases fl with
  | ret u =>
    obtain ⟨v, σ', H', J, rv, q⟩ := hs
    exact fin J rv q
  | next =>
    obtain ⟨σ', H', J, q⟩ := hs
    exact fin (v := V.non) (u := Value.none) J rfl q
  | brk =>
    obtain ⟨_, _, _, q⟩ := hs
    exact False.elim q
  | cont =>
    obtain ⟨_, _, _, q⟩ := hs
    exact False.elim q
end L2

namespace L2
open PySem PySem.Spec PyProof.Rows
section
variable {X : Cx} {x : Str} {p pos : Pos} {e : Expr} {es : List Expr} {t : TA} {id T : String} {r : List V → Hp → VK → Prop}

def tCB (r : List V → Hp → VK → Prop) (t : TA) : TE := fun σ H Q => t σ H fun vs H1 => r vs H1 Q
/-- f(e, ..), f a built-in function -/
theorem pe_callB (hc : CallR X (.builtin id) r) (hg : Gl X x) (hm : X.mg x = none) (hv : bootBuiltins x = some (.builtin id)) (ha : PA X (e :: es) t) (hn : x ≠ "__name__" := by decide) (hdb : (x == ("__debug__" : Str)) = false := by decide)
    (he : starEach (e :: es) X.env = (false, eval e X.env) :: starEach es X.env := by rfl) (hpl : (backTo pos (starEach es X.env)).any (·.1) = false := by rfl) : PE X (.Call (.Name x p) (e :: es) [] pos) (tCB r t) := by
  intro pins s σ H Q I h
  refine wpAny_Call_Name_kw (ld_blt I hg hm hv ?_ hn hdb)
  exact PyProof.Rows.callWith_builtin1 (thn (ha pos pins s σ H _ I h) fun us s1 ⟨vs, H1, I1, r1, q1⟩ => hc pins s1 σ H1 vs us Q I1 r1 q1) he hpl
/-- T(e, ..), T a built-in type -/
theorem pe_callTy (hc : CallR X (.type T) r) (hg : Gl X x) (hm : X.mg x = none) (hv : bootBuiltins x = some (.type T)) (ha : PA X (e :: es) t) (hn : x ≠ "__name__" := by decide) (hdb : (x == ("__debug__" : Str)) = false := by decide)
    (he : starEach (e :: es) X.env = (false, eval e X.env) :: starEach es X.env := by rfl) (hpl : (backTo pos (starEach es X.env)).any (·.1) = false := by rfl) : PE X (.Call (.Name x p) (e :: es) [] pos) (tCB r t) := by
  intro pins s σ H Q I h
  refine wpAny_Call_Name_kw (ld_blt I hg hm hv ?_ hn hdb)
  exact PyProof.Rows.callWith_type1 (thn (ha pos pins s σ H _ I h) fun us s1 ⟨vs, H1, I1, r1, q1⟩ => hc pins s1 σ H1 vs us Q I1 r1 q1) he hpl
/-- T() -/
theorem pe_callTy0 (hc : CallR X (.type T) r) (hg : Gl X x) (hm : X.mg x = none) (hv : bootBuiltins x = some (.type T)) (hn : x ≠ "__name__" := by decide) (hdb : (x == ("__debug__" : Str)) = false := by decide) :
    PE X (.Call (.Name x p) [] [] pos) (tCB r tNil) := by
  intro pins s σ H Q I h
  refine wpAny_Call_Name_kw (ld_blt I hg hm hv ?_ hn hdb)
  exact PyProof.Rows.callWith_type0 (hc pins s σ H [] [] Q I .nil h)
end
end L2

namespace HT
open PySem PyProof.Rows

/-- t < u of tuples of ints -/
def lexLt : List Int → List Int → Bool
  | [], [] => false
  | [], _ :: _ => true
  | _ :: _, [] => false
  | x :: xs, y :: ys => if x = y then lexLt xs ys else decide (x < y)
theorem lexLt_cons (x y : Int) (xs ys : List Int) : lexLt (x :: xs) (y :: ys) = if x = y then lexLt xs ys else decide (x < y) := rfl
theorem lexLt_nil_nil : lexLt [] [] = false := rfl
theorem lexLt_nil_cons (y : Int) (ys : List Int) : lexLt [] (y :: ys) = true := rfl
theorem lexLt_cons_nil (x : Int) (xs : List Int) : lexLt (x :: xs) [] = false := rfl

theorem eqAt_int (A : Around) (s : Shared) (a : Int) (t : Tok) (c : Int) (u : Tok) : ∃ e, SeqAt.EqAt A s (.int a t) (.int c u) e ∧ (e = true ↔ a = c) :=
  ⟨(a == c), SeqAt.EqAt.int_int a t c u, by simp⟩
theorem rcLt_int (A : Around) (s : Shared) (a : Int) (t : Tok) (c : Int) (u : Tok) (prog : Program) (w : World) (E : Value → Shared → Prop) (Q : Value → Shared → Prop) (h : Q (.bool (decide (a < c))) s) :
    wpAny (model prog w) A (richCompare .Lt (.int a t) (.int c u)) Q E s :=
  (PyProof.Rows.lt_int h : wpAny (model prog w) A (compareOp .Lt (.int a t) (.int c u)) Q E s)

section
open PySem.SeqAt
open PySem.AutoSeq1 (wpAny_loadPart')
open PySem.MeetsSeq PySem.MeetsSeq2 PySem.MeetsSeq3

theorem tuple_lt_ints (l b : Addr) (items items2 : Array Value) (n n2 : Nat) (dd dd2 : Option Addr) (sl sl2 : Array (Option Value)) (ns ms : List Int) (hi : IntsAre items.toList ns) (hj : IntsAre items2.toList ms) :
    Meets (Builtin.«tuple.__lt__» ⟨[.ref l, .ref b], []⟩)
      (fun _ R s => s.heap.get? l = some { cls := .type "tuple", dict := dd, data := .seq items n, slots := sl } ∧ s.heap.get? b = some { cls := .type "tuple", dict := dd2, data := .seq items2 n2, slots := sl2 } ∧
        R (.ok (.ret (.bool (lexLt ns ms)))) s) :=
  .of_wp fun prog w A R s h => by
    obtain ⟨hp, g, d, tk, os⟩ := s; obtain ⟨hl, hb, h⟩ := h
    have f2 := AutoSeq1.sub_tuple_tuple
    have z1 : items.size = ns.length := by rw [← hi.length]; simp
    have z2 : items2.size = ms.length := by rw [← hj.length]; simp
    wp_walk using wpAny_loadPart' hl, wpAny_loadPart' hb, wpAny_forIn_list _ (fun rest b s' => b.1 = none ∧ s' = ⟨hp, g, d, tk, os⟩ ∧ ∃ (vs ws : List Value) (ns' ms' : List Int), rest = vs.zip ws ∧
      IntsAre vs ns' ∧ IntsAre ws ms' ∧ ns'.length + items2.size = ms'.length + items.size ∧ R (.ok (.ret (.bool (lexLt ns' ms')))) ⟨hp, g, d, tk, os⟩) _
    case turn =>
      rintro ⟨y, x⟩ rest b s' ⟨hb', rfl, vs, ws, ns', ms', hz, hvi, hwi, hlen, hR⟩
      cases hvi with
      | nil => rw [List.zip_nil_left] at hz; cases hz
      | cons a t hvi' =>
        cases hwi with
        | nil => rw [List.zip_nil_right] at hz; cases hz
        | cons c u hwi' =>
          rw [List.zip_cons_cons] at hz
          injection hz with hyx hrest
          injection hyx with hy hx
          subst hy hx
          rw [lexLt_cons] at hR
          simp only [List.length_cons] at hlen
          obtain ⟨e, he, hiff⟩ := eqAt_int A.in1 ⟨hp, g, d, tk, os⟩ a t c u
          refine wpAny_bind (he prog w _ _ ?_)
          cases e with
          | true =>
            rw [if_pos (hiff.mp rfl)] at hR
            wp_walk
            exact ⟨rfl, rfl, _, _, _, _, hrest, hvi', hwi', by omega, hR⟩
          | false =>
            rw [if_neg (fun q => absurd (hiff.mpr q) Bool.false_ne_true)] at hR
            have hri := rcLt_int A.in1 ⟨hp, g, d, tk, os⟩ a t c u prog w
            wp_walk using hri
            exact ⟨_, rfl, by simpa using hR⟩
    case fin =>
      rintro ⟨b1, b2⟩ s' ⟨hb', rfl, vs, ws, ns', ms', hz, hvi, hwi, hlen, hR⟩
      simp only at hb'
      subst hb'
      have hv : lexLt ns' ms' = decide (items.size < items2.size) := by
        cases hvi with
        | nil =>
          cases hwi with
          | nil =>
            simp only [List.length_nil] at hlen
            rw [lexLt_nil_nil]
            exact (decide_eq_false (by omega)).symm
          | cons c u hw =>
            simp only [List.length_nil, List.length_cons] at hlen
            rw [lexLt_nil_cons]
            exact (decide_eq_true (by omega)).symm
        | cons a t hv =>
          cases hwi with
          | nil =>
            simp only [List.length_nil, List.length_cons] at hlen
            rw [lexLt_cons_nil]
            exact (decide_eq_false (by omega)).symm
          | cons c u hw =>
            rw [List.zip_cons_cons] at hz
            cases hz
      rw [hv] at hR
      wp_walk
      exact ⟨_, rfl, by simpa [Builtin.Tuple.tupleCompareSizes] using hR⟩
    case h =>
      exact ⟨rfl, rfl, items.toList, items2.toList, ns, ms, rfl, hi, hj, by omega, h⟩
end

section
variable {prog : Program} {w : World} {A : Around} {E : Value → Shared → Prop} {s : Shared}

theorem lt_tupInts {l b : Addr} {items items2 : Array Value} {ns ms : List Int} {Q : Value → Shared → Prop} (hl : IsTup s.heap l items) (hb : IsTup s.heap b items2) (hi : IntsAre items.toList ns) (hj : IntsAre items2.toList ms)
    (hu : A.units < cLine) (h : Q (.bool (lexLt ns ms)) s) : wpAny (model prog w) A (compareOp .Lt (.ref l) (.ref b)) Q E s := by
  obtain ⟨⟨cls, dd, data, sl⟩, ho, hc, n, hd⟩ := id hl
  obtain ⟨⟨cls2, dd2, data2, sl2⟩, ho2, hc2, n2, hd2⟩ := id hb
  simp only at hc hd hc2 hd2
  subst hc hd hc2 hd2
  exact richCompare_meets_room (op := .Lt) ⟨_, ho, rfl⟩ ⟨_, ho2, rfl⟩ PySem.F.slot_tuple_lt PySem.F.entry_tuple_lt (PySem.F.args_tuple_lt_2 _ _) (tuple_lt_ints l b items items2 n n2 dd dd2 sl sl2 ns ms hi hj)
    ⟨ho, ho2, show Value.bool (lexLt ns ms) ≠ Value.notImplemented ∧ Q (.bool (lexLt ns ms)) s from ⟨(fun x => nomatch x), h⟩⟩ hu

/-- t + u, t not empty -/
theorem cat_tup {t b : Addr} {vs ws : List Value} {Q : Value → Shared → Prop} (ht : IsTup s.heap t vs.toArray) (hb : IsTup s.heap b ws.toArray) (hv : vs ≠ [])
    (h1 : ws = [] → Q (.ref t) s) (h2 : ws ≠ [] → Q (.ref s.heap.objs.size) { s with heap := s.heap.push { cls := .type "tuple", data := .seq (vs ++ ws).toArray } })
    (hsz : vs.length + ws.length ≤ sizeLine) : wpAny (model prog w) A (binaryOp .Add (.ref t) (.ref b)) Q E s := by
  obtain ⟨⟨cls, dd, data, sl⟩, ho, hc, n, hd⟩ := id ht
  obtain ⟨⟨cls2, dd2, data2, sl2⟩, ho2, hc2, n2, hd2⟩ := id hb
  simp only at hc hd hc2 hd2
  subst hc hd hc2 hd2
  have e : vs.toArray ++ ws.toArray = (vs ++ ws).toArray := by simp
  by_cases hw : ws = []
  · exact concat_meets ⟨_, ho, rfl⟩ ⟨_, ho2, rfl⟩ noFill_tuple_add seq_tuple_add PySem.F.slot_tuple_add PySem.F.entry_tuple_add (PySem.F.args_tuple_add_2 _ _)
      (tuple_addW1 t b vs.toArray ws.toArray n n2 dd dd2 sl sl2 (by simpa using hv) (by simp [hw])) ⟨ho, ho2, h1 hw⟩
  · refine concat_meets ⟨_, ho, rfl⟩ ⟨_, ho2, rfl⟩ noFill_tuple_add seq_tuple_add PySem.F.slot_tuple_add PySem.F.entry_tuple_add (PySem.F.args_tuple_add_2 _ _)
      (tuple_addW2 t b vs.toArray ws.toArray n n2 dd dd2 sl sl2 (by simpa using hv) (by simpa using hw) (by rw [List.size_toArray, List.size_toArray]; exact hsz)) ⟨ho, ho2, ?_⟩
    rw [e]
    exact h2 hw

/-! ### t[a:b], not the whole -/
/-- a slice's bound as a place among n (d where it is left out) -/
def sIx (n d : Nat) : Option Int → Nat
  | none => d
  | some v => if v < 0 then (v + (n : Int)).toNat else min v.toNat n
theorem sIx_none (n d : Nat) : sIx n d none = d := rfl
theorem sIx_nat (n d k : Nat) : sIx n d (some (k : Int)) = min k n := by
  show (if (k : Int) < 0 then ((k : Int) + (n : Int)).toNat else min (k : Int).toNat n) = min k n
  rw [if_neg (by omega), Int.toNat_natCast]
theorem sIx_le (n d : Nat) (hd : d ≤ n) (o : Option Int) : sIx n d o ≤ n := by
  cases o with
  | none => exact hd
  | some v =>
    show (if v < 0 then (v + (n : Int)).toNat else min v.toNat n) ≤ n
    by_cases hv : v < 0
    · rw [if_pos hv]; omega
    · rw [if_neg hv]; exact Nat.min_le_right _ _
theorem clip_eq (v : Int) (n d : Nat) : (if v < 0 then max (v + (n : Int)) 0 else min v (n : Int)) = ((sIx n d (some v) : Nat) : Int) := by
  show (if v < 0 then max (v + (n : Int)) 0 else min v (n : Int)) = (((if v < 0 then (v + (n : Int)).toNat else min v.toNat n) : Nat) : Int)
  by_cases hv : v < 0
  · simp only [if_pos hv]; omega
  · simp only [if_neg hv]; omega
theorem adjust_gen (lo hi : Option Int) (n : Nat) : Builtin.Slice.sliceAdjust lo hi 1 (n : Int) = (((sIx n 0 lo : Nat) : Int), ((sIx n n hi : Nat) : Int)) := by
  have h1 : ¬ ((1 : Int) < 0) := by omega
  unfold Builtin.Slice.sliceAdjust
  simp only [h1, if_false]
  refine Prod.ext ?_ ?_
  · cases lo with
    | none => rfl
    | some v => exact clip_eq v n 0
  · cases hi with
    | none => rfl
    | some v => exact clip_eq v n n
theorem places_gen (i j : Nat) : Builtin.Slice.slicePlaces (i : Int) (j : Int) 1 = j - i := by
  unfold Builtin.Slice.slicePlaces
  have h1 : (1 : Int) > 0 := by omega
  simp only [h1, if_true, Int.ediv_one]
  split <;> omega
theorem slicePart_ {v : Value} {o : Option Int} {Q : Option Int → Shared → Prop} (p : IsPart v o) (h : Q o s) : wpAny (model prog w) A (Builtin.Slice.slicePartIndex v) Q E s := by
  cases p with
  | none => exact slicePart_none h
  | int i t => exact slicePart_int h
theorem sliceApplied_gen {sl : Addr} {vl vu : Value} {lo hi : Option Int} {n : Nat} {Q : Int × Int × Nat → Shared → Prop} (hs : s.heap.IsSliceOf sl vl vu .none) (pl : IsPart vl lo) (pu : IsPart vu hi)
    (h : Q (((sIx n 0 lo : Nat) : Int), 1, sIx n n hi - sIx n 0 lo) s) : wpAny (model prog w) A (Builtin.Slice.sliceApplied (.ref sl) (pure (n : Int))) Q E s := by
  obtain ⟨os, hos, hcs, hds⟩ := id hs
  unfold Builtin.Slice.sliceApplied Builtin.Slice.sliceFields
  refine wpAny_bind (wpAny_bind (wpAny_field hos hds (x := vl) rfl (wpAny_bind (wpAny_field hos hds (x := vu) rfl (wpAny_bind (wpAny_field hos hds (x := .none) rfl (wpAny_pure ?_)))))))
  refine wpAny_bind (slicePart_none ?_)
  show wpAny _ _ (if ((1 : Int) == 0) = true then _ else _) _ _ s
  rw [if_neg (by decide)]
  refine wpAny_bind (slicePart_ pl (wpAny_bind (slicePart_ pu (wpAny_bind (wpAny_pure ?_)))))
  show wpAny _ _ (match Builtin.Slice.sliceAdjust lo hi 1 (n : Int) with | (lo, hi) => pure (lo, (1 : Int), Builtin.Slice.slicePlaces lo hi 1)) _ _ s
  rw [adjust_gen lo hi n]
  show wpAny _ _ (pure (((sIx n 0 lo : Nat) : Int), (1 : Int), Builtin.Slice.slicePlaces ((sIx n 0 lo : Nat) : Int) ((sIx n n hi : Nat) : Int) 1)) _ _ s
  rw [places_gen]
  exact wpAny_pure h
theorem pick_gen (xs : Array Value) (i k : Nat) : ((List.range k).filterMap fun (m : Nat) => xs[((i : Int) + (m : Int) * 1).toNat]?).toArray = ((xs.toList.drop i).take k).toArray := by
  have e : (fun (m : Nat) => xs[((i : Int) + (m : Int) * 1).toNat]?) = fun m => xs[i + m]? := by
    funext m
    have : ((i : Int) + (m : Int) * 1).toNat = i + m := by omega
    rw [this]
  rw [e]
  have := pick_run xs i k
  rw [List.filterMap_map] at this
  have e2 : ((fun x => xs[x]?) ∘ fun x => i + x) = fun m => xs[i + m]? := rfl
  rw [e2] at this
  rw [this]

theorem getItem_tuple_cut {t sl : Addr} {items : Array Value} {vl vu : Value} {lo hi : Option Int} {Q : Value → Shared → Prop} (ht : IsTup s.heap t items) (hs : s.heap.IsSliceOf sl vl vu .none) (pl : IsPart vl lo) (pu : IsPart vu hi)
    (hw : ¬ (sIx items.size 0 lo = 0 ∧ sIx items.size items.size hi = items.size))
    (h : Q (.ref s.heap.objs.size) { s with heap := s.heap.push { cls := .type "tuple", data := .seq ((items.toList.drop (sIx items.size 0 lo)).take (sIx items.size items.size hi - sIx items.size 0 lo)).toArray } })
    (hsz : items.size ≤ sizeLine) : wpAny (model prog w) A (getItem (.ref t) (.ref sl)) Q E s := by
  have htake : sizeOk (.seq ((items.toList.drop (sIx items.size 0 lo)).take (sIx items.size items.size hi - sIx items.size 0 lo)).toArray) := by
    show ((items.toList.drop (sIx items.size 0 lo)).take (sIx items.size items.size hi - sIx items.size 0 lo)).toArray.size ≤ sizeLine
    rw [List.size_toArray, List.length_take, List.length_drop, Array.length_toList]
    omega
  have hj : sIx items.size items.size hi ≤ items.size := sIx_le _ _ (Nat.le_refl _) hi
  obtain ⟨os, hos, hcs, hds⟩ := id hs
  have hTs : s.TypeIs (.ref sl) "slice" := ⟨os, hos, hcs⟩
  unfold getItem
  try with_reducible refine wpAny_holding ?_
  first | refine wpAny_bind (wpAny_pure ?_) | skip
  refine wpAny_bind (wpAny_sequenceKey ht.typeIs (by decide) ?_)
  refine wpAny_bind (wpAny_callSpecial?_slot (name := Str.ofString "__getitem__") ht.typeIs PyProof.Rows.slot_tuple_getitem
    (wpAny_call_entry PyProof.Rows.slot_tuple_getitem ht.typeIs entry_tuple_getitem ?_ (args_tuple_getitem _ _)))
  show wpAny _ _ (Builtin.Tuple.tupleItemsOf (.ref t) >>= _) _ _ s
  refine wpAny_bind (tupleItemsOf_ ht ?_)
  refine wpAny_bind (wpAny_typeOf hTs ?_)
  rw [if_pos (by decide)]
  refine wpAny_bind (sliceApplied_gen hs pl pu ?_)
  have hno : ¬ ((((sIx items.size 0 lo : Nat) : Int) == 0 && (1 : Int) == 1 && (sIx items.size items.size hi - sIx items.size 0 lo) == items.size) = true) := by
    intro q
    rw [Bool.and_eq_true, Bool.and_eq_true] at q
    have q1 : ((sIx items.size 0 lo : Nat) : Int) = 0 := eq_of_beq q.1.1
    have q2 : sIx items.size items.size hi - sIx items.size 0 lo = items.size := eq_of_beq q.2
    exact hw ⟨by omega, by omega⟩
  show wpAny _ _ (if (((sIx items.size 0 lo : Nat) : Int) == 0 && (1 : Int) == 1 && (sIx items.size items.size hi - sIx items.size 0 lo) == items.size) = true then _ else _) _ _ s
  rw [if_neg hno, pick_gen]
  first
    | exact wpAny_bind (m := Builtin.Tuple.tupleExact _) (wpAny_newObj_type (wpAny_pure ⟨_, rfl, wpAny_pure h⟩) htake)
    | exact wpAny_bind (m := Builtin.Tuple.tupleExact _) (wpAny_newObj_type (wpAny_bind (wpAny_pure (wpAny_pure ⟨_, rfl, wpAny_pure h⟩))) htake)
    | exact wpAny_bind (wpAny_bind (m := Builtin.Tuple.tupleExact _) (wpAny_newObj_type (wpAny_pure (wpAny_pure ⟨_, rfl, wpAny_pure h⟩)) htake))
    | exact wpAny_bind (wpAny_bind (m := Builtin.Tuple.tupleExact _) (wpAny_newObj_type (wpAny_pure ⟨_, rfl, wpAny_pure h⟩) htake))
end
end HT

namespace L2
open PySem PySem.Spec PyProof.Rows

/-! ### the parts of a slice -/
abbrev TO := St → Hp → (Option Int → Hp → Prop) → Prop
/-- a slice's part (left out, or an int) -/
def PO (X : Cx) (e : Option Expr) (t : TO) : Prop :=
  ∀ (pins : List (Addr × Obj)) (s : Shared) (σ : St) (H : Hp) (Q : Option Int → Hp → Prop), Inv X pins σ H s → t σ H Q →
    wpAny (model X.prog X.w) X.A (evalPart e X.env) (fun u s' => ∃ o H', Inv X pins σ H' s' ∧ IsPart u o ∧ Q o H') X.xe s
def tNoPart : TO := fun _ H Q => Q none H
def tPart (t : TE) : TO := fun σ H Q => t σ H fun x H1 => ∃ i, x = .int i ∧ Q (some i) H1

theorem intsAre_of {ns : List Int} : ∀ {us : List Value}, Vals (ns.map V.int) us → IntsAre us ns := by
  induction ns with
  | nil => intro us r; rw [List.map_nil] at r; cases r; exact .nil
  | cons n ns ih =>
    intro us r
    rw [List.map_cons] at r
    cases r with
    | cons r1 r2 =>
      obtain ⟨t, e⟩ := r1
      subst e
      exact .cons n t (ih r2)

section
variable {X : Cx} {e : Expr} {te : TE} {lo hi : Option Expr} {tl th : TO} {pos p2 : Pos}

theorem po_none : PO X none tNoPart := by
  intro pins s σ H Q I h
  rw [evalPart_none]
  exact wpAny_pure ⟨none, H, I, .none, h⟩
theorem po_some (h : PE X e te) : PO X (some e) (tPart te) := by
  intro pins s σ H Q I hw
  rw [evalPart_some]
  refine thn (h pins s σ H _ I hw) fun u s1 ⟨x, H1, I1, r1, q1⟩ => ?_
  obtain ⟨i, rfl, q⟩ := q1
  obtain ⟨t, rfl⟩ := r1
  exact ⟨some i, H1, I1, .int i t, q⟩

/-- what a slice of a value is, by values: the slice object stands at sl -/
def SlR (X : Cx) (r : V → Option Int → Option Int → Hp → VK → Prop) : Prop :=
  ∀ (pins : List (Addr × Obj)) (s : Shared) (σ : St) (H : Hp) (x : V) (v vl vu : Value) (lo hi : Option Int) (sl : Addr) (Q : VK), Inv X pins σ H s → RelV x v → s.heap.IsSliceOf sl vl vu .none → IsPart vl lo → IsPart vu hi → r x lo hi H Q →
    ∃ T id, typeLookup (.type T) "__getitem__" = pure (some (.builtin id)) ∧ s.TypeIs v T ∧ wpAny (model X.prog X.w) X.A (getItem v (.ref sl)) (EP X pins σ Q) X.xe s
theorem SlR.or {r r' : V → Option Int → Option Int → Hp → VK → Prop} (h : SlR X r) (h' : SlR X r') : SlR X (fun x lo hi H Q => r x lo hi H Q ∨ r' x lo hi H Q) := by
  intro pins s σ H x v vl vu lo hi sl Q I rx hs pl pu q
  rcases q with q | q
  · exact h pins s σ H x v vl vu lo hi sl Q I rx hs pl pu q
  · exact h' pins s σ H x v vl vu lo hi sl Q I rx hs pl pu q
def tSl (r : V → Option Int → Option Int → Hp → VK → Prop) (te : TE) (tl th : TO) : TE := fun σ H Q => te σ H fun x H1 => tl σ H1 fun l H2 => th σ H2 fun u H3 => r x l u H3 Q
/-- a[lo:hi], any a -/
theorem pe_slice {r : V → Option Int → Option Int → Hp → VK → Prop} (hr : SlR X r) (he : PE X e te) (hl : PO X lo tl) (hu : PO X hi th) : PE X (.Subscript e (.Slice lo hi none p2) pos) (tSl r te tl th) := by
  intro pins s σ H Q I h
  refine Subscript_ (thn (he pins s σ H _ I h) fun v s1 ⟨x, H1, I1, r1, q1⟩ => ?_)
  refine wpAny_Slice (thn (hl pins s1 σ H1 _ I1 q1) fun vl s2 ⟨l, H2, I2, pl, q2⟩ => thn (hu pins s2 σ H2 _ I2 q2) fun vu s3 ⟨u, H3, I3, pu, q3⟩ => ?_)
  rw [evalPart_none]
  refine wpAny_pure ?_
  have I4 : Inv X pins σ H3 { s3 with heap := s3.heap.push { cls := .type "slice", data := .fields #[vl, vu, .none] } } := I3.kept (t' := s3.toks) fun b ob q => Heap.get?_push_of_some _ q
  obtain ⟨T, id, hT, ht, hg⟩ := hr pins { s3 with heap := s3.heap.push { cls := .type "slice", data := .fields #[vl, vu, .none] } } σ H3 x v vl vu l u s3.heap.objs.size Q I4 r1 (Heap.IsSliceOf.new ..) pl pu q3
  show wpAny (model X.prog X.w) X.A (subscriptTail e (.Slice lo hi none p2) v (.ref s3.heap.objs.size)) (EP X pins σ Q) X.xe { s3 with heap := s3.heap.push { cls := .type "slice", data := .fields #[vl, vu, .none] } }
  exact tail_any (ops := [.ref s3.heap.objs.size, v]) ht hT hg (by with_unfolding_all rfl)

/-- the items of xs[lo:hi] -/
def cutV (xs : List V) (lo hi : Option Int) : List V := (xs.drop (HT.sIx xs.length 0 lo)).take (HT.sIx xs.length xs.length hi - HT.sIx xs.length 0 lo)
theorem cutV_length (xs : List V) (lo hi : Option Int) : (cutV xs lo hi).length ≤ xs.length := by
  unfold cutV
  rw [List.length_take, List.length_drop]
  omega
/-- t[lo:hi], not the whole of it (the whole would be t itself) -/
def rSlT (K : PySem.W.Frag) : V → Option Int → Option Int → Hp → VK → Prop := fun x lo hi H Q => ∃ a xs, x = .ref a ∧ SqT K H a xs ∧
  ¬ (HT.sIx xs.length 0 lo = 0 ∧ HT.sIx xs.length xs.length hi = xs.length) ∧ ∀ p, H p = none → Q (.ref p) (upd H p (.tup (cutV xs lo hi)))
theorem sl_tup : SlR X (rSlT X.K) := by
  intro pins s σ H x v vl vu lo hi sl Q I rx hs pl pu h
  obtain ⟨a, xs, rfl, hx, hw, q⟩ := h
  cases rx
  obtain ⟨its, r, ht, hz⟩ := I.tuple hx
  have hlen : its.toArray.size = xs.length := by rw [List.size_toArray]; exact r.length.symm
  refine ⟨"tuple", _, PyProof.Rows.slot_tuple_getitem.lookup, ht.typeIs, ?_⟩
  refine HT.getItem_tuple_cut ht hs pl pu (by rw [hlen]; exact hw) ?_ (by rw [hlen]; exact hz)
  rw [hlen]
  refine ⟨.ref s.heap.objs.size, _, I.laid (t' := s.toks) (o := .tup (cutV xs lo hi)) (fun b ob q => Heap.get?_push_of_some _ q) (Nat.le_refl _) ?_, rfl, q _ (I.hok.fresh (Nat.le_refl _))⟩
  exact ⟨Nat.le_trans (cutV_length xs lo hi) hz, _, (r.drop (HT.sIx xs.length 0 lo)).take (HT.sIx xs.length xs.length hi - HT.sIx xs.length 0 lo), IsTup.new _ _⟩

/-! ### t < u, t + u -/
def rLtT (K : PySem.W.Frag) : R2 := fun x y H Q => ∃ a b ns ms, x = .ref a ∧ y = .ref b ∧ SqT K H a (ns.map V.int) ∧ SqT K H b (ms.map V.int) ∧ Q (.bl (HT.lexLt ns ms)) H
theorem op_ltT (hu : X.A.units < cLine) : OpR X (compareOp .Lt) (rLtT X.K) := by
  intro pins s σ H x y v u Q I rx ry h
  obtain ⟨a, b, ns, ms, rfl, rfl, ha, hb, q⟩ := h
  cases rx
  cases ry
  obtain ⟨its, r1, p1, _⟩ := I.tuple ha
  obtain ⟨its2, r2, p2, _⟩ := I.tuple hb
  have i1 : IntsAre its.toArray.toList ns := intsAre_of r1
  have i2 : IntsAre its2.toArray.toList ms := intsAre_of r2
  exact HT.lt_tupInts p1 p2 i1 i2 hu ⟨.bl (HT.lexLt ns ms), H, I, rfl, q⟩
/-- t + u, t not empty: u empty gives t itself -/
def rCatT (K : PySem.W.Frag) : R2 := fun x y H Q => ∃ a b xs ys, x = .ref a ∧ y = .ref b ∧ SqT K H a xs ∧ SqT K H b ys ∧ xs ≠ [] ∧ xs.length + ys.length ≤ sizeLine ∧
  (ys = [] → Q (.ref a) H) ∧ (ys ≠ [] → ∀ p, H p = none → Q (.ref p) (upd H p (.tup (xs ++ ys))))
theorem Vals.nil_iff {xs : List V} {us : List Value} (r : Vals xs us) : us = [] ↔ xs = [] := by
  cases r with
  | nil => simp
  | cons _ _ => simp
theorem op_catT : OpR X (binaryOp .Add) (rCatT X.K) := by
  intro pins s σ H x y v u Q I rx ry h
  obtain ⟨a, b, xs, ys, rfl, rfl, ha, hb, hx, hz, q1, q2⟩ := h
  cases rx
  cases ry
  obtain ⟨its, r1, p1, _⟩ := I.tuple ha
  obtain ⟨its2, r2, p2, _⟩ := I.tuple hb
  refine HT.cat_tup p1 p2 (fun z => hx (r1.nil_iff.mp z)) (fun z => ⟨.ref a, H, I, rfl, q1 (r2.nil_iff.mp z)⟩) (fun z => ?_) (by rw [← r1.length, ← r2.length]; exact hz)
  refine ⟨.ref s.heap.objs.size, _, I.laid (t' := s.toks) (o := .tup (xs ++ ys)) (fun b ob q => Heap.get?_push_of_some _ q) (Nat.le_refl _) ?_, rfl, q2 (fun w => z (r2.nil_iff.mpr w)) _ (I.hok.fresh (Nat.le_refl _))⟩
  exact ⟨by rw [List.length_append]; exact hz, _, r1.append r2, IsTup.new _ _⟩
/-- tuple(t) -/
theorem call_tupleT : CallR X (.type "tuple") (fun xs H Q => ∃ a ys, xs = [.ref a] ∧ SqT X.K H a ys ∧ Q (.ref a) H) := by
  intro pins s σ H xs us Q I r h
  obtain ⟨a, ys, rfl, ha, q⟩ := h
  obtain ⟨u, rfl, ru⟩ := vals1 r
  cases ru
  obtain ⟨its, _, p1, _⟩ := I.tuple ha
  exact call_tuple_same (items := its.toArray) p1 ⟨.ref a, H, I, rfl, q⟩
end
end L2

namespace L2
open PySem PySem.Spec PyProof.Rows

/-! ### places -/
/-- the place that an index of any sign means -/
def ixN (n : Nat) (i : Int) : Option Nat := if 0 ≤ i then (if i < n then some i.toNat else none) else if -(n : Int) ≤ i then some (i + n).toNat else none
def atI {α : Type} (xs : List α) (i : Int) : Option α := (ixN xs.length i).bind fun j => xs[j]?
theorem ixN_seq {n : Nat} {i : Int} {j : Nat} (h : ixN n i = some j) : seqIndex? i n = some j ∧ j < n ∧ -(n : Int) ≤ i ∧ i < n := by
  unfold ixN at h
  by_cases h0 : 0 ≤ i
  · rw [if_pos h0] at h
    by_cases h1 : i < n
    · rw [if_pos h1] at h
      have e : i.toNat = j := Option.some.inj h
      exact ⟨by rw [seqIndex_of h0 h1, e], by omega, by omega, h1⟩
    · rw [if_neg h1] at h; cases h
  · rw [if_neg h0] at h
    by_cases h1 : -(n : Int) ≤ i
    · rw [if_pos h1] at h
      have e : (i + n).toNat = j := Option.some.inj h
      exact ⟨by rw [seqIndex_neg (by omega) h1, e], by omega, h1, by omega⟩
    · rw [if_neg h1] at h; cases h
theorem atI_get {α : Type} {xs : List α} {i : Int} {v : α} (h : atI xs i = some v) : ∃ j, seqIndex? i xs.length = some j ∧ xs[j]? = some v ∧ j < xs.length ∧ -(xs.length : Int) ≤ i ∧ i < xs.length := by
  unfold atI at h
  cases e : ixN xs.length i with
  | none => rw [e] at h; cases h
  | some j =>
    rw [e] at h
    obtain ⟨h1, h2, h3, h4⟩ := ixN_seq e
    exact ⟨j, h1, h, h2, h3, h4⟩
theorem atI_nat {α : Type} {xs : List α} {j : Nat} {v : α} (h : xs[j]? = some v) : atI xs (j : Int) = some v := by
  have hj : j < xs.length := (List.getElem?_eq_some_iff.mp h).1
  have e : ixN xs.length (j : Int) = some j := by
    unfold ixN
    rw [if_pos (by omega), if_pos (by omega)]; simp
  unfold atI; rw [e]; exact h
theorem atI_last {α : Type} (xs : List α) (v : α) : atI (xs ++ [v]) (-1) = some v := by
  have hl : (xs ++ [v]).length = xs.length + 1 := by simp
  have e : ixN (xs ++ [v]).length (-1) = some xs.length := by
    unfold ixN
    rw [hl, if_neg (by decide), if_pos (by omega)]
    congr 1
    omega
  unfold atI
  rw [e]
  show (xs ++ [v])[xs.length]? = some v
  simp

/-! ### what may be subscripted -/
/-- what stands as an index of a plain subscript -/
def PlainIx (b : Expr) : Prop := ∀ o i, subscripted b false o i = operate [o, i] (getItem o i)
/-- a subscript by values -/
def IxR (X : Cx) (r : R2) : Prop :=
  ∀ (value slice : Expr) (pins : List (Addr × Obj)) (s : Shared) (σ : St) (H : Hp) (x y : V) (v u : Value) (Q : VK), Inv X pins σ H s → RelV x v → RelV y u → r x y H Q →
    subscripted slice false v u = operate [v, u] (getItem v u) → wpAny (model X.prog X.w) X.A (subscriptTail value slice v u) (EP X pins σ Q) X.xe s
/-- a call of a builtin's method by values: the receiver, the arguments -/
def MtR (X : Cx) (id : String) (r : V → List V → Hp → VK → Prop) : Prop :=
  ∀ (pins : List (Addr × Obj)) (s : Shared) (σ : St) (H : Hp) (x : V) (xs : List V) (v : Value) (us : List Value) (Q : VK), Inv X pins σ H s → RelV x v → Vals xs us → r x xs H Q →
    wpAny (model X.prog X.w) X.A (call (.builtin id) (v :: us)) (EP X pins σ Q) X.xe s
section
variable {X : Cx} {a b : Expr} {ta tb : TE} {pos : Pos}
theorem IxR.or {r r' : R2} (h : IxR X r) (h' : IxR X r') : IxR X (fun x y H Q => r x y H Q ∨ r' x y H Q) := by
  intro value slice pins s σ H x y v u Q I rx ry q hs
  rcases q with q | q
  · exact h value slice pins s σ H x y v u Q I rx ry q hs
  · exact h' value slice pins s σ H x y v u Q I rx ry q hs
theorem MtR.or {id : String} {r r' : V → List V → Hp → VK → Prop} (h : MtR X id r) (h' : MtR X id r') : MtR X id (fun x xs H Q => r x xs H Q ∨ r' x xs H Q) := by
  intro pins s σ H x xs v us Q I rx rs q
  rcases q with q | q
  · exact h pins s σ H x xs v us Q I rx rs q
  · exact h' pins s σ H x xs v us Q I rx rs q
/-- a[b] -/
theorem pe_ix {r : R2} (hr : IxR X r) (ha : PE X a ta) (hb : PE X b tb) (hs : PlainIx b) : PE X (.Subscript a b pos) (tOp r ta tb) := by
  intro pins s σ H Q I h
  exact Subscript_ (binT ha hb I h fun v u s2 x y H2 I2 rx ry q => hr a b pins s2 σ H2 x y v u Q I2 rx ry q (hs _ _))

def rIxL (K : PySem.W.Frag) : R2 := fun x y H Q => ∃ p xs i v, x = .ref p ∧ y = .int i ∧ SqL K H p xs ∧ atI xs i = some v ∧ Q v H
def rIxT (K : PySem.W.Frag) : R2 := fun x y H Q => ∃ p xs i v, x = .ref p ∧ y = .int i ∧ SqT K H p xs ∧ atI xs i = some v ∧ Q v H
def rIxS : R2 := fun x y H Q => ∃ z i c, x = .str z ∧ y = .int i ∧ z.length ≤ sizeLine ∧ atI z.cps.toList i = some c ∧ Q (.str ⟨#[c]⟩) H
theorem ix_list : IxR X (rIxL X.K) := by
  intro value slice pins s σ H x y v u Q I rx ry h hs
  obtain ⟨p, xs, i, z, rfl, rfl, hq, he, q⟩ := h
  cases rx
  obtain ⟨t, rfl⟩ := ry
  obtain ⟨its, r, pl, hz⟩ := I.list hq
  obtain ⟨j, h1, h2, h3, h4, h5⟩ := atI_get he
  obtain ⟨w, ew, rw'⟩ := r.get h2
  have hl := r.length
  have hn := line63
  have fin : EP X pins σ Q w s := ⟨z, H, I, rw', q⟩
  by_cases h0 : 0 ≤ i
  · have hj : i.toNat = j := by
      rw [seqIndex_of h0 h5] at h1
      exact Option.some.inj h1
    exact item_listR pl.isList h0 (by omega) (by rw [hj]; simpa using ew) fin hs
  · have hj : (i + (its.toArray.size : Int)).toNat = j := by
      rw [seqIndex_neg (by omega) h4] at h1
      rw [List.size_toArray, ← hl]
      exact Option.some.inj h1
    exact subscriptTail_builtinR (x := w) pl.isList.typeIs slot_list_getitem.lookup
      (wpAny_getItem_list_neg (Q := fun r s' => r = w ∧ EP X pins σ Q r s') pl.isList (by omega) (by rw [List.size_toArray] <;> omega) (by omega) (by rw [hj]; simpa using ew) ⟨rfl, fin⟩) hs
theorem ix_tup : IxR X (rIxT X.K) := by
  intro value slice pins s σ H x y v u Q I rx ry h hs
  obtain ⟨p, xs, i, z, rfl, rfl, hq, he, q⟩ := h
  cases rx
  obtain ⟨t, rfl⟩ := ry
  obtain ⟨its, r, pl, hz⟩ := I.tuple hq
  obtain ⟨j, h1, h2, h3, h4, h5⟩ := atI_get he
  obtain ⟨w, ew, rw'⟩ := r.get h2
  have hl := r.length
  have hn := line63
  have fin : EP X pins σ Q w s := ⟨z, H, I, rw', q⟩
  exact subscriptTail_builtinR (x := w) pl.typeIs slot_tuple_getitem.lookup
    (getItem_tuple (j := j) (Q := fun r s' => r = w ∧ EP X pins σ Q r s') pl (by omega) (by omega) (by rw [List.size_toArray, ← hl]; exact h1) (by simpa using ew) ⟨rfl, fin⟩) hs
theorem ix_str : IxR X rIxS := by
  intro value slice pins s σ H x y v u Q I rx ry h hs
  obtain ⟨z, i, c, rfl, rfl, hz, he, q⟩ := h
  obtain ⟨t, rfl⟩ := rx
  obtain ⟨t', rfl⟩ := ry
  obtain ⟨j, h1, h2, h3, h4, h5⟩ := atI_get he
  have hl : z.cps.toList.length = z.length := by simp [Str.length]
  rw [hl] at h1 h4 h5
  have hn := line63
  exact tail_any (typeIs_str s z t) slot_str_getitem.lookup (getItem_str (c := c) (by
    have e1 : decide (i < -(2 ^ 63 : Int)) = false := decide_eq_false (by omega)
    have e2 : decide (i ≥ 2 ^ 63) = false := decide_eq_false (by omega)
    rw [e1, e2, Bool.or_false]) (by rw [h1]; simpa using h2) ⟨.str ⟨#[c]⟩, H, I.tok _, ⟨_, rfl⟩, q⟩) hs
/-- list, tuple or str -/
def rIx (K : PySem.W.Frag) : R2 := fun x y H Q => rIxL K x y H Q ∨ rIxT K x y H Q ∨ rIxS x y H Q
theorem ix_seq : IxR X (rIx X.K) := ix_list.or (ix_tup.or ix_str)

/-! ### xs[i] = v, any sign -/
/-- the list's object behind a store -/
theorem mapSeq_set (its : List Value) (n j : Nat) (u : Value) : Obj.mapSeq (·.setIfInBounds j u) { cls := .type "list", data := .seq its.toArray n } = { cls := .type "list", data := .seq (its.set j u).toArray n } := by
  simp [Obj.mapSeq]
theorem Inv.lst {pins : List (Addr × Obj)} {σ : St} {H : Hp} {s : Shared} {p : Addr} {xs : List V} (I : Inv X pins σ H s) (h : H p = some (.lst xs)) :
    ∃ (its : List Value) (n : Nat), Vals xs its ∧ s.heap.get? p = some { cls := .type "list", data := .seq its.toArray n } ∧ xs.length ≤ sizeLine := by
  obtain ⟨z, its, n, r, e⟩ := I.hok p _ h
  exact ⟨its, n, r, e, z⟩
/-- the list at p is written by an update of its object -/
theorem Inv.lstUpd {pins : List (Addr × Obj)} {σ : St} {H : Hp} {s : Shared} {p : Addr} {xs ys : List V} {its its' : List Value} {n n' : Nat} {f : Obj → Obj} (I : Inv X pins σ H s) (h : H p = some (.lst xs))
    (ho : s.heap.get? p = some { cls := .type "list", data := .seq its.toArray n }) (hf : f { cls := .type "list", data := .seq its.toArray n } = { cls := .type "list", data := .seq its'.toArray n' }) (r : Vals ys its') (hz : ys.length ≤ sizeLine) (t : Nat) :
    Inv X pins σ (upd H p (.lst ys)) { s with heap := s.heap.update p f, toks := t } := by
  have e : (s.heap.update p f).get? p = some { cls := .type "list", data := .seq its'.toArray n' } := by
    rw [Heap.get?_update_self f ho (by rw [hf] <;> rfl), hf]
  refine I.write (x := p) (e := p) (by rw [h]; trivial) (.inl rfl) (fun b u hb q => (Heap.get?_update_other _ _ (Ne.symm hb)).trans q) ⟨_, e⟩ ?_
  exact ⟨hz, its', n', r, e⟩
def rSetL : V → V → V → Hp → (Hp → Prop) → Prop := fun o i v H Q => ∃ p xs k j, o = .ref p ∧ i = .int k ∧ H p = some (.lst xs) ∧ ixN xs.length k = some j ∧ Q (upd H p (.lst (xs.set j v)))
theorem set_list : PSet X rSetL := by
  intro pins s σ H o i v ov iv u Q I ro ri rv h
  obtain ⟨p, xs, k, j, rfl, rfl, hp, hj, q⟩ := h
  cases ro
  obtain ⟨t, rfl⟩ := ri
  obtain ⟨its, n, r, ho, hz⟩ := I.lst hp
  obtain ⟨h1, h2, h3, h4⟩ := ixN_seq hj
  have hl := r.length
  have hn := line63
  have I' : Inv X pins σ (upd H p (.lst (xs.set j v))) { s with heap := s.heap.update p (Obj.mapSeq (·.setIfInBounds j u)) } :=
    I.lstUpd hp ho (mapSeq_set its n j u) (r.set rv j) (by rw [List.length_set]; exact hz) s.toks
  by_cases h0 : 0 ≤ k
  · have hk : k.toNat = j := by
      rw [seqIndex_of h0 h4] at h1
      exact Option.some.inj h1
    exact PySem.W.ki_setAt ho h0 (by omega) (by rw [List.size_toArray, ← hl]; exact h4) (by rw [hk]; exact ⟨_, I', q⟩)
  · have hk : (k + (its.toArray.size : Int)).toNat = j := by
      rw [seqIndex_neg (by omega) h3] at h1
      rw [List.size_toArray, ← hl]
      exact Option.some.inj h1
    exact PySem.W.ki_setBack ho (by omega) (by rw [List.size_toArray, ← hl]; exact h3) (by omega) (by rw [hk]; exact ⟨_, I', q⟩)

/-! ### slices -/
theorem slice_bounds (lo hi : Option Int) (n : Nat) : (sliceBounds lo hi none n).1 = ((HT.sIx n 0 lo : Nat) : Int) ∧ (sliceBounds lo hi none n).2.1 = ((HT.sIx n n hi : Nat) : Int) ∧ (sliceBounds lo hi none n).2.2 = 1 := by
  refine ⟨?_, ?_, rfl⟩
  · cases lo with
    | none => simp [sliceBounds, HT.sIx]
    | some i =>
      simp only [sliceBounds, HT.sIx, Option.getD_none, show (1 : Int) > 0 by decide, if_true]
      by_cases h : i < 0
      · simp only [h, if_true] <;> omega
      · simp only [h, if_false] <;> omega
  · cases hi with
    | none => simp [sliceBounds, HT.sIx]
    | some i =>
      simp only [sliceBounds, HT.sIx, Option.getD_none, show (1 : Int) > 0 by decide, if_true]
      by_cases h : i < 0
      · simp only [h, if_true] <;> omega
      · simp only [h, if_false] <;> omega
theorem slicePick_cut (its : List Value) (lo hi : Option Int) : slicePick its.toArray lo hi none = ((its.drop (HT.sIx its.length 0 lo)).take (HT.sIx its.length its.length hi - HT.sIx its.length 0 lo)).toArray := by
  obtain ⟨h1, h2, h3⟩ := slice_bounds lo hi its.toArray.size
  unfold slicePick
  rw [h1, h2, h3]
  simp only [sliceRange_one, pick_run, List.size_toArray] <;> rfl
/-- xs[lo:hi] of a list: a new list -/
def rSlL (K : PySem.W.Frag) : V → Option Int → Option Int → Hp → VK → Prop := fun x lo hi H Q => ∃ a xs, x = .ref a ∧ SqL K H a xs ∧ ∀ p, H p = none → Q (.ref p) (upd H p (.lst (cutV xs lo hi)))
theorem sl_list : SlR X (rSlL X.K) := by
  intro pins s σ H x v vl vu lo hi sl Q I rx hs pl pu h
  obtain ⟨a, xs, rfl, hx, q⟩ := h
  cases rx
  obtain ⟨its, r, ht, hz⟩ := I.list hx
  have hlen := r.length
  refine ⟨"list", _, slot_list_getitem.lookup, ht.isList.typeIs, ?_⟩
  refine wpAny_getItem_list_slice ht.isList hs pl pu .none (by simp) ?_ (by rw [List.size_toArray] <;> omega)
  rw [slicePick_cut, ← hlen]
  refine ⟨.ref s.heap.objs.size, _, I.laid (t' := s.toks) (o := .lst (cutV xs lo hi)) (fun b ob q => Heap.get?_push_of_some _ q) (Nat.le_refl _) ?_, rfl, q _ (I.hok.fresh (Nat.le_refl _))⟩
  exact ⟨Nat.le_trans (cutV_length xs lo hi) hz, _, 0, (r.drop (HT.sIx xs.length 0 lo)).take (HT.sIx xs.length xs.length hi - HT.sIx xs.length 0 lo), Heap.get?_push_size _ rfl⟩

/-! ### in, not in: flat items -/
def flatV : V → Bool
  | .non => true
  | .bl _ => true
  | .int _ => true
  | .str _ => true
  | _ => false
/-- == of flat values -/
def eqV : V → V → Bool
  | .non, .non => true
  | .bl a, .bl b => a == b
  | .bl a, .int b => (if a then 1 else 0) == b
  | .int a, .bl b => a == (if b then 1 else 0)
  | .int a, .int b => a == b
  | .str a, .str b => a == b
  | _, _ => false
theorem eqAt_V {A : Around} {s : Shared} {y x : V} {u v : Value} (ry : RelV y u) (rx : RelV x v) (fy : flatV y = true) (fx : flatV x = true) : SeqAt.EqAt A s u v (eqV y x) := by
  cases y with
  | non =>
    cases ry
    cases x with
    | non => cases rx; exact SeqAt.EqAt.same _
    | bl b => cases rx; exact SeqAt.EqAt.none_bool b
    | int b => obtain ⟨t, rfl⟩ := rx; exact SeqAt.EqAt.none_int b t
    | str b => obtain ⟨t, rfl⟩ := rx; exact SeqAt.EqAt.none_str b t
    | _ => exact absurd (show false = true from fx) Bool.false_ne_true
  | bl a =>
    cases ry
    cases x with
    | non => cases rx; exact SeqAt.EqAt.bool_none a
    | bl b => cases rx; exact SeqAt.EqAt.bool_bool a b
    | int b => obtain ⟨t, rfl⟩ := rx; exact SeqAt.EqAt.bool_int a b t
    | str b => obtain ⟨t, rfl⟩ := rx; exact SeqAt.EqAt.bool_str a b t
    | _ => exact absurd (show false = true from fx) Bool.false_ne_true
  | int a =>
    obtain ⟨t', rfl⟩ := ry
    cases x with
    | non => cases rx; exact SeqAt.EqAt.int_none a t'
    | bl b => cases rx; exact SeqAt.EqAt.int_bool a t' b
    | int b => obtain ⟨t, rfl⟩ := rx; exact SeqAt.EqAt.int_int a t' b t
    | str b => obtain ⟨t, rfl⟩ := rx; exact SeqAt.EqAt.int_str a t' b t
    | _ => exact absurd (show false = true from fx) Bool.false_ne_true
  | str a =>
    obtain ⟨t', rfl⟩ := ry
    cases x with
    | non => cases rx; exact SeqAt.EqAt.str_none a t'
    | bl b => cases rx; exact SeqAt.EqAt.str_bool a t' b
    | int b => obtain ⟨t, rfl⟩ := rx; exact SeqAt.EqAt.str_int a t' b t
    | str b => obtain ⟨t, rfl⟩ := rx; exact SeqAt.EqAt.str_str a t' b t
    | _ => exact absurd (show false = true from fx) Bool.false_ne_true
  | _ => exact absurd (show false = true from fy) Bool.false_ne_true
/-- the items' answers, read off the values (a value's own answer does not lean on its token) -/
def eqU (x : V) (u : Value) : Bool := match u with
  | .none => eqV .non x
  | .bool b => eqV (.bl b) x
  | .int i _ => eqV (.int i) x
  | .str z _ => eqV (.str z) x
  | _ => false
theorem eqU_of {x y : V} {u : Value} (r : RelV y u) (f : flatV y = true) : eqU x u = eqV y x := by
  cases y with
  | non => cases r; rfl
  | bl b => cases r; rfl
  | int i => obtain ⟨t, rfl⟩ := r; rfl
  | str z => obtain ⟨t, rfl⟩ := r; rfl
  | _ => exact absurd (show false = true from f) Bool.false_ne_true
theorem any_eqU {x : V} : ∀ {xs : List V} {us : List Value}, Vals xs us → xs.all flatV = true → us.any (eqU x) = xs.any fun y => eqV y x
  | _, _, .nil, _ => rfl
  | y :: xs, u :: us, .cons r t, f => by
    rw [List.all_cons, Bool.and_eq_true] at f
    rw [List.any_cons, List.any_cons, eqU_of r f.1, any_eqU t f.2]
theorem mem_eqAt {A : Around} {s : Shared} {x : V} {v : Value} (rx : RelV x v) (fx : flatV x = true) : ∀ {xs : List V} {us : List Value}, Vals xs us → xs.all flatV = true → ∀ u ∈ us, SeqAt.EqAt A s u v (eqU x u)
  | _, _, .nil, _ => fun u hu => by cases hu
  | y :: xs, u :: us, .cons r t, f => fun u' hu => by
    rw [List.all_cons, Bool.and_eq_true] at f
    rcases List.mem_cons.mp hu with rfl | hu
    · rw [eqU_of r f.1]; exact eqAt_V r rx f.1 fx
    · exact mem_eqAt rx fx t f.2 u' hu
def inV (x : V) (xs : List V) : Bool := xs.any fun y => eqV y x
/-- x in a list or tuple of flat items -/
def rIn (K : PySem.W.Frag) (neg : Bool) : R2 := fun x y H Q => ∃ p xs, y = .ref p ∧ (SqL K H p xs ∨ SqT K H p xs) ∧ flatV x = true ∧ xs.all flatV = true ∧ Q (.bl (if neg then !inV x xs else inV x xs)) H
theorem op_in_seq : OpR X (compareOp .In) (rIn X.K false) := by
  intro pins s σ H x y v u Q I rx ry h
  obtain ⟨p, xs, rfl, hq, fx, fs, q⟩ := h
  cases ry
  rcases hq with hq | hq
  · obtain ⟨its, r, pl, hz⟩ := I.list hq
    refine SeqAt.in_listAt (eqU x) pl.isList (fun w hw => mem_eqAt rx fx r fs w (by simpa using hw)) ⟨.bl _, H, I, rfl, ?_⟩
    rw [show its.toArray.any (eqU x) = its.any (eqU x) by simp, any_eqU r fs]
    exact q
  · obtain ⟨its, r, pl, hz⟩ := I.tuple hq
    refine SeqAt.in_tupleAt (eqU x) pl (fun w hw => mem_eqAt rx fx r fs w (by simpa using hw)) ⟨.bl _, H, I, rfl, ?_⟩
    rw [show its.toArray.any (eqU x) = its.any (eqU x) by simp, any_eqU r fs]
    exact q
theorem op_notIn_seq : OpR X (compareOp .NotIn) (rIn X.K true) := by
  intro pins s σ H x y v u Q I rx ry h
  obtain ⟨p, xs, rfl, hq, fx, fs, q⟩ := h
  cases ry
  rcases hq with hq | hq
  · obtain ⟨its, r, pl, hz⟩ := I.list hq
    refine SeqAt.notIn_listAt (eqU x) pl.isList (fun w hw => mem_eqAt rx fx r fs w (by simpa using hw)) ⟨.bl _, H, I, rfl, ?_⟩
    rw [show its.toArray.any (eqU x) = its.any (eqU x) by simp, any_eqU r fs]
    exact q
  · obtain ⟨its, r, pl, hz⟩ := I.tuple hq
    refine SeqAt.notIn_tupleAt (eqU x) pl (fun w hw => mem_eqAt rx fx r fs w (by simpa using hw)) ⟨.bl _, H, I, rfl, ?_⟩
    rw [show its.toArray.any (eqU x) = its.any (eqU x) by simp, any_eqU r fs]
    exact q
theorem op_notIn_str : OpR X (compareOp .NotIn) (fun x y H Q => ∃ i j, x = .str i ∧ y = .str j ∧ Q (.bl (!(!(Builtin.Str.occurrences j i 0 j.length 1).isEmpty))) H) := by
  intro pins s σ H x y v u Q I rx ry h
  obtain ⟨i, j, rfl, rfl, q⟩ := h
  obtain ⟨t, rfl⟩ := rx
  obtain ⟨t', rfl⟩ := ry
  exact notIn_str ⟨.bl _, H, I, rfl, q⟩

/-! ### len, list(x), tuple(x) of any list or tuple that is read -/
theorem call_len_seq : CallR X (.builtin "len") (fun xs H Q => ∃ p ys, xs = [.ref p] ∧ (SqL X.K H p ys ∨ SqT X.K H p ys) ∧ Q (.int ys.length) H) := by
  intro pins s σ H xs us Q I r h
  obtain ⟨p, ys, rfl, hq, q⟩ := h
  obtain ⟨u, rfl, rx⟩ := vals1 r
  cases rx
  have hn := line63
  rcases hq with hq | hq
  · obtain ⟨its, r', pl, hz⟩ := I.list hq
    have hlen := r'.length
    exact Calls.call_len_list pl.isList (by simp only [List.size_toArray] <;> omega) ⟨.int ys.length, H, I.tok _, ⟨s.toks + 1, by rw [List.size_toArray, hlen]⟩, q⟩
  · obtain ⟨its, r', pl, hz⟩ := I.tuple hq
    have hlen := r'.length
    exact len_tuple pl (by simp only [List.size_toArray] <;> omega) ⟨.int ys.length, H, I.tok _, ⟨s.toks + 1, by rw [List.size_toArray, hlen]⟩, q⟩
theorem call_len_str : CallR X (.builtin "len") (fun xs H Q => ∃ z, xs = [.str z] ∧ z.length ≤ sizeLine ∧ Q (.int z.length) H) := by
  intro pins s σ H xs us Q I r h
  obtain ⟨z, rfl, hz, q⟩ := h
  obtain ⟨u, rfl, t, rfl⟩ := vals1 r
  have hn := line63
  exact len_str (by omega) ⟨.int z.length, H, I.tok _, ⟨_, rfl⟩, q⟩
theorem CallR.or {f : Value} {r r' : List V → Hp → VK → Prop} (h : CallR X f r) (h' : CallR X f r') : CallR X f (fun xs H Q => r xs H Q ∨ r' xs H Q) := by
  intro pins s σ H xs us Q I rs q
  rcases q with q | q
  · exact h pins s σ H xs us Q I rs q
  · exact h' pins s σ H xs us Q I rs q
theorem call_list_of : CallR X (.type "list") (fun xs H Q => ∃ p ys, xs = [.ref p] ∧ (SqL X.K H p ys ∨ SqT X.K H p ys) ∧ ∀ l, H l = none → Q (.ref l) (upd H l (.lst ys))) := by
  intro pins s σ H xs us Q I r h
  obtain ⟨p, ys, rfl, hq, q⟩ := h
  obtain ⟨u, rfl, rx⟩ := vals1 r
  cases rx
  have fin : ∀ (its : List Value), Vals ys its → ys.length ≤ sizeLine → ∀ (h' : Heap) (c' : Nat), (∀ b o', s.heap.get? b = some o' → h'.get? b = some o') →
      h'.get? s.heap.objs.size = some { cls := .type "list", dict := none, data := .seq its.toArray c', slots := #[] } → EP X pins σ Q (.ref s.heap.objs.size) { s with heap := h' } := fun its r' hz h' c' kp e =>
    ⟨.ref s.heap.objs.size, _, I.laid (t' := s.toks) kp (Nat.le_refl _) (show ObjOk X.prog X.w _ h' _ (.lst ys) from ⟨hz, its, c', r', e⟩), rfl, q _ (I.hok.fresh (Nat.le_refl _))⟩
  rcases hq with hq | hq
  · obtain ⟨its, r', pl, hz⟩ := I.list hq
    have hlen := r'.length
    obtain ⟨o, ho, hc, n, hd⟩ := pl.isList
    exact call_list_seq p (.inl rfl) ho hc hd (fun h' c' kp e => fin its r' hz h' c' kp e) (by simp only [List.size_toArray] <;> omega)
  · obtain ⟨its, r', pl, hz⟩ := I.tuple hq
    have hlen := r'.length
    obtain ⟨o, ho, hc, n, hd⟩ := pl
    exact call_list_seq p (.inr rfl) ho hc hd (fun h' c' kp e => fin its r' hz h' c' kp e) (by simp only [List.size_toArray] <;> omega)
theorem call_tuple_of : CallR X (.type "tuple") (fun xs H Q => ∃ p ys, xs = [.ref p] ∧ ((SqL X.K H p ys ∧ ∀ l, H l = none → Q (.ref l) (upd H l (.tup ys))) ∨ (SqT X.K H p ys ∧ Q (.ref p) H))) := by
  intro pins s σ H xs us Q I r h
  obtain ⟨p, ys, rfl, h⟩ := h
  obtain ⟨u, rfl, rx⟩ := vals1 r
  cases rx
  rcases h with ⟨hq, q⟩ | ⟨hq, q⟩
  · obtain ⟨its, r', pl, hz⟩ := I.list hq
    have hlen := r'.length
    refine call_tuple_list pl.isList (fun h' kp => ?_) (by simp only [List.size_toArray] <;> omega)
    have I1 : Inv X pins σ H { s with heap := h' } := I.kept (t' := s.toks) kp
    have I2 : Inv X pins σ (upd H h'.objs.size (.tup ys)) { s with heap := h'.push { cls := .type "tuple", data := .seq its.toArray } } :=
      I1.laid (t' := s.toks) (fun b o e => Heap.get?_push_of_some _ e) (Nat.le_refl _) (show ObjOk X.prog X.w _ _ _ (.tup ys) from ⟨hz, its, r', IsTup.new _ _⟩)
    exact ⟨.ref h'.objs.size, _, I2, rfl, q _ (I1.hok.fresh (Nat.le_refl _))⟩
  · obtain ⟨its, r', pl, hz⟩ := I.tuple hq
    exact call_tuple_same pl ⟨.ref p, H, I, rfl, q⟩

/-! ### the call of a builtin's method: o.m(..) -/
/-- the value is of that builtin type -/
def tyV (K : PySem.W.Frag) (T : String) (x : V) (H : Hp) : Prop := match x with
  | .str _ => T = "str"
  | .int _ => T = "int"
  | .ref p => (T = "list" ∧ ∃ xs, SqL K H p xs) ∨ (T = "tuple" ∧ ∃ o, K.lookup p = some o ∧ o.cls = .type "tuple" ∧ o.dict = none) ∨
      (T = "dict" ∧ ((∃ kvs, H p = some (.dK kvs)) ∨ ∃ kvs, H p = some (.dT kvs))) ∨ (T = "set" ∧ ∃ S n, H p = some (.set S n))
  | _ => False
theorem tyV_is {pins : List (Addr × Obj)} {σ : St} {H : Hp} {s : Shared} {T : String} {x : V} {v : Value} (I : Inv X pins σ H s) (r : RelV x v) (ty : tyV X.K T x H) :
    s.TypeIs v T ∧ ∀ a, v = .ref a → ∃ ob, s.heap.get? a = some ob ∧ ob.dict = none := by
  cases x with
  | str z =>
    obtain ⟨t, rfl⟩ := r
    cases (show T = "str" from ty)
    exact ⟨typeIs_str s z t, fun _ e => nomatch e⟩
  | int i =>
    obtain ⟨t, rfl⟩ := r
    cases (show T = "int" from ty)
    exact ⟨typeIs_int s i t, fun _ e => nomatch e⟩
  | ref p =>
    cases r
    rcases ty with ⟨rfl, xs, hq⟩ | ⟨rfl, o, hk, hc, hd⟩ | ⟨rfl, hk⟩ | ⟨rfl, S, n, hk⟩
    · obtain ⟨its, _, pl, _⟩ := I.list hq
      refine ⟨pl.isList.typeIs, fun a e => ?_⟩
      cases e
      obtain ⟨o, n, e, c, hd, _⟩ := pl
      exact ⟨o, e, hd⟩
    · refine ⟨⟨o, I.kIn p o hk, hc⟩, fun a e => ?_⟩
      cases e
      exact ⟨o, I.kIn _ o hk, hd⟩
    · have z : ∃ o, s.heap.get? p = some o ∧ o.ExactDict := by
        rcases hk with ⟨kvs, hk⟩ | ⟨kvs, hk⟩
        · obtain ⟨_, _, _, _, o, _, _, e, ex, _⟩ := I.hok p _ hk
          exact ⟨o, e, ex⟩
        · obtain ⟨_, _, _, _, o, _, _, e, ex, _⟩ := I.hok p _ hk
          exact ⟨o, e, ex⟩
      obtain ⟨o, e, ex⟩ := z
      refine ⟨⟨o, e, ex.1⟩, fun a e2 => ?_⟩
      cases e2
      exact ⟨o, e, ex.2.1⟩
    · obtain ⟨o, _, _, _, e, ex, _⟩ := I.hok p _ hk
      refine ⟨⟨o, e, ex.1⟩, fun a e2 => ?_⟩
      cases e2
      exact ⟨o, e, ex.2.1⟩
  | _ => exact False.elim ty
def tBM0 (K : PySem.W.Frag) (T : String) (r : V → List V → Hp → VK → Prop) (to : TE) : TE := fun σ H Q => to σ H fun x H1 => tyV K T x H1 ∧ r x [] H1 Q
def tBM (K : PySem.W.Frag) (T : String) (r : V → List V → Hp → VK → Prop) (to : TE) (t : TA) : TE := fun σ H Q => to σ H fun x H1 => tyV K T x H1 ∧ t σ H1 fun xs H2 => r x xs H2 Q
variable {o e : Expr} {es : List Expr} {to : TE} {t : TA} {name : Str} {apos cpos : Pos} {T id : String} {r : V → List V → Hp → VK → Prop}
theorem pe_bm0 (pa : PlainAttrs T) (slot : Slot T name id) (hty : typeOf (.builtin id) = pure (.type "method_descriptor")) (hm : MtR X id r) (ho : PE X o to)
    (hbase : attributeBase o name X.env (eval o X.env) = eval o X.env := by rfl) (hline : (apos.endLine == cpos.line) = true := by rfl) : PE X (.Call (.Attribute o name apos) [] [] cpos) (tBM0 X.K T r to) := by
  intro pins s σ H Q I h
  refine wpAny_Call_method0_late hbase hline (thn (ho pins s σ H _ I h) fun v s1 ⟨x, H1, I1, r1, ty, q1⟩ => ?_)
  obtain ⟨h1, h2⟩ := tyV_is I1 r1 ty
  exact ⟨T, id, pa, slot, hty, h1, h2, Calls.callWith_builtin rfl (PySem.evalArgs_none (hm pins s1 σ H1 x [] v [] Q I1 r1 .nil q1))⟩
theorem pe_bm (pa : PlainAttrs T) (slot : Slot T name id) (hty : typeOf (.builtin id) = pure (.type "method_descriptor")) (hm : MtR X id r) (ho : PE X o to) (ha : PA X (e :: es) t)
    (hbase : attributeBase o name X.env (eval o X.env) = eval o X.env := by rfl)
    (hfew : ((backTo cpos (starEach (e :: es) X.env)).all (fun x => !x.1) && (backToKw cpos (keywordEach [] X.env)).all (fun x => x.1.isSome)
      && decide ((e :: es).length + ([] : List Keyword).length + (if ([] : List Keyword).isEmpty then 0 else 1) < 30)) = true := by rfl)
    (hline : (apos.endLine == cpos.line) = true := by rfl) (hs : starEach (e :: es) X.env = (false, eval e X.env) :: starEach es X.env := by rfl) (hplain : (backTo cpos (starEach es X.env)).any (·.1) = false := by rfl) :
    PE X (.Call (.Attribute o name apos) (e :: es) [] cpos) (tBM X.K T r to t) := by
  intro pins s σ H Q I h
  refine wpAny_Call_method_late hbase hfew hline rfl (thn (ho pins s σ H _ I h) fun v s1 ⟨x, H1, I1, r1, ty, q1⟩ => ?_)
  obtain ⟨h1, h2⟩ := tyV_is I1 r1 ty
  refine ⟨T, id, pa, slot, hty, h1, h2, ?_⟩
  have hA := ha cpos pins s1 σ H1 _ I1 q1
  rw [hs] at hA ⊢
  refine Calls.callWith_builtin (by show (false || (backTo cpos (starEach es X.env)).any (·.1)) = false; rw [hplain] <;> rfl) (Calls.evalArgs_plain ?_)
  exact thn hA fun us s2 ⟨vs, H2, I2, r2, q2⟩ => hm pins s2 σ H2 x vs v us Q I2 r1 r2 q2
/- xs.append(e), list.index on a module's tuple .. are MtR facts of 06m -/
end
end L2

namespace L2
open PySem PySem.Spec PyProof.Rows

def MtM (X : Cx) (id : String) (r : V → List V → Hp → VK → Prop) : Prop :=
  ∀ (pins : List (Addr × Obj)) (s : Shared) (σ : St) (H : Hp) (x : V) (xs : List V) (v : Value) (us : List Value) (Q : VK), Inv X pins σ H s → RelV x v → Vals xs us → r x xs H Q →
    wpAny (model X.prog X.w) X.A (call (.builtin id) (v :: us)) (EP X pins σ Q) X.xe s

/-! ### lists of values -/
theorem Vals.one : ∀ {x : V} {us : List Value}, Vals [x] us → ∃ u, us = [u] ∧ RelV x u
  | _, _, .cons r .nil => ⟨_, rfl, r⟩
theorem Vals.two : ∀ {x y : V} {us : List Value}, Vals [x, y] us → ∃ u v, us = [u, v] ∧ RelV x u ∧ RelV y v
  | _, _, _, .cons r (.cons q .nil) => ⟨_, _, rfl, r, q⟩
theorem Vals.zero : ∀ {us : List Value}, Vals [] us → us = []
  | _, .nil => rfl
theorem Vals.dropLast {xs : List V} {us : List Value} (h : Vals xs us) : Vals xs.dropLast us.dropLast := by
  induction h with
  | nil => exact .nil
  | cons r t ih =>
    cases t with
    | nil => exact .nil
    | cons q t' => exact .cons r ih
theorem Vals.eraseIdx : ∀ {xs : List V} {us : List Value} (i : Nat), Vals xs us → Vals (xs.eraseIdx i) (us.eraseIdx i)
  | _, _, _, .nil => .nil
  | _, _, 0, .cons _ t => t
  | _, _, i + 1, .cons r t => .cons r (Vals.eraseIdx i t)
theorem Vals.reverse {xs : List V} {us : List Value} (h : Vals xs us) : Vals xs.reverse us.reverse := by
  induction h with
  | nil => exact .nil
  | cons r t ih => rw [List.reverse_cons, List.reverse_cons]; exact Vals.append ih (.cons r .nil)
theorem Vals.rep {xs : List V} {us : List Value} (h : Vals xs us) : ∀ k : Nat, Vals (List.replicate k xs).flatten (List.replicate k us).flatten
  | 0 => .nil
  | k + 1 => by
    rw [List.replicate_succ, List.replicate_succ, List.flatten_cons, List.flatten_cons]
    exact Vals.append h (Vals.rep h k)
theorem erase_last {α : Type} (l : List α) : l.eraseIdx (l.length - 1) = l.dropLast := by
  induction l with
  | nil => rfl
  | cons a r ih =>
    cases r with
    | nil => rfl
    | cons b r =>
      have e : (a :: b :: r).length - 1 = ((b :: r).length - 1) + 1 := by
        have h1 : (a :: b :: r).length = r.length + 2 := rfl
        have h2 : (b :: r).length = r.length + 1 := rfl
        omega
      rw [e, List.eraseIdx_cons_succ, ih]
      all_goals rfl
theorem len_erase {α : Type} : ∀ (l : List α) (i : Nat), (l.eraseIdx i).length ≤ l.length
  | [], _ => Nat.le_refl _
  | _ :: _, 0 => Nat.le_succ _
  | _ :: r, i + 1 => Nat.succ_le_succ (len_erase r i)
theorem foldl_rep (its : List Value) : ∀ (k : Nat) (acc : List Value),
    List.foldl (fun x1 x2 => x1 ++ x2) acc.toArray (List.replicate k its.toArray) = (acc ++ (List.replicate k its).flatten).toArray
  | 0, acc => by simp
  | k + 1, acc => by
    have e : acc.toArray ++ its.toArray = (acc ++ its).toArray := by simp
    have e2 : (acc ++ its) ++ (List.replicate k its).flatten = acc ++ (List.replicate (k + 1) its).flatten := by
      rw [List.replicate_succ, List.flatten_cons, List.append_assoc]
    rw [← e2, ← foldl_rep its k (acc ++ its), ← e, List.replicate_succ, List.foldl_cons]

section
variable {X : Cx} {pins : List (Addr × Obj)} {σ : St} {H : Hp} {s : Shared} {l b : Addr} {xs ys zs : List V}

/-! ### the two steps: a tracked list is rewritten, a new list is laid -/
theorem Inv.lset {its its' : List Value} {n : Nat} {f : Array Value → Array Value} {t' : Nat} (I : Inv X pins σ H s) (hH : H l = some (.lst xs))
    (e : s.heap.get? l = some { cls := .type "list", data := .seq its.toArray n }) (hf : f its.toArray = its'.toArray) (hv : Vals ys its') (hz : ys.length ≤ sizeLine) :
    Inv X pins σ (upd H l (.lst ys)) { s with heap := s.heap.update l (Obj.mapSeq f), toks := t' } := by
  have q := PySem.IsL.update e f
  rw [hf] at q
  refine I.write (x := l) (e := l) (by rw [hH]; exact trivial) (.inl rfl) (fun b' u hb hu => (Heap.get?_update_other s.heap (Obj.mapSeq f) (Ne.symm hb)).trans hu) ⟨_, q⟩ ?_
  exact ⟨hz, its', _, hv, q⟩
theorem Inv.lnew {its : List Value} {t' : Nat} (I : Inv X pins σ H s) (hv : Vals ys its) (hz : ys.length ≤ sizeLine) :
    Inv X pins σ (upd H s.heap.objs.size (.lst ys)) { s with heap := s.heap.push { cls := .type "list", data := .seq its.toArray }, toks := t' } :=
  I.laid (fun _ _ q => Heap.get?_push_of_some _ q) (Nat.le_refl _) ⟨hz, its, 0, hv, Heap.get?_push_size _ rfl⟩
theorem Inv.fresh (I : Inv X pins σ H s) : H s.heap.objs.size = none := I.hok.fresh (Nat.le_refl _)
theorem Inv.lstM (I : Inv X pins σ H s) (hH : H l = some (.lst xs)) : xs.length ≤ sizeLine ∧ ∃ (its : List Value) (n : Nat), Vals xs its ∧ xs.length = its.length ∧ s.heap.get? l = some { cls := .type "list", data := .seq its.toArray n } := by
  obtain ⟨z, its, n, r, e⟩ := I.hok l _ hH
  exact ⟨z, its, n, r, r.length, e⟩

theorem notLongL {n : Nat} (h : n ≤ sizeLine) : Builtin.List.listTooLong n = false := by
  unfold Builtin.List.listTooLong
  exact decide_eq_false (by omega)
end

section
variable {X : Cx}

/-! ### methods -/
def rAppend : V → List V → Hp → VK → Prop := fun x vs H Q => ∃ l xs y, x = .ref l ∧ vs = [y] ∧ H l = some (.lst xs) ∧ xs.length < sizeLine ∧ Q .non (upd H l (.lst (xs ++ [y])))
theorem mt_append : MtM X "list.append" rAppend := by
  intro pins s σ H x vs v us Q I rx rv h
  obtain ⟨l, xs, y, rfl, rfl, hH, hz, q⟩ := h
  cases rx
  obtain ⟨u, rfl, ru⟩ := rv.one
  obtain ⟨z, its, n, r, hl, e⟩ := I.lstM hH
  refine call_meets F.slot_list_append ⟨_, e, rfl⟩ F.entry_list_append (F.args_list_append_2 _ _) (PySem.list_append l its.toArray n u (by rw [List.size_toArray]; omega)) ⟨e, ?_⟩
  refine ⟨.non, _, I.lset (its' := its ++ [u]) hH e (by simp) (r.append (.cons ru .nil)) ?_, rfl, q⟩
  rw [List.length_append, List.length_singleton]
  omega

def rExtend : V → List V → Hp → VK → Prop := fun x vs H Q => ∃ l b xs zs, x = .ref l ∧ vs = [.ref b] ∧ H l = some (.lst xs) ∧ H b = some (.lst zs) ∧ xs.length + zs.length ≤ sizeLine ∧ Q .non (upd H l (.lst (xs ++ zs)))
theorem mt_extend : MtM X "list.extend" rExtend := by
  intro pins s σ H x vs v us Q I rx rv h
  obtain ⟨l, b, xs, zs, rfl, rfl, hH, hB, hz, q⟩ := h
  cases rx
  obtain ⟨u, rfl, ru⟩ := rv.one
  cases ru
  obtain ⟨z, its, n, r, hl, e⟩ := I.lstM hH
  obtain ⟨z2, its2, n2, r2, hl2, e2⟩ := I.lstM hB
  have hsz : its.toArray.size + its2.toArray.size ≤ sizeLine := by rw [List.size_toArray, List.size_toArray]; omega
  have hlong : ¬ (!its.toArray.isEmpty && Builtin.List.listTooLong (its.toArray.size + its2.toArray.size)) = true := by
    rw [notLongL hsz, Bool.and_false]
    exact Bool.false_ne_true
  refine call_meets F.slot_list_extend ⟨_, e, rfl⟩ F.entry_list_extend (F.args_list_extend_2 _ _)
    (AutoSeq1.list_extend_list_list_0 l its.toArray n b its2.toArray n2 hlong (by rw [List.size_toArray]; omega) (by omega)) ⟨e, e2, ?_⟩
  refine ⟨.non, _, I.lset (its' := its ++ its2) hH e (by simp) (r.append r2) ?_, rfl, q⟩
  rw [List.length_append]
  omega

def rPop : V → List V → Hp → VK → Prop := fun x vs H Q => ∃ l xs y, x = .ref l ∧ vs = [] ∧ H l = some (.lst xs) ∧ xs[xs.length - 1]? = some y ∧ Q y (upd H l (.lst xs.dropLast))
theorem mt_pop : MtM X "list.pop" rPop := by
  intro pins s σ H x vs v us Q I rx rv h
  obtain ⟨l, xs, y, rfl, rfl, hH, hy, q⟩ := h
  cases rx
  have hus := rv.zero
  subst hus
  obtain ⟨z, its, n, r, hl, e⟩ := I.lstM hH
  obtain ⟨u, hu, ru⟩ := r.get hy
  have hy' : its.toArray[its.toArray.size - 1]? = some u := by
    show its.toArray[its.length - 1]? = some u
    rw [← Array.getElem?_toList, ← hl]
    exact hu
  refine call_meets F.slot_list_pop ⟨_, e, rfl⟩ F.entry_list_pop (F.args_list_pop_1 _) (MeetsSeq.list_pop_last l its.toArray n u hy' (by rw [List.size_toArray]; omega)) ⟨e, ?_⟩
  refine ⟨y, _, I.lset (its' := its.dropLast) hH e ?_ r.dropLast ?_, ru, q⟩
  · show its.toArray.eraseIdxIfInBounds (its.toArray.size - 1) = its.dropLast.toArray
    rw [List.size_toArray, List.eraseIdxIfInBounds_toArray, erase_last]
  · rw [List.length_dropLast]
    omega

def rPopAt : V → List V → Hp → VK → Prop := fun x vs H Q => ∃ l xs i k y, x = .ref l ∧ vs = [.int i] ∧ H l = some (.lst xs) ∧ -(2 ^ 63) ≤ i ∧ i < 2 ^ 63 ∧ seqIndex? i xs.length = some k ∧ xs[k]? = some y ∧ Q y (upd H l (.lst (xs.eraseIdx k)))
theorem mt_popAt : MtM X "list.pop" rPopAt := by
  intro pins s σ H x vs v us Q I rx rv h
  obtain ⟨l, xs, i, k, y, rfl, rfl, hH, h1, h2, hk, hy, q⟩ := h
  cases rx
  obtain ⟨u, rfl, ru⟩ := rv.one
  obtain ⟨t, rfl⟩ := ru
  obtain ⟨z, its, n, r, hl, e⟩ := I.lstM hH
  obtain ⟨w, hw, rw'⟩ := r.get hy
  refine call_meets F.slot_list_pop ⟨_, e, rfl⟩ F.entry_list_pop (F.args_list_pop_2 _ _)
    (MeetsSeq.list_pop_at l its.toArray n i t k w (fitsIndex_both h1 h2) (by rw [List.size_toArray, ← hl]; exact hk) (by rw [← Array.getElem?_toList]; exact hw) (by rw [List.size_toArray]; omega)) ⟨e, ?_⟩
  refine ⟨y, _, I.lset (its' := its.eraseIdx k) hH e ?_ (r.eraseIdx k) ?_, rw', q⟩
  · show its.toArray.eraseIdxIfInBounds k = (its.eraseIdx k).toArray
    rw [List.eraseIdxIfInBounds_toArray]
  · have := len_erase xs k
    omega

def rReverse : V → List V → Hp → VK → Prop := fun x vs H Q => ∃ l xs, x = .ref l ∧ vs = [] ∧ H l = some (.lst xs) ∧ Q .non (upd H l (.lst xs.reverse))
theorem mt_reverse : MtM X "list.reverse" rReverse := by
  intro pins s σ H x vs v us Q I rx rv h
  obtain ⟨l, xs, rfl, rfl, hH, q⟩ := h
  cases rx
  have hus := rv.zero
  subst hus
  obtain ⟨z, its, n, r, hl, e⟩ := I.lstM hH
  refine call_meets F.slot_list_reverse ⟨_, e, rfl⟩ F.entry_list_reverse (F.args_list_reverse_1 _) (AutoSeq1.list_reverse_list_0 l its.toArray n (by rw [List.size_toArray]; omega)) ⟨e, ?_⟩
  refine ⟨.non, _, I.lset (its' := its.reverse) hH e (by simp) r.reverse ?_, rfl, q⟩
  rw [List.length_reverse]
  omega

def rClear : V → List V → Hp → VK → Prop := fun x vs H Q => ∃ l xs, x = .ref l ∧ vs = [] ∧ H l = some (.lst xs) ∧ Q .non (upd H l (.lst []))
theorem mt_clear : MtM X "list.clear" rClear := by
  intro pins s σ H x vs v us Q I rx rv h
  obtain ⟨l, xs, rfl, rfl, hH, q⟩ := h
  cases rx
  have hus := rv.zero
  subst hus
  obtain ⟨z, its, n, r, hl, e⟩ := I.lstM hH
  refine call_meets F.slot_list_clear ⟨_, e, rfl⟩ F.entry_list_clear (F.args_list_clear_1 _) (AutoSeq1.list_clear_list_0 l its.toArray n (by rw [List.size_toArray]; omega)) ⟨e, ?_⟩
  exact ⟨.non, _, I.lset (its' := []) (ys := []) hH e rfl .nil (Nat.zero_le _), rfl, q⟩

/-! ### list + list, list += list, list * int -/
def rCat : R2 := fun x y H Q => ∃ l b xs zs, x = .ref l ∧ y = .ref b ∧ H l = some (.lst xs) ∧ H b = some (.lst zs) ∧ xs.length + zs.length ≤ sizeLine ∧ ∀ p, H p = none → Q (.ref p) (upd H p (.lst (xs ++ zs)))
theorem op_cat : OpR X (binaryOp .Add) rCat := by
  intro pins s σ H x y v u Q I rx ry h
  obtain ⟨l, b, xs, zs, rfl, rfl, hH, hB, hz, q⟩ := h
  cases rx
  cases ry
  obtain ⟨z, its, n, r, hl, e⟩ := I.lstM hH
  obtain ⟨z2, its2, n2, r2, hl2, e2⟩ := I.lstM hB
  refine PySem.P.add_list e e2 ?_ (by rw [List.size_toArray, List.size_toArray]; omega)
  have ea : its.toArray ++ its2.toArray = (its ++ its2).toArray := by simp
  rw [ea]
  exact ⟨.ref _, _, I.lnew (t' := s.toks) (r.append r2) (by rw [List.length_append]; omega), rfl, q _ I.fresh⟩
/-- a list times an int (a negative one is nothing) -/
def rRep : R2 := fun x y H Q => ∃ l k xs, x = .ref l ∧ y = .int k ∧ H l = some (.lst xs) ∧ -(2 ^ 63) ≤ k ∧ k < 2 ^ 63 ∧ xs.length * k.toNat ≤ sizeLine ∧
  ∀ p, H p = none → Q (.ref p) (upd H p (.lst (List.replicate k.toNat xs).flatten))
theorem len_rep {α : Type} (xs : List α) (k : Nat) : (List.replicate k xs).flatten.length = k * xs.length := by
  induction k with
  | zero => simp
  | succ k ih => rw [List.replicate_succ, List.flatten_cons, List.length_append, ih, Nat.succ_mul, Nat.add_comm]
theorem op_rep : OpR X (binaryOp .Mult) rRep := by
  intro pins s σ H x y v u Q I rx ry h
  obtain ⟨l, k, xs, rfl, rfl, hH, h1, h2, hz, q⟩ := h
  cases rx
  obtain ⟨t, rfl⟩ := ry
  obtain ⟨z, its, n, r, hl, e⟩ := I.lstM hH
  have hlen : its.toArray.size * k.toNat ≤ sizeLine := by rw [List.size_toArray, ← hl]; exact hz
  have hcap : ¬ its.toArray.size * k.toNat > (2 ^ 63 - 1) / 8 := by
    have : (sizeLine : Nat) ≤ (2 ^ 63 - 1) / 8 := by decide
    omega
  have hfit : ¬ (!Builtin.List.listFitsIndex k) = true := by
    rw [fitsIndex_both h1 h2]
    exact Bool.false_ne_true
  have hlong : ¬ Builtin.List.listTooLong (its.toArray.size * k.toNat) = true := by
    rw [notLongL hlen]
    exact Bool.false_ne_true
  have hnew : List.foldl (fun x1 x2 => x1 ++ x2) #[] (List.replicate (if its.toArray.isEmpty = true then 0 else k.toNat) its.toArray) = (List.replicate k.toNat its).flatten.toArray := by
    have f0 : ∀ m : Nat, List.foldl (fun x1 x2 => x1 ++ x2) #[] (List.replicate m its.toArray) = (List.replicate m its).flatten.toArray := fun m => by
      have := foldl_rep its m []
      rw [List.nil_append] at this
      exact this
    rw [f0]
    cases its with
    | nil => simp
    | cons a r' => rw [if_neg (by simp)]
  refine wpAny_binaryOp_repeat_ref (T := "list") (U := "int") (by decide) ⟨_, e, rfl⟩ (fun s' => typeIs_int s' k t) noFill_list_mul F.fills_int_mul F.slot_int_rmul repeat_list F.slot_int_index.lookup
    (call_meets F.slot_int_rmul (typeIs_int s k t) F.entry_int_rmul (F.args_int_rmul_2 _ _) (int___rmul___int_list k t l its.toArray n)
      ⟨e, rfl, ⟨_, e, rfl⟩, call_meets F.slot_list_mul ⟨_, e, rfl⟩ F.entry_list_mul (F.args_list_mul_2 _ _) (AutoListH.list___mul___list_int_3 l its.toArray n k t hfit hcap hlong) ⟨e, ?_⟩⟩)
  rw [hnew]
  exact ⟨.ref _, _, I.lnew (t' := s.toks) (r.rep k.toNat) (by rw [len_rep, Nat.mul_comm]; exact hz), rfl, q _ I.fresh⟩

/-! ### del xs[i] -/
theorem del_list {pins : List (Addr × Obj)} {s : Shared} {σ : St} {H : Hp} {l : Addr} {xs : List V} {i : Int} {t : Tok} {k : Nat} {Q : Unit → Shared → Prop} (I : Inv X pins σ H s) (hH : H l = some (.lst xs))
    (h1 : -(2 ^ 63) ≤ i) (h2 : i < 2 ^ 63) (hk : seqIndex? i xs.length = some k) (h : ∀ s', Inv X pins σ (upd H l (.lst (xs.eraseIdx k))) s' → Q () s') :
    wpAny (model X.prog X.w) X.A (delItem (.ref l) (.int i t)) Q X.xe s := by
  obtain ⟨z, its, n, r, hl, e⟩ := I.lstM hH
  refine PySem.P.delItem_list (k := k) e (fitsIndex_both h1 h2) (by rw [List.size_toArray, ← hl]; exact hk) (h _ ?_) (by rw [List.size_toArray]; omega)
  refine I.lset (its' := its.eraseIdx k) (t' := s.toks) hH e ?_ (r.eraseIdx k) ?_
  · show its.toArray.eraseIdxIfInBounds k = (its.eraseIdx k).toArray
    rw [List.eraseIdxIfInBounds_toArray]
  · have := len_erase xs k
    omega
end

/-! ### xs[a:b] = ys -/
section
variable {prog : Program} {w : World} {A : Around} {E : Value → Shared → Prop} {s : Shared}
theorem splice_eq (its its2 : List Value) (a c : Nat) : its.toArray.extract 0 a ++ its2.toArray ++ its.toArray.extract c its.toArray.size = (its.take a ++ its2 ++ its.drop c).toArray := by
  apply Array.toList_inj.mp
  first
    | (simp
       exact List.take_of_length_le (by simp))
    | simp [List.take_of_length_le]
    | simp
theorem bounds_run {a c n : Nat} (hac : a ≤ c) (hc : c ≤ n) : sliceBounds (some (a : Int)) (some (c : Int)) none n = ((a : Int), (c : Int), 1) := by
  simp only [sliceBounds, Option.getD_none]
  have h1 : ¬ ((a : Int) < 0) := by omega
  have h2 : ¬ ((c : Int) < 0) := by omega
  simp only [h1, h2, if_false, show (1 : Int) > 0 by decide, if_true]
  congr 1
  · omega
  · congr 1; omega
set_option maxRecDepth 100000 in
/-- list.__setitem__ with a slice of step one and another list -/
theorem setItem_slice {l b sl : Addr} {items new : Array Value} {n n2 : Nat} {vl vu : Value} {a c : Nat} {Q : Unit → Shared → Prop}
    (e : s.heap.get? l = some { cls := .type "list", data := .seq items n }) (e2 : s.heap.get? b = some { cls := .type "list", data := .seq new n2 }) (hne : l ≠ b)
    (hs : s.heap.IsSliceOf sl vl vu .none) (pl : IsPart vl (some (a : Int))) (pu : IsPart vu (some (c : Int))) (hac : a ≤ c) (hc : c ≤ items.size)
    (hsz : items.size + new.size ≤ sizeLine) (h : Q () { s with heap := s.heap.update l (Obj.mapSeq fun xs => xs.extract 0 a ++ new ++ xs.extract c xs.size) }) :
    wpAny (model prog w) A (setItem (.ref l) (.ref sl) (.ref b)) Q E s := by
  have hl : s.heap.IsList l items := PySem.IsL.isList e
  have hb : s.heap.IsList b new := PySem.IsL.isList e2
  obtain ⟨os, hos, hcs, hds⟩ := id hs
  have hTs : s.TypeIs (.ref sl) "slice" := ⟨os, hos, hcs⟩
  have hstep : ¬ ((rawPart none == rawInt 0) = true) := Bool.false_ne_true
  have hsame : Builtin.List.listSameRef (.ref l) (.ref b) = false := by
    unfold Builtin.List.listSameRef
    exact beq_eq_false_iff_ne.mpr hne
  have hmax : (max (a : Int) (c : Int)).toNat = c := by omega
  have hz' : ((fun xs : Array Value => xs.extract 0 a ++ new ++ xs.extract c xs.size) items).size ≤ sizeLine + 1 := by
    simp only [Array.size_append, Array.size_extract]
    omega
  unfold setItem
  try with_reducible refine wpAny_holding ?_
  first | refine wpAny_bind (wpAny_pure ?_) | skip
  refine wpAny_bind (wpAny_sequenceKey hl.typeIs (by decide) ?_)
  refine wpAny_bind (wpAny_callSpecial?_slot (name := Str.ofString "__setitem__") hl.typeIs slot_list_setitem
    (wpAny_call_entry slot_list_setitem hl.typeIs entry_list_setitem ?_ (args_list_setitem _ _ _)))
  show wpAny _ _ (Builtin.List.listSubscript? (.ref sl) >>= _) _ _ s
  refine wpAny_bind ?_
  unfold Builtin.List.listSubscript?
  refine wpAny_bind (wpAny_specialOf hTs slice_no_index ?_)
  simp only [Option.isNone_none, if_true]
  refine wpAny_pure ?_
  show wpAny _ _ (typeOf (.ref sl) >>= _) _ _ s
  refine wpAny_bind (wpAny_typeOf hTs ?_)
  first
    | rw [if_neg (by decide)]
    | refine PySem.W.KFB.if_not (by decide) ?_
  rw [listSliceParts_eq]
  refine wpAny_bind (wpAny_bind (wpAny_field hos hds (x := .none) rfl (wpAny_bind (wpAny_listPart .none ?_))))
  rw [if_neg hstep]
  refine wpAny_bind (wpAny_field hos hds (x := vl) rfl (wpAny_bind (wpAny_listPart pl ?_)))
  refine wpAny_bind (wpAny_field hos hds (x := vu) rfl (wpAny_bind (wpAny_listPart pu (wpAny_pure ?_))))
  first
    | simp only [hsame, Bool.false_eq_true, if_false]
    | refine PySem.W.KFB.if_not hsame ?_
    | (dsimp only
       rw [if_neg (by rw [hsame]; exact Bool.false_ne_true)])
  refine wpAny_bind (m := Builtin.List.listAllItems (.ref b) "must assign iterable to extended slice") ?_
  unfold Builtin.List.listAllItems
  refine wpAny_bind (wpAny_typeOf hb.typeIs ?_)
  first
    | refine PySem.W.KFB.if_so (by decide) ?_
    | rw [if_pos (by decide)]
    | simp only [beq_self_eq_true, Bool.true_or, if_true]
  unfold Builtin.List.listItems
  refine wpAny_bind (wpAny_seqItems e2 rfl (wpAny_pure ?_))
  refine wpAny_bind (wpAny_bind (wpAny_seqItems e rfl (wpAny_pure ?_)))
  refine wpAny_bind (wpAny_of_eq ((sliceIndices_raw (some (a : Int)) (some (c : Int)) none items.size (by simp)).trans (congrArg (pure : Int × Int × Int → Sem (Int × Int × Int)) (bounds_run hac hc))) ?_)
  show wpAny _ _ (if ((1 : Int) == 1) = true then _ else _) _ _ s
  rw [if_pos (by decide)]
  refine wpAny_bind (wpAny_rule ?_)
  first
    | simp only [notLongL hsz, Bool.false_eq_true, if_false]
    | refine PySem.W.KFB.if_not (notLongL hsz) ?_
  first | refine wpAny_bind (wpAny_pure ?_) | skip
  show wpAny _ _ (updateSeq l (fun xs => xs.extract 0 ((a : Int)).toNat ++ new ++ xs.extract (max (a : Int) (c : Int)).toNat xs.size) >>= _) _ _ s
  rw [hmax, Int.toNat_natCast]
  refine wpAny_bind (wpAny_updateSeq (hz := Nat.le_trans (Nat.le_add_right _ _) hsz) (_hz' := hz') e rfl ?_)
  refine wpAny_bind (wpAny_letGo ?_)
  first
    | exact wpAny_bind (wpAny_pure (wpAny_pure ⟨.none, rfl, wpAny_pure h⟩))
    | exact wpAny_pure ⟨.none, rfl, wpAny_pure h⟩
end

section
variable {X : Cx}
/-- xs[a:c] = ys of another list, at the value level: sl is the slice object that was just made -/
theorem set_slice {pins : List (Addr × Obj)} {s : Shared} {σ : St} {H : Hp} {l b sl : Addr} {xs ys : List V} {a c : Int} {vl vu : Value} {Q : Unit → Shared → Prop} (I : Inv X pins σ H s)
    (hH : H l = some (.lst xs)) (hB : H b = some (.lst ys)) (hne : l ≠ b) (hs : s.heap.IsSliceOf sl vl vu .none) (ra : RelV (.int a) vl) (rc : RelV (.int c) vu) (h0 : 0 ≤ a) (hac : a ≤ c) (hc : c ≤ xs.length)
    (hz : xs.length + ys.length ≤ sizeLine) (h : ∀ s', Inv X pins σ (upd H l (.lst (xs.take a.toNat ++ ys ++ xs.drop c.toNat))) s' → Q () s') :
    wpAny (model X.prog X.w) X.A (setItem (.ref l) (.ref sl) (.ref b)) Q X.xe s := by
  obtain ⟨ta, rfl⟩ := ra
  obtain ⟨tc, rfl⟩ := rc
  obtain ⟨z, its, n, r, hl, e⟩ := I.lstM hH
  obtain ⟨z2, its2, n2, r2, hl2, e2⟩ := I.lstM hB
  obtain ⟨a', rfl⟩ := Int.eq_ofNat_of_zero_le h0
  obtain ⟨c', rfl⟩ := Int.eq_ofNat_of_zero_le (Int.le_trans h0 hac)
  simp only [Int.toNat_natCast] at h
  refine setItem_slice (a := a') (c := c') e e2 hne hs (.int _ _) (.int _ _) (by omega) (by rw [List.size_toArray]; omega) (by rw [List.size_toArray, List.size_toArray]; omega) (h _ ?_)
  refine I.lset (its' := its.take a' ++ its2 ++ its.drop c') (t' := s.toks) hH e ?_ (Vals.append (Vals.append (r.take _) r2) (r.drop _)) ?_
  · exact splice_eq its its2 a' c'
  · rw [List.length_append, List.length_append, List.length_take, List.length_drop]
    omega
end
end L2

namespace Att
open PySem PySem.W PySem.Calls PyProof.Rows

/-! ### the script -/
theorem ints_of_wellAll {P : Params} {h : Heap} : ∀ (ns : List Int) (vs : List Value), WellAll P h vs (ns.map WData.int) → IntsAre vs ns := by
  intro ns
  induction ns with
  | nil =>
    intro vs w
    rw [List.map_nil] at w
    cases w
    exact .nil
  | cons n ns ih =>
    intro vs w
    rw [List.map_cons] at w
    cases w with
    | cons a b =>
      cases a
      exact .cons _ _ (ih _ b)

theorem script_of {l : OpenLaw} {n : Nat} (hn : l.most = some n) {P : Params} {h : Heap} {args : List WData} {vals : List Value}
    (hpre : l.row.toRowW.claim.pre args = true) (hwl : WellAll P h vals args) :
    ∃ a vs ns, vals = [Value.ref a] ∧ args = [WData.list (ns.map WData.int)] ∧ h.get? a = some { cls := .type "list", data := .seq vs.toArray } ∧ IntsAre vs ns ∧ ns.length ≤ n := by
  have hsh : WShape.hasAll [] args [.list .int] = true := (pre_splitW hpre).1
  have hc : l.pre.holds [] { args := args } = true := (pre_splitW hpre).2
  obtain ⟨d, r, rfl, h1, h2⟩ := hasAllW_cons hsh
  obtain rfl := hasAllW_nil h2
  obtain ⟨xs, rfl, h3⟩ := hasW_list h1
  obtain ⟨ns, rfl⟩ := items_int h3
  have hlen : ns.length ≤ n := by
    unfold OpenLaw.pre at hc
    have h4 : (WTm.not (.lt (.lit (.int (n : Int))) (.len (.arg 0)))).holds [] { args := [.list (ns.map .int)] } = true := by
      have h4 := (holds_andW hc).1
      rw [hn] at h4
      exact h4
    have h5 := condW_of h4 (w_not (w_lt w_lit (w_len_list (w_arg rfl))))
    rw [List.length_map] at h5
    refine Nat.le_of_not_lt fun q => ?_
    have q' : (n : Int) < ((ns.length : Nat) : Int) := by omega
    first
      | (rw [decide_eq_true q'] at h5; exact absurd h5 (by decide))
      | (simp at h5; omega)
  cases hwl with
  | cons w1 w2 =>
    cases w2
    cases w1 with
    | list ho hall => exact ⟨_, _, ns, rfl, rfl, ho, ints_of_wellAll ns _ hall, hlen⟩

theorem post_true (l : OpenLaw) (args : List WData) : l.row.toRowW.claim.post args (.bool true) args = true :=
  postW_of (r := l.row.toRowW) (X := (true == true))
    (show WShape.has [] (.bool true) .bool = true by first | rfl | decide | simp [WShape.has, WShape.arms, WShape.armsAll])
    (show (WTm.eq .res (.lit (.bool true))).value [] { args := args, res := some (.bool true), after := args } = some (.bool (true == true)) from w_eq_bool (w_res rfl) w_lit) rfl

/-! ### the attachment: holds_open's last premise (the goal 'hc' behind k_head) from a wpAny of the law's body -/
theorem attach {l : OpenLaw} {n : Nat} {q : Program} {loose : List Str} {XP : (Str → Option Value) → Heap → Prop} {YP : World → Heap → Prop} {d : DefRec} {x : Str}
    (hn : l.most = some n) (hdf : d.params.defaults = [])
    (hbind : ∀ pm cd doc v : Value, bindArgs (docDef d.name d.params d.body d.scope pm cd doc) ⟨[v], []⟩ = pure [(x, v)])
    (hx : d.scope.names.lookup x = some .local ∨ d.scope.names.lookup x = some .cell)
    (hk : d.scope.kind = .function) (hco : d.scope.isCoroutine = false) (hgen : d.scope.isGenerator = false)
    (body : ∀ (w : World) (s₀ s₁ s : Shared) (mg mb : Str → Option Value) (fa : Addr) (o : Obj) (pm cd doc : Value) (a : Addr) (vs : List Value) (ns : List Int),
      Ground q loose [] XP w s₀ mg mb s₁.heap → YP w s₁.heap →
      s₁.heap.get? fa = some o → o.data = .func (docDef d.name d.params d.body d.scope pm cd doc) → s₁.heap.CodeRec cd d.name → mg d.name = some (.ref fa) →
      s₁.heap.get? a = some { cls := .type "list", data := .seq vs.toArray } → IntsAre vs ns → ns.length ≤ n →
      s.gens = #[] → s.os = s₁.os →
      Fr s₁.heap s₁.heap.objs.size s.heap (bindL (envOfC d.name d.scope s₁.heap.objs.size fa cd).kindOf [(x, .ref a)] fun _ => none) →
      Cl s₁.heap.objs.size (cellsFrom (s₁.heap.objs.size + 1) d.scope.names []) s.heap (bindC (envOfC d.name d.scope s₁.heap.objs.size fa cd).kindOf [(x, .ref a)] fun _ => none) →
      wpAny (model l.prog w) (callerA.deeper (envOfC d.name d.scope s₁.heap.objs.size fa cd)) (execs d.body (envOfC d.name d.scope s₁.heap.objs.size fa cd))
        (fun f s' => f = .ret (.bool true) ∧ OldK s₁.heap s'.heap ∧ s'.os = s₁.os ∧ AllBare s'.gens) (fun _ _ => False) s) :
    WalkO q loose XP YP l.row.toRowW d [] (fun f vs => PySem.call f vs) := by
  intro w s₀ s₁ mg mb G Y fa o pm cd doc dV kV ho hd hcd hD hmg hg args vals as hpre hlay hrd hwl hlo
  obtain rfl : dV = .none := Dflts.none hD hdf
  obtain rfl : kV = .none := Dflts.noKw hD
  obtain ⟨a, vs, ns, rfl, rfl, hobj, hints, hlen⟩ := script_of hn hpre hwl
  refine enter_call ?_
  refine call_cells_ret (o := o) (by rw [depth_caller]; decide) ho (fd_plain hd) G.T.nolimit hcd (hbind pm cd doc (.ref a)) (fun y hy => ?_) (fun h₁ tk F X => ?_) hco hgen hk
  · obtain rfl : y = (x, Value.ref a) := List.mem_singleton.mp hy
    rcases hx with e | e
    · exact .inl e
    · exact .inr ⟨e, cellsFrom_some _ _ _ (.inl e)⟩
  · refine wpAny_mono (body w s₀ s₁ { s₁ with heap := h₁, toks := tk } mg mb fa o pm cd doc a vs ns G Y ho (fd_plain hd) hcd hmg hobj hints hlen hg rfl F X) (fun f s' hq => ?_) (fun _ _ hq => hq)
    obtain ⟨rfl, h2, h3, h4⟩ := hq
    exact ⟨.inl ⟨.bool true, .bool true, [], rfl, fun _ => rfl, .bool true, post_true l _, fun _ => ⟨List.Pairwise.nil, fun _ hm => (nomatch hm)⟩⟩, h2, h3, h4⟩

/-- the same from a codeAny of the CALL (for a layer whose function contracts speak of calls) -/
theorem attach_call {l : OpenLaw} {n : Nat} {q : Program} {loose : List Str} {XP : (Str → Option Value) → Heap → Prop} {YP : World → Heap → Prop} {d : DefRec}
    (hn : l.most = some n) (hdf : d.params.defaults = [])
    (call : ∀ (w : World) (s₀ s₁ : Shared) (mg mb : Str → Option Value) (fa : Addr) (o : Obj) (pm cd doc : Value) (a : Addr) (vs : List Value) (ns : List Int),
      Ground q loose [] XP w s₀ mg mb s₁.heap → YP w s₁.heap →
      s₁.heap.get? fa = some o → o.data = .func (docDef d.name d.params d.body d.scope pm cd doc) → s₁.heap.CodeRec cd d.name → mg d.name = some (.ref fa) →
      s₁.heap.get? a = some { cls := .type "list", data := .seq vs.toArray } → IntsAre vs ns → ns.length ≤ n → s₁.gens = #[] →
      codeAny (model l.prog w) callerA (.call (.ref fa) ⟨[.ref a], []⟩) (fun r s' => r = .ok (.ret (.bool true)) ∧ OldK s₁.heap s'.heap ∧ s'.os = s₁.os ∧ AllBare s'.gens) s₁) :
    WalkO q loose XP YP l.row.toRowW d [] (fun f vs => PySem.call f vs) := by
  intro w s₀ s₁ mg mb G Y fa o pm cd doc dV kV ho hd hcd hD hmg hg args vals as hpre hlay hrd hwl hlo
  obtain rfl : dV = .none := Dflts.none hD hdf
  obtain rfl : kV = .none := Dflts.noKw hD
  obtain ⟨a, vs, ns, rfl, rfl, hobj, hints, hlen⟩ := script_of hn hpre hwl
  refine enter_call (codeAny_mono (call w s₀ s₁ mg mb fa o pm cd doc a vs ns G Y ho (fd_plain hd) hcd hmg hobj hints hlen hg) fun r s' hq => ?_)
  obtain ⟨rfl, h2, h3, h4⟩ := hq
  exact ⟨.inl ⟨.bool true, .bool true, [], rfl, fun _ => rfl, .bool true, post_true l _, fun _ => ⟨List.Pairwise.nil, fun _ hm => (nomatch hm)⟩⟩, h2, h3, h4⟩

/-- the same where the top left finished generators (o_head chose holds_openN): nothing may have changed at all and no generator may be left -/
theorem attachN {l : OpenLaw} {n : Nat} {q : Program} {loose : List Str} {XP : (Str → Option Value) → Heap → Prop} {YP : World → Heap → Prop} {d : DefRec} {x : Str}
    (hn : l.most = some n) (hdf : d.params.defaults = [])
    (hbind : ∀ pm cd doc v : Value, bindArgs (docDef d.name d.params d.body d.scope pm cd doc) ⟨[v], []⟩ = pure [(x, v)])
    (hx : d.scope.names.lookup x = some .local ∨ d.scope.names.lookup x = some .cell)
    (hk : d.scope.kind = .function) (hco : d.scope.isCoroutine = false) (hgen : d.scope.isGenerator = false)
    (body : ∀ (w : World) (s₀ s₁ s : Shared) (mg mb : Str → Option Value) (fa : Addr) (o : Obj) (pm cd doc : Value) (a : Addr) (vs : List Value) (ns : List Int),
      Ground q loose [] XP w s₀ mg mb s₁.heap → YP w s₁.heap →
      s₁.heap.get? fa = some o → o.data = .func (docDef d.name d.params d.body d.scope pm cd doc) → s₁.heap.CodeRec cd d.name → mg d.name = some (.ref fa) →
      s₁.heap.get? a = some { cls := .type "list", data := .seq vs.toArray } → IntsAre vs ns → ns.length ≤ n →
      s.gens = #[] → s.os = s₁.os →
      Fr s₁.heap s₁.heap.objs.size s.heap (bindL (envOfC d.name d.scope s₁.heap.objs.size fa cd).kindOf [(x, .ref a)] fun _ => none) →
      Cl s₁.heap.objs.size (cellsFrom (s₁.heap.objs.size + 1) d.scope.names []) s.heap (bindC (envOfC d.name d.scope s₁.heap.objs.size fa cd).kindOf [(x, .ref a)] fun _ => none) →
      wpAny (model l.prog w) (callerA.deeper (envOfC d.name d.scope s₁.heap.objs.size fa cd)) (execs d.body (envOfC d.name d.scope s₁.heap.objs.size fa cd))
        (fun f s' => f = .ret (.bool true) ∧ (∀ b o, s₁.heap.get? b = some o → s'.heap.get? b = some o) ∧ s'.os = s₁.os ∧ s'.gens = #[]) (fun _ _ => False) s) :
    WalkN q loose XP YP l.row.toRowW d [] (fun f vs => PySem.call f vs) := by
  intro w s₀ s₁ mg mb G Y fa o pm cd doc dV kV ho hd hcd hD hmg hg args vals as hpre hlay hrd hwl hlo
  obtain rfl : dV = .none := Dflts.none hD hdf
  obtain rfl : kV = .none := Dflts.noKw hD
  obtain ⟨a, vs, ns, rfl, rfl, hobj, hints, hlen⟩ := script_of hn hpre hwl
  refine enter_callW ?_
  refine call_cells_ret (o := o) (by rw [depth_caller]; decide) ho (fd_plain hd) G.T.nolimit hcd (hbind pm cd doc (.ref a)) (fun y hy => ?_) (fun h₁ tk F X => ?_) hco hgen hk
  · obtain rfl : y = (x, Value.ref a) := List.mem_singleton.mp hy
    rcases hx with e | e
    · exact .inl e
    · exact .inr ⟨e, cellsFrom_some _ _ _ (.inl e)⟩
  · refine wpAny_mono (body w s₀ s₁ { s₁ with heap := h₁, toks := tk } mg mb fa o pm cd doc a vs ns G Y ho (fd_plain hd) hcd hmg hobj hints hlen hg rfl F X) (fun f s' hq => ?_) (fun _ _ hq => hq)
    obtain ⟨rfl, h2, h3, h4⟩ := hq
    exact ⟨.inl ⟨.bool true, .bool true, [], rfl, fun _ => rfl, .bool true, post_true l _, fun _ => ⟨List.Pairwise.nil, fun _ hm => (nomatch hm)⟩⟩, h2, h3, h4⟩

/-! ### rules over ANY heap (no ledger) from facts about the written part K: the library's own take a ledger (News) for what they write -/
section
variable {prog : Program} {w : World} {A : Around} {E : Value → Shared → Prop} {s : Shared} {K : Frag}

/-- a def of the module, or a method (qual 'C.m'), entered: the frame is the next address; cells behind it -/
theorem call_fn {R : Result → Shared → Prop} {name qual : Str} {params : Arguments} {body : List Stmt} {scope : Scope} {dV kV doc pm cdv ct oc : Value} {an od : Option Addr} {osl : Array (Option Value)} {f : Addr} {args : Args} {binds : List (Str × Value)}
    (X : K.In s.heap) (hlim : s.heap.NoLimit) (ho : K.lookup f = some ⟨oc, od, .func (fnOf name qual params body scope dV kV doc pm an cdv ct), osl⟩) (hcd : codeIn K cdv qual = true) (hroom : A.depth < recursionLimit)
    (hbind : BindsTo s (fnOf name qual params body scope dV kV doc pm an cdv ct) args binds)
    (hkind : (binds.all fun y => scope.names.lookup y.1 == some .local || scope.names.lookup y.1 == some .cell) = true)
    (h : ∀ s₁, InCallC s s.heap.objs.size (bindL (envOfC qual scope s.heap.objs.size f cdv).kindOf binds fun _ => none) (cellsFrom (s.heap.objs.size + 1) scope.names [])
        (bindC (envOfC qual scope s.heap.objs.size f cdv).kindOf binds fun _ => none) s₁ →
      wpAny (model prog w) (A.deeper (envOfC qual scope s.heap.objs.size f cdv)) (execs body (envOfC qual scope s.heap.objs.size f cdv))
        (fun fl s' => R (.ok (.ret (match fl with | .ret v => v | _ => .none))) s')
        (fun e s' => wpAny (model prog w) (A.deeper (envOfC qual scope s.heap.objs.size f cdv)) (leaving (envOfC qual scope s.heap.objs.size f cdv) e) (fun _ s'' => R (.error e) s'') (fun e' s'' => R (.error e') s'') s') s₁)
    (hco : scope.isCoroutine = false) (hgen : scope.isGenerator = false) (hk : scope.kind = .function) : codeAny (model prog w) A (.call (.ref f) args) R s := by
  refine codeAny_call_function hroom (X _ _ ho) rfl hco hgen rfl (codeRec_of X hcd) (hbind _ _ _ _ ?_)
  refine wpAny_newFunctionEnv_cells hk (kindsX hkind _) fun env he s₁ x => ?_
  subst he
  exact ⟨hlim.keeps x.toInCall.keep, codeAny_func (h s₁ x)⟩

/-- C(..): dict at size, instance at size + 1, then __init__ -/
theorem make_obj {R : Result → Shared → Prop} {C fI : Addr} {rest : List Value} {kw : List (Str × Value)}
    (X : K.In s.heap) (hm : makesIn K C = true) (hi : findIn K (.ref C) "__init__" = some (some (.ref fI))) (hf : isFn K (.ref fI) = true)
    (h : codeAny (model prog w) (A.under (.builtin "type.__call__" ⟨.ref C :: rest, kw⟩)) (.call (.ref fI) ⟨.ref (s.heap.objs.size + 1) :: rest, kw⟩) (InitBack (s.heap.objs.size + 1) R)
      { s with heap := (s.heap.push emptyDict).push (instObj C s.heap.objs.size) }) : codeAny (model prog w) A (.call (.ref C) ⟨rest, kw⟩) R s := by
  obtain ⟨hh, g, d, t, os⟩ := s
  exact make_core (makes_of X hm) (looks_findIn X hi) (fun self => bind_fn X self (beq_iff_eq.mp hf)) (.inl rfl) h

/-- x.name where the instance's dict holds the name and the class does not -/
theorem get_field {x C : Addr} {ox : Obj} {es : List DictEntry} {n : Nat} {name : Str} {expr : Bool} {v : Value} {Q : Value → Shared → Prop}
    (X : K.In s.heap) (I : PySem.W.InstAt s.heap x ox C (some (dictOf es n))) (hg : plainGet K C name = true) (hh : hasDictIn K C = true) (ha : findIn K (.ref C) name = some none)
    (hl : getL name es = some (some v)) (hv : handedIn v = true) (h : Q v { s with toks := s.toks + 1 }) : wpAny (model prog w) A (getAttr (.ref x) name expr) Q E s :=
  get_value X I (plainGet_of hg).1 (findObj_own hh ha rfl hl) hv h

/-- x.m(..): the method found in the class -/
theorem get_method {x C f : Addr} {ox : Obj} {es : List DictEntry} {n : Nat} {name : Str} {pl : Sem Bool} {Q : Value × List Value → Shared → Prop}
    (X : K.In s.heap) (I : PySem.W.InstAt s.heap x ox C (some (dictOf es n))) (hg : plainGet K C name = true) (hf : findIn K (.ref C) name = some (some (.ref f))) (ht : isFn K (.ref f) = true)
    (hl : getL name es = some none) (h : Q (.ref f, [.ref x]) s) : wpAny (model prog w) A (getMethod (.ref x) name pl) Q E s :=
  method_fn X I (plainGet_of hg).1 (plainGet_of hg).2 hf (beq_iff_eq.mp ht) (by show (lookIn name (dictOf es n)).map _ = _; rw [lookIn_dict, hl]; rfl) h

/-! the whole heap as the ledger: makes every rule that writes through a ledger a rule over any heap -/
def noObjs (h : Heap) : Heap := { h with objs := #[] }
theorem noObjs_get (h : Heap) (b : Addr) : (noObjs h).get? b = none := by
  cases e : (noObjs h).get? b with
  | none => rfl
  | some o => exact absurd (Heap.lt_size e) (Nat.not_lt_zero _)
def ledger (h : Heap) (L d : Addr) : List (Addr × Obj) := (List.range h.objs.size).filterMap fun a => if a = L ∨ a = d then none else (h.get? a).map fun o => (a, o)
theorem mem_ledger {h : Heap} {L d a : Addr} {o : Obj} : (a, o) ∈ ledger h L d ↔ a ≠ L ∧ a ≠ d ∧ h.get? a = some o := by
  unfold ledger
  rw [List.mem_filterMap]
  constructor
  · rintro ⟨b, _, e⟩
    split at e
    · cases e
    · rename_i hb
      obtain ⟨o', ho, e'⟩ := Option.map_eq_some_iff.mp e
      cases e'
      exact ⟨fun q => hb (.inl q), fun q => hb (.inr q), ho⟩
  · rintro ⟨n1, n2, ho⟩
    refine ⟨a, List.mem_range.mpr (Heap.lt_size ho), ?_⟩
    rw [if_neg (show ¬ (a = L ∨ a = d) from fun q => q.elim n1 n2), ho] <;> rfl
theorem news_ledger {h : Heap} {L d : Addr} {od : Obj} (hne : d ≠ L) (ho : h.get? d = some od) : News (noObjs h) L h ([] ++ (d, od) :: ledger h L d) := by
  rintro ⟨a, o⟩ hp
  rcases List.mem_cons.mp hp with e | hp
  · cases e
    exact ⟨ho, hne, noObjs_get _ _⟩
  · obtain ⟨n1, n2, e⟩ := mem_ledger.mp hp
    exact ⟨e, n1, noObjs_get _ _⟩
theorem fr_all {h : Heap} {L : Addr} {m : Str → Option Value} (n : h.Ns L m) : Fr (noObjs h) L h m :=
  ⟨n, fun b o e => (by rw [noObjs_get] at e; cases e), Nat.zero_le _⟩
/-- Upd of the head entry (for append_K, setItem_K ..) -/
theorem upd_ledger {h : Heap} {L d : Addr} {o o' : Obj} : Upd d o o' ((d, o) :: ledger h L d) ((d, o') :: ledger h L d) :=
  .head fun ⟨_, _⟩ hp => (mem_ledger.mp hp).2.1

/-- x.name = v over any heap: L is any namespace of the heap (the frame's, say): its map stays, its object is not told; all else but the dict stays -/
theorem set_field {x C dx L : Addr} {ox : Obj} {m : Str → Option Value} {es es' : List DictEntry} {n n' : Nat} {name : Str} {v : Value} {Q : Unit → Shared → Prop}
    (X : K.In s.heap) (I : PySem.W.InstAt s.heap x ox C (some (dictOf es n))) (hd : ox.dict = some dx) (hL : s.heap.Ns L m) (hne : dx ≠ L)
    (hs : findIn K (.ref C) "__setattr__" = some (some (.builtin "object.__setattr__"))) (hp : plainOver K C = true) (ht : takerIn K C name = some none) (hh : hasDictIn K C = true) (hl : (getL name es).isSome = true)
    (e : (putL name (PyData.keyHash w.params name) (.str name (s.toks + 1)) v es, putN name es n) = (es', n')) (hz : es'.length ≤ 1000)
    (h : ∀ h' : Heap, h'.Ns L m → h'.get? dx = some (dictOf es' n') → (∀ b o, b ≠ dx → b ≠ L → s.heap.get? b = some o → h'.get? b = some o) → Q () { s with heap := h', toks := s.toks + 2 }) :
    wpAny (model prog w) A (setAttr (.ref x) name v) Q E s := by
  obtain ⟨e1, e2⟩ := Prod.mk.inj e
  have hdx : s.heap.get? dx = some (dictOf es n) := by
    have := I.dict
    rw [hd] at this
    exact this
  refine set_plain X I hs (osa_dict (s := { s with toks := s.toks + 1 }) (h₀ := noObjs s.heap) (L := L) (m := m) (od := dictOf es n) (od' := dictOf es' n') (es := es') (n := n') (pre := []) (post := ledger s.heap L dx)
    (fr_all hL) (news_ledger hne hdx) X I hd hp ht hh hl (fun _ q => nomatch q) (fun ⟨_, _⟩ q => (mem_ledger.mp q).2.1) (by rw [putName_dict, e1, e2]) rfl hz fun h' F' N' => ?_)
  exact h h' F'.ns (N'.get (List.Mem.head _)) fun b o n1 n2 ho => N'.get (List.Mem.tail _ (mem_ledger.mpr ⟨n2, n1, ho⟩))
end
end Att

namespace L2
open PySem PySem.Spec PyProof.Rows

theorem vals_ints : ∀ {vs : List Value} {ns : List Int}, IntsAre vs ns → Vals (ns.map V.int) vs
  | _, _, .nil => .nil
  | _, _, .cons n t h => .cons ⟨t, rfl⟩ (vals_ints h)

/-- nothing is tracked but the script, known to the object (or it is an object of the module) -/
def Only (H : Hp) : Prop := ∀ b, H b = none ∨ ∃ o xs, H b = some (.frz o (.lst xs))

/-- THE HEAD: the law's promise, at the heap behind the top. F, the promise of the law's def, may use that base is part of the heap (so K.In base, base.Ns mainGlobals mg stand in Mod) -/
theorem law_call {P : Program} {w : World} {K : PySem.W.Frag} {mg mb : Str → Option Value} {CX : CXT} {k : Nat} {fa a : Addr} {fd : FuncData} {x : Str} {sp : Sp} {s₁ : Shared} {vs : List Value} {ns : List Int}
    (KX : K.In s₁.heap) (hns : s₁.heap.Ns mainGlobals mg) (hb : s₁.heap.Ns builtinsNs mb) (hbb : ∀ x : Str, x ≠ "__name__" → mb x = bootBuiltins x) (hlim : s₁.heap.NoLimit) (hg : s₁.gens = #[])
    (ha : s₁.heap.get? a = some { cls := .type "list", data := .seq vs.toArray }) (hi : IntsAre vs ns) (hl : ns.length ≤ sizeLine) (hr : Room k callerA)
    (F : ∀ base : Heap, K.In base → base.Ns mainGlobals mg → FnOk P w K mg base CX k fa fd [x] sp) (hbind : ∀ (s : Shared) (u : Value), BindsTo s fd ⟨[u], []⟩ [(x, u)])
    (hsp : ∀ H : Hp, Only H → SqL K H a (ns.map V.int) → sp [.ref a] H (fun v _ => v = .bl true) fun _ _ _ => False)
    (hCX : ∀ H e s', CX [] H s₁ (fun _ _ _ => False) e s' → False) :
    codeAny (model P w) callerA (.call (.ref fa) ⟨[.ref a], []⟩) (fun r s' => r = .ok (.ret (.bool true)) ∧ OldK s₁.heap s'.heap ∧ s'.os = s₁.os ∧ AllBare s'.gens) s₁ := by
  have rv := vals_ints hi
  have lenV := hi.length
  -- from an abstract heap in which nothing but the script may be tracked
  have core : ∀ H : Hp, Only H → SqL K H a (ns.map V.int) → HOk P w H s₁.heap → (∀ b, H b ≠ none → b = a) → (H a ≠ none → K.lookup a = none) →
      codeAny (model P w) callerA (.call (.ref fa) ⟨[.ref a], []⟩) (fun r s' => r = .ok (.ret (.bool true)) ∧ OldK s₁.heap s'.heap ∧ s'.os = s₁.os ∧ AllBare s'.gens) s₁ := by
    intro H hO hS hok hA hK
    have base_of : ∀ {b : Addr} {o : Obj}, s₁.heap.get? b = some o → H b = none → (hidT s₁.heap H).get? b = some o := fun e n => hidT_get e n
    have noA : ∀ {b : Addr} {o : Obj} {es : Array DictEntry} {ep : Nat}, s₁.heap.get? b = some o → o.data = .dict es ep → H b = none := fun {b o es ep} e d => by
      cases q : H b with
      | none => rfl
      | some u =>
        have e' : b = a := hA b (by rw [q]; simp)
        subst e'
        rw [ha] at e; cases e
        have d' : Data.seq vs.toArray _ = Data.dict es ep := d
        cases d'
    have nsK : ∀ {b : Addr} {m : Str → Option Value}, s₁.heap.Ns b m → (hidT s₁.heap H).Ns b m := fun {b m} ⟨o, es, ep, e, d, r⟩ => ⟨o, es, ep, base_of e (noA e d), d, r⟩
    have hKb : K.In (hidT s₁.heap H) := fun b o e => base_of (KX b o e) (by
      cases q : H b with
      | none => rfl
      | some u =>
        have e' : b = a := hA b (by rw [q]; simp)
        subst e'
        rw [hK (by rw [q]; simp)] at e; cases e)
    have hM : Mod K mg (hidT s₁.heap H) := ⟨hKb, nsK hns, ⟨mb, nsK hb, hbb⟩, let ⟨mc, h1, h2⟩ := hlim; ⟨mc, nsK h1, h2⟩⟩
    have e0 : Env0 P w K mg (hidT s₁.heap H) callerA [] s₁ H := ⟨rfl, hM, fun b o e => of_hidT e, Nat.le_of_eq (hidT_size _ _), trivial, fun b hb => absurd (show b ∈ ([] : List Addr) from hb) (by simp), hok, .of_eq hg⟩
    refine codeAny_mono ((F _ hKb (nsK hns)).run callerA [] s₁ H ⟨[.ref a], []⟩ [.ref a] [.ref a] _ _ hr e0 (hbind s₁ (.ref a)) (.cons rfl .nil) (hsp H hO hS)) fun r s' h => ?_
    cases r with
    | error e => exact (hCX H e s' h).elim
    | ok fl =>
      cases fl with
      | next => exact False.elim h
      | brk => exact False.elim h
      | cont => exact False.elim h
      | ret u =>
        obtain ⟨v, H', os, bare, un, hok', r', q⟩ := h
        have q' : v = .bl true := q
        subst q'
        obtain rfl : u = Value.bool true := r'
        refine ⟨rfl, OldK.of_keep fun b o e => ?_, os, bare⟩
        cases q : H b with
        | none => exact un.keep b o e q (by intro z; exact absurd (show b ∈ ([] : List Addr) from z) (by simp)) (by simp)
        | some u =>
          rcases hO b with z | ⟨ob, xs, z⟩
          · rw [q] at z; cases z
          · have z2 := un.frzs b ob _ z
            obtain ⟨e1, _⟩ := hok b _ z
            obtain ⟨e2, _⟩ := hok' b _ z2
            rw [e] at e1; cases e1
            exact e2
  cases hk : K.lookup a with
  | some o =>
    -- the script is one of the module's own objects
    have e := KX a o hk
    rw [ha] at e
    cases e
    refine core (fun _ => none) (fun _ => .inl rfl) (.inr ⟨_, vs.toArray, _, hk, rfl, rfl, rfl, by rw [List.size_toArray, lenV]; exact hl, by simpa using rv⟩) (fun b u z => by have z' : (none : Option HO) = some u := z; cases z') (fun b z => absurd rfl z) fun z => absurd rfl z
  | none =>
    refine core (fun b => if b = a then some (.frz { cls := .type "list", data := .seq vs.toArray } (.lst (ns.map V.int))) else none) (fun b => ?_) (.inl (.inr ⟨{ cls := .type "list", data := .seq vs.toArray }, if_pos rfl⟩)) (fun b u z => ?_) (fun b z => ?_) fun _ => hk
    · by_cases hb : b = a
      · exact .inr ⟨_, _, if_pos hb⟩
      · exact .inl (if_neg hb)
    · by_cases hb : b = a
      · have z' := (if_pos hb).symm.trans z
        cases z'
        subst hb
        exact ⟨ha, by rw [List.length_map]; exact hl, vs, _, rv, ha⟩
      · have z' := (if_neg hb).symm.trans z
        cases z'
    · by_cases hb : b = a
      · exact hb
      · exact absurd (if_neg hb) z
end L2

namespace L2
open PySem PySem.Spec PyProof.Rows

abbrev KOf {K : PySem.W.Frag} {h : Heap} (_ : K.In h) : PySem.W.Frag := K

/-- the goal that k_head leaves (case hc), from the law's promise. F gives the function object fd (K's own) once, then the promise over every base -/
theorem walk_of {l : PySem.W.OpenLaw} {n k : Nat} {q : Program} {loose : List Str} {XP : (Str → Option Value) → Heap → Prop} {YP : World → Heap → Prop} {d : DefRec} {K : Params → PySem.W.Frag} {CX : World → CXT} {sp : World → Sp} {x : Str}
    (hn : l.most = some n) (hn2 : n ≤ sizeLine) (hdf : d.params.defaults = []) (hr : Room k callerA)
    (hY : ∀ (w : World) (h : Heap), YP w h → (K w.params).In h)
    (F : ∀ (w : World) (mg : Str → Option Value) (fa : Addr) (h : Heap), (K w.params).In h → h.Ns mainGlobals mg → mg d.name = some (.ref fa) →
      ∃ fd : FuncData, (∀ (s : Shared) (u : Value), BindsTo s fd ⟨[u], []⟩ [(x, u)]) ∧
        ∀ base : Heap, (K w.params).In base → base.Ns mainGlobals mg → FnOk l.prog w (K w.params) mg base (CX w) k fa fd [x] (sp w))
    (hsp : ∀ (w : World) (H : Hp) (a : Addr) (ns : List Int), ns.length ≤ n → Only H → SqL (K w.params) H a (ns.map V.int) → sp w [.ref a] H (fun v _ => v = .bl true) fun _ _ _ => False)
    (hCX : ∀ (w : World) (H : Hp) (s : Shared) (e : Value) (s' : Shared), CX w [] H s (fun _ _ _ => False) e s' → False) :
    PySem.W.WalkO q loose XP YP l.row.toRowW d [] (fun f vs => PySem.call f vs) := by
  refine Att.attach_call hn hdf fun w s₀ s₁ mg mb fa o pm cd doc a vs ns G Y ho hd hcd hmg hobj hints hlen hg => ?_
  have KX := hY w _ Y
  obtain ⟨fd, hb, hF⟩ := F w mg fa _ KX G.T.g hmg
  exact law_call KX G.T.g G.T.b G.T.builtins G.T.nolimit hg hobj hints (Nat.le_trans hlen hn2) hr hF hb (fun H hO hS => hsp w H a ns hlen hO hS) fun H e s' => hCX w H s₁ e s'
/-- the same where the promise hangs on the written part alone: (sp := My.sp_law), no hole under a binder -/
theorem walk_ofK {l : PySem.W.OpenLaw} {n k : Nat} {q : Program} {loose : List Str} {XP : (Str → Option Value) → Heap → Prop} {YP : World → Heap → Prop} {d : DefRec} {K : Params → PySem.W.Frag} {CX : CXT} {sp : PySem.W.Frag → Sp} {x : Str}
    (hn : l.most = some n) (hn2 : n ≤ sizeLine) (hdf : d.params.defaults = []) (hr : Room k callerA)
    (hY : ∀ (w : World) (h : Heap), YP w h → (K w.params).In h)
    (F : ∀ (w : World) (mg : Str → Option Value) (fa : Addr) (h : Heap), (K w.params).In h → h.Ns mainGlobals mg → mg d.name = some (.ref fa) →
      ∃ fd : FuncData, (∀ (s : Shared) (u : Value), BindsTo s fd ⟨[u], []⟩ [(x, u)]) ∧
        ∀ base : Heap, (K w.params).In base → base.Ns mainGlobals mg → FnOk l.prog w (K w.params) mg base CX k fa fd [x] (sp (K w.params)))
    (hsp : ∀ (K : PySem.W.Frag) (H : Hp) (a : Addr) (ns : List Int), ns.length ≤ n → Only H → SqL K H a (ns.map V.int) → sp K [.ref a] H (fun v _ => v = .bl true) fun _ _ _ => False)
    (hCX : ∀ (H : Hp) (s : Shared) (e : Value) (s' : Shared), CX [] H s (fun _ _ _ => False) e s' → False) :
    PySem.W.WalkO q loose XP YP l.row.toRowW d [] (fun f vs => PySem.call f vs) :=
  walk_of (K := K) (CX := fun _ => CX) (sp := fun w => sp (K w.params)) hn hn2 hdf hr hY F (fun w H a ns h1 h2 h3 => hsp (K w.params) H a ns h1 h2 h3) fun _ H s e s' => hCX H s e s'
end L2



/-! SHORT WORDS over the layer: a def of the text, its body, what a loop and a test want. -/
namespace L2
open PySem PySem.Spec PyProof.Rows

/-! ### the text by places -/
/-- the j-th statement of a class's body -/
def inClass (s : Stmt) (j : Nat) : Stmt := match s with
  | .ClassDef _ _ _ body _ _ _ _ _ _ _ => body.getD j (.Pass ⟨0, 0, 0, 0⟩)
  | _ => .Pass ⟨0, 0, 0, 0⟩
def defArgs (s : Stmt) : Arguments := match s with
  | .FunctionDef _ a _ _ _ _ _ _ _ _ => a
  | _ => { posonlyargs := [], args := [], vararg := none, kwonlyargs := [], kw_defaults := [], kwarg := none, defaults := [] }
def defBody (s : Stmt) : List Stmt := match s with
  | .FunctionDef _ _ b _ _ _ _ _ _ _ => b
  | _ => []
def defScope (s : Stmt) : Scope := match s with
  | .FunctionDef _ _ _ _ _ _ sc _ _ _ => sc
  | _ => { kind := .function, names := [], isGenerator := false, isCoroutine := false }

/-! ### no exception leaves a def -/
abbrev CX0 : CXT := fun _ _ _ _ _ _ => False
abbrev E0 : XK := fun _ _ _ => False
theorem pass0 {X : Cx} : Passes CX0 X E0 := fun _ _ _ _ _ _ _ h => h.elim

/-! ### a def (or method) of the text as it stands behind the top -/
structure Fun (K : PySem.W.Frag) (x qual : Str) (st : Stmt) (f : Addr) (fd : FuncData) : Prop where
  ex : ∃ (oc : Value) (od : Option Addr) (kV doc pm : Value) (an : Option Addr) (cdv ct : Value) (osl : Array (Option Value)),
    fd = PySem.W.fnOf x qual (defArgs st) (defBody st) (defScope st) .none kV doc pm an cdv ct ∧ K.lookup f = some ⟨oc, od, .func fd, osl⟩ ∧ PySem.W.codeIn K cdv qual = true
  kp : PySem.W.keepIn K (.ref f) = true
section
variable {P : Program} {w : World} {K : PySem.W.Frag} {mg : Str → Option Value} {base : Heap}
/-- THE RULE for a def: its body as a term of rules, and the reading of that term -/
theorem Fun.ok {x qual : Str} {st : Stmt} {f : Addr} {fd : FuncData} {N ps : List Str} {k : Nat} {sp : Sp} (F : Fun K x qual st f fd) (S : FnScope N ps (defScope st)) (len : ∀ vs H Q E, sp vs H Q E → vs.length = ps.length)
    (hbody : ∀ (cdv : Value) (A : Around) (outer : List Env) (s : Shared) (H : Hp) (vs : List V) (Q : VK) (E : XK), Room k (A.deeper (envOfC qual (defScope st) s.heap.objs.size f cdv)) → sp vs H Q E →
      ∃ t, PSs (cxOf CX0 P w K mg base N qual (defScope st) f cdv A outer s H E).nox (defBody st) t ∧ t { nx := fun _ H' => Q .non H', rt := Q } (start N vs) H) : FnOk P w K mg base CX0 (k + 1) f fd ps sp := by
  obtain ⟨oc, od, kV, doc, pm, an, cdv, ct, osl, rfl, lk, hcd⟩ := F.ex
  refine fn_of lk hcd S len fun A outer s H vs Q E hr hsp => ?_
  obtain ⟨t, h, q⟩ := hbody cdv A outer s H vs Q E hr hsp
  exact ⟨t, h.nox, q⟩
/-- how its arguments bind (no defaults): h is «fun _ _ _ _ _ _ us hl => match us, hl with | [_, _], _ => rfl», one _ a parameter -/
theorem Fun.binds {x qual : Str} {st : Stmt} {f : Addr} {fd : FuncData} {ps : List Str} (F : Fun K x qual st f fd)
    (h : ∀ (kV doc pm : Value) (an : Option Addr) (cdv ct : Value) (us : List Value), us.length = ps.length → bindArgs (PySem.W.fnOf x qual (defArgs st) (defBody st) (defScope st) .none kV doc pm an cdv ct) ⟨us, []⟩ = pure (ps.zip us)) : Binds K fd ps [] := by
  obtain ⟨oc, od, kV, doc, pm, an, cdv, ct, osl, rfl, lk, hcd⟩ := F.ex
  exact .all (h kV doc pm an cdv ct)
theorem fun_mk {x qual : Str} {st : Stmt} {f : Addr} {oc : Value} {od an : Option Addr} {osl : Array (Option Value)} {kV doc pm cdv ct : Value} (l : K.lookup f = some ⟨oc, od, .func (PySem.W.fnOf x qual (defArgs st) (defBody st) (defScope st) .none kV doc pm an cdv ct), osl⟩)
    (c : PySem.W.codeIn K cdv qual = true) (k : PySem.W.keepIn K (.ref f) = true) : Fun K x qual st f (PySem.W.fnOf x qual (defArgs st) (defBody st) (defScope st) .none kV doc pm an cdv ct) := ⟨⟨oc, od, kV, doc, pm, an, cdv, ct, osl, rfl, l, c⟩, k⟩
end
theorem hu_of {A : Around} {k : Nat} (hr : Room k A) : A.units + 1 < cLine := Nat.lt_of_le_of_lt (Nat.add_le_add_left (by decide : 1 ≤ 64) _) hr.units
theorem small1000 {n : Nat} (h : n ≤ 1000) : n < sizeLine := Nat.lt_of_le_of_lt h (by decide)

/-! ### expressions in short: the name that stands in the i-th slot -/
section
variable {X : Cx}
theorem pv (i : Nat) {x : Str} {pos : Pos} (hN : X.N[i]? = some x := by rfl) (hv : Vis X.env.scope x := by first | exact Or.inl rfl | exact Or.inr (Or.inl rfl) | exact Or.inr (Or.inr rfl)) (hd : (x == ("__debug__" : Str)) = false := by decide)
    (hcd : (x == ("__classdict__" : Str)) = false := by decide) : PE X (.Name x pos) (tVar i) := pe_var hN hv hd hcd
end

/-! ### tests -/
theorem iteF {A B : Prop} (h : B) : if false = true then A else B := by
  rw [if_neg Bool.false_ne_true]
  exact h
theorem iteT {A B : Prop} (h : A) : if true = true then A else B := by
  rw [if_pos rfl]
  exact h
theorem ite2 {c A B : Prop} [Decidable c] (h1 : c → A) (h2 : ¬ c → B) : if c then A else B := by
  by_cases h : c
  · rw [if_pos h]
    exact h1 h
  · rw [if_neg h]
    exact h2 h
theorem iteNS {c A B : Prop} [Decidable c] (hc : c) (h : B) : if (!decide c) = true then A else B := by
  rw [decide_eq_true hc]
  exact iteF h

/-! ### heaps -/
/-- all that was tracked is as it was -/
def Same (H H' : Hp) : Prop := ∀ b o, H b = some o → H' b = some o
theorem Same.refl (H : Hp) : Same H H := fun _ _ h => h
theorem Same.trans {H H1 H2 : Hp} (a : Same H H1) (b : Same H1 H2) : Same H H2 := fun c o h => b c o (a c o h)
theorem Same.free {H H' : Hp} (e : Same H H') {l : Addr} (h : H' l = Option.none) : H l = Option.none := by
  cases q : H l with
  | none => rfl
  | some o =>
    rw [e l o q] at h
    cases h
theorem Same.seq {K : PySem.W.Frag} {H H' : Hp} {a : Addr} {xs : List V} (e : Same H H') (h : SqL K H a xs) : SqL K H' a xs := by
  rcases h with (h | ⟨o, h⟩) | h
  · exact .inl (.inl (e _ _ h))
  · exact .inl (.inr ⟨o, e _ _ h⟩)
  · exact .inr h

end L2

namespace L2
open PySem
def clOf (cells : List (Str × Addr)) : List (Str × NameKind) → List (Str × Addr) → List (Str × Addr)
  | [], acc => acc
  | (n, k) :: r, acc => clOf cells r (if k == .free then (match cells.lookup n with | some c => (n, c) :: acc | none => acc) else acc)
theorem closure_eq {scope : Scope} {env : Env} (h : ∀ p ∈ scope.names, p.2 = .free → ∃ c, env.cells.lookup p.1 = some c) : closureFor scope env = pure (clOf env.cells scope.names []) := by
  have key : ∀ (names : List (Str × NameKind)) (acc : List (Str × Addr)), (∀ p ∈ names, p.2 = .free → ∃ c, env.cells.lookup p.1 = some c) →
      (forIn names acc (fun (x : Str × NameKind) (cs : List (Str × Addr)) => if (x.2 == NameKind.free) = true then (do let c ← cellOf env x.1; pure (ForInStep.yield ((x.1, c) :: cs))) else pure (ForInStep.yield cs)) : Sem (List (Str × Addr))) = pure (clOf env.cells names acc) := by
    intro names
    induction names with
    | nil => intro acc _; rfl
    | cons p r ih =>
      intro acc hp
      obtain ⟨n, k⟩ := p
      rw [List.forIn_cons]
      by_cases hk : k = .free
      · subst hk
        obtain ⟨c, hc⟩ := hp (n, .free) List.mem_cons_self rfl
        have e : cellOf env n = pure c := by unfold cellOf; rw [show env.cells.lookup n = some c from hc]
        show (if (NameKind.free == NameKind.free) = true then _ else _) >>= _ = _
        rw [if_pos (by rfl)]
        dsimp only
        rw [e]
        show (forIn r ((n, c) :: acc) _ : Sem _) = _
        rw [ih _ fun q hq => hp q (List.mem_cons_of_mem _ hq)]
        simp [clOf, show env.cells.lookup n = some c from hc]
      · have hk' : (k == NameKind.free) = false := by simpa using hk
        show (if (k == NameKind.free) = true then _ else _) >>= _ = _
        rw [if_neg (by rw [hk']; exact Bool.false_ne_true)]
        show (forIn r acc _ : Sem _) = _
        rw [ih _ fun q hq => hp q (List.mem_cons_of_mem _ hq)]
        simp [clOf, hk']
  unfold closureFor
  have k := key scope.names [] h
  exact (congrArg (fun m : Sem (List (Str × Addr)) => m >>= fun cs => pure cs) k).trans rfl
theorem clOf_sub {cells : List (Str × Addr)} : ∀ {names : List (Str × NameKind)} {acc : List (Str × Addr)}, (∀ x c, acc.lookup x = some c → cells.lookup x = some c) → ∀ x c, (clOf cells names acc).lookup x = some c → cells.lookup x = some c
  | [], acc, h, x, c, e => h x c e
  | (n, k) :: r, acc, h, x, c, e => by
    refine clOf_sub (names := r) (fun y d q => ?_) x c e
    split at q
    · split at q
      · rename_i c0 hc0
        rw [List.lookup_cons] at q
        split at q
        · rename_i hy
          have hy' : y = n := by simpa using hy
          subst hy'
          rw [hc0]; exact q
        · exact h y d q
      · exact h y d q
    · exact h y d q
theorem clOf_has {cells : List (Str × Addr)} : ∀ {names : List (Str × NameKind)} {acc : List (Str × Addr)} {x : Str}, (acc.lookup x).isSome = true ∨ ((x, NameKind.free) ∈ names ∧ (cells.lookup x).isSome = true) → ((clOf cells names acc).lookup x).isSome = true
  | [], acc, x, h => by
    rcases h with h | h
    · exact h
    · exact absurd h.1 (by simp)
  | (n, k) :: r, acc, x, h => by
    refine clOf_has (names := r) ?_
    rcases h with h | ⟨hm, hc⟩
    · left
      split
      · split
        · rw [List.lookup_cons]; split
          · rfl
          · exact h
        · exact h
      · exact h
    · rcases List.mem_cons.mp hm with e | hm
      · injection e with e1 e2
        subst e1; subst e2
        left
        rw [if_pos (by rfl)]
        cases hq : cells.lookup x with
        | none => rw [hq] at hc; cases hc
        | some c => simp
      · exact .inr ⟨hm, hc⟩
section
variable {prog : Program} {w : World} {A : Around}
theorem comp_loop {R : Result → Shared → Prop} {s : Shared} {elt target iter : Expr} {ifs : List Expr} {scope : Scope} {pos : Pos} {it acc : Value} {env : Env} {E : Value → Shared → Prop} (hE : ∀ e s', E e s' → notedBy (model prog w) A env (fun e s' => R (.error e) s') e s') (I : Nat → Shared → Prop)
    (turn : ∀ n s, I n s → wpAny (model prog w) A (pyNext it) (fun r s₁ => match r with
      | none => R (.ok .next) s₁
      | some v => wpAny (model prog w) A (letOwnedTupleGo target it v) (fun _ s₁' => wpAny (model prog w) A (assign target env v) (fun _ s₂ =>
          wpAny (model prog w) A (forIn ifs true fun c r => if r = true then do let ok ← isTrue c env (eval c env); pure (ForInStep.yield ok) else pure (ForInStep.yield r)) (fun ok s₃ =>
            if ok = true then wpAny (model prog w) A (eval elt env) (fun x s₄ =>
              wpAny (model prog w) A (call (.builtin "list.append") [acc, x]) (fun _ s₅ => ∃ m, m < n ∧ I m s₅) E s₄) E s₃
            else ∃ m, m < n ∧ I m s₃) E s₂) E s₁') E s₁) E s)
    (n : Nat) (h : I n s) :
    codeAny (model prog w) A (.compLoop (.ListComp elt [⟨target, iter, ifs, 0⟩] scope pos) 0 it acc env) R s := by
  have noted : ∀ {α : Type} {t : Sem α} {Q : α → Shared → Prop} {s : Shared}, wpAny (model prog w) A t Q E s → wpAny (model prog w) A t Q (notedBy (model prog w) A env fun e s' => R (.error e) s') s := fun q => wpAny_mono q (fun _ _ z => z) hE
  refine codeAny_loop rfl I (fun n s hI => ?_) n h
  show wpAny _ A ((compTurn (.ListComp elt [⟨target, iter, ifs, 0⟩] scope pos) 0 it acc env).onRaise (fun x => do noteFrame x env; theTreesLotGoes x)) _ _ s
  refine wpAny_noted ?_
  rw [compTurn_list]
  refine wpAny_bind (wpAny_standAt (wpAny_bind (wpAny_mono (noted (turn n s hI)) (fun r s₁ h₁ => ?_) fun _ _ h' => h')))
  cases r with
  | none => exact wpAny_pure h₁
  | some v =>
    refine wpAny_bind (wpAny_mono (noted h₁) (fun _ s₁' h₁' => ?_) fun _ _ h' => h')
    refine wpAny_bind (wpAny_mono (noted h₁') (fun _ s₂ h₂ => wpAny_bind (wpAny_mono (noted h₂) (fun ok s₃ h₃ => ?_) fun _ _ h' => h')) fun _ _ h' => h')
    cases ok with
    | false => exact wpAny_pure ⟨rfl, h₃⟩
    | true =>
      simp only [if_true] at h₃ ⊢
      exact wpAny_bind (wpAny_bind (wpAny_mono (noted h₃) (fun x s₄ h₄ => wpAny_bind (wpAny_mono (noted h₄) (fun _ s₅ h₅ => wpAny_pure (wpAny_pure ⟨rfl, h₅⟩)) fun _ _ h' => h')) fun _ _ h' => h'))
end
end L2

/-! ### a list comprehension -/
namespace L2
open PySem PySem.Spec PyProof.Rows

/-- the context of a comprehension's block -/
abbrev compCx (X : Cx) (pins : List (Addr × Obj)) (N : List Str) (scope : Scope) (C : Addr) (s : Shared) (H : Hp) (fp : List Addr) : Cx :=
  { X with N := N, s₀ := s, H₀ := H, env := compEnvC scope (clOf X.env.cells scope.names []) C X.env, outer := X.stack, stack := X.stack, ex := fp, fn := fun _ => false, pn := X.pn ++ pins, xe := fun _ _ => False }
/-- the block's names: own ones (none), names of the frame around (its slot) -/
def pick (ix : List (Option Nat)) (σ : St) : St := ix.map fun o => o.bind fun j => (σ[j]?).join
def IxOk (X : Cx) (scope : Scope) : List Str → List (Option Nat) → Prop
  | [], [] => True
  | _ :: N, none :: ix => IxOk X scope N ix
  | x :: N, some j :: ix => (X.N[j]? = some x ∧ Vis X.env.scope x ∧ (X.env.scope.names.lookup x == some .local) = false ∧ scope.names.lookup x = some .free) ∧ IxOk X scope N ix
  | _, _ => False
theorem IxOk.len {X : Cx} {scope : Scope} : ∀ {N : List Str} {ix : List (Option Nat)}, IxOk X scope N ix → ix.length = N.length
  | [], [], _ => rfl
  | [], none :: _, h => h.elim
  | [], some _ :: _, h => h.elim
  | _ :: _, [], h => h.elim
  | _ :: N, none :: ix, h => by simp only [List.length_cons]; rw [IxOk.len (N := N) (ix := ix) h]
  | _ :: N, some _ :: ix, h => by simp only [List.length_cons]; rw [IxOk.len (N := N) (ix := ix) h.2]
theorem IxOk.get {X : Cx} {scope : Scope} : ∀ {N : List Str} {ix : List (Option Nat)} {i j : Nat} {x : Str}, IxOk X scope N ix → N[i]? = some x → ix[i]? = some (some j) →
    X.N[j]? = some x ∧ Vis X.env.scope x ∧ (X.env.scope.names.lookup x == some .local) = false ∧ scope.names.lookup x = some .free
  | [], [], _, _, _, _, h, _ => by simp at h
  | [], none :: _, _, _, _, h, _, _ => h.elim
  | [], some _ :: _, _, _, _, h, _, _ => h.elim
  | _ :: _, [], _, _, _, h, _, _ => h.elim
  | _ :: N, none :: ix, 0, _, _, _, _, e => by simp at e
  | _ :: N, none :: ix, i + 1, _, _, h, h1, e => IxOk.get (N := N) (ix := ix) (i := i) h (by simpa using h1) (by simpa using e)
  | y :: N, some k :: ix, 0, j, x, h, h1, e => by
    simp at h1 e
    subst h1; subst e
    exact h.1
  | _ :: N, some _ :: ix, i + 1, _, _, h, h1, e => IxOk.get (N := N) (ix := ix) (i := i) h.2 (by simpa using h1) (by simpa using e)
theorem pick_get {ix : List (Option Nat)} {σ : St} {i : Nat} {v : V} (h : (pick ix σ)[i]? = some (some v)) : ∃ j, ix[i]? = some (some j) ∧ σ[j]? = some (some v) := by
  unfold pick at h
  rw [List.getElem?_map] at h
  cases e : ix[i]? with
  | none => rw [e] at h; cases h
  | some o =>
    rw [e] at h
    cases o with
    | none => cases h
    | some j =>
      refine ⟨j, rfl, ?_⟩
      have h' : (σ[j]?).join = some v := Option.some.inj h
      cases q : σ[j]? with
      | none => rw [q] at h'; cases h'
      | some z => rw [q] at h'; have h2 : z = some v := h'; rw [h2]
theorem relabel_not_local {env : Env} : ∀ {names : List (Str × NameKind)} {x : Str}, (∀ y ∈ names, y.2 ≠ .cell) →
    ((names.map fun (n, k) => if (k == NameKind.free && env.scope.kind == .function && env.kindOf n == some .cell) then (n, NameKind.cell) else (n, k)).lookup x = some .cell ∨
     (names.map fun (n, k) => if (k == NameKind.free && env.scope.kind == .function && env.kindOf n == some .cell) then (n, NameKind.cell) else (n, k)).lookup x = some .free) → names.lookup x = some .free
  | [], _, _, h => by simp at h
  | (n, k) :: r, x, hc, h => by
    have ih := @relabel_not_local env r x fun y hy => hc y (List.mem_cons_of_mem _ hy)
    have hk : k ≠ .cell := hc (n, k) List.mem_cons_self
    rw [List.map_cons] at h
    cases hx : x == n with
    | true =>
      rw [List.lookup_cons, hx]
      by_cases hcnd : (k == NameKind.free && env.scope.kind == .function && env.kindOf n == some .cell) = true
      · have : k = .free := by
          simp only [Bool.and_eq_true, beq_iff_eq] at hcnd
          exact hcnd.1.1
        rw [this]
      · simp only [hcnd, Bool.false_eq_true, if_false, List.lookup_cons, hx] at h
        rcases h with h | h
        · exact absurd (Option.some.inj h) hk
        · exact h
    | false =>
      rw [List.lookup_cons, hx]
      refine ih ?_
      by_cases hcnd : (k == NameKind.free && env.scope.kind == .function && env.kindOf n == some .cell) = true
      · simp only [hcnd, if_true, List.lookup_cons, hx] at h
        exact h
      · simp only [hcnd, Bool.false_eq_true, if_false, List.lookup_cons, hx] at h
        exact h
theorem relabel_free {env : Env} : ∀ {names : List (Str × NameKind)} {x : Str}, names.lookup x = some .free →
    ((names.map fun (n, k) => if (k == NameKind.free && env.scope.kind == .function && env.kindOf n == some .cell) then (n, NameKind.cell) else (n, k)).lookup x = some .cell ∨
     (names.map fun (n, k) => if (k == NameKind.free && env.scope.kind == .function && env.kindOf n == some .cell) then (n, NameKind.cell) else (n, k)).lookup x = some .free)
  | [], _, h => by simp at h
  | (n, k) :: r, x, h => by
    have ih := @relabel_free env r x
    rw [List.map_cons]
    cases hx : x == n with
    | true =>
      rw [List.lookup_cons, hx] at h
      have hk : k = .free := Option.some.inj h
      subst hk
      by_cases hcnd : (NameKind.free == NameKind.free && env.scope.kind == .function && env.kindOf n == some .cell) = true
      · simp only [hcnd, if_true, List.lookup_cons, hx]; exact .inl trivial
      · simp only [hcnd, Bool.false_eq_true, if_false, List.lookup_cons, hx]; exact .inr trivial
    | false =>
      rw [List.lookup_cons, hx] at h
      by_cases hcnd : (k == NameKind.free && env.scope.kind == .function && env.kindOf n == some .cell) = true
      · simp only [hcnd, if_true, List.lookup_cons, hx]; exact ih h
      · simp only [hcnd, Bool.false_eq_true, if_false, List.lookup_cons, hx]; exact ih h

/-- the tests of a comprehension: none, or one -/
def PTs (Y : Cx) : List Expr → TT → Prop
  | [], t => t = fun _ H Q => Q true H
  | [c], t => PT Y c t
  | _, _ => False
/-- the list that is made; W: the invariant by the turn, a measure, the block's names, the items so far -/
def CompGoal (ix : List (Option Nat)) (g : TG) (tt : TT) (te : TE) (σ : St) (Q : VK) (J : It) (H1 : Hp) : Prop := ∀ l, H1 l = none → ∃ W : Nat → Nat → St → List V → Hp → Prop,
  (∃ m, W 0 m (pick ix σ) [] (upd H1 l (.lst []))) ∧ ∀ i m σ1 ys H', W i m σ1 ys H' → H' l = some (.lst ys) ∧ ((J.stop i H' ∧ Q (.ref l) H') ∨
    (J.go i H' ∧ ∃ m', m' < m ∧ ∀ x H2, J.yld i H' x H2 → g x σ1 H2 fun σ2 H3 => tt σ2 H3 fun b H4 => if b = true then te σ2 H4 fun y H5 => H5 l = some (.lst ys) ∧ ys.length < sizeLine ∧ W (i + 1) m' σ2 (ys ++ [y]) (upd H5 l (.lst (ys ++ [y]))) else W (i + 1) m' σ2 ys H4))
def tComp (ix : List (Option Nat)) (wi : TI) (g : TG) (tt : TT) (te : TE) : TE := fun σ H Q => wi σ H fun J H1 => CompGoal ix g tt te σ Q J H1

theorem Un.letGo {fs ex : List Addr} {H H' : Hp} {h h1 h2 : Heap} {C : Addr} (u : Un fs ex H H' h h1) (hC : h.objs.size ≤ C) (sb : Heap.SameBut C h1 h2) : Un fs ex H H' h h2 := by
  have ne : ∀ b o, h.get? b = some o → b ≠ C := fun b o e => Nat.ne_of_lt (Nat.lt_of_lt_of_le (Heap.lt_size e) hC)
  refine ⟨fun b o e n hb hx => (sb.2 b (ne b o e)).trans (u.keep b o e n hb hx), fun b o e n hb hx => ?_, u.free, fun b o e hx => ?_, u.tups, u.frzs, u.tbls⟩
  · obtain ⟨sl, q⟩ := u.slot b o e n hb hx
    exact ⟨sl, (sb.2 b (ne b o e)).trans q⟩
  · obtain ⟨o', q⟩ := u.there b o e hx
    exact ⟨o', (sb.2 b (ne b o e)).trans q⟩
theorem HOk.letGo {P : Program} {w : World} {H : Hp} {h h' : Heap} {C : Addr} (x : HOk P w H h) (hC : H C = none) (sb : Heap.SameBut C h h') : HOk P w H h' := fun a o e => by
  have na : ∀ b u, H b = some u → b ≠ C := fun b u q z => by rw [z, hC] at q; cases q
  refine (x a o e).stay (fun b u hb q => (sb.2 b ?_).trans q) (fun _ q => q) fun _ _ q => q
  rcases hb with rfl | hb
  · exact na _ _ e
  · exact na _ _ hb

section
variable {X : Cx}
theorem wp_tests {Y : Cx} {ifs : List Expr} {tt : TT} (ht : PTs Y ifs tt) {pins : List (Addr × Obj)} {s : Shared} {σ : St} {H : Hp} {Q : Bool → Hp → Prop} (I : Inv Y pins σ H s) (h : tt σ H Q) :
    wpAny (model Y.prog Y.w) Y.A (forIn ifs true fun c r => if r = true then do let ok ← isTrue c Y.env (eval c Y.env); pure (ForInStep.yield ok) else pure (ForInStep.yield r)) (TP Y pins σ Q) Y.xe s := by
  match ifs, ht with
  | [], ht =>
    have e : tt = fun _ H Q => Q true H := ht
    subst e
    exact wpAny_tests_nil ⟨H, I, h⟩
  | [c], ht => exact wpAny_tests_one ((show PT Y c tt from ht) pins s σ H Q I h)
  | _ :: _ :: _, ht => exact False.elim ht

theorem pe_comp {tg iter elt : Expr} {ifs : List Expr} {scope : Scope} {pos : Pos} {N : List Str} {ix : List (Option Nat)} {wi : TI} {g : TG} {tt : TT} {te : TE}
    (hc : X.calm = true) (hi : PI X tg iter wi)
    (hg : ∀ pins C s H fp, PG (compCx X pins N scope C s H fp) tg g)
    (ht : ∀ pins C s H fp, PTs (compCx X pins N scope C s H fp) ifs tt)
    (he : ∀ pins C s H fp, PE (compCx X pins N scope C s H fp) elt te)
    (hk : scope.kind = .function) (hcell : ∀ y ∈ scope.names, y.2 ≠ .cell) (hnames : ∀ y ∈ scope.names, y.2 = .local → scope.names.lookup y.1 = some .local)
    (hfr0 : (scope.names.all fun y => !(y.2 == NameKind.free) || (X.env.cells.lookup y.1).isSome) = true) (hix : IxOk X scope N ix)
    (hs : ∀ x, foldedSetIterable iter X.env x = pure x := by intro _; rfl) :
    PE X (.ListComp elt [⟨tg, iter, ifs, 0⟩] scope pos) (tComp ix wi g tt te) := by
  intro pins s σ H Q I h
  have hfr : ∀ y ∈ scope.names, y.2 = .free → (X.env.cells.lookup y.1).isSome = true := fun y hy e => by
    have z := List.all_eq_true.mp hfr0 y hy
    rw [e] at z
    simpa using z
  have hfr' : ∀ p ∈ scope.names, p.2 = .free → ∃ c, X.env.cells.lookup p.1 = some c := fun p hp e => Option.isSome_iff_exists.mp (hfr p hp e)
  have clsub : ∀ x c, (clOf X.env.cells scope.names []).lookup x = some c → X.env.cells.lookup x = some c := clOf_sub (fun x c q => by simp at q)
  have clhas : ∀ x, scope.names.lookup x = some .free → ∃ c, (clOf X.env.cells scope.names []).lookup x = some c := fun x hx => by
    have hm := PySem.mem_of_lookup hx
    exact Option.isSome_iff_exists.mp (clOf_has (.inr ⟨hm, hfr _ hm rfl⟩))
  rw [eval_ListComp]
  refine wpAny_comprehension_free (use := none) rfl hs (closure_eq hfr') hk hnames (thn (hi pins s σ H _ I h) fun v s1 h1 => thn h1 fun itv s2 h2 => ?_)
  obtain ⟨it, fp, tn, J, H2, e, I2, T, st2, f2, hW⟩ := h2
  subst e
  have hfree2 : H2 s2.heap.objs.size = none := I2.hok.fresh (Nat.le_refl _)
  obtain ⟨W, ⟨m0, w0⟩, turn⟩ := hW s2.heap.objs.size hfree2
  refine wpAny_newObj_type ?_
  have I3 : Inv X pins σ (upd H2 s2.heap.objs.size (.lst [])) { s2 with heap := s2.heap.push { cls := .type "list", data := .seq ([] : List Value).toArray } } := I2.lnew (its := []) (t' := s2.toks) .nil (Nat.zero_le _)
  have f3 : ∀ b ∈ fp, FpOk X pins (upd H2 s2.heap.objs.size (.lst [])) b := fun b hb => by
    refine ⟨?_, (f2 b hb).2⟩
    obtain ⟨o, eo, _⟩ := T.obj _ _ st2 b hb
    rw [upd_ne (Nat.ne_of_lt (Heap.lt_size eo))]
    exact (f2 b hb).1
  have st3 : tn 0 (s2.heap.push { cls := .type "list", data := .seq ([] : List Value).toArray }) := T.keep _ _ _ st2 fun b _ o e => Heap.get?_push_of_some _ e
  generalize hs3 : ({ s2 with heap := s2.heap.push { cls := .type "list", data := .seq ([] : List Value).toArray } } : Shared) = s3 at I3
  have st3 : tn 0 s3.heap := by rw [← hs3]; exact st3
  generalize hH3 : upd H2 s2.heap.objs.size (.lst []) = H3 at I3 f3 w0
  generalize hacc : s2.heap.objs.size = acc at *
  refine wpAny_newFunctionEnv hcell (by intro y hy; simp at hy) (fun h₁ hns₁ hsb₁ => ?_) hk
  have old : ∀ b o, s3.heap.get? b = some o → h₁.get? b = some o := fun b o q => hsb₁.extBut b o (Nat.ne_of_lt (Heap.lt_size q)) (Heap.get?_push_of_some _ q)
  have hCfree : H3 s3.heap.objs.size = none := I3.hok.fresh (Nat.le_refl _)
  have fpl : ∀ b ∈ fp, b < s3.heap.objs.size := fun b hb => by
    obtain ⟨o, eo, _⟩ := T.obj _ _ st3 b hb
    exact Heap.lt_size eo
  have nstk : ∀ b, b ≠ X.env.locals → b ∉ X.fs → b ∉ frs X.stack := fun b h1 h2 z => by
    rcases List.mem_cons.mp (I3.stkSub b z) with q | q
    · exact h1 q
    · exact h2 q
  have clt : ∀ x c, X.env.cells.lookup x = some c → c < s3.heap.objs.size := fun x c q => by
    obtain ⟨v, z⟩ := I3.cell x c q
    exact z.lt
  -- the block's own invariant at its start
  have YI : ∀ (h' : Heap) (m : Str → Option Value), (∀ b o, s3.heap.get? b = some o → h'.get? b = some o) → h'.Ns s3.heap.objs.size m →
      Inv (compCx X pins N scope s3.heap.objs.size s3 H3 fp) [] (pick ix σ) H3 { s3 with heap := h', toks := s3.toks + ([] : List (Str × Value)).length } := by
    intro h' m hk' hn
    refine ⟨⟨I3.ok.mod, hk, I3.ok.glob, I3.ok.blt, Nat.le_refl _, fun x y c q1 q2 => I3.ok.inj x y c (clsub x c q1) (clsub y c q2), fun x hx => clhas x (relabel_not_local hcell hx), fun x c hf _ => absurd hf Bool.false_ne_true,
      I3.ok.hd, I3.ok.frames, .inl rfl, fun b hb => ⟨Nat.ne_of_lt (fpl b hb), fun x c q => (f3 b hb).2.2.2.2.1 x c (clsub x c q)⟩, I3.bs, Nat.le_trans I3.ok.bsz I3.sz, fun b o e hb => ?_, fun b hb => nstk b (f3 b hb).2.1 (f3 b hb).2.2.1, I3.stack, I3.stkFree⟩,
      rfl, I3.bare, Un.kept hk', ⟨m, hn, fun i x v h1 h2 h3 => ?_⟩, fun x c q => ?_, hCfree, fun x c q => I3.freeC x c (clsub x c q), fun p hp => ?_, I3.hok.kept hk', ?_⟩
    · have q := (I3.bs b o e).2
      rcases (f3 b hb).2.2.2.1 with z | z
      · exact I3.ok.noex b o e z
      · exact absurd (Nat.lt_of_lt_of_le (Heap.lt_size e) (Nat.le_trans I3.ok.bsz z)) (Nat.lt_irrefl _)
    · obtain ⟨j, e1, e2⟩ := pick_get h2
      obtain ⟨a1, a2, a3, a4⟩ := hix.get h1 e1
      obtain ⟨mX, hnX, hlX⟩ := I3.loc
      obtain ⟨u, ru, l⟩ := hlX j x v a1 e2 a2
      refine ⟨u, ru, ?_⟩
      rcases l with ⟨l1, _⟩ | ⟨_, c, lc, z⟩
      · have l1' : X.env.scope.names.lookup x = some .local := l1
        rw [l1'] at a3
        exact absurd a3 (by decide)
      · obtain ⟨c', hc'⟩ := clhas x a4
        have ec := clsub x c' hc'
        rw [lc] at ec
        have ec' : c = c' := Option.some.inj ec
        subst ec'
        exact .inr ⟨relabel_free a4, c, hc', z.keeps hk'⟩
    · obtain ⟨v, z⟩ := I3.cell x c (clsub x c q)
      exact ⟨v, z.keeps hk'⟩
    · have hp' : p ∈ X.pn ++ pins := by simpa using hp
      obtain ⟨a1, a2, a3, a4, a5⟩ := I3.pin p hp'
      exact ⟨hk' _ _ a1, a2, Nat.ne_of_lt (Heap.lt_size a1), nstk p.1 a3 a4, a5⟩
    · show (pick ix σ).length = N.length
      unfold pick
      rw [List.length_map]
      exact hix.len
  have fpY : ∀ {pl : List (Addr × Obj)} {H' : Hp}, pl = [] → (∀ b ∈ fp, H' b = none) → ∀ b ∈ fp, FpOk (compCx X pins N scope s3.heap.objs.size s3 H3 fp) pl H' b := fun {pl H'} epl hn b hb => by
    obtain ⟨f0, f1, f2', f3', f4, f5⟩ := f3 b hb
    subst epl
    exact ⟨hn b hb, Nat.ne_of_lt (fpl b hb), nstk b f1 f2', .inl hb, fun x c q => f4 x c (clsub x c q), fun p hp => f5 p (by simpa using hp)⟩
  have loop : ∀ s4 : Shared, (∃ m, s4 = { s3 with heap := h₁, toks := s3.toks + ([] : List (Str × Value)).length } ∧ h₁.Ns s3.heap.objs.size m) →
      codeAny (model X.prog X.w) X.A (.compLoop (.ListComp elt [⟨tg, iter, ifs, 0⟩] scope pos) 0 (.ref it) (.ref acc) (compEnvC scope (clOf X.env.cells scope.names []) s3.heap.objs.size X.env))
        (compPost (model X.prog X.w) X.A X.xe none (EP X pins σ Q) (.ref acc) s3.heap.objs.size) s4 := by
    rintro s4 ⟨m4, rfl, hn4⟩
    refine comp_loop (E := fun _ _ => False) (fun _ _ z => z.elim)
      (fun n s' => ∃ i σ' ys H', Inv (compCx X pins N scope s3.heap.objs.size s3 H3 fp) [] σ' H' s' ∧ tn i s'.heap ∧ (∀ b ∈ fp, H' b = none) ∧ W i n σ' ys H') ?_ m0
      ⟨0, pick ix σ, [], H3, YI h₁ m4 old hn4, T.keep _ _ _ st3 fun b _ o q => old b o q, fun b hb => (f3 b hb).1, w0⟩
    rintro n s5 ⟨i, σ5, ys, H5, I5, st5, fr5, w5⟩
    obtain ⟨hl5, hstep⟩ := turn i n σ5 ys H5 w5
    rcases hstep with ⟨stop, q⟩ | ⟨go, m', hm', step⟩
    · refine thn (T.done (compCx X pins N scope s3.heap.objs.size s3 H3 fp) rfl rfl rfl hc i [] s5 σ5 H5 (fun _ _ => False) I5 (fpY rfl fr5) st5 stop) fun r s6 ⟨hr, I6⟩ => ?_
      subst hr
      obtain ⟨m6, hn6, _⟩ := I6.loc
      refine ⟨m6, hn6, fun h' sb => ?_⟩
      refine ⟨.ref acc, H5, I3.call' (ch := fp) I6.os (I6.base.letGo (Nat.le_refl _) sb) (I6.hok.letGo I6.free sb) I6.bare fun b hb => ?_, rfl, q⟩
      obtain ⟨f0, f1, f2', f3', f4, f5⟩ := f3 b hb
      exact ⟨f3', f1, f4, f5⟩
    · refine thn (T.item (compCx X pins N scope s3.heap.objs.size s3 H3 fp) rfl rfl rfl hc i [] s5 σ5 H5 (fun _ _ => False) I5 (fpY rfl fr5) st5 go) fun r s6 ⟨u, hr, h6⟩ => ?_
      subst hr
      refine thn h6 fun _ s7 ⟨x, H7, I7, r7, y7, st7, fr7⟩ => ?_
      have I7' := I7.pinned (fpY rfl fr7) (T.obj _ _ st7)
      refine thn (hg pins s3.heap.objs.size s3 H3 fp _ s7 σ5 H7 x u _ I7' r7 (step x H7 y7)) fun _ s8 ⟨σ8, H8, I8, q8⟩ => ?_
      refine thn (wp_tests (ht pins s3.heap.objs.size s3 H3 fp) I8 q8) fun b s9 ⟨H9, I9, q9⟩ => ?_
      have back : ∀ {σz : St} {Hz : Hp} {sz : Shared} {yz : List V}, Inv (compCx X pins N scope s3.heap.objs.size s3 H3 fp) ([] ++ pinsAt fp s7.heap) σz Hz sz → W (i + 1) m' σz yz Hz →
          ∃ m, m < n ∧ ∃ i σ' ys H', Inv (compCx X pins N scope s3.heap.objs.size s3 H3 fp) [] σ' H' sz ∧ tn i sz.heap ∧ (∀ b ∈ fp, H' b = none) ∧ W i m σ' ys H' := fun {σz Hz sz yz} Iz wz => by
        refine ⟨m', hm', i + 1, σz, yz, Hz, Iz.unpinned, T.keep _ _ _ st7 fun b hb o e => (Iz.pin (b, o) (List.mem_append_right _ (List.mem_append_right _ (mem_pinsAt hb e)))).1, fun b hb => ?_, wz⟩
        obtain ⟨o, e, d⟩ := T.obj _ _ st7 b hb
        exact (Iz.pin (b, o) (List.mem_append_right _ (List.mem_append_right _ (mem_pinsAt hb e)))).2.1
      cases b with
      | false => exact back I9 q9
      | true =>
        refine thn (he pins s3.heap.objs.size s3 H3 fp _ s9 σ8 H9 _ I9 q9) fun v s10 ⟨y, H10, I10, r10, hl10, hz10, w10⟩ => ?_
        refine thn (mt_append _ s10 σ8 H10 (.ref acc) [y] (.ref acc) [v] (fun _ H' => H' = upd H10 acc (.lst (ys ++ [y]))) I10 rfl (.cons r10 .nil) ⟨acc, ys, y, rfl, rfl, hl10, hz10, rfl⟩) fun _ s11 ⟨_, H11, I11, _, e11⟩ => ?_
        subst e11
        exact back I11 w10
  have hn4 : ∃ m, h₁.Ns s3.heap.objs.size m := ⟨_, hns₁⟩
  obtain ⟨m4, hn4⟩ := hn4
  have L := loop _ ⟨m4, rfl, hn4⟩
  exact codeAny_compStart_list L (T.self _ 0 _ _ _ (T.keep _ _ _ st3 fun b _ o q => old b o q) L)
end
end L2

namespace L2
open PySem
theorem nne {a b : Nat} (h : @Ne Nat a b) : @Ne Addr a b := h
/-! ### zip over lists and tuples -/
def SrcOf (k : Bool) (h : Heap) (a : Addr) (xs : Array Value) : Prop := match k with | true => h.IsTuple a xs | false => h.IsList a xs
def ItAt (k : Bool) (h : Heap) (it a : Addr) (i : Nat) : Prop := match k with | true => h.IsTupleIter it a i | false => h.IsListIter it a i
def itObj (k : Bool) (a : Addr) : Obj := match k with | true => { cls := .type "tuple_iterator", data := .fields #[.ref a, .int 0 0] } | false => { cls := .type "list_iterator", data := .fields #[.ref a, .int 0 0] }
abbrev IsT (h : Heap) (T : Addr) (vs : Array Value) : Prop := h.get? T = some { cls := .type "tuple", data := .seq vs }
theorem SrcOf.keep {k : Bool} {h h' : Heap} {a : Addr} {xs : Array Value} (x : SrcOf k h a xs) (hk : ∀ o, h.get? a = some o → h'.get? a = some o) : SrcOf k h' a xs := by
  cases k with
  | true => obtain ⟨o, e, r⟩ := x; exact ⟨o, hk o e, r⟩
  | false => obtain ⟨o, e, r⟩ := x; exact ⟨o, hk o e, r⟩
theorem ItAt.keep {k : Bool} {h h' : Heap} {it a : Addr} {i : Nat} (x : ItAt k h it a i) (hk : ∀ o, h.get? it = some o → h'.get? it = some o) : ItAt k h' it a i := by
  cases k with
  | true => obtain ⟨o, e, r⟩ := x; exact ⟨o, hk o e, r⟩
  | false => obtain ⟨o, e, r⟩ := x; exact ⟨o, hk o e, r⟩
theorem ItAt.obj {k : Bool} {h : Heap} {it a : Addr} {i : Nat} (x : ItAt k h it a i) : ∃ o, h.get? it = some o ∧ ∀ v, o.data ≠ .cell v := by
  cases k with
  | true => obtain ⟨o, e, _, d⟩ := x; exact ⟨o, e, fun v z => by rw [d] at z; cases z⟩
  | false => obtain ⟨o, e, _, d⟩ := x; exact ⟨o, e, fun v z => by rw [d] at z; cases z⟩
theorem SrcOf.lt {k : Bool} {h : Heap} {a : Addr} {xs : Array Value} (x : SrcOf k h a xs) : a < h.objs.size := by
  cases k with
  | true => obtain ⟨o, e, _⟩ := x; exact Heap.lt_size e
  | false => obtain ⟨o, e, _⟩ := x; exact Heap.lt_size e
theorem itObj_at {k : Bool} {h : Heap} {it a : Addr} (e : h.get? it = some (itObj k a)) : ItAt k h it a 0 := by
  cases k with
  | true => exact ⟨_, e, rfl, rfl⟩
  | false => exact ⟨_, e, rfl, rfl⟩
section
variable {prog : Program} {w : World} {A : Around} {E : Value → Shared → Prop} {s : Shared}
theorem src_iter {k : Bool} {a : Addr} {xs : Array Value} {Q : Value → Shared → Prop} (h : SrcOf k s.heap a xs) (hQ : Q (.ref s.heap.objs.size) { s with heap := s.heap.push (itObj k a) }) : wpAny (model prog w) A (pyIter (.ref a)) Q E s := by
  cases k with
  | true => exact wpAny_pyIter_tuple h hQ
  | false => exact wpAny_pyIter_list h hQ
theorem nextOf_tuple_item {it t : Addr} {i : Nat} {items} {x : Value} {Q : Value → Shared → Prop} (hit : s.heap.IsTupleIter it t i)
    (ht : s.heap.IsTuple t items) (hx : items[i]? = some x)
    (hQ : ∀ h', h'.IsTupleIter it t (i + 1) → Heap.SameBut it s.heap h' → Q x { s with heap := h' }) :
    wpAny (model prog w) A (Builtin.SmallTypes.nextOf (.ref it)) Q E s := by
  obtain ⟨o, ho, hc, hd⟩ := id hit
  obtain ⟨ol, hol, _, nl, hdl⟩ := ht
  unfold Builtin.SmallTypes.nextOf
  refine wpAny_bind (wpAny_callSpecial?_slot (name := Str.ofString "__next__") hit.typeIs F.slot_tuple_iterator_next
    (wpAny_call_entry F.slot_tuple_iterator_next hit.typeIs F.entry_tuple_iterator_next ?_ (F.args_tuple_iterator_next_1 _)))
  show wpAny _ _ (field (.ref it) 0 >>= _) _ _ s
  refine wpAny_bind (wpAny_field ho hd (x := .ref t) rfl ?_)
  show wpAny _ _ (if (Value.ref t == Value.none) = true then _ else _) _ _ s
  rw [if_neg (show ¬ ((Value.ref t == Value.none) = true) from Bool.false_ne_true)]
  show wpAny _ _ (field (.ref it) 1 >>= _) _ _ s
  refine wpAny_bind (wpAny_field ho hd (x := .int i 0) rfl ?_)
  show wpAny _ _ (seqItems? (.ref t) >>= _) _ _ s
  refine wpAny_bind (wpAny_seqItems hol hdl ?_)
  simp only [Int.toNat_natCast, hx]
  refine wpAny_bind (wpAny_setField ho hd (by simp) (wpAny_pure ⟨x, rfl, wpAny_pure (hQ _ ?_ (Heap.SameBut.update ..))⟩))
  exact ⟨_, Heap.get?_update_self _ ho (Obj.isFreed_of_fields (Obj.data_mapFields hd _)), (Obj.cls_mapFields ..).trans hc, by
    rw [Obj.data_mapFields hd]; simp [rawInt]⟩
theorem nextOf_tuple_end {it t : Addr} {i : Nat} {items} {Q : Value → Shared → Prop} (hh : A.handled = none)
    (hit : s.heap.IsTupleIter it t i) (ht : s.heap.IsTuple t items) (hx : items[i]? = none)
    (hE : ∀ h' e, Heap.ExtBut it s.heap h' → (∃ o, h'.get? e = some o ∧ o.cls = .type "StopIteration") → E (.ref e) { s with heap := h' }) :
    wpAny (model prog w) A (Builtin.SmallTypes.nextOf (.ref it)) Q E s := by
  obtain ⟨o, ho, hc, hd⟩ := id hit
  obtain ⟨ol, hol, _, nl, hdl⟩ := ht
  unfold Builtin.SmallTypes.nextOf
  refine wpAny_bind (wpAny_callSpecial?_slot (name := Str.ofString "__next__") hit.typeIs F.slot_tuple_iterator_next
    (wpAny_call_entry F.slot_tuple_iterator_next hit.typeIs F.entry_tuple_iterator_next ?_ (F.args_tuple_iterator_next_1 _)))
  show wpAny _ _ (field (.ref it) 0 >>= _) _ _ s
  refine wpAny_bind (wpAny_field ho hd (x := .ref t) rfl ?_)
  show wpAny _ _ (if (Value.ref t == Value.none) = true then _ else _) _ _ s
  rw [if_neg (show ¬ ((Value.ref t == Value.none) = true) from Bool.false_ne_true)]
  show wpAny _ _ (field (.ref it) 1 >>= _) _ _ s
  refine wpAny_bind (wpAny_field ho hd (x := .int i 0) rfl ?_)
  show wpAny _ _ (seqItems? (.ref t) >>= _) _ _ s
  refine wpAny_bind (wpAny_seqItems hol hdl ?_)
  simp only [Int.toNat_natCast, hx]
  refine wpAny_bind (wpAny_rule (wpAny_bind (wpAny_setField ho hd (by simp) ?_)))
  show wpAny _ _ (newExc (.type "StopIteration") [] >>= _) _ _ _
  refine wpAny_bind ?_
  simp only [newExc, newTuple]
  refine wpAny_bind (wpAny_newObj_type ?_ (by size_fits))
  refine wpAny_bind (m := firstArgMember _ _) (wpAny_of_eq (a := Value.none) (by first | rfl | (simp only [firstArgMember]; rfl)) ?_)
  refine wpAny_newObj_type ?_ (by size_fits)
  simp only [raiseNew]
  refine wpAny_bind (wpAny_handled ?_)
  first | rw [show A.in1.handled = none from hh] | rw [hh]
  refine wpAny_bind (wpAny_pure (wpAny_throw ?_))
  exact hE _ _ (((Heap.SameBut.update ..).extBut.push _).push _) ⟨_, Heap.get?_push_size _ rfl, rfl⟩
theorem sub_item {k : Bool} {it a : Addr} {i : Nat} {xs : Array Value} {x : Value} {Q : Value → Shared → Prop} (hit : ItAt k s.heap it a i) (hs : SrcOf k s.heap a xs) (hx : xs[i]? = some x)
    (hQ : ∀ h', ItAt k h' it a (i + 1) → Heap.SameBut it s.heap h' → Q x { s with heap := h' }) : wpAny (model prog w) A (Builtin.SmallTypes.nextOf (.ref it)) Q E s := by
  cases k with
  | true => exact nextOf_tuple_item hit hs hx hQ
  | false => exact wpAny_nextOf_list_item hit hs hx hQ
theorem sub_end {k : Bool} {it a : Addr} {i : Nat} {xs : Array Value} {Q : Value → Shared → Prop} (hh : A.handled = none) (hit : ItAt k s.heap it a i) (hs : SrcOf k s.heap a xs) (hx : xs[i]? = none)
    (hE : ∀ h' e, Heap.ExtBut it s.heap h' → (∃ o, h'.get? e = some o ∧ o.cls = .type "StopIteration") → E (.ref e) { s with heap := h' }) : wpAny (model prog w) A (Builtin.SmallTypes.nextOf (.ref it)) Q E s := by
  cases k with
  | true => exact nextOf_tuple_end hh hit hs hx hE
  | false => exact wpAny_nextOf_list_end hh hit hs hx hE
theorem upd_tup {T : Addr} {vs : Array Value} {x : Value} {k : Nat} {Q : Unit → Shared → Prop} (hT : IsT s.heap T vs) (hz : vs.size ≤ 8)
    (h : ∀ h', IsT h' T (vs.setIfInBounds k x) → Heap.SameBut T s.heap h' → Q () { s with heap := h' }) : wpAny (model prog w) A (updateSeq T (·.setIfInBounds k x)) Q E s := by
  have hz2 : vs.size ≤ sizeLine := Nat.le_trans hz (by decide)
  refine wpAny_updateSeq (hz := hz2) (_hz' := by simp only [Array.size_setIfInBounds]; omega) hT rfl (h _ ?_ (Heap.SameBut.update ..))
  show (s.heap.update T _).get? T = _
  rw [Heap.get?_update_self _ hT rfl]
  simp [Obj.mapSeq]
/-- two sources; the iterators at n and n + 1, the owned tuple at n + 3, zip's own object at n + 4 -/
structure Zip2 (k1 k2 : Bool) (n a b : Nat) (i : Nat) (f0 : Value) (h : Heap) : Prop where
  z : IsZip h (n + 4) (n + 2) (n + 3) f0
  ti : IsT h (n + 2) #[.ref n, .ref (n + 1)]
  to : ∃ u v, IsT h (n + 3) #[u, v]
  i1 : ItAt k1 h n a i
  i2 : ItAt k2 h (n + 1) b i
def Off (l : List Addr) (h h' : Heap) : Prop := ∀ c o, c ∉ l → h.get? c = some o → h'.get? c = some o
theorem Off.of {c : Addr} {l : List Addr} {h h' : Heap} (s : Heap.SameBut c h h') (hc : c ∈ l) : Off l h h' := fun b o hb e => (s.2 b fun z => hb (z ▸ hc)).trans e
theorem Off.trans {l : List Addr} {h h1 h2 : Heap} (a : Off l h h1) (b : Off l h1 h2) : Off l h h2 := fun c o hc e => b c o hc (a c o hc e)
theorem Off.push {l : List Addr} {h : Heap} (o : Obj) : Off l h (h.push o) := fun _ _ _ e => Heap.get?_push_of_some _ e
theorem zip2_next {k1 k2 : Bool} {n a b : Nat} {i : Nat} {xs ys : Array Value} {x y : Value} {Q : Value → Shared → Prop} (Z : Zip2 k1 k2 n a b i .none s.heap) (ha : a < n) (hb : b < n)
    (h1 : SrcOf k1 s.heap a xs) (h2 : SrcOf k2 s.heap b ys) (hx : xs[i]? = some x) (hy : ys[i]? = some y)
    (hQ : ∀ h', Zip2 k1 k2 n a b (i + 1) (rawInt s.heap.objs.size) h' → IsT h' s.heap.objs.size #[x, y] → h'.objs.size = s.heap.objs.size + 1 → Off [n, n + 1, n + 3, n + 4] s.heap h' → Q (.ref s.heap.objs.size) { s with heap := h' }) :
    wpAny (model prog w) A (Builtin.«zip.__next__» ⟨[.ref (n + 4)], []⟩) (fun fin s' => ∃ v, fin = .done (.ret v) ∧ Q v s') E s := by
  obtain ⟨hz, hTI, ⟨u, v, hTO⟩, hi1, hi2⟩ := Z
  show wpAny _ _ (field (.ref (n + 4)) 2 >>= _) _ _ _
  refine wpAny_bind (wpAny_field hz rfl (x := .bool false) rfl ?_)
  show wpAny _ _ (field (.ref (n + 4)) 3 >>= _) _ _ _
  refine wpAny_bind (wpAny_field hz rfl (x := .ref (n + 2)) rfl ?_)
  refine wpAny_bind (wpAny_seqItems hTI rfl ?_)
  show wpAny _ _ (Builtin.SmallTypes.ownedTupleIsFree (.ref (n + 4)) >>= _) _ _ _
  refine wpAny_bind ?_
  unfold Builtin.SmallTypes.ownedTupleIsFree
  refine wpAny_bind (wpAny_field hz rfl (x := .none) rfl (wpAny_pure ?_))
  simp only [if_true]
  refine wpAny_bind (wpAny_rule ?_)
  refine wpAny_bind (wpAny_field hz rfl (x := .ref (n + 3)) rfl ?_)
  refine wpAny_bind (wpAny_setField_rec hz (by simp) fun g1 hz1 hs1 => ?_)
  replace hz1 : IsZip g1 (n + 4) (n + 2) (n + 3) .ellipsis := hz1
  refine wpAny_bind ?_
  simp only [List.zipIdx_cons, List.zipIdx_nil, List.forIn_cons, List.forIn_nil]
  refine wpAny_bind (wpAny_bind (wpAny_onRaise ?_))
  show wpAny _ _ (Builtin.SmallTypes.nextOf (.ref n) >>= _) _ _ _
  refine wpAny_bind (sub_item (hi1.keep fun o e => (hs1.2 _ (nne (by omega))).trans e) (h1.keep fun o e => (hs1.2 _ (nne (by omega))).trans e) hx fun g2 hi1' hs2 => wpAny_pure ?_)
  have hTO2 : IsT g2 (n + 3) #[u, v] := (hs2.2 _ (nne (by omega))).trans ((hs1.2 _ (nne (by omega))).trans hTO)
  refine wpAny_bind (wpAny_seqItems hTO2 rfl ?_)
  refine wpAny_bind (upd_tup hTO2 (by simp) fun g3 hTO3 hs3 => ?_)
  replace hTO3 : IsT g3 (n + 3) #[x, v] := hTO3
  refine wpAny_bind (wpAny_letGo (wpAny_pure ?_))
  refine wpAny_bind (wpAny_bind (wpAny_onRaise ?_))
  show wpAny _ _ (Builtin.SmallTypes.nextOf (.ref (n + 1)) >>= _) _ _ _
  refine wpAny_bind (sub_item (hi2.keep fun o e => (hs3.2 _ (nne (by omega))).trans ((hs2.2 _ (nne (by omega))).trans ((hs1.2 _ (nne (by omega))).trans e))) (h2.keep fun o e => (hs3.2 _ (nne (by omega))).trans ((hs2.2 _ (nne (by omega))).trans ((hs1.2 _ (nne (by omega))).trans e))) hy fun g4 hi2' hs4 => wpAny_pure ?_)
  have hTO4 : IsT g4 (n + 3) #[x, v] := (hs4.2 _ (nne (by omega))).trans hTO3
  refine wpAny_bind (wpAny_seqItems hTO4 rfl ?_)
  refine wpAny_bind (upd_tup hTO4 (by simp) fun g5 hTO5 hs5 => ?_)
  replace hTO5 : IsT g5 (n + 3) #[x, y] := hTO5
  refine wpAny_bind (wpAny_letGo (wpAny_pure (wpAny_pure ?_)))
  refine wpAny_bind (wpAny_seqItems hTO5 rfl ?_)
  refine wpAny_bind (wpAny_newTuple ?_)
  have hsz : g5.objs.size = s.heap.objs.size := by rw [hs5.1, hs4.1, hs3.1, hs2.1, hs1.1]
  have hz5 : IsZip g5 (n + 4) (n + 2) (n + 3) .ellipsis := (hs5.2 _ (nne (by omega))).trans ((hs4.2 _ (nne (by omega))).trans ((hs3.2 _ (nne (by omega))).trans ((hs2.2 _ (nne (by omega))).trans hz1)))
  have off5 : Off [n, n + 1, n + 3, n + 4] s.heap g5 := ((((Off.of hs1 (by simp)).trans (Off.of hs2 (by simp))).trans (Off.of hs3 (by simp))).trans (Off.of hs4 (by simp))).trans (Off.of hs5 (by simp))
  have hzlt : n + 4 < g5.objs.size := Heap.lt_size hz5
  show wpAny _ _ (Builtin.SmallTypes.ownedTupleHandOut (.ref (n + 4)) (.ref g5.objs.size) >>= _) _ _ _
  refine wpAny_bind ?_
  unfold Builtin.SmallTypes.ownedTupleHandOut
  have hz6 : IsZip (g5.push { cls := .type "tuple", data := .seq #[x, y] }) (n + 4) (n + 2) (n + 3) .ellipsis := Heap.get?_push_of_some _ hz5
  refine wpAny_bind (wpAny_setField_rec hz6 (by simp) fun g7 hz7 hs7 => ?_)
  replace hz7 : IsZip g7 (n + 4) (n + 2) (n + 3) (rawInt g5.objs.size) := hz7
  refine wpAny_setField_rec hz7 (by simp) fun g8 hz8 hs8 => ?_
  replace hz8 : IsZip g8 (n + 4) (n + 2) (n + 3) (rawInt g5.objs.size) := hz8
  have up : ∀ c o, c ≠ n + 4 → g5.get? c = some o → g8.get? c = some o := fun c o c1 e => (hs8.2 _ c1).trans ((hs7.2 _ c1).trans (Heap.get?_push_of_some _ e))
  have hT8 : IsT g8 g5.objs.size #[x, y] := (hs8.2 _ (Nat.ne_of_gt hzlt)).trans ((hs7.2 _ (Nat.ne_of_gt hzlt)).trans (Heap.get?_push_size _ rfl))
  have hz8' : g8.objs.size = g5.objs.size + 1 := by rw [hs8.1, hs7.1, Heap.size_push]
  rw [hsz] at hz8 hT8 hz8'
  refine wpAny_pure ⟨_, rfl, ?_⟩
  show Q (.ref g5.objs.size) _
  rw [hsz]
  refine hQ g8 ⟨hz8, up _ _ (nne (by omega)) (off5 _ _ (by simp) hTI), ⟨x, y, up _ _ (nne (by omega)) hTO5⟩, ?_, ?_⟩ hT8 hz8' fun c o hc e => ?_
  · exact hi1'.keep fun o e => up _ o (nne (by omega)) ((hs5.2 _ (nne (by omega))).trans ((hs4.2 _ (nne (by omega))).trans ((hs3.2 _ (nne (by omega))).trans e)))
  · exact hi2'.keep fun o e => up _ o (nne (by omega)) ((hs5.2 _ (nne (by omega))).trans e)
  · exact up c o (fun z => hc (by simp [z])) (off5 c o hc e)
theorem zip2_stop {k1 k2 : Bool} {n a b : Nat} {i : Nat} {xs ys : Array Value} {Q : Fin → Shared → Prop} (hh : A.handled = none) (Z : Zip2 k1 k2 n a b i .none s.heap) (ha : a < n) (hb : b < n)
    (h1 : SrcOf k1 s.heap a xs) (h2 : SrcOf k2 s.heap b ys) (hend : xs[i]? = none ∨ ys[i]? = none)
    (hE : ∀ h' e, Off [n, n + 1, n + 3, n + 4] s.heap h' → (∃ o, h'.get? e = some o ∧ o.cls = .type "StopIteration") → E (.ref e) { s with heap := h' }) :
    wpAny (model prog w) A (Builtin.«zip.__next__» ⟨[.ref (n + 4)], []⟩) Q E s := by
  obtain ⟨hz, hTI, ⟨u, v, hTO⟩, hi1, hi2⟩ := Z
  show wpAny _ _ (field (.ref (n + 4)) 2 >>= _) _ _ _
  refine wpAny_bind (wpAny_field hz rfl (x := .bool false) rfl ?_)
  show wpAny _ _ (field (.ref (n + 4)) 3 >>= _) _ _ _
  refine wpAny_bind (wpAny_field hz rfl (x := .ref (n + 2)) rfl ?_)
  refine wpAny_bind (wpAny_seqItems hTI rfl ?_)
  show wpAny _ _ (Builtin.SmallTypes.ownedTupleIsFree (.ref (n + 4)) >>= _) _ _ _
  refine wpAny_bind ?_
  unfold Builtin.SmallTypes.ownedTupleIsFree
  refine wpAny_bind (wpAny_field hz rfl (x := .none) rfl (wpAny_pure ?_))
  simp only [if_true]
  refine wpAny_bind (wpAny_rule ?_)
  refine wpAny_bind (wpAny_field hz rfl (x := .ref (n + 3)) rfl ?_)
  refine wpAny_bind (wpAny_setField_rec hz (by simp) fun g1 hz1 hs1 => ?_)
  replace hz1 : IsZip g1 (n + 4) (n + 2) (n + 3) .ellipsis := hz1
  refine wpAny_bind ?_
  simp only [List.zipIdx_cons, List.zipIdx_nil, List.forIn_cons, List.forIn_nil]
  refine wpAny_bind (wpAny_bind (wpAny_onRaise ?_))
  show wpAny _ _ (Builtin.SmallTypes.nextOf (.ref n) >>= _) _ _ _
  have fin : ∀ {g h' : Heap} {e : Addr}, IsZip g (n + 4) (n + 2) (n + 3) .ellipsis → (∃ o, g.get? e = some o ∧ o.cls = .type "StopIteration") → Off [n, n + 1, n + 3, n + 4] s.heap g → ∀ s' : Shared, s' = { s with heap := g } →
      wpAny (model prog w) A (setField (.ref (n + 4)) 0 .none) (fun _ s' => E (.ref e) s') E s' := by
    intro g h' e hzg ⟨oe, hoe, hce⟩ off s' es
    subst es
    have hez : e ≠ n + 4 := fun z => by subst z; rw [hzg] at hoe; cases hoe; simp at hce
    exact wpAny_setField_rec hzg (by simp) fun g9 _ hs9 => hE g9 e (off.trans (Off.of hs9 (by simp))) ⟨oe, (hs9.2 _ hez).trans hoe, hce⟩
  cases hx : xs[i]? with
  | none =>
    refine wpAny_bind (sub_end hh (hi1.keep fun o e => (hs1.2 _ (nne (by omega))).trans e) (h1.keep fun o e => (hs1.2 _ (nne (by omega))).trans e) hx fun g2 e hs2 he => ?_)
    exact fin (h' := g2) (hs2 _ _ (nne (by omega)) hz1) he ((Off.of hs1 (by simp)).trans fun c o hc q => hs2 c o (fun z => hc (by simp [z])) q) _ rfl
  | some x =>
    have hy : ys[i]? = none := by rcases hend with h | h; rw [hx] at h; cases h; exact h
    refine wpAny_bind (sub_item (hi1.keep fun o e => (hs1.2 _ (nne (by omega))).trans e) (h1.keep fun o e => (hs1.2 _ (nne (by omega))).trans e) hx fun g2 hi1' hs2 => wpAny_pure ?_)
    have hTO2 : IsT g2 (n + 3) #[u, v] := (hs2.2 _ (nne (by omega))).trans ((hs1.2 _ (nne (by omega))).trans hTO)
    refine wpAny_bind (wpAny_seqItems hTO2 rfl ?_)
    refine wpAny_bind (upd_tup hTO2 (by simp) fun g3 hTO3 hs3 => ?_)
    refine wpAny_bind (wpAny_letGo (wpAny_pure ?_))
    refine wpAny_bind (wpAny_bind (wpAny_onRaise ?_))
    show wpAny _ _ (Builtin.SmallTypes.nextOf (.ref (n + 1)) >>= _) _ _ _
    refine wpAny_bind (sub_end hh (hi2.keep fun o e => (hs3.2 _ (nne (by omega))).trans ((hs2.2 _ (nne (by omega))).trans ((hs1.2 _ (nne (by omega))).trans e))) (h2.keep fun o e => (hs3.2 _ (nne (by omega))).trans ((hs2.2 _ (nne (by omega))).trans ((hs1.2 _ (nne (by omega))).trans e))) hy fun g4 e hs4 he => ?_)
    exact fin (h' := g4) (hs4 _ _ (nne (by omega)) ((hs3.2 _ (nne (by omega))).trans ((hs2.2 _ (nne (by omega))).trans hz1))) he ((((Off.of hs1 (by simp)).trans (Off.of hs2 (by simp))).trans (Off.of hs3 (by simp))).trans fun c o hc q => hs4 c o (fun z => hc (by simp [z])) q) _ rfl
theorem pyNext_zip2 {k1 k2 : Bool} {n a b : Nat} {i : Nat} {xs ys : Array Value} {x y : Value} {Q : Option Value → Shared → Prop} (Z : Zip2 k1 k2 n a b i .none s.heap) (ha : a < n) (hb : b < n)
    (h1 : SrcOf k1 s.heap a xs) (h2 : SrcOf k2 s.heap b ys) (hx : xs[i]? = some x) (hy : ys[i]? = some y)
    (hQ : ∀ h', Zip2 k1 k2 n a b (i + 1) (rawInt s.heap.objs.size) h' → IsT h' s.heap.objs.size #[x, y] → h'.objs.size = s.heap.objs.size + 1 → Off [n, n + 1, n + 3, n + 4] s.heap h' → Q (some (.ref s.heap.objs.size)) { s with heap := h' }) :
    wpAny (model prog w) A (pyNext (.ref (n + 4))) Q E s := by
  have hT : s.TypeIs (.ref (n + 4)) "zip" := ⟨_, Z.z, rfl⟩
  unfold pyNext
  exact wpAny_bind (wpAny_attempt (wpAny_callSpecial?_slot (name := Str.ofString "__next__") hT F.slot_zip_next
    (wpAny_call_entry F.slot_zip_next hT F.entry_zip_next
      (zip2_next Z ha hb h1 h2 hx hy fun h' a1 a2 a3 a4 => wpAny_pure (hQ h' a1 a2 a3 a4)) (F.args_zip_next_1 _))))
theorem pyNext_zip2_end {k1 k2 : Bool} {n a b : Nat} {i : Nat} {xs ys : Array Value} {Q : Option Value → Shared → Prop} (hh : A.handled = none) (Z : Zip2 k1 k2 n a b i .none s.heap) (ha : a < n) (hb : b < n)
    (h1 : SrcOf k1 s.heap a xs) (h2 : SrcOf k2 s.heap b ys) (hend : xs[i]? = none ∨ ys[i]? = none)
    (hQ : ∀ h', Off [n, n + 1, n + 3, n + 4] s.heap h' → Q none { s with heap := h' }) : wpAny (model prog w) A (pyNext (.ref (n + 4))) Q E s := by
  have hT : s.TypeIs (.ref (n + 4)) "zip" := ⟨_, Z.z, rfl⟩
  unfold pyNext
  refine wpAny_bind (wpAny_attempt (wpAny_callSpecial?_slot (name := Str.ofString "__next__") hT F.slot_zip_next
    (wpAny_call_entry F.slot_zip_next hT F.entry_zip_next (zip2_stop (A := A.in1) hh Z ha hb h1 h2 hend fun h' e hk he => ?_) (F.args_zip_next_1 _))))
  obtain ⟨o, ho, hc⟩ := he
  refine wpAny_bind (wpAny_isInstance (T := "StopIteration") (b := true) ⟨o, ho, hc⟩ isSubtype_stop ?_)
  exact wpAny_pure (hQ _ hk)
end
abbrev zh5 (k1 k2 : Bool) (h : Heap) (a b : Addr) : Heap := ((((h.push (itObj k1 a)).push (itObj k2 b)).push { cls := .type "tuple", data := .seq #[.ref h.objs.size, .ref (h.objs.size + 1)] }).push { cls := .type "tuple", data := .seq #[.none, .none] }).push
  { cls := .type "zip", data := .fields #[.none, .bool false, .bool false, .ref (h.objs.size + 2), .ref (h.objs.size + 3)] }
theorem zip2_made (k1 k2 : Bool) (a b : Addr) (xs ys : Array Value) :
    Meets (Builtin.«zip.__new__» ⟨[.type "zip", .ref a, .ref b], []⟩) (fun _ R s => SrcOf k1 s.heap a xs ∧ SrcOf k2 s.heap b ys ∧
      R (.ok (.ret (.ref (s.heap.objs.size + 4)))) { s with heap := zh5 k1 k2 s.heap a b }) :=
  .of_wp fun prog w A R s h => by
    obtain ⟨hp, g, d, tk, os⟩ := s; obtain ⟨hl1, hl2, h⟩ := h
    have hsub := sub_zip
    have hL1 : SrcOf k1 (Shared.heap ⟨hp, g, d, tk, os⟩) a xs := hl1
    have hL2 : SrcOf k2 (Shared.heap ⟨hp.push (itObj k1 a), g, d, tk, os⟩) b ys := SrcOf.keep hl2 fun o e => Heap.get?_push_of_some _ e
    wp_walk using src_iter hL1, src_iter hL2
    refine ⟨_, rfl, ?_⟩
    simp only [Heap.size_push]
    exact h
end L2

namespace L2
open PySem PySem.Spec PyProof.Rows
/-! ### zip as what a loop walks -/
def Sq (k : Bool) (K : PySem.W.Frag) (H : Hp) (a : Addr) (xs : List V) : Prop := match k with | true => SqT K H a xs | false => SqL K H a xs
section
variable {X : Cx} {pins : List (Addr × Obj)} {σ : St} {H H' : Hp} {s : Shared}
theorem Inv.sq {k : Bool} {a : Addr} {xs : List V} (I : Inv X pins σ H s) (h : Sq k X.K H a xs) : ∃ its : List Value, Vals xs its ∧ SrcOf k s.heap a its.toArray ∧ xs.length ≤ sizeLine := by
  cases k with
  | true => exact I.tuple h
  | false =>
    obtain ⟨its, r, p, z⟩ := I.list h
    exact ⟨its, r, p.isList, z⟩
theorem Inv.sq_inj {k : Bool} {a : Addr} {xs ys : List V} (I : Inv X pins σ H s) (h : Sq k X.K H a xs) (h' : Sq k X.K H a ys) : xs = ys := by
  cases k with
  | true => exact I.tuple_inj h h'
  | false => exact I.list_inj h h'
/-- several untracked records of ours have turned, an object may have been laid -/
theorem Inv.off {h' : Heap} {t' : Nat} {ch : List Addr} (I : Inv X pins σ H s) (hf : ∀ b ∈ ch, FpOk X pins H b) (off : Off ch s.heap h') (hok : HOk X.prog X.w H' h')
    (free : ∀ b o, b ∉ ch → s.heap.get? b = some o → H b = none → H' b = none) (same : ∀ b o, H b = some o → H' b = some o) : Inv X pins σ H' { s with heap := h', toks := t' } := by
  refine I.step (g' := s.gens) (d' := s.drawn) (ch := ch) (fun b hb => ?_) (fun b o _ _ hc e _ => off b o hc e) (fun b o _ _ hc e _ => ⟨o.slots, off b o hc e⟩) (fun b o hc e n => free b o hc e n) (fun b o hc e => ⟨o, off b o hc e⟩)
    (fun b xs e => same b _ e) (fun b o u e => same b _ e) (fun b ps e => ⟨#[], by rw [same b _ e]; simp⟩) (fun m hm => ?_) hok I.bare
  · obtain ⟨f0, f1, f2, f3, f4, f5⟩ := hf b hb
    exact ⟨f3, f1, f4, f5⟩
  · obtain ⟨o, es, ep, ho, r⟩ := hm
    exact ⟨o, es, ep, off _ o (fun z => (hf _ z).2.1 rfl) ho, r⟩
theorem HOk.off {P : Program} {w : World} {h h' : Heap} {ch : List Addr} (x : HOk P w H h) (hn : ∀ b ∈ ch, H b = none) (off : Off ch h h') : HOk P w H h' := fun a o e => by
  have na : ∀ b u, H b = some u → b ∉ ch := fun b u q z => by rw [hn b z] at q; cases q
  refine (x a o e).stay (fun b u hb q => off b u ?_ q) (fun _ q => q) fun _ _ q => q
  rcases hb with rfl | hb
  · exact na _ _ e
  · exact na _ _ hb
theorem HOk.offNew {P : Program} {w : World} {h h' : Heap} {ch : List Addr} {T : Addr} {ob : HO} (x : HOk P w H h) (hn : ∀ b ∈ ch, H b = none) (off : Off ch h h') (hT : h.objs.size ≤ T) (new : ObjOk P w (upd H T ob) h' T ob) : HOk P w (upd H T ob) h' := fun a o e => by
  have hTn := x.fresh hT
  have na : ∀ b u, H b = some u → b ∉ ch := fun b u q z => by rw [hn b z] at q; cases q
  by_cases ha : a = T
  · subst ha; rw [upd_same] at e; cases e; exact new
  · rw [upd_ne ha] at e
    refine (x a o e).stay (fun b u hb q => off b u ?_ q) (fun c q => by rw [upd_ne (ne_of_none q hTn)]; exact q) fun c xs q => by rw [upd_ne (ne_of_none q hTn)]; exact q
    rcases hb with rfl | hb
    · exact na _ _ e
    · exact na _ _ hb
end
theorem off_mem {c : Addr} {n : Nat} (z : c ∈ ([n, n + 1, n + 3, n + 4] : List Addr)) : c ∈ ([n + 4, n + 2, n + 3, n, n + 1] : List Addr) := by
  simp only [List.mem_cons, List.not_mem_nil, or_false] at z ⊢
  rcases z with h | h | h | h <;> simp [h]
/-- pairs of two sequences -/
def Itz (K : PySem.W.Frag) (k1 k2 : Bool) (a b : Addr) : It :=
  ⟨fun i H => ∃ xs ys x y, Sq k1 K H a xs ∧ Sq k2 K H b ys ∧ xs[i]? = some x ∧ ys[i]? = some y,
   fun i H v H' => ∃ p x y, v = .ref p ∧ H p = none ∧ (∀ xs, Sq k1 K H a xs → xs[i]? = some x) ∧ (∀ ys, Sq k2 K H b ys → ys[i]? = some y) ∧ H' = upd H p (.tup [x, y]),
   fun i H => ∃ xs ys, Sq k1 K H a xs ∧ Sq k2 K H b ys ∧ (xs.length ≤ i ∨ ys.length ≤ i)⟩
theorem turn_zip2 {P : Program} {w : World} {K : PySem.W.Frag} {es : List Expr} {kk : Nat} {pos : Pos} {k1 k2 : Bool} (n a b : Nat) (ha : a < n) (hb : b < n) :
    Turn P w K (.Tuple es kk pos) (Itz K k1 k2 a b) [n + 4, n + 2, n + 3, n, n + 1] (n + 4) (fun i h => Zip2 k1 k2 n a b i .none h) where
  mem := by simp
  obj := fun i h st c hc => by
    obtain ⟨hz, hTI, ⟨u, v, hTO⟩, hi1, hi2⟩ := st
    simp only [List.mem_cons, List.not_mem_nil, or_false] at hc
    rcases hc with rfl | rfl | rfl | rfl | rfl
    · exact ⟨_, hz, fun v z => nomatch z⟩
    · exact ⟨_, hTI, fun v z => nomatch z⟩
    · exact ⟨_, hTO, fun v z => nomatch z⟩
    · exact hi1.obj
    · exact hi2.obj
  keep := fun i h h' st k => by
    obtain ⟨hz, hTI, ⟨u, v, hTO⟩, hi1, hi2⟩ := st
    exact ⟨k _ (by simp) _ hz, k _ (by simp) _ hTI, ⟨u, v, k _ (by simp) _ hTO⟩, hi1.keep fun o e => k _ (by simp) o e, hi2.keep fun o e => k _ (by simp) o e⟩
  item := by
    intro X hP hw hK hc i pins s σ H E I hf st hg
    subst hP hw hK
    obtain ⟨xs, ys, x, y, qx, qy, ex, ey⟩ := hg
    obtain ⟨is1, r1, s1, _⟩ := I.sq qx
    obtain ⟨is2, r2, s2, _⟩ := I.sq qy
    obtain ⟨u, hu, ru⟩ := r1.get ex
    obtain ⟨v, hv, rv⟩ := r2.get ey
    refine pyNext_zip2 st ha hb s1 s2 (x := u) (y := v) (by simpa using hu) (by simpa using hv) fun h' Z hT hsz off => ⟨_, rfl, ?_⟩
    have hTn : H s.heap.objs.size = none := I.hok.fresh (Nat.le_refl _)
    have zlt : n + 4 < s.heap.objs.size := Heap.lt_size st.z
    refine wpAny_letOwnedTupleGo_zip Z.z fun h2 hz2 hs2 => ?_
    have off2 : Off [n + 4, n + 2, n + 3, n, n + 1] s.heap h2 := fun c o hc e => (hs2.2 c fun z => hc (by simp [z])).trans (off c o (fun z => hc (off_mem z)) e)
    have hT2 : IsT h2 s.heap.objs.size #[u, v] := (hs2.2 _ (Nat.ne_of_gt zlt)).trans hT
    refine ⟨.ref s.heap.objs.size, upd H s.heap.objs.size (.tup [x, y]), ?_, rfl, ⟨_, x, y, rfl, hTn, fun zs hzs => by rw [I.sq_inj hzs qx]; exact ex, fun zs hzs => by rw [I.sq_inj hzs qy]; exact ey, rfl⟩, ?_, fun c hc => ?_⟩
    · refine Inv.off (s := s) (h' := h2) (t' := s.toks) (ch := [n + 4, n + 2, n + 3, n, n + 1]) I hf off2 (I.hok.offNew (fun c hc => (hf c hc).1) off2 (Nat.le_refl _) ?_) (fun c o _ e hn => ?_) fun c o e => ?_
      · exact ⟨by show 2 ≤ sizeLine; decide, [u, v], .cons ru (.cons rv .nil), ⟨_, hT2, rfl, _, rfl⟩⟩
      · rw [upd_ne (Nat.ne_of_lt (Heap.lt_size e))]; exact hn
      · rw [upd_ne (ne_of_none e hTn)]; exact e
    · obtain ⟨z1, z2, ⟨a1, a2, z3⟩, z4, z5⟩ := Z
      exact ⟨hz2, (hs2.2 _ (nne (by omega))).trans z2, ⟨a1, a2, (hs2.2 _ (nne (by omega))).trans z3⟩, z4.keep fun o e => (hs2.2 _ (nne (by omega))).trans e, z5.keep fun o e => (hs2.2 _ (nne (by omega))).trans e⟩
    · have cn : c ≠ s.heap.objs.size := by
        simp only [List.mem_cons, List.not_mem_nil, or_false] at hc
        rcases hc with rfl | rfl | rfl | rfl | rfl <;> exact nne (by omega)
      rw [upd_ne cn]; exact (hf c hc).1
  done := by
    intro X hP hw hK hc i pins s σ H E I hf st hg
    subst hP hw hK
    obtain ⟨xs, ys, qx, qy, hend⟩ := hg
    obtain ⟨is1, r1, s1, _⟩ := I.sq qx
    obtain ⟨is2, r2, s2, _⟩ := I.sq qy
    have e1 := r1.length
    have e2 := r2.length
    refine pyNext_zip2_end (I.ok.hd hc) st ha hb s1 s2 ?_ fun h' off => ⟨rfl, ?_⟩
    · rcases hend with z | z
      · exact .inl (by simp; omega)
      · exact .inr (by simp; omega)
    · have off2 : Off [n + 4, n + 2, n + 3, n, n + 1] s.heap h' := fun c o hc e => off c o (fun z => hc (off_mem z)) e
      exact Inv.off (s := s) (t' := s.toks) I hf off2 (I.hok.off (fun c hc => (hf c hc).1) off2) (fun _ _ _ _ q => q) fun _ _ q => q
  self := fun _ _ _ _ _ st h => wpAny_pyIter_zip st.z h
section
variable {X : Cx}
def iZip2 (K : PySem.W.Frag) (k1 k2 : Bool) (ta : TA) : TI := fun σ H R => ta σ H fun vs H1 => ∃ a b, vs = [.ref a, .ref b] ∧ (∃ xs, Sq k1 K H1 a xs) ∧ (∃ ys, Sq k2 K H1 b ys) ∧ R (Itz K k1 k2 a b) H1
theorem pi_zip2 (k1 k2 : Bool) {es : List Expr} {kk : Nat} {tpos : Pos} {a b : Expr} {ta : TA} {p pos : Pos} (hg : Gl X "zip") (hm : X.mg "zip" = none) (ha : PA X [a, b] ta) (hs : starEach [a, b] X.env = [(false, eval a X.env), (false, eval b X.env)] := by rfl) (hs2 : starEach [b] X.env = [(false, eval b X.env)] := by rfl) :
    PI X (.Tuple es kk tpos) (.Call (.Name "zip" p) [a, b] [] pos) (iZip2 X.K k1 k2 ta) := by
  intro pins s σ H R I h
  refine Call_ (ld_blt I hg hm boot_zip (PyProof.Rows.callWith_type1 (thn (ha pos pins s σ H _ I h) fun us s1 ⟨vs, H1, I1, r1, q1⟩ => ?_) (by rw [hs, hs2]) (by rw [hs2]; rfl)))
  obtain ⟨a', b', e, ⟨xs, qx⟩, ⟨ys, qy⟩, q⟩ := q1
  subst e
  obtain ⟨u, v, rfl, ru, rv⟩ := vals2 r1
  cases ru
  cases rv
  obtain ⟨is1, r1, s1', _⟩ := I1.sq qx
  obtain ⟨is2, r2, s2', _⟩ := I1.sq qy
  refine callType_new PySem.F.called_zip (by decide) (PySem.F.typeCall_zip_2 _ _) (PySem.F.newCall_zip_2 _ _) (fun obj => PySem.F.args_object_init_3 obj _ _) PySem.F.entry_zip_new (zip2_made k1 k2 a' b' is1.toArray is2.toArray) ⟨s1', s2', ?_⟩
  have z1 : (s1.heap.push (itObj k1 a')).objs.size = s1.heap.objs.size + 1 := Heap.size_push ..
  have z2 : ((s1.heap.push (itObj k1 a')).push (itObj k2 b')).objs.size = s1.heap.objs.size + 2 := by rw [Heap.size_push, z1]
  have z3 : (((s1.heap.push (itObj k1 a')).push (itObj k2 b')).push { cls := .type "tuple", data := .seq #[.ref s1.heap.objs.size, .ref (s1.heap.objs.size + 1)] }).objs.size = s1.heap.objs.size + 3 := by rw [Heap.size_push, z2]
  have z4 : ((((s1.heap.push (itObj k1 a')).push (itObj k2 b')).push { cls := .type "tuple", data := .seq #[.ref s1.heap.objs.size, .ref (s1.heap.objs.size + 1)] }).push { cls := .type "tuple", data := .seq #[.none, .none] }).objs.size = s1.heap.objs.size + 4 := by rw [Heap.size_push, z3]
  have g5 : (zh5 k1 k2 s1.heap a' b').get? (s1.heap.objs.size + 4) = some { cls := .type "zip", data := .fields #[.none, .bool false, .bool false, .ref (s1.heap.objs.size + 2), .ref (s1.heap.objs.size + 3)] } := by rw [← z4]; exact Heap.get?_push_size _ rfl
  have g4 : (zh5 k1 k2 s1.heap a' b').get? (s1.heap.objs.size + 3) = some { cls := .type "tuple", data := .seq #[.none, .none] } := by rw [← z3]; exact Heap.get?_push_of_some _ (Heap.get?_push_size _ rfl)
  have g3 : (zh5 k1 k2 s1.heap a' b').get? (s1.heap.objs.size + 2) = some { cls := .type "tuple", data := .seq #[.ref s1.heap.objs.size, .ref (s1.heap.objs.size + 1)] } := by rw [← z2]; exact Heap.get?_push_of_some _ (Heap.get?_push_of_some _ (Heap.get?_push_size _ rfl))
  have g2 : (zh5 k1 k2 s1.heap a' b').get? (s1.heap.objs.size + 1) = some (itObj k2 b') := by rw [← z1]; exact Heap.get?_push_of_some _ (Heap.get?_push_of_some _ (Heap.get?_push_of_some _ (Heap.get?_push_size _ (by cases k2 <;> rfl))))
  have g1 : (zh5 k1 k2 s1.heap a' b').get? s1.heap.objs.size = some (itObj k1 a') := Heap.get?_push_of_some _ (Heap.get?_push_of_some _ (Heap.get?_push_of_some _ (Heap.get?_push_of_some _ (Heap.get?_push_size _ (by cases k1 <;> rfl)))))
  have old : ∀ c o, s1.heap.get? c = some o → (zh5 k1 k2 s1.heap a' b').get? c = some o := fun c o x => Heap.get?_push_of_some _ (Heap.get?_push_of_some _ (Heap.get?_push_of_some _ (Heap.get?_push_of_some _ (Heap.get?_push_of_some _ x))))
  have Z : Zip2 k1 k2 s1.heap.objs.size a' b' 0 .none (zh5 k1 k2 s1.heap a' b') := ⟨g5, g3, ⟨_, _, g4⟩, itObj_at g1, itObj_at g2⟩
  show _ ∧ _
  refine ⟨⟨_, g5, rfl⟩, wpAny_pyIter_zip Z.z ?_⟩
  refine ⟨_, _, _, _, H1, rfl, I1.kept (t' := s1.toks) old, turn_zip2 s1.heap.objs.size a' b' s1'.lt s2'.lt, Z, fun c hc => ?_, q⟩
  have hcl : s1.heap.objs.size ≤ c := by
    simp only [List.mem_cons, List.not_mem_nil, or_false] at hc
    rcases hc with rfl | rfl | rfl | rfl | rfl <;> first | exact Nat.le_add_right _ _ | exact Nat.le_refl _
  exact I1.fpOk hcl (I1.hok.fresh hcl)
end
end L2

namespace L2
open PySem PySem.Spec PyProof.Rows
/-! ### larger ints -/
def bitsI (i : Int) : Nat := Builtin.Int.intBits i
def CMulB (i j : Int) : Prop := bitsI i + bitsI j ≤ 1000000
theorem CMulB.ok {i j : Int} (h : CMulB i j) : IntMulOk i j := by
  unfold IntMulOk
  intro z
  simp only [Bool.and_eq_true, decide_eq_true_eq] at z
  have z2 := z.2
  unfold Builtin.Int.intTooBig at z2
  have h' : Builtin.Int.intBits i + Builtin.Int.intBits j ≤ 1000000 := h
  have b : (1000000 : Int) ≤ bitsLine := by decide
  simp only [decide_eq_true_eq] at z2
  omega
def CDivB (i j : Int) : Prop := 0 < j ∧ j.natAbs.log2 < 9000
def CShlB (i j : Int) : Prop := 0 ≤ j ∧ (bitsI i : Int) + j ≤ 1000000
section
variable {X : Cx}
theorem op_mulB : OpR X (binaryOp .Mult) (rI CMulB fun i j => .int (i * j)) := opI fun _ _ _ _ _ _ _ hc q => mul_int q hc.ok
theorem op_fdivB : OpR X (binaryOp .FloorDiv) (rI CDivB fun i j => .int (i / j)) := opI fun i j _ _ _ _ _ hc q => by
  have h1 : (0 : Int) < j := hc.1
  exact floordiv_int (by omega) (by rw [Int.fdiv_eq_ediv_of_nonneg i (by omega)]; exact q) (.inl (PyProof.noPylong_of_log2 hc.2))
theorem op_shlB : OpR X (binaryOp .LShift) (rI CShlB fun i j => .int (i * 2 ^ j.toNat)) := opI fun i j _ _ _ _ _ hc q => lshift_int hc.1 (by have h := hc.2; unfold bitsI at h; omega) q
/-- n.bit_length() -/
theorem mt_bitlen : MtR X "int.bit_length" (fun x xs H Q => ∃ i, x = .int i ∧ xs = [] ∧ Q (.int (bitsI i)) H) := by
  intro pins s σ H x xs v us Q I rx rs h
  obtain ⟨i, rfl, rfl, q⟩ := h
  obtain ⟨t, rfl⟩ := rx
  cases rs
  exact call_int_bit_length ⟨.int (bitsI i), H, I.tok _, ⟨_, rfl⟩, q⟩
/-! ### isinstance -/
/-- the type of a value: TyOf, and a module's own sequences -/
def TyR (K : PySem.W.Frag) (H : Hp) (x : V) (t : Value) : Prop := TyOf K H x t ∨ (∃ a xs, x = .ref a ∧ SqT K H a xs ∧ t = .type "tuple") ∨ (∃ a xs, x = .ref a ∧ SqL K H a xs ∧ t = .type "list")
theorem call_isinst : CallR X (.builtin "isinstance") (fun xs H Q => ∃ x n t b, xs = [x, .ty n] ∧ TyR X.K H x t ∧ PySem.W.kitOne X.K t (.type n) = some b ∧ Q (.bl b) H) := by
  intro pins s σ H xs us Q I r h
  obtain ⟨x, n, t, b, rfl, ty, e, q⟩ := h
  obtain ⟨u, c, rfl, ru, rc⟩ := vals2 r
  obtain rfl : c = Value.type n := rc
  have fin : ∀ tk, EP X pins σ Q (.bool b) { s with toks := tk } := fun tk => ⟨.bl b, H, I.tok tk, rfl, q⟩
  rcases ty with ty | ⟨a, ys, rfl, hs, rfl⟩ | ⟨a, ys, rfl, hs, rfl⟩
  · exact isinst_ok I ru ty e fin
  · obtain rfl : u = Value.ref a := ru
    obtain ⟨its, _, p, _⟩ := I.tuple hs
    obtain ⟨o, h1, h2, _⟩ := p
    exact PySem.W.kia_one PySem.W.kitx_tuple I.kIn ⟨o, h1, h2⟩ e (fun z => nomatch z) fin
  · obtain rfl : u = Value.ref a := ru
    obtain ⟨its, _, p, _⟩ := I.list hs
    obtain ⟨o, n', h1, h2, _⟩ := p
    exact PySem.W.kia_one PySem.W.kitx_list I.kIn ⟨o, h1, h2⟩ e (fun z => nomatch z) fin
end
theorem kit_same (K : PySem.W.Frag) (t : Value) : PySem.W.kitOne K t t = some true := by
  unfold PySem.W.kitOne
  rw [if_pos (by simp)]
/-! ### == of tuples of ints -/
def rEqT (K : PySem.W.Frag) : R2 := fun x y H Q => ∃ (a b : Addr) (ns ms : List Int), x = .ref a ∧ y = .ref b ∧ SqT K H a (ns.map V.int) ∧ SqT K H b (ms.map V.int) ∧ Q (.bl (decide (ns = ms))) H
theorem all_eq_ints : ∀ (ns ms : List Int), ns.length = ms.length → (List.range ns.length).all (fun j => ns.getD j 0 == ms.getD j 0) = decide (ns = ms) := by
  intro ns ms hl
  rw [Bool.eq_iff_iff]
  simp only [List.all_eq_true, List.mem_range, beq_iff_eq, decide_eq_true_eq]
  constructor
  · intro h
    apply List.ext_getElem hl
    intro i h1 h2
    have := h i h1
    simpa [List.getD, h1, h2] using this
  · intro h i hi
    rw [h]
section
variable {X : Cx}
theorem op_eqT (hu : X.A.units + 1 < cLine) : OpR X (compareOp .Eq) (rEqT X.K) := by
  intro pins s σ H x y v u Q I rx ry h
  obtain ⟨a, b, ns, ms, rfl, rfl, ha, hb, q⟩ := h
  cases rx
  cases ry
  obtain ⟨its, r1, p1, _⟩ := I.tuple ha
  obtain ⟨its2, r2, p2, _⟩ := I.tuple hb
  have l1 : its.length = ns.length := by rw [← r1.length]; simp
  have l2 : its2.length = ms.length := by rw [← r2.length]; simp
  refine SeqAt.eq_tupleAt (e := fun j => ns.getD j 0 == ms.getD j 0) (show s.heap.IsTuple a its.toArray from p1) (show s.heap.IsTuple b its2.toArray from p2) (by omega) (fun j h1 h2 => ?_) ?_
  · have j1 : j < ns.length := by simp at h1; omega
    have j2 : j < ms.length := by simp at h2; omega
    obtain ⟨u1, e1, t1, f1⟩ := r1.get (i := j) (x := .int (ns[j])) (by simp [j1])
    obtain ⟨u2, e2, t2, f2⟩ := r2.get (i := j) (x := .int (ms[j])) (by simp [j2])
    have g1 : its.toArray[j] = u1 := by
      have := List.getElem?_eq_some_iff.mp e1
      obtain ⟨_, z⟩ := this
      simpa using z
    have g2 : its2.toArray[j] = u2 := by
      have := List.getElem?_eq_some_iff.mp e2
      obtain ⟨_, z⟩ := this
      simpa using z
    rw [g1, g2, f1, f2]
    have k1 : ns.getD j 0 = ns[j] := by simp [List.getD, j1]
    have k2 : ms.getD j 0 = ms[j] := by simp [List.getD, j2]
    show SeqAt.EqAt _ _ _ _ (ns.getD j 0 == ms.getD j 0)
    rw [k1, k2]
    exact SeqAt.EqAt.int_int _ _ _ _
  · refine ⟨.bl (decide (ns = ms)), H, I, ?_, q⟩
    show Value.bool _ = Value.bool _
    congr 1
    simp only [List.size_toArray, l1, l2]
    by_cases hl : ns.length = ms.length
    · rw [hl, Nat.min_self, ← hl, all_eq_ints ns ms hl]; simp
    · have : ns ≠ ms := fun z => hl (by rw [z])
      rw [decide_eq_false this]
      simp [hl]
end
end L2

namespace L2
open PySem PySem.Spec PyProof.Rows
/-! ### defs with promises, called by name -/
def Def (K : PySem.W.Frag) (mg : Str → Option Value) (x : Str) (st : Stmt) (ps : List Str) : Prop := ∃ f fd, Fun K x x st f fd ∧ mg x = some (.ref f) ∧ Binds K fd ps []
def Ok (P : Program) (w : World) (K : PySem.W.Frag) (mg : Str → Option Value) (base : Heap) (k : Nat) (x : Str) (ps : List Str) (sp : Sp) : Prop :=
  ∃ f fd, FnOk P w K mg base CX0 k f fd ps sp ∧ mg x = some (.ref f) ∧ PySem.W.keepIn K (.ref f) = true ∧ Binds K fd ps []
section
variable {P : Program} {w : World} {K : PySem.W.Frag} {mg : Str → Option Value} {base : Heap}
theorem Def.ok {x : Str} {st : Stmt} {N ps : List Str} {k : Nat} {sp : Sp} (D : Def K mg x st ps) (S : FnScope N ps (defScope st)) (len : ∀ vs H Q E, sp vs H Q E → vs.length = ps.length)
    (hbody : ∀ (f : Addr) (cdv : Value) (A : Around) (outer : List Env) (s : Shared) (H : Hp) (vs : List V) (Q : VK) (E : XK), Room k (A.deeper (envOfC x (defScope st) s.heap.objs.size f cdv)) → sp vs H Q E →
      ∃ t, PSs (cxOf CX0 P w K mg base N x (defScope st) f cdv A outer s H E).nox (defBody st) t ∧ t { nx := fun _ H' => Q .non H', rt := Q } (start N vs) H) : Ok P w K mg base (k + 1) x ps sp := by
  obtain ⟨f, fd, F, hm, hb⟩ := D
  exact ⟨f, fd, F.ok S len fun cdv A outer s H vs Q E hr h => hbody f cdv A outer s H vs Q E hr h, hm, F.kp, hb⟩
theorem Ok.mono {j k : Nat} {x : Str} {ps : List Str} {sp : Sp} (O : Ok P w K mg base j x ps sp) (h : j ≤ k) : Ok P w K mg base k x ps sp := by
  obtain ⟨f, fd, F, r⟩ := O
  exact ⟨f, fd, F.mono h, r⟩
end
section
variable {X : Cx} {k : Nat} {x : Str} {ps : List Str} {sp : Sp} {p pos : Pos} {e : Expr} {es : List Expr} {t : TA}
theorem pcall (O : Ok X.prog X.w X.K X.mg X.base k x ps sp) (hr : Room k X.A) (ha : PA X (e :: es) t) (hg : Gl X x := by rfl)
    (hdb : (x == ("__debug__" : Str)) = false := by decide) (he : starEach (e :: es) X.env = (false, eval e X.env) :: starEach es X.env := by rfl) (hpl : (backTo pos (starEach es X.env)).any (·.1) = false := by rfl) :
    PE X (.Call (.Name x p) (e :: es) [] pos) (tCall sp [] E0 t) := by
  obtain ⟨f, fd, F, hm, hk, hb⟩ := O
  exact pe_call F hr hg hm hk hb .nil pass0 ha hdb he hpl
end
/-- law's: a list of at most 63 ints is handed in, True comes out -/
def spLaw (K : PySem.W.Frag) : Sp := fun vs H Q _ => ∃ (a : Addr) (ns : List Int), vs = [.ref a] ∧ SqL K H a (ns.map V.int) ∧ ns.length ≤ 63 ∧ ∀ H', Q (.bl true) H'
/-! ### a comprehension whose items are plain values -/
theorem Same.upd_new {H : Hp} {a : Addr} {o : HO} (h : H a = none) : Same H (upd H a o) := fun b u e => by rw [upd_ne (ne_of_none e h)]; exact e
theorem Same.at {K : PySem.W.Frag} {H H' : Hp} {a : Addr} {xs : List V} (e : Same H H') (h : SqT K H a xs) : SqT K H' a xs := by
  rcases h with (h | ⟨o, h⟩) | h
  · exact .inl (.inl (e _ _ h))
  · exact .inl (.inr ⟨o, e _ _ h⟩)
  · exact .inr h
theorem Same.sq {k : Bool} {K : PySem.W.Frag} {H H' : Hp} {a : Addr} {xs : List V} (e : Same H H') (h : Sq k K H a xs) : Sq k K H' a xs := by
  cases k with
  | true => exact Same.at e h
  | false => exact Same.seq e h
/-- between two turns: own names (t of them), the frame's names fr behind them, the items so far, the heap has only grown -/
def CW (t : Nat) (l : Addr) (n : Nat) (f : Nat → V) (fr : St) (H1 : Hp) (i m : Nat) (σ1 : St) (ys : List V) (H' : Hp) : Prop :=
  m = n - i ∧ i ≤ n ∧ (∃ own : St, own.length = t ∧ σ1 = own ++ fr) ∧ ys = (List.range i).map f ∧ Same H1 H' ∧ H' l = some (.lst ys)
theorem CW.next {t : Nat} {l : Addr} {n : Nat} {f : Nat → V} {fr : St} {H1 H' H5 : Hp} {i : Nat} {y : V} (own : St) (ho : own.length = t) (hi : i < n) (hn : n ≤ 1000000) (hl : H1 l = none) (hs : Same H1 H') (hl' : H' l = some (.lst ((List.range i).map f))) (s5 : Same H' H5) (ey : y = f i) :
    H5 l = some (.lst ((List.range i).map f)) ∧ ((List.range i).map f).length < sizeLine ∧ CW t l n f fr H1 (i + 1) (n - (i + 1)) (own ++ fr) ((List.range i).map f ++ [y]) (upd H5 l (.lst ((List.range i).map f ++ [y]))) := by
  subst ey
  refine ⟨s5 _ _ hl', ?_, rfl, hi, ⟨own, ho, rfl⟩, ?_, fun b o e => ?_, upd_same⟩
  · rw [List.length_map, List.length_range]
    exact Nat.lt_of_lt_of_le (Nat.lt_of_lt_of_le hi hn) (by decide)
  · rw [List.range_succ, List.map_append]; rfl
  · rw [upd_ne (ne_of_none e hl)]
    exact s5 _ _ (hs _ _ e)
theorem comp_by {J : It} {H1 : Hp} {ix : List (Option Nat)} {σ : St} {g : TG} {tt : TT} {te : TE} {Q : VK} (t : Nat) (fr : St) (n : Nat) (f : Nat → V) (hpk : pick ix σ = List.replicate t none ++ fr)
    (hstop : ∀ H', Same H1 H' → J.stop n H') (hgo : ∀ i H', i < n → Same H1 H' → J.go i H')
    (step : ∀ i x l H' H2 own, own.length = t → i < n → H1 l = none → Same H1 H' → H' l = some (.lst ((List.range i).map f)) → J.yld i H' x H2 →
      g x (own ++ fr) H2 fun σ2 H3 => tt σ2 H3 fun b H4 => if b = true then te σ2 H4 fun y H5 => H5 l = some (.lst ((List.range i).map f)) ∧ ((List.range i).map f).length < sizeLine ∧ CW t l n f fr H1 (i + 1) (n - (i + 1)) σ2 ((List.range i).map f ++ [y]) (upd H5 l (.lst ((List.range i).map f ++ [y])))
        else CW t l n f fr H1 (i + 1) (n - (i + 1)) σ2 ((List.range i).map f) H4)
    (hQ : ∀ l H', H1 l = none → Same H1 H' → H' l = some (.lst ((List.range n).map f)) → Q (.ref l) H') :
    CompGoal ix g tt te σ Q J H1 := by
  intro l hl
  refine ⟨CW t l n f fr H1, ⟨n, by simp, Nat.zero_le _, ⟨_, List.length_replicate, hpk⟩, rfl, Same.upd_new hl, upd_same⟩, ?_⟩
  rintro i m σ1 ys H' ⟨rfl, hi, ⟨own, ho, rfl⟩, rfl, hs, hl'⟩
  refine ⟨hl', ?_⟩
  by_cases hlt : i < n
  · exact .inr ⟨hgo i H' hlt hs, n - (i + 1), by omega, fun x H2 hy => step i x l H' H2 own ho hlt hl hs hl' hy⟩
  · obtain rfl : i = n := by omega
    exact .inl ⟨hstop H' hs, hQ l H' hl hs hl'⟩
/-- a for loop over whatever: n turns -/
theorem for_any {J : It} {g : TG} {tb : TS} {D : Ends} {σ : St} {H : Hp} (n : Nat) (Pv : Nat → St → Hp → Prop) (h0 : Pv 0 σ H) (hgo : ∀ i σ H, i < n → Pv i σ H → J.go i H) (hstop : ∀ σ H, Pv n σ H → J.stop n H)
    (hs : ∀ i x σ H H', i < n → Pv i σ H → J.yld i H x H' → g x σ H' fun σ2 H2 => tb { D with nx := Pv (i + 1), ct := Pv (i + 1), bk := D.nx } σ2 H2) (hd : ∀ σ H, Pv n σ H → D.nx σ H) :
    ∃ W : Nat → Nat → St → Hp → Prop, (∃ m, W 0 m σ H) ∧ ∀ i m σ H, W i m σ H →
      (J.stop i H ∧ D.nx σ H) ∨ (J.go i H ∧ ∃ N : St → Hp → Prop, (∀ σ' H', N σ' H' → ∃ m', m' < m ∧ W (i + 1) m' σ' H') ∧ ∀ x H', J.yld i H x H' → g x σ H' fun σ2 H2 => tb { D with nx := N, ct := N, bk := D.nx } σ2 H2) := by
  refine ⟨fun i m σ H => m = n - i ∧ i ≤ n ∧ Pv i σ H, ⟨n, by simp, Nat.zero_le _, h0⟩, ?_⟩
  rintro i m σ H ⟨rfl, hi, p⟩
  by_cases hlt : i < n
  · exact .inr ⟨hgo i σ H hlt p, Pv (i + 1), fun σ' H' p' => ⟨n - (i + 1), by omega, rfl, hlt, p'⟩, fun x H' y => hs i x σ H H' hlt p y⟩
  · have e : i = n := by omega
    subst e
    exact .inl ⟨hstop σ H p, hd σ H p⟩
/-- one target, no test: the items are f i -/
theorem rd_comp1 {J : It} {H1 : Hp} {ix : List (Option Nat)} {σ : St} {te : TE} {Q : VK} (fr : St) (n : Nat) (f : Nat → V) (hpk : pick ix σ = none :: fr) (hn : n ≤ 1000000)
    (hstop : ∀ H', Same H1 H' → J.stop n H') (hgo : ∀ i H', i < n → Same H1 H' → J.go i H')
    (step : ∀ i x H' H2 (Qc : VK), i < n → Same H1 H' → J.yld i H' x H2 → (∀ H5, Same H' H5 → Qc (f i) H5) → te (some x :: fr) H2 Qc)
    (hQ : ∀ l H', H1 l = none → Same H1 H' → H' l = some (.lst ((List.range n).map f)) → Q (.ref l) H') : CompGoal ix (gName 0) (fun _ H Q => Q true H) te σ Q J H1 := by
  refine comp_by 1 fr n f hpk hstop hgo (fun i x l H' H2 own ho hi hl hs hl' hy => ?_) hQ
  obtain ⟨o1, rfl⟩ : ∃ o1, own = [o1] := by match own, ho with | [o1], _ => exact ⟨o1, rfl⟩
  dsimp only [gName]
  rw [if_pos rfl]
  exact step i x H' H2 _ hi hs hy fun H5 s5 => CW.next (fr := fr) [some x] rfl hi hn hl hs hl' s5 rfl
/-- two targets over zip, no test -/
theorem rd_compZ {K : PySem.W.Frag} {k1 k2 : Bool} {a b : Addr} {xs ys : List V} {H1 : Hp} {ix : List (Option Nat)} {σ : St} {te : TE} {Q : VK} (fr : St) (f : Nat → V) (hpk : pick ix σ = none :: none :: fr) (ha : Sq k1 K H1 a xs) (hb : Sq k2 K H1 b ys) (hlen : xs.length = ys.length) (hn : xs.length ≤ 1000000)
    (step : ∀ i x y H' (Qc : VK), xs[i]? = some x → ys[i]? = some y → Same H1 H' → (∀ H5, Same H' H5 → Qc (f i) H5) → te (some x :: some y :: fr) H' Qc)
    (hQ : ∀ l H', H1 l = none → Same H1 H' → H' l = some (.lst ((List.range xs.length).map f)) → Q (.ref l) H') : CompGoal ix (gTup K 2 (gCons (gName 0) (gCons (gName 1) gNil))) (fun _ H Q => Q true H) te σ Q (Itz K k1 k2 a b) H1 := by
  refine comp_by 2 fr xs.length f hpk (fun H' s => ⟨_, _, s.sq ha, s.sq hb, .inl (Nat.le_refl _)⟩) (fun i H' hi s => ?_) (fun i x l H' H2 own ho hi hl hs hl' hy => ?_) hQ
  · exact ⟨_, _, xs[i], ys[i]'(hlen ▸ hi), s.sq ha, s.sq hb, List.getElem?_eq_getElem hi, List.getElem?_eq_getElem (hlen ▸ hi)⟩
  · obtain ⟨o1, o2, rfl⟩ : ∃ o1 o2, own = [o1, o2] := by match own, ho with | [o1, o2], _ => exact ⟨o1, o2, rfl⟩
    obtain ⟨p, x', y', rfl, hp, e1, e2, rfl⟩ := hy
    have g1 := e1 _ (hs.sq ha)
    have g2 := e2 _ (hs.sq hb)
    refine ⟨p, _, rfl, SqT.of upd_same, rfl, _, _, rfl, _, _, rfl, rfl, ?_⟩
    show ite (true = true) _ _
    rw [if_pos rfl]
    exact step i x' y' _ _ g1 g2 (hs.trans (Same.upd_new hp)) fun H5 s5 => CW.next (fr := fr) [some x', some y'] rfl hi hn hl hs hl' ((Same.upd_new hp).trans s5) rfl
/-- a row: a tuple of ints -/
def RowAt (K : PySem.W.Frag) (H : Hp) (v : V) (r : List Int) : Prop := ∃ a, v = .ref a ∧ SqT K H a (r.map V.int)
theorem RowAt.same {K : PySem.W.Frag} {H H' : Hp} {v : V} {r : List Int} (h : RowAt K H v r) (s : Same H H') : RowAt K H' v r := by
  obtain ⟨a, rfl, q⟩ := h
  exact ⟨a, rfl, s.at q⟩
theorem int_get {r : List Int} {i : Nat} {x : V} (h : (r.map V.int)[i]? = some x) : x = .int (r.getD i 0) ∧ i < r.length := by
  rw [List.getElem?_map] at h
  cases e : r[i]? with
  | none => rw [e] at h; cases h
  | some z =>
    rw [e] at h
    have hl := (List.getElem?_eq_some_iff.mp e).1
    refine ⟨?_, hl⟩
    rw [← (Option.some.inj h), List.getD, e]; rfl
theorem int_at {r : List Int} {i : Nat} (h : i < r.length) : (r.map V.int)[i]? = some (.int (r.getD i 0)) := by
  rw [List.getElem?_map, List.getD, List.getElem?_eq_getElem h]; rfl
theorem range_getD {α : Type} (f : Int → α) (r : List Int) : (List.range r.length).map (fun i => f (r.getD i 0)) = r.map f := by
  apply List.ext_getElem
  · simp
  · intro i h1 h2
    simp at h1 h2
    simp [List.getD, h1]
theorem range_zip {α : Type} (f : Int → Int → α) (r q : List Int) (h : r.length = q.length) : (List.range r.length).map (fun i => f (r.getD i 0) (q.getD i 0)) = List.zipWith f r q := by
  apply List.ext_getElem
  · simp [h]
  · intro i h1 h2
    simp at h1 h2
    have : i < q.length := by omega
    simp [List.getD, h1, this]
/-- [x op y for x, y in zip(r, q)] -/
theorem rd_zipRows {K : PySem.W.Frag} {a b : Addr} {r q : List Int} {H1 : Hp} {ix : List (Option Nat)} {σ : St} {Q : VK} (op : Int → Int → Int) (hpk : pick ix σ = [none, none]) (ha : SqT K H1 a (r.map V.int)) (hb : SqT K H1 b (q.map V.int)) (hlen : r.length = q.length) (hn : r.length ≤ 1000)
    (hQ : ∀ l H', H1 l = none → Same H1 H' → H' l = some (.lst ((List.zipWith op r q).map V.int)) → Q (.ref l) H') :
    CompGoal ix (gTup K 2 (gCons (gName 0) (gCons (gName 1) gNil))) (fun _ H Q => Q true H) (tOp (rI0 fun i j => .int (op i j)) (tVar 0) (tVar 1)) σ Q (Itz K true true a b) H1 := by
  refine rd_compZ (k1 := true) (k2 := true) [] (fun i => .int (op (r.getD i 0) (q.getD i 0))) hpk ha hb (by simpa using hlen) (by rw [List.length_map]; omega) (fun i x y H' Qc ex ey hs kc => ?_) fun l H' hl hs hl' => hQ l H' hl hs ?_
  · obtain ⟨rfl, _⟩ := int_get ex
    obtain ⟨rfl, _⟩ := int_get ey
    exact ⟨_, rfl, _, rfl, _, _, rfl, rfl, kc _ (Same.refl _)⟩
  · rw [hl', List.length_map, range_zip (fun x y => V.int (op x y)) r q hlen, List.map_zipWith]
/-- [.. for x in row] -/
theorem rd_mapRow {K : PySem.W.Frag} {a : Addr} {r : List Int} {H1 : Hp} {ix : List (Option Nat)} {σ : St} {te : TE} {Q : VK} (F : Int → V) (fr : St) (hpk : pick ix σ = none :: fr) (ha : SqT K H1 a (r.map V.int)) (hn : r.length ≤ 1000)
    (step : ∀ x H' (Qc : VK), x ∈ r → Same H1 H' → (∀ H5, Same H' H5 → Qc (F x) H5) → te (some (.int x) :: fr) H' Qc)
    (hQ : ∀ l H', H1 l = none → Same H1 H' → H' l = some (.lst (r.map F)) → Q (.ref l) H') : CompGoal ix (gName 0) (fun _ H Q => Q true H) te σ Q (Itt K a) H1 := by
  refine rd_comp1 fr r.length (fun i => F (r.getD i 0)) hpk (by omega) (fun H' s => ⟨_, s.at ha, by simp⟩) (fun i H' hi s => ⟨_, _, s.at ha, int_at hi⟩) (fun i x H' H2 Qc hi hs hy kc => ?_) fun l H' hl hs hl' => hQ l H' hl hs ?_
  · obtain ⟨rfl, e1⟩ := hy
    obtain ⟨rfl, _⟩ := int_get (e1 _ (hs.at ha))
    exact step _ _ Qc (by rw [List.getD, List.getElem?_eq_getElem hi]; exact List.getElem_mem hi) hs kc
  · rw [hl', range_getD F r]
/-- [.. for x in list of ints] -/
theorem rd_mapList {K : PySem.W.Frag} {a : Addr} {r : List Int} {H1 : Hp} {ix : List (Option Nat)} {σ : St} {te : TE} {Q : VK} (F : Int → V) (fr : St) (hpk : pick ix σ = none :: fr) (ha : SqL K H1 a (r.map V.int)) (hn : r.length ≤ 1000)
    (step : ∀ x H' (Qc : VK), x ∈ r → Same H1 H' → (∀ H5, Same H' H5 → Qc (F x) H5) → te (some (.int x) :: fr) H' Qc)
    (hQ : ∀ l H', H1 l = none → Same H1 H' → H' l = some (.lst (r.map F)) → Q (.ref l) H') : CompGoal ix (gName 0) (fun _ H Q => Q true H) te σ Q (Itl K a) H1 := by
  refine rd_comp1 fr r.length (fun i => F (r.getD i 0)) hpk (by omega) (fun H' s => ⟨_, s.seq ha, by simp⟩) (fun i H' hi s => ⟨_, _, s.seq ha, int_at hi⟩) (fun i x H' H2 Qc hi hs hy kc => ?_) fun l H' hl hs hl' => hQ l H' hl hs ?_
  · obtain ⟨rfl, e1⟩ := hy
    obtain ⟨rfl, _⟩ := int_get (e1 _ (hs.seq ha))
    exact step _ _ Qc (by rw [List.getD, List.getElem?_eq_getElem hi]; exact List.getElem_mem hi) hs kc
  · rw [hl', range_getD F r]
/-- [.. for k in range(n)] -/
theorem rd_range {n : Nat} {H1 : Hp} {ix : List (Option Nat)} {σ : St} {te : TE} {Q : VK} (F : Int → V) (fr : St) (hpk : pick ix σ = none :: fr) (hn : n ≤ 1000000)
    (step : ∀ (i : Nat) H' (Qc : VK), i < n → Same H1 H' → (∀ H5, Same H' H5 → Qc (F (i : Int)) H5) → te (some (.int (i : Int)) :: fr) H' Qc)
    (hQ : ∀ l H', H1 l = none → Same H1 H' → H' l = some (.lst ((List.range n).map fun i => F ((i : Nat) : Int))) → Q (.ref l) H') : CompGoal ix (gName 0) (fun _ H Q => Q true H) te σ Q (Itr 0 n) H1 := by
  refine rd_comp1 fr n (fun i => F ((i : Nat) : Int)) hpk hn (fun _ _ => Nat.le_refl _) (fun i _ hi _ => hi) (fun i x H' H2 Qc hi hs hy kc => ?_) hQ
  obtain ⟨rfl, rfl⟩ := hy
  rw [Int.zero_add]
  exact step i _ Qc hi hs kc
/-- tuple(l) of a list just made -/
theorem rd_tup {K : PySem.W.Frag} {l : Addr} {ys : List V} {H' : Hp} {Q : VK} (h : H' l = some (.lst ys)) (k : ∀ p H2, Same H' H2 → H2 p = some (.tup ys) → Q (.ref p) H2) :
    ∃ p zs, [V.ref l] = [.ref p] ∧ ((SqL K H' p zs ∧ ∀ t, H' t = none → Q (.ref t) (upd H' t (.tup zs))) ∨ (SqT K H' p zs ∧ Q (.ref p) H')) :=
  ⟨l, ys, rfl, .inl ⟨SqL.of h, fun p hp => k p _ (Same.upd_new hp) upd_same⟩⟩
end L2

/-! numbers of rows -/
namespace Mth
def prod5 (a b c d e : Nat) : Int := 2 ^ a * 3 ^ b * 5 ^ c * 7 ^ d * 11 ^ e
/-- number_of's own fold -/
def numL (ps : List Int) (es : List Int) : Int := (List.zipWith (fun p e => p ^ e.toNat) ps es).foldl (· * ·) 1
def primes : List Int := [2, 3, 5, 7, 11]
def num (es : List Int) : Int := numL primes es
theorem num5 (a b c d e : Int) : num [a, b, c, d, e] = prod5 a.toNat b.toNat c.toNat d.toNat e.toNat := by
  simp [num, numL, primes, prod5]
theorem pw {p : Int} {n : Nat} (h : 0 < p) : 0 < p ^ n := by
  induction n with
  | zero => rw [Int.pow_zero]; decide
  | succ n ih => rw [Int.pow_succ]; exact Int.mul_pos ih h
theorem prod5_pos (a b c d e : Nat) : 0 < prod5 a b c d e := by
  unfold prod5
  have h2 := pw (n := a) (show (0 : Int) < 2 by decide)
  have h3 := pw (n := b) (show (0 : Int) < 3 by decide)
  have h5 := pw (n := c) (show (0 : Int) < 5 by decide)
  have h7 := pw (n := d) (show (0 : Int) < 7 by decide)
  have h11 := pw (n := e) (show (0 : Int) < 11 by decide)
  exact Int.mul_pos (Int.mul_pos (Int.mul_pos (Int.mul_pos h2 h3) h5) h7) h11
theorem prod5_mul (a b c d e a' b' c' d' e' : Nat) : prod5 a b c d e * prod5 a' b' c' d' e' = prod5 (a + a') (b + b') (c + c') (d + d') (e + e') := by
  unfold prod5
  simp only [Int.pow_add]
  ac_rfl
/-! what a prime does not divide -/
theorem nd_mul2 {x y : Int} (hx : x % 2 ≠ 0) (hy : y % 2 ≠ 0) : x * y % 2 ≠ 0 := by
  rw [Int.mul_emod]
  have h1 : x % 2 = 1 := by omega
  have h2 : y % 2 = 1 := by omega
  rw [h1, h2]; decide
theorem nd_mul3 {x y : Int} (hx : x % 3 ≠ 0) (hy : y % 3 ≠ 0) : x * y % 3 ≠ 0 := by
  rw [Int.mul_emod]
  have h1 : x % 3 = 1 ∨ x % 3 = 2 := by omega
  have h2 : y % 3 = 1 ∨ y % 3 = 2 := by omega
  rcases h1 with h1 | h1 <;> rcases h2 with h2 | h2 <;> rw [h1, h2] <;> decide
theorem nd_mul5 {x y : Int} (hx : x % 5 ≠ 0) (hy : y % 5 ≠ 0) : x * y % 5 ≠ 0 := by
  rw [Int.mul_emod]
  have h1 : x % 5 = 1 ∨ x % 5 = 2 ∨ x % 5 = 3 ∨ x % 5 = 4 := by omega
  have h2 : y % 5 = 1 ∨ y % 5 = 2 ∨ y % 5 = 3 ∨ y % 5 = 4 := by omega
  rcases h1 with h1 | h1 | h1 | h1 <;> rcases h2 with h2 | h2 | h2 | h2 <;> rw [h1, h2] <;> decide
theorem nd_mul7 {x y : Int} (hx : x % 7 ≠ 0) (hy : y % 7 ≠ 0) : x * y % 7 ≠ 0 := by
  rw [Int.mul_emod]
  have h1 : x % 7 = 1 ∨ x % 7 = 2 ∨ x % 7 = 3 ∨ x % 7 = 4 ∨ x % 7 = 5 ∨ x % 7 = 6 := by omega
  have h2 : y % 7 = 1 ∨ y % 7 = 2 ∨ y % 7 = 3 ∨ y % 7 = 4 ∨ y % 7 = 5 ∨ y % 7 = 6 := by omega
  rcases h1 with h1 | h1 | h1 | h1 | h1 | h1 <;> rcases h2 with h2 | h2 | h2 | h2 | h2 | h2 <;> rw [h1, h2] <;> decide
theorem nd_mul11 {x y : Int} (hx : x % 11 ≠ 0) (hy : y % 11 ≠ 0) : x * y % 11 ≠ 0 := by
  rw [Int.mul_emod]
  have k : ∀ i : _root_.Fin 11, ∀ j : _root_.Fin 11, i.val ≠ 0 → j.val ≠ 0 → (((i.val : Nat) : Int) * ((j.val : Nat) : Int)) % 11 ≠ 0 := by decide
  obtain ⟨i, hi⟩ := Int.eq_ofNat_of_zero_le (Int.emod_nonneg x (show (11 : Int) ≠ 0 by decide))
  obtain ⟨j, hj⟩ := Int.eq_ofNat_of_zero_le (Int.emod_nonneg y (show (11 : Int) ≠ 0 by decide))
  have h1 := Int.emod_lt_of_pos x (show (0 : Int) < 11 by decide)
  have h2 := Int.emod_lt_of_pos y (show (0 : Int) < 11 by decide)
  rw [hi, hj]
  exact k ⟨i, by omega⟩ ⟨j, by omega⟩ (by show i ≠ 0; omega) (by show j ≠ 0; omega)
/-- p is one of the five -/
def P5 (p : Int) : Prop := p = 2 ∨ p = 3 ∨ p = 5 ∨ p = 7 ∨ p = 11
theorem P5.pos {p : Int} (h : P5 p) : 2 ≤ p := by rcases h with rfl | rfl | rfl | rfl | rfl <;> decide
theorem nd_mul {p x y : Int} (hp : P5 p) (hx : x % p ≠ 0) (hy : y % p ≠ 0) : x * y % p ≠ 0 := by
  rcases hp with rfl | rfl | rfl | rfl | rfl
  · exact nd_mul2 hx hy
  · exact nd_mul3 hx hy
  · exact nd_mul5 hx hy
  · exact nd_mul7 hx hy
  · exact nd_mul11 hx hy
theorem nd_pow {p x : Int} (hp : P5 p) (hx : x % p ≠ 0) : ∀ n : Nat, x ^ n % p ≠ 0
  | 0 => by rw [Int.pow_zero]; rcases hp with rfl | rfl | rfl | rfl | rfl <;> decide
  | n + 1 => by rw [Int.pow_succ]; exact nd_mul hp (nd_pow hp hx n) hx
/-- a power of p is told by what it divides -/
theorem pow_split {p m m' : Int} (hp : P5 p) : ∀ {a a' : Nat}, p ^ a * m = p ^ a' * m' → m % p ≠ 0 → m' % p ≠ 0 → a = a' ∧ m = m'
  | 0, 0, h, _, _ => ⟨rfl, by simpa using h⟩
  | 0, a' + 1, h, hm, _ => by
    exfalso; apply hm
    rw [Int.pow_zero, Int.one_mul] at h
    rw [h, Int.pow_succ, Int.mul_assoc, Int.mul_left_comm]
    exact Int.mul_emod_right _ _
  | a + 1, 0, h, _, hm' => by
    exfalso; apply hm'
    rw [Int.pow_zero, Int.one_mul] at h
    rw [← h, Int.pow_succ, Int.mul_assoc, Int.mul_left_comm]
    exact Int.mul_emod_right _ _
  | a + 1, a' + 1, h, hm, hm' => by
    have h2 := hp.pos
    have h' : p * (p ^ a * m) = p * (p ^ a' * m') := by
      rw [Int.pow_succ, Int.pow_succ] at h
      rw [← Int.mul_assoc, ← Int.mul_assoc, Int.mul_comm p, Int.mul_comm p]; exact h
    obtain ⟨e1, e2⟩ := pow_split hp (Int.eq_of_mul_eq_mul_left (by omega) h') hm hm'
    exact ⟨by omega, e2⟩
theorem prod5_inj {a b c d e a' b' c' d' e' : Nat} (h : prod5 a b c d e = prod5 a' b' c' d' e') : a = a' ∧ b = b' ∧ c = c' ∧ d = d' ∧ e = e' := by
  unfold prod5 at h
  have p2 : P5 2 := .inl rfl
  have p3 : P5 3 := .inr (.inl rfl)
  have p5 : P5 5 := .inr (.inr (.inl rfl))
  have p7 : P5 7 := .inr (.inr (.inr (.inl rfl)))
  have p11 : P5 11 := .inr (.inr (.inr (.inr rfl)))
  have r1 : ∀ a b c d e : Nat, (2 : Int) ^ a * 3 ^ b * 5 ^ c * 7 ^ d * 11 ^ e = 2 ^ a * (3 ^ b * 5 ^ c * 7 ^ d * 11 ^ e) := fun a b c d e => by ac_rfl
  have r2 : ∀ b c d e : Nat, (3 : Int) ^ b * 5 ^ c * 7 ^ d * 11 ^ e = 3 ^ b * (5 ^ c * 7 ^ d * 11 ^ e) := fun b c d e => by ac_rfl
  have r3 : ∀ c d e : Nat, (5 : Int) ^ c * 7 ^ d * 11 ^ e = 5 ^ c * (7 ^ d * 11 ^ e) := fun c d e => by ac_rfl
  have n2 : ∀ b c d e : Nat, (3 : Int) ^ b * 5 ^ c * 7 ^ d * 11 ^ e % 2 ≠ 0 := fun b c d e => nd_mul p2 (nd_mul p2 (nd_mul p2 (nd_pow p2 (by decide) _) (nd_pow p2 (by decide) _)) (nd_pow p2 (by decide) _)) (nd_pow p2 (by decide) _)
  have n3 : ∀ c d e : Nat, (5 : Int) ^ c * 7 ^ d * 11 ^ e % 3 ≠ 0 := fun c d e => nd_mul p3 (nd_mul p3 (nd_pow p3 (by decide) _) (nd_pow p3 (by decide) _)) (nd_pow p3 (by decide) _)
  have n5 : ∀ d e : Nat, (7 : Int) ^ d * 11 ^ e % 5 ≠ 0 := fun d e => nd_mul p5 (nd_pow p5 (by decide) _) (nd_pow p5 (by decide) _)
  have n7 : ∀ e : Nat, (11 : Int) ^ e % 7 ≠ 0 := fun e => nd_pow p7 (by decide) _
  rw [r1, r1] at h
  obtain ⟨ha, h⟩ := pow_split p2 h (n2 _ _ _ _) (n2 _ _ _ _)
  rw [r2, r2] at h
  obtain ⟨hb, h⟩ := pow_split p3 h (n3 _ _ _) (n3 _ _ _)
  rw [r3, r3] at h
  obtain ⟨hc, h⟩ := pow_split p5 h (n5 _ _) (n5 _ _)
  obtain ⟨hd, h⟩ := pow_split p7 h (n7 _) (n7 _)
  have h' : (11 : Int) ^ e * 1 = 11 ^ e' * 1 := by rw [Int.mul_one, Int.mul_one]; exact h
  obtain ⟨he, _⟩ := pow_split p11 h' (by decide) (by decide)
  exact ⟨ha, hb, hc, hd, he⟩
/-! what none of the five divides -/
def Cop (m : Int) : Prop := ∀ p, P5 p → m % p ≠ 0
theorem P5.p2 : P5 2 := .inl rfl
theorem P5.p3 : P5 3 := .inr (.inl rfl)
theorem P5.p5 : P5 5 := .inr (.inr (.inl rfl))
theorem P5.p7 : P5 7 := .inr (.inr (.inr (.inl rfl)))
theorem P5.p11 : P5 11 := .inr (.inr (.inr (.inr rfl)))
theorem split_inj {a b c d e a' b' c' d' e' : Nat} {m m' : Int} (h : prod5 a b c d e * m = prod5 a' b' c' d' e' * m') (hm : Cop m) (hm' : Cop m') : (a = a' ∧ b = b' ∧ c = c' ∧ d = d' ∧ e = e') ∧ m = m' := by
  unfold prod5 at h
  have r1 : ∀ (a b c d e : Nat) (m : Int), (2 : Int) ^ a * 3 ^ b * 5 ^ c * 7 ^ d * 11 ^ e * m = 2 ^ a * (3 ^ b * 5 ^ c * 7 ^ d * 11 ^ e * m) := fun a b c d e m => by ac_rfl
  have r2 : ∀ (b c d e : Nat) (m : Int), (3 : Int) ^ b * 5 ^ c * 7 ^ d * 11 ^ e * m = 3 ^ b * (5 ^ c * 7 ^ d * 11 ^ e * m) := fun b c d e m => by ac_rfl
  have r3 : ∀ (c d e : Nat) (m : Int), (5 : Int) ^ c * 7 ^ d * 11 ^ e * m = 5 ^ c * (7 ^ d * 11 ^ e * m) := fun c d e m => by ac_rfl
  have r4 : ∀ (d e : Nat) (m : Int), (7 : Int) ^ d * 11 ^ e * m = 7 ^ d * (11 ^ e * m) := fun d e m => by ac_rfl
  have n2 : ∀ (b c d e : Nat) {m : Int}, Cop m → (3 : Int) ^ b * 5 ^ c * 7 ^ d * 11 ^ e * m % 2 ≠ 0 := fun b c d e m hm => nd_mul .p2 (nd_mul .p2 (nd_mul .p2 (nd_mul .p2 (nd_pow .p2 (by decide) _) (nd_pow .p2 (by decide) _)) (nd_pow .p2 (by decide) _)) (nd_pow .p2 (by decide) _)) (hm _ .p2)
  have n3 : ∀ (c d e : Nat) {m : Int}, Cop m → (5 : Int) ^ c * 7 ^ d * 11 ^ e * m % 3 ≠ 0 := fun c d e m hm => nd_mul .p3 (nd_mul .p3 (nd_mul .p3 (nd_pow .p3 (by decide) _) (nd_pow .p3 (by decide) _)) (nd_pow .p3 (by decide) _)) (hm _ .p3)
  have n5 : ∀ (d e : Nat) {m : Int}, Cop m → (7 : Int) ^ d * 11 ^ e * m % 5 ≠ 0 := fun d e m hm => nd_mul .p5 (nd_mul .p5 (nd_pow .p5 (by decide) _) (nd_pow .p5 (by decide) _)) (hm _ .p5)
  have n7 : ∀ (e : Nat) {m : Int}, Cop m → (11 : Int) ^ e * m % 7 ≠ 0 := fun e m hm => nd_mul .p7 (nd_pow .p7 (by decide) _) (hm _ .p7)
  rw [r1, r1] at h
  obtain ⟨ha, h⟩ := pow_split .p2 h (n2 _ _ _ _ hm) (n2 _ _ _ _ hm')
  rw [r2, r2] at h
  obtain ⟨hb, h⟩ := pow_split .p3 h (n3 _ _ _ hm) (n3 _ _ _ hm')
  rw [r3, r3] at h
  obtain ⟨hc, h⟩ := pow_split .p5 h (n5 _ _ hm) (n5 _ _ hm')
  rw [r4, r4] at h
  obtain ⟨hd, h⟩ := pow_split .p7 h (n7 _ hm) (n7 _ hm')
  obtain ⟨he, h⟩ := pow_split .p11 h (hm _ .p11) (hm' _ .p11)
  exact ⟨⟨ha, hb, hc, hd, he⟩, h⟩
/-- a factor of what p does not divide is not divided by p -/
theorem nd_left {p x y : Int} (h : x * y % p ≠ 0) : y % p ≠ 0 := fun z => h (by
  obtain ⟨k, hk⟩ := Int.dvd_of_emod_eq_zero z
  rw [hk, Int.mul_left_comm]
  exact Int.mul_emod_right _ _)
/-- every number from 1 on is split up -/
theorem split_one {p : Int} (hp : P5 p) : ∀ (k : Nat) (n : Int), n.toNat ≤ k → 1 ≤ n → ∃ (c : Nat) (m : Int), n = p ^ c * m ∧ m % p ≠ 0 ∧ 1 ≤ m
  | 0, n, h, h1 => by omega
  | k + 1, n, h, h1 => by
    have h2 := hp.pos
    by_cases hz : n % p = 0
    · obtain ⟨q, hq⟩ := Int.dvd_of_emod_eq_zero hz
      have q1 : 1 ≤ q := by
        apply Int.not_lt.mp
        intro hlt
        have : p * q ≤ 0 := Int.mul_nonpos_of_nonneg_of_nonpos (by omega) (by omega)
        omega
      have ql : q < n := by
        have : 2 * q ≤ p * q := Int.mul_le_mul_of_nonneg_right h2 (by omega)
        omega
      obtain ⟨c, m, e, hm, m1⟩ := split_one hp k q (by omega) q1
      refine ⟨c + 1, m, ?_, hm, m1⟩
      rw [hq, e, Int.pow_succ]
      ac_rfl
    · exact ⟨0, n, by simp, hz, h1⟩
theorem split_all (n : Int) (h1 : 1 ≤ n) : ∃ (a b c d e : Nat) (m : Int), n = prod5 a b c d e * m ∧ Cop m ∧ 1 ≤ m := by
  obtain ⟨a, m1, e1, h2, p1⟩ := split_one .p2 _ n (Nat.le_refl _) h1
  obtain ⟨b, m2, e2, h3, p2⟩ := split_one .p3 _ m1 (Nat.le_refl _) p1
  obtain ⟨c, m3, e3, h5, p3⟩ := split_one .p5 _ m2 (Nat.le_refl _) p2
  obtain ⟨d, m4, e4, h7, p4⟩ := split_one .p7 _ m3 (Nat.le_refl _) p3
  obtain ⟨e, m5, e5, h11, p5⟩ := split_one .p11 _ m4 (Nat.le_refl _) p4
  refine ⟨a, b, c, d, e, m5, ?_, ?_, p5⟩
  · rw [e1, e2, e3, e4, e5]; unfold prod5; ac_rfl
  · rintro p (rfl | rfl | rfl | rfl | rfl)
    · rw [e2] at h2; rw [e3] at h2; rw [e4] at h2; rw [e5] at h2
      exact nd_left (nd_left (nd_left (nd_left h2)))
    · rw [e3, e4, e5] at h3
      exact nd_left (nd_left (nd_left h3))
    · rw [e4, e5] at h5
      exact nd_left (nd_left h5)
    · rw [e5] at h7
      exact nd_left h7
    · exact h11
end Mth

namespace Mth
/-! bits -/
def bl (x : Int) : Nat := if x == 0 then 0 else x.natAbs.log2 + 1
theorem bl_le {x : Int} {k : Nat} (h : x.natAbs < 2 ^ k) : bl x ≤ k := by
  unfold bl
  split
  · omega
  · rename_i hx
    have hx' : x.natAbs ≠ 0 := by simpa using hx
    have := (Nat.log2_lt hx').mpr h
    omega
theorem pow_lt {p : Nat} (hp : p < 16) (e : Nat) : p ^ e < 2 ^ (4 * e + 1) := by
  have h1 : p ^ e ≤ 16 ^ e := Nat.pow_le_pow_left (by omega) e
  have h2 : (16 : Nat) ^ e = 2 ^ (4 * e) := by rw [show (16 : Nat) = 2 ^ 4 by decide, ← Nat.pow_mul]
  have h3 : (2 : Nat) ^ (4 * e) < 2 ^ (4 * e + 1) := Nat.pow_lt_pow_right (by decide) (by omega)
  omega
theorem natAbs_pow (p : Int) (e : Nat) : (p ^ e).natAbs = p.natAbs ^ e := by
  induction e with
  | zero => simp
  | succ e ih => rw [Int.pow_succ, Int.natAbs_mul, ih, Nat.pow_succ]
theorem powI_lt {p : Int} (hp : p.natAbs < 16) (e : Nat) : (p ^ e).natAbs < 2 ^ (4 * e + 1) := by
  rw [natAbs_pow]
  exact pow_lt hp e
theorem mul_lt {x y : Int} {a b : Nat} (hx : x.natAbs < 2 ^ a) (hy : y.natAbs < 2 ^ b) : (x * y).natAbs < 2 ^ (a + b) := by
  rw [Int.natAbs_mul, Nat.pow_add]
  exact Nat.mul_lt_mul'' hx hy
/-! octaves -/
theorem bl_spec {x : Int} (h : 1 ≤ x) : (2 : Int) ^ (bl x - 1) ≤ x ∧ x < 2 ^ bl x ∧ 1 ≤ bl x := by
  have hx : x.natAbs ≠ 0 := by omega
  have e : bl x = x.natAbs.log2 + 1 := by unfold bl; rw [if_neg (by simp; omega)]
  have e1 : (2 : Nat) ^ x.natAbs.log2 ≤ x.natAbs := Nat.log2_self_le hx
  have e2 : x.natAbs < 2 ^ (x.natAbs.log2 + 1) := Nat.lt_log2_self
  have c1 : ((2 ^ x.natAbs.log2 : Nat) : Int) = 2 ^ x.natAbs.log2 := by push_cast; rfl
  have c2 : ((2 ^ (x.natAbs.log2 + 1) : Nat) : Int) = 2 ^ (x.natAbs.log2 + 1) := by push_cast; rfl
  rw [e]
  refine ⟨?_, ?_, by omega⟩
  · rw [Nat.add_sub_cancel, ← c1]; omega
  · rw [← c2]; omega
theorem pow2_pos (n : Nat) : (0 : Int) < 2 ^ n := pw (by decide)
theorem pow2_mono {a b : Nat} (h : a ≤ b) : (2 : Int) ^ a ≤ 2 ^ b := by
  obtain ⟨c, rfl⟩ := Nat.exists_eq_add_of_le h
  rw [Int.pow_add]
  have h1 := pow2_pos a
  have h2 := pow2_pos c
  have : (2 : Int) ^ a * 1 ≤ 2 ^ a * 2 ^ c := Int.mul_le_mul_of_nonneg_left (by omega) (by omega)
  omega
/-- octaves' own reckoning -/
def octR (top bot : Int) : Int := (bl (top * 2 ^ (bl bot) / bot) : Int) - 1 - (bl bot : Int)
/-- 2 ^ n ≤ top / bot, by whole numbers -/
def GeP (n : Int) (top bot : Int) : Prop := 2 ^ n.toNat * bot ≤ 2 ^ (-n).toNat * top
theorem ge_shift {u v : Nat} {n x y : Int} (h : (v : Int) - (u : Int) = n) : (2 ^ v * x ≤ 2 ^ u * y) ↔ (2 ^ n.toNat * x ≤ 2 ^ (-n).toNat * y) := by
  have key : ∀ (c a b : Nat), (2 ^ (c + a) * x ≤ 2 ^ (c + b) * y) ↔ (2 ^ a * x ≤ 2 ^ b * y) := by
    intro c a b
    rw [Int.pow_add, Int.pow_add, Int.mul_assoc, Int.mul_assoc]
    have h2 := pow2_pos c
    constructor
    · intro q; exact Int.le_of_mul_le_mul_left q h2
    · intro q; exact Int.mul_le_mul_of_nonneg_left q (by omega)
  by_cases hn : 0 ≤ n
  · have e1 : (-n).toNat = 0 := by omega
    have e2 : v = u + n.toNat := by omega
    have := key u n.toNat 0
    rw [e1, e2]; simpa using this
  · have e1 : n.toNat = 0 := by omega
    have e2 : u = v + (-n).toNat := by omega
    have := key v 0 (-n).toNat
    rw [e1, e2]; simpa using this
theorem oct_spec {top bot : Int} (ht : 1 ≤ top) (hb : 1 ≤ bot) : GeP (octR top bot) top bot ∧ ¬ GeP (octR top bot + 1) top bot := by
  obtain ⟨_, b2, b3⟩ := bl_spec hb
  have hp := pow2_pos (bl bot)
  have hx : bot ≤ top * 2 ^ bl bot := by
    have : 1 * 2 ^ bl bot ≤ top * 2 ^ bl bot := Int.mul_le_mul_of_nonneg_right ht (by omega)
    omega
  have hw : 1 ≤ top * 2 ^ bl bot / bot := by
    apply (Int.le_ediv_iff_mul_le (by omega)).mpr
    omega
  obtain ⟨w1, w2, w3⟩ := bl_spec hw
  have w1' : 2 ^ (bl (top * 2 ^ bl bot / bot) - 1) * bot ≤ top * 2 ^ bl bot := (Int.le_ediv_iff_mul_le (by omega)).mp w1
  have w2' : ¬ 2 ^ bl (top * 2 ^ bl bot / bot) * bot ≤ top * 2 ^ bl bot := fun z => by
    have := (Int.le_ediv_iff_mul_le (show 0 < bot by omega)).mpr z
    omega
  unfold GeP
  constructor
  · refine (ge_shift (u := bl bot) (v := bl (top * 2 ^ bl bot / bot) - 1) ?_).mp ?_
    · unfold octR; omega
    · rw [Int.mul_comm (2 ^ bl bot)]; exact w1'
  · intro z
    apply w2'
    have q := (ge_shift (u := bl bot) (v := bl (top * 2 ^ bl bot / bot)) (n := octR top bot + 1) (by unfold octR; omega)).mpr z
    rw [Int.mul_comm (2 ^ bl bot) top] at q
    exact q
theorem GeP.down {n m : Int} {top bot : Int} (ht : 0 ≤ top) (h : GeP n top bot) (hm : m ≤ n) (hb : 0 ≤ bot) : GeP m top bot := by
  unfold GeP at *
  by_cases h0 : 0 ≤ m
  · have e1 : (-m).toNat = 0 := by omega
    have e2 : (-n).toNat = 0 := by omega
    rw [e1]; rw [e2] at h
    exact Int.le_trans (Int.mul_le_mul_of_nonneg_right (pow2_mono (by omega)) hb) h
  · have e1 : m.toNat = 0 := by omega
    rw [e1]
    have h1 : (2 : Int) ^ 0 * bot ≤ 2 ^ n.toNat * bot := Int.mul_le_mul_of_nonneg_right (pow2_mono (Nat.zero_le _)) hb
    have h2 : 2 ^ (-n).toNat * top ≤ 2 ^ (-m).toNat * top := Int.mul_le_mul_of_nonneg_right (pow2_mono (by omega)) ht
    omega
theorem oct_unique {top bot n : Int} (ht : 1 ≤ top) (hb : 1 ≤ bot) (h1 : GeP n top bot) (h2 : ¬ GeP (n + 1) top bot) : octR top bot = n := by
  obtain ⟨g1, g2⟩ := oct_spec ht hb
  have a : ¬ octR top bot + 1 ≤ n := fun z => g2 (h1.down (by omega) z (by omega))
  have b : ¬ n + 1 ≤ octR top bot := fun z => h2 (g1.down (by omega) z (by omega))
  omega
end Mth

namespace Mth
/-! rows of five, and their numbers -/
def top5 (a b c d e : Int) : Int := prod5 a.toNat b.toNat c.toNat d.toNat e.toNat
def bot5 (a b c d e : Int) : Int := prod5 (-a).toNat (-b).toNat (-c).toNat (-d).toNat (-e).toNat
theorem top5_pos (a b c d e : Int) : 1 ≤ top5 a b c d e := prod5_pos ..
theorem bot5_pos (a b c d e : Int) : 1 ≤ bot5 a b c d e := prod5_pos ..
theorem top5_neg (a b c d e : Int) : top5 (-a) (-b) (-c) (-d) (-e) = bot5 a b c d e := rfl
theorem bot5_neg (a b c d e : Int) : bot5 (-a) (-b) (-c) (-d) (-e) = top5 a b c d e := by
  unfold bot5 top5; simp only [Int.neg_neg]
theorem prod5_congr {a b c d e a' b' c' d' e' : Nat} (h1 : a = a') (h2 : b = b') (h3 : c = c') (h4 : d = d') (h5 : e = e') : prod5 a b c d e = prod5 a' b' c' d' e' := by
  subst h1 h2 h3 h4 h5; rfl
/-- the measure -/
theorem meas {a b c d e : Int} (ha : -700 ≤ a) (hb : -60 ≤ b) (hc : -60 ≤ c) (hd : -60 ≤ d) (he : -60 ≤ e) :
    top5 a b c d e * prod5 700 60 60 60 60 / bot5 a b c d e = prod5 (a + 700).toNat (b + 60).toNat (c + 60).toNat (d + 60).toNat (e + 60).toNat := by
  have h : top5 a b c d e * prod5 700 60 60 60 60 = bot5 a b c d e * prod5 (a + 700).toNat (b + 60).toNat (c + 60).toNat (d + 60).toNat (e + 60).toNat := by
    unfold top5 bot5
    rw [prod5_mul, prod5_mul]
    exact prod5_congr (by omega) (by omega) (by omega) (by omega) (by omega)
  rw [h, Int.mul_ediv_cancel_left]
  have := bot5_pos a b c d e
  omega
/-- by whole numbers: bot ≤ top of the row whose first number is m -/
def F (m : Int) (x y : Int) : Prop := 2 ^ (-m).toNat * y ≤ 2 ^ m.toNat * x
def rt (b c d e : Int) : Int := prod5 0 b.toNat c.toNat d.toNat e.toNat
def rb (b c d e : Int) : Int := prod5 0 (-b).toNat (-c).toNat (-d).toNat (-e).toNat
theorem top5_rt (a b c d e : Int) : top5 a b c d e = 2 ^ a.toNat * rt b c d e := by
  unfold top5 rt prod5
  rw [Int.pow_zero, Int.one_mul]; ac_rfl
theorem bot5_rb (a b c d e : Int) : bot5 a b c d e = 2 ^ (-a).toNat * rb b c d e := by
  unfold bot5 rb prod5
  rw [Int.pow_zero, Int.one_mul]; ac_rfl
theorem le_F (a b c d e : Int) : bot5 a b c d e ≤ top5 a b c d e ↔ F a (rt b c d e) (rb b c d e) := by
  rw [top5_rt, bot5_rb]; exact Iff.rfl
theorem F_mul {m : Int} {x y : Int} {u v : Nat} (h : (u : Int) - (v : Int) = m) : (2 ^ v * y ≤ 2 ^ u * x) ↔ F m x y := by
  unfold F
  have := ge_shift (u := u) (v := v) (n := -m) (x := y) (y := x) (by omega)
  rw [Int.neg_neg] at this
  exact this
theorem GeP_F (n a b c d e : Int) : GeP n (top5 a b c d e) (bot5 a b c d e) ↔ F (a - n) (rt b c d e) (rb b c d e) := by
  unfold GeP
  rw [top5_rt, bot5_rb, ← Int.mul_assoc, ← Int.mul_assoc, ← Int.pow_add, ← Int.pow_add]
  exact F_mul (by omega)
theorem oct_F (a b c d e : Int) : F (a - octR (top5 a b c d e) (bot5 a b c d e)) (rt b c d e) (rb b c d e) ∧ ¬ F (a - octR (top5 a b c d e) (bot5 a b c d e) - 1) (rt b c d e) (rb b c d e) := by
  obtain ⟨h1, h2⟩ := oct_spec (top5_pos a b c d e) (bot5_pos a b c d e)
  refine ⟨(GeP_F ..).mp h1, fun z => h2 ((GeP_F ..).mpr ?_)⟩
  have : a - (octR (top5 a b c d e) (bot5 a b c d e) + 1) = a - octR (top5 a b c d e) (bot5 a b c d e) - 1 := by omega
  rw [this]; exact z
theorem oct_is {a b c d e n : Int} (h1 : F (a - n) (rt b c d e) (rb b c d e)) (h2 : ¬ F (a - n - 1) (rt b c d e) (rb b c d e)) : octR (top5 a b c d e) (bot5 a b c d e) = n := by
  refine oct_unique (top5_pos ..) (bot5_pos ..) ((GeP_F ..).mpr h1) fun z => h2 ?_
  have := (GeP_F ..).mp z
  have e : a - (n + 1) = a - n - 1 := by omega
  rw [e] at this; exact this
/-- another first number: as many octaves more -/
theorem oct_move (a f b c d e : Int) : octR (top5 f b c d e) (bot5 f b c d e) = octR (top5 a b c d e) (bot5 a b c d e) + f - a := by
  obtain ⟨h1, h2⟩ := oct_F a b c d e
  refine oct_is ?_ ?_
  · have e1 : f - (octR (top5 a b c d e) (bot5 a b c d e) + f - a) = a - octR (top5 a b c d e) (bot5 a b c d e) := by omega
    rw [e1]; exact h1
  · have e1 : f - (octR (top5 a b c d e) (bot5 a b c d e) + f - a) - 1 = a - octR (top5 a b c d e) (bot5 a b c d e) - 1 := by omega
    rw [e1]; exact h2
/-! bounds -/
theorem pwmono {p : Int} (hp : 1 ≤ p) {m n : Nat} (h : m ≤ n) : p ^ m ≤ p ^ n := by
  obtain ⟨k, rfl⟩ := Nat.exists_eq_add_of_le h
  rw [Int.pow_add]
  have h1 : 0 < p ^ m := pw (by omega)
  have h2 : 0 < p ^ k := pw (by omega)
  have : p ^ m * 1 ≤ p ^ m * p ^ k := Int.mul_le_mul_of_nonneg_left (by omega) (by omega)
  omega
theorem mul_le2 {x y u v : Int} (h1 : x ≤ u) (h2 : y ≤ v) (hx : 0 < x) (hy : 0 < y) : x * y ≤ u * v :=
  Int.le_trans (Int.mul_le_mul_of_nonneg_right h1 (by omega)) (Int.mul_le_mul_of_nonneg_left h2 (by omega))
theorem prod5_mono {a b c d e a' b' c' d' e' : Nat} (h1 : a ≤ a') (h2 : b ≤ b') (h3 : c ≤ c') (h4 : d ≤ d') (h5 : e ≤ e') : prod5 a b c d e ≤ prod5 a' b' c' d' e' := by
  unfold prod5
  have p2 := pw (n := a) (show (0 : Int) < 2 by decide)
  have p3 := pw (n := b) (show (0 : Int) < 3 by decide)
  have p5 := pw (n := c) (show (0 : Int) < 5 by decide)
  have p7 := pw (n := d) (show (0 : Int) < 7 by decide)
  have p11 := pw (n := e) (show (0 : Int) < 11 by decide)
  exact mul_le2 (mul_le2 (mul_le2 (mul_le2 (pwmono (by decide) h1) (pwmono (by decide) h2) p2 p3) (pwmono (by decide) h3) (Int.mul_pos p2 p3) p5) (pwmono (by decide) h4) (Int.mul_pos (Int.mul_pos p2 p3) p5) p7) (pwmono (by decide) h5) (Int.mul_pos (Int.mul_pos (Int.mul_pos p2 p3) p5) p7) p11
/-- a row's numbers are within these -/
def Bd (a b c d e : Int) : Prop := (-4000 ≤ a ∧ a ≤ 4000) ∧ (-100 ≤ b ∧ b ≤ 100) ∧ (-100 ≤ c ∧ c ≤ 100) ∧ (-100 ≤ d ∧ d ≤ 100) ∧ (-100 ≤ e ∧ e ≤ 100)
theorem prod5_lt {a b c d e : Nat} (h1 : a ≤ 4000) (h2 : b ≤ 100) (h3 : c ≤ 100) (h4 : d ≤ 100) (h5 : e ≤ 100) : (prod5 a b c d e).natAbs < 2 ^ 5100 := by
  have h := prod5_mono h1 h2 h3 h4 h5
  have hp := prod5_pos a b c d e
  have hb : prod5 4000 100 100 100 100 < 2 ^ 5100 := by decide +kernel
  have c : ((2 ^ 5100 : Nat) : Int) = 2 ^ 5100 := by decide +kernel
  omega
theorem top5_lt {a b c d e : Int} (h : Bd a b c d e) : (top5 a b c d e).natAbs < 2 ^ 5100 := by
  obtain ⟨⟨_, _⟩, ⟨_, _⟩, ⟨_, _⟩, ⟨_, _⟩, ⟨_, _⟩⟩ := h
  exact prod5_lt (by omega) (by omega) (by omega) (by omega) (by omega)
theorem bot5_lt {a b c d e : Int} (h : Bd a b c d e) : (bot5 a b c d e).natAbs < 2 ^ 5100 := by
  obtain ⟨⟨_, _⟩, ⟨_, _⟩, ⟨_, _⟩, ⟨_, _⟩, ⟨_, _⟩⟩ := h
  exact prod5_lt (by omega) (by omega) (by omega) (by omega) (by omega)
theorem log2_of {x : Int} {k : Nat} (h : x.natAbs < 2 ^ k) (h0 : x ≠ 0) : x.natAbs.log2 < k := (Nat.log2_lt (by omega)).mpr h
/-- octaves of tones are within these -/
theorem oct_bd {a b c d e : Int} (ha : -700 ≤ a ∧ a ≤ 700) (hb : -60 ≤ b ∧ b ≤ 60) (hc : -60 ≤ c ∧ c ≤ 60) (hd : -60 ≤ d ∧ d ≤ 60) (he : -60 ≤ e ∧ e ≤ 60) :
    -1400 ≤ octR (top5 a b c d e) (bot5 a b c d e) ∧ octR (top5 a b c d e) (bot5 a b c d e) ≤ 1400 := by
  obtain ⟨g1, g2⟩ := oct_spec (top5_pos a b c d e) (bot5_pos a b c d e)
  have t1 := top5_pos a b c d e
  have b1 := bot5_pos a b c d e
  have tb : top5 a b c d e < 2 ^ 1400 := by
    have h : top5 a b c d e ≤ prod5 700 60 60 60 60 := prod5_mono (by omega) (by omega) (by omega) (by omega) (by omega)
    exact Int.lt_of_le_of_lt h (by decide +kernel)
  have bb : bot5 a b c d e < 2 ^ 1400 := by
    have h : bot5 a b c d e ≤ prod5 700 60 60 60 60 := prod5_mono (by omega) (by omega) (by omega) (by omega) (by omega)
    exact Int.lt_of_le_of_lt h (by decide +kernel)
  generalize octR (top5 a b c d e) (bot5 a b c d e) = n at *
  generalize top5 a b c d e = t at *
  generalize bot5 a b c d e = u at *
  constructor
  · apply Int.not_lt.mp
    intro hn
    apply g2
    unfold GeP
    have e1 : (n + 1).toNat = 0 := by omega
    rw [e1, Int.pow_zero, Int.one_mul]
    have h1 : (2 : Int) ^ 1400 ≤ 2 ^ (-(n + 1)).toNat := pow2_mono (by omega)
    have h2 : 2 ^ (-(n + 1)).toNat * 1 ≤ 2 ^ (-(n + 1)).toNat * t := Int.mul_le_mul_of_nonneg_left t1 (by have := pow2_pos (-(n + 1)).toNat; omega)
    rw [Int.mul_one] at h2
    exact Int.le_trans (Int.le_of_lt bb) (Int.le_trans h1 h2)
  · apply Int.not_lt.mp
    intro hn
    unfold GeP at g1
    have e1 : (-n).toNat = 0 := by omega
    rw [e1, Int.pow_zero, Int.one_mul] at g1
    have h1 : (2 : Int) ^ 1400 ≤ 2 ^ n.toNat := pow2_mono (by omega)
    have h2 : 2 ^ n.toNat * 1 ≤ 2 ^ n.toNat * u := Int.mul_le_mul_of_nonneg_left b1 (by have := pow2_pos n.toNat; omega)
    rw [Int.mul_one] at h2
    exact absurd (Int.lt_of_le_of_lt (Int.le_trans (Int.le_trans h1 h2) g1) tb) (Int.lt_irrefl _)
end Mth
namespace Mth
/-- number_of's product behind i turns -/
def PPn (e0 e1 e2 e3 e4 : Int) : Nat → Int
  | 0 => 1
  | 1 => 1 * 2 ^ e0.toNat
  | 2 => 1 * 2 ^ e0.toNat * 3 ^ e1.toNat
  | 3 => 1 * 2 ^ e0.toNat * 3 ^ e1.toNat * 5 ^ e2.toNat
  | 4 => 1 * 2 ^ e0.toNat * 3 ^ e1.toNat * 5 ^ e2.toNat * 7 ^ e3.toNat
  | _ => 1 * 2 ^ e0.toNat * 3 ^ e1.toNat * 5 ^ e2.toNat * 7 ^ e3.toNat * 11 ^ e4.toNat
theorem PPn_5 (e0 e1 e2 e3 e4 : Int) : PPn e0 e1 e2 e3 e4 5 = prod5 e0.toNat e1.toNat e2.toNat e3.toNat e4.toNat := by
  show 1 * 2 ^ e0.toNat * 3 ^ e1.toNat * 5 ^ e2.toNat * 7 ^ e3.toNat * 11 ^ e4.toNat = _
  unfold prod5; rw [Int.one_mul]
theorem mx_toNat (x : Int) : (if 0 > x then 0 else x).toNat = x.toNat := by split <;> omega
theorem pw_bd {p : Int} (hp : p.natAbs < 16) {e : Int} (he : e ≤ 4000) : (p ^ e.toNat).natAbs < 2 ^ 16001 :=
  Nat.lt_of_lt_of_le (powI_lt hp e.toNat) (Nat.pow_le_pow_right (by decide) (by omega))
theorem PPn_lt {e0 e1 e2 e3 e4 : Int} (h0 : e0 ≤ 4000) (h1 : e1 ≤ 4000) (h2 : e2 ≤ 4000) (h3 : e3 ≤ 4000) (h4 : e4 ≤ 4000) (i : Nat) : (PPn e0 e1 e2 e3 e4 i).natAbs < 2 ^ (1 + 16001 + 16001 + 16001 + 16001 + 16001) := by
  have up : ∀ {x : Int} {a b : Nat}, x.natAbs < 2 ^ a → a ≤ b → x.natAbs < 2 ^ b := fun h z => Nat.lt_of_lt_of_le h (Nat.pow_le_pow_right (by decide) z)
  have g0 : (1 : Int).natAbs < 2 ^ 1 := by decide
  have g1 := mul_lt g0 (pw_bd (p := 2) (by decide) h0)
  have g2 := mul_lt g1 (pw_bd (p := 3) (by decide) h1)
  have g3 := mul_lt g2 (pw_bd (p := 5) (by decide) h2)
  have g4 := mul_lt g3 (pw_bd (p := 7) (by decide) h3)
  have g5 := mul_lt g4 (pw_bd (p := 11) (by decide) h4)
  match i with
  | 0 => exact up g0 (by omega)
  | 1 => exact up g1 (by omega)
  | 2 => exact up g2 (by omega)
  | 3 => exact up g3 (by omega)
  | 4 => exact up g4 (by omega)
  | _ + 5 => exact up g5 (by omega)
theorem PPn_bits {e0 e1 e2 e3 e4 : Int} (hb : e0 ≤ 4000 ∧ e1 ≤ 4000 ∧ e2 ≤ 4000 ∧ e3 ≤ 4000 ∧ e4 ≤ 4000 ∧ -100000 ≤ e0 ∧ -100000 ≤ e1 ∧ -100000 ≤ e2 ∧ -100000 ≤ e3 ∧ -100000 ≤ e4) {i : Nat} {p e : Int} (hp : p.natAbs < 16) (he : e ≤ 4000) : bl (PPn e0 e1 e2 e3 e4 i) + bl (p ^ e.toNat) ≤ 1000000 := by
  obtain ⟨h0, h1, h2, h3, h4, _⟩ := hb
  have a := bl_le (PPn_lt h0 h1 h2 h3 h4 i)
  have b := bl_le (pw_bd hp he)
  omega
end Mth
namespace Mth
def sgn (x y : Int) : Int := (if decide (y < x) = true then 1 else 0) - (if decide (x < y) = true then 1 else 0)
theorem sgn_lt {x y : Int} (h : x < y) : sgn x y = -1 := by
  have h2 : ¬ y < x := by omega
  simp [sgn, h, h2]
theorem sgn_gt {x y : Int} (h : y < x) : sgn x y = 1 := by
  have h2 : ¬ x < y := by omega
  simp [sgn, h, h2]
theorem sgn_eq {x y : Int} (h1 : ¬ x < y) (h2 : ¬ y < x) : sgn x y = 0 := by simp [sgn, h1, h2]
theorem sgn_swap (x y : Int) : sgn y x = 0 - sgn x y := by
  unfold sgn
  rw [Int.zero_sub, Int.neg_sub]
theorem PPn_top (e0 e1 e2 e3 e4 : Int) : PPn e0 e1 e2 e3 e4 5 = top5 e0 e1 e2 e3 e4 := PPn_5 ..
theorem PPn_bot (e0 e1 e2 e3 e4 : Int) : PPn (0 - e0) (0 - e1) (0 - e2) (0 - e3) (0 - e4) 5 = bot5 e0 e1 e2 e3 e4 := by
  rw [PPn_5]; unfold bot5; simp only [Int.zero_sub]
end Mth
namespace Mth
theorem P5.le {p : Int} (h : P5 p) : p < 12 := by rcases h with rfl | rfl | rfl | rfl | rfl <;> decide
/-- split_up's rest behind i turns -/
def SPn (c0 c1 c2 c3 c4 : Nat) (m : Int) : Nat → Int
  | 0 => 2 ^ c0 * (3 ^ c1 * (5 ^ c2 * (7 ^ c3 * (11 ^ c4 * m))))
  | 1 => 3 ^ c1 * (5 ^ c2 * (7 ^ c3 * (11 ^ c4 * m)))
  | 2 => 5 ^ c2 * (7 ^ c3 * (11 ^ c4 * m))
  | 3 => 7 ^ c3 * (11 ^ c4 * m)
  | 4 => 11 ^ c4 * m
  | _ => m
theorem SPn_0 (c0 c1 c2 c3 c4 : Nat) (m : Int) : SPn c0 c1 c2 c3 c4 m 0 = prod5 c0 c1 c2 c3 c4 * m := by
  show 2 ^ c0 * (3 ^ c1 * (5 ^ c2 * (7 ^ c3 * (11 ^ c4 * m)))) = _
  unfold prod5; ac_rfl
theorem SPn_s0 (c0 c1 c2 c3 c4 : Nat) (m : Int) : SPn c0 c1 c2 c3 c4 m 0 = 2 ^ c0 * SPn c0 c1 c2 c3 c4 m 1 := rfl
theorem SPn_s1 (c0 c1 c2 c3 c4 : Nat) (m : Int) : SPn c0 c1 c2 c3 c4 m 1 = 3 ^ c1 * SPn c0 c1 c2 c3 c4 m 2 := rfl
theorem SPn_s2 (c0 c1 c2 c3 c4 : Nat) (m : Int) : SPn c0 c1 c2 c3 c4 m 2 = 5 ^ c2 * SPn c0 c1 c2 c3 c4 m 3 := rfl
theorem SPn_s3 (c0 c1 c2 c3 c4 : Nat) (m : Int) : SPn c0 c1 c2 c3 c4 m 3 = 7 ^ c3 * SPn c0 c1 c2 c3 c4 m 4 := rfl
theorem SPn_s4 (c0 c1 c2 c3 c4 : Nat) (m : Int) : SPn c0 c1 c2 c3 c4 m 4 = 11 ^ c4 * SPn c0 c1 c2 c3 c4 m 5 := rfl
section
variable (c0 c1 c2 c3 c4 : Nat) {m : Int} (h : Cop m)
include h
theorem SPn_n0 : SPn c0 c1 c2 c3 c4 m 1 % 2 ≠ 0 := nd_mul .p2 (nd_pow .p2 (by decide) _) (nd_mul .p2 (nd_pow .p2 (by decide) _) (nd_mul .p2 (nd_pow .p2 (by decide) _) (nd_mul .p2 (nd_pow .p2 (by decide) _) (h _ .p2))))
theorem SPn_n1 : SPn c0 c1 c2 c3 c4 m 2 % 3 ≠ 0 := nd_mul .p3 (nd_pow .p3 (by decide) _) (nd_mul .p3 (nd_pow .p3 (by decide) _) (nd_mul .p3 (nd_pow .p3 (by decide) _) (h _ .p3)))
theorem SPn_n2 : SPn c0 c1 c2 c3 c4 m 3 % 5 ≠ 0 := nd_mul .p5 (nd_pow .p5 (by decide) _) (nd_mul .p5 (nd_pow .p5 (by decide) _) (h _ .p5))
theorem SPn_n3 : SPn c0 c1 c2 c3 c4 m 4 % 7 ≠ 0 := nd_mul .p7 (nd_pow .p7 (by decide) _) (h _ .p7)
theorem SPn_n4 : SPn c0 c1 c2 c3 c4 m 5 % 11 ≠ 0 := h _ .p11
end
end Mth

namespace Mth
/-! ### tones in order, by one number -/
def NS (a b c d e : Int) : Int := prod5 (a + 4000).toNat (b + 100).toNat (c + 100).toNat (d + 100).toNat (e + 100).toNat
theorem NS_pos (a b c d e : Int) : 0 < NS a b c d e := prod5_pos ..
theorem cross {a b c d e a' b' c' d' e' : Int} (h : Bd a b c d e) (h' : Bd a' b' c' d' e') : top5 (a - a') (b - b') (c - c') (d - d') (e - e') * NS a' b' c' d' e' = bot5 (a - a') (b - b') (c - c') (d - d') (e - e') * NS a b c d e := by
  obtain ⟨⟨_, _⟩, ⟨_, _⟩, ⟨_, _⟩, ⟨_, _⟩, ⟨_, _⟩⟩ := h
  obtain ⟨⟨_, _⟩, ⟨_, _⟩, ⟨_, _⟩, ⟨_, _⟩, ⟨_, _⟩⟩ := h'
  unfold top5 bot5 NS
  rw [prod5_mul, prod5_mul]
  exact prod5_congr (by omega) (by omega) (by omega) (by omega) (by omega)
theorem lt_NS {a b c d e a' b' c' d' e' : Int} (h : Bd a b c d e) (h' : Bd a' b' c' d' e') : top5 (a - a') (b - b') (c - c') (d - d') (e - e') < bot5 (a - a') (b - b') (c - c') (d - d') (e - e') ↔ NS a b c d e < NS a' b' c' d' e' := by
  have k := cross h h'
  have p1 := top5_pos (a - a') (b - b') (c - c') (d - d') (e - e')
  have p2 := bot5_pos (a - a') (b - b') (c - c') (d - d') (e - e')
  have q1 := NS_pos a b c d e
  have q2 := NS_pos a' b' c' d' e'
  generalize top5 (a - a') (b - b') (c - c') (d - d') (e - e') = t at *
  generalize bot5 (a - a') (b - b') (c - c') (d - d') (e - e') = u at *
  generalize NS a b c d e = x at *
  generalize NS a' b' c' d' e' = y at *
  constructor
  · intro z
    refine Int.lt_of_not_ge fun w => ?_
    have h1 : t * y < u * y := Int.mul_lt_mul_of_pos_right z q2
    have h2 : u * y ≤ u * x := Int.mul_le_mul_of_nonneg_left w (by omega)
    omega
  · intro z
    refine Int.lt_of_not_ge fun w => ?_
    have h1 : u * x < u * y := Int.mul_lt_mul_of_pos_left z (by omega)
    have h2 : u * y ≤ t * y := Int.mul_le_mul_of_nonneg_right w (by omega)
    omega
theorem NS_inj {a b c d e a' b' c' d' e' : Int} (h : Bd a b c d e) (h' : Bd a' b' c' d' e') (z : NS a b c d e = NS a' b' c' d' e') : a = a' ∧ b = b' ∧ c = c' ∧ d = d' ∧ e = e' := by
  obtain ⟨⟨_, _⟩, ⟨_, _⟩, ⟨_, _⟩, ⟨_, _⟩, ⟨_, _⟩⟩ := h
  obtain ⟨⟨_, _⟩, ⟨_, _⟩, ⟨_, _⟩, ⟨_, _⟩, ⟨_, _⟩⟩ := h'
  obtain ⟨h1, h2, h3, h4, h5⟩ := prod5_inj z
  omega
/-- from 1 on and below 2 -/
def Fold (a b c d e : Int) : Prop := bot5 a b c d e ≤ top5 a b c d e ∧ top5 a b c d e < 2 * bot5 a b c d e
theorem NS_oct {a b c d e : Int} (h : Bd a b c d e) : NS (a + 1) b c d e = 2 * NS a b c d e := by
  obtain ⟨⟨h1, _⟩, _⟩ := h
  unfold NS prod5
  rw [show (a + 1 + 4000).toNat = (a + 4000).toNat + 1 by omega, Int.pow_succ]
  simp only [Int.mul_assoc, Int.mul_comm, Int.mul_left_comm]
theorem fold_NS {a b c d e : Int} (h : Bd a b c d e) : Fold a b c d e ↔ (NS 0 0 0 0 0 ≤ NS a b c d e ∧ NS a b c d e < 2 * NS 0 0 0 0 0) := by
  have z : Bd 0 0 0 0 0 := by unfold Bd; omega
  have k := cross h z
  simp only [Int.sub_zero] at k
  have p1 := top5_pos a b c d e
  have p2 := bot5_pos a b c d e
  have q1 := NS_pos a b c d e
  have q2 := NS_pos 0 0 0 0 0
  unfold Fold
  generalize top5 a b c d e = t at *
  generalize bot5 a b c d e = u at *
  generalize NS a b c d e = x at *
  generalize NS 0 0 0 0 0 = y at *
  constructor
  · rintro ⟨w1, w2⟩
    have h1 : u * y ≤ t * y := Int.mul_le_mul_of_nonneg_right w1 (by omega)
    have h2 : t * y < 2 * u * y := Int.mul_lt_mul_of_pos_right w2 q2
    refine ⟨?_, ?_⟩
    · refine Int.le_of_not_gt fun w => ?_
      have : u * x < u * y := Int.mul_lt_mul_of_pos_left w (by omega)
      omega
    · refine Int.lt_of_not_ge fun w => ?_
      have h3 : u * (2 * y) ≤ u * x := Int.mul_le_mul_of_nonneg_left w (by omega)
      have h4 : u * (2 * y) = 2 * u * y := by rw [Int.mul_left_comm, Int.mul_assoc]
      omega
  · rintro ⟨w1, w2⟩
    have h1 : u * y ≤ u * x := Int.mul_le_mul_of_nonneg_left w1 (by omega)
    have h2 : u * x < u * (2 * y) := Int.mul_lt_mul_of_pos_left w2 (by omega)
    have h4 : u * (2 * y) = 2 * u * y := by rw [Int.mul_left_comm, Int.mul_assoc]
    refine ⟨?_, ?_⟩
    · refine Int.le_of_not_gt fun w => ?_
      have : t * y < u * y := Int.mul_lt_mul_of_pos_right w q2
      omega
    · refine Int.lt_of_not_ge fun w => ?_
      have : 2 * u * y ≤ t * y := Int.mul_le_mul_of_nonneg_right w (by omega)
      omega
end Mth
namespace Mth
theorem fold_ij {b c d e : Int} {i j : Nat} (h1 : 2 ^ j * rb b c d e ≤ 2 ^ i * rt b c d e) (h2 : 2 ^ i * rt b c d e < 2 * (2 ^ j * rb b c d e)) : Fold ((i : Int) - j) b c d e := by
  have g1 : F ((i : Int) - j) (rt b c d e) (rb b c d e) := (F_mul rfl).mp h1
  have g2 : ¬ F ((i : Int) - j - 1) (rt b c d e) (rb b c d e) := fun z => by
    have z' := (F_mul (u := i) (v := j + 1) (by omega)).mpr z
    rw [Int.pow_succ] at z'
    have : 2 ^ j * 2 * rb b c d e = 2 * (2 ^ j * rb b c d e) := by rw [Int.mul_comm (2 ^ j) 2, Int.mul_assoc]
    omega
  generalize ((i : Int) - j) = n at g1 g2
  refine ⟨(le_F ..).mpr g1, Int.lt_of_not_ge fun z => g2 ?_⟩
  rw [top5_rt, bot5_rb] at z
  refine (F_mul (u := n.toNat) (v := (-n).toNat + 1) (by omega)).mp ?_
  rw [Int.pow_succ]
  have : 2 ^ (-n).toNat * 2 * rb b c d e = 2 * (2 ^ (-n).toNat * rb b c d e) := by rw [Int.mul_comm (2 ^ (-n).toNat) 2, Int.mul_assoc]
  omega
theorem rt_lt {b c d e : Int} (hb : b ≤ 30) (hc : c ≤ 30) (hd : d ≤ 30) (he : e ≤ 30) : rt b c d e < 2 ^ 400 := by
  have h : rt b c d e ≤ prod5 0 30 30 30 30 := prod5_mono (Nat.le_refl _) (by omega) (by omega) (by omega) (by omega)
  have : prod5 0 30 30 30 30 < 2 ^ 400 := by decide
  omega
theorem rb_lt {b c d e : Int} (hb : -30 ≤ b) (hc : -30 ≤ c) (hd : -30 ≤ d) (he : -30 ≤ e) : rb b c d e < 2 ^ 400 := by
  have h : rb b c d e ≤ prod5 0 30 30 30 30 := prod5_mono (Nat.le_refl _) (by omega) (by omega) (by omega) (by omega)
  have : prod5 0 30 30 30 30 < 2 ^ 400 := by decide
  omega
theorem top5_0 (b c d e : Int) : top5 0 b c d e = rt b c d e := by rw [top5_rt]; simp
theorem bot5_0 (b c d e : Int) : bot5 0 b c d e = rb b c d e := by rw [bot5_rb]; simp
theorem rt_pos (b c d e : Int) : 1 ≤ rt b c d e := prod5_pos ..
theorem rb_pos (b c d e : Int) : 1 ≤ rb b c d e := prod5_pos ..
theorem pow2_lt {i n : Nat} {x : Int} (h1 : (2 : Int) ^ i ≤ x) (h2 : x < 2 ^ n) : i < n := by
  refine Nat.lt_of_not_ge fun z => ?_
  have := pow2_mono z
  omega
end Mth
namespace Mth
theorem gt_NS {a b c d e a' b' c' d' e' : Int} (h : Bd a b c d e) (h' : Bd a' b' c' d' e') : bot5 (a - a') (b - b') (c - c') (d - d') (e - e') < top5 (a - a') (b - b') (c - c') (d - d') (e - e') ↔ NS a' b' c' d' e' < NS a b c d e := by
  rw [← lt_NS h' h, ← Int.neg_sub a, ← Int.neg_sub b, ← Int.neg_sub c, ← Int.neg_sub d, ← Int.neg_sub e, top5_neg, bot5_neg]
end Mth

namespace Mth
/-! ### lists in order: one more item put in -/
theorem pw_ins {α : Type} (f : α → Int) {qs : List α} {r : α} {n : Nat} (hs : qs.Pairwise fun a b => f a < f b) (h1 : ∀ j q, j < n → qs[j]? = some q → f q < f r) (h2 : ∀ q, qs[n]? = some q → f r < f q) :
    (qs.take n ++ r :: qs.drop n).Pairwise fun a b => f a < f b := by
  have hd : ∀ q ∈ qs.drop n, f r < f q := fun q hq => by
    cases e : qs.drop n with
    | nil => rw [e] at hq; cases hq
    | cons z zs =>
      have hz : qs[n]? = some z := by rw [← List.head?_drop, e]; rfl
      have hzr := h2 z hz
      rw [e] at hq
      rcases List.mem_cons.mp hq with rfl | hq
      · exact hzr
      · have p : (z :: zs).Pairwise fun a b => f a < f b := e ▸ hs.sublist (List.drop_sublist n qs)
        have := (List.pairwise_cons.mp p).1 q hq
        omega
  have ht : ∀ q ∈ qs.take n, f q < f r := fun q hq => by
    obtain ⟨j, hj, rfl⟩ := List.getElem_of_mem hq
    have hj' : j < n := by rw [List.length_take] at hj; omega
    refine h1 j _ hj' ?_
    rw [List.getElem_take, List.getElem?_eq_getElem (by rw [List.length_take] at hj; omega)]
  refine List.pairwise_append.mpr ⟨hs.sublist (List.take_sublist n qs), List.pairwise_cons.mpr ⟨hd, hs.sublist (List.drop_sublist n qs)⟩, fun a ha b hb => ?_⟩
  rcases List.mem_cons.mp hb with rfl | hb
  · exact ht a ha
  · have := ht a ha
    have := hd b hb
    omega
theorem pw_get {α : Type} (f : α → Int) {qs : List α} {i j : Nat} {a b : α} (hs : qs.Pairwise fun a b => f a < f b) (hij : i < j) (ha : qs[i]? = some a) (hb : qs[j]? = some b) : f a < f b := by
  obtain ⟨h1, rfl⟩ := List.getElem?_eq_some_iff.mp ha
  obtain ⟨h2, rfl⟩ := List.getElem?_eq_some_iff.mp hb
  exact List.pairwise_iff_getElem.mp hs i j h1 h2 hij
end Mth

namespace Mth
/-! ### folded tones: just one; scales: just one list in order -/
theorem NS_mono {a a' b c d e : Int} (h : a ≤ a') : NS a b c d e ≤ NS a' b c d e := prod5_mono (by omega) (Nat.le_refl _) (Nat.le_refl _) (Nat.le_refl _) (Nat.le_refl _)
theorem fold_lt {n n' b c d e : Int} (h : Bd n b c d e) (h' : Bd n' b c d e) (f : Fold n b c d e) (f' : Fold n' b c d e) : ¬ n < n' := fun z => by
  have g := (fold_NS h).mp f
  have g' := (fold_NS h').mp f'
  have k := NS_oct h
  have m := NS_mono (b := b) (c := c) (d := d) (e := e) (show n + 1 ≤ n' by omega)
  omega
theorem fold_uniq {n n' b c d e : Int} (h : Bd n b c d e) (h' : Bd n' b c d e) (f : Fold n b c d e) (f' : Fold n' b c d e) : n = n' := by
  have h1 := fold_lt h h' f f'
  have h2 := fold_lt h' h f' f
  omega
theorem fold_oct (a b c d e : Int) : Fold (a - octR (top5 a b c d e) (bot5 a b c d e)) b c d e := by
  obtain ⟨h1, h2⟩ := oct_F a b c d e
  generalize a - octR (top5 a b c d e) (bot5 a b c d e) = n at h1 h2
  refine ⟨(le_F ..).mpr h1, Int.lt_of_not_ge fun z => h2 ?_⟩
  rw [top5_rt, bot5_rb] at z
  refine (F_mul (u := n.toNat) (v := (-n).toNat + 1) (by omega)).mp ?_
  rw [Int.pow_succ]
  have : 2 ^ (-n).toNat * 2 * rb b c d e = 2 * (2 ^ (-n).toNat * rb b c d e) := by rw [Int.mul_comm (2 ^ (-n).toNat) 2, Int.mul_assoc]
  omega
theorem fold_bd {n b c d e : Int} (hb : -30 ≤ b ∧ b ≤ 30) (hc : -30 ≤ c ∧ c ≤ 30) (hd : -30 ≤ d ∧ d ≤ 30) (he : -30 ≤ e ∧ e ≤ 30) (f : Fold n b c d e) : -400 ≤ n ∧ n ≤ 400 := by
  obtain ⟨f1, f2⟩ := f
  rw [top5_rt, bot5_rb] at f1 f2
  have t1 := rt_lt (b := b) (c := c) (d := d) (e := e) (by omega) (by omega) (by omega) (by omega)
  have b1 := rb_lt (b := b) (c := c) (d := d) (e := e) (by omega) (by omega) (by omega) (by omega)
  have t2 := rt_pos b c d e
  have b2 := rb_pos b c d e
  generalize rt b c d e = t at *
  generalize rb b c d e = u at *
  refine ⟨Int.le_of_not_gt fun z => ?_, Int.le_of_not_gt fun z => ?_⟩
  · have e0 : n.toNat = 0 := by omega
    have m : (2 : Int) ^ 400 ≤ 2 ^ (-n).toNat := pow2_mono (by omega)
    have k : 2 ^ (-n).toNat * 1 ≤ 2 ^ (-n).toNat * u := Int.mul_le_mul_of_nonneg_left b2 (Int.le_of_lt (pow2_pos _))
    rw [e0, Int.pow_zero, Int.one_mul] at f1
    omega
  · have e0 : (-n).toNat = 0 := by omega
    have m : (2 : Int) ^ 401 ≤ 2 ^ n.toNat := pow2_mono (by omega)
    have k : 2 ^ n.toNat * 1 ≤ 2 ^ n.toNat * t := Int.mul_le_mul_of_nonneg_left t2 (Int.le_of_lt (pow2_pos _))
    rw [e0, Int.pow_zero, Int.one_mul] at f2
    have q : (2 : Int) ^ 401 = 2 * 2 ^ 400 := by rw [Int.pow_succ, Int.mul_comm]
    omega
/-- the measure and the one number go together -/
theorem ms_NS {a b c d e : Int} (ha : -700 ≤ a) (hb : -60 ≤ b) (hc : -60 ≤ c) (hd : -60 ≤ d) (he : -60 ≤ e) : NS a b c d e = prod5 (a + 700).toNat (b + 60).toNat (c + 60).toNat (d + 60).toNat (e + 60).toNat * prod5 3300 40 40 40 40 := by
  unfold NS
  rw [prod5_mul]
  exact prod5_congr (by omega) (by omega) (by omega) (by omega) (by omega)
theorem eq_of_order {α : Type} (f : α → Int) : ∀ {l m : List α}, (l.Pairwise fun a b => f a < f b) → (m.Pairwise fun a b => f a < f b) → (∀ x, x ∈ l ↔ x ∈ m) → l = m
  | [], [], _, _, _ => rfl
  | [], y :: m, _, _, h => absurd ((h y).mpr (List.mem_cons_self ..)) (by simp)
  | x :: l, [], _, _, h => absurd ((h x).mp (List.mem_cons_self ..)) (by simp)
  | x :: l, y :: m, hl, hm, h => by
    obtain ⟨l1, l2⟩ := List.pairwise_cons.mp hl
    obtain ⟨m1, m2⟩ := List.pairwise_cons.mp hm
    have exy : x = y := by
      rcases List.mem_cons.mp ((h x).mp (List.mem_cons_self ..)) with z | z
      · exact z
      · rcases List.mem_cons.mp ((h y).mpr (List.mem_cons_self ..)) with z2 | z2
        · exact z2.symm
        · have := m1 x z
          have := l1 y z2
          omega
    subst exy
    have hlm : ∀ z, z ∈ l ↔ z ∈ m := fun z => by
      constructor
      · intro hz
        rcases List.mem_cons.mp ((h z).mp (List.mem_cons_of_mem _ hz)) with e | e
        · subst e; have := l1 z hz; omega
        · exact e
      · intro hz
        rcases List.mem_cons.mp ((h z).mpr (List.mem_cons_of_mem _ hz)) with e | e
        · subst e; have := m1 z hz; omega
        · exact e
    rw [eq_of_order f l2 m2 hlm]
theorem perm_of_map {α β : Type} {f : α → β} {qs ps : List β} (h : qs.Perm ps) : ∀ {l : List α}, ps = l.map f → ∃ m : List α, m.Perm l ∧ qs = m.map f := by
  induction h with
  | nil => intro l e; exact ⟨[], by rw [List.map_eq_nil_iff.mp e.symm], rfl⟩
  | cons x _ ih =>
    intro l e
    cases l with
    | nil => cases e
    | cons a l =>
      rw [List.map_cons] at e
      injection e with e1 e2
      obtain ⟨m, p, q⟩ := ih e2
      exact ⟨a :: m, p.cons a, by rw [List.map_cons, q, e1]⟩
  | swap x y l0 =>
    intro l e
    match l, e with
    | a :: b :: l, e =>
      simp only [List.map_cons, List.cons.injEq] at e
      obtain ⟨e1, e2, e3⟩ := e
      exact ⟨b :: a :: l, .swap _ _ _, by rw [List.map_cons, List.map_cons, e1, e2, e3]⟩
  | trans _ _ ih1 ih2 =>
    intro l e
    obtain ⟨m, p, q⟩ := ih2 e
    obtain ⟨m', p', q'⟩ := ih1 q
    exact ⟨m', p'.trans p, q'⟩
end Mth

/-! ### readings, one step each -/
namespace L2
open PySem PySem.Spec PyProof.Rows
/-- a thing of the module: whatever the heap -/
def Fixed (K : PySem.W.Frag) (a : Addr) (xs : List V) : Prop := ∀ H, SqT K H a xs
theorem Fixed.at {K : PySem.W.Frag} {a : Addr} {xs : List V} {H : Hp} (h : Fixed K a xs) : SqT K H a xs := h H
theorem Same.lst {H H' : Hp} {a : Addr} {xs : List V} (e : Same H H') (h : H a = some (.lst xs)) : H' a = some (.lst xs) := e _ _ h
theorem Same.upd_old {H H2 : Hp} {l : Addr} {o : HO} (s : Same H H2) (h : H l = none) : Same H (upd H2 l o) := fun b u e => by
  rw [upd_ne (ne_of_none e h)]; exact s _ _ e
/-! relations with names -/
def rBl : V → Hp → (Bool → Hp → Prop) → Prop := fun x H R => ∃ c, x = .bl c ∧ R c H
def rIn1 : V → Hp → (Option Int → Hp → Prop) → Prop := fun x H R => ∃ i, x = .int i ∧ R (some i) H
def rNewT : List V → Hp → VK → Prop := fun xs H Q => xs.length ≤ sizeLine ∧ ∀ p, H p = none → Q (.ref p) (upd H p (.tup xs))
def rNewL : List V → Hp → VK → Prop := fun xs H Q => xs.length ≤ sizeLine ∧ ∀ p, H p = none → Q (.ref p) (upd H p (.lst xs))
def rLen (K : PySem.W.Frag) : List V → Hp → VK → Prop := fun xs H Q => ∃ p ys, xs = [.ref p] ∧ (SqL K H p ys ∨ SqT K H p ys) ∧ Q (.int ys.length) H
def rTupleOf (K : PySem.W.Frag) : List V → Hp → VK → Prop := fun xs H Q => ∃ p ys, xs = [.ref p] ∧ ((SqL K H p ys ∧ ∀ l, H l = none → Q (.ref l) (upd H l (.tup ys))) ∨ (SqT K H p ys ∧ Q (.ref p) H))
def rListOf (K : PySem.W.Frag) : List V → Hp → VK → Prop := fun xs H Q => ∃ p ys, xs = [.ref p] ∧ (SqL K H p ys ∨ SqT K H p ys) ∧ ∀ l, H l = none → Q (.ref l) (upd H l (.lst ys))
def rIsInst (K : PySem.W.Frag) : List V → Hp → VK → Prop := fun xs H Q => ∃ x n t b, xs = [x, .ty n] ∧ TyR K H x t ∧ PySem.W.kitOne K t (.type n) = some b ∧ Q (.bl b) H
def rAbs : List V → Hp → VK → Prop := fun xs H Q => ∃ i, xs = [.int i] ∧ Q (.int (if i < 0 then -i else i)) H
def rMax : List V → Hp → VK → Prop := fun xs H Q => ∃ i j, xs = [.int i, .int j] ∧ Q (.int (if j > i then j else i)) H
def rMin : List V → Hp → VK → Prop := fun xs H Q => ∃ i j, xs = [.int i, .int j] ∧ Q (.int (if j < i then j else i)) H
def rInt1 : List V → Hp → VK → Prop := fun xs H Q => (∃ i, xs = [.int i] ∧ Q (.int i) H) ∨ ∃ k, xs = [.bl k] ∧ Q (.int (if k then 1 else 0)) H
def rBitLen : V → List V → Hp → VK → Prop := fun x xs H Q => ∃ i, x = .int i ∧ xs = [] ∧ Q (.int (bitsI i)) H
def rItL (K : PySem.W.Frag) : V → Hp → (It → Hp → Prop) → Prop := fun x H R => ∃ a, x = .ref a ∧ (∃ xs, SqL K H a xs) ∧ R (Itl K a) H
def rItT (K : PySem.W.Frag) : V → Hp → (It → Hp → Prop) → Prop := fun x H R => ∃ a, x = .ref a ∧ (∃ xs, SqT K H a xs) ∧ R (Itt K a) H
def rItR : List V → Hp → (It → Hp → Prop) → Prop := fun vs H R => ∃ j : Int, vs = [.int j] ∧ -(2 ^ 62) ≤ j ∧ j < 2 ^ 62 ∧ R (Itr 0 j.toNat) H
def rItZ (K : PySem.W.Frag) (k1 k2 : Bool) : List V → Hp → (It → Hp → Prop) → Prop := fun vs H R => ∃ a b, vs = [.ref a, .ref b] ∧ (∃ xs, Sq k1 K H a xs) ∧ (∃ ys, Sq k2 K H b ys) ∧ R (Itz K k1 k2 a b) H
def rTyped (K : PySem.W.Frag) (T : String) (ts : TA) (r : V → List V → Hp → VK → Prop) (σ : St) (Q : VK) : V → Hp → Prop := fun x H1 => tyV K T x H1 ∧ ts σ H1 fun xs H2 => r x xs H2 Q
def rTyped0 (K : PySem.W.Frag) (T : String) (r : V → List V → Hp → VK → Prop) (Q : VK) : V → Hp → Prop := fun x H1 => tyV K T x H1 ∧ r x [] H1 Q
def ForGoal (g : TG) (tb : TS) (D : Ends) (J : It) (σ : St) (H : Hp) : Prop := ∃ W : Nat → Nat → St → Hp → Prop, (∃ m, W 0 m σ H) ∧ ∀ i m σ H, W i m σ H →
  (J.stop i H ∧ D.nx σ H) ∨ (J.go i H ∧ ∃ N : St → Hp → Prop, (∀ σ' H', N σ' H' → ∃ m', m' < m ∧ W (i + 1) m' σ' H') ∧ ∀ x H', J.yld i H x H' → g x σ H' fun σ2 H2 => tb { D with nx := N, ct := N, bk := D.nx } σ2 H2)
section
variable {X : Cx}
theorem callN_len : CallR X (.builtin "len") (rLen X.K) := call_len_seq
theorem callN_tuple : CallR X (.type "tuple") (rTupleOf X.K) := call_tuple_of
theorem callN_list : CallR X (.type "list") (rListOf X.K) := call_list_of
theorem callN_isinst : CallR X (.builtin "isinstance") (rIsInst X.K) := call_isinst
theorem callN_abs : CallR X (.builtin "abs") rAbs := call_abs
theorem callN_max (hc : X.calm = true) : CallR X (.builtin "max") rMax := call_max2 hc
theorem callN_min (hc : X.calm = true) : CallR X (.builtin "min") rMin := call_min2 hc
theorem callN_int : CallR X (.type "int") rInt1 := call_int1
theorem mtN_bitlen : MtR X "int.bit_length" rBitLen := mt_bitlen
end
section
variable {t u : TS} {D : Ends} {σ : St} {H : Hp} {te ta tb : TE} {g : TG} {tt tu : TT} {Q : VK} {i j : Int} {x y v w : V} {K : PySem.W.Frag}
theorem r_seq (h : t { D with nx := u D } σ H) : tSeq t u D σ H := h
theorem r_asg (h : te σ H fun x H1 => g x σ H1 D.nx) : tAsg te g D σ H := h
theorem r_gname {n : Nat} {R : St → Hp → Prop} (h : R (σ.set n (some v)) H) : gName n v σ H R := h
theorem r_ret (h : te σ H D.rt) : tRet te D σ H := h
theorem r_retN (h : D.rt .non H) : tRetN D σ H := h
theorem r_drop (h : te σ H fun _ H1 => D.nx σ H1) : tDrop te D σ H := h
theorem r_next (h : D.nx σ H) : tNext D σ H := h
theorem r_cont (h : D.ct σ H) : tCont D σ H := h
theorem r_break (h : D.bk σ H) : tBreak D σ H := h
theorem r_ifs {c : TT} (h : c σ H fun b H1 => if b = true then t D σ H1 else u D σ H1) : tIfS c t u D σ H := h
theorem r_var {n : Nat} (e : σ[n]? = some (some v)) (h : Q v H) : tVar n σ H Q := ⟨v, e, h⟩
theorem r_c (h : Q v H) : tC v σ H Q := h
theorem r_op {r : R2} (h : ta σ H fun x H1 => tb σ H1 fun y H2 => r x y H2 Q) : tOp r ta tb σ H Q := h
theorem r_un {r : V → Hp → VK → Prop} (h : ta σ H fun x H1 => r x H1 Q) : tUn r ta σ H Q := h
theorem r_b {R : Bool → Hp → Prop} (h : te σ H fun x H1 => rBl x H1 R) : tB te σ H R := h
theorem r_test {R : Bool → Hp → Prop} (h : te σ H fun x H1 => rBl x H1 R) : tTest te σ H R := h
theorem r_isbl {b : Bool} {R : Bool → Hp → Prop} (h : R b H) : rBl (.bl b) H R := ⟨b, rfl, h⟩
theorem r_and {R : Bool → Hp → Prop} (h : tt σ H fun c H1 => if c = true then tu σ H1 R else R false H1) : tAnd tt tu σ H R := h
theorem r_or {R : Bool → Hp → Prop} (h : tt σ H fun c H1 => if c = true then R true H1 else tu σ H1 R) : tOr tt tu σ H R := h
theorem r_not {R : Bool → Hp → Prop} (h : tt σ H fun c H1 => R (!c) H1) : tNot tt σ H R := h
theorem r_andV (h : ta σ H fun x H1 => rBl x H1 fun c H2 => if c = true then tb σ H2 Q else Q (.bl false) H2) : tAndV ta tb σ H Q := h
theorem r_orV (h : ta σ H fun x H1 => rBl x H1 fun c H2 => if c = true then Q (.bl true) H2 else tb σ H2 Q) : tOrV ta tb σ H Q := h
theorem r_notV (h : ta σ H fun x H1 => rBl x H1 fun c H2 => Q (.bl (!c)) H2) : tNotV ta σ H Q := h
theorem r_ife (h : tt σ H fun c H1 => if c = true then ta σ H1 Q else tb σ H1 Q) : tIf tt ta tb σ H Q := h
theorem r_I0 {f : Int → Int → V} (h : Q (f i j) H) : rI0 f (.int i) (.int j) H Q := ⟨i, j, rfl, rfl, h⟩
theorem r_I {C : Int → Int → Prop} {f : Int → Int → V} (c : C i j) (h : Q (f i j) H) : rI C f (.int i) (.int j) H Q := ⟨i, j, rfl, rfl, c, h⟩
theorem r_U {f : Int → V} (h : Q (f i) H) : rU f (.int i) H Q := ⟨i, rfl, h⟩
theorem decI {i j : Int} : decide (V.int i = V.int j) = decide (i = j) := by
  by_cases e : i = j
  · subst e; simp
  · rw [decide_eq_false e]; exact decide_eq_false fun z => e (by injection z)
theorem decB {i j : Bool} : decide (V.bl i = V.bl j) = decide (i = j) := by
  by_cases e : i = j
  · subst e; simp
  · rw [decide_eq_false e]; exact decide_eq_false fun z => e (by injection z)
theorem r_eqI (h : Q (.bl (decide (i = j))) H) : rEq (.int i) (.int j) H Q := ⟨rfl, by rw [decI]; exact h⟩
theorem r_neI (h : Q (.bl (!decide (i = j))) H) : rNe (.int i) (.int j) H Q := ⟨rfl, by rw [decI]; exact h⟩
theorem r_eqB {b c : Bool} (h : Q (.bl (decide (b = c))) H) : rEq (.bl b) (.bl c) H Q := ⟨rfl, by rw [decB]; exact h⟩
theorem r_neB {b c : Bool} (h : Q (.bl (!decide (b = c))) H) : rNe (.bl b) (.bl c) H Q := ⟨rfl, by rw [decB]; exact h⟩
theorem r_nil {R : List V → Hp → Prop} (h : R [] H) : tNil σ H R := h
theorem r_cons {ts : TA} {R : List V → Hp → Prop} (h : te σ H fun x H1 => ts σ H1 fun xs H2 => R (x :: xs) H2) : tCons te ts σ H R := h
theorem r_tup {ts : TA} (h : ts σ H fun xs H1 => rNewT xs H1 Q) : tTup ts σ H Q := h
theorem r_lst {ts : TA} (h : ts σ H fun xs H1 => rNewL xs H1 Q) : tLst ts σ H Q := h
theorem r_newT {xs : List V} (hl : xs.length ≤ 1000) (h : ∀ p H2, Same H H2 → H2 p = some (.tup xs) → Q (.ref p) H2) : rNewT xs H Q :=
  ⟨Nat.le_of_lt (small1000 hl), fun p hp => h p _ (Same.upd_new hp) upd_same⟩
theorem r_newL {xs : List V} (hl : xs.length ≤ 1000) (h : ∀ p H2, H p = none → Same H H2 → H2 p = some (.lst xs) → Q (.ref p) H2) : rNewL xs H Q :=
  ⟨Nat.le_of_lt (small1000 hl), fun p hp => h p _ hp (Same.upd_new hp) upd_same⟩
theorem r_cb {r : List V → Hp → VK → Prop} {ts : TA} (h : ts σ H fun vs H1 => r vs H1 Q) : tCB r ts σ H Q := h
theorem r_call {sp : Sp} {dvs : List V} {E : XK} {ts : TA} (h : ts σ H fun vs H1 => sp (vs ++ dvs) H1 Q E) : tCall sp dvs E ts σ H Q := h
theorem r_comp {ix : List (Option Nat)} {wi : TI} (h : wi σ H fun J H1 => CompGoal ix g tt te σ Q J H1) : tComp ix wi g tt te σ H Q := h
theorem r_sl {r : V → Option Int → Option Int → Hp → VK → Prop} {tl th : TO} (h : te σ H fun x H1 => tl σ H1 fun l H2 => th σ H2 fun u H3 => r x l u H3 Q) : tSl r te tl th σ H Q := h
theorem r_nopart {R : Option Int → Hp → Prop} (h : R none H) : tNoPart σ H R := h
theorem r_part {R : Option Int → Hp → Prop} (h : te σ H fun x H1 => rIn1 x H1 R) : tPart te σ H R := h
theorem r_isint {R : Option Int → Hp → Prop} (h : R (some i) H) : rIn1 (.int i) H R := ⟨i, rfl, h⟩
theorem r_bm {T : String} {r : V → List V → Hp → VK → Prop} {ts : TA} (h : te σ H fun x H1 => rTyped K T ts r σ Q x H1) : tBM K T r te ts σ H Q := h
theorem r_bm0 {T : String} {r : V → List V → Hp → VK → Prop} (h : te σ H fun x H1 => rTyped0 K T r Q x H1) : tBM0 K T r te σ H Q := h
theorem r_for {wi : TI} {tb : TS} (h : wi σ H fun J H1 => ForGoal g tb D J σ H1) : tFor wi g tb D σ H := h
theorem r_ilist {R : It → Hp → Prop} (h : te σ H fun x H1 => rItL K x H1 R) : iList K te σ H R := h
theorem r_itup {R : It → Hp → Prop} (h : te σ H fun x H1 => rItT K x H1 R) : iTup K te σ H R := h
theorem r_irng {ts : TA} {R : It → Hp → Prop} (h : ts σ H fun vs H1 => rItR vs H1 R) : iRng1 ts σ H R := h
theorem r_izip {k1 k2 : Bool} {ts : TA} {R : It → Hp → Prop} (h : ts σ H fun vs H1 => rItZ K k1 k2 vs H1 R) : iZip2 K k1 k2 ts σ H R := h
theorem r_isl {a : Addr} {xs : List V} {R : It → Hp → Prop} (e : SqL K H a xs) (h : R (Itl K a) H) : rItL K (.ref a) H R := ⟨a, rfl, ⟨_, e⟩, h⟩
theorem r_ist {a : Addr} {xs : List V} {R : It → Hp → Prop} (e : SqT K H a xs) (h : R (Itt K a) H) : rItT K (.ref a) H R := ⟨a, rfl, ⟨_, e⟩, h⟩
theorem r_isr {R : It → Hp → Prop} (h1 : -1000000 ≤ j) (h2 : j ≤ 1000000) (h : R (Itr 0 j.toNat) H) : rItR [.int j] H R := ⟨j, rfl, by omega, by omega, h⟩
theorem r_isz {k1 k2 : Bool} {a b : Addr} {xs ys : List V} {R : It → Hp → Prop} (e1 : Sq k1 K H a xs) (e2 : Sq k2 K H b ys) (h : R (Itz K k1 k2 a b) H) : rItZ K k1 k2 [.ref a, .ref b] H R := ⟨a, b, rfl, ⟨_, e1⟩, ⟨_, e2⟩, h⟩
theorem sqt_sq {a : Addr} {xs : List V} (h : SqT K H a xs) : Sq true K H a xs := h
theorem sql_sq {a : Addr} {xs : List V} (h : SqL K H a xs) : Sq false K H a xs := h
/-! indices, lengths, items -/
theorem r_ixT {a : Addr} {xs : List V} (e : SqT K H a xs) (n : atI xs i = some v) (h : Q v H) : rIx K (.ref a) (.int i) H Q := .inr (.inl ⟨a, xs, i, v, rfl, rfl, e, n, h⟩)
theorem r_ixL {a : Addr} {xs : List V} (e : SqL K H a xs) (n : atI xs i = some v) (h : Q v H) : rIx K (.ref a) (.int i) H Q := .inl ⟨a, xs, i, v, rfl, rfl, e, n, h⟩
theorem r_lenT {a : Addr} {xs : List V} (e : SqT K H a xs) (h : Q (.int xs.length) H) : rLen K [.ref a] H Q := ⟨a, xs, rfl, .inr e, h⟩
theorem r_lenL {a : Addr} {xs : List V} (e : SqL K H a xs) (h : Q (.int xs.length) H) : rLen K [.ref a] H Q := ⟨a, xs, rfl, .inl e, h⟩
theorem r_tupleL {a : Addr} {xs : List V} (e : SqL K H a xs) (h : ∀ p H2, Same H H2 → H2 p = some (.tup xs) → Q (.ref p) H2) : rTupleOf K [.ref a] H Q :=
  ⟨a, xs, rfl, .inl ⟨e, fun p hp => h p _ (Same.upd_new hp) upd_same⟩⟩
theorem r_tupleT {a : Addr} {xs : List V} (e : SqT K H a xs) (h : Q (.ref a) H) : rTupleOf K [.ref a] H Q := ⟨a, xs, rfl, .inr ⟨e, h⟩⟩
theorem r_listL {a : Addr} {xs : List V} (e : SqL K H a xs) (h : ∀ p H2, H p = none → Same H H2 → H2 p = some (.lst xs) → Q (.ref p) H2) : rListOf K [.ref a] H Q := ⟨a, xs, rfl, .inl e, fun p hp => h p _ hp (Same.upd_new hp) upd_same⟩
theorem r_listT {a : Addr} {xs : List V} (e : SqT K H a xs) (h : ∀ p H2, H p = none → Same H H2 → H2 p = some (.lst xs) → Q (.ref p) H2) : rListOf K [.ref a] H Q := ⟨a, xs, rfl, .inr e, fun p hp => h p _ hp (Same.upd_new hp) upd_same⟩
theorem r_abs (h : Q (.int (if i < 0 then -i else i)) H) : rAbs [.int i] H Q := ⟨i, rfl, h⟩
theorem r_max (h : Q (.int (if j > i then j else i)) H) : rMax [.int i, .int j] H Q := ⟨i, j, rfl, h⟩
theorem r_min (h : Q (.int (if j < i then j else i)) H) : rMin [.int i, .int j] H Q := ⟨i, j, rfl, h⟩
theorem r_int1 (h : Q (.int i) H) : rInt1 [.int i] H Q := .inl ⟨i, rfl, h⟩
theorem r_int1b {b : Bool} (h : Q (.int (if b then 1 else 0)) H) : rInt1 [.bl b] H Q := .inr ⟨b, rfl, h⟩
theorem r_bitlen (h : Q (.int (bitsI i)) H) : rBitLen (.int i) [] H Q := ⟨i, rfl, rfl, h⟩
theorem r_typed {T : String} {ts : TA} {r : V → List V → Hp → VK → Prop} (e : tyV K T x H) (h : ts σ H fun xs H2 => r x xs H2 Q) : rTyped K T ts r σ Q x H := ⟨e, h⟩
theorem r_typed0 {T : String} {r : V → List V → Hp → VK → Prop} (e : tyV K T x H) (h : r x [] H Q) : rTyped0 K T r Q x H := ⟨e, h⟩
theorem r_append {l : Addr} {xs : List V} (e : H l = some (.lst xs)) (n : xs.length ≤ 1000) (h : Q .non (upd H l (.lst (xs ++ [y])))) : rAppend (.ref l) [y] H Q := ⟨l, xs, y, rfl, rfl, e, small1000 n, h⟩
theorem r_eqT {a b : Addr} {ns ms : List Int} (e1 : SqT K H a (ns.map V.int)) (e2 : SqT K H b (ms.map V.int)) (h : Q (.bl (decide (ns = ms))) H) : rEqT K (.ref a) (.ref b) H Q := ⟨a, b, ns, ms, rfl, rfl, e1, e2, h⟩
theorem r_cat {a b : Addr} {xs ys : List V} (e1 : H a = some (.lst xs)) (e2 : H b = some (.lst ys)) (n : xs.length + ys.length ≤ 1000) (h : ∀ p H2, H p = none → Same H H2 → H2 p = some (.lst (xs ++ ys)) → Q (.ref p) H2) : rCat (.ref a) (.ref b) H Q :=
  ⟨a, b, xs, ys, rfl, rfl, e1, e2, Nat.le_of_lt (small1000 n), fun p hp => h p _ hp (Same.upd_new hp) upd_same⟩
theorem r_catT {a b : Addr} {xs ys : List V} (e1 : SqT K H a xs) (e2 : SqT K H b ys) (n1 : xs ≠ []) (n2 : ys ≠ []) (n : xs.length + ys.length ≤ 1000) (h : ∀ p H2, Same H H2 → H2 p = some (.tup (xs ++ ys)) → Q (.ref p) H2) : rCatT K (.ref a) (.ref b) H Q :=
  ⟨a, b, xs, ys, rfl, rfl, e1, e2, n1, Nat.le_of_lt (small1000 n), fun z => absurd z n2, fun _ p hp => h p _ (Same.upd_new hp) upd_same⟩
theorem r_slT {a : Addr} {xs : List V} {lo hi : Option Int} (e : SqT K H a xs) (n : ¬ (HT.sIx xs.length 0 lo = 0 ∧ HT.sIx xs.length xs.length hi = xs.length)) (h : ∀ p H2, Same H H2 → H2 p = some (.tup (cutV xs lo hi)) → Q (.ref p) H2) : rSlT K (.ref a) lo hi H Q :=
  ⟨a, xs, rfl, e, n, fun p hp => h p _ (Same.upd_new hp) upd_same⟩
theorem r_slL {a : Addr} {xs : List V} {lo hi : Option Int} (e : SqL K H a xs) (h : ∀ p H2, H p = none → Same H H2 → H2 p = some (.lst (cutV xs lo hi)) → Q (.ref p) H2) : rSlL K (.ref a) lo hi H Q :=
  ⟨a, xs, rfl, e, fun p hp => h p _ hp (Same.upd_new hp) upd_same⟩
/-! types -/
theorem r_isiT {a : Addr} {xs : List V} {n : String} {b : Bool} (e : SqT K H a xs) (k : PySem.W.kitOne K (.type "tuple") (.type n) = some b) (h : Q (.bl b) H) : rIsInst K [.ref a, .ty n] H Q := ⟨_, n, _, b, rfl, .inr (.inl ⟨a, xs, rfl, e, rfl⟩), k, h⟩
theorem r_isiL {a : Addr} {xs : List V} {n : String} {b : Bool} (e : SqL K H a xs) (k : PySem.W.kitOne K (.type "list") (.type n) = some b) (h : Q (.bl b) H) : rIsInst K [.ref a, .ty n] H Q := ⟨_, n, _, b, rfl, .inr (.inr ⟨a, xs, rfl, e, rfl⟩), k, h⟩
theorem r_isiI {n : String} {b : Bool} (k : PySem.W.kitOne K (.type "int") (.type n) = some b) (h : Q (.bl b) H) : rIsInst K [.int i, .ty n] H Q := ⟨_, n, _, b, rfl, .inl (.int _), k, h⟩
theorem r_isiB {c : Bool} {n : String} {b : Bool} (k : PySem.W.kitOne K (.type "bool") (.type n) = some b) (h : Q (.bl b) H) : rIsInst K [.bl c, .ty n] H Q := ⟨_, n, _, b, rfl, .inl (.bl _), k, h⟩
/-! loops -/
theorem f_range {lo : Int} {n : Nat} {tb : TS} (Pv : Nat → St → Hp → Prop) (h0 : Pv 0 σ H) (hs : ∀ i σ H, i < n → Pv i σ H → g (.int (lo + i)) σ H fun σ2 H2 => tb { D with nx := Pv (i + 1), ct := Pv (i + 1), bk := D.nx } σ2 H2) (hd : ∀ σ H, Pv n σ H → D.nx σ H) : ForGoal g tb D (Itr lo n) σ H := for_range Pv h0 hs hd
theorem f_list {a : Addr} {xs : List V} {tb : TS} (Pv : Nat → St → Hp → Prop) (h0 : Pv 0 σ H) (hl : ∀ i σ H, i ≤ xs.length → Pv i σ H → SqL K H a xs)
    (hs : ∀ i x σ H, xs[i]? = some x → Pv i σ H → g x σ H fun σ2 H2 => tb { D with nx := Pv (i + 1), ct := Pv (i + 1), bk := D.nx } σ2 H2) (hd : ∀ σ H, Pv xs.length σ H → D.nx σ H) : ForGoal g tb D (Itl K a) σ H := for_list Pv h0 hl hs hd
theorem f_tup {a : Addr} {xs : List V} {tb : TS} (Pv : Nat → St → Hp → Prop) (h0 : Pv 0 σ H) (hl : ∀ i σ H, i ≤ xs.length → Pv i σ H → SqT K H a xs)
    (hs : ∀ i x σ H, xs[i]? = some x → Pv i σ H → g x σ H fun σ2 H2 => tb { D with nx := Pv (i + 1), ct := Pv (i + 1), bk := D.nx } σ2 H2) (hd : ∀ σ H, Pv xs.length σ H → D.nx σ H) : ForGoal g tb D (Itt K a) σ H := for_tup Pv h0 hl hs hd
/-- n turns, the heap only grows -/
theorem f_any {J : It} {tb : TS} (n : Nat) (Pv : Nat → St → Prop) (h0 : Pv 0 σ) (hgo : ∀ i H2, i < n → Same H H2 → J.go i H2) (hstop : ∀ H2, Same H H2 → J.stop n H2)
    (hs : ∀ i x σ H2 H3, i < n → Pv i σ → Same H H2 → J.yld i H2 x H3 → g x σ H3 fun σ2 H4 => tb { D with nx := fun σ' H' => Pv (i + 1) σ' ∧ Same H H', ct := fun σ' H' => Pv (i + 1) σ' ∧ Same H H', bk := D.nx } σ2 H4) (hd : ∀ σ H2, Pv n σ → Same H H2 → D.nx σ H2) : ForGoal g tb D J σ H := by
  refine ⟨fun i m σ2 H2 => m = n - i ∧ i ≤ n ∧ Pv i σ2 ∧ Same H H2, ⟨n, by simp, Nat.zero_le _, h0, Same.refl _⟩, ?_⟩
  rintro i m σ2 H2 ⟨rfl, hi, p, s⟩
  by_cases hlt : i < n
  · exact .inr ⟨hgo i H2 hlt s, fun σ' H' => Pv (i + 1) σ' ∧ Same H H', fun σ' H' p' => ⟨n - (i + 1), by omega, rfl, hlt, p'.1, p'.2⟩, fun x H' y => hs i x σ2 H2 H' hlt p s y⟩
  · have e : i = n := by omega
    subst e
    exact .inl ⟨hstop H2 s, hd σ2 H2 p s⟩
theorem f_rng {lo : Int} {n : Nat} {tb : TS} (Pv : Nat → St → Prop) (h0 : Pv 0 σ) (hs : ∀ i σ H2, i < n → Pv i σ → Same H H2 → g (.int (lo + i)) σ H2 fun σ2 H4 => tb { D with nx := fun σ' H' => Pv (i + 1) σ' ∧ Same H H', ct := fun σ' H' => Pv (i + 1) σ' ∧ Same H H', bk := D.nx } σ2 H4)
    (hd : ∀ σ H2, Pv n σ → Same H H2 → D.nx σ H2) : ForGoal g tb D (Itr lo n) σ H := by
  refine f_any n Pv h0 (fun i H2 hi _ => hi) (fun H2 _ => Nat.le_refl _) (fun i x σ H2 H3 hi p s y => ?_) hd
  obtain ⟨rfl, rfl⟩ := y
  exact hs i σ _ hi p s
/-- over a tuple, a list -/
theorem f_tupS {a : Addr} {xs : List V} {tb : TS} (ha : SqT K H a xs) (Pv : Nat → St → Prop) (h0 : Pv 0 σ) (hs : ∀ i x σ H2, xs[i]? = some x → Pv i σ → Same H H2 → g x σ H2 fun σ2 H4 => tb { D with nx := fun σ' H' => Pv (i + 1) σ' ∧ Same H H', ct := fun σ' H' => Pv (i + 1) σ' ∧ Same H H', bk := D.nx } σ2 H4)
    (hd : ∀ σ H2, Pv xs.length σ → Same H H2 → D.nx σ H2) : ForGoal g tb D (Itt K a) σ H := by
  refine f_any xs.length Pv h0 (fun i H2 hi s => ⟨_, xs[i], s.at ha, by simp [hi]⟩) (fun H2 s => ⟨_, s.at ha, Nat.le_refl _⟩) (fun i x σ H2 H3 hi p s y => ?_) hd
  obtain ⟨rfl, e⟩ := y
  exact hs i x σ _ (e _ (s.at ha)) p s
theorem f_listS {a : Addr} {xs : List V} {tb : TS} (ha : SqL K H a xs) (Pv : Nat → St → Prop) (h0 : Pv 0 σ) (hs : ∀ i x σ H2, xs[i]? = some x → Pv i σ → Same H H2 → g x σ H2 fun σ2 H4 => tb { D with nx := fun σ' H' => Pv (i + 1) σ' ∧ Same H H', ct := fun σ' H' => Pv (i + 1) σ' ∧ Same H H', bk := D.nx } σ2 H4)
    (hd : ∀ σ H2, Pv xs.length σ → Same H H2 → D.nx σ H2) : ForGoal g tb D (Itl K a) σ H := by
  refine f_any xs.length Pv h0 (fun i H2 hi s => ⟨_, xs[i], s.seq ha, by simp [hi]⟩) (fun H2 s => ⟨_, s.seq ha, Nat.le_refl _⟩) (fun i x σ H2 H3 hi p s y => ?_) hd
  obtain ⟨rfl, e⟩ := y
  exact hs i x σ _ (e _ (s.seq ha)) p s
/-- over zip(a, b) with targets in the slots m, n: the heap grows by the pairs -/
theorem f_zip {k1 k2 : Bool} {a b : Addr} {xs ys : List V} {m n : Nat} {tb : TS} (ha : Sq k1 K H a xs) (hb : Sq k2 K H b ys) (hlen : xs.length = ys.length) (Pv : Nat → St → Prop) (h0 : Pv 0 σ)
    (hs : ∀ i x y σ H2, xs[i]? = some x → ys[i]? = some y → Pv i σ → Same H H2 → tb { D with nx := fun σ' H' => Pv (i + 1) σ' ∧ Same H H', ct := fun σ' H' => Pv (i + 1) σ' ∧ Same H H', bk := D.nx } ((σ.set m (some x)).set n (some y)) H2)
    (hd : ∀ σ H2, Pv xs.length σ → Same H H2 → D.nx σ H2) : ForGoal (gTup K 2 (gCons (gName m) (gCons (gName n) gNil))) tb D (Itz K k1 k2 a b) σ H := by
  refine f_any xs.length Pv h0 (fun i H2 hi s => ?_) (fun H2 s => ?_) (fun i x σ H2 H3 hi p s hy => ?_) hd
  · exact ⟨_, _, xs[i], ys[i]'(hlen ▸ hi), s.sq ha, s.sq hb, List.getElem?_eq_getElem hi, List.getElem?_eq_getElem (hlen ▸ hi)⟩
  · exact ⟨_, _, s.sq ha, s.sq hb, .inl (Nat.le_refl _)⟩
  · obtain ⟨q, x', y', rfl, hq, e1, e2, rfl⟩ := hy
    refine ⟨q, _, rfl, SqT.of upd_same, rfl, _, _, rfl, _, _, rfl, rfl, ?_⟩
    have s2 : Same H2 (upd H2 q (.tup [x', y'])) := Same.upd_new hq
    exact hs i x' y' σ _ (e1 _ (s.sq ha)) (e2 _ (s.sq hb)) p (s.trans s2)
/-- .. where the body fills a list l that is new: ys i are its items behind i turns -/
theorem f_fill {J : It} {tb : TS} {l : Addr} {H0 : Hp} (hl0 : H0 l = none) (hs0 : Same H0 H) (n : Nat) (ys : Nat → List V) (Pv : Nat → St → Prop) (hl : H l = some (.lst (ys 0))) (h0 : Pv 0 σ) (hgo : ∀ i H2, i < n → Same H0 H2 → J.go i H2) (hstop : ∀ H2, Same H0 H2 → J.stop n H2)
    (hs : ∀ i x σ H2 H3, i < n → Pv i σ → Same H0 H2 → H2 l = some (.lst (ys i)) → J.yld i H2 x H3 → g x σ H3 fun σ2 H4 => tb { D with nx := fun σ' H' => Pv (i + 1) σ' ∧ Same H0 H' ∧ H' l = some (.lst (ys (i + 1))), ct := fun σ' H' => Pv (i + 1) σ' ∧ Same H0 H' ∧ H' l = some (.lst (ys (i + 1))), bk := D.nx } σ2 H4) (hd : ∀ σ H2, Pv n σ → Same H0 H2 → H2 l = some (.lst (ys n)) → D.nx σ H2) : ForGoal g tb D J σ H := by
  refine ⟨fun i m σ2 H2 => m = n - i ∧ i ≤ n ∧ Pv i σ2 ∧ Same H0 H2 ∧ H2 l = some (.lst (ys i)), ⟨n, by simp, Nat.zero_le _, h0, hs0, hl⟩, ?_⟩
  rintro i m σ2 H2 ⟨rfl, hi, p, s, q⟩
  by_cases hlt : i < n
  · exact .inr ⟨hgo i H2 hlt s, fun σ' H' => Pv (i + 1) σ' ∧ Same H0 H' ∧ H' l = some (.lst (ys (i + 1))), fun σ' H' p' => ⟨n - (i + 1), by omega, rfl, hlt, p'.1, p'.2.1, p'.2.2⟩, fun x H' y => hs i x σ2 H2 H' hlt p s q y⟩
  · have e : i = n := by omega
    subst e
    exact .inl ⟨hstop H2 s, hd σ2 H2 p s q⟩
theorem f_fillR {lo : Int} {n : Nat} {tb : TS} {l : Addr} {H0 : Hp} (hl0 : H0 l = none) (hs0 : Same H0 H) (ys : Nat → List V) (Pv : Nat → St → Prop) (hl : H l = some (.lst (ys 0))) (h0 : Pv 0 σ)
    (hs : ∀ i σ H2, i < n → Pv i σ → Same H0 H2 → H2 l = some (.lst (ys i)) → g (.int (lo + i)) σ H2 fun σ2 H4 => tb { D with nx := fun σ' H' => Pv (i + 1) σ' ∧ Same H0 H' ∧ H' l = some (.lst (ys (i + 1))), ct := fun σ' H' => Pv (i + 1) σ' ∧ Same H0 H' ∧ H' l = some (.lst (ys (i + 1))), bk := D.nx } σ2 H4)
    (hd : ∀ σ H2, Pv n σ → Same H0 H2 → H2 l = some (.lst (ys n)) → D.nx σ H2) : ForGoal g tb D (Itr lo n) σ H := by
  refine f_fill hl0 hs0 n ys Pv hl h0 (fun i H2 hi _ => hi) (fun H2 _ => Nat.le_refl _) (fun i x σ H2 H3 hi p s q y => ?_) hd
  obtain ⟨rfl, rfl⟩ := y
  exact hs i σ _ hi p s q
end
theorem kit_int_bool (K : PySem.W.Frag) : PySem.W.kitOne K (.type "int") (.type "bool") = some false := by rfl
theorem if_tt {c : Bool} {A B : Prop} (e : c = true) (h : A) : if c = true then A else B := by rw [if_pos e]; exact h
theorem if_ff {c : Bool} {A B : Prop} (e : c = false) (h : B) : if c = true then A else B := by rw [e]; exact iteF h
/-- an end that is wanted of either way -/
theorem if_both {c : Bool} {A B : Prop} (h1 : c = true → A) (h2 : c = false → B) : if c = true then A else B := by
  cases c with
  | true => exact iteT (h1 rfl)
  | false => exact iteF (h2 rfl)
end L2

namespace L2
open PySem PySem.Spec PyProof.Rows
section
variable {t u : TS} {D : Ends} {σ : St} {H : Hp} {te ta tb : TE} {g : TG} {tt tu : TT} {Q : VK} {i j : Int} {x y v w : V} {K : PySem.W.Frag} {X : Cx}
theorem r_call0 {sp : Sp} {E : XK} {ts : TA} (h : ts σ H fun vs H1 => sp vs H1 Q E) : tCall sp [] E ts σ H Q := by
  unfold tCall
  simp only [List.append_nil]
  exact h
/-- a turn of a while -/
def WGo (tb : TS) (D : Ends) (W : Nat → St → Hp → Prop) (m : Nat) (σ : St) (H1 : Hp) : Prop := ∃ N : St → Hp → Prop, (∀ σ' H', N σ' H' → ∃ m', m' < m ∧ W m' σ' H') ∧ tb { D with nx := N, ct := N, bk := D.nx } σ H1
theorem f_while {c : TT} {tb : TS} (W : Nat → St → Hp → Prop) (m : Nat) (h0 : W m σ H) (hs : ∀ m σ H, W m σ H → c σ H fun b H1 => if b = true then WGo tb D W m σ H1 else D.nx σ H1) : tWhile c tb D σ H := ⟨W, ⟨m, h0⟩, hs⟩
theorem w_go {tb : TS} {W : Nat → St → Hp → Prop} {m : Nat} (h : tb { D with nx := fun σ' H' => ∃ m', m' < m ∧ W m' σ' H', ct := fun σ' H' => ∃ m', m' < m ∧ W m' σ' H', bk := D.nx } σ H) : WGo tb D W m σ H := ⟨_, fun _ _ z => z, h⟩
/-- a list or a tuple -/
def Itk (K : PySem.W.Frag) (k : Bool) (a : Addr) : It := match k with | true => Itt K a | false => Itl K a
def rItK (K : PySem.W.Frag) (k : Bool) : V → Hp → (It → Hp → Prop) → Prop := fun x H R => ∃ a, x = .ref a ∧ (∃ xs, Sq k K H a xs) ∧ R (Itk K k a) H
def iSeq (K : PySem.W.Frag) (k : Bool) (tl : TE) : TI := fun σ H R => tl σ H fun x H1 => rItK K k x H1 R
theorem pi_seq (k : Bool) {tg l : Expr} {tl : TE} (hl : PE X l tl) : PI X tg l (iSeq X.K k tl) := by
  cases k with
  | true => exact pi_tup hl
  | false => exact pi_list hl
theorem r_iseq {k : Bool} {R : It → Hp → Prop} (h : te σ H fun x H1 => rItK K k x H1 R) : iSeq K k te σ H R := h
theorem r_isk {k : Bool} {a : Addr} {xs : List V} {R : It → Hp → Prop} (e : Sq k K H a xs) (h : R (Itk K k a) H) : rItK K k (.ref a) H R := ⟨a, rfl, ⟨_, e⟩, h⟩
theorem rd_mapSeq {k : Bool} {a : Addr} {r : List Int} {ix : List (Option Nat)} {σ : St} {te : TE} (F : Int → V) (fr : St) (hpk : pick ix σ = none :: fr) (ha : Sq k K H a (r.map V.int)) (hn : r.length ≤ 1000)
    (step : ∀ x H' (Qc : VK), x ∈ r → Same H H' → (∀ H5, Same H' H5 → Qc (F x) H5) → te (some (.int x) :: fr) H' Qc)
    (hQ : ∀ l H', H l = none → Same H H' → H' l = some (.lst (r.map F)) → Q (.ref l) H') : CompGoal ix (gName 0) (fun _ H Q => Q true H) te σ Q (Itk K k a) H := by
  cases k with
  | true => exact rd_mapRow F fr hpk ha hn step hQ
  | false => exact rd_mapList F fr hpk ha hn step hQ
/-- loops that leave the heap as it is -/
theorem f_rngE {lo : Int} {n : Nat} {tb : TS} (Pv : Nat → St → Prop) (h0 : Pv 0 σ) (hs : ∀ i σ, i < n → Pv i σ → g (.int (lo + i)) σ H fun σ2 H4 => tb { D with nx := fun σ' H' => Pv (i + 1) σ' ∧ H' = H, ct := fun σ' H' => Pv (i + 1) σ' ∧ H' = H, bk := D.nx } σ2 H4)
    (hd : ∀ σ, Pv n σ → D.nx σ H) : ForGoal g tb D (Itr lo n) σ H := by
  refine for_range (fun i σ2 H2 => Pv i σ2 ∧ H2 = H) ⟨h0, rfl⟩ (fun i σ2 H2 hi p => ?_) (fun σ2 H2 p => ?_)
  · obtain ⟨p, rfl⟩ := p
    exact hs i σ2 hi p
  · obtain ⟨p, rfl⟩ := p
    exact hd σ2 p
theorem f_tupE {a : Addr} {xs : List V} {tb : TS} (ha : SqT K H a xs) (Pv : Nat → St → Prop) (h0 : Pv 0 σ) (hs : ∀ i x σ, xs[i]? = some x → Pv i σ → g x σ H fun σ2 H4 => tb { D with nx := fun σ' H' => Pv (i + 1) σ' ∧ H' = H, ct := fun σ' H' => Pv (i + 1) σ' ∧ H' = H, bk := D.nx } σ2 H4)
    (hd : ∀ σ, Pv xs.length σ → D.nx σ H) : ForGoal g tb D (Itt K a) σ H := by
  refine for_tup (xs := xs) (fun i σ2 H2 => Pv i σ2 ∧ H2 = H) ⟨h0, rfl⟩ (fun i σ2 H2 _ p => ?_) (fun i x σ2 H2 hi p => ?_) (fun σ2 H2 p => ?_)
  · obtain ⟨p, rfl⟩ := p
    exact ha
  · obtain ⟨p, rfl⟩ := p
    exact hs i x σ2 hi p
  · obtain ⟨p, rfl⟩ := p
    exact hd σ2 p
end
end L2

/-! ### the same rules, K said outright (within a comprehension K must not hang on the block) -/
namespace L2
open PySem PySem.Spec PyProof.Rows
section
variable {X : Cx} (K : PySem.W.Frag) (hK : X.K = K)
include hK
theorem kN_len : CallR X (.builtin "len") (rLen K) := hK ▸ callN_len
theorem kN_tuple : CallR X (.type "tuple") (rTupleOf K) := hK ▸ callN_tuple
theorem kN_list : CallR X (.type "list") (rListOf K) := hK ▸ callN_list
theorem kN_isinst : CallR X (.builtin "isinstance") (rIsInst K) := hK ▸ callN_isinst
theorem kx_seq : IxR X (rIx K) := hK ▸ ix_seq
theorem ksl_tup : SlR X (rSlT K) := hK ▸ sl_tup
theorem ksl_list : SlR X (rSlL K) := hK ▸ sl_list
theorem kop_eqT (hu : X.A.units + 1 < cLine) : OpR X (compareOp .Eq) (rEqT K) := hK ▸ op_eqT hu
theorem kop_catT : OpR X (binaryOp .Add) (rCatT K) := hK ▸ op_catT
theorem kop_in : OpR X (compareOp .In) (rIn K false) := hK ▸ op_in_seq
theorem kop_notIn : OpR X (compareOp .NotIn) (rIn K true) := hK ▸ op_notIn_seq
theorem kpi_list {tg l : Expr} {tl : TE} (hl : PE X l tl) : PI X tg l (iList K tl) := hK ▸ pi_list hl
theorem kpi_tup {tg l : Expr} {tl : TE} (hl : PE X l tl) : PI X tg l (iTup K tl) := hK ▸ pi_tup hl
theorem kpi_seq (k : Bool) {tg l : Expr} {tl : TE} (hl : PE X l tl) : PI X tg l (iSeq K k tl) := hK ▸ pi_seq k hl
theorem kpi_zip2 (k1 k2 : Bool) {es : List Expr} {kk : Nat} {tpos : Pos} {a b : Expr} {ta : TA} {p pos : Pos} (hg : Gl X "zip") (hm : X.mg "zip" = none) (ha : PA X [a, b] ta) (hs : starEach [a, b] X.env = [(false, eval a X.env), (false, eval b X.env)] := by rfl) (hs2 : starEach [b] X.env = [(false, eval b X.env)] := by rfl) :
    PI X (.Tuple es kk tpos) (.Call (.Name "zip" p) [a, b] [] pos) (iZip2 K k1 k2 ta) := hK ▸ pi_zip2 k1 k2 hg hm ha hs hs2
theorem kpg_tup {es : List Expr} {k : Nat} {t : TGs} {n : Nat} {pos : Pos} (hc : X.calm = true) (h : PGs X es t)
    (hn : (assignEach es X.env).length = n := by rfl) (hst : (assignEach es X.env).findIdx? (·.1) = none := by rfl) : PG X (.Tuple es k pos) (gTup K n t) := hK ▸ pg_tup hc h hn hst
end
end L2

namespace Mth
theorem bits_bl (x : Int) : L2.bitsI x = bl x := rfl
theorem PPn_mul {e0 e1 e2 e3 e4 : Int} (hb : e0 ≤ 4000 ∧ e1 ≤ 4000 ∧ e2 ≤ 4000 ∧ e3 ≤ 4000 ∧ e4 ≤ 4000 ∧ -100000 ≤ e0 ∧ -100000 ≤ e1 ∧ -100000 ≤ e2 ∧ -100000 ≤ e3 ∧ -100000 ≤ e4) {i : Nat} {p e : Int} (hp : p.natAbs < 16) (he : e ≤ 4000) : L2.CMulB (PPn e0 e1 e2 e3 e4 i) (p ^ e.toNat) := PPn_bits hb hp he
end Mth

namespace L2
open PySem PySem.Spec PyProof.Rows
section
variable {σ : St} {H : Hp} {te : TE} {Q : VK} {K : PySem.W.Frag} {ix : List (Option Nat)}
/-- [.. for x in a row], the row's five numbers said -/
theorem rd_row5 {a : Addr} {x0 x1 x2 x3 x4 : Int} (F : Int → V) (fr : St) (hpk : pick ix σ = none :: fr) (ha : SqT K H a [.int x0, .int x1, .int x2, .int x3, .int x4])
    (step : ∀ x H' (Qc : VK), Same H H' → (∀ H5, Same H' H5 → Qc (F x) H5) → te (some (.int x) :: fr) H' Qc)
    (hQ : ∀ l H', H l = none → Same H H' → H' l = some (.lst [F x0, F x1, F x2, F x3, F x4]) → Q (.ref l) H') : CompGoal ix (gName 0) (fun _ H Q => Q true H) te σ Q (Itt K a) H :=
  rd_mapRow (r := [x0, x1, x2, x3, x4]) F fr hpk ha (by show 5 ≤ 1000; decide) (fun x H' Qc _ s k => step x H' Qc s k) hQ
/-- [x op y for x, y in zip(a, b)], lists or tuples, both of five numbers -/
theorem rd_zip5 {k1 k2 : Bool} {a b : Addr} {x0 x1 x2 x3 x4 y0 y1 y2 y3 y4 : Int} (op : Int → Int → Int) (hpk : pick ix σ = [none, none]) (ha : Sq k1 K H a [.int x0, .int x1, .int x2, .int x3, .int x4]) (hb : Sq k2 K H b [.int y0, .int y1, .int y2, .int y3, .int y4])
    (hQ : ∀ l H', H l = none → Same H H' → H' l = some (.lst [.int (op x0 y0), .int (op x1 y1), .int (op x2 y2), .int (op x3 y3), .int (op x4 y4)]) → Q (.ref l) H') :
    CompGoal ix (gTup K 2 (gCons (gName 0) (gCons (gName 1) gNil))) (fun _ H Q => Q true H) (tOp (rI0 fun i j => .int (op i j)) (tVar 0) (tVar 1)) σ Q (Itz K k1 k2 a b) H := by
  refine rd_compZ (k1 := k1) (k2 := k2) [] (fun i => .int (op ([x0, x1, x2, x3, x4].getD i 0) ([y0, y1, y2, y3, y4].getD i 0))) hpk ha hb rfl (by show 5 ≤ 1000000; decide) (fun i x y H' Qc ex ey hs kc => ?_) hQ
  obtain ⟨rfl, _⟩ := int_get (r := [x0, x1, x2, x3, x4]) ex
  obtain ⟨rfl, _⟩ := int_get (r := [y0, y1, y2, y3, y4]) ey
  exact ⟨_, rfl, _, rfl, _, _, rfl, rfl, kc _ (Same.refl _)⟩
end
end L2

namespace Mth
theorem sgn_rev (a0 a1 a2 a3 a4 b0 b1 b2 b3 b4 : Int) : sgn (top5 (b0 - a0) (b1 - a1) (b2 - a2) (b3 - a3) (b4 - a4)) (bot5 (b0 - a0) (b1 - a1) (b2 - a2) (b3 - a3) (b4 - a4)) = 0 - sgn (top5 (a0 - b0) (a1 - b1) (a2 - b2) (a3 - b3) (a4 - b4)) (bot5 (a0 - b0) (a1 - b1) (a2 - b2) (a3 - b3) (a4 - b4)) := by
  rw [← Int.neg_sub a0, ← Int.neg_sub a1, ← Int.neg_sub a2, ← Int.neg_sub a3, ← Int.neg_sub a4, top5_neg, bot5_neg]
  exact sgn_swap _ _
theorem sub_both (a b c : Int) : c - a - (c - b) = b - a := by omega
theorem add_both (a b c : Int) : a + c - (b + c) = a - b := by omega
end Mth

namespace L2
open PySem PySem.Spec PyProof.Rows
section
variable {σ : St} {H : Hp} {te : TE} {Q : VK} {K : PySem.W.Frag} {ix : List (Option Nat)}
theorem rd_range5 (F : Int → V) (fr : St) (hpk : pick ix σ = none :: fr)
    (step : ∀ (i : Nat) H' (Qc : VK), i < 5 → Same H H' → (∀ H5, Same H' H5 → Qc (F (i : Int)) H5) → te (some (.int (i : Int)) :: fr) H' Qc)
    (hQ : ∀ l H', H l = none → Same H H' → H' l = some (.lst [F 0, F 1, F 2, F 3, F 4]) → Q (.ref l) H') : CompGoal ix (gName 0) (fun _ H Q => Q true H) te σ Q (Itr 0 (Int.toNat 5)) H :=
  rd_range (n := 5) F fr hpk (by decide) step hQ
theorem rd_row5m {a : Addr} {x0 x1 x2 x3 x4 : Int} (F : Int → V) (fr : St) (hpk : pick ix σ = none :: fr) (ha : SqT K H a [.int x0, .int x1, .int x2, .int x3, .int x4])
    (step : ∀ x H' (Qc : VK), (x = x0 ∨ x = x1 ∨ x = x2 ∨ x = x3 ∨ x = x4) → Same H H' → (∀ H5, Same H' H5 → Qc (F x) H5) → te (some (.int x) :: fr) H' Qc)
    (hQ : ∀ l H', H l = none → Same H H' → H' l = some (.lst [F x0, F x1, F x2, F x3, F x4]) → Q (.ref l) H') : CompGoal ix (gName 0) (fun _ H Q => Q true H) te σ Q (Itt K a) H :=
  rd_mapRow (r := [x0, x1, x2, x3, x4]) F fr hpk ha (by show 5 ≤ 1000; decide) (fun x H' Qc hx s k => step x H' Qc (by simpa using hx) s k) hQ
end
end L2

namespace L2
open PySem PySem.Spec PyProof.Rows
section
variable {H : Hp} {Q : VK} {K : PySem.W.Frag}
theorem cut_tail (x : V) (xs : List V) : cutV (x :: xs) (some 1) none = xs := by
  have e : HT.sIx (x :: xs).length 0 (some 1) = 1 := by
    have h := HT.sIx_nat (x :: xs).length 0 1
    simp only [List.length_cons] at h ⊢
    have h2 : min 1 (xs.length + 1) = 1 := by omega
    rw [h2] at h
    exact h
  unfold cutV
  rw [e, HT.sIx_none]
  simp
theorem r_slL1 {a : Addr} {x : V} {xs : List V} (e : SqL K H a (x :: xs)) (h : ∀ p H2, H p = none → Same H H2 → H2 p = some (.lst xs) → Q (.ref p) H2) : rSlL K (.ref a) (some 1) none H Q :=
  r_slL e fun p H2 n s m => h p H2 n s (by rw [cut_tail] at m; exact m)
theorem r_slT1 {a : Addr} {x : V} {xs : List V} (e : SqT K H a (x :: xs)) (h : ∀ p H2, Same H H2 → H2 p = some (.tup xs) → Q (.ref p) H2) : rSlT K (.ref a) (some 1) none H Q :=
  r_slT e (fun z => by
    have h2 := HT.sIx_nat (x :: xs).length 0 1
    have h3 : HT.sIx (x :: xs).length 0 (some 1) = min 1 (x :: xs).length := h2
    rw [h3] at z
    have := z.1
    simp only [List.length_cons] at this
    omega) fun p H2 s m => h p H2 s (by rw [cut_tail] at m; exact m)
end
end L2
namespace Mth
theorem sgn_nn {x y : Int} (h : y ≤ x) : ¬ sgn x y < 0 := by
  have h2 : ¬ x < y := by omega
  unfold sgn
  rw [decide_eq_false h2]
  by_cases h3 : y < x
  · rw [decide_eq_true h3]; decide
  · rw [decide_eq_false h3]; decide
theorem sgn_neg {x y : Int} (h : ¬ y ≤ x) : ¬ 0 ≤ sgn x y := by
  rw [sgn_lt (by omega)]; decide
end Mth

namespace L2
open PySem PySem.Spec PyProof.Rows
/-- the heap without what stands at l -/
def rm (H : Hp) (l : Addr) : Hp := fun b => if b = l then none else H b
theorem rm_at {H : Hp} {l : Addr} : rm H l l = none := by unfold rm; rw [if_pos rfl]
theorem rm_ne {H : Hp} {l b : Addr} (h : b ≠ l) : rm H l b = H b := by unfold rm; rw [if_neg h]
theorem rm_same {H : Hp} {l : Addr} : Same (rm H l) H := fun b o e => by
  by_cases h : b = l
  · subst h; rw [rm_at] at e; cases e
  · rw [rm_ne h] at e; exact e
theorem rm_sqT {K : PySem.W.Frag} {H : Hp} {l a : Addr} {xs ys : List V} (h : SqT K H a xs) (hl : H l = some (.lst ys)) : SqT K (rm H l) a xs := by
  have ne : ∀ {o}, H a = some o → (∀ zs, o ≠ .lst zs) → a ≠ l := fun {o} e n z => by subst z; rw [hl] at e; exact n _ (Option.some.inj e).symm
  rcases h with (h | ⟨o, h⟩) | h
  · exact .inl (.inl (by rw [rm_ne (ne h fun _ z => nomatch z)]; exact h))
  · exact .inl (.inr ⟨o, by rw [rm_ne (ne h fun _ z => nomatch z)]; exact h⟩)
  · exact .inr h
theorem rm_sqL {K : PySem.W.Frag} {H : Hp} {l a : Addr} {xs : List V} (h : SqL K H a xs) (n : a ≠ l) : SqL K (rm H l) a xs := by
  rcases h with (h | ⟨o, h⟩) | h
  · exact .inl (.inl (by rw [rm_ne n]; exact h))
  · exact .inl (.inr ⟨o, by rw [rm_ne n]; exact h⟩)
  · exact .inr h
section
variable {H : Hp} {Q : VK} {K : PySem.W.Frag}
theorem r_eqT5 {a b : Addr} {a0 a1 a2 a3 a4 b0 b1 b2 b3 b4 : Int} (e1 : SqT K H a [.int a0, .int a1, .int a2, .int a3, .int a4]) (e2 : SqT K H b [.int b0, .int b1, .int b2, .int b3, .int b4]) (h : Q (.bl (decide ([a0, a1, a2, a3, a4] = [b0, b1, b2, b3, b4]))) H) : rEqT K (.ref a) (.ref b) H Q :=
  r_eqT (ns := [a0, a1, a2, a3, a4]) (ms := [b0, b1, b2, b3, b4]) e1 e2 h
end
end L2

/-! ### exceptions of the program's own classes: their class, as isinstance asks it -/
namespace L2
open PySem PySem.Spec PyProof.Rows PySem.W
/-- what K must say of an exception class: its getattribute, no getattr, its __class__, object and BaseException above it -/
structure XCls (K : Frag) (C : Addr) : Prop where
  ga : findIn K (.ref C) "__getattribute__" = some (some (.builtin "BaseException.__getattribute__"))
  gt : findIn K (.ref C) "__getattr__" = some none
  fc : findObj K C none "__class__" = some (.bind (.builtin "getset_descriptor.__get__") (.builtin "object.__class__"))
  ob : mroIn K C (.type "object") = some true
  be : subIn K (.ref C) (.type "BaseException") = some true
  cl : (clsIn K C).isSome = true
section
variable {prog : Program} {w : World} {A : Around} {E : Value → Shared → Prop} {s : Shared} {K : Frag} {x C : Addr} {ox : Obj}
theorem exc_class {Q : Option Value → Shared → Prop} (V : XCls K C) (X : K.In s.heap) (I : InstAt s.heap x ox C none) (h : Q (some (.ref C)) { s with toks := s.toks + 1 }) :
    wpAny (model prog w) A (getAttr? (.ref x) "__class__") Q E s := by
  obtain ⟨hh, g, d, t, os⟩ := s
  have L0 := I.type (M := model prog w)
  have L1 := looks_findIn (M := model prog w) X V.ga
  have L2 := looks_findIn (M := model prog w) X V.gt
  have L3 := looks_find (M := model prog w) X I V.fc
  have L4 := looks_subIn (M := model prog w) X V.be
  have f3 := F.attr_ValueError.ga.bind (.ref x)
  unfold getAttr? getAttrBy? getAttrBy
  refine wpAny_bind (wpAny_mkText (wpAny_bind (wpAny_attempt (wpAny_holding (wpAny_bind (L0.at (wpAny_bind (L1.at ?_))))))))
  have hx2 : (Value.builtin "BaseException.__getattribute__" == Value.builtin "object.__getattribute__") = false := by decide +kernel
  have hx1 : (onTheHeap (Value.ref C) && Value.builtin "BaseException.__getattribute__" == Value.builtin "object.__getattribute__") = false := by rw [hx2]; rfl
  dsimp only
  rw [hx1]
  simp only [Bool.false_eq_true, if_false]
  unfold getAttrByItsOwn hookBefore
  rw [if_pos (show onTheHeap (Value.ref C) = true from rfl)]
  refine wpAny_bind (L2.at (wpAny_bind (wpAny_attempt (wpAny_holding ?_))))
  unfold callGetattribute boundAndCalled
  rw [if_neg (by decide)]
  rw [f3]
  refine wpAny_bind (wpAny_pure (wpAny_call ?_))
  refine codeAny_call_builtin F.attr_ValueError.ga.plain F.entry_bexc_ga ?_
  have hk : builtinKind "BaseException.__getattribute__" = some .slot := by decide +kernel
  have hsplit : splitId "BaseException.__getattribute__" = some ("BaseException", "__getattribute__") := by decide +kernel
  have ha := F.args_bexc_ga (.ref x) (.str "__class__" t)
  simp only [checkBuiltinCall, hk, hsplit]
  refine wpAny_bind ?_
  unfold isInstance
  refine wpAny_bind (L0.at (L4.at ?_))
  rw [if_neg (by decide)]
  refine wpAny_of_eq (a := ()) ha ?_
  show wpAny _ _ (Builtin.«object.__getattribute__» ⟨[.ref x, .str "__class__" t], []⟩) _ _ _
  unfold Builtin.«object.__getattribute__»
  refine wpAny_bind (wpAny_pure ?_)
  refine wpAny_bind (wpAny_pure (wpAny_bind (L0.at (wpAny_bind (L3.at ?_)))))
  show wpAny _ _ (holding [.builtin "object.__class__"] (call (.builtin "getset_descriptor.__get__") [.builtin "object.__class__", .ref x, .ref C]) >>= ret) _ _ _
  refine wpAny_bind (wpAny_holding (wpAny_call (class_get (s := ⟨hh, g, d, t + 1, os⟩) X I V.ob ?_)))
  refine wpAny_pure ?_
  show wpAny _ _ (handedOut (.ref C)) _ _ _
  rw [handedOut_of rfl]
  exact wpAny_pure (wpAny_pure h)
end
end L2

namespace L2
open PySem PySem.Spec PyProof.Rows PySem.W
theorem kitx_exc {K : Frag} {a C : Addr} (V : XCls K C) : KitX K (.ref a) (.ref C) (fun h => ∃ ox, PySem.W.InstAt h a ox C none) where
  ty := fun _ _ _ ⟨_, I⟩ => I.type
  it := fun _ _ X _ => by
    obtain ⟨cd, hc⟩ := Option.isSome_iff_exists.mp V.cl
    unfold clsIn at hc
    split at hc
    · rename_i c' d' cd' sl' ho
      intro A' Q' E' s' k q
      unfold isType loadHead
      exact wpAny_bind (wpAny_loadPart (k _ _ (X _ _ ho)) (wpAny_pure q))
    · cases hc
  ne := fun h tp dd its n sl X htp => by
    obtain ⟨cd, hc⟩ := Option.isSome_iff_exists.mp V.cl
    refine Bool.eq_false_iff.mpr fun q => ?_
    have e : C = tp := Value.ref.inj (beq_iff_eq.mp q)
    subst e
    unfold clsIn at hc
    split at hc
    · rename_i c' d' cd' sl' ho
      have z := (X _ _ ho).symm.trans htp
      cases z
    · cases hc
  ca := fun X ⟨_, I⟩ k => exc_class V X I k
/-- an exception as a tracked thing -/
def ExcO (a C : Addr) : HO := .ext fun h => ∃ ox, PySem.W.InstAt h a ox C none
/-! ### an exception passes a frame: noteFrame, then setFlight none -/
section
variable {M : Model} {A : Around} {E : Value → Shared → Prop} {s : Shared}
theorem entry_core {base : Heap} {env : Env} {outer : List Env} {L e : Addr} {oe : Obj} {vs : Array Value} {head : Value} {hadNext : Bool} {Q : Unit → Shared → Prop}
    (hfr : A.frames = some (env :: outer)) (hl : s.heap.FunFrames base (env :: outer)) (hf : env.frame = some L)
    (he : s.heap.get? e = some oe) (hd : oe.data = .fields vs) (hsz : 1 < vs.size)
    (h : ∀ h' T, (∀ b o, b ≠ e → b ∉ frs (env :: outer) → s.heap.get? b = some o → h'.get? b = some o) → (∀ b o, b ≠ e → s.heap.get? b = some o → ∃ sl, h'.get? b = some { o with slots := sl }) →
      s.heap.get? T = none → T ≠ e → h'.get? e = some (oe.mapFields (·.setIfInBounds 1 (.ref T))) → (∃ oT ts, h'.get? T = some oT ∧ oT.data = .fields ts ∧ ts[3]? = some .none) → Q () { s with heap := h' }) :
    wpAny M A (do let a ← frameOf env; let pl ← entryPlaceOf L hadNext; let b ← EntryCells.newEntry head a .none (rawInt L) .none pl; setField (.ref e) 1 b) (fun _ s' => wpAny M A (setFlight (.ref e) none) Q E s') E s := by
  have hene : e ∉ (env :: outer).filterMap (·.frame) := fun hm => by
    obtain ⟨_, o, ho, hnf⟩ := hl.mem hm
    rw [he] at ho; injection ho with ho; subst ho; exact hnf vs hd
  refine wpAny_bind (wpAny_frameOf_fun hfr hl hf fun h₁ hs₁ => ?_)
  refine wpAny_bind (wpAny_entryPlaceOf fun pl hpl => ?_)
  unfold EntryCells.newEntry newFields
  refine wpAny_bind (wpAny_newObj_type ?_ (hpl.sizeOk5 _ _ _ _ _))
  have he₁ : h₁.get? e = some oe := (hs₁.2.1 e hene).trans he
  have he₂ := Heap.get?_push_of_some (h := h₁) { cls := .type "traceback", dict := none, data := .fields ([head, .ref L, .none, rawInt L, .none] ++ (if pl.isEmpty then List.replicate 6 Value.none else pl)).toArray } he₁
  refine wpAny_setField he₂ hd hsz ?_
  have hTe : h₁.objs.size ≠ e := Nat.ne_of_gt (Heap.lt_size he₁)
  have hd₃ := Obj.data_mapFields hd (·.setIfInBounds 1 (Value.ref h₁.objs.size))
  have he₃ := Heap.get?_update_self (Obj.mapFields (·.setIfInBounds 1 (Value.ref h₁.objs.size))) he₂ (Obj.isFreed_of_fields hd₃)
  have hT₃ := (Heap.get?_update_other (h₁.push { cls := .type "traceback", dict := none, data := .fields ([head, .ref L, .none, rawInt L, .none] ++ (if pl.isEmpty then List.replicate 6 Value.none else pl)).toArray })
    (Obj.mapFields (·.setIfInBounds 1 (Value.ref h₁.objs.size))) (Ne.symm hTe)).trans (Heap.get?_push_size h₁ rfl)
  unfold setFlight
  refine wpAny_bind (wpAny_field he₃ hd₃ (x := .ref h₁.objs.size) (by simp [hsz]) ?_)
  rw [if_pos (show (Value.ref h₁.objs.size != Value.none) = true from by simp)]
  have keep : ∀ b o, b ≠ e → h₁.get? b = some o →
      (((h₁.push { cls := .type "traceback", dict := none, data := .fields ([head, .ref L, .none, rawInt L, .none] ++ (if pl.isEmpty then List.replicate 6 Value.none else pl)).toArray }).update e (Obj.mapFields (·.setIfInBounds 1 (Value.ref h₁.objs.size)))).update h₁.objs.size
        (Obj.mapFields (·.setIfInBounds 3 ((none : Option Addr).elim Value.none fun f => rawInt f)))).get? b = some o := fun b o hbe hb => by
    have hbT : h₁.objs.size ≠ b := Nat.ne_of_gt (Heap.lt_size hb)
    rw [Heap.get?_update_other _ _ hbT, Heap.get?_update_other _ _ (Ne.symm hbe)]
    exact Heap.get?_push_of_some _ hb
  refine wpAny_setField hT₃ rfl (by simp only [List.size_toArray, List.length_append, List.length_cons, List.length_nil] <;> omega) (h _ h₁.objs.size (fun b o hbe hbf hb => keep b o hbe ((hs₁.2.1 b hbf).trans hb)) (fun b o hbe hb => ?_) (Heap.get?_none_of_le (by rw [hs₁.1]; exact Nat.le_refl _)) hTe ?_ ?_)
  · obtain ⟨sl, hs⟩ := hs₁.2.2 b o hb
    exact ⟨sl, keep b _ hbe hs⟩
  · rw [Heap.get?_update_other _ _ hTe]; exact he₃
  · exact ⟨_, _, Heap.get?_update_self _ hT₃ (Obj.isFreed_of_fields (Obj.data_mapFields rfl _)), Obj.data_mapFields rfl _, by first | (simp; done) | (rcases hpl with rfl | ⟨_, _, _, _, _, _, _, rfl⟩ <;> simp)⟩
/-- the exception has no traceback yet (T0 = none), or one whose mark is down -/
def HeadOk (h : Heap) (e : Addr) (vs : Array Value) : Option Addr → Prop
  | none => vs[1]? = some .none
  | some T => vs[1]? = some (.ref T) ∧ T ≠ e ∧ ∃ oT ts, h.get? T = some oT ∧ oT.data = .fields ts ∧ ts[3]? = some .none
theorem note_core {base : Heap} {env : Env} {outer : List Env} {L e : Addr} {oe : Obj} {vs : Array Value} {T0 : Option Addr} {Q : Unit → Shared → Prop}
    (hfr : A.frames = some (env :: outer)) (hl : s.heap.FunFrames base (env :: outer)) (hf : env.frame = some L)
    (he : s.heap.get? e = some oe) (hd : oe.data = .fields vs) (hh : HeadOk s.heap e vs T0)
    (h : ∀ h' T, (∀ b o, b ≠ e → some b ≠ T0 → b ∉ frs (env :: outer) → s.heap.get? b = some o → h'.get? b = some o) → (∀ b o, b ≠ e → some b ≠ T0 → s.heap.get? b = some o → ∃ sl, h'.get? b = some { o with slots := sl }) →
      s.heap.get? T = none → T ≠ e → h'.get? e = some (oe.mapFields (·.setIfInBounds 1 (.ref T))) → (∃ oT ts, h'.get? T = some oT ∧ oT.data = .fields ts ∧ ts[3]? = some .none) → Q () { s with heap := h' }) :
    wpAny M A (noteFrame (.ref e) env) (fun _ s' => wpAny M A (setFlight (.ref e) none) Q E s') E s := by
  unfold noteFrame
  simp only [hf]
  cases T0 with
  | none =>
    have h1 : vs[1]? = some .none := hh
    refine wpAny_bind (wpAny_field he hd h1 ?_)
    rw [if_neg (by decide)]
    exact entry_core hfr hl hf he hd (Array.getElem?_eq_some_iff.mp h1).1 fun h' T k1 k2 k3 k4 k5 k6 => h h' T (fun b o b1 _ b3 b4 => k1 b o b1 b3 b4) (fun b o b1 _ b3 => k2 b o b1 b3) k3 k4 k5 k6
  | some T =>
    obtain ⟨h1, hTe, oT, ts, hT, hdT, h3⟩ := hh
    refine wpAny_bind (wpAny_field he hd h1 ?_)
    rw [if_pos (show (Value.ref T != Value.none) = true from by simp)]
    refine wpAny_bind (wpAny_field hT hdT h3 ?_)
    rw [if_neg (show ¬ ((Value.none == rawInt L) = true) from by simp [rawInt])]
    refine wpAny_bind (wpAny_setField hT hdT (Array.getElem?_eq_some_iff.mp h3).1 ?_)
    have other : ∀ b, b ≠ T → (s.heap.update T (Obj.mapFields (·.setIfInBounds 3 Value.none))).get? b = s.heap.get? b := fun b hb => Heap.get?_update_other _ _ (Ne.symm hb)
    have noRecord : ∀ b o, s.heap.get? b = some o → (∀ vs, o.data ≠ .fields vs) → b ≠ T := fun b o hb hnf q => by
      rw [q, hT] at hb; injection hb with hb; subst hb; exact hnf ts hdT
    have hT2 := Heap.get?_update_self (Obj.mapFields (·.setIfInBounds 3 Value.none)) hT (Obj.isFreed_of_fields (Obj.data_mapFields hdT _))
    refine entry_core hfr (hl.of_keeps fun b o hb hnf => ⟨o, (other b (noRecord b o hb hnf)).trans hb, rfl⟩) hf ((other e (Ne.symm hTe)).trans he) hd (Array.getElem?_eq_some_iff.mp h1).1 fun h' T' k1 k2 k3 k4 k5 k6 => ?_
    refine h h' T' (fun b o b1 b2 b3 b4 => k1 b o b1 b3 ((other b fun z => b2 (by rw [z])).trans b4)) (fun b o b1 b2 b4 => k2 b o b1 ((other b fun z => b2 (by rw [z])).trans b4)) ?_ k4 k5 k6
    by_cases hq : T' = T
    · rw [hq, hT2] at k3; cases k3
    · rw [other T' hq] at k3; exact k3
/-- setFlight none once more -/
theorem flight_again {e : Addr} {oe : Obj} {vs : Array Value} {T : Addr} {Q : Unit → Shared → Prop} (he : s.heap.get? e = some oe) (hd : oe.data = .fields vs) (hh : HeadOk s.heap e vs (some T))
    (h : ∀ h', (∀ b o, b ≠ T → s.heap.get? b = some o → h'.get? b = some o) → (∃ oT ts, h'.get? T = some oT ∧ oT.data = .fields ts ∧ ts[3]? = some .none) → Q () { s with heap := h' }) : wpAny M A (setFlight (.ref e) none) Q E s := by
  obtain ⟨h1, hTe, oT, ts, hT, hdT, h3⟩ := hh
  have hsz3 : 3 < ts.size := (Array.getElem?_eq_some_iff.mp h3).1
  unfold setFlight
  refine wpAny_bind (wpAny_field he hd h1 ?_)
  rw [if_pos (show (Value.ref T != Value.none) = true from by simp)]
  refine wpAny_setField hT hdT hsz3 (h _ (fun b o hb e => (Heap.get?_update_other _ _ (Ne.symm hb)).trans e) ⟨_, _, Heap.get?_update_self _ hT (Obj.isFreed_of_fields (Obj.data_mapFields hdT _)), Obj.data_mapFields hdT _, ?_⟩)
  simp [hsz3]
end
end L2

namespace L2
open PySem PySem.Spec PyProof.Rows PySem.W
theorem ObjOk.there {P : Program} {w : World} {H : Hp} {h : Heap} {a : Addr} {o : HO} (x : ObjOk P w H h a o) : ∃ ob, h.get? a = some ob := by
  cases o with
  | lst xs => obtain ⟨_, _, _, _, e⟩ := x; exact ⟨_, e⟩
  | tup xs => obtain ⟨_, _, _, ob, e, _⟩ := x; exact ⟨_, e⟩
  | dK kvs => obtain ⟨_, _, _, _, o, _, _, e, _⟩ := x; exact ⟨_, e⟩
  | dT kvs => obtain ⟨_, _, _, _, o, _, _, e, _⟩ := x; exact ⟨_, e⟩
  | set S n => obtain ⟨o, _, _, _, e, _⟩ := x; exact ⟨_, e⟩
  | ins C dx fs => obtain ⟨_, _, _, e, _⟩ := x; exact ⟨_, e⟩
  | own y => obtain ⟨_, e⟩ := x; exact ⟨_, e⟩
  | xd fs => obtain ⟨_, ⟨_, _, _, e, _⟩, _⟩ := x; exact ⟨_, e⟩
  | rng lo hi => obtain ⟨_, _, _, e⟩ := x; exact ⟨_, e⟩
  | frz ob u => obtain ⟨e, _⟩ := x; exact ⟨_, e⟩
  | tbl ps => exact ⟨_, (show h.get? a = some _ from x)⟩
  | met f y => exact ⟨_, (show h.get? a = some _ from x)⟩
  | ext φ => obtain ⟨_, ⟨_, e⟩, _⟩ := x; exact ⟨_, e⟩
theorem HOk.free {P : Program} {w : World} {H : Hp} {h : Heap} {a : Addr} (x : HOk P w H h) (e : h.get? a = none) : H a = none := by
  cases q : H a with
  | none => rfl
  | some o => obtain ⟨ob, z⟩ := (x a o q).there; rw [e] at z; cases z
/-- an exception of the class at C stands at a: not tracked, new since h0, no pin -/
def Exc (h : Heap) (H : Hp) (h0 : Heap) (ps : List (Addr × Obj)) (a C : Addr) : Prop := ∃ oe vs T0, h.get? a = some oe ∧ oe.cls = .ref C ∧ oe.dict = none ∧ oe.data = .fields vs ∧ 1 < vs.size ∧ HeadOk h a vs T0 ∧ H a = none ∧ (h0.get? a = none ∧ ∀ p ∈ ps, p.1 ≠ a) ∧
  ∀ T, T0 = some T → H T = none ∧ h0.get? T = none ∧ ∀ p ∈ ps, p.1 ≠ T
/-- how an exception lies behind a call -/
def CX1 (P : Program) (w : World) : CXT := fun outer H s E e s' => ∃ a C H', e = .ref a ∧ s'.os = s.os ∧ AllBare s'.gens ∧ Un (frs outer) [] H H' s.heap s'.heap ∧ HOk P w H' s'.heap ∧ Exc s'.heap H' s.heap [] a C ∧ E (.ref C) none H'
/-- what is wanted of an exception within a body: by its class, the names and the heap -/
abbrev EXT := Addr → St → Hp → Prop
def XW (X : Cx) (EX : EXT) : Value → Shared → Prop := fun e s' => ∃ a C σ' H', e = .ref a ∧ Inv X.nox [] σ' H' s' ∧ Exc s'.heap H' X.s₀.heap X.pn a C ∧ EX C σ' H'
theorem mapFields_dict (o : Obj) (f : Array Value → Array Value) : (o.mapFields f).dict = o.dict := by
  unfold Obj.mapFields; split <;> rfl
/-- it leaves the def -/
theorem leaves {P : Program} {w : World} {K : PySem.W.Frag} {mg : Str → Option Value} {base : Heap} {N : List Str} {qual : Str} {scope : Scope} {f : Addr} {cd : Value} {A : Around} {outer : List Env} {s : Shared} {H : Hp} {E : XK} {e : Value} {s' : Shared}
    (h : XW (cxOf (CX1 P w) P w K mg base N qual scope f cd A outer s H E) (fun C _ H' => E (.ref C) none H') e s') : (cxOf (CX1 P w) P w K mg base N qual scope f cd A outer s H E).xe e s' := by
  obtain ⟨a, C, σ', H', rfl, I, ⟨oe, vs, T0, he, hc, hdi, hd, hsz, hh, hHa, ⟨h0a, _⟩, hT⟩, hE⟩ := h
  have h0a' : s.heap.get? a = none := h0a
  have hT' : ∀ T, T0 = some T → H' T = none ∧ s.heap.get? T = none := fun T z => ⟨(hT T z).1, (hT T z).2.1⟩
  show wpAny (model P w) (A.deeper (envOfC qual scope s.heap.objs.size f cd)) (leaving (envOfC qual scope s.heap.objs.size f cd) (.ref a)) _ _ s'
  unfold leaving
  refine wpAny_bind (note_core (L := s.heap.objs.size) I.ok.frames I.stack rfl he hd hh fun h' T k1 k2 k3 k4 k5 k6 => ?_)
  have ne : ∀ b o, s.heap.get? b = some o → b ≠ a ∧ some b ≠ T0 ∧ b ≠ s.heap.objs.size := fun b o q => ⟨fun z => (by rw [z, h0a'] at q; cases q), fun z => (by rw [(hT' b z.symm).2] at q; cases q), Nat.ne_of_lt (Heap.lt_size q)⟩
  have nfr : ∀ b o, s.heap.get? b = some o → b ∉ frs outer → b ∉ frs (envOfC qual scope s.heap.objs.size f cd :: outer) := fun b o q hb z => by
    rcases List.mem_cons.mp (I.stkSub b z) with r | r
    · exact (ne b o q).2.2 r
    · exact hb r
  have off : Off (a :: (T0.toList ++ frs (envOfC qual scope s.heap.objs.size f cd :: outer))) s'.heap h' := fun b o hb q => by
    simp only [List.mem_cons, List.mem_append, not_or] at hb
    exact k1 b o hb.1 (fun z => hb.2.1 (by rw [← z]; simp)) hb.2.2 q
  refine ⟨a, C, H', rfl, I.os, I.bare, ⟨fun b o q n hb hx => ?_, fun b o q n hb hx => ?_, fun b o q n hx => I.base.free b o q n hx, fun b o q hx => ?_, I.base.tups, I.base.frzs, I.base.tbls⟩, I.hok.off (fun b hb => ?_) off, ?_, hE⟩
  · exact k1 b o (ne b o q).1 (ne b o q).2.1 (nfr b o q hb) (I.base.keep b o q n hb hx)
  · obtain ⟨sl, q1⟩ := I.base.slot b o q n hb hx
    obtain ⟨sl', q2⟩ := k2 b _ (ne b o q).1 (ne b o q).2.1 q1
    exact ⟨sl', q2⟩
  · obtain ⟨o', q1⟩ := I.base.there b o q hx
    obtain ⟨sl', q2⟩ := k2 b _ (ne b o q).1 (ne b o q).2.1 q1
    exact ⟨_, q2⟩
  · simp only [List.mem_cons, List.mem_append] at hb
    rcases hb with rfl | hb | hb
    · exact hHa
    · cases T0 with
      | none => simp at hb
      | some T1 =>
        simp only [Option.toList_some, List.mem_singleton] at hb
        rw [hb]; exact (hT' T1 rfl).1
    · exact I.stkFree b hb
  · refine ⟨_, _, some T, k5, (Obj.cls_mapFields _ _).trans hc, (mapFields_dict _ _).trans hdi, Obj.data_mapFields hd _, by simpa using hsz, ⟨by simp [hsz], k4, k6⟩, hHa, ⟨h0a', fun _ z => nomatch z⟩, fun T' e => ?_⟩
    cases e
    refine ⟨I.hok.free k3, ?_, fun _ z => nomatch z⟩
    cases q : s.heap.get? T with
    | none => rfl
    | some o =>
      obtain ⟨o', q1⟩ := I.base.there T o q (by show T ∉ ([] : List Addr); simp)
      rw [k3] at q1; cases q1
/-! ### defs that may raise -/
def OkX (P : Program) (w : World) (K : PySem.W.Frag) (mg : Str → Option Value) (base : Heap) (k : Nat) (x : Str) (ps : List Str) (sp : Sp) : Prop :=
  ∃ f fd, FnOk P w K mg base (CX1 P w) k f fd ps sp ∧ mg x = some (.ref f) ∧ PySem.W.keepIn K (.ref f) = true ∧ Binds K fd ps []
theorem PSs.xe {X : Cx} {E : Value → Shared → Prop} {st : List Stmt} {t : TS} (h : PSs (X.wish E) st t) (k : ∀ e s, E e s → X.xe e s) : PSs X st t := fun pins s σ H D I hw =>
  wpAny_mono (h pins s σ H D (I.wish _) hw) (fun _ _ z => z.unwish) k
section
variable {P : Program} {w : World} {K : PySem.W.Frag} {mg : Str → Option Value} {base : Heap}
theorem Def.okX {x : Str} {st : Stmt} {N ps : List Str} {k : Nat} {sp : Sp} (D : Def K mg x st ps) (S : FnScope N ps (defScope st)) (len : ∀ vs H Q E, sp vs H Q E → vs.length = ps.length)
    (hbody : ∀ (f : Addr) (cdv : Value) (A : Around) (outer : List Env) (s : Shared) (H : Hp) (vs : List V) (Q : VK) (E : XK), Room k (A.deeper (envOfC x (defScope st) s.heap.objs.size f cdv)) → sp vs H Q E →
      ∃ t, PSs ((cxOf (CX1 P w) P w K mg base N x (defScope st) f cdv A outer s H E).wish (XW (cxOf (CX1 P w) P w K mg base N x (defScope st) f cdv A outer s H E) fun C _ H' => E (.ref C) none H')) (defBody st) t ∧ t { nx := fun _ H' => Q .non H', rt := Q } (start N vs) H) : OkX P w K mg base (k + 1) x ps sp := by
  obtain ⟨f, fd, F, hm, hb⟩ := D
  obtain ⟨oc, od, kV, doc, pm, an, cdv, ct, osl, rfl, lk, hcd⟩ := F.ex
  refine ⟨f, _, fn_of lk hcd S len fun A outer s H vs Q E hr hsp => ?_, hm, F.kp, hb⟩
  obtain ⟨t, h, q⟩ := hbody f cdv A outer s H vs Q E hr hsp
  exact ⟨t, h.xe fun e s z => leaves z, q⟩
end
/-- a call whose callee may raise: what is wanted of the exception is asked with the names as they stand -/
def tCallX (sp : Sp) (EX : EXT) (t : TA) : TE := fun σ H Q => t σ H fun vs H1 => sp vs H1 Q fun C _ H2 => ∃ c, C = .ref c ∧ EX c σ H2
section
variable {X : Cx} {EX : EXT} {k : Nat} {x : Str} {ps : List Str} {sp : Sp} {p pos : Pos} {e : Expr} {es : List Expr} {t : TA}
theorem pcallX (O : OkX X.prog X.w X.K X.mg X.base k x ps sp) (hr : Room k X.A) (hX : ∀ e s', XW X EX e s' → X.xe e s') (hex : X.ex = []) (ha : PA X (e :: es) t) (hg : Gl X x := by rfl)
    (hdb : (x == ("__debug__" : Str)) = false := by decide) (he : starEach (e :: es) X.env = (false, eval e X.env) :: starEach es X.env := by rfl) (hpl : (backTo pos (starEach es X.env)).any (·.1) = false := by rfl) :
    PE X (.Call (.Name x p) (e :: es) [] pos) (tCallX sp EX t) := by
  obtain ⟨f, fd, F, hm, hk, hb⟩ := O
  intro pins s σ H Q I h
  refine wpAny_Call_Name_kw (ld_glob I hg hm ?_ hdb)
  refine PySem.W.callWith_K (h₀ := X.base) I.ok.mod.kin hk (thn (ha pos pins s σ H _ I h) fun us s1 ⟨vs, H1, I1, r, q⟩ => ⟨I1.kIn, ?_⟩) he hpl
  have r2 : Vals (vs ++ []) (us ++ []) := r.append .nil
  have hl : (us ++ []).length = ps.length := by rw [← r2.length, List.append_nil]; exact F.len _ _ _ _ q
  rw [List.append_nil] at r2
  refine wpAny_call (codeAny_mono (F.run X.A X.stack s1 H1 ⟨us, []⟩ (us ++ []) vs Q _ hr I1.env0 (hb s1 us I1.kIn hl) r2 q) fun r s' hq => ?_)
  cases r with
  | error e =>
    obtain ⟨a, C, H', rfl, ho, hg', un, hok, ⟨oe, vs', T0, e1, e2, e3, e4, e5, e6, e7, e8, e9⟩, c, ec, hE⟩ := hq
    cases ec
    have I2 : Inv X pins σ H' s' := I1.call' (ch := []) ho un hok hg' fun b z => absurd z (by simp)
    have nw : ∀ b, s1.heap.get? b = none → X.s₀.heap.get? b = none := fun b z => by
      cases q : X.s₀.heap.get? b with
      | none => rfl
      | some o =>
        obtain ⟨o', q1⟩ := I1.base.there b o q (by rw [hex]; simp)
        rw [z] at q1; cases q1
    have np : ∀ b, s1.heap.get? b = none → ∀ p ∈ X.pn, p.1 ≠ b := fun b z p hp q => by
      have := (I1.pin p (List.mem_append_left _ hp)).1
      rw [q, z] at this; cases this
    exact hX _ _ ⟨a, C, σ, H', rfl, (I2.pins_of fun p hp => absurd hp (by simp)).wish _, ⟨oe, vs', T0, e1, e2, e3, e4, e5, e6, e7, ⟨nw a e8.1, fun p hp => np a e8.1 p hp⟩, fun T z => ⟨(e9 T z).1, nw T (e9 T z).2.1, fun p hp => np T (e9 T z).2.1 p hp⟩⟩, hE⟩
  | ok fl =>
    cases fl with
    | ret u => exact I1.after hq
    | next => exact False.elim hq
    | brk => exact False.elim hq
    | cont => exact False.elim hq
end
end L2

namespace L2
open PySem PySem.Spec PyProof.Rows PySem.W
section
variable {X : Cx} {pins : List (Addr × Obj)} {σ : List (Option V)} {H H' : Hp} {s : Shared} {h' : Heap}
/-- the step, where what changes was not there at the entry -/
theorem Inv.step2 {t' : Nat} {ch : List Addr} (I : Inv X pins σ H s)
    (hch : ∀ b ∈ ch, X.s₀.heap.get? b = none ∧ b ≠ X.env.locals ∧ (∀ x c, X.env.cells.lookup x = some c → c ≠ b) ∧ ∀ p ∈ X.pn ++ pins, p.1 ≠ b)
    (keep : ∀ b o, b ≠ X.env.locals → b ∉ X.fs → b ∉ ch → s.heap.get? b = some o → H b = none → h'.get? b = some o)
    (slot : ∀ b o, b ≠ X.env.locals → b ∈ X.fs → b ∉ ch → s.heap.get? b = some o → H b = none → ∃ sl, h'.get? b = some { o with slots := sl }) (free : ∀ b o, b ∉ ch → s.heap.get? b = some o → H b = none → H' b = none)
    (there : ∀ b o, b ∉ ch → s.heap.get? b = some o → ∃ o', h'.get? b = some o')
    (tups : ∀ b xs, H b = some (.tup xs) → H' b = some (.tup xs)) (frzs : ∀ b o u, H b = some (.frz o u) → H' b = some (.frz o u)) (tbls : ∀ b ps, H b = some (.tbl ps) → ∃ more, H' b = some (.tbl (ps ++ more)))
    (ns : ∀ m, s.heap.Ns X.env.locals m → h'.Ns X.env.locals m) (hok : HOk X.prog X.w H' h') :
    Inv X pins σ H' { s with heap := h', toks := t' } := by
  have neL : ∀ b o, X.s₀.heap.get? b = some o → b ≠ X.env.locals := fun b o e => Nat.ne_of_lt (Nat.lt_of_lt_of_le (Heap.lt_size e) I.ok.above)
  have neC : ∀ b o, X.s₀.heap.get? b = some o → b ∉ ch := fun b o e hb => by rw [(hch b hb).1] at e; cases e
  have cellK : ∀ x c, X.env.cells.lookup x = some c → ∀ v, s.heap.IsCell c v → h'.IsCell c v := fun x c e v ⟨o, ho, hd⟩ => by
    have nch : c ∉ ch := fun z => (hch c z).2.2.1 x c e rfl
    by_cases hc : c ∈ X.fs
    · obtain ⟨sl, q⟩ := slot c o (I.cne x c e) hc nch ho (I.freeC x c e)
      exact ⟨_, q, hd⟩
    · exact ⟨o, keep c o (I.cne x c e) hc nch ho (I.freeC x c e), hd⟩
  refine ⟨I.ok, I.os, I.bare, ⟨fun b o e n hb hx => ?_, fun b o e n hb hx => ?_, fun b o e n hx => ?_, fun b o e hx => ?_, fun b xs e => tups b xs (I.base.tups b xs e), fun b o xs e => frzs b o xs (I.base.frzs b o xs e), fun b ps e => ?_⟩, ?_, fun x c e => ?_, ?_, fun x c e => ?_, fun p hp => ?_, hok, I.len⟩
  · exact keep b o (neL b o e) hb (neC b o e) (I.base.keep b o e n hb hx) (I.base.free b o e n hx)
  · obtain ⟨sl, e1⟩ := I.base.slot b o e n hb hx
    obtain ⟨sl', e2⟩ := slot b _ (neL b o e) hb (neC b o e) e1 (I.base.free b o e n hx)
    exact ⟨sl', e2⟩
  · obtain ⟨o', e1⟩ := I.base.there b o e hx
    exact free b o' (neC b o e) e1 (I.base.free b o e n hx)
  · obtain ⟨o', e1⟩ := I.base.there b o e hx
    exact there b o' (neC b o e) e1
  · obtain ⟨m1, e1⟩ := I.base.tbls b ps e
    obtain ⟨m2, e2⟩ := tbls b _ e1
    exact ⟨m1 ++ m2, by rw [e2, Array.append_assoc]⟩
  · obtain ⟨m, hn, hl⟩ := I.loc
    refine ⟨m, ns m hn, fun i x v e1 e2 e3 => ?_⟩
    obtain ⟨u, r, l⟩ := hl i x v e1 e2 e3
    refine ⟨u, r, ?_⟩
    rcases l with l | ⟨k, c, e, z⟩
    · exact .inl l
    · exact .inr ⟨k, c, e, cellK x c e _ z⟩
  · obtain ⟨v, z⟩ := I.cell x c e
    exact ⟨v, cellK x c e v z⟩
  · obtain ⟨m, ⟨o, _, _, ho, _⟩, _⟩ := I.loc
    exact free _ o (fun z => (hch _ z).2.1 rfl) ho I.free
  · obtain ⟨v, o, ho, hd⟩ := I.cell x c e
    exact free c o (fun z => (hch c z).2.2.1 x c e rfl) ho (I.freeC x c e)
  · obtain ⟨e, n, ne, nf, d⟩ := I.pin p hp
    have nch : p.1 ∉ ch := fun z => (hch p.1 z).2.2.2 p hp rfl
    exact ⟨keep p.1 p.2 ne nf nch e n, free p.1 p.2 nch e n, ne, nf, d⟩
/-- a record that was not there at the entry is none of the frame's own things -/
theorem Inv.recd {a : Addr} {oe : Obj} {vs : Array Value} (I : Inv X pins σ H s) (he : s.heap.get? a = some oe) (hd : oe.data = .fields vs) : a ≠ X.env.locals ∧ (∀ x c, X.env.cells.lookup x = some c → c ≠ a) ∧ a ∉ X.fs := by
  refine ⟨fun z => ?_, fun x c e z => ?_, fun z => ?_⟩
  · obtain ⟨m, ⟨o, _, _, ho, hdd, _⟩, _⟩ := I.loc
    rw [z, ho] at he; cases he; rw [hdd] at hd; cases hd
  · obtain ⟨v, o, ho, hdd⟩ := I.cell x c e
    rw [z, he] at ho; cases ho; rw [hdd] at hd; cases hd
  · obtain ⟨_, o, ho, hnf⟩ := I.funs.mem z
    rw [he] at ho; cases ho; exact hnf vs hd
end
/-- the class of a raise: its place in K -/
theorem own_obj {K : Frag} {h : Heap} {C : Addr} {bmB : List Value} {newId : String} (X : K.In h) (q : excIn K C bmB newId = true) :
    ∃ bm N nm q bs hdct sn sub ab col dd k0 k1 k2 k3 k5 mN, h.get? C = some (excClassObj nm q C N bs bm hdct sn sub ab col dd k0 k1 k2 k3 k5 newId) ∧ h.Ns N mN ∧ mN "__init__" = none ∧ OwnTail h bmB bm := by
  unfold excIn at q
  split at q
  · rename_i dd cd sl ho
    split at q
    · rename_i C' bm k0 k1 k2 k3 n k5 hm hs
      simp only [Bool.and_eq_true, beq_iff_eq, Bool.not_eq_true'] at q
      obtain ⟨⟨⟨⟨⟨rfl, rfl⟩, hdel⟩, ht⟩, hok⟩, hni⟩ := q
      obtain ⟨nm, bs, mro, ns, qn, hd, sn, sub, ab, col, del⟩ := cd
      dsimp only at hm hdel hok hni
      subst hm hdel
      have hsl : sl = #[k0, k1, k2, k3, some (.builtin n), k5] := by
        obtain ⟨l⟩ := sl
        simp only at hs
        rw [hs]
      subst hsl
      exact ⟨bm, ns, nm, qn, bs, hd, sn, sub, ab, col, dd, k0, k1, k2, k3, k5, _, X _ _ ho, .of_isNs (isNs_of_in X hok), nsMap_none_of_in X hok hni, tail_of_in X ht⟩
    · cases q
  · cases q
section
variable {X : Cx} {EX : EXT}
/-- raise C(..) -/
def tRaise (EX : EXT) (C : Addr) (ta : TA) : TS := fun _ σ H => ta σ H fun vs H1 => vs.length ≤ 1000 ∧ EX C σ H1
theorem ps_raise {x : Str} {np cpos pos : Pos} {e0 : Expr} {rest : List Expr} {C : Addr} {B Bn newId nid initId inN : String} {bm bmN : List Value} {ta : TA} (q : excIn X.K C bm newId = true) (Fn : ExcBaseFacts Bn newId inN bmN) (hBn : bm.contains (.type Bn) = true)
    (FB : ExcBaseFacts B nid initId bm) (hc : X.calm = true) (hX : ∀ e s', XW X EX e s' → X.xe e s') (hex : X.ex = []) (hg : Gl X x) (hm : X.mg x = some (.ref C)) (ha : PA X (e0 :: rest) ta)
    (he : starEach (e0 :: rest) X.env = (false, eval e0 X.env) :: starEach rest X.env := by rfl) (hpl : (backTo cpos (starEach rest X.env)).any (·.1) = false := by rfl) (hdb : (x == ("__debug__" : Str)) = false := by decide) :
    PS X (.Raise (some (.Call (.Name x np) (e0 :: rest) [] cpos)) none pos) (tRaise EX C ta) := by
  intro pins s σ H D I h
  obtain ⟨bm', N, nm, qn, bs, hdct, sn, sub, ab, col, dd, k0, k1, k2, k3, k5, mN, hC, hN, hni, T⟩ := own_obj I.ok.mod.kin q
  refine wpAny_Raise_call_subU (C := C) (nm := nm) (q := qn) (N := N) (bs := bs) (bm := bm') (hdct := hdct) (sn := sn) (sub := sub) (ab := ab) (col := col) (dd := dd) (k0 := k0) (k1 := k1) (k2 := k2) (k3 := k3) (k5 := k5)
    Fn hBn FB (mN := mN) (T.hasType FB.hasBase) (I.ok.hd hc) (by rw [he]; show (false || (backTo cpos (starEach rest X.env)).any (·.1)) = false; rw [hpl]; rfl) hni (ld_glob I hg hm ⟨rfl, ?_⟩ hdb)
  have hh := ha cpos pins s σ H _ I h
  rw [he] at hh ⊢
  refine Calls.evalArgs_plain (wpAny_mono hh (fun us s2 z => ?_) fun _ _ y => y)
  obtain ⟨vs, H1, I1, r, hl, hE⟩ := z
  refine ⟨rfl, by rw [← r.length]; exact Nat.le_of_lt (small1000 hl), I1.bk _ _ hC, hN.keeps I1.bk, T.keeps I1.bk, fun h' e hm' => hX _ _ ?_⟩
  obtain ⟨t, het, htn, htt⟩ := hm'.there
  have nw : X.s₀.heap.get? e = none := by
    cases q : X.s₀.heap.get? e with
    | none => rfl
    | some o =>
      obtain ⟨o', q1⟩ := I1.base.there e o q (by rw [hex]; simp)
      rw [hm'.new] at q1; cases q1
  have np : ∀ p ∈ X.pn, p.1 ≠ e := fun p hp z => by
    have := (I1.pin p (List.mem_append_left _ hp)).1
    rw [z, hm'.new] at this; cases this
  exact ⟨e, C, σ, H1, rfl, ((I1.kept (t' := s2.toks) hm'.keeps).pins_of fun p hp => absurd hp (by simp)).wish _, ⟨_, _, none, het, rfl, rfl, rfl, by simp, rfl, I1.hok.free hm'.new, ⟨nw, np⟩, fun T z => nomatch z⟩, hE⟩
end
end L2

namespace L2
open PySem PySem.Spec PyProof.Rows PySem.W
/-- what K must say of the class of an except clause -/
structure HCls (K : Frag) (D : Addr) : Prop where
  ty : typeIn K (.ref D) = some (.type "type")
  cl : (clsIn K D).isSome = true
  be : subIn K (.ref D) (.type "BaseException") = some true
theorem matches_own {K : Frag} {M : Model} {A : Around} {E : Value → Shared → Prop} {s : Shared} {a C D : Addr} {oe : Obj} {b : Bool} {Q : Bool → Shared → Prop} (V : HCls K D) (X : K.In s.heap) (he : s.heap.get? a = some oe) (hc : oe.cls = .ref C)
    (hsub : subIn K (.ref C) (.ref D) = some b) (h : Q b s) : wpAny M A (excMatches (.ref a) (.ref D)) Q E s := by
  obtain ⟨hh, g, d, t, os⟩ := s
  have L1 := looks_typeIn (M := M) X V.ty
  have L2 : Looks M hh (typeOf (.ref a)) (.ref C) := hc ▸ (Looks.ld he).andThen .now
  have L3 := looks_subIn (M := M) X V.be
  have L4 := looks_subIn (M := M) X hsub
  have L5 : Looks M hh (isType (.ref D)) true := by
    obtain ⟨cd, hcd⟩ := Option.isSome_iff_exists.mp V.cl
    unfold clsIn at hcd
    split at hcd
    · rename_i c' d' cd' sl' ho
      intro A' Q' E' s' k q
      unfold isType loadHead
      exact wpAny_bind (wpAny_loadPart (k _ _ (X _ _ ho)) (wpAny_pure q))
    · cases hcd
  have f := tc_notTuple
  unfold excMatches isInstance isExcClass
  refine wpAny_bind ?_
  refine wpAny_bind (L1.at (wpAny_of_eq f ?_))
  simp only [Bool.false_eq_true, if_false]
  refine wpAny_bind (wpAny_pure ?_)
  simp only [List.forIn_cons, List.forIn_nil]
  refine wpAny_bind (wpAny_bind (wpAny_bind (wpAny_bind (L5.at ?_))))
  simp only [if_true]
  refine L3.at ?_
  simp only [Bool.not_true, Bool.false_eq_true, if_false]
  refine wpAny_pure (wpAny_pure ?_)
  refine wpAny_bind (L2.at ?_)
  refine wpAny_bind (wpAny_bind (wpAny_bind (L4.at ?_)))
  cases b with
  | true =>
    simp only [if_true]
    exact wpAny_pure (wpAny_pure (wpAny_pure h))
  | false =>
    simp only [Bool.false_eq_true, if_false]
    exact wpAny_pure (wpAny_pure (wpAny_pure h))
end L2

namespace L2
open PySem PySem.Spec PyProof.Rows PySem.W
/-- the pins of a state, laid into the context -/
abbrev pnCx (X : Cx) (pins : List (Addr × Obj)) : Cx := { X with pn := X.pn ++ pins }
/-- within the suite of an except clause -/
abbrev hdCx (X : Cx) (a : Addr) : Cx := { X with A := X.A.mark (some (.ref a)), calm := false, xe := fun _ _ => False }
section
variable {X : Cx} {pins : List (Addr × Obj)} {σ : St} {H : Hp} {s : Shared}
theorem Inv.toPn (I : Inv X pins σ H s) : Inv (pnCx X pins) [] σ H s :=
  ⟨⟨I.ok.mod, I.ok.kind, I.ok.glob, I.ok.blt, I.ok.above, I.ok.inj, I.ok.has, I.ok.cab, I.ok.hd, I.ok.frames, I.ok.stk, I.ok.exf, I.ok.bs, I.ok.bsz, I.ok.noex, I.ok.exfs, I.ok.funs, I.ok.frf⟩, I.os, I.bare, I.base, I.loc, I.cell, I.free, I.freeC, fun p hp => I.pin p (by simpa using hp), I.hok, I.len⟩
theorem Inv.ofPn (I : Inv (pnCx X pins) [] σ H s) : Inv X pins σ H s :=
  ⟨⟨I.ok.mod, I.ok.kind, I.ok.glob, I.ok.blt, I.ok.above, I.ok.inj, I.ok.has, I.ok.cab, I.ok.hd, I.ok.frames, I.ok.stk, I.ok.exf, I.ok.bs, I.ok.bsz, I.ok.noex, I.ok.exfs, I.ok.funs, I.ok.frf⟩, I.os, I.bare, I.base, I.loc, I.cell, I.free, I.freeC, fun p hp => I.pin p (by simpa using hp), I.hok, I.len⟩
theorem Inv.toHd (I : Inv X pins σ H s) (a : Addr) : Inv (hdCx X a) pins σ H s :=
  ⟨⟨I.ok.mod, I.ok.kind, I.ok.glob, I.ok.blt, I.ok.above, I.ok.inj, I.ok.has, I.ok.cab, (fun z => nomatch z), I.ok.frames, I.ok.stk, I.ok.exf, I.ok.bs, I.ok.bsz, I.ok.noex, I.ok.exfs, I.ok.funs, I.ok.frf⟩, I.os, I.bare, I.base, I.loc, I.cell, I.free, I.freeC, I.pin, I.hok, I.len⟩
theorem Inv.ofHd {a : Addr} (hhd : X.calm = true → X.A.handled = none) (I : Inv (hdCx X a) pins σ H s) : Inv X pins σ H s :=
  ⟨⟨I.ok.mod, I.ok.kind, I.ok.glob, I.ok.blt, I.ok.above, I.ok.inj, I.ok.has, I.ok.cab, hhd, I.ok.frames, I.ok.stk, I.ok.exf, I.ok.bs, I.ok.bsz, I.ok.noex, I.ok.exfs, I.ok.funs, I.ok.frf⟩, I.os, I.bare, I.base, I.loc, I.cell, I.free, I.freeC, I.pin, I.hok, I.len⟩
/-- an exception that stands in the heap is tracked from here on -/
theorem Inv.track {a C : Addr} {oe : Obj} {vs : Array Value} {t' : Nat} (I : Inv X pins σ H s) (he : s.heap.get? a = some oe) (hc : oe.cls = .ref C) (hdi : oe.dict = none) (hd : oe.data = .fields vs) (hH : H a = none) (h0 : X.s₀.heap.get? a = none) (hp : ∀ p ∈ X.pn ++ pins, p.1 ≠ a) :
    Inv X pins σ (upd H a (ExcO a C)) { s with toks := t' } := by
  obtain ⟨n1, n2, n3⟩ := I.recd he hd
  have ins : PySem.W.InstAt s.heap a oe C none := ⟨he, hc, by unfold notCls; rw [hd], by rw [hdi]; trivial⟩
  refine I.step2 (h' := s.heap) (ch := [a]) (fun b hb => ?_) (fun b o _ _ _ e _ => e) (fun b o _ _ _ e _ => ⟨o.slots, e⟩) (fun b o hb e n => ?_) (fun b o _ e => ⟨o, e⟩) (fun b xs e => ?_) (fun b o u e => ?_) (fun b ps e => ⟨#[], ?_⟩) (fun m hm => hm) ?_
  · obtain rfl : b = a := by simpa using hb
    exact ⟨h0, n1, n2, hp⟩
  · rw [upd_ne (by simpa using hb)]; exact n
  · rw [upd_ne (ne_of_none e hH)]; exact e
  · rw [upd_ne (ne_of_none e hH)]; exact e
  · rw [upd_ne (ne_of_none e hH)]; simpa using e
  · intro b o e
    by_cases hb : b = a
    · subst hb
      rw [upd_same] at e
      cases e
      refine ⟨⟨oe, ins⟩, ⟨oe, he⟩, fun h1 h2 z k => ?_⟩
      obtain ⟨ox, z1, z2, z3, z4⟩ := z
      refine ⟨ox, k _ z1, z2, z3, ?_⟩
      cases q : ox.dict with
      | none => trivial
      | some dx => rw [q] at z4; exact z4.elim
    · rw [upd_ne hb] at e
      exact (I.hok b o e).stay (fun _ _ _ q => q) (fun c q => by rw [upd_ne (ne_of_none q hH)]; exact q) fun c xs q => by rw [upd_ne (ne_of_none q hH)]; exact q
/-- a name goes: it is not known any more -/
theorem Inv.goes {i : Nat} {x : Str} {h' : Heap} {m : Str → Option Value} {v : Option Value} {t' : Nat} (I : Inv X pins σ H s) (hN : X.N.Nodup) (hi : X.N[i]? = some x) (hm : s.heap.Ns X.env.locals m) (hn' : h'.Ns X.env.locals (fun y => if y = x then v else m y)) (hs : Heap.SameBut X.env.locals s.heap h') :
    Inv X pins (σ.set i none) H { s with heap := h', toks := t' } := by
  obtain ⟨m2, hn, hl⟩ := id I.loc
  obtain ⟨oL, es, ep, hoL, rL⟩ := id hn
  have em : m2 = m := by
    obtain ⟨o1, es1, ep1, ho1, hd1, _, hf1⟩ := hn
    obtain ⟨o2, es2, ep2, ho2, hd2, _, hf2⟩ := hm
    rw [ho1] at ho2; cases ho2; rw [hd1] at hd2; cases hd2
    funext y
    rw [← hf1, ← hf2]
  subst em
  have hiσ : i < σ.length := by rw [I.len]; exact (List.getElem?_eq_some_iff.mp hi).1
  have cne := I.cne
  refine ⟨I.ok, I.os, I.bare, ⟨fun b o e n hb hx => ?_, fun b o e n hb hx => ?_, I.base.free, fun b o e hx => ?_, I.base.tups, I.base.frzs, I.base.tbls⟩, ⟨_, hn', fun j y v' e1 e2 e3 => ?_⟩, fun y c e => ?_, I.free, I.freeC, fun p hp => ?_, ?_, by simpa using I.len⟩
  · exact (hs.2 b (Nat.ne_of_lt (Nat.lt_of_lt_of_le (Heap.lt_size e) I.ok.above))).trans (I.base.keep b o e n hb hx)
  · obtain ⟨sl, e1⟩ := I.base.slot b o e n hb hx
    exact ⟨sl, (hs.2 b (Nat.ne_of_lt (Nat.lt_of_lt_of_le (Heap.lt_size e) I.ok.above))).trans e1⟩
  · obtain ⟨o', e1⟩ := I.base.there b o e hx
    exact ⟨o', (hs.2 b (Nat.ne_of_lt (Nat.lt_of_lt_of_le (Heap.lt_size e) I.ok.above))).trans e1⟩
  · by_cases hj : j = i
    · subst hj
      rw [List.getElem?_set_self hiσ] at e2
      cases e2
    · rw [List.getElem?_set_ne (Ne.symm hj)] at e2
      obtain ⟨u', r', q⟩ := hl j y v' e1 e2 e3
      refine ⟨u', r', ?_⟩
      rcases q with ⟨k, e⟩ | ⟨k, c, e, z⟩
      · refine .inl ⟨k, ?_⟩
        have : y ≠ x := fun e => hj (nodup_ix hN e1 (e ▸ hi))
        simp [this, e]
      · exact .inr ⟨k, c, e, z.sameBut hs (cne y c e)⟩
  · obtain ⟨w', z⟩ := I.cell y c e
    exact ⟨w', z.sameBut hs (cne y c e)⟩
  · obtain ⟨e, n, ne, nf, d⟩ := I.pin p hp
    exact ⟨(hs.2 p.1 ne).trans e, n, ne, nf, d⟩
  · intro b ob e
    refine (I.hok b ob e).stay (fun c w' hc q => (hs.2 c ?_).trans q) (fun _ q => q) fun _ _ q => q
    rintro rfl
    rcases hc with rfl | hc
    · rw [I.free] at e; cases e
    · rw [I.free] at hc; cases hc
end
/-- try: body, except D as n: suite. What is wanted of an exception of the body: it is caught, and the suite's reading -/
def tTry (K : Frag) (D0 : Addr) (i : Nat) (tb : EXT → TS) (th : TS) : TS := fun D σ H =>
  tb (fun C σ' H' => subIn K (.ref C) (.ref D0) = some true ∧ ∀ a, H' a = none → th { nx := fun σ2 H2 => D.nx (σ2.set i none) H2, rt := D.rt, bk := fun σ2 H2 => D.bk (σ2.set i none) H2, ct := fun σ2 H2 => D.ct (σ2.set i none) H2 } (σ'.set i (some (.ref a))) (upd H' a (ExcO a C))) D σ H
theorem ps_try {X : Cx} {body : List Stmt} {x n : Str} {np hpos pos : Pos} {b0 : Stmt} {suite : List Stmt} {i : Nat} {D0 : Addr} {tb : EXT → TS} {th : TS} (V : HCls X.K D0) (hex : X.ex = [])
    (hst : X.stack = X.env :: X.outer) (hfr : X.env.frame = some X.env.locals) (hN : X.N.Nodup) (hi : X.N[i]? = some n) (hloc : X.env.scope.names.lookup n = some .local) (hg : Gl X x) (hm : X.mg x = some (.ref D0))
    (hb : ∀ pins EX, PSs ((pnCx X pins).wish (XW (pnCx X pins) EX)) body (tb EX)) (hs : ∀ a, PSs (hdCx X a) (b0 :: suite) th) (hdb : (x == ("__debug__" : Str)) = false := by decide) :
    PS X (.Try body [.ExceptHandler (some (.Name x np)) (some n) (b0 :: suite) hpos] [] [] pos) (tTry X.K D0 i tb th) := by
  intro pins s σ H D I h
  have back : ∀ {f : Flow} {s' : Shared} {E : Value → Shared → Prop}, SP ((pnCx X pins).wish E) [] D f s' → SP X pins D f s' := fun {f s' E} q => by
    cases f with
    | next => obtain ⟨σ', H', J, z⟩ := q; exact ⟨σ', H', (Inv.unwish J).ofPn, z⟩
    | brk => obtain ⟨σ', H', J, z⟩ := q; exact ⟨σ', H', (Inv.unwish J).ofPn, z⟩
    | cont => obtain ⟨σ', H', J, z⟩ := q; exact ⟨σ', H', (Inv.unwish J).ofPn, z⟩
    | ret u => obtain ⟨v, σ', H', J, r, z⟩ := q; exact ⟨v, σ', H', (Inv.unwish J).ofPn, r, z⟩
  refine wpAny_Try_except (wpAny_mono (hb pins _ [] s σ H D (I.toPn.wish _) h) (fun f s1 q => ?_) (fun e s1 q => ?_))
  · cases f with
    | next => exact wpAny_execs_nil (back q)
    | brk => exact back q
    | cont => exact back q
    | ret u => exact back q
  obtain ⟨a, C, σ', H', rfl, I0, ⟨oe, vs, T0, he, hc, hdi, hd, hsz, hh, hHa, ⟨h0a, hpa⟩, hT⟩, hsub, hth⟩ := q
  have I1 : Inv X pins σ' H' s1 := (Inv.unwish I0).ofPn
  have h0a' : X.s₀.heap.get? a = none := h0a
  have hpa' : ∀ p ∈ X.pn ++ pins, p.1 ≠ a := hpa
  have hT' : ∀ T, T0 = some T → H' T = none ∧ X.s₀.heap.get? T = none ∧ ∀ p ∈ X.pn ++ pins, p.1 ≠ T := hT
  have fr1 : X.A.frames = some (X.env :: X.outer) := by rw [← hst]; exact I1.ok.frames
  refine note_core (base := X.base) (L := X.env.locals) fr1 (hst ▸ I1.stack) hfr he hd hh fun h1 T k1 k2 k3 k4 k5 k6 => ?_
  obtain ⟨n1, n2, n3⟩ := I1.recd he hd
  have t1 : ∀ T', T0 = some T' → ∃ oT ts, s1.heap.get? T' = some oT ∧ oT.data = .fields ts := fun T' z => by
    subst z
    obtain ⟨_, _, oT, ts, q1, q2, _⟩ := hh
    exact ⟨oT, ts, q1, q2⟩
  have fsub : ∀ b, b ∈ frs (X.env :: X.outer) → b = X.env.locals ∨ b ∈ X.fs := fun b hb => by
    rcases List.mem_cons.mp (I1.stkSub b (hst ▸ hb)) with z | z
    · exact .inl z
    · exact .inr z
  have off : Off (a :: (T0.toList ++ frs (X.env :: X.outer))) s1.heap h1 := fun b o hb q => by
    simp only [List.mem_cons, List.mem_append, not_or] at hb
    exact k1 b o hb.1 (fun z => hb.2.1 (by rw [← z]; simp)) hb.2.2 q
  have hok1 : HOk X.prog X.w H' h1 := I1.hok.off (fun b hb => by
    simp only [List.mem_cons, List.mem_append] at hb
    rcases hb with rfl | hb | hb
    · exact hHa
    · cases T0 with
      | none => simp at hb
      | some T1 =>
        simp only [Option.toList_some, List.mem_singleton] at hb
        rw [hb]; exact (hT' T1 rfl).1
    · exact I1.stkFree b (hst ▸ hb)) off
  have nT0 : ∀ b, b ∉ (a :: T0.toList) → b ≠ a ∧ some b ≠ T0 := fun b hb => by
    simp only [List.mem_cons, not_or] at hb
    exact ⟨hb.1, fun z => hb.2 (by rw [← z]; simp)⟩
  have I2 : Inv X pins σ' H' { s1 with heap := h1 } := by
    refine I1.step2 (h' := h1) (t' := s1.toks) (ch := a :: T0.toList) (fun b hb => ?_) (fun b o b1 b2 b3 e _ => ?_) (fun b o b1 b2 b3 e _ => ?_) (fun b o _ _ n => n) (fun b o b3 e => ?_) (fun b xs e => e) (fun b o u e => e) (fun b ps e => ⟨#[], by rw [e]; simp⟩) (fun m hm => ?_) hok1
    · rcases List.mem_cons.mp hb with rfl | hb
      · exact ⟨h0a', n1, n2, hpa'⟩
      · cases T0 with
        | none => simp at hb
        | some T1 =>
          simp only [Option.toList_some, List.mem_singleton] at hb
          subst hb
          obtain ⟨oT, ts, q1, q2⟩ := t1 _ rfl
          obtain ⟨m1, m2, m3⟩ := I1.recd q1 q2
          exact ⟨(hT' _ rfl).2.1, m1, m2, (hT' _ rfl).2.2⟩
    · refine k1 b o (nT0 b b3).1 (nT0 b b3).2 (fun z => ?_) e
      rcases fsub b z with q | q
      · exact b1 q
      · exact b2 q
    · exact k2 b o (nT0 b b3).1 (nT0 b b3).2 e
    · obtain ⟨sl, q⟩ := k2 b o (nT0 b b3).1 (nT0 b b3).2 e
      exact ⟨_, q⟩
    · obtain ⟨o, es, ep, ho, hd', r⟩ := hm
      obtain ⟨sl, q⟩ := k2 _ o (fun z => n1 z.symm) (fun z => by
        obtain ⟨oT, ts, q1, q2⟩ := t1 _ z.symm
        exact (I1.recd q1 q2).1 rfl) ho
      exact ⟨_, es, ep, q, hd', r⟩
  have T2 : H' T = none := I1.hok.free k3
  have T3 : X.s₀.heap.get? T = none := by
    cases q : X.s₀.heap.get? T with
    | none => rfl
    | some o =>
      obtain ⟨o', q1⟩ := I1.base.there T o q (by rw [hex]; simp)
      rw [k3] at q1; cases q1
  have T4 : ∀ p ∈ X.pn ++ pins, p.1 ≠ T := fun p hp z => by
    have := (I1.pin p hp).1
    rw [z, k3] at this; cases this
  refine wpAny_handleBy_cons (codeAny_handlers_test (ld_glob (X := hdCx X a) (I2.toHd a) hg hm ?_ hdb)) (by intro z; cases z)
  refine matches_own V I2.kIn k5 ((Obj.cls_mapFields _ _).trans hc) hsub ?_
  refine codeAny_handlers_suite_as (flight_again k5 (Obj.data_mapFields hd _) ⟨by simp [hsz], k4, k6⟩ fun h2 f1 f2 => ?_)
  have I3 : Inv X pins σ' H' { s1 with heap := h2 } := by
    obtain ⟨oT, ts, q1, q2, q3⟩ := k6
    obtain ⟨m1, m2, m3⟩ := I2.recd (a := T) q1 q2
    have hok2 : HOk X.prog X.w H' h2 := I2.hok.off (ch := [T]) (fun b hb => by rw [show b = T by simpa using hb]; exact T2) fun b o hb q => f1 b o (by simpa using hb) q
    refine Inv.step2 (s := { s1 with heap := h1 }) (h' := h2) (t' := s1.toks) (ch := [T]) I2 (fun b hb => ?_) (fun b o b1 b2 b3 e _ => f1 b o (by simpa using b3) e) (fun b o b1 b2 b3 e _ => ⟨o.slots, f1 b o (by simpa using b3) e⟩) (fun b o _ _ n => n) (fun b o b3 e => ⟨o, f1 b o (by simpa using b3) e⟩) (fun b xs e => e) (fun b o u e => e) (fun b ps e => ⟨#[], by rw [e]; simp⟩) (fun m hm => ?_) hok2
    · obtain rfl : b = T := by simpa using hb
      exact ⟨T3, m1, m2, T4⟩
    · obtain ⟨o, es, ep, ho, hd', r⟩ := hm
      exact ⟨o, es, ep, f1 _ o (fun z => m1 z.symm) ho, hd', r⟩
  have I4 : Inv X pins σ' (upd H' a (ExcO a C)) { s1 with heap := h2 } := I3.track (t' := s1.toks) (f1 a _ (Ne.symm k4) k5) ((Obj.cls_mapFields _ _).trans hc) ((mapFields_dict _ _).trans hdi) (Obj.data_mapFields hd _) hHa h0a' hpa'
  refine store_ok (X := hdCx X a) (v := .ref a) (I4.toHd a) hN hi (Or.inl hloc) rfl (fun s5 I6 => ?_) (Or.inr hloc)
  refine wpAny_mono (hs a pins s5 _ _ _ I6 (hth a hHa)) (fun f s6 q => ?_) (fun _ _ z => z.elim)
  have hcls : (X.env.scope.kind == .class || (X.env.scope.kind == .module && X.env.locals != X.env.globals)) = false := by rw [I1.ok.kind]; rfl
  cases f with
  | next =>
    obtain ⟨σ2, H2, J, z⟩ := q
    have J' := J.ofHd I1.ok.hd
    obtain ⟨m, hm', _⟩ := id J'.loc
    exact wpAny_nameGoes_keeps hloc hm' hcls fun h' v hn hss => ⟨_, H2, J'.goes hN hi hm' hn hss, z⟩
  | brk =>
    obtain ⟨σ2, H2, J, z⟩ := q
    have J' := J.ofHd I1.ok.hd
    obtain ⟨m, hm', _⟩ := id J'.loc
    exact wpAny_nameGoes_keeps hloc hm' hcls fun h' v hn hss => ⟨_, H2, J'.goes hN hi hm' hn hss, z⟩
  | cont =>
    obtain ⟨σ2, H2, J, z⟩ := q
    have J' := J.ofHd I1.ok.hd
    obtain ⟨m, hm', _⟩ := id J'.loc
    exact wpAny_nameGoes_keeps hloc hm' hcls fun h' v hn hss => ⟨_, H2, J'.goes hN hi hm' hn hss, z⟩
  | ret u =>
    obtain ⟨v0, σ2, H2, J, r, z⟩ := q
    have J' := J.ofHd I1.ok.hd
    obtain ⟨m, hm', _⟩ := id J'.loc
    exact wpAny_nameGoes_keeps hloc hm' hcls fun h' v hn hss => ⟨v0, _, H2, J'.goes hN hi hm' hn hss, r, z⟩
end L2

namespace L2
open PySem PySem.Spec PyProof.Rows PySem.W
/-- isinstance(e, c) of a caught exception e; c a class, or a tuple of own classes -/
def rIsX (K : Frag) : List V → Hp → VK → Prop := fun xs H Q => ∃ a C c b, xs = [.ref a, c] ∧ H a = some (ExcO a C) ∧ XCls K C ∧
  ((∃ n, c = .ty n ∧ kitOne K (.ref C) (.type n) = some b) ∨ (∃ D, c = .ref D ∧ kitOne K (.ref C) (.ref D) = some b) ∨ ∃ (tp : Addr) (Ds : List Addr), c = .ref tp ∧ SqT K H tp (Ds.map V.ref) ∧ kitAny K (.ref C) (Ds.map Value.ref) = some b) ∧ Q (.bl b) H
theorem vals_refs : ∀ {Ds : List Addr} {us : List Value}, Vals (Ds.map V.ref) us → us = Ds.map Value.ref
  | [], _, .nil => rfl
  | _ :: _, _, .cons r t => by
    have e := vals_refs t
    cases r
    rw [e]; rfl
section
variable {X : Cx}
theorem call_isX : CallR X (.builtin "isinstance") (rIsX X.K) := by
  intro pins s σ H xs us Q I r h
  obtain ⟨a, C, c, b, rfl, hH, V, ty, q⟩ := h
  obtain ⟨u, c', rfl, ru, rc⟩ := vals2 r
  obtain rfl : u = Value.ref a := ru
  have fin : ∀ tk, EP X pins σ Q (.bool b) { s with toks := tk } := fun tk => ⟨.bl b, H, I.tok tk, rfl, q⟩
  obtain ⟨hx, _⟩ := I.hok a _ hH
  rcases ty with ⟨n, rfl, e⟩ | ⟨D, rfl, e⟩ | ⟨tp, Ds, rfl, hs, e⟩
  · obtain rfl : c' = Value.type n := rc
    exact kia_one (kitx_exc V) I.kIn hx e (fun z => nomatch z) fin
  · obtain rfl : c' = Value.ref D := rc
    exact kia_one (kitx_exc V) I.kIn hx e (fun z => nomatch z) fin
  · obtain rfl : c' = Value.ref tp := rc
    obtain ⟨its, rv, p, _⟩ := I.tuple hs
    obtain ⟨⟨oc, od, da, sl⟩, h1, h2, n, h3⟩ := p
    dsimp only at h2 h3
    subst h2 h3
    rw [vals_refs rv] at h1
    exact kia_tup (kitx_exc V) I.kIn hx h1 e (fun z => nomatch z) fin
theorem kN_isx (K : Frag) (hK : X.K = K) : CallR X (.builtin "isinstance") (rIsX K) := hK ▸ call_isX
variable {K : Frag} {H : Hp} {Q : VK}
theorem r_isxT {a C : Addr} {n : String} {b : Bool} (W : XCls K C) (e : H a = some (ExcO a C)) (k : kitOne K (.ref C) (.type n) = some b) (h : Q (.bl b) H) : rIsX K [.ref a, .ty n] H Q := ⟨a, C, _, b, rfl, e, W, .inl ⟨n, rfl, k⟩, h⟩
theorem r_isxR {a C D : Addr} {b : Bool} (W : XCls K C) (e : H a = some (ExcO a C)) (k : kitOne K (.ref C) (.ref D) = some b) (h : Q (.bl b) H) : rIsX K [.ref a, .ref D] H Q := ⟨a, C, _, b, rfl, e, W, .inr (.inl ⟨D, rfl, k⟩), h⟩
theorem r_isxP {a C tp : Addr} {Ds : List Addr} {b : Bool} (W : XCls K C) (e : H a = some (ExcO a C)) (hs : SqT K H tp (Ds.map V.ref)) (k : kitAny K (.ref C) (Ds.map Value.ref) = some b) (h : Q (.bl b) H) : rIsX K [.ref a, .ref tp] H Q := ⟨a, C, _, b, rfl, e, W, .inr (.inr ⟨tp, Ds, rfl, hs, k⟩), h⟩
end
/-! readings -/
section
variable {K : Frag} {D : Ends} {σ : St} {H : Hp} {Q : VK} {EX : EXT}
theorem r_callX {sp : Sp} {ts : TA} (h : ts σ H fun vs H1 => sp vs H1 Q fun C _ H2 => ∃ c, C = .ref c ∧ EX c σ H2) : tCallX sp EX ts σ H Q := h
theorem r_raise {C : Addr} {ts : TA} (h : ts σ H fun vs H1 => vs.length ≤ 1000 ∧ EX C σ H1) : tRaise EX C ts D σ H := h
theorem r_try {D0 : Addr} {i : Nat} {tb : EXT → TS} {th : TS} (h : tb (fun C σ' H' => subIn K (.ref C) (.ref D0) = some true ∧ ∀ a, H' a = none → th { nx := fun σ2 H2 => D.nx (σ2.set i none) H2, rt := D.rt, bk := fun σ2 H2 => D.bk (σ2.set i none) H2, ct := fun σ2 H2 => D.ct (σ2.set i none) H2 } (σ'.set i (some (.ref a))) (upd H' a (ExcO a C))) D σ H) : tTry K D0 i tb th D σ H := h
end
end L2

namespace L2
open PySem PySem.Spec PyProof.Rows PySem.W
section
variable {K : Frag} {C D : Addr} {cd : ClassData}
theorem XCls.mk' (q1 : findIn K (.ref C) "__getattribute__" = some (some (.builtin "BaseException.__getattribute__"))) (q2 : findIn K (.ref C) "__getattr__" = some none) (q3 : clsIn K C = some cd)
    (q4 : findIn K (.ref C) "__class__" = some (some (.builtin "object.__class__"))) (q5 : specialIn K (.builtin "object.__class__") "__get__" = some (some (.builtin "getset_descriptor.__get__"))) (q6 : takesIn K (.builtin "object.__class__") = some true)
    (q7 : mroIn K C (.type "object") = some true) (q8 : subIn K (.ref C) (.type "BaseException") = some true) : XCls K C :=
  ⟨q1, q2, by unfold findObj; rw [q3, Option.bind_some, q4, Option.bind_some]; simp [q5, q6], q7, q8, by rw [q3]; rfl⟩
theorem HCls.mk' (q1 : typeIn K (.ref D) = some (.type "type")) (q2 : clsIn K D = some cd) (q3 : subIn K (.ref D) (.type "BaseException") = some true) : HCls K D := ⟨q1, by rw [q2]; rfl, q3⟩
theorem kit_pos (V : HCls K D) (h : subIn K (.ref C) (.ref D) = some true) : kitOne K (.ref C) (.ref D) = some true := by
  unfold kitOne
  split
  · rfl
  · show (if ((clsIn K D).isSome && typeIn K (.ref D) == some (.type "type")) = true then subIn K (.ref C) (.ref D) else none) = _
    rw [V.ty, V.cl]
    simp only [beq_self_eq_true, Bool.and_self, if_true]
    exact h
theorem kit_neg (V : HCls K D) (n : C ≠ D) (h : subIn K (.ref C) (.ref D) = some false) : kitOne K (.ref C) (.ref D) = some false := by
  unfold kitOne
  rw [if_neg (fun z => n (Value.ref.inj (beq_iff_eq.mp z)))]
  show (if ((clsIn K D).isSome && typeIn K (.ref D) == some (.type "type")) = true then subIn K (.ref C) (.ref D) else none) = _
  rw [V.ty, V.cl]
  simp only [beq_self_eq_true, Bool.and_self, if_true]
  exact h
theorem kit_ty {n : String} {b : Bool} (m : kitMeta n = true) (h : subIn K (.ref C) (.type n) = some b) : kitOne K (.ref C) (.type n) = some b := by
  unfold kitOne
  rw [if_neg (fun z => by cases beq_iff_eq.mp z)]
  show (if kitMeta n = true then subIn K (.ref C) (.type n) else none) = _
  rw [if_pos m]
  exact h
theorem kit_any2 {D1 D2 : Addr} (h1 : kitOne K (.ref C) (.ref D1) = some false) (h2 : kitOne K (.ref C) (.ref D2) = some false) : kitAny K (.ref C) ([D1, D2].map Value.ref) = some false := by
  show kitAny K (.ref C) [.ref D1, .ref D2] = some false
  unfold kitAny
  rw [h1]
  unfold kitAny
  rw [h2]
  rfl
theorem meta_ValueError : kitMeta "ValueError" = true := by decide +kernel
end
end L2

/-! ### name = [comprehension], stored before the block is let go -/
namespace L2
open PySem PySem.Spec PyProof.Rows
section
variable {X : Cx}
theorem ps_setC {y : Str} {py spos : Pos} {k : Nat} {tg iter elt : Expr} {ifs : List Expr} {scope : Scope} {pos : Pos} {N : List Str} {ix : List (Option Nat)} {wi : TI} {g : TG} {tt : TT} {te : TE}
    (hN : X.N.Nodup) (hk0 : X.N[k]? = some y) (hy : Loc X.env.scope y) (hc : X.calm = true) (hi : PI X tg iter wi)
    (hg : ∀ pins C s H fp, PG (compCx X pins N scope C s H fp) tg g)
    (ht : ∀ pins C s H fp, PTs (compCx X pins N scope C s H fp) ifs tt)
    (he : ∀ pins C s H fp, PE (compCx X pins N scope C s H fp) elt te)
    (hk : scope.kind = .function) (hcell : ∀ y ∈ scope.names, y.2 ≠ .cell) (hnames : ∀ y ∈ scope.names, y.2 = .local → scope.names.lookup y.1 = some .local)
    (hfr0 : (scope.names.all fun y => !(y.2 == NameKind.free) || (X.env.cells.lookup y.1).isSome) = true) (hix : IxOk X scope N ix)
    (hs : ∀ x, foldedSetIterable iter X.env x = pure x := by intro _; rfl)
    (hsw : swapsWith (.ListComp elt [⟨tg, iter, ifs, 0⟩] scope pos) (some (.Name y py)) spos.line X.env = pure true := by rfl)
    (hf : X.fn y = true ∨ X.env.scope.names.lookup y = some .local := by first | exact .inl rfl | exact .inr rfl | assumption) :
    PS X (.Assign [.Name y py] (.ListComp elt [⟨tg, iter, ifs, 0⟩] scope pos) spos) (tAsg (tComp ix wi g tt te) (gName k)) := by
  intro pins s σ H D I h
  replace h : wi σ H fun J H1 => CompGoal ix g tt te σ (fun x H1 => D.nx (σ.set k (some x)) H1) J H1 := h
  have hfr : ∀ y ∈ scope.names, y.2 = .free → (X.env.cells.lookup y.1).isSome = true := fun y hy e => by
    have z := List.all_eq_true.mp hfr0 y hy
    rw [e] at z
    simpa using z
  have hfr' : ∀ p ∈ scope.names, p.2 = .free → ∃ c, X.env.cells.lookup p.1 = some c := fun p hp e => Option.isSome_iff_exists.mp (hfr p hp e)
  have clsub : ∀ x c, (clOf X.env.cells scope.names []).lookup x = some c → X.env.cells.lookup x = some c := clOf_sub (fun x c q => by simp at q)
  have clhas : ∀ x, scope.names.lookup x = some .free → ∃ c, (clOf X.env.cells scope.names []).lookup x = some c := fun x hx => by
    have hm := PySem.mem_of_lookup hx
    exact Option.isSome_iff_exists.mp (clOf_has (.inr ⟨hm, hfr _ hm rfl⟩))
  rw [exec_Assign_Name_used _ _ _ _ hsw]
  refine wpAny_bind (wpAny_standAt (wpAny_bind ?_))
  show wpAny _ X.A (do let _ ← comprehension (.ListComp elt [⟨tg, iter, ifs, 0⟩] scope pos) scope X.env _ (newList []) false (eval iter X.env) (some (assign (.Name y py) X.env))) _ _ s
  refine wpAny_bind (wpAny_mono (wpAny_comprehension_free (use := some (assign (.Name y py) X.env)) (Q := fun _ s' => SP X pins D .next s') rfl hs (closure_eq hfr') hk hnames (thn (hi pins s σ H _ I h) fun v s1 h1 => thn h1 fun itv s2 h2 => ?_)) (fun _ s' hq => wpAny_pure (wpAny_pure hq)) fun _ _ e => e)
  obtain ⟨it, fp, tn, J, H2, e, I2, T, st2, f2, hW⟩ := h2
  subst e
  have hfree2 : H2 s2.heap.objs.size = none := I2.hok.fresh (Nat.le_refl _)
  obtain ⟨W, ⟨m0, w0⟩, turn⟩ := hW s2.heap.objs.size hfree2
  refine wpAny_newObj_type ?_
  have I3 : Inv X pins σ (upd H2 s2.heap.objs.size (.lst [])) { s2 with heap := s2.heap.push { cls := .type "list", data := .seq ([] : List Value).toArray } } := I2.lnew (its := []) (t' := s2.toks) .nil (Nat.zero_le _)
  have f3 : ∀ b ∈ fp, FpOk X pins (upd H2 s2.heap.objs.size (.lst [])) b := fun b hb => by
    refine ⟨?_, (f2 b hb).2⟩
    obtain ⟨o, eo, _⟩ := T.obj _ _ st2 b hb
    rw [upd_ne (Nat.ne_of_lt (Heap.lt_size eo))]
    exact (f2 b hb).1
  have st3 : tn 0 (s2.heap.push { cls := .type "list", data := .seq ([] : List Value).toArray }) := T.keep _ _ _ st2 fun b _ o e => Heap.get?_push_of_some _ e
  generalize hs3 : ({ s2 with heap := s2.heap.push { cls := .type "list", data := .seq ([] : List Value).toArray } } : Shared) = s3 at I3
  have st3 : tn 0 s3.heap := by rw [← hs3]; exact st3
  generalize hH3 : upd H2 s2.heap.objs.size (.lst []) = H3 at I3 f3 w0
  generalize hacc : s2.heap.objs.size = acc at *
  refine wpAny_newFunctionEnv hcell (by intro y hy; simp at hy) (fun h₁ hns₁ hsb₁ => ?_) hk
  have old : ∀ b o, s3.heap.get? b = some o → h₁.get? b = some o := fun b o q => hsb₁.extBut b o (Nat.ne_of_lt (Heap.lt_size q)) (Heap.get?_push_of_some _ q)
  have hCfree : H3 s3.heap.objs.size = none := I3.hok.fresh (Nat.le_refl _)
  have fpl : ∀ b ∈ fp, b < s3.heap.objs.size := fun b hb => by
    obtain ⟨o, eo, _⟩ := T.obj _ _ st3 b hb
    exact Heap.lt_size eo
  have nstk : ∀ b, b ≠ X.env.locals → b ∉ X.fs → b ∉ frs X.stack := fun b h1 h2 z => by
    rcases List.mem_cons.mp (I3.stkSub b z) with q | q
    · exact h1 q
    · exact h2 q
  have clt : ∀ x c, X.env.cells.lookup x = some c → c < s3.heap.objs.size := fun x c q => by
    obtain ⟨v, z⟩ := I3.cell x c q
    exact z.lt
  -- the block's own invariant at its start
  have YI : ∀ (h' : Heap) (m : Str → Option Value), (∀ b o, s3.heap.get? b = some o → h'.get? b = some o) → h'.Ns s3.heap.objs.size m →
      Inv (compCx X pins N scope s3.heap.objs.size s3 H3 fp) [] (pick ix σ) H3 { s3 with heap := h', toks := s3.toks + ([] : List (Str × Value)).length } := by
    intro h' m hk' hn
    refine ⟨⟨I3.ok.mod, hk, I3.ok.glob, I3.ok.blt, Nat.le_refl _, fun x y c q1 q2 => I3.ok.inj x y c (clsub x c q1) (clsub y c q2), fun x hx => clhas x (relabel_not_local hcell hx), fun x c hf _ => absurd hf Bool.false_ne_true,
      I3.ok.hd, I3.ok.frames, .inl rfl, fun b hb => ⟨Nat.ne_of_lt (fpl b hb), fun x c q => (f3 b hb).2.2.2.2.1 x c (clsub x c q)⟩, I3.bs, Nat.le_trans I3.ok.bsz I3.sz, fun b o e hb => ?_, fun b hb => nstk b (f3 b hb).2.1 (f3 b hb).2.2.1, I3.stack, I3.stkFree⟩,
      rfl, I3.bare, Un.kept hk', ⟨m, hn, fun i x v h1 h2 h3 => ?_⟩, fun x c q => ?_, hCfree, fun x c q => I3.freeC x c (clsub x c q), fun p hp => ?_, I3.hok.kept hk', ?_⟩
    · have q := (I3.bs b o e).2
      rcases (f3 b hb).2.2.2.1 with z | z
      · exact I3.ok.noex b o e z
      · exact absurd (Nat.lt_of_lt_of_le (Heap.lt_size e) (Nat.le_trans I3.ok.bsz z)) (Nat.lt_irrefl _)
    · obtain ⟨j, e1, e2⟩ := pick_get h2
      obtain ⟨a1, a2, a3, a4⟩ := hix.get h1 e1
      obtain ⟨mX, hnX, hlX⟩ := I3.loc
      obtain ⟨u, ru, l⟩ := hlX j x v a1 e2 a2
      refine ⟨u, ru, ?_⟩
      rcases l with ⟨l1, _⟩ | ⟨_, c, lc, z⟩
      · have l1' : X.env.scope.names.lookup x = some .local := l1
        rw [l1'] at a3
        exact absurd a3 (by decide)
      · obtain ⟨c', hc'⟩ := clhas x a4
        have ec := clsub x c' hc'
        rw [lc] at ec
        have ec' : c = c' := Option.some.inj ec
        subst ec'
        exact .inr ⟨relabel_free a4, c, hc', z.keeps hk'⟩
    · obtain ⟨v, z⟩ := I3.cell x c (clsub x c q)
      exact ⟨v, z.keeps hk'⟩
    · have hp' : p ∈ X.pn ++ pins := by simpa using hp
      obtain ⟨a1, a2, a3, a4, a5⟩ := I3.pin p hp'
      exact ⟨hk' _ _ a1, a2, Nat.ne_of_lt (Heap.lt_size a1), nstk p.1 a3 a4, a5⟩
    · show (pick ix σ).length = N.length
      unfold pick
      rw [List.length_map]
      exact hix.len
  have fpY : ∀ {pl : List (Addr × Obj)} {H' : Hp}, pl = [] → (∀ b ∈ fp, H' b = none) → ∀ b ∈ fp, FpOk (compCx X pins N scope s3.heap.objs.size s3 H3 fp) pl H' b := fun {pl H'} epl hn b hb => by
    obtain ⟨f0, f1, f2', f3', f4, f5⟩ := f3 b hb
    subst epl
    exact ⟨hn b hb, Nat.ne_of_lt (fpl b hb), nstk b f1 f2', .inl hb, fun x c q => f4 x c (clsub x c q), fun p hp => f5 p (by simpa using hp)⟩
  have loop : ∀ s4 : Shared, (∃ m, s4 = { s3 with heap := h₁, toks := s3.toks + ([] : List (Str × Value)).length } ∧ h₁.Ns s3.heap.objs.size m) →
      codeAny (model X.prog X.w) X.A (.compLoop (.ListComp elt [⟨tg, iter, ifs, 0⟩] scope pos) 0 (.ref it) (.ref acc) (compEnvC scope (clOf X.env.cells scope.names []) s3.heap.objs.size X.env))
        (compPost (model X.prog X.w) X.A X.xe (some (assign (.Name y py) X.env)) (fun _ s' => SP X pins D .next s') (.ref acc) s3.heap.objs.size) s4 := by
    rintro s4 ⟨m4, rfl, hn4⟩
    refine comp_loop (E := fun _ _ => False) (fun _ _ z => z.elim)
      (fun n s' => ∃ i σ' ys H', Inv (compCx X pins N scope s3.heap.objs.size s3 H3 fp) [] σ' H' s' ∧ tn i s'.heap ∧ (∀ b ∈ fp, H' b = none) ∧ W i n σ' ys H') ?_ m0
      ⟨0, pick ix σ, [], H3, YI h₁ m4 old hn4, T.keep _ _ _ st3 fun b _ o q => old b o q, fun b hb => (f3 b hb).1, w0⟩
    rintro n s5 ⟨i, σ5, ys, H5, I5, st5, fr5, w5⟩
    obtain ⟨hl5, hstep⟩ := turn i n σ5 ys H5 w5
    rcases hstep with ⟨stop, q⟩ | ⟨go, m', hm', step⟩
    · refine thn (T.done (compCx X pins N scope s3.heap.objs.size s3 H3 fp) rfl rfl rfl hc i [] s5 σ5 H5 (fun _ _ => False) I5 (fpY rfl fr5) st5 stop) fun r s6 ⟨hr, I6⟩ => ?_
      subst hr
      obtain ⟨m6, hn6, _⟩ := I6.loc
      have I6X : Inv X pins σ H5 s6 := I3.call' (ch := fp) I6.os I6.base I6.hok I6.bare fun b hb => by
        obtain ⟨f0, f1, f2', f3', f4, f5⟩ := f3 b hb
        exact ⟨f3', f1, f4, f5⟩
      have neL : X.env.locals ≠ s3.heap.objs.size := fun z => by
        obtain ⟨m, ⟨o, _, _, ho, _⟩, _⟩ := I3.loc
        exact Nat.lt_irrefl _ (z ▸ Heap.lt_size ho)
      have neCl : ∀ x c, X.env.cells.lookup x = some c → c ≠ s3.heap.objs.size := fun x c e => Nat.ne_of_lt (clt x c e)
      refine wpAny_assign_Name (store_ok2 (u := .ref acc) (v := .ref acc) I6X hN hk0 hy rfl (fun s7 I7 ⟨a7, sb7, ha7⟩ => ?_) hf)
      have na7 : s3.heap.objs.size ≠ a7 := by
        rcases ha7 with z | z
        · exact fun w => neL (z ▸ w.symm)
        · exact fun w => neCl _ _ z w.symm
      refine ⟨m6, hn6.sameBut sb7 na7, fun h' sb => ?_⟩
      refine ⟨σ.set k (some (.ref acc)), H5, Inv.step2 (ch := [s3.heap.objs.size]) I7 (fun b hb => ?_) (fun b o _ _ nb e _ => (sb.2 b (fun z => nb (by rw [z]; exact List.mem_singleton.mpr rfl))).trans e) (fun b o _ _ nb e _ => ⟨o.slots, (sb.2 b (fun z => nb (by rw [z]; exact List.mem_singleton.mpr rfl))).trans e⟩)
        (fun _ _ _ _ e => e) (fun b o nb e => ⟨o, (sb.2 b (fun z => nb (by rw [z]; exact List.mem_singleton.mpr rfl))).trans e⟩) (fun _ _ e => e) (fun _ _ _ e => e) (fun b ps e => ⟨#[], by simpa using e⟩) (fun m hm => hm.sameBut sb neL) (I7.hok.letGo I6.free sb), q⟩
      have eb : b = s3.heap.objs.size := List.mem_singleton.mp hb
      subst eb
      refine ⟨?_, Ne.symm neL, neCl, fun p hp => Nat.ne_of_lt (Heap.lt_size (I3.pin p hp).1)⟩
      cases q9 : X.s₀.heap.get? s3.heap.objs.size with
      | none => rfl
      | some o => exact absurd (Nat.lt_of_lt_of_le (Heap.lt_size q9) I3.sz) (Nat.lt_irrefl _)
    · refine thn (T.item (compCx X pins N scope s3.heap.objs.size s3 H3 fp) rfl rfl rfl hc i [] s5 σ5 H5 (fun _ _ => False) I5 (fpY rfl fr5) st5 go) fun r s6 ⟨u, hr, h6⟩ => ?_
      subst hr
      refine thn h6 fun _ s7 ⟨x, H7, I7, r7, y7, st7, fr7⟩ => ?_
      have I7' := I7.pinned (fpY rfl fr7) (T.obj _ _ st7)
      refine thn (hg pins s3.heap.objs.size s3 H3 fp _ s7 σ5 H7 x u _ I7' r7 (step x H7 y7)) fun _ s8 ⟨σ8, H8, I8, q8⟩ => ?_
      refine thn (wp_tests (ht pins s3.heap.objs.size s3 H3 fp) I8 q8) fun b s9 ⟨H9, I9, q9⟩ => ?_
      have back : ∀ {σz : St} {Hz : Hp} {sz : Shared} {yz : List V}, Inv (compCx X pins N scope s3.heap.objs.size s3 H3 fp) ([] ++ pinsAt fp s7.heap) σz Hz sz → W (i + 1) m' σz yz Hz →
          ∃ m, m < n ∧ ∃ i σ' ys H', Inv (compCx X pins N scope s3.heap.objs.size s3 H3 fp) [] σ' H' sz ∧ tn i sz.heap ∧ (∀ b ∈ fp, H' b = none) ∧ W i m σ' ys H' := fun {σz Hz sz yz} Iz wz => by
        refine ⟨m', hm', i + 1, σz, yz, Hz, Iz.unpinned, T.keep _ _ _ st7 fun b hb o e => (Iz.pin (b, o) (List.mem_append_right _ (List.mem_append_right _ (mem_pinsAt hb e)))).1, fun b hb => ?_, wz⟩
        obtain ⟨o, e, d⟩ := T.obj _ _ st7 b hb
        exact (Iz.pin (b, o) (List.mem_append_right _ (List.mem_append_right _ (mem_pinsAt hb e)))).2.1
      cases b with
      | false => exact back I9 q9
      | true =>
        refine thn (he pins s3.heap.objs.size s3 H3 fp _ s9 σ8 H9 _ I9 q9) fun v s10 ⟨y, H10, I10, r10, hl10, hz10, w10⟩ => ?_
        refine thn (mt_append _ s10 σ8 H10 (.ref acc) [y] (.ref acc) [v] (fun _ H' => H' = upd H10 acc (.lst (ys ++ [y]))) I10 rfl (.cons r10 .nil) ⟨acc, ys, y, rfl, rfl, hl10, hz10, rfl⟩) fun _ s11 ⟨_, H11, I11, _, e11⟩ => ?_
        subst e11
        exact back I11 w10
  have hn4 : ∃ m, h₁.Ns s3.heap.objs.size m := ⟨_, hns₁⟩
  obtain ⟨m4, hn4⟩ := hn4
  have L := loop _ ⟨m4, rfl, hn4⟩
  exact codeAny_compStart_list L (T.self _ 0 _ _ _ (T.keep _ _ _ st3 fun b _ o q => old b o q) L)
end
end L2

namespace L2
open PySem PySem.Spec PyProof.Rows
theorem boot_ValueError : bootBuiltins "ValueError" = some (.type "ValueError") := by decide +kernel
section
variable {K : PySem.W.Frag} {H : Hp} {Q : VK} {D : Ends} {σ : St}
theorem r_inT {x : V} {p : Addr} {xs : List V} (e : SqT K H p xs) (fx : flatV x = true) (fs : xs.all flatV = true) (h : Q (.bl (inV x xs)) H) : rIn K false x (.ref p) H Q := ⟨p, xs, rfl, .inr e, fx, fs, h⟩
theorem r_inL {x : V} {p : Addr} {xs : List V} (e : SqL K H p xs) (fx : flatV x = true) (fs : xs.all flatV = true) (h : Q (.bl (inV x xs)) H) : rIn K false x (.ref p) H Q := ⟨p, xs, rfl, .inl e, fx, fs, h⟩
/-- what follows a statement is read once, from what all its ways have in common -/
theorem join {t : TS} {u : St → Hp → Prop} (P : St → Hp → Prop) (h1 : ∀ nx : St → Hp → Prop, (∀ σ' H', P σ' H' → nx σ' H') → t { D with nx := nx } σ H) (h2 : ∀ σ' H', P σ' H' → u σ' H') : t { D with nx := u } σ H := h1 u h2
theorem joinE {t : TE} (P : V → Hp → Prop) (h1 : ∀ Q' : VK, (∀ v H', P v H' → Q' v H') → t σ H Q') (h2 : ∀ v H', P v H' → Q v H') : t σ H Q := h1 Q h2
end
end L2

namespace L2
open PySem PySem.Spec PyProof.Rows
/-! ### all([..]) of booleans -/
def rAll (K : PySem.W.Frag) : List V → Hp → VK → Prop := fun xs H Q => ∃ (a : Addr) (bs : List Bool), xs = [.ref a] ∧ SqL K H a (bs.map V.bl) ∧ Q (.bl (bs.all id)) H
theorem range_allB (bs : List Bool) : ((List.range bs.length).all fun i => (bs[i]?).getD true) = bs.all id := by
  rw [Bool.eq_iff_iff, List.all_eq_true, List.all_eq_true]
  constructor
  · intro h b hb
    obtain ⟨i, hi, rfl⟩ := List.getElem_of_mem hb
    have := h i (List.mem_range.mpr hi)
    simpa [List.getElem?_eq_getElem hi] using this
  · intro h i hi
    have hi' := List.mem_range.mp hi
    simpa [List.getElem?_eq_getElem hi'] using h _ (List.getElem_mem hi')
section
variable {X : Cx}
theorem call_allB (hc : X.calm = true) : CallR X (.builtin "all") (rAll X.K) := by
  intro pins s σ H xs us Q I r h
  obtain ⟨a, bs, rfl, hs, q⟩ := h
  obtain ⟨u, rfl, ru⟩ := vals1 r
  cases ru
  obtain ⟨its, rv, p, _⟩ := I.list hs
  have hl : s.heap.IsList a its.toArray := by
    obtain ⟨o, n, h1, h2, h3⟩ := p
    exact ⟨o, h1, h2, n, h3.2⟩
  have hlt : a < s.heap.objs.size := by obtain ⟨_, e, _⟩ := hl; exact Heap.lt_size e
  have hh : X.A.handled = none := I.ok.hd hc
  refine call_all_walk (wpAny_pyIter_list hl ?_)
  refine ⟨s.heap.objs.size, [s.heap.objs.size, a], [s.heap.objs.size], its.toArray.size, _, _, fun i => (bs[i]?).getD true, rfl, Walks.list (A := X.A.in1) hh _ a (Nat.ne_of_lt hlt) its.toArray,
    ⟨⟨_, Heap.get?_push_size _ rfl, rfl, rfl⟩, hl.push _⟩, fun i v s' Q' E' hP hQ => ?_, fun h' tk hk => ?_⟩
  · have hP' : its[i]? = some v := by simpa using hP
    have hi : i < its.length := (List.getElem?_eq_some_iff.mp hP').1
    have hb : i < bs.length := by have := rv.length; simp at this; omega
    obtain ⟨u1, e1, r1⟩ := rv.get (i := i) (x := .bl bs[i]) (by simp [hb])
    rw [hP'] at e1
    cases e1
    cases r1
    simp only [List.getElem?_eq_getElem hb, Option.getD_some] at hQ
    exact wpAny_truthy_bool hQ
  · have e : ((List.range its.toArray.size).all fun i => (bs[i]?).getD true) = bs.all id := by
      have := rv.length
      simp at this
      rw [List.size_toArray, ← this]; exact range_allB bs
    rw [e]
    exact ⟨.bl (bs.all id), H, I.kept (t' := tk) (fun b x e => hk b x (fun hm => by rw [List.mem_singleton.mp hm] at e; exact Nat.lt_irrefl _ (Heap.lt_size e)) (Heap.get?_push_of_some _ e)), rfl, q⟩
theorem kN_all (K : PySem.W.Frag) (hK : X.K = K) (hc : X.calm = true) : CallR X (.builtin "all") (rAll K) := hK ▸ call_allB hc
/-! ### t + u of tuples, either of them empty -/
def rCatV (K : PySem.W.Frag) : R2 := fun x y H Q => ∃ a b xs ys, x = .ref a ∧ y = .ref b ∧ SqT K H a xs ∧ SqT K H b ys ∧ xs.length + ys.length ≤ sizeLine ∧
  (xs = [] → Q (.ref b) H) ∧ (xs ≠ [] → ys = [] → Q (.ref a) H) ∧ (xs ≠ [] → ys ≠ [] → ∀ p, H p = none → Q (.ref p) (upd H p (.tup (xs ++ ys))))
theorem op_catV : OpR X (binaryOp .Add) (rCatV X.K) := by
  intro pins s σ H x y v u Q I rx ry h
  obtain ⟨a, b, xs, ys, rfl, rfl, ha, hb, hz, q0, q1, q2⟩ := h
  by_cases hx : xs = []
  · subst hx
    cases rx
    cases ry
    obtain ⟨its, r1, p1, _⟩ := I.tuple ha
    obtain ⟨its2, r2, p2, _⟩ := I.tuple hb
    cases r1
    obtain ⟨⟨cls, dd, data, sl⟩, ho, hc, n, hd⟩ := p1
    obtain ⟨⟨cls2, dd2, data2, sl2⟩, ho2, hc2, n2, hd2⟩ := p2
    simp only at hc hd hc2 hd2
    subst hc hd hc2 hd2
    exact concat_meets ⟨_, ho, rfl⟩ ⟨_, ho2, rfl⟩ noFill_tuple_add seq_tuple_add PySem.F.slot_tuple_add PySem.F.entry_tuple_add (PySem.F.args_tuple_add_2 _ _)
      (tuple_addW0 a b #[] its2.toArray n n2 dd dd2 sl sl2 rfl) ⟨ho, ho2, ⟨.ref b, H, I, rfl, q0 rfl⟩⟩
  · exact op_catT pins s σ H _ _ v u Q I rx ry ⟨a, b, xs, ys, rfl, rfl, ha, hb, hx, hz, q1 hx, q2 hx⟩
theorem kop_catV (K : PySem.W.Frag) (hK : X.K = K) : OpR X (binaryOp .Add) (rCatV K) := hK ▸ op_catV
end
section
variable {K : PySem.W.Frag} {H : Hp} {Q : VK} {σ : St}
theorem r_all {a : Addr} {bs : List Bool} (e : SqL K H a (bs.map V.bl)) (h : Q (.bl (bs.all id)) H) : rAll K [.ref a] H Q := ⟨a, bs, rfl, e, h⟩
theorem r_catV {a b : Addr} {xs ys : List V} (e1 : SqT K H a xs) (e2 : SqT K H b ys) (n : xs.length + ys.length ≤ 1000) (h : ∀ p H2, Same H H2 → SqT K H2 p (xs ++ ys) → Q (.ref p) H2) : rCatV K (.ref a) (.ref b) H Q :=
  ⟨a, b, xs, ys, rfl, rfl, e1, e2, Nat.le_trans n (by decide), fun z => by subst z; exact h b H (Same.refl _) e2, fun _ z => by subst z; exact h a H (Same.refl _) (by rw [List.append_nil]; exact e1),
    fun _ _ p hp => h p _ (Same.upd_new hp) (SqT.of upd_same)⟩
theorem r_isiN {n : String} {b : Bool} (k : PySem.W.kitOne K (.type "NoneType") (.type n) = some b) (h : Q (.bl b) H) : rIsInst K [.non, .ty n] H Q := ⟨_, n, _, b, rfl, .inl .non, k, h⟩
theorem r_isiS {x : Str} {n : String} {b : Bool} (k : PySem.W.kitOne K (.type "str") (.type n) = some b) (h : Q (.bl b) H) : rIsInst K [.str x, .ty n] H Q := ⟨_, n, _, b, rfl, .inl (.str _), k, h⟩
theorem r_gsub {to ti : TE} {t : TSet} {v : V} {R : St → Hp → Prop} (h : to σ H fun o H1 => ti σ H1 fun i H2 => t o i v H2 fun H3 => R σ H3) : gSub to ti t v σ H R := h
theorem r_setL {p : Addr} {xs : List V} {k : Int} {j : Nat} {v : V} {R : Hp → Prop} (e : H p = some (.lst xs)) (hj : ixN xs.length k = some j) (h : R (upd H p (.lst (xs.set j v)))) : rSetL (.ref p) (.int k) v H R := ⟨p, xs, k, j, rfl, rfl, e, hj, h⟩
theorem rd_mapRowV {a : Addr} {xs : List V} {ix : List (Option Nat)} {te : TE} (F : V → V) (fr : St) (hpk : pick ix σ = none :: fr) (ha : SqT K H a xs) (hn : xs.length ≤ 1000)
    (step : ∀ x H' (Qc : VK), x ∈ xs → Same H H' → (∀ H5, Same H' H5 → Qc (F x) H5) → te (some x :: fr) H' Qc)
    (hQ : ∀ l H', H l = none → Same H H' → H' l = some (.lst (xs.map F)) → Q (.ref l) H') : CompGoal ix (gName 0) (fun _ H Q => Q true H) te σ Q (Itt K a) H := by
  refine rd_comp1 fr xs.length (fun i => F (xs.getD i .non)) hpk (by omega) (fun H' s => ⟨_, s.at ha, by simp⟩) (fun i H' hi s => ⟨_, xs[i], s.at ha, List.getElem?_eq_getElem hi⟩) (fun i x H' H2 Qc hi hs hy kc => ?_) fun l H' hl hs hl' => hQ l H' hl hs ?_
  · obtain ⟨rfl, e1⟩ := hy
    have e2 := e1 _ (hs.at ha)
    have e3 : xs.getD i .non = x := by rw [List.getD, e2]; rfl
    rw [e3] at kc
    exact step _ _ Qc (List.mem_of_getElem? e2) hs kc
  · rw [hl']
    congr 2
    apply List.ext_getElem (by simp)
    intro i h1 h2
    simp at h1 h2
    simp [List.getD, h2]
end
end L2

/-! ### == and != of nested data -/
namespace L2
open PySem PySem.Spec PyProof.Rows
mutual
/-- what a value tells, through tuples and lists -/
inductive Tell (K : PySem.W.Frag) (H : Hp) : V → PyData → Prop where
  | non : Tell K H .non .none
  | bl (b : Bool) : Tell K H (.bl b) (.bool b)
  | int (i : Int) : Tell K H (.int i) (.int i)
  | str (x : Str) : Tell K H (.str x) (.str x)
  | tup {a : Addr} {xs : List V} {ds : List PyData} (h : SqT K H a xs) (t : Tells K H xs ds) : Tell K H (.ref a) (.tuple ds)
  | lst {a : Addr} {xs : List V} {ds : List PyData} (h : SqL K H a xs) (t : Tells K H xs ds) : Tell K H (.ref a) (.list ds)
inductive Tells (K : PySem.W.Frag) (H : Hp) : List V → List PyData → Prop where
  | nil : Tells K H [] []
  | cons {x : V} {d : PyData} {xs : List V} {ds : List PyData} (h : Tell K H x d) (t : Tells K H xs ds) : Tells K H (x :: xs) (d :: ds)
end
section
variable {X : Cx} {pins : List (Addr × Obj)} {σ : St} {H : Hp} {s : Shared}
mutual
theorem Tell.reads (I : Inv X pins σ H s) : ∀ {v : V} {d : PyData} {u : Value}, Tell X.K H v d → RelV v u → ∃ as, Reads s.heap u d as
  | _, _, u, .non, r => by cases (show u = Value.none from r); exact ⟨_, .none⟩
  | _, _, u, .bl b, r => by cases (show u = Value.bool b from r); exact ⟨_, .bool b⟩
  | _, _, u, .int i, r => by
    obtain ⟨t, q⟩ := (show ∃ t, u = Value.int i t from r)
    cases q
    exact ⟨_, .int i t⟩
  | _, _, u, .str x, r => by
    obtain ⟨t, q⟩ := (show ∃ t, u = Value.str x t from r)
    cases q
    exact ⟨_, .str x t⟩
  | _, _, u, .tup (a := a) h t, r => by
    cases (show u = Value.ref a from r)
    obtain ⟨its, rv, p, _⟩ := I.tuple h
    obtain ⟨o, h1, h2, n, h3⟩ := p
    obtain ⟨as, ra⟩ := Tells.reads I t rv
    exact ⟨_, reads_tuple_at h1 h2 h3 (by simpa using ra)⟩
  | _, _, u, .lst (a := a) h t, r => by
    cases (show u = Value.ref a from r)
    obtain ⟨its, rv, p, _⟩ := I.list h
    obtain ⟨o, n, h1, h2, h3⟩ := p
    obtain ⟨as, ra⟩ := Tells.reads I t rv
    exact ⟨_, reads_list_at h1 h2 h3.2 (by simpa using ra)⟩
theorem Tells.reads (I : Inv X pins σ H s) : ∀ {vs : List V} {ds : List PyData} {us : List Value}, Tells X.K H vs ds → Vals vs us → ∃ as, ReadsAll s.heap us ds as
  | _, _, _, .nil, .nil => ⟨_, .nil⟩
  | _, _, _, .cons h t, .cons r rs => by
    obtain ⟨as, ra⟩ := Tell.reads I h r
    obtain ⟨bs, rb⟩ := Tells.reads I t rs
    exact ⟨_, .cons ra rb⟩
end
/-- == (neg: !=) by what the values tell -/
def rEqD (K : PySem.W.Frag) (neg : Bool) : R2 := fun x y H Q => ∃ d e, Tell K H x d ∧ Tell K H y e ∧ SeqAt.shaped d = true ∧ SeqAt.shaped e = true ∧ Q (.bl (if neg then !PyData.eqv d e else PyData.eqv d e)) H
theorem op_eqD (hu : X.A.units + 64 < cLine) : OpR X (compareOp .Eq) (rEqD X.K false) := by
  intro pins s σ H x y v u Q I rx ry h
  obtain ⟨d, e, hd, he, sd, se, q⟩ := h
  obtain ⟨as, ra⟩ := hd.reads I rx
  obtain ⟨bs, rb⟩ := he.reads I ry
  exact eq_dataH ra rb sd se hu ⟨.bl (PyData.eqv d e), H, I, rfl, q⟩
theorem op_neD (hu : X.A.units + 64 < cLine) : OpR X (compareOp .NotEq) (rEqD X.K true) := by
  intro pins s σ H x y v u Q I rx ry h
  obtain ⟨d, e, hd, he, sd, se, q⟩ := h
  obtain ⟨as, ra⟩ := hd.reads I rx
  obtain ⟨bs, rb⟩ := he.reads I ry
  exact ne_dataH ra rb sd se hu ⟨.bl (!PyData.eqv d e), H, I, rfl, q⟩
variable {K : PySem.W.Frag}
theorem kop_eqD (K : PySem.W.Frag) (hK : X.K = K) (hu : X.A.units + 64 < cLine) : OpR X (compareOp .Eq) (rEqD K false) := hK ▸ op_eqD hu
theorem kop_neD (K : PySem.W.Frag) (hK : X.K = K) (hu : X.A.units + 64 < cLine) : OpR X (compareOp .NotEq) (rEqD K true) := hK ▸ op_neD hu
end
section
variable {K : PySem.W.Frag} {H : Hp} {Q : VK}
theorem r_eqD {x y : V} {d e : PyData} (hd : Tell K H x d) (he : Tell K H y e) (sd : SeqAt.shaped d = true) (se : SeqAt.shaped e = true) (h : Q (.bl (PyData.eqv d e)) H) : rEqD K false x y H Q := ⟨d, e, hd, he, sd, se, h⟩
theorem r_neD {x y : V} {d e : PyData} (hd : Tell K H x d) (he : Tell K H y e) (sd : SeqAt.shaped d = true) (se : SeqAt.shaped e = true) (h : Q (.bl (!PyData.eqv d e)) H) : rEqD K true x y H Q := ⟨d, e, hd, he, sd, se, h⟩
/-- a list of rows: each item a tuple of ints -/
def Rows (K : PySem.W.Frag) (H : Hp) (xs : List V) (rs : List (List Int)) : Prop := Tells K H xs (rs.map fun r => .tuple (r.map PyData.int))
theorem Tells.ints : ∀ (r : List Int), Tells K H (r.map V.int) (r.map PyData.int)
  | [] => .nil
  | i :: r => .cons (.int i) (Tells.ints r)
theorem Tell.row {a : Addr} {r : List Int} (h : SqT K H a (r.map V.int)) : Tell K H (.ref a) (.tuple (r.map PyData.int)) := .tup h (Tells.ints r)
end
end L2

/-! ### loops whose invariant speaks of the heap; lists of rows -/
namespace L2
open PySem PySem.Spec PyProof.Rows
section
variable {K : PySem.W.Frag} {g : TG} {D : Ends} {σ : St} {H : Hp}
theorem f_inv {J : It} {tb : TS} (n : Nat) (Pv : Nat → St → Hp → Prop) (h0 : Pv 0 σ H) (hgo : ∀ i σ H2, i < n → Pv i σ H2 → J.go i H2) (hstop : ∀ σ H2, Pv n σ H2 → J.stop n H2)
    (hs : ∀ i x σ H2 H3, i < n → Pv i σ H2 → J.yld i H2 x H3 → g x σ H3 fun σ2 H4 => tb { D with nx := Pv (i + 1), ct := Pv (i + 1), bk := D.nx } σ2 H4) (hd : ∀ σ H2, Pv n σ H2 → D.nx σ H2) : ForGoal g tb D J σ H := by
  refine ⟨fun i m σ2 H2 => m = n - i ∧ i ≤ n ∧ Pv i σ2 H2, ⟨n, by simp, Nat.zero_le _, h0⟩, ?_⟩
  rintro i m σ2 H2 ⟨rfl, hi, p⟩
  by_cases hlt : i < n
  · exact .inr ⟨hgo i σ2 H2 hlt p, Pv (i + 1), fun σ' H' p' => ⟨n - (i + 1), by omega, rfl, hlt, p'⟩, fun x H' y => hs i x σ2 H2 H' hlt p y⟩
  · have e : i = n := by omega
    subst e
    exact .inl ⟨hstop σ2 H2 p, hd σ2 H2 p⟩
/-- over range -/
theorem f_invR {lo : Int} {n : Nat} {tb : TS} (Pv : Nat → St → Hp → Prop) (h0 : Pv 0 σ H) (hs : ∀ i σ H2, i < n → Pv i σ H2 → g (.int (lo + i)) σ H2 fun σ2 H4 => tb { D with nx := Pv (i + 1), ct := Pv (i + 1), bk := D.nx } σ2 H4) (hd : ∀ σ H2, Pv n σ H2 → D.nx σ H2) : ForGoal g tb D (Itr lo n) σ H := by
  refine f_inv n Pv h0 (fun i σ H2 hi _ => hi) (fun σ H2 _ => Nat.le_refl _) (fun i x σ H2 H3 hi p y => ?_) hd
  obtain ⟨rfl, rfl⟩ := y
  exact hs i σ _ hi p
/-- over a list that the loop leaves alone -/
theorem f_invL {a : Addr} {xs : List V} {tb : TS} (Pv : Nat → St → Hp → Prop) (h0 : Pv 0 σ H) (ha : ∀ i σ H2, Pv i σ H2 → SqL K H2 a xs) (hs : ∀ i x σ H2, xs[i]? = some x → Pv i σ H2 → g x σ H2 fun σ2 H4 => tb { D with nx := Pv (i + 1), ct := Pv (i + 1), bk := D.nx } σ2 H4) (hd : ∀ σ H2, Pv xs.length σ H2 → D.nx σ H2) : ForGoal g tb D (Itl K a) σ H := by
  refine f_inv xs.length Pv h0 (fun i σ H2 hi p => ⟨xs, xs[i], ha i σ H2 p, List.getElem?_eq_getElem hi⟩) (fun σ H2 p => ⟨xs, ha _ σ H2 p, Nat.le_refl _⟩) (fun i x σ H2 H3 hi p y => ?_) hd
  obtain ⟨rfl, e⟩ := y
  exact hs i x σ _ (e xs (ha i σ _ p)) p
end
end L2

/-! ### sum and max of a list of ints; products by zip; division by ints of either sign -/
namespace L2
open PySem PySem.Spec PyProof.Rows
def rSum (K : PySem.W.Frag) : List V → Hp → VK → Prop := fun xs H Q => ∃ (a : Addr) (ns : List Int), xs = [.ref a] ∧ SqL K H a (ns.map V.int) ∧ Q (.int ns.sum) H
def rMaxL (K : PySem.W.Frag) : List V → Hp → VK → Prop := fun xs H Q => ∃ (a : Addr) (ns : List Int), xs = [.ref a] ∧ SqL K H a (ns.map V.int) ∧ ns ≠ [] ∧ ∀ m, m ∈ ns → (∀ x ∈ ns, x ≤ m) → Q (.int m) H
def CDivNB (i j : Int) : Prop := j ≠ 0 ∧ j.natAbs.log2 < 9000
section
variable {X : Cx}
theorem op_fdivNB : OpR X (binaryOp .FloorDiv) (rI CDivNB fun i j => .int (i.fdiv j)) := opI fun _ _ _ _ _ _ _ hc q => floordiv_int hc.1 q (.inl (PyProof.noPylong_of_log2 hc.2))
theorem call_sumL (hc : X.calm = true) : CallR X (.builtin "sum") (rSum X.K) := by
  intro pins s σ H xs us Q I r h
  obtain ⟨a, ns, rfl, hs, q⟩ := h
  obtain ⟨u, rfl, ru⟩ := vals1 r
  cases ru
  obtain ⟨its, rv, p, _⟩ := I.list hs
  have hl : s.heap.IsList a its.toArray := by
    obtain ⟨o, n, h1, h2, h3⟩ := p
    exact ⟨o, h1, h2, n, h3.2⟩
  have hh : X.A.handled = none := I.ok.hd hc
  have hi : IntsAre its ns := intsAre_of rv
  obtain ⟨zs, hx⟩ := hi.allInts.items
  have hn : numsOf its.toArray.toList = ns := by rw [show its.toArray.toList = its from rfl, hi.numsOf]
  rw [hx] at hl hn
  rw [nums_intItems] at hn
  refine sum_intListG hh hl fun h' tk t' hk => ?_
  rw [preSum_eq, List.take_of_length_le (by simp), hn]
  exact ⟨.int ns.sum, H, I.kept (t' := tk) hk, ⟨t', rfl⟩, q⟩
theorem call_maxL (hc : X.calm = true) : CallR X (.builtin "max") (rMaxL X.K) := by
  intro pins s σ H xs us Q I r h
  obtain ⟨a, ns, rfl, hs, hne, q⟩ := h
  obtain ⟨u, rfl, ru⟩ := vals1 r
  cases ru
  obtain ⟨its, rv, p, _⟩ := I.list hs
  have hl : s.heap.IsList a its.toArray := by
    obtain ⟨o, n, h1, h2, h3⟩ := p
    exact ⟨o, h1, h2, n, h3.2⟩
  have hh : X.A.handled = none := I.ok.hd hc
  have hi : IntsAre its ns := intsAre_of rv
  obtain ⟨zs, hx⟩ := hi.allInts.items
  have hn : numsOf its.toArray.toList = ns := by rw [show its.toArray.toList = its from rfl, hi.numsOf]
  rw [hx] at hl hn
  rw [nums_intItems] at hn
  have hsz : 0 < zs.size := by
    rcases Nat.eq_zero_or_pos zs.size with z | z
    · exfalso; apply hne; rw [← hn]; apply List.eq_nil_of_length_eq_zero; rw [List.length_map, Array.length_toList, z]
    · exact z
  refine max_intList hh hl hsz fun v h' tk hv hk => ?_
  obtain ⟨t, rfl⟩ := intItems_at hv
  obtain ⟨h1, h2⟩ := argBest_gt (numAt zs) (zs.size - 1)
  refine ⟨.int _, H, I.kept (t' := tk) hk, ⟨t, rfl⟩, q _ ?_ fun b hb => ?_⟩
  · rw [← hn, numAt_eq]; exact getD_mem (by rw [List.length_map, Array.length_toList]; omega)
  · rw [← hn] at hb
    obtain ⟨j, hj, rfl⟩ := mem_getD hb
    rw [List.length_map, Array.length_toList] at hj
    rw [← numAt_eq]; exact h2 j (by omega)
theorem kN_sum (K : PySem.W.Frag) (hK : X.K = K) (hc : X.calm = true) : CallR X (.builtin "sum") (rSum K) := hK ▸ call_sumL hc
theorem kN_maxL (K : PySem.W.Frag) (hK : X.K = K) (hc : X.calm = true) : CallR X (.builtin "max") (rMaxL K) := hK ▸ call_maxL hc
end
section
variable {K : PySem.W.Frag} {H : Hp} {Q : VK} {σ : St} {ix : List (Option Nat)}
theorem r_sum {a : Addr} {ns : List Int} (e : SqL K H a (ns.map V.int)) (h : Q (.int ns.sum) H) : rSum K [.ref a] H Q := ⟨a, ns, rfl, e, h⟩
theorem r_maxL {a : Addr} {ns : List Int} (e : SqL K H a (ns.map V.int)) (n : ns ≠ []) (h : ∀ m, m ∈ ns → (∀ x ∈ ns, x ≤ m) → Q (.int m) H) : rMaxL K [.ref a] H Q := ⟨a, ns, rfl, e, n, h⟩
/-- [x * y for x, y in zip(a, b)], lists or tuples of ints -/
theorem rd_zipM {k1 k2 : Bool} {a b : Addr} {r q : List Int} (hpk : pick ix σ = [none, none]) (ha : Sq k1 K H a (r.map V.int)) (hb : Sq k2 K H b (q.map V.int)) (hlen : r.length = q.length) (hn : r.length ≤ 1000) (hm : ∀ i, i < r.length → CMulB (r.getD i 0) (q.getD i 0))
    (hQ : ∀ l H', H l = none → Same H H' → H' l = some (.lst ((List.zipWith (· * ·) r q).map V.int)) → Q (.ref l) H') :
    CompGoal ix (gTup K 2 (gCons (gName 0) (gCons (gName 1) gNil))) (fun _ H Q => Q true H) (tOp (rI CMulB fun i j => .int (i * j)) (tVar 0) (tVar 1)) σ Q (Itz K k1 k2 a b) H := by
  refine rd_compZ (k1 := k1) (k2 := k2) [] (fun i => .int (r.getD i 0 * q.getD i 0)) hpk ha hb (by simpa using hlen) (by rw [List.length_map]; omega) (fun i x y H' Qc ex ey hs kc => ?_) fun l H' hl hs hl' => hQ l H' hl hs ?_
  · obtain ⟨rfl, hi⟩ := int_get (r := r) ex
    obtain ⟨rfl, _⟩ := int_get (r := q) ey
    exact ⟨_, rfl, _, rfl, _, _, rfl, rfl, hm i hi, kc _ (Same.refl _)⟩
  · rw [hl']
    congr 2
    apply List.ext_getElem (by simp [hlen])
    intro i h1 h2
    have h3 : i < r.length := by simpa using h1
    have h4 : i < q.length := by omega
    simp [List.getD, h3, h4]
end
end L2

/-! ### enumerate over lists and tuples -/
namespace L2
open PySem
/-- the source's iterator at n, enumerate's own object at n + 1 -/
structure En (k : Bool) (n a : Nat) (i : Nat) (h : Heap) : Prop where
  ob : ∃ last : Value, IsEnum h (n + 1) n i last
  src : ItAt k h n a i
section
variable {prog : Program} {w : World} {A : Around} {E : Value → Shared → Prop} {s : Shared}
theorem en_next {k : Bool} {n a : Nat} {i : Nat} {xs : Array Value} {x : Value} {Q : Value → Shared → Prop} (Z : En k n a i s.heap) (ha : a < n) (hs : SrcOf k s.heap a xs) (hx : xs[i]? = some x)
    (hQ : ∀ h' t, IsEnumOut h' (n + 1) n ((i : Int) + 1) x s.heap.objs.size → ItAt k h' n a (i + 1) → IsT h' s.heap.objs.size #[.int i t, x] → h'.objs.size = s.heap.objs.size + 1 → Off [n, n + 1] s.heap h' → Q (.ref s.heap.objs.size) { s with heap := h', toks := s.toks + 1 }) :
    wpAny (model prog w) A (Builtin.«enumerate.__next__» ⟨[.ref (n + 1)], []⟩) (fun fin s' => ∃ v, fin = .done (.ret v) ∧ Q v s') E s := by
  obtain ⟨⟨last, ob⟩, src⟩ := Z
  obtain ⟨hp, gg, dd, tt, oo⟩ := s
  have n1 : (n + 1 : Addr) ≠ n := nne (by omega)
  show wpAny _ _ (field (.ref (n + 1)) 2 >>= _) _ _ _
  refine wpAny_bind (wpAny_field ob rfl (x := .ref n) rfl (wpAny_bind (sub_item src hs hx fun g1 src1 q1 => ?_)))
  replace q1 : Heap.SameBut n hp g1 := q1
  have ob1 : IsEnum g1 (n + 1) n i last := (q1.2 _ n1).trans ob
  show wpAny _ _ (field (.ref (n + 1)) 3 >>= _) _ _ ⟨g1, gg, dd, tt, oo⟩
  refine wpAny_bind (wpAny_field ob1 rfl (x := rawInt i) rfl ?_)
  show wpAny _ _ (field (.ref (n + 1)) 4 >>= _) _ _ ⟨g1, gg, dd, tt, oo⟩
  refine wpAny_bind (wpAny_field ob1 rfl (x := .none) rfl ?_)
  show wpAny _ _ (mkInt i >>= _) _ _ ⟨g1, gg, dd, tt, oo⟩
  refine wpAny_bind (wpAny_mkInt ?_)
  show wpAny _ _ (setField (.ref (n + 1)) 3 (rawInt ((i : Int) + 1)) >>= _) _ _ ⟨g1, gg, dd, tt + 1, oo⟩
  refine wpAny_bind (wpAny_setField_rec ob1 (by simp) fun g2 ob2 q2 => ?_)
  replace q2 : Heap.SameBut (n + 1) g1 g2 := q2
  replace ob2 : IsEnum g2 (n + 1) n ((i : Int) + 1) last := ob2
  show wpAny _ _ (setField (.ref (n + 1)) 4 .none >>= _) _ _ ⟨g2, gg, dd, tt + 1, oo⟩
  refine wpAny_bind (wpAny_setField_rec ob2 (by simp) fun g3 ob3 q3 => ?_)
  replace q3 : Heap.SameBut (n + 1) g2 g3 := q3
  replace ob3 : IsEnum g3 (n + 1) n ((i : Int) + 1) last := ob3
  show wpAny _ _ (newTuple [.int i tt, x] >>= _) _ _ ⟨g3, gg, dd, tt + 1, oo⟩
  refine wpAny_bind (wpAny_newTuple ?_)
  have z3 : g3.objs.size = hp.objs.size := by rw [q3.1, q2.1, q1.1]
  have elt : n + 1 < hp.objs.size := Heap.lt_size ob
  obtain ⟨g4, e4⟩ : ∃ g4, g4 = g3.push { cls := .type "tuple", data := .seq #[.int i tt, x] } := ⟨_, rfl⟩
  have ob4 : IsEnum g4 (n + 1) n ((i : Int) + 1) last := by rw [e4]; exact Heap.get?_push_of_some _ ob3
  have t4 : IsT g4 hp.objs.size #[.int i tt, x] := by rw [e4, ← z3]; exact Heap.get?_push_size _ rfl
  have z4 : g4.objs.size = hp.objs.size + 1 := by rw [e4, Heap.size_push, z3]
  have o4 : Off [n, n + 1] hp g4 := by
    rw [e4]
    exact (((Off.of q1 (by simp)).trans (Off.of q2 (by simp))).trans (Off.of q3 (by simp))).trans (Off.push _)
  have src4 : ItAt k g4 n a (i + 1) := src1.keep fun o e => by
    rw [e4]
    exact Heap.get?_push_of_some _ ((q3.2 _ n1.symm).trans ((q2.2 _ n1.symm).trans e))
  show wpAny _ _ (Builtin.SmallTypes.ownedTupleIsFree (.ref (n + 1)) >>= _) _ _ ⟨_, gg, dd, tt + 1, oo⟩
  rw [z3, ← e4]
  clear e4 ob3 q3 ob2 q2 ob1 q1 src1 z3
  refine wpAny_bind ?_
  unfold Builtin.SmallTypes.ownedTupleIsFree
  refine wpAny_bind (wpAny_field ob4 rfl (x := .none) rfl (wpAny_pure ?_))
  rw [if_pos rfl]
  refine wpAny_bind (wpAny_rule (wpAny_bind (wpAny_field ob4 rfl (x := last) rfl (wpAny_bind (wpAny_setField_rec ob4 (by simp) fun g5 ob5 q5 => ?_)))))
  replace q5 : Heap.SameBut (n + 1) g4 g5 := q5
  replace ob5 : IsEnum g5 (n + 1) n ((i : Int) + 1) x := ob5
  show wpAny _ _ (Builtin.SmallTypes.ownedTupleHandOut (.ref (n + 1)) (.ref hp.objs.size) >>= _) _ _ ⟨g5, gg, dd, tt + 1, oo⟩
  refine wpAny_bind ?_
  unfold Builtin.SmallTypes.ownedTupleHandOut
  refine wpAny_bind (wpAny_setField_rec ob5 (by simp) fun g6 ob6 q6 => ?_)
  replace q6 : Heap.SameBut (n + 1) g5 g6 := q6
  replace ob6 : IsEnumOut g6 (n + 1) n ((i : Int) + 1) x hp.objs.size := ob6
  refine wpAny_setField_rec ob6 (by simp) fun g7 ob7 q7 => ?_
  replace q7 : Heap.SameBut (n + 1) g6 g7 := q7
  replace ob7 : IsEnumOut g7 (n + 1) n ((i : Int) + 1) x hp.objs.size := ob7
  have up : ∀ c o, c ≠ n + 1 → g4.get? c = some o → g7.get? c = some o := fun c o hc e => (q7.2 _ hc).trans ((q6.2 _ hc).trans ((q5.2 _ hc).trans e))
  refine wpAny_bind (wpAny_letGo (wpAny_pure ⟨_, rfl, hQ g7 tt ob7 (src4.keep fun o e => up _ o n1.symm e) (up _ _ (Nat.ne_of_gt elt) t4) (by rw [q7.1, q6.1, q5.1, z4]) fun c o hc e => ?_⟩))
  exact up c o (fun z => hc (by simp [z])) (o4 c o hc e)
theorem pyNext_en {k : Bool} {n a : Nat} {i : Nat} {xs : Array Value} {x : Value} {Q : Option Value → Shared → Prop} (Z : En k n a i s.heap) (ha : a < n) (hs : SrcOf k s.heap a xs) (hx : xs[i]? = some x)
    (hQ : ∀ h' t, IsEnumOut h' (n + 1) n ((i : Int) + 1) x s.heap.objs.size → ItAt k h' n a (i + 1) → IsT h' s.heap.objs.size #[.int i t, x] → h'.objs.size = s.heap.objs.size + 1 → Off [n, n + 1] s.heap h' → Q (some (.ref s.heap.objs.size)) { s with heap := h', toks := s.toks + 1 }) :
    wpAny (model prog w) A (pyNext (.ref (n + 1))) Q E s := by
  have ty : s.TypeIs (.ref (n + 1)) "enumerate" := by obtain ⟨last, ob⟩ := Z.ob; exact ⟨_, ob, rfl⟩
  unfold pyNext
  exact wpAny_bind (wpAny_attempt (wpAny_callSpecial?_slot (name := Str.ofString "__next__") ty F.slot_enumerate_next (wpAny_call_entry F.slot_enumerate_next ty F.entry_enumerate_next
    (en_next Z ha hs hx fun h' t b1 b2 b3 b4 b5 => wpAny_pure (hQ h' t b1 b2 b3 b4 b5)) (F.args_enumerate_next_1 _))))
theorem pyNext_en_end {k : Bool} {n a : Nat} {i : Nat} {xs : Array Value} {Q : Option Value → Shared → Prop} (hh : A.handled = none) (Z : En k n a i s.heap) (hs : SrcOf k s.heap a xs) (hx : xs[i]? = none)
    (hQ : ∀ h', Off [n, n + 1] s.heap h' → Q none { s with heap := h' }) : wpAny (model prog w) A (pyNext (.ref (n + 1))) Q E s := by
  obtain ⟨⟨last, ob⟩, src⟩ := Z
  have ty : s.TypeIs (.ref (n + 1)) "enumerate" := ⟨_, ob, rfl⟩
  unfold pyNext
  refine wpAny_bind (wpAny_attempt (wpAny_callSpecial?_slot (name := Str.ofString "__next__") ty F.slot_enumerate_next (wpAny_call_entry F.slot_enumerate_next ty F.entry_enumerate_next ?_ (F.args_enumerate_next_1 _))))
  show wpAny _ _ (field (.ref (n + 1)) 2 >>= _) _ _ _
  refine wpAny_bind (wpAny_field ob rfl (x := .ref n) rfl (wpAny_bind (sub_end hh src hs hx fun h' e off ⟨o, ho, hc⟩ => ?_)))
  exact wpAny_bind (wpAny_isInstance (T := "StopIteration") (b := true) ⟨o, ho, hc⟩ isSubtype_stop (wpAny_pure (hQ _ fun c u hc e => off c u (fun z => hc (by simp [z])) e)))
abbrev eh2 (k : Bool) (h : Heap) (a : Addr) : Heap := (h.push (itObj k a)).push { cls := .type "enumerate", data := .fields #[.none, .bool false, .ref h.objs.size, rawInt 0, .none, .none] }
end
end L2
namespace L2
open PySem
open AutoSeq1 (wpAny_loadPart')
theorem en_made (k : Bool) (a : Addr) (xs : Array Value) :
    Meets (Builtin.«enumerate.__new__» ⟨[.type "enumerate", .ref a], []⟩) (fun _ R s => SrcOf k s.heap a xs ∧ R (.ok (.ret (.ref (s.heap.objs.size + 1)))) { s with heap := eh2 k s.heap a }) :=
  .of_wp fun prog w A R s h => by
    obtain ⟨hp, gg, dd, tt, oo⟩ := s
    obtain ⟨src, r⟩ := h
    have sub := sub_enumerate
    have S : SrcOf k (Shared.heap ⟨hp, gg, dd, tt, oo⟩) a xs := src
    obtain ⟨ob, e⟩ : ∃ ob, hp.get? a = some ob := by
      cases k
      · obtain ⟨ob, e, _⟩ := src; exact ⟨ob, e⟩
      · obtain ⟨ob, e, _⟩ := src; exact ⟨ob, e⟩
    obtain ⟨oc, od, ot, os⟩ := ob
    have last : (hp.push (itObj k a)).objs.size = hp.objs.size + 1 := Heap.size_push ..
    have r' : R (.ok (.ret (.ref (hp.push (itObj k a)).objs.size))) ⟨eh2 k hp a, gg, dd, tt, oo⟩ := by rw [last]; exact r
    wp_walk using wpAny_loadPart' e
    refine wpAny_stack_any fun st => wpAny_pure ?_
    split
    · rename_i c _ _ _ _ _
      cases (c == Value.type "enumerate") <;> (wp_walk using wpAny_loadPart' e, src_iter S; exact ⟨_, rfl, r'⟩)
    · wp_walk using wpAny_loadPart' e, src_iter S
      exact ⟨_, rfl, r'⟩
end L2
namespace L2
open PySem PySem.Spec PyProof.Rows
/-- pairs of a place and an item -/
def Itn (K : PySem.W.Frag) (k : Bool) (a : Addr) : It :=
  ⟨fun i H => ∃ xs x, Sq k K H a xs ∧ xs[i]? = some x,
   fun i H v H' => ∃ p x, v = .ref p ∧ H p = none ∧ (∀ xs, Sq k K H a xs → xs[i]? = some x) ∧ H' = upd H p (.tup [.int i, x]),
   fun i H => ∃ xs, Sq k K H a xs ∧ xs.length ≤ i⟩
theorem turn_en {P : Program} {w : World} {K : PySem.W.Frag} {es : List Expr} {kk : Nat} {pos : Pos} {k : Bool} (n a : Nat) (ha : a < n) :
    Turn P w K (.Tuple es kk pos) (Itn K k a) [n + 1, n] (n + 1) (fun i h => En k n a i h) where
  mem := by simp
  obj := fun i h st c hc => by
    obtain ⟨⟨last, ob⟩, src⟩ := st
    simp only [List.mem_cons, List.not_mem_nil, or_false] at hc
    rcases hc with rfl | rfl
    · exact ⟨_, ob, fun v z => nomatch z⟩
    · exact src.obj
  keep := fun i h h' st k => by
    obtain ⟨⟨last, ob⟩, src⟩ := st
    exact ⟨⟨last, k _ (by simp) _ ob⟩, src.keep fun o e => k _ (by simp) o e⟩
  item := by
    intro X hP hw hK hc i pins s σ H E I hf st hg
    subst hP hw hK
    obtain ⟨xs, x, qx, ex⟩ := hg
    obtain ⟨is1, r1, s1, _⟩ := I.sq qx
    obtain ⟨u, hu, ru⟩ := r1.get ex
    refine pyNext_en st ha s1 (x := u) (by simpa using hu) fun h' t ob src hT hsz off => ⟨_, rfl, ?_⟩
    have hTn : H s.heap.objs.size = none := I.hok.fresh (Nat.le_refl _)
    have zlt : n + 1 < s.heap.objs.size := by obtain ⟨last, b⟩ := st.ob; exact Heap.lt_size b
    refine wpAny_letOwnedTupleGo_enum ob fun h2 ob2 hs2 => ?_
    have off2 : Off [n + 1, n] s.heap h2 := fun c o hc e => (hs2.2 c fun z => hc (by simp [z])).trans (off c o (fun z => hc (by simp only [List.mem_cons, List.not_mem_nil, or_false] at z ⊢; exact z.symm)) e)
    have hT2 : IsT h2 s.heap.objs.size #[.int i t, u] := (hs2.2 _ (Nat.ne_of_gt zlt)).trans hT
    refine ⟨.ref s.heap.objs.size, upd H s.heap.objs.size (.tup [.int i, x]), ?_, rfl, ⟨_, x, rfl, hTn, fun zs hzs => by rw [I.sq_inj hzs qx]; exact ex, rfl⟩, ?_, fun c hc => ?_⟩
    · refine Inv.off (s := s) (h' := h2) (t' := s.toks + 1) (ch := [n + 1, n]) I hf off2 (I.hok.offNew (fun c hc => (hf c hc).1) off2 (Nat.le_refl _) ?_) (fun c o _ e hn => ?_) fun c o e => ?_
      · exact ⟨by show 2 ≤ sizeLine; decide, [.int i t, u], .cons ⟨t, rfl⟩ (.cons ru .nil), ⟨_, hT2, rfl, _, rfl⟩⟩
      · rw [upd_ne (Nat.ne_of_lt (Heap.lt_size e))]; exact hn
      · rw [upd_ne (ne_of_none e hTn)]; exact e
    · exact ⟨⟨_, ob2⟩, src.keep fun o e => (hs2.2 _ (nne (by omega))).trans e⟩
    · have cn : c ≠ s.heap.objs.size := by
        simp only [List.mem_cons, List.not_mem_nil, or_false] at hc
        rcases hc with rfl | rfl <;> exact nne (by omega)
      rw [upd_ne cn]; exact (hf c hc).1
  done := by
    intro X hP hw hK hc i pins s σ H E I hf st hg
    subst hP hw hK
    obtain ⟨xs, qx, hend⟩ := hg
    obtain ⟨is1, r1, s1, _⟩ := I.sq qx
    have e1 := r1.length
    refine pyNext_en_end (I.ok.hd hc) st s1 (by simp; omega) fun h' off => ⟨rfl, ?_⟩
    have off2 : Off [n + 1, n] s.heap h' := fun c o hc e => off c o (fun z => hc (by simp only [List.mem_cons, List.not_mem_nil, or_false] at z ⊢; exact z.symm)) e
    exact Inv.off (s := s) (t' := s.toks) I hf off2 (I.hok.off (fun c hc => (hf c hc).1) off2) (fun _ _ _ _ q => q) fun _ _ q => q
  self := fun _ _ _ _ _ st h => by
    obtain ⟨last, ob⟩ := st.ob
    exact wpAny_pyIter_enum ob h
section
variable {X : Cx}
def iEnum (K : PySem.W.Frag) (k : Bool) (ta : TA) : TI := fun σ H R => ta σ H fun vs H1 => ∃ a, vs = [.ref a] ∧ (∃ xs, Sq k K H1 a xs) ∧ R (Itn K k a) H1
theorem pi_enum (k : Bool) {es : List Expr} {kk : Nat} {tpos : Pos} {a : Expr} {ta : TA} {p pos : Pos} (hg : Gl X "enumerate") (hm : X.mg "enumerate" = none) (ha : PA X [a] ta) (hs : starEach [a] X.env = [(false, eval a X.env)] := by rfl) :
    PI X (.Tuple es kk tpos) (.Call (.Name "enumerate" p) [a] [] pos) (iEnum X.K k ta) := by
  intro pins s σ H R I h
  refine Call_ (ld_blt I hg hm boot_enumerate (PyProof.Rows.callWith_type1 (thn (ha pos pins s σ H _ I h) fun us s1 ⟨vs, H1, I1, r1, q1⟩ => ?_) (by rw [hs]; rfl) (by rfl)))
  obtain ⟨a', e, ⟨xs, qx⟩, q⟩ := q1
  subst e
  obtain ⟨u, rfl, ru⟩ := vals1 r1
  cases ru
  obtain ⟨is1, r1, s1', _⟩ := I1.sq qx
  refine callType_new PySem.F.called_enumerate (by decide) (PySem.F.typeCall_enumerate_1 _) (PySem.F.newCall_enumerate_1 _) (fun obj => PySem.F.args_object_init_2 obj _) PySem.F.entry_enumerate_new (en_made k a' is1.toArray) ⟨s1', ?_⟩
  have z1 : (s1.heap.push (itObj k a')).objs.size = s1.heap.objs.size + 1 := Heap.size_push ..
  have g2 : (eh2 k s1.heap a').get? (s1.heap.objs.size + 1) = some { cls := .type "enumerate", data := .fields #[.none, .bool false, .ref s1.heap.objs.size, rawInt 0, .none, .none] } := by rw [← z1]; exact Heap.get?_push_size _ rfl
  have g1 : (eh2 k s1.heap a').get? s1.heap.objs.size = some (itObj k a') := Heap.get?_push_of_some _ (Heap.get?_push_size _ (by cases k <;> rfl))
  have old : ∀ c o, s1.heap.get? c = some o → (eh2 k s1.heap a').get? c = some o := fun c o x => Heap.get?_push_of_some _ (Heap.get?_push_of_some _ x)
  have Z : En k s1.heap.objs.size a' 0 (eh2 k s1.heap a') := ⟨⟨_, g2⟩, itObj_at g1⟩
  show _ ∧ _
  refine ⟨⟨_, g2, rfl⟩, wpAny_pyIter_enum g2 ?_⟩
  refine ⟨_, _, _, _, H1, rfl, I1.kept (t' := s1.toks) old, turn_en s1.heap.objs.size a' s1'.lt, Z, fun c hc => ?_, q⟩
  have hcl : s1.heap.objs.size ≤ c := by
    simp only [List.mem_cons, List.not_mem_nil, or_false] at hc
    rcases hc with rfl | rfl <;> first | exact Nat.le_add_right _ _ | exact Nat.le_refl _
  exact I1.fpOk hcl (I1.hok.fresh hcl)
theorem kpi_enum (K : PySem.W.Frag) (hK : X.K = K) (k : Bool) {es : List Expr} {kk : Nat} {tpos : Pos} {a : Expr} {ta : TA} {p pos : Pos} (hg : Gl X "enumerate") (hm : X.mg "enumerate" = none) (ha : PA X [a] ta) (hs : starEach [a] X.env = [(false, eval a X.env)] := by rfl) :
    PI X (.Tuple es kk tpos) (.Call (.Name "enumerate" p) [a] [] pos) (iEnum K k ta) := hK ▸ pi_enum k hg hm ha hs
end
section
variable {K : PySem.W.Frag} {H : Hp} {σ : St} {D : Ends}
def rItN (K : PySem.W.Frag) (k : Bool) : List V → Hp → (It → Hp → Prop) → Prop := fun vs H R => ∃ a, vs = [.ref a] ∧ (∃ xs, Sq k K H a xs) ∧ R (Itn K k a) H
theorem r_ienum {k : Bool} {ts : TA} {R : It → Hp → Prop} (h : ts σ H fun vs H1 => rItN K k vs H1 R) : iEnum K k ts σ H R := h
theorem r_isn {k : Bool} {a : Addr} {xs : List V} {R : It → Hp → Prop} (e : Sq k K H a xs) (h : R (Itn K k a) H) : rItN K k [.ref a] H R := ⟨a, rfl, ⟨_, e⟩, h⟩
/-- [.. for i, x in enumerate(..)], no test, plain values -/
theorem rd_compN {k : Bool} {a : Addr} {xs : List V} {H1 : Hp} {ix : List (Option Nat)} {te : TE} {Q : VK} (fr : St) (f : Nat → V) (hpk : pick ix σ = none :: none :: fr) (ha : Sq k K H1 a xs) (hn : xs.length ≤ 1000000)
    (step : ∀ (i : Nat) x H' (Qc : VK), xs[i]? = some x → Same H1 H' → (∀ H5, Same H' H5 → Qc (f i) H5) → te (some (.int i) :: some x :: fr) H' Qc)
    (hQ : ∀ l H', H1 l = none → Same H1 H' → H' l = some (.lst ((List.range xs.length).map f)) → Q (.ref l) H') : CompGoal ix (gTup K 2 (gCons (gName 0) (gCons (gName 1) gNil))) (fun _ H Q => Q true H) te σ Q (Itn K k a) H1 := by
  refine comp_by 2 fr xs.length f hpk (fun H' s => ⟨_, s.sq ha, Nat.le_refl _⟩) (fun i H' hi s => ⟨_, xs[i], s.sq ha, List.getElem?_eq_getElem hi⟩) (fun i x l H' H2 own ho hi hl hs hl' hy => ?_) hQ
  obtain ⟨o1, o2, rfl⟩ : ∃ o1 o2, own = [o1, o2] := by match own, ho with | [o1, o2], _ => exact ⟨o1, o2, rfl⟩
  obtain ⟨p, x', rfl, hp, e1, rfl⟩ := hy
  have g1 := e1 _ (hs.sq ha)
  refine ⟨p, _, rfl, SqT.of upd_same, rfl, _, _, rfl, _, _, rfl, rfl, ?_⟩
  show ite (true = true) _ _
  rw [if_pos rfl]
  exact step i x' _ _ g1 (hs.trans (Same.upd_new hp)) fun H5 s5 => CW.next (fr := fr) [some (.int i), some x'] rfl hi hn hl hs hl' ((Same.upd_new hp).trans s5) rfl
end
end L2

/-! ### lists of rows; comprehensions that tell rows -/
namespace L2
open PySem PySem.Spec PyProof.Rows
/-- a list of rows: each item a tuple of ints -/
inductive RowsL (K : PySem.W.Frag) (H : Hp) : List V → List (List Int) → Prop where
  | nil : RowsL K H [] []
  | cons {a : Addr} {r : List Int} {xs : List V} {rs : List (List Int)} (h : SqT K H a (r.map V.int)) (t : RowsL K H xs rs) : RowsL K H (.ref a :: xs) (r :: rs)
namespace RowsL
variable {K : PySem.W.Frag} {H H' : Hp}
theorem length : ∀ {xs : List V} {rs : List (List Int)}, RowsL K H xs rs → rs.length = xs.length
  | _, _, .nil => rfl
  | _, _, .cons _ t => by rw [List.length_cons, List.length_cons, t.length]
theorem get : ∀ {xs : List V} {rs : List (List Int)} {i : Nat} {x : V}, RowsL K H xs rs → xs[i]? = some x → ∃ a r, x = .ref a ∧ SqT K H a (r.map V.int) ∧ rs[i]? = some r
  | _, _, _, _, .nil, h => by simp at h
  | _, _, 0, _, .cons (a := a) (r := r) h _, e => by
    simp at e
    exact ⟨a, r, e.symm, h, rfl⟩
  | _, _, i + 1, _, .cons _ t, e => by
    obtain ⟨a, r, h1, h2, h3⟩ := get (i := i) t (by simpa using e)
    exact ⟨a, r, h1, h2, by simpa using h3⟩
theorem row : ∀ {xs : List V} {rs : List (List Int)} {i : Nat} {r : List Int}, RowsL K H xs rs → rs[i]? = some r → ∃ a, xs[i]? = some (.ref a) ∧ SqT K H a (r.map V.int)
  | _, _, _, _, .nil, h => by simp at h
  | _, _, 0, _, .cons (a := a) (r := r) h _, e => by
    simp at e
    subst e
    exact ⟨a, rfl, h⟩
  | _, _, i + 1, _, .cons _ t, e => by
    obtain ⟨a, h1, h2⟩ := row (i := i) t (by simpa using e)
    exact ⟨a, by simpa using h1, h2⟩
theorem same : ∀ {xs : List V} {rs : List (List Int)}, RowsL K H xs rs → Same H H' → RowsL K H' xs rs
  | _, _, .nil, _ => .nil
  | _, _, .cons h t, s => .cons (s.at h) (t.same s)
theorem append : ∀ {xs ys : List V} {rs qs : List (List Int)}, RowsL K H xs rs → RowsL K H ys qs → RowsL K H (xs ++ ys) (rs ++ qs)
  | _, _, _, _, .nil, u => u
  | _, _, _, _, .cons h t, u => .cons h (t.append u)
theorem snoc {xs : List V} {rs : List (List Int)} {a : Addr} {r : List Int} (t : RowsL K H xs rs) (h : SqT K H a (r.map V.int)) : RowsL K H (xs ++ [.ref a]) (rs ++ [r]) := t.append (.cons h .nil)
/-- a list's own change changes no row -/
theorem off {l : Addr} {ys zs : List V} : ∀ {xs : List V} {rs : List (List Int)}, RowsL K H xs rs → H l = some (.lst ys) → RowsL K (upd H l (.lst zs)) xs rs
  | _, _, .nil, _ => .nil
  | _, _, .cons h t, e => .cons ((rm_sqT h e).imp (fun q => q.imp (fun q => by rw [upd_ne (fun z => by rw [z, rm_at] at q; cases q)]; exact rm_same _ _ q) fun ⟨o, q⟩ => ⟨o, by rw [upd_ne (fun z => by rw [z, rm_at] at q; cases q)]; exact rm_same _ _ q⟩) id) (t.off e)
theorem take : ∀ {xs : List V} {rs : List (List Int)} (n : Nat), RowsL K H xs rs → RowsL K H (xs.take n) (rs.take n)
  | _, _, 0, _ => .nil
  | _, _, _ + 1, .nil => .nil
  | _, _, n + 1, .cons h t => .cons h (t.take n)
theorem drop : ∀ {xs : List V} {rs : List (List Int)} (n : Nat), RowsL K H xs rs → RowsL K H (xs.drop n) (rs.drop n)
  | _, _, 0, t => t
  | _, _, _ + 1, .nil => .nil
  | _, _, n + 1, .cons _ t => t.drop n
theorem tells : ∀ {xs : List V} {rs : List (List Int)}, RowsL K H xs rs → Tells K H xs (rs.map fun r => .tuple (r.map PyData.int))
  | _, _, .nil => .nil
  | _, _, .cons h t => .cons (Tell.row h) t.tells
end RowsL
theorem upd_sqT {K : PySem.W.Frag} {H : Hp} {l a : Addr} {xs ys zs : List V} (h : SqT K H a xs) (e : H l = some (.lst ys)) : SqT K (upd H l (.lst zs)) a xs :=
  (rm_sqT h e).imp (fun q => q.imp (fun q => by rw [upd_ne (fun z => by rw [z, rm_at] at q; cases q)]; exact rm_same _ _ q) fun ⟨o, q⟩ => ⟨o, by rw [upd_ne (fun z => by rw [z, rm_at] at q; cases q)]; exact rm_same _ _ q⟩) id
section
variable {K : PySem.W.Frag} {H : Hp} {σ : St} {Q : VK} {ix : List (Option Nat)}
/-- a comprehension that tells rows; behind i turns they are rs i -/
theorem comp_rows {J : It} {g : TG} {tt : TT} {te : TE} (t : Nat) (fr : St) (n : Nat) (rs : Nat → List (List Int)) (hpk : pick ix σ = List.replicate t none ++ fr) (h0 : rs 0 = []) (hn : ∀ i, (rs i).length ≤ 1000)
    (hstop : ∀ H', Same H H' → J.stop n H') (hgo : ∀ i H', i < n → Same H H' → J.go i H')
    (step : ∀ i x H' H2 own, own.length = t → i < n → Same H H' → J.yld i H' x H2 → ∀ (Qy : St → VK) (Qn : St → Hp → Prop),
      (∀ own2 a r H5, own2.length = t → Same H' H5 → SqT K H5 a (r.map V.int) → rs (i + 1) = rs i ++ [r] → Qy (own2 ++ fr) (.ref a) H5) → (∀ own2 H4, own2.length = t → Same H' H4 → rs (i + 1) = rs i → Qn (own2 ++ fr) H4) →
      g x (own ++ fr) H2 fun σ2 H3 => tt σ2 H3 fun b H4 => if b = true then te σ2 H4 (Qy σ2) else Qn σ2 H4)
    (hQ : ∀ l H' ys, H l = none → Same H H' → H' l = some (.lst ys) → RowsL K H' ys (rs n) → Q (.ref l) H') : CompGoal ix g tt te σ Q J H := by
  intro l hl
  refine ⟨fun i m σ1 ys H' => m = n - i ∧ i ≤ n ∧ (∃ own : St, own.length = t ∧ σ1 = own ++ fr) ∧ Same H H' ∧ H' l = some (.lst ys) ∧ RowsL K H' ys (rs i), ⟨n, by simp, Nat.zero_le _, ⟨_, List.length_replicate, hpk⟩, Same.upd_new hl, upd_same, by rw [h0]; exact .nil⟩, ?_⟩
  rintro i m σ1 ys H' ⟨rfl, hi, ⟨own, ho, rfl⟩, hs, hl', hr⟩
  refine ⟨hl', ?_⟩
  by_cases hlt : i < n
  · refine .inr ⟨hgo i H' hlt hs, n - (i + 1), by omega, fun x H2 hy => step i x H' H2 own ho hlt hs hy _ _ (fun own2 a r H5 ho2 s5 ha er => ?_) fun own2 H4 ho2 s4 er => ?_⟩
    · have l5 := s5 _ _ hl'
      refine ⟨l5, Nat.lt_of_le_of_lt (by rw [← hr.length]; exact hn i) (small1000 (Nat.le_refl 1000)), rfl, hlt, ⟨own2, ho2, rfl⟩, fun b o e => ?_, upd_same, ?_⟩
      · rw [upd_ne (ne_of_none e hl)]
        exact s5 _ _ (hs _ _ e)
      · rw [er]
        exact ((hr.same s5).off l5).snoc (upd_sqT ha l5)
    · exact ⟨rfl, hlt, ⟨own2, ho2, rfl⟩, hs.trans s4, s4 _ _ hl', by rw [er]; exact hr.same s4⟩
  · obtain rfl : i = n := by omega
    exact .inl ⟨hstop H' hs, hQ l H' ys hl hs hl' hr⟩
end
end L2
namespace L2
open PySem PySem.Spec PyProof.Rows
section
variable {K : PySem.W.Frag} {H : Hp} {σ : St} {Q : VK} {ix : List (Option Nat)}
/-- a comprehension that tells rows of one kind -/
theorem comp_rowsP {J : It} {g : TG} {tt : TT} {te : TE} (t : Nat) (fr : St) (n : Nat) (P : List Int → Prop) (hpk : pick ix σ = List.replicate t none ++ fr) (hn : n ≤ 1000)
    (hstop : ∀ H', Same H H' → J.stop n H') (hgo : ∀ i H', i < n → Same H H' → J.go i H')
    (step : ∀ i x H' H2 own, own.length = t → i < n → Same H H' → J.yld i H' x H2 → ∀ (Qy : St → VK) (Qn : St → Hp → Prop),
      (∀ own2 a r H5, own2.length = t → Same H' H5 → SqT K H5 a (r.map V.int) → P r → Qy (own2 ++ fr) (.ref a) H5) → (∀ own2 H4, own2.length = t → Same H' H4 → Qn (own2 ++ fr) H4) →
      g x (own ++ fr) H2 fun σ2 H3 => tt σ2 H3 fun b H4 => if b = true then te σ2 H4 (Qy σ2) else Qn σ2 H4)
    (hQ : ∀ l H' ys rs, H l = none → Same H H' → H' l = some (.lst ys) → RowsL K H' ys rs → (∀ r ∈ rs, P r) → rs.length ≤ n → Q (.ref l) H') : CompGoal ix g tt te σ Q J H := by
  intro l hl
  refine ⟨fun i m σ1 ys H' => m = n - i ∧ i ≤ n ∧ (∃ own : St, own.length = t ∧ σ1 = own ++ fr) ∧ Same H H' ∧ H' l = some (.lst ys) ∧ ∃ rs, RowsL K H' ys rs ∧ (∀ r ∈ rs, P r) ∧ rs.length ≤ i, ⟨n, by simp, Nat.zero_le _, ⟨_, List.length_replicate, hpk⟩, Same.upd_new hl, upd_same, [], .nil, (fun _ z => nomatch z), Nat.le_refl _⟩, ?_⟩
  rintro i m σ1 ys H' ⟨rfl, hi, ⟨own, ho, rfl⟩, hs, hl', rs, hr, hp, hz⟩
  refine ⟨hl', ?_⟩
  by_cases hlt : i < n
  · refine .inr ⟨hgo i H' hlt hs, n - (i + 1), by omega, fun x H2 hy => step i x H' H2 own ho hlt hs hy _ _ (fun own2 a r H5 ho2 s5 ha er => ?_) fun own2 H4 ho2 s4 => ?_⟩
    · have l5 := s5 _ _ hl'
      refine ⟨l5, small1000 (by rw [← hr.length]; omega), rfl, hlt, ⟨own2, ho2, rfl⟩, fun b o e => ?_, upd_same, rs ++ [r], ((hr.same s5).off l5).snoc (upd_sqT ha l5), fun q hq => ?_, by simp; omega⟩
      · rw [upd_ne (ne_of_none e hl)]
        exact s5 _ _ (hs _ _ e)
      · rcases List.mem_append.mp hq with z | z
        · exact hp q z
        · rw [List.mem_singleton.mp z]; exact er
    · exact ⟨rfl, hlt, ⟨own2, ho2, rfl⟩, hs.trans s4, s4 _ _ hl', rs, hr.same s4, hp, by omega⟩
  · obtain rfl : i = n := by omega
    exact .inl ⟨hstop H' hs, hQ l H' ys rs hl hs hl' hr hp hz⟩
end
end L2

/-! ### x in a list of data; list.insert; range(a, b); parts of lists -/
set_option maxRecDepth 100000
namespace L2
open PySem PySem.Spec PyProof.Rows
def rInD (K : PySem.W.Frag) (neg : Bool) : R2 := fun x y H Q => ∃ (p : Addr) (ys : List V) (d : PyData) (ds : List PyData), y = .ref p ∧ SqL K H p ys ∧ Tells K H ys ds ∧ Tell K H x d ∧ PyData.canLayAll0 ds = true ∧ d.canLay0 = true ∧ d.depth ≤ 60 ∧ Q (.bl (if neg then !ds.any fun z => PyData.eqv z d else ds.any fun z => PyData.eqv z d)) H
def rInsert : V → List V → Hp → VK → Prop := fun x vs H Q => ∃ (l : Addr) (xs : List V) (i : Nat) (y : V), x = .ref l ∧ vs = [.int i, y] ∧ H l = some (.lst xs) ∧ xs.length ≤ 1000 ∧ i ≤ 1000 ∧ Q .non (upd H l (.lst (xs.take i ++ y :: xs.drop i)))
section
variable {X : Cx}
theorem op_inD (hu : X.A.units + 64 < cLine) : OpR X (compareOp .In) (rInD X.K false) := by
  intro pins s σ H x y v u Q I rx ry h
  obtain ⟨p, ys, d, ds, rfl, hs, ht, hd, c1, c2, hz, q⟩ := h
  obtain ⟨as, ra⟩ := (Tell.lst hs ht).reads I ry
  obtain ⟨bs, rb⟩ := hd.reads I rx
  exact SeqAt.in_list_reads ra rb c1 c2 (by have := Nat.min_le_right (PyData.depthAll ds) d.depth; omega) ⟨.bl _, H, I, rfl, q⟩
theorem op_notInD (hu : X.A.units + 64 < cLine) : OpR X (compareOp .NotIn) (rInD X.K true) := by
  intro pins s σ H x y v u Q I rx ry h
  obtain ⟨p, ys, d, ds, rfl, hs, ht, hd, c1, c2, hz, q⟩ := h
  obtain ⟨as, ra⟩ := (Tell.lst hs ht).reads I ry
  obtain ⟨bs, rb⟩ := hd.reads I rx
  exact SeqAt.notIn_list_reads ra rb c1 c2 (by have := Nat.min_le_right (PyData.depthAll ds) d.depth; omega) ⟨.bl _, H, I, rfl, q⟩
theorem kop_inD (K : PySem.W.Frag) (hK : X.K = K) (hu : X.A.units + 64 < cLine) : OpR X (compareOp .In) (rInD K false) := hK ▸ op_inD hu
theorem kop_notInD (K : PySem.W.Frag) (hK : X.K = K) (hu : X.A.units + 64 < cLine) : OpR X (compareOp .NotIn) (rInD K true) := hK ▸ op_notInD hu
theorem ins_arr (its : List Value) (i : Nat) (u : Value) : (fun xs : Array Value => have k := if (i : Int) < 0 then ((i : Int) + (xs.size : Int)).toNat else min (i : Int).toNat xs.size; (xs.extract 0 k).push u ++ xs.extract k) its.toArray = (its.take i ++ u :: its.drop i).toArray := by
  have h0 : ¬ (i : Int) < 0 := by omega
  simp only [h0, if_false, Int.toNat_natCast, List.size_toArray]
  apply Array.ext'
  simp only [Array.toList_append, Array.toList_push, Array.toList_extract, List.extract_eq_take_drop, Nat.sub_zero, List.drop_zero, List.size_toArray]
  by_cases h : i ≤ its.length
  · rw [Nat.min_eq_left h]
    rw [List.take_of_length_le (l := its.drop i) (by rw [List.length_drop]; omega)]
    simp
  · have h' : its.length ≤ i := by omega
    rw [Nat.min_eq_right h', List.take_of_length_le (l := its) (Nat.le_refl _), List.take_of_length_le (l := its) h', List.drop_of_length_le (Nat.le_refl _), List.drop_of_length_le h']
    simp
theorem mt_insert : MtM X "list.insert" rInsert := by
  intro pins s σ H x vs v us Q I rx rv h
  obtain ⟨l, xs, i, y, rfl, rfl, hH, hz, hi, q⟩ := h
  cases rx
  obtain ⟨ui, u, rfl, ri, ru⟩ := vals2 rv
  obtain ⟨t, rfl⟩ := ri
  obtain ⟨z, its, n, r, hl, e⟩ := I.lstM hH
  have hlen := r.length
  have e64 : Builtin.List.listFitsIndex (i : Int) = true := by
    unfold Builtin.List.listFitsIndex
    simp only [Bool.and_eq_true, decide_eq_true_eq]
    omega
  refine call_meets F.slot_list_insert ⟨_, e, rfl⟩ F.entry_list_insert (F.args_list_insert_3 _ _ _) (@AutoSeq1.list_insert_list_int_val_1 l its.toArray n (i : Int) t u (by rw [e64]; decide) (by rw [List.size_toArray, ← hlen]; exact Nat.le_of_lt (small1000 hz))) ⟨e, ?_⟩
  refine ⟨.non, _, I.lset (its' := its.take i ++ u :: its.drop i) hH e (ins_arr its i u) ((r.take i).append (.cons ru (r.drop i))) ?_, rfl, q⟩
  simp only [List.length_append, List.length_cons, List.length_take, List.length_drop]
  have : xs.length + 1 ≤ sizeLine := Nat.succ_le_of_lt (small1000 hz)
  omega
end
section
variable {K : PySem.W.Frag} {H : Hp} {Q : VK} {σ : St}
theorem r_notInD {x : V} {p : Addr} {ys : List V} {d : PyData} {ds : List PyData} (hs : SqL K H p ys) (ht : Tells K H ys ds) (hd : Tell K H x d) (c1 : PyData.canLayAll0 ds = true) (c2 : d.canLay0 = true) (hz : d.depth ≤ 60) (h : Q (.bl (!ds.any fun z => PyData.eqv z d)) H) : rInD K true x (.ref p) H Q := ⟨p, ys, d, ds, rfl, hs, ht, hd, c1, c2, hz, h⟩
theorem r_inD {x : V} {p : Addr} {ys : List V} {d : PyData} {ds : List PyData} (hs : SqL K H p ys) (ht : Tells K H ys ds) (hd : Tell K H x d) (c1 : PyData.canLayAll0 ds = true) (c2 : d.canLay0 = true) (hz : d.depth ≤ 60) (h : Q (.bl (ds.any fun z => PyData.eqv z d)) H) : rInD K false x (.ref p) H Q := ⟨p, ys, d, ds, rfl, hs, ht, hd, c1, c2, hz, h⟩
theorem r_insert {l : Addr} {xs : List V} {i : Nat} {y : V} (e : H l = some (.lst xs)) (n : xs.length ≤ 1000) (hi : i ≤ 1000) (h : Q .non (upd H l (.lst (xs.take i ++ y :: xs.drop i)))) : rInsert (.ref l) [.int i, y] H Q := ⟨l, xs, i, y, rfl, rfl, e, n, hi, h⟩
def rItR2 : List V → Hp → (It → Hp → Prop) → Prop := fun vs H R => ∃ i j : Int, vs = [.int i, .int j] ∧ (-(2 ^ 62) ≤ i ∧ i < 2 ^ 62 ∧ -(2 ^ 62) ≤ j ∧ j < 2 ^ 62) ∧ R (Itr i (j - i).toNat) H
theorem r_irng2 {ts : TA} {R : It → Hp → Prop} (h : ts σ H fun vs H1 => rItR2 vs H1 R) : iRng2 ts σ H R := h
theorem r_isr2 {i j : Int} {R : It → Hp → Prop} (h1 : -1000000 ≤ i ∧ i ≤ 1000000) (h2 : -1000000 ≤ j ∧ j ≤ 1000000) (h : R (Itr i (j - i).toNat) H) : rItR2 [.int i, .int j] H R := ⟨i, j, rfl, ⟨by omega, by omega, by omega, by omega⟩, h⟩
theorem cutV_hi {xs : List V} {j : Nat} : cutV xs none (some (j : Int)) = xs.take j := by
  unfold cutV
  rw [HT.sIx_none, HT.sIx_nat, Nat.sub_zero, List.drop_zero]
  by_cases h : j ≤ xs.length
  · rw [Nat.min_eq_left h]
  · rw [Nat.min_eq_right (by omega), List.take_of_length_le (by omega), List.take_of_length_le (by omega)]
theorem cutV_lo {xs : List V} {j : Nat} : cutV xs (some (j : Int)) none = xs.drop j := by
  unfold cutV
  rw [HT.sIx_none, HT.sIx_nat]
  by_cases h : j ≤ xs.length
  · rw [Nat.min_eq_left h, List.take_of_length_le (by rw [List.length_drop]; omega)]
  · rw [Nat.min_eq_right (by omega), Nat.sub_self, List.take_zero, List.drop_of_length_le (by omega)]
theorem r_slHi {a : Addr} {xs : List V} {j : Nat} (e : SqL K H a xs) (h : ∀ p H2, H p = none → Same H H2 → H2 p = some (.lst (xs.take j)) → Q (.ref p) H2) : rSlL K (.ref a) none (some (j : Int)) H Q :=
  r_slL e fun p H2 n s m => h p H2 n s (by rw [cutV_hi] at m; exact m)
theorem r_slLo {a : Addr} {xs : List V} {j : Nat} (e : SqL K H a xs) (h : ∀ p H2, H p = none → Same H H2 → H2 p = some (.lst (xs.drop j)) → Q (.ref p) H2) : rSlL K (.ref a) (some (j : Int)) none H Q :=
  r_slL e fun p H2 n s m => h p H2 n s (by rw [cutV_lo] at m; exact m)
/-- eqv of rows is equality -/
theorem eqv_ints : ∀ (r q : List Int), PyData.eqvAll (r.map PyData.int) (q.map PyData.int) = decide (r = q)
  | [], [] => rfl
  | [], _ :: _ => rfl
  | _ :: _, [] => rfl
  | x :: r, y :: q => by
    have h := eqv_ints r q
    simp only [List.map_cons, PyData.eqvAll, h, PyData.eqv]
    by_cases e : x = y
    · subst e; by_cases e2 : r = q <;> simp [e2]
    · simp [e]
theorem eqv_row (r q : List Int) : PyData.eqv (.tuple (r.map PyData.int)) (.tuple (q.map PyData.int)) = decide (r = q) := by
  rw [← eqv_ints r q]
  simp [PyData.eqv]
theorem eqv_rows : ∀ (rs qs : List (List Int)), PyData.eqvAll (rs.map fun r => .tuple (r.map PyData.int)) (qs.map fun r => .tuple (r.map PyData.int)) = decide (rs = qs)
  | [], [] => rfl
  | [], _ :: _ => rfl
  | _ :: _, [] => rfl
  | x :: r, y :: q => by
    have h := eqv_rows r q
    simp only [List.map_cons, PyData.eqvAll, h, eqv_row]
    by_cases e : x = y
    · subst e; by_cases e2 : r = q <;> simp [e2]
    · simp [e]
theorem eqv_listI (r q : List Int) : PyData.eqv (.list (r.map PyData.int)) (.list (q.map PyData.int)) = decide (r = q) := by
  rw [← eqv_ints r q]
  simp [PyData.eqv]
theorem eqv_listR (rs qs : List (List Int)) : PyData.eqv (.list (rs.map fun r => .tuple (r.map PyData.int))) (.list (qs.map fun r => .tuple (r.map PyData.int))) = decide (rs = qs) := by
  rw [← eqv_rows rs qs]
  simp [PyData.eqv]
theorem any_rows (rs : List (List Int)) (q : List Int) : ((rs.map fun r => PyData.tuple (r.map PyData.int)).any fun z => PyData.eqv z (.tuple (q.map PyData.int))) = decide (q ∈ rs) := by
  rw [List.any_map]
  rw [Bool.eq_iff_iff, List.any_eq_true, decide_eq_true_eq]
  constructor
  · rintro ⟨r, hr, e⟩
    have e' : PyData.eqv (.tuple (r.map PyData.int)) (.tuple (q.map PyData.int)) = true := e
    rw [eqv_row, decide_eq_true_eq] at e'
    exact e' ▸ hr
  · intro h
    exact ⟨q, h, by show PyData.eqv (.tuple (q.map PyData.int)) (.tuple (q.map PyData.int)) = true; rw [eqv_row]; simp⟩
theorem lay_ints : ∀ r : List Int, PyData.canLayAll0 (r.map PyData.int) = true
  | [] => rfl
  | _ :: r => by simp only [List.map_cons, PyData.canLayAll0, lay_ints r, PyData.canLay0, Bool.and_self]
theorem lay_row (r : List Int) : PyData.canLay0 (.tuple (r.map PyData.int)) = true := by simp only [PyData.canLay0, lay_ints]
theorem lay_rows : ∀ rs : List (List Int), PyData.canLayAll0 (rs.map fun r => .tuple (r.map PyData.int)) = true
  | [] => rfl
  | r :: rs => by simp only [List.map_cons, PyData.canLayAll0, lay_rows rs, lay_row, Bool.and_self]
theorem deep_ints : ∀ r : List Int, PyData.depthAll (r.map PyData.int) ≤ 1
  | [] => by simp [PyData.depthAll]
  | _ :: r => by
    have := deep_ints r
    simp only [List.map_cons, PyData.depthAll, PyData.depth]
    omega
theorem deep_row (r : List Int) : PyData.depth (.tuple (r.map PyData.int)) ≤ 2 := by
  have := deep_ints r
  simp only [PyData.depth]
  omega
theorem deep_rows : ∀ rs : List (List Int), PyData.depthAll (rs.map fun r => .tuple (r.map PyData.int)) ≤ 2
  | [] => by simp [PyData.depthAll]
  | r :: rs => by
    have := deep_rows rs
    have := deep_row r
    simp only [List.map_cons, PyData.depthAll]
    omega
theorem shaped_row (r : List Int) : SeqAt.shaped (.tuple (r.map PyData.int)) = true := by
  unfold SeqAt.shaped
  rw [lay_row, decide_eq_true (Nat.le_trans (deep_row r) (by decide))]; rfl
theorem shaped_rows (rs : List (List Int)) : SeqAt.shaped (.list (rs.map fun r => .tuple (r.map PyData.int))) = true := by
  unfold SeqAt.shaped
  have h : PyData.canLay0 (.list (rs.map fun r => PyData.tuple (r.map PyData.int))) = true := by simp only [PyData.canLay0, lay_rows]
  have d : PyData.depth (.list (rs.map fun r => PyData.tuple (r.map PyData.int))) ≤ 64 := by
    have := deep_rows rs
    simp only [PyData.depth]
    omega
  rw [h, decide_eq_true d]; rfl
end
end L2

/-! ### list(reversed(l)) -/
set_option maxRecDepth 100000
namespace L2
open PySem PySem.Spec PyProof.Rows PySem.W
theorem rev_len0 : typeLookup (.type "list_reverseiterator") "__len__" = pure none := by rw [typeLookup_type, builtinLookup_eq_fast]; kernel_rfl
theorem rev_hint0 : typeLookup (.type "list_reverseiterator") "__length_hint__" = pure (some (.builtin "list_reverseiterator.__length_hint__")) := by rw [typeLookup_type, builtinLookup_eq_fast]; kernel_rfl
section
variable {prog : Program} {w : World} {A : Around} {E : Value → Shared → Prop} {s : Shared} {I l : Addr} {its : Array Value}
theorem rev_hint {Q : Bool → Shared → Prop} (ty : s.TypeIs (.ref I) "list_reverseiterator") (h : Q false s) : wpAny (model prog w) A (Builtin.List.listLengthHint (.ref I)) Q E s := by
  unfold Builtin.List.listLengthHint
  refine wpAny_bind (wpAny_specialOf ty rev_len0 ?_)
  show wpAny _ _ (specialOf (Value.ref I) (Str.ofString "__length_hint__") >>= _) _ _ _
  refine wpAny_bind (wpAny_specialOf ty rev_hint0 ?_)
  generalize eid : ("list_reverseiterator.__length_hint__" : String) = nm
  wp_delta
  rw [show splitId nm = some ("list_reverseiterator", "__length_hint__") by subst eid; decide +kernel]
  subst eid
  refine wpAny_bind (wpAny_isInstance (T := "list_reverseiterator") (b := true) ty (by rw [isSubtype_type]; kernel_rfl) ?_)
  refine wpAny_ite_split (fun z => absurd z (by decide)) fun _ => ?_
  refine wpAny_ite_split (fun _ => ?_) (fun z => absurd (by decide +kernel) z)
  refine wpAny_ite_split (fun z => absurd z (by decide +kernel)) fun _ => ?_
  exact wpAny_pure h
theorem rev_collect {R : Result → Shared → Prop} (hh : A.handled = none) (hI : s.heap.IsRevIter I l ((its.size : Int) - 1)) (hl : s.heap.IsList l its) (ne : l ≠ I) (S : Addr) (n1 : S ≠ I) (n2 : S ≠ l) (c0 : Nat) (hS : s.heap.get? S = some { cls := .type "list", data := .seq #[] c0 }) (hz : its.size ≤ sizeLine)
    (hR : ∀ h' tk acc c, (∀ b o, b ≠ S → b ≠ I → s.heap.get? b = some o → h'.get? b = some o) → h'.get? S = some { cls := .type "list", dict := none, data := .seq acc c, slots := #[] } → ItemsOf (fun i v => its[its.size - 1 - i]? = some v) acc its.size → R (.ok (.ret .none)) { s with heap := h', toks := tk }) :
    wpAny (model prog w) A.in1 (Builtin.List.listExtendWith (.ref S) (.ref I) .none)
      (fun fin s' => match fin with | .done f => R (.ok f) s' | .again c' => c'.quiet = true ∧ codeAny (model prog w) A c' R s') (fun e s' => R (.error e) s') s := by
  have W := (Walks.listRev (prog := prog) (w := w) (A := A.in1) hh I l ne its).toS
  have nf : S ∉ [I, l] := by simp only [List.mem_cons, List.not_mem_nil, or_false, not_or]; exact ⟨n1, n2⟩
  have st : (fun (i : Nat) (s : Shared) => (fun i h => i ≤ its.size ∧ Heap.IsRevIter h I l ((its.size : Int) - 1 - (i : Int)) ∧ h.IsList l its) i s.heap) 0 s := ⟨Nat.zero_le _, by simpa using hI, hl⟩
  unfold Builtin.List.listExtendWith
  refine wpAny_bind (wpAny_typeOf hI.typeIs ?_)
  simp only [show Builtin.List.listSameRef (.ref S) (.ref I) = false by simp [Builtin.List.listSameRef, n1], show (Value.type "list_reverseiterator" == Value.type "list") = false by decide, show (Value.type "list_reverseiterator" == Value.type "tuple") = false by decide, Bool.or_false, Bool.false_eq_true, if_false]
  refine wpAny_bind (wpAny_pyIter_revIter hI (wpAny_bind (wpAny_holding (rev_hint hI.typeIs ?_))))
  refine wpAny_ite_split (fun z => absurd z (by decide)) fun _ => wpAny_pure ⟨plainId_quiet F.plain_extend_loop _, ?_⟩
  refine codeAny_extend_loopS W hz S nf .none its.size 0 _ #[] c0 rfl (Nat.zero_le _) st hS (ItemsOf.nil _) fun s' acc c hm hS' hacc => ?_
  rw [Moved.eq_with hm]
  exact hR s'.heap s'.toks acc c (fun b o b1 b2 e => hm.heap b o (fun z => (List.mem_cons.mp z).elim b1 fun y => b2 (List.mem_singleton.mp y)) e) hS' hacc
theorem call_list_revI {Q : Value → Shared → Prop} (hh : A.handled = none) (hI : s.heap.IsRevIter I l ((its.size : Int) - 1)) (hl : s.heap.IsList l its) (ne : l ≠ I) (hz : its.size ≤ sizeLine)
    (hQ : ∀ h' tk acc c, (∀ b o, b ≠ I → s.heap.get? b = some o → h'.get? b = some o) → h'.get? s.heap.objs.size = some { cls := .type "list", dict := none, data := .seq acc c, slots := #[] } → ItemsOf (fun i v => its[its.size - 1 - i]? = some v) acc its.size → Q (.ref s.heap.objs.size) { s with heap := h', toks := tk }) :
    wpAny (model prog w) A (call (.type "list") [.ref I]) Q E s := by
  obtain ⟨oI, eI, rI⟩ := id hI
  obtain ⟨ol, el, rl⟩ := id hl
  refine callType_codes (Q₁ := fun obj t => obj = .ref s.heap.objs.size ∧ t = { s with heap := s.heap.push { cls := .type "list", data := .seq #[] } }) F.called_list (F.typeCall_list_1 _) F.entry_list_init (code_list_new _ ⟨rfl, rfl⟩) fun obj t ht => ?_
  obtain ⟨rfl, rfl⟩ := ht
  have own : (s.heap.push { cls := .type "list", data := .seq #[] }).get? s.heap.objs.size = some { cls := .type "list", data := .seq #[] } := Heap.get?_push_size _ rfl
  refine ⟨⟨_, own, rfl⟩, F.args_list_init_2 _ _, ?_⟩
  show wpAny _ _ (do let old ← Builtin.List.listItems (.ref s.heap.objs.size); Builtin.List.listUpdate (.ref s.heap.objs.size) (fun _ => #[]); letGo old.toList.reverse; Builtin.List.listExtendWith (.ref s.heap.objs.size) (.ref I) .none) _ _ _
  refine wpAny_bind ?_
  unfold Builtin.List.listItems
  refine wpAny_bind (wpAny_seqItems own rfl (wpAny_pure ?_))
  show wpAny _ _ (updateSeq s.heap.objs.size (fun _ => #[]) >>= fun _ => letGo (#[] : Array Value).toList.reverse >>= fun _ => Builtin.List.listExtendWith (.ref s.heap.objs.size) (.ref I) .none) _ _ _
  refine wpAny_bind (wpAny_updateSeq own rfl (wpAny_bind (wpAny_letGo ?_)))
  have own2 := Heap.get?_update_self (Obj.mapSeq (fun _ => (#[] : Array Value))) own rfl
  have oth : ∀ b o, s.heap.get? b = some o → ((s.heap.push { cls := .type "list", data := .seq #[] }).update s.heap.objs.size (Obj.mapSeq (fun _ => (#[] : Array Value)))).get? b = some o := fun b o e => (Heap.get?_update_other _ _ (Nat.ne_of_gt (Heap.lt_size e))).trans (Heap.get?_push_of_some _ e)
  refine rev_collect (A := A.in1) (its := its) hh ⟨oI, oth _ _ eI, rI⟩ ⟨ol, oth _ _ el, rl⟩ ne _ (Nat.ne_of_gt (Heap.lt_size eI)) (Nat.ne_of_gt (Heap.lt_size el)) _ own2 hz fun h' tk acc c k e hacc => ⟨rfl, hQ h' tk acc c (fun b o b1 eb => k b o (Nat.ne_of_lt (Heap.lt_size eb)) b1 (oth b o eb)) e hacc⟩
end
theorem rev_items {its : List Value} {acc : Array Value} (h : ItemsOf (fun i v => its.toArray[its.toArray.size - 1 - i]? = some v) acc its.toArray.size) : acc = its.reverse.toArray := by
  apply Array.ext
  · rw [h.1]; simp
  · intro j h1 h2
    have e := h.2 j _ (Array.getElem?_eq_getElem h1)
    have hj : j < its.length := by have := h.1; simp at this; omega
    simp only [List.size_toArray, List.getElem?_toArray] at e
    simp only [List.getElem_toArray, List.getElem_reverse]
    rw [List.getElem?_eq_getElem (by omega)] at e
    exact (Option.some.inj e).symm
def rRevL (K : Frag) : V → Hp → VK → Prop := fun x H Q => ∃ (l : Addr) (xs : List V), x = .ref l ∧ SqL K H l xs ∧ ∀ p, H p = none → Q (.ref p) (upd H p (.lst xs.reverse))
def tRevL (K : Frag) (t : TE) : TE := fun σ H Q => t σ H fun x H1 => rRevL K x H1 Q
section
variable {X : Cx} {p p2 pos pos2 : Pos} {e : Expr} {t : TE}
theorem pe_revL (hc : X.calm = true) (ha : PE X e t) (hg : Gl X "list") (hg2 : Gl X "reversed") (hm : X.mg "list" = none) (hm2 : X.mg "reversed" = none)
    (hst : starEach [e] X.env = [(false, eval e X.env)] := by rfl) (hst2 : starEach [Expr.Call (.Name "reversed" p2) [e] [] pos2] X.env = [(false, eval (.Call (.Name "reversed" p2) [e] [] pos2) X.env)] := by rfl) :
    PE X (.Call (.Name "list" p) [.Call (.Name "reversed" p2) [e] [] pos2] [] pos) (tRevL X.K t) := by
  intro pins s σ H Q I h
  refine wpAny_Call_Name_kw (ld_blt I hg hm boot_list ?_ (by decide) (by decide))
  refine PyProof.Rows.callWith_type1 ?_ (by rw [hst2]; rfl) (by rfl)
  rw [hst2]
  show wpAny _ _ (spliced ((false, eval (.Call (.Name "reversed" p2) [e] [] pos2) X.env) :: backTo pos [])) _ _ s
  refine Calls.spliced_cons (wpAny_Call_Name_kw (ld_blt I hg2 hm2 boot_reversed ?_ (by decide) (by decide)))
  refine PyProof.Rows.callWith_type1 ?_ (by rw [hst]; rfl) (by rfl)
  have hpa : PA X [e] (tCons t tNil) := pa_cons ha pa_nil hst
  refine thn (hpa pos2 pins s σ H (fun vs H1 => ∃ x, vs = [x] ∧ rRevL X.K x H1 Q) I ?_) fun us s1 ⟨vs, H1, I1, r, x, ev, q⟩ => ?_
  · show t σ H fun x H1 => ∃ z, [x] = [z] ∧ rRevL X.K z H1 Q
    have e : (fun (x : V) (H1 : Hp) => ∃ z, [x] = [z] ∧ rRevL X.K z H1 Q) = fun x H1 => rRevL X.K x H1 Q := by
      funext x H1
      apply propext
      exact ⟨fun ⟨z, e, q⟩ => by cases e; exact q, fun q => ⟨x, rfl, q⟩⟩
    rw [e]
    exact h
  subst ev
  obtain ⟨u, rfl, ru⟩ := vals1 r
  obtain ⟨l, xs, rfl, hs, hQ⟩ := q
  cases ru
  obtain ⟨its, rv, pl, hz⟩ := I1.list hs
  have hl : s1.heap.IsList l its.toArray := pl.isList
  have hlt : l < s1.heap.objs.size := by obtain ⟨o, e, _⟩ := hl; exact Heap.lt_size e
  refine call_reversed_list hl ?_
  have I2 : Inv X pins σ H1 { s1 with heap := s1.heap.push (revObj l ((its.toArray.size : Int) - 1)) } := I1.kept (t' := s1.toks) fun b o q => Heap.get?_push_of_some _ q
  refine Calls.spliced_nil ?_
  have hlen := rv.length
  refine call_list_revI (s := { s1 with heap := s1.heap.push (revObj l ((its.toArray.size : Int) - 1)) }) (I1.ok.hd hc) ⟨_, Heap.get?_push_size _ rfl, rfl, rfl⟩ (hl.at fun o e => Heap.get?_push_of_some _ e) (Nat.ne_of_lt hlt) (by rw [List.size_toArray, ← hlen]; exact hz) fun h' tk acc c k hn hacc => ?_
  rw [rev_items hacc] at hn
  have big : s1.heap.objs.size ≤ (s1.heap.push (revObj l ((its.toArray.size : Int) - 1))).objs.size := by rw [size_push']; exact Nat.le_succ _
  refine ⟨.ref _, upd H1 _ (.lst xs.reverse), I1.laid (t' := tk) (fun b u q => k b u (Nat.ne_of_lt (Heap.lt_size q)) (Heap.get?_push_of_some _ q)) big ?_, rfl, hQ _ (I1.hok.fresh big)⟩
  exact ⟨by rw [List.length_reverse]; exact hz, its.reverse, c, rv.reverse, hn⟩
variable {K : Frag}
theorem kpe_revL (K : Frag) (hK : X.K = K) (hc : X.calm = true) (ha : PE X e t) (hg : Gl X "list") (hg2 : Gl X "reversed") (hm : X.mg "list" = none) (hm2 : X.mg "reversed" = none)
    (hst : starEach [e] X.env = [(false, eval e X.env)] := by rfl) (hst2 : starEach [Expr.Call (.Name "reversed" p2) [e] [] pos2] X.env = [(false, eval (.Call (.Name "reversed" p2) [e] [] pos2) X.env)] := by rfl) :
    PE X (.Call (.Name "list" p) [.Call (.Name "reversed" p2) [e] [] pos2] [] pos) (tRevL K t) := hK ▸ pe_revL hc ha hg hg2 hm hm2 hst hst2
end
section
variable {K : Frag} {H : Hp} {Q : VK} {σ : St}
theorem r_revT {t : TE} (h : t σ H fun x H1 => rRevL K x H1 Q) : tRevL K t σ H Q := h
theorem r_revL {l : Addr} {xs : List V} (e : SqL K H l xs) (h : ∀ p H2, H p = none → Same H H2 → H2 p = some (.lst xs.reverse) → Q (.ref p) H2) : rRevL K (.ref l) H Q := ⟨l, xs, rfl, e, fun p hp => h p _ hp (Same.upd_new hp) upd_same⟩
end
end L2

/-! ### lists of keys: tuples of a row and a ring -/
set_option maxRecDepth 100000
namespace L2
open PySem PySem.Spec PyProof.Rows
inductive KeysL (K : PySem.W.Frag) (H : Hp) : List V → List (List Int × Int) → Prop where
  | nil : KeysL K H [] []
  | cons {a w : Addr} {r : List Int} {m : Int} {xs : List V} {ks : List (List Int × Int)} (h : SqT K H a [.ref w, .int m]) (hw : SqT K H w (r.map V.int)) (t : KeysL K H xs ks) : KeysL K H (.ref a :: xs) ((r, m) :: ks)
def keyD (k : List Int × Int) : PyData := .tuple [.tuple (k.1.map PyData.int), .int k.2]
namespace KeysL
variable {K : PySem.W.Frag} {H H' : Hp}
theorem length : ∀ {xs : List V} {ks : List (List Int × Int)}, KeysL K H xs ks → ks.length = xs.length
  | _, _, .nil => rfl
  | _, _, .cons _ _ t => by rw [List.length_cons, List.length_cons, t.length]
theorem get : ∀ {xs : List V} {ks : List (List Int × Int)} {i : Nat} {x : V}, KeysL K H xs ks → xs[i]? = some x → ∃ a w k, x = .ref a ∧ SqT K H a [.ref w, .int k.2] ∧ SqT K H w (k.1.map V.int) ∧ ks[i]? = some k
  | _, _, _, _, .nil, h => by simp at h
  | _, _, 0, _, .cons (a := a) (w := w) (r := r) (m := m) h hw _, e => by
    simp at e
    exact ⟨a, w, (r, m), e.symm, h, hw, rfl⟩
  | _, _, i + 1, _, .cons _ _ t, e => by
    obtain ⟨a, w, k, h1, h2, h3, h4⟩ := get (i := i) t (by simpa using e)
    exact ⟨a, w, k, h1, h2, h3, by simpa using h4⟩
theorem same : ∀ {xs : List V} {ks : List (List Int × Int)}, KeysL K H xs ks → Same H H' → KeysL K H' xs ks
  | _, _, .nil, _ => .nil
  | _, _, .cons h hw t, s => .cons (s.at h) (s.at hw) (t.same s)
theorem append : ∀ {xs ys : List V} {ks js : List (List Int × Int)}, KeysL K H xs ks → KeysL K H ys js → KeysL K H (xs ++ ys) (ks ++ js)
  | _, _, _, _, .nil, u => u
  | _, _, _, _, .cons h hw t, u => .cons h hw (t.append u)
theorem snoc {xs : List V} {ks : List (List Int × Int)} {a w : Addr} {r : List Int} {m : Int} (t : KeysL K H xs ks) (h : SqT K H a [.ref w, .int m]) (hw : SqT K H w (r.map V.int)) : KeysL K H (xs ++ [.ref a]) (ks ++ [(r, m)]) := t.append (.cons h hw .nil)
theorem off {l : Addr} {ys zs : List V} : ∀ {xs : List V} {ks : List (List Int × Int)}, KeysL K H xs ks → H l = some (.lst ys) → KeysL K (upd H l (.lst zs)) xs ks
  | _, _, .nil, _ => .nil
  | _, _, .cons h hw t, e => .cons (upd_sqT h e) (upd_sqT hw e) (t.off e)
theorem take : ∀ {xs : List V} {ks : List (List Int × Int)} (n : Nat), KeysL K H xs ks → KeysL K H (xs.take n) (ks.take n)
  | _, _, 0, _ => .nil
  | _, _, _ + 1, .nil => .nil
  | _, _, n + 1, .cons h hw t => .cons h hw (t.take n)
theorem reverse : ∀ {xs : List V} {ks : List (List Int × Int)}, KeysL K H xs ks → KeysL K H xs.reverse ks.reverse
  | _, _, .nil => .nil
  | _, _, .cons h hw t => by rw [List.reverse_cons, List.reverse_cons]; exact t.reverse.snoc h hw
theorem tells : ∀ {xs : List V} {ks : List (List Int × Int)}, KeysL K H xs ks → Tells K H xs (ks.map keyD)
  | _, _, .nil => .nil
  | _, _, .cons h hw t => .cons (.tup h (.cons (Tell.row hw) (.cons (.int _) .nil))) t.tells
end KeysL
theorem eqv_key (k : List Int × Int) : PyData.eqv (keyD k) (keyD k) = true := by
  have h := eqv_row k.1 k.1
  rw [decide_eq_true rfl] at h
  simp [keyD, PyData.eqv, PyData.eqvAll] at h ⊢
  exact h
theorem eqv_keys : ∀ ks : List (List Int × Int), PyData.eqvAll (ks.map keyD) (ks.map keyD) = true
  | [] => rfl
  | k :: ks => by simp only [List.map_cons, PyData.eqvAll, eqv_key, eqv_keys ks, Bool.and_self]
theorem eqv_listK (ks : List (List Int × Int)) : PyData.eqv (.list (ks.map keyD)) (.list (ks.map keyD)) = true := by
  rw [← eqv_keys ks]
  simp [PyData.eqv]
theorem lay_key (k : List Int × Int) : PyData.canLay0 (keyD k) = true := by
  have h := lay_row k.1
  simp only [keyD, PyData.canLay0, PyData.canLayAll0] at h ⊢
  rw [h]; rfl
theorem lay_keys : ∀ ks : List (List Int × Int), PyData.canLayAll0 (ks.map keyD) = true
  | [] => rfl
  | k :: ks => by simp only [List.map_cons, PyData.canLayAll0, lay_keys ks, lay_key, Bool.and_self]
theorem deep_key (k : List Int × Int) : PyData.depth (keyD k) ≤ 3 := by
  have := deep_row k.1
  simp only [keyD, PyData.depth, PyData.depthAll] at this ⊢
  omega
theorem deep_keys : ∀ ks : List (List Int × Int), PyData.depthAll (ks.map keyD) ≤ 3
  | [] => by simp [PyData.depthAll]
  | k :: ks => by
    have := deep_keys ks
    have := deep_key k
    simp only [List.map_cons, PyData.depthAll]
    omega
theorem shaped_keys (ks : List (List Int × Int)) : SeqAt.shaped (.list (ks.map keyD)) = true := by
  unfold SeqAt.shaped
  have h : PyData.canLay0 (.list (ks.map keyD)) = true := by simp only [PyData.canLay0, lay_keys]
  have d : PyData.depth (.list (ks.map keyD)) ≤ 64 := by
    have := deep_keys ks
    simp only [PyData.depth]
    omega
  rw [h, decide_eq_true d]; rfl
/-- a comprehension over a list, told by place -/
theorem range_map {α β : Type} (ks : List α) (d : α) (g : α → β) : (List.range ks.length).map (fun i => g (ks.getD i d)) = ks.map g := by
  apply List.ext_getElem
  · simp
  · intro i h1 h2
    have h : i < ks.length := by simpa using h1
    simp [List.getD, List.getElem?_eq_getElem h]
theorem rd_compL {K : PySem.W.Frag} {a : Addr} {xs : List V} {H1 : Hp} {ix : List (Option Nat)} {σ : St} {te : TE} {Q : VK} (fr : St) (f : Nat → V) (hpk : pick ix σ = none :: fr) (ha : SqL K H1 a xs) (hn : xs.length ≤ 1000000)
    (step : ∀ (i : Nat) x H' (Qc : VK), xs[i]? = some x → Same H1 H' → (∀ H5, Same H' H5 → Qc (f i) H5) → te (some x :: fr) H' Qc)
    (hQ : ∀ l H', H1 l = none → Same H1 H' → H' l = some (.lst ((List.range xs.length).map f)) → Q (.ref l) H') : CompGoal ix (gName 0) (fun _ H Q => Q true H) te σ Q (Itl K a) H1 := by
  refine rd_comp1 fr xs.length f hpk hn (fun H' s => ⟨xs, s.seq ha, Nat.le_refl _⟩) (fun i H' hi s => ⟨xs, xs[i], s.seq ha, List.getElem?_eq_getElem hi⟩) (fun i x H' H2 Qc hi s hy kc => ?_) hQ
  obtain ⟨rfl, e⟩ := hy
  exact step i x _ Qc (e xs (s.seq ha)) s kc
end L2

namespace Law
open PySem L2
def top (i : Nat) : Stmt := PySem.Challenge.pw_tuningyard_k41_values.main.body.getD i (.Pass ⟨0, 0, 0, 0⟩)
abbrev s_heard : Stmt := top 4
abbrev s_value : Stmt := top 5
abbrev s_checked_keys : Stmt := top 8
abbrev s_values : Stmt := top 9
abbrev s_law_cell_at : Stmt := top 11
abbrev s_law_whole : Stmt := top 12
abbrev s_law_number : Stmt := top 13
abbrev s_law_row_at : Stmt := top 14
abbrev s_law_with : Stmt := top 15
abbrev s_law_comma : Stmt := top 16
abbrev s_law_ring : Stmt := top 17
abbrev s_law_keys : Stmt := top 18
abbrev s_law_sum : Stmt := top 19
abbrev s_law_right : Stmt := top 20
abbrev s_law : Stmt := top 21

def dot (a b : List Int) : Int := (List.zipWith (· * ·) a b).sum
theorem dot_comm : ∀ (a b : List Int), dot a b = dot b a
  | [], [] => rfl
  | [], _ :: _ => rfl
  | _ :: _, [] => rfl
  | x :: a, y :: b => by
    have h := dot_comm a b
    unfold dot at h ⊢
    simp only [List.zipWith_cons_cons, List.sum_cons]
    rw [h, Int.mul_comm]
def val (w : List Int) (m : Int) (r : List Int) : Int := if m = 0 then dot r w else dot r w % m
/-- each number of few bits -/
def Few (n : Nat) (r : List Int) : Prop := ∀ x ∈ r, bitsI x ≤ n
theorem Few.mul {n m : Nat} {r q : List Int} (h1 : Few n r) (h2 : Few m q) (h : n + m ≤ 1000000) (hl : r.length = q.length) : ∀ i, i < r.length → CMulB (r.getD i 0) (q.getD i 0) := fun i hi => by
  have a := h1 (r.getD i 0) (by rw [List.getD, List.getElem?_eq_getElem hi]; exact List.getElem_mem hi)
  have b := h2 (q.getD i 0) (by rw [List.getD, List.getElem?_eq_getElem (hl ▸ hi)]; exact List.getElem_mem _)
  unfold CMulB
  omega
def num (c b : Int) : Int := (c + b) % (2 * b + 1) - b
theorem num_bd (c : Int) {b : Int} (h : 0 ≤ b) : -b ≤ num c b ∧ num c b ≤ b := by
  unfold num
  have h1 := Int.emod_nonneg (c + b) (show 2 * b + 1 ≠ 0 by omega)
  have h2 := Int.emod_lt_of_pos (c + b) (show 0 < 2 * b + 1 by omega)
  omega
theorem bits_le {x : Int} {b : Int} {k : Nat} (h : -b ≤ x ∧ x ≤ b) (hb : b < 2 ^ k) : bitsI x ≤ k := by
  rw [Mth.bits_bl]
  apply Mth.bl_le
  have : ((2 ^ k : Nat) : Int) = (2 : Int) ^ k := by simp
  omega
def rowI (ns : List Int) (k b : Int) : List Int := [num (ns.getD (k + 0).toNat 0) b, num (ns.getD (k + 1).toNat 0) b, num (ns.getD (k + 2).toNat 0) b, num (ns.getD (k + 3).toNat 0) b, num (ns.getD (k + 4).toNat 0) b]
theorem rowI_few (ns : List Int) (k : Int) {b : Int} (h0 : 0 ≤ b) {n : Nat} (hb : b < 2 ^ n) : Few n (rowI ns k b) := fun x hx => by
  simp only [rowI, List.mem_cons, List.not_mem_nil, or_false] at hx
  rcases hx with rfl | rfl | rfl | rfl | rfl <;> exact bits_le (num_bd _ h0) hb

def R5B (b : Int) (r : List Int) : Prop := ∃ a0 a1 a2 a3 a4 : Int, r = [a0, a1, a2, a3, a4] ∧ (-b ≤ a0 ∧ a0 ≤ b) ∧ (-b ≤ a1 ∧ a1 ≤ b) ∧ (-b ≤ a2 ∧ a2 ≤ b) ∧ (-b ≤ a3 ∧ a3 ≤ b) ∧ (-b ≤ a4 ∧ a4 ≤ b)
theorem R5B.mono {b c : Int} {r : List Int} (x : R5B b r) (h : b ≤ c) : R5B c r := by
  obtain ⟨a0, a1, a2, a3, a4, rfl, ⟨_, _⟩, ⟨_, _⟩, ⟨_, _⟩, ⟨_, _⟩, ⟨_, _⟩⟩ := x
  exact ⟨a0, a1, a2, a3, a4, rfl, by omega, by omega, by omega, by omega, by omega⟩
theorem R5B.few {b : Int} {r : List Int} {n : Nat} (x : R5B b r) (hb : b < 2 ^ n) : Few n r := fun y hy => by
  obtain ⟨a0, a1, a2, a3, a4, rfl, h0, h1, h2, h3, h4⟩ := x
  simp only [List.mem_cons, List.not_mem_nil, or_false] at hy
  rcases hy with rfl | rfl | rfl | rfl | rfl
  · exact bits_le h0 hb
  · exact bits_le h1 hb
  · exact bits_le h2 hb
  · exact bits_le h3 hb
  · exact bits_le h4 hb
theorem R5B.length {b : Int} {r : List Int} (x : R5B b r) : r.length = 5 := by
  obtain ⟨a0, a1, a2, a3, a4, rfl, _⟩ := x
  rfl
theorem rowI_b (ns : List Int) (k : Int) {b : Int} (h0 : 0 ≤ b) : R5B b (rowI ns k b) := ⟨_, _, _, _, _, rfl, num_bd _ h0, num_bd _ h0, num_bd _ h0, num_bd _ h0, num_bd _ h0⟩
/-- a key that is one -/
def GoodK (k : List Int × Int) : Prop := k.1.length = 5 ∧ Few 100 k.1 ∧ (k.2 = 0 ∨ 2 ≤ k.2)
theorem GoodK.mul {k : List Int × Int} {r : List Int} (g : GoodK k) (hl : r.length = 5) (hf : Few 100 r) : ∀ i, i < r.length → CMulB (r.getD i 0) (k.1.getD i 0) := Few.mul hf g.2.1 (by decide) (by rw [hl, g.1])
def vals (ks : List (List Int × Int)) (r : List Int) : List Int := ks.map fun k => val k.1 k.2 r
theorem getD_of {α : Type} {ks : List α} {i : Nat} {k d : α} (h : ks[i]? = some k) : ks.getD i d = k := by rw [List.getD, h]; rfl
theorem mem_of {α : Type} {ks : List α} {i : Nat} {k : α} (h : ks[i]? = some k) : k ∈ ks := by
  obtain ⟨h1, h2⟩ := List.getElem?_eq_some_iff.mp h
  rw [← h2]
  exact List.getElem_mem h1
theorem cat_last {xs : List V} {v : V} {i : Nat} (h : xs.length = i) : (xs ++ [v])[i]? = some v := by rw [← h]; simp
theorem mul_two {n y c : Int} (hn : -2 ≤ n ∧ n ≤ 2) (hy : -c ≤ y ∧ y ≤ c) : -(2 * c) ≤ 0 + n * y ∧ 0 + n * y ≤ 2 * c := by
  have h : n = -2 ∨ n = -1 ∨ n = 0 ∨ n = 1 ∨ n = 2 := by omega
  rcases h with rfl | rfl | rfl | rfl | rfl <;> omega
theorem mul_four {n y b c : Int} (hn : 1 ≤ n ∧ n ≤ 3) (hy : -b ≤ y ∧ y ≤ b) (hc : 4 * b ≤ c) : -(2 * c) ≤ y + n * y ∧ y + n * y ≤ 2 * c := by
  have h : n = 1 ∨ n = 2 ∨ n = 3 := by omega
  rcases h with rfl | rfl | rfl <;> omega
theorem mul_bit {t : Bool} {y b c : Int} (hy : -b ≤ y ∧ y ≤ b) (hc : 4 * b ≤ c) : -(2 * c) ≤ y * (if t = true then 1 else 0) ∧ y * (if t = true then 1 else 0) ≤ 2 * c := by
  split <;> omega
theorem bit_lo {t : Bool} : (-(2 ^ 64) : Int) < if t = true then 1 else 0 := by split <;> decide
theorem bit_hi {t : Bool} : (if t = true then 1 else 0 : Int) < 2 ^ 64 := by split <;> decide
theorem all_true (n : Nat) : (List.replicate n true).all id = true := by simp

structure Adr where
  t_MOST_KEYS : Tok
structure Txt (K : PySem.W.Frag) (mg : Str → Option Value) (G : Adr) : Prop where
  b_all : mg "all" = none
  b_bool : mg "bool" = none
  b_enumerate : mg "enumerate" = none
  b_int : mg "int" = none
  b_isinstance : mg "isinstance" = none
  b_len : mg "len" = none
  b_list : mg "list" = none
  b_min : mg "min" = none
  b_range : mg "range" = none
  b_reversed : mg "reversed" = none
  b_sum : mg "sum" = none
  b_tuple : mg "tuple" = none
  b_zip : mg "zip" = none
  g_MOST_KEYS : mg "MOST_KEYS" = some (.int 6 G.t_MOST_KEYS)
def sp_heard (K : PySem.W.Frag) : Sp := fun vs H Q _ => ∃ (w r : Addr) (ws rs : List Int), vs = [.ref w, .ref r] ∧ SqT K H w (ws.map V.int) ∧ SqT K H r (rs.map V.int) ∧ rs.length = ws.length ∧ rs.length ≤ 1000 ∧ (∀ i, i < rs.length → CMulB (rs.getD i 0) (ws.getD i 0)) ∧ ∀ H', Same H H' → Q (.int (dot rs ws)) H'
def sp_value (K : PySem.W.Frag) : Sp := fun vs H Q _ => ∃ (kk w r : Addr) (m : Int) (ws rs : List Int), vs = [.ref kk, .ref r] ∧ SqT K H kk [.ref w, .int m] ∧ SqT K H w (ws.map V.int) ∧ SqT K H r (rs.map V.int) ∧ rs.length = ws.length ∧ rs.length ≤ 1000 ∧ (∀ i, i < rs.length → CMulB (rs.getD i 0) (ws.getD i 0)) ∧ 0 ≤ m ∧ ∀ H', Same H H' → Q (.int (val ws m rs)) H'
def sp_checked_keys (K : PySem.W.Frag) : Sp := fun vs H Q _ => ∃ (l : Addr) (ys : List V) (ks : List (List Int × Int)), vs = [.ref l] ∧ SqL K H l ys ∧ KeysL K H ys ks ∧ ks.length ≤ 6 ∧ (∀ k ∈ ks, GoodK k) ∧ Q (.ref l) H
def sp_values (K : PySem.W.Frag) : Sp := fun vs H Q _ => ∃ (l r : Addr) (ys : List V) (ks : List (List Int × Int)) (rs : List Int), vs = [.ref l, .ref r] ∧ SqL K H l ys ∧ KeysL K H ys ks ∧ ks.length ≤ 6 ∧ (∀ k ∈ ks, GoodK k) ∧ SqT K H r (rs.map V.int) ∧ rs.length = 5 ∧ Few 100 rs ∧ ∀ p H', Same H H' → H' p = some (.tup ((vals ks rs).map V.int)) → Q (.ref p) H'
def sp_law_cell_at (K : PySem.W.Frag) : Sp := fun vs H Q _ => ∃ (a : Addr) (ns : List Int) (k : Int), vs = [.ref a, .int k] ∧ SqL K H a (ns.map V.int) ∧ 0 ≤ k ∧ Q (.int (ns.getD k.toNat 0)) H
def sp_law_whole (K : PySem.W.Frag) : Sp := fun vs H Q _ => ∃ i : Int, vs = [.int i] ∧ Q (.bl true) H
def sp_law_number (K : PySem.W.Frag) : Sp := fun vs H Q _ => ∃ c b : Int, vs = [.int c, .int b] ∧ 0 ≤ b ∧ Q (.int (num c b)) H
def sp_law_row_at (K : PySem.W.Frag) : Sp := fun vs H Q _ => ∃ (a : Addr) (ns : List Int) (k b : Int), vs = [.ref a, .int k, .int b] ∧ SqL K H a (ns.map V.int) ∧ 0 ≤ k ∧ 0 ≤ b ∧ ∀ p H', Same H H' → H' p = some (.tup ((rowI ns k b).map V.int)) → Q (.ref p) H'
def sp_law_with (K : PySem.W.Frag) : Sp := fun vs H Q _ => ∃ (a b : Addr) (n : Int) (a0 a1 a2 a3 a4 b0 b1 b2 b3 b4 : Int), vs = [.ref a, .ref b, .int n] ∧ SqT K H a [.int a0, .int a1, .int a2, .int a3, .int a4] ∧ SqT K H b [.int b0, .int b1, .int b2, .int b3, .int b4] ∧ (-10 ≤ n ∧ n ≤ 10) ∧ ∀ p H', Same H H' → SqT K H' p ([a0 + n * b0, a1 + n * b1, a2 + n * b2, a3 + n * b3, a4 + n * b4].map V.int) → Q (.ref p) H'
def sp_law_comma (K : PySem.W.Frag) : Sp := fun vs H Q _ => ∃ (a l : Addr) (ns : List Int) (j b c : Int) (xs : List V) (rs : List (List Int)), vs = [.ref a, .int j, .int b, .ref l] ∧ SqL K H a (ns.map V.int) ∧ 0 ≤ j ∧ (0 ≤ b ∧ 4 * b ≤ c) ∧ SqL K H l xs ∧ RowsL K H xs rs ∧ (∀ r ∈ rs, R5B c r) ∧ ∀ p r H', Same H H' → SqT K H' p (r.map V.int) → R5B (2 * c) r → Q (.ref p) H'
def sp_law_ring (K : PySem.W.Frag) : Sp := fun vs H Q _ => ∃ c : Int, vs = [.int c] ∧ ∀ m : Int, (m = 0 ∨ 2 ≤ m) → Q (.int m) H
def sp_law_keys (K : PySem.W.Frag) : Sp := fun vs H Q _ => ∃ (a : Addr) (ns : List Int), vs = [.ref a, .int 6] ∧ SqL K H a (ns.map V.int) ∧ ∀ l H' ys ks, Same H H' → H' l = some (.lst ys) → KeysL K H' ys ks → ks.length ≤ 6 → (∀ k ∈ ks, GoodK k) → Q (.ref l) H'
def sp_law_sum (K : PySem.W.Frag) : Sp := fun vs H Q _ => ∃ (kk w r : Addr) (m : Int) (ws rs : List Int), vs = [.ref kk, .ref r] ∧ SqT K H kk [.ref w, .int m] ∧ SqT K H w (ws.map V.int) ∧ SqT K H r (rs.map V.int) ∧ rs.length = ws.length ∧ rs.length ≤ 1000 ∧ (∀ i, i < rs.length → CMulB (rs.getD i 0) (ws.getD i 0)) ∧ 0 ≤ m ∧ ∀ H', Same H H' → Q (.int (val ws m rs)) H'
def sp_law_right (K : PySem.W.Frag) : Sp := fun vs H Q _ => ∃ (f l r : Addr) (ys : List V) (ks : List (List Int × Int)) (rs : List Int), vs = [.ref f, .ref l, .ref r] ∧ SqT K H f ((vals ks rs).map V.int) ∧ SqL K H l ys ∧ KeysL K H ys ks ∧ ks.length ≤ 6 ∧ (∀ k ∈ ks, GoodK k) ∧ SqT K H r (rs.map V.int) ∧ rs.length = 5 ∧ Few 100 rs ∧ ∀ H', Same H H' → Q (.bl true) H'

section
variable {K : PySem.W.Frag} {H : Hp} {Q : VK} {E : XK}
theorem c_heard {w r : Addr} (ws rs : List Int) (hw : SqT K H w (ws.map V.int)) (hr : SqT K H r (rs.map V.int)) (hl : rs.length = ws.length) (hn : rs.length ≤ 1000) (hm : ∀ i, i < rs.length → CMulB (rs.getD i 0) (ws.getD i 0)) (k : ∀ H', Same H H' → Q (.int (dot rs ws)) H') : sp_heard K [.ref w, .ref r] H Q E := ⟨w, r, ws, rs, rfl, hw, hr, hl, hn, hm, k⟩
theorem c_value {kk w r : Addr} {m : Int} (ws rs : List Int) (hk : SqT K H kk [.ref w, .int m]) (hw : SqT K H w (ws.map V.int)) (hr : SqT K H r (rs.map V.int)) (hl : rs.length = ws.length) (hn : rs.length ≤ 1000) (hm : ∀ i, i < rs.length → CMulB (rs.getD i 0) (ws.getD i 0)) (h0 : 0 ≤ m) (k : ∀ H', Same H H' → Q (.int (val ws m rs)) H') : sp_value K [.ref kk, .ref r] H Q E := ⟨kk, w, r, m, ws, rs, rfl, hk, hw, hr, hl, hn, hm, h0, k⟩
theorem c_checked_keys {l : Addr} {ys : List V} {ks : List (List Int × Int)} (hl : SqL K H l ys) (hk : KeysL K H ys ks) (hn : ks.length ≤ 6) (hg : ∀ k ∈ ks, GoodK k) (k : Q (.ref l) H) : sp_checked_keys K [.ref l] H Q E := ⟨l, ys, ks, rfl, hl, hk, hn, hg, k⟩
theorem c_values {l r : Addr} {ys : List V} {ks : List (List Int × Int)} {rs : List Int} (hl : SqL K H l ys) (hk : KeysL K H ys ks) (hn : ks.length ≤ 6) (hg : ∀ k ∈ ks, GoodK k) (hr : SqT K H r (rs.map V.int)) (h5 : rs.length = 5) (hf : Few 100 rs) (k : ∀ p H', Same H H' → H' p = some (.tup ((vals ks rs).map V.int)) → Q (.ref p) H') : sp_values K [.ref l, .ref r] H Q E := ⟨l, r, ys, ks, rs, rfl, hl, hk, hn, hg, hr, h5, hf, k⟩
theorem c_law_cell_at {a : Addr} {ns : List Int} {j : Int} (ha : SqL K H a (ns.map V.int)) (h0 : 0 ≤ j) (k : Q (.int (ns.getD j.toNat 0)) H) : sp_law_cell_at K [.ref a, .int j] H Q E := ⟨a, ns, j, rfl, ha, h0, k⟩
theorem c_law_whole {i : Int} (k : Q (.bl true) H) : sp_law_whole K [.int i] H Q E := ⟨i, rfl, k⟩
theorem c_law_number {c b : Int} (h : 0 ≤ b) (k : Q (.int (num c b)) H) : sp_law_number K [.int c, .int b] H Q E := ⟨c, b, rfl, h, k⟩
theorem c_law_row_at {a : Addr} {ns : List Int} {j b : Int} (ha : SqL K H a (ns.map V.int)) (h0 : 0 ≤ j) (hb : 0 ≤ b) (k : ∀ p H', Same H H' → H' p = some (.tup ((rowI ns j b).map V.int)) → Q (.ref p) H') : sp_law_row_at K [.ref a, .int j, .int b] H Q E := ⟨a, ns, j, b, rfl, ha, h0, hb, k⟩
theorem c_law_with {a b : Addr} {n : Int} {a0 a1 a2 a3 a4 b0 b1 b2 b3 b4 : Int} (ha : SqT K H a [.int a0, .int a1, .int a2, .int a3, .int a4]) (hb : SqT K H b [.int b0, .int b1, .int b2, .int b3, .int b4]) (hn : -10 ≤ n ∧ n ≤ 10) (k : ∀ p H', Same H H' → SqT K H' p ([a0 + n * b0, a1 + n * b1, a2 + n * b2, a3 + n * b3, a4 + n * b4].map V.int) → Q (.ref p) H') : sp_law_with K [.ref a, .ref b, .int n] H Q E := ⟨a, b, n, a0, a1, a2, a3, a4, b0, b1, b2, b3, b4, rfl, ha, hb, hn, k⟩
theorem c_law_comma {a l : Addr} {ns : List Int} {j b c : Int} {xs : List V} {rs : List (List Int)} (ha : SqL K H a (ns.map V.int)) (hj : 0 ≤ j) (hb : 0 ≤ b ∧ 4 * b ≤ c) (hl : SqL K H l xs) (hr : RowsL K H xs rs) (hc : ∀ r ∈ rs, R5B c r) (k : ∀ p r H', Same H H' → SqT K H' p (r.map V.int) → R5B (2 * c) r → Q (.ref p) H') : sp_law_comma K [.ref a, .int j, .int b, .ref l] H Q E := ⟨a, l, ns, j, b, c, xs, rs, rfl, ha, hj, hb, hl, hr, hc, k⟩
theorem c_law_ring {c : Int} (k : ∀ m : Int, (m = 0 ∨ 2 ≤ m) → Q (.int m) H) : sp_law_ring K [.int c] H Q E := ⟨c, rfl, k⟩
theorem c_law_keys {a : Addr} {ns : List Int} (ha : SqL K H a (ns.map V.int)) (k : ∀ l H' ys ks, Same H H' → H' l = some (.lst ys) → KeysL K H' ys ks → ks.length ≤ 6 → (∀ k ∈ ks, GoodK k) → Q (.ref l) H') : sp_law_keys K [.ref a, .int 6] H Q E := ⟨a, ns, rfl, ha, k⟩
theorem c_law_sum {kk w r : Addr} {m : Int} (ws rs : List Int) (hk : SqT K H kk [.ref w, .int m]) (hw : SqT K H w (ws.map V.int)) (hr : SqT K H r (rs.map V.int)) (hl : rs.length = ws.length) (hn : rs.length ≤ 1000) (hm : ∀ i, i < rs.length → CMulB (rs.getD i 0) (ws.getD i 0)) (h0 : 0 ≤ m) (k : ∀ H', Same H H' → Q (.int (val ws m rs)) H') : sp_law_sum K [.ref kk, .ref r] H Q E := ⟨kk, w, r, m, ws, rs, rfl, hk, hw, hr, hl, hn, hm, h0, k⟩
theorem c_law_right {f l r : Addr} {ys : List V} {ks : List (List Int × Int)} {rs : List Int} (hv : SqT K H f ((vals ks rs).map V.int)) (hl : SqL K H l ys) (hk : KeysL K H ys ks) (hn : ks.length ≤ 6) (hg : ∀ k ∈ ks, GoodK k) (hr : SqT K H r (rs.map V.int)) (h5 : rs.length = 5) (hf : Few 100 rs) (k : ∀ H', Same H H' → Q (.bl true) H') : sp_law_right K [.ref f, .ref l, .ref r] H Q E := ⟨f, l, r, ys, ks, rs, rfl, hv, hl, hk, hn, hg, hr, h5, hf, k⟩
end
local macro_rules | `(tactic| walk_at "hf") => `(tactic| first | assumption | exact L2.SqT.of (by assumption) | exact L2.SqL.of (by assumption) | exact L2.Fixed.at (by assumption) | ((with_reducible apply L2.sqt_sq); (walk_at "hf")) | ((with_reducible apply L2.sql_sq); (walk_at "hf")) | ((with_reducible apply L2.Same.at); (assumption); (walk_at "hf")) | ((with_reducible apply L2.Same.seq); (assumption); (walk_at "hf")) | ((with_reducible apply L2.Same.lst); (assumption); (walk_at "hf")) | ((with_reducible apply L2.Same.sq); (assumption); (walk_at "hf")))
local macro_rules | `(tactic| walk_at "sm") => `(tactic| first | exact L2.Same.refl _ | assumption | ((refine L2.Same.trans ?_ (by assumption)); walk_at "sm"))
local macro_rules | `(tactic| walk_at "side") => `(tactic| first | (show (0 : Int) < _; first | decide | omega) | exact ⟨by decide, by decide⟩ | exact ⟨by omega, by omega⟩ | exact Or.inl ⟨by decide, by decide⟩ | exact Or.inr ⟨by decide, by decide⟩ | exact Or.inr ⟨by omega, by omega⟩ | exact Or.inl ⟨by omega, by omega⟩ | exact ⟨by decide, by decide, by decide⟩ | assumption)
local macro_rules | `(tactic| walk_at "p") => `(tactic| first
  | (with_reducible refine L2.r_seq ?_) | (with_reducible refine L2.r_asg ?_) | (with_reducible refine L2.r_gname ?_) | (with_reducible refine L2.r_ret ?_) | (with_reducible refine L2.r_drop ?_) | (with_reducible refine L2.r_next ?_)
  | ((with_reducible apply L2.r_var); (exact rfl)) | (with_reducible refine L2.r_c ?_) | (with_reducible refine L2.r_op ?_) | (with_reducible refine L2.r_un ?_) | (with_reducible refine L2.r_b ?_) | (with_reducible refine L2.r_test ?_) | (with_reducible refine L2.r_isbl ?_)
  | (with_reducible refine L2.r_and ?_) | (with_reducible refine L2.r_or ?_) | (with_reducible refine L2.r_not ?_) | (with_reducible refine L2.r_andV ?_) | (with_reducible refine L2.r_orV ?_) | (with_reducible refine L2.r_notV ?_) | (with_reducible refine L2.r_ife ?_)
  | (with_reducible refine L2.r_I0 ?_) | ((with_reducible refine L2.r_I ?_ ?_); (walk_at "side")) | (with_reducible refine L2.r_U ?_) | (with_reducible refine L2.r_eqI ?_) | (with_reducible refine L2.r_neI ?_) | (with_reducible refine L2.r_eqB ?_) | (with_reducible refine L2.r_neB ?_)
  | (with_reducible refine L2.r_nil ?_) | (with_reducible refine L2.r_cons ?_) | (with_reducible refine L2.r_tup ?_) | (with_reducible refine L2.r_lst ?_) | ((with_reducible refine L2.r_newT ?_ ?_); (first | exact Nat.le_of_ble_eq_true rfl | (focus (simp; done)) | (focus (simp; omega))); intro p_ H_ s_ m_) | ((with_reducible refine L2.r_newL ?_ ?_); (first | exact Nat.le_of_ble_eq_true rfl | (focus (simp; done)) | (focus (simp; omega))); intro p_ H_ n_ s_ m_)
  | (with_reducible refine L2.r_cb ?_) | (with_reducible refine L2.r_call0 ?_) | (with_reducible refine L2.r_comp ?_) | (with_reducible refine L2.r_sl ?_) | (with_reducible refine L2.r_nopart ?_) | (with_reducible refine L2.r_part ?_) | (with_reducible refine L2.r_isint ?_) | (with_reducible refine L2.r_bm ?_) | (with_reducible refine L2.r_bm0 ?_)
  | (with_reducible refine L2.r_for ?_) | (with_reducible refine L2.r_ilist ?_) | (with_reducible refine L2.r_itup ?_) | (with_reducible refine L2.r_irng ?_) | (with_reducible refine L2.r_izip ?_)
  | ((with_reducible apply L2.r_isl); (walk_at "hf")) | ((with_reducible apply L2.r_ist); (walk_at "hf")) | ((with_reducible refine L2.r_isr ?_ ?_ ?_); (first | decide | omega); (first | decide | omega)) | ((with_reducible apply L2.r_isz); (walk_at "hf"); (walk_at "hf"))
  | ((with_reducible apply L2.r_lenT); (walk_at "hf")) | ((with_reducible apply L2.r_lenL); (walk_at "hf"))
  | ((with_reducible apply L2.r_tupleL); (walk_at "hf"); intro p_ H_ s_ m_) | ((with_reducible apply L2.r_tupleT); (walk_at "hf")) | ((with_reducible apply L2.r_listL); (walk_at "hf"); intro p_ H_ n_ s_ m_) | ((with_reducible apply L2.r_listT); (walk_at "hf"); intro p_ H_ n_ s_ m_)
  | (with_reducible refine L2.r_abs ?_) | (with_reducible refine L2.r_max ?_) | (with_reducible refine L2.r_min ?_) | (with_reducible refine L2.r_int1 ?_) | (with_reducible refine L2.r_int1b ?_) | (with_reducible refine L2.r_bitlen ?_)
  | ((with_reducible apply L2.r_isiT); (walk_at "hf"); (first | exact L2.kit_same _ _ | exact rfl)) | ((with_reducible apply L2.r_isiL); (walk_at "hf"); (first | exact L2.kit_same _ _ | exact rfl)) | ((with_reducible apply L2.r_isiI); (first | exact L2.kit_same _ _ | exact rfl)) | ((with_reducible apply L2.r_isiB); (first | exact L2.kit_same _ _ | exact rfl))
  | ((with_reducible refine L2.r_typed0 ?_ ?_); (first | exact rfl | exact Or.inl ⟨rfl, _, by walk_at "hf"⟩)) | ((with_reducible refine L2.r_typed ?_ ?_); (first | exact rfl | exact Or.inl ⟨rfl, _, by walk_at "hf"⟩))
  | ((with_reducible apply L2.r_cat); (walk_at "hf"); (walk_at "hf"); (first | exact Nat.le_of_ble_eq_true rfl | (focus (simp; done)) | (focus (simp; omega))); intro p_ H_ n_ s_ m_)
  | ((with_reducible apply L2.r_slL1); (walk_at "hf"); intro p_ H_ n_ s_ m_) | ((with_reducible apply L2.r_slT1); (walk_at "hf"); intro p_ H_ s_ m_)
  | ((with_reducible apply L2.r_catT); (walk_at "hf"); (walk_at "hf"); (exact List.cons_ne_nil _ _); (exact List.cons_ne_nil _ _); (first | exact Nat.le_of_ble_eq_true rfl | (focus (simp; done)) | (focus (simp; omega))); intro p_ H_ s_ m_)
  | (with_reducible refine L2.r_izip3 ?_) | ((with_reducible apply L2.r_isz3); (walk_at "hf"); (walk_at "hf"); (walk_at "hf")) | ((with_reducible apply L2.r_eqT5); (walk_at "hf"); (walk_at "hf"))
  | ((with_reducible apply L2.r_isiN); (exact rfl)) | ((with_reducible apply L2.r_isiS); (exact rfl)) | (with_reducible refine L2.r_gsub ?_) | (with_reducible refine L2.r_sortK ?_)
  | (with_reducible refine L2.r_callX ?_) | (with_reducible refine L2.r_callD ?_) | (with_reducible refine L2.r_raise ?_) | (with_reducible refine L2.r_try ?_) | ((with_reducible apply L2.r_inT); (walk_at "hf"); (exact rfl); (exact rfl)) | ((with_reducible apply L2.r_inL); (walk_at "hf"); (exact rfl); (exact rfl))
  | (with_reducible refine L2.r_iseq ?_) | ((with_reducible apply L2.r_isk); (walk_at "hf"))
  | (with_reducible refine L2.r_revT ?_) | ((with_reducible apply L2.r_revL); (walk_at "hf"); intro p_ H_ n_ s_ m_) | (with_reducible refine L2.r_dput ?_) | ((with_reducible refine L2.r_dnewT ?_); intro p_ H_ n_ s_ m_) | (with_reducible refine L2.r_irng2 ?_) | ((with_reducible refine L2.r_isr2 ?_ ?_ ?_); (first | exact ⟨by decide, by decide⟩ | exact ⟨by omega, by omega⟩); (first | exact ⟨by decide, by decide⟩ | exact ⟨by omega, by omega⟩)) | (with_reducible refine L2.r_ienum ?_) | ((with_reducible apply L2.r_isn); (walk_at "hf")))
local macro_rules | `(tactic| walk_at "q") => `(tactic| first | (walk_at "p") | (with_reducible refine L2.r_ifs ?_))
local macro_rules | `(tactic| walk_at "x") => `(tactic| first | ((with_reducible apply L2.r_ixT); (walk_at "hf"); (exact rfl)) | ((with_reducible apply L2.r_ixL); (walk_at "hf"); (exact rfl)))
local macro_rules | `(tactic| walk_at "r") => `(tactic| first | (walk_at "q") | (walk_at "x"))
local macro_rules | `(tactic| walk_at "v") => `(tactic| repeat walk_at "q")
local macro_rules | `(tactic| walk_at "j") => `(tactic| repeat (first | (walk_at "p") | (walk_at "x")))
local macro_rules | `(tactic| walk_at "p") => `(tactic| ((with_reducible apply c_law_cell_at); (walk_at "hf"); (first | decide | omega)))
local macro_rules | `(tactic| walk_at "p") => `(tactic| ((with_reducible apply c_law_whole)))
local macro_rules | `(tactic| walk_at "p") => `(tactic| ((with_reducible apply c_law_number); (first | assumption | decide | omega)))
local macro_rules | `(tactic| walk_at "p") => `(tactic| ((with_reducible apply c_law_row_at); (walk_at "hf"); (first | assumption | decide | omega); (first | assumption | decide | omega); intro p_ H_ s_ m_))
local macro_rules | `(tactic| walk_at "w") => `(tactic| repeat walk_at "r")
section
variable {P : Program} {w : World} {K : PySem.W.Frag} {mg : Str → Option Value} {base : Heap} {G : Adr}
theorem sc_heard : FnScope ["weights", "row"] ["weights", "row"] (defScope s_heard) := ⟨rfl, rfl, rfl, by decide +kernel, rfl, by decide +kernel, by decide +kernel⟩
theorem ok_heard (D : Def K mg "heard" s_heard ["weights", "row"]) (T : Txt K mg G) : Ok P w K mg base 1 "heard" ["weights", "row"] (sp_heard K) := by
  have S := sc_heard
  refine D.ok S (fun vs H Q E h => ?_) (fun f cdv A outer s H vs Q E hr h => ?_)
  · obtain ⟨w, r, ws, rs, rfl, hw, hra, hl, hn, hm, k⟩ := h; rfl
  · obtain ⟨w, r, ws, rs, rfl, hw, hra, hl, hn, hm, k⟩ := h
    have hu := hu_of hr
    refine ⟨_, (pss_one (ps_ret (pe_callB (kN_sum K rfl rfl) rfl T.b_sum PyProof.Rows.boot_sum (pa_cons (pe_comp (N := ["number", "weight"]) (ix := [none, none]) rfl (kpi_zip2 K rfl true true rfl T.b_zip (pa_cons (pv 1) (pa_cons (pv 0) pa_nil))) (fun _ _ _ _ _ => (kpg_tup (n := 2) K rfl rfl (pgs_cons (pg_name (i := 0) (show List.Nodup (["number", "weight"] : List Str) by decide +kernel) rfl (Or.inl rfl)) (pgs_cons (pg_name (i := 1) (show List.Nodup (["number", "weight"] : List Str) by decide +kernel) rfl (Or.inl rfl)) pgs_nil)))) (fun _ _ _ _ _ => rfl) (fun _ _ _ _ _ => (pe_op op_mulB (pv 0) (pv 1))) rfl (by decide +kernel) (by decide +kernel) rfl True.intro) pa_nil)))), ?_⟩
    walk_at "w"
    refine rd_zipM (r := rs) (q := ws) rfl (sqt_sq hra) (sqt_sq hw) hl hn hm fun l H1 hl1 s1 m1 => ?_
    walk_at "w"
    refine r_sum (SqL.of m1) ?_
    exact k _ s1
theorem sc_value : FnScope ["key", "row", "total"] ["key", "row"] (defScope s_value) := ⟨rfl, rfl, rfl, by decide +kernel, rfl, by decide +kernel, by decide +kernel⟩
structure Os_value (P : Program) (w : World) (K : PySem.W.Frag) (mg : Str → Option Value) (base : Heap) (G : Adr) : Prop where
  heard : Ok P w K mg base 1 "heard" ["weights", "row"] (sp_heard K)
theorem ok_value (D : Def K mg "value" s_value ["key", "row"]) (T : Txt K mg G) (O : Os_value P w K mg base G) : Ok P w K mg base 2 "value" ["key", "row"] (sp_value K) := by
  have S := sc_value
  refine D.ok S (fun vs H Q E h => ?_) (fun f cdv A outer s H vs Q E hr h => ?_)
  · obtain ⟨kk, w, r, m, ws, rs, rfl, hk, hw, hra, hl, hn, hm, h0, k⟩ := h; rfl
  · obtain ⟨kk, w, r, m, ws, rs, rfl, hk, hw, hra, hl, hn, hm, h0, k⟩ := h
    have hu := hu_of hr
    refine ⟨_, (pss_cons (ps_set (i := 2) S.nd rfl (Or.inl rfl) (pcall O.heard (hr.mono (by decide)) (pa_cons (pe_ix (kx_seq K rfl) (pv 0) pe_int (fun _ _ => rfl)) (pa_cons (pv 1) pa_nil)))) (pss_one (ps_ret (pe_ifExp (pt_cmpR op_eq (pe_ix (kx_seq K rfl) (pv 0) pe_int (fun _ _ => rfl)) pe_int (nomark _)) (pv 2) (pe_op op_mod (pv 2) (pe_ix (kx_seq K rfl) (pv 0) pe_int (fun _ _ => rfl))))))), ?_⟩
    walk_at "w"
    refine c_heard ws rs hw hra hl hn hm fun H1 s1 => ?_
    walk_at "w"
    refine if_both (fun hc => ?_) (fun hc => ?_)
    · walk_at "w"
      unfold val at k
      rw [if_pos (of_decide_eq_true hc)] at k
      exact k _ s1
    · have hz : m ≠ 0 := of_decide_eq_false hc
      unfold val at k
      rw [if_neg hz] at k
      walk_at "w"
      exact k _ s1
theorem sc_checked_keys : FnScope ["keys", "key"] ["keys"] (defScope s_checked_keys) := ⟨rfl, rfl, rfl, by decide +kernel, rfl, by decide +kernel, by decide +kernel⟩
theorem ok_checked_keys (D : Def K mg "checked_keys" s_checked_keys ["keys"]) (T : Txt K mg G) : Ok P w K mg base 1 "checked_keys" ["keys"] (sp_checked_keys K) := by
  have S := sc_checked_keys
  refine D.ok S (fun vs H Q E h => ?_) (fun f cdv A outer s H vs Q E hr h => ?_)
  · obtain ⟨l, ys, ks, rfl, hl, hk, hn, hg, k⟩ := h; rfl
  · obtain ⟨l, ys, ks, rfl, hl, hk, hn, hg, k⟩ := h
    have hu := hu_of hr
    refine ⟨_, (pss_cons (ps_if (pt_cmpR op_gt (pe_callB (kN_len K rfl) rfl T.b_len PySem.boot_len (pa_cons (pv 0) pa_nil)) (pe_glob (v := V.int 6) rfl T.g_MOST_KEYS ⟨_, rfl⟩) (nomark _)) (pss_one ps_never) pss_nil) (pss_cons (ps_for PassesOwn.never rfl (kpi_list K rfl (pv 0)) (pg_name (i := 1) S.nd rfl (Or.inl rfl)) (pss_one (ps_if (PW.pt (pw_or (pt_cmpR op_lt (pe_ix (kx_seq K rfl) (pv 1) pe_int (fun _ _ => rfl)) pe_int (nomark _)) (pw_or1 (pt_cmpR op_eq (pe_ix (kx_seq K rfl) (pv 1) pe_int (fun _ _ => rfl)) pe_int (nomark _))))) (pss_one ps_never) pss_nil))) (pss_one (ps_ret (pv 0))))), ?_⟩
    have hy := hk.length
    walk_at "w"
    refine if_ff (by simp; omega) ?_
    walk_at "w"
    refine f_invL (xs := ys) (fun i σ H2 => ∃ o : Option V, σ = [some (.ref l), o] ∧ H2 = H) ⟨_, rfl, rfl⟩ (fun i σ H2 hp => by obtain ⟨o, rfl, rfl⟩ := hp; exact hl) (fun i x σ H2 hx hp => ?_) (fun σ H2 hp => ?_)
    · obtain ⟨o, rfl, rfl⟩ := hp
      obtain ⟨a, w, kk, rfl, h1, h2, h3⟩ := hk.get hx
      have hm := (hg kk (mem_of h3)).2.2
      walk_at "w"
      refine if_ff (by simp; omega) ?_
      walk_at "w"
      refine if_ff (by simp; omega) ?_
      walk_at "w"
      exact ⟨_, rfl, rfl⟩
    · obtain ⟨o, rfl, rfl⟩ := hp
      walk_at "w"
      exact k
theorem sc_values : FnScope ["keys", "row"] ["keys", "row"] (defScope s_values) := ⟨rfl, rfl, rfl, by decide +kernel, rfl, by decide +kernel, by decide +kernel⟩
structure Os_values (P : Program) (w : World) (K : PySem.W.Frag) (mg : Str → Option Value) (base : Heap) (G : Adr) : Prop where
  value : Ok P w K mg base 2 "value" ["key", "row"] (sp_value K)
  checked_keys : Ok P w K mg base 1 "checked_keys" ["keys"] (sp_checked_keys K)
theorem ok_values (D : Def K mg "values" s_values ["keys", "row"]) (T : Txt K mg G) (O : Os_values P w K mg base G) : Ok P w K mg base 3 "values" ["keys", "row"] (sp_values K) := by
  have S := sc_values
  refine D.ok S (fun vs H Q E h => ?_) (fun f cdv A outer s H vs Q E hr h => ?_)
  · obtain ⟨l, r, ys, ks, rs, rfl, hl, hk, hn, hg, hra, h5, hf, k⟩ := h; rfl
  · obtain ⟨l, r, ys, ks, rs, rfl, hl, hk, hn, hg, hra, h5, hf, k⟩ := h
    have hu := hu_of hr
    refine ⟨_, (pss_one (ps_ret (pe_callTy (kN_tuple K rfl) rfl T.b_tuple PyProof.Rows.boot_tuple (pa_cons (pe_comp (N := ["key", "row"]) (ix := [none, some 1]) rfl (kpi_list K rfl (pcall O.checked_keys (hr.mono (by decide)) (pa_cons (pv 0) pa_nil))) (fun _ _ _ _ _ => (pg_name (i := 0) (show List.Nodup (["key", "row"] : List Str) by decide +kernel) rfl (Or.inl rfl))) (fun _ _ _ _ _ => rfl) (fun _ _ _ _ _ => (pcall O.value (hr.mono (by decide)) (pa_cons (pv 0) (pa_cons (pv 1) pa_nil)))) rfl (by decide +kernel) (by decide +kernel) rfl ⟨⟨rfl, Or.inr (Or.inl rfl), rfl, rfl⟩, True.intro⟩) pa_nil)))), ?_⟩
    have hy := hk.length
    walk_at "w"
    refine c_checked_keys hl hk hn hg ?_
    walk_at "w"
    refine rd_compL (xs := ys) [some (.ref r)] (fun i => .int (val (ks.getD i ([], 0)).1 (ks.getD i ([], 0)).2 rs)) rfl hl (by omega) (fun i x H2 Qc hx s kc => ?_) (fun p H2 np s m => ?_)
    · obtain ⟨a, w, kk, rfl, h1, h2, h3⟩ := hk.get hx
      have g := hg kk (mem_of h3)
      walk_at "w"
      refine c_value kk.1 rs (s.at h1) (s.at h2) (s.at hra) (by rw [h5, g.1]) (by omega) (g.mul h5 hf) (by have := g.2.2; omega) fun H3 s3 => ?_
      have q := kc _ s3
      rw [getD_of h3] at q
      exact q
    · rw [← hy, range_map ks ([], 0) (fun k => V.int (val k.1 k.2 rs))] at m
      have e : ks.map (fun k => V.int (val k.1 k.2 rs)) = (vals ks rs).map V.int := by rw [vals, List.map_map]; rfl
      rw [e] at m
      walk_at "w"
      rename_i p3 H3 s3 m3
      exact k _ _ (s.trans s3) m3
theorem sc_law_cell_at : FnScope ["_law_script", "_law_k"] ["_law_script", "_law_k"] (defScope s_law_cell_at) := ⟨rfl, rfl, rfl, by decide +kernel, rfl, by decide +kernel, by decide +kernel⟩
theorem ok_law_cell_at (D : Def K mg "_law_cell_at" s_law_cell_at ["_law_script", "_law_k"]) (T : Txt K mg G) : Ok P w K mg base 1 "_law_cell_at" ["_law_script", "_law_k"] (sp_law_cell_at K) := by
  have S := sc_law_cell_at
  refine D.ok S (fun vs H Q E h => ?_) (fun f cdv A outer s H vs Q E hr h => ?_)
  · obtain ⟨a, ns, k, rfl, hs, h0, hQ⟩ := h; rfl
  · obtain ⟨a, ns, k, rfl, hs, h0, hQ⟩ := h
    have hu := hu_of hr
    refine ⟨_, (pss_cons (ps_if (pt_cmpR op_lt (pv 1) (pe_callB (kN_len K rfl) rfl T.b_len PySem.boot_len (pa_cons (pv 0) pa_nil)) (nomark _)) (pss_one (ps_ret (pe_ix (kx_seq K rfl) (pv 0) (pv 1) (fun _ _ => rfl)))) pss_nil) (pss_one (ps_ret pe_int))), ?_⟩
    walk_at "w"
    refine if_both (fun hc => ?_) (fun hc => ?_)
    · have hlt : k.toNat < ns.length := by simp at hc; omega
      obtain ⟨j, rfl⟩ := Int.eq_ofNat_of_zero_le h0
      repeat walk_at "r"
      exact r_ixL hs (atI_nat (int_at (by simpa using hlt))) hQ
    · have hge : ns.length ≤ k.toNat := by simp at hc; omega
      have e : ns.getD k.toNat 0 = 0 := by rw [List.getD, List.getElem?_eq_none hge]; rfl
      rw [e] at hQ
      walk_at "w"
      exact hQ
theorem sc_law_whole : FnScope ["_law_thing"] ["_law_thing"] (defScope s_law_whole) := ⟨rfl, rfl, rfl, by decide +kernel, rfl, by decide +kernel, by decide +kernel⟩
theorem ok_law_whole (D : Def K mg "_law_whole" s_law_whole ["_law_thing"]) (T : Txt K mg G) : Ok P w K mg base 1 "_law_whole" ["_law_thing"] (sp_law_whole K) := by
  have S := sc_law_whole
  refine D.ok S (fun vs H Q E h => ?_) (fun f cdv A outer s H vs Q E hr h => ?_)
  · obtain ⟨i, rfl, k⟩ := h; rfl
  · obtain ⟨i, rfl, k⟩ := h
    have hu := hu_of hr
    refine ⟨_, (pss_one (ps_ret (pe_and (pe_callB (kN_isinst K rfl) rfl T.b_isinstance PyProof.Rows.boot_isinstance (pa_cons (pv 0) (pa_cons (pe_bltn (v := V.ty "int") rfl T.b_int PyProof.Rows.boot_int rfl) pa_nil))) (pe_one (pe_not (pe_callB (kN_isinst K rfl) rfl T.b_isinstance PyProof.Rows.boot_isinstance (pa_cons (pv 0) (pa_cons (pe_bltn (v := V.ty "bool") rfl T.b_bool PyProof.Rows.boot_bool rfl) pa_nil)))))))), ?_⟩
    walk_at "w"
    refine iteT ?_
    walk_at "w"
    exact k
theorem sc_law_number : FnScope ["_law_cell", "_law_bound"] ["_law_cell", "_law_bound"] (defScope s_law_number) := ⟨rfl, rfl, rfl, by decide +kernel, rfl, by decide +kernel, by decide +kernel⟩
theorem ok_law_number (D : Def K mg "_law_number" s_law_number ["_law_cell", "_law_bound"]) (T : Txt K mg G) : Ok P w K mg base 1 "_law_number" ["_law_cell", "_law_bound"] (sp_law_number K) := by
  have S := sc_law_number
  refine D.ok S (fun vs H Q E h => ?_) (fun f cdv A outer s H vs Q E hr h => ?_)
  · obtain ⟨c, b, rfl, h, k⟩ := h; rfl
  · obtain ⟨c, b, rfl, h, k⟩ := h
    have hu := hu_of hr
    refine ⟨_, (pss_one (ps_ret (pe_op op_sub (pe_op op_mod (pe_op op_add (pv 0) (pv 1)) (pe_op op_add (pe_op op_mul pe_int (pv 1)) pe_int)) (pv 1)))), ?_⟩
    walk_at "w"
    exact k
theorem sc_law_row_at : FnScope ["_law_script", "_law_k", "_law_bound"] ["_law_script", "_law_k", "_law_bound"] (defScope s_law_row_at) := ⟨rfl, rfl, rfl, by decide +kernel, rfl, by decide +kernel, by decide +kernel⟩
structure Os_law_row_at (P : Program) (w : World) (K : PySem.W.Frag) (mg : Str → Option Value) (base : Heap) (G : Adr) : Prop where
  law_cell_at : Ok P w K mg base 1 "_law_cell_at" ["_law_script", "_law_k"] (sp_law_cell_at K)
  law_number : Ok P w K mg base 1 "_law_number" ["_law_cell", "_law_bound"] (sp_law_number K)
theorem ok_law_row_at (D : Def K mg "_law_row_at" s_law_row_at ["_law_script", "_law_k", "_law_bound"]) (T : Txt K mg G) (O : Os_law_row_at P w K mg base G) : Ok P w K mg base 2 "_law_row_at" ["_law_script", "_law_k", "_law_bound"] (sp_law_row_at K) := by
  have S := sc_law_row_at
  refine D.ok S (fun vs H Q E h => ?_) (fun f cdv A outer s H vs Q E hr h => ?_)
  · obtain ⟨a, ns, j, b, rfl, ha, h0, hb, k⟩ := h; rfl
  · obtain ⟨a, ns, j, b, rfl, ha, h0, hb, k⟩ := h
    have hu := hu_of hr
    refine ⟨_, (pss_one (ps_ret (pe_callTy (kN_tuple K rfl) rfl T.b_tuple PyProof.Rows.boot_tuple (pa_cons (pe_comp (N := ["_law_j", "_law_bound", "_law_script", "_law_k"]) (ix := [none, some 2, some 0, some 1]) rfl (pi_range1 rfl T.b_range (pa_cons pe_int pa_nil)) (fun _ _ _ _ _ => (pg_name (i := 0) (show List.Nodup (["_law_j", "_law_bound", "_law_script", "_law_k"] : List Str) by decide +kernel) rfl (Or.inl rfl))) (fun _ _ _ _ _ => rfl) (fun _ _ _ _ _ => (pcall O.law_number (hr.mono (by decide)) (pa_cons (pcall O.law_cell_at (hr.mono (by decide)) (pa_cons (pv 2) (pa_cons (pe_op op_add (pv 3) (pv 0)) pa_nil))) (pa_cons (pv 1) pa_nil)))) rfl (by decide +kernel) (by decide +kernel) rfl ⟨⟨rfl, Or.inr (Or.inl rfl), rfl, rfl⟩, ⟨⟨rfl, Or.inr (Or.inl rfl), rfl, rfl⟩, ⟨⟨rfl, Or.inr (Or.inl rfl), rfl, rfl⟩, True.intro⟩⟩⟩) pa_nil)))), ?_⟩
    walk_at "w"
    refine rd_range5 (fun i => .int (num (ns.getD (j + i).toNat 0) b)) [some (.int b), some (.ref a), some (.int j)] rfl (fun i H' Qc hi s kc => ?_) (fun l H1 hl s1 m1 => ?_)
    · walk_at "w"
      exact kc _ (Same.refl _)
    walk_at "w"
    exact k _ _ (by walk_at "sm") (by assumption)
theorem sc_law_with : FnScope ["_law_row", "_law_other", "_law_n"] ["_law_row", "_law_other", "_law_n"] (defScope s_law_with) := ⟨rfl, rfl, rfl, by decide +kernel, rfl, by decide +kernel, by decide +kernel⟩
theorem ok_law_with (D : Def K mg "_law_with" s_law_with ["_law_row", "_law_other", "_law_n"]) (T : Txt K mg G) : Ok P w K mg base 1 "_law_with" ["_law_row", "_law_other", "_law_n"] (sp_law_with K) := by
  have S := sc_law_with
  refine D.ok S (fun vs H Q E h => ?_) (fun f cdv A outer s H vs Q E hr h => ?_)
  · obtain ⟨a, b, n, a0, a1, a2, a3, a4, b0, b1, b2, b3, b4, rfl, ha, hb, hn, k⟩ := h; rfl
  · obtain ⟨a, b, n, a0, a1, a2, a3, a4, b0, b1, b2, b3, b4, rfl, ha, hb, hn, k⟩ := h
    have hu := hu_of hr
    refine ⟨_, (pss_one (ps_ret (pe_callTy (kN_tuple K rfl) rfl T.b_tuple PyProof.Rows.boot_tuple (pa_cons (pe_comp (N := ["_law_number_here", "_law_more", "_law_n"]) (ix := [none, none, some 2]) rfl (kpi_zip2 K rfl true true rfl T.b_zip (pa_cons (pv 0) (pa_cons (pv 1) pa_nil))) (fun _ _ _ _ _ => (kpg_tup (n := 2) K rfl rfl (pgs_cons (pg_name (i := 0) (show List.Nodup (["_law_number_here", "_law_more", "_law_n"] : List Str) by decide +kernel) rfl (Or.inl rfl)) (pgs_cons (pg_name (i := 1) (show List.Nodup (["_law_number_here", "_law_more", "_law_n"] : List Str) by decide +kernel) rfl (Or.inl rfl)) pgs_nil)))) (fun _ _ _ _ _ => rfl) (fun _ _ _ _ _ => (pe_op op_add (pv 0) (pe_op op_mul (pv 2) (pv 1)))) rfl (by decide +kernel) (by decide +kernel) rfl ⟨⟨rfl, Or.inr (Or.inl rfl), rfl, rfl⟩, True.intro⟩) pa_nil)))), ?_⟩
    walk_at "w"
    refine rd_compZ (k1 := true) (k2 := true) (xs := [.int a0, .int a1, .int a2, .int a3, .int a4]) (ys := [.int b0, .int b1, .int b2, .int b3, .int b4]) [some (.int n)] (fun i => .int ([a0, a1, a2, a3, a4].getD i 0 + n * [b0, b1, b2, b3, b4].getD i 0)) rfl (sqt_sq ha) (sqt_sq hb) rfl (Nat.le_of_ble_eq_true rfl) (fun i x y H2 Qc hx hy s kc => ?_) (fun l H2 hl s m => ?_)
    · have hi : i < 5 := (List.getElem?_eq_some_iff.mp hx).1
      have hxy : x = .int ([a0, a1, a2, a3, a4].getD i 0) ∧ y = .int ([b0, b1, b2, b3, b4].getD i 0) := by
        match i, hi with
        | 0, _ | 1, _ | 2, _ | 3, _ | 4, _ =>
          cases hx
          cases hy
          exact ⟨rfl, rfl⟩
      obtain ⟨rfl, rfl⟩ := hxy
      walk_at "w"
      exact kc _ (Same.refl _)
    walk_at "w"
    rename_i p3 H3 s3 m3
    exact k _ _ (s.trans s3) (SqT.of m3)
theorem sc_law_comma : FnScope ["_law_script", "_law_k", "_law_bound", "_law_commas", "_law_kind", "_law_turn", "_law_row"] ["_law_script", "_law_k", "_law_bound", "_law_commas"] (defScope s_law_comma) := ⟨rfl, rfl, rfl, by decide +kernel, rfl, by decide +kernel, by decide +kernel⟩
structure Os_law_comma (P : Program) (w : World) (K : PySem.W.Frag) (mg : Str → Option Value) (base : Heap) (G : Adr) : Prop where
  law_cell_at : Ok P w K mg base 1 "_law_cell_at" ["_law_script", "_law_k"] (sp_law_cell_at K)
  law_row_at : Ok P w K mg base 2 "_law_row_at" ["_law_script", "_law_k", "_law_bound"] (sp_law_row_at K)
  law_with : Ok P w K mg base 1 "_law_with" ["_law_row", "_law_other", "_law_n"] (sp_law_with K)
set_option maxHeartbeats 4000000 in
theorem ok_law_comma (D : Def K mg "_law_comma" s_law_comma ["_law_script", "_law_k", "_law_bound", "_law_commas"]) (T : Txt K mg G) (O : Os_law_comma P w K mg base G) : Ok P w K mg base 3 "_law_comma" ["_law_script", "_law_k", "_law_bound", "_law_commas"] (sp_law_comma K) := by
  have S := sc_law_comma
  refine D.ok S (fun vs H Q E h => ?_) (fun f cdv A outer s H vs Q E hr h => ?_)
  · obtain ⟨a, l, ns, j, b, c, xs, rs, rfl, ha, hj, ⟨hb0, hbc⟩, hl, hrs, hc, k⟩ := h; rfl
  · obtain ⟨a, l, ns, j, b, c, xs, rs, rfl, ha, hj, ⟨hb0, hbc⟩, hl, hrs, hc, k⟩ := h
    have hu := hu_of hr
    refine ⟨_, (pss_cons (ps_set (i := 4) S.nd rfl (Or.inl rfl) (pe_op op_mod (pcall O.law_cell_at (hr.mono (by decide)) (pa_cons (pv 0) (pa_cons (pv 1) pa_nil))) pe_int)) (pss_cons (ps_set (i := 5) S.nd rfl (Or.inr rfl) (pe_op op_fdiv (pcall O.law_cell_at (hr.mono (by decide)) (pa_cons (pv 0) (pa_cons (pv 1) pa_nil))) pe_int)) (pss_cons (ps_set (i := 6) S.nd rfl (Or.inl rfl) (pcall O.law_row_at (hr.mono (by decide)) (pa_cons (pv 0) (pa_cons (pe_op op_add (pv 1) pe_int) (pa_cons (pv 2) pa_nil))))) (pss_cons (ps_if (pt_cmpR op_eq (pv 4) pe_int (nomark _)) (pss_one (ps_ret (pe_tup (pa_cons pe_int (pa_cons pe_int (pa_cons pe_int (pa_cons pe_int (pa_cons pe_int pa_nil)))))))) pss_nil) (pss_cons (ps_if (PW.pt (pw_and (pt_cmpR op_eq (pv 4) pe_int (nomark _)) (pw_and1 (pt_cmpR op_gt (pe_callB (kN_len K rfl) rfl T.b_len PySem.boot_len (pa_cons (pv 3) pa_nil)) pe_int (nomark _))))) (pss_one (ps_ret (pcall O.law_with (hr.mono (by decide)) (pa_cons (pe_tup (pa_cons pe_int (pa_cons pe_int (pa_cons pe_int (pa_cons pe_int (pa_cons pe_int pa_nil)))))) (pa_cons (pe_ix (kx_seq K rfl) (pv 3) (pe_op op_mod (pv 5) (pe_callB (kN_len K rfl) rfl T.b_len PySem.boot_len (pa_cons (pv 3) pa_nil))) (fun _ _ => rfl)) (pa_cons (pe_op op_sub (pe_op op_mod (pe_op op_fdiv (pv 5) pe_int) pe_int) pe_int) pa_nil)))))) pss_nil) (pss_cons (ps_if (pt_cmpR op_eq (pv 4) pe_int (nomark _)) (pss_one (ps_ret (pcall O.law_with (hr.mono (by decide)) (pa_cons (pv 6) (pa_cons (pv 6) (pa_cons (pe_op op_add pe_int (pe_op op_mod (pv 5) pe_int)) pa_nil)))))) pss_nil) (pss_cons (ps_if (pt_cmpR op_eq (pv 4) pe_int (nomark _)) (pss_one (ps_ret (pe_callTy (kN_tuple K rfl) rfl T.b_tuple PyProof.Rows.boot_tuple (pa_cons (pe_comp (N := ["_law_j", "_law_number_here", "_law_turn"]) (ix := [none, none, some 5]) rfl (kpi_enum K rfl true rfl T.b_enumerate (pa_cons (pv 6) pa_nil)) (fun _ _ _ _ _ => (kpg_tup (n := 2) K rfl rfl (pgs_cons (pg_name (i := 0) (show List.Nodup (["_law_j", "_law_number_here", "_law_turn"] : List Str) by decide +kernel) rfl (Or.inl rfl)) (pgs_cons (pg_name (i := 1) (show List.Nodup (["_law_j", "_law_number_here", "_law_turn"] : List Str) by decide +kernel) rfl (Or.inl rfl)) pgs_nil)))) (fun _ _ _ _ _ => rfl) (fun _ _ _ _ _ => (pe_op op_mul (pv 1) (pe_callTy callN_int rfl T.b_int PyProof.Rows.boot_int (pa_cons (pe_cmpR (kop_in K rfl) (pv 0) (pe_tup (pa_cons (pe_op op_mod (pv 2) pe_int) (pa_cons (pe_op op_mod (pe_op op_fdiv (pv 2) pe_int) pe_int) pa_nil))) (by with_unfolding_all rfl)) pa_nil)))) rfl (by decide +kernel) (by decide +kernel) rfl ⟨⟨rfl, Or.inr (Or.inl rfl), rfl, rfl⟩, True.intro⟩) pa_nil)))) pss_nil) (pss_one (ps_ret (pv 6)))))))))), ?_⟩
    walk_at "w"
    rename_i p1 H1 s1 m1
    have rb := rowI_b ns (j + 1) hb0
    generalize rowI ns (j + 1) b = rw1 at m1 rb
    generalize ns.getD j.toNat 0 = cc
    obtain ⟨a0, a1, a2, a3, a4, rfl, ⟨u0, v0⟩, ⟨u1, v1⟩, ⟨u2, v2⟩, ⟨u3, v3⟩, ⟨u4, v4⟩⟩ := rb
    refine if_both (fun h4 => ?_) (fun h4 => ?_)
    · walk_at "w"
      rename_i p2 H2 s2 m2
      exact k _ [0, 0, 0, 0, 0] _ (by walk_at "sm") (SqT.of m2) ⟨0, 0, 0, 0, 0, rfl, by omega, by omega, by omega, by omega, by omega⟩
    walk_at "j"
    refine join (fun σ' H' => σ' = [some (.ref a), some (.int j), some (.int b), some (.ref l), some (.int (cc % 8)), some (.int (cc / 8)), some (.ref p1)] ∧ H' = H1) (fun nx hnx => ?_) (fun σ' H' hP => ?_)
    · walk_at "w"
      refine if_both (fun h5 => ?_) (fun h5 => ?_)
      · walk_at "w"
        refine if_both (fun h6 => ?_) (fun h6 => ?_)
        · have hpos : 0 < xs.length := by simpa using h6
          have hm0 : 0 ≤ cc / 8 % (xs.length : Int) := Int.emod_nonneg _ (by omega)
          have hm1 : cc / 8 % (xs.length : Int) < xs.length := Int.emod_lt_of_pos _ (by omega)
          walk_at "v"
          rename_i p2 H2 s2 m2
          obtain ⟨jj, ej⟩ := Int.eq_ofNat_of_zero_le hm0
          rw [ej] at hm1 ⊢
          have hjl : jj < xs.length := by omega
          obtain ⟨a9, r, ex, hr9, hi9⟩ := hrs.get (List.getElem?_eq_getElem hjl)
          refine r_ixL (by walk_at "hf") (atI_nat (List.getElem?_eq_getElem hjl)) ?_
          rw [ex]
          have hr8 := s2.at (s1.at hr9)
          obtain ⟨b0, b1, b2, b3, b4, rfl, w0, w1, w2, w3, w4⟩ := hc r (mem_of hi9)
          have hn : -2 ≤ cc / 8 / 6 % 5 - 2 ∧ cc / 8 / 6 % 5 - 2 ≤ 2 := by omega
          walk_at "w"
          refine c_law_with (SqT.of m2) hr8 (by omega) fun p3 H3 s3 m3 => ?_
          exact k _ _ _ (by walk_at "sm") m3 ⟨_, _, _, _, _, rfl, mul_two hn w0, mul_two hn w1, mul_two hn w2, mul_two hn w3, mul_two hn w4⟩
        · exact hnx _ _ ⟨rfl, rfl⟩
      · exact hnx _ _ ⟨rfl, rfl⟩
    obtain ⟨rfl, rfl⟩ := hP
    walk_at "w"
    refine if_both (fun h6 => ?_) (fun h6 => ?_)
    · have hn : 1 ≤ 1 + cc / 8 % 3 ∧ 1 + cc / 8 % 3 ≤ 3 := by omega
      walk_at "w"
      refine c_law_with (SqT.of m1) (SqT.of m1) (by omega) fun p3 H3 s3 m3 => ?_
      exact k _ _ _ (by walk_at "sm") m3 ⟨_, _, _, _, _, rfl, mul_four hn ⟨u0, v0⟩ hbc, mul_four hn ⟨u1, v1⟩ hbc, mul_four hn ⟨u2, v2⟩ hbc, mul_four hn ⟨u3, v3⟩ hbc, mul_four hn ⟨u4, v4⟩ hbc⟩
    walk_at "w"
    refine if_both (fun h7 => ?_) (fun h7 => ?_)
    · walk_at "w"
      refine rd_compN (k := true) (xs := [V.int a0, V.int a1, V.int a2, V.int a3, V.int a4]) [some (.int (cc / 8))] (fun i => .int ([a0, a1, a2, a3, a4].getD i 0 * (if inV (.int i) [.int (cc / 8 % 5), .int (cc / 8 / 5 % 5)] = true then 1 else 0))) rfl (sqt_sq (SqT.of m1)) (Nat.le_of_ble_eq_true rfl) (fun i x H2 Qc hx s kc => ?_) (fun p2 H2 np s m => ?_)
      · have hi : i < 5 := (List.getElem?_eq_some_iff.mp hx).1
        have hxy : x = .int ([a0, a1, a2, a3, a4].getD i 0) := by
          match i, hi with
          | 0, _ | 1, _ | 2, _ | 3, _ | 4, _ =>
            cases hx
            exact rfl
        subst hxy
        walk_at "w"
        exact kc _ (by walk_at "sm")
      · walk_at "w"
        rename_i p3 H3 s3 m3
        exact k _ [_, _, _, _, _] _ (by walk_at "sm") (SqT.of m3) ⟨_, _, _, _, _, rfl, mul_bit ⟨u0, v0⟩ hbc, mul_bit ⟨u1, v1⟩ hbc, mul_bit ⟨u2, v2⟩ hbc, mul_bit ⟨u3, v3⟩ hbc, mul_bit ⟨u4, v4⟩ hbc⟩
    walk_at "w"
    exact k _ _ _ s1 (SqT.of m1) ⟨a0, a1, a2, a3, a4, rfl, by omega, by omega, by omega, by omega, by omega⟩
theorem sc_law_ring : FnScope ["_law_cell"] ["_law_cell"] (defScope s_law_ring) := ⟨rfl, rfl, rfl, by decide +kernel, rfl, by decide +kernel, by decide +kernel⟩
theorem ok_law_ring (D : Def K mg "_law_ring" s_law_ring ["_law_cell"]) (T : Txt K mg G) : Ok P w K mg base 1 "_law_ring" ["_law_cell"] (sp_law_ring K) := by
  have S := sc_law_ring
  refine D.ok S (fun vs H Q E h => ?_) (fun f cdv A outer s H vs Q E hr h => ?_)
  · obtain ⟨c, rfl, k⟩ := h; rfl
  · obtain ⟨c, rfl, k⟩ := h
    have hu := hu_of hr
    refine ⟨_, (pss_cons (ps_if (pt_cmpR op_lt (pe_op op_mod (pv 0) pe_int) pe_int (nomark _)) (pss_one (ps_ret pe_int)) pss_nil) (pss_one (ps_ret (pe_op op_add pe_int (pe_op op_mod (pe_op op_fdiv (pv 0) pe_int) pe_int))))), ?_⟩
    walk_at "w"
    refine if_both (fun h1 => ?_) (fun h1 => ?_)
    · walk_at "w"
      exact k _ (.inl rfl)
    walk_at "w"
    exact k _ (.inr (by omega))
theorem sc_law_keys : FnScope ["_law_script", "_law_most", "_law_head", "_law_bound", "_law_rows", "_law_keys_here", "_law_at"] ["_law_script", "_law_most"] (defScope s_law_keys) := ⟨rfl, rfl, rfl, by decide +kernel, rfl, by decide +kernel, by decide +kernel⟩
structure Os_law_keys (P : Program) (w : World) (K : PySem.W.Frag) (mg : Str → Option Value) (base : Heap) (G : Adr) : Prop where
  law_cell_at : Ok P w K mg base 1 "_law_cell_at" ["_law_script", "_law_k"] (sp_law_cell_at K)
  law_comma : Ok P w K mg base 3 "_law_comma" ["_law_script", "_law_k", "_law_bound", "_law_commas"] (sp_law_comma K)
  law_ring : Ok P w K mg base 1 "_law_ring" ["_law_cell"] (sp_law_ring K)
set_option maxHeartbeats 4000000 in
theorem ok_law_keys (D : Def K mg "_law_keys" s_law_keys ["_law_script", "_law_most"]) (T : Txt K mg G) (O : Os_law_keys P w K mg base G) : Ok P w K mg base 4 "_law_keys" ["_law_script", "_law_most"] (sp_law_keys K) := by
  have S := sc_law_keys
  refine D.ok S (fun vs H Q E h => ?_) (fun f cdv A outer s H vs Q E hr h => ?_)
  · obtain ⟨a, ns, rfl, ha, k⟩ := h; rfl
  · obtain ⟨a, ns, rfl, ha, k⟩ := h
    have hu := hu_of hr
    refine ⟨_, (pss_cons (ps_set (i := 2) S.nd rfl (Or.inl rfl) (pcall O.law_cell_at (hr.mono (by decide)) (pa_cons (pv 0) (pa_cons pe_int pa_nil)))) (pss_cons (ps_set (i := 3) S.nd rfl (Or.inl rfl) pe_int) (pss_cons (ps_if (pt_cmpR op_eq (pe_op op_mod (pe_op op_fdiv (pv 2) pe_int) pe_int) pe_int (nomark _)) (pss_one (ps_set (i := 3) S.nd rfl (Or.inl rfl) pe_int)) pss_nil) (pss_cons (ps_set (i := 4) S.nd rfl (Or.inl rfl) (pe_lst pa_nil)) (pss_cons (ps_set (i := 5) S.nd rfl (Or.inl rfl) (pe_lst pa_nil)) (pss_cons (ps_for PassesOwn.never rfl (pi_range1 rfl T.b_range (pa_cons (pe_callB (callN_min rfl) rfl T.b_min PyProof.Rows.boot_min (pa_cons (pe_op op_mod (pv 2) pe_int) (pa_cons (pv 1) pa_nil))) pa_nil)) (pg_name (i := 6) S.nd rfl (Or.inl rfl)) (pss_cons (ps_expr (pe_bm PySem.F.plainAttrs_list PySem.F.slot_list_append PySem.F.type_list_append mt_append (pv 4) (pa_cons (pcall O.law_comma (hr.mono (by decide)) (pa_cons (pv 0) (pa_cons (pe_op op_add pe_int (pe_op op_mul pe_int (pv 6))) (pa_cons (pv 3) (pa_cons (pv 4) pa_nil))))) pa_nil))) (pss_one (ps_expr (pe_bm PySem.F.plainAttrs_list PySem.F.slot_list_append PySem.F.type_list_append mt_append (pv 5) (pa_cons (pe_tup (pa_cons (pe_ix (kx_seq K rfl) (pv 4) (pv 6) (fun _ _ => rfl)) (pa_cons (pcall O.law_ring (hr.mono (by decide)) (pa_cons (pcall O.law_cell_at (hr.mono (by decide)) (pa_cons (pv 0) (pa_cons (pe_op op_add pe_int (pe_op op_mul pe_int (pv 6))) pa_nil))) pa_nil)) pa_nil))) pa_nil)))))) (pss_one (ps_ret (pv 5))))))))), ?_⟩
    walk_at "j"
    generalize ns.getD (Int.toNat 0) 0 = h
    refine join (fun σ' H' => ∃ bd : Int, σ' = [some (.ref a), some (.int 6), some (.int h), some (.int bd), none, none, none] ∧ H' = H ∧ (0 ≤ bd ∧ 4 * bd ≤ 400)) (fun nx hnx => ?_) (fun σ' H' hP => ?_)
    · walk_at "w"
      refine if_both (fun h4 => ?_) (fun h4 => ?_)
      · walk_at "w"
        exact hnx _ _ ⟨99, rfl, rfl, by decide, by decide⟩
      · walk_at "w"
        exact hnx _ _ ⟨9, rfl, rfl, by decide, by decide⟩
    obtain ⟨bd, rfl, rfl, hb0, hb1⟩ := hP
    walk_at "w"
    rename_i l1 H1 n1 s1 m1 l2 H2 n2 s2 m2
    have ne12 : l1 ≠ l2 := fun z => by rw [z, n2] at m1; cases m1
    have n2' : H' l2 = none := by
      match e : H' l2 with
      | none => rfl
      | some o => have q := s1 _ _ e; rw [n2] at q; cases q
    refine f_invR (fun i σ H3 => ∃ (o : Option V) (xs ys : List V) (rs : List (List Int)) (ks : List (List Int × Int)), σ = [some (.ref a), some (.int 6), some (.int h), some (.int bd), some (.ref l1), some (.ref l2), o] ∧ Same H' H3 ∧ H3 l1 = some (.lst xs) ∧ H3 l2 = some (.lst ys) ∧ RowsL K H3 xs rs ∧ KeysL K H3 ys ks ∧ xs.length = i ∧ ks.length = i ∧ (∀ r ∈ rs, R5B (400 * 2 ^ i) r) ∧ ∀ k ∈ ks, GoodK k) ⟨_, [], [], [], [], rfl, s1.trans s2, s2 _ _ m1, m2, .nil, .nil, rfl, rfl, (fun _ z => nomatch z), fun _ z => nomatch z⟩ (fun i σ H3 hi hp => ?_) (fun σ H3 hp => ?_)
    · obtain ⟨o, xs, ys, rs, ks, rfl, s3, e1, e2, hr3, hk3, hx, hkl, hb, hg⟩ := hp
      have hi6 : i < 6 := by revert hi; split <;> omega
      have hz : (1 : Int) ≤ 2 ^ i ∧ (2 : Int) ^ i ≤ 32 := by
        match i, hi6 with
        | 0, _ | 1, _ | 2, _ | 3, _ | 4, _ | 5, _ => exact ⟨by decide, by decide⟩
      have hz2 : (2 : Int) ^ (i + 1) = 2 ^ i * 2 := Int.pow_succ _ _
      have hz3 : (25600 : Int) < 2 ^ 100 := by decide
      rw [hz2]
      generalize (2 : Int) ^ i = z at hz hb
      have ha3 := s3.seq ha
      walk_at "w"
      refine c_law_comma (c := 400 * z) ha3 (by omega) ⟨hb0, by omega⟩ (SqL.of e1) hr3 hb fun p r H4 s4 m4 b4 => ?_
      walk_at "w"
      refine r_append (s4 _ _ e1) (by omega) ?_
      have s5 := (s3.trans s4).upd_old (o := .lst (xs ++ [.ref p])) n1
      have e15 : (upd H4 l1 (.lst (xs ++ [.ref p]))) l1 = some (.lst (xs ++ [.ref p])) := upd_same
      have e25 : (upd H4 l1 (.lst (xs ++ [.ref p]))) l2 = some (.lst ys) := by rw [upd_ne (Ne.symm ne12)]; exact s4 _ _ e2
      have hr5 := ((hr3.same s4).off (zs := xs ++ [.ref p]) (s4 _ _ e1)).snoc (upd_sqT m4 (s4 _ _ e1))
      have hk5 := (hk3.same s4).off (zs := xs ++ [.ref p]) (s4 _ _ e1)
      have hp5 := upd_sqT (zs := xs ++ [.ref p]) m4 (s4 _ _ e1)
      generalize upd H4 l1 (.lst (xs ++ [.ref p])) = H5 at s5 e15 e25 hr5 hk5 hp5 ⊢
      have ha5 := s5.seq ha
      walk_at "v"
      rw [Int.zero_add]
      refine r_ixL (SqL.of e15) (atI_nat (cat_last hx)) ?_
      walk_at "w"
      refine c_law_ring fun m hm => ?_
      walk_at "w"
      rename_i p6 H6 s6 m6
      have e26 := s6 _ _ e25
      refine r_append e26 (by have := hk3.length; omega) ?_
      refine ⟨_, xs ++ [.ref p], ys ++ [.ref p6], rs ++ [r], ks ++ [(r, m)], rfl, (s5.trans s6).upd_old n2', by rw [upd_ne ne12]; exact s6 _ _ e15, upd_same, (hr5.same s6).off e26, ((hk5.same s6).off e26).snoc (upd_sqT (SqT.of m6) e26) (upd_sqT (s6.at hp5) e26), by simp [hx], by simp [hkl], fun q hq => ?_, fun q hq => ?_⟩
      · rcases List.mem_append.mp hq with y | y
        · exact (hb q y).mono (by omega)
        · rw [List.mem_singleton.mp y]
          exact b4.mono (by omega)
      · rcases List.mem_append.mp hq with y | y
        · exact hg q y
        · rw [List.mem_singleton.mp y]
          exact ⟨b4.length, b4.few (by omega), hm⟩
    · obtain ⟨o, xs, ys, rs, ks, rfl, s3, e1, e2, hr3, hk3, hx, hkl, hb, hg⟩ := hp
      walk_at "w"
      exact k _ _ ys ks s3 e2 hk3 (by rw [hkl]; split <;> omega) hg
theorem sc_law_sum : FnScope ["_law_key", "_law_row", "_law_total"] ["_law_key", "_law_row"] (defScope s_law_sum) := ⟨rfl, rfl, rfl, by decide +kernel, rfl, by decide +kernel, by decide +kernel⟩
theorem ok_law_sum (D : Def K mg "_law_sum" s_law_sum ["_law_key", "_law_row"]) (T : Txt K mg G) : Ok P w K mg base 1 "_law_sum" ["_law_key", "_law_row"] (sp_law_sum K) := by
  have S := sc_law_sum
  refine D.ok S (fun vs H Q E h => ?_) (fun f cdv A outer s H vs Q E hr h => ?_)
  · obtain ⟨kk, w, r, m, ws, rs, rfl, hk, hw, hra, hl, hn, hm, h0, k⟩ := h; rfl
  · obtain ⟨kk, w, r, m, ws, rs, rfl, hk, hw, hra, hl, hn, hm, h0, k⟩ := h
    have hu := hu_of hr
    refine ⟨_, (pss_cons (ps_set (i := 2) S.nd rfl (Or.inl rfl) (pe_callB (kN_sum K rfl rfl) rfl T.b_sum PyProof.Rows.boot_sum (pa_cons (pe_comp (N := ["_law_one", "_law_other"]) (ix := [none, none]) rfl (kpi_zip2 K rfl true true rfl T.b_zip (pa_cons (pe_ix (kx_seq K rfl) (pv 0) pe_int (fun _ _ => rfl)) (pa_cons (pv 1) pa_nil))) (fun _ _ _ _ _ => (kpg_tup (n := 2) K rfl rfl (pgs_cons (pg_name (i := 0) (show List.Nodup (["_law_one", "_law_other"] : List Str) by decide +kernel) rfl (Or.inl rfl)) (pgs_cons (pg_name (i := 1) (show List.Nodup (["_law_one", "_law_other"] : List Str) by decide +kernel) rfl (Or.inl rfl)) pgs_nil)))) (fun _ _ _ _ _ => rfl) (fun _ _ _ _ _ => (pe_op op_mulB (pv 0) (pv 1))) rfl (by decide +kernel) (by decide +kernel) rfl True.intro) pa_nil))) (pss_cons (ps_if (pt_cmpR op_eq (pe_ix (kx_seq K rfl) (pv 0) pe_int (fun _ _ => rfl)) pe_int (nomark _)) (pss_one (ps_ret (pv 2))) pss_nil) (pss_one (ps_ret (pe_op op_mod (pv 2) (pe_ix (kx_seq K rfl) (pv 0) pe_int (fun _ _ => rfl))))))), ?_⟩
    walk_at "w"
    refine rd_zipM (r := ws) (q := rs) rfl (by walk_at "hf") (by walk_at "hf") hl.symm (by omega) (fun i hi => by have := hm i (by omega); unfold CMulB at this ⊢; omega) fun l H1 hl1 s1 m1 => ?_
    have ed : (List.zipWith (· * ·) ws rs).sum = dot rs ws := dot_comm ws rs
    walk_at "w"
    refine r_sum (SqL.of m1) ?_
    rw [ed]
    walk_at "w"
    refine if_both (fun hc => ?_) (fun hc => ?_)
    · walk_at "w"
      unfold val at k
      rw [if_pos (of_decide_eq_true hc)] at k
      exact k _ s1
    · have hz : m ≠ 0 := of_decide_eq_false hc
      unfold val at k
      rw [if_neg hz] at k
      walk_at "w"
      exact k _ s1
theorem sc_law_right : FnScope ["_law_found", "_law_keys_here", "_law_row"] ["_law_found", "_law_keys_here", "_law_row"] (defScope s_law_right) := ⟨rfl, rfl, rfl, by decide +kernel, rfl, by decide +kernel, by decide +kernel⟩
structure Os_law_right (P : Program) (w : World) (K : PySem.W.Frag) (mg : Str → Option Value) (base : Heap) (G : Adr) : Prop where
  law_whole : Ok P w K mg base 1 "_law_whole" ["_law_thing"] (sp_law_whole K)
  law_sum : Ok P w K mg base 1 "_law_sum" ["_law_key", "_law_row"] (sp_law_sum K)
theorem ok_law_right (D : Def K mg "_law_right" s_law_right ["_law_found", "_law_keys_here", "_law_row"]) (T : Txt K mg G) (O : Os_law_right P w K mg base G) : Ok P w K mg base 2 "_law_right" ["_law_found", "_law_keys_here", "_law_row"] (sp_law_right K) := by
  have S := sc_law_right
  refine D.ok S (fun vs H Q E h => ?_) (fun f cdv A outer s H vs Q E hr h => ?_)
  · obtain ⟨f, l, r, ys, ks, rs, rfl, hv, hl, hk, hn, hg, hra, h5, hf, k⟩ := h; rfl
  · obtain ⟨f, l, r, ys, ks, rs, rfl, hv, hl, hk, hn, hg, hra, h5, hf, k⟩ := h
    have hu := hu_of hr
    refine ⟨_, (pss_cons (ps_if (PW.pt (pw_or (pt_not (pt_val (pe_callB (kN_isinst K rfl) rfl T.b_isinstance PyProof.Rows.boot_isinstance (pa_cons (pv 0) (pa_cons (pe_bltn (v := V.ty "tuple") rfl T.b_tuple PyProof.Rows.boot_tuple rfl) pa_nil))))) (pw_or1 (pt_cmpR op_ne (pe_callB (kN_len K rfl) rfl T.b_len PySem.boot_len (pa_cons (pv 0) pa_nil)) (pe_callB (kN_len K rfl) rfl T.b_len PySem.boot_len (pa_cons (pv 1) pa_nil)) (nomark _))))) (pss_one (ps_ret pe_bl)) pss_nil) (pss_one (ps_ret (pe_callB (kN_all K rfl rfl) rfl T.b_all PyProof.Rows.boot_all (pa_cons (pe_comp (N := ["_law_one", "_law_key", "_law_row"]) (ix := [none, none, some 2]) rfl (kpi_zip2 K rfl true false rfl T.b_zip (pa_cons (pv 0) (pa_cons (pv 1) pa_nil))) (fun _ _ _ _ _ => (kpg_tup (n := 2) K rfl rfl (pgs_cons (pg_name (i := 0) (show List.Nodup (["_law_one", "_law_key", "_law_row"] : List Str) by decide +kernel) rfl (Or.inl rfl)) (pgs_cons (pg_name (i := 1) (show List.Nodup (["_law_one", "_law_key", "_law_row"] : List Str) by decide +kernel) rfl (Or.inl rfl)) pgs_nil)))) (fun _ _ _ _ _ => rfl) (fun _ _ _ _ _ => (pe_and (pcall O.law_whole (hr.mono (by decide)) (pa_cons (pv 0) pa_nil)) (pe_one (pe_cmpR op_eq (pv 0) (pcall O.law_sum (hr.mono (by decide)) (pa_cons (pv 1) (pa_cons (pv 2) pa_nil))) (nomark _))))) rfl (by decide +kernel) (by decide +kernel) rfl ⟨⟨rfl, Or.inr (Or.inl rfl), rfl, rfl⟩, True.intro⟩) pa_nil))))), ?_⟩
    have hy := hk.length
    have hvl : ((vals ks rs).map V.int).length = ys.length := by simp [vals, hy]
    walk_at "w"
    refine if_ff rfl ?_
    walk_at "w"
    refine if_ff (by simp [vals, hy]) ?_
    walk_at "w"
    refine rd_compZ (k1 := true) (k2 := false) (xs := (vals ks rs).map V.int) (ys := ys) [some (.ref r)] (fun _ => .bl true) rfl (sqt_sq hv) (sql_sq hl) hvl (by omega) (fun i x y H2 Qc hx hyy s kc => ?_) (fun p H2 np s m => ?_)
    · obtain ⟨ad, w, kk, rfl, h1, h2, h3⟩ := hk.get hyy
      have g := hg kk (mem_of h3)
      have ex : x = .int (val kk.1 kk.2 rs) := by
        rw [vals, List.map_map, List.getElem?_map, h3] at hx
        exact (Option.some.inj hx).symm
      subst ex
      walk_at "w"
      refine iteT ?_
      walk_at "w"
      refine c_law_sum kk.1 rs (s.at h1) (s.at h2) (s.at hra) (by rw [h5, g.1]) (by omega) (g.mul h5 hf) (by have := g.2.2; omega) fun H3 s3 => ?_
      walk_at "w"
      rw [decide_eq_true rfl]
      exact kc _ s3
    · have e : (List.range ((vals ks rs).map V.int).length).map (fun _ => V.bl true) = (List.replicate ((vals ks rs).map V.int).length true).map V.bl := by rw [List.map_const', List.length_range, List.map_replicate]
      rw [e] at m
      walk_at "w"
      refine r_all (SqL.of m) ?_
      rw [all_true]
      exact k _ s
theorem sc_law : FnScope ["_law_script", "_law_keys_here", "_law_row", "_law_far", "_law_handed"] ["_law_script"] (defScope s_law) := ⟨rfl, rfl, rfl, by decide +kernel, rfl, by decide +kernel, by decide +kernel⟩
structure Os_law (P : Program) (w : World) (K : PySem.W.Frag) (mg : Str → Option Value) (base : Heap) (G : Adr) : Prop where
  values : Ok P w K mg base 3 "values" ["keys", "row"] (sp_values K)
  law_cell_at : Ok P w K mg base 1 "_law_cell_at" ["_law_script", "_law_k"] (sp_law_cell_at K)
  law_row_at : Ok P w K mg base 2 "_law_row_at" ["_law_script", "_law_k", "_law_bound"] (sp_law_row_at K)
  law_ring : Ok P w K mg base 1 "_law_ring" ["_law_cell"] (sp_law_ring K)
  law_keys : Ok P w K mg base 4 "_law_keys" ["_law_script", "_law_most"] (sp_law_keys K)
  law_right : Ok P w K mg base 2 "_law_right" ["_law_found", "_law_keys_here", "_law_row"] (sp_law_right K)
set_option maxHeartbeats 8000000 in
theorem fn_law {f : Addr} {fd : FuncData} (F : Fun K "law" "law" s_law f fd) (T : Txt K mg G) (O : Os_law P w K mg base G) : FnOk P w K mg base CX0 5 f fd ["_law_script"] (spLaw K) := by
  have S := sc_law
  refine F.ok S (fun vs H Q E h => ?_) (fun cdv A outer s H vs Q E hr h => ?_)
  · obtain ⟨a, ns, rfl, hS, hlen, k⟩ := h; rfl
  · obtain ⟨a, ns, rfl, hS, hlen, k⟩ := h
    have hu := hu_of hr
    refine ⟨_, (pss_cons (ps_set (i := 1) S.nd rfl (Or.inl rfl) (pcall O.law_keys (hr.mono (by decide)) (pa_cons (pv 0) (pa_cons pe_int pa_nil)))) (pss_cons (ps_set (i := 2) S.nd rfl (Or.inl rfl) (pcall O.law_row_at (hr.mono (by decide)) (pa_cons (pv 0) (pa_cons pe_int (pa_cons pe_int pa_nil))))) (pss_cons (ps_set (i := 3) S.nd rfl (Or.inl rfl) (pcall O.law_row_at (hr.mono (by decide)) (pa_cons (pv 0) (pa_cons pe_int (pa_cons (pe_op op_sub (pe_op op_pow pe_int pe_int) pe_int) pa_nil))))) (pss_cons (ps_set (i := 4) S.nd rfl (Or.inl rfl) (pe_callTy (kN_list K rfl) rfl T.b_list PyProof.Rows.boot_list (pa_cons (pv 1) pa_nil))) (pss_cons (ps_if (PW.pt (pw_or (pt_not (pt_val (pcall O.law_right (hr.mono (by decide)) (pa_cons (pcall O.values (hr.mono (by decide)) (pa_cons (pv 4) (pa_cons (pv 2) pa_nil))) (pa_cons (pv 1) (pa_cons (pv 2) pa_nil)))))) (pw_or1 (pt_not (pt_val (pcall O.law_right (hr.mono (by decide)) (pa_cons (pcall O.values (hr.mono (by decide)) (pa_cons (pv 4) (pa_cons (pv 3) pa_nil))) (pa_cons (pv 1) (pa_cons (pv 3) pa_nil))))))))) (pss_one (ps_ret pe_bl)) pss_nil) (pss_cons (ps_if (pt_cmpR (kop_neD K rfl hr.units) (pv 4) (pv 1) (nomark _)) (pss_one (ps_ret pe_bl)) pss_nil) (pss_cons (ps_set (i := 4) S.nd rfl (Or.inl rfl) (pe_op op_cat (pe_slice (ksl_list K rfl) (kpe_revL K rfl rfl (pv 1) rfl rfl T.b_list T.b_reversed) po_none (po_some pe_int)) (pe_lst (pa_cons (pe_tup (pa_cons (pe_tup (pa_cons pe_int (pa_cons pe_int (pa_cons pe_int (pa_cons pe_int (pa_cons pe_int pa_nil)))))) (pa_cons (pcall O.law_ring (hr.mono (by decide)) (pa_cons (pcall O.law_cell_at (hr.mono (by decide)) (pa_cons (pv 0) (pa_cons pe_int pa_nil))) pa_nil)) pa_nil))) pa_nil)))) (pss_one (ps_ret (pcall O.law_right (hr.mono (by decide)) (pa_cons (pcall O.values (hr.mono (by decide)) (pa_cons (pv 4) (pa_cons (pv 2) pa_nil))) (pa_cons (pv 4) (pa_cons (pv 2) pa_nil))))))))))))), ?_⟩
    walk_at "w"
    refine c_law_keys hS fun l H1 ys ks s1 m1 hk hn hg => ?_
    walk_at "w"
    rename_i pr H2 s2 mr pf H3 s3 mf ph H4 n4 s4 mh
    have fr : Few 100 (rowI ns 43 9) := rowI_few ns 43 (by decide) (by decide)
    have ff : Few 100 (rowI ns 48 (10 ^ Int.toNat 25 - 1)) := rowI_few ns 48 (by decide) (by decide)
    have ml : H4 l = some (.lst ys) := s4 _ _ (s3 _ _ (s2 _ _ m1))
    have mr4 : SqT K H4 pr ((rowI ns 43 9).map V.int) := SqT.of (s4 _ _ (s3 _ _ mr))
    have mf4 : SqT K H4 pf ((rowI ns 48 (10 ^ Int.toNat 25 - 1)).map V.int) := SqT.of (s4 _ _ mf)
    have hk4 := hk.same ((s2.trans s3).trans s4)
    have ha4 := ((s1.trans s2).trans (s3.trans s4)).seq hS
    refine c_values (SqL.of mh) hk4 hn hg mr4 rfl fr fun p5 H5 s5 m5 => ?_
    walk_at "w"
    refine c_law_right (SqT.of m5) (SqL.of (s5 _ _ ml)) (hk4.same s5) hn hg (s5.at mr4) rfl fr fun H6 s6 => ?_
    have s46 := s5.trans s6
    walk_at "w"
    refine if_ff rfl ?_
    walk_at "w"
    refine c_values (SqL.of (s46 _ _ mh)) (hk4.same s46) hn hg (s46.at mf4) rfl ff fun p7 H7 s7 m7 => ?_
    walk_at "w"
    have s47 := s46.trans s7
    refine c_law_right (SqT.of m7) (SqL.of (s47 _ _ ml)) (hk4.same s47) hn hg (s47.at mf4) rfl ff fun H8 s8 => ?_
    have s48 := s47.trans s8
    walk_at "w"
    refine if_ff rfl ?_
    walk_at "w"
    refine r_neD (.lst (SqL.of (s48 _ _ mh)) (hk4.same s48).tells) (.lst (SqL.of (s48 _ _ ml)) (hk4.same s48).tells) (shaped_keys ks) (shaped_keys ks) ?_
    rw [eqv_listK]
    walk_at "w"
    refine if_ff rfl ?_
    have ml8 := s48 _ _ ml
    have mr8 := s48.at mr4
    have ha8 := s48.seq ha4
    have hk8 := hk4.same s48
    clear s48 s47 s46 s8 s7 s6 s5 s4 s3 s2 s1
    walk_at "w"
    rename_i pv Hv nv sv mv
    refine r_slHi (j := 5) (SqL.of mv) fun pz Hz nz sz mz => ?_
    have s9 := sv.trans sz
    have ha9 := s9.seq ha8
    walk_at "w"
    refine c_law_ring fun m hm => ?_
    walk_at "w"
    rename_i pw Hw sw mw pk Hk sk mk pl Hl nl sl ml2 pc Hc nc sc mc
    have hkz := (hk8.reverse.take 5).same s9
    have hkc := (hkz.same (((sw.trans sk).trans sl).trans sc)).snoc (r := [1, 2, 3, 4, 5]) (SqT.of (sc _ _ (sl _ _ mk))) (SqT.of (sc _ _ (sl _ _ (sk _ _ mw))))
    have hgc : ∀ k ∈ ks.reverse.take 5 ++ [([1, 2, 3, 4, 5], m)], GoodK k := fun q hq => by
      rcases List.mem_append.mp hq with y | y
      · exact hg q (List.mem_reverse.mp (List.mem_of_mem_take y))
      · rw [List.mem_singleton.mp y]
        exact ⟨rfl, R5B.few (b := 5) ⟨_, _, _, _, _, rfl, by decide, by decide, by decide, by decide, by decide⟩ (by decide), hm⟩
    have hnc : (ks.reverse.take 5 ++ [([1, 2, 3, 4, 5], m)]).length ≤ 6 := by simp; omega
    have mrc := ((((s9.trans sw).trans sk).trans sl).trans sc).at mr8
    refine c_values (SqL.of mc) hkc hnc hgc mrc rfl fr fun p10 H10 s10 m10 => ?_
    walk_at "w"
    refine c_law_right (SqT.of m10) (SqL.of (s10 _ _ mc)) (hkc.same s10) hnc hgc (s10.at mrc) rfl fr fun H11 s11 => ?_
    exact k _
end
theorem all_mk {l : PySem.W.OpenLaw} {w : World} {K : PySem.W.Frag} {h : Heap} {mg : Str → Option Value} {fa : Addr} (X : K.In h) (G0 : h.Ns mainGlobals mg) (hfa : mg "law" = some (.ref fa)) {f0 f1 f2 f3 f4 f5 f6 f7 f8 f9 f10 f11 f12 f13 f14 : Addr} {od0 an0 od1 an1 od2 an2 od3 an3 od4 an4 od5 an5 od6 an6 od7 an7 od8 an8 od9 an9 od10 an10 od11 an11 od12 an12 od13 an13 od14 an14 : Option Addr} {sl0 sl1 sl2 sl3 sl4 sl5 sl6 sl7 sl8 sl9 sl10 sl11 sl12 sl13 sl14 : Array (Option Value)} {oc0 kV0 dc0 pm0 cd0 ct0 oc1 kV1 dc1 pm1 cd1 ct1 oc2 kV2 dc2 pm2 cd2 ct2 oc3 kV3 dc3 pm3 cd3 ct3 oc4 kV4 dc4 pm4 cd4 ct4 oc5 kV5 dc5 pm5 cd5 ct5 oc6 kV6 dc6 pm6 cd6 ct6 oc7 kV7 dc7 pm7 cd7 ct7 oc8 kV8 dc8 pm8 cd8 ct8 oc9 kV9 dc9 pm9 cd9 ct9 oc10 kV10 dc10 pm10 cd10 ct10 oc11 kV11 dc11 pm11 cd11 ct11 oc12 kV12 dc12 pm12 cd12 ct12 oc13 kV13 dc13 pm13 cd13 ct13 oc14 kV14 dc14 pm14 cd14 ct14 : Value} {t_MOST_KEYS : Tok}
    (a0 : PySem.W.nsIn K mainGlobals "heard" = some (some (.ref f0))) (l0 : K.lookup f0 = some ⟨oc0, od0, .func (PySem.W.fnOf "heard" "heard" (defArgs s_heard) (defBody s_heard) (defScope s_heard) .none kV0 dc0 pm0 an0 cd0 ct0), sl0⟩) (c0 : PySem.W.codeIn K cd0 "heard" = true) (k0 : PySem.W.keepIn K (.ref f0) = true)
    (a1 : PySem.W.nsIn K mainGlobals "value" = some (some (.ref f1))) (l1 : K.lookup f1 = some ⟨oc1, od1, .func (PySem.W.fnOf "value" "value" (defArgs s_value) (defBody s_value) (defScope s_value) .none kV1 dc1 pm1 an1 cd1 ct1), sl1⟩) (c1 : PySem.W.codeIn K cd1 "value" = true) (k1 : PySem.W.keepIn K (.ref f1) = true)
    (a2 : PySem.W.nsIn K mainGlobals "checked_keys" = some (some (.ref f2))) (l2 : K.lookup f2 = some ⟨oc2, od2, .func (PySem.W.fnOf "checked_keys" "checked_keys" (defArgs s_checked_keys) (defBody s_checked_keys) (defScope s_checked_keys) .none kV2 dc2 pm2 an2 cd2 ct2), sl2⟩) (c2 : PySem.W.codeIn K cd2 "checked_keys" = true) (k2 : PySem.W.keepIn K (.ref f2) = true)
    (a3 : PySem.W.nsIn K mainGlobals "values" = some (some (.ref f3))) (l3 : K.lookup f3 = some ⟨oc3, od3, .func (PySem.W.fnOf "values" "values" (defArgs s_values) (defBody s_values) (defScope s_values) .none kV3 dc3 pm3 an3 cd3 ct3), sl3⟩) (c3 : PySem.W.codeIn K cd3 "values" = true) (k3 : PySem.W.keepIn K (.ref f3) = true)
    (a4 : PySem.W.nsIn K mainGlobals "_law_cell_at" = some (some (.ref f4))) (l4 : K.lookup f4 = some ⟨oc4, od4, .func (PySem.W.fnOf "_law_cell_at" "_law_cell_at" (defArgs s_law_cell_at) (defBody s_law_cell_at) (defScope s_law_cell_at) .none kV4 dc4 pm4 an4 cd4 ct4), sl4⟩) (c4 : PySem.W.codeIn K cd4 "_law_cell_at" = true) (k4 : PySem.W.keepIn K (.ref f4) = true)
    (a5 : PySem.W.nsIn K mainGlobals "_law_whole" = some (some (.ref f5))) (l5 : K.lookup f5 = some ⟨oc5, od5, .func (PySem.W.fnOf "_law_whole" "_law_whole" (defArgs s_law_whole) (defBody s_law_whole) (defScope s_law_whole) .none kV5 dc5 pm5 an5 cd5 ct5), sl5⟩) (c5 : PySem.W.codeIn K cd5 "_law_whole" = true) (k5 : PySem.W.keepIn K (.ref f5) = true)
    (a6 : PySem.W.nsIn K mainGlobals "_law_number" = some (some (.ref f6))) (l6 : K.lookup f6 = some ⟨oc6, od6, .func (PySem.W.fnOf "_law_number" "_law_number" (defArgs s_law_number) (defBody s_law_number) (defScope s_law_number) .none kV6 dc6 pm6 an6 cd6 ct6), sl6⟩) (c6 : PySem.W.codeIn K cd6 "_law_number" = true) (k6 : PySem.W.keepIn K (.ref f6) = true)
    (a7 : PySem.W.nsIn K mainGlobals "_law_row_at" = some (some (.ref f7))) (l7 : K.lookup f7 = some ⟨oc7, od7, .func (PySem.W.fnOf "_law_row_at" "_law_row_at" (defArgs s_law_row_at) (defBody s_law_row_at) (defScope s_law_row_at) .none kV7 dc7 pm7 an7 cd7 ct7), sl7⟩) (c7 : PySem.W.codeIn K cd7 "_law_row_at" = true) (k7 : PySem.W.keepIn K (.ref f7) = true)
    (a8 : PySem.W.nsIn K mainGlobals "_law_with" = some (some (.ref f8))) (l8 : K.lookup f8 = some ⟨oc8, od8, .func (PySem.W.fnOf "_law_with" "_law_with" (defArgs s_law_with) (defBody s_law_with) (defScope s_law_with) .none kV8 dc8 pm8 an8 cd8 ct8), sl8⟩) (c8 : PySem.W.codeIn K cd8 "_law_with" = true) (k8 : PySem.W.keepIn K (.ref f8) = true)
    (a9 : PySem.W.nsIn K mainGlobals "_law_comma" = some (some (.ref f9))) (l9 : K.lookup f9 = some ⟨oc9, od9, .func (PySem.W.fnOf "_law_comma" "_law_comma" (defArgs s_law_comma) (defBody s_law_comma) (defScope s_law_comma) .none kV9 dc9 pm9 an9 cd9 ct9), sl9⟩) (c9 : PySem.W.codeIn K cd9 "_law_comma" = true) (k9 : PySem.W.keepIn K (.ref f9) = true)
    (a10 : PySem.W.nsIn K mainGlobals "_law_ring" = some (some (.ref f10))) (l10 : K.lookup f10 = some ⟨oc10, od10, .func (PySem.W.fnOf "_law_ring" "_law_ring" (defArgs s_law_ring) (defBody s_law_ring) (defScope s_law_ring) .none kV10 dc10 pm10 an10 cd10 ct10), sl10⟩) (c10 : PySem.W.codeIn K cd10 "_law_ring" = true) (k10 : PySem.W.keepIn K (.ref f10) = true)
    (a11 : PySem.W.nsIn K mainGlobals "_law_keys" = some (some (.ref f11))) (l11 : K.lookup f11 = some ⟨oc11, od11, .func (PySem.W.fnOf "_law_keys" "_law_keys" (defArgs s_law_keys) (defBody s_law_keys) (defScope s_law_keys) .none kV11 dc11 pm11 an11 cd11 ct11), sl11⟩) (c11 : PySem.W.codeIn K cd11 "_law_keys" = true) (k11 : PySem.W.keepIn K (.ref f11) = true)
    (a12 : PySem.W.nsIn K mainGlobals "_law_sum" = some (some (.ref f12))) (l12 : K.lookup f12 = some ⟨oc12, od12, .func (PySem.W.fnOf "_law_sum" "_law_sum" (defArgs s_law_sum) (defBody s_law_sum) (defScope s_law_sum) .none kV12 dc12 pm12 an12 cd12 ct12), sl12⟩) (c12 : PySem.W.codeIn K cd12 "_law_sum" = true) (k12 : PySem.W.keepIn K (.ref f12) = true)
    (a13 : PySem.W.nsIn K mainGlobals "_law_right" = some (some (.ref f13))) (l13 : K.lookup f13 = some ⟨oc13, od13, .func (PySem.W.fnOf "_law_right" "_law_right" (defArgs s_law_right) (defBody s_law_right) (defScope s_law_right) .none kV13 dc13 pm13 an13 cd13 ct13), sl13⟩) (c13 : PySem.W.codeIn K cd13 "_law_right" = true) (k13 : PySem.W.keepIn K (.ref f13) = true)
    (a14 : PySem.W.nsIn K mainGlobals "law" = some (some (.ref f14))) (l14 : K.lookup f14 = some ⟨oc14, od14, .func (PySem.W.fnOf "law" "law" (defArgs s_law) (defBody s_law) (defScope s_law) .none kV14 dc14 pm14 an14 cd14 ct14), sl14⟩) (c14 : PySem.W.codeIn K cd14 "law" = true) (k14 : PySem.W.keepIn K (.ref f14) = true)
     (x_MOST_KEYS : PySem.W.nsIn K mainGlobals "MOST_KEYS" = some (some (.int 6 t_MOST_KEYS))) (z_all : PySem.W.nsIn K mainGlobals "all" = some none) (z_bool : PySem.W.nsIn K mainGlobals "bool" = some none) (z_enumerate : PySem.W.nsIn K mainGlobals "enumerate" = some none) (z_int : PySem.W.nsIn K mainGlobals "int" = some none) (z_isinstance : PySem.W.nsIn K mainGlobals "isinstance" = some none) (z_len : PySem.W.nsIn K mainGlobals "len" = some none) (z_list : PySem.W.nsIn K mainGlobals "list" = some none) (z_min : PySem.W.nsIn K mainGlobals "min" = some none) (z_range : PySem.W.nsIn K mainGlobals "range" = some none) (z_reversed : PySem.W.nsIn K mainGlobals "reversed" = some none) (z_sum : PySem.W.nsIn K mainGlobals "sum" = some none) (z_tuple : PySem.W.nsIn K mainGlobals "tuple" = some none) (z_zip : PySem.W.nsIn K mainGlobals "zip" = some none) :
    ∃ fd : FuncData, (∀ (s : Shared) (v : Value), BindsTo s fd ⟨[v], []⟩ [("_law_script", v)]) ∧ ∀ base : Heap, K.In base → base.Ns mainGlobals mg → FnOk l.prog w K mg base CX0 5 fa fd ["_law_script"] (spLaw K) := by
  have e := hfa.symm.trans (PySem.W.mg_of X G0 a14)
  cases e
  have T : Txt K mg ⟨t_MOST_KEYS⟩ := ⟨PySem.W.mg_none_of X G0 z_all, PySem.W.mg_none_of X G0 z_bool, PySem.W.mg_none_of X G0 z_enumerate, PySem.W.mg_none_of X G0 z_int, PySem.W.mg_none_of X G0 z_isinstance, PySem.W.mg_none_of X G0 z_len, PySem.W.mg_none_of X G0 z_list, PySem.W.mg_none_of X G0 z_min, PySem.W.mg_none_of X G0 z_range, PySem.W.mg_none_of X G0 z_reversed, PySem.W.mg_none_of X G0 z_sum, PySem.W.mg_none_of X G0 z_tuple, PySem.W.mg_none_of X G0 z_zip, PySem.W.mg_of X G0 x_MOST_KEYS⟩
  have F0 := fun_mk (st := s_heard) l0 c0 k0
  have D_heard : Def K mg "heard" s_heard ["weights", "row"] := ⟨_, _, F0, PySem.W.mg_of X G0 a0, F0.binds (ps := ["weights", "row"]) fun _ _ _ _ _ _ us hl => match us, hl with | [_, _], _ => rfl⟩
  have F1 := fun_mk (st := s_value) l1 c1 k1
  have D_value : Def K mg "value" s_value ["key", "row"] := ⟨_, _, F1, PySem.W.mg_of X G0 a1, F1.binds (ps := ["key", "row"]) fun _ _ _ _ _ _ us hl => match us, hl with | [_, _], _ => rfl⟩
  have F2 := fun_mk (st := s_checked_keys) l2 c2 k2
  have D_checked_keys : Def K mg "checked_keys" s_checked_keys ["keys"] := ⟨_, _, F2, PySem.W.mg_of X G0 a2, F2.binds (ps := ["keys"]) fun _ _ _ _ _ _ us hl => match us, hl with | [_], _ => rfl⟩
  have F3 := fun_mk (st := s_values) l3 c3 k3
  have D_values : Def K mg "values" s_values ["keys", "row"] := ⟨_, _, F3, PySem.W.mg_of X G0 a3, F3.binds (ps := ["keys", "row"]) fun _ _ _ _ _ _ us hl => match us, hl with | [_, _], _ => rfl⟩
  have F4 := fun_mk (st := s_law_cell_at) l4 c4 k4
  have D_law_cell_at : Def K mg "_law_cell_at" s_law_cell_at ["_law_script", "_law_k"] := ⟨_, _, F4, PySem.W.mg_of X G0 a4, F4.binds (ps := ["_law_script", "_law_k"]) fun _ _ _ _ _ _ us hl => match us, hl with | [_, _], _ => rfl⟩
  have F5 := fun_mk (st := s_law_whole) l5 c5 k5
  have D_law_whole : Def K mg "_law_whole" s_law_whole ["_law_thing"] := ⟨_, _, F5, PySem.W.mg_of X G0 a5, F5.binds (ps := ["_law_thing"]) fun _ _ _ _ _ _ us hl => match us, hl with | [_], _ => rfl⟩
  have F6 := fun_mk (st := s_law_number) l6 c6 k6
  have D_law_number : Def K mg "_law_number" s_law_number ["_law_cell", "_law_bound"] := ⟨_, _, F6, PySem.W.mg_of X G0 a6, F6.binds (ps := ["_law_cell", "_law_bound"]) fun _ _ _ _ _ _ us hl => match us, hl with | [_, _], _ => rfl⟩
  have F7 := fun_mk (st := s_law_row_at) l7 c7 k7
  have D_law_row_at : Def K mg "_law_row_at" s_law_row_at ["_law_script", "_law_k", "_law_bound"] := ⟨_, _, F7, PySem.W.mg_of X G0 a7, F7.binds (ps := ["_law_script", "_law_k", "_law_bound"]) fun _ _ _ _ _ _ us hl => match us, hl with | [_, _, _], _ => rfl⟩
  have F8 := fun_mk (st := s_law_with) l8 c8 k8
  have D_law_with : Def K mg "_law_with" s_law_with ["_law_row", "_law_other", "_law_n"] := ⟨_, _, F8, PySem.W.mg_of X G0 a8, F8.binds (ps := ["_law_row", "_law_other", "_law_n"]) fun _ _ _ _ _ _ us hl => match us, hl with | [_, _, _], _ => rfl⟩
  have F9 := fun_mk (st := s_law_comma) l9 c9 k9
  have D_law_comma : Def K mg "_law_comma" s_law_comma ["_law_script", "_law_k", "_law_bound", "_law_commas"] := ⟨_, _, F9, PySem.W.mg_of X G0 a9, F9.binds (ps := ["_law_script", "_law_k", "_law_bound", "_law_commas"]) fun _ _ _ _ _ _ us hl => match us, hl with | [_, _, _, _], _ => rfl⟩
  have F10 := fun_mk (st := s_law_ring) l10 c10 k10
  have D_law_ring : Def K mg "_law_ring" s_law_ring ["_law_cell"] := ⟨_, _, F10, PySem.W.mg_of X G0 a10, F10.binds (ps := ["_law_cell"]) fun _ _ _ _ _ _ us hl => match us, hl with | [_], _ => rfl⟩
  have F11 := fun_mk (st := s_law_keys) l11 c11 k11
  have D_law_keys : Def K mg "_law_keys" s_law_keys ["_law_script", "_law_most"] := ⟨_, _, F11, PySem.W.mg_of X G0 a11, F11.binds (ps := ["_law_script", "_law_most"]) fun _ _ _ _ _ _ us hl => match us, hl with | [_, _], _ => rfl⟩
  have F12 := fun_mk (st := s_law_sum) l12 c12 k12
  have D_law_sum : Def K mg "_law_sum" s_law_sum ["_law_key", "_law_row"] := ⟨_, _, F12, PySem.W.mg_of X G0 a12, F12.binds (ps := ["_law_key", "_law_row"]) fun _ _ _ _ _ _ us hl => match us, hl with | [_, _], _ => rfl⟩
  have F13 := fun_mk (st := s_law_right) l13 c13 k13
  have D_law_right : Def K mg "_law_right" s_law_right ["_law_found", "_law_keys_here", "_law_row"] := ⟨_, _, F13, PySem.W.mg_of X G0 a13, F13.binds (ps := ["_law_found", "_law_keys_here", "_law_row"]) fun _ _ _ _ _ _ us hl => match us, hl with | [_, _, _], _ => rfl⟩
  have F14 := fun_mk (st := s_law) l14 c14 k14
  refine ⟨PySem.W.fnOf "law" "law" (defArgs s_law) (defBody s_law) (defScope s_law) .none kV14 dc14 pm14 an14 cd14 ct14, fun s v => .of_eq rfl, fun base _ _ => ?_⟩
  have O_heard := ok_heard (P := l.prog) (w := w) (base := base) D_heard T
  have O_value := ok_value (P := l.prog) (w := w) (base := base) D_value T ⟨O_heard⟩
  have O_checked_keys := ok_checked_keys (P := l.prog) (w := w) (base := base) D_checked_keys T
  have O_values := ok_values (P := l.prog) (w := w) (base := base) D_values T ⟨O_value, O_checked_keys⟩
  have O_law_cell_at := ok_law_cell_at (P := l.prog) (w := w) (base := base) D_law_cell_at T
  have O_law_whole := ok_law_whole (P := l.prog) (w := w) (base := base) D_law_whole T
  have O_law_number := ok_law_number (P := l.prog) (w := w) (base := base) D_law_number T
  have O_law_row_at := ok_law_row_at (P := l.prog) (w := w) (base := base) D_law_row_at T ⟨O_law_cell_at, O_law_number⟩
  have O_law_with := ok_law_with (P := l.prog) (w := w) (base := base) D_law_with T
  have O_law_comma := ok_law_comma (P := l.prog) (w := w) (base := base) D_law_comma T ⟨O_law_cell_at, O_law_row_at, O_law_with⟩
  have O_law_ring := ok_law_ring (P := l.prog) (w := w) (base := base) D_law_ring T
  have O_law_keys := ok_law_keys (P := l.prog) (w := w) (base := base) D_law_keys T ⟨O_law_cell_at, O_law_comma, O_law_ring⟩
  have O_law_sum := ok_law_sum (P := l.prog) (w := w) (base := base) D_law_sum T
  have O_law_right := ok_law_right (P := l.prog) (w := w) (base := base) D_law_right T ⟨O_law_whole, O_law_sum⟩
  exact fn_law F14 T ⟨O_values, O_law_cell_at, O_law_row_at, O_law_ring, O_law_keys, O_law_right⟩
end Law
open PySem PySem.W PyProof.Rows
set_option maxRecDepth 100000 in
set_option maxHeartbeats 0 in
theorem PySem.Challenge.cw_tuningyard_k41_values_holds : PySem.Challenge.rw_tuningyard_k41_values.Holds := by
  w_on; o_law; k_head; (case hw => w_witness2)
  k_fill
  refine L2.walk_ofK (l := PySem.Challenge.rw_tuningyard_k41_values) (n := 63) (k := 5) (x := "_law_script") (CX := L2.CX0) (sp := L2.spLaw) rfl (by decide) rfl ⟨rfl, by decide, by decide⟩ (fun w h Y => PySem.W.kIn_of Y) ?F (fun _ _ a ns hl _ hS => ⟨a, ns, rfl, hS, hl, fun _ => rfl⟩) fun _ _ _ _ z => z
  case F =>
    intro w mg fa h KX G hmg
    refine' Law.all_mk KX G hmg ?a0 ?l0 ?c0 ?k0 ?a1 ?l1 ?c1 ?k1 ?a2 ?l2 ?c2 ?k2 ?a3 ?l3 ?c3 ?k3 ?a4 ?l4 ?c4 ?k4 ?a5 ?l5 ?c5 ?k5 ?a6 ?l6 ?c6 ?k6 ?a7 ?l7 ?c7 ?k7 ?a8 ?l8 ?c8 ?k8 ?a9 ?l9 ?c9 ?k9 ?a10 ?l10 ?c10 ?k10 ?a11 ?l11 ?c11 ?k11 ?a12 ?l12 ?c12 ?k12 ?a13 ?l13 ?c13 ?k13 ?a14 ?l14 ?c14 ?k14 ?x_MOST_KEYS ?z_all ?z_bool ?z_enumerate ?z_int ?z_isinstance ?z_len ?z_list ?z_min ?z_range ?z_reversed ?z_sum ?z_tuple ?z_zip
    (case a0 => k_is)
    (case l0 => k_is)
    (case c0 => k_is)
    (case k0 => k_is)
    (case a1 => k_is)
    (case l1 => k_is)
    (case c1 => k_is)
    (case k1 => k_is)
    (case a2 => k_is)
    (case l2 => k_is)
    (case c2 => k_is)
    (case k2 => k_is)
    (case a3 => k_is)
    (case l3 => k_is)
    (case c3 => k_is)
    (case k3 => k_is)
    (case a4 => k_is)
    (case l4 => k_is)
    (case c4 => k_is)
    (case k4 => k_is)
    (case a5 => k_is)
    (case l5 => k_is)
    (case c5 => k_is)
    (case k5 => k_is)
    (case a6 => k_is)
    (case l6 => k_is)
    (case c6 => k_is)
    (case k6 => k_is)
    (case a7 => k_is)
    (case l7 => k_is)
    (case c7 => k_is)
    (case k7 => k_is)
    (case a8 => k_is)
    (case l8 => k_is)
    (case c8 => k_is)
    (case k8 => k_is)
    (case a9 => k_is)
    (case l9 => k_is)
    (case c9 => k_is)
    (case k9 => k_is)
    (case a10 => k_is)
    (case l10 => k_is)
    (case c10 => k_is)
    (case k10 => k_is)
    (case a11 => k_is)
    (case l11 => k_is)
    (case c11 => k_is)
    (case k11 => k_is)
    (case a12 => k_is)
    (case l12 => k_is)
    (case c12 => k_is)
    (case k12 => k_is)
    (case a13 => k_is)
    (case l13 => k_is)
    (case c13 => k_is)
    (case k13 => k_is)
    (case a14 => k_is)
    (case l14 => k_is)
    (case c14 => k_is)
    (case k14 => k_is)
    (case x_MOST_KEYS => k_is)
    (case z_all => k_is)
    (case z_bool => k_is)
    (case z_enumerate => k_is)
    (case z_int => k_is)
    (case z_isinstance => k_is)
    (case z_len => k_is)
    (case z_list => k_is)
    (case z_min => k_is)
    (case z_range => k_is)
    (case z_reversed => k_is)
    (case z_sum => k_is)
    (case z_tuple => k_is)
    (case z_zip => k_is)

