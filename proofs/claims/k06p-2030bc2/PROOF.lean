import PyProof.Rows.All
import Wide.All
import OpenK.AllK
import Wide.FinOn
import Lean
import PyProof.EqAt
import PyProof.EqKinds
import PyProof.TupleCall
import PySem.Challenge.RW_tautroads_k06_heights_and_rings_looked_a
set_option Elab.async false
set_option linter.all false
set_option maxRecDepth 100000
/-! THE HAND LAYER, for ints, bools, texts, own classes, LISTS and tuples (index, slices, in, append, pop ..), calls, loops. Paste it whole ahead of your own text; what your proof does not reach may be deleted. -/
namespace L2
open PySem PySem.Spec PyProof.Rows

/-- a key: an int or a str -/
abbrev Key := Sum Int Str
def keyIs : Key → Value → Bool
  | .inl k, v => Value.isInt k v
  | .inr x, v => Value.isStrOf x v
def keyH (w : World) : Key → Int
  | .inl k => hashInt k
  | .inr x => hashStr w x
theorem keyIs_shape : ∀ {k : Key} {v : Value}, keyIs k v = true → (∃ i t, k = Sum.inl i ∧ v = Value.int i t) ∨ (∃ x t, k = Sum.inr x ∧ v = Value.str x t)
  | .inl i, v, h => by
    obtain ⟨t, e⟩ := Value.isInt_shape (k := i) (v := v) h
    exact .inl ⟨i, t, rfl, e⟩
  | .inr x, v, h => by
    obtain ⟨t, e⟩ := Value.isStrOf_shape (x := x) (v := v) h
    exact .inr ⟨x, t, rfl, e⟩
theorem keyIs_int (i : Int) (t : Tok) : keyIs (.inl i) (.int i t) = true := by simp [keyIs, Value.isInt]
theorem keyIs_str (x : Str) (t : Tok) : keyIs (.inr x) (.str x t) = true := by simp [keyIs, Value.isStrOf]
theorem key_ll (a b : Int) : decide ((Sum.inl a : Key) = Sum.inl b) = (a == b) := by
  by_cases e : a = b
  · subst e; simp
  · have h : ¬ (Sum.inl a : Key) = Sum.inl b := fun q => e (Sum.inl.inj q)
    rw [decide_eq_false h]
    exact (beq_eq_false_iff_ne.mpr e).symm
theorem key_rr (a b : Str) : decide ((Sum.inr a : Key) = Sum.inr b) = decide (a = b) := by
  by_cases e : a = b
  · subst e; simp
  · have h : ¬ (Sum.inr a : Key) = Sum.inr b := fun q => e (Sum.inr.inj q)
    rw [decide_eq_false h, decide_eq_false e]
theorem key_lr (a : Int) (b : Str) : decide ((Sum.inl a : Key) = Sum.inr b) = false := decide_eq_false (fun q => nomatch q)
theorem key_rl (a : Str) (b : Int) : decide ((Sum.inr a : Key) = Sum.inl b) = false := decide_eq_false (fun q => nomatch q)

def mixKind (prog : Program) (w : World) : PySem.KeyKind prog w Key where
  is := keyIs
  hash := keyH w
  inj := fun v a b ha hb => by
    rcases keyIs_shape ha with ⟨i, t, rfl, rfl⟩ | ⟨x, t, rfl, rfl⟩
    · rcases keyIs_shape hb with ⟨j, u, rfl, e⟩ | ⟨y, u, rfl, e⟩
      · injection e with e1 _; rw [e1]
      · exact nomatch e
    · rcases keyIs_shape hb with ⟨j, u, rfl, e⟩ | ⟨y, u, rfl, e⟩
      · exact nomatch e
      · injection e with e1 _; rw [e1]
  byValue := fun k v h => by
    rcases keyIs_shape h with ⟨i, t, rfl, rfl⟩ | ⟨x, t, rfl, rfl⟩ <;> rfl
  pyHash := fun hv h => by
    rcases keyIs_shape hv with ⟨i, t, rfl, rfl⟩ | ⟨x, t, rfl, rfl⟩
    · exact wpAny_pyHash_int h
    · exact wpAny_pyHash_str h
  eqBool := fun hu hv h => by
    rcases keyIs_shape hu with ⟨i, t, rfl, rfl⟩ | ⟨x, t, rfl, rfl⟩
    · rcases keyIs_shape hv with ⟨j, u, rfl, rfl⟩ | ⟨y, u, rfl, rfl⟩
      · rw [key_ll] at h; exact wpAny_eqBool_int h
      · rw [key_lr] at h; exact SeqAt.EqAt.int_str i t y u _ _ _ _ h
    · rcases keyIs_shape hv with ⟨j, u, rfl, rfl⟩ | ⟨y, u, rfl, rfl⟩
      · rw [key_rl] at h; exact SeqAt.EqAt.str_int x t j u _ _ _ _ h
      · rw [key_rr] at h; exact wpAny_eqBool_str h
  «strs» := fun k x t v h => by
    rcases keyIs_shape h with ⟨i, u, rfl, e⟩ | ⟨y, u, rfl, e⟩
    · exact nomatch e
    · injection e with e1 _
      subst e1
      cases v <;> rfl

theorem mixKind_is (prog : Program) (w : World) (k : Key) (v : Value) : (mixKind prog w).is k v = keyIs k v := rfl
theorem mixKind_int (prog : Program) (w : World) (i : Int) (t : Tok) : (mixKind prog w).is (.inl i) (.int i t) = true := keyIs_int i t
theorem mixKind_str (prog : Program) (w : World) (x : Str) (t : Tok) : (mixKind prog w).is (.inr x) (.str x t) = true := keyIs_str x t
end L2

namespace L2
open PySem PySem.Spec PyProof.Rows

/-- a value, without the heap -/
inductive V where
  | non | bl (b : Bool) | int (i : Int) | str (x : Str) | byt (b : Array UInt8) | flt (b : UInt64) | ref (a : Addr) | ty (n : String)
  deriving DecidableEq

def RelV : V → Value → Prop
  | .non, u => u = Value.none
  | .bl b, u => u = Value.bool b
  | .int i, u => ∃ t, u = Value.int i t
  | .str x, u => ∃ t, u = Value.str x t
  | .byt b, u => ∃ t, u = Value.bytes b t
  | .flt b, u => ∃ t, u = Value.float b t
  | .ref a, u => u = Value.ref a
  | .ty n, u => u = Value.type n

abbrev Vals : List V → List Value → Prop := Paired RelV
theorem Vals.length {xs : List V} {us : List Value} (r : Vals xs us) : xs.length = us.length := Paired.length r
theorem Vals.get : ∀ {xs : List V} {us : List Value} {i : Nat} {x : V}, Vals xs us → xs[i]? = some x → ∃ u, us[i]? = some u ∧ RelV x u
  | _, _, _, _, .nil, e => by simp at e
  | _, _, 0, _, .cons r _, e => by simp at e; subst e; exact ⟨_, rfl, r⟩
  | _, _, i + 1, x, .cons _ t, e => by
    obtain ⟨u, h1, h2⟩ := Vals.get (i := i) (x := x) t (by simpa using e)
    exact ⟨u, by simpa using h1, h2⟩
theorem Vals.set {x : V} {u : Value} (r : RelV x u) : ∀ {xs : List V} {us : List Value} (i : Nat), Vals xs us → Vals (xs.set i x) (us.set i u)
  | _, _, _, .nil => .nil
  | _, _, 0, .cons _ t => .cons r t
  | _, _, i + 1, .cons q t => .cons q (Vals.set r i t)
theorem Vals.append : ∀ {xs ys : List V} {us ws : List Value}, Vals xs us → Vals ys ws → Vals (xs ++ ys) (us ++ ws)
  | _, _, _, _, .nil, s => s
  | _, _, _, _, .cons r t, s => .cons r (Vals.append t s)
theorem Vals.take : ∀ {xs : List V} {us : List Value} (n : Nat), Vals xs us → Vals (xs.take n) (us.take n)
  | _, _, 0, _ => .nil
  | _, _, _ + 1, .nil => .nil
  | _, _, n + 1, .cons r t => .cons r (Vals.take n t)
theorem Vals.drop : ∀ {xs : List V} {us : List Value} (n : Nat), Vals xs us → Vals (xs.drop n) (us.drop n)
  | _, _, 0, r => r
  | _, _, _ + 1, .nil => .nil
  | _, _, n + 1, .cons _ t => Vals.drop n t
theorem Vals.none_of : ∀ {xs : List V} {us : List Value} {i : Nat}, Vals xs us → xs[i]? = none → us[i]? = none := fun {xs us i} r e => by
  have h1 := r.length
  have h2 : xs.length ≤ i := List.getElem?_eq_none_iff.mp e
  exact List.getElem?_eq_none_iff.mpr (by omega)

def RelO : Option V → Option Value → Prop
  | some v, some u => RelV v u
  | none, none => True
  | _, _ => False
def KV {κ : Type} : List (κ × V) → List (κ × Value) → Prop := Paired fun (p : κ × V) (q : κ × Value) => p.1 = q.1 ∧ RelV p.2 q.2

/-- a key of a dict (00_mix): an int or a text -/
def kV : Key → V
  | .inl i => .int i
  | .inr x => .str x

/-- what stands at a tracked address -/
inductive HO where
  /-- a list -/
  | lst (xs : List V)
  /-- a tuple (never changes) -/
  | tup (xs : List V)
  /-- a dict whose keys are ints and texts; one whose keys are tuples of ints and texts (the empty one is both) -/
  | dK (kvs : List (Key × V)) | dT (kvs : List (List Key × V))
  /-- a set of ints: its members, its size -/
  | set (S : Int → Bool) (n : Nat)
  /-- an instance of the class at C, its dict at dx, its attributes -/
  | ins (C dx : Addr) (fs : List (Str × V))
  /-- the dict of the instance at x -/
  | own (x : Addr)
  /-- the dict of an exception -/
  | xd (fs : List (Str × V))
  /-- a bound method, f of x -/
  | met (f x : Addr)
  /-- a range object lo, lo + 1, .. below hi -/
  | rng (lo hi : Int)
  /-- a thing that is known to the object (the script; a dict while a loop walks it): read, never written while it is so -/
  | frz (o : Obj) (u : HO)
  /-- a code object's table -/
  | tbl (ps : Array Value)
  /-- any other thing, by what is true of its one object (a def of one's own: SetO a S n := HO.ext fun h => ..) -/
  | ext (φ : Heap → Prop)

abbrev Hp := Addr → Option HO
def upd (H : Hp) (a : Addr) (o : HO) : Hp := fun b => if b = a then some o else H b
theorem upd_same {H : Hp} {a : Addr} {o : HO} : upd H a o a = some o := by unfold upd; rw [if_pos rfl]
theorem upd_ne {H : Hp} {a b : Addr} {o : HO} (h : b ≠ a) : upd H a o b = H b := by unfold upd; rw [if_neg h]
theorem upd_upd {H : Hp} {a : Addr} {o u : HO} : upd (upd H a o) a u = upd H a u := by
  funext b; unfold upd; split <;> rfl
/-- two objects of different content stand apart -/
theorem ne_of {H : Hp} {a b : Addr} {o u : HO} (h : H a = some o) (h' : H b = some u) (d : o ≠ u) : a ≠ b := by
  intro e; subst e; rw [h] at h'; exact d (Option.some.inj h')
theorem ne_of_none {H : Hp} {a b : Addr} {o : HO} (h : H a = some o) (h' : H b = none) : a ≠ b := by
  intro e; subst e; rw [h] at h'; cases h'

section
variable (P : Program) (w : World)
def ObjOk (H : Hp) (h : Heap) (a : Addr) : HO → Prop
  | .lst xs => xs.length ≤ sizeLine ∧ ∃ (its : List Value) (n : Nat), Vals xs its ∧ h.get? a = some { cls := .type "list", data := .seq its.toArray n }
  | .tup xs => xs.length ≤ sizeLine ∧ ∃ its : List Value, Vals xs its ∧ IsTup h a its.toArray
  | .dK kvs => kvs.length ≤ sizeLine ∧ (a == sysModules) = false ∧ ∃ vs, KV kvs vs ∧ h.DictOf (mixKind P w) a vs
  | .dT kvs => kvs.length ≤ sizeLine ∧ (a == sysModules) = false ∧ ∃ xs : List (List Key × Addr × Value),
      Paired (fun (p : List Key × V) (q : List Key × Addr × Value) => p.1 = q.1 ∧ H q.2.1 = some (.tup (p.1.map kV)) ∧ RelV p.2 q.2.2) kvs xs ∧
      ∃ o es ep, h.get? a = some o ∧ o.ExactDict ∧ o.data = .dict es ep ∧ es.toList = xs.map (entryOfKey (tupleKind (mixKind P w))) ∧ (xs.map (·.1)).Nodup
  | .set S n => h.SetOf (intKind P w) a S n
  | .ins C dx fs => H dx = some (.own a) ∧ fs.length ≤ 1000 ∧ dx ≠ a ∧ h.get? a = some (PySem.W.instObj C dx) ∧
      ∃ mA, h.Ns1 dx mA ∧ (∀ f, RelO (fs.lookup f) (mA f)) ∧ PySem.Within mA (fs.map (·.1))
  | .own _ => ∃ o, h.get? a = some o
  | .xd fs => ∃ mA, h.Ns1 a mA ∧ ∀ f, RelO (fs.lookup f) (mA f)
  | .rng lo hi => ∃ t u v, h.get? a = some { cls := .type "range", data := .fields #[.int lo t, .int hi u, .int 1 v] }
  | .frz o u => h.get? a = some o ∧ ObjOk H h a u
  | .tbl ps => h.get? a = some { cls := .none, data := .fields ps }
  | .met f x => h.get? a = some (PySem.W.methodObj (.ref f) (.ref x))
  | .ext φ => φ h ∧ (∃ o, h.get? a = some o) ∧ ∀ h1 h2 : Heap, φ h1 → (∀ o, h1.get? a = some o → h2.get? a = some o) → φ h2
/-- the abstract heap is held -/
def HOk (H : Hp) (h : Heap) : Prop := ∀ a o, H a = some o → ObjOk P w H h a o
end

section
variable {P : Program} {w : World} {H H' : Hp} {h h' : Heap} {a : Addr} {o : HO}
theorem ObjOk.lt (x : ObjOk P w H h a o) : a < h.objs.size := by
  cases o with
  | lst xs => obtain ⟨_, _, _, _, e⟩ := x; exact Heap.lt_size e
  | tup xs => obtain ⟨_, _, _, p⟩ := x; exact p.lt
  | dK kvs => obtain ⟨_, _, _, _, o, _, _, e, _⟩ := x; exact Heap.lt_size e
  | dT kvs => obtain ⟨_, _, _, _, o, _, _, e, _⟩ := x; exact Heap.lt_size e
  | set S n => obtain ⟨o, _, _, _, e, _⟩ := x; exact Heap.lt_size e
  | ins C dx fs => obtain ⟨_, _, _, e, _⟩ := x; exact Heap.lt_size e
  | own y => obtain ⟨_, e⟩ := x; exact Heap.lt_size e
  | xd fs => obtain ⟨_, ⟨_, _, _, e, _⟩, _⟩ := x; exact Heap.lt_size e
  | rng lo hi => obtain ⟨_, _, _, e⟩ := x; exact Heap.lt_size e
  | frz ob u => obtain ⟨e, _⟩ := x; exact Heap.lt_size e
  | tbl ps => exact Heap.lt_size (show h.get? a = some _ from x)
  | met f y => exact Heap.lt_size (show h.get? a = some _ from x)
  | ext φ => obtain ⟨_, ⟨_, e⟩, _⟩ := x; exact Heap.lt_size e
theorem Paired.mapP {α β : Type} {F G : α → β → Prop} : ∀ {l₁ : List α} {l₂ : List β}, Paired F l₁ l₂ → (∀ a b, F a b → G a b) → Paired G l₁ l₂
  | _, _, .nil, _ => .nil
  | _, _, .cons r t, f => .cons (f _ _ r) (Paired.mapP t f)
theorem Paired.imp' {α β : Type} {F G : α → β → Prop} (f : ∀ a b, F a b → G a b) {l₁ : List α} {l₂ : List β} (r : Paired F l₁ l₂) : Paired G l₁ l₂ := Paired.mapP r f
/-- what an object's description leans on: its own object, its own dict, the tuples -/
theorem ObjOk.stay (x : ObjOk P w H h a o) (k : ∀ b u, (b = a ∨ H b = some (.own a)) → h.get? b = some u → h'.get? b = some u)
    (ho : ∀ b, H b = some (.own a) → H' b = some (.own a)) (ht : ∀ b xs, H b = some (.tup xs) → H' b = some (.tup xs)) : ObjOk P w H' h' a o := by
  induction o with
  | lst xs => obtain ⟨z, its, n, r, e⟩ := x; exact ⟨z, its, n, r, k _ _ (.inl rfl) e⟩
  | tup xs => obtain ⟨z, its, r, ob, e, c⟩ := x; exact ⟨z, its, r, ob, k _ _ (.inl rfl) e, c⟩
  | dK kvs => obtain ⟨z, y, vs, r, ob, es, ep, e, c⟩ := x; exact ⟨z, y, vs, r, ob, es, ep, k _ _ (.inl rfl) e, c⟩
  | dT kvs =>
    obtain ⟨z, y, xs, r, ob, es, ep, e, c⟩ := x
    exact ⟨z, y, xs, Paired.mapP r fun p q z => ⟨z.1, ht _ _ z.2.1, z.2.2⟩, ob, es, ep, k _ _ (.inl rfl) e, c⟩
  | set S n => obtain ⟨ob, es, ep, t, e, c⟩ := x; exact ⟨ob, es, ep, t, k _ _ (.inl rfl) e, c⟩
  | ins C dx fs =>
    obtain ⟨d, z, ne, e, mA, ⟨od, es, ep, e2, c⟩, r⟩ := x
    exact ⟨ho _ d, z, ne, k _ _ (.inl rfl) e, mA, ⟨od, es, ep, k _ _ (.inr d) e2, c⟩, r⟩
  | own y => obtain ⟨ob, e⟩ := x; exact ⟨ob, k _ _ (.inl rfl) e⟩
  | xd fs => obtain ⟨mA, ⟨od, es, ep, e, c⟩, r⟩ := x; exact ⟨mA, ⟨od, es, ep, k _ _ (.inl rfl) e, c⟩, r⟩
  | rng lo hi => obtain ⟨t, u, v, e⟩ := x; exact ⟨t, u, v, k _ _ (.inl rfl) e⟩
  | frz ob u ih => obtain ⟨e, q⟩ := x; exact ⟨k _ _ (.inl rfl) e, ih q⟩
  | tbl ps =>
    have e : h.get? a = some { cls := .none, data := .fields ps } := x
    show h'.get? a = some { cls := .none, data := .fields ps }
    exact k a _ (.inl rfl) e
  | met f y =>
    have e : h.get? a = some (PySem.W.methodObj (.ref f) (.ref y)) := x
    show h'.get? a = some (PySem.W.methodObj (.ref f) (.ref y))
    exact k a _ (.inl rfl) e
  | ext φ => obtain ⟨p, ⟨o, e⟩, st⟩ := x; exact ⟨st _ _ p fun o q => k _ _ (.inl rfl) q, ⟨o, k _ _ (.inl rfl) e⟩, st⟩
theorem HOk.lt (x : HOk P w H h) (e : H a = some o) : a < h.objs.size := (x a o e).lt
theorem HOk.fresh (x : HOk P w H h) (e : h.objs.size ≤ a) : H a = none := by
  cases q : H a with
  | none => rfl
  | some u => exact absurd (Nat.lt_of_lt_of_le (x.lt q) e) (Nat.lt_irrefl _)
/-- every object of the heap is kept -/
theorem HOk.kept (x : HOk P w H h) (k : ∀ b u, h.get? b = some u → h'.get? b = some u) : HOk P w H h' := fun a o e =>
  (x a o e).stay (fun b u _ q => k b u q) (fun _ q => q) fun _ _ q => q
/-- a new object is laid and tracked -/
theorem HOk.laid (x : HOk P w H h) (k : ∀ b u, h.get? b = some u → h'.get? b = some u) (hp : h.objs.size ≤ a) (new : ObjOk P w (upd H a o) h' a o) : HOk P w (upd H a o) h' := fun b u e => by
  have hn := x.fresh hp
  by_cases hb : b = a
  · subst hb; rw [upd_same] at e; cases e; exact new
  · rw [upd_ne hb] at e
    exact (x b u e).stay (fun c v _ q => k c v q) (fun c q => by rw [upd_ne (ne_of_none q hn)]; exact q) fun c xs q => by rw [upd_ne (ne_of_none q hn)]; exact q
end

/-- what may be read as u: it is u, or a known u -/
def Rd (H : Hp) (a : Addr) (u : HO) : Prop := H a = some u ∨ ∃ o, H a = some (.frz o u)
theorem Rd.of {H : Hp} {a : Addr} {u : HO} (h : H a = some u) : Rd H a u := .inl h
theorem Rd.ok {P : Program} {w : World} {H : Hp} {h : Heap} {a : Addr} {u : HO} (r : Rd H a u) (x : HOk P w H h) : ObjOk P w H h a u := by
  rcases r with r | ⟨o, r⟩
  · exact x a u r
  · obtain ⟨_, q⟩ := x a _ r
    exact q
/-- what may be written -/
def Mut : Option HO → Prop
  | some (.lst _) => True
  | some (.dK _) => True
  | some (.dT _) => True
  | some (.set _ _) => True
  | some (.ins _ _ _) => True
  | some (.ext _) => True
  | _ => False
section
variable {P : Program} {w : World} {H : Hp} {h h' : Heap} {x e : Addr} {o' : HO}
/-- the object at e is changed: x itself, or the dict of the instance x -/
theorem HOk.write (ok : HOk P w H h) (mu : Mut (H x)) (he : e = x ∨ H e = some (.own x)) (k : ∀ b u, b ≠ e → h.get? b = some u → h'.get? b = some u) (heo : ∃ u, h'.get? e = some u)
    (new : ObjOk P w (upd H x o') h' x o') : HOk P w (upd H x o') h' := fun b u q => by
  have nown : ∀ c y, H c = some (.own y) → c ≠ x := fun c y r z => by subst z; rw [r] at mu; exact mu
  have ntup : ∀ c xs, H c = some (.tup xs) → c ≠ x := fun c xs r z => by subst z; rw [r] at mu; exact mu
  by_cases hb : b = x
  · subst hb; rw [upd_same] at q; cases q; exact new
  · rw [upd_ne hb] at q
    by_cases hbe : b = e
    · have q' : H b = some (.own x) := by
        rcases he with z | z
        · exact absurd (hbe.trans z) hb
        · rw [hbe]; exact z
      rw [q] at q'; cases q'
      obtain ⟨v, hv⟩ := heo
      exact ⟨v, by rw [hbe]; exact hv⟩
    · refine (ok b u q).stay (fun c v hc r => k c v ?_ r) (fun c r => by rw [upd_ne (nown c b r)]; exact r) fun c xs r => by rw [upd_ne (ntup c xs r)]; exact r
      rcases hc with rfl | hc
      · exact hbe
      · rintro rfl
        rcases he with z | z
        · exact nown c b hc z
        · rw [hc] at z; cases z; exact hb rfl
end

/-! ### kept unless tracked; of the frames at fs (the callers') the slots may change (an exception that passes writes there); of the records at ex (iterators) nothing is said -/
structure Un (fs ex : List Addr) (H H' : Hp) (h h' : Heap) : Prop where
  keep : ∀ b o, h.get? b = some o → H b = none → b ∉ fs → b ∉ ex → h'.get? b = some o
  slot : ∀ b o, h.get? b = some o → H b = none → b ∈ fs → b ∉ ex → ∃ sl, h'.get? b = some { o with slots := sl }
  free : ∀ b o, h.get? b = some o → H b = none → b ∉ ex → H' b = none
  there : ∀ b o, h.get? b = some o → b ∉ ex → ∃ o', h'.get? b = some o'
  tups : ∀ b xs, H b = some (.tup xs) → H' b = some (.tup xs)
  frzs : ∀ b o u, H b = some (.frz o u) → H' b = some (.frz o u)
  tbls : ∀ b ps, H b = some (.tbl ps) → ∃ more, H' b = some (.tbl (ps ++ more))
section
variable {fs fs' ex ex' : List Addr} {H H1 H2 : Hp} {h h1 h2 h' : Heap} {a x e : Addr} {o : HO}
theorem Un.any (u : Un fs ex H H1 h h1) {b : Addr} {ob : Obj} (q : h.get? b = some ob) (n : H b = none) (hx : b ∉ ex) : ∃ sl, h1.get? b = some { ob with slots := sl } := by
  by_cases hb : b ∈ fs
  · exact u.slot b ob q n hb hx
  · exact ⟨ob.slots, u.keep b ob q n hb hx⟩
theorem Un.trans (a : Un fs ex H H1 h h1) (b : Un fs ex H1 H2 h1 h2) : Un fs ex H H2 h h2 where
  keep := fun c ob q n hc hx => b.keep c ob (a.keep c ob q n hc hx) (a.free c ob q n hx) hc hx
  slot := fun c ob q n hc hx => by
    obtain ⟨sl, e1⟩ := a.slot c ob q n hc hx
    obtain ⟨sl', e2⟩ := b.slot c _ e1 (a.free c ob q n hx) hc hx
    exact ⟨sl', e2⟩
  free := fun c ob q n hx => by
    obtain ⟨o', e1⟩ := a.there c ob q hx
    exact b.free c o' e1 (a.free c ob q n hx) hx
  there := fun c ob q hx => by
    obtain ⟨o', e1⟩ := a.there c ob q hx
    exact b.there c o' e1 hx
  tups := fun c xs q => b.tups c xs (a.tups c xs q)
  frzs := fun c ob xs q => b.frzs c ob xs (a.frzs c ob xs q)
  tbls := fun c ps q => by
    obtain ⟨m1, e1⟩ := a.tbls c ps q
    obtain ⟨m2, e2⟩ := b.tbls c _ e1
    exact ⟨m1 ++ m2, by rw [e2, Array.append_assoc]⟩
theorem Un.kept (k : ∀ b u, h.get? b = some u → h'.get? b = some u) : Un fs ex H H h h' :=
  ⟨fun b ob q _ _ _ => k b ob q, fun b ob q _ _ _ => ⟨ob.slots, k b ob q⟩, fun _ _ _ n _ => n, fun b ob q _ => ⟨ob, k b ob q⟩, fun _ _ q => q, fun _ _ _ q => q, fun _ ps q => ⟨#[], by rw [q]; simp⟩⟩
theorem Un.refl : Un fs ex H H h h := Un.kept fun _ _ q => q
theorem Un.laid (k : ∀ b u, h.get? b = some u → h'.get? b = some u) (hp : h.objs.size ≤ a) (hn : H a = none) : Un fs ex H (upd H a o) h h' where
  keep := fun b u q _ _ _ => k b u q
  slot := fun b u q _ _ _ => ⟨u.slots, k b u q⟩
  free := fun b u q n _ => by rw [upd_ne (Nat.ne_of_lt (Nat.lt_of_lt_of_le (Heap.lt_size q) hp))]; exact n
  there := fun b u q _ => ⟨u, k b u q⟩
  tups := fun b xs q => by rw [upd_ne (ne_of_none q hn)]; exact q
  frzs := fun b u xs q => by rw [upd_ne (ne_of_none q hn)]; exact q
  tbls := fun b ps q => ⟨#[], by rw [upd_ne (ne_of_none q hn), q]; simp⟩
theorem Un.write (mu : Mut (H x)) (he : e = x ∨ H e = some (.own x)) (k : ∀ b u, b ≠ e → h.get? b = some u → h'.get? b = some u) (heo : ∃ u, h'.get? e = some u) : Un fs ex H (upd H x o) h h' := by
  have hx : ∀ b, H b = none → b ≠ x := fun b n z => by subst z; rw [n] at mu; exact mu
  have hb : ∀ b, H b = none → b ≠ e := fun b n z => by
    subst z
    rcases he with r | r
    · exact hx b n r
    · rw [n] at r; cases r
  have hm : ∀ b u, H b = some u → ¬ Mut (some u) → b ≠ x := fun b u q nm z => by subst z; rw [q] at mu; exact nm mu
  refine ⟨fun b u q n _ _ => k b u (hb b n) q, fun b u q n _ _ => ⟨u.slots, k b u (hb b n) q⟩, fun b u q n _ => by rw [upd_ne (hx b n)]; exact n, fun b u q _ => ?_,
    fun b xs q => by rw [upd_ne (hm b _ q fun z => z)]; exact q, fun b u xs q => by rw [upd_ne (hm b _ q fun z => z)]; exact q, fun b ps q => ⟨#[], by rw [upd_ne (hm b _ q fun z => z), q]; simp⟩⟩
  by_cases hbe : b = e
  · subst hbe; exact heo
  · exact ⟨u, k b u hbe q⟩
theorem Un.mono (u : Un fs ex H H1 h h1) (hs : ∀ b ∈ fs, b ∈ fs') (hx : ∀ b ∈ ex, b ∈ ex') : Un fs' ex' H H1 h h1 :=
  ⟨fun b ob q n hb he => u.keep b ob q n (fun z => hb (hs b z)) fun z => he (hx b z), fun _ _ q n _ he => u.any q n fun z => he (hx _ z), fun b ob q n he => u.free b ob q n fun z => he (hx b z), fun b ob q he => u.there b ob q fun z => he (hx b z), u.tups, u.frzs, u.tbls⟩
end

/-! ### the heap without what is tracked -/
def trk (h : Heap) (H : Hp) : List Addr := (List.range h.objs.size).filter fun a => (H a).isSome
def hidT (h : Heap) (H : Hp) : Heap := PySem.W.hideAll h (trk h H)
theorem hidT_size (h : Heap) (H : Hp) : (hidT h H).objs.size = h.objs.size := PySem.W.hideAll_size _ _
theorem hidT_get {h : Heap} {H : Hp} {b : Addr} {o : Obj} (e : h.get? b = some o) (n : H b = none) : (hidT h H).get? b = some o :=
  PySem.W.hideAll_get _ e fun hm => by
    have q : (H b).isSome = true := (List.mem_filter.mp hm).2
    rw [n] at q; simp at q
theorem of_hidT {h : Heap} {H : Hp} {b : Addr} {o : Obj} (e : (hidT h H).get? b = some o) : h.get? b = some o ∧ H b = none := by
  have e' : h.get? b = some o := PySem.W.of_hideAll (trk h H) e
  refine ⟨e', ?_⟩
  cases q : H b with
  | none => rfl
  | some x =>
    have hm : b ∈ trk h H := List.mem_filter.mpr ⟨List.mem_range.mpr (Heap.lt_size e'), by simp [q]⟩
    have z : (hidT h H).get? b = none := PySem.W.hideAll_none (trk h H) hm
    rw [z] at e; cases e

/-! ### OpenK's ledger, filled with every new object but one -/
def allNews (g h : Heap) (L : Addr) : List (Addr × Obj) := (List.range h.objs.size).filterMap fun a => if a = L ∨ (g.get? a).isSome = true then none else (h.get? a).map fun o => (a, o)
theorem mem_allNews {g h : Heap} {L a : Addr} {o : Obj} (h1 : a ≠ L) (h2 : g.get? a = none) (h3 : h.get? a = some o) : (a, o) ∈ allNews g h L :=
  List.mem_filterMap.mpr ⟨a, List.mem_range.mpr (Heap.lt_size h3), by simp [h1, h2, h3]⟩
theorem of_mem_allNews {g h : Heap} {L : Addr} {p : Addr × Obj} (hp : p ∈ allNews g h L) : p.1 ≠ L ∧ g.get? p.1 = none ∧ h.get? p.1 = some p.2 := by
  obtain ⟨b, _, e⟩ := List.mem_filterMap.mp hp
  split at e
  · cases e
  · rename_i hn
    cases q : h.get? b with
    | none => rw [q] at e; simp at e
    | some u =>
      rw [q] at e
      simp only [Option.map_some, Option.some.injEq] at e
      subst e
      refine ⟨fun z => hn (.inl z), ?_, q⟩
      show g.get? b = none
      cases r : g.get? b with
      | none => rfl
      | some v => exact (hn (.inr (by simp [r]))).elim
def rest (g h : Heap) (L d : Addr) : List (Addr × Obj) := (allNews g h L).filter fun p => decide (p.1 ≠ d)
theorem rest_ne {g h : Heap} {L d : Addr} : ∀ p ∈ rest g h L d, p.1 ≠ d := fun p hp => of_decide_eq_true (List.mem_filter.mp hp).2
theorem mem_rest {g h : Heap} {L d a : Addr} {o : Obj} (h1 : a ≠ L) (h2 : g.get? a = none) (h3 : h.get? a = some o) (h4 : a ≠ d) : (a, o) ∈ rest g h L d :=
  List.mem_filter.mpr ⟨mem_allNews h1 h2 h3, decide_eq_true h4⟩
theorem news_all {g h : Heap} {L : Addr} : News g L h (allNews g h L) := fun p hp => let ⟨a, b, c⟩ := of_mem_allNews hp; ⟨c, a, b⟩
theorem news_at {g h : Heap} {L d : Addr} {o : Obj} (h1 : d ≠ L) (h2 : g.get? d = none) (h3 : h.get? d = some o) : News g L h ((d, o) :: rest g h L d) := fun p hp => by
  rcases List.mem_cons.mp hp with rfl | hp
  · exact ⟨h3, h1, h2⟩
  · exact news_all p (List.mem_filter.mp hp).1
/-- behind a rule that changed d alone: all else but the frame is kept -/
theorem kept_of_news {g h h' : Heap} {L d : Addr} {m : Str → Option Value} (k : ∀ b o, g.get? b = some o → h.get? b = some o) (F : Fr g L h' m) (N : News g L h' (rest g h L d)) :
    ∀ b o, b ≠ L → b ≠ d → h.get? b = some o → h'.get? b = some o := fun b o h1 h2 e => by
  cases q : g.get? b with
  | some u =>
    have := k b u q
    rw [e] at this; cases this
    exact F.keep b _ q
  | none => exact (N (b, o) (mem_rest h1 q e h2)).1
end L2

namespace L2
open PySem PySem.Spec PyProof.Rows

/-- the module's facts, over the base: the heap at the law's entry without what is tracked there -/
structure Mod (K : PySem.W.Frag) (mg : Str → Option Value) (base : Heap) : Prop where
  kin : K.In base
  glob : base.Ns mainGlobals mg
  blt : ∃ mb, base.Ns builtinsNs mb ∧ ∀ x : Str, x ≠ "__name__" → mb x = bootBuiltins x
  nolimit : base.NoLimit

/-- the context: a def's body (or a comprehension's block) running. base: fixed through the whole law; s₀, H₀: the entry; outer: the frames whose slots others may change (a def's callers); stack: all frames that run;
   ex: iterators that were made ahead of the entry and are walked here (a comprehension's); fn: the names whose cells were made at the entry (a def: all; a comprehension's block: its own); calm: not within an except suite; pn: pins that every state bears; xe: what is wanted of an exception that leaves the code -/
structure Cx where
  prog : Program
  w : World
  K : PySem.W.Frag
  mg : Str → Option Value
  base : Heap
  A : Around
  N : List Str
  s₀ : Shared
  H₀ : Hp
  env : Env
  outer : List Env
  stack : List Env
  ex : List Addr
  fn : Str → Bool
  calm : Bool
  pn : List (Addr × Obj)
  xe : Value → Shared → Prop
/-- the callers' frames -/
def frs (l : List Env) : List Addr := l.filterMap (·.frame)
abbrev Cx.fs (X : Cx) : List Addr := frs X.outer

def Vis (sc : Scope) (x : Str) : Prop := sc.names.lookup x = some .local ∨ sc.names.lookup x = some .cell ∨ sc.names.lookup x = some .free
def Loc (sc : Scope) (x : Str) : Prop := sc.names.lookup x = some .local ∨ sc.names.lookup x = some .cell
def Look (env : Env) (h : Heap) (m : Str → Option Value) (x : Str) (u : Value) : Prop :=
  (env.kindOf x = some .local ∧ m x = some u) ∨ ((env.kindOf x = some .cell ∨ env.kindOf x = some .free) ∧ ∃ c, env.cells.lookup x = some c ∧ h.IsCell c (some u))

structure Cx.Ok (X : Cx) : Prop where
  mod : Mod X.K X.mg X.base
  kind : X.env.scope.kind = .function
  glob : X.env.globals = mainGlobals
  blt : X.env.builtins = builtinsNs
  above : X.s₀.heap.objs.size ≤ X.env.locals
  inj : ∀ x y c, X.env.cells.lookup x = some c → X.env.cells.lookup y = some c → x = y
  has : ∀ x, (X.env.kindOf x = some .cell ∨ X.env.kindOf x = some .free) → ∃ c, X.env.cells.lookup x = some c
  cab : ∀ x c, X.fn x = true → X.env.cells.lookup x = some c → X.s₀.heap.objs.size ≤ c
  hd : X.calm = true → X.A.handled = none
  frames : X.A.frames = some X.stack
  stk : X.stack = X.outer ∨ (X.stack = X.env :: X.outer ∧ X.env.frame = some X.env.locals)
  exf : ∀ b ∈ X.ex, b ≠ X.env.locals ∧ ∀ x c, X.env.cells.lookup x = some c → c ≠ b
  bs : ∀ b o, X.base.get? b = some o → X.s₀.heap.get? b = some o ∧ X.H₀ b = none
  bsz : X.base.objs.size ≤ X.s₀.heap.objs.size
  noex : ∀ b o, X.base.get? b = some o → b ∉ X.ex
  exfs : ∀ b ∈ X.ex, b ∉ X.fs
  funs : X.s₀.heap.FunFrames X.base X.outer
  frf : ∀ b ∈ X.fs, X.H₀ b = none

structure Inv (X : Cx) (pins : List (Addr × Obj)) (σ : List (Option V)) (H : Hp) (s : Shared) : Prop where
  ok : X.Ok
  os : s.os = X.s₀.os
  bare : AllBare s.gens
  base : Un X.fs X.ex X.H₀ H X.s₀.heap s.heap
  loc : ∃ m, s.heap.Ns X.env.locals m ∧ ∀ (i : Nat) (x : Str) (v : V), X.N[i]? = some x → σ[i]? = some (some v) → Vis X.env.scope x → ∃ u, RelV v u ∧ Look X.env s.heap m x u
  cell : ∀ x c, X.env.cells.lookup x = some c → ∃ v, s.heap.IsCell c v
  free : H X.env.locals = none
  freeC : ∀ x c, X.env.cells.lookup x = some c → H c = none
  pin : ∀ p ∈ X.pn ++ pins, s.heap.get? p.1 = some p.2 ∧ H p.1 = none ∧ p.1 ≠ X.env.locals ∧ p.1 ∉ X.fs ∧ ∀ v, p.2.data ≠ .cell v
  hok : HOk X.prog X.w H s.heap
  len : σ.length = X.N.length

section
variable {X : Cx} {pins : List (Addr × Obj)} {σ : List (Option V)} {H H' : Hp} {s : Shared} {h' : Heap}

theorem Cx.Ok.nofr (ok : X.Ok) {b : Addr} {o : Obj} (e : X.base.get? b = some o) : b ∉ X.fs := fun hb => by
  have := (ok.funs.mem hb).1
  rw [e] at this; cases this
theorem Inv.bs (I : Inv X pins σ H s) : ∀ b o, X.base.get? b = some o → s.heap.get? b = some o ∧ H b = none := fun b o e =>
  ⟨I.base.keep b o (I.ok.bs b o e).1 (I.ok.bs b o e).2 (I.ok.nofr e) (I.ok.noex b o e), I.base.free b o (I.ok.bs b o e).1 (I.ok.bs b o e).2 (I.ok.noex b o e)⟩
theorem Inv.bk (I : Inv X pins σ H s) : ∀ b o, X.base.get? b = some o → s.heap.get? b = some o := fun b o e => (I.bs b o e).1
theorem Inv.mod (I : Inv X pins σ H s) : Mod X.K X.mg X.base := I.ok.mod
theorem Inv.kIn (I : Inv X pins σ H s) : X.K.In s.heap := I.ok.mod.kin.keeps I.bk
theorem Inv.nolimit (I : Inv X pins σ H s) : s.heap.NoLimit := I.ok.mod.nolimit.keeps I.bk
/-- the frame over the base: for OpenK's rules (K.In X.base is I.mod.kin) -/
theorem Inv.fr (I : Inv X pins σ H s) : ∃ m, Fr X.base X.env.locals s.heap m :=
  let ⟨m, hn, _⟩ := I.loc
  ⟨m, hn, I.bk, Nat.le_trans I.ok.bsz I.ok.above⟩
theorem Inv.lt (I : Inv X pins σ H s) : X.env.locals < s.heap.objs.size := let ⟨_, hn, _⟩ := I.loc; hn.lt
theorem Inv.sz (I : Inv X pins σ H s) : X.s₀.heap.objs.size ≤ s.heap.objs.size := Nat.le_trans I.ok.above (Nat.le_of_lt I.lt)
theorem Inv.nofs (I : Inv X pins σ H s) {a : Addr} (h : s.heap.objs.size ≤ a) : a ∉ X.fs := fun hb => by
  obtain ⟨_, o, ho, _⟩ := I.ok.funs.mem hb
  exact absurd (Nat.lt_of_lt_of_le (Heap.lt_size ho) (Nat.le_trans I.sz h)) (Nat.lt_irrefl _)
theorem Inv.cne (I : Inv X pins σ H s) : ∀ x c, X.env.cells.lookup x = some c → c ≠ X.env.locals := fun x c e z => by
  obtain ⟨v, o, ho, hd⟩ := I.cell x c e
  obtain ⟨m, ⟨o', es, ep, ho', hd', _⟩, _⟩ := I.loc
  rw [z, ho'] at ho; cases ho; rw [hd'] at hd; cases hd
theorem Inv.funs (I : Inv X pins σ H s) : s.heap.FunFrames X.base X.outer := by
  have all : ∀ (l : List Env), (∀ b ∈ frs l, b ∈ X.fs) → X.s₀.heap.FunFrames X.base l → s.heap.FunFrames X.base l := by
    intro l
    induction l with
    | nil => intro _ _; trivial
    | cons env r ih =>
      intro hs hl
      obtain ⟨hk, ⟨L, o, hf, hn, ho, hd⟩, hr⟩ := hl
      have hL : L ∈ X.fs := hs L (by unfold frs; rw [List.filterMap_cons, hf]; exact List.mem_cons_self)
      obtain ⟨sl, e⟩ := I.base.slot L o ho (I.ok.frf L hL) hL fun z => I.ok.exfs L z hL
      exact ⟨hk, ⟨L, _, hf, hn, e, hd⟩, ih (fun b hb => hs b (by unfold frs; rw [List.filterMap_cons, hf]; exact List.mem_cons_of_mem _ hb)) hr⟩
  exact all X.outer (fun _ hb => hb) I.ok.funs

/-- the frames that run, for a call -/
theorem Inv.stack (I : Inv X pins σ H s) : s.heap.FunFrames X.base X.stack := by
  rcases I.ok.stk with e | ⟨e, hf⟩
  · rw [e]; exact I.funs
  · rw [e]
    obtain ⟨m, hn, _⟩ := I.loc
    refine .cons (by rw [I.ok.kind]; decide) hf hn ?_ I.funs
    exact Heap.get?_none_of_le (Nat.le_trans I.ok.bsz I.ok.above)
theorem Inv.stkSub (I : Inv X pins σ H s) : ∀ b ∈ frs X.stack, b ∈ X.env.locals :: X.fs := fun b hb => by
  rcases I.ok.stk with e | ⟨e, hf⟩
  · rw [e] at hb; exact List.mem_cons_of_mem _ hb
  · rw [e] at hb
    unfold frs at hb
    rw [List.filterMap_cons, hf] at hb
    exact hb
theorem Inv.stkFree (I : Inv X pins σ H s) : ∀ b ∈ frs X.stack, H b = none := fun b hb => by
  rcases List.mem_cons.mp (I.stkSub b hb) with e | hb
  · rw [e]; exact I.free
  · obtain ⟨_, o, ho, _⟩ := I.ok.funs.mem hb
    exact I.base.free b o ho (I.ok.frf b hb) fun z => I.ok.exfs b z hb

/-- THE STEP: the untracked objects but the frame and the records at ch are kept (the callers' frames up to slots), the frame's map is kept, the new abstract heap is held -/
theorem Inv.step {g' : Array GenState} {t' : Nat} {d' : Drawn} {ch : List Addr} (I : Inv X pins σ H s)
    (hch : ∀ b ∈ ch, (b ∈ X.ex ∨ X.s₀.heap.objs.size ≤ b) ∧ b ≠ X.env.locals ∧ (∀ x c, X.env.cells.lookup x = some c → c ≠ b) ∧ ∀ p ∈ X.pn ++ pins, p.1 ≠ b)
    (keep : ∀ b o, b ≠ X.env.locals → b ∉ X.fs → b ∉ ch → s.heap.get? b = some o → H b = none → h'.get? b = some o)
    (slot : ∀ b o, b ≠ X.env.locals → b ∈ X.fs → b ∉ ch → s.heap.get? b = some o → H b = none → ∃ sl, h'.get? b = some { o with slots := sl }) (free : ∀ b o, b ∉ ch → s.heap.get? b = some o → H b = none → H' b = none)
    (there : ∀ b o, b ∉ ch → s.heap.get? b = some o → ∃ o', h'.get? b = some o')
    (tups : ∀ b xs, H b = some (.tup xs) → H' b = some (.tup xs)) (frzs : ∀ b o u, H b = some (.frz o u) → H' b = some (.frz o u)) (tbls : ∀ b ps, H b = some (.tbl ps) → ∃ more, H' b = some (.tbl (ps ++ more)))
    (ns : ∀ m, s.heap.Ns X.env.locals m → h'.Ns X.env.locals m) (hok : HOk X.prog X.w H' h') (hg : AllBare g') :
    Inv X pins σ H' { s with heap := h', gens := g', drawn := d', toks := t' } := by
  have neL : ∀ b o, X.s₀.heap.get? b = some o → b ≠ X.env.locals := fun b o e => Nat.ne_of_lt (Nat.lt_of_lt_of_le (Heap.lt_size e) I.ok.above)
  have neC : ∀ b o, X.s₀.heap.get? b = some o → b ∉ X.ex → b ∉ ch := fun b o e hx hb => by
    rcases (hch b hb).1 with z | z
    · exact hx z
    · exact absurd (Nat.lt_of_lt_of_le (Heap.lt_size e) z) (Nat.lt_irrefl _)
  have cellK : ∀ x c, X.env.cells.lookup x = some c → ∀ v, s.heap.IsCell c v → h'.IsCell c v := fun x c e v ⟨o, ho, hd⟩ => by
    have nch : c ∉ ch := fun z => (hch c z).2.2.1 x c e rfl
    by_cases hc : c ∈ X.fs
    · obtain ⟨sl, q⟩ := slot c o (I.cne x c e) hc nch ho (I.freeC x c e)
      exact ⟨_, q, hd⟩
    · exact ⟨o, keep c o (I.cne x c e) hc nch ho (I.freeC x c e), hd⟩
  refine ⟨I.ok, I.os, hg, ⟨fun b o e n hb hx => ?_, fun b o e n hb hx => ?_, fun b o e n hx => ?_, fun b o e hx => ?_, fun b xs e => tups b xs (I.base.tups b xs e), fun b o xs e => frzs b o xs (I.base.frzs b o xs e), fun b ps e => ?_⟩, ?_, fun x c e => ?_, ?_, fun x c e => ?_, fun p hp => ?_, hok, I.len⟩
  · exact keep b o (neL b o e) hb (neC b o e hx) (I.base.keep b o e n hb hx) (I.base.free b o e n hx)
  · obtain ⟨sl, e1⟩ := I.base.slot b o e n hb hx
    obtain ⟨sl', e2⟩ := slot b _ (neL b o e) hb (neC b o e hx) e1 (I.base.free b o e n hx)
    exact ⟨sl', e2⟩
  · obtain ⟨o', e1⟩ := I.base.there b o e hx
    exact free b o' (neC b o e hx) e1 (I.base.free b o e n hx)
  · obtain ⟨o', e1⟩ := I.base.there b o e hx
    exact there b o' (neC b o e hx) e1
  · obtain ⟨m1, e1⟩ := I.base.tbls b ps e
    obtain ⟨m2, e2⟩ := tbls b _ e1
    exact ⟨m1 ++ m2, by rw [e2, Array.append_assoc]⟩
  · obtain ⟨m, hn, hl⟩ := I.loc
    refine ⟨m, ns m hn, fun i x v e1 e2 e3 => ?_⟩
    obtain ⟨u, r, l⟩ := hl i x v e1 e2 e3
    refine ⟨u, r, ?_⟩
    rcases l with l | ⟨k, c, e, z⟩
    · exact .inl l
    · exact .inr ⟨k, c, e, cellK x c e _ z⟩
  · obtain ⟨v, z⟩ := I.cell x c e
    exact ⟨v, cellK x c e v z⟩
  · obtain ⟨m, ⟨o, _, _, ho, _⟩, _⟩ := I.loc
    exact free _ o (fun z => (hch _ z).2.1 rfl) ho I.free
  · obtain ⟨v, o, ho, hd⟩ := I.cell x c e
    exact free c o (fun z => (hch c z).2.2.1 x c e rfl) ho (I.freeC x c e)
  · obtain ⟨e, n, ne, nf, d⟩ := I.pin p hp
    have nch : p.1 ∉ ch := fun z => (hch p.1 z).2.2.2 p hp rfl
    exact ⟨keep p.1 p.2 ne nf nch e n, free p.1 p.2 nch e n, ne, nf, d⟩
/-- .. where the frame's own object is kept too -/
theorem Inv.un {t' : Nat} (I : Inv X pins σ H s) (u : Un X.fs [] H H' s.heap h') (hok : HOk X.prog X.w H' h') : Inv X pins σ H' { s with heap := h', toks := t' } := by
  obtain ⟨m, ⟨o, es, ep, ho, r⟩, _⟩ := id I.loc
  obtain ⟨sl, hL⟩ := u.any ho I.free (by simp)
  exact I.step (g' := s.gens) (d' := s.drawn) (ch := []) (fun _ z => nomatch z) (fun b o _ hb _ e n => u.keep b o e n hb (by simp)) (fun b o _ hb _ e n => u.slot b o e n hb (by simp)) (fun b o _ e n => u.free b o e n (by simp)) (fun b o _ e => u.there b o e (by simp)) u.tups u.frzs u.tbls (fun m' hm => by
    obtain ⟨o', es', ep', ho', r'⟩ := hm
    rw [ho] at ho'; cases ho'
    exact ⟨_, es', ep', hL, r'⟩) hok I.bare
/-- behind a call (or a comprehension's block): the slots of this frame may have changed too, the records at ch may have turned -/
theorem Inv.call {g' : Array GenState} {t' : Nat} {d' : Drawn} {ch : List Addr} (I : Inv X pins σ H s) (u : Un (frs X.stack) ch H H' s.heap h') (hok : HOk X.prog X.w H' h') (hg : AllBare g')
    (hch : ∀ b ∈ ch, (b ∈ X.ex ∨ X.s₀.heap.objs.size ≤ b) ∧ b ≠ X.env.locals ∧ (∀ x c, X.env.cells.lookup x = some c → c ≠ b) ∧ ∀ p ∈ X.pn ++ pins, p.1 ≠ b) :
    Inv X pins σ H' { s with heap := h', gens := g', drawn := d', toks := t' } := by
  obtain ⟨m, ⟨o, es, ep, ho, r⟩, _⟩ := id I.loc
  obtain ⟨sl, hL⟩ := u.any ho I.free fun z => (hch _ z).2.1 rfl
  exact I.step (ch := ch) hch (fun b o hL hb hc e n => u.keep b o e n (fun z => (List.mem_cons.mp (I.stkSub b z)).elim hL hb) hc) (fun b o _ _ hc e n => u.any e n hc) (fun b o hc e n => u.free b o e n hc) (fun b o hc e => u.there b o e hc) u.tups u.frzs u.tbls (fun m' hm => by
    obtain ⟨o', es', ep', ho', r'⟩ := hm
    rw [ho] at ho'; cases ho'
    exact ⟨_, es', ep', hL, r'⟩) hok hg
/-- an untracked record of ours (an iterator) has turned -/
theorem Inv.turned {t' : Nat} {it : Addr} (I : Inv X pins σ H s) (k : ∀ b o, b ≠ it → s.heap.get? b = some o → h'.get? b = some o) (hn : H it = none) (hL : it ≠ X.env.locals)
    (h1 : it ∈ X.ex ∨ X.s₀.heap.objs.size ≤ it) (h2 : ∀ x c, X.env.cells.lookup x = some c → c ≠ it) (h3 : ∀ p ∈ X.pn ++ pins, p.1 ≠ it) : Inv X pins σ H { s with heap := h', toks := t' } := by
  have nit : ∀ b u, H b = some u → b ≠ it := fun b u e z => by rw [z, hn] at e; cases e
  refine I.step (g' := s.gens) (d' := s.drawn) (ch := [it]) (fun b hb => ?_) (fun b o _ _ hc e _ => k b o (fun z => hc (by simp [z])) e) (fun b o _ _ hc e _ => ⟨o.slots, k b o (fun z => hc (by simp [z])) e⟩) (fun _ _ _ _ n => n)
    (fun b o hc e => ⟨o, k b o (fun z => hc (by simp [z])) e⟩) (fun _ _ e => e) (fun _ _ _ e => e) (fun b ps e => ⟨#[], by rw [e]; simp⟩) (fun m hm => ?_) (fun b u e => ?_) I.bare
  · have e : b = it := by simpa using hb
    subst e
    exact ⟨h1, hL, h2, h3⟩
  · obtain ⟨o, es, ep, ho, r⟩ := hm
    exact ⟨o, es, ep, k _ o (Ne.symm hL) ho, r⟩
  · refine (I.hok b u e).stay (fun c v hc q => k c v ?_ q) (fun _ q => q) fun _ _ q => q
    rcases hc with z | z
    · rw [z]; exact nit b u e
    · exact nit c _ z
theorem Inv.tok (I : Inv X pins σ H s) (t : Nat) : Inv X pins σ H { s with toks := t } := I.un (h' := s.heap) (t' := t) Un.refl I.hok
/-- all objects kept -/
theorem Inv.kept {t' : Nat} (I : Inv X pins σ H s) (k : ∀ b u, s.heap.get? b = some u → h'.get? b = some u) : Inv X pins σ H { s with heap := h', toks := t' } := I.un (Un.kept k) (I.hok.kept k)
/-- a new object laid and tracked -/
theorem Inv.laid {a : Addr} {o : HO} {t' : Nat} (I : Inv X pins σ H s) (k : ∀ b u, s.heap.get? b = some u → h'.get? b = some u) (hp : s.heap.objs.size ≤ a) (new : ObjOk X.prog X.w (upd H a o) h' a o) :
    Inv X pins σ (upd H a o) { s with heap := h', toks := t' } := I.un (Un.laid k hp (I.hok.fresh hp)) (I.hok.laid k hp new)
/-- an object written -/
theorem Inv.write {x e : Addr} {o : HO} {t' : Nat} (I : Inv X pins σ H s) (mu : Mut (H x)) (he : e = x ∨ H e = some (.own x)) (k : ∀ b u, b ≠ e → s.heap.get? b = some u → h'.get? b = some u) (heo : ∃ u, h'.get? e = some u)
    (new : ObjOk X.prog X.w (upd H x o) h' x o) : Inv X pins σ (upd H x o) { s with heap := h', toks := t' } := I.un (Un.write mu he k heo) (I.hok.write mu he k heo new)
/-- forgetting slots, pins -/
theorem Inv.weak {σ' : List (Option V)} (I : Inv X pins σ H s) (hl : σ'.length = σ.length) (w : ∀ (i : Nat) v, σ'[i]? = some (some v) → σ[i]? = some (some v)) : Inv X pins σ' H s :=
  ⟨I.ok, I.os, I.bare, I.base, let ⟨m, hn, hl'⟩ := I.loc; ⟨m, hn, fun i x v e1 e2 e3 => hl' i x v e1 (w i v e2) e3⟩, I.cell, I.free, I.freeC, I.pin, I.hok, hl.trans I.len⟩
theorem Inv.pins_of {pins' : List (Addr × Obj)} (I : Inv X pins σ H s) (h : ∀ p ∈ pins', s.heap.get? p.1 = some p.2 ∧ H p.1 = none ∧ p.1 ≠ X.env.locals ∧ p.1 ∉ X.fs ∧ ∀ v, p.2.data ≠ .cell v) : Inv X pins' σ H s :=
  ⟨I.ok, I.os, I.bare, I.base, I.loc, I.cell, I.free, I.freeC, fun p hp => (List.mem_append.mp hp).elim (fun z => I.pin p (List.mem_append_left _ z)) (h p), I.hok, I.len⟩

theorem nodup_ix {N : List Str} (hN : N.Nodup) {i j : Nat} {x : Str} (a : N[i]? = some x) (b : N[j]? = some x) : i = j := by
  obtain ⟨h1, e1⟩ := List.getElem?_eq_some_iff.mp a
  obtain ⟨h2, e2⟩ := List.getElem?_eq_some_iff.mp b
  exact (List.getElem_inj hN).mp (e1.trans e2.symm)

/-- a name is stored; what changed -/
theorem store_ok2 {M : Model} {A : Around} {E : Value → Shared → Prop} {i : Nat} {x : Str} {v : V} {u : Value} {Q : Unit → Shared → Prop} (I : Inv X pins σ H s) (hN : X.N.Nodup) (hi : X.N[i]? = some x) (hx : Loc X.env.scope x) (r : RelV v u)
    (h : ∀ s', Inv X pins (σ.set i (some v)) H s' → (∃ a, Heap.SameBut a s.heap s'.heap ∧ (a = X.env.locals ∨ X.env.cells.lookup x = some a)) → Q () s') (hf : X.fn x = true ∨ X.env.scope.names.lookup x = some .local := by first | exact .inl rfl | exact .inr rfl | assumption) : wpAny M A (storeName X.env x u) Q E s := by
  obtain ⟨m, hn, hl⟩ := id I.loc
  have hcls : (X.env.scope.kind == .class || (X.env.scope.kind == .module && X.env.locals != X.env.globals)) = false := by rw [I.ok.kind]; rfl
  have hiσ : i < σ.length := by rw [I.len]; exact (List.getElem?_eq_some_iff.mp hi).1
  have cne := I.cne
  have tracked : ∀ {a : Addr} {h' : Heap}, (∃ o, s.heap.get? a = some o ∧ H a = none) → Heap.SameBut a s.heap h' → HOk X.prog X.w H h' := fun {a h'} ha hs b ob e => by
    obtain ⟨_, _, hfree⟩ := ha
    refine (I.hok b ob e).stay (fun c w' hc q => (hs.2 c ?_).trans q) (fun _ q => q) fun _ _ q => q
    rintro rfl
    rcases hc with rfl | hc
    · rw [hfree] at e; cases e
    · rw [hfree] at hc; cases hc
  rcases hx with hk | hk
  · refine wpAny_storeName_local hk hn (fun h' hn' hs => ?_) hcls
    obtain ⟨oL, _, _, hoL, _⟩ := id hn
    refine h _ ⟨I.ok, I.os, I.bare, ⟨fun b o e n hb hx => ?_, fun b o e n hb hx => ?_, I.base.free, fun b o e hx => ?_, I.base.tups, I.base.frzs, I.base.tbls⟩, ⟨_, hn', fun j y v' e1 e2 e3 => ?_⟩, fun y c e => ?_, I.free, I.freeC, fun p hp => ?_, tracked ⟨oL, hoL, I.free⟩ hs, by simpa using I.len⟩ ⟨_, hs, .inl rfl⟩
    · exact (hs.2 b (Nat.ne_of_lt (Nat.lt_of_lt_of_le (Heap.lt_size e) I.ok.above))).trans (I.base.keep b o e n hb hx)
    · obtain ⟨sl, e1⟩ := I.base.slot b o e n hb hx
      exact ⟨sl, (hs.2 b (Nat.ne_of_lt (Nat.lt_of_lt_of_le (Heap.lt_size e) I.ok.above))).trans e1⟩
    · obtain ⟨o', e1⟩ := I.base.there b o e hx
      exact ⟨o', (hs.2 b (Nat.ne_of_lt (Nat.lt_of_lt_of_le (Heap.lt_size e) I.ok.above))).trans e1⟩
    · by_cases hj : j = i
      · subst hj
        rw [hi] at e1; cases e1
        rw [List.getElem?_set_self hiσ] at e2
        cases e2
        exact ⟨u, r, .inl ⟨hk, by simp⟩⟩
      · rw [List.getElem?_set_ne (Ne.symm hj)] at e2
        obtain ⟨u', r', q⟩ := hl j y v' e1 e2 e3
        refine ⟨u', r', ?_⟩
        rcases q with ⟨k, e⟩ | ⟨k, c, e, z⟩
        · refine .inl ⟨k, ?_⟩
          have : y ≠ x := fun e => hj (nodup_ix hN e1 (e ▸ hi))
          simp [this, e]
        · exact .inr ⟨k, c, e, z.sameBut hs (cne y c e)⟩
    · obtain ⟨w', z⟩ := I.cell y c e
      exact ⟨w', z.sameBut hs (cne y c e)⟩
    · obtain ⟨e, n, ne, nf, d⟩ := I.pin p hp
      exact ⟨(hs.2 p.1 ne).trans e, n, ne, nf, d⟩
  · have hfn : X.fn x = true := by
      rcases hf with z | z
      · exact z
      · rw [z] at hk; cases hk
    obtain ⟨c, hc⟩ := I.ok.has x (.inl hk)
    obtain ⟨w', z⟩ := I.cell x c hc
    refine wpAny_storeName_cell I.ok.kind hk hc z (fun h' hc' hs => ?_)
    obtain ⟨oc, hoc, hocd⟩ := id z
    refine h { s with heap := h' } ⟨I.ok, I.os, I.bare, ⟨fun b o e n hb hx => ?_, fun b o e n hb hx => ?_, I.base.free, fun b o e hx => ?_, I.base.tups, I.base.frzs, I.base.tbls⟩, ⟨m, hn.sameBut hs (Ne.symm (cne x c hc)), fun j y v' e1 e2 e3 => ?_⟩, fun y c' e => ?_, I.free, I.freeC, fun p hp => ?_, tracked ⟨oc, hoc, I.freeC x c hc⟩ hs, by simpa using I.len⟩ ⟨c, hs, .inr hc⟩
    · exact (hs.2 b (Nat.ne_of_lt (Nat.lt_of_lt_of_le (Heap.lt_size e) (I.ok.cab x c hfn hc)))).trans (I.base.keep b o e n hb hx)
    · obtain ⟨sl, e1⟩ := I.base.slot b o e n hb hx
      exact ⟨sl, (hs.2 b (Nat.ne_of_lt (Nat.lt_of_lt_of_le (Heap.lt_size e) (I.ok.cab x c hfn hc)))).trans e1⟩
    · obtain ⟨o', e1⟩ := I.base.there b o e hx
      exact ⟨o', (hs.2 b (Nat.ne_of_lt (Nat.lt_of_lt_of_le (Heap.lt_size e) (I.ok.cab x c hfn hc)))).trans e1⟩
    · by_cases hj : j = i
      · subst hj
        rw [hi] at e1; cases e1
        rw [List.getElem?_set_self hiσ] at e2
        cases e2
        exact ⟨u, r, .inr ⟨.inl hk, c, hc, hc'⟩⟩
      · rw [List.getElem?_set_ne (Ne.symm hj)] at e2
        obtain ⟨u', r', q⟩ := hl j y v' e1 e2 e3
        refine ⟨u', r', ?_⟩
        rcases q with q | ⟨k, c', e, z'⟩
        · exact .inl q
        · refine .inr ⟨k, c', e, z'.sameBut hs ?_⟩
          rintro rfl
          exact hj (nodup_ix hN e1 (I.ok.inj _ _ _ e hc ▸ hi))
    · by_cases hcc : c' = c
      · subst hcc; exact ⟨_, hc'⟩
      · obtain ⟨w2, z2⟩ := I.cell y c' e
        exact ⟨w2, z2.sameBut hs hcc⟩
    · obtain ⟨e, n, ne, nf, d⟩ := I.pin p hp
      refine ⟨(hs.2 p.1 ?_).trans e, n, ne, nf, d⟩
      intro q
      rw [q, hoc] at e
      have q' : oc = p.2 := Option.some.inj e
      exact d w' (by rw [← q']; exact hocd)
theorem store_ok {M : Model} {A : Around} {E : Value → Shared → Prop} {i : Nat} {x : Str} {v : V} {u : Value} {Q : Unit → Shared → Prop} (I : Inv X pins σ H s) (hN : X.N.Nodup) (hi : X.N[i]? = some x) (hx : Loc X.env.scope x) (r : RelV v u)
    (h : ∀ s', Inv X pins (σ.set i (some v)) H s' → Q () s') (hf : X.fn x = true ∨ X.env.scope.names.lookup x = some .local := by first | exact .inl rfl | exact .inr rfl | assumption) : wpAny M A (storeName X.env x u) Q E s :=
  store_ok2 I hN hi hx r (fun s' I' _ => h s' I') hf
/-- behind a call or a block, the state as it is -/
theorem Inv.call' {s' : Shared} {ch : List Addr} (I : Inv X pins σ H s) (ho : s'.os = s.os) (u : Un (frs X.stack) ch H H' s.heap s'.heap) (hok : HOk X.prog X.w H' s'.heap) (hg : AllBare s'.gens)
    (hch : ∀ b ∈ ch, (b ∈ X.ex ∨ X.s₀.heap.objs.size ≤ b) ∧ b ≠ X.env.locals ∧ (∀ x c, X.env.cells.lookup x = some c → c ≠ b) ∧ ∀ p ∈ X.pn ++ pins, p.1 ≠ b) : Inv X pins σ H' s' := by
  obtain ⟨h', g', d', t', o'⟩ := s'
  have e : o' = s.os := ho
  subst e
  exact I.call (g' := g') (t' := t') (d' := d') u hok hg hch
end

/-! ### the judgements -/
/-- an exception: its class, its own dict's address (where it has one), the abstract heap behind it -/
abbrev XK := Value → Option Addr → Hp → Prop
abbrev St := List (Option V)
abbrev VK := V → Hp → Prop
/-- an expression's reading; a test's; an argument list's -/
abbrev TE := St → Hp → VK → Prop
abbrev TT := St → Hp → (Bool → Hp → Prop) → Prop
abbrev TA := St → Hp → (List V → Hp → Prop) → Prop
/-- what is wanted behind a statement -/
structure Ends where
  nx : St → Hp → Prop
  rt : VK
  bk : St → Hp → Prop := fun _ _ => False
  ct : St → Hp → Prop := fun _ _ => False
abbrev TS := Ends → St → Hp → Prop

def EP (X : Cx) (pins : List (Addr × Obj)) (σ : St) (Q : VK) (u : Value) (s' : Shared) : Prop := ∃ v H', Inv X pins σ H' s' ∧ RelV v u ∧ Q v H'
def TP (X : Cx) (pins : List (Addr × Obj)) (σ : St) (Q : Bool → Hp → Prop) (b : Bool) (s' : Shared) : Prop := ∃ H', Inv X pins σ H' s' ∧ Q b H'
def AP (X : Cx) (pins : List (Addr × Obj)) (σ : St) (Q : List V → Hp → Prop) (us : List Value) (s' : Shared) : Prop := ∃ vs H', Inv X pins σ H' s' ∧ Vals vs us ∧ Q vs H'
def SP (X : Cx) (pins : List (Addr × Obj)) (D : Ends) (f : Flow) (s' : Shared) : Prop :=
  match f with
  | .next => ∃ σ' H', Inv X pins σ' H' s' ∧ D.nx σ' H'
  | .brk => ∃ σ' H', Inv X pins σ' H' s' ∧ D.bk σ' H'
  | .cont => ∃ σ' H', Inv X pins σ' H' s' ∧ D.ct σ' H'
  | .ret u => ∃ v σ' H', Inv X pins σ' H' s' ∧ RelV v u ∧ D.rt v H'

def PE (X : Cx) (e : Expr) (t : TE) : Prop :=
  ∀ (pins : List (Addr × Obj)) (s : Shared) (σ : St) (H : Hp) (Q : VK), Inv X pins σ H s → t σ H Q → wpAny (model X.prog X.w) X.A (eval e X.env) (EP X pins σ Q) X.xe s
def PT (X : Cx) (e : Expr) (t : TT) : Prop :=
  ∀ (pins : List (Addr × Obj)) (s : Shared) (σ : St) (H : Hp) (Q : Bool → Hp → Prop), Inv X pins σ H s → t σ H Q → wpAny (model X.prog X.w) X.A (isTrue e X.env (eval e X.env)) (TP X pins σ Q) X.xe s
/-- a test whatever its 'whole' is (and, or) -/
def PW (X : Cx) (e : Expr) (t : TT) : Prop :=
  ∀ (whole : Sem Value) (pins : List (Addr × Obj)) (s : Shared) (σ : St) (H : Hp) (Q : Bool → Hp → Prop), Inv X pins σ H s → t σ H Q → wpAny (model X.prog X.w) X.A (isTrue e X.env whole) (TP X pins σ Q) X.xe s
theorem PW.pt {X : Cx} {e : Expr} {t : TT} (h : PW X e t) : PT X e t := h _
/-- an argument list (no star), from the left -/
def PA (X : Cx) (es : List Expr) (t : TA) : Prop :=
  ∀ (pos : Pos) (pins : List (Addr × Obj)) (s : Shared) (σ : St) (H : Hp) (Q : List V → Hp → Prop), Inv X pins σ H s → t σ H Q → wpAny (model X.prog X.w) X.A (spliced (backTo pos (starEach es X.env))) (AP X pins σ Q) X.xe s
def PS (X : Cx) (st : Stmt) (t : TS) : Prop :=
  ∀ (pins : List (Addr × Obj)) (s : Shared) (σ : St) (H : Hp) (D : Ends), Inv X pins σ H s → t D σ H → wpAny (model X.prog X.w) X.A (exec st X.env) (SP X pins D) X.xe s
def PSs (X : Cx) (st : List Stmt) (t : TS) : Prop :=
  ∀ (pins : List (Addr × Obj)) (s : Shared) (σ : St) (H : Hp) (D : Ends), Inv X pins σ H s → t D σ H → wpAny (model X.prog X.w) X.A (execs st X.env) (SP X pins D) X.xe s
/-- weaken the end -/
theorem thn {α : Type} {t : Sem α} {Q Q' : α → Shared → Prop} {M : Model} {A : Around} {E : Value → Shared → Prop} {s : Shared} (h : wpAny M A t Q E s) (hQ : ∀ a s, Q a s → Q' a s) : wpAny M A t Q' E s := wpAny_mono h hQ fun _ _ x => x
end L2

namespace L2
open PySem PySem.Spec PyProof.Rows
section
variable {X : Cx}

/-- two expressions in a row -/
theorem bin {a b : Expr} {ta tb : TE} (ha : PE X a ta) (hb : PE X b tb) {pins : List (Addr × Obj)} {s : Shared} {σ : St} {H : Hp} {R : V → V → Hp → Prop} (I : Inv X pins σ H s) (h : ta σ H fun x H1 => tb σ H1 fun y H2 => R x y H2)
    {α : Type} {Q : α → Shared → Prop} {f : Value → Value → Sem α}
    (hf : ∀ v u s2 x y H2, Inv X pins σ H2 s2 → RelV x v → RelV y u → R x y H2 → wpAny (model X.prog X.w) X.A (f v u) Q X.xe s2) :
    wpAny (model X.prog X.w) X.A (eval a X.env) (fun v s₁ => wpAny (model X.prog X.w) X.A (eval b X.env) (fun u s₂ => wpAny (model X.prog X.w) X.A (f v u) Q X.xe s₂) X.xe s₁) X.xe s := by
  refine thn (ha pins s σ H _ I h) fun v s1 ⟨x, H1, I1, r1, q1⟩ => ?_
  refine thn (hb pins s1 σ H1 _ I1 q1) fun u s2 ⟨y, H2, I2, r2, q2⟩ => ?_
  exact hf v u s2 x y H2 I2 r1 r2 q2

/-! ### names and constants -/
def tVar (i : Nat) : TE := fun σ H Q => ∃ v, σ[i]? = some (some v) ∧ Q v H
def tC (v : V) : TE := fun _ H Q => Q v H
theorem pe_var {i : Nat} {x : Str} {pos : Pos} (hN : X.N[i]? = some x) (hv : Vis X.env.scope x) (hd : (x == ("__debug__" : Str)) = false := by decide) (hcd : (x == ("__classdict__" : Str)) = false := by decide) : PE X (.Name x pos) (tVar i) := by
  intro pins s σ H Q I h
  obtain ⟨v, e, h⟩ := h
  obtain ⟨m, hn, hl⟩ := I.loc
  obtain ⟨u, r, l⟩ := hl i x v hN e hv
  have fin : EP X pins σ Q u s := ⟨v, H, I, r, h⟩
  rcases l with ⟨hk, hm⟩ | ⟨hk, c, hc, hcell⟩
  · exact wpAny_Name (wpAny_loadName_local I.ok.kind hk hn hm fin) hd
  · rcases hk with hk | hk
    · exact wpAny_Name (wpAny_loadName_cell I.ok.kind hk hc hcell fin) hd
    · exact wpAny_Name (wpAny_loadName_free I.ok.kind hk hc hcell fin hcd) hd
theorem pe_int {i j pos} : PE X (.Constant (.int i) j pos) (tC (.int i)) := fun _ _ _ H _ I h => wpAny_Constant_int ⟨.int i, H, I.tok _, ⟨_, rfl⟩, h⟩
theorem pe_bl {b j pos} : PE X (.Constant (.bool b) j pos) (tC (.bl b)) := fun _ _ _ H _ I h => Constant_bool ⟨.bl b, H, I, rfl, h⟩
theorem pe_non {j pos} : PE X (.Constant .none j pos) (tC .non) := fun _ _ _ H _ I h => Constant_none ⟨.non, H, I, rfl, h⟩
theorem pe_str {x j pos} : PE X (.Constant (.str x) j pos) (tC (.str x)) := fun _ _ _ H _ I h => Calls.Constant_str ⟨.str x, H, I.tok _, ⟨_, rfl⟩, h⟩

/-- a global name of the def -/
def Gl (X : Cx) (x : Str) : Prop := X.env.kindOf x = some .globalImplicit
theorem ld_glob {E : Value → Shared → Prop} {pins : List (Addr × Obj)} {s : Shared} {σ : St} {H : Hp} {x : Str} {u : Value} {pos : Pos} {Q : Value → Shared → Prop} (I : Inv X pins σ H s) (hg : Gl X x) (hm : X.mg x = some u) (h : Q u s)
    (hd : (x == ("__debug__" : Str)) = false := by decide) : wpAny (model X.prog X.w) X.A (eval (.Name x pos) X.env) Q E s :=
  Calls.Name_function_global I.ok.kind hg (Calls.loadGlobal_global (by rw [I.ok.glob]; exact I.mod.glob.keeps I.bk) hm h) hd
theorem ld_blt {E : Value → Shared → Prop} {pins : List (Addr × Obj)} {s : Shared} {σ : St} {H : Hp} {x : Str} {u : Value} {pos : Pos} {Q : Value → Shared → Prop} (I : Inv X pins σ H s) (hg : Gl X x) (hm : X.mg x = none) (hv : bootBuiltins x = some u) (h : Q u s)
    (hn : x ≠ "__name__" := by decide) (hd : (x == ("__debug__" : Str)) = false := by decide) : wpAny (model X.prog X.w) X.A (eval (.Name x pos) X.env) Q E s := by
  obtain ⟨mb, h1, h2⟩ := I.mod.blt
  exact Calls.Name_function_global I.ok.kind hg (Calls.loadGlobal_builtin (by rw [I.ok.glob]; exact I.mod.glob.keeps I.bk) hm (by rw [I.ok.blt]; exact h1.keeps I.bk) ((h2 x hn).trans hv) h) hd
/-- a module's constant, a class, a function, as a value -/
theorem pe_glob {x : Str} {v : V} {u : Value} {pos : Pos} (hg : Gl X x) (hm : X.mg x = some u) (r : RelV v u) (hd : (x == ("__debug__" : Str)) = false := by decide) : PE X (.Name x pos) (tC v) :=
  fun _ _ _ H _ I h => ld_glob I hg hm ⟨v, H, I, r, h⟩ hd
theorem pe_bltn {x : Str} {v : V} {u : Value} {pos : Pos} (hg : Gl X x) (hm : X.mg x = none) (hv : bootBuiltins x = some u) (r : RelV v u) (hn : x ≠ "__name__" := by decide) (hd : (x == ("__debug__" : Str)) = false := by decide) : PE X (.Name x pos) (tC v) :=
  fun _ _ _ H _ I h => ld_blt I hg hm hv ⟨v, H, I, r, h⟩ hn hd

/-! ### arithmetic -/
/-- two ints -/
def t2I (ta tb : TE) (k : Int → Int → Hp → Prop) : St → Hp → Prop := fun σ H => ta σ H fun x H1 => tb σ H1 fun y H2 => ∃ i j, x = .int i ∧ y = .int j ∧ k i j H2
def tAdd (ta tb : TE) : TE := fun σ H Q => t2I ta tb (fun i j H2 => Q (.int (i + j)) H2) σ H
def tSub (ta tb : TE) : TE := fun σ H Q => t2I ta tb (fun i j H2 => Q (.int (i - j)) H2) σ H
/-- the left factor below 2^64 -/
def tMul (ta tb : TE) : TE := fun σ H Q => t2I ta tb (fun i j H2 => (-(2 ^ 64) < i ∧ i < 2 ^ 64) ∧ Q (.int (i * j)) H2) σ H
variable {a b : Expr} {ta tb : TE} {pos : Pos}
theorem pe_add (ha : PE X a ta) (hb : PE X b tb) : PE X (.BinOp a .Add b pos) (tAdd ta tb) := by
  intro pins s σ H Q I h
  refine wpAny_BinOp (bin ha hb I h fun v u s2 x y H2 I2 rx ry q => ?_)
  obtain ⟨i, j, rfl, rfl, q⟩ := q
  obtain ⟨t, rfl⟩ := rx
  obtain ⟨t', rfl⟩ := ry
  exact add_int ⟨.int _, H2, I2.tok _, ⟨_, rfl⟩, q⟩
theorem pe_sub (ha : PE X a ta) (hb : PE X b tb) : PE X (.BinOp a .Sub b pos) (tSub ta tb) := by
  intro pins s σ H Q I h
  refine wpAny_BinOp (bin ha hb I h fun v u s2 x y H2 I2 rx ry q => ?_)
  obtain ⟨i, j, rfl, rfl, q⟩ := q
  obtain ⟨t, rfl⟩ := rx
  obtain ⟨t', rfl⟩ := ry
  exact sub_int ⟨.int _, H2, I2.tok _, ⟨_, rfl⟩, q⟩
theorem pe_mul (ha : PE X a ta) (hb : PE X b tb) : PE X (.BinOp a .Mult b pos) (tMul ta tb) := by
  intro pins s σ H Q I h
  refine wpAny_BinOp (bin ha hb I h fun v u s2 x y H2 I2 rx ry q => ?_)
  obtain ⟨i, j, rfl, rfl, ⟨q1, q2⟩, q⟩ := q
  obtain ⟨t, rfl⟩ := rx
  obtain ⟨t', rfl⟩ := ry
  exact mul_int ⟨.int _, H2, I2.tok _, ⟨_, rfl⟩, q⟩ (.of_left (intBits_le_64 q1 q2))

/-! ### comparisons -/
def PC (X : Cx) (op : CmpOp) (a b : Expr) (t : TE) : Prop :=
  ∀ (pins : List (Addr × Obj)) (s : Shared) (σ : St) (H : Hp) (Q : VK), Inv X pins σ H s → t σ H Q →
    wpAny (model X.prog X.w) X.A (eval a X.env) (fun v s₁ => wpAny (model X.prog X.w) X.A (eval b X.env) (fun u s₂ => wpAny (model X.prog X.w) X.A (compareOp op v u) (EP X pins σ Q) X.xe s₂) X.xe s₁) X.xe s
theorem nobehind (b : Expr) {op : CmpOp} (h : op ≠ .In) (h2 : op ≠ .NotIn) : behindInMarks op b = false := by
  have e1 : (op == CmpOp.In) = false := by cases op <;> first | rfl | exact absurd rfl h
  have e2 : (op == CmpOp.NotIn) = false := by cases op <;> first | rfl | exact absurd rfl h2
  cases b <;> simp [behindInMarks, e1, e2]
def tCmp (p : Int → Int → Bool) (ta tb : TE) : TE := fun σ H Q => t2I ta tb (fun i j H2 => Q (.bl (p i j)) H2) σ H
abbrev tLt : TE → TE → TE := tCmp fun i j => decide (i < j)
abbrev tLe : TE → TE → TE := tCmp fun i j => decide (i ≤ j)
abbrev tGt : TE → TE → TE := tCmp fun i j => decide (j < i)
abbrev tGe : TE → TE → TE := tCmp fun i j => decide (j ≤ i)
abbrev tEqI : TE → TE → TE := tCmp fun i j => decide (i = j)
abbrev tNeI : TE → TE → TE := tCmp fun i j => !decide (i = j)
/-- a comparison of two ints, by its rule -/
theorem pc_int {op : CmpOp} {p : Int → Int → Bool} (ha : PE X a ta) (hb : PE X b tb)
    (rule : ∀ (i j : Int) (t u : Tok) (Q : Value → Shared → Prop) (s : Shared), Q (.bool (p i j)) s → wpAny (model X.prog X.w) X.A (compareOp op (.int i t) (.int j u)) Q X.xe s) : PC X op a b (tCmp p ta tb) := by
  intro pins s σ H Q I h
  refine bin ha hb I h fun v u s2 x y H2 I2 rx ry q => ?_
  obtain ⟨i, j, rfl, rfl, q⟩ := q
  obtain ⟨t, rfl⟩ := rx
  obtain ⟨t', rfl⟩ := ry
  exact rule i j t t' _ s2 ⟨.bl _, H2, I2, rfl, q⟩
theorem pc_lt (ha : PE X a ta) (hb : PE X b tb) : PC X .Lt a b (tLt ta tb) := pc_int ha hb fun _ _ _ _ _ _ h => lt_int h
theorem pc_le (ha : PE X a ta) (hb : PE X b tb) : PC X .LtE a b (tLe ta tb) := pc_int ha hb fun _ _ _ _ _ _ h => le_int h
theorem pc_gt (ha : PE X a ta) (hb : PE X b tb) : PC X .Gt a b (tGt ta tb) := pc_int ha hb fun _ _ _ _ _ _ h => gt_int h
theorem pc_ge (ha : PE X a ta) (hb : PE X b tb) : PC X .GtE a b (tGe ta tb) := pc_int ha hb fun _ _ _ _ _ _ h => ge_int h
theorem pc_eqI (ha : PE X a ta) (hb : PE X b tb) : PC X .Eq a b (tEqI ta tb) := pc_int ha hb fun _ _ _ _ _ _ h => eq_int (by rw [Bool.beq_eq_decide_eq]; exact h)
theorem pc_neI (ha : PE X a ta) (hb : PE X b tb) : PC X .NotEq a b (tNeI ta tb) := pc_int ha hb fun _ _ _ _ _ _ h => ne_int (by rw [bne, Bool.beq_eq_decide_eq]; exact h)
/-- is None -/
def tIsN (ta : TE) : TE := fun σ H Q => ta σ H fun x H1 => Q (.bl (decide (x = .non))) H1
def tNotN (ta : TE) : TE := fun σ H Q => ta σ H fun x H1 => Q (.bl (!decide (x = .non))) H1
theorem RelV.none_iff {x : V} {v : Value} (r : RelV x v) : (v == Value.none) = decide (x = .non) := by
  cases x with
  | non => cases r; rfl
  | bl _ => cases r; rfl
  | int _ => obtain ⟨t, rfl⟩ := r; rfl
  | str _ => obtain ⟨t, rfl⟩ := r; rfl
  | byt _ => obtain ⟨t, rfl⟩ := r; rfl
  | flt _ => obtain ⟨t, rfl⟩ := r; rfl
  | ref _ => cases r; rfl
  | ty _ => cases r; rfl
theorem pc_isN {j pos'} (ha : PE X a ta) : PC X .Is a (.Constant .none j pos') (tIsN ta) := by
  intro pins s σ H Q I h
  refine thn (ha pins s σ H _ I h) fun v s1 ⟨x, H1, I1, r1, q1⟩ => ?_
  exact Constant_none (is_none_gen ⟨.bl _, H1, I1, by rw [r1.none_iff]; rfl, q1⟩)
theorem pc_notN {j pos'} (ha : PE X a ta) : PC X .IsNot a (.Constant .none j pos') (tNotN ta) := by
  intro pins s σ H Q I h
  refine thn (ha pins s σ H _ I h) fun v s1 ⟨x, H1, I1, r1, q1⟩ => ?_
  exact Constant_none (isnot_none_gen ⟨.bl _, H1, I1, by rw [r1.none_iff]; rfl, q1⟩)
/-- a comparison as a value, as a test -/
def tB (t : TE) : TT := fun σ H Q => t σ H fun x H1 => ∃ c, x = .bl c ∧ Q c H1
theorem pe_cmp {op : CmpOp} {t : TE} (h : PC X op a b t) (h1 : behindInMarks op b = false := by first | exact nobehind _ (by decide) (by decide) | rfl) : PE X (.Compare a [op] [b] pos) t := fun pins s σ H Q I hw => wpAny_Compare1 (h pins s σ H Q I hw) h1
theorem pt_cmp {op : CmpOp} {t : TE} (h : PC X op a b t) (h1 : behindInMarks op b = false := by first | exact nobehind _ (by decide) (by decide) | rfl) : PT X (.Compare a [op] [b] pos) (tB t) := by
  intro pins s σ H Q I hw
  refine wpAny_isTrue_Compare1 (thn (h pins s σ H _ I hw) fun v s1 h1 => thn h1 fun u s2 h2 => thn h2 fun c s3 ⟨x, H1, I1, r1, q1⟩ => ?_) h1
  obtain ⟨d, rfl, q⟩ := q1
  cases r1
  exact wpAny_truthy_bool ⟨H1, I1, q⟩
/-- an expression whose value is a bool, as a test -/
theorem pt_val {e : Expr} {t : TE} (h : PE X e t) (he : ∀ whole, isTrue e X.env whole = (do let v ← whole; standAt e.pos; holding [v] (truthy v)) := by intro _; rfl) : PT X e (tB t) := by
  intro pins s σ H Q I hw
  refine isTrue_plain (thn (h pins s σ H _ I hw) fun v s1 ⟨x, H1, I1, r1, q1⟩ => ?_) (he _)
  obtain ⟨d, rfl, q⟩ := q1
  cases r1
  exact wpAny_truthy_bool ⟨H1, I1, q⟩

/-! ### and, or, not -/
variable {tA tB' : TT} {rest : List Expr}
def tAnd (t u : TT) : TT := fun σ H Q => t σ H fun c H1 => if c = true then u σ H1 Q else Q false H1
def tOr (t u : TT) : TT := fun σ H Q => t σ H fun c H1 => if c = true then Q true H1 else u σ H1 Q
def tNot (t : TT) : TT := fun σ H Q => t σ H fun c H1 => Q (!c) H1
theorem pw_and1 (ha : PT X a tA) : PW X (.BoolOp .And [a] pos) tA := by
  intro wh pins s σ H Q I h
  refine isTrue_and (thn (ha pins s σ H Q I h) fun c s1 e => ?_)
  cases c with
  | true => exact isTrue_and_nil e
  | false => exact e
theorem pw_or1 (ha : PT X a tA) : PW X (.BoolOp .Or [a] pos) tA := by
  intro wh pins s σ H Q I h
  refine isTrue_or (thn (ha pins s σ H Q I h) fun c s1 e => ?_)
  cases c with
  | false => exact isTrue_or_nil e
  | true => exact e
theorem pw_and (ha : PT X a tA) (hb : PW X (.BoolOp .And (b :: rest) pos) tB') : PW X (.BoolOp .And (a :: b :: rest) pos) (tAnd tA tB') := by
  intro wh pins s σ H Q I h
  refine isTrue_and (thn (ha pins s σ H _ I h) fun c s1 ⟨H1, I1, q1⟩ => ?_)
  cases c with
  | true => exact hb wh pins s1 σ H1 Q I1 q1
  | false => exact ⟨H1, I1, q1⟩
theorem pw_or (ha : PT X a tA) (hb : PW X (.BoolOp .Or (b :: rest) pos) tB') : PW X (.BoolOp .Or (a :: b :: rest) pos) (tOr tA tB') := by
  intro wh pins s σ H Q I h
  refine isTrue_or (thn (ha pins s σ H _ I h) fun c s1 ⟨H1, I1, q1⟩ => ?_)
  cases c with
  | true => exact ⟨H1, I1, q1⟩
  | false => exact hb wh pins s1 σ H1 Q I1 q1
theorem pt_not (ha : PT X a tA) : PT X (.UnaryOp .Not a pos) (tNot tA) := by
  intro pins s σ H Q I h
  exact isTrue_not (ha pins s σ H (fun c H1 => Q (!c) H1) I h)
/-- .. as values (bools) -/
def tAndV (ta tb : TE) : TE := fun σ H Q => ta σ H fun x H1 => ∃ c, x = .bl c ∧ if c = true then tb σ H1 Q else Q (.bl false) H1
def tOrV (ta tb : TE) : TE := fun σ H Q => ta σ H fun x H1 => ∃ c, x = .bl c ∧ if c = true then Q (.bl true) H1 else tb σ H1 Q
def tNotV (ta : TE) : TE := fun σ H Q => ta σ H fun x H1 => ∃ c, x = .bl c ∧ Q (.bl (!c)) H1
theorem pe_one {op} {t : TE} (h : PE X a t) : PE X (.BoolOp op [a] pos) t := fun pins s σ H Q I hw => BoolOp_one (h pins s σ H Q I hw)
theorem pe_and (ha : PE X a ta) (hb : PE X (.BoolOp .And (b :: rest) pos) tb) : PE X (.BoolOp .And (a :: b :: rest) pos) (tAndV ta tb) := by
  intro pins s σ H Q I h
  refine BoolOp_and (thn (ha pins s σ H _ I h) fun v s1 ⟨x, H1, I1, r1, q1⟩ => ?_)
  obtain ⟨c, rfl, q1⟩ := q1
  cases r1
  refine wpAny_truthy_bool ?_
  cases c with
  | true => exact hb pins s1 σ H1 Q I1 q1
  | false => exact ⟨.bl false, H1, I1, rfl, q1⟩
theorem pe_or (ha : PE X a ta) (hb : PE X (.BoolOp .Or (b :: rest) pos) tb) : PE X (.BoolOp .Or (a :: b :: rest) pos) (tOrV ta tb) := by
  intro pins s σ H Q I h
  refine BoolOp_or (thn (ha pins s σ H _ I h) fun v s1 ⟨x, H1, I1, r1, q1⟩ => ?_)
  obtain ⟨c, rfl, q1⟩ := q1
  cases r1
  refine wpAny_truthy_bool ?_
  cases c with
  | false => exact hb pins s1 σ H1 Q I1 q1
  | true => exact ⟨.bl true, H1, I1, rfl, q1⟩
theorem pe_not (ha : PE X a ta) : PE X (.UnaryOp .Not a pos) (tNotV ta) := by
  intro pins s σ H Q I h
  refine UnaryOp_ (thn (ha pins s σ H _ I h) fun v s1 ⟨x, H1, I1, r1, q1⟩ => ?_)
  obtain ⟨c, rfl, q1⟩ := q1
  cases r1
  exact not_of (wpAny_truthy_bool ⟨.bl (!c), H1, I1, rfl, q1⟩)
/-- a if t else b -/
def tIf (t : TT) (ta tb : TE) : TE := fun σ H Q => t σ H fun c H1 => if c = true then ta σ H1 Q else tb σ H1 Q
theorem pe_ifExp {c : Expr} (hc : PT X c tA) (ha : PE X a ta) (hb : PE X b tb) : PE X (.IfExp c a b pos) (tIf tA ta tb) := by
  intro pins s σ H Q I h
  refine wpAny_IfExp (thn (hc pins s σ H _ I h) fun d s1 ⟨H1, I1, q1⟩ => ?_)
  cases d with
  | true => exact ha pins s1 σ H1 Q I1 q1
  | false => exact hb pins s1 σ H1 Q I1 q1
end
end L2

namespace L2
open PySem PySem.Spec PyProof.Rows

/-! ### a list, a tuple that is read: tracked, frozen, or an object of the module -/
def SqL (K : PySem.W.Frag) (H : Hp) (a : Addr) (xs : List V) : Prop :=
  Rd H a (.lst xs) ∨
    ∃ (o : Obj) (its : Array Value) (n : Nat), K.lookup a = some o ∧ o.cls = .type "list" ∧ o.dict = none ∧ o.data = .seq its n ∧ its.size ≤ sizeLine ∧ Vals xs its.toList
def SqT (K : PySem.W.Frag) (H : Hp) (a : Addr) (xs : List V) : Prop :=
  Rd H a (.tup xs) ∨
    ∃ (o : Obj) (its : Array Value) (n : Nat), K.lookup a = some o ∧ o.cls = .type "tuple" ∧ o.data = .seq its n ∧ its.size ≤ sizeLine ∧ Vals xs its.toList
def absV : Value → Option V
  | .none => some .non
  | .bool b => some (.bl b)
  | .int i _ => some (.int i)
  | .str x _ => some (.str x)
  | .bytes b _ => some (.byt b)
  | .float b _ => some (.flt b)
  | .ref a => some (.ref a)
  | .type n => some (.ty n)
  | _ => none
theorem RelV.abs {x : V} {u : Value} (r : RelV x u) : absV u = some x := by
  cases x with
  | non => cases r; rfl
  | bl _ => cases r; rfl
  | int _ => obtain ⟨t, rfl⟩ := r; rfl
  | str _ => obtain ⟨t, rfl⟩ := r; rfl
  | byt _ => obtain ⟨t, rfl⟩ := r; rfl
  | flt _ => obtain ⟨t, rfl⟩ := r; rfl
  | ref _ => cases r; rfl
  | ty _ => cases r; rfl
theorem RelV.inj {x y : V} {u : Value} (r : RelV x u) (q : RelV y u) : x = y := Option.some.inj (r.abs.symm.trans q.abs)
theorem Vals.inj : ∀ {xs ys : List V} {us : List Value}, Vals xs us → Vals ys us → xs = ys
  | _, _, _, .nil, .nil => rfl
  | _, _, _, .cons r t, .cons r' t' => by rw [r.inj r', Vals.inj t t']
section
variable {X : Cx} {pins : List (Addr × Obj)} {σ : St} {H : Hp} {s : Shared} {a : Addr} {xs ys : List V}
theorem SqL.of {K : PySem.W.Frag} (h : H a = some (.lst xs)) : SqL K H a xs := .inl (.inl h)
theorem SqT.of {K : PySem.W.Frag} (h : H a = some (.tup xs)) : SqT K H a xs := .inl (.inl h)
theorem Inv.list (I : Inv X pins σ H s) (h : SqL X.K H a xs) : ∃ its : List Value, Vals xs its ∧ PlainL s.heap a its.toArray ∧ xs.length ≤ sizeLine := by
  rcases h with h | ⟨o, its, n, hk, hc, hd, hs, hz, r⟩
  · obtain ⟨z, its, n, r, e⟩ := h.ok I.hok
    exact ⟨its, r, ⟨_, n, e, rfl, rfl, rfl⟩, z⟩
  · refine ⟨its.toList, r, ⟨o, n, I.kIn a o hk, hc, hd, by simpa using hs⟩, ?_⟩
    have e := r.length
    simp only [Array.length_toList] at e
    omega
theorem Inv.tuple (I : Inv X pins σ H s) (h : SqT X.K H a xs) : ∃ its : List Value, Vals xs its ∧ IsTup s.heap a its.toArray ∧ xs.length ≤ sizeLine := by
  rcases h with h | ⟨o, its, n, hk, hc, hs, hz, r⟩
  · obtain ⟨z, its, r, p⟩ := h.ok I.hok
    exact ⟨its, r, p, z⟩
  · refine ⟨its.toList, r, ⟨o, I.kIn a o hk, hc, n, by simpa using hs⟩, ?_⟩
    have e := r.length
    simp only [Array.length_toList] at e
    omega
theorem Inv.list_inj (I : Inv X pins σ H s) (h : SqL X.K H a xs) (h' : SqL X.K H a ys) : xs = ys := by
  obtain ⟨its, r, ⟨o, n, e, _, _, d⟩, _⟩ := I.list h
  obtain ⟨its', r', ⟨o', n', e', _, _, d'⟩, _⟩ := I.list h'
  rw [e] at e'; cases e'
  rw [d] at d'
  injection d' with d1 _
  have : its = its' := by simpa using congrArg Array.toList d1
  subst this
  exact r.inj r'
theorem Inv.tuple_inj (I : Inv X pins σ H s) (h : SqT X.K H a xs) (h' : SqT X.K H a ys) : xs = ys := by
  obtain ⟨its, r, ⟨o, e, _, n, d⟩, _⟩ := I.tuple h
  obtain ⟨its', r', ⟨o', e', _, n', d'⟩, _⟩ := I.tuple h'
  rw [e] at e'; cases e'
  rw [d] at d'
  injection d' with d1 _
  have : its = its' := by simpa using congrArg Array.toList d1
  subst this
  exact r.inj r'
end

/-! ### another wish about exceptions -/
abbrev Cx.wish (X : Cx) (E : Value → Shared → Prop) : Cx := { X with xe := E }
/-- no exception leaves -/
abbrev Cx.nox (X : Cx) : Cx := X.wish fun _ _ => False
theorem Cx.Ok.wish {X : Cx} (ok : X.Ok) (E : Value → Shared → Prop) : (X.wish E).Ok :=
  ⟨ok.mod, ok.kind, ok.glob, ok.blt, ok.above, ok.inj, ok.has, ok.cab, ok.hd, ok.frames, ok.stk, ok.exf, ok.bs, ok.bsz, ok.noex, ok.exfs, ok.funs, ok.frf⟩
theorem Cx.Ok.unwish {X : Cx} {E : Value → Shared → Prop} (ok : (X.wish E).Ok) : X.Ok :=
  ⟨ok.mod, ok.kind, ok.glob, ok.blt, ok.above, ok.inj, ok.has, ok.cab, ok.hd, ok.frames, ok.stk, ok.exf, ok.bs, ok.bsz, ok.noex, ok.exfs, ok.funs, ok.frf⟩
section
variable {X : Cx} {pins : List (Addr × Obj)} {σ : St} {H : Hp} {s : Shared} {E : Value → Shared → Prop}
theorem Inv.wish (I : Inv X pins σ H s) (E : Value → Shared → Prop) : Inv (X.wish E) pins σ H s := ⟨I.ok.wish E, I.os, I.bare, I.base, I.loc, I.cell, I.free, I.freeC, I.pin, I.hok, I.len⟩
theorem Inv.unwish (I : Inv (X.wish E) pins σ H s) : Inv X pins σ H s := ⟨I.ok.unwish, I.os, I.bare, I.base, I.loc, I.cell, I.free, I.freeC, I.pin, I.hok, I.len⟩
theorem SP.unwish {D : Ends} {f : Flow} {s' : Shared} (h : SP (X.wish E) pins D f s') : SP X pins D f s' := by
  cases f with
  | next => obtain ⟨σ', H', I, q⟩ := h; exact ⟨σ', H', I.unwish, q⟩
  | brk => obtain ⟨σ', H', I, q⟩ := h; exact ⟨σ', H', I.unwish, q⟩
  | cont => obtain ⟨σ', H', I, q⟩ := h; exact ⟨σ', H', I.unwish, q⟩
  | ret u => obtain ⟨v, σ', H', I, r, q⟩ := h; exact ⟨v, σ', H', I.unwish, r, q⟩
theorem PE.nox {e : Expr} {t : TE} (h : PE X.nox e t) : PE X e t := fun pins s σ H Q I hw =>
  wpAny_mono (h pins s σ H Q (I.wish _) hw) (fun _ _ ⟨v, H', I', r, q⟩ => ⟨v, H', I'.unwish, r, q⟩) fun _ _ z => False.elim z
theorem PT.nox {e : Expr} {t : TT} (h : PT X.nox e t) : PT X e t := fun pins s σ H Q I hw =>
  wpAny_mono (h pins s σ H Q (I.wish _) hw) (fun _ _ ⟨H', I', q⟩ => ⟨H', I'.unwish, q⟩) fun _ _ z => False.elim z
theorem PSs.nox {st : List Stmt} {t : TS} (h : PSs X.nox st t) : PSs X st t := fun pins s σ H D I hw =>
  wpAny_mono (h pins s σ H D (I.wish _) hw) (fun _ _ q => q.unwish) fun _ _ z => False.elim z
end

/-! ### blocks and small statements -/
section
variable {X : Cx} {st : Stmt} {rest : List Stmt} {t u : TS} {e : Expr} {te : TE} {pos : Pos}
def tNext : TS := fun D σ H => D.nx σ H
def tSeq (t u : TS) : TS := fun D σ H => t { D with nx := u D } σ H
theorem pss_nil : PSs X [] tNext := fun _ _ σ H _ I h => wpAny_execs_nil ⟨σ, H, I, h⟩
theorem pss_cons (h1 : PS X st t) (h2 : PSs X rest u) : PSs X (st :: rest) (tSeq t u) := by
  intro pins s σ H D I h
  refine wpAny_execs_cons (thn (h1 pins s σ H { D with nx := u D } I h) fun f s1 q => ?_)
  cases f with
  | next =>
    obtain ⟨σ', H', I', q⟩ := q
    exact h2 pins s1 σ' H' D I' q
  | ret v => exact q
  | brk => exact q
  | cont => exact q
theorem pss_one (h1 : PS X st t) : PSs X [st] t := by
  intro pins s σ H D I h
  refine wpAny_execs_cons (thn (h1 pins s σ H D I h) fun f s1 q => ?_)
  cases f with
  | next => exact wpAny_execs_nil q
  | ret v => exact q
  | brk => exact q
  | cont => exact q
def tBreak : TS := fun D σ H => D.bk σ H
def tCont : TS := fun D σ H => D.ct σ H
theorem ps_pass : PS X (.Pass pos) tNext := fun _ _ σ H _ I h => wpAny_Pass ⟨σ, H, I, h⟩
theorem ps_break : PS X (.Break pos) tBreak := fun _ _ σ H _ I h => wpAny_Break ⟨σ, H, I, h⟩
theorem ps_continue : PS X (.Continue pos) tCont := fun _ _ σ H _ I h => wpAny_Continue ⟨σ, H, I, h⟩
/-- in a def's body nothing is shown -/
theorem Inv.quiet {pins : List (Addr × Obj)} {σ : St} {H : Hp} {s : Shared} (I : Inv X pins σ H s) : interactive X.env = false := by simp [interactive, I.ok.kind]
/-- a docstring -/
theorem ps_doc {x j pos pos'} : PS X (.Expr (.Constant (.str x) j pos) pos') tNext := fun _ s σ H _ I h => wpAny_Expr (Calls.Constant_str (show SP X _ _ .next { s with toks := s.toks + 1 } from ⟨σ, H, I.tok _, h⟩)) I.quiet
/-- an expression whose value is dropped -/
def tDrop (te : TE) : TS := fun D σ H => te σ H fun _ H1 => D.nx σ H1
theorem ps_expr (he : PE X e te) (hs : swapsWith e none pos.line X.env = pure false := by rfl) : PS X (.Expr e pos) (tDrop te) := by
  intro pins s σ H D I h
  exact wpAny_Expr_any (thn (he pins s σ H _ I h) fun v s1 ⟨x, H1, I1, r1, q1⟩ => ⟨σ, H1, I1, q1⟩) I.quiet hs
def tRet (te : TE) : TS := fun D σ H => te σ H D.rt
theorem ps_ret (he : PE X e te) : PS X (.Return (some e) pos) (tRet te) := by
  intro pins s σ H D I h
  exact wpAny_Return_some (thn (he pins s σ H _ I h) fun v s1 ⟨x, H1, I1, r1, q1⟩ => ⟨x, σ, H1, I1, r1, q1⟩)
def tRetN : TS := fun D _ H => D.rt .non H
theorem ps_retN : PS X (.Return none pos) tRetN := fun _ _ σ H _ I h => wpAny_Return_none ⟨.non, σ, H, I, rfl, h⟩
def tIfS (c : TT) (t u : TS) : TS := fun D σ H => c σ H fun b H1 => if b = true then t D σ H1 else u D σ H1
theorem ps_if {c : Expr} {a b : List Stmt} {tc : TT} (hc : PT X c tc) (ha : PSs X a t) (hb : PSs X b u) : PS X (.If c a b pos) (tIfS tc t u) := by
  intro pins s σ H D I h
  refine wpAny_If (thn (hc pins s σ H _ I h) fun d s1 ⟨H1, I1, q1⟩ => ?_)
  cases d with
  | true => exact ha pins s1 σ H1 D I1 q1
  | false => exact hb pins s1 σ H1 D I1 q1
/-- code that the proof never comes to -/
def tNever : TS := fun _ _ _ => False
theorem ps_never : PS X st tNever := fun _ _ _ _ _ _ h => h.elim
theorem pss_never {sts : List Stmt} : PSs X sts tNever := fun _ _ _ _ _ _ h => h.elim
end

/-! ### targets -/
abbrev TG := V → St → Hp → (St → Hp → Prop) → Prop
abbrev TGs := List V → St → Hp → (St → Hp → Prop) → Prop
def PG (X : Cx) (target : Expr) (t : TG) : Prop :=
  ∀ (pins : List (Addr × Obj)) (s : Shared) (σ : St) (H : Hp) (v : V) (u : Value) (Q : St → Hp → Prop), Inv X pins σ H s → RelV v u → t v σ H Q →
    wpAny (model X.prog X.w) X.A (assign target X.env u) (fun _ s' => ∃ σ' H', Inv X pins σ' H' s' ∧ Q σ' H') X.xe s
/-- several targets, one after another -/
def PGs (X : Cx) (ts : List Expr) (t : TGs) : Prop :=
  ∀ (pins : List (Addr × Obj)) (s : Shared) (σ : St) (H : Hp) (vs : List V) (us : List Value) (Q : St → Hp → Prop), Inv X pins σ H s → Vals vs us → t vs σ H Q →
    wpAny (model X.prog X.w) X.A (assignInOrder ((assignEach ts X.env).map (·.2)) us) (fun _ s' => ∃ σ' H', Inv X pins σ' H' s' ∧ Q σ' H') X.xe s
/-- o[i] = v, by values -/
abbrev TSet := V → V → V → Hp → (Hp → Prop) → Prop
def PSet (X : Cx) (t : TSet) : Prop :=
  ∀ (pins : List (Addr × Obj)) (s : Shared) (σ : St) (H : Hp) (o i v : V) (ov iv u : Value) (Q : Hp → Prop), Inv X pins σ H s → RelV o ov → RelV i iv → RelV v u → t o i v H Q →
    wpAny (model X.prog X.w) X.A (setItem ov iv u) (fun _ s' => ∃ H', Inv X pins σ H' s' ∧ Q H') X.xe s
/-- a op= b, by values -/
abbrev TIp := V → V → Hp → VK → Prop
def PIp (X : Cx) (op : Operator) (t : TIp) : Prop :=
  ∀ (pins : List (Addr × Obj)) (s : Shared) (σ : St) (H : Hp) (x y : V) (v u : Value) (Q : VK), Inv X pins σ H s → RelV x v → RelV y u → t x y H Q →
    wpAny (model X.prog X.w) X.A (inplaceOp op v u) (EP X pins σ Q) X.xe s
section
variable {X : Cx} {pos : Pos}
def gName (i : Nat) : TG := fun v σ H Q => Q (σ.set i (some v)) H
theorem pg_name {i : Nat} {x : Str} (hN : X.N.Nodup) (hi : X.N[i]? = some x) (hx : Loc X.env.scope x) (hf : X.fn x = true ∨ X.env.scope.names.lookup x = some .local := by first | exact .inl rfl | exact .inr rfl | assumption) : PG X (.Name x pos) (gName i) := by
  intro pins s σ H v u Q I r h
  exact wpAny_assign_Name (store_ok I hN hi hx r (fun s' I' => ⟨_, H, I', h⟩) hf)
def gNil : TGs := fun vs σ H Q => vs = [] ∧ Q σ H
def gCons (t : TG) (u : TGs) : TGs := fun vs σ H Q => ∃ v r, vs = v :: r ∧ t v σ H fun σ' H' => u r σ' H' Q
theorem pgs_nil : PGs X [] gNil := by
  intro pins s σ H vs us Q I r h
  obtain ⟨e, h⟩ := h
  subst e
  cases r
  exact assignInOrder_nil ⟨σ, H, I, h⟩
theorem pgs_cons {e : Expr} {es : List Expr} {t : TG} {u : TGs} (h1 : PG X e t) (h2 : PGs X es u)
    (hs : (assignEach (e :: es) X.env).map (·.2) = assign e X.env :: (assignEach es X.env).map (·.2) := by rfl) : PGs X (e :: es) (gCons t u) := by
  intro pins s σ H vs us Q I r h
  obtain ⟨v, vr, e1, h⟩ := h
  subst e1
  cases r with
  | cons r rr =>
    rw [hs]
    refine assignInOrder_cons (thn (h1 pins s σ H _ _ _ I r h) fun _ s1 ⟨σ1, H1, I1, q1⟩ => ?_)
    exact h2 pins s1 σ1 H1 _ _ Q I1 rr q1
/-- (a, b, ..) = a tuple of that length -/
def gTup (K : PySem.W.Frag) (n : Nat) (t : TGs) : TG := fun v σ H Q => ∃ a xs, v = .ref a ∧ SqT K H a xs ∧ xs.length = n ∧ t xs σ H Q
theorem pg_tup {es : List Expr} {k : Nat} {t : TGs} {n : Nat} (hc : X.calm = true) (h : PGs X es t)
    (hn : (assignEach es X.env).length = n := by rfl) (hst : (assignEach es X.env).findIdx? (·.1) = none := by rfl) : PG X (.Tuple es k pos) (gTup X.K n t) := by
  intro pins s σ H v u Q I r hw
  obtain ⟨a, xs, e1, hq, hl, hw⟩ := hw
  subst e1
  cases r
  obtain ⟨its, rv, ht, hz⟩ := I.tuple hq
  refine assign_Tuple_tuple (I.ok.hd hc) ht (by simp [hn, ← hl, rv.length]) hst fun h' hx => ?_
  have I1 : Inv X pins σ H { s with heap := h' } := I.kept (t' := s.toks) fun b o e => hx b o (Nat.ne_of_lt (Heap.lt_size e)) e
  exact h pins _ σ H xs _ Q I1 (by simpa using rv) hw
/-- o[i] = .. -/
def gSub (to ti : TE) (t : TSet) : TG := fun v σ H Q => to σ H fun o H1 => ti σ H1 fun i H2 => t o i v H2 fun H3 => Q σ H3
theorem pg_sub {o i : Expr} {to ti : TE} {t : TSet} (ho : PE X o to) (hi : PE X i ti) (hs : PSet X t)
    (ha : ∀ v, assign (.Subscript o i pos) X.env v = (do
      let ov ← holding [v] (eval o X.env)
      let iv ← holding [v, ov] (eval i X.env)
      standAt pos
      holding [v, ov, iv] (setItem ov iv v)
      release [v, ov, iv] []) := by intro _; rfl) : PG X (.Subscript o i pos) (gSub to ti t) := by
  intro pins s σ H v u Q I r h
  rw [ha]
  refine wpAny_bind (wpAny_holding (thn (ho pins s σ H _ I h) fun ov s1 ⟨x, H1, I1, r1, q1⟩ => ?_))
  refine wpAny_bind (wpAny_holding (thn (hi pins s1 σ H1 _ I1 q1) fun iv s2 ⟨y, H2, I2, r2, q2⟩ => ?_))
  refine wpAny_bind (wpAny_standAt (wpAny_bind (wpAny_holding (thn (hs pins s2 σ H2 x y v ov iv u _ I2 r1 r2 r q2) fun _ s3 ⟨H3, I3, q3⟩ => ?_))))
  exact wpAny_release ⟨σ, H3, I3, q3⟩
/-- target = value -/
def tAsg (te : TE) (g : TG) : TS := fun D σ H => te σ H fun x H1 => g x σ H1 D.nx
theorem ps_asg {tg e : Expr} {te : TE} {g : TG} (he : PE X e te) (hg : PG X tg g) (hs : swapsWithSole [tg] e pos.line X.env = pure false := by rfl) (hw : swappedStores [tg] e X.env = pure none := by rfl)
    (h1 : (assignEach [tg] X.env).map (·.2) = [assign tg X.env] := by rfl) : PS X (.Assign [tg] e pos) (tAsg te g) := by
  intro pins s σ H D I h
  refine wpAny_Assign_stores (thn (he pins s σ H _ I h) fun v s1 ⟨x, H1, I1, r1, q1⟩ => ?_) hs hw
  rw [h1]
  exact thn (hg pins s1 σ H1 x v _ I1 r1 q1) fun _ s2 q => q
/-- name = value -/
theorem ps_set {i : Nat} {x : Str} {e : Expr} {te : TE} {pos' : Pos} (hN : X.N.Nodup) (hi : X.N[i]? = some x) (hx : Loc X.env.scope x) (he : PE X e te) (hs : swapsWith e (some (.Name x pos')) pos.line X.env = pure false := by rfl) (hf : X.fn x = true ∨ X.env.scope.names.lookup x = some .local := by first | exact .inl rfl | exact .inr rfl | assumption) :
    PS X (.Assign [.Name x pos'] e pos) (tAsg te (gName i)) := by
  intro pins s σ H D I h
  refine wpAny_Assign_Name (thn (he pins s σ H _ I h) fun v s1 ⟨y, H1, I1, r1, q1⟩ => ?_) hs
  exact store_ok I1 hN hi hx r1 (fun s2 I2 => ⟨_, H1, I2, q1⟩) hf
/-- a, b = x, y with plain local names: stored from the right; the pair itself is not tracked (the opening rows as in PyProof/Rows/TupAssign.lean:23) -/
def tPar (i j : Nat) (ta : TA) : TS := fun D σ H => ta σ H fun vs H1 => ∃ v w, vs = [v, w] ∧ D.nx ((σ.set i (some v)).set j (some w)) H1
theorem ps_par {i j : Nat} {x y : Str} {a b : Expr} {ta : TA} {px py pt : Pos} {kt k2 pt2} (hc : X.calm = true) (hN : X.N.Nodup) (hi : X.N[i]? = some x) (hj : X.N[j]? = some y) (hij : i ≠ j)
    (hx : X.env.scope.names.lookup x = some .local) (hy : X.env.scope.names.lookup y = some .local) (ha : PA X [a, b] ta)
    (hw : swappedStores [.Tuple [.Name x px, .Name y py] kt pt] (.Tuple [a, b] k2 pt2) X.env = pure (some [x, y]))
    (hs : swapsWithSole [.Tuple [.Name x px, .Name y py] kt pt] (.Tuple [a, b] k2 pt2) pos.line X.env = pure false := by rfl) :
    PS X (.Assign [.Tuple [.Name x px, .Name y py] kt pt] (.Tuple [a, b] k2 pt2) pos) (tPar i j ta) := by
  intro pins s σ H D I h
  rw [exec_Assign_arm]
  refine wpAny_bind (wpAny_standAt ?_)
  rw [hs]
  refine wpAny_bind (wpAny_pure ?_)
  rw [if_neg (by decide)]
  refine wpAny_bind (Tuple_ (thn (ha _ pins s σ H _ I h) fun us s1 ⟨vs, H1, I1, r1, q1⟩ => ?_))
  obtain ⟨v, w, e1, q1⟩ := q1
  subst e1
  obtain ⟨u1, u2, rfl, rv, rw'⟩ : ∃ u1 u2, us = [u1, u2] ∧ RelV v u1 ∧ RelV w u2 := by
    cases r1 with
    | cons p q =>
      cases q with
      | cons p' q' =>
        cases q'
        exact ⟨_, _, rfl, p, p'⟩
  refine wpAny_newObj_type ?_ (by show 2 ≤ sizeLine; decide)
  have I2 : Inv X pins σ H1 { s1 with heap := s1.heap.push { cls := .type "tuple", data := .seq [u1, u2].toArray } } := I1.kept (t' := s1.toks) fun b o e => Heap.get?_push_of_some _ e
  rw [hw]
  refine wpAny_bind (wpAny_pure ?_)
  show wpAny (model X.prog X.w) X.A (do rule "assign.swapped-stores"; let items ← unpackItems (.ref s1.heap.objs.size) 2 none; assignInOrder [fun v => bindName X.env y v, fun v => bindName X.env x v] items.reverse; pure Flow.next) _ _ _
  refine wpAny_bind (wpAny_rule (wpAny_bind (unpackItems_tuple (items := #[u1, u2]) (I.ok.hd hc) (IsTup.new s1.heap _) fun h' hx' => ?_)))
  have I3 := I2.kept (h' := h') (t' := s1.toks) fun b o e => hx' b o (Nat.ne_of_lt (Heap.lt_size e)) e
  show wpAny _ _ (assignInOrder [fun v => bindName X.env y v, fun v => bindName X.env x v] [u2, u1] >>= fun _ => pure Flow.next) _ _ _
  refine wpAny_bind (assignInOrder_cons (wpAny_bindName (store_ok I3 hN hj (.inl hy) rw' (fun s2 I4 => ?_) (.inr hy))))
  refine assignInOrder_cons (wpAny_bindName (store_ok I4 hN hi (.inl hx) rv (fun s3 I5 => assignInOrder_nil (wpAny_pure ?_)) (.inr hx)))
  rw [List.set_comm _ _ (Ne.symm hij)] at I5
  exact ⟨_, H1, I5, q1⟩
/-- name op= e -/
def tAug (i : Nat) (te : TE) (ti : TIp) : TS := fun D σ H => ∃ x, σ[i]? = some (some x) ∧ te σ H fun y H1 => ti x y H1 fun z H2 => D.nx (σ.set i (some z)) H2
theorem ps_aug {i : Nat} {x : Str} {e : Expr} {te : TE} {op : Operator} {ti : TIp} {pos' : Pos} (hN : X.N.Nodup) (hi : X.N[i]? = some x) (hx : Loc X.env.scope x) (he : PE X e te) (ho : PIp X op ti) (hf : X.fn x = true ∨ X.env.scope.names.lookup x = some .local := by first | exact .inl rfl | exact .inr rfl | assumption) :
    PS X (.AugAssign (.Name x pos') op e pos) (tAug i te ti) := by
  intro pins s σ H D I h
  obtain ⟨v, e1, h⟩ := h
  obtain ⟨m, hn, hl⟩ := I.loc
  have vis : Vis X.env.scope x := by rcases hx with k | k; exact .inl k; exact .inr (.inl k)
  obtain ⟨u, r, l⟩ := hl i x v hi e1 vis
  refine wpAny_AugAssign_Name ?_
  have go : wpAny (model X.prog X.w) X.A (eval e X.env) (fun w s₂ => wpAny (model X.prog X.w) X.A (inplaceOp op u w) (fun r s₃ => wpAny (model X.prog X.w) X.A (storeName X.env x r) (fun _ => SP X pins D .next) X.xe s₃) X.xe s₂) X.xe s := by
    refine thn (he pins s σ H _ I h) fun w s1 ⟨y, H1, I1, r1, q1⟩ => ?_
    refine thn (ho pins s1 σ H1 v y u w _ I1 r r1 q1) fun z s2 ⟨zv, H2, I2, r2, q2⟩ => ?_
    exact store_ok I2 hN hi hx r2 (fun s3 I3 => ⟨_, H2, I3, q2⟩) hf
  rcases l with ⟨hk, hm⟩ | ⟨hk, c, hc, hcell⟩
  · exact wpAny_loadName_local I.ok.kind hk hn hm go
  · rcases hk with hk | hk
    · exact wpAny_loadName_cell I.ok.kind hk hc hcell go
    · rcases hx with k | k
      · have : X.env.scope.names.lookup x = some .free := hk
        rw [k] at this; cases this
      · have : X.env.scope.names.lookup x = some .free := hk
        rw [k] at this; cases this
/-- o[i] op= e -/
def tAugS (to ti te : TE) (tget : V → V → Hp → VK → Prop) (tip : TIp) (tset : TSet) : TS := fun D σ H => to σ H fun o H1 => ti σ H1 fun i H2 => tget o i H2 fun x H3 => te σ H3 fun y H4 => tip x y H4 fun z H5 => tset o i z H5 fun H6 => D.nx σ H6
/-- o[i], by values -/
def PGet (X : Cx) (t : V → V → Hp → VK → Prop) : Prop :=
  ∀ (pins : List (Addr × Obj)) (s : Shared) (σ : St) (H : Hp) (o i : V) (ov iv : Value) (Q : VK), Inv X pins σ H s → RelV o ov → RelV i iv → t o i H Q →
    wpAny (model X.prog X.w) X.A (getItem ov iv) (EP X pins σ Q) X.xe s
theorem ps_augS {o i e : Expr} {to ti te : TE} {tget : V → V → Hp → VK → Prop} {tip : TIp} {tset : TSet} {op : Operator} {tpos : Pos} (ho : PE X o to) (hi : PE X i ti) (hg : PGet X tget) (he : PE X e te) (hp : PIp X op tip) (hs : PSet X tset)
    (ha : ∀ ov iv new, augStore i ov iv new = (do holding [new, ov, iv] (setItem ov iv new); release [new, ov, iv] []; pure .next) := by intros; rfl) : PS X (.AugAssign (.Subscript o i tpos) op e pos) (tAugS to ti te tget tip tset) := by
  intro pins s σ H D I h
  refine wpAny_AugAssign_SubscriptAny (thn (ho pins s σ H _ I h) fun ov s1 ⟨x1, H1, I1, r1, q1⟩ => ?_) ha
  refine thn (hi pins s1 σ H1 _ I1 q1) fun iv s2 ⟨x2, H2, I2, r2, q2⟩ => ?_
  refine thn (hg pins s2 σ H2 x1 x2 ov iv _ I2 r1 r2 q2) fun old s3 ⟨x3, H3, I3, r3, q3⟩ => ?_
  refine thn (he pins s3 σ H3 _ I3 q3) fun v s4 ⟨x4, H4, I4, r4, q4⟩ => ?_
  refine thn (hp pins s4 σ H4 x3 x4 old v _ I4 r3 r4 q4) fun new s5 ⟨x5, H5, I5, r5, q5⟩ => ?_
  exact thn (hs pins s5 σ H5 x1 x2 x5 ov iv new _ I5 r1 r2 r5 q5) fun _ s6 ⟨H6, I6, q6⟩ => ⟨σ, H6, I6, q6⟩
/-- ints -/
def ipI (f : Int → Int → Int) : TIp := fun x y H Q => ∃ i j, x = .int i ∧ y = .int j ∧ Q (.int (f i j)) H
theorem ip_add : PIp X .Add (ipI fun i j => i + j) := by
  intro pins s σ H x y v u Q I r1 r2 h
  obtain ⟨i, j, e1, e2, q⟩ := h
  subst e1; subst e2
  obtain ⟨t, rfl⟩ := r1
  obtain ⟨t', rfl⟩ := r2
  exact iadd_int ⟨.int _, H, I.tok _, ⟨_, rfl⟩, q⟩
theorem ip_sub : PIp X .Sub (ipI fun i j => i - j) := by
  intro pins s σ H x y v u Q I r1 r2 h
  obtain ⟨i, j, e1, e2, q⟩ := h
  subst e1; subst e2
  obtain ⟨t, rfl⟩ := r1
  obtain ⟨t', rfl⟩ := r2
  exact isub_int ⟨.int _, H, I.tok _, ⟨_, rfl⟩, q⟩
end

/-! ### while -/
section
variable {X : Cx} {pos : Pos}
/-- the invariant W with its measure -/
def tWhile (c : TT) (tb : TS) : TS := fun D σ H => ∃ W : Nat → St → Hp → Prop, (∃ m, W m σ H) ∧ ∀ m σ H, W m σ H →
  c σ H fun b H1 => if b = true then ∃ N : St → Hp → Prop, (∀ σ' H', N σ' H' → ∃ m', m' < m ∧ W m' σ' H') ∧ tb { D with nx := N, ct := N, bk := D.nx } σ H1 else D.nx σ H1
theorem ps_while {c : Expr} {body : List Stmt} {tc : TT} {tb : TS} (hp : PassesOwn (model X.prog X.w) X.A X.env X.xe) (hc : PT X c tc) (hb : PSs X body tb) : PS X (.While c body [] pos) (tWhile tc tb) := by
  intro pins s σ H D I h
  obtain ⟨W, ⟨m0, w0⟩, turn⟩ := h
  refine wpAny_While (codeAny_whileLoop (fun n s' => ∃ σ' H', Inv X pins σ' H' s' ∧ W n σ' H') ?_ m0 ⟨σ, H, I, w0⟩)
  rintro n s1 ⟨σ1, H1, I1, w1⟩
  refine wpAny_passesOwn hp (thn (hc pins s1 σ1 H1 _ I1 (turn n σ1 H1 w1)) fun b s2 ⟨H2, I2, q2⟩ => ?_)
  cases b with
  | true =>
    obtain ⟨N, hN, q2⟩ := q2
    rw [if_pos rfl]
    refine wpAny_passesOwn hp (thn (hb pins s2 σ1 H2 _ I2 q2) fun f s3 q3 => ?_)
    cases f with
    | next =>
      obtain ⟨σ3, H3, I3, n3⟩ := q3
      obtain ⟨m', hm, w3⟩ := hN σ3 H3 n3
      exact ⟨m', hm, σ3, H3, I3, w3⟩
    | cont =>
      obtain ⟨σ3, H3, I3, n3⟩ := q3
      obtain ⟨m', hm, w3⟩ := hN σ3 H3 n3
      exact ⟨m', hm, σ3, H3, I3, w3⟩
    | brk => exact q3
    | ret v => exact q3
  | false =>
    rw [if_neg Bool.false_ne_true]
    exact wpAny_execs_nil ⟨σ1, H2, I2, q2⟩
end

/-! ### what a loop or a comprehension walks -/
/-- at turn i: it yields x (the heap may grow), or it stops -/
structure It where
  go : Nat → Hp → Prop
  yld : Nat → Hp → V → Hp → Prop
  stop : Nat → Hp → Prop
/-- the iterator's own objects may turn: they are not the frame's, not pinned, younger than the entry (or a comprehension's own) -/
def FpOk (X : Cx) (pins : List (Addr × Obj)) (H : Hp) (b : Addr) : Prop :=
  H b = none ∧ b ≠ X.env.locals ∧ b ∉ X.fs ∧ (b ∈ X.ex ∨ X.s₀.heap.objs.size ≤ b) ∧ (∀ x c, X.env.cells.lookup x = some c → c ≠ b) ∧ ∀ p ∈ X.pn ++ pins, p.1 ≠ b
theorem Inv.fpOk {X : Cx} {pins : List (Addr × Obj)} {σ : St} {H H' : Hp} {s : Shared} {b : Addr} (I : Inv X pins σ H s) (hb : s.heap.objs.size ≤ b) (hn : H' b = none) : FpOk X pins H' b := by
  refine ⟨hn, Nat.ne_of_gt (Nat.lt_of_lt_of_le I.lt hb), I.nofs hb, .inr (Nat.le_trans I.sz hb), fun x c e z => ?_, fun p hp z => ?_⟩
  · obtain ⟨v, q⟩ := I.cell x c e
    exact absurd (Nat.lt_of_lt_of_le q.lt (by rw [z]; exact hb)) (Nat.lt_irrefl _)
  · exact absurd (Nat.lt_of_lt_of_le (Heap.lt_size (I.pin p hp).1) (by rw [z]; exact hb)) (Nat.lt_irrefl _)
structure Turn (P : Program) (w : World) (K : PySem.W.Frag) (tg : Expr) (J : It) (fp : List Addr) (it : Addr) (tn : Nat → Heap → Prop) : Prop where
  mem : it ∈ fp
  obj : ∀ i h, tn i h → ∀ b ∈ fp, ∃ o, h.get? b = some o ∧ ∀ v, o.data ≠ .cell v
  keep : ∀ i h h', tn i h → (∀ b ∈ fp, ∀ o, h.get? b = some o → h'.get? b = some o) → tn i h'
  item : ∀ (X : Cx), X.prog = P → X.w = w → X.K = K → X.calm = true → ∀ (i : Nat) (pins : List (Addr × Obj)) (s : Shared) (σ : St) (H : Hp) (E : Value → Shared → Prop), Inv X pins σ H s → (∀ b ∈ fp, FpOk X pins H b) → tn i s.heap → J.go i H →
    wpAny (model P w) X.A (pyNext (.ref it)) (fun r s1 => ∃ u, r = some u ∧
      wpAny (model P w) X.A (letOwnedTupleGo tg (.ref it) u) (fun _ s2 => ∃ x H', Inv X pins σ H' s2 ∧ RelV x u ∧ J.yld i H x H' ∧ tn (i + 1) s2.heap ∧ ∀ b ∈ fp, H' b = none) E s1) E s
  done : ∀ (X : Cx), X.prog = P → X.w = w → X.K = K → X.calm = true → ∀ (i : Nat) (pins : List (Addr × Obj)) (s : Shared) (σ : St) (H : Hp) (E : Value → Shared → Prop), Inv X pins σ H s → (∀ b ∈ fp, FpOk X pins H b) → tn i s.heap → J.stop i H →
    wpAny (model P w) X.A (pyNext (.ref it)) (fun r s1 => r = none ∧ Inv X pins σ H s1) E s
  self : ∀ (A : Around) (i : Nat) (s : Shared) (Q : Value → Shared → Prop) (E : Value → Shared → Prop), tn i s.heap → Q (.ref it) s → wpAny (model P w) A (pyIter (.ref it)) Q E s
abbrev TI := St → Hp → (It → Hp → Prop) → Prop
/-- an iterator has come -/
def PIE (X : Cx) (pins : List (Addr × Obj)) (σ : St) (tg : Expr) (R : It → Hp → Prop) (itv : Value) (s2 : Shared) : Prop :=
  ∃ (it : Addr) (fp : List Addr) (tn : Nat → Heap → Prop) (J : It) (H' : Hp), itv = .ref it ∧ Inv X pins σ H' s2 ∧ Turn X.prog X.w X.K tg J fp it tn ∧ tn 0 s2.heap ∧ (∀ b ∈ fp, FpOk X pins H' b) ∧ R J H'
def PI (X : Cx) (tg iter : Expr) (wi : TI) : Prop :=
  ∀ (pins : List (Addr × Obj)) (s : Shared) (σ : St) (H : Hp) (R : It → Hp → Prop), Inv X pins σ H s → wi σ H R →
    wpAny (model X.prog X.w) X.A (eval iter X.env) (fun v s1 => wpAny (model X.prog X.w) X.A (pyIter v) (PIE X pins σ tg R) X.xe s1) X.xe s

/-- the step ahead of the store is nothing for an iterator that keeps no tuple -/
theorem go_of {M : Model} {A : Around} {E : Value → Shared → Prop} {s : Shared} {tg : Expr} {it : Addr} {u : Value} {o : Obj} {n : String} {vs : Array Value} {Q : Unit → Shared → Prop} (ho : s.heap.get? it = some o) (hc : o.cls = .type n) (hd : o.data = .fields vs)
    (hn : ["enumerate", "zip", "dict_itemiterator", "dict_reverseitemiterator", "odict_iterator", "itertools.zip_longest", "itertools.pairwise"].contains n = false) (hQ : Q () s) : wpAny M A (letOwnedTupleGo tg (.ref it) u) Q E s := by
  unfold letOwnedTupleGo
  cases tg <;> first
    | exact wpAny_pure hQ
    | (cases u <;> first
        | exact wpAny_pure hQ
        | (refine wpAny_bind (wpAny_load ho ?_)
           rw [hc, hd]
           show wpAny M A (if (["enumerate", "zip", "dict_itemiterator", "dict_reverseitemiterator", "odict_iterator", "itertools.zip_longest", "itertools.pairwise"].contains n && vs[0]? == some (rawInt _)) = true then _ else _) Q E s
           rw [if_neg (by intro h; rw [hn, Bool.false_and] at h; cases h)]
           exact wpAny_pure hQ))

/-- the list at a, as it stands at each turn (a loop may append to it) -/
def Itl (K : PySem.W.Frag) (a : Addr) : It :=
  ⟨fun i H => ∃ xs x, SqL K H a xs ∧ xs[i]? = some x, fun i H x H' => H' = H ∧ ∀ xs, SqL K H a xs → xs[i]? = some x, fun i H => ∃ xs, SqL K H a xs ∧ xs.length ≤ i⟩
def Itt (K : PySem.W.Frag) (a : Addr) : It :=
  ⟨fun i H => ∃ xs x, SqT K H a xs ∧ xs[i]? = some x, fun i H x H' => H' = H ∧ ∀ xs, SqT K H a xs → xs[i]? = some x, fun i H => ∃ xs, SqT K H a xs ∧ xs.length ≤ i⟩
/-- lo, lo + 1, .. (n of them) -/
def Itr (lo : Int) (n : Nat) : It := ⟨fun i _ => i < n, fun i H x H' => H' = H ∧ x = .int (lo + i), fun i _ => n ≤ i⟩
theorem turn_list {P : Program} {w : World} {K : PySem.W.Frag} {tg : Expr} (a it : Addr) : Turn P w K tg (Itl K a) [it] it (fun i h => h.IsListIter it a i) where
  mem := by simp
  obj := fun i h st b hb => by
    have e : b = it := by simpa using hb
    subst e
    obtain ⟨o, e, c, d⟩ := st
    exact ⟨o, e, fun v z => by rw [d] at z; cases z⟩
  keep := fun i h h' st k => st.at fun o e => k it (by simp) o e
  item := by
    intro X hP hw hK hc i pins s σ H E I hf st hg
    subst hP hw hK
    obtain ⟨xs, x, hq, hx⟩ := hg
    obtain ⟨its, rv, p, hz⟩ := I.list hq
    obtain ⟨u, hu, ru⟩ := rv.get hx
    obtain ⟨f0, f1, f2, f3, f4, f5⟩ := hf it (by simp)
    refine wpAny_pyNext_list_item st p.isList (x := u) (by simpa using hu) fun h' st' sb => ?_
    have I1 : Inv X pins σ H { s with heap := h' } := I.turned (t' := s.toks) (fun b o hb e => (sb.2 b hb).trans e) f0 f1 f3 f4 f5
    obtain ⟨o, e, c, d⟩ := id st'
    exact ⟨u, rfl, go_of (s := { s with heap := h' }) e c d (by decide) ⟨x, H, I1, ru, ⟨rfl, fun ys hy => by rw [I.list_inj hy hq]; exact hx⟩, st', fun b hb => (hf b hb).1⟩⟩
  done := by
    intro X hP hw hK hc i pins s σ H E I hf st hg
    subst hP hw hK
    obtain ⟨xs, hq, hx⟩ := hg
    obtain ⟨its, rv, p, hz⟩ := I.list hq
    obtain ⟨f0, f1, f2, f3, f4, f5⟩ := hf it (by simp)
    have hl := rv.length
    exact wpAny_pyNext_list_end (I.ok.hd hc) st p.isList (by simp; omega) fun h' eb => ⟨rfl, I.turned (t' := s.toks) (fun b o hb e => eb b o hb e) f0 f1 f3 f4 f5⟩
  self := fun _ _ _ _ _ st h => wpAny_pyIter_listiter st h
theorem turn_tuple {P : Program} {w : World} {K : PySem.W.Frag} {tg : Expr} (a it : Addr) : Turn P w K tg (Itt K a) [it] it (fun i h => h.IsTupleIter it a i) where
  mem := by simp
  obj := fun i h st b hb => by
    have e : b = it := by simpa using hb
    subst e
    obtain ⟨o, e, c, d⟩ := st
    exact ⟨o, e, fun v z => by rw [d] at z; cases z⟩
  keep := fun i h h' st k => st.at fun o e => k it (by simp) o e
  item := by
    intro X hP hw hK hc i pins s σ H E I hf st hg
    subst hP hw hK
    obtain ⟨xs, x, hq, hx⟩ := hg
    obtain ⟨its, rv, p, hz⟩ := I.tuple hq
    obtain ⟨u, hu, ru⟩ := rv.get hx
    obtain ⟨f0, f1, f2, f3, f4, f5⟩ := hf it (by simp)
    refine wpAny_pyNext_tuple_item st (show s.heap.IsTuple a its.toArray from p) (x := u) (by simpa using hu) fun h' st' sb => ?_
    have I1 : Inv X pins σ H { s with heap := h' } := I.turned (t' := s.toks) (fun b o hb e => (sb.2 b hb).trans e) f0 f1 f3 f4 f5
    obtain ⟨o, e, c, d⟩ := id st'
    exact ⟨u, rfl, go_of (s := { s with heap := h' }) e c d (by decide) ⟨x, H, I1, ru, ⟨rfl, fun ys hy => by rw [I.tuple_inj hy hq]; exact hx⟩, st', fun b hb => (hf b hb).1⟩⟩
  done := by
    intro X hP hw hK hc i pins s σ H E I hf st hg
    subst hP hw hK
    obtain ⟨xs, hq, hx⟩ := hg
    obtain ⟨its, rv, p, hz⟩ := I.tuple hq
    obtain ⟨f0, f1, f2, f3, f4, f5⟩ := hf it (by simp)
    have hl := rv.length
    exact wpAny_pyNext_tuple_end (I.ok.hd hc) st (show s.heap.IsTuple a its.toArray from p) (by simp; omega) fun h' eb => ⟨rfl, I.turned (t' := s.toks) (fun b o hb e => eb b o hb e) f0 f1 f3 f4 f5⟩
  self := fun _ _ _ _ _ st h => wpAny_pyIter_tupleiter st h
theorem turn_range {P : Program} {w : World} {K : PySem.W.Frag} {tg : Expr} (it : Addr) (lo : Int) (n : Nat) : Turn P w K tg (Itr lo n) [it] it (fun i h => IsRangeIter h it (lo + (i : Nat) * 1) ((n : Int) - (i : Nat)) 1) where
  mem := by simp
  obj := fun i h st b hb => by
    have e : b = it := by simpa using hb
    subst e
    exact ⟨_, st, fun v z => by
      have z' : Data.fields _ = Data.cell v := z
      cases z'⟩
  keep := fun i h h' st k => k it (by simp) _ st
  item := by
    intro X hP hw hK hc i pins s σ H E I hf st hg
    subst hP hw hK
    obtain ⟨f0, f1, f2, f3, f4, f5⟩ := hf it (by simp)
    have W := Walks.range (prog := X.prog) (w := X.w) (I.ok.hd hc) it lo 1 n
    refine W.item i s _ _ hg st fun v h' tk hv st' kk => ?_
    obtain ⟨t, rfl⟩ := hv
    have I1 : Inv X pins σ H { s with heap := h', toks := tk } := I.turned (fun b o hb e => kk b o (by simpa using hb) e) f0 f1 f3 f4 f5
    refine ⟨_, rfl, go_of (s := { s with heap := h', toks := tk }) (n := "range_iterator") st' rfl rfl (by decide) ⟨.int (lo + i), H, I1, ⟨t, ?_⟩, ⟨rfl, rfl⟩, st', fun b hb => (hf b hb).1⟩⟩
    rw [Int.mul_one]
  done := by
    intro X hP hw hK hc i pins s σ H E I hf st hg
    subst hP hw hK
    obtain ⟨f0, f1, f2, f3, f4, f5⟩ := hf it (by simp)
    exact wpAny_pyNext_range_end (I.ok.hd hc) st (by have : n ≤ i := hg; omega) fun h' eb => ⟨rfl, I.turned (t' := s.toks) (fun b o hb e => eb b o hb e) f0 f1 f3 f4 f5⟩
  self := fun _ _ _ _ _ st h => wpAny_pyIter_rangeiter st h
end L2

namespace L2
open PySem PySem.Spec PyProof.Rows
section
variable {X : Cx} {tg : Expr}
def iList (K : PySem.W.Frag) (tl : TE) : TI := fun σ H R => tl σ H fun x H1 => ∃ a, x = .ref a ∧ (∃ xs, SqL K H1 a xs) ∧ R (Itl K a) H1
def iTup (K : PySem.W.Frag) (tl : TE) : TI := fun σ H R => tl σ H fun x H1 => ∃ a, x = .ref a ∧ (∃ xs, SqT K H1 a xs) ∧ R (Itt K a) H1
theorem pi_list {l : Expr} {tl : TE} (hl : PE X l tl) : PI X tg l (iList X.K tl) := by
  intro pins s σ H R I h
  refine thn (hl pins s σ H _ I h) fun v s1 ⟨x, H1, I1, r1, q1⟩ => ?_
  obtain ⟨a, e, ⟨xs, hq⟩, q⟩ := q1
  subst e
  cases r1
  obtain ⟨its, rv, p, hz⟩ := I1.list hq
  refine wpAny_pyIter_list p.isList ?_
  refine ⟨s1.heap.objs.size, [s1.heap.objs.size], _, _, H1, rfl, I1.kept (t' := s1.toks) fun b o e => Heap.get?_push_of_some _ e, turn_list a _, ⟨_, Heap.get?_push_size _ rfl, rfl, rfl⟩, fun b hb => ?_, q⟩
  have e : b = s1.heap.objs.size := by simpa using hb
  subst e
  exact I1.fpOk (Nat.le_refl _) (I1.hok.fresh (Nat.le_refl _))
theorem pi_tup {l : Expr} {tl : TE} (hl : PE X l tl) : PI X tg l (iTup X.K tl) := by
  intro pins s σ H R I h
  refine thn (hl pins s σ H _ I h) fun v s1 ⟨x, H1, I1, r1, q1⟩ => ?_
  obtain ⟨a, e, ⟨xs, hq⟩, q⟩ := q1
  subst e
  cases r1
  obtain ⟨its, rv, p, hz⟩ := I1.tuple hq
  refine wpAny_pyIter_tuple (show s1.heap.IsTuple a its.toArray from p) ?_
  refine ⟨s1.heap.objs.size, [s1.heap.objs.size], _, _, H1, rfl, I1.kept (t' := s1.toks) fun b o e => Heap.get?_push_of_some _ e, turn_tuple a _, ⟨_, Heap.get?_push_size _ rfl, rfl, rfl⟩, fun b hb => ?_, q⟩
  have e : b = s1.heap.objs.size := by simpa using hb
  subst e
  exact I1.fpOk (Nat.le_refl _) (I1.hok.fresh (Nat.le_refl _))
/-- a range object just made, walked -/
theorem range_it {pins : List (Addr × Obj)} {σ : St} {H : Hp} {s : Shared} {R : It → Hp → Prop} {E : Value → Shared → Prop} {lo hi : Int} {t u v : Tok} {tk : Nat} (I : Inv X pins σ H s) (h1 : -(2 ^ 62) ≤ lo) (h2 : lo < 2 ^ 62) (h3 : -(2 ^ 62) ≤ hi) (h4 : hi < 2 ^ 62)
    (q : R (Itr lo (hi - lo).toNat) H) : wpAny (model X.prog X.w) X.A (pyIter (.ref s.heap.objs.size)) (PIE X pins σ tg R) E { s with heap := s.heap.push { cls := .type "range", data := .fields #[.int lo t, .int hi u, .int 1 v] }, toks := tk } := by
  refine wpAny_pyIter_range (IsRange.new ..) (small_one h1 h2 h3 h4) ?_
  have I1 : Inv X pins σ H { s with heap := s.heap.push { cls := .type "range", data := .fields #[.int lo t, .int hi u, .int 1 v] }, toks := tk } := I.kept fun b o e => Heap.get?_push_of_some _ e
  refine ⟨(s.heap.push { cls := .type "range", data := .fields #[.int lo t, .int hi u, .int 1 v] }).objs.size, [(s.heap.push { cls := .type "range", data := .fields #[.int lo t, .int hi u, .int 1 v] }).objs.size], _, _, H, rfl,
    I1.kept (t' := tk) fun b o e => Heap.get?_push_of_some _ e, turn_range _ lo (hi - lo).toNat, ?_, fun b hb => ?_, q⟩
  · have e1 : lo + ((0 : Nat) : Int) * 1 = lo := by simp
    have e2 : (((hi - lo).toNat : Nat) : Int) - ((0 : Nat) : Int) = Builtin.Range.rangeSize lo hi 1 := by rw [rangeSize_one]; split <;> omega
    show IsRangeIter _ _ (lo + ((0 : Nat) : Int) * 1) ((((hi - lo).toNat : Nat) : Int) - ((0 : Nat) : Int)) 1
    rw [e1, e2]
    exact Heap.get?_push_size _ rfl
  · have e : b = (s.heap.push { cls := .type "range", data := .fields #[.int lo t, .int hi u, .int 1 v] }).objs.size := by simpa using hb
    subst e
    exact I1.fpOk (Nat.le_refl _) (I1.hok.fresh (Nat.le_refl _))
def iRng1 (ta : TA) : TI := fun σ H R => ta σ H fun vs H1 => ∃ j : Int, vs = [.int j] ∧ -(2 ^ 62) ≤ j ∧ j < 2 ^ 62 ∧ R (Itr 0 j.toNat) H1
def iRng2 (ta : TA) : TI := fun σ H R => ta σ H fun vs H1 => ∃ i j : Int, vs = [.int i, .int j] ∧ (-(2 ^ 62) ≤ i ∧ i < 2 ^ 62 ∧ -(2 ^ 62) ≤ j ∧ j < 2 ^ 62) ∧ R (Itr i (j - i).toNat) H1
theorem pi_range1 {a : Expr} {ta : TA} {p pos : Pos} (hg : Gl X "range") (hm : X.mg "range" = none) (ha : PA X [a] ta) (hs : starEach [a] X.env = [(false, eval a X.env)] := by rfl) : PI X tg (.Call (.Name "range" p) [a] [] pos) (iRng1 ta) := by
  intro pins s σ H R I h
  refine Call_ (ld_blt I hg hm boot_range (PyProof.Rows.callWith_type1 (thn (ha pos pins s σ H _ I h) fun us s1 ⟨vs, H1, I1, r1, q1⟩ => ?_) hs rfl))
  obtain ⟨j, e, q1, q2, q⟩ := q1
  subst e
  cases r1 with
  | cons r rr =>
    cases rr
    obtain ⟨t, rfl⟩ := r
    exact call_range_1 (range_it I1 (by omega) (by omega) q1 q2 (by simpa using q))
theorem pi_range2 {a b : Expr} {ta : TA} {p pos : Pos} (hg : Gl X "range") (hm : X.mg "range" = none) (ha : PA X [a, b] ta) (hs : starEach [a, b] X.env = [(false, eval a X.env), (false, eval b X.env)] := by rfl) (hs2 : starEach [b] X.env = [(false, eval b X.env)] := by rfl) :
    PI X tg (.Call (.Name "range" p) [a, b] [] pos) (iRng2 ta) := by
  intro pins s σ H R I h
  refine Call_ (ld_blt I hg hm boot_range (PyProof.Rows.callWith_type1 (thn (ha pos pins s σ H _ I h) fun us s1 ⟨vs, H1, I1, r1, q1⟩ => ?_) (by rw [hs, hs2]) (by rw [hs2]; rfl)))
  obtain ⟨i, j, e, ⟨q1, q2, q3, q4⟩, q⟩ := q1
  subst e
  cases r1 with
  | cons r rr =>
    cases rr with
    | cons r' rr =>
      cases rr
      obtain ⟨t, rfl⟩ := r
      obtain ⟨t', rfl⟩ := r'
      exact call_range_2 (range_it I1 q1 q2 q3 q4 q)

/-! ### for -/
/-- W: the invariant by the turn and a measure; N: what the body is to reach -/
def tFor (wi : TI) (g : TG) (tb : TS) : TS := fun D σ H => wi σ H fun J H1 => ∃ W : Nat → Nat → St → Hp → Prop, (∃ m, W 0 m σ H1) ∧ ∀ i m σ H, W i m σ H →
  (J.stop i H ∧ D.nx σ H) ∨ (J.go i H ∧ ∃ N : St → Hp → Prop, (∀ σ' H', N σ' H' → ∃ m', m' < m ∧ W (i + 1) m' σ' H') ∧ ∀ x H', J.yld i H x H' → g x σ H' fun σ2 H2 => tb { D with nx := N, ct := N, bk := D.nx } σ2 H2)
/-- the records at fp as they stand -/
def pinsAt (fp : List Addr) (h : Heap) : List (Addr × Obj) := fp.filterMap fun b => (h.get? b).map fun o => (b, o)
theorem mem_pinsAt {fp : List Addr} {h : Heap} {b : Addr} {o : Obj} (hb : b ∈ fp) (e : h.get? b = some o) : (b, o) ∈ pinsAt fp h := List.mem_filterMap.mpr ⟨b, hb, by rw [e]; rfl⟩
theorem of_pinsAt {fp : List Addr} {h : Heap} {p : Addr × Obj} (hp : p ∈ pinsAt fp h) : p.1 ∈ fp ∧ h.get? p.1 = some p.2 := by
  obtain ⟨b, hb, e⟩ := List.mem_filterMap.mp hp
  cases q : h.get? b with
  | none => rw [q] at e; cases e
  | some o =>
    rw [q] at e
    have e' : (b, o) = p := Option.some.inj e
    subst e'
    exact ⟨hb, q⟩
theorem Inv.pinned {pins : List (Addr × Obj)} {σ : St} {H : Hp} {s : Shared} {fp : List Addr} (I : Inv X pins σ H s) (hf : ∀ b ∈ fp, FpOk X pins H b) (ho : ∀ b ∈ fp, ∃ o, s.heap.get? b = some o ∧ ∀ v, o.data ≠ .cell v) : Inv X (pins ++ pinsAt fp s.heap) σ H s :=
  I.pins_of fun p hp => (List.mem_append.mp hp).elim (fun z => I.pin p (List.mem_append_right _ z)) fun z => by
    obtain ⟨hb, e⟩ := of_pinsAt z
    obtain ⟨f0, f1, f2, _⟩ := hf p.1 hb
    obtain ⟨o, e', d⟩ := ho p.1 hb
    rw [e] at e'; cases e'
    exact ⟨e, f0, f1, f2, d⟩
theorem Inv.unpinned {pins pl : List (Addr × Obj)} {σ : St} {H : Hp} {s : Shared} (I : Inv X (pins ++ pl) σ H s) : Inv X pins σ H s := I.pins_of fun p hp => I.pin p (List.mem_append_right _ (List.mem_append_left _ hp))
theorem ps_for {iter : Expr} {body : List Stmt} {wi : TI} {g : TG} {tb : TS} {pos : Pos} (hp : PassesOwn (model X.prog X.w) X.A X.env X.xe) (hc : X.calm = true) (hi : PI X tg iter wi) (hg : PG X tg g) (hb : PSs X body tb)
    (hs : ∀ x, foldedSetIterable iter X.env x = pure x := by intro _; rfl) : PS X (.For tg iter body [] pos) (tFor wi g tb) := by
  intro pins s σ H D I h
  refine wpAny_For (thn (hi pins s σ H _ I h) fun v s1 h1 => thn h1 fun itv s2 h2 => ?_) hs
  obtain ⟨it, fp, tn, J, H2, e, I2, T, st2, f2, W, ⟨m0, w0⟩, turn⟩ := h2
  subst e
  -- what stays true of the iterator's objects through the loop
  have stat : ∀ {H' : Hp}, (∀ b ∈ fp, H' b = none) → ∀ b ∈ fp, FpOk X pins H' b := fun hn b hb => ⟨hn b hb, (f2 b hb).2⟩
  refine codeAny_forLoop_any (fun n s' => ∃ i σ' H', Inv X pins σ' H' s' ∧ tn i s'.heap ∧ (∀ b ∈ fp, H' b = none) ∧ W i n σ' H') ?_ m0 ⟨0, σ, H2, I2, st2, fun b hb => (f2 b hb).1, w0⟩
  rintro n s3 ⟨i, σ3, H3, I3, st3, fr3, w3⟩
  rcases turn i n σ3 H3 w3 with ⟨stop, qn⟩ | ⟨go, N, hN, step⟩
  · refine wpAny_passesOwn hp (thn (T.done X rfl rfl rfl hc i pins s3 σ3 H3 X.xe I3 (stat fr3) st3 stop) fun r s4 ⟨hr, I4⟩ => ?_)
    subst hr
    exact wpAny_execs_nil ⟨σ3, H3, I4, qn⟩
  · refine wpAny_passesOwn hp (thn (T.item X rfl rfl rfl hc i pins s3 σ3 H3 X.xe I3 (stat fr3) st3 go) fun r s4 ⟨u, hr, h4⟩ => ?_)
    subst hr
    refine wpAny_passesOwn hp (thn h4 fun _ s5 ⟨x, H5, I5, r5, y5, st5, fr5⟩ => ?_)
    have I5' := I5.pinned (stat fr5) (T.obj _ _ st5)
    refine wpAny_passesOwn hp (thn (hg _ s5 σ3 H5 x u _ I5' r5 (step x H5 y5)) fun _ s6 ⟨σ6, H6, I6, q6⟩ => ?_)
    refine wpAny_passesOwn hp (thn (hb _ s6 σ6 H6 _ I6 q6) fun f s7 q7 => ?_)
    have again : ∀ {σ7 : St} {H7 : Hp}, Inv X (pins ++ pinsAt fp s5.heap) σ7 H7 s7 → N σ7 H7 → ∃ m, m < n ∧ ∃ i σ' H', Inv X pins σ' H' s7 ∧ tn i s7.heap ∧ (∀ b ∈ fp, H' b = none) ∧ W i m σ' H' := fun {σ7 H7} I7 n7 => by
      obtain ⟨m', hm, w7⟩ := hN σ7 H7 n7
      refine ⟨m', hm, i + 1, σ7, H7, I7.unpinned, T.keep _ _ _ st5 fun b hb o e => (I7.pin (b, o) (List.mem_append_right _ (List.mem_append_right _ (mem_pinsAt hb e)))).1, fun b hb => ?_, w7⟩
      obtain ⟨o, e, d⟩ := T.obj _ _ st5 b hb
      exact (I7.pin (b, o) (List.mem_append_right _ (List.mem_append_right _ (mem_pinsAt hb e)))).2.1
    cases f with
    | next => obtain ⟨σ7, H7, I7, n7⟩ := q7; exact again I7 n7
    | cont => obtain ⟨σ7, H7, I7, n7⟩ := q7; exact again I7 n7
    | brk => obtain ⟨σ7, H7, I7, q7⟩ := q7; exact ⟨σ7, H7, I7.unpinned, q7⟩
    | ret v => obtain ⟨x7, σ7, H7, I7, r7, q7⟩ := q7; exact ⟨x7, σ7, H7, I7.unpinned, r7, q7⟩
end

/-! ### the forms one uses -/
/-- over a list that the body leaves as it is -/
theorem for_list {K : PySem.W.Frag} {a : Addr} {xs : List V} {g : TG} {tb : TS} {D : Ends} {σ : St} {H : Hp} (Pv : Nat → St → Hp → Prop) (h0 : Pv 0 σ H) (hl : ∀ i σ H, i ≤ xs.length → Pv i σ H → SqL K H a xs)
    (hs : ∀ i x σ H, xs[i]? = some x → Pv i σ H → g x σ H fun σ2 H2 => tb { D with nx := Pv (i + 1), ct := Pv (i + 1), bk := D.nx } σ2 H2) (hd : ∀ σ H, Pv xs.length σ H → D.nx σ H) :
    ∃ W : Nat → Nat → St → Hp → Prop, (∃ m, W 0 m σ H) ∧ ∀ i m σ H, W i m σ H →
      ((Itl K a).stop i H ∧ D.nx σ H) ∨ ((Itl K a).go i H ∧ ∃ N : St → Hp → Prop, (∀ σ' H', N σ' H' → ∃ m', m' < m ∧ W (i + 1) m' σ' H') ∧ ∀ x H', (Itl K a).yld i H x H' → g x σ H' fun σ2 H2 => tb { D with nx := N, ct := N, bk := D.nx } σ2 H2) := by
  refine ⟨fun i m σ H => m = xs.length - i ∧ i ≤ xs.length ∧ Pv i σ H, ⟨xs.length, by simp, Nat.zero_le _, h0⟩, ?_⟩
  rintro i m σ H ⟨rfl, hi, p⟩
  have q := hl i σ H hi p
  by_cases hlt : i < xs.length
  · refine .inr ⟨⟨xs, xs[i], q, by simp [hlt]⟩, Pv (i + 1), fun σ' H' p' => ⟨xs.length - (i + 1), by omega, rfl, hlt, p'⟩, fun x H' y => ?_⟩
    obtain ⟨e, y⟩ := y
    subst e
    exact hs i x σ _ (y xs q) p
  · have e : i = xs.length := by omega
    subst e
    exact .inl ⟨⟨xs, q, Nat.le_refl _⟩, hd σ H p⟩
theorem for_tup {K : PySem.W.Frag} {a : Addr} {xs : List V} {g : TG} {tb : TS} {D : Ends} {σ : St} {H : Hp} (Pv : Nat → St → Hp → Prop) (h0 : Pv 0 σ H) (hl : ∀ i σ H, i ≤ xs.length → Pv i σ H → SqT K H a xs)
    (hs : ∀ i x σ H, xs[i]? = some x → Pv i σ H → g x σ H fun σ2 H2 => tb { D with nx := Pv (i + 1), ct := Pv (i + 1), bk := D.nx } σ2 H2) (hd : ∀ σ H, Pv xs.length σ H → D.nx σ H) :
    ∃ W : Nat → Nat → St → Hp → Prop, (∃ m, W 0 m σ H) ∧ ∀ i m σ H, W i m σ H →
      ((Itt K a).stop i H ∧ D.nx σ H) ∨ ((Itt K a).go i H ∧ ∃ N : St → Hp → Prop, (∀ σ' H', N σ' H' → ∃ m', m' < m ∧ W (i + 1) m' σ' H') ∧ ∀ x H', (Itt K a).yld i H x H' → g x σ H' fun σ2 H2 => tb { D with nx := N, ct := N, bk := D.nx } σ2 H2) := by
  refine ⟨fun i m σ H => m = xs.length - i ∧ i ≤ xs.length ∧ Pv i σ H, ⟨xs.length, by simp, Nat.zero_le _, h0⟩, ?_⟩
  rintro i m σ H ⟨rfl, hi, p⟩
  have q := hl i σ H hi p
  by_cases hlt : i < xs.length
  · refine .inr ⟨⟨xs, xs[i], q, by simp [hlt]⟩, Pv (i + 1), fun σ' H' p' => ⟨xs.length - (i + 1), by omega, rfl, hlt, p'⟩, fun x H' y => ?_⟩
    obtain ⟨e, y⟩ := y
    subst e
    exact hs i x σ _ (y xs q) p
  · have e : i = xs.length := by omega
    subst e
    exact .inl ⟨⟨xs, q, Nat.le_refl _⟩, hd σ H p⟩
theorem for_range {lo : Int} {n : Nat} {g : TG} {tb : TS} {D : Ends} {σ : St} {H : Hp} (Pv : Nat → St → Hp → Prop) (h0 : Pv 0 σ H)
    (hs : ∀ i σ H, i < n → Pv i σ H → g (.int (lo + i)) σ H fun σ2 H2 => tb { D with nx := Pv (i + 1), ct := Pv (i + 1), bk := D.nx } σ2 H2) (hd : ∀ σ H, Pv n σ H → D.nx σ H) :
    ∃ W : Nat → Nat → St → Hp → Prop, (∃ m, W 0 m σ H) ∧ ∀ i m σ H, W i m σ H →
      ((Itr lo n).stop i H ∧ D.nx σ H) ∨ ((Itr lo n).go i H ∧ ∃ N : St → Hp → Prop, (∀ σ' H', N σ' H' → ∃ m', m' < m ∧ W (i + 1) m' σ' H') ∧ ∀ x H', (Itr lo n).yld i H x H' → g x σ H' fun σ2 H2 => tb { D with nx := N, ct := N, bk := D.nx } σ2 H2) := by
  refine ⟨fun i m σ H => m = n - i ∧ i ≤ n ∧ Pv i σ H, ⟨n, by simp, Nat.zero_le _, h0⟩, ?_⟩
  rintro i m σ H ⟨rfl, hi, p⟩
  by_cases hlt : i < n
  · refine .inr ⟨hlt, Pv (i + 1), fun σ' H' p' => ⟨n - (i + 1), by omega, rfl, hlt, p'⟩, fun x H' y => ?_⟩
    obtain ⟨e, y⟩ := y
    subst e y
    exact hs i σ _ hlt p
  · have e : i = n := by omega
    subst e
    exact .inl ⟨Nat.le_refl _, hd σ H p⟩
/-- while, by a word and a measure of the state -/
theorem while_by {c : TT} {tb : TS} {D : Ends} {σ : St} {H : Hp} (Pv : St → Hp → Prop) (μ : St → Hp → Nat) (h0 : Pv σ H)
    (hs : ∀ σ H, Pv σ H → c σ H fun b H1 => if b = true then tb { D with nx := fun σ' H' => Pv σ' H' ∧ μ σ' H' < μ σ H, ct := fun σ' H' => Pv σ' H' ∧ μ σ' H' < μ σ H, bk := D.nx } σ H1 else D.nx σ H1)
    (mono : ∀ σ H Q Q', (∀ b H1, Q b H1 → Q' b H1) → c σ H Q → c σ H Q') : tWhile c tb D σ H := by
  refine ⟨fun m σ H => m = μ σ H ∧ Pv σ H, ⟨_, rfl, h0⟩, ?_⟩
  rintro m σ H ⟨rfl, p⟩
  refine mono σ H _ _ (fun b H1 q => ?_) (hs σ H p)
  cases b with
  | true => exact ⟨_, fun σ' H' ⟨p', l⟩ => ⟨_, l, rfl, p'⟩, q⟩
  | false => exact q
end L2

namespace L2
open PySem PySem.Spec PyProof.Rows

abbrev R2 := V → V → Hp → VK → Prop
/-- a two-place operation on values: f is binaryOp op, inplaceOp op or compareOp op -/
def OpR (X : Cx) (f : Value → Value → Sem Value) (r : R2) : Prop :=
  ∀ (pins : List (Addr × Obj)) (s : Shared) (σ : St) (H : Hp) (x y : V) (v u : Value) (Q : VK), Inv X pins σ H s → RelV x v → RelV y u → r x y H Q →
    wpAny (model X.prog X.w) X.A (f v u) (EP X pins σ Q) X.xe s
/-- a one-place operation -/
def UnR (X : Cx) (f : Value → Sem Value) (r : V → Hp → VK → Prop) : Prop :=
  ∀ (pins : List (Addr × Obj)) (s : Shared) (σ : St) (H : Hp) (x : V) (v : Value) (Q : VK), Inv X pins σ H s → RelV x v → r x H Q →
    wpAny (model X.prog X.w) X.A (f v) (EP X pins σ Q) X.xe s
/-- a call of a value that is known (a builtin, a type) with values -/
def CallR (X : Cx) (f : Value) (r : List V → Hp → VK → Prop) : Prop :=
  ∀ (pins : List (Addr × Obj)) (s : Shared) (σ : St) (H : Hp) (xs : List V) (us : List Value) (Q : VK), Inv X pins σ H s → Vals xs us → r xs H Q →
    wpAny (model X.prog X.w) X.A (call f us) (EP X pins σ Q) X.xe s
/-- a value's truth -/
def TruR (X : Cx) (r : V → Hp → (Bool → Hp → Prop) → Prop) : Prop :=
  ∀ (pins : List (Addr × Obj)) (s : Shared) (σ : St) (H : Hp) (x : V) (v : Value) (Q : Bool → Hp → Prop), Inv X pins σ H s → RelV x v → r x H Q →
    wpAny (model X.prog X.w) X.A (truthy v) (TP X pins σ Q) X.xe s

def tOp (r : R2) (ta tb : TE) : TE := fun σ H Q => ta σ H fun x H1 => tb σ H1 fun y H2 => r x y H2 Q
def tUn (r : V → Hp → VK → Prop) (ta : TE) : TE := fun σ H Q => ta σ H fun x H1 => r x H1 Q
/-- ints in, under C, and a value out -/
def rI (C : Int → Int → Prop) (g : Int → Int → V) : R2 := fun x y H Q => ∃ i j, x = .int i ∧ y = .int j ∧ C i j ∧ Q (g i j) H
def rI0 (g : Int → Int → V) : R2 := fun x y H Q => ∃ i j, x = .int i ∧ y = .int j ∧ Q (g i j) H
def rU (g : Int → V) : V → Hp → VK → Prop := fun x H Q => ∃ i, x = .int i ∧ Q (g i) H

section
variable {X : Cx} {a b c : Expr} {ta tb tc : TE} {pos : Pos}

theorem binT (ha : PE X a ta) (hb : PE X b tb) {pins : List (Addr × Obj)} {s : Shared} {σ : St} {H : Hp} {R : V → V → Hp → Prop} (I : Inv X pins σ H s)
    (h : ta σ H fun x H1 => tb σ H1 fun y H2 => R x y H2) {Q : Value → Shared → Prop} {f : Value → Value → Sem Value}
    (hf : ∀ v u s2 x y H2, Inv X pins σ H2 s2 → RelV x v → RelV y u → R x y H2 → wpAny (model X.prog X.w) X.A (f v u) Q X.xe s2) :
    wpAny (model X.prog X.w) X.A (eval a X.env) (fun v s₁ => wpAny (model X.prog X.w) X.A (eval b X.env) (fun u s₂ => wpAny (model X.prog X.w) X.A (f v u) Q X.xe s₂) X.xe s₁) X.xe s := by
  refine thn (ha pins s σ H _ I h) fun v s1 ⟨x, H1, I1, r1, q1⟩ => ?_
  refine thn (hb pins s1 σ H1 _ I1 q1) fun u s2 ⟨y, H2, I2, r2, q2⟩ => ?_
  exact hf v u s2 x y H2 I2 r1 r2 q2

theorem pe_op {op : Operator} {r : R2} (ho : OpR X (binaryOp op) r) (ha : PE X a ta) (hb : PE X b tb) : PE X (.BinOp a op b pos) (tOp r ta tb) := by
  intro pins s σ H Q I h
  exact wpAny_BinOp (binT ha hb I h fun v u s2 x y H2 I2 rx ry q => ho pins s2 σ H2 x y v u Q I2 rx ry q)
theorem pe_un {op : UnaryOp} {r : V → Hp → VK → Prop} (ho : UnR X (unaryOp op) r) (ha : PE X a ta) : PE X (.UnaryOp op a pos) (tUn r ta) := by
  intro pins s σ H Q I h
  exact UnaryOp_ (thn (ha pins s σ H _ I h) fun v s1 ⟨x, H1, I1, r1, q1⟩ => ho pins s1 σ H1 x v Q I1 r1 q1)
/-- a op= e at a name: the name's slot i -/
theorem augR {op : Operator} {r : R2} (ho : OpR X (inplaceOp op) r) {pins : List (Addr × Obj)} {s : Shared} {σ : St} {H : Hp} {x y : V} {v u : Value} {Q : VK} (I : Inv X pins σ H s)
    (rx : RelV x v) (ry : RelV y u) (q : r x y H Q) : wpAny (model X.prog X.w) X.A (inplaceOp op v u) (EP X pins σ Q) X.xe s := ho pins s σ H x y v u Q I rx ry q

/-! ### ints -/
theorem opI {f : Value → Value → Sem Value} {C : Int → Int → Prop} {g : Int → Int → Int}
    (rule : ∀ (i j : Int) (t u : Tok) (s : Shared) (Q : Value → Shared → Prop) (E : Value → Shared → Prop), C i j → Q (.int (g i j) s.toks) { s with toks := s.toks + 1 } → wpAny (model X.prog X.w) X.A (f (.int i t) (.int j u)) Q E s) :
    OpR X f (rI C fun i j => .int (g i j)) := by
  intro pins s σ H x y v u Q I rx ry h
  obtain ⟨i, j, rfl, rfl, hc, q⟩ := h
  obtain ⟨t, rfl⟩ := rx
  obtain ⟨t', rfl⟩ := ry
  exact rule i j t t' s _ _ hc ⟨.int (g i j), H, I.tok _, ⟨_, rfl⟩, q⟩
theorem opI0 {f : Value → Value → Sem Value} {g : Int → Int → Int}
    (rule : ∀ (i j : Int) (t u : Tok) (s : Shared) (Q : Value → Shared → Prop) (E : Value → Shared → Prop), Q (.int (g i j) s.toks) { s with toks := s.toks + 1 } → wpAny (model X.prog X.w) X.A (f (.int i t) (.int j u)) Q E s) :
    OpR X f (rI0 fun i j => .int (g i j)) := by
  intro pins s σ H x y v u Q I rx ry h
  obtain ⟨i, j, rfl, rfl, q⟩ := h
  obtain ⟨t, rfl⟩ := rx
  obtain ⟨t', rfl⟩ := ry
  exact rule i j t t' s _ _ ⟨.int (g i j), H, I.tok _, ⟨_, rfl⟩, q⟩
theorem opB0 {f : Value → Value → Sem Value} {g : Int → Int → Bool}
    (rule : ∀ (i j : Int) (t u : Tok) (s : Shared) (Q : Value → Shared → Prop) (E : Value → Shared → Prop), Q (.bool (g i j)) s → wpAny (model X.prog X.w) X.A (f (.int i t) (.int j u)) Q E s) :
    OpR X f (rI0 fun i j => .bl (g i j)) := by
  intro pins s σ H x y v u Q I rx ry h
  obtain ⟨i, j, rfl, rfl, q⟩ := h
  obtain ⟨t, rfl⟩ := rx
  obtain ⟨t', rfl⟩ := ry
  exact rule i j t t' s _ _ ⟨.bl (g i j), H, I, rfl, q⟩

def CDiv (i j : Int) : Prop := 0 < j ∧ j < 1073741824
def CDivN (i j : Int) : Prop := j ≠ 0 ∧ j.natAbs < 1073741824
def CPow (i j : Int) : Prop := 0 ≤ j ∧ j ≤ 1000000 ∧ i.natAbs < 2 ^ 64
def CMul (i j : Int) : Prop := (-(2 ^ 64) < i ∧ i < 2 ^ 64) ∨ (-(2 ^ 64) < j ∧ j < 2 ^ 64)
theorem CMul.ok {i j : Int} (h : CMul i j) : IntMulOk i j := by
  rcases h with ⟨h1, h2⟩ | ⟨h1, h2⟩
  · exact .of_left (intBits_le_64 h1 h2)
  · exact .of_right (intBits_le_64 h1 h2)
theorem two_pow_nn (k : Nat) : (0 : Int) ≤ 2 ^ k := by
  rw [two_pow_cast]
  exact Int.natCast_nonneg _

theorem op_add : OpR X (binaryOp .Add) (rI0 fun i j => .int (i + j)) := opI0 fun _ _ _ _ _ _ _ q => add_int q
theorem op_sub : OpR X (binaryOp .Sub) (rI0 fun i j => .int (i - j)) := opI0 fun _ _ _ _ _ _ _ q => sub_int q
theorem op_mul : OpR X (binaryOp .Mult) (rI CMul fun i j => .int (i * j)) := opI fun _ _ _ _ _ _ _ hc q => mul_int q hc.ok
/-- // by a positive divisor -/
theorem op_fdiv : OpR X (binaryOp .FloorDiv) (rI CDiv fun i j => .int (i / j)) := opI fun i j _ _ _ _ _ hc q => by
  have h1 : (0 : Int) < j := hc.1
  have h2 : j < 1073741824 := hc.2
  exact floordiv_int (by omega) (by rw [Int.fdiv_eq_ediv_of_nonneg i (by omega)]; exact q) (.inl (PyProof.noPylong_small (by omega)))
theorem op_fdivN : OpR X (binaryOp .FloorDiv) (rI CDivN fun i j => .int (i.fdiv j)) := opI fun _ _ _ _ _ _ _ hc q => floordiv_int hc.1 q (.inl (PyProof.noPylong_small hc.2))
/-- % by a positive divisor of any size -/
theorem op_mod : OpR X (binaryOp .Mod) (rI (fun _ j => 0 < j) fun i j => .int (i % j)) := opI fun i j _ _ _ _ _ hc q => by
  have h1 : (0 : Int) < j := hc
  exact mod_int' (by omega) (by rw [Int.fmod_eq_emod_of_nonneg i (by omega)]; exact q)
theorem op_modN : OpR X (binaryOp .Mod) (rI (fun _ j => j ≠ 0) fun i j => .int (i.fmod j)) := opI fun _ _ _ _ _ _ _ hc q => mod_int' hc q
theorem op_pow : OpR X (binaryOp .Pow) (rI CPow fun i j => .int (i ^ j.toNat)) := opI fun _ _ _ _ _ _ _ hc q => pow_int_small hc.1 hc.2.1 hc.2.2 q
theorem op_shl : OpR X (binaryOp .LShift) (rI CPow fun i j => .int (i * 2 ^ j.toNat)) := opI fun _ _ _ _ _ _ _ hc q => lshift_int_small hc.1 hc.2.1 hc.2.2 q
theorem op_shr : OpR X (binaryOp .RShift) (rI (fun _ j => 0 ≤ j) fun i j => .int (i / 2 ^ j.toNat)) := opI fun i j _ _ _ _ _ hc q =>
  rshift_int hc (by rw [Int.fdiv_eq_ediv_of_nonneg i (two_pow_nn _)]; exact q)
theorem op_and : OpR X (binaryOp .BitAnd) (rI0 fun i j => .int (Builtin.bitAnd i j)) := opI0 fun _ _ _ _ _ _ _ q => and_int q
theorem op_or : OpR X (binaryOp .BitOr) (rI0 fun i j => .int (Builtin.bitOr i j)) := opI0 fun _ _ _ _ _ _ _ q => or_int q
theorem op_xor : OpR X (binaryOp .BitXor) (rI0 fun i j => .int (Builtin.bitXor i j)) := opI0 fun _ _ _ _ _ _ _ q => xor_int q

theorem iop_add : OpR X (inplaceOp .Add) (rI0 fun i j => .int (i + j)) := opI0 fun _ _ _ _ _ _ _ q => iadd_int q
theorem iop_sub : OpR X (inplaceOp .Sub) (rI0 fun i j => .int (i - j)) := opI0 fun _ _ _ _ _ _ _ q => isub_int q
theorem iop_mul : OpR X (inplaceOp .Mult) (rI CMul fun i j => .int (i * j)) := opI fun _ _ _ _ _ _ _ hc q => imul_int q hc.ok
theorem iop_fdiv : OpR X (inplaceOp .FloorDiv) (rI CDiv fun i j => .int (i / j)) := opI fun i j _ _ _ _ _ hc q => by
  have h1 : (0 : Int) < j := hc.1
  have h2 : j < 1073741824 := hc.2
  exact ifloordiv_int (by omega) (by rw [Int.fdiv_eq_ediv_of_nonneg i (by omega)]; exact q) (.inl (PyProof.noPylong_small (by omega)))
theorem iop_mod : OpR X (inplaceOp .Mod) (rI (fun _ j => 0 < j) fun i j => .int (i % j)) := opI fun i j _ _ _ _ _ hc q => by
  have h1 : (0 : Int) < j := hc
  exact imod_int (by omega) (by rw [Int.fmod_eq_emod_of_nonneg i (by omega)]; exact q)
theorem iop_shl : OpR X (inplaceOp .LShift) (rI CPow fun i j => .int (i * 2 ^ j.toNat)) := opI fun _ _ _ _ _ _ _ hc q => ilshift_int_small hc.1 hc.2.1 hc.2.2 q
theorem iop_shr : OpR X (inplaceOp .RShift) (rI (fun _ j => 0 ≤ j) fun i j => .int (i / 2 ^ j.toNat)) := opI fun i j _ _ _ _ _ hc q =>
  irshift_int hc (by rw [Int.fdiv_eq_ediv_of_nonneg i (two_pow_nn _)]; exact q)
theorem iop_and : OpR X (inplaceOp .BitAnd) (rI0 fun i j => .int (Builtin.bitAnd i j)) := opI0 fun _ _ _ _ _ _ _ q => iand_int q
theorem iop_or : OpR X (inplaceOp .BitOr) (rI0 fun i j => .int (Builtin.bitOr i j)) := opI0 fun _ _ _ _ _ _ _ q => ior_int q
theorem iop_xor : OpR X (inplaceOp .BitXor) (rI0 fun i j => .int (Builtin.bitXor i j)) := opI0 fun _ _ _ _ _ _ _ q => ixor_int q

theorem unI {f : Value → Sem Value} {g : Int → Int}
    (rule : ∀ (i : Int) (t : Tok) (s : Shared) (Q : Value → Shared → Prop) (E : Value → Shared → Prop), Q (.int (g i) s.toks) { s with toks := s.toks + 1 } → wpAny (model X.prog X.w) X.A (f (.int i t)) Q E s) :
    UnR X f (rU fun i => .int (g i)) := by
  intro pins s σ H x v Q I rx h
  obtain ⟨i, rfl, q⟩ := h
  obtain ⟨t, rfl⟩ := rx
  exact rule i t s _ _ ⟨.int (g i), H, I.tok _, ⟨_, rfl⟩, q⟩
theorem un_neg : UnR X (unaryOp .USub) (rU fun i => .int (-i)) := unI fun _ _ _ _ _ q => neg_int q
theorem un_inv : UnR X (unaryOp .Invert) (rU fun i => .int (Builtin.bitNot i)) := unI fun _ _ _ _ _ q => invert_int q

/-! ### bools among ints: n += (a < b) -/
theorem op_add_ib : OpR X (binaryOp .Add) (fun x y H Q => ∃ i k, x = .int i ∧ y = .bl k ∧ Q (.int (i + b2i k)) H) := by
  intro pins s σ H x y v u Q I rx ry h
  obtain ⟨i, k, rfl, rfl, q⟩ := h
  obtain ⟨t, rfl⟩ := rx
  cases ry
  exact add_int_bool ⟨.int (i + b2i k), H, I.tok _, ⟨_, rfl⟩, q⟩
end

/-! ### comparisons -/
/-- the scalars that == tells apart as data does -/
def scal : V → V → Bool
  | .non, .non => true | .non, .int _ => true | .int _, .non => true | .non, .bl _ => true | .bl _, .non => true | .non, .str _ => true | .str _, .non => true
  | .int _, .int _ => true | .bl _, .bl _ => true | .str _, .str _ => true | .byt _, .byt _ => true
  | .int _, .str _ => true | .str _, .int _ => true | .bl _, .str _ => true | .str _, .bl _ => true
  | _, _ => false
def rEq : R2 := fun x y H Q => scal x y = true ∧ Q (.bl (decide (x = y))) H
def rNe : R2 := fun x y H Q => scal x y = true ∧ Q (.bl (!decide (x = y))) H

theorem dec_int {i j : Int} : decide (V.int i = V.int j) = (i == j) := by
  rw [Bool.eq_iff_iff]
  simp
theorem dec_bl {i j : Bool} : decide (V.bl i = V.bl j) = (i == j) := by
  rw [Bool.eq_iff_iff]
  simp
theorem dec_str {i j : Str} : decide (V.str i = V.str j) = (i == j) := by
  rw [Bool.eq_iff_iff]
  simp
theorem dec_byt {i j : Array UInt8} : decide (V.byt i = V.byt j) = (i.toList == j.toList) := by
  rw [Bool.eq_iff_iff]
  cases i
  cases j
  simp

section
variable {X : Cx} {a b c : Expr} {ta tb tc : TE} {pos : Pos}
theorem fin_bl {pins : List (Addr × Obj)} {σ : St} {H : Hp} {s : Shared} {Q : VK} {k k' : Bool} (I : Inv X pins σ H s) (q : Q (.bl k) H) (e : k = k') : EP X pins σ Q (.bool k') s := by
  subst e
  exact ⟨.bl k, H, I, rfl, q⟩
theorem op_eq : OpR X (compareOp .Eq) rEq := by
  intro pins s σ H x y v u Q I rx ry h
  obtain ⟨hs, q⟩ := h
  cases x with
  | non =>
    cases rx
    cases y with
    | non => cases ry; exact PySem.EqNone.eq_none_none (fin_bl I q (by simp))
    | bl j => cases ry; exact PySem.EqNone.eq_none_bool (fin_bl I q (by simp))
    | int j => obtain ⟨t', rfl⟩ := ry; exact PySem.EqNone.eq_none_int (fin_bl I q (by simp))
    | str j => obtain ⟨t', rfl⟩ := ry; exact PySem.EqNone.eq_none_str (fin_bl I q (by simp))
    | _ => exact absurd (show false = true from hs) Bool.false_ne_true
  | bl i =>
    cases rx
    cases y with
    | non => cases ry; exact PySem.EqNone.eq_bool_none (fin_bl I q (by simp))
    | bl j => cases ry; exact eq_bool (fin_bl I q dec_bl)
    | str j => obtain ⟨t', rfl⟩ := ry; exact PySem.EqMixed.eq_bool_str (fin_bl I q (by simp))
    | _ => exact absurd (show false = true from hs) Bool.false_ne_true
  | int i =>
    obtain ⟨t, rfl⟩ := rx
    cases y with
    | non => cases ry; exact PySem.EqNone.eq_int_none (fin_bl I q (by simp))
    | int j => obtain ⟨t', rfl⟩ := ry; exact eq_int (fin_bl I q dec_int)
    | str j => obtain ⟨t', rfl⟩ := ry; exact PySem.EqMixed.eq_int_str (fin_bl I q (by simp))
    | _ => exact absurd (show false = true from hs) Bool.false_ne_true
  | str i =>
    obtain ⟨t, rfl⟩ := rx
    cases y with
    | non => cases ry; exact PySem.EqNone.eq_str_none (fin_bl I q (by simp))
    | bl j => cases ry; exact PySem.EqMixed.eq_str_bool (fin_bl I q (by simp))
    | int j => obtain ⟨t', rfl⟩ := ry; exact PySem.EqMixed.eq_str_int (fin_bl I q (by simp))
    | str j => obtain ⟨t', rfl⟩ := ry; exact eq_str (fin_bl I q dec_str)
    | _ => exact absurd (show false = true from hs) Bool.false_ne_true
  | byt i =>
    obtain ⟨t, rfl⟩ := rx
    cases y with
    | byt j => obtain ⟨t', rfl⟩ := ry; exact PySem.W.eq_bytes (fin_bl I q dec_byt)
    | _ => exact absurd (show false = true from hs) Bool.false_ne_true
  | _ => cases y <;> exact absurd (show false = true from hs) Bool.false_ne_true
theorem op_ne : OpR X (compareOp .NotEq) rNe := by
  intro pins s σ H x y v u Q I rx ry h
  obtain ⟨hs, q⟩ := h
  cases x with
  | non =>
    cases rx
    cases y with
    | non => cases ry; exact PySem.EqNone.ne_none_none (fin_bl I q (by simp))
    | bl j => cases ry; exact PySem.EqNone.ne_none_bool (fin_bl I q (by simp))
    | int j => obtain ⟨t', rfl⟩ := ry; exact PySem.EqNone.ne_none_int (fin_bl I q (by simp))
    | str j => obtain ⟨t', rfl⟩ := ry; exact PySem.EqNone.ne_none_str (fin_bl I q (by simp))
    | _ => exact absurd (show false = true from hs) Bool.false_ne_true
  | bl i =>
    cases rx
    cases y with
    | non => cases ry; exact PySem.EqNone.ne_bool_none (fin_bl I q (by simp))
    | bl j => cases ry; exact ne_bool (fin_bl I q (congrArg not dec_bl))
    | str j => obtain ⟨t', rfl⟩ := ry; exact PySem.EqMixed.ne_bool_str (fin_bl I q (by simp))
    | _ => exact absurd (show false = true from hs) Bool.false_ne_true
  | int i =>
    obtain ⟨t, rfl⟩ := rx
    cases y with
    | non => cases ry; exact PySem.EqNone.ne_int_none (fin_bl I q (by simp))
    | int j => obtain ⟨t', rfl⟩ := ry; exact ne_int (fin_bl I q (congrArg not dec_int))
    | str j => obtain ⟨t', rfl⟩ := ry; exact PySem.EqMixed.ne_int_str (fin_bl I q (by simp))
    | _ => exact absurd (show false = true from hs) Bool.false_ne_true
  | str i =>
    obtain ⟨t, rfl⟩ := rx
    cases y with
    | non => cases ry; exact PySem.EqNone.ne_str_none (fin_bl I q (by simp))
    | bl j => cases ry; exact PySem.EqMixed.ne_str_bool (fin_bl I q (by simp))
    | int j => obtain ⟨t', rfl⟩ := ry; exact PySem.EqMixed.ne_str_int (fin_bl I q (by simp))
    | str j => obtain ⟨t', rfl⟩ := ry; exact ne_str (fin_bl I q (congrArg not dec_str))
    | _ => exact absurd (show false = true from hs) Bool.false_ne_true
  | byt i =>
    obtain ⟨t, rfl⟩ := rx
    cases y with
    | byt j => obtain ⟨t', rfl⟩ := ry; exact PySem.W.ne_bytes (fin_bl I q (congrArg not dec_byt))
    | _ => exact absurd (show false = true from hs) Bool.false_ne_true
  | _ => cases y <;> exact absurd (show false = true from hs) Bool.false_ne_true

theorem op_lt : OpR X (compareOp .Lt) (rI0 fun i j => .bl (decide (i < j))) := opB0 fun _ _ _ _ _ _ _ q => lt_int q
theorem op_le : OpR X (compareOp .LtE) (rI0 fun i j => .bl (decide (i ≤ j))) := opB0 fun _ _ _ _ _ _ _ q => le_int q
theorem op_gt : OpR X (compareOp .Gt) (rI0 fun i j => .bl (decide (j < i))) := opB0 fun _ _ _ _ _ _ _ q => gt_int q
theorem op_ge : OpR X (compareOp .GtE) (rI0 fun i j => .bl (decide (j ≤ i))) := opB0 fun _ _ _ _ _ _ _ q => ge_int q
theorem op_lt_str : OpR X (compareOp .Lt) (fun x y H Q => ∃ i j, x = .str i ∧ y = .str j ∧ Q (.bl (decide (i.cps.toList < j.cps.toList))) H) := by
  intro pins s σ H x y v u Q I rx ry h
  obtain ⟨i, j, rfl, rfl, q⟩ := h
  obtain ⟨t, rfl⟩ := rx
  obtain ⟨t', rfl⟩ := ry
  exact lt_str (fin_bl I q rfl)
/-- the one string within the other -/
theorem op_in_str : OpR X (compareOp .In) (fun x y H Q => ∃ i j, x = .str i ∧ y = .str j ∧ Q (.bl (!(Builtin.Str.occurrences j i 0 j.length 1).isEmpty)) H) := by
  intro pins s σ H x y v u Q I rx ry h
  obtain ⟨i, j, rfl, rfl, q⟩ := h
  obtain ⟨t, rfl⟩ := rx
  obtain ⟨t', rfl⟩ := ry
  exact in_str (fin_bl I q rfl)

/-- is None, is not None: the right side a value none -/
theorem op_isN : OpR X (compareOp .Is) (fun x y H Q => y = .non ∧ Q (.bl (decide (x = .non))) H) := by
  intro pins s σ H x y v u Q I rx ry h
  obtain ⟨rfl, q⟩ := h
  cases ry
  refine is_none_gen (fin_bl I q ?_)
  cases x <;> first
    | (cases rx; rfl)
    | (obtain ⟨t, rfl⟩ := rx; rfl)
theorem op_notN : OpR X (compareOp .IsNot) (fun x y H Q => y = .non ∧ Q (.bl (!decide (x = .non))) H) := by
  intro pins s σ H x y v u Q I rx ry h
  obtain ⟨rfl, q⟩ := h
  cases ry
  refine isnot_none_gen (fin_bl I q ?_)
  cases x <;> first
    | (cases rx; rfl)
    | (obtain ⟨t, rfl⟩ := rx; rfl)

theorem op_notin_str : OpR X (compareOp .NotIn) (fun x y H Q => ∃ i j, x = .str i ∧ y = .str j ∧ Q (.bl (!(!(Builtin.Str.occurrences j i 0 j.length 1).isEmpty))) H) := by
  intro pins s σ H x y v u Q I rx ry h
  obtain ⟨i, j, rfl, rfl, q⟩ := h
  obtain ⟨t, rfl⟩ := rx
  obtain ⟨t', rfl⟩ := ry
  exact notIn_str (fin_bl I q rfl)
/-- is, is not of two objects that are tracked lists or instances -/
def isObj : HO → Bool
  | .lst _ => true
  | .ins _ _ _ => true
  | _ => false
theorem obj_there {pins : List (Addr × Obj)} {s : Shared} {σ : St} {H : Hp} {a : Addr} {o : HO} (I : Inv X pins σ H s) (h : H a = some o) (p : isObj o = true) : ∃ ob, s.heap.get? a = some ob ∧ ob.cls ≠ .type "tuple" := by
  cases o with
  | lst xs =>
    obtain ⟨_, its, n, _, e⟩ : xs.length ≤ sizeLine ∧ ∃ (its : List Value) (n : Nat), Vals xs its ∧ s.heap.get? a = some { cls := .type "list", data := .seq its.toArray n } := I.hok a _ h
    exact ⟨_, e, (by show Value.type "list" ≠ .type "tuple"; decide +kernel)⟩
  | ins C dx fs =>
    have x := I.hok a _ h
    obtain ⟨_, _, _, e, _⟩ := x
    exact ⟨_, e, (by show Value.ref C ≠ .type "tuple"; exact fun z => by cases z)⟩
  | _ => exact absurd (show false = true from p) Bool.false_ne_true
theorem op_is_ref : OpR X (compareOp .Is) (fun x y H Q => ∃ a b oa ob, x = .ref a ∧ y = .ref b ∧ H a = some oa ∧ isObj oa = true ∧ H b = some ob ∧ isObj ob = true ∧ Q (.bl (decide (a = b))) H) := by
  intro pins s σ H x y v u Q I rx ry h
  obtain ⟨a, b, oa, ob, rfl, rfl, ha, pa, hb, pb, q⟩ := h
  cases rx
  cases ry
  obtain ⟨o1, e1, n1⟩ := obj_there I ha pa
  obtain ⟨o2, e2, _⟩ := obj_there I hb pb
  by_cases z : a = b
  · subst z
    exact wpAny_is_ref_self (fin_bl I q (by simp))
  · exact wpAny_is_ref_other z e1 e2 n1 (fin_bl I q (by simp [z]))
theorem op_isnot_ref : OpR X (compareOp .IsNot) (fun x y H Q => ∃ a b oa ob, x = .ref a ∧ y = .ref b ∧ H a = some oa ∧ isObj oa = true ∧ H b = some ob ∧ isObj ob = true ∧ Q (.bl (!decide (a = b))) H) := by
  intro pins s σ H x y v u Q I rx ry h
  obtain ⟨a, b, oa, ob, rfl, rfl, ha, pa, hb, pb, q⟩ := h
  cases rx
  cases ry
  obtain ⟨o1, e1, n1⟩ := obj_there I ha pa
  obtain ⟨o2, e2, _⟩ := obj_there I hb pb
  by_cases z : a = b
  · subst z
    exact wpAny_isNot_ref_self (fin_bl I q (by simp))
  · exact wpAny_isNot_ref_other z e1 e2 n1 (fin_bl I q (by simp [z]))

/-- two rules for one operation: by cases -/
theorem OpR.or {f : Value → Value → Sem Value} {r r' : R2} (h : OpR X f r) (h' : OpR X f r') : OpR X f (fun x y H Q => r x y H Q ∨ r' x y H Q) := by
  intro pins s σ H x y v u Q I rx ry q
  rcases q with q | q
  · exact h pins s σ H x y v u Q I rx ry q
  · exact h' pins s σ H x y v u Q I rx ry q

theorem nomark (b : Expr) {op : CmpOp} (h : op ≠ .In := by decide) (h2 : op ≠ .NotIn := by decide) : behindInMarks op b = false := by
  have e1 : (op == CmpOp.In) = false := by cases op <;> first | rfl | exact absurd rfl h
  have e2 : (op == CmpOp.NotIn) = false := by cases op <;> first | rfl | exact absurd rfl h2
  cases b <;> simp [behindInMarks, e1, e2]
/-- a comparison as a value; hm: nomark b, or (for in, not in) by with_unfolding_all rfl -/
theorem pe_cmpR {op : CmpOp} {r : R2} (ho : OpR X (compareOp op) r) (ha : PE X a ta) (hb : PE X b tb) (hm : behindInMarks op b = false) : PE X (.Compare a [op] [b] pos) (tOp r ta tb) := by
  intro pins s σ H Q I h
  exact wpAny_Compare1 (binT ha hb I h fun v u s2 x y H2 I2 rx ry q => ho pins s2 σ H2 x y v u Q I2 rx ry q) hm
/-- a reading of a value as a test -/
def tTest (t : TE) : TT := fun σ H Q => t σ H fun x H' => ∃ k, x = .bl k ∧ Q k H'
theorem pt_cmpR {op : CmpOp} {r : R2} (ho : OpR X (compareOp op) r) (ha : PE X a ta) (hb : PE X b tb) (hm : behindInMarks op b = false) : PT X (.Compare a [op] [b] pos) (tTest (tOp r ta tb)) := by
  intro pins s σ H Q I h
  refine wpAny_isTrue_Compare1 (thn (ha pins s σ H _ I h) fun v s1 ⟨x, H1, I1, r1, q1⟩ => thn (hb pins s1 σ H1 _ I1 q1) fun u s2 ⟨y, H2, I2, r2, q2⟩ =>
    thn (ho pins s2 σ H2 x y v u _ I2 r1 r2 q2) fun c s3 ⟨z, H3, I3, r3, k, e, q3⟩ => ?_) hm
  subst e
  cases r3
  exact wpAny_truthy_bool ⟨H3, I3, q3⟩
/-- a op1 b op2 c -/
def tChain (r r' : R2) (ta tb tc : TE) : TE := fun σ H Q => ta σ H fun x H1 => tb σ H1 fun y H2 => r x y H2 fun z H3 => ∃ k, z = .bl k ∧
  (if k = true then tc σ H3 fun w' H4 => r' y w' H4 Q else Q (.bl false) H3)
theorem pe_chain {op op' : CmpOp} {r r' : R2} (ho : OpR X (compareOp op) r) (ho' : OpR X (compareOp op') r') (ha : PE X a ta) (hb : PE X b tb) (hc : PE X c tc)
    (hm : lastMarks [op, op'] [b, c] = false := by with_unfolding_all rfl) : PE X (.Compare a [op, op'] [b, c] pos) (tChain r r' ta tb tc) := by
  intro pins s σ H Q I h
  refine Compare_chain (thn (ha pins s σ H _ I h) fun v s1 ⟨x, H1, I1, r1, q1⟩ => chain_link (thn (hb pins s1 σ H1 _ I1 q1) fun u s2 ⟨y, H2, I2, r2, q2⟩ =>
    thn (ho pins s2 σ H2 x y v u _ I2 r1 r2 q2) fun d s3 ⟨z, H3, I3, r3, k, e, q3⟩ => ?_)) hm
  subst e
  cases r3
  refine wpAny_truthy_bool ?_
  cases k with
  | false => exact ite_ff ⟨.bl false, H3, I3, rfl, q3⟩
  | true => exact ite_tt (chain_last (thn (hc pins s3 σ H3 _ I3 q3) fun w' s4 ⟨z', H4, I4, r4, q4⟩ => ho' pins s4 σ H4 y z' u w' Q I4 r2 r4 q4))
theorem pt_chain {op op' : CmpOp} {r r' : R2} (ho : OpR X (compareOp op) r) (ho' : OpR X (compareOp op') r') (ha : PE X a ta) (hb : PE X b tb) (hc : PE X c tc)
    (hm : lastMarks [op, op'] [b, c] = false := by with_unfolding_all rfl) : PT X (.Compare a [op, op'] [b, c] pos) (tTest (tChain r r' ta tb tc)) := by
  intro pins s σ H Q I h
  refine isTrue_chain (thn (ha pins s σ H _ I h) fun v s1 ⟨x, H1, I1, r1, q1⟩ => test_link (thn (hb pins s1 σ H1 _ I1 q1) fun u s2 ⟨y, H2, I2, r2, q2⟩ =>
    thn (ho pins s2 σ H2 x y v u _ I2 r1 r2 q2) fun d s3 ⟨z, H3, I3, r3, k, e, q3⟩ => ?_)) hm
  subst e
  cases r3
  refine wpAny_truthy_bool ?_
  cases k with
  | false =>
    obtain ⟨k', e', q'⟩ := q3
    cases e'
    exact ite_ff ⟨H3, I3, q'⟩
  | true =>
    refine ite_tt (test_last (thn (hc pins s3 σ H3 _ I3 q3) fun w' s4 ⟨z', H4, I4, r4, q4⟩ => thn (ho' pins s4 σ H4 y z' u w' _ I4 r2 r4 q4) fun d' s5 ⟨z2, H5, I5, r5, k2, e2, q5⟩ => ?_))
    subst e2
    cases r5
    exact wpAny_truthy_bool ⟨H5, I5, q5⟩

/-! ### truth -/
/-- a value's truth by the abstract heap -/
def TruV (K : PySem.W.Frag) (x : V) (H : Hp) (k : Bool) : Prop :=
  match x with
  | .non => k = false
  | .bl b => k = b
  | .int i => k = (i != 0)
  | .str y => y.length ≤ sizeLine ∧ k = ((y.length : Int) != 0)
  | .byt y => y.size ≤ sizeLine ∧ k = ((y.size : Int) != 0)
  | .ref p => (∃ xs, SqL K H p xs ∧ k = !xs.isEmpty) ∨ (∃ xs, SqT K H p xs ∧ k = !xs.isEmpty) ∨ ∃ kvs, H p = some (.dK kvs) ∧ k = !kvs.isEmpty
  | _ => False
theorem isEmpty_kv {κ : Type} {kvs : List (κ × V)} {vs : List (κ × Value)} (r : KV kvs vs) : (!vs.isEmpty) = !kvs.isEmpty := by
  cases r <;> rfl
theorem isEmpty_of {xs : List V} {its : List Value} (r : Vals xs its) : (!its.toArray.isEmpty) = !xs.isEmpty := by
  cases r <;> simp
theorem line63 : (sizeLine : Nat) < 2 ^ 63 := by rw [sizeLine_eq]; decide
theorem tru_ok : TruR X (fun x H Q => ∃ k, TruV X.K x H k ∧ Q k H) := by
  intro pins s σ H x v Q I rx h
  obtain ⟨k, e, q⟩ := h
  have hl := line63
  have hs : sizeLine = 16777216 := sizeLine_eq
  cases x with
  | non =>
    cases rx
    have e' : k = false := e
    subst e'
    exact truthy_none ⟨H, I, q⟩
  | bl b =>
    cases rx
    have e' : k = b := e
    subst e'
    exact wpAny_truthy_bool ⟨H, I, q⟩
  | int i =>
    obtain ⟨t, rfl⟩ := rx
    have e' : k = (i != 0) := e
    subst e'
    exact PySem.P.truthy_int ⟨H, I, q⟩
  | str y =>
    obtain ⟨t, rfl⟩ := rx
    obtain ⟨hy, e'⟩ : y.length ≤ sizeLine ∧ k = ((y.length : Int) != 0) := e
    subst e'
    exact PySem.P.truthy_str (by omega) ⟨H, I.tok _, q⟩
  | byt y =>
    obtain ⟨t, rfl⟩ := rx
    obtain ⟨hy, e'⟩ : y.size ≤ sizeLine ∧ k = ((y.size : Int) != 0) := e
    subst e'
    exact PySem.W.truthy_bytes (by omega) ⟨H, I.tok _, q⟩
  | ref p =>
    cases rx
    have e' : (∃ xs, SqL X.K H p xs ∧ k = !xs.isEmpty) ∨ (∃ xs, SqT X.K H p xs ∧ k = !xs.isEmpty) ∨ ∃ kvs, H p = some (.dK kvs) ∧ k = !kvs.isEmpty := e
    rcases e' with ⟨xs, hx, e'⟩ | ⟨xs, hx, e'⟩ | ⟨kvs, hx, e'⟩
    · subst e'
      obtain ⟨its, r, pl, hz⟩ := I.list hx
      have hlen := r.length
      exact wpAny_truthy_list pl.isList (by simp only [List.size_toArray]; omega) ⟨H, I.tok _, by rw [isEmpty_of r]; exact q⟩
    · subst e'
      obtain ⟨its, r, pl, hz⟩ := I.tuple hx
      have hlen := r.length
      exact truthy_tuple pl (by simp only [List.size_toArray]; omega) ⟨H, I.tok _, by rw [isEmpty_of r]; exact q⟩
    · subst e'
      obtain ⟨hz, hS, vs, r, m⟩ : kvs.length ≤ sizeLine ∧ (p == sysModules) = false ∧ ∃ vs, KV kvs vs ∧ s.heap.DictOf (mixKind X.prog X.w) p vs := I.hok p _ hx
      have hlen : kvs.length = vs.length := Paired.length r
      exact wpAny_truthy_dict hS m (by omega) ⟨H, I.tok _, by rw [isEmpty_kv r]; exact q⟩
  | _ => exact (show False from e).elim
/-- any expression whose test is its value's truth (a name, a call, a subscript, a field ..: he by fun _ => rfl) -/
theorem pt_truth (ha : PE X a ta) (he : ∀ whole, isTrue a X.env whole = (do let v ← whole; standAt a.pos; holding [v] (truthy v))) :
    PT X a (fun σ H Q => ta σ H fun x H' => ∃ k, TruV X.K x H' k ∧ Q k H') := by
  intro pins s σ H Q I h
  exact isTrue_plain (thn (ha pins s σ H _ I h) fun v s1 ⟨x, H1, I1, r1, q1⟩ => tru_ok pins s1 σ H1 x v Q I1 r1 q1) (he _)

/-! ### strs and bytes -/
theorem pe_byt {x : List UInt8} {k : Nat} : PE X (.Constant (.bytes x) k pos) (fun _ H Q => Q (.byt x.toArray) H) := fun _ _ _ H _ I h => PySem.W.Constant_bytes ⟨.byt x.toArray, H, I.tok _, ⟨_, rfl⟩, h⟩
theorem op_add_str : OpR X (binaryOp .Add) (fun x y H Q => ∃ i j, x = .str i ∧ y = .str j ∧ i.length + j.length ≤ sizeLine ∧ Q (.str (i ++ j)) H) := by
  intro pins s σ H x y v u Q I rx ry h
  obtain ⟨i, j, rfl, rfl, hz, q⟩ := h
  obtain ⟨t, rfl⟩ := rx
  obtain ⟨t', rfl⟩ := ry
  exact add_str (fun t' tk => ⟨.str (i ++ j), H, I.tok _, ⟨_, rfl⟩, q⟩) hz
theorem iop_add_str : OpR X (inplaceOp .Add) (fun x y H Q => ∃ i j, x = .str i ∧ y = .str j ∧ i.length + j.length ≤ sizeLine ∧ Q (.str (i ++ j)) H) := by
  intro pins s σ H x y v u Q I rx ry h
  obtain ⟨i, j, rfl, rfl, hz, q⟩ := h
  obtain ⟨t, rfl⟩ := rx
  obtain ⟨t', rfl⟩ := ry
  exact iadd_str (fun t' tk => ⟨.str (i ++ j), H, I.tok _, ⟨_, rfl⟩, q⟩) hz
theorem op_add_byt : OpR X (binaryOp .Add) (fun x y H Q => ∃ i j, x = .byt i ∧ y = .byt j ∧ i.size + j.size ≤ 16777216 ∧ Q (.byt (i ++ j)) H) := by
  intro pins s σ H x y v u Q I rx ry h
  obtain ⟨i, j, rfl, rfl, hz, q⟩ := h
  obtain ⟨t, rfl⟩ := rx
  obtain ⟨t', rfl⟩ := ry
  exact PySem.W.KBy.add_bytes hz (fun t' tk => ⟨.byt (i ++ j), H, I.tok _, ⟨_, rfl⟩, q⟩)

def PlainIxT (b : Expr) : Prop := ∀ o i, subscripted b false o i = operate [o, i] (getItem o i)
/-- s[i], 0 ≤ i < len -/
theorem pe_item_str (ha : PE X a ta) (hb : PE X b tb) (hs : PlainIxT b) :
    PE X (.Subscript a b pos) (tOp (fun x y H Q => ∃ z i c, x = .str z ∧ y = .int i ∧ 0 ≤ i ∧ i < 2 ^ 63 ∧ i < z.length ∧ z.cps[i.toNat]? = some c ∧ Q (.str ⟨#[c]⟩) H) ta tb) := by
  intro pins s σ H Q I h
  refine Subscript_ (binT ha hb I h fun v u s2 x y H2 I2 rx ry q => ?_)
  obtain ⟨z, i, c, rfl, rfl, h0, h63, h1, hc, q⟩ := q
  obtain ⟨t, rfl⟩ := rx
  obtain ⟨t', rfl⟩ := ry
  have e : seqIndex? i z.length = some i.toNat := PySem.StrLaws.seqIndex_nonneg h0 h1
  exact tail_any (typeIs_str s2 z t) slot_str_getitem.lookup (getItem_str (c := c) (by
    have e1 : decide (i < -(2 ^ 63 : Int)) = false := decide_eq_false (by omega)
    have e2 : decide (i ≥ 2 ^ 63) = false := decide_eq_false (by omega)
    rw [e1, e2] <;> rfl) (by rw [e]; exact hc) ⟨.str ⟨#[c]⟩, H2, I2.tok _, ⟨_, rfl⟩, q⟩) (hs _ _)
/-- b[i], 0 ≤ i < len -/
theorem pe_item_byt (ha : PE X a ta) (hb : PE X b tb) (hs : PlainIxT b) :
    PE X (.Subscript a b pos) (tOp (fun x y H Q => ∃ (z : List UInt8) (i : Int), x = .byt z.toArray ∧ y = .int i ∧ z.length ≤ sizeLine ∧ 0 ≤ i ∧ i < z.length ∧ Q (.int ((z.getD i.toNat 0).toNat : Nat)) H) ta tb) := by
  intro pins s σ H Q I h
  refine Subscript_ (binT ha hb I h fun v u s2 x y H2 I2 rx ry q => ?_)
  obtain ⟨z, i, rfl, rfl, hz, h0, h1, q⟩ := q
  obtain ⟨t, rfl⟩ := rx
  obtain ⟨t', rfl⟩ := ry
  have hl : sizeLine = 16777216 := sizeLine_eq
  exact tail_any (PySem.W.typeIs_bytes s2 z.toArray t) PySem.W.FB.slot_bytes_getitem.lookup (PySem.W.getItem_bytes (by omega) h0 h1 ⟨.int ((z.getD i.toNat 0).toNat : Nat), H2, I2.tok _, ⟨_, rfl⟩, q⟩) (hs _ _)

/-! ### scalar builtins, by CallR -/
theorem vals1 {x : V} {us : List Value} (r : Vals [x] us) : ∃ u, us = [u] ∧ RelV x u := by
  cases r with
  | cons r1 r2 => cases r2; exact ⟨_, rfl, r1⟩
theorem vals2 {x y : V} {us : List Value} (r : Vals [x, y] us) : ∃ u w', us = [u, w'] ∧ RelV x u ∧ RelV y w' := by
  cases r with
  | cons r1 r2 =>
    cases r2 with
    | cons r3 r4 => cases r4; exact ⟨_, _, rfl, r1, r3⟩
theorem call_abs : CallR X (.builtin "abs") (fun xs H Q => ∃ i, xs = [.int i] ∧ Q (.int (if i < 0 then -i else i)) H) := by
  intro pins s σ H xs us Q I r h
  obtain ⟨i, rfl, q⟩ := h
  obtain ⟨u, rfl, t, rfl⟩ := vals1 r
  exact call_abs_int fun u tk => ⟨.int (if i < 0 then -i else i), H, I.tok _, ⟨_, rfl⟩, q⟩
theorem call_max2 (hc : X.calm = true) : CallR X (.builtin "max") (fun xs H Q => ∃ i j, xs = [.int i, .int j] ∧ Q (.int (if j > i then j else i)) H) := by
  intro pins s σ H xs us Q I r h
  obtain ⟨i, j, rfl, q⟩ := h
  obtain ⟨u, w', rfl, ⟨t, rfl⟩, ⟨t', rfl⟩⟩ := vals2 r
  refine max_two_ints (I.ok.hd hc) fun h' tk k => ⟨_, H, I.kept k, ?_, q⟩
  by_cases hj : j > i
  · rw [if_pos hj, if_pos hj]; exact ⟨_, rfl⟩
  · rw [if_neg hj, if_neg hj]; exact ⟨_, rfl⟩
theorem call_min2 (hc : X.calm = true) : CallR X (.builtin "min") (fun xs H Q => ∃ i j, xs = [.int i, .int j] ∧ Q (.int (if j < i then j else i)) H) := by
  intro pins s σ H xs us Q I r h
  obtain ⟨i, j, rfl, q⟩ := h
  obtain ⟨u, w', rfl, ⟨t, rfl⟩, ⟨t', rfl⟩⟩ := vals2 r
  refine min_two_ints (I.ok.hd hc) fun h' tk k => ⟨_, H, I.kept k, ?_, q⟩
  by_cases hj : j < i
  · rw [if_pos hj, if_pos hj]; exact ⟨_, rfl⟩
  · rw [if_neg hj, if_neg hj]; exact ⟨_, rfl⟩
theorem call_int1 : CallR X (.type "int") (fun xs H Q => (∃ i, xs = [.int i] ∧ Q (.int i) H) ∨ ∃ k, xs = [.bl k] ∧ Q (.int (if k then 1 else 0)) H) := by
  intro pins s σ H xs us Q I r h
  rcases h with ⟨i, rfl, q⟩ | ⟨k, rfl, q⟩
  · obtain ⟨u, rfl, t, rfl⟩ := vals1 r
    exact call_int_int ⟨.int i, H, I, ⟨_, rfl⟩, q⟩
  · obtain ⟨u, rfl, r1⟩ := vals1 r
    cases r1
    exact call_int_bool ⟨.int (if k then 1 else 0), H, I.tok _, ⟨_, rfl⟩, q⟩
theorem call_bool1 : CallR X (.type "bool") (fun xs H Q => (∃ i, xs = [.int i] ∧ Q (.bl (i != 0)) H) ∨ ∃ k, xs = [.bl k] ∧ Q (.bl k) H) := by
  intro pins s σ H xs us Q I r h
  rcases h with ⟨i, rfl, q⟩ | ⟨k, rfl, q⟩
  · obtain ⟨u, rfl, t, rfl⟩ := vals1 r
    exact call_bool_int ⟨.bl (i != 0), H, I, rfl, q⟩
  · obtain ⟨u, rfl, r1⟩ := vals1 r
    cases r1
    exact call_bool_bool ⟨.bl k, H, I, rfl, q⟩
theorem call_str_int : CallR X (.type "str") (fun xs H Q => ∃ i, xs = [.int i] ∧ i.natAbs.log2 < 1920 ∧ Q (.str (toString i)) H) := by
  intro pins s σ H xs us Q I r h
  obtain ⟨i, rfl, hz, q⟩ := h
  obtain ⟨u, rfl, t, rfl⟩ := vals1 r
  exact PySem.P.str_of_int hz ⟨.str _, H, I.tok _, ⟨_, rfl⟩, q⟩
theorem call_ord : CallR X (.builtin "ord") (fun xs H Q => ∃ x, xs = [.str x] ∧ x.length = 1 ∧ Q (.int (x.cps.getD 0 0 : Nat)) H) := by
  intro pins s σ H xs us Q I r h
  obtain ⟨x, rfl, hz, q⟩ := h
  obtain ⟨u, rfl, t, rfl⟩ := vals1 r
  exact ord_of_one hz ⟨.int _, H, I.tok _, ⟨_, rfl⟩, q⟩
theorem call_chr : CallR X (.builtin "chr") (fun xs H Q => ∃ i, xs = [.int i] ∧ 0 ≤ i ∧ i ≤ 1114111 ∧ Q (.str ⟨#[i.toNat]⟩) H) := by
  intro pins s σ H xs us Q I r h
  obtain ⟨i, rfl, h0, h1, q⟩ := h
  obtain ⟨u, rfl, t, rfl⟩ := vals1 r
  exact chr_of_range h0 h1 ⟨.str _, H, I.tok _, ⟨_, rfl⟩, q⟩
/-- len of a str, a bytes, a list, a tuple -/
def LenV (K : PySem.W.Frag) (x : V) (H : Hp) (n : Nat) : Prop :=
  match x with
  | .str y => y.length ≤ sizeLine ∧ n = y.length
  | .byt y => y.size ≤ sizeLine ∧ n = y.size
  | .ref p => (∃ xs, SqL K H p xs ∧ n = xs.length) ∨ ∃ xs, SqT K H p xs ∧ n = xs.length
  | _ => False
theorem call_len : CallR X (.builtin "len") (fun xs H Q => ∃ x n, xs = [x] ∧ LenV X.K x H n ∧ Q (.int n) H) := by
  intro pins s σ H xs us Q I r h
  obtain ⟨x, n, rfl, e, q⟩ := h
  obtain ⟨u, rfl, rx⟩ := vals1 r
  have hl := line63
  have hs : sizeLine = 16777216 := sizeLine_eq
  cases x with
  | str y =>
    obtain ⟨t, rfl⟩ := rx
    obtain ⟨hy, e'⟩ : y.length ≤ sizeLine ∧ n = y.length := e
    subst e'
    exact len_str (by omega) ⟨.int _, H, I.tok _, ⟨_, rfl⟩, q⟩
  | byt y =>
    obtain ⟨t, rfl⟩ := rx
    obtain ⟨hy, e'⟩ : y.size ≤ sizeLine ∧ n = y.size := e
    subst e'
    exact PySem.W.len_bytes (by omega) ⟨.int _, H, I.tok _, ⟨_, rfl⟩, q⟩
  | ref p =>
    cases rx
    have e' : (∃ xs, SqL X.K H p xs ∧ n = xs.length) ∨ ∃ xs, SqT X.K H p xs ∧ n = xs.length := e
    rcases e' with ⟨xs, hx, e'⟩ | ⟨xs, hx, e'⟩
    · subst e'
      obtain ⟨its, r', pl, hz⟩ := I.list hx
      have hlen := r'.length
      exact Calls.call_len_list pl.isList (by simp only [List.size_toArray]; omega) ⟨.int xs.length, H, I.tok _, ⟨_, by simp only [List.size_toArray]; rw [hlen]⟩, q⟩
    · subst e'
      obtain ⟨its, r', pl, hz⟩ := I.tuple hx
      have hlen := r'.length
      exact len_tuple pl (by simp only [List.size_toArray]; omega) ⟨.int xs.length, H, I.tok _, ⟨_, by simp only [List.size_toArray]; rw [hlen]⟩, q⟩
  | _ => exact (show False from e).elim
/-- divmod: a new tuple -/
theorem call_divmod : CallR X (.builtin "divmod") (fun xs H Q => ∃ i j, xs = [.int i, .int j] ∧ CDiv i j ∧ ∀ p, H p = none → Q (.ref p) (upd H p (.tup [.int (i / j), .int (i % j)]))) := by
  intro pins s σ H xs us Q I r h
  obtain ⟨i, j, rfl, ⟨h1, h2⟩, q⟩ := h
  obtain ⟨u, w', rfl, ⟨t, rfl⟩, ⟨t', rfl⟩⟩ := vals2 r
  refine divmod_int (by omega) ?_ (.inl (PyProof.noPylong_small (by omega)))
  rw [Int.fdiv_eq_ediv_of_nonneg i (by omega), Int.fmod_eq_emod_of_nonneg i (by omega)]
  have hn : H s.heap.objs.size = none := I.hok.fresh (Nat.le_refl _)
  refine ⟨.ref s.heap.objs.size, _, ?_, rfl, q _ hn⟩
  refine I.laid (fun b o e => Heap.get?_push_of_some _ e) (Nat.le_refl _) ⟨by simp only [List.length_cons, List.length_nil]; rw [sizeLine_eq]; decide, [.int (i / j) s.toks, .int (i % j) (s.toks + 1)], .cons ⟨_, rfl⟩ (.cons ⟨_, rfl⟩ .nil), ?_⟩
  exact ⟨_, Heap.get?_push_size s.heap rfl, rfl, 0, rfl⟩
end
end L2

namespace L2
open PySem PySem.Spec PyProof.Rows

/-! ### an instance, its attributes a map -/
structure ObjM (h : Heap) (x dx C : Addr) (mA : Str → Option Value) : Prop where
  obj : h.get? x = some (PySem.W.instObj C dx)
  ns : h.Ns1 dx mA
  ne : dx ≠ x

theorem lookIn_ns {h : Heap} {dx : Addr} {mA : Str → Option Value} (n : h.Ns1 dx mA) : ∃ od, h.get? dx = some od ∧ ∀ name, PySem.W.lookIn name od = some (mA name) := by
  obtain ⟨o, es, ep, ho, hd, hk, _, hm⟩ := n
  refine ⟨o, ho, fun name => ?_⟩
  have e := hm name
  unfold nsFind findBy at e
  rw [← Array.find?_toList] at e
  unfold PySem.W.lookIn
  rw [hd]
  dsimp only
  split
  · rename_i y q
    rw [q] at e
    exact congrArg some e
  · rename_i q
    rw [q] at e
    have a : es.toList.any (·.refKey) = false := by
      rw [List.any_eq_false]
      intro y hy
      obtain ⟨z, t, hkey⟩ := hk y (Array.mem_toList_iff.mp hy)
      simp [DictEntry.refKey, hkey]
    have a' : ¬ es.toList.any (·.refKey) = true := by rw [a]; exact Bool.false_ne_true
    rw [if_neg a']
    exact congrArg some e

theorem ObjM.look {h : Heap} {x dx C : Addr} {mA : Str → Option Value} (I : ObjM h x dx C mA) : ∃ od, PySem.W.InstAt h x (PySem.W.instObj C dx) C (some od) ∧ ∀ name, PySem.W.lookIn name od = some (mA name) :=
  let ⟨od, ho, hl⟩ := lookIn_ns I.ns
  ⟨od, ⟨I.obj, rfl, rfl, ho⟩, hl⟩

section
variable {prog : Program} {w : World} {A : Around} {E : Value → Shared → Prop} {s : Shared} {K : PySem.W.Frag} {x dx C f : Addr} {mA : Str → Option Value} {name : Str} {v : Value}

theorem get_map {expr : Bool} {Q : Value → Shared → Prop} (X : K.In s.heap) (I : ObjM s.heap x dx C mA) (hg : PySem.W.plainGet K C name = true) (hh : PySem.W.hasDictIn K C = true)
    (ha : PySem.W.findIn K (.ref C) name = some none) (hv : mA name = some v) (hv' : PySem.W.handedIn v = true) (h : Q v { s with toks := s.toks + 1 }) :
    wpAny (model prog w) A (getAttr (.ref x) name expr) Q E s := by
  obtain ⟨od, J, hl⟩ := I.look
  exact PySem.W.get_value X J (PySem.W.plainGet_of hg).1 (PySem.W.findObj_own hh ha rfl (by rw [hl, hv])) hv' h

theorem get_const {expr : Bool} {a : Value} {Q : Value → Shared → Prop} (X : K.In s.heap) (I : ObjM s.heap x dx C mA) (hg : PySem.W.plainGet K C name = true) (hh : PySem.W.hasDictIn K C = true)
    (ha : PySem.W.findIn K (.ref C) name = some (some a)) (hn : PySem.W.specialIn K a "__get__" = some none) (hc : PySem.W.copiedNames.contains name = false) (hv : mA name = none) (hv' : PySem.W.handedIn a = true)
    (h : Q a { s with toks := s.toks + 1 }) : wpAny (model prog w) A (getAttr (.ref x) name expr) Q E s := by
  obtain ⟨od, J, hl⟩ := I.look
  exact PySem.W.get_value X J (PySem.W.plainGet_of hg).1 (PySem.W.findObj_cls hh ha hn hv' hc (by rw [hl, hv])) hv' h

theorem get_meth {pl : Sem Bool} {Q : Value × List Value → Shared → Prop} (X : K.In s.heap) (I : ObjM s.heap x dx C mA) (hg : PySem.W.plainGet K C name = true)
    (hf : PySem.W.findIn K (.ref C) name = some (some (.ref f))) (ht : PySem.W.isFn K (.ref f) = true) (hv : mA name = none) (h : Q (.ref f, [.ref x]) s) :
    wpAny (model prog w) A (getMethod (.ref x) name pl) Q E s := by
  obtain ⟨od, J, hl⟩ := I.look
  exact PySem.W.method_fn X J (PySem.W.plainGet_of hg).1 (PySem.W.plainGet_of hg).2 hf (beq_iff_eq.mp ht) (by show (PySem.W.lookIn name od).map (·.isSome) = some false; rw [hl, hv]; rfl) h

theorem set_map {ns : List Str} {Q : Unit → Shared → Prop} (X : K.In s.heap) (I : ObjM s.heap x dx C mA)
    (hs : PySem.W.findIn K (.ref C) "__setattr__" = some (some (.builtin "object.__setattr__"))) (hp : PySem.W.plainOver K C = true) (ht : PySem.W.takerIn K C name = some none) (hh : PySem.W.hasDictIn K C = true)
    (hw : PySem.Within mA ns) (hsz : ns.length ≤ sizeLine)
    (h : ∀ h', ObjM h' x dx C (fun y => if y = name then some v else mA y) → Heap.SameBut dx s.heap h' → Q () { s with heap := h', toks := s.toks + 2 }) :
    wpAny (model prog w) A (setAttr (.ref x) name v) Q E s := by
  obtain ⟨od, J, hl⟩ := I.look
  refine PySem.W.set_plain X J hs (PySem.W.osa_open (s := { s with toks := s.toks + 1 }) (r := none) X J hp ht fun b => ?_)
  obtain ⟨cd, hc, hd'⟩ := PySem.W.any_some hh
  have hx : s.heap.get? x = some ⟨.ref C, some dx, .plain, #[]⟩ := I.obj
  refine wpAny_bind (wpAny_pure (wpAny_bind (wpAny_bind (wpAny_loadPart hx (wpAny_bind (PySem.W.Looks.here (s := { s with toks := s.toks + 1 }) (PySem.W.looks_clsIn X hc) ?_))))))
  rw [hd']
  refine wpAny_pure (a := some dx) (wpAny_bind (wpAny_pure (wpAny_bind ?_)))
  refine wpAny_nsSet1 (s := { s with toks := s.toks + 1 }) I.ns fun h' hn2 hs2 => ?_
  obtain ⟨oD, esD, epD, hoD, hdD, hcD⟩ := hn2.count (PySem.Within.cons name v hw)
  refine wpAny_bind (wpAny_lookBehind hoD (by rw [hdD]; exact pastItsLine_dict (Nat.le_trans hcD (by rw [List.length_cons]; omega))) ?_)
  exact wpAny_pure (h _ ⟨(hs2.2 _ (Ne.symm I.ne)).trans I.obj, hn2, I.ne⟩ hs2)

/-- C(..): the dict at the heap's end, the instance behind it; then its __init__ -/
theorem make_map {R : Result → Shared → Prop} {vs : List Value} {kw : List (Str × Value)} (X : K.In s.heap) (hm : PySem.W.makesIn K C = true)
    (hi : PySem.W.findIn K (.ref C) "__init__" = some (some (.ref f))) (hf : PySem.W.typeIn K (.ref f) = some (.type "function"))
    (h : codeAny (model prog w) (A.under (.builtin "type.__call__" ⟨.ref C :: vs, kw⟩)) (.call (.ref f) ⟨.ref (s.heap.objs.size + 1) :: vs, kw⟩) (PySem.W.InitBack (s.heap.objs.size + 1) R)
      { s with heap := (s.heap.push PySem.W.emptyDict).push (PySem.W.instObj C s.heap.objs.size) }) :
    codeAny (model prog w) A (.call (.ref C) ⟨vs, kw⟩) R s := by
  obtain ⟨hh, g, d, t, os⟩ := s
  exact PySem.W.make_core (PySem.W.makes_of X hm) (PySem.W.looks_findIn X hi) (fun self => PySem.W.bind_fn X self hf) (.inl rfl) h
/-- C() where there is no __init__ but object's -/
theorem make_map0 {R : Result → Shared → Prop} (X : K.In s.heap) (hm : PySem.W.makesIn K C = true)
    (hi : PySem.W.findIn K (.ref C) "__init__" = some (some (.builtin "object.__init__")))
    (hb : ∀ self, PySem.W.Looks (model prog w) s.heap (bindSpecial (.builtin "object.__init__") self) (.builtin "object.__init__", [self]))
    (h : codeAny (model prog w) (A.under (.builtin "type.__call__" ⟨[.ref C], []⟩)) (.call (.builtin "object.__init__") ⟨[.ref (s.heap.objs.size + 1)], []⟩) (PySem.W.InitBack (s.heap.objs.size + 1) R)
      { s with heap := (s.heap.push PySem.W.emptyDict).push (PySem.W.instObj C s.heap.objs.size) }) :
    codeAny (model prog w) A (.call (.ref C) ⟨[], []⟩) R s := by
  obtain ⟨hh, g, d, t, os⟩ := s
  exact PySem.W.make_core (PySem.W.makes_of X hm) (PySem.W.looks_findIn X hi) hb (.inr ⟨rfl, rfl⟩) h
end

/-! ### the attributes as a list of pairs -/
def putF (f : Str) (v : V) : List (Str × V) → List (Str × V)
  | [] => [(f, v)]
  | (g, x) :: r => if g = f then (g, v) :: r else (g, x) :: putF f v r
theorem lookup_putF (f g : Str) (v : V) : ∀ fs : List (Str × V), (putF f v fs).lookup g = if g = f then some v else fs.lookup g
  | [] => by
    show List.lookup g [(f, v)] = _
    by_cases h : g = f
    · have hb : (g == f) = true := beq_iff_eq.mpr h
      simp only [List.lookup, hb, if_pos h]
    · have hb : (g == f) = false := beq_eq_false_iff_ne.mpr h
      simp only [List.lookup, hb, if_neg h]
  | (k, x) :: r => by
    have ih := lookup_putF f g v r
    rw [show putF f v ((k, x) :: r) = (if k = f then (k, v) :: r else (k, x) :: putF f v r) from rfl]
    by_cases hk : k = f
    · rw [if_pos hk]
      by_cases h : g = k
      · have hb : (g == k) = true := beq_iff_eq.mpr h
        simp only [List.lookup, hb, if_pos (h.trans hk)]
      · have hb : (g == k) = false := beq_eq_false_iff_ne.mpr h
        simp only [List.lookup, hb, if_neg (fun e : g = f => h (e.trans hk.symm))]
    · rw [if_neg hk]
      by_cases h : g = k
      · have hb : (g == k) = true := beq_iff_eq.mpr h
        simp only [List.lookup, hb, if_neg (fun e : g = f => hk (h.symm.trans e))]
      · have hb : (g == k) = false := beq_eq_false_iff_ne.mpr h
        simp only [List.lookup, hb]
        exact ih
theorem keys_putF (f : Str) (v : V) : ∀ fs : List (Str × V), f ∈ (putF f v fs).map (·.1) ∧ ∀ g, g ∈ fs.map (·.1) → g ∈ (putF f v fs).map (·.1)
  | [] => ⟨by simp [putF], fun g h => by simp at h⟩
  | (k, x) :: r => by
    obtain ⟨i1, i2⟩ := keys_putF f v r
    rw [show putF f v ((k, x) :: r) = (if k = f then (k, v) :: r else (k, x) :: putF f v r) from rfl]
    by_cases hk : k = f
    · rw [if_pos hk]
      subst hk
      exact ⟨by simp, fun g h => by simpa using h⟩
    · rw [if_neg hk]
      refine ⟨?_, fun g h => ?_⟩
      · rw [List.map_cons]
        exact List.mem_cons_of_mem _ i1
      · rw [List.map_cons] at h ⊢
        rcases List.mem_cons.mp h with e | e
        · exact List.mem_cons.mpr (.inl e)
        · exact List.mem_cons_of_mem _ (i2 g e)
theorem length_putF (f : Str) (v : V) : ∀ fs : List (Str × V), (putF f v fs).length ≤ fs.length + 1
  | [] => by simp [putF]
  | (k, x) :: r => by
    have ih := length_putF f v r
    rw [show putF f v ((k, x) :: r) = (if k = f then (k, v) :: r else (k, x) :: putF f v r) from rfl]
    by_cases hk : k = f
    · rw [if_pos hk, List.length_cons, List.length_cons]; omega
    · rw [if_neg hk, List.length_cons, List.length_cons]; omega

theorem RelO.some_of {v : V} {o : Option Value} (r : RelO (some v) o) : ∃ u, o = some u ∧ RelV v u := by
  cases o with
  | none => exact (show False from r).elim
  | some u => exact ⟨u, rfl, r⟩
theorem RelO.none_of {o : Option Value} (r : RelO none o) : o = none := by
  cases o with
  | none => rfl
  | some u => exact (show False from r).elim
theorem handed_of {v : V} {u : Value} (r : RelV v u) : PySem.W.handedIn u = true := by
  cases v with
  | non => cases (show u = Value.none from r); rfl
  | bl b => cases (show u = Value.bool b from r); rfl
  | int i => obtain ⟨t, e⟩ := (show ∃ t, u = Value.int i t from r); cases e; rfl
  | str x => obtain ⟨t, e⟩ := (show ∃ t, u = Value.str x t from r); cases e; rfl
  | byt b => obtain ⟨t, e⟩ := (show ∃ t, u = Value.bytes b t from r); cases e; rfl
  | flt b => obtain ⟨t, e⟩ := (show ∃ t, u = Value.float b t from r); cases e; rfl
  | ref a => cases (show u = Value.ref a from r); rfl
  | ty n => cases (show u = Value.type n from r); rfl

section
variable {P : Program} {w : World} {H H' : Hp} {h h' : Heap} {a C dx : Addr} {fs fs' : List (Str × V)}
theorem ins_get (hok : HOk P w H h) (e : H a = some (.ins C dx fs)) : ∃ mA, ObjM h a dx C mA ∧ (∀ f, RelO (fs.lookup f) (mA f)) ∧ PySem.Within mA (fs.map (·.1)) ∧ fs.length ≤ 1000 ∧ H dx = some (.own a) := by
  obtain ⟨d, z, ne, ob, mA, n, r, q⟩ := (show ObjOk P w H h a (.ins C dx fs) from hok a _ e)
  exact ⟨mA, ⟨ob, n, ne⟩, r, q, z, d⟩
end

/-! ### what of the text a class must have -/
structure Cls (K : PySem.W.Frag) (C : Addr) : Prop where
  pg : PySem.W.plainGet K C Str.empty = true
  hd : PySem.W.hasDictIn K C = true
  po : PySem.W.plainOver K C = true
  sa : PySem.W.findIn K (.ref C) "__setattr__" = some (some (.builtin "object.__setattr__"))
theorem Cls.get {K : PySem.W.Frag} {C : Addr} (c : Cls K C) (f : Str) : PySem.W.plainGet K C f = true := c.pg
/-- no class of it has the name -/
def NoAttr (K : PySem.W.Frag) (C : Addr) (f : Str) : Prop := PySem.W.findIn K (.ref C) f = some none
theorem NoAttr.taker {K : PySem.W.Frag} {C : Addr} {f : Str} (n : NoAttr K C f) : PySem.W.takerIn K C f = some none := by
  unfold PySem.W.takerIn
  rw [show PySem.W.findIn K (.ref C) f = some none from n]
  rfl
/-- a constant of the class -/
structure Con (K : PySem.W.Frag) (C : Addr) (f : Str) (v : V) (u : Value) : Prop where
  at_ : PySem.W.findIn K (.ref C) f = some (some u)
  rel : RelV v u
  get : PySem.W.specialIn K u "__get__" = some none
  cp : PySem.W.copiedNames.contains f = false
/-- a method: a plain def of the class or of one above it -/
structure Meth (K : PySem.W.Frag) (C : Addr) (m : Str) (f : Addr) : Prop where
  at_ : PySem.W.findIn K (.ref C) m = some (some (.ref f))
  fn : PySem.W.isFn K (.ref f) = true
  kp : PySem.W.keepIn K (.ref f) = true

section
variable {X : Cx} {pins : List (Addr × Obj)} {σ : St} {H : Hp} {s : Shared} {a C dx : Addr} {fs : List (Str × V)} {f : Str} {v : V} {A : Around} {E : Value → Shared → Prop}

theorem getattr_ok {b : Bool} {Q : Value → Shared → Prop} (I : Inv X pins σ H s) (e : H a = some (.ins C dx fs)) (c : Cls X.K C) (n : NoAttr X.K C f) (l : fs.lookup f = some v)
    (h : ∀ u s', Inv X pins σ H s' → RelV v u → Q u s') : wpAny (model X.prog X.w) A (getAttr (.ref a) f b) Q E s := by
  obtain ⟨mA, O, r, _, _, _⟩ := ins_get I.hok e
  obtain ⟨u, hu, ru⟩ := RelO.some_of (v := v) (o := mA f) (by rw [← l]; exact r f)
  exact get_map I.kIn O (c.get f) c.hd n hu (handed_of ru) (h u _ (I.tok _) ru)

theorem getcon_ok {b : Bool} {u : Value} {Q : Value → Shared → Prop} (I : Inv X pins σ H s) (e : H a = some (.ins C dx fs)) (c : Cls X.K C) (k : Con X.K C f v u) (l : fs.lookup f = none)
    (h : ∀ s', Inv X pins σ H s' → Q u s') : wpAny (model X.prog X.w) A (getAttr (.ref a) f b) Q E s := by
  obtain ⟨mA, O, r, _, _, _⟩ := ins_get I.hok e
  have hn : mA f = none := RelO.none_of (by rw [← l]; exact r f)
  exact get_const I.kIn O (c.get f) c.hd k.at_ k.get k.cp hn (handed_of k.rel) (h _ (I.tok _))

theorem getmeth_ok {m : Str} {g : Addr} {pl : Sem Bool} {Q : Value × List Value → Shared → Prop} (I : Inv X pins σ H s) (e : H a = some (.ins C dx fs)) (c : Cls X.K C) (k : Meth X.K C m g) (l : fs.lookup m = none)
    (h : Q (.ref g, [.ref a]) s) : wpAny (model X.prog X.w) A (getMethod (.ref a) m pl) Q E s := by
  obtain ⟨mA, O, r, _, _, _⟩ := ins_get I.hok e
  have hn : mA m = none := RelO.none_of (by rw [← l]; exact r m)
  exact get_meth I.kIn O (c.get m) k.at_ k.fn hn h

theorem setattr_ok {y : V} {u : Value} {Q : Unit → Shared → Prop} (I : Inv X pins σ H s) (e : H a = some (.ins C dx fs)) (c : Cls X.K C) (n : NoAttr X.K C f) (hl : fs.length < 1000) (ry : RelV y u)
    (h : ∀ s', Inv X pins σ (upd H a (.ins C dx (putF f y fs))) s' → Q () s') : wpAny (model X.prog X.w) A (setAttr (.ref a) f u) Q E s := by
  obtain ⟨mA, O, r, wi, _, ho⟩ := ins_get I.hok e
  have hz : (fs.map (·.1)).length ≤ sizeLine := by rw [List.length_map, sizeLine_eq]; omega
  refine set_map I.kIn O c.sa c.po n.taker c.hd wi hz fun h' O' sb => h _ ?_
  have hd : ∃ o, h'.get? dx = some o := let ⟨o, _, _, e', _⟩ := O'.ns; ⟨o, e'⟩
  refine I.write (x := a) (e := dx) (by rw [e]; exact True.intro) (.inr ho) (fun b q hb z => (sb.2 b hb).trans z) hd ?_
  refine ⟨by rw [upd_ne O.ne]; exact ho, ?_, O.ne, O'.obj, _, O'.ns, fun g => ?_, fun g hg => ?_⟩
  · have := length_putF f y fs; omega
  · show RelO ((putF f y fs).lookup g) (if g = f then some u else mA g)
    rw [lookup_putF]
    by_cases q : g = f
    · rw [if_pos q, if_pos q]; exact ry
    · rw [if_neg q, if_neg q]; exact r g
  · by_cases q : g = f
    · rw [q]; exact (keys_putF f y fs).1
    · refine (keys_putF f y fs).2 g (wi g fun z => hg ?_)
      show (if g = f then some u else mA g) = none
      rw [if_neg q]; exact z

/-- a new instance, tracked, without attributes -/
theorem Inv.made (I : Inv X pins σ H s) : Inv X pins σ (upd (upd H s.heap.objs.size (.own (s.heap.objs.size + 1))) (s.heap.objs.size + 1) (.ins C s.heap.objs.size []))
    { s with heap := (s.heap.push PySem.W.emptyDict).push (PySem.W.instObj C s.heap.objs.size) } := by
  have e1 : (s.heap.push PySem.W.emptyDict).get? s.heap.objs.size = some PySem.W.emptyDict := Heap.get?_push_size s.heap rfl
  have e2 : ((s.heap.push PySem.W.emptyDict).push (PySem.W.instObj C s.heap.objs.size)).get? (s.heap.objs.size + 1) = some (PySem.W.instObj C s.heap.objs.size) := by
    have := Heap.get?_push_size (s.heap.push PySem.W.emptyDict) (o := PySem.W.instObj C s.heap.objs.size) rfl
    rwa [Heap.size_push] at this
  have e3 : (s.heap.push PySem.W.emptyDict).Ns s.heap.objs.size (fun _ => none) := ⟨PySem.W.emptyDict, #[], _, e1, rfl, (fun e he => absurd he (by simp)), fun _ => rfl⟩
  have I1 := I.laid (a := s.heap.objs.size) (o := .own (s.heap.objs.size + 1)) (h' := s.heap.push PySem.W.emptyDict) (t' := s.toks) (fun b u q => Heap.get?_push_of_some _ q) (Nat.le_refl _) ⟨_, e1⟩
  refine I1.laid (a := s.heap.objs.size + 1) (o := .ins C s.heap.objs.size []) (t' := s.toks) (fun b u q => Heap.get?_push_of_some _ q) (Nat.le_of_eq (Heap.size_push _ _)) ?_
  have ne : s.heap.objs.size ≠ s.heap.objs.size + 1 := Nat.ne_of_lt (Nat.lt_succ_self _)
  refine ⟨by rw [upd_ne ne, upd_same], Nat.zero_le _, ne, e2, fun _ => none, (Heap.Ns1.of_empty e3).at fun o q => Heap.get?_push_of_some _ q, fun _ => True.intro, fun y hy => absurd rfl hy⟩

/-- e.f where nothing but the object is asked: through attributeBase (super) and the last hold -/
theorem attr_of {prog : Program} {w : World} {env : Env} {e : Expr} {f : Str} {pos : Pos} {s : Shared} {Q : Value → Shared → Prop} (hb : attributeBase e f env (eval e env) = eval e env)
    (h : wpAny (model prog w) A (eval e env) (fun o s₁ => wpAny (model prog w) A (getAttr o f true) Q E s₁) E s) : wpAny (model prog w) A (eval (.Attribute e f pos) env) Q E s :=
  Attribute_any_ h (by rw [arm_eval_Attribute, hb])
end

/-! ### readings and rules -/
/-- e.f, an attribute of the instance -/
def tFld (K : PySem.W.Frag) (ta : TE) (f : Str) : TE := fun σ H Q => ta σ H fun x H1 => ∃ a C dx fs v, x = .ref a ∧ H1 a = some (.ins C dx fs) ∧ Cls K C ∧ NoAttr K C f ∧ fs.lookup f = some v ∧ Q v H1
/-- e.f, a constant of the class -/
def tCon (K : PySem.W.Frag) (ta : TE) (f : Str) : TE := fun σ H Q => ta σ H fun x H1 => ∃ a C dx fs v u, x = .ref a ∧ H1 a = some (.ins C dx fs) ∧ Cls K C ∧ Con K C f v u ∧ fs.lookup f = none ∧ Q v H1
/-- e.f = value -/
def sFld (K : PySem.W.Frag) (ta tv : TE) (f : Str) : TS := fun D σ H => tv σ H fun y H1 => ta σ H1 fun x H2 => ∃ a C dx fs, x = .ref a ∧ H2 a = some (.ins C dx fs) ∧ Cls K C ∧ NoAttr K C f ∧ fs.length < 1000 ∧
  D.nx σ (upd H2 a (.ins C dx (putF f y fs)))
/-- an augmented operator on two values -/
def InOp (X : Cx) (op : Operator) (rd : V → V → Hp → VK → Prop) : Prop :=
  ∀ (pins : List (Addr × Obj)) (s : Shared) (σ : St) (H : Hp) (x y : V) (u v : Value) (Q : VK), Inv X pins σ H s → RelV x u → RelV y v → rd x y H Q → wpAny (model X.prog X.w) X.A (inplaceOp op u v) (EP X pins σ Q) X.xe s
/-- e.f op= value -/
def sFldAug (K : PySem.W.Frag) (ta tv : TE) (rd : V → V → Hp → VK → Prop) (f : Str) : TS := fun D σ H => ta σ H fun x H1 => ∃ a C dx fs v, x = .ref a ∧ H1 a = some (.ins C dx fs) ∧ Cls K C ∧ NoAttr K C f ∧ fs.lookup f = some v ∧
  tv σ H1 fun y H2 => rd v y H2 fun z H3 => ∃ dx' fs', H3 a = some (.ins C dx' fs') ∧ fs'.length < 1000 ∧ D.nx σ (upd H3 a (.ins C dx' (putF f z fs')))

section
variable {X : Cx} {o e value : Expr} {f : Str} {pos pos' tpos : Pos} {ta tv : TE}
theorem pe_fld (he : PE X e ta) (hb : attributeBase e f X.env (eval e X.env) = eval e X.env) : PE X (.Attribute e f pos) (tFld X.K ta f) := by
  intro pins s σ H Q I h
  refine attr_of hb (thn (he pins s σ H _ I h) fun u s1 ⟨x, H1, I1, rx, a, C, dx, fs, v, ex, ea, c, n, l, q⟩ => ?_)
  subst ex
  obtain rfl : u = Value.ref a := rx
  exact getattr_ok I1 ea c n l fun u' s2 I2 ru => ⟨v, H1, I2, ru, q⟩
theorem pe_con (he : PE X e ta) (hb : attributeBase e f X.env (eval e X.env) = eval e X.env) : PE X (.Attribute e f pos) (tCon X.K ta f) := by
  intro pins s σ H Q I h
  refine attr_of hb (thn (he pins s σ H _ I h) fun u s1 ⟨x, H1, I1, rx, a, C, dx, fs, v, u0, ex, ea, c, k, l, q⟩ => ?_)
  subst ex
  obtain rfl : u = Value.ref a := rx
  exact getcon_ok I1 ea c k l fun s2 I2 => ⟨v, H1, I2, k.rel, q⟩
theorem ps_fld (ha : PE X o ta) (hv : PE X value tv) (hs : swapsWith value (some (.Attribute o f pos')) pos.line X.env = pure false) : PS X (.Assign [.Attribute o f pos'] value pos) (sFld X.K ta tv f) := by
  intro pins s σ H D I h
  refine plainObj_wpAny_Assign_Attribute (thn (hv pins s σ H _ I h) fun u s1 ⟨y, H1, I1, ry, q⟩ => thn (ha pins s1 σ H1 _ I1 q) fun ov s2 ⟨x, H2, I2, rx, a, C, dx, fs, ex, ea, c, n, l, q2⟩ => ?_) hs
  subst ex
  obtain rfl : ov = Value.ref a := rx
  exact setattr_ok I2 ea c n l ry fun s3 I3 => ⟨σ, _, I3, q2⟩
theorem ps_fldaug {op : Operator} {rd : V → V → Hp → VK → Prop} (ha : PE X o ta) (hv : PE X value tv) (hop : InOp X op rd) : PS X (.AugAssign (.Attribute o f tpos) op value pos) (sFldAug X.K ta tv rd f) := by
  intro pins s σ H D I h
  refine wpAny_AugAssign_AttributeAny (thn (ha pins s σ H _ I h) fun ov s1 ⟨x, H1, I1, rx, a, C, dx, fs, v, ex, ea, c, n, l, q⟩ => ?_)
  subst ex
  obtain rfl : ov = Value.ref a := rx
  refine getattr_ok I1 ea c n l fun u s2 I2 ru => thn (hv pins s2 σ H1 _ I2 q) fun w3 s3 ⟨y, H2, I3, ry, q3⟩ => thn (hop pins s3 σ H2 v y u w3 _ I3 ru ry q3) fun w4 s4 ⟨z, H3, I4, rz, dx', fs', ea', l', q4⟩ => ?_
  exact setattr_ok I4 ea' c n l' rz fun s5 I5 => ⟨σ, _, I5, q4⟩
def rAdd : V → V → Hp → VK → Prop := fun x y H Q => ∃ i j, x = .int i ∧ y = .int j ∧ Q (.int (i + j)) H
def rSub : V → V → Hp → VK → Prop := fun x y H Q => ∃ i j, x = .int i ∧ y = .int j ∧ Q (.int (i - j)) H
theorem in_add : InOp X .Add rAdd := by
  rintro pins s σ H x y u v Q I rx ry ⟨i, j, rfl, rfl, q⟩
  obtain ⟨t, rfl⟩ := (show ∃ t, u = Value.int i t from rx)
  obtain ⟨t', rfl⟩ := (show ∃ t', v = Value.int j t' from ry)
  exact PyProof.Rows.iadd_int ⟨.int (i + j), H, I.tok _, ⟨_, rfl⟩, q⟩
theorem in_sub : InOp X .Sub rSub := by
  rintro pins s σ H x y u v Q I rx ry ⟨i, j, rfl, rfl, q⟩
  obtain ⟨t, rfl⟩ := (show ∃ t, u = Value.int i t from rx)
  obtain ⟨t', rfl⟩ := (show ∃ t', v = Value.int j t' from ry)
  exact PyProof.Rows.isub_int ⟨.int (i - j), H, I.tok _, ⟨_, rfl⟩, q⟩

/-- what is between an instance and its method: the tree of a method call -/
theorem methcall_of {pl : Sem Bool} {m : Str} {apos : Pos} {args : List Expr} {pins : List (Addr × Obj)} {s : Shared} {σ : St} {H : Hp} {Q : Value → Shared → Prop} {te : TE} (he : PE X e te) (I : Inv X pins σ H s)
    (h : te σ H fun x H1 => ∃ a C dx fs g, x = .ref a ∧ H1 a = some (.ins C dx fs) ∧ Cls X.K C ∧ Meth X.K C m g ∧ fs.lookup m = none ∧
      ∀ s1, Inv X pins σ H1 s1 → wpAny (model X.prog X.w) X.A (callWith pos (.ref g) [.ref a] (backTo pos (starEach args X.env)) (backToKw pos (keywordEach [] X.env))) Q X.xe s1)
    (ht : eval (.Call (.Attribute e m apos) args [] pos) X.env = (do
      let ov ← eval e X.env
      standAt apos.atName
      let (f, first) ← holding [ov] (getMethod ov m pl)
      callWith pos f first (backTo pos (starEach args X.env)) (backToKw pos (keywordEach [] X.env)))) :
    wpAny (model X.prog X.w) X.A (eval (.Call (.Attribute e m apos) args [] pos) X.env) Q X.xe s := by
  refine PySem.W.methodCall_KW (pl := pl) (thn (he pins s σ H _ I h) fun u s1 ⟨x, H1, I1, rx, a, C, dx, fs, g, ex, ea, c, k, l, q⟩ => ?_) ht
  subst ex
  obtain rfl : u = Value.ref a := rx
  exact getmeth_ok I1 ea c k l (q s1 I1)
end

/-! ### isinstance -/
section
variable {X : Cx} {pins : List (Addr × Obj)} {σ : St} {H : Hp} {s : Shared} {A : Around} {E : Value → Shared → Prop} {Q : Value → Shared → Prop} {c : Value} {b : Bool}
/-- the type of a value, as the fragment's deciders take it; for an instance its class -/
inductive TyOf (K : PySem.W.Frag) (H : Hp) : V → Value → Prop where
  | non : TyOf K H .non (.type "NoneType")
  | bl (x : Bool) : TyOf K H (.bl x) (.type "bool")
  | int (i : Int) : TyOf K H (.int i) (.type "int")
  | str (x : Str) : TyOf K H (.str x) (.type "str")
  | flt (x : UInt64) : TyOf K H (.flt x) (.type "float")
  | lst {a : Addr} {xs : List V} (e : H a = some (.lst xs)) : TyOf K H (.ref a) (.type "list")
  | frz {a : Addr} {o : Obj} {xs : List V} (e : H a = some (.frz o (.lst xs))) : TyOf K H (.ref a) (.type "list")
  | tup {a : Addr} {xs : List V} (e : H a = some (.tup xs)) : TyOf K H (.ref a) (.type "tuple")
  | dK {a : Addr} {kvs : List (Key × V)} (e : H a = some (.dK kvs)) : TyOf K H (.ref a) (.type "dict")
  | dT {a : Addr} {kvs : List (List Key × V)} (e : H a = some (.dT kvs)) : TyOf K H (.ref a) (.type "dict")
  | ins {a C dx : Addr} {fs : List (Str × V)} (e : H a = some (.ins C dx fs)) (cl : Cls K C) (ha : PySem.W.findIn K (.ref C) "__class__" = some (some (.builtin "object.__class__")))
      (hn : PySem.W.specialIn K (.builtin "object.__class__") "__get__" = some (some (.builtin "getset_descriptor.__get__"))) (htk : PySem.W.takesIn K (.builtin "object.__class__") = some true)
      (hm : PySem.W.mroIn K C (.type "object") = some true) : TyOf K H (.ref a) (.ref C)
/-- isinstance(x, c) for one class c, a built-in or an own one: kitOne's answer -/
theorem isinst_ok {x : V} {u t : Value} (I : Inv X pins σ H s) (rx : RelV x u) (ty : TyOf X.K H x t) (e : PySem.W.kitOne X.K t c = some b) (h : ∀ tk, Q (.bool b) { s with toks := tk }) :
    wpAny (model X.prog X.w) A (call (.builtin "isinstance") [u, c]) Q E s := by
  cases ty with
  | non => cases (show u = Value.none from rx); exact PySem.W.kia_one PySem.W.kitx_none I.kIn True.intro e (fun z => nomatch z) h
  | bl y => cases (show u = Value.bool y from rx); exact PySem.W.kia_one PySem.W.kitx_bool I.kIn True.intro e (fun z => nomatch z) h
  | int i => obtain ⟨t, q⟩ := (show ∃ t, u = Value.int i t from rx); cases q; exact PySem.W.kia_one PySem.W.kitx_int I.kIn True.intro e (fun z => nomatch z) h
  | str y => obtain ⟨t, q⟩ := (show ∃ t, u = Value.str y t from rx); cases q; exact PySem.W.kia_one PySem.W.kitx_str I.kIn True.intro e (fun z => nomatch z) h
  | flt y => obtain ⟨t, q⟩ := (show ∃ t, u = Value.float y t from rx); cases q; exact PySem.W.kia_one PySem.W.kitx_float I.kIn True.intro e (fun z => nomatch z) h
  | @lst a xs ea =>
    cases (show u = Value.ref a from rx)
    obtain ⟨_, _, n, _, h1⟩ := (show ObjOk X.prog X.w H s.heap a (.lst xs) from I.hok a _ ea)
    exact PySem.W.kia_one PySem.W.kitx_list I.kIn ⟨_, h1, rfl⟩ e (fun z => nomatch z) h
  | @frz a ob xs ea =>
    cases (show u = Value.ref a from rx)
    obtain ⟨_, _, _, n, _, h1⟩ := (show ObjOk X.prog X.w H s.heap a (.frz ob (.lst xs)) from I.hok a _ ea)
    exact PySem.W.kia_one PySem.W.kitx_list I.kIn ⟨_, h1, rfl⟩ e (fun z => nomatch z) h
  | @tup a xs ea =>
    cases (show u = Value.ref a from rx)
    obtain ⟨_, _, _, p⟩ := (show ObjOk X.prog X.w H s.heap a (.tup xs) from I.hok a _ ea)
    obtain ⟨o, h1, h2, _⟩ := p
    exact PySem.W.kia_one PySem.W.kitx_tuple I.kIn ⟨o, h1, h2⟩ e (fun z => nomatch z) h
  | @dK a kvs ea =>
    cases (show u = Value.ref a from rx)
    obtain ⟨_, _, vs, _, p⟩ := (show ObjOk X.prog X.w H s.heap a (.dK kvs) from I.hok a _ ea)
    obtain ⟨o, es, ep, h1, h2, _⟩ := p
    exact PySem.W.kia_one PySem.W.kitx_dict I.kIn ⟨o, h1, h2.1⟩ e (fun z => nomatch z) h
  | @dT a kvs ea =>
    cases (show u = Value.ref a from rx)
    obtain ⟨_, _, xs, _, o, es, ep, h1, h2, _⟩ := (show ObjOk X.prog X.w H s.heap a (.dT kvs) from I.hok a _ ea)
    exact PySem.W.kia_one PySem.W.kitx_dict I.kIn ⟨o, h1, h2.1⟩ e (fun z => nomatch z) h
  | @ins a C dx fs ea cl ha hn htk hm =>
    cases (show u = Value.ref a from rx)
    obtain ⟨mA, O, _⟩ := ins_get I.hok ea
    obtain ⟨od, J, _⟩ := O.look
    exact PySem.W.kia_one (PySem.W.kitx_own (cl.get _) cl.hd ha hn htk hm) I.kIn J e (fun z => nomatch z) h
end
end L2

namespace L2
open PySem PySem.Spec PyProof.Rows

/-! ### room -/
structure Room (k : Nat) (A : Around) : Prop where
  hd : A.handled = none
  dp : A.depth + 3 * k + 5 < recursionLimit
  un : A.units + 16 * k + 200 < cLine
theorem Room.mono {j k : Nat} {A : Around} (r : Room k A) (h : j ≤ k) : Room j A := ⟨r.hd, by have := r.dp; omega, by have := r.un; omega⟩
theorem Room.deeper {k : Nat} {A : Around} (r : Room (k + 1) A) (env : Env) : Room k (A.deeper env) :=
  ⟨r.hd, by have := r.dp; show A.depth + 1 + 3 * k + 5 < _; omega, by have := r.un; show A.units + 3 + 16 * k + 200 < _; omega⟩
theorem Room.in1 {k : Nat} {A : Around} (r : Room (k + 1) A) : Room k A.in1 :=
  ⟨r.hd, by have := r.dp; show A.depth + 3 * k + 5 < _; omega, by have := r.un; show A.units + 1 + 16 * k + 200 < _; omega⟩
theorem make_depth {A : Around} {C : Addr} {us : List Value} {kw : List (Str × Value)} : (A.under (.builtin "type.__call__" ⟨.ref C :: us, kw⟩)).depth = A.depth + 1 := by
  first | rfl | simp [Around.under, Code.weight, Code.isCreation, Code.isGuard, Code.isCaller, Code.frames, Code.isFrame, guardIds]
theorem make_units {A : Around} {C : Addr} {us : List Value} {kw : List (Str × Value)} : (A.under (.builtin "type.__call__" ⟨.ref C :: us, kw⟩)).units = A.units + 1 := by
  first | rfl | simp [Around.under, Code.cUnits, Code.frames, Code.isFrame]
theorem Room.make {k : Nat} {A : Around} (r : Room (k + 1) A) (C : Addr) (us : List Value) (kw : List (Str × Value)) : Room k (A.under (.builtin "type.__call__" ⟨.ref C :: us, kw⟩)) :=
  ⟨r.hd, by have := r.dp; rw [make_depth]; omega, by have := r.un; rw [make_units]; omega⟩
theorem Room.depth {k : Nat} {A : Around} (r : Room k A) : A.depth < recursionLimit := by have := r.dp; omega
theorem Room.units {k : Nat} {A : Around} (r : Room k A) : A.units + 64 < cLine := by have := r.un; omega
theorem Room.units0 {k : Nat} {A : Around} (r : Room k A) : A.units < cLine := by have := r.un; omega

/-! ### argument lists and displays -/
def tNil : TA := fun _ H Q => Q [] H
def tCons (ta : TE) (tr : TA) : TA := fun σ H Q => ta σ H fun x H1 => tr σ H1 fun xs H2 => Q (x :: xs) H2
section
variable {X : Cx} {e : Expr} {es : List Expr} {te : TE} {t : TA} {pos : Pos}
theorem pa_nil : PA X [] tNil := fun _ _ _ _ H Q I h => Calls.spliced_nil ⟨[], H, I, .nil, h⟩
theorem pa_cons (ha : PE X e te) (hr : PA X es t) (hs : starEach (e :: es) X.env = (false, eval e X.env) :: starEach es X.env := by rfl) : PA X (e :: es) (tCons te t) := by
  intro pos pins s σ H Q I h
  rw [hs]
  show wpAny _ _ (spliced ((false, eval e X.env) :: backTo pos (starEach es X.env))) _ _ s
  refine Calls.spliced_cons (thn (ha pins s σ H _ I h) fun u s1 ⟨x, H1, I1, r1, q1⟩ => ?_)
  exact thn (hr pos pins s1 σ H1 _ I1 q1) fun us s2 ⟨xs, H2, I2, r2, q2⟩ => ⟨x :: xs, H2, I2, .cons r1 r2, q2⟩

/-- a tuple, a list of written items -/
def tTup (t : TA) : TE := fun σ H Q => t σ H fun xs H1 => xs.length ≤ sizeLine ∧ ∀ p, H1 p = none → Q (.ref p) (upd H1 p (.tup xs))
def tLst (t : TA) : TE := fun σ H Q => t σ H fun xs H1 => xs.length ≤ sizeLine ∧ ∀ p, H1 p = none → Q (.ref p) (upd H1 p (.lst xs))
theorem pe_tup {x1} (h : PA X es t) : PE X (.Tuple es x1 pos) (tTup t) := by
  intro pins s σ H Q I hq
  refine wpAny_Tuple_spliced (thn (h pos pins s σ H _ I hq) fun us s1 ⟨xs, H1, I1, r, z, q⟩ => ⟨by rw [← r.length]; exact z, ?_⟩)
  have hf : H1 s1.heap.objs.size = none := I1.hok.fresh (Nat.le_refl _)
  refine ⟨.ref s1.heap.objs.size, upd H1 s1.heap.objs.size (.tup xs), I1.laid (t' := s1.toks) (fun b u e => Heap.get?_push_of_some _ e) (Nat.le_refl _) ?_, rfl, q _ hf⟩
  exact ⟨z, us, r, ⟨_, Heap.get?_push_size _ rfl, rfl, _, rfl⟩⟩
theorem pe_lst (h : PA X es t) : PE X (.List es pos) (tLst t) := by
  intro pins s σ H Q I hq
  refine wpAny_List_spliced (thn (h pos pins s σ H _ I hq) fun us s1 ⟨xs, H1, I1, r, z, q⟩ => ⟨by rw [← r.length]; exact z, ?_⟩)
  have hf : H1 s1.heap.objs.size = none := I1.hok.fresh (Nat.le_refl _)
  refine ⟨.ref s1.heap.objs.size, upd H1 s1.heap.objs.size (.lst xs), I1.laid (t' := s1.toks) (fun b u e => Heap.get?_push_of_some _ e) (Nat.le_refl _) ?_, rfl, q _ hf⟩
  exact ⟨z, us, 0, r, Heap.get?_push_size _ rfl⟩
end

/-! ### what a def promises -/
/-- a def's promise: the bound arguments in the parameters' order, the heap, the wanted end, the wanted exception -/
abbrev Sp := List V → Hp → VK → XK → Prop
/-- how an exception lies behind a call (file 08 gives it): the callers' frames, abstract heap and state ahead of the call, the wish, the exception, the state -/
abbrev CXT := List Env → Hp → Shared → XK → Value → Shared → Prop

/-- the state at a call -/
structure Env0 (P : Program) (w : World) (K : PySem.W.Frag) (mg : Str → Option Value) (base : Heap) (A : Around) (outer : List Env) (s : Shared) (H : Hp) : Prop where
  frames : A.frames = some outer
  mod : Mod K mg base
  bs : ∀ b o, base.get? b = some o → s.heap.get? b = some o ∧ H b = none
  bsz : base.objs.size ≤ s.heap.objs.size
  funs : s.heap.FunFrames base outer
  frf : ∀ b ∈ frs outer, H b = none
  hok : HOk P w H s.heap
  bare : AllBare s.gens
/-- a call's end -/
def CE (outer : List Env) (P : Program) (w : World) (H : Hp) (s : Shared) (Q : VK) (u : Value) (s' : Shared) : Prop :=
  ∃ v H', s'.os = s.os ∧ AllBare s'.gens ∧ Un (frs outer) [] H H' s.heap s'.heap ∧ HOk P w H' s'.heap ∧ RelV v u ∧ Q v H'
def CR (CX : CXT) (outer : List Env) (P : Program) (w : World) (H : Hp) (s : Shared) (Q : VK) (E : XK) (r : Result) (s' : Shared) : Prop :=
  match r with
  | .ok (.ret u) => CE outer P w H s Q u s'
  | .ok _ => False
  | .error e => CX outer H s E e s'
structure FnOk (P : Program) (w : World) (K : PySem.W.Frag) (mg : Str → Option Value) (base : Heap) (CX : CXT) (k : Nat) (f : Addr) (fd : FuncData) (ps : List Str) (sp : Sp) : Prop where
  len : ∀ vs H Q E, sp vs H Q E → vs.length = ps.length
  run : ∀ (A : Around) (outer : List Env) (s : Shared) (H : Hp) (args : Args) (us : List Value) (vs : List V) (Q : VK) (E : XK), Room k A → Env0 P w K mg base A outer s H → BindsTo s fd args (ps.zip us) → Vals vs us → sp vs H Q E →
    codeAny (model P w) A (.call (.ref f) args) (CR CX outer P w H s Q E) s
theorem FnOk.mono {P : Program} {w : World} {K : PySem.W.Frag} {mg : Str → Option Value} {base : Heap} {CX : CXT} {j k : Nat} {f : Addr} {fd : FuncData} {ps : List Str} {sp : Sp} (F : FnOk P w K mg base CX j f fd ps sp) (h : j ≤ k) :
    FnOk P w K mg base CX k f fd ps sp := ⟨F.len, fun A outer s H args us vs Q E hr => F.run A outer s H args us vs Q E (hr.mono h)⟩
/-- a weaker promise -/
theorem FnOk.imp {P : Program} {w : World} {K : PySem.W.Frag} {mg : Str → Option Value} {base : Heap} {CX : CXT} {k : Nat} {f : Addr} {fd : FuncData} {ps : List Str} {sp sp' : Sp} (F : FnOk P w K mg base CX k f fd ps sp)
    (h : ∀ vs H Q E, sp' vs H Q E → sp vs H Q E) : FnOk P w K mg base CX k f fd ps sp' :=
  ⟨fun vs H Q E q => F.len vs H Q E (h _ _ _ _ q), fun A outer s H args us vs Q E hr he hb hv hs => F.run A outer s H args us vs Q E hr he hb hv (h _ _ _ _ hs)⟩

theorem Env0.make {P : Program} {w : World} {K : PySem.W.Frag} {mg : Str → Option Value} {base : Heap} {A : Around} {outer : List Env} {s : Shared} {H : Hp} (e : Env0 P w K mg base A outer s H) (C : Addr) (us : List Value) (kw : List (Str × Value)) :
    Env0 P w K mg base (A.under (.builtin "type.__call__" ⟨.ref C :: us, kw⟩)) outer s H := ⟨by first | exact e.frames | (simpa [Around.under, Code.envs, Code.isFrame, pushEnvs] using e.frames), e.mod, e.bs, e.bsz, e.funs, e.frf, e.hok, e.bare⟩
theorem Env0.in1 {P : Program} {w : World} {K : PySem.W.Frag} {mg : Str → Option Value} {base : Heap} {A : Around} {outer : List Env} {s : Shared} {H : Hp} (e : Env0 P w K mg base A outer s H) :
    Env0 P w K mg base A.in1 outer s H := ⟨e.frames, e.mod, e.bs, e.bsz, e.funs, e.frf, e.hok, e.bare⟩

section
variable {X : Cx} {pins : List (Addr × Obj)} {σ : St} {H : Hp} {s s' : Shared}
/-- from a body: what a callee wants -/
theorem Inv.env0 (I : Inv X pins σ H s) : Env0 X.prog X.w X.K X.mg X.base X.A X.stack s H :=
  ⟨I.ok.frames, I.ok.mod, I.bs, Nat.le_trans I.ok.bsz I.sz, I.stack, I.stkFree, I.hok, I.bare⟩
/-- behind a call -/
theorem Inv.after {Q : VK} {u : Value} (I : Inv X pins σ H s) (h : CE X.stack X.prog X.w H s Q u s') : EP X pins σ Q u s' := by
  obtain ⟨v, H', os, bare, un, hok, r, q⟩ := h
  obtain ⟨hh, g, d, t, os'⟩ := s'
  obtain rfl : os' = s.os := os
  exact ⟨v, H', I.call (h' := hh) (g' := g) (d' := d) (t' := t) (ch := []) un hok bare (fun b z => absurd z (by simp)), r, q⟩
end

/-! ### calls -/
/-- f(..): the written arguments, then the defaults dvs; E: what is wanted of an exception -/
def tCall (sp : Sp) (dvs : List V) (E : XK) (t : TA) : TE := fun σ H Q => t σ H fun vs H1 => sp (vs ++ dvs) H1 Q E
/-- o.m(..) of an instance of the class at C -/
def tMeth (C : Addr) (m : Str) (sp : Sp) (dvs : List V) (E : XK) (ta : TE) (t : TA) : TE := fun σ H Q => ta σ H fun x H1 => ∃ a dx fs, x = .ref a ∧ H1 a = some (.ins C dx fs) ∧ fs.lookup m = none ∧
  t σ H1 fun vs H2 => sp (x :: (vs ++ dvs)) H2 Q E
/-- C(..): a new instance and its dict, then __init__ -/
def tMake (C : Addr) (sp : Sp) (dvs : List V) (E : XK) (t : TA) : TE := fun σ H Q => t σ H fun vs H1 => ∀ x dx, H1 x = none → H1 dx = none → dx ≠ x →
  sp (.ref x :: (vs ++ dvs)) (upd (upd H1 dx (.own x)) x (.ins C dx [])) (fun v H2 => v = .non ∧ Q (.ref x) H2) E

/-- how the parameters are bound: us the positional arguments, kw the keywords' values by name, ds the defaults that fill up -/
def Binds (K : PySem.W.Frag) (fd : FuncData) (ps : List Str) (ds : List Value) : Prop :=
  ∀ (s : Shared) (us : List Value), K.In s.heap → (us ++ ds).length = ps.length → BindsTo s fd ⟨us, []⟩ (ps.zip (us ++ ds))
/-- every parameter is given -/
theorem Binds.all {K : PySem.W.Frag} {fd : FuncData} {ps : List Str} (h : ∀ us : List Value, us.length = ps.length → bindArgs fd ⟨us, []⟩ = pure (ps.zip us)) : Binds K fd ps [] := fun s us _ hl => by
  rw [List.append_nil] at hl ⊢
  exact .of_eq (h us hl)

/-- an exception of a callee reaches what this body wants of exceptions -/
def Passes (CX : CXT) (X : Cx) (E : XK) : Prop := ∀ (pins : List (Addr × Obj)) (σ : St) (H : Hp) (s : Shared) (e : Value) (s' : Shared), Inv X pins σ H s → CX X.stack H s E e s' → X.xe e s'

section
variable {X : Cx} {CX : CXT} {k : Nat} {f C : Addr} {fd : FuncData} {ps : List Str} {sp : Sp} {dvs : List V} {ds : List Value} {E : XK} {x m : Str} {p pos apos : Pos} {e o : Expr} {es : List Expr} {ta : TE} {t : TA}

/-- the callee runs -/
theorem run_fn {pins : List (Addr × Obj)} {σ : St} {H : Hp} {s : Shared} {Q : VK} {us : List Value} {vs : List V} (F : FnOk X.prog X.w X.K X.mg X.base CX k f fd ps sp) (hr : Room k X.A) (hb : Binds X.K fd ps ds) (hd : Vals dvs ds) (hx : Passes CX X E)
    (I : Inv X pins σ H s) (r : Vals vs us) (h : sp (vs ++ dvs) H Q E) : wpAny (model X.prog X.w) X.A (call (.ref f) us) (EP X pins σ Q) X.xe s := by
  have r2 : Vals (vs ++ dvs) (us ++ ds) := r.append hd
  have hl : (us ++ ds).length = ps.length := by rw [← r2.length]; exact F.len _ _ _ _ h
  refine wpAny_call (codeAny_mono (F.run X.A X.stack s H ⟨us, []⟩ (us ++ ds) (vs ++ dvs) Q E hr I.env0 (hb s us I.kIn hl) r2 h) fun r s' hq => ?_)
  cases r with
  | error e => exact hx pins σ H s e s' I hq
  | ok fl =>
    cases fl with
    | ret u => exact I.after hq
    | next => exact False.elim hq
    | brk => exact False.elim hq
    | cont => exact False.elim hq

theorem pe_call (F : FnOk X.prog X.w X.K X.mg X.base CX k f fd ps sp) (hr : Room k X.A) (hg : Gl X x) (hm : X.mg x = some (.ref f)) (hk : PySem.W.keepIn X.K (.ref f) = true) (hb : Binds X.K fd ps ds) (hd : Vals dvs ds) (hx : Passes CX X E)
    (ha : PA X (e :: es) t) (hdb : (x == ("__debug__" : Str)) = false := by decide) (he : starEach (e :: es) X.env = (false, eval e X.env) :: starEach es X.env := by rfl) (hpl : (backTo pos (starEach es X.env)).any (·.1) = false := by rfl) :
    PE X (.Call (.Name x p) (e :: es) [] pos) (tCall sp dvs E t) := by
  intro pins s σ H Q I h
  refine wpAny_Call_Name_kw (ld_glob I hg hm ?_ hdb)
  refine PySem.W.callWith_K (h₀ := X.base) I.ok.mod.kin hk (thn (ha pos pins s σ H _ I h) fun us s1 ⟨vs, H1, I1, r, q⟩ => ⟨I1.kIn, ?_⟩) he hpl
  exact run_fn F hr hb hd hx I1 r q
theorem pe_call0 (F : FnOk X.prog X.w X.K X.mg X.base CX k f fd ps sp) (hr : Room k X.A) (hg : Gl X x) (hm : X.mg x = some (.ref f)) (hk : PySem.W.keepIn X.K (.ref f) = true) (hb : Binds X.K fd ps ds) (hd : Vals dvs ds) (hx : Passes CX X E)
    (hdb : (x == ("__debug__" : Str)) = false := by decide) : PE X (.Call (.Name x p) [] [] pos) (tCall sp dvs E tNil) := by
  intro pins s σ H Q I h
  refine wpAny_Call_Name_kw (ld_glob I hg hm ?_ hdb)
  exact PySem.W.callWith_K0 I.kIn hk (run_fn (us := []) F hr hb hd hx I .nil h)

/-- o.m(e, ..) -/
theorem pe_meth {pl : Sem Bool} (he : PE X o ta) (c : Cls X.K C) (hm : Meth X.K C m f) (F : FnOk X.prog X.w X.K X.mg X.base CX k f fd ps sp) (hr : Room k X.A) (hb : Binds X.K fd ps ds) (hd : Vals dvs ds) (hx : Passes CX X E) (ha : PA X (e :: es) t)
    (hst : starEach (e :: es) X.env = (false, eval e X.env) :: starEach es X.env := by rfl) (hpl : (backTo pos (starEach es X.env)).any (·.1) = false := by rfl)
    (ht : eval (.Call (.Attribute o m apos) (e :: es) [] pos) X.env = (do
      let ov ← eval o X.env
      standAt apos.atName
      let (f, first) ← holding [ov] (getMethod ov m pl)
      callWith pos f first (backTo pos (starEach (e :: es) X.env)) (backToKw pos (keywordEach [] X.env))) := by rfl) :
    PE X (.Call (.Attribute o m apos) (e :: es) [] pos) (tMeth C m sp dvs E ta t) := by
  intro pins s σ H Q I h
  refine PySem.W.methodCall_KW (pl := pl) (thn (he pins s σ H _ I h) fun u s1 ⟨x, H1, I1, rx, a, dx, fs, ex, ea, l, q⟩ => ?_) ht
  subst ex
  obtain rfl : u = Value.ref a := rx
  refine getmeth_ok I1 ea c hm l ?_
  refine PySem.W.callWith_K (first := [.ref a]) (h₀ := X.base) I.ok.mod.kin hm.kp (thn (ha pos pins s1 σ H1 _ I1 q) fun us s2 ⟨vs, H2, I2, r, q2⟩ => ⟨I2.kIn, ?_⟩) hst hpl
  exact run_fn (us := .ref a :: us) (vs := .ref a :: vs) F hr hb hd hx I2 (.cons rfl r) q2
/-- o.m() -/
theorem pe_meth0 {pl : Sem Bool} (he : PE X o ta) (c : Cls X.K C) (hm : Meth X.K C m f) (F : FnOk X.prog X.w X.K X.mg X.base CX k f fd ps sp) (hr : Room k X.A) (hb : Binds X.K fd ps ds) (hd : Vals dvs ds) (hx : Passes CX X E)
    (ht : eval (.Call (.Attribute o m apos) [] [] pos) X.env = (do
      let ov ← eval o X.env
      standAt apos.atName
      let (f, first) ← holding [ov] (getMethod ov m pl)
      callWith pos f first (backTo pos (starEach [] X.env)) (backToKw pos (keywordEach [] X.env))) := by rfl) :
    PE X (.Call (.Attribute o m apos) [] [] pos) (tMeth C m sp dvs E ta tNil) := by
  intro pins s σ H Q I h
  refine PySem.W.methodCall_KW (pl := pl) (thn (he pins s σ H _ I h) fun u s1 ⟨x, H1, I1, rx, a, dx, fs, ex, ea, l, q⟩ => ?_) ht
  subst ex
  obtain rfl : u = Value.ref a := rx
  refine getmeth_ok I1 ea c hm l ?_
  exact PySem.W.callWith_K0 (first := [.ref a]) I1.kIn hm.kp (run_fn (us := [.ref a]) (vs := [.ref a]) F hr hb hd hx I1 (.cons rfl .nil) q)

/-- what a class must have to be made -/
structure Mk (K : PySem.W.Frag) (C f : Addr) : Prop where
  makes : PySem.W.makesIn K C = true
  init : PySem.W.findIn K (.ref C) "__init__" = some (some (.ref f))
  fn : PySem.W.isFn K (.ref f) = true
  kp : PySem.W.keepIn K (.ref C) = true

theorem run_make {pins : List (Addr × Obj)} {σ : St} {H : Hp} {s : Shared} {Q : VK} {us : List Value} {vs : List V} (M : Mk X.K C f) (F : FnOk X.prog X.w X.K X.mg X.base CX k f fd ps sp) (hr : Room (k + 1) X.A) (hb : Binds X.K fd ps ds) (hd : Vals dvs ds)
    (hx : Passes CX X E) (I : Inv X pins σ H s) (r : Vals vs us)
    (h : ∀ x dx, H x = none → H dx = none → dx ≠ x → sp (.ref x :: (vs ++ dvs)) (upd (upd H dx (.own x)) x (.ins C dx [])) (fun v H2 => v = .non ∧ Q (.ref x) H2) E) :
    wpAny (model X.prog X.w) X.A (call (.ref C) us) (EP X pins σ Q) X.xe s := by
  have hq := h (s.heap.objs.size + 1) s.heap.objs.size (I.hok.fresh (Nat.le_succ _)) (I.hok.fresh (Nat.le_refl _)) (Nat.ne_of_lt (Nat.lt_succ_self _))
  have I2 := Inv.made (C := C) I
  have r2 : Vals (V.ref (s.heap.objs.size + 1) :: (vs ++ dvs)) (Value.ref (s.heap.objs.size + 1) :: (us ++ ds)) := .cons rfl (r.append hd)
  have hl : (Value.ref (s.heap.objs.size + 1) :: us ++ ds).length = ps.length := by
    have e := r2.length
    rw [F.len _ _ _ _ hq] at e
    exact e.symm
  refine wpAny_call (make_map (f := f) I.kIn M.makes M.init (beq_iff_eq.mp M.fn) (codeAny_mono (F.run _ X.stack _ _ ⟨Value.ref (s.heap.objs.size + 1) :: us, []⟩ (Value.ref (s.heap.objs.size + 1) :: (us ++ ds)) _ _ E (hr.make C us [])
    (I2.env0.make C us []) (hb _ (Value.ref (s.heap.objs.size + 1) :: us) I2.kIn hl) r2 hq) fun r s' hq' => ?_))
  cases r with
  | error e => exact hx pins σ _ _ e s' I2 hq'
  | ok fl =>
    cases fl with
    | ret u =>
      obtain ⟨v, H', I3, rv, ev, q3⟩ := I2.after hq'
      subst ev
      exact ⟨rv, ⟨V.ref (s.heap.objs.size + 1), H', I3, rfl, q3⟩⟩
    | next => exact False.elim hq'
    | brk => exact False.elim hq'
    | cont => exact False.elim hq'
theorem pe_make (M : Mk X.K C f) (F : FnOk X.prog X.w X.K X.mg X.base CX k f fd ps sp) (hr : Room (k + 1) X.A) (hg : Gl X x) (hm : X.mg x = some (.ref C)) (hb : Binds X.K fd ps ds) (hd : Vals dvs ds) (hx : Passes CX X E)
    (ha : PA X (e :: es) t) (hdb : (x == ("__debug__" : Str)) = false := by decide) (he : starEach (e :: es) X.env = (false, eval e X.env) :: starEach es X.env := by rfl) (hpl : (backTo pos (starEach es X.env)).any (·.1) = false := by rfl) :
    PE X (.Call (.Name x p) (e :: es) [] pos) (tMake C sp dvs E t) := by
  intro pins s σ H Q I h
  refine wpAny_Call_Name_kw (ld_glob I hg hm ?_ hdb)
  refine PySem.W.callWith_K (h₀ := X.base) I.ok.mod.kin M.kp (thn (ha pos pins s σ H _ I h) fun us s1 ⟨vs, H1, I1, r, q⟩ => ⟨I1.kIn, ?_⟩) he hpl
  exact run_make M F hr hb hd hx I1 r q
theorem pe_make0 (M : Mk X.K C f) (F : FnOk X.prog X.w X.K X.mg X.base CX k f fd ps sp) (hr : Room (k + 1) X.A) (hg : Gl X x) (hm : X.mg x = some (.ref C)) (hb : Binds X.K fd ps ds) (hd : Vals dvs ds) (hx : Passes CX X E)
    (hdb : (x == ("__debug__" : Str)) = false := by decide) : PE X (.Call (.Name x p) [] [] pos) (tMake C sp dvs E tNil) := by
  intro pins s σ H Q I h
  refine wpAny_Call_Name_kw (ld_glob I hg hm ?_ hdb)
  exact PySem.W.callWith_K0 I.kIn M.kp (run_make (us := []) M F hr hb hd hx I .nil h)
end

/-! ### keywords -/
/-- the values of the keywords, from the left -/
def PK (X : Cx) (kws : List Keyword) (t : TA) : Prop :=
  ∀ (pos : Pos) (pins : List (Addr × Obj)) (s : Shared) (σ : St) (H : Hp) (Q : List V → Hp → Prop), Inv X pins σ H s → t σ H Q → wpAny (model X.prog X.w) X.A (evalAll ((backToKw pos (keywordEach kws X.env)).map (·.2))) (AP X pins σ Q) X.xe s
section
variable {X : Cx} {CX : CXT} {k : Nat} {f C : Addr} {fd : FuncData} {ps ks : List Str} {sp : Sp} {E : XK} {x m : Str} {p pos apos kpos : Pos} {e o : Expr} {es : List Expr} {kws : List Keyword} {te ta : TE} {t tk : TA} {nm : Option Str}
theorem pk_nil : PK X [] tNil := fun _ _ _ _ H Q I h => wpAny_evalAll_nil ⟨[], H, I, .nil, h⟩
theorem pk_cons (ha : PE X e te) (hr : PK X kws t) : PK X (⟨nm, e, kpos⟩ :: kws) (tCons te t) := by
  intro pos pins s σ H Q I h
  show wpAny _ _ (evalAll ((do let v ← eval e X.env; standAt pos; pure v) :: (backToKw pos (keywordEach kws X.env)).map (·.2))) _ _ s
  refine wpAny_evalAll_cons (wpAny_bind (thn (ha pins s σ H _ I h) fun u s1 ⟨x, H1, I1, r1, q1⟩ => wpAny_bind (wpAny_standAt (wpAny_pure ?_))))
  exact thn (hr pos pins s1 σ H1 _ I1 q1) fun us s2 ⟨xs, H2, I2, r2, q2⟩ => ⟨x :: xs, H2, I2, .cons r1 r2, q2⟩

/-- how a call with keywords binds: g puts the positional values us and the keywords' values ws (names ks) in the parameters' order, defaults among them -/
structure KBinds (K : PySem.W.Frag) (fd : FuncData) (ps ks : List Str) (g : List Value → List Value → List Value) (gV : List V → List V → List V) : Prop where
  to : ∀ (s : Shared) (us ws : List Value), K.In s.heap → (g us ws).length = ps.length → BindsTo s fd ⟨us, ks.zip ws⟩ (ps.zip (g us ws))
  rel : ∀ {vs : List V} {us : List Value} {zs : List V} {ws : List Value}, Vals vs us → Vals zs ws → Vals (gV vs zs) (g us ws)
def tCallK (sp : Sp) (gV : List V → List V → List V) (E : XK) (t tk : TA) : TE := fun σ H Q => t σ H fun vs H1 => tk σ H1 fun zs H2 => sp (gV vs zs) H2 Q E
variable {g : List Value → List Value → List Value} {gV : List V → List V → List V}
theorem run_fnk {pins : List (Addr × Obj)} {σ : St} {H : Hp} {s : Shared} {Q : VK} {us ws : List Value} {vs zs : List V} (F : FnOk X.prog X.w X.K X.mg X.base CX k f fd ps sp) (hr : Room k X.A) (hb : KBinds X.K fd ps ks g gV) (hx : Passes CX X E)
    (I : Inv X pins σ H s) (r : Vals vs us) (rz : Vals zs ws) (h : sp (gV vs zs) H Q E) : wpAny (model X.prog X.w) X.A (call (.ref f) us (ks.zip ws)) (EP X pins σ Q) X.xe s := by
  have r2 := hb.rel r rz
  have hl : (g us ws).length = ps.length := by rw [← r2.length]; exact F.len _ _ _ _ h
  refine wpAny_call (codeAny_mono (F.run X.A X.stack s H ⟨us, ks.zip ws⟩ (g us ws) (gV vs zs) Q E hr I.env0 (hb.to s us ws I.kIn hl) r2 h) fun r s' hq => ?_)
  cases r with
  | error e => exact hx pins σ H s e s' I hq
  | ok fl =>
    cases fl with
    | ret u => exact I.after hq
    | next => exact False.elim hq
    | brk => exact False.elim hq
    | cont => exact False.elim hq
/-- f(e, .., k = v, ..) -/
theorem pe_callK (F : FnOk X.prog X.w X.K X.mg X.base CX k f fd ps sp) (hr : Room k X.A) (hg : Gl X x) (hm : X.mg x = some (.ref f)) (hk : PySem.W.keepIn X.K (.ref f) = true) (hb : KBinds X.K fd ps ks g gV) (hx : Passes CX X E)
    (ha : PA X (e :: es) t) (hkw : PK X kws tk) (hall : (backToKw pos (keywordEach kws X.env)).all (·.1.isSome) = true := by rfl) (hks : (backToKw pos (keywordEach kws X.env)).filterMap (·.1) = ks := by rfl)
    (hdb : (x == ("__debug__" : Str)) = false := by decide) (he : starEach (e :: es) X.env = (false, eval e X.env) :: starEach es X.env := by rfl)
    (hpl : ((backTo pos (starEach (e :: es) X.env)).any (·.1) || (backToKw pos (keywordEach kws X.env)).any (·.1.isNone)) = false := by rfl) :
    PE X (.Call (.Name x p) (e :: es) kws pos) (tCallK sp gV E t tk) := by
  intro pins s σ H Q I h
  refine wpAny_Call_Name_kw (ld_glob I hg hm ?_ hdb)
  refine PySem.W.callWith_KW (h₀ := X.base) I.ok.mod.kin hk hall (thn (ha pos pins s σ H _ I h) fun us s1 ⟨vs, H1, I1, r, q⟩ => ?_) hpl he
  refine thn (hkw pos pins s1 σ H1 _ I1 q) fun ws s2 ⟨zs, H2, I2, rz, q2⟩ => ⟨I2.kIn, ?_⟩
  rw [hks]
  exact run_fnk F hr hb hx I2 r rz q2
end

/-! ### a def's body keeps its promise -/
/-- names: the parameters first -/
structure FnScope (N P : List Str) (sc : Scope) : Prop where
  kind : sc.kind = .function
  co : sc.isCoroutine = false
  gen : sc.isGenerator = false
  nd : N.Nodup
  pre : N.take P.length = P
  par : ∀ x ∈ P, sc.names.lookup x = some .local ∨ sc.names.lookup x = some .cell
  nofree : ∀ y ∈ sc.names, y.2 ≠ .free

theorem bindL_out {kindOf : Str → Option NameKind} {x : Str} : ∀ {binds : List (Str × Value)} {m : Str → Option Value}, (∀ v, (x, v) ∉ binds) → bindL kindOf binds m x = m x
  | [], _, _ => rfl
  | (n, v) :: r, m, h => by
    unfold bindL
    rw [bindL_out fun w hw => h w (List.mem_cons_of_mem _ hw)]
    split
    · have : x ≠ n := by rintro rfl; exact h v List.mem_cons_self
      simp [this]
    · rfl
theorem bindC_out {kindOf : Str → Option NameKind} {x : Str} : ∀ {binds : List (Str × Value)} {m : Str → Option Value}, (∀ v, (x, v) ∉ binds) → bindC kindOf binds m x = m x
  | [], _, _ => rfl
  | (n, v) :: r, m, h => by
    unfold bindC
    rw [bindC_out fun w hw => h w (List.mem_cons_of_mem _ hw)]
    split
    · rfl
    · have : x ≠ n := by rintro rfl; exact h v List.mem_cons_self
      simp [this]
theorem bindL_get {kindOf : Str → Option NameKind} {x : Str} {v : Value} : ∀ {P : List Str} {vs : List Value} {i : Nat} {m : Str → Option Value}, P.Nodup → P[i]? = some x → vs[i]? = some v → kindOf x = some .local →
    bindL kindOf (P.zip vs) m x = some v
  | [], _, _, _, _, h, _, _ => by simp at h
  | _ :: _, [], _, _, _, _, h, _ => by simp at h
  | p :: P, w :: vs, 0, m, nd, h1, h2, hk => by
    simp at h1 h2; subst h1; subst h2
    show bindL kindOf ((p, w) :: P.zip vs) m p = _
    unfold bindL
    rw [bindL_out fun v hv => (List.nodup_cons.mp nd).1 (List.of_mem_zip hv).1, if_pos hk]
    simp
  | p :: P, w :: vs, i + 1, m, nd, h1, h2, hk => by
    show bindL kindOf ((p, w) :: P.zip vs) m x = _
    unfold bindL
    exact bindL_get (i := i) (List.nodup_cons.mp nd).2 (by simpa using h1) (by simpa using h2) hk
theorem bindC_get {kindOf : Str → Option NameKind} {x : Str} {v : Value} : ∀ {P : List Str} {vs : List Value} {i : Nat} {m : Str → Option Value}, P.Nodup → P[i]? = some x → vs[i]? = some v → kindOf x ≠ some .local →
    bindC kindOf (P.zip vs) m x = some v
  | [], _, _, _, _, h, _, _ => by simp at h
  | _ :: _, [], _, _, _, _, h, _ => by simp at h
  | p :: P, w :: vs, 0, m, nd, h1, h2, hk => by
    simp at h1 h2; subst h1; subst h2
    show bindC kindOf ((p, w) :: P.zip vs) m p = _
    unfold bindC
    rw [bindC_out fun v hv => (List.nodup_cons.mp nd).1 (List.of_mem_zip hv).1, if_neg hk]
    simp
  | p :: P, w :: vs, i + 1, m, nd, h1, h2, hk => by
    show bindC kindOf ((p, w) :: P.zip vs) m x = _
    unfold bindC
    exact bindC_get (i := i) (List.nodup_cons.mp nd).2 (by simpa using h1) (by simpa using h2) hk

/-- the names' values at the entry -/
def start (N : List Str) (vs : List V) : St := vs.map some ++ List.replicate (N.length - vs.length) none

/-- the context of a def's body, at its entry; an exception leaves the frame, then lies as CX says -/
def cxOf (CX : CXT) (P : Program) (w : World) (K : PySem.W.Frag) (mg : Str → Option Value) (base : Heap) (N : List Str) (qual : Str) (scope : Scope) (f : Addr) (cd : Value) (A : Around) (outer : List Env) (s : Shared) (H : Hp) (E : XK) : Cx where
  prog := P
  w := w
  K := K
  mg := mg
  base := base
  A := A.deeper (envOfC qual scope s.heap.objs.size f cd)
  N := N
  s₀ := s
  H₀ := H
  env := envOfC qual scope s.heap.objs.size f cd
  outer := outer
  stack := envOfC qual scope s.heap.objs.size f cd :: outer
  ex := []
  calm := true
  fn := fun _ => true
  pn := []
  xe := fun e s' => wpAny (model P w) (A.deeper (envOfC qual scope s.heap.objs.size f cd)) (leaving (envOfC qual scope s.heap.objs.size f cd) e) (fun _ s'' => CX outer H s E e s'') (fun e' s'' => CX outer H s E e' s'') s'

theorem cell_has {sc : Scope} {n : Nat} {x : Str} (h : sc.names.lookup x = some .cell) : ∃ c, (cellsFrom n sc.names []).lookup x = some c := by
  have q := PySem.W.cellsFrom_some sc.names n [] (.inl h)
  exact Option.isSome_iff_exists.mp q

theorem inv_start {CX : CXT} {P : Program} {w : World} {K : PySem.W.Frag} {mg : Str → Option Value} {base : Heap} {N ps : List Str} {qual : Str} {scope : Scope} {f : Addr} {cd : Value} {A : Around} {outer : List Env} {s s1 : Shared} {H : Hp} {E : XK} {us : List Value} {vs : List V}
    (S : FnScope N ps scope) (hd : A.handled = none) (e0 : Env0 P w K mg base A outer s H) (hl : vs.length = ps.length) (r : Vals vs us)
    (x : InCallC s s.heap.objs.size (bindL (envOfC qual scope s.heap.objs.size f cd).kindOf (ps.zip us) fun _ => none) (cellsFrom (s.heap.objs.size + 1) scope.names []) (bindC (envOfC qual scope s.heap.objs.size f cd).kindOf (ps.zip us) fun _ => none) s1) :
    Inv (cxOf CX P w K mg base N qual scope f cd A outer s H E) [] (start N vs) H s1 := by
  have hpl : ps.length ≤ N.length := by have := congrArg List.length S.pre; rw [List.length_take] at this; omega
  obtain ⟨h1, tk, rfl, hk⟩ := x.done
  have noA : ∀ b : Addr, b ∉ (cxOf CX P w K mg base N qual scope f cd A outer s H E).ex := fun b z => absurd (show b ∈ ([] : List Addr) from z) (by simp)
  refine ⟨⟨e0.mod, S.kind, rfl, rfl, Nat.le_refl _, fun y z c h1 h2 => ?_, fun y hy => ?_, fun y c _ h => ?_, fun _ => hd, Around.frames_deeper e0.frames, .inr ⟨rfl, rfl⟩, fun b z => absurd z (noA b), e0.bs, e0.bsz, fun b _ _ => noA b, fun b z => absurd z (noA b), e0.funs, e0.frf⟩,
    rfl, e0.bare, Un.kept hk, ⟨_, x.toInCall.ns, fun i y v h1 h2 h3 => ?_⟩, fun y c h => ⟨_, x.cell y c h⟩, e0.hok.fresh (Nat.le_refl _), fun y c h => ?_, fun p hp => absurd (show p ∈ ([] : List (Addr × Obj)) from hp) (by simp), e0.hok.kept hk, ?_⟩
  · exact name_of_addr x.apart (PySem.mem_of_lookup h1) (PySem.mem_of_lookup h2)
  · have hy : scope.names.lookup y = some .cell ∨ scope.names.lookup y = some .free := hy
    rcases hy with hy | hy
    · exact cell_has hy
    · exact absurd rfl (S.nofree _ (PySem.mem_of_lookup hy))
  · exact Nat.le_of_lt (x.above y c (PySem.mem_of_lookup h))
  · have hi : i < vs.length := by
      unfold start at h2
      by_cases hi : i < vs.length
      · exact hi
      · rw [List.getElem?_append_right (by simpa using hi)] at h2
        rw [List.getElem?_replicate] at h2
        split at h2 <;> cases h2
    have ha : vs[i]? = some v := by
      unfold start at h2
      rw [List.getElem?_append_left (by simpa using hi), List.getElem?_map] at h2
      cases e : vs[i]? with
      | none => rw [e] at h2; cases h2
      | some a => rw [e] at h2; cases h2; rfl
    obtain ⟨u, hu, rv⟩ := r.get ha
    have hp : ps[i]? = some y := by
      rw [← S.pre, List.getElem?_take_of_lt (by omega)]; exact h1
    have ndP : ps.Nodup := by rw [← S.pre]; exact S.nd.sublist (List.take_sublist _ _)
    refine ⟨u, rv, ?_⟩
    rcases S.par y (List.mem_of_getElem? hp) with k | k
    · exact .inl ⟨k, bindL_get ndP hp hu k⟩
    · obtain ⟨c, e⟩ := cell_has (n := s.heap.objs.size + 1) k
      refine .inr ⟨.inl k, c, e, ?_⟩
      have q := x.cell y c e
      rw [bindC_get ndP hp hu (by show scope.names.lookup y ≠ _; rw [k]; decide)] at q
      exact q
  · exact e0.hok.fresh (Nat.le_of_lt (x.above y c (PySem.mem_of_lookup h)))
  · unfold start
    show _ = N.length
    rw [List.length_append, List.length_map, List.length_replicate]
    omega

/-- THE RULE: a def (or a method) of the text, by its body. The body's reading t is chosen for each entry; it is run at the parameters' values -/
theorem fn_of {CX : CXT} {P : Program} {w : World} {K : PySem.W.Frag} {mg : Str → Option Value} {base : Heap} {k : Nat} {f : Addr} {name qual : Str} {params : Arguments} {body : List Stmt} {scope : Scope} {dV kV doc pm cdv ct oc : Value} {an od : Option Addr}
    {osl : Array (Option Value)} {N ps : List Str} {sp : Sp} (lk : K.lookup f = some ⟨oc, od, .func (PySem.W.fnOf name qual params body scope dV kV doc pm an cdv ct), osl⟩) (hcd : PySem.W.codeIn K cdv qual = true) (S : FnScope N ps scope)
    (len : ∀ vs H Q E, sp vs H Q E → vs.length = ps.length)
    (hbody : ∀ (A : Around) (outer : List Env) (s : Shared) (H : Hp) (vs : List V) (Q : VK) (E : XK), Room k (A.deeper (envOfC qual scope s.heap.objs.size f cdv)) → sp vs H Q E →
      ∃ t, PSs (cxOf CX P w K mg base N qual scope f cdv A outer s H E) body t ∧ t { nx := fun _ H' => Q .non H', rt := Q } (start N vs) H) :
    FnOk P w K mg base CX (k + 1) f (PySem.W.fnOf name qual params body scope dV kV doc pm an cdv ct) ps sp := by
  refine ⟨len, fun A outer s H args us vs Q E hr e0 hb r hsp => ?_⟩
  have hl := len _ _ _ _ hsp
  have KX : K.In s.heap := e0.mod.kin.keeps fun b o e => (e0.bs b o e).1
  have lim : s.heap.NoLimit := e0.mod.nolimit.keeps fun b o e => (e0.bs b o e).1
  have hkind : ∀ y ∈ ps.zip us, scope.names.lookup y.1 = some .local ∨ (scope.names.lookup y.1 = some .cell ∧ ((cellsFrom (s.heap.objs.size + 1) scope.names []).lookup y.1).isSome = true) := fun ⟨n, v⟩ hy => by
    rcases S.par n (List.of_mem_zip hy).1 with q | q
    · exact .inl q
    · exact .inr ⟨q, PySem.W.cellsFrom_some _ _ _ (.inl q)⟩
  refine codeAny_call_function hr.depth (KX _ _ lk) rfl S.co S.gen rfl (PySem.W.codeRec_of KX hcd) (hb _ _ _ _ ?_)
  refine wpAny_newFunctionEnv_cells S.kind hkind fun env he s1 x => ?_
  subst he
  refine ⟨lim.keeps x.toInCall.keep, codeAny_func ?_⟩
  obtain ⟨t, ht, hq⟩ := hbody A outer s H vs Q E (hr.deeper _) hsp
  have I : Inv (cxOf CX P w K mg base N qual scope f cdv A outer s H E) [] (start N vs) H s1 := inv_start S hr.hd e0 hl r x
  refine wpAny_mono (ht [] s1 (start N vs) H _ I hq) (fun fl s' hs => ?_) fun e s' hs => hs
  have fin : ∀ {σ' : St} {H' : Hp} {v : V} {u : Value}, Inv (cxOf CX P w K mg base N qual scope f cdv A outer s H E) [] σ' H' s' → RelV v u → Q v H' → CE outer P w H s Q u s' :=
    fun {σ' H' v u} J rv q => ⟨v, H', J.os, J.bare, J.base, J.hok, rv, q⟩
  cases fl with
  | ret u =>
    obtain ⟨v, σ', H', J, rv, q⟩ := hs
    exact fin J rv q
  | next =>
    obtain ⟨σ', H', J, q⟩ := hs
    exact fin (v := V.non) (u := Value.none) J rfl q
  | brk =>
    obtain ⟨_, _, _, q⟩ := hs
    exact False.elim q
  | cont =>
    obtain ⟨_, _, _, q⟩ := hs
    exact False.elim q
end L2

namespace L2
open PySem PySem.Spec PyProof.Rows
section
variable {X : Cx} {x : Str} {p pos : Pos} {e : Expr} {es : List Expr} {t : TA} {id T : String} {r : List V → Hp → VK → Prop}

def tCB (r : List V → Hp → VK → Prop) (t : TA) : TE := fun σ H Q => t σ H fun vs H1 => r vs H1 Q
/-- f(e, ..), f a built-in function -/
theorem pe_callB (hc : CallR X (.builtin id) r) (hg : Gl X x) (hm : X.mg x = none) (hv : bootBuiltins x = some (.builtin id)) (ha : PA X (e :: es) t) (hn : x ≠ "__name__" := by decide) (hdb : (x == ("__debug__" : Str)) = false := by decide)
    (he : starEach (e :: es) X.env = (false, eval e X.env) :: starEach es X.env := by rfl) (hpl : (backTo pos (starEach es X.env)).any (·.1) = false := by rfl) : PE X (.Call (.Name x p) (e :: es) [] pos) (tCB r t) := by
  intro pins s σ H Q I h
  refine wpAny_Call_Name_kw (ld_blt I hg hm hv ?_ hn hdb)
  exact PyProof.Rows.callWith_builtin1 (thn (ha pos pins s σ H _ I h) fun us s1 ⟨vs, H1, I1, r1, q1⟩ => hc pins s1 σ H1 vs us Q I1 r1 q1) he hpl
/-- T(e, ..), T a built-in type -/
theorem pe_callTy (hc : CallR X (.type T) r) (hg : Gl X x) (hm : X.mg x = none) (hv : bootBuiltins x = some (.type T)) (ha : PA X (e :: es) t) (hn : x ≠ "__name__" := by decide) (hdb : (x == ("__debug__" : Str)) = false := by decide)
    (he : starEach (e :: es) X.env = (false, eval e X.env) :: starEach es X.env := by rfl) (hpl : (backTo pos (starEach es X.env)).any (·.1) = false := by rfl) : PE X (.Call (.Name x p) (e :: es) [] pos) (tCB r t) := by
  intro pins s σ H Q I h
  refine wpAny_Call_Name_kw (ld_blt I hg hm hv ?_ hn hdb)
  exact PyProof.Rows.callWith_type1 (thn (ha pos pins s σ H _ I h) fun us s1 ⟨vs, H1, I1, r1, q1⟩ => hc pins s1 σ H1 vs us Q I1 r1 q1) he hpl
/-- T() -/
theorem pe_callTy0 (hc : CallR X (.type T) r) (hg : Gl X x) (hm : X.mg x = none) (hv : bootBuiltins x = some (.type T)) (hn : x ≠ "__name__" := by decide) (hdb : (x == ("__debug__" : Str)) = false := by decide) :
    PE X (.Call (.Name x p) [] [] pos) (tCB r tNil) := by
  intro pins s σ H Q I h
  refine wpAny_Call_Name_kw (ld_blt I hg hm hv ?_ hn hdb)
  exact PyProof.Rows.callWith_type0 (hc pins s σ H [] [] Q I .nil h)
end
end L2

namespace HT
open PySem PyProof.Rows

/-- t < u of tuples of ints -/
def lexLt : List Int → List Int → Bool
  | [], [] => false
  | [], _ :: _ => true
  | _ :: _, [] => false
  | x :: xs, y :: ys => if x = y then lexLt xs ys else decide (x < y)
theorem lexLt_cons (x y : Int) (xs ys : List Int) : lexLt (x :: xs) (y :: ys) = if x = y then lexLt xs ys else decide (x < y) := rfl
theorem lexLt_nil_nil : lexLt [] [] = false := rfl
theorem lexLt_nil_cons (y : Int) (ys : List Int) : lexLt [] (y :: ys) = true := rfl
theorem lexLt_cons_nil (x : Int) (xs : List Int) : lexLt (x :: xs) [] = false := rfl

theorem eqAt_int (A : Around) (s : Shared) (a : Int) (t : Tok) (c : Int) (u : Tok) : ∃ e, SeqAt.EqAt A s (.int a t) (.int c u) e ∧ (e = true ↔ a = c) :=
  ⟨(a == c), SeqAt.EqAt.int_int a t c u, by simp⟩
theorem rcLt_int (A : Around) (s : Shared) (a : Int) (t : Tok) (c : Int) (u : Tok) (prog : Program) (w : World) (E : Value → Shared → Prop) (Q : Value → Shared → Prop) (h : Q (.bool (decide (a < c))) s) :
    wpAny (model prog w) A (richCompare .Lt (.int a t) (.int c u)) Q E s :=
  (PyProof.Rows.lt_int h : wpAny (model prog w) A (compareOp .Lt (.int a t) (.int c u)) Q E s)

section
open PySem.SeqAt
open PySem.AutoSeq1 (wpAny_loadPart')
open PySem.MeetsSeq PySem.MeetsSeq2 PySem.MeetsSeq3

theorem tuple_lt_ints (l b : Addr) (items items2 : Array Value) (n n2 : Nat) (dd dd2 : Option Addr) (sl sl2 : Array (Option Value)) (ns ms : List Int) (hi : IntsAre items.toList ns) (hj : IntsAre items2.toList ms) :
    Meets (Builtin.«tuple.__lt__» ⟨[.ref l, .ref b], []⟩)
      (fun _ R s => s.heap.get? l = some { cls := .type "tuple", dict := dd, data := .seq items n, slots := sl } ∧ s.heap.get? b = some { cls := .type "tuple", dict := dd2, data := .seq items2 n2, slots := sl2 } ∧
        R (.ok (.ret (.bool (lexLt ns ms)))) s) :=
  .of_wp fun prog w A R s h => by
    obtain ⟨hp, g, d, tk, os⟩ := s; obtain ⟨hl, hb, h⟩ := h
    have f2 := AutoSeq1.sub_tuple_tuple
    have z1 : items.size = ns.length := by rw [← hi.length]; simp
    have z2 : items2.size = ms.length := by rw [← hj.length]; simp
    wp_walk using wpAny_loadPart' hl, wpAny_loadPart' hb, wpAny_forIn_list _ (fun rest b s' => b.1 = none ∧ s' = ⟨hp, g, d, tk, os⟩ ∧ ∃ (vs ws : List Value) (ns' ms' : List Int), rest = vs.zip ws ∧
      IntsAre vs ns' ∧ IntsAre ws ms' ∧ ns'.length + items2.size = ms'.length + items.size ∧ R (.ok (.ret (.bool (lexLt ns' ms')))) ⟨hp, g, d, tk, os⟩) _
    case turn =>
      rintro ⟨y, x⟩ rest b s' ⟨hb', rfl, vs, ws, ns', ms', hz, hvi, hwi, hlen, hR⟩
      cases hvi with
      | nil => rw [List.zip_nil_left] at hz; cases hz
      | cons a t hvi' =>
        cases hwi with
        | nil => rw [List.zip_nil_right] at hz; cases hz
        | cons c u hwi' =>
          rw [List.zip_cons_cons] at hz
          injection hz with hyx hrest
          injection hyx with hy hx
          subst hy hx
          rw [lexLt_cons] at hR
          simp only [List.length_cons] at hlen
          obtain ⟨e, he, hiff⟩ := eqAt_int A.in1 ⟨hp, g, d, tk, os⟩ a t c u
          refine wpAny_bind (he prog w _ _ ?_)
          cases e with
          | true =>
            rw [if_pos (hiff.mp rfl)] at hR
            wp_walk
            exact ⟨rfl, rfl, _, _, _, _, hrest, hvi', hwi', by omega, hR⟩
          | false =>
            rw [if_neg (fun q => absurd (hiff.mpr q) Bool.false_ne_true)] at hR
            have hri := rcLt_int A.in1 ⟨hp, g, d, tk, os⟩ a t c u prog w
            wp_walk using hri
            exact ⟨_, rfl, by simpa using hR⟩
    case fin =>
      rintro ⟨b1, b2⟩ s' ⟨hb', rfl, vs, ws, ns', ms', hz, hvi, hwi, hlen, hR⟩
      simp only at hb'
      subst hb'
      have hv : lexLt ns' ms' = decide (items.size < items2.size) := by
        cases hvi with
        | nil =>
          cases hwi with
          | nil =>
            simp only [List.length_nil] at hlen
            rw [lexLt_nil_nil]
            exact (decide_eq_false (by omega)).symm
          | cons c u hw =>
            simp only [List.length_nil, List.length_cons] at hlen
            rw [lexLt_nil_cons]
            exact (decide_eq_true (by omega)).symm
        | cons a t hv =>
          cases hwi with
          | nil =>
            simp only [List.length_nil, List.length_cons] at hlen
            rw [lexLt_cons_nil]
            exact (decide_eq_false (by omega)).symm
          | cons c u hw =>
            rw [List.zip_cons_cons] at hz
            cases hz
      rw [hv] at hR
      wp_walk
      exact ⟨_, rfl, by simpa [Builtin.Tuple.tupleCompareSizes] using hR⟩
    case h =>
      exact ⟨rfl, rfl, items.toList, items2.toList, ns, ms, rfl, hi, hj, by omega, h⟩
end

section
variable {prog : Program} {w : World} {A : Around} {E : Value → Shared → Prop} {s : Shared}

theorem lt_tupInts {l b : Addr} {items items2 : Array Value} {ns ms : List Int} {Q : Value → Shared → Prop} (hl : IsTup s.heap l items) (hb : IsTup s.heap b items2) (hi : IntsAre items.toList ns) (hj : IntsAre items2.toList ms)
    (hu : A.units < cLine) (h : Q (.bool (lexLt ns ms)) s) : wpAny (model prog w) A (compareOp .Lt (.ref l) (.ref b)) Q E s := by
  obtain ⟨⟨cls, dd, data, sl⟩, ho, hc, n, hd⟩ := id hl
  obtain ⟨⟨cls2, dd2, data2, sl2⟩, ho2, hc2, n2, hd2⟩ := id hb
  simp only at hc hd hc2 hd2
  subst hc hd hc2 hd2
  exact richCompare_meets_room (op := .Lt) ⟨_, ho, rfl⟩ ⟨_, ho2, rfl⟩ PySem.F.slot_tuple_lt PySem.F.entry_tuple_lt (PySem.F.args_tuple_lt_2 _ _) (tuple_lt_ints l b items items2 n n2 dd dd2 sl sl2 ns ms hi hj)
    ⟨ho, ho2, show Value.bool (lexLt ns ms) ≠ Value.notImplemented ∧ Q (.bool (lexLt ns ms)) s from ⟨(fun x => nomatch x), h⟩⟩ hu

/-- t + u, t not empty -/
theorem cat_tup {t b : Addr} {vs ws : List Value} {Q : Value → Shared → Prop} (ht : IsTup s.heap t vs.toArray) (hb : IsTup s.heap b ws.toArray) (hv : vs ≠ [])
    (h1 : ws = [] → Q (.ref t) s) (h2 : ws ≠ [] → Q (.ref s.heap.objs.size) { s with heap := s.heap.push { cls := .type "tuple", data := .seq (vs ++ ws).toArray } })
    (hsz : vs.length + ws.length ≤ sizeLine) : wpAny (model prog w) A (binaryOp .Add (.ref t) (.ref b)) Q E s := by
  obtain ⟨⟨cls, dd, data, sl⟩, ho, hc, n, hd⟩ := id ht
  obtain ⟨⟨cls2, dd2, data2, sl2⟩, ho2, hc2, n2, hd2⟩ := id hb
  simp only at hc hd hc2 hd2
  subst hc hd hc2 hd2
  have e : vs.toArray ++ ws.toArray = (vs ++ ws).toArray := by simp
  by_cases hw : ws = []
  · exact concat_meets ⟨_, ho, rfl⟩ ⟨_, ho2, rfl⟩ noFill_tuple_add seq_tuple_add PySem.F.slot_tuple_add PySem.F.entry_tuple_add (PySem.F.args_tuple_add_2 _ _)
      (tuple_addW1 t b vs.toArray ws.toArray n n2 dd dd2 sl sl2 (by simpa using hv) (by simp [hw])) ⟨ho, ho2, h1 hw⟩
  · refine concat_meets ⟨_, ho, rfl⟩ ⟨_, ho2, rfl⟩ noFill_tuple_add seq_tuple_add PySem.F.slot_tuple_add PySem.F.entry_tuple_add (PySem.F.args_tuple_add_2 _ _)
      (tuple_addW2 t b vs.toArray ws.toArray n n2 dd dd2 sl sl2 (by simpa using hv) (by simpa using hw) (by rw [List.size_toArray, List.size_toArray]; exact hsz)) ⟨ho, ho2, ?_⟩
    rw [e]
    exact h2 hw

/-! ### t[a:b], not the whole -/
/-- a slice's bound as a place among n (d where it is left out) -/
def sIx (n d : Nat) : Option Int → Nat
  | none => d
  | some v => if v < 0 then (v + (n : Int)).toNat else min v.toNat n
theorem sIx_none (n d : Nat) : sIx n d none = d := rfl
theorem sIx_nat (n d k : Nat) : sIx n d (some (k : Int)) = min k n := by
  show (if (k : Int) < 0 then ((k : Int) + (n : Int)).toNat else min (k : Int).toNat n) = min k n
  rw [if_neg (by omega), Int.toNat_natCast]
theorem sIx_le (n d : Nat) (hd : d ≤ n) (o : Option Int) : sIx n d o ≤ n := by
  cases o with
  | none => exact hd
  | some v =>
    show (if v < 0 then (v + (n : Int)).toNat else min v.toNat n) ≤ n
    by_cases hv : v < 0
    · rw [if_pos hv]; omega
    · rw [if_neg hv]; exact Nat.min_le_right _ _
theorem clip_eq (v : Int) (n d : Nat) : (if v < 0 then max (v + (n : Int)) 0 else min v (n : Int)) = ((sIx n d (some v) : Nat) : Int) := by
  show (if v < 0 then max (v + (n : Int)) 0 else min v (n : Int)) = (((if v < 0 then (v + (n : Int)).toNat else min v.toNat n) : Nat) : Int)
  by_cases hv : v < 0
  · simp only [if_pos hv]; omega
  · simp only [if_neg hv]; omega
theorem adjust_gen (lo hi : Option Int) (n : Nat) : Builtin.Slice.sliceAdjust lo hi 1 (n : Int) = (((sIx n 0 lo : Nat) : Int), ((sIx n n hi : Nat) : Int)) := by
  have h1 : ¬ ((1 : Int) < 0) := by omega
  unfold Builtin.Slice.sliceAdjust
  simp only [h1, if_false]
  refine Prod.ext ?_ ?_
  · cases lo with
    | none => rfl
    | some v => exact clip_eq v n 0
  · cases hi with
    | none => rfl
    | some v => exact clip_eq v n n
theorem places_gen (i j : Nat) : Builtin.Slice.slicePlaces (i : Int) (j : Int) 1 = j - i := by
  unfold Builtin.Slice.slicePlaces
  have h1 : (1 : Int) > 0 := by omega
  simp only [h1, if_true, Int.ediv_one]
  split <;> omega
theorem slicePart_ {v : Value} {o : Option Int} {Q : Option Int → Shared → Prop} (p : IsPart v o) (h : Q o s) : wpAny (model prog w) A (Builtin.Slice.slicePartIndex v) Q E s := by
  cases p with
  | none => exact slicePart_none h
  | int i t => exact slicePart_int h
theorem sliceApplied_gen {sl : Addr} {vl vu : Value} {lo hi : Option Int} {n : Nat} {Q : Int × Int × Nat → Shared → Prop} (hs : s.heap.IsSliceOf sl vl vu .none) (pl : IsPart vl lo) (pu : IsPart vu hi)
    (h : Q (((sIx n 0 lo : Nat) : Int), 1, sIx n n hi - sIx n 0 lo) s) : wpAny (model prog w) A (Builtin.Slice.sliceApplied (.ref sl) (pure (n : Int))) Q E s := by
  obtain ⟨os, hos, hcs, hds⟩ := id hs
  unfold Builtin.Slice.sliceApplied Builtin.Slice.sliceFields
  refine wpAny_bind (wpAny_bind (wpAny_field hos hds (x := vl) rfl (wpAny_bind (wpAny_field hos hds (x := vu) rfl (wpAny_bind (wpAny_field hos hds (x := .none) rfl (wpAny_pure ?_)))))))
  refine wpAny_bind (slicePart_none ?_)
  show wpAny _ _ (if ((1 : Int) == 0) = true then _ else _) _ _ s
  rw [if_neg (by decide)]
  refine wpAny_bind (slicePart_ pl (wpAny_bind (slicePart_ pu (wpAny_bind (wpAny_pure ?_)))))
  show wpAny _ _ (match Builtin.Slice.sliceAdjust lo hi 1 (n : Int) with | (lo, hi) => pure (lo, (1 : Int), Builtin.Slice.slicePlaces lo hi 1)) _ _ s
  rw [adjust_gen lo hi n]
  show wpAny _ _ (pure (((sIx n 0 lo : Nat) : Int), (1 : Int), Builtin.Slice.slicePlaces ((sIx n 0 lo : Nat) : Int) ((sIx n n hi : Nat) : Int) 1)) _ _ s
  rw [places_gen]
  exact wpAny_pure h
theorem pick_gen (xs : Array Value) (i k : Nat) : ((List.range k).filterMap fun (m : Nat) => xs[((i : Int) + (m : Int) * 1).toNat]?).toArray = ((xs.toList.drop i).take k).toArray := by
  have e : (fun (m : Nat) => xs[((i : Int) + (m : Int) * 1).toNat]?) = fun m => xs[i + m]? := by
    funext m
    have : ((i : Int) + (m : Int) * 1).toNat = i + m := by omega
    rw [this]
  rw [e]
  have := pick_run xs i k
  rw [List.filterMap_map] at this
  have e2 : ((fun x => xs[x]?) ∘ fun x => i + x) = fun m => xs[i + m]? := rfl
  rw [e2] at this
  rw [this]

theorem getItem_tuple_cut {t sl : Addr} {items : Array Value} {vl vu : Value} {lo hi : Option Int} {Q : Value → Shared → Prop} (ht : IsTup s.heap t items) (hs : s.heap.IsSliceOf sl vl vu .none) (pl : IsPart vl lo) (pu : IsPart vu hi)
    (hw : ¬ (sIx items.size 0 lo = 0 ∧ sIx items.size items.size hi = items.size))
    (h : Q (.ref s.heap.objs.size) { s with heap := s.heap.push { cls := .type "tuple", data := .seq ((items.toList.drop (sIx items.size 0 lo)).take (sIx items.size items.size hi - sIx items.size 0 lo)).toArray } })
    (hsz : items.size ≤ sizeLine) : wpAny (model prog w) A (getItem (.ref t) (.ref sl)) Q E s := by
  have htake : sizeOk (.seq ((items.toList.drop (sIx items.size 0 lo)).take (sIx items.size items.size hi - sIx items.size 0 lo)).toArray) := by
    show ((items.toList.drop (sIx items.size 0 lo)).take (sIx items.size items.size hi - sIx items.size 0 lo)).toArray.size ≤ sizeLine
    rw [List.size_toArray, List.length_take, List.length_drop, Array.length_toList]
    omega
  have hj : sIx items.size items.size hi ≤ items.size := sIx_le _ _ (Nat.le_refl _) hi
  obtain ⟨os, hos, hcs, hds⟩ := id hs
  have hTs : s.TypeIs (.ref sl) "slice" := ⟨os, hos, hcs⟩
  unfold getItem
  try with_reducible refine wpAny_holding ?_
  first | refine wpAny_bind (wpAny_pure ?_) | skip
  refine wpAny_bind (wpAny_sequenceKey ht.typeIs (by decide) ?_)
  refine wpAny_bind (wpAny_callSpecial?_slot (name := Str.ofString "__getitem__") ht.typeIs PyProof.Rows.slot_tuple_getitem
    (wpAny_call_entry PyProof.Rows.slot_tuple_getitem ht.typeIs entry_tuple_getitem ?_ (args_tuple_getitem _ _)))
  show wpAny _ _ (Builtin.Tuple.tupleItemsOf (.ref t) >>= _) _ _ s
  refine wpAny_bind (tupleItemsOf_ ht ?_)
  refine wpAny_bind (wpAny_typeOf hTs ?_)
  rw [if_pos (by decide)]
  refine wpAny_bind (sliceApplied_gen hs pl pu ?_)
  have hno : ¬ ((((sIx items.size 0 lo : Nat) : Int) == 0 && (1 : Int) == 1 && (sIx items.size items.size hi - sIx items.size 0 lo) == items.size) = true) := by
    intro q
    rw [Bool.and_eq_true, Bool.and_eq_true] at q
    have q1 : ((sIx items.size 0 lo : Nat) : Int) = 0 := eq_of_beq q.1.1
    have q2 : sIx items.size items.size hi - sIx items.size 0 lo = items.size := eq_of_beq q.2
    exact hw ⟨by omega, by omega⟩
  show wpAny _ _ (if (((sIx items.size 0 lo : Nat) : Int) == 0 && (1 : Int) == 1 && (sIx items.size items.size hi - sIx items.size 0 lo) == items.size) = true then _ else _) _ _ s
  rw [if_neg hno, pick_gen]
  first
    | exact wpAny_bind (m := Builtin.Tuple.tupleExact _) (wpAny_newObj_type (wpAny_pure ⟨_, rfl, wpAny_pure h⟩) htake)
    | exact wpAny_bind (m := Builtin.Tuple.tupleExact _) (wpAny_newObj_type (wpAny_bind (wpAny_pure (wpAny_pure ⟨_, rfl, wpAny_pure h⟩))) htake)
    | exact wpAny_bind (wpAny_bind (m := Builtin.Tuple.tupleExact _) (wpAny_newObj_type (wpAny_pure (wpAny_pure ⟨_, rfl, wpAny_pure h⟩)) htake))
    | exact wpAny_bind (wpAny_bind (m := Builtin.Tuple.tupleExact _) (wpAny_newObj_type (wpAny_pure ⟨_, rfl, wpAny_pure h⟩) htake))
end
end HT

namespace L2
open PySem PySem.Spec PyProof.Rows

/-! ### the parts of a slice -/
abbrev TO := St → Hp → (Option Int → Hp → Prop) → Prop
/-- a slice's part (left out, or an int) -/
def PO (X : Cx) (e : Option Expr) (t : TO) : Prop :=
  ∀ (pins : List (Addr × Obj)) (s : Shared) (σ : St) (H : Hp) (Q : Option Int → Hp → Prop), Inv X pins σ H s → t σ H Q →
    wpAny (model X.prog X.w) X.A (evalPart e X.env) (fun u s' => ∃ o H', Inv X pins σ H' s' ∧ IsPart u o ∧ Q o H') X.xe s
def tNoPart : TO := fun _ H Q => Q none H
def tPart (t : TE) : TO := fun σ H Q => t σ H fun x H1 => ∃ i, x = .int i ∧ Q (some i) H1

theorem intsAre_of {ns : List Int} : ∀ {us : List Value}, Vals (ns.map V.int) us → IntsAre us ns := by
  induction ns with
  | nil => intro us r; rw [List.map_nil] at r; cases r; exact .nil
  | cons n ns ih =>
    intro us r
    rw [List.map_cons] at r
    cases r with
    | cons r1 r2 =>
      obtain ⟨t, e⟩ := r1
      subst e
      exact .cons n t (ih r2)

section
variable {X : Cx} {e : Expr} {te : TE} {lo hi : Option Expr} {tl th : TO} {pos p2 : Pos}

theorem po_none : PO X none tNoPart := by
  intro pins s σ H Q I h
  rw [evalPart_none]
  exact wpAny_pure ⟨none, H, I, .none, h⟩
theorem po_some (h : PE X e te) : PO X (some e) (tPart te) := by
  intro pins s σ H Q I hw
  rw [evalPart_some]
  refine thn (h pins s σ H _ I hw) fun u s1 ⟨x, H1, I1, r1, q1⟩ => ?_
  obtain ⟨i, rfl, q⟩ := q1
  obtain ⟨t, rfl⟩ := r1
  exact ⟨some i, H1, I1, .int i t, q⟩

/-- what a slice of a value is, by values: the slice object stands at sl -/
def SlR (X : Cx) (r : V → Option Int → Option Int → Hp → VK → Prop) : Prop :=
  ∀ (pins : List (Addr × Obj)) (s : Shared) (σ : St) (H : Hp) (x : V) (v vl vu : Value) (lo hi : Option Int) (sl : Addr) (Q : VK), Inv X pins σ H s → RelV x v → s.heap.IsSliceOf sl vl vu .none → IsPart vl lo → IsPart vu hi → r x lo hi H Q →
    ∃ T id, typeLookup (.type T) "__getitem__" = pure (some (.builtin id)) ∧ s.TypeIs v T ∧ wpAny (model X.prog X.w) X.A (getItem v (.ref sl)) (EP X pins σ Q) X.xe s
theorem SlR.or {r r' : V → Option Int → Option Int → Hp → VK → Prop} (h : SlR X r) (h' : SlR X r') : SlR X (fun x lo hi H Q => r x lo hi H Q ∨ r' x lo hi H Q) := by
  intro pins s σ H x v vl vu lo hi sl Q I rx hs pl pu q
  rcases q with q | q
  · exact h pins s σ H x v vl vu lo hi sl Q I rx hs pl pu q
  · exact h' pins s σ H x v vl vu lo hi sl Q I rx hs pl pu q
def tSl (r : V → Option Int → Option Int → Hp → VK → Prop) (te : TE) (tl th : TO) : TE := fun σ H Q => te σ H fun x H1 => tl σ H1 fun l H2 => th σ H2 fun u H3 => r x l u H3 Q
/-- a[lo:hi], any a -/
theorem pe_slice {r : V → Option Int → Option Int → Hp → VK → Prop} (hr : SlR X r) (he : PE X e te) (hl : PO X lo tl) (hu : PO X hi th) : PE X (.Subscript e (.Slice lo hi none p2) pos) (tSl r te tl th) := by
  intro pins s σ H Q I h
  refine Subscript_ (thn (he pins s σ H _ I h) fun v s1 ⟨x, H1, I1, r1, q1⟩ => ?_)
  refine wpAny_Slice (thn (hl pins s1 σ H1 _ I1 q1) fun vl s2 ⟨l, H2, I2, pl, q2⟩ => thn (hu pins s2 σ H2 _ I2 q2) fun vu s3 ⟨u, H3, I3, pu, q3⟩ => ?_)
  rw [evalPart_none]
  refine wpAny_pure ?_
  have I4 : Inv X pins σ H3 { s3 with heap := s3.heap.push { cls := .type "slice", data := .fields #[vl, vu, .none] } } := I3.kept (t' := s3.toks) fun b ob q => Heap.get?_push_of_some _ q
  obtain ⟨T, id, hT, ht, hg⟩ := hr pins { s3 with heap := s3.heap.push { cls := .type "slice", data := .fields #[vl, vu, .none] } } σ H3 x v vl vu l u s3.heap.objs.size Q I4 r1 (Heap.IsSliceOf.new ..) pl pu q3
  show wpAny (model X.prog X.w) X.A (subscriptTail e (.Slice lo hi none p2) v (.ref s3.heap.objs.size)) (EP X pins σ Q) X.xe { s3 with heap := s3.heap.push { cls := .type "slice", data := .fields #[vl, vu, .none] } }
  exact tail_any (ops := [.ref s3.heap.objs.size, v]) ht hT hg (by with_unfolding_all rfl)

/-- the items of xs[lo:hi] -/
def cutV (xs : List V) (lo hi : Option Int) : List V := (xs.drop (HT.sIx xs.length 0 lo)).take (HT.sIx xs.length xs.length hi - HT.sIx xs.length 0 lo)
theorem cutV_length (xs : List V) (lo hi : Option Int) : (cutV xs lo hi).length ≤ xs.length := by
  unfold cutV
  rw [List.length_take, List.length_drop]
  omega
/-- t[lo:hi], not the whole of it (the whole would be t itself) -/
def rSlT (K : PySem.W.Frag) : V → Option Int → Option Int → Hp → VK → Prop := fun x lo hi H Q => ∃ a xs, x = .ref a ∧ SqT K H a xs ∧
  ¬ (HT.sIx xs.length 0 lo = 0 ∧ HT.sIx xs.length xs.length hi = xs.length) ∧ ∀ p, H p = none → Q (.ref p) (upd H p (.tup (cutV xs lo hi)))
theorem sl_tup : SlR X (rSlT X.K) := by
  intro pins s σ H x v vl vu lo hi sl Q I rx hs pl pu h
  obtain ⟨a, xs, rfl, hx, hw, q⟩ := h
  cases rx
  obtain ⟨its, r, ht, hz⟩ := I.tuple hx
  have hlen : its.toArray.size = xs.length := by rw [List.size_toArray]; exact r.length.symm
  refine ⟨"tuple", _, PyProof.Rows.slot_tuple_getitem.lookup, ht.typeIs, ?_⟩
  refine HT.getItem_tuple_cut ht hs pl pu (by rw [hlen]; exact hw) ?_ (by rw [hlen]; exact hz)
  rw [hlen]
  refine ⟨.ref s.heap.objs.size, _, I.laid (t' := s.toks) (o := .tup (cutV xs lo hi)) (fun b ob q => Heap.get?_push_of_some _ q) (Nat.le_refl _) ?_, rfl, q _ (I.hok.fresh (Nat.le_refl _))⟩
  exact ⟨Nat.le_trans (cutV_length xs lo hi) hz, _, (r.drop (HT.sIx xs.length 0 lo)).take (HT.sIx xs.length xs.length hi - HT.sIx xs.length 0 lo), IsTup.new _ _⟩

/-! ### t < u, t + u -/
def rLtT (K : PySem.W.Frag) : R2 := fun x y H Q => ∃ a b ns ms, x = .ref a ∧ y = .ref b ∧ SqT K H a (ns.map V.int) ∧ SqT K H b (ms.map V.int) ∧ Q (.bl (HT.lexLt ns ms)) H
theorem op_ltT (hu : X.A.units < cLine) : OpR X (compareOp .Lt) (rLtT X.K) := by
  intro pins s σ H x y v u Q I rx ry h
  obtain ⟨a, b, ns, ms, rfl, rfl, ha, hb, q⟩ := h
  cases rx
  cases ry
  obtain ⟨its, r1, p1, _⟩ := I.tuple ha
  obtain ⟨its2, r2, p2, _⟩ := I.tuple hb
  have i1 : IntsAre its.toArray.toList ns := intsAre_of r1
  have i2 : IntsAre its2.toArray.toList ms := intsAre_of r2
  exact HT.lt_tupInts p1 p2 i1 i2 hu ⟨.bl (HT.lexLt ns ms), H, I, rfl, q⟩
/-- t + u, t not empty: u empty gives t itself -/
def rCatT (K : PySem.W.Frag) : R2 := fun x y H Q => ∃ a b xs ys, x = .ref a ∧ y = .ref b ∧ SqT K H a xs ∧ SqT K H b ys ∧ xs ≠ [] ∧ xs.length + ys.length ≤ sizeLine ∧
  (ys = [] → Q (.ref a) H) ∧ (ys ≠ [] → ∀ p, H p = none → Q (.ref p) (upd H p (.tup (xs ++ ys))))
theorem Vals.nil_iff {xs : List V} {us : List Value} (r : Vals xs us) : us = [] ↔ xs = [] := by
  cases r with
  | nil => simp
  | cons _ _ => simp
theorem op_catT : OpR X (binaryOp .Add) (rCatT X.K) := by
  intro pins s σ H x y v u Q I rx ry h
  obtain ⟨a, b, xs, ys, rfl, rfl, ha, hb, hx, hz, q1, q2⟩ := h
  cases rx
  cases ry
  obtain ⟨its, r1, p1, _⟩ := I.tuple ha
  obtain ⟨its2, r2, p2, _⟩ := I.tuple hb
  refine HT.cat_tup p1 p2 (fun z => hx (r1.nil_iff.mp z)) (fun z => ⟨.ref a, H, I, rfl, q1 (r2.nil_iff.mp z)⟩) (fun z => ?_) (by rw [← r1.length, ← r2.length]; exact hz)
  refine ⟨.ref s.heap.objs.size, _, I.laid (t' := s.toks) (o := .tup (xs ++ ys)) (fun b ob q => Heap.get?_push_of_some _ q) (Nat.le_refl _) ?_, rfl, q2 (fun w => z (r2.nil_iff.mpr w)) _ (I.hok.fresh (Nat.le_refl _))⟩
  exact ⟨by rw [List.length_append]; exact hz, _, r1.append r2, IsTup.new _ _⟩
/-- tuple(t) -/
theorem call_tupleT : CallR X (.type "tuple") (fun xs H Q => ∃ a ys, xs = [.ref a] ∧ SqT X.K H a ys ∧ Q (.ref a) H) := by
  intro pins s σ H xs us Q I r h
  obtain ⟨a, ys, rfl, ha, q⟩ := h
  obtain ⟨u, rfl, ru⟩ := vals1 r
  cases ru
  obtain ⟨its, _, p1, _⟩ := I.tuple ha
  exact call_tuple_same (items := its.toArray) p1 ⟨.ref a, H, I, rfl, q⟩
end
end L2

namespace L2
open PySem PySem.Spec PyProof.Rows

/-! ### places -/
/-- the place that an index of any sign means -/
def ixN (n : Nat) (i : Int) : Option Nat := if 0 ≤ i then (if i < n then some i.toNat else none) else if -(n : Int) ≤ i then some (i + n).toNat else none
def atI {α : Type} (xs : List α) (i : Int) : Option α := (ixN xs.length i).bind fun j => xs[j]?
theorem ixN_seq {n : Nat} {i : Int} {j : Nat} (h : ixN n i = some j) : seqIndex? i n = some j ∧ j < n ∧ -(n : Int) ≤ i ∧ i < n := by
  unfold ixN at h
  by_cases h0 : 0 ≤ i
  · rw [if_pos h0] at h
    by_cases h1 : i < n
    · rw [if_pos h1] at h
      have e : i.toNat = j := Option.some.inj h
      exact ⟨by rw [seqIndex_of h0 h1, e], by omega, by omega, h1⟩
    · rw [if_neg h1] at h; cases h
  · rw [if_neg h0] at h
    by_cases h1 : -(n : Int) ≤ i
    · rw [if_pos h1] at h
      have e : (i + n).toNat = j := Option.some.inj h
      exact ⟨by rw [seqIndex_neg (by omega) h1, e], by omega, h1, by omega⟩
    · rw [if_neg h1] at h; cases h
theorem atI_get {α : Type} {xs : List α} {i : Int} {v : α} (h : atI xs i = some v) : ∃ j, seqIndex? i xs.length = some j ∧ xs[j]? = some v ∧ j < xs.length ∧ -(xs.length : Int) ≤ i ∧ i < xs.length := by
  unfold atI at h
  cases e : ixN xs.length i with
  | none => rw [e] at h; cases h
  | some j =>
    rw [e] at h
    obtain ⟨h1, h2, h3, h4⟩ := ixN_seq e
    exact ⟨j, h1, h, h2, h3, h4⟩
theorem atI_nat {α : Type} {xs : List α} {j : Nat} {v : α} (h : xs[j]? = some v) : atI xs (j : Int) = some v := by
  have hj : j < xs.length := (List.getElem?_eq_some_iff.mp h).1
  have e : ixN xs.length (j : Int) = some j := by
    unfold ixN
    rw [if_pos (by omega), if_pos (by omega)]; simp
  unfold atI; rw [e]; exact h
theorem atI_last {α : Type} (xs : List α) (v : α) : atI (xs ++ [v]) (-1) = some v := by
  have hl : (xs ++ [v]).length = xs.length + 1 := by simp
  have e : ixN (xs ++ [v]).length (-1) = some xs.length := by
    unfold ixN
    rw [hl, if_neg (by decide), if_pos (by omega)]
    congr 1
    omega
  unfold atI
  rw [e]
  show (xs ++ [v])[xs.length]? = some v
  simp

/-! ### what may be subscripted -/
/-- what stands as an index of a plain subscript -/
def PlainIx (b : Expr) : Prop := ∀ o i, subscripted b false o i = operate [o, i] (getItem o i)
/-- a subscript by values -/
def IxR (X : Cx) (r : R2) : Prop :=
  ∀ (value slice : Expr) (pins : List (Addr × Obj)) (s : Shared) (σ : St) (H : Hp) (x y : V) (v u : Value) (Q : VK), Inv X pins σ H s → RelV x v → RelV y u → r x y H Q →
    subscripted slice false v u = operate [v, u] (getItem v u) → wpAny (model X.prog X.w) X.A (subscriptTail value slice v u) (EP X pins σ Q) X.xe s
/-- a call of a builtin's method by values: the receiver, the arguments -/
def MtR (X : Cx) (id : String) (r : V → List V → Hp → VK → Prop) : Prop :=
  ∀ (pins : List (Addr × Obj)) (s : Shared) (σ : St) (H : Hp) (x : V) (xs : List V) (v : Value) (us : List Value) (Q : VK), Inv X pins σ H s → RelV x v → Vals xs us → r x xs H Q →
    wpAny (model X.prog X.w) X.A (call (.builtin id) (v :: us)) (EP X pins σ Q) X.xe s
section
variable {X : Cx} {a b : Expr} {ta tb : TE} {pos : Pos}
theorem IxR.or {r r' : R2} (h : IxR X r) (h' : IxR X r') : IxR X (fun x y H Q => r x y H Q ∨ r' x y H Q) := by
  intro value slice pins s σ H x y v u Q I rx ry q hs
  rcases q with q | q
  · exact h value slice pins s σ H x y v u Q I rx ry q hs
  · exact h' value slice pins s σ H x y v u Q I rx ry q hs
theorem MtR.or {id : String} {r r' : V → List V → Hp → VK → Prop} (h : MtR X id r) (h' : MtR X id r') : MtR X id (fun x xs H Q => r x xs H Q ∨ r' x xs H Q) := by
  intro pins s σ H x xs v us Q I rx rs q
  rcases q with q | q
  · exact h pins s σ H x xs v us Q I rx rs q
  · exact h' pins s σ H x xs v us Q I rx rs q
/-- a[b] -/
theorem pe_ix {r : R2} (hr : IxR X r) (ha : PE X a ta) (hb : PE X b tb) (hs : PlainIx b) : PE X (.Subscript a b pos) (tOp r ta tb) := by
  intro pins s σ H Q I h
  exact Subscript_ (binT ha hb I h fun v u s2 x y H2 I2 rx ry q => hr a b pins s2 σ H2 x y v u Q I2 rx ry q (hs _ _))

def rIxL (K : PySem.W.Frag) : R2 := fun x y H Q => ∃ p xs i v, x = .ref p ∧ y = .int i ∧ SqL K H p xs ∧ atI xs i = some v ∧ Q v H
def rIxT (K : PySem.W.Frag) : R2 := fun x y H Q => ∃ p xs i v, x = .ref p ∧ y = .int i ∧ SqT K H p xs ∧ atI xs i = some v ∧ Q v H
def rIxS : R2 := fun x y H Q => ∃ z i c, x = .str z ∧ y = .int i ∧ z.length ≤ sizeLine ∧ atI z.cps.toList i = some c ∧ Q (.str ⟨#[c]⟩) H
theorem ix_list : IxR X (rIxL X.K) := by
  intro value slice pins s σ H x y v u Q I rx ry h hs
  obtain ⟨p, xs, i, z, rfl, rfl, hq, he, q⟩ := h
  cases rx
  obtain ⟨t, rfl⟩ := ry
  obtain ⟨its, r, pl, hz⟩ := I.list hq
  obtain ⟨j, h1, h2, h3, h4, h5⟩ := atI_get he
  obtain ⟨w, ew, rw'⟩ := r.get h2
  have hl := r.length
  have hn := line63
  have fin : EP X pins σ Q w s := ⟨z, H, I, rw', q⟩
  by_cases h0 : 0 ≤ i
  · have hj : i.toNat = j := by
      rw [seqIndex_of h0 h5] at h1
      exact Option.some.inj h1
    exact item_listR pl.isList h0 (by omega) (by rw [hj]; simpa using ew) fin hs
  · have hj : (i + (its.toArray.size : Int)).toNat = j := by
      rw [seqIndex_neg (by omega) h4] at h1
      rw [List.size_toArray, ← hl]
      exact Option.some.inj h1
    exact subscriptTail_builtinR (x := w) pl.isList.typeIs slot_list_getitem.lookup
      (wpAny_getItem_list_neg (Q := fun r s' => r = w ∧ EP X pins σ Q r s') pl.isList (by omega) (by rw [List.size_toArray] <;> omega) (by omega) (by rw [hj]; simpa using ew) ⟨rfl, fin⟩) hs
theorem ix_tup : IxR X (rIxT X.K) := by
  intro value slice pins s σ H x y v u Q I rx ry h hs
  obtain ⟨p, xs, i, z, rfl, rfl, hq, he, q⟩ := h
  cases rx
  obtain ⟨t, rfl⟩ := ry
  obtain ⟨its, r, pl, hz⟩ := I.tuple hq
  obtain ⟨j, h1, h2, h3, h4, h5⟩ := atI_get he
  obtain ⟨w, ew, rw'⟩ := r.get h2
  have hl := r.length
  have hn := line63
  have fin : EP X pins σ Q w s := ⟨z, H, I, rw', q⟩
  exact subscriptTail_builtinR (x := w) pl.typeIs slot_tuple_getitem.lookup
    (getItem_tuple (j := j) (Q := fun r s' => r = w ∧ EP X pins σ Q r s') pl (by omega) (by omega) (by rw [List.size_toArray, ← hl]; exact h1) (by simpa using ew) ⟨rfl, fin⟩) hs
theorem ix_str : IxR X rIxS := by
  intro value slice pins s σ H x y v u Q I rx ry h hs
  obtain ⟨z, i, c, rfl, rfl, hz, he, q⟩ := h
  obtain ⟨t, rfl⟩ := rx
  obtain ⟨t', rfl⟩ := ry
  obtain ⟨j, h1, h2, h3, h4, h5⟩ := atI_get he
  have hl : z.cps.toList.length = z.length := by simp [Str.length]
  rw [hl] at h1 h4 h5
  have hn := line63
  exact tail_any (typeIs_str s z t) slot_str_getitem.lookup (getItem_str (c := c) (by
    have e1 : decide (i < -(2 ^ 63 : Int)) = false := decide_eq_false (by omega)
    have e2 : decide (i ≥ 2 ^ 63) = false := decide_eq_false (by omega)
    rw [e1, e2, Bool.or_false]) (by rw [h1]; simpa using h2) ⟨.str ⟨#[c]⟩, H, I.tok _, ⟨_, rfl⟩, q⟩) hs
/-- list, tuple or str -/
def rIx (K : PySem.W.Frag) : R2 := fun x y H Q => rIxL K x y H Q ∨ rIxT K x y H Q ∨ rIxS x y H Q
theorem ix_seq : IxR X (rIx X.K) := ix_list.or (ix_tup.or ix_str)

/-! ### xs[i] = v, any sign -/
/-- the list's object behind a store -/
theorem mapSeq_set (its : List Value) (n j : Nat) (u : Value) : Obj.mapSeq (·.setIfInBounds j u) { cls := .type "list", data := .seq its.toArray n } = { cls := .type "list", data := .seq (its.set j u).toArray n } := by
  simp [Obj.mapSeq]
theorem Inv.lst {pins : List (Addr × Obj)} {σ : St} {H : Hp} {s : Shared} {p : Addr} {xs : List V} (I : Inv X pins σ H s) (h : H p = some (.lst xs)) :
    ∃ (its : List Value) (n : Nat), Vals xs its ∧ s.heap.get? p = some { cls := .type "list", data := .seq its.toArray n } ∧ xs.length ≤ sizeLine := by
  obtain ⟨z, its, n, r, e⟩ := I.hok p _ h
  exact ⟨its, n, r, e, z⟩
/-- the list at p is written by an update of its object -/
theorem Inv.lstUpd {pins : List (Addr × Obj)} {σ : St} {H : Hp} {s : Shared} {p : Addr} {xs ys : List V} {its its' : List Value} {n n' : Nat} {f : Obj → Obj} (I : Inv X pins σ H s) (h : H p = some (.lst xs))
    (ho : s.heap.get? p = some { cls := .type "list", data := .seq its.toArray n }) (hf : f { cls := .type "list", data := .seq its.toArray n } = { cls := .type "list", data := .seq its'.toArray n' }) (r : Vals ys its') (hz : ys.length ≤ sizeLine) (t : Nat) :
    Inv X pins σ (upd H p (.lst ys)) { s with heap := s.heap.update p f, toks := t } := by
  have e : (s.heap.update p f).get? p = some { cls := .type "list", data := .seq its'.toArray n' } := by
    rw [Heap.get?_update_self f ho (by rw [hf] <;> rfl), hf]
  refine I.write (x := p) (e := p) (by rw [h]; trivial) (.inl rfl) (fun b u hb q => (Heap.get?_update_other _ _ (Ne.symm hb)).trans q) ⟨_, e⟩ ?_
  exact ⟨hz, its', n', r, e⟩
def rSetL : V → V → V → Hp → (Hp → Prop) → Prop := fun o i v H Q => ∃ p xs k j, o = .ref p ∧ i = .int k ∧ H p = some (.lst xs) ∧ ixN xs.length k = some j ∧ Q (upd H p (.lst (xs.set j v)))
theorem set_list : PSet X rSetL := by
  intro pins s σ H o i v ov iv u Q I ro ri rv h
  obtain ⟨p, xs, k, j, rfl, rfl, hp, hj, q⟩ := h
  cases ro
  obtain ⟨t, rfl⟩ := ri
  obtain ⟨its, n, r, ho, hz⟩ := I.lst hp
  obtain ⟨h1, h2, h3, h4⟩ := ixN_seq hj
  have hl := r.length
  have hn := line63
  have I' : Inv X pins σ (upd H p (.lst (xs.set j v))) { s with heap := s.heap.update p (Obj.mapSeq (·.setIfInBounds j u)) } :=
    I.lstUpd hp ho (mapSeq_set its n j u) (r.set rv j) (by rw [List.length_set]; exact hz) s.toks
  by_cases h0 : 0 ≤ k
  · have hk : k.toNat = j := by
      rw [seqIndex_of h0 h4] at h1
      exact Option.some.inj h1
    exact PySem.W.ki_setAt ho h0 (by omega) (by rw [List.size_toArray, ← hl]; exact h4) (by rw [hk]; exact ⟨_, I', q⟩)
  · have hk : (k + (its.toArray.size : Int)).toNat = j := by
      rw [seqIndex_neg (by omega) h3] at h1
      rw [List.size_toArray, ← hl]
      exact Option.some.inj h1
    exact PySem.W.ki_setBack ho (by omega) (by rw [List.size_toArray, ← hl]; exact h3) (by omega) (by rw [hk]; exact ⟨_, I', q⟩)

/-! ### slices -/
theorem slice_bounds (lo hi : Option Int) (n : Nat) : (sliceBounds lo hi none n).1 = ((HT.sIx n 0 lo : Nat) : Int) ∧ (sliceBounds lo hi none n).2.1 = ((HT.sIx n n hi : Nat) : Int) ∧ (sliceBounds lo hi none n).2.2 = 1 := by
  refine ⟨?_, ?_, rfl⟩
  · cases lo with
    | none => simp [sliceBounds, HT.sIx]
    | some i =>
      simp only [sliceBounds, HT.sIx, Option.getD_none, show (1 : Int) > 0 by decide, if_true]
      by_cases h : i < 0
      · simp only [h, if_true] <;> omega
      · simp only [h, if_false] <;> omega
  · cases hi with
    | none => simp [sliceBounds, HT.sIx]
    | some i =>
      simp only [sliceBounds, HT.sIx, Option.getD_none, show (1 : Int) > 0 by decide, if_true]
      by_cases h : i < 0
      · simp only [h, if_true] <;> omega
      · simp only [h, if_false] <;> omega
theorem slicePick_cut (its : List Value) (lo hi : Option Int) : slicePick its.toArray lo hi none = ((its.drop (HT.sIx its.length 0 lo)).take (HT.sIx its.length its.length hi - HT.sIx its.length 0 lo)).toArray := by
  obtain ⟨h1, h2, h3⟩ := slice_bounds lo hi its.toArray.size
  unfold slicePick
  rw [h1, h2, h3]
  simp only [sliceRange_one, pick_run, List.size_toArray] <;> rfl
/-- xs[lo:hi] of a list: a new list -/
def rSlL (K : PySem.W.Frag) : V → Option Int → Option Int → Hp → VK → Prop := fun x lo hi H Q => ∃ a xs, x = .ref a ∧ SqL K H a xs ∧ ∀ p, H p = none → Q (.ref p) (upd H p (.lst (cutV xs lo hi)))
theorem sl_list : SlR X (rSlL X.K) := by
  intro pins s σ H x v vl vu lo hi sl Q I rx hs pl pu h
  obtain ⟨a, xs, rfl, hx, q⟩ := h
  cases rx
  obtain ⟨its, r, ht, hz⟩ := I.list hx
  have hlen := r.length
  refine ⟨"list", _, slot_list_getitem.lookup, ht.isList.typeIs, ?_⟩
  refine wpAny_getItem_list_slice ht.isList hs pl pu .none (by simp) ?_ (by rw [List.size_toArray] <;> omega)
  rw [slicePick_cut, ← hlen]
  refine ⟨.ref s.heap.objs.size, _, I.laid (t' := s.toks) (o := .lst (cutV xs lo hi)) (fun b ob q => Heap.get?_push_of_some _ q) (Nat.le_refl _) ?_, rfl, q _ (I.hok.fresh (Nat.le_refl _))⟩
  exact ⟨Nat.le_trans (cutV_length xs lo hi) hz, _, 0, (r.drop (HT.sIx xs.length 0 lo)).take (HT.sIx xs.length xs.length hi - HT.sIx xs.length 0 lo), Heap.get?_push_size _ rfl⟩

/-! ### in, not in: flat items -/
def flatV : V → Bool
  | .non => true
  | .bl _ => true
  | .int _ => true
  | .str _ => true
  | _ => false
/-- == of flat values -/
def eqV : V → V → Bool
  | .non, .non => true
  | .bl a, .bl b => a == b
  | .bl a, .int b => (if a then 1 else 0) == b
  | .int a, .bl b => a == (if b then 1 else 0)
  | .int a, .int b => a == b
  | .str a, .str b => a == b
  | _, _ => false
theorem eqAt_V {A : Around} {s : Shared} {y x : V} {u v : Value} (ry : RelV y u) (rx : RelV x v) (fy : flatV y = true) (fx : flatV x = true) : SeqAt.EqAt A s u v (eqV y x) := by
  cases y with
  | non =>
    cases ry
    cases x with
    | non => cases rx; exact SeqAt.EqAt.same _
    | bl b => cases rx; exact SeqAt.EqAt.none_bool b
    | int b => obtain ⟨t, rfl⟩ := rx; exact SeqAt.EqAt.none_int b t
    | str b => obtain ⟨t, rfl⟩ := rx; exact SeqAt.EqAt.none_str b t
    | _ => exact absurd (show false = true from fx) Bool.false_ne_true
  | bl a =>
    cases ry
    cases x with
    | non => cases rx; exact SeqAt.EqAt.bool_none a
    | bl b => cases rx; exact SeqAt.EqAt.bool_bool a b
    | int b => obtain ⟨t, rfl⟩ := rx; exact SeqAt.EqAt.bool_int a b t
    | str b => obtain ⟨t, rfl⟩ := rx; exact SeqAt.EqAt.bool_str a b t
    | _ => exact absurd (show false = true from fx) Bool.false_ne_true
  | int a =>
    obtain ⟨t', rfl⟩ := ry
    cases x with
    | non => cases rx; exact SeqAt.EqAt.int_none a t'
    | bl b => cases rx; exact SeqAt.EqAt.int_bool a t' b
    | int b => obtain ⟨t, rfl⟩ := rx; exact SeqAt.EqAt.int_int a t' b t
    | str b => obtain ⟨t, rfl⟩ := rx; exact SeqAt.EqAt.int_str a t' b t
    | _ => exact absurd (show false = true from fx) Bool.false_ne_true
  | str a =>
    obtain ⟨t', rfl⟩ := ry
    cases x with
    | non => cases rx; exact SeqAt.EqAt.str_none a t'
    | bl b => cases rx; exact SeqAt.EqAt.str_bool a t' b
    | int b => obtain ⟨t, rfl⟩ := rx; exact SeqAt.EqAt.str_int a t' b t
    | str b => obtain ⟨t, rfl⟩ := rx; exact SeqAt.EqAt.str_str a t' b t
    | _ => exact absurd (show false = true from fx) Bool.false_ne_true
  | _ => exact absurd (show false = true from fy) Bool.false_ne_true
/-- the items' answers, read off the values (a value's own answer does not lean on its token) -/
def eqU (x : V) (u : Value) : Bool := match u with
  | .none => eqV .non x
  | .bool b => eqV (.bl b) x
  | .int i _ => eqV (.int i) x
  | .str z _ => eqV (.str z) x
  | _ => false
theorem eqU_of {x y : V} {u : Value} (r : RelV y u) (f : flatV y = true) : eqU x u = eqV y x := by
  cases y with
  | non => cases r; rfl
  | bl b => cases r; rfl
  | int i => obtain ⟨t, rfl⟩ := r; rfl
  | str z => obtain ⟨t, rfl⟩ := r; rfl
  | _ => exact absurd (show false = true from f) Bool.false_ne_true
theorem any_eqU {x : V} : ∀ {xs : List V} {us : List Value}, Vals xs us → xs.all flatV = true → us.any (eqU x) = xs.any fun y => eqV y x
  | _, _, .nil, _ => rfl
  | y :: xs, u :: us, .cons r t, f => by
    rw [List.all_cons, Bool.and_eq_true] at f
    rw [List.any_cons, List.any_cons, eqU_of r f.1, any_eqU t f.2]
theorem mem_eqAt {A : Around} {s : Shared} {x : V} {v : Value} (rx : RelV x v) (fx : flatV x = true) : ∀ {xs : List V} {us : List Value}, Vals xs us → xs.all flatV = true → ∀ u ∈ us, SeqAt.EqAt A s u v (eqU x u)
  | _, _, .nil, _ => fun u hu => by cases hu
  | y :: xs, u :: us, .cons r t, f => fun u' hu => by
    rw [List.all_cons, Bool.and_eq_true] at f
    rcases List.mem_cons.mp hu with rfl | hu
    · rw [eqU_of r f.1]; exact eqAt_V r rx f.1 fx
    · exact mem_eqAt rx fx t f.2 u' hu
def inV (x : V) (xs : List V) : Bool := xs.any fun y => eqV y x
/-- x in a list or tuple of flat items -/
def rIn (K : PySem.W.Frag) (neg : Bool) : R2 := fun x y H Q => ∃ p xs, y = .ref p ∧ (SqL K H p xs ∨ SqT K H p xs) ∧ flatV x = true ∧ xs.all flatV = true ∧ Q (.bl (if neg then !inV x xs else inV x xs)) H
theorem op_in_seq : OpR X (compareOp .In) (rIn X.K false) := by
  intro pins s σ H x y v u Q I rx ry h
  obtain ⟨p, xs, rfl, hq, fx, fs, q⟩ := h
  cases ry
  rcases hq with hq | hq
  · obtain ⟨its, r, pl, hz⟩ := I.list hq
    refine SeqAt.in_listAt (eqU x) pl.isList (fun w hw => mem_eqAt rx fx r fs w (by simpa using hw)) ⟨.bl _, H, I, rfl, ?_⟩
    rw [show its.toArray.any (eqU x) = its.any (eqU x) by simp, any_eqU r fs]
    exact q
  · obtain ⟨its, r, pl, hz⟩ := I.tuple hq
    refine SeqAt.in_tupleAt (eqU x) pl (fun w hw => mem_eqAt rx fx r fs w (by simpa using hw)) ⟨.bl _, H, I, rfl, ?_⟩
    rw [show its.toArray.any (eqU x) = its.any (eqU x) by simp, any_eqU r fs]
    exact q
theorem op_notIn_seq : OpR X (compareOp .NotIn) (rIn X.K true) := by
  intro pins s σ H x y v u Q I rx ry h
  obtain ⟨p, xs, rfl, hq, fx, fs, q⟩ := h
  cases ry
  rcases hq with hq | hq
  · obtain ⟨its, r, pl, hz⟩ := I.list hq
    refine SeqAt.notIn_listAt (eqU x) pl.isList (fun w hw => mem_eqAt rx fx r fs w (by simpa using hw)) ⟨.bl _, H, I, rfl, ?_⟩
    rw [show its.toArray.any (eqU x) = its.any (eqU x) by simp, any_eqU r fs]
    exact q
  · obtain ⟨its, r, pl, hz⟩ := I.tuple hq
    refine SeqAt.notIn_tupleAt (eqU x) pl (fun w hw => mem_eqAt rx fx r fs w (by simpa using hw)) ⟨.bl _, H, I, rfl, ?_⟩
    rw [show its.toArray.any (eqU x) = its.any (eqU x) by simp, any_eqU r fs]
    exact q
theorem op_notIn_str : OpR X (compareOp .NotIn) (fun x y H Q => ∃ i j, x = .str i ∧ y = .str j ∧ Q (.bl (!(!(Builtin.Str.occurrences j i 0 j.length 1).isEmpty))) H) := by
  intro pins s σ H x y v u Q I rx ry h
  obtain ⟨i, j, rfl, rfl, q⟩ := h
  obtain ⟨t, rfl⟩ := rx
  obtain ⟨t', rfl⟩ := ry
  exact notIn_str ⟨.bl _, H, I, rfl, q⟩

/-! ### len, list(x), tuple(x) of any list or tuple that is read -/
theorem call_len_seq : CallR X (.builtin "len") (fun xs H Q => ∃ p ys, xs = [.ref p] ∧ (SqL X.K H p ys ∨ SqT X.K H p ys) ∧ Q (.int ys.length) H) := by
  intro pins s σ H xs us Q I r h
  obtain ⟨p, ys, rfl, hq, q⟩ := h
  obtain ⟨u, rfl, rx⟩ := vals1 r
  cases rx
  have hn := line63
  rcases hq with hq | hq
  · obtain ⟨its, r', pl, hz⟩ := I.list hq
    have hlen := r'.length
    exact Calls.call_len_list pl.isList (by simp only [List.size_toArray] <;> omega) ⟨.int ys.length, H, I.tok _, ⟨s.toks + 1, by rw [List.size_toArray, hlen]⟩, q⟩
  · obtain ⟨its, r', pl, hz⟩ := I.tuple hq
    have hlen := r'.length
    exact len_tuple pl (by simp only [List.size_toArray] <;> omega) ⟨.int ys.length, H, I.tok _, ⟨s.toks + 1, by rw [List.size_toArray, hlen]⟩, q⟩
theorem call_len_str : CallR X (.builtin "len") (fun xs H Q => ∃ z, xs = [.str z] ∧ z.length ≤ sizeLine ∧ Q (.int z.length) H) := by
  intro pins s σ H xs us Q I r h
  obtain ⟨z, rfl, hz, q⟩ := h
  obtain ⟨u, rfl, t, rfl⟩ := vals1 r
  have hn := line63
  exact len_str (by omega) ⟨.int z.length, H, I.tok _, ⟨_, rfl⟩, q⟩
theorem CallR.or {f : Value} {r r' : List V → Hp → VK → Prop} (h : CallR X f r) (h' : CallR X f r') : CallR X f (fun xs H Q => r xs H Q ∨ r' xs H Q) := by
  intro pins s σ H xs us Q I rs q
  rcases q with q | q
  · exact h pins s σ H xs us Q I rs q
  · exact h' pins s σ H xs us Q I rs q
theorem call_list_of : CallR X (.type "list") (fun xs H Q => ∃ p ys, xs = [.ref p] ∧ (SqL X.K H p ys ∨ SqT X.K H p ys) ∧ ∀ l, H l = none → Q (.ref l) (upd H l (.lst ys))) := by
  intro pins s σ H xs us Q I r h
  obtain ⟨p, ys, rfl, hq, q⟩ := h
  obtain ⟨u, rfl, rx⟩ := vals1 r
  cases rx
  have fin : ∀ (its : List Value), Vals ys its → ys.length ≤ sizeLine → ∀ (h' : Heap) (c' : Nat), (∀ b o', s.heap.get? b = some o' → h'.get? b = some o') →
      h'.get? s.heap.objs.size = some { cls := .type "list", dict := none, data := .seq its.toArray c', slots := #[] } → EP X pins σ Q (.ref s.heap.objs.size) { s with heap := h' } := fun its r' hz h' c' kp e =>
    ⟨.ref s.heap.objs.size, _, I.laid (t' := s.toks) kp (Nat.le_refl _) (show ObjOk X.prog X.w _ h' _ (.lst ys) from ⟨hz, its, c', r', e⟩), rfl, q _ (I.hok.fresh (Nat.le_refl _))⟩
  rcases hq with hq | hq
  · obtain ⟨its, r', pl, hz⟩ := I.list hq
    have hlen := r'.length
    obtain ⟨o, ho, hc, n, hd⟩ := pl.isList
    exact call_list_seq p (.inl rfl) ho hc hd (fun h' c' kp e => fin its r' hz h' c' kp e) (by simp only [List.size_toArray] <;> omega)
  · obtain ⟨its, r', pl, hz⟩ := I.tuple hq
    have hlen := r'.length
    obtain ⟨o, ho, hc, n, hd⟩ := pl
    exact call_list_seq p (.inr rfl) ho hc hd (fun h' c' kp e => fin its r' hz h' c' kp e) (by simp only [List.size_toArray] <;> omega)
theorem call_tuple_of : CallR X (.type "tuple") (fun xs H Q => ∃ p ys, xs = [.ref p] ∧ ((SqL X.K H p ys ∧ ∀ l, H l = none → Q (.ref l) (upd H l (.tup ys))) ∨ (SqT X.K H p ys ∧ Q (.ref p) H))) := by
  intro pins s σ H xs us Q I r h
  obtain ⟨p, ys, rfl, h⟩ := h
  obtain ⟨u, rfl, rx⟩ := vals1 r
  cases rx
  rcases h with ⟨hq, q⟩ | ⟨hq, q⟩
  · obtain ⟨its, r', pl, hz⟩ := I.list hq
    have hlen := r'.length
    refine call_tuple_list pl.isList (fun h' kp => ?_) (by simp only [List.size_toArray] <;> omega)
    have I1 : Inv X pins σ H { s with heap := h' } := I.kept (t' := s.toks) kp
    have I2 : Inv X pins σ (upd H h'.objs.size (.tup ys)) { s with heap := h'.push { cls := .type "tuple", data := .seq its.toArray } } :=
      I1.laid (t' := s.toks) (fun b o e => Heap.get?_push_of_some _ e) (Nat.le_refl _) (show ObjOk X.prog X.w _ _ _ (.tup ys) from ⟨hz, its, r', IsTup.new _ _⟩)
    exact ⟨.ref h'.objs.size, _, I2, rfl, q _ (I1.hok.fresh (Nat.le_refl _))⟩
  · obtain ⟨its, r', pl, hz⟩ := I.tuple hq
    exact call_tuple_same pl ⟨.ref p, H, I, rfl, q⟩

/-! ### the call of a builtin's method: o.m(..) -/
/-- the value is of that builtin type -/
def tyV (K : PySem.W.Frag) (T : String) (x : V) (H : Hp) : Prop := match x with
  | .str _ => T = "str"
  | .int _ => T = "int"
  | .ref p => (T = "list" ∧ ∃ xs, SqL K H p xs) ∨ (T = "tuple" ∧ ∃ o, K.lookup p = some o ∧ o.cls = .type "tuple" ∧ o.dict = none) ∨
      (T = "dict" ∧ ((∃ kvs, H p = some (.dK kvs)) ∨ ∃ kvs, H p = some (.dT kvs))) ∨ (T = "set" ∧ ∃ S n, H p = some (.set S n))
  | _ => False
theorem tyV_is {pins : List (Addr × Obj)} {σ : St} {H : Hp} {s : Shared} {T : String} {x : V} {v : Value} (I : Inv X pins σ H s) (r : RelV x v) (ty : tyV X.K T x H) :
    s.TypeIs v T ∧ ∀ a, v = .ref a → ∃ ob, s.heap.get? a = some ob ∧ ob.dict = none := by
  cases x with
  | str z =>
    obtain ⟨t, rfl⟩ := r
    cases (show T = "str" from ty)
    exact ⟨typeIs_str s z t, fun _ e => nomatch e⟩
  | int i =>
    obtain ⟨t, rfl⟩ := r
    cases (show T = "int" from ty)
    exact ⟨typeIs_int s i t, fun _ e => nomatch e⟩
  | ref p =>
    cases r
    rcases ty with ⟨rfl, xs, hq⟩ | ⟨rfl, o, hk, hc, hd⟩ | ⟨rfl, hk⟩ | ⟨rfl, S, n, hk⟩
    · obtain ⟨its, _, pl, _⟩ := I.list hq
      refine ⟨pl.isList.typeIs, fun a e => ?_⟩
      cases e
      obtain ⟨o, n, e, c, hd, _⟩ := pl
      exact ⟨o, e, hd⟩
    · refine ⟨⟨o, I.kIn p o hk, hc⟩, fun a e => ?_⟩
      cases e
      exact ⟨o, I.kIn _ o hk, hd⟩
    · have z : ∃ o, s.heap.get? p = some o ∧ o.ExactDict := by
        rcases hk with ⟨kvs, hk⟩ | ⟨kvs, hk⟩
        · obtain ⟨_, _, _, _, o, _, _, e, ex, _⟩ := I.hok p _ hk
          exact ⟨o, e, ex⟩
        · obtain ⟨_, _, _, _, o, _, _, e, ex, _⟩ := I.hok p _ hk
          exact ⟨o, e, ex⟩
      obtain ⟨o, e, ex⟩ := z
      refine ⟨⟨o, e, ex.1⟩, fun a e2 => ?_⟩
      cases e2
      exact ⟨o, e, ex.2.1⟩
    · obtain ⟨o, _, _, _, e, ex, _⟩ := I.hok p _ hk
      refine ⟨⟨o, e, ex.1⟩, fun a e2 => ?_⟩
      cases e2
      exact ⟨o, e, ex.2.1⟩
  | _ => exact False.elim ty
def tBM0 (K : PySem.W.Frag) (T : String) (r : V → List V → Hp → VK → Prop) (to : TE) : TE := fun σ H Q => to σ H fun x H1 => tyV K T x H1 ∧ r x [] H1 Q
def tBM (K : PySem.W.Frag) (T : String) (r : V → List V → Hp → VK → Prop) (to : TE) (t : TA) : TE := fun σ H Q => to σ H fun x H1 => tyV K T x H1 ∧ t σ H1 fun xs H2 => r x xs H2 Q
variable {o e : Expr} {es : List Expr} {to : TE} {t : TA} {name : Str} {apos cpos : Pos} {T id : String} {r : V → List V → Hp → VK → Prop}
theorem pe_bm0 (pa : PlainAttrs T) (slot : Slot T name id) (hty : typeOf (.builtin id) = pure (.type "method_descriptor")) (hm : MtR X id r) (ho : PE X o to)
    (hbase : attributeBase o name X.env (eval o X.env) = eval o X.env := by rfl) (hline : (apos.endLine == cpos.line) = true := by rfl) : PE X (.Call (.Attribute o name apos) [] [] cpos) (tBM0 X.K T r to) := by
  intro pins s σ H Q I h
  refine wpAny_Call_method0_late hbase hline (thn (ho pins s σ H _ I h) fun v s1 ⟨x, H1, I1, r1, ty, q1⟩ => ?_)
  obtain ⟨h1, h2⟩ := tyV_is I1 r1 ty
  exact ⟨T, id, pa, slot, hty, h1, h2, Calls.callWith_builtin rfl (PySem.evalArgs_none (hm pins s1 σ H1 x [] v [] Q I1 r1 .nil q1))⟩
theorem pe_bm (pa : PlainAttrs T) (slot : Slot T name id) (hty : typeOf (.builtin id) = pure (.type "method_descriptor")) (hm : MtR X id r) (ho : PE X o to) (ha : PA X (e :: es) t)
    (hbase : attributeBase o name X.env (eval o X.env) = eval o X.env := by rfl)
    (hfew : ((backTo cpos (starEach (e :: es) X.env)).all (fun x => !x.1) && (backToKw cpos (keywordEach [] X.env)).all (fun x => x.1.isSome)
      && decide ((e :: es).length + ([] : List Keyword).length + (if ([] : List Keyword).isEmpty then 0 else 1) < 30)) = true := by rfl)
    (hline : (apos.endLine == cpos.line) = true := by rfl) (hs : starEach (e :: es) X.env = (false, eval e X.env) :: starEach es X.env := by rfl) (hplain : (backTo cpos (starEach es X.env)).any (·.1) = false := by rfl) :
    PE X (.Call (.Attribute o name apos) (e :: es) [] cpos) (tBM X.K T r to t) := by
  intro pins s σ H Q I h
  refine wpAny_Call_method_late hbase hfew hline rfl (thn (ho pins s σ H _ I h) fun v s1 ⟨x, H1, I1, r1, ty, q1⟩ => ?_)
  obtain ⟨h1, h2⟩ := tyV_is I1 r1 ty
  refine ⟨T, id, pa, slot, hty, h1, h2, ?_⟩
  have hA := ha cpos pins s1 σ H1 _ I1 q1
  rw [hs] at hA ⊢
  refine Calls.callWith_builtin (by show (false || (backTo cpos (starEach es X.env)).any (·.1)) = false; rw [hplain] <;> rfl) (Calls.evalArgs_plain ?_)
  exact thn hA fun us s2 ⟨vs, H2, I2, r2, q2⟩ => hm pins s2 σ H2 x vs v us Q I2 r1 r2 q2
/- xs.append(e), list.index on a module's tuple .. are MtR facts of 06m -/
end
end L2

namespace L2
open PySem PySem.Spec PyProof.Rows

def MtM (X : Cx) (id : String) (r : V → List V → Hp → VK → Prop) : Prop :=
  ∀ (pins : List (Addr × Obj)) (s : Shared) (σ : St) (H : Hp) (x : V) (xs : List V) (v : Value) (us : List Value) (Q : VK), Inv X pins σ H s → RelV x v → Vals xs us → r x xs H Q →
    wpAny (model X.prog X.w) X.A (call (.builtin id) (v :: us)) (EP X pins σ Q) X.xe s

/-! ### lists of values -/
theorem Vals.one : ∀ {x : V} {us : List Value}, Vals [x] us → ∃ u, us = [u] ∧ RelV x u
  | _, _, .cons r .nil => ⟨_, rfl, r⟩
theorem Vals.two : ∀ {x y : V} {us : List Value}, Vals [x, y] us → ∃ u v, us = [u, v] ∧ RelV x u ∧ RelV y v
  | _, _, _, .cons r (.cons q .nil) => ⟨_, _, rfl, r, q⟩
theorem Vals.zero : ∀ {us : List Value}, Vals [] us → us = []
  | _, .nil => rfl
theorem Vals.dropLast {xs : List V} {us : List Value} (h : Vals xs us) : Vals xs.dropLast us.dropLast := by
  induction h with
  | nil => exact .nil
  | cons r t ih =>
    cases t with
    | nil => exact .nil
    | cons q t' => exact .cons r ih
theorem Vals.eraseIdx : ∀ {xs : List V} {us : List Value} (i : Nat), Vals xs us → Vals (xs.eraseIdx i) (us.eraseIdx i)
  | _, _, _, .nil => .nil
  | _, _, 0, .cons _ t => t
  | _, _, i + 1, .cons r t => .cons r (Vals.eraseIdx i t)
theorem Vals.reverse {xs : List V} {us : List Value} (h : Vals xs us) : Vals xs.reverse us.reverse := by
  induction h with
  | nil => exact .nil
  | cons r t ih => rw [List.reverse_cons, List.reverse_cons]; exact Vals.append ih (.cons r .nil)
theorem Vals.rep {xs : List V} {us : List Value} (h : Vals xs us) : ∀ k : Nat, Vals (List.replicate k xs).flatten (List.replicate k us).flatten
  | 0 => .nil
  | k + 1 => by
    rw [List.replicate_succ, List.replicate_succ, List.flatten_cons, List.flatten_cons]
    exact Vals.append h (Vals.rep h k)
theorem erase_last {α : Type} (l : List α) : l.eraseIdx (l.length - 1) = l.dropLast := by
  induction l with
  | nil => rfl
  | cons a r ih =>
    cases r with
    | nil => rfl
    | cons b r =>
      have e : (a :: b :: r).length - 1 = ((b :: r).length - 1) + 1 := by
        have h1 : (a :: b :: r).length = r.length + 2 := rfl
        have h2 : (b :: r).length = r.length + 1 := rfl
        omega
      rw [e, List.eraseIdx_cons_succ, ih]
      all_goals rfl
theorem len_erase {α : Type} : ∀ (l : List α) (i : Nat), (l.eraseIdx i).length ≤ l.length
  | [], _ => Nat.le_refl _
  | _ :: _, 0 => Nat.le_succ _
  | _ :: r, i + 1 => Nat.succ_le_succ (len_erase r i)
theorem foldl_rep (its : List Value) : ∀ (k : Nat) (acc : List Value),
    List.foldl (fun x1 x2 => x1 ++ x2) acc.toArray (List.replicate k its.toArray) = (acc ++ (List.replicate k its).flatten).toArray
  | 0, acc => by simp
  | k + 1, acc => by
    have e : acc.toArray ++ its.toArray = (acc ++ its).toArray := by simp
    have e2 : (acc ++ its) ++ (List.replicate k its).flatten = acc ++ (List.replicate (k + 1) its).flatten := by
      rw [List.replicate_succ, List.flatten_cons, List.append_assoc]
    rw [← e2, ← foldl_rep its k (acc ++ its), ← e, List.replicate_succ, List.foldl_cons]

section
variable {X : Cx} {pins : List (Addr × Obj)} {σ : St} {H : Hp} {s : Shared} {l b : Addr} {xs ys zs : List V}

/-! ### the two steps: a tracked list is rewritten, a new list is laid -/
theorem Inv.lset {its its' : List Value} {n : Nat} {f : Array Value → Array Value} {t' : Nat} (I : Inv X pins σ H s) (hH : H l = some (.lst xs))
    (e : s.heap.get? l = some { cls := .type "list", data := .seq its.toArray n }) (hf : f its.toArray = its'.toArray) (hv : Vals ys its') (hz : ys.length ≤ sizeLine) :
    Inv X pins σ (upd H l (.lst ys)) { s with heap := s.heap.update l (Obj.mapSeq f), toks := t' } := by
  have q := PySem.IsL.update e f
  rw [hf] at q
  refine I.write (x := l) (e := l) (by rw [hH]; exact trivial) (.inl rfl) (fun b' u hb hu => (Heap.get?_update_other s.heap (Obj.mapSeq f) (Ne.symm hb)).trans hu) ⟨_, q⟩ ?_
  exact ⟨hz, its', _, hv, q⟩
theorem Inv.lnew {its : List Value} {t' : Nat} (I : Inv X pins σ H s) (hv : Vals ys its) (hz : ys.length ≤ sizeLine) :
    Inv X pins σ (upd H s.heap.objs.size (.lst ys)) { s with heap := s.heap.push { cls := .type "list", data := .seq its.toArray }, toks := t' } :=
  I.laid (fun _ _ q => Heap.get?_push_of_some _ q) (Nat.le_refl _) ⟨hz, its, 0, hv, Heap.get?_push_size _ rfl⟩
theorem Inv.fresh (I : Inv X pins σ H s) : H s.heap.objs.size = none := I.hok.fresh (Nat.le_refl _)
theorem Inv.lstM (I : Inv X pins σ H s) (hH : H l = some (.lst xs)) : xs.length ≤ sizeLine ∧ ∃ (its : List Value) (n : Nat), Vals xs its ∧ xs.length = its.length ∧ s.heap.get? l = some { cls := .type "list", data := .seq its.toArray n } := by
  obtain ⟨z, its, n, r, e⟩ := I.hok l _ hH
  exact ⟨z, its, n, r, r.length, e⟩

theorem notLongL {n : Nat} (h : n ≤ sizeLine) : Builtin.List.listTooLong n = false := by
  unfold Builtin.List.listTooLong
  exact decide_eq_false (by omega)
end

section
variable {X : Cx}

/-! ### methods -/
def rAppend : V → List V → Hp → VK → Prop := fun x vs H Q => ∃ l xs y, x = .ref l ∧ vs = [y] ∧ H l = some (.lst xs) ∧ xs.length < sizeLine ∧ Q .non (upd H l (.lst (xs ++ [y])))
theorem mt_append : MtM X "list.append" rAppend := by
  intro pins s σ H x vs v us Q I rx rv h
  obtain ⟨l, xs, y, rfl, rfl, hH, hz, q⟩ := h
  cases rx
  obtain ⟨u, rfl, ru⟩ := rv.one
  obtain ⟨z, its, n, r, hl, e⟩ := I.lstM hH
  refine call_meets F.slot_list_append ⟨_, e, rfl⟩ F.entry_list_append (F.args_list_append_2 _ _) (PySem.list_append l its.toArray n u (by rw [List.size_toArray]; omega)) ⟨e, ?_⟩
  refine ⟨.non, _, I.lset (its' := its ++ [u]) hH e (by simp) (r.append (.cons ru .nil)) ?_, rfl, q⟩
  rw [List.length_append, List.length_singleton]
  omega

def rExtend : V → List V → Hp → VK → Prop := fun x vs H Q => ∃ l b xs zs, x = .ref l ∧ vs = [.ref b] ∧ H l = some (.lst xs) ∧ H b = some (.lst zs) ∧ xs.length + zs.length ≤ sizeLine ∧ Q .non (upd H l (.lst (xs ++ zs)))
theorem mt_extend : MtM X "list.extend" rExtend := by
  intro pins s σ H x vs v us Q I rx rv h
  obtain ⟨l, b, xs, zs, rfl, rfl, hH, hB, hz, q⟩ := h
  cases rx
  obtain ⟨u, rfl, ru⟩ := rv.one
  cases ru
  obtain ⟨z, its, n, r, hl, e⟩ := I.lstM hH
  obtain ⟨z2, its2, n2, r2, hl2, e2⟩ := I.lstM hB
  have hsz : its.toArray.size + its2.toArray.size ≤ sizeLine := by rw [List.size_toArray, List.size_toArray]; omega
  have hlong : ¬ (!its.toArray.isEmpty && Builtin.List.listTooLong (its.toArray.size + its2.toArray.size)) = true := by
    rw [notLongL hsz, Bool.and_false]
    exact Bool.false_ne_true
  refine call_meets F.slot_list_extend ⟨_, e, rfl⟩ F.entry_list_extend (F.args_list_extend_2 _ _)
    (AutoSeq1.list_extend_list_list_0 l its.toArray n b its2.toArray n2 hlong (by rw [List.size_toArray]; omega) (by omega)) ⟨e, e2, ?_⟩
  refine ⟨.non, _, I.lset (its' := its ++ its2) hH e (by simp) (r.append r2) ?_, rfl, q⟩
  rw [List.length_append]
  omega

def rPop : V → List V → Hp → VK → Prop := fun x vs H Q => ∃ l xs y, x = .ref l ∧ vs = [] ∧ H l = some (.lst xs) ∧ xs[xs.length - 1]? = some y ∧ Q y (upd H l (.lst xs.dropLast))
theorem mt_pop : MtM X "list.pop" rPop := by
  intro pins s σ H x vs v us Q I rx rv h
  obtain ⟨l, xs, y, rfl, rfl, hH, hy, q⟩ := h
  cases rx
  have hus := rv.zero
  subst hus
  obtain ⟨z, its, n, r, hl, e⟩ := I.lstM hH
  obtain ⟨u, hu, ru⟩ := r.get hy
  have hy' : its.toArray[its.toArray.size - 1]? = some u := by
    show its.toArray[its.length - 1]? = some u
    rw [← Array.getElem?_toList, ← hl]
    exact hu
  refine call_meets F.slot_list_pop ⟨_, e, rfl⟩ F.entry_list_pop (F.args_list_pop_1 _) (MeetsSeq.list_pop_last l its.toArray n u hy' (by rw [List.size_toArray]; omega)) ⟨e, ?_⟩
  refine ⟨y, _, I.lset (its' := its.dropLast) hH e ?_ r.dropLast ?_, ru, q⟩
  · show its.toArray.eraseIdxIfInBounds (its.toArray.size - 1) = its.dropLast.toArray
    rw [List.size_toArray, List.eraseIdxIfInBounds_toArray, erase_last]
  · rw [List.length_dropLast]
    omega

def rPopAt : V → List V → Hp → VK → Prop := fun x vs H Q => ∃ l xs i k y, x = .ref l ∧ vs = [.int i] ∧ H l = some (.lst xs) ∧ -(2 ^ 63) ≤ i ∧ i < 2 ^ 63 ∧ seqIndex? i xs.length = some k ∧ xs[k]? = some y ∧ Q y (upd H l (.lst (xs.eraseIdx k)))
theorem mt_popAt : MtM X "list.pop" rPopAt := by
  intro pins s σ H x vs v us Q I rx rv h
  obtain ⟨l, xs, i, k, y, rfl, rfl, hH, h1, h2, hk, hy, q⟩ := h
  cases rx
  obtain ⟨u, rfl, ru⟩ := rv.one
  obtain ⟨t, rfl⟩ := ru
  obtain ⟨z, its, n, r, hl, e⟩ := I.lstM hH
  obtain ⟨w, hw, rw'⟩ := r.get hy
  refine call_meets F.slot_list_pop ⟨_, e, rfl⟩ F.entry_list_pop (F.args_list_pop_2 _ _)
    (MeetsSeq.list_pop_at l its.toArray n i t k w (fitsIndex_both h1 h2) (by rw [List.size_toArray, ← hl]; exact hk) (by rw [← Array.getElem?_toList]; exact hw) (by rw [List.size_toArray]; omega)) ⟨e, ?_⟩
  refine ⟨y, _, I.lset (its' := its.eraseIdx k) hH e ?_ (r.eraseIdx k) ?_, rw', q⟩
  · show its.toArray.eraseIdxIfInBounds k = (its.eraseIdx k).toArray
    rw [List.eraseIdxIfInBounds_toArray]
  · have := len_erase xs k
    omega

def rReverse : V → List V → Hp → VK → Prop := fun x vs H Q => ∃ l xs, x = .ref l ∧ vs = [] ∧ H l = some (.lst xs) ∧ Q .non (upd H l (.lst xs.reverse))
theorem mt_reverse : MtM X "list.reverse" rReverse := by
  intro pins s σ H x vs v us Q I rx rv h
  obtain ⟨l, xs, rfl, rfl, hH, q⟩ := h
  cases rx
  have hus := rv.zero
  subst hus
  obtain ⟨z, its, n, r, hl, e⟩ := I.lstM hH
  refine call_meets F.slot_list_reverse ⟨_, e, rfl⟩ F.entry_list_reverse (F.args_list_reverse_1 _) (AutoSeq1.list_reverse_list_0 l its.toArray n (by rw [List.size_toArray]; omega)) ⟨e, ?_⟩
  refine ⟨.non, _, I.lset (its' := its.reverse) hH e (by simp) r.reverse ?_, rfl, q⟩
  rw [List.length_reverse]
  omega

def rClear : V → List V → Hp → VK → Prop := fun x vs H Q => ∃ l xs, x = .ref l ∧ vs = [] ∧ H l = some (.lst xs) ∧ Q .non (upd H l (.lst []))
theorem mt_clear : MtM X "list.clear" rClear := by
  intro pins s σ H x vs v us Q I rx rv h
  obtain ⟨l, xs, rfl, rfl, hH, q⟩ := h
  cases rx
  have hus := rv.zero
  subst hus
  obtain ⟨z, its, n, r, hl, e⟩ := I.lstM hH
  refine call_meets F.slot_list_clear ⟨_, e, rfl⟩ F.entry_list_clear (F.args_list_clear_1 _) (AutoSeq1.list_clear_list_0 l its.toArray n (by rw [List.size_toArray]; omega)) ⟨e, ?_⟩
  exact ⟨.non, _, I.lset (its' := []) (ys := []) hH e rfl .nil (Nat.zero_le _), rfl, q⟩

/-! ### list + list, list += list, list * int -/
def rCat : R2 := fun x y H Q => ∃ l b xs zs, x = .ref l ∧ y = .ref b ∧ H l = some (.lst xs) ∧ H b = some (.lst zs) ∧ xs.length + zs.length ≤ sizeLine ∧ ∀ p, H p = none → Q (.ref p) (upd H p (.lst (xs ++ zs)))
theorem op_cat : OpR X (binaryOp .Add) rCat := by
  intro pins s σ H x y v u Q I rx ry h
  obtain ⟨l, b, xs, zs, rfl, rfl, hH, hB, hz, q⟩ := h
  cases rx
  cases ry
  obtain ⟨z, its, n, r, hl, e⟩ := I.lstM hH
  obtain ⟨z2, its2, n2, r2, hl2, e2⟩ := I.lstM hB
  refine PySem.P.add_list e e2 ?_ (by rw [List.size_toArray, List.size_toArray]; omega)
  have ea : its.toArray ++ its2.toArray = (its ++ its2).toArray := by simp
  rw [ea]
  exact ⟨.ref _, _, I.lnew (t' := s.toks) (r.append r2) (by rw [List.length_append]; omega), rfl, q _ I.fresh⟩
/-- a list times an int (a negative one is nothing) -/
def rRep : R2 := fun x y H Q => ∃ l k xs, x = .ref l ∧ y = .int k ∧ H l = some (.lst xs) ∧ -(2 ^ 63) ≤ k ∧ k < 2 ^ 63 ∧ xs.length * k.toNat ≤ sizeLine ∧
  ∀ p, H p = none → Q (.ref p) (upd H p (.lst (List.replicate k.toNat xs).flatten))
theorem len_rep {α : Type} (xs : List α) (k : Nat) : (List.replicate k xs).flatten.length = k * xs.length := by
  induction k with
  | zero => simp
  | succ k ih => rw [List.replicate_succ, List.flatten_cons, List.length_append, ih, Nat.succ_mul, Nat.add_comm]
theorem op_rep : OpR X (binaryOp .Mult) rRep := by
  intro pins s σ H x y v u Q I rx ry h
  obtain ⟨l, k, xs, rfl, rfl, hH, h1, h2, hz, q⟩ := h
  cases rx
  obtain ⟨t, rfl⟩ := ry
  obtain ⟨z, its, n, r, hl, e⟩ := I.lstM hH
  have hlen : its.toArray.size * k.toNat ≤ sizeLine := by rw [List.size_toArray, ← hl]; exact hz
  have hcap : ¬ its.toArray.size * k.toNat > (2 ^ 63 - 1) / 8 := by
    have : (sizeLine : Nat) ≤ (2 ^ 63 - 1) / 8 := by decide
    omega
  have hfit : ¬ (!Builtin.List.listFitsIndex k) = true := by
    rw [fitsIndex_both h1 h2]
    exact Bool.false_ne_true
  have hlong : ¬ Builtin.List.listTooLong (its.toArray.size * k.toNat) = true := by
    rw [notLongL hlen]
    exact Bool.false_ne_true
  have hnew : List.foldl (fun x1 x2 => x1 ++ x2) #[] (List.replicate (if its.toArray.isEmpty = true then 0 else k.toNat) its.toArray) = (List.replicate k.toNat its).flatten.toArray := by
    have f0 : ∀ m : Nat, List.foldl (fun x1 x2 => x1 ++ x2) #[] (List.replicate m its.toArray) = (List.replicate m its).flatten.toArray := fun m => by
      have := foldl_rep its m []
      rw [List.nil_append] at this
      exact this
    rw [f0]
    cases its with
    | nil => simp
    | cons a r' => rw [if_neg (by simp)]
  refine wpAny_binaryOp_repeat_ref (T := "list") (U := "int") (by decide) ⟨_, e, rfl⟩ (fun s' => typeIs_int s' k t) noFill_list_mul F.fills_int_mul F.slot_int_rmul repeat_list F.slot_int_index.lookup
    (call_meets F.slot_int_rmul (typeIs_int s k t) F.entry_int_rmul (F.args_int_rmul_2 _ _) (int___rmul___int_list k t l its.toArray n)
      ⟨e, rfl, ⟨_, e, rfl⟩, call_meets F.slot_list_mul ⟨_, e, rfl⟩ F.entry_list_mul (F.args_list_mul_2 _ _) (AutoListH.list___mul___list_int_3 l its.toArray n k t hfit hcap hlong) ⟨e, ?_⟩⟩)
  rw [hnew]
  exact ⟨.ref _, _, I.lnew (t' := s.toks) (r.rep k.toNat) (by rw [len_rep, Nat.mul_comm]; exact hz), rfl, q _ I.fresh⟩

/-! ### del xs[i] -/
theorem del_list {pins : List (Addr × Obj)} {s : Shared} {σ : St} {H : Hp} {l : Addr} {xs : List V} {i : Int} {t : Tok} {k : Nat} {Q : Unit → Shared → Prop} (I : Inv X pins σ H s) (hH : H l = some (.lst xs))
    (h1 : -(2 ^ 63) ≤ i) (h2 : i < 2 ^ 63) (hk : seqIndex? i xs.length = some k) (h : ∀ s', Inv X pins σ (upd H l (.lst (xs.eraseIdx k))) s' → Q () s') :
    wpAny (model X.prog X.w) X.A (delItem (.ref l) (.int i t)) Q X.xe s := by
  obtain ⟨z, its, n, r, hl, e⟩ := I.lstM hH
  refine PySem.P.delItem_list (k := k) e (fitsIndex_both h1 h2) (by rw [List.size_toArray, ← hl]; exact hk) (h _ ?_) (by rw [List.size_toArray]; omega)
  refine I.lset (its' := its.eraseIdx k) (t' := s.toks) hH e ?_ (r.eraseIdx k) ?_
  · show its.toArray.eraseIdxIfInBounds k = (its.eraseIdx k).toArray
    rw [List.eraseIdxIfInBounds_toArray]
  · have := len_erase xs k
    omega
end

/-! ### xs[a:b] = ys -/
section
variable {prog : Program} {w : World} {A : Around} {E : Value → Shared → Prop} {s : Shared}
theorem splice_eq (its its2 : List Value) (a c : Nat) : its.toArray.extract 0 a ++ its2.toArray ++ its.toArray.extract c its.toArray.size = (its.take a ++ its2 ++ its.drop c).toArray := by
  apply Array.toList_inj.mp
  first
    | (simp
       exact List.take_of_length_le (by simp))
    | simp [List.take_of_length_le]
    | simp
theorem bounds_run {a c n : Nat} (hac : a ≤ c) (hc : c ≤ n) : sliceBounds (some (a : Int)) (some (c : Int)) none n = ((a : Int), (c : Int), 1) := by
  simp only [sliceBounds, Option.getD_none]
  have h1 : ¬ ((a : Int) < 0) := by omega
  have h2 : ¬ ((c : Int) < 0) := by omega
  simp only [h1, h2, if_false, show (1 : Int) > 0 by decide, if_true]
  congr 1
  · omega
  · congr 1; omega
set_option maxRecDepth 100000 in
/-- list.__setitem__ with a slice of step one and another list -/
theorem setItem_slice {l b sl : Addr} {items new : Array Value} {n n2 : Nat} {vl vu : Value} {a c : Nat} {Q : Unit → Shared → Prop}
    (e : s.heap.get? l = some { cls := .type "list", data := .seq items n }) (e2 : s.heap.get? b = some { cls := .type "list", data := .seq new n2 }) (hne : l ≠ b)
    (hs : s.heap.IsSliceOf sl vl vu .none) (pl : IsPart vl (some (a : Int))) (pu : IsPart vu (some (c : Int))) (hac : a ≤ c) (hc : c ≤ items.size)
    (hsz : items.size + new.size ≤ sizeLine) (h : Q () { s with heap := s.heap.update l (Obj.mapSeq fun xs => xs.extract 0 a ++ new ++ xs.extract c xs.size) }) :
    wpAny (model prog w) A (setItem (.ref l) (.ref sl) (.ref b)) Q E s := by
  have hl : s.heap.IsList l items := PySem.IsL.isList e
  have hb : s.heap.IsList b new := PySem.IsL.isList e2
  obtain ⟨os, hos, hcs, hds⟩ := id hs
  have hTs : s.TypeIs (.ref sl) "slice" := ⟨os, hos, hcs⟩
  have hstep : ¬ ((rawPart none == rawInt 0) = true) := Bool.false_ne_true
  have hsame : Builtin.List.listSameRef (.ref l) (.ref b) = false := by
    unfold Builtin.List.listSameRef
    exact beq_eq_false_iff_ne.mpr hne
  have hmax : (max (a : Int) (c : Int)).toNat = c := by omega
  have hz' : ((fun xs : Array Value => xs.extract 0 a ++ new ++ xs.extract c xs.size) items).size ≤ sizeLine + 1 := by
    simp only [Array.size_append, Array.size_extract]
    omega
  unfold setItem
  try with_reducible refine wpAny_holding ?_
  first | refine wpAny_bind (wpAny_pure ?_) | skip
  refine wpAny_bind (wpAny_sequenceKey hl.typeIs (by decide) ?_)
  refine wpAny_bind (wpAny_callSpecial?_slot (name := Str.ofString "__setitem__") hl.typeIs slot_list_setitem
    (wpAny_call_entry slot_list_setitem hl.typeIs entry_list_setitem ?_ (args_list_setitem _ _ _)))
  show wpAny _ _ (Builtin.List.listSubscript? (.ref sl) >>= _) _ _ s
  refine wpAny_bind ?_
  unfold Builtin.List.listSubscript?
  refine wpAny_bind (wpAny_specialOf hTs slice_no_index ?_)
  simp only [Option.isNone_none, if_true]
  refine wpAny_pure ?_
  show wpAny _ _ (typeOf (.ref sl) >>= _) _ _ s
  refine wpAny_bind (wpAny_typeOf hTs ?_)
  first
    | rw [if_neg (by decide)]
    | refine PySem.W.KFB.if_not (by decide) ?_
  rw [listSliceParts_eq]
  refine wpAny_bind (wpAny_bind (wpAny_field hos hds (x := .none) rfl (wpAny_bind (wpAny_listPart .none ?_))))
  rw [if_neg hstep]
  refine wpAny_bind (wpAny_field hos hds (x := vl) rfl (wpAny_bind (wpAny_listPart pl ?_)))
  refine wpAny_bind (wpAny_field hos hds (x := vu) rfl (wpAny_bind (wpAny_listPart pu (wpAny_pure ?_))))
  first
    | simp only [hsame, Bool.false_eq_true, if_false]
    | refine PySem.W.KFB.if_not hsame ?_
    | (dsimp only
       rw [if_neg (by rw [hsame]; exact Bool.false_ne_true)])
  refine wpAny_bind (m := Builtin.List.listAllItems (.ref b) "must assign iterable to extended slice") ?_
  unfold Builtin.List.listAllItems
  refine wpAny_bind (wpAny_typeOf hb.typeIs ?_)
  first
    | refine PySem.W.KFB.if_so (by decide) ?_
    | rw [if_pos (by decide)]
    | simp only [beq_self_eq_true, Bool.true_or, if_true]
  unfold Builtin.List.listItems
  refine wpAny_bind (wpAny_seqItems e2 rfl (wpAny_pure ?_))
  refine wpAny_bind (wpAny_bind (wpAny_seqItems e rfl (wpAny_pure ?_)))
  refine wpAny_bind (wpAny_of_eq ((sliceIndices_raw (some (a : Int)) (some (c : Int)) none items.size (by simp)).trans (congrArg (pure : Int × Int × Int → Sem (Int × Int × Int)) (bounds_run hac hc))) ?_)
  show wpAny _ _ (if ((1 : Int) == 1) = true then _ else _) _ _ s
  rw [if_pos (by decide)]
  refine wpAny_bind (wpAny_rule ?_)
  first
    | simp only [notLongL hsz, Bool.false_eq_true, if_false]
    | refine PySem.W.KFB.if_not (notLongL hsz) ?_
  first | refine wpAny_bind (wpAny_pure ?_) | skip
  show wpAny _ _ (updateSeq l (fun xs => xs.extract 0 ((a : Int)).toNat ++ new ++ xs.extract (max (a : Int) (c : Int)).toNat xs.size) >>= _) _ _ s
  rw [hmax, Int.toNat_natCast]
  refine wpAny_bind (wpAny_updateSeq (hz := Nat.le_trans (Nat.le_add_right _ _) hsz) (_hz' := hz') e rfl ?_)
  refine wpAny_bind (wpAny_letGo ?_)
  first
    | exact wpAny_bind (wpAny_pure (wpAny_pure ⟨.none, rfl, wpAny_pure h⟩))
    | exact wpAny_pure ⟨.none, rfl, wpAny_pure h⟩
end

section
variable {X : Cx}
/-- xs[a:c] = ys of another list, at the value level: sl is the slice object that was just made -/
theorem set_slice {pins : List (Addr × Obj)} {s : Shared} {σ : St} {H : Hp} {l b sl : Addr} {xs ys : List V} {a c : Int} {vl vu : Value} {Q : Unit → Shared → Prop} (I : Inv X pins σ H s)
    (hH : H l = some (.lst xs)) (hB : H b = some (.lst ys)) (hne : l ≠ b) (hs : s.heap.IsSliceOf sl vl vu .none) (ra : RelV (.int a) vl) (rc : RelV (.int c) vu) (h0 : 0 ≤ a) (hac : a ≤ c) (hc : c ≤ xs.length)
    (hz : xs.length + ys.length ≤ sizeLine) (h : ∀ s', Inv X pins σ (upd H l (.lst (xs.take a.toNat ++ ys ++ xs.drop c.toNat))) s' → Q () s') :
    wpAny (model X.prog X.w) X.A (setItem (.ref l) (.ref sl) (.ref b)) Q X.xe s := by
  obtain ⟨ta, rfl⟩ := ra
  obtain ⟨tc, rfl⟩ := rc
  obtain ⟨z, its, n, r, hl, e⟩ := I.lstM hH
  obtain ⟨z2, its2, n2, r2, hl2, e2⟩ := I.lstM hB
  obtain ⟨a', rfl⟩ := Int.eq_ofNat_of_zero_le h0
  obtain ⟨c', rfl⟩ := Int.eq_ofNat_of_zero_le (Int.le_trans h0 hac)
  simp only [Int.toNat_natCast] at h
  refine setItem_slice (a := a') (c := c') e e2 hne hs (.int _ _) (.int _ _) (by omega) (by rw [List.size_toArray]; omega) (by rw [List.size_toArray, List.size_toArray]; omega) (h _ ?_)
  refine I.lset (its' := its.take a' ++ its2 ++ its.drop c') (t' := s.toks) hH e ?_ (Vals.append (Vals.append (r.take _) r2) (r.drop _)) ?_
  · exact splice_eq its its2 a' c'
  · rw [List.length_append, List.length_append, List.length_take, List.length_drop]
    omega
end
end L2

namespace Att
open PySem PySem.W PySem.Calls PyProof.Rows

/-! ### the script -/
theorem ints_of_wellAll {P : Params} {h : Heap} : ∀ (ns : List Int) (vs : List Value), WellAll P h vs (ns.map WData.int) → IntsAre vs ns := by
  intro ns
  induction ns with
  | nil =>
    intro vs w
    rw [List.map_nil] at w
    cases w
    exact .nil
  | cons n ns ih =>
    intro vs w
    rw [List.map_cons] at w
    cases w with
    | cons a b =>
      cases a
      exact .cons _ _ (ih _ b)

theorem script_of {l : OpenLaw} {n : Nat} (hn : l.most = some n) {P : Params} {h : Heap} {args : List WData} {vals : List Value}
    (hpre : l.row.toRowW.claim.pre args = true) (hwl : WellAll P h vals args) :
    ∃ a vs ns, vals = [Value.ref a] ∧ args = [WData.list (ns.map WData.int)] ∧ h.get? a = some { cls := .type "list", data := .seq vs.toArray } ∧ IntsAre vs ns ∧ ns.length ≤ n := by
  have hsh : WShape.hasAll [] args [.list .int] = true := (pre_splitW hpre).1
  have hc : l.pre.holds [] { args := args } = true := (pre_splitW hpre).2
  obtain ⟨d, r, rfl, h1, h2⟩ := hasAllW_cons hsh
  obtain rfl := hasAllW_nil h2
  obtain ⟨xs, rfl, h3⟩ := hasW_list h1
  obtain ⟨ns, rfl⟩ := items_int h3
  have hlen : ns.length ≤ n := by
    unfold OpenLaw.pre at hc
    have h4 : (WTm.not (.lt (.lit (.int (n : Int))) (.len (.arg 0)))).holds [] { args := [.list (ns.map .int)] } = true := by
      have h4 := (holds_andW hc).1
      rw [hn] at h4
      exact h4
    have h5 := condW_of h4 (w_not (w_lt w_lit (w_len_list (w_arg rfl))))
    rw [List.length_map] at h5
    refine Nat.le_of_not_lt fun q => ?_
    have q' : (n : Int) < ((ns.length : Nat) : Int) := by omega
    first
      | (rw [decide_eq_true q'] at h5; exact absurd h5 (by decide))
      | (simp at h5; omega)
  cases hwl with
  | cons w1 w2 =>
    cases w2
    cases w1 with
    | list ho hall => exact ⟨_, _, ns, rfl, rfl, ho, ints_of_wellAll ns _ hall, hlen⟩

theorem post_true (l : OpenLaw) (args : List WData) : l.row.toRowW.claim.post args (.bool true) args = true :=
  postW_of (r := l.row.toRowW) (X := (true == true))
    (show WShape.has [] (.bool true) .bool = true by first | rfl | decide | simp [WShape.has, WShape.arms, WShape.armsAll])
    (show (WTm.eq .res (.lit (.bool true))).value [] { args := args, res := some (.bool true), after := args } = some (.bool (true == true)) from w_eq_bool (w_res rfl) w_lit) rfl

/-! ### the attachment: holds_open's last premise (the goal 'hc' behind k_head) from a wpAny of the law's body -/
theorem attach {l : OpenLaw} {n : Nat} {q : Program} {loose : List Str} {XP : (Str → Option Value) → Heap → Prop} {YP : World → Heap → Prop} {d : DefRec} {x : Str}
    (hn : l.most = some n) (hdf : d.params.defaults = [])
    (hbind : ∀ pm cd doc v : Value, bindArgs (docDef d.name d.params d.body d.scope pm cd doc) ⟨[v], []⟩ = pure [(x, v)])
    (hx : d.scope.names.lookup x = some .local ∨ d.scope.names.lookup x = some .cell)
    (hk : d.scope.kind = .function) (hco : d.scope.isCoroutine = false) (hgen : d.scope.isGenerator = false)
    (body : ∀ (w : World) (s₀ s₁ s : Shared) (mg mb : Str → Option Value) (fa : Addr) (o : Obj) (pm cd doc : Value) (a : Addr) (vs : List Value) (ns : List Int),
      Ground q loose [] XP w s₀ mg mb s₁.heap → YP w s₁.heap →
      s₁.heap.get? fa = some o → o.data = .func (docDef d.name d.params d.body d.scope pm cd doc) → s₁.heap.CodeRec cd d.name → mg d.name = some (.ref fa) →
      s₁.heap.get? a = some { cls := .type "list", data := .seq vs.toArray } → IntsAre vs ns → ns.length ≤ n →
      s.gens = #[] → s.os = s₁.os →
      Fr s₁.heap s₁.heap.objs.size s.heap (bindL (envOfC d.name d.scope s₁.heap.objs.size fa cd).kindOf [(x, .ref a)] fun _ => none) →
      Cl s₁.heap.objs.size (cellsFrom (s₁.heap.objs.size + 1) d.scope.names []) s.heap (bindC (envOfC d.name d.scope s₁.heap.objs.size fa cd).kindOf [(x, .ref a)] fun _ => none) →
      wpAny (model l.prog w) (callerA.deeper (envOfC d.name d.scope s₁.heap.objs.size fa cd)) (execs d.body (envOfC d.name d.scope s₁.heap.objs.size fa cd))
        (fun f s' => f = .ret (.bool true) ∧ OldK s₁.heap s'.heap ∧ s'.os = s₁.os ∧ AllBare s'.gens) (fun _ _ => False) s) :
    WalkO q loose XP YP l.row.toRowW d [] (fun f vs => PySem.call f vs) := by
  intro w s₀ s₁ mg mb G Y fa o pm cd doc dV kV ho hd hcd hD hmg hg args vals as hpre hlay hrd hwl hlo
  obtain rfl : dV = .none := Dflts.none hD hdf
  obtain rfl : kV = .none := Dflts.noKw hD
  obtain ⟨a, vs, ns, rfl, rfl, hobj, hints, hlen⟩ := script_of hn hpre hwl
  refine enter_call ?_
  refine call_cells_ret (o := o) (by rw [depth_caller]; decide) ho (fd_plain hd) G.T.nolimit hcd (hbind pm cd doc (.ref a)) (fun y hy => ?_) (fun h₁ tk F X => ?_) hco hgen hk
  · obtain rfl : y = (x, Value.ref a) := List.mem_singleton.mp hy
    rcases hx with e | e
    · exact .inl e
    · exact .inr ⟨e, cellsFrom_some _ _ _ (.inl e)⟩
  · refine wpAny_mono (body w s₀ s₁ { s₁ with heap := h₁, toks := tk } mg mb fa o pm cd doc a vs ns G Y ho (fd_plain hd) hcd hmg hobj hints hlen hg rfl F X) (fun f s' hq => ?_) (fun _ _ hq => hq)
    obtain ⟨rfl, h2, h3, h4⟩ := hq
    exact ⟨.inl ⟨.bool true, .bool true, [], rfl, fun _ => rfl, .bool true, post_true l _, fun _ => ⟨List.Pairwise.nil, fun _ hm => (nomatch hm)⟩⟩, h2, h3, h4⟩

/-- the same from a codeAny of the CALL (for a layer whose function contracts speak of calls) -/
theorem attach_call {l : OpenLaw} {n : Nat} {q : Program} {loose : List Str} {XP : (Str → Option Value) → Heap → Prop} {YP : World → Heap → Prop} {d : DefRec}
    (hn : l.most = some n) (hdf : d.params.defaults = [])
    (call : ∀ (w : World) (s₀ s₁ : Shared) (mg mb : Str → Option Value) (fa : Addr) (o : Obj) (pm cd doc : Value) (a : Addr) (vs : List Value) (ns : List Int),
      Ground q loose [] XP w s₀ mg mb s₁.heap → YP w s₁.heap →
      s₁.heap.get? fa = some o → o.data = .func (docDef d.name d.params d.body d.scope pm cd doc) → s₁.heap.CodeRec cd d.name → mg d.name = some (.ref fa) →
      s₁.heap.get? a = some { cls := .type "list", data := .seq vs.toArray } → IntsAre vs ns → ns.length ≤ n → s₁.gens = #[] →
      codeAny (model l.prog w) callerA (.call (.ref fa) ⟨[.ref a], []⟩) (fun r s' => r = .ok (.ret (.bool true)) ∧ OldK s₁.heap s'.heap ∧ s'.os = s₁.os ∧ AllBare s'.gens) s₁) :
    WalkO q loose XP YP l.row.toRowW d [] (fun f vs => PySem.call f vs) := by
  intro w s₀ s₁ mg mb G Y fa o pm cd doc dV kV ho hd hcd hD hmg hg args vals as hpre hlay hrd hwl hlo
  obtain rfl : dV = .none := Dflts.none hD hdf
  obtain rfl : kV = .none := Dflts.noKw hD
  obtain ⟨a, vs, ns, rfl, rfl, hobj, hints, hlen⟩ := script_of hn hpre hwl
  refine enter_call (codeAny_mono (call w s₀ s₁ mg mb fa o pm cd doc a vs ns G Y ho (fd_plain hd) hcd hmg hobj hints hlen hg) fun r s' hq => ?_)
  obtain ⟨rfl, h2, h3, h4⟩ := hq
  exact ⟨.inl ⟨.bool true, .bool true, [], rfl, fun _ => rfl, .bool true, post_true l _, fun _ => ⟨List.Pairwise.nil, fun _ hm => (nomatch hm)⟩⟩, h2, h3, h4⟩

/-- the same where the top left finished generators (o_head chose holds_openN): nothing may have changed at all and no generator may be left -/
theorem attachN {l : OpenLaw} {n : Nat} {q : Program} {loose : List Str} {XP : (Str → Option Value) → Heap → Prop} {YP : World → Heap → Prop} {d : DefRec} {x : Str}
    (hn : l.most = some n) (hdf : d.params.defaults = [])
    (hbind : ∀ pm cd doc v : Value, bindArgs (docDef d.name d.params d.body d.scope pm cd doc) ⟨[v], []⟩ = pure [(x, v)])
    (hx : d.scope.names.lookup x = some .local ∨ d.scope.names.lookup x = some .cell)
    (hk : d.scope.kind = .function) (hco : d.scope.isCoroutine = false) (hgen : d.scope.isGenerator = false)
    (body : ∀ (w : World) (s₀ s₁ s : Shared) (mg mb : Str → Option Value) (fa : Addr) (o : Obj) (pm cd doc : Value) (a : Addr) (vs : List Value) (ns : List Int),
      Ground q loose [] XP w s₀ mg mb s₁.heap → YP w s₁.heap →
      s₁.heap.get? fa = some o → o.data = .func (docDef d.name d.params d.body d.scope pm cd doc) → s₁.heap.CodeRec cd d.name → mg d.name = some (.ref fa) →
      s₁.heap.get? a = some { cls := .type "list", data := .seq vs.toArray } → IntsAre vs ns → ns.length ≤ n →
      s.gens = #[] → s.os = s₁.os →
      Fr s₁.heap s₁.heap.objs.size s.heap (bindL (envOfC d.name d.scope s₁.heap.objs.size fa cd).kindOf [(x, .ref a)] fun _ => none) →
      Cl s₁.heap.objs.size (cellsFrom (s₁.heap.objs.size + 1) d.scope.names []) s.heap (bindC (envOfC d.name d.scope s₁.heap.objs.size fa cd).kindOf [(x, .ref a)] fun _ => none) →
      wpAny (model l.prog w) (callerA.deeper (envOfC d.name d.scope s₁.heap.objs.size fa cd)) (execs d.body (envOfC d.name d.scope s₁.heap.objs.size fa cd))
        (fun f s' => f = .ret (.bool true) ∧ (∀ b o, s₁.heap.get? b = some o → s'.heap.get? b = some o) ∧ s'.os = s₁.os ∧ s'.gens = #[]) (fun _ _ => False) s) :
    WalkN q loose XP YP l.row.toRowW d [] (fun f vs => PySem.call f vs) := by
  intro w s₀ s₁ mg mb G Y fa o pm cd doc dV kV ho hd hcd hD hmg hg args vals as hpre hlay hrd hwl hlo
  obtain rfl : dV = .none := Dflts.none hD hdf
  obtain rfl : kV = .none := Dflts.noKw hD
  obtain ⟨a, vs, ns, rfl, rfl, hobj, hints, hlen⟩ := script_of hn hpre hwl
  refine enter_callW ?_
  refine call_cells_ret (o := o) (by rw [depth_caller]; decide) ho (fd_plain hd) G.T.nolimit hcd (hbind pm cd doc (.ref a)) (fun y hy => ?_) (fun h₁ tk F X => ?_) hco hgen hk
  · obtain rfl : y = (x, Value.ref a) := List.mem_singleton.mp hy
    rcases hx with e | e
    · exact .inl e
    · exact .inr ⟨e, cellsFrom_some _ _ _ (.inl e)⟩
  · refine wpAny_mono (body w s₀ s₁ { s₁ with heap := h₁, toks := tk } mg mb fa o pm cd doc a vs ns G Y ho (fd_plain hd) hcd hmg hobj hints hlen hg rfl F X) (fun f s' hq => ?_) (fun _ _ hq => hq)
    obtain ⟨rfl, h2, h3, h4⟩ := hq
    exact ⟨.inl ⟨.bool true, .bool true, [], rfl, fun _ => rfl, .bool true, post_true l _, fun _ => ⟨List.Pairwise.nil, fun _ hm => (nomatch hm)⟩⟩, h2, h3, h4⟩

/-! ### rules over ANY heap (no ledger) from facts about the written part K: the library's own take a ledger (News) for what they write -/
section
variable {prog : Program} {w : World} {A : Around} {E : Value → Shared → Prop} {s : Shared} {K : Frag}

/-- a def of the module, or a method (qual 'C.m'), entered: the frame is the next address; cells behind it -/
theorem call_fn {R : Result → Shared → Prop} {name qual : Str} {params : Arguments} {body : List Stmt} {scope : Scope} {dV kV doc pm cdv ct oc : Value} {an od : Option Addr} {osl : Array (Option Value)} {f : Addr} {args : Args} {binds : List (Str × Value)}
    (X : K.In s.heap) (hlim : s.heap.NoLimit) (ho : K.lookup f = some ⟨oc, od, .func (fnOf name qual params body scope dV kV doc pm an cdv ct), osl⟩) (hcd : codeIn K cdv qual = true) (hroom : A.depth < recursionLimit)
    (hbind : BindsTo s (fnOf name qual params body scope dV kV doc pm an cdv ct) args binds)
    (hkind : (binds.all fun y => scope.names.lookup y.1 == some .local || scope.names.lookup y.1 == some .cell) = true)
    (h : ∀ s₁, InCallC s s.heap.objs.size (bindL (envOfC qual scope s.heap.objs.size f cdv).kindOf binds fun _ => none) (cellsFrom (s.heap.objs.size + 1) scope.names [])
        (bindC (envOfC qual scope s.heap.objs.size f cdv).kindOf binds fun _ => none) s₁ →
      wpAny (model prog w) (A.deeper (envOfC qual scope s.heap.objs.size f cdv)) (execs body (envOfC qual scope s.heap.objs.size f cdv))
        (fun fl s' => R (.ok (.ret (match fl with | .ret v => v | _ => .none))) s')
        (fun e s' => wpAny (model prog w) (A.deeper (envOfC qual scope s.heap.objs.size f cdv)) (leaving (envOfC qual scope s.heap.objs.size f cdv) e) (fun _ s'' => R (.error e) s'') (fun e' s'' => R (.error e') s'') s') s₁)
    (hco : scope.isCoroutine = false) (hgen : scope.isGenerator = false) (hk : scope.kind = .function) : codeAny (model prog w) A (.call (.ref f) args) R s := by
  refine codeAny_call_function hroom (X _ _ ho) rfl hco hgen rfl (codeRec_of X hcd) (hbind _ _ _ _ ?_)
  refine wpAny_newFunctionEnv_cells hk (kindsX hkind _) fun env he s₁ x => ?_
  subst he
  exact ⟨hlim.keeps x.toInCall.keep, codeAny_func (h s₁ x)⟩

/-- C(..): dict at size, instance at size + 1, then __init__ -/
theorem make_obj {R : Result → Shared → Prop} {C fI : Addr} {rest : List Value} {kw : List (Str × Value)}
    (X : K.In s.heap) (hm : makesIn K C = true) (hi : findIn K (.ref C) "__init__" = some (some (.ref fI))) (hf : isFn K (.ref fI) = true)
    (h : codeAny (model prog w) (A.under (.builtin "type.__call__" ⟨.ref C :: rest, kw⟩)) (.call (.ref fI) ⟨.ref (s.heap.objs.size + 1) :: rest, kw⟩) (InitBack (s.heap.objs.size + 1) R)
      { s with heap := (s.heap.push emptyDict).push (instObj C s.heap.objs.size) }) : codeAny (model prog w) A (.call (.ref C) ⟨rest, kw⟩) R s := by
  obtain ⟨hh, g, d, t, os⟩ := s
  exact make_core (makes_of X hm) (looks_findIn X hi) (fun self => bind_fn X self (beq_iff_eq.mp hf)) (.inl rfl) h

/-- x.name where the instance's dict holds the name and the class does not -/
theorem get_field {x C : Addr} {ox : Obj} {es : List DictEntry} {n : Nat} {name : Str} {expr : Bool} {v : Value} {Q : Value → Shared → Prop}
    (X : K.In s.heap) (I : PySem.W.InstAt s.heap x ox C (some (dictOf es n))) (hg : plainGet K C name = true) (hh : hasDictIn K C = true) (ha : findIn K (.ref C) name = some none)
    (hl : getL name es = some (some v)) (hv : handedIn v = true) (h : Q v { s with toks := s.toks + 1 }) : wpAny (model prog w) A (getAttr (.ref x) name expr) Q E s :=
  get_value X I (plainGet_of hg).1 (findObj_own hh ha rfl hl) hv h

/-- x.m(..): the method found in the class -/
theorem get_method {x C f : Addr} {ox : Obj} {es : List DictEntry} {n : Nat} {name : Str} {pl : Sem Bool} {Q : Value × List Value → Shared → Prop}
    (X : K.In s.heap) (I : PySem.W.InstAt s.heap x ox C (some (dictOf es n))) (hg : plainGet K C name = true) (hf : findIn K (.ref C) name = some (some (.ref f))) (ht : isFn K (.ref f) = true)
    (hl : getL name es = some none) (h : Q (.ref f, [.ref x]) s) : wpAny (model prog w) A (getMethod (.ref x) name pl) Q E s :=
  method_fn X I (plainGet_of hg).1 (plainGet_of hg).2 hf (beq_iff_eq.mp ht) (by show (lookIn name (dictOf es n)).map _ = _; rw [lookIn_dict, hl]; rfl) h

/-! the whole heap as the ledger: makes every rule that writes through a ledger a rule over any heap -/
def noObjs (h : Heap) : Heap := { h with objs := #[] }
theorem noObjs_get (h : Heap) (b : Addr) : (noObjs h).get? b = none := by
  cases e : (noObjs h).get? b with
  | none => rfl
  | some o => exact absurd (Heap.lt_size e) (Nat.not_lt_zero _)
def ledger (h : Heap) (L d : Addr) : List (Addr × Obj) := (List.range h.objs.size).filterMap fun a => if a = L ∨ a = d then none else (h.get? a).map fun o => (a, o)
theorem mem_ledger {h : Heap} {L d a : Addr} {o : Obj} : (a, o) ∈ ledger h L d ↔ a ≠ L ∧ a ≠ d ∧ h.get? a = some o := by
  unfold ledger
  rw [List.mem_filterMap]
  constructor
  · rintro ⟨b, _, e⟩
    split at e
    · cases e
    · rename_i hb
      obtain ⟨o', ho, e'⟩ := Option.map_eq_some_iff.mp e
      cases e'
      exact ⟨fun q => hb (.inl q), fun q => hb (.inr q), ho⟩
  · rintro ⟨n1, n2, ho⟩
    refine ⟨a, List.mem_range.mpr (Heap.lt_size ho), ?_⟩
    rw [if_neg (show ¬ (a = L ∨ a = d) from fun q => q.elim n1 n2), ho] <;> rfl
theorem news_ledger {h : Heap} {L d : Addr} {od : Obj} (hne : d ≠ L) (ho : h.get? d = some od) : News (noObjs h) L h ([] ++ (d, od) :: ledger h L d) := by
  rintro ⟨a, o⟩ hp
  rcases List.mem_cons.mp hp with e | hp
  · cases e
    exact ⟨ho, hne, noObjs_get _ _⟩
  · obtain ⟨n1, n2, e⟩ := mem_ledger.mp hp
    exact ⟨e, n1, noObjs_get _ _⟩
theorem fr_all {h : Heap} {L : Addr} {m : Str → Option Value} (n : h.Ns L m) : Fr (noObjs h) L h m :=
  ⟨n, fun b o e => (by rw [noObjs_get] at e; cases e), Nat.zero_le _⟩
/-- Upd of the head entry (for append_K, setItem_K ..) -/
theorem upd_ledger {h : Heap} {L d : Addr} {o o' : Obj} : Upd d o o' ((d, o) :: ledger h L d) ((d, o') :: ledger h L d) :=
  .head fun ⟨_, _⟩ hp => (mem_ledger.mp hp).2.1

/-- x.name = v over any heap: L is any namespace of the heap (the frame's, say): its map stays, its object is not told; all else but the dict stays -/
theorem set_field {x C dx L : Addr} {ox : Obj} {m : Str → Option Value} {es es' : List DictEntry} {n n' : Nat} {name : Str} {v : Value} {Q : Unit → Shared → Prop}
    (X : K.In s.heap) (I : PySem.W.InstAt s.heap x ox C (some (dictOf es n))) (hd : ox.dict = some dx) (hL : s.heap.Ns L m) (hne : dx ≠ L)
    (hs : findIn K (.ref C) "__setattr__" = some (some (.builtin "object.__setattr__"))) (hp : plainOver K C = true) (ht : takerIn K C name = some none) (hh : hasDictIn K C = true) (hl : (getL name es).isSome = true)
    (e : (putL name (PyData.keyHash w.params name) (.str name (s.toks + 1)) v es, putN name es n) = (es', n')) (hz : es'.length ≤ 1000)
    (h : ∀ h' : Heap, h'.Ns L m → h'.get? dx = some (dictOf es' n') → (∀ b o, b ≠ dx → b ≠ L → s.heap.get? b = some o → h'.get? b = some o) → Q () { s with heap := h', toks := s.toks + 2 }) :
    wpAny (model prog w) A (setAttr (.ref x) name v) Q E s := by
  obtain ⟨e1, e2⟩ := Prod.mk.inj e
  have hdx : s.heap.get? dx = some (dictOf es n) := by
    have := I.dict
    rw [hd] at this
    exact this
  refine set_plain X I hs (osa_dict (s := { s with toks := s.toks + 1 }) (h₀ := noObjs s.heap) (L := L) (m := m) (od := dictOf es n) (od' := dictOf es' n') (es := es') (n := n') (pre := []) (post := ledger s.heap L dx)
    (fr_all hL) (news_ledger hne hdx) X I hd hp ht hh hl (fun _ q => nomatch q) (fun ⟨_, _⟩ q => (mem_ledger.mp q).2.1) (by rw [putName_dict, e1, e2]) rfl hz fun h' F' N' => ?_)
  exact h h' F'.ns (N'.get (List.Mem.head _)) fun b o n1 n2 ho => N'.get (List.Mem.tail _ (mem_ledger.mpr ⟨n2, n1, ho⟩))
end
end Att

namespace L2
open PySem PySem.Spec PyProof.Rows

theorem vals_ints : ∀ {vs : List Value} {ns : List Int}, IntsAre vs ns → Vals (ns.map V.int) vs
  | _, _, .nil => .nil
  | _, _, .cons n t h => .cons ⟨t, rfl⟩ (vals_ints h)

/-- nothing is tracked but the script, known to the object (or it is an object of the module) -/
def Only (H : Hp) : Prop := ∀ b, H b = none ∨ ∃ o xs, H b = some (.frz o (.lst xs))

/-- THE HEAD: the law's promise, at the heap behind the top. F, the promise of the law's def, may use that base is part of the heap (so K.In base, base.Ns mainGlobals mg stand in Mod) -/
theorem law_call {P : Program} {w : World} {K : PySem.W.Frag} {mg mb : Str → Option Value} {CX : CXT} {k : Nat} {fa a : Addr} {fd : FuncData} {x : Str} {sp : Sp} {s₁ : Shared} {vs : List Value} {ns : List Int}
    (KX : K.In s₁.heap) (hns : s₁.heap.Ns mainGlobals mg) (hb : s₁.heap.Ns builtinsNs mb) (hbb : ∀ x : Str, x ≠ "__name__" → mb x = bootBuiltins x) (hlim : s₁.heap.NoLimit) (hg : s₁.gens = #[])
    (ha : s₁.heap.get? a = some { cls := .type "list", data := .seq vs.toArray }) (hi : IntsAre vs ns) (hl : ns.length ≤ sizeLine) (hr : Room k callerA)
    (F : ∀ base : Heap, K.In base → base.Ns mainGlobals mg → FnOk P w K mg base CX k fa fd [x] sp) (hbind : ∀ (s : Shared) (u : Value), BindsTo s fd ⟨[u], []⟩ [(x, u)])
    (hsp : ∀ H : Hp, Only H → SqL K H a (ns.map V.int) → sp [.ref a] H (fun v _ => v = .bl true) fun _ _ _ => False)
    (hCX : ∀ H e s', CX [] H s₁ (fun _ _ _ => False) e s' → False) :
    codeAny (model P w) callerA (.call (.ref fa) ⟨[.ref a], []⟩) (fun r s' => r = .ok (.ret (.bool true)) ∧ OldK s₁.heap s'.heap ∧ s'.os = s₁.os ∧ AllBare s'.gens) s₁ := by
  have rv := vals_ints hi
  have lenV := hi.length
  -- from an abstract heap in which nothing but the script may be tracked
  have core : ∀ H : Hp, Only H → SqL K H a (ns.map V.int) → HOk P w H s₁.heap → (∀ b, H b ≠ none → b = a) → (H a ≠ none → K.lookup a = none) →
      codeAny (model P w) callerA (.call (.ref fa) ⟨[.ref a], []⟩) (fun r s' => r = .ok (.ret (.bool true)) ∧ OldK s₁.heap s'.heap ∧ s'.os = s₁.os ∧ AllBare s'.gens) s₁ := by
    intro H hO hS hok hA hK
    have base_of : ∀ {b : Addr} {o : Obj}, s₁.heap.get? b = some o → H b = none → (hidT s₁.heap H).get? b = some o := fun e n => hidT_get e n
    have noA : ∀ {b : Addr} {o : Obj} {es : Array DictEntry} {ep : Nat}, s₁.heap.get? b = some o → o.data = .dict es ep → H b = none := fun {b o es ep} e d => by
      cases q : H b with
      | none => rfl
      | some u =>
        have e' : b = a := hA b (by rw [q]; simp)
        subst e'
        rw [ha] at e; cases e
        have d' : Data.seq vs.toArray _ = Data.dict es ep := d
        cases d'
    have nsK : ∀ {b : Addr} {m : Str → Option Value}, s₁.heap.Ns b m → (hidT s₁.heap H).Ns b m := fun {b m} ⟨o, es, ep, e, d, r⟩ => ⟨o, es, ep, base_of e (noA e d), d, r⟩
    have hKb : K.In (hidT s₁.heap H) := fun b o e => base_of (KX b o e) (by
      cases q : H b with
      | none => rfl
      | some u =>
        have e' : b = a := hA b (by rw [q]; simp)
        subst e'
        rw [hK (by rw [q]; simp)] at e; cases e)
    have hM : Mod K mg (hidT s₁.heap H) := ⟨hKb, nsK hns, ⟨mb, nsK hb, hbb⟩, let ⟨mc, h1, h2⟩ := hlim; ⟨mc, nsK h1, h2⟩⟩
    have e0 : Env0 P w K mg (hidT s₁.heap H) callerA [] s₁ H := ⟨rfl, hM, fun b o e => of_hidT e, Nat.le_of_eq (hidT_size _ _), trivial, fun b hb => absurd (show b ∈ ([] : List Addr) from hb) (by simp), hok, .of_eq hg⟩
    refine codeAny_mono ((F _ hKb (nsK hns)).run callerA [] s₁ H ⟨[.ref a], []⟩ [.ref a] [.ref a] _ _ hr e0 (hbind s₁ (.ref a)) (.cons rfl .nil) (hsp H hO hS)) fun r s' h => ?_
    cases r with
    | error e => exact (hCX H e s' h).elim
    | ok fl =>
      cases fl with
      | next => exact False.elim h
      | brk => exact False.elim h
      | cont => exact False.elim h
      | ret u =>
        obtain ⟨v, H', os, bare, un, hok', r', q⟩ := h
        have q' : v = .bl true := q
        subst q'
        obtain rfl : u = Value.bool true := r'
        refine ⟨rfl, OldK.of_keep fun b o e => ?_, os, bare⟩
        cases q : H b with
        | none => exact un.keep b o e q (by intro z; exact absurd (show b ∈ ([] : List Addr) from z) (by simp)) (by simp)
        | some u =>
          rcases hO b with z | ⟨ob, xs, z⟩
          · rw [q] at z; cases z
          · have z2 := un.frzs b ob _ z
            obtain ⟨e1, _⟩ := hok b _ z
            obtain ⟨e2, _⟩ := hok' b _ z2
            rw [e] at e1; cases e1
            exact e2
  cases hk : K.lookup a with
  | some o =>
    -- the script is one of the module's own objects
    have e := KX a o hk
    rw [ha] at e
    cases e
    refine core (fun _ => none) (fun _ => .inl rfl) (.inr ⟨_, vs.toArray, _, hk, rfl, rfl, rfl, by rw [List.size_toArray, lenV]; exact hl, by simpa using rv⟩) (fun b u z => by have z' : (none : Option HO) = some u := z; cases z') (fun b z => absurd rfl z) fun z => absurd rfl z
  | none =>
    refine core (fun b => if b = a then some (.frz { cls := .type "list", data := .seq vs.toArray } (.lst (ns.map V.int))) else none) (fun b => ?_) (.inl (.inr ⟨{ cls := .type "list", data := .seq vs.toArray }, if_pos rfl⟩)) (fun b u z => ?_) (fun b z => ?_) fun _ => hk
    · by_cases hb : b = a
      · exact .inr ⟨_, _, if_pos hb⟩
      · exact .inl (if_neg hb)
    · by_cases hb : b = a
      · have z' := (if_pos hb).symm.trans z
        cases z'
        subst hb
        exact ⟨ha, by rw [List.length_map]; exact hl, vs, _, rv, ha⟩
      · have z' := (if_neg hb).symm.trans z
        cases z'
    · by_cases hb : b = a
      · exact hb
      · exact absurd (if_neg hb) z
end L2

namespace L2
open PySem PySem.Spec PyProof.Rows

abbrev KOf {K : PySem.W.Frag} {h : Heap} (_ : K.In h) : PySem.W.Frag := K

/-- the goal that k_head leaves (case hc), from the law's promise. F gives the function object fd (K's own) once, then the promise over every base -/
theorem walk_of {l : PySem.W.OpenLaw} {n k : Nat} {q : Program} {loose : List Str} {XP : (Str → Option Value) → Heap → Prop} {YP : World → Heap → Prop} {d : DefRec} {K : Params → PySem.W.Frag} {CX : World → CXT} {sp : World → Sp} {x : Str}
    (hn : l.most = some n) (hn2 : n ≤ sizeLine) (hdf : d.params.defaults = []) (hr : Room k callerA)
    (hY : ∀ (w : World) (h : Heap), YP w h → (K w.params).In h)
    (F : ∀ (w : World) (mg : Str → Option Value) (fa : Addr) (h : Heap), (K w.params).In h → h.Ns mainGlobals mg → mg d.name = some (.ref fa) →
      ∃ fd : FuncData, (∀ (s : Shared) (u : Value), BindsTo s fd ⟨[u], []⟩ [(x, u)]) ∧
        ∀ base : Heap, (K w.params).In base → base.Ns mainGlobals mg → FnOk l.prog w (K w.params) mg base (CX w) k fa fd [x] (sp w))
    (hsp : ∀ (w : World) (H : Hp) (a : Addr) (ns : List Int), ns.length ≤ n → Only H → SqL (K w.params) H a (ns.map V.int) → sp w [.ref a] H (fun v _ => v = .bl true) fun _ _ _ => False)
    (hCX : ∀ (w : World) (H : Hp) (s : Shared) (e : Value) (s' : Shared), CX w [] H s (fun _ _ _ => False) e s' → False) :
    PySem.W.WalkO q loose XP YP l.row.toRowW d [] (fun f vs => PySem.call f vs) := by
  refine Att.attach_call hn hdf fun w s₀ s₁ mg mb fa o pm cd doc a vs ns G Y ho hd hcd hmg hobj hints hlen hg => ?_
  have KX := hY w _ Y
  obtain ⟨fd, hb, hF⟩ := F w mg fa _ KX G.T.g hmg
  exact law_call KX G.T.g G.T.b G.T.builtins G.T.nolimit hg hobj hints (Nat.le_trans hlen hn2) hr hF hb (fun H hO hS => hsp w H a ns hlen hO hS) fun H e s' => hCX w H s₁ e s'
/-- the same where the promise hangs on the written part alone: (sp := My.sp_law), no hole under a binder -/
theorem walk_ofK {l : PySem.W.OpenLaw} {n k : Nat} {q : Program} {loose : List Str} {XP : (Str → Option Value) → Heap → Prop} {YP : World → Heap → Prop} {d : DefRec} {K : Params → PySem.W.Frag} {CX : CXT} {sp : PySem.W.Frag → Sp} {x : Str}
    (hn : l.most = some n) (hn2 : n ≤ sizeLine) (hdf : d.params.defaults = []) (hr : Room k callerA)
    (hY : ∀ (w : World) (h : Heap), YP w h → (K w.params).In h)
    (F : ∀ (w : World) (mg : Str → Option Value) (fa : Addr) (h : Heap), (K w.params).In h → h.Ns mainGlobals mg → mg d.name = some (.ref fa) →
      ∃ fd : FuncData, (∀ (s : Shared) (u : Value), BindsTo s fd ⟨[u], []⟩ [(x, u)]) ∧
        ∀ base : Heap, (K w.params).In base → base.Ns mainGlobals mg → FnOk l.prog w (K w.params) mg base CX k fa fd [x] (sp (K w.params)))
    (hsp : ∀ (K : PySem.W.Frag) (H : Hp) (a : Addr) (ns : List Int), ns.length ≤ n → Only H → SqL K H a (ns.map V.int) → sp K [.ref a] H (fun v _ => v = .bl true) fun _ _ _ => False)
    (hCX : ∀ (H : Hp) (s : Shared) (e : Value) (s' : Shared), CX [] H s (fun _ _ _ => False) e s' → False) :
    PySem.W.WalkO q loose XP YP l.row.toRowW d [] (fun f vs => PySem.call f vs) :=
  walk_of (K := K) (CX := fun _ => CX) (sp := fun w => sp (K w.params)) hn hn2 hdf hr hY F (fun w H a ns h1 h2 h3 => hsp (K w.params) H a ns h1 h2 h3) fun _ H s e s' => hCX H s e s'
end L2



/-! SHORT WORDS over the layer: a def of the text, its body, what a loop and a test want. -/
namespace L2
open PySem PySem.Spec PyProof.Rows

/-! ### the text by places -/
/-- the j-th statement of a class's body -/
def inClass (s : Stmt) (j : Nat) : Stmt := match s with
  | .ClassDef _ _ _ body _ _ _ _ _ _ _ => body.getD j (.Pass ⟨0, 0, 0, 0⟩)
  | _ => .Pass ⟨0, 0, 0, 0⟩
def defArgs (s : Stmt) : Arguments := match s with
  | .FunctionDef _ a _ _ _ _ _ _ _ _ => a
  | _ => { posonlyargs := [], args := [], vararg := none, kwonlyargs := [], kw_defaults := [], kwarg := none, defaults := [] }
def defBody (s : Stmt) : List Stmt := match s with
  | .FunctionDef _ _ b _ _ _ _ _ _ _ => b
  | _ => []
def defScope (s : Stmt) : Scope := match s with
  | .FunctionDef _ _ _ _ _ _ sc _ _ _ => sc
  | _ => { kind := .function, names := [], isGenerator := false, isCoroutine := false }

/-! ### no exception leaves a def -/
abbrev CX0 : CXT := fun _ _ _ _ _ _ => False
abbrev E0 : XK := fun _ _ _ => False
theorem pass0 {X : Cx} : Passes CX0 X E0 := fun _ _ _ _ _ _ _ h => h.elim

/-! ### a def (or method) of the text as it stands behind the top -/
structure Fun (K : PySem.W.Frag) (x qual : Str) (st : Stmt) (f : Addr) (fd : FuncData) : Prop where
  ex : ∃ (oc : Value) (od : Option Addr) (kV doc pm : Value) (an : Option Addr) (cdv ct : Value) (osl : Array (Option Value)),
    fd = PySem.W.fnOf x qual (defArgs st) (defBody st) (defScope st) .none kV doc pm an cdv ct ∧ K.lookup f = some ⟨oc, od, .func fd, osl⟩ ∧ PySem.W.codeIn K cdv qual = true
  kp : PySem.W.keepIn K (.ref f) = true
section
variable {P : Program} {w : World} {K : PySem.W.Frag} {mg : Str → Option Value} {base : Heap}
/-- THE RULE for a def: its body as a term of rules, and the reading of that term -/
theorem Fun.ok {x qual : Str} {st : Stmt} {f : Addr} {fd : FuncData} {N ps : List Str} {k : Nat} {sp : Sp} (F : Fun K x qual st f fd) (S : FnScope N ps (defScope st)) (len : ∀ vs H Q E, sp vs H Q E → vs.length = ps.length)
    (hbody : ∀ (cdv : Value) (A : Around) (outer : List Env) (s : Shared) (H : Hp) (vs : List V) (Q : VK) (E : XK), Room k (A.deeper (envOfC qual (defScope st) s.heap.objs.size f cdv)) → sp vs H Q E →
      ∃ t, PSs (cxOf CX0 P w K mg base N qual (defScope st) f cdv A outer s H E).nox (defBody st) t ∧ t { nx := fun _ H' => Q .non H', rt := Q } (start N vs) H) : FnOk P w K mg base CX0 (k + 1) f fd ps sp := by
  obtain ⟨oc, od, kV, doc, pm, an, cdv, ct, osl, rfl, lk, hcd⟩ := F.ex
  refine fn_of lk hcd S len fun A outer s H vs Q E hr hsp => ?_
  obtain ⟨t, h, q⟩ := hbody cdv A outer s H vs Q E hr hsp
  exact ⟨t, h.nox, q⟩
/-- how its arguments bind (no defaults): h is «fun _ _ _ _ _ _ us hl => match us, hl with | [_, _], _ => rfl», one _ a parameter -/
theorem Fun.binds {x qual : Str} {st : Stmt} {f : Addr} {fd : FuncData} {ps : List Str} (F : Fun K x qual st f fd)
    (h : ∀ (kV doc pm : Value) (an : Option Addr) (cdv ct : Value) (us : List Value), us.length = ps.length → bindArgs (PySem.W.fnOf x qual (defArgs st) (defBody st) (defScope st) .none kV doc pm an cdv ct) ⟨us, []⟩ = pure (ps.zip us)) : Binds K fd ps [] := by
  obtain ⟨oc, od, kV, doc, pm, an, cdv, ct, osl, rfl, lk, hcd⟩ := F.ex
  exact .all (h kV doc pm an cdv ct)
theorem fun_mk {x qual : Str} {st : Stmt} {f : Addr} {oc : Value} {od an : Option Addr} {osl : Array (Option Value)} {kV doc pm cdv ct : Value} (l : K.lookup f = some ⟨oc, od, .func (PySem.W.fnOf x qual (defArgs st) (defBody st) (defScope st) .none kV doc pm an cdv ct), osl⟩)
    (c : PySem.W.codeIn K cdv qual = true) (k : PySem.W.keepIn K (.ref f) = true) : Fun K x qual st f (PySem.W.fnOf x qual (defArgs st) (defBody st) (defScope st) .none kV doc pm an cdv ct) := ⟨⟨oc, od, kV, doc, pm, an, cdv, ct, osl, rfl, l, c⟩, k⟩
end
theorem hu_of {A : Around} {k : Nat} (hr : Room k A) : A.units + 1 < cLine := Nat.lt_of_le_of_lt (Nat.add_le_add_left (by decide : 1 ≤ 64) _) hr.units
theorem small1000 {n : Nat} (h : n ≤ 1000) : n < sizeLine := Nat.lt_of_le_of_lt h (by decide)

/-! ### expressions in short: the name that stands in the i-th slot -/
section
variable {X : Cx}
theorem pv (i : Nat) {x : Str} {pos : Pos} (hN : X.N[i]? = some x := by rfl) (hv : Vis X.env.scope x := by first | exact Or.inl rfl | exact Or.inr (Or.inl rfl) | exact Or.inr (Or.inr rfl)) (hd : (x == ("__debug__" : Str)) = false := by decide)
    (hcd : (x == ("__classdict__" : Str)) = false := by decide) : PE X (.Name x pos) (tVar i) := pe_var hN hv hd hcd
end

/-! ### tests -/
theorem iteF {A B : Prop} (h : B) : if false = true then A else B := by
  rw [if_neg Bool.false_ne_true]
  exact h
theorem iteT {A B : Prop} (h : A) : if true = true then A else B := by
  rw [if_pos rfl]
  exact h
theorem ite2 {c A B : Prop} [Decidable c] (h1 : c → A) (h2 : ¬ c → B) : if c then A else B := by
  by_cases h : c
  · rw [if_pos h]
    exact h1 h
  · rw [if_neg h]
    exact h2 h
theorem iteNS {c A B : Prop} [Decidable c] (hc : c) (h : B) : if (!decide c) = true then A else B := by
  rw [decide_eq_true hc]
  exact iteF h

/-! ### heaps -/
/-- all that was tracked is as it was -/
def Same (H H' : Hp) : Prop := ∀ b o, H b = some o → H' b = some o
theorem Same.refl (H : Hp) : Same H H := fun _ _ h => h
theorem Same.trans {H H1 H2 : Hp} (a : Same H H1) (b : Same H1 H2) : Same H H2 := fun c o h => b c o (a c o h)
theorem Same.free {H H' : Hp} (e : Same H H') {l : Addr} (h : H' l = Option.none) : H l = Option.none := by
  cases q : H l with
  | none => rfl
  | some o =>
    rw [e l o q] at h
    cases h
theorem Same.seq {K : PySem.W.Frag} {H H' : Hp} {a : Addr} {xs : List V} (e : Same H H') (h : SqL K H a xs) : SqL K H' a xs := by
  rcases h with (h | ⟨o, h⟩) | h
  · exact .inl (.inl (e _ _ h))
  · exact .inl (.inr ⟨o, e _ _ h⟩)
  · exact .inr h

end L2

set_option Elab.async false
set_option linter.all false
set_option maxRecDepth 100000
set_option maxHeartbeats 4000000
/-! list comprehensions over the hand layer -/
namespace L2
open PySem PySem.Spec PyProof.Rows

/-! ### the closure -/
def cloOf (cells : List (Str × Addr)) : List (Str × NameKind) → List (Str × Addr) → List (Str × Addr)
  | [], cs => cs
  | (n, k) :: r, cs => cloOf cells r (if (k == NameKind.free) = true then (match cells.lookup n with | some a => (n, a) :: cs | none => cs) else cs)
theorem clo_forIn (env : Env) : ∀ (l : List (Str × NameKind)) (cs : List (Str × Addr)), (∀ y ∈ l, y.2 = .free → ∃ c, env.cells.lookup y.1 = some c) →
    (forIn l cs fun x r => match x with | (name, kind) => if (kind == NameKind.free) = true then do let a ← cellOf env name; pure (ForInStep.yield ((name, a) :: r)) else pure (ForInStep.yield r)) = (pure (cloOf env.cells l cs) : Sem (List (Str × Addr)))
  | [], cs, _ => rfl
  | (n, k) :: l, cs, h => by
    have ih := fun cs => clo_forIn env l cs fun y hy => h y (List.mem_cons_of_mem _ hy)
    rw [List.forIn_cons]
    unfold cloOf
    by_cases hk : k = .free
    · subst hk
      obtain ⟨c, hc⟩ := h (n, .free) List.mem_cons_self rfl
      have e : cellOf env n = pure c := by unfold cellOf; rw [hc]
      simp only [beq_self_eq_true, if_true, e, hc, pure_bind]
      exact ih _
    · have hb : (k == NameKind.free) = false := by simpa using hk
      simp only [hb, Bool.false_eq_true, if_false, pure_bind]
      exact ih _
theorem clo_eq {scope : Scope} {env : Env} (h : ∀ y ∈ scope.names, y.2 = .free → ∃ c, env.cells.lookup y.1 = some c) : closureFor scope env = pure (cloOf env.cells scope.names []) := by
  unfold closureFor
  simp only [bind_pure]
  exact clo_forIn env scope.names [] h
theorem clo_sub (cells : List (Str × Addr)) : ∀ (l : List (Str × NameKind)) (cs : List (Str × Addr)), (∀ x c, cs.lookup x = some c → cells.lookup x = some c) → ∀ x c, (cloOf cells l cs).lookup x = some c → cells.lookup x = some c
  | [], cs, h, x, c, e => h x c e
  | (n, k) :: l, cs, h, x, c, e => by
    unfold cloOf at e
    refine clo_sub cells l _ ?_ x c e
    intro y d q
    split at q
    · cases hc : cells.lookup n with
      | none => rw [hc] at q; exact h y d q
      | some a =>
        rw [hc] at q
        simp only [List.lookup_cons] at q
        cases hy : y == n with
        | true =>
          rw [hy] at q
          have : y = n := by simpa using hy
          subst this
          rw [hc]; exact q
        | false => rw [hy] at q; exact h y d q
    · exact h y d q
theorem clo_keep (cells : List (Str × Addr)) : ∀ (l : List (Str × NameKind)) (cs : List (Str × Addr)) (x : Str), (∃ c, cs.lookup x = some c) → ∃ c, (cloOf cells l cs).lookup x = some c
  | [], cs, x, h => h
  | (n, k) :: l, cs, x, h => by
    unfold cloOf
    refine clo_keep cells l _ x ?_
    split
    · split
      · simp only [List.lookup_cons]
        split
        · exact ⟨_, rfl⟩
        · exact h
      · exact h
    · exact h
theorem clo_has (cells : List (Str × Addr)) : ∀ (l : List (Str × NameKind)) (cs : List (Str × Addr)) (x : Str), (x, NameKind.free) ∈ l → (∃ c, cells.lookup x = some c) → ∃ c, (cloOf cells l cs).lookup x = some c
  | [], cs, x, h, _ => by simp at h
  | (n, k) :: l, cs, x, h, hc => by
    unfold cloOf
    rcases List.mem_cons.mp h with e | h
    · cases e
      obtain ⟨c, hc⟩ := hc
      simp only [beq_self_eq_true, if_true, hc]
      exact clo_keep cells l _ _ ⟨c, by simp [List.lookup_cons]⟩
    · exact clo_has cells l _ x h hc

/-! ### the block's context -/
def blk (X : Cx) (N' : List Str) (scope : Scope) (s : Shared) (H : Hp) (ex : List Addr) : Cx :=
  { X with N := N', s₀ := s, H₀ := H, env := compEnvC scope (cloOf X.env.cells scope.names []) s.heap.objs.size X.env, outer := X.stack, stack := X.stack, ex := ex, fn := fun _ => false, pn := [], xe := fun _ _ => False }
def pick (σ : St) (js : List (Option Nat)) : St := js.map fun j => match j with | none => none | some i => (σ[i]?).getD none
/-- what is captured -/
def capOk (N : List Str) (sc : Scope) (N' : List Str) (scope : Scope) (js : List (Option Nat)) : Bool :=
  (N'.length == js.length) && (N'.zip js).all fun p => match p.2 with
    | none => true
    | some i => decide (N[i]? = some p.1) && (decide (sc.names.lookup p.1 = some .cell) || decide (sc.names.lookup p.1 = some .free)) && decide (scope.names.lookup p.1 = some .free)
def freeOk (sc scope : Scope) : Bool := scope.names.all fun y => (y.2 != .cell) && ((y.2 != .free) || (decide (sc.names.lookup y.1 = some .cell) || decide (sc.names.lookup y.1 = some .free))) && ((y.2 != .local) || decide (scope.names.lookup y.1 = some .local))

theorem relabel_look {env : Env} {x : Str} {k : NameKind} : ∀ {names : List (Str × NameKind)},
    (names.map fun (n, k) => if (k == NameKind.free && env.scope.kind == .function && env.kindOf n == some .cell) then (n, NameKind.cell) else (n, k)).lookup x = some k →
    names.lookup x = some k ∨ (names.lookup x = some .free ∧ k = .cell)
  | [], h => by simp at h
  | (n, j) :: r, h => by
    have ih := @relabel_look env x k r
    simp only [List.map_cons] at h
    by_cases hc : (j == NameKind.free && env.scope.kind == .function && env.kindOf n == some .cell) = true
    · rw [if_pos hc] at h
      have hj : j = .free := by
        have := (Bool.and_eq_true _ _).mp ((Bool.and_eq_true _ _).mp hc).1
        simpa using this.1
      subst hj
      cases hx : x == n with
      | true =>
        simp only [List.lookup_cons, hx] at h ⊢
        cases h
        exact .inr (by simp)
      | false =>
        simp only [List.lookup_cons, hx] at h ⊢
        exact ih h
    · rw [if_neg hc] at h
      cases hx : x == n with
      | true => simp only [List.lookup_cons, hx] at h ⊢; exact .inl h
      | false => simp only [List.lookup_cons, hx] at h ⊢; exact ih h
theorem relabel_free {env : Env} {x : Str} : ∀ {names : List (Str × NameKind)}, names.lookup x = some .free →
    (names.map fun (n, k) => if (k == NameKind.free && env.scope.kind == .function && env.kindOf n == some .cell) then (n, NameKind.cell) else (n, k)).lookup x = some .cell ∨
    (names.map fun (n, k) => if (k == NameKind.free && env.scope.kind == .function && env.kindOf n == some .cell) then (n, NameKind.cell) else (n, k)).lookup x = some .free
  | [], h => by simp at h
  | (n, j) :: r, h => by
    have ih := @relabel_free env x r
    simp only [List.map_cons]
    cases hx : x == n with
    | true =>
      simp only [List.lookup_cons, hx] at h
      cases h
      by_cases hc : (NameKind.free == NameKind.free && env.scope.kind == .function && env.kindOf n == some .cell) = true
      · rw [if_pos hc]; exact .inl (by simp [List.lookup_cons, hx])
      · rw [if_neg hc]; exact .inr (by simp [List.lookup_cons, hx])
    | false =>
      simp only [List.lookup_cons, hx] at h
      by_cases hc : (j == NameKind.free && env.scope.kind == .function && env.kindOf n == some .cell) = true
      · rw [if_pos hc]; simp only [List.lookup_cons, hx]; exact ih h
      · rw [if_neg hc]; simp only [List.lookup_cons, hx]; exact ih h

section
variable {X : Cx} {pins : List (Addr × Obj)} {σ : St} {H H' : Hp} {s : Shared}
/-- an untracked object of ours is tracked from now on -/
theorem Inv.adopt {l : Addr} {o : HO} (I : Inv X pins σ H s) (hn : H l = none) (hL : l ≠ X.env.locals) (h1 : l ∈ X.ex ∨ X.s₀.heap.objs.size ≤ l)
    (h2 : ∀ x c, X.env.cells.lookup x = some c → c ≠ l) (h3 : ∀ p ∈ X.pn ++ pins, p.1 ≠ l) (new : ObjOk X.prog X.w (upd H l o) s.heap l o) : Inv X pins σ (upd H l o) s := by
  have nl : ∀ b u, H b = some u → b ≠ l := fun b u e z => by rw [z, hn] at e; cases e
  have := I.step (H' := upd H l o) (h' := s.heap) (g' := s.gens) (t' := s.toks) (d' := s.drawn) (ch := [l])
    (fun b hb => by have e : b = l := by simpa using hb
                    subst e; exact ⟨h1, hL, h2, h3⟩)
    (fun b o _ _ _ e _ => e) (fun b o _ _ _ e _ => ⟨o.slots, e⟩) (fun b o hc e n => by rw [upd_ne (fun z => hc (by simp [z]))]; exact n) (fun b o _ e => ⟨o, e⟩)
    (fun b xs e => by rw [upd_ne (nl b _ e)]; exact e) (fun b o u e => by rw [upd_ne (nl b _ e)]; exact e) (fun b ps e => ⟨#[], by rw [upd_ne (nl b _ e), e]; simp⟩) (fun m hm => hm)
    (fun b u e => by
      by_cases hb : b = l
      · subst hb; rw [upd_same] at e; cases e; exact new
      · rw [upd_ne hb] at e
        exact (I.hok b u e).stay (fun c v _ q => q) (fun c q => by rw [upd_ne (nl c _ q)]; exact q) fun c xs q => by rw [upd_ne (nl c _ q)]; exact q) I.bare
  exact this
end

/-! ### the turns -/
section
variable {prog : Program} {w : World} {A : Around} {R : Result → Shared → Prop} {s : Shared}
theorem compLoop_gen {elt target iter : Expr} {ifs : List Expr} {scope : Scope} {pos : Pos} {it acc : Value} {env : Env} (I : Nat → Shared → Prop)
    (turn : ∀ n s, I n s → wpAny (model prog w) A (pyNext it) (fun r s₁ => match r with
      | none => R (.ok .next) s₁
      | some v => wpAny (model prog w) A (letOwnedTupleGo target it v) (fun _ s₁' => wpAny (model prog w) A (assign target env v) (fun _ s₂ =>
          wpAny (model prog w) A (forIn ifs true fun c r => if r = true then do let ok ← isTrue c env (eval c env); pure (ForInStep.yield ok) else pure (ForInStep.yield r)) (fun ok s₃ =>
            if ok = true then wpAny (model prog w) A (eval elt env) (fun x s₄ =>
              wpAny (model prog w) A (call (.builtin "list.append") [acc, x]) (fun _ s₅ => ∃ m, m < n ∧ I m s₅) (fun _ _ => False) s₄) (fun _ _ => False) s₃
            else ∃ m, m < n ∧ I m s₃) (fun _ _ => False) s₂) (fun _ _ => False) s₁') (fun _ _ => False) s₁) (fun _ _ => False) s)
    (n : Nat) (h : I n s) :
    codeAny (model prog w) A (.compLoop (.ListComp elt [⟨target, iter, ifs, 0⟩] scope pos) 0 it acc env) R s := by
  refine codeAny_loop rfl I (fun n s hI => ?_) n h
  show wpAny _ A ((compTurn (.ListComp elt [⟨target, iter, ifs, 0⟩] scope pos) 0 it acc env).onRaise (fun x => do noteFrame x env; theTreesLotGoes x)) _ _ s
  refine wpAny_noted ?_
  rw [compTurn_list]
  refine wpAny_bind (wpAny_standAt (wpAny_bind (wpAny_mono (turn n s hI) (fun r s₁ h₁ => ?_) fun _ _ h' => h'.elim)))
  cases r with
  | none => exact wpAny_pure h₁
  | some v =>
    refine wpAny_bind (wpAny_mono h₁ (fun _ s₁' h₁' => ?_) fun _ _ h' => h'.elim)
    refine wpAny_bind (wpAny_mono h₁' (fun _ s₂ h₂ => wpAny_bind (wpAny_mono h₂ (fun ok s₃ h₃ => ?_) fun _ _ h' => h'.elim)) fun _ _ h' => h'.elim)
    cases ok with
    | false => exact wpAny_pure ⟨rfl, h₃⟩
    | true =>
      exact wpAny_bind (wpAny_bind (wpAny_mono h₃ (fun x s₄ h₄ => wpAny_bind (wpAny_mono h₄ (fun _ s₅ h₅ => wpAny_pure (wpAny_pure ⟨rfl, h₅⟩)) fun _ _ h' => h'.elim)) fun _ _ h' => h'.elim))
end

/-- the tests of a comprehension -/
def PF (X : Cx) (ifs : List Expr) (t : TT) : Prop :=
  ∀ (pins : List (Addr × Obj)) (s : Shared) (σ : St) (H : Hp) (Q : Bool → Hp → Prop), Inv X pins σ H s → t σ H Q →
    wpAny (model X.prog X.w) X.A (forIn ifs true fun c r => if r = true then do let ok ← isTrue c X.env (eval c X.env); pure (ForInStep.yield ok) else pure (ForInStep.yield r)) (TP X pins σ Q) X.xe s
def tYes : TT := fun _ H Q => Q true H
theorem pf_nil {X : Cx} : PF X [] tYes := fun _ _ _ H _ I h => wpAny_tests_nil ⟨H, I, h⟩
theorem pf_one {X : Cx} {c : Expr} {t : TT} (hc : PT X c t) : PF X [c] t := fun pins s σ H Q I h => wpAny_tests_one (hc pins s σ H Q I h)

/-- a comprehension over J: W the word of the turn, a measure, the items so far, the heap -/
def lcGo (J : It) (js : List (Option Nat)) (g : TG) (tt : TT) (te : TE) (σ : St) (H1 : Hp) (Q : VK) : Prop :=
  ∃ W : Nat → Nat → List V → Hp → Prop, (∃ m, W 0 m [] H1) ∧ ∀ i m acc H, W i m acc H →
    (J.stop i H ∧ acc.length ≤ sizeLine ∧ ∀ l, H l = none → Q (.ref l) (upd H l (.lst acc))) ∨
    (J.go i H ∧ acc.length < sizeLine ∧ ∀ x H', J.yld i H x H' → g x (pick σ js) H' fun σ2 H2 => tt σ2 H2 fun b H3 =>
      if b = true then te σ2 H3 fun v H4 => ∃ m', m' < m ∧ W (i + 1) m' (acc ++ [v]) H4 else ∃ m', m' < m ∧ W (i + 1) m' acc H3)
def tLC (wi : TI) (js : List (Option Nat)) (g : TG) (tt : TT) (te : TE) : TE := fun σ H Q => wi σ H fun J H1 => lcGo J js g tt te σ H1 Q

section
variable {X : Cx} {elt tgt iter : Expr} {ifs : List Expr} {scope : Scope} {pos : Pos} {N' : List Str} {js : List (Option Nat)} {wi : TI} {g : TG} {tt : TT} {te : TE}

theorem blk_ok {pins : List (Addr × Obj)} {σ : St} {H : Hp} {s : Shared} {ex : List Addr} (I : Inv X pins σ H s) (hk : scope.kind = .function) (hf : freeOk X.env.scope scope = true)
    (hex : ∀ b ∈ ex, (b ∈ X.ex ∨ X.s₀.heap.objs.size ≤ b) ∧ b ≠ X.env.locals ∧ b ∉ X.fs ∧ (∀ x c, X.env.cells.lookup x = some c → c ≠ b) ∧ b < s.heap.objs.size) : (blk X N' scope s H ex).Ok := by
  have hf' : ∀ y ∈ scope.names, y.2 ≠ .cell ∧ (y.2 = .free → X.env.scope.names.lookup y.1 = some .cell ∨ X.env.scope.names.lookup y.1 = some .free) := fun y hy => by
    have := List.all_eq_true.mp hf y hy
    simp only [Bool.and_eq_true, Bool.or_eq_true, bne_iff_ne, ne_eq, decide_eq_true_eq] at this
    refine ⟨this.1.1, fun e => ?_⟩
    rcases this.1.2 with z | z
    · exact absurd e z
    · exact z
  refine ⟨I.ok.mod, hk, I.ok.glob, I.ok.blt, Nat.le_refl _, fun x y c h1 h2 => ?_, fun x hx => ?_, fun x c h _ => absurd h Bool.false_ne_true, I.ok.hd, I.ok.frames, .inl rfl, fun b hb => ?_, I.bs, Nat.le_trans I.ok.bsz I.sz, fun b o e hb => ?_, fun b hb hb' => ?_, I.stack, I.stkFree⟩
  · exact I.ok.inj x y c (clo_sub X.env.cells scope.names [] (by simp) x c h1) (clo_sub X.env.cells scope.names [] (by simp) y c h2)
  · have hfree : scope.names.lookup x = some .free := by
      have hx : ((scope.names.map fun (n, k) => if (k == NameKind.free && X.env.scope.kind == .function && X.env.kindOf n == some .cell) then (n, NameKind.cell) else (n, k)).lookup x = some .cell) ∨
        ((scope.names.map fun (n, k) => if (k == NameKind.free && X.env.scope.kind == .function && X.env.kindOf n == some .cell) then (n, NameKind.cell) else (n, k)).lookup x = some .free) := hx
      rcases hx with hx | hx
      · rcases relabel_look hx with z | z
        · exact absurd rfl (hf' _ (PySem.mem_of_lookup z)).1
        · exact z.1
      · rcases relabel_look hx with z | z
        · exact z
        · exact z.1
    have hm := PySem.mem_of_lookup hfree
    obtain ⟨c, hc⟩ := I.ok.has x ((hf' _ hm).2 rfl)
    exact clo_has X.env.cells scope.names [] x hm ⟨c, hc⟩
  · obtain ⟨h1, h2, h3, h4, h5⟩ := hex b hb
    exact ⟨Nat.ne_of_lt h5, fun x c e => h4 x c (clo_sub X.env.cells scope.names [] (by simp) x c e)⟩
  · obtain ⟨h1, h2, h3, h4, h5⟩ := hex b hb
    rcases h1 with z | z
    · exact I.ok.noex b o e z
    · exact absurd (Nat.lt_of_lt_of_le (Heap.lt_size e) (Nat.le_trans I.ok.bsz z)) (Nat.lt_irrefl _)
  · obtain ⟨h1, h2, h3, h4, h5⟩ := hex b hb
    rcases List.mem_cons.mp (I.stkSub b hb') with e | z
    · exact h2 e
    · exact h3 z
end
end L2

set_option Elab.async false
set_option linter.all false
set_option maxRecDepth 100000
set_option maxHeartbeats 4000000
namespace L2
open PySem PySem.Spec PyProof.Rows
section
variable {X : Cx} {elt tgt iter : Expr} {ifs : List Expr} {scope : Scope} {pos : Pos} {N' : List Str} {js : List (Option Nat)} {g : TG} {tt : TT} {te : TE}

/-- what is known of the frame C of a block that has ended -/
structure FrC (X : Cx) (pins : List (Addr × Obj)) (H : Hp) (C : Addr) : Prop where
  no : H C = none
  ne : C ≠ X.env.locals
  up : X.s₀.heap.objs.size ≤ C
  cl : ∀ x c, X.env.cells.lookup x = some c → c ≠ C
  pn : ∀ p ∈ X.pn ++ pins, p.1 ≠ C
theorem FrC.turned {pins : List (Addr × Obj)} {σ : St} {H : Hp} {s : Shared} {C : Addr} {h' : Heap} (F : FrC X pins H C) (I : Inv X pins σ H s) (hs : Heap.SameBut C s.heap h') : Inv X pins σ H { s with heap := h' } :=
  I.turned (t' := s.toks) (fun b o hb e => (hs.2 b hb).trans e) F.no F.ne (.inr F.up) F.cl F.pn

/-- a target that leaves the captured slots -/
def GK (js : List (Option Nat)) (g : TG) : Prop := ∀ v σ H Q, g v σ H Q → g v σ H fun σ2 H2 => Q σ2 H2 ∧ ∀ (i j : Nat), js[i]? = some (some j) → σ2[i]? = σ[i]?
def GKs (js : List (Option Nat)) (g : TGs) : Prop := ∀ v σ H Q, g v σ H Q → g v σ H fun σ2 H2 => Q σ2 H2 ∧ ∀ (i j : Nat), js[i]? = some (some j) → σ2[i]? = σ[i]?
theorem gk_name {js : List (Option Nat)} {k : Nat} (h : js[k]? = some none) : GK js (gName k) := fun v σ H Q q => by
  refine ⟨q, fun i j e => ?_⟩
  by_cases hk : k = i
  · subst hk; rw [h] at e; cases e
  · rw [List.getElem?_set_ne hk]
theorem gks_nil {js : List (Option Nat)} : GKs js gNil := fun vs σ H Q ⟨e, q⟩ => ⟨e, q, fun _ _ _ => rfl⟩
theorem gks_cons {js : List (Option Nat)} {t : TG} {u : TGs} (mono : ∀ v σ H Q Q', (∀ σ2 H2, Q σ2 H2 → Q' σ2 H2) → t v σ H Q → t v σ H Q') (monou : ∀ v σ H Q Q', (∀ σ2 H2, Q σ2 H2 → Q' σ2 H2) → u v σ H Q → u v σ H Q') (h1 : GK js t) (h2 : GKs js u) : GKs js (gCons t u) := fun vs σ H Q ⟨v, r, e, q⟩ => by
  refine ⟨v, r, e, mono _ _ _ _ _ (fun σ2 H2 ⟨q2, k2⟩ => ?_) (h1 _ _ _ _ q)⟩
  exact monou _ _ _ _ _ (fun σ3 H3 ⟨q3, k3⟩ => ⟨q3, fun i j e => (k3 i j e).trans (k2 i j e)⟩) (h2 _ _ _ _ q2)
theorem gName_mono {k : Nat} : ∀ v σ H (Q Q' : St → Hp → Prop), (∀ σ2 H2, Q σ2 H2 → Q' σ2 H2) → gName k v σ H Q → gName k v σ H Q' := fun _ _ _ _ _ h q => h _ _ q
theorem gNil_mono : ∀ v σ H (Q Q' : St → Hp → Prop), (∀ σ2 H2, Q σ2 H2 → Q' σ2 H2) → gNil v σ H Q → gNil v σ H Q' := fun _ _ _ _ _ h q => ⟨q.1, h _ _ q.2⟩
theorem gCons_mono {k : Nat} {u : TGs} (hu : ∀ v σ H Q Q', (∀ σ2 H2, Q σ2 H2 → Q' σ2 H2) → u v σ H Q → u v σ H Q') : ∀ v σ H (Q Q' : St → Hp → Prop), (∀ σ2 H2, Q σ2 H2 → Q' σ2 H2) → gCons (gName k) u v σ H Q → gCons (gName k) u v σ H Q' :=
  fun _ _ _ _ _ h ⟨v, r, e, q⟩ => ⟨v, r, e, hu _ _ _ _ _ h q⟩
/-- (a, b, ..) = a tracked tuple of that length -/
def gTupD (n : Nat) (t : TGs) : TG := fun v σ H Q => ∃ a xs, v = .ref a ∧ H a = some (.tup xs) ∧ xs.length = n ∧ t xs σ H Q
theorem pg_tupD {X : Cx} {pos : Pos} {es : List Expr} {k : Nat} {t : TGs} {n : Nat} (hc : X.calm = true) (h : PGs X es t)
    (hn : (assignEach es X.env).length = n := by rfl) (hst : (assignEach es X.env).findIdx? (·.1) = none := by rfl) : PG X (.Tuple es k pos) (gTupD n t) := by
  intro pins s σ H v u Q I r hw
  obtain ⟨a, xs, e, hq, hl, q⟩ := hw
  exact pg_tup hc h hn hst pins s σ H v u Q I r ⟨a, xs, e, SqT.of hq, hl, q⟩
theorem gk_tup {js : List (Option Nat)} {n : Nat} {t : TGs} (h : GKs js t) : GK js (gTupD n t) := fun v σ H Q ⟨a, xs, e, hq, hl, q⟩ => ⟨a, xs, e, hq, hl, h _ _ _ _ q⟩
theorem gks2 {js : List (Option Nat)} {i j : Nat} (h1 : js[i]? = some none) (h2 : js[j]? = some none) : GKs js (gCons (gName i) (gCons (gName j) gNil)) :=
  gks_cons gName_mono (gCons_mono gNil_mono) (gk_name h1) (gks_cons gName_mono gNil_mono (gk_name h2) gks_nil)
theorem gks3 {js : List (Option Nat)} {i j k : Nat} (h1 : js[i]? = some none) (h2 : js[j]? = some none) (h3 : js[k]? = some none) : GKs js (gCons (gName i) (gCons (gName j) (gCons (gName k) gNil))) :=
  gks_cons gName_mono (gCons_mono (gCons_mono gNil_mono)) (gk_name h1) (gks2 h2 h3)
theorem pick_len {σ : St} : (pick σ js).length = js.length := by unfold pick; rw [List.length_map]

theorem lc_block {pins : List (Addr × Obj)} {σ : St} {H : Hp} {s : Shared} {it : Addr} {fp : List Addr} {tn : Nat → Heap → Prop} {J : It} {Q : VK} {E : Value → Shared → Prop} {RR : Value → Addr → Result → Shared → Prop}
    (hc : X.calm = true) (hkind : scope.kind = .function) (hf : freeOk X.env.scope scope = true) (hcap : capOk X.N X.env.scope N' scope js = true) (hgk : GK js g)
    (I : Inv X pins σ H s) (T : Turn X.prog X.w X.K tgt J fp it tn) (st : tn 0 s.heap) (hfp : ∀ b ∈ fp, FpOk X pins H b) (h : lcGo J js g tt te σ H Q)
    (hb : ∀ (s' : Shared) (H' : Hp) (ex : List Addr), PG (blk X N' scope s' H' ex) tgt g ∧ PF (blk X N' scope s' H' ex) ifs tt ∧ PE (blk X N' scope s' H' ex) elt te)
    (hRR : ∀ (l C : Addr) (s' : Shared) (m' : Str → Option Value) (H' : Hp) (acc : List V), Inv X pins σ (upd H' l (.lst acc)) s' → s'.heap.Ns C m' → FrC X pins (upd H' l (.lst acc)) C → Q (.ref l) (upd H' l (.lst acc)) → RR (.ref l) C (.ok .next) s') :
    wpAny (model X.prog X.w) X.A (newList []) (fun acc s₃ => wpAny (model X.prog X.w) X.A (newFunctionEnv scope X.env.globals (cloOf X.env.cells scope.names []) [] X.env.qual none .none (some X.env)) (fun cenv s₄ =>
      codeAny (model X.prog X.w) X.A (.compStart (.ListComp elt [⟨tgt, iter, ifs, 0⟩] scope pos) 0 (.ref it) acc { cenv with scope := relabel scope X.env }) (RR acc cenv.locals) s₄) E s₃) E s := by
  have hcell : ∀ y ∈ scope.names, y.2 ≠ .cell := fun y hy => by
    have := List.all_eq_true.mp hf y hy
    simp only [Bool.and_eq_true, bne_iff_ne] at this
    exact this.1.1
  have hz0 : (([] : List V)).length ≤ sizeLine := Nat.zero_le _
  refine wpAny_newObj_type (wpAny_newFunctionEnv hcell (by intro y hy; simp at hy) (fun h₁ hns₁ hsb₁ => ?_) hkind)
  dsimp only at hns₁ hsb₁ ⊢
  -- the maker, the new list laid untracked
  have I3 : Inv X pins σ H { s with heap := s.heap.push { cls := .type "list", dict := none, data := .seq ([] : List Value).toArray } } := I.kept (t' := s.toks) fun b o e => Heap.get?_push_of_some _ e
  have hl3 : (s.heap.push { cls := .type "list", dict := none, data := .seq ([] : List Value).toArray }).get? s.heap.objs.size = some { cls := .type "list", dict := none, data := .seq ([] : List Value).toArray } := Heap.get?_push_size _ rfl
  have old3 : ∀ b o, s.heap.get? b = some o → (s.heap.push { cls := .type "list", dict := none, data := .seq ([] : List Value).toArray }).get? b = some o := fun b o e => Heap.get?_push_of_some _ e
  have sz3 : (s.heap.push { cls := .type "list", dict := none, data := .seq ([] : List Value).toArray }).objs.size = s.heap.objs.size + 1 := Heap.size_push ..
  generalize (s.heap.push { cls := .type "list", dict := none, data := .seq ([] : List Value).toArray }) = H3 at *
  generalize hs3 : ({ s with heap := H3 } : Shared) = s3 at *
  have hh3 : s3.heap = H3 := by rw [← hs3]
  have hl : H s.heap.objs.size = none := I.hok.fresh (Nat.le_refl _)
  have fplt : ∀ b ∈ fp, b < s.heap.objs.size := fun b hb => by obtain ⟨o, e, _⟩ := T.obj _ _ st b hb; exact Heap.lt_size e
  have lL : s.heap.objs.size ≠ X.env.locals := Nat.ne_of_gt I.lt
  have lfs : s.heap.objs.size ∉ X.fs := I.nofs (Nat.le_refl _)
  have lc : ∀ x c, X.env.cells.lookup x = some c → c ≠ s.heap.objs.size := fun x c e => by obtain ⟨v, q⟩ := I.cell x c e; exact Nat.ne_of_lt q.lt
  have lp : ∀ p ∈ X.pn ++ pins, p.1 ≠ s.heap.objs.size := fun p hp => Nat.ne_of_lt (Heap.lt_size (I.pin p hp).1)
  have hex : ∀ b ∈ s.heap.objs.size :: fp, (b ∈ X.ex ∨ X.s₀.heap.objs.size ≤ b) ∧ b ≠ X.env.locals ∧ b ∉ X.fs ∧ (∀ x c, X.env.cells.lookup x = some c → c ≠ b) ∧ b < s3.heap.objs.size := fun b hb => by
    rw [hh3, sz3]
    rcases List.mem_cons.mp hb with e | hb
    · rw [e]; exact ⟨.inr I.sz, lL, lfs, lc, Nat.lt_succ_self _⟩
    · obtain ⟨f0, f1, f2, f3, f4, f5⟩ := hfp b hb
      exact ⟨f3, f1, f2, f4, Nat.lt_succ_of_lt (fplt b hb)⟩
  have hexp : ∀ b ∈ s.heap.objs.size :: fp, ∀ p ∈ X.pn ++ pins, p.1 ≠ b := fun b hb => by
    rcases List.mem_cons.mp hb with e | hb
    · rw [e]; exact lp
    · exact (hfp b hb).2.2.2.2.2
  -- the block
  have OK : (blk X N' scope s3 H (s.heap.objs.size :: fp)).Ok := blk_ok I3 hkind hf hex
  have clsub := clo_sub X.env.cells scope.names [] (by simp)
  have eC : H3.objs.size = s3.heap.objs.size := by rw [hh3]
  have keep1 : ∀ b o, s3.heap.get? b = some o → h₁.get? b = some o := fun b o e => hsb₁.extBut b o (by rw [eC]; exact Nat.ne_of_lt (Heap.lt_size e)) (Heap.get?_push_of_some _ (by rw [← hh3]; exact e))
  have capL : N'.length = js.length := by
    have := (Bool.and_eq_true _ _).mp hcap
    simpa using this.1
  have capA : ∀ (i : Nat) (x : Str) (v : V), N'[i]? = some x → (pick σ js)[i]? = some (some v) → ∃ i0, σ[i0]? = some (some v) ∧ X.N[i0]? = some x ∧ (X.env.scope.names.lookup x = some .cell ∨ X.env.scope.names.lookup x = some .free) ∧ scope.names.lookup x = some .free := fun i x v e1 e2 => by
    have ha := List.all_eq_true.mp ((Bool.and_eq_true _ _).mp hcap).2
    unfold pick at e2
    rw [List.getElem?_map] at e2
    cases ej : js[i]? with
    | none => rw [ej] at e2; cases e2
    | some j =>
      rw [ej] at e2
      have hm : (x, j) ∈ N'.zip js := List.mem_of_getElem? (i := i) (by rw [List.getElem?_zip_eq_some]; exact ⟨e1, ej⟩)
      have hp := ha _ hm
      cases j with
      | none => simp at e2
      | some i0 =>
        simp only [Bool.and_eq_true, Bool.or_eq_true, decide_eq_true_eq] at hp
        refine ⟨i0, ?_, hp.1.1, hp.1.2, hp.2⟩
        simp only [Option.map_some, Option.some.injEq] at e2
        cases q : σ[i0]? with
        | none => rw [q] at e2; simp at e2
        | some z => rw [q] at e2; simp at e2; rw [e2]
  have Cf : ∀ {H' : Hp} {s' : Shared}, HOk X.prog X.w H' s'.heap → s'.heap.objs.size ≤ s3.heap.objs.size → H' s3.heap.objs.size = none := fun ok z => ok.fresh z
  have I4 : Inv (blk X N' scope s3 H (s.heap.objs.size :: fp)) [(s.heap.objs.size, { cls := .type "list", dict := none, data := .seq ([] : List Value).toArray })] (pick σ js) H { s3 with heap := h₁, toks := s3.toks + ([] : List (Str × Value)).length } := by
    refine ⟨OK, rfl, I3.bare, Un.kept keep1, ⟨_, by have z := hns₁; rw [eC] at z; exact z, fun i x v e1 e2 e3 => ?_⟩, fun x c e => ?_, I3.hok.fresh (Nat.le_refl _), fun x c e => I.freeC x c (clsub x c e), fun p hp => ?_, I3.hok.kept keep1, ?_⟩
    · obtain ⟨i0, q1, q2, q3, q4⟩ := capA i x v e1 e2
      obtain ⟨m, hn, hlo⟩ := I3.loc
      obtain ⟨u, r, lk⟩ := hlo i0 x v q2 q1 (.inr q3)
      refine ⟨u, r, .inr ?_⟩
      have hk' : X.env.kindOf x = some .cell ∨ X.env.kindOf x = some .free := q3
      rcases lk with ⟨k, _⟩ | ⟨_, c, hcc, hcell'⟩
      · rcases hk' with z | z <;> (rw [z] at k; cases k)
      · obtain ⟨c', hc'⟩ := clo_has X.env.cells scope.names [] x (PySem.mem_of_lookup q4) ⟨c, hcc⟩
        have : c' = c := Option.some.inj ((clsub x c' hc').symm.trans hcc)
        subst this
        refine ⟨?_, c', hc', ?_⟩
        · rcases relabel_free (env := X.env) q4 with z | z
          · exact .inl z
          · exact .inr z
        · obtain ⟨o, e, d⟩ := hcell'
          exact ⟨o, keep1 _ _ e, d⟩
    · obtain ⟨v, o, e', d⟩ := I3.cell x c (clsub x c e)
      exact ⟨v, o, keep1 _ _ e', d⟩
    · have e : p = (s.heap.objs.size, { cls := .type "list", dict := none, data := .seq ([] : List Value).toArray }) := by simpa [blk] using hp
      subst e
      refine ⟨keep1 _ _ (by rw [hh3]; exact hl3), hl, ?_, ?_, fun v z => by cases z⟩
      · show s.heap.objs.size ≠ s3.heap.objs.size
        rw [hh3, sz3]; exact Nat.ne_of_lt (Nat.lt_succ_self _)
      · exact fun z => by
          rcases List.mem_cons.mp (I.stkSub _ z) with e | z
          · exact lL e
          · exact lfs z
    · rw [pick_len]; exact capL.symm
  obtain ⟨W, ⟨m0, w0⟩, turn⟩ := h
  have stat : ∀ {ob : Obj} {H' : Hp}, (∀ b ∈ fp, H' b = none) → ∀ b ∈ fp, FpOk (blk X N' scope s3 H (s.heap.objs.size :: fp)) [(s.heap.objs.size, ob)] H' b := fun {ob H'} hn b hb => by
    obtain ⟨f0, f1, f2, f3, f4, f5⟩ := hfp b hb
    refine ⟨hn b hb, ?_, fun z => ?_, .inl (List.mem_cons_of_mem _ hb), fun x c e => f4 x c (clsub x c e), fun p hp => ?_⟩
    · show b ≠ s3.heap.objs.size
      rw [hh3, sz3]; exact Nat.ne_of_lt (Nat.lt_succ_of_lt (fplt b hb))
    · rcases List.mem_cons.mp (I.stkSub _ z) with e | z
      · exact f1 e
      · exact f2 z
    · have e : p = (s.heap.objs.size, ob) := by simpa [blk] using hp
      subst e
      exact Nat.ne_of_gt (fplt b hb)
  have loop : ∀ s₅ : Shared, s₅ = { s3 with heap := h₁, toks := s3.toks + ([] : List (Str × Value)).length } →
      codeAny (model X.prog X.w) X.A (.compLoop (.ListComp elt [⟨tgt, iter, ifs, 0⟩] scope pos) 0 (.ref it) (.ref s.heap.objs.size) (compEnvC scope (cloOf X.env.cells scope.names []) s3.heap.objs.size X.env))
        (RR (.ref s.heap.objs.size) s3.heap.objs.size) s₅ := by
    rintro s₅ rfl
    refine compLoop_gen (fun n s' => ∃ (i : Nat) (acc : List V) (its : List Value) (k : Nat) (H' : Hp), Vals acc its ∧ Inv (blk X N' scope s3 H (s.heap.objs.size :: fp)) [(s.heap.objs.size, { cls := .type "list", data := .seq its.toArray k })] (pick σ js) H' s' ∧
      tn i s'.heap ∧ (∀ b ∈ fp, H' b = none) ∧ W i n acc H') ?_ m0 ⟨0, [], [], 0, H, .nil, I4, T.keep _ _ _ st (fun b hb o e => keep1 b o (by rw [hh3]; exact old3 b o e)), fun b hb => (hfp b hb).1, w0⟩
    rintro n s' ⟨i, acc, its, k, H', rv, J1, st1, fr1, w1⟩
    rcases turn i n acc H' w1 with ⟨stop, hz, qn⟩ | ⟨go, hz, step⟩
    · refine thn (T.done (blk X N' scope s3 H (s.heap.objs.size :: fp)) rfl rfl rfl hc i _ s' _ H' (fun _ _ => False) J1 (stat fr1) st1 stop) fun r s4 ⟨hr, I5⟩ => ?_
      subst hr
      obtain ⟨pe, pn, _⟩ := I5.pin (s.heap.objs.size, { cls := .type "list", data := .seq its.toArray k }) (by simp [blk])
      have IX : Inv X pins σ H' s4 := I3.call' I5.os I5.base I5.hok I5.bare fun b hb => by
        obtain ⟨h1, h2, h3, h4, h5⟩ := hex b hb
        exact ⟨h1, h2, h4, hexp b hb⟩
      have IY : Inv X pins σ (upd H' s.heap.objs.size (.lst acc)) s4 := IX.adopt pn lL (.inr I.sz) lc lp ⟨hz, its, k, rv, pe⟩
      obtain ⟨m', hm', _⟩ := I5.loc
      refine hRR _ _ s4 m' H' acc IY hm' ⟨?_, ?_, ?_, ?_, ?_⟩ (qn _ pn)
      · rw [upd_ne (by rw [hh3, sz3]; exact Nat.ne_of_gt (Nat.lt_succ_self _))]
        exact I5.free
      · rw [hh3, sz3]; exact Nat.ne_of_gt (Nat.lt_succ_of_lt I.lt)
      · rw [hh3, sz3]; exact Nat.le_succ_of_le I.sz
      · exact fun x c e => by
          obtain ⟨v, q⟩ := I.cell x c e
          rw [hh3, sz3]; exact Nat.ne_of_lt (Nat.lt_succ_of_lt q.lt)
      · exact fun p hp => by rw [hh3, sz3]; exact Nat.ne_of_lt (Nat.lt_succ_of_lt (Heap.lt_size (I.pin p hp).1))
    · refine thn (T.item (blk X N' scope s3 H (s.heap.objs.size :: fp)) rfl rfl rfl hc i _ s' _ H' (fun _ _ => False) J1 (stat fr1) st1 go) fun r s4 ⟨u, hr, h4⟩ => ?_
      subst hr
      refine thn h4 fun _ s5 ⟨x, H5, I5, r5, y5, st5, fr5⟩ => ?_
      have I5' := I5.pinned (stat fr5) (T.obj _ _ st5)
      obtain ⟨hg, ht, he⟩ := hb s3 H (s.heap.objs.size :: fp)
      refine thn (hg _ s5 _ H5 x u _ I5' r5 (hgk _ _ _ _ (step x H5 y5))) fun _ s6 ⟨σ6, H6, I6, q6, kk6⟩ => ?_
      refine thn (ht _ s6 σ6 H6 _ I6 q6) fun b s7 ⟨H7, I7, q7⟩ => ?_
      have fin : ∀ {σ8 : St} {H8 : Hp} {s8 : Shared}, Inv (blk X N' scope s3 H (s.heap.objs.size :: fp)) ([(s.heap.objs.size, { cls := .type "list", data := .seq its.toArray k })] ++ pinsAt fp s5.heap) σ8 H8 s8 →
          tn (i + 1) s8.heap ∧ (∀ b ∈ fp, H8 b = none) := fun {σ8 H8 s8} I8 => by
        refine ⟨T.keep _ _ _ st5 fun b hb o e => (I8.pin (b, o) (List.mem_append_right _ (List.mem_append_right _ (mem_pinsAt hb e)))).1, fun b hb => ?_⟩
        obtain ⟨o, e, d⟩ := T.obj _ _ st5 b hb
        exact (I8.pin (b, o) (List.mem_append_right _ (List.mem_append_right _ (mem_pinsAt hb e)))).2.1
      have wk : ∀ {H8 : Hp} {s8 : Shared} {pl : List (Addr × Obj)}, Inv (blk X N' scope s3 H (s.heap.objs.size :: fp)) pl σ6 H8 s8 → Inv (blk X N' scope s3 H (s.heap.objs.size :: fp)) pl (pick σ js) H8 s8 :=
        fun I8 => I8.weak (by rw [pick_len, I8.len]; exact capL.symm) fun i v e => by
          have e' := e
          unfold pick at e'
          rw [List.getElem?_map] at e'
          cases ej : js[i]? with
          | none => rw [ej] at e'; cases e'
          | some j =>
            cases j with
            | none => rw [ej] at e'; simp at e'
            | some j => rw [kk6 i j ej]; exact e
      have pinl : ∀ {H8 : Hp} {s8 : Shared}, Inv (blk X N' scope s3 H (s.heap.objs.size :: fp)) ([(s.heap.objs.size, { cls := .type "list", data := .seq its.toArray k })] ++ pinsAt fp s5.heap) σ6 H8 s8 →
          s8.heap.get? s.heap.objs.size = some { cls := .type "list", data := .seq its.toArray k } ∧ H8 s.heap.objs.size = none := fun I8 => by
        obtain ⟨a1, a2, _⟩ := I8.pin (s.heap.objs.size, { cls := .type "list", data := .seq its.toArray k }) (List.mem_append_right _ (List.mem_append_left _ (List.mem_singleton.mpr rfl)))
        exact ⟨a1, a2⟩
      have lblk : s.heap.objs.size ≠ s3.heap.objs.size := by rw [hh3, sz3]; exact Nat.ne_of_lt (Nat.lt_succ_self _)
      have lbfs : s.heap.objs.size ∉ frs X.stack := fun z => by
        rcases List.mem_cons.mp (I.stkSub _ z) with e | z
        · exact lL e
        · exact lfs z
      cases b with
      | false =>
        obtain ⟨m', hm', w'⟩ := q7
        obtain ⟨t8, f8⟩ := fin I7
        exact ⟨m', hm', i + 1, acc, its, k, H7, rv, (wk I7).pins_of (fun p hp => by
          have e : p = (s.heap.objs.size, { cls := .type "list", data := .seq its.toArray k }) := by simpa using hp
          subst e
          exact ⟨(pinl I7).1, (pinl I7).2, lblk, lbfs, fun v z => by cases z⟩), t8, f8, w'⟩
      | true =>
        rw [if_pos rfl]
        refine thn (he _ s7 σ6 H7 _ I7 q7) fun y s8 ⟨v, H8, I8, r8, m', hm', w'⟩ => ?_
        obtain ⟨t8, f8⟩ := fin I8
        obtain ⟨pl1, pl2⟩ := pinl I8
        have hlen := rv.length
        refine append_at (hsz := by show its.toArray.size ≤ sizeLine; rw [List.size_toArray, ← hlen]; exact Nat.le_of_lt hz) pl1 fun h9 hs9 hD9 => ?_
        have J0 : Inv (blk X N' scope s3 H (s.heap.objs.size :: fp)) [] (pick σ js) H8 s8 := (wk I8).pins_of fun p hp => absurd hp (by simp)
        have J9 : Inv (blk X N' scope s3 H (s.heap.objs.size :: fp)) [] (pick σ js) H8 { s8 with heap := h9 } :=
          J0.turned (t' := s8.toks) (it := s.heap.objs.size) (fun b o hb e => (hs9.2 b hb).trans e) pl2 lblk (.inl List.mem_cons_self) (fun x c e => lc x c (clsub x c e)) (fun p hp => absurd hp (by simp [blk]))
        refine ⟨m', hm', i + 1, acc ++ [v], its ++ [y], k + 1, H8, rv.append (.cons r8 .nil), J9.pins_of (fun p hp => ?_), T.keep _ _ _ t8 (fun b hb o e => (hs9.2 b (Nat.ne_of_lt (fplt b hb))).trans e), f8, w'⟩
        have e : p = (s.heap.objs.size, { cls := .type "list", data := .seq (its ++ [y]).toArray (k + 1) }) := by simpa using hp
        subst e
        refine ⟨?_, pl2, lblk, lbfs, fun v z => by cases z⟩
        show h9.get? _ = _
        rw [hD9]
        simp
  subst hs3
  exact codeAny_compStart_list (loop _ rfl) (T.self _ 0 _ _ _ (T.keep _ _ _ st (fun b hb o e => keep1 b o (by rw [hh3]; exact old3 b o e))) (loop _ rfl))

theorem pe_lc {wi : TI} (hc : X.calm = true) (hi : PI X tgt iter wi) (hcap : capOk X.N X.env.scope N' scope js = true) (hgk : GK js g) (hf : freeOk X.env.scope scope = true) (hkind : scope.kind = .function)
    (hb : ∀ (s' : Shared) (H' : Hp) (ex : List Addr), PG (blk X N' scope s' H' ex) tgt g ∧ PF (blk X N' scope s' H' ex) ifs tt ∧ PE (blk X N' scope s' H' ex) elt te)
    (hs : ∀ x, foldedSetIterable iter X.env x = pure x := by intro _; rfl) : PE X (.ListComp elt [⟨tgt, iter, ifs, 0⟩] scope pos) (tLC wi js g tt te) := by
  intro pins s σ H Q I h
  have hnames : ∀ y ∈ scope.names, y.2 = .local → scope.names.lookup y.1 = some .local := fun y hy e => by
    have := List.all_eq_true.mp hf y hy
    simp only [Bool.and_eq_true, Bool.or_eq_true, bne_iff_ne, ne_eq, decide_eq_true_eq] at this
    exact this.2.resolve_left fun z => z e
  have hclos : closureFor scope X.env = pure (cloOf X.env.cells scope.names []) := clo_eq fun y hy e => by
    have := List.all_eq_true.mp hf y hy
    simp only [Bool.and_eq_true, Bool.or_eq_true, bne_iff_ne, ne_eq, decide_eq_true_eq] at this
    exact I.ok.has y.1 (this.1.2.resolve_left fun z => z e)
  rw [eval_ListComp]
  refine wpAny_comprehension_free (use := none) rfl hs hclos hkind hnames (thn (hi pins s σ H _ I h) fun v s1 h1 => thn h1 fun itv s2 h2 => ?_)
  obtain ⟨it, fp, tn, J, H2, e, I2, T, st2, f2, go⟩ := h2
  subst e
  refine lc_block (Q := Q) hc hkind hf hcap hgk I2 T st2 f2 go hb ?_
  intro l C s' m' H' acc IY hn F q
  exact ⟨m', hn, fun h' hs' => ⟨.ref l, _, F.turned IY hs', rfl, q⟩⟩

/-- name = a comprehension -/
theorem ps_setLC {wi : TI} {i : Nat} {y : Str} {py spos : Pos} (hN : X.N.Nodup) (hiy : X.N[i]? = some y) (hy : Loc X.env.scope y)
    (hc : X.calm = true) (hi : PI X tgt iter wi) (hcap : capOk X.N X.env.scope N' scope js = true) (hgk : GK js g) (hf : freeOk X.env.scope scope = true) (hkind : scope.kind = .function)
    (hb : ∀ (s' : Shared) (H' : Hp) (ex : List Addr), PG (blk X N' scope s' H' ex) tgt g ∧ PF (blk X N' scope s' H' ex) ifs tt ∧ PE (blk X N' scope s' H' ex) elt te)
    (hsw : swapsWith (.ListComp elt [⟨tgt, iter, ifs, 0⟩] scope pos) (some (.Name y py)) spos.line X.env = pure true := by rfl)
    (hs : ∀ x, foldedSetIterable iter X.env x = pure x := by intro _; rfl) (hfn : X.fn y = true ∨ X.env.scope.names.lookup y = some .local := by first | exact .inl rfl | exact .inr rfl | assumption) :
    PS X (.Assign [.Name y py] (.ListComp elt [⟨tgt, iter, ifs, 0⟩] scope pos) spos) (tAsg (tLC wi js g tt te) (gName i)) := by
  intro pins s σ H D I h
  have hnames : ∀ y ∈ scope.names, y.2 = .local → scope.names.lookup y.1 = some .local := fun y hy e => by
    have := List.all_eq_true.mp hf y hy
    simp only [Bool.and_eq_true, Bool.or_eq_true, bne_iff_ne, ne_eq, decide_eq_true_eq] at this
    exact this.2.resolve_left fun z => z e
  have hclos : closureFor scope X.env = pure (cloOf X.env.cells scope.names []) := clo_eq fun y hy e => by
    have := List.all_eq_true.mp hf y hy
    simp only [Bool.and_eq_true, Bool.or_eq_true, bne_iff_ne, ne_eq, decide_eq_true_eq] at this
    exact I.ok.has y.1 (this.1.2.resolve_left fun z => z e)
  rw [exec_Assign_Name_used _ _ _ _ hsw]
  refine wpAny_bind (wpAny_standAt (wpAny_bind ?_))
  show wpAny _ X.A (do let _ ← comprehension (.ListComp elt [⟨tgt, iter, ifs, 0⟩] scope pos) scope X.env _ (newList []) false (eval iter X.env) (some (assign (.Name y py) X.env))) _ _ s
  refine wpAny_bind (wpAny_mono (wpAny_comprehension_free (use := some (assign (.Name y py) X.env)) (Q := fun _ s' => SP X pins D .next s') rfl hs hclos hkind hnames
    (thn (hi pins s σ H _ I h) fun v s1 h1 => thn h1 fun itv s2 h2 => ?_)) (fun _ s' hq => wpAny_pure (wpAny_pure hq)) fun _ _ e => e)
  obtain ⟨it, fp, tn, J, H2, e, I2, T, st2, f2, go⟩ := h2
  subst e
  refine lc_block (Q := fun x H1 => gName i x σ H1 D.nx) hc hkind hf hcap hgk I2 T st2 f2 go hb ?_
  intro l C s' m' H' acc IY hn F q
  show wpAny _ X.A (assign (.Name y py) X.env (.ref l)) _ _ s'
  refine wpAny_assign_Name (store_ok2 IY hN hiy hy (v := .ref l) rfl (fun s4 I4 ⟨a, hsb, ha⟩ => ?_) hfn)
  have Ca : C ≠ a := by
    rcases ha with e | e
    · rw [e]; exact F.ne
    · exact fun z => F.cl y a e z.symm
  exact ⟨m', hn.sameBut hsb Ca, fun h' hs' => ⟨_, _, F.turned I4 hs', q⟩⟩
end
end L2

set_option Elab.async false
set_option linter.all false
set_option maxRecDepth 100000
set_option maxHeartbeats 4000000
/-! plain data: what a value stands for in the abstract heap, lists at addresses outside of P -/
namespace L2
open PySem PySem.Spec PyProof.Rows

mutual
inductive Dn (H : Hp) (P : Addr → Prop) : V → PyData → Prop where
  | non : Dn H P .non .none
  | bl (b : Bool) : Dn H P (.bl b) (.bool b)
  | int (i : Int) : Dn H P (.int i) (.int i)
  | str (x : Str) : Dn H P (.str x) (.str x)
  | lst {a : Addr} {xs : List V} {ds : List PyData} : ¬ P a → H a = some (.lst xs) → Dns H P xs ds → Dn H P (.ref a) (.list ds)
  | tup {a : Addr} {xs : List V} {ds : List PyData} : ¬ P a → H a = some (.tup xs) → Dns H P xs ds → Dn H P (.ref a) (.tuple ds)
inductive Dns (H : Hp) (P : Addr → Prop) : List V → List PyData → Prop where
  | nil : Dns H P [] []
  | cons {x : V} {d : PyData} {xs : List V} {ds : List PyData} : Dn H P x d → Dns H P xs ds → Dns H P (x :: xs) (d :: ds)
end

/-- what is not in P stays -/
def SameX (P : Addr → Prop) (H H' : Hp) : Prop := ∀ b o, H b = some o → ¬ P b → H' b = some o
theorem SameX.refl {P : Addr → Prop} {H : Hp} : SameX P H H := fun _ _ h _ => h
theorem SameX.trans {P : Addr → Prop} {H H1 H2 : Hp} (a : SameX P H H1) (b : SameX P H1 H2) : SameX P H H2 := fun c o h n => b c o (a c o h n) n
theorem Same.x {P : Addr → Prop} {H H' : Hp} (h : Same H H') : SameX P H H' := fun b o e _ => h b o e
theorem SameX.sub {P P' : Addr → Prop} {H H' : Hp} (h : SameX P H H') (hs : ∀ a, P a → P' a) : SameX P' H H' := fun b o e n => h b o e fun z => n (hs b z)
theorem SameX.same {H H' : Hp} (h : SameX (fun _ => False) H H') : Same H H' := fun b o e => h b o e fun z => z
theorem Same.new {H : Hp} {p : Addr} {o : HO} (hn : H p = none) : Same H (upd H p o) := fun b u e => by rw [upd_ne (ne_of_none e hn)]; exact e
theorem SameX.new {P : Addr → Prop} {H : Hp} {p : Addr} {o : HO} (hn : H p = none) : SameX P H (upd H p o) := (Same.new hn).x
theorem SameX.put {P : Addr → Prop} {H : Hp} {p : Addr} {o : HO} (hp : P p) : SameX P H (upd H p o) := fun b u e n => by rw [upd_ne (fun z => n (by rw [z]; exact hp))]; exact e

mutual
theorem Dn.mono {P : Addr → Prop} {H H' : Hp} (e : SameX P H H') : ∀ {v : V} {d : PyData}, Dn H P v d → Dn H' P v d
  | _, _, .non => .non
  | _, _, .bl b => .bl b
  | _, _, .int i => .int i
  | _, _, .str x => .str x
  | _, _, .lst n h t => .lst n (e _ _ h n) (Dns.mono e t)
  | _, _, .tup n h t => .tup n (e _ _ h n) (Dns.mono e t)
theorem Dns.mono {P : Addr → Prop} {H H' : Hp} (e : SameX P H H') : ∀ {v : List V} {d : List PyData}, Dns H P v d → Dns H' P v d
  | _, _, .nil => .nil
  | _, _, .cons a b => .cons (Dn.mono e a) (Dns.mono e b)
end
mutual
theorem Dn.weak {P P' : Addr → Prop} {H : Hp} (e : ∀ a, P' a → P a) : ∀ {v : V} {d : PyData}, Dn H P v d → Dn H P' v d
  | _, _, .non => .non
  | _, _, .bl b => .bl b
  | _, _, .int i => .int i
  | _, _, .str x => .str x
  | _, _, .lst n h t => .lst (fun z => n (e _ z)) h (Dns.weak e t)
  | _, _, .tup n h t => .tup (fun z => n (e _ z)) h (Dns.weak e t)
theorem Dns.weak {P P' : Addr → Prop} {H : Hp} (e : ∀ a, P' a → P a) : ∀ {v : List V} {d : List PyData}, Dns H P v d → Dns H P' v d
  | _, _, .nil => .nil
  | _, _, .cons a b => .cons (Dn.weak e a) (Dns.weak e b)
end
theorem Dn.plain {P : Addr → Prop} {H : Hp} {v : V} {d : PyData} (h : Dn H P v d) : Dn H (fun _ => False) v d := h.weak fun _ z => z.elim
theorem Dns.length {P : Addr → Prop} {H : Hp} : ∀ {xs : List V} {ds : List PyData}, Dns H P xs ds → xs.length = ds.length
  | _, _, .nil => rfl
  | _, _, .cons _ t => by simp [Dns.length t]
theorem Dns.get {P : Addr → Prop} {H : Hp} : ∀ {xs : List V} {ds : List PyData} {i : Nat} {d : PyData}, Dns H P xs ds → ds[i]? = some d → ∃ v, xs[i]? = some v ∧ Dn H P v d
  | _, _, _, _, .nil, e => by simp at e
  | _, _, 0, _, .cons a _, e => by simp at e; subst e; exact ⟨_, rfl, a⟩
  | _, _, i + 1, d, .cons _ t, e => by
    obtain ⟨v, h1, h2⟩ := Dns.get (i := i) (d := d) t (by simpa using e)
    exact ⟨v, by simpa using h1, h2⟩
theorem Dns.getV {P : Addr → Prop} {H : Hp} : ∀ {xs : List V} {ds : List PyData} {i : Nat} {v : V}, Dns H P xs ds → xs[i]? = some v → ∃ d, ds[i]? = some d ∧ Dn H P v d
  | _, _, _, _, .nil, e => by simp at e
  | _, _, 0, _, .cons a _, e => by simp at e; subst e; exact ⟨_, rfl, a⟩
  | _, _, i + 1, d, .cons _ t, e => by
    obtain ⟨v, h1, h2⟩ := Dns.getV (i := i) (v := d) t (by simpa using e)
    exact ⟨v, by simpa using h1, h2⟩
theorem Dns.app {P : Addr → Prop} {H : Hp} : ∀ {xs ys : List V} {ds es : List PyData}, Dns H P xs ds → Dns H P ys es → Dns H P (xs ++ ys) (ds ++ es)
  | _, _, _, _, .nil, s => s
  | _, _, _, _, .cons r t, s => .cons r (Dns.app t s)
theorem Dns.take {P : Addr → Prop} {H : Hp} : ∀ {xs : List V} {ds : List PyData} (n : Nat), Dns H P xs ds → Dns H P (xs.take n) (ds.take n)
  | _, _, 0, _ => .nil
  | _, _, _ + 1, .nil => .nil
  | _, _, n + 1, .cons r t => .cons r (Dns.take n t)
theorem Dns.drop {P : Addr → Prop} {H : Hp} : ∀ {xs : List V} {ds : List PyData} (n : Nat), Dns H P xs ds → Dns H P (xs.drop n) (ds.drop n)
  | _, _, 0, r => r
  | _, _, _ + 1, .nil => .nil
  | _, _, n + 1, .cons _ t => Dns.drop n t
theorem Dns.rev {P : Addr → Prop} {H : Hp} : ∀ {xs : List V} {ds : List PyData}, Dns H P xs ds → Dns H P xs.reverse ds.reverse
  | _, _, .nil => .nil
  | _, _, .cons r t => by rw [List.reverse_cons, List.reverse_cons]; exact Dns.app (Dns.rev t) (.cons r .nil)
theorem Dns.set {P : Addr → Prop} {H : Hp} {x : V} {d : PyData} (r : Dn H P x d) : ∀ {xs : List V} {ds : List PyData} (i : Nat), Dns H P xs ds → Dns H P (xs.set i x) (ds.set i d)
  | _, _, _, .nil => .nil
  | _, _, 0, .cons _ t => .cons r t
  | _, _, i + 1, .cons q t => .cons q (Dns.set r i t)
theorem Dns.ints {P : Addr → Prop} {H : Hp} : ∀ {xs : List V} {ns : List Int}, Dns H P xs (ns.map PyData.int) → xs = ns.map V.int
  | _, [], h => by cases h; rfl
  | _, n :: ns, h => by
    cases h with
    | cons a t => cases a; rw [Dns.ints t]; rfl
theorem Dns.ofInts {P : Addr → Prop} {H : Hp} : ∀ (ns : List Int), Dns H P (ns.map V.int) (ns.map PyData.int)
  | [] => .nil
  | n :: ns => .cons (.int n) (Dns.ofInts ns)
theorem Dns.bools {P : Addr → Prop} {H : Hp} : ∀ {xs : List V} {ns : List Bool}, Dns H P xs (ns.map PyData.bool) → xs = ns.map V.bl
  | _, [], h => by cases h; rfl
  | _, n :: ns, h => by
    cases h with
    | cons a t => cases a; rw [Dns.bools t]; rfl
/-- a new list, a new tuple -/
theorem Dn.newL {P : Addr → Prop} {H : Hp} {p : Addr} {xs : List V} {ds : List PyData} (hn : H p = none) (np : ¬ P p) (h : Dns H P xs ds) : Dn (upd H p (.lst xs)) P (.ref p) (.list ds) :=
  .lst np upd_same (h.mono (SameX.new hn))
theorem Dn.newT {P : Addr → Prop} {H : Hp} {p : Addr} {xs : List V} {ds : List PyData} (hn : H p = none) (np : ¬ P p) (h : Dns H P xs ds) : Dn (upd H p (.tup xs)) P (.ref p) (.tuple ds) :=
  .tup np upd_same (h.mono (SameX.new hn))
/-- a tracked list of ours as data: it is outside of P' though it was one of P -/
theorem Dn.ofL {P P' : Addr → Prop} {H : Hp} {p : Addr} {xs : List V} {ds : List PyData} (hp : H p = some (.lst xs)) (np : ¬ P' p) (hs : ∀ a, P' a → P a) (h : Dns H P xs ds) : Dn H P' (.ref p) (.list ds) :=
  .lst np hp (h.weak hs)

/-! ### data read in the real heap -/
section
variable {X : Cx} {pins : List (Addr × Obj)} {σ : St} {H : Hp} {s : Shared} {P : Addr → Prop}
mutual
theorem Dn.reads (I : Inv X pins σ H s) : ∀ {v : V} {d : PyData} {u : Value}, Dn H P v d → RelV v u → ∃ as, Reads s.heap u d as
  | _, _, u, .non, r => by cases r; exact ⟨_, .none⟩
  | _, _, u, .bl b, r => by cases r; exact ⟨_, .bool b⟩
  | _, _, u, .int i, r => by obtain ⟨t, rfl⟩ := r; exact ⟨_, .int i t⟩
  | _, _, u, .str x, r => by obtain ⟨t, rfl⟩ := r; exact ⟨_, .str x t⟩
  | _, _, u, .lst _ h t, r => by
    cases r
    obtain ⟨its, rv, ⟨o, n, e, c, _, d⟩, _⟩ := I.list (SqL.of h)
    obtain ⟨as, q⟩ := Dns.reads I t rv
    exact ⟨_, reads_list_at e c d (by simpa using q)⟩
  | _, _, u, .tup _ h t, r => by
    cases r
    obtain ⟨its, rv, ⟨o, e, c, n, d⟩, _⟩ := I.tuple (SqT.of h)
    obtain ⟨as, q⟩ := Dns.reads I t rv
    exact ⟨_, reads_tuple_at e c d (by simpa using q)⟩
theorem Dns.reads (I : Inv X pins σ H s) : ∀ {v : List V} {d : List PyData} {u : List Value}, Dns H P v d → Vals v u → ∃ as, ReadsAll s.heap u d as
  | _, _, u, .nil, r => by cases r; exact ⟨_, .nil⟩
  | _, _, u, .cons a b, r => by
    cases r with
    | cons r1 r2 =>
      obtain ⟨as, q⟩ := Dn.reads I a r1
      obtain ⟨bs, q'⟩ := Dns.reads I b r2
      exact ⟨_, .cons q q'⟩
end
end

/-! ### rules -/
section
variable {X : Cx}
open PySem.SeqAt in
@[irreducible] def rEqD (f : Bool → Bool) : R2 := fun x y H Q => (∃ i j, x = .int i ∧ y = .int j ∧ Q (.bl (f (decide (i = j)))) H) ∨
  ∃ (P P' : Addr → Prop) (d e : PyData), Dn H P x d ∧ Dn H P' y e ∧ shaped d = true ∧ shaped e = true ∧ Q (.bl (f (PyData.eqv d e))) H
theorem op_eqD (hu : X.A.units + 64 < cLine) : OpR X (compareOp .Eq) (rEqD fun b => b) := by
  intro pins s σ H x y v u Q I rx ry h
  unfold rEqD at h
  rcases h with ⟨i, j, rfl, rfl, q⟩ | ⟨P, P', d, e, hd, he, sd, se, q⟩
  · obtain ⟨t, rfl⟩ := rx
    obtain ⟨t', rfl⟩ := ry
    exact eq_int (by rw [Bool.beq_eq_decide_eq]; exact ⟨.bl _, H, I, rfl, q⟩)
  · obtain ⟨as, ra⟩ := hd.reads I rx
    obtain ⟨bs, rb⟩ := he.reads I ry
    exact eq_dataH ra rb sd se hu ⟨.bl _, H, I, rfl, q⟩
theorem op_neD (hu : X.A.units + 64 < cLine) : OpR X (compareOp .NotEq) (rEqD fun b => !b) := by
  intro pins s σ H x y v u Q I rx ry h
  unfold rEqD at h
  rcases h with ⟨i, j, rfl, rfl, q⟩ | ⟨P, P', d, e, hd, he, sd, se, q⟩
  · obtain ⟨t, rfl⟩ := rx
    obtain ⟨t', rfl⟩ := ry
    exact ne_int (by rw [bne, Bool.beq_eq_decide_eq]; exact ⟨.bl _, H, I, rfl, q⟩)
  · obtain ⟨as, ra⟩ := hd.reads I rx
    obtain ⟨bs, rb⟩ := he.reads I ry
    exact ne_dataH ra rb sd se hu ⟨.bl _, H, I, rfl, q⟩

/-- x[i] -/
@[irreducible] def rIxD : R2 := fun x y H Q =>
  (∃ p xs i v, x = .ref p ∧ y = .int i ∧ H p = some (.lst xs) ∧ atI xs i = some v ∧ Q v H) ∨
  ∃ (P : Addr → Prop) (ds : List PyData) (i : Int) (d : PyData), (Dn H P x (.list ds) ∨ Dn H P x (.tuple ds)) ∧ y = .int i ∧ atI ds i = some d ∧ ∀ v, Dn H P v d → Q v H
theorem Dns.at {P : Addr → Prop} {H : Hp} {xs : List V} {ds : List PyData} {i : Int} {d : PyData} (h : Dns H P xs ds) (e : atI ds i = some d) : ∃ v, atI xs i = some v ∧ Dn H P v d := by
  unfold atI at e ⊢
  rw [h.length]
  cases q : ixN ds.length i with
  | none => rw [q] at e; cases e
  | some j => rw [q] at e; exact h.get e
theorem ix_D : IxR X rIxD := by
  intro value slice pins s σ H x y v u Q I rx ry h hs
  unfold rIxD at h
  rcases h with ⟨p, xs, i, v', rfl, rfl, hp, he, q⟩ | ⟨P, ds, i, d, hd, rfl, he, q⟩
  · exact ix_list value slice pins s σ H _ _ v u Q I rx ry ⟨p, xs, i, v', rfl, rfl, SqL.of hp, he, q⟩ hs
  · rcases hd with hd | hd
    · cases hd with
      | lst n h t =>
        obtain ⟨v', e', hv⟩ := t.at he
        exact ix_list value slice pins s σ H _ _ v u Q I rx ry ⟨_, _, i, v', rfl, rfl, SqL.of h, e', q v' hv⟩ hs
    · cases hd with
      | tup n h t =>
        obtain ⟨v', e', hv⟩ := t.at he
        exact ix_tup value slice pins s σ H _ _ v u Q I rx ry ⟨_, _, i, v', rfl, rfl, SqT.of h, e', q v' hv⟩ hs
theorem ixL {H : Hp} {P : Addr → Prop} {x : V} {i : Int} {ds : List PyData} {d : PyData} {Q : VK} (h : Dn H P x (.list ds)) (e : atI ds i = some d) (q : ∀ v, Dn H P v d → Q v H) : rIxD x (.int i) H Q := by
  unfold rIxD
  exact .inr ⟨P, ds, i, d, .inl h, rfl, e, q⟩
theorem ixT {H : Hp} {P : Addr → Prop} {x : V} {i : Int} {ds : List PyData} {d : PyData} {Q : VK} (h : Dn H P x (.tuple ds)) (e : atI ds i = some d) (q : ∀ v, Dn H P v d → Q v H) : rIxD x (.int i) H Q := by
  unfold rIxD
  exact .inr ⟨P, ds, i, d, .inr h, rfl, e, q⟩
theorem ixR {H : Hp} {p : Addr} {xs : List V} {i : Int} {v : V} {Q : VK} (h : H p = some (.lst xs)) (e : atI xs i = some v) (q : Q v H) : rIxD (.ref p) (.int i) H Q := by
  unfold rIxD
  exact .inl ⟨p, xs, i, v, rfl, rfl, h, e, q⟩

/-- len -/
@[irreducible] def rLenD : List V → Hp → VK → Prop := fun xs H Q => (∃ p ys, xs = [.ref p] ∧ H p = some (.lst ys) ∧ Q (.int ys.length) H) ∨
  ∃ (x : V) (P : Addr → Prop) (ds : List PyData), xs = [x] ∧ (Dn H P x (.list ds) ∨ Dn H P x (.tuple ds)) ∧ Q (.int ds.length) H
theorem call_lenD : CallR X (.builtin "len") rLenD := by
  intro pins s σ H xs us Q I r h
  unfold rLenD at h
  rcases h with ⟨p, ys, rfl, hp, q⟩ | ⟨x, P, ds, rfl, hd, q⟩
  · exact call_len_seq pins s σ H _ us Q I r ⟨p, ys, rfl, .inl (SqL.of hp), q⟩
  · rcases hd with hd | hd
    · cases hd with
      | lst n h t => exact call_len_seq pins s σ H _ us Q I r ⟨_, _, rfl, .inl (SqL.of h), by rw [t.length]; exact q⟩
    · cases hd with
      | tup n h t => exact call_len_seq pins s σ H _ us Q I r ⟨_, _, rfl, .inr (SqT.of h), by rw [t.length]; exact q⟩
theorem lenL {H : Hp} {P : Addr → Prop} {x : V} {ds : List PyData} {Q : VK} (h : Dn H P x (.list ds)) (q : Q (.int ds.length) H) : rLenD [x] H Q := by
  unfold rLenD
  exact .inr ⟨x, P, ds, rfl, .inl h, q⟩
theorem lenT {H : Hp} {P : Addr → Prop} {x : V} {ds : List PyData} {Q : VK} (h : Dn H P x (.tuple ds)) (q : Q (.int ds.length) H) : rLenD [x] H Q := by
  unfold rLenD
  exact .inr ⟨x, P, ds, rfl, .inr h, q⟩
theorem lenR {H : Hp} {p : Addr} {xs : List V} {Q : VK} (h : H p = some (.lst xs)) (q : Q (.int xs.length) H) : rLenD [.ref p] H Q := by
  unfold rLenD
  exact .inl ⟨p, xs, rfl, h, q⟩

/-- list(x): a new list -/
theorem call_listD : CallR X (.type "list") (fun xs H Q => ∃ (x : V) (P : Addr → Prop) (ds : List PyData), xs = [x] ∧ (Dn H P x (.list ds) ∨ Dn H P x (.tuple ds)) ∧ ∀ l ys, H l = none → Dns H P ys ds → Q (.ref l) (upd H l (.lst ys))) := by
  intro pins s σ H xs us Q I r h
  obtain ⟨x, P, ds, rfl, hd, q⟩ := h
  rcases hd with hd | hd
  · cases hd with
    | lst n h t => exact call_list_of pins s σ H _ us Q I r ⟨_, _, rfl, .inl (SqL.of h), fun l hl => q l _ hl t⟩
  · cases hd with
    | tup n h t => exact call_list_of pins s σ H _ us Q I r ⟨_, _, rfl, .inr (SqT.of h), fun l hl => q l _ hl t⟩

/-- + of ints or of lists -/
@[irreducible] def rAddD : R2 := fun x y H Q => (∃ i j, x = .int i ∧ y = .int j ∧ Q (.int (i + j)) H) ∨
  ∃ (P P' : Addr → Prop) (ds es : List PyData), Dn H P x (.list ds) ∧ Dn H P' y (.list es) ∧ ds.length + es.length ≤ sizeLine ∧ ∀ p xs ys, H p = none → Dns H P xs ds → Dns H P' ys es → Q (.ref p) (upd H p (.lst (xs ++ ys)))
theorem op_addD : OpR X (binaryOp .Add) rAddD := by
  intro pins s σ H x y v u Q I rx ry h
  unfold rAddD at h
  rcases h with ⟨i, j, rfl, rfl, q⟩ | ⟨P, P', ds, es, hd, he, hz, q⟩
  · exact op_add pins s σ H _ _ v u Q I rx ry ⟨i, j, rfl, rfl, q⟩
  · cases hd with
    | lst n h t =>
      cases he with
      | lst n' h' t' =>
        exact op_cat pins s σ H _ _ v u Q I rx ry ⟨_, _, _, _, rfl, rfl, h, h', by rw [t.length, t'.length]; exact hz, fun p hp => q p _ _ hp t t'⟩
theorem eqI {H : Hp} {f : Bool → Bool} {i j : Int} {Q : VK} (q : Q (.bl (f (decide (i = j)))) H) : rEqD f (.int i) (.int j) H Q := by
  unfold rEqD
  exact .inl ⟨i, j, rfl, rfl, q⟩
open PySem.SeqAt in
theorem eqD {H : Hp} {f : Bool → Bool} {P P' : Addr → Prop} {x y : V} {d e : PyData} {Q : VK} (hd : Dn H P x d) (he : Dn H P' y e) (sd : shaped d = true) (se : shaped e = true) (q : Q (.bl (f (PyData.eqv d e))) H) : rEqD f x y H Q := by
  unfold rEqD
  exact .inr ⟨P, P', d, e, hd, he, sd, se, q⟩
theorem addI {H : Hp} {i j : Int} {Q : VK} (q : Q (.int (i + j)) H) : rAddD (.int i) (.int j) H Q := by
  unfold rAddD
  exact .inl ⟨i, j, rfl, rfl, q⟩
theorem addL {H : Hp} {P P' : Addr → Prop} {x y : V} {ds es : List PyData} {Q : VK} (hd : Dn H P x (.list ds)) (he : Dn H P' y (.list es)) (hz : ds.length + es.length ≤ sizeLine)
    (q : ∀ p xs ys, H p = none → Dns H P xs ds → Dns H P' ys es → Q (.ref p) (upd H p (.lst (xs ++ ys)))) : rAddD x y H Q := by
  unfold rAddD
  exact .inr ⟨P, P', ds, es, hd, he, hz, q⟩
end
end L2

set_option Elab.async false
set_option linter.all false
set_option maxRecDepth 100000
set_option maxHeartbeats 4000000
/-! more rules over plain data: slices, sum, min, all, any, sorted, in, isinstance, enumerate, calls -/
namespace L2
open PySem PySem.Spec PyProof.Rows

/-! ### slices -/
def cutD {α : Type} (xs : List α) (lo hi : Option Int) : List α := (xs.drop (HT.sIx xs.length 0 lo)).take (HT.sIx xs.length xs.length hi - HT.sIx xs.length 0 lo)
theorem Dns.cut {P : Addr → Prop} {H : Hp} {xs : List V} {ds : List PyData} (h : Dns H P xs ds) (lo hi : Option Int) : Dns H P (cutV xs lo hi) (cutD ds lo hi) := by
  unfold cutV cutD
  rw [h.length]
  exact (h.drop _).take _
theorem cutD_map {α β : Type} (f : α → β) (xs : List α) (lo hi : Option Int) : cutD (xs.map f) lo hi = (cutD xs lo hi).map f := by
  unfold cutD
  rw [List.length_map, ← List.map_drop, ← List.map_take]
theorem cutD_len {α : Type} (xs : List α) (lo hi : Option Int) : (cutD xs lo hi).length ≤ xs.length := by
  unfold cutD
  rw [List.length_take, List.length_drop]
  omega
theorem cutD_mem {α : Type} {xs : List α} {lo hi : Option Int} {x : α} (h : x ∈ cutD xs lo hi) : x ∈ xs := List.mem_of_mem_drop (List.mem_of_mem_take h)
section
variable {X : Cx}
/-- xs[lo:hi] -/
@[irreducible] def rSlD : V → Option Int → Option Int → Hp → VK → Prop := fun x lo hi H Q => ∃ (P : Addr → Prop) (ds : List PyData), Dn H P x (.list ds) ∧ ∀ p ys, H p = none → Dns H P ys (cutD ds lo hi) → Q (.ref p) (upd H p (.lst ys))
theorem sl_D : SlR X rSlD := by
  intro pins s σ H x v vl vu lo hi sl Q I rx hs pl pu h
  unfold rSlD at h
  obtain ⟨P, ds, hd, q⟩ := h
  cases hd with
  | lst n h t => exact sl_list pins s σ H _ v vl vu lo hi sl Q I rx hs pl pu ⟨_, _, rfl, SqL.of h, fun p hp => q p _ hp (t.cut lo hi)⟩

theorem slD {H : Hp} {P : Addr → Prop} {x : V} {lo hi : Option Int} {ds : List PyData} {Q : VK} (h : Dn H P x (.list ds)) (q : ∀ p ys, H p = none → Dns H P ys (cutD ds lo hi) → Q (.ref p) (upd H p (.lst ys))) : rSlD x lo hi H Q := by
  unfold rSlD
  exact ⟨P, ds, h, q⟩
/-- xs[::-1] -/
def tRev (te : TE) : TE := fun σ H Q => te σ H fun x H1 => ∃ (P : Addr → Prop) (ds : List PyData), Dn H1 P x (.list ds) ∧ ∀ p ys, H1 p = none → Dns H1 P ys ds.reverse → Q (.ref p) (upd H1 p (.lst ys))
theorem pe_rev {e m : Expr} {te : TE} {pos p2 : Pos} (he : PE X e te) (hm : PE X m (tC (.int (-1))))
    (hsub : ∀ o i, ∃ ops, subscripted (.Slice none none (some m) p2) false o i = operate ops (getItem o i)) : PE X (.Subscript e (.Slice none none (some m) p2) pos) (tRev te) := by
  intro pins s σ H Q I h
  refine Subscript_ (thn (he pins s σ H _ I h) fun v s1 ⟨x, H1, I1, r1, P, ds, hd, q⟩ => ?_)
  cases hd with
  | @lst a xs _ n hx t =>
  cases r1
  refine wpAny_Slice ?_
  rw [evalPart_none]
  refine wpAny_pure ?_
  refine wpAny_pure ?_
  rw [evalPart_some]
  refine thn (hm pins s1 σ H1 (fun w H' => w = .int (-1) ∧ H' = H1) I1 ⟨rfl, rfl⟩) fun vk s2 ⟨w, H2, I2, r2, ew, eH⟩ => ?_
  subst ew eH
  obtain ⟨tk, rfl⟩ := r2
  have I4 : Inv X pins σ H2 { s2 with heap := s2.heap.push { cls := .type "slice", data := .fields #[.none, .none, .int (-1) tk] } } := I2.kept (t' := s2.toks) fun b ob q => Heap.get?_push_of_some _ q
  obtain ⟨its, r, ht, hz⟩ := I4.list (SqL.of hx)
  have hlen := r.length
  obtain ⟨ops, hops⟩ := hsub (.ref a) (.ref s2.heap.objs.size)
  refine tail_any (T := "list") (ops := ops) ht.isList.typeIs slot_list_getitem.lookup ?_ hops
  refine wpAny_getItem_list_slice (st := some (-1)) ht.isList (Heap.IsSliceOf.new ..) .none .none (.int _ _) (by decide) ?_ (by rw [List.size_toArray, ← hlen]; exact hz)
  rw [PySem.W.krv_pick]
  have hv : Vals xs.reverse its.reverse := r.reverse
  exact ⟨.ref _, _, I4.lnew (t' := s2.toks) hv (by rw [List.length_reverse]; exact hz), rfl, q _ _ I4.fresh t.rev⟩

/-! ### built-in functions of a list -/
theorem call_sumD (hc : X.calm = true) : CallR X (.builtin "sum") (fun xs H Q => ∃ (x : V) (P : Addr → Prop) (ns : List Int), xs = [x] ∧ Dn H P x (.list (ns.map PyData.int)) ∧ Q (.int ns.sum) H) := by
  intro pins s σ H xs us Q I r h
  obtain ⟨x, P, ns, rfl, hd, q⟩ := h
  obtain ⟨u, rfl, rx⟩ := vals1 r
  cases hd with
  | lst n h t =>
    cases rx
    obtain ⟨its, rv, pl, hz⟩ := I.list (SqL.of h)
    rw [t.ints] at rv
    have hi : IntsAre its ns := intsAre_of rv
    have hl := pl.isList
    obtain ⟨ys, hy⟩ := hi.allInts.items
    rw [hy] at hl
    refine sum_intListG (I.ok.hd hc) hl fun h' tk t' hk => ⟨.int ns.sum, H, I.kept hk, ⟨t', ?_⟩, q⟩
    have e1 := hi.numsOf
    have e2 : numsOf its.toArray.toList = ys.toList.map (·.1) := by rw [hy]; exact nums_intItems ys
    have e3 : ns = ys.toList.map (·.1) := by rw [← e1]; simpa using e2
    rw [preSum_eq, List.take_of_length_le (by simp), ← e3]
theorem call_minD (hc : X.calm = true) : CallR X (.builtin "min") (fun xs H Q => ∃ (x : V) (P : Addr → Prop) (ns : List Int), xs = [x] ∧ Dn H P x (.list (ns.map PyData.int)) ∧ ns ≠ [] ∧ ∀ m, m ∈ ns → (∀ a ∈ ns, m ≤ a) → Q (.int m) H) := by
  intro pins s σ H xs us Q I r h
  obtain ⟨x, P, ns, rfl, hd, hne, q⟩ := h
  obtain ⟨u, rfl, rx⟩ := vals1 r
  cases hd with
  | lst n h t =>
    cases rx
    obtain ⟨its, rv, pl, hz⟩ := I.list (SqL.of h)
    rw [t.ints] at rv
    have hi : IntsAre its ns := intsAre_of rv
    have hl := pl.isList
    obtain ⟨ys, hy⟩ := hi.allInts.items
    rw [hy] at hl
    have e2 : numsOf its.toArray.toList = ys.toList.map (·.1) := by rw [hy]; exact nums_intItems ys
    have e3 : ns = ys.toList.map (·.1) := by rw [← hi.numsOf]; simpa using e2
    have hsz : 0 < ys.size := by
      rcases Nat.eq_zero_or_pos ys.size with z | z
      · exfalso; apply hne; rw [e3]; simp [Array.size_eq_zero_iff.mp z]
      · exact z
    refine min_intList (I.ok.hd hc) hl hsz fun v h' tk hv hk => ?_
    obtain ⟨t2, rfl⟩ := intItems_at hv
    obtain ⟨h1, h2⟩ := argBest_lt (numAt ys) (ys.size - 1)
    refine ⟨.int _, H, I.kept hk, ⟨t2, rfl⟩, q _ ?_ fun a ha => ?_⟩
    · rw [numAt_eq, e3]
      exact getD_mem (by rw [List.length_map, Array.length_toList]; omega)
    · rw [e3] at ha
      obtain ⟨j, hj, rfl⟩ := mem_getD ha
      rw [List.length_map, Array.length_toList] at hj
      rw [← numAt_eq]
      exact h2 j (by omega)
theorem all_range (bs : List Bool) : ∀ (f : Nat → Bool), (∀ i b, bs[i]? = some b → f i = b) → (List.range bs.length).all f = bs.all id := by
  induction bs with
  | nil => intro f _; rfl
  | cons b bs ih =>
    intro f h
    rw [List.length_cons, List.range_succ_eq_map, List.all_cons, List.all_map, h 0 b rfl, ih (f ∘ Nat.succ) (fun i c e => h (i + 1) c (by simpa using e))]
    rfl
theorem any_range (bs : List Bool) : ∀ (f : Nat → Bool), (∀ i b, bs[i]? = some b → f i = b) → (List.range bs.length).any f = bs.any id := by
  induction bs with
  | nil => intro f _; rfl
  | cons b bs ih =>
    intro f h
    rw [List.length_cons, List.range_succ_eq_map, List.any_cons, List.any_map, h 0 b rfl, ih (f ∘ Nat.succ) (fun i c e => h (i + 1) c (by simpa using e))]
    rfl
theorem vals_bool {bs : List Bool} {its : List Value} (r : Vals (bs.map V.bl) its) {i : Nat} {v : Value} (h : its[i]? = some v) : v = .bool (bs.getD i false) ∧ i < bs.length := by
  have hl := r.length
  rw [List.length_map] at hl
  have hi : i < its.length := (List.getElem?_eq_some_iff.mp h).1
  have hb : (bs.map V.bl)[i]? = some (V.bl bs[i]) := by simp [hl, hi]
  obtain ⟨u, e, ru⟩ := r.get hb
  rw [h] at e
  cases e
  refine ⟨?_, by omega⟩
  rw [show v = Value.bool bs[i] from ru]
  simp [List.getD, List.getElem?_eq_getElem (show i < bs.length by omega)]
theorem call_allD (hc : X.calm = true) : CallR X (.builtin "all") (fun xs H Q => ∃ (x : V) (P : Addr → Prop) (bs : List Bool), xs = [x] ∧ Dn H P x (.list (bs.map PyData.bool)) ∧ Q (.bl (bs.all id)) H) := by
  intro pins s σ H xs us Q I r h
  obtain ⟨x, P, bs, rfl, hd, q⟩ := h
  obtain ⟨u, rfl, rx⟩ := vals1 r
  cases hd with
  | @lst a _ _ n h t =>
    cases rx
    obtain ⟨its, rv, pl, hz⟩ := I.list (SqL.of h)
    rw [t.bools] at rv
    have hlen := rv.length
    rw [List.length_map] at hlen
    have hl := pl.isList
    have hlt : a < s.heap.objs.size := by obtain ⟨_, e, _⟩ := hl; exact Heap.lt_size e
    refine call_all_walk (wpAny_pyIter_list hl ?_)
    refine ⟨s.heap.objs.size, _, _, _, _, _, fun i => bs.getD i false, rfl, Walks.list (A := X.A.in1) (I.ok.hd hc) _ _ (Nat.ne_of_lt hlt) its.toArray, ⟨⟨_, Heap.get?_push_size _ rfl, rfl, rfl⟩, hl.push _⟩, fun i v s' Q' E' hP hQ => ?_, fun h' tk hk => ?_⟩
    · obtain ⟨e, _⟩ := vals_bool rv (by simpa using hP)
      subst e
      exact wpAny_truthy_bool hQ
    · refine ⟨.bl (bs.all id), H, I.kept (h' := h') (t' := tk) (fun b o e => hk b o (by simpa using Nat.ne_of_lt (Heap.lt_size e)) (Heap.get?_push_of_some _ e)), ?_, q⟩
      show Value.bool _ = Value.bool _
      rw [List.size_toArray, ← hlen, all_range bs _ fun i b e => by simp [List.getD, e]]
theorem call_anyD (hc : X.calm = true) : CallR X (.builtin "any") (fun xs H Q => ∃ (x : V) (P : Addr → Prop) (bs : List Bool), xs = [x] ∧ Dn H P x (.list (bs.map PyData.bool)) ∧ Q (.bl (bs.any id)) H) := by
  intro pins s σ H xs us Q I r h
  obtain ⟨x, P, bs, rfl, hd, q⟩ := h
  obtain ⟨u, rfl, rx⟩ := vals1 r
  cases hd with
  | @lst a _ _ n h t =>
    cases rx
    obtain ⟨its, rv, pl, hz⟩ := I.list (SqL.of h)
    rw [t.bools] at rv
    have hlen := rv.length
    rw [List.length_map] at hlen
    have hl := pl.isList
    have hlt : a < s.heap.objs.size := by obtain ⟨_, e, _⟩ := hl; exact Heap.lt_size e
    refine call_any_walk (wpAny_pyIter_list hl ?_)
    refine ⟨s.heap.objs.size, _, _, _, _, _, fun i => bs.getD i false, rfl, Walks.list (A := X.A.in1) (I.ok.hd hc) _ _ (Nat.ne_of_lt hlt) its.toArray, ⟨⟨_, Heap.get?_push_size _ rfl, rfl, rfl⟩, hl.push _⟩, fun i v s' Q' E' hP hQ => ?_, fun h' tk hk => ?_⟩
    · obtain ⟨e, _⟩ := vals_bool rv (by simpa using hP)
      subst e
      exact wpAny_truthy_bool hQ
    · refine ⟨.bl (bs.any id), H, I.kept (h' := h') (t' := tk) (fun b o e => hk b o (by simpa using Nat.ne_of_lt (Heap.lt_size e)) (Heap.get?_push_of_some _ e)), ?_, q⟩
      show Value.bool _ = Value.bool _
      rw [List.size_toArray, ← hlen, any_range bs _ fun i b e => by simp [List.getD, e]]
theorem call_sortedD : CallR X (.builtin "sorted") (fun xs H Q => ∃ (x : V) (P : Addr → Prop) (ns : List Int), xs = [x] ∧ Dn H P x (.list (ns.map PyData.int)) ∧ ns.length < 64 ∧
    ∀ (l : Addr) (ms : List Int), H l = none → ms.Perm ns → ms.Pairwise (· ≤ ·) → Q (.ref l) (upd H l (.lst (ms.map V.int)))) := by
  intro pins s σ H xs us Q I r h
  obtain ⟨x, P, ns, rfl, hd, h64, q⟩ := h
  obtain ⟨u, rfl, rx⟩ := vals1 r
  cases hd with
  | @lst a _ _ n h t =>
    cases rx
    obtain ⟨its, rv, pl, hz⟩ := I.list (SqL.of h)
    rw [t.ints] at rv
    have hi : IntsAre its ns := intsAre_of rv
    have hlen := rv.length
    rw [List.length_map] at hlen
    refine sorted_ints pl.isList hi (by omega) fun out ns' a1 a2 a3 => ?_
    obtain ⟨e, he⟩ := sortedAll_at s.heap its out
    have hf : H (s.heap.objs.size + 1) = none := I.hok.fresh (Nat.le_succ _)
    refine ⟨.ref _, _, I.laid (t' := s.toks) (o := .lst (ns'.map V.int)) (fun b o e => sortedAll_old e) (Nat.le_succ _) ?_, rfl, q _ ns' hf a2 a3⟩
    have hl2 : ns'.length = ns.length := a2.length_eq
    refine ⟨by rw [List.length_map, hl2]; have := hz; rw [t.ints, List.length_map] at this; exact this, out.toList, e, vals_ints a1, ?_⟩
    rw [he]
    all_goals rfl

/-- n.bit_length() -/
theorem mt_bits : MtR X "int.bit_length" (fun x xs H Q => ∃ i, x = .int i ∧ xs = [] ∧ Q (.int (Builtin.Int.intBits i)) H) := by
  intro pins s σ H x xs v us Q I rx rs h
  obtain ⟨i, rfl, rfl, q⟩ := h
  obtain ⟨t, rfl⟩ := rx
  cases rs
  exact call_int_bit_length ⟨.int _, H, I.tok _, ⟨_, rfl⟩, q⟩

/-- isinstance(x, T), isinstance(x, C) -/
theorem call_isi : CallR X (.builtin "isinstance") (fun xs H Q => ∃ (x : V) (T : String) (t : Value) (b : Bool), xs = [x, .ty T] ∧ TyOf X.K H x t ∧ PySem.W.kitOne X.K t (.type T) = some b ∧ Q (.bl b) H) := by
  intro pins s σ H xs us Q I r h
  obtain ⟨x, T, t, b, rfl, ty, e, q⟩ := h
  obtain ⟨u, w', rfl, ru, rw'⟩ := vals2 r
  cases (show w' = Value.type T from rw')
  exact isinst_ok I ru ty e fun tk => ⟨.bl b, H, I.tok tk, rfl, q⟩

/-! ### in, not in, of an int among ints -/
theorem inV_ints (n : Int) (ns : List Int) : inV (.int n) (ns.map V.int) = decide (n ∈ ns) := by
  unfold inV
  induction ns with
  | nil => simp
  | cons m ms ih =>
    rw [List.map_cons, List.any_cons, ih]
    by_cases h : n = m
    · subst h; simp [eqV]
    · have h' : ¬ m = n := fun z => h z.symm
      simp [eqV, h, h']
theorem flat_ints (ns : List Int) : (ns.map V.int).all flatV = true := by
  rw [List.all_map]
  exact List.all_eq_true.mpr fun _ _ => rfl
@[irreducible] def rInD (f : Bool → Bool) : R2 := fun x y H Q => (∃ (p : Addr) (n : Int) (ns : List Int), x = .int n ∧ y = .ref p ∧ H p = some (.lst (ns.map V.int)) ∧ Q (.bl (f (decide (n ∈ ns)))) H) ∨
  ∃ (P : Addr → Prop) (n : Int) (ns : List Int), x = .int n ∧ Dn H P y (.list (ns.map PyData.int)) ∧ Q (.bl (f (decide (n ∈ ns)))) H
theorem op_inD : OpR X (compareOp .In) (rInD fun b => b) := by
  intro pins s σ H x y v u Q I rx ry h
  unfold rInD at h
  rcases h with ⟨p, n, ns, rfl, rfl, hp, q⟩ | ⟨P, n, ns, rfl, hd, q⟩
  · exact op_in_seq pins s σ H _ _ v u Q I rx ry ⟨p, _, rfl, .inl (SqL.of hp), rfl, flat_ints ns, by rw [if_neg Bool.false_ne_true, inV_ints]; exact q⟩
  · cases hd with
    | lst k h t =>
      rw [t.ints] at h
      exact op_in_seq pins s σ H _ _ v u Q I rx ry ⟨_, _, rfl, .inl (SqL.of h), rfl, flat_ints ns, by rw [if_neg Bool.false_ne_true, inV_ints]; exact q⟩
theorem op_notInD : OpR X (compareOp .NotIn) (rInD fun b => !b) := by
  intro pins s σ H x y v u Q I rx ry h
  unfold rInD at h
  rcases h with ⟨p, n, ns, rfl, rfl, hp, q⟩ | ⟨P, n, ns, rfl, hd, q⟩
  · exact op_notIn_seq pins s σ H _ _ v u Q I rx ry ⟨p, _, rfl, .inl (SqL.of hp), rfl, flat_ints ns, by rw [if_pos rfl, inV_ints]; exact q⟩
  · cases hd with
    | lst k h t =>
      rw [t.ints] at h
      exact op_notIn_seq pins s σ H _ _ v u Q I rx ry ⟨_, _, rfl, .inl (SqL.of h), rfl, flat_ints ns, by rw [if_pos rfl, inV_ints]; exact q⟩

theorem inR {H : Hp} {f : Bool → Bool} {p : Addr} {n : Int} {ns : List Int} {Q : VK} (h : H p = some (.lst (ns.map V.int))) (q : Q (.bl (f (decide (n ∈ ns)))) H) : rInD f (.int n) (.ref p) H Q := by
  unfold rInD
  exact .inl ⟨p, n, ns, rfl, rfl, h, q⟩
theorem inD {H : Hp} {f : Bool → Bool} {P : Addr → Prop} {y : V} {n : Int} {ns : List Int} {Q : VK} (h : Dn H P y (.list (ns.map PyData.int))) (q : Q (.bl (f (decide (n ∈ ns)))) H) : rInD f (.int n) y H Q := by
  unfold rInD
  exact .inr ⟨P, n, ns, rfl, h, q⟩

/-! ### calls of defs of the text -/
structure Callee (P : Program) (w : World) (K : PySem.W.Frag) (mg : Str → Option Value) (base : Heap) (x : Str) (ps : List Str) (k : Nat) (sp : Sp) : Prop where
  ex : ∃ (f : Addr) (fd : FuncData), mg x = some (.ref f) ∧ PySem.W.keepIn K (.ref f) = true ∧ Binds K fd ps [] ∧ FnOk P w K mg base CX0 k f fd ps sp ∧ ∃ oc od osl, K.lookup f = some ⟨oc, od, .func fd, osl⟩
theorem pe_callC {k j : Nat} {ps : List Str} {sp : Sp} {x : Str} {p pos : Pos} {e : Expr} {es : List Expr} {t : TA} (C : Callee X.prog X.w X.K X.mg X.base x ps k sp) (hr : Room j X.A) (hj : k ≤ j) (hg : Gl X x) (ha : PA X (e :: es) t)
    (hdb : (x == ("__debug__" : Str)) = false := by decide +kernel) (he : starEach (e :: es) X.env = (false, eval e X.env) :: starEach es X.env := by rfl) (hpl : (backTo pos (starEach es X.env)).any (·.1) = false := by rfl) :
    PE X (.Call (.Name x p) (e :: es) [] pos) (tCall sp [] E0 t) := by
  obtain ⟨f, fd, h1, h2, h3, h4, _⟩ := C.ex
  exact pe_call h4 (hr.mono hj) hg h1 h2 h3 .nil pass0 ha hdb he hpl

/-! ### enumerate(xs) with a pair as target -/
def Ite (K : PySem.W.Frag) (l : Addr) : It :=
  ⟨fun i H => ∃ xs x, SqL K H l xs ∧ xs[i]? = some x, fun i H v H' => ∃ t x, v = .ref t ∧ H t = none ∧ H' = upd H t (.tup [.int i, x]) ∧ ∀ xs, SqL K H l xs → xs[i]? = some x, fun i H => ∃ xs, SqL K H l xs ∧ xs.length ≤ i⟩
theorem turn_enum {P : Program} {w : World} {K : PySem.W.Frag} {elts : List Expr} {k : Nat} {tp : Pos} (l e it : Addr) (hne : e ≠ it) : Turn P w K (.Tuple elts k tp) (Ite K l) [e, it] e (fun i h => (∃ old, IsEnum h e it i old) ∧ h.IsListIter it l i) where
  mem := by simp
  obj := fun i h st b hb => by
    obtain ⟨⟨old, he⟩, ⟨o, ho, hc, hd⟩⟩ := st
    rcases List.mem_cons.mp hb with z | hb
    · subst z; exact ⟨_, he, fun v z => by cases z⟩
    · have z : b = it := by simpa using hb
      subst z
      exact ⟨o, ho, fun v z => by rw [hd] at z; cases z⟩
  keep := fun i h h' st kk => by
    obtain ⟨⟨old, he⟩, hit⟩ := st
    exact ⟨⟨old, kk e (by simp) _ he⟩, hit.at fun o q => kk it (by simp) o q⟩
  item := by
    intro X hP hw hK hc i pins s σ H E I hf st hg
    subst hP hw hK
    obtain ⟨⟨old, he⟩, hit⟩ := st
    obtain ⟨xs, x, hq, hx⟩ := hg
    obtain ⟨its, rv, p, hz⟩ := I.list hq
    obtain ⟨u, hu, ru⟩ := rv.get hx
    refine wpAny_pyNext_enum_item he hit p.isList (x := u) (by simpa using hu) hne fun h' ho hit' hT hsz hk => ?_
    refine ⟨_, rfl, wpAny_letOwnedTupleGo_enum ho fun h'' he'' hs'' => ?_⟩
    have hfresh : H s.heap.objs.size = none := I.hok.fresh (Nat.le_refl _)
    have helt : e < s.heap.objs.size := Heap.lt_size he
    have kk : ∀ b o, b ≠ e → b ≠ it → s.heap.get? b = some o → h''.get? b = some o := fun b o n1 n2 q => (hs''.2 b n1).trans (hk b o n1 n2 q)
    have hT'' : h''.get? s.heap.objs.size = some { cls := .type "tuple", data := .seq #[.int i s.toks, u] } := (hs''.2 _ (Nat.ne_of_gt helt)).trans hT
    have nfp : ∀ b u', H b = some u' → b ≠ e ∧ b ≠ it := fun b u' q => ⟨fun z => (by rw [z, (hf e (by simp)).1] at q; cases q), fun z => (by rw [z, (hf it (by simp)).1] at q; cases q)⟩
    obtain ⟨o2, ho2, c2, d2⟩ := id hit'
    have hit'' : h''.IsListIter it l (i + 1) := ⟨o2, (hs''.2 it hne.symm).trans ho2, c2, d2⟩
    have J : Inv X pins σ (upd H s.heap.objs.size (.tup [.int i, x])) { s with heap := h'', toks := s.toks + 1 } := by
      refine I.step (h' := h'') (g' := s.gens) (d' := s.drawn) (t' := s.toks + 1) (ch := [e, it]) (fun b hb => ?_) (fun b o _ _ hcn q _ => kk b o (fun z => hcn (by simp [z])) (fun z => hcn (by simp [z])) q)
        (fun b o _ _ hcn q _ => ⟨o.slots, kk b o (fun z => hcn (by simp [z])) (fun z => hcn (by simp [z])) q⟩) (fun b o _ q nn => by rw [upd_ne (Nat.ne_of_lt (Heap.lt_size q))]; exact nn)
        (fun b o hcn q => ⟨o, kk b o (fun z => hcn (by simp [z])) (fun z => hcn (by simp [z])) q⟩) (fun b ys q => by rw [upd_ne (ne_of_none q hfresh)]; exact q) (fun b o u' q => by rw [upd_ne (ne_of_none q hfresh)]; exact q)
        (fun b ps q => ⟨#[], by rw [upd_ne (ne_of_none q hfresh), q]; simp⟩) (fun m hm => ?_) ?_ I.bare
      · obtain ⟨f0, f1, f2, f3, f4, f5⟩ := hf b hb
        exact ⟨f3, f1, f4, f5⟩
      · obtain ⟨o, es, ep, hoL, r⟩ := hm
        exact ⟨o, es, ep, kk _ o (fun z => (hf e (by simp)).2.1 z.symm) (fun z => (hf it (by simp)).2.1 z.symm) hoL, r⟩
      · intro b u' q
        by_cases hb : b = s.heap.objs.size
        · subst hb
          rw [upd_same] at q
          cases q
          exact ⟨by show 2 ≤ sizeLine; decide, [.int i s.toks, u], .cons ⟨_, rfl⟩ (.cons ru .nil), ⟨_, hT'', rfl, _, rfl⟩⟩
        · rw [upd_ne hb] at q
          refine (I.hok b u' q).stay (fun c v hcc qq => kk c v ?_ ?_ qq) (fun c qq => by rw [upd_ne (ne_of_none qq hfresh)]; exact qq) fun c ys qq => by rw [upd_ne (ne_of_none qq hfresh)]; exact qq
          · rcases hcc with z | z
            · rw [z]; exact (nfp b u' q).1
            · exact (nfp c _ z).1
          · rcases hcc with z | z
            · rw [z]; exact (nfp b u' q).2
            · exact (nfp c _ z).2
    refine ⟨.ref s.heap.objs.size, _, J, rfl, ⟨_, x, rfl, hfresh, rfl, fun ys hy => by rw [I.list_inj hy hq]; exact hx⟩, ⟨⟨_, by simpa using he''⟩, hit''⟩, fun b hb => ?_⟩
    rw [upd_ne]
    · exact (hf b hb).1
    · rcases List.mem_cons.mp hb with z | hb
      · rw [z]; exact Nat.ne_of_lt helt
      · have z : b = it := by simpa using hb
        rw [z]
        obtain ⟨o3, ho3, _⟩ := hit
        exact Nat.ne_of_lt (Heap.lt_size ho3)
  done := by
    intro X hP hw hK hc i pins s σ H E I hf st hg
    subst hP hw hK
    obtain ⟨⟨old, he⟩, hit⟩ := st
    obtain ⟨xs, hq, hx⟩ := hg
    obtain ⟨its, rv, p, hz⟩ := I.list hq
    have hl := rv.length
    obtain ⟨f0, f1, f2, f3, f4, f5⟩ := hf it (by simp)
    exact wpAny_pyNext_enum_end (I.ok.hd hc) he hit p.isList (by simp; omega) fun h' eb => ⟨rfl, I.turned (t' := s.toks) (fun b o hb q => eb b o hb q) f0 f1 f3 f4 f5⟩
  self := fun _ _ _ _ _ st h => by
    obtain ⟨⟨old, he⟩, _⟩ := st
    exact wpAny_pyIter_enum he h
/-! ### iterators over tracked lists -/
theorem Turn.imp {P : Program} {w : World} {K : PySem.W.Frag} {tg : Expr} {J J' : It} {fp : List Addr} {it : Addr} {tn : Nat → Heap → Prop} (T : Turn P w K tg J fp it tn)
    (hg : ∀ i H, J'.go i H → J.go i H) (hy : ∀ i H x H', J'.go i H → J.yld i H x H' → J'.yld i H x H') (hs : ∀ i H, J'.stop i H → J.stop i H) : Turn P w K tg J' fp it tn where
  mem := T.mem
  obj := T.obj
  keep := T.keep
  item := fun X a b c d i pins s σ H E I hf st go => thn (T.item X a b c d i pins s σ H E I hf st (hg i H go)) fun r s1 ⟨u, e, h⟩ => ⟨u, e, thn h fun _ s2 ⟨x, H', I', r', y, z⟩ => ⟨x, H', I', r', hy i H x H' go y, z⟩⟩
  done := fun X a b c d i pins s σ H E I hf st stop => T.done X a b c d i pins s σ H E I hf st (hs i H stop)
  self := T.self
/-- the tracked list at a -/
def ItL (a : Addr) : It := ⟨fun i H => ∃ xs x, H a = some (.lst xs) ∧ xs[i]? = some x, fun i H x H' => H' = H ∧ ∀ xs, H a = some (.lst xs) → xs[i]? = some x, fun i H => ∃ xs, H a = some (.lst xs) ∧ xs.length ≤ i⟩
/-- pairs of its numbers and its items -/
def ItE (l : Addr) : It :=
  ⟨fun i H => ∃ xs x, H l = some (.lst xs) ∧ xs[i]? = some x, fun i H v H' => ∃ t x, v = .ref t ∧ H t = none ∧ H' = upd H t (.tup [.int i, x]) ∧ ∀ xs, H l = some (.lst xs) → xs[i]? = some x, fun i H => ∃ xs, H l = some (.lst xs) ∧ xs.length ≤ i⟩
theorem turn_L {P : Program} {w : World} {K : PySem.W.Frag} {tg : Expr} (a it : Addr) : Turn P w K tg (ItL a) [it] it (fun i h => h.IsListIter it a i) :=
  (turn_list (K := K) a it).imp (fun i H ⟨xs, x, h, e⟩ => ⟨xs, x, SqL.of h, e⟩) (fun i H x H' _ ⟨e, y⟩ => ⟨e, fun xs h => y xs (SqL.of h)⟩) (fun i H ⟨xs, h, e⟩ => ⟨xs, SqL.of h, e⟩)
theorem turn_E {P : Program} {w : World} {K : PySem.W.Frag} {elts : List Expr} {k : Nat} {tp : Pos} (l e it : Addr) (hne : e ≠ it) : Turn P w K (.Tuple elts k tp) (ItE l) [e, it] e (fun i h => (∃ old, IsEnum h e it i old) ∧ h.IsListIter it l i) :=
  (turn_enum (K := K) l e it hne).imp (fun i H ⟨xs, x, h, e⟩ => ⟨xs, x, SqL.of h, e⟩) (fun i H x H' _ ⟨t, z, h1, h2, h3, y⟩ => ⟨t, z, h1, h2, h3, fun xs h => y xs (SqL.of h)⟩) (fun i H ⟨xs, h, e⟩ => ⟨xs, SqL.of h, e⟩)
def iL (tl : TE) : TI := fun σ H R => tl σ H fun x H1 => ∃ a xs, x = .ref a ∧ H1 a = some (.lst xs) ∧ R (ItL a) H1
theorem pi_L {tg l : Expr} {tl : TE} (hl : PE X l tl) : PI X tg l (iL tl) := by
  intro pins s σ H R I h
  refine thn (hl pins s σ H _ I h) fun v s1 ⟨x, H1, I1, r1, q1⟩ => ?_
  obtain ⟨a, xs, e, hq, q⟩ := q1
  subst e
  cases r1
  obtain ⟨its, rv, p, hz⟩ := I1.list (SqL.of hq)
  refine wpAny_pyIter_list p.isList ?_
  refine ⟨s1.heap.objs.size, [s1.heap.objs.size], _, ItL a, H1, rfl, I1.kept (t' := s1.toks) (fun b o e => Heap.get?_push_of_some _ e), turn_L a _, ⟨_, Heap.get?_push_size _ rfl, rfl, rfl⟩, fun b hb => ?_, q⟩
  obtain rfl : b = s1.heap.objs.size := by simpa using hb
  exact I1.fpOk (Nat.le_refl _) (I1.hok.fresh (Nat.le_refl _))
def iE (ta : TA) : TI := fun σ H R => ta σ H fun vs H1 => ∃ l xs, vs = [.ref l] ∧ H1 l = some (.lst xs) ∧ R (ItE l) H1
theorem pi_E {a : Expr} {ta : TA} {p pos : Pos} {elts : List Expr} {k : Nat} {tp : Pos} (hg : Gl X "enumerate") (hm : X.mg "enumerate" = none) (ha : PA X [a] ta) (hs : starEach [a] X.env = [(false, eval a X.env)] := by rfl) :
    PI X (.Tuple elts k tp) (.Call (.Name "enumerate" p) [a] [] pos) (iE ta) := by
  intro pins s σ H R I h
  refine Call_ (ld_blt I hg hm boot_enumerate (PyProof.Rows.callWith_type1 (thn (ha pos pins s σ H _ I h) fun us s1 ⟨vs, H1, I1, r1, q1⟩ => ?_) hs rfl))
  obtain ⟨l, xs, e, hq, q⟩ := q1
  subst e
  obtain ⟨u, rfl, ru⟩ := vals1 r1
  cases ru
  obtain ⟨its, rv, pl, hz⟩ := I1.list (SqL.of hq)
  refine call_enumerate_list pl.isList fun h' he hit hsz hk => ?_
  have I2 : Inv X pins σ H1 { s1 with heap := h' } := I1.kept (t' := s1.toks) hk
  refine wpAny_pyIter_enum (s := { s1 with heap := h' }) he ?_
  refine ⟨s1.heap.objs.size + 1, [s1.heap.objs.size + 1, s1.heap.objs.size], _, ItE l, H1, rfl, I2, turn_E l _ _ (Nat.ne_of_gt (Nat.lt_succ_self _)), ⟨⟨_, by simpa using he⟩, hit⟩, fun b hb => ?_, q⟩
  have hge : s1.heap.objs.size ≤ b := by
    rcases List.mem_cons.mp hb with z | hb
    · rw [z]; exact Nat.le_succ _
    · have z : b = s1.heap.objs.size := by simpa using hb
      rw [z]; exact Nat.le_refl _
  exact I1.fpOk hge (I1.hok.fresh hge)
/-- a value's truth -/
def TruD (x : V) (H : Hp) (k : Bool) : Prop := match x with
  | .non => k = false
  | .bl b => k = b
  | .int i => k = (i != 0)
  | .ref p => ∃ xs, H p = some (.lst xs) ∧ k = !xs.isEmpty
  | _ => False
theorem pt_tru {a : Expr} {ta : TE} (ha : PE X a ta) (he : ∀ whole, isTrue a X.env whole = (do let v ← whole; standAt a.pos; holding [v] (truthy v))) : PT X a (fun σ H Q => ta σ H fun x H' => ∃ k, TruD x H' k ∧ Q k H') := by
  intro pins s σ H Q I h
  refine isTrue_plain (thn (ha pins s σ H _ I h) fun v s1 ⟨x, H1, I1, r1, k, e, q1⟩ => tru_ok pins s1 σ H1 x v Q I1 r1 ⟨k, ?_, q1⟩) (he _)
  cases x with
  | ref p =>
    obtain ⟨xs, hx, e⟩ : ∃ xs, H1 p = some (.lst xs) ∧ k = !xs.isEmpty := e
    exact Or.inl ⟨xs, SqL.of hx, e⟩
  | non => exact e
  | bl b => exact e
  | int i => exact e
  | str y => exact (show False from e).elim
  | byt y => exact (show False from e).elim
  | flt y => exact (show False from e).elim
  | ty y => exact (show False from e).elim
end
end L2

set_option Elab.async false
set_option linter.all false
set_option maxRecDepth 100000
set_option maxHeartbeats 4000000
namespace L2
open PySem PySem.Spec PyProof.Rows
section
variable {X : Cx}
@[irreducible] def rMulD : R2 := fun x y H Q => rI CMul (fun i j => .int (i * j)) x y H Q ∨ rRep x y H Q
theorem op_mulD : OpR X (binaryOp .Mult) rMulD := by
  intro pins s σ H x y v u Q I rx ry h
  unfold rMulD at h
  exact OpR.or op_mul op_rep pins s σ H x y v u Q I rx ry h
theorem mulI {H : Hp} {i j : Int} {Q : VK} (h : CMul i j) (q : Q (.int (i * j)) H) : rMulD (.int i) (.int j) H Q := by
  unfold rMulD
  exact .inl ⟨i, j, rfl, rfl, h, q⟩
theorem mulR {H : Hp} {l : Addr} {k : Int} {xs : List V} {Q : VK} (hH : H l = some (.lst xs)) (h1 : -(2 ^ 63) ≤ k) (h2 : k < 2 ^ 63) (hz : xs.length * k.toNat ≤ sizeLine) (q : ∀ p, H p = none → Q (.ref p) (upd H p (.lst (List.replicate k.toNat xs).flatten))) : rMulD (.ref l) (.int k) H Q := by
  unfold rMulD
  exact .inr ⟨l, k, xs, rfl, rfl, hH, h1, h2, hz, q⟩
/-- // by a divisor that is not too great -/
def CDivB (i j : Int) : Prop := 0 < j ∧ j < 2 ^ 200
theorem op_fdivD : OpR X (binaryOp .FloorDiv) (rI CDivB fun i j => .int (i / j)) := opI fun i j _ _ _ _ _ hc q => by
  have h1 : (0 : Int) < j := hc.1
  have h2 : j < 2 ^ 200 := hc.2
  refine floordiv_int (by omega) (by rw [Int.fdiv_eq_ediv_of_nonneg i (by omega)]; exact q) (.inl (PyProof.noPylong_of_log2 ?_))
  have h3 : j.natAbs < 2 ^ 200 := by omega
  have h4 : j.natAbs ≠ 0 := by omega
  exact Nat.lt_trans ((Nat.log2_lt h4).mpr h3) (by decide)
theorem pe_negc {i : Int} {j : Nat} {p pos : Pos} : PE X (.UnaryOp .USub (.Constant (.int i) j p) pos) (tC (.int (-i))) := by
  intro pins s σ H Q I h
  exact pe_un un_neg pe_int pins s σ H Q I ⟨i, rfl, h⟩
theorem pe_cst {x : Str} {n : Int} {pos : Pos} (hg : Gl X x) (h : ∃ t, X.mg x = some (.int n t)) (hd : (x == ("__debug__" : Str)) = false := by decide +kernel) : PE X (.Name x pos) (tC (.int n)) := by
  obtain ⟨t, h⟩ := h
  exact pe_glob hg h ⟨t, rfl⟩ hd
end
theorem callee_of {P : Program} {w : World} {K : PySem.W.Frag} {mg : Str → Option Value} {base : Heap} {x : Str} {st : Stmt} {N ps : List Str} {k : Nat} {sp : Sp} (d : ∃ f fd, Fun K x x st f fd ∧ mg x = some (.ref f))
    (hb : ∀ (kV doc pm : Value) (an : Option Addr) (cdv ct : Value) (us : List Value), us.length = ps.length → bindArgs (PySem.W.fnOf x x (defArgs st) (defBody st) (defScope st) .none kV doc pm an cdv ct) ⟨us, []⟩ = pure (ps.zip us))
    (S : FnScope N ps (defScope st)) (len : ∀ vs H Q E, sp vs H Q E → vs.length = ps.length)
    (hbody : ∀ (f : Addr) (cdv : Value) (A : Around) (outer : List Env) (s : Shared) (H : Hp) (vs : List V) (Q : VK) (E : XK), Room k (A.deeper (envOfC x (defScope st) s.heap.objs.size f cdv)) → sp vs H Q E →
      ∃ t, PSs (cxOf CX0 P w K mg base N x (defScope st) f cdv A outer s H E).nox (defBody st) t ∧ t { nx := fun _ H' => Q .non H', rt := Q } (start N vs) H) : Callee P w K mg base x ps (k + 1) sp := by
  obtain ⟨f, fd, F, hm⟩ := d
  refine ⟨f, fd, hm, F.kp, F.binds hb, F.ok S len fun cdv A outer s H vs Q E hr h => hbody f cdv A outer s H vs Q E hr h, ?_⟩
  obtain ⟨oc, od, _, _, _, _, _, _, osl, _, lk, _⟩ := F.ex
  exact ⟨oc, od, osl, lk⟩
/-- the law's own def, once for every base -/
theorem law_F {P : Program} {w : World} {K : PySem.W.Frag} {mg : Str → Option Value} {x p : Str} {st : Stmt} {k : Nat} {sp : Sp} {fa : Addr} (d : ∃ f fd, Fun K x x st f fd ∧ mg x = some (.ref f))
    (hb : ∀ (kV doc pm : Value) (an : Option Addr) (cdv ct u : Value), bindArgs (PySem.W.fnOf x x (defArgs st) (defBody st) (defScope st) .none kV doc pm an cdv ct) ⟨[u], []⟩ = pure [(p, u)])
    (C : ∀ base, Callee P w K mg base x [p] k sp) (hmg : mg x = some (.ref fa)) :
    ∃ fd : FuncData, (∀ (s : Shared) (u : Value), BindsTo s fd ⟨[u], []⟩ [(p, u)]) ∧ ∀ base : Heap, K.In base → base.Ns mainGlobals mg → FnOk P w K mg base CX0 k fa fd [p] sp := by
  obtain ⟨f, fd, F, hm⟩ := d
  rw [hmg] at hm
  cases hm
  refine ⟨fd, fun s u => ?_, fun base _ _ => ?_⟩
  · obtain ⟨oc, od, kV, doc, pm, an, cdv, ct, osl, rfl, lk, hcd⟩ := F.ex
    exact .of_eq (hb kV doc pm an cdv ct u)
  · obtain ⟨f', fd', h1, _, _, h4, oc', od', osl', lk'⟩ := (C base).ex
    rw [hmg] at h1
    cases h1
    obtain ⟨oc, od, _, _, _, _, _, _, osl, _, lk, _⟩ := F.ex
    rw [lk'] at lk
    cases lk
    exact h4
end L2

set_option Elab.async false
set_option linter.all false
set_option maxRecDepth 100000
set_option maxHeartbeats 4000000
/-! the forms of loops and comprehensions that one uses -/
namespace L2
open PySem PySem.Spec PyProof.Rows

theorem for_E {a : Addr} {xs : List V} {g : TG} {tb : TS} {D : Ends} {σ : St} {H : Hp} (Pv : Nat → St → Hp → Prop) (h0 : Pv 0 σ H) (hl : ∀ i σ H, i ≤ xs.length → Pv i σ H → H a = some (.lst xs))
    (hs : ∀ i x t σ H, xs[i]? = some x → H t = none → Pv i σ H → g (.ref t) σ (upd H t (.tup [.int i, x])) fun σ2 H2 => tb { D with nx := Pv (i + 1), ct := Pv (i + 1), bk := D.nx } σ2 H2) (hd : ∀ σ H, Pv xs.length σ H → D.nx σ H) :
    ∃ W : Nat → Nat → St → Hp → Prop, (∃ m, W 0 m σ H) ∧ ∀ i m σ H, W i m σ H →
      ((ItE a).stop i H ∧ D.nx σ H) ∨ ((ItE a).go i H ∧ ∃ N : St → Hp → Prop, (∀ σ' H', N σ' H' → ∃ m', m' < m ∧ W (i + 1) m' σ' H') ∧ ∀ x H', (ItE a).yld i H x H' → g x σ H' fun σ2 H2 => tb { D with nx := N, ct := N, bk := D.nx } σ2 H2) := by
  refine ⟨fun i m σ H => m = xs.length - i ∧ i ≤ xs.length ∧ Pv i σ H, ⟨xs.length, by simp, Nat.zero_le _, h0⟩, ?_⟩
  rintro i m σ H ⟨rfl, hi, p⟩
  have q := hl i σ H hi p
  by_cases hlt : i < xs.length
  · refine .inr ⟨⟨xs, xs[i], q, by simp [hlt]⟩, Pv (i + 1), fun σ' H' p' => ⟨xs.length - (i + 1), by omega, rfl, hlt, p'⟩, fun v H' y => ?_⟩
    obtain ⟨t, x, rfl, ht, rfl, y⟩ := y
    exact hs i x t σ _ (y xs q) ht p
  · have e : i = xs.length := by omega
    subst e
    exact .inl ⟨⟨xs, q, Nat.le_refl _⟩, hd σ H p⟩

theorem for_L {a : Addr} {xs : List V} {g : TG} {tb : TS} {D : Ends} {σ : St} {H : Hp} (Pv : Nat → St → Hp → Prop) (h0 : Pv 0 σ H) (hl : ∀ i σ H, i ≤ xs.length → Pv i σ H → H a = some (.lst xs))
    (hs : ∀ i x σ H, xs[i]? = some x → Pv i σ H → g x σ H fun σ2 H2 => tb { D with nx := Pv (i + 1), ct := Pv (i + 1), bk := D.nx } σ2 H2) (hd : ∀ σ H, Pv xs.length σ H → D.nx σ H) :
    ∃ W : Nat → Nat → St → Hp → Prop, (∃ m, W 0 m σ H) ∧ ∀ i m σ H, W i m σ H →
      ((ItL a).stop i H ∧ D.nx σ H) ∨ ((ItL a).go i H ∧ ∃ N : St → Hp → Prop, (∀ σ' H', N σ' H' → ∃ m', m' < m ∧ W (i + 1) m' σ' H') ∧ ∀ x H', (ItL a).yld i H x H' → g x σ H' fun σ2 H2 => tb { D with nx := N, ct := N, bk := D.nx } σ2 H2) := by
  refine ⟨fun i m σ H => m = xs.length - i ∧ i ≤ xs.length ∧ Pv i σ H, ⟨xs.length, by simp, Nat.zero_le _, h0⟩, ?_⟩
  rintro i m σ H ⟨rfl, hi, p⟩
  have q := hl i σ H hi p
  by_cases hlt : i < xs.length
  · refine .inr ⟨⟨xs, xs[i], q, by simp [hlt]⟩, Pv (i + 1), fun σ' H' p' => ⟨xs.length - (i + 1), by omega, rfl, hlt, p'⟩, fun x H' y => ?_⟩
    obtain ⟨e, y⟩ := y
    subst e
    exact hs i x σ _ (y xs q) p
  · have e : i = xs.length := by omega
    subst e
    exact .inl ⟨⟨xs, q, Nat.le_refl _⟩, hd σ H p⟩

/-! ### comprehensions -/
section
variable {js : List (Option Nat)} {g : TG} {tt : TT} {te : TE} {σ : St} {H : Hp} {Q : VK}
theorem lc_list {a : Addr} {xs : List V} (hz : xs.length ≤ sizeLine) (Pv : Nat → List V → Hp → Prop) (h0 : Pv 0 [] H) (hl : ∀ i acc H, i ≤ xs.length → Pv i acc H → H a = some (.lst xs) ∧ acc.length ≤ i)
    (hs : ∀ i x acc H (N : List V → Hp → Prop), xs[i]? = some x → Pv i acc H → (∀ acc' H', Pv (i + 1) acc' H' → N acc' H') → g x (pick σ js) H fun σ2 H2 => tt σ2 H2 fun b H3 => if b = true then te σ2 H3 fun v H4 => N (acc ++ [v]) H4 else N acc H3)
    (hd : ∀ acc H l, Pv xs.length acc H → H l = none → Q (.ref l) (upd H l (.lst acc))) : lcGo (ItL a) js g tt te σ H Q := by
  refine ⟨fun i m acc H => m = xs.length - i ∧ i ≤ xs.length ∧ Pv i acc H, ⟨xs.length, by simp, Nat.zero_le _, h0⟩, ?_⟩
  rintro i m acc H ⟨rfl, hi, p⟩
  obtain ⟨q, hacc⟩ := hl i acc H hi p
  by_cases hlt : i < xs.length
  · refine .inr ⟨⟨xs, xs[i], q, by simp [hlt]⟩, by omega, fun x H' y => ?_⟩
    obtain ⟨e, y⟩ := y
    subst e
    exact hs i x acc _ (fun acc' H' => ∃ m', m' < xs.length - i ∧ (m' = xs.length - (i + 1) ∧ i + 1 ≤ xs.length ∧ Pv (i + 1) acc' H')) (y xs q) p fun acc' H' r => ⟨_, by omega, rfl, hlt, r⟩
  · have e : i = xs.length := by omega
    subst e
    exact .inl ⟨⟨xs, q, Nat.le_refl _⟩, by omega, fun l hl => hd acc H l p hl⟩
theorem lc_enum {a : Addr} {xs : List V} (hz : xs.length ≤ sizeLine) (Pv : Nat → List V → Hp → Prop) (h0 : Pv 0 [] H) (hl : ∀ i acc H, i ≤ xs.length → Pv i acc H → H a = some (.lst xs) ∧ acc.length ≤ i)
    (hs : ∀ i x t acc H (N : List V → Hp → Prop), xs[i]? = some x → H t = none → Pv i acc H → (∀ acc' H', Pv (i + 1) acc' H' → N acc' H') →
      g (.ref t) (pick σ js) (upd H t (.tup [.int i, x])) fun σ2 H2 => tt σ2 H2 fun b H3 => if b = true then te σ2 H3 fun v H4 => N (acc ++ [v]) H4 else N acc H3)
    (hd : ∀ acc H l, Pv xs.length acc H → H l = none → Q (.ref l) (upd H l (.lst acc))) : lcGo (ItE a) js g tt te σ H Q := by
  refine ⟨fun i m acc H => m = xs.length - i ∧ i ≤ xs.length ∧ Pv i acc H, ⟨xs.length, by simp, Nat.zero_le _, h0⟩, ?_⟩
  rintro i m acc H ⟨rfl, hi, p⟩
  obtain ⟨q, hacc⟩ := hl i acc H hi p
  by_cases hlt : i < xs.length
  · refine .inr ⟨⟨xs, xs[i], q, by simp [hlt]⟩, by omega, fun v H' y => ?_⟩
    obtain ⟨t, x, rfl, ht, rfl, y⟩ := y
    exact hs i x t acc _ (fun acc' H' => ∃ m', m' < xs.length - i ∧ (m' = xs.length - (i + 1) ∧ i + 1 ≤ xs.length ∧ Pv (i + 1) acc' H')) (y xs q) ht p fun acc' H' r => ⟨_, by omega, rfl, hlt, r⟩
  · have e : i = xs.length := by omega
    subst e
    exact .inl ⟨⟨xs, q, Nat.le_refl _⟩, by omega, fun l hl => hd acc H l p hl⟩
theorem lc_range {lo : Int} {n : Nat} (hz : n ≤ sizeLine) (Pv : Nat → List V → Hp → Prop) (h0 : Pv 0 [] H) (hl : ∀ i acc H, i ≤ n → Pv i acc H → acc.length ≤ i)
    (hs : ∀ i acc H (N : List V → Hp → Prop), i < n → Pv i acc H → (∀ acc' H', Pv (i + 1) acc' H' → N acc' H') → g (.int (lo + i)) (pick σ js) H fun σ2 H2 => tt σ2 H2 fun b H3 => if b = true then te σ2 H3 fun v H4 => N (acc ++ [v]) H4 else N acc H3)
    (hd : ∀ acc H l, Pv n acc H → H l = none → Q (.ref l) (upd H l (.lst acc))) : lcGo (Itr lo n) js g tt te σ H Q := by
  refine ⟨fun i m acc H => m = n - i ∧ i ≤ n ∧ Pv i acc H, ⟨n, by simp, Nat.zero_le _, h0⟩, ?_⟩
  rintro i m acc H ⟨rfl, hi, p⟩
  have hacc := hl i acc H hi p
  by_cases hlt : i < n
  · refine .inr ⟨hlt, by omega, fun x H' y => ?_⟩
    obtain ⟨e, y⟩ := y
    subst e y
    exact hs i acc _ (fun acc' H' => ∃ m', m' < n - i ∧ (m' = n - (i + 1) ∧ i + 1 ≤ n ∧ Pv (i + 1) acc' H')) hlt p fun acc' H' r => ⟨_, by omega, rfl, hlt, r⟩
  · have e : i = n := by omega
    subst e
    exact .inl ⟨Nat.le_refl _, by omega, fun l hl => hd acc H l p hl⟩

/-! ### over plain data, nothing changed: items are f of what is walked, or nothing -/
theorem filterMap_snoc {α β : Type} (f : α → Option β) (ds : List α) (i : Nat) (d : α) (h : ds[i]? = some d) : (ds.take (i + 1)).filterMap f = (ds.take i).filterMap f ++ (f d).toList := by
  rw [List.take_add_one, h, List.filterMap_append]
  cases e : f d <;> simp [e]
theorem lc_listD {P : Addr → Prop} {a : Addr} {ds : List PyData} (f : PyData → Option PyData) (hd : Dn H P (.ref a) (.list ds)) (hz : ds.length ≤ sizeLine)
    (hs : ∀ (i : Nat) d x H' (Ny : VK) (Nn : Hp → Prop), ds[i]? = some d → Same H H' → Dn H' P x d → (∀ v H4 e, Same H' H4 → f d = some e → Dn H4 P v e → Ny v H4) → (∀ H4, Same H' H4 → f d = none → Nn H4) →
      g x (pick σ js) H' fun σ2 H2 => tt σ2 H2 fun b H3 => if b = true then te σ2 H3 Ny else Nn H3)
    (fin : ∀ l H' ys, Same H H' → H' l = none → Dns H' P ys (ds.filterMap f) → Q (.ref l) (upd H' l (.lst ys))) : lcGo (ItL a) js g tt te σ H Q := by
  cases hd with
  | @lst _ xs _ np ha t =>
    have hlen := t.length
    refine lc_list (xs := xs) (by omega) (fun i acc H' => Same H H' ∧ Dns H' P acc ((ds.take i).filterMap f)) ⟨Same.refl _, .nil⟩ (fun i acc H' hi ⟨sm, dn⟩ => ⟨sm _ _ ha, ?_⟩) (fun i x acc H' N hx ⟨sm, dn⟩ go => ?_) (fun acc H' l ⟨sm, dn⟩ hl => ?_)
    · rw [dn.length]
      exact Nat.le_trans (List.length_filterMap_le ..) (by rw [List.length_take]; exact Nat.min_le_left _ _)
    · obtain ⟨d, hdi, hdn⟩ := t.getV hx
      refine hs i d x H' (fun v H4 => N (acc ++ [v]) H4) (fun H4 => N acc H4) hdi sm (hdn.mono sm.x) (fun v H4 e s4 hf d4 => ?_) (fun H4 s4 hf => ?_)
      · exact go _ _ ⟨sm.trans s4, by rw [filterMap_snoc f ds i d hdi, hf]; exact (dn.mono s4.x).app (.cons d4 .nil)⟩
      · exact go _ _ ⟨sm.trans s4, by rw [filterMap_snoc f ds i d hdi, hf]; simpa using dn.mono s4.x⟩
    · rw [hlen, List.take_length] at dn
      exact fin l H' acc sm hl dn
theorem lc_enumD {P : Addr → Prop} {a : Addr} {ds : List PyData} (f : Nat × PyData → Option PyData) (hd : Dn H P (.ref a) (.list ds)) (hz : ds.length ≤ sizeLine)
    (hs : ∀ (i : Nat) d x t H' (Ny : VK) (Nn : Hp → Prop), ds[i]? = some d → Same H H' → H' t = none → Dn H' P x d → (∀ v H4 e, Same H' H4 → f (i, d) = some e → Dn H4 P v e → Ny v H4) → (∀ H4, Same H' H4 → f (i, d) = none → Nn H4) →
      g (.ref t) (pick σ js) (upd H' t (.tup [.int i, x])) fun σ2 H2 => tt σ2 H2 fun b H3 => if b = true then te σ2 H3 Ny else Nn H3)
    (fin : ∀ l H' ys, Same H H' → H' l = none → Dns H' P ys (((List.range ds.length).zip ds).filterMap f) → Q (.ref l) (upd H' l (.lst ys))) : lcGo (ItE a) js g tt te σ H Q := by
  cases hd with
  | @lst _ xs _ np ha t =>
    have hlen := t.length
    have zl : ((List.range ds.length).zip ds).length = ds.length := by simp
    refine lc_enum (xs := xs) (by omega) (fun i acc H' => Same H H' ∧ Dns H' P acc ((((List.range ds.length).zip ds).take i).filterMap f)) ⟨Same.refl _, .nil⟩ (fun i acc H' hi ⟨sm, dn⟩ => ⟨sm _ _ ha, ?_⟩) (fun i x tt' acc H' N hx ht ⟨sm, dn⟩ go => ?_) (fun acc H' l ⟨sm, dn⟩ hl => ?_)
    · rw [dn.length]
      exact Nat.le_trans (List.length_filterMap_le ..) (by rw [List.length_take]; exact Nat.min_le_left _ _)
    · obtain ⟨d, hdi, hdn⟩ := t.getV hx
      have hi : i < ds.length := (List.getElem?_eq_some_iff.mp hdi).1
      have hzi : ((List.range ds.length).zip ds)[i]? = some (i, d) := by
        rw [List.getElem?_zip_eq_some]
        exact ⟨by simp [hi], hdi⟩
      refine hs i d x tt' H' (fun v H4 => N (acc ++ [v]) H4) (fun H4 => N acc H4) hdi sm ht (hdn.mono sm.x) (fun v H4 e s4 hf d4 => ?_) (fun H4 s4 hf => ?_)
      · exact go _ _ ⟨sm.trans s4, by rw [filterMap_snoc f _ i (i, d) hzi, hf]; exact (dn.mono s4.x).app (.cons d4 .nil)⟩
      · exact go _ _ ⟨sm.trans s4, by rw [filterMap_snoc f _ i (i, d) hzi, hf]; simpa using dn.mono s4.x⟩
    · rw [List.take_of_length_le (by omega)] at dn
      exact fin l H' acc sm hl dn
theorem lc_rangeD {P : Addr → Prop} {n : Nat} (f : Nat → Option PyData) (hz : n ≤ sizeLine)
    (hs : ∀ (i : Nat) H' (Ny : VK) (Nn : Hp → Prop), i < n → Same H H' → (∀ v H4 e, Same H' H4 → f i = some e → Dn H4 P v e → Ny v H4) → (∀ H4, Same H' H4 → f i = none → Nn H4) →
      g (.int (0 + (i : Int))) (pick σ js) H' fun σ2 H2 => tt σ2 H2 fun b H3 => if b = true then te σ2 H3 Ny else Nn H3)
    (fin : ∀ l H' ys, Same H H' → H' l = none → Dns H' P ys ((List.range n).filterMap f) → Q (.ref l) (upd H' l (.lst ys))) : lcGo (Itr 0 n) js g tt te σ H Q := by
  have rl : (List.range n).length = n := List.length_range
  refine lc_range hz (fun i acc H' => Same H H' ∧ Dns H' P acc (((List.range n).take i).filterMap f)) ⟨Same.refl _, .nil⟩ (fun i acc H' hi ⟨sm, dn⟩ => ?_) (fun i acc H' N hi ⟨sm, dn⟩ go => ?_) (fun acc H' l ⟨sm, dn⟩ hl => ?_)
  · rw [dn.length]
    exact Nat.le_trans (List.length_filterMap_le ..) (by rw [List.length_take]; exact Nat.min_le_left _ _)
  · have hzi : (List.range n)[i]? = some i := by simp [hi]
    refine hs i H' (fun v H4 => N (acc ++ [v]) H4) (fun H4 => N acc H4) hi sm (fun v H4 e s4 hf d4 => ?_) (fun H4 s4 hf => ?_)
    · exact go _ _ ⟨sm.trans s4, by rw [filterMap_snoc f _ i i hzi, hf]; exact (dn.mono s4.x).app (.cons d4 .nil)⟩
    · exact go _ _ ⟨sm.trans s4, by rw [filterMap_snoc f _ i i hzi, hf]; simpa using dn.mono s4.x⟩
  · rw [List.take_of_length_le (by omega)] at dn
    exact fin l H' acc sm hl dn
end
end L2

set_option Elab.async false
set_option linter.all false
set_option maxRecDepth 100000
set_option maxHeartbeats 4000000
/-! nets, roads, ways as plain data; the promises that the laws' own helpers and the program share -/
namespace My
open PySem L2
abbrev Road := Int × Int × Int
def roadD (r : Road) : PyData := .tuple [.int r.1, .int r.2.1, .int r.2.2]
def roadsD (rs : List Road) : PyData := .list (rs.map roadD)
def netD (n : Int) (rs : List Road) : PyData := .tuple [.int n, roadsD rs]
def intsD (ns : List Int) : PyData := .list (ns.map .int)
def RoadOk (n : Int) (r : Road) : Prop := (0 ≤ r.1 ∧ r.1 < n) ∧ (0 ≤ r.2.1 ∧ r.2.1 < n) ∧ (-1000000000 ≤ r.2.2 ∧ r.2.2 ≤ 1000000000)
structure NetOk (n : Int) (rs : List Road) : Prop where
  n0 : 0 ≤ n
  n1 : n ≤ 20
  len : rs.length ≤ 60
  rd : ∀ r ∈ rs, RoadOk n r
/-- the road of a number -/
def roadAt (rs : List Road) (k : Int) : Option Road := if 0 ≤ k ∧ k < rs.length then rs[k.toNat]? else none
theorem roadAt_some {rs : List Road} {k : Int} {r : Road} (h : roadAt rs k = some r) : 0 ≤ k ∧ k < rs.length ∧ rs[k.toNat]? = some r := by
  unfold roadAt at h
  split at h
  · rename_i hk; exact ⟨hk.1, hk.2, h⟩
  · cases h
theorem roadAt_in {rs : List Road} {k : Int} (h0 : 0 ≤ k) (h1 : k < rs.length) : ∃ r, roadAt rs k = some r ∧ rs[k.toNat]? = some r := by
  have hk : k.toNat < rs.length := by omega
  refine ⟨rs[k.toNat], ?_, by simp [hk]⟩
  unfold roadAt
  rw [if_pos ⟨h0, h1⟩]
  simp [hk]
theorem roadAt_out {rs : List Road} {k : Int} (h : ¬ (0 ≤ k ∧ k < rs.length)) : roadAt rs k = none := by unfold roadAt; rw [if_neg h]
theorem roadAt_mem {rs : List Road} {k : Int} {r : Road} (h : roadAt rs k = some r) : r ∈ rs := List.mem_of_getElem? (roadAt_some h).2.2
/-- is the list a way -/
def leadsF (rs : List Road) : Int → Int → List Int → Bool
  | p, q, [] => decide (p = q)
  | p, q, k :: ws => match roadAt rs k with
    | some r => if r.1 = p then leadsF rs r.2.1 q ws else false
    | none => false
def lenOf (rs : List Road) (k : Int) : Int := match roadAt rs k with
  | some r => r.2.2
  | none => 0
def wayLen (rs : List Road) (ws : List Int) : Int := (ws.map (lenOf rs)).sum
def AllIn (rs : List Road) (ws : List Int) : Prop := ∀ k ∈ ws, 0 ≤ k ∧ k < rs.length
theorem leads_in {rs : List Road} : ∀ {ws : List Int} {p q : Int}, leadsF rs p q ws = true → AllIn rs ws
  | [], _, _, _ => fun _ h => by simp at h
  | k :: ws, p, q, h => by
    unfold leadsF at h
    cases e : roadAt rs k with
    | none => rw [e] at h; cases h
    | some r =>
      rw [e] at h
      simp only at h
      split at h
      · intro j hj
        rcases List.mem_cons.mp hj with rfl | hj
        · exact ⟨(roadAt_some e).1, (roadAt_some e).2.1⟩
        · exact leads_in h j hj
      · cases h
/-- index facts of plain data -/
theorem at_road {rs : List Road} {k : Int} {r : Road} (h : roadAt rs k = some r) : atI (rs.map roadD) k = some (roadD r) := by
  obtain ⟨h0, h1, h2⟩ := roadAt_some h
  have e : k = (k.toNat : Int) := by omega
  rw [e]
  exact atI_nat (by rw [List.getElem?_map, h2]; rfl)
theorem at_int {ns : List Int} {k : Int} {n : Int} (h0 : 0 ≤ k) (h : ns[k.toNat]? = some n) : atI (ns.map PyData.int) k = some (.int n) := by
  have e : k = (k.toNat : Int) := by omega
  rw [e]
  exact atI_nat (by rw [List.getElem?_map, h]; rfl)
theorem at_in {α : Type} {xs : List α} {k : Int} (h0 : 0 ≤ k) (h1 : k < xs.length) : ∃ x, xs[k.toNat]? = some x := by
  have hk : k.toNat < xs.length := by omega
  exact ⟨xs[k.toNat], by simp [hk]⟩

/-! ### promises: the program -/
def spPlace : Sp := fun vs H Q _ => ∃ c n : Int, vs = [.int c, .int n] ∧ ∀ b, (b = true ↔ 0 ≤ n ∧ n < c) → Q (.bl b) H
def spRoad : Sp := fun vs H Q _ => ∃ (c : Int) (v : V) (P : Addr → Prop) (r : Road), vs = [.int c, v] ∧ Dn H P v (roadD r) ∧ ∀ b, (b = true ↔ RoadOk c r) → Q (.bl b) H
def spCheckNet : Sp := fun vs H Q _ => ∃ (v : V) (P : Addr → Prop) (n : Int) (rs : List Road), vs = [v] ∧ Dn H P v (netD n rs) ∧ NetOk n rs ∧ ∀ H', Same H H' → Q .non H'
def spLeads : Sp := fun vs H Q _ => ∃ (v w : V) (p q n : Int) (P P' : Addr → Prop) (rs : List Road) (ws : List Int), vs = [v, .int p, .int q, w] ∧ Dn H P v (netD n rs) ∧ Dn H P' w (intsD ws) ∧ ∀ H', Same H H' → Q (.bl (leadsF rs p q ws)) H'
def spWayLen : Sp := fun vs H Q _ => ∃ (v w : V) (n : Int) (P P' : Addr → Prop) (rs : List Road) (ws : List Int), vs = [v, w] ∧ Dn H P v (netD n rs) ∧ Dn H P' w (intsD ws) ∧ ws.length ≤ 1000 ∧ AllIn rs ws ∧ ∀ H', Same H H' → Q (.int (wayLen rs ws)) H'
/-- heights -/
def highF (n : Int) (rs : List Road) (hs : List Int) : Bool := decide ((hs.length : Int) = n) && rs.all fun r => decide (hs.getD r.2.1.toNat 0 ≤ hs.getD r.1.toNat 0 + r.2.2)
def spHigh : Sp := fun vs H Q _ => ∃ (v w : V) (n : Int) (P P' : Addr → Prop) (rs : List Road) (hs : List Int), vs = [v, w] ∧ Dn H P v (netD n rs) ∧ NetOk n rs ∧ Dn H P' w (intsD hs) ∧ ∀ H', Same H H' → Q (.bl (highF n rs hs)) H'
/-- a ring -/
def ringF (rs : List Road) (ws : List Int) : Bool := match ws with
  | [] => false
  | k :: _ => match roadAt rs k with
    | some r => leadsF rs r.1 r.1 ws
    | none => false
def spIsRing : Sp := fun vs H Q _ => ∃ (v w : V) (n : Int) (P P' : Addr → Prop) (rs : List Road) (ws : List Int), vs = [v, w] ∧ Dn H P v (netD n rs) ∧ Dn H P' w (intsD ws) ∧ ∀ H', Same H H' → Q (.bl (ringF rs ws)) H'
def spShowsRing : Sp := fun vs H Q _ => ∃ (v w : V) (n : Int) (P P' : Addr → Prop) (rs : List Road) (ws : List Int), vs = [v, w] ∧ Dn H P v (netD n rs) ∧ NetOk n rs ∧ Dn H P' w (intsD ws) ∧ ws.length ≤ 1000 ∧ ∀ H', Same H H' → Q (.bl (ringF rs ws && decide (wayLen rs ws < 0))) H'
/-! ### promises: the purse -/
/-- a purse stands at q, its count at most m -/
def Pu (H : Hp) (q : Addr) (m : Int) : Prop := ∃ a b c : Int, H q = some (.lst [.int a, .int b, .int c]) ∧ 0 ≤ a ∧ 0 ≤ b ∧ b < 2147483647 ∧ 0 ≤ c ∧ c ≤ m
theorem Pu.mono {H : Hp} {q : Addr} {m m' : Int} (h : Pu H q m) (l : m ≤ m') : Pu H q m' := by
  obtain ⟨a, b, c, h1, h2, h3, h4, h5, h6⟩ := h
  exact ⟨a, b, c, h1, h2, h3, h4, h5, by omega⟩
theorem Pu.same {H H' : Hp} {q : Addr} {m : Int} (h : Pu H q m) (s : Same H H') : Pu H' q m := by
  obtain ⟨a, b, c, h1, r⟩ := h
  exact ⟨a, b, c, s _ _ h1, r⟩
def spAt (K : PySem.W.Frag) : Sp := fun vs H Q _ => ∃ (a : Addr) (ns : List Int) (k : Int), vs = [.ref a, .int k] ∧ SqL K H a (ns.map V.int) ∧ 0 ≤ k ∧ ∀ n, Q (.int n) H
def spMixed : Sp := fun vs H Q _ => ∃ b c : Int, vs = [.int b, .int c] ∧ 0 ≤ b ∧ b < 2147483647 ∧ 0 ≤ c ∧ c < 2 ^ 62 ∧ ∀ n : Int, 0 ≤ n → n < 2147483587 → Q (.int n) H
def spPurse (K : PySem.W.Frag) : Sp := fun vs H Q _ => ∃ (a : Addr) (ns : List Int) (k : Int), vs = [.ref a, .int k] ∧ SqL K H a (ns.map V.int) ∧ 0 ≤ k ∧ k ≤ 63 ∧ ∀ q H', H q = none → Same H H' → Pu H' q 63000 → Q (.ref q) H'
/-- all but the purse stays -/
abbrev But (q : Addr) : Addr → Prop := fun a => a = q
def spDraw : Sp := fun vs H Q _ => ∃ (q : Addr) (n m : Int), vs = [.ref q, .int n] ∧ Pu H q m ∧ m ≤ 2 ^ 61 ∧ 1 ≤ n ∧ n < 2 ^ 100 ∧ ∀ (r : Int) H', 0 ≤ r → r < n → Pu H' q (m + 4) → SameX (But q) H H' → Q (.int r) H'
def spNumber : Sp := fun vs H Q _ => ∃ (q : Addr) (x m : Int), vs = [.ref q, .int x] ∧ Pu H q m ∧ m ≤ 2 ^ 60 ∧ 1 ≤ x ∧ x ≤ 2 ^ 62 ∧ ∀ (r : Int) H', -(max x 30) ≤ r → r ≤ max x 30 → Pu H' q (m + 8) → SameX (But q) H H' → Q (.int r) H'
end My
namespace L2
theorem ite_t {c : Bool} {A B : Prop} (hc : c = true) (h : A) : if c = true then A else B := by rw [if_pos hc]; exact h
theorem ite_f {c : Bool} {A B : Prop} (hc : c = false) (h : B) : if c = true then A else B := by rw [if_neg (by rw [hc]; exact Bool.false_ne_true)]; exact h
end L2
namespace My
open PySem L2
theorem _root_.L2.Dn.net {H : Hp} {P : Addr → Prop} {v : V} {n : Int} {rs : List Road} (h : Dn H P v (netD n rs)) : ∃ a l, v = .ref a ∧ ¬ P a ∧ H a = some (.tup [.int n, .ref l]) ∧ Dn H P (.ref l) (roadsD rs) := by
  cases h with
  | @tup a xs _ np ha t =>
  cases t with
  | cons d1 t =>
  cases t with
  | cons d2 t =>
  cases t
  cases d1
  cases id d2 with
  | lst n' h' t' => exact ⟨_, _, rfl, np, ha, d2⟩
theorem _root_.L2.Dn.road {H : Hp} {P : Addr → Prop} {v : V} {r : Road} (h : Dn H P v (roadD r)) : ∃ a, v = .ref a ∧ ¬ P a ∧ H a = some (.tup [.int r.1, .int r.2.1, .int r.2.2]) := by
  cases h with
  | @tup a xs _ np ha t =>
  cases t with
  | cons d1 t =>
  cases t with
  | cons d2 t =>
  cases t with
  | cons d3 t =>
  cases t
  cases d1; cases d2; cases d3
  exact ⟨_, rfl, np, ha⟩
theorem _root_.L2.Dn.ints {H : Hp} {P : Addr → Prop} {v : V} {ns : List Int} (h : Dn H P v (intsD ns)) : ∃ a, v = .ref a ∧ ¬ P a ∧ H a = some (.lst (ns.map V.int)) := by
  cases h with
  | @lst a xs _ np ha t => rw [t.ints] at ha; exact ⟨_, rfl, np, ha⟩
theorem dn_ints {H : Hp} {P : Addr → Prop} {a : Addr} {ns : List Int} (np : ¬ P a) (h : H a = some (.lst (ns.map V.int))) : Dn H P (.ref a) (intsD ns) := .lst np h (Dns.ofInts ns)
theorem at_ints {xs : List Int} {i : Nat} {y : V} (h : (xs.map V.int)[i]? = some y) : ∃ k, y = .int k ∧ xs[i]? = some k ∧ xs.drop i = k :: xs.drop (i + 1) := by
  rw [List.getElem?_map] at h
  cases e : xs[i]? with
  | none => rw [e] at h; cases h
  | some k =>
    rw [e] at h
    obtain ⟨hi, ek⟩ := List.getElem?_eq_some_iff.mp e
    exact ⟨k, (Option.some.inj h).symm, rfl, by rw [List.drop_eq_getElem_cons hi, ek]⟩
/-! comprehensions over roads, over ints -/
abbrev NoP : Addr → Prop := fun _ => False
def onRoad (F : Road → Option PyData) : PyData → Option PyData
  | .tuple [.int a, .int b, .int c] => F (a, b, c)
  | _ => none
def onInt (F : Int → Option PyData) : PyData → Option PyData
  | .int a => F a
  | _ => none
theorem on_roads (F : Road → Option PyData) (rs : List Road) : (rs.map roadD).filterMap (onRoad F) = rs.filterMap F := by
  rw [List.filterMap_map]
  rfl
theorem on_ints (F : Int → Option PyData) (ws : List Int) : (ws.map PyData.int).filterMap (onInt F) = ws.filterMap F := by
  rw [List.filterMap_map]
  rfl
theorem fm_some {α β γ : Type} (f : α → β) (g : β → γ) (l : List α) : l.filterMap (fun x => some (g (f x))) = (l.map f).map g := by
  induction l with
  | nil => rfl
  | cons x l ih => simp [List.filterMap_cons, ih]
theorem get_road {rs : List Road} {i : Nat} {d : PyData} (h : (rs.map roadD)[i]? = some d) : ∃ r, rs[i]? = some r ∧ d = roadD r ∧ r ∈ rs := by
  rw [List.getElem?_map] at h
  cases e : rs[i]? with
  | none => rw [e] at h; cases h
  | some r => rw [e] at h; exact ⟨r, rfl, (Option.some.inj h).symm, List.mem_of_getElem? e⟩
theorem get_int {ws : List Int} {i : Nat} {d : PyData} (h : (ws.map PyData.int)[i]? = some d) : ∃ k, ws[i]? = some k ∧ d = .int k ∧ k ∈ ws := by
  rw [List.getElem?_map] at h
  cases e : ws[i]? with
  | none => rw [e] at h; cases h
  | some r => rw [e] at h; exact ⟨r, rfl, (Option.some.inj h).symm, List.mem_of_getElem? e⟩
theorem at_high {hs : List Int} {k : Int} (h0 : 0 ≤ k) (h1 : k < hs.length) : atI (hs.map PyData.int) k = some (.int (hs.getD k.toNat 0)) := by
  obtain ⟨x, hx⟩ := at_in h0 h1
  rw [at_int h0 hx]
  simp [List.getD, hx]
theorem line1000 {n : Nat} (h : n ≤ 1000) : n ≤ sizeLine := Nat.le_of_lt (small1000 h)
theorem fm_none {α β : Type} (p : α → Bool) (f : α → β) (l : List α) : ((l.filterMap fun x => if p x = true then some (f x) else none).length = 0) ↔ l.all (fun x => !p x) = true := by
  induction l with
  | nil => simp
  | cons x l ih =>
    rw [List.filterMap_cons, List.all_cons]
    cases h : p x <;> simp [ih]
end My
namespace L2
theorem atI_zero {α : Type} (x : α) (xs : List α) : atI (x :: xs) 0 = some x := atI_nat (xs := x :: xs) (j := 0) rfl
theorem seq_by {t rest : TS} {D : Ends} {σ : St} {H : Hp} (M : St → Hp → Prop) (h1 : ∀ U : St → Hp → Prop, (∀ σ' H', M σ' H' → U σ' H') → t { D with nx := U } σ H) (h2 : ∀ σ' H', M σ' H' → rest D σ' H') : tSeq t rest D σ H := h1 (rest D) h2
end L2
namespace My
open PySem L2 PySem.SeqAt
mutual
theorem eqv_refl : ∀ d : PyData, d.canLay0 = true → PyData.eqv d d = true
  | .none, _ => rfl
  | .bool b, _ => by simp [PyData.eqv]
  | .int i, _ => by simp [PyData.eqv]
  | .str x, _ => by simp [PyData.eqv]
  | .list xs, h => by
    simp only [PyData.eqv]
    exact eqvAll_refl xs (by simpa [PyData.canLay0] using h)
  | .tuple xs, h => by
    simp only [PyData.eqv]
    exact eqvAll_refl xs (by simpa [PyData.canLay0] using h)
  | .dict _, h => by simp [PyData.canLay0] at h
theorem eqvAll_refl : ∀ ds : List PyData, PyData.canLayAll0 ds = true → PyData.eqvAll ds ds = true
  | [], _ => rfl
  | d :: ds, h => by
    simp only [PyData.canLayAll0, Bool.and_eq_true] at h
    simp only [PyData.eqvAll, Bool.and_eq_true]
    exact ⟨eqv_refl d h.1, eqvAll_refl ds h.2⟩
end
theorem eqv_nil (ds : List PyData) : PyData.eqv (.list ds) (.list []) = ds.isEmpty := by
  cases ds <;> simp [PyData.eqv, PyData.eqvAll]
/-- data of a depth that a comparison bears -/
def Lay (n : Nat) (d : PyData) : Prop := d.canLay0 = true ∧ d.depth ≤ n
theorem Lay.shaped {n : Nat} {d : PyData} (h : Lay n d) (hn : n ≤ 64 := by decide) : shaped d = true := by
  unfold SeqAt.shaped
  rw [h.1, Bool.true_and]
  exact decide_eq_true (Nat.le_trans h.2 hn)
theorem Lay.int (i : Int) : Lay 0 (.int i) := ⟨rfl, Nat.le_refl _⟩
theorem Lay.bool (i : Bool) : Lay 0 (.bool i) := ⟨rfl, Nat.le_refl _⟩
theorem Lay.none : Lay 0 .none := ⟨rfl, Nat.le_refl _⟩
theorem Lay.mono {n m : Nat} {d : PyData} (h : Lay n d) (hm : n ≤ m) : Lay m d := ⟨h.1, Nat.le_trans h.2 hm⟩
theorem lay_all {n : Nat} : ∀ {ds : List PyData}, (∀ d ∈ ds, Lay n d) → PyData.canLayAll0 ds = true ∧ PyData.depthAll ds ≤ n
  | [], _ => ⟨rfl, Nat.zero_le _⟩
  | d :: ds, h => by
    have h1 := h d List.mem_cons_self
    have h2 := lay_all fun e he => h e (List.mem_cons_of_mem _ he)
    refine ⟨by simp [PyData.canLayAll0, h1.1, h2.1], ?_⟩
    have a1 := h1.2
    have a2 := h2.2
    simp only [PyData.depthAll]
    omega
theorem Lay.list {n : Nat} {ds : List PyData} (h : ∀ d ∈ ds, Lay n d) : Lay (n + 1) (.list ds) := by
  have q := lay_all h
  refine ⟨by simp [PyData.canLay0, q.1], ?_⟩
  have := q.2
  simp only [PyData.depth]
  omega
theorem Lay.tuple {n : Nat} {ds : List PyData} (h : ∀ d ∈ ds, Lay n d) : Lay (n + 1) (.tuple ds) := by
  have q := lay_all h
  refine ⟨by simp [PyData.canLay0, q.1], ?_⟩
  have := q.2
  simp only [PyData.depth]
  omega
theorem Lay.ints (ns : List Int) : Lay 1 (intsD ns) := Lay.list fun d hd => by
  obtain ⟨i, _, rfl⟩ := List.mem_map.mp hd
  exact Lay.int i
theorem Lay.road (r : Road) : Lay 1 (roadD r) := Lay.tuple fun d hd => by
  rcases List.mem_cons.mp hd with rfl | hd
  · exact Lay.int _
  · rcases List.mem_cons.mp hd with rfl | hd
    · exact Lay.int _
    · rw [List.mem_singleton.mp hd]; exact Lay.int _
theorem Lay.roads (rs : List Road) : Lay 2 (roadsD rs) := Lay.list fun d hd => by
  obtain ⟨i, _, rfl⟩ := List.mem_map.mp hd
  exact Lay.road i
theorem Lay.net (n : Int) (rs : List Road) : Lay 3 (netD n rs) := Lay.tuple fun d hd => by
  rcases List.mem_cons.mp hd with rfl | hd
  · exact (Lay.int _).mono (Nat.zero_le _)
  · rw [List.mem_singleton.mp hd]; exact Lay.roads rs
theorem Lay.refl {n : Nat} {d : PyData} (h : Lay n d) : PyData.eqv d d = true := eqv_refl d h.1
theorem ringF_cons (rs : List Road) (k : Int) (ws : List Int) : ringF rs (k :: ws) = match roadAt rs k with
    | some r => leadsF rs r.1 r.1 (k :: ws)
    | none => false := rfl
theorem ring_in {rs : List Road} {ws : List Int} (h : ringF rs ws = true) : AllIn rs ws := by
  cases ws with
  | nil => cases h
  | cons j ws =>
    rw [ringF_cons] at h
    cases e : roadAt rs j with
    | none => rw [e] at h; cases h
    | some r => rw [e] at h; exact leads_in h
def spAsked06 : Sp := fun vs H Q _ => ∃ (v w : V) (n : Int) (P P' : Addr → Prop) (rs : List Road) (ws : List Int), vs = [v, w] ∧ Dn H P v (netD n rs) ∧ NetOk n rs ∧ Dn H P' w (intsD ws) ∧ ws.length ≤ 1000 ∧ ∀ H', Same H H' → Q (.bl true) H'
end My
namespace My
open PySem L2
/-- a road whose places lie below n, its length within B -/
def RoadB (n B : Int) (r : Road) : Prop := (0 ≤ r.1 ∧ r.1 < n) ∧ (0 ≤ r.2.1 ∧ r.2.1 < n) ∧ (-B ≤ r.2.2 ∧ r.2.2 ≤ B)
structure NetB (n B : Int) (most many : Nat) (rs : List Road) : Prop where
  n0 : 0 ≤ n
  n1 : n ≤ most
  len : rs.length ≤ many
  rd : ∀ r ∈ rs, RoadB n B r
theorem NetB.ok {n B : Int} {most many : Nat} {rs : List Road} (h : NetB n B most many rs) (h1 : most ≤ 20) (h2 : many ≤ 60) (h3 : B ≤ 1000000000) : NetOk n rs :=
  ⟨h.n0, by have := h.n1; omega, by have := h.len; omega, fun r hr => by
    obtain ⟨a, b, c⟩ := h.rd r hr
    exact ⟨a, b, by omega, by omega⟩⟩
theorem NetB.mono {n B B' : Int} {most many most' many' : Nat} {rs : List Road} (h : NetB n B most many rs) (h1 : most ≤ most') (h2 : many ≤ many') (h3 : B ≤ B') : NetB n B' most' many' rs :=
  ⟨h.n0, by have := h.n1; omega, by have := h.len; omega, fun r hr => by
    obtain ⟨a, b, c⟩ := h.rd r hr
    exact ⟨a, b, by omega, by omega⟩⟩
def spNet : Sp := fun vs H Q _ => ∃ (q : Addr) (most many : Nat) (m : Int), vs = [.ref q, .int most, .int many] ∧ Pu H q m ∧ m ≤ 2 ^ 50 ∧ most ≤ 19 ∧ many ≤ 30 ∧
  ∀ (v : V) (n : Int) (rs : List Road) (H' : Hp), NetB n 300000000 most (2 * many) rs → Pu H' q (m + 2000) → SameX (But q) H H' → Dn H' (But q) v (netD n rs) → Q v H'
def spAny : Sp := fun vs H Q _ => ∃ (q : Addr) (most many : Nat) (m : Int), vs = [.ref q, .int most, .int many] ∧ Pu H q m ∧ m ≤ 2 ^ 49 ∧ most ≤ 19 ∧ many ≤ 30 ∧
  ∀ (v : V) (n : Int) (rs : List Road) (H' : Hp), NetB n 400000000 most (4 * many + 1) rs → Pu H' q (m + 2100) → SameX (But q) H H' → Dn H' (But q) v (netD n rs) → Q v H'
theorem Pu.ne {H : Hp} {q l : Addr} {m : Int} (p : Pu H q m) (h : H l = none) : l ≠ q := fun e => by
  subst e
  obtain ⟨_, _, _, h1, _⟩ := p
  rw [h] at h1
  cases h1
theorem _root_.L2.SameX.back {P : Addr → Prop} {H H' : Hp} {f : Addr} (s : SameX P H H') (h : H' f = none) (np : ¬ P f) : H f = none := by
  cases e : H f with
  | none => rfl
  | some o => rw [s f o e np] at h; cases h
theorem pow8 : max ((10 : Int) ^ (Int.toNat 8)) 30 = 100000000 := by decide
theorem pow12 : max ((10 : Int) ^ (Int.toNat 12)) 30 = 1000000000000 := by decide
theorem pick4 {x y z u : Int} {r : Int} (h0 : 0 ≤ r) (h1 : r < 4) : ∃ w, atI [V.int x, .int y, .int z, .int u] r = some (.int w) ∧ (w = x ∨ w = y ∨ w = z ∨ w = u) := by
  have : r = 0 ∨ r = 1 ∨ r = 2 ∨ r = 3 := by omega
  rcases this with rfl | rfl | rfl | rfl
  · exact ⟨x, rfl, .inl rfl⟩
  · exact ⟨y, rfl, .inr (.inl rfl)⟩
  · exact ⟨z, rfl, .inr (.inr (.inl rfl))⟩
  · exact ⟨u, rfl, .inr (.inr (.inr rfl))⟩
theorem at_intsV {hs : List Int} {k : Int} (h0 : 0 ≤ k) (h1 : k < hs.length) : ∃ x, atI (hs.map V.int) k = some (.int x) ∧ x ∈ hs := by
  obtain ⟨x, hx⟩ := at_in h0 h1
  refine ⟨x, ?_, List.mem_of_getElem? hx⟩
  have e : k = (k.toNat : Int) := by omega
  rw [e]
  exact atI_nat (by rw [List.getElem?_map, hx]; rfl)
theorem atI_in {α : Type} {xs : List α} {k : Int} (h0 : 0 ≤ k) (h1 : k < xs.length) : ∃ x, atI xs k = some x ∧ xs[k.toNat]? = some x := by
  obtain ⟨x, hx⟩ := at_in h0 h1
  refine ⟨x, ?_, hx⟩
  have e : k = (k.toNat : Int) := by omega
  rw [e]
  exact atI_nat (by simpa using hx)
end My

set_option Elab.async false
set_option linter.all false
set_option maxRecDepth 100000
set_option maxHeartbeats 4000000
namespace My
open PySem L2
def top (i : Nat) : Stmt := PySem.Challenge.pw_tautroads_k06_heights_and_rings_looked_a.main.body.getD i (.Pass ⟨0, 0, 0, 0⟩)
abbrev s__law_at : Stmt := top 18
theorem sc__law_at : FnScope ["_law_script", "_law_k"] ["_law_script", "_law_k"] (defScope s__law_at) := ⟨rfl, rfl, rfl, by decide +kernel, rfl, by decide +kernel, by decide +kernel⟩
abbrev s__law_purse : Stmt := top 20
theorem sc__law_purse : FnScope ["_law_script", "_law_at_here", "_law_cell"] ["_law_script", "_law_at_here"] (defScope s__law_purse) := ⟨rfl, rfl, rfl, by decide +kernel, rfl, by decide +kernel, by decide +kernel⟩
abbrev s__law_mixed : Stmt := top 19
theorem sc__law_mixed : FnScope ["_law_cell", "_law_k", "_law_number_here"] ["_law_cell", "_law_k"] (defScope s__law_mixed) := ⟨rfl, rfl, rfl, by decide +kernel, rfl, by decide +kernel, by decide +kernel⟩
abbrev s__law_draw : Stmt := top 21
theorem sc__law_draw : FnScope ["_law_purse_here", "_law_out_of", "_law_drawn", "_law_number_here", "_law_k"] ["_law_purse_here", "_law_out_of"] (defScope s__law_draw) := ⟨rfl, rfl, rfl, by decide +kernel, rfl, by decide +kernel, by decide +kernel⟩
abbrev s__law_number : Stmt := top 22
theorem sc__law_number : FnScope ["_law_purse_here", "_law_most", "_law_far"] ["_law_purse_here", "_law_most"] (defScope s__law_number) := ⟨rfl, rfl, rfl, by decide +kernel, rfl, by decide +kernel, by decide +kernel⟩
abbrev s__law_net : Stmt := top 23
theorem sc__law_net : FnScope ["_law_purse_here", "_law_most", "_law_many", "_law_count", "_law_high_here", "_law_roads", "_law_k", "_law_one", "_law_other", "_law_slack"] ["_law_purse_here", "_law_most", "_law_many"] (defScope s__law_net) := ⟨rfl, rfl, rfl, by decide +kernel, rfl, by decide +kernel, by decide +kernel⟩
abbrev s__law_any : Stmt := top 24
theorem sc__law_any : FnScope ["_law_purse_here", "_law_most", "_law_many", "_law_count", "_law_roads", "_law_at_here", "_law_one", "_law_other", "_law_length", "_law_less"] ["_law_purse_here", "_law_most", "_law_many"] (defScope s__law_any) := ⟨rfl, rfl, rfl, by decide +kernel, rfl, by decide +kernel, by decide +kernel⟩
abbrev s__law_table : Stmt := top 25
theorem sc__law_table : FnScope ["_law_net_here", "_law_count", "_law_roads", "_law_found", "_law_place", "_law_one", "_law_other", "_law_length", "_law_mid", "_law_sum_of"] ["_law_net_here"] (defScope s__law_table) := ⟨rfl, rfl, rfl, by decide +kernel, rfl, by decide +kernel, by decide +kernel⟩
abbrev s__law_taut : Stmt := top 26
theorem sc__law_taut : FnScope ["_law_rows"] ["_law_rows"] (defScope s__law_taut) := ⟨rfl, rfl, rfl, by decide +kernel, rfl, by decide +kernel, by decide +kernel⟩
abbrev s__law_heights : Stmt := top 31
theorem sc__law_heights : FnScope ["_law_rows", "_law_count", "_law_found", "_law_place"] ["_law_rows", "_law_count"] (defScope s__law_heights) := ⟨rfl, rfl, rfl, by decide +kernel, rfl, by decide +kernel, by decide +kernel⟩
abbrev s__law_ring : Stmt := top 32
theorem sc__law_ring : FnScope ["_law_purse_here", "_law_net_here", "_law_rows", "_law_starts", "_law_place", "_law_begin", "_law_found", "_law_k", "_law_some", "_law_back"] ["_law_purse_here", "_law_net_here", "_law_rows"] (defScope s__law_ring) := ⟨rfl, rfl, rfl, by decide +kernel, rfl, by decide +kernel, by decide +kernel⟩
abbrev s_is_place : Stmt := top 7
theorem sc_is_place : FnScope ["count", "number"] ["count", "number"] (defScope s_is_place) := ⟨rfl, rfl, rfl, by decide +kernel, rfl, by decide +kernel, by decide +kernel⟩
abbrev s_is_road : Stmt := top 8
theorem sc_is_road : FnScope ["count", "road", "start", "end", "length"] ["count", "road"] (defScope s_is_road) := ⟨rfl, rfl, rfl, by decide +kernel, rfl, by decide +kernel, by decide +kernel⟩
abbrev s_check_net : Stmt := top 9
theorem sc_check_net : FnScope ["net", "count", "roads", "number", "road"] ["net"] (defScope s_check_net) := ⟨rfl, rfl, rfl, by decide +kernel, rfl, by decide +kernel, by decide +kernel⟩
abbrev s_are_heights : Stmt := top 13
theorem sc_are_heights : FnScope ["net", "told", "count", "roads"] ["net", "told"] (defScope s_are_heights) := ⟨rfl, rfl, rfl, by decide +kernel, rfl, by decide +kernel, by decide +kernel⟩
abbrev s_shows_heights : Stmt := top 15
theorem sc_shows_heights : FnScope ["net", "told"] ["net", "told"] (defScope s_shows_heights) := ⟨rfl, rfl, rfl, by decide +kernel, rfl, by decide +kernel, by decide +kernel⟩
abbrev s_leads : Stmt := top 10
theorem sc_leads : FnScope ["net", "one", "other", "way", "roads", "at", "number"] ["net", "one", "other", "way"] (defScope s_leads) := ⟨rfl, rfl, rfl, by decide +kernel, rfl, by decide +kernel, by decide +kernel⟩
abbrev s_is_ring : Stmt := top 14
theorem sc_is_ring : FnScope ["net", "way", "roads", "start"] ["net", "way"] (defScope s_is_ring) := ⟨rfl, rfl, rfl, by decide +kernel, rfl, by decide +kernel, by decide +kernel⟩
abbrev s_way_length : Stmt := top 11
theorem sc_way_length : FnScope ["net", "way", "roads"] ["net", "way"] (defScope s_way_length) := ⟨rfl, rfl, rfl, by decide +kernel, rfl, by decide +kernel, by decide +kernel⟩
abbrev s_shows_ring : Stmt := top 16
theorem sc_shows_ring : FnScope ["net", "way"] ["net", "way"] (defScope s_shows_ring) := ⟨rfl, rfl, rfl, by decide +kernel, rfl, by decide +kernel, by decide +kernel⟩
abbrev s__law_is_way : Stmt := top 27
theorem sc__law_is_way : FnScope ["_law_net_here", "_law_one", "_law_other", "_law_way", "_law_place", "_law_number_here"] ["_law_net_here", "_law_one", "_law_other", "_law_way"] (defScope s__law_is_way) := ⟨rfl, rfl, rfl, by decide +kernel, rfl, by decide +kernel, by decide +kernel⟩
abbrev s__law_high : Stmt := top 30
theorem sc__law_high : FnScope ["_law_net_here", "_law_high_here"] ["_law_net_here", "_law_high_here"] (defScope s__law_high) := ⟨rfl, rfl, rfl, by decide +kernel, rfl, by decide +kernel, by decide +kernel⟩
abbrev s__law_long : Stmt := top 28
theorem sc__law_long : FnScope ["_law_net_here", "_law_way"] ["_law_net_here", "_law_way"] (defScope s__law_long) := ⟨rfl, rfl, rfl, by decide +kernel, rfl, by decide +kernel, by decide +kernel⟩
abbrev s__law_asked : Stmt := top 34
theorem sc__law_asked : FnScope ["_law_net_here", "_law_some", "_law_ring_here", "_law_place", "_law_handed", "_law_found"] ["_law_net_here", "_law_some"] (defScope s__law_asked) := ⟨rfl, rfl, rfl, by decide +kernel, rfl, by decide +kernel, by decide +kernel⟩
abbrev s__law_bent : Stmt := top 33
theorem sc__law_bent : FnScope ["_law_purse_here", "_law_some", "_law_found", "_law_way", "_law_number_here", "_law_at_here"] ["_law_purse_here", "_law_some"] (defScope s__law_bent) := ⟨rfl, rfl, rfl, by decide +kernel, rfl, by decide +kernel, by decide +kernel⟩
abbrev s_law : Stmt := top 35
theorem sc_law : FnScope ["_law_script", "_law_cell", "_law_purse_here", "_law_net_here", "_law_rows", "_law_high_here", "_law_up", "_law_papers", "_law_turn", "_law_ring_here", "_law_some"] ["_law_script"] (defScope s_law) := ⟨rfl, rfl, rfl, by decide +kernel, rfl, by decide +kernel, by decide +kernel⟩
structure Tx (K : PySem.W.Frag) (mg : Str → Option Value) : Prop where
  d__law_at : ∃ f fd, Fun K "_law_at" "_law_at" s__law_at f fd ∧ mg "_law_at" = some (.ref f)
  d__law_purse : ∃ f fd, Fun K "_law_purse" "_law_purse" s__law_purse f fd ∧ mg "_law_purse" = some (.ref f)
  d__law_mixed : ∃ f fd, Fun K "_law_mixed" "_law_mixed" s__law_mixed f fd ∧ mg "_law_mixed" = some (.ref f)
  d__law_draw : ∃ f fd, Fun K "_law_draw" "_law_draw" s__law_draw f fd ∧ mg "_law_draw" = some (.ref f)
  d__law_number : ∃ f fd, Fun K "_law_number" "_law_number" s__law_number f fd ∧ mg "_law_number" = some (.ref f)
  d__law_net : ∃ f fd, Fun K "_law_net" "_law_net" s__law_net f fd ∧ mg "_law_net" = some (.ref f)
  d__law_any : ∃ f fd, Fun K "_law_any" "_law_any" s__law_any f fd ∧ mg "_law_any" = some (.ref f)
  d__law_table : ∃ f fd, Fun K "_law_table" "_law_table" s__law_table f fd ∧ mg "_law_table" = some (.ref f)
  d__law_taut : ∃ f fd, Fun K "_law_taut" "_law_taut" s__law_taut f fd ∧ mg "_law_taut" = some (.ref f)
  d__law_heights : ∃ f fd, Fun K "_law_heights" "_law_heights" s__law_heights f fd ∧ mg "_law_heights" = some (.ref f)
  d__law_ring : ∃ f fd, Fun K "_law_ring" "_law_ring" s__law_ring f fd ∧ mg "_law_ring" = some (.ref f)
  d_is_place : ∃ f fd, Fun K "is_place" "is_place" s_is_place f fd ∧ mg "is_place" = some (.ref f)
  d_is_road : ∃ f fd, Fun K "is_road" "is_road" s_is_road f fd ∧ mg "is_road" = some (.ref f)
  d_check_net : ∃ f fd, Fun K "check_net" "check_net" s_check_net f fd ∧ mg "check_net" = some (.ref f)
  d_are_heights : ∃ f fd, Fun K "are_heights" "are_heights" s_are_heights f fd ∧ mg "are_heights" = some (.ref f)
  d_shows_heights : ∃ f fd, Fun K "shows_heights" "shows_heights" s_shows_heights f fd ∧ mg "shows_heights" = some (.ref f)
  d_leads : ∃ f fd, Fun K "leads" "leads" s_leads f fd ∧ mg "leads" = some (.ref f)
  d_is_ring : ∃ f fd, Fun K "is_ring" "is_ring" s_is_ring f fd ∧ mg "is_ring" = some (.ref f)
  d_way_length : ∃ f fd, Fun K "way_length" "way_length" s_way_length f fd ∧ mg "way_length" = some (.ref f)
  d_shows_ring : ∃ f fd, Fun K "shows_ring" "shows_ring" s_shows_ring f fd ∧ mg "shows_ring" = some (.ref f)
  d__law_is_way : ∃ f fd, Fun K "_law_is_way" "_law_is_way" s__law_is_way f fd ∧ mg "_law_is_way" = some (.ref f)
  d__law_high : ∃ f fd, Fun K "_law_high" "_law_high" s__law_high f fd ∧ mg "_law_high" = some (.ref f)
  d__law_long : ∃ f fd, Fun K "_law_long" "_law_long" s__law_long f fd ∧ mg "_law_long" = some (.ref f)
  d__law_asked : ∃ f fd, Fun K "_law_asked" "_law_asked" s__law_asked f fd ∧ mg "_law_asked" = some (.ref f)
  d__law_bent : ∃ f fd, Fun K "_law_bent" "_law_bent" s__law_bent f fd ∧ mg "_law_bent" = some (.ref f)
  d_law : ∃ f fd, Fun K "law" "law" s_law f fd ∧ mg "law" = some (.ref f)
  n_all : mg "all" = none
  n_bool : mg "bool" = none
  n_enumerate : mg "enumerate" = none
  n_int : mg "int" = none
  n_isinstance : mg "isinstance" = none
  n_len : mg "len" = none
  n_list : mg "list" = none
  n_max : mg "max" = none
  n_min : mg "min" = none
  n_range : mg "range" = none
  n_sum : mg "sum" = none
  g_MOST_LENGTH : ∃ t, mg "MOST_LENGTH" = some (.int (1000000000) t)
  g_MOST_PLACES : ∃ t, mg "MOST_PLACES" = some (.int (20) t)
  g_MOST_ROADS : ∃ t, mg "MOST_ROADS" = some (.int (60) t)
end My

set_option Elab.async false
set_option linter.all false
set_option maxRecDepth 100000
set_option maxHeartbeats 4000000
namespace My
open PySem L2
theorem ok_is_place {P : Program} {w : World} {K : PySem.W.Frag} {mg : Str → Option Value} {base : Heap} (T : Tx K mg) : Callee P w K mg base "is_place" ["count", "number"] 1 spPlace := by
  refine callee_of T.d_is_place (fun _ _ _ _ _ _ us hl => match us, hl with | [_, _], _ => rfl) sc_is_place (fun vs H Q E h => ?_) (fun f cdv A outer s H vs Q E hr h => ?_)
  · obtain ⟨c, n, rfl, _⟩ := h; rfl
  · obtain ⟨c, n, rfl, k⟩ := h
    refine ⟨_, (pss_one (ps_ret (pe_chain op_le op_lt pe_int (pv 1) (pv 0)))), ?_⟩
    refine ⟨_, rfl, _, _, rfl, rfl, _, rfl, ?_⟩
    refine ite2 (fun h0 => ?_) (fun h0 => ?_)
    · refine ⟨_, rfl, _, _, rfl, rfl, ?_⟩
      refine k _ ?_
      rw [decide_eq_true_iff] at h0 ⊢
      omega
    · refine k _ ?_
      rw [decide_eq_true_iff] at h0
      simp
      omega
theorem ok_is_road {P : Program} {w : World} {K : PySem.W.Frag} {mg : Str → Option Value} {base : Heap} (T : Tx K mg) : Callee P w K mg base "is_road" ["count", "road"] 2 spRoad := by
  have c_is_place := ok_is_place (P := P) (w := w) (base := base) T
  refine callee_of T.d_is_road (fun _ _ _ _ _ _ us hl => match us, hl with | [_, _], _ => rfl) sc_is_road (fun vs H Q E h => ?_) (fun f cdv A outer s H vs Q E hr h => ?_)
  · obtain ⟨c, v, P', r, rfl, _⟩ := h; rfl
  · obtain ⟨c, v, P', r, rfl, hd, k⟩ := h
    refine ⟨_, (pss_cons (ps_asg (pv 1) (pg_tupD (n := 3) rfl (pgs_cons (pg_name (i := 2) sc_is_road.nd rfl (Or.inl rfl)) (pgs_cons (pg_name (i := 3) sc_is_road.nd rfl (Or.inl rfl)) (pgs_cons (pg_name (i := 4) sc_is_road.nd rfl (Or.inl rfl)) pgs_nil)))))
      (pss_one (ps_ret (pe_and (pe_callC c_is_place hr (by decide) rfl (pa_cons (pv 0) (pa_cons (pv 2) pa_nil))) (pe_and (pe_callC c_is_place hr (by decide) rfl (pa_cons (pv 0) (pa_cons (pv 3) pa_nil))) (pe_one (pe_chain op_le op_le (pe_un un_neg (pe_cst rfl T.g_MOST_LENGTH)) (pv 4) (pe_cst rfl T.g_MOST_LENGTH)))))))), ?_⟩
    obtain ⟨a, rfl, _, ha⟩ := hd.road
    refine ⟨_, rfl, a, _, rfl, ha, rfl, _, _, rfl, _, _, rfl, _, _, rfl, rfl, ?_⟩
    refine ⟨_, rfl, _, rfl, _, _, rfl, fun b1 hb1 => ⟨_, rfl, ?_⟩⟩
    refine ite2 (fun h1 => ?_) (fun h1 => k _ ?_)
    · refine ⟨_, rfl, _, rfl, _, _, rfl, fun b2 hb2 => ⟨_, rfl, ?_⟩⟩
      refine ite2 (fun h2 => ?_) (fun h2 => k _ ?_)
      · refine ⟨_, rfl, _, rfl, _, _, rfl, rfl, _, rfl, ?_⟩
        refine ite2 (fun h3 => ?_) (fun h3 => k _ ?_)
        · refine ⟨_, _, rfl, rfl, k _ ?_⟩
          rw [decide_eq_true_iff] at h3 ⊢
          unfold RoadOk
          have := hb1.mp h1
          have := hb2.mp h2
          constructor
          · intro; refine ⟨?_, ?_, ?_, ?_⟩ <;> omega
          · rintro ⟨_, _, z⟩; omega
        · rw [decide_eq_true_iff] at h3
          unfold RoadOk
          constructor
          · intro z; cases z
          · rintro ⟨_, _, z⟩; omega
      · constructor
        · intro z; cases z
        · rintro ⟨_, z, _⟩; exact absurd (hb2.mpr z) h2
    · constructor
      · intro z; cases z
      · rintro ⟨z, _⟩; exact absurd (hb1.mpr z) h1
theorem ok_check_net {P : Program} {w : World} {K : PySem.W.Frag} {mg : Str → Option Value} {base : Heap} (T : Tx K mg) : Callee P w K mg base "check_net" ["net"] 3 spCheckNet := by
  have c_is_road := ok_is_road (P := P) (w := w) (base := base) T
  refine callee_of T.d_check_net (fun _ _ _ _ _ _ us hl => match us, hl with | [_], _ => rfl) sc_check_net (fun vs H Q E h => ?_) (fun f cdv A outer s H vs Q E hr h => ?_)
  · obtain ⟨v, P', n, rs, rfl, _⟩ := h; rfl
  · obtain ⟨v, P', n, rs, rfl, hd, ok, k⟩ := h
    refine ⟨_, (pss_cons (ps_asg (pv 0) (pg_tupD (n := 2) rfl (pgs_cons (pg_name (i := 1) sc_check_net.nd rfl (Or.inl rfl)) (pgs_cons (pg_name (i := 2) sc_check_net.nd rfl (Or.inl rfl)) pgs_nil))))
      (pss_cons (ps_if (pt_not (pt_chain op_le op_le pe_int (pv 1) (pe_cst rfl T.g_MOST_PLACES))) (pss_one ps_never) pss_nil)
      (pss_cons (ps_if (pt_cmpR op_gt (pe_callB call_lenD rfl T.n_len PySem.boot_len (pa_cons (pv 2) pa_nil)) (pe_cst rfl T.g_MOST_ROADS) (nomark _)) (pss_one ps_never) pss_nil)
      (pss_one (ps_for PassesOwn.never rfl (pi_E rfl T.n_enumerate (pa_cons (pv 2) pa_nil)) (pg_tupD (n := 2) rfl (pgs_cons (pg_name (i := 3) sc_check_net.nd rfl (Or.inl rfl)) (pgs_cons (pg_name (i := 4) sc_check_net.nd rfl (Or.inl rfl)) pgs_nil)))
      (pss_one (ps_if (pt_not (pt_tru (pe_callC c_is_road hr (by decide) rfl (pa_cons (pv 1) (pa_cons (pv 4) pa_nil))) (fun _ => rfl))) (pss_one ps_never) pss_nil))))))), ?_⟩
    obtain ⟨a, l, rfl, _, ha, hl⟩ := hd.net
    refine ⟨_, rfl, a, _, rfl, ha, rfl, _, _, rfl, _, _, rfl, rfl, ?_⟩
    refine ⟨_, rfl, _, _, rfl, rfl, _, rfl, ?_⟩
    refine ite_t (decide_eq_true ok.n0) ?_
    refine ⟨_, _, rfl, rfl, _, rfl, ?_⟩
    refine ite_f (by rw [decide_eq_true ok.n1]; rfl) ?_
    refine ⟨_, rfl, lenL hl ⟨_, _, rfl, rfl, _, rfl, ?_⟩⟩
    have hlen := ok.len
    refine ite_f (decide_eq_false (by rw [List.length_map]; omega)) ?_
    cases id hl with
    | @lst _ ys _ _ hl' t =>
    refine ⟨_, rfl, l, ys, rfl, hl', for_E (a := l) (xs := ys) (fun i σ H' => ∃ x y, σ = [some (.ref a), some (.int n), some (.ref l), x, y] ∧ Same H H') ⟨_, _, rfl, Same.refl _⟩ (fun i σ H' _ ⟨_, _, _, sm⟩ => sm _ _ hl') ?_ ?_⟩
    · rintro i x t' σ H' hx ht ⟨x1, y1, rfl, sm⟩
      obtain ⟨d, hd', dn⟩ := t.getV hx
      rw [List.getElem?_map] at hd'
      cases er : rs[i]? with
      | none => rw [er] at hd'; cases hd'
      | some r =>
      rw [er] at hd'
      cases hd'
      have s2 : Same H' (upd H' t' (.tup [.int i, x])) := Same.new ht
      refine ⟨t', _, rfl, upd_same, rfl, _, _, rfl, _, _, rfl, rfl, ?_⟩
      refine ⟨_, rfl, _, rfl, n, x, P', r, rfl, dn.mono (sm.trans s2).x, fun b hb => ⟨_, rfl, ?_⟩⟩
      refine ite_f (by rw [hb.mpr (ok.rd r (List.mem_of_getElem? er))]; rfl) ?_
      exact ⟨_, _, rfl, sm.trans s2⟩
    · rintro σ H' ⟨x1, y1, rfl, sm⟩
      exact k H' sm
theorem ok_leads {P : Program} {w : World} {K : PySem.W.Frag} {mg : Str → Option Value} {base : Heap} (T : Tx K mg) : Callee P w K mg base "leads" ["net", "one", "other", "way"] 1 spLeads := by
  refine callee_of T.d_leads (fun _ _ _ _ _ _ us hl => match us, hl with | [_, _, _, _], _ => rfl) sc_leads (fun vs H Q E h => ?_) (fun f cdv A outer s H vs Q E hr h => ?_)
  · obtain ⟨v, w', p, q, n, P', P'', rs, ws, rfl, _⟩ := h; rfl
  · obtain ⟨v, w', p, q, n, P', P'', rs, ws, rfl, hd, hw, k⟩ := h
    refine ⟨_, (pss_cons (ps_set (i := 4) sc_leads.nd rfl (Or.inl rfl) (pe_ix ix_D (pv 0) pe_int (fun _ _ => rfl)))
      (pss_cons (ps_set (i := 5) sc_leads.nd rfl (Or.inl rfl) (pv 1))
      (pss_cons (ps_for PassesOwn.never rfl (pi_L (pv 3)) (pg_name (i := 6) sc_leads.nd rfl (Or.inl rfl))
      (pss_cons (ps_if (PW.pt (pw_or (pt_not (pt_chain op_le op_lt pe_int (pv 6) (pe_callB call_lenD rfl T.n_len PySem.boot_len (pa_cons (pv 4) pa_nil)))) (pw_or1 (pt_cmpR (op_neD hr.units) (pe_ix ix_D (pe_ix ix_D (pv 4) (pv 6) (fun _ _ => rfl)) pe_int (fun _ _ => rfl)) (pv 5) (nomark _))))) (pss_one (ps_ret pe_bl)) pss_nil)
      (pss_one (ps_set (i := 5) sc_leads.nd rfl (Or.inl rfl) (pe_ix ix_D (pe_ix ix_D (pv 4) (pv 6) (fun _ _ => rfl)) pe_int (fun _ _ => rfl))))))
      (pss_one (ps_ret (pe_cmpR (op_eqD hr.units) (pv 5) (pv 2) (nomark _))))))), ?_⟩
    obtain ⟨a, rfl, _, ha⟩ := hw.ints
    refine ⟨_, rfl, ixT hd rfl fun v1 hv1 => ?_⟩
    refine ⟨_, rfl, ?_⟩
    refine ⟨_, rfl, a, _, rfl, ha, for_L (a := a) (xs := ws.map V.int) (fun i σ H' => ∃ p' z, σ = [some v, some (.int p), some (.int q), some (.ref a), some v1, some (.int p'), z] ∧ Same H H' ∧ leadsF rs p q ws = leadsF rs p' q (ws.drop i))
      ⟨p, _, rfl, Same.refl _, rfl⟩ (fun i σ H' _ ⟨_, _, _, sm, _⟩ => sm _ _ ha) ?_ ?_⟩
    · rintro i y σ H' hi ⟨p', z, rfl, sm, inv⟩
      obtain ⟨j, rfl, hj, hdrop⟩ := at_ints hi
      rw [hdrop] at inv
      have hv : Dn H' P' v1 (roadsD rs) := hv1.mono sm.x
      refine ⟨_, rfl, _, _, rfl, rfl, _, rfl, ?_⟩
      by_cases h0 : 0 ≤ j
      · refine ite_t (decide_eq_true h0) ?_
        refine ⟨_, rfl, lenL hv ⟨_, _, rfl, rfl, _, rfl, ?_⟩⟩
        by_cases h1 : j < rs.length
        · refine ite_f (by rw [decide_eq_true (by rw [List.length_map]; exact h1)]; rfl) ?_
          obtain ⟨r, hr1, hr2⟩ := roadAt_in h0 h1
          refine ⟨_, rfl, _, rfl, ixL hv (at_road hr1) fun v2 hv2 => ixT hv2 rfl fun v3 hv3 => ?_⟩
          cases hv3
          refine ⟨_, rfl, eqI ⟨_, rfl, ?_⟩⟩
          by_cases h2 : r.1 = p'
          · refine ite_f (by rw [decide_eq_true h2]; rfl) ?_
            refine ⟨_, rfl, _, rfl, ixL hv (at_road hr1) fun v2 hv2 => ixT hv2 rfl fun v3 hv3 => ?_⟩
            cases hv3
            refine ⟨_, _, rfl, sm, ?_⟩
            rw [inv, leadsF, hr1]
            simp only [h2, if_true]
          · refine ite_t (by rw [decide_eq_false h2]; rfl) ?_
            have e : leadsF rs p q ws = false := by rw [inv, leadsF, hr1]; simp only [h2, if_false]
            have := k H' sm
            rw [e] at this
            exact this
        · refine ite_t (by rw [decide_eq_false (by rw [List.length_map]; exact h1)]; rfl) ?_
          have e : leadsF rs p q ws = false := by rw [inv, leadsF, roadAt_out (fun z => h1 z.2)]
          have := k H' sm
          rw [e] at this
          exact this
      · refine ite_f (decide_eq_false h0) ?_
        refine ⟨_, rfl, ?_⟩
        refine ite_t rfl ?_
        have e : leadsF rs p q ws = false := by rw [inv, leadsF, roadAt_out (fun z => h0 z.1)]
        have := k H' sm
        rw [e] at this
        exact this
    · rintro σ H' ⟨p', z, rfl, sm, inv⟩
      refine ⟨_, rfl, _, rfl, eqI ?_⟩
      rw [List.length_map, List.drop_length] at inv
      have := k H' sm
      rw [inv] at this
      exact this
end My

set_option Elab.async false
set_option linter.all false
set_option maxRecDepth 100000
set_option maxHeartbeats 4000000
namespace My
open PySem L2
theorem ok_way_length {P : Program} {w : World} {K : PySem.W.Frag} {mg : Str → Option Value} {base : Heap} (T : Tx K mg) : Callee P w K mg base "way_length" ["net", "way"] 1 spWayLen := by
  refine callee_of T.d_way_length (fun _ _ _ _ _ _ us hl => match us, hl with | [_, _], _ => rfl) sc_way_length (fun vs H Q E h => ?_) (fun f cdv A outer s H vs Q E hr h => ?_)
  · obtain ⟨v, w', n, P', P'', rs, ws, rfl, _⟩ := h; rfl
  · obtain ⟨v, w', n, P', P'', rs, ws, rfl, hd, hw, hz, hin, k⟩ := h
    refine ⟨_, (pss_cons (ps_set (i := 2) sc_way_length.nd rfl (Or.inr rfl) (pe_ix ix_D (pv 0) pe_int (fun _ _ => rfl)))
      (pss_one (ps_ret (pe_callB (call_sumD rfl) rfl T.n_sum PyProof.Rows.boot_sum (pa_cons (pe_lc (N' := ["number", "roads"]) (js := [none, some 2]) rfl (pi_L (pv 1)) (by kernel_rfl) (gk_name rfl) (by kernel_rfl) rfl (fun _ _ _ => ⟨(pg_name (i := 0) (show List.Nodup [("number" : Str), ("roads" : Str)] by decide +kernel) rfl (Or.inl rfl)), pf_nil, (pe_ix ix_D (pe_ix ix_D (pv 1) (pv 0) (fun _ _ => rfl)) pe_int (fun _ _ => rfl))⟩)) pa_nil))))), ?_⟩
    obtain ⟨a, rfl, _, ha⟩ := hw.ints
    refine ⟨_, rfl, ixT hd.plain rfl fun v1 hv1 => ?_⟩
    refine ⟨_, rfl, a, _, rfl, ha, lc_listD (P := NoP) (onInt fun j => some (.int (lenOf rs j))) hw.plain (by rw [List.length_map]; exact line1000 hz) ?_ ?_⟩
    · intro i d x H' Ny Nn hdi sm hdn yes no
      obtain ⟨j, hj, rfl, hm⟩ := get_int hdi
      cases hdn
      obtain ⟨r, hr1, hr2⟩ := roadAt_in (hin j hm).1 (hin j hm).2
      refine ⟨_, rfl, _, rfl, ixL (hv1.mono sm.x) (at_road hr1) fun v2 hv2 => ixT hv2 rfl fun v3 hv3 => ?_⟩
      refine yes v3 H' _ (Same.refl _) rfl ?_
      rw [show lenOf rs j = r.2.2 by unfold lenOf; rw [hr1]]
      exact hv3
    · intro l H' ys sm hl dns
      rw [on_ints, fm_some] at dns
      exact ⟨_, NoP, ws.map (lenOf rs), rfl, Dn.newL hl (fun z => z) dns, k _ (sm.trans (Same.new hl))⟩
theorem ok__law_long {P : Program} {w : World} {K : PySem.W.Frag} {mg : Str → Option Value} {base : Heap} (T : Tx K mg) : Callee P w K mg base "_law_long" ["_law_net_here", "_law_way"] 1 spWayLen := by
  refine callee_of T.d__law_long (fun _ _ _ _ _ _ us hl => match us, hl with | [_, _], _ => rfl) sc__law_long (fun vs H Q E h => ?_) (fun f cdv A outer s H vs Q E hr h => ?_)
  · obtain ⟨v, w', n, P', P'', rs, ws, rfl, _⟩ := h; rfl
  · obtain ⟨v, w', n, P', P'', rs, ws, rfl, hd, hw, hz, hin, k⟩ := h
    refine ⟨_, (pss_one (ps_ret (pe_callB (call_sumD rfl) rfl T.n_sum PyProof.Rows.boot_sum (pa_cons (pe_lc (N' := ["_law_number_here", "_law_net_here"]) (js := [none, some 0]) rfl (pi_L (pv 1)) (by kernel_rfl) (gk_name rfl) (by kernel_rfl) rfl (fun _ _ _ => ⟨(pg_name (i := 0) (show List.Nodup [("_law_number_here" : Str), ("_law_net_here" : Str)] by decide +kernel) rfl (Or.inl rfl)), pf_nil, (pe_ix ix_D (pe_ix ix_D (pe_ix ix_D (pv 1) pe_int (fun _ _ => rfl)) (pv 0) (fun _ _ => rfl)) pe_int (fun _ _ => rfl))⟩)) pa_nil)))), ?_⟩
    obtain ⟨a, rfl, _, ha⟩ := hw.ints
    refine ⟨_, rfl, a, _, rfl, ha, lc_listD (P := NoP) (onInt fun j => some (.int (lenOf rs j))) hw.plain (by rw [List.length_map]; exact line1000 hz) ?_ ?_⟩
    · intro i d x H' Ny Nn hdi sm hdn yes no
      obtain ⟨j, hj, rfl, hm⟩ := get_int hdi
      cases hdn
      obtain ⟨r, hr1, hr2⟩ := roadAt_in (hin j hm).1 (hin j hm).2
      refine ⟨_, rfl, ixT (hd.plain.mono sm.x) rfl fun v1 hv1 => ⟨_, rfl, ixL hv1 (at_road hr1) fun v2 hv2 => ixT hv2 rfl fun v3 hv3 => ?_⟩⟩
      refine yes v3 H' _ (Same.refl _) rfl ?_
      rw [show lenOf rs j = r.2.2 by unfold lenOf; rw [hr1]]
      exact hv3
    · intro l H' ys sm hl dns
      rw [on_ints, fm_some] at dns
      exact ⟨_, NoP, ws.map (lenOf rs), rfl, Dn.newL hl (fun z => z) dns, k _ (sm.trans (Same.new hl))⟩
theorem ok_are_heights {P : Program} {w : World} {K : PySem.W.Frag} {mg : Str → Option Value} {base : Heap} (T : Tx K mg) : Callee P w K mg base "are_heights" ["net", "told"] 1 spHigh := by
  refine callee_of T.d_are_heights (fun _ _ _ _ _ _ us hl => match us, hl with | [_, _], _ => rfl) sc_are_heights (fun vs H Q E h => ?_) (fun f cdv A outer s H vs Q E hr h => ?_)
  · obtain ⟨v, w', n, P', P'', rs, ws, rfl, _⟩ := h; rfl
  · obtain ⟨v, w', n, P', P'', rs, hs, rfl, hd, ok, hw, k⟩ := h
    refine ⟨_, (pss_cons (ps_asg (pv 0) (pg_tupD (n := 2) rfl (pgs_cons (pg_name (i := 2) sc_are_heights.nd rfl (Or.inl rfl)) (pgs_cons (pg_name (i := 3) sc_are_heights.nd rfl (Or.inl rfl)) pgs_nil))))
      (pss_cons (ps_if (pt_cmpR (op_neD hr.units) (pe_callB call_lenD rfl T.n_len PySem.boot_len (pa_cons (pv 1) pa_nil)) (pv 2) (nomark _)) (pss_one (ps_ret pe_bl)) pss_nil)
      (pss_one (ps_ret (pe_callB (call_allD rfl) rfl T.n_all PyProof.Rows.boot_all (pa_cons (pe_lc (N' := ["start", "end", "length", "told"]) (js := [none, none, none, some 1]) rfl (pi_L (pv 3)) (by kernel_rfl) (gk_tup (gks3 rfl rfl rfl)) (by kernel_rfl) rfl (fun _ _ _ => ⟨(pg_tupD (n := 3) rfl (pgs_cons (pg_name (i := 0) (show List.Nodup [("start" : Str), ("end" : Str), ("length" : Str), ("told" : Str)] by decide +kernel) rfl (Or.inl rfl)) (pgs_cons (pg_name (i := 1) (show List.Nodup [("start" : Str), ("end" : Str), ("length" : Str), ("told" : Str)] by decide +kernel) rfl (Or.inl rfl)) (pgs_cons (pg_name (i := 2) (show List.Nodup [("start" : Str), ("end" : Str), ("length" : Str), ("told" : Str)] by decide +kernel) rfl (Or.inl rfl)) pgs_nil)))), pf_nil, (pe_cmpR op_le (pe_ix ix_D (pv 3) (pv 1) (fun _ _ => rfl)) (pe_op op_addD (pe_ix ix_D (pv 3) (pv 0) (fun _ _ => rfl)) (pv 2)) (nomark _))⟩)) pa_nil)))))), ?_⟩
    obtain ⟨a, l, rfl, _, ha, hl⟩ := hd.plain.net
    refine ⟨_, rfl, a, _, rfl, ha, rfl, _, _, rfl, _, _, rfl, rfl, ?_⟩
    refine ⟨_, rfl, lenL hw ⟨_, rfl, eqI ⟨_, rfl, ?_⟩⟩⟩
    by_cases hlen : (hs.length : Int) = n
    · refine ite_f (by rw [List.length_map, decide_eq_true hlen]; rfl) ?_
      cases id hl with
      | @lst _ ys _ _ hl' t =>
      refine ⟨_, rfl, l, _, rfl, hl', lc_listD (P := NoP) (onRoad fun r => some (.bool (decide (hs.getD r.2.1.toNat 0 ≤ hs.getD r.1.toNat 0 + r.2.2)))) hl (by rw [List.length_map]; exact line1000 (by have := ok.len; omega)) ?_ ?_⟩
      · intro i d x H' Ny Nn hdi sm hdn yes no
        obtain ⟨r, hj, rfl, hm⟩ := get_road hdi
        obtain ⟨ra, rfl, _, hra⟩ := hdn.road
        obtain ⟨⟨f0, f1⟩, ⟨t0, t1⟩, _⟩ := ok.rd r hm
        refine ⟨ra, _, rfl, hra, rfl, _, _, rfl, _, _, rfl, _, _, rfl, rfl, ?_⟩
        refine ⟨_, rfl, _, rfl, ixL (hw.plain.mono sm.x) (at_high t0 (by omega)) fun v2 hv2 => ?_⟩
        refine ⟨_, rfl, _, rfl, ixL (hw.plain.mono sm.x) (at_high f0 (by omega)) fun v3 hv3 => ?_⟩
        cases hv2
        cases hv3
        refine ⟨_, rfl, addI ⟨_, _, rfl, rfl, ?_⟩⟩
        exact yes _ H' _ (Same.refl _) rfl (.bl _)
      · intro l2 H' ys sm hl2 dns
        rw [on_roads, fm_some] at dns
        refine ⟨_, NoP, _, rfl, Dn.newL hl2 (fun z => z) dns, ?_⟩
        have := k (upd H' l2 (.lst ys)) (sm.trans (Same.new hl2))
        unfold highF at this
        rw [decide_eq_true hlen, Bool.true_and] at this
        rw [List.all_map]
        exact this
    · refine ite_t (by rw [List.length_map, decide_eq_false hlen]; rfl) ?_
      have := k H (Same.refl _)
      unfold highF at this
      rw [decide_eq_false hlen, Bool.false_and] at this
      exact this
theorem ok__law_high {P : Program} {w : World} {K : PySem.W.Frag} {mg : Str → Option Value} {base : Heap} (T : Tx K mg) : Callee P w K mg base "_law_high" ["_law_net_here", "_law_high_here"] 1 spHigh := by
  refine callee_of T.d__law_high (fun _ _ _ _ _ _ us hl => match us, hl with | [_, _], _ => rfl) sc__law_high (fun vs H Q E h => ?_) (fun f cdv A outer s H vs Q E hr h => ?_)
  · obtain ⟨v, w', n, P', P'', rs, ws, rfl, _⟩ := h; rfl
  · obtain ⟨v, w', n, P', P'', rs, hs, rfl, hd, ok, hw, k⟩ := h
    refine ⟨_, (pss_cons (ps_if (pt_cmpR (op_neD hr.units) (pe_callB call_lenD rfl T.n_len PySem.boot_len (pa_cons (pv 1) pa_nil)) (pe_ix ix_D (pv 0) pe_int (fun _ _ => rfl)) (nomark _)) (pss_one (ps_ret pe_bl)) pss_nil)
      (pss_one (ps_ret (pe_cmpR (op_eqD hr.units) (pe_callB call_lenD rfl T.n_len PySem.boot_len (pa_cons (pe_lc (N' := ["_law_road", "_law_high_here"]) (js := [none, some 1]) rfl (pi_L (pe_ix ix_D (pv 0) pe_int (fun _ _ => rfl))) (by kernel_rfl) (gk_name rfl) (by kernel_rfl) rfl (fun _ _ _ => ⟨(pg_name (i := 0) (show List.Nodup [("_law_road" : Str), ("_law_high_here" : Str)] by decide +kernel) rfl (Or.inl rfl)), (pf_one (pt_cmpR op_gt (pe_ix ix_D (pv 1) (pe_ix ix_D (pv 0) pe_int (fun _ _ => rfl)) (fun _ _ => rfl)) (pe_op op_addD (pe_ix ix_D (pv 1) (pe_ix ix_D (pv 0) pe_int (fun _ _ => rfl)) (fun _ _ => rfl)) (pe_ix ix_D (pv 0) pe_int (fun _ _ => rfl))) (nomark _))), (pv 0)⟩)) pa_nil)) pe_int (nomark _))))), ?_⟩
    obtain ⟨a, l, rfl, _, ha, hl⟩ := hd.plain.net
    refine ⟨_, rfl, lenL hw ⟨_, rfl, ixT hd rfl fun v1 hv1 => ?_⟩⟩
    cases hv1
    refine eqI ⟨_, rfl, ?_⟩
    by_cases hlen : (hs.length : Int) = n
    · refine ite_f (by rw [List.length_map, decide_eq_true hlen]; rfl) ?_
      refine ⟨_, rfl, ixT hd.plain rfl fun v1 hv1 => ?_⟩
      cases id hv1 with
      | @lst l ys _ _ hl' t =>
      refine ⟨l, _, rfl, hl', lc_listD (P := NoP) (onRoad fun r => if (!decide (hs.getD r.2.1.toNat 0 ≤ hs.getD r.1.toNat 0 + r.2.2)) = true then some (roadD r) else none) hv1 (by rw [List.length_map]; exact line1000 (by have := ok.len; omega)) ?_ ?_⟩
      · intro i d x H' Ny Nn hdi sm hdn yes no
        obtain ⟨r, hj, rfl, hm⟩ := get_road hdi
        obtain ⟨⟨f0, f1⟩, ⟨t0, t1⟩, _⟩ := ok.rd r hm
        have hww := hw.plain.mono sm.x
        refine ⟨_, rfl, _, rfl, ixT hdn rfl fun v2 hv2 => ?_⟩
        cases hv2
        refine ixL hww (at_high t0 (by omega)) fun v2 hv2 => ?_
        cases hv2
        refine ⟨_, rfl, _, rfl, ixT hdn rfl fun v2 hv2 => ?_⟩
        cases hv2
        refine ixL hww (at_high f0 (by omega)) fun v2 hv2 => ?_
        cases hv2
        refine ⟨_, rfl, ixT hdn rfl fun v2 hv2 => ?_⟩
        cases hv2
        refine addI ⟨_, _, rfl, rfl, _, rfl, ?_⟩
        by_cases hc : hs.getD r.2.1.toNat 0 ≤ hs.getD r.1.toNat 0 + r.2.2
        · refine ite_f (decide_eq_false (by omega)) ?_
          refine no H' (Same.refl _) ?_
          show (if (!decide (hs.getD r.2.1.toNat 0 ≤ hs.getD r.1.toNat 0 + r.2.2)) = true then some (roadD r) else none) = none
          rw [decide_eq_true hc]; rfl
        · refine ite_t (decide_eq_true (by omega)) ?_
          refine ⟨_, rfl, yes _ H' (roadD r) (Same.refl _) ?_ hdn⟩
          show (if (!decide (hs.getD r.2.1.toNat 0 ≤ hs.getD r.1.toNat 0 + r.2.2)) = true then some (roadD r) else none) = some (roadD r)
          rw [decide_eq_false hc]; rfl
      · intro l2 H' ys sm hl2 dns
        rw [on_roads] at dns
        refine lenR upd_same (eqI ?_)
        have := k (upd H' l2 (.lst ys)) (sm.trans (Same.new hl2))
        unfold highF at this
        rw [decide_eq_true hlen, Bool.true_and] at this
        rw [dns.length]
        have e : decide (((rs.filterMap fun r => if (!decide (hs.getD r.2.1.toNat 0 ≤ hs.getD r.1.toNat 0 + r.2.2)) = true then some (roadD r) else none).length : Int) = 0) = rs.all fun r => decide (hs.getD r.2.1.toNat 0 ≤ hs.getD r.1.toNat 0 + r.2.2) := by
          rw [Bool.eq_iff_iff, decide_eq_true_iff]
          have z := fm_none (fun r : Road => !decide (hs.getD r.2.1.toNat 0 ≤ hs.getD r.1.toNat 0 + r.2.2)) roadD rs
          simp only [Bool.not_not] at z
          rw [← z]
          omega
        rw [e]
        exact this
    · refine ite_t (by rw [List.length_map, decide_eq_false hlen]; rfl) ?_
      have := k H (Same.refl _)
      unfold highF at this
      rw [decide_eq_false hlen, Bool.false_and] at this
      exact this
end My

set_option Elab.async false
set_option linter.all false
set_option maxRecDepth 100000
set_option maxHeartbeats 4000000
namespace My
open PySem L2
theorem ok_is_ring {P : Program} {w : World} {K : PySem.W.Frag} {mg : Str → Option Value} {base : Heap} (T : Tx K mg) : Callee P w K mg base "is_ring" ["net", "way"] 2 spIsRing := by
  have c_leads := ok_leads (P := P) (w := w) (base := base) T
  refine callee_of T.d_is_ring (fun _ _ _ _ _ _ us hl => match us, hl with | [_, _], _ => rfl) sc_is_ring (fun vs H Q E h => ?_) (fun f cdv A outer s H vs Q E hr h => ?_)
  · obtain ⟨v, w', n, P', P'', rs, ws, rfl, _⟩ := h; rfl
  · obtain ⟨v, w', n, P', P'', rs, ws, rfl, hd, hw, k⟩ := h
    refine ⟨_, (pss_cons (ps_set (i := 2) sc_is_ring.nd rfl (Or.inl rfl) (pe_ix ix_D (pv 0) pe_int (fun _ _ => rfl)))
      (pss_cons (ps_if (PW.pt (pw_or (pt_not (pt_tru (pv 1) (fun _ => rfl))) (pw_or1 (pt_not (pt_chain op_le op_lt pe_int (pe_ix ix_D (pv 1) pe_int (fun _ _ => rfl)) (pe_callB call_lenD rfl T.n_len PySem.boot_len (pa_cons (pv 2) pa_nil))))))) (pss_one (ps_ret pe_bl)) pss_nil)
      (pss_cons (ps_set (i := 3) sc_is_ring.nd rfl (Or.inl rfl) (pe_ix ix_D (pe_ix ix_D (pv 2) (pe_ix ix_D (pv 1) pe_int (fun _ _ => rfl)) (fun _ _ => rfl)) pe_int (fun _ _ => rfl)))
      (pss_one (ps_ret (pe_callC c_leads hr (by decide) rfl (pa_cons (pv 0) (pa_cons (pv 3) (pa_cons (pv 3) (pa_cons (pv 1) pa_nil)))))))))), ?_⟩
    obtain ⟨a, rfl, _, ha⟩ := hw.ints
    refine ⟨_, rfl, ixT hd rfl fun v1 hv1 => ?_⟩
    refine ⟨_, rfl, _, ⟨_, ha, rfl⟩, ?_⟩
    cases ws with
    | nil => exact k H (Same.refl _)
    | cons j ws =>
      refine ite_f rfl ?_
      refine ⟨_, rfl, ixR ha (atI_zero _ _) ⟨_, _, rfl, rfl, _, rfl, ?_⟩⟩
      by_cases h0 : 0 ≤ j
      · refine ite_t (decide_eq_true h0) ?_
        refine ⟨_, rfl, lenL hv1 ⟨_, _, rfl, rfl, _, rfl, ?_⟩⟩
        by_cases h1 : j < rs.length
        · refine ite_f (by rw [decide_eq_true (by rw [List.length_map]; exact h1)]; rfl) ?_
          obtain ⟨r, hr1, hr2⟩ := roadAt_in h0 h1
          refine ⟨_, rfl, _, rfl, ixR ha (atI_zero _ _) (ixL hv1 (at_road hr1) fun v2 hv2 => ixT hv2 rfl fun v3 hv3 => ?_)⟩
          cases hv3
          refine ⟨_, rfl, _, rfl, _, rfl, _, rfl, v, _, r.1, r.1, n, P', P'', rs, _, rfl, hd, hw, fun H' sm => ?_⟩
          have := k H' sm
          rw [ringF_cons] at this
          rw [hr1] at this
          exact this
        · refine ite_t (by rw [decide_eq_false (by rw [List.length_map]; exact h1)]; rfl) ?_
          have := k H (Same.refl _)
          rw [ringF_cons] at this
          rw [roadAt_out (fun z => h1 z.2)] at this
          exact this
      · refine ite_f (decide_eq_false h0) ?_
        refine ⟨_, rfl, ?_⟩
        refine ite_t rfl ?_
        have := k H (Same.refl _)
        rw [ringF_cons] at this
        rw [roadAt_out (fun z => h0 z.1)] at this
        exact this
theorem ok_shows_heights {P : Program} {w : World} {K : PySem.W.Frag} {mg : Str → Option Value} {base : Heap} (T : Tx K mg) : Callee P w K mg base "shows_heights" ["net", "told"] 4 spHigh := by
  have c_check_net := ok_check_net (P := P) (w := w) (base := base) T
  have c_are_heights := ok_are_heights (P := P) (w := w) (base := base) T
  refine callee_of T.d_shows_heights (fun _ _ _ _ _ _ us hl => match us, hl with | [_, _], _ => rfl) sc_shows_heights (fun vs H Q E h => ?_) (fun f cdv A outer s H vs Q E hr h => ?_)
  · obtain ⟨v, w', n, P', P'', rs, ws, rfl, _⟩ := h; rfl
  · obtain ⟨v, w', n, P', P'', rs, hs, rfl, hd, ok, hw, k⟩ := h
    refine ⟨_, (pss_cons (ps_expr (pe_callC c_check_net hr (by decide) rfl (pa_cons (pv 0) pa_nil)))
      (pss_one (ps_ret (pe_callC c_are_heights hr (by decide) rfl (pa_cons (pv 0) (pa_cons (pv 1) pa_nil)))))), ?_⟩
    refine ⟨_, rfl, v, P', n, rs, rfl, hd, ok, fun H' sm => ?_⟩
    exact ⟨_, rfl, _, rfl, v, w', n, P', P'', rs, hs, rfl, hd.mono sm.x, ok, hw.mono sm.x, fun H'' sm2 => k H'' (sm.trans sm2)⟩
theorem ok_shows_ring {P : Program} {w : World} {K : PySem.W.Frag} {mg : Str → Option Value} {base : Heap} (T : Tx K mg) : Callee P w K mg base "shows_ring" ["net", "way"] 4 spShowsRing := by
  have c_check_net := ok_check_net (P := P) (w := w) (base := base) T
  have c_is_ring := ok_is_ring (P := P) (w := w) (base := base) T
  have c_way_length := ok_way_length (P := P) (w := w) (base := base) T
  refine callee_of T.d_shows_ring (fun _ _ _ _ _ _ us hl => match us, hl with | [_, _], _ => rfl) sc_shows_ring (fun vs H Q E h => ?_) (fun f cdv A outer s H vs Q E hr h => ?_)
  · obtain ⟨v, w', n, P', P'', rs, ws, rfl, _⟩ := h; rfl
  · obtain ⟨v, w', n, P', P'', rs, ws, rfl, hd, ok, hw, hz, k⟩ := h
    refine ⟨_, (pss_cons (ps_expr (pe_callC c_check_net hr (by decide) rfl (pa_cons (pv 0) pa_nil)))
      (pss_one (ps_ret (pe_and (pe_callC c_is_ring hr (by decide) rfl (pa_cons (pv 0) (pa_cons (pv 1) pa_nil))) (pe_one (pe_cmpR op_lt (pe_callC c_way_length hr (by decide) rfl (pa_cons (pv 0) (pa_cons (pv 1) pa_nil))) pe_int (nomark _))))))), ?_⟩
    refine ⟨_, rfl, v, P', n, rs, rfl, hd, ok, fun H' sm => ?_⟩
    refine ⟨_, rfl, _, rfl, v, w', n, P', P'', rs, ws, rfl, hd.mono sm.x, hw.mono sm.x, fun H2 sm2 => ⟨_, rfl, ?_⟩⟩
    have sm3 := sm.trans sm2
    refine ite2 (fun hr1 => ?_) (fun hr1 => ?_)
    · refine ⟨_, rfl, _, rfl, v, w', n, P', P'', rs, ws, rfl, hd.mono sm3.x, hw.mono sm3.x, hz, ring_in hr1, fun H3 sm4 => ⟨_, _, rfl, rfl, ?_⟩⟩
      have := k H3 (sm3.trans sm4)
      rw [hr1, Bool.true_and] at this
      exact this
    · have := k H2 sm3
      rw [Bool.eq_false_iff.mpr hr1, Bool.false_and] at this
      exact this
theorem ok__law_is_way {P : Program} {w : World} {K : PySem.W.Frag} {mg : Str → Option Value} {base : Heap} (T : Tx K mg) : Callee P w K mg base "_law_is_way" ["_law_net_here", "_law_one", "_law_other", "_law_way"] 1 spLeads := by
  refine callee_of T.d__law_is_way (fun _ _ _ _ _ _ us hl => match us, hl with | [_, _, _, _], _ => rfl) sc__law_is_way (fun vs H Q E h => ?_) (fun f cdv A outer s H vs Q E hr h => ?_)
  · obtain ⟨v, w', p, q, n, P', P'', rs, ws, rfl, _⟩ := h; rfl
  · obtain ⟨v, w', p, q, n, P', P'', rs, ws, rfl, hd, hw, k⟩ := h
    refine ⟨_, (pss_cons (ps_set (i := 4) sc__law_is_way.nd rfl (Or.inl rfl) (pv 1))
      (pss_cons (ps_for PassesOwn.never rfl (pi_L (pv 3)) (pg_name (i := 5) sc__law_is_way.nd rfl (Or.inl rfl))
      (pss_cons (ps_if (PW.pt (pw_or (pt_not (pt_chain op_le op_lt pe_int (pv 5) (pe_callB call_lenD rfl T.n_len PySem.boot_len (pa_cons (pe_ix ix_D (pv 0) pe_int (fun _ _ => rfl)) pa_nil)))) (pw_or1 (pt_cmpR (op_neD hr.units) (pe_ix ix_D (pe_ix ix_D (pe_ix ix_D (pv 0) pe_int (fun _ _ => rfl)) (pv 5) (fun _ _ => rfl)) pe_int (fun _ _ => rfl)) (pv 4) (nomark _))))) (pss_one (ps_ret pe_bl)) pss_nil)
      (pss_one (ps_set (i := 4) sc__law_is_way.nd rfl (Or.inl rfl) (pe_ix ix_D (pe_ix ix_D (pe_ix ix_D (pv 0) pe_int (fun _ _ => rfl)) (pv 5) (fun _ _ => rfl)) pe_int (fun _ _ => rfl))))))
      (pss_one (ps_ret (pe_cmpR (op_eqD hr.units) (pv 4) (pv 2) (nomark _)))))), ?_⟩
    obtain ⟨a, rfl, _, ha⟩ := hw.ints
    refine ⟨_, rfl, ?_⟩
    refine ⟨_, rfl, a, _, rfl, ha, for_L (a := a) (xs := ws.map V.int) (fun i σ H' => ∃ p' z, σ = [some v, some (.int p), some (.int q), some (.ref a), some (.int p'), z] ∧ Same H H' ∧ leadsF rs p q ws = leadsF rs p' q (ws.drop i))
      ⟨p, _, rfl, Same.refl _, rfl⟩ (fun i σ H' _ ⟨_, _, _, sm, _⟩ => sm _ _ ha) ?_ ?_⟩
    · rintro i y σ H' hi ⟨p', z, rfl, sm, inv⟩
      obtain ⟨j, rfl, hj, hdrop⟩ := at_ints hi
      rw [hdrop] at inv
      have hv : Dn H' P' v (netD n rs) := hd.mono sm.x
      refine ⟨_, rfl, _, _, rfl, rfl, _, rfl, ?_⟩
      by_cases h0 : 0 ≤ j
      · refine ite_t (decide_eq_true h0) ?_
        refine ⟨_, rfl, ixT hv rfl fun v1 hv1 => lenL hv1 ⟨_, _, rfl, rfl, _, rfl, ?_⟩⟩
        by_cases h1 : j < rs.length
        · refine ite_f (by rw [decide_eq_true (by rw [List.length_map]; exact h1)]; rfl) ?_
          obtain ⟨r, hr1, hr2⟩ := roadAt_in h0 h1
          refine ⟨_, rfl, ixT hv rfl fun v1 hv1 => ⟨_, rfl, ixL hv1 (at_road hr1) fun v2 hv2 => ixT hv2 rfl fun v3 hv3 => ?_⟩⟩
          cases hv3
          refine ⟨_, rfl, eqI ⟨_, rfl, ?_⟩⟩
          by_cases h2 : r.1 = p'
          · refine ite_f (by rw [decide_eq_true h2]; rfl) ?_
            refine ⟨_, rfl, ixT hv rfl fun v1 hv1 => ⟨_, rfl, ixL hv1 (at_road hr1) fun v2 hv2 => ixT hv2 rfl fun v3 hv3 => ?_⟩⟩
            cases hv3
            refine ⟨_, _, rfl, sm, ?_⟩
            rw [inv, leadsF, hr1]
            simp only [h2, if_true]
          · refine ite_t (by rw [decide_eq_false h2]; rfl) ?_
            have e : leadsF rs p q ws = false := by rw [inv, leadsF, hr1]; simp only [h2, if_false]
            have := k H' sm
            rw [e] at this
            exact this
        · refine ite_t (by rw [decide_eq_false (by rw [List.length_map]; exact h1)]; rfl) ?_
          have e : leadsF rs p q ws = false := by rw [inv, leadsF, roadAt_out (fun z => h1 z.2)]
          have := k H' sm
          rw [e] at this
          exact this
      · refine ite_f (decide_eq_false h0) ?_
        refine ⟨_, rfl, ?_⟩
        refine ite_t rfl ?_
        have e : leadsF rs p q ws = false := by rw [inv, leadsF, roadAt_out (fun z => h0 z.1)]
        have := k H' sm
        rw [e] at this
        exact this
    · rintro σ H' ⟨p', z, rfl, sm, inv⟩
      refine ⟨_, rfl, _, rfl, eqI ?_⟩
      rw [List.length_map, List.drop_length] at inv
      have := k H' sm
      rw [inv] at this
      exact this
theorem ok__law_asked {P : Program} {w : World} {K : PySem.W.Frag} {mg : Str → Option Value} {base : Heap} (T : Tx K mg) : Callee P w K mg base "_law_asked" ["_law_net_here", "_law_some"] 5 spAsked06 := by
  have c_shows_heights := ok_shows_heights (P := P) (w := w) (base := base) T
  have c_shows_ring := ok_shows_ring (P := P) (w := w) (base := base) T
  have c__law_is_way := ok__law_is_way (P := P) (w := w) (base := base) T
  have c__law_high := ok__law_high (P := P) (w := w) (base := base) T
  have c__law_long := ok__law_long (P := P) (w := w) (base := base) T
  refine callee_of T.d__law_asked (fun _ _ _ _ _ _ us hl => match us, hl with | [_, _], _ => rfl) sc__law_asked (fun vs H Q E h => ?_) (fun f cdv A outer s H vs Q E hr h => ?_)
  · obtain ⟨v, w', n, P', P'', rs, ws, rfl, _⟩ := h; rfl
  · obtain ⟨v, w', n, P', P'', rs, ws, rfl, hd, ok, hw, hz, k⟩ := h
    replace hd := hd.plain
    replace hw := hw.plain
    refine ⟨_, (pss_cons (ps_set (i := 2) sc__law_asked.nd rfl (Or.inl rfl) pe_bl)
      (pss_cons (ps_if (PW.pt (pw_and (pt_cmpR (op_neD hr.units) (pv 1) (pe_lst pa_nil) (nomark _)) (pw_and1 (pt_chain op_le op_lt pe_int (pe_ix ix_D (pv 1) pe_int (fun _ _ => rfl)) (pe_callB call_lenD rfl T.n_len PySem.boot_len (pa_cons (pe_ix ix_D (pv 0) pe_int (fun _ _ => rfl)) pa_nil)))))) (pss_cons (ps_set (i := 3) sc__law_asked.nd rfl (Or.inl rfl) (pe_ix ix_D (pe_ix ix_D (pe_ix ix_D (pv 0) pe_int (fun _ _ => rfl)) (pe_ix ix_D (pv 1) pe_int (fun _ _ => rfl)) (fun _ _ => rfl)) pe_int (fun _ _ => rfl)))
      (pss_one (ps_set (i := 2) sc__law_asked.nd rfl (Or.inl rfl) (pe_and (pe_callC c__law_is_way hr (by decide) rfl (pa_cons (pv 0) (pa_cons (pv 3) (pa_cons (pv 3) (pa_cons (pv 1) pa_nil))))) (pe_one (pe_cmpR op_lt (pe_callC c__law_long hr (by decide) rfl (pa_cons (pv 0) (pa_cons (pv 1) pa_nil))) pe_int (nomark _))))))) pss_nil)
      (pss_cons (ps_set (i := 4) sc__law_asked.nd rfl (Or.inl rfl) (pe_lst (pa_cons (pe_tup (pa_cons (pe_ix ix_D (pv 0) pe_int (fun _ _ => rfl)) (pa_cons (pe_callTy call_listD rfl T.n_list PyProof.Rows.boot_list (pa_cons (pe_ix ix_D (pv 0) pe_int (fun _ _ => rfl)) pa_nil)) pa_nil))) (pa_cons (pe_callTy call_listD rfl T.n_list PyProof.Rows.boot_list (pa_cons (pv 1) pa_nil)) pa_nil))))
      (pss_cons (ps_set (i := 5) sc__law_asked.nd rfl (Or.inl rfl) (pe_lst (pa_cons (pe_callC c_shows_heights hr (by decide) rfl (pa_cons (pe_ix ix_D (pv 4) pe_int (fun _ _ => rfl)) (pa_cons (pe_ix ix_D (pv 4) pe_int (fun _ _ => rfl)) pa_nil))) (pa_cons (pe_callC c_shows_ring hr (by decide) rfl (pa_cons (pe_ix ix_D (pv 4) pe_int (fun _ _ => rfl)) (pa_cons (pe_ix ix_D (pv 4) pe_int (fun _ _ => rfl)) pa_nil))) pa_nil))))
      (pss_cons (ps_if (PW.pt (pw_or (pt_not (pt_tru (pe_callB call_isi rfl T.n_isinstance PyProof.Rows.boot_isinstance (pa_cons (pe_ix ix_D (pv 5) pe_int (fun _ _ => rfl)) (pa_cons (pe_bltn (v := .ty "bool") rfl T.n_bool PyProof.Rows.boot_bool rfl) pa_nil))) (fun _ => rfl))) (pw_or (pt_not (pt_tru (pe_callB call_isi rfl T.n_isinstance PyProof.Rows.boot_isinstance (pa_cons (pe_ix ix_D (pv 5) pe_int (fun _ _ => rfl)) (pa_cons (pe_bltn (v := .ty "bool") rfl T.n_bool PyProof.Rows.boot_bool rfl) pa_nil))) (fun _ => rfl))) (pw_or1 (pt_cmpR (op_neD hr.units) (pv 4) (pe_lst (pa_cons (pv 0) (pa_cons (pv 1) pa_nil))) (nomark _)))))) (pss_one (ps_ret pe_bl)) pss_nil)
      (pss_one (ps_ret (pe_cmpR (op_eqD hr.units) (pv 5) (pe_lst (pa_cons (pe_callC c__law_high hr (by decide) rfl (pa_cons (pv 0) (pa_cons (pv 1) pa_nil))) (pa_cons (pv 2) pa_nil))) (nomark _))))))))), ?_⟩
    refine seq_by (rest := _) (fun σ' H' => σ' = [some v, some w', some (.bl false), none, none, none] ∧ H = H') (fun U go => go _ _ ⟨rfl, rfl⟩) ?_
    rintro _ _ ⟨rfl, rfl⟩
    refine seq_by (fun σ' H' => ∃ z, σ' = [some v, some w', some (.bl (ringF rs ws && decide (wayLen rs ws < 0))), z, none, none] ∧ Same H H') (fun U go => ?_) ?_
    · refine ⟨_, rfl, Nat.zero_le _, fun p hp => eqD (hw.mono (SameX.new hp)) (Dn.newL (P := NoP) hp (fun z => z) .nil) (Lay.ints ws).shaped (by rfl) ⟨_, rfl, ?_⟩⟩
      have s1 : Same H (upd H p (.lst [])) := Same.new hp
      unfold intsD
      rw [eqv_nil]
      cases ws with
      | nil => exact go _ _ ⟨_, rfl, s1⟩
      | cons j ws =>
        refine ite_t rfl ?_
        obtain ⟨a, rfl, _, ha⟩ := hw.ints
        refine ⟨_, rfl, ixR (s1 _ _ ha) (atI_zero _ _) ⟨_, _, rfl, rfl, _, rfl, ?_⟩⟩
        have hd1 := hd.mono (SameX.new (o := .lst []) hp)
        have hw1 := hw.mono (SameX.new (o := .lst []) hp)
        by_cases h0 : 0 ≤ j
        · refine ite_t (decide_eq_true h0) ?_
          refine ⟨_, rfl, ixT hd1 rfl fun v1 hv1 => lenL hv1 ⟨_, _, rfl, rfl, _, rfl, ?_⟩⟩
          by_cases h1 : j < rs.length
          · refine ite_t (decide_eq_true (by rw [List.length_map]; exact h1)) ?_
            obtain ⟨r, hr1, hr2⟩ := roadAt_in h0 h1
            refine ⟨_, rfl, ixT hd1 rfl fun v1 hv1 => ⟨_, rfl, ixR (s1 _ _ ha) (atI_zero _ _) (ixL hv1 (at_road hr1) fun v2 hv2 => ixT hv2 rfl fun v3 hv3 => ?_)⟩⟩
            cases hv3
            refine ⟨_, rfl, _, rfl, _, rfl, _, rfl, v, _, r.1, r.1, n, NoP, NoP, rs, _, rfl, hd1, hw1, fun H2 sm2 => ⟨_, rfl, ?_⟩⟩
            have er : ringF rs (j :: ws) = leadsF rs r.1 r.1 (j :: ws) := by rw [ringF_cons, hr1]
            refine ite2 (fun hr1 => ?_) (fun hr1 => ?_)
            · refine ⟨_, rfl, _, rfl, v, _, n, NoP, NoP, rs, _, rfl, hd1.mono sm2.x, hw1.mono sm2.x, hz, leads_in hr1, fun H3 sm3 => ⟨_, _, rfl, rfl, ?_⟩⟩
              refine go _ _ ⟨some (.int r.1), ?_, s1.trans (sm2.trans sm3)⟩
              rw [er, hr1, Bool.true_and]
              rfl
            · refine go _ _ ⟨some (.int r.1), ?_, s1.trans sm2⟩
              rw [er, Bool.eq_false_iff.mpr hr1, Bool.false_and]
              rfl
          · refine ite_f (decide_eq_false (by rw [List.length_map]; exact h1)) ?_
            refine go _ _ ⟨none, ?_, s1⟩
            have er : ringF rs (j :: ws) = false := by rw [ringF_cons, roadAt_out (fun z => h1 z.2)]
            rw [er, Bool.false_and]
        · refine ite_f (decide_eq_false h0) ?_
          refine ⟨_, rfl, ?_⟩
          refine go _ _ ⟨none, ?_, s1⟩
          have er : ringF rs (j :: ws) = false := by rw [ringF_cons, roadAt_out (fun z => h0 z.1)]
          rw [er, Bool.false_and]
    · rintro _ H1 ⟨z, rfl, sm1⟩
      have hd1 := hd.mono sm1.x
      have hw1 := hw.mono sm1.x
      refine ⟨_, rfl, ixT hd1 rfl fun v0 hv0 => ?_⟩
      cases hv0
      refine ⟨_, rfl, ixT hd1 rfl fun v1 hv1 => ⟨v1, NoP, _, rfl, .inl hv1, fun l ys hl dns => ?_⟩⟩
      refine ⟨(by show 2 ≤ sizeLine; decide), fun t ht => ?_⟩
      have e2 : Dn (upd H1 l (.lst ys)) NoP (.ref l) (roadsD rs) := Dn.newL hl (fun z => z) dns
      have s2 : Same H1 (upd (upd H1 l (.lst ys)) t (.tup [.int n, .ref l])) := (Same.new hl).trans (Same.new ht)
      have e3 : Dn (upd (upd H1 l (.lst ys)) t (.tup [.int n, .ref l])) NoP (.ref t) (netD n rs) := Dn.newT ht (fun z => z) (.cons (.int n) (.cons e2 .nil))
      refine ⟨_, rfl, w', NoP, _, rfl, .inl (hw1.mono s2.x), fun m zs hm dms => ?_⟩
      refine ⟨(by show 2 ≤ sizeLine; decide), fun hh hhh => ?_⟩
      generalize upd (upd H1 l (.lst ys)) t (.tup [.int n, .ref l]) = H2 at *
      have e4 : Dn (upd H2 m (.lst zs)) NoP (.ref m) (intsD ws) := Dn.newL hm (fun z => z) dms
      have e3' := e3.mono (SameX.new (P := NoP) (o := .lst zs) hm)
      have s3 : Same H1 (upd H2 m (.lst zs)) := s2.trans (Same.new hm)
      generalize upd H2 m (.lst zs) = H3 at *
      have e5 : Dn (upd H3 hh (.lst [.ref t, .ref m])) NoP (.ref hh) (.list [netD n rs, intsD ws]) := Dn.newL hhh (fun z => z) (.cons e3' (.cons e4 .nil))
      have s4 : Same H1 (upd H3 hh (.lst [.ref t, .ref m])) := s3.trans (Same.new hhh)
      generalize upd H3 hh (.lst [.ref t, .ref m]) = H4 at *
      -- found
      refine ⟨_, rfl, ixL e5 rfl fun a1 ha1 => ⟨_, rfl, ixL e5 rfl fun a2 ha2 => ?_⟩⟩
      refine ⟨a1, a2, n, NoP, NoP, rs, ws, rfl, ha1, ok, ha2, fun H5 sm5 => ?_⟩
      have e6 := e5.mono sm5.x
      refine ⟨_, rfl, ixL e6 rfl fun b1 hb1 => ⟨_, rfl, ixL e6 rfl fun b2 hb2 => ?_⟩⟩
      refine ⟨b1, b2, n, NoP, NoP, rs, ws, rfl, hb1, ok, hb2, hz, fun H6 sm6 => ?_⟩
      refine ⟨(by show 2 ≤ sizeLine; decide), fun f' hf' => ?_⟩
      have s7 : Same H1 (upd H6 f' (.lst [.bl (highF n rs ws), .bl (ringF rs ws && decide (wayLen rs ws < 0))])) := s4.trans (sm5.trans (sm6.trans (Same.new hf')))
      have e7 := (e6.mono sm6.x).mono (SameX.new (P := NoP) (o := .lst [.bl (highF n rs ws), .bl (ringF rs ws && decide (wayLen rs ws < 0))]) hf')
      have e8 : Dn (upd H6 f' (.lst [.bl (highF n rs ws), .bl (ringF rs ws && decide (wayLen rs ws < 0))])) NoP (.ref f') (.list [.bool (highF n rs ws), .bool (ringF rs ws && decide (wayLen rs ws < 0))]) := Dn.newL hf' (fun z => z) (.cons (.bl _) (.cons (.bl _) .nil))
      generalize upd H6 f' (.lst [.bl (highF n rs ws), .bl (ringF rs ws && decide (wayLen rs ws < 0))]) = H7 at *
      -- the tests
      refine ⟨_, rfl, ixL e8 rfl fun c1 hc1 => ?_⟩
      cases hc1
      refine ⟨_, "bool", _, true, rfl, .bl _, rfl, _, rfl, ?_⟩
      refine ite_f rfl ?_
      refine ⟨_, rfl, ixL e8 rfl fun c1 hc1 => ?_⟩
      cases hc1
      refine ⟨_, "bool", _, true, rfl, .bl _, rfl, _, rfl, ?_⟩
      refine ite_f rfl ?_
      have hd7 := hd1.mono s7.x
      have hw7 := hw1.mono s7.x
      refine ⟨_, rfl, _, rfl, _, rfl, (by show 2 ≤ sizeLine; decide), fun g hg => ?_⟩
      have e9 : Dn (upd H7 g (.lst [v, w'])) NoP (.ref g) (.list [netD n rs, intsD ws]) := Dn.newL hg (fun z => z) (.cons hd7 (.cons hw7 .nil))
      have L2' : Lay 4 (.list [netD n rs, intsD ws]) := Lay.list fun d hd => by
        rcases List.mem_cons.mp hd with rfl | hd
        · exact Lay.net n rs
        · rw [List.mem_singleton.mp hd]; exact (Lay.ints ws).mono (by decide)
      refine eqD (e7.mono (SameX.new hg)) e9 L2'.shaped L2'.shaped ⟨_, rfl, ?_⟩
      refine ite_f (by rw [L2'.refl]; rfl) ?_
      have s8 : Same H7 (upd H7 g (.lst [v, w'])) := Same.new hg
      refine ⟨_, rfl, _, rfl, _, rfl, v, w', n, NoP, NoP, rs, ws, rfl, hd7.mono s8.x, ok, hw7.mono s8.x, fun H9 sm9 => ?_⟩
      refine ⟨_, rfl, (by show 2 ≤ sizeLine; decide), fun g2 hg2 => ?_⟩
      have L3 : Lay 1 (.list [.bool (highF n rs ws), .bool (ringF rs ws && decide (wayLen rs ws < 0))]) := Lay.list fun d hd => by
        rcases List.mem_cons.mp hd with rfl | hd
        · exact Lay.bool _
        · rw [List.mem_singleton.mp hd]; exact Lay.bool _
      refine eqD (((e8.mono s8.x).mono sm9.x).mono (SameX.new hg2)) (Dn.newL (P := NoP) hg2 (fun z => z) (.cons (.bl _) (.cons (.bl _) .nil))) L3.shaped L3.shaped ?_
      rw [L3.refl]
      exact k _ (sm1.trans (s7.trans (s8.trans (sm9.trans (Same.new hg2)))))
end My

set_option Elab.async false
set_option linter.all false
set_option maxRecDepth 100000
set_option maxHeartbeats 4000000
namespace My
open PySem L2
theorem ok__law_at {P : Program} {w : World} {K : PySem.W.Frag} {mg : Str → Option Value} {base : Heap} (T : Tx K mg) : Callee P w K mg base "_law_at" ["_law_script", "_law_k"] 1 (spAt K) := by
  refine callee_of T.d__law_at (fun _ _ _ _ _ _ us hl => match us, hl with | [_, _], _ => rfl) sc__law_at (fun vs H Q E h => ?_) (fun f cdv A outer s H vs Q E hr h => ?_)
  · obtain ⟨a, ns, k, rfl, _⟩ := h; rfl
  · obtain ⟨a, ns, k, rfl, hS, h0, q⟩ := h
    refine ⟨_, (pss_cons (ps_if (pt_cmpR op_lt (pv 1) (pe_callB call_len_seq rfl T.n_len PySem.boot_len (pa_cons (pv 0) pa_nil)) (nomark _)) (pss_one (ps_ret (pe_ix ix_list (pv 0) (pv 1) (fun _ _ => rfl)))) pss_nil)
      (pss_one (ps_ret pe_int))), ?_⟩
    refine ⟨_, rfl, _, rfl, a, _, rfl, .inl hS, _, _, rfl, rfl, _, rfl, ?_⟩
    refine ite2 (fun h1 => ?_) (fun h1 => q 0)
    rw [decide_eq_true_iff, List.length_map] at h1
    obtain ⟨x, hx⟩ := at_in h0 h1
    refine ⟨_, rfl, _, rfl, a, _, k, .int x, rfl, rfl, hS, ?_, q x⟩
    have e : k = (k.toNat : Int) := by omega
    rw [e]
    exact atI_nat (by rw [List.getElem?_map, hx]; rfl)
theorem mod_lt (x : Int) {m : Int} (h : 0 < m) : 0 ≤ x % m ∧ x % m < m := ⟨Int.emod_nonneg _ (by omega), Int.emod_lt_of_pos _ h⟩
theorem ok__law_mixed {P : Program} {w : World} {K : PySem.W.Frag} {mg : Str → Option Value} {base : Heap} (T : Tx K mg) : Callee P w K mg base "_law_mixed" ["_law_cell", "_law_k"] 1 spMixed := by
  refine callee_of T.d__law_mixed (fun _ _ _ _ _ _ us hl => match us, hl with | [_, _], _ => rfl) sc__law_mixed (fun vs H Q E h => ?_) (fun f cdv A outer s H vs Q E hr h => ?_)
  · obtain ⟨b, c, rfl, _⟩ := h; rfl
  · obtain ⟨b, c, rfl, hb0, hb1, hc0, hc1, q⟩ := h
    refine ⟨_, (pss_cons (ps_set (i := 2) sc__law_mixed.nd rfl (Or.inl rfl) (pe_op op_mod (pe_op op_addD (pe_op op_addD (pe_op op_addD (pe_op op_mulD (pv 0) pe_int) (pe_op op_mulD (pe_op op_mulD pe_int (pv 1)) (pv 1))) (pv 1)) pe_int) pe_int))
      (pss_cons (ps_set (i := 2) sc__law_mixed.nd rfl (Or.inl rfl) (pe_op op_mod (pe_op op_addD (pe_op op_mulD (pv 2) (pv 2)) pe_int) pe_int))
      (pss_one (ps_ret (pe_op op_mod (pe_op op_mulD (pv 2) pe_int) pe_int))))), ?_⟩
    refine ⟨_, rfl, mulI (.inr ⟨by decide, by decide⟩) ?_⟩
    refine ⟨_, rfl, mulI (.inl ⟨by decide, by decide⟩) ?_⟩
    refine ⟨_, rfl, mulI (.inr ⟨by omega, by omega⟩) (addI ?_)⟩
    refine ⟨_, rfl, addI (addI ⟨_, _, rfl, rfl, (by show (0 : Int) < 2147483647; decide), ?_⟩)⟩
    obtain ⟨l1, l2⟩ := mod_lt (b * 1103515245 + 7919 * c * c + c + 1) (show (0 : Int) < 2147483647 by decide)
    refine ⟨_, rfl, _, rfl, mulI (.inl ⟨Int.lt_of_lt_of_le (by decide) l1, Int.lt_trans l2 (by decide)⟩) (addI ⟨_, _, rfl, rfl, (by show (0 : Int) < 2147483629; decide), ?_⟩)⟩
    refine ⟨_, rfl, mulI (.inr ⟨by decide, by decide⟩) ⟨_, _, rfl, rfl, (by show (0 : Int) < 2147483587; decide), ?_⟩⟩
    refine q _ ?_ ?_
    · exact (mod_lt _ (show (0 : Int) < 2147483587 by decide)).1
    · exact (mod_lt _ (show (0 : Int) < 2147483587 by decide)).2
theorem ok__law_purse {P : Program} {w : World} {K : PySem.W.Frag} {mg : Str → Option Value} {base : Heap} (T : Tx K mg) : Callee P w K mg base "_law_purse" ["_law_script", "_law_at_here"] 2 (spPurse K) := by
  have c__law_at := ok__law_at (P := P) (w := w) (base := base) T
  refine callee_of T.d__law_purse (fun _ _ _ _ _ _ us hl => match us, hl with | [_, _], _ => rfl) sc__law_purse (fun vs H Q E h => ?_) (fun f cdv A outer s H vs Q E hr h => ?_)
  · obtain ⟨a, ns, k, rfl, _⟩ := h; rfl
  · obtain ⟨a, ns, k, rfl, hS, h0, h1, q⟩ := h
    refine ⟨_, (pss_cons (ps_set (i := 2) sc__law_purse.nd rfl (Or.inl rfl) (pe_callC c__law_at hr (by decide) rfl (pa_cons (pv 0) (pa_cons (pv 1) pa_nil))))
      (pss_one (ps_ret (pe_lst (pa_cons (pe_callB (call_max2 rfl) rfl T.n_max PyProof.Rows.boot_max (pa_cons (pe_op op_sub (pv 2) (pe_op op_pow pe_int pe_int)) (pa_cons pe_int pa_nil))) (pa_cons (pe_op op_mod (pv 2) pe_int) (pa_cons (pe_op op_mulD pe_int (pv 1)) pa_nil))))))), ?_⟩
    refine ⟨_, rfl, _, rfl, a, ns, k, rfl, hS, h0, fun x => ?_⟩
    refine ⟨_, rfl, _, _, rfl, rfl, ⟨by decide, by decide, by decide⟩, _, _, rfl, rfl, _, _, rfl, ?_⟩
    refine ⟨_, rfl, _, _, rfl, rfl, (by show (0 : Int) < 2147483647; decide), ?_⟩
    refine ⟨_, rfl, mulI (.inl ⟨by decide, by decide⟩) ⟨(by show 3 ≤ sizeLine; decide), fun p hp => ?_⟩⟩
    obtain ⟨l1, l2⟩ := mod_lt x (show (0 : Int) < 2147483647 by decide)
    refine q p _ hp (Same.new hp) ⟨_, _, _, upd_same, ?_, l1, l2, by omega, by omega⟩
    split <;> omega
theorem bits_le {n : Int} (h0 : 1 ≤ n) (h1 : n < 2 ^ 100) : (0 : Int) ≤ (Builtin.Int.intBits n : Int) / 30 ∧ (Builtin.Int.intBits n : Int) / 30 ≤ 3 := by
  have := PyProof.Rows.intBits_le (a := n) (k := 100) (by omega)
  omega
theorem ok__law_draw {P : Program} {w : World} {K : PySem.W.Frag} {mg : Str → Option Value} {base : Heap} (T : Tx K mg) : Callee P w K mg base "_law_draw" ["_law_purse_here", "_law_out_of"] 2 spDraw := by
  have c__law_mixed := ok__law_mixed (P := P) (w := w) (base := base) T
  refine callee_of T.d__law_draw (fun _ _ _ _ _ _ us hl => match us, hl with | [_, _], _ => rfl) sc__law_draw (fun vs H Q E h => ?_) (fun f cdv A outer s H vs Q E hr h => ?_)
  · obtain ⟨q, n, m, rfl, _⟩ := h; rfl
  · obtain ⟨q, n, m, rfl, ⟨a, b, c, hq, ha, hb0, hb1, hc0, hc1⟩, hm, hn0, hn1, k⟩ := h
    refine ⟨_, (pss_cons (ps_if (pt_cmpR op_gt (pe_ix ix_D (pv 0) pe_int (fun _ _ => rfl)) pe_int (nomark _)) (pss_cons (ps_set (i := 2) sc__law_draw.nd rfl (Or.inl rfl) (pe_op op_mod (pe_ix ix_D (pv 0) pe_int (fun _ _ => rfl)) (pv 1)))
      (pss_cons (ps_asg (pe_op op_fdivD (pe_ix ix_D (pv 0) pe_int (fun _ _ => rfl)) (pv 1)) (pg_sub (pv 0) pe_int set_list))
      (pss_one (ps_ret (pv 2))))) pss_nil)
      (pss_cons (ps_set (i := 3) sc__law_draw.nd rfl (Or.inl rfl) pe_int)
      (pss_cons (ps_for PassesOwn.never rfl (pi_range1 rfl T.n_range (pa_cons (pe_op op_addD pe_int (pe_op op_fdivD (pe_bm0 PySem.F.plainAttrs_int PySem.F.slot_int_bit_length PySem.F.type_int_bit_length mt_bits (pv 1)) pe_int)) pa_nil)) (pg_name (i := 4) sc__law_draw.nd rfl (Or.inl rfl))
      (pss_cons (ps_asg (pe_op op_addD (pe_ix ix_D (pv 0) pe_int (fun _ _ => rfl)) pe_int) (pg_sub (pv 0) pe_int set_list))
      (pss_one (ps_set (i := 3) sc__law_draw.nd rfl (Or.inl rfl) (pe_op op_addD (pe_op op_mulD (pv 3) pe_int) (pe_callC c__law_mixed hr (by decide) rfl (pa_cons (pe_ix ix_D (pv 0) pe_int (fun _ _ => rfl)) (pa_cons (pe_ix ix_D (pv 0) pe_int (fun _ _ => rfl)) pa_nil))))))))
      (pss_one (ps_ret (pe_op op_mod (pv 3) (pv 1))))))), ?_⟩
    refine ⟨_, rfl, ixR hq rfl ⟨_, _, rfl, rfl, _, rfl, ?_⟩⟩
    have hN : n < 2 ^ 200 := Int.lt_trans hn1 (by decide)
    refine ite2 (fun h0 => ?_) (fun h0 => ?_)
    · refine ⟨_, rfl, ixR hq rfl ⟨_, rfl, _, _, rfl, rfl, (by show (0 : Int) < n; omega), ?_⟩⟩
      refine ⟨_, rfl, ixR hq rfl ⟨_, rfl, _, _, rfl, rfl, ⟨by omega, hN⟩, _, rfl, q, _, 0, 0, rfl, rfl, hq, rfl, ?_⟩⟩
      obtain ⟨l1, l2⟩ := mod_lt a (show (0 : Int) < n by omega)
      refine ⟨_, rfl, k _ _ l1 l2 ⟨a / n, b, c, upd_same, Int.ediv_nonneg ha (by omega), hb0, hb1, hc0, by omega⟩ (SameX.put rfl)⟩
    · obtain ⟨j0, j1⟩ := bits_le hn0 hn1
      refine ⟨_, rfl, rfl, n, rfl, rfl, _, _, rfl, rfl, ⟨by decide, by decide⟩, addI ⟨_, rfl, by omega, by omega, ?_⟩⟩
      refine for_range (lo := 0) (fun i σ H' => ∃ (num c' : Int) (z : Option V), σ = [some (.ref q), some (.int n), none, some (.int num), z] ∧ H' q = some (.lst [.int a, .int b, .int c']) ∧ 0 ≤ c' ∧ c' ≤ c + i ∧ SameX (But q) H H')
        ⟨0, c, none, rfl, hq, hc0, by omega, SameX.refl⟩ ?_ ?_
      · rintro i σ H' hi ⟨num, c', z, rfl, hq', hc', hc'', sm⟩
        refine ⟨_, rfl, ixR hq' rfl (addI ⟨_, rfl, q, _, 2, 2, rfl, rfl, hq', rfl, ?_⟩)⟩
        refine ⟨_, rfl, mulI (.inr ⟨by decide, by decide⟩) ⟨_, rfl, ixR upd_same rfl ⟨_, rfl, ixR upd_same rfl ?_⟩⟩⟩
        refine ⟨b, c' + 1, rfl, hb0, hb1, by omega, by omega, fun y h1 h2 => addI ?_⟩
        exact ⟨_, c' + 1, _, rfl, upd_same, by omega, by omega, sm.trans (SameX.put rfl)⟩
      · rintro σ H' ⟨num, c', z, rfl, hq', hc', hc'', sm⟩
        obtain ⟨l1, l2⟩ := mod_lt num (show (0 : Int) < n by omega)
        refine ⟨_, rfl, _, rfl, _, _, rfl, rfl, (by show (0 : Int) < n; omega), k _ _ l1 l2 ⟨a, b, c', hq', ha, hb0, hb1, hc', by omega⟩ sm⟩
theorem ok__law_number {P : Program} {w : World} {K : PySem.W.Frag} {mg : Str → Option Value} {base : Heap} (T : Tx K mg) : Callee P w K mg base "_law_number" ["_law_purse_here", "_law_most"] 3 spNumber := by
  have c__law_draw := ok__law_draw (P := P) (w := w) (base := base) T
  refine callee_of T.d__law_number (fun _ _ _ _ _ _ us hl => match us, hl with | [_, _], _ => rfl) sc__law_number (fun vs H Q E h => ?_) (fun f cdv A outer s H vs Q E hr h => ?_)
  · obtain ⟨q, x, m, rfl, _⟩ := h; rfl
  · obtain ⟨q, x, m, rfl, pu, hm, hx0, hx1, k⟩ := h
    refine ⟨_, (pss_cons (ps_set (i := 2) sc__law_number.nd rfl (Or.inl rfl) (pe_ix ix_D (pe_lst (pa_cons pe_int (pa_cons pe_int (pa_cons pe_int (pa_cons (pv 1) pa_nil))))) (pe_callC c__law_draw hr (by decide) rfl (pa_cons (pv 0) (pa_cons pe_int pa_nil))) (fun _ _ => rfl)))
      (pss_one (ps_ret (pe_op op_sub (pe_callC c__law_draw hr (by decide) rfl (pa_cons (pv 0) (pa_cons (pe_op op_addD (pe_op op_mulD pe_int (pv 2)) pe_int) pa_nil))) (pv 2))))), ?_⟩
    refine ⟨_, rfl, (by show 4 ≤ sizeLine; decide), fun l hl => ?_⟩
    have nl : l ≠ q := fun e => by subst e; obtain ⟨_, _, _, h1, _⟩ := pu; rw [hl] at h1; cases h1
    refine ⟨_, rfl, q, 4, m, rfl, pu.same (Same.new hl), by omega, by decide, by decide, fun r H1 r0 r1 pu1 sm1 => ?_⟩
    have hl1 : H1 l = some (.lst [.int 1, .int 4, .int 30, .int x]) := sm1 _ _ upd_same nl
    obtain ⟨far, hf, f0, f1⟩ : ∃ far : Int, atI [V.int 1, .int 4, .int 30, .int x] r = some (.int far) ∧ 1 ≤ far ∧ far ≤ max x 30 := by
      have : r = 0 ∨ r = 1 ∨ r = 2 ∨ r = 3 := by omega
      rcases this with rfl | rfl | rfl | rfl
      · exact ⟨1, rfl, by omega, by omega⟩
      · exact ⟨4, rfl, by omega, by omega⟩
      · exact ⟨30, rfl, by omega, by omega⟩
      · exact ⟨x, rfl, by omega, by omega⟩
    refine ixR hl1 hf ?_
    refine ⟨_, rfl, _, rfl, mulI (.inl ⟨by decide, by decide⟩) (addI ?_)⟩
    refine ⟨q, _, m + 4, rfl, pu1, by omega, by omega, by omega, fun r2 H2 r20 r21 pu2 sm2 => ⟨_, rfl, _, _, rfl, rfl, ?_⟩⟩
    refine k _ _ (by omega) (by omega) ?_ (((Same.new hl).x.trans sm1).trans sm2)
    have : m + 8 = m + 4 + 4 := by omega
    rw [this]
    exact pu2
end My

set_option Elab.async false
set_option linter.all false
set_option maxRecDepth 100000
set_option maxHeartbeats 4000000
namespace My
open PySem L2
theorem ok__law_net {P : Program} {w : World} {K : PySem.W.Frag} {mg : Str → Option Value} {base : Heap} (T : Tx K mg) : Callee P w K mg base "_law_net" ["_law_purse_here", "_law_most", "_law_many"] 4 spNet := by
  have c__law_draw := ok__law_draw (P := P) (w := w) (base := base) T
  have c__law_number := ok__law_number (P := P) (w := w) (base := base) T
  refine callee_of T.d__law_net (fun _ _ _ _ _ _ us hl => match us, hl with | [_, _, _], _ => rfl) sc__law_net (fun vs H Q E h => ?_) (fun f cdv A outer s H vs Q E hr h => ?_)
  · obtain ⟨q, most, many, m, rfl, _⟩ := h; rfl
  · obtain ⟨q, most, many, m, rfl, pu, hm, hmost, hmany, k⟩ := h
    refine ⟨_, (pss_cons (ps_set (i := 3) sc__law_net.nd rfl (Or.inl rfl) (pe_callC c__law_draw hr (by decide) rfl (pa_cons (pv 0) (pa_cons (pe_op op_addD (pv 1) pe_int) pa_nil))))
      (pss_cons (ps_setLC (i := 4) sc__law_net.nd rfl (Or.inl rfl) (N' := ["_law_k", "_law_purse_here"]) (js := [none, some 0]) rfl (pi_range1 rfl T.n_range (pa_cons (pv 3) pa_nil)) (by kernel_rfl) (gk_name rfl) (by kernel_rfl) rfl (fun _ _ _ => ⟨(pg_name (i := 0) (show List.Nodup [("_law_k" : Str), ("_law_purse_here" : Str)] by decide +kernel) rfl (Or.inl rfl)), pf_nil, (pe_callC c__law_number hr (by decide) rfl (pa_cons (pv 1) (pa_cons (pe_op op_pow pe_int pe_int) pa_nil)))⟩))
      (pss_cons (ps_set (i := 5) sc__law_net.nd rfl (Or.inl rfl) (pe_lst pa_nil))
      (pss_cons (ps_for PassesOwn.never rfl (pi_range1 rfl T.n_range (pa_cons (pe_op op_mulD (pe_callC c__law_draw hr (by decide) rfl (pa_cons (pv 0) (pa_cons (pe_op op_addD (pv 2) pe_int) pa_nil))) (pe_callTy call_int1 rfl T.n_int PyProof.Rows.boot_int (pa_cons (pe_cmpR op_gt (pv 3) pe_int (nomark _)) pa_nil))) pa_nil)) (pg_name (i := 6) sc__law_net.nd rfl (Or.inl rfl))
      (pss_cons (ps_set (i := 7) sc__law_net.nd rfl (Or.inl rfl) (pe_callC c__law_draw hr (by decide) rfl (pa_cons (pv 0) (pa_cons (pv 3) pa_nil))))
      (pss_cons (ps_set (i := 8) sc__law_net.nd rfl (Or.inl rfl) (pe_callC c__law_draw hr (by decide) rfl (pa_cons (pv 0) (pa_cons (pv 3) pa_nil))))
      (pss_cons (ps_set (i := 9) sc__law_net.nd rfl (Or.inl rfl) (pe_ix ix_D (pe_lst (pa_cons pe_int (pa_cons pe_int (pa_cons (pe_callC c__law_draw hr (by decide) rfl (pa_cons (pv 0) (pa_cons pe_int pa_nil))) (pa_cons (pe_callC c__law_draw hr (by decide) rfl (pa_cons (pv 0) (pa_cons (pe_op op_pow pe_int pe_int) pa_nil))) pa_nil))))) (pe_callC c__law_draw hr (by decide) rfl (pa_cons (pv 0) (pa_cons pe_int pa_nil))) (fun _ _ => rfl)))
      (pss_cons (ps_expr (pe_bm PySem.F.plainAttrs_list PySem.F.slot_list_append PySem.F.type_list_append mt_append (pv 5) (pa_cons (pe_tup (pa_cons (pv 7) (pa_cons (pv 8) (pa_cons (pe_op op_addD (pe_op op_sub (pe_ix ix_D (pv 4) (pv 8) (fun _ _ => rfl)) (pe_ix ix_D (pv 4) (pv 7) (fun _ _ => rfl))) (pv 9)) pa_nil)))) pa_nil)))
      (pss_one (ps_if (pt_cmpR (op_eqD hr.units) (pe_callC c__law_draw hr (by decide) rfl (pa_cons (pv 0) (pa_cons pe_int pa_nil))) pe_int (nomark _)) (pss_one (ps_expr (pe_bm PySem.F.plainAttrs_list PySem.F.slot_list_append PySem.F.type_list_append mt_append (pv 5) (pa_cons (pe_ix ix_D (pv 5) (pe_callC c__law_draw hr (by decide) rfl (pa_cons (pv 0) (pa_cons (pe_callB call_lenD rfl T.n_len PySem.boot_len (pa_cons (pv 5) pa_nil)) pa_nil))) (fun _ _ => rfl)) pa_nil)))) pss_nil)))))))
      (pss_one (ps_ret (pe_tup (pa_cons (pv 3) (pa_cons (pv 5) pa_nil))))))))), ?_⟩
    -- count
    refine ⟨_, rfl, _, rfl, addI ⟨q, _, m, rfl, pu, by omega, by omega, by omega, fun n H1 n0 n1 pu1 sm1 => ?_⟩⟩
    -- high
    refine ⟨_, rfl, n, rfl, by omega, by omega, lc_range (by rw [PySem.sizeLine_eq]; omega) (fun i acc H' => ∃ hs : List Int, acc = hs.map V.int ∧ hs.length = i ∧ (∀ x ∈ hs, -100000000 ≤ x ∧ x ≤ 100000000) ∧ Pu H' q (m + 4 + 8 * i) ∧ SameX (But q) H H')
      ⟨[], rfl, rfl, fun x hx => by simp at hx, by simpa using pu1, sm1⟩ (fun i acc H' _ ⟨hs, e, l, _⟩ => by rw [e, List.length_map, l]; exact Nat.le_refl _) ?_ ?_⟩
    · rintro i acc H' N hi ⟨hs, rfl, hl, hb, pu', sm'⟩ go
      refine ⟨_, rfl, _, _, rfl, rfl, ⟨by decide, by decide, by decide⟩, q, _, _, rfl, pu', by omega, by decide, by decide, fun r H2 r0 r1 pu2 sm2 => ?_⟩
      rw [pow8] at r0 r1
      refine go _ _ ⟨hs ++ [r], by simp, by simp [hl], fun x hx => ?_, ?_, sm'.trans sm2⟩
      · rcases List.mem_append.mp hx with hx | hx
        · exact hb x hx
        · rw [List.mem_singleton.mp hx]; exact ⟨r0, r1⟩
      · refine pu2.mono ?_
        omega
    · rintro acc H2 l ⟨hs, rfl, hl, hb, pu2, sm2⟩ hl2
      have nl : l ≠ q := pu2.ne hl2
      have sm2' : SameX (But q) H (upd H2 l (.lst (hs.map V.int))) := sm2.trans (SameX.new hl2)
      have pu2' : Pu (upd H2 l (.lst (hs.map V.int))) q (m + 200) := (pu2.same (Same.new hl2)).mono (by omega)
      have hL : (upd H2 l (.lst (hs.map V.int))) l = some (.lst (hs.map V.int)) := upd_same
      generalize upd H2 l (.lst (hs.map V.int)) = H3 at *
      -- roads = []
      refine ⟨Nat.zero_le _, fun f hf => ?_⟩
      have nf : f ≠ q := pu2'.ne hf
      have nfl : f ≠ l := fun e => by rw [e, hL] at hf; cases hf
      have hfH : H f = none := sm2'.back hf nf
      have sm3 : SameX (But q) H (upd H3 f (.lst [])) := sm2'.trans (SameX.new hf)
      have pu3 : Pu (upd H3 f (.lst [])) q (m + 200) := pu2'.same (Same.new hf)
      have hL3 : (upd H3 f (.lst [])) l = some (.lst (hs.map V.int)) := by rw [upd_ne nfl.symm]; exact hL
      have hF3 : (upd H3 f (.lst [])) f = some (.lst []) := upd_same
      generalize upd H3 f (.lst []) = H4 at *
      -- for
      refine ⟨_, rfl, _, rfl, addI ⟨q, _, _, rfl, pu3, by omega, by omega, by omega, fun t H5 t0 t1 pu5 sm5 => ⟨_, rfl, _, _, rfl, rfl, .inr ⟨_, rfl, mulI (.inl ⟨by omega, by omega⟩) ?_⟩⟩⟩⟩
      have hT : ∃ T : Nat, t * (if decide (0 < n) = true then (1 : Int) else 0) = T ∧ T ≤ many ∧ (0 < T → 0 < n) := by
        by_cases hn : 0 < n
        · rw [if_pos (decide_eq_true hn)]; exact ⟨t.toNat, by omega, by omega, fun _ => hn⟩
        · rw [if_neg (by simpa using hn)]; exact ⟨0, by omega, by omega, fun z => absurd z (by omega)⟩
      obtain ⟨T', eT, hT1, hT2⟩ := hT
      have eT' : ((fun i j => V.int (i * j)) t (if decide (0 < n) = true then (1 : Int) else 0)) = V.int T' := by rw [← eT]
      refine ⟨(T' : Int), by rw [← eT], by omega, by omega, ?_⟩
      refine for_range (lo := 0) (fun i σ H' => ∃ (rs : List Road) (ts : List V) (z1 z2 z3 z4 : Option V), σ = [some (.ref q), some (.int most), some (.int many), some (.int n), some (.ref l), some (.ref f), z1, z2, z3, z4] ∧
        H' f = some (.lst ts) ∧ Dns H' (fun a => a = q ∨ a = f) ts (rs.map roadD) ∧ H' l = some (.lst (hs.map V.int)) ∧ rs.length ≤ 2 * i ∧ (∀ r ∈ rs, RoadB n 300000000 r) ∧ Pu H' q (m + 300 + 40 * i) ∧ SameX (But q) H H')
        ⟨[], [], _, _, _, _, rfl, sm5 _ _ hF3 nf, .nil, sm5 _ _ hL3 nl, by simp, fun r hr => by simp at hr, pu5.mono (by omega), sm3.trans sm5⟩ ?_ ?_
      · rintro i σ H' hi ⟨rs, ts, z1, z2, z3, z4, rfl, hF, hD, hL', hlen, hrd, puI, smI⟩
        have hn : 0 < n := hT2 (by omega)
        refine ⟨_, rfl, _, rfl, q, n, _, rfl, puI, by omega, by omega, by omega, fun a H6 a0 a1 pu6 sm6 => ?_⟩
        refine ⟨_, rfl, _, rfl, q, n, _, rfl, pu6, by omega, by omega, by omega, fun b H7 b0 b1 pu7 sm7 => ?_⟩
        refine ⟨_, rfl, q, 4, _, rfl, pu7, by omega, by decide, by decide, fun c1 H8 c0 c1' pu8 sm8 => ?_⟩
        refine ⟨_, rfl, _, _, rfl, rfl, ⟨by decide, by decide, by decide⟩, q, _, _, rfl, pu8, by omega, by decide, by decide, fun c2 H9 c20 c21 pu9 sm9 => ?_⟩
        refine ⟨(by show 4 ≤ sizeLine; decide), fun sl hsl => ?_⟩
        have nsl : sl ≠ q := pu9.ne hsl
        refine ⟨_, rfl, q, 4, _, rfl, pu9.same (Same.new hsl), by omega, by decide, by decide, fun d H10 d0 d1 pu10 sm10 => ?_⟩
        have hsl10 : H10 sl = some (.lst [.int 0, .int 0, .int c1, .int c2]) := sm10 _ _ upd_same nsl
        obtain ⟨s, hs1, hs2⟩ := pick4 (x := 0) (y := 0) (z := c1) (u := c2) d0 d1
        have s0 : 0 ≤ s ∧ s ≤ 100000000 := by
          have e8 : (10 : Int) ^ (Int.toNat 8) = 100000000 := by decide
          rw [e8] at c21
          rcases hs2 with z | z | z | z <;> omega
        have S : SameX (But q) H' H10 := (((((sm6.trans sm7).trans sm8).trans sm9).trans (SameX.new hsl)).trans sm10)
        refine ixR hsl10 hs1 ?_
        have hF10 := S _ _ hF nf
        have hL10 := S _ _ hL' nl
        have hD10 := hD.mono (S.sub fun a z => Or.inl z)
        obtain ⟨x1, e1, m1⟩ := at_intsV (hs := hs) b0 (by omega)
        obtain ⟨x2, e2, m2⟩ := at_intsV (hs := hs) a0 (by omega)
        -- roads.append
        refine ⟨_, rfl, .inl ⟨rfl, _, SqL.of hF10⟩, _, rfl, _, rfl, _, rfl, _, rfl, ixR hL10 e1 ⟨_, rfl, _, rfl, ixR hL10 e2 ⟨_, _, rfl, rfl, _, rfl, addI ⟨(by show 3 ≤ sizeLine; decide), fun tt ht => ?_⟩⟩⟩⟩
        have ntq : tt ≠ q := pu10.ne ht
        have ntf : tt ≠ f := fun e => by rw [e, hF10] at ht; cases ht
        refine ⟨f, ts, _, rfl, rfl, by rw [upd_ne ntf.symm]; exact hF10, ?_, ?_⟩
        · rw [hD.length, List.length_map]
          exact small1000 (by omega)
        have hbd1 := hb x1 m1
        have hbd2 := hb x2 m2
        have R : RoadB n 300000000 (a, b, x1 - x2 + s) := ⟨⟨a0, a1⟩, ⟨b0, b1⟩, by show -300000000 ≤ x1 - x2 + s; omega, by show x1 - x2 + s ≤ 300000000; omega⟩
        have dt : Dn (upd H10 tt (.tup [.int a, .int b, .int (x1 - x2 + s)])) (fun z => z = q ∨ z = f) (.ref tt) (roadD (a, b, x1 - x2 + s)) :=
          Dn.newT ht (fun z => z.elim ntq ntf) (.cons (.int _) (.cons (.int _) (.cons (.int _) .nil)))
        have S11 : SameX (fun z => z = q ∨ z = f) (upd H10 tt (.tup [.int a, .int b, .int (x1 - x2 + s)])) (upd (upd H10 tt (.tup [.int a, .int b, .int (x1 - x2 + s)])) f (.lst (ts ++ [.ref tt]))) := SameX.put (.inr rfl)
        have D11 : Dns (upd (upd H10 tt (.tup [.int a, .int b, .int (x1 - x2 + s)])) f (.lst (ts ++ [.ref tt]))) (fun z => z = q ∨ z = f) (ts ++ [.ref tt]) ((rs ++ [(a, b, x1 - x2 + s)]).map roadD) := by
          rw [List.map_append]
          exact ((hD10.mono (SameX.new ht)).app (.cons dt .nil)).mono S11
        have H11q : SameX (But q) H (upd (upd H10 tt (.tup [.int a, .int b, .int (x1 - x2 + s)])) f (.lst (ts ++ [.ref tt]))) := fun z o e nz => by
          rw [upd_ne (fun ez => by rw [ez, hfH] at e; cases e)]
          exact SameX.new ht z o ((smI.trans S) z o e nz) nz
        have pu11 : Pu (upd (upd H10 tt (.tup [.int a, .int b, .int (x1 - x2 + s)])) f (.lst (ts ++ [.ref tt]))) q (m + 300 + 40 * i + 20) := by
          obtain ⟨u1, u2, u3, g1, g2⟩ := (pu10.same (Same.new (o := .tup [.int a, .int b, .int (x1 - x2 + s)]) ht)).mono (show _ ≤ m + 300 + 40 * i + 20 by omega)
          exact ⟨u1, u2, u3, by rw [upd_ne nf.symm]; exact g1, g2⟩
        have hL11 : (upd (upd H10 tt (.tup [.int a, .int b, .int (x1 - x2 + s)])) f (.lst (ts ++ [.ref tt]))) l = some (.lst (hs.map V.int)) := by
          rw [upd_ne nfl.symm]
          exact Same.new ht _ _ hL10
        have hF11 : (upd (upd H10 tt (.tup [.int a, .int b, .int (x1 - x2 + s)])) f (.lst (ts ++ [.ref tt]))) f = some (.lst (ts ++ [.ref tt])) := upd_same
        have hrd' : ∀ r ∈ rs ++ [(a, b, x1 - x2 + s)], RoadB n 300000000 r := fun r hr => by
          rcases List.mem_append.mp hr with hr | hr
          · exact hrd r hr
          · rw [List.mem_singleton.mp hr]; exact R
        generalize upd (upd H10 tt (.tup [.int a, .int b, .int (x1 - x2 + s)])) f (.lst (ts ++ [.ref tt])) = H11 at *
        -- once more
        refine ⟨_, rfl, q, 8, _, rfl, pu11, by omega, by decide, by decide, fun e H12 e0 e1' pu12 sm12 => eqI ⟨_, rfl, ?_⟩⟩
        have hF12 := sm12 _ _ hF11 nf
        have D12 := D11.mono (sm12.sub fun a z => Or.inl z)
        have hl12 : (ts ++ [V.ref tt]).length = rs.length + 1 := by rw [List.length_append, hD.length, List.length_map]; rfl
        refine ite2 (fun _ => ?_) (fun _ => ?_)
        · refine ⟨_, rfl, .inl ⟨rfl, _, SqL.of hF12⟩, _, rfl, _, rfl, _, rfl, lenR hF12 ⟨q, _, _, rfl, pu12, by omega, by omega, by rw [hl12]; omega, fun g H13 g0 g1 pu13 sm13 => ?_⟩⟩
          have hF13 := sm13 _ _ hF12 nf
          have D13 := D12.mono (sm13.sub fun a z => Or.inl z)
          obtain ⟨y, ey, gy⟩ := atI_in (xs := ts ++ [V.ref tt]) g0 g1
          obtain ⟨dy, hdy, dny⟩ := D13.getV gy
          obtain ⟨ry, hry, rfl, mry⟩ := get_road hdy
          refine ixR hF13 ey ⟨f, _, y, rfl, rfl, hF13, ?_, ?_⟩
          · rw [hl12]; exact small1000 (by omega)
          refine ⟨rs ++ [(a, b, x1 - x2 + s)] ++ [ry], ts ++ [.ref tt] ++ [y], _, _, _, _, rfl, upd_same, ?_, ?_, ?_, ?_, ?_, ?_⟩
          · rw [List.map_append]
            exact (D13.app (.cons dny .nil)).mono (SameX.put (.inr rfl))
          · rw [upd_ne nfl.symm]
            exact sm13 _ _ (sm12 _ _ hL11 nl) nl
          · simp only [List.length_append, List.length_singleton]; omega
          · intro r hr
            rcases List.mem_append.mp hr with hr | hr
            · exact hrd' r hr
            · rw [List.mem_singleton.mp hr]; exact hrd' ry mry
          · obtain ⟨u1, u2, u3, g1, g2⟩ := pu13.mono (show _ ≤ m + 300 + 40 * (((i + 1 : Nat)) : Int) by omega)
            exact ⟨u1, u2, u3, by rw [upd_ne nf.symm]; exact g1, g2⟩
          · intro z o e nz
            rw [upd_ne (fun ez => by rw [ez, hfH] at e; cases e)]
            exact ((H11q.trans sm12).trans sm13) z o e nz
        · refine ⟨rs ++ [(a, b, x1 - x2 + s)], ts ++ [.ref tt], _, _, _, _, rfl, hF12, D12, sm12 _ _ hL11 nl, ?_, hrd', pu12.mono (by omega), H11q.trans sm12⟩
          simp only [List.length_append, List.length_singleton]; omega
      · rintro σ H' ⟨rs, ts, z1, z2, z3, z4, rfl, hF, hD, hL', hlen, hrd, puI, smI⟩
        refine ⟨_, rfl, _, rfl, (by show 2 ≤ sizeLine; decide), fun g hg => ?_⟩
        have ng : g ≠ q := puI.ne hg
        refine k _ n rs _ ⟨n0, by omega, by omega, hrd⟩ ((puI.same (Same.new hg)).mono (by omega)) (smI.trans (SameX.new hg)) ?_
        exact Dn.newT hg ng (.cons (.int n) (.cons (Dn.ofL (P := fun a => a = q ∨ a = f) hF nf (fun a z => Or.inl z) hD) .nil))
end My

set_option Elab.async false
set_option linter.all false
set_option maxRecDepth 100000
set_option maxHeartbeats 4000000
namespace My
open PySem L2
/-! ### tables -/
abbrev Tab := List (List (Option Int))
def optD : Option Int → PyData
  | none => .none
  | some i => .int i
def optV : Option Int → V
  | none => .non
  | some i => .int i
def rowD (r : List (Option Int)) : PyData := .list (r.map optD)
def tabD (t : Tab) : PyData := .list (t.map rowD)
structure Shape (n : Nat) (t : Tab) : Prop where
  len : t.length = n
  row : ∀ r ∈ t, r.length = n
def cell (t : Tab) (i j : Nat) : Option Int := ((t[i]?.getD [])[j]?).getD none
structure Diag (n : Nat) (t : Tab) : Prop where
  sh : Shape n t
  dg : ∀ i, i < n → ∃ d, cell t i i = some d
theorem Shape.at {n : Nat} {t : Tab} (h : Shape n t) {i j : Nat} (hi : i < n) (hj : j < n) : ∃ r, t[i]? = some r ∧ r[j]? = some (cell t i j) ∧ r ∈ t := by
  have hi' : i < t.length := by rw [h.len]; exact hi
  refine ⟨t[i], by simp [hi'], ?_, List.getElem_mem hi'⟩
  have hj' : j < t[i].length := by rw [h.row _ (List.getElem_mem hi')]; exact hj
  unfold cell
  simp [hi', hj']
/-- rows[i] -/
theorem at_row {t : Tab} {i : Nat} {r : List (Option Int)} (h : t[i]? = some r) : atI (t.map rowD) (i : Int) = some (rowD r) := atI_nat (by rw [List.getElem?_map, h]; rfl)
theorem at_cell {r : List (Option Int)} {j : Nat} {c : Option Int} (h : r[j]? = some c) : atI (r.map optD) (j : Int) = some (optD c) := atI_nat (by rw [List.getElem?_map, h]; rfl)
theorem _root_.L2.Dn.opt {H : Hp} {P : Addr → Prop} {v : V} {c : Option Int} (h : Dn H P v (optD c)) : v = optV c := by
  cases c with
  | none => cases h; rfl
  | some i => cases h; rfl
/-- the addresses of P are in use -/
def Trk (P : Addr → Prop) (H : Hp) : Prop := ∀ a, P a → ∃ o, H a = some o
theorem Trk.ne {P : Addr → Prop} {H : Hp} (t : Trk P H) {l : Addr} (h : H l = none) : ¬ P l := fun z => by
  obtain ⟨o, e⟩ := t l z
  rw [h] at e; cases e
theorem Trk.same {P : Addr → Prop} {H H' : Hp} (t : Trk P H) (s : Same H H') : Trk P H' := fun a z => by
  obtain ⟨o, e⟩ := t a z
  exact ⟨o, s a o e⟩
theorem Pu.trk {H : Hp} {q : Addr} {m : Int} (p : Pu H q m) : Trk (But q) H := fun a z => by
  obtain ⟨_, _, _, h, _⟩ := p
  exact ⟨_, by rw [z]; exact h⟩
def spRing : Sp := fun vs H Q _ => ∃ (q : Addr) (v w : V) (m n : Int) (rs : List Road) (t : Tab), vs = [.ref q, v, w] ∧ Pu H q m ∧ m ≤ 2 ^ 48 ∧ Dn H (But q) v (netD n rs) ∧ NetOk n rs ∧ 1 ≤ n ∧ Dn H (But q) w (tabD t) ∧ Diag n.toNat t ∧
  ∀ (v' : V) (ws : List Int) (H' : Hp), AllIn rs ws → ws.length ≤ 12 → Pu H' q (m + 100) → SameX (But q) H H' → Dn H' (But q) v' (intsD ws) → Q v' H'
def spBent06 : Sp := fun vs H Q _ => ∃ (q : Addr) (w : V) (m : Int) (ws : List Int), vs = [.ref q, w] ∧ Pu H q m ∧ m ≤ 2 ^ 48 ∧ Dn H (But q) w (intsD ws) ∧ ws.length ≤ 100 ∧
  ∀ (v' : V) (ws' : List Int) (H' : Hp), ws'.length ≤ 500 → Pu H' q (m + 100) → SameX (But q) H H' → Dn H' (But q) v' (intsD ws') → Q v' H'
theorem cut_roads {rs : List Road} {lo hi : Option Int} : cutD (rs.map roadD) lo hi = (cutD rs lo hi).map roadD := cutD_map roadD rs lo hi
theorem roads_app (a b : List Road) : a.map roadD ++ b.map roadD = (a ++ b).map roadD := (List.map_append ..).symm
/-! ### lists of ints made anew -/
theorem addInts {H : Hp} {P P' : Addr → Prop} {x y : V} {a b : List Int} {Q : VK} (tr : Trk P H) (hx : Dn H P x (intsD a)) (hy : Dn H P' y (intsD b)) (hz : a.length + b.length ≤ 1000) (k : ∀ p H', Same H H' → Dn H' P (.ref p) (intsD (a ++ b)) → Q (.ref p) H') : rAddD x y H Q :=
  addL hx hy (line1000 (by rw [List.length_map, List.length_map]; exact hz)) fun p xs ys hp dx dy => k p _ (Same.new hp) (by
    rw [dx.ints, dy.ints, ← List.map_append]
    exact dn_ints (tr.ne hp) upd_same)
theorem slInts {H : Hp} {P : Addr → Prop} {x : V} {a : List Int} {lo hi : Option Int} {Q : VK} (tr : Trk P H) (hx : Dn H P x (intsD a)) (k : ∀ p H', Same H H' → Dn H' P (.ref p) (intsD (cutD a lo hi)) → Q (.ref p) H') : rSlD x lo hi H Q :=
  slD hx fun p ys hp dns => k p _ (Same.new hp) (by
    rw [cutD_map] at dns
    exact Dn.newL hp (tr.ne hp) dns)
theorem newInts {H : Hp} {P : Addr → Prop} {Q : VK} (ns : List Int) (tr : Trk P H) (hz : ns.length ≤ 1000) (k : ∀ p H', Same H H' → Dn H' P (.ref p) (intsD ns) → Q (.ref p) H') : (ns.map V.int).length ≤ sizeLine ∧ ∀ p, H p = none → Q (.ref p) (upd H p (.lst (ns.map V.int))) :=
  ⟨line1000 (by rw [List.length_map]; exact hz), fun p hp => k p _ (Same.new hp) (dn_ints (tr.ne hp) upd_same)⟩
theorem fm_ints {α : Type} (f : α → Option PyData) (R : Int → Prop) : ∀ (L : List α), (∀ x ∈ L, ∀ e, f x = some e → ∃ k, e = .int k ∧ R k) → ∃ ks : List Int, L.filterMap f = ks.map PyData.int ∧ (∀ k ∈ ks, R k) ∧ ks.length ≤ L.length
  | [], _ => ⟨[], rfl, fun _ h => by simp at h, Nat.le_refl _⟩
  | x :: L, h => by
    obtain ⟨ks, e, hk, hl⟩ := fm_ints f R L fun y hy => h y (List.mem_cons_of_mem _ hy)
    rw [List.filterMap_cons]
    cases q : f x with
    | none => exact ⟨ks, e, hk, by simp; omega⟩
    | some d =>
      obtain ⟨k, rfl, hr⟩ := h x List.mem_cons_self d q
      refine ⟨k :: ks, by simp [e], fun j hj => ?_, by simp; omega⟩
      rcases List.mem_cons.mp hj with rfl | hj
      · exact hr
      · exact hk j hj
theorem Trk.put {P : Addr → Prop} {H H' : Hp} (t : Trk P H) (h : ∀ a o, H a = some o → ∃ o', H' a = some o') : Trk P H' := fun a z => by
  obtain ⟨o, e⟩ := t a z
  exact h a o e
/-- the numbers of the roads that begin at p -/
def fromF (p : Int) : Nat × PyData → Option PyData := fun x => match x.2 with
  | .tuple [.int a, .int _, .int _] => if a = p then some (.int x.1) else none
  | _ => none
def toF (rs : List Road) (b : Int) : Int → Option PyData := fun k => match roadAt rs k with
  | some r => if r.2.1 = b then some (.int k) else none
  | none => none
theorem pick6 {a b c d e g : Int} {r : Int} (h0 : 0 ≤ r) (h1 : r < 6) : ∃ w, atI [V.int a, .int b, .int c, .int d, .int e, .int g] r = some (.int w) := by
  have : r = 0 ∨ r = 1 ∨ r = 2 ∨ r = 3 ∨ r = 4 ∨ r = 5 := by omega
  rcases this with rfl | rfl | rfl | rfl | rfl | rfl
  · exact ⟨a, rfl⟩
  · exact ⟨b, rfl⟩
  · exact ⟨c, rfl⟩
  · exact ⟨d, rfl⟩
  · exact ⟨e, rfl⟩
  · exact ⟨g, rfl⟩
end My

set_option Elab.async false
set_option linter.all false
set_option maxRecDepth 100000
set_option maxHeartbeats 4000000
namespace My
open PySem L2
theorem ok__law_any {P : Program} {w : World} {K : PySem.W.Frag} {mg : Str → Option Value} {base : Heap} (T : Tx K mg) : Callee P w K mg base "_law_any" ["_law_purse_here", "_law_most", "_law_many"] 5 spAny := by
  have c__law_net := ok__law_net (P := P) (w := w) (base := base) T
  have c__law_draw := ok__law_draw (P := P) (w := w) (base := base) T
  refine callee_of T.d__law_any (fun _ _ _ _ _ _ us hl => match us, hl with | [_, _, _], _ => rfl) sc__law_any (fun vs H Q E h => ?_) (fun f cdv A outer s H vs Q E hr h => ?_)
  · obtain ⟨q, most, many, m, rfl, _⟩ := h; rfl
  · obtain ⟨q, most, many, m, rfl, pu, hm, hmost, hmany, k⟩ := h
    refine ⟨_, (pss_cons (ps_asg (pe_callC c__law_net hr (by decide) rfl (pa_cons (pv 0) (pa_cons (pv 1) (pa_cons (pv 2) pa_nil)))) (pg_tupD (n := 2) rfl (pgs_cons (pg_name (i := 3) sc__law_any.nd rfl (Or.inl rfl)) (pgs_cons (pg_name (i := 4) sc__law_any.nd rfl (Or.inl rfl)) pgs_nil))))
      (pss_cons (ps_if (PW.pt (pw_or (pt_cmpR (op_eqD hr.units) (pv 4) (pe_lst pa_nil) (nomark _)) (pw_or1 (pt_cmpR (op_eqD hr.units) (pe_callC c__law_draw hr (by decide) rfl (pa_cons (pv 0) (pa_cons pe_int pa_nil))) pe_int (nomark _))))) (pss_one (ps_ret (pe_tup (pa_cons (pv 3) (pa_cons (pv 4) pa_nil))))) pss_nil)
      (pss_cons (ps_set (i := 5) sc__law_any.nd rfl (Or.inl rfl) (pe_callC c__law_draw hr (by decide) rfl (pa_cons (pv 0) (pa_cons (pe_callB call_lenD rfl T.n_len PySem.boot_len (pa_cons (pv 4) pa_nil)) pa_nil))))
      (pss_cons (ps_asg (pe_ix ix_D (pv 4) (pv 5) (fun _ _ => rfl)) (pg_tupD (n := 3) rfl (pgs_cons (pg_name (i := 6) sc__law_any.nd rfl (Or.inl rfl)) (pgs_cons (pg_name (i := 7) sc__law_any.nd rfl (Or.inl rfl)) (pgs_cons (pg_name (i := 8) sc__law_any.nd rfl (Or.inl rfl)) pgs_nil)))))
      (pss_cons (ps_set (i := 9) sc__law_any.nd rfl (Or.inl rfl) (pe_ix ix_D (pe_lst (pa_cons pe_int (pa_cons pe_int (pa_cons (pe_callC c__law_draw hr (by decide) rfl (pa_cons (pv 0) (pa_cons pe_int pa_nil))) (pa_cons (pe_callC c__law_draw hr (by decide) rfl (pa_cons (pv 0) (pa_cons (pe_op op_pow pe_int pe_int) pa_nil))) pa_nil))))) (pe_callC c__law_draw hr (by decide) rfl (pa_cons (pv 0) (pa_cons pe_int pa_nil))) (fun _ _ => rfl)))
      (pss_one (ps_ret (pe_tup (pa_cons (pv 3) (pa_cons (pe_op op_addD (pe_op op_addD (pe_slice sl_D (pv 4) po_none (po_some (pv 5))) (pe_lst (pa_cons (pe_tup (pa_cons (pv 6) (pa_cons (pv 7) (pa_cons (pe_op op_sub (pv 8) (pv 9)) pa_nil)))) pa_nil))) (pe_slice sl_D (pv 4) (po_some (pe_op op_addD (pv 5) pe_int)) po_none)) pa_nil)))))))))), ?_⟩
    refine ⟨_, rfl, _, rfl, _, rfl, q, most, many, m, rfl, pu, by omega, hmost, hmany, fun v n rs H1 nb pu1 sm1 dn => ?_⟩
    obtain ⟨a, l, rfl, na, ha, hl⟩ := dn.net
    refine ⟨a, _, rfl, ha, rfl, _, _, rfl, _, _, rfl, rfl, ?_⟩
    have hlen := nb.len
    have ret : ∀ H2, Pu H2 q (m + 2050) → SameX (But q) H H2 → Dn H2 (But q) (.ref l) (roadsD rs) → ∀ g, H2 g = none → Q (.ref g) (upd H2 g (.tup [.int n, .ref l])) := fun H2 pu2 sm2 hl2 g hg =>
      k _ n rs _ (nb.mono (Nat.le_refl _) (by omega) (by decide)) ((pu2.same (Same.new hg)).mono (by omega)) (sm2.trans (SameX.new hg)) (Dn.newT hg (pu2.ne hg) (.cons (.int n) (.cons hl2 .nil)))
    dsimp only
    refine seq_by (t := tIfS _ _ _) (fun σ' H' => ∃ r rs', rs = r :: rs' ∧ σ' = [some (.ref q), some (.int most), some (.int many), some (.int n), some (.ref l), none, none, none, none, none] ∧ Pu H' q (m + 2050) ∧ SameX (But q) H H' ∧ Dn H' (But q) (.ref l) (roadsD rs)) (fun U go => ?_) ?_
    · refine ⟨_, rfl, Nat.zero_le _, fun p hp => ?_⟩
      have np : p ≠ q := pu1.ne hp
      have pu2 := (pu1.same (Same.new (o := .lst []) hp)).mono (show m + 2000 ≤ m + 2010 by omega)
      have sm2 := sm1.trans (SameX.new (P := But q) (o := .lst []) hp)
      have hl2 := hl.mono (SameX.new (P := But q) (o := .lst []) hp)
      refine eqD hl2 (Dn.newL (P := But q) hp np .nil) (Lay.roads rs).shaped (by rfl) ⟨_, rfl, ?_⟩
      unfold roadsD
      rw [eqv_nil]
      cases rs with
      | nil => exact ⟨_, rfl, _, rfl, (by show 2 ≤ sizeLine; decide), fun g hg => ret _ (pu2.mono (by omega)) sm2 hl2 g hg⟩
      | cons r rs =>
        refine ite_f rfl ?_
        refine ⟨_, rfl, q, 2, _, rfl, pu2, by omega, by decide, by decide, fun e H3 e0 e1 pu3 sm3 => eqI ⟨_, rfl, ?_⟩⟩
        refine ite2 (fun _ => ?_) (fun _ => ?_)
        · exact ⟨_, rfl, _, rfl, (by show 2 ≤ sizeLine; decide), fun g hg => ret _ (pu3.mono (by omega)) (sm2.trans sm3) (hl2.mono sm3) g hg⟩
        · exact go _ _ ⟨r, rs, rfl, rfl, pu3.mono (by omega), sm2.trans sm3, hl2.mono sm3⟩
    · rintro _ H2 ⟨r0, rs0, ers, rfl, pu2, sm2, hl2⟩
      have hpos : 0 < rs.length := by rw [ers]; exact Nat.succ_pos _
      refine ⟨_, rfl, _, rfl, lenL hl2 ⟨q, _, _, rfl, pu2, by omega, by rw [List.length_map]; omega, by rw [List.length_map]; omega, fun g H3 g0 g1 pu3 sm3 => ?_⟩⟩
      rw [List.length_map] at g1
      have hl3 := hl2.mono sm3
      obtain ⟨r, hr1, hr2⟩ := roadAt_in g0 g1
      refine ⟨_, rfl, _, rfl, ixL hl3 (at_road hr1) fun v1 hv1 => ?_⟩
      obtain ⟨ra, rfl, _, hra⟩ := hv1.road
      refine ⟨ra, _, rfl, hra, rfl, _, _, rfl, _, _, rfl, _, _, rfl, rfl, ?_⟩
      -- less
      refine ⟨_, rfl, q, 10, _, rfl, pu3, by omega, by decide, by decide, fun c1 H4 c10 c11 pu4 sm4 => ?_⟩
      refine ⟨_, rfl, _, _, rfl, rfl, ⟨by decide, by decide, by decide⟩, q, _, _, rfl, pu4, by omega, by decide, by decide, fun c2 H5 c20 c21 pu5 sm5 => ?_⟩
      refine ⟨(by show 4 ≤ sizeLine; decide), fun sl hsl => ?_⟩
      have nsl : sl ≠ q := pu5.ne hsl
      refine ⟨_, rfl, q, 4, _, rfl, pu5.same (Same.new hsl), by omega, by decide, by decide, fun d H6 d0 d1 pu6 sm6 => ?_⟩
      have hsl6 : H6 sl = some (.lst [.int 1, .int 2, .int c1, .int c2]) := sm6 _ _ upd_same nsl
      obtain ⟨s, hs1, hs2⟩ := pick4 (x := 1) (y := 2) (z := c1) (u := c2) d0 d1
      have s0 : 0 ≤ s ∧ s ≤ 100000000 := by
        have e8 : (10 : Int) ^ (Int.toNat 8) = 100000000 := by decide
        rw [e8] at c21
        rcases hs2 with z | z | z | z <;> omega
      refine ixR hsl6 hs1 ?_
      have S6 : SameX (But q) H3 H6 := ((sm4.trans sm5).trans (SameX.new hsl)).trans sm6
      have hl6 := hl3.mono S6
      have smT := (sm2.trans sm3).trans S6
      obtain ⟨hb1, hb2, hb3⟩ := nb.rd r (roadAt_mem hr1)
      -- the answer
      refine ⟨_, rfl, _, rfl, _, rfl, g, rfl, slD hl6 fun p1 ys1 hp1 dn1 => ?_⟩
      rw [cut_roads] at dn1
      have np1 : p1 ≠ q := pu6.ne hp1
      have D1 : Dn (upd H6 p1 (.lst ys1)) (But q) (.ref p1) (roadsD (cutD rs none (some g))) := Dn.newL hp1 np1 dn1
      have smA := smT.trans (SameX.new (P := But q) (o := .lst ys1) hp1)
      have puA := pu6.same (Same.new (o := .lst ys1) hp1)
      have hlA := hl6.mono (SameX.new (P := But q) (o := .lst ys1) hp1)
      generalize upd H6 p1 (.lst ys1) = HA at *
      refine ⟨_, rfl, _, rfl, _, rfl, _, rfl, _, _, rfl, rfl, (by show 3 ≤ sizeLine; decide), fun t ht => ⟨(by show 1 ≤ sizeLine; decide), fun p2 hp2 => ?_⟩⟩
      have D2 : Dn (upd HA t (.tup [.int r.1, .int r.2.1, .int (r.2.2 - s)])) (But q) (.ref t) (roadD (r.1, r.2.1, r.2.2 - s)) := Dn.newT ht (puA.ne ht) (.cons (.int _) (.cons (.int _) (.cons (.int _) .nil)))
      have smB := smA.trans (SameX.new (P := But q) (o := .tup [.int r.1, .int r.2.1, .int (r.2.2 - s)]) ht)
      have puB := puA.same (Same.new (o := .tup [.int r.1, .int r.2.1, .int (r.2.2 - s)]) ht)
      have hlB := hlA.mono (SameX.new (P := But q) (o := .tup [.int r.1, .int r.2.1, .int (r.2.2 - s)]) ht)
      have D1B := D1.mono (SameX.new (P := But q) (o := .tup [.int r.1, .int r.2.1, .int (r.2.2 - s)]) ht)
      generalize upd HA t (.tup [.int r.1, .int r.2.1, .int (r.2.2 - s)]) = HB at *
      have D3 : Dn (upd HB p2 (.lst [.ref t])) (But q) (.ref p2) (roadsD [(r.1, r.2.1, r.2.2 - s)]) := Dn.newL hp2 (puB.ne hp2) (.cons D2 .nil)
      have smC := smB.trans (SameX.new (P := But q) (o := .lst [.ref t]) hp2)
      have puC := puB.same (Same.new (o := .lst [.ref t]) hp2)
      have hlC := hlB.mono (SameX.new (P := But q) (o := .lst [.ref t]) hp2)
      have D1C := D1B.mono (SameX.new (P := But q) (o := .lst [.ref t]) hp2)
      generalize upd HB p2 (.lst [.ref t]) = HC at *
      have len1 := cutD_len rs none (some g)
      have len2 := cutD_len rs (some (g + 1)) none
      refine addL D1C D3 (line1000 (by rw [List.length_map, List.length_map]; show _ + 1 ≤ 1000; omega)) fun p3 xs ys hp3 dx dy => ?_
      have D4 : Dn (upd HC p3 (.lst (xs ++ ys))) (But q) (.ref p3) (roadsD (cutD rs none (some g) ++ [(r.1, r.2.1, r.2.2 - s)])) := by
        unfold roadsD
        rw [← roads_app]
        exact Dn.newL hp3 (puC.ne hp3) (dx.app dy)
      have smD := smC.trans (SameX.new (P := But q) (o := .lst (xs ++ ys)) hp3)
      have puD := puC.same (Same.new (o := .lst (xs ++ ys)) hp3)
      have hlD := hlC.mono (SameX.new (P := But q) (o := .lst (xs ++ ys)) hp3)
      generalize upd HC p3 (.lst (xs ++ ys)) = HD at *
      refine ⟨_, rfl, _, rfl, addI ⟨_, rfl, slD hlD fun p4 ys4 hp4 dn4 => ?_⟩⟩
      rw [cut_roads] at dn4
      have D5 : Dn (upd HD p4 (.lst ys4)) (But q) (.ref p4) (roadsD (cutD rs (some (g + 1)) none)) := Dn.newL hp4 (puD.ne hp4) dn4
      have smE := smD.trans (SameX.new (P := But q) (o := .lst ys4) hp4)
      have puE := puD.same (Same.new (o := .lst ys4) hp4)
      have D4E := D4.mono (SameX.new (P := But q) (o := .lst ys4) hp4)
      generalize upd HD p4 (.lst ys4) = HE at *
      refine addL D4E D5 (line1000 (by rw [List.length_map, List.length_map, List.length_append]; show _ + 1 + _ ≤ 1000; omega)) fun p5 xs5 ys5 hp5 dx5 dy5 => ?_
      have D6 : Dn (upd HE p5 (.lst (xs5 ++ ys5))) (But q) (.ref p5) (roadsD (cutD rs none (some g) ++ [(r.1, r.2.1, r.2.2 - s)] ++ cutD rs (some (g + 1)) none)) := by
        unfold roadsD
        rw [← roads_app]
        exact Dn.newL hp5 (puE.ne hp5) (dx5.app dy5)
      have smF := smE.trans (SameX.new (P := But q) (o := .lst (xs5 ++ ys5)) hp5)
      have puF := puE.same (Same.new (o := .lst (xs5 ++ ys5)) hp5)
      generalize upd HE p5 (.lst (xs5 ++ ys5)) = HF at *
      refine ⟨(by show 2 ≤ sizeLine; decide), fun p6 hp6 => ?_⟩
      refine k _ n (cutD rs none (some g) ++ [(r.1, r.2.1, r.2.2 - s)] ++ cutD rs (some (g + 1)) none) _ ⟨nb.n0, nb.n1, ?_, fun x hx => ?_⟩ ((puF.same (Same.new hp6)).mono (by omega)) (smF.trans (SameX.new hp6)) (Dn.newT hp6 (puF.ne hp6) (.cons (.int n) (.cons D6 .nil)))
      · rw [List.length_append, List.length_append]
        show _ + 1 + _ ≤ _
        omega
      · rcases List.mem_append.mp hx with hx | hx
        · rcases List.mem_append.mp hx with hx | hx
          · obtain ⟨a1, a2, a3⟩ := nb.rd x (cutD_mem hx)
            exact ⟨a1, a2, by omega, by omega⟩
          · rw [List.mem_singleton.mp hx]
            exact ⟨hb1, hb2, by show -400000000 ≤ r.2.2 - s; omega, by show r.2.2 - s ≤ 400000000; omega⟩
        · obtain ⟨a1, a2, a3⟩ := nb.rd x (cutD_mem hx)
          exact ⟨a1, a2, by omega, by omega⟩
end My

set_option Elab.async false
set_option linter.all false
set_option maxRecDepth 100000
set_option maxHeartbeats 4000000
namespace My
open PySem L2
theorem ok__law_ring {P : Program} {w : World} {K : PySem.W.Frag} {mg : Str → Option Value} {base : Heap} (T : Tx K mg) : Callee P w K mg base "_law_ring" ["_law_purse_here", "_law_net_here", "_law_rows"] 3 spRing := by
  have c__law_draw := ok__law_draw (P := P) (w := w) (base := base) T
  refine callee_of T.d__law_ring (fun _ _ _ _ _ _ us hl => match us, hl with | [_, _, _], _ => rfl) sc__law_ring (fun vs H Q E h => ?_) (fun f cdv A outer s H vs Q E hr h => ?_)
  · obtain ⟨q, v, w', m, n, rs, t, rfl, _⟩ := h; rfl
  · obtain ⟨q, v, w', m, n, rs, t, rfl, pu, hm, hd, ok, hn, hw, dg, k⟩ := h
    refine ⟨_, (pss_cons (ps_setLC (i := 3) sc__law_ring.nd rfl (Or.inl rfl) (N' := ["_law_k", "_law_rows"]) (js := [none, some 2]) rfl (pi_range1 rfl T.n_range (pa_cons (pe_ix ix_D (pv 1) pe_int (fun _ _ => rfl)) pa_nil)) (by kernel_rfl) (gk_name rfl) (by kernel_rfl) rfl (fun _ _ _ => ⟨(pg_name (i := 0) (show List.Nodup [("_law_k" : Str), ("_law_rows" : Str)] by decide +kernel) rfl (Or.inl rfl)), (pf_one (pt_cmpR op_lt (pe_ix ix_D (pe_ix ix_D (pv 1) (pv 0) (fun _ _ => rfl)) (pv 0) (fun _ _ => rfl)) pe_int (nomark _))), (pv 0)⟩))
      (pss_cons (ps_set (i := 4) sc__law_ring.nd rfl (Or.inr rfl) (pe_ix ix_D (pe_op op_addD (pv 3) (pe_lst (pa_cons (pe_callC c__law_draw hr (by decide) rfl (pa_cons (pv 0) (pa_cons (pe_ix ix_D (pv 1) pe_int (fun _ _ => rfl)) pa_nil))) pa_nil))) pe_int (fun _ _ => rfl)))
      (pss_cons (ps_set (i := 5) sc__law_ring.nd rfl (Or.inr rfl) (pv 4))
      (pss_cons (ps_set (i := 6) sc__law_ring.nd rfl (Or.inl rfl) (pe_lst pa_nil))
      (pss_cons (ps_for PassesOwn.never rfl (pi_range1 rfl T.n_range (pa_cons pe_int pa_nil)) (pg_name (i := 7) sc__law_ring.nd rfl (Or.inl rfl))
      (pss_cons (ps_setLC (i := 8) sc__law_ring.nd rfl (Or.inl rfl) (N' := ["_law_number_here", "_law_road", "_law_place"]) (js := [none, none, some 4]) rfl (pi_E rfl T.n_enumerate (pa_cons (pe_ix ix_D (pv 1) pe_int (fun _ _ => rfl)) pa_nil)) (by kernel_rfl) (gk_tup (gks2 rfl rfl)) (by kernel_rfl) rfl (fun _ _ _ => ⟨(pg_tupD (n := 2) rfl (pgs_cons (pg_name (i := 0) (show List.Nodup [("_law_number_here" : Str), ("_law_road" : Str), ("_law_place" : Str)] by decide +kernel) rfl (Or.inl rfl)) (pgs_cons (pg_name (i := 1) (show List.Nodup [("_law_number_here" : Str), ("_law_road" : Str), ("_law_place" : Str)] by decide +kernel) rfl (Or.inl rfl)) pgs_nil))), (pf_one (pt_cmpR (op_eqD hr.units) (pe_ix ix_D (pv 1) pe_int (fun _ _ => rfl)) (pv 2) (nomark _))), (pv 0)⟩))
      (pss_cons (ps_setLC (i := 9) sc__law_ring.nd rfl (Or.inl rfl) (N' := ["_law_number_here", "_law_net_here", "_law_begin"]) (js := [none, some 1, some 5]) rfl (pi_L (pv 8)) (by kernel_rfl) (gk_name rfl) (by kernel_rfl) rfl (fun _ _ _ => ⟨(pg_name (i := 0) (show List.Nodup [("_law_number_here" : Str), ("_law_net_here" : Str), ("_law_begin" : Str)] by decide +kernel) rfl (Or.inl rfl)), (pf_one (pt_cmpR (op_eqD hr.units) (pe_ix ix_D (pe_ix ix_D (pe_ix ix_D (pv 1) pe_int (fun _ _ => rfl)) (pv 0) (fun _ _ => rfl)) pe_int (fun _ _ => rfl)) (pv 2) (nomark _))), (pv 0)⟩))
      (pss_one (ps_if (pt_cmpR (op_neD hr.units) (pv 8) (pe_lst pa_nil) (nomark _)) (pss_cons (ps_expr (pe_bm PySem.F.plainAttrs_list PySem.F.slot_list_append PySem.F.type_list_append mt_append (pv 6) (pa_cons (pe_ix ix_D (pe_op op_addD (pv 9) (pv 8)) (pe_callC c__law_draw hr (by decide) rfl (pa_cons (pv 0) (pa_cons (pe_callB call_lenD rfl T.n_len PySem.boot_len (pa_cons (pv 8) pa_nil)) pa_nil))) (fun _ _ => rfl)) pa_nil)))
      (pss_cons (ps_set (i := 4) sc__law_ring.nd rfl (Or.inr rfl) (pe_ix ix_D (pe_ix ix_D (pe_ix ix_D (pv 1) pe_int (fun _ _ => rfl)) (pe_ix ix_D (pv 6) pe_negc (fun _ _ => rfl)) (fun _ _ => rfl)) pe_int (fun _ _ => rfl)))
      (pss_one (ps_if (pt_cmpR (op_eqD hr.units) (pv 4) (pv 5) (nomark _)) (pss_one (ps_ret (pv 6))) pss_nil)))) pss_nil)))))
      (pss_one (ps_ret (pv 6)))))))), ?_⟩
    have ok1 := ok.n1
    have okl := ok.len
    -- starts
    refine ⟨_, rfl, ixT hd rfl fun v0 hv0 => ?_⟩
    cases hv0
    refine ⟨n, rfl, by omega, by omega, lc_rangeD (P := But q) (fun i => match cell t i i with | some d => if d < 0 then some (.int (0 + (i : Int))) else none | none => none) (line1000 (by omega)) ?_ ?_⟩
    · intro i H' Ny Nn hi sm yes no
      obtain ⟨r, hr1, hr2, _⟩ := dg.sh.at hi hi
      obtain ⟨d, hdd⟩ := dg.dg i hi
      rw [hdd] at hr2
      have hw' := hw.mono (P := But q) sm.x
      refine ⟨_, rfl, _, rfl, ixL hw' (by rw [Int.zero_add]; exact at_row hr1) fun v1 hv1 => ⟨_, rfl, ixL hv1 (by rw [Int.zero_add]; exact at_cell hr2) fun v2 hv2 => ?_⟩⟩
      cases hv2
      refine ⟨_, _, rfl, rfl, _, rfl, ?_⟩
      refine ite2 (fun h0 => ?_) (fun h0 => ?_)
      · rw [decide_eq_true_iff] at h0
        exact ⟨_, rfl, yes _ H' _ (Same.refl _) (by rw [hdd]; exact if_pos h0) (.int _)⟩
      · rw [decide_eq_true_iff] at h0
        exact no H' (Same.refl _) (by rw [hdd]; exact if_neg h0)
    · intro st H1 ys sm1 hst dns
      obtain ⟨ss, es, hss, lss⟩ := fm_ints (fun i => match cell t i i with | some d => if d < 0 then some (.int (0 + (i : Int))) else none | none => none) (fun x => 0 ≤ x ∧ x < n) (List.range n.toNat) (fun i hi e he => by
        have hi' := List.mem_range.mp hi
        cases hc : cell t i i with
        | none => rw [hc] at he; cases he
        | some d =>
          rw [hc] at he
          simp only at he
          split at he
          · cases he; exact ⟨_, rfl, by omega, by omega⟩
          · cases he)
      rw [es] at dns
      have Dst : Dn (upd H1 st (.lst ys)) (But q) (.ref st) (intsD ss) := Dn.newL hst ((pu.same sm1).ne hst) dns
      have smA : SameX (But q) H (upd H1 st (.lst ys)) := sm1.x.trans (SameX.new hst)
      have puA : Pu (upd H1 st (.lst ys)) q m := (pu.same sm1).same (Same.new hst)
      generalize upd H1 st (.lst ys) = HA at *
      rw [List.length_range] at lss
      -- place
      refine ⟨_, rfl, _, rfl, _, rfl, ixT (hd.mono smA) rfl fun v0 hv0 => ?_⟩
      cases hv0
      refine ⟨q, n, m, rfl, puA, by omega, by omega, by omega, fun r HB r0 r1 puB smB => ?_⟩
      refine ⟨(by show 1 ≤ sizeLine; decide), fun p hp => ?_⟩
      have DC : Dn (upd HB p (.lst [.int r])) (But q) (.ref p) (intsD [r]) := dn_ints (ns := [r]) (puB.ne hp) upd_same
      have smC : Same HB (upd HB p (.lst [.int r])) := Same.new hp
      generalize upd HB p (.lst [.int r]) = HC at *
      have puC := puB.same smC
      refine addInts puC.trk ((Dst.mono smB).mono smC.x) DC (by simp; omega) fun p2 HD smD DD => ?_
      have puD := puC.same smD
      obtain ⟨bg, rest, ebg, hbg⟩ : ∃ bg rest, ss ++ [r] = bg :: rest ∧ 0 ≤ bg ∧ bg < n := by
        cases ss with
        | nil => exact ⟨r, [], rfl, r0, r1⟩
        | cons x xs => exact ⟨x, xs ++ [r], rfl, (hss x List.mem_cons_self).1, (hss x List.mem_cons_self).2⟩
      rw [ebg] at DD
      refine ixL DD (atI_zero _ _) fun v0 hv0 => ?_
      cases hv0
      refine ⟨_, rfl, ?_⟩
      have smX : SameX (But q) H HD := (smA.trans smB).trans (smC.trans smD).x
      -- found = []
      refine ⟨Nat.zero_le _, fun f hf => ?_⟩
      have nf : f ≠ q := puD.ne hf
      have hfH : H f = none := smX.back hf nf
      -- for
      refine ⟨12, rfl, by decide, by decide, for_range (lo := 0) (fun i σ H' => ∃ (p : Int) (ws : List Int) (z1 z2 z3 : Option V), σ = [some (.ref q), some v, some w', some (.ref st), some (.int p), some (.int bg), some (.ref f), z1, z2, z3] ∧ 0 ≤ p ∧ p < n ∧
        H' f = some (.lst (ws.map V.int)) ∧ AllIn rs ws ∧ ws.length ≤ i ∧ Pu H' q (m + 20 + 4 * i) ∧ SameX (But q) H H')
        ⟨bg, [], _, _, _, rfl, hbg.1, hbg.2, upd_same, fun _ z => by simp at z, Nat.le_refl _, (puD.same (Same.new hf)).mono (by omega), smX.trans (SameX.new hf)⟩ ?_ ?_⟩
      · rintro i σ H' hi ⟨p, ws, z1, z2, z3, rfl, p0, p1, hF, hin, hlen, puI, smI⟩
        have hi12 : i < 12 := hi
        have hdI := hd.mono smI
        -- some
        refine ⟨_, rfl, ixT hdI rfl fun v1 hv1 => ?_⟩
        cases id hv1 with
        | @lst l ys0 _ nl hl' tl =>
        refine ⟨l, _, rfl, hl', lc_enumD (P := But q) (fromF p) hv1 (line1000 (by rw [List.length_map]; omega)) ?_ ?_⟩
        · intro j d x tt H2 Ny Nn hdj sm2 htt hdn yes no
          obtain ⟨r', hj, rfl, hmem⟩ := get_road hdj
          have s3 : Same H2 (upd H2 tt (.tup [.int j, x])) := Same.new htt
          refine ⟨tt, _, rfl, upd_same, rfl, _, _, rfl, _, _, rfl, rfl, ?_⟩
          refine ⟨_, rfl, ixT (hdn.mono s3.x) rfl fun v2 hv2 => ?_⟩
          cases hv2
          refine ⟨_, rfl, eqI ⟨_, rfl, ?_⟩⟩
          refine ite2 (fun h0 => ?_) (fun h0 => ?_)
          · rw [decide_eq_true_iff] at h0
            exact ⟨_, rfl, yes _ _ _ s3 (show (if r'.1 = p then some (PyData.int j) else none) = some (.int j) from if_pos h0) (.int _)⟩
          · rw [decide_eq_true_iff] at h0
            exact no _ s3 (show (if r'.1 = p then some (PyData.int j) else none) = none from if_neg h0)
        · intro sm' H2 ys2 s2 hsm' dns2
          obtain ⟨so, eso, hso, lso⟩ := fm_ints (fromF p) (fun x => 0 ≤ x ∧ x < rs.length) ((List.range (rs.map roadD).length).zip (rs.map roadD)) (fun x hx e he => by
            have hx1 := List.mem_range.mp (List.of_mem_zip hx).1
            rw [List.length_map] at hx1
            unfold fromF at he
            split at he
            · split at he
              · cases he; exact ⟨_, rfl, by omega, by omega⟩
              · cases he
            · cases he)
          rw [eso] at dns2
          have puS := (puI.same s2).same (Same.new (o := .lst ys2) hsm')
          have DS : Dn (upd H2 sm' (.lst ys2)) (But q) (.ref sm') (intsD so) := Dn.newL hsm' ((puI.same s2).ne hsm') dns2
          have sS : Same H' (upd H2 sm' (.lst ys2)) := s2.trans (Same.new hsm')
          generalize upd H2 sm' (.lst ys2) = HS at *
          have lso' : so.length ≤ rs.length := by
            have : ((List.range (rs.map roadD).length).zip (rs.map roadD)).length = rs.length := by simp
            omega
          -- back
          have has : HS sm' = some (.lst (so.map V.int)) := by
            obtain ⟨as, eas, _, has⟩ := DS.ints
            cases eas
            exact has
          refine ⟨_, rfl, sm', _, rfl, has, lc_listD (P := But q) (onInt (toF rs bg)) DS (line1000 (by rw [List.length_map]; omega)) ?_ ?_⟩
          · intro j d x H3 Ny Nn hdj s3 hdn yes no
            obtain ⟨kk, hj, rfl, hmem⟩ := get_int hdj
            cases hdn
            obtain ⟨r', hr1, hr2⟩ := roadAt_in (hso kk hmem).1 (hso kk hmem).2
            refine ⟨_, rfl, ixT (hdI.mono (sS.trans s3).x) rfl fun v2 hv2 => ⟨_, rfl, ixL hv2 (at_road hr1) fun v3 hv3 => ixT hv3 rfl fun v4 hv4 => ?_⟩⟩
            cases hv4
            refine ⟨_, rfl, eqI ⟨_, rfl, ?_⟩⟩
            have ef : onInt (toF rs bg) (.int kk) = if r'.2.1 = bg then some (.int kk) else none := by
              show toF rs bg kk = _
              unfold toF
              rw [hr1]
            refine ite2 (fun h0 => ?_) (fun h0 => ?_)
            · rw [decide_eq_true_iff] at h0
              exact ⟨_, rfl, yes _ _ _ (Same.refl _) (ef.trans (if_pos h0)) (.int _)⟩
            · rw [decide_eq_true_iff] at h0
              exact no _ (Same.refl _) (ef.trans (if_neg h0))
          · intro bk H3 ys3 s3 hbk dns3
            obtain ⟨ba, eba, hba, lba⟩ := fm_ints (onInt (toF rs bg)) (fun x => 0 ≤ x ∧ x < rs.length) (so.map PyData.int) (fun x hx e he => by
              obtain ⟨kk, hk1, rfl⟩ := List.mem_map.mp hx
              have he' : toF rs bg kk = some e := he
              unfold toF at he'
              split at he'
              · split at he'
                · cases he'; exact ⟨_, rfl, hso kk hk1⟩
                · cases he'
              · cases he')
            rw [eba] at dns3
            rw [List.length_map] at lba
            have puT := (puS.same s3).same (Same.new (o := .lst ys3) hbk)
            have DB : Dn (upd H3 bk (.lst ys3)) (But q) (.ref bk) (intsD ba) := Dn.newL hbk ((puS.same s3).ne hbk) dns3
            have sT : Same HS (upd H3 bk (.lst ys3)) := s3.trans (Same.new hbk)
            have DS' := DS.mono sT.x
            have sU : Same H' (upd H3 bk (.lst ys3)) := sS.trans sT
            generalize upd H3 bk (.lst ys3) = HT at *
            -- if some != []
            dsimp only
            refine ⟨_, rfl, Nat.zero_le _, fun pe hpe => ?_⟩
            have sV : Same HT (upd HT pe (.lst [])) := Same.new hpe
            refine eqD (DS'.mono sV.x) (Dn.newL (P := But q) hpe (puT.ne hpe) .nil) (Lay.ints so).shaped (by rfl) ⟨_, rfl, ?_⟩
            have puV := puT.same sV
            have sW := sU.trans sV
            have DS2 := DS'.mono sV.x
            have DB2 := DB.mono (P := But q) sV.x
            generalize upd HT pe (.lst []) = HV at *
            unfold intsD
            rw [eqv_nil]
            have hFV := sW _ _ hF
            cases so with
            | nil =>
              refine ite_f rfl ?_
              exact ⟨p, ws, _, _, _, rfl, p0, p1, hFV, hin, by omega, puV.mono (by omega), smI.trans sW.x⟩
            | cons s0 so =>
              refine ite_t rfl ?_
              have lcons : (s0 :: so).length ≤ 60 := by omega
              refine ⟨_, rfl, .inl ⟨rfl, _, SqL.of hFV⟩, _, rfl, _, rfl, addInts puV.trk DB2 DS2 (by omega) fun pa HW smW DW => ?_⟩
              have DS3 := DS2.mono smW.x
              have puW := puV.same smW
              refine ⟨_, rfl, _, rfl, lenL DS3 ⟨q, _, _, rfl, puW, by omega, ?_, ?_, fun g HX g0 g1 puX smX' => ?_⟩⟩
              · rw [List.length_map]; simp only [List.length_cons]; omega
              · rw [List.length_map]; omega
              rw [List.length_map] at g1
              have DX := DW.mono smX'
              obtain ⟨x, hx1, hx2⟩ := at_intsV (hs := ba ++ s0 :: so) g0 (by rw [List.length_append]; omega)
              obtain ⟨y, hy⟩ := at_in (xs := ba ++ s0 :: so) g0 (by rw [List.length_append]; omega)
              refine ixL DX (at_int g0 hy) fun v5 hv5 => ?_
              cases hv5
              have hFX : HX f = some (.lst (ws.map V.int)) := smX' _ _ (smW _ _ hFV) nf
              have hyin : 0 ≤ y ∧ y < rs.length := by
                rcases List.mem_append.mp (List.mem_of_getElem? hy) with z | z
                · exact hba y z
                · exact hso y z
              refine ⟨f, _, .int y, rfl, rfl, hFX, ?_, ?_⟩
              · rw [List.length_map]; exact small1000 (by omega)
              have smY : SameX (But q) H (upd HX f (.lst (ws.map V.int ++ [.int y]))) := fun z o e nz => by
                rw [upd_ne (fun ez => by rw [ez, hfH] at e; cases e)]
                exact ((smI.trans sW.x).trans (smW.x.trans smX')) z o e nz
              have puY : Pu (upd HX f (.lst (ws.map V.int ++ [.int y]))) q (m + 20 + 4 * (((i + 1 : Nat)) : Int)) := by
                obtain ⟨u1, u2, u3, g1, g2⟩ := puX.mono (show _ ≤ m + 20 + 4 * (((i + 1 : Nat)) : Int) by omega)
                exact ⟨u1, u2, u3, by rw [upd_ne nf.symm]; exact g1, g2⟩
              have hFY : (upd HX f (.lst (ws.map V.int ++ [.int y]))) f = some (.lst (ws.map V.int ++ [.int y])) := upd_same
              generalize upd HX f (.lst (ws.map V.int ++ [.int y])) = HY at *
              obtain ⟨r', hr1, hr2⟩ := roadAt_in hyin.1 hyin.2
              obtain ⟨_, ⟨t0, t1⟩, _⟩ := ok.rd r' (roadAt_mem hr1)
              refine ⟨_, rfl, ixT (hd.mono smY) rfl fun v6 hv6 => ⟨_, rfl, ixR hFY (atI_last _ _) (ixL hv6 (at_road hr1) fun v7 hv7 => ixT hv7 rfl fun v8 hv8 => ?_)⟩⟩
              cases hv8
              have hFY' : HY f = some (.lst ((ws ++ [y]).map V.int)) := by rw [hFY]; simp
              have hin' : AllIn rs (ws ++ [y]) := fun z hz => by
                rcases List.mem_append.mp hz with hz | hz
                · exact hin z hz
                · rw [List.mem_singleton.mp hz]; exact hyin
              refine ⟨_, rfl, _, rfl, eqI ⟨_, rfl, ?_⟩⟩
              refine ite2 (fun _ => ?_) (fun _ => ?_)
              · refine ⟨_, rfl, k _ (ws ++ [y]) HY hin' (by simp; omega) (puY.mono (by omega)) smY (dn_ints nf hFY')⟩
              · exact ⟨r'.2.1, ws ++ [y], _, _, _, rfl, t0, t1, hFY', hin', by simp; omega, puY, smY⟩
      · rintro σ H' ⟨p, ws, z1, z2, z3, rfl, p0, p1, hF, hin, hlen, puI, smI⟩
        exact ⟨_, rfl, k _ ws H' hin hlen (puI.mono (by omega)) smI (dn_ints nf hF)⟩
end My

set_option Elab.async false
set_option linter.all false
set_option maxRecDepth 100000
set_option maxHeartbeats 4000000
namespace My
open PySem L2
theorem ok__law_bent {P : Program} {w : World} {K : PySem.W.Frag} {mg : Str → Option Value} {base : Heap} (T : Tx K mg) : Callee P w K mg base "_law_bent" ["_law_purse_here", "_law_some"] 3 spBent06 := by
  have c__law_draw := ok__law_draw (P := P) (w := w) (base := base) T
  refine callee_of T.d__law_bent (fun _ _ _ _ _ _ us hl => match us, hl with | [_, _], _ => rfl) sc__law_bent (fun vs H Q E h => ?_) (fun f cdv A outer s H vs Q E hr h => ?_)
  · obtain ⟨q, w', m, ws, rfl, _⟩ := h; rfl
  · obtain ⟨q, w', m, ws, rfl, pu, hm, hw, hlen, k⟩ := h
    refine ⟨_, (pss_cons (ps_set (i := 2) sc__law_bent.nd rfl (Or.inl rfl) (pe_callTy call_listD rfl T.n_list PyProof.Rows.boot_list (pa_cons (pv 1) pa_nil)))
      (pss_cons (ps_set (i := 3) sc__law_bent.nd rfl (Or.inr rfl) (pe_callC c__law_draw hr (by decide) rfl (pa_cons (pv 0) (pa_cons pe_int pa_nil))))
      (pss_cons (ps_set (i := 4) sc__law_bent.nd rfl (Or.inr rfl) (pe_ix ix_D (pe_lst (pa_cons pe_int (pa_cons pe_int (pa_cons pe_negc (pa_cons (pe_op op_pow pe_int pe_int) (pa_cons (pe_op op_sub pe_int (pe_op op_pow pe_int pe_int)) (pa_cons (pe_callC c__law_draw hr (by decide) rfl (pa_cons (pv 0) (pa_cons pe_int pa_nil))) pa_nil))))))) (pe_callC c__law_draw hr (by decide) rfl (pa_cons (pv 0) (pa_cons pe_int pa_nil))) (fun _ _ => rfl)))
      (pss_cons (ps_set (i := 5) sc__law_bent.nd rfl (Or.inl rfl) (pe_callC c__law_draw hr (by decide) rfl (pa_cons (pv 0) (pa_cons (pe_op op_addD (pe_callB call_lenD rfl T.n_len PySem.boot_len (pa_cons (pv 2) pa_nil)) pe_int) pa_nil))))
      (pss_cons (ps_if (pt_cmpR (op_eqD hr.units) (pv 3) pe_int (nomark _)) (pss_one (ps_ret (pe_op op_addD (pe_op op_addD (pe_slice sl_D (pv 2) po_none (po_some (pv 5))) (pe_lst (pa_cons (pv 4) pa_nil))) (pe_slice sl_D (pv 2) (po_some (pv 5)) po_none)))) pss_nil)
      (pss_cons (ps_if (pt_cmpR (op_eqD hr.units) (pv 3) pe_int (nomark _)) (pss_one (ps_ret (pe_op op_addD (pe_slice sl_D (pv 2) po_none (po_some (pv 5))) (pe_slice sl_D (pv 2) (po_some (pe_op op_addD (pv 5) pe_int)) po_none)))) pss_nil)
      (pss_cons (ps_if (pt_cmpR (op_eqD hr.units) (pv 3) pe_int (nomark _)) (pss_one (ps_ret (pe_rev (pv 2) pe_negc (fun _ _ => ⟨_, by with_unfolding_all rfl⟩)))) pss_nil)
      (pss_cons (ps_if (pt_cmpR (op_eqD hr.units) (pv 3) pe_int (nomark _)) (pss_one (ps_ret (pe_op op_addD (pv 2) (pv 2)))) pss_nil)
      (pss_cons (ps_if (pt_cmpR op_lt (pv 3) pe_int (nomark _)) (pss_one (ps_ret (pe_op op_addD (pe_op op_addD (pe_slice sl_D (pv 2) po_none (po_some (pv 5))) (pe_lc (N' := ["_law_one", "_law_way"]) (js := [none, some 3]) rfl (pi_L (pe_slice sl_D (pv 2) (po_some (pv 5)) (po_some (pe_op op_addD (pv 5) pe_int)))) (by kernel_rfl) (gk_name rfl) (by kernel_rfl) rfl (fun _ _ _ => ⟨(pg_name (i := 0) (show List.Nodup [("_law_one" : Str), ("_law_way" : Str)] by decide +kernel) rfl (Or.inl rfl)), pf_nil, (pe_op op_addD (pv 0) (pe_ix ix_D (pe_lst (pa_cons pe_int (pa_cons pe_negc pa_nil))) (pe_op op_sub (pv 1) pe_int) (fun _ _ => rfl)))⟩))) (pe_slice sl_D (pv 2) (po_some (pe_op op_addD (pv 5) pe_int)) po_none)))) pss_nil)
      (pss_one (ps_ret (pe_op op_addD (pe_op op_addD (pe_slice sl_D (pv 2) po_none (po_some (pv 5))) (pe_lc (N' := ["_law_one", "_law_number_here"]) (js := [none, some 4]) rfl (pi_L (pe_slice sl_D (pv 2) (po_some (pv 5)) (po_some (pe_op op_addD (pv 5) pe_int)))) (by kernel_rfl) (gk_name rfl) (by kernel_rfl) rfl (fun _ _ _ => ⟨(pg_name (i := 0) (show List.Nodup [("_law_one" : Str), ("_law_number_here" : Str)] by decide +kernel) rfl (Or.inl rfl)), pf_nil, (pv 1)⟩))) (pe_slice sl_D (pv 2) (po_some (pe_op op_addD (pv 5) pe_int)) po_none))))))))))))), ?_⟩
    refine ⟨_, rfl, w', But q, _, rfl, .inl hw, fun l ys hl dns => ?_⟩
    have DF : Dn (upd H l (.lst ys)) (But q) (.ref l) (intsD ws) := Dn.newL hl (pu.ne hl) dns
    have pu1 : Pu (upd H l (.lst ys)) q m := pu.same (Same.new hl)
    have sm1 : SameX (But q) H (upd H l (.lst ys)) := SameX.new hl
    generalize upd H l (.lst ys) = H1 at *
    refine ⟨_, rfl, q, 8, m, rfl, pu1, by omega, by decide, by decide, fun wy H2 wy0 wy1 pu2 sm2 => ?_⟩
    -- number
    refine ⟨_, _, rfl, rfl, ⟨by decide, by decide, by decide⟩, _, _, rfl, rfl, ⟨by decide, by decide, by decide⟩, _, _, rfl, rfl, ?_⟩
    refine ⟨_, rfl, q, 20, _, rfl, pu2, by omega, by decide, by decide, fun c H3 c0 c1 pu3 sm3 => ?_⟩
    refine ⟨(by show 6 ≤ sizeLine; decide), fun sl hsl => ?_⟩
    have nsl : sl ≠ q := pu3.ne hsl
    refine ⟨_, rfl, q, 6, _, rfl, pu3.same (Same.new hsl), by omega, by decide, by decide, fun d H4 d0 d1 pu4 sm4 => ?_⟩
    have hsl4 := sm4 _ _ upd_same nsl
    obtain ⟨nb, hnb⟩ := pick6 (a := 0) (b := 1) (c := -1) (d := 10 ^ (Int.toNat 12)) (e := 0 - 10 ^ (Int.toNat 29)) (g := c) d0 d1
    refine ixR hsl4 hnb ?_
    have S4 : SameX (But q) H1 H4 := ((sm2.trans sm3).trans (SameX.new hsl)).trans sm4
    have D4 := DF.mono S4
    -- at
    refine ⟨_, rfl, _, rfl, lenL D4 (addI ⟨q, _, _, rfl, pu4, by omega, by rw [List.length_map]; omega, by rw [List.length_map]; omega, fun g H5 g0 g1 pu5 sm5 => ?_⟩)⟩
    rw [List.length_map] at g1
    have D5 := D4.mono sm5
    have S5 : SameX (But q) H H5 := (sm1.trans S4).trans sm5
    have l1 := cutD_len ws none (some g)
    have l2 := cutD_len ws (some g) none
    have l3 := cutD_len ws (some (g + 1)) none
    have l4 := cutD_len ws (some g) (some (g + 1))
    have fin : ∀ (v' : V) (ws' : List Int) (H' : Hp), ws'.length ≤ 500 → Same H5 H' → Dn H' (But q) v' (intsD ws') → Q v' H' := fun v' ws' H' a b c => k v' ws' H' a ((pu5.same b).mono (by omega)) (S5.trans b.x) c
    have tr := pu5.trk
    -- 0
    refine ⟨_, rfl, eqI ⟨_, rfl, ite2 (fun _ => ?_) (fun n0 => ?_)⟩⟩
    · refine ⟨_, rfl, _, rfl, _, rfl, slInts tr D5 fun p1 Ha sa Da => ?_⟩
      have tra := tr.same sa
      refine ⟨_, rfl, (by show 1 ≤ sizeLine; decide), fun p2 hp2 => ?_⟩
      have Db : Dn (upd Ha p2 (.lst [.int nb])) (But q) (.ref p2) (intsD [nb]) := dn_ints (ns := [nb]) (tra.ne hp2) upd_same
      have sb : Same Ha (upd Ha p2 (.lst [.int nb])) := Same.new hp2
      generalize upd Ha p2 (.lst [.int nb]) = Hb at *
      refine addInts (tra.same sb) (Da.mono sb.x) Db (by simp; omega) fun p3 Hc sc Dc => ?_
      have sac := (sa.trans sb).trans sc
      refine ⟨_, rfl, _, rfl, _, rfl, slInts (tr.same sac) (D5.mono sac.x) fun p4 Hd sd Dd => ?_⟩
      refine addInts (tr.same (sac.trans sd)) (Dc.mono sd.x) Dd (by simp; omega) fun p5 He se De => ?_
      exact fin _ _ He (by simp; omega) ((sac.trans sd).trans se) De
    -- 1
    refine ⟨_, rfl, eqI ⟨_, rfl, ite2 (fun _ => ?_) (fun n1 => ?_)⟩⟩
    · refine ⟨_, rfl, _, rfl, _, rfl, slInts tr D5 fun p1 Ha sa Da => ?_⟩
      refine ⟨_, rfl, _, rfl, addI ⟨_, rfl, slInts (tr.same sa) (D5.mono sa.x) fun p4 Hd sd Dd => ?_⟩⟩
      refine addInts (tr.same (sa.trans sd)) (Da.mono sd.x) Dd (by omega) fun p5 He se De => ?_
      exact fin _ _ He (by simp; omega) ((sa.trans sd).trans se) De
    -- 2
    refine ⟨_, rfl, eqI ⟨_, rfl, ite2 (fun _ => ?_) (fun n2 => ?_)⟩⟩
    · refine ⟨_, rfl, But q, _, D5, fun p1 ys1 hp1 dn1 => ?_⟩
      rw [← List.map_reverse] at dn1
      exact fin _ ws.reverse _ (by simp; omega) (Same.new hp1) (Dn.newL hp1 (tr.ne hp1) dn1)
    -- 3
    refine ⟨_, rfl, eqI ⟨_, rfl, ite2 (fun _ => ?_) (fun n3 => ?_)⟩⟩
    · refine ⟨_, rfl, _, rfl, addInts tr D5 D5 (by omega) fun p5 He se De => ?_⟩
      exact fin _ _ He (by simp; omega) se De
    rw [decide_eq_true_iff] at n0 n1 n2 n3
    -- 4, 5
    refine ⟨_, rfl, _, _, rfl, rfl, _, rfl, ite2 (fun h6 => ?_) (fun _ => ?_)⟩
    · rw [decide_eq_true_iff] at h6
      obtain ⟨cc, hcc⟩ : ∃ cc : Int, atI [V.int 1, .int (-1)] (wy - 4) = some (.int cc) := by
        have : wy = 4 ∨ wy = 5 := by omega
        rcases this with rfl | rfl
        · exact ⟨1, rfl⟩
        · exact ⟨-1, rfl⟩
      refine ⟨_, rfl, _, rfl, _, rfl, slInts tr D5 fun p1 Ha sa Da => ?_⟩
      refine ⟨_, rfl, _, rfl, _, rfl, _, rfl, addI ⟨_, rfl, slInts (tr.same sa) (D5.mono sa.x) fun p2 Hb sb Db => ?_⟩⟩
      obtain ⟨a2, ea2, _, hp2⟩ := Db.ints
      cases ea2
      refine ⟨_, _, rfl, hp2, lc_listD (P := But q) (onInt fun j => some (.int (j + cc))) Db (line1000 (by rw [List.length_map]; omega)) ?_ ?_⟩
      · intro i d x H' Ny Nn hdi sm hdn yes no
        obtain ⟨j, hj, rfl, hmem⟩ := get_int hdi
        cases hdn
        refine ⟨_, rfl, (by show 2 ≤ sizeLine; decide), fun pl hpl => ⟨_, rfl, _, _, rfl, rfl, ixR upd_same hcc (addI ?_)⟩⟩
        exact yes _ _ _ (Same.new hpl) rfl (.int _)
      · intro p3 Hc ys3 sc hp3 dn3
        rw [on_ints, fm_some] at dn3
        have Dc : Dn (upd Hc p3 (.lst ys3)) (But q) (.ref p3) (intsD ((cutD ws (some g) (some (g + 1))).map fun j => j + cc)) := Dn.newL hp3 ((tr.same (sa.trans (sb.trans sc))).ne hp3) dn3
        have sac : Same Ha (upd Hc p3 (.lst ys3)) := sb.trans (sc.trans (Same.new hp3))
        generalize upd Hc p3 (.lst ys3) = Hd at *
        refine addInts (tr.same (sa.trans sac)) (Da.mono sac.x) Dc (by simp; omega) fun p4 He se De => ?_
        have sae := (sa.trans sac).trans se
        refine ⟨_, rfl, _, rfl, addI ⟨_, rfl, slInts (tr.same sae) (D5.mono sae.x) fun p5 Hf sf Df => ?_⟩⟩
        refine addInts (tr.same (sae.trans sf)) (De.mono sf.x) Df (by simp; omega) fun p6 Hg sg Dg => ?_
        exact fin _ _ Hg (by simp; omega) ((sae.trans sf).trans sg) Dg
    · refine ⟨_, rfl, _, rfl, _, rfl, slInts tr D5 fun p1 Ha sa Da => ?_⟩
      refine ⟨_, rfl, _, rfl, _, rfl, _, rfl, addI ⟨_, rfl, slInts (tr.same sa) (D5.mono sa.x) fun p2 Hb sb Db => ?_⟩⟩
      obtain ⟨a2, ea2, _, hp2⟩ := Db.ints
      cases ea2
      refine ⟨_, _, rfl, hp2, lc_listD (P := But q) (onInt fun j => some (.int nb)) Db (line1000 (by rw [List.length_map]; omega)) ?_ ?_⟩
      · intro i d x H' Ny Nn hdi sm hdn yes no
        obtain ⟨j, hj, rfl, hmem⟩ := get_int hdi
        cases hdn
        exact ⟨_, rfl, yes _ _ _ (Same.refl _) rfl (.int _)⟩
      · intro p3 Hc ys3 sc hp3 dn3
        rw [on_ints, fm_some (fun _ => nb)] at dn3
        have Dc : Dn (upd Hc p3 (.lst ys3)) (But q) (.ref p3) (intsD ((cutD ws (some g) (some (g + 1))).map fun j => nb)) := Dn.newL hp3 ((tr.same (sa.trans (sb.trans sc))).ne hp3) dn3
        have sac : Same Ha (upd Hc p3 (.lst ys3)) := sb.trans (sc.trans (Same.new hp3))
        generalize upd Hc p3 (.lst ys3) = Hd at *
        refine addInts (tr.same (sa.trans sac)) (Da.mono sac.x) Dc (by simp; omega) fun p4 He se De => ?_
        have sae := (sa.trans sac).trans se
        refine ⟨_, rfl, _, rfl, addI ⟨_, rfl, slInts (tr.same sae) (D5.mono sae.x) fun p5 Hf sf Df => ?_⟩⟩
        refine addInts (tr.same (sae.trans sf)) (De.mono sf.x) Df (by simp; omega) fun p6 Hg sg Dg => ?_
        exact fin _ _ Hg (by simp; omega) ((sae.trans sf).trans sg) Dg
end My

set_option Elab.async false
set_option linter.all false
set_option maxRecDepth 100000
set_option maxHeartbeats 4000000
namespace My
open PySem L2
/-! ### the table, as it is put together -/
def setT (t : Tab) (i j : Nat) (v : Option Int) : Tab := match t[i]? with
  | some r => t.set i (r.set j v)
  | none => t
def tab0 (n : Nat) : Tab := List.replicate n (List.replicate n none)
def tab1 (n k : Nat) : Tab := (List.range k).foldl (fun t p => setT t p p (some 0)) (tab0 n)
/-- a shorter one stands from now on -/
def lowT (t : Tab) (i j : Nat) (x : Int) : Tab := match cell t i j with
  | none => setT t i j (some x)
  | some c => if x < c then setT t i j (some x) else t
def stepR (t : Tab) (r : Road) : Tab := lowT t r.1.toNat r.2.1.toNat r.2.2
def tab2 (n : Nat) (rs : List Road) : Tab := rs.foldl stepR (tab1 n n)
def relax (mid one other : Nat) (t : Tab) : Tab := match cell t one mid, cell t mid other with
  | some x, some y => lowT t one other (x + y)
  | _, _ => t
def fw3 (mid one k : Nat) (t : Tab) : Tab := (List.range k).foldl (fun t other => relax mid one other t) t
def fw2 (n mid k : Nat) (t : Tab) : Tab := (List.range k).foldl (fun t one => fw3 mid one n t) t
def fw1 (n k : Nat) (t : Tab) : Tab := (List.range k).foldl (fun t mid => fw2 n mid n t) t
def tableF (n : Nat) (rs : List Road) : Tab := fw1 n n (tab2 n rs)
theorem foldl_range_succ {α : Type} (f : α → Nat → α) (a : α) (k : Nat) : (List.range (k + 1)).foldl f a = f ((List.range k).foldl f a) k := by
  rw [List.range_succ, List.foldl_append]; rfl
/-! shapes -/
theorem setT_sh {n : Nat} {t : Tab} {i j : Nat} {v : Option Int} (h : Shape n t) : Shape n (setT t i j v) := by
  unfold setT
  cases e : t[i]? with
  | none => exact h
  | some r =>
    refine ⟨by simp [h.len], fun x hx => ?_⟩
    rcases List.mem_or_eq_of_mem_set hx with z | z
    · exact h.row x z
    · rw [z, List.length_set]; exact h.row r (List.mem_of_getElem? e)
theorem cell_set {n : Nat} {t : Tab} {i j a b : Nat} {v : Option Int} (h : Shape n t) (hi : i < n) (hj : j < n) : cell (setT t i j v) a b = if a = i ∧ b = j then v else cell t a b := by
  obtain ⟨r, hr, _, _⟩ := h.at hi hj
  have hil : i < t.length := by rw [h.len]; exact hi
  have hjl : j < r.length := by rw [h.row r (List.mem_of_getElem? hr)]; exact hj
  unfold setT
  rw [hr]
  unfold cell
  by_cases ha : a = i
  · subst ha
    simp only [List.getElem?_set_self hil, Option.getD_some]
    by_cases hb : b = j
    · subst hb
      simp [hjl]
    · rw [List.getElem?_set_ne (Ne.symm hb), hr]
      simp [hb]
  · simp [List.getElem?_set_ne (Ne.symm ha), ha]
theorem lowT_sh {n : Nat} {t : Tab} {i j : Nat} {x : Int} (h : Shape n t) : Shape n (lowT t i j x) := by
  unfold lowT
  split
  · exact setT_sh h
  · split
    · exact setT_sh h
    · exact h
theorem relax_sh {n : Nat} {t : Tab} {a b c : Nat} (h : Shape n t) : Shape n (relax a b c t) := by
  unfold relax
  split
  · exact lowT_sh h
  · exact h
theorem fold_sh {α : Type} {n : Nat} {f : Tab → α → Tab} (hf : ∀ t a, Shape n t → Shape n (f t a)) : ∀ (l : List α) (t : Tab), Shape n t → Shape n (l.foldl f t)
  | [], _, h => h
  | a :: l, t, h => fold_sh hf l (f t a) (hf t a h)
theorem tab0_sh (n : Nat) : Shape n (tab0 n) := ⟨by simp [tab0], fun r hr => by rw [tab0] at hr; rw [(List.mem_replicate.mp hr).2]; simp⟩
theorem tab1_sh (n k : Nat) : Shape n (tab1 n k) := fold_sh (fun t a h => setT_sh h) _ _ (tab0_sh n)
theorem tab2_sh (n : Nat) (rs : List Road) : Shape n (tab2 n rs) := fold_sh (fun t a h => lowT_sh h) _ _ (tab1_sh n n)
theorem fw3_sh {n mid one k : Nat} {t : Tab} (h : Shape n t) : Shape n (fw3 mid one k t) := fold_sh (fun t a h => relax_sh h) _ _ h
theorem fw2_sh {n mid k : Nat} {t : Tab} (h : Shape n t) : Shape n (fw2 n mid k t) := fold_sh (fun t a h => fw3_sh h) _ _ h
theorem fw1_sh {n k : Nat} {t : Tab} (h : Shape n t) : Shape n (fw1 n k t) := fold_sh (fun t a h => fw2_sh h) _ _ h
theorem tableF_sh (n : Nat) (rs : List Road) : Shape n (tableF n rs) := fw1_sh (tab2_sh n rs)
/-! what is no None stays none -/
def Has (n : Nat) (t : Tab) : Prop := Shape n t ∧ ∀ i, i < n → ∃ d, cell t i i = some d
theorem lowT_has {n : Nat} {t : Tab} {i j : Nat} {x : Int} (hi : i < n) (hj : j < n) (h : Has n t) : Has n (lowT t i j x) := by
  refine ⟨lowT_sh h.1, fun k hk => ?_⟩
  obtain ⟨d, hd⟩ := h.2 k hk
  have key : ∀ v, (cell (setT t i j (some v)) k k) = some v ∨ cell (setT t i j (some v)) k k = some d := fun v => by
    rw [cell_set h.1 hi hj]
    split
    · exact .inl rfl
    · exact .inr hd
  unfold lowT
  split
  · rcases key x with z | z <;> exact ⟨_, z⟩
  · split
    · rcases key x with z | z <;> exact ⟨_, z⟩
    · exact ⟨d, hd⟩
theorem relax_has {n : Nat} {t : Tab} {a b c : Nat} (hb : b < n) (hc : c < n) (h : Has n t) : Has n (relax a b c t) := by
  unfold relax
  split
  · exact lowT_has hb hc h
  · exact h
theorem fold_has {α : Type} {n : Nat} {f : Tab → α → Tab} : ∀ (l : List α) (t : Tab), (∀ t, ∀ a ∈ l, Has n t → Has n (f t a)) → Has n t → Has n (l.foldl f t)
  | [], _, _, h => h
  | a :: l, t, hf, h => fold_has l (f t a) (fun t b hb => hf t b (List.mem_cons_of_mem _ hb)) (hf t a List.mem_cons_self h)
theorem tab1_diag (n k : Nat) (hk : k ≤ n) : ∀ i j, i < n → j < n → cell (tab1 n k) i j = if i = j ∧ i < k then some 0 else none := by
  induction k with
  | zero =>
    intro i j hi hj
    rw [if_neg (by omega)]
    unfold tab1 tab0 cell
    simp [hi, hj]
  | succ k ih =>
    intro i j hi hj
    unfold tab1
    rw [foldl_range_succ]
    have := cell_set (t := tab1 n k) (i := k) (j := k) (a := i) (b := j) (v := some 0) (tab1_sh n k) (by omega) (by omega)
    rw [show List.foldl (fun t p => setT t p p (some 0)) (tab0 n) (List.range k) = tab1 n k from rfl, this, ih (by omega) i j hi hj]
    by_cases h1 : i = k ∧ j = k
    · rw [if_pos h1, if_pos (by omega)]
    · rw [if_neg h1]
      by_cases h2 : i = j ∧ i < k
      · rw [if_pos h2, if_pos (by omega)]
      · rw [if_neg h2, if_neg (by omega)]
theorem tab1_has (n : Nat) : Has n (tab1 n n) := ⟨tab1_sh n n, fun i hi => ⟨0, by rw [tab1_diag n n (Nat.le_refl _) i i hi hi, if_pos ⟨rfl, hi⟩]⟩⟩
theorem tab2_has {n : Nat} {rs : List Road} (h : ∀ r ∈ rs, r.1.toNat < n ∧ r.2.1.toNat < n) : Has n (tab2 n rs) := fold_has rs _ (fun t r hr ht => lowT_has (h r hr).1 (h r hr).2 ht) (tab1_has n)
theorem fw1_has {n : Nat} {t : Tab} (h : Has n t) : Has n (fw1 n n t) :=
  fold_has _ _ (fun t a ha ht => fold_has _ _ (fun t b hb ht => fold_has _ _ (fun t c hc ht => relax_has (List.mem_range.mp hb) (List.mem_range.mp hc) ht) ht) ht) h
theorem tableF_diag {n : Int} {rs : List Road} (ok : NetOk n rs) : Diag n.toNat (tableF n.toNat rs) := by
  have := fw1_has (tab2_has (n := n.toNat) (rs := rs) fun r hr => by obtain ⟨⟨a, b⟩, ⟨c, d⟩, _⟩ := ok.rd r hr; omega)
  exact ⟨this.1, this.2⟩
/-! ### a table that is being made -/
structure TabAt (H : Hp) (F : Addr) (as : List Addr) (n : Nat) (t : Tab) : Prop where
  f : H F = some (.lst (as.map V.ref))
  nd : as.Nodup
  nF : F ∉ as
  sh : Shape n t
  al : as.length = n
  row : ∀ (i : Nat) (a : Addr) (r : List (Option Int)), as[i]? = some a → t[i]? = some r → H a = some (.lst (r.map optV))
theorem TabAt.at {H : Hp} {F : Addr} {as : List Addr} {n : Nat} {t : Tab} (T : TabAt H F as n t) {i j : Nat} (hi : i < n) (hj : j < n) :
    ∃ a r, atI (as.map V.ref) (i : Int) = some (.ref a) ∧ H a = some (.lst (r.map optV)) ∧ atI (r.map optV) (j : Int) = some (optV (cell t i j)) ∧ as[i]? = some a ∧ t[i]? = some r ∧ ixN (r.map optV).length (j : Int) = some j := by
  obtain ⟨r, hr, hc, hm⟩ := T.sh.at hi hj
  have hia : i < as.length := by rw [T.al]; exact hi
  have ha : as[i]? = some as[i] := by simp [hia]
  refine ⟨as[i], r, atI_nat (by rw [List.getElem?_map, ha]; rfl), T.row i _ r ha hr, atI_nat (by rw [List.getElem?_map, hc]; rfl), ha, hr, ?_⟩
  unfold ixN
  have hl : (r.map optV).length = n := by rw [List.length_map, T.sh.row r hm]
  rw [if_pos (by omega), if_pos (by rw [hl]; omega), Int.toNat_natCast]
theorem TabAt.put {H : Hp} {F : Addr} {as : List Addr} {n : Nat} {t : Tab} (T : TabAt H F as n t) {i j : Nat} {a : Addr} {r : List (Option Int)} (v : Option Int) (ha : as[i]? = some a) (hr : t[i]? = some r) :
    TabAt (upd H a (.lst ((r.map optV).set j (optV v)))) F as n (setT t i j v) := by
  have hFa : F ≠ a := fun e => T.nF (by rw [e]; exact List.mem_of_getElem? ha)
  refine ⟨by rw [upd_ne hFa]; exact T.f, T.nd, T.nF, setT_sh T.sh, T.al, fun k b s hb hs => ?_⟩
  unfold setT at hs
  rw [hr] at hs
  by_cases hk : k = i
  · subst hk
    rw [ha] at hb
    cases hb
    have hil : k < t.length := (List.getElem?_eq_some_iff.mp hr).1
    simp only [List.getElem?_set_self hil] at hs
    cases hs
    rw [upd_same, List.map_set]
  · simp only [List.getElem?_set_ne (Ne.symm hk)] at hs
    have hba : b ≠ a := fun e => by
      subst e
      obtain ⟨h1, e1⟩ := List.getElem?_eq_some_iff.mp hb
      obtain ⟨h2, e2⟩ := List.getElem?_eq_some_iff.mp ha
      exact hk ((List.getElem_inj T.nd).mp (e1.trans e2.symm))
    rw [upd_ne hba]
    exact T.row k b s hb hs
theorem TabAt.mono {H H' : Hp} {F : Addr} {as : List Addr} {n : Nat} {t : Tab} (T : TabAt H F as n t) (s : Same H H') : TabAt H' F as n t :=
  ⟨s _ _ T.f, T.nd, T.nF, T.sh, T.al, fun i a r ha hr => s _ _ (T.row i a r ha hr)⟩
theorem dns_opts {H : Hp} {P : Addr → Prop} : ∀ (r : List (Option Int)), Dns H P (r.map optV) (r.map optD)
  | [] => .nil
  | none :: r => .cons .non (dns_opts r)
  | some i :: r => .cons (.int i) (dns_opts r)
theorem TabAt.dn {H : Hp} {P : Addr → Prop} {F : Addr} {as : List Addr} {n : Nat} {t : Tab} (T : TabAt H F as n t) (hP : ∀ a, a = F ∨ a ∈ as → ¬ P a) : Dn H P (.ref F) (tabD t) := by
  refine .lst (hP F (.inl rfl)) T.f ?_
  have : ∀ (as : List Addr) (t : Tab), as.length = t.length → (∀ a ∈ as, ¬ P a) → (∀ (i : Nat) a r, as[i]? = some a → t[i]? = some r → H a = some (.lst (r.map optV))) → Dns H P (as.map V.ref) (t.map rowD) := by
    intro as
    induction as with
    | nil =>
      intro t hl _ _
      cases t with
      | nil => exact .nil
      | cons _ _ => cases hl
    | cons a as ih =>
      intro t hl hp hr
      cases t with
      | nil => cases hl
      | cons r t =>
        refine .cons (.lst (hp a List.mem_cons_self) (hr 0 a r rfl rfl) (dns_opts r)) (ih t (by simpa using hl) (fun b hb => hp b (List.mem_cons_of_mem _ hb)) fun i b s h1 h2 => hr (i + 1) b s (by simpa using h1) (by simpa using h2))
  exact this as t (T.al.trans T.sh.len.symm) (fun a ha => hP a (.inr ha)) T.row
def spTable : Sp := fun vs H Q _ => ∃ (v : V) (n : Int) (P : Addr → Prop) (rs : List Road), vs = [v] ∧ Dn H P v (netD n rs) ∧ NetOk n rs ∧ Trk P H ∧ ∀ (w : V) (H' : Hp), Same H H' → Dn H' P w (tabD (tableF n.toNat rs)) → Q w H'
def spTaut : Sp := fun vs H Q _ => ∃ (w : V) (n : Nat) (P : Addr → Prop) (t : Tab), vs = [w] ∧ Dn H P w (tabD t) ∧ Diag n t ∧ n ≤ 100 ∧ ∀ (b : Bool) (H' : Hp), Same H H' → (b = true ↔ ∀ i, i < n → ∀ d, cell t i i = some d → 0 ≤ d) → Q (.bl b) H'
/-- the least of a column -/
def colT (t : Tab) (j : Nat) : List Int := t.filterMap fun r => (r[j]?).getD none
def ColMin (t : Tab) (j : Nat) (m : Int) : Prop := m ∈ colT t j ∧ ∀ x ∈ colT t j, m ≤ x
def spHeights : Sp := fun vs H Q _ => ∃ (w : V) (n : Nat) (P : Addr → Prop) (t : Tab), vs = [w, .int n] ∧ Dn H P w (tabD t) ∧ Diag n t ∧ n ≤ 100 ∧ Trk P H ∧
  ∀ (v' : V) (hs : List Int) (H' : Hp), Same H H' → Dn H' P v' (intsD hs) → hs.length = n → (∀ (j : Nat) m, hs[j]? = some m → ColMin t j m) → Q v' H'
end My
namespace My
open PySem L2
def colF (j : Nat) : PyData → Option PyData := fun d => match d with
  | .list es => match es[j]? with
    | some (.int x) => some (.int x)
    | _ => none
  | _ => none
theorem colF_row (j : Nat) (r : List (Option Int)) : colF j (rowD r) = ((r[j]?).getD none).map PyData.int := by
  unfold colF rowD
  simp only [List.getElem?_map]
  cases e : r[j]? with
  | none => simp
  | some c => cases c <;> simp [optD]
theorem col_eq (t : Tab) (j : Nat) : (t.map rowD).filterMap (colF j) = (colT t j).map PyData.int := by
  unfold colT
  rw [List.filterMap_map]
  have : (colF j ∘ rowD) = fun r => ((r[j]?).getD none).map PyData.int := by
    funext r
    exact colF_row j r
  rw [this]
  induction t with
  | nil => rfl
  | cons r t ih =>
    rw [List.filterMap_cons, List.filterMap_cons]
    cases e : (r[j]?).getD none <;> simp [ih]
theorem col_ne {n : Nat} {t : Tab} (h : Diag n t) {j : Nat} (hj : j < n) : colT t j ≠ [] := by
  obtain ⟨r, h1, h2, h3⟩ := h.sh.at hj hj
  obtain ⟨d, hd⟩ := h.dg j hj
  rw [hd] at h2
  have : d ∈ colT t j := List.mem_filterMap.mpr ⟨r, h3, by rw [h2]; rfl⟩
  intro e
  rw [e] at this
  simp at this
theorem get_row {t : Tab} {i : Nat} {d : PyData} (h : (t.map rowD)[i]? = some d) : ∃ r, t[i]? = some r ∧ d = rowD r ∧ r ∈ t := by
  rw [List.getElem?_map] at h
  cases e : t[i]? with
  | none => rw [e] at h; cases h
  | some r => rw [e] at h; exact ⟨r, rfl, (Option.some.inj h).symm, List.mem_of_getElem? e⟩
/-- papers: lists of ints -/
def papD (ps : List (List Int)) : PyData := .list (ps.map intsD)
def spLaw (K : PySem.W.Frag) : Sp := fun vs H Q _ => ∃ (a : Addr) (ns : List Int), vs = [.ref a] ∧ SqL K H a (ns.map V.int) ∧ ns.length ≤ 63 ∧ ∀ H', Q (.bl true) H'
theorem law_sp {K : PySem.W.Frag} {H : Hp} {a : Addr} {ns : List Int} (hl : ns.length ≤ 63) (_ : Only H) (hS : SqL K H a (ns.map V.int)) : spLaw K [.ref a] H (fun v _ => v = .bl true) fun _ _ _ => False := ⟨a, ns, rfl, hS, hl, fun _ => rfl⟩
/-- what was there ahead of the purse is the same -/
theorem same_of {q : Addr} {H H1 H2 : Hp} (h0 : H q = none) (s1 : Same H H1) (s2 : SameX (But q) H1 H2) : Same H H2 := fun b o e => s2 b o (s1 b o e) fun z => by
  have z' : b = q := z
  rw [z', h0] at e
  cases e
end My

set_option Elab.async false
set_option linter.all false
set_option maxRecDepth 100000
set_option maxHeartbeats 4000000
namespace My
open PySem L2
theorem ok__law_table {P : Program} {w : World} {K : PySem.W.Frag} {mg : Str → Option Value} {base : Heap} (T : Tx K mg) : Callee P w K mg base "_law_table" ["_law_net_here"] 1 spTable := by
  refine callee_of T.d__law_table (fun _ _ _ _ _ _ us hl => match us, hl with | [_], _ => rfl) sc__law_table (fun vs H Q E h => ?_) (fun f cdv A outer s H vs Q E hr h => ?_)
  · obtain ⟨v, n, P', rs, rfl, _⟩ := h; rfl
  · obtain ⟨v, n, P', rs, rfl, hd, ok, tr, k⟩ := h
    refine ⟨_, (pss_cons (ps_asg (pv 0) (pg_tupD (n := 2) rfl (pgs_cons (pg_name (i := 1) sc__law_table.nd rfl (Or.inr rfl)) (pgs_cons (pg_name (i := 2) sc__law_table.nd rfl (Or.inl rfl)) pgs_nil))))
      (pss_cons (ps_setLC (i := 3) sc__law_table.nd rfl (Or.inl rfl) (N' := ["_law_near", "_law_count"]) (js := [none, some 1]) rfl (pi_range1 rfl T.n_range (pa_cons (pv 1) pa_nil)) (by kernel_rfl) (gk_name rfl) (by kernel_rfl) rfl (fun _ _ _ => ⟨(pg_name (i := 0) (show List.Nodup [("_law_near" : Str), ("_law_count" : Str)] by decide +kernel) rfl (Or.inl rfl)), pf_nil, (pe_lc (N' := ["_law_far"]) (js := [none]) rfl (pi_range1 rfl T.n_range (pa_cons (pv 1) pa_nil)) (by kernel_rfl) (gk_name rfl) (by kernel_rfl) rfl (fun _ _ _ => ⟨(pg_name (i := 0) (show List.Nodup [("_law_far" : Str)] by decide +kernel) rfl (Or.inl rfl)), pf_nil, pe_non⟩))⟩))
      (pss_cons (ps_for PassesOwn.never rfl (pi_range1 rfl T.n_range (pa_cons (pv 1) pa_nil)) (pg_name (i := 4) sc__law_table.nd rfl (Or.inl rfl))
      (pss_one (ps_asg pe_int (pg_sub (pe_ix ix_D (pv 3) (pv 4) (fun _ _ => rfl)) (pv 4) set_list))))
      (pss_cons (ps_for PassesOwn.never rfl (pi_L (pv 2)) (pg_tupD (n := 3) rfl (pgs_cons (pg_name (i := 5) sc__law_table.nd rfl (Or.inl rfl)) (pgs_cons (pg_name (i := 6) sc__law_table.nd rfl (Or.inl rfl)) (pgs_cons (pg_name (i := 7) sc__law_table.nd rfl (Or.inl rfl)) pgs_nil))))
      (pss_one (ps_if (PW.pt (pw_or (pt_cmpR op_isN (pe_ix ix_D (pe_ix ix_D (pv 3) (pv 5) (fun _ _ => rfl)) (pv 6) (fun _ _ => rfl)) pe_non (nomark _)) (pw_or1 (pt_cmpR op_lt (pv 7) (pe_ix ix_D (pe_ix ix_D (pv 3) (pv 5) (fun _ _ => rfl)) (pv 6) (fun _ _ => rfl)) (nomark _))))) (pss_one (ps_asg (pv 7) (pg_sub (pe_ix ix_D (pv 3) (pv 5) (fun _ _ => rfl)) (pv 6) set_list))) pss_nil)))
      (pss_cons (ps_for PassesOwn.never rfl (pi_range1 rfl T.n_range (pa_cons (pv 1) pa_nil)) (pg_name (i := 8) sc__law_table.nd rfl (Or.inl rfl))
      (pss_one (ps_for PassesOwn.never rfl (pi_range1 rfl T.n_range (pa_cons (pv 1) pa_nil)) (pg_name (i := 5) sc__law_table.nd rfl (Or.inl rfl))
      (pss_one (ps_for PassesOwn.never rfl (pi_range1 rfl T.n_range (pa_cons (pv 1) pa_nil)) (pg_name (i := 6) sc__law_table.nd rfl (Or.inl rfl))
      (pss_one (ps_if (PW.pt (pw_and (pt_cmpR op_notN (pe_ix ix_D (pe_ix ix_D (pv 3) (pv 5) (fun _ _ => rfl)) (pv 8) (fun _ _ => rfl)) pe_non (nomark _)) (pw_and1 (pt_cmpR op_notN (pe_ix ix_D (pe_ix ix_D (pv 3) (pv 8) (fun _ _ => rfl)) (pv 6) (fun _ _ => rfl)) pe_non (nomark _))))) (pss_cons (ps_set (i := 9) sc__law_table.nd rfl (Or.inl rfl) (pe_op op_addD (pe_ix ix_D (pe_ix ix_D (pv 3) (pv 5) (fun _ _ => rfl)) (pv 8) (fun _ _ => rfl)) (pe_ix ix_D (pe_ix ix_D (pv 3) (pv 8) (fun _ _ => rfl)) (pv 6) (fun _ _ => rfl))))
      (pss_one (ps_if (PW.pt (pw_or (pt_cmpR op_isN (pe_ix ix_D (pe_ix ix_D (pv 3) (pv 5) (fun _ _ => rfl)) (pv 6) (fun _ _ => rfl)) pe_non (nomark _)) (pw_or1 (pt_cmpR op_lt (pv 9) (pe_ix ix_D (pe_ix ix_D (pv 3) (pv 5) (fun _ _ => rfl)) (pv 6) (fun _ _ => rfl)) (nomark _))))) (pss_one (ps_asg (pv 9) (pg_sub (pe_ix ix_D (pv 3) (pv 5) (fun _ _ => rfl)) (pv 6) set_list))) pss_nil))) pss_nil)))))))
      (pss_one (ps_ret (pv 3)))))))), ?_⟩
    have n0 := ok.n0
    have n1 := ok.n1
    have okl := ok.len
    obtain ⟨a, l, rfl, _, ha, hl⟩ := hd.net
    refine ⟨_, rfl, a, _, rfl, ha, rfl, _, _, rfl, _, _, rfl, rfl, ?_⟩
    obtain ⟨N, eN⟩ : ∃ N : Nat, n = N := ⟨n.toNat, by omega⟩
    subst eN
    -- found
    refine ⟨_, rfl, (N : Int), rfl, by omega, by omega, lc_range (line1000 (by omega)) (fun i acc H' => ∃ as : List Addr, acc = as.map V.ref ∧ as.length = i ∧ as.Nodup ∧ (∀ b ∈ as, H b = none ∧ H' b = some (.lst ((List.replicate N (none : Option Int)).map optV))) ∧ Same H H')
      ⟨[], rfl, rfl, List.nodup_nil, fun b hb => by simp at hb, Same.refl _⟩ (fun i acc H' _ ⟨as, e, le, _⟩ => by rw [e, List.length_map, le]; exact Nat.le_refl _) ?_ ?_⟩
    · rintro i acc H' N' hi ⟨as, rfl, le, nd, hb, sm⟩ go
      refine ⟨_, rfl, (N : Int), rfl, by omega, by omega, lc_range (line1000 (by omega)) (fun j acc2 H2 => acc2 = List.replicate j V.non ∧ H' = H2) ⟨rfl, rfl⟩ (fun j acc2 H2 _ ⟨e, _⟩ => by rw [e, List.length_replicate]; exact Nat.le_refl _) ?_ ?_⟩
      · rintro j acc2 H2 N2 hj ⟨rfl, rfl⟩ go2
        exact go2 _ _ ⟨by rw [List.replicate_succ'], rfl⟩
      · rintro acc2 H2 l2 ⟨rfl, rfl⟩ hl2
        have hl2H : H l2 = none := sm.free hl2
        have nin : l2 ∉ as := fun z => by rw [(hb l2 z).2] at hl2; cases hl2
        refine go _ _ ⟨as ++ [l2], by simp, by simp [le], ?_, fun b hb' => ?_, sm.trans (Same.new hl2)⟩
        · rw [List.nodup_append]
          exact ⟨nd, by simp, fun x hx y hy e => nin (by rw [List.mem_singleton.mp hy] at e; rw [← e]; exact hx)⟩
        · rcases List.mem_append.mp hb' with z | z
          · exact ⟨(hb b z).1, Same.new hl2 _ _ (hb b z).2⟩
          · rw [List.mem_singleton.mp z]
            refine ⟨hl2H, ?_⟩
            rw [upd_same, List.map_replicate, Int.toNat_natCast]
            rfl
    · rintro acc H1 F ⟨as, rfl, le, nd, hb, sm⟩ hF
      have hFH : H F = none := sm.free hF
      rw [Int.toNat_natCast] at le
      have T0 : TabAt (upd H1 F (.lst (as.map V.ref))) F as N (tab0 N) := by
        refine ⟨upd_same, nd, fun z => (by rw [(hb F z).2] at hF; cases hF), tab0_sh N, le, fun i b r hi hr => ?_⟩
        have hm := List.mem_of_getElem? hi
        rw [upd_ne (fun z => by rw [z] at hm; rw [(hb F hm).2] at hF; cases hF), (hb b hm).2]
        have : r = List.replicate N none := by
          unfold tab0 at hr
          exact (List.mem_replicate.mp (List.mem_of_getElem? hr)).2
        rw [this]
      have S0 : Same H (upd H1 F (.lst (as.map V.ref))) := sm.trans (Same.new hF)
      have fr : ∀ b, b = F ∨ b ∈ as → H b = none := fun b z => z.elim (fun e => by rw [e]; exact hFH) fun e => (hb b e).1
      generalize upd H1 F (.lst (as.map V.ref)) = H2 at *
      have wr : ∀ {H' : Hp} {b : Addr} {o : HO}, Same H H' → b ∈ as → Same H (upd H' b o) := fun {H' b o} s hm z u e => by
        rw [upd_ne (fun ez => by rw [ez, fr b (.inr hm)] at e; cases e)]
        exact s z u e
      have hn : ∀ x : Int, 0 ≤ x → x < (N : Int) → ∃ X : Nat, x = X ∧ X < N := fun x h1 h2 => ⟨x.toNat, by omega, by omega⟩
      -- the diagonal
      refine ⟨_, rfl, (N : Int), rfl, by omega, by omega, for_range (lo := 0) (fun i σ H' => ∃ z1 z2 z3 z4 z5 z6 : Option V, σ = [some (.ref a), some (.int N), some (.ref l), some (.ref F), z1, z2, z3, z4, z5, z6] ∧ TabAt H' F as N (tab1 N i) ∧ Same H H')
        ⟨_, _, _, _, _, _, rfl, T0, S0⟩ ?_ ?_⟩
      · rintro i σ H' hi ⟨z1, z2, z3, z4, z5, z6, rfl, T, S⟩
        rw [Int.toNat_natCast] at hi
        obtain ⟨b, r, h1, h2, h3, h4, h5, h6⟩ := T.at hi hi
        refine ⟨_, rfl, _, rfl, ixR T.f (by rw [Int.zero_add]; exact h1) ⟨_, rfl, b, _, _, i, rfl, rfl, h2, by rw [Int.zero_add]; exact h6, ?_⟩⟩
        refine ⟨_, _, _, _, _, _, rfl, ?_, wr S (List.mem_of_getElem? h4)⟩
        have := T.put (j := i) (some 0) h4 h5
        unfold tab1
        rw [foldl_range_succ]
        exact this
      · rintro σ H' ⟨z1, z2, z3, z4, z5, z6, rfl, T, S⟩
        rw [Int.toNat_natCast] at T
        -- the roads
        have hl' := hl.mono (P := P') S.x
        cases id hl' with
        | @lst _ ys _ _ hly ty =>
        cases id hl with
        | @lst _ ys0 _ _ hly0 ty0 =>
        have eys : ys0 = ys := by have := S _ _ hly0; rw [hly] at this; cases this; rfl
        subst eys
        refine ⟨_, rfl, l, _, rfl, hly, for_L (a := l) (xs := ys0) (fun i σ H' => ∃ z1 z2 z3 z4 z5 z6 : Option V, σ = [some (.ref a), some (.int N), some (.ref l), some (.ref F), z1, z2, z3, z4, z5, z6] ∧ TabAt H' F as N ((rs.take i).foldl stepR (tab1 N N)) ∧ Same H H')
          ⟨_, _, _, _, _, _, rfl, T, S⟩ (fun i σ H' _ ⟨_, _, _, _, _, _, _, _, S'⟩ => S' _ _ hly0) ?_ ?_⟩
        · rintro i y σ H3 hi ⟨z1, z2, z3, z4, z5, z6, rfl, T3, S3⟩
          obtain ⟨d, hdi, hdn⟩ := ty0.getV hi
          obtain ⟨r, hr, rfl, hm⟩ := get_road hdi
          obtain ⟨ra, rfl, _, hra⟩ := (hdn.mono (P := P') S3.x).road
          obtain ⟨⟨f0, f1⟩, ⟨t0, t1⟩, _⟩ := ok.rd r hm
          obtain ⟨A, eA, hA⟩ := hn r.1 f0 f1
          obtain ⟨B, eB, hB⟩ := hn r.2.1 t0 t1
          have et : (rs.take (i + 1)).foldl stepR (tab1 N N) = lowT ((rs.take i).foldl stepR (tab1 N N)) A B r.2.2 := by
            rw [List.take_add_one, hr, List.foldl_append]
            show stepR _ r = _
            unfold stepR
            rw [eA, eB, Int.toNat_natCast, Int.toNat_natCast]
          generalize (rs.take i).foldl stepR (tab1 N N) = tt at *
          obtain ⟨b, rr, h1, h2, h3, h4, h5, h6⟩ := T3.at hA hB
          refine ⟨ra, _, rfl, hra, rfl, _, _, rfl, _, _, rfl, _, _, rfl, rfl, ?_⟩
          rw [eA, eB]
          have put : ∀ σ', σ' = [some (.ref a), some (.int N), some (.ref l), some (.ref F), z1, some (V.int A), some (.int B), some (.int r.2.2), z5, z6] → setT tt A B (some r.2.2) = (rs.take (i + 1)).foldl stepR (tab1 N N) → ∃ z1 z2 z3 z4 z5 z6 : Option V, σ' = [some (.ref a), some (.int N), some (.ref l), some (.ref F), z1, z2, z3, z4, z5, z6] ∧ TabAt (upd H3 b (.lst ((rr.map optV).set B (.int r.2.2)))) F as N ((rs.take (i + 1)).foldl stepR (tab1 N N)) ∧ Same H (upd H3 b (.lst ((rr.map optV).set B (.int r.2.2)))) :=
            fun σ' e1 e2 => ⟨_, _, _, _, _, _, e1, by rw [← e2]; exact T3.put (j := B) (some r.2.2) h4 h5, wr S3 (List.mem_of_getElem? h4)⟩
          refine ⟨_, rfl, _, rfl, ixR T3.f h1 ⟨_, rfl, ixR h2 h3 ⟨rfl, _, rfl, ?_⟩⟩⟩
          cases hc : cell tt A B with
          | none =>
            refine ⟨_, rfl, _, rfl, _, rfl, ixR T3.f h1 ⟨_, rfl, b, _, _, B, rfl, rfl, h2, h6, ?_⟩⟩
            exact put _ rfl (by rw [et]; unfold lowT; rw [hc])
          | some c =>
            refine ⟨_, rfl, _, rfl, _, rfl, ixR T3.f h1 ⟨_, rfl, ixR h2 (by rw [hc] at h3; exact h3) ⟨_, _, rfl, rfl, _, rfl, ?_⟩⟩⟩
            refine ite2 (fun hlt => ?_) (fun hlt => ?_)
            · rw [decide_eq_true_iff] at hlt
              refine ⟨_, rfl, _, rfl, _, rfl, ixR T3.f h1 ⟨_, rfl, b, _, _, B, rfl, rfl, h2, h6, ?_⟩⟩
              exact put _ rfl (by rw [et]; unfold lowT; rw [hc]; simp only [hlt, if_true])
            · rw [decide_eq_true_iff] at hlt
              refine ⟨_, _, _, _, _, _, rfl, ?_, S3⟩
              rw [et]; unfold lowT; rw [hc]; simp only [hlt, if_false]
              exact T3
        · rintro σ H3 ⟨z1, z2, z3, z4, z5, z6, rfl, T3, S3⟩
          have hlen : ys0.length = rs.length := by rw [ty0.length, List.length_map]
          rw [hlen, List.take_length] at T3
          -- the three loops
          refine ⟨_, rfl, (N : Int), rfl, by omega, by omega, for_range (lo := 0) (fun i σ H' => ∃ z1 z2 z3 z4 z5 z6 : Option V, σ = [some (.ref a), some (.int N), some (.ref l), some (.ref F), z1, z2, z3, z4, z5, z6] ∧ TabAt H' F as N (fw1 N i (tab2 N rs)) ∧ Same H H')
            ⟨_, _, _, _, _, _, rfl, T3, S3⟩ ?_ ?_⟩
          · rintro mid σ H4 hmid ⟨z1, z2, z3, z4, z5, z6, rfl, T4, S4⟩
            rw [Int.toNat_natCast] at hmid
            refine ⟨_, rfl, (N : Int), rfl, by omega, by omega, for_range (lo := 0) (fun i σ H' => ∃ z1 z2 z3 z4 z6 : Option V, σ = [some (.ref a), some (.int N), some (.ref l), some (.ref F), z1, z2, z3, z4, some (.int (0 + (mid : Int))), z6] ∧ TabAt H' F as N (fw2 N mid i (fw1 N mid (tab2 N rs))) ∧ Same H H')
              ⟨_, _, _, _, _, rfl, T4, S4⟩ ?_ ?_⟩
            · rintro one σ H5 hone ⟨z1, z2, z3, z4, z6, rfl, T5, S5⟩
              rw [Int.toNat_natCast] at hone
              refine ⟨_, rfl, (N : Int), rfl, by omega, by omega, for_range (lo := 0) (fun i σ H' => ∃ z1 z3 z4 z6 : Option V, σ = [some (.ref a), some (.int N), some (.ref l), some (.ref F), z1, some (.int (0 + (one : Int))), z3, z4, some (.int (0 + (mid : Int))), z6] ∧ TabAt H' F as N (fw3 mid one i (fw2 N mid one (fw1 N mid (tab2 N rs)))) ∧ Same H H')
                ⟨_, _, _, _, rfl, T5, S5⟩ ?_ ?_⟩
              · rintro oth σ H6 hoth ⟨z1, z3, z4, z6, rfl, T6, S6⟩
                rw [Int.toNat_natCast] at hoth
                have et : fw3 mid one (oth + 1) (fw2 N mid one (fw1 N mid (tab2 N rs))) = relax mid one oth (fw3 mid one oth (fw2 N mid one (fw1 N mid (tab2 N rs)))) := by
                  unfold fw3; rw [foldl_range_succ]
                rw [et]
                generalize fw3 mid one oth (fw2 N mid one (fw1 N mid (tab2 N rs))) = tt at *
                obtain ⟨b1, r1, g1, g2, g3, g4, g5, g6⟩ := T6.at hone hmid
                obtain ⟨b2, r2, m1, m2, m3, m4, m5, m6⟩ := T6.at hmid hoth
                obtain ⟨b3, r3, p1, p2, p3, p4, p5, p6⟩ := T6.at hone hoth
                have zm : (0 + (mid : Int)) = mid := Int.zero_add _
                have zo : (0 + (one : Int)) = one := Int.zero_add _
                have zt : (0 + (oth : Int)) = oth := Int.zero_add _
                rw [zm, zo, zt]
                refine ⟨_, rfl, _, rfl, ixR T6.f g1 ⟨_, rfl, ixR g2 g3 ⟨rfl, _, rfl, ?_⟩⟩⟩
                cases c1 : cell tt one mid with
                | none =>
                  refine ⟨_, _, _, _, rfl, ?_, S6⟩
                  unfold relax; rw [c1]; exact T6
                | some x =>
                refine ite_t rfl ?_
                refine ⟨_, rfl, _, rfl, ixR T6.f m1 ⟨_, rfl, ixR m2 m3 ⟨rfl, _, rfl, ?_⟩⟩⟩
                cases c2 : cell tt mid oth with
                | none =>
                  refine ⟨_, _, _, _, rfl, ?_, S6⟩
                  unfold relax; rw [c1, c2]; exact T6
                | some y =>
                refine ite_t rfl ?_
                refine ⟨_, rfl, _, rfl, ixR T6.f g1 ⟨_, rfl, ixR g2 (by rw [c1] at g3; exact g3) ⟨_, rfl, _, rfl, ixR T6.f m1 ⟨_, rfl, ixR m2 (by rw [c2] at m3; exact m3) (addI ?_)⟩⟩⟩⟩
                have er : relax mid one oth tt = lowT tt one oth (x + y) := by unfold relax; rw [c1, c2]
                rw [er]
                refine ⟨_, rfl, _, rfl, ixR T6.f p1 ⟨_, rfl, ixR p2 p3 ⟨rfl, _, rfl, ?_⟩⟩⟩
                cases c3 : cell tt one oth with
                | none =>
                  refine ⟨_, rfl, _, rfl, _, rfl, ixR T6.f p1 ⟨_, rfl, b3, _, _, oth, rfl, rfl, p2, p6, ?_⟩⟩
                  refine ⟨_, _, _, _, rfl, ?_, wr S6 (List.mem_of_getElem? p4)⟩
                  unfold lowT; rw [c3]
                  exact T6.put (j := oth) (some (x + y)) p4 p5
                | some c =>
                  refine ⟨_, rfl, _, rfl, _, rfl, ixR T6.f p1 ⟨_, rfl, ixR p2 (by rw [c3] at p3; exact p3) ⟨_, _, rfl, rfl, _, rfl, ?_⟩⟩⟩
                  refine ite2 (fun hlt => ?_) (fun hlt => ?_)
                  · rw [decide_eq_true_iff] at hlt
                    refine ⟨_, rfl, _, rfl, _, rfl, ixR T6.f p1 ⟨_, rfl, b3, _, _, oth, rfl, rfl, p2, p6, ?_⟩⟩
                    refine ⟨_, _, _, _, rfl, ?_, wr S6 (List.mem_of_getElem? p4)⟩
                    unfold lowT; rw [c3]; simp only [hlt, if_true]
                    exact T6.put (j := oth) (some (x + y)) p4 p5
                  · rw [decide_eq_true_iff] at hlt
                    refine ⟨_, _, _, _, rfl, ?_, S6⟩
                    unfold lowT; rw [c3]; simp only [hlt, if_false]
                    exact T6
              · rintro σ H6 ⟨z1, z3, z4, z6, rfl, T6, S6⟩
                rw [Int.toNat_natCast] at T6
                refine ⟨_, _, _, _, _, rfl, ?_, S6⟩
                unfold fw2 at T6 ⊢
                rw [foldl_range_succ]
                exact T6
            · rintro σ H5 ⟨z1, z2, z3, z4, z6, rfl, T5, S5⟩
              rw [Int.toNat_natCast] at T5
              refine ⟨_, _, _, _, _, _, rfl, ?_, S5⟩
              unfold fw1 at T5 ⊢
              rw [foldl_range_succ]
              exact T5
          · rintro σ H4 ⟨z1, z2, z3, z4, z5, z6, rfl, T4, S4⟩
            rw [Int.toNat_natCast] at T4
            refine ⟨_, rfl, k _ H4 S4 ?_⟩
            rw [Int.toNat_natCast]
            exact T4.dn fun b hb => tr.ne (fr b hb)
end My

set_option Elab.async false
set_option linter.all false
set_option maxRecDepth 100000
set_option maxHeartbeats 4000000
namespace My
open PySem L2
theorem ok__law_taut {P : Program} {w : World} {K : PySem.W.Frag} {mg : Str → Option Value} {base : Heap} (T : Tx K mg) : Callee P w K mg base "_law_taut" ["_law_rows"] 1 spTaut := by
  refine callee_of T.d__law_taut (fun _ _ _ _ _ _ us hl => match us, hl with | [_], _ => rfl) sc__law_taut (fun vs H Q E h => ?_) (fun f cdv A outer s H vs Q E hr h => ?_)
  · obtain ⟨w', n, P', t, rfl, _⟩ := h; rfl
  · obtain ⟨w', n, P', t, rfl, hw, dg, hn, k⟩ := h
    refine ⟨_, (pss_one (ps_ret (pe_cmpR (op_eqD hr.units) (pe_callB call_lenD rfl T.n_len PySem.boot_len (pa_cons (pe_lc (N' := ["_law_k", "_law_rows"]) (js := [none, some 0]) rfl (pi_range1 rfl T.n_range (pa_cons (pe_callB call_lenD rfl T.n_len PySem.boot_len (pa_cons (pv 0) pa_nil)) pa_nil)) (by kernel_rfl) (gk_name rfl) (by kernel_rfl) rfl (fun _ _ _ => ⟨(pg_name (i := 0) (show List.Nodup [("_law_k" : Str), ("_law_rows" : Str)] by decide +kernel) rfl (Or.inl rfl)), (pf_one (pt_cmpR op_lt (pe_ix ix_D (pe_ix ix_D (pv 1) (pv 0) (fun _ _ => rfl)) (pv 0) (fun _ _ => rfl)) pe_int (nomark _))), (pv 0)⟩)) pa_nil)) pe_int (nomark _)))), ?_⟩
    have el : (t.map rowD).length = n := by rw [List.length_map, dg.sh.len]
    refine ⟨_, rfl, lenL hw ⟨_, rfl, by rw [el]; omega, by rw [el]; omega, ?_⟩⟩
    rw [el, Int.toNat_natCast]
    refine lc_rangeD (P := NoP) (fun i => match cell t i i with | some d => if d < 0 then some (.int (0 + (i : Int))) else none | none => none) (line1000 (by omega)) ?_ ?_
    · intro i H' Ny Nn hi sm yes no
      obtain ⟨r, hr1, hr2, _⟩ := dg.sh.at hi hi
      obtain ⟨d, hdd⟩ := dg.dg i hi
      rw [hdd] at hr2
      have hw' := hw.plain.mono (P := NoP) sm.x
      refine ⟨_, rfl, _, rfl, ixL hw' (by rw [Int.zero_add]; exact at_row hr1) fun v1 hv1 => ⟨_, rfl, ixL hv1 (by rw [Int.zero_add]; exact at_cell hr2) fun v2 hv2 => ?_⟩⟩
      cases hv2
      refine ⟨_, _, rfl, rfl, _, rfl, ?_⟩
      refine ite2 (fun h0 => ?_) (fun h0 => ?_)
      · rw [decide_eq_true_iff] at h0
        exact ⟨_, rfl, yes _ H' _ (Same.refl _) (by rw [hdd]; exact if_pos h0) (.int _)⟩
      · rw [decide_eq_true_iff] at h0
        exact no H' (Same.refl _) (by rw [hdd]; exact if_neg h0)
    · intro l H' ys sm hl dns
      refine lenR upd_same (eqI (k _ _ (sm.trans (Same.new hl)) ?_))
      rw [decide_eq_true_iff, dns.length]
      constructor
      · intro e i hi d hd
        have e' := List.length_eq_zero_iff.mp (show ((List.range n).filterMap (fun i => match cell t i i with | some d => if d < 0 then some (PyData.int (0 + (i : Int))) else none | none => none)).length = 0 by omega)
        have := (List.filterMap_eq_nil_iff.mp e') i (List.mem_range.mpr hi)
        rw [hd] at this
        simp only at this
        split at this
        · cases this
        · omega
      · intro hall
        have : (List.range n).filterMap (fun i => match cell t i i with | some d => if d < 0 then some (PyData.int (0 + (i : Int))) else none | none => none) = [] := List.filterMap_eq_nil_iff.mpr fun i hi => by
          obtain ⟨d, hd⟩ := dg.dg i (List.mem_range.mp hi)
          rw [hd]
          have := hall i (List.mem_range.mp hi) d hd
          simp only
          rw [if_neg (by omega)]
        rw [this]; rfl
theorem ok__law_heights {P : Program} {w : World} {K : PySem.W.Frag} {mg : Str → Option Value} {base : Heap} (T : Tx K mg) : Callee P w K mg base "_law_heights" ["_law_rows", "_law_count"] 1 spHeights := by
  refine callee_of T.d__law_heights (fun _ _ _ _ _ _ us hl => match us, hl with | [_, _], _ => rfl) sc__law_heights (fun vs H Q E h => ?_) (fun f cdv A outer s H vs Q E hr h => ?_)
  · obtain ⟨w', n, P', t, rfl, _⟩ := h; rfl
  · obtain ⟨w', n, P', t, rfl, hw, dg, hn, tr, k⟩ := h
    refine ⟨_, (pss_cons (ps_set (i := 2) sc__law_heights.nd rfl (Or.inl rfl) (pe_lst pa_nil))
      (pss_cons (ps_for PassesOwn.never rfl (pi_range1 rfl T.n_range (pa_cons (pv 1) pa_nil)) (pg_name (i := 3) sc__law_heights.nd rfl (Or.inr rfl))
      (pss_one (ps_expr (pe_bm PySem.F.plainAttrs_list PySem.F.slot_list_append PySem.F.type_list_append mt_append (pv 2) (pa_cons (pe_callB (call_minD rfl) rfl T.n_min PyProof.Rows.boot_min (pa_cons (pe_lc (N' := ["_law_row", "_law_place"]) (js := [none, some 3]) rfl (pi_L (pv 0)) (by kernel_rfl) (gk_name rfl) (by kernel_rfl) rfl (fun _ _ _ => ⟨(pg_name (i := 0) (show List.Nodup [("_law_row" : Str), ("_law_place" : Str)] by decide +kernel) rfl (Or.inl rfl)), (pf_one (pt_cmpR op_notN (pe_ix ix_D (pv 0) (pv 1) (fun _ _ => rfl)) pe_non (nomark _))), (pe_ix ix_D (pv 0) (pv 1) (fun _ _ => rfl))⟩)) pa_nil)) pa_nil)))))
      (pss_one (ps_ret (pv 2))))), ?_⟩
    refine ⟨Nat.zero_le _, fun f hf => ?_⟩
    have lt : t.length = n := dg.sh.len
    refine ⟨_, rfl, (n : Int), rfl, by omega, by omega, for_range (lo := 0) (fun i σ H' => ∃ (hs : List Int) (z : Option V), σ = [some w', some (.int n), some (.ref f), z] ∧ H' f = some (.lst (hs.map V.int)) ∧ hs.length = i ∧ (∀ (j : Nat) m, hs[j]? = some m → ColMin t j m) ∧ Same H H')
      ⟨[], _, rfl, upd_same, rfl, fun j m z => by simp at z, Same.new hf⟩ ?_ ?_⟩
    · rintro i σ H' hi ⟨hs, z, rfl, hF, hl, hc, sm⟩
      rw [Int.toNat_natCast] at hi
      refine ⟨_, rfl, .inl ⟨rfl, _, SqL.of hF⟩, ?_⟩
      have hw' := hw.mono (P := P') sm.x
      cases id hw' with
      | @lst a ys _ na ha ta =>
      refine ⟨_, rfl, a, _, rfl, ha, lc_listD (P := P') (colF i) hw' (line1000 (by rw [List.length_map]; omega)) ?_ ?_⟩
      · intro j d x H2 Ny Nn hdj s2 hdn yes no
        obtain ⟨r, hr, rfl, hm⟩ := get_row hdj
        have hil : i < r.length := by rw [dg.sh.row r hm]; exact hi
        have hri : r[i]? = some r[i] := by simp [hil]
        refine ⟨_, rfl, _, rfl, ixL hdn (by rw [Int.zero_add]; exact at_cell hri) fun v1 hv1 => ?_⟩
        have ev := hv1.opt
        subst ev
        refine ⟨rfl, _, rfl, ?_⟩
        have ec : colF i (rowD r) = (r[i]).map PyData.int := by rw [colF_row, hri]; rfl
        cases hc2 : r[i] with
        | none => exact no _ (Same.refl _) (by rw [ec, hc2]; rfl)
        | some x =>
          refine ite_t rfl ?_
          refine ⟨_, rfl, _, rfl, ixL hdn (by rw [Int.zero_add]; exact at_cell hri) fun v2 hv2 => ?_⟩
          rw [hc2] at hv2
          cases hv2
          exact yes _ _ _ (Same.refl _) (by rw [ec, hc2]; rfl) (.int _)
      · intro l2 H2 ys2 s2 hl2 dns
        rw [col_eq] at dns
        refine ⟨_, P', colT t i, rfl, Dn.newL hl2 ((tr.same (sm.trans s2)).ne hl2) dns, col_ne dg hi, fun m hm1 hm2 => ?_⟩
        have s3 : Same H' (upd H2 l2 (.lst ys2)) := s2.trans (Same.new hl2)
        refine ⟨f, _, .int m, rfl, rfl, s3 _ _ hF, by rw [List.length_map]; exact small1000 (by omega), ?_⟩
        refine ⟨hs ++ [m], _, rfl, by rw [upd_same]; simp, by simp [hl], fun j m' hj => ?_, fun b o e => ?_⟩
        · by_cases hji : j < hs.length
          · rw [List.getElem?_append_left hji] at hj
            exact hc j m' hj
          · rw [List.getElem?_append_right (by omega)] at hj
            have : j - hs.length = 0 := by
              rcases Nat.eq_zero_or_pos (j - hs.length) with z | z
              · exact z
              · rw [List.getElem?_eq_none (by simp; omega)] at hj; cases hj
            rw [this] at hj
            cases hj
            have ej : j = i := by omega
            subst ej
            exact ⟨hm1, hm2⟩
        · rw [upd_ne (fun ez => by rw [ez, hf] at e; cases e)]
          exact (sm.trans s3) b o e
    · rintro σ H' ⟨hs, z, rfl, hF, hl, hc, sm⟩
      rw [Int.toNat_natCast] at hl
      exact ⟨_, rfl, k _ hs H' sm (dn_ints (tr.ne hf) hF) hl hc⟩
end My

set_option Elab.async false
set_option linter.all false
set_option maxRecDepth 100000
set_option maxHeartbeats 4000000
namespace My
open PySem L2
theorem ok_law {P : Program} {w : World} {K : PySem.W.Frag} {mg : Str → Option Value} {base : Heap} (T : Tx K mg) : Callee P w K mg base "law" ["_law_script"] 6 (spLaw K) := by
  have c__law_purse := ok__law_purse (P := P) (w := w) (base := base) T
  have c__law_any := ok__law_any (P := P) (w := w) (base := base) T
  have c__law_table := ok__law_table (P := P) (w := w) (base := base) T
  have c__law_taut := ok__law_taut (P := P) (w := w) (base := base) T
  have c__law_number := ok__law_number (P := P) (w := w) (base := base) T
  have c__law_heights := ok__law_heights (P := P) (w := w) (base := base) T
  have c__law_ring := ok__law_ring (P := P) (w := w) (base := base) T
  have c__law_asked := ok__law_asked (P := P) (w := w) (base := base) T
  have c__law_bent := ok__law_bent (P := P) (w := w) (base := base) T
  have c__law_draw := ok__law_draw (P := P) (w := w) (base := base) T
  refine callee_of T.d_law (fun _ _ _ _ _ _ us hl => match us, hl with | [_], _ => rfl) sc_law (fun vs H Q E h => ?_) (fun f cdv A outer s H vs Q E hr h => ?_)
  · obtain ⟨a, ns, rfl, _⟩ := h; rfl
  · obtain ⟨a, ns, rfl, hS, hlen, k⟩ := h
    refine ⟨_, (pss_cons (ps_for PassesOwn.never rfl (pi_range1 rfl T.n_range (pa_cons pe_int pa_nil)) (pg_name (i := 1) sc_law.nd rfl (Or.inl rfl))
      (pss_cons (ps_set (i := 2) sc_law.nd rfl (Or.inl rfl) (pe_callC c__law_purse hr (by decide) rfl (pa_cons (pv 0) (pa_cons (pv 1) pa_nil))))
      (pss_cons (ps_set (i := 3) sc_law.nd rfl (Or.inl rfl) (pe_callC c__law_any hr (by decide) rfl (pa_cons (pv 2) (pa_cons pe_int (pa_cons pe_int pa_nil)))))
      (pss_cons (ps_set (i := 4) sc_law.nd rfl (Or.inl rfl) (pe_callC c__law_table hr (by decide) rfl (pa_cons (pv 3) pa_nil)))
      (pss_cons (ps_setLC (i := 5) sc_law.nd rfl (Or.inl rfl) (N' := ["_law_k"]) (js := [none]) rfl (pi_range1 rfl T.n_range (pa_cons (pe_ix ix_D (pv 3) pe_int (fun _ _ => rfl)) pa_nil)) (by kernel_rfl) (gk_name rfl) (by kernel_rfl) rfl (fun _ _ _ => ⟨(pg_name (i := 0) (show List.Nodup [("_law_k" : Str)] by decide +kernel) rfl (Or.inl rfl)), pf_nil, pe_int⟩))
      (pss_cons (ps_if (pt_tru (pe_callC c__law_taut hr (by decide) rfl (pa_cons (pv 4) pa_nil)) (fun _ => rfl)) (pss_one (ps_set (i := 5) sc_law.nd rfl (Or.inl rfl) (pe_callC c__law_heights hr (by decide) rfl (pa_cons (pv 4) (pa_cons (pe_ix ix_D (pv 3) pe_int (fun _ _ => rfl)) pa_nil))))) pss_nil)
      (pss_cons (ps_set (i := 6) sc_law.nd rfl (Or.inr rfl) (pe_callC c__law_number hr (by decide) rfl (pa_cons (pv 2) (pa_cons (pe_op op_pow pe_int pe_int) pa_nil))))
      (pss_cons (ps_set (i := 7) sc_law.nd rfl (Or.inl rfl) (pe_lst (pa_cons (pv 5) (pa_cons (pe_lc (N' := ["_law_one", "_law_up"]) (js := [none, some 6]) rfl (pi_L (pv 5)) (by kernel_rfl) (gk_name rfl) (by kernel_rfl) rfl (fun _ _ _ => ⟨(pg_name (i := 0) (show List.Nodup [("_law_one" : Str), ("_law_up" : Str)] by decide +kernel) rfl (Or.inl rfl)), pf_nil, (pe_op op_addD (pv 0) (pv 1))⟩)) (pa_cons (pe_lst pa_nil) pa_nil)))))
      (pss_cons (ps_for PassesOwn.never rfl (pi_range1 rfl T.n_range (pa_cons (pe_op op_mulD pe_int (pe_callTy call_int1 rfl T.n_int PyProof.Rows.boot_int (pa_cons (pe_cmpR op_gt (pe_ix ix_D (pv 3) pe_int (fun _ _ => rfl)) pe_int (nomark _)) pa_nil))) pa_nil)) (pg_name (i := 8) sc_law.nd rfl (Or.inl rfl))
      (pss_cons (ps_set (i := 9) sc_law.nd rfl (Or.inl rfl) (pe_callC c__law_ring hr (by decide) rfl (pa_cons (pv 2) (pa_cons (pv 3) (pa_cons (pv 4) pa_nil)))))
      (pss_one (ps_set (i := 7) sc_law.nd rfl (Or.inl rfl) (pe_op op_addD (pv 7) (pe_lst (pa_cons (pv 9) (pa_cons (pe_op op_addD (pe_slice sl_D (pv 9) (po_some pe_int) po_none) (pe_slice sl_D (pv 9) po_none (po_some pe_int))) (pa_cons (pe_op op_addD (pv 9) (pv 9)) pa_nil)))))))))
      (pss_cons (ps_for PassesOwn.never rfl (pi_L (pv 7)) (pg_name (i := 10) sc_law.nd rfl (Or.inl rfl))
      (pss_one (ps_if (pt_not (pt_tru (pe_callC c__law_asked hr (by decide) rfl (pa_cons (pv 3) (pa_cons (pv 10) pa_nil))) (fun _ => rfl))) (pss_one (ps_ret pe_bl)) pss_nil)))
      (pss_one (ps_for PassesOwn.never rfl (pi_range1 rfl T.n_range (pa_cons pe_int pa_nil)) (pg_name (i := 8) sc_law.nd rfl (Or.inl rfl))
      (pss_one (ps_if (pt_not (pt_tru (pe_callC c__law_asked hr (by decide) rfl (pa_cons (pv 3) (pa_cons (pe_callC c__law_bent hr (by decide) rfl (pa_cons (pv 2) (pa_cons (pe_ix ix_D (pv 7) (pe_callC c__law_draw hr (by decide) rfl (pa_cons (pv 2) (pa_cons (pe_callB call_lenD rfl T.n_len PySem.boot_len (pa_cons (pv 7) pa_nil)) pa_nil))) (fun _ _ => rfl)) pa_nil))) pa_nil))) (fun _ => rfl))) (pss_one (ps_ret pe_bl)) pss_nil))))))))))))))
      (pss_one (ps_ret pe_bl))), ?_⟩
    refine ⟨3, rfl, by decide, by decide, for_range (lo := 0) (fun i σ H' => ∃ z1 z2 z3 z4 z5 z6 z7 z8 z9 z10 : Option V, σ = [some (.ref a), z1, z2, z3, z4, z5, z6, z7, z8, z9, z10] ∧ Same H H') ⟨_, _, _, _, _, _, _, _, _, _, rfl, Same.refl _⟩ ?_ ?_⟩
    · rintro i σ H0 hi ⟨z1, z2, z3, z4, z5, z6, z7, z8, z9, z10, rfl, S0⟩
      have hi3 : i < 3 := hi
      -- purse
      refine ⟨_, rfl, _, rfl, a, ns, _, rfl, S0.seq hS, by omega, by omega, fun q H1 hq s1 pu1 => ?_⟩
      have hqH : H q = none := S0.free hq
      -- net
      refine ⟨_, rfl, q, 7, 12, 63000, rfl, pu1, by decide, by decide, by decide, fun v n rs H2 nb pu2 sm2 hd => ?_⟩
      have ok : NetOk n rs := nb.ok (by decide) (by decide) (by decide)
      have n0 := ok.n0
      have n1 := ok.n1
      -- rows
      refine ⟨_, rfl, v, n, But q, rs, rfl, hd, ok, pu2.trk, fun w' H3 s3 hw => ?_⟩
      have hd3 := hd.mono s3.x
      have pu3 := pu2.same s3
      have dg := tableF_diag ok
      -- high
      refine ⟨_, rfl, ixT hd3 rfl fun v0 hv0 => ?_⟩
      cases hv0
      refine ⟨n, rfl, by omega, by omega, lc_rangeD (P := But q) (fun _ => some (.int 0)) (line1000 (by omega)) (fun j H' Ny Nn hj sm yes no => yes _ _ _ (Same.refl _) rfl (.int 0)) ?_⟩
      intro hh H4 ys s4 hhh dns
      have e0 : (List.range n.toNat).filterMap (fun _ => some (PyData.int 0)) = (List.replicate n.toNat (0 : Int)).map PyData.int := by
        rw [List.map_replicate]
        have : ∀ k : Nat, (List.range k).filterMap (fun _ => some (PyData.int 0)) = List.replicate k (PyData.int 0) := fun k => by
          induction k with
          | zero => rfl
          | succ k ih => rw [List.range_succ, List.filterMap_append, ih, List.replicate_succ']; rfl
        exact this _
      rw [e0] at dns
      have pu4 := pu3.same s4
      have DH : Dn (upd H4 hh (.lst ys)) (But q) (.ref hh) (intsD (List.replicate n.toNat 0)) := Dn.newL hhh (pu4.ne hhh) dns
      have s5 : Same H3 (upd H4 hh (.lst ys)) := s4.trans (Same.new hhh)
      have pu5 := pu3.same s5
      generalize upd H4 hh (.lst ys) = H5 at *
      have hd5 := hd3.mono s5.x
      have hw5 := hw.mono s5.x
      dsimp only
      refine seq_by (t := tIfS _ _ _) (fun σ' H' => ∃ (hv : V) (hs : List Int), σ' = [some (.ref a), some (.int (0 + (i : Int))), some (.ref q), some v, some w', some hv, z6, z7, z8, z9, z10] ∧ Same H5 H' ∧ Dn H' (But q) hv (intsD hs) ∧ hs.length ≤ 20) (fun U go => ?_) ?_
      · refine ⟨_, rfl, w', n.toNat, But q, _, rfl, hw5, dg, by omega, fun b H6 s6 _ => ⟨_, rfl, ?_⟩⟩
        refine ite2 (fun _ => ?_) (fun _ => ?_)
        · refine ⟨_, rfl, _, rfl, ixT (hd5.mono s6.x) rfl fun v0 hv0 => ?_⟩
          cases hv0
          refine ⟨w', n.toNat, But q, _, by rw [Int.toNat_of_nonneg n0]; rfl, hw5.mono s6.x, dg, by omega, (pu5.same s6).trk, fun v' hs H7 s7 hdn hl _ => ?_⟩
          exact go _ _ ⟨v', hs, rfl, s6.trans s7, hdn, by omega⟩
        · exact go _ _ ⟨_, _, rfl, s6, DH.mono s6.x, by rw [List.length_replicate]; omega⟩
      · rintro _ H6 ⟨hv, hs, rfl, s6, hdn, hl⟩
        have pu6 := pu5.same s6
        -- up
        refine ⟨_, rfl, _, _, rfl, rfl, ⟨by decide, by decide, by decide⟩, q, _, _, rfl, pu6, by decide, by decide, by decide, fun up H7 _ _ pu7 sm7 => ?_⟩
        have hdn7 := hdn.mono sm7
        have S37 : SameX (But q) H3 H7 := (s5.trans s6).x.trans sm7
        -- papers
        obtain ⟨ah, eah, _, hah⟩ := hdn7.ints
        subst eah
        refine ⟨_, rfl, _, rfl, ah, _, rfl, hah, lc_listD (P := But q) (onInt fun j => some (.int (j + up))) hdn7 (line1000 (by rw [List.length_map]; omega)) ?_ ?_⟩
        · intro j d x H' Ny Nn hdi sm hdn' yes no
          obtain ⟨y, hy, rfl, hm⟩ := get_int hdi
          cases hdn'
          exact ⟨_, rfl, _, rfl, addI (yes _ _ _ (Same.refl _) rfl (.int _))⟩
        · intro l2 H8 ys2 s8 hl2 dns2
          rw [on_ints, fm_some] at dns2
          have D2 : Dn (upd H8 l2 (.lst ys2)) (But q) (.ref l2) (intsD (hs.map fun j => j + up)) := Dn.newL hl2 ((pu7.same s8).ne hl2) dns2
          have s9 : Same H7 (upd H8 l2 (.lst ys2)) := s8.trans (Same.new hl2)
          have pu9 := pu7.same s9
          generalize upd H8 l2 (.lst ys2) = H9 at *
          refine ⟨Nat.zero_le _, fun l3 hl3 => ⟨(by show 3 ≤ sizeLine; decide), fun l4 hl4 => ?_⟩⟩
          have D3 : Dn (upd H9 l3 (.lst [])) (But q) (.ref l3) (intsD []) := Dn.newL hl3 (pu9.ne hl3) .nil
          have s10 : Same H9 (upd H9 l3 (.lst [])) := Same.new hl3
          have pu10 := pu9.same s10
          generalize upd H9 l3 (.lst []) = H10 at *
          have D4 : Dn (upd H10 l4 (.lst [.ref ah, .ref l2, .ref l3])) (But q) (.ref l4) (papD [hs, hs.map (fun j => j + up), []]) :=
            Dn.newL hl4 (pu10.ne hl4) (.cons (hdn7.mono (s9.trans s10).x) (.cons (D2.mono s10.x) (.cons D3 .nil)))
          have s11 : Same H7 (upd H10 l4 (.lst [.ref ah, .ref l2, .ref l3])) := (s9.trans s10).trans (Same.new hl4)
          have pu11 := pu7.same s11
          generalize upd H10 l4 (.lst [.ref ah, .ref l2, .ref l3]) = H11 at *
          have S311 : SameX (But q) H3 H11 := S37.trans s11.x
          -- rings
          refine ⟨_, rfl, ixT (hd3.mono S311) rfl fun v0 hv0 => ?_⟩
          cases hv0
          refine ⟨_, _, rfl, rfl, .inr ⟨_, rfl, mulI (.inl ⟨by decide, by decide⟩) ?_⟩⟩
          obtain ⟨T', eT, hT1, hT2⟩ : ∃ T' : Nat, 3 * (if decide (0 < n) = true then (1 : Int) else 0) = T' ∧ T' ≤ 3 ∧ (0 < T' → 0 < n) := by
            by_cases hn : 0 < n
            · rw [if_pos (decide_eq_true hn)]; exact ⟨3, by omega, by omega, fun _ => hn⟩
            · rw [if_neg (by simpa using hn)]; exact ⟨0, by omega, by omega, fun z => absurd z (by omega)⟩
          refine ⟨(T' : Int), by rw [← eT], by omega, by omega, ?_⟩
          refine for_range (lo := 0) (fun j σ H' => ∃ (pv : V) (pps : List (List Int)) (y1 y2 y3 : Option V), σ = [some (.ref a), some (.int (0 + (i : Int))), some (.ref q), some v, some w', some (.ref ah), some (.int up), some pv, y1, y2, y3] ∧ Dn H' (But q) pv (papD pps) ∧ pps.length = 3 + 3 * j ∧ (∀ p ∈ pps, p.length ≤ 60) ∧ Pu H' q (63000 + 3000 + 100 * j) ∧ SameX (But q) H3 H')
            ⟨_, _, _, _, _, rfl, D4, rfl, fun p hp => ?_, pu11.mono (by omega), S311⟩ ?_ ?_
          · rcases List.mem_cons.mp hp with rfl | hp
            · omega
            · rcases List.mem_cons.mp hp with rfl | hp
              · rw [List.length_map]; omega
              · rw [List.mem_singleton.mp hp]; simp
          · rintro j σ H' hj ⟨pv, pps, y1, y2, y3, rfl, hpv, hpl, hpb, puI, smI⟩
            refine ⟨_, rfl, _, rfl, _, rfl, q, v, w', _, n, rs, _, rfl, puI, by omega, hd3.mono smI, ok, by have := hT2 (by omega); omega, hw.mono smI, dg, fun rg ws HA hin hwl puA smA hrg => ?_⟩
            have hpvA := hpv.mono smA
            refine ⟨_, rfl, _, rfl, _, rfl, _, rfl, slInts puA.trk hrg fun p1 HB sB DB => ?_⟩
            refine ⟨_, rfl, _, rfl, slInts (puA.same sB).trk (hrg.mono sB.x) fun p2 HC sC DC => ?_⟩
            have l1 := cutD_len ws (some 1) none
            have l2' := cutD_len ws none (some 1)
            refine addInts ((puA.same sB).same sC).trk (DB.mono sC.x) DC (by omega) fun p3 HD sD DD => ?_
            have sAD := (sB.trans sC).trans sD
            refine ⟨_, rfl, _, rfl, addInts (puA.same sAD).trk (hrg.mono sAD.x) (hrg.mono sAD.x) (by omega) fun p4 HE sE DE => ?_⟩
            refine ⟨(by show 3 ≤ sizeLine; decide), fun p5 hp5 => ?_⟩
            have sAE := sAD.trans sE
            have puE := puA.same sAE
            have D5 : Dn (upd HE p5 (.lst [rg, .ref p3, .ref p4])) (But q) (.ref p5) (papD [ws, cutD ws (some 1) none ++ cutD ws none (some 1), ws ++ ws]) :=
              Dn.newL hp5 (puE.ne hp5) (.cons (hrg.mono sAE.x) (.cons (DD.mono sE.x) (.cons DE .nil)))
            have sF : Same HE (upd HE p5 (.lst [rg, .ref p3, .ref p4])) := Same.new hp5
            have puF := puE.same sF
            have sAF := sAE.trans sF
            generalize upd HE p5 (.lst [rg, .ref p3, .ref p4]) = HF at *
            refine addL (hpvA.mono sAF.x) D5 (line1000 (by simp; omega)) fun p6 xs ys6 hp6 dx dy => ?_
            have D6 : Dn (upd HF p6 (.lst (xs ++ ys6))) (But q) (.ref p6) (papD (pps ++ [ws, cutD ws (some 1) none ++ cutD ws none (some 1), ws ++ ws])) := by
              unfold papD
              rw [List.map_append]
              exact Dn.newL hp6 (puF.ne hp6) (dx.app dy)
            refine ⟨_, _, _, _, _, rfl, D6, by simp [hpl]; omega, fun p hp => ?_, (puF.same (Same.new hp6)).mono (by omega), ((smI.trans smA).trans sAF.x).trans (SameX.new hp6)⟩
            rcases List.mem_append.mp hp with hp | hp
            · exact hpb p hp
            · rcases List.mem_cons.mp hp with rfl | hp
              · omega
              · rcases List.mem_cons.mp hp with rfl | hp
                · rw [List.length_append]; omega
                · rw [List.mem_singleton.mp hp, List.length_append]; omega
          · rintro σ H12 ⟨pv, pps, y1, y2, y3, rfl, hpv, hpl, hpb, puI, smI⟩
            -- each paper
            cases id hpv with
            | @lst pa ys12 _ npa hpa tpa =>
            refine ⟨_, rfl, pa, _, rfl, hpa, for_L (a := pa) (xs := ys12) (fun j σ H' => ∃ y1 y2 y3 : Option V, σ = [some (.ref a), some (.int (0 + (i : Int))), some (.ref q), some v, some w', some (.ref ah), some (.int up), some (.ref pa), y1, y2, y3] ∧ Same H12 H')
              ⟨_, _, _, rfl, Same.refl _⟩ (fun j σ H' _ ⟨_, _, _, _, sm⟩ => sm _ _ hpa) ?_ ?_⟩
            · rintro j y σ H' hj ⟨y1, y2, y3, rfl, sm⟩
              obtain ⟨d, hdj, hdn'⟩ := tpa.getV hj
              rw [List.getElem?_map] at hdj
              cases ep : pps[j]? with
              | none => rw [ep] at hdj; cases hdj
              | some p =>
              rw [ep] at hdj
              cases hdj
              refine ⟨_, rfl, _, rfl, v, y, n, But q, But q, rs, p, rfl, (hd3.mono smI).mono sm.x, ok, hdn'.mono sm.x, by have := hpb p (List.mem_of_getElem? ep); omega, fun H13 s13 => ⟨_, rfl, ?_⟩⟩
              refine ite_f rfl ?_
              exact ⟨_, _, _, rfl, sm.trans s13⟩
            · rintro σ H13 ⟨y1, y2, y3, rfl, s13⟩
              -- bent papers
              refine ⟨8, rfl, by decide, by decide, for_range (lo := 0) (fun j σ H' => ∃ y1 y2 y3 : Option V, σ = [some (.ref a), some (.int (0 + (i : Int))), some (.ref q), some v, some w', some (.ref ah), some (.int up), some (.ref pa), y1, y2, y3] ∧ SameX (But q) H12 H' ∧ Pu H' q (70000 + 200 * j))
                ⟨_, _, _, rfl, s13.x, (puI.same s13).mono (by omega)⟩ ?_ ?_⟩
              · rintro j σ H' hj ⟨y1, y2, y3, rfl, sm, puJ⟩
                have hj8 : j < 8 := hj
                have hpvJ := hpv.mono sm
                have hpl2 : (pps.map intsD).length = pps.length := List.length_map ..
                refine ⟨_, rfl, _, rfl, _, rfl, _, rfl, _, rfl, lenL hpvJ ⟨q, _, _, rfl, puJ, by omega, by rw [hpl2]; omega, by rw [hpl2]; omega, fun g HA g0 g1 puA smA => ?_⟩⟩
                rw [hpl2] at g1
                obtain ⟨p, hp⟩ := at_in (xs := pps) g0 g1
                have hat : atI (pps.map intsD) g = some (intsD p) := by
                  obtain ⟨x, hx, hx2⟩ := atI_in (xs := pps.map intsD) g0 (by rw [hpl2]; exact g1)
                  rw [List.getElem?_map, hp] at hx2
                  rw [hx, ← hx2]
                  rfl
                refine ixL (hpvJ.mono smA) hat fun y hy => ?_
                refine ⟨q, y, _, p, rfl, puA, by omega, hy, by have := hpb p (List.mem_of_getElem? hp); omega, fun v' ws' HB hlb puB smB hv' => ?_⟩
                refine ⟨v, v', n, But q, But q, rs, ws', rfl, (((hd3.mono smI).mono sm).mono smA).mono smB, ok, hv', by omega, fun HC sC => ⟨_, rfl, ?_⟩⟩
                refine ite_f rfl ?_
                exact ⟨_, _, _, rfl, ((sm.trans smA).trans smB).trans sC.x, (puB.same sC).mono (by omega)⟩
              · rintro σ H14 ⟨y1, y2, y3, rfl, sm14, pu14⟩
                refine ⟨_, _, _, _, _, _, _, _, _, _, rfl, ?_⟩
                exact same_of hqH (S0.trans s1) (((sm2.trans s3.x).trans smI).trans sm14)
    · rintro σ H' ⟨z1, z2, z3, z4, z5, z6, z7, z8, z9, z10, rfl, S0⟩
      exact k H'
theorem tx_mk {K : PySem.W.Frag} {h : Heap} {mg : Str → Option Value} (X : K.In h) (G : h.Ns mainGlobals mg)
    {f0 : Addr} {oc0 kV0 dc0 pm0 cd0 ct0 : Value} {od0 an0 : Option Addr} {sl0 : Array (Option Value)} (a0 : PySem.W.nsIn K mainGlobals "_law_at" = some (some (.ref f0)))
    (l0 : K.lookup f0 = some ⟨oc0, od0, .func (PySem.W.fnOf "_law_at" "_law_at" (defArgs s__law_at) (defBody s__law_at) (defScope s__law_at) .none kV0 dc0 pm0 an0 cd0 ct0), sl0⟩) (c0 : PySem.W.codeIn K cd0 "_law_at" = true) (k0 : PySem.W.keepIn K (.ref f0) = true)
    {f1 : Addr} {oc1 kV1 dc1 pm1 cd1 ct1 : Value} {od1 an1 : Option Addr} {sl1 : Array (Option Value)} (a1 : PySem.W.nsIn K mainGlobals "_law_purse" = some (some (.ref f1)))
    (l1 : K.lookup f1 = some ⟨oc1, od1, .func (PySem.W.fnOf "_law_purse" "_law_purse" (defArgs s__law_purse) (defBody s__law_purse) (defScope s__law_purse) .none kV1 dc1 pm1 an1 cd1 ct1), sl1⟩) (c1 : PySem.W.codeIn K cd1 "_law_purse" = true) (k1 : PySem.W.keepIn K (.ref f1) = true)
    {f2 : Addr} {oc2 kV2 dc2 pm2 cd2 ct2 : Value} {od2 an2 : Option Addr} {sl2 : Array (Option Value)} (a2 : PySem.W.nsIn K mainGlobals "_law_mixed" = some (some (.ref f2)))
    (l2 : K.lookup f2 = some ⟨oc2, od2, .func (PySem.W.fnOf "_law_mixed" "_law_mixed" (defArgs s__law_mixed) (defBody s__law_mixed) (defScope s__law_mixed) .none kV2 dc2 pm2 an2 cd2 ct2), sl2⟩) (c2 : PySem.W.codeIn K cd2 "_law_mixed" = true) (k2 : PySem.W.keepIn K (.ref f2) = true)
    {f3 : Addr} {oc3 kV3 dc3 pm3 cd3 ct3 : Value} {od3 an3 : Option Addr} {sl3 : Array (Option Value)} (a3 : PySem.W.nsIn K mainGlobals "_law_draw" = some (some (.ref f3)))
    (l3 : K.lookup f3 = some ⟨oc3, od3, .func (PySem.W.fnOf "_law_draw" "_law_draw" (defArgs s__law_draw) (defBody s__law_draw) (defScope s__law_draw) .none kV3 dc3 pm3 an3 cd3 ct3), sl3⟩) (c3 : PySem.W.codeIn K cd3 "_law_draw" = true) (k3 : PySem.W.keepIn K (.ref f3) = true)
    {f4 : Addr} {oc4 kV4 dc4 pm4 cd4 ct4 : Value} {od4 an4 : Option Addr} {sl4 : Array (Option Value)} (a4 : PySem.W.nsIn K mainGlobals "_law_number" = some (some (.ref f4)))
    (l4 : K.lookup f4 = some ⟨oc4, od4, .func (PySem.W.fnOf "_law_number" "_law_number" (defArgs s__law_number) (defBody s__law_number) (defScope s__law_number) .none kV4 dc4 pm4 an4 cd4 ct4), sl4⟩) (c4 : PySem.W.codeIn K cd4 "_law_number" = true) (k4 : PySem.W.keepIn K (.ref f4) = true)
    {f5 : Addr} {oc5 kV5 dc5 pm5 cd5 ct5 : Value} {od5 an5 : Option Addr} {sl5 : Array (Option Value)} (a5 : PySem.W.nsIn K mainGlobals "_law_net" = some (some (.ref f5)))
    (l5 : K.lookup f5 = some ⟨oc5, od5, .func (PySem.W.fnOf "_law_net" "_law_net" (defArgs s__law_net) (defBody s__law_net) (defScope s__law_net) .none kV5 dc5 pm5 an5 cd5 ct5), sl5⟩) (c5 : PySem.W.codeIn K cd5 "_law_net" = true) (k5 : PySem.W.keepIn K (.ref f5) = true)
    {f6 : Addr} {oc6 kV6 dc6 pm6 cd6 ct6 : Value} {od6 an6 : Option Addr} {sl6 : Array (Option Value)} (a6 : PySem.W.nsIn K mainGlobals "_law_any" = some (some (.ref f6)))
    (l6 : K.lookup f6 = some ⟨oc6, od6, .func (PySem.W.fnOf "_law_any" "_law_any" (defArgs s__law_any) (defBody s__law_any) (defScope s__law_any) .none kV6 dc6 pm6 an6 cd6 ct6), sl6⟩) (c6 : PySem.W.codeIn K cd6 "_law_any" = true) (k6 : PySem.W.keepIn K (.ref f6) = true)
    {f7 : Addr} {oc7 kV7 dc7 pm7 cd7 ct7 : Value} {od7 an7 : Option Addr} {sl7 : Array (Option Value)} (a7 : PySem.W.nsIn K mainGlobals "_law_table" = some (some (.ref f7)))
    (l7 : K.lookup f7 = some ⟨oc7, od7, .func (PySem.W.fnOf "_law_table" "_law_table" (defArgs s__law_table) (defBody s__law_table) (defScope s__law_table) .none kV7 dc7 pm7 an7 cd7 ct7), sl7⟩) (c7 : PySem.W.codeIn K cd7 "_law_table" = true) (k7 : PySem.W.keepIn K (.ref f7) = true)
    {f8 : Addr} {oc8 kV8 dc8 pm8 cd8 ct8 : Value} {od8 an8 : Option Addr} {sl8 : Array (Option Value)} (a8 : PySem.W.nsIn K mainGlobals "_law_taut" = some (some (.ref f8)))
    (l8 : K.lookup f8 = some ⟨oc8, od8, .func (PySem.W.fnOf "_law_taut" "_law_taut" (defArgs s__law_taut) (defBody s__law_taut) (defScope s__law_taut) .none kV8 dc8 pm8 an8 cd8 ct8), sl8⟩) (c8 : PySem.W.codeIn K cd8 "_law_taut" = true) (k8 : PySem.W.keepIn K (.ref f8) = true)
    {f9 : Addr} {oc9 kV9 dc9 pm9 cd9 ct9 : Value} {od9 an9 : Option Addr} {sl9 : Array (Option Value)} (a9 : PySem.W.nsIn K mainGlobals "_law_heights" = some (some (.ref f9)))
    (l9 : K.lookup f9 = some ⟨oc9, od9, .func (PySem.W.fnOf "_law_heights" "_law_heights" (defArgs s__law_heights) (defBody s__law_heights) (defScope s__law_heights) .none kV9 dc9 pm9 an9 cd9 ct9), sl9⟩) (c9 : PySem.W.codeIn K cd9 "_law_heights" = true) (k9 : PySem.W.keepIn K (.ref f9) = true)
    {f10 : Addr} {oc10 kV10 dc10 pm10 cd10 ct10 : Value} {od10 an10 : Option Addr} {sl10 : Array (Option Value)} (a10 : PySem.W.nsIn K mainGlobals "_law_ring" = some (some (.ref f10)))
    (l10 : K.lookup f10 = some ⟨oc10, od10, .func (PySem.W.fnOf "_law_ring" "_law_ring" (defArgs s__law_ring) (defBody s__law_ring) (defScope s__law_ring) .none kV10 dc10 pm10 an10 cd10 ct10), sl10⟩) (c10 : PySem.W.codeIn K cd10 "_law_ring" = true) (k10 : PySem.W.keepIn K (.ref f10) = true)
    {f11 : Addr} {oc11 kV11 dc11 pm11 cd11 ct11 : Value} {od11 an11 : Option Addr} {sl11 : Array (Option Value)} (a11 : PySem.W.nsIn K mainGlobals "is_place" = some (some (.ref f11)))
    (l11 : K.lookup f11 = some ⟨oc11, od11, .func (PySem.W.fnOf "is_place" "is_place" (defArgs s_is_place) (defBody s_is_place) (defScope s_is_place) .none kV11 dc11 pm11 an11 cd11 ct11), sl11⟩) (c11 : PySem.W.codeIn K cd11 "is_place" = true) (k11 : PySem.W.keepIn K (.ref f11) = true)
    {f12 : Addr} {oc12 kV12 dc12 pm12 cd12 ct12 : Value} {od12 an12 : Option Addr} {sl12 : Array (Option Value)} (a12 : PySem.W.nsIn K mainGlobals "is_road" = some (some (.ref f12)))
    (l12 : K.lookup f12 = some ⟨oc12, od12, .func (PySem.W.fnOf "is_road" "is_road" (defArgs s_is_road) (defBody s_is_road) (defScope s_is_road) .none kV12 dc12 pm12 an12 cd12 ct12), sl12⟩) (c12 : PySem.W.codeIn K cd12 "is_road" = true) (k12 : PySem.W.keepIn K (.ref f12) = true)
    {f13 : Addr} {oc13 kV13 dc13 pm13 cd13 ct13 : Value} {od13 an13 : Option Addr} {sl13 : Array (Option Value)} (a13 : PySem.W.nsIn K mainGlobals "check_net" = some (some (.ref f13)))
    (l13 : K.lookup f13 = some ⟨oc13, od13, .func (PySem.W.fnOf "check_net" "check_net" (defArgs s_check_net) (defBody s_check_net) (defScope s_check_net) .none kV13 dc13 pm13 an13 cd13 ct13), sl13⟩) (c13 : PySem.W.codeIn K cd13 "check_net" = true) (k13 : PySem.W.keepIn K (.ref f13) = true)
    {f14 : Addr} {oc14 kV14 dc14 pm14 cd14 ct14 : Value} {od14 an14 : Option Addr} {sl14 : Array (Option Value)} (a14 : PySem.W.nsIn K mainGlobals "are_heights" = some (some (.ref f14)))
    (l14 : K.lookup f14 = some ⟨oc14, od14, .func (PySem.W.fnOf "are_heights" "are_heights" (defArgs s_are_heights) (defBody s_are_heights) (defScope s_are_heights) .none kV14 dc14 pm14 an14 cd14 ct14), sl14⟩) (c14 : PySem.W.codeIn K cd14 "are_heights" = true) (k14 : PySem.W.keepIn K (.ref f14) = true)
    {f15 : Addr} {oc15 kV15 dc15 pm15 cd15 ct15 : Value} {od15 an15 : Option Addr} {sl15 : Array (Option Value)} (a15 : PySem.W.nsIn K mainGlobals "shows_heights" = some (some (.ref f15)))
    (l15 : K.lookup f15 = some ⟨oc15, od15, .func (PySem.W.fnOf "shows_heights" "shows_heights" (defArgs s_shows_heights) (defBody s_shows_heights) (defScope s_shows_heights) .none kV15 dc15 pm15 an15 cd15 ct15), sl15⟩) (c15 : PySem.W.codeIn K cd15 "shows_heights" = true) (k15 : PySem.W.keepIn K (.ref f15) = true)
    {f16 : Addr} {oc16 kV16 dc16 pm16 cd16 ct16 : Value} {od16 an16 : Option Addr} {sl16 : Array (Option Value)} (a16 : PySem.W.nsIn K mainGlobals "leads" = some (some (.ref f16)))
    (l16 : K.lookup f16 = some ⟨oc16, od16, .func (PySem.W.fnOf "leads" "leads" (defArgs s_leads) (defBody s_leads) (defScope s_leads) .none kV16 dc16 pm16 an16 cd16 ct16), sl16⟩) (c16 : PySem.W.codeIn K cd16 "leads" = true) (k16 : PySem.W.keepIn K (.ref f16) = true)
    {f17 : Addr} {oc17 kV17 dc17 pm17 cd17 ct17 : Value} {od17 an17 : Option Addr} {sl17 : Array (Option Value)} (a17 : PySem.W.nsIn K mainGlobals "is_ring" = some (some (.ref f17)))
    (l17 : K.lookup f17 = some ⟨oc17, od17, .func (PySem.W.fnOf "is_ring" "is_ring" (defArgs s_is_ring) (defBody s_is_ring) (defScope s_is_ring) .none kV17 dc17 pm17 an17 cd17 ct17), sl17⟩) (c17 : PySem.W.codeIn K cd17 "is_ring" = true) (k17 : PySem.W.keepIn K (.ref f17) = true)
    {f18 : Addr} {oc18 kV18 dc18 pm18 cd18 ct18 : Value} {od18 an18 : Option Addr} {sl18 : Array (Option Value)} (a18 : PySem.W.nsIn K mainGlobals "way_length" = some (some (.ref f18)))
    (l18 : K.lookup f18 = some ⟨oc18, od18, .func (PySem.W.fnOf "way_length" "way_length" (defArgs s_way_length) (defBody s_way_length) (defScope s_way_length) .none kV18 dc18 pm18 an18 cd18 ct18), sl18⟩) (c18 : PySem.W.codeIn K cd18 "way_length" = true) (k18 : PySem.W.keepIn K (.ref f18) = true)
    {f19 : Addr} {oc19 kV19 dc19 pm19 cd19 ct19 : Value} {od19 an19 : Option Addr} {sl19 : Array (Option Value)} (a19 : PySem.W.nsIn K mainGlobals "shows_ring" = some (some (.ref f19)))
    (l19 : K.lookup f19 = some ⟨oc19, od19, .func (PySem.W.fnOf "shows_ring" "shows_ring" (defArgs s_shows_ring) (defBody s_shows_ring) (defScope s_shows_ring) .none kV19 dc19 pm19 an19 cd19 ct19), sl19⟩) (c19 : PySem.W.codeIn K cd19 "shows_ring" = true) (k19 : PySem.W.keepIn K (.ref f19) = true)
    {f20 : Addr} {oc20 kV20 dc20 pm20 cd20 ct20 : Value} {od20 an20 : Option Addr} {sl20 : Array (Option Value)} (a20 : PySem.W.nsIn K mainGlobals "_law_is_way" = some (some (.ref f20)))
    (l20 : K.lookup f20 = some ⟨oc20, od20, .func (PySem.W.fnOf "_law_is_way" "_law_is_way" (defArgs s__law_is_way) (defBody s__law_is_way) (defScope s__law_is_way) .none kV20 dc20 pm20 an20 cd20 ct20), sl20⟩) (c20 : PySem.W.codeIn K cd20 "_law_is_way" = true) (k20 : PySem.W.keepIn K (.ref f20) = true)
    {f21 : Addr} {oc21 kV21 dc21 pm21 cd21 ct21 : Value} {od21 an21 : Option Addr} {sl21 : Array (Option Value)} (a21 : PySem.W.nsIn K mainGlobals "_law_high" = some (some (.ref f21)))
    (l21 : K.lookup f21 = some ⟨oc21, od21, .func (PySem.W.fnOf "_law_high" "_law_high" (defArgs s__law_high) (defBody s__law_high) (defScope s__law_high) .none kV21 dc21 pm21 an21 cd21 ct21), sl21⟩) (c21 : PySem.W.codeIn K cd21 "_law_high" = true) (k21 : PySem.W.keepIn K (.ref f21) = true)
    {f22 : Addr} {oc22 kV22 dc22 pm22 cd22 ct22 : Value} {od22 an22 : Option Addr} {sl22 : Array (Option Value)} (a22 : PySem.W.nsIn K mainGlobals "_law_long" = some (some (.ref f22)))
    (l22 : K.lookup f22 = some ⟨oc22, od22, .func (PySem.W.fnOf "_law_long" "_law_long" (defArgs s__law_long) (defBody s__law_long) (defScope s__law_long) .none kV22 dc22 pm22 an22 cd22 ct22), sl22⟩) (c22 : PySem.W.codeIn K cd22 "_law_long" = true) (k22 : PySem.W.keepIn K (.ref f22) = true)
    {f23 : Addr} {oc23 kV23 dc23 pm23 cd23 ct23 : Value} {od23 an23 : Option Addr} {sl23 : Array (Option Value)} (a23 : PySem.W.nsIn K mainGlobals "_law_asked" = some (some (.ref f23)))
    (l23 : K.lookup f23 = some ⟨oc23, od23, .func (PySem.W.fnOf "_law_asked" "_law_asked" (defArgs s__law_asked) (defBody s__law_asked) (defScope s__law_asked) .none kV23 dc23 pm23 an23 cd23 ct23), sl23⟩) (c23 : PySem.W.codeIn K cd23 "_law_asked" = true) (k23 : PySem.W.keepIn K (.ref f23) = true)
    {f24 : Addr} {oc24 kV24 dc24 pm24 cd24 ct24 : Value} {od24 an24 : Option Addr} {sl24 : Array (Option Value)} (a24 : PySem.W.nsIn K mainGlobals "_law_bent" = some (some (.ref f24)))
    (l24 : K.lookup f24 = some ⟨oc24, od24, .func (PySem.W.fnOf "_law_bent" "_law_bent" (defArgs s__law_bent) (defBody s__law_bent) (defScope s__law_bent) .none kV24 dc24 pm24 an24 cd24 ct24), sl24⟩) (c24 : PySem.W.codeIn K cd24 "_law_bent" = true) (k24 : PySem.W.keepIn K (.ref f24) = true)
    {f25 : Addr} {oc25 kV25 dc25 pm25 cd25 ct25 : Value} {od25 an25 : Option Addr} {sl25 : Array (Option Value)} (a25 : PySem.W.nsIn K mainGlobals "law" = some (some (.ref f25)))
    (l25 : K.lookup f25 = some ⟨oc25, od25, .func (PySem.W.fnOf "law" "law" (defArgs s_law) (defBody s_law) (defScope s_law) .none kV25 dc25 pm25 an25 cd25 ct25), sl25⟩) (c25 : PySem.W.codeIn K cd25 "law" = true) (k25 : PySem.W.keepIn K (.ref f25) = true)
    (z_all : PySem.W.nsIn K mainGlobals "all" = some none)
    (z_bool : PySem.W.nsIn K mainGlobals "bool" = some none)
    (z_enumerate : PySem.W.nsIn K mainGlobals "enumerate" = some none)
    (z_int : PySem.W.nsIn K mainGlobals "int" = some none)
    (z_isinstance : PySem.W.nsIn K mainGlobals "isinstance" = some none)
    (z_len : PySem.W.nsIn K mainGlobals "len" = some none)
    (z_list : PySem.W.nsIn K mainGlobals "list" = some none)
    (z_max : PySem.W.nsIn K mainGlobals "max" = some none)
    (z_min : PySem.W.nsIn K mainGlobals "min" = some none)
    (z_range : PySem.W.nsIn K mainGlobals "range" = some none)
    (z_sum : PySem.W.nsIn K mainGlobals "sum" = some none)
    {t_MOST_LENGTH : Tok} (w_MOST_LENGTH : PySem.W.nsIn K mainGlobals "MOST_LENGTH" = some (some (.int (1000000000) t_MOST_LENGTH)))
    {t_MOST_PLACES : Tok} (w_MOST_PLACES : PySem.W.nsIn K mainGlobals "MOST_PLACES" = some (some (.int (20) t_MOST_PLACES)))
    {t_MOST_ROADS : Tok} (w_MOST_ROADS : PySem.W.nsIn K mainGlobals "MOST_ROADS" = some (some (.int (60) t_MOST_ROADS)))
    : Tx K mg := {
    d__law_at := ⟨f0, _, fun_mk (st := s__law_at) l0 c0 k0, PySem.W.mg_of X G a0⟩
    d__law_purse := ⟨f1, _, fun_mk (st := s__law_purse) l1 c1 k1, PySem.W.mg_of X G a1⟩
    d__law_mixed := ⟨f2, _, fun_mk (st := s__law_mixed) l2 c2 k2, PySem.W.mg_of X G a2⟩
    d__law_draw := ⟨f3, _, fun_mk (st := s__law_draw) l3 c3 k3, PySem.W.mg_of X G a3⟩
    d__law_number := ⟨f4, _, fun_mk (st := s__law_number) l4 c4 k4, PySem.W.mg_of X G a4⟩
    d__law_net := ⟨f5, _, fun_mk (st := s__law_net) l5 c5 k5, PySem.W.mg_of X G a5⟩
    d__law_any := ⟨f6, _, fun_mk (st := s__law_any) l6 c6 k6, PySem.W.mg_of X G a6⟩
    d__law_table := ⟨f7, _, fun_mk (st := s__law_table) l7 c7 k7, PySem.W.mg_of X G a7⟩
    d__law_taut := ⟨f8, _, fun_mk (st := s__law_taut) l8 c8 k8, PySem.W.mg_of X G a8⟩
    d__law_heights := ⟨f9, _, fun_mk (st := s__law_heights) l9 c9 k9, PySem.W.mg_of X G a9⟩
    d__law_ring := ⟨f10, _, fun_mk (st := s__law_ring) l10 c10 k10, PySem.W.mg_of X G a10⟩
    d_is_place := ⟨f11, _, fun_mk (st := s_is_place) l11 c11 k11, PySem.W.mg_of X G a11⟩
    d_is_road := ⟨f12, _, fun_mk (st := s_is_road) l12 c12 k12, PySem.W.mg_of X G a12⟩
    d_check_net := ⟨f13, _, fun_mk (st := s_check_net) l13 c13 k13, PySem.W.mg_of X G a13⟩
    d_are_heights := ⟨f14, _, fun_mk (st := s_are_heights) l14 c14 k14, PySem.W.mg_of X G a14⟩
    d_shows_heights := ⟨f15, _, fun_mk (st := s_shows_heights) l15 c15 k15, PySem.W.mg_of X G a15⟩
    d_leads := ⟨f16, _, fun_mk (st := s_leads) l16 c16 k16, PySem.W.mg_of X G a16⟩
    d_is_ring := ⟨f17, _, fun_mk (st := s_is_ring) l17 c17 k17, PySem.W.mg_of X G a17⟩
    d_way_length := ⟨f18, _, fun_mk (st := s_way_length) l18 c18 k18, PySem.W.mg_of X G a18⟩
    d_shows_ring := ⟨f19, _, fun_mk (st := s_shows_ring) l19 c19 k19, PySem.W.mg_of X G a19⟩
    d__law_is_way := ⟨f20, _, fun_mk (st := s__law_is_way) l20 c20 k20, PySem.W.mg_of X G a20⟩
    d__law_high := ⟨f21, _, fun_mk (st := s__law_high) l21 c21 k21, PySem.W.mg_of X G a21⟩
    d__law_long := ⟨f22, _, fun_mk (st := s__law_long) l22 c22 k22, PySem.W.mg_of X G a22⟩
    d__law_asked := ⟨f23, _, fun_mk (st := s__law_asked) l23 c23 k23, PySem.W.mg_of X G a23⟩
    d__law_bent := ⟨f24, _, fun_mk (st := s__law_bent) l24 c24 k24, PySem.W.mg_of X G a24⟩
    d_law := ⟨f25, _, fun_mk (st := s_law) l25 c25 k25, PySem.W.mg_of X G a25⟩
    n_all := PySem.W.mg_none_of X G z_all
    n_bool := PySem.W.mg_none_of X G z_bool
    n_enumerate := PySem.W.mg_none_of X G z_enumerate
    n_int := PySem.W.mg_none_of X G z_int
    n_isinstance := PySem.W.mg_none_of X G z_isinstance
    n_len := PySem.W.mg_none_of X G z_len
    n_list := PySem.W.mg_none_of X G z_list
    n_max := PySem.W.mg_none_of X G z_max
    n_min := PySem.W.mg_none_of X G z_min
    n_range := PySem.W.mg_none_of X G z_range
    n_sum := PySem.W.mg_none_of X G z_sum
    g_MOST_LENGTH := ⟨_, PySem.W.mg_of X G w_MOST_LENGTH⟩
    g_MOST_PLACES := ⟨_, PySem.W.mg_of X G w_MOST_PLACES⟩
    g_MOST_ROADS := ⟨_, PySem.W.mg_of X G w_MOST_ROADS⟩ }
end My
open PySem PySem.W PyProof.Rows
set_option maxRecDepth 100000 in
set_option maxHeartbeats 0 in
theorem PySem.Challenge.cw_tautroads_k06_heights_and_rings_looked_a_holds : PySem.Challenge.rw_tautroads_k06_heights_and_rings_looked_a.Holds := by
  w_on; o_law; k_head; (case hw => w_witness2)
  k_fill
  refine L2.walk_ofK (l := PySem.Challenge.rw_tautroads_k06_heights_and_rings_looked_a) (n := 63) (k := 6) (x := "_law_script") (CX := L2.CX0) (sp := My.spLaw) rfl (by decide) rfl ⟨rfl, by decide, by decide⟩ (fun w h Y => PySem.W.kIn_of Y) ?F ?S ?C
  case F =>
    intro w mg fa h KX G hmg
    have T : My.Tx (L2.KOf KX) mg := by
      dsimp only [L2.KOf]
      refine' My.tx_mk KX G ?a0 ?l0 ?c0 ?k0 ?a1 ?l1 ?c1 ?k1 ?a2 ?l2 ?c2 ?k2 ?a3 ?l3 ?c3 ?k3 ?a4 ?l4 ?c4 ?k4 ?a5 ?l5 ?c5 ?k5 ?a6 ?l6 ?c6 ?k6 ?a7 ?l7 ?c7 ?k7 ?a8 ?l8 ?c8 ?k8 ?a9 ?l9 ?c9 ?k9 ?a10 ?l10 ?c10 ?k10 ?a11 ?l11 ?c11 ?k11 ?a12 ?l12 ?c12 ?k12 ?a13 ?l13 ?c13 ?k13 ?a14 ?l14 ?c14 ?k14 ?a15 ?l15 ?c15 ?k15 ?a16 ?l16 ?c16 ?k16 ?a17 ?l17 ?c17 ?k17 ?a18 ?l18 ?c18 ?k18 ?a19 ?l19 ?c19 ?k19 ?a20 ?l20 ?c20 ?k20 ?a21 ?l21 ?c21 ?k21 ?a22 ?l22 ?c22 ?k22 ?a23 ?l23 ?c23 ?k23 ?a24 ?l24 ?c24 ?k24 ?a25 ?l25 ?c25 ?k25 ?z_all ?z_bool ?z_enumerate ?z_int ?z_isinstance ?z_len ?z_list ?z_max ?z_min ?z_range ?z_sum ?w_MOST_LENGTH ?w_MOST_PLACES ?w_MOST_ROADS
      (case a0 => k_is)
      (case l0 => k_is)
      (case c0 => k_is)
      (case k0 => k_is)
      (case a1 => k_is)
      (case l1 => k_is)
      (case c1 => k_is)
      (case k1 => k_is)
      (case a2 => k_is)
      (case l2 => k_is)
      (case c2 => k_is)
      (case k2 => k_is)
      (case a3 => k_is)
      (case l3 => k_is)
      (case c3 => k_is)
      (case k3 => k_is)
      (case a4 => k_is)
      (case l4 => k_is)
      (case c4 => k_is)
      (case k4 => k_is)
      (case a5 => k_is)
      (case l5 => k_is)
      (case c5 => k_is)
      (case k5 => k_is)
      (case a6 => k_is)
      (case l6 => k_is)
      (case c6 => k_is)
      (case k6 => k_is)
      (case a7 => k_is)
      (case l7 => k_is)
      (case c7 => k_is)
      (case k7 => k_is)
      (case a8 => k_is)
      (case l8 => k_is)
      (case c8 => k_is)
      (case k8 => k_is)
      (case a9 => k_is)
      (case l9 => k_is)
      (case c9 => k_is)
      (case k9 => k_is)
      (case a10 => k_is)
      (case l10 => k_is)
      (case c10 => k_is)
      (case k10 => k_is)
      (case a11 => k_is)
      (case l11 => k_is)
      (case c11 => k_is)
      (case k11 => k_is)
      (case a12 => k_is)
      (case l12 => k_is)
      (case c12 => k_is)
      (case k12 => k_is)
      (case a13 => k_is)
      (case l13 => k_is)
      (case c13 => k_is)
      (case k13 => k_is)
      (case a14 => k_is)
      (case l14 => k_is)
      (case c14 => k_is)
      (case k14 => k_is)
      (case a15 => k_is)
      (case l15 => k_is)
      (case c15 => k_is)
      (case k15 => k_is)
      (case a16 => k_is)
      (case l16 => k_is)
      (case c16 => k_is)
      (case k16 => k_is)
      (case a17 => k_is)
      (case l17 => k_is)
      (case c17 => k_is)
      (case k17 => k_is)
      (case a18 => k_is)
      (case l18 => k_is)
      (case c18 => k_is)
      (case k18 => k_is)
      (case a19 => k_is)
      (case l19 => k_is)
      (case c19 => k_is)
      (case k19 => k_is)
      (case a20 => k_is)
      (case l20 => k_is)
      (case c20 => k_is)
      (case k20 => k_is)
      (case a21 => k_is)
      (case l21 => k_is)
      (case c21 => k_is)
      (case k21 => k_is)
      (case a22 => k_is)
      (case l22 => k_is)
      (case c22 => k_is)
      (case k22 => k_is)
      (case a23 => k_is)
      (case l23 => k_is)
      (case c23 => k_is)
      (case k23 => k_is)
      (case a24 => k_is)
      (case l24 => k_is)
      (case c24 => k_is)
      (case k24 => k_is)
      (case a25 => k_is)
      (case l25 => k_is)
      (case c25 => k_is)
      (case k25 => k_is)
      (case z_all => k_is)
      (case z_bool => k_is)
      (case z_enumerate => k_is)
      (case z_int => k_is)
      (case z_isinstance => k_is)
      (case z_len => k_is)
      (case z_list => k_is)
      (case z_max => k_is)
      (case z_min => k_is)
      (case z_range => k_is)
      (case z_sum => k_is)
      (case w_MOST_LENGTH => k_is)
      (case w_MOST_PLACES => k_is)
      (case w_MOST_ROADS => k_is)
    exact L2.law_F T.d_law (fun _ _ _ _ _ _ _ => rfl) (fun base => My.ok_law (base := base) T) hmg
  case S => exact fun K H a ns hl hO hS => My.law_sp hl hO hS
  case C => exact fun _ _ _ _ z => z


