import PyProof.Rows.All
import Wide.All
import OpenK.AllK
import Wide.FinOn
import Lean
import PyProof.EqAt
import PyProof.EqKinds
import PyProof.TupleCall
import PySem.Challenge.RW_tautroads_k01_ways
set_option Elab.async false
set_option compiler.extract_closed false
set_option bootstrap.genMatcherCode false
set_option linter.all false
set_option maxRecDepth 100000
namespace L2
open PySem PySem.Spec PyProof.Rows

noncomputable abbrev Key := Sum Int Str
noncomputable def keyIs : Key → Value → Bool
 | .inl k, v => Value.isInt k v
 | .inr x, v => Value.isStrOf x v
noncomputable def keyH (w : World) : Key → Int
 | .inl k => hashInt k
 | .inr x => hashStr w x
theorem keyIs_shape : ∀ {k : Key} {v : Value}, keyIs k v = true → (∃ i t, k = Sum.inl i ∧ v = Value.int i t) ∨ (∃ x t, k = Sum.inr x ∧ v = Value.str x t)
 | .inl i, v, h => by
  obtain ⟨t, e⟩ := Value.isInt_shape (k := i) (v := v) h
  exact .inl ⟨i, t, rfl, e⟩
 | .inr x, v, h => by
  obtain ⟨t, e⟩ := Value.isStrOf_shape (x := x) (v := v) h
  exact .inr ⟨x, t, rfl, e⟩
theorem key_ll (a b : Int) : decide ((Sum.inl a : Key) = Sum.inl b) = (a == b) := by
 by_cases e : a = b
 ·subst e; simp
 ·have h : ¬ (Sum.inl a : Key) = Sum.inl b := fun q => e (Sum.inl.inj q)
  rw [decide_eq_false h]
  exact (beq_eq_false_iff_ne.mpr e).symm
theorem key_rr (a b : Str) : decide ((Sum.inr a : Key) = Sum.inr b) = decide (a = b) := by
 by_cases e : a = b
 ·subst e; simp
 ·have h : ¬ (Sum.inr a : Key) = Sum.inr b := fun q => e (Sum.inr.inj q)
  rw [decide_eq_false h, decide_eq_false e]
theorem key_lr (a : Int) (b : Str) : decide ((Sum.inl a : Key) = Sum.inr b) = false := decide_eq_false (fun q => nomatch q)
theorem key_rl (a : Str) (b : Int) : decide ((Sum.inr a : Key) = Sum.inl b) = false := decide_eq_false (fun q => nomatch q)

noncomputable def mixKind (prog : Program) (w : World) : PySem.KeyKind prog w Key where
 is := keyIs
 hash := keyH w
 inj := fun v a b ha hb => by
  rcases keyIs_shape ha with ⟨i, t, rfl, rfl⟩ | ⟨x, t, rfl, rfl⟩
  ·rcases keyIs_shape hb with ⟨j, u, rfl, e⟩ | ⟨y, u, rfl, e⟩
   ·injection e with e1 _; rw [e1]
   ·exact nomatch e
  ·rcases keyIs_shape hb with ⟨j, u, rfl, e⟩ | ⟨y, u, rfl, e⟩
   ·exact nomatch e
   ·injection e with e1 _; rw [e1]
 byValue := fun k v h => by
  rcases keyIs_shape h with ⟨i, t, rfl, rfl⟩ | ⟨x, t, rfl, rfl⟩ <;> rfl
 pyHash := fun hv h => by
  rcases keyIs_shape hv with ⟨i, t, rfl, rfl⟩ | ⟨x, t, rfl, rfl⟩
  ·exact wpAny_pyHash_int h
  ·exact wpAny_pyHash_str h
 eqBool := fun hu hv h => by
  rcases keyIs_shape hu with ⟨i, t, rfl, rfl⟩ | ⟨x, t, rfl, rfl⟩
  ·rcases keyIs_shape hv with ⟨j, u, rfl, rfl⟩ | ⟨y, u, rfl, rfl⟩
   ·rw [key_ll] at h; exact wpAny_eqBool_int h
   ·rw [key_lr] at h; exact SeqAt.EqAt.int_str i t y u _ _ _ _ h
  ·rcases keyIs_shape hv with ⟨j, u, rfl, rfl⟩ | ⟨y, u, rfl, rfl⟩
   ·rw [key_rl] at h; exact SeqAt.EqAt.str_int x t j u _ _ _ _ h
   ·rw [key_rr] at h; exact wpAny_eqBool_str h
 «strs» := fun k x t v h => by
  rcases keyIs_shape h with ⟨i, u, rfl, e⟩ | ⟨y, u, rfl, e⟩
  ·exact nomatch e
  ·injection e with e1 _
   subst e1
   cases v <;> rfl

end L2

namespace L2
open PySem PySem.Spec PyProof.Rows

inductive V where
 | non | bl (b : Bool) | int (i : Int) | str (x : Str) | byt (b : Array UInt8) | flt (b : UInt64) | ref (a : Addr) | ty (n : String)
 deriving DecidableEq

noncomputable def RelV : V → Value → Prop
 | .non, u => u = Value.none
 | .bl b, u => u = Value.bool b
 | .int i, u => ∃ t, u = Value.int i t
 | .str x, u => ∃ t, u = Value.str x t
 | .byt b, u => ∃ t, u = Value.bytes b t
 | .flt b, u => ∃ t, u = Value.float b t
 | .ref a, u => u = Value.ref a
 | .ty n, u => u = Value.type n

noncomputable abbrev Vals : List V → List Value → Prop := Paired RelV
theorem Vals.length {xs : List V} {us : List Value} (r : Vals xs us) : xs.length = us.length := Paired.length r
theorem Vals.get : ∀ {xs : List V} {us : List Value} {i : Nat} {x : V}, Vals xs us → xs[i]? = some x → ∃ u, us[i]? = some u ∧ RelV x u
 | _, _, _, _, .nil, e => by simp at e
 | _, _, 0, _, .cons r _, e => by simp at e; subst e; exact ⟨_, rfl, r⟩
 | _, _, i + 1, x, .cons _ t, e => by
  obtain ⟨u, h1, h2⟩ := Vals.get (i := i) (x := x) t (by simpa using e)
  exact ⟨u, by simpa using h1, h2⟩
theorem Vals.set {x : V} {u : Value} (r : RelV x u) : ∀ {xs : List V} {us : List Value} (i : Nat), Vals xs us → Vals (xs.set i x) (us.set i u)
 | _, _, _, .nil => .nil
 | _, _, 0, .cons _ t => .cons r t
 | _, _, i + 1, .cons q t => .cons q (Vals.set r i t)
theorem Vals.append : ∀ {xs ys : List V} {us ws : List Value}, Vals xs us → Vals ys ws → Vals (xs ++ ys) (us ++ ws)
 | _, _, _, _, .nil, s => s
 | _, _, _, _, .cons r t, s => .cons r (Vals.append t s)
theorem Vals.take : ∀ {xs : List V} {us : List Value} (n : Nat), Vals xs us → Vals (xs.take n) (us.take n)
 | _, _, 0, _ => .nil
 | _, _, _ + 1, .nil => .nil
 | _, _, n + 1, .cons r t => .cons r (Vals.take n t)
theorem Vals.drop : ∀ {xs : List V} {us : List Value} (n : Nat), Vals xs us → Vals (xs.drop n) (us.drop n)
 | _, _, 0, r => r
 | _, _, _ + 1, .nil => .nil
 | _, _, n + 1, .cons _ t => Vals.drop n t
noncomputable def RelO : Option V → Option Value → Prop
 | some v, some u => RelV v u
 | none, none => True
 | _, _ => False
noncomputable def KV {κ : Type} : List (κ × V) → List (κ × Value) → Prop := Paired fun (p : κ × V) (q : κ × Value) => p.1 = q.1 ∧ RelV p.2 q.2

noncomputable def kV : Key → V
 | .inl i => .int i
 | .inr x => .str x

inductive HO where
 /-- a list -/
 | lst (xs : List V)
 /-- a tuple (never changes) -/
 | tup (xs : List V)
 /-- a dict whose keys are ints and texts; one whose keys are tuples of ints and texts (the empty one is both) -/
 | dK (kvs : List (Key × V)) | dT (kvs : List (List Key × V))
 /-- a set of ints: its members, its size -/
 | set (S : Int → Bool) (n : Nat)
 /-- an instance of the class at C, its dict at dx, its attributes -/
 | ins (C dx : Addr) (fs : List (Str × V))
 /-- the dict of the instance at x -/
 | own (x : Addr)
 /-- the dict of an exception -/
 | xd (fs : List (Str × V))
 /-- a bound method, f of x -/
 | met (f x : Addr)
 /-- a range object lo, lo + 1, .. below hi -/
 | rng (lo hi : Int)
 /-- a thing that is known to the object (the script; a dict while a loop walks it): read, never written while it is so -/
 | frz (o : Obj) (u : HO)
 /-- a code object's table -/
 | tbl (ps : Array Value)
 /-- any other thing, by what is true of its one object (a def of one's own: SetO a S n := HO.ext fun h => ..) -/
 | ext (φ : Heap → Prop)

noncomputable abbrev Hp := Addr → Option HO
noncomputable def upd (H : Hp) (a : Addr) (o : HO) : Hp := fun b => if b = a then some o else H b
theorem upd_same {H : Hp} {a : Addr} {o : HO} : upd H a o a = some o := by unfold upd; rw [if_pos rfl]
theorem upd_ne {H : Hp} {a b : Addr} {o : HO} (h : b ≠ a) : upd H a o b = H b := by unfold upd; rw [if_neg h]
theorem ne_of_none {H : Hp} {a b : Addr} {o : HO} (h : H a = some o) (h' : H b = none) : a ≠ b := by
 intro e; subst e; rw [h] at h'; cases h'

section
variable (P : Program) (w : World)
noncomputable def ObjOk (H : Hp) (h : Heap) (a : Addr) : HO → Prop
 | .lst xs => xs.length ≤ sizeLine ∧ ∃ (its : List Value) (n : Nat), Vals xs its ∧ h.get? a = some { cls := .type "list", data := .seq its.toArray n }
 | .tup xs => xs.length ≤ sizeLine ∧ ∃ its : List Value, Vals xs its ∧ IsTup h a its.toArray
 | .dK kvs => kvs.length ≤ sizeLine ∧ (a == sysModules) = false ∧ ∃ vs, KV kvs vs ∧ h.DictOf (mixKind P w) a vs
 | .dT kvs => kvs.length ≤ sizeLine ∧ (a == sysModules) = false ∧ ∃ xs : List (List Key × Addr × Value),
   Paired (fun (p : List Key × V) (q : List Key × Addr × Value) => p.1 = q.1 ∧ H q.2.1 = some (.tup (p.1.map kV)) ∧ RelV p.2 q.2.2) kvs xs ∧
   ∃ o es ep, h.get? a = some o ∧ o.ExactDict ∧ o.data = .dict es ep ∧ es.toList = xs.map (entryOfKey (tupleKind (mixKind P w))) ∧ (xs.map (·.1)).Nodup
 | .set S n => h.SetOf (intKind P w) a S n
 | .ins C dx fs => H dx = some (.own a) ∧ fs.length ≤ 1000 ∧ dx ≠ a ∧ h.get? a = some (PySem.W.instObj C dx) ∧
   ∃ mA, h.Ns1 dx mA ∧ (∀ f, RelO (fs.lookup f) (mA f)) ∧ PySem.Within mA (fs.map (·.1))
 | .own _ => ∃ o, h.get? a = some o
 | .xd fs => ∃ mA, h.Ns1 a mA ∧ ∀ f, RelO (fs.lookup f) (mA f)
 | .rng lo hi => ∃ t u v, h.get? a = some { cls := .type "range", data := .fields #[.int lo t, .int hi u, .int 1 v] }
 | .frz o u => h.get? a = some o ∧ ObjOk H h a u
 | .tbl ps => h.get? a = some { cls := .none, data := .fields ps }
 | .met f x => h.get? a = some (PySem.W.methodObj (.ref f) (.ref x))
 | .ext φ => φ h ∧ (∃ o, h.get? a = some o) ∧ ∀ h1 h2 : Heap, φ h1 → (∀ o, h1.get? a = some o → h2.get? a = some o) → φ h2
noncomputable def HOk (H : Hp) (h : Heap) : Prop := ∀ a o, H a = some o → ObjOk P w H h a o
end

section
variable {P : Program} {w : World} {H H' : Hp} {h h' : Heap} {a : Addr} {o : HO}
theorem ObjOk.lt (x : ObjOk P w H h a o) : a < h.objs.size := by
 cases o with
 | lst xs => obtain ⟨_, _, _, _, e⟩ := x; exact Heap.lt_size e
 | tup xs => obtain ⟨_, _, _, p⟩ := x; exact p.lt
 | dK kvs => obtain ⟨_, _, _, _, o, _, _, e, _⟩ := x; exact Heap.lt_size e
 | dT kvs => obtain ⟨_, _, _, _, o, _, _, e, _⟩ := x; exact Heap.lt_size e
 | set S n => obtain ⟨o, _, _, _, e, _⟩ := x; exact Heap.lt_size e
 | ins C dx fs => obtain ⟨_, _, _, e, _⟩ := x; exact Heap.lt_size e
 | own y => obtain ⟨_, e⟩ := x; exact Heap.lt_size e
 | xd fs => obtain ⟨_, ⟨_, _, _, e, _⟩, _⟩ := x; exact Heap.lt_size e
 | rng lo hi => obtain ⟨_, _, _, e⟩ := x; exact Heap.lt_size e
 | frz ob u => obtain ⟨e, _⟩ := x; exact Heap.lt_size e
 | tbl ps => exact Heap.lt_size (show h.get? a = some _ from x)
 | met f y => exact Heap.lt_size (show h.get? a = some _ from x)
 | ext φ => obtain ⟨_, ⟨_, e⟩, _⟩ := x; exact Heap.lt_size e
theorem Paired.mapP {α β : Type} {F G : α → β → Prop} {l₁ : List α} {l₂ : List β} (h : Paired F l₁ l₂) (f : ∀ a b, F a b → G a b) : Paired G l₁ l₂ := by
 induction h with
 | nil => exact .nil
 | cons r t ih => exact .cons (f _ _ r) ih
theorem ObjOk.stay (x : ObjOk P w H h a o) (k : ∀ b u, (b = a ∨ H b = some (.own a)) → h.get? b = some u → h'.get? b = some u)
  (ho : ∀ b, H b = some (.own a) → H' b = some (.own a)) (ht : ∀ b xs, H b = some (.tup xs) → H' b = some (.tup xs)) : ObjOk P w H' h' a o := by
 induction o with
 | lst xs => obtain ⟨z, its, n, r, e⟩ := x; exact ⟨z, its, n, r, k _ _ (.inl rfl) e⟩
 | tup xs => obtain ⟨z, its, r, ob, e, c⟩ := x; exact ⟨z, its, r, ob, k _ _ (.inl rfl) e, c⟩
 | dK kvs => obtain ⟨z, y, vs, r, ob, es, ep, e, c⟩ := x; exact ⟨z, y, vs, r, ob, es, ep, k _ _ (.inl rfl) e, c⟩
 | dT kvs =>
  obtain ⟨z, y, xs, r, ob, es, ep, e, c⟩ := x
  exact ⟨z, y, xs, Paired.mapP r fun p q z => ⟨z.1, ht _ _ z.2.1, z.2.2⟩, ob, es, ep, k _ _ (.inl rfl) e, c⟩
 | set S n => obtain ⟨ob, es, ep, t, e, c⟩ := x; exact ⟨ob, es, ep, t, k _ _ (.inl rfl) e, c⟩
 | ins C dx fs =>
  obtain ⟨d, z, ne, e, mA, ⟨od, es, ep, e2, c⟩, r⟩ := x
  exact ⟨ho _ d, z, ne, k _ _ (.inl rfl) e, mA, ⟨od, es, ep, k _ _ (.inr d) e2, c⟩, r⟩
 | own y => obtain ⟨ob, e⟩ := x; exact ⟨ob, k _ _ (.inl rfl) e⟩
 | xd fs => obtain ⟨mA, ⟨od, es, ep, e, c⟩, r⟩ := x; exact ⟨mA, ⟨od, es, ep, k _ _ (.inl rfl) e, c⟩, r⟩
 | rng lo hi => obtain ⟨t, u, v, e⟩ := x; exact ⟨t, u, v, k _ _ (.inl rfl) e⟩
 | frz ob u ih => obtain ⟨e, q⟩ := x; exact ⟨k _ _ (.inl rfl) e, ih q⟩
 | tbl ps =>
  have e : h.get? a = some { cls := .none, data := .fields ps } := x
  show h'.get? a = some { cls := .none, data := .fields ps }
  exact k a _ (.inl rfl) e
 | met f y =>
  have e : h.get? a = some (PySem.W.methodObj (.ref f) (.ref y)) := x
  show h'.get? a = some (PySem.W.methodObj (.ref f) (.ref y))
  exact k a _ (.inl rfl) e
 | ext φ => obtain ⟨p, ⟨o, e⟩, st⟩ := x; exact ⟨st _ _ p fun o q => k _ _ (.inl rfl) q, ⟨o, k _ _ (.inl rfl) e⟩, st⟩
theorem HOk.lt (x : HOk P w H h) (e : H a = some o) : a < h.objs.size := (x a o e).lt
theorem HOk.fresh (x : HOk P w H h) (e : h.objs.size ≤ a) : H a = none := by
 cases q : H a with
 | none => rfl
 | some u => exact absurd (Nat.lt_of_lt_of_le (x.lt q) e) (Nat.lt_irrefl _)
theorem HOk.kept (x : HOk P w H h) (k : ∀ b u, h.get? b = some u → h'.get? b = some u) : HOk P w H h' := fun a o e =>
 (x a o e).stay (fun b u _ q => k b u q) (fun _ q => q) fun _ _ q => q
theorem HOk.laid (x : HOk P w H h) (k : ∀ b u, h.get? b = some u → h'.get? b = some u) (hp : h.objs.size ≤ a) (new : ObjOk P w (upd H a o) h' a o) : HOk P w (upd H a o) h' := fun b u e => by
 have hn := x.fresh hp
 by_cases hb : b = a
 ·subst hb; rw [upd_same] at e; cases e; exact new
 ·rw [upd_ne hb] at e
  exact (x b u e).stay (fun c v _ q => k c v q) (fun c q => by rw [upd_ne (ne_of_none q hn)]; exact q) fun c xs q => by rw [upd_ne (ne_of_none q hn)]; exact q
end

noncomputable def Rd (H : Hp) (a : Addr) (u : HO) : Prop := H a = some u ∨ ∃ o, H a = some (.frz o u)
theorem Rd.ok {P : Program} {w : World} {H : Hp} {h : Heap} {a : Addr} {u : HO} (r : Rd H a u) (x : HOk P w H h) : ObjOk P w H h a u := by
 rcases r with r | ⟨o, r⟩
 ·exact x a u r
 ·obtain ⟨_, q⟩ := x a _ r
  exact q
noncomputable def Mut : Option HO → Prop
 | some (.lst _) => True
 | some (.dK _) => True
 | some (.dT _) => True
 | some (.set _ _) => True
 | some (.ins _ _ _) => True
 | some (.ext _) => True
 | _ => False
section
variable {P : Program} {w : World} {H : Hp} {h h' : Heap} {x e : Addr} {o' : HO}
theorem HOk.write (ok : HOk P w H h) (mu : Mut (H x)) (he : e = x ∨ H e = some (.own x)) (k : ∀ b u, b ≠ e → h.get? b = some u → h'.get? b = some u) (heo : ∃ u, h'.get? e = some u)
  (new : ObjOk P w (upd H x o') h' x o') : HOk P w (upd H x o') h' := fun b u q => by
 have nown : ∀ c y, H c = some (.own y) → c ≠ x := fun c y r z => by subst z; rw [r] at mu; exact mu
 have ntup : ∀ c xs, H c = some (.tup xs) → c ≠ x := fun c xs r z => by subst z; rw [r] at mu; exact mu
 by_cases hb : b = x
 ·subst hb; rw [upd_same] at q; cases q; exact new
 ·rw [upd_ne hb] at q
  by_cases hbe : b = e
  ·have q' : H b = some (.own x) := by
    rcases he with z | z
    ·exact absurd (hbe.trans z) hb
    ·rw [hbe]; exact z
   rw [q] at q'; cases q'
   obtain ⟨v, hv⟩ := heo
   exact ⟨v, by rw [hbe]; exact hv⟩
  ·refine (ok b u q).stay (fun c v hc r => k c v ?_ r) (fun c r => by rw [upd_ne (nown c b r)]; exact r) fun c xs r => by rw [upd_ne (ntup c xs r)]; exact r
   rcases hc with rfl | hc
   ·exact hbe
   ·rintro rfl
    rcases he with z | z
    ·exact nown c b hc z
    ·rw [hc] at z; cases z; exact hb rfl
end

structure Un (fs ex : List Addr) (H H' : Hp) (h h' : Heap) : Prop where
 keep : ∀ b o, h.get? b = some o → H b = none → b ∉ fs → b ∉ ex → h'.get? b = some o
 slot : ∀ b o, h.get? b = some o → H b = none → b ∈ fs → b ∉ ex → ∃ sl, h'.get? b = some { o with slots := sl }
 free : ∀ b o, h.get? b = some o → H b = none → b ∉ ex → H' b = none
 there : ∀ b o, h.get? b = some o → b ∉ ex → ∃ o', h'.get? b = some o'
 tups : ∀ b xs, H b = some (.tup xs) → H' b = some (.tup xs)
 frzs : ∀ b o u, H b = some (.frz o u) → H' b = some (.frz o u)
 tbls : ∀ b ps, H b = some (.tbl ps) → ∃ more, H' b = some (.tbl (ps ++ more))
section
variable {fs fs' ex ex' : List Addr} {H H1 H2 : Hp} {h h1 h2 h' : Heap} {a x e : Addr} {o : HO}
theorem Un.any (u : Un fs ex H H1 h h1) {b : Addr} {ob : Obj} (q : h.get? b = some ob) (n : H b = none) (hx : b ∉ ex) : ∃ sl, h1.get? b = some { ob with slots := sl } := by
 by_cases hb : b ∈ fs
 ·exact u.slot b ob q n hb hx
 ·exact ⟨ob.slots, u.keep b ob q n hb hx⟩
theorem Un.kept (k : ∀ b u, h.get? b = some u → h'.get? b = some u) : Un fs ex H H h h' :=
 ⟨fun b ob q _ _ _ => k b ob q, fun b ob q _ _ _ => ⟨ob.slots, k b ob q⟩, fun _ _ _ n _ => n, fun b ob q _ => ⟨ob, k b ob q⟩, fun _ _ q => q, fun _ _ _ q => q, fun _ ps q => ⟨#[], by rw [q]; simp⟩⟩
theorem Un.refl : Un fs ex H H h h := Un.kept fun _ _ q => q
theorem Un.laid (k : ∀ b u, h.get? b = some u → h'.get? b = some u) (hp : h.objs.size ≤ a) (hn : H a = none) : Un fs ex H (upd H a o) h h' where
 keep := fun b u q _ _ _ => k b u q
 slot := fun b u q _ _ _ => ⟨u.slots, k b u q⟩
 free := fun b u q n _ => by rw [upd_ne (Nat.ne_of_lt (Nat.lt_of_lt_of_le (Heap.lt_size q) hp))]; exact n
 there := fun b u q _ => ⟨u, k b u q⟩
 tups := fun b xs q => by rw [upd_ne (ne_of_none q hn)]; exact q
 frzs := fun b u xs q => by rw [upd_ne (ne_of_none q hn)]; exact q
 tbls := fun b ps q => ⟨#[], by rw [upd_ne (ne_of_none q hn), q]; simp⟩
theorem Un.write (mu : Mut (H x)) (he : e = x ∨ H e = some (.own x)) (k : ∀ b u, b ≠ e → h.get? b = some u → h'.get? b = some u) (heo : ∃ u, h'.get? e = some u) : Un fs ex H (upd H x o) h h' := by
 have hx : ∀ b, H b = none → b ≠ x := fun b n z => by subst z; rw [n] at mu; exact mu
 have hb : ∀ b, H b = none → b ≠ e := fun b n z => by
  subst z
  rcases he with r | r
  ·exact hx b n r
  ·rw [n] at r; cases r
 have hm : ∀ b u, H b = some u → ¬ Mut (some u) → b ≠ x := fun b u q nm z => by subst z; rw [q] at mu; exact nm mu
 refine ⟨fun b u q n _ _ => k b u (hb b n) q, fun b u q n _ _ => ⟨u.slots, k b u (hb b n) q⟩, fun b u q n _ => by rw [upd_ne (hx b n)]; exact n, fun b u q _ => ?_,
  fun b xs q => by rw [upd_ne (hm b _ q fun z => z)]; exact q, fun b u xs q => by rw [upd_ne (hm b _ q fun z => z)]; exact q, fun b ps q => ⟨#[], by rw [upd_ne (hm b _ q fun z => z), q]; simp⟩⟩
 by_cases hbe : b = e
 ·subst hbe; exact heo
 ·exact ⟨u, k b u hbe q⟩
end

noncomputable def trk (h : Heap) (H : Hp) : List Addr := (List.range h.objs.size).filter fun a => (H a).isSome
noncomputable def hidT (h : Heap) (H : Hp) : Heap := PySem.W.hideAll h (trk h H)
theorem hidT_size (h : Heap) (H : Hp) : (hidT h H).objs.size = h.objs.size := PySem.W.hideAll_size _ _
theorem hidT_get {h : Heap} {H : Hp} {b : Addr} {o : Obj} (e : h.get? b = some o) (n : H b = none) : (hidT h H).get? b = some o :=
 PySem.W.hideAll_get _ e fun hm => by
  have q : (H b).isSome = true := (List.mem_filter.mp hm).2
  rw [n] at q; simp at q
theorem of_hidT {h : Heap} {H : Hp} {b : Addr} {o : Obj} (e : (hidT h H).get? b = some o) : h.get? b = some o ∧ H b = none := by
 have e' : h.get? b = some o := PySem.W.of_hideAll (trk h H) e
 refine ⟨e', ?_⟩
 cases q : H b with
 | none => rfl
 | some x =>
  have hm : b ∈ trk h H := List.mem_filter.mpr ⟨List.mem_range.mpr (Heap.lt_size e'), by simp [q]⟩
  have z : (hidT h H).get? b = none := PySem.W.hideAll_none (trk h H) hm
  rw [z] at e; cases e

end L2

namespace L2
open PySem PySem.Spec PyProof.Rows

structure Mod (K : PySem.W.Frag) (mg : Str → Option Value) (base : Heap) : Prop where
 kin : K.In base
 glob : base.Ns mainGlobals mg
 blt : ∃ mb, base.Ns builtinsNs mb ∧ ∀ x : Str, x ≠ "__name__" → mb x = bootBuiltins x
 nolimit : base.NoLimit

structure Cx where
 prog : Program
 w : World
 K : PySem.W.Frag
 mg : Str → Option Value
 base : Heap
 A : Around
 N : List Str
 s₀ : Shared
 H₀ : Hp
 env : Env
 outer : List Env
 stack : List Env
 ex : List Addr
 fn : Str → Bool
 calm : Bool
 pn : List (Addr × Obj)
 xe : Value → Shared → Prop
noncomputable def frs (l : List Env) : List Addr := l.filterMap (·.frame)
noncomputable abbrev Cx.fs (X : Cx) : List Addr := frs X.outer

noncomputable def Vis (sc : Scope) (x : Str) : Prop := sc.names.lookup x = some .local ∨ sc.names.lookup x = some .cell ∨ sc.names.lookup x = some .free
noncomputable def Loc (sc : Scope) (x : Str) : Prop := sc.names.lookup x = some .local ∨ sc.names.lookup x = some .cell
noncomputable def Look (env : Env) (h : Heap) (m : Str → Option Value) (x : Str) (u : Value) : Prop :=
 (env.kindOf x = some .local ∧ m x = some u) ∨ ((env.kindOf x = some .cell ∨ env.kindOf x = some .free) ∧ ∃ c, env.cells.lookup x = some c ∧ h.IsCell c (some u))

structure Cx.Ok (X : Cx) : Prop where
 mod : Mod X.K X.mg X.base
 kind : X.env.scope.kind = .function
 glob : X.env.globals = mainGlobals
 blt : X.env.builtins = builtinsNs
 above : X.s₀.heap.objs.size ≤ X.env.locals
 inj : ∀ x y c, X.env.cells.lookup x = some c → X.env.cells.lookup y = some c → x = y
 has : ∀ x, (X.env.kindOf x = some .cell ∨ X.env.kindOf x = some .free) → ∃ c, X.env.cells.lookup x = some c
 cab : ∀ x c, X.fn x = true → X.env.cells.lookup x = some c → X.s₀.heap.objs.size ≤ c
 hd : X.calm = true → X.A.handled = none
 frames : X.A.frames = some X.stack
 stk : X.stack = X.outer ∨ (X.stack = X.env :: X.outer ∧ X.env.frame = some X.env.locals)
 exf : ∀ b ∈ X.ex, b ≠ X.env.locals ∧ ∀ x c, X.env.cells.lookup x = some c → c ≠ b
 bs : ∀ b o, X.base.get? b = some o → X.s₀.heap.get? b = some o ∧ X.H₀ b = none
 bsz : X.base.objs.size ≤ X.s₀.heap.objs.size
 noex : ∀ b o, X.base.get? b = some o → b ∉ X.ex
 exfs : ∀ b ∈ X.ex, b ∉ X.fs
 funs : X.s₀.heap.FunFrames X.base X.outer
 frf : ∀ b ∈ X.fs, X.H₀ b = none

structure Inv (X : Cx) (pins : List (Addr × Obj)) (σ : List (Option V)) (H : Hp) (s : Shared) : Prop where
 ok : X.Ok
 os : s.os = X.s₀.os
 bare : AllBare s.gens
 base : Un X.fs X.ex X.H₀ H X.s₀.heap s.heap
 loc : ∃ m, s.heap.Ns X.env.locals m ∧ ∀ (i : Nat) (x : Str) (v : V), X.N[i]? = some x → σ[i]? = some (some v) → Vis X.env.scope x → ∃ u, RelV v u ∧ Look X.env s.heap m x u
 cell : ∀ x c, X.env.cells.lookup x = some c → ∃ v, s.heap.IsCell c v
 free : H X.env.locals = none
 freeC : ∀ x c, X.env.cells.lookup x = some c → H c = none
 pin : ∀ p ∈ X.pn ++ pins, s.heap.get? p.1 = some p.2 ∧ H p.1 = none ∧ p.1 ≠ X.env.locals ∧ p.1 ∉ X.fs ∧ ∀ v, p.2.data ≠ .cell v
 hok : HOk X.prog X.w H s.heap
 len : σ.length = X.N.length

section
variable {X : Cx} {pins : List (Addr × Obj)} {σ : List (Option V)} {H H' : Hp} {s : Shared} {h' : Heap}

theorem Cx.Ok.nofr (ok : X.Ok) {b : Addr} {o : Obj} (e : X.base.get? b = some o) : b ∉ X.fs := fun hb => by
 have := (ok.funs.mem hb).1
 rw [e] at this; cases this
theorem Inv.bs (I : Inv X pins σ H s) : ∀ b o, X.base.get? b = some o → s.heap.get? b = some o ∧ H b = none := fun b o e =>
 ⟨I.base.keep b o (I.ok.bs b o e).1 (I.ok.bs b o e).2 (I.ok.nofr e) (I.ok.noex b o e), I.base.free b o (I.ok.bs b o e).1 (I.ok.bs b o e).2 (I.ok.noex b o e)⟩
theorem Inv.bk (I : Inv X pins σ H s) : ∀ b o, X.base.get? b = some o → s.heap.get? b = some o := fun b o e => (I.bs b o e).1
theorem Inv.mod (I : Inv X pins σ H s) : Mod X.K X.mg X.base := I.ok.mod
theorem Inv.kIn (I : Inv X pins σ H s) : X.K.In s.heap := I.ok.mod.kin.keeps I.bk
theorem Inv.lt (I : Inv X pins σ H s) : X.env.locals < s.heap.objs.size := let ⟨_, hn, _⟩ := I.loc; hn.lt
theorem Inv.sz (I : Inv X pins σ H s) : X.s₀.heap.objs.size ≤ s.heap.objs.size := Nat.le_trans I.ok.above (Nat.le_of_lt I.lt)
theorem Inv.nofs (I : Inv X pins σ H s) {a : Addr} (h : s.heap.objs.size ≤ a) : a ∉ X.fs := fun hb => by
 obtain ⟨_, o, ho, _⟩ := I.ok.funs.mem hb
 exact absurd (Nat.lt_of_lt_of_le (Heap.lt_size ho) (Nat.le_trans I.sz h)) (Nat.lt_irrefl _)
theorem Inv.cne (I : Inv X pins σ H s) : ∀ x c, X.env.cells.lookup x = some c → c ≠ X.env.locals := fun x c e z => by
 obtain ⟨v, o, ho, hd⟩ := I.cell x c e
 obtain ⟨m, ⟨o', es, ep, ho', hd', _⟩, _⟩ := I.loc
 rw [z, ho'] at ho; cases ho; rw [hd'] at hd; cases hd
theorem Inv.funs (I : Inv X pins σ H s) : s.heap.FunFrames X.base X.outer := by
 have all : ∀ (l : List Env), (∀ b ∈ frs l, b ∈ X.fs) → X.s₀.heap.FunFrames X.base l → s.heap.FunFrames X.base l := by
  intro l
  induction l with
  | nil => intro _ _; trivial
  | cons env r ih =>
   intro hs hl
   obtain ⟨hk, ⟨L, o, hf, hn, ho, hd⟩, hr⟩ := hl
   have hL : L ∈ X.fs := hs L (by unfold frs; rw [List.filterMap_cons, hf]; exact List.mem_cons_self)
   obtain ⟨sl, e⟩ := I.base.slot L o ho (I.ok.frf L hL) hL fun z => I.ok.exfs L z hL
   exact ⟨hk, ⟨L, _, hf, hn, e, hd⟩, ih (fun b hb => hs b (by unfold frs; rw [List.filterMap_cons, hf]; exact List.mem_cons_of_mem _ hb)) hr⟩
 exact all X.outer (fun _ hb => hb) I.ok.funs

theorem Inv.stack (I : Inv X pins σ H s) : s.heap.FunFrames X.base X.stack := by
 rcases I.ok.stk with e | ⟨e, hf⟩
 ·rw [e]; exact I.funs
 ·rw [e]
  obtain ⟨m, hn, _⟩ := I.loc
  refine .cons (by rw [I.ok.kind]; decide) hf hn ?_ I.funs
  exact Heap.get?_none_of_le (Nat.le_trans I.ok.bsz I.ok.above)
theorem Inv.stkSub (I : Inv X pins σ H s) : ∀ b ∈ frs X.stack, b ∈ X.env.locals :: X.fs := fun b hb => by
 rcases I.ok.stk with e | ⟨e, hf⟩
 ·rw [e] at hb; exact List.mem_cons_of_mem _ hb
 ·rw [e] at hb
  unfold frs at hb
  rw [List.filterMap_cons, hf] at hb
  exact hb
theorem Inv.stkFree (I : Inv X pins σ H s) : ∀ b ∈ frs X.stack, H b = none := fun b hb => by
 rcases List.mem_cons.mp (I.stkSub b hb) with e | hb
 ·rw [e]; exact I.free
 ·obtain ⟨_, o, ho, _⟩ := I.ok.funs.mem hb
  exact I.base.free b o ho (I.ok.frf b hb) fun z => I.ok.exfs b z hb

theorem Inv.step {g' : Array GenState} {t' : Nat} {d' : Drawn} {ch : List Addr} (I : Inv X pins σ H s)
  (hch : ∀ b ∈ ch, (b ∈ X.ex ∨ X.s₀.heap.objs.size ≤ b) ∧ b ≠ X.env.locals ∧ (∀ x c, X.env.cells.lookup x = some c → c ≠ b) ∧ ∀ p ∈ X.pn ++ pins, p.1 ≠ b)
  (keep : ∀ b o, b ≠ X.env.locals → b ∉ X.fs → b ∉ ch → s.heap.get? b = some o → H b = none → h'.get? b = some o)
  (slot : ∀ b o, b ≠ X.env.locals → b ∈ X.fs → b ∉ ch → s.heap.get? b = some o → H b = none → ∃ sl, h'.get? b = some { o with slots := sl }) (free : ∀ b o, b ∉ ch → s.heap.get? b = some o → H b = none → H' b = none)
  (there : ∀ b o, b ∉ ch → s.heap.get? b = some o → ∃ o', h'.get? b = some o')
  (tups : ∀ b xs, H b = some (.tup xs) → H' b = some (.tup xs)) (frzs : ∀ b o u, H b = some (.frz o u) → H' b = some (.frz o u)) (tbls : ∀ b ps, H b = some (.tbl ps) → ∃ more, H' b = some (.tbl (ps ++ more)))
  (ns : ∀ m, s.heap.Ns X.env.locals m → h'.Ns X.env.locals m) (hok : HOk X.prog X.w H' h') (hg : AllBare g') :
  Inv X pins σ H' { s with heap := h', gens := g', drawn := d', toks := t' } := by
 have neL : ∀ b o, X.s₀.heap.get? b = some o → b ≠ X.env.locals := fun b o e => Nat.ne_of_lt (Nat.lt_of_lt_of_le (Heap.lt_size e) I.ok.above)
 have neC : ∀ b o, X.s₀.heap.get? b = some o → b ∉ X.ex → b ∉ ch := fun b o e hx hb => by
  rcases (hch b hb).1 with z | z
  ·exact hx z
  ·exact absurd (Nat.lt_of_lt_of_le (Heap.lt_size e) z) (Nat.lt_irrefl _)
 have cellK : ∀ x c, X.env.cells.lookup x = some c → ∀ v, s.heap.IsCell c v → h'.IsCell c v := fun x c e v hx__ => by
  obtain ⟨o, ho, hd⟩ := hx__
  have nch : c ∉ ch := fun z => (hch c z).2.2.1 x c e rfl
  by_cases hc : c ∈ X.fs
  ·obtain ⟨sl, q⟩ := slot c o (I.cne x c e) hc nch ho (I.freeC x c e)
   exact ⟨_, q, hd⟩
  ·exact ⟨o, keep c o (I.cne x c e) hc nch ho (I.freeC x c e), hd⟩
 refine ⟨I.ok, I.os, hg, ⟨fun b o e n hb hx => ?_, fun b o e n hb hx => ?_, fun b o e n hx => ?_, fun b o e hx => ?_, fun b xs e => tups b xs (I.base.tups b xs e), fun b o xs e => frzs b o xs (I.base.frzs b o xs e), fun b ps e => ?_⟩, ?_, fun x c e => ?_, ?_, fun x c e => ?_, fun p hp => ?_, hok, I.len⟩
 ·exact keep b o (neL b o e) hb (neC b o e hx) (I.base.keep b o e n hb hx) (I.base.free b o e n hx)
 ·obtain ⟨sl, e1⟩ := I.base.slot b o e n hb hx
  obtain ⟨sl', e2⟩ := slot b _ (neL b o e) hb (neC b o e hx) e1 (I.base.free b o e n hx)
  exact ⟨sl', e2⟩
 ·obtain ⟨o', e1⟩ := I.base.there b o e hx
  exact free b o' (neC b o e hx) e1 (I.base.free b o e n hx)
 ·obtain ⟨o', e1⟩ := I.base.there b o e hx
  exact there b o' (neC b o e hx) e1
 ·obtain ⟨m1, e1⟩ := I.base.tbls b ps e
  obtain ⟨m2, e2⟩ := tbls b _ e1
  exact ⟨m1 ++ m2, by rw [e2, Array.append_assoc]⟩
 ·obtain ⟨m, hn, hl⟩ := I.loc
  refine ⟨m, ns m hn, fun i x v e1 e2 e3 => ?_⟩
  obtain ⟨u, r, l⟩ := hl i x v e1 e2 e3
  refine ⟨u, r, ?_⟩
  rcases l with l | ⟨k, c, e, z⟩
  ·exact .inl l
  ·exact .inr ⟨k, c, e, cellK x c e _ z⟩
 ·obtain ⟨v, z⟩ := I.cell x c e
  exact ⟨v, cellK x c e v z⟩
 ·obtain ⟨m, ⟨o, _, _, ho, _⟩, _⟩ := I.loc
  exact free _ o (fun z => (hch _ z).2.1 rfl) ho I.free
 ·obtain ⟨v, o, ho, hd⟩ := I.cell x c e
  exact free c o (fun z => (hch c z).2.2.1 x c e rfl) ho (I.freeC x c e)
 ·obtain ⟨e, n, ne, nf, d⟩ := I.pin p hp
  have nch : p.1 ∉ ch := fun z => (hch p.1 z).2.2.2 p hp rfl
  exact ⟨keep p.1 p.2 ne nf nch e n, free p.1 p.2 nch e n, ne, nf, d⟩
theorem Inv.un {t' : Nat} (I : Inv X pins σ H s) (u : Un X.fs [] H H' s.heap h') (hok : HOk X.prog X.w H' h') : Inv X pins σ H' { s with heap := h', toks := t' } := by
 obtain ⟨m, ⟨o, es, ep, ho, r⟩, _⟩ := id I.loc
 obtain ⟨sl, hL⟩ := u.any ho I.free (by simp)
 exact I.step (g' := s.gens) (d' := s.drawn) (ch := []) (fun _ z => nomatch z) (fun b o _ hb _ e n => u.keep b o e n hb (by simp)) (fun b o _ hb _ e n => u.slot b o e n hb (by simp)) (fun b o _ e n => u.free b o e n (by simp)) (fun b o _ e => u.there b o e (by simp)) u.tups u.frzs u.tbls (fun m' hm => by
  obtain ⟨o', es', ep', ho', r'⟩ := hm
  rw [ho] at ho'; cases ho'
  exact ⟨_, es', ep', hL, r'⟩) hok I.bare
theorem Inv.call {g' : Array GenState} {t' : Nat} {d' : Drawn} {ch : List Addr} (I : Inv X pins σ H s) (u : Un (frs X.stack) ch H H' s.heap h') (hok : HOk X.prog X.w H' h') (hg : AllBare g')
  (hch : ∀ b ∈ ch, (b ∈ X.ex ∨ X.s₀.heap.objs.size ≤ b) ∧ b ≠ X.env.locals ∧ (∀ x c, X.env.cells.lookup x = some c → c ≠ b) ∧ ∀ p ∈ X.pn ++ pins, p.1 ≠ b) :
  Inv X pins σ H' { s with heap := h', gens := g', drawn := d', toks := t' } := by
 obtain ⟨m, ⟨o, es, ep, ho, r⟩, _⟩ := id I.loc
 obtain ⟨sl, hL⟩ := u.any ho I.free fun z => (hch _ z).2.1 rfl
 exact I.step (ch := ch) hch (fun b o hL hb hc e n => u.keep b o e n (fun z => (List.mem_cons.mp (I.stkSub b z)).elim hL hb) hc) (fun b o _ _ hc e n => u.any e n hc) (fun b o hc e n => u.free b o e n hc) (fun b o hc e => u.there b o e hc) u.tups u.frzs u.tbls (fun m' hm => by
  obtain ⟨o', es', ep', ho', r'⟩ := hm
  rw [ho] at ho'; cases ho'
  exact ⟨_, es', ep', hL, r'⟩) hok hg
theorem Inv.turned {t' : Nat} {it : Addr} (I : Inv X pins σ H s) (k : ∀ b o, b ≠ it → s.heap.get? b = some o → h'.get? b = some o) (hn : H it = none) (hL : it ≠ X.env.locals)
  (h1 : it ∈ X.ex ∨ X.s₀.heap.objs.size ≤ it) (h2 : ∀ x c, X.env.cells.lookup x = some c → c ≠ it) (h3 : ∀ p ∈ X.pn ++ pins, p.1 ≠ it) : Inv X pins σ H { s with heap := h', toks := t' } := by
 have nit : ∀ b u, H b = some u → b ≠ it := fun b u e z => by rw [z, hn] at e; cases e
 refine I.step (g' := s.gens) (d' := s.drawn) (ch := [it]) (fun b hb => ?_) (fun b o _ _ hc e _ => k b o (fun z => hc (by simp [z])) e) (fun b o _ _ hc e _ => ⟨o.slots, k b o (fun z => hc (by simp [z])) e⟩) (fun _ _ _ _ n => n)
  (fun b o hc e => ⟨o, k b o (fun z => hc (by simp [z])) e⟩) (fun _ _ e => e) (fun _ _ _ e => e) (fun b ps e => ⟨#[], by rw [e]; simp⟩) (fun m hm => ?_) (fun b u e => ?_) I.bare
 ·have e : b = it := by simpa using hb
  subst e
  exact ⟨h1, hL, h2, h3⟩
 ·obtain ⟨o, es, ep, ho, r⟩ := hm
  exact ⟨o, es, ep, k _ o (Ne.symm hL) ho, r⟩
 ·refine (I.hok b u e).stay (fun c v hc q => k c v ?_ q) (fun _ q => q) fun _ _ q => q
  rcases hc with z | z
  ·rw [z]; exact nit b u e
  ·exact nit c _ z
theorem Inv.tok (I : Inv X pins σ H s) (t : Nat) : Inv X pins σ H { s with toks := t } := I.un (h' := s.heap) (t' := t) Un.refl I.hok
theorem Inv.kept {t' : Nat} (I : Inv X pins σ H s) (k : ∀ b u, s.heap.get? b = some u → h'.get? b = some u) : Inv X pins σ H { s with heap := h', toks := t' } := I.un (Un.kept k) (I.hok.kept k)
theorem Inv.laid {a : Addr} {o : HO} {t' : Nat} (I : Inv X pins σ H s) (k : ∀ b u, s.heap.get? b = some u → h'.get? b = some u) (hp : s.heap.objs.size ≤ a) (new : ObjOk X.prog X.w (upd H a o) h' a o) :
  Inv X pins σ (upd H a o) { s with heap := h', toks := t' } := I.un (Un.laid k hp (I.hok.fresh hp)) (I.hok.laid k hp new)
theorem Inv.write {x e : Addr} {o : HO} {t' : Nat} (I : Inv X pins σ H s) (mu : Mut (H x)) (he : e = x ∨ H e = some (.own x)) (k : ∀ b u, b ≠ e → s.heap.get? b = some u → h'.get? b = some u) (heo : ∃ u, h'.get? e = some u)
  (new : ObjOk X.prog X.w (upd H x o) h' x o) : Inv X pins σ (upd H x o) { s with heap := h', toks := t' } := I.un (Un.write mu he k heo) (I.hok.write mu he k heo new)
theorem Inv.weak {σ' : List (Option V)} (I : Inv X pins σ H s) (hl : σ'.length = σ.length) (w : ∀ (i : Nat) v, σ'[i]? = some (some v) → σ[i]? = some (some v)) : Inv X pins σ' H s :=
 ⟨I.ok, I.os, I.bare, I.base, let ⟨m, hn, hl'⟩ := I.loc; ⟨m, hn, fun i x v e1 e2 e3 => hl' i x v e1 (w i v e2) e3⟩, I.cell, I.free, I.freeC, I.pin, I.hok, hl.trans I.len⟩
theorem Inv.pins_of {pins' : List (Addr × Obj)} (I : Inv X pins σ H s) (h : ∀ p ∈ pins', s.heap.get? p.1 = some p.2 ∧ H p.1 = none ∧ p.1 ≠ X.env.locals ∧ p.1 ∉ X.fs ∧ ∀ v, p.2.data ≠ .cell v) : Inv X pins' σ H s :=
 ⟨I.ok, I.os, I.bare, I.base, I.loc, I.cell, I.free, I.freeC, fun p hp => (List.mem_append.mp hp).elim (fun z => I.pin p (List.mem_append_left _ z)) (h p), I.hok, I.len⟩

theorem nodup_ix {N : List Str} (hN : N.Nodup) {i j : Nat} {x : Str} (a : N[i]? = some x) (b : N[j]? = some x) : i = j := by
 obtain ⟨h1, e1⟩ := List.getElem?_eq_some_iff.mp a
 obtain ⟨h2, e2⟩ := List.getElem?_eq_some_iff.mp b
 exact (List.getElem_inj hN).mp (e1.trans e2.symm)

theorem store_ok2 {M : Model} {A : Around} {E : Value → Shared → Prop} {i : Nat} {x : Str} {v : V} {u : Value} {Q : Unit → Shared → Prop} (I : Inv X pins σ H s) (hN : X.N.Nodup) (hi : X.N[i]? = some x) (hx : Loc X.env.scope x) (r : RelV v u)
  (h : ∀ s', Inv X pins (σ.set i (some v)) H s' → (∃ a, Heap.SameBut a s.heap s'.heap ∧ (a = X.env.locals ∨ X.env.cells.lookup x = some a)) → Q () s') (hf : X.fn x = true ∨ X.env.scope.names.lookup x = some .local := by first | exact .inl rfl | exact .inr rfl | assumption) : wpAny M A (storeName X.env x u) Q E s := by
 obtain ⟨m, hn, hl⟩ := id I.loc
 have hcls : (X.env.scope.kind == .class || (X.env.scope.kind == .module && X.env.locals != X.env.globals)) = false := by rw [I.ok.kind]; rfl
 have hiσ : i < σ.length := by rw [I.len]; exact (List.getElem?_eq_some_iff.mp hi).1
 have cne := I.cne
 have tracked : ∀ {a : Addr} {h' : Heap}, (∃ o, s.heap.get? a = some o ∧ H a = none) → Heap.SameBut a s.heap h' → HOk X.prog X.w H h' := fun {a h'} ha hs b ob e => by
  obtain ⟨_, _, hfree⟩ := ha
  refine (I.hok b ob e).stay (fun c w' hc q => (hs.2 c ?_).trans q) (fun _ q => q) fun _ _ q => q
  rintro rfl
  rcases hc with rfl | hc
  ·rw [hfree] at e; cases e
  ·rw [hfree] at hc; cases hc
 rcases hx with hk | hk
 ·refine wpAny_storeName_local hk hn (fun h' hn' hs => ?_) hcls
  obtain ⟨oL, _, _, hoL, _⟩ := id hn
  refine h _ ⟨I.ok, I.os, I.bare, ⟨fun b o e n hb hx => ?_, fun b o e n hb hx => ?_, I.base.free, fun b o e hx => ?_, I.base.tups, I.base.frzs, I.base.tbls⟩, ⟨_, hn', fun j y v' e1 e2 e3 => ?_⟩, fun y c e => ?_, I.free, I.freeC, fun p hp => ?_, tracked ⟨oL, hoL, I.free⟩ hs, by simpa using I.len⟩ ⟨_, hs, .inl rfl⟩
  ·exact (hs.2 b (Nat.ne_of_lt (Nat.lt_of_lt_of_le (Heap.lt_size e) I.ok.above))).trans (I.base.keep b o e n hb hx)
  ·obtain ⟨sl, e1⟩ := I.base.slot b o e n hb hx
   exact ⟨sl, (hs.2 b (Nat.ne_of_lt (Nat.lt_of_lt_of_le (Heap.lt_size e) I.ok.above))).trans e1⟩
  ·obtain ⟨o', e1⟩ := I.base.there b o e hx
   exact ⟨o', (hs.2 b (Nat.ne_of_lt (Nat.lt_of_lt_of_le (Heap.lt_size e) I.ok.above))).trans e1⟩
  ·by_cases hj : j = i
   ·subst hj
    rw [hi] at e1; cases e1
    rw [List.getElem?_set_self hiσ] at e2
    cases e2
    exact ⟨u, r, .inl ⟨hk, by simp⟩⟩
   ·rw [List.getElem?_set_ne (Ne.symm hj)] at e2
    obtain ⟨u', r', q⟩ := hl j y v' e1 e2 e3
    refine ⟨u', r', ?_⟩
    rcases q with ⟨k, e⟩ | ⟨k, c, e, z⟩
    ·refine .inl ⟨k, ?_⟩
     have : y ≠ x := fun e => hj (nodup_ix hN e1 (e ▸ hi))
     simp [this, e]
    ·exact .inr ⟨k, c, e, z.sameBut hs (cne y c e)⟩
  ·obtain ⟨w', z⟩ := I.cell y c e
   exact ⟨w', z.sameBut hs (cne y c e)⟩
  ·obtain ⟨e, n, ne, nf, d⟩ := I.pin p hp
   exact ⟨(hs.2 p.1 ne).trans e, n, ne, nf, d⟩
 ·have hfn : X.fn x = true := by
   rcases hf with z | z
   ·exact z
   ·rw [z] at hk; cases hk
  obtain ⟨c, hc⟩ := I.ok.has x (.inl hk)
  obtain ⟨w', z⟩ := I.cell x c hc
  refine wpAny_storeName_cell I.ok.kind hk hc z (fun h' hc' hs => ?_)
  obtain ⟨oc, hoc, hocd⟩ := id z
  refine h { s with heap := h' } ⟨I.ok, I.os, I.bare, ⟨fun b o e n hb hx => ?_, fun b o e n hb hx => ?_, I.base.free, fun b o e hx => ?_, I.base.tups, I.base.frzs, I.base.tbls⟩, ⟨m, hn.sameBut hs (Ne.symm (cne x c hc)), fun j y v' e1 e2 e3 => ?_⟩, fun y c' e => ?_, I.free, I.freeC, fun p hp => ?_, tracked ⟨oc, hoc, I.freeC x c hc⟩ hs, by simpa using I.len⟩ ⟨c, hs, .inr hc⟩
  ·exact (hs.2 b (Nat.ne_of_lt (Nat.lt_of_lt_of_le (Heap.lt_size e) (I.ok.cab x c hfn hc)))).trans (I.base.keep b o e n hb hx)
  ·obtain ⟨sl, e1⟩ := I.base.slot b o e n hb hx
   exact ⟨sl, (hs.2 b (Nat.ne_of_lt (Nat.lt_of_lt_of_le (Heap.lt_size e) (I.ok.cab x c hfn hc)))).trans e1⟩
  ·obtain ⟨o', e1⟩ := I.base.there b o e hx
   exact ⟨o', (hs.2 b (Nat.ne_of_lt (Nat.lt_of_lt_of_le (Heap.lt_size e) (I.ok.cab x c hfn hc)))).trans e1⟩
  ·by_cases hj : j = i
   ·subst hj
    rw [hi] at e1; cases e1
    rw [List.getElem?_set_self hiσ] at e2
    cases e2
    exact ⟨u, r, .inr ⟨.inl hk, c, hc, hc'⟩⟩
   ·rw [List.getElem?_set_ne (Ne.symm hj)] at e2
    obtain ⟨u', r', q⟩ := hl j y v' e1 e2 e3
    refine ⟨u', r', ?_⟩
    rcases q with q | ⟨k, c', e, z'⟩
    ·exact .inl q
    ·refine .inr ⟨k, c', e, z'.sameBut hs ?_⟩
     rintro rfl
     exact hj (nodup_ix hN e1 (I.ok.inj _ _ _ e hc ▸ hi))
  ·by_cases hcc : c' = c
   ·subst hcc; exact ⟨_, hc'⟩
   ·obtain ⟨w2, z2⟩ := I.cell y c' e
    exact ⟨w2, z2.sameBut hs hcc⟩
  ·obtain ⟨e, n, ne, nf, d⟩ := I.pin p hp
   refine ⟨(hs.2 p.1 ?_).trans e, n, ne, nf, d⟩
   intro q
   rw [q, hoc] at e
   have q' : oc = p.2 := Option.some.inj e
   exact d w' (by rw [← q']; exact hocd)
theorem store_ok {M : Model} {A : Around} {E : Value → Shared → Prop} {i : Nat} {x : Str} {v : V} {u : Value} {Q : Unit → Shared → Prop} (I : Inv X pins σ H s) (hN : X.N.Nodup) (hi : X.N[i]? = some x) (hx : Loc X.env.scope x) (r : RelV v u)
  (h : ∀ s', Inv X pins (σ.set i (some v)) H s' → Q () s') (hf : X.fn x = true ∨ X.env.scope.names.lookup x = some .local := by first | exact .inl rfl | exact .inr rfl | assumption) : wpAny M A (storeName X.env x u) Q E s :=
 store_ok2 I hN hi hx r (fun s' I' _ => h s' I') hf
theorem Inv.call' {s' : Shared} {ch : List Addr} (I : Inv X pins σ H s) (ho : s'.os = s.os) (u : Un (frs X.stack) ch H H' s.heap s'.heap) (hok : HOk X.prog X.w H' s'.heap) (hg : AllBare s'.gens)
  (hch : ∀ b ∈ ch, (b ∈ X.ex ∨ X.s₀.heap.objs.size ≤ b) ∧ b ≠ X.env.locals ∧ (∀ x c, X.env.cells.lookup x = some c → c ≠ b) ∧ ∀ p ∈ X.pn ++ pins, p.1 ≠ b) : Inv X pins σ H' s' := by
 obtain ⟨h', g', d', t', o'⟩ := s'
 have e : o' = s.os := ho
 subst e
 exact I.call (g' := g') (t' := t') (d' := d') u hok hg hch
end

noncomputable abbrev XK := Value → Option Addr → Hp → Prop
noncomputable abbrev St := List (Option V)
noncomputable abbrev VK := V → Hp → Prop
noncomputable abbrev TE := St → Hp → VK → Prop
noncomputable abbrev TT := St → Hp → (Bool → Hp → Prop) → Prop
noncomputable abbrev TA := St → Hp → (List V → Hp → Prop) → Prop
structure Ends where
 nx : St → Hp → Prop
 rt : VK
 bk : St → Hp → Prop := fun _ _ => False
 ct : St → Hp → Prop := fun _ _ => False
noncomputable abbrev TS := Ends → St → Hp → Prop

noncomputable def EP (X : Cx) (pins : List (Addr × Obj)) (σ : St) (Q : VK) (u : Value) (s' : Shared) : Prop := ∃ v H', Inv X pins σ H' s' ∧ RelV v u ∧ Q v H'
noncomputable def TP (X : Cx) (pins : List (Addr × Obj)) (σ : St) (Q : Bool → Hp → Prop) (b : Bool) (s' : Shared) : Prop := ∃ H', Inv X pins σ H' s' ∧ Q b H'
noncomputable def AP (X : Cx) (pins : List (Addr × Obj)) (σ : St) (Q : List V → Hp → Prop) (us : List Value) (s' : Shared) : Prop := ∃ vs H', Inv X pins σ H' s' ∧ Vals vs us ∧ Q vs H'
noncomputable def SP (X : Cx) (pins : List (Addr × Obj)) (D : Ends) (f : Flow) (s' : Shared) : Prop :=
 match f with
 | .next => ∃ σ' H', Inv X pins σ' H' s' ∧ D.nx σ' H'
 | .brk => ∃ σ' H', Inv X pins σ' H' s' ∧ D.bk σ' H'
 | .cont => ∃ σ' H', Inv X pins σ' H' s' ∧ D.ct σ' H'
 | .ret u => ∃ v σ' H', Inv X pins σ' H' s' ∧ RelV v u ∧ D.rt v H'

noncomputable def PE (X : Cx) (e : Expr) (t : TE) : Prop :=
 ∀ (pins : List (Addr × Obj)) (s : Shared) (σ : St) (H : Hp) (Q : VK), Inv X pins σ H s → t σ H Q → wpAny (model X.prog X.w) X.A (eval e X.env) (EP X pins σ Q) X.xe s
noncomputable def PT (X : Cx) (e : Expr) (t : TT) : Prop :=
 ∀ (pins : List (Addr × Obj)) (s : Shared) (σ : St) (H : Hp) (Q : Bool → Hp → Prop), Inv X pins σ H s → t σ H Q → wpAny (model X.prog X.w) X.A (isTrue e X.env (eval e X.env)) (TP X pins σ Q) X.xe s
noncomputable def PW (X : Cx) (e : Expr) (t : TT) : Prop :=
 ∀ (whole : Sem Value) (pins : List (Addr × Obj)) (s : Shared) (σ : St) (H : Hp) (Q : Bool → Hp → Prop), Inv X pins σ H s → t σ H Q → wpAny (model X.prog X.w) X.A (isTrue e X.env whole) (TP X pins σ Q) X.xe s
theorem PW.pt {X : Cx} {e : Expr} {t : TT} (h : PW X e t) : PT X e t := h _
noncomputable def PA (X : Cx) (es : List Expr) (t : TA) : Prop :=
 ∀ (pos : Pos) (pins : List (Addr × Obj)) (s : Shared) (σ : St) (H : Hp) (Q : List V → Hp → Prop), Inv X pins σ H s → t σ H Q → wpAny (model X.prog X.w) X.A (spliced (backTo pos (starEach es X.env))) (AP X pins σ Q) X.xe s
noncomputable def PS (X : Cx) (st : Stmt) (t : TS) : Prop :=
 ∀ (pins : List (Addr × Obj)) (s : Shared) (σ : St) (H : Hp) (D : Ends), Inv X pins σ H s → t D σ H → wpAny (model X.prog X.w) X.A (exec st X.env) (SP X pins D) X.xe s
noncomputable def PSs (X : Cx) (st : List Stmt) (t : TS) : Prop :=
 ∀ (pins : List (Addr × Obj)) (s : Shared) (σ : St) (H : Hp) (D : Ends), Inv X pins σ H s → t D σ H → wpAny (model X.prog X.w) X.A (execs st X.env) (SP X pins D) X.xe s
theorem thn {α : Type} {t : Sem α} {Q Q' : α → Shared → Prop} {M : Model} {A : Around} {E : Value → Shared → Prop} {s : Shared} (h : wpAny M A t Q E s) (hQ : ∀ a s, Q a s → Q' a s) : wpAny M A t Q' E s := wpAny_mono h hQ fun _ _ x => x
end L2

namespace L2
open PySem PySem.Spec PyProof.Rows
section
variable {X : Cx}

noncomputable def tVar (i : Nat) : TE := fun σ H Q => ∃ v, σ[i]? = some (some v) ∧ Q v H
noncomputable def tC (v : V) : TE := fun _ H Q => Q v H
theorem pe_var {i : Nat} {x : Str} {pos : Pos} (hN : X.N[i]? = some x) (hv : Vis X.env.scope x) (hd : (x == ("__debug__" : Str)) = false := by decide) (hcd : (x == ("__classdict__" : Str)) = false := by decide) : PE X (.Name x pos) (tVar i) := by
 intro pins s σ H Q I h
 obtain ⟨v, e, h⟩ := h
 obtain ⟨m, hn, hl⟩ := I.loc
 obtain ⟨u, r, l⟩ := hl i x v hN e hv
 have fin : EP X pins σ Q u s := ⟨v, H, I, r, h⟩
 rcases l with ⟨hk, hm⟩ | ⟨hk, c, hc, hcell⟩
 ·exact wpAny_Name (wpAny_loadName_local I.ok.kind hk hn hm fin) hd
 ·rcases hk with hk | hk
  ·exact wpAny_Name (wpAny_loadName_cell I.ok.kind hk hc hcell fin) hd
  ·exact wpAny_Name (wpAny_loadName_free I.ok.kind hk hc hcell fin hcd) hd
theorem pe_int {i j pos} : PE X (.Constant (.int i) j pos) (tC (.int i)) := fun _ _ _ H _ I h => wpAny_Constant_int ⟨.int i, H, I.tok _, ⟨_, rfl⟩, h⟩
theorem pe_bl {b j pos} : PE X (.Constant (.bool b) j pos) (tC (.bl b)) := fun _ _ _ H _ I h => Constant_bool ⟨.bl b, H, I, rfl, h⟩
theorem pe_non {j pos} : PE X (.Constant .none j pos) (tC .non) := fun _ _ _ H _ I h => Constant_none ⟨.non, H, I, rfl, h⟩
theorem pe_str {x j pos} : PE X (.Constant (.str x) j pos) (tC (.str x)) := fun _ _ _ H _ I h => Calls.Constant_str ⟨.str x, H, I.tok _, ⟨_, rfl⟩, h⟩

noncomputable def Gl (X : Cx) (x : Str) : Prop := X.env.kindOf x = some .globalImplicit
theorem ld_glob {E : Value → Shared → Prop} {pins : List (Addr × Obj)} {s : Shared} {σ : St} {H : Hp} {x : Str} {u : Value} {pos : Pos} {Q : Value → Shared → Prop} (I : Inv X pins σ H s) (hg : Gl X x) (hm : X.mg x = some u) (h : Q u s)
  (hd : (x == ("__debug__" : Str)) = false := by decide) : wpAny (model X.prog X.w) X.A (eval (.Name x pos) X.env) Q E s :=
 Calls.Name_function_global I.ok.kind hg (Calls.loadGlobal_global (by rw [I.ok.glob]; exact I.mod.glob.keeps I.bk) hm h) hd
theorem ld_blt {E : Value → Shared → Prop} {pins : List (Addr × Obj)} {s : Shared} {σ : St} {H : Hp} {x : Str} {u : Value} {pos : Pos} {Q : Value → Shared → Prop} (I : Inv X pins σ H s) (hg : Gl X x) (hm : X.mg x = none) (hv : bootBuiltins x = some u) (h : Q u s)
  (hn : x ≠ "__name__" := by decide) (hd : (x == ("__debug__" : Str)) = false := by decide) : wpAny (model X.prog X.w) X.A (eval (.Name x pos) X.env) Q E s := by
 obtain ⟨mb, h1, h2⟩ := I.mod.blt
 exact Calls.Name_function_global I.ok.kind hg (Calls.loadGlobal_builtin (by rw [I.ok.glob]; exact I.mod.glob.keeps I.bk) hm (by rw [I.ok.blt]; exact h1.keeps I.bk) ((h2 x hn).trans hv) h) hd
theorem pe_glob {x : Str} {v : V} {u : Value} {pos : Pos} (hg : Gl X x) (hm : X.mg x = some u) (r : RelV v u) (hd : (x == ("__debug__" : Str)) = false := by decide) : PE X (.Name x pos) (tC v) :=
 fun _ _ _ H _ I h => ld_glob I hg hm ⟨v, H, I, r, h⟩ hd
theorem pe_bltn {x : Str} {v : V} {u : Value} {pos : Pos} (hg : Gl X x) (hm : X.mg x = none) (hv : bootBuiltins x = some u) (r : RelV v u) (hn : x ≠ "__name__" := by decide) (hd : (x == ("__debug__" : Str)) = false := by decide) : PE X (.Name x pos) (tC v) :=
 fun _ _ _ H _ I h => ld_blt I hg hm hv ⟨v, H, I, r, h⟩ hn hd

variable {a b : Expr} {ta tb : TE} {pos : Pos}
variable {tA tB' : TT} {rest : List Expr}
noncomputable def tAnd (t u : TT) : TT := fun σ H Q => t σ H fun c H1 => if c = true then u σ H1 Q else Q false H1
noncomputable def tOr (t u : TT) : TT := fun σ H Q => t σ H fun c H1 => if c = true then Q true H1 else u σ H1 Q
noncomputable def tNot (t : TT) : TT := fun σ H Q => t σ H fun c H1 => Q (!c) H1
theorem pw_and1 (ha : PT X a tA) : PW X (.BoolOp .And [a] pos) tA := by
 intro wh pins s σ H Q I h
 refine isTrue_and (thn (ha pins s σ H Q I h) fun c s1 e => ?_)
 cases c with
 | true => exact isTrue_and_nil e
 | false => exact e
theorem pw_or1 (ha : PT X a tA) : PW X (.BoolOp .Or [a] pos) tA := by
 intro wh pins s σ H Q I h
 refine isTrue_or (thn (ha pins s σ H Q I h) fun c s1 e => ?_)
 cases c with
 | false => exact isTrue_or_nil e
 | true => exact e
theorem pw_and (ha : PT X a tA) (hb : PW X (.BoolOp .And (b :: rest) pos) tB') : PW X (.BoolOp .And (a :: b :: rest) pos) (tAnd tA tB') := by
 intro wh pins s σ H Q I h
 refine isTrue_and (thn (ha pins s σ H _ I h) fun c s1 hx__ => ?_)
 obtain ⟨H1, I1, q1⟩ := hx__
 cases c with
 | true => exact hb wh pins s1 σ H1 Q I1 q1
 | false => exact ⟨H1, I1, q1⟩
theorem pw_or (ha : PT X a tA) (hb : PW X (.BoolOp .Or (b :: rest) pos) tB') : PW X (.BoolOp .Or (a :: b :: rest) pos) (tOr tA tB') := by
 intro wh pins s σ H Q I h
 refine isTrue_or (thn (ha pins s σ H _ I h) fun c s1 hx__ => ?_)
 obtain ⟨H1, I1, q1⟩ := hx__
 cases c with
 | true => exact ⟨H1, I1, q1⟩
 | false => exact hb wh pins s1 σ H1 Q I1 q1
theorem pt_not (ha : PT X a tA) : PT X (.UnaryOp .Not a pos) (tNot tA) := by
 intro pins s σ H Q I h
 exact isTrue_not (ha pins s σ H (fun c H1 => Q (!c) H1) I h)
noncomputable def tAndV (ta tb : TE) : TE := fun σ H Q => ta σ H fun x H1 => ∃ c, x = .bl c ∧ if c = true then tb σ H1 Q else Q (.bl false) H1
noncomputable def tOrV (ta tb : TE) : TE := fun σ H Q => ta σ H fun x H1 => ∃ c, x = .bl c ∧ if c = true then Q (.bl true) H1 else tb σ H1 Q
noncomputable def tNotV (ta : TE) : TE := fun σ H Q => ta σ H fun x H1 => ∃ c, x = .bl c ∧ Q (.bl (!c)) H1
theorem pe_one {op} {t : TE} (h : PE X a t) : PE X (.BoolOp op [a] pos) t := fun pins s σ H Q I hw => BoolOp_one (h pins s σ H Q I hw)
theorem pe_and (ha : PE X a ta) (hb : PE X (.BoolOp .And (b :: rest) pos) tb) : PE X (.BoolOp .And (a :: b :: rest) pos) (tAndV ta tb) := by
 intro pins s σ H Q I h
 refine BoolOp_and (thn (ha pins s σ H _ I h) fun v s1 hx__ => ?_)
 obtain ⟨x, H1, I1, r1, q1⟩ := hx__
 obtain ⟨c, rfl, q1⟩ := q1
 cases r1
 refine wpAny_truthy_bool ?_
 cases c with
 | true => exact hb pins s1 σ H1 Q I1 q1
 | false => exact ⟨.bl false, H1, I1, rfl, q1⟩
theorem pe_or (ha : PE X a ta) (hb : PE X (.BoolOp .Or (b :: rest) pos) tb) : PE X (.BoolOp .Or (a :: b :: rest) pos) (tOrV ta tb) := by
 intro pins s σ H Q I h
 refine BoolOp_or (thn (ha pins s σ H _ I h) fun v s1 hx__ => ?_)
 obtain ⟨x, H1, I1, r1, q1⟩ := hx__
 obtain ⟨c, rfl, q1⟩ := q1
 cases r1
 refine wpAny_truthy_bool ?_
 cases c with
 | false => exact hb pins s1 σ H1 Q I1 q1
 | true => exact ⟨.bl true, H1, I1, rfl, q1⟩
theorem pe_not (ha : PE X a ta) : PE X (.UnaryOp .Not a pos) (tNotV ta) := by
 intro pins s σ H Q I h
 refine UnaryOp_ (thn (ha pins s σ H _ I h) fun v s1 hx__ => ?_)
 obtain ⟨x, H1, I1, r1, q1⟩ := hx__
 obtain ⟨c, rfl, q1⟩ := q1
 cases r1
 exact not_of (wpAny_truthy_bool ⟨.bl (!c), H1, I1, rfl, q1⟩)
end
end L2

namespace L2
open PySem PySem.Spec PyProof.Rows

noncomputable def SqL (K : PySem.W.Frag) (H : Hp) (a : Addr) (xs : List V) : Prop :=
 Rd H a (.lst xs) ∨
  ∃ (o : Obj) (its : Array Value) (n : Nat), K.lookup a = some o ∧ o.cls = .type "list" ∧ o.dict = none ∧ o.data = .seq its n ∧ its.size ≤ sizeLine ∧ Vals xs its.toList
noncomputable def SqT (K : PySem.W.Frag) (H : Hp) (a : Addr) (xs : List V) : Prop :=
 Rd H a (.tup xs) ∨
  ∃ (o : Obj) (its : Array Value) (n : Nat), K.lookup a = some o ∧ o.cls = .type "tuple" ∧ o.data = .seq its n ∧ its.size ≤ sizeLine ∧ Vals xs its.toList
noncomputable def absV : Value → Option V
 | .none => some .non
 | .bool b => some (.bl b)
 | .int i _ => some (.int i)
 | .str x _ => some (.str x)
 | .bytes b _ => some (.byt b)
 | .float b _ => some (.flt b)
 | .ref a => some (.ref a)
 | .type n => some (.ty n)
 | _ => none
theorem RelV.abs {x : V} {u : Value} (r : RelV x u) : absV u = some x := by
 cases x with
 | non => cases r; rfl
 | bl _ => cases r; rfl
 | int _ => obtain ⟨t, rfl⟩ := r; rfl
 | str _ => obtain ⟨t, rfl⟩ := r; rfl
 | byt _ => obtain ⟨t, rfl⟩ := r; rfl
 | flt _ => obtain ⟨t, rfl⟩ := r; rfl
 | ref _ => cases r; rfl
 | ty _ => cases r; rfl
theorem RelV.inj {x y : V} {u : Value} (r : RelV x u) (q : RelV y u) : x = y := Option.some.inj (r.abs.symm.trans q.abs)
theorem Vals.inj {xs ys : List V} {us : List Value} (h : Vals xs us) : Vals ys us → xs = ys := by
 induction h generalizing ys with
 | nil => intro g; cases g; rfl
 | cons r t ih =>
  intro g
  cases g with
  | cons r' t' => rw [r.inj r', ih t']
section
variable {X : Cx} {pins : List (Addr × Obj)} {σ : St} {H : Hp} {s : Shared} {a : Addr} {xs ys : List V}
theorem SqL.of {K : PySem.W.Frag} (h : H a = some (.lst xs)) : SqL K H a xs := .inl (.inl h)
theorem SqT.of {K : PySem.W.Frag} (h : H a = some (.tup xs)) : SqT K H a xs := .inl (.inl h)
theorem Inv.list (I : Inv X pins σ H s) (h : SqL X.K H a xs) : ∃ its : List Value, Vals xs its ∧ PlainL s.heap a its.toArray ∧ xs.length ≤ sizeLine := by
 rcases h with h | ⟨o, its, n, hk, hc, hd, hs, hz, r⟩
 ·obtain ⟨z, its, n, r, e⟩ := h.ok I.hok
  exact ⟨its, r, ⟨_, n, e, rfl, rfl, rfl⟩, z⟩
 ·refine ⟨its.toList, r, ⟨o, n, I.kIn a o hk, hc, hd, by simpa using hs⟩, ?_⟩
  have e := r.length
  simp only [Array.length_toList] at e
  omega
theorem Inv.tuple (I : Inv X pins σ H s) (h : SqT X.K H a xs) : ∃ its : List Value, Vals xs its ∧ IsTup s.heap a its.toArray ∧ xs.length ≤ sizeLine := by
 rcases h with h | ⟨o, its, n, hk, hc, hs, hz, r⟩
 ·obtain ⟨z, its, r, p⟩ := h.ok I.hok
  exact ⟨its, r, p, z⟩
 ·refine ⟨its.toList, r, ⟨o, I.kIn a o hk, hc, n, by simpa using hs⟩, ?_⟩
  have e := r.length
  simp only [Array.length_toList] at e
  omega
theorem Inv.list_inj (I : Inv X pins σ H s) (h : SqL X.K H a xs) (h' : SqL X.K H a ys) : xs = ys := by
 obtain ⟨its, r, ⟨o, n, e, _, _, d⟩, _⟩ := I.list h
 obtain ⟨its', r', ⟨o', n', e', _, _, d'⟩, _⟩ := I.list h'
 rw [e] at e'; cases e'
 rw [d] at d'
 injection d' with d1 _
 have : its = its' := by simpa using congrArg Array.toList d1
 subst this
 exact r.inj r'
end

noncomputable abbrev Cx.wish (X : Cx) (E : Value → Shared → Prop) : Cx := { X with xe := E }
noncomputable abbrev Cx.nox (X : Cx) : Cx := X.wish fun _ _ => False
theorem Cx.Ok.wish {X : Cx} (ok : X.Ok) (E : Value → Shared → Prop) : (X.wish E).Ok :=
 ⟨ok.mod, ok.kind, ok.glob, ok.blt, ok.above, ok.inj, ok.has, ok.cab, ok.hd, ok.frames, ok.stk, ok.exf, ok.bs, ok.bsz, ok.noex, ok.exfs, ok.funs, ok.frf⟩
theorem Cx.Ok.unwish {X : Cx} {E : Value → Shared → Prop} (ok : (X.wish E).Ok) : X.Ok :=
 ⟨ok.mod, ok.kind, ok.glob, ok.blt, ok.above, ok.inj, ok.has, ok.cab, ok.hd, ok.frames, ok.stk, ok.exf, ok.bs, ok.bsz, ok.noex, ok.exfs, ok.funs, ok.frf⟩
section
variable {X : Cx} {pins : List (Addr × Obj)} {σ : St} {H : Hp} {s : Shared} {E : Value → Shared → Prop}
theorem Inv.wish (I : Inv X pins σ H s) (E : Value → Shared → Prop) : Inv (X.wish E) pins σ H s := ⟨I.ok.wish E, I.os, I.bare, I.base, I.loc, I.cell, I.free, I.freeC, I.pin, I.hok, I.len⟩
theorem Inv.unwish (I : Inv (X.wish E) pins σ H s) : Inv X pins σ H s := ⟨I.ok.unwish, I.os, I.bare, I.base, I.loc, I.cell, I.free, I.freeC, I.pin, I.hok, I.len⟩
theorem SP.unwish {D : Ends} {f : Flow} {s' : Shared} (h : SP (X.wish E) pins D f s') : SP X pins D f s' := by
 cases f with
 | next => obtain ⟨σ', H', I, q⟩ := h; exact ⟨σ', H', I.unwish, q⟩
 | brk => obtain ⟨σ', H', I, q⟩ := h; exact ⟨σ', H', I.unwish, q⟩
 | cont => obtain ⟨σ', H', I, q⟩ := h; exact ⟨σ', H', I.unwish, q⟩
 | ret u => obtain ⟨v, σ', H', I, r, q⟩ := h; exact ⟨v, σ', H', I.unwish, r, q⟩
theorem PSs.nox {st : List Stmt} {t : TS} (h : PSs X.nox st t) : PSs X st t := fun pins s σ H D I hw =>
 wpAny_mono (h pins s σ H D (I.wish _) hw) (fun _ _ q => q.unwish) fun _ _ z => False.elim z
end

section
variable {X : Cx} {st : Stmt} {rest : List Stmt} {t u : TS} {e : Expr} {te : TE} {pos : Pos}
noncomputable def tNext : TS := fun D σ H => D.nx σ H
noncomputable def tSeq (t u : TS) : TS := fun D σ H => t { D with nx := u D } σ H
theorem pss_nil : PSs X [] tNext := fun _ _ σ H _ I h => wpAny_execs_nil ⟨σ, H, I, h⟩
theorem pss_cons (h1 : PS X st t) (h2 : PSs X rest u) : PSs X (st :: rest) (tSeq t u) := by
 intro pins s σ H D I h
 refine wpAny_execs_cons (thn (h1 pins s σ H { D with nx := u D } I h) fun f s1 q => ?_)
 cases f with
 | next =>
  obtain ⟨σ', H', I', q⟩ := q
  exact h2 pins s1 σ' H' D I' q
 | ret v => exact q
 | brk => exact q
 | cont => exact q
theorem pss_one (h1 : PS X st t) : PSs X [st] t := by
 intro pins s σ H D I h
 refine wpAny_execs_cons (thn (h1 pins s σ H D I h) fun f s1 q => ?_)
 cases f with
 | next => exact wpAny_execs_nil q
 | ret v => exact q
 | brk => exact q
 | cont => exact q
theorem Inv.quiet {pins : List (Addr × Obj)} {σ : St} {H : Hp} {s : Shared} (I : Inv X pins σ H s) : interactive X.env = false := by simp [interactive, I.ok.kind]
noncomputable def tDrop (te : TE) : TS := fun D σ H => te σ H fun _ H1 => D.nx σ H1
theorem ps_expr (he : PE X e te) (hs : swapsWith e none pos.line X.env = pure false := by rfl) : PS X (.Expr e pos) (tDrop te) := by
 intro pins s σ H D I h
 exact wpAny_Expr_any (thn (he pins s σ H _ I h) fun v s1 ⟨x, H1, I1, r1, q1⟩ => ⟨σ, H1, I1, q1⟩) I.quiet hs
noncomputable def tRet (te : TE) : TS := fun D σ H => te σ H D.rt
theorem ps_ret (he : PE X e te) : PS X (.Return (some e) pos) (tRet te) := by
 intro pins s σ H D I h
 exact wpAny_Return_some (thn (he pins s σ H _ I h) fun v s1 ⟨x, H1, I1, r1, q1⟩ => ⟨x, σ, H1, I1, r1, q1⟩)
noncomputable def tIfS (c : TT) (t u : TS) : TS := fun D σ H => c σ H fun b H1 => if b = true then t D σ H1 else u D σ H1
theorem ps_if {c : Expr} {a b : List Stmt} {tc : TT} (hc : PT X c tc) (ha : PSs X a t) (hb : PSs X b u) : PS X (.If c a b pos) (tIfS tc t u) := by
 intro pins s σ H D I h
 refine wpAny_If (thn (hc pins s σ H _ I h) fun d s1 hx__ => ?_)
 obtain ⟨H1, I1, q1⟩ := hx__
 cases d with
 | true => exact ha pins s1 σ H1 D I1 q1
 | false => exact hb pins s1 σ H1 D I1 q1
noncomputable def tNever : TS := fun _ _ _ => False
theorem ps_never : PS X st tNever := fun _ _ _ _ _ _ h => h.elim
end

noncomputable abbrev TG := V → St → Hp → (St → Hp → Prop) → Prop
noncomputable abbrev TGs := List V → St → Hp → (St → Hp → Prop) → Prop
noncomputable def PG (X : Cx) (target : Expr) (t : TG) : Prop :=
 ∀ (pins : List (Addr × Obj)) (s : Shared) (σ : St) (H : Hp) (v : V) (u : Value) (Q : St → Hp → Prop), Inv X pins σ H s → RelV v u → t v σ H Q →
  wpAny (model X.prog X.w) X.A (assign target X.env u) (fun _ s' => ∃ σ' H', Inv X pins σ' H' s' ∧ Q σ' H') X.xe s
noncomputable def PGs (X : Cx) (ts : List Expr) (t : TGs) : Prop :=
 ∀ (pins : List (Addr × Obj)) (s : Shared) (σ : St) (H : Hp) (vs : List V) (us : List Value) (Q : St → Hp → Prop), Inv X pins σ H s → Vals vs us → t vs σ H Q →
  wpAny (model X.prog X.w) X.A (assignInOrder ((assignEach ts X.env).map (·.2)) us) (fun _ s' => ∃ σ' H', Inv X pins σ' H' s' ∧ Q σ' H') X.xe s
noncomputable abbrev TSet := V → V → V → Hp → (Hp → Prop) → Prop
noncomputable def PSet (X : Cx) (t : TSet) : Prop :=
 ∀ (pins : List (Addr × Obj)) (s : Shared) (σ : St) (H : Hp) (o i v : V) (ov iv u : Value) (Q : Hp → Prop), Inv X pins σ H s → RelV o ov → RelV i iv → RelV v u → t o i v H Q →
  wpAny (model X.prog X.w) X.A (setItem ov iv u) (fun _ s' => ∃ H', Inv X pins σ H' s' ∧ Q H') X.xe s
section
variable {X : Cx} {pos : Pos}
noncomputable def gName (i : Nat) : TG := fun v σ H Q => Q (σ.set i (some v)) H
theorem pg_name {i : Nat} {x : Str} (hN : X.N.Nodup) (hi : X.N[i]? = some x) (hx : Loc X.env.scope x) (hf : X.fn x = true ∨ X.env.scope.names.lookup x = some .local := by first | exact .inl rfl | exact .inr rfl | assumption) : PG X (.Name x pos) (gName i) := by
 intro pins s σ H v u Q I r h
 exact wpAny_assign_Name (store_ok I hN hi hx r (fun s' I' => ⟨_, H, I', h⟩) hf)
noncomputable def gNil : TGs := fun vs σ H Q => vs = [] ∧ Q σ H
noncomputable def gCons (t : TG) (u : TGs) : TGs := fun vs σ H Q => ∃ v r, vs = v :: r ∧ t v σ H fun σ' H' => u r σ' H' Q
theorem pgs_nil : PGs X [] gNil := by
 intro pins s σ H vs us Q I r h
 obtain ⟨e, h⟩ := h
 subst e
 cases r
 exact assignInOrder_nil ⟨σ, H, I, h⟩
theorem pgs_cons {e : Expr} {es : List Expr} {t : TG} {u : TGs} (h1 : PG X e t) (h2 : PGs X es u)
  (hs : (assignEach (e :: es) X.env).map (·.2) = assign e X.env :: (assignEach es X.env).map (·.2) := by rfl) : PGs X (e :: es) (gCons t u) := by
 intro pins s σ H vs us Q I r h
 obtain ⟨v, vr, e1, h⟩ := h
 subst e1
 cases r with
 | cons r rr =>
  rw [hs]
  refine assignInOrder_cons (thn (h1 pins s σ H _ _ _ I r h) fun _ s1 hx__ => ?_)
  obtain ⟨σ1, H1, I1, q1⟩ := hx__
  exact h2 pins s1 σ1 H1 _ _ Q I1 rr q1
noncomputable def gTup (K : PySem.W.Frag) (n : Nat) (t : TGs) : TG := fun v σ H Q => ∃ a xs, v = .ref a ∧ SqT K H a xs ∧ xs.length = n ∧ t xs σ H Q
theorem pg_tup {es : List Expr} {k : Nat} {t : TGs} {n : Nat} (hc : X.calm = true) (h : PGs X es t)
  (hn : (assignEach es X.env).length = n := by rfl) (hst : (assignEach es X.env).findIdx? (·.1) = none := by rfl) : PG X (.Tuple es k pos) (gTup X.K n t) := by
 intro pins s σ H v u Q I r hw
 obtain ⟨a, xs, e1, hq, hl, hw⟩ := hw
 subst e1
 cases r
 obtain ⟨its, rv, ht, hz⟩ := I.tuple hq
 refine assign_Tuple_tuple (I.ok.hd hc) ht (by simp [hn, ← hl, rv.length]) hst fun h' hx => ?_
 have I1 : Inv X pins σ H { s with heap := h' } := I.kept (t' := s.toks) fun b o e => hx b o (Nat.ne_of_lt (Heap.lt_size e)) e
 exact h pins _ σ H xs _ Q I1 (by simpa using rv) hw
noncomputable def gSub (to ti : TE) (t : TSet) : TG := fun v σ H Q => to σ H fun o H1 => ti σ H1 fun i H2 => t o i v H2 fun H3 => Q σ H3
theorem pg_sub {o i : Expr} {to ti : TE} {t : TSet} (ho : PE X o to) (hi : PE X i ti) (hs : PSet X t)
  (ha : ∀ v, assign (.Subscript o i pos) X.env v = (do
   let ov ← holding [v] (eval o X.env)
   let iv ← holding [v, ov] (eval i X.env)
   standAt pos
   holding [v, ov, iv] (setItem ov iv v)
   release [v, ov, iv] []) := by intro _; rfl) : PG X (.Subscript o i pos) (gSub to ti t) := by
 intro pins s σ H v u Q I r h
 rw [ha]
 refine wpAny_bind (wpAny_holding (thn (ho pins s σ H _ I h) fun ov s1 hx__ => ?_))
 obtain ⟨x, H1, I1, r1, q1⟩ := hx__
 refine wpAny_bind (wpAny_holding (thn (hi pins s1 σ H1 _ I1 q1) fun iv s2 hx__ => ?_))
 obtain ⟨y, H2, I2, r2, q2⟩ := hx__
 refine wpAny_bind (wpAny_standAt (wpAny_bind (wpAny_holding (thn (hs pins s2 σ H2 x y v ov iv u _ I2 r1 r2 r q2) fun _ s3 hx__ => ?_))))
 obtain ⟨H3, I3, q3⟩ := hx__
 exact wpAny_release ⟨σ, H3, I3, q3⟩
noncomputable def tAsg (te : TE) (g : TG) : TS := fun D σ H => te σ H fun x H1 => g x σ H1 D.nx
theorem ps_asg {tg e : Expr} {te : TE} {g : TG} (he : PE X e te) (hg : PG X tg g) (hs : swapsWithSole [tg] e pos.line X.env = pure false := by rfl) (hw : swappedStores [tg] e X.env = pure none := by rfl)
  (h1 : (assignEach [tg] X.env).map (·.2) = [assign tg X.env] := by rfl) : PS X (.Assign [tg] e pos) (tAsg te g) := by
 intro pins s σ H D I h
 refine wpAny_Assign_stores (thn (he pins s σ H _ I h) fun v s1 ⟨x, H1, I1, r1, q1⟩ => ?_) hs hw
 rw [h1]
 exact thn (hg pins s1 σ H1 x v _ I1 r1 q1) fun _ s2 q => q
theorem ps_set {i : Nat} {x : Str} {e : Expr} {te : TE} {pos' : Pos} (hN : X.N.Nodup) (hi : X.N[i]? = some x) (hx : Loc X.env.scope x) (he : PE X e te) (hs : swapsWith e (some (.Name x pos')) pos.line X.env = pure false := by rfl) (hf : X.fn x = true ∨ X.env.scope.names.lookup x = some .local := by first | exact .inl rfl | exact .inr rfl | assumption) :
  PS X (.Assign [.Name x pos'] e pos) (tAsg te (gName i)) := by
 intro pins s σ H D I h
 refine wpAny_Assign_Name (thn (he pins s σ H _ I h) fun v s1 ⟨y, H1, I1, r1, q1⟩ => ?_) hs
 exact store_ok I1 hN hi hx r1 (fun s2 I2 => ⟨_, H1, I2, q1⟩) hf
end

section
variable {X : Cx} {pos : Pos}
end

structure It where
 go : Nat → Hp → Prop
 yld : Nat → Hp → V → Hp → Prop
 stop : Nat → Hp → Prop
noncomputable def FpOk (X : Cx) (pins : List (Addr × Obj)) (H : Hp) (b : Addr) : Prop :=
 H b = none ∧ b ≠ X.env.locals ∧ b ∉ X.fs ∧ (b ∈ X.ex ∨ X.s₀.heap.objs.size ≤ b) ∧ (∀ x c, X.env.cells.lookup x = some c → c ≠ b) ∧ ∀ p ∈ X.pn ++ pins, p.1 ≠ b
theorem Inv.fpOk {X : Cx} {pins : List (Addr × Obj)} {σ : St} {H H' : Hp} {s : Shared} {b : Addr} (I : Inv X pins σ H s) (hb : s.heap.objs.size ≤ b) (hn : H' b = none) : FpOk X pins H' b := by
 refine ⟨hn, Nat.ne_of_gt (Nat.lt_of_lt_of_le I.lt hb), I.nofs hb, .inr (Nat.le_trans I.sz hb), fun x c e z => ?_, fun p hp z => ?_⟩
 ·obtain ⟨v, q⟩ := I.cell x c e
  exact absurd (Nat.lt_of_lt_of_le q.lt (by rw [z]; exact hb)) (Nat.lt_irrefl _)
 ·exact absurd (Nat.lt_of_lt_of_le (Heap.lt_size (I.pin p hp).1) (by rw [z]; exact hb)) (Nat.lt_irrefl _)
structure Turn (P : Program) (w : World) (K : PySem.W.Frag) (tg : Expr) (J : It) (fp : List Addr) (it : Addr) (tn : Nat → Heap → Prop) : Prop where
 mem : it ∈ fp
 obj : ∀ i h, tn i h → ∀ b ∈ fp, ∃ o, h.get? b = some o ∧ ∀ v, o.data ≠ .cell v
 keep : ∀ i h h', tn i h → (∀ b ∈ fp, ∀ o, h.get? b = some o → h'.get? b = some o) → tn i h'
 item : ∀ (X : Cx), X.prog = P → X.w = w → X.K = K → X.calm = true → ∀ (i : Nat) (pins : List (Addr × Obj)) (s : Shared) (σ : St) (H : Hp) (E : Value → Shared → Prop), Inv X pins σ H s → (∀ b ∈ fp, FpOk X pins H b) → tn i s.heap → J.go i H →
  wpAny (model P w) X.A (pyNext (.ref it)) (fun r s1 => ∃ u, r = some u ∧
   wpAny (model P w) X.A (letOwnedTupleGo tg (.ref it) u) (fun _ s2 => ∃ x H', Inv X pins σ H' s2 ∧ RelV x u ∧ J.yld i H x H' ∧ tn (i + 1) s2.heap ∧ ∀ b ∈ fp, H' b = none) E s1) E s
 done : ∀ (X : Cx), X.prog = P → X.w = w → X.K = K → X.calm = true → ∀ (i : Nat) (pins : List (Addr × Obj)) (s : Shared) (σ : St) (H : Hp) (E : Value → Shared → Prop), Inv X pins σ H s → (∀ b ∈ fp, FpOk X pins H b) → tn i s.heap → J.stop i H →
  wpAny (model P w) X.A (pyNext (.ref it)) (fun r s1 => r = none ∧ Inv X pins σ H s1) E s
 self : ∀ (A : Around) (i : Nat) (s : Shared) (Q : Value → Shared → Prop) (E : Value → Shared → Prop), tn i s.heap → Q (.ref it) s → wpAny (model P w) A (pyIter (.ref it)) Q E s
noncomputable abbrev TI := St → Hp → (It → Hp → Prop) → Prop
noncomputable def PIE (X : Cx) (pins : List (Addr × Obj)) (σ : St) (tg : Expr) (R : It → Hp → Prop) (itv : Value) (s2 : Shared) : Prop :=
 ∃ (it : Addr) (fp : List Addr) (tn : Nat → Heap → Prop) (J : It) (H' : Hp), itv = .ref it ∧ Inv X pins σ H' s2 ∧ Turn X.prog X.w X.K tg J fp it tn ∧ tn 0 s2.heap ∧ (∀ b ∈ fp, FpOk X pins H' b) ∧ R J H'
noncomputable def PI (X : Cx) (tg iter : Expr) (wi : TI) : Prop :=
 ∀ (pins : List (Addr × Obj)) (s : Shared) (σ : St) (H : Hp) (R : It → Hp → Prop), Inv X pins σ H s → wi σ H R →
  wpAny (model X.prog X.w) X.A (eval iter X.env) (fun v s1 => wpAny (model X.prog X.w) X.A (pyIter v) (PIE X pins σ tg R) X.xe s1) X.xe s

theorem go_of {M : Model} {A : Around} {E : Value → Shared → Prop} {s : Shared} {tg : Expr} {it : Addr} {u : Value} {o : Obj} {n : String} {vs : Array Value} {Q : Unit → Shared → Prop} (ho : s.heap.get? it = some o) (hc : o.cls = .type n) (hd : o.data = .fields vs)
    (hn : ["enumerate", "zip", "dict_itemiterator", "dict_reverseitemiterator", "odict_iterator", "itertools.zip_longest", "itertools.pairwise"].contains n = false) (hQ : Q () s) : wpAny M A (letOwnedTupleGo tg (.ref it) u) Q E s := by
  unfold letOwnedTupleGo
  cases tg <;> first
    | exact wpAny_pure hQ
    | (cases u <;> first
        | exact wpAny_pure hQ
        | (refine wpAny_bind (wpAny_load ho ?_)
           rw [hc, hd]
           show wpAny M A (if (["enumerate", "zip", "dict_itemiterator", "dict_reverseitemiterator", "odict_iterator", "itertools.zip_longest", "itertools.pairwise"].contains n && vs[0]? == some (rawInt _)) = true then _ else _) Q E s
           rw [if_neg (by intro h; rw [hn, Bool.false_and] at h; cases h)]
           exact wpAny_pure hQ))

noncomputable def Itl (K : PySem.W.Frag) (a : Addr) : It :=
 ⟨fun i H => ∃ xs x, SqL K H a xs ∧ xs[i]? = some x, fun i H x H' => H' = H ∧ ∀ xs, SqL K H a xs → xs[i]? = some x, fun i H => ∃ xs, SqL K H a xs ∧ xs.length ≤ i⟩
noncomputable def Itr (lo : Int) (n : Nat) : It := ⟨fun i _ => i < n, fun i H x H' => H' = H ∧ x = .int (lo + i), fun i _ => n ≤ i⟩
theorem turn_list {P : Program} {w : World} {K : PySem.W.Frag} {tg : Expr} (a it : Addr) : Turn P w K tg (Itl K a) [it] it (fun i h => h.IsListIter it a i) where
 mem := by simp
 obj := fun i h st b hb => by
  have e : b = it := by simpa using hb
  subst e
  obtain ⟨o, e, c, d⟩ := st
  exact ⟨o, e, fun v z => by rw [d] at z; cases z⟩
 keep := fun i h h' st k => st.at fun o e => k it (by simp) o e
 item := by
  intro X hP hw hK hc i pins s σ H E I hf st hg
  subst hP hw hK
  obtain ⟨xs, x, hq, hx⟩ := hg
  obtain ⟨its, rv, p, hz⟩ := I.list hq
  obtain ⟨u, hu, ru⟩ := rv.get hx
  obtain ⟨f0, f1, f2, f3, f4, f5⟩ := hf it (by simp)
  refine wpAny_pyNext_list_item st p.isList (x := u) (by simpa using hu) fun h' st' sb => ?_
  have I1 : Inv X pins σ H { s with heap := h' } := I.turned (t' := s.toks) (fun b o hb e => (sb.2 b hb).trans e) f0 f1 f3 f4 f5
  obtain ⟨o, e, c, d⟩ := id st'
  exact ⟨u, rfl, go_of (s := { s with heap := h' }) e c d (by decide) ⟨x, H, I1, ru, ⟨rfl, fun ys hy => by rw [I.list_inj hy hq]; exact hx⟩, st', fun b hb => (hf b hb).1⟩⟩
 done := by
  intro X hP hw hK hc i pins s σ H E I hf st hg
  subst hP hw hK
  obtain ⟨xs, hq, hx⟩ := hg
  obtain ⟨its, rv, p, hz⟩ := I.list hq
  obtain ⟨f0, f1, f2, f3, f4, f5⟩ := hf it (by simp)
  have hl := rv.length
  exact wpAny_pyNext_list_end (I.ok.hd hc) st p.isList (by simp; omega) fun h' eb => ⟨rfl, I.turned (t' := s.toks) (fun b o hb e => eb b o hb e) f0 f1 f3 f4 f5⟩
 self := fun _ _ _ _ _ st h => wpAny_pyIter_listiter st h
theorem turn_range {P : Program} {w : World} {K : PySem.W.Frag} {tg : Expr} (it : Addr) (lo : Int) (n : Nat) : Turn P w K tg (Itr lo n) [it] it (fun i h => IsRangeIter h it (lo + (i : Nat) * 1) ((n : Int) - (i : Nat)) 1) where
 mem := by simp
 obj := fun i h st b hb => by
  have e : b = it := by simpa using hb
  subst e
  exact ⟨_, st, fun v z => by
   have z' : Data.fields _ = Data.cell v := z
   cases z'⟩
 keep := fun i h h' st k => k it (by simp) _ st
 item := by
  intro X hP hw hK hc i pins s σ H E I hf st hg
  subst hP hw hK
  obtain ⟨f0, f1, f2, f3, f4, f5⟩ := hf it (by simp)
  have W := Walks.range (prog := X.prog) (w := X.w) (I.ok.hd hc) it lo 1 n
  refine W.item i s _ _ hg st fun v h' tk hv st' kk => ?_
  obtain ⟨t, rfl⟩ := hv
  have I1 : Inv X pins σ H { s with heap := h', toks := tk } := I.turned (fun b o hb e => kk b o (by simpa using hb) e) f0 f1 f3 f4 f5
  refine ⟨_, rfl, go_of (s := { s with heap := h', toks := tk }) (n := "range_iterator") st' rfl rfl (by decide) ⟨.int (lo + i), H, I1, ⟨t, ?_⟩, ⟨rfl, rfl⟩, st', fun b hb => (hf b hb).1⟩⟩
  rw [Int.mul_one]
 done := by
  intro X hP hw hK hc i pins s σ H E I hf st hg
  subst hP hw hK
  obtain ⟨f0, f1, f2, f3, f4, f5⟩ := hf it (by simp)
  exact wpAny_pyNext_range_end (I.ok.hd hc) st (by have : n ≤ i := hg; omega) fun h' eb => ⟨rfl, I.turned (t' := s.toks) (fun b o hb e => eb b o hb e) f0 f1 f3 f4 f5⟩
 self := fun _ _ _ _ _ st h => wpAny_pyIter_rangeiter st h
end L2

namespace L2
open PySem PySem.Spec PyProof.Rows
section
variable {X : Cx} {tg : Expr}
theorem range_it {pins : List (Addr × Obj)} {σ : St} {H : Hp} {s : Shared} {R : It → Hp → Prop} {E : Value → Shared → Prop} {lo hi : Int} {t u v : Tok} {tk : Nat} (I : Inv X pins σ H s) (h1 : -(2 ^ 62) ≤ lo) (h2 : lo < 2 ^ 62) (h3 : -(2 ^ 62) ≤ hi) (h4 : hi < 2 ^ 62)
  (q : R (Itr lo (hi - lo).toNat) H) : wpAny (model X.prog X.w) X.A (pyIter (.ref s.heap.objs.size)) (PIE X pins σ tg R) E { s with heap := s.heap.push { cls := .type "range", data := .fields #[.int lo t, .int hi u, .int 1 v] }, toks := tk } := by
 refine wpAny_pyIter_range (IsRange.new ..) (small_one h1 h2 h3 h4) ?_
 have I1 : Inv X pins σ H { s with heap := s.heap.push { cls := .type "range", data := .fields #[.int lo t, .int hi u, .int 1 v] }, toks := tk } := I.kept fun b o e => Heap.get?_push_of_some _ e
 refine ⟨(s.heap.push { cls := .type "range", data := .fields #[.int lo t, .int hi u, .int 1 v] }).objs.size, [(s.heap.push { cls := .type "range", data := .fields #[.int lo t, .int hi u, .int 1 v] }).objs.size], _, _, H, rfl,
  I1.kept (t' := tk) fun b o e => Heap.get?_push_of_some _ e, turn_range _ lo (hi - lo).toNat, ?_, fun b hb => ?_, q⟩
 ·have e1 : lo + ((0 : Nat) : Int) * 1 = lo := by simp
  have e2 : (((hi - lo).toNat : Nat) : Int) - ((0 : Nat) : Int) = Builtin.Range.rangeSize lo hi 1 := by rw [rangeSize_one]; split <;> omega
  show IsRangeIter _ _ (lo + ((0 : Nat) : Int) * 1) ((((hi - lo).toNat : Nat) : Int) - ((0 : Nat) : Int)) 1
  rw [e1, e2]
  exact Heap.get?_push_size _ rfl
 ·have e : b = (s.heap.push { cls := .type "range", data := .fields #[.int lo t, .int hi u, .int 1 v] }).objs.size := by simpa using hb
  subst e
  exact I1.fpOk (Nat.le_refl _) (I1.hok.fresh (Nat.le_refl _))
noncomputable def iRng1 (ta : TA) : TI := fun σ H R => ta σ H fun vs H1 => ∃ j : Int, vs = [.int j] ∧ -(2 ^ 62) ≤ j ∧ j < 2 ^ 62 ∧ R (Itr 0 j.toNat) H1
theorem pi_range1 {a : Expr} {ta : TA} {p pos : Pos} (hg : Gl X "range") (hm : X.mg "range" = none) (ha : PA X [a] ta) (hs : starEach [a] X.env = [(false, eval a X.env)] := by rfl) : PI X tg (.Call (.Name "range" p) [a] [] pos) (iRng1 ta) := by
 intro pins s σ H R I h
 refine Call_ (ld_blt I hg hm boot_range (PyProof.Rows.callWith_type1 (thn (ha pos pins s σ H _ I h) fun us s1 ⟨vs, H1, I1, r1, q1⟩ => ?_) hs rfl))
 obtain ⟨j, e, q1, q2, q⟩ := q1
 subst e
 cases r1 with
 | cons r rr =>
  cases rr
  obtain ⟨t, rfl⟩ := r
  exact call_range_1 (range_it I1 (by omega) (by omega) q1 q2 (by simpa using q))
noncomputable def tFor (wi : TI) (g : TG) (tb : TS) : TS := fun D σ H => wi σ H fun J H1 => ∃ W : Nat → Nat → St → Hp → Prop, (∃ m, W 0 m σ H1) ∧ ∀ i m σ H, W i m σ H →
 (J.stop i H ∧ D.nx σ H) ∨ (J.go i H ∧ ∃ N : St → Hp → Prop, (∀ σ' H', N σ' H' → ∃ m', m' < m ∧ W (i + 1) m' σ' H') ∧ ∀ x H', J.yld i H x H' → g x σ H' fun σ2 H2 => tb { D with nx := N, ct := N, bk := D.nx } σ2 H2)
noncomputable def pinsAt (fp : List Addr) (h : Heap) : List (Addr × Obj) := fp.filterMap fun b => (h.get? b).map fun o => (b, o)
theorem mem_pinsAt {fp : List Addr} {h : Heap} {b : Addr} {o : Obj} (hb : b ∈ fp) (e : h.get? b = some o) : (b, o) ∈ pinsAt fp h := List.mem_filterMap.mpr ⟨b, hb, by rw [e]; rfl⟩
theorem of_pinsAt {fp : List Addr} {h : Heap} {p : Addr × Obj} (hp : p ∈ pinsAt fp h) : p.1 ∈ fp ∧ h.get? p.1 = some p.2 := by
 obtain ⟨b, hb, e⟩ := List.mem_filterMap.mp hp
 cases q : h.get? b with
 | none => rw [q] at e; cases e
 | some o =>
  rw [q] at e
  have e' : (b, o) = p := Option.some.inj e
  subst e'
  exact ⟨hb, q⟩
theorem Inv.pinned {pins : List (Addr × Obj)} {σ : St} {H : Hp} {s : Shared} {fp : List Addr} (I : Inv X pins σ H s) (hf : ∀ b ∈ fp, FpOk X pins H b) (ho : ∀ b ∈ fp, ∃ o, s.heap.get? b = some o ∧ ∀ v, o.data ≠ .cell v) : Inv X (pins ++ pinsAt fp s.heap) σ H s :=
 I.pins_of fun p hp => (List.mem_append.mp hp).elim (fun z => I.pin p (List.mem_append_right _ z)) fun z => by
  obtain ⟨hb, e⟩ := of_pinsAt z
  obtain ⟨f0, f1, f2, _⟩ := hf p.1 hb
  obtain ⟨o, e', d⟩ := ho p.1 hb
  rw [e] at e'; cases e'
  exact ⟨e, f0, f1, f2, d⟩
theorem Inv.unpinned {pins pl : List (Addr × Obj)} {σ : St} {H : Hp} {s : Shared} (I : Inv X (pins ++ pl) σ H s) : Inv X pins σ H s := I.pins_of fun p hp => I.pin p (List.mem_append_right _ (List.mem_append_left _ hp))
theorem ps_for {iter : Expr} {body : List Stmt} {wi : TI} {g : TG} {tb : TS} {pos : Pos} (hp : PassesOwn (model X.prog X.w) X.A X.env X.xe) (hc : X.calm = true) (hi : PI X tg iter wi) (hg : PG X tg g) (hb : PSs X body tb)
  (hs : ∀ x, foldedSetIterable iter X.env x = pure x := by intro _; rfl) : PS X (.For tg iter body [] pos) (tFor wi g tb) := by
 intro pins s σ H D I h
 refine wpAny_For (thn (hi pins s σ H _ I h) fun v s1 h1 => thn h1 fun itv s2 h2 => ?_) hs
 obtain ⟨it, fp, tn, J, H2, e, I2, T, st2, f2, W, ⟨m0, w0⟩, turn⟩ := h2
 subst e
 -- what stays true of the iterator's objects through the loop
 have stat : ∀ {H' : Hp}, (∀ b ∈ fp, H' b = none) → ∀ b ∈ fp, FpOk X pins H' b := fun hn b hb => ⟨hn b hb, (f2 b hb).2⟩
 refine codeAny_forLoop_any (fun n s' => ∃ i σ' H', Inv X pins σ' H' s' ∧ tn i s'.heap ∧ (∀ b ∈ fp, H' b = none) ∧ W i n σ' H') ?_ m0 ⟨0, σ, H2, I2, st2, fun b hb => (f2 b hb).1, w0⟩
 rintro n s3 ⟨i, σ3, H3, I3, st3, fr3, w3⟩
 rcases turn i n σ3 H3 w3 with ⟨stop, qn⟩ | ⟨go, N, hN, step⟩
 ·refine wpAny_passesOwn hp (thn (T.done X rfl rfl rfl hc i pins s3 σ3 H3 X.xe I3 (stat fr3) st3 stop) fun r s4 hx__ => ?_)
  obtain ⟨hr, I4⟩ := hx__
  subst hr
  exact wpAny_execs_nil ⟨σ3, H3, I4, qn⟩
 ·refine wpAny_passesOwn hp (thn (T.item X rfl rfl rfl hc i pins s3 σ3 H3 X.xe I3 (stat fr3) st3 go) fun r s4 hx__ => ?_)
  obtain ⟨u, hr, h4⟩ := hx__
  subst hr
  refine wpAny_passesOwn hp (thn h4 fun _ s5 hx__ => ?_)
  obtain ⟨x, H5, I5, r5, y5, st5, fr5⟩ := hx__
  have I5' := I5.pinned (stat fr5) (T.obj _ _ st5)
  refine wpAny_passesOwn hp (thn (hg _ s5 σ3 H5 x u _ I5' r5 (step x H5 y5)) fun _ s6 hx__ => ?_)
  obtain ⟨σ6, H6, I6, q6⟩ := hx__
  refine wpAny_passesOwn hp (thn (hb _ s6 σ6 H6 _ I6 q6) fun f s7 q7 => ?_)
  have again : ∀ {σ7 : St} {H7 : Hp}, Inv X (pins ++ pinsAt fp s5.heap) σ7 H7 s7 → N σ7 H7 → ∃ m, m < n ∧ ∃ i σ' H', Inv X pins σ' H' s7 ∧ tn i s7.heap ∧ (∀ b ∈ fp, H' b = none) ∧ W i m σ' H' := fun {σ7 H7} I7 n7 => by
   obtain ⟨m', hm, w7⟩ := hN σ7 H7 n7
   refine ⟨m', hm, i + 1, σ7, H7, I7.unpinned, T.keep _ _ _ st5 fun b hb o e => (I7.pin (b, o) (List.mem_append_right _ (List.mem_append_right _ (mem_pinsAt hb e)))).1, fun b hb => ?_, w7⟩
   obtain ⟨o, e, d⟩ := T.obj _ _ st5 b hb
   exact (I7.pin (b, o) (List.mem_append_right _ (List.mem_append_right _ (mem_pinsAt hb e)))).2.1
  cases f with
  | next => obtain ⟨σ7, H7, I7, n7⟩ := q7; exact again I7 n7
  | cont => obtain ⟨σ7, H7, I7, n7⟩ := q7; exact again I7 n7
  | brk => obtain ⟨σ7, H7, I7, q7⟩ := q7; exact ⟨σ7, H7, I7.unpinned, q7⟩
  | ret v => obtain ⟨x7, σ7, H7, I7, r7, q7⟩ := q7; exact ⟨x7, σ7, H7, I7.unpinned, r7, q7⟩
end

theorem for_range {lo : Int} {n : Nat} {g : TG} {tb : TS} {D : Ends} {σ : St} {H : Hp} (Pv : Nat → St → Hp → Prop) (h0 : Pv 0 σ H)
  (hs : ∀ i σ H, i < n → Pv i σ H → g (.int (lo + i)) σ H fun σ2 H2 => tb { D with nx := Pv (i + 1), ct := Pv (i + 1), bk := D.nx } σ2 H2) (hd : ∀ σ H, Pv n σ H → D.nx σ H) :
  ∃ W : Nat → Nat → St → Hp → Prop, (∃ m, W 0 m σ H) ∧ ∀ i m σ H, W i m σ H →
   ((Itr lo n).stop i H ∧ D.nx σ H) ∨ ((Itr lo n).go i H ∧ ∃ N : St → Hp → Prop, (∀ σ' H', N σ' H' → ∃ m', m' < m ∧ W (i + 1) m' σ' H') ∧ ∀ x H', (Itr lo n).yld i H x H' → g x σ H' fun σ2 H2 => tb { D with nx := N, ct := N, bk := D.nx } σ2 H2) := by
 refine ⟨fun i m σ H => m = n - i ∧ i ≤ n ∧ Pv i σ H, ⟨n, by simp, Nat.zero_le _, h0⟩, ?_⟩
 rintro i m σ H ⟨rfl, hi, p⟩
 by_cases hlt : i < n
 ·refine .inr ⟨hlt, Pv (i + 1), fun σ' H' p' => ⟨n - (i + 1), by omega, rfl, hlt, p'⟩, fun x H' y => ?_⟩
  obtain ⟨e, y⟩ := y
  subst e y
  exact hs i σ _ hlt p
 ·have e : i = n := by omega
  subst e
  exact .inl ⟨Nat.le_refl _, hd σ H p⟩
end L2

namespace L2
open PySem PySem.Spec PyProof.Rows

noncomputable abbrev R2 := V → V → Hp → VK → Prop
noncomputable def OpR (X : Cx) (f : Value → Value → Sem Value) (r : R2) : Prop :=
 ∀ (pins : List (Addr × Obj)) (s : Shared) (σ : St) (H : Hp) (x y : V) (v u : Value) (Q : VK), Inv X pins σ H s → RelV x v → RelV y u → r x y H Q →
  wpAny (model X.prog X.w) X.A (f v u) (EP X pins σ Q) X.xe s
noncomputable def UnR (X : Cx) (f : Value → Sem Value) (r : V → Hp → VK → Prop) : Prop :=
 ∀ (pins : List (Addr × Obj)) (s : Shared) (σ : St) (H : Hp) (x : V) (v : Value) (Q : VK), Inv X pins σ H s → RelV x v → r x H Q →
  wpAny (model X.prog X.w) X.A (f v) (EP X pins σ Q) X.xe s
noncomputable def CallR (X : Cx) (f : Value) (r : List V → Hp → VK → Prop) : Prop :=
 ∀ (pins : List (Addr × Obj)) (s : Shared) (σ : St) (H : Hp) (xs : List V) (us : List Value) (Q : VK), Inv X pins σ H s → Vals xs us → r xs H Q →
  wpAny (model X.prog X.w) X.A (call f us) (EP X pins σ Q) X.xe s
noncomputable def TruR (X : Cx) (r : V → Hp → (Bool → Hp → Prop) → Prop) : Prop :=
 ∀ (pins : List (Addr × Obj)) (s : Shared) (σ : St) (H : Hp) (x : V) (v : Value) (Q : Bool → Hp → Prop), Inv X pins σ H s → RelV x v → r x H Q →
  wpAny (model X.prog X.w) X.A (truthy v) (TP X pins σ Q) X.xe s

noncomputable def tOp (r : R2) (ta tb : TE) : TE := fun σ H Q => ta σ H fun x H1 => tb σ H1 fun y H2 => r x y H2 Q
noncomputable def tUn (r : V → Hp → VK → Prop) (ta : TE) : TE := fun σ H Q => ta σ H fun x H1 => r x H1 Q
noncomputable def rI (C : Int → Int → Prop) (g : Int → Int → V) : R2 := fun x y H Q => ∃ i j, x = .int i ∧ y = .int j ∧ C i j ∧ Q (g i j) H
noncomputable def rI0 (g : Int → Int → V) : R2 := fun x y H Q => ∃ i j, x = .int i ∧ y = .int j ∧ Q (g i j) H
noncomputable def rU (g : Int → V) : V → Hp → VK → Prop := fun x H Q => ∃ i, x = .int i ∧ Q (g i) H

section
variable {X : Cx} {a b c : Expr} {ta tb tc : TE} {pos : Pos}

theorem binT (ha : PE X a ta) (hb : PE X b tb) {pins : List (Addr × Obj)} {s : Shared} {σ : St} {H : Hp} {R : V → V → Hp → Prop} (I : Inv X pins σ H s)
  (h : ta σ H fun x H1 => tb σ H1 fun y H2 => R x y H2) {Q : Value → Shared → Prop} {f : Value → Value → Sem Value}
  (hf : ∀ v u s2 x y H2, Inv X pins σ H2 s2 → RelV x v → RelV y u → R x y H2 → wpAny (model X.prog X.w) X.A (f v u) Q X.xe s2) :
  wpAny (model X.prog X.w) X.A (eval a X.env) (fun v s₁ => wpAny (model X.prog X.w) X.A (eval b X.env) (fun u s₂ => wpAny (model X.prog X.w) X.A (f v u) Q X.xe s₂) X.xe s₁) X.xe s := by
 refine thn (ha pins s σ H _ I h) fun v s1 hx__ => ?_
 obtain ⟨x, H1, I1, r1, q1⟩ := hx__
 refine thn (hb pins s1 σ H1 _ I1 q1) fun u s2 hx__ => ?_
 obtain ⟨y, H2, I2, r2, q2⟩ := hx__
 exact hf v u s2 x y H2 I2 r1 r2 q2

theorem pe_op {op : Operator} {r : R2} (ho : OpR X (binaryOp op) r) (ha : PE X a ta) (hb : PE X b tb) : PE X (.BinOp a op b pos) (tOp r ta tb) := by
 intro pins s σ H Q I h
 exact wpAny_BinOp (binT ha hb I h fun v u s2 x y H2 I2 rx ry q => ho pins s2 σ H2 x y v u Q I2 rx ry q)
theorem pe_un {op : UnaryOp} {r : V → Hp → VK → Prop} (ho : UnR X (unaryOp op) r) (ha : PE X a ta) : PE X (.UnaryOp op a pos) (tUn r ta) := by
 intro pins s σ H Q I h
 exact UnaryOp_ (thn (ha pins s σ H _ I h) fun v s1 ⟨x, H1, I1, r1, q1⟩ => ho pins s1 σ H1 x v Q I1 r1 q1)
theorem opI {f : Value → Value → Sem Value} {C : Int → Int → Prop} {g : Int → Int → Int}
  (rule : ∀ (i j : Int) (t u : Tok) (s : Shared) (Q : Value → Shared → Prop) (E : Value → Shared → Prop), C i j → Q (.int (g i j) s.toks) { s with toks := s.toks + 1 } → wpAny (model X.prog X.w) X.A (f (.int i t) (.int j u)) Q E s) :
  OpR X f (rI C fun i j => .int (g i j)) := by
 intro pins s σ H x y v u Q I rx ry h
 obtain ⟨i, j, rfl, rfl, hc, q⟩ := h
 obtain ⟨t, rfl⟩ := rx
 obtain ⟨t', rfl⟩ := ry
 exact rule i j t t' s _ _ hc ⟨.int (g i j), H, I.tok _, ⟨_, rfl⟩, q⟩
theorem opI0 {f : Value → Value → Sem Value} {g : Int → Int → Int}
  (rule : ∀ (i j : Int) (t u : Tok) (s : Shared) (Q : Value → Shared → Prop) (E : Value → Shared → Prop), Q (.int (g i j) s.toks) { s with toks := s.toks + 1 } → wpAny (model X.prog X.w) X.A (f (.int i t) (.int j u)) Q E s) :
  OpR X f (rI0 fun i j => .int (g i j)) := by
 intro pins s σ H x y v u Q I rx ry h
 obtain ⟨i, j, rfl, rfl, q⟩ := h
 obtain ⟨t, rfl⟩ := rx
 obtain ⟨t', rfl⟩ := ry
 exact rule i j t t' s _ _ ⟨.int (g i j), H, I.tok _, ⟨_, rfl⟩, q⟩
theorem opB0 {f : Value → Value → Sem Value} {g : Int → Int → Bool}
  (rule : ∀ (i j : Int) (t u : Tok) (s : Shared) (Q : Value → Shared → Prop) (E : Value → Shared → Prop), Q (.bool (g i j)) s → wpAny (model X.prog X.w) X.A (f (.int i t) (.int j u)) Q E s) :
  OpR X f (rI0 fun i j => .bl (g i j)) := by
 intro pins s σ H x y v u Q I rx ry h
 obtain ⟨i, j, rfl, rfl, q⟩ := h
 obtain ⟨t, rfl⟩ := rx
 obtain ⟨t', rfl⟩ := ry
 exact rule i j t t' s _ _ ⟨.bl (g i j), H, I, rfl, q⟩

noncomputable def CPow (i j : Int) : Prop := 0 ≤ j ∧ j ≤ 1000000 ∧ i.natAbs < 2 ^ 64
noncomputable def CMul (i j : Int) : Prop := (-(2 ^ 64) < i ∧ i < 2 ^ 64) ∨ (-(2 ^ 64) < j ∧ j < 2 ^ 64)
theorem CMul.ok {i j : Int} (h : CMul i j) : IntMulOk i j := by
 rcases h with ⟨h1, h2⟩ | ⟨h1, h2⟩
 ·exact .of_left (intBits_le_64 h1 h2)
 ·exact .of_right (intBits_le_64 h1 h2)
theorem op_add : OpR X (binaryOp .Add) (rI0 fun i j => .int (i + j)) := opI0 fun _ _ _ _ _ _ _ q => add_int q
theorem op_sub : OpR X (binaryOp .Sub) (rI0 fun i j => .int (i - j)) := opI0 fun _ _ _ _ _ _ _ q => sub_int q
theorem op_mul : OpR X (binaryOp .Mult) (rI CMul fun i j => .int (i * j)) := opI fun _ _ _ _ _ _ _ hc q => mul_int q hc.ok
theorem op_mod : OpR X (binaryOp .Mod) (rI (fun _ j => 0 < j) fun i j => .int (i % j)) := opI fun i j _ _ _ _ _ hc q => by
 have h1 : (0 : Int) < j := hc
 exact mod_int' (by omega) (by rw [Int.fmod_eq_emod_of_nonneg i (by omega)]; exact q)
theorem op_pow : OpR X (binaryOp .Pow) (rI CPow fun i j => .int (i ^ j.toNat)) := opI fun _ _ _ _ _ _ _ hc q => pow_int_small hc.1 hc.2.1 hc.2.2 q
theorem unI {f : Value → Sem Value} {g : Int → Int}
  (rule : ∀ (i : Int) (t : Tok) (s : Shared) (Q : Value → Shared → Prop) (E : Value → Shared → Prop), Q (.int (g i) s.toks) { s with toks := s.toks + 1 } → wpAny (model X.prog X.w) X.A (f (.int i t)) Q E s) :
  UnR X f (rU fun i => .int (g i)) := by
 intro pins s σ H x v Q I rx h
 obtain ⟨i, rfl, q⟩ := h
 obtain ⟨t, rfl⟩ := rx
 exact rule i t s _ _ ⟨.int (g i), H, I.tok _, ⟨_, rfl⟩, q⟩
theorem un_neg : UnR X (unaryOp .USub) (rU fun i => .int (-i)) := unI fun _ _ _ _ _ q => neg_int q
end

section
variable {X : Cx} {a b c : Expr} {ta tb tc : TE} {pos : Pos}
theorem fin_bl {pins : List (Addr × Obj)} {σ : St} {H : Hp} {s : Shared} {Q : VK} {k k' : Bool} (I : Inv X pins σ H s) (q : Q (.bl k) H) (e : k = k') : EP X pins σ Q (.bool k') s := by
 subst e
 exact ⟨.bl k, H, I, rfl, q⟩
theorem op_lt : OpR X (compareOp .Lt) (rI0 fun i j => .bl (decide (i < j))) := opB0 fun _ _ _ _ _ _ _ q => lt_int q
theorem op_le : OpR X (compareOp .LtE) (rI0 fun i j => .bl (decide (i ≤ j))) := opB0 fun _ _ _ _ _ _ _ q => le_int q
theorem op_gt : OpR X (compareOp .Gt) (rI0 fun i j => .bl (decide (j < i))) := opB0 fun _ _ _ _ _ _ _ q => gt_int q
theorem op_isN : OpR X (compareOp .Is) (fun x y H Q => y = .non ∧ Q (.bl (decide (x = .non))) H) := by
 intro pins s σ H x y v u Q I rx ry h
 obtain ⟨rfl, q⟩ := h
 cases ry
 refine is_none_gen (fin_bl I q ?_)
 cases x <;> first
  | (cases rx; rfl)
  | (obtain ⟨t, rfl⟩ := rx; rfl)
theorem op_notN : OpR X (compareOp .IsNot) (fun x y H Q => y = .non ∧ Q (.bl (!decide (x = .non))) H) := by
 intro pins s σ H x y v u Q I rx ry h
 obtain ⟨rfl, q⟩ := h
 cases ry
 refine isnot_none_gen (fin_bl I q ?_)
 cases x <;> first
  | (cases rx; rfl)
  | (obtain ⟨t, rfl⟩ := rx; rfl)

theorem OpR.or {f : Value → Value → Sem Value} {r r' : R2} (h : OpR X f r) (h' : OpR X f r') : OpR X f (fun x y H Q => r x y H Q ∨ r' x y H Q) := by
 intro pins s σ H x y v u Q I rx ry q
 rcases q with q | q
 ·exact h pins s σ H x y v u Q I rx ry q
 ·exact h' pins s σ H x y v u Q I rx ry q

theorem nomark (b : Expr) {op : CmpOp} (h : op ≠ .In := by decide) (h2 : op ≠ .NotIn := by decide) : behindInMarks op b = false := by
 have e1 : (op == CmpOp.In) = false := by cases op <;> first | rfl | exact absurd rfl h
 have e2 : (op == CmpOp.NotIn) = false := by cases op <;> first | rfl | exact absurd rfl h2
 cases b <;> simp [behindInMarks, e1, e2]
theorem pe_cmpR {op : CmpOp} {r : R2} (ho : OpR X (compareOp op) r) (ha : PE X a ta) (hb : PE X b tb) (hm : behindInMarks op b = false) : PE X (.Compare a [op] [b] pos) (tOp r ta tb) := by
 intro pins s σ H Q I h
 exact wpAny_Compare1 (binT ha hb I h fun v u s2 x y H2 I2 rx ry q => ho pins s2 σ H2 x y v u Q I2 rx ry q) hm
noncomputable def tTest (t : TE) : TT := fun σ H Q => t σ H fun x H' => ∃ k, x = .bl k ∧ Q k H'
theorem pt_cmpR {op : CmpOp} {r : R2} (ho : OpR X (compareOp op) r) (ha : PE X a ta) (hb : PE X b tb) (hm : behindInMarks op b = false) : PT X (.Compare a [op] [b] pos) (tTest (tOp r ta tb)) := by
 intro pins s σ H Q I h
 refine wpAny_isTrue_Compare1 (thn (ha pins s σ H _ I h) fun v s1 w1 => ?_) hm
 obtain ⟨x, H1, I1, r1, q1⟩ := w1
 refine thn (hb pins s1 σ H1 _ I1 q1) fun u s2 w2 => ?_
 obtain ⟨y, H2, I2, r2, q2⟩ := w2
 refine thn (ho pins s2 σ H2 x y v u _ I2 r1 r2 q2) fun c s3 w3 => ?_
 obtain ⟨z, H3, I3, r3, k, e, q3⟩ := w3
 subst e
 cases r3
 exact wpAny_truthy_bool ⟨H3, I3, q3⟩
noncomputable def tChain (r r' : R2) (ta tb tc : TE) : TE := fun σ H Q => ta σ H fun x H1 => tb σ H1 fun y H2 => r x y H2 fun z H3 => ∃ k, z = .bl k ∧
 (if k = true then tc σ H3 fun w' H4 => r' y w' H4 Q else Q (.bl false) H3)
theorem pe_chain {op op' : CmpOp} {r r' : R2} (ho : OpR X (compareOp op) r) (ho' : OpR X (compareOp op') r') (ha : PE X a ta) (hb : PE X b tb) (hc : PE X c tc)
  (hm : lastMarks [op, op'] [b, c] = false := by with_unfolding_all rfl) : PE X (.Compare a [op, op'] [b, c] pos) (tChain r r' ta tb tc) := by
 intro pins s σ H Q I h
 refine Compare_chain (thn (ha pins s σ H _ I h) fun v s1 w1 => ?_) hm
 obtain ⟨x, H1, I1, r1, q1⟩ := w1
 refine chain_link (thn (hb pins s1 σ H1 _ I1 q1) fun u s2 w2 => ?_)
 obtain ⟨y, H2, I2, r2, q2⟩ := w2
 refine thn (ho pins s2 σ H2 x y v u _ I2 r1 r2 q2) fun d s3 w3 => ?_
 obtain ⟨z, H3, I3, r3, k, e, q3⟩ := w3
 subst e
 cases r3
 refine wpAny_truthy_bool ?_
 cases k with
 | false => exact ite_ff ⟨.bl false, H3, I3, rfl, q3⟩
 | true => exact ite_tt (chain_last (thn (hc pins s3 σ H3 _ I3 q3) fun w' s4 ⟨z', H4, I4, r4, q4⟩ => ho' pins s4 σ H4 y z' u w' Q I4 r2 r4 q4))
theorem pt_chain {op op' : CmpOp} {r r' : R2} (ho : OpR X (compareOp op) r) (ho' : OpR X (compareOp op') r') (ha : PE X a ta) (hb : PE X b tb) (hc : PE X c tc)
  (hm : lastMarks [op, op'] [b, c] = false := by with_unfolding_all rfl) : PT X (.Compare a [op, op'] [b, c] pos) (tTest (tChain r r' ta tb tc)) := by
 intro pins s σ H Q I h
 refine isTrue_chain (thn (ha pins s σ H _ I h) fun v s1 w1 => ?_) hm
 obtain ⟨x, H1, I1, r1, q1⟩ := w1
 refine test_link (thn (hb pins s1 σ H1 _ I1 q1) fun u s2 w2 => ?_)
 obtain ⟨y, H2, I2, r2, q2⟩ := w2
 refine thn (ho pins s2 σ H2 x y v u _ I2 r1 r2 q2) fun d s3 w3 => ?_
 obtain ⟨z, H3, I3, r3, k, e, q3⟩ := w3
 subst e
 cases r3
 refine wpAny_truthy_bool ?_
 cases k with
 | false =>
  obtain ⟨k', e', q'⟩ := q3
  cases e'
  exact ite_ff ⟨H3, I3, q'⟩
 | true =>
  refine ite_tt (test_last (thn (hc pins s3 σ H3 _ I3 q3) fun w' s4 ⟨z', H4, I4, r4, q4⟩ => thn (ho' pins s4 σ H4 y z' u w' _ I4 r2 r4 q4) fun d' s5 hx__ => ?_))
  obtain ⟨z2, H5, I5, r5, k2, e2, q5⟩ := hx__
  subst e2
  cases r5
  exact wpAny_truthy_bool ⟨H5, I5, q5⟩

noncomputable def TruV (K : PySem.W.Frag) (x : V) (H : Hp) (k : Bool) : Prop :=
 match x with
 | .non => k = false
 | .bl b => k = b
 | .int i => k = (i != 0)
 | .str y => y.length ≤ sizeLine ∧ k = ((y.length : Int) != 0)
 | .byt y => y.size ≤ sizeLine ∧ k = ((y.size : Int) != 0)
 | .ref p => (∃ xs, SqL K H p xs ∧ k = !xs.isEmpty) ∨ (∃ xs, SqT K H p xs ∧ k = !xs.isEmpty) ∨ ∃ kvs, H p = some (.dK kvs) ∧ k = !kvs.isEmpty
 | _ => False
theorem isEmpty_kv {κ : Type} {kvs : List (κ × V)} {vs : List (κ × Value)} (r : KV kvs vs) : (!vs.isEmpty) = !kvs.isEmpty := by
 cases r <;> rfl
theorem isEmpty_of {xs : List V} {its : List Value} (r : Vals xs its) : (!its.toArray.isEmpty) = !xs.isEmpty := by
 cases r <;> simp
theorem line63 : (sizeLine : Nat) < 2 ^ 63 := by rw [sizeLine_eq]; decide
theorem tru_ok : TruR X (fun x H Q => ∃ k, TruV X.K x H k ∧ Q k H) := by
 intro pins s σ H x v Q I rx h
 obtain ⟨k, e, q⟩ := h
 have hl := line63
 have hs : sizeLine = 16777216 := sizeLine_eq
 cases x with
 | non =>
  cases rx
  have e' : k = false := e
  subst e'
  exact truthy_none ⟨H, I, q⟩
 | bl b =>
  cases rx
  have e' : k = b := e
  subst e'
  exact wpAny_truthy_bool ⟨H, I, q⟩
 | int i =>
  obtain ⟨t, rfl⟩ := rx
  have e' : k = (i != 0) := e
  subst e'
  exact PySem.P.truthy_int ⟨H, I, q⟩
 | str y =>
  obtain ⟨t, rfl⟩ := rx
  obtain ⟨hy, e'⟩ : y.length ≤ sizeLine ∧ k = ((y.length : Int) != 0) := e
  subst e'
  exact PySem.P.truthy_str (by omega) ⟨H, I.tok _, q⟩
 | byt y =>
  obtain ⟨t, rfl⟩ := rx
  obtain ⟨hy, e'⟩ : y.size ≤ sizeLine ∧ k = ((y.size : Int) != 0) := e
  subst e'
  exact PySem.W.truthy_bytes (by omega) ⟨H, I.tok _, q⟩
 | ref p =>
  cases rx
  have e' : (∃ xs, SqL X.K H p xs ∧ k = !xs.isEmpty) ∨ (∃ xs, SqT X.K H p xs ∧ k = !xs.isEmpty) ∨ ∃ kvs, H p = some (.dK kvs) ∧ k = !kvs.isEmpty := e
  rcases e' with ⟨xs, hx, e'⟩ | ⟨xs, hx, e'⟩ | ⟨kvs, hx, e'⟩
  ·subst e'
   obtain ⟨its, r, pl, hz⟩ := I.list hx
   have hlen := r.length
   exact wpAny_truthy_list pl.isList (by simp only [List.size_toArray]; omega) ⟨H, I.tok _, by rw [isEmpty_of r]; exact q⟩
  ·subst e'
   obtain ⟨its, r, pl, hz⟩ := I.tuple hx
   have hlen := r.length
   exact truthy_tuple pl (by simp only [List.size_toArray]; omega) ⟨H, I.tok _, by rw [isEmpty_of r]; exact q⟩
  ·subst e'
   obtain ⟨hz, hS, vs, r, m⟩ : kvs.length ≤ sizeLine ∧ (p == sysModules) = false ∧ ∃ vs, KV kvs vs ∧ s.heap.DictOf (mixKind X.prog X.w) p vs := I.hok p _ hx
   have hlen : kvs.length = vs.length := Paired.length r
   exact wpAny_truthy_dict hS m (by omega) ⟨H, I.tok _, by rw [isEmpty_kv r]; exact q⟩
 | _ => exact (show False from e).elim
theorem vals1 {x : V} {us : List Value} (r : Vals [x] us) : ∃ u, us = [u] ∧ RelV x u := by
 cases r with
 | cons r1 r2 => cases r2; exact ⟨_, rfl, r1⟩
theorem vals2 {x y : V} {us : List Value} (r : Vals [x, y] us) : ∃ u w', us = [u, w'] ∧ RelV x u ∧ RelV y w' := by
 cases r with
 | cons r1 r2 =>
  cases r2 with
  | cons r3 r4 => cases r4; exact ⟨_, _, rfl, r1, r3⟩
theorem call_max2 (hc : X.calm = true) : CallR X (.builtin "max") (fun xs H Q => ∃ i j, xs = [.int i, .int j] ∧ Q (.int (if j > i then j else i)) H) := by
 intro pins s σ H xs us Q I r h
 obtain ⟨i, j, rfl, q⟩ := h
 obtain ⟨u, w', rfl, ⟨t, rfl⟩, ⟨t', rfl⟩⟩ := vals2 r
 refine max_two_ints (I.ok.hd hc) fun h' tk k => ⟨_, H, I.kept k, ?_, q⟩
 by_cases hj : j > i
 ·rw [if_pos hj, if_pos hj]; exact ⟨_, rfl⟩
 ·rw [if_neg hj, if_neg hj]; exact ⟨_, rfl⟩
theorem call_int1 : CallR X (.type "int") (fun xs H Q => (∃ i, xs = [.int i] ∧ Q (.int i) H) ∨ ∃ k, xs = [.bl k] ∧ Q (.int (if k then 1 else 0)) H) := by
 intro pins s σ H xs us Q I r h
 rcases h with ⟨i, rfl, q⟩ | ⟨k, rfl, q⟩
 ·obtain ⟨u, rfl, t, rfl⟩ := vals1 r
  exact call_int_int ⟨.int i, H, I, ⟨_, rfl⟩, q⟩
 ·obtain ⟨u, rfl, r1⟩ := vals1 r
  cases r1
  exact call_int_bool ⟨.int (if k then 1 else 0), H, I.tok _, ⟨_, rfl⟩, q⟩
end
end L2

namespace L2
open PySem PySem.Spec PyProof.Rows

structure ObjM (h : Heap) (x dx C : Addr) (mA : Str → Option Value) : Prop where
 obj : h.get? x = some (PySem.W.instObj C dx)
 ns : h.Ns1 dx mA
 ne : dx ≠ x

theorem lookIn_ns {h : Heap} {dx : Addr} {mA : Str → Option Value} (n : h.Ns1 dx mA) : ∃ od, h.get? dx = some od ∧ ∀ name, PySem.W.lookIn name od = some (mA name) := by
 obtain ⟨o, es, ep, ho, hd, hk, _, hm⟩ := n
 refine ⟨o, ho, fun name => ?_⟩
 have e := hm name
 unfold nsFind findBy at e
 rw [← Array.find?_toList] at e
 unfold PySem.W.lookIn
 rw [hd]
 dsimp only
 split
 ·rename_i y q
  rw [q] at e
  exact congrArg some e
 ·rename_i q
  rw [q] at e
  have a : es.toList.any (·.refKey) = false := by
   rw [List.any_eq_false]
   intro y hy
   obtain ⟨z, t, hkey⟩ := hk y (Array.mem_toList_iff.mp hy)
   simp [DictEntry.refKey, hkey]
  have a' : ¬ es.toList.any (·.refKey) = true := by rw [a]; exact Bool.false_ne_true
  rw [if_neg a']
  exact congrArg some e

theorem ObjM.look {h : Heap} {x dx C : Addr} {mA : Str → Option Value} (I : ObjM h x dx C mA) : ∃ od, PySem.W.InstAt h x (PySem.W.instObj C dx) C (some od) ∧ ∀ name, PySem.W.lookIn name od = some (mA name) :=
 let ⟨od, ho, hl⟩ := lookIn_ns I.ns
 ⟨od, ⟨I.obj, rfl, rfl, ho⟩, hl⟩

section
variable {prog : Program} {w : World} {A : Around} {E : Value → Shared → Prop} {s : Shared} {K : PySem.W.Frag} {x dx C f : Addr} {mA : Str → Option Value} {name : Str} {v : Value}

end

section
variable {P : Program} {w : World} {H H' : Hp} {h h' : Heap} {a C dx : Addr} {fs fs' : List (Str × V)}
theorem ins_get (hok : HOk P w H h) (e : H a = some (.ins C dx fs)) : ∃ mA, ObjM h a dx C mA ∧ (∀ f, RelO (fs.lookup f) (mA f)) ∧ PySem.Within mA (fs.map (·.1)) ∧ fs.length ≤ 1000 ∧ H dx = some (.own a) := by
 obtain ⟨d, z, ne, ob, mA, n, r, q⟩ := (show ObjOk P w H h a (.ins C dx fs) from hok a _ e)
 exact ⟨mA, ⟨ob, n, ne⟩, r, q, z, d⟩
end

structure Cls (K : PySem.W.Frag) (C : Addr) : Prop where
 pg : PySem.W.plainGet K C Str.empty = true
 hd : PySem.W.hasDictIn K C = true
 po : PySem.W.plainOver K C = true
 sa : PySem.W.findIn K (.ref C) "__setattr__" = some (some (.builtin "object.__setattr__"))
theorem Cls.get {K : PySem.W.Frag} {C : Addr} (c : Cls K C) (f : Str) : PySem.W.plainGet K C f = true := c.pg
section
variable {X : Cx} {pins : List (Addr × Obj)} {σ : St} {H : Hp} {s : Shared} {a C dx : Addr} {fs : List (Str × V)} {f : Str} {v : V} {A : Around} {E : Value → Shared → Prop}

end

section
variable {X : Cx} {o e value : Expr} {f : Str} {pos pos' tpos : Pos} {ta tv : TE}
end

section
variable {X : Cx} {pins : List (Addr × Obj)} {σ : St} {H : Hp} {s : Shared} {A : Around} {E : Value → Shared → Prop} {Q : Value → Shared → Prop} {c : Value} {b : Bool}
inductive TyOf (K : PySem.W.Frag) (H : Hp) : V → Value → Prop where
 | non : TyOf K H .non (.type "NoneType")
 | bl (x : Bool) : TyOf K H (.bl x) (.type "bool")
 | int (i : Int) : TyOf K H (.int i) (.type "int")
 | str (x : Str) : TyOf K H (.str x) (.type "str")
 | flt (x : UInt64) : TyOf K H (.flt x) (.type "float")
 | lst {a : Addr} {xs : List V} (e : H a = some (.lst xs)) : TyOf K H (.ref a) (.type "list")
 | frz {a : Addr} {o : Obj} {xs : List V} (e : H a = some (.frz o (.lst xs))) : TyOf K H (.ref a) (.type "list")
 | tup {a : Addr} {xs : List V} (e : H a = some (.tup xs)) : TyOf K H (.ref a) (.type "tuple")
 | dK {a : Addr} {kvs : List (Key × V)} (e : H a = some (.dK kvs)) : TyOf K H (.ref a) (.type "dict")
 | dT {a : Addr} {kvs : List (List Key × V)} (e : H a = some (.dT kvs)) : TyOf K H (.ref a) (.type "dict")
 | ins {a C dx : Addr} {fs : List (Str × V)} (e : H a = some (.ins C dx fs)) (cl : Cls K C) (ha : PySem.W.findIn K (.ref C) "__class__" = some (some (.builtin "object.__class__")))
   (hn : PySem.W.specialIn K (.builtin "object.__class__") "__get__" = some (some (.builtin "getset_descriptor.__get__"))) (htk : PySem.W.takesIn K (.builtin "object.__class__") = some true)
   (hm : PySem.W.mroIn K C (.type "object") = some true) : TyOf K H (.ref a) (.ref C)
theorem isinst_ok {x : V} {u t : Value} (I : Inv X pins σ H s) (rx : RelV x u) (ty : TyOf X.K H x t) (e : PySem.W.kitOne X.K t c = some b) (h : ∀ tk, Q (.bool b) { s with toks := tk }) :
  wpAny (model X.prog X.w) A (call (.builtin "isinstance") [u, c]) Q E s := by
 cases ty with
 | non => cases (show u = Value.none from rx); exact PySem.W.kia_one PySem.W.kitx_none I.kIn True.intro e (fun z => nomatch z) h
 | bl y => cases (show u = Value.bool y from rx); exact PySem.W.kia_one PySem.W.kitx_bool I.kIn True.intro e (fun z => nomatch z) h
 | int i => obtain ⟨t, q⟩ := (show ∃ t, u = Value.int i t from rx); cases q; exact PySem.W.kia_one PySem.W.kitx_int I.kIn True.intro e (fun z => nomatch z) h
 | str y => obtain ⟨t, q⟩ := (show ∃ t, u = Value.str y t from rx); cases q; exact PySem.W.kia_one PySem.W.kitx_str I.kIn True.intro e (fun z => nomatch z) h
 | flt y => obtain ⟨t, q⟩ := (show ∃ t, u = Value.float y t from rx); cases q; exact PySem.W.kia_one PySem.W.kitx_float I.kIn True.intro e (fun z => nomatch z) h
 | @lst a xs ea =>
  cases (show u = Value.ref a from rx)
  obtain ⟨_, _, n, _, h1⟩ := (show ObjOk X.prog X.w H s.heap a (.lst xs) from I.hok a _ ea)
  exact PySem.W.kia_one PySem.W.kitx_list I.kIn ⟨_, h1, rfl⟩ e (fun z => nomatch z) h
 | @frz a ob xs ea =>
  cases (show u = Value.ref a from rx)
  obtain ⟨_, _, _, n, _, h1⟩ := (show ObjOk X.prog X.w H s.heap a (.frz ob (.lst xs)) from I.hok a _ ea)
  exact PySem.W.kia_one PySem.W.kitx_list I.kIn ⟨_, h1, rfl⟩ e (fun z => nomatch z) h
 | @tup a xs ea =>
  cases (show u = Value.ref a from rx)
  obtain ⟨_, _, _, p⟩ := (show ObjOk X.prog X.w H s.heap a (.tup xs) from I.hok a _ ea)
  obtain ⟨o, h1, h2, _⟩ := p
  exact PySem.W.kia_one PySem.W.kitx_tuple I.kIn ⟨o, h1, h2⟩ e (fun z => nomatch z) h
 | @dK a kvs ea =>
  cases (show u = Value.ref a from rx)
  obtain ⟨_, _, vs, _, p⟩ := (show ObjOk X.prog X.w H s.heap a (.dK kvs) from I.hok a _ ea)
  obtain ⟨o, es, ep, h1, h2, _⟩ := p
  exact PySem.W.kia_one PySem.W.kitx_dict I.kIn ⟨o, h1, h2.1⟩ e (fun z => nomatch z) h
 | @dT a kvs ea =>
  cases (show u = Value.ref a from rx)
  obtain ⟨_, _, xs, _, o, es, ep, h1, h2, _⟩ := (show ObjOk X.prog X.w H s.heap a (.dT kvs) from I.hok a _ ea)
  exact PySem.W.kia_one PySem.W.kitx_dict I.kIn ⟨o, h1, h2.1⟩ e (fun z => nomatch z) h
 | @ins a C dx fs ea cl ha hn htk hm =>
  cases (show u = Value.ref a from rx)
  obtain ⟨mA, O, _⟩ := ins_get I.hok ea
  obtain ⟨od, J, _⟩ := O.look
  exact PySem.W.kia_one (PySem.W.kitx_own (cl.get _) cl.hd ha hn htk hm) I.kIn J e (fun z => nomatch z) h
end
end L2

namespace L2
open PySem PySem.Spec PyProof.Rows

structure Room (k : Nat) (A : Around) : Prop where
 hd : A.handled = none
 dp : A.depth + 3 * k + 5 < recursionLimit
 un : A.units + 16 * k + 200 < cLine
theorem Room.mono {j k : Nat} {A : Around} (r : Room k A) (h : j ≤ k) : Room j A := ⟨r.hd, by have := r.dp; omega, by have := r.un; omega⟩
theorem Room.deeper {k : Nat} {A : Around} (r : Room (k + 1) A) (env : Env) : Room k (A.deeper env) :=
 ⟨r.hd, by have := r.dp; show A.depth + 1 + 3 * k + 5 < _; omega, by have := r.un; show A.units + 3 + 16 * k + 200 < _; omega⟩
theorem Room.depth {k : Nat} {A : Around} (r : Room k A) : A.depth < recursionLimit := by have := r.dp; omega
theorem Room.units {k : Nat} {A : Around} (r : Room k A) : A.units + 64 < cLine := by have := r.un; omega
noncomputable def tNil : TA := fun _ H Q => Q [] H
noncomputable def tCons (ta : TE) (tr : TA) : TA := fun σ H Q => ta σ H fun x H1 => tr σ H1 fun xs H2 => Q (x :: xs) H2
section
variable {X : Cx} {e : Expr} {es : List Expr} {te : TE} {t : TA} {pos : Pos}
theorem pa_nil : PA X [] tNil := fun _ _ _ _ H Q I h => Calls.spliced_nil ⟨[], H, I, .nil, h⟩
theorem pa_cons (ha : PE X e te) (hr : PA X es t) (hs : starEach (e :: es) X.env = (false, eval e X.env) :: starEach es X.env := by rfl) : PA X (e :: es) (tCons te t) := by
 intro pos pins s σ H Q I h
 rw [hs]
 show wpAny _ _ (spliced ((false, eval e X.env) :: backTo pos (starEach es X.env))) _ _ s
 refine Calls.spliced_cons (thn (ha pins s σ H _ I h) fun u s1 hx__ => ?_)
 obtain ⟨x, H1, I1, r1, q1⟩ := hx__
 exact thn (hr pos pins s1 σ H1 _ I1 q1) fun us s2 ⟨xs, H2, I2, r2, q2⟩ => ⟨x :: xs, H2, I2, .cons r1 r2, q2⟩

noncomputable def tTup (t : TA) : TE := fun σ H Q => t σ H fun xs H1 => xs.length ≤ sizeLine ∧ ∀ p, H1 p = none → Q (.ref p) (upd H1 p (.tup xs))
noncomputable def tLst (t : TA) : TE := fun σ H Q => t σ H fun xs H1 => xs.length ≤ sizeLine ∧ ∀ p, H1 p = none → Q (.ref p) (upd H1 p (.lst xs))
theorem pe_tup {x1} (h : PA X es t) : PE X (.Tuple es x1 pos) (tTup t) := by
 intro pins s σ H Q I hq
 refine wpAny_Tuple_spliced (thn (h pos pins s σ H _ I hq) fun us s1 ⟨xs, H1, I1, r, z, q⟩ => ⟨by rw [← r.length]; exact z, ?_⟩)
 have hf : H1 s1.heap.objs.size = none := I1.hok.fresh (Nat.le_refl _)
 refine ⟨.ref s1.heap.objs.size, upd H1 s1.heap.objs.size (.tup xs), I1.laid (t' := s1.toks) (fun b u e => Heap.get?_push_of_some _ e) (Nat.le_refl _) ?_, rfl, q _ hf⟩
 exact ⟨z, us, r, ⟨_, Heap.get?_push_size _ rfl, rfl, _, rfl⟩⟩
theorem pe_lst (h : PA X es t) : PE X (.List es pos) (tLst t) := by
 intro pins s σ H Q I hq
 refine wpAny_List_spliced (thn (h pos pins s σ H _ I hq) fun us s1 ⟨xs, H1, I1, r, z, q⟩ => ⟨by rw [← r.length]; exact z, ?_⟩)
 have hf : H1 s1.heap.objs.size = none := I1.hok.fresh (Nat.le_refl _)
 refine ⟨.ref s1.heap.objs.size, upd H1 s1.heap.objs.size (.lst xs), I1.laid (t' := s1.toks) (fun b u e => Heap.get?_push_of_some _ e) (Nat.le_refl _) ?_, rfl, q _ hf⟩
 exact ⟨z, us, 0, r, Heap.get?_push_size _ rfl⟩
end

noncomputable abbrev Sp := List V → Hp → VK → XK → Prop
noncomputable abbrev CXT := List Env → Hp → Shared → XK → Value → Shared → Prop

structure Env0 (P : Program) (w : World) (K : PySem.W.Frag) (mg : Str → Option Value) (base : Heap) (A : Around) (outer : List Env) (s : Shared) (H : Hp) : Prop where
 frames : A.frames = some outer
 mod : Mod K mg base
 bs : ∀ b o, base.get? b = some o → s.heap.get? b = some o ∧ H b = none
 bsz : base.objs.size ≤ s.heap.objs.size
 funs : s.heap.FunFrames base outer
 frf : ∀ b ∈ frs outer, H b = none
 hok : HOk P w H s.heap
 bare : AllBare s.gens
noncomputable def CE (outer : List Env) (P : Program) (w : World) (H : Hp) (s : Shared) (Q : VK) (u : Value) (s' : Shared) : Prop :=
 ∃ v H', s'.os = s.os ∧ AllBare s'.gens ∧ Un (frs outer) [] H H' s.heap s'.heap ∧ HOk P w H' s'.heap ∧ RelV v u ∧ Q v H'
noncomputable def CR (CX : CXT) (outer : List Env) (P : Program) (w : World) (H : Hp) (s : Shared) (Q : VK) (E : XK) (r : Result) (s' : Shared) : Prop :=
 match r with
 | .ok (.ret u) => CE outer P w H s Q u s'
 | .ok _ => False
 | .error e => CX outer H s E e s'
structure FnOk (P : Program) (w : World) (K : PySem.W.Frag) (mg : Str → Option Value) (base : Heap) (CX : CXT) (k : Nat) (f : Addr) (fd : FuncData) (ps : List Str) (sp : Sp) : Prop where
 len : ∀ vs H Q E, sp vs H Q E → vs.length = ps.length
 run : ∀ (A : Around) (outer : List Env) (s : Shared) (H : Hp) (args : Args) (us : List Value) (vs : List V) (Q : VK) (E : XK), Room k A → Env0 P w K mg base A outer s H → BindsTo s fd args (ps.zip us) → Vals vs us → sp vs H Q E →
  codeAny (model P w) A (.call (.ref f) args) (CR CX outer P w H s Q E) s
section
variable {X : Cx} {pins : List (Addr × Obj)} {σ : St} {H : Hp} {s s' : Shared}
theorem Inv.env0 (I : Inv X pins σ H s) : Env0 X.prog X.w X.K X.mg X.base X.A X.stack s H :=
 ⟨I.ok.frames, I.ok.mod, I.bs, Nat.le_trans I.ok.bsz I.sz, I.stack, I.stkFree, I.hok, I.bare⟩
theorem Inv.after {Q : VK} {u : Value} (I : Inv X pins σ H s) (h : CE X.stack X.prog X.w H s Q u s') : EP X pins σ Q u s' := by
 obtain ⟨v, H', os, bare, un, hok, r, q⟩ := h
 obtain ⟨hh, g, d, t, os'⟩ := s'
 obtain rfl : os' = s.os := os
 exact ⟨v, H', I.call (h' := hh) (g' := g) (d' := d) (t' := t) (ch := []) un hok bare (fun b z => absurd z (by simp)), r, q⟩
end

noncomputable def tCall (sp : Sp) (dvs : List V) (E : XK) (t : TA) : TE := fun σ H Q => t σ H fun vs H1 => sp (vs ++ dvs) H1 Q E
noncomputable def Binds (K : PySem.W.Frag) (fd : FuncData) (ps : List Str) (ds : List Value) : Prop :=
 ∀ (s : Shared) (us : List Value), K.In s.heap → (us ++ ds).length = ps.length → BindsTo s fd ⟨us, []⟩ (ps.zip (us ++ ds))
theorem Binds.all {K : PySem.W.Frag} {fd : FuncData} {ps : List Str} (h : ∀ us : List Value, us.length = ps.length → bindArgs fd ⟨us, []⟩ = pure (ps.zip us)) : Binds K fd ps [] := fun s us _ hl => by
 rw [List.append_nil] at hl ⊢
 exact .of_eq (h us hl)

noncomputable def Passes (CX : CXT) (X : Cx) (E : XK) : Prop := ∀ (pins : List (Addr × Obj)) (σ : St) (H : Hp) (s : Shared) (e : Value) (s' : Shared), Inv X pins σ H s → CX X.stack H s E e s' → X.xe e s'

section
variable {X : Cx} {CX : CXT} {k : Nat} {f C : Addr} {fd : FuncData} {ps : List Str} {sp : Sp} {dvs : List V} {ds : List Value} {E : XK} {x m : Str} {p pos apos : Pos} {e o : Expr} {es : List Expr} {ta : TE} {t : TA}

theorem run_fn {pins : List (Addr × Obj)} {σ : St} {H : Hp} {s : Shared} {Q : VK} {us : List Value} {vs : List V} (F : FnOk X.prog X.w X.K X.mg X.base CX k f fd ps sp) (hr : Room k X.A) (hb : Binds X.K fd ps ds) (hd : Vals dvs ds) (hx : Passes CX X E)
  (I : Inv X pins σ H s) (r : Vals vs us) (h : sp (vs ++ dvs) H Q E) : wpAny (model X.prog X.w) X.A (call (.ref f) us) (EP X pins σ Q) X.xe s := by
 have r2 : Vals (vs ++ dvs) (us ++ ds) := r.append hd
 have hl : (us ++ ds).length = ps.length := by rw [← r2.length]; exact F.len _ _ _ _ h
 refine wpAny_call (codeAny_mono (F.run X.A X.stack s H ⟨us, []⟩ (us ++ ds) (vs ++ dvs) Q E hr I.env0 (hb s us I.kIn hl) r2 h) fun r s' hq => ?_)
 cases r with
 | error e => exact hx pins σ H s e s' I hq
 | ok fl =>
  cases fl with
  | ret u => exact I.after hq
  | next => exact False.elim hq
  | brk => exact False.elim hq
  | cont => exact False.elim hq

theorem pe_call (F : FnOk X.prog X.w X.K X.mg X.base CX k f fd ps sp) (hr : Room k X.A) (hg : Gl X x) (hm : X.mg x = some (.ref f)) (hk : PySem.W.keepIn X.K (.ref f) = true) (hb : Binds X.K fd ps ds) (hd : Vals dvs ds) (hx : Passes CX X E)
  (ha : PA X (e :: es) t) (hdb : (x == ("__debug__" : Str)) = false := by decide) (he : starEach (e :: es) X.env = (false, eval e X.env) :: starEach es X.env := by rfl) (hpl : (backTo pos (starEach es X.env)).any (·.1) = false := by rfl) :
  PE X (.Call (.Name x p) (e :: es) [] pos) (tCall sp dvs E t) := by
 intro pins s σ H Q I h
 refine wpAny_Call_Name_kw (ld_glob I hg hm ?_ hdb)
 refine PySem.W.callWith_K (h₀ := X.base) I.ok.mod.kin hk (thn (ha pos pins s σ H _ I h) fun us s1 ⟨vs, H1, I1, r, q⟩ => ⟨I1.kIn, ?_⟩) he hpl
 exact run_fn F hr hb hd hx I1 r q
end

section
variable {X : Cx} {CX : CXT} {k : Nat} {f C : Addr} {fd : FuncData} {ps ks : List Str} {sp : Sp} {E : XK} {x m : Str} {p pos apos kpos : Pos} {e o : Expr} {es : List Expr} {kws : List Keyword} {te ta : TE} {t tk : TA} {nm : Option Str}
variable {g : List Value → List Value → List Value} {gV : List V → List V → List V}
end

structure FnScope (N P : List Str) (sc : Scope) : Prop where
 kind : sc.kind = .function
 co : sc.isCoroutine = false
 gen : sc.isGenerator = false
 nd : N.Nodup
 pre : N.take P.length = P
 par : ∀ x ∈ P, sc.names.lookup x = some .local ∨ sc.names.lookup x = some .cell
 nofree : ∀ y ∈ sc.names, y.2 ≠ .free

theorem bindL_out {kindOf : Str → Option NameKind} {x : Str} : ∀ {binds : List (Str × Value)} {m : Str → Option Value}, (∀ v, (x, v) ∉ binds) → bindL kindOf binds m x = m x
 | [], _, _ => rfl
 | (n, v) :: r, m, h => by
  unfold bindL
  rw [bindL_out fun w hw => h w (List.mem_cons_of_mem _ hw)]
  split
  ·have : x ≠ n := by rintro rfl; exact h v List.mem_cons_self
   simp [this]
  ·rfl
theorem bindC_out {kindOf : Str → Option NameKind} {x : Str} : ∀ {binds : List (Str × Value)} {m : Str → Option Value}, (∀ v, (x, v) ∉ binds) → bindC kindOf binds m x = m x
 | [], _, _ => rfl
 | (n, v) :: r, m, h => by
  unfold bindC
  rw [bindC_out fun w hw => h w (List.mem_cons_of_mem _ hw)]
  split
  ·rfl
  ·have : x ≠ n := by rintro rfl; exact h v List.mem_cons_self
   simp [this]
theorem bindL_get {kindOf : Str → Option NameKind} {x : Str} {v : Value} : ∀ {P : List Str} {vs : List Value} {i : Nat} {m : Str → Option Value}, P.Nodup → P[i]? = some x → vs[i]? = some v → kindOf x = some .local →
  bindL kindOf (P.zip vs) m x = some v
 | [], _, _, _, _, h, _, _ => by simp at h
 | _ :: _, [], _, _, _, _, h, _ => by simp at h
 | p :: P, w :: vs, 0, m, nd, h1, h2, hk => by
  simp at h1 h2; subst h1; subst h2
  show bindL kindOf ((p, w) :: P.zip vs) m p = _
  unfold bindL
  rw [bindL_out fun v hv => (List.nodup_cons.mp nd).1 (List.of_mem_zip hv).1, if_pos hk]
  simp
 | p :: P, w :: vs, i + 1, m, nd, h1, h2, hk => by
  show bindL kindOf ((p, w) :: P.zip vs) m x = _
  unfold bindL
  exact bindL_get (i := i) (List.nodup_cons.mp nd).2 (by simpa using h1) (by simpa using h2) hk
theorem bindC_get {kindOf : Str → Option NameKind} {x : Str} {v : Value} : ∀ {P : List Str} {vs : List Value} {i : Nat} {m : Str → Option Value}, P.Nodup → P[i]? = some x → vs[i]? = some v → kindOf x ≠ some .local →
  bindC kindOf (P.zip vs) m x = some v
 | [], _, _, _, _, h, _, _ => by simp at h
 | _ :: _, [], _, _, _, _, h, _ => by simp at h
 | p :: P, w :: vs, 0, m, nd, h1, h2, hk => by
  simp at h1 h2; subst h1; subst h2
  show bindC kindOf ((p, w) :: P.zip vs) m p = _
  unfold bindC
  rw [bindC_out fun v hv => (List.nodup_cons.mp nd).1 (List.of_mem_zip hv).1, if_neg hk]
  simp
 | p :: P, w :: vs, i + 1, m, nd, h1, h2, hk => by
  show bindC kindOf ((p, w) :: P.zip vs) m x = _
  unfold bindC
  exact bindC_get (i := i) (List.nodup_cons.mp nd).2 (by simpa using h1) (by simpa using h2) hk

noncomputable def start (N : List Str) (vs : List V) : St := vs.map some ++ List.replicate (N.length - vs.length) none

noncomputable def cxOf (CX : CXT) (P : Program) (w : World) (K : PySem.W.Frag) (mg : Str → Option Value) (base : Heap) (N : List Str) (qual : Str) (scope : Scope) (f : Addr) (cd : Value) (A : Around) (outer : List Env) (s : Shared) (H : Hp) (E : XK) : Cx where
 prog := P
 w := w
 K := K
 mg := mg
 base := base
 A := A.deeper (envOfC qual scope s.heap.objs.size f cd)
 N := N
 s₀ := s
 H₀ := H
 env := envOfC qual scope s.heap.objs.size f cd
 outer := outer
 stack := envOfC qual scope s.heap.objs.size f cd :: outer
 ex := []
 calm := true
 fn := fun _ => true
 pn := []
 xe := fun e s' => wpAny (model P w) (A.deeper (envOfC qual scope s.heap.objs.size f cd)) (leaving (envOfC qual scope s.heap.objs.size f cd) e) (fun _ s'' => CX outer H s E e s'') (fun e' s'' => CX outer H s E e' s'') s'

theorem cell_has {sc : Scope} {n : Nat} {x : Str} (h : sc.names.lookup x = some .cell) : ∃ c, (cellsFrom n sc.names []).lookup x = some c := by
 have q := PySem.W.cellsFrom_some sc.names n [] (.inl h)
 exact Option.isSome_iff_exists.mp q

theorem inv_start {CX : CXT} {P : Program} {w : World} {K : PySem.W.Frag} {mg : Str → Option Value} {base : Heap} {N ps : List Str} {qual : Str} {scope : Scope} {f : Addr} {cd : Value} {A : Around} {outer : List Env} {s s1 : Shared} {H : Hp} {E : XK} {us : List Value} {vs : List V}
  (S : FnScope N ps scope) (hd : A.handled = none) (e0 : Env0 P w K mg base A outer s H) (hl : vs.length = ps.length) (r : Vals vs us)
  (x : InCallC s s.heap.objs.size (bindL (envOfC qual scope s.heap.objs.size f cd).kindOf (ps.zip us) fun _ => none) (cellsFrom (s.heap.objs.size + 1) scope.names []) (bindC (envOfC qual scope s.heap.objs.size f cd).kindOf (ps.zip us) fun _ => none) s1) :
  Inv (cxOf CX P w K mg base N qual scope f cd A outer s H E) [] (start N vs) H s1 := by
 have hpl : ps.length ≤ N.length := by have := congrArg List.length S.pre; rw [List.length_take] at this; omega
 obtain ⟨h1, tk, rfl, hk⟩ := x.done
 have noA : ∀ b : Addr, b ∉ (cxOf CX P w K mg base N qual scope f cd A outer s H E).ex := fun b z => absurd (show b ∈ ([] : List Addr) from z) (by simp)
 refine ⟨⟨e0.mod, S.kind, rfl, rfl, Nat.le_refl _, fun y z c h1 h2 => ?_, fun y hy => ?_, fun y c _ h => ?_, fun _ => hd, Around.frames_deeper e0.frames, .inr ⟨rfl, rfl⟩, fun b z => absurd z (noA b), e0.bs, e0.bsz, fun b _ _ => noA b, fun b z => absurd z (noA b), e0.funs, e0.frf⟩,
  rfl, e0.bare, Un.kept hk, ⟨_, x.toInCall.ns, fun i y v h1 h2 h3 => ?_⟩, fun y c h => ⟨_, x.cell y c h⟩, e0.hok.fresh (Nat.le_refl _), fun y c h => ?_, fun p hp => absurd (show p ∈ ([] : List (Addr × Obj)) from hp) (by simp), e0.hok.kept hk, ?_⟩
 ·exact name_of_addr x.apart (PySem.mem_of_lookup h1) (PySem.mem_of_lookup h2)
 ·have hy : scope.names.lookup y = some .cell ∨ scope.names.lookup y = some .free := hy
  rcases hy with hy | hy
  ·exact cell_has hy
  ·exact absurd rfl (S.nofree _ (PySem.mem_of_lookup hy))
 ·exact Nat.le_of_lt (x.above y c (PySem.mem_of_lookup h))
 ·have hi : i < vs.length := by
   unfold start at h2
   by_cases hi : i < vs.length
   ·exact hi
   ·rw [List.getElem?_append_right (by simpa using hi)] at h2
    rw [List.getElem?_replicate] at h2
    split at h2 <;> cases h2
  have ha : vs[i]? = some v := by
   unfold start at h2
   rw [List.getElem?_append_left (by simpa using hi), List.getElem?_map] at h2
   cases e : vs[i]? with
   | none => rw [e] at h2; cases h2
   | some a => rw [e] at h2; cases h2; rfl
  obtain ⟨u, hu, rv⟩ := r.get ha
  have hp : ps[i]? = some y := by
   rw [← S.pre, List.getElem?_take_of_lt (by omega)]; exact h1
  have ndP : ps.Nodup := by rw [← S.pre]; exact S.nd.sublist (List.take_sublist _ _)
  refine ⟨u, rv, ?_⟩
  rcases S.par y (List.mem_of_getElem? hp) with k | k
  ·exact .inl ⟨k, bindL_get ndP hp hu k⟩
  ·obtain ⟨c, e⟩ := cell_has (n := s.heap.objs.size + 1) k
   refine .inr ⟨.inl k, c, e, ?_⟩
   have q := x.cell y c e
   rw [bindC_get ndP hp hu (by show scope.names.lookup y ≠ _; rw [k]; decide)] at q
   exact q
 ·exact e0.hok.fresh (Nat.le_of_lt (x.above y c (PySem.mem_of_lookup h)))
 ·unfold start
  show _ = N.length
  rw [List.length_append, List.length_map, List.length_replicate]
  omega

theorem fn_of {CX : CXT} {P : Program} {w : World} {K : PySem.W.Frag} {mg : Str → Option Value} {base : Heap} {k : Nat} {f : Addr} {name qual : Str} {params : Arguments} {body : List Stmt} {scope : Scope} {dV kV doc pm cdv ct oc : Value} {an od : Option Addr}
  {osl : Array (Option Value)} {N ps : List Str} {sp : Sp} (lk : K.lookup f = some ⟨oc, od, .func (PySem.W.fnOf name qual params body scope dV kV doc pm an cdv ct), osl⟩) (hcd : PySem.W.codeIn K cdv qual = true) (S : FnScope N ps scope)
  (len : ∀ vs H Q E, sp vs H Q E → vs.length = ps.length)
  (hbody : ∀ (A : Around) (outer : List Env) (s : Shared) (H : Hp) (vs : List V) (Q : VK) (E : XK), Room k (A.deeper (envOfC qual scope s.heap.objs.size f cdv)) → sp vs H Q E →
   ∃ t, PSs (cxOf CX P w K mg base N qual scope f cdv A outer s H E) body t ∧ t { nx := fun _ H' => Q .non H', rt := Q } (start N vs) H) :
  FnOk P w K mg base CX (k + 1) f (PySem.W.fnOf name qual params body scope dV kV doc pm an cdv ct) ps sp := by
 refine ⟨len, fun A outer s H args us vs Q E hr e0 hb r hsp => ?_⟩
 have hl := len _ _ _ _ hsp
 have KX : K.In s.heap := e0.mod.kin.keeps fun b o e => (e0.bs b o e).1
 have lim : s.heap.NoLimit := e0.mod.nolimit.keeps fun b o e => (e0.bs b o e).1
 have hkind : ∀ y ∈ ps.zip us, scope.names.lookup y.1 = some .local ∨ (scope.names.lookup y.1 = some .cell ∧ ((cellsFrom (s.heap.objs.size + 1) scope.names []).lookup y.1).isSome = true) := fun ⟨n, v⟩ hy => by
  rcases S.par n (List.of_mem_zip hy).1 with q | q
  ·exact .inl q
  ·exact .inr ⟨q, PySem.W.cellsFrom_some _ _ _ (.inl q)⟩
 refine codeAny_call_function hr.depth (KX _ _ lk) rfl S.co S.gen rfl (PySem.W.codeRec_of KX hcd) (hb _ _ _ _ ?_)
 refine wpAny_newFunctionEnv_cells S.kind hkind fun env he s1 x => ?_
 subst he
 refine ⟨lim.keeps x.toInCall.keep, codeAny_func ?_⟩
 obtain ⟨t, ht, hq⟩ := hbody A outer s H vs Q E (hr.deeper _) hsp
 have I : Inv (cxOf CX P w K mg base N qual scope f cdv A outer s H E) [] (start N vs) H s1 := inv_start S hr.hd e0 hl r x
 refine wpAny_mono (ht [] s1 (start N vs) H _ I hq) (fun fl s' hs => ?_) fun e s' hs => hs
 have fin : ∀ {σ' : St} {H' : Hp} {v : V} {u : Value}, Inv (cxOf CX P w K mg base N qual scope f cdv A outer s H E) [] σ' H' s' → RelV v u → Q v H' → CE outer P w H s Q u s' :=
  fun {σ' H' v u} J rv q => ⟨v, H', J.os, J.bare, J.base, J.hok, rv, q⟩
 cases fl with
 | ret u =>
  obtain ⟨v, σ', H', J, rv, q⟩ := hs
  exact fin J rv q
 | next =>
  obtain ⟨σ', H', J, q⟩ := hs
  exact fin (v := V.non) (u := Value.none) J rfl q
 | brk =>
  obtain ⟨_, _, _, q⟩ := hs
  exact False.elim q
 | cont =>
  obtain ⟨_, _, _, q⟩ := hs
  exact False.elim q
end L2

namespace L2
open PySem PySem.Spec PyProof.Rows
section
variable {X : Cx} {x : Str} {p pos : Pos} {e : Expr} {es : List Expr} {t : TA} {id T : String} {r : List V → Hp → VK → Prop}

noncomputable def tCB (r : List V → Hp → VK → Prop) (t : TA) : TE := fun σ H Q => t σ H fun vs H1 => r vs H1 Q
theorem pe_callB (hc : CallR X (.builtin id) r) (hg : Gl X x) (hm : X.mg x = none) (hv : bootBuiltins x = some (.builtin id)) (ha : PA X (e :: es) t) (hn : x ≠ "__name__" := by decide) (hdb : (x == ("__debug__" : Str)) = false := by decide)
  (he : starEach (e :: es) X.env = (false, eval e X.env) :: starEach es X.env := by rfl) (hpl : (backTo pos (starEach es X.env)).any (·.1) = false := by rfl) : PE X (.Call (.Name x p) (e :: es) [] pos) (tCB r t) := by
 intro pins s σ H Q I h
 refine wpAny_Call_Name_kw (ld_blt I hg hm hv ?_ hn hdb)
 exact PyProof.Rows.callWith_builtin1 (thn (ha pos pins s σ H _ I h) fun us s1 ⟨vs, H1, I1, r1, q1⟩ => hc pins s1 σ H1 vs us Q I1 r1 q1) he hpl
theorem pe_callTy (hc : CallR X (.type T) r) (hg : Gl X x) (hm : X.mg x = none) (hv : bootBuiltins x = some (.type T)) (ha : PA X (e :: es) t) (hn : x ≠ "__name__" := by decide) (hdb : (x == ("__debug__" : Str)) = false := by decide)
  (he : starEach (e :: es) X.env = (false, eval e X.env) :: starEach es X.env := by rfl) (hpl : (backTo pos (starEach es X.env)).any (·.1) = false := by rfl) : PE X (.Call (.Name x p) (e :: es) [] pos) (tCB r t) := by
 intro pins s σ H Q I h
 refine wpAny_Call_Name_kw (ld_blt I hg hm hv ?_ hn hdb)
 exact PyProof.Rows.callWith_type1 (thn (ha pos pins s σ H _ I h) fun us s1 ⟨vs, H1, I1, r1, q1⟩ => hc pins s1 σ H1 vs us Q I1 r1 q1) he hpl
end
end L2

namespace HT
open PySem PyProof.Rows

section
open PySem.SeqAt
open PySem.AutoSeq1 (wpAny_loadPart')
open PySem.MeetsSeq PySem.MeetsSeq2 PySem.MeetsSeq3

end

section
variable {prog : Program} {w : World} {A : Around} {E : Value → Shared → Prop} {s : Shared}

noncomputable def sIx (n d : Nat) : Option Int → Nat
 | none => d
 | some v => if v < 0 then (v + (n : Int)).toNat else min v.toNat n
end
end HT

namespace L2
open PySem PySem.Spec PyProof.Rows

noncomputable abbrev TO := St → Hp → (Option Int → Hp → Prop) → Prop
noncomputable def PO (X : Cx) (e : Option Expr) (t : TO) : Prop :=
 ∀ (pins : List (Addr × Obj)) (s : Shared) (σ : St) (H : Hp) (Q : Option Int → Hp → Prop), Inv X pins σ H s → t σ H Q →
  wpAny (model X.prog X.w) X.A (evalPart e X.env) (fun u s' => ∃ o H', Inv X pins σ H' s' ∧ IsPart u o ∧ Q o H') X.xe s
noncomputable def tNoPart : TO := fun _ H Q => Q none H
noncomputable def tPart (t : TE) : TO := fun σ H Q => t σ H fun x H1 => ∃ i, x = .int i ∧ Q (some i) H1

theorem intsAre_of {ns : List Int} : ∀ {us : List Value}, Vals (ns.map V.int) us → IntsAre us ns := by
 induction ns with
 | nil => intro us r; rw [List.map_nil] at r; cases r; exact .nil
 | cons n ns ih =>
  intro us r
  rw [List.map_cons] at r
  cases r with
  | cons r1 r2 =>
   obtain ⟨t, e⟩ := r1
   subst e
   exact .cons n t (ih r2)

section
variable {X : Cx} {e : Expr} {te : TE} {lo hi : Option Expr} {tl th : TO} {pos p2 : Pos}

theorem po_none : PO X none tNoPart := by
 intro pins s σ H Q I h
 rw [evalPart_none]
 exact wpAny_pure ⟨none, H, I, .none, h⟩
theorem po_some (h : PE X e te) : PO X (some e) (tPart te) := by
 intro pins s σ H Q I hw
 rw [evalPart_some]
 refine thn (h pins s σ H _ I hw) fun u s1 hx__ => ?_
 obtain ⟨x, H1, I1, r1, q1⟩ := hx__
 obtain ⟨i, rfl, q⟩ := q1
 obtain ⟨t, rfl⟩ := r1
 exact ⟨some i, H1, I1, .int i t, q⟩

noncomputable def SlR (X : Cx) (r : V → Option Int → Option Int → Hp → VK → Prop) : Prop :=
 ∀ (pins : List (Addr × Obj)) (s : Shared) (σ : St) (H : Hp) (x : V) (v vl vu : Value) (lo hi : Option Int) (sl : Addr) (Q : VK), Inv X pins σ H s → RelV x v → s.heap.IsSliceOf sl vl vu .none → IsPart vl lo → IsPart vu hi → r x lo hi H Q →
  ∃ T id, typeLookup (.type T) "__getitem__" = pure (some (.builtin id)) ∧ s.TypeIs v T ∧ wpAny (model X.prog X.w) X.A (getItem v (.ref sl)) (EP X pins σ Q) X.xe s
noncomputable def tSl (r : V → Option Int → Option Int → Hp → VK → Prop) (te : TE) (tl th : TO) : TE := fun σ H Q => te σ H fun x H1 => tl σ H1 fun l H2 => th σ H2 fun u H3 => r x l u H3 Q
theorem pe_slice {r : V → Option Int → Option Int → Hp → VK → Prop} (hr : SlR X r) (he : PE X e te) (hl : PO X lo tl) (hu : PO X hi th) : PE X (.Subscript e (.Slice lo hi none p2) pos) (tSl r te tl th) := by
 intro pins s σ H Q I h
 refine Subscript_ (thn (he pins s σ H _ I h) fun v s1 hx__ => ?_)
 obtain ⟨x, H1, I1, r1, q1⟩ := hx__
 refine wpAny_Slice (thn (hl pins s1 σ H1 _ I1 q1) fun vl s2 ⟨l, H2, I2, pl, q2⟩ => thn (hu pins s2 σ H2 _ I2 q2) fun vu s3 hx__ => ?_)
 obtain ⟨u, H3, I3, pu, q3⟩ := hx__
 rw [evalPart_none]
 refine wpAny_pure ?_
 have I4 : Inv X pins σ H3 { s3 with heap := s3.heap.push { cls := .type "slice", data := .fields #[vl, vu, .none] } } := I3.kept (t' := s3.toks) fun b ob q => Heap.get?_push_of_some _ q
 obtain ⟨T, id, hT, ht, hg⟩ := hr pins { s3 with heap := s3.heap.push { cls := .type "slice", data := .fields #[vl, vu, .none] } } σ H3 x v vl vu l u s3.heap.objs.size Q I4 r1 (Heap.IsSliceOf.new ..) pl pu q3
 show wpAny (model X.prog X.w) X.A (subscriptTail e (.Slice lo hi none p2) v (.ref s3.heap.objs.size)) (EP X pins σ Q) X.xe { s3 with heap := s3.heap.push { cls := .type "slice", data := .fields #[vl, vu, .none] } }
 exact tail_any (ops := [.ref s3.heap.objs.size, v]) ht hT hg (by with_unfolding_all rfl)

noncomputable def cutV (xs : List V) (lo hi : Option Int) : List V := (xs.drop (HT.sIx xs.length 0 lo)).take (HT.sIx xs.length xs.length hi - HT.sIx xs.length 0 lo)
theorem cutV_length (xs : List V) (lo hi : Option Int) : (cutV xs lo hi).length ≤ xs.length := by
 unfold cutV
 rw [List.length_take, List.length_drop]
 omega
end
end L2

namespace L2
open PySem PySem.Spec PyProof.Rows

noncomputable def ixN (n : Nat) (i : Int) : Option Nat := if 0 ≤ i then (if i < n then some i.toNat else none) else if -(n : Int) ≤ i then some (i + n).toNat else none
noncomputable def atI {α : Type} (xs : List α) (i : Int) : Option α := (ixN xs.length i).bind fun j => xs[j]?
theorem ixN_seq {n : Nat} {i : Int} {j : Nat} (h : ixN n i = some j) : seqIndex? i n = some j ∧ j < n ∧ -(n : Int) ≤ i ∧ i < n := by
 unfold ixN at h
 by_cases h0 : 0 ≤ i
 ·rw [if_pos h0] at h
  by_cases h1 : i < n
  ·rw [if_pos h1] at h
   have e : i.toNat = j := Option.some.inj h
   exact ⟨by rw [seqIndex_of h0 h1, e], by omega, by omega, h1⟩
  ·rw [if_neg h1] at h; cases h
 ·rw [if_neg h0] at h
  by_cases h1 : -(n : Int) ≤ i
  ·rw [if_pos h1] at h
   have e : (i + n).toNat = j := Option.some.inj h
   exact ⟨by rw [seqIndex_neg (by omega) h1, e], by omega, h1, by omega⟩
  ·rw [if_neg h1] at h; cases h
theorem atI_get {α : Type} {xs : List α} {i : Int} {v : α} (h : atI xs i = some v) : ∃ j, seqIndex? i xs.length = some j ∧ xs[j]? = some v ∧ j < xs.length ∧ -(xs.length : Int) ≤ i ∧ i < xs.length := by
 unfold atI at h
 cases e : ixN xs.length i with
 | none => rw [e] at h; cases h
 | some j =>
  rw [e] at h
  obtain ⟨h1, h2, h3, h4⟩ := ixN_seq e
  exact ⟨j, h1, h, h2, h3, h4⟩
theorem atI_nat {α : Type} {xs : List α} {j : Nat} {v : α} (h : xs[j]? = some v) : atI xs (j : Int) = some v := by
 have hj : j < xs.length := (List.getElem?_eq_some_iff.mp h).1
 have e : ixN xs.length (j : Int) = some j := by
  unfold ixN
  rw [if_pos (by omega), if_pos (by omega)]; simp
 unfold atI; rw [e]; exact h
theorem atI_last {α : Type} (xs : List α) (v : α) : atI (xs ++ [v]) (-1) = some v := by
 have hl : (xs ++ [v]).length = xs.length + 1 := by simp
 have e : ixN (xs ++ [v]).length (-1) = some xs.length := by
  unfold ixN
  rw [hl, if_neg (by decide), if_pos (by omega)]
  congr 1
  omega
 unfold atI
 rw [e]
 show (xs ++ [v])[xs.length]? = some v
 simp

noncomputable def PlainIx (b : Expr) : Prop := ∀ o i, subscripted b false o i = operate [o, i] (getItem o i)
noncomputable def IxR (X : Cx) (r : R2) : Prop :=
 ∀ (value slice : Expr) (pins : List (Addr × Obj)) (s : Shared) (σ : St) (H : Hp) (x y : V) (v u : Value) (Q : VK), Inv X pins σ H s → RelV x v → RelV y u → r x y H Q →
  subscripted slice false v u = operate [v, u] (getItem v u) → wpAny (model X.prog X.w) X.A (subscriptTail value slice v u) (EP X pins σ Q) X.xe s
noncomputable def MtR (X : Cx) (id : String) (r : V → List V → Hp → VK → Prop) : Prop :=
 ∀ (pins : List (Addr × Obj)) (s : Shared) (σ : St) (H : Hp) (x : V) (xs : List V) (v : Value) (us : List Value) (Q : VK), Inv X pins σ H s → RelV x v → Vals xs us → r x xs H Q →
  wpAny (model X.prog X.w) X.A (call (.builtin id) (v :: us)) (EP X pins σ Q) X.xe s
section
variable {X : Cx} {a b : Expr} {ta tb : TE} {pos : Pos}
theorem pe_ix {r : R2} (hr : IxR X r) (ha : PE X a ta) (hb : PE X b tb) (hs : PlainIx b) : PE X (.Subscript a b pos) (tOp r ta tb) := by
 intro pins s σ H Q I h
 exact Subscript_ (binT ha hb I h fun v u s2 x y H2 I2 rx ry q => hr a b pins s2 σ H2 x y v u Q I2 rx ry q (hs _ _))

noncomputable def rIxL (K : PySem.W.Frag) : R2 := fun x y H Q => ∃ p xs i v, x = .ref p ∧ y = .int i ∧ SqL K H p xs ∧ atI xs i = some v ∧ Q v H
noncomputable def rIxT (K : PySem.W.Frag) : R2 := fun x y H Q => ∃ p xs i v, x = .ref p ∧ y = .int i ∧ SqT K H p xs ∧ atI xs i = some v ∧ Q v H
theorem ix_list : IxR X (rIxL X.K) := by
 intro value slice pins s σ H x y v u Q I rx ry h hs
 obtain ⟨p, xs, i, z, rfl, rfl, hq, he, q⟩ := h
 cases rx
 obtain ⟨t, rfl⟩ := ry
 obtain ⟨its, r, pl, hz⟩ := I.list hq
 obtain ⟨j, h1, h2, h3, h4, h5⟩ := atI_get he
 obtain ⟨w, ew, rw'⟩ := r.get h2
 have hl := r.length
 have hn := line63
 have fin : EP X pins σ Q w s := ⟨z, H, I, rw', q⟩
 by_cases h0 : 0 ≤ i
 ·have hj : i.toNat = j := by
   rw [seqIndex_of h0 h5] at h1
   exact Option.some.inj h1
  exact item_listR pl.isList h0 (by omega) (by rw [hj]; simpa using ew) fin hs
 ·have hj : (i + (its.toArray.size : Int)).toNat = j := by
   rw [seqIndex_neg (by omega) h4] at h1
   rw [List.size_toArray, ← hl]
   exact Option.some.inj h1
  exact subscriptTail_builtinR (x := w) pl.isList.typeIs slot_list_getitem.lookup
   (wpAny_getItem_list_neg (Q := fun r s' => r = w ∧ EP X pins σ Q r s') pl.isList (by omega) (by rw [List.size_toArray] <;> omega) (by omega) (by rw [hj]; simpa using ew) ⟨rfl, fin⟩) hs
theorem ix_tup : IxR X (rIxT X.K) := by
 intro value slice pins s σ H x y v u Q I rx ry h hs
 obtain ⟨p, xs, i, z, rfl, rfl, hq, he, q⟩ := h
 cases rx
 obtain ⟨t, rfl⟩ := ry
 obtain ⟨its, r, pl, hz⟩ := I.tuple hq
 obtain ⟨j, h1, h2, h3, h4, h5⟩ := atI_get he
 obtain ⟨w, ew, rw'⟩ := r.get h2
 have hl := r.length
 have hn := line63
 have fin : EP X pins σ Q w s := ⟨z, H, I, rw', q⟩
 exact subscriptTail_builtinR (x := w) pl.typeIs slot_tuple_getitem.lookup
  (getItem_tuple (j := j) (Q := fun r s' => r = w ∧ EP X pins σ Q r s') pl (by omega) (by omega) (by rw [List.size_toArray, ← hl]; exact h1) (by simpa using ew) ⟨rfl, fin⟩) hs
theorem mapSeq_set (its : List Value) (n j : Nat) (u : Value) : Obj.mapSeq (·.setIfInBounds j u) { cls := .type "list", data := .seq its.toArray n } = { cls := .type "list", data := .seq (its.set j u).toArray n } := by
 simp [Obj.mapSeq]
theorem Inv.lst {pins : List (Addr × Obj)} {σ : St} {H : Hp} {s : Shared} {p : Addr} {xs : List V} (I : Inv X pins σ H s) (h : H p = some (.lst xs)) :
  ∃ (its : List Value) (n : Nat), Vals xs its ∧ s.heap.get? p = some { cls := .type "list", data := .seq its.toArray n } ∧ xs.length ≤ sizeLine := by
 obtain ⟨z, its, n, r, e⟩ := I.hok p _ h
 exact ⟨its, n, r, e, z⟩
theorem Inv.lstUpd {pins : List (Addr × Obj)} {σ : St} {H : Hp} {s : Shared} {p : Addr} {xs ys : List V} {its its' : List Value} {n n' : Nat} {f : Obj → Obj} (I : Inv X pins σ H s) (h : H p = some (.lst xs))
  (ho : s.heap.get? p = some { cls := .type "list", data := .seq its.toArray n }) (hf : f { cls := .type "list", data := .seq its.toArray n } = { cls := .type "list", data := .seq its'.toArray n' }) (r : Vals ys its') (hz : ys.length ≤ sizeLine) (t : Nat) :
  Inv X pins σ (upd H p (.lst ys)) { s with heap := s.heap.update p f, toks := t } := by
 have e : (s.heap.update p f).get? p = some { cls := .type "list", data := .seq its'.toArray n' } := by
  rw [Heap.get?_update_self f ho (by rw [hf] <;> rfl), hf]
 refine I.write (x := p) (e := p) (by rw [h]; trivial) (.inl rfl) (fun b u hb q => (Heap.get?_update_other _ _ (Ne.symm hb)).trans q) ⟨_, e⟩ ?_
 exact ⟨hz, its', n', r, e⟩
noncomputable def rSetL : V → V → V → Hp → (Hp → Prop) → Prop := fun o i v H Q => ∃ p xs k j, o = .ref p ∧ i = .int k ∧ H p = some (.lst xs) ∧ ixN xs.length k = some j ∧ Q (upd H p (.lst (xs.set j v)))
theorem set_list : PSet X rSetL := by
 intro pins s σ H o i v ov iv u Q I ro ri rv h
 obtain ⟨p, xs, k, j, rfl, rfl, hp, hj, q⟩ := h
 cases ro
 obtain ⟨t, rfl⟩ := ri
 obtain ⟨its, n, r, ho, hz⟩ := I.lst hp
 obtain ⟨h1, h2, h3, h4⟩ := ixN_seq hj
 have hl := r.length
 have hn := line63
 have I' : Inv X pins σ (upd H p (.lst (xs.set j v))) { s with heap := s.heap.update p (Obj.mapSeq (·.setIfInBounds j u)) } :=
  I.lstUpd hp ho (mapSeq_set its n j u) (r.set rv j) (by rw [List.length_set]; exact hz) s.toks
 by_cases h0 : 0 ≤ k
 ·have hk : k.toNat = j := by
   rw [seqIndex_of h0 h4] at h1
   exact Option.some.inj h1
  exact PySem.W.ki_setAt ho h0 (by omega) (by rw [List.size_toArray, ← hl]; exact h4) (by rw [hk]; exact ⟨_, I', q⟩)
 ·have hk : (k + (its.toArray.size : Int)).toNat = j := by
   rw [seqIndex_neg (by omega) h3] at h1
   rw [List.size_toArray, ← hl]
   exact Option.some.inj h1
  exact PySem.W.ki_setBack ho (by omega) (by rw [List.size_toArray, ← hl]; exact h3) (by omega) (by rw [hk]; exact ⟨_, I', q⟩)

theorem slice_bounds (lo hi : Option Int) (n : Nat) : (sliceBounds lo hi none n).1 = ((HT.sIx n 0 lo : Nat) : Int) ∧ (sliceBounds lo hi none n).2.1 = ((HT.sIx n n hi : Nat) : Int) ∧ (sliceBounds lo hi none n).2.2 = 1 := by
 refine ⟨?_, ?_, rfl⟩
 ·cases lo with
  | none => simp [sliceBounds, HT.sIx]
  | some i =>
   simp only [sliceBounds, HT.sIx, Option.getD_none, show (1 : Int) > 0 by decide, if_true]
   by_cases h : i < 0
   ·simp only [h, if_true] <;> omega
   ·simp only [h, if_false] <;> omega
 ·cases hi with
  | none => simp [sliceBounds, HT.sIx]
  | some i =>
   simp only [sliceBounds, HT.sIx, Option.getD_none, show (1 : Int) > 0 by decide, if_true]
   by_cases h : i < 0
   ·simp only [h, if_true] <;> omega
   ·simp only [h, if_false] <;> omega
theorem slicePick_cut (its : List Value) (lo hi : Option Int) : slicePick its.toArray lo hi none = ((its.drop (HT.sIx its.length 0 lo)).take (HT.sIx its.length its.length hi - HT.sIx its.length 0 lo)).toArray := by
 obtain ⟨h1, h2, h3⟩ := slice_bounds lo hi its.toArray.size
 unfold slicePick
 rw [h1, h2, h3]
 simp only [sliceRange_one, pick_run, List.size_toArray] <;> rfl
noncomputable def rSlL (K : PySem.W.Frag) : V → Option Int → Option Int → Hp → VK → Prop := fun x lo hi H Q => ∃ a xs, x = .ref a ∧ SqL K H a xs ∧ ∀ p, H p = none → Q (.ref p) (upd H p (.lst (cutV xs lo hi)))
theorem sl_list : SlR X (rSlL X.K) := by
 intro pins s σ H x v vl vu lo hi sl Q I rx hs pl pu h
 obtain ⟨a, xs, rfl, hx, q⟩ := h
 cases rx
 obtain ⟨its, r, ht, hz⟩ := I.list hx
 have hlen := r.length
 refine ⟨"list", _, slot_list_getitem.lookup, ht.isList.typeIs, ?_⟩
 refine wpAny_getItem_list_slice ht.isList hs pl pu .none (by simp) ?_ (by rw [List.size_toArray] <;> omega)
 rw [slicePick_cut, ← hlen]
 refine ⟨.ref s.heap.objs.size, _, I.laid (t' := s.toks) (o := .lst (cutV xs lo hi)) (fun b ob q => Heap.get?_push_of_some _ q) (Nat.le_refl _) ?_, rfl, q _ (I.hok.fresh (Nat.le_refl _))⟩
 exact ⟨Nat.le_trans (cutV_length xs lo hi) hz, _, 0, (r.drop (HT.sIx xs.length 0 lo)).take (HT.sIx xs.length xs.length hi - HT.sIx xs.length 0 lo), Heap.get?_push_size _ rfl⟩

theorem call_len_seq : CallR X (.builtin "len") (fun xs H Q => ∃ p ys, xs = [.ref p] ∧ (SqL X.K H p ys ∨ SqT X.K H p ys) ∧ Q (.int ys.length) H) := by
 intro pins s σ H xs us Q I r h
 obtain ⟨p, ys, rfl, hq, q⟩ := h
 obtain ⟨u, rfl, rx⟩ := vals1 r
 cases rx
 have hn := line63
 rcases hq with hq | hq
 ·obtain ⟨its, r', pl, hz⟩ := I.list hq
  have hlen := r'.length
  exact Calls.call_len_list pl.isList (by simp only [List.size_toArray] <;> omega) ⟨.int ys.length, H, I.tok _, ⟨s.toks + 1, by rw [List.size_toArray, hlen]⟩, q⟩
 ·obtain ⟨its, r', pl, hz⟩ := I.tuple hq
  have hlen := r'.length
  exact len_tuple pl (by simp only [List.size_toArray] <;> omega) ⟨.int ys.length, H, I.tok _, ⟨s.toks + 1, by rw [List.size_toArray, hlen]⟩, q⟩
theorem call_list_of : CallR X (.type "list") (fun xs H Q => ∃ p ys, xs = [.ref p] ∧ (SqL X.K H p ys ∨ SqT X.K H p ys) ∧ ∀ l, H l = none → Q (.ref l) (upd H l (.lst ys))) := by
 intro pins s σ H xs us Q I r h
 obtain ⟨p, ys, rfl, hq, q⟩ := h
 obtain ⟨u, rfl, rx⟩ := vals1 r
 cases rx
 have fin : ∀ (its : List Value), Vals ys its → ys.length ≤ sizeLine → ∀ (h' : Heap) (c' : Nat), (∀ b o', s.heap.get? b = some o' → h'.get? b = some o') →
   h'.get? s.heap.objs.size = some { cls := .type "list", dict := none, data := .seq its.toArray c', slots := #[] } → EP X pins σ Q (.ref s.heap.objs.size) { s with heap := h' } := fun its r' hz h' c' kp e =>
  ⟨.ref s.heap.objs.size, _, I.laid (t' := s.toks) kp (Nat.le_refl _) (show ObjOk X.prog X.w _ h' _ (.lst ys) from ⟨hz, its, c', r', e⟩), rfl, q _ (I.hok.fresh (Nat.le_refl _))⟩
 rcases hq with hq | hq
 ·obtain ⟨its, r', pl, hz⟩ := I.list hq
  have hlen := r'.length
  obtain ⟨o, ho, hc, n, hd⟩ := pl.isList
  exact call_list_seq p (.inl rfl) ho hc hd (fun h' c' kp e => fin its r' hz h' c' kp e) (by simp only [List.size_toArray] <;> omega)
 ·obtain ⟨its, r', pl, hz⟩ := I.tuple hq
  have hlen := r'.length
  obtain ⟨o, ho, hc, n, hd⟩ := pl
  exact call_list_seq p (.inr rfl) ho hc hd (fun h' c' kp e => fin its r' hz h' c' kp e) (by simp only [List.size_toArray] <;> omega)
noncomputable def tyV (K : PySem.W.Frag) (T : String) (x : V) (H : Hp) : Prop := match x with
 | .str _ => T = "str"
 | .int _ => T = "int"
 | .ref p => (T = "list" ∧ ∃ xs, SqL K H p xs) ∨ (T = "tuple" ∧ ∃ o, K.lookup p = some o ∧ o.cls = .type "tuple" ∧ o.dict = none) ∨
   (T = "dict" ∧ ((∃ kvs, H p = some (.dK kvs)) ∨ ∃ kvs, H p = some (.dT kvs))) ∨ (T = "set" ∧ ∃ S n, H p = some (.set S n))
 | _ => False
theorem tyV_is {pins : List (Addr × Obj)} {σ : St} {H : Hp} {s : Shared} {T : String} {x : V} {v : Value} (I : Inv X pins σ H s) (r : RelV x v) (ty : tyV X.K T x H) :
  s.TypeIs v T ∧ ∀ a, v = .ref a → ∃ ob, s.heap.get? a = some ob ∧ ob.dict = none := by
 cases x with
 | str z =>
  obtain ⟨t, rfl⟩ := r
  cases (show T = "str" from ty)
  exact ⟨typeIs_str s z t, fun _ e => nomatch e⟩
 | int i =>
  obtain ⟨t, rfl⟩ := r
  cases (show T = "int" from ty)
  exact ⟨typeIs_int s i t, fun _ e => nomatch e⟩
 | ref p =>
  cases r
  rcases ty with ⟨rfl, xs, hq⟩ | ⟨rfl, o, hk, hc, hd⟩ | ⟨rfl, hk⟩ | ⟨rfl, S, n, hk⟩
  ·obtain ⟨its, _, pl, _⟩ := I.list hq
   refine ⟨pl.isList.typeIs, fun a e => ?_⟩
   cases e
   obtain ⟨o, n, e, c, hd, _⟩ := pl
   exact ⟨o, e, hd⟩
  ·refine ⟨⟨o, I.kIn p o hk, hc⟩, fun a e => ?_⟩
   cases e
   exact ⟨o, I.kIn _ o hk, hd⟩
  ·have z : ∃ o, s.heap.get? p = some o ∧ o.ExactDict := by
    rcases hk with ⟨kvs, hk⟩ | ⟨kvs, hk⟩
    ·obtain ⟨_, _, _, _, o, _, _, e, ex, _⟩ := I.hok p _ hk
     exact ⟨o, e, ex⟩
    ·obtain ⟨_, _, _, _, o, _, _, e, ex, _⟩ := I.hok p _ hk
     exact ⟨o, e, ex⟩
   obtain ⟨o, e, ex⟩ := z
   refine ⟨⟨o, e, ex.1⟩, fun a e2 => ?_⟩
   cases e2
   exact ⟨o, e, ex.2.1⟩
  ·obtain ⟨o, _, _, _, e, ex, _⟩ := I.hok p _ hk
   refine ⟨⟨o, e, ex.1⟩, fun a e2 => ?_⟩
   cases e2
   exact ⟨o, e, ex.2.1⟩
 | _ => exact False.elim ty
noncomputable def tBM0 (K : PySem.W.Frag) (T : String) (r : V → List V → Hp → VK → Prop) (to : TE) : TE := fun σ H Q => to σ H fun x H1 => tyV K T x H1 ∧ r x [] H1 Q
noncomputable def tBM (K : PySem.W.Frag) (T : String) (r : V → List V → Hp → VK → Prop) (to : TE) (t : TA) : TE := fun σ H Q => to σ H fun x H1 => tyV K T x H1 ∧ t σ H1 fun xs H2 => r x xs H2 Q
variable {o e : Expr} {es : List Expr} {to : TE} {t : TA} {name : Str} {apos cpos : Pos} {T id : String} {r : V → List V → Hp → VK → Prop}
theorem pe_bm0 (pa : PlainAttrs T) (slot : Slot T name id) (hty : typeOf (.builtin id) = pure (.type "method_descriptor")) (hm : MtR X id r) (ho : PE X o to)
  (hbase : attributeBase o name X.env (eval o X.env) = eval o X.env := by rfl) (hline : (apos.endLine == cpos.line) = true := by rfl) : PE X (.Call (.Attribute o name apos) [] [] cpos) (tBM0 X.K T r to) := by
 intro pins s σ H Q I h
 refine wpAny_Call_method0_late hbase hline (thn (ho pins s σ H _ I h) fun v s1 hx__ => ?_)
 obtain ⟨x, H1, I1, r1, ty, q1⟩ := hx__
 obtain ⟨h1, h2⟩ := tyV_is I1 r1 ty
 exact ⟨T, id, pa, slot, hty, h1, h2, Calls.callWith_builtin rfl (PySem.evalArgs_none (hm pins s1 σ H1 x [] v [] Q I1 r1 .nil q1))⟩
theorem pe_bm (pa : PlainAttrs T) (slot : Slot T name id) (hty : typeOf (.builtin id) = pure (.type "method_descriptor")) (hm : MtR X id r) (ho : PE X o to) (ha : PA X (e :: es) t)
  (hbase : attributeBase o name X.env (eval o X.env) = eval o X.env := by rfl)
  (hfew : ((backTo cpos (starEach (e :: es) X.env)).all (fun x => !x.1) && (backToKw cpos (keywordEach [] X.env)).all (fun x => x.1.isSome)
   && decide ((e :: es).length + ([] : List Keyword).length + (if ([] : List Keyword).isEmpty then 0 else 1) < 30)) = true := by rfl)
  (hline : (apos.endLine == cpos.line) = true := by rfl) (hs : starEach (e :: es) X.env = (false, eval e X.env) :: starEach es X.env := by rfl) (hplain : (backTo cpos (starEach es X.env)).any (·.1) = false := by rfl) :
  PE X (.Call (.Attribute o name apos) (e :: es) [] cpos) (tBM X.K T r to t) := by
 intro pins s σ H Q I h
 refine wpAny_Call_method_late hbase hfew hline rfl (thn (ho pins s σ H _ I h) fun v s1 hx__ => ?_)
 obtain ⟨x, H1, I1, r1, ty, q1⟩ := hx__
 obtain ⟨h1, h2⟩ := tyV_is I1 r1 ty
 refine ⟨T, id, pa, slot, hty, h1, h2, ?_⟩
 have hA := ha cpos pins s1 σ H1 _ I1 q1
 rw [hs] at hA ⊢
 refine Calls.callWith_builtin (by show (false || (backTo cpos (starEach es X.env)).any (·.1)) = false; rw [hplain] <;> rfl) (Calls.evalArgs_plain ?_)
 exact thn hA fun us s2 ⟨vs, H2, I2, r2, q2⟩ => hm pins s2 σ H2 x vs v us Q I2 r1 r2 q2
end
end L2

namespace L2
open PySem PySem.Spec PyProof.Rows

noncomputable def MtM (X : Cx) (id : String) (r : V → List V → Hp → VK → Prop) : Prop :=
 ∀ (pins : List (Addr × Obj)) (s : Shared) (σ : St) (H : Hp) (x : V) (xs : List V) (v : Value) (us : List Value) (Q : VK), Inv X pins σ H s → RelV x v → Vals xs us → r x xs H Q →
  wpAny (model X.prog X.w) X.A (call (.builtin id) (v :: us)) (EP X pins σ Q) X.xe s

theorem Vals.one {x : V} {us : List Value} (h : Vals [x] us) : ∃ u, us = [u] ∧ RelV x u := by
 cases h with
 | cons r t => cases t; exact ⟨_, rfl, r⟩
theorem Vals.reverse {xs : List V} {us : List Value} (h : Vals xs us) : Vals xs.reverse us.reverse := by
 induction h with
 | nil => exact .nil
 | cons r t ih => rw [List.reverse_cons, List.reverse_cons]; exact Vals.append ih (.cons r .nil)
theorem Vals.rep {xs : List V} {us : List Value} (h : Vals xs us) : ∀ k : Nat, Vals (List.replicate k xs).flatten (List.replicate k us).flatten
 | 0 => .nil
 | k + 1 => by
  rw [List.replicate_succ, List.replicate_succ, List.flatten_cons, List.flatten_cons]
  exact Vals.append h (Vals.rep h k)
theorem foldl_rep (its : List Value) : ∀ (k : Nat) (acc : List Value),
  List.foldl (fun x1 x2 => x1 ++ x2) acc.toArray (List.replicate k its.toArray) = (acc ++ (List.replicate k its).flatten).toArray
 | 0, acc => by simp
 | k + 1, acc => by
  have e : acc.toArray ++ its.toArray = (acc ++ its).toArray := by simp
  have e2 : (acc ++ its) ++ (List.replicate k its).flatten = acc ++ (List.replicate (k + 1) its).flatten := by
   rw [List.replicate_succ, List.flatten_cons, List.append_assoc]
  rw [← e2, ← foldl_rep its k (acc ++ its), ← e, List.replicate_succ, List.foldl_cons]

section
variable {X : Cx} {pins : List (Addr × Obj)} {σ : St} {H : Hp} {s : Shared} {l b : Addr} {xs ys zs : List V}

theorem Inv.lset {its its' : List Value} {n : Nat} {f : Array Value → Array Value} {t' : Nat} (I : Inv X pins σ H s) (hH : H l = some (.lst xs))
  (e : s.heap.get? l = some { cls := .type "list", data := .seq its.toArray n }) (hf : f its.toArray = its'.toArray) (hv : Vals ys its') (hz : ys.length ≤ sizeLine) :
  Inv X pins σ (upd H l (.lst ys)) { s with heap := s.heap.update l (Obj.mapSeq f), toks := t' } := by
 have q := PySem.IsL.update e f
 rw [hf] at q
 refine I.write (x := l) (e := l) (by rw [hH]; exact trivial) (.inl rfl) (fun b' u hb hu => (Heap.get?_update_other s.heap (Obj.mapSeq f) (Ne.symm hb)).trans hu) ⟨_, q⟩ ?_
 exact ⟨hz, its', _, hv, q⟩
theorem Inv.lnew {its : List Value} {t' : Nat} (I : Inv X pins σ H s) (hv : Vals ys its) (hz : ys.length ≤ sizeLine) :
  Inv X pins σ (upd H s.heap.objs.size (.lst ys)) { s with heap := s.heap.push { cls := .type "list", data := .seq its.toArray }, toks := t' } :=
 I.laid (fun _ _ q => Heap.get?_push_of_some _ q) (Nat.le_refl _) ⟨hz, its, 0, hv, Heap.get?_push_size _ rfl⟩
theorem Inv.fresh (I : Inv X pins σ H s) : H s.heap.objs.size = none := I.hok.fresh (Nat.le_refl _)
theorem Inv.lstM (I : Inv X pins σ H s) (hH : H l = some (.lst xs)) : xs.length ≤ sizeLine ∧ ∃ (its : List Value) (n : Nat), Vals xs its ∧ xs.length = its.length ∧ s.heap.get? l = some { cls := .type "list", data := .seq its.toArray n } := by
 obtain ⟨z, its, n, r, e⟩ := I.hok l _ hH
 exact ⟨z, its, n, r, r.length, e⟩

theorem notLongL {n : Nat} (h : n ≤ sizeLine) : Builtin.List.listTooLong n = false := by
 unfold Builtin.List.listTooLong
 exact decide_eq_false (by omega)
end

section
variable {X : Cx}

noncomputable def rAppend : V → List V → Hp → VK → Prop := fun x vs H Q => ∃ l xs y, x = .ref l ∧ vs = [y] ∧ H l = some (.lst xs) ∧ xs.length < sizeLine ∧ Q .non (upd H l (.lst (xs ++ [y])))
theorem mt_append : MtM X "list.append" rAppend := by
 intro pins s σ H x vs v us Q I rx rv h
 obtain ⟨l, xs, y, rfl, rfl, hH, hz, q⟩ := h
 cases rx
 obtain ⟨u, rfl, ru⟩ := rv.one
 obtain ⟨z, its, n, r, hl, e⟩ := I.lstM hH
 refine call_meets F.slot_list_append ⟨_, e, rfl⟩ F.entry_list_append (F.args_list_append_2 _ _) (PySem.list_append l its.toArray n u (by rw [List.size_toArray]; omega)) ⟨e, ?_⟩
 refine ⟨.non, _, I.lset (its' := its ++ [u]) hH e (by simp) (r.append (.cons ru .nil)) ?_, rfl, q⟩
 rw [List.length_append, List.length_singleton]
 omega

noncomputable def rCat : R2 := fun x y H Q => ∃ l b xs zs, x = .ref l ∧ y = .ref b ∧ H l = some (.lst xs) ∧ H b = some (.lst zs) ∧ xs.length + zs.length ≤ sizeLine ∧ ∀ p, H p = none → Q (.ref p) (upd H p (.lst (xs ++ zs)))
theorem op_cat : OpR X (binaryOp .Add) rCat := by
 intro pins s σ H x y v u Q I rx ry h
 obtain ⟨l, b, xs, zs, rfl, rfl, hH, hB, hz, q⟩ := h
 cases rx
 cases ry
 obtain ⟨z, its, n, r, hl, e⟩ := I.lstM hH
 obtain ⟨z2, its2, n2, r2, hl2, e2⟩ := I.lstM hB
 refine PySem.P.add_list e e2 ?_ (by rw [List.size_toArray, List.size_toArray]; omega)
 have ea : its.toArray ++ its2.toArray = (its ++ its2).toArray := by simp
 rw [ea]
 exact ⟨.ref _, _, I.lnew (t' := s.toks) (r.append r2) (by rw [List.length_append]; omega), rfl, q _ I.fresh⟩
noncomputable def rRep : R2 := fun x y H Q => ∃ l k xs, x = .ref l ∧ y = .int k ∧ H l = some (.lst xs) ∧ -(2 ^ 63) ≤ k ∧ k < 2 ^ 63 ∧ xs.length * k.toNat ≤ sizeLine ∧
 ∀ p, H p = none → Q (.ref p) (upd H p (.lst (List.replicate k.toNat xs).flatten))
theorem len_rep {α : Type} (xs : List α) (k : Nat) : (List.replicate k xs).flatten.length = k * xs.length := by
 induction k with
 | zero => simp
 | succ k ih => rw [List.replicate_succ, List.flatten_cons, List.length_append, ih, Nat.succ_mul, Nat.add_comm]
theorem op_rep : OpR X (binaryOp .Mult) rRep := by
 intro pins s σ H x y v u Q I rx ry h
 obtain ⟨l, k, xs, rfl, rfl, hH, h1, h2, hz, q⟩ := h
 cases rx
 obtain ⟨t, rfl⟩ := ry
 obtain ⟨z, its, n, r, hl, e⟩ := I.lstM hH
 have hlen : its.toArray.size * k.toNat ≤ sizeLine := by rw [List.size_toArray, ← hl]; exact hz
 have hcap : ¬ its.toArray.size * k.toNat > (2 ^ 63 - 1) / 8 := by
  have : (sizeLine : Nat) ≤ (2 ^ 63 - 1) / 8 := by decide
  omega
 have hfit : ¬ (!Builtin.List.listFitsIndex k) = true := by
  rw [fitsIndex_both h1 h2]
  exact Bool.false_ne_true
 have hlong : ¬ Builtin.List.listTooLong (its.toArray.size * k.toNat) = true := by
  rw [notLongL hlen]
  exact Bool.false_ne_true
 have hnew : List.foldl (fun x1 x2 => x1 ++ x2) #[] (List.replicate (if its.toArray.isEmpty = true then 0 else k.toNat) its.toArray) = (List.replicate k.toNat its).flatten.toArray := by
  have f0 : ∀ m : Nat, List.foldl (fun x1 x2 => x1 ++ x2) #[] (List.replicate m its.toArray) = (List.replicate m its).flatten.toArray := fun m => by
   have := foldl_rep its m []
   rw [List.nil_append] at this
   exact this
  rw [f0]
  cases its with
  | nil => simp
  | cons a r' => rw [if_neg (by simp)]
 refine wpAny_binaryOp_repeat_ref (T := "list") (U := "int") (by decide) ⟨_, e, rfl⟩ (fun s' => typeIs_int s' k t) noFill_list_mul F.fills_int_mul F.slot_int_rmul repeat_list F.slot_int_index.lookup
  (call_meets F.slot_int_rmul (typeIs_int s k t) F.entry_int_rmul (F.args_int_rmul_2 _ _) (int___rmul___int_list k t l its.toArray n)
   ⟨e, rfl, ⟨_, e, rfl⟩, call_meets F.slot_list_mul ⟨_, e, rfl⟩ F.entry_list_mul (F.args_list_mul_2 _ _) (AutoListH.list___mul___list_int_3 l its.toArray n k t hfit hcap hlong) ⟨e, ?_⟩⟩)
 rw [hnew]
 exact ⟨.ref _, _, I.lnew (t' := s.toks) (r.rep k.toNat) (by rw [len_rep, Nat.mul_comm]; exact hz), rfl, q _ I.fresh⟩

end

section
variable {prog : Program} {w : World} {A : Around} {E : Value → Shared → Prop} {s : Shared}
end

section
variable {X : Cx}
end
end L2

namespace Att
open PySem PySem.W PySem.Calls PyProof.Rows

theorem ints_of_wellAll {P : Params} {h : Heap} : ∀ (ns : List Int) (vs : List Value), WellAll P h vs (ns.map WData.int) → IntsAre vs ns := by
 intro ns
 induction ns with
 | nil =>
  intro vs w
  rw [List.map_nil] at w
  cases w
  exact .nil
 | cons n ns ih =>
  intro vs w
  rw [List.map_cons] at w
  cases w with
  | cons a b =>
   cases a
   exact .cons _ _ (ih _ b)

theorem script_of {l : OpenLaw} {n : Nat} (hn : l.most = some n) {P : Params} {h : Heap} {args : List WData} {vals : List Value}
  (hpre : l.row.toRowW.claim.pre args = true) (hwl : WellAll P h vals args) :
  ∃ a vs ns, vals = [Value.ref a] ∧ args = [WData.list (ns.map WData.int)] ∧ h.get? a = some { cls := .type "list", data := .seq vs.toArray } ∧ IntsAre vs ns ∧ ns.length ≤ n := by
 have hsh : WShape.hasAll [] args [.list .int] = true := (pre_splitW hpre).1
 have hc : l.pre.holds [] { args := args } = true := (pre_splitW hpre).2
 obtain ⟨d, r, rfl, h1, h2⟩ := hasAllW_cons hsh
 obtain rfl := hasAllW_nil h2
 obtain ⟨xs, rfl, h3⟩ := hasW_list h1
 obtain ⟨ns, rfl⟩ := items_int h3
 have hlen : ns.length ≤ n := by
  unfold OpenLaw.pre at hc
  have h4 : (WTm.not (.lt (.lit (.int (n : Int))) (.len (.arg 0)))).holds [] { args := [.list (ns.map .int)] } = true := by
   have h4 := (holds_andW hc).1
   rw [hn] at h4
   exact h4
  have h5 := condW_of h4 (w_not (w_lt w_lit (w_len_list (w_arg rfl))))
  rw [List.length_map] at h5
  refine Nat.le_of_not_lt fun q => ?_
  have q' : (n : Int) < ((ns.length : Nat) : Int) := by omega
  first
   | (rw [decide_eq_true q'] at h5; exact absurd h5 (by decide))
   | (simp at h5; omega)
 cases hwl with
 | cons w1 w2 =>
  cases w2
  cases w1 with
  | list ho hall => exact ⟨_, _, ns, rfl, rfl, ho, ints_of_wellAll ns _ hall, hlen⟩

theorem post_true (l : OpenLaw) (args : List WData) : l.row.toRowW.claim.post args (.bool true) args = true :=
 postW_of (r := l.row.toRowW) (X := (true == true))
  (show WShape.has [] (.bool true) .bool = true by first | rfl | decide | simp [WShape.has, WShape.arms, WShape.armsAll])
  (show (WTm.eq .res (.lit (.bool true))).value [] { args := args, res := some (.bool true), after := args } = some (.bool (true == true)) from w_eq_bool (w_res rfl) w_lit) rfl

theorem attach_call {l : OpenLaw} {n : Nat} {q : Program} {loose : List Str} {XP : (Str → Option Value) → Heap → Prop} {YP : World → Heap → Prop} {d : DefRec}
  (hn : l.most = some n) (hdf : d.params.defaults = [])
  (call : ∀ (w : World) (s₀ s₁ : Shared) (mg mb : Str → Option Value) (fa : Addr) (o : Obj) (pm cd doc : Value) (a : Addr) (vs : List Value) (ns : List Int),
   Ground q loose [] XP w s₀ mg mb s₁.heap → YP w s₁.heap →
   s₁.heap.get? fa = some o → o.data = .func (docDef d.name d.params d.body d.scope pm cd doc) → s₁.heap.CodeRec cd d.name → mg d.name = some (.ref fa) →
   s₁.heap.get? a = some { cls := .type "list", data := .seq vs.toArray } → IntsAre vs ns → ns.length ≤ n → s₁.gens = #[] →
   codeAny (model l.prog w) callerA (.call (.ref fa) ⟨[.ref a], []⟩) (fun r s' => r = .ok (.ret (.bool true)) ∧ OldK s₁.heap s'.heap ∧ s'.os = s₁.os ∧ AllBare s'.gens) s₁) :
  WalkO q loose XP YP l.row.toRowW d [] (fun f vs => PySem.call f vs) := by
 intro w s₀ s₁ mg mb G Y fa o pm cd doc dV kV ho hd hcd hD hmg hg args vals as hpre hlay hrd hwl hlo
 obtain rfl : dV = .none := Dflts.none hD hdf
 obtain rfl : kV = .none := Dflts.noKw hD
 obtain ⟨a, vs, ns, rfl, rfl, hobj, hints, hlen⟩ := script_of hn hpre hwl
 refine enter_call (codeAny_mono (call w s₀ s₁ mg mb fa o pm cd doc a vs ns G Y ho (fd_plain hd) hcd hmg hobj hints hlen hg) fun r s' hq => ?_)
 obtain ⟨rfl, h2, h3, h4⟩ := hq
 exact ⟨.inl ⟨.bool true, .bool true, [], rfl, fun _ => rfl, .bool true, post_true l _, fun _ => ⟨List.Pairwise.nil, fun _ hm => (nomatch hm)⟩⟩, h2, h3, h4⟩

section
variable {prog : Program} {w : World} {A : Around} {E : Value → Shared → Prop} {s : Shared} {K : Frag}

end
end Att

namespace L2
open PySem PySem.Spec PyProof.Rows

theorem vals_ints : ∀ {vs : List Value} {ns : List Int}, IntsAre vs ns → Vals (ns.map V.int) vs
 | _, _, .nil => .nil
 | _, _, .cons n t h => .cons ⟨t, rfl⟩ (vals_ints h)

noncomputable def Only (H : Hp) : Prop := ∀ b, H b = none ∨ ∃ o xs, H b = some (.frz o (.lst xs))

theorem law_call {P : Program} {w : World} {K : PySem.W.Frag} {mg mb : Str → Option Value} {CX : CXT} {k : Nat} {fa a : Addr} {fd : FuncData} {x : Str} {sp : Sp} {s₁ : Shared} {vs : List Value} {ns : List Int}
  (KX : K.In s₁.heap) (hns : s₁.heap.Ns mainGlobals mg) (hb : s₁.heap.Ns builtinsNs mb) (hbb : ∀ x : Str, x ≠ "__name__" → mb x = bootBuiltins x) (hlim : s₁.heap.NoLimit) (hg : s₁.gens = #[])
  (ha : s₁.heap.get? a = some { cls := .type "list", data := .seq vs.toArray }) (hi : IntsAre vs ns) (hl : ns.length ≤ sizeLine) (hr : Room k callerA)
  (F : ∀ base : Heap, K.In base → base.Ns mainGlobals mg → FnOk P w K mg base CX k fa fd [x] sp) (hbind : ∀ (s : Shared) (u : Value), BindsTo s fd ⟨[u], []⟩ [(x, u)])
  (hsp : ∀ H : Hp, Only H → SqL K H a (ns.map V.int) → sp [.ref a] H (fun v _ => v = .bl true) fun _ _ _ => False)
  (hCX : ∀ H e s', CX [] H s₁ (fun _ _ _ => False) e s' → False) :
  codeAny (model P w) callerA (.call (.ref fa) ⟨[.ref a], []⟩) (fun r s' => r = .ok (.ret (.bool true)) ∧ OldK s₁.heap s'.heap ∧ s'.os = s₁.os ∧ AllBare s'.gens) s₁ := by
 have rv := vals_ints hi
 have lenV := hi.length
 -- from an abstract heap in which nothing but the script may be tracked
 have core : ∀ H : Hp, Only H → SqL K H a (ns.map V.int) → HOk P w H s₁.heap → (∀ b, H b ≠ none → b = a) → (H a ≠ none → K.lookup a = none) →
   codeAny (model P w) callerA (.call (.ref fa) ⟨[.ref a], []⟩) (fun r s' => r = .ok (.ret (.bool true)) ∧ OldK s₁.heap s'.heap ∧ s'.os = s₁.os ∧ AllBare s'.gens) s₁ := by
  intro H hO hS hok hA hK
  have base_of : ∀ {b : Addr} {o : Obj}, s₁.heap.get? b = some o → H b = none → (hidT s₁.heap H).get? b = some o := fun e n => hidT_get e n
  have noA : ∀ {b : Addr} {o : Obj} {es : Array DictEntry} {ep : Nat}, s₁.heap.get? b = some o → o.data = .dict es ep → H b = none := fun {b o es ep} e d => by
   cases q : H b with
   | none => rfl
   | some u =>
    have e' : b = a := hA b (by rw [q]; simp)
    subst e'
    rw [ha] at e; cases e
    have d' : Data.seq vs.toArray _ = Data.dict es ep := d
    cases d'
  have nsK : ∀ {b : Addr} {m : Str → Option Value}, s₁.heap.Ns b m → (hidT s₁.heap H).Ns b m := fun {b m} ⟨o, es, ep, e, d, r⟩ => ⟨o, es, ep, base_of e (noA e d), d, r⟩
  have hKb : K.In (hidT s₁.heap H) := fun b o e => base_of (KX b o e) (by
   cases q : H b with
   | none => rfl
   | some u =>
    have e' : b = a := hA b (by rw [q]; simp)
    subst e'
    rw [hK (by rw [q]; simp)] at e; cases e)
  have hM : Mod K mg (hidT s₁.heap H) := ⟨hKb, nsK hns, ⟨mb, nsK hb, hbb⟩, let ⟨mc, h1, h2⟩ := hlim; ⟨mc, nsK h1, h2⟩⟩
  have e0 : Env0 P w K mg (hidT s₁.heap H) callerA [] s₁ H := ⟨rfl, hM, fun b o e => of_hidT e, Nat.le_of_eq (hidT_size _ _), trivial, fun b hb => absurd (show b ∈ ([] : List Addr) from hb) (by simp), hok, .of_eq hg⟩
  refine codeAny_mono ((F _ hKb (nsK hns)).run callerA [] s₁ H ⟨[.ref a], []⟩ [.ref a] [.ref a] _ _ hr e0 (hbind s₁ (.ref a)) (.cons rfl .nil) (hsp H hO hS)) fun r s' h => ?_
  cases r with
  | error e => exact (hCX H e s' h).elim
  | ok fl =>
   cases fl with
   | next => exact False.elim h
   | brk => exact False.elim h
   | cont => exact False.elim h
   | ret u =>
    obtain ⟨v, H', os, bare, un, hok', r', q⟩ := h
    have q' : v = .bl true := q
    subst q'
    obtain rfl : u = Value.bool true := r'
    refine ⟨rfl, OldK.of_keep fun b o e => ?_, os, bare⟩
    cases q : H b with
    | none => exact un.keep b o e q (by intro z; exact absurd (show b ∈ ([] : List Addr) from z) (by simp)) (by simp)
    | some u =>
     rcases hO b with z | ⟨ob, xs, z⟩
     ·rw [q] at z; cases z
     ·have z2 := un.frzs b ob _ z
      obtain ⟨e1, _⟩ := hok b _ z
      obtain ⟨e2, _⟩ := hok' b _ z2
      rw [e] at e1; cases e1
      exact e2
 cases hk : K.lookup a with
 | some o =>
  -- the script is one of the module's own objects
  have e := KX a o hk
  rw [ha] at e
  cases e
  refine core (fun _ => none) (fun _ => .inl rfl) (.inr ⟨_, vs.toArray, _, hk, rfl, rfl, rfl, by rw [List.size_toArray, lenV]; exact hl, by simpa using rv⟩) (fun b u z => by have z' : (none : Option HO) = some u := z; cases z') (fun b z => absurd rfl z) fun z => absurd rfl z
 | none =>
  refine core (fun b => if b = a then some (.frz { cls := .type "list", data := .seq vs.toArray } (.lst (ns.map V.int))) else none) (fun b => ?_) (.inl (.inr ⟨{ cls := .type "list", data := .seq vs.toArray }, if_pos rfl⟩)) (fun b u z => ?_) (fun b z => ?_) fun _ => hk
  ·by_cases hb : b = a
   ·exact .inr ⟨_, _, if_pos hb⟩
   ·exact .inl (if_neg hb)
  ·by_cases hb : b = a
   ·have z' := (if_pos hb).symm.trans z
    cases z'
    subst hb
    exact ⟨ha, by rw [List.length_map]; exact hl, vs, _, rv, ha⟩
   ·have z' := (if_neg hb).symm.trans z
    cases z'
  ·by_cases hb : b = a
   ·exact hb
   ·exact absurd (if_neg hb) z
end L2

namespace L2
open PySem PySem.Spec PyProof.Rows

end L2

namespace L2
open PySem PySem.Spec PyProof.Rows

noncomputable def defArgs (s : Stmt) : Arguments := match s with
 | .FunctionDef _ a _ _ _ _ _ _ _ _ => a
 | _ => { posonlyargs := [], args := [], vararg := none, kwonlyargs := [], kw_defaults := [], kwarg := none, defaults := [] }
noncomputable def defBody (s : Stmt) : List Stmt := match s with
 | .FunctionDef _ _ b _ _ _ _ _ _ _ => b
 | _ => []
noncomputable def defScope (s : Stmt) : Scope := match s with
 | .FunctionDef _ _ _ _ _ _ sc _ _ _ => sc
 | _ => { kind := .function, names := [], isGenerator := false, isCoroutine := false }

noncomputable abbrev CX0 : CXT := fun _ _ _ _ _ _ => False
noncomputable abbrev E0 : XK := fun _ _ _ => False
theorem pass0 {X : Cx} : Passes CX0 X E0 := fun _ _ _ _ _ _ _ h => h.elim

structure Fun (K : PySem.W.Frag) (x qual : Str) (st : Stmt) (f : Addr) (fd : FuncData) : Prop where
 ex : ∃ (oc : Value) (od : Option Addr) (kV doc pm : Value) (an : Option Addr) (cdv ct : Value) (osl : Array (Option Value)),
  fd = PySem.W.fnOf x qual (defArgs st) (defBody st) (defScope st) .none kV doc pm an cdv ct ∧ K.lookup f = some ⟨oc, od, .func fd, osl⟩ ∧ PySem.W.codeIn K cdv qual = true
 kp : PySem.W.keepIn K (.ref f) = true
section
variable {P : Program} {w : World} {K : PySem.W.Frag} {mg : Str → Option Value} {base : Heap}
theorem Fun.ok {x qual : Str} {st : Stmt} {f : Addr} {fd : FuncData} {N ps : List Str} {k : Nat} {sp : Sp} (F : Fun K x qual st f fd) (S : FnScope N ps (defScope st)) (len : ∀ vs H Q E, sp vs H Q E → vs.length = ps.length)
  (hbody : ∀ (cdv : Value) (A : Around) (outer : List Env) (s : Shared) (H : Hp) (vs : List V) (Q : VK) (E : XK), Room k (A.deeper (envOfC qual (defScope st) s.heap.objs.size f cdv)) → sp vs H Q E →
   ∃ t, PSs (cxOf CX0 P w K mg base N qual (defScope st) f cdv A outer s H E).nox (defBody st) t ∧ t { nx := fun _ H' => Q .non H', rt := Q } (start N vs) H) : FnOk P w K mg base CX0 (k + 1) f fd ps sp := by
 obtain ⟨oc, od, kV, doc, pm, an, cdv, ct, osl, rfl, lk, hcd⟩ := F.ex
 refine fn_of lk hcd S len fun A outer s H vs Q E hr hsp => ?_
 obtain ⟨t, h, q⟩ := hbody cdv A outer s H vs Q E hr hsp
 exact ⟨t, h.nox, q⟩
theorem Fun.binds {x qual : Str} {st : Stmt} {f : Addr} {fd : FuncData} {ps : List Str} (F : Fun K x qual st f fd)
  (h : ∀ (kV doc pm : Value) (an : Option Addr) (cdv ct : Value) (us : List Value), us.length = ps.length → bindArgs (PySem.W.fnOf x qual (defArgs st) (defBody st) (defScope st) .none kV doc pm an cdv ct) ⟨us, []⟩ = pure (ps.zip us)) : Binds K fd ps [] := by
 obtain ⟨oc, od, kV, doc, pm, an, cdv, ct, osl, rfl, lk, hcd⟩ := F.ex
 exact .all (h kV doc pm an cdv ct)
end
theorem small1000 {n : Nat} (h : n ≤ 1000) : n < sizeLine := Nat.lt_of_le_of_lt h (by decide)

section
variable {X : Cx}
theorem pv (i : Nat) {x : Str} {pos : Pos} (hN : X.N[i]? = some x := by rfl) (hv : Vis X.env.scope x := by first | exact Or.inl rfl | exact Or.inr (Or.inl rfl) | exact Or.inr (Or.inr rfl)) (hd : (x == ("__debug__" : Str)) = false := by decide)
  (hcd : (x == ("__classdict__" : Str)) = false := by decide) : PE X (.Name x pos) (tVar i) := pe_var hN hv hd hcd
end

theorem ite2 {c A B : Prop} [Decidable c] (h1 : c → A) (h2 : ¬ c → B) : if c then A else B := by
 by_cases h : c
 ·rw [if_pos h]
  exact h1 h
 ·rw [if_neg h]
  exact h2 h
noncomputable def Same (H H' : Hp) : Prop := ∀ b o, H b = some o → H' b = some o
theorem Same.refl (H : Hp) : Same H H := fun _ _ h => h
theorem Same.trans {H H1 H2 : Hp} (a : Same H H1) (b : Same H1 H2) : Same H H2 := fun c o h => b c o (a c o h)
theorem Same.free {H H' : Hp} (e : Same H H') {l : Addr} (h : H' l = Option.none) : H l = Option.none := by
 cases q : H l with
 | none => rfl
 | some o =>
  rw [e l o q] at h
  cases h
theorem Same.seq {K : PySem.W.Frag} {H H' : Hp} {a : Addr} {xs : List V} (e : Same H H') (h : SqL K H a xs) : SqL K H' a xs := by
 rcases h with (h | ⟨o, h⟩) | h
 ·exact .inl (.inl (e _ _ h))
 ·exact .inl (.inr ⟨o, e _ _ h⟩)
 ·exact .inr h

end L2


set_option Elab.async false
set_option linter.all false
set_option maxRecDepth 100000
set_option maxHeartbeats 4000000
namespace L2
open PySem PySem.Spec PyProof.Rows

noncomputable def cloOf (cells : List (Str × Addr)) : List (Str × NameKind) → List (Str × Addr) → List (Str × Addr)
 | [], cs => cs
 | (n, k) :: r, cs => cloOf cells r (if (k == NameKind.free) = true then (match cells.lookup n with | some a => (n, a) :: cs | none => cs) else cs)
theorem clo_forIn (env : Env) : ∀ (l : List (Str × NameKind)) (cs : List (Str × Addr)), (∀ y ∈ l, y.2 = .free → ∃ c, env.cells.lookup y.1 = some c) →
  (forIn l cs fun x r => match x with | (name, kind) => if (kind == NameKind.free) = true then do let a ← cellOf env name; pure (ForInStep.yield ((name, a) :: r)) else pure (ForInStep.yield r)) = (pure (cloOf env.cells l cs) : Sem (List (Str × Addr)))
 | [], cs, _ => rfl
 | (n, k) :: l, cs, h => by
  have ih := fun cs => clo_forIn env l cs fun y hy => h y (List.mem_cons_of_mem _ hy)
  rw [List.forIn_cons]
  unfold cloOf
  by_cases hk : k = .free
  ·subst hk
   obtain ⟨c, hc⟩ := h (n, .free) List.mem_cons_self rfl
   have e : cellOf env n = pure c := by unfold cellOf; rw [hc]
   simp only [beq_self_eq_true, if_true, e, hc, pure_bind]
   exact ih _
  ·have hb : (k == NameKind.free) = false := by simpa using hk
   simp only [hb, Bool.false_eq_true, if_false, pure_bind]
   exact ih _
theorem clo_eq {scope : Scope} {env : Env} (h : ∀ y ∈ scope.names, y.2 = .free → ∃ c, env.cells.lookup y.1 = some c) : closureFor scope env = pure (cloOf env.cells scope.names []) := by
 unfold closureFor
 simp only [bind_pure]
 exact clo_forIn env scope.names [] h
theorem clo_sub (cells : List (Str × Addr)) : ∀ (l : List (Str × NameKind)) (cs : List (Str × Addr)), (∀ x c, cs.lookup x = some c → cells.lookup x = some c) → ∀ x c, (cloOf cells l cs).lookup x = some c → cells.lookup x = some c
 | [], cs, h, x, c, e => h x c e
 | (n, k) :: l, cs, h, x, c, e => by
  unfold cloOf at e
  refine clo_sub cells l _ ?_ x c e
  intro y d q
  split at q
  ·cases hc : cells.lookup n with
   | none => rw [hc] at q; exact h y d q
   | some a =>
    rw [hc] at q
    simp only [List.lookup_cons] at q
    cases hy : y == n with
    | true =>
     rw [hy] at q
     have : y = n := by simpa using hy
     subst this
     rw [hc]; exact q
    | false => rw [hy] at q; exact h y d q
  ·exact h y d q
theorem clo_keep (cells : List (Str × Addr)) : ∀ (l : List (Str × NameKind)) (cs : List (Str × Addr)) (x : Str), (∃ c, cs.lookup x = some c) → ∃ c, (cloOf cells l cs).lookup x = some c
 | [], cs, x, h => h
 | (n, k) :: l, cs, x, h => by
  unfold cloOf
  refine clo_keep cells l _ x ?_
  split
  ·split
   ·simp only [List.lookup_cons]
    split
    ·exact ⟨_, rfl⟩
    ·exact h
   ·exact h
  ·exact h
theorem clo_has (cells : List (Str × Addr)) : ∀ (l : List (Str × NameKind)) (cs : List (Str × Addr)) (x : Str), (x, NameKind.free) ∈ l → (∃ c, cells.lookup x = some c) → ∃ c, (cloOf cells l cs).lookup x = some c
 | [], cs, x, h, _ => by simp at h
 | (n, k) :: l, cs, x, h, hc => by
  unfold cloOf
  rcases List.mem_cons.mp h with e | h
  ·cases e
   obtain ⟨c, hc⟩ := hc
   simp only [beq_self_eq_true, if_true, hc]
   exact clo_keep cells l _ _ ⟨c, by simp [List.lookup_cons]⟩
  ·exact clo_has cells l _ x h hc

noncomputable def blk (X : Cx) (N' : List Str) (scope : Scope) (s : Shared) (H : Hp) (ex : List Addr) : Cx :=
 { X with N := N', s₀ := s, H₀ := H, env := compEnvC scope (cloOf X.env.cells scope.names []) s.heap.objs.size X.env, outer := X.stack, stack := X.stack, ex := ex, fn := fun _ => false, pn := [], xe := fun _ _ => False }
noncomputable def pick (σ : St) (js : List (Option Nat)) : St := js.map fun j => match j with | none => none | some i => (σ[i]?).getD none
noncomputable def capOk (N : List Str) (sc : Scope) (N' : List Str) (scope : Scope) (js : List (Option Nat)) : Bool :=
 (N'.length == js.length) && (N'.zip js).all fun p => match p.2 with
  | none => true
  | some i => decide (N[i]? = some p.1) && (decide (sc.names.lookup p.1 = some .cell) || decide (sc.names.lookup p.1 = some .free)) && decide (scope.names.lookup p.1 = some .free)
noncomputable def freeOk (sc scope : Scope) : Bool := scope.names.all fun y => (y.2 != .cell) && ((y.2 != .free) || (decide (sc.names.lookup y.1 = some .cell) || decide (sc.names.lookup y.1 = some .free))) && ((y.2 != .local) || decide (scope.names.lookup y.1 = some .local))

theorem relabel_look {env : Env} {x : Str} {k : NameKind} : ∀ {names : List (Str × NameKind)},
  (names.map fun (n, k) => if (k == NameKind.free && env.scope.kind == .function && env.kindOf n == some .cell) then (n, NameKind.cell) else (n, k)).lookup x = some k →
  names.lookup x = some k ∨ (names.lookup x = some .free ∧ k = .cell)
 | [], h => by simp at h
 | (n, j) :: r, h => by
  have ih := @relabel_look env x k r
  simp only [List.map_cons] at h
  by_cases hc : (j == NameKind.free && env.scope.kind == .function && env.kindOf n == some .cell) = true
  ·rw [if_pos hc] at h
   have hj : j = .free := by
    have := (Bool.and_eq_true _ _).mp ((Bool.and_eq_true _ _).mp hc).1
    simpa using this.1
   subst hj
   cases hx : x == n with
   | true =>
    simp only [List.lookup_cons, hx] at h ⊢
    cases h
    exact .inr (by simp)
   | false =>
    simp only [List.lookup_cons, hx] at h ⊢
    exact ih h
  ·rw [if_neg hc] at h
   cases hx : x == n with
   | true => simp only [List.lookup_cons, hx] at h ⊢; exact .inl h
   | false => simp only [List.lookup_cons, hx] at h ⊢; exact ih h
theorem relabel_free {env : Env} {x : Str} : ∀ {names : List (Str × NameKind)}, names.lookup x = some .free →
  (names.map fun (n, k) => if (k == NameKind.free && env.scope.kind == .function && env.kindOf n == some .cell) then (n, NameKind.cell) else (n, k)).lookup x = some .cell ∨
  (names.map fun (n, k) => if (k == NameKind.free && env.scope.kind == .function && env.kindOf n == some .cell) then (n, NameKind.cell) else (n, k)).lookup x = some .free
 | [], h => by simp at h
 | (n, j) :: r, h => by
  have ih := @relabel_free env x r
  simp only [List.map_cons]
  cases hx : x == n with
  | true =>
   simp only [List.lookup_cons, hx] at h
   cases h
   by_cases hc : (NameKind.free == NameKind.free && env.scope.kind == .function && env.kindOf n == some .cell) = true
   ·rw [if_pos hc]; exact .inl (by simp [List.lookup_cons, hx])
   ·rw [if_neg hc]; exact .inr (by simp [List.lookup_cons, hx])
  | false =>
   simp only [List.lookup_cons, hx] at h
   by_cases hc : (j == NameKind.free && env.scope.kind == .function && env.kindOf n == some .cell) = true
   ·rw [if_pos hc]; simp only [List.lookup_cons, hx]; exact ih h
   ·rw [if_neg hc]; simp only [List.lookup_cons, hx]; exact ih h

section
variable {X : Cx} {pins : List (Addr × Obj)} {σ : St} {H H' : Hp} {s : Shared}
theorem Inv.adopt {l : Addr} {o : HO} (I : Inv X pins σ H s) (hn : H l = none) (hL : l ≠ X.env.locals) (h1 : l ∈ X.ex ∨ X.s₀.heap.objs.size ≤ l)
    (h2 : ∀ x c, X.env.cells.lookup x = some c → c ≠ l) (h3 : ∀ p ∈ X.pn ++ pins, p.1 ≠ l) (new : ObjOk X.prog X.w (upd H l o) s.heap l o) : Inv X pins σ (upd H l o) s := by
  have nl : ∀ b u, H b = some u → b ≠ l := fun b u e z => by rw [z, hn] at e; cases e
  have := I.step (H' := upd H l o) (h' := s.heap) (g' := s.gens) (t' := s.toks) (d' := s.drawn) (ch := [l])
    (fun b hb => by have e : b = l := by simpa using hb
                    subst e; exact ⟨h1, hL, h2, h3⟩)
    (fun b o _ _ _ e _ => e) (fun b o _ _ _ e _ => ⟨o.slots, e⟩) (fun b o hc e n => by rw [upd_ne (fun z => hc (by simp [z]))]; exact n) (fun b o _ e => ⟨o, e⟩)
    (fun b xs e => by rw [upd_ne (nl b _ e)]; exact e) (fun b o u e => by rw [upd_ne (nl b _ e)]; exact e) (fun b ps e => ⟨#[], by rw [upd_ne (nl b _ e), e]; simp⟩) (fun m hm => hm)
    (fun b u e => by
      by_cases hb : b = l
      · subst hb; rw [upd_same] at e; cases e; exact new
      · rw [upd_ne hb] at e
        exact (I.hok b u e).stay (fun c v _ q => q) (fun c q => by rw [upd_ne (nl c _ q)]; exact q) fun c xs q => by rw [upd_ne (nl c _ q)]; exact q) I.bare
  exact this
end

section
variable {prog : Program} {w : World} {A : Around} {R : Result → Shared → Prop} {s : Shared}
theorem compLoop_gen {elt target iter : Expr} {ifs : List Expr} {scope : Scope} {pos : Pos} {it acc : Value} {env : Env} (I : Nat → Shared → Prop)
  (turn : ∀ n s, I n s → wpAny (model prog w) A (pyNext it) (fun r s₁ => match r with
   | none => R (.ok .next) s₁
   | some v => wpAny (model prog w) A (letOwnedTupleGo target it v) (fun _ s₁' => wpAny (model prog w) A (assign target env v) (fun _ s₂ =>
     wpAny (model prog w) A (forIn ifs true fun c r => if r = true then do let ok ← isTrue c env (eval c env); pure (ForInStep.yield ok) else pure (ForInStep.yield r)) (fun ok s₃ =>
      if ok = true then wpAny (model prog w) A (eval elt env) (fun x s₄ =>
       wpAny (model prog w) A (call (.builtin "list.append") [acc, x]) (fun _ s₅ => ∃ m, m < n ∧ I m s₅) (fun _ _ => False) s₄) (fun _ _ => False) s₃
      else ∃ m, m < n ∧ I m s₃) (fun _ _ => False) s₂) (fun _ _ => False) s₁') (fun _ _ => False) s₁) (fun _ _ => False) s)
  (n : Nat) (h : I n s) :
  codeAny (model prog w) A (.compLoop (.ListComp elt [⟨target, iter, ifs, 0⟩] scope pos) 0 it acc env) R s := by
 refine codeAny_loop rfl I (fun n s hI => ?_) n h
 show wpAny _ A ((compTurn (.ListComp elt [⟨target, iter, ifs, 0⟩] scope pos) 0 it acc env).onRaise (fun x => do noteFrame x env; theTreesLotGoes x)) _ _ s
 refine wpAny_noted ?_
 rw [compTurn_list]
 refine wpAny_bind (wpAny_standAt (wpAny_bind (wpAny_mono (turn n s hI) (fun r s₁ h₁ => ?_) fun _ _ h' => h'.elim)))
 cases r with
 | none => exact wpAny_pure h₁
 | some v =>
  refine wpAny_bind (wpAny_mono h₁ (fun _ s₁' h₁' => ?_) fun _ _ h' => h'.elim)
  refine wpAny_bind (wpAny_mono h₁' (fun _ s₂ h₂ => wpAny_bind (wpAny_mono h₂ (fun ok s₃ h₃ => ?_) fun _ _ h' => h'.elim)) fun _ _ h' => h'.elim)
  cases ok with
  | false => exact wpAny_pure ⟨rfl, h₃⟩
  | true =>
   exact wpAny_bind (wpAny_bind (wpAny_mono h₃ (fun x s₄ h₄ => wpAny_bind (wpAny_mono h₄ (fun _ s₅ h₅ => wpAny_pure (wpAny_pure ⟨rfl, h₅⟩)) fun _ _ h' => h'.elim)) fun _ _ h' => h'.elim))
end

noncomputable def PF (X : Cx) (ifs : List Expr) (t : TT) : Prop :=
 ∀ (pins : List (Addr × Obj)) (s : Shared) (σ : St) (H : Hp) (Q : Bool → Hp → Prop), Inv X pins σ H s → t σ H Q →
  wpAny (model X.prog X.w) X.A (forIn ifs true fun c r => if r = true then do let ok ← isTrue c X.env (eval c X.env); pure (ForInStep.yield ok) else pure (ForInStep.yield r)) (TP X pins σ Q) X.xe s
noncomputable def tYes : TT := fun _ H Q => Q true H
theorem pf_nil {X : Cx} : PF X [] tYes := fun _ _ _ H _ I h => wpAny_tests_nil ⟨H, I, h⟩
theorem pf_one {X : Cx} {c : Expr} {t : TT} (hc : PT X c t) : PF X [c] t := fun pins s σ H Q I h => wpAny_tests_one (hc pins s σ H Q I h)

noncomputable def lcGo (J : It) (js : List (Option Nat)) (g : TG) (tt : TT) (te : TE) (σ : St) (H1 : Hp) (Q : VK) : Prop :=
 ∃ W : Nat → Nat → List V → Hp → Prop, (∃ m, W 0 m [] H1) ∧ ∀ i m acc H, W i m acc H →
  (J.stop i H ∧ acc.length ≤ sizeLine ∧ ∀ l, H l = none → Q (.ref l) (upd H l (.lst acc))) ∨
  (J.go i H ∧ acc.length < sizeLine ∧ ∀ x H', J.yld i H x H' → g x (pick σ js) H' fun σ2 H2 => tt σ2 H2 fun b H3 =>
   if b = true then te σ2 H3 fun v H4 => ∃ m', m' < m ∧ W (i + 1) m' (acc ++ [v]) H4 else ∃ m', m' < m ∧ W (i + 1) m' acc H3)
noncomputable def tLC (wi : TI) (js : List (Option Nat)) (g : TG) (tt : TT) (te : TE) : TE := fun σ H Q => wi σ H fun J H1 => lcGo J js g tt te σ H1 Q

section
variable {X : Cx} {elt tgt iter : Expr} {ifs : List Expr} {scope : Scope} {pos : Pos} {N' : List Str} {js : List (Option Nat)} {wi : TI} {g : TG} {tt : TT} {te : TE}

theorem blk_ok {pins : List (Addr × Obj)} {σ : St} {H : Hp} {s : Shared} {ex : List Addr} (I : Inv X pins σ H s) (hk : scope.kind = .function) (hf : freeOk X.env.scope scope = true)
  (hex : ∀ b ∈ ex, (b ∈ X.ex ∨ X.s₀.heap.objs.size ≤ b) ∧ b ≠ X.env.locals ∧ b ∉ X.fs ∧ (∀ x c, X.env.cells.lookup x = some c → c ≠ b) ∧ b < s.heap.objs.size) : (blk X N' scope s H ex).Ok := by
 have hf' : ∀ y ∈ scope.names, y.2 ≠ .cell ∧ (y.2 = .free → X.env.scope.names.lookup y.1 = some .cell ∨ X.env.scope.names.lookup y.1 = some .free) := fun y hy => by
  have := List.all_eq_true.mp hf y hy
  simp only [Bool.and_eq_true, Bool.or_eq_true, bne_iff_ne, ne_eq, decide_eq_true_eq] at this
  refine ⟨this.1.1, fun e => ?_⟩
  rcases this.1.2 with z | z
  ·exact absurd e z
  ·exact z
 refine ⟨I.ok.mod, hk, I.ok.glob, I.ok.blt, Nat.le_refl _, fun x y c h1 h2 => ?_, fun x hx => ?_, fun x c h _ => absurd h Bool.false_ne_true, I.ok.hd, I.ok.frames, .inl rfl, fun b hb => ?_, I.bs, Nat.le_trans I.ok.bsz I.sz, fun b o e hb => ?_, fun b hb hb' => ?_, I.stack, I.stkFree⟩
 ·exact I.ok.inj x y c (clo_sub X.env.cells scope.names [] (by simp) x c h1) (clo_sub X.env.cells scope.names [] (by simp) y c h2)
 ·have hfree : scope.names.lookup x = some .free := by
   have hx : ((scope.names.map fun (n, k) => if (k == NameKind.free && X.env.scope.kind == .function && X.env.kindOf n == some .cell) then (n, NameKind.cell) else (n, k)).lookup x = some .cell) ∨
    ((scope.names.map fun (n, k) => if (k == NameKind.free && X.env.scope.kind == .function && X.env.kindOf n == some .cell) then (n, NameKind.cell) else (n, k)).lookup x = some .free) := hx
   rcases hx with hx | hx
   ·rcases relabel_look hx with z | z
    ·exact absurd rfl (hf' _ (PySem.mem_of_lookup z)).1
    ·exact z.1
   ·rcases relabel_look hx with z | z
    ·exact z
    ·exact z.1
  have hm := PySem.mem_of_lookup hfree
  obtain ⟨c, hc⟩ := I.ok.has x ((hf' _ hm).2 rfl)
  exact clo_has X.env.cells scope.names [] x hm ⟨c, hc⟩
 ·obtain ⟨h1, h2, h3, h4, h5⟩ := hex b hb
  exact ⟨Nat.ne_of_lt h5, fun x c e => h4 x c (clo_sub X.env.cells scope.names [] (by simp) x c e)⟩
 ·obtain ⟨h1, h2, h3, h4, h5⟩ := hex b hb
  rcases h1 with z | z
  ·exact I.ok.noex b o e z
  ·exact absurd (Nat.lt_of_lt_of_le (Heap.lt_size e) (Nat.le_trans I.ok.bsz z)) (Nat.lt_irrefl _)
 ·obtain ⟨h1, h2, h3, h4, h5⟩ := hex b hb
  rcases List.mem_cons.mp (I.stkSub b hb') with e | z
  ·exact h2 e
  ·exact h3 z
end
end L2


set_option Elab.async false
set_option linter.all false
set_option maxRecDepth 100000
set_option maxHeartbeats 4000000
namespace L2
open PySem PySem.Spec PyProof.Rows
section
variable {X : Cx} {elt tgt iter : Expr} {ifs : List Expr} {scope : Scope} {pos : Pos} {N' : List Str} {js : List (Option Nat)} {g : TG} {tt : TT} {te : TE}

structure FrC (X : Cx) (pins : List (Addr × Obj)) (H : Hp) (C : Addr) : Prop where
 no : H C = none
 ne : C ≠ X.env.locals
 up : X.s₀.heap.objs.size ≤ C
 cl : ∀ x c, X.env.cells.lookup x = some c → c ≠ C
 pn : ∀ p ∈ X.pn ++ pins, p.1 ≠ C
theorem FrC.turned {pins : List (Addr × Obj)} {σ : St} {H : Hp} {s : Shared} {C : Addr} {h' : Heap} (F : FrC X pins H C) (I : Inv X pins σ H s) (hs : Heap.SameBut C s.heap h') : Inv X pins σ H { s with heap := h' } :=
 I.turned (t' := s.toks) (fun b o hb e => (hs.2 b hb).trans e) F.no F.ne (.inr F.up) F.cl F.pn

noncomputable def GK (js : List (Option Nat)) (g : TG) : Prop := ∀ v σ H Q, g v σ H Q → g v σ H fun σ2 H2 => Q σ2 H2 ∧ ∀ (i j : Nat), js[i]? = some (some j) → σ2[i]? = σ[i]?
noncomputable def GKs (js : List (Option Nat)) (g : TGs) : Prop := ∀ v σ H Q, g v σ H Q → g v σ H fun σ2 H2 => Q σ2 H2 ∧ ∀ (i j : Nat), js[i]? = some (some j) → σ2[i]? = σ[i]?
theorem gk_name {js : List (Option Nat)} {k : Nat} (h : js[k]? = some none) : GK js (gName k) := fun v σ H Q q => by
 refine ⟨q, fun i j e => ?_⟩
 by_cases hk : k = i
 ·subst hk; rw [h] at e; cases e
 ·rw [List.getElem?_set_ne hk]
theorem gks_nil {js : List (Option Nat)} : GKs js gNil := fun vs σ H Q ⟨e, q⟩ => ⟨e, q, fun _ _ _ => rfl⟩
theorem gks_cons {js : List (Option Nat)} {t : TG} {u : TGs} (mono : ∀ v σ H Q Q', (∀ σ2 H2, Q σ2 H2 → Q' σ2 H2) → t v σ H Q → t v σ H Q') (monou : ∀ v σ H Q Q', (∀ σ2 H2, Q σ2 H2 → Q' σ2 H2) → u v σ H Q → u v σ H Q') (h1 : GK js t) (h2 : GKs js u) : GKs js (gCons t u) := fun vs σ H Q hx__ => by
 obtain ⟨v, r, e, q⟩ := hx__
 refine ⟨v, r, e, mono _ _ _ _ _ (fun σ2 H2 ⟨q2, k2⟩ => ?_) (h1 _ _ _ _ q)⟩
 exact monou _ _ _ _ _ (fun σ3 H3 ⟨q3, k3⟩ => ⟨q3, fun i j e => (k3 i j e).trans (k2 i j e)⟩) (h2 _ _ _ _ q2)
theorem gName_mono {k : Nat} : ∀ v σ H (Q Q' : St → Hp → Prop), (∀ σ2 H2, Q σ2 H2 → Q' σ2 H2) → gName k v σ H Q → gName k v σ H Q' := fun _ _ _ _ _ h q => h _ _ q
theorem gNil_mono : ∀ v σ H (Q Q' : St → Hp → Prop), (∀ σ2 H2, Q σ2 H2 → Q' σ2 H2) → gNil v σ H Q → gNil v σ H Q' := fun _ _ _ _ _ h q => ⟨q.1, h _ _ q.2⟩
theorem gCons_mono {k : Nat} {u : TGs} (hu : ∀ v σ H Q Q', (∀ σ2 H2, Q σ2 H2 → Q' σ2 H2) → u v σ H Q → u v σ H Q') : ∀ v σ H (Q Q' : St → Hp → Prop), (∀ σ2 H2, Q σ2 H2 → Q' σ2 H2) → gCons (gName k) u v σ H Q → gCons (gName k) u v σ H Q' :=
 fun _ _ _ _ _ h ⟨v, r, e, q⟩ => ⟨v, r, e, hu _ _ _ _ _ h q⟩
noncomputable def gTupD (n : Nat) (t : TGs) : TG := fun v σ H Q => ∃ a xs, v = .ref a ∧ H a = some (.tup xs) ∧ xs.length = n ∧ t xs σ H Q
theorem pg_tupD {X : Cx} {pos : Pos} {es : List Expr} {k : Nat} {t : TGs} {n : Nat} (hc : X.calm = true) (h : PGs X es t)
  (hn : (assignEach es X.env).length = n := by rfl) (hst : (assignEach es X.env).findIdx? (·.1) = none := by rfl) : PG X (.Tuple es k pos) (gTupD n t) := by
 intro pins s σ H v u Q I r hw
 obtain ⟨a, xs, e, hq, hl, q⟩ := hw
 exact pg_tup hc h hn hst pins s σ H v u Q I r ⟨a, xs, e, SqT.of hq, hl, q⟩
theorem gk_tup {js : List (Option Nat)} {n : Nat} {t : TGs} (h : GKs js t) : GK js (gTupD n t) := fun v σ H Q hx__ => by obtain ⟨a, xs, e, hq, hl, q⟩ := hx__; exact ⟨a, xs, e, hq, hl, h _ _ _ _ q⟩
theorem gks2 {js : List (Option Nat)} {i j : Nat} (h1 : js[i]? = some none) (h2 : js[j]? = some none) : GKs js (gCons (gName i) (gCons (gName j) gNil)) :=
 gks_cons gName_mono (gCons_mono gNil_mono) (gk_name h1) (gks_cons gName_mono gNil_mono (gk_name h2) gks_nil)
theorem pick_len {σ : St} : (pick σ js).length = js.length := by unfold pick; rw [List.length_map]

theorem lc_block {pins : List (Addr × Obj)} {σ : St} {H : Hp} {s : Shared} {it : Addr} {fp : List Addr} {tn : Nat → Heap → Prop} {J : It} {Q : VK} {E : Value → Shared → Prop} {RR : Value → Addr → Result → Shared → Prop}
  (hc : X.calm = true) (hkind : scope.kind = .function) (hf : freeOk X.env.scope scope = true) (hcap : capOk X.N X.env.scope N' scope js = true) (hgk : GK js g)
  (I : Inv X pins σ H s) (T : Turn X.prog X.w X.K tgt J fp it tn) (st : tn 0 s.heap) (hfp : ∀ b ∈ fp, FpOk X pins H b) (h : lcGo J js g tt te σ H Q)
  (hb : ∀ (s' : Shared) (H' : Hp) (ex : List Addr), PG (blk X N' scope s' H' ex) tgt g ∧ PF (blk X N' scope s' H' ex) ifs tt ∧ PE (blk X N' scope s' H' ex) elt te)
  (hRR : ∀ (l C : Addr) (s' : Shared) (m' : Str → Option Value) (H' : Hp) (acc : List V), Inv X pins σ (upd H' l (.lst acc)) s' → s'.heap.Ns C m' → FrC X pins (upd H' l (.lst acc)) C → Q (.ref l) (upd H' l (.lst acc)) → RR (.ref l) C (.ok .next) s') :
  wpAny (model X.prog X.w) X.A (newList []) (fun acc s₃ => wpAny (model X.prog X.w) X.A (newFunctionEnv scope X.env.globals (cloOf X.env.cells scope.names []) [] X.env.qual none .none (some X.env)) (fun cenv s₄ =>
   codeAny (model X.prog X.w) X.A (.compStart (.ListComp elt [⟨tgt, iter, ifs, 0⟩] scope pos) 0 (.ref it) acc { cenv with scope := relabel scope X.env }) (RR acc cenv.locals) s₄) E s₃) E s := by
 have hcell : ∀ y ∈ scope.names, y.2 ≠ .cell := fun y hy => by
  have := List.all_eq_true.mp hf y hy
  simp only [Bool.and_eq_true, bne_iff_ne] at this
  exact this.1.1
 have hz0 : (([] : List V)).length ≤ sizeLine := Nat.zero_le _
 refine wpAny_newObj_type (wpAny_newFunctionEnv hcell (by intro y hy; simp at hy) (fun h₁ hns₁ hsb₁ => ?_) hkind)
 dsimp only at hns₁ hsb₁ ⊢
 -- the maker, the new list laid untracked
 have I3 : Inv X pins σ H { s with heap := s.heap.push { cls := .type "list", dict := none, data := .seq ([] : List Value).toArray } } := I.kept (t' := s.toks) fun b o e => Heap.get?_push_of_some _ e
 have hl3 : (s.heap.push { cls := .type "list", dict := none, data := .seq ([] : List Value).toArray }).get? s.heap.objs.size = some { cls := .type "list", dict := none, data := .seq ([] : List Value).toArray } := Heap.get?_push_size _ rfl
 have old3 : ∀ b o, s.heap.get? b = some o → (s.heap.push { cls := .type "list", dict := none, data := .seq ([] : List Value).toArray }).get? b = some o := fun b o e => Heap.get?_push_of_some _ e
 have sz3 : (s.heap.push { cls := .type "list", dict := none, data := .seq ([] : List Value).toArray }).objs.size = s.heap.objs.size + 1 := Heap.size_push ..
 generalize (s.heap.push { cls := .type "list", dict := none, data := .seq ([] : List Value).toArray }) = H3 at *
 generalize hs3 : ({ s with heap := H3 } : Shared) = s3 at *
 have hh3 : s3.heap = H3 := by rw [← hs3]
 have hl : H s.heap.objs.size = none := I.hok.fresh (Nat.le_refl _)
 have fplt : ∀ b ∈ fp, b < s.heap.objs.size := fun b hb => by obtain ⟨o, e, _⟩ := T.obj _ _ st b hb; exact Heap.lt_size e
 have lL : s.heap.objs.size ≠ X.env.locals := Nat.ne_of_gt I.lt
 have lfs : s.heap.objs.size ∉ X.fs := I.nofs (Nat.le_refl _)
 have lc : ∀ x c, X.env.cells.lookup x = some c → c ≠ s.heap.objs.size := fun x c e => by obtain ⟨v, q⟩ := I.cell x c e; exact Nat.ne_of_lt q.lt
 have lp : ∀ p ∈ X.pn ++ pins, p.1 ≠ s.heap.objs.size := fun p hp => Nat.ne_of_lt (Heap.lt_size (I.pin p hp).1)
 have hex : ∀ b ∈ s.heap.objs.size :: fp, (b ∈ X.ex ∨ X.s₀.heap.objs.size ≤ b) ∧ b ≠ X.env.locals ∧ b ∉ X.fs ∧ (∀ x c, X.env.cells.lookup x = some c → c ≠ b) ∧ b < s3.heap.objs.size := fun b hb => by
  rw [hh3, sz3]
  rcases List.mem_cons.mp hb with e | hb
  ·rw [e]; exact ⟨.inr I.sz, lL, lfs, lc, Nat.lt_succ_self _⟩
  ·obtain ⟨f0, f1, f2, f3, f4, f5⟩ := hfp b hb
   exact ⟨f3, f1, f2, f4, Nat.lt_succ_of_lt (fplt b hb)⟩
 have hexp : ∀ b ∈ s.heap.objs.size :: fp, ∀ p ∈ X.pn ++ pins, p.1 ≠ b := fun b hb => by
  rcases List.mem_cons.mp hb with e | hb
  ·rw [e]; exact lp
  ·exact (hfp b hb).2.2.2.2.2
 -- the block
 have OK : (blk X N' scope s3 H (s.heap.objs.size :: fp)).Ok := blk_ok I3 hkind hf hex
 have clsub := clo_sub X.env.cells scope.names [] (by simp)
 have eC : H3.objs.size = s3.heap.objs.size := by rw [hh3]
 have keep1 : ∀ b o, s3.heap.get? b = some o → h₁.get? b = some o := fun b o e => hsb₁.extBut b o (by rw [eC]; exact Nat.ne_of_lt (Heap.lt_size e)) (Heap.get?_push_of_some _ (by rw [← hh3]; exact e))
 have capL : N'.length = js.length := by
  have := (Bool.and_eq_true _ _).mp hcap
  simpa using this.1
 have capA : ∀ (i : Nat) (x : Str) (v : V), N'[i]? = some x → (pick σ js)[i]? = some (some v) → ∃ i0, σ[i0]? = some (some v) ∧ X.N[i0]? = some x ∧ (X.env.scope.names.lookup x = some .cell ∨ X.env.scope.names.lookup x = some .free) ∧ scope.names.lookup x = some .free := fun i x v e1 e2 => by
  have ha := List.all_eq_true.mp ((Bool.and_eq_true _ _).mp hcap).2
  unfold pick at e2
  rw [List.getElem?_map] at e2
  cases ej : js[i]? with
  | none => rw [ej] at e2; cases e2
  | some j =>
   rw [ej] at e2
   have hm : (x, j) ∈ N'.zip js := List.mem_of_getElem? (i := i) (by rw [List.getElem?_zip_eq_some]; exact ⟨e1, ej⟩)
   have hp := ha _ hm
   cases j with
   | none => simp at e2
   | some i0 =>
    simp only [Bool.and_eq_true, Bool.or_eq_true, decide_eq_true_eq] at hp
    refine ⟨i0, ?_, hp.1.1, hp.1.2, hp.2⟩
    simp only [Option.map_some, Option.some.injEq] at e2
    cases q : σ[i0]? with
    | none => rw [q] at e2; simp at e2
    | some z => rw [q] at e2; simp at e2; rw [e2]
 have Cf : ∀ {H' : Hp} {s' : Shared}, HOk X.prog X.w H' s'.heap → s'.heap.objs.size ≤ s3.heap.objs.size → H' s3.heap.objs.size = none := fun ok z => ok.fresh z
 have I4 : Inv (blk X N' scope s3 H (s.heap.objs.size :: fp)) [(s.heap.objs.size, { cls := .type "list", dict := none, data := .seq ([] : List Value).toArray })] (pick σ js) H { s3 with heap := h₁, toks := s3.toks + ([] : List (Str × Value)).length } := by
  refine ⟨OK, rfl, I3.bare, Un.kept keep1, ⟨_, by have z := hns₁; rw [eC] at z; exact z, fun i x v e1 e2 e3 => ?_⟩, fun x c e => ?_, I3.hok.fresh (Nat.le_refl _), fun x c e => I.freeC x c (clsub x c e), fun p hp => ?_, I3.hok.kept keep1, ?_⟩
  ·obtain ⟨i0, q1, q2, q3, q4⟩ := capA i x v e1 e2
   obtain ⟨m, hn, hlo⟩ := I3.loc
   obtain ⟨u, r, lk⟩ := hlo i0 x v q2 q1 (.inr q3)
   refine ⟨u, r, .inr ?_⟩
   have hk' : X.env.kindOf x = some .cell ∨ X.env.kindOf x = some .free := q3
   rcases lk with ⟨k, _⟩ | ⟨_, c, hcc, hcell'⟩
   ·rcases hk' with z | z <;> (rw [z] at k; cases k)
   ·obtain ⟨c', hc'⟩ := clo_has X.env.cells scope.names [] x (PySem.mem_of_lookup q4) ⟨c, hcc⟩
    have : c' = c := Option.some.inj ((clsub x c' hc').symm.trans hcc)
    subst this
    refine ⟨?_, c', hc', ?_⟩
    ·rcases relabel_free (env := X.env) q4 with z | z
     ·exact .inl z
     ·exact .inr z
    ·obtain ⟨o, e, d⟩ := hcell'
     exact ⟨o, keep1 _ _ e, d⟩
  ·obtain ⟨v, o, e', d⟩ := I3.cell x c (clsub x c e)
   exact ⟨v, o, keep1 _ _ e', d⟩
  ·have e : p = (s.heap.objs.size, { cls := .type "list", dict := none, data := .seq ([] : List Value).toArray }) := by simpa [blk] using hp
   subst e
   refine ⟨keep1 _ _ (by rw [hh3]; exact hl3), hl, ?_, ?_, fun v z => by cases z⟩
   ·show s.heap.objs.size ≠ s3.heap.objs.size
    rw [hh3, sz3]; exact Nat.ne_of_lt (Nat.lt_succ_self _)
   ·exact fun z => by
     rcases List.mem_cons.mp (I.stkSub _ z) with e | z
     ·exact lL e
     ·exact lfs z
  ·rw [pick_len]; exact capL.symm
 obtain ⟨W, ⟨m0, w0⟩, turn⟩ := h
 have stat : ∀ {ob : Obj} {H' : Hp}, (∀ b ∈ fp, H' b = none) → ∀ b ∈ fp, FpOk (blk X N' scope s3 H (s.heap.objs.size :: fp)) [(s.heap.objs.size, ob)] H' b := fun {ob H'} hn b hb => by
  obtain ⟨f0, f1, f2, f3, f4, f5⟩ := hfp b hb
  refine ⟨hn b hb, ?_, fun z => ?_, .inl (List.mem_cons_of_mem _ hb), fun x c e => f4 x c (clsub x c e), fun p hp => ?_⟩
  ·show b ≠ s3.heap.objs.size
   rw [hh3, sz3]; exact Nat.ne_of_lt (Nat.lt_succ_of_lt (fplt b hb))
  ·rcases List.mem_cons.mp (I.stkSub _ z) with e | z
   ·exact f1 e
   ·exact f2 z
  ·have e : p = (s.heap.objs.size, ob) := by simpa [blk] using hp
   subst e
   exact Nat.ne_of_gt (fplt b hb)
 have loop : ∀ s₅ : Shared, s₅ = { s3 with heap := h₁, toks := s3.toks + ([] : List (Str × Value)).length } →
   codeAny (model X.prog X.w) X.A (.compLoop (.ListComp elt [⟨tgt, iter, ifs, 0⟩] scope pos) 0 (.ref it) (.ref s.heap.objs.size) (compEnvC scope (cloOf X.env.cells scope.names []) s3.heap.objs.size X.env))
    (RR (.ref s.heap.objs.size) s3.heap.objs.size) s₅ := by
  rintro s₅ rfl
  refine compLoop_gen (fun n s' => ∃ (i : Nat) (acc : List V) (its : List Value) (k : Nat) (H' : Hp), Vals acc its ∧ Inv (blk X N' scope s3 H (s.heap.objs.size :: fp)) [(s.heap.objs.size, { cls := .type "list", data := .seq its.toArray k })] (pick σ js) H' s' ∧
   tn i s'.heap ∧ (∀ b ∈ fp, H' b = none) ∧ W i n acc H') ?_ m0 ⟨0, [], [], 0, H, .nil, I4, T.keep _ _ _ st (fun b hb o e => keep1 b o (by rw [hh3]; exact old3 b o e)), fun b hb => (hfp b hb).1, w0⟩
  rintro n s' ⟨i, acc, its, k, H', rv, J1, st1, fr1, w1⟩
  rcases turn i n acc H' w1 with ⟨stop, hz, qn⟩ | ⟨go, hz, step⟩
  ·refine thn (T.done (blk X N' scope s3 H (s.heap.objs.size :: fp)) rfl rfl rfl hc i _ s' _ H' (fun _ _ => False) J1 (stat fr1) st1 stop) fun r s4 hx__ => ?_
   obtain ⟨hr, I5⟩ := hx__
   subst hr
   obtain ⟨pe, pn, _⟩ := I5.pin (s.heap.objs.size, { cls := .type "list", data := .seq its.toArray k }) (by simp [blk])
   have IX : Inv X pins σ H' s4 := I3.call' I5.os I5.base I5.hok I5.bare fun b hb => by
    obtain ⟨h1, h2, h3, h4, h5⟩ := hex b hb
    exact ⟨h1, h2, h4, hexp b hb⟩
   have IY : Inv X pins σ (upd H' s.heap.objs.size (.lst acc)) s4 := IX.adopt pn lL (.inr I.sz) lc lp ⟨hz, its, k, rv, pe⟩
   obtain ⟨m', hm', _⟩ := I5.loc
   refine hRR _ _ s4 m' H' acc IY hm' ⟨?_, ?_, ?_, ?_, ?_⟩ (qn _ pn)
   ·rw [upd_ne (by rw [hh3, sz3]; exact Nat.ne_of_gt (Nat.lt_succ_self _))]
    exact I5.free
   ·rw [hh3, sz3]; exact Nat.ne_of_gt (Nat.lt_succ_of_lt I.lt)
   ·rw [hh3, sz3]; exact Nat.le_succ_of_le I.sz
   ·exact fun x c e => by
     obtain ⟨v, q⟩ := I.cell x c e
     rw [hh3, sz3]; exact Nat.ne_of_lt (Nat.lt_succ_of_lt q.lt)
   ·exact fun p hp => by rw [hh3, sz3]; exact Nat.ne_of_lt (Nat.lt_succ_of_lt (Heap.lt_size (I.pin p hp).1))
  ·refine thn (T.item (blk X N' scope s3 H (s.heap.objs.size :: fp)) rfl rfl rfl hc i _ s' _ H' (fun _ _ => False) J1 (stat fr1) st1 go) fun r s4 hx__ => ?_
   obtain ⟨u, hr, h4⟩ := hx__
   subst hr
   refine thn h4 fun _ s5 hx__ => ?_
   obtain ⟨x, H5, I5, r5, y5, st5, fr5⟩ := hx__
   have I5' := I5.pinned (stat fr5) (T.obj _ _ st5)
   obtain ⟨hg, ht, he⟩ := hb s3 H (s.heap.objs.size :: fp)
   refine thn (hg _ s5 _ H5 x u _ I5' r5 (hgk _ _ _ _ (step x H5 y5))) fun _ s6 hx__ => ?_
   obtain ⟨σ6, H6, I6, q6, kk6⟩ := hx__
   refine thn (ht _ s6 σ6 H6 _ I6 q6) fun b s7 hx__ => ?_
   obtain ⟨H7, I7, q7⟩ := hx__
   have fin : ∀ {σ8 : St} {H8 : Hp} {s8 : Shared}, Inv (blk X N' scope s3 H (s.heap.objs.size :: fp)) ([(s.heap.objs.size, { cls := .type "list", data := .seq its.toArray k })] ++ pinsAt fp s5.heap) σ8 H8 s8 →
     tn (i + 1) s8.heap ∧ (∀ b ∈ fp, H8 b = none) := fun {σ8 H8 s8} I8 => by
    refine ⟨T.keep _ _ _ st5 fun b hb o e => (I8.pin (b, o) (List.mem_append_right _ (List.mem_append_right _ (mem_pinsAt hb e)))).1, fun b hb => ?_⟩
    obtain ⟨o, e, d⟩ := T.obj _ _ st5 b hb
    exact (I8.pin (b, o) (List.mem_append_right _ (List.mem_append_right _ (mem_pinsAt hb e)))).2.1
   have wk : ∀ {H8 : Hp} {s8 : Shared} {pl : List (Addr × Obj)}, Inv (blk X N' scope s3 H (s.heap.objs.size :: fp)) pl σ6 H8 s8 → Inv (blk X N' scope s3 H (s.heap.objs.size :: fp)) pl (pick σ js) H8 s8 :=
    fun I8 => I8.weak (by rw [pick_len, I8.len]; exact capL.symm) fun i v e => by
     have e' := e
     unfold pick at e'
     rw [List.getElem?_map] at e'
     cases ej : js[i]? with
     | none => rw [ej] at e'; cases e'
     | some j =>
      cases j with
      | none => rw [ej] at e'; simp at e'
      | some j => rw [kk6 i j ej]; exact e
   have pinl : ∀ {H8 : Hp} {s8 : Shared}, Inv (blk X N' scope s3 H (s.heap.objs.size :: fp)) ([(s.heap.objs.size, { cls := .type "list", data := .seq its.toArray k })] ++ pinsAt fp s5.heap) σ6 H8 s8 →
     s8.heap.get? s.heap.objs.size = some { cls := .type "list", data := .seq its.toArray k } ∧ H8 s.heap.objs.size = none := fun I8 => by
    obtain ⟨a1, a2, _⟩ := I8.pin (s.heap.objs.size, { cls := .type "list", data := .seq its.toArray k }) (List.mem_append_right _ (List.mem_append_left _ (List.mem_singleton.mpr rfl)))
    exact ⟨a1, a2⟩
   have lblk : s.heap.objs.size ≠ s3.heap.objs.size := by rw [hh3, sz3]; exact Nat.ne_of_lt (Nat.lt_succ_self _)
   have lbfs : s.heap.objs.size ∉ frs X.stack := fun z => by
    rcases List.mem_cons.mp (I.stkSub _ z) with e | z
    ·exact lL e
    ·exact lfs z
   cases b with
   | false =>
    obtain ⟨m', hm', w'⟩ := q7
    obtain ⟨t8, f8⟩ := fin I7
    exact ⟨m', hm', i + 1, acc, its, k, H7, rv, (wk I7).pins_of (fun p hp => by
     have e : p = (s.heap.objs.size, { cls := .type "list", data := .seq its.toArray k }) := by simpa using hp
     subst e
     exact ⟨(pinl I7).1, (pinl I7).2, lblk, lbfs, fun v z => by cases z⟩), t8, f8, w'⟩
   | true =>
    rw [if_pos rfl]
    refine thn (he _ s7 σ6 H7 _ I7 q7) fun y s8 hx__ => ?_
    obtain ⟨v, H8, I8, r8, m', hm', w'⟩ := hx__
    obtain ⟨t8, f8⟩ := fin I8
    obtain ⟨pl1, pl2⟩ := pinl I8
    have hlen := rv.length
    refine append_at (hsz := by show its.toArray.size ≤ sizeLine; rw [List.size_toArray, ← hlen]; exact Nat.le_of_lt hz) pl1 fun h9 hs9 hD9 => ?_
    have J0 : Inv (blk X N' scope s3 H (s.heap.objs.size :: fp)) [] (pick σ js) H8 s8 := (wk I8).pins_of fun p hp => absurd hp (by simp)
    have J9 : Inv (blk X N' scope s3 H (s.heap.objs.size :: fp)) [] (pick σ js) H8 { s8 with heap := h9 } :=
     J0.turned (t' := s8.toks) (it := s.heap.objs.size) (fun b o hb e => (hs9.2 b hb).trans e) pl2 lblk (.inl List.mem_cons_self) (fun x c e => lc x c (clsub x c e)) (fun p hp => absurd hp (by simp [blk]))
    refine ⟨m', hm', i + 1, acc ++ [v], its ++ [y], k + 1, H8, rv.append (.cons r8 .nil), J9.pins_of (fun p hp => ?_), T.keep _ _ _ t8 (fun b hb o e => (hs9.2 b (Nat.ne_of_lt (fplt b hb))).trans e), f8, w'⟩
    have e : p = (s.heap.objs.size, { cls := .type "list", data := .seq (its ++ [y]).toArray (k + 1) }) := by simpa using hp
    subst e
    refine ⟨?_, pl2, lblk, lbfs, fun v z => by cases z⟩
    show h9.get? _ = _
    rw [hD9]
    simp
 subst hs3
 exact codeAny_compStart_list (loop _ rfl) (T.self _ 0 _ _ _ (T.keep _ _ _ st (fun b hb o e => keep1 b o (by rw [hh3]; exact old3 b o e))) (loop _ rfl))

theorem pe_lc {wi : TI} (hc : X.calm = true) (hi : PI X tgt iter wi) (hcap : capOk X.N X.env.scope N' scope js = true) (hgk : GK js g) (hf : freeOk X.env.scope scope = true) (hkind : scope.kind = .function)
  (hb : ∀ (s' : Shared) (H' : Hp) (ex : List Addr), PG (blk X N' scope s' H' ex) tgt g ∧ PF (blk X N' scope s' H' ex) ifs tt ∧ PE (blk X N' scope s' H' ex) elt te)
  (hs : ∀ x, foldedSetIterable iter X.env x = pure x := by intro _; rfl) : PE X (.ListComp elt [⟨tgt, iter, ifs, 0⟩] scope pos) (tLC wi js g tt te) := by
 intro pins s σ H Q I h
 have hnames : ∀ y ∈ scope.names, y.2 = .local → scope.names.lookup y.1 = some .local := fun y hy e => by
  have := List.all_eq_true.mp hf y hy
  simp only [Bool.and_eq_true, Bool.or_eq_true, bne_iff_ne, ne_eq, decide_eq_true_eq] at this
  exact this.2.resolve_left fun z => z e
 have hclos : closureFor scope X.env = pure (cloOf X.env.cells scope.names []) := clo_eq fun y hy e => by
  have := List.all_eq_true.mp hf y hy
  simp only [Bool.and_eq_true, Bool.or_eq_true, bne_iff_ne, ne_eq, decide_eq_true_eq] at this
  exact I.ok.has y.1 (this.1.2.resolve_left fun z => z e)
 rw [eval_ListComp]
 refine wpAny_comprehension_free (use := none) rfl hs hclos hkind hnames (thn (hi pins s σ H _ I h) fun v s1 h1 => thn h1 fun itv s2 h2 => ?_)
 obtain ⟨it, fp, tn, J, H2, e, I2, T, st2, f2, go⟩ := h2
 subst e
 refine lc_block (Q := Q) hc hkind hf hcap hgk I2 T st2 f2 go hb ?_
 intro l C s' m' H' acc IY hn F q
 exact ⟨m', hn, fun h' hs' => ⟨.ref l, _, F.turned IY hs', rfl, q⟩⟩

theorem ps_setLC {wi : TI} {i : Nat} {y : Str} {py spos : Pos} (hN : X.N.Nodup) (hiy : X.N[i]? = some y) (hy : Loc X.env.scope y)
  (hc : X.calm = true) (hi : PI X tgt iter wi) (hcap : capOk X.N X.env.scope N' scope js = true) (hgk : GK js g) (hf : freeOk X.env.scope scope = true) (hkind : scope.kind = .function)
  (hb : ∀ (s' : Shared) (H' : Hp) (ex : List Addr), PG (blk X N' scope s' H' ex) tgt g ∧ PF (blk X N' scope s' H' ex) ifs tt ∧ PE (blk X N' scope s' H' ex) elt te)
  (hsw : swapsWith (.ListComp elt [⟨tgt, iter, ifs, 0⟩] scope pos) (some (.Name y py)) spos.line X.env = pure true := by rfl)
  (hs : ∀ x, foldedSetIterable iter X.env x = pure x := by intro _; rfl) (hfn : X.fn y = true ∨ X.env.scope.names.lookup y = some .local := by first | exact .inl rfl | exact .inr rfl | assumption) :
  PS X (.Assign [.Name y py] (.ListComp elt [⟨tgt, iter, ifs, 0⟩] scope pos) spos) (tAsg (tLC wi js g tt te) (gName i)) := by
 intro pins s σ H D I h
 have hnames : ∀ y ∈ scope.names, y.2 = .local → scope.names.lookup y.1 = some .local := fun y hy e => by
  have := List.all_eq_true.mp hf y hy
  simp only [Bool.and_eq_true, Bool.or_eq_true, bne_iff_ne, ne_eq, decide_eq_true_eq] at this
  exact this.2.resolve_left fun z => z e
 have hclos : closureFor scope X.env = pure (cloOf X.env.cells scope.names []) := clo_eq fun y hy e => by
  have := List.all_eq_true.mp hf y hy
  simp only [Bool.and_eq_true, Bool.or_eq_true, bne_iff_ne, ne_eq, decide_eq_true_eq] at this
  exact I.ok.has y.1 (this.1.2.resolve_left fun z => z e)
 rw [exec_Assign_Name_used _ _ _ _ hsw]
 refine wpAny_bind (wpAny_standAt (wpAny_bind ?_))
 show wpAny _ X.A (do let _ ← comprehension (.ListComp elt [⟨tgt, iter, ifs, 0⟩] scope pos) scope X.env _ (newList []) false (eval iter X.env) (some (assign (.Name y py) X.env))) _ _ s
 refine wpAny_bind (wpAny_mono (wpAny_comprehension_free (use := some (assign (.Name y py) X.env)) (Q := fun _ s' => SP X pins D .next s') rfl hs hclos hkind hnames
  (thn (hi pins s σ H _ I h) fun v s1 h1 => thn h1 fun itv s2 h2 => ?_)) (fun _ s' hq => wpAny_pure (wpAny_pure hq)) fun _ _ e => e)
 obtain ⟨it, fp, tn, J, H2, e, I2, T, st2, f2, go⟩ := h2
 subst e
 refine lc_block (Q := fun x H1 => gName i x σ H1 D.nx) hc hkind hf hcap hgk I2 T st2 f2 go hb ?_
 intro l C s' m' H' acc IY hn F q
 show wpAny _ X.A (assign (.Name y py) X.env (.ref l)) _ _ s'
 refine wpAny_assign_Name (store_ok2 IY hN hiy hy (v := .ref l) rfl (fun s4 I4 ⟨a, hsb, ha⟩ => ?_) hfn)
 have Ca : C ≠ a := by
  rcases ha with e | e
  ·rw [e]; exact F.ne
  ·exact fun z => F.cl y a e z.symm
 exact ⟨m', hn.sameBut hsb Ca, fun h' hs' => ⟨_, _, F.turned I4 hs', q⟩⟩
end
end L2


set_option Elab.async false
set_option linter.all false
set_option maxRecDepth 100000
set_option maxHeartbeats 4000000
namespace L2
open PySem PySem.Spec PyProof.Rows

mutual
inductive Dn (H : Hp) (P : Addr → Prop) : V → PyData → Prop where
 | non : Dn H P .non .none
 | bl (b : Bool) : Dn H P (.bl b) (.bool b)
 | int (i : Int) : Dn H P (.int i) (.int i)
 | str (x : Str) : Dn H P (.str x) (.str x)
 | lst {a : Addr} {xs : List V} {ds : List PyData} : ¬ P a → H a = some (.lst xs) → Dns H P xs ds → Dn H P (.ref a) (.list ds)
 | tup {a : Addr} {xs : List V} {ds : List PyData} : ¬ P a → H a = some (.tup xs) → Dns H P xs ds → Dn H P (.ref a) (.tuple ds)
inductive Dns (H : Hp) (P : Addr → Prop) : List V → List PyData → Prop where
 | nil : Dns H P [] []
 | cons {x : V} {d : PyData} {xs : List V} {ds : List PyData} : Dn H P x d → Dns H P xs ds → Dns H P (x :: xs) (d :: ds)
end
noncomputable def SameX (P : Addr → Prop) (H H' : Hp) : Prop := ∀ b o, H b = some o → ¬ P b → H' b = some o
theorem SameX.refl {P : Addr → Prop} {H : Hp} : SameX P H H := fun _ _ h _ => h
theorem SameX.trans {P : Addr → Prop} {H H1 H2 : Hp} (a : SameX P H H1) (b : SameX P H1 H2) : SameX P H H2 := fun c o h n => b c o (a c o h n) n
theorem Same.x {P : Addr → Prop} {H H' : Hp} (h : Same H H') : SameX P H H' := fun b o e _ => h b o e
theorem SameX.sub {P P' : Addr → Prop} {H H' : Hp} (h : SameX P H H') (hs : ∀ a, P a → P' a) : SameX P' H H' := fun b o e n => h b o e fun z => n (hs b z)
theorem Same.new {H : Hp} {p : Addr} {o : HO} (hn : H p = none) : Same H (upd H p o) := fun b u e => by rw [upd_ne (ne_of_none e hn)]; exact e
theorem SameX.new {P : Addr → Prop} {H : Hp} {p : Addr} {o : HO} (hn : H p = none) : SameX P H (upd H p o) := (Same.new hn).x
theorem SameX.put {P : Addr → Prop} {H : Hp} {p : Addr} {o : HO} (hp : P p) : SameX P H (upd H p o) := fun b u e n => by rw [upd_ne (fun z => n (by rw [z]; exact hp))]; exact e

theorem Dn.mapX {P P' : Addr → Prop} {H H' : Hp} (m : ∀ a o, H a = some o → ¬ P a → H' a = some o ∧ ¬ P' a) {v : V} {d : PyData} (h : Dn H P v d) : Dn H' P' v d :=
 Dn.rec (motive_1 := fun v d _ => Dn H' P' v d) (motive_2 := fun v d _ => Dns H' P' v d) .non .bl .int .str (fun n h _ ih => .lst (m _ _ h n).2 (m _ _ h n).1 ih) (fun n h _ ih => .tup (m _ _ h n).2 (m _ _ h n).1 ih) .nil (fun _ _ a b => .cons a b) h
theorem Dns.mapX {P P' : Addr → Prop} {H H' : Hp} (m : ∀ a o, H a = some o → ¬ P a → H' a = some o ∧ ¬ P' a) {v : List V} {d : List PyData} (h : Dns H P v d) : Dns H' P' v d :=
 Dns.rec (motive_1 := fun v d _ => Dn H' P' v d) (motive_2 := fun v d _ => Dns H' P' v d) .non .bl .int .str (fun n h _ ih => .lst (m _ _ h n).2 (m _ _ h n).1 ih) (fun n h _ ih => .tup (m _ _ h n).2 (m _ _ h n).1 ih) .nil (fun _ _ a b => .cons a b) h
theorem Dn.mono {P : Addr → Prop} {H H' : Hp} (e : SameX P H H') {v : V} {d : PyData} (h : Dn H P v d) : Dn H' P v d := h.mapX fun a o x n => ⟨e a o x n, n⟩
theorem Dns.mono {P : Addr → Prop} {H H' : Hp} (e : SameX P H H') {v : List V} {d : List PyData} (h : Dns H P v d) : Dns H' P v d := h.mapX fun a o x n => ⟨e a o x n, n⟩
theorem Dn.weak {P P' : Addr → Prop} {H : Hp} (e : ∀ a, P' a → P a) {v : V} {d : PyData} (h : Dn H P v d) : Dn H P' v d := h.mapX fun a _ x n => ⟨x, fun z => n (e a z)⟩
theorem Dns.weak {P P' : Addr → Prop} {H : Hp} (e : ∀ a, P' a → P a) {v : List V} {d : List PyData} (h : Dns H P v d) : Dns H P' v d := h.mapX fun a _ x n => ⟨x, fun z => n (e a z)⟩
theorem Dn.plain {P : Addr → Prop} {H : Hp} {v : V} {d : PyData} (h : Dn H P v d) : Dn H (fun _ => False) v d := h.weak fun _ z => z.elim
theorem Dns.length {P : Addr → Prop} {H : Hp} : ∀ {xs : List V} {ds : List PyData}, Dns H P xs ds → xs.length = ds.length
 | _, _, .nil => rfl
 | _, _, .cons _ t => by simp [Dns.length t]
theorem Dns.get {P : Addr → Prop} {H : Hp} : ∀ {xs : List V} {ds : List PyData} {i : Nat} {d : PyData}, Dns H P xs ds → ds[i]? = some d → ∃ v, xs[i]? = some v ∧ Dn H P v d
 | _, _, _, _, .nil, e => by simp at e
 | _, _, 0, _, .cons a _, e => by simp at e; subst e; exact ⟨_, rfl, a⟩
 | _, _, i + 1, d, .cons _ t, e => by
  obtain ⟨v, h1, h2⟩ := Dns.get (i := i) (d := d) t (by simpa using e)
  exact ⟨v, by simpa using h1, h2⟩
theorem Dns.getV {P : Addr → Prop} {H : Hp} : ∀ {xs : List V} {ds : List PyData} {i : Nat} {v : V}, Dns H P xs ds → xs[i]? = some v → ∃ d, ds[i]? = some d ∧ Dn H P v d
 | _, _, _, _, .nil, e => by simp at e
 | _, _, 0, _, .cons a _, e => by simp at e; subst e; exact ⟨_, rfl, a⟩
 | _, _, i + 1, d, .cons _ t, e => by
  obtain ⟨v, h1, h2⟩ := Dns.getV (i := i) (v := d) t (by simpa using e)
  exact ⟨v, by simpa using h1, h2⟩
theorem Dns.app {P : Addr → Prop} {H : Hp} : ∀ {xs ys : List V} {ds es : List PyData}, Dns H P xs ds → Dns H P ys es → Dns H P (xs ++ ys) (ds ++ es)
 | _, _, _, _, .nil, s => s
 | _, _, _, _, .cons r t, s => .cons r (Dns.app t s)
theorem Dns.take {P : Addr → Prop} {H : Hp} : ∀ {xs : List V} {ds : List PyData} (n : Nat), Dns H P xs ds → Dns H P (xs.take n) (ds.take n)
 | _, _, 0, _ => .nil
 | _, _, _ + 1, .nil => .nil
 | _, _, n + 1, .cons r t => .cons r (Dns.take n t)
theorem Dns.drop {P : Addr → Prop} {H : Hp} : ∀ {xs : List V} {ds : List PyData} (n : Nat), Dns H P xs ds → Dns H P (xs.drop n) (ds.drop n)
 | _, _, 0, r => r
 | _, _, _ + 1, .nil => .nil
 | _, _, n + 1, .cons _ t => Dns.drop n t
theorem Dns.rev {P : Addr → Prop} {H : Hp} : ∀ {xs : List V} {ds : List PyData}, Dns H P xs ds → Dns H P xs.reverse ds.reverse
 | _, _, .nil => .nil
 | _, _, .cons r t => by rw [List.reverse_cons, List.reverse_cons]; exact Dns.app (Dns.rev t) (.cons r .nil)
theorem Dns.ints {P : Addr → Prop} {H : Hp} : ∀ {xs : List V} {ns : List Int}, Dns H P xs (ns.map PyData.int) → xs = ns.map V.int
 | _, [], h => by cases h; rfl
 | _, n :: ns, h => by
  cases h with
  | cons a t => cases a; rw [Dns.ints t]; rfl
theorem Dns.ofInts {P : Addr → Prop} {H : Hp} : ∀ (ns : List Int), Dns H P (ns.map V.int) (ns.map PyData.int)
 | [] => .nil
 | n :: ns => .cons (.int n) (Dns.ofInts ns)
theorem Dn.newL {P : Addr → Prop} {H : Hp} {p : Addr} {xs : List V} {ds : List PyData} (hn : H p = none) (np : ¬ P p) (h : Dns H P xs ds) : Dn (upd H p (.lst xs)) P (.ref p) (.list ds) :=
 .lst np upd_same (h.mono (SameX.new hn))
theorem Dn.newT {P : Addr → Prop} {H : Hp} {p : Addr} {xs : List V} {ds : List PyData} (hn : H p = none) (np : ¬ P p) (h : Dns H P xs ds) : Dn (upd H p (.tup xs)) P (.ref p) (.tuple ds) :=
 .tup np upd_same (h.mono (SameX.new hn))
theorem Dn.ofL {P P' : Addr → Prop} {H : Hp} {p : Addr} {xs : List V} {ds : List PyData} (hp : H p = some (.lst xs)) (np : ¬ P' p) (hs : ∀ a, P' a → P a) (h : Dns H P xs ds) : Dn H P' (.ref p) (.list ds) :=
 .lst np hp (h.weak hs)

section
variable {X : Cx} {pins : List (Addr × Obj)} {σ : St} {H : Hp} {s : Shared} {P : Addr → Prop}
theorem rd_a (I : Inv X pins σ H s) : (∀ u, RelV .non u → ∃ as, Reads s.heap u .none as) ∧ (∀ b u, RelV (.bl b) u → ∃ as, Reads s.heap u (.bool b) as) ∧ (∀ i u, RelV (.int i) u → ∃ as, Reads s.heap u (.int i) as) ∧ (∀ x u, RelV (.str x) u → ∃ as, Reads s.heap u (.str x) as) :=
 ⟨fun u r => by cases r; exact ⟨_, .none⟩, fun b u r => by cases r; exact ⟨_, .bool b⟩, fun i u r => by obtain ⟨t, rfl⟩ := r; exact ⟨_, .int i t⟩, fun x u r => by obtain ⟨t, rfl⟩ := r; exact ⟨_, .str x t⟩⟩
theorem rd_l (I : Inv X pins σ H s) {a : Addr} {xs : List V} {ds : List PyData} (_ : ¬ P a) (h : H a = some (.lst xs)) (_ : Dns H P xs ds) (ih : ∀ u, Vals xs u → ∃ as, ReadsAll s.heap u ds as) (u : Value) (r : RelV (.ref a) u) : ∃ as, Reads s.heap u (.list ds) as := by
 cases r
 obtain ⟨its, rv, ⟨o, n, e, c, _, d⟩, _⟩ := I.list (SqL.of h)
 obtain ⟨as, q⟩ := ih _ rv
 exact ⟨_, reads_list_at e c d (by simpa using q)⟩
theorem rd_t (I : Inv X pins σ H s) {a : Addr} {xs : List V} {ds : List PyData} (_ : ¬ P a) (h : H a = some (.tup xs)) (_ : Dns H P xs ds) (ih : ∀ u, Vals xs u → ∃ as, ReadsAll s.heap u ds as) (u : Value) (r : RelV (.ref a) u) : ∃ as, Reads s.heap u (.tuple ds) as := by
 cases r
 obtain ⟨its, rv, ⟨o, e, c, n, d⟩, _⟩ := I.tuple (SqT.of h)
 obtain ⟨as, q⟩ := ih _ rv
 exact ⟨_, reads_tuple_at e c d (by simpa using q)⟩
theorem rd_c {x : V} {d : PyData} {xs : List V} {ds : List PyData} (_ : Dn H P x d) (_ : Dns H P xs ds) (i1 : ∀ u, RelV x u → ∃ as, Reads s.heap u d as) (i2 : ∀ u, Vals xs u → ∃ as, ReadsAll s.heap u ds as) (u : List Value) (r : Vals (x :: xs) u) : ∃ as, ReadsAll s.heap u (d :: ds) as := by
 cases r with
 | cons r1 r2 =>
  obtain ⟨as, q⟩ := i1 _ r1
  obtain ⟨bs, q'⟩ := i2 _ r2
  exact ⟨_, .cons q q'⟩
theorem Dn.reads (I : Inv X pins σ H s) {v : V} {d : PyData} {u : Value} (h : Dn H P v d) (r : RelV v u) : ∃ as, Reads s.heap u d as :=
 Dn.rec (motive_1 := fun v d _ => ∀ u, RelV v u → ∃ as, Reads s.heap u d as) (motive_2 := fun v d _ => ∀ u, Vals v u → ∃ as, ReadsAll s.heap u d as) (rd_a I).1 (rd_a I).2.1 (rd_a I).2.2.1 (rd_a I).2.2.2 (rd_l I) (rd_t I) (fun u r => by cases r; exact ⟨_, .nil⟩) (rd_c (s := s)) h u r
end

section
variable {X : Cx}
open PySem.SeqAt in
@[irreducible] noncomputable def rEqD (f : Bool → Bool) : R2 := fun x y H Q => (∃ i j, x = .int i ∧ y = .int j ∧ Q (.bl (f (decide (i = j)))) H) ∨
 ∃ (P P' : Addr → Prop) (d e : PyData), Dn H P x d ∧ Dn H P' y e ∧ shaped d = true ∧ shaped e = true ∧ Q (.bl (f (PyData.eqv d e))) H
theorem op_eqD (hu : X.A.units + 64 < cLine) : OpR X (compareOp .Eq) (rEqD fun b => b) := by
 intro pins s σ H x y v u Q I rx ry h
 unfold rEqD at h
 rcases h with ⟨i, j, rfl, rfl, q⟩ | ⟨P, P', d, e, hd, he, sd, se, q⟩
 ·obtain ⟨t, rfl⟩ := rx
  obtain ⟨t', rfl⟩ := ry
  exact eq_int (by rw [Bool.beq_eq_decide_eq]; exact ⟨.bl _, H, I, rfl, q⟩)
 ·obtain ⟨as, ra⟩ := hd.reads I rx
  obtain ⟨bs, rb⟩ := he.reads I ry
  exact eq_dataH ra rb sd se hu ⟨.bl _, H, I, rfl, q⟩
theorem op_neD (hu : X.A.units + 64 < cLine) : OpR X (compareOp .NotEq) (rEqD fun b => !b) := by
 intro pins s σ H x y v u Q I rx ry h
 unfold rEqD at h
 rcases h with ⟨i, j, rfl, rfl, q⟩ | ⟨P, P', d, e, hd, he, sd, se, q⟩
 ·obtain ⟨t, rfl⟩ := rx
  obtain ⟨t', rfl⟩ := ry
  exact ne_int (by rw [bne, Bool.beq_eq_decide_eq]; exact ⟨.bl _, H, I, rfl, q⟩)
 ·obtain ⟨as, ra⟩ := hd.reads I rx
  obtain ⟨bs, rb⟩ := he.reads I ry
  exact ne_dataH ra rb sd se hu ⟨.bl _, H, I, rfl, q⟩

@[irreducible] noncomputable def rIxD : R2 := fun x y H Q =>
 (∃ p xs i v, x = .ref p ∧ y = .int i ∧ H p = some (.lst xs) ∧ atI xs i = some v ∧ Q v H) ∨
 ∃ (P : Addr → Prop) (ds : List PyData) (i : Int) (d : PyData), (Dn H P x (.list ds) ∨ Dn H P x (.tuple ds)) ∧ y = .int i ∧ atI ds i = some d ∧ ∀ v, Dn H P v d → Q v H
theorem Dns.at {P : Addr → Prop} {H : Hp} {xs : List V} {ds : List PyData} {i : Int} {d : PyData} (h : Dns H P xs ds) (e : atI ds i = some d) : ∃ v, atI xs i = some v ∧ Dn H P v d := by
 unfold atI at e ⊢
 rw [h.length]
 cases q : ixN ds.length i with
 | none => rw [q] at e; cases e
 | some j => rw [q] at e; exact h.get e
theorem ix_D : IxR X rIxD := by
 intro value slice pins s σ H x y v u Q I rx ry h hs
 unfold rIxD at h
 rcases h with ⟨p, xs, i, v', rfl, rfl, hp, he, q⟩ | ⟨P, ds, i, d, hd, rfl, he, q⟩
 ·exact ix_list value slice pins s σ H _ _ v u Q I rx ry ⟨p, xs, i, v', rfl, rfl, SqL.of hp, he, q⟩ hs
 ·rcases hd with hd | hd
  ·cases hd with
   | lst n h t =>
    obtain ⟨v', e', hv⟩ := t.at he
    exact ix_list value slice pins s σ H _ _ v u Q I rx ry ⟨_, _, i, v', rfl, rfl, SqL.of h, e', q v' hv⟩ hs
  ·cases hd with
   | tup n h t =>
    obtain ⟨v', e', hv⟩ := t.at he
    exact ix_tup value slice pins s σ H _ _ v u Q I rx ry ⟨_, _, i, v', rfl, rfl, SqT.of h, e', q v' hv⟩ hs
theorem ixL {H : Hp} {P : Addr → Prop} {x : V} {i : Int} {ds : List PyData} {d : PyData} {Q : VK} (h : Dn H P x (.list ds)) (e : atI ds i = some d) (q : ∀ v, Dn H P v d → Q v H) : rIxD x (.int i) H Q := by
 unfold rIxD
 exact .inr ⟨P, ds, i, d, .inl h, rfl, e, q⟩
theorem ixT {H : Hp} {P : Addr → Prop} {x : V} {i : Int} {ds : List PyData} {d : PyData} {Q : VK} (h : Dn H P x (.tuple ds)) (e : atI ds i = some d) (q : ∀ v, Dn H P v d → Q v H) : rIxD x (.int i) H Q := by
 unfold rIxD
 exact .inr ⟨P, ds, i, d, .inr h, rfl, e, q⟩
theorem ixR {H : Hp} {p : Addr} {xs : List V} {i : Int} {v : V} {Q : VK} (h : H p = some (.lst xs)) (e : atI xs i = some v) (q : Q v H) : rIxD (.ref p) (.int i) H Q := by
 unfold rIxD
 exact .inl ⟨p, xs, i, v, rfl, rfl, h, e, q⟩

@[irreducible] noncomputable def rLenD : List V → Hp → VK → Prop := fun xs H Q => (∃ p ys, xs = [.ref p] ∧ H p = some (.lst ys) ∧ Q (.int ys.length) H) ∨
 ∃ (x : V) (P : Addr → Prop) (ds : List PyData), xs = [x] ∧ (Dn H P x (.list ds) ∨ Dn H P x (.tuple ds)) ∧ Q (.int ds.length) H
theorem call_lenD : CallR X (.builtin "len") rLenD := by
 intro pins s σ H xs us Q I r h
 unfold rLenD at h
 rcases h with ⟨p, ys, rfl, hp, q⟩ | ⟨x, P, ds, rfl, hd, q⟩
 ·exact call_len_seq pins s σ H _ us Q I r ⟨p, ys, rfl, .inl (SqL.of hp), q⟩
 ·rcases hd with hd | hd
  ·cases hd with
   | lst n h t => exact call_len_seq pins s σ H _ us Q I r ⟨_, _, rfl, .inl (SqL.of h), by rw [t.length]; exact q⟩
  ·cases hd with
   | tup n h t => exact call_len_seq pins s σ H _ us Q I r ⟨_, _, rfl, .inr (SqT.of h), by rw [t.length]; exact q⟩
theorem lenL {H : Hp} {P : Addr → Prop} {x : V} {ds : List PyData} {Q : VK} (h : Dn H P x (.list ds)) (q : Q (.int ds.length) H) : rLenD [x] H Q := by
 unfold rLenD
 exact .inr ⟨x, P, ds, rfl, .inl h, q⟩
theorem lenR {H : Hp} {p : Addr} {xs : List V} {Q : VK} (h : H p = some (.lst xs)) (q : Q (.int xs.length) H) : rLenD [.ref p] H Q := by
 unfold rLenD
 exact .inl ⟨p, xs, rfl, h, q⟩

theorem call_listD : CallR X (.type "list") (fun xs H Q => ∃ (x : V) (P : Addr → Prop) (ds : List PyData), xs = [x] ∧ (Dn H P x (.list ds) ∨ Dn H P x (.tuple ds)) ∧ ∀ l ys, H l = none → Dns H P ys ds → Q (.ref l) (upd H l (.lst ys))) := by
 intro pins s σ H xs us Q I r h
 obtain ⟨x, P, ds, rfl, hd, q⟩ := h
 rcases hd with hd | hd
 ·cases hd with
  | lst n h t => exact call_list_of pins s σ H _ us Q I r ⟨_, _, rfl, .inl (SqL.of h), fun l hl => q l _ hl t⟩
 ·cases hd with
  | tup n h t => exact call_list_of pins s σ H _ us Q I r ⟨_, _, rfl, .inr (SqT.of h), fun l hl => q l _ hl t⟩

@[irreducible] noncomputable def rAddD : R2 := fun x y H Q => (∃ i j, x = .int i ∧ y = .int j ∧ Q (.int (i + j)) H) ∨
 ∃ (P P' : Addr → Prop) (ds es : List PyData), Dn H P x (.list ds) ∧ Dn H P' y (.list es) ∧ ds.length + es.length ≤ sizeLine ∧ ∀ p xs ys, H p = none → Dns H P xs ds → Dns H P' ys es → Q (.ref p) (upd H p (.lst (xs ++ ys)))
theorem op_addD : OpR X (binaryOp .Add) rAddD := by
 intro pins s σ H x y v u Q I rx ry h
 unfold rAddD at h
 rcases h with ⟨i, j, rfl, rfl, q⟩ | ⟨P, P', ds, es, hd, he, hz, q⟩
 ·exact op_add pins s σ H _ _ v u Q I rx ry ⟨i, j, rfl, rfl, q⟩
 ·cases hd with
  | lst n h t =>
   cases he with
   | lst n' h' t' =>
    exact op_cat pins s σ H _ _ v u Q I rx ry ⟨_, _, _, _, rfl, rfl, h, h', by rw [t.length, t'.length]; exact hz, fun p hp => q p _ _ hp t t'⟩
theorem eqI {H : Hp} {f : Bool → Bool} {i j : Int} {Q : VK} (q : Q (.bl (f (decide (i = j)))) H) : rEqD f (.int i) (.int j) H Q := by
 unfold rEqD
 exact .inl ⟨i, j, rfl, rfl, q⟩
open PySem.SeqAt in
theorem eqD {H : Hp} {f : Bool → Bool} {P P' : Addr → Prop} {x y : V} {d e : PyData} {Q : VK} (hd : Dn H P x d) (he : Dn H P' y e) (sd : shaped d = true) (se : shaped e = true) (q : Q (.bl (f (PyData.eqv d e))) H) : rEqD f x y H Q := by
 unfold rEqD
 exact .inr ⟨P, P', d, e, hd, he, sd, se, q⟩
theorem addI {H : Hp} {i j : Int} {Q : VK} (q : Q (.int (i + j)) H) : rAddD (.int i) (.int j) H Q := by
 unfold rAddD
 exact .inl ⟨i, j, rfl, rfl, q⟩
theorem addL {H : Hp} {P P' : Addr → Prop} {x y : V} {ds es : List PyData} {Q : VK} (hd : Dn H P x (.list ds)) (he : Dn H P' y (.list es)) (hz : ds.length + es.length ≤ sizeLine)
  (q : ∀ p xs ys, H p = none → Dns H P xs ds → Dns H P' ys es → Q (.ref p) (upd H p (.lst (xs ++ ys)))) : rAddD x y H Q := by
 unfold rAddD
 exact .inr ⟨P, P', ds, es, hd, he, hz, q⟩
end
end L2


set_option Elab.async false
set_option linter.all false
set_option maxRecDepth 100000
set_option maxHeartbeats 4000000
namespace L2
open PySem PySem.Spec PyProof.Rows

noncomputable def cutD {α : Type} (xs : List α) (lo hi : Option Int) : List α := (xs.drop (HT.sIx xs.length 0 lo)).take (HT.sIx xs.length xs.length hi - HT.sIx xs.length 0 lo)
theorem Dns.cut {P : Addr → Prop} {H : Hp} {xs : List V} {ds : List PyData} (h : Dns H P xs ds) (lo hi : Option Int) : Dns H P (cutV xs lo hi) (cutD ds lo hi) := by
 unfold cutV cutD
 rw [h.length]
 exact (h.drop _).take _
theorem cutD_map {α β : Type} (f : α → β) (xs : List α) (lo hi : Option Int) : cutD (xs.map f) lo hi = (cutD xs lo hi).map f := by
 unfold cutD
 rw [List.length_map, ← List.map_drop, ← List.map_take]
theorem cutD_len {α : Type} (xs : List α) (lo hi : Option Int) : (cutD xs lo hi).length ≤ xs.length := by
 unfold cutD
 rw [List.length_take, List.length_drop]
 omega
theorem cutD_mem {α : Type} {xs : List α} {lo hi : Option Int} {x : α} (h : x ∈ cutD xs lo hi) : x ∈ xs := List.mem_of_mem_drop (List.mem_of_mem_take h)
section
variable {X : Cx}
@[irreducible] noncomputable def rSlD : V → Option Int → Option Int → Hp → VK → Prop := fun x lo hi H Q => ∃ (P : Addr → Prop) (ds : List PyData), Dn H P x (.list ds) ∧ ∀ p ys, H p = none → Dns H P ys (cutD ds lo hi) → Q (.ref p) (upd H p (.lst ys))
theorem sl_D : SlR X rSlD := by
 intro pins s σ H x v vl vu lo hi sl Q I rx hs pl pu h
 unfold rSlD at h
 obtain ⟨P, ds, hd, q⟩ := h
 cases hd with
 | lst n h t => exact sl_list pins s σ H _ v vl vu lo hi sl Q I rx hs pl pu ⟨_, _, rfl, SqL.of h, fun p hp => q p _ hp (t.cut lo hi)⟩

theorem slD {H : Hp} {P : Addr → Prop} {x : V} {lo hi : Option Int} {ds : List PyData} {Q : VK} (h : Dn H P x (.list ds)) (q : ∀ p ys, H p = none → Dns H P ys (cutD ds lo hi) → Q (.ref p) (upd H p (.lst ys))) : rSlD x lo hi H Q := by
 unfold rSlD
 exact ⟨P, ds, h, q⟩
noncomputable def tRev (te : TE) : TE := fun σ H Q => te σ H fun x H1 => ∃ (P : Addr → Prop) (ds : List PyData), Dn H1 P x (.list ds) ∧ ∀ p ys, H1 p = none → Dns H1 P ys ds.reverse → Q (.ref p) (upd H1 p (.lst ys))
theorem pe_rev {e m : Expr} {te : TE} {pos p2 : Pos} (he : PE X e te) (hm : PE X m (tC (.int (-1))))
  (hsub : ∀ o i, ∃ ops, subscripted (.Slice none none (some m) p2) false o i = operate ops (getItem o i)) : PE X (.Subscript e (.Slice none none (some m) p2) pos) (tRev te) := by
 intro pins s σ H Q I h
 refine Subscript_ (thn (he pins s σ H _ I h) fun v s1 hx__ => ?_)
 obtain ⟨x, H1, I1, r1, P, ds, hd, q⟩ := hx__
 cases hd with
 | @lst a xs _ n hx t =>
 cases r1
 refine wpAny_Slice ?_
 rw [evalPart_none]
 refine wpAny_pure ?_
 refine wpAny_pure ?_
 rw [evalPart_some]
 refine thn (hm pins s1 σ H1 (fun w H' => w = .int (-1) ∧ H' = H1) I1 ⟨rfl, rfl⟩) fun vk s2 hx__ => ?_
 obtain ⟨w, H2, I2, r2, ew, eH⟩ := hx__
 subst ew eH
 obtain ⟨tk, rfl⟩ := r2
 have I4 : Inv X pins σ H2 { s2 with heap := s2.heap.push { cls := .type "slice", data := .fields #[.none, .none, .int (-1) tk] } } := I2.kept (t' := s2.toks) fun b ob q => Heap.get?_push_of_some _ q
 obtain ⟨its, r, ht, hz⟩ := I4.list (SqL.of hx)
 have hlen := r.length
 obtain ⟨ops, hops⟩ := hsub (.ref a) (.ref s2.heap.objs.size)
 refine tail_any (T := "list") (ops := ops) ht.isList.typeIs slot_list_getitem.lookup ?_ hops
 refine wpAny_getItem_list_slice (st := some (-1)) ht.isList (Heap.IsSliceOf.new ..) .none .none (.int _ _) (by decide) ?_ (by rw [List.size_toArray, ← hlen]; exact hz)
 rw [PySem.W.krv_pick]
 have hv : Vals xs.reverse its.reverse := r.reverse
 exact ⟨.ref _, _, I4.lnew (t' := s2.toks) hv (by rw [List.length_reverse]; exact hz), rfl, q _ _ I4.fresh t.rev⟩

theorem call_sumD (hc : X.calm = true) : CallR X (.builtin "sum") (fun xs H Q => ∃ (x : V) (P : Addr → Prop) (ns : List Int), xs = [x] ∧ Dn H P x (.list (ns.map PyData.int)) ∧ Q (.int ns.sum) H) := by
 intro pins s σ H xs us Q I r h
 obtain ⟨x, P, ns, rfl, hd, q⟩ := h
 obtain ⟨u, rfl, rx⟩ := vals1 r
 cases hd with
 | lst n h t =>
  cases rx
  obtain ⟨its, rv, pl, hz⟩ := I.list (SqL.of h)
  rw [t.ints] at rv
  have hi : IntsAre its ns := intsAre_of rv
  have hl := pl.isList
  obtain ⟨ys, hy⟩ := hi.allInts.items
  rw [hy] at hl
  refine sum_intListG (I.ok.hd hc) hl fun h' tk t' hk => ⟨.int ns.sum, H, I.kept hk, ⟨t', ?_⟩, q⟩
  have e1 := hi.numsOf
  have e2 : numsOf its.toArray.toList = ys.toList.map (·.1) := by rw [hy]; exact nums_intItems ys
  have e3 : ns = ys.toList.map (·.1) := by rw [← e1]; simpa using e2
  rw [preSum_eq, List.take_of_length_le (by simp), ← e3]
theorem mt_bits : MtR X "int.bit_length" (fun x xs H Q => ∃ i, x = .int i ∧ xs = [] ∧ Q (.int (Builtin.Int.intBits i)) H) := by
 intro pins s σ H x xs v us Q I rx rs h
 obtain ⟨i, rfl, rfl, q⟩ := h
 obtain ⟨t, rfl⟩ := rx
 cases rs
 exact call_int_bit_length ⟨.int _, H, I.tok _, ⟨_, rfl⟩, q⟩

theorem call_isi : CallR X (.builtin "isinstance") (fun xs H Q => ∃ (x : V) (T : String) (t : Value) (b : Bool), xs = [x, .ty T] ∧ TyOf X.K H x t ∧ PySem.W.kitOne X.K t (.type T) = some b ∧ Q (.bl b) H) := by
 intro pins s σ H xs us Q I r h
 obtain ⟨x, T, t, b, rfl, ty, e, q⟩ := h
 obtain ⟨u, w', rfl, ru, rw'⟩ := vals2 r
 cases (show w' = Value.type T from rw')
 exact isinst_ok I ru ty e fun tk => ⟨.bl b, H, I.tok tk, rfl, q⟩

structure Callee (P : Program) (w : World) (K : PySem.W.Frag) (mg : Str → Option Value) (base : Heap) (x : Str) (ps : List Str) (k : Nat) (sp : Sp) : Prop where
 ex : ∃ (f : Addr) (fd : FuncData), mg x = some (.ref f) ∧ PySem.W.keepIn K (.ref f) = true ∧ Binds K fd ps [] ∧ FnOk P w K mg base CX0 k f fd ps sp ∧ ∃ oc od osl, K.lookup f = some ⟨oc, od, .func fd, osl⟩
theorem pe_callC {k j : Nat} {ps : List Str} {sp : Sp} {x : Str} {p pos : Pos} {e : Expr} {es : List Expr} {t : TA} (C : Callee X.prog X.w X.K X.mg X.base x ps k sp) (hr : Room j X.A) (hj : k ≤ j) (hg : Gl X x) (ha : PA X (e :: es) t)
  (hdb : (x == ("__debug__" : Str)) = false := by decide +kernel) (he : starEach (e :: es) X.env = (false, eval e X.env) :: starEach es X.env := by rfl) (hpl : (backTo pos (starEach es X.env)).any (·.1) = false := by rfl) :
  PE X (.Call (.Name x p) (e :: es) [] pos) (tCall sp [] E0 t) := by
 obtain ⟨f, fd, h1, h2, h3, h4, _⟩ := C.ex
 exact pe_call h4 (hr.mono hj) hg h1 h2 h3 .nil pass0 ha hdb he hpl

noncomputable def Ite (K : PySem.W.Frag) (l : Addr) : It :=
 ⟨fun i H => ∃ xs x, SqL K H l xs ∧ xs[i]? = some x, fun i H v H' => ∃ t x, v = .ref t ∧ H t = none ∧ H' = upd H t (.tup [.int i, x]) ∧ ∀ xs, SqL K H l xs → xs[i]? = some x, fun i H => ∃ xs, SqL K H l xs ∧ xs.length ≤ i⟩
theorem turn_enum {P : Program} {w : World} {K : PySem.W.Frag} {elts : List Expr} {k : Nat} {tp : Pos} (l e it : Addr) (hne : e ≠ it) : Turn P w K (.Tuple elts k tp) (Ite K l) [e, it] e (fun i h => (∃ old, IsEnum h e it i old) ∧ h.IsListIter it l i) where
 mem := by simp
 obj := fun i h st b hb => by
  obtain ⟨⟨old, he⟩, ⟨o, ho, hc, hd⟩⟩ := st
  rcases List.mem_cons.mp hb with z | hb
  ·subst z; exact ⟨_, he, fun v z => by cases z⟩
  ·have z : b = it := by simpa using hb
   subst z
   exact ⟨o, ho, fun v z => by rw [hd] at z; cases z⟩
 keep := fun i h h' st kk => by
  obtain ⟨⟨old, he⟩, hit⟩ := st
  exact ⟨⟨old, kk e (by simp) _ he⟩, hit.at fun o q => kk it (by simp) o q⟩
 item := by
  intro X hP hw hK hc i pins s σ H E I hf st hg
  subst hP hw hK
  obtain ⟨⟨old, he⟩, hit⟩ := st
  obtain ⟨xs, x, hq, hx⟩ := hg
  obtain ⟨its, rv, p, hz⟩ := I.list hq
  obtain ⟨u, hu, ru⟩ := rv.get hx
  refine wpAny_pyNext_enum_item he hit p.isList (x := u) (by simpa using hu) hne fun h' ho hit' hT hsz hk => ?_
  refine ⟨_, rfl, wpAny_letOwnedTupleGo_enum ho fun h'' he'' hs'' => ?_⟩
  have hfresh : H s.heap.objs.size = none := I.hok.fresh (Nat.le_refl _)
  have helt : e < s.heap.objs.size := Heap.lt_size he
  have kk : ∀ b o, b ≠ e → b ≠ it → s.heap.get? b = some o → h''.get? b = some o := fun b o n1 n2 q => (hs''.2 b n1).trans (hk b o n1 n2 q)
  have hT'' : h''.get? s.heap.objs.size = some { cls := .type "tuple", data := .seq #[.int i s.toks, u] } := (hs''.2 _ (Nat.ne_of_gt helt)).trans hT
  have nfp : ∀ b u', H b = some u' → b ≠ e ∧ b ≠ it := fun b u' q => ⟨fun z => (by rw [z, (hf e (by simp)).1] at q; cases q), fun z => (by rw [z, (hf it (by simp)).1] at q; cases q)⟩
  obtain ⟨o2, ho2, c2, d2⟩ := id hit'
  have hit'' : h''.IsListIter it l (i + 1) := ⟨o2, (hs''.2 it hne.symm).trans ho2, c2, d2⟩
  have J : Inv X pins σ (upd H s.heap.objs.size (.tup [.int i, x])) { s with heap := h'', toks := s.toks + 1 } := by
   refine I.step (h' := h'') (g' := s.gens) (d' := s.drawn) (t' := s.toks + 1) (ch := [e, it]) (fun b hb => ?_) (fun b o _ _ hcn q _ => kk b o (fun z => hcn (by simp [z])) (fun z => hcn (by simp [z])) q)
    (fun b o _ _ hcn q _ => ⟨o.slots, kk b o (fun z => hcn (by simp [z])) (fun z => hcn (by simp [z])) q⟩) (fun b o _ q nn => by rw [upd_ne (Nat.ne_of_lt (Heap.lt_size q))]; exact nn)
    (fun b o hcn q => ⟨o, kk b o (fun z => hcn (by simp [z])) (fun z => hcn (by simp [z])) q⟩) (fun b ys q => by rw [upd_ne (ne_of_none q hfresh)]; exact q) (fun b o u' q => by rw [upd_ne (ne_of_none q hfresh)]; exact q)
    (fun b ps q => ⟨#[], by rw [upd_ne (ne_of_none q hfresh), q]; simp⟩) (fun m hm => ?_) ?_ I.bare
   ·obtain ⟨f0, f1, f2, f3, f4, f5⟩ := hf b hb
    exact ⟨f3, f1, f4, f5⟩
   ·obtain ⟨o, es, ep, hoL, r⟩ := hm
    exact ⟨o, es, ep, kk _ o (fun z => (hf e (by simp)).2.1 z.symm) (fun z => (hf it (by simp)).2.1 z.symm) hoL, r⟩
   ·intro b u' q
    by_cases hb : b = s.heap.objs.size
    ·subst hb
     rw [upd_same] at q
     cases q
     exact ⟨by show 2 ≤ sizeLine; decide, [.int i s.toks, u], .cons ⟨_, rfl⟩ (.cons ru .nil), ⟨_, hT'', rfl, _, rfl⟩⟩
    ·rw [upd_ne hb] at q
     refine (I.hok b u' q).stay (fun c v hcc qq => kk c v ?_ ?_ qq) (fun c qq => by rw [upd_ne (ne_of_none qq hfresh)]; exact qq) fun c ys qq => by rw [upd_ne (ne_of_none qq hfresh)]; exact qq
     ·rcases hcc with z | z
      ·rw [z]; exact (nfp b u' q).1
      ·exact (nfp c _ z).1
     ·rcases hcc with z | z
      ·rw [z]; exact (nfp b u' q).2
      ·exact (nfp c _ z).2
  refine ⟨.ref s.heap.objs.size, _, J, rfl, ⟨_, x, rfl, hfresh, rfl, fun ys hy => by rw [I.list_inj hy hq]; exact hx⟩, ⟨⟨_, by simpa using he''⟩, hit''⟩, fun b hb => ?_⟩
  rw [upd_ne]
  ·exact (hf b hb).1
  ·rcases List.mem_cons.mp hb with z | hb
   ·rw [z]; exact Nat.ne_of_lt helt
   ·have z : b = it := by simpa using hb
    rw [z]
    obtain ⟨o3, ho3, _⟩ := hit
    exact Nat.ne_of_lt (Heap.lt_size ho3)
 done := by
  intro X hP hw hK hc i pins s σ H E I hf st hg
  subst hP hw hK
  obtain ⟨⟨old, he⟩, hit⟩ := st
  obtain ⟨xs, hq, hx⟩ := hg
  obtain ⟨its, rv, p, hz⟩ := I.list hq
  have hl := rv.length
  obtain ⟨f0, f1, f2, f3, f4, f5⟩ := hf it (by simp)
  exact wpAny_pyNext_enum_end (I.ok.hd hc) he hit p.isList (by simp; omega) fun h' eb => ⟨rfl, I.turned (t' := s.toks) (fun b o hb q => eb b o hb q) f0 f1 f3 f4 f5⟩
 self := fun _ _ _ _ _ st h => by
  obtain ⟨⟨old, he⟩, _⟩ := st
  exact wpAny_pyIter_enum he h
theorem Turn.imp {P : Program} {w : World} {K : PySem.W.Frag} {tg : Expr} {J J' : It} {fp : List Addr} {it : Addr} {tn : Nat → Heap → Prop} (T : Turn P w K tg J fp it tn)
  (hg : ∀ i H, J'.go i H → J.go i H) (hy : ∀ i H x H', J'.go i H → J.yld i H x H' → J'.yld i H x H') (hs : ∀ i H, J'.stop i H → J.stop i H) : Turn P w K tg J' fp it tn where
 mem := T.mem
 obj := T.obj
 keep := T.keep
 item := fun X a b c d i pins s σ H E I hf st go => thn (T.item X a b c d i pins s σ H E I hf st (hg i H go)) fun r s1 ⟨u, e, h⟩ => ⟨u, e, thn h fun _ s2 ⟨x, H', I', r', y, z⟩ => ⟨x, H', I', r', hy i H x H' go y, z⟩⟩
 done := fun X a b c d i pins s σ H E I hf st stop => T.done X a b c d i pins s σ H E I hf st (hs i H stop)
 self := T.self
noncomputable def ItL (a : Addr) : It := ⟨fun i H => ∃ xs x, H a = some (.lst xs) ∧ xs[i]? = some x, fun i H x H' => H' = H ∧ ∀ xs, H a = some (.lst xs) → xs[i]? = some x, fun i H => ∃ xs, H a = some (.lst xs) ∧ xs.length ≤ i⟩
noncomputable def ItE (l : Addr) : It :=
 ⟨fun i H => ∃ xs x, H l = some (.lst xs) ∧ xs[i]? = some x, fun i H v H' => ∃ t x, v = .ref t ∧ H t = none ∧ H' = upd H t (.tup [.int i, x]) ∧ ∀ xs, H l = some (.lst xs) → xs[i]? = some x, fun i H => ∃ xs, H l = some (.lst xs) ∧ xs.length ≤ i⟩
theorem turn_L {P : Program} {w : World} {K : PySem.W.Frag} {tg : Expr} (a it : Addr) : Turn P w K tg (ItL a) [it] it (fun i h => h.IsListIter it a i) :=
 (turn_list (K := K) a it).imp (fun i H ⟨xs, x, h, e⟩ => ⟨xs, x, SqL.of h, e⟩) (fun i H x H' _ ⟨e, y⟩ => ⟨e, fun xs h => y xs (SqL.of h)⟩) (fun i H ⟨xs, h, e⟩ => ⟨xs, SqL.of h, e⟩)
theorem turn_E {P : Program} {w : World} {K : PySem.W.Frag} {elts : List Expr} {k : Nat} {tp : Pos} (l e it : Addr) (hne : e ≠ it) : Turn P w K (.Tuple elts k tp) (ItE l) [e, it] e (fun i h => (∃ old, IsEnum h e it i old) ∧ h.IsListIter it l i) :=
 (turn_enum (K := K) l e it hne).imp (fun i H ⟨xs, x, h, e⟩ => ⟨xs, x, SqL.of h, e⟩) (fun i H x H' _ ⟨t, z, h1, h2, h3, y⟩ => ⟨t, z, h1, h2, h3, fun xs h => y xs (SqL.of h)⟩) (fun i H ⟨xs, h, e⟩ => ⟨xs, SqL.of h, e⟩)
noncomputable def iL (tl : TE) : TI := fun σ H R => tl σ H fun x H1 => ∃ a xs, x = .ref a ∧ H1 a = some (.lst xs) ∧ R (ItL a) H1
theorem pi_L {tg l : Expr} {tl : TE} (hl : PE X l tl) : PI X tg l (iL tl) := by
 intro pins s σ H R I h
 refine thn (hl pins s σ H _ I h) fun v s1 hx__ => ?_
 obtain ⟨x, H1, I1, r1, q1⟩ := hx__
 obtain ⟨a, xs, e, hq, q⟩ := q1
 subst e
 cases r1
 obtain ⟨its, rv, p, hz⟩ := I1.list (SqL.of hq)
 refine wpAny_pyIter_list p.isList ?_
 refine ⟨s1.heap.objs.size, [s1.heap.objs.size], _, ItL a, H1, rfl, I1.kept (t' := s1.toks) (fun b o e => Heap.get?_push_of_some _ e), turn_L a _, ⟨_, Heap.get?_push_size _ rfl, rfl, rfl⟩, fun b hb => ?_, q⟩
 obtain rfl : b = s1.heap.objs.size := by simpa using hb
 exact I1.fpOk (Nat.le_refl _) (I1.hok.fresh (Nat.le_refl _))
noncomputable def iE (ta : TA) : TI := fun σ H R => ta σ H fun vs H1 => ∃ l xs, vs = [.ref l] ∧ H1 l = some (.lst xs) ∧ R (ItE l) H1
theorem pi_E {a : Expr} {ta : TA} {p pos : Pos} {elts : List Expr} {k : Nat} {tp : Pos} (hg : Gl X "enumerate") (hm : X.mg "enumerate" = none) (ha : PA X [a] ta) (hs : starEach [a] X.env = [(false, eval a X.env)] := by rfl) :
  PI X (.Tuple elts k tp) (.Call (.Name "enumerate" p) [a] [] pos) (iE ta) := by
 intro pins s σ H R I h
 refine Call_ (ld_blt I hg hm boot_enumerate (PyProof.Rows.callWith_type1 (thn (ha pos pins s σ H _ I h) fun us s1 ⟨vs, H1, I1, r1, q1⟩ => ?_) hs rfl))
 obtain ⟨l, xs, e, hq, q⟩ := q1
 subst e
 obtain ⟨u, rfl, ru⟩ := vals1 r1
 cases ru
 obtain ⟨its, rv, pl, hz⟩ := I1.list (SqL.of hq)
 refine call_enumerate_list pl.isList fun h' he hit hsz hk => ?_
 have I2 : Inv X pins σ H1 { s1 with heap := h' } := I1.kept (t' := s1.toks) hk
 refine wpAny_pyIter_enum (s := { s1 with heap := h' }) he ?_
 refine ⟨s1.heap.objs.size + 1, [s1.heap.objs.size + 1, s1.heap.objs.size], _, ItE l, H1, rfl, I2, turn_E l _ _ (Nat.ne_of_gt (Nat.lt_succ_self _)), ⟨⟨_, by simpa using he⟩, hit⟩, fun b hb => ?_, q⟩
 have hge : s1.heap.objs.size ≤ b := by
  rcases List.mem_cons.mp hb with z | hb
  ·rw [z]; exact Nat.le_succ _
  ·have z : b = s1.heap.objs.size := by simpa using hb
   rw [z]; exact Nat.le_refl _
 exact I1.fpOk hge (I1.hok.fresh hge)
noncomputable def TruD (x : V) (H : Hp) (k : Bool) : Prop := match x with
 | .non => k = false
 | .bl b => k = b
 | .int i => k = (i != 0)
 | .ref p => ∃ xs, H p = some (.lst xs) ∧ k = !xs.isEmpty
 | _ => False
theorem pt_tru {a : Expr} {ta : TE} (ha : PE X a ta) (he : ∀ whole, isTrue a X.env whole = (do let v ← whole; standAt a.pos; holding [v] (truthy v))) : PT X a (fun σ H Q => ta σ H fun x H' => ∃ k, TruD x H' k ∧ Q k H') := by
 intro pins s σ H Q I h
 refine isTrue_plain (thn (ha pins s σ H _ I h) fun v s1 ⟨x, H1, I1, r1, k, e, q1⟩ => tru_ok pins s1 σ H1 x v Q I1 r1 ⟨k, ?_, q1⟩) (he _)
 cases x with
 | ref p =>
  obtain ⟨xs, hx, e⟩ : ∃ xs, H1 p = some (.lst xs) ∧ k = !xs.isEmpty := e
  exact Or.inl ⟨xs, SqL.of hx, e⟩
 | non => exact e
 | bl b => exact e
 | int i => exact e
 | str y => exact (show False from e).elim
 | byt y => exact (show False from e).elim
 | flt y => exact (show False from e).elim
 | ty y => exact (show False from e).elim
end
end L2


set_option Elab.async false
set_option linter.all false
set_option maxRecDepth 100000
set_option maxHeartbeats 4000000
namespace L2
open PySem PySem.Spec PyProof.Rows
section
variable {X : Cx}
@[irreducible] noncomputable def rMulD : R2 := fun x y H Q => rI CMul (fun i j => .int (i * j)) x y H Q ∨ rRep x y H Q
theorem op_mulD : OpR X (binaryOp .Mult) rMulD := by
 intro pins s σ H x y v u Q I rx ry h
 unfold rMulD at h
 exact OpR.or op_mul op_rep pins s σ H x y v u Q I rx ry h
theorem mulI {H : Hp} {i j : Int} {Q : VK} (h : CMul i j) (q : Q (.int (i * j)) H) : rMulD (.int i) (.int j) H Q := by
 unfold rMulD
 exact .inl ⟨i, j, rfl, rfl, h, q⟩
noncomputable def CDivB (i j : Int) : Prop := 0 < j ∧ j < 2 ^ 200
theorem op_fdivD : OpR X (binaryOp .FloorDiv) (rI CDivB fun i j => .int (i / j)) := opI fun i j _ _ _ _ _ hc q => by
 have h1 : (0 : Int) < j := hc.1
 have h2 : j < 2 ^ 200 := hc.2
 refine floordiv_int (by omega) (by rw [Int.fdiv_eq_ediv_of_nonneg i (by omega)]; exact q) (.inl (PyProof.noPylong_of_log2 ?_))
 have h3 : j.natAbs < 2 ^ 200 := by omega
 have h4 : j.natAbs ≠ 0 := by omega
 exact Nat.lt_trans ((Nat.log2_lt h4).mpr h3) (by decide)
theorem pe_negc {i : Int} {j : Nat} {p pos : Pos} : PE X (.UnaryOp .USub (.Constant (.int i) j p) pos) (tC (.int (-i))) := by
 intro pins s σ H Q I h
 exact pe_un un_neg pe_int pins s σ H Q I ⟨i, rfl, h⟩
theorem pe_cst {x : Str} {n : Int} {pos : Pos} (hg : Gl X x) (h : ∃ t, X.mg x = some (.int n t)) (hd : (x == ("__debug__" : Str)) = false := by decide +kernel) : PE X (.Name x pos) (tC (.int n)) := by
 obtain ⟨t, h⟩ := h
 exact pe_glob hg h ⟨t, rfl⟩ hd
end
theorem callee_of {P : Program} {w : World} {K : PySem.W.Frag} {mg : Str → Option Value} {base : Heap} {x : Str} {st : Stmt} {N ps : List Str} {k : Nat} {sp : Sp} (d : ∃ f fd, Fun K x x st f fd ∧ mg x = some (.ref f))
  (hb : ∀ (kV doc pm : Value) (an : Option Addr) (cdv ct : Value) (us : List Value), us.length = ps.length → bindArgs (PySem.W.fnOf x x (defArgs st) (defBody st) (defScope st) .none kV doc pm an cdv ct) ⟨us, []⟩ = pure (ps.zip us))
  (S : FnScope N ps (defScope st)) (len : ∀ vs H Q E, sp vs H Q E → vs.length = ps.length)
  (hbody : ∀ (f : Addr) (cdv : Value) (A : Around) (outer : List Env) (s : Shared) (H : Hp) (vs : List V) (Q : VK) (E : XK), Room k (A.deeper (envOfC x (defScope st) s.heap.objs.size f cdv)) → sp vs H Q E →
   ∃ t, PSs (cxOf CX0 P w K mg base N x (defScope st) f cdv A outer s H E).nox (defBody st) t ∧ t { nx := fun _ H' => Q .non H', rt := Q } (start N vs) H) : Callee P w K mg base x ps (k + 1) sp := by
 obtain ⟨f, fd, F, hm⟩ := d
 refine ⟨f, fd, hm, F.kp, F.binds hb, F.ok S len fun cdv A outer s H vs Q E hr h => hbody f cdv A outer s H vs Q E hr h, ?_⟩
 obtain ⟨oc, od, _, _, _, _, _, _, osl, _, lk, _⟩ := F.ex
 exact ⟨oc, od, osl, lk⟩
theorem law_F {P : Program} {w : World} {K : PySem.W.Frag} {mg : Str → Option Value} {x p : Str} {st : Stmt} {k : Nat} {sp : Sp} {fa : Addr} (d : ∃ f fd, Fun K x x st f fd ∧ mg x = some (.ref f))
  (hb : ∀ (kV doc pm : Value) (an : Option Addr) (cdv ct u : Value), bindArgs (PySem.W.fnOf x x (defArgs st) (defBody st) (defScope st) .none kV doc pm an cdv ct) ⟨[u], []⟩ = pure [(p, u)])
  (C : ∀ base, Callee P w K mg base x [p] k sp) (hmg : mg x = some (.ref fa)) :
  ∃ fd : FuncData, (∀ (s : Shared) (u : Value), BindsTo s fd ⟨[u], []⟩ [(p, u)]) ∧ ∀ base : Heap, K.In base → base.Ns mainGlobals mg → FnOk P w K mg base CX0 k fa fd [p] sp := by
 obtain ⟨f, fd, F, hm⟩ := d
 rw [hmg] at hm
 cases hm
 refine ⟨fd, fun s u => ?_, fun base _ _ => ?_⟩
 ·obtain ⟨oc, od, kV, doc, pm, an, cdv, ct, osl, rfl, lk, hcd⟩ := F.ex
  exact .of_eq (hb kV doc pm an cdv ct u)
 ·obtain ⟨f', fd', h1, _, _, h4, oc', od', osl', lk'⟩ := (C base).ex
  rw [hmg] at h1
  cases h1
  obtain ⟨oc, od, _, _, _, _, _, _, osl, _, lk, _⟩ := F.ex
  rw [lk'] at lk
  cases lk
  exact h4
end L2


set_option Elab.async false
set_option linter.all false
set_option maxRecDepth 100000
set_option maxHeartbeats 4000000
namespace L2
open PySem PySem.Spec PyProof.Rows

theorem for_E {a : Addr} {xs : List V} {g : TG} {tb : TS} {D : Ends} {σ : St} {H : Hp} (Pv : Nat → St → Hp → Prop) (h0 : Pv 0 σ H) (hl : ∀ i σ H, i ≤ xs.length → Pv i σ H → H a = some (.lst xs))
  (hs : ∀ i x t σ H, xs[i]? = some x → H t = none → Pv i σ H → g (.ref t) σ (upd H t (.tup [.int i, x])) fun σ2 H2 => tb { D with nx := Pv (i + 1), ct := Pv (i + 1), bk := D.nx } σ2 H2) (hd : ∀ σ H, Pv xs.length σ H → D.nx σ H) :
  ∃ W : Nat → Nat → St → Hp → Prop, (∃ m, W 0 m σ H) ∧ ∀ i m σ H, W i m σ H →
   ((ItE a).stop i H ∧ D.nx σ H) ∨ ((ItE a).go i H ∧ ∃ N : St → Hp → Prop, (∀ σ' H', N σ' H' → ∃ m', m' < m ∧ W (i + 1) m' σ' H') ∧ ∀ x H', (ItE a).yld i H x H' → g x σ H' fun σ2 H2 => tb { D with nx := N, ct := N, bk := D.nx } σ2 H2) := by
 refine ⟨fun i m σ H => m = xs.length - i ∧ i ≤ xs.length ∧ Pv i σ H, ⟨xs.length, by simp, Nat.zero_le _, h0⟩, ?_⟩
 rintro i m σ H ⟨rfl, hi, p⟩
 have q := hl i σ H hi p
 by_cases hlt : i < xs.length
 ·refine .inr ⟨⟨xs, xs[i], q, by simp [hlt]⟩, Pv (i + 1), fun σ' H' p' => ⟨xs.length - (i + 1), by omega, rfl, hlt, p'⟩, fun v H' y => ?_⟩
  obtain ⟨t, x, rfl, ht, rfl, y⟩ := y
  exact hs i x t σ _ (y xs q) ht p
 ·have e : i = xs.length := by omega
  subst e
  exact .inl ⟨⟨xs, q, Nat.le_refl _⟩, hd σ H p⟩

theorem for_L {a : Addr} {xs : List V} {g : TG} {tb : TS} {D : Ends} {σ : St} {H : Hp} (Pv : Nat → St → Hp → Prop) (h0 : Pv 0 σ H) (hl : ∀ i σ H, i ≤ xs.length → Pv i σ H → H a = some (.lst xs))
  (hs : ∀ i x σ H, xs[i]? = some x → Pv i σ H → g x σ H fun σ2 H2 => tb { D with nx := Pv (i + 1), ct := Pv (i + 1), bk := D.nx } σ2 H2) (hd : ∀ σ H, Pv xs.length σ H → D.nx σ H) :
  ∃ W : Nat → Nat → St → Hp → Prop, (∃ m, W 0 m σ H) ∧ ∀ i m σ H, W i m σ H →
   ((ItL a).stop i H ∧ D.nx σ H) ∨ ((ItL a).go i H ∧ ∃ N : St → Hp → Prop, (∀ σ' H', N σ' H' → ∃ m', m' < m ∧ W (i + 1) m' σ' H') ∧ ∀ x H', (ItL a).yld i H x H' → g x σ H' fun σ2 H2 => tb { D with nx := N, ct := N, bk := D.nx } σ2 H2) := by
 refine ⟨fun i m σ H => m = xs.length - i ∧ i ≤ xs.length ∧ Pv i σ H, ⟨xs.length, by simp, Nat.zero_le _, h0⟩, ?_⟩
 rintro i m σ H ⟨rfl, hi, p⟩
 have q := hl i σ H hi p
 by_cases hlt : i < xs.length
 ·refine .inr ⟨⟨xs, xs[i], q, by simp [hlt]⟩, Pv (i + 1), fun σ' H' p' => ⟨xs.length - (i + 1), by omega, rfl, hlt, p'⟩, fun x H' y => ?_⟩
  obtain ⟨e, y⟩ := y
  subst e
  exact hs i x σ _ (y xs q) p
 ·have e : i = xs.length := by omega
  subst e
  exact .inl ⟨⟨xs, q, Nat.le_refl _⟩, hd σ H p⟩

section
variable {js : List (Option Nat)} {g : TG} {tt : TT} {te : TE} {σ : St} {H : Hp} {Q : VK}
theorem lc_list {a : Addr} {xs : List V} (hz : xs.length ≤ sizeLine) (Pv : Nat → List V → Hp → Prop) (h0 : Pv 0 [] H) (hl : ∀ i acc H, i ≤ xs.length → Pv i acc H → H a = some (.lst xs) ∧ acc.length ≤ i)
  (hs : ∀ i x acc H (N : List V → Hp → Prop), xs[i]? = some x → Pv i acc H → (∀ acc' H', Pv (i + 1) acc' H' → N acc' H') → g x (pick σ js) H fun σ2 H2 => tt σ2 H2 fun b H3 => if b = true then te σ2 H3 fun v H4 => N (acc ++ [v]) H4 else N acc H3)
  (hd : ∀ acc H l, Pv xs.length acc H → H l = none → Q (.ref l) (upd H l (.lst acc))) : lcGo (ItL a) js g tt te σ H Q := by
 refine ⟨fun i m acc H => m = xs.length - i ∧ i ≤ xs.length ∧ Pv i acc H, ⟨xs.length, by simp, Nat.zero_le _, h0⟩, ?_⟩
 rintro i m acc H ⟨rfl, hi, p⟩
 obtain ⟨q, hacc⟩ := hl i acc H hi p
 by_cases hlt : i < xs.length
 ·refine .inr ⟨⟨xs, xs[i], q, by simp [hlt]⟩, by omega, fun x H' y => ?_⟩
  obtain ⟨e, y⟩ := y
  subst e
  exact hs i x acc _ (fun acc' H' => ∃ m', m' < xs.length - i ∧ (m' = xs.length - (i + 1) ∧ i + 1 ≤ xs.length ∧ Pv (i + 1) acc' H')) (y xs q) p fun acc' H' r => ⟨_, by omega, rfl, hlt, r⟩
 ·have e : i = xs.length := by omega
  subst e
  exact .inl ⟨⟨xs, q, Nat.le_refl _⟩, by omega, fun l hl => hd acc H l p hl⟩
theorem lc_enum {a : Addr} {xs : List V} (hz : xs.length ≤ sizeLine) (Pv : Nat → List V → Hp → Prop) (h0 : Pv 0 [] H) (hl : ∀ i acc H, i ≤ xs.length → Pv i acc H → H a = some (.lst xs) ∧ acc.length ≤ i)
  (hs : ∀ i x t acc H (N : List V → Hp → Prop), xs[i]? = some x → H t = none → Pv i acc H → (∀ acc' H', Pv (i + 1) acc' H' → N acc' H') →
   g (.ref t) (pick σ js) (upd H t (.tup [.int i, x])) fun σ2 H2 => tt σ2 H2 fun b H3 => if b = true then te σ2 H3 fun v H4 => N (acc ++ [v]) H4 else N acc H3)
  (hd : ∀ acc H l, Pv xs.length acc H → H l = none → Q (.ref l) (upd H l (.lst acc))) : lcGo (ItE a) js g tt te σ H Q := by
 refine ⟨fun i m acc H => m = xs.length - i ∧ i ≤ xs.length ∧ Pv i acc H, ⟨xs.length, by simp, Nat.zero_le _, h0⟩, ?_⟩
 rintro i m acc H ⟨rfl, hi, p⟩
 obtain ⟨q, hacc⟩ := hl i acc H hi p
 by_cases hlt : i < xs.length
 ·refine .inr ⟨⟨xs, xs[i], q, by simp [hlt]⟩, by omega, fun v H' y => ?_⟩
  obtain ⟨t, x, rfl, ht, rfl, y⟩ := y
  exact hs i x t acc _ (fun acc' H' => ∃ m', m' < xs.length - i ∧ (m' = xs.length - (i + 1) ∧ i + 1 ≤ xs.length ∧ Pv (i + 1) acc' H')) (y xs q) ht p fun acc' H' r => ⟨_, by omega, rfl, hlt, r⟩
 ·have e : i = xs.length := by omega
  subst e
  exact .inl ⟨⟨xs, q, Nat.le_refl _⟩, by omega, fun l hl => hd acc H l p hl⟩
theorem lc_range {lo : Int} {n : Nat} (hz : n ≤ sizeLine) (Pv : Nat → List V → Hp → Prop) (h0 : Pv 0 [] H) (hl : ∀ i acc H, i ≤ n → Pv i acc H → acc.length ≤ i)
  (hs : ∀ i acc H (N : List V → Hp → Prop), i < n → Pv i acc H → (∀ acc' H', Pv (i + 1) acc' H' → N acc' H') → g (.int (lo + i)) (pick σ js) H fun σ2 H2 => tt σ2 H2 fun b H3 => if b = true then te σ2 H3 fun v H4 => N (acc ++ [v]) H4 else N acc H3)
  (hd : ∀ acc H l, Pv n acc H → H l = none → Q (.ref l) (upd H l (.lst acc))) : lcGo (Itr lo n) js g tt te σ H Q := by
 refine ⟨fun i m acc H => m = n - i ∧ i ≤ n ∧ Pv i acc H, ⟨n, by simp, Nat.zero_le _, h0⟩, ?_⟩
 rintro i m acc H ⟨rfl, hi, p⟩
 have hacc := hl i acc H hi p
 by_cases hlt : i < n
 ·refine .inr ⟨hlt, by omega, fun x H' y => ?_⟩
  obtain ⟨e, y⟩ := y
  subst e y
  exact hs i acc _ (fun acc' H' => ∃ m', m' < n - i ∧ (m' = n - (i + 1) ∧ i + 1 ≤ n ∧ Pv (i + 1) acc' H')) hlt p fun acc' H' r => ⟨_, by omega, rfl, hlt, r⟩
 ·have e : i = n := by omega
  subst e
  exact .inl ⟨Nat.le_refl _, by omega, fun l hl => hd acc H l p hl⟩

theorem filterMap_snoc {α β : Type} (f : α → Option β) (ds : List α) (i : Nat) (d : α) (h : ds[i]? = some d) : (ds.take (i + 1)).filterMap f = (ds.take i).filterMap f ++ (f d).toList := by
 rw [List.take_add_one, h, List.filterMap_append]
 cases e : f d <;> simp [e]
theorem lc_listD {P : Addr → Prop} {a : Addr} {ds : List PyData} (f : PyData → Option PyData) (hd : Dn H P (.ref a) (.list ds)) (hz : ds.length ≤ sizeLine)
  (hs : ∀ (i : Nat) d x H' (Ny : VK) (Nn : Hp → Prop), ds[i]? = some d → Same H H' → Dn H' P x d → (∀ v H4 e, Same H' H4 → f d = some e → Dn H4 P v e → Ny v H4) → (∀ H4, Same H' H4 → f d = none → Nn H4) →
   g x (pick σ js) H' fun σ2 H2 => tt σ2 H2 fun b H3 => if b = true then te σ2 H3 Ny else Nn H3)
  (fin : ∀ l H' ys, Same H H' → H' l = none → Dns H' P ys (ds.filterMap f) → Q (.ref l) (upd H' l (.lst ys))) : lcGo (ItL a) js g tt te σ H Q := by
 cases hd with
 | @lst _ xs _ np ha t =>
  have hlen := t.length
  refine lc_list (xs := xs) (by omega) (fun i acc H' => Same H H' ∧ Dns H' P acc ((ds.take i).filterMap f)) ⟨Same.refl _, .nil⟩ (fun i acc H' hi ⟨sm, dn⟩ => ⟨sm _ _ ha, ?_⟩) (fun i x acc H' N hx ⟨sm, dn⟩ go => ?_) (fun acc H' l ⟨sm, dn⟩ hl => ?_)
  ·rw [dn.length]
   exact Nat.le_trans (List.length_filterMap_le ..) (by rw [List.length_take]; exact Nat.min_le_left _ _)
  ·obtain ⟨d, hdi, hdn⟩ := t.getV hx
   refine hs i d x H' (fun v H4 => N (acc ++ [v]) H4) (fun H4 => N acc H4) hdi sm (hdn.mono sm.x) (fun v H4 e s4 hf d4 => ?_) (fun H4 s4 hf => ?_)
   ·exact go _ _ ⟨sm.trans s4, by rw [filterMap_snoc f ds i d hdi, hf]; exact (dn.mono s4.x).app (.cons d4 .nil)⟩
   ·exact go _ _ ⟨sm.trans s4, by rw [filterMap_snoc f ds i d hdi, hf]; simpa using dn.mono s4.x⟩
  ·rw [hlen, List.take_length] at dn
   exact fin l H' acc sm hl dn
theorem lc_enumD {P : Addr → Prop} {a : Addr} {ds : List PyData} (f : Nat × PyData → Option PyData) (hd : Dn H P (.ref a) (.list ds)) (hz : ds.length ≤ sizeLine)
  (hs : ∀ (i : Nat) d x t H' (Ny : VK) (Nn : Hp → Prop), ds[i]? = some d → Same H H' → H' t = none → Dn H' P x d → (∀ v H4 e, Same H' H4 → f (i, d) = some e → Dn H4 P v e → Ny v H4) → (∀ H4, Same H' H4 → f (i, d) = none → Nn H4) →
   g (.ref t) (pick σ js) (upd H' t (.tup [.int i, x])) fun σ2 H2 => tt σ2 H2 fun b H3 => if b = true then te σ2 H3 Ny else Nn H3)
  (fin : ∀ l H' ys, Same H H' → H' l = none → Dns H' P ys (((List.range ds.length).zip ds).filterMap f) → Q (.ref l) (upd H' l (.lst ys))) : lcGo (ItE a) js g tt te σ H Q := by
 cases hd with
 | @lst _ xs _ np ha t =>
  have hlen := t.length
  have zl : ((List.range ds.length).zip ds).length = ds.length := by simp
  refine lc_enum (xs := xs) (by omega) (fun i acc H' => Same H H' ∧ Dns H' P acc ((((List.range ds.length).zip ds).take i).filterMap f)) ⟨Same.refl _, .nil⟩ (fun i acc H' hi ⟨sm, dn⟩ => ⟨sm _ _ ha, ?_⟩) (fun i x tt' acc H' N hx ht ⟨sm, dn⟩ go => ?_) (fun acc H' l ⟨sm, dn⟩ hl => ?_)
  ·rw [dn.length]
   exact Nat.le_trans (List.length_filterMap_le ..) (by rw [List.length_take]; exact Nat.min_le_left _ _)
  ·obtain ⟨d, hdi, hdn⟩ := t.getV hx
   have hi : i < ds.length := (List.getElem?_eq_some_iff.mp hdi).1
   have hzi : ((List.range ds.length).zip ds)[i]? = some (i, d) := by
    rw [List.getElem?_zip_eq_some]
    exact ⟨by simp [hi], hdi⟩
   refine hs i d x tt' H' (fun v H4 => N (acc ++ [v]) H4) (fun H4 => N acc H4) hdi sm ht (hdn.mono sm.x) (fun v H4 e s4 hf d4 => ?_) (fun H4 s4 hf => ?_)
   ·exact go _ _ ⟨sm.trans s4, by rw [filterMap_snoc f _ i (i, d) hzi, hf]; exact (dn.mono s4.x).app (.cons d4 .nil)⟩
   ·exact go _ _ ⟨sm.trans s4, by rw [filterMap_snoc f _ i (i, d) hzi, hf]; simpa using dn.mono s4.x⟩
  ·rw [List.take_of_length_le (by omega)] at dn
   exact fin l H' acc sm hl dn
end
end L2


set_option Elab.async false
set_option linter.all false
set_option maxRecDepth 100000
set_option maxHeartbeats 4000000
namespace My
open PySem L2
noncomputable abbrev Road := Int × Int × Int
noncomputable def roadD (r : Road) : PyData := .tuple [.int r.1, .int r.2.1, .int r.2.2]
noncomputable def roadsD (rs : List Road) : PyData := .list (rs.map roadD)
noncomputable def netD (n : Int) (rs : List Road) : PyData := .tuple [.int n, roadsD rs]
noncomputable def intsD (ns : List Int) : PyData := .list (ns.map .int)
noncomputable def RoadOk (n : Int) (r : Road) : Prop := (0 ≤ r.1 ∧ r.1 < n) ∧ (0 ≤ r.2.1 ∧ r.2.1 < n) ∧ (-1000000000 ≤ r.2.2 ∧ r.2.2 ≤ 1000000000)
structure NetOk (n : Int) (rs : List Road) : Prop where
 n0 : 0 ≤ n
 n1 : n ≤ 20
 len : rs.length ≤ 60
 rd : ∀ r ∈ rs, RoadOk n r
noncomputable def roadAt (rs : List Road) (k : Int) : Option Road := if 0 ≤ k ∧ k < rs.length then rs[k.toNat]? else none
theorem roadAt_some {rs : List Road} {k : Int} {r : Road} (h : roadAt rs k = some r) : 0 ≤ k ∧ k < rs.length ∧ rs[k.toNat]? = some r := by
 unfold roadAt at h
 split at h
 ·rename_i hk; exact ⟨hk.1, hk.2, h⟩
 ·cases h
theorem roadAt_in {rs : List Road} {k : Int} (h0 : 0 ≤ k) (h1 : k < rs.length) : ∃ r, roadAt rs k = some r ∧ rs[k.toNat]? = some r := by
 have hk : k.toNat < rs.length := by omega
 refine ⟨rs[k.toNat], ?_, by simp [hk]⟩
 unfold roadAt
 rw [if_pos ⟨h0, h1⟩]
 simp [hk]
theorem roadAt_out {rs : List Road} {k : Int} (h : ¬ (0 ≤ k ∧ k < rs.length)) : roadAt rs k = none := by unfold roadAt; rw [if_neg h]
theorem roadAt_mem {rs : List Road} {k : Int} {r : Road} (h : roadAt rs k = some r) : r ∈ rs := List.mem_of_getElem? (roadAt_some h).2.2
noncomputable def leadsF (rs : List Road) : Int → Int → List Int → Bool
 | p, q, [] => decide (p = q)
 | p, q, k :: ws => match roadAt rs k with
  | some r => if r.1 = p then leadsF rs r.2.1 q ws else false
  | none => false
noncomputable def lenOf (rs : List Road) (k : Int) : Int := match roadAt rs k with
 | some r => r.2.2
 | none => 0
noncomputable def wayLen (rs : List Road) (ws : List Int) : Int := (ws.map (lenOf rs)).sum
noncomputable def AllIn (rs : List Road) (ws : List Int) : Prop := ∀ k ∈ ws, 0 ≤ k ∧ k < rs.length
theorem leads_in {rs : List Road} : ∀ {ws : List Int} {p q : Int}, leadsF rs p q ws = true → AllIn rs ws
 | [], _, _, _ => fun _ h => by simp at h
 | k :: ws, p, q, h => by
  unfold leadsF at h
  cases e : roadAt rs k with
  | none => rw [e] at h; cases h
  | some r =>
   rw [e] at h
   simp only at h
   split at h
   ·intro j hj
    rcases List.mem_cons.mp hj with rfl | hj
    ·exact ⟨(roadAt_some e).1, (roadAt_some e).2.1⟩
    ·exact leads_in h j hj
   ·cases h
theorem at_road {rs : List Road} {k : Int} {r : Road} (h : roadAt rs k = some r) : atI (rs.map roadD) k = some (roadD r) := by
 obtain ⟨h0, h1, h2⟩ := roadAt_some h
 have e : k = (k.toNat : Int) := by omega
 rw [e]
 exact atI_nat (by rw [List.getElem?_map, h2]; rfl)
theorem at_int {ns : List Int} {k : Int} {n : Int} (h0 : 0 ≤ k) (h : ns[k.toNat]? = some n) : atI (ns.map PyData.int) k = some (.int n) := by
 have e : k = (k.toNat : Int) := by omega
 rw [e]
 exact atI_nat (by rw [List.getElem?_map, h]; rfl)
theorem at_in {α : Type} {xs : List α} {k : Int} (h0 : 0 ≤ k) (h1 : k < xs.length) : ∃ x, xs[k.toNat]? = some x := by
 have hk : k.toNat < xs.length := by omega
 exact ⟨xs[k.toNat], by simp [hk]⟩

noncomputable def spPlace : Sp := fun vs H Q _ => ∃ c n : Int, vs = [.int c, .int n] ∧ ∀ b, (b = true ↔ 0 ≤ n ∧ n < c) → Q (.bl b) H
noncomputable def spRoad : Sp := fun vs H Q _ => ∃ (c : Int) (v : V) (P : Addr → Prop) (r : Road), vs = [.int c, v] ∧ Dn H P v (roadD r) ∧ ∀ b, (b = true ↔ RoadOk c r) → Q (.bl b) H
noncomputable def spCheckNet : Sp := fun vs H Q _ => ∃ (v : V) (P : Addr → Prop) (n : Int) (rs : List Road), vs = [v] ∧ Dn H P v (netD n rs) ∧ NetOk n rs ∧ ∀ H', Same H H' → Q .non H'
noncomputable def spLeads : Sp := fun vs H Q _ => ∃ (v w : V) (p q n : Int) (P P' : Addr → Prop) (rs : List Road) (ws : List Int), vs = [v, .int p, .int q, w] ∧ Dn H P v (netD n rs) ∧ Dn H P' w (intsD ws) ∧ ∀ H', Same H H' → Q (.bl (leadsF rs p q ws)) H'
noncomputable def spWayLen : Sp := fun vs H Q _ => ∃ (v w : V) (n : Int) (P P' : Addr → Prop) (rs : List Road) (ws : List Int), vs = [v, w] ∧ Dn H P v (netD n rs) ∧ Dn H P' w (intsD ws) ∧ ws.length ≤ 1000 ∧ AllIn rs ws ∧ ∀ H', Same H H' → Q (.int (wayLen rs ws)) H'
noncomputable def Pu (H : Hp) (q : Addr) (m : Int) : Prop := ∃ a b c : Int, H q = some (.lst [.int a, .int b, .int c]) ∧ 0 ≤ a ∧ 0 ≤ b ∧ b < 2147483647 ∧ 0 ≤ c ∧ c ≤ m
theorem Pu.mono {H : Hp} {q : Addr} {m m' : Int} (h : Pu H q m) (l : m ≤ m') : Pu H q m' := by
 obtain ⟨a, b, c, h1, h2, h3, h4, h5, h6⟩ := h
 exact ⟨a, b, c, h1, h2, h3, h4, h5, by omega⟩
theorem Pu.same {H H' : Hp} {q : Addr} {m : Int} (h : Pu H q m) (s : Same H H') : Pu H' q m := by
 obtain ⟨a, b, c, h1, r⟩ := h
 exact ⟨a, b, c, s _ _ h1, r⟩
noncomputable def spAt (K : PySem.W.Frag) : Sp := fun vs H Q _ => ∃ (a : Addr) (ns : List Int) (k : Int), vs = [.ref a, .int k] ∧ SqL K H a (ns.map V.int) ∧ 0 ≤ k ∧ ∀ n, Q (.int n) H
noncomputable def spMixed : Sp := fun vs H Q _ => ∃ b c : Int, vs = [.int b, .int c] ∧ 0 ≤ b ∧ b < 2147483647 ∧ 0 ≤ c ∧ c < 2 ^ 62 ∧ ∀ n : Int, 0 ≤ n → n < 2147483587 → Q (.int n) H
noncomputable def spPurse (K : PySem.W.Frag) : Sp := fun vs H Q _ => ∃ (a : Addr) (ns : List Int) (k : Int), vs = [.ref a, .int k] ∧ SqL K H a (ns.map V.int) ∧ 0 ≤ k ∧ k ≤ 63 ∧ ∀ q H', H q = none → Same H H' → Pu H' q 63000 → Q (.ref q) H'
noncomputable abbrev But (q : Addr) : Addr → Prop := fun a => a = q
noncomputable def spDraw : Sp := fun vs H Q _ => ∃ (q : Addr) (n m : Int), vs = [.ref q, .int n] ∧ Pu H q m ∧ m ≤ 2 ^ 61 ∧ 1 ≤ n ∧ n < 2 ^ 100 ∧ ∀ (r : Int) H', 0 ≤ r → r < n → Pu H' q (m + 4) → SameX (But q) H H' → Q (.int r) H'
noncomputable def spNumber : Sp := fun vs H Q _ => ∃ (q : Addr) (x m : Int), vs = [.ref q, .int x] ∧ Pu H q m ∧ m ≤ 2 ^ 60 ∧ 1 ≤ x ∧ x ≤ 2 ^ 62 ∧ ∀ (r : Int) H', -(max x 30) ≤ r → r ≤ max x 30 → Pu H' q (m + 8) → SameX (But q) H H' → Q (.int r) H'
end My
namespace L2
theorem ite_t {c : Bool} {A B : Prop} (hc : c = true) (h : A) : if c = true then A else B := by rw [if_pos hc]; exact h
theorem ite_f {c : Bool} {A B : Prop} (hc : c = false) (h : B) : if c = true then A else B := by rw [if_neg (by rw [hc]; exact Bool.false_ne_true)]; exact h
end L2
namespace My
open PySem L2
theorem _root_.L2.Dn.net {H : Hp} {P : Addr → Prop} {v : V} {n : Int} {rs : List Road} (h : Dn H P v (netD n rs)) : ∃ a l, v = .ref a ∧ ¬ P a ∧ H a = some (.tup [.int n, .ref l]) ∧ Dn H P (.ref l) (roadsD rs) := by
 cases h with
 | @tup a xs _ np ha t =>
 cases t with
 | cons d1 t =>
 cases t with
 | cons d2 t =>
 cases t
 cases d1
 cases id d2 with
 | lst n' h' t' => exact ⟨_, _, rfl, np, ha, d2⟩
theorem _root_.L2.Dn.road {H : Hp} {P : Addr → Prop} {v : V} {r : Road} (h : Dn H P v (roadD r)) : ∃ a, v = .ref a ∧ ¬ P a ∧ H a = some (.tup [.int r.1, .int r.2.1, .int r.2.2]) := by
 cases h with
 | @tup a xs _ np ha t =>
 cases t with
 | cons d1 t =>
 cases t with
 | cons d2 t =>
 cases t with
 | cons d3 t =>
 cases t
 cases d1; cases d2; cases d3
 exact ⟨_, rfl, np, ha⟩
theorem _root_.L2.Dn.ints {H : Hp} {P : Addr → Prop} {v : V} {ns : List Int} (h : Dn H P v (intsD ns)) : ∃ a, v = .ref a ∧ ¬ P a ∧ H a = some (.lst (ns.map V.int)) := by
 cases h with
 | @lst a xs _ np ha t => rw [t.ints] at ha; exact ⟨_, rfl, np, ha⟩
theorem dn_ints {H : Hp} {P : Addr → Prop} {a : Addr} {ns : List Int} (np : ¬ P a) (h : H a = some (.lst (ns.map V.int))) : Dn H P (.ref a) (intsD ns) := .lst np h (Dns.ofInts ns)
theorem at_ints {xs : List Int} {i : Nat} {y : V} (h : (xs.map V.int)[i]? = some y) : ∃ k, y = .int k ∧ xs[i]? = some k ∧ xs.drop i = k :: xs.drop (i + 1) := by
 rw [List.getElem?_map] at h
 cases e : xs[i]? with
 | none => rw [e] at h; cases h
 | some k =>
  rw [e] at h
  obtain ⟨hi, ek⟩ := List.getElem?_eq_some_iff.mp e
  exact ⟨k, (Option.some.inj h).symm, rfl, by rw [List.drop_eq_getElem_cons hi, ek]⟩
noncomputable abbrev NoP : Addr → Prop := fun _ => False
noncomputable def onInt (F : Int → Option PyData) : PyData → Option PyData
 | .int a => F a
 | _ => none
theorem on_ints (F : Int → Option PyData) (ws : List Int) : (ws.map PyData.int).filterMap (onInt F) = ws.filterMap F := by
 rw [List.filterMap_map]
 rfl
theorem fm_some {α β γ : Type} (f : α → β) (g : β → γ) (l : List α) : l.filterMap (fun x => some (g (f x))) = (l.map f).map g := by
 induction l with
 | nil => rfl
 | cons x l ih => simp [List.filterMap_cons, ih]
theorem get_road {rs : List Road} {i : Nat} {d : PyData} (h : (rs.map roadD)[i]? = some d) : ∃ r, rs[i]? = some r ∧ d = roadD r ∧ r ∈ rs := by
 rw [List.getElem?_map] at h
 cases e : rs[i]? with
 | none => rw [e] at h; cases h
 | some r => rw [e] at h; exact ⟨r, rfl, (Option.some.inj h).symm, List.mem_of_getElem? e⟩
theorem get_int {ws : List Int} {i : Nat} {d : PyData} (h : (ws.map PyData.int)[i]? = some d) : ∃ k, ws[i]? = some k ∧ d = .int k ∧ k ∈ ws := by
 rw [List.getElem?_map] at h
 cases e : ws[i]? with
 | none => rw [e] at h; cases h
 | some r => rw [e] at h; exact ⟨r, rfl, (Option.some.inj h).symm, List.mem_of_getElem? e⟩
theorem line1000 {n : Nat} (h : n ≤ 1000) : n ≤ sizeLine := Nat.le_of_lt (small1000 h)
end My
namespace L2
theorem atI_zero {α : Type} (x : α) (xs : List α) : atI (x :: xs) 0 = some x := atI_nat (xs := x :: xs) (j := 0) rfl
theorem seq_by {t rest : TS} {D : Ends} {σ : St} {H : Hp} (M : St → Hp → Prop) (h1 : ∀ U : St → Hp → Prop, (∀ σ' H', M σ' H' → U σ' H') → t { D with nx := U } σ H) (h2 : ∀ σ' H', M σ' H' → rest D σ' H') : tSeq t rest D σ H := h1 (rest D) h2
end L2
namespace My
open PySem L2 PySem.SeqAt
mutual
theorem eqv_refl : ∀ d : PyData, d.canLay0 = true → PyData.eqv d d = true
 | .none, _ => rfl
 | .bool b, _ => by simp [PyData.eqv]
 | .int i, _ => by simp [PyData.eqv]
 | .str x, _ => by simp [PyData.eqv]
 | .list xs, h => by
  simp only [PyData.eqv]
  exact eqvAll_refl xs (by simpa [PyData.canLay0] using h)
 | .tuple xs, h => by
  simp only [PyData.eqv]
  exact eqvAll_refl xs (by simpa [PyData.canLay0] using h)
 | .dict _, h => by simp [PyData.canLay0] at h
theorem eqvAll_refl : ∀ ds : List PyData, PyData.canLayAll0 ds = true → PyData.eqvAll ds ds = true
 | [], _ => rfl
 | d :: ds, h => by
  simp only [PyData.canLayAll0, Bool.and_eq_true] at h
  simp only [PyData.eqvAll, Bool.and_eq_true]
  exact ⟨eqv_refl d h.1, eqvAll_refl ds h.2⟩
end
theorem eqv_nil (ds : List PyData) : PyData.eqv (.list ds) (.list []) = ds.isEmpty := by
 cases ds <;> simp [PyData.eqv, PyData.eqvAll]
noncomputable def Lay (n : Nat) (d : PyData) : Prop := d.canLay0 = true ∧ d.depth ≤ n
theorem Lay.shaped {n : Nat} {d : PyData} (h : Lay n d) (hn : n ≤ 64 := by decide) : shaped d = true := by
 unfold SeqAt.shaped
 rw [h.1, Bool.true_and]
 exact decide_eq_true (Nat.le_trans h.2 hn)
theorem Lay.int (i : Int) : Lay 0 (.int i) := ⟨rfl, Nat.le_refl _⟩
theorem Lay.mono {n m : Nat} {d : PyData} (h : Lay n d) (hm : n ≤ m) : Lay m d := ⟨h.1, Nat.le_trans h.2 hm⟩
theorem lay_all {n : Nat} : ∀ {ds : List PyData}, (∀ d ∈ ds, Lay n d) → PyData.canLayAll0 ds = true ∧ PyData.depthAll ds ≤ n
 | [], _ => ⟨rfl, Nat.zero_le _⟩
 | d :: ds, h => by
  have h1 := h d List.mem_cons_self
  have h2 := lay_all fun e he => h e (List.mem_cons_of_mem _ he)
  refine ⟨by simp [PyData.canLayAll0, h1.1, h2.1], ?_⟩
  have a1 := h1.2
  have a2 := h2.2
  simp only [PyData.depthAll]
  omega
theorem Lay.list {n : Nat} {ds : List PyData} (h : ∀ d ∈ ds, Lay n d) : Lay (n + 1) (.list ds) := by
 have q := lay_all h
 refine ⟨by simp [PyData.canLay0, q.1], ?_⟩
 have := q.2
 simp only [PyData.depth]
 omega
theorem Lay.tuple {n : Nat} {ds : List PyData} (h : ∀ d ∈ ds, Lay n d) : Lay (n + 1) (.tuple ds) := by
 have q := lay_all h
 refine ⟨by simp [PyData.canLay0, q.1], ?_⟩
 have := q.2
 simp only [PyData.depth]
 omega
theorem Lay.ints (ns : List Int) : Lay 1 (intsD ns) := Lay.list fun d hd => by
 obtain ⟨i, _, rfl⟩ := List.mem_map.mp hd
 exact Lay.int i
theorem Lay.road (r : Road) : Lay 1 (roadD r) := Lay.tuple fun d hd => by
 rcases List.mem_cons.mp hd with rfl | hd
 ·exact Lay.int _
 ·rcases List.mem_cons.mp hd with rfl | hd
  ·exact Lay.int _
  ·rw [List.mem_singleton.mp hd]; exact Lay.int _
theorem Lay.roads (rs : List Road) : Lay 2 (roadsD rs) := Lay.list fun d hd => by
 obtain ⟨i, _, rfl⟩ := List.mem_map.mp hd
 exact Lay.road i
theorem Lay.net (n : Int) (rs : List Road) : Lay 3 (netD n rs) := Lay.tuple fun d hd => by
 rcases List.mem_cons.mp hd with rfl | hd
 ·exact (Lay.int _).mono (Nat.zero_le _)
 ·rw [List.mem_singleton.mp hd]; exact Lay.roads rs
theorem Lay.refl {n : Nat} {d : PyData} (h : Lay n d) : PyData.eqv d d = true := eqv_refl d h.1
end My
namespace My
open PySem L2
noncomputable def RoadB (n B : Int) (r : Road) : Prop := (0 ≤ r.1 ∧ r.1 < n) ∧ (0 ≤ r.2.1 ∧ r.2.1 < n) ∧ (-B ≤ r.2.2 ∧ r.2.2 ≤ B)
structure NetB (n B : Int) (most many : Nat) (rs : List Road) : Prop where
 n0 : 0 ≤ n
 n1 : n ≤ most
 len : rs.length ≤ many
 rd : ∀ r ∈ rs, RoadB n B r
theorem NetB.ok {n B : Int} {most many : Nat} {rs : List Road} (h : NetB n B most many rs) (h1 : most ≤ 20) (h2 : many ≤ 60) (h3 : B ≤ 1000000000) : NetOk n rs :=
 ⟨h.n0, by have := h.n1; omega, by have := h.len; omega, fun r hr => by
  obtain ⟨a, b, c⟩ := h.rd r hr
  exact ⟨a, b, by omega, by omega⟩⟩
theorem NetB.mono {n B B' : Int} {most many most' many' : Nat} {rs : List Road} (h : NetB n B most many rs) (h1 : most ≤ most') (h2 : many ≤ many') (h3 : B ≤ B') : NetB n B' most' many' rs :=
 ⟨h.n0, by have := h.n1; omega, by have := h.len; omega, fun r hr => by
  obtain ⟨a, b, c⟩ := h.rd r hr
  exact ⟨a, b, by omega, by omega⟩⟩
noncomputable def spNet : Sp := fun vs H Q _ => ∃ (q : Addr) (most many : Nat) (m : Int), vs = [.ref q, .int most, .int many] ∧ Pu H q m ∧ m ≤ 2 ^ 50 ∧ most ≤ 19 ∧ many ≤ 30 ∧
 ∀ (v : V) (n : Int) (rs : List Road) (H' : Hp), NetB n 300000000 most (2 * many) rs → Pu H' q (m + 2000) → SameX (But q) H H' → Dn H' (But q) v (netD n rs) → Q v H'
noncomputable def spAny : Sp := fun vs H Q _ => ∃ (q : Addr) (most many : Nat) (m : Int), vs = [.ref q, .int most, .int many] ∧ Pu H q m ∧ m ≤ 2 ^ 49 ∧ most ≤ 19 ∧ many ≤ 30 ∧
 ∀ (v : V) (n : Int) (rs : List Road) (H' : Hp), NetB n 400000000 most (4 * many + 1) rs → Pu H' q (m + 2100) → SameX (But q) H H' → Dn H' (But q) v (netD n rs) → Q v H'
theorem Pu.ne {H : Hp} {q l : Addr} {m : Int} (p : Pu H q m) (h : H l = none) : l ≠ q := fun e => by
 subst e
 obtain ⟨_, _, _, h1, _⟩ := p
 rw [h] at h1
 cases h1
theorem _root_.L2.SameX.back {P : Addr → Prop} {H H' : Hp} {f : Addr} (s : SameX P H H') (h : H' f = none) (np : ¬ P f) : H f = none := by
 cases e : H f with
 | none => rfl
 | some o => rw [s f o e np] at h; cases h
theorem pow8 : max ((10 : Int) ^ (Int.toNat 8)) 30 = 100000000 := by decide
theorem pick4 {x y z u : Int} {r : Int} (h0 : 0 ≤ r) (h1 : r < 4) : ∃ w, atI [V.int x, .int y, .int z, .int u] r = some (.int w) ∧ (w = x ∨ w = y ∨ w = z ∨ w = u) := by
 have : r = 0 ∨ r = 1 ∨ r = 2 ∨ r = 3 := by omega
 rcases this with rfl | rfl | rfl | rfl
 ·exact ⟨x, rfl, .inl rfl⟩
 ·exact ⟨y, rfl, .inr (.inl rfl)⟩
 ·exact ⟨z, rfl, .inr (.inr (.inl rfl))⟩
 ·exact ⟨u, rfl, .inr (.inr (.inr rfl))⟩
theorem at_intsV {hs : List Int} {k : Int} (h0 : 0 ≤ k) (h1 : k < hs.length) : ∃ x, atI (hs.map V.int) k = some (.int x) ∧ x ∈ hs := by
 obtain ⟨x, hx⟩ := at_in h0 h1
 refine ⟨x, ?_, List.mem_of_getElem? hx⟩
 have e : k = (k.toNat : Int) := by omega
 rw [e]
 exact atI_nat (by rw [List.getElem?_map, hx]; rfl)
theorem atI_in {α : Type} {xs : List α} {k : Int} (h0 : 0 ≤ k) (h1 : k < xs.length) : ∃ x, atI xs k = some x ∧ xs[k.toNat]? = some x := by
 obtain ⟨x, hx⟩ := at_in h0 h1
 refine ⟨x, ?_, hx⟩
 have e : k = (k.toNat : Int) := by omega
 rw [e]
 exact atI_nat (by simpa using hx)
end My


set_option Elab.async false
set_option linter.all false
set_option maxRecDepth 100000
set_option maxHeartbeats 4000000
namespace L2
open PySem PySem.Spec PySem.Calls PySem.W PyProof.Rows

structure XCls (K : Frag) (C : Addr) : Prop where
 ga : findIn K (.ref C) "__getattribute__" = some (some (.builtin "BaseException.__getattribute__"))
 gn : findIn K (.ref C) "__getattr__" = some none
 cl : findIn K (.ref C) "__class__" = some (some (.builtin "object.__class__"))
 sb : subIn K (.ref C) (.type "BaseException") = some true
 so : subIn K (.ref C) (.type "object") = some true
 is : (clsIn K C).isSome = true
 ex : excIn K C [.type "ValueError", .type "Exception", .type "BaseException", .type "object"] "ValueError.__new__" = true

section
variable {prog : Program} {w : World} {A : Around} {E : Value → Shared → Prop} {h : Heap} {g : Array GenState} {d : Drawn} {t : Nat} {os : OsState} {a C : Addr} {o : Obj} {K : Frag}

theorem xc_check {M : Model} {nameV : Value} {Q : Unit → Shared → Prop} (X : K.In h) (c : XCls K C) (hx : h.get? a = some o) (hc : o.cls = .ref C) (hq : Q () ⟨h, g, d, t, os⟩) :
  wpAny M A (checkBuiltinCall "BaseException.__getattribute__" ⟨[.ref a, nameV], []⟩) Q E ⟨h, g, d, t, os⟩ := by
 have hk : builtinKind "BaseException.__getattribute__" = some .slot := by decide +kernel
 have hsplit : splitId "BaseException.__getattribute__" = some ("BaseException", "__getattribute__") := by decide +kernel
 have L : Looks M h (isSubtype (.ref C) (.type "BaseException")) true := looks_subIn X c.sb
 have ha := F.args_bexc_ga (.ref a) nameV
 simp only [checkBuiltinCall, hk, hsplit]
 refine wpAny_bind ?_
 ·unfold isInstance
  repeat (first | (with_reducible refine wpAny_loadPart_at hx ?_; rw [hc]) | (with_reducible refine L.at ?_) | wp_step)
  exact hq

theorem xc_get {tp : Value} {R : Result → Shared → Prop} (X : K.In h) (c : XCls K C) (hx : h.get? a = some o) (hc : o.cls = .ref C) (hq : R (.ok (.ret (.ref C))) ⟨h, g, d, t, os⟩) :
  codeAny (model prog w) A (.call (.builtin "getset_descriptor.__get__") ⟨[.builtin "object.__class__", .ref a, tp], []⟩) R ⟨h, g, d, t, os⟩ := by
 have hT5 : (⟨h, g, d, t, os⟩ : Shared).TypeIs (.builtin "object.__class__") "getset_descriptor" := F.typeOf_object_class
 have L : Looks (model prog w) h (isSubtype (.ref C) (.type (".".intercalate ("object.__class__".cutAt '.').dropLast))) true := by rw [F.owner_object_class]; exact looks_subIn X c.so
 refine codeAny_call_builtin F.slot_gs_get.plain F.entry_gs_get (F.slot_gs_get.check _ _ _ _ _ _ _ _ hT5 (F.args_gs_get _ _ _) ?_)
 repeat (any_goals (first | assumption | (with_reducible refine wpAny_loadPart_at hx ?_; rw [hc]) | (with_reducible refine L.at ?_) | wp_step))
 refine ⟨Code.quiet_builtin _ (by decide +kernel), codeAny_builtin F.entry_object_class ?_⟩
 repeat (any_goals (first | assumption | (with_reducible refine wpAny_loadPart_at hx ?_; rw [hc]) | wp_step))

theorem xc_entry {tk : Tok} {Q : Fin → Shared → Prop} (X : K.In h) (c : XCls K C) (hx : h.get? a = some o) (hc : o.cls = .ref C) (hq : Q (.done (.ret (.ref C))) ⟨h, g, d, t, os⟩) :
  wpAny (model prog w) A (Builtin.«object.__getattribute__» ⟨[.ref a, .str "__class__" tk], []⟩) Q E ⟨h, g, d, t, os⟩ := by
 have hT5 : (⟨h, g, d, t, os⟩ : Shared).TypeIs (.builtin "object.__class__") "getset_descriptor" := F.typeOf_object_class
 have f5 := F.typeOf_object_class
 have f6 := F.slot_gs_get.lookup
 have f7 := F.slot_gs_set.lookup
 have L : Looks (model prog w) h (typeLookup (.ref C) "__class__") (some (.builtin "object.__class__")) := looks_findIn X c.cl
 repeat (any_goals (first | assumption | (with_reducible refine wpAny_loadPart_at hx ?_; rw [hc]) | with_reducible refine L.at ?_ | wp_step))
 refine xc_get X c hx hc ?_
 repeat (any_goals (first | assumption | wp_step))

theorem xc_call {tk : Tok} {R : Result → Shared → Prop} (X : K.In h) (c : XCls K C) (hx : h.get? a = some o) (hc : o.cls = .ref C) (hq : R (.ok (.ret (.ref C))) ⟨h, g, d, t, os⟩) :
  codeAny (model prog w) A (.call (.builtin "BaseException.__getattribute__") ⟨[.ref a, .str "__class__" tk], []⟩) R ⟨h, g, d, t, os⟩ :=
 codeAny_call_builtin F.excAttr_ValueError.ga.plain F.entry_bexc_ga (xc_check X c hx hc (xc_entry X c hx hc hq))

theorem xc_by {tk : Tok} {Q : Value → Shared → Prop} (X : K.In h) (c : XCls K C) (hx : h.get? a = some o) (hc : o.cls = .ref C) (hq : Q (.ref C) ⟨h, g, d, t, os⟩) :
  wpAny (model prog w) A (getAttrBy (.ref a) (.str "__class__" tk) false) Q E ⟨h, g, d, t, os⟩ := by
 have f3 := F.excAttr_ValueError.ga.bind (.ref a)
 have hx2 : (Value.builtin "BaseException.__getattribute__" == Value.builtin "object.__getattribute__") = false := by decide +kernel
 have hx1 : (onTheHeap (Value.ref C) && Value.builtin "BaseException.__getattribute__" == Value.builtin "object.__getattribute__") = false := by rw [hx2]; rfl
 have L1 : Looks (model prog w) h (typeLookup (.ref C) "__getattribute__") (some (.builtin "BaseException.__getattribute__")) := looks_findIn X c.ga
 have L2 : Looks (model prog w) h (typeLookup (.ref C) "__getattr__") none := looks_findIn X c.gn
 repeat (any_goals (first | assumption | (with_reducible refine wpAny_loadPart_at hx ?_; rw [hc]) | with_reducible refine L1.at ?_ | with_reducible refine L2.at ?_ | wp_step))
 refine xc_call X c hx hc ?_
 repeat (any_goals (first | assumption | wp_step))

theorem xc_attr {Q : Option Value → Shared → Prop} (X : K.In h) (c : XCls K C) (hx : h.get? a = some o) (hc : o.cls = .ref C) (hq : Q (some (.ref C)) ⟨h, g, d, t + 1, os⟩) : wpAny (model prog w) A (getAttr? (.ref a) "__class__") Q E ⟨h, g, d, t, os⟩ := by
 unfold getAttr? getAttrBy?
 repeat (any_goals (first | assumption | with_reducible apply xc_by X c hx hc | wp_step))

noncomputable def XAt (a C : Addr) (h : Heap) : Prop := ∃ o, h.get? a = some o ∧ o.cls = .ref C
theorem kitx_x (c : XCls K C) : KitX K (.ref a) (.ref C) (XAt a C) where
 ty := fun _ _ _ ⟨o, h1, h2⟩ => h2 ▸ (Looks.ld h1).andThen .now
 it := fun _ _ X _ => by
  have hcD := c.is
  unfold clsIn at hcD
  split at hcD
  ·rename_i c' d' cd' sl' ho
   intro A' Q' E' s' k q
   unfold isType loadHead
   exact wpAny_bind (wpAny_loadPart (k _ _ (X _ _ ho)) (wpAny_pure q))
  ·cases hcD
 ne := fun h tp dd its n sl X htp => by
  have hcD := c.is
  refine Bool.eq_false_iff.mpr fun q => ?_
  have e : C = tp := Value.ref.inj (beq_iff_eq.mp q)
  subst e
  unfold clsIn at hcD
  split at hcD
  ·rename_i c' d' cd' sl' ho
   have z := (X _ _ ho).symm.trans htp
   cases z
  ·cases hcD
 ca := fun {_ _ _ _ _ s} X ⟨o, hx, hc⟩ k => by
  obtain ⟨h, g, d, t, os⟩ := s
  exact xc_attr X c hx hc k
end
end L2


set_option Elab.async false
set_option linter.all false
set_option maxRecDepth 100000
set_option maxHeartbeats 4000000
namespace L2
open PySem PySem.Spec PySem.Calls PySem.W PyProof.Rows

structure FlyU (P : Program) (w : World) (base : Heap) (l : List Env) (H H' : Hp) (h B h' : Heap) : Prop where
 st : base.StaysIn B
 al : ∀ b o, h.get? b = some o → b ∉ frs l → ∃ o', B.get? b = some o'
 kp : ∀ b o, h.get? b = some o → H b = none → b ∉ frs l → B.get? b = some o
 tr : ∀ b u, H' b = some u → ∃ o, B.get? b = some o
 un : Un (frs l) [] H H' h h'
 ok : HOk P w H' h'

noncomputable def CXF (P : Program) (w : World) (base : Heap) : CXT := fun outer H s E e s' =>
 ∃ (ea : Addr) (cls a0 : Value) (H' : Hp) (B : Heap), e = .ref ea ∧ s'.os = s.os ∧ AllBare s'.gens ∧ FlyU P w base outer H H' s.heap B s'.heap ∧ Heap.FlyingW B outer ea cls a0 s'.heap ∧ E cls none H'

theorem frames_mem {h base : Heap} {l : List Env} (f : h.FunFrames base l) {b : Addr} (hb : b ∈ frs l) : base.get? b = none ∧ ∃ o, h.get? b = some o ∧ ∀ vs, o.data ≠ .fields vs := f.mem hb

theorem FlyU.step {P : Program} {w : World} {base : Heap} {l : List Env} {H H' : Hp} {h B h1 h2 : Heap} (F : FlyU P w base l H H' h B h1) (s1 : B.StaysIn h1) (s2 : B.StaysIn h2) (up : h1.UpToSlots h2) (fr : h1.FunFrames B l) :
  FlyU P w base l H H' h B h2 := by
 refine ⟨F.st, F.al, F.kp, F.tr, ⟨fun b o e n hb _ => s2 b o (F.kp b o e n hb), fun b o e n hb hx => ?_, F.un.free, fun b o e hx => ?_, F.un.tups, F.un.frzs, F.un.tbls⟩, fun a o e => ?_⟩
 ·obtain ⟨sl, e1⟩ := F.un.slot b o e n hb hx
  obtain ⟨_, o', e2, nf⟩ := frames_mem fr hb
  rw [e1] at e2
  cases e2
  obtain ⟨sl', e3⟩ := up b _ e1 nf
  exact ⟨sl', e3⟩
 ·by_cases hb : b ∈ frs l
  ·obtain ⟨_, o', e2, nf⟩ := frames_mem fr hb
   obtain ⟨sl', e3⟩ := up b _ e2 nf
   exact ⟨_, e3⟩
  ·obtain ⟨o', e'⟩ := F.al b o e hb
   exact ⟨o', s2 b o' e'⟩
 ·refine (F.ok a o e).stay (fun b u hb q => ?_) (fun _ q => q) fun _ _ q => q
  have ht : ∃ v, H' b = some v := by
   rcases hb with rfl | hb
   ·exact ⟨o, e⟩
   ·exact ⟨_, hb⟩
  obtain ⟨v, hv⟩ := ht
  obtain ⟨o', e'⟩ := F.tr b v hv
  have z := s1 b o' e'
  rw [q] at z
  cases z
  exact s2 b u e'

theorem obj_at {P : Program} {w : World} {H : Hp} {h : Heap} {a : Addr} {o : HO} (x : ObjOk P w H h a o) : ∃ ob, h.get? a = some ob := by
 cases o with
 | lst xs => obtain ⟨_, _, _, _, e⟩ := x; exact ⟨_, e⟩
 | tup xs => obtain ⟨_, _, _, ob, e, _⟩ := x; exact ⟨ob, e⟩
 | dK kvs => obtain ⟨_, _, _, _, o, _, _, e, _⟩ := x; exact ⟨_, e⟩
 | dT kvs => obtain ⟨_, _, _, _, o, _, _, e, _⟩ := x; exact ⟨_, e⟩
 | set S n => obtain ⟨o, _, _, _, e, _⟩ := x; exact ⟨_, e⟩
 | ins C dx fs => obtain ⟨_, _, _, e, _⟩ := x; exact ⟨_, e⟩
 | own y => exact x
 | xd fs => obtain ⟨_, ⟨_, _, _, e, _⟩, _⟩ := x; exact ⟨_, e⟩
 | rng lo hi => obtain ⟨_, _, _, e⟩ := x; exact ⟨_, e⟩
 | frz ob u => obtain ⟨e, _⟩ := x; exact ⟨_, e⟩
 | tbl ps => exact ⟨_, (show h.get? a = some _ from x)⟩
 | met f y => exact ⟨_, (show h.get? a = some _ from x)⟩
 | ext φ => obtain ⟨_, e, _⟩ := x; exact e
section
variable {X : Cx} {pins : List (Addr × Obj)} {σ : St} {H : Hp} {s : Shared}
noncomputable def bareH (X : Cx) (s : Shared) : Heap := hideAll s.heap (frs X.stack)
theorem Inv.fly (I : Inv X pins σ H s) (hs : X.stack = X.env :: X.outer) (hf : X.env.frame = some X.env.locals) (hx : X.ex = []) :
  (bareH X s).StaysIn s.heap ∧ s.heap.FunFrames (bareH X s) X.stack ∧ FlyU X.prog X.w X.base X.outer X.H₀ H X.s₀.heap (bareH X s) s.heap := by
 have nofr : ∀ b o, X.s₀.heap.get? b = some o → b ∉ frs X.outer → b ∉ frs X.stack := fun b o e hb hb' => by
  rcases List.mem_cons.mp (I.stkSub b hb') with z | z
  ·exact absurd (z ▸ Heap.lt_size e) (Nat.not_lt.mpr I.ok.above)
  ·exact hb z
 have nx : ∀ b : Addr, b ∉ X.ex := fun b z => by rw [hx] at z; cases z
 refine ⟨fun b o q => of_hideAll _ q, funFrames_hide I.stack fun env he b hb => List.mem_filterMap.mpr ⟨env, he, hb⟩, ⟨fun b o e => ?_, fun b o e hb => ?_, fun b o e n hb => ?_, fun b u e => ?_, ?_, I.hok⟩⟩
 ·refine hideAll_get _ (I.bk b o e) fun hm => ?_
  rw [(frames_mem I.stack hm).1] at e
  cases e
 ·obtain ⟨o', e'⟩ := I.base.there b o e (nx b)
  exact ⟨o', hideAll_get _ e' (nofr b o e hb)⟩
 ·exact hideAll_get _ (I.base.keep b o e n hb (nx b)) (nofr b o e hb)
 ·obtain ⟨o, ho⟩ : ∃ o, s.heap.get? b = some o := by
   exact obj_at (I.hok b u e)
  exact ⟨o, hideAll_get _ ho fun hm => by rw [I.stkFree b hm] at e; cases e⟩
 ·have q := I.base
  rw [hx] at q
  exact q

noncomputable def XeIs (X : Cx) (E : XK) : Prop := X.xe = fun e s' => wpAny (model X.prog X.w) X.A (leaving X.env e) (fun _ s'' => CXF X.prog X.w X.base X.outer X.H₀ X.s₀ E e s'') (fun e' s'' => CXF X.prog X.w X.base X.outer X.H₀ X.s₀ E e' s'') s'

theorem Inv.raised {E : XK} {C ea : Addr} {vs : List Value} {h2 : Heap} (I : Inv X pins σ H s) (hs : X.stack = X.env :: X.outer) (hf : X.env.frame = some X.env.locals) (hx : X.ex = []) (xe : XeIs X E)
  (m : Heap.MadeExcOf s.heap h2 ea (.ref C) vs) (q : E (.ref C) none H) : X.xe (.ref ea) { s with heap := h2 } := by
 unfold XeIs at xe
 rw [xe]
 obtain ⟨a1, a2, a3⟩ := I.fly hs hf hx
 rw [hs] at a2
 refine wpAny_leaves_madeW (s := { s with heap := h2 }) (h := s.heap) (by rw [I.ok.frames, hs]) hf a1 a2 m fun h' t f1 f2 f3 f4 => ?_
 refine ⟨ea, .ref C, .ref t, H, _, rfl, I.os, I.bare, ?_, f1, q⟩
 exact a3.step a1 f1.1 ((Heap.UpToSlots.of_keeps m.keeps).trans f4) (by obtain ⟨_, _, z⟩ := a2; exact z)

end

section
variable {X : Cx}
theorem xobj {K : Frag} {h : Heap} {C : Addr} (kin : K.In h) (c : XCls K C) : ∃ bm N nm q bs hdct sn sub ab col dd k0 k1 k2 k3 k5 mN, h.get? C = some (excClassObj nm q C N bs bm hdct sn sub ab col dd k0 k1 k2 k3 k5 "ValueError.__new__") ∧ h.Ns N mN ∧ mN "__init__" = none ∧
  OwnTail h [.type "ValueError", .type "Exception", .type "BaseException", .type "object"] bm := by
 have q := c.ex
 unfold excIn at q
 split at q
 ·rename_i dd cd sl ho
  split at q
  ·rename_i C' bm k0 k1 k2 k3 n k5 hm hs
   simp only [Bool.and_eq_true, beq_iff_eq, Bool.not_eq_true'] at q
   obtain ⟨⟨⟨⟨⟨rfl, rfl⟩, hdel⟩, ht⟩, hok⟩, hni⟩ := q
   obtain ⟨nm, bs, mro, ns, qn, hd, sn, sub, ab, col, del⟩ := cd
   dsimp only at hm hdel hok hni
   subst hm hdel
   have hsl : sl = #[k0, k1, k2, k3, some (.builtin "ValueError.__new__"), k5] := by
    obtain ⟨l⟩ := sl
    simp only at hs
    rw [hs]
   subst hsl
   exact ⟨bm, ns, nm, qn, bs, hd, sn, sub, ab, col, dd, k0, k1, k2, k3, k5, _, kin _ _ ho, .of_isNs (isNs_of_in kin hok), nsMap_none_of_in kin hok hni, tail_of_in kin ht⟩
  ·cases q
 ·cases q

noncomputable def tRaise (x : Str) (E : XK) (K : Frag) (mg : Str → Option Value) (t : TA) : TS := fun _ σ H => t σ H fun vs H1 => vs.length ≤ sizeLine ∧ ∃ C, mg x = some (.ref C) ∧ XCls K C ∧ E (.ref C) none H1
theorem ps_raise {x : Str} {E : XK} {np cpos pos : Pos} {e : Expr} {es : List Expr} {t : TA} (hs : X.stack = X.env :: X.outer) (hf : X.env.frame = some X.env.locals) (hx : X.ex = []) (hc : X.calm = true) (xe : XeIs X E) (hg : Gl X x) (hT : ∃ C, X.mg x = some (.ref C) ∧ XCls X.K C)
  (ha : PA X (e :: es) t) (he : starEach (e :: es) X.env = (false, eval e X.env) :: starEach es X.env := by rfl) (hpl : (backTo cpos (starEach es X.env)).any (·.1) = false := by rfl) (hd : (x == ("__debug__" : Str)) = false := by decide +kernel) :
  PS X (.Raise (some (.Call (.Name x np) (e :: es) [] cpos)) none pos) (tRaise x E X.K X.mg t) := by
 intro pins s σ H D I h
 obtain ⟨C, hm, c⟩ := hT
 obtain ⟨bm, N, nm, q, bs, hdct, sn, sub, ab, col, dd, k0, k1, k2, k3, k5, mN, hC, hN, hni, T⟩ := xobj I.mod.kin c
 have kk : ∀ {s' : Shared} {σ' : St} {H' : Hp}, Inv X pins σ' H' s' → ∀ b o, X.base.get? b = some o → s'.heap.get? b = some o := fun J => J.bk
 refine wpAny_Raise_call_subT (C := C) (nm := nm) (q := q) (N := N) (bs := bs) (bm := bm) (hdct := hdct) (sn := sn) (sub := sub) (ab := ab) (col := col) (dd := dd) (k0 := k0) (k1 := k1) (k2 := k2) (k3 := k3) (k5 := k5)
  F.excBase_ValueError (mN := mN) (T.hasType F.excBase_ValueError.hasBase) (I.ok.hd hc) (by rw [he]; show (false || (backTo cpos (starEach es X.env)).any (·.1)) = false; rw [hpl]; rfl) hni (ld_glob I hg hm ⟨rfl, ?_⟩ hd)
 have go := ha cpos pins s σ H _ I h
 rw [he] at go ⊢
 refine Calls.evalArgs_plain (wpAny_mono go (fun vs s2 h2 => ?_) fun _ _ y => y)
 obtain ⟨xs, H2, I2, r, z, C', hm', c', q'⟩ := h2
 rw [hm] at hm'
 cases hm'
 exact ⟨rfl, by rw [← r.length]; exact z, I2.bk _ _ hC, hN.keeps I2.bk, T.keeps I2.bk, fun h' ea m => I2.raised hs hf hx xe m q'⟩
end
end L2


set_option Elab.async false
set_option linter.all false
set_option maxRecDepth 100000
set_option maxHeartbeats 4000000
namespace L2
open PySem PySem.Spec PySem.Calls PySem.W PyProof.Rows

noncomputable abbrev Cx.hnd (X : Cx) (ea : Addr) : Cx := { X with A := X.A.mark (some (.ref ea)), calm := false, xe := fun _ _ => False }
section
variable {X : Cx} {pins : List (Addr × Obj)} {σ : St} {H : Hp} {s : Shared}
theorem Inv.hnd (I : Inv X pins σ H s) (ea : Addr) : Inv (X.hnd ea) pins σ H s :=
 ⟨⟨I.ok.mod, I.ok.kind, I.ok.glob, I.ok.blt, I.ok.above, I.ok.inj, I.ok.has, I.ok.cab, (fun z => nomatch z), I.ok.frames, I.ok.stk, I.ok.exf, I.ok.bs, I.ok.bsz, I.ok.noex, I.ok.exfs, I.ok.funs, I.ok.frf⟩, I.os, I.bare, I.base, I.loc, I.cell, I.free, I.freeC, I.pin, I.hok, I.len⟩
theorem Inv.unhnd {ea : Addr} (hd : X.calm = true → X.A.handled = none) (I : Inv (X.hnd ea) pins σ H s) : Inv X pins σ H s :=
 ⟨⟨I.ok.mod, I.ok.kind, I.ok.glob, I.ok.blt, I.ok.above, I.ok.inj, I.ok.has, I.ok.cab, hd, I.ok.frames, I.ok.stk, I.ok.exf, I.ok.bs, I.ok.bsz, I.ok.noex, I.ok.exfs, I.ok.funs, I.ok.frf⟩, I.os, I.bare, I.base, I.loc, I.cell, I.free, I.freeC, I.pin, I.hok, I.len⟩

theorem Inv.gone {j : Nat} {n : Str} {h' : Heap} {v : Option Value} {t' : Nat} {m : Str → Option Value} (I : Inv X pins σ H s) (hN : X.N.Nodup) (hj : X.N[j]? = some n) (hk : X.env.kindOf n = some .local)
  (hm : ∀ (i : Nat) (x : Str) (v : V), X.N[i]? = some x → σ[i]? = some (some v) → Vis X.env.scope x → ∃ u, RelV v u ∧ Look X.env s.heap m x u)
  (hn0 : s.heap.Ns X.env.locals m) (hn' : h'.Ns X.env.locals (fun x => if x = n then v else m x)) (hs : Heap.SameBut X.env.locals s.heap h') : Inv X pins (σ.set j none) H { s with heap := h', toks := t' } := by
 have tracked : HOk X.prog X.w H h' := fun b ob e => by
  refine (I.hok b ob e).stay (fun c w' hc q => (hs.2 c ?_).trans q) (fun _ q => q) fun _ _ q => q
  rintro rfl
  rcases hc with rfl | hc
  ·rw [I.free] at e; cases e
  ·rw [I.free] at hc; cases hc
 have neL : ∀ b o, X.s₀.heap.get? b = some o → b ≠ X.env.locals := fun b o e => Nat.ne_of_lt (Nat.lt_of_lt_of_le (Heap.lt_size e) I.ok.above)
 refine ⟨I.ok, I.os, I.bare, ⟨fun b o e n hb hx => (hs.2 b (neL b o e)).trans (I.base.keep b o e n hb hx), fun b o e n hb hx => ?_, I.base.free, fun b o e hx => ?_, I.base.tups, I.base.frzs, I.base.tbls⟩, ⟨_, hn', fun i y v' e1 e2 e3 => ?_⟩, fun y c e => ?_, I.free, I.freeC, fun p hp => ?_, tracked, by simpa using I.len⟩
 ·obtain ⟨sl, e1⟩ := I.base.slot b o e n hb hx
  exact ⟨sl, (hs.2 b (neL b o e)).trans e1⟩
 ·obtain ⟨o', e1⟩ := I.base.there b o e hx
  exact ⟨o', (hs.2 b (neL b o e)).trans e1⟩
 ·by_cases hij : i = j
  ·subst hij
   by_cases hl : i < σ.length
   ·rw [List.getElem?_set_self hl] at e2
    cases e2
   ·rw [List.getElem?_eq_none (by rw [List.length_set]; omega)] at e2
    cases e2
  ·rw [List.getElem?_set_ne (Ne.symm hij)] at e2
   obtain ⟨u', r', q⟩ := hm i y v' e1 e2 e3
   refine ⟨u', r', ?_⟩
   rcases q with ⟨k, e⟩ | ⟨k, c, e, z⟩
   ·refine .inl ⟨k, ?_⟩
    have : y ≠ n := fun e => hij (nodup_ix hN e1 (e ▸ hj))
    simp [this, e]
   ·exact .inr ⟨k, c, e, z.sameBut hs (I.cne y c e)⟩
 ·obtain ⟨w', z⟩ := I.cell y c e
  exact ⟨w', z.sameBut hs (I.cne y c e)⟩
 ·obtain ⟨e, n, ne, nf, d⟩ := I.pin p hp
  exact ⟨(hs.2 p.1 ne).trans e, n, ne, nf, d⟩

theorem xat_of {B h : Heap} {l : List Env} {ea C : Addr} {a0 : Value} (f : Heap.FlyingW B l ea (.ref C) a0 h) : XAt ea C h := f.there
theorem ext_x {P : Program} {w : World} {H : Hp} {h : Heap} {ea C : Addr} (x : XAt ea C h) : ObjOk P w H h ea (.ext (XAt ea C)) := by
 refine ⟨x, ?_, fun h1 h2 ⟨o, e1, e2⟩ k => ⟨o, k o e1, e2⟩⟩
 obtain ⟨o, e, _⟩ := x
 exact ⟨o, e⟩

theorem ld_globA {A : Around} {E : Value → Shared → Prop} {x : Str} {u : Value} {pos : Pos} {Q : Value → Shared → Prop} (I : Inv X pins σ H s) (hg : Gl X x) (hm : X.mg x = some u) (h : Q u s)
  (hd : (x == ("__debug__" : Str)) = false) : wpAny (model X.prog X.w) A (eval (.Name x pos) X.env) Q E s :=
 Calls.Name_function_global I.ok.kind hg (Calls.loadGlobal_global (by rw [I.ok.glob]; exact I.mod.glob.keeps I.bk) hm h) hd

theorem Inv.caught {H' : Hp} {B h' : Heap} {ea C : Addr} {a0 : Value} {s' : Shared} (I : Inv X pins σ H s) (F : FlyU X.prog X.w X.base X.stack H H' s.heap B h') (f : Heap.FlyingW B X.stack ea (.ref C) a0 h') (os : s'.os = s.os) (ba : AllBare s'.gens) :
  H' ea = none ∧ Inv X pins σ (upd H' ea (.ext (XAt ea C))) { s' with heap := h' } := by
 have hn : H' ea = none := by
  cases q : H' ea with
  | none => rfl
  | some u =>
   obtain ⟨o, e⟩ := F.tr ea u q
   rw [f.2.1] at e
   cases e
 have nea : ∀ b o, s.heap.get? b = some o → b ≠ ea := fun b o e z => by
  subst z
  by_cases hb : b ∈ frs X.stack
  ·obtain ⟨_, o', e2, nf⟩ := frames_mem f.2.2.1 hb
   obtain ⟨oe, vs, e3, _, hd, _⟩ := f.first
   rw [e2] at e3
   cases e3
   exact nf _ hd
  ·obtain ⟨o', e'⟩ := F.al b o e hb
   rw [f.2.1] at e'
   cases e'
 have ne' : ∀ b u, H' b = some u → b ≠ ea := fun b u e z => by rw [z, hn] at e; cases e
 refine ⟨hn, I.call' (ch := []) (s' := { s' with heap := h' }) os ⟨F.un.keep, F.un.slot, fun b o e n hx => ?_, F.un.there, fun b xs e => ?_, fun b o u e => ?_, fun b ps e => ?_⟩ (fun b u e => ?_) ba (fun b z => nomatch z)⟩
 ·rw [upd_ne (nea b o e)]
  exact F.un.free b o e n hx
 ·have z := F.un.tups b xs e
  rw [upd_ne (ne' _ _ z)]
  exact z
 ·have z := F.un.frzs b o u e
  rw [upd_ne (ne' _ _ z)]
  exact z
 ·obtain ⟨more, z⟩ := F.un.tbls b ps e
  exact ⟨more, by rw [upd_ne (ne' _ _ z)]; exact z⟩
 ·by_cases hb : b = ea
  ·subst hb
   rw [upd_same] at e
   cases e
   exact ext_x (xat_of f)
  ·rw [upd_ne hb] at e
   exact (F.ok b u e).stay (fun _ _ _ q => q) (fun c q => by rw [upd_ne (ne' _ _ q)]; exact q) fun c xs q => by rw [upd_ne (ne' _ _ q)]; exact q
end

noncomputable def PB (X : Cx) (body : List Stmt) (tb : XK → TS) : Prop := ∀ (E : XK) (pins : List (Addr × Obj)) (s : Shared) (σ : St) (H : Hp) (D : Ends), Inv X pins σ H s → tb E D σ H →
 wpAny (model X.prog X.w) X.A (execs body X.env) (SP X pins D) (fun e s' => ∃ H1 s1, Inv X pins σ H1 s1 ∧ CXF X.prog X.w X.base X.stack H1 s1 E e s') s

noncomputable def tTry (tb : XK → TS) (th : TS) (j : Nat) (r : Str) (K : Frag) (mg : Str → Option Value) : TS := fun D σ H =>
 tb (fun cls _ H' => ∃ C R, cls = .ref C ∧ mg r = some (.ref R) ∧ exmOne K (.ref C) (.ref R) = some true ∧ ∀ ea, H' ea = none →
  th { nx := fun σ' H2 => D.nx (σ'.set j none) H2, rt := D.rt, bk := fun σ' H2 => D.bk (σ'.set j none) H2, ct := fun σ' H2 => D.ct (σ'.set j none) H2 } (σ.set j (some (.ref ea))) (upd H' ea (.ext (XAt ea C)))) D σ H

section
variable {X : Cx}
theorem ps_try {body : List Stmt} {tb : XK → TS} {th : TS} {j : Nat} {r n : Str} {b0 : Stmt} {suite : List Stmt} {np hp pos : Pos} (hs : X.stack = X.env :: X.outer) (hf : X.env.frame = some X.env.locals) (hN : X.N.Nodup) (hj : X.N[j]? = some n)
  (hk : X.env.kindOf n = some .local) (hl : Loc X.env.scope n) (hg : Gl X r) (hb : PB X body tb) (hh : ∀ ea, PSs (X.hnd ea) (b0 :: suite) th) (hd : (r == ("__debug__" : Str)) = false := by decide +kernel)
  (hfn : X.fn n = true ∨ X.env.scope.names.lookup n = some .local := by first | exact .inl rfl | exact .inr rfl | assumption) :
  PS X (.Try body [.ExceptHandler (some (.Name r np)) (some n) (b0 :: suite) hp] [] [] pos) (tTry tb th j r X.K X.mg) := by
 intro pins s σ H D I h
 refine wpAny_Try_except (wpAny_mono (hb _ pins s σ H D I h) (fun f s1 q => ?_) fun e s1 q => ?_)
 ·cases f with
  | next => exact wpAny_execs_nil q
  | ret v => exact q
  | brk => exact q
  | cont => exact q
 ·obtain ⟨H1, s0, I0, ea, cls, a0, H', B, rfl, os, ba, F, fl, C, R, rfl, hm, hx, q⟩ := q
  have fl' := fl
  rw [hs] at fl'
  refine wpAny_looks_onW (by rw [I.ok.frames, hs]) hf fl' fun h4 held up4 => ?_
  refine wpAny_landsW held fun h5 fl5 up5 => ?_
  have F5 := F.step fl.1 fl5.1 (up4.trans up5) fl.2.2.1
  rw [← hs] at fl5
  obtain ⟨hn, I5⟩ := I0.caught (s' := s1) F5 fl5 os ba
  refine wpAny_handleBy_cons (codeAny_handlers_test (ld_globA I5 hg hm ?_ hd)) (by intro q; cases q)
  have LT : Looks (model X.prog X.w) h5 (typeOf (.ref ea)) (.ref C) := by
   obtain ⟨o, e1, e2⟩ := fl5.there
   exact e2 ▸ (Looks.ld e1).andThen .now
  refine (exm_one I5.kIn LT hx).here ?_
  refine codeAny_handlers_suite_as (lands_againW fl5 fun h6 fl6 up6 => ?_)
  have F6 := F5.step fl5.1 fl6.1 up6 fl5.2.2.1
  obtain ⟨_, I6⟩ := I0.caught (s' := s1) F6 fl6 os ba
  refine store_ok I6 hN hj hl (v := .ref ea) rfl (fun s7 I7 => ?_) hfn
  refine wpAny_mono (hh ea pins s7 _ _ _ (I7.hnd ea) (q ea hn)) (fun f s8 z => ?_) fun _ _ z => z.elim
  have away : ∀ (σ' : St) (H2 : Hp) (Q : Unit → Shared → Prop), Inv (X.hnd ea) pins σ' H2 s8 → (∀ s9, Inv X pins (σ'.set j none) H2 s9 → Q () s9) →
    wpAny (model X.prog X.w) X.A (do bindName X.env n .none; unbindBehindTheSuite X.env n hp) Q X.xe s8 := fun σ' H2 Q J k => by
   have J' := J.unhnd I.ok.hd
   obtain ⟨m, hn0, hl0⟩ := id J'.loc
   refine wpAny_nameGoes_keeps hk hn0 (by rw [I.ok.kind]; rfl) fun h' v hn' hsb => k _ (J'.gone hN hj hk hl0 hn0 hn' hsb)
  cases f with
  | next =>
   obtain ⟨σ', H2, J, z⟩ := z
   exact away σ' H2 _ J fun s9 J9 => ⟨_, _, J9, z⟩
  | brk =>
   obtain ⟨σ', H2, J, z⟩ := z
   exact away σ' H2 _ J fun s9 J9 => ⟨_, _, J9, z⟩
  | cont =>
   obtain ⟨σ', H2, J, z⟩ := z
   exact away σ' H2 _ J fun s9 J9 => ⟨_, _, J9, z⟩
  | ret v =>
   obtain ⟨v, σ', H2, J, r, z⟩ := z
   exact away σ' H2 _ J fun s9 J9 => ⟨_, _, _, J9, r, z⟩

structure CalleeX (P : Program) (w : World) (K : PySem.W.Frag) (mg : Str → Option Value) (base : Heap) (x : Str) (ps : List Str) (k : Nat) (sp : Sp) : Prop where
 ex : ∃ (f : Addr) (fd : FuncData), mg x = some (.ref f) ∧ PySem.W.keepIn K (.ref f) = true ∧ Binds K fd ps [] ∧ FnOk P w K mg base (CXF P w base) k f fd ps sp

theorem run_X {k : Nat} {f : Addr} {fd : FuncData} {ps : List Str} {sp : Sp} {E : XK} {pins : List (Addr × Obj)} {σ : St} {H : Hp} {s : Shared} {Q : VK} {us : List Value} {vs : List V} (F : FnOk X.prog X.w X.K X.mg X.base (CXF X.prog X.w X.base) k f fd ps sp) (hr : Room k X.A) (hb : Binds X.K fd ps [])
  (I : Inv X pins σ H s) (r : Vals vs us) (h : sp vs H Q E) : wpAny (model X.prog X.w) X.A (call (.ref f) us) (EP X pins σ Q) (fun e s' => ∃ H1 s1, Inv X pins σ H1 s1 ∧ CXF X.prog X.w X.base X.stack H1 s1 E e s') s := by
 have hl : (us ++ []).length = ps.length := by rw [List.append_nil, ← r.length]; exact F.len _ _ _ _ h
 have hb' := hb s us I.kIn hl
 rw [List.append_nil] at hb'
 refine wpAny_call (codeAny_mono (F.run X.A X.stack s H ⟨us, []⟩ us vs Q E hr I.env0 hb' r h) fun r s' hq => ?_)
 cases r with
 | error e => exact ⟨H, s, I, hq⟩
 | ok fl =>
  cases fl with
  | ret u => exact I.after hq
  | next => exact False.elim hq
  | brk => exact False.elim hq
  | cont => exact False.elim hq

theorem ev_X {k j : Nat} {ps : List Str} {sp : Sp} {E : XK} {x : Str} {p pos : Pos} {e : Expr} {es : List Expr} {t : TA} {pins : List (Addr × Obj)} {σ : St} {H : Hp} {s : Shared} {Q : VK} (C : CalleeX X.prog X.w X.K X.mg X.base x ps k sp) (hr : Room j X.A) (hj : k ≤ j) (hg : Gl X x) (hne : ∀ e s, ¬ X.xe e s) (ha : PA X (e :: es) t)
  (hdb : (x == ("__debug__" : Str)) = false) (he : starEach (e :: es) X.env = (false, eval e X.env) :: starEach es X.env) (hpl : (backTo pos (starEach es X.env)).any (·.1) = false)
  (I : Inv X pins σ H s) (h : t σ H fun vs H1 => sp vs H1 Q E) :
  wpAny (model X.prog X.w) X.A (eval (.Call (.Name x p) (e :: es) [] pos) X.env) (EP X pins σ Q) (fun e s' => ∃ H1 s1, Inv X pins σ H1 s1 ∧ CXF X.prog X.w X.base X.stack H1 s1 E e s') s := by
 obtain ⟨f, fd, h1, h2, h3, h4⟩ := C.ex
 refine wpAny_Call_Name_kw (ld_globA I hg h1 ?_ hdb)
 refine PySem.W.callWith_K (h₀ := X.base) I.ok.mod.kin h2 (wpAny_mono (ha pos pins s σ H _ I h) (fun us s1 ⟨vs, H1, I1, r, q⟩ => ⟨I1.kIn, ?_⟩) fun e s z => (hne e s z).elim) he hpl
 exact run_X h4 (hr.mono hj) h3 I1 r q

noncomputable def tbSet (sp : Sp) (i : Nat) (t : TA) : XK → TS := fun E D σ H => t σ H fun vs H1 => sp vs H1 (fun v H2 => D.nx (σ.set i (some v)) H2) E
theorem pb_set {k j i : Nat} {ps : List Str} {sp : Sp} {x y : Str} {p py pos apos : Pos} {e : Expr} {es : List Expr} {t : TA} (hN : X.N.Nodup) (hi : X.N[i]? = some y) (hx : Loc X.env.scope y) (C : CalleeX X.prog X.w X.K X.mg X.base x ps k sp) (hr : Room j X.A) (hj : k ≤ j) (hg : Gl X x) (hne : ∀ e s, ¬ X.xe e s) (ha : PA X (e :: es) t)
  (hdb : (x == ("__debug__" : Str)) = false := by decide +kernel) (he : starEach (e :: es) X.env = (false, eval e X.env) :: starEach es X.env := by rfl) (hpl : (backTo pos (starEach es X.env)).any (·.1) = false := by rfl)
  (hs : swapsWith (.Call (.Name x p) (e :: es) [] pos) (some (.Name y py)) apos.line X.env = pure false := by rfl)
  (hf : X.fn y = true ∨ X.env.scope.names.lookup y = some .local := by first | exact .inl rfl | exact .inr rfl | assumption) :
  PB X [.Assign [.Name y py] (.Call (.Name x p) (e :: es) [] pos) apos] (tbSet sp i t) := by
 intro E pins s σ H D I h
 refine wpAny_execs_cons (wpAny_Assign_Name (thn (ev_X C hr hj hg hne ha hdb he hpl I h) fun v s1 ⟨z, H1, I1, r1, q1⟩ => ?_) hs)
 exact store_ok I1 hN hi hx r1 (fun s2 I2 => wpAny_execs_nil ⟨_, H1, I2, q1⟩) hf
end
end L2


set_option Elab.async false
set_option linter.all false
set_option maxRecDepth 100000
set_option maxHeartbeats 4000000
namespace L2
open PySem PySem.Spec PySem.Calls PySem.W PyProof.Rows

noncomputable def ItZ (l1 l2 : Addr) : It :=
  ⟨fun i H => ∃ xs x ys y, H l1 = some (.lst xs) ∧ xs[i]? = some x ∧ H l2 = some (.lst ys) ∧ ys[i]? = some y,
   fun i H v H' => ∃ t x y, v = .ref t ∧ H t = none ∧ H' = upd H t (.tup [x, y]) ∧ (∀ xs, H l1 = some (.lst xs) → xs[i]? = some x) ∧ ∀ ys, H l2 = some (.lst ys) → ys[i]? = some y,
   fun i H => ∃ xs ys, H l1 = some (.lst xs) ∧ H l2 = some (.lst ys) ∧ (xs.length ≤ i ∨ ys.length ≤ i)⟩
structure ZA (z TI TO i1 i2 : Addr) : Prop where
 TIz : TI ≠ z
 TOz : TO ≠ z
 i1z : i1 ≠ z
 i2z : i2 ≠ z
 TITO : TI ≠ TO
 TIi1 : TI ≠ i1
 TIi2 : TI ≠ i2
 TOi1 : TO ≠ i1
 TOi2 : TO ≠ i2
 i12 : i1 ≠ i2
theorem ZA.apart {z TI TO i1 i2 l1 l2 : Addr} (D : ZA z TI TO i1 i2) {H : Hp} {o1 o2 : HO} (h1 : H l1 = some o1) (h2 : H l2 = some o2) (hf : ∀ b ∈ [z, TI, TO, i1, i2], H b = none) : ZipApart z TI TO i1 i2 l1 l2 :=
 ⟨D.TIz, D.TOz, D.i1z, D.i2z, D.TITO, D.TIi1, D.TIi2, D.TOi1, D.TOi2, D.i12, ne_of_none h1 (hf _ (by simp)), ne_of_none h1 (hf _ (by simp)), ne_of_none h1 (hf _ (by simp)), ne_of_none h1 (hf _ (by simp)),
  ne_of_none h2 (hf _ (by simp)), ne_of_none h2 (hf _ (by simp)), ne_of_none h2 (hf _ (by simp)), ne_of_none h2 (hf _ (by simp))⟩
theorem turn_Z {P : Program} {w : World} {K : PySem.W.Frag} {elts : List Expr} {k : Nat} {tp : Pos} (l1 l2 z TI TO i1 i2 : Addr) (D : ZA z TI TO i1 i2) :
  Turn P w K (.Tuple elts k tp) (ItZ l1 l2) [z, TI, TO, i1, i2] z (fun i h => IsZip h z TI TO .none ∧ IsPair h TI (.ref i1) (.ref i2) ∧ (∃ a b, IsPair h TO a b) ∧ h.IsListIter i1 l1 i ∧ h.IsListIter i2 l2 i) where
 mem := by simp
 obj := fun i h st b hb => by
  obtain ⟨hz, hTI, ⟨a, c, hTO⟩, ⟨o1, ho1, hc1, hd1⟩, ⟨o2, ho2, hc2, hd2⟩⟩ := st
  simp only [List.mem_cons, List.not_mem_nil, or_false] at hb
  rcases hb with rfl | rfl | rfl | rfl | rfl
  ·exact ⟨_, hz, fun v z => by cases z⟩
  ·exact ⟨_, hTI, fun v z => by cases z⟩
  ·exact ⟨_, hTO, fun v z => by cases z⟩
  ·exact ⟨_, ho1, fun v z => by rw [hd1] at z; cases z⟩
  ·exact ⟨_, ho2, fun v z => by rw [hd2] at z; cases z⟩
 keep := fun i h h' st kk => by
  obtain ⟨hz, hTI, ⟨a, c, hTO⟩, h1, h2⟩ := st
  exact ⟨kk z (by simp) _ hz, kk TI (by simp) _ hTI, ⟨a, c, kk TO (by simp) _ hTO⟩, h1.at fun o q => kk i1 (by simp) o q, h2.at fun o q => kk i2 (by simp) o q⟩
 item := by
  intro X hP hw hK hc i pins s σ H E I hf st hg
  subst hP hw hK
  obtain ⟨hz, hTI, ⟨a, c, hTO⟩, h1, h2⟩ := st
  obtain ⟨xs, x, ys, y, hq1, hx, hq2, hy⟩ := hg
  obtain ⟨its1, rv1, p1, hz1⟩ := I.list (SqL.of hq1)
  obtain ⟨its2, rv2, p2, hz2⟩ := I.list (SqL.of hq2)
  obtain ⟨u1, hu1, ru1⟩ := rv1.get hx
  obtain ⟨u2, hu2, ru2⟩ := rv2.get hy
  have DA := D.apart hq1 hq2 (fun b hb => (hf b hb).1)
  refine wpAny_pyNext_zip_item DA hz hTI hTO h1 h2 p1.isList p2.isList (x := u1) (y := u2) (by simpa using hu1) (by simpa using hu2) fun h' a1 a2 a3 a4 a5 a6 hk => ?_
  refine ⟨_, rfl, wpAny_letOwnedTupleGo_zip a1 fun h'' hz'' hs'' => ?_⟩
  have hfresh : H s.heap.objs.size = none := I.hok.fresh (Nat.le_refl _)
  have zlt : z < s.heap.objs.size := Heap.lt_size hz
  have kk : ∀ b o, b ≠ z → b ≠ TO → b ≠ i1 → b ≠ i2 → s.heap.get? b = some o → h''.get? b = some o := fun b o n1 n2 n3 n4 q => (hs''.2 b n1).trans (hk b o n1 n2 n3 n4 q)
  have hT'' : h''.get? s.heap.objs.size = some { cls := .type "tuple", data := .seq #[u1, u2] } := (hs''.2 _ (Nat.ne_of_gt zlt)).trans a5
  have nf : ∀ b u', H b = some u' → ∀ c ∈ [z, TI, TO, i1, i2], b ≠ c := fun b u' q c hc e => by rw [e, (hf c hc).1] at q; cases q
  have nc : ∀ b, b ∉ [z, TI, TO, i1, i2] → b ≠ z ∧ b ≠ TO ∧ b ≠ i1 ∧ b ≠ i2 := fun b hb => ⟨fun e => hb (by simp [e]), fun e => hb (by simp [e]), fun e => hb (by simp [e]), fun e => hb (by simp [e])⟩
  have J : Inv X pins σ (upd H s.heap.objs.size (.tup [x, y])) { s with heap := h'', toks := s.toks } := by
   refine I.step (h' := h'') (g' := s.gens) (d' := s.drawn) (t' := s.toks) (ch := [z, TI, TO, i1, i2]) (fun b hb => ?_) (fun b o _ _ hcn q _ => kk b o (nc b hcn).1 (nc b hcn).2.1 (nc b hcn).2.2.1 (nc b hcn).2.2.2 q)
    (fun b o _ _ hcn q _ => ⟨o.slots, kk b o (nc b hcn).1 (nc b hcn).2.1 (nc b hcn).2.2.1 (nc b hcn).2.2.2 q⟩) (fun b o _ q nn => by rw [upd_ne (Nat.ne_of_lt (Heap.lt_size q))]; exact nn)
    (fun b o hcn q => ⟨o, kk b o (nc b hcn).1 (nc b hcn).2.1 (nc b hcn).2.2.1 (nc b hcn).2.2.2 q⟩) (fun b ys q => by rw [upd_ne (ne_of_none q hfresh)]; exact q) (fun b o u' q => by rw [upd_ne (ne_of_none q hfresh)]; exact q)
    (fun b ps q => ⟨#[], by rw [upd_ne (ne_of_none q hfresh), q]; simp⟩) (fun m hm => ?_) ?_ I.bare
   ·obtain ⟨f0, f1, f2, f3, f4, f5⟩ := hf b hb
    exact ⟨f3, f1, f4, f5⟩
   ·obtain ⟨o, es, ep, hoL, r⟩ := hm
    exact ⟨o, es, ep, kk _ o (fun e => (hf z (by simp)).2.1 e.symm) (fun e => (hf TO (by simp)).2.1 e.symm) (fun e => (hf i1 (by simp)).2.1 e.symm) (fun e => (hf i2 (by simp)).2.1 e.symm) hoL, r⟩
   ·intro b u' q
    by_cases hb : b = s.heap.objs.size
    ·subst hb
     rw [upd_same] at q
     cases q
     exact ⟨by show 2 ≤ sizeLine; decide, [u1, u2], .cons ru1 (.cons ru2 .nil), ⟨_, hT'', rfl, _, rfl⟩⟩
    ·rw [upd_ne hb] at q
     refine (I.hok b u' q).stay (fun c v hcc qq => ?_) (fun c qq => by rw [upd_ne (ne_of_none qq hfresh)]; exact qq) fun c ys qq => by rw [upd_ne (ne_of_none qq hfresh)]; exact qq
     have nn : ∀ e ∈ [z, TI, TO, i1, i2], c ≠ e := by
      rcases hcc with e | e
      ·rw [e]; exact nf b u' q
      ·exact nf c _ e
     exact kk c v (nn _ (by simp)) (nn _ (by simp)) (nn _ (by simp)) (nn _ (by simp)) qq
  have up : ∀ b o, b ≠ z → h'.get? b = some o → h''.get? b = some o := fun b o n q => (hs''.2 b n).trans q
  refine ⟨.ref s.heap.objs.size, _, J, rfl, ⟨_, x, y, rfl, hfresh, rfl, fun zs hy' => by rw [hq1] at hy'; cases hy'; exact hx, fun zs hy' => by rw [hq2] at hy'; cases hy'; exact hy⟩,
   ⟨hz'', up _ _ D.TIz (hk _ _ D.TIz D.TITO D.TIi1 D.TIi2 hTI), ⟨_, _, up _ _ D.TOz a2⟩, a3.at fun o q => up _ o D.i1z q, a4.at fun o q => up _ o D.i2z q⟩, fun b hb => ?_⟩
  rw [upd_ne]
  ·exact (hf b hb).1
  ·obtain ⟨o1, ho1, _⟩ := h1
   obtain ⟨o2, ho2, _⟩ := h2
   simp only [List.mem_cons, List.not_mem_nil, or_false] at hb
   rcases hb with rfl | rfl | rfl | rfl | rfl
   ·exact Nat.ne_of_lt zlt
   ·exact Nat.ne_of_lt (Heap.lt_size hTI)
   ·exact Nat.ne_of_lt (Heap.lt_size hTO)
   ·exact Nat.ne_of_lt (Heap.lt_size ho1)
   ·exact Nat.ne_of_lt (Heap.lt_size ho2)
 done := by
  intro X hP hw hK hc i pins s σ H E I hf st hg
  subst hP hw hK
  obtain ⟨hz, hTI, ⟨a, c, hTO⟩, h1, h2⟩ := st
  obtain ⟨xs, ys, hq1, hq2, hx⟩ := hg
  obtain ⟨its1, rv1, p1, hz1⟩ := I.list (SqL.of hq1)
  obtain ⟨its2, rv2, p2, hz2⟩ := I.list (SqL.of hq2)
  have hl1 := rv1.length
  have hl2 := rv2.length
  have DA := D.apart hq1 hq2 (fun b hb => (hf b hb).1)
  refine wpAny_pyNext_zip_end (I.ok.hd hc) DA hz hTI hTO h1 h2 p1.isList p2.isList (by simp; omega) fun h' kk => ⟨rfl, ?_⟩
  have nf : ∀ b u', H b = some u' → ∀ c ∈ [z, TI, TO, i1, i2], b ≠ c := fun b u' q c hc e => by rw [e, (hf c hc).1] at q; cases q
  have nc : ∀ b, b ∉ [z, TI, TO, i1, i2] → b ≠ z ∧ b ≠ TO ∧ b ≠ i1 ∧ b ≠ i2 := fun b hb => ⟨fun e => hb (by simp [e]), fun e => hb (by simp [e]), fun e => hb (by simp [e]), fun e => hb (by simp [e])⟩
  refine I.step (h' := h') (g' := s.gens) (d' := s.drawn) (t' := s.toks) (ch := [z, TI, TO, i1, i2]) (fun b hb => ?_) (fun b o _ _ hcn q _ => kk b o (nc b hcn).1 (nc b hcn).2.1 (nc b hcn).2.2.1 (nc b hcn).2.2.2 q)
   (fun b o _ _ hcn q _ => ⟨o.slots, kk b o (nc b hcn).1 (nc b hcn).2.1 (nc b hcn).2.2.1 (nc b hcn).2.2.2 q⟩) (fun b o _ q nn => nn)
   (fun b o hcn q => ⟨o, kk b o (nc b hcn).1 (nc b hcn).2.1 (nc b hcn).2.2.1 (nc b hcn).2.2.2 q⟩) (fun b ys q => q) (fun b o u' q => q)
   (fun b ps q => ⟨#[], by rw [q]; simp⟩) (fun m hm => ?_) (fun b u' q => ?_) I.bare
  ·obtain ⟨f0, f1, f2, f3, f4, f5⟩ := hf b hb
   exact ⟨f3, f1, f4, f5⟩
  ·obtain ⟨o, es, ep, hoL, r⟩ := hm
   exact ⟨o, es, ep, kk _ o (fun e => (hf z (by simp)).2.1 e.symm) (fun e => (hf TO (by simp)).2.1 e.symm) (fun e => (hf i1 (by simp)).2.1 e.symm) (fun e => (hf i2 (by simp)).2.1 e.symm) hoL, r⟩
  ·refine (I.hok b u' q).stay (fun c v hcc qq => ?_) (fun c qq => qq) fun c ys qq => qq
   have nn : ∀ e ∈ [z, TI, TO, i1, i2], c ≠ e := by
    rcases hcc with e | e
    ·rw [e]; exact nf b u' q
    ·exact nf c _ e
   exact kk c v (nn _ (by simp)) (nn _ (by simp)) (nn _ (by simp)) (nn _ (by simp)) qq
 self := fun _ _ _ _ _ st h => wpAny_pyIter_zip st.1 h
section
variable {X : Cx}
noncomputable def iZ (ta : TA) : TI := fun σ H R => ta σ H fun vs H1 => ∃ l1 l2 xs ys, vs = [.ref l1, .ref l2] ∧ H1 l1 = some (.lst xs) ∧ H1 l2 = some (.lst ys) ∧ R (ItZ l1 l2) H1
theorem pi_zip {a b : Expr} {ta : TA} {p pos : Pos} {elts : List Expr} {k : Nat} {tp : Pos} (hg : Gl X "zip") (hm : X.mg "zip" = none) (ha : PA X [a, b] ta) (hs : starEach [a, b] X.env = (false, eval a X.env) :: starEach [b] X.env := by rfl) (hpl : (backTo pos (starEach [b] X.env)).any (·.1) = false := by rfl) :
  PI X (.Tuple elts k tp) (.Call (.Name "zip" p) [a, b] [] pos) (iZ ta) := by
 intro pins s σ H R I h
 refine Call_ (ld_blt I hg hm boot_zip (PyProof.Rows.callWith_type1 (thn (ha pos pins s σ H _ I h) fun us s1 ⟨vs, H1, I1, r1, q1⟩ => ?_) hs hpl))
 obtain ⟨l1, l2, xs, ys, e, hq1, hq2, q⟩ := q1
 subst e
 obtain ⟨u, u', rfl, ru, ru'⟩ := vals2 r1
 cases ru
 cases ru'
 obtain ⟨its1, rv1, p1, hz1⟩ := I1.list (SqL.of hq1)
 obtain ⟨its2, rv2, p2, hz2⟩ := I1.list (SqL.of hq2)
 refine call_zip_2 p1.isList p2.isList fun h' z1 z2 z3 z4 z5 hsz hk => ?_
 have I2 : Inv X pins σ H1 { s1 with heap := h' } := I1.kept (t' := s1.toks) hk
 refine wpAny_pyIter_zip (s := { s1 with heap := h' }) z1 ?_
 have D : ZA (s1.heap.objs.size + 4) (s1.heap.objs.size + 2) (s1.heap.objs.size + 3) s1.heap.objs.size (s1.heap.objs.size + 1) := by constructor <;> (intro e; have e' : (_ : Nat) = _ := e; omega)
 refine ⟨s1.heap.objs.size + 4, [s1.heap.objs.size + 4, s1.heap.objs.size + 2, s1.heap.objs.size + 3, s1.heap.objs.size, s1.heap.objs.size + 1], _, ItZ l1 l2, H1, rfl, I2, turn_Z l1 l2 _ _ _ _ _ D, ⟨z1, z2, ⟨_, _, z3⟩, z4, z5⟩, fun b hb => ?_, q⟩
 have hge : s1.heap.objs.size ≤ b := by
  simp only [List.mem_cons, List.not_mem_nil, or_false] at hb
  rcases hb with rfl | rfl | rfl | rfl | rfl
  ·exact Nat.le_add_right _ _
  ·exact Nat.le_add_right _ _
  ·exact Nat.le_add_right _ _
  ·exact Nat.le_refl _
  ·exact Nat.le_add_right _ _
 exact I1.fpOk hge (I1.hok.fresh hge)
end
section
variable {js : List (Option Nat)} {g : TG} {tt : TT} {te : TE} {σ : St} {H : Hp} {Q : VK}
theorem lc_zip {a b : Addr} {xs ys : List V} (hz : xs.length ≤ sizeLine) (hxy : xs.length = ys.length) (Pv : Nat → List V → Hp → Prop) (h0 : Pv 0 [] H) (hl : ∀ i acc H, i ≤ xs.length → Pv i acc H → H a = some (.lst xs) ∧ H b = some (.lst ys) ∧ acc.length ≤ i)
  (hs : ∀ i x y t acc H (N : List V → Hp → Prop), xs[i]? = some x → ys[i]? = some y → H t = none → Pv i acc H → (∀ acc' H', Pv (i + 1) acc' H' → N acc' H') →
   g (.ref t) (pick σ js) (upd H t (.tup [x, y])) fun σ2 H2 => tt σ2 H2 fun b H3 => if b = true then te σ2 H3 fun v H4 => N (acc ++ [v]) H4 else N acc H3)
  (hd : ∀ acc H l, Pv xs.length acc H → H l = none → Q (.ref l) (upd H l (.lst acc))) : lcGo (ItZ a b) js g tt te σ H Q := by
 refine ⟨fun i m acc H => m = xs.length - i ∧ i ≤ xs.length ∧ Pv i acc H, ⟨xs.length, by simp, Nat.zero_le _, h0⟩, ?_⟩
 rintro i m acc H ⟨rfl, hi, p⟩
 obtain ⟨q1, q2, hacc⟩ := hl i acc H hi p
 by_cases hlt : i < xs.length
 ·refine .inr ⟨⟨xs, xs[i], ys, ys[i]'(hxy ▸ hlt), q1, by simp [hlt], q2, by simp⟩, by omega, fun v H' y => ?_⟩
  obtain ⟨t, x, y', rfl, ht, rfl, y1, y2⟩ := y
  exact hs i x y' t acc _ (fun acc' H' => ∃ m', m' < xs.length - i ∧ (m' = xs.length - (i + 1) ∧ i + 1 ≤ xs.length ∧ Pv (i + 1) acc' H')) (y1 xs q1) (y2 ys q2) ht p fun acc' H' r => ⟨_, by omega, rfl, hlt, r⟩
 ·have e : i = xs.length := by omega
  subst e
  exact .inl ⟨⟨xs, ys, q1, q2, .inl (Nat.le_refl _)⟩, by omega, fun l hl => hd acc H l p hl⟩
end

noncomputable def Isi (K : Frag) (mg : Str → Option Value) (C : Addr) (x : Str) (b : Bool) : Prop := ∃ D, mg x = some (.ref D) ∧ kitOne K (.ref C) (.ref D) = some b
section
variable {X : Cx} {pins : List (Addr × Obj)} {σ : St} {H : Hp} {s : Shared}
theorem isx_ok {A : Around} {E : Value → Shared → Prop} {Q : Value → Shared → Prop} {a C : Addr} {c : Value} {b : Bool} (I : Inv X pins σ H s) (ha : H a = some (.ext (XAt a C))) (xc : XCls X.K C) (e : kitOne X.K (.ref C) c = some b) (h : ∀ tk, Q (.bool b) { s with toks := tk }) :
  wpAny (model X.prog X.w) A (call (.builtin "isinstance") [.ref a, c]) Q E s := by
 obtain ⟨p, _⟩ := (show ObjOk X.prog X.w H s.heap a (.ext (XAt a C)) from I.hok a _ ha)
 exact kia_one (kitx_x xc) I.kIn p e (fun z => nomatch z) h
noncomputable def tIsX (te : TE) (f : Addr → Bool → Prop) : TE := fun σ H Q => te σ H fun v H1 => ∃ a C b, v = .ref a ∧ H1 a = some (.ext (XAt a C)) ∧ f C b ∧ Q (.bl b) H1
theorem pe_isX {e : Expr} {te : TE} {x : Str} {p np pos : Pos} (hgi : Gl X "isinstance") (hmi : X.mg "isinstance" = none) (hg : Gl X x) (he : PE X e te) (hd : (x == ("__debug__" : Str)) = false := by decide +kernel)
  (hst : starEach [e, .Name x np] X.env = (false, eval e X.env) :: starEach [.Name x np] X.env := by rfl) (hpl : (backTo pos (starEach [.Name x np] X.env)).any (·.1) = false := by rfl)
  (hst2 : starEach [.Name x np] X.env = (false, eval (.Name x np) X.env) :: starEach [] X.env := by rfl) :
  PE X (.Call (.Name "isinstance" p) [e, .Name x np] [] pos) (tIsX te fun C b => XCls X.K C ∧ Isi X.K X.mg C x b) := by
 intro pins s σ H Q I h
 refine wpAny_Call_Name_kw (ld_blt I hgi hmi PyProof.Rows.boot_isinstance ?_)
 refine PyProof.Rows.callWith_builtin1 (spliced_more (thn (he pins s σ H _ I h) fun v s1 ⟨y, H1, I1, r1, q1⟩ => ?_) hst) hst hpl
 obtain ⟨a, C, b, rfl, ha, ⟨xc, D, hm, ho⟩, q⟩ := q1
 cases (show v = Value.ref a from r1)
 refine spliced_more (ld_globA I1 hg hm (spliced_none ?_) hd) hst2
 exact isx_ok I1 ha xc ho fun tk => ⟨.bl b, H1, I1.tok tk, rfl, q⟩
theorem pe_isXT {e : Expr} {te : TE} {x : Str} {T : String} {p np pos : Pos} (hgi : Gl X "isinstance") (hmi : X.mg "isinstance" = none) (hg : Gl X x) (hm : X.mg x = none) (hv : bootBuiltins x = some (.type T)) (he : PE X e te) (hn : x ≠ "__name__" := by decide) (hd : (x == ("__debug__" : Str)) = false := by decide +kernel)
  (hst : starEach [e, .Name x np] X.env = (false, eval e X.env) :: starEach [.Name x np] X.env := by rfl) (hpl : (backTo pos (starEach [.Name x np] X.env)).any (·.1) = false := by rfl)
  (hst2 : starEach [.Name x np] X.env = (false, eval (.Name x np) X.env) :: starEach [] X.env := by rfl) :
  PE X (.Call (.Name "isinstance" p) [e, .Name x np] [] pos) (tIsX te fun C b => XCls X.K C ∧ kitOne X.K (.ref C) (.type T) = some b) := by
 intro pins s σ H Q I h
 refine wpAny_Call_Name_kw (ld_blt I hgi hmi PyProof.Rows.boot_isinstance ?_)
 refine PyProof.Rows.callWith_builtin1 (spliced_more (thn (he pins s σ H _ I h) fun v s1 ⟨y, H1, I1, r1, q1⟩ => ?_) hst) hst hpl
 obtain ⟨a, C, b, rfl, ha, ⟨xc, ho⟩, q⟩ := q1
 cases (show v = Value.ref a from r1)
 refine spliced_more (ld_blt I1 hg hm hv (spliced_none ?_) hn hd) hst2
 exact isx_ok I1 ha xc ho fun tk => ⟨.bl b, H1, I1.tok tk, rfl, q⟩
end
theorem calleeX_of {P : Program} {w : World} {K : PySem.W.Frag} {mg : Str → Option Value} {base : Heap} {x : Str} {st : Stmt} {N ps : List Str} {k : Nat} {sp : Sp} (d : ∃ f fd, Fun K x x st f fd ∧ mg x = some (.ref f))
  (hb : ∀ (kV doc pm : Value) (an : Option Addr) (cdv ct : Value) (us : List Value), us.length = ps.length → bindArgs (PySem.W.fnOf x x (defArgs st) (defBody st) (defScope st) .none kV doc pm an cdv ct) ⟨us, []⟩ = pure (ps.zip us))
  (S : FnScope N ps (defScope st)) (len : ∀ vs H Q E, sp vs H Q E → vs.length = ps.length)
  (hbody : ∀ (f : Addr) (cdv : Value) (A : Around) (outer : List Env) (s : Shared) (H : Hp) (vs : List V) (Q : VK) (E : XK), Room k (A.deeper (envOfC x (defScope st) s.heap.objs.size f cdv)) → sp vs H Q E →
   ∃ t, PSs (cxOf (CXF P w base) P w K mg base N x (defScope st) f cdv A outer s H E) (defBody st) t ∧ t { nx := fun _ H' => Q .non H', rt := Q } (start N vs) H) : CalleeX P w K mg base x ps (k + 1) sp := by
 obtain ⟨f, fd, F, hm⟩ := d
 refine ⟨f, fd, hm, F.kp, F.binds hb, ?_⟩
 obtain ⟨oc, od, kV, doc, pm, an, cdv, ct, osl, rfl, lk, hcd⟩ := F.ex
 exact fn_of lk hcd S len fun A outer s H vs Q E hr hsp => hbody f cdv A outer s H vs Q E hr hsp
end L2


set_option Elab.async false
set_option linter.all false
set_option maxRecDepth 100000
set_option maxHeartbeats 4000000
namespace L2
open PySem PySem.Spec PySem.Calls PySem.W PyProof.Rows
noncomputable def XF (K : Frag) (mg : Str → Option Value) (top x : Str) (others : List Str) : Prop := ∃ C, mg x = some (.ref C) ∧ XCls K C ∧ (∃ R, mg top = some (.ref R) ∧ exmOne K (.ref C) (.ref R) = some true) ∧
 kitOne K (.ref C) (.type "ValueError") = some true ∧ ∀ y ∈ others, Isi K mg C y (y == x)
noncomputable def xOk (K : Frag) (top x : Str) (others : List Str) : Bool := match nsIn K mainGlobals x with
 | some (some (.ref C)) =>
  (findIn K (.ref C) "__getattribute__" == some (some (.builtin "BaseException.__getattribute__"))) && (findIn K (.ref C) "__getattr__" == some none) && (findIn K (.ref C) "__class__" == some (some (.builtin "object.__class__"))) &&
  (subIn K (.ref C) (.type "BaseException") == some true) && (subIn K (.ref C) (.type "object") == some true) && (clsIn K C).isSome && excIn K C [.type "ValueError", .type "Exception", .type "BaseException", .type "object"] "ValueError.__new__" &&
  (match nsIn K mainGlobals top with | some (some (.ref R)) => exmOne K (.ref C) (.ref R) == some true | _ => false) && (kitOne K (.ref C) (.type "ValueError") == some true) &&
  others.all (fun y => match nsIn K mainGlobals y with | some (some (.ref D)) => kitOne K (.ref C) (.ref D) == some (y == x) | _ => false)
 | _ => false
theorem xf_of {K : Frag} {h : Heap} {mg : Str → Option Value} {top x : Str} {others : List Str} (X : K.In h) (G : h.Ns mainGlobals mg) (e : xOk K top x others = true) : XF K mg top x others := by
 unfold xOk at e
 split at e
 ·rename_i C hC
  simp only [Bool.and_eq_true, beq_iff_eq, List.all_eq_true] at e
  obtain ⟨⟨⟨⟨⟨⟨⟨⟨⟨e1, e2⟩, e3⟩, e4⟩, e5⟩, e6⟩, e7⟩, e8⟩, e9⟩, e10⟩ := e
  refine ⟨C, mg_of X G hC, ⟨e1, e2, e3, e4, e5, e6, e7⟩, ?_, e9, fun y hy => ?_⟩
  ·split at e8
   ·rename_i R hR
    exact ⟨R, mg_of X G hR, beq_iff_eq.mp e8⟩
   ·cases e8
  ·have q := e10 y hy
   split at q
   ·rename_i D hD
    exact ⟨D, mg_of X G hD, beq_iff_eq.mp q⟩
   ·cases q
 ·cases e
end L2
namespace L2
open PySem PySem.W
theorem XF.made {K : Frag} {mg : Str → Option Value} {top x : Str} {others : List Str} (h : XF K mg top x others) : ∃ C, mg x = some (.ref C) ∧ XCls K C := by
 obtain ⟨C, h1, h2, _⟩ := h
 exact ⟨C, h1, h2⟩
end L2
namespace L2
open PySem
theorem pa_str {X : Cx} {x : Str} {j : Nat} {p : Pos} {es : List Expr} {t : TA} (h : PA X es t) : PA X (.Constant (.str x) j p :: es) (tCons (tC (.str x)) t) := pa_cons pe_str h rfl
end L2
namespace L2
open PySem
noncomputable def strsV : List Expr → Option (List V)
 | [] => some []
 | .Constant (.str x) _ _ :: es => match strsV es with
  | some xs => some (.str x :: xs)
  | none => none
 | _ => none
noncomputable def tGive (vs : List V) : TA := fun _ H Q => Q vs H
theorem pa_strsV {X : Cx} : ∀ {es : List Expr} {vs : List V}, strsV es = some vs → PA X es (tGive vs)
 | [], xs, h => by
  unfold strsV at h
  cases h
  exact fun pos pins s σ H Q I q => pa_nil pos pins s σ H Q I q
 | e :: es, xs, h => by
  unfold strsV at h
  split at h
  ·rename_i z
   cases z
  ·rename_i x j p es' z
   cases z
   split at h
   ·rename_i ys hy
    cases h
    exact fun pos pins s σ H Q I q => pa_str (pa_strsV hy) pos pins s σ H Q I q
   ·cases h
  ·cases h
noncomputable def strsStmt (st : Stmt) : Option (Str × List V) := match st with
 | .Assign [.Name x _] (.List es _) _ => match strsV es with
  | some xs => some (x, xs)
  | none => none
 | _ => none
@[irreducible] noncomputable def PSi (X : Cx) (st : Stmt) (t : TS) : Prop := PS X st t
@[irreducible] noncomputable def PSsi (X : Cx) (st : List Stmt) (t : TS) : Prop := PSs X st t
section
variable {X : Cx} {st : Stmt} {l : List Stmt} {t u : TS}
theorem psi_strs {i : Nat} {x : Str} {vs : List V} (h : strsStmt st = some (x, vs)) (hN : X.N.Nodup) (hi : X.N[i]? = some x) (hx : Loc X.env.scope x) (hf : X.fn x = true ∨ X.env.scope.names.lookup x = some .local) :
  PSi X st (tAsg (tLst (tGive vs)) (gName i)) := by
 unfold PSi
 unfold strsStmt at h
 split at h
 ·split at h
  ·rename_i ys hy
   cases h
   exact ps_set hN hi hx (pe_lst (pa_strsV hy)) rfl hf
  ·cases h
 ·cases h
theorem pssi (h : PSsi X l t) : PSs X l t := by unfold PSsi at h; exact h
theorem pssi_cons (h1 : PS X st t) (h2 : PSsi X l u) : PSsi X (st :: l) (tSeq t u) := by
 unfold PSsi at h2 ⊢
 exact pss_cons h1 h2
theorem pssi_consI (h1 : PSi X st t) (h2 : PSsi X l u) : PSsi X (st :: l) (tSeq t u) := by
 unfold PSi at h1
 unfold PSsi at h2 ⊢
 exact pss_cons h1 h2
theorem pssi_one (h1 : PS X st t) : PSsi X [st] t := by
 unfold PSsi
 exact pss_one h1
end
end L2


set_option Elab.async false
set_option linter.all false
set_option maxRecDepth 100000
set_option maxHeartbeats 4000000
namespace L2
open PySem PySem.W PySem.Calls PyProof.Rows
noncomputable def hdS (w : World) (os : OsState) : Shared := ⟨boot_heap w.params, Array.mk [], boot_drawn, boot_toks, os⟩
noncomputable def hdF {α β : Type} (run : (String → Option PySem.Builtin) → Program → World → Nat → Option Value → Nat → Shared → Thread → Option Shared) (tt : String → Option PySem.Builtin) (im : List Stmt → List Str)
  (sn : Program → List Str → List Str → (Shared → Bool) → Bool → Shared → α) (p q : Program) (loose : List Str) (Xt : Shared → Bool) (Yf : Shared → β) (N : Nat) (w : World) (os : OsState) : Option (Bool × α × β) :=
 (run tt p w 11 ((boot_heap w.params).nsMap mainGlobals "__annotations__") N (hdS w os) (topStub p)).map fun s => ((staticsOk (im p.main.body) (hdS w os).heap s.heap && namesBound p s.heap && gensDone s && laidKept (hdS w os).heap s.heap), sn q loose (im p.main.body) Xt true s, Yf s)
theorem hd_size (P : Params) : (((boot_heap P).isNs mainGlobals && (Array.mk [] : Array GenState).size == 0, (boot_heap P).objs.size) : Bool × Nat) = (true, 11) := by kernel_rfl
theorem left_one {β : Type} {p q : Program} {loose : List Str} {Xt : Shared → Bool} {Yf : Shared → β} {Ya : World → β} {N : Nat} (hN : Nat.ble 600 N = true)
  (e : opening p = plainProg p.main.scope.names) (f : ∀ s, fenceModules? p s = some s)
  (h : ∀ w os, hdF topRun treeTable importedModules openSeen p q loose Xt Yf N w os = some (true, openGood q loose, Ya w)) : LeftO p q loose Xt Yf Ya N := fun w => by
 obtain ⟨⟨h0, gs, d, k, os⟩, e1, e'⟩ := Option.map_eq_some_iff.mp (boot_open e hN f w)
 obtain ⟨rfl, rfl, rfl, rfl⟩ : h0 = boot_heap w.params ∧ gs = Array.mk [] ∧ d = boot_drawn ∧ k = boot_toks := by simpa using e'
 obtain ⟨s, r, x⟩ := Option.map_eq_some_iff.mp (h w os)
 obtain ⟨x1, x2⟩ := Prod.mk.inj x
 have z := hd_size w.params
 obtain ⟨z1, z2⟩ := Prod.mk.inj z
 have t : topFrom treeTable p w N (hdS w os) = some s := by
  unfold topFrom
  have z1' : ((hdS w os).heap.isNs mainGlobals && (hdS w os).gens.size == 0) = true := z1
  have z2' : (hdS w os).heap.objs.size = 11 := z2
  have z3' : (hdS w os).heap.nsMap mainGlobals "__annotations__" = (boot_heap w.params).nsMap mainGlobals "__annotations__" := rfl
  rw [z1', z2', z3', r]
  show (match staticsOk (importedModules p.main.body) (hdS w os).heap s.heap && namesBound p s.heap && gensDone s && laidKept (hdS w os).heap s.heap with | true => _ | false => _) = _
  rw [x1]
 unfold openEnds
 rw [e1]
 show (topFrom treeTable p w N (hdS w os)).map _ = _
 rw [t]
 exact congrArg some x2

noncomputable def fragFrom : Nat → List Obj → Frag
 | _, [] => []
 | n, o :: r => match o with
  | ⟨_, _, .freed, _⟩ => fragFrom (n + 1) r
  | o => (n, o) :: fragFrom (n + 1) r
noncomputable def fragOf (h : Heap) : Frag := fragFrom 0 h.objs.toList
theorem fragFrom_at : ∀ (l : List Obj) (n a : Nat) (o : Obj), (fragFrom n l).lookup a = some o → n ≤ a ∧ l[a - n]? = some o ∧ ∀ c d s, o ≠ ⟨c, d, .freed, s⟩
 | [], _, _, _, h => nomatch h
 | x :: r, n, a, o, h => by
  unfold fragFrom at h
  split at h
  ·obtain ⟨h1, h2, h3⟩ := fragFrom_at r (n + 1) a o h
   refine ⟨by omega, ?_, h3⟩
   rw [show a - n = (a - (n + 1)) + 1 by omega]
   exact h2
  ·rename_i hne
   rw [List.lookup_cons] at h
   split at h
   ·rename_i q
    obtain rfl : a = n := by simpa using q
    cases h
    exact ⟨Nat.le_refl _, by simp, fun c d s e => hne c d s e⟩
   ·obtain ⟨h1, h2, h3⟩ := fragFrom_at r (n + 1) a o h
    refine ⟨by omega, ?_, h3⟩
    rw [show a - n = (a - (n + 1)) + 1 by omega]
    exact h2
theorem fragOf_in (h : Heap) : (fragOf h).In h := fun a o e => by
 obtain ⟨_, h2, h3⟩ := fragFrom_at _ _ _ _ e
 have h4 : h.objs[a]? = some o := by simpa using h2
 unfold Heap.get?
 rw [h4]
 obtain ⟨c, d, x, s⟩ := o
 cases x <;> first | rfl | exact absurd rfl (h3 _ _ _)
noncomputable def isStrF (v : Value) (n : Str) : Bool := match v with | .str s _ => Fast.sEq s n | _ => false
theorem isStrF_eq (v : Value) (n : Str) : v.isStr n = isStrF v n := by
 cases v with
 | str s t =>
  show (s == n) = Fast.sEq s n
  cases h : Fast.sEq s n with
  | true => exact beq_iff_eq.mpr (Fast.sEq_iff.mp h)
  | false => exact beq_eq_false_iff_ne.mpr fun e => by rw [Fast.sEq_iff.mpr e] at h; cases h
 | _ => rfl
noncomputable def nsF (K : Frag) (ns : Addr) (name : Str) : Option (Option Value) := match K.lookup ns with
 | some ⟨_, _, .dict es _, _⟩ => (match es.toList.find? (fun e => isStrF e.key name) with
   | some e => some (some e.val)
   | none => if es.toList.any (·.refKey) then none else some none)
 | _ => none
theorem nsF_eq (K : Frag) (ns : Addr) (name : Str) : nsIn K ns name = nsF K ns name := by
 unfold nsIn nsF
 rw [show (fun e : DictEntry => isStrF e.key name) = fun e => e.key.isStr name from funext fun e => (isStrF_eq _ _).symm]
 rfl
noncomputable def defName (s : Stmt) : Str := match s with
 | .FunctionDef n _ _ _ _ _ _ _ _ _ => n
 | _ => ⟨#[]⟩
noncomputable def defPos (s : Stmt) : Pos := match s with
 | .FunctionDef _ _ _ _ _ _ _ _ _ p => p
 | _ => ⟨0, 0, 0, 0⟩
noncomputable def fnBare (fd : FuncData) : FuncData := { fd with kwdefaults := .none, doc := .none, pyModule := .none, annotations := none, code := .none, closureTuple := .none }
noncomputable def codeF (eq : Str → Str → Bool) (K : Frag) (cd : Value) (q : Str) : Bool := match cd with
 | .ref c => (match K.lookup c with
   | some ⟨_, _, .fields vs, _⟩ => (match vs.toList with | _ :: .str n _ :: _ => eq n q | _ => false)
   | _ => false)
 | _ => false
theorem sEq_beq : Fast.sEq = fun a b => a == b := funext fun a => funext fun b => (isStrF_eq (.str a 0) b).symm
theorem codeF_eq (K : Frag) (cd : Value) (q : Str) : codeF Fast.sEq K cd q = codeIn K cd q := by rw [sEq_beq]; rfl
noncomputable def fnSee (K : Frag) (n : Str) : Option FuncData := match nsF K mainGlobals n with
 | some (some (.ref f)) => (match K.lookup f with
  | some ⟨_, _, .func fd, _⟩ => (match codeF Fast.sEq K fd.code n with | true => some (fnBare fd) | false => none)
  | _ => none)
 | _ => none
noncomputable def fnDue (st : Stmt) : FuncData := fnOf (defName st) (defName st) (defArgs st) (defBody st) (defScope st) .none .none .none .none none .none .none
theorem see_fn {K : Frag} {h : Heap} {mg : Str → Option Value} {n : Str} {st : Stmt} (X : K.In h) (G : h.Ns mainGlobals mg) (hn : defName st = n) (e : fnSee K (defName st) = some (fnDue st)) : ∃ f fd, Fun K n n st f fd ∧ mg n = some (.ref f) := by
 subst hn
 unfold fnSee at e
 split at e
 ·rename_i f hf
  split at e
  ·rename_i oc od fd osl ho
   split at e
   ·rename_i hc
    have hc' : codeIn K fd.code (defName st) = true := (codeF_eq _ _ _).symm.trans hc
    refine ⟨f, fd, ⟨?_, ?_⟩, mg_of X G ((nsF_eq _ _ _).trans hf)⟩
    ·have e' := Option.some.inj e
     obtain ⟨nm, qn, pa, bo, sc, gl, cl, de, kd, dc, pm, an, cd, ct, bi⟩ := fd
     unfold fnBare fnDue fnOf at e'
     simp only [FuncData.mk.injEq] at e'
     obtain ⟨rfl, rfl, rfl, rfl, rfl, rfl, rfl, rfl, -, -, -, -, -, -, rfl⟩ := e'
     exact ⟨oc, od, kd, dc, pm, an, cd, ct, osl, rfl, ho, hc'⟩
    ·simp only [keepIn, ho]
   ·cases e
  ·cases e
 ·cases e
noncomputable def noSee (K : Frag) (n : Str) : Bool := match nsF K mainGlobals n with | some none => true | _ => false
noncomputable def intSee (K : Frag) (n : Str) : Option Int := match nsF K mainGlobals n with | some (some (.int i _)) => some i | _ => none
theorem see_no {K : Frag} {h : Heap} {mg : Str → Option Value} {n : Str} (X : K.In h) (G : h.Ns mainGlobals mg) (e : noSee K n = true) : mg n = none := by
 unfold noSee at e
 split at e
 ·rename_i q; exact mg_none_of X G ((nsF_eq _ _ _).trans q)
 ·cases e
theorem see_int {K : Frag} {h : Heap} {mg : Str → Option Value} {n : Str} {i : Int} (X : K.In h) (G : h.Ns mainGlobals mg) (e : intSee K n = some i) : ∃ t, mg n = some (.int i t) := by
 unfold intSee at e
 split at e
 ·rename_i j t q; cases e; exact ⟨t, mg_of X G ((nsF_eq _ _ _).trans q)⟩
 ·cases e
noncomputable abbrev ObsT := List (Option FuncData) × List Bool × List (Option Int) × List Bool
noncomputable def obs (fs : List Stmt) (bs : List Str) (cs : List Str) (xs : List (Str × Str × List Str)) (K : Frag) : ObsT :=
 (fs.map fun s => fnSee K (defName s), bs.map (noSee K), cs.map (intSee K), xs.map fun x => xOk K x.1 x.2.1 x.2.2)
noncomputable def due (fs : List Stmt) (bs : List Str) (is : List Int) (xs : List (Str × Str × List Str)) : ObsT := (fs.map fun s => some (fnDue s), bs.map fun _ => true, is.map some, xs.map fun _ => true)
theorem at_map {A B : Type} {f g : A → B} {l : List A} (e : l.map f = l.map g) (i : Nat) {a : A} (h : l[i]? = some a) : f a = g a := by
 have := congrArg (fun z => z[i]?) e
 simpa [h] using this
theorem at_ints {f : Str → Option Int} {l : List Str} {is : List Int} (e : l.map f = is.map some) (i : Nat) {a : Str} {x : Int} (h : l[i]? = some a) (h2 : is[i]? = some x) : f a = some x := by
 have := congrArg (fun z => z[i]?) e
 simpa [h, h2] using this
noncomputable def seeHook (O : Frag → ObsT) (D : ObsT) : Hook :=
 ⟨ObsT, fun s => O (fragOf s.heap), fun _ => D, fun _ h => ∃ K : Frag, K.In h ∧ O K = D, fun _ s e => ⟨_, fragOf_in s.heap, e⟩, fun _ _ _ x k => let ⟨K, a, b⟩ := x; ⟨K, a.keeps k, b⟩⟩
theorem walk_see {l : PySem.W.OpenLaw} {n k : Nat} {q : Program} {loose : List Str} {XP : (Str → Option Value) → Heap → Prop} {d : DefRec} {O : Frag → ObsT} {D : ObsT} {CX : CXT} {sp : PySem.W.Frag → Sp} {x : Str}
  (hn : l.most = some n) (hn2 : n ≤ sizeLine) (hdf : d.params.defaults = []) (hr : Room k callerA)
  (F : ∀ (w : World) (K : Frag) (mg : Str → Option Value) (fa : Addr) (h : Heap), K.In h → h.Ns mainGlobals mg → O K = D → mg d.name = some (.ref fa) →
   ∃ fd : FuncData, (∀ (s : Shared) (u : Value), BindsTo s fd ⟨[u], []⟩ [(x, u)]) ∧
    ∀ base : Heap, K.In base → base.Ns mainGlobals mg → FnOk l.prog w K mg base CX k fa fd [x] (sp K))
  (hsp : ∀ (K : PySem.W.Frag) (H : Hp) (a : Addr) (ns : List Int), ns.length ≤ n → Only H → SqL K H a (ns.map V.int) → sp K [.ref a] H (fun v _ => v = .bl true) fun _ _ _ => False)
  (hCX : ∀ (H : Hp) (s : Shared) (e : Value) (s' : Shared), CX [] H s (fun _ _ _ => False) e s' → False) :
  PySem.W.WalkO q loose XP (seeHook O D).says l.row.toRowW d [] (fun f vs => PySem.call f vs) := by
 refine Att.attach_call hn hdf fun w s₀ s₁ mg mb fa o pm cd doc a vs ns G Y ho hd hcd hmg hobj hints hlen hg => ?_
 obtain ⟨K, KX, e⟩ := Y
 obtain ⟨fd, hb, hF⟩ := F w K mg fa _ KX G.T.g e hmg
 exact law_call KX G.T.g G.T.b G.T.builtins G.T.nolimit hg hobj hints (Nat.le_trans hlen hn2) hr hF hb (fun H hO hS => hsp K H a ns hlen hO hS) fun H e s' => hCX H s₁ e s'
end L2


set_option Elab.async false
set_option linter.all false
set_option maxRecDepth 100000
set_option maxHeartbeats 4000000
namespace My
open PySem L2
noncomputable def top (i : Nat) : Stmt := PySem.Challenge.pw_tautroads_k01_ways.main.body.getD i (.Pass ⟨0, 0, 0, 0⟩)
noncomputable abbrev s__law_at : Stmt := top 31
theorem sc__law_at : FnScope ["_law_script", "_law_k"] ["_law_script", "_law_k"] (defScope s__law_at) := ⟨rfl, rfl, rfl, by decide +kernel, rfl, by decide +kernel, by decide +kernel⟩
noncomputable abbrev s__law_purse : Stmt := top 33
theorem sc__law_purse : FnScope ["_law_script", "_law_at_here", "_law_cell"] ["_law_script", "_law_at_here"] (defScope s__law_purse) := ⟨rfl, rfl, rfl, by decide +kernel, rfl, by decide +kernel, by decide +kernel⟩
noncomputable abbrev s__law_mixed : Stmt := top 32
theorem sc__law_mixed : FnScope ["_law_cell", "_law_k", "_law_number_here"] ["_law_cell", "_law_k"] (defScope s__law_mixed) := ⟨rfl, rfl, rfl, by decide +kernel, rfl, by decide +kernel, by decide +kernel⟩
noncomputable abbrev s__law_draw : Stmt := top 34
theorem sc__law_draw : FnScope ["_law_purse_here", "_law_out_of", "_law_drawn", "_law_number_here", "_law_k"] ["_law_purse_here", "_law_out_of"] (defScope s__law_draw) := ⟨rfl, rfl, rfl, by decide +kernel, rfl, by decide +kernel, by decide +kernel⟩
noncomputable abbrev s__law_number : Stmt := top 35
theorem sc__law_number : FnScope ["_law_purse_here", "_law_most", "_law_far"] ["_law_purse_here", "_law_most"] (defScope s__law_number) := ⟨rfl, rfl, rfl, by decide +kernel, rfl, by decide +kernel, by decide +kernel⟩
noncomputable abbrev s__law_net : Stmt := top 38
theorem sc__law_net : FnScope ["_law_purse_here", "_law_most", "_law_many", "_law_count", "_law_high", "_law_roads", "_law_k", "_law_one", "_law_other", "_law_slack"] ["_law_purse_here", "_law_most", "_law_many"] (defScope s__law_net) := ⟨rfl, rfl, rfl, by decide +kernel, rfl, by decide +kernel, by decide +kernel⟩
noncomputable abbrev s__law_any : Stmt := top 39
theorem sc__law_any : FnScope ["_law_purse_here", "_law_most", "_law_many", "_law_count", "_law_roads", "_law_at_here", "_law_one", "_law_other", "_law_length", "_law_less"] ["_law_purse_here", "_law_most", "_law_many"] (defScope s__law_any) := ⟨rfl, rfl, rfl, by decide +kernel, rfl, by decide +kernel, by decide +kernel⟩
noncomputable abbrev s__law_bent : Stmt := top 44
theorem sc__law_bent : FnScope ["_law_purse_here", "_law_net_here", "_law_way", "_law_many", "_law_some", "_law_number_here", "_law_at_here", "_law_kind"] ["_law_purse_here", "_law_net_here", "_law_way"] (defScope s__law_bent) := ⟨rfl, rfl, rfl, by decide +kernel, rfl, by decide +kernel, by decide +kernel⟩
noncomputable abbrev s__law_walked : Stmt := top 43
theorem sc__law_walked : FnScope ["_law_purse_here", "_law_net_here", "_law_place", "_law_found", "_law_k", "_law_some"] ["_law_purse_here", "_law_net_here"] (defScope s__law_walked) := ⟨rfl, rfl, rfl, by decide +kernel, rfl, by decide +kernel, by decide +kernel⟩
noncomputable abbrev s__law_is_way : Stmt := top 40
theorem sc__law_is_way : FnScope ["_law_net_here", "_law_one", "_law_other", "_law_way", "_law_place", "_law_number_here"] ["_law_net_here", "_law_one", "_law_other", "_law_way"] (defScope s__law_is_way) := ⟨rfl, rfl, rfl, by decide +kernel, rfl, by decide +kernel, by decide +kernel⟩
noncomputable abbrev s_is_place : Stmt := top 21
theorem sc_is_place : FnScope ["count", "number"] ["count", "number"] (defScope s_is_place) := ⟨rfl, rfl, rfl, by decide +kernel, rfl, by decide +kernel, by decide +kernel⟩
noncomputable abbrev s_is_road : Stmt := top 22
theorem sc_is_road : FnScope ["count", "road", "start", "end", "length"] ["count", "road"] (defScope s_is_road) := ⟨rfl, rfl, rfl, by decide +kernel, rfl, by decide +kernel, by decide +kernel⟩
noncomputable abbrev s_check_net : Stmt := top 23
theorem sc_check_net : FnScope ["net", "count", "roads", "number", "road"] ["net"] (defScope s_check_net) := ⟨rfl, rfl, rfl, by decide +kernel, rfl, by decide +kernel, by decide +kernel⟩
noncomputable abbrev s_check_place : Stmt := top 24
theorem sc_check_place : FnScope ["net", "number"] ["net", "number"] (defScope s_check_place) := ⟨rfl, rfl, rfl, by decide +kernel, rfl, by decide +kernel, by decide +kernel⟩
noncomputable abbrev s_check_question : Stmt := top 25
theorem sc_check_question : FnScope ["net", "one", "other"] ["net", "one", "other"] (defScope s_check_question) := ⟨rfl, rfl, rfl, by decide +kernel, rfl, by decide +kernel, by decide +kernel⟩
noncomputable abbrev s_leads : Stmt := top 26
theorem sc_leads : FnScope ["net", "one", "other", "way", "roads", "at", "number"] ["net", "one", "other", "way"] (defScope s_leads) := ⟨rfl, rfl, rfl, by decide +kernel, rfl, by decide +kernel, by decide +kernel⟩
noncomputable abbrev s_is_way : Stmt := top 28
theorem sc_is_way : FnScope ["net", "one", "other", "way"] ["net", "one", "other", "way"] (defScope s_is_way) := ⟨rfl, rfl, rfl, by decide +kernel, rfl, by decide +kernel, by decide +kernel⟩
noncomputable abbrev s_way_length : Stmt := top 27
theorem sc_way_length : FnScope ["net", "way", "roads"] ["net", "way"] (defScope s_way_length) := ⟨rfl, rfl, rfl, by decide +kernel, rfl, by decide +kernel, by decide +kernel⟩
noncomputable abbrev s_length_of : Stmt := top 29
theorem sc_length_of : FnScope ["net", "one", "other", "way"] ["net", "one", "other", "way"] (defScope s_length_of) := ⟨rfl, rfl, rfl, by decide +kernel, rfl, by decide +kernel, by decide +kernel⟩
noncomputable abbrev s__law_class : Stmt := top 37
theorem sc__law_class : FnScope ["_law_caught", "_law_some", "_law_words", "_law_found"] ["_law_caught"] (defScope s__law_class) := ⟨rfl, rfl, rfl, by decide +kernel, rfl, by decide +kernel, by decide +kernel⟩
noncomputable abbrev s__law_told : Stmt := top 45
theorem sc__law_told : FnScope ["_law_net_here", "_law_one", "_law_other", "_law_way", "_law_caught", "_law_found", "e"] ["_law_net_here", "_law_one", "_law_other", "_law_way"] (defScope s__law_told) := ⟨rfl, rfl, rfl, by decide +kernel, rfl, by decide +kernel, by decide +kernel⟩
noncomputable abbrev s__law_long : Stmt := top 41
theorem sc__law_long : FnScope ["_law_net_here", "_law_way"] ["_law_net_here", "_law_way"] (defScope s__law_long) := ⟨rfl, rfl, rfl, by decide +kernel, rfl, by decide +kernel, by decide +kernel⟩
noncomputable abbrev s__law_whole : Stmt := top 36
theorem sc__law_whole : FnScope ["_law_found"] ["_law_found"] (defScope s__law_whole) := ⟨rfl, rfl, rfl, by decide +kernel, rfl, by decide +kernel, by decide +kernel⟩
noncomputable abbrev s__law_right : Stmt := top 46
theorem sc__law_right : FnScope ["_law_net_here", "_law_one", "_law_other", "_law_way", "_law_handed", "_law_due", "_law_long_here", "_law_found", "_law_told_here"] ["_law_net_here", "_law_one", "_law_other", "_law_way"] (defScope s__law_right) := ⟨rfl, rfl, rfl, by decide +kernel, rfl, by decide +kernel, by decide +kernel⟩
noncomputable abbrev s_law : Stmt := top 47
theorem sc_law : FnScope ["_law_script", "_law_cell", "_law_purse_here", "_law_net_here", "_law_turn", "_law_way", "_law_one", "_law_other", "_law_there"] ["_law_script"] (defScope s_law) := ⟨rfl, rfl, rfl, by decide +kernel, rfl, by decide +kernel, by decide +kernel⟩
structure Tx (K : PySem.W.Frag) (mg : Str → Option Value) : Prop where
 d__law_at : ∃ f fd, Fun K "_law_at" "_law_at" s__law_at f fd ∧ mg "_law_at" = some (.ref f)
 d__law_purse : ∃ f fd, Fun K "_law_purse" "_law_purse" s__law_purse f fd ∧ mg "_law_purse" = some (.ref f)
 d__law_mixed : ∃ f fd, Fun K "_law_mixed" "_law_mixed" s__law_mixed f fd ∧ mg "_law_mixed" = some (.ref f)
 d__law_draw : ∃ f fd, Fun K "_law_draw" "_law_draw" s__law_draw f fd ∧ mg "_law_draw" = some (.ref f)
 d__law_number : ∃ f fd, Fun K "_law_number" "_law_number" s__law_number f fd ∧ mg "_law_number" = some (.ref f)
 d__law_net : ∃ f fd, Fun K "_law_net" "_law_net" s__law_net f fd ∧ mg "_law_net" = some (.ref f)
 d__law_any : ∃ f fd, Fun K "_law_any" "_law_any" s__law_any f fd ∧ mg "_law_any" = some (.ref f)
 d__law_bent : ∃ f fd, Fun K "_law_bent" "_law_bent" s__law_bent f fd ∧ mg "_law_bent" = some (.ref f)
 d__law_walked : ∃ f fd, Fun K "_law_walked" "_law_walked" s__law_walked f fd ∧ mg "_law_walked" = some (.ref f)
 d__law_is_way : ∃ f fd, Fun K "_law_is_way" "_law_is_way" s__law_is_way f fd ∧ mg "_law_is_way" = some (.ref f)
 d_is_place : ∃ f fd, Fun K "is_place" "is_place" s_is_place f fd ∧ mg "is_place" = some (.ref f)
 d_is_road : ∃ f fd, Fun K "is_road" "is_road" s_is_road f fd ∧ mg "is_road" = some (.ref f)
 d_check_net : ∃ f fd, Fun K "check_net" "check_net" s_check_net f fd ∧ mg "check_net" = some (.ref f)
 d_check_place : ∃ f fd, Fun K "check_place" "check_place" s_check_place f fd ∧ mg "check_place" = some (.ref f)
 d_check_question : ∃ f fd, Fun K "check_question" "check_question" s_check_question f fd ∧ mg "check_question" = some (.ref f)
 d_leads : ∃ f fd, Fun K "leads" "leads" s_leads f fd ∧ mg "leads" = some (.ref f)
 d_is_way : ∃ f fd, Fun K "is_way" "is_way" s_is_way f fd ∧ mg "is_way" = some (.ref f)
 d_way_length : ∃ f fd, Fun K "way_length" "way_length" s_way_length f fd ∧ mg "way_length" = some (.ref f)
 d_length_of : ∃ f fd, Fun K "length_of" "length_of" s_length_of f fd ∧ mg "length_of" = some (.ref f)
 d__law_class : ∃ f fd, Fun K "_law_class" "_law_class" s__law_class f fd ∧ mg "_law_class" = some (.ref f)
 d__law_told : ∃ f fd, Fun K "_law_told" "_law_told" s__law_told f fd ∧ mg "_law_told" = some (.ref f)
 d__law_long : ∃ f fd, Fun K "_law_long" "_law_long" s__law_long f fd ∧ mg "_law_long" = some (.ref f)
 d__law_whole : ∃ f fd, Fun K "_law_whole" "_law_whole" s__law_whole f fd ∧ mg "_law_whole" = some (.ref f)
 d__law_right : ∃ f fd, Fun K "_law_right" "_law_right" s__law_right f fd ∧ mg "_law_right" = some (.ref f)
 d_law : ∃ f fd, Fun K "law" "law" s_law f fd ∧ mg "law" = some (.ref f)
 n_ValueError : mg "ValueError" = none
 n_bool : mg "bool" = none
 n_enumerate : mg "enumerate" = none
 n_int : mg "int" = none
 n_isinstance : mg "isinstance" = none
 n_len : mg "len" = none
 n_list : mg "list" = none
 n_max : mg "max" = none
 n_range : mg "range" = none
 n_sum : mg "sum" = none
 n_zip : mg "zip" = none
 g_MOST_LENGTH : ∃ t, mg "MOST_LENGTH" = some (.int (1000000000) t)
 g_MOST_PLACES : ∃ t, mg "MOST_PLACES" = some (.int (20) t)
 g_MOST_ROADS : ∃ t, mg "MOST_ROADS" = some (.int (60) t)
 x_NoWay : XF K mg "RoadError" "NoWay" ["NoLine", "NoText", "NoBook", "NoDeed", "Ring", "Full", "NoLength", "Twice", "NoName", "NoCount", "NoTaut", "NoWay", "NoRoad", "NoPlace", "NoNet"]
end My


set_option Elab.async false
set_option linter.all false
set_option maxRecDepth 100000
set_option maxHeartbeats 4000000
namespace My
open PySem L2
theorem ok_is_place {P : Program} {w : World} {K : PySem.W.Frag} {mg : Str → Option Value} {base : Heap} (T : Tx K mg) : Callee P w K mg base "is_place" ["count", "number"] 1 spPlace := by
 refine callee_of T.d_is_place (fun _ _ _ _ _ _ us hl => match us, hl with | [_, _], _ => rfl) sc_is_place (fun vs H Q E h => ?_) (fun f cdv A outer s H vs Q E hr h => ?_)
 ·obtain ⟨c, n, rfl, _⟩ := h; rfl
 ·obtain ⟨c, n, rfl, k⟩ := h
  refine ⟨_, (pss_one (ps_ret (pe_chain op_le op_lt pe_int (pv 1) (pv 0)))), ?_⟩
  refine ⟨_, rfl, _, _, rfl, rfl, _, rfl, ?_⟩
  refine ite2 (fun h0 => ?_) (fun h0 => ?_)
  ·refine ⟨_, rfl, _, _, rfl, rfl, ?_⟩
   refine k _ ?_
   rw [decide_eq_true_iff] at h0 ⊢
   omega
  ·refine k _ ?_
   rw [decide_eq_true_iff] at h0
   simp
   omega
theorem ok_is_road {P : Program} {w : World} {K : PySem.W.Frag} {mg : Str → Option Value} {base : Heap} (T : Tx K mg) : Callee P w K mg base "is_road" ["count", "road"] 2 spRoad := by
 have c_is_place := ok_is_place (P := P) (w := w) (base := base) T
 refine callee_of T.d_is_road (fun _ _ _ _ _ _ us hl => match us, hl with | [_, _], _ => rfl) sc_is_road (fun vs H Q E h => ?_) (fun f cdv A outer s H vs Q E hr h => ?_)
 ·obtain ⟨c, v, P', r, rfl, _⟩ := h; rfl
 ·obtain ⟨c, v, P', r, rfl, hd, k⟩ := h
  refine ⟨_, (pss_cons (ps_asg (pv 1) (pg_tupD (n := 3) rfl (pgs_cons (pg_name (i := 2) sc_is_road.nd rfl (Or.inl rfl)) (pgs_cons (pg_name (i := 3) sc_is_road.nd rfl (Or.inl rfl)) (pgs_cons (pg_name (i := 4) sc_is_road.nd rfl (Or.inl rfl)) pgs_nil)))))
   (pss_one (ps_ret (pe_and (pe_callC c_is_place hr (by decide) rfl (pa_cons (pv 0) (pa_cons (pv 2) pa_nil))) (pe_and (pe_callC c_is_place hr (by decide) rfl (pa_cons (pv 0) (pa_cons (pv 3) pa_nil))) (pe_one (pe_chain op_le op_le (pe_un un_neg (pe_cst rfl T.g_MOST_LENGTH)) (pv 4) (pe_cst rfl T.g_MOST_LENGTH)))))))), ?_⟩
  obtain ⟨a, rfl, _, ha⟩ := hd.road
  refine ⟨_, rfl, a, _, rfl, ha, rfl, _, _, rfl, _, _, rfl, _, _, rfl, rfl, ?_⟩
  refine ⟨_, rfl, _, rfl, _, _, rfl, fun b1 hb1 => ⟨_, rfl, ?_⟩⟩
  refine ite2 (fun h1 => ?_) (fun h1 => k _ ?_)
  ·refine ⟨_, rfl, _, rfl, _, _, rfl, fun b2 hb2 => ⟨_, rfl, ?_⟩⟩
   refine ite2 (fun h2 => ?_) (fun h2 => k _ ?_)
   ·refine ⟨_, rfl, _, rfl, _, _, rfl, rfl, _, rfl, ?_⟩
    refine ite2 (fun h3 => ?_) (fun h3 => k _ ?_)
    ·refine ⟨_, _, rfl, rfl, k _ ?_⟩
     rw [decide_eq_true_iff] at h3 ⊢
     unfold RoadOk
     have := hb1.mp h1
     have := hb2.mp h2
     constructor
     ·intro; refine ⟨?_, ?_, ?_, ?_⟩ <;> omega
     ·rintro ⟨_, _, z⟩; omega
    ·rw [decide_eq_true_iff] at h3
     unfold RoadOk
     constructor
     ·intro z; cases z
     ·rintro ⟨_, _, z⟩; omega
   ·constructor
    ·intro z; cases z
    ·rintro ⟨_, z, _⟩; exact absurd (hb2.mpr z) h2
  ·constructor
   ·intro z; cases z
   ·rintro ⟨z, _⟩; exact absurd (hb1.mpr z) h1
theorem ok_check_net {P : Program} {w : World} {K : PySem.W.Frag} {mg : Str → Option Value} {base : Heap} (T : Tx K mg) : Callee P w K mg base "check_net" ["net"] 3 spCheckNet := by
 have c_is_road := ok_is_road (P := P) (w := w) (base := base) T
 refine callee_of T.d_check_net (fun _ _ _ _ _ _ us hl => match us, hl with | [_], _ => rfl) sc_check_net (fun vs H Q E h => ?_) (fun f cdv A outer s H vs Q E hr h => ?_)
 ·obtain ⟨v, P', n, rs, rfl, _⟩ := h; rfl
 ·obtain ⟨v, P', n, rs, rfl, hd, ok, k⟩ := h
  refine ⟨_, (pss_cons (ps_asg (pv 0) (pg_tupD (n := 2) rfl (pgs_cons (pg_name (i := 1) sc_check_net.nd rfl (Or.inl rfl)) (pgs_cons (pg_name (i := 2) sc_check_net.nd rfl (Or.inl rfl)) pgs_nil))))
   (pss_cons (ps_if (pt_not (pt_chain op_le op_le pe_int (pv 1) (pe_cst rfl T.g_MOST_PLACES))) (pss_one ps_never) pss_nil)
   (pss_cons (ps_if (pt_cmpR op_gt (pe_callB call_lenD rfl T.n_len PySem.boot_len (pa_cons (pv 2) pa_nil)) (pe_cst rfl T.g_MOST_ROADS) (nomark _)) (pss_one ps_never) pss_nil)
   (pss_one (ps_for PassesOwn.never rfl (pi_E rfl T.n_enumerate (pa_cons (pv 2) pa_nil)) (pg_tupD (n := 2) rfl (pgs_cons (pg_name (i := 3) sc_check_net.nd rfl (Or.inl rfl)) (pgs_cons (pg_name (i := 4) sc_check_net.nd rfl (Or.inl rfl)) pgs_nil)))
   (pss_one (ps_if (pt_not (pt_tru (pe_callC c_is_road hr (by decide) rfl (pa_cons (pv 1) (pa_cons (pv 4) pa_nil))) (fun _ => rfl))) (pss_one ps_never) pss_nil))))))), ?_⟩
  obtain ⟨a, l, rfl, _, ha, hl⟩ := hd.net
  refine ⟨_, rfl, a, _, rfl, ha, rfl, _, _, rfl, _, _, rfl, rfl, ?_⟩
  refine ⟨_, rfl, _, _, rfl, rfl, _, rfl, ?_⟩
  refine ite_t (decide_eq_true ok.n0) ?_
  refine ⟨_, _, rfl, rfl, _, rfl, ?_⟩
  refine ite_f (by rw [decide_eq_true ok.n1]; rfl) ?_
  refine ⟨_, rfl, lenL hl ⟨_, _, rfl, rfl, _, rfl, ?_⟩⟩
  have hlen := ok.len
  refine ite_f (decide_eq_false (by rw [List.length_map]; omega)) ?_
  cases id hl with
  | @lst _ ys _ _ hl' t =>
  refine ⟨_, rfl, l, ys, rfl, hl', for_E (a := l) (xs := ys) (fun i σ H' => ∃ x y, σ = [some (.ref a), some (.int n), some (.ref l), x, y] ∧ Same H H') ⟨_, _, rfl, Same.refl _⟩ (fun i σ H' _ ⟨_, _, _, sm⟩ => sm _ _ hl') ?_ ?_⟩
  ·rintro i x t' σ H' hx ht ⟨x1, y1, rfl, sm⟩
   obtain ⟨d, hd', dn⟩ := t.getV hx
   rw [List.getElem?_map] at hd'
   cases er : rs[i]? with
   | none => rw [er] at hd'; cases hd'
   | some r =>
   rw [er] at hd'
   cases hd'
   have s2 : Same H' (upd H' t' (.tup [.int i, x])) := Same.new ht
   refine ⟨t', _, rfl, upd_same, rfl, _, _, rfl, _, _, rfl, rfl, ?_⟩
   refine ⟨_, rfl, _, rfl, n, x, P', r, rfl, dn.mono (sm.trans s2).x, fun b hb => ⟨_, rfl, ?_⟩⟩
   refine ite_f (by rw [hb.mpr (ok.rd r (List.mem_of_getElem? er))]; rfl) ?_
   exact ⟨_, _, rfl, sm.trans s2⟩
  ·rintro σ H' ⟨x1, y1, rfl, sm⟩
   exact k H' sm
theorem ok_leads {P : Program} {w : World} {K : PySem.W.Frag} {mg : Str → Option Value} {base : Heap} (T : Tx K mg) : Callee P w K mg base "leads" ["net", "one", "other", "way"] 1 spLeads := by
 refine callee_of T.d_leads (fun _ _ _ _ _ _ us hl => match us, hl with | [_, _, _, _], _ => rfl) sc_leads (fun vs H Q E h => ?_) (fun f cdv A outer s H vs Q E hr h => ?_)
 ·obtain ⟨v, w', p, q, n, P', P'', rs, ws, rfl, _⟩ := h; rfl
 ·obtain ⟨v, w', p, q, n, P', P'', rs, ws, rfl, hd, hw, k⟩ := h
  refine ⟨_, (pss_cons (ps_set (i := 4) sc_leads.nd rfl (Or.inl rfl) (pe_ix ix_D (pv 0) pe_int (fun _ _ => rfl)))
   (pss_cons (ps_set (i := 5) sc_leads.nd rfl (Or.inl rfl) (pv 1))
   (pss_cons (ps_for PassesOwn.never rfl (pi_L (pv 3)) (pg_name (i := 6) sc_leads.nd rfl (Or.inl rfl))
   (pss_cons (ps_if (PW.pt (pw_or (pt_not (pt_chain op_le op_lt pe_int (pv 6) (pe_callB call_lenD rfl T.n_len PySem.boot_len (pa_cons (pv 4) pa_nil)))) (pw_or1 (pt_cmpR (op_neD hr.units) (pe_ix ix_D (pe_ix ix_D (pv 4) (pv 6) (fun _ _ => rfl)) pe_int (fun _ _ => rfl)) (pv 5) (nomark _))))) (pss_one (ps_ret pe_bl)) pss_nil)
   (pss_one (ps_set (i := 5) sc_leads.nd rfl (Or.inl rfl) (pe_ix ix_D (pe_ix ix_D (pv 4) (pv 6) (fun _ _ => rfl)) pe_int (fun _ _ => rfl))))))
   (pss_one (ps_ret (pe_cmpR (op_eqD hr.units) (pv 5) (pv 2) (nomark _))))))), ?_⟩
  obtain ⟨a, rfl, _, ha⟩ := hw.ints
  refine ⟨_, rfl, ixT hd rfl fun v1 hv1 => ?_⟩
  refine ⟨_, rfl, ?_⟩
  refine ⟨_, rfl, a, _, rfl, ha, for_L (a := a) (xs := ws.map V.int) (fun i σ H' => ∃ p' z, σ = [some v, some (.int p), some (.int q), some (.ref a), some v1, some (.int p'), z] ∧ Same H H' ∧ leadsF rs p q ws = leadsF rs p' q (ws.drop i))
   ⟨p, _, rfl, Same.refl _, rfl⟩ (fun i σ H' _ ⟨_, _, _, sm, _⟩ => sm _ _ ha) ?_ ?_⟩
  ·rintro i y σ H' hi ⟨p', z, rfl, sm, inv⟩
   obtain ⟨j, rfl, hj, hdrop⟩ := at_ints hi
   rw [hdrop] at inv
   have hv : Dn H' P' v1 (roadsD rs) := hv1.mono sm.x
   refine ⟨_, rfl, _, _, rfl, rfl, _, rfl, ?_⟩
   by_cases h0 : 0 ≤ j
   ·refine ite_t (decide_eq_true h0) ?_
    refine ⟨_, rfl, lenL hv ⟨_, _, rfl, rfl, _, rfl, ?_⟩⟩
    by_cases h1 : j < rs.length
    ·refine ite_f (by rw [decide_eq_true (by rw [List.length_map]; exact h1)]; rfl) ?_
     obtain ⟨r, hr1, hr2⟩ := roadAt_in h0 h1
     refine ⟨_, rfl, _, rfl, ixL hv (at_road hr1) fun v2 hv2 => ixT hv2 rfl fun v3 hv3 => ?_⟩
     cases hv3
     refine ⟨_, rfl, eqI ⟨_, rfl, ?_⟩⟩
     by_cases h2 : r.1 = p'
     ·refine ite_f (by rw [decide_eq_true h2]; rfl) ?_
      refine ⟨_, rfl, _, rfl, ixL hv (at_road hr1) fun v2 hv2 => ixT hv2 rfl fun v3 hv3 => ?_⟩
      cases hv3
      refine ⟨_, _, rfl, sm, ?_⟩
      rw [inv, leadsF, hr1]
      simp only [h2, if_true]
     ·refine ite_t (by rw [decide_eq_false h2]; rfl) ?_
      have e : leadsF rs p q ws = false := by rw [inv, leadsF, hr1]; simp only [h2, if_false]
      have := k H' sm
      rw [e] at this
      exact this
    ·refine ite_t (by rw [decide_eq_false (by rw [List.length_map]; exact h1)]; rfl) ?_
     have e : leadsF rs p q ws = false := by rw [inv, leadsF, roadAt_out (fun z => h1 z.2)]
     have := k H' sm
     rw [e] at this
     exact this
   ·refine ite_f (decide_eq_false h0) ?_
    refine ⟨_, rfl, ?_⟩
    refine ite_t rfl ?_
    have e : leadsF rs p q ws = false := by rw [inv, leadsF, roadAt_out (fun z => h0 z.1)]
    have := k H' sm
    rw [e] at this
    exact this
  ·rintro σ H' ⟨p', z, rfl, sm, inv⟩
   refine ⟨_, rfl, _, rfl, eqI ?_⟩
   rw [List.length_map, List.drop_length] at inv
   have := k H' sm
   rw [inv] at this
   exact this
end My


set_option Elab.async false
set_option linter.all false
set_option maxRecDepth 100000
set_option maxHeartbeats 4000000
namespace My
open PySem L2
theorem ok_way_length {P : Program} {w : World} {K : PySem.W.Frag} {mg : Str → Option Value} {base : Heap} (T : Tx K mg) : Callee P w K mg base "way_length" ["net", "way"] 1 spWayLen := by
 refine callee_of T.d_way_length (fun _ _ _ _ _ _ us hl => match us, hl with | [_, _], _ => rfl) sc_way_length (fun vs H Q E h => ?_) (fun f cdv A outer s H vs Q E hr h => ?_)
 ·obtain ⟨v, w', n, P', P'', rs, ws, rfl, _⟩ := h; rfl
 ·obtain ⟨v, w', n, P', P'', rs, ws, rfl, hd, hw, hz, hin, k⟩ := h
  refine ⟨_, (pss_cons (ps_set (i := 2) sc_way_length.nd rfl (Or.inr rfl) (pe_ix ix_D (pv 0) pe_int (fun _ _ => rfl)))
   (pss_one (ps_ret (pe_callB (call_sumD rfl) rfl T.n_sum PyProof.Rows.boot_sum (pa_cons (pe_lc (N' := ["number", "roads"]) (js := [none, some 2]) rfl (pi_L (pv 1)) (by kernel_rfl) (gk_name rfl) (by kernel_rfl) rfl (fun _ _ _ => ⟨(pg_name (i := 0) (show List.Nodup [("number" : Str), ("roads" : Str)] by decide +kernel) rfl (Or.inl rfl)), pf_nil, (pe_ix ix_D (pe_ix ix_D (pv 1) (pv 0) (fun _ _ => rfl)) pe_int (fun _ _ => rfl))⟩)) pa_nil))))), ?_⟩
  obtain ⟨a, rfl, _, ha⟩ := hw.ints
  refine ⟨_, rfl, ixT hd.plain rfl fun v1 hv1 => ?_⟩
  refine ⟨_, rfl, a, _, rfl, ha, lc_listD (P := NoP) (onInt fun j => some (.int (lenOf rs j))) hw.plain (by rw [List.length_map]; exact line1000 hz) ?_ ?_⟩
  ·intro i d x H' Ny Nn hdi sm hdn yes no
   obtain ⟨j, hj, rfl, hm⟩ := get_int hdi
   cases hdn
   obtain ⟨r, hr1, hr2⟩ := roadAt_in (hin j hm).1 (hin j hm).2
   refine ⟨_, rfl, _, rfl, ixL (hv1.mono sm.x) (at_road hr1) fun v2 hv2 => ixT hv2 rfl fun v3 hv3 => ?_⟩
   refine yes v3 H' _ (Same.refl _) rfl ?_
   rw [show lenOf rs j = r.2.2 by unfold lenOf; rw [hr1]]
   exact hv3
  ·intro l H' ys sm hl dns
   rw [on_ints, fm_some] at dns
   exact ⟨_, NoP, ws.map (lenOf rs), rfl, Dn.newL hl (fun z => z) dns, k _ (sm.trans (Same.new hl))⟩
theorem ok__law_long {P : Program} {w : World} {K : PySem.W.Frag} {mg : Str → Option Value} {base : Heap} (T : Tx K mg) : Callee P w K mg base "_law_long" ["_law_net_here", "_law_way"] 1 spWayLen := by
 refine callee_of T.d__law_long (fun _ _ _ _ _ _ us hl => match us, hl with | [_, _], _ => rfl) sc__law_long (fun vs H Q E h => ?_) (fun f cdv A outer s H vs Q E hr h => ?_)
 ·obtain ⟨v, w', n, P', P'', rs, ws, rfl, _⟩ := h; rfl
 ·obtain ⟨v, w', n, P', P'', rs, ws, rfl, hd, hw, hz, hin, k⟩ := h
  refine ⟨_, (pss_one (ps_ret (pe_callB (call_sumD rfl) rfl T.n_sum PyProof.Rows.boot_sum (pa_cons (pe_lc (N' := ["_law_number_here", "_law_net_here"]) (js := [none, some 0]) rfl (pi_L (pv 1)) (by kernel_rfl) (gk_name rfl) (by kernel_rfl) rfl (fun _ _ _ => ⟨(pg_name (i := 0) (show List.Nodup [("_law_number_here" : Str), ("_law_net_here" : Str)] by decide +kernel) rfl (Or.inl rfl)), pf_nil, (pe_ix ix_D (pe_ix ix_D (pe_ix ix_D (pv 1) pe_int (fun _ _ => rfl)) (pv 0) (fun _ _ => rfl)) pe_int (fun _ _ => rfl))⟩)) pa_nil)))), ?_⟩
  obtain ⟨a, rfl, _, ha⟩ := hw.ints
  refine ⟨_, rfl, a, _, rfl, ha, lc_listD (P := NoP) (onInt fun j => some (.int (lenOf rs j))) hw.plain (by rw [List.length_map]; exact line1000 hz) ?_ ?_⟩
  ·intro i d x H' Ny Nn hdi sm hdn yes no
   obtain ⟨j, hj, rfl, hm⟩ := get_int hdi
   cases hdn
   obtain ⟨r, hr1, hr2⟩ := roadAt_in (hin j hm).1 (hin j hm).2
   refine ⟨_, rfl, ixT (hd.plain.mono sm.x) rfl fun v1 hv1 => ⟨_, rfl, ixL hv1 (at_road hr1) fun v2 hv2 => ixT hv2 rfl fun v3 hv3 => ?_⟩⟩
   refine yes v3 H' _ (Same.refl _) rfl ?_
   rw [show lenOf rs j = r.2.2 by unfold lenOf; rw [hr1]]
   exact hv3
  ·intro l H' ys sm hl dns
   rw [on_ints, fm_some] at dns
   exact ⟨_, NoP, ws.map (lenOf rs), rfl, Dn.newL hl (fun z => z) dns, k _ (sm.trans (Same.new hl))⟩
end My


set_option Elab.async false
set_option linter.all false
set_option maxRecDepth 100000
set_option maxHeartbeats 4000000
namespace My
open PySem L2
noncomputable def spCheckPlace : Sp := fun vs H Q _ => ∃ (v : V) (P : Addr → Prop) (n k : Int) (rs : List Road), vs = [v, .int k] ∧ Dn H P v (netD n rs) ∧ 0 ≤ k ∧ k < n ∧ Q .non H
noncomputable def spQuestion : Sp := fun vs H Q _ => ∃ (v : V) (P : Addr → Prop) (n a b : Int) (rs : List Road), vs = [v, .int a, .int b] ∧ Dn H P v (netD n rs) ∧ NetOk n rs ∧ 0 ≤ a ∧ a < n ∧ 0 ≤ b ∧ b < n ∧ ∀ H', Same H H' → Q .non H'
noncomputable def spIsWay : Sp := fun vs H Q _ => ∃ (v w : V) (P P' : Addr → Prop) (n a b : Int) (rs : List Road) (ws : List Int), vs = [v, .int a, .int b, w] ∧ Dn H P v (netD n rs) ∧ NetOk n rs ∧ 0 ≤ a ∧ a < n ∧ 0 ≤ b ∧ b < n ∧ Dn H P' w (intsD ws) ∧
 ∀ H', Same H H' → Q (.bl (leadsF rs a b ws)) H'
noncomputable def spLenOf (K : PySem.W.Frag) (mg : Str → Option Value) : Sp := fun vs H Q E => ∃ (v w : V) (P P' : Addr → Prop) (n a b : Int) (rs : List Road) (ws : List Int), vs = [v, .int a, .int b, w] ∧ Dn H P v (netD n rs) ∧ NetOk n rs ∧ 0 ≤ a ∧ a < n ∧ 0 ≤ b ∧ b < n ∧ Dn H P' w (intsD ws) ∧ ws.length ≤ 1000 ∧
 (leadsF rs a b ws = true → ∀ H', Same H H' → Q (.int (wayLen rs ws)) H') ∧ (leadsF rs a b ws = false → ∀ H' C, Same H H' → mg "NoWay" = some (.ref C) → XCls K C → E (.ref C) none H')
noncomputable def spWhole : Sp := fun vs H Q _ => ∃ i : Int, vs = [.int i] ∧ Q (.bl true) H
theorem ok__law_is_way {P : Program} {w : World} {K : PySem.W.Frag} {mg : Str → Option Value} {base : Heap} (T : Tx K mg) : Callee P w K mg base "_law_is_way" ["_law_net_here", "_law_one", "_law_other", "_law_way"] 1 spLeads := by
 refine callee_of T.d__law_is_way (fun _ _ _ _ _ _ us hl => match us, hl with | [_, _, _, _], _ => rfl) sc__law_is_way (fun vs H Q E h => ?_) (fun f cdv A outer s H vs Q E hr h => ?_)
 ·obtain ⟨v, w', p, q, n, P', P'', rs, ws, rfl, _⟩ := h; rfl
 ·obtain ⟨v, w', p, q, n, P', P'', rs, ws, rfl, hd, hw, k⟩ := h
  refine ⟨_, (pss_cons (ps_set (i := 4) sc__law_is_way.nd rfl (Or.inl rfl) (pv 1))
   (pss_cons (ps_for PassesOwn.never rfl (pi_L (pv 3)) (pg_name (i := 5) sc__law_is_way.nd rfl (Or.inl rfl))
   (pss_cons (ps_if (PW.pt (pw_or (pt_not (pt_chain op_le op_lt pe_int (pv 5) (pe_callB call_lenD rfl T.n_len PySem.boot_len (pa_cons (pe_ix ix_D (pv 0) pe_int (fun _ _ => rfl)) pa_nil)))) (pw_or1 (pt_cmpR (op_neD hr.units) (pe_ix ix_D (pe_ix ix_D (pe_ix ix_D (pv 0) pe_int (fun _ _ => rfl)) (pv 5) (fun _ _ => rfl)) pe_int (fun _ _ => rfl)) (pv 4) (nomark _))))) (pss_one (ps_ret pe_bl)) pss_nil)
   (pss_one (ps_set (i := 4) sc__law_is_way.nd rfl (Or.inl rfl) (pe_ix ix_D (pe_ix ix_D (pe_ix ix_D (pv 0) pe_int (fun _ _ => rfl)) (pv 5) (fun _ _ => rfl)) pe_int (fun _ _ => rfl))))))
   (pss_one (ps_ret (pe_cmpR (op_eqD hr.units) (pv 4) (pv 2) (nomark _)))))), ?_⟩
  obtain ⟨a, rfl, _, ha⟩ := hw.ints
  refine ⟨_, rfl, ?_⟩
  refine ⟨_, rfl, a, _, rfl, ha, for_L (a := a) (xs := ws.map V.int) (fun i σ H' => ∃ p' z, σ = [some v, some (.int p), some (.int q), some (.ref a), some (.int p'), z] ∧ Same H H' ∧ leadsF rs p q ws = leadsF rs p' q (ws.drop i))
   ⟨p, _, rfl, Same.refl _, rfl⟩ (fun i σ H' _ ⟨_, _, _, sm, _⟩ => sm _ _ ha) ?_ ?_⟩
  ·rintro i y σ H' hi ⟨p', z, rfl, sm, inv⟩
   obtain ⟨j, rfl, hj, hdrop⟩ := at_ints hi
   rw [hdrop] at inv
   have hv : Dn H' P' v (netD n rs) := hd.mono sm.x
   refine ⟨_, rfl, _, _, rfl, rfl, _, rfl, ?_⟩
   by_cases h0 : 0 ≤ j
   ·refine ite_t (decide_eq_true h0) ?_
    refine ⟨_, rfl, ixT hv rfl fun v1 hv1 => lenL hv1 ⟨_, _, rfl, rfl, _, rfl, ?_⟩⟩
    by_cases h1 : j < rs.length
    ·refine ite_f (by rw [decide_eq_true (by rw [List.length_map]; exact h1)]; rfl) ?_
     obtain ⟨r, hr1, hr2⟩ := roadAt_in h0 h1
     refine ⟨_, rfl, ixT hv rfl fun v1 hv1 => ⟨_, rfl, ixL hv1 (at_road hr1) fun v2 hv2 => ixT hv2 rfl fun v3 hv3 => ?_⟩⟩
     cases hv3
     refine ⟨_, rfl, eqI ⟨_, rfl, ?_⟩⟩
     by_cases h2 : r.1 = p'
     ·refine ite_f (by rw [decide_eq_true h2]; rfl) ?_
      refine ⟨_, rfl, ixT hv rfl fun v1 hv1 => ⟨_, rfl, ixL hv1 (at_road hr1) fun v2 hv2 => ixT hv2 rfl fun v3 hv3 => ?_⟩⟩
      cases hv3
      refine ⟨_, _, rfl, sm, ?_⟩
      rw [inv, leadsF, hr1]
      simp only [h2, if_true]
     ·refine ite_t (by rw [decide_eq_false h2]; rfl) ?_
      have e : leadsF rs p q ws = false := by rw [inv, leadsF, hr1]; simp only [h2, if_false]
      have := k H' sm
      rw [e] at this
      exact this
    ·refine ite_t (by rw [decide_eq_false (by rw [List.length_map]; exact h1)]; rfl) ?_
     have e : leadsF rs p q ws = false := by rw [inv, leadsF, roadAt_out (fun z => h1 z.2)]
     have := k H' sm
     rw [e] at this
     exact this
   ·refine ite_f (decide_eq_false h0) ?_
    refine ⟨_, rfl, ?_⟩
    refine ite_t rfl ?_
    have e : leadsF rs p q ws = false := by rw [inv, leadsF, roadAt_out (fun z => h0 z.1)]
    have := k H' sm
    rw [e] at this
    exact this
  ·rintro σ H' ⟨p', z, rfl, sm, inv⟩
   refine ⟨_, rfl, _, rfl, eqI ?_⟩
   rw [List.length_map, List.drop_length] at inv
   have := k H' sm
   rw [inv] at this
   exact this
theorem ok_check_place {P : Program} {w : World} {K : PySem.W.Frag} {mg : Str → Option Value} {base : Heap} (T : Tx K mg) : Callee P w K mg base "check_place" ["net", "number"] 2 spCheckPlace := by
 have c_is_place := ok_is_place (P := P) (w := w) (base := base) T
 refine callee_of T.d_check_place (fun _ _ _ _ _ _ us hl => match us, hl with | [_, _], _ => rfl) sc_check_place (fun vs H Q E h => ?_) (fun f cdv A outer s H vs Q E hr h => ?_)
 ·obtain ⟨v, P', n, k, rs, rfl, _⟩ := h; rfl
 ·obtain ⟨v, P', n, k, rs, rfl, hd, h0, h1, q⟩ := h
  refine ⟨_, (pss_one (ps_if (pt_not (pt_tru (pe_callC c_is_place hr (by decide) rfl (pa_cons (pe_ix ix_D (pv 0) pe_int (fun _ _ => rfl)) (pa_cons (pv 1) pa_nil))) (fun _ => rfl))) (pss_one ps_never) pss_nil)), ?_⟩
  refine ⟨_, rfl, ixT hd rfl fun v0 hv0 => ?_⟩
  cases hv0
  refine ⟨_, rfl, _, _, rfl, fun b hb => ⟨_, rfl, ?_⟩⟩
  refine ite_f (by rw [hb.mpr ⟨h0, h1⟩]; rfl) ?_
  exact q
theorem ok_check_question {P : Program} {w : World} {K : PySem.W.Frag} {mg : Str → Option Value} {base : Heap} (T : Tx K mg) : Callee P w K mg base "check_question" ["net", "one", "other"] 4 spQuestion := by
 have c_check_net := ok_check_net (P := P) (w := w) (base := base) T
 have c_check_place := ok_check_place (P := P) (w := w) (base := base) T
 refine callee_of T.d_check_question (fun _ _ _ _ _ _ us hl => match us, hl with | [_, _, _], _ => rfl) sc_check_question (fun vs H Q E h => ?_) (fun f cdv A outer s H vs Q E hr h => ?_)
 ·obtain ⟨v, P', n, a, b, rs, rfl, _⟩ := h; rfl
 ·obtain ⟨v, P', n, a, b, rs, rfl, hd, ok, a0, a1, b0, b1, k⟩ := h
  refine ⟨_, (pss_cons (ps_expr (pe_callC c_check_net hr (by decide) rfl (pa_cons (pv 0) pa_nil)))
   (pss_cons (ps_expr (pe_callC c_check_place hr (by decide) rfl (pa_cons (pv 0) (pa_cons (pv 1) pa_nil))))
   (pss_one (ps_expr (pe_callC c_check_place hr (by decide) rfl (pa_cons (pv 0) (pa_cons (pv 2) pa_nil))))))), ?_⟩
  refine ⟨_, rfl, v, P', n, rs, rfl, hd, ok, fun H' sm => ?_⟩
  refine ⟨_, rfl, _, rfl, v, P', n, a, rs, rfl, hd.mono sm.x, a0, a1, ?_⟩
  refine ⟨_, rfl, _, rfl, v, P', n, b, rs, rfl, hd.mono sm.x, b0, b1, ?_⟩
  exact k H' sm
theorem ok_is_way {P : Program} {w : World} {K : PySem.W.Frag} {mg : Str → Option Value} {base : Heap} (T : Tx K mg) : Callee P w K mg base "is_way" ["net", "one", "other", "way"] 5 spIsWay := by
 have c_check_question := ok_check_question (P := P) (w := w) (base := base) T
 have c_leads := ok_leads (P := P) (w := w) (base := base) T
 refine callee_of T.d_is_way (fun _ _ _ _ _ _ us hl => match us, hl with | [_, _, _, _], _ => rfl) sc_is_way (fun vs H Q E h => ?_) (fun f cdv A outer s H vs Q E hr h => ?_)
 ·obtain ⟨v, w', P', P'', n, a, b, rs, ws, rfl, _⟩ := h; rfl
 ·obtain ⟨v, w', P', P'', n, a, b, rs, ws, rfl, hd, ok, a0, a1, b0, b1, hw, k⟩ := h
  refine ⟨_, (pss_cons (ps_expr (pe_callC c_check_question hr (by decide) rfl (pa_cons (pv 0) (pa_cons (pv 1) (pa_cons (pv 2) pa_nil)))))
   (pss_one (ps_ret (pe_callC c_leads hr (by decide) rfl (pa_cons (pv 0) (pa_cons (pv 1) (pa_cons (pv 2) (pa_cons (pv 3) pa_nil)))))))), ?_⟩
  refine ⟨_, rfl, _, rfl, _, rfl, v, P', n, a, b, rs, rfl, hd, ok, a0, a1, b0, b1, fun H' sm => ?_⟩
  exact ⟨_, rfl, _, rfl, _, rfl, _, rfl, v, w', a, b, n, P', P'', rs, ws, rfl, hd.mono sm.x, hw.mono sm.x, fun H2 sm2 => k H2 (sm.trans sm2)⟩
theorem okX_length_of {P : Program} {w : World} {K : PySem.W.Frag} {mg : Str → Option Value} {base : Heap} (T : Tx K mg) : CalleeX P w K mg base "length_of" ["net", "one", "other", "way"] 5 (spLenOf K mg) := by
 have c_check_question := ok_check_question (P := P) (w := w) (base := base) T
 have c_way_length := ok_way_length (P := P) (w := w) (base := base) T
 have c_leads := ok_leads (P := P) (w := w) (base := base) T
 refine calleeX_of T.d_length_of (fun _ _ _ _ _ _ us hl => match us, hl with | [_, _, _, _], _ => rfl) sc_length_of (fun vs H Q E h => ?_) (fun f cdv A outer s H vs Q E hr h => ?_)
 ·obtain ⟨v, w', P', P'', n, a, b, rs, ws, rfl, _⟩ := h; rfl
 ·obtain ⟨v, w', P', P'', n, a, b, rs, ws, rfl, hd, ok, a0, a1, b0, b1, hw, hz, ky, kn⟩ := h
  refine ⟨_, (pss_cons (ps_expr (pe_callC c_check_question hr (by decide) rfl (pa_cons (pv 0) (pa_cons (pv 1) (pa_cons (pv 2) pa_nil)))))
   (pss_cons (ps_if (pt_not (pt_tru (pe_callC c_leads hr (by decide) rfl (pa_cons (pv 0) (pa_cons (pv 1) (pa_cons (pv 2) (pa_cons (pv 3) pa_nil))))) (fun _ => rfl))) (pss_one (ps_raise (E := E) rfl rfl rfl rfl rfl rfl T.x_NoWay.made (pa_cons pe_str pa_nil))) pss_nil)
   (pss_one (ps_ret (pe_callC c_way_length hr (by decide) rfl (pa_cons (pv 0) (pa_cons (pv 3) pa_nil))))))), ?_⟩
  refine ⟨_, rfl, _, rfl, _, rfl, v, P', n, a, b, rs, rfl, hd, ok, a0, a1, b0, b1, fun H' sm => ?_⟩
  refine ⟨_, rfl, _, rfl, _, rfl, _, rfl, v, w', a, b, n, P', P'', rs, ws, rfl, hd.mono sm.x, hw.mono sm.x, fun H2 sm2 => ⟨_, rfl, ?_⟩⟩
  have sm3 := sm.trans sm2
  cases e : leadsF rs a b ws with
  | false =>
   refine ite_t rfl ?_
   obtain ⟨C, h1, h2⟩ := T.x_NoWay.made
   exact ⟨(by show 1 ≤ sizeLine; decide), C, h1, h2, kn e H2 C sm3 h1 h2⟩
  | true =>
   refine ite_f rfl ?_
   exact ⟨_, rfl, _, rfl, v, w', n, P', P'', rs, ws, rfl, hd.mono sm3.x, hw.mono sm3.x, hz, leads_in e, fun H3 sm4 => ky e H3 (sm3.trans sm4)⟩
theorem ok__law_whole {P : Program} {w : World} {K : PySem.W.Frag} {mg : Str → Option Value} {base : Heap} (T : Tx K mg) : Callee P w K mg base "_law_whole" ["_law_found"] 1 spWhole := by
 refine callee_of T.d__law_whole (fun _ _ _ _ _ _ us hl => match us, hl with | [_], _ => rfl) sc__law_whole (fun vs H Q E h => ?_) (fun f cdv A outer s H vs Q E hr h => ?_)
 ·obtain ⟨i, rfl, _⟩ := h; rfl
 ·obtain ⟨i, rfl, k⟩ := h
  refine ⟨_, (pss_one (ps_ret (pe_and (pe_callB call_isi rfl T.n_isinstance PyProof.Rows.boot_isinstance (pa_cons (pv 0) (pa_cons (pe_bltn (v := .ty "int") rfl T.n_int PyProof.Rows.boot_int rfl) pa_nil))) (pe_one (pe_not (pe_callB call_isi rfl T.n_isinstance PyProof.Rows.boot_isinstance (pa_cons (pv 0) (pa_cons (pe_bltn (v := .ty "bool") rfl T.n_bool PyProof.Rows.boot_bool rfl) pa_nil)))))))), ?_⟩
  refine ⟨_, rfl, _, "int", _, true, rfl, .int _, rfl, _, rfl, ?_⟩
  refine ite_t rfl ?_
  refine ⟨_, rfl, _, "bool", _, false, rfl, .int _, rfl, _, rfl, ?_⟩
  exact k
end My


set_option Elab.async false
set_option linter.all false
set_option maxRecDepth 100000
set_option maxHeartbeats 4000000
namespace My
open PySem L2
theorem ok__law_at {P : Program} {w : World} {K : PySem.W.Frag} {mg : Str → Option Value} {base : Heap} (T : Tx K mg) : Callee P w K mg base "_law_at" ["_law_script", "_law_k"] 1 (spAt K) := by
 refine callee_of T.d__law_at (fun _ _ _ _ _ _ us hl => match us, hl with | [_, _], _ => rfl) sc__law_at (fun vs H Q E h => ?_) (fun f cdv A outer s H vs Q E hr h => ?_)
 ·obtain ⟨a, ns, k, rfl, _⟩ := h; rfl
 ·obtain ⟨a, ns, k, rfl, hS, h0, q⟩ := h
  refine ⟨_, (pss_cons (ps_if (pt_cmpR op_lt (pv 1) (pe_callB call_len_seq rfl T.n_len PySem.boot_len (pa_cons (pv 0) pa_nil)) (nomark _)) (pss_one (ps_ret (pe_ix ix_list (pv 0) (pv 1) (fun _ _ => rfl)))) pss_nil)
   (pss_one (ps_ret pe_int))), ?_⟩
  refine ⟨_, rfl, _, rfl, a, _, rfl, .inl hS, _, _, rfl, rfl, _, rfl, ?_⟩
  refine ite2 (fun h1 => ?_) (fun h1 => q 0)
  rw [decide_eq_true_iff, List.length_map] at h1
  obtain ⟨x, hx⟩ := at_in h0 h1
  refine ⟨_, rfl, _, rfl, a, _, k, .int x, rfl, rfl, hS, ?_, q x⟩
  have e : k = (k.toNat : Int) := by omega
  rw [e]
  exact atI_nat (by rw [List.getElem?_map, hx]; rfl)
theorem mod_lt (x : Int) {m : Int} (h : 0 < m) : 0 ≤ x % m ∧ x % m < m := ⟨Int.emod_nonneg _ (by omega), Int.emod_lt_of_pos _ h⟩
theorem ok__law_mixed {P : Program} {w : World} {K : PySem.W.Frag} {mg : Str → Option Value} {base : Heap} (T : Tx K mg) : Callee P w K mg base "_law_mixed" ["_law_cell", "_law_k"] 1 spMixed := by
 refine callee_of T.d__law_mixed (fun _ _ _ _ _ _ us hl => match us, hl with | [_, _], _ => rfl) sc__law_mixed (fun vs H Q E h => ?_) (fun f cdv A outer s H vs Q E hr h => ?_)
 ·obtain ⟨b, c, rfl, _⟩ := h; rfl
 ·obtain ⟨b, c, rfl, hb0, hb1, hc0, hc1, q⟩ := h
  refine ⟨_, (pss_cons (ps_set (i := 2) sc__law_mixed.nd rfl (Or.inl rfl) (pe_op op_mod (pe_op op_addD (pe_op op_addD (pe_op op_addD (pe_op op_mulD (pv 0) pe_int) (pe_op op_mulD (pe_op op_mulD pe_int (pv 1)) (pv 1))) (pv 1)) pe_int) pe_int))
   (pss_cons (ps_set (i := 2) sc__law_mixed.nd rfl (Or.inl rfl) (pe_op op_mod (pe_op op_addD (pe_op op_mulD (pv 2) (pv 2)) pe_int) pe_int))
   (pss_one (ps_ret (pe_op op_mod (pe_op op_mulD (pv 2) pe_int) pe_int))))), ?_⟩
  refine ⟨_, rfl, mulI (.inr ⟨by decide, by decide⟩) ?_⟩
  refine ⟨_, rfl, mulI (.inl ⟨by decide, by decide⟩) ?_⟩
  refine ⟨_, rfl, mulI (.inr ⟨by omega, by omega⟩) (addI ?_)⟩
  refine ⟨_, rfl, addI (addI ⟨_, _, rfl, rfl, (by show (0 : Int) < 2147483647; decide), ?_⟩)⟩
  obtain ⟨l1, l2⟩ := mod_lt (b * 1103515245 + 7919 * c * c + c + 1) (show (0 : Int) < 2147483647 by decide)
  refine ⟨_, rfl, _, rfl, mulI (.inl ⟨Int.lt_of_lt_of_le (by decide) l1, Int.lt_trans l2 (by decide)⟩) (addI ⟨_, _, rfl, rfl, (by show (0 : Int) < 2147483629; decide), ?_⟩)⟩
  refine ⟨_, rfl, mulI (.inr ⟨by decide, by decide⟩) ⟨_, _, rfl, rfl, (by show (0 : Int) < 2147483587; decide), ?_⟩⟩
  refine q _ ?_ ?_
  ·exact (mod_lt _ (show (0 : Int) < 2147483587 by decide)).1
  ·exact (mod_lt _ (show (0 : Int) < 2147483587 by decide)).2
theorem ok__law_purse {P : Program} {w : World} {K : PySem.W.Frag} {mg : Str → Option Value} {base : Heap} (T : Tx K mg) : Callee P w K mg base "_law_purse" ["_law_script", "_law_at_here"] 2 (spPurse K) := by
 have c__law_at := ok__law_at (P := P) (w := w) (base := base) T
 refine callee_of T.d__law_purse (fun _ _ _ _ _ _ us hl => match us, hl with | [_, _], _ => rfl) sc__law_purse (fun vs H Q E h => ?_) (fun f cdv A outer s H vs Q E hr h => ?_)
 ·obtain ⟨a, ns, k, rfl, _⟩ := h; rfl
 ·obtain ⟨a, ns, k, rfl, hS, h0, h1, q⟩ := h
  refine ⟨_, (pss_cons (ps_set (i := 2) sc__law_purse.nd rfl (Or.inl rfl) (pe_callC c__law_at hr (by decide) rfl (pa_cons (pv 0) (pa_cons (pv 1) pa_nil))))
   (pss_one (ps_ret (pe_lst (pa_cons (pe_callB (call_max2 rfl) rfl T.n_max PyProof.Rows.boot_max (pa_cons (pe_op op_sub (pv 2) (pe_op op_pow pe_int pe_int)) (pa_cons pe_int pa_nil))) (pa_cons (pe_op op_mod (pv 2) pe_int) (pa_cons (pe_op op_mulD pe_int (pv 1)) pa_nil))))))), ?_⟩
  refine ⟨_, rfl, _, rfl, a, ns, k, rfl, hS, h0, fun x => ?_⟩
  refine ⟨_, rfl, _, _, rfl, rfl, ⟨by decide, by decide, by decide⟩, _, _, rfl, rfl, _, _, rfl, ?_⟩
  refine ⟨_, rfl, _, _, rfl, rfl, (by show (0 : Int) < 2147483647; decide), ?_⟩
  refine ⟨_, rfl, mulI (.inl ⟨by decide, by decide⟩) ⟨(by show 3 ≤ sizeLine; decide), fun p hp => ?_⟩⟩
  obtain ⟨l1, l2⟩ := mod_lt x (show (0 : Int) < 2147483647 by decide)
  refine q p _ hp (Same.new hp) ⟨_, _, _, upd_same, ?_, l1, l2, by omega, by omega⟩
  split <;> omega
theorem bits_le {n : Int} (h0 : 1 ≤ n) (h1 : n < 2 ^ 100) : (0 : Int) ≤ (Builtin.Int.intBits n : Int) / 30 ∧ (Builtin.Int.intBits n : Int) / 30 ≤ 3 := by
 have := PyProof.Rows.intBits_le (a := n) (k := 100) (by omega)
 omega
theorem ok__law_draw {P : Program} {w : World} {K : PySem.W.Frag} {mg : Str → Option Value} {base : Heap} (T : Tx K mg) : Callee P w K mg base "_law_draw" ["_law_purse_here", "_law_out_of"] 2 spDraw := by
 have c__law_mixed := ok__law_mixed (P := P) (w := w) (base := base) T
 refine callee_of T.d__law_draw (fun _ _ _ _ _ _ us hl => match us, hl with | [_, _], _ => rfl) sc__law_draw (fun vs H Q E h => ?_) (fun f cdv A outer s H vs Q E hr h => ?_)
 ·obtain ⟨q, n, m, rfl, _⟩ := h; rfl
 ·obtain ⟨q, n, m, rfl, ⟨a, b, c, hq, ha, hb0, hb1, hc0, hc1⟩, hm, hn0, hn1, k⟩ := h
  refine ⟨_, (pss_cons (ps_if (pt_cmpR op_gt (pe_ix ix_D (pv 0) pe_int (fun _ _ => rfl)) pe_int (nomark _)) (pss_cons (ps_set (i := 2) sc__law_draw.nd rfl (Or.inl rfl) (pe_op op_mod (pe_ix ix_D (pv 0) pe_int (fun _ _ => rfl)) (pv 1)))
   (pss_cons (ps_asg (pe_op op_fdivD (pe_ix ix_D (pv 0) pe_int (fun _ _ => rfl)) (pv 1)) (pg_sub (pv 0) pe_int set_list))
   (pss_one (ps_ret (pv 2))))) pss_nil)
   (pss_cons (ps_set (i := 3) sc__law_draw.nd rfl (Or.inl rfl) pe_int)
   (pss_cons (ps_for PassesOwn.never rfl (pi_range1 rfl T.n_range (pa_cons (pe_op op_addD pe_int (pe_op op_fdivD (pe_bm0 PySem.F.plainAttrs_int PySem.F.slot_int_bit_length PySem.F.type_int_bit_length mt_bits (pv 1)) pe_int)) pa_nil)) (pg_name (i := 4) sc__law_draw.nd rfl (Or.inl rfl))
   (pss_cons (ps_asg (pe_op op_addD (pe_ix ix_D (pv 0) pe_int (fun _ _ => rfl)) pe_int) (pg_sub (pv 0) pe_int set_list))
   (pss_one (ps_set (i := 3) sc__law_draw.nd rfl (Or.inl rfl) (pe_op op_addD (pe_op op_mulD (pv 3) pe_int) (pe_callC c__law_mixed hr (by decide) rfl (pa_cons (pe_ix ix_D (pv 0) pe_int (fun _ _ => rfl)) (pa_cons (pe_ix ix_D (pv 0) pe_int (fun _ _ => rfl)) pa_nil))))))))
   (pss_one (ps_ret (pe_op op_mod (pv 3) (pv 1))))))), ?_⟩
  refine ⟨_, rfl, ixR hq rfl ⟨_, _, rfl, rfl, _, rfl, ?_⟩⟩
  have hN : n < 2 ^ 200 := Int.lt_trans hn1 (by decide)
  refine ite2 (fun h0 => ?_) (fun h0 => ?_)
  ·refine ⟨_, rfl, ixR hq rfl ⟨_, rfl, _, _, rfl, rfl, (by show (0 : Int) < n; omega), ?_⟩⟩
   refine ⟨_, rfl, ixR hq rfl ⟨_, rfl, _, _, rfl, rfl, ⟨by omega, hN⟩, _, rfl, q, _, 0, 0, rfl, rfl, hq, rfl, ?_⟩⟩
   obtain ⟨l1, l2⟩ := mod_lt a (show (0 : Int) < n by omega)
   refine ⟨_, rfl, k _ _ l1 l2 ⟨a / n, b, c, upd_same, Int.ediv_nonneg ha (by omega), hb0, hb1, hc0, by omega⟩ (SameX.put rfl)⟩
  ·obtain ⟨j0, j1⟩ := bits_le hn0 hn1
   refine ⟨_, rfl, rfl, n, rfl, rfl, _, _, rfl, rfl, ⟨by decide, by decide⟩, addI ⟨_, rfl, by omega, by omega, ?_⟩⟩
   refine for_range (lo := 0) (fun i σ H' => ∃ (num c' : Int) (z : Option V), σ = [some (.ref q), some (.int n), none, some (.int num), z] ∧ H' q = some (.lst [.int a, .int b, .int c']) ∧ 0 ≤ c' ∧ c' ≤ c + i ∧ SameX (But q) H H')
    ⟨0, c, none, rfl, hq, hc0, by omega, SameX.refl⟩ ?_ ?_
   ·rintro i σ H' hi ⟨num, c', z, rfl, hq', hc', hc'', sm⟩
    refine ⟨_, rfl, ixR hq' rfl (addI ⟨_, rfl, q, _, 2, 2, rfl, rfl, hq', rfl, ?_⟩)⟩
    refine ⟨_, rfl, mulI (.inr ⟨by decide, by decide⟩) ⟨_, rfl, ixR upd_same rfl ⟨_, rfl, ixR upd_same rfl ?_⟩⟩⟩
    refine ⟨b, c' + 1, rfl, hb0, hb1, by omega, by omega, fun y h1 h2 => addI ?_⟩
    exact ⟨_, c' + 1, _, rfl, upd_same, by omega, by omega, sm.trans (SameX.put rfl)⟩
   ·rintro σ H' ⟨num, c', z, rfl, hq', hc', hc'', sm⟩
    obtain ⟨l1, l2⟩ := mod_lt num (show (0 : Int) < n by omega)
    refine ⟨_, rfl, _, rfl, _, _, rfl, rfl, (by show (0 : Int) < n; omega), k _ _ l1 l2 ⟨a, b, c', hq', ha, hb0, hb1, hc', by omega⟩ sm⟩
theorem ok__law_number {P : Program} {w : World} {K : PySem.W.Frag} {mg : Str → Option Value} {base : Heap} (T : Tx K mg) : Callee P w K mg base "_law_number" ["_law_purse_here", "_law_most"] 3 spNumber := by
 have c__law_draw := ok__law_draw (P := P) (w := w) (base := base) T
 refine callee_of T.d__law_number (fun _ _ _ _ _ _ us hl => match us, hl with | [_, _], _ => rfl) sc__law_number (fun vs H Q E h => ?_) (fun f cdv A outer s H vs Q E hr h => ?_)
 ·obtain ⟨q, x, m, rfl, _⟩ := h; rfl
 ·obtain ⟨q, x, m, rfl, pu, hm, hx0, hx1, k⟩ := h
  refine ⟨_, (pss_cons (ps_set (i := 2) sc__law_number.nd rfl (Or.inl rfl) (pe_ix ix_D (pe_lst (pa_cons pe_int (pa_cons pe_int (pa_cons pe_int (pa_cons (pv 1) pa_nil))))) (pe_callC c__law_draw hr (by decide) rfl (pa_cons (pv 0) (pa_cons pe_int pa_nil))) (fun _ _ => rfl)))
   (pss_one (ps_ret (pe_op op_sub (pe_callC c__law_draw hr (by decide) rfl (pa_cons (pv 0) (pa_cons (pe_op op_addD (pe_op op_mulD pe_int (pv 2)) pe_int) pa_nil))) (pv 2))))), ?_⟩
  refine ⟨_, rfl, (by show 4 ≤ sizeLine; decide), fun l hl => ?_⟩
  have nl : l ≠ q := fun e => by subst e; obtain ⟨_, _, _, h1, _⟩ := pu; rw [hl] at h1; cases h1
  refine ⟨_, rfl, q, 4, m, rfl, pu.same (Same.new hl), by omega, by decide, by decide, fun r H1 r0 r1 pu1 sm1 => ?_⟩
  have hl1 : H1 l = some (.lst [.int 1, .int 4, .int 30, .int x]) := sm1 _ _ upd_same nl
  obtain ⟨far, hf, f0, f1⟩ : ∃ far : Int, atI [V.int 1, .int 4, .int 30, .int x] r = some (.int far) ∧ 1 ≤ far ∧ far ≤ max x 30 := by
   have : r = 0 ∨ r = 1 ∨ r = 2 ∨ r = 3 := by omega
   rcases this with rfl | rfl | rfl | rfl
   ·exact ⟨1, rfl, by omega, by omega⟩
   ·exact ⟨4, rfl, by omega, by omega⟩
   ·exact ⟨30, rfl, by omega, by omega⟩
   ·exact ⟨x, rfl, by omega, by omega⟩
  refine ixR hl1 hf ?_
  refine ⟨_, rfl, _, rfl, mulI (.inl ⟨by decide, by decide⟩) (addI ?_)⟩
  refine ⟨q, _, m + 4, rfl, pu1, by omega, by omega, by omega, fun r2 H2 r20 r21 pu2 sm2 => ⟨_, rfl, _, _, rfl, rfl, ?_⟩⟩
  refine k _ _ (by omega) (by omega) ?_ (((Same.new hl).x.trans sm1).trans sm2)
  have : m + 8 = m + 4 + 4 := by omega
  rw [this]
  exact pu2
end My


set_option Elab.async false
set_option linter.all false
set_option maxRecDepth 100000
set_option maxHeartbeats 4000000
namespace My
open PySem L2
theorem ok__law_net {P : Program} {w : World} {K : PySem.W.Frag} {mg : Str → Option Value} {base : Heap} (T : Tx K mg) : Callee P w K mg base "_law_net" ["_law_purse_here", "_law_most", "_law_many"] 4 spNet := by
 have c__law_draw := ok__law_draw (P := P) (w := w) (base := base) T
 have c__law_number := ok__law_number (P := P) (w := w) (base := base) T
 refine callee_of T.d__law_net (fun _ _ _ _ _ _ us hl => match us, hl with | [_, _, _], _ => rfl) sc__law_net (fun vs H Q E h => ?_) (fun f cdv A outer s H vs Q E hr h => ?_)
 ·obtain ⟨q, most, many, m, rfl, _⟩ := h; rfl
 ·obtain ⟨q, most, many, m, rfl, pu, hm, hmost, hmany, k⟩ := h
  refine ⟨_, (pss_cons (ps_set (i := 3) sc__law_net.nd rfl (Or.inl rfl) (pe_callC c__law_draw hr (by decide) rfl (pa_cons (pv 0) (pa_cons (pe_op op_addD (pv 1) pe_int) pa_nil))))
   (pss_cons (ps_setLC (i := 4) sc__law_net.nd rfl (Or.inl rfl) (N' := ["_law_k", "_law_purse_here"]) (js := [none, some 0]) rfl (pi_range1 rfl T.n_range (pa_cons (pv 3) pa_nil)) (by kernel_rfl) (gk_name rfl) (by kernel_rfl) rfl (fun _ _ _ => ⟨(pg_name (i := 0) (show List.Nodup [("_law_k" : Str), ("_law_purse_here" : Str)] by decide +kernel) rfl (Or.inl rfl)), pf_nil, (pe_callC c__law_number hr (by decide) rfl (pa_cons (pv 1) (pa_cons (pe_op op_pow pe_int pe_int) pa_nil)))⟩))
   (pss_cons (ps_set (i := 5) sc__law_net.nd rfl (Or.inl rfl) (pe_lst pa_nil))
   (pss_cons (ps_for PassesOwn.never rfl (pi_range1 rfl T.n_range (pa_cons (pe_op op_mulD (pe_callC c__law_draw hr (by decide) rfl (pa_cons (pv 0) (pa_cons (pe_op op_addD (pv 2) pe_int) pa_nil))) (pe_callTy call_int1 rfl T.n_int PyProof.Rows.boot_int (pa_cons (pe_cmpR op_gt (pv 3) pe_int (nomark _)) pa_nil))) pa_nil)) (pg_name (i := 6) sc__law_net.nd rfl (Or.inl rfl))
   (pss_cons (ps_set (i := 7) sc__law_net.nd rfl (Or.inl rfl) (pe_callC c__law_draw hr (by decide) rfl (pa_cons (pv 0) (pa_cons (pv 3) pa_nil))))
   (pss_cons (ps_set (i := 8) sc__law_net.nd rfl (Or.inl rfl) (pe_callC c__law_draw hr (by decide) rfl (pa_cons (pv 0) (pa_cons (pv 3) pa_nil))))
   (pss_cons (ps_set (i := 9) sc__law_net.nd rfl (Or.inl rfl) (pe_ix ix_D (pe_lst (pa_cons pe_int (pa_cons pe_int (pa_cons (pe_callC c__law_draw hr (by decide) rfl (pa_cons (pv 0) (pa_cons pe_int pa_nil))) (pa_cons (pe_callC c__law_draw hr (by decide) rfl (pa_cons (pv 0) (pa_cons (pe_op op_pow pe_int pe_int) pa_nil))) pa_nil))))) (pe_callC c__law_draw hr (by decide) rfl (pa_cons (pv 0) (pa_cons pe_int pa_nil))) (fun _ _ => rfl)))
   (pss_cons (ps_expr (pe_bm PySem.F.plainAttrs_list PySem.F.slot_list_append PySem.F.type_list_append mt_append (pv 5) (pa_cons (pe_tup (pa_cons (pv 7) (pa_cons (pv 8) (pa_cons (pe_op op_addD (pe_op op_sub (pe_ix ix_D (pv 4) (pv 8) (fun _ _ => rfl)) (pe_ix ix_D (pv 4) (pv 7) (fun _ _ => rfl))) (pv 9)) pa_nil)))) pa_nil)))
   (pss_one (ps_if (pt_cmpR (op_eqD hr.units) (pe_callC c__law_draw hr (by decide) rfl (pa_cons (pv 0) (pa_cons pe_int pa_nil))) pe_int (nomark _)) (pss_one (ps_expr (pe_bm PySem.F.plainAttrs_list PySem.F.slot_list_append PySem.F.type_list_append mt_append (pv 5) (pa_cons (pe_ix ix_D (pv 5) (pe_callC c__law_draw hr (by decide) rfl (pa_cons (pv 0) (pa_cons (pe_callB call_lenD rfl T.n_len PySem.boot_len (pa_cons (pv 5) pa_nil)) pa_nil))) (fun _ _ => rfl)) pa_nil)))) pss_nil)))))))
   (pss_one (ps_ret (pe_tup (pa_cons (pv 3) (pa_cons (pv 5) pa_nil))))))))), ?_⟩
  -- count
  refine ⟨_, rfl, _, rfl, addI ⟨q, _, m, rfl, pu, by omega, by omega, by omega, fun n H1 n0 n1 pu1 sm1 => ?_⟩⟩
  -- high
  refine ⟨_, rfl, n, rfl, by omega, by omega, lc_range (by rw [PySem.sizeLine_eq]; omega) (fun i acc H' => ∃ hs : List Int, acc = hs.map V.int ∧ hs.length = i ∧ (∀ x ∈ hs, -100000000 ≤ x ∧ x ≤ 100000000) ∧ Pu H' q (m + 4 + 8 * i) ∧ SameX (But q) H H')
   ⟨[], rfl, rfl, fun x hx => by simp at hx, by simpa using pu1, sm1⟩ (fun i acc H' _ ⟨hs, e, l, _⟩ => by rw [e, List.length_map, l]; exact Nat.le_refl _) ?_ ?_⟩
  ·rintro i acc H' N hi ⟨hs, rfl, hl, hb, pu', sm'⟩ go
   refine ⟨_, rfl, _, _, rfl, rfl, ⟨by decide, by decide, by decide⟩, q, _, _, rfl, pu', by omega, by decide, by decide, fun r H2 r0 r1 pu2 sm2 => ?_⟩
   rw [pow8] at r0 r1
   refine go _ _ ⟨hs ++ [r], by simp, by simp [hl], fun x hx => ?_, ?_, sm'.trans sm2⟩
   ·rcases List.mem_append.mp hx with hx | hx
    ·exact hb x hx
    ·rw [List.mem_singleton.mp hx]; exact ⟨r0, r1⟩
   ·refine pu2.mono ?_
    omega
  ·rintro acc H2 l ⟨hs, rfl, hl, hb, pu2, sm2⟩ hl2
   have nl : l ≠ q := pu2.ne hl2
   have sm2' : SameX (But q) H (upd H2 l (.lst (hs.map V.int))) := sm2.trans (SameX.new hl2)
   have pu2' : Pu (upd H2 l (.lst (hs.map V.int))) q (m + 200) := (pu2.same (Same.new hl2)).mono (by omega)
   have hL : (upd H2 l (.lst (hs.map V.int))) l = some (.lst (hs.map V.int)) := upd_same
   generalize upd H2 l (.lst (hs.map V.int)) = H3 at *
   -- roads = []
   refine ⟨Nat.zero_le _, fun f hf => ?_⟩
   have nf : f ≠ q := pu2'.ne hf
   have nfl : f ≠ l := fun e => by rw [e, hL] at hf; cases hf
   have hfH : H f = none := sm2'.back hf nf
   have sm3 : SameX (But q) H (upd H3 f (.lst [])) := sm2'.trans (SameX.new hf)
   have pu3 : Pu (upd H3 f (.lst [])) q (m + 200) := pu2'.same (Same.new hf)
   have hL3 : (upd H3 f (.lst [])) l = some (.lst (hs.map V.int)) := by rw [upd_ne nfl.symm]; exact hL
   have hF3 : (upd H3 f (.lst [])) f = some (.lst []) := upd_same
   generalize upd H3 f (.lst []) = H4 at *
   -- for
   refine ⟨_, rfl, _, rfl, addI ⟨q, _, _, rfl, pu3, by omega, by omega, by omega, fun t H5 t0 t1 pu5 sm5 => ⟨_, rfl, _, _, rfl, rfl, .inr ⟨_, rfl, mulI (.inl ⟨by omega, by omega⟩) ?_⟩⟩⟩⟩
   have hT : ∃ T : Nat, t * (if decide (0 < n) = true then (1 : Int) else 0) = T ∧ T ≤ many ∧ (0 < T → 0 < n) := by
    by_cases hn : 0 < n
    ·rw [if_pos (decide_eq_true hn)]; exact ⟨t.toNat, by omega, by omega, fun _ => hn⟩
    ·rw [if_neg (by simpa using hn)]; exact ⟨0, by omega, by omega, fun z => absurd z (by omega)⟩
   obtain ⟨T', eT, hT1, hT2⟩ := hT
   have eT' : ((fun i j => V.int (i * j)) t (if decide (0 < n) = true then (1 : Int) else 0)) = V.int T' := by rw [← eT]
   refine ⟨(T' : Int), by rw [← eT], by omega, by omega, ?_⟩
   refine for_range (lo := 0) (fun i σ H' => ∃ (rs : List Road) (ts : List V) (z1 z2 z3 z4 : Option V), σ = [some (.ref q), some (.int most), some (.int many), some (.int n), some (.ref l), some (.ref f), z1, z2, z3, z4] ∧
    H' f = some (.lst ts) ∧ Dns H' (fun a => a = q ∨ a = f) ts (rs.map roadD) ∧ H' l = some (.lst (hs.map V.int)) ∧ rs.length ≤ 2 * i ∧ (∀ r ∈ rs, RoadB n 300000000 r) ∧ Pu H' q (m + 300 + 40 * i) ∧ SameX (But q) H H')
    ⟨[], [], _, _, _, _, rfl, sm5 _ _ hF3 nf, .nil, sm5 _ _ hL3 nl, by simp, fun r hr => by simp at hr, pu5.mono (by omega), sm3.trans sm5⟩ ?_ ?_
   ·rintro i σ H' hi ⟨rs, ts, z1, z2, z3, z4, rfl, hF, hD, hL', hlen, hrd, puI, smI⟩
    have hn : 0 < n := hT2 (by omega)
    refine ⟨_, rfl, _, rfl, q, n, _, rfl, puI, by omega, by omega, by omega, fun a H6 a0 a1 pu6 sm6 => ?_⟩
    refine ⟨_, rfl, _, rfl, q, n, _, rfl, pu6, by omega, by omega, by omega, fun b H7 b0 b1 pu7 sm7 => ?_⟩
    refine ⟨_, rfl, q, 4, _, rfl, pu7, by omega, by decide, by decide, fun c1 H8 c0 c1' pu8 sm8 => ?_⟩
    refine ⟨_, rfl, _, _, rfl, rfl, ⟨by decide, by decide, by decide⟩, q, _, _, rfl, pu8, by omega, by decide, by decide, fun c2 H9 c20 c21 pu9 sm9 => ?_⟩
    refine ⟨(by show 4 ≤ sizeLine; decide), fun sl hsl => ?_⟩
    have nsl : sl ≠ q := pu9.ne hsl
    refine ⟨_, rfl, q, 4, _, rfl, pu9.same (Same.new hsl), by omega, by decide, by decide, fun d H10 d0 d1 pu10 sm10 => ?_⟩
    have hsl10 : H10 sl = some (.lst [.int 0, .int 0, .int c1, .int c2]) := sm10 _ _ upd_same nsl
    obtain ⟨s, hs1, hs2⟩ := pick4 (x := 0) (y := 0) (z := c1) (u := c2) d0 d1
    have s0 : 0 ≤ s ∧ s ≤ 100000000 := by
     have e8 : (10 : Int) ^ (Int.toNat 8) = 100000000 := by decide
     rw [e8] at c21
     rcases hs2 with z | z | z | z <;> omega
    have S : SameX (But q) H' H10 := (((((sm6.trans sm7).trans sm8).trans sm9).trans (SameX.new hsl)).trans sm10)
    refine ixR hsl10 hs1 ?_
    have hF10 := S _ _ hF nf
    have hL10 := S _ _ hL' nl
    have hD10 := hD.mono (S.sub fun a z => Or.inl z)
    obtain ⟨x1, e1, m1⟩ := at_intsV (hs := hs) b0 (by omega)
    obtain ⟨x2, e2, m2⟩ := at_intsV (hs := hs) a0 (by omega)
    -- roads.append
    refine ⟨_, rfl, .inl ⟨rfl, _, SqL.of hF10⟩, _, rfl, _, rfl, _, rfl, _, rfl, ixR hL10 e1 ⟨_, rfl, _, rfl, ixR hL10 e2 ⟨_, _, rfl, rfl, _, rfl, addI ⟨(by show 3 ≤ sizeLine; decide), fun tt ht => ?_⟩⟩⟩⟩
    have ntq : tt ≠ q := pu10.ne ht
    have ntf : tt ≠ f := fun e => by rw [e, hF10] at ht; cases ht
    refine ⟨f, ts, _, rfl, rfl, by rw [upd_ne ntf.symm]; exact hF10, ?_, ?_⟩
    ·rw [hD.length, List.length_map]
     exact small1000 (by omega)
    have hbd1 := hb x1 m1
    have hbd2 := hb x2 m2
    have R : RoadB n 300000000 (a, b, x1 - x2 + s) := ⟨⟨a0, a1⟩, ⟨b0, b1⟩, by show -300000000 ≤ x1 - x2 + s; omega, by show x1 - x2 + s ≤ 300000000; omega⟩
    have dt : Dn (upd H10 tt (.tup [.int a, .int b, .int (x1 - x2 + s)])) (fun z => z = q ∨ z = f) (.ref tt) (roadD (a, b, x1 - x2 + s)) :=
     Dn.newT ht (fun z => z.elim ntq ntf) (.cons (.int _) (.cons (.int _) (.cons (.int _) .nil)))
    have S11 : SameX (fun z => z = q ∨ z = f) (upd H10 tt (.tup [.int a, .int b, .int (x1 - x2 + s)])) (upd (upd H10 tt (.tup [.int a, .int b, .int (x1 - x2 + s)])) f (.lst (ts ++ [.ref tt]))) := SameX.put (.inr rfl)
    have D11 : Dns (upd (upd H10 tt (.tup [.int a, .int b, .int (x1 - x2 + s)])) f (.lst (ts ++ [.ref tt]))) (fun z => z = q ∨ z = f) (ts ++ [.ref tt]) ((rs ++ [(a, b, x1 - x2 + s)]).map roadD) := by
     rw [List.map_append]
     exact ((hD10.mono (SameX.new ht)).app (.cons dt .nil)).mono S11
    have H11q : SameX (But q) H (upd (upd H10 tt (.tup [.int a, .int b, .int (x1 - x2 + s)])) f (.lst (ts ++ [.ref tt]))) := fun z o e nz => by
     rw [upd_ne (fun ez => by rw [ez, hfH] at e; cases e)]
     exact SameX.new ht z o ((smI.trans S) z o e nz) nz
    have pu11 : Pu (upd (upd H10 tt (.tup [.int a, .int b, .int (x1 - x2 + s)])) f (.lst (ts ++ [.ref tt]))) q (m + 300 + 40 * i + 20) := by
     obtain ⟨u1, u2, u3, g1, g2⟩ := (pu10.same (Same.new (o := .tup [.int a, .int b, .int (x1 - x2 + s)]) ht)).mono (show _ ≤ m + 300 + 40 * i + 20 by omega)
     exact ⟨u1, u2, u3, by rw [upd_ne nf.symm]; exact g1, g2⟩
    have hL11 : (upd (upd H10 tt (.tup [.int a, .int b, .int (x1 - x2 + s)])) f (.lst (ts ++ [.ref tt]))) l = some (.lst (hs.map V.int)) := by
     rw [upd_ne nfl.symm]
     exact Same.new ht _ _ hL10
    have hF11 : (upd (upd H10 tt (.tup [.int a, .int b, .int (x1 - x2 + s)])) f (.lst (ts ++ [.ref tt]))) f = some (.lst (ts ++ [.ref tt])) := upd_same
    have hrd' : ∀ r ∈ rs ++ [(a, b, x1 - x2 + s)], RoadB n 300000000 r := fun r hr => by
     rcases List.mem_append.mp hr with hr | hr
     ·exact hrd r hr
     ·rw [List.mem_singleton.mp hr]; exact R
    generalize upd (upd H10 tt (.tup [.int a, .int b, .int (x1 - x2 + s)])) f (.lst (ts ++ [.ref tt])) = H11 at *
    -- once more
    refine ⟨_, rfl, q, 8, _, rfl, pu11, by omega, by decide, by decide, fun e H12 e0 e1' pu12 sm12 => eqI ⟨_, rfl, ?_⟩⟩
    have hF12 := sm12 _ _ hF11 nf
    have D12 := D11.mono (sm12.sub fun a z => Or.inl z)
    have hl12 : (ts ++ [V.ref tt]).length = rs.length + 1 := by rw [List.length_append, hD.length, List.length_map]; rfl
    refine ite2 (fun _ => ?_) (fun _ => ?_)
    ·refine ⟨_, rfl, .inl ⟨rfl, _, SqL.of hF12⟩, _, rfl, _, rfl, _, rfl, lenR hF12 ⟨q, _, _, rfl, pu12, by omega, by omega, by rw [hl12]; omega, fun g H13 g0 g1 pu13 sm13 => ?_⟩⟩
     have hF13 := sm13 _ _ hF12 nf
     have D13 := D12.mono (sm13.sub fun a z => Or.inl z)
     obtain ⟨y, ey, gy⟩ := atI_in (xs := ts ++ [V.ref tt]) g0 g1
     obtain ⟨dy, hdy, dny⟩ := D13.getV gy
     obtain ⟨ry, hry, rfl, mry⟩ := get_road hdy
     refine ixR hF13 ey ⟨f, _, y, rfl, rfl, hF13, ?_, ?_⟩
     ·rw [hl12]; exact small1000 (by omega)
     refine ⟨rs ++ [(a, b, x1 - x2 + s)] ++ [ry], ts ++ [.ref tt] ++ [y], _, _, _, _, rfl, upd_same, ?_, ?_, ?_, ?_, ?_, ?_⟩
     ·rw [List.map_append]
      exact (D13.app (.cons dny .nil)).mono (SameX.put (.inr rfl))
     ·rw [upd_ne nfl.symm]
      exact sm13 _ _ (sm12 _ _ hL11 nl) nl
     ·simp only [List.length_append, List.length_singleton]; omega
     ·intro r hr
      rcases List.mem_append.mp hr with hr | hr
      ·exact hrd' r hr
      ·rw [List.mem_singleton.mp hr]; exact hrd' ry mry
     ·obtain ⟨u1, u2, u3, g1, g2⟩ := pu13.mono (show _ ≤ m + 300 + 40 * (((i + 1 : Nat)) : Int) by omega)
      exact ⟨u1, u2, u3, by rw [upd_ne nf.symm]; exact g1, g2⟩
     ·intro z o e nz
      rw [upd_ne (fun ez => by rw [ez, hfH] at e; cases e)]
      exact ((H11q.trans sm12).trans sm13) z o e nz
    ·refine ⟨rs ++ [(a, b, x1 - x2 + s)], ts ++ [.ref tt], _, _, _, _, rfl, hF12, D12, sm12 _ _ hL11 nl, ?_, hrd', pu12.mono (by omega), H11q.trans sm12⟩
     simp only [List.length_append, List.length_singleton]; omega
   ·rintro σ H' ⟨rs, ts, z1, z2, z3, z4, rfl, hF, hD, hL', hlen, hrd, puI, smI⟩
    refine ⟨_, rfl, _, rfl, (by show 2 ≤ sizeLine; decide), fun g hg => ?_⟩
    have ng : g ≠ q := puI.ne hg
    refine k _ n rs _ ⟨n0, by omega, by omega, hrd⟩ ((puI.same (Same.new hg)).mono (by omega)) (smI.trans (SameX.new hg)) ?_
    exact Dn.newT hg ng (.cons (.int n) (.cons (Dn.ofL (P := fun a => a = q ∨ a = f) hF nf (fun a z => Or.inl z) hD) .nil))
end My


set_option Elab.async false
set_option linter.all false
set_option maxRecDepth 100000
set_option maxHeartbeats 4000000
namespace My
open PySem L2
noncomputable def Trk (P : Addr → Prop) (H : Hp) : Prop := ∀ a, P a → ∃ o, H a = some o
theorem Trk.ne {P : Addr → Prop} {H : Hp} (t : Trk P H) {l : Addr} (h : H l = none) : ¬ P l := fun z => by
 obtain ⟨o, e⟩ := t l z
 rw [h] at e; cases e
theorem Trk.same {P : Addr → Prop} {H H' : Hp} (t : Trk P H) (s : Same H H') : Trk P H' := fun a z => by
 obtain ⟨o, e⟩ := t a z
 exact ⟨o, s a o e⟩
theorem Pu.trk {H : Hp} {q : Addr} {m : Int} (p : Pu H q m) : Trk (But q) H := fun a z => by
 obtain ⟨_, _, _, h, _⟩ := p
 exact ⟨_, by rw [z]; exact h⟩
theorem cut_roads {rs : List Road} {lo hi : Option Int} : cutD (rs.map roadD) lo hi = (cutD rs lo hi).map roadD := cutD_map roadD rs lo hi
theorem roads_app (a b : List Road) : a.map roadD ++ b.map roadD = (a ++ b).map roadD := (List.map_append ..).symm
theorem addInts {H : Hp} {P P' : Addr → Prop} {x y : V} {a b : List Int} {Q : VK} (tr : Trk P H) (hx : Dn H P x (intsD a)) (hy : Dn H P' y (intsD b)) (hz : a.length + b.length ≤ 1000) (k : ∀ p H', Same H H' → Dn H' P (.ref p) (intsD (a ++ b)) → Q (.ref p) H') : rAddD x y H Q :=
 addL hx hy (line1000 (by rw [List.length_map, List.length_map]; exact hz)) fun p xs ys hp dx dy => k p _ (Same.new hp) (by
  rw [dx.ints, dy.ints, ← List.map_append]
  exact dn_ints (tr.ne hp) upd_same)
theorem slInts {H : Hp} {P : Addr → Prop} {x : V} {a : List Int} {lo hi : Option Int} {Q : VK} (tr : Trk P H) (hx : Dn H P x (intsD a)) (k : ∀ p H', Same H H' → Dn H' P (.ref p) (intsD (cutD a lo hi)) → Q (.ref p) H') : rSlD x lo hi H Q :=
 slD hx fun p ys hp dns => k p _ (Same.new hp) (by
  rw [cutD_map] at dns
  exact Dn.newL hp (tr.ne hp) dns)
theorem fm_ints {α : Type} (f : α → Option PyData) (R : Int → Prop) : ∀ (L : List α), (∀ x ∈ L, ∀ e, f x = some e → ∃ k, e = .int k ∧ R k) → ∃ ks : List Int, L.filterMap f = ks.map PyData.int ∧ (∀ k ∈ ks, R k) ∧ ks.length ≤ L.length
 | [], _ => ⟨[], rfl, fun _ h => by simp at h, Nat.le_refl _⟩
 | x :: L, h => by
  obtain ⟨ks, e, hk, hl⟩ := fm_ints f R L fun y hy => h y (List.mem_cons_of_mem _ hy)
  rw [List.filterMap_cons]
  cases q : f x with
  | none => exact ⟨ks, e, hk, by simp; omega⟩
  | some d =>
   obtain ⟨k, rfl, hr⟩ := h x List.mem_cons_self d q
   refine ⟨k :: ks, by simp [e], fun j hj => ?_, by simp; omega⟩
   rcases List.mem_cons.mp hj with rfl | hj
   ·exact hr
   ·exact hk j hj
noncomputable def fromF (p : Int) : Nat × PyData → Option PyData := fun x => match x.2 with
 | .tuple [.int a, .int _, .int _] => if a = p then some (.int x.1) else none
 | _ => none
theorem pick6 {a b c d e g : Int} {r : Int} (h0 : 0 ≤ r) (h1 : r < 6) : ∃ w, atI [V.int a, .int b, .int c, .int d, .int e, .int g] r = some (.int w) := by
 have : r = 0 ∨ r = 1 ∨ r = 2 ∨ r = 3 ∨ r = 4 ∨ r = 5 := by omega
 rcases this with rfl | rfl | rfl | rfl | rfl | rfl
 ·exact ⟨a, rfl⟩
 ·exact ⟨b, rfl⟩
 ·exact ⟨c, rfl⟩
 ·exact ⟨d, rfl⟩
 ·exact ⟨e, rfl⟩
 ·exact ⟨g, rfl⟩
end My


set_option Elab.async false
set_option linter.all false
set_option maxRecDepth 100000
set_option maxHeartbeats 4000000
namespace My
open PySem L2
theorem ok__law_any {P : Program} {w : World} {K : PySem.W.Frag} {mg : Str → Option Value} {base : Heap} (T : Tx K mg) : Callee P w K mg base "_law_any" ["_law_purse_here", "_law_most", "_law_many"] 5 spAny := by
 have c__law_net := ok__law_net (P := P) (w := w) (base := base) T
 have c__law_draw := ok__law_draw (P := P) (w := w) (base := base) T
 refine callee_of T.d__law_any (fun _ _ _ _ _ _ us hl => match us, hl with | [_, _, _], _ => rfl) sc__law_any (fun vs H Q E h => ?_) (fun f cdv A outer s H vs Q E hr h => ?_)
 ·obtain ⟨q, most, many, m, rfl, _⟩ := h; rfl
 ·obtain ⟨q, most, many, m, rfl, pu, hm, hmost, hmany, k⟩ := h
  refine ⟨_, (pss_cons (ps_asg (pe_callC c__law_net hr (by decide) rfl (pa_cons (pv 0) (pa_cons (pv 1) (pa_cons (pv 2) pa_nil)))) (pg_tupD (n := 2) rfl (pgs_cons (pg_name (i := 3) sc__law_any.nd rfl (Or.inl rfl)) (pgs_cons (pg_name (i := 4) sc__law_any.nd rfl (Or.inl rfl)) pgs_nil))))
   (pss_cons (ps_if (PW.pt (pw_or (pt_cmpR (op_eqD hr.units) (pv 4) (pe_lst pa_nil) (nomark _)) (pw_or1 (pt_cmpR (op_eqD hr.units) (pe_callC c__law_draw hr (by decide) rfl (pa_cons (pv 0) (pa_cons pe_int pa_nil))) pe_int (nomark _))))) (pss_one (ps_ret (pe_tup (pa_cons (pv 3) (pa_cons (pv 4) pa_nil))))) pss_nil)
   (pss_cons (ps_set (i := 5) sc__law_any.nd rfl (Or.inl rfl) (pe_callC c__law_draw hr (by decide) rfl (pa_cons (pv 0) (pa_cons (pe_callB call_lenD rfl T.n_len PySem.boot_len (pa_cons (pv 4) pa_nil)) pa_nil))))
   (pss_cons (ps_asg (pe_ix ix_D (pv 4) (pv 5) (fun _ _ => rfl)) (pg_tupD (n := 3) rfl (pgs_cons (pg_name (i := 6) sc__law_any.nd rfl (Or.inl rfl)) (pgs_cons (pg_name (i := 7) sc__law_any.nd rfl (Or.inl rfl)) (pgs_cons (pg_name (i := 8) sc__law_any.nd rfl (Or.inl rfl)) pgs_nil)))))
   (pss_cons (ps_set (i := 9) sc__law_any.nd rfl (Or.inl rfl) (pe_ix ix_D (pe_lst (pa_cons pe_int (pa_cons pe_int (pa_cons (pe_callC c__law_draw hr (by decide) rfl (pa_cons (pv 0) (pa_cons pe_int pa_nil))) (pa_cons (pe_callC c__law_draw hr (by decide) rfl (pa_cons (pv 0) (pa_cons (pe_op op_pow pe_int pe_int) pa_nil))) pa_nil))))) (pe_callC c__law_draw hr (by decide) rfl (pa_cons (pv 0) (pa_cons pe_int pa_nil))) (fun _ _ => rfl)))
   (pss_one (ps_ret (pe_tup (pa_cons (pv 3) (pa_cons (pe_op op_addD (pe_op op_addD (pe_slice sl_D (pv 4) po_none (po_some (pv 5))) (pe_lst (pa_cons (pe_tup (pa_cons (pv 6) (pa_cons (pv 7) (pa_cons (pe_op op_sub (pv 8) (pv 9)) pa_nil)))) pa_nil))) (pe_slice sl_D (pv 4) (po_some (pe_op op_addD (pv 5) pe_int)) po_none)) pa_nil)))))))))), ?_⟩
  refine ⟨_, rfl, _, rfl, _, rfl, q, most, many, m, rfl, pu, by omega, hmost, hmany, fun v n rs H1 nb pu1 sm1 dn => ?_⟩
  obtain ⟨a, l, rfl, na, ha, hl⟩ := dn.net
  refine ⟨a, _, rfl, ha, rfl, _, _, rfl, _, _, rfl, rfl, ?_⟩
  have hlen := nb.len
  have ret : ∀ H2, Pu H2 q (m + 2050) → SameX (But q) H H2 → Dn H2 (But q) (.ref l) (roadsD rs) → ∀ g, H2 g = none → Q (.ref g) (upd H2 g (.tup [.int n, .ref l])) := fun H2 pu2 sm2 hl2 g hg =>
   k _ n rs _ (nb.mono (Nat.le_refl _) (by omega) (by decide)) ((pu2.same (Same.new hg)).mono (by omega)) (sm2.trans (SameX.new hg)) (Dn.newT hg (pu2.ne hg) (.cons (.int n) (.cons hl2 .nil)))
  dsimp only
  refine seq_by (t := tIfS _ _ _) (fun σ' H' => ∃ r rs', rs = r :: rs' ∧ σ' = [some (.ref q), some (.int most), some (.int many), some (.int n), some (.ref l), none, none, none, none, none] ∧ Pu H' q (m + 2050) ∧ SameX (But q) H H' ∧ Dn H' (But q) (.ref l) (roadsD rs)) (fun U go => ?_) ?_
  ·refine ⟨_, rfl, Nat.zero_le _, fun p hp => ?_⟩
   have np : p ≠ q := pu1.ne hp
   have pu2 := (pu1.same (Same.new (o := .lst []) hp)).mono (show m + 2000 ≤ m + 2010 by omega)
   have sm2 := sm1.trans (SameX.new (P := But q) (o := .lst []) hp)
   have hl2 := hl.mono (SameX.new (P := But q) (o := .lst []) hp)
   refine eqD hl2 (Dn.newL (P := But q) hp np .nil) (Lay.roads rs).shaped (by rfl) ⟨_, rfl, ?_⟩
   unfold roadsD
   rw [eqv_nil]
   cases rs with
   | nil => exact ⟨_, rfl, _, rfl, (by show 2 ≤ sizeLine; decide), fun g hg => ret _ (pu2.mono (by omega)) sm2 hl2 g hg⟩
   | cons r rs =>
    refine ite_f rfl ?_
    refine ⟨_, rfl, q, 2, _, rfl, pu2, by omega, by decide, by decide, fun e H3 e0 e1 pu3 sm3 => eqI ⟨_, rfl, ?_⟩⟩
    refine ite2 (fun _ => ?_) (fun _ => ?_)
    ·exact ⟨_, rfl, _, rfl, (by show 2 ≤ sizeLine; decide), fun g hg => ret _ (pu3.mono (by omega)) (sm2.trans sm3) (hl2.mono sm3) g hg⟩
    ·exact go _ _ ⟨r, rs, rfl, rfl, pu3.mono (by omega), sm2.trans sm3, hl2.mono sm3⟩
  ·rintro _ H2 ⟨r0, rs0, ers, rfl, pu2, sm2, hl2⟩
   have hpos : 0 < rs.length := by rw [ers]; exact Nat.succ_pos _
   refine ⟨_, rfl, _, rfl, lenL hl2 ⟨q, _, _, rfl, pu2, by omega, by rw [List.length_map]; omega, by rw [List.length_map]; omega, fun g H3 g0 g1 pu3 sm3 => ?_⟩⟩
   rw [List.length_map] at g1
   have hl3 := hl2.mono sm3
   obtain ⟨r, hr1, hr2⟩ := roadAt_in g0 g1
   refine ⟨_, rfl, _, rfl, ixL hl3 (at_road hr1) fun v1 hv1 => ?_⟩
   obtain ⟨ra, rfl, _, hra⟩ := hv1.road
   refine ⟨ra, _, rfl, hra, rfl, _, _, rfl, _, _, rfl, _, _, rfl, rfl, ?_⟩
   -- less
   refine ⟨_, rfl, q, 10, _, rfl, pu3, by omega, by decide, by decide, fun c1 H4 c10 c11 pu4 sm4 => ?_⟩
   refine ⟨_, rfl, _, _, rfl, rfl, ⟨by decide, by decide, by decide⟩, q, _, _, rfl, pu4, by omega, by decide, by decide, fun c2 H5 c20 c21 pu5 sm5 => ?_⟩
   refine ⟨(by show 4 ≤ sizeLine; decide), fun sl hsl => ?_⟩
   have nsl : sl ≠ q := pu5.ne hsl
   refine ⟨_, rfl, q, 4, _, rfl, pu5.same (Same.new hsl), by omega, by decide, by decide, fun d H6 d0 d1 pu6 sm6 => ?_⟩
   have hsl6 : H6 sl = some (.lst [.int 1, .int 2, .int c1, .int c2]) := sm6 _ _ upd_same nsl
   obtain ⟨s, hs1, hs2⟩ := pick4 (x := 1) (y := 2) (z := c1) (u := c2) d0 d1
   have s0 : 0 ≤ s ∧ s ≤ 100000000 := by
    have e8 : (10 : Int) ^ (Int.toNat 8) = 100000000 := by decide
    rw [e8] at c21
    rcases hs2 with z | z | z | z <;> omega
   refine ixR hsl6 hs1 ?_
   have S6 : SameX (But q) H3 H6 := ((sm4.trans sm5).trans (SameX.new hsl)).trans sm6
   have hl6 := hl3.mono S6
   have smT := (sm2.trans sm3).trans S6
   obtain ⟨hb1, hb2, hb3⟩ := nb.rd r (roadAt_mem hr1)
   -- the answer
   refine ⟨_, rfl, _, rfl, _, rfl, g, rfl, slD hl6 fun p1 ys1 hp1 dn1 => ?_⟩
   rw [cut_roads] at dn1
   have np1 : p1 ≠ q := pu6.ne hp1
   have D1 : Dn (upd H6 p1 (.lst ys1)) (But q) (.ref p1) (roadsD (cutD rs none (some g))) := Dn.newL hp1 np1 dn1
   have smA := smT.trans (SameX.new (P := But q) (o := .lst ys1) hp1)
   have puA := pu6.same (Same.new (o := .lst ys1) hp1)
   have hlA := hl6.mono (SameX.new (P := But q) (o := .lst ys1) hp1)
   generalize upd H6 p1 (.lst ys1) = HA at *
   refine ⟨_, rfl, _, rfl, _, rfl, _, rfl, _, _, rfl, rfl, (by show 3 ≤ sizeLine; decide), fun t ht => ⟨(by show 1 ≤ sizeLine; decide), fun p2 hp2 => ?_⟩⟩
   have D2 : Dn (upd HA t (.tup [.int r.1, .int r.2.1, .int (r.2.2 - s)])) (But q) (.ref t) (roadD (r.1, r.2.1, r.2.2 - s)) := Dn.newT ht (puA.ne ht) (.cons (.int _) (.cons (.int _) (.cons (.int _) .nil)))
   have smB := smA.trans (SameX.new (P := But q) (o := .tup [.int r.1, .int r.2.1, .int (r.2.2 - s)]) ht)
   have puB := puA.same (Same.new (o := .tup [.int r.1, .int r.2.1, .int (r.2.2 - s)]) ht)
   have hlB := hlA.mono (SameX.new (P := But q) (o := .tup [.int r.1, .int r.2.1, .int (r.2.2 - s)]) ht)
   have D1B := D1.mono (SameX.new (P := But q) (o := .tup [.int r.1, .int r.2.1, .int (r.2.2 - s)]) ht)
   generalize upd HA t (.tup [.int r.1, .int r.2.1, .int (r.2.2 - s)]) = HB at *
   have D3 : Dn (upd HB p2 (.lst [.ref t])) (But q) (.ref p2) (roadsD [(r.1, r.2.1, r.2.2 - s)]) := Dn.newL hp2 (puB.ne hp2) (.cons D2 .nil)
   have smC := smB.trans (SameX.new (P := But q) (o := .lst [.ref t]) hp2)
   have puC := puB.same (Same.new (o := .lst [.ref t]) hp2)
   have hlC := hlB.mono (SameX.new (P := But q) (o := .lst [.ref t]) hp2)
   have D1C := D1B.mono (SameX.new (P := But q) (o := .lst [.ref t]) hp2)
   generalize upd HB p2 (.lst [.ref t]) = HC at *
   have len1 := cutD_len rs none (some g)
   have len2 := cutD_len rs (some (g + 1)) none
   refine addL D1C D3 (line1000 (by rw [List.length_map, List.length_map]; show _ + 1 ≤ 1000; omega)) fun p3 xs ys hp3 dx dy => ?_
   have D4 : Dn (upd HC p3 (.lst (xs ++ ys))) (But q) (.ref p3) (roadsD (cutD rs none (some g) ++ [(r.1, r.2.1, r.2.2 - s)])) := by
    unfold roadsD
    rw [← roads_app]
    exact Dn.newL hp3 (puC.ne hp3) (dx.app dy)
   have smD := smC.trans (SameX.new (P := But q) (o := .lst (xs ++ ys)) hp3)
   have puD := puC.same (Same.new (o := .lst (xs ++ ys)) hp3)
   have hlD := hlC.mono (SameX.new (P := But q) (o := .lst (xs ++ ys)) hp3)
   generalize upd HC p3 (.lst (xs ++ ys)) = HD at *
   refine ⟨_, rfl, _, rfl, addI ⟨_, rfl, slD hlD fun p4 ys4 hp4 dn4 => ?_⟩⟩
   rw [cut_roads] at dn4
   have D5 : Dn (upd HD p4 (.lst ys4)) (But q) (.ref p4) (roadsD (cutD rs (some (g + 1)) none)) := Dn.newL hp4 (puD.ne hp4) dn4
   have smE := smD.trans (SameX.new (P := But q) (o := .lst ys4) hp4)
   have puE := puD.same (Same.new (o := .lst ys4) hp4)
   have D4E := D4.mono (SameX.new (P := But q) (o := .lst ys4) hp4)
   generalize upd HD p4 (.lst ys4) = HE at *
   refine addL D4E D5 (line1000 (by rw [List.length_map, List.length_map, List.length_append]; show _ + 1 + _ ≤ 1000; omega)) fun p5 xs5 ys5 hp5 dx5 dy5 => ?_
   have D6 : Dn (upd HE p5 (.lst (xs5 ++ ys5))) (But q) (.ref p5) (roadsD (cutD rs none (some g) ++ [(r.1, r.2.1, r.2.2 - s)] ++ cutD rs (some (g + 1)) none)) := by
    unfold roadsD
    rw [← roads_app]
    exact Dn.newL hp5 (puE.ne hp5) (dx5.app dy5)
   have smF := smE.trans (SameX.new (P := But q) (o := .lst (xs5 ++ ys5)) hp5)
   have puF := puE.same (Same.new (o := .lst (xs5 ++ ys5)) hp5)
   generalize upd HE p5 (.lst (xs5 ++ ys5)) = HF at *
   refine ⟨(by show 2 ≤ sizeLine; decide), fun p6 hp6 => ?_⟩
   refine k _ n (cutD rs none (some g) ++ [(r.1, r.2.1, r.2.2 - s)] ++ cutD rs (some (g + 1)) none) _ ⟨nb.n0, nb.n1, ?_, fun x hx => ?_⟩ ((puF.same (Same.new hp6)).mono (by omega)) (smF.trans (SameX.new hp6)) (Dn.newT hp6 (puF.ne hp6) (.cons (.int n) (.cons D6 .nil)))
   ·rw [List.length_append, List.length_append]
    show _ + 1 + _ ≤ _
    omega
   ·rcases List.mem_append.mp hx with hx | hx
    ·rcases List.mem_append.mp hx with hx | hx
     ·obtain ⟨a1, a2, a3⟩ := nb.rd x (cutD_mem hx)
      exact ⟨a1, a2, by omega, by omega⟩
     ·rw [List.mem_singleton.mp hx]
      exact ⟨hb1, hb2, by show -400000000 ≤ r.2.2 - s; omega, by show r.2.2 - s ≤ 400000000; omega⟩
    ·obtain ⟨a1, a2, a3⟩ := nb.rd x (cutD_mem hx)
     exact ⟨a1, a2, by omega, by omega⟩
end My


set_option Elab.async false
set_option linter.all false
set_option maxRecDepth 100000
set_option maxHeartbeats 4000000
namespace My
open PySem L2
noncomputable def spWalked : Sp := fun vs H Q _ => ∃ (q : Addr) (v : V) (m n : Int) (rs : List Road), vs = [.ref q, v] ∧ Pu H q m ∧ m ≤ 2 ^ 48 ∧ Dn H (But q) v (netD n rs) ∧ NetOk n rs ∧ 1 ≤ n ∧
 ∀ (v' : V) (ws : List Int) (H' : Hp), AllIn rs ws → ws.length ≤ 12 → Pu H' q (m + 100) → SameX (But q) H H' → Dn H' (But q) v' (intsD ws) → Q v' H'
theorem ok__law_walked {P : Program} {w : World} {K : PySem.W.Frag} {mg : Str → Option Value} {base : Heap} (T : Tx K mg) : Callee P w K mg base "_law_walked" ["_law_purse_here", "_law_net_here"] 3 spWalked := by
 have c__law_draw := ok__law_draw (P := P) (w := w) (base := base) T
 refine callee_of T.d__law_walked (fun _ _ _ _ _ _ us hl => match us, hl with | [_, _], _ => rfl) sc__law_walked (fun vs H Q E h => ?_) (fun f cdv A outer s H vs Q E hr h => ?_)
 ·obtain ⟨q, v, m, n, rs, rfl, _⟩ := h; rfl
 ·obtain ⟨q, v, m, n, rs, rfl, pu, hm, hd, ok, hn, k⟩ := h
  refine ⟨_, (pss_cons (ps_set (i := 2) sc__law_walked.nd rfl (Or.inr rfl) (pe_callC c__law_draw hr (by decide) rfl (pa_cons (pv 0) (pa_cons (pe_ix ix_D (pv 1) pe_int (fun _ _ => rfl)) pa_nil))))
   (pss_cons (ps_set (i := 3) sc__law_walked.nd rfl (Or.inl rfl) (pe_lst pa_nil))
   (pss_cons (ps_for PassesOwn.never rfl (pi_range1 rfl T.n_range (pa_cons (pe_callC c__law_draw hr (by decide) rfl (pa_cons (pv 0) (pa_cons pe_int pa_nil))) pa_nil)) (pg_name (i := 4) sc__law_walked.nd rfl (Or.inl rfl))
   (pss_cons (ps_setLC (i := 5) sc__law_walked.nd rfl (Or.inl rfl) (N' := ["_law_number_here", "_law_road", "_law_place"]) (js := [none, none, some 2]) rfl (pi_E rfl T.n_enumerate (pa_cons (pe_ix ix_D (pv 1) pe_int (fun _ _ => rfl)) pa_nil)) (by kernel_rfl) (gk_tup (gks2 rfl rfl)) (by kernel_rfl) rfl (fun _ _ _ => ⟨(pg_tupD (n := 2) rfl (pgs_cons (pg_name (i := 0) (show List.Nodup [("_law_number_here" : Str), ("_law_road" : Str), ("_law_place" : Str)] by decide +kernel) rfl (Or.inl rfl)) (pgs_cons (pg_name (i := 1) (show List.Nodup [("_law_number_here" : Str), ("_law_road" : Str), ("_law_place" : Str)] by decide +kernel) rfl (Or.inl rfl)) pgs_nil))), (pf_one (pt_cmpR (op_eqD hr.units) (pe_ix ix_D (pv 1) pe_int (fun _ _ => rfl)) (pv 2) (nomark _))), (pv 0)⟩))
   (pss_one (ps_if (pt_cmpR (op_neD hr.units) (pv 5) (pe_lst pa_nil) (nomark _)) (pss_cons (ps_expr (pe_bm PySem.F.plainAttrs_list PySem.F.slot_list_append PySem.F.type_list_append mt_append (pv 3) (pa_cons (pe_ix ix_D (pv 5) (pe_callC c__law_draw hr (by decide) rfl (pa_cons (pv 0) (pa_cons (pe_callB call_lenD rfl T.n_len PySem.boot_len (pa_cons (pv 5) pa_nil)) pa_nil))) (fun _ _ => rfl)) pa_nil)))
   (pss_one (ps_set (i := 2) sc__law_walked.nd rfl (Or.inr rfl) (pe_ix ix_D (pe_ix ix_D (pe_ix ix_D (pv 1) pe_int (fun _ _ => rfl)) (pe_ix ix_D (pv 3) pe_negc (fun _ _ => rfl)) (fun _ _ => rfl)) pe_int (fun _ _ => rfl))))) pss_nil))))
   (pss_one (ps_ret (pv 3)))))), ?_⟩
  have ok1 := ok.n1
  have okl := ok.len
  refine ⟨_, rfl, _, rfl, ixT hd rfl fun v0 hv0 => ?_⟩
  cases hv0
  refine ⟨q, n, m, rfl, pu, by omega, by omega, by omega, fun r HB r0 r1 puB smB => ?_⟩
  refine ⟨Nat.zero_le _, fun f hf => ?_⟩
  have nf : f ≠ q := puB.ne hf
  have hfH : H f = none := smB.back hf nf
  have puC : Pu (upd HB f (.lst [])) q (m + 4) := puB.same (Same.new hf)
  have smC : SameX (But q) H (upd HB f (.lst [])) := smB.trans (SameX.new hf)
  have hFC : (upd HB f (.lst [])) f = some (.lst []) := upd_same
  generalize upd HB f (.lst []) = HC at *
  refine ⟨_, rfl, q, 13, _, rfl, puC, by omega, by decide, by decide, fun cnt HD c0 c1 puD smD => ?_⟩
  refine ⟨cnt, rfl, by omega, by omega, for_range (lo := 0) (n := cnt.toNat) (fun i σ H' => ∃ (p : Int) (ws : List Int) (z1 z2 : Option V), σ = [some (.ref q), some v, some (.int p), some (.ref f), z1, z2] ∧ 0 ≤ p ∧ p < n ∧
    H' f = some (.lst (ws.map V.int)) ∧ AllIn rs ws ∧ ws.length ≤ i ∧ Pu H' q (m + 20 + 4 * i) ∧ SameX (But q) H H')
    ⟨r, [], _, _, rfl, r0, r1, smD _ _ hFC nf, fun _ z => by simp at z, Nat.le_refl _, puD.mono (by omega), smC.trans smD⟩ ?_ ?_⟩
  ·rintro i σ H' hi ⟨p, ws, z1, z2, rfl, p0, p1, hF, hin, hlen, puI, smI⟩
   have hi12 : i < 12 := by have : i < cnt.toNat := hi; omega
   have hdI := hd.mono smI
   refine ⟨_, rfl, ixT hdI rfl fun v1 hv1 => ?_⟩
   cases id hv1 with
   | @lst l ys0 _ nl hl' tl =>
   refine ⟨l, _, rfl, hl', lc_enumD (P := But q) (fromF p) hv1 (line1000 (by rw [List.length_map]; omega)) ?_ ?_⟩
   ·intro j d x tt H2 Ny Nn hdj sm2 htt hdn yes no
    obtain ⟨r', hj, rfl, hmem⟩ := get_road hdj
    have s3 : Same H2 (upd H2 tt (.tup [.int j, x])) := Same.new htt
    refine ⟨tt, _, rfl, upd_same, rfl, _, _, rfl, _, _, rfl, rfl, ?_⟩
    refine ⟨_, rfl, ixT (hdn.mono s3.x) rfl fun v2 hv2 => ?_⟩
    cases hv2
    refine ⟨_, rfl, eqI ⟨_, rfl, ?_⟩⟩
    refine ite2 (fun h0 => ?_) (fun h0 => ?_)
    ·rw [decide_eq_true_iff] at h0
     exact ⟨_, rfl, yes _ _ _ s3 (show (if r'.1 = p then some (PyData.int j) else none) = some (.int j) from if_pos h0) (.int _)⟩
    ·rw [decide_eq_true_iff] at h0
     exact no _ s3 (show (if r'.1 = p then some (PyData.int j) else none) = none from if_neg h0)
   ·intro sm' H2 ys2 s2 hsm' dns2
    obtain ⟨so, eso, hso, lso⟩ := fm_ints (fromF p) (fun x => 0 ≤ x ∧ x < rs.length) ((List.range (rs.map roadD).length).zip (rs.map roadD)) (fun x hx e he => by
     have hx1 := List.mem_range.mp (List.of_mem_zip hx).1
     rw [List.length_map] at hx1
     unfold fromF at he
     split at he
     ·split at he
      ·cases he; exact ⟨_, rfl, by omega, by omega⟩
      ·cases he
     ·cases he)
    rw [eso] at dns2
    have puS := (puI.same s2).same (Same.new (o := .lst ys2) hsm')
    have DS : Dn (upd H2 sm' (.lst ys2)) (But q) (.ref sm') (intsD so) := Dn.newL hsm' ((puI.same s2).ne hsm') dns2
    have sS : Same H' (upd H2 sm' (.lst ys2)) := s2.trans (Same.new hsm')
    generalize upd H2 sm' (.lst ys2) = HT at *
    have lso' : so.length ≤ rs.length := by
     have : ((List.range (rs.map roadD).length).zip (rs.map roadD)).length = rs.length := by simp
     omega
    dsimp only
    refine ⟨_, rfl, Nat.zero_le _, fun pe hpe => ?_⟩
    have sV : Same HT (upd HT pe (.lst [])) := Same.new hpe
    refine eqD (DS.mono sV.x) (Dn.newL (P := But q) hpe (puS.ne hpe) .nil) (Lay.ints so).shaped (by rfl) ⟨_, rfl, ?_⟩
    have puV := puS.same sV
    have sW := sS.trans sV
    have DS2 := DS.mono sV.x
    generalize upd HT pe (.lst []) = HV at *
    unfold intsD
    rw [eqv_nil]
    have hFV := sW _ _ hF
    cases so with
    | nil =>
     refine ite_f rfl ?_
     exact ⟨p, ws, _, _, rfl, p0, p1, hFV, hin, by omega, puV.mono (by omega), smI.trans sW.x⟩
    | cons s0 so =>
     refine ite_t rfl ?_
     have lcons : (s0 :: so).length ≤ 60 := by omega
     refine ⟨_, rfl, .inl ⟨rfl, _, SqL.of hFV⟩, _, rfl, _, rfl, _, rfl, lenL DS2 ⟨q, _, _, rfl, puV, by omega, ?_, ?_, fun g HX g0 g1 puX smX' => ?_⟩⟩
     ·rw [List.length_map]; simp only [List.length_cons]; omega
     ·rw [List.length_map]; omega
     rw [List.length_map] at g1
     have DX := DS2.mono smX'
     obtain ⟨y, hy⟩ := at_in (xs := s0 :: so) g0 g1
     refine ixL DX (at_int g0 hy) fun v5 hv5 => ?_
     cases hv5
     have hFX : HX f = some (.lst (ws.map V.int)) := smX' _ _ hFV nf
     have hyin : 0 ≤ y ∧ y < rs.length := hso y (List.mem_of_getElem? hy)
     refine ⟨f, _, .int y, rfl, rfl, hFX, ?_, ?_⟩
     ·rw [List.length_map]; exact small1000 (by omega)
     have smY : SameX (But q) H (upd HX f (.lst (ws.map V.int ++ [.int y]))) := fun z o e nz => by
      rw [upd_ne (fun ez => by rw [ez, hfH] at e; cases e)]
      exact ((smI.trans sW.x).trans smX') z o e nz
     have puY : Pu (upd HX f (.lst (ws.map V.int ++ [.int y]))) q (m + 20 + 4 * (((i + 1 : Nat)) : Int)) := by
      obtain ⟨u1, u2, u3, g1, g2⟩ := puX.mono (show _ ≤ m + 20 + 4 * (((i + 1 : Nat)) : Int) by omega)
      exact ⟨u1, u2, u3, by rw [upd_ne nf.symm]; exact g1, g2⟩
     have hFY : (upd HX f (.lst (ws.map V.int ++ [.int y]))) f = some (.lst (ws.map V.int ++ [.int y])) := upd_same
     generalize upd HX f (.lst (ws.map V.int ++ [.int y])) = HY at *
     obtain ⟨r', hr1, hr2⟩ := roadAt_in hyin.1 hyin.2
     obtain ⟨_, ⟨t0, t1⟩, _⟩ := ok.rd r' (roadAt_mem hr1)
     refine ⟨_, rfl, ixT (hd.mono smY) rfl fun v6 hv6 => ⟨_, rfl, ixR hFY (atI_last _ _) (ixL hv6 (at_road hr1) fun v7 hv7 => ixT hv7 rfl fun v8 hv8 => ?_)⟩⟩
     cases hv8
     have hFY' : HY f = some (.lst ((ws ++ [y]).map V.int)) := by rw [hFY]; simp
     have hin' : AllIn rs (ws ++ [y]) := fun z hz => by
      rcases List.mem_append.mp hz with hz | hz
      ·exact hin z hz
      ·rw [List.mem_singleton.mp hz]; exact hyin
     exact ⟨r'.2.1, ws ++ [y], _, _, rfl, t0, t1, hFY', hin', by simp; omega, puY, smY⟩
  ·rintro σ H' ⟨p, ws, z1, z2, rfl, p0, p1, hF, hin, hlen, puI, smI⟩
   have : ws.length ≤ cnt.toNat := hlen
   have puI' : Pu H' q (m + 20 + 4 * (cnt.toNat : Int)) := puI
   exact ⟨_, rfl, k _ ws H' hin (by omega) (puI'.mono (by omega)) smI (dn_ints nf hF)⟩
noncomputable def spBent01 : Sp := fun vs H Q _ => ∃ (q : Addr) (v w : V) (m n : Int) (rs : List Road) (ws : List Int), vs = [.ref q, v, w] ∧ Pu H q m ∧ m ≤ 2 ^ 48 ∧ Dn H (But q) v (netD n rs) ∧ NetOk n rs ∧ Dn H (But q) w (intsD ws) ∧ ws.length ≤ 100 ∧
 ∀ (v' : V) (ws' : List Int) (H' : Hp), ws'.length ≤ 500 → Pu H' q (m + 100) → SameX (But q) H H' → Dn H' (But q) v' (intsD ws') → Q v' H'
theorem ok__law_bent {P : Program} {w : World} {K : PySem.W.Frag} {mg : Str → Option Value} {base : Heap} (T : Tx K mg) : Callee P w K mg base "_law_bent" ["_law_purse_here", "_law_net_here", "_law_way"] 3 spBent01 := by
 have c__law_draw := ok__law_draw (P := P) (w := w) (base := base) T
 refine callee_of T.d__law_bent (fun _ _ _ _ _ _ us hl => match us, hl with | [_, _, _], _ => rfl) sc__law_bent (fun vs H Q E h => ?_) (fun f cdv A outer s H vs Q E hr h => ?_)
 ·obtain ⟨q, v, w', m, n, rs, ws, rfl, _⟩ := h; rfl
 ·obtain ⟨q, v, w', m, n, rs, ws, rfl, pu, hm, hd, ok, hw, hlen, k⟩ := h
  refine ⟨_, (pss_cons (ps_set (i := 3) sc__law_bent.nd rfl (Or.inl rfl) (pe_callB call_lenD rfl T.n_len PySem.boot_len (pa_cons (pe_ix ix_D (pv 1) pe_int (fun _ _ => rfl)) pa_nil)))
   (pss_cons (ps_set (i := 4) sc__law_bent.nd rfl (Or.inl rfl) (pe_lst (pa_cons pe_int (pa_cons (pv 3) (pa_cons pe_negc (pa_cons (pe_op op_pow pe_int pe_int) (pa_cons (pe_callC c__law_draw hr (by decide) rfl (pa_cons (pv 0) (pa_cons (pe_op op_addD (pv 3) pe_int) pa_nil))) (pa_cons (pe_op op_sub (pe_callC c__law_draw hr (by decide) rfl (pa_cons (pv 0) (pa_cons (pe_op op_addD (pv 3) pe_int) pa_nil))) (pv 3)) pa_nil))))))))
   (pss_cons (ps_set (i := 5) sc__law_bent.nd rfl (Or.inl rfl) (pe_ix ix_D (pv 4) (pe_callC c__law_draw hr (by decide) rfl (pa_cons (pv 0) (pa_cons pe_int pa_nil))) (fun _ _ => rfl)))
   (pss_cons (ps_set (i := 6) sc__law_bent.nd rfl (Or.inl rfl) (pe_callC c__law_draw hr (by decide) rfl (pa_cons (pv 0) (pa_cons (pe_op op_addD (pe_callB call_lenD rfl T.n_len PySem.boot_len (pa_cons (pv 2) pa_nil)) pe_int) pa_nil))))
   (pss_cons (ps_set (i := 7) sc__law_bent.nd rfl (Or.inl rfl) (pe_callC c__law_draw hr (by decide) rfl (pa_cons (pv 0) (pa_cons pe_int pa_nil))))
   (pss_cons (ps_if (pt_cmpR (op_eqD hr.units) (pv 7) pe_int (nomark _)) (pss_one (ps_ret (pe_op op_addD (pe_op op_addD (pe_slice sl_D (pv 2) po_none (po_some (pv 6))) (pe_lst (pa_cons (pv 5) pa_nil))) (pe_slice sl_D (pv 2) (po_some (pe_op op_addD (pv 6) pe_int)) po_none)))) pss_nil)
   (pss_cons (ps_if (pt_cmpR (op_eqD hr.units) (pv 7) pe_int (nomark _)) (pss_one (ps_ret (pe_op op_addD (pe_op op_addD (pe_slice sl_D (pv 2) po_none (po_some (pv 6))) (pe_lst (pa_cons (pv 5) pa_nil))) (pe_slice sl_D (pv 2) (po_some (pv 6)) po_none)))) pss_nil)
   (pss_cons (ps_if (pt_cmpR (op_eqD hr.units) (pv 7) pe_int (nomark _)) (pss_one (ps_ret (pe_rev (pv 2) pe_negc (fun _ _ => ⟨_, by with_unfolding_all rfl⟩)))) pss_nil)
   (pss_one (ps_ret (pv 2))))))))))), ?_⟩
  have okl := ok.len
  have el : (rs.map roadD).length = rs.length := List.length_map ..
  -- many
  refine ⟨_, rfl, ixT hd rfl fun v1 hv1 => lenL hv1 ?_⟩
  -- some
  refine ⟨_, rfl, _, _, rfl, rfl, ⟨by decide, by decide, by decide⟩, _, rfl, _, rfl, addI ⟨q, _, _, rfl, pu, by omega, by omega, by omega, fun r1 H1 r10 r11 pu1 sm1 => ?_⟩⟩
  refine ⟨_, rfl, _, rfl, addI ⟨q, _, _, rfl, pu1, by omega, by omega, by omega, fun r2 H2 r20 r21 pu2 sm2 => ?_⟩⟩
  refine ⟨_, rfl, _, _, rfl, rfl, ?_⟩
  refine ⟨(by show 6 ≤ sizeLine; decide), fun sl hsl => ?_⟩
  have nsl : sl ≠ q := pu2.ne hsl
  refine ⟨_, rfl, _, rfl, q, 6, _, rfl, pu2.same (Same.new hsl), by omega, by decide, by decide, fun d H4 d0 d1 pu4 sm4 => ?_⟩
  have hsl4 := sm4 _ _ upd_same nsl
  obtain ⟨nb, hnb⟩ := pick6 (a := 0) (b := ((rs.map roadD).length : Int)) (c := -1) (d := 10 ^ (Int.toNat 29)) (e := r1) (g := r2 - ((rs.map roadD).length : Int)) d0 d1
  refine ixR hsl4 hnb ?_
  have S4 : SameX (But q) H H4 := ((sm1.trans sm2).trans (SameX.new hsl)).trans sm4
  have D4 := hw.mono S4
  -- at
  refine ⟨_, rfl, _, rfl, lenL D4 (addI ⟨q, _, _, rfl, pu4, by omega, by rw [List.length_map]; omega, by rw [List.length_map]; omega, fun g H5 g0 g1 pu5 sm5 => ?_⟩)⟩
  rw [List.length_map] at g1
  refine ⟨_, rfl, q, 6, _, rfl, pu5, by omega, by decide, by decide, fun kd H6 k0 k1 pu6 sm6 => ?_⟩
  have D5 := (D4.mono sm5).mono sm6
  have S5 : SameX (But q) H H6 := (S4.trans sm5).trans sm6
  have l1 := cutD_len ws none (some g)
  have l2 := cutD_len ws (some g) none
  have l3 := cutD_len ws (some (g + 1)) none
  have fin : ∀ (v' : V) (ws' : List Int) (H' : Hp), ws'.length ≤ 500 → Same H6 H' → Dn H' (But q) v' (intsD ws') → Q v' H' := fun v' ws' H' a b c => k v' ws' H' a ((pu6.same b).mono (by omega)) (S5.trans b.x) c
  have tr := pu6.trk
  -- 0
  refine ⟨_, rfl, eqI ⟨_, rfl, ite2 (fun _ => ?_) (fun n0 => ?_)⟩⟩
  ·refine ⟨_, rfl, _, rfl, _, rfl, slInts tr D5 fun p1 Ha sa Da => ?_⟩
   have tra := tr.same sa
   refine ⟨_, rfl, (by show 1 ≤ sizeLine; decide), fun p2 hp2 => ?_⟩
   have Db : Dn (upd Ha p2 (.lst [.int nb])) (But q) (.ref p2) (intsD [nb]) := dn_ints (ns := [nb]) (tra.ne hp2) upd_same
   have sb : Same Ha (upd Ha p2 (.lst [.int nb])) := Same.new hp2
   generalize upd Ha p2 (.lst [.int nb]) = Hb at *
   refine addInts (tra.same sb) (Da.mono sb.x) Db (by simp; omega) fun p3 Hc sc Dc => ?_
   have sac := (sa.trans sb).trans sc
   refine ⟨_, rfl, _, rfl, addI ⟨_, rfl, slInts (tr.same sac) (D5.mono sac.x) fun p4 Hd sd Dd => ?_⟩⟩
   refine addInts (tr.same (sac.trans sd)) (Dc.mono sd.x) Dd (by simp; omega) fun p5 He se De => ?_
   exact fin _ _ He (by simp; omega) ((sac.trans sd).trans se) De
  -- 1
  refine ⟨_, rfl, eqI ⟨_, rfl, ite2 (fun _ => ?_) (fun n1 => ?_)⟩⟩
  ·refine ⟨_, rfl, _, rfl, _, rfl, slInts tr D5 fun p1 Ha sa Da => ?_⟩
   have tra := tr.same sa
   refine ⟨_, rfl, (by show 1 ≤ sizeLine; decide), fun p2 hp2 => ?_⟩
   have Db : Dn (upd Ha p2 (.lst [.int nb])) (But q) (.ref p2) (intsD [nb]) := dn_ints (ns := [nb]) (tra.ne hp2) upd_same
   have sb : Same Ha (upd Ha p2 (.lst [.int nb])) := Same.new hp2
   generalize upd Ha p2 (.lst [.int nb]) = Hb at *
   refine addInts (tra.same sb) (Da.mono sb.x) Db (by simp; omega) fun p3 Hc sc Dc => ?_
   have sac := (sa.trans sb).trans sc
   refine ⟨_, rfl, _, rfl, _, rfl, slInts (tr.same sac) (D5.mono sac.x) fun p4 Hd sd Dd => ?_⟩
   refine addInts (tr.same (sac.trans sd)) (Dc.mono sd.x) Dd (by simp; omega) fun p5 He se De => ?_
   exact fin _ _ He (by simp; omega) ((sac.trans sd).trans se) De
  -- 2
  refine ⟨_, rfl, eqI ⟨_, rfl, ite2 (fun _ => ?_) (fun n2 => ?_)⟩⟩
  ·refine ⟨_, rfl, But q, _, D5, fun p1 ys1 hp1 dn1 => ?_⟩
   rw [← List.map_reverse] at dn1
   exact fin _ ws.reverse _ (by simp; omega) (Same.new hp1) (Dn.newL hp1 (tr.ne hp1) dn1)
  exact ⟨_, rfl, fin _ ws _ (by omega) (Same.refl _) D5⟩
end My


set_option Elab.async false
set_option linter.all false
set_option maxRecDepth 100000
set_option maxHeartbeats 4000000
namespace L2
open PySem
noncomputable def flatD : PyData → Bool
 | .none => true
 | .bool _ => true
 | .int _ => true
 | .str _ => true
 | _ => false
theorem Dn.det {H H' : Hp} {P P' : Addr → Prop} {x y : V} {d : PyData} (f : flatD d = true) (h : Dn H P x d) (h' : Dn H' P' y d) : x = y := by
 cases d <;> first | (cases h; cases h'; rfl) | (cases f)
theorem Dns.det {H H' : Hp} {P P' : Addr → Prop} : ∀ {ds : List PyData} {xs ys : List V}, ds.all flatD = true → Dns H P xs ds → Dns H' P' ys ds → xs = ys
 | [], _, _, _, .nil, .nil => rfl
 | d :: ds, _, _, f, .cons h t, .cons h' t' => by
  rw [List.all_cons, Bool.and_eq_true] at f
  rw [Dn.det f.1 h h', Dns.det f.2 t t']
theorem addFlat {H : Hp} {p r : Addr} {xs ys : List V} {ds es : List PyData} {Q : VK} (hp : H p = some (.lst xs)) (hr : H r = some (.lst ys)) (dx : Dns H (fun _ => False) xs ds) (dy : Dns H (fun _ => False) ys es) (f1 : ds.all flatD = true) (f2 : es.all flatD = true)
  (hz : ds.length + es.length ≤ sizeLine) (k : ∀ l, H l = none → Q (.ref l) (upd H l (.lst (xs ++ ys)))) : rAddD (.ref p) (.ref r) H Q :=
 addL (P := fun _ => False) (P' := fun _ => False) (.lst (fun z => z) hp dx) (.lst (fun z => z) hr dy) hz fun l xs' ys' hl dx' dy' => by
  rw [← Dns.det f1 dx dx', ← Dns.det f2 dy dy']
  exact k l hl
end L2
namespace My
open PySem L2
noncomputable def spClass (mg : Str → Option Value) : Sp := fun vs H Q _ => ∃ a C, vs = [.ref a] ∧ H a = some (.ext (XAt a C)) ∧ mg "NoWay" = some (.ref C) ∧ ∀ H', Same H H' → Q (.str "way") H'
noncomputable def wordsV : List V := [.str "net", .str "place", .str "road", .str "way", .str "taut", .str "count", .str "name", .str "twice", .str "length", .str "full", .str "ring", .str "deed", .str "book", .str "text", .str "line"]
noncomputable def bitsV : List V := [.bl false, .bl false, .bl false, .bl true, .bl false, .bl false, .bl false, .bl false, .bl false, .bl false, .bl false, .bl false, .bl false, .bl false, .bl false]
noncomputable def hitsV (i : Nat) : List V := ((wordsV.zip bitsV).take i).filterMap fun p => if p.2 = .bl true then some p.1 else none
theorem hits_len (i : Nat) (h : i ≤ 15) : (hitsV i).length ≤ i := by
 unfold hitsV
 exact Nat.le_trans (List.length_filterMap_le ..) (by rw [List.length_take]; exact Nat.min_le_left _ _)
theorem hits_snoc {i : Nat} {x : V} {b : Bool} (hx : wordsV[i]? = some x) (hb : bitsV[i]? = some (.bl b)) : hitsV (i + 1) = if b = true then hitsV i ++ [x] else hitsV i := by
 unfold hitsV
 have hz : (wordsV.zip bitsV)[i]? = some (x, .bl b) := by rw [List.getElem?_zip_eq_some]; exact ⟨hx, hb⟩
 rw [filterMap_snoc _ _ i _ hz]
 cases b <;> simp
theorem bit_at {i : Nat} {y : V} (h : bitsV[i]? = some y) : ∃ b, y = .bl b := by
 have := List.mem_of_getElem? h
 unfold bitsV at this
 simp only [List.mem_cons, List.not_mem_nil, or_false] at this
 rcases this with rfl | rfl | rfl | rfl | rfl | rfl | rfl | rfl | rfl | rfl | rfl | rfl | rfl | rfl | rfl <;> exact ⟨_, rfl⟩
theorem ok__law_class {P : Program} {w : World} {K : PySem.W.Frag} {mg : Str → Option Value} {base : Heap} (T : Tx K mg) : Callee P w K mg base "_law_class" ["_law_caught"] 1 (spClass mg) := by
 refine callee_of T.d__law_class (fun _ _ _ _ _ _ us hl => match us, hl with | [_], _ => rfl) sc__law_class (fun vs H Q E h => ?_) (fun f cdv A outer s H vs Q E hr h => ?_)
 ·obtain ⟨a, C, rfl, _⟩ := h; rfl
 ·obtain ⟨a, C, rfl, ha, hmC, k⟩ := h
  refine ⟨_, (pssi (pssi_cons (ps_if (pt_cmpR op_isN (pv 0) pe_non (nomark _)) (pss_one (ps_ret pe_str)) pss_nil)
   (pssi_cons (ps_set (i := 1) sc__law_class.nd rfl (Or.inl rfl) (pe_lst (pa_cons (pe_isX rfl T.n_isinstance rfl (pv 0)) (pa_cons (pe_isX rfl T.n_isinstance rfl (pv 0)) (pa_cons (pe_isX rfl T.n_isinstance rfl (pv 0)) pa_nil)))))
   (pssi_cons (ps_set (i := 1) sc__law_class.nd rfl (Or.inl rfl) (pe_op op_addD (pv 1) (pe_lst (pa_cons (pe_isX rfl T.n_isinstance rfl (pv 0)) (pa_cons (pe_isX rfl T.n_isinstance rfl (pv 0)) (pa_cons (pe_isX rfl T.n_isinstance rfl (pv 0)) pa_nil))))))
   (pssi_cons (ps_set (i := 1) sc__law_class.nd rfl (Or.inl rfl) (pe_op op_addD (pv 1) (pe_lst (pa_cons (pe_isX rfl T.n_isinstance rfl (pv 0)) (pa_cons (pe_isX rfl T.n_isinstance rfl (pv 0)) (pa_cons (pe_isX rfl T.n_isinstance rfl (pv 0)) pa_nil))))))
   (pssi_cons (ps_set (i := 1) sc__law_class.nd rfl (Or.inl rfl) (pe_op op_addD (pv 1) (pe_lst (pa_cons (pe_isX rfl T.n_isinstance rfl (pv 0)) (pa_cons (pe_isX rfl T.n_isinstance rfl (pv 0)) (pa_cons (pe_isX rfl T.n_isinstance rfl (pv 0)) pa_nil))))))
   (pssi_cons (ps_set (i := 1) sc__law_class.nd rfl (Or.inl rfl) (pe_op op_addD (pv 1) (pe_lst (pa_cons (pe_isX rfl T.n_isinstance rfl (pv 0)) (pa_cons (pe_isX rfl T.n_isinstance rfl (pv 0)) (pa_cons (pe_isX rfl T.n_isinstance rfl (pv 0)) pa_nil))))))
   (pssi_consI (psi_strs (i := 2) (x := "_law_words") (vs := [.str "net", .str "place", .str "road", .str "way", .str "taut", .str "count", .str "name", .str "twice", .str "length", .str "full", .str "ring", .str "deed", .str "book"]) (by kernel_rfl) sc__law_class.nd rfl (Or.inl rfl) (Or.inl rfl))
   (pssi_cons (ps_setLC (i := 3) sc__law_class.nd rfl (Or.inl rfl) (N' := ["_law_word", "_law_truth"]) (js := [none, none]) rfl (pi_zip rfl T.n_zip (pa_cons (pe_op op_addD (pv 2) (pe_lst (pa_cons pe_str (pa_cons pe_str pa_nil)))) (pa_cons (pv 1) pa_nil))) (by kernel_rfl) (gk_tup (gks2 rfl rfl)) (by kernel_rfl) rfl (fun _ _ _ => ⟨(pg_tupD (n := 2) rfl (pgs_cons (pg_name (i := 0) (show List.Nodup [("_law_word" : Str), ("_law_truth" : Str)] by decide +kernel) rfl (Or.inl rfl)) (pgs_cons (pg_name (i := 1) (show List.Nodup [("_law_word" : Str), ("_law_truth" : Str)] by decide +kernel) rfl (Or.inl rfl)) pgs_nil))), (pf_one (pt_tru (pv 1) (fun _ => rfl))), (pv 0)⟩))
   (pssi_cons (ps_if (PW.pt (pw_or (pt_cmpR (op_neD hr.units) (pe_callB call_lenD rfl T.n_len PySem.boot_len (pa_cons (pv 3) pa_nil)) pe_int (nomark _)) (pw_or1 (pt_not (pt_tru (pe_isXT rfl T.n_isinstance rfl T.n_ValueError (show bootBuiltins "ValueError" = some (.type "ValueError") by decide +kernel) (pv 0)) (fun _ => rfl)))))) (pss_one (ps_ret pe_str)) pss_nil)
   (pssi_one (ps_ret (pe_ix ix_D (pv 3) pe_int (fun _ _ => rfl)))))))))))))), ?_⟩
  obtain ⟨C', hmC', xc, _, hval, hi⟩ := T.x_NoWay
  rw [hmC] at hmC'
  cases hmC'
  have i0 : Isi K mg C "NoNet" false := hi "NoNet" (by decide +kernel)
  have i1 : Isi K mg C "NoPlace" false := hi "NoPlace" (by decide +kernel)
  have i2 : Isi K mg C "NoRoad" false := hi "NoRoad" (by decide +kernel)
  have i3 : Isi K mg C "NoWay" true := hi "NoWay" (by decide +kernel)
  have i4 : Isi K mg C "NoTaut" false := hi "NoTaut" (by decide +kernel)
  have i5 : Isi K mg C "NoCount" false := hi "NoCount" (by decide +kernel)
  have i6 : Isi K mg C "NoName" false := hi "NoName" (by decide +kernel)
  have i7 : Isi K mg C "Twice" false := hi "Twice" (by decide +kernel)
  have i8 : Isi K mg C "NoLength" false := hi "NoLength" (by decide +kernel)
  have i9 : Isi K mg C "Full" false := hi "Full" (by decide +kernel)
  have i10 : Isi K mg C "Ring" false := hi "Ring" (by decide +kernel)
  have i11 : Isi K mg C "NoDeed" false := hi "NoDeed" (by decide +kernel)
  have i12 : Isi K mg C "NoBook" false := hi "NoBook" (by decide +kernel)
  have i13 : Isi K mg C "NoText" false := hi "NoText" (by decide +kernel)
  have i14 : Isi K mg C "NoLine" false := hi "NoLine" (by decide +kernel)
  refine ⟨_, rfl, rfl, _, rfl, ?_⟩
  refine ite_f (decide_eq_false fun z => by cases z) ?_
  refine ⟨_, rfl, a, C, false, rfl, ha, ⟨xc, i0⟩, _, rfl, a, C, false, rfl, ha, ⟨xc, i1⟩, _, rfl, a, C, false, rfl, ha, ⟨xc, i2⟩, (by show 3 ≤ sizeLine; decide), fun l0 hl0 => ?_⟩
  have g0 : (upd H l0 (.lst [.bl false, .bl false, .bl false])) l0 = some (.lst [.bl false, .bl false, .bl false]) := upd_same
  have s0 : Same H (upd H l0 (.lst [.bl false, .bl false, .bl false])) := Same.new hl0
  generalize upd H l0 (.lst [.bl false, .bl false, .bl false]) = H0 at *
  have a1 := s0 _ _ ha
  refine ⟨_, rfl, _, rfl, a, C, true, rfl, a1, ⟨xc, i3⟩, _, rfl, a, C, false, rfl, a1, ⟨xc, i4⟩, _, rfl, a, C, false, rfl, a1, ⟨xc, i5⟩, (by show 3 ≤ sizeLine; decide), fun m1 hm1 => ?_⟩
  have t1 : Same H0 (upd H0 m1 (.lst [.bl true, .bl false, .bl false])) := Same.new hm1
  have e1 : (upd H0 m1 (.lst [.bl true, .bl false, .bl false])) m1 = some (.lst [.bl true, .bl false, .bl false]) := upd_same
  generalize upd H0 m1 (.lst [.bl true, .bl false, .bl false]) = G1 at *
  refine addFlat (t1 _ _ g0) e1 (.cons (.bl _) (.cons (.bl _) (.cons (.bl _) .nil))) (.cons (.bl _) (.cons (.bl _) (.cons (.bl _) .nil))) (ds := [.bool false, .bool false, .bool false]) (es := [.bool true, .bool false, .bool false]) rfl rfl (by show 6 ≤ sizeLine; decide) fun l1 hl1 => ?_
  have g1 : (upd G1 l1 (.lst ([.bl false, .bl false, .bl false] ++ [.bl true, .bl false, .bl false]))) l1 = some (.lst [.bl false, .bl false, .bl false, .bl true, .bl false, .bl false]) := upd_same
  have s1 : Same H (upd G1 l1 (.lst ([.bl false, .bl false, .bl false] ++ [.bl true, .bl false, .bl false]))) := (s0.trans t1).trans (Same.new hl1)
  generalize upd G1 l1 (.lst ([.bl false, .bl false, .bl false] ++ [.bl true, .bl false, .bl false])) = H1 at *
  have a2 := s1 _ _ ha
  refine ⟨_, rfl, _, rfl, a, C, false, rfl, a2, ⟨xc, i6⟩, _, rfl, a, C, false, rfl, a2, ⟨xc, i7⟩, _, rfl, a, C, false, rfl, a2, ⟨xc, i8⟩, (by show 3 ≤ sizeLine; decide), fun m2 hm2 => ?_⟩
  have t2 : Same H1 (upd H1 m2 (.lst [.bl false, .bl false, .bl false])) := Same.new hm2
  have e2 : (upd H1 m2 (.lst [.bl false, .bl false, .bl false])) m2 = some (.lst [.bl false, .bl false, .bl false]) := upd_same
  generalize upd H1 m2 (.lst [.bl false, .bl false, .bl false]) = G2 at *
  refine addFlat (t2 _ _ g1) e2 (.cons (.bl _) (.cons (.bl _) (.cons (.bl _) (.cons (.bl _) (.cons (.bl _) (.cons (.bl _) .nil)))))) (.cons (.bl _) (.cons (.bl _) (.cons (.bl _) .nil))) (ds := [.bool false, .bool false, .bool false, .bool true, .bool false, .bool false]) (es := [.bool false, .bool false, .bool false]) rfl rfl (by show 9 ≤ sizeLine; decide) fun l2 hl2 => ?_
  have g2 : (upd G2 l2 (.lst ([.bl false, .bl false, .bl false, .bl true, .bl false, .bl false] ++ [.bl false, .bl false, .bl false]))) l2 = some (.lst [.bl false, .bl false, .bl false, .bl true, .bl false, .bl false, .bl false, .bl false, .bl false]) := upd_same
  have s2 : Same H (upd G2 l2 (.lst ([.bl false, .bl false, .bl false, .bl true, .bl false, .bl false] ++ [.bl false, .bl false, .bl false]))) := (s1.trans t2).trans (Same.new hl2)
  generalize upd G2 l2 (.lst ([.bl false, .bl false, .bl false, .bl true, .bl false, .bl false] ++ [.bl false, .bl false, .bl false])) = H2 at *
  have a3 := s2 _ _ ha
  refine ⟨_, rfl, _, rfl, a, C, false, rfl, a3, ⟨xc, i9⟩, _, rfl, a, C, false, rfl, a3, ⟨xc, i10⟩, _, rfl, a, C, false, rfl, a3, ⟨xc, i11⟩, (by show 3 ≤ sizeLine; decide), fun m3 hm3 => ?_⟩
  have t3 : Same H2 (upd H2 m3 (.lst [.bl false, .bl false, .bl false])) := Same.new hm3
  have e3 : (upd H2 m3 (.lst [.bl false, .bl false, .bl false])) m3 = some (.lst [.bl false, .bl false, .bl false]) := upd_same
  generalize upd H2 m3 (.lst [.bl false, .bl false, .bl false]) = G3 at *
  refine addFlat (t3 _ _ g2) e3 (.cons (.bl _) (.cons (.bl _) (.cons (.bl _) (.cons (.bl _) (.cons (.bl _) (.cons (.bl _) (.cons (.bl _) (.cons (.bl _) (.cons (.bl _) .nil))))))))) (.cons (.bl _) (.cons (.bl _) (.cons (.bl _) .nil))) (ds := [.bool false, .bool false, .bool false, .bool true, .bool false, .bool false, .bool false, .bool false, .bool false]) (es := [.bool false, .bool false, .bool false]) rfl rfl (by show 12 ≤ sizeLine; decide) fun l3 hl3 => ?_
  have g3 : (upd G3 l3 (.lst ([.bl false, .bl false, .bl false, .bl true, .bl false, .bl false, .bl false, .bl false, .bl false] ++ [.bl false, .bl false, .bl false]))) l3 = some (.lst [.bl false, .bl false, .bl false, .bl true, .bl false, .bl false, .bl false, .bl false, .bl false, .bl false, .bl false, .bl false]) := upd_same
  have s3 : Same H (upd G3 l3 (.lst ([.bl false, .bl false, .bl false, .bl true, .bl false, .bl false, .bl false, .bl false, .bl false] ++ [.bl false, .bl false, .bl false]))) := (s2.trans t3).trans (Same.new hl3)
  generalize upd G3 l3 (.lst ([.bl false, .bl false, .bl false, .bl true, .bl false, .bl false, .bl false, .bl false, .bl false] ++ [.bl false, .bl false, .bl false])) = H3 at *
  have a4 := s3 _ _ ha
  refine ⟨_, rfl, _, rfl, a, C, false, rfl, a4, ⟨xc, i12⟩, _, rfl, a, C, false, rfl, a4, ⟨xc, i13⟩, _, rfl, a, C, false, rfl, a4, ⟨xc, i14⟩, (by show 3 ≤ sizeLine; decide), fun m4 hm4 => ?_⟩
  have t4 : Same H3 (upd H3 m4 (.lst [.bl false, .bl false, .bl false])) := Same.new hm4
  have e4 : (upd H3 m4 (.lst [.bl false, .bl false, .bl false])) m4 = some (.lst [.bl false, .bl false, .bl false]) := upd_same
  generalize upd H3 m4 (.lst [.bl false, .bl false, .bl false]) = G4 at *
  refine addFlat (t4 _ _ g3) e4 (.cons (.bl _) (.cons (.bl _) (.cons (.bl _) (.cons (.bl _) (.cons (.bl _) (.cons (.bl _) (.cons (.bl _) (.cons (.bl _) (.cons (.bl _) (.cons (.bl _) (.cons (.bl _) (.cons (.bl _) .nil)))))))))))) (.cons (.bl _) (.cons (.bl _) (.cons (.bl _) .nil))) (ds := [.bool false, .bool false, .bool false, .bool true, .bool false, .bool false, .bool false, .bool false, .bool false, .bool false, .bool false, .bool false]) (es := [.bool false, .bool false, .bool false]) rfl rfl (by show 15 ≤ sizeLine; decide) fun l4 hl4 => ?_
  have g4 : (upd G4 l4 (.lst ([.bl false, .bl false, .bl false, .bl true, .bl false, .bl false, .bl false, .bl false, .bl false, .bl false, .bl false, .bl false] ++ [.bl false, .bl false, .bl false]))) l4 = some (.lst [.bl false, .bl false, .bl false, .bl true, .bl false, .bl false, .bl false, .bl false, .bl false, .bl false, .bl false, .bl false, .bl false, .bl false, .bl false]) := upd_same
  have s4 : Same H (upd G4 l4 (.lst ([.bl false, .bl false, .bl false, .bl true, .bl false, .bl false, .bl false, .bl false, .bl false, .bl false, .bl false, .bl false] ++ [.bl false, .bl false, .bl false]))) := (s3.trans t4).trans (Same.new hl4)
  generalize upd G4 l4 (.lst ([.bl false, .bl false, .bl false, .bl true, .bl false, .bl false, .bl false, .bl false, .bl false, .bl false, .bl false, .bl false] ++ [.bl false, .bl false, .bl false])) = H4 at *
  refine ⟨(by show 13 ≤ sizeLine; decide), fun lw hlw => ?_⟩
  have gw : (upd H4 lw (.lst [.str "net", .str "place", .str "road", .str "way", .str "taut", .str "count", .str "name", .str "twice", .str "length", .str "full", .str "ring", .str "deed", .str "book"])) lw = some (.lst [.str "net", .str "place", .str "road", .str "way", .str "taut", .str "count", .str "name", .str "twice", .str "length", .str "full", .str "ring", .str "deed", .str "book"]) := upd_same
  have g5 := (Same.new (o := .lst [.str "net", .str "place", .str "road", .str "way", .str "taut", .str "count", .str "name", .str "twice", .str "length", .str "full", .str "ring", .str "deed", .str "book"]) hlw) _ _ g4
  have s5 : Same H (upd H4 lw (.lst [.str "net", .str "place", .str "road", .str "way", .str "taut", .str "count", .str "name", .str "twice", .str "length", .str "full", .str "ring", .str "deed", .str "book"])) := s4.trans (Same.new hlw)
  generalize upd H4 lw (.lst [.str "net", .str "place", .str "road", .str "way", .str "taut", .str "count", .str "name", .str "twice", .str "length", .str "full", .str "ring", .str "deed", .str "book"]) = H5 at *
  refine ⟨_, rfl, (by show 2 ≤ sizeLine; decide), fun l6 hl6 => ?_⟩
  have e6 : (upd H5 l6 (.lst [.str "text", .str "line"])) l6 = some (.lst [.str "text", .str "line"]) := upd_same
  have t6 : Same H5 (upd H5 l6 (.lst [.str "text", .str "line"])) := Same.new hl6
  generalize upd H5 l6 (.lst [.str "text", .str "line"]) = H6 at *
  refine addFlat (t6 _ _ gw) e6 (.cons (.str _) (.cons (.str _) (.cons (.str _) (.cons (.str _) (.cons (.str _) (.cons (.str _) (.cons (.str _) (.cons (.str _) (.cons (.str _) (.cons (.str _) (.cons (.str _) (.cons (.str _) (.cons (.str _) .nil))))))))))))) (.cons (.str _) (.cons (.str _) .nil)) (ds := [.str "net", .str "place", .str "road", .str "way", .str "taut", .str "count", .str "name", .str "twice", .str "length", .str "full", .str "ring", .str "deed", .str "book"]) (es := [.str "text", .str "line"]) (by decide) (by decide) (by show 15 ≤ sizeLine; decide) fun l7 hl7 => ?_
  have e7 : (upd H6 l7 (.lst ([.str "net", .str "place", .str "road", .str "way", .str "taut", .str "count", .str "name", .str "twice", .str "length", .str "full", .str "ring", .str "deed", .str "book"] ++ [.str "text", .str "line"]))) l7 = some (.lst wordsV) := upd_same
  have t7 : Same H6 (upd H6 l7 (.lst ([.str "net", .str "place", .str "road", .str "way", .str "taut", .str "count", .str "name", .str "twice", .str "length", .str "full", .str "ring", .str "deed", .str "book"] ++ [.str "text", .str "line"]))) := Same.new hl7
  generalize upd H6 l7 (.lst ([.str "net", .str "place", .str "road", .str "way", .str "taut", .str "count", .str "name", .str "twice", .str "length", .str "full", .str "ring", .str "deed", .str "book"] ++ [.str "text", .str "line"])) = H7 at *
  have g7 : H7 l4 = some (.lst bitsV) := t7 _ _ (t6 _ _ g5)
  have s7 : Same H H7 := (s5.trans t6).trans t7
  refine ⟨_, rfl, l7, l4, _, _, rfl, e7, g7, lc_zip (xs := wordsV) (ys := bitsV) (by show 15 ≤ sizeLine; decide) rfl (fun i acc H' => Same H7 H' ∧ acc = hitsV i) ⟨Same.refl _, rfl⟩ (fun i acc H' hi ⟨sm, ea⟩ => ⟨sm _ _ e7, sm _ _ g7, by rw [ea]; exact hits_len i hi⟩) ?_ ?_⟩
  ·rintro i x y t acc H' N hx hy ht ⟨sm, ea⟩ go
   obtain ⟨bb, rfl⟩ := bit_at hy
   have s8 : Same H' (upd H' t (.tup [x, .bl bb])) := Same.new ht
   refine ⟨t, _, rfl, upd_same, rfl, _, _, rfl, _, _, rfl, rfl, ?_⟩
   refine ⟨_, rfl, _, rfl, ?_⟩
   have hs := hits_snoc hx hy
   cases bb with
   | true => exact ite_t rfl ⟨_, rfl, go _ _ ⟨sm.trans s8, by rw [hs, ea]; rfl⟩⟩
   | false => exact ite_f rfl (go _ _ ⟨sm.trans s8, by rw [hs, ea]; rfl⟩)
  ·rintro acc H8 l8 ⟨sm, ea⟩ hl8
   have e15 : hitsV wordsV.length = [.str "way"] := by decide +kernel
   rw [e15] at ea
   subst ea
   have g8 : (upd H8 l8 (.lst [.str "way"])) l8 = some (.lst [.str "way"]) := upd_same
   have s8 : Same H (upd H8 l8 (.lst [.str "way"])) := (s7.trans sm).trans (Same.new hl8)
   generalize upd H8 l8 (.lst [.str "way"]) = H9 at *
   refine ⟨_, rfl, lenR g8 (eqI ⟨_, rfl, ?_⟩)⟩
   refine ite_f rfl ?_
   refine ⟨_, rfl, a, C, true, rfl, s8 _ _ ha, ⟨xc, hval⟩, _, rfl, ?_⟩
   refine ite_f rfl ?_
   exact ⟨_, rfl, ixR g8 (atI_zero _ _) (k H9 s8)⟩
noncomputable def spTold (K : PySem.W.Frag) : Sp := fun vs H Q _ => ∃ (v w : V) (P P' : Addr → Prop) (n a b : Int) (rs : List Road) (ws : List Int), vs = [v, .int a, .int b, w] ∧ Dn H P v (netD n rs) ∧ NetOk n rs ∧ 0 ≤ a ∧ a < n ∧ 0 ≤ b ∧ b < n ∧ Dn H P' w (intsD ws) ∧ ws.length ≤ 1000 ∧
 (leadsF rs a b ws = true → ∀ H', Same H H' → Q (.int (wayLen rs ws)) H') ∧ (leadsF rs a b ws = false → ∀ H', Same H H' → Q (.str "way") H')
theorem ok__law_told {P : Program} {w : World} {K : PySem.W.Frag} {mg : Str → Option Value} {base : Heap} (T : Tx K mg) : Callee P w K mg base "_law_told" ["_law_net_here", "_law_one", "_law_other", "_law_way"] 6 (spTold K) := by
 have cX_length_of := okX_length_of (P := P) (w := w) (base := base) T
 have c__law_class := ok__law_class (P := P) (w := w) (base := base) T
 refine callee_of T.d__law_told (fun _ _ _ _ _ _ us hl => match us, hl with | [_, _, _, _], _ => rfl) sc__law_told (fun vs H Q E h => ?_) (fun f cdv A outer s H vs Q E hr h => ?_)
 ·obtain ⟨v, w', P', P'', n, a, b, rs, ws, rfl, _⟩ := h; rfl
 ·obtain ⟨v, w', P', P'', n, a, b, rs, ws, rfl, hd, ok, a0, a1, b0, b1, hw, hz, ky, kn⟩ := h
  refine ⟨_, (pss_cons (ps_set (i := 4) sc__law_told.nd rfl (Or.inl rfl) pe_non)
   (pss_cons (ps_set (i := 5) sc__law_told.nd rfl (Or.inl rfl) pe_non)
   (pss_cons (ps_try (j := 6) rfl rfl sc__law_told.nd rfl rfl (Or.inl rfl) rfl (pb_set (i := 5) sc__law_told.nd rfl (Or.inl rfl) cX_length_of hr (by decide) rfl (fun _ _ z => z) (pa_cons (pv 0) (pa_cons (pv 1) (pa_cons (pv 2) (pa_cons (pv 3) pa_nil))))) (fun _ => (pss_one (ps_set (i := 4) sc__law_told.nd rfl (Or.inl rfl) (pv 6)))))
   (pss_cons (ps_if (pt_cmpR op_notN (pv 4) pe_non (nomark _)) (pss_one (ps_ret (pe_callC c__law_class hr (by decide) rfl (pa_cons (pv 4) pa_nil)))) pss_nil)
   (pss_one (ps_ret (pv 5))))))), ?_⟩
  refine ⟨_, rfl, _, rfl, _, rfl, _, rfl, v, w', P', P'', n, a, b, rs, ws, rfl, hd, ok, a0, a1, b0, b1, hw, hz, fun e H' sm => ?_, fun e H' C sm hm xc => ?_⟩
  ·refine ⟨_, rfl, rfl, _, rfl, ?_⟩
   refine ite_f rfl ?_
   exact ⟨_, rfl, ky e H' sm⟩
  ·obtain ⟨C', hm', xc', ⟨R, hR, hex⟩, hval, hi⟩ := T.x_NoWay
   rw [hm] at hm'
   cases hm'
   refine ⟨C, R, rfl, hR, hex, fun ea hea => ?_⟩
   refine ⟨_, rfl, ?_⟩
   refine ⟨_, rfl, rfl, _, rfl, ?_⟩
   refine ite_t rfl ?_
   exact ⟨_, rfl, ea, C, rfl, upd_same, hm, fun H2 s2 => kn e H2 ((sm.trans (Same.new hea)).trans s2)⟩
end My


set_option Elab.async false
set_option linter.all false
set_option maxRecDepth 100000
set_option maxHeartbeats 4000000
namespace My
open PySem L2
noncomputable def spRight : Sp := fun vs H Q _ => ∃ (v w : V) (P P' : Addr → Prop) (n a b : Int) (rs : List Road) (ws : List Int), vs = [v, .int a, .int b, w] ∧ Dn H P v (netD n rs) ∧ NetOk n rs ∧ 0 ≤ a ∧ a < n ∧ 0 ≤ b ∧ b < n ∧ Dn H P' w (intsD ws) ∧ ws.length ≤ 1000 ∧
 ∀ H', Same H H' → Q (.bl true) H'
theorem ok__law_right {P : Program} {w : World} {K : PySem.W.Frag} {mg : Str → Option Value} {base : Heap} (T : Tx K mg) : Callee P w K mg base "_law_right" ["_law_net_here", "_law_one", "_law_other", "_law_way"] 7 spRight := by
 have c__law_is_way := ok__law_is_way (P := P) (w := w) (base := base) T
 have c_is_way := ok_is_way (P := P) (w := w) (base := base) T
 have c__law_told := ok__law_told (P := P) (w := w) (base := base) T
 have c__law_long := ok__law_long (P := P) (w := w) (base := base) T
 have c__law_whole := ok__law_whole (P := P) (w := w) (base := base) T
 refine callee_of T.d__law_right (fun _ _ _ _ _ _ us hl => match us, hl with | [_, _, _, _], _ => rfl) sc__law_right (fun vs H Q E h => ?_) (fun f cdv A outer s H vs Q E hr h => ?_)
 ·obtain ⟨v, w', P', P'', n, a, b, rs, ws, rfl, _⟩ := h; rfl
 ·obtain ⟨v, w', P', P'', n, a, b, rs, ws, rfl, hd, ok, a0, a1, b0, b1, hw, hz, k⟩ := h
  replace hd := hd.plain
  replace hw := hw.plain
  refine ⟨_, (pss_cons (ps_set (i := 4) sc__law_right.nd rfl (Or.inl rfl) (pe_lst (pa_cons (pe_tup (pa_cons (pe_ix ix_D (pv 0) pe_int (fun _ _ => rfl)) (pa_cons (pe_callTy call_listD rfl T.n_list PyProof.Rows.boot_list (pa_cons (pe_ix ix_D (pv 0) pe_int (fun _ _ => rfl)) pa_nil)) pa_nil))) (pa_cons (pe_callTy call_listD rfl T.n_list PyProof.Rows.boot_list (pa_cons (pv 3) pa_nil)) pa_nil))))
   (pss_cons (ps_set (i := 5) sc__law_right.nd rfl (Or.inl rfl) (pe_callC c__law_is_way hr (by decide) rfl (pa_cons (pv 0) (pa_cons (pv 1) (pa_cons (pv 2) (pa_cons (pv 3) pa_nil))))))
   (pss_cons (ps_set (i := 6) sc__law_right.nd rfl (Or.inl rfl) pe_str)
   (pss_cons (ps_if (pt_tru (pv 5) (fun _ => rfl)) (pss_one (ps_set (i := 6) sc__law_right.nd rfl (Or.inl rfl) (pe_callC c__law_long hr (by decide) rfl (pa_cons (pv 0) (pa_cons (pv 3) pa_nil))))) pss_nil)
   (pss_cons (ps_set (i := 7) sc__law_right.nd rfl (Or.inl rfl) (pe_callC c_is_way hr (by decide) rfl (pa_cons (pe_ix ix_D (pv 4) pe_int (fun _ _ => rfl)) (pa_cons (pv 1) (pa_cons (pv 2) (pa_cons (pe_ix ix_D (pv 4) pe_int (fun _ _ => rfl)) pa_nil))))))
   (pss_cons (ps_set (i := 8) sc__law_right.nd rfl (Or.inl rfl) (pe_callC c__law_told hr (by decide) rfl (pa_cons (pe_ix ix_D (pv 4) pe_int (fun _ _ => rfl)) (pa_cons (pv 1) (pa_cons (pv 2) (pa_cons (pe_ix ix_D (pv 4) pe_int (fun _ _ => rfl)) pa_nil))))))
   (pss_cons (ps_if (PW.pt (pw_or (pt_not (pt_tru (pe_callB call_isi rfl T.n_isinstance PyProof.Rows.boot_isinstance (pa_cons (pv 7) (pa_cons (pe_bltn (v := .ty "bool") rfl T.n_bool PyProof.Rows.boot_bool rfl) pa_nil))) (fun _ => rfl))) (pw_or (pt_cmpR (op_neD hr.units) (pv 7) (pv 5) (nomark _)) (pw_or (pt_cmpR (op_neD hr.units) (pv 8) (pv 6) (nomark _)) (pw_or1 (pt_cmpR (op_neD hr.units) (pv 4) (pe_lst (pa_cons (pv 0) (pa_cons (pv 3) pa_nil))) (nomark _))))))) (pss_one (ps_ret pe_bl)) pss_nil)
   (pss_one (ps_ret (pe_or (pe_not (pv 5)) (pe_one (pe_callC c__law_whole hr (by decide) rfl (pa_cons (pv 8) pa_nil))))))))))))), ?_⟩
  refine ⟨_, rfl, ixT hd rfl fun v0 hv0 => ?_⟩
  cases hv0
  refine ⟨_, rfl, ixT hd rfl fun v1 hv1 => ⟨v1, NoP, _, rfl, .inl hv1, fun l ys hl dns => ?_⟩⟩
  refine ⟨(by show 2 ≤ sizeLine; decide), fun t ht => ?_⟩
  have e2 : Dn (upd H l (.lst ys)) NoP (.ref l) (roadsD rs) := Dn.newL hl (fun z => z) dns
  have s2 : Same H (upd (upd H l (.lst ys)) t (.tup [.int n, .ref l])) := (Same.new hl).trans (Same.new ht)
  have e3 : Dn (upd (upd H l (.lst ys)) t (.tup [.int n, .ref l])) NoP (.ref t) (netD n rs) := Dn.newT ht (fun z => z) (.cons (.int n) (.cons e2 .nil))
  refine ⟨_, rfl, w', NoP, _, rfl, .inl (hw.mono s2.x), fun m zs hm dms => ?_⟩
  refine ⟨(by show 2 ≤ sizeLine; decide), fun hh hhh => ?_⟩
  generalize upd (upd H l (.lst ys)) t (.tup [.int n, .ref l]) = H2 at *
  have e4 : Dn (upd H2 m (.lst zs)) NoP (.ref m) (intsD ws) := Dn.newL hm (fun z => z) dms
  have e3' := e3.mono (SameX.new (P := NoP) (o := .lst zs) hm)
  have s3 : Same H (upd H2 m (.lst zs)) := s2.trans (Same.new hm)
  generalize upd H2 m (.lst zs) = H3 at *
  have e5 : Dn (upd H3 hh (.lst [.ref t, .ref m])) NoP (.ref hh) (.list [netD n rs, intsD ws]) := Dn.newL hhh (fun z => z) (.cons e3' (.cons e4 .nil))
  have s4 : Same H (upd H3 hh (.lst [.ref t, .ref m])) := s3.trans (Same.new hhh)
  generalize upd H3 hh (.lst [.ref t, .ref m]) = H4 at *
  -- due
  refine ⟨_, rfl, _, rfl, _, rfl, _, rfl, v, w', a, b, n, NoP, NoP, rs, ws, rfl, hd.mono s4.x, hw.mono s4.x, fun H5 sm5 => ?_⟩
  have s5 := s4.trans sm5
  have L2' : Lay 4 (.list [netD n rs, intsD ws]) := Lay.list fun d hd => by
   rcases List.mem_cons.mp hd with rfl | hd
   ·exact Lay.net n rs
   ·rw [List.mem_singleton.mp hd]; exact (Lay.ints ws).mono (by decide)
  cases e : leadsF rs a b ws with
  | true =>
   refine ⟨_, rfl, _, rfl, ?_⟩
   refine ite_t rfl ?_
   refine ⟨_, rfl, _, rfl, v, w', n, NoP, NoP, rs, ws, rfl, hd.mono s5.x, hw.mono s5.x, hz, leads_in e, fun H6 sm6 => ?_⟩
   have s6 := s5.trans sm6
   have e6 := e5.mono (sm5.trans sm6).x
   refine ⟨_, rfl, ixL e6 rfl fun c1 hc1 => ⟨_, rfl, _, rfl, _, rfl, ixL e6 rfl fun c2 hc2 => ?_⟩⟩
   refine ⟨c1, c2, NoP, NoP, n, a, b, rs, ws, rfl, hc1, ok, a0, a1, b0, b1, hc2, fun H7 sm7 => ?_⟩
   have e7 := e6.mono sm7.x
   rw [e]
   refine ⟨_, rfl, ixL e7 rfl fun c3 hc3 => ⟨_, rfl, _, rfl, _, rfl, ixL e7 rfl fun c4 hc4 => ?_⟩⟩
   refine ⟨c3, c4, NoP, NoP, n, a, b, rs, ws, rfl, hc3, ok, a0, a1, b0, b1, hc4, hz, fun _ H8 sm8 => ?_, fun z => by rw [e] at z; cases z⟩
   have s8 := (s6.trans sm7).trans sm8
   have e8 := e7.mono sm8.x
   refine ⟨_, rfl, _, "bool", _, true, rfl, .bl _, rfl, _, rfl, ?_⟩
   refine ite_f rfl ?_
   refine ⟨_, rfl, _, rfl, eqD (P := NoP) (P' := NoP) (.bl _) (.bl _) rfl rfl ⟨_, rfl, ?_⟩⟩
   refine ite_f (by simp [PyData.eqv]) ?_
   refine ⟨_, rfl, _, rfl, eqI ⟨_, rfl, ?_⟩⟩
   refine ite_f (by simp) ?_
   refine ⟨_, rfl, _, rfl, _, rfl, (by show 2 ≤ sizeLine; decide), fun g hg => ?_⟩
   have e9 : Dn (upd H8 g (.lst [v, w'])) NoP (.ref g) (.list [netD n rs, intsD ws]) := Dn.newL hg (fun z => z) (.cons (hd.mono s8.x) (.cons (hw.mono s8.x) .nil))
   refine eqD (e8.mono (SameX.new hg)) e9 L2'.shaped L2'.shaped ⟨_, rfl, ?_⟩
   refine ite_f (by rw [L2'.refl]; rfl) ?_
   refine ⟨_, rfl, _, rfl, _, rfl, ?_⟩
   refine ite_f rfl ?_
   exact ⟨_, rfl, _, rfl, k _ (s8.trans (Same.new hg))⟩
  | false =>
   refine ⟨_, rfl, _, rfl, ?_⟩
   refine ite_f rfl ?_
   have e6 := e5.mono sm5.x
   refine ⟨_, rfl, ixL e6 rfl fun c1 hc1 => ⟨_, rfl, _, rfl, _, rfl, ixL e6 rfl fun c2 hc2 => ?_⟩⟩
   refine ⟨c1, c2, NoP, NoP, n, a, b, rs, ws, rfl, hc1, ok, a0, a1, b0, b1, hc2, fun H7 sm7 => ?_⟩
   have e7 := e6.mono sm7.x
   rw [e]
   refine ⟨_, rfl, ixL e7 rfl fun c3 hc3 => ⟨_, rfl, _, rfl, _, rfl, ixL e7 rfl fun c4 hc4 => ?_⟩⟩
   refine ⟨c3, c4, NoP, NoP, n, a, b, rs, ws, rfl, hc3, ok, a0, a1, b0, b1, hc4, hz, (fun z => by rw [e] at z; cases z), fun _ H8 sm8 => ?_⟩
   have s8 := (s5.trans sm7).trans sm8
   have e8 := e7.mono sm8.x
   refine ⟨_, rfl, _, "bool", _, true, rfl, .bl _, rfl, _, rfl, ?_⟩
   refine ite_f rfl ?_
   refine ⟨_, rfl, _, rfl, eqD (P := NoP) (P' := NoP) (.bl _) (.bl _) rfl rfl ⟨_, rfl, ?_⟩⟩
   refine ite_f (by simp [PyData.eqv]) ?_
   refine ⟨_, rfl, _, rfl, eqD (P := NoP) (P' := NoP) (.str _) (.str _) (by decide +kernel) (by decide +kernel) ⟨_, rfl, ?_⟩⟩
   refine ite_f (by simp [PyData.eqv]) ?_
   refine ⟨_, rfl, _, rfl, _, rfl, (by show 2 ≤ sizeLine; decide), fun g hg => ?_⟩
   have e9 : Dn (upd H8 g (.lst [v, w'])) NoP (.ref g) (.list [netD n rs, intsD ws]) := Dn.newL hg (fun z => z) (.cons (hd.mono s8.x) (.cons (hw.mono s8.x) .nil))
   refine eqD (e8.mono (SameX.new hg)) e9 L2'.shaped L2'.shaped ⟨_, rfl, ?_⟩
   refine ite_f (by rw [L2'.refl]; rfl) ?_
   refine ⟨_, rfl, _, rfl, _, rfl, ?_⟩
   exact ite_t rfl (k _ (s8.trans (Same.new hg)))
end My


set_option Elab.async false
set_option linter.all false
set_option maxRecDepth 100000
set_option maxHeartbeats 4000000
namespace My
open PySem L2
end My
namespace My
open PySem L2
noncomputable def spLaw (K : PySem.W.Frag) : Sp := fun vs H Q _ => ∃ (a : Addr) (ns : List Int), vs = [.ref a] ∧ SqL K H a (ns.map V.int) ∧ ns.length ≤ 63 ∧ ∀ H', Q (.bl true) H'
theorem law_sp {K : PySem.W.Frag} {H : Hp} {a : Addr} {ns : List Int} (hl : ns.length ≤ 63) (_ : Only H) (hS : SqL K H a (ns.map V.int)) : spLaw K [.ref a] H (fun v _ => v = .bl true) fun _ _ _ => False := ⟨a, ns, rfl, hS, hl, fun _ => rfl⟩
theorem same_of {q : Addr} {H H1 H2 : Hp} (h0 : H q = none) (s1 : Same H H1) (s2 : SameX (But q) H1 H2) : Same H H2 := fun b o e => s2 b o (s1 b o e) fun z => by
 have z' : b = q := z
 rw [z', h0] at e
 cases e
end My


set_option Elab.async false
set_option linter.all false
set_option maxRecDepth 100000
set_option maxHeartbeats 4000000
namespace My
open PySem L2
/-- the numbers of roads among them -/
noncomputable def thereF (rs : List Road) : Int → Option PyData := fun j => if 0 ≤ j ∧ j < rs.length then some (.int j) else none
theorem ok_law {P : Program} {w : World} {K : PySem.W.Frag} {mg : Str → Option Value} {base : Heap} (T : Tx K mg) : Callee P w K mg base "law" ["_law_script"] 8 (spLaw K) := by
 have c__law_purse := ok__law_purse (P := P) (w := w) (base := base) T
 have c__law_any := ok__law_any (P := P) (w := w) (base := base) T
 have c__law_bent := ok__law_bent (P := P) (w := w) (base := base) T
 have c__law_draw := ok__law_draw (P := P) (w := w) (base := base) T
 have c__law_walked := ok__law_walked (P := P) (w := w) (base := base) T
 have c__law_right := ok__law_right (P := P) (w := w) (base := base) T
 refine callee_of T.d_law (fun _ _ _ _ _ _ us hl => match us, hl with | [_], _ => rfl) sc_law (fun vs H Q E h => ?_) (fun f cdv A outer s H vs Q E hr h => ?_)
 ·obtain ⟨a, ns, rfl, _⟩ := h; rfl
 ·obtain ⟨a, ns, rfl, hS, hlen, k⟩ := h
  refine ⟨_, (pss_cons (ps_for PassesOwn.never rfl (pi_range1 rfl T.n_range (pa_cons pe_int pa_nil)) (pg_name (i := 1) sc_law.nd rfl (Or.inl rfl))
   (pss_cons (ps_set (i := 2) sc_law.nd rfl (Or.inl rfl) (pe_callC c__law_purse hr (by decide) rfl (pa_cons (pv 0) (pa_cons (pv 1) pa_nil))))
   (pss_cons (ps_set (i := 3) sc_law.nd rfl (Or.inr rfl) (pe_callC c__law_any hr (by decide) rfl (pa_cons (pv 2) (pa_cons pe_int (pa_cons pe_int pa_nil)))))
   (pss_one (ps_for PassesOwn.never rfl (pi_range1 rfl T.n_range (pa_cons (pe_op op_mulD pe_int (pe_callTy call_int1 rfl T.n_int PyProof.Rows.boot_int (pa_cons (pe_cmpR op_gt (pe_ix ix_D (pv 3) pe_int (fun _ _ => rfl)) pe_int (nomark _)) pa_nil))) pa_nil)) (pg_name (i := 4) sc_law.nd rfl (Or.inl rfl))
   (pss_cons (ps_set (i := 5) sc_law.nd rfl (Or.inl rfl) (pe_callC c__law_bent hr (by decide) rfl (pa_cons (pv 2) (pa_cons (pv 3) (pa_cons (pe_callC c__law_walked hr (by decide) rfl (pa_cons (pv 2) (pa_cons (pv 3) pa_nil))) pa_nil)))))
   (pss_cons (ps_set (i := 6) sc_law.nd rfl (Or.inl rfl) (pe_callC c__law_draw hr (by decide) rfl (pa_cons (pv 2) (pa_cons (pe_ix ix_D (pv 3) pe_int (fun _ _ => rfl)) pa_nil))))
   (pss_cons (ps_set (i := 7) sc_law.nd rfl (Or.inl rfl) (pe_callC c__law_draw hr (by decide) rfl (pa_cons (pv 2) (pa_cons (pe_ix ix_D (pv 3) pe_int (fun _ _ => rfl)) pa_nil))))
   (pss_cons (ps_setLC (i := 8) sc_law.nd rfl (Or.inl rfl) (N' := ["_law_number_here", "_law_net_here"]) (js := [none, some 3]) rfl (pi_L (pv 5)) (by kernel_rfl) (gk_name rfl) (by kernel_rfl) rfl (fun _ _ _ => ⟨(pg_name (i := 0) (show List.Nodup [("_law_number_here" : Str), ("_law_net_here" : Str)] by decide +kernel) rfl (Or.inl rfl)), (pf_one (pt_chain op_le op_lt pe_int (pv 0) (pe_callB call_lenD rfl T.n_len PySem.boot_len (pa_cons (pe_ix ix_D (pv 1) pe_int (fun _ _ => rfl)) pa_nil)))), (pv 0)⟩))
   (pss_cons (ps_if (PW.pt (pw_and (pt_cmpR (op_neD hr.units) (pv 8) (pe_lst pa_nil) (nomark _)) (pw_and1 (pt_cmpR op_gt (pe_callC c__law_draw hr (by decide) rfl (pa_cons (pv 2) (pa_cons pe_int pa_nil))) pe_int (nomark _))))) (pss_cons (ps_set (i := 6) sc_law.nd rfl (Or.inl rfl) (pe_ix ix_D (pe_ix ix_D (pe_ix ix_D (pv 3) pe_int (fun _ _ => rfl)) (pe_ix ix_D (pv 8) pe_int (fun _ _ => rfl)) (fun _ _ => rfl)) pe_int (fun _ _ => rfl)))
   (pss_one (ps_set (i := 7) sc_law.nd rfl (Or.inl rfl) (pe_ix ix_D (pe_ix ix_D (pe_ix ix_D (pv 3) pe_int (fun _ _ => rfl)) (pe_ix ix_D (pv 8) pe_negc (fun _ _ => rfl)) (fun _ _ => rfl)) pe_int (fun _ _ => rfl))))) pss_nil)
   (pss_one (ps_if (pt_not (pt_tru (pe_callC c__law_right hr (by decide) rfl (pa_cons (pv 3) (pa_cons (pv 6) (pa_cons (pv 7) (pa_cons (pv 5) pa_nil))))) (fun _ => rfl))) (pss_one (ps_ret pe_bl)) pss_nil))))))))))))
   (pss_one (ps_ret pe_bl))), ?_⟩
  refine ⟨3, rfl, by decide, by decide, for_range (lo := 0) (fun i σ H' => ∃ z1 z2 z3 z4 z5 z6 z7 z8 : Option V, σ = [some (.ref a), z1, z2, z3, z4, z5, z6, z7, z8] ∧ Same H H') ⟨_, _, _, _, _, _, _, _, rfl, Same.refl _⟩ ?_ ?_⟩
  ·rintro i σ H0 hi ⟨z1, z2, z3, z4, z5, z6, z7, z8, rfl, S0⟩
   have hi3 : i < 3 := hi
   refine ⟨_, rfl, _, rfl, a, ns, _, rfl, S0.seq hS, by omega, by omega, fun q H1 hq s1 pu1 => ?_⟩
   have hqH : H q = none := S0.free hq
   refine ⟨_, rfl, q, 8, 14, 63000, rfl, pu1, by decide, by decide, by decide, fun v n rs H2 nb pu2 sm2 hd => ?_⟩
   have ok : NetOk n rs := nb.ok (by decide) (by decide) (by decide)
   have n0 := ok.n0
   have n1 := ok.n1
   have okl := ok.len
   refine ⟨_, rfl, ixT hd rfl fun v0 hv0 => ?_⟩
   cases hv0
   refine ⟨_, _, rfl, rfl, .inr ⟨_, rfl, mulI (.inl ⟨by decide, by decide⟩) ?_⟩⟩
   obtain ⟨T', eT, hT1, hT2⟩ : ∃ T' : Nat, 8 * (if decide (0 < n) = true then (1 : Int) else 0) = T' ∧ T' ≤ 8 ∧ (0 < T' → 0 < n) := by
    by_cases hn : 0 < n
    ·rw [if_pos (decide_eq_true hn)]; exact ⟨8, by omega, by omega, fun _ => hn⟩
    ·rw [if_neg (by simpa using hn)]; exact ⟨0, by omega, by omega, fun z => absurd z (by omega)⟩
   refine ⟨(T' : Int), by rw [← eT], by omega, by omega, ?_⟩
   refine for_range (lo := 0) (fun j σ H' => ∃ y1 y2 y3 y4 y5 : Option V, σ = [some (.ref a), some (.int (0 + (i : Int))), some (.ref q), some v, y1, y2, y3, y4, y5] ∧ Pu H' q (70000 + 400 * j) ∧ SameX (But q) H2 H')
    ⟨_, _, _, _, _, rfl, pu2.mono (by omega), SameX.refl⟩ ?_ ?_
   ·rintro j σ H' hj ⟨y1, y2, y3, y4, y5, rfl, puJ, smJ⟩
    have hj8 : j < T' := hj
    have hn : 0 < n := hT2 (by omega)
    have hdJ := hd.mono smJ
    -- way
    refine ⟨_, rfl, _, rfl, _, rfl, _, rfl, q, v, _, n, rs, rfl, puJ, by omega, hdJ, ok, by omega, fun wv ws HA hin hwl puA smA hwv => ?_⟩
    refine ⟨q, v, wv, _, n, rs, ws, rfl, puA, by omega, hdJ.mono smA, ok, hwv, by omega, fun w' ws' HB hlb puB smB hw' => ?_⟩
    have smAB := smA.trans smB
    have hdB := hdJ.mono smAB
    -- one, other
    refine ⟨_, rfl, _, rfl, ixT hdB rfl fun v0 hv0 => ?_⟩
    cases hv0
    refine ⟨q, n, _, rfl, puB, by omega, by omega, by omega, fun r1 HC r10 r11 puC smC => ?_⟩
    refine ⟨_, rfl, _, rfl, ixT (hdB.mono smC) rfl fun v0 hv0 => ?_⟩
    cases hv0
    refine ⟨q, n, _, rfl, puC, by omega, by omega, by omega, fun r2 HD r20 r21 puD smD => ?_⟩
    have hdD := (hdB.mono smC).mono smD
    have hwD := (hw'.mono smC).mono smD
    obtain ⟨aw, eaw, naw, haw⟩ := hwD.ints
    subst eaw
    -- there
    refine ⟨_, rfl, aw, _, rfl, haw, lc_listD (P := But q) (onInt (thereF rs)) hwD (line1000 (by rw [List.length_map]; omega)) ?_ ?_⟩
    ·intro ii d x H3 Ny Nn hdi sm hdn yes no
     obtain ⟨y, hy, rfl, hmem⟩ := get_int hdi
     cases hdn
     have hv : Dn H3 (But q) v (netD n rs) := hdD.mono sm.x
     have ef : onInt (thereF rs) (.int y) = if 0 ≤ y ∧ y < rs.length then some (.int y) else none := rfl
     refine ⟨_, rfl, _, _, rfl, rfl, _, rfl, ?_⟩
     by_cases h0 : 0 ≤ y
     ·refine ite_t (decide_eq_true h0) ?_
      refine ⟨_, rfl, ixT hv rfl fun v1 hv1 => lenL hv1 ⟨_, _, rfl, rfl, _, rfl, ?_⟩⟩
      by_cases h1 : y < rs.length
      ·refine ite_t (decide_eq_true (by rw [List.length_map]; exact h1)) ?_
       exact ⟨_, rfl, yes _ _ _ (Same.refl _) (ef.trans (if_pos ⟨h0, h1⟩)) (.int _)⟩
      ·refine ite_f (decide_eq_false (by rw [List.length_map]; exact h1)) ?_
       exact no _ (Same.refl _) (ef.trans (if_neg fun z => h1 z.2))
     ·refine ite_f (decide_eq_false h0) ?_
      refine ⟨_, rfl, ?_⟩
      refine ite_f rfl ?_
      exact no _ (Same.refl _) (ef.trans (if_neg fun z => h0 z.1))
    ·intro tl H3 ys3 s3 htl dns3
     obtain ⟨ts, ets, hts, lts⟩ := fm_ints (onInt (thereF rs)) (fun x => 0 ≤ x ∧ x < rs.length) (ws'.map PyData.int) (fun x hx e he => by
      obtain ⟨kk, hk1, rfl⟩ := List.mem_map.mp hx
      have he' : (if 0 ≤ kk ∧ kk < rs.length then some (PyData.int kk) else none) = some e := he
      split at he'
      ·rename_i hc; cases he'; exact ⟨_, rfl, hc⟩
      ·cases he')
     rw [ets] at dns3
     have puE := (puD.same s3).same (Same.new (o := .lst ys3) htl)
     have DT : Dn (upd H3 tl (.lst ys3)) (But q) (.ref tl) (intsD ts) := Dn.newL htl ((puD.same s3).ne htl) dns3
     have sE : Same HD (upd H3 tl (.lst ys3)) := s3.trans (Same.new htl)
     generalize upd H3 tl (.lst ys3) = HE at *
     have hdE := hdD.mono sE.x
     have hwE := hwD.mono sE.x
     have smE : SameX (But q) H2 HE := (((smJ.trans smAB).trans smC).trans smD).trans sE.x
     dsimp only
     refine seq_by (t := tIfS _ _ _) (fun σ' HF => ∃ a1 b1 : Int, σ' = [some (.ref a), some (.int (0 + (i : Int))), some (.ref q), some v, some (.int (0 + (j : Int))), some (.ref aw), some (.int a1), some (.int b1), some (.ref tl)] ∧ 0 ≤ a1 ∧ a1 < n ∧ 0 ≤ b1 ∧ b1 < n ∧ SameX (But q) HE HF ∧ Pu HF q (70000 + 400 * j + 300)) (fun U go => ?_) ?_
     ·refine ⟨_, rfl, Nat.zero_le _, fun pe hpe => ?_⟩
      have sV : Same HE (upd HE pe (.lst [])) := Same.new hpe
      refine eqD (DT.mono sV.x) (Dn.newL (P := But q) hpe (puE.ne hpe) .nil) (Lay.ints ts).shaped (by rfl) ⟨_, rfl, ?_⟩
      have puV := puE.same sV
      have DV := DT.mono (P := But q) sV.x
      have hdV := hdE.mono (P := But q) sV.x
      generalize upd HE pe (.lst []) = HV at *
      unfold intsD
      rw [eqv_nil]
      cases ts with
      | nil =>
       refine ite_f rfl ?_
       exact go _ _ ⟨r1, r2, rfl, r10, r11, r20, r21, sV.x, puV.mono (by omega)⟩
      | cons t0 ts =>
       refine ite_t rfl ?_
       refine ⟨_, rfl, q, 4, _, rfl, puV, by omega, by decide, by decide, fun g HW g0 g1 puW smW => ⟨_, _, rfl, rfl, _, rfl, ?_⟩⟩
       refine ite2 (fun _ => ?_) (fun _ => ?_)
       ·have DW := DV.mono smW
        have hdW := hdV.mono smW
        obtain ⟨ra, hra1, _⟩ := roadAt_in (hts t0 List.mem_cons_self).1 (hts t0 List.mem_cons_self).2
        obtain ⟨at', eat, _, hat⟩ := DW.ints
        cases eat
        refine ⟨_, rfl, ixT hdW rfl fun v6 hv6 => ⟨_, rfl, ixR hat (atI_zero _ _) (ixL hv6 (at_road hra1) fun v7 hv7 => ixT hv7 rfl fun v8 hv8 => ?_)⟩⟩
        cases hv8
        obtain ⟨tlast, elast, hlast⟩ : ∃ tlast, (t0 :: ts).map V.int = ((t0 :: ts).dropLast.map V.int) ++ [.int tlast] ∧ tlast ∈ t0 :: ts := by
         refine ⟨(t0 :: ts).getLast (by simp), ?_, List.getLast_mem _⟩
         rw [← List.map_singleton, ← List.map_append, List.dropLast_concat_getLast]
        obtain ⟨rb, hrb1, _⟩ := roadAt_in (hts tlast hlast).1 (hts tlast hlast).2
        refine ⟨_, rfl, ixT hdW rfl fun v6 hv6 => ⟨_, rfl, ixR hat (by rw [elast]; exact atI_last _ _) (ixL hv6 (at_road hrb1) fun v7 hv7 => ixT hv7 rfl fun v8 hv8 => ?_)⟩⟩
        cases hv8
        obtain ⟨⟨f0, f1⟩, _, _⟩ := ok.rd ra (roadAt_mem hra1)
        obtain ⟨_, ⟨t0', t1'⟩, _⟩ := ok.rd rb (roadAt_mem hrb1)
        exact go _ _ ⟨ra.1, rb.2.1, rfl, f0, f1, t0', t1', sV.x.trans smW, puW.mono (by omega)⟩
       ·exact go _ _ ⟨r1, r2, rfl, r10, r11, r20, r21, sV.x.trans smW, puW.mono (by omega)⟩
     ·rintro _ HF ⟨a1, b1, rfl, p0, p1, q0, q1, smF, puF⟩
      refine ⟨_, rfl, _, rfl, _, rfl, _, rfl, v, _, But q, But q, n, a1, b1, rs, ws', rfl, hdE.mono smF, ok, p0, p1, q0, q1, hwE.mono smF, by omega, fun HG sG => ⟨_, rfl, ?_⟩⟩
      refine ite_f rfl ?_
      exact ⟨_, _, _, _, _, rfl, (puF.same sG).mono (by omega), (smE.trans smF).trans sG.x⟩
   ·rintro σ H14 ⟨y1, y2, y3, y4, y5, rfl, puI, smI⟩
    exact ⟨_, _, _, _, _, _, _, _, rfl, same_of hqH (S0.trans s1) (sm2.trans smI)⟩
  ·rintro σ H' ⟨z1, z2, z3, z4, z5, z6, z7, z8, rfl, S0⟩
   exact k H'
lay_quick PySem.Challenge.pw_tautroads_k01_ways
noncomputable def QQ (p : Program) : Program := PySem.W.view p [1, 2, 3, 4, 5, 6, 7, 8, 9, 10, 11, 12, 13, 14, 15, 16, 18, 19, 20, 21, 22, 23, 24, 25, 26, 27, 28, 29, 31, 32, 33, 34, 35, 36, 37, 38, 39, 40, 41, 42, 43, 44, 45, 46, 47]
noncomputable def lo : List Str := ["Ring", "MOST_LENGTH"]
noncomputable def lv : List (Str × PySem.W.WData) := [("MOST_LENGTH", PySem.W.WData.int 1000000000)]
noncomputable def Xt (p : Program) (s : Shared) : Bool := PySem.W.xlAt (QQ p) lv s && PySem.W.recOk [] s
noncomputable def stm (p : Program) (i : Nat) : Stmt := p.main.body.getD i (.Pass ⟨0, 0, 0, 0⟩)
noncomputable def fs (p : Program) : List Stmt := [stm p 31, stm p 33, stm p 32, stm p 34, stm p 35, stm p 38, stm p 39, stm p 44, stm p 43, stm p 40, stm p 21, stm p 22, stm p 23, stm p 24, stm p 25, stm p 26, stm p 28, stm p 27, stm p 29, stm p 37, stm p 45, stm p 41, stm p 36, stm p 46, stm p 47]
noncomputable def bs : List Str := ["ValueError", "bool", "enumerate", "int", "isinstance", "len", "list", "max", "range", "sum", "zip"]
noncomputable def cs : List Str := ["MOST_LENGTH", "MOST_PLACES", "MOST_ROADS"]
noncomputable def is : List Int := [1000000000, 20, 60]
noncomputable def xs : List (Str × Str × List Str) := [("RoadError", "NoWay", ["NoLine", "NoText", "NoBook", "NoDeed", "Ring", "Full", "NoLength", "Twice", "NoName", "NoCount", "NoTaut", "NoWay", "NoRoad", "NoPlace", "NoNet"])]
noncomputable abbrev oo (p : Program) : PySem.W.Frag → L2.ObsT := L2.obs (fs p) bs cs xs
noncomputable abbrev dd (p : Program) : L2.ObsT := L2.due (fs p) bs is xs
noncomputable def seenP {α : Type} (gd : Program → List Str → α) (run : (String → Option PySem.Builtin) → Program → World → Nat → Option Value → Nat → Shared → Thread → Option Shared) (tt : String → Option PySem.Builtin) (im : List Stmt → List Str) (sn : Program → List Str → List Str → (Shared → Bool) → Bool → Shared → α) (p : Program) : Prop :=
 ∀ (w : World) (os : OsState), L2.hdF run tt im sn p (QQ p) lo (Xt p) (fun s => oo p (L2.fragOf s.heap)) 8688 w os = some (true, gd (QQ p) lo, dd p)
theorem seen_t : seenP PySem.W.openGood PySem.W.Fast.tw14082659384304107361 PySem.W.Fast.tw14364793385576792824 PySem.W.Fast.tw5923862056798008813 PySem.W.Fast.tw4187177175401517315 PySem.W.Fast.tw13836146949143141939 := fun w os => by
 unfold L2.hdF
 kernel_rfl
theorem seen : seenP PySem.W.openGood PySem.W.topRun treeTable importedModules PySem.W.openSeen PySem.Challenge.pw_tautroads_k01_ways := by
 rw [PySem.W.Fast.te14082659384304107361, PySem.W.Fast.te14364793385576792824, PySem.W.Fast.te5923862056798008813, PySem.W.Fast.te4187177175401517315, PySem.W.Fast.te13836146949143141939]
 exact seen_t
theorem left : PySem.W.LeftO PySem.Challenge.pw_tautroads_k01_ways (QQ PySem.Challenge.pw_tautroads_k01_ways) lo (Xt PySem.Challenge.pw_tautroads_k01_ways) (L2.seeHook (oo PySem.Challenge.pw_tautroads_k01_ways) (dd PySem.Challenge.pw_tautroads_k01_ways)).obs (L2.seeHook (oo PySem.Challenge.pw_tautroads_k01_ways) (dd PySem.Challenge.pw_tautroads_k01_ways)).val 8688 :=
 L2.left_one (by decide) (by kernel_rfl) (fun s => by kernel_rfl) seen
theorem tx_see {K : PySem.W.Frag} {h : Heap} {mg : Str → Option Value} (X : K.In h) (G : h.Ns mainGlobals mg) (e : oo PySem.Challenge.pw_tautroads_k01_ways K = dd PySem.Challenge.pw_tautroads_k01_ways) : Tx K mg := by
 obtain ⟨e1, e⟩ := Prod.mk.inj e
 obtain ⟨e2, e⟩ := Prod.mk.inj e
 obtain ⟨e3, e4⟩ := Prod.mk.inj e
 exact {
  d__law_at := L2.see_fn X G rfl (L2.at_map e1 0 (a := s__law_at) rfl)
  d__law_purse := L2.see_fn X G rfl (L2.at_map e1 1 (a := s__law_purse) rfl)
  d__law_mixed := L2.see_fn X G rfl (L2.at_map e1 2 (a := s__law_mixed) rfl)
  d__law_draw := L2.see_fn X G rfl (L2.at_map e1 3 (a := s__law_draw) rfl)
  d__law_number := L2.see_fn X G rfl (L2.at_map e1 4 (a := s__law_number) rfl)
  d__law_net := L2.see_fn X G rfl (L2.at_map e1 5 (a := s__law_net) rfl)
  d__law_any := L2.see_fn X G rfl (L2.at_map e1 6 (a := s__law_any) rfl)
  d__law_bent := L2.see_fn X G rfl (L2.at_map e1 7 (a := s__law_bent) rfl)
  d__law_walked := L2.see_fn X G rfl (L2.at_map e1 8 (a := s__law_walked) rfl)
  d__law_is_way := L2.see_fn X G rfl (L2.at_map e1 9 (a := s__law_is_way) rfl)
  d_is_place := L2.see_fn X G rfl (L2.at_map e1 10 (a := s_is_place) rfl)
  d_is_road := L2.see_fn X G rfl (L2.at_map e1 11 (a := s_is_road) rfl)
  d_check_net := L2.see_fn X G rfl (L2.at_map e1 12 (a := s_check_net) rfl)
  d_check_place := L2.see_fn X G rfl (L2.at_map e1 13 (a := s_check_place) rfl)
  d_check_question := L2.see_fn X G rfl (L2.at_map e1 14 (a := s_check_question) rfl)
  d_leads := L2.see_fn X G rfl (L2.at_map e1 15 (a := s_leads) rfl)
  d_is_way := L2.see_fn X G rfl (L2.at_map e1 16 (a := s_is_way) rfl)
  d_way_length := L2.see_fn X G rfl (L2.at_map e1 17 (a := s_way_length) rfl)
  d_length_of := L2.see_fn X G rfl (L2.at_map e1 18 (a := s_length_of) rfl)
  d__law_class := L2.see_fn X G rfl (L2.at_map e1 19 (a := s__law_class) rfl)
  d__law_told := L2.see_fn X G rfl (L2.at_map e1 20 (a := s__law_told) rfl)
  d__law_long := L2.see_fn X G rfl (L2.at_map e1 21 (a := s__law_long) rfl)
  d__law_whole := L2.see_fn X G rfl (L2.at_map e1 22 (a := s__law_whole) rfl)
  d__law_right := L2.see_fn X G rfl (L2.at_map e1 23 (a := s__law_right) rfl)
  d_law := L2.see_fn X G rfl (L2.at_map e1 24 (a := s_law) rfl)
  n_ValueError := L2.see_no X G (L2.at_map e2 0 rfl)
  n_bool := L2.see_no X G (L2.at_map e2 1 rfl)
  n_enumerate := L2.see_no X G (L2.at_map e2 2 rfl)
  n_int := L2.see_no X G (L2.at_map e2 3 rfl)
  n_isinstance := L2.see_no X G (L2.at_map e2 4 rfl)
  n_len := L2.see_no X G (L2.at_map e2 5 rfl)
  n_list := L2.see_no X G (L2.at_map e2 6 rfl)
  n_max := L2.see_no X G (L2.at_map e2 7 rfl)
  n_range := L2.see_no X G (L2.at_map e2 8 rfl)
  n_sum := L2.see_no X G (L2.at_map e2 9 rfl)
  n_zip := L2.see_no X G (L2.at_map e2 10 rfl)
  g_MOST_LENGTH := L2.see_int X G (L2.at_ints e3 0 rfl rfl)
  g_MOST_PLACES := L2.see_int X G (L2.at_ints e3 1 rfl rfl)
  g_MOST_ROADS := L2.see_int X G (L2.at_ints e3 2 rfl rfl)
  x_NoWay := xf_of X G (L2.at_map e4 0 rfl)
  }
end My
open PySem PySem.W PyProof.Rows
set_option maxRecDepth 100000 in
set_option maxHeartbeats 0 in
theorem PySem.Challenge.cw_tautroads_k01_ways_holds : PySem.Challenge.rw_tautroads_k01_ways.Holds := by
 w_on; o_law
 refine holds_open (d := ⟨"law", L2.defArgs My.s_law, L2.defBody My.s_law, L2.defScope My.s_law, L2.defPos My.s_law⟩) (kwd := []) (q := My.QQ PySem.Challenge.pw_tautroads_k01_ways) (Xt := My.Xt PySem.Challenge.pw_tautroads_k01_ways) (XP := XL (My.QQ PySem.Challenge.pw_tautroads_k01_ways) My.lv)
  My.left (L2.seeHook (My.oo PySem.Challenge.pw_tautroads_k01_ways) (My.dd PySem.Challenge.pw_tautroads_k01_ways)).of (L2.seeHook (My.oo PySem.Challenge.pw_tautroads_k01_ways) (My.dd PySem.Challenge.pw_tautroads_k01_ways)).keeps (fun s e => xl_of s (Bool.and_eq_true_iff.mp e).1) XL.keeps (by kernel_rfl) (by kernel_rfl) (by kernel_rfl) (fun s e => recFacts_of (Bool.and_eq_true_iff.mp e).2) (by kernel_rfl) (by assumption) (by first | k_qdec | decide +kernel) ⟨rfl, rfl, rfl, rfl, rfl, by decide +kernel⟩ ?hw ?hc
 case hw => w_witness2
 case hc =>
  refine L2.walk_see (l := PySem.Challenge.rw_tautroads_k01_ways) (n := 63) (k := 8) (x := "_law_script") (CX := L2.CX0) (sp := My.spLaw) rfl (by decide) rfl ⟨rfl, by decide, by decide⟩ ?F ?S ?C
  case F =>
   intro w K mg fa h KX G e hmg
   have T : My.Tx K mg := My.tx_see KX G e
   exact L2.law_F T.d_law (fun _ _ _ _ _ _ _ => rfl) (fun base => My.ok_law (base := base) T) hmg
  case S => exact fun K H a ns hl hO hS => My.law_sp hl hO hS
  case C => exact fun _ _ _ _ z => z


