/- Rows of structs: cells of a list of elements of one length each. -/
import Derived.Test.YtboonfbbnidmbaaSlc
import Derived.Lib.SliceRun
namespace Go.Proofs.Ytboonfbbnidmbaa
open Go.RowKit

section
variable {α : Type}
theorem rows_len (g : α → List Value) (k : Nat) (hg : ∀ x, (g x).length = k) (L : List α) : (L.flatMap g).length = L.length * k := by
  induction L with
  | nil => simp
  | cons x r ih => rw [List.flatMap_cons, List.length_append, ih, hg, List.length_cons, Nat.add_mul, Nat.one_mul, Nat.add_comm]
theorem rows_at (g : α → List Value) (k : Nat) (hg : ∀ x, (g x).length = k) (L : List α) (q r : Nat) (hq : q < L.length) (hr : r < k) : (L.flatMap g)[q * k + r]? = (g L[q])[r]? := by
  induction L generalizing q with
  | nil => exact absurd hq (by simp)
  | cons x l ih =>
    rw [List.flatMap_cons]
    cases q with
    | zero =>
      rw [Nat.zero_mul, Nat.zero_add, List.getElem?_append_left (by rw [hg]; exact hr)]
      rfl
    | succ q =>
      rw [List.getElem?_append_right (by rw [hg, Nat.succ_mul]; omega), hg, show (q + 1) * k + r - k = q * k + r by rw [Nat.succ_mul]; omega, ih q (by simpa using hq)]
      rfl
theorem rows_of (g : α → List Value) (k : Nat) (hg : ∀ x, (g x).length = k) (hk : 0 < k) (L : List α) (j : Nat) (u : Value) (h : (L.flatMap g)[j]? = some u) : ∃ (q r : Nat) (hq : q < L.length), r < k ∧ j = q * k + r ∧ (g L[q])[r]? = some u := by
  obtain ⟨hj, _⟩ := List.getElem?_eq_some_iff.1 h
  rw [rows_len g k hg] at hj
  have hr := Nat.mod_lt j hk
  have hd := Nat.div_add_mod j k
  rw [Nat.mul_comm] at hd
  have hq : j / k < L.length := by rw [Nat.div_lt_iff_lt_mul hk]; exact hj
  refine ⟨j / k, j % k, hq, hr, hd.symm, ?_⟩
  rw [← rows_at g k hg L _ _ hq hr, hd]
  exact h
theorem rows_take (g : α → List Value) (k : Nat) (hg : ∀ x, (g x).length = k) (L : List α) (q : Nat) : (L.flatMap g).take (q * k) = (L.take q).flatMap g := by
  induction L generalizing q with
  | nil => simp
  | cons x l ih =>
    cases q with
    | zero => simp
    | succ q => rw [List.flatMap_cons, List.take_succ_cons, List.flatMap_cons, List.take_append, hg, show (q + 1) * k - k = q * k by rw [Nat.succ_mul]; omega, ih, List.take_of_length_le (by rw [hg, Nat.succ_mul]; omega)]
theorem rows_drop (g : α → List Value) (k : Nat) (hg : ∀ x, (g x).length = k) (L : List α) (q : Nat) : (L.flatMap g).drop (q * k) = (L.drop q).flatMap g := by
  induction L generalizing q with
  | nil => simp
  | cons x l ih =>
    cases q with
    | zero => simp
    | succ q => rw [List.flatMap_cons, List.drop_succ_cons, List.drop_append, hg, show (q + 1) * k - k = q * k by rw [Nat.succ_mul]; omega, ih, List.drop_of_length_le (by rw [hg, Nat.succ_mul]; omega), List.nil_append]
theorem rows_set (g : α → List Value) (k : Nat) (hg : ∀ x, (g x).length = k) (L : List α) (q r : Nat) (hq : q < L.length) (hr : r < k) (y : α) (u : Value) (hy : g y = (g L[q]).set r u) : (L.flatMap g).set (q * k + r) u = (L.set q y).flatMap g := by
  induction L generalizing q with
  | nil => exact absurd hq (by simp)
  | cons x l ih =>
    cases q with
    | zero =>
      rw [List.set_cons_zero, List.flatMap_cons, List.flatMap_cons, Nat.zero_mul, Nat.zero_add, List.set_append_left _ _ (by rw [hg]; exact hr), hy]
      rfl
    | succ q =>
      rw [List.set_cons_succ, List.flatMap_cons, List.flatMap_cons, List.set_append_right _ _ (by rw [hg, Nat.succ_mul]; omega), hg, show (q + 1) * k + r - k = q * k + r by rw [Nat.succ_mul]; omega, ih q (by simpa using hq) hy]
end

theorem own_far {w : World} {B : Nat} {t : TypeId} {size : Nat} {v : Value} {n : Nat} {xs : List Value} (h : w.ownsRow B t size v n xs) {b : Nat} (hb : b < B) : some b ≠ v.ownBlock := fun e => by have := (h.lt b e.symm).1; omega
/-- Nothing that was there has changed, but the block r. -/
def Kp (r : Option Nat) (w w' : World) : Prop := w.grownBy w' r
theorem Kp.size {r : Option Nat} {w w' : World} (h : Kp r w w') : w.heap.size ≤ w'.heap.size := World.grownBy.size h
theorem Kp.of_gr {r : Option Nat} {w w' : World} (h : Gr w w') : Kp r w w' := ⟨h.os, h.tape, h.output, h.size, fun k hk _ => h.block k hk⟩
theorem Kp.refl (r : Option Nat) (w : World) : Kp r w w := Kp.of_gr (Gr.refl w)
theorem Kp.gr {r : Option Nat} {a b c : World} (h : Kp r a b) (k : Gr b c) : Kp r a c :=
  ⟨k.os.trans h.os, k.tape.trans h.tape, k.output.trans h.output, Nat.le_trans h.size k.size, fun i hi hr => (k.block i (Nat.lt_of_lt_of_le hi h.size)).trans (h.block i hi hr)⟩
theorem Kp.trans {r : Option Nat} {a b c : World} (h : Kp r a b) (k : Kp r b c) : Kp r a c := World.grownBy.trans h k
theorem Kp.drew {r : Option Nat} {a b : World} (h : Kp r a b) : Kp r a b.drew := h.gr (Gr.refl _).drew
theorem Kp.drewN {r : Option Nat} {a b : World} (h : Kp r a b) (n : Nat) : Kp r a (b.drewN n) := h.gr ((Gr.refl _).drewN n)
theorem Kp.set {r : Option Nat} {a b : World} (h : Kp r a b) {g : Nat} (hg : a.heap.size ≤ g ∨ r = some g) (i : Nat) (u : Value) : Kp r a (b.setCell ⟨g, i, none⟩ u) := by
  refine ⟨h.os, h.tape, h.output, by simpa [World.setCell] using h.size, fun k hk hr => ?_⟩
  rw [← h.block k hk hr]
  refine Below.heap_setCell b ⟨g, i, none⟩ u k ?_
  rcases hg with hg | hg
  · show k ≠ g; omega
  · rintro rfl
    exact hr hg.symm
theorem Kp.below {r : Option Nat} {a b : World} {B : Nat} (h : Kp r a b) (hB : B ≤ a.heap.size) (hr : ∀ g, r = some g → B ≤ g) : Below B a b :=
  ⟨h.os, h.tape, h.output, h.size, fun k hk => h.block k (by omega) (fun e => by have := hr k e.symm; omega)⟩
theorem Kp.cell {r : Option Nat} {a b : World} (h : Kp r a b) {p : Addr} {v : Value} (hc : a.cell? p = some v) (hr : some p.block ≠ r) : b.cell? p = some v := World.grownBy.cell h hc hr
theorem Kp.frozen {r : Option Nat} {a b : World} (h : Kp r a b) {p : Addr} (hlt : p.block < a.heap.size) (hr : some p.block ≠ r) : b.frozen? p = a.frozen? p := World.grownBy.frozen_far h p hlt hr
theorem setCell_here {w : World} {b i : Nat} {u v : Value} (h : w.cell? ⟨b, i, none⟩ = some u) : (w.setCell ⟨b, i, none⟩ v).cell? ⟨b, i, none⟩ = some v := World.cell?_setCell_same _ _ _ h
theorem setCell_there {w : World} {b b' i j : Nat} {u v : Value} (h : w.cell? ⟨b', j, none⟩ = some u) (hne : b' ≠ b) : (w.setCell ⟨b, i, none⟩ v).cell? ⟨b', j, none⟩ = some u := by
  rw [World.cell?_setCell_other _ _ _ _ (fun e => hne (by injection e with e1; exact e1.symm))]
  exact h
section
variable {w : World} {B : Nat} {t : TypeId} {g n c : Nat} {xs : List Value}
theorem own_len {size : Nat} (h : w.ownsRow B t size (.slice (some ⟨g, 0, none⟩) n c) n xs) : n ≤ c ∧ c ≤ 9223372036854775807 ∧ B ≤ g ∧ g < w.heap.size := by
  rcases h.2 with ⟨hh, _⟩ | ⟨g', cap', cur, hh, hb, hg, hn, hm, _⟩
  · cases hh
  · injection hh with h1 h2 h3
    injection h1 with h1
    injection h1 with h1
    subst h1 h3
    exact ⟨hn, hm, hb, (Array.getElem?_eq_some_iff.1 hg).1⟩
/-- Rows of unlike element types lie apart. -/
theorem own_types {size size' n' : Nat} {t' : TypeId} {v v' : Value} {ys : List Value} (h : w.ownsRow B t size v n xs) (h' : w.ownsRow B t' size' v' n' ys) (ht : t ≠ t') {b : Nat} (e : v.ownBlock = some b) : v'.ownBlock ≠ some b := by
  intro e'
  rcases h.2 with ⟨rfl, _⟩ | ⟨g, cap, cur, rfl, _, hg, _⟩
  · simp [Value.ownBlock] at e
  · rcases h'.2 with ⟨rfl, _⟩ | ⟨g', cap', cur', rfl, _, hg', _⟩
    · simp [Value.ownBlock] at e'
    · have e1 : g = b := by simpa [Value.ownBlock] using e
      have e2 : g' = b := by simpa [Value.ownBlock] using e'
      subst e1 e2
      rw [hg] at hg'
      injection hg' with hh
      injection hh with _ hh
      exact ht hh
theorem own_set_other {size : Nat} {v : Value} (h : w.ownsRow B t size v n xs) {b : Nat} (hb : v.ownBlock ≠ some b) (i : Nat) (u : Value) : (w.setCell ⟨b, i, none⟩ u).ownsRow B t size v n xs := by
  have hg : w.grownBy (w.setCell ⟨b, i, none⟩ u) (some b) := ⟨rfl, rfl, rfl, by simp [World.setCell], fun k _ hk => Below.heap_setCell w ⟨b, i, none⟩ u k (fun e => hk (by rw [e]))⟩
  exact World.ownsRow.kept h hg (.inr hb)
end
theorem own_prefix {w : World} {B : Nat} {t : TypeId} {size g n c k : Nat} {xs : List Value} (h : w.ownsRow B t size (.slice (some ⟨g, 0, none⟩) n c) n xs) (hk : k ≤ n) : w.ownsRow B t size (.slice (some ⟨g, 0, none⟩) k c) k (xs.take (k * size)) := by
  have hkn : k * size ≤ n * size := Nat.mul_le_mul_right _ hk
  refine ⟨by rw [List.length_take, h.1]; omega, ?_⟩
  rcases h.2 with ⟨hh, _⟩ | ⟨g', cap, cur, hh, hb, hg, hn, hm, hc, ht⟩
  · cases hh
  · injection hh with e1 e2 e3
    injection e1 with e1
    injection e1 with e1
    subst e1 e3
    refine .inr ⟨g, c, cur, rfl, hb, hg, by omega, hm, hc, ?_⟩
    rw [← ht, List.take_take, Nat.min_eq_left hkn]
theorem slice_from_g {P : Program} (t : TypeId) (size : Nat) (he : P.underlying t = some (.slice (P.elem t))) (hz : ∀ W : World, (sizeOf (P.elem t)).run P W = .ok size W) (n c k : Nat) (hk : k ≤ n) (A : Option Addr) :
    ∀ W : World, (Instr.slice t (.slice A n c) (some (.int .i64 (k : Int))) none none).run P W = .ok (sliced A k n c size) W := by
  intro W
  rw [run_slice_l W _ A n c he .i64 (k : Int) (by omega) (by omega), hz]
  rfl
theorem slice_to_g {P : Program} (t : TypeId) (size : Nat) (he : P.underlying t = some (.slice (P.elem t))) (hz : ∀ W : World, (sizeOf (P.elem t)).run P W = .ok size W) (n c k : Nat) (hk : k ≤ c) (A : Option Addr) :
    ∀ W : World, (Instr.slice t (.slice A n c) none (some (.int .i64 (k : Int))) none).run P W = .ok (.slice A k c) W := by
  intro W
  rw [run_slice_h W _ A n c he .i64 (k : Int) (by omega) (by omega), hz]
  show Result.ok (sliced A 0 (k : Int).toNat c size) W = _
  unfold sliced
  rw [Int.toNat_natCast]
  cases A with
  | none => simp
  | some a => simp [Addr.add]
end Go.Proofs.Ytboonfbbnidmbaa
