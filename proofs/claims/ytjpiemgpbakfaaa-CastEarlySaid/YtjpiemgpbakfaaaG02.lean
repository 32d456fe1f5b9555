/- Texts RowsG, TxA, joined. -/
import Derived.Test.YtjpiemgpbakfaaaG01
import Derived.Lib.SliceRun
import Derived.BigQuiet
import Derived.Deep.QuietTactic
import Derived.WalkSpells
import Derived.WalkLawsBesides
import Derived.Outline
import Derived.ChangeKeysEq
import Derived.Laws.StructEq
/- Rows of structs: cells of a list of elements of one length each. -/
namespace Go.Proofs.Ytjpiemgpbakfaaa
open Go.RowKit

section
variable {α : Type}
theorem rows_len (g : α → List Value) (k : Nat) (hg : ∀ x, (g x).length = k) (L : List α) : (L.flatMap g).length = L.length * k := by
  induction L with
  | nil => simp
  | cons x r ih => rw [List.flatMap_cons, List.length_append, ih, hg, List.length_cons, Nat.add_mul, Nat.one_mul, Nat.add_comm]
theorem rows_at (g : α → List Value) (k : Nat) (hg : ∀ x, (g x).length = k) (L : List α) (q r : Nat) (hq : q < L.length) (hr : r < k) : (L.flatMap g)[q * k + r]? = (g L[q])[r]? := by
  induction L generalizing q with
  | nil => exact absurd hq (by simp)
  | cons x l ih =>
    rw [List.flatMap_cons]
    cases q with
    | zero =>
      rw [Nat.zero_mul, Nat.zero_add, List.getElem?_append_left (by rw [hg]; exact hr)]
      rfl
    | succ q =>
      rw [List.getElem?_append_right (by rw [hg, Nat.succ_mul]; omega), hg, show (q + 1) * k + r - k = q * k + r by rw [Nat.succ_mul]; omega, ih q (by simpa using hq)]
      rfl
theorem rows_of (g : α → List Value) (k : Nat) (hg : ∀ x, (g x).length = k) (hk : 0 < k) (L : List α) (j : Nat) (u : Value) (h : (L.flatMap g)[j]? = some u) : ∃ (q r : Nat) (hq : q < L.length), r < k ∧ j = q * k + r ∧ (g L[q])[r]? = some u := by
  obtain ⟨hj, _⟩ := List.getElem?_eq_some_iff.1 h
  rw [rows_len g k hg] at hj
  have hr := Nat.mod_lt j hk
  have hd := Nat.div_add_mod j k
  rw [Nat.mul_comm] at hd
  have hq : j / k < L.length := by rw [Nat.div_lt_iff_lt_mul hk]; exact hj
  refine ⟨j / k, j % k, hq, hr, hd.symm, ?_⟩
  rw [← rows_at g k hg L _ _ hq hr, hd]
  exact h
theorem rows_take (g : α → List Value) (k : Nat) (hg : ∀ x, (g x).length = k) (L : List α) (q : Nat) : (L.flatMap g).take (q * k) = (L.take q).flatMap g := by
  induction L generalizing q with
  | nil => simp
  | cons x l ih =>
    cases q with
    | zero => simp
    | succ q => rw [List.flatMap_cons, List.take_succ_cons, List.flatMap_cons, List.take_append, hg, show (q + 1) * k - k = q * k by rw [Nat.succ_mul]; omega, ih, List.take_of_length_le (by rw [hg, Nat.succ_mul]; omega)]
theorem rows_drop (g : α → List Value) (k : Nat) (hg : ∀ x, (g x).length = k) (L : List α) (q : Nat) : (L.flatMap g).drop (q * k) = (L.drop q).flatMap g := by
  induction L generalizing q with
  | nil => simp
  | cons x l ih =>
    cases q with
    | zero => simp
    | succ q => rw [List.flatMap_cons, List.drop_succ_cons, List.drop_append, hg, show (q + 1) * k - k = q * k by rw [Nat.succ_mul]; omega, ih, List.drop_of_length_le (by rw [hg, Nat.succ_mul]; omega), List.nil_append]
theorem rows_set (g : α → List Value) (k : Nat) (hg : ∀ x, (g x).length = k) (L : List α) (q r : Nat) (hq : q < L.length) (hr : r < k) (y : α) (u : Value) (hy : g y = (g L[q]).set r u) : (L.flatMap g).set (q * k + r) u = (L.set q y).flatMap g := by
  induction L generalizing q with
  | nil => exact absurd hq (by simp)
  | cons x l ih =>
    cases q with
    | zero =>
      rw [List.set_cons_zero, List.flatMap_cons, List.flatMap_cons, Nat.zero_mul, Nat.zero_add, List.set_append_left _ _ (by rw [hg]; exact hr), hy]
      rfl
    | succ q =>
      rw [List.set_cons_succ, List.flatMap_cons, List.flatMap_cons, List.set_append_right _ _ (by rw [hg, Nat.succ_mul]; omega), hg, show (q + 1) * k + r - k = q * k + r by rw [Nat.succ_mul]; omega, ih q (by simpa using hq) hy]
end

theorem own_far {w : World} {B : Nat} {t : TypeId} {size : Nat} {v : Value} {n : Nat} {xs : List Value} (h : w.ownsRow B t size v n xs) {b : Nat} (hb : b < B) : some b ≠ v.ownBlock := fun e => by have := (h.lt b e.symm).1; omega
/-- Nothing that was there has changed, but the block r. -/
def Kp (r : Option Nat) (w w' : World) : Prop := w.grownBy w' r
theorem Kp.size {r : Option Nat} {w w' : World} (h : Kp r w w') : w.heap.size ≤ w'.heap.size := World.grownBy.size h
theorem Kp.of_gr {r : Option Nat} {w w' : World} (h : Gr w w') : Kp r w w' := ⟨h.os, h.tape, h.output, h.size, fun k hk _ => h.block k hk⟩
theorem Kp.refl (r : Option Nat) (w : World) : Kp r w w := Kp.of_gr (Gr.refl w)
theorem Kp.gr {r : Option Nat} {a b c : World} (h : Kp r a b) (k : Gr b c) : Kp r a c :=
  ⟨k.os.trans h.os, k.tape.trans h.tape, k.output.trans h.output, Nat.le_trans h.size k.size, fun i hi hr => (k.block i (Nat.lt_of_lt_of_le hi h.size)).trans (h.block i hi hr)⟩
theorem Kp.trans {r : Option Nat} {a b c : World} (h : Kp r a b) (k : Kp r b c) : Kp r a c := World.grownBy.trans h k
theorem Kp.drew {r : Option Nat} {a b : World} (h : Kp r a b) : Kp r a b.drew := h.gr (Gr.refl _).drew
theorem Kp.drewN {r : Option Nat} {a b : World} (h : Kp r a b) (n : Nat) : Kp r a (b.drewN n) := h.gr ((Gr.refl _).drewN n)
theorem Kp.set {r : Option Nat} {a b : World} (h : Kp r a b) {g : Nat} (hg : a.heap.size ≤ g ∨ r = some g) (i : Nat) (u : Value) : Kp r a (b.setCell ⟨g, i, none⟩ u) := by
  refine ⟨h.os, h.tape, h.output, by simpa [World.setCell] using h.size, fun k hk hr => ?_⟩
  rw [← h.block k hk hr]
  refine Below.heap_setCell b ⟨g, i, none⟩ u k ?_
  rcases hg with hg | hg
  · show k ≠ g; omega
  · rintro rfl
    exact hr hg.symm
theorem Kp.below {r : Option Nat} {a b : World} {B : Nat} (h : Kp r a b) (hB : B ≤ a.heap.size) (hr : ∀ g, r = some g → B ≤ g) : Below B a b :=
  ⟨h.os, h.tape, h.output, h.size, fun k hk => h.block k (by omega) (fun e => by have := hr k e.symm; omega)⟩
theorem Kp.cell {r : Option Nat} {a b : World} (h : Kp r a b) {p : Addr} {v : Value} (hc : a.cell? p = some v) (hr : some p.block ≠ r) : b.cell? p = some v := World.grownBy.cell h hc hr
theorem Kp.frozen {r : Option Nat} {a b : World} (h : Kp r a b) {p : Addr} (hlt : p.block < a.heap.size) (hr : some p.block ≠ r) : b.frozen? p = a.frozen? p := World.grownBy.frozen_far h p hlt hr
theorem setCell_here {w : World} {b i : Nat} {u v : Value} (h : w.cell? ⟨b, i, none⟩ = some u) : (w.setCell ⟨b, i, none⟩ v).cell? ⟨b, i, none⟩ = some v := World.cell?_setCell_same _ _ _ h
theorem setCell_there {w : World} {b b' i j : Nat} {u v : Value} (h : w.cell? ⟨b', j, none⟩ = some u) (hne : b' ≠ b) : (w.setCell ⟨b, i, none⟩ v).cell? ⟨b', j, none⟩ = some u := by
  rw [World.cell?_setCell_other _ _ _ _ (fun e => hne (by injection e with e1; exact e1.symm))]
  exact h
section
variable {w : World} {B : Nat} {t : TypeId} {g n c : Nat} {xs : List Value}
theorem own_len {size : Nat} (h : w.ownsRow B t size (.slice (some ⟨g, 0, none⟩) n c) n xs) : n ≤ c ∧ c ≤ 9223372036854775807 ∧ B ≤ g ∧ g < w.heap.size := by
  rcases h.2 with ⟨hh, _⟩ | ⟨g', cap', cur, hh, hb, hg, hn, hm, _⟩
  · cases hh
  · injection hh with h1 h2 h3
    injection h1 with h1
    injection h1 with h1
    subst h1 h3
    exact ⟨hn, hm, hb, (Array.getElem?_eq_some_iff.1 hg).1⟩
/-- Rows of unlike element types lie apart. -/
theorem own_types {size size' n' : Nat} {t' : TypeId} {v v' : Value} {ys : List Value} (h : w.ownsRow B t size v n xs) (h' : w.ownsRow B t' size' v' n' ys) (ht : t ≠ t') {b : Nat} (e : v.ownBlock = some b) : v'.ownBlock ≠ some b := by
  intro e'
  rcases h.2 with ⟨rfl, _⟩ | ⟨g, cap, cur, rfl, _, hg, _⟩
  · simp [Value.ownBlock] at e
  · rcases h'.2 with ⟨rfl, _⟩ | ⟨g', cap', cur', rfl, _, hg', _⟩
    · simp [Value.ownBlock] at e'
    · have e1 : g = b := by simpa [Value.ownBlock] using e
      have e2 : g' = b := by simpa [Value.ownBlock] using e'
      subst e1 e2
      rw [hg] at hg'
      injection hg' with hh
      injection hh with _ hh
      exact ht hh
theorem own_set_other {size : Nat} {v : Value} (h : w.ownsRow B t size v n xs) {b : Nat} (hb : v.ownBlock ≠ some b) (i : Nat) (u : Value) : (w.setCell ⟨b, i, none⟩ u).ownsRow B t size v n xs := by
  have hg : w.grownBy (w.setCell ⟨b, i, none⟩ u) (some b) := ⟨rfl, rfl, rfl, by simp [World.setCell], fun k _ hk => Below.heap_setCell w ⟨b, i, none⟩ u k (fun e => hk (by rw [e]))⟩
  exact World.ownsRow.kept h hg (.inr hb)
end
theorem own_prefix {w : World} {B : Nat} {t : TypeId} {size g n c k : Nat} {xs : List Value} (h : w.ownsRow B t size (.slice (some ⟨g, 0, none⟩) n c) n xs) (hk : k ≤ n) : w.ownsRow B t size (.slice (some ⟨g, 0, none⟩) k c) k (xs.take (k * size)) := by
  have hkn : k * size ≤ n * size := Nat.mul_le_mul_right _ hk
  refine ⟨by rw [List.length_take, h.1]; omega, ?_⟩
  rcases h.2 with ⟨hh, _⟩ | ⟨g', cap, cur, hh, hb, hg, hn, hm, hc, ht⟩
  · cases hh
  · injection hh with e1 e2 e3
    injection e1 with e1
    injection e1 with e1
    subst e1 e3
    refine .inr ⟨g, c, cur, rfl, hb, hg, by omega, hm, hc, ?_⟩
    rw [← ht, List.take_take, Nat.min_eq_left hkn]
theorem slice_from_g {P : Program} (t : TypeId) (size : Nat) (he : P.underlying t = some (.slice (P.elem t))) (hz : ∀ W : World, (sizeOf (P.elem t)).run P W = .ok size W) (n c k : Nat) (hk : k ≤ n) (A : Option Addr) :
    ∀ W : World, (Instr.slice t (.slice A n c) (some (.int .i64 (k : Int))) none none).run P W = .ok (sliced A k n c size) W := by
  intro W
  rw [run_slice_l W _ A n c he .i64 (k : Int) (by omega) (by omega), hz]
  rfl
theorem slice_to_g {P : Program} (t : TypeId) (size : Nat) (he : P.underlying t = some (.slice (P.elem t))) (hz : ∀ W : World, (sizeOf (P.elem t)).run P W = .ok size W) (n c k : Nat) (hk : k ≤ c) (A : Option Addr) :
    ∀ W : World, (Instr.slice t (.slice A n c) none (some (.int .i64 (k : Int))) none).run P W = .ok (.slice A k c) W := by
  intro W
  rw [run_slice_h W _ A n c he .i64 (k : Int) (by omega) (by omega), hz]
  show Result.ok (sliced A 0 (k : Int).toNat c size) W = _
  unfold sliced
  rw [Int.toNat_natCast]
  cases A with
  | none => simp
  | some a => simp [Addr.add]
end Go.Proofs.Ytjpiemgpbakfaaa
/- Operations of transactions as they are read: a slice of them; when two are equal. -/
namespace Go.Proofs.Ytjpiemgpbakfaaa
open Go.RowKit

structure TO where
  kind : Int
  key : ByteArray
  elem : ByteArray
  n : Int
/-- The operation o lies at this place. -/
def TCell (w : World) (b off : Nat) (o : TO) : Prop :=
  w.cell? ⟨b, off, none⟩ = some (.int .i64 o.kind) ∧ w.cell? ⟨b, off + 1, none⟩ = some (.string o.key) ∧ w.cell? ⟨b, off + 2, none⟩ = some (.string o.elem) ∧ w.cell? ⟨b, off + 3, none⟩ = some (.int .i64 o.n)
/-- The slice value v reads as the operations. -/
def TOV (w : World) (v : Value) (ops : List TO) : Prop :=
  ∃ A c, v = .slice A ops.length c ∧ ops.length ≤ c ∧ (c ≤ maxLen ∧ (A = Option.none → c = 0)) ∧ ∀ j (hj : j < ops.length), ∃ b off, A = some ⟨b, off, none⟩ ∧ TCell w b (off + j * 4) ops[j]
theorem TCell.gr {w w' : World} {b off : Nat} {o : TO} (h : TCell w b off o) (g : Gr w w') : TCell w' b off o := ⟨g.cell h.1, g.cell h.2.1, g.cell h.2.2.1, g.cell h.2.2.2⟩
theorem TOV.gr {w w' : World} {v : Value} {ops : List TO} (h : TOV w v ops) (g : Gr w w') : TOV w' v ops := by
  obtain ⟨A, c, hv, h1, h2, h3⟩ := h
  refine ⟨A, c, hv, h1, h2, fun j hj => ?_⟩
  obtain ⟨b, off, ha, hc⟩ := h3 j hj
  exact ⟨b, off, ha, hc.gr g⟩
theorem TOV.nil (w : World) : TOV w (.slice none 0 0) [] := ⟨none, 0, rfl, Nat.le_refl _, ⟨Nat.zero_le _, fun _ => rfl⟩, fun j hj => absurd hj (by simp)⟩
theorem tov_form {w : World} {v : Value} {L : List TO} (h : TOV w v L) : ∃ A c, v = .slice A L.length c := by
  obtain ⟨A, c, hv, _⟩ := h
  exact ⟨A, c, hv⟩
def tocell (o : TO) : List Value := [.int .i64 o.kind, .string o.key, .string o.elem, .int .i64 o.n]
theorem tocell_len (o : TO) : (tocell o).length = 4 := rfl
def tocells (ops : List TO) : List Value := ops.flatMap tocell
theorem tocells_len (ops : List TO) : (tocells ops).length = ops.length * 4 := rows_len tocell 4 tocell_len ops
theorem TOV.of_sl {w : World} {v : Value} {ops : List TO} {n : Nat} (h : SL w 4 v n (tocells ops)) : TOV w v ops := by
  obtain ⟨A, c, hv, h1, ⟨h2, h2'⟩, h3, h4⟩ := h
  have hn : ops.length = n := by
    rw [tocells_len] at h3
    omega
  subst hn
  refine ⟨A, c, hv, h1, ⟨h2, h2'⟩, fun j hj => ?_⟩
  have at_ : ∀ r, r < 4 → (tocells ops)[j * 4 + r]? = (tocell ops[j])[r]? := fun r hr => rows_at tocell 4 tocell_len ops j r hj hr
  obtain ⟨b, off, ha, c0⟩ := h4 (j * 4 + 0) _ (at_ 0 (by decide))
  have g : ∀ r u, r < 4 → (tocell ops[j])[r]? = some u → w.cell? ⟨b, off + j * 4 + r, none⟩ = some u := fun r u hr hu => by
    obtain ⟨b', off', ha', c'⟩ := h4 (j * 4 + r) u (by rw [at_ r hr]; exact hu)
    rw [ha] at ha'
    injection ha' with ha'
    injection ha' with e1 e2
    subst e1 e2
    rw [Nat.add_assoc]
    exact c'
  exact ⟨b, off, ha, g 0 _ (by decide) rfl, g 1 _ (by decide) rfl, g 2 _ (by decide) rfl, g 3 _ (by decide) rfl⟩
theorem TOV.sl {w : World} {v : Value} {ops : List TO} (h : TOV w v ops) : SL w 4 v ops.length (tocells ops) := by
  obtain ⟨A, c, hv, h1, h2, h3⟩ := h
  refine ⟨A, c, hv, h1, h2, tocells_len ops, fun j u hj => ?_⟩
  obtain ⟨q, r, hq, hr, rfl, hu⟩ := rows_of tocell 4 tocell_len (by decide) ops j u hj
  obtain ⟨b, off, ha, c0, c1, c2, c3⟩ := h3 q hq
  refine ⟨b, off, ha, ?_⟩
  rw [← Nat.add_assoc]
  match r, hr with
  | 0, _ => injection hu with hu; rw [← hu]; exact c0
  | 1, _ => injection hu with hu; rw [← hu]; exact c1
  | 2, _ => injection hu with hu; rw [← hu]; exact c2
  | 3, _ => injection hu with hu; rw [← hu]; exact c3
theorem infoTOp : (Try.prog.info? 50).map (fun i => (i.zero, i.size, i.bytes)) = some (some (.agg #[.int .i64 0, .string ⟨#[]⟩, .string ⟨#[]⟩, .int .i64 0]), 4, 48) := by kernel_rfl
theorem tocells_one (ops : List TO) : ∀ u ∈ tocells ops, u.oneCell' = true := by
  intro u hu
  obtain ⟨o, _, hu⟩ := List.mem_flatMap.1 hu
  unfold tocell at hu
  simp only [List.mem_cons, List.not_mem_nil, or_false] at hu
  rcases hu with rfl | rfl | rfl | rfl <;> rfl
/-- The call owns the slice v from block B on: it reads as these operations. -/
def TOO (w : World) (B : Nat) (v : Value) (ops : List TO) : Prop := w.ownsRow B 50 4 v ops.length (tocells ops)
theorem TOO.gr {w w' : World} {B : Nat} {v : Value} {ops : List TO} (h : TOO w B v ops) (g : Gr w w') : TOO w' B v ops := own_gr h g
theorem TOO.le {w : World} {B B' : Nat} {v : Value} {ops : List TO} (h : TOO w B v ops) (hb : B' ≤ B) : TOO w B' v ops := own_le h hb
theorem TOO.nil (w : World) (B : Nat) : TOO w B (.slice none 0 0) [] := World.ownsRow_nil w B _ _
theorem TOO.tov {w : World} {B : Nat} {v : Value} {ops : List TO} (h : TOO w B v ops) : TOV w v ops := TOV.of_sl (own_sl h)
theorem TOO.form {w : World} {B : Nat} {v : Value} {ops : List TO} (h : TOO w B v ops) : ∃ A c, v = .slice A ops.length c ∧ ops.length ≤ c ∧ c ≤ 9223372036854775807 := own_form h

theorem fieldsTOp : ∃ f0 f1 f2 f3 : Field, Try.prog.fieldsOf 50 = #[f0, f1, f2, f3] ∧ (f0.name ≠ "_" ∧ f1.name ≠ "_" ∧ f2.name ≠ "_" ∧ f3.name ≠ "_") ∧ (f0.type = 3 ∧ f1.type = 9 ∧ f2.type = 9 ∧ f3.type = 2) ∧ f0.offset = 0 ∧ f1.offset = 1 ∧ f2.offset = 2 ∧ f3.offset = 3 := by
  refine ⟨(Try.prog.fieldsOf 50)[0]'(by decide +kernel), (Try.prog.fieldsOf 50)[1]'(by decide +kernel), (Try.prog.fieldsOf 50)[2]'(by decide +kernel), (Try.prog.fieldsOf 50)[3]'(by decide +kernel), by kernel_rfl, ⟨by decide +kernel, by decide +kernel, by decide +kernel, by decide +kernel⟩, ⟨by kernel_rfl, by kernel_rfl, by kernel_rfl, by kernel_rfl⟩, by kernel_rfl, by kernel_rfl, by kernel_rfl, by kernel_rfl⟩
def tovs (o : TO) : Array Value := #[.int .i64 o.kind, .string o.key, .string o.elem, .int .i64 o.n]
def eqTO (f g : TO) : Bool := (f.kind == g.kind) && (eqS f.key g.key && (eqS f.elem g.elem && (f.n == g.n)))
theorem eqTO_iff {f g : TO} : eqTO f g = true ↔ f = g := by
  unfold eqTO
  rw [Bool.and_eq_true, Bool.and_eq_true, Bool.and_eq_true, eqS_iff, eqS_iff, beq_iff_eq, beq_iff_eq]
  refine ⟨fun ⟨h1, h2, h3, h4⟩ => ?_, fun h => by subst h; exact ⟨rfl, rfl, rfl, rfl⟩⟩
  cases f; cases g
  simp_all
theorem part_to (o : TO) (w : World) : (part 3 (tovs o) 0).run Try.prog w = .ok (.int .i64 o.kind) w ∧ (part 9 (tovs o) 1).run Try.prog w = .ok (.string o.key) w ∧ (part 9 (tovs o) 2).run Try.prog w = .ok (.string o.elem) w ∧ (part 2 (tovs o) 3).run Try.prog w = .ok (.int .i64 o.n) w := by
  refine ⟨?_, ?_, ?_, ?_⟩ <;> (show _ = _; kernel_rfl)
theorem equal_to (f g : TO) (w : World) : (Op.equalIn 10000 50 (.agg (tovs f)) (.agg (tovs g))).run Try.prog w = .ok (eqTO f g) w := by
  obtain ⟨f0, f1, f2, f3, hf, ⟨n0, n1, n2, n3⟩, ⟨t0, t1, t2, t3⟩, o0, o1, o2, o3⟩ := fieldsTOp
  obtain ⟨p0, p1, p2, p3⟩ := part_to f w
  obtain ⟨q0, q1, q2, q3⟩ := part_to g w
  rw [run_equalIn_struct w 9999 _ _ _ (by kernel_rfl) (by kernel_rfl), hf]
  simp only [Op.eqFields, n0, n1, n2, n3, t0, t1, t2, t3, o0, o1, o2, o3, if_true, ne_eq, not_false_eq_true, Sem.run_bind, p0, p1, p2, p3, q0, q1, q2, q3, Result.andThen_ok, run_equalIn_string w 9998 9 _ _ Try.underlying9, run_equalIn_int w 9998 3 _ _ _ _ Try.underlying3, run_equalIn_int w 9998 2 _ _ _ _ Try.underlying2, Sem.run_ite, Sem.run_pure]
  unfold eqTO eqS
  cases (f.key.toList == g.key.toList) <;> cases (f.elem.toList == g.elem.toList) <;> by_cases hk : f.kind = g.kind <;> by_cases hn : f.n = g.n <;> simp [hk, hn]

def tsameB : List TO → List TO → Bool
  | [], [] => true
  | f :: a, g :: b => eqTO f g && tsameB a b
  | _, _ => false
theorem tsameB_iff {La Lb : List TO} : tsameB La Lb = true ↔ La = Lb := by
  induction La generalizing Lb with
  | nil => cases Lb <;> simp [tsameB]
  | cons f a ih =>
    cases Lb with
    | nil => simp [tsameB]
    | cons g b => simp [tsameB, eqTO_iff, ih]
theorem tsameB_yes {La Lb : List TO} (h : La = Lb) : tsameB La Lb = true := tsameB_iff.2 h
theorem tsameB_no {La Lb : List TO} (h : La ≠ Lb) : tsameB La Lb = false := by
  rw [Bool.eq_false_iff]
  exact fun e => h (tsameB_iff.1 e)
def TSameRel (La Lb : List TO) (W : World) (i : Value) (wr : World) : Prop :=
  ∃ k : Nat, k ≤ La.length ∧ i = .int .i64 k ∧ Gr W wr ∧ ∀ j (h1 : j < La.length) (h2 : j < Lb.length), j < k → La[j] = Lb[j]

set_option maxRecDepth 100000 in
set_option maxHeartbeats 1000000 in
/-- slices.Equal of two lists of operations. -/
theorem eqOps_any (va vb : Value) (La Lb : List TO) (w : World) (ha : TOV w va La) (hb : TOV w vb Lb) :
    Calls Try.prog 43 #[va, vb] w fun e w' => e = .returned (.bool (tsameB La Lb)) ∧ Gr w w' := by
  obtain ⟨A, ca, rfl, la1, ⟨la2, _⟩, la3⟩ := ha
  obtain ⟨B, cb, rfl, lb1, ⟨lb2, _⟩, lb3⟩ := hb
  unfold maxLen at la2 lb2
  obtain ⟨n, hn⟩ : ∃ n, n = La.length := ⟨_, rfl⟩
  by_cases hl : La.length = Lb.length
  · have HL := Lib.hid hl
    rw [← hl, ← hn] at lb1
    rw [← hl, ← hn]
    rw [← hn] at la1
    have HN := Lib.hid hn
    have ht : ((n : Int) != (n : Int)) = false := by simp
    have HA := Lib.hid la3
    have HB := Lib.hid lb3
    clear hl hn la3 lb3
    go_enter Try.func43, Try.ntmps43
    go_wp2_with fail
    go_loopw [13] (fun i wr => TSameRel La Lb w i wr) (fun i _ => n - (intOf i).toNat)
    case atStart => exact ⟨0, Nat.zero_le _, rfl, Gr.refl _, fun j _ _ h => absurd h (Nat.not_lt_zero _)⟩
    case round =>
      obtain ⟨k, hk, rfl, hgr, hkk⟩ := hrel
      rw [← HN.out] at hk
      have HK := Lib.hid hkk
      clear hkk
      by_cases hlt : k < n
      · have hkA : k < La.length := by rw [← HN.out]; exact hlt
        have hkB : k < Lb.length := by rw [← HL.out, ← HN.out]; exact hlt
        obtain ⟨b, off, rfl, ha⟩ := HA.out k hkA
        obtain ⟨b', off', rfl, hb⟩ := HB.out k hkB
        obtain ⟨f, hf⟩ : ∃ f, f = La[k] := ⟨_, rfl⟩
        obtain ⟨g, hg⟩ : ∃ g, g = Lb[k] := ⟨_, rfl⟩
        rw [← hf] at ha
        rw [← hg] at hb
        obtain ⟨a0, a1, a2, a3⟩ := ha.gr hgr
        obtain ⟨c0, c1, c2, c3⟩ := hb.gr hgr
        have HG := Lib.hid hgr
        clear ha hb hgr
        have he := fun w => equal_to f g w
        unfold tovs at he
        rcases hq : eqTO f g with _ | _
        · have hne : La ≠ Lb := fun h => by
            subst h
            rw [hf, hg] at hq
            rw [eqTO_iff.2 rfl] at hq
            cases hq
          have HF := Lib.hid (tsameB_no hne)
          rw [hq] at he
          clear hq hf hg hne hkA hkB
          go_wp2_with fail
          go_quiet (fail)
          go_wp2
          go_ret
          exact ⟨by rw [HF.out]; rfl, HG.out.drewN _⟩
        · have hst : ∀ j (h1 : j < La.length) (h2 : j < Lb.length), j < k + 1 → La[j] = Lb[j] := by
            intro j h1 h2 hj
            by_cases e : j = k
            · subst e; rw [← hf, ← hg]; exact eqTO_iff.1 hq
            · exact HK.out j h1 h2 (by omega)
          have HS := Lib.hid hst
          rw [hq] at he
          clear hq hf hg hst hkA hkB
          go_wp2_with fail
          go_quiet (fail)
          go_wp2
          go_roundw
          case rel => exact ⟨k + 1, by rw [← HN.out]; omega, by go_num, HG.out.drewN _, HS.out⟩
          case measure => simp [intOf]; omega
      · have hall : La = Lb := List.ext_getElem HL.out fun j h1 h2 => HK.out j h1 h2 (by rw [← HN.out] at h1; omega)
        have HF := Lib.hid (tsameB_yes hall)
        clear hall
        go_wp2_with fail
        go_ret
        exact ⟨by rw [HF.out]; rfl, hgr⟩
  · have HF := Lib.hid (tsameB_no (La := La) (Lb := Lb) (fun h => hl (by rw [h])))
    have ht : ((La.length : Int) != (Lb.length : Int)) = true := by rw [bne_iff_ne]; omega
    obtain ⟨m, hm⟩ : ∃ m, m = Lb.length := ⟨_, rfl⟩
    rw [← hm] at ht lb1 ⊢
    rw [← hn] at ht la1 ⊢
    clear hl hn hm la3 lb3
    go_enter Try.func43, Try.ntmps43
    go_wp2_with fail
    go_ret
    exact ⟨by rw [HF.out]; rfl, Gr.refl _⟩
end Go.Proofs.Ytjpiemgpbakfaaa
