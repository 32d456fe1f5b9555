/- Walks over package rule: namesOf, kindOf, where they find. -/
import Derived.Test.YtioldhhnkeakcaaDoorRuC
import Derived.Test.YtioldhhnkeakcaaDoorSV
namespace Go.Proofs.YtioldhhnkeakcaaDoor
open Go.RowKit Go.Joins
set_option linter.unusedSimpArgs false
set_option linter.unusedVariables false

theorem wrap64_le {n : Int} (h0 : -9223372036854775808 ≤ n) (h1 : n ≤ 9223372036854775807) : wrap64 n = n := by unfold wrap64; omega
theorem lines_names : ∀ j, j < 10 → PV.pieces 32 (lineK.getD j ⟨#[]⟩) = names ((j : Int) + 1) := by
  intro j hj
  rw [PV.pieces_eq]
  match j, hj with
  | 0, _ => decide +kernel
  | 1, _ => decide +kernel
  | 2, _ => decide +kernel
  | 3, _ => decide +kernel
  | 4, _ => decide +kernel
  | 5, _ => decide +kernel
  | 6, _ => decide +kernel
  | 7, _ => decide +kernel
  | 8, _ => decide +kernel
  | 9, _ => decide +kernel
theorem lines_size : ∀ j, j < 10 → (lineK.getD j ⟨#[]⟩).size < 4294967281 := by
  intro j hj
  match j, hj with
  | 0, _ => decide
  | 1, _ => decide
  | 2, _ => decide
  | 3, _ => decide
  | 4, _ => decide
  | 5, _ => decide
  | 6, _ => decide
  | 7, _ => decide
  | 8, _ => decide
  | 9, _ => decide
set_option maxRecDepth 100000 in
theorem namesOf_in (j : Nat) (hj : j < 10) (w : World) (hp : Laid w) :
    Calls Tryd.prog 49 #[.int .i64 ((j : Int) + 1)] w fun e w' => e = .returned (.slice (some ⟨w.heap.size, 0, none⟩) (names ((j : Int) + 1)).length (names ((j : Int) + 1)).length) ∧ w' = w.alloc (.cells ((names ((j : Int) + 1)).map Value.string).toArray 9) := by
  have hs := lines_size j hj
  have hn := lines_names j hj
  have hc := hp.lines j hj
  obtain ⟨s, hse⟩ : ∃ s, s = lineK.getD j ⟨#[]⟩ := ⟨_, rfl⟩
  obtain ⟨N, hN⟩ : ∃ N, N = names ((j : Int) + 1) := ⟨_, rfl⟩
  rw [← hse] at hs hn hc
  rw [← hN] at hn ⊢
  have HS := Lib.hid (fun w => split1_any 32 s hs w)
  rw [hn] at HS
  obtain ⟨n, hnl⟩ : ∃ n, n = N.length := ⟨_, rfl⟩
  obtain ⟨cs, hcs⟩ : ∃ cs, cs = (N.map Value.string).toArray := ⟨_, rfl⟩
  rw [← hnl, ← hcs] at HS ⊢
  have t0 : ¬ (j : Int) + 1 < 1 := by omega
  have t1 : ¬ (10 : Int) < (j : Int) + 1 := by omega
  have t2 : wrap64 ((j : Int) + 1 - 1) = (j : Int) := by rw [wrap64_le (by omega) (by omega)]; omega
  have t3 : (0 : Int) ≤ (j : Int) := by omega
  have t4 : (j : Int) < 10 := by omega
  clear hn hse hN hnl hcs hs hp hj
  go_enter Tryd.func49, Tryd.ntmps49
  go_wp2_with fail
  refine (HS.out _).mono ?_
  rintro e w1 ⟨rfl, rfl⟩
  go_wp2_with fail
  go_ret
  exact ⟨rfl, rfl⟩
theorem namesOf_out (k : Int) (hk : ¬ (1 ≤ k ∧ k ≤ 10)) (w : World) :
    Calls Tryd.prog 49 #[.int .i64 k] w fun e w' => e = .returned (.slice none 0 0) ∧ w' = w := by
  by_cases h1 : k < 1
  · go_enter Tryd.func49, Tryd.ntmps49
    go_wp2_with fail
    go_ret
    exact ⟨rfl, rfl⟩
  · have h2 : 10 < k := by omega
    clear hk
    go_enter Tryd.func49, Tryd.ntmps49
    go_wp2_with fail
    go_ret
    exact ⟨rfl, rfl⟩
/-- Strings lie in this block. -/
def SBox (w : World) (b : Nat) (L : List ByteArray) : Prop := w.heap[b]? = some (.cells (L.map Value.string).toArray 9 (0, 0))
theorem SBox.cell {w : World} {b : Nat} {L : List ByteArray} (h : SBox w b L) {j : Nat} (hj : j < L.length) : w.cell? ⟨b, j, none⟩ = some (.string L[j]) :=
  obj_cell h (by simp [hj])
theorem SBox.gr {w w' : World} {b : Nat} {L : List ByteArray} (h : SBox w b L) (g : Gr w w') : SBox w' b L := gr_obj g h
theorem SBox.lt {w : World} {b : Nat} {L : List ByteArray} (h : SBox w b L) : b < w.heap.size := (Array.getElem?_eq_some_iff.1 h).1
theorem SBox.made (w : World) (L : List ByteArray) : SBox (w.alloc (.cells (L.map Value.string).toArray 9)) w.heap.size L := heap_allocR _ _ _
theorem SBox.sv {w : World} {b : Nat} {L : List ByteArray} (h : SBox w b L) (hl : L.length ≤ maxLen) : SV w (.slice (some ⟨b, 0, none⟩) L.length L.length) L :=
  ⟨_, L.length, rfl, Nat.le_refl _, ⟨hl, fun e => by cases e⟩, fun j hj => ⟨b, 0, rfl, by rw [Nat.zero_add]; exact h.cell hj⟩⟩
/-- The names of any kind: nil of none. -/
theorem namesOf_any (k : Int) (w : World) (hp : Laid w) :
    Calls Tryd.prog 49 #[.int .i64 k] w fun e w' => ∃ v, e = .returned v ∧ SV w' v (names k) ∧ Gr w w' := by
  by_cases h : 1 ≤ k ∧ k ≤ 10
  · obtain ⟨j, rfl⟩ : ∃ j : Nat, k = (j : Int) + 1 := ⟨(k - 1).toNat, by omega⟩
    refine (namesOf_in j (by omega) w hp).mono ?_
    rintro e w' ⟨he, rfl⟩
    refine ⟨_, he, (SBox.made w _).sv ?_, (Gr.refl _).alloc _⟩
    have : ∀ k : Int, (names k).length ≤ 4 := fun k => by
      by_cases h : 1 ≤ k ∧ k ≤ 10
      · rcases k_cases h with rfl | rfl | rfl | rfl | rfl | rfl | rfl | rfl | rfl | rfl <;> decide
      · rw [names_out h]; decide
    have := this ((j : Int) + 1)
    unfold maxLen; omega
  · refine (namesOf_out k h w).mono ?_
    rintro e w' ⟨he, rfl⟩
    exact ⟨_, he, by rw [names_out h]; exact SV.nil _, Gr.refl _⟩
theorem heads_inj : ∀ i : Nat, i < 10 → ∀ j : Nat, j < 10 → (names ((i : Int) + 1)).headD ⟨#[]⟩ = (names ((j : Int) + 1)).headD ⟨#[]⟩ → i = j := by decide +kernel
theorem names_pos (j : Nat) (hj : j < 10) : 0 < (names ((j : Int) + 1)).length := List.length_pos_iff.2 (names_in (by omega))
theorem head_getR {L : List ByteArray} (h : 0 < L.length) : L[0] = L.headD ⟨#[]⟩ := by
  cases L with
  | nil => exact absurd h (Nat.not_lt_zero _)
  | cons a r => rfl
set_option maxRecDepth 100000 in
set_option maxHeartbeats 1000000 in
theorem kindOf_in (q : Nat) (hq : q < 10) (w : World) (hp : Laid w) :
    Calls Tryd.prog 48 #[.string ((names ((q : Int) + 1)).headD ⟨#[]⟩)] w fun e w' => e = .returned (.int .i64 ((q : Int) + 1)) ∧ Gr w w' := by
  obtain ⟨x, hx⟩ : ∃ x, x = (names ((q : Int) + 1)).headD ⟨#[]⟩ := ⟨_, rfl⟩
  rw [← hx]
  have HX := Lib.hid hx
  have HP := Lib.hid hp
  clear hx hp
  go_enter Tryd.func48, Tryd.ntmps48
  go_wp2_with fail
  go_loopw [3] (fun i wr => ∃ j : Nat, j ≤ q ∧ i = .int .i64 ((j : Int) + 1) ∧ Gr w wr) (fun i _ => 12 - (intOf i).toNat)
  case atStart => exact ⟨0, Nat.zero_le _, rfl, Gr.refl _⟩
  case round =>
    obtain ⟨j, hj, rfl, hgr⟩ := hrel
    have HG := Lib.hid hgr
    have hj10 : j < 10 := by omega
    have HN := Lib.hid (namesOf_in j hj10 wr (HP.out.gr hgr))
    obtain ⟨N, hN⟩ : ∃ N, N = names ((j : Int) + 1) := ⟨_, rfl⟩
    rw [← hN] at HN
    have hpos : 0 < N.length := by rw [hN]; exact names_pos j hj10
    obtain ⟨y, hy⟩ : ∃ y, y = N.headD ⟨#[]⟩ := ⟨_, rfl⟩
    have hc : (wr.alloc (.cells (N.map Value.string).toArray 9)).cell? ⟨wr.heap.size, 0, none⟩ = some (.string y) := by
      rw [hy, ← head_getR hpos]
      exact (SBox.made wr N).cell hpos
    have HG2 := Lib.hid (hgr.alloc (.cells (N.map Value.string).toArray 9))
    obtain ⟨w2, hw2⟩ : ∃ w2, w2 = wr.alloc (.cells (N.map Value.string).toArray 9) := ⟨_, rfl⟩
    rw [← hw2] at HN hc HG2
    obtain ⟨n, hn⟩ : ∃ n, n = N.length := ⟨_, rfl⟩
    rw [← hn] at HN hpos
    have t0 : (j : Int) + 1 ≤ 10 := by omega
    have t1 : (0 : Int) < (n : Int) := by omega
    obtain ⟨z, hz⟩ : ∃ z, z = eqS y x := ⟨_, rfl⟩
    have hze : (y.toList == x.toList) = z := hz.symm
    have HZ : Hid (z = decide (j = q)) := Lib.hid (by
      rw [hz, eqS_dec, hy, HX.out, hN]
      by_cases e : j = q
      · subst e; simp
      · rw [decide_eq_false (p := j = q) e]
        exact decide_eq_false fun c => e (heads_inj j hj10 q hq c))
    clear hgr hy hz hw2 hn hN
    go_wp2_with fail
    refine HN.out.mono ?_
    rintro e w1 ⟨rfl, rfl⟩
    rcases z with _ | _
    · have HJ : Hid (j ≠ q) := Lib.hid (fun e => by have := HZ.out; rw [decide_eq_true e] at this; cases this)
      have t2 : wrap64 ((j : Int) + 1 + 1) = (j : Int) + 1 + 1 := wrap64_le (by omega) (by omega)
      go_wp2_with fail
      go_roundw
      case rel =>
        have := HJ.out
        exact ⟨j + 1, by omega, by congr 1, HG2.out⟩
      case measure => simp [intOf]; omega
    · have HJ : Hid (j = q) := Lib.hid (of_decide_eq_true HZ.out.symm)
      go_wp2_with fail
      go_ret
      exact ⟨by have := HJ.out; subst this; rfl, HG2.out⟩
end Go.Proofs.YtioldhhnkeakcaaDoor
