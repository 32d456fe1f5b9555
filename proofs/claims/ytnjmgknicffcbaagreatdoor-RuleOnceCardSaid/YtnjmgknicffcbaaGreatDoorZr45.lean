/- Walks: the document's Whole, Own; the program's ownID; what fits, both. -/
import Derived.Test.YtnjmgknicffcbaaGreatDoorZr43
namespace Go.Proofs.YtnjmgknicffcbaaGreatDoor
open Go.RowKit Go.Joins
set_option linter.unusedSimpArgs false
set_option linter.unusedVariables false

set_option maxRecDepth 100000 in
theorem ownID_any (m : Int) (s : ByteArray) (hs : s.size ≤ 281474976710656) (w : World) (hp : Laid w) :
    Calls Tryz.prog 118 #[.int .i64 m, .string s] w fun e w' => e = .returned (.bool (ownB m s)) ∧ Gr w w' := by
  have HW := Lib.hid (whole_any s hs w hp)
  cases hw : PV.wholeL s.data.toList with
  | none =>
    rw [hw] at HW
    have HW : Hid (Calls Tryz.prog 149 #[.string s] w fun e w' => e = .returned (.tuple #[.int .i64 0, .bool false]) ∧ Gr w w') := HW
    have HZ : Hid (ownB m s = false) := Lib.hid (by unfold ownB; rw [hw])
    clear hw hp
    go_enter Tryz.func118, Tryz.ntmps118
    go_wp2_with fail
    refine HW.out.mono ?_
    rintro e w1 ⟨rfl, g⟩
    have HG := Lib.hid g
    clear g
    go_wp2_with fail
    go_ret
    exact ⟨by rw [HZ.out]; rfl, HG.out⟩
  | some n =>
    rw [hw] at HW
    have HW : Hid (Calls Tryz.prog 149 #[.string s] w fun e w' => e = .returned (.tuple #[.int .i64 n, .bool true]) ∧ Gr w w') := HW
    obtain ⟨q, hq⟩ : ∃ q, q = decide (n.tmod 8 = m) := ⟨_, rfl⟩
    have eq1 : (n.tmod 8 == m) = q := by rw [int_beqR, hq]
    by_cases h0 : 0 ≤ n
    · have eq2 : (n % 8 == m) = q := by rw [← Int.tmod_eq_emod_of_nonneg h0]; exact eq1
      have HZ : Hid (ownB m s = q) := Lib.hid (by unfold ownB; rw [hw, hq]; simp [h0])
      clear hw hp hq
      go_enter Tryz.func118, Tryz.ntmps118
      go_wp2_with fail
      refine HW.out.mono ?_
      rintro e w1 ⟨rfl, g⟩
      have HG := Lib.hid g
      clear g
      go_wp2_with fail
      go_ret
      exact ⟨by rw [HZ.out]; first | rfl | simp [eq1, eq2], HG.out⟩
    · have h0' : decide (0 ≤ n) = false := decide_eq_false h0
      have HZ : Hid (ownB m s = false) := Lib.hid (by unfold ownB; rw [hw]; simp [h0])
      clear hw hp hq eq1
      go_enter Tryz.func118, Tryz.ntmps118
      go_wp2_with fail
      refine HW.out.mono ?_
      rintro e w1 ⟨rfl, g⟩
      have HG := Lib.hid g
      clear g
      go_wp2_with fail
      go_ret
      exact ⟨by rw [HZ.out]; rfl, HG.out⟩
set_option maxRecDepth 100000 in
set_option maxHeartbeats 2000000 in
theorem fits_any (k op : Int) (w : World) :
    Calls Tryz.prog 69 #[.int .i64 k, .int .i64 op] w fun e w' => e = .returned (.bool (fitsB k op)) ∧ Gr w w' := by
  by_cases k1 : k = 1
  · subst k1
    by_cases o1 : op = 1
    · subst o1
      have HZ : Hid (fitsB 1 1 = true) := Lib.hid (by unfold fitsB; simp)
      go_enter Tryz.func69, Tryz.ntmps69
      go_wp2_with fail
      go_ret
      exact ⟨by rw [HZ.out]; first | rfl | simp, Gr.refl _⟩
    have o1b : (op == 1) = false := by simpa using o1
    by_cases o2 : op = 2
    · subst o2
      have HZ : Hid (fitsB 1 2 = true) := Lib.hid (by unfold fitsB; simp)
      go_enter Tryz.func69, Tryz.ntmps69
      go_wp2_with fail
      go_ret
      exact ⟨by rw [HZ.out]; first | rfl | simp, Gr.refl _⟩
    · have o2b : (op == 2) = false := by simpa using o2
      have HZ : Hid (fitsB 1 op = false) := Lib.hid (by unfold fitsB; simp [o1, o2])
      go_enter Tryz.func69, Tryz.ntmps69
      go_wp2_with fail
      go_ret
      exact ⟨by rw [HZ.out]; first | rfl | simp, Gr.refl _⟩
  by_cases k2 : k = 2
  · subst k2
    by_cases o1 : op = 1
    · subst o1
      have HZ : Hid (fitsB 2 1 = true) := Lib.hid (by unfold fitsB; simp)
      go_enter Tryz.func69, Tryz.ntmps69
      go_wp2_with fail
      go_ret
      exact ⟨by rw [HZ.out]; first | rfl | simp, Gr.refl _⟩
    have o1b : (op == 1) = false := by simpa using o1
    by_cases o2 : op = 2
    · subst o2
      have HZ : Hid (fitsB 2 2 = true) := Lib.hid (by unfold fitsB; simp)
      go_enter Tryz.func69, Tryz.ntmps69
      go_wp2_with fail
      go_ret
      exact ⟨by rw [HZ.out]; first | rfl | simp, Gr.refl _⟩
    have o2b : (op == 2) = false := by simpa using o2
    by_cases o3 : op = 3
    · subst o3
      have HZ : Hid (fitsB 2 3 = true) := Lib.hid (by unfold fitsB; simp)
      go_enter Tryz.func69, Tryz.ntmps69
      go_wp2_with fail
      go_ret
      exact ⟨by rw [HZ.out]; first | rfl | simp, Gr.refl _⟩
    · have o3b : (op == 3) = false := by simpa using o3
      have HZ : Hid (fitsB 2 op = false) := Lib.hid (by unfold fitsB; simp [o1, o2, o3])
      go_enter Tryz.func69, Tryz.ntmps69
      go_wp2_with fail
      go_ret
      exact ⟨by rw [HZ.out]; first | rfl | simp, Gr.refl _⟩
  by_cases k3 : k = 3
  · subst k3
    by_cases o4 : op = 4
    · subst o4
      have HZ : Hid (fitsB 3 4 = true) := Lib.hid (by unfold fitsB; simp)
      go_enter Tryz.func69, Tryz.ntmps69
      go_wp2_with fail
      go_ret
      exact ⟨by rw [HZ.out]; first | rfl | simp, Gr.refl _⟩
    have o4b : (op == 4) = false := by simpa using o4
    by_cases o5 : op = 5
    · subst o5
      have HZ : Hid (fitsB 3 5 = true) := Lib.hid (by unfold fitsB; simp)
      go_enter Tryz.func69, Tryz.ntmps69
      go_wp2_with fail
      go_ret
      exact ⟨by rw [HZ.out]; first | rfl | simp, Gr.refl _⟩
    · have o5b : (op == 5) = false := by simpa using o5
      have HZ : Hid (fitsB 3 op = false) := Lib.hid (by unfold fitsB; simp [o4, o5])
      go_enter Tryz.func69, Tryz.ntmps69
      go_wp2_with fail
      go_ret
      exact ⟨by rw [HZ.out]; first | rfl | simp, Gr.refl _⟩
  by_cases k4 : k = 4
  · subst k4
    by_cases o4 : op = 4
    · subst o4
      have HZ : Hid (fitsB 4 4 = true) := Lib.hid (by unfold fitsB; simp)
      go_enter Tryz.func69, Tryz.ntmps69
      go_wp2_with fail
      go_ret
      exact ⟨by rw [HZ.out]; first | rfl | simp, Gr.refl _⟩
    have o4b : (op == 4) = false := by simpa using o4
    by_cases o5 : op = 5
    · subst o5
      have HZ : Hid (fitsB 4 5 = true) := Lib.hid (by unfold fitsB; simp)
      go_enter Tryz.func69, Tryz.ntmps69
      go_wp2_with fail
      go_ret
      exact ⟨by rw [HZ.out]; first | rfl | simp, Gr.refl _⟩
    · have o5b : (op == 5) = false := by simpa using o5
      have HZ : Hid (fitsB 4 op = false) := Lib.hid (by unfold fitsB; simp [o4, o5])
      go_enter Tryz.func69, Tryz.ntmps69
      go_wp2_with fail
      go_ret
      exact ⟨by rw [HZ.out]; first | rfl | simp, Gr.refl _⟩
  by_cases k5 : k = 5
  · subst k5
    by_cases o6 : op = 6
    · subst o6
      have HZ : Hid (fitsB 5 6 = true) := Lib.hid (by unfold fitsB; simp)
      go_enter Tryz.func69, Tryz.ntmps69
      go_wp2_with fail
      go_ret
      exact ⟨by rw [HZ.out]; first | rfl | simp, Gr.refl _⟩
    · have o6b : (op == 6) = false := by simpa using o6
      have HZ : Hid (fitsB 5 op = false) := Lib.hid (by unfold fitsB; simp [o6])
      go_enter Tryz.func69, Tryz.ntmps69
      go_wp2_with fail
      go_ret
      exact ⟨by rw [HZ.out]; first | rfl | simp, Gr.refl _⟩
  by_cases k6 : k = 6
  · subst k6
    by_cases o6 : op = 6
    · subst o6
      have HZ : Hid (fitsB 6 6 = true) := Lib.hid (by unfold fitsB; simp)
      go_enter Tryz.func69, Tryz.ntmps69
      go_wp2_with fail
      go_ret
      exact ⟨by rw [HZ.out]; first | rfl | simp, Gr.refl _⟩
    · have o6b : (op == 6) = false := by simpa using o6
      have HZ : Hid (fitsB 6 op = false) := Lib.hid (by unfold fitsB; simp [o6])
      go_enter Tryz.func69, Tryz.ntmps69
      go_wp2_with fail
      go_ret
      exact ⟨by rw [HZ.out]; first | rfl | simp, Gr.refl _⟩
  by_cases k7 : k = 7
  · subst k7
    by_cases o7 : op = 7
    · subst o7
      have HZ : Hid (fitsB 7 7 = true) := Lib.hid (by unfold fitsB; simp)
      go_enter Tryz.func69, Tryz.ntmps69
      go_wp2_with fail
      go_ret
      exact ⟨by rw [HZ.out]; first | rfl | simp, Gr.refl _⟩
    have o7b : (op == 7) = false := by simpa using o7
    by_cases o8 : op = 8
    · subst o8
      have HZ : Hid (fitsB 7 8 = true) := Lib.hid (by unfold fitsB; simp)
      go_enter Tryz.func69, Tryz.ntmps69
      go_wp2_with fail
      go_ret
      exact ⟨by rw [HZ.out]; first | rfl | simp, Gr.refl _⟩
    · have o8b : (op == 8) = false := by simpa using o8
      have HZ : Hid (fitsB 7 op = false) := Lib.hid (by unfold fitsB; simp [o7, o8])
      go_enter Tryz.func69, Tryz.ntmps69
      go_wp2_with fail
      go_ret
      exact ⟨by rw [HZ.out]; first | rfl | simp, Gr.refl _⟩
  by_cases k8 : k = 8
  · subst k8
    by_cases o4 : op = 4
    · subst o4
      have HZ : Hid (fitsB 8 4 = true) := Lib.hid (by unfold fitsB; simp)
      go_enter Tryz.func69, Tryz.ntmps69
      go_wp2_with fail
      go_ret
      exact ⟨by rw [HZ.out]; first | rfl | simp, Gr.refl _⟩
    have o4b : (op == 4) = false := by simpa using o4
    by_cases o5 : op = 5
    · subst o5
      have HZ : Hid (fitsB 8 5 = true) := Lib.hid (by unfold fitsB; simp)
      go_enter Tryz.func69, Tryz.ntmps69
      go_wp2_with fail
      go_ret
      exact ⟨by rw [HZ.out]; first | rfl | simp, Gr.refl _⟩
    · have o5b : (op == 5) = false := by simpa using o5
      have HZ : Hid (fitsB 8 op = false) := Lib.hid (by unfold fitsB; simp [o4, o5])
      go_enter Tryz.func69, Tryz.ntmps69
      go_wp2_with fail
      go_ret
      exact ⟨by rw [HZ.out]; first | rfl | simp, Gr.refl _⟩
  have k1b : (k == 1) = false := by simpa using k1
  have k2b : (k == 2) = false := by simpa using k2
  have k3b : (k == 3) = false := by simpa using k3
  have k4b : (k == 4) = false := by simpa using k4
  have k5b : (k == 5) = false := by simpa using k5
  have k6b : (k == 6) = false := by simpa using k6
  have k7b : (k == 7) = false := by simpa using k7
  have k8b : (k == 8) = false := by simpa using k8
  have HZ : Hid (fitsB k op = false) := Lib.hid (by unfold fitsB; simp [k1, k2, k3, k4, k5, k6, k7, k8])
  go_enter Tryz.func69, Tryz.ntmps69
  go_wp2_with fail
  go_ret
  exact ⟨by rw [HZ.out]; first | rfl | simp, Gr.refl _⟩
end Go.Proofs.YtnjmgknicffcbaaGreatDoor
