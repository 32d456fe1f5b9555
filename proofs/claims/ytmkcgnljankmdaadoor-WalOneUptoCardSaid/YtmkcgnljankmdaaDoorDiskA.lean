/- Walks: names, a string's copy, beginnings. -/
import Derived.Test.YtmkcgnljankmdaaDoorBase
import Derived.Test.YtmkcgnljankmdaaDoorPlainDisk
import Derived.Test.YtmkcgnljankmdaaDoorLibC
import Derived.Test.YtmkcgnljankmdaaDoorCln
import Derived.Lib.Hide
import Derived.Lib.Strings
namespace Go.Proofs.YtmkcgnljankmdaaDoor
open Go.RowKit

theorem nbN_eq {c : Nat} {b : Bool} (h : b = true ↔ (97 ≤ c ∧ c ≤ 122) ∨ (48 ≤ c ∧ c ≤ 57) ∨ c = 46) : Ending.returned (.bool b) = .returned (.bool (nbN c)) := by
  have : b = nbN c := by
    unfold nbN
    rw [Bool.eq_iff_iff, h, decide_eq_true_iff]
  rw [this]
theorem nameOk_size (s : ByteArray) : nameOk s = (decide (1 ≤ s.size ∧ s.size ≤ 32) && s.data.toList.all fun c => nbN c.toNat) := by
  unfold nameOk nameL
  rw [Array.length_toList]
  rfl
theorem nameOk_short {s : ByteArray} (h : ¬ (1 ≤ s.size ∧ s.size ≤ 32)) : nameOk s = false := by
  rw [nameOk_size, decide_eq_false h]; rfl
theorem nameOk_bad {s : ByteArray} {k : Nat} (hk : k < s.size) (h : nbN (s[k]).toNat = false) : nameOk s = false := by
  rw [nameOk_size]
  have : (s.data.toList.all fun c => nbN c.toNat) = false := by
    rw [List.all_eq_false]
    exact ⟨s[k], by rw [ByteArray.getElem_eq_getElem_data]; exact Array.mem_toList_iff.2 (Array.getElem_mem _), by rw [h]; simp⟩
  rw [this, Bool.and_false]
theorem nameOk_good {s : ByteArray} (h1 : 1 ≤ s.size ∧ s.size ≤ 32) (h : ∀ k (hk : k < s.size), nbN (s[k]).toNat = true) : nameOk s = true := by
  rw [nameOk_size, decide_eq_true h1, Bool.true_and, List.all_eq_true]
  intro c hc
  obtain ⟨i, hi, rfl⟩ := Array.mem_iff_getElem.1 (Array.mem_toList_iff.1 hc)
  exact h i hi
theorem size_empty {s : ByteArray} : s.toList = [] ↔ s.size = 0 := by
  rw [ByteArray.toList_eq, ← List.length_eq_zero_iff, Array.length_toList]; rfl

theorem nbN_no {c : Nat} (h : nbN c = false) : ¬ ((97 ≤ c ∧ c ≤ 122) ∨ (48 ≤ c ∧ c ≤ 57) ∨ c = 46) := of_decide_eq_false h
theorem nbN_yes {c : Nat} (h : nbN c = true) : (97 ≤ c ∧ c ≤ 122) ∨ (48 ≤ c ∧ c ≤ 57) ∨ c = 46 := of_decide_eq_true h
set_option maxRecDepth 100000 in
theorem rname_any (s : ByteArray) (hs : s.size ≤ 9223372036854775807) (w : World) :
    Calls Tryd.prog 41 #[.string s] w fun e w' => e = .returned (.bool (nameOk s)) ∧ w = w' := by
  by_cases h0 : s.size < 1
  · have HF := Lib.hid (nameOk_short (s := s) (by omega))
    go_enter Tryd.func41, Tryd.ntmps41
    go_wp2_with fail
    go_ret
    exact ⟨by rw [HF.out]; rfl, rfl⟩
  by_cases h32 : 32 < s.size
  · have HF := Lib.hid (nameOk_short (s := s) (by omega))
    go_enter Tryd.func41, Tryd.ntmps41
    go_wp2_with fail
    go_ret
    exact ⟨by rw [HF.out]; rfl, rfl⟩
  go_enter Tryd.func41, Tryd.ntmps41
  go_wp2_with fail
  go_loop [3] (fun i => ∃ k : Nat, k ≤ s.size ∧ i = .int .i64 k ∧ Hid (∀ j (hj : j < s.size), j < k → nbN (s[j]).toNat = true)) (fun i => s.size - (intOf i).toNat)
  case atStart => exact ⟨0, Nat.zero_le _, rfl, fun j _ h => absurd h (Nat.not_lt_zero _)⟩
  case round =>
    obtain ⟨k, hk, rfl, hall⟩ := hrel
    by_cases hlt : k < s.size
    · have hb : (s[k]).toNat < 256 := UInt8.toNat_lt _
      rcases hq : nbN (s[k]).toNat with _ | _
      · have hn := nbN_no hq
        have HF := Lib.hid (nameOk_bad hlt hq)
        have h46 : (((s[k]).toNat : Int) != 46) = true := by rw [bne_iff_ne]; omega
        clear hq
        go_wp2_with fail
        all_goals first | (exfalso; omega) | skip
        all_goals go_ret
        all_goals exact ⟨by rw [HF.out]; rfl, rfl⟩
      · have hy := nbN_yes hq
        have HA : Hid (∀ j (hj : j < s.size), j < k + 1 → nbN (s[j]).toNat = true) := by
          intro j hj hjk
          by_cases e : j = k
          · subst e; exact hq
          · exact hall j hj (by omega)
        clear hq
        go_wp2_with fail
        all_goals first | (exfalso; omega) | skip
        all_goals
          go_round
          case rel => exact ⟨k + 1, by omega, by go_num, HA⟩
          case measure => simp [intOf]; omega
    · have HF := Lib.hid (nameOk_good (s := s) (by omega) (fun j hj => hall j hj (by omega)))
      go_wp2_with fail
      go_ret
      exact ⟨by rw [HF.out]; rfl, rfl⟩
end Go.Proofs.YtmkcgnljankmdaaDoor
