/- Walks: names, a string's copy, beginnings. -/
import Derived.Test.YtonlplfjiaejhaaBase
import Derived.Test.YtonlplfjiaejhaaPlainDisk
import Derived.Test.YtonlplfjiaejhaaLibC
import Derived.Lib.Hide
import Derived.Lib.Strings
namespace Go.Proofs.Ytonlplfjiaejhaa
open Go.RowKit

theorem nbN_eq {c : Nat} {b : Bool} (h : b = true ↔ (97 ≤ c ∧ c ≤ 122) ∨ (48 ≤ c ∧ c ≤ 57) ∨ c = 46) : Ending.returned (.bool b) = .returned (.bool (nbN c)) := by
  have : b = nbN c := by
    unfold nbN
    rw [Bool.eq_iff_iff, h, decide_eq_true_iff]
  rw [this]
theorem nameByte_any (c : Nat) (hc : c < 256) (w : World) :
    Calls Try.prog 23 #[.int .u8 c] w fun e w' => e = .returned (.bool (nbN c)) ∧ w = w' := by
  go_enter Try.func23, Try.ntmps23
  go_wp2
  all_goals go_ret
  all_goals exact ⟨nbN_eq (by simp; omega), rfl⟩

theorem clone_any (s : ByteArray) (hs : s.size ≤ 281474976710656) (w : World) :
    Calls Try.prog 30 #[.string s] w fun e w' => e = .returned (.string s) ∧ Gr w w' := by
  have H := Lib.hid (fun w => clone_lib s w hs)
  go_enter Try.func30, Try.ntmps30
  go_wp2_with fail
  refine (H.out _).mono ?_
  rintro e w1 ⟨rfl, g⟩
  go_wp2
  go_ret
  exact ⟨rfl, g⟩

theorem nameOk_size (s : ByteArray) : nameOk s = (decide (1 ≤ s.size ∧ s.size ≤ 32) && s.data.toList.all fun c => nbN c.toNat) := by
  unfold nameOk nameL
  rw [Array.length_toList]
  rfl
theorem nameOk_short {s : ByteArray} (h : ¬ (1 ≤ s.size ∧ s.size ≤ 32)) : nameOk s = false := by
  rw [nameOk_size, decide_eq_false h]; rfl
theorem nameOk_bad {s : ByteArray} {k : Nat} (hk : k < s.size) (h : nbN (s[k]).toNat = false) : nameOk s = false := by
  rw [nameOk_size]
  have : (s.data.toList.all fun c => nbN c.toNat) = false := by
    rw [List.all_eq_false]
    exact ⟨s[k], by rw [ByteArray.getElem_eq_getElem_data]; exact Array.mem_toList_iff.2 (Array.getElem_mem _), by rw [h]; simp⟩
  rw [this, Bool.and_false]
theorem nameOk_good {s : ByteArray} (h1 : 1 ≤ s.size ∧ s.size ≤ 32) (h : ∀ k (hk : k < s.size), nbN (s[k]).toNat = true) : nameOk s = true := by
  rw [nameOk_size, decide_eq_true h1, Bool.true_and, List.all_eq_true]
  intro c hc
  obtain ⟨i, hi, rfl⟩ := Array.mem_iff_getElem.1 (Array.mem_toList_iff.1 hc)
  exact h i hi
theorem size_empty {s : ByteArray} : s.toList = [] ↔ s.size = 0 := by
  rw [ByteArray.toList_eq, ← List.length_eq_zero_iff, Array.length_toList]; rfl

set_option maxRecDepth 100000 in
theorem name_any (s : ByteArray) (hs : s.size ≤ 9223372036854775807) (w : World) :
    Calls Try.prog 10 #[.string s] w fun e w' => e = .returned (.bool (nameOk s)) ∧ w = w' := by
  by_cases h0 : s.size = 0
  · have he : s.toList = [] := size_empty.2 h0
    have HF := Lib.hid (nameOk_short (s := s) (by omega))
    clear h0
    go_enter Try.func10, Try.ntmps10
    go_wp2_with fail
    go_ret
    exact ⟨by rw [HF.out]; rfl, rfl⟩
  have he : s.toList.isEmpty = false := by
    cases hq : s.toList with
    | nil => exact absurd (size_empty.1 hq) h0
    | cons a b => rfl
  by_cases h32 : 32 < s.size
  · have HF := Lib.hid (nameOk_short (s := s) (by omega))
    go_enter Try.func10, Try.ntmps10
    go_wp2_with fail
    go_ret
    exact ⟨by rw [HF.out]; rfl, rfl⟩
  go_enter Try.func10, Try.ntmps10
  go_wp2_with fail
  go_loop [13] (fun i => ∃ k : Nat, k ≤ s.size ∧ i = .int .i64 k ∧ Hid (∀ j (hj : j < s.size), j < k → nbN (s[j]).toNat = true)) (fun i => s.size - (intOf i).toNat)
  case atStart => exact ⟨0, Nat.zero_le _, rfl, fun j _ h => absurd h (Nat.not_lt_zero _)⟩
  case round =>
    obtain ⟨k, hk, rfl, hall⟩ := hrel
    by_cases hlt : k < s.size
    · have hb : (s[k]).toNat < 256 := UInt8.toNat_lt _
      have H1 := Lib.hid (nameByte_any (s[k]).toNat hb)
      rcases hq : nbN (s[k]).toNat with _ | _
      · rw [hq] at H1
        have HF := Lib.hid (nameOk_bad hlt hq)
        clear hq hb
        go_wp2_with fail
        refine (H1.out _).mono ?_
        rintro e w1 ⟨rfl, rfl⟩
        go_wp2_with fail
        go_ret
        exact ⟨by rw [HF.out]; rfl, rfl⟩
      · rw [hq] at H1
        have HA : Hid (∀ j (hj : j < s.size), j < k + 1 → nbN (s[j]).toNat = true) := by
          intro j hj hjk
          by_cases e : j = k
          · subst e; exact hq
          · exact hall j hj (by omega)
        clear hq hb
        go_wp2_with fail
        refine (H1.out _).mono ?_
        rintro e w1 ⟨rfl, rfl⟩
        go_wp2_with fail
        go_round
        case rel => exact ⟨k + 1, by omega, by go_num, HA⟩
        case measure => simp [intOf]; omega
    · have HF := Lib.hid (nameOk_good (s := s) (by omega) (fun j hj => hall j hj (by omega)))
      go_wp2_with fail
      go_ret
      exact ⟨by rw [HF.out]; rfl, rfl⟩

theorem nbN_no {c : Nat} (h : nbN c = false) : ¬ ((97 ≤ c ∧ c ≤ 122) ∨ (48 ≤ c ∧ c ≤ 57) ∨ c = 46) := of_decide_eq_false h
theorem nbN_yes {c : Nat} (h : nbN c = true) : (97 ≤ c ∧ c ≤ 122) ∨ (48 ≤ c ∧ c ≤ 57) ∨ c = 46 := of_decide_eq_true h
set_option maxRecDepth 100000 in
theorem rname_any (s : ByteArray) (hs : s.size ≤ 9223372036854775807) (w : World) :
    Calls Try.prog 11 #[.string s] w fun e w' => e = .returned (.bool (nameOk s)) ∧ w = w' := by
  by_cases h0 : s.size < 1
  · have HF := Lib.hid (nameOk_short (s := s) (by omega))
    go_enter Try.func11, Try.ntmps11
    go_wp2_with fail
    go_ret
    exact ⟨by rw [HF.out]; rfl, rfl⟩
  by_cases h32 : 32 < s.size
  · have HF := Lib.hid (nameOk_short (s := s) (by omega))
    go_enter Try.func11, Try.ntmps11
    go_wp2_with fail
    go_ret
    exact ⟨by rw [HF.out]; rfl, rfl⟩
  go_enter Try.func11, Try.ntmps11
  go_wp2_with fail
  go_loop [3] (fun i => ∃ k : Nat, k ≤ s.size ∧ i = .int .i64 k ∧ Hid (∀ j (hj : j < s.size), j < k → nbN (s[j]).toNat = true)) (fun i => s.size - (intOf i).toNat)
  case atStart => exact ⟨0, Nat.zero_le _, rfl, fun j _ h => absurd h (Nat.not_lt_zero _)⟩
  case round =>
    obtain ⟨k, hk, rfl, hall⟩ := hrel
    by_cases hlt : k < s.size
    · have hb : (s[k]).toNat < 256 := UInt8.toNat_lt _
      rcases hq : nbN (s[k]).toNat with _ | _
      · have hn := nbN_no hq
        have HF := Lib.hid (nameOk_bad hlt hq)
        have h46 : (((s[k]).toNat : Int) != 46) = true := by rw [bne_iff_ne]; omega
        clear hq
        go_wp2_with fail
        all_goals first | (exfalso; omega) | skip
        all_goals go_ret
        all_goals exact ⟨by rw [HF.out]; rfl, rfl⟩
      · have hy := nbN_yes hq
        have HA : Hid (∀ j (hj : j < s.size), j < k + 1 → nbN (s[j]).toNat = true) := by
          intro j hj hjk
          by_cases e : j = k
          · subst e; exact hq
          · exact hall j hj (by omega)
        clear hq
        go_wp2_with fail
        all_goals first | (exfalso; omega) | skip
        all_goals
          go_round
          case rel => exact ⟨k + 1, by omega, by go_num, HA⟩
          case measure => simp [intOf]; omega
    · have HF := Lib.hid (nameOk_good (s := s) (by omega) (fun j hj => hall j hj (by omega)))
      go_wp2_with fail
      go_ret
      exact ⟨by rw [HF.out]; rfl, rfl⟩
end Go.Proofs.Ytonlplfjiaejhaa
