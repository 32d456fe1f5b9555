/- Walks: prefixes of logs. -/
import Derived.Test.YtmkcgnljankmdaaDoorDiskA
import Derived.Test.YtmkcgnljankmdaaDoorPlainWal
import Derived.WalkSpells
import Derived.WalkLawsBesides
namespace Go.Proofs.YtmkcgnljankmdaaDoor
open Go.RowKit

/-- A letter of a prefix. -/
def lowB (c : Nat) : Bool := decide (97 ≤ c ∧ c ≤ 122)
def prefixB (p : ByteArray) : Bool := decide (1 ≤ p.size ∧ p.size ≤ 8) && p.data.toList.all fun c => lowB c.toNat
theorem prefix_short {p : ByteArray} (h : ¬ (1 ≤ p.size ∧ p.size ≤ 8)) : prefixB p = false := by
  unfold prefixB
  rw [decide_eq_false h]; rfl
theorem prefix_bad {p : ByteArray} {k : Nat} (hk : k < p.size) (h : lowB (p[k]).toNat = false) : prefixB p = false := by
  unfold prefixB
  have : (p.data.toList.all fun c => lowB c.toNat) = false := by
    rw [List.all_eq_false]
    exact ⟨p[k], by rw [ByteArray.getElem_eq_getElem_data]; exact Array.mem_toList_iff.2 (Array.getElem_mem _), by rw [h]; simp⟩
  rw [this, Bool.and_false]
theorem prefix_good {p : ByteArray} (h1 : 1 ≤ p.size ∧ p.size ≤ 8) (h : ∀ k (hk : k < p.size), lowB (p[k]).toNat = true) : prefixB p = true := by
  unfold prefixB
  rw [decide_eq_true h1, Bool.true_and, List.all_eq_true]
  intro c hc
  obtain ⟨i, hi, rfl⟩ := Array.mem_iff_getElem.1 (Array.mem_toList_iff.1 hc)
  exact h i hi
theorem prefix_size {p : ByteArray} (h : prefixB p = true) : 1 ≤ p.size ∧ p.size ≤ 8 := by
  unfold prefixB at h
  rw [Bool.and_eq_true] at h
  exact of_decide_eq_true h.1
theorem lowB_no {c : Nat} (h : lowB c = false) : ¬ (97 ≤ c ∧ c ≤ 122) := of_decide_eq_false h
theorem lowB_yes {c : Nat} (h : lowB c = true) : 97 ≤ c ∧ c ≤ 122 := of_decide_eq_true h

set_option maxRecDepth 100000 in
theorem prefix_any (s : ByteArray) (hs : s.size ≤ 9223372036854775807) (w : World) :
    Calls Tryd.prog 21 #[.string s] w fun e w' => e = .returned (.bool (prefixB s)) ∧ w = w' := by
  by_cases h0 : s.size = 0
  · have he : s.toList = [] := size_empty.2 h0
    have HF := Lib.hid (prefix_short (p := s) (by omega))
    clear h0
    go_enter Tryd.func21, Tryd.ntmps21
    go_wp2_with fail
    go_ret
    exact ⟨by rw [HF.out]; rfl, rfl⟩
  have he : s.toList.isEmpty = false := by
    cases hq : s.toList with
    | nil => exact absurd (size_empty.1 hq) h0
    | cons a b => rfl
  by_cases h32 : 8 < s.size
  · have HF := Lib.hid (prefix_short (p := s) (by omega))
    go_enter Tryd.func21, Tryd.ntmps21
    go_wp2_with fail
    go_ret
    exact ⟨by rw [HF.out]; rfl, rfl⟩
  go_enter Tryd.func21, Tryd.ntmps21
  go_wp2_with fail
  go_loop [13] (fun i => ∃ k : Nat, k ≤ s.size ∧ i = .int .i64 k ∧ Hid (∀ j (hj : j < s.size), j < k → lowB (s[j]).toNat = true)) (fun i => s.size - (intOf i).toNat)
  case atStart => exact ⟨0, Nat.zero_le _, rfl, fun j _ h => absurd h (Nat.not_lt_zero _)⟩
  case round =>
    obtain ⟨k, hk, rfl, hall⟩ := hrel
    by_cases hlt : k < s.size
    · have hb : (s[k]).toNat < 256 := UInt8.toNat_lt _
      rcases hq : lowB (s[k]).toNat with _ | _
      · have hn := lowB_no hq
        have HF := Lib.hid (prefix_bad hlt hq)
        clear hq
        go_wp2_with fail
        all_goals first | (exfalso; omega) | skip
        all_goals go_ret
        all_goals exact ⟨by rw [HF.out]; rfl, rfl⟩
      · have hy := lowB_yes hq
        have HA : Hid (∀ j (hj : j < s.size), j < k + 1 → lowB (s[j]).toNat = true) := by
          intro j hj hjk
          by_cases e : j = k
          · subst e; exact hq
          · exact hall j hj (by omega)
        clear hq
        go_wp2_with fail
        all_goals first | (exfalso; omega) | skip
        all_goals
          go_round
          case rel => exact ⟨k + 1, by omega, by go_num, HA⟩
          case measure => simp [intOf]; omega
    · have HF := Lib.hid (prefix_good (p := s) (by omega) (fun j hj => hall j hj (by omega)))
      go_wp2_with fail
      go_ret
      exact ⟨by rw [HF.out]; rfl, rfl⟩
set_option maxRecDepth 100000 in
theorem rprefix_any (s : ByteArray) (hs : s.size ≤ 9223372036854775807) (w : World) :
    Calls Tryd.prog 26 #[.string s] w fun e w' => e = .returned (.bool (prefixB s)) ∧ w = w' := by
  by_cases h0 : s.size < 1
  · have HF := Lib.hid (prefix_short (p := s) (by omega))
    go_enter Tryd.func26, Tryd.ntmps26
    go_wp2_with fail
    go_ret
    exact ⟨by rw [HF.out]; rfl, rfl⟩
  by_cases h32 : 8 < s.size
  · have HF := Lib.hid (prefix_short (p := s) (by omega))
    go_enter Tryd.func26, Tryd.ntmps26
    go_wp2_with fail
    go_ret
    exact ⟨by rw [HF.out]; rfl, rfl⟩
  go_enter Tryd.func26, Tryd.ntmps26
  go_wp2_with fail
  go_loop [3] (fun i => ∃ k : Nat, k ≤ s.size ∧ i = .int .i64 k ∧ Hid (∀ j (hj : j < s.size), j < k → lowB (s[j]).toNat = true)) (fun i => s.size - (intOf i).toNat)
  case atStart => exact ⟨0, Nat.zero_le _, rfl, fun j _ h => absurd h (Nat.not_lt_zero _)⟩
  case round =>
    obtain ⟨k, hk, rfl, hall⟩ := hrel
    by_cases hlt : k < s.size
    · have hb : (s[k]).toNat < 256 := UInt8.toNat_lt _
      rcases hq : lowB (s[k]).toNat with _ | _
      · have hn := lowB_no hq
        have HF := Lib.hid (prefix_bad hlt hq)
        clear hq
        go_wp2_with fail
        all_goals first | (exfalso; omega) | skip
        all_goals go_ret
        all_goals exact ⟨by rw [HF.out]; rfl, rfl⟩
      · have hy := lowB_yes hq
        have HA : Hid (∀ j (hj : j < s.size), j < k + 1 → lowB (s[j]).toNat = true) := by
          intro j hj hjk
          by_cases e : j = k
          · subst e; exact hq
          · exact hall j hj (by omega)
        clear hq
        go_wp2_with fail
        all_goals first | (exfalso; omega) | skip
        all_goals
          go_round
          case rel => exact ⟨k + 1, by omega, by go_num, HA⟩
          case measure => simp [intOf]; omega
    · have HF := Lib.hid (prefix_good (p := s) (by omega) (fun j hj => hall j hj (by omega)))
      go_wp2_with fail
      go_ret
      exact ⟨by rw [HF.out]; rfl, rfl⟩
end Go.Proofs.YtmkcgnljankmdaaDoor
