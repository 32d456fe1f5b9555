/- Walks: which keys, members' words, operations may be: the program's and the document's. -/
import Derived.Test.YtnjmgknicffcbaaGreatDoorZr02
namespace Go.Proofs.YtnjmgknicffcbaaGreatDoor
open Go.RowKit

/-- A letter of a key. -/
def keyC (c : Nat) : Bool := decide ((97 ≤ c ∧ c ≤ 122) ∨ (48 ≤ c ∧ c ≤ 57) ∨ c = 47)
def keyS (p : ByteArray) : Bool := decide (1 ≤ p.size ∧ p.size ≤ 32) && p.data.toList.all fun c => keyC c.toNat
theorem keyS_short {p : ByteArray} (h : ¬ (1 ≤ p.size ∧ p.size ≤ 32)) : keyS p = false := by
  unfold keyS
  rw [decide_eq_false h]; rfl
theorem keyS_bad {p : ByteArray} {k : Nat} (hk : k < p.size) (h : keyC (p[k]).toNat = false) : keyS p = false := by
  unfold keyS
  have : (p.data.toList.all fun c => keyC c.toNat) = false := by
    rw [List.all_eq_false]
    exact ⟨p[k], by rw [ByteArray.getElem_eq_getElem_data]; exact Array.mem_toList_iff.2 (Array.getElem_mem _), by rw [h]; simp⟩
  rw [this, Bool.and_false]
theorem keyS_good {p : ByteArray} (h1 : 1 ≤ p.size ∧ p.size ≤ 32) (h : ∀ k (hk : k < p.size), keyC (p[k]).toNat = true) : keyS p = true := by
  unfold keyS
  rw [decide_eq_true h1, Bool.true_and, List.all_eq_true]
  intro c hc
  obtain ⟨i, hi, rfl⟩ := Array.mem_iff_getElem.1 (Array.mem_toList_iff.1 hc)
  exact h i hi
theorem keyS_size {p : ByteArray} (h : keyS p = true) : 1 ≤ p.size ∧ p.size ≤ 32 := by
  unfold keyS at h
  rw [Bool.and_eq_true] at h
  exact of_decide_eq_true h.1
theorem keyC_no {c : Nat} (h : keyC c = false) : ¬ ((97 ≤ c ∧ c ≤ 122) ∨ (48 ≤ c ∧ c ≤ 57) ∨ c = 47) := of_decide_eq_false h
theorem keyC_yes {c : Nat} (h : keyC c = true) : (97 ≤ c ∧ c ≤ 122) ∨ (48 ≤ c ∧ c ≤ 57) ∨ c = 47 := of_decide_eq_true h
theorem toList_nil_iff {x : ByteArray} : x.toList = [] ↔ x.size = 0 := by
  rw [ByteArray.toList_eq, List.eq_nil_iff_length_eq_zero, Array.length_toList]
  rfl
theorem toList_nil {x : ByteArray} (h : x.size = 0) : x.toList = [] := toList_nil_iff.2 h
theorem toList_some {x : ByteArray} (h : ¬ x.size = 0) : x.toList.isEmpty = false := by
  cases hq : x.toList with
  | nil => exact absurd (toList_nil_iff.1 hq) h
  | cons a b => rfl

set_option maxRecDepth 100000 in
theorem keyByte_any (c : Nat) (hc : c < 256) (w : World) :
    Calls Tryz.prog 161 #[.int .u8 (c : Int)] w fun e w' => e = .returned (.bool (keyC c)) ∧ w = w' := by
  rcases hq : keyC c with _ | _
  · have hn := keyC_no hq
    clear hq
    have t : ((c : Int) == 47) = false := int_beq_f (by omega)
    go_enter Tryz.func161, Tryz.ntmps161
    go_wp2_with fail
    all_goals first | (exfalso; omega) | skip
    all_goals go_ret
    all_goals first | (refine ⟨?_, rfl⟩; simp; omega) | exact ⟨rfl, rfl⟩
  · have hy := keyC_yes hq
    clear hq
    by_cases h1 : 97 ≤ c
    · have h2 : c ≤ 122 := by omega
      have e1 : decide ((97 : Int) ≤ (c : Int)) = true := decide_eq_true (by omega)
      have e2 : decide ((c : Int) ≤ 122) = true := decide_eq_true (by omega)
      clear hy
      go_enter Tryz.func161, Tryz.ntmps161
      go_wp2_with fail
      all_goals first | (exfalso; omega) | skip
      all_goals go_ret
      all_goals exact ⟨rfl, rfl⟩
    · by_cases h3 : 48 ≤ c
      · have h4 : c ≤ 57 := by omega
        have e2 : decide ((c : Int) ≤ 57) = true := decide_eq_true (by omega)
        clear hy
        go_enter Tryz.func161, Tryz.ntmps161
        go_wp2_with fail
        all_goals first | (exfalso; omega) | skip
        all_goals go_ret
        all_goals exact ⟨rfl, rfl⟩
      · obtain rfl : c = 47 := by omega
        clear hy h1 h3
        go_enter Tryz.func161, Tryz.ntmps161
        go_wp2_with fail
        all_goals go_ret
        all_goals exact ⟨rfl, rfl⟩
set_option maxRecDepth 100000 in
theorem key8_any (s : ByteArray) (hs : s.size ≤ 9223372036854775807) (w : World) :
    Calls Tryz.prog 135 #[.string s] w fun e w' => e = .returned (.bool (keyS s)) ∧ w = w' := by
  by_cases h0 : s.size = 0
  · have he : s.toList = [] := toList_nil h0
    have HF := Lib.hid (keyS_short (p := s) (by omega))
    clear h0
    go_enter Tryz.func135, Tryz.ntmps135
    go_wp2_with fail
    go_ret
    exact ⟨by rw [HF.out]; rfl, rfl⟩
  have he : s.toList.isEmpty = false := toList_some h0
  by_cases h32 : 32 < s.size
  · have HF := Lib.hid (keyS_short (p := s) (by omega))
    go_enter Tryz.func135, Tryz.ntmps135
    go_wp2_with fail
    go_ret
    exact ⟨by rw [HF.out]; rfl, rfl⟩
  go_enter Tryz.func135, Tryz.ntmps135
  go_wp2_with fail
  go_loopw [13] (fun i wr => wr = w ∧ ∃ k : Nat, k ≤ s.size ∧ i = .int .i64 k ∧ Hid (∀ j (hj : j < s.size), j < k → keyC (s[j]).toNat = true)) (fun i _ => s.size - (intOf i).toNat)
  case atStart => exact ⟨rfl, 0, Nat.zero_le _, rfl, fun j _ h => absurd h (Nat.not_lt_zero _)⟩
  case round =>
    obtain ⟨rfl, k, hk, rfl, hall⟩ := hrel
    by_cases hlt : k < s.size
    · have hb : (s[k]).toNat < 256 := UInt8.toNat_lt _
      have h1 := keyByte_any (s[k]).toNat hb wr
      rcases hq : keyC (s[k]).toNat with _ | _
      · rw [hq] at h1
        have HF := Lib.hid (keyS_bad hlt hq)
        have H1 := Lib.hid h1
        clear hq h1
        go_wp2_with fail
        refine H1.out.mono ?_
        rintro e w1 ⟨rfl, rfl⟩
        go_wp2_with fail
        go_ret
        exact ⟨by rw [HF.out]; rfl, rfl⟩
      · have HA : Hid (∀ j (hj : j < s.size), j < k + 1 → keyC (s[j]).toNat = true) := by
          intro j hj hjk
          by_cases e : j = k
          · subst e; exact hq
          · exact hall j hj (by omega)
        rw [hq] at h1
        have H1 := Lib.hid h1
        clear hq h1
        go_wp2_with fail
        refine H1.out.mono ?_
        rintro e w1 ⟨rfl, rfl⟩
        go_wp2_with fail
        go_roundw
        case rel => exact ⟨by trivial, k + 1, by omega, by go_num, HA⟩
        case measure => simp [intOf]; omega
    · have HF := Lib.hid (keyS_good (p := s) (by omega) (fun j hj => hall j hj (by omega)))
      go_wp2_with fail
      go_ret
      exact ⟨by rw [HF.out]; rfl, rfl⟩
set_option maxRecDepth 100000 in
theorem rkey8_any (s : ByteArray) (hs : s.size ≤ 9223372036854775807) (w : World) :
    Calls Tryz.prog 85 #[.string s] w fun e w' => e = .returned (.bool (keyS s)) ∧ w = w' := by
  by_cases h0 : s.size < 1
  · have HF := Lib.hid (keyS_short (p := s) (by omega))
    go_enter Tryz.func85, Tryz.ntmps85
    go_wp2_with fail
    go_ret
    exact ⟨by rw [HF.out]; rfl, rfl⟩
  by_cases h32 : 32 < s.size
  · have HF := Lib.hid (keyS_short (p := s) (by omega))
    go_enter Tryz.func85, Tryz.ntmps85
    go_wp2_with fail
    go_ret
    exact ⟨by rw [HF.out]; rfl, rfl⟩
  go_enter Tryz.func85, Tryz.ntmps85
  go_wp2_with fail
  go_loop [3] (fun i => ∃ k : Nat, k ≤ s.size ∧ i = .int .i64 k ∧ Hid (∀ j (hj : j < s.size), j < k → keyC (s[j]).toNat = true)) (fun i => s.size - (intOf i).toNat)
  case atStart => exact ⟨0, Nat.zero_le _, rfl, fun j _ h => absurd h (Nat.not_lt_zero _)⟩
  case round =>
    obtain ⟨k, hk, rfl, hall⟩ := hrel
    by_cases hlt : k < s.size
    · have hb : (s[k]).toNat < 256 := UInt8.toNat_lt _
      rcases hq : keyC (s[k]).toNat with _ | _
      · have hn := keyC_no hq
        have t : ((s[k].toNat : Int) != 47) = true := int_bne_t (by omega)
        have HF := Lib.hid (keyS_bad hlt hq)
        clear hq
        go_wp2_with fail
        all_goals first | (exfalso; omega) | skip
        all_goals go_ret
        all_goals exact ⟨by rw [HF.out]; rfl, rfl⟩
      · have hy := keyC_yes hq
        have HA : Hid (∀ j (hj : j < s.size), j < k + 1 → keyC (s[j]).toNat = true) := by
          intro j hj hjk
          by_cases e : j = k
          · subst e; exact hq
          · exact hall j hj (by omega)
        clear hq
        by_cases h47 : s[k].toNat = 47
        · have t : ((s[k].toNat : Int) != 47) = false := int_bne_f (by omega)
          go_wp2_with fail
          all_goals first | (exfalso; omega) | skip
          all_goals
            go_round
            case rel => exact ⟨k + 1, by omega, by go_num, HA⟩
            case measure => simp [intOf]; omega
        · have t : ((s[k].toNat : Int) != 47) = true := int_bne_t (by omega)
          go_wp2_with fail
          all_goals first | (exfalso; omega) | skip
          all_goals
            go_round
            case rel => exact ⟨k + 1, by omega, by go_num, HA⟩
            case measure => simp [intOf]; omega
    · have HF := Lib.hid (keyS_good (p := s) (by omega) (fun j hj => hall j hj (by omega)))
      go_wp2_with fail
      go_ret
      exact ⟨by rw [HF.out]; rfl, rfl⟩

/-- The number of a member's word, else -1. -/
def memberZ (s : ByteArray) : Int := if h : s.size = 1 then (if 48 ≤ (s[0]'(by omega)).toNat ∧ (s[0]'(by omega)).toNat ≤ 55 then ((s[0]'(by omega)).toNat : Int) - 48 else -1) else -1
theorem member_no {s : ByteArray} (h : ¬ s.size = 1) : memberZ s = -1 := by unfold memberZ; rw [dif_neg h]
theorem member_out {s : ByteArray} (h : 0 < s.size) (hn : ¬ (48 ≤ s[0].toNat ∧ s[0].toNat ≤ 55)) : memberZ s = -1 := by
  unfold memberZ
  split
  · first | rfl | exact if_neg hn
  · rfl
theorem member_in {s : ByteArray} (h : 0 < s.size) (h1 : s.size = 1) (hn : 48 ≤ s[0].toNat ∧ s[0].toNat ≤ 55) : memberZ s = (s[0].toNat : Int) - 48 := by
  unfold memberZ
  rw [dif_pos h1, if_pos hn]
theorem member_range (s : ByteArray) : -1 ≤ memberZ s ∧ memberZ s < 8 := by
  unfold memberZ
  split
  · split <;> omega
  · omega
set_option maxRecDepth 100000 in
theorem member8_any (s : ByteArray) (w : World) :
    Calls Tryz.prog 151 #[.string s] w fun e w' => e = .returned (.int .i64 (memberZ s)) ∧ w = w' := by
  by_cases h1 : s.size = 1
  · have h0 : 0 < s.size := by omega
    have t1 : ((s.size : Int) != 1) = false := int_bne_f (by omega)
    have hb : (s[0]).toNat < 256 := UInt8.toNat_lt _
    by_cases hn : 48 ≤ s[0].toNat ∧ s[0].toNat ≤ 55
    · have HF := Lib.hid (member_in h0 h1 hn)
      have n1 : (48 : Int) ≤ (s[0].toNat : Int) := by omega
      have n2 : (s[0].toNat : Int) < 56 := by omega
      have h0' : (0 : Int) < (s.size : Int) := by omega
      clear hn h1
      go_enter Tryz.func151, Tryz.ntmps151
      go_wp2_with fail
      all_goals first | (exfalso; omega) | skip
      all_goals go_ret
      all_goals exact ⟨by rw [HF.out]; rfl, rfl⟩
    · have HF := Lib.hid (member_out h0 hn)
      have h0' : (0 : Int) < (s.size : Int) := by omega
      clear h1
      go_enter Tryz.func151, Tryz.ntmps151
      go_wp2_with fail
      all_goals first | (exfalso; omega) | skip
      all_goals go_ret
      all_goals exact ⟨by rw [HF.out]; rfl, rfl⟩
  · have t1 : ((s.size : Int) != 1) = true := int_bne_t (by omega)
    have HF := Lib.hid (member_no h1)
    clear h1
    go_enter Tryz.func151, Tryz.ntmps151
    go_wp2_with fail
    go_ret
    exact ⟨by rw [HF.out]; rfl, rfl⟩
set_option maxRecDepth 100000 in
theorem rmember8_any (s : ByteArray) (w : World) :
    Calls Tryz.prog 131 #[.string s] w fun e w' => e = .returned (.int .i64 (memberZ s)) ∧ w = w' := by
  by_cases h1 : s.size = 1
  · have h0 : 0 < s.size := by omega
    have t1 : ((s.size : Int) != 1) = false := int_bne_f (by omega)
    have hb : (s[0]).toNat < 256 := UInt8.toNat_lt _
    by_cases hn : 48 ≤ s[0].toNat ∧ s[0].toNat ≤ 55
    · have HF := Lib.hid (member_in h0 h1 hn)
      have n1 : (48 : Int) ≤ (s[0].toNat : Int) := by omega
      have n2 : (s[0].toNat : Int) ≤ 55 := by omega
      have h0' : (0 : Int) < (s.size : Int) := by omega
      clear hn h1
      go_enter Tryz.func131, Tryz.ntmps131
      go_wp2_with fail
      all_goals first | (exfalso; omega) | skip
      all_goals go_ret
      all_goals exact ⟨by rw [HF.out]; rfl, rfl⟩
    · have HF := Lib.hid (member_out h0 hn)
      have h0' : (0 : Int) < (s.size : Int) := by omega
      clear h1
      go_enter Tryz.func131, Tryz.ntmps131
      go_wp2_with fail
      all_goals first | (exfalso; omega) | skip
      all_goals go_ret
      all_goals exact ⟨by rw [HF.out]; rfl, rfl⟩
  · have t1 : ((s.size : Int) != 1) = true := int_bne_t (by omega)
    have HF := Lib.hid (member_no h1)
    clear h1
    go_enter Tryz.func131, Tryz.ntmps131
    go_wp2_with fail
    go_ret
    exact ⟨by rw [HF.out]; rfl, rfl⟩
def amtB (n : Int) : Bool := decide (1 ≤ n ∧ n ≤ 1099511627776)
set_option maxRecDepth 100000 in
theorem amount_any (n : Int) (w : World) :
    Calls Tryz.prog 150 #[.int .i64 n] w fun e w' => e = .returned (.bool (amtB n)) ∧ w = w' := by
  by_cases h1 : 1 ≤ n
  · have e1 : decide (1 ≤ n) = true := decide_eq_true h1
    by_cases h2 : n ≤ 1099511627776
    · have e2 : decide (n ≤ 1099511627776) = true := decide_eq_true h2
      have HF := Lib.hid (show amtB n = true from decide_eq_true ⟨h1, h2⟩)
      go_enter Tryz.func150, Tryz.ntmps150
      go_wp2_with fail
      go_ret
      exact ⟨by rw [HF.out]; rfl, rfl⟩
    · have e2 : decide (n ≤ 1099511627776) = false := decide_eq_false h2
      have HF := Lib.hid (show amtB n = false from decide_eq_false (fun h => h2 h.2))
      go_enter Tryz.func150, Tryz.ntmps150
      go_wp2_with fail
      go_ret
      exact ⟨by rw [HF.out]; rfl, rfl⟩
  · have e1 : decide (1 ≤ n) = false := decide_eq_false h1
    have HF := Lib.hid (show amtB n = false from decide_eq_false (fun h => h1 h.1))
    go_enter Tryz.func150, Tryz.ntmps150
    go_wp2_with fail
    go_ret
    exact ⟨by rw [HF.out]; rfl, rfl⟩
end Go.Proofs.YtnjmgknicffcbaaGreatDoor
