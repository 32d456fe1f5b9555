/- Walks: the number of a segment's name. -/
import Derived.Test.YtmkcgnljankmdaaDoorWalB
namespace Go.Proofs.YtmkcgnljankmdaaDoor
open Go.RowKit

def numV : Option Nat → Value
  | none => .tuple #[.int .i64 0, .bool false]
  | some n => .tuple #[.int .i64 (n : Int), .bool true]
theorem cutP_iff {s q : ByteArray} : cutP s q = true ↔ q.size ≤ s.size ∧ s.extract 0 q.size = q := by
  unfold cutP
  rw [Bool.and_eq_true, decide_eq_true_iff, eqS_iff]
theorem numW_cut {p nm : ByteArray} (h : cutP nm (p ++ dotB) = false) : numW p nm = none := by
  unfold numW
  rw [if_neg]
  rintro ⟨h1, h2, _⟩
  rw [cutP_iff.2 ⟨h1, h2⟩] at h
  cases h
theorem numW_six {p nm : ByteArray} (h : (nm.extract (p ++ dotB).size nm.size).size ≠ 6) : numW p nm = none := by
  unfold numW
  rw [if_neg]
  rintro ⟨h1, _, h3, _⟩
  apply h
  rw [ByteArray.size_extract]
  omega
theorem numW_dig {p nm : ByteArray} (h : (nm.extract (p ++ dotB).size nm.size).data.toList.all isDig = false) : numW p nm = none := by
  unfold numW
  rw [if_neg]
  rintro ⟨_, _, _, h4⟩
  rw [h] at h4
  cases h4
theorem numW_yes {p nm : ByteArray} (h : cutP nm (p ++ dotB) = true) (h6 : (nm.extract (p ++ dotB).size nm.size).size = 6) (hd : (nm.extract (p ++ dotB).size nm.size).data.toList.all isDig = true) : numW p nm = some (numL (nm.extract (p ++ dotB).size nm.size).data.toList) := by
  unfold numW
  rw [ByteArray.size_extract] at h6
  obtain ⟨h1, h2⟩ := cutP_iff.1 h
  rw [if_pos ⟨h1, h2, by omega, hd⟩]
theorem dig_no {c : UInt8} (h : isDig c = false) : ¬ (48 ≤ c.toNat ∧ c.toNat ≤ 57) := of_decide_eq_false h
theorem dig_yes {c : UInt8} (h : isDig c = true) : 48 ≤ c.toNat ∧ c.toNat ≤ 57 := of_decide_eq_true h
theorem digs_bad {r : ByteArray} {k : Nat} (hk : k < r.size) (h : isDig r[k] = false) : r.data.toList.all isDig = false := by
  rw [List.all_eq_false]
  exact ⟨r[k], by rw [ByteArray.getElem_eq_getElem_data]; exact Array.mem_toList_iff.2 (Array.getElem_mem _), by rw [h]; simp⟩
theorem digs_good {r : ByteArray} (h : ∀ k (hk : k < r.size), isDig r[k] = true) : r.data.toList.all isDig = true := by
  rw [List.all_eq_true]
  intro c hc
  obtain ⟨i, hi, rfl⟩ := Array.mem_iff_getElem.1 (Array.mem_toList_iff.1 hc)
  exact h i hi
theorem numL_snoc (l : List UInt8) (c : UInt8) : numL (l ++ [c]) = numL l * 10 + (c.toNat - 48) := by
  unfold numL
  rw [List.foldl_append]
  rfl
theorem numL_take {r : ByteArray} {k : Nat} (hk : k < r.size) : numL (r.data.toList.take (k + 1)) = numL (r.data.toList.take k) * 10 + (r[k].toNat - 48) := by
  rw [List.take_succ_eq_append_getElem (by rw [← size_list]; exact hk), numL_snoc]
  rfl
theorem numL_lt {r : ByteArray} : ∀ (k : Nat), k ≤ r.size → (∀ j (hj : j < r.size), j < k → isDig r[j] = true) → numL (r.data.toList.take k) < 10 ^ k
  | 0, _, _ => by simp [numL]
  | k + 1, hk, h => by
    rw [numL_take (show k < r.size by omega), Nat.pow_succ]
    have h1 := numL_lt k (by omega) (fun j hj hjk => h j hj (by omega))
    have h2 := dig_yes (h k (by omega) (by omega))
    omega

set_option maxRecDepth 100000 in
theorem number_any (p nm : ByteArray) (hp : p.size ≤ 1000) (hnm : nm.size ≤ 9223372036854775000) (w : World) :
    Calls Tryd.prog 35 #[.string p, .string nm] w fun e w' => e = .returned (numV (numW p nm)) ∧ w = w' := by
  have hps : p.size + 1 ≤ 9223372036854775807 := by omega
  rcases hc : cutP nm (p ++ dotB) with _ | _
  · have H1 := Lib.hid (show Calls Tryd.prog 45 #[.string nm, .string (p ++ ⟨#[46]⟩)] w fun e w' => e = .returned (.tuple #[.string nm, .bool false]) ∧ w = w' from cutp_no nm (p ++ dotB) (by omega) hc w)
    have HF := Lib.hid (numW_cut hc)
    clear hc
    go_enter Tryd.func35, Tryd.ntmps35
    go_wp2_with fail
    refine H1.out.mono ?_
    rintro e w1 ⟨rfl, rfl⟩
    go_wp2_with fail
    go_ret2
    exact ⟨by rw [HF.out]; rfl, rfl⟩
  have H1 := Lib.hid (show Calls Tryd.prog 45 #[.string nm, .string (p ++ ⟨#[46]⟩)] w fun e w' => e = .returned (.tuple #[.string (nm.extract (p ++ dotB).size nm.size), .bool true]) ∧ w = w' from cutp_yes nm (p ++ dotB) (by omega) hc w)
  have hlen : (nm.extract (p ++ dotB).size nm.size).size ≤ 9223372036854775000 := by rw [ByteArray.size_extract]; omega
  have k1 := numW_six (p := p) (nm := nm)
  have k2 := numW_dig (p := p) (nm := nm)
  have k3 := numW_yes hc
  obtain ⟨r, hr⟩ : ∃ r, r = nm.extract (p ++ dotB).size nm.size := ⟨_, rfl⟩
  rw [← hr] at H1 hlen k1 k2 k3
  clear hc hr
  by_cases h6 : r.size = 6
  · have K2 := Lib.hid k2
    have K3 := Lib.hid (k3 h6)
    have H6 := Lib.hid h6
    have h6a : (r.size : Int) ≤ 6 := by omega
    have h6b : 6 ≤ (r.size : Int) := by omega
    have ht : ((r.size : Int) != 6) = false := by rw [h6]; rfl
    clear k1 k2 k3 h6
    go_enter Tryd.func35, Tryd.ntmps35
    go_wp2_with fail
    refine H1.out.mono ?_
    rintro e w1 ⟨rfl, rfl⟩
    go_wp2_with fail
    go_loop [8, 26] (fun n i => ∃ k : Nat, k ≤ r.size ∧ i = .int .i64 k ∧ n = .int .i64 (numL (r.data.toList.take k) : Nat) ∧ Hid (∀ j (hj : j < r.size), j < k → isDig r[j] = true)) (fun _ i => r.size - (intOf i).toNat)
    case atStart => exact ⟨0, Nat.zero_le _, rfl, rfl, fun j _ h => absurd h (Nat.not_lt_zero _)⟩
    case round =>
      obtain ⟨k, hk, rfl, rfl, hall⟩ := hrel
      by_cases hlt : k < r.size
      · have hb : (r[k]).toNat < 256 := UInt8.toNat_lt _
        rcases hq : isDig r[k] with _ | _
        · have hn := dig_no hq
          have HF := Lib.hid (K2.out (digs_bad hlt hq))
          clear hq
          go_wp2_with fail
          all_goals first | (exfalso; omega) | skip
          all_goals go_ret2
          all_goals exact ⟨by rw [HF.out]; rfl, rfl⟩
        · have hy := dig_yes hq
          have HA : Hid (∀ j (hj : j < r.size), j < k + 1 → isDig r[j] = true) := by
            intro j hj hjk
            by_cases e : j = k
            · subst e; exact hq
            · exact hall j hj (by omega)
          have hm : numL (r.data.toList.take k) < 100000 := by
            have := numL_lt k hk hall
            have h5 : 10 ^ k ≤ 10 ^ 5 := Nat.pow_le_pow_right (by decide) (by omega)
            omega
          have HT := Lib.hid (numL_take hlt)
          obtain ⟨m, hme⟩ : ∃ m, m = numL (r.data.toList.take k) := ⟨_, rfl⟩
          rw [← hme] at hm HT ⊢
          clear hq hme
          go_wp2_with fail
          all_goals first | (exfalso; omega) | skip
          all_goals
            go_round
            case rel => exact ⟨k + 1, by omega, by go_num, by rw [HT.out]; go_num, HA⟩
            case measure => simp [intOf]; omega
      · have HF := Lib.hid (K3.out (digs_good (fun j hj => hall j hj (by omega))))
        have hta : r.data.toList.take k = r.data.toList := List.take_of_length_le (by rw [← size_list]; omega)
        rw [hta]
        clear hta
        go_wp2_with fail
        go_ret2
        exact ⟨by rw [HF.out]; rfl, rfl⟩
  · have HF := Lib.hid (k1 h6)
    have ht : ((r.size : Int) != 6) = true := by rw [bne_iff_ne]; omega
    clear k1 k2 k3 h6
    go_enter Tryd.func35, Tryd.ntmps35
    go_wp2_with fail
    refine H1.out.mono ?_
    rintro e w1 ⟨rfl, rfl⟩
    go_wp2_with fail
    go_ret2
    exact ⟨by rw [HF.out]; rfl, rfl⟩
end Go.Proofs.YtmkcgnljankmdaaDoor
