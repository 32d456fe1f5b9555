/- Walks: prefixes of logs. -/
import Derived.Test.YtmkcgnljankmdaaDoorDiskA
import Derived.Test.YtmkcgnljankmdaaDoorPlainWal
import Derived.WalkSpells
import Derived.WalkLawsBesides
import Derived.Test.YtmkcgnljankmdaaDoorCodeB
import Derived.Test.YtmkcgnljankmdaaDoorSlc
namespace Go.Proofs.YtmkcgnljankmdaaDoor
open Go.RowKit

/-- A letter of a prefix. -/
def lowB (c : Nat) : Bool := decide (97 ≤ c ∧ c ≤ 122)
def prefixB (p : ByteArray) : Bool := decide (1 ≤ p.size ∧ p.size ≤ 8) && p.data.toList.all fun c => lowB c.toNat
theorem prefix_short {p : ByteArray} (h : ¬ (1 ≤ p.size ∧ p.size ≤ 8)) : prefixB p = false := by
  unfold prefixB
  rw [decide_eq_false h]; rfl
theorem prefix_bad {p : ByteArray} {k : Nat} (hk : k < p.size) (h : lowB (p[k]).toNat = false) : prefixB p = false := by
  unfold prefixB
  have : (p.data.toList.all fun c => lowB c.toNat) = false := by
    rw [List.all_eq_false]
    exact ⟨p[k], by rw [ByteArray.getElem_eq_getElem_data]; exact Array.mem_toList_iff.2 (Array.getElem_mem _), by rw [h]; simp⟩
  rw [this, Bool.and_false]
theorem prefix_good {p : ByteArray} (h1 : 1 ≤ p.size ∧ p.size ≤ 8) (h : ∀ k (hk : k < p.size), lowB (p[k]).toNat = true) : prefixB p = true := by
  unfold prefixB
  rw [decide_eq_true h1, Bool.true_and, List.all_eq_true]
  intro c hc
  obtain ⟨i, hi, rfl⟩ := Array.mem_iff_getElem.1 (Array.mem_toList_iff.1 hc)
  exact h i hi
theorem prefix_size {p : ByteArray} (h : prefixB p = true) : 1 ≤ p.size ∧ p.size ≤ 8 := by
  unfold prefixB at h
  rw [Bool.and_eq_true] at h
  exact of_decide_eq_true h.1
theorem lowB_no {c : Nat} (h : lowB c = false) : ¬ (97 ≤ c ∧ c ≤ 122) := of_decide_eq_false h
theorem lowB_yes {c : Nat} (h : lowB c = true) : 97 ≤ c ∧ c ≤ 122 := of_decide_eq_true h

set_option maxRecDepth 100000 in
theorem prefix_any (s : ByteArray) (hs : s.size ≤ 9223372036854775807) (w : World) :
    Calls Tryd.prog 21 #[.string s] w fun e w' => e = .returned (.bool (prefixB s)) ∧ w = w' := by
  by_cases h0 : s.size = 0
  · have he : s.toList = [] := size_empty.2 h0
    have HF := Lib.hid (prefix_short (p := s) (by omega))
    clear h0
    go_enter Tryd.func21, Tryd.ntmps21
    go_wp2_with fail
    go_ret
    exact ⟨by rw [HF.out]; rfl, rfl⟩
  have he : s.toList.isEmpty = false := by
    cases hq : s.toList with
    | nil => exact absurd (size_empty.1 hq) h0
    | cons a b => rfl
  by_cases h32 : 8 < s.size
  · have HF := Lib.hid (prefix_short (p := s) (by omega))
    go_enter Tryd.func21, Tryd.ntmps21
    go_wp2_with fail
    go_ret
    exact ⟨by rw [HF.out]; rfl, rfl⟩
  go_enter Tryd.func21, Tryd.ntmps21
  go_wp2_with fail
  go_loop [13] (fun i => ∃ k : Nat, k ≤ s.size ∧ i = .int .i64 k ∧ Hid (∀ j (hj : j < s.size), j < k → lowB (s[j]).toNat = true)) (fun i => s.size - (intOf i).toNat)
  case atStart => exact ⟨0, Nat.zero_le _, rfl, fun j _ h => absurd h (Nat.not_lt_zero _)⟩
  case round =>
    obtain ⟨k, hk, rfl, hall⟩ := hrel
    by_cases hlt : k < s.size
    · have hb : (s[k]).toNat < 256 := UInt8.toNat_lt _
      rcases hq : lowB (s[k]).toNat with _ | _
      · have hn := lowB_no hq
        have HF := Lib.hid (prefix_bad hlt hq)
        clear hq
        go_wp2_with fail
        all_goals first | (exfalso; omega) | skip
        all_goals go_ret
        all_goals exact ⟨by rw [HF.out]; rfl, rfl⟩
      · have hy := lowB_yes hq
        have HA : Hid (∀ j (hj : j < s.size), j < k + 1 → lowB (s[j]).toNat = true) := by
          intro j hj hjk
          by_cases e : j = k
          · subst e; exact hq
          · exact hall j hj (by omega)
        clear hq
        go_wp2_with fail
        all_goals first | (exfalso; omega) | skip
        all_goals
          go_round
          case rel => exact ⟨k + 1, by omega, by go_num, HA⟩
          case measure => simp [intOf]; omega
    · have HF := Lib.hid (prefix_good (p := s) (by omega) (fun j hj => hall j hj (by omega)))
      go_wp2_with fail
      go_ret
      exact ⟨by rw [HF.out]; rfl, rfl⟩
set_option maxRecDepth 100000 in
theorem rprefix_any (s : ByteArray) (hs : s.size ≤ 9223372036854775807) (w : World) :
    Calls Tryd.prog 26 #[.string s] w fun e w' => e = .returned (.bool (prefixB s)) ∧ w = w' := by
  by_cases h0 : s.size < 1
  · have HF := Lib.hid (prefix_short (p := s) (by omega))
    go_enter Tryd.func26, Tryd.ntmps26
    go_wp2_with fail
    go_ret
    exact ⟨by rw [HF.out]; rfl, rfl⟩
  by_cases h32 : 8 < s.size
  · have HF := Lib.hid (prefix_short (p := s) (by omega))
    go_enter Tryd.func26, Tryd.ntmps26
    go_wp2_with fail
    go_ret
    exact ⟨by rw [HF.out]; rfl, rfl⟩
  go_enter Tryd.func26, Tryd.ntmps26
  go_wp2_with fail
  go_loop [3] (fun i => ∃ k : Nat, k ≤ s.size ∧ i = .int .i64 k ∧ Hid (∀ j (hj : j < s.size), j < k → lowB (s[j]).toNat = true)) (fun i => s.size - (intOf i).toNat)
  case atStart => exact ⟨0, Nat.zero_le _, rfl, fun j _ h => absurd h (Nat.not_lt_zero _)⟩
  case round =>
    obtain ⟨k, hk, rfl, hall⟩ := hrel
    by_cases hlt : k < s.size
    · have hb : (s[k]).toNat < 256 := UInt8.toNat_lt _
      rcases hq : lowB (s[k]).toNat with _ | _
      · have hn := lowB_no hq
        have HF := Lib.hid (prefix_bad hlt hq)
        clear hq
        go_wp2_with fail
        all_goals first | (exfalso; omega) | skip
        all_goals go_ret
        all_goals exact ⟨by rw [HF.out]; rfl, rfl⟩
      · have hy := lowB_yes hq
        have HA : Hid (∀ j (hj : j < s.size), j < k + 1 → lowB (s[j]).toNat = true) := by
          intro j hj hjk
          by_cases e : j = k
          · subst e; exact hq
          · exact hall j hj (by omega)
        clear hq
        go_wp2_with fail
        all_goals first | (exfalso; omega) | skip
        all_goals
          go_round
          case rel => exact ⟨k + 1, by omega, by go_num, HA⟩
          case measure => simp [intOf]; omega
    · have HF := Lib.hid (prefix_good (p := s) (by omega) (fun j hj => hall j hj (by omega)))
      go_wp2_with fail
      go_ret
      exact ⟨by rw [HF.out]; rfl, rfl⟩
end Go.Proofs.YtmkcgnljankmdaaDoor
/-! Walks: names of segments. -/
namespace Go.Proofs.YtmkcgnljankmdaaDoor
open Go.RowKit

theorem run_conv6 (w : World) (a b c d e f : Int) (cap : Nat) (T : TypeId) :
    (convert 70 9 (.slice (some ⟨w.heap.size, 0, none⟩) 6 cap)).run Tryd.prog (w.alloc (.cells #[.int .u8 a, .int .u8 b, .int .u8 c, .int .u8 d, .int .u8 e, .int .u8 f] T)) =
      .ok (.string (strOfNums [a, b, c, d, e, f])) (w.alloc (.cells #[.int .u8 a, .int .u8 b, .int .u8 c, .int .u8 d, .int .u8 e, .int .u8 f] T)) := by
  refine run_convert_bytes_arg _ 70 5 Tryd.underlying70 Tryd.underlying5 _ _ _ _ [a, b, c, d, e, f] rfl ?_ _ Tryd.underlying9
  intro i hi
  rw [Nat.zero_add, World.cell?_alloc_mark]
  match i, hi with
  | 0, _ => rfl
  | 1, _ => rfl
  | 2, _ => rfl
  | 3, _ => rfl
  | 4, _ => rfl
  | 5, _ => rfl
theorem six_size (a b c d e f : Int) : (strOfNums [a, b, c, d, e, f]).size = 6 := rfl
theorem digs_of (a b c d e f : Nat) (n : Nat) (ha : a = n / 100000 % 10) (hb : b = n / 10000 % 10) (hc : c = n / 1000 % 10) (hd : d = n / 100 % 10) (he : e = n / 10 % 10) (hf : f = n % 10) :
    strOfNums [48 + (a : Int), 48 + (b : Int), 48 + (c : Int), 48 + (d : Int), 48 + (e : Int), 48 + (f : Int)] = ⟨(dig6 n).toArray⟩ := by
  subst ha hb hc hd he hf
  rfl
set_option maxRecDepth 100000 in
theorem wname_any (p : ByteArray) (hp : p.size ≤ 9223372036854775000) (n : Nat) (hn : n ≤ 9223372036854775807) (w : World) :
    Calls Tryd.prog 25 #[.string p, .int .i64 (n : Int)] w fun e w' => e = .returned (.string (nameW p n)) ∧ Gr w w' := by
  have hcv := fun a b c d e f cap => run_conv6 w a b c d e f cap 69
  have hz6 := six_size
  have HF := Lib.hid (digs_of (n % 1000000 / 10 / 10 / 10 / 10 / 10 % 10) (n % 1000000 / 10 / 10 / 10 / 10 % 10) (n % 1000000 / 10 / 10 / 10 % 10) (n % 1000000 / 10 / 10 % 10) (n % 1000000 / 10 % 10) (n % 10) n (by omega) (by omega) (by omega) (by omega) (by omega) rfl)
  go_enter Tryd.func25, Tryd.ntmps25
  go_wp2_with fail
  go_rounds 7
  go_ret
  exact ⟨by unfold nameW; rw [← HF.out]; rfl, gr_box w _⟩
theorem infoU8w : (Tryd.prog.info? 5).map (fun i => (i.zero, i.size, i.bytes)) = some (some (.int .u8 0), 1, 1) := by kernel_rfl
theorem make_six : ∀ W : World, (Instr.makeSlice 70 (.int .i64 6) (.int .i64 6)).run Tryd.prog W = .ok (.slice (some ⟨W.heap.size, 0, none⟩) 6 6) (W.alloc (.cells #[.int .u8 0, .int .u8 0, .int .u8 0, .int .u8 0, .int .u8 0, .int .u8 0] 5)) := by
  intro W
  obtain ⟨i0, hi, hz0, hz1, hz2⟩ := info_parts infoU8w
  have h := run_make (P := Tryd.prog) W 70 5 i0 _ Tryd.underlying70 hi hz0 .i64 .i64 6 6 (by omega) (by omega) (by rw [hz2]; omega) (by omega)
  rw [hz1] at h
  have e : madeCells (Value.int .u8 0).cells (Int.toNat 6 * 1) = #[.int .u8 0, .int .u8 0, .int .u8 0, .int .u8 0, .int .u8 0, .int .u8 0] := by kernel_rfl
  rw [e] at h
  exact h
set_option maxRecDepth 100000 in
theorem rwname_any (p : ByteArray) (hp : p.size ≤ 9223372036854775000) (n : Nat) (hn : n ≤ 9223372036854775807) (w : World) :
    Calls Tryd.prog 29 #[.string p, .int .i64 (n : Int)] w fun e w' => e = .returned (.string (nameW p n)) ∧ Gr w w' := by
  have hcv := fun a b c d e f cap => run_conv6 w a b c d e f cap 5
  have hmk := make_six
  have hz6 := six_size
  have HF := Lib.hid (digs_of (n / 10 / 10 / 10 / 10 / 10 % 10) (n / 10 / 10 / 10 / 10 % 10) (n / 10 / 10 / 10 % 10) (n / 10 / 10 % 10) (n / 10 % 10) (n % 10) n (by omega) (by omega) (by omega) (by omega) (by omega) rfl)
  go_enter Tryd.func29, Tryd.ntmps29
  go_wp2_with fail
  go_rounds 7
  go_ret
  exact ⟨by unfold nameW; rw [← HF.out]; rfl, gr_box w _⟩
/-- strings.CutPrefix, and what it calls. -/
def cutP (s q : ByteArray) : Bool := decide (q.size ≤ s.size) && eqS (s.extract 0 q.size) q
theorem hasPrefix_any (s q : ByteArray) (_hs : s.size ≤ 9223372036854775807) (w : World) :
    Calls Tryd.prog 51 #[.string s, .string q] w fun e w' => e = .returned (.bool (cutP s q)) ∧ w = w' := by
  by_cases h : q.size ≤ s.size
  · have ht : (q.size : Int) ≤ (s.size : Int) := by omega
    have hb : cutP s q = eqS (s.extract 0 q.size) q := by unfold cutP; rw [decide_eq_true h, Bool.true_and]
    have HB := Lib.hid hb
    clear hb
    go_enter Tryd.func51, Tryd.ntmps51
    go_wp2
    go_ret
    exact ⟨by rw [HB.out]; rfl, rfl⟩
  · have ht : ¬ (q.size : Int) ≤ (s.size : Int) := by omega
    have hb : cutP s q = false := by unfold cutP; rw [decide_eq_false h, Bool.false_and]
    have HB := Lib.hid hb
    clear hb
    go_enter Tryd.func51, Tryd.ntmps51
    go_wp2
    go_ret
    exact ⟨by rw [HB.out]; rfl, rfl⟩
theorem icutp_yes (s q : ByteArray) (hs : s.size ≤ 9223372036854775807) (h : cutP s q = true) (w : World) :
    Calls Tryd.prog 49 #[.string s, .string q] w fun e w' => e = .returned (.tuple #[.string (s.extract q.size s.size), .bool true]) ∧ w = w' := by
  have hq : q.size ≤ s.size := by unfold cutP at h; rw [Bool.and_eq_true] at h; exact of_decide_eq_true h.1
  have h1 := hasPrefix_any s q hs w
  rw [h] at h1
  have H1 := Lib.hid h1
  clear h1 h
  go_enter Tryd.func49, Tryd.ntmps49
  go_wp2_with fail
  refine H1.out.mono ?_
  rintro e w1 ⟨rfl, rfl⟩
  go_wp2_with fail
  go_ret2
  exact ⟨rfl, rfl⟩
theorem icutp_no (s q : ByteArray) (hs : s.size ≤ 9223372036854775807) (h : cutP s q = false) (w : World) :
    Calls Tryd.prog 49 #[.string s, .string q] w fun e w' => e = .returned (.tuple #[.string s, .bool false]) ∧ w = w' := by
  have h1 := hasPrefix_any s q hs w
  rw [h] at h1
  have H1 := Lib.hid h1
  clear h1 h
  go_enter Tryd.func49, Tryd.ntmps49
  go_wp2_with fail
  refine H1.out.mono ?_
  rintro e w1 ⟨rfl, rfl⟩
  go_wp2_with fail
  go_ret2
  exact ⟨rfl, rfl⟩
theorem cutp_yes (s q : ByteArray) (hs : s.size ≤ 9223372036854775807) (h : cutP s q = true) (w : World) :
    Calls Tryd.prog 45 #[.string s, .string q] w fun e w' => e = .returned (.tuple #[.string (s.extract q.size s.size), .bool true]) ∧ w = w' := by
  have H1 := Lib.hid (icutp_yes s q hs h w)
  clear h
  go_enter Tryd.func45, Tryd.ntmps45
  go_wp2_with fail
  refine H1.out.mono ?_
  rintro e w1 ⟨rfl, rfl⟩
  go_wp2_with fail
  go_ret2
  exact ⟨rfl, rfl⟩
theorem cutp_no (s q : ByteArray) (hs : s.size ≤ 9223372036854775807) (h : cutP s q = false) (w : World) :
    Calls Tryd.prog 45 #[.string s, .string q] w fun e w' => e = .returned (.tuple #[.string s, .bool false]) ∧ w = w' := by
  have H1 := Lib.hid (icutp_no s q hs h w)
  clear h
  go_enter Tryd.func45, Tryd.ntmps45
  go_wp2_with fail
  refine H1.out.mono ?_
  rintro e w1 ⟨rfl, rfl⟩
  go_wp2_with fail
  go_ret2
  exact ⟨rfl, rfl⟩
end Go.Proofs.YtmkcgnljankmdaaDoor
/-! Walks: the number of a segment's name. -/
namespace Go.Proofs.YtmkcgnljankmdaaDoor
open Go.RowKit

def numV : Option Nat → Value
  | none => .tuple #[.int .i64 0, .bool false]
  | some n => .tuple #[.int .i64 (n : Int), .bool true]
theorem cutP_iff {s q : ByteArray} : cutP s q = true ↔ q.size ≤ s.size ∧ s.extract 0 q.size = q := by
  unfold cutP
  rw [Bool.and_eq_true, decide_eq_true_iff, eqS_iff]
theorem numW_cut {p nm : ByteArray} (h : cutP nm (p ++ dotB) = false) : numW p nm = none := by
  unfold numW
  rw [if_neg]
  rintro ⟨h1, h2, _⟩
  rw [cutP_iff.2 ⟨h1, h2⟩] at h
  cases h
theorem numW_six {p nm : ByteArray} (h : (nm.extract (p ++ dotB).size nm.size).size ≠ 6) : numW p nm = none := by
  unfold numW
  rw [if_neg]
  rintro ⟨h1, _, h3, _⟩
  apply h
  rw [ByteArray.size_extract]
  omega
theorem numW_dig {p nm : ByteArray} (h : (nm.extract (p ++ dotB).size nm.size).data.toList.all isDig = false) : numW p nm = none := by
  unfold numW
  rw [if_neg]
  rintro ⟨_, _, _, h4⟩
  rw [h] at h4
  cases h4
theorem numW_yes {p nm : ByteArray} (h : cutP nm (p ++ dotB) = true) (h6 : (nm.extract (p ++ dotB).size nm.size).size = 6) (hd : (nm.extract (p ++ dotB).size nm.size).data.toList.all isDig = true) : numW p nm = some (numL (nm.extract (p ++ dotB).size nm.size).data.toList) := by
  unfold numW
  rw [ByteArray.size_extract] at h6
  obtain ⟨h1, h2⟩ := cutP_iff.1 h
  rw [if_pos ⟨h1, h2, by omega, hd⟩]
theorem dig_no {c : UInt8} (h : isDig c = false) : ¬ (48 ≤ c.toNat ∧ c.toNat ≤ 57) := of_decide_eq_false h
theorem dig_yes {c : UInt8} (h : isDig c = true) : 48 ≤ c.toNat ∧ c.toNat ≤ 57 := of_decide_eq_true h
theorem digs_bad {r : ByteArray} {k : Nat} (hk : k < r.size) (h : isDig r[k] = false) : r.data.toList.all isDig = false := by
  rw [List.all_eq_false]
  exact ⟨r[k], by rw [ByteArray.getElem_eq_getElem_data]; exact Array.mem_toList_iff.2 (Array.getElem_mem _), by rw [h]; simp⟩
theorem digs_good {r : ByteArray} (h : ∀ k (hk : k < r.size), isDig r[k] = true) : r.data.toList.all isDig = true := by
  rw [List.all_eq_true]
  intro c hc
  obtain ⟨i, hi, rfl⟩ := Array.mem_iff_getElem.1 (Array.mem_toList_iff.1 hc)
  exact h i hi
theorem numL_snoc (l : List UInt8) (c : UInt8) : numL (l ++ [c]) = numL l * 10 + (c.toNat - 48) := by
  unfold numL
  rw [List.foldl_append]
  rfl
theorem numL_take {r : ByteArray} {k : Nat} (hk : k < r.size) : numL (r.data.toList.take (k + 1)) = numL (r.data.toList.take k) * 10 + (r[k].toNat - 48) := by
  rw [List.take_succ_eq_append_getElem (by rw [← size_list]; exact hk), numL_snoc]
  rfl
theorem numL_lt {r : ByteArray} : ∀ (k : Nat), k ≤ r.size → (∀ j (hj : j < r.size), j < k → isDig r[j] = true) → numL (r.data.toList.take k) < 10 ^ k
  | 0, _, _ => by simp [numL]
  | k + 1, hk, h => by
    rw [numL_take (show k < r.size by omega), Nat.pow_succ]
    have h1 := numL_lt k (by omega) (fun j hj hjk => h j hj (by omega))
    have h2 := dig_yes (h k (by omega) (by omega))
    omega

set_option maxRecDepth 100000 in
theorem number_any (p nm : ByteArray) (hp : p.size ≤ 1000) (hnm : nm.size ≤ 9223372036854775000) (w : World) :
    Calls Tryd.prog 35 #[.string p, .string nm] w fun e w' => e = .returned (numV (numW p nm)) ∧ w = w' := by
  have hps : p.size + 1 ≤ 9223372036854775807 := by omega
  rcases hc : cutP nm (p ++ dotB) with _ | _
  · have H1 := Lib.hid (show Calls Tryd.prog 45 #[.string nm, .string (p ++ ⟨#[46]⟩)] w fun e w' => e = .returned (.tuple #[.string nm, .bool false]) ∧ w = w' from cutp_no nm (p ++ dotB) (by omega) hc w)
    have HF := Lib.hid (numW_cut hc)
    clear hc
    go_enter Tryd.func35, Tryd.ntmps35
    go_wp2_with fail
    refine H1.out.mono ?_
    rintro e w1 ⟨rfl, rfl⟩
    go_wp2_with fail
    go_ret2
    exact ⟨by rw [HF.out]; rfl, rfl⟩
  have H1 := Lib.hid (show Calls Tryd.prog 45 #[.string nm, .string (p ++ ⟨#[46]⟩)] w fun e w' => e = .returned (.tuple #[.string (nm.extract (p ++ dotB).size nm.size), .bool true]) ∧ w = w' from cutp_yes nm (p ++ dotB) (by omega) hc w)
  have hlen : (nm.extract (p ++ dotB).size nm.size).size ≤ 9223372036854775000 := by rw [ByteArray.size_extract]; omega
  have k1 := numW_six (p := p) (nm := nm)
  have k2 := numW_dig (p := p) (nm := nm)
  have k3 := numW_yes hc
  obtain ⟨r, hr⟩ : ∃ r, r = nm.extract (p ++ dotB).size nm.size := ⟨_, rfl⟩
  rw [← hr] at H1 hlen k1 k2 k3
  clear hc hr
  by_cases h6 : r.size = 6
  · have K2 := Lib.hid k2
    have K3 := Lib.hid (k3 h6)
    have H6 := Lib.hid h6
    have h6a : (r.size : Int) ≤ 6 := by omega
    have h6b : 6 ≤ (r.size : Int) := by omega
    have ht : ((r.size : Int) != 6) = false := by rw [h6]; rfl
    clear k1 k2 k3 h6
    go_enter Tryd.func35, Tryd.ntmps35
    go_wp2_with fail
    refine H1.out.mono ?_
    rintro e w1 ⟨rfl, rfl⟩
    go_wp2_with fail
    go_loop [8, 26] (fun n i => ∃ k : Nat, k ≤ r.size ∧ i = .int .i64 k ∧ n = .int .i64 (numL (r.data.toList.take k) : Nat) ∧ Hid (∀ j (hj : j < r.size), j < k → isDig r[j] = true)) (fun _ i => r.size - (intOf i).toNat)
    case atStart => exact ⟨0, Nat.zero_le _, rfl, rfl, fun j _ h => absurd h (Nat.not_lt_zero _)⟩
    case round =>
      obtain ⟨k, hk, rfl, rfl, hall⟩ := hrel
      by_cases hlt : k < r.size
      · have hb : (r[k]).toNat < 256 := UInt8.toNat_lt _
        rcases hq : isDig r[k] with _ | _
        · have hn := dig_no hq
          have HF := Lib.hid (K2.out (digs_bad hlt hq))
          clear hq
          go_wp2_with fail
          all_goals first | (exfalso; omega) | skip
          all_goals go_ret2
          all_goals exact ⟨by rw [HF.out]; rfl, rfl⟩
        · have hy := dig_yes hq
          have HA : Hid (∀ j (hj : j < r.size), j < k + 1 → isDig r[j] = true) := by
            intro j hj hjk
            by_cases e : j = k
            · subst e; exact hq
            · exact hall j hj (by omega)
          have hm : numL (r.data.toList.take k) < 100000 := by
            have := numL_lt k hk hall
            have h5 : 10 ^ k ≤ 10 ^ 5 := Nat.pow_le_pow_right (by decide) (by omega)
            omega
          have HT := Lib.hid (numL_take hlt)
          obtain ⟨m, hme⟩ : ∃ m, m = numL (r.data.toList.take k) := ⟨_, rfl⟩
          rw [← hme] at hm HT ⊢
          clear hq hme
          go_wp2_with fail
          all_goals first | (exfalso; omega) | skip
          all_goals
            go_round
            case rel => exact ⟨k + 1, by omega, by go_num, by rw [HT.out]; go_num, HA⟩
            case measure => simp [intOf]; omega
      · have HF := Lib.hid (K3.out (digs_good (fun j hj => hall j hj (by omega))))
        have hta : r.data.toList.take k = r.data.toList := List.take_of_length_le (by rw [← size_list]; omega)
        rw [hta]
        clear hta
        go_wp2_with fail
        go_ret2
        exact ⟨by rw [HF.out]; rfl, rfl⟩
  · have HF := Lib.hid (k1 h6)
    have ht : ((r.size : Int) != 6) = true := by rw [bne_iff_ne]; omega
    clear k1 k2 k3 h6
    go_enter Tryd.func35, Tryd.ntmps35
    go_wp2_with fail
    refine H1.out.mono ?_
    rintro e w1 ⟨rfl, rfl⟩
    go_wp2_with fail
    go_ret2
    exact ⟨by rw [HF.out]; rfl, rfl⟩
end Go.Proofs.YtmkcgnljankmdaaDoor
