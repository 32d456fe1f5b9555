/- Walks: prefixes of logs. Rows of structs: cells of a list of elements of one length each. -/
import Derived.Test.YtlnhbndghnkfmaaGreatDoorZm01
import Derived.Test.YtlnhbndghnkfmaaGreatDoorZm02
import Derived.WalkSpells
import Derived.WalkLawsBesides
import Derived.Test.YtlnhbndghnkfmaaGreatDoorZm03
import Derived.Lib.SliceRun
namespace Go.Proofs.YtlnhbndghnkfmaaGreatDoor
open Go.RowKit

/-- A letter of a prefix. -/
def lowB (c : Nat) : Bool := decide (97 ≤ c ∧ c ≤ 122)
def prefixB (p : ByteArray) : Bool := decide (1 ≤ p.size ∧ p.size ≤ 8) && p.data.toList.all fun c => lowB c.toNat
theorem prefix_short {p : ByteArray} (h : ¬ (1 ≤ p.size ∧ p.size ≤ 8)) : prefixB p = false := by
  unfold prefixB
  rw [decide_eq_false h]; rfl
theorem prefix_bad {p : ByteArray} {k : Nat} (hk : k < p.size) (h : lowB (p[k]).toNat = false) : prefixB p = false := by
  unfold prefixB
  have : (p.data.toList.all fun c => lowB c.toNat) = false := by
    rw [List.all_eq_false]
    exact ⟨p[k], by rw [ByteArray.getElem_eq_getElem_data]; exact Array.mem_toList_iff.2 (Array.getElem_mem _), by rw [h]; simp⟩
  rw [this, Bool.and_false]
theorem prefix_good {p : ByteArray} (h1 : 1 ≤ p.size ∧ p.size ≤ 8) (h : ∀ k (hk : k < p.size), lowB (p[k]).toNat = true) : prefixB p = true := by
  unfold prefixB
  rw [decide_eq_true h1, Bool.true_and, List.all_eq_true]
  intro c hc
  obtain ⟨i, hi, rfl⟩ := Array.mem_iff_getElem.1 (Array.mem_toList_iff.1 hc)
  exact h i hi
theorem prefix_size {p : ByteArray} (h : prefixB p = true) : 1 ≤ p.size ∧ p.size ≤ 8 := by
  unfold prefixB at h
  rw [Bool.and_eq_true] at h
  exact of_decide_eq_true h.1
theorem lowB_no {c : Nat} (h : lowB c = false) : ¬ (97 ≤ c ∧ c ≤ 122) := of_decide_eq_false h
theorem lowB_yes {c : Nat} (h : lowB c = true) : 97 ≤ c ∧ c ≤ 122 := of_decide_eq_true h

set_option maxRecDepth 100000 in
theorem prefix_any (s : ByteArray) (hs : s.size ≤ 9223372036854775807) (w : World) :
    Calls Tryz.prog 136 #[.string s] w fun e w' => e = .returned (.bool (prefixB s)) ∧ w = w' := by
  by_cases h0 : s.size = 0
  · have he : s.toList = [] := size_empty.2 h0
    have HF := Lib.hid (prefix_short (p := s) (by omega))
    clear h0
    go_enter Tryz.func136, Tryz.ntmps136
    go_wp2_with fail
    go_ret
    exact ⟨by rw [HF.out]; rfl, rfl⟩
  have he : s.toList.isEmpty = false := by
    cases hq : s.toList with
    | nil => exact absurd (size_empty.1 hq) h0
    | cons a b => rfl
  by_cases h32 : 8 < s.size
  · have HF := Lib.hid (prefix_short (p := s) (by omega))
    go_enter Tryz.func136, Tryz.ntmps136
    go_wp2_with fail
    go_ret
    exact ⟨by rw [HF.out]; rfl, rfl⟩
  go_enter Tryz.func136, Tryz.ntmps136
  go_wp2_with fail
  go_loop [13] (fun i => ∃ k : Nat, k ≤ s.size ∧ i = .int .i64 k ∧ Hid (∀ j (hj : j < s.size), j < k → lowB (s[j]).toNat = true)) (fun i => s.size - (intOf i).toNat)
  case atStart => exact ⟨0, Nat.zero_le _, rfl, fun j _ h => absurd h (Nat.not_lt_zero _)⟩
  case round =>
    obtain ⟨k, hk, rfl, hall⟩ := hrel
    by_cases hlt : k < s.size
    · have hb : (s[k]).toNat < 256 := UInt8.toNat_lt _
      rcases hq : lowB (s[k]).toNat with _ | _
      · have hn := lowB_no hq
        have HF := Lib.hid (prefix_bad hlt hq)
        clear hq
        go_wp2_with fail
        all_goals first | (exfalso; omega) | skip
        all_goals go_ret
        all_goals exact ⟨by rw [HF.out]; rfl, rfl⟩
      · have hy := lowB_yes hq
        have HA : Hid (∀ j (hj : j < s.size), j < k + 1 → lowB (s[j]).toNat = true) := by
          intro j hj hjk
          by_cases e : j = k
          · subst e; exact hq
          · exact hall j hj (by omega)
        clear hq
        go_wp2_with fail
        all_goals first | (exfalso; omega) | skip
        all_goals
          go_round
          case rel => exact ⟨k + 1, by omega, by go_num, HA⟩
          case measure => simp [intOf]; omega
    · have HF := Lib.hid (prefix_good (p := s) (by omega) (fun j hj => hall j hj (by omega)))
      go_wp2_with fail
      go_ret
      exact ⟨by rw [HF.out]; rfl, rfl⟩
end Go.Proofs.YtlnhbndghnkfmaaGreatDoor
namespace Go.Proofs.YtlnhbndghnkfmaaGreatDoor
open Go.RowKit

theorem run_conv6 (w : World) (a b c d e f : Int) (cap : Nat) (T : TypeId) :
    (convert 121 9 (.slice (some ⟨w.heap.size, 0, none⟩) 6 cap)).run Tryz.prog (w.alloc (.cells #[.int .u8 a, .int .u8 b, .int .u8 c, .int .u8 d, .int .u8 e, .int .u8 f] T)) =
      .ok (.string (strOfNums [a, b, c, d, e, f])) (w.alloc (.cells #[.int .u8 a, .int .u8 b, .int .u8 c, .int .u8 d, .int .u8 e, .int .u8 f] T)) := by
  refine run_convert_bytes_arg _ 121 5 Tryz.underlying121 Tryz.underlying5 _ _ _ _ [a, b, c, d, e, f] rfl ?_ _ Tryz.underlying9
  intro i hi
  rw [Nat.zero_add, World.cell?_alloc_mark]
  match i, hi with
  | 0, _ => rfl
  | 1, _ => rfl
  | 2, _ => rfl
  | 3, _ => rfl
  | 4, _ => rfl
  | 5, _ => rfl
theorem six_size (a b c d e f : Int) : (strOfNums [a, b, c, d, e, f]).size = 6 := rfl
theorem digs_of (a b c d e f : Nat) (n : Nat) (ha : a = n / 100000 % 10) (hb : b = n / 10000 % 10) (hc : c = n / 1000 % 10) (hd : d = n / 100 % 10) (he : e = n / 10 % 10) (hf : f = n % 10) :
    strOfNums [48 + (a : Int), 48 + (b : Int), 48 + (c : Int), 48 + (d : Int), 48 + (e : Int), 48 + (f : Int)] = ⟨(dig6 n).toArray⟩ := by
  subst ha hb hc hd he hf
  rfl
set_option maxRecDepth 100000 in
theorem wname_any (p : ByteArray) (hp : p.size ≤ 9223372036854775000) (n : Nat) (hn : n ≤ 9223372036854775807) (w : World) :
    Calls Tryz.prog 141 #[.string p, .int .i64 (n : Int)] w fun e w' => e = .returned (.string (nameW p n)) ∧ Gr w w' := by
  have hcv := fun a b c d e f cap => run_conv6 w a b c d e f cap 191
  have hz6 := six_size
  have HF := Lib.hid (digs_of (n % 1000000 / 10 / 10 / 10 / 10 / 10 % 10) (n % 1000000 / 10 / 10 / 10 / 10 % 10) (n % 1000000 / 10 / 10 / 10 % 10) (n % 1000000 / 10 / 10 % 10) (n % 1000000 / 10 % 10) (n % 10) n (by omega) (by omega) (by omega) (by omega) (by omega) rfl)
  go_enter Tryz.func141, Tryz.ntmps141
  go_wp2_with fail
  go_rounds 7
  go_ret
  exact ⟨by unfold nameW; rw [← HF.out]; rfl, gr_box w _⟩
/-- strings.CutPrefix, and what it calls. -/
def cutP (s q : ByteArray) : Bool := decide (q.size ≤ s.size) && eqS (s.extract 0 q.size) q
theorem hasPrefix_any (s q : ByteArray) (_hs : s.size ≤ 9223372036854775807) (w : World) :
    Calls Tryz.prog 163 #[.string s, .string q] w fun e w' => e = .returned (.bool (cutP s q)) ∧ w = w' := by
  by_cases h : q.size ≤ s.size
  · have ht : (q.size : Int) ≤ (s.size : Int) := by omega
    have hb : cutP s q = eqS (s.extract 0 q.size) q := by unfold cutP; rw [decide_eq_true h, Bool.true_and]
    have HB := Lib.hid hb
    clear hb
    go_enter Tryz.func163, Tryz.ntmps163
    go_wp2
    go_ret
    exact ⟨by rw [HB.out]; rfl, rfl⟩
  · have ht : ¬ (q.size : Int) ≤ (s.size : Int) := by omega
    have hb : cutP s q = false := by unfold cutP; rw [decide_eq_false h, Bool.false_and]
    have HB := Lib.hid hb
    clear hb
    go_enter Tryz.func163, Tryz.ntmps163
    go_wp2
    go_ret
    exact ⟨by rw [HB.out]; rfl, rfl⟩
theorem icutp_yes (s q : ByteArray) (hs : s.size ≤ 9223372036854775807) (h : cutP s q = true) (w : World) :
    Calls Tryz.prog 132 #[.string s, .string q] w fun e w' => e = .returned (.tuple #[.string (s.extract q.size s.size), .bool true]) ∧ w = w' := by
  have hq : q.size ≤ s.size := by unfold cutP at h; rw [Bool.and_eq_true] at h; exact of_decide_eq_true h.1
  have h1 := hasPrefix_any s q hs w
  rw [h] at h1
  have H1 := Lib.hid h1
  clear h1 h
  go_enter Tryz.func132, Tryz.ntmps132
  go_wp2_with fail
  refine H1.out.mono ?_
  rintro e w1 ⟨rfl, rfl⟩
  go_wp2_with fail
  go_ret2
  exact ⟨rfl, rfl⟩
theorem icutp_no (s q : ByteArray) (hs : s.size ≤ 9223372036854775807) (h : cutP s q = false) (w : World) :
    Calls Tryz.prog 132 #[.string s, .string q] w fun e w' => e = .returned (.tuple #[.string s, .bool false]) ∧ w = w' := by
  have h1 := hasPrefix_any s q hs w
  rw [h] at h1
  have H1 := Lib.hid h1
  clear h1 h
  go_enter Tryz.func132, Tryz.ntmps132
  go_wp2_with fail
  refine H1.out.mono ?_
  rintro e w1 ⟨rfl, rfl⟩
  go_wp2_with fail
  go_ret2
  exact ⟨rfl, rfl⟩
theorem cutp_yes (s q : ByteArray) (hs : s.size ≤ 9223372036854775807) (h : cutP s q = true) (w : World) :
    Calls Tryz.prog 100 #[.string s, .string q] w fun e w' => e = .returned (.tuple #[.string (s.extract q.size s.size), .bool true]) ∧ w = w' := by
  have H1 := Lib.hid (icutp_yes s q hs h w)
  clear h
  go_enter Tryz.func100, Tryz.ntmps100
  go_wp2_with fail
  refine H1.out.mono ?_
  rintro e w1 ⟨rfl, rfl⟩
  go_wp2_with fail
  go_ret2
  exact ⟨rfl, rfl⟩
theorem cutp_no (s q : ByteArray) (hs : s.size ≤ 9223372036854775807) (h : cutP s q = false) (w : World) :
    Calls Tryz.prog 100 #[.string s, .string q] w fun e w' => e = .returned (.tuple #[.string s, .bool false]) ∧ w = w' := by
  have H1 := Lib.hid (icutp_no s q hs h w)
  clear h
  go_enter Tryz.func100, Tryz.ntmps100
  go_wp2_with fail
  refine H1.out.mono ?_
  rintro e w1 ⟨rfl, rfl⟩
  go_wp2_with fail
  go_ret2
  exact ⟨rfl, rfl⟩
end Go.Proofs.YtlnhbndghnkfmaaGreatDoor
namespace Go.Proofs.YtlnhbndghnkfmaaGreatDoor
open Go.RowKit

def numV : Option Nat → Value
  | none => .tuple #[.int .i64 0, .bool false]
  | some n => .tuple #[.int .i64 (n : Int), .bool true]
theorem cutP_iff {s q : ByteArray} : cutP s q = true ↔ q.size ≤ s.size ∧ s.extract 0 q.size = q := by
  unfold cutP
  rw [Bool.and_eq_true, decide_eq_true_iff, eqS_iff]
theorem numW_cut {p nm : ByteArray} (h : cutP nm (p ++ dotB) = false) : numW p nm = none := by
  unfold numW
  rw [if_neg]
  rintro ⟨h1, h2, _⟩
  rw [cutP_iff.2 ⟨h1, h2⟩] at h
  cases h
theorem numW_six {p nm : ByteArray} (h : (nm.extract (p ++ dotB).size nm.size).size ≠ 6) : numW p nm = none := by
  unfold numW
  rw [if_neg]
  rintro ⟨h1, _, h3, _⟩
  apply h
  rw [ByteArray.size_extract]
  omega
theorem numW_dig {p nm : ByteArray} (h : (nm.extract (p ++ dotB).size nm.size).data.toList.all isDig = false) : numW p nm = none := by
  unfold numW
  rw [if_neg]
  rintro ⟨_, _, _, h4⟩
  rw [h] at h4
  cases h4
theorem numW_yes {p nm : ByteArray} (h : cutP nm (p ++ dotB) = true) (h6 : (nm.extract (p ++ dotB).size nm.size).size = 6) (hd : (nm.extract (p ++ dotB).size nm.size).data.toList.all isDig = true) : numW p nm = some (numL (nm.extract (p ++ dotB).size nm.size).data.toList) := by
  unfold numW
  rw [ByteArray.size_extract] at h6
  obtain ⟨h1, h2⟩ := cutP_iff.1 h
  rw [if_pos ⟨h1, h2, by omega, hd⟩]
theorem dig_no {c : UInt8} (h : isDig c = false) : ¬ (48 ≤ c.toNat ∧ c.toNat ≤ 57) := of_decide_eq_false h
theorem dig_yes {c : UInt8} (h : isDig c = true) : 48 ≤ c.toNat ∧ c.toNat ≤ 57 := of_decide_eq_true h
theorem digs_bad {r : ByteArray} {k : Nat} (hk : k < r.size) (h : isDig r[k] = false) : r.data.toList.all isDig = false := by
  rw [List.all_eq_false]
  exact ⟨r[k], by rw [ByteArray.getElem_eq_getElem_data]; exact Array.mem_toList_iff.2 (Array.getElem_mem _), by rw [h]; simp⟩
theorem digs_good {r : ByteArray} (h : ∀ k (hk : k < r.size), isDig r[k] = true) : r.data.toList.all isDig = true := by
  rw [List.all_eq_true]
  intro c hc
  obtain ⟨i, hi, rfl⟩ := Array.mem_iff_getElem.1 (Array.mem_toList_iff.1 hc)
  exact h i hi
theorem numL_snoc (l : List UInt8) (c : UInt8) : numL (l ++ [c]) = numL l * 10 + (c.toNat - 48) := by
  unfold numL
  rw [List.foldl_append]
  rfl
theorem numL_take {r : ByteArray} {k : Nat} (hk : k < r.size) : numL (r.data.toList.take (k + 1)) = numL (r.data.toList.take k) * 10 + (r[k].toNat - 48) := by
  rw [List.take_succ_eq_append_getElem (by rw [← size_list]; exact hk), numL_snoc]
  rfl
theorem numL_lt {r : ByteArray} : ∀ (k : Nat), k ≤ r.size → (∀ j (hj : j < r.size), j < k → isDig r[j] = true) → numL (r.data.toList.take k) < 10 ^ k
  | 0, _, _ => by simp [numL]
  | k + 1, hk, h => by
    rw [numL_take (show k < r.size by omega), Nat.pow_succ]
    have h1 := numL_lt k (by omega) (fun j hj hjk => h j hj (by omega))
    have h2 := dig_yes (h k (by omega) (by omega))
    omega

set_option maxRecDepth 100000 in
theorem number_any (p nm : ByteArray) (hp : p.size ≤ 1000) (hnm : nm.size ≤ 9223372036854775000) (w : World) :
    Calls Tryz.prog 170 #[.string p, .string nm] w fun e w' => e = .returned (numV (numW p nm)) ∧ w = w' := by
  have hps : p.size + 1 ≤ 9223372036854775807 := by omega
  rcases hc : cutP nm (p ++ dotB) with _ | _
  · have H1 := Lib.hid (show Calls Tryz.prog 100 #[.string nm, .string (p ++ ⟨#[46]⟩)] w fun e w' => e = .returned (.tuple #[.string nm, .bool false]) ∧ w = w' from cutp_no nm (p ++ dotB) (by omega) hc w)
    have HF := Lib.hid (numW_cut hc)
    clear hc
    go_enter Tryz.func170, Tryz.ntmps170
    go_wp2_with fail
    refine H1.out.mono ?_
    rintro e w1 ⟨rfl, rfl⟩
    go_wp2_with fail
    go_ret2
    exact ⟨by rw [HF.out]; rfl, rfl⟩
  have H1 := Lib.hid (show Calls Tryz.prog 100 #[.string nm, .string (p ++ ⟨#[46]⟩)] w fun e w' => e = .returned (.tuple #[.string (nm.extract (p ++ dotB).size nm.size), .bool true]) ∧ w = w' from cutp_yes nm (p ++ dotB) (by omega) hc w)
  have hlen : (nm.extract (p ++ dotB).size nm.size).size ≤ 9223372036854775000 := by rw [ByteArray.size_extract]; omega
  have k1 := numW_six (p := p) (nm := nm)
  have k2 := numW_dig (p := p) (nm := nm)
  have k3 := numW_yes hc
  obtain ⟨r, hr⟩ : ∃ r, r = nm.extract (p ++ dotB).size nm.size := ⟨_, rfl⟩
  rw [← hr] at H1 hlen k1 k2 k3
  clear hc hr
  by_cases h6 : r.size = 6
  · have K2 := Lib.hid k2
    have K3 := Lib.hid (k3 h6)
    have H6 := Lib.hid h6
    have h6a : (r.size : Int) ≤ 6 := by omega
    have h6b : 6 ≤ (r.size : Int) := by omega
    have ht : ((r.size : Int) != 6) = false := by rw [h6]; rfl
    clear k1 k2 k3 h6
    go_enter Tryz.func170, Tryz.ntmps170
    go_wp2_with fail
    refine H1.out.mono ?_
    rintro e w1 ⟨rfl, rfl⟩
    go_wp2_with fail
    go_loop [8, 26] (fun n i => ∃ k : Nat, k ≤ r.size ∧ i = .int .i64 k ∧ n = .int .i64 (numL (r.data.toList.take k) : Nat) ∧ Hid (∀ j (hj : j < r.size), j < k → isDig r[j] = true)) (fun _ i => r.size - (intOf i).toNat)
    case atStart => exact ⟨0, Nat.zero_le _, rfl, rfl, fun j _ h => absurd h (Nat.not_lt_zero _)⟩
    case round =>
      obtain ⟨k, hk, rfl, rfl, hall⟩ := hrel
      by_cases hlt : k < r.size
      · have hb : (r[k]).toNat < 256 := UInt8.toNat_lt _
        rcases hq : isDig r[k] with _ | _
        · have hn := dig_no hq
          have HF := Lib.hid (K2.out (digs_bad hlt hq))
          clear hq
          go_wp2_with fail
          all_goals first | (exfalso; omega) | skip
          all_goals go_ret2
          all_goals exact ⟨by rw [HF.out]; rfl, rfl⟩
        · have hy := dig_yes hq
          have HA : Hid (∀ j (hj : j < r.size), j < k + 1 → isDig r[j] = true) := by
            intro j hj hjk
            by_cases e : j = k
            · subst e; exact hq
            · exact hall j hj (by omega)
          have hm : numL (r.data.toList.take k) < 100000 := by
            have := numL_lt k hk hall
            have h5 : 10 ^ k ≤ 10 ^ 5 := Nat.pow_le_pow_right (by decide) (by omega)
            omega
          have HT := Lib.hid (numL_take hlt)
          obtain ⟨m, hme⟩ : ∃ m, m = numL (r.data.toList.take k) := ⟨_, rfl⟩
          rw [← hme] at hm HT ⊢
          clear hq hme
          go_wp2_with fail
          all_goals first | (exfalso; omega) | skip
          all_goals
            go_round
            case rel => exact ⟨k + 1, by omega, by go_num, by rw [HT.out]; go_num, HA⟩
            case measure => simp [intOf]; omega
      · have HF := Lib.hid (K3.out (digs_good (fun j hj => hall j hj (by omega))))
        have hta : r.data.toList.take k = r.data.toList := List.take_of_length_le (by rw [← size_list]; omega)
        rw [hta]
        clear hta
        go_wp2_with fail
        go_ret2
        exact ⟨by rw [HF.out]; rfl, rfl⟩
  · have HF := Lib.hid (k1 h6)
    have ht : ((r.size : Int) != 6) = true := by rw [bne_iff_ne]; omega
    clear k1 k2 k3 h6
    go_enter Tryz.func170, Tryz.ntmps170
    go_wp2_with fail
    refine H1.out.mono ?_
    rintro e w1 ⟨rfl, rfl⟩
    go_wp2_with fail
    go_ret2
    exact ⟨by rw [HF.out]; rfl, rfl⟩
end Go.Proofs.YtlnhbndghnkfmaaGreatDoor
namespace Go.Proofs.YtlnhbndghnkfmaaGreatDoor
open Go.RowKit

section
variable {α : Type}
theorem rows_len (g : α → List Value) (k : Nat) (hg : ∀ x, (g x).length = k) (L : List α) : (L.flatMap g).length = L.length * k := by
  induction L with
  | nil => simp
  | cons x r ih => rw [List.flatMap_cons, List.length_append, ih, hg, List.length_cons, Nat.add_mul, Nat.one_mul, Nat.add_comm]
theorem rows_at (g : α → List Value) (k : Nat) (hg : ∀ x, (g x).length = k) (L : List α) (q r : Nat) (hq : q < L.length) (hr : r < k) : (L.flatMap g)[q * k + r]? = (g L[q])[r]? := by
  induction L generalizing q with
  | nil => exact absurd hq (by simp)
  | cons x l ih =>
    rw [List.flatMap_cons]
    cases q with
    | zero =>
      rw [Nat.zero_mul, Nat.zero_add, List.getElem?_append_left (by rw [hg]; exact hr)]
      rfl
    | succ q =>
      rw [List.getElem?_append_right (by rw [hg, Nat.succ_mul]; omega), hg, show (q + 1) * k + r - k = q * k + r by rw [Nat.succ_mul]; omega, ih q (by simpa using hq)]
      rfl
theorem rows_of (g : α → List Value) (k : Nat) (hg : ∀ x, (g x).length = k) (hk : 0 < k) (L : List α) (j : Nat) (u : Value) (h : (L.flatMap g)[j]? = some u) : ∃ (q r : Nat) (hq : q < L.length), r < k ∧ j = q * k + r ∧ (g L[q])[r]? = some u := by
  obtain ⟨hj, _⟩ := List.getElem?_eq_some_iff.1 h
  rw [rows_len g k hg] at hj
  have hr := Nat.mod_lt j hk
  have hd := Nat.div_add_mod j k
  rw [Nat.mul_comm] at hd
  have hq : j / k < L.length := by rw [Nat.div_lt_iff_lt_mul hk]; exact hj
  refine ⟨j / k, j % k, hq, hr, hd.symm, ?_⟩
  rw [← rows_at g k hg L _ _ hq hr, hd]
  exact h
theorem rows_take (g : α → List Value) (k : Nat) (hg : ∀ x, (g x).length = k) (L : List α) (q : Nat) : (L.flatMap g).take (q * k) = (L.take q).flatMap g := by
  induction L generalizing q with
  | nil => simp
  | cons x l ih =>
    cases q with
    | zero => simp
    | succ q => rw [List.flatMap_cons, List.take_succ_cons, List.flatMap_cons, List.take_append, hg, show (q + 1) * k - k = q * k by rw [Nat.succ_mul]; omega, ih, List.take_of_length_le (by rw [hg, Nat.succ_mul]; omega)]
theorem rows_drop (g : α → List Value) (k : Nat) (hg : ∀ x, (g x).length = k) (L : List α) (q : Nat) : (L.flatMap g).drop (q * k) = (L.drop q).flatMap g := by
  induction L generalizing q with
  | nil => simp
  | cons x l ih =>
    cases q with
    | zero => simp
    | succ q => rw [List.flatMap_cons, List.drop_succ_cons, List.drop_append, hg, show (q + 1) * k - k = q * k by rw [Nat.succ_mul]; omega, ih, List.drop_of_length_le (by rw [hg, Nat.succ_mul]; omega), List.nil_append]
theorem rows_set (g : α → List Value) (k : Nat) (hg : ∀ x, (g x).length = k) (L : List α) (q r : Nat) (hq : q < L.length) (hr : r < k) (y : α) (u : Value) (hy : g y = (g L[q]).set r u) : (L.flatMap g).set (q * k + r) u = (L.set q y).flatMap g := by
  induction L generalizing q with
  | nil => exact absurd hq (by simp)
  | cons x l ih =>
    cases q with
    | zero =>
      rw [List.set_cons_zero, List.flatMap_cons, List.flatMap_cons, Nat.zero_mul, Nat.zero_add, List.set_append_left _ _ (by rw [hg]; exact hr), hy]
      rfl
    | succ q =>
      rw [List.set_cons_succ, List.flatMap_cons, List.flatMap_cons, List.set_append_right _ _ (by rw [hg, Nat.succ_mul]; omega), hg, show (q + 1) * k + r - k = q * k + r by rw [Nat.succ_mul]; omega, ih q (by simpa using hq) hy]
end

/-- Nothing that was there has changed, but the block r. -/
def Kp (r : Option Nat) (w w' : World) : Prop := w.grownBy w' r
theorem Kp.size {r : Option Nat} {w w' : World} (h : Kp r w w') : w.heap.size ≤ w'.heap.size := World.grownBy.size h
theorem Kp.of_gr {r : Option Nat} {w w' : World} (h : Gr w w') : Kp r w w' := ⟨h.os, h.tape, h.output, h.size, fun k hk _ => h.block k hk⟩
theorem Kp.refl (r : Option Nat) (w : World) : Kp r w w := Kp.of_gr (Gr.refl w)
theorem Kp.gr {r : Option Nat} {a b c : World} (h : Kp r a b) (k : Gr b c) : Kp r a c :=
  ⟨k.os.trans h.os, k.tape.trans h.tape, k.output.trans h.output, Nat.le_trans h.size k.size, fun i hi hr => (k.block i (Nat.lt_of_lt_of_le hi h.size)).trans (h.block i hi hr)⟩
theorem Kp.trans {r : Option Nat} {a b c : World} (h : Kp r a b) (k : Kp r b c) : Kp r a c := World.grownBy.trans h k
theorem Kp.drew {r : Option Nat} {a b : World} (h : Kp r a b) : Kp r a b.drew := h.gr (Gr.refl _).drew
theorem Kp.drewN {r : Option Nat} {a b : World} (h : Kp r a b) (n : Nat) : Kp r a (b.drewN n) := h.gr ((Gr.refl _).drewN n)
theorem Kp.set {r : Option Nat} {a b : World} (h : Kp r a b) {g : Nat} (hg : a.heap.size ≤ g ∨ r = some g) (i : Nat) (u : Value) : Kp r a (b.setCell ⟨g, i, none⟩ u) := by
  refine ⟨h.os, h.tape, h.output, by simpa [World.setCell] using h.size, fun k hk hr => ?_⟩
  rw [← h.block k hk hr]
  refine Below.heap_setCell b ⟨g, i, none⟩ u k ?_
  rcases hg with hg | hg
  · show k ≠ g; omega
  · rintro rfl
    exact hr hg.symm
theorem Kp.below {r : Option Nat} {a b : World} {B : Nat} (h : Kp r a b) (hB : B ≤ a.heap.size) (hr : ∀ g, r = some g → B ≤ g) : Below B a b :=
  ⟨h.os, h.tape, h.output, h.size, fun k hk => h.block k (by omega) (fun e => by have := hr k e.symm; omega)⟩
theorem Kp.cell {r : Option Nat} {a b : World} (h : Kp r a b) {p : Addr} {v : Value} (hc : a.cell? p = some v) (hr : some p.block ≠ r) : b.cell? p = some v := World.grownBy.cell h hc hr
theorem Kp.frozen {r : Option Nat} {a b : World} (h : Kp r a b) {p : Addr} (hlt : p.block < a.heap.size) (hr : some p.block ≠ r) : b.frozen? p = a.frozen? p := World.grownBy.frozen_far h p hlt hr
theorem setCell_here {w : World} {b i : Nat} {u v : Value} (h : w.cell? ⟨b, i, none⟩ = some u) : (w.setCell ⟨b, i, none⟩ v).cell? ⟨b, i, none⟩ = some v := World.cell?_setCell_same _ _ _ h
theorem setCell_there {w : World} {b b' i j : Nat} {u v : Value} (h : w.cell? ⟨b', j, none⟩ = some u) (hne : b' ≠ b) : (w.setCell ⟨b, i, none⟩ v).cell? ⟨b', j, none⟩ = some u := by
  rw [World.cell?_setCell_other _ _ _ _ (fun e => hne (by injection e with e1; exact e1.symm))]
  exact h
section
variable {w : World} {B : Nat} {t : TypeId} {g n c : Nat} {xs : List Value}
theorem own_len {size : Nat} (h : w.ownsRow B t size (.slice (some ⟨g, 0, none⟩) n c) n xs) : n ≤ c ∧ c ≤ 9223372036854775807 ∧ B ≤ g ∧ g < w.heap.size := by
  rcases h.2 with ⟨hh, _⟩ | ⟨g', cap', cur, hh, hb, hg, hn, hm, _⟩
  · cases hh
  · injection hh with h1 h2 h3
    injection h1 with h1
    injection h1 with h1
    subst h1 h3
    exact ⟨hn, hm, hb, (Array.getElem?_eq_some_iff.1 hg).1⟩
/-- Rows of unlike element types lie apart. -/
theorem own_types {size size' n' : Nat} {t' : TypeId} {v v' : Value} {ys : List Value} (h : w.ownsRow B t size v n xs) (h' : w.ownsRow B t' size' v' n' ys) (ht : t ≠ t') {b : Nat} (e : v.ownBlock = some b) : v'.ownBlock ≠ some b := by
  intro e'
  rcases h.2 with ⟨rfl, _⟩ | ⟨g, cap, cur, rfl, _, hg, _⟩
  · simp [Value.ownBlock] at e
  · rcases h'.2 with ⟨rfl, _⟩ | ⟨g', cap', cur', rfl, _, hg', _⟩
    · simp [Value.ownBlock] at e'
    · have e1 : g = b := by simpa [Value.ownBlock] using e
      have e2 : g' = b := by simpa [Value.ownBlock] using e'
      subst e1 e2
      rw [hg] at hg'
      injection hg' with hh
      injection hh with _ hh
      exact ht hh
theorem own_set_other {size : Nat} {v : Value} (h : w.ownsRow B t size v n xs) {b : Nat} (hb : v.ownBlock ≠ some b) (i : Nat) (u : Value) : (w.setCell ⟨b, i, none⟩ u).ownsRow B t size v n xs := by
  have hg : w.grownBy (w.setCell ⟨b, i, none⟩ u) (some b) := ⟨rfl, rfl, rfl, by simp [World.setCell], fun k _ hk => Below.heap_setCell w ⟨b, i, none⟩ u k (fun e => hk (by rw [e]))⟩
  exact World.ownsRow.kept h hg (.inr hb)
end
theorem own_prefix {w : World} {B : Nat} {t : TypeId} {size g n c k : Nat} {xs : List Value} (h : w.ownsRow B t size (.slice (some ⟨g, 0, none⟩) n c) n xs) (hk : k ≤ n) : w.ownsRow B t size (.slice (some ⟨g, 0, none⟩) k c) k (xs.take (k * size)) := by
  have hkn : k * size ≤ n * size := Nat.mul_le_mul_right _ hk
  refine ⟨by rw [List.length_take, h.1]; omega, ?_⟩
  rcases h.2 with ⟨hh, _⟩ | ⟨g', cap, cur, hh, hb, hg, hn, hm, hc, ht⟩
  · cases hh
  · injection hh with e1 e2 e3
    injection e1 with e1
    injection e1 with e1
    subst e1 e3
    refine .inr ⟨g, c, cur, rfl, hb, hg, by omega, hm, hc, ?_⟩
    rw [← ht, List.take_take, Nat.min_eq_left hkn]
theorem slice_from_g {P : Program} (t : TypeId) (size : Nat) (he : P.underlying t = some (.slice (P.elem t))) (hz : ∀ W : World, (sizeOf (P.elem t)).run P W = .ok size W) (n c k : Nat) (hk : k ≤ n) (A : Option Addr) :
    ∀ W : World, (Instr.slice t (.slice A n c) (some (.int .i64 (k : Int))) none none).run P W = .ok (sliced A k n c size) W := by
  intro W
  rw [run_slice_l W _ A n c he .i64 (k : Int) (by omega) (by omega), hz]
  rfl
theorem slice_to_g {P : Program} (t : TypeId) (size : Nat) (he : P.underlying t = some (.slice (P.elem t))) (hz : ∀ W : World, (sizeOf (P.elem t)).run P W = .ok size W) (n c k : Nat) (hk : k ≤ c) (A : Option Addr) :
    ∀ W : World, (Instr.slice t (.slice A n c) none (some (.int .i64 (k : Int))) none).run P W = .ok (.slice A k c) W := by
  intro W
  rw [run_slice_h W _ A n c he .i64 (k : Int) (by omega) (by omega), hz]
  show Result.ok (sliced A 0 (k : Int).toNat c size) W = _
  unfold sliced
  rw [Int.toNat_natCast]
  cases A with
  | none => simp
  | some a => simp [Addr.add]
end Go.Proofs.YtlnhbndghnkfmaaGreatDoor
