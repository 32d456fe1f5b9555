/- Walks: names of segments. -/
import Derived.Test.YtmkcgnljankmdaaDoorWalA
import Derived.Test.YtmkcgnljankmdaaDoorCodeB
import Derived.Test.YtmkcgnljankmdaaDoorSlc
namespace Go.Proofs.YtmkcgnljankmdaaDoor
open Go.RowKit

theorem run_conv6 (w : World) (a b c d e f : Int) (cap : Nat) (T : TypeId) :
    (convert 70 9 (.slice (some ⟨w.heap.size, 0, none⟩) 6 cap)).run Tryd.prog (w.alloc (.cells #[.int .u8 a, .int .u8 b, .int .u8 c, .int .u8 d, .int .u8 e, .int .u8 f] T)) =
      .ok (.string (strOfNums [a, b, c, d, e, f])) (w.alloc (.cells #[.int .u8 a, .int .u8 b, .int .u8 c, .int .u8 d, .int .u8 e, .int .u8 f] T)) := by
  refine run_convert_bytes_arg _ 70 5 Tryd.underlying70 Tryd.underlying5 _ _ _ _ [a, b, c, d, e, f] rfl ?_ _ Tryd.underlying9
  intro i hi
  rw [Nat.zero_add, World.cell?_alloc_mark]
  match i, hi with
  | 0, _ => rfl
  | 1, _ => rfl
  | 2, _ => rfl
  | 3, _ => rfl
  | 4, _ => rfl
  | 5, _ => rfl
theorem six_size (a b c d e f : Int) : (strOfNums [a, b, c, d, e, f]).size = 6 := rfl
theorem digs_of (a b c d e f : Nat) (n : Nat) (ha : a = n / 100000 % 10) (hb : b = n / 10000 % 10) (hc : c = n / 1000 % 10) (hd : d = n / 100 % 10) (he : e = n / 10 % 10) (hf : f = n % 10) :
    strOfNums [48 + (a : Int), 48 + (b : Int), 48 + (c : Int), 48 + (d : Int), 48 + (e : Int), 48 + (f : Int)] = ⟨(dig6 n).toArray⟩ := by
  subst ha hb hc hd he hf
  rfl
set_option maxRecDepth 100000 in
theorem wname_any (p : ByteArray) (hp : p.size ≤ 9223372036854775000) (n : Nat) (hn : n ≤ 9223372036854775807) (w : World) :
    Calls Tryd.prog 25 #[.string p, .int .i64 (n : Int)] w fun e w' => e = .returned (.string (nameW p n)) ∧ Gr w w' := by
  have hcv := fun a b c d e f cap => run_conv6 w a b c d e f cap 69
  have hz6 := six_size
  have HF := Lib.hid (digs_of (n % 1000000 / 10 / 10 / 10 / 10 / 10 % 10) (n % 1000000 / 10 / 10 / 10 / 10 % 10) (n % 1000000 / 10 / 10 / 10 % 10) (n % 1000000 / 10 / 10 % 10) (n % 1000000 / 10 % 10) (n % 10) n (by omega) (by omega) (by omega) (by omega) (by omega) rfl)
  go_enter Tryd.func25, Tryd.ntmps25
  go_wp2_with fail
  go_rounds 7
  go_ret
  exact ⟨by unfold nameW; rw [← HF.out]; rfl, gr_box w _⟩
theorem infoU8w : (Tryd.prog.info? 5).map (fun i => (i.zero, i.size, i.bytes)) = some (some (.int .u8 0), 1, 1) := by kernel_rfl
theorem make_six : ∀ W : World, (Instr.makeSlice 70 (.int .i64 6) (.int .i64 6)).run Tryd.prog W = .ok (.slice (some ⟨W.heap.size, 0, none⟩) 6 6) (W.alloc (.cells #[.int .u8 0, .int .u8 0, .int .u8 0, .int .u8 0, .int .u8 0, .int .u8 0] 5)) := by
  intro W
  obtain ⟨i0, hi, hz0, hz1, hz2⟩ := info_parts infoU8w
  have h := run_make (P := Tryd.prog) W 70 5 i0 _ Tryd.underlying70 hi hz0 .i64 .i64 6 6 (by omega) (by omega) (by rw [hz2]; omega) (by omega)
  rw [hz1] at h
  have e : madeCells (Value.int .u8 0).cells (Int.toNat 6 * 1) = #[.int .u8 0, .int .u8 0, .int .u8 0, .int .u8 0, .int .u8 0, .int .u8 0] := by kernel_rfl
  rw [e] at h
  exact h
set_option maxRecDepth 100000 in
theorem rwname_any (p : ByteArray) (hp : p.size ≤ 9223372036854775000) (n : Nat) (hn : n ≤ 9223372036854775807) (w : World) :
    Calls Tryd.prog 29 #[.string p, .int .i64 (n : Int)] w fun e w' => e = .returned (.string (nameW p n)) ∧ Gr w w' := by
  have hcv := fun a b c d e f cap => run_conv6 w a b c d e f cap 5
  have hmk := make_six
  have hz6 := six_size
  have HF := Lib.hid (digs_of (n / 10 / 10 / 10 / 10 / 10 % 10) (n / 10 / 10 / 10 / 10 % 10) (n / 10 / 10 / 10 % 10) (n / 10 / 10 % 10) (n / 10 % 10) (n % 10) n (by omega) (by omega) (by omega) (by omega) (by omega) rfl)
  go_enter Tryd.func29, Tryd.ntmps29
  go_wp2_with fail
  go_rounds 7
  go_ret
  exact ⟨by unfold nameW; rw [← HF.out]; rfl, gr_box w _⟩
/-- strings.CutPrefix, and what it calls. -/
def cutP (s q : ByteArray) : Bool := decide (q.size ≤ s.size) && eqS (s.extract 0 q.size) q
theorem hasPrefix_any (s q : ByteArray) (_hs : s.size ≤ 9223372036854775807) (w : World) :
    Calls Tryd.prog 51 #[.string s, .string q] w fun e w' => e = .returned (.bool (cutP s q)) ∧ w = w' := by
  by_cases h : q.size ≤ s.size
  · have ht : (q.size : Int) ≤ (s.size : Int) := by omega
    have hb : cutP s q = eqS (s.extract 0 q.size) q := by unfold cutP; rw [decide_eq_true h, Bool.true_and]
    have HB := Lib.hid hb
    clear hb
    go_enter Tryd.func51, Tryd.ntmps51
    go_wp2
    go_ret
    exact ⟨by rw [HB.out]; rfl, rfl⟩
  · have ht : ¬ (q.size : Int) ≤ (s.size : Int) := by omega
    have hb : cutP s q = false := by unfold cutP; rw [decide_eq_false h, Bool.false_and]
    have HB := Lib.hid hb
    clear hb
    go_enter Tryd.func51, Tryd.ntmps51
    go_wp2
    go_ret
    exact ⟨by rw [HB.out]; rfl, rfl⟩
theorem icutp_yes (s q : ByteArray) (hs : s.size ≤ 9223372036854775807) (h : cutP s q = true) (w : World) :
    Calls Tryd.prog 49 #[.string s, .string q] w fun e w' => e = .returned (.tuple #[.string (s.extract q.size s.size), .bool true]) ∧ w = w' := by
  have hq : q.size ≤ s.size := by unfold cutP at h; rw [Bool.and_eq_true] at h; exact of_decide_eq_true h.1
  have h1 := hasPrefix_any s q hs w
  rw [h] at h1
  have H1 := Lib.hid h1
  clear h1 h
  go_enter Tryd.func49, Tryd.ntmps49
  go_wp2_with fail
  refine H1.out.mono ?_
  rintro e w1 ⟨rfl, rfl⟩
  go_wp2_with fail
  go_ret2
  exact ⟨rfl, rfl⟩
theorem icutp_no (s q : ByteArray) (hs : s.size ≤ 9223372036854775807) (h : cutP s q = false) (w : World) :
    Calls Tryd.prog 49 #[.string s, .string q] w fun e w' => e = .returned (.tuple #[.string s, .bool false]) ∧ w = w' := by
  have h1 := hasPrefix_any s q hs w
  rw [h] at h1
  have H1 := Lib.hid h1
  clear h1 h
  go_enter Tryd.func49, Tryd.ntmps49
  go_wp2_with fail
  refine H1.out.mono ?_
  rintro e w1 ⟨rfl, rfl⟩
  go_wp2_with fail
  go_ret2
  exact ⟨rfl, rfl⟩
theorem cutp_yes (s q : ByteArray) (hs : s.size ≤ 9223372036854775807) (h : cutP s q = true) (w : World) :
    Calls Tryd.prog 45 #[.string s, .string q] w fun e w' => e = .returned (.tuple #[.string (s.extract q.size s.size), .bool true]) ∧ w = w' := by
  have H1 := Lib.hid (icutp_yes s q hs h w)
  clear h
  go_enter Tryd.func45, Tryd.ntmps45
  go_wp2_with fail
  refine H1.out.mono ?_
  rintro e w1 ⟨rfl, rfl⟩
  go_wp2_with fail
  go_ret2
  exact ⟨rfl, rfl⟩
theorem cutp_no (s q : ByteArray) (hs : s.size ≤ 9223372036854775807) (h : cutP s q = false) (w : World) :
    Calls Tryd.prog 45 #[.string s, .string q] w fun e w' => e = .returned (.tuple #[.string s, .bool false]) ∧ w = w' := by
  have H1 := Lib.hid (icutp_no s q hs h w)
  clear h
  go_enter Tryd.func45, Tryd.ntmps45
  go_wp2_with fail
  refine H1.out.mono ?_
  rintro e w1 ⟨rfl, rfl⟩
  go_wp2_with fail
  go_ret2
  exact ⟨rfl, rfl⟩
end Go.Proofs.YtmkcgnljankmdaaDoor
