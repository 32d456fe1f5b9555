/- Walks: the document's ReadNum, the fixed fact of the laws. -/
import Derived.Test.YthmnffiiondggaaDoorCodeB
import Derived.Lib.Strings
namespace Go.Proofs.YthmnffiiondggaaDoor
open Go.RowKit

theorem or_rd8 (x y : Nat) (hx : x < 4294967296) (hy : y < 4294967296) :
    bits .or .u64 ((x : Int) * 4294967296) (y : Int) = ((x * 4294967296 + y : Nat) : Int) := by
  rw [show ((x : Int) * 4294967296) = ((x * 4294967296 : Nat) : Int) from by omega, bits_or_u64_nat _ _ (by omega) (by omega)]
  have := Nat.two_pow_add_eq_or_of_lt (i := 32) (b := y) (by omega) x
  rw [show 2 ^ 32 * x = x * 4294967296 from by omega] at this
  rw [← this]
theorem rd_halves {s : ByteArray} (h8 : s.size = 8) : rdS (s.extract 0 4).data.toList * 4294967296 + rdS (s.extract 4 s.size).data.toList = rd s.data.toList := by
  rw [Lib.extract_data, Lib.extract_data, h8]
  obtain ⟨a, b, c, d, e, f, g, i, hl⟩ := list8 (l := s.data.toList) (by rw [Array.length_toList]; exact h8)
  rw [hl]
  simp only [List.drop, List.take, rdS, rd, List.foldl, rd4]
  omega
theorem rreadNum_yes (s : ByteArray) (h8 : s.size = 8) (w : World) :
    Calls Tryd.prog 16 #[.string s] w fun e w' => e = .returned (.tuple #[.int .u64 (rd s.data.toList), .int .i64 0]) ∧ ∃ n, w' = w.drewN n := by
  have t8 : ((s.size : Int) != 8) = false := by rw [h8]; rfl
  have l8 : s.size ≤ 8 := by omega
  have m8 : 8 ≤ s.size := by omega
  have c1 := fun w => rreadShort_any (s.extract 0 4) (by rw [ByteArray.size_extract, h8]; decide) (by rw [ByteArray.size_extract, h8]; decide) w
  have c2 := fun w => rreadShort_any (s.extract 4 s.size) (by rw [ByteArray.size_extract, h8]; decide) (by rw [ByteArray.size_extract, h8]; decide) w
  have hr := rd_halves h8
  have hx := rdS_lt (s.extract 0 4).data.toList
  have hy := rdS_lt (s.extract 4 s.size).data.toList
  generalize rdS (s.extract 0 4).data.toList = x at *
  generalize rdS (s.extract 4 s.size).data.toList = y at *
  have ho := or_rd8 x y hx hy
  have HR := Lib.hid hr
  have C1 := Lib.hid c1
  have C2 := Lib.hid c2
  clear h8 hr c1 c2
  have i4 : (4 : Int) ≤ (s.size : Int) := by omega
  go_enter Tryd.func16, Tryd.ntmps16
  go_wp2_with fail
  go_quiet ((first | with_reducible exact Calls.quiet_of (C1.out _) | with_reducible exact Calls.quiet_of (C2.out _)))
  go_wp2
  go_ret2
  exact ⟨by rw [← HR.out]; rfl, _, rfl⟩
theorem rreadNum_no (s : ByteArray) (h8 : s.size ≠ 8) (w : World) :
    Calls Tryd.prog 16 #[.string s] w fun e w' => e = .returned (.tuple #[.int .u64 0, .int .i64 3]) ∧ w = w' := by
  have t8 : ((s.size : Int) != 8) = true := by rw [bne_iff_ne]; omega
  clear h8
  go_enter Tryd.func16, Tryd.ntmps16
  go_wp2_with fail
  go_ret2
  exact ⟨rfl, rfl⟩
theorem awake_any (w : World) (hH : Halves w) :
    Calls Tryd.prog 12 #[] w fun e w' => e = .returned (.bool true) ∧ Below w.heap.size w w' := by
  have h1 := sum_any ⟨#[49, 50, 51, 52, 53, 54, 55, 56, 57]⟩ (by decide) w hH
  have e1 : Crc.sum [49, 50, 51, 52, 53, 54, 55, 56, 57] = 3421780262 := by decide
  have h2 := fun w => num_any 258 (by decide) w
  have e2 : bs (be8 258) = ⟨#[0, 0, 0, 0, 0, 0, 1, 2]⟩ := rfl
  rw [e2] at h2
  rw [show (⟨#[49, 50, 51, 52, 53, 54, 55, 56, 57]⟩ : ByteArray).data.toList = [49, 50, 51, 52, 53, 54, 55, 56, 57] from rfl, e1] at h1
  have H1 := Lib.hid h1
  have H2 := Lib.hid h2
  clear e1 h1 h2 e2 hH
  go_enter Tryd.func12, Tryd.ntmps12
  go_wp2_with (first | (go_at_call 26; refine H1.out.mono ?_; rintro e w' ⟨rfl, rfl⟩) | (go_at_call 13; refine (H2.out _).mono ?_; rintro e w2 ⟨rfl, hb⟩))
  go_ret
  exact ⟨rfl, hb⟩
end Go.Proofs.YthmnffiiondggaaDoor
