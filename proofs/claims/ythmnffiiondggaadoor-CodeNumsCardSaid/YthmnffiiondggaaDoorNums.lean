/- CodeNums: the law's walk. -/
import Derived.Test.YthmnffiiondggaaDoorCodeC
import Derived.Test.YthmnffiiondggaaDoorBase
namespace Go.Proofs.YthmnffiiondggaaDoor
open Go.RowKit

theorem rd_be8 (n : Nat) (hn : n < 18446744073709551616) : rd (be8 n) = n := by
  simp only [be8, rd, List.foldl, UInt8.toNat_ofNat', Nat.zero_mul, Nat.zero_add]
  omega

theorem nums_law (n : Nat) (hn : n < 18446744073709551616) (s : ByteArray) (w : World) (hH : Halves w) :
    Calls Tryd.prog 3 #[.int .u64 (n : Int), .string s] w fun e w' => e = .returned (.bool true) ∧ Below w.heap.size w w' := by
  have h1 := awake_any w hH
  have h2 := fun w => num_any n hn w
  have h3 := fun w => rnum_any n hn w
  have h4 := fun w => readNum_yes (bs (be8 n)) rfl w
  rw [show (bs (be8 n)).data.toList = be8 n from rfl, rd_be8 n hn] at h4
  obtain ⟨b8, hb8⟩ : ∃ b, b = bs (be8 n) := ⟨_, rfl⟩
  rw [← hb8] at h2 h3 h4
  have H1 := Lib.hid h1
  have H2 := Lib.hid h2
  have H3 := Lib.hid h3
  have H4 := Lib.hid h4
  clear h1 h2 h3 h4 hb8 hH
  obtain ⟨v, c, hv, hc⟩ : ∃ (v c : Int), (∀ w : World, Calls Tryd.prog 15 #[.string s] w fun e w' => e = .returned (.tuple #[.int .u64 v, .int .i64 c]) ∧ w = w') ∧ (∀ w : World, Calls Tryd.prog 16 #[.string s] w fun e w' => e = .returned (.tuple #[.int .u64 v, .int .i64 c]) ∧ ∃ n, w' = w.drewN n) := by
    by_cases h8 : s.size = 8
    · exact ⟨_, _, fun w => readNum_yes s h8 w, fun w => rreadNum_yes s h8 w⟩
    · exact ⟨_, _, fun w => readNum_no s h8 w, fun w => (rreadNum_no s h8 w).mono fun e w' ⟨a, b⟩ => ⟨a, 0, by rw [← b]; rfl⟩⟩
  have HV := Lib.hid hv
  have HC := Lib.hid hc
  clear hv hc
  go_enter Tryd.func3, Tryd.ntmps3
  go_wp2_with fail
  refine H1.out.mono ?_
  rintro e w1 ⟨rfl, hb1⟩
  go_wp2_with fail
  refine (H2.out _).mono ?_
  rintro e w2 ⟨rfl, hb2⟩
  go_wp2_with fail
  refine (H3.out _).mono ?_
  rintro e w3 ⟨rfl, hb3⟩
  go_wp2_with fail
  refine (H2.out _).mono ?_
  rintro e w4 ⟨rfl, hb4⟩
  go_wp2_with fail
  refine (H4.out _).mono ?_
  rintro e w5 ⟨rfl, rfl⟩
  go_wp2_with fail
  refine (HV.out _).mono ?_
  rintro e w6 ⟨rfl, rfl⟩
  go_wp2_with fail
  refine (HC.out _).mono ?_
  rintro e w7 ⟨rfl, nq, rfl⟩
  go_wp2_with fail
  go_ret
  exact ⟨rfl, (((Gr.trans hb1 hb2).trans hb3).trans hb4).drewN nq⟩
end Go.Proofs.YthmnffiiondggaaDoor
