/- CodeScans: the law's walk. -/
import Derived.Test.YthmnffiiondggaaDoorCodeG
import Derived.Test.YthmnffiiondggaaDoorSame
namespace Go.Proofs.YthmnffiiondggaaDoor
open Go.RowKit

theorem scans_law (s : ByteArray) (hs : s.size ≤ 1048576) (w : World) (hH : Halves w) :
    Calls Tryd.prog 7 #[.string s] w fun e w' => e = .returned (.bool true) ∧ Gr w w' := by
  have h1 := awake_any w hH
  obtain ⟨a, c, hf, hr⟩ : ∃ (a : ByteArray) (c : Int), (∀ w1 : World, Gr w w1 → Calls Tryd.prog 28 #[.string s] w1 fun e w' => e = .returned (.tuple #[.string a, .int .i64 c]) ∧ Gr w1 w') ∧
      (∀ w1 : World, Calls Tryd.prog 29 #[.string s] w1 fun e w' => e = .returned (.tuple #[.string a, .int .i64 c]) ∧ Gr w1 w') := by
    by_cases h : s.size ≤ 65536
    · exact ⟨_, _, fun w1 g => frame_yes s h w1 (hH.gr g), fun w1 => rframe_yes s h w1⟩
    · exact ⟨_, _, fun w1 _ => (frame_no s (by omega) w1).mono fun e w' ⟨x, y⟩ => ⟨x, y ▸ Gr.refl _⟩, fun w1 => (rframe_no s (by omega) w1).mono fun e w' ⟨x, y⟩ => ⟨x, y ▸ Gr.refl _⟩⟩
  have hc1 := bytesOf_scan _ s.data.toList (Nat.le_refl _)
  have hc2 := count_bytes (scanAll s.data.toList)
  have hsz : s.data.toList.length = s.size := (Lib.size_eq s).symm
  have h2 := fun (w1 : World) (g : Gr w w1) => scan_any s (by omega) (by omega) w1 (hH.gr g)
  have h3 := fun (w1 : World) => rscan_any s (by omega) (by omega) w1
  obtain ⟨L, hL⟩ : ∃ L, L = (scanAll s.data.toList).map bs := ⟨_, rfl⟩
  obtain ⟨n, hn⟩ : ∃ n, n = bytesOf (scanAll s.data.toList) := ⟨_, rfl⟩
  rw [← hL, ← hn] at h2 h3
  have H1 := Lib.hid h1
  have HF := Lib.hid hf
  have HR := Lib.hid hr
  have H2 := Lib.hid h2
  have H3 := Lib.hid h3
  clear h1 h2 h3 hf hr hL hn hH hc1 hc2 hsz
  go_enter Tryd.func7, Tryd.ntmps7
  go_wp2_with fail
  refine H1.out.mono ?_
  rintro e w1 ⟨rfl, g1⟩
  go_wp2_with fail
  refine (HF.out _ g1).mono ?_
  rintro e w2 ⟨rfl, g2⟩
  go_wp2_with fail
  refine (HR.out _).mono ?_
  rintro e w3 ⟨rfl, g3⟩
  go_wp2_with fail
  have G3 : Gr w w3 := (Gr.trans g1 g2).trans g3
  refine (H2.out _ G3).mono ?_
  rintro e w4 ⟨v1, rfl, s1, g4⟩
  have S1 := Lib.hid (SV.of_own s1)
  clear s1
  go_wp2_with fail
  refine (H3.out _).mono ?_
  rintro e w5 ⟨v2, rfl, s2, g5⟩
  have S2 := Lib.hid (SV.of_own s2)
  clear s2
  go_wp2_with fail
  refine (same_any v1 v2 L L _ (S1.out.gr g5) S2.out).mono ?_
  rw [decide_eq_true rfl]
  rintro e w6 ⟨rfl, nq, rfl⟩
  go_wp2_with fail
  go_ret
  exact ⟨rfl, ((G3.trans g4).trans g5).drewN _⟩
end Go.Proofs.YthmnffiiondggaaDoor
