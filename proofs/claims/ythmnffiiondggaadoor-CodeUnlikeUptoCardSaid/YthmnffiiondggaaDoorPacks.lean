/- CodePacks: the law's walk. -/
import Derived.Test.YthmnffiiondggaaDoorRPack
import Derived.Test.YthmnffiiondggaaDoorRUnpack
import Derived.Test.YthmnffiiondggaaDoorKept
namespace Go.Proofs.YthmnffiiondggaaDoor
open Go.RowKit

theorem pack_val (L : List ByteArray) : ∃ (p : ByteArray) (c : Int), packVal L = .tuple #[.string p, .int .i64 c] := by
  by_cases h : okPack L
  · exact ⟨_, _, packVal_yes h⟩
  · exact ⟨_, _, packVal_no h⟩
/-- What both of Unpack answer. -/
def RetU (v : Value) (F : List ByteArray) (c : Int) (w : World) (e : Ending) (w' : World) : Prop :=
  e = .returned (.tuple #[v, .int .i64 c]) ∧ SV w' v F ∧ Gr w w'
theorem ret_u {o : Option (List (List UInt8))} : ∃ (F : List ByteArray) (c : Int), ∀ (w : World) (e : Ending) (w' : World), RetUnpack o w e w' → ∃ v, RetU v F c w e w' := by
  cases o with
  | none => exact ⟨[], 3, fun w e w' h => ⟨_, h.1, SV.nil w', h.2⟩⟩
  | some fs => exact ⟨fs.map bs, 0, fun w e w' ⟨v, h1, h2, h3⟩ => ⟨v, h1, SV.of_own h2, h3⟩⟩

set_option maxRecDepth 100000 in
set_option maxHeartbeats 1000000 in
theorem packs_law (w : World) (v : Value) (L : List ByteArray) (hv : SV w v L) (hlen : (L.length + 2) * 16 ≤ 140737488355328) (hmax : ∀ s ∈ L, s.size ≤ 281474976710656) (s : ByteArray) (hs : s.size ≤ maxLen) (hH : Halves w) :
    Calls Tryd.prog 4 #[v, .string s] w fun e w' => e = .returned (.bool true) ∧ Gr w w' := by
  have H1 := Lib.hid (awake_any w hH)
  have H2 := Lib.hid (fun (w1 : World) (g : Gr w w1) => roomy_any v L w1 (hv.gr g) hlen)
  have hmax2 : ∀ s ∈ L, s.size ≤ maxLen := fun s hs => by have := hmax s hs; unfold maxLen; omega
  have H3 := Lib.hid (fun (vr : Value) (w1 : World) (h : SV w1 vr L) => pack_any vr L w1 h hmax2)
  have H4 := Lib.hid (fun (vr : Value) (w1 : World) (h : SV w1 vr L) => rpack_any vr L w1 h hmax)
  obtain ⟨p, c, hp⟩ := pack_val L
  rw [hp] at H3 H4
  obtain ⟨F, c2, hr⟩ := @ret_u (unpackL s.data.toList)
  have H5 := Lib.hid (fun (w1 : World) => (unpack_any s hs w1).mono fun e w' h => hr w1 e w' h)
  have H6 := Lib.hid (fun (w1 : World) => (runpack_any s hs w1).mono fun e w' h => hr w1 e w' h)
  have HV := Lib.hid hv
  clear hp hr hv hmax hmax2 hs hH hlen
  obtain ⟨A0, c0, rfl, _⟩ := HV.out
  go_enter Tryd.func4, Tryd.ntmps4
  go_wp2_with fail
  refine H1.out.mono ?_
  rintro e w1 ⟨rfl, g1⟩
  go_wp2_with fail
  refine (H2.out _ g1).mono ?_
  rintro e w2 ⟨g, cap, rfl, hown, g2⟩
  have G2 : Gr w w2 := Gr.trans g1 g2
  have HO := Lib.hid hown
  clear hown
  go_wp2_with fail
  refine (H3.out _ _ (sv_front HO.out)).mono ?_
  rintro e w3 ⟨rfl, g3⟩
  go_wp2_with fail
  refine (H4.out _ _ (HV.out.gr (G2.trans g3))).mono ?_
  rintro e w4 ⟨rfl, g4⟩
  have G4 : Gr w w4 := (G2.trans g3).trans g4
  go_wp2_with fail
  refine (kept_any _ L g cap _ w4 (HV.out.gr G4) (own_gr (own_gr HO.out g3) g4)).mono ?_
  rintro e w5 ⟨rfl, g5⟩
  go_wp2_with fail
  refine (H5.out _).mono ?_
  rintro e w6 ⟨v1, rfl, s1, g6⟩
  have S1 := Lib.hid s1
  clear s1
  go_wp2_with fail
  refine (H6.out _).mono ?_
  rintro e w7 ⟨v2, rfl, s2, g7⟩
  have S2 := Lib.hid s2
  clear s2
  go_wp2_with fail
  refine (same_any v1 v2 F F _ (S1.out.gr g7) S2.out).mono ?_
  rw [decide_eq_true rfl]
  rintro e w8 ⟨rfl, nq, rfl⟩
  go_wp2_with fail
  go_ret
  exact ⟨rfl, (((G4.trans g5).trans g6).trans g7).drewN _⟩
end Go.Proofs.YthmnffiiondggaaDoor
