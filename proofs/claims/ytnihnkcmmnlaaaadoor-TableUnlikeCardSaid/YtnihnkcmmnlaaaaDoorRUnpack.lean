/- Walks: the document's Unpack. -/
import Derived.Test.YtnihnkcmmnlaaaaDoorUnpackW
namespace Go.Proofs.YtnihnkcmmnlaaaaDoor
open Go.RowKit

def RUnpackLoop (cnt : Nat) (s : ByteArray) (w : World) (at_ v i : Value) (wr : World) : Prop :=
  ∃ (k a : Nat), k ≤ cnt ∧ i = .int .u32 k ∧ at_ = .int .i64 a ∧ a ≤ s.size ∧ UnpackRel cnt (s.data.toList.drop 4) w k (s.data.toList.drop a) v wr

set_option maxRecDepth 100000 in
set_option maxHeartbeats 2000000 in
theorem runpack_any (s : ByteArray) (hs : s.size ≤ maxLen) (w : World) :
    Calls Tryd.prog 31 #[.string s] w fun e w' => RetUnpack (unpackL s.data.toList) w e w' := by
  have hsz : s.data.toList.length = s.size := (Lib.size_eq s).symm
  have hs2 : s.size ≤ 9223372036854775807 := hs
  by_cases h4 : s.size < 4
  · have HF := Lib.hid (show unpackL s.data.toList = none from by unfold unpackL; rw [if_pos (Or.inl (by omega))])
    clear hsz hs
    go_enter Tryd.func31, Tryd.ntmps31
    go_wp2
    go_ret2
    rw [HF.out]
    exact ⟨rfl, Gr.refl _⟩
  by_cases hbig : 1048576 < s.size
  · have HF := Lib.hid (show unpackL s.data.toList = none from by unfold unpackL; rw [if_pos (Or.inr (by omega))])
    clear hsz hs
    go_enter Tryd.func31, Tryd.ntmps31
    go_wp2
    go_ret2
    rw [HF.out]
    exact ⟨rfl, Gr.refl _⟩
  have h1 := rreadShort_any s hs (by omega) w
  obtain ⟨n, hn⟩ : ∃ n, n = rdS s.data.toList := ⟨_, rfl⟩
  have hnl : n < 4294967296 := by rw [hn]; exact rdS_lt _
  rw [← hn] at h1
  have H1 := Lib.hid h1
  by_cases hcnt : 4096 < n
  · have HF := Lib.hid (show unpackL s.data.toList = none from by unfold unpackL; rw [if_neg (by omega), ← hn, if_pos hcnt])
    clear h1 hn hsz hs
    go_enter Tryd.func31, Tryd.ntmps31
    go_wp2_with fail
    refine H1.out.mono ?_
    rintro e w1 ⟨rfl, nq, rfl⟩
    go_wp2
    go_ret2
    rw [HF.out]
    exact ⟨rfl, (Gr.refl _).drewN _⟩
  obtain ⟨i0, hi, hz0, hz1, hz2⟩ := info_parts infoString
  have HI := Lib.hid (And.intro hi (And.intro hz0 (And.intro hz1 hz2)))
  clear hi hz0 hz1 hz2
  have hu : unpackL s.data.toList = wholeU (unpackN n (s.data.toList.drop 4)) := by
    unfold unpackL; rw [if_neg (by omega), ← hn, if_neg hcnt]
  have HU := Lib.hid hu
  have HZ := Lib.hid hsz
  have hn6 : n ≤ 4096 := by omega
  have hb6 : s.size ≤ 1048576 := by omega
  have hb4 : 4 ≤ s.size := by omega
  clear h1 hn hsz hs hu hcnt h4 hbig
  go_enter Tryd.func31, Tryd.ntmps31
  go_wp2_with fail
  refine H1.out.mono ?_
  rintro e w1 ⟨rfl, n1, rfl⟩
  go_wp2_with fail
  go_loopw [5, 6, 7] (fun a v i wr => RUnpackLoop n s w a v i wr) (fun _ _ i _ => n - (intOf i).toNat)
  case atStart => exact ⟨0, 4, Nat.zero_le _, rfl, rfl, hb4, [], rfl, World.ownsRow_nil _ _ _ _, (Gr.refl w).drewN _, by rw [Nat.sub_zero]; cases unpackN n (s.data.toList.drop 4) <;> rfl⟩
  case round =>
    obtain ⟨k, a, hk, rfl, rfl, ha, F, hF, hown, hgr, hun⟩ := hrel
    have hrl : (s.data.toList.drop a).length = s.size - a := by rw [List.length_drop, HZ.out]
    have hia : (a : Int) ≤ (s.size : Int) := by omega
    by_cases hlt : k < n
    · by_cases h4 : s.size - a < 4
      · have HF := Lib.hid (show unpackL s.data.toList = none from by rw [HU.out, rel_none hlt hun (by unfold fieldF; rw [if_pos (by omega)])]; rfl)
        clear hun hown hF hrl
        go_wp2_with fail
        go_ret2
        rw [HF.out]
        exact ⟨rfl, hgr⟩
      have h2 := rreadShort_any (s.extract a s.size) (by rw [ByteArray.size_extract]; unfold maxLen; omega) (by rw [ByteArray.size_extract]; omega) wr
      rw [extract_drop] at h2
      obtain ⟨m, hm⟩ : ∃ m, m = rdS (s.data.toList.drop a) := ⟨_, rfl⟩
      have hml : m < 4294967296 := by rw [hm]; exact rdS_lt _
      rw [← hm] at h2
      have H2 := Lib.hid h2
      by_cases hbig : 65536 < m
      · have HF := Lib.hid (show unpackL s.data.toList = none from by rw [HU.out, rel_none hlt hun (by unfold fieldF; rw [if_neg (by omega), ← hm, if_pos (Or.inl hbig)])]; rfl)
        clear hun hown hF hrl h2 hm
        go_wp2_with fail
        refine H2.out.mono ?_
        rintro e w1 ⟨rfl, n2, rfl⟩
        go_wp2_with fail
        go_ret2
        rw [HF.out]
        exact ⟨rfl, hgr.drewN _⟩
      by_cases hfit : s.size - (a + 4) < m
      · have HF := Lib.hid (show unpackL s.data.toList = none from by rw [HU.out, rel_none hlt hun (by unfold fieldF; rw [if_neg (by omega), ← hm, if_pos (Or.inr (by omega))])]; rfl)
        have hfi : (s.size : Int) - ((a : Int) + 4) < (m : Int) := by omega
        clear hun hown hF hrl h2 hm
        go_wp2_with fail
        refine H2.out.mono ?_
        rintro e w1 ⟨rfl, n2, rfl⟩
        go_wp2_with fail
        go_ret2
        rw [HF.out]
        exact ⟨rfl, hgr.drewN _⟩
      have hbd : (s.extract (a + 4) (a + 4 + m)).data.toList = ((s.data.toList.drop a).drop 4).take m := by rw [Lib.extract_data, List.drop_drop, Nat.add_sub_cancel_left]
      obtain ⟨f, hfe⟩ : ∃ f, f = ((s.data.toList.drop a).drop 4).take m := ⟨_, rfl⟩
      have hff : fieldF (s.data.toList.drop a) = some f := by unfold fieldF; rw [if_neg (by omega), ← hm, if_neg (by omega), hfe]
      have hfl : f.length = m := by rw [(fieldF_len hff).2.2, hm]
      have hun2 := rel_some hlt hun hff
      rw [hfl, List.drop_drop] at hun2
      have hxs := append_ones F f
      have hbf : bs f = s.extract (a + 4) (a + 4 + m) := by rw [hfe, ← hbd, bs_data]
      rw [hbf] at hxs
      obtain ⟨xs, hx⟩ : ∃ xs, xs = (F.map bs).map Value.string := ⟨_, rfl⟩
      have hmk : (F.map bs).length = k := by rw [List.length_map, hF]
      rw [← hx, hmk] at hown
      have HN2 := Lib.hid hun2
      have HX := Lib.hid hx
      have HXS := Lib.hid hxs
      have HF := Lib.hid hF
      have HML := Lib.hid hmk
      have HOW := Lib.hid hown
      have hm6 : m ≤ 65536 := by omega
      have ham : a + 4 + m ≤ s.size := by omega
      clear hun hun2 hown hF hrl h2 hm hbd hfe hff hfl hxs hbf hx hmk h4 hbig hfit
      go_wp2_with fail
      refine H2.out.mono ?_
      rintro e w1 ⟨rfl, n2, rfl⟩
      have g1 : Gr wr (wr.drewN n2) := (Gr.refl _).drewN _
      generalize wr.drewN n2 = w2 at *
      have hO := own_gr HOW.out g1
      have hB2 : w.heap.size ≤ w2.heap.size := by have := hgr.size; have := g1.size; omega
      have hgr2 : Below w.heap.size w w2 := hgr.trans g1
      go_wp2_with (at_builtin; refine wpList_append_own _ rfl (.tmp 48) (.tmp 56) 47 rfl w.heap.size 9 i0 (.string ⟨#[]⟩) 1 16 Tryd.underlying47 HI.out.1 HI.out.2.1 HI.out.2.2.1 HI.out.2.2.2 rfl (by decide) _ _ _ rfl (hO.alloc _) ⟨w2.heap.size, 0, none⟩ 1 1 [.string (s.extract (a + 4) (a + 4 + m))] rfl rfl ?c1 ?c2 ?c3 ?c4 ?c5 ?_)
      case c1 => exact cell_one_new _ _ _
      case c2 => simp [Value.oneCell']
      case c3 => unfold maxLen; omega
      case c4 => omega
      case c5 => simp; omega
      intro v' w3 hown3 hgrow _
      have hgr3 : Below w.heap.size w w3 := gr_of_grown (hgr2.alloc hB2 _) (hO.alloc _) hgrow (by simp; omega)
      have HO3 := Lib.hid hown3
      clear hown3 hgrow hO hgr2
      go_wp2
      go_roundw
      case rel => exact ⟨k + 1, a + (4 + m), by omega, by go_num, by go_num, by omega, F ++ [f], by rw [List.length_append, HF.out]; rfl, by rw [HXS.out, List.length_append, List.map_append, ← HX.out, HML.out]; exact HO3.out, hgr3, HN2.out⟩
      case measure => simp [intOf]; omega
    · have hkn : k = n := by omega
      have hend := rel_end hkn hun
      by_cases hae : a = s.size
      · subst hae
        have HF := Lib.hid (show unpackL s.data.toList = some F from by rw [HU.out, hend, show s.data.toList.drop s.size = [] from List.drop_of_length_le (by rw [HZ.out]; exact Nat.le_refl _)]; rfl)
        have HOW := Lib.hid hown
        clear hend hun hF hrl hown hkn
        go_wp2_with fail
        go_ret2
        rw [HF.out]
        exact ⟨_, rfl, HOW.out, hgr⟩
      · have HF := Lib.hid (show unpackL s.data.toList = none from by
          rw [HU.out, hend]
          rcases hd : s.data.toList.drop a with _ | ⟨x, xs⟩
          · rw [hd] at hrl; simp at hrl; omega
          · rfl)
        have ht : ((a : Int) != (s.size : Int)) = true := by rw [bne_iff_ne]; omega
        clear hend hun hF hrl hown hkn hae
        go_wp2_with fail
        go_ret2
        rw [HF.out]
        exact ⟨rfl, hgr⟩
end Go.Proofs.YtnihnkcmmnlaaaaDoor
