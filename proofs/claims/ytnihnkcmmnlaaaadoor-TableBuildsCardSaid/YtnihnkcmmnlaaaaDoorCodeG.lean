/- Walks: the document's scanning. -/
import Derived.Test.YtnihnkcmmnlaaaaDoorCodeF
namespace Go.Proofs.YtnihnkcmmnlaaaaDoor
open Go.RowKit

def ScanRel2 (s : ByteArray) (w : World) (i v : Value) (wr : World) : Prop := ScanRel s w v i wr

set_option maxRecDepth 100000 in
set_option maxHeartbeats 2000000 in
theorem rscan_any (s : ByteArray) (hs : s.size ≤ 281474976710656) (hcount : (scanAll s.data.toList).length * 16 ≤ 140737488355328) (w : World) :
    Calls Tryd.prog 30 #[.string s] w fun e w' => RetSVInt ((scanAll s.data.toList).map bs) (bytesOf (scanAll s.data.toList)) w e w' := by
  obtain ⟨i0, hi, hz0, hz1, hz2⟩ := info_parts infoString
  have HI := Lib.hid (And.intro hi (And.intro hz0 (And.intro hz1 hz2)))
  clear hi hz0 hz1 hz2
  have hsz : s.data.toList.length = s.size := (Lib.size_eq s).symm
  have HZ := Lib.hid hsz
  clear hsz
  go_enter Tryd.func30, Tryd.ntmps30
  go_wp2_with fail
  go_loopw [4, 5] (fun i v wr => ScanRel2 s w i v wr) (fun i _ _ => s.size + 1 - (intOf i).toNat)
  case atStart => exact ⟨[], rfl, World.ownsRow_nil _ _ _ _, Gr.refl _, Nat.zero_le _, rfl⟩
  case round =>
    obtain ⟨L, rfl, hown, hgr, hk, hsc⟩ := hrel
    obtain ⟨k, hke⟩ : ∃ k, k = bytesOf L := ⟨_, rfl⟩
    rw [← hke] at hk hsc
    rw [← hke]
    have hll : (s.data.toList.drop k).length = s.size - k := by rw [List.length_drop, HZ.out]
    have hend : first (s.data.toList.drop k) = none → scanAll s.data.toList = L := fun h => by rw [hsc, scanAll_none h, List.append_nil]
    have hks : (k : Int) ≤ (s.size : Int) := by omega
    by_cases h8 : s.size - k < 8
    · have HE := Lib.hid (hend (by unfold first; rw [if_pos (by omega)]))
      have HO := Lib.hid hown
      have HK := Lib.hid hke
      clear hown hke hsc hend hll hcount
      go_wp2_with fail
      go_ret2
      rw [HE.out, ← HK.out]
      exact ⟨_, rfl, HO.out, hgr⟩
    have h1 := fun j => rreadShort_any (s.extract k s.size) (by rw [ByteArray.size_extract]; unfold maxLen; omega) (by rw [ByteArray.size_extract]; omega) (wr.drewN j)
    rw [extract_drop] at h1
    obtain ⟨n, hn⟩ : ∃ n, n = rdS (s.data.toList.drop k) := ⟨_, rfl⟩
    have hnl : n < 4294967296 := by rw [hn]; exact rdS_lt _
    rw [← hn] at h1
    have H1 := Lib.hid h1
    by_cases hbig : 65536 < n
    · have HE := Lib.hid (hend (by unfold first; rw [if_neg (by omega), ← hn, if_pos (Or.inl hbig)]))
      have HO := Lib.hid hown
      have HK := Lib.hid hke
      clear hown hke hsc hend hll hcount h1 hn
      go_wp2_with fail
      refine (H1.out 0).mono ?_
      rintro e w1 ⟨rfl, nq, rfl⟩
      go_wp2_with fail
      go_ret2
      rw [HE.out, ← HK.out]
      exact ⟨_, rfl, own_gr HO.out ((Gr.refl _).drewN _), hgr.drewN _⟩
    by_cases hfit : s.size - k - 8 < n
    · have HE := Lib.hid (hend (by unfold first; rw [if_neg (by omega), ← hn, if_pos (Or.inr (by omega))]))
      have HO := Lib.hid hown
      have HK := Lib.hid hke
      clear hown hke hsc hend hll hcount h1 hn
      go_wp2_with fail
      refine (H1.out 0).mono ?_
      rintro e w1 ⟨rfl, nq, rfl⟩
      go_wp2_with fail
      go_ret2
      rw [HE.out, ← HK.out]
      exact ⟨_, rfl, own_gr HO.out ((Gr.refl _).drewN _), hgr.drewN _⟩
    obtain ⟨b, hb⟩ : ∃ b, b = s.extract (k + 8) (k + 8 + n) := ⟨_, rfl⟩
    have hbz : (s.extract (k + 8) (k + 8 + n)).size = n := by rw [ByteArray.size_extract]; omega
    have hbd : b.data.toList = ((s.data.toList.drop k).drop 8).take n := by rw [hb, Lib.extract_data, List.drop_drop, Nat.add_sub_cancel_left]
    have haz : (s.extract k (k + 4)).size = 4 := by rw [ByteArray.size_extract]; omega
    have had : (s.extract k (k + 4)).data.toList = (s.data.toList.drop k).take 4 := by rw [Lib.extract_data, Nat.add_sub_cancel_left]
    have h2 := fun j => rreadShort_any (s.extract (k + 4) s.size) (by rw [ByteArray.size_extract]; unfold maxLen; omega) (by rw [ByteArray.size_extract]; omega) (wr.drewN j)
    rw [extract_drop, ← List.drop_drop] at h2
    obtain ⟨x, hxe⟩ : ∃ x, x = rdS ((s.data.toList.drop k).drop 4) := ⟨_, rfl⟩
    rw [← hxe] at h2
    have h3 := fun j => rsum_any (s.extract k (k + 4) ++ s.extract (k + 8) (k + 8 + n)) (by rw [append_size, haz, hbz]; unfold maxLen; omega) (wr.drewN j)
    rw [append_data, had, ← hb, hbd] at h3
    obtain ⟨y, hye⟩ : ∃ y, y = Crc.sum ((s.data.toList.drop k).take 4 ++ ((s.data.toList.drop k).drop 8).take n) := ⟨_, rfl⟩
    rw [← hye, hb] at h3
    have h3' : ∀ j, Calls Tryd.prog 38 #[.string (s.extract k (k + 4) ++ s.extract (k + 8) (k + 8 + n))] (wr.drewN j) fun e w' => e = .returned (.int .u32 (y : Nat)) ∧ ∃ m, w' = (wr.drewN j).drewN m := fun j => (h3 j).mono fun e w' ⟨a, b⟩ => ⟨a, 0, by rw [← b]; rfl⟩
    have H2 := Lib.hid h2
    have H3 := Lib.hid h3'
    have hw4 : IntKind.i64.wrap ((k : Int) + 4) = (k : Int) + 4 := IntWalk.i64_in _ (by omega)
    have ht4 : ((k : Int) + 4).toNat = k + 4 := by omega
    have hp4 : 0 ≤ (k : Int) + 4 := by omega
    have hq4 : (k : Int) + 4 ≤ (s.size : Int) := by omega
    have hr4 : (k : Int) ≤ (k : Int) + 4 := by omega
    have hn6 : n ≤ 65536 := by omega
    have hn8 : k + 8 + n ≤ s.size := by omega
    by_cases heq : x = y
    · have hf : first (s.data.toList.drop k) = some b.data.toList := by
        unfold first; rw [if_neg (by omega), ← hn, if_neg (by omega), ← hxe, ← hye, if_pos heq, hbd]
      have hbl : b.data.toList.length = n := by rw [← Lib.size_eq, hb, hbz]
      have hsc2 : scanAll s.data.toList = (L ++ [b.data.toList]) ++ scanAll (s.data.toList.drop (bytesOf (L ++ [b.data.toList]))) := by
        rw [hsc, scanAll_some hf, List.drop_drop, List.append_assoc, bytesOf_append, ← hke]
        rfl
      have hcnt : (L.map bs).length * 16 + 16 ≤ 140737488355328 := by
        rw [hsc2] at hcount
        rw [List.length_append, List.length_append] at hcount
        rw [List.length_map]
        simp only [List.length_cons, List.length_nil] at hcount
        omega
      have hby : bytesOf (L ++ [b.data.toList]) = k + (8 + n) := by rw [bytesOf_append, ← hke, ← hbl]; rfl
      have hxs := append_ones L b.data.toList
      rw [bs_data, hb] at hxs
      rw [hb] at hsc2 hby
      obtain ⟨m, hm⟩ : ∃ n, n = (L.map bs).length := ⟨_, rfl⟩
      rw [← hm] at hown hcnt
      obtain ⟨xs, hx⟩ : ∃ xs, xs = (L.map bs).map Value.string := ⟨_, rfl⟩
      rw [← hx] at hown
      have ht : ((x : Int) != (y : Int)) = false := by rw [heq]; simp
      have HK := Lib.hid hke
      have HS := Lib.hid hsc2
      have HY := Lib.hid hby
      have HX := Lib.hid hx
      have HXS := Lib.hid hxs
      have HM := Lib.hid hm
      have HO := Lib.hid hown
      clear hown hke hsc hsc2 hend hll hcount h1 hn hb hbd had h2 hxe h3 hye h3' heq hf hbl hby hxs hm hx
      go_wp2_with fail
      refine (H1.out 0).mono ?_
      rintro e w1 ⟨rfl, n1, rfl⟩
      go_wp2_with fail
      go_quiet ((first | with_reducible exact quietMore H2.out | with_reducible exact quietMore H3.out))
      clear hw4 ht4 hp4 hq4 hr4
      have g1 : Gr wr ((wr.drewN n1).drewN nq) := ((Gr.refl _).drewN _).drewN _
      generalize (wr.drewN n1).drewN nq = w2 at *
      have hO := own_gr HO.out g1
      have hB2 : w.heap.size ≤ w2.heap.size := by have := hgr.size; have := g1.size; omega
      have hgr2 : Below w.heap.size w w2 := hgr.trans g1
      go_wp2_with (at_builtin; refine wpList_append_own _ rfl (.tmp 52) (.tmp 54) 47 rfl w.heap.size 9 i0 (.string ⟨#[]⟩) 1 16 Tryd.underlying47 HI.out.1 HI.out.2.1 HI.out.2.2.1 HI.out.2.2.2 rfl (by decide) _ _ _ rfl (hO.alloc _) ⟨w2.heap.size, 0, none⟩ 1 1 [.string (s.extract (k + 8) (k + 8 + n))] rfl rfl ?c1 ?c2 ?c3 ?c4 ?c5 ?_)
      case c1 => exact cell_one_new _ _ _
      case c2 => simp [Value.oneCell']
      case c3 => unfold maxLen; omega
      case c4 => omega
      case c5 => simp; omega
      intro v' w3 hown3 hgrow _
      have hgr3 : Below w.heap.size w w3 := gr_of_grown (hgr2.alloc hB2 _) (hO.alloc _) hgrow (by simp; omega)
      have HO3 := Lib.hid hown3
      clear hown3 hgrow hO hgr2
      go_wp2
      go_roundw
      case rel => exact ⟨L ++ [(s.extract (k + 8) (k + 8 + n)).data.toList], by rw [HY.out]; go_num, by rw [HXS.out, List.length_append, List.map_append, ← HX.out, ← HM.out]; exact HO3.out, hgr3, by rw [HY.out]; omega, HS.out⟩
      case measure => simp [intOf]; omega
    · have hf : first (s.data.toList.drop k) = none := by
        unfold first; rw [if_neg (by omega), ← hn, if_neg (by omega), ← hxe, ← hye, if_neg heq]
      have HE := Lib.hid (hend hf)
      have HO := Lib.hid hown
      have HK := Lib.hid hke
      have ht : ((x : Int) != (y : Int)) = true := by rw [bne_iff_ne]; omega
      clear hown hke hsc hend hll hcount h1 hn hb hbd had h2 hxe h3 hye h3' heq hf
      go_wp2_with fail
      refine (H1.out 0).mono ?_
      rintro e w1 ⟨rfl, n1, rfl⟩
      go_wp2_with fail
      go_quiet ((first | with_reducible exact quietMore H2.out | with_reducible exact quietMore H3.out))
      go_wp2
      go_ret2
      rw [HE.out, ← HK.out]
      exact ⟨_, rfl, own_gr HO.out (((Gr.refl _).drewN _).drewN _), (hgr.drewN _).drewN _⟩
end Go.Proofs.YtnihnkcmmnlaaaaDoor
