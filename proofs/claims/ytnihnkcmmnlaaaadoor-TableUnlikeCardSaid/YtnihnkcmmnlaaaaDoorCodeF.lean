/- Walks: scanning. -/
import Derived.Test.YtnihnkcmmnlaaaaDoorCodeE
import Derived.Test.YtnihnkcmmnlaaaaDoorSV
namespace Go.Proofs.YtnihnkcmmnlaaaaDoor
open Go.RowKit

theorem extract_drop (s : ByteArray) (k : Nat) : (s.extract k s.size).data.toList = s.data.toList.drop k := by
  rw [Lib.extract_data, List.take_of_length_le (by simp)]
theorem append_ones (L : List (List UInt8)) (b : List UInt8) : (L ++ [b]).map bs = L.map bs ++ [bs b] := by simp
def ScanRel (s : ByteArray) (w : World) (v i : Value) (wr : World) : Prop :=
  ∃ (L : List (List UInt8)), i = .int .i64 (bytesOf L : Nat) ∧ wr.ownsRow w.heap.size 9 1 v (L.map bs).length ((L.map bs).map Value.string) ∧ Gr w wr ∧ bytesOf L ≤ s.size ∧
    scanAll s.data.toList = L ++ scanAll (s.data.toList.drop (bytesOf L))

set_option maxRecDepth 100000 in
set_option maxHeartbeats 1000000 in
theorem scan_any (s : ByteArray) (hs : s.size ≤ 9223372036854775000) (hcount : (scanAll s.data.toList).length * 16 ≤ 140737488355328) (w : World) (hH : Halves w) :
    Calls Tryd.prog 39 #[.string s] w fun e w' => RetSVInt ((scanAll s.data.toList).map bs) (bytesOf (scanAll s.data.toList)) w e w' := by
  obtain ⟨i0, hi, hz0, hz1, hz2⟩ := info_parts infoString
  have HI := Lib.hid (And.intro hi (And.intro hz0 (And.intro hz1 hz2)))
  clear hi hz0 hz1 hz2
  have hsz : s.data.toList.length = s.size := (Lib.size_eq s).symm
  have HZ := Lib.hid hsz
  clear hsz
  go_enter Tryd.func39, Tryd.ntmps39
  go_wp2_with fail
  go_loopw [4, 5] (fun v i wr => ScanRel s w v i wr) (fun _ i _ => s.size + 1 - (intOf i).toNat)
  case atStart => exact ⟨[], rfl, World.ownsRow_nil _ _ _ _, Gr.refl _, Nat.zero_le _, rfl⟩
  case round =>
    obtain ⟨L, rfl, hown, hgr, hk, hsc⟩ := hrel
    obtain ⟨k, hke⟩ : ∃ k, k = bytesOf L := ⟨_, rfl⟩
    rw [← hke] at hk hsc
    have hc1 := firstFrame_any (s.extract k s.size) (by rw [ByteArray.size_extract]; unfold maxLen; omega) wr (hH.gr hgr)
    rw [extract_drop] at hc1
    obtain ⟨o, ho⟩ : ∃ o, o = first (s.data.toList.drop k) := ⟨_, rfl⟩
    rw [← ho] at hc1
    rw [← hke]
    cases o with
    | none =>
      have hend : scanAll s.data.toList = L := by rw [hsc, scanAll_none ho.symm, List.append_nil]
      have hv : ffVal none = .tuple #[.string ⟨#[]⟩, .bool false] := rfl
      rw [hv] at hc1
      have H1 := Lib.hid hc1
      have HE := Lib.hid hend
      have HO := Lib.hid hown
      have HK := Lib.hid hke
      clear hc1 hend hown hke ho hsc hv
      go_wp2_with fail
      refine H1.out.mono ?_
      rintro e w1 ⟨rfl, g1⟩
      go_wp2_with fail
      go_ret2
      have hO := own_gr HO.out g1
      rw [HE.out, ← HK.out]
      exact ⟨_, rfl, hO, hgr.trans g1⟩
    | some b =>
      have hb := first_len ho.symm
      rw [List.length_drop, HZ.out] at hb
      have hv : ffVal (some b) = .tuple #[.string (bs b), .bool true] := rfl
      rw [hv] at hc1
      have hc2 := fun w => clone_any (bs b) (by rw [bs_size]; omega) w
      have hbz := bs_size b
      have hsc2 : scanAll s.data.toList = (L ++ [b]) ++ scanAll (s.data.toList.drop (bytesOf (L ++ [b]))) := by
        rw [hsc, scanAll_some ho.symm, List.drop_drop, List.append_assoc, bytesOf_append, ← hke]
        rfl
      have hcnt : (L.map bs).length * 16 + 16 ≤ 140737488355328 := by
        rw [hsc2] at hcount
        rw [List.length_append, List.length_append] at hcount
        rw [List.length_map]
        simp only [List.length_cons, List.length_nil] at hcount
        omega
      have hby : bytesOf (L ++ [b]) = k + (8 + b.length) := by rw [bytesOf_append, ← hke]; rfl
      obtain ⟨B, hB⟩ : ∃ B, B = bs b := ⟨_, rfl⟩
      obtain ⟨bl, hbl⟩ : ∃ n, n = b.length := ⟨_, rfl⟩
      obtain ⟨n, hn⟩ : ∃ n, n = (L.map bs).length := ⟨_, rfl⟩
      have hxs := append_ones L b
      rw [← hn] at hown hcnt
      obtain ⟨xs, hx⟩ : ∃ xs, xs = (L.map bs).map Value.string := ⟨_, rfl⟩
      rw [← hx] at hown
      rw [← hB] at hc1 hc2 hbz hxs
      rw [← hbl] at hb hbz hby
      have H1 := Lib.hid hc1
      have H2 := Lib.hid hc2
      have HK := Lib.hid hke
      have HS := Lib.hid hsc2
      have HY := Lib.hid hby
      have HX := Lib.hid hx
      have HXS := Lib.hid hxs
      have HN := Lib.hid hn
      have HO := Lib.hid hown
      clear hc1 hc2 hke hsc hsc2 hv ho hby hcount hB hbl hn hxs hx hown
      go_wp2_with fail
      refine H1.out.mono ?_
      rintro e w1 ⟨rfl, g1⟩
      go_wp2_with fail
      refine (H2.out _).mono ?_
      rintro e w2 ⟨rfl, g2⟩
      have hO := own_gr (own_gr HO.out g1) g2
      have hB2 : w.heap.size ≤ w2.heap.size := by have := hgr.size; have := g1.size; have := g2.size; omega
      have hgr2 : Below w.heap.size w w2 := (hgr.trans g1).trans g2
      go_wp2_with (at_builtin; refine wpList_append_own _ rfl (.tmp 19) (.tmp 22) 47 rfl w.heap.size 9 i0 (.string ⟨#[]⟩) 1 16 Tryd.underlying47 HI.out.1 HI.out.2.1 HI.out.2.2.1 HI.out.2.2.2 rfl (by decide) _ _ _ rfl (hO.alloc _) ⟨w2.heap.size, 0, none⟩ 1 1 [.string B] rfl rfl ?c1 ?c2 ?c3 ?c4 ?c5 ?_)
      case c1 => exact cell_one_new _ _ _
      case c2 => simp [Value.oneCell']
      case c3 => unfold maxLen; omega
      case c4 => omega
      case c5 => simp; omega
      intro v' w3 hown3 hgrow _
      have hgr3 : Below w.heap.size w w3 := gr_of_grown (hgr2.alloc hB2 _) (hO.alloc _) hgrow (by simp; omega)
      have HO3 := Lib.hid hown3
      clear hown3 hgrow hO hgr2
      go_wp2
      go_roundw
      case rel => exact ⟨L ++ [b], by rw [HY.out]; go_num, by rw [HXS.out, List.length_append, List.map_append, ← HX.out, ← HN.out]; exact HO3.out, hgr3, by rw [HY.out]; omega, HS.out⟩
      case measure => simp [intOf]; omega
end Go.Proofs.YtnihnkcmmnlaaaaDoor
