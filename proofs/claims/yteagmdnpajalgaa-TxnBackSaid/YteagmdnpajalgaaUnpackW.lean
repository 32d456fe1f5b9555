/- Walks: Unpack, the whole. -/
import Derived.Test.YteagmdnpajalgaaUnpack
namespace Go.Proofs.Yteagmdnpajalgaa
open Go.RowKit

def UnpackLoop (cnt : Nat) (s : ByteArray) (w : World) (rv v i : Value) (wr : World) : Prop :=
  ∃ (k : Nat) (r : ByteArray), k ≤ cnt ∧ i = .int .u32 k ∧ rv = .string r ∧ r.size ≤ s.size ∧ UnpackRel cnt (s.data.toList.drop 4) w k r.data.toList v wr
theorem empty_data {r : ByteArray} (h : r.data.toList = []) : r.toList = [] := by rw [ByteArray.toList_eq]; exact h

set_option maxRecDepth 100000 in
set_option maxHeartbeats 2000000 in
theorem unpack_any (s : ByteArray) (hs : s.size ≤ maxLen) (w : World) :
    Calls Try.prog 36 #[.string s] w fun e w' => RetUnpack (unpackL s.data.toList) w e w' := by
  have hsz : s.data.toList.length = s.size := (Lib.size_eq s).symm
  have hs2 : s.size ≤ 9223372036854775807 := hs
  by_cases h4 : s.size < 4
  · have HF := Lib.hid (show unpackL s.data.toList = none from by unfold unpackL; rw [if_pos (Or.inl (by omega))])
    clear hsz hs
    go_enter Try.func36, Try.ntmps36
    go_wp2
    go_ret2
    rw [HF.out]
    exact ⟨rfl, Gr.refl _⟩
  by_cases hbig : 1048576 < s.size
  · have HF := Lib.hid (show unpackL s.data.toList = none from by unfold unpackL; rw [if_pos (Or.inr (by omega))])
    clear hsz hs
    go_enter Try.func36, Try.ntmps36
    go_wp2
    go_ret2
    rw [HF.out]
    exact ⟨rfl, Gr.refl _⟩
  have h1 := fun k => readShort_any s hs (by omega) (w.drewN k)
  obtain ⟨n, hn⟩ : ∃ n, n = rdS s.data.toList := ⟨_, rfl⟩
  have hnl : n < 4294967296 := by rw [hn]; exact rdS_lt _
  rw [← hn] at h1
  have H1 := Lib.hid h1
  have i4 : (4 : Int) ≤ (s.size : Int) := by omega
  by_cases hcnt : 4096 < n
  · have HF := Lib.hid (show unpackL s.data.toList = none from by unfold unpackL; rw [if_neg (by omega), ← hn, if_pos hcnt])
    clear h1 hn hsz hs
    go_enter Try.func36, Try.ntmps36
    go_wp2_with fail
    go_quiet (with_reducible exact Calls.quiet_of (H1.out _))
    go_wp2
    go_ret2
    rw [HF.out]
    exact ⟨rfl, (Gr.refl _).drewN _⟩
  obtain ⟨i0, hi, hz0, hz1, hz2⟩ := info_parts infoString
  have HI := Lib.hid (And.intro hi (And.intro hz0 (And.intro hz1 hz2)))
  clear hi hz0 hz1 hz2
  have hu : unpackL s.data.toList = wholeU (unpackN n (s.data.toList.drop 4)) := by
    unfold unpackL; rw [if_neg (by omega), ← hn, if_neg hcnt]
  have HU := Lib.hid hu
  have hrz : (s.extract 4 s.size).size = s.size - 4 := by rw [ByteArray.size_extract]; omega
  have HR0 := Lib.hid (show (s.extract 4 s.size).data.toList = s.data.toList.drop 4 from extract_drop s 4)
  have HRZ := Lib.hid (show (s.extract 4 s.size).size ≤ s.size from by rw [hrz]; omega)
  obtain ⟨M, hM⟩ : ∃ M, M = madeCells (Value.string ⟨#[]⟩).cells (((n : Nat) : Int).toNat * i0.size) := ⟨_, rfl⟩
  have hMs : M.size = n * 1 := by rw [hM, size_madeCells, HI.out.2.2.1, Int.toNat_natCast]
  have hmk : ∀ W : World, (Instr.makeSlice 51 (.int .i64 0) (.int .u32 (n : Int))).run Try.prog W = .ok (.slice (some ⟨W.heap.size, 0, none⟩) 0 n) (W.alloc (.cells M 9)) := fun W => by
    have h := run_make (P := Try.prog) W 51 9 i0 (.string ⟨#[]⟩) Try.underlying51 HI.out.1 HI.out.2.1 .i64 .u32 0 (n : Int) (by omega) (by omega) (by rw [HI.out.2.2.2]; omega) (by omega)
    rw [← hM, Int.toNat_natCast] at h
    exact h
  have HO := Lib.hid (fun W : World => (World.ownsRow_made (e := 9) (size := 1) (base := W.heap.size) W M n (Nat.le_refl _) (by unfold maxLen; omega) hMs))
  have hn6 : n ≤ 4096 := by omega
  have hb6 : s.size ≤ 1048576 := by omega
  clear h1 hn hsz hs hM hMs hu hrz hcnt
  go_enter Try.func36, Try.ntmps36
  go_wp2_with fail
  go_quiet (with_reducible exact Calls.quiet_of (H1.out _))
  go_wp2_with fail
  clear hmk
  go_loopw [5, 6, 26] (fun rv v i wr => UnpackLoop n s w rv v i wr) (fun _ _ i _ => n - (intOf i).toNat)
  case atStart => exact ⟨0, s.extract 4 s.size, Nat.zero_le _, rfl, rfl, HRZ.out, [], rfl, HO.out (w.drewN nq), ((Gr.refl w).drewN _).alloc _, by rw [HR0.out, Nat.sub_zero]; cases unpackN n (s.data.toList.drop 4) <;> rfl⟩
  case round =>
    obtain ⟨k, r, hk, rfl, rfl, hrs, F, hF, hown, hgr, hun⟩ := hrel
    have hrl : r.data.toList.length = r.size := (Lib.size_eq r).symm
    by_cases hlt : k < n
    · have hc1 := firstField_any r (by unfold maxLen; omega) wr
      obtain ⟨o, ho⟩ : ∃ o, o = fieldF r.data.toList := ⟨_, rfl⟩
      rw [← ho] at hc1
      cases o with
      | none =>
        have hv : ffVal none = .tuple #[.string ⟨#[]⟩, .bool false] := rfl
        rw [hv] at hc1
        have HF := Lib.hid (show unpackL s.data.toList = none from by rw [HU.out, rel_none hlt hun ho.symm]; rfl)
        have H2 := Lib.hid hc1
        clear hc1 hv ho hun hown hF hrl
        go_wp2_with fail
        refine H2.out.mono ?_
        rintro e w1 ⟨rfl, g1⟩
        go_wp2_with fail
        go_ret2
        rw [HF.out]
        exact ⟨rfl, hgr.trans g1⟩
      | some f =>
        have hv : ffVal (some f) = .tuple #[.string (bs f), .bool true] := rfl
        rw [hv] at hc1
        have hfl := fieldF_len ho.symm
        rw [hrl] at hfl
        have hc2 := fun w => clone_any (bs f) (by rw [bs_size]; omega) w
        have hbz := bs_size f
        have hun2 := rel_some hlt hun ho.symm
        have hrd : (r.extract (4 + f.length) r.size).data.toList = r.data.toList.drop (4 + f.length) := extract_drop _ _
        have hrz2 : (r.extract (4 + f.length) r.size).size ≤ s.size := by rw [ByteArray.size_extract]; omega
        obtain ⟨B, hB⟩ : ∃ B, B = bs f := ⟨_, rfl⟩
        obtain ⟨bl, hbl⟩ : ∃ n, n = f.length := ⟨_, rfl⟩
        have hxs := append_ones F f
        obtain ⟨xs, hx⟩ : ∃ xs, xs = (F.map bs).map Value.string := ⟨_, rfl⟩
        have hml : (F.map bs).length = k := by rw [List.length_map, hF]
        rw [← hx, hml] at hown
        rw [← hB] at hc1 hc2 hbz hxs
        rw [← hbl] at hfl hbz hun2 hrd hrz2
        have hfl1 : 4 + bl ≤ r.size := hfl.1
        have hfl2 : bl ≤ 65536 := hfl.2.1
        have H2 := Lib.hid hc1
        have H3 := Lib.hid hc2
        have HN2 := Lib.hid hun2
        have HD := Lib.hid hrd
        have HZ2 := Lib.hid hrz2
        have HX := Lib.hid hx
        have HXS := Lib.hid hxs
        have HF := Lib.hid hF
        have HML := Lib.hid hml
        have HOW := Lib.hid hown
        clear hc1 hc2 hv ho hun hun2 hrd hrz2 hB hbl hx hxs hown hF hml hfl hrl
        go_wp2_with fail
        refine H2.out.mono ?_
        rintro e w1 ⟨rfl, g1⟩
        go_wp2_with fail
        refine (H3.out _).mono ?_
        rintro e w2 ⟨rfl, g2⟩
        have hO := own_gr (own_gr HOW.out g1) g2
        have hB2 : w.heap.size ≤ w2.heap.size := by have := hgr.size; have := g1.size; have := g2.size; omega
        have hgr2 : Below w.heap.size w w2 := (hgr.trans g1).trans g2
        go_wp2_with (at_builtin; refine wpList_append_own _ rfl (.tmp 35) (.tmp 38) 51 rfl w.heap.size 9 i0 (.string ⟨#[]⟩) 1 16 Try.underlying51 HI.out.1 HI.out.2.1 HI.out.2.2.1 HI.out.2.2.2 rfl (by decide) _ _ _ rfl (hO.alloc _) ⟨w2.heap.size, 0, none⟩ 1 1 [.string B] rfl rfl ?c1 ?c2 ?c3 ?c4 ?c5 ?_)
        case c1 => exact cell_one_new _ _ _
        case c2 => simp [Value.oneCell']
        case c3 => unfold maxLen; omega
        case c4 => omega
        case c5 => simp; omega
        intro v' w3 hown3 hgrow _
        have hgr3 : Below w.heap.size w w3 := gr_of_grown (hgr2.alloc hB2 _) (hO.alloc _) hgrow (by simp; omega)
        have HO3 := Lib.hid hown3
        clear hown3 hgrow hO hgr2
        go_wp2
        go_roundw
        case rel => exact ⟨k + 1, r.extract (4 + bl) r.size, by omega, by go_num, rfl, HZ2.out, F ++ [f], by rw [List.length_append, HF.out]; rfl, by rw [HXS.out, List.length_append, List.map_append, ← HX.out, HML.out]; exact HO3.out, hgr3, by rw [HD.out]; exact HN2.out⟩
        case measure => simp [intOf]; omega
    · have hkn : k = n := by omega
      have hend := rel_end hkn hun
      rcases hre : r.data.toList with _ | ⟨x, xs⟩
      · have HF := Lib.hid (show unpackL s.data.toList = some F from by rw [HU.out, hend, hre]; rfl)
        have ht := empty_data hre
        have HOW := Lib.hid hown
        clear hend hun hF hrl hre hown hkn
        go_wp2_with fail
        go_ret2
        rw [HF.out]
        exact ⟨_, rfl, HOW.out, hgr⟩
      · have HF := Lib.hid (show unpackL s.data.toList = none from by rw [HU.out, hend, hre]; rfl)
        have ht : r.toList.isEmpty = false := by rw [ByteArray.toList_eq, hre]; rfl
        clear hend hun hF hrl hre hown hkn
        go_wp2_with fail
        go_ret2
        rw [HF.out]
        exact ⟨rfl, hgr⟩
end Go.Proofs.Yteagmdnpajalgaa
