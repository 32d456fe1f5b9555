/- Walks: one operation: the cases. -/
import Derived.Test.YtlnhbndghnkfmaaGreatDoorZm25
namespace Go.Proofs.YtlnhbndghnkfmaaGreatDoor
open Go.RowKit
set_option linter.unusedVariables false

set_option maxRecDepth 100000 in
theorem RetDraft.ok {L L' : List F} {o : O} {B : Nat} {v v' : Value} {M M' : List FB} {w w' : World} (hb : Below B w w') (hs : step L o = (0, L')) (hf : files M' = L') (hd : DR w' B v' M') : RetDraft L o B v M w (.returned (.tuple #[v', .int .i64 0])) w' :=
  ⟨hb, .inl ⟨by rw [hs], v', M', rfl, by rw [hs]; exact hf, hd⟩⟩
set_option maxRecDepth 100000 in
theorem RetDraft.no {L L' : List F} {o : O} {B k : Nat} {v : Value} {M : List FB} {w w' : World} (hb : Below B w w') (hs : step L o = (k, L')) (hk : k ≠ 0) (hd : DR w' B v M) : RetDraft L o B v M w (.returned (.tuple #[.slice none 0 0, .int .i64 (k : Int)])) w' :=
  ⟨hb, .inr ⟨by rw [hs]; exact hk, by rw [hs], hd⟩⟩
set_option maxRecDepth 100000 in
theorem DR.erase {w w' : World} {B i : Nat} {v v' : Value} {M : List FB} (h : DR w B v M) (hr : RO w' B v' (M.eraseIdx i)) (hk : Kp v.ownBlock w w') : DR w' B v' (M.eraseIdx i) := by
  refine ⟨hr, fun q hq => ?_, List.Pairwise.sublist (List.eraseIdx_sublist M i) h.sep⟩
  have hq := List.mem_of_mem_eraseIdx hq
  refine own_kp (h.bytes q hq) hk ?_
  cases hq2 : q.2.ownBlock with
  | none => exact .inl rfl
  | some x => exact .inr (fun e2 => own_types (h.bytes q hq) h.row (by decide) hq2 e2.symm)
set_option maxRecDepth 100000 in
theorem own_less {w : World} {B : Nat} {t : TypeId} {n c k : Nat} {A : Option Addr} {xs : List Value} (h : w.ownsRow B t 1 (.slice A n c) n xs) (hk : k ≤ n) : w.ownsRow B t 1 (.slice A k c) k (xs.take k) := by
  rcases h.2 with ⟨hh, hn⟩ | ⟨g, cap, cur, hh, hb, hg, hr⟩
  · injection hh with e1 e2 e3
    obtain rfl : k = 0 := by omega
    rw [e1, e3, List.take_zero]
    exact World.ownsRow_nil w B t 1
  · injection hh with e1 e2 e3
    subst e1 e3
    have h2 := own_prefix h hk
    rw [Nat.mul_one] at h2
    exact h2
set_option maxRecDepth 100000 in
theorem strCells_take (s : ByteArray) (k : Nat) : Lib.strCells (s.extract 0 k) = (Lib.strCells s).take k := by
  unfold Lib.strCells
  rw [ByteArray.data_extract, ← List.map_take, Array.toList_extract]
  simp
set_option maxRecDepth 100000 in
theorem bcells_all (f : F) : bcells ⟨f.name, f.kept ++ f.loose, ⟨#[]⟩⟩ = bcells f := by
  unfold bcells
  have : Lib.strCells ⟨#[]⟩ = [] := rfl
  rw [this, List.append_nil]
  unfold Lib.strCells
  rw [ByteArray.data_append, Array.toList_append, List.map_append]
set_option maxRecDepth 100000 in
theorem bcells_cut (f : F) (k : Nat) : bcells ⟨f.name, (f.kept ++ f.loose).extract 0 k, ⟨#[]⟩⟩ = (bcells f).take k := by
  rw [← bcells_all f]
  unfold bcells
  have : Lib.strCells ⟨#[]⟩ = [] := rfl
  rw [this, List.append_nil, List.append_nil, strCells_take]
set_option maxRecDepth 100000 in
theorem DR.trim {w w5 : World} {B g n c c1 i k : Nat} {A1 : Option Addr} {f : F} {M : List FB} (h : DR w B (.slice (some ⟨g, 0, none⟩) n c) M) (hi : i < M.length) (hp : (f, .slice A1 f.size c1) = M[i]) (hk : k ≤ f.size) (f' : F) (hs : f'.size = k) (hbc : bcells f' = (bcells f).take k)
    (h5 : Kp (some g) w w5) (hr : RO w5 B (.slice (some ⟨g, 0, none⟩) n c) (M.set i (f', .slice A1 k c1))) : DR w5 B (.slice (some ⟨g, 0, none⟩) n c) (M.set i (f', .slice A1 k c1)) := by
  refine DR.put h hi (Kp.refl _ w) ?_ ?_ h5 hr
  · have hb := h.bytes _ (List.getElem_mem hi)
    rw [← hp] at hb
    show World.ownsRow _ _ _ _ _ _ _
    rw [hs, hbc]
    exact own_less hb hk
  · rw [← hp]; exact .inl (by cases A1 <;> rfl)
set_option maxRecDepth 100000 in
theorem DR.keep {w : World} {B g n c c1 i N : Nat} {A1 : Option Addr} {f : F} {M : List FB} (h : DR w B (.slice (some ⟨g, 0, none⟩) n c) M) (hi : i < M.length) (hp : (f, .slice A1 N c1) = M[i]) (hN : N = f.size) :
    DR (w.setCell ⟨g, i * 3 + 2, none⟩ (.int .i64 (N : Int))) B (.slice (some ⟨g, 0, none⟩) n c) (M.set i (⟨f.name, f.kept ++ f.loose, ⟨#[]⟩⟩, .slice A1 N c1)) := by
  subst hN
  have hs : (⟨f.name, f.kept ++ f.loose, ⟨#[]⟩⟩ : F).size = f.size := by unfold F.size; dsimp only; rw [append_size']; rfl
  refine DR.trim h hi hp (Nat.le_refl _) _ hs (by rw [bcells_all, List.take_of_length_le (by rw [bcells_len]; exact Nat.le_refl _)]) (Kp.set (Kp.refl _ _) (.inr rfl) _ _) (RO.store h.row hi (r := 2) (by decide) _ _ ?_)
  rw [← hp]
  unfold dcell
  dsimp only
  rw [append_size']
  rfl
set_option maxRecDepth 100000 in
theorem DR.cut {w : World} {B g n c c1 i N k : Nat} {A1 : Option Addr} {f : F} {M : List FB} (h : DR w B (.slice (some ⟨g, 0, none⟩) n c) M) (hi : i < M.length) (hp : (f, .slice A1 N c1) = M[i]) (hN : N = f.size) (hk : k ≤ N) :
    DR ((w.setCell ⟨g, i * 3 + 1, none⟩ (.slice A1 k c1)).setCell ⟨g, i * 3 + 2, none⟩ (.int .i64 (k : Int))) B (.slice (some ⟨g, 0, none⟩) n c) (M.set i (⟨f.name, (f.kept ++ f.loose).extract 0 k, ⟨#[]⟩⟩, .slice A1 k c1)) := by
  subst hN
  have hks : ((f.kept ++ f.loose).extract 0 k).size = k := by
    rw [ByteArray.size_extract, append_size']
    unfold F.size at hk
    omega
  have hs : (⟨f.name, (f.kept ++ f.loose).extract 0 k, ⟨#[]⟩⟩ : F).size = k := by unfold F.size; dsimp only; rw [hks]; rfl
  have h1 := RO.store (w := w) h.row hi (r := 1) (by decide) (⟨f.name, f.kept, f.loose⟩, .slice A1 k c1) (.slice A1 k c1) (by rw [← hp]; rfl)
  have h2 := RO.store (i := i) h1 (by rw [List.length_set]; exact hi) (r := 2) (by decide) (⟨f.name, (f.kept ++ f.loose).extract 0 k, ⟨#[]⟩⟩, .slice A1 k c1) (.int .i64 (k : Int)) (by
    rw [List.getElem_set_self]
    unfold dcell
    dsimp only
    rw [hks]
    rfl)
  rw [List.set_set] at h2
  exact DR.trim h hi hp hk _ hs (bcells_cut f k) (Kp.set (Kp.set (Kp.refl _ _) (.inr rfl) _ _) (.inr rfl) _ _) h2
set_option maxRecDepth 100000 in
set_option maxHeartbeats 4000000 in
theorem do_low (v : Value) (M : List FB) (kd : Int) (nm bts : ByteArray) (at_ : Int) (B : Nat) (w : World) (hv : DR w B v M) (hB : B ≤ w.heap.size) (hf : Fit (files M)) (ho : FitO ⟨kd, nm, bts, at_⟩) (h : kd < 1) :
    Calls Tryz.prog 172 #[v, .agg #[.int .i64 kd, .string nm, .string bts, .int .i64 at_]] w fun e w' => RetDraft (files M) ⟨kd, nm, bts, at_⟩ B v M w e w' := by
  have HS := Lib.hid (show step (files M) ⟨kd, nm, bts, at_⟩ = (1, files M) from if_pos (Or.inl h))
  obtain ⟨⟨hk1, hk2⟩, ⟨ha1, ha2⟩, hnz, hbz⟩ := ho
  dsimp only at hk1 hk2 ha1 ha2 hnz hbz
  obtain ⟨A, c, rfl, hnc, hc63⟩ := own_form hv.row
  have HV := Lib.hid hv
  have HFit := Lib.hid hf
  clear hv hf
  obtain ⟨n, hn⟩ : ∃ n, n = M.length := ⟨_, rfl⟩
  have HN := Lib.hid hn
  rw [← hn] at HV hnc
  rw [← hn]
  clear hn
  obtain ⟨W, hW, hG, o0, o1, o2, o3, hz⟩ := obox ⟨kd, nm, bts, at_⟩ w
  dsimp only at o0 o1 o2 o3 hW
  have HG := Lib.hid hG
  clear hG
  go_enter Tryz.func172, Tryz.ntmps172
  go_upto_region 1 with (fail)
  rw [← hW]
  clear hW
  go_wp2_with fail
  exact bodyPost_ret (v := .tuple #[.slice none 0 0, .int .i64 1]) (by simp [results, Tryz.results172, go_sem]) rfl (RetDraft.no (Below.mono HG.out hB) HS.out (by decide) (HV.out.gr HG.out))
set_option maxRecDepth 100000 in
set_option maxHeartbeats 4000000 in
theorem do_high (v : Value) (M : List FB) (kd : Int) (nm bts : ByteArray) (at_ : Int) (B : Nat) (w : World) (hv : DR w B v M) (hB : B ≤ w.heap.size) (hf : Fit (files M)) (ho : FitO ⟨kd, nm, bts, at_⟩) (h : 4 < kd) :
    Calls Tryz.prog 172 #[v, .agg #[.int .i64 kd, .string nm, .string bts, .int .i64 at_]] w fun e w' => RetDraft (files M) ⟨kd, nm, bts, at_⟩ B v M w e w' := by
  have HS := Lib.hid (show step (files M) ⟨kd, nm, bts, at_⟩ = (1, files M) from if_pos (Or.inr (Or.inl h)))
  obtain ⟨⟨hk1, hk2⟩, ⟨ha1, ha2⟩, hnz, hbz⟩ := ho
  dsimp only at hk1 hk2 ha1 ha2 hnz hbz
  obtain ⟨A, c, rfl, hnc, hc63⟩ := own_form hv.row
  have HV := Lib.hid hv
  have HFit := Lib.hid hf
  clear hv hf
  obtain ⟨n, hn⟩ : ∃ n, n = M.length := ⟨_, rfl⟩
  have HN := Lib.hid hn
  rw [← hn] at HV hnc
  rw [← hn]
  clear hn
  obtain ⟨W, hW, hG, o0, o1, o2, o3, hz⟩ := obox ⟨kd, nm, bts, at_⟩ w
  dsimp only at o0 o1 o2 o3 hW
  have HG := Lib.hid hG
  have h1 : ¬ kd < 1 := by omega
  clear hG
  go_enter Tryz.func172, Tryz.ntmps172
  go_upto_region 1 with (fail)
  rw [← hW]
  clear hW
  go_wp2_with fail
  exact bodyPost_ret (v := .tuple #[.slice none 0 0, .int .i64 1]) (by simp [results, Tryz.results172, go_sem]) rfl (RetDraft.no (Below.mono HG.out hB) HS.out (by decide) (HV.out.gr HG.out))
set_option maxRecDepth 100000 in
set_option maxHeartbeats 4000000 in
theorem do_badname (v : Value) (M : List FB) (kd : Int) (nm bts : ByteArray) (at_ : Int) (B : Nat) (w : World) (hv : DR w B v M) (hB : B ≤ w.heap.size) (hf : Fit (files M)) (ho : FitO ⟨kd, nm, bts, at_⟩) (h1 : 1 ≤ kd) (h4 : kd ≤ 4) (hnm : nameOk nm = false) :
    Calls Tryz.prog 172 #[v, .agg #[.int .i64 kd, .string nm, .string bts, .int .i64 at_]] w fun e w' => RetDraft (files M) ⟨kd, nm, bts, at_⟩ B v M w e w' := by
  have HS := Lib.hid (show step (files M) ⟨kd, nm, bts, at_⟩ = (1, files M) from if_pos (Or.inr (Or.inr hnm)))
  obtain ⟨⟨hk1, hk2⟩, ⟨ha1, ha2⟩, hnz, hbz⟩ := ho
  dsimp only at hk1 hk2 ha1 ha2 hnz hbz
  obtain ⟨A, c, rfl, hnc, hc63⟩ := own_form hv.row
  have HV := Lib.hid hv
  have HFit := Lib.hid hf
  clear hv hf
  obtain ⟨n, hn⟩ : ∃ n, n = M.length := ⟨_, rfl⟩
  have HN := Lib.hid hn
  rw [← hn] at HV hnc
  rw [← hn]
  clear hn
  obtain ⟨W, hW, hG, o0, o1, o2, o3, hz⟩ := obox ⟨kd, nm, bts, at_⟩ w
  dsimp only at o0 o1 o2 o3 hW
  have HG := Lib.hid hG
  have HNm := Lib.hid (name_any nm hnz W)
  rw [hnm] at HNm
  clear hG
  go_enter Tryz.func172, Tryz.ntmps172
  go_upto_region 1 with (fail)
  rw [← hW]
  clear hW
  go_wp2_with fail
  refine HNm.out.mono ?_
  rintro e w1 ⟨rfl, rfl⟩
  go_wp2_with fail
  exact bodyPost_ret (v := .tuple #[.slice none 0 0, .int .i64 1]) (by simp [results, Tryz.results172, go_sem]) rfl (RetDraft.no (Below.mono HG.out hB) HS.out (by decide) (HV.out.gr HG.out))
set_option maxRecDepth 100000 in
set_option maxHeartbeats 4000000 in
theorem do_grow (v : Value) (M : List FB) (nm bts : ByteArray) (at_ : Int) (B : Nat) (w : World) (hv : DR w B v M) (hB : B ≤ w.heap.size) (hf : Fit (files M)) (ho : FitO ⟨1, nm, bts, at_⟩) (hnm : nameOk nm = true) (i : Nat) (hi : findF (files M) nm = i) (hfd : i < M.length) (hsz : ¬ 1048576 < M[i].1.size + bts.size) :
    Calls Tryz.prog 172 #[v, .agg #[.int .i64 1, .string nm, .string bts, .int .i64 at_]] w fun e w' => RetDraft (files M) ⟨1, nm, bts, at_⟩ B v M w e w' := by
  have HS := Lib.hid (show step (files M) ⟨1, nm, bts, at_⟩ = (0, (files M).set i ⟨M[i].1.name, M[i].1.kept, M[i].1.loose ++ bts⟩) by rw [step_good (show (1 : Int) ≤ 1 by decide) (show (1 : Int) ≤ 4 by decide) hnm, hi, stepAt_some (show i < (files M).length by rw [files_len]; exact hfd), if_pos rfl, files_at hfd, if_neg hsz])
  obtain ⟨⟨hk1, hk2⟩, ⟨ha1, ha2⟩, hnz, hbz⟩ := ho
  dsimp only at hk1 hk2 ha1 ha2 hnz hbz
  obtain ⟨A, c, rfl, hnc, hc63⟩ := own_form hv.row
  have HV := Lib.hid hv
  have HFit := Lib.hid hf
  clear hv hf
  obtain ⟨n, hn⟩ : ∃ n, n = M.length := ⟨_, rfl⟩
  have HN := Lib.hid hn
  rw [← hn] at HV hnc
  rw [← hn]
  clear hn
  obtain ⟨W, hW, hG, o0, o1, o2, o3, hz⟩ := obox ⟨1, nm, bts, at_⟩ w
  dsimp only at o0 o1 o2 o3 hW
  have HG := Lib.hid hG
  have HNm := Lib.hid (name_any nm hnz W)
  rw [hnm] at HNm
  have hfi : findI (files M) nm = (i : Int) := by rw [findI_yes (by rw [hi, files_len]; exact hfd), hi]
  have HFd := Lib.hid (indexFunc_any _ M B nm w.heap.size W (HV.out.gr hG) o1)
  rw [hfi] at HFd
  clear hG hfi hnm
  go_enter Tryz.func172, Tryz.ntmps172
  go_upto_region 1 with (fail)
  rw [← hW]
  clear hW
  go_wp2_with fail
  refine HNm.out.mono ?_
  rintro e w1 ⟨rfl, rfl⟩
  go_wp2_with fail
  refine HFd.out.mono ?_
  rintro e w1 ⟨rfl, g1⟩
  have s0 := g1.cell o0
  have s1 := g1.cell o1
  have s2 := g1.cell o2
  have s3 := g1.cell o3
  have HG1 := Lib.hid (HG.out.trans g1)
  have HV1 : Hid (DR w1 B (.slice A n c) M) := Lib.hid (HV.out.gr HG1.out)
  have HBL : Hid (Below B w w1) := Lib.hid (Below.mono HG1.out hB)
  have hz1 : w.heap.size < w1.heap.size := Nat.lt_of_lt_of_le hz g1.size
  clear g1 o0 o1 o2 o3 hz
  have HC := Lib.hid (grow_old (.slice A n c) M 1 nm bts at_ B w1 HV1.out (by have := HG1.out.size; omega) HFit.out hbz i hfd hsz)
  go_wp2_with fail
  refine HC.out.mono ?_
  rintro e w2 ⟨p, rfl, hp, hd, hb⟩
  have HP := Lib.hid hp
  have HD := Lib.hid hd
  have HB2 := Lib.hid hb
  clear hp hd hb
  go_wp2_with fail
  exact bodyPost_ret (v := .tuple #[.slice A n c, .int .i64 0]) (by simp [results, Tryz.results172, go_sem]) rfl (RetDraft.ok (Below.trans HBL.out HB2.out) HS.out (by rw [files_set, HP.out]) HD.out)
set_option maxRecDepth 100000 in
set_option maxHeartbeats 4000000 in
theorem do_longold (v : Value) (M : List FB) (nm bts : ByteArray) (at_ : Int) (B : Nat) (w : World) (hv : DR w B v M) (hB : B ≤ w.heap.size) (hf : Fit (files M)) (ho : FitO ⟨1, nm, bts, at_⟩) (hnm : nameOk nm = true) (i : Nat) (hi : findF (files M) nm = i) (hfd : i < M.length) (hsz : 1048576 < M[i].1.size + bts.size) :
    Calls Tryz.prog 172 #[v, .agg #[.int .i64 1, .string nm, .string bts, .int .i64 at_]] w fun e w' => RetDraft (files M) ⟨1, nm, bts, at_⟩ B v M w e w' := by
  have HS := Lib.hid (show step (files M) ⟨1, nm, bts, at_⟩ = (2, files M) by rw [step_good (show (1 : Int) ≤ 1 by decide) (show (1 : Int) ≤ 4 by decide) hnm, hi, stepAt_some (show i < (files M).length by rw [files_len]; exact hfd), if_pos rfl, files_at hfd, if_pos hsz])
  obtain ⟨⟨hk1, hk2⟩, ⟨ha1, ha2⟩, hnz, hbz⟩ := ho
  dsimp only at hk1 hk2 ha1 ha2 hnz hbz
  obtain ⟨A, c, rfl, hnc, hc63⟩ := own_form hv.row
  have HV := Lib.hid hv
  have HFit := Lib.hid hf
  clear hv hf
  obtain ⟨n, hn⟩ : ∃ n, n = M.length := ⟨_, rfl⟩
  have HN := Lib.hid hn
  rw [← hn] at HV hnc
  rw [← hn]
  clear hn
  obtain ⟨W, hW, hG, o0, o1, o2, o3, hz⟩ := obox ⟨1, nm, bts, at_⟩ w
  dsimp only at o0 o1 o2 o3 hW
  have HG := Lib.hid hG
  have HNm := Lib.hid (name_any nm hnz W)
  rw [hnm] at HNm
  have hfi : findI (files M) nm = (i : Int) := by rw [findI_yes (by rw [hi, files_len]; exact hfd), hi]
  have HFd := Lib.hid (indexFunc_any _ M B nm w.heap.size W (HV.out.gr hG) o1)
  rw [hfi] at HFd
  clear hG hfi hnm
  go_enter Tryz.func172, Tryz.ntmps172
  go_upto_region 1 with (fail)
  rw [← hW]
  clear hW
  go_wp2_with fail
  refine HNm.out.mono ?_
  rintro e w1 ⟨rfl, rfl⟩
  go_wp2_with fail
  refine HFd.out.mono ?_
  rintro e w1 ⟨rfl, g1⟩
  have s0 := g1.cell o0
  have s1 := g1.cell o1
  have s2 := g1.cell o2
  have s3 := g1.cell o3
  have HG1 := Lib.hid (HG.out.trans g1)
  have HV1 : Hid (DR w1 B (.slice A n c) M) := Lib.hid (HV.out.gr HG1.out)
  have HBL : Hid (Below B w w1) := Lib.hid (Below.mono HG1.out hB)
  have hz1 : w.heap.size < w1.heap.size := Nat.lt_of_lt_of_le hz g1.size
  clear g1 o0 o1 o2 o3 hz
  have HC := Lib.hid (grow_longold (.slice A n c) M 1 nm bts at_ B w1 HV1.out HFit.out hbz i hfd hsz)
  go_wp2_with fail
  refine HC.out.mono ?_
  rintro e w2 ⟨rfl, g2⟩
  have HG2 := Lib.hid g2
  clear g2
  go_wp2_with fail
  exact bodyPost_ret (v := .tuple #[.slice none 0 0, .int .i64 2]) (by simp [results, Tryz.results172, go_sem]) rfl (RetDraft.no (Below.trans HBL.out (Below.mono HG2.out (by omega))) HS.out (by decide) (HV1.out.gr HG2.out))
set_option maxRecDepth 100000 in
set_option maxHeartbeats 4000000 in
theorem do_full (v : Value) (M : List FB) (nm bts : ByteArray) (at_ : Int) (B : Nat) (w : World) (hv : DR w B v M) (hB : B ≤ w.heap.size) (hf : Fit (files M)) (ho : FitO ⟨1, nm, bts, at_⟩) (hnm : nameOk nm = true) (hfd : ¬ findF (files M) nm < M.length) (h64 : 64 ≤ M.length) :
    Calls Tryz.prog 172 #[v, .agg #[.int .i64 1, .string nm, .string bts, .int .i64 at_]] w fun e w' => RetDraft (files M) ⟨1, nm, bts, at_⟩ B v M w e w' := by
  have HS := Lib.hid (show step (files M) ⟨1, nm, bts, at_⟩ = (4, files M) by rw [step_good (show (1 : Int) ≤ 1 by decide) (show (1 : Int) ≤ 4 by decide) hnm, stepAt_none (show ¬ findF (files M) nm < (files M).length by rw [files_len]; exact hfd), if_pos rfl, if_pos (by rw [files_len]; exact h64)])
  obtain ⟨⟨hk1, hk2⟩, ⟨ha1, ha2⟩, hnz, hbz⟩ := ho
  dsimp only at hk1 hk2 ha1 ha2 hnz hbz
  obtain ⟨A, c, rfl, hnc, hc63⟩ := own_form hv.row
  have HV := Lib.hid hv
  have HFit := Lib.hid hf
  clear hv hf
  obtain ⟨n, hn⟩ : ∃ n, n = M.length := ⟨_, rfl⟩
  have HN := Lib.hid hn
  rw [← hn] at HV hnc
  rw [← hn]
  clear hn
  obtain ⟨W, hW, hG, o0, o1, o2, o3, hz⟩ := obox ⟨1, nm, bts, at_⟩ w
  dsimp only at o0 o1 o2 o3 hW
  have HG := Lib.hid hG
  have HNm := Lib.hid (name_any nm hnz W)
  rw [hnm] at HNm
  have hfi : findI (files M) nm = -1 := findI_no (by rw [files_len]; exact hfd)
  have HFd := Lib.hid (indexFunc_any _ M B nm w.heap.size W (HV.out.gr hG) o1)
  rw [hfi] at HFd
  clear hG hfi hnm
  go_enter Tryz.func172, Tryz.ntmps172
  go_upto_region 1 with (fail)
  rw [← hW]
  clear hW
  go_wp2_with fail
  refine HNm.out.mono ?_
  rintro e w1 ⟨rfl, rfl⟩
  go_wp2_with fail
  refine HFd.out.mono ?_
  rintro e w1 ⟨rfl, g1⟩
  have s0 := g1.cell o0
  have s1 := g1.cell o1
  have s2 := g1.cell o2
  have s3 := g1.cell o3
  have HG1 := Lib.hid (HG.out.trans g1)
  have HV1 : Hid (DR w1 B (.slice A n c) M) := Lib.hid (HV.out.gr HG1.out)
  have HBL : Hid (Below B w w1) := Lib.hid (Below.mono HG1.out hB)
  have hz1 : w.heap.size < w1.heap.size := Nat.lt_of_lt_of_le hz g1.size
  clear g1 o0 o1 o2 o3 hz
  have HC := Lib.hid (grow_full (.slice A n c) M 1 nm bts at_ B w1 HV1.out h64)
  go_wp2_with fail
  refine HC.out.mono ?_
  rintro e w2 ⟨rfl, g2⟩
  have HG2 := Lib.hid g2
  clear g2
  go_wp2_with fail
  exact bodyPost_ret (v := .tuple #[.slice none 0 0, .int .i64 4]) (by simp [results, Tryz.results172, go_sem]) rfl (RetDraft.no (Below.trans HBL.out (Below.mono HG2.out (by omega))) HS.out (by decide) (HV1.out.gr HG2.out))
set_option maxRecDepth 100000 in
set_option maxHeartbeats 4000000 in
theorem do_longnew (v : Value) (M : List FB) (nm bts : ByteArray) (at_ : Int) (B : Nat) (w : World) (hv : DR w B v M) (hB : B ≤ w.heap.size) (hf : Fit (files M)) (ho : FitO ⟨1, nm, bts, at_⟩) (hnm : nameOk nm = true) (hfd : ¬ findF (files M) nm < M.length) (h64 : ¬ 64 ≤ M.length) (hsz : 1048576 < bts.size) :
    Calls Tryz.prog 172 #[v, .agg #[.int .i64 1, .string nm, .string bts, .int .i64 at_]] w fun e w' => RetDraft (files M) ⟨1, nm, bts, at_⟩ B v M w e w' := by
  have HS := Lib.hid (show step (files M) ⟨1, nm, bts, at_⟩ = (2, files M) by rw [step_good (show (1 : Int) ≤ 1 by decide) (show (1 : Int) ≤ 4 by decide) hnm, stepAt_none (show ¬ findF (files M) nm < (files M).length by rw [files_len]; exact hfd), if_pos rfl, if_neg (by rw [files_len]; exact h64), if_pos hsz])
  obtain ⟨⟨hk1, hk2⟩, ⟨ha1, ha2⟩, hnz, hbz⟩ := ho
  dsimp only at hk1 hk2 ha1 ha2 hnz hbz
  obtain ⟨A, c, rfl, hnc, hc63⟩ := own_form hv.row
  have HV := Lib.hid hv
  have HFit := Lib.hid hf
  clear hv hf
  obtain ⟨n, hn⟩ : ∃ n, n = M.length := ⟨_, rfl⟩
  have HN := Lib.hid hn
  rw [← hn] at HV hnc
  rw [← hn]
  clear hn
  obtain ⟨W, hW, hG, o0, o1, o2, o3, hz⟩ := obox ⟨1, nm, bts, at_⟩ w
  dsimp only at o0 o1 o2 o3 hW
  have HG := Lib.hid hG
  have HNm := Lib.hid (name_any nm hnz W)
  rw [hnm] at HNm
  have hfi : findI (files M) nm = -1 := findI_no (by rw [files_len]; exact hfd)
  have HFd := Lib.hid (indexFunc_any _ M B nm w.heap.size W (HV.out.gr hG) o1)
  rw [hfi] at HFd
  clear hG hfi hnm
  go_enter Tryz.func172, Tryz.ntmps172
  go_upto_region 1 with (fail)
  rw [← hW]
  clear hW
  go_wp2_with fail
  refine HNm.out.mono ?_
  rintro e w1 ⟨rfl, rfl⟩
  go_wp2_with fail
  refine HFd.out.mono ?_
  rintro e w1 ⟨rfl, g1⟩
  have s0 := g1.cell o0
  have s1 := g1.cell o1
  have s2 := g1.cell o2
  have s3 := g1.cell o3
  have HG1 := Lib.hid (HG.out.trans g1)
  have HV1 : Hid (DR w1 B (.slice A n c) M) := Lib.hid (HV.out.gr HG1.out)
  have HBL : Hid (Below B w w1) := Lib.hid (Below.mono HG1.out hB)
  have hz1 : w.heap.size < w1.heap.size := Nat.lt_of_lt_of_le hz g1.size
  clear g1 o0 o1 o2 o3 hz
  have HC := Lib.hid (grow_longnew (.slice A n c) M 1 nm bts at_ B w1 HV1.out h64 hbz hsz)
  go_wp2_with fail
  refine HC.out.mono ?_
  rintro e w2 ⟨rfl, g2⟩
  have HG2 := Lib.hid g2
  clear g2
  go_wp2_with fail
  exact bodyPost_ret (v := .tuple #[.slice none 0 0, .int .i64 2]) (by simp [results, Tryz.results172, go_sem]) rfl (RetDraft.no (Below.trans HBL.out (Below.mono HG2.out (by omega))) HS.out (by decide) (HV1.out.gr HG2.out))
set_option maxRecDepth 100000 in
set_option maxHeartbeats 4000000 in
theorem do_new (v : Value) (M : List FB) (nm bts : ByteArray) (at_ : Int) (B : Nat) (w : World) (hv : DR w B v M) (hB : B ≤ w.heap.size) (hf : Fit (files M)) (ho : FitO ⟨1, nm, bts, at_⟩) (hnm : nameOk nm = true) (hfd : ¬ findF (files M) nm < M.length) (h64 : ¬ 64 ≤ M.length) (hsz : ¬ 1048576 < bts.size) :
    Calls Tryz.prog 172 #[v, .agg #[.int .i64 1, .string nm, .string bts, .int .i64 at_]] w fun e w' => RetDraft (files M) ⟨1, nm, bts, at_⟩ B v M w e w' := by
  have HS := Lib.hid (show step (files M) ⟨1, nm, bts, at_⟩ = (0, (files M).insertIdx (placeF (files M) nm) ⟨nm, ⟨#[]⟩, bts⟩) by rw [step_good (show (1 : Int) ≤ 1 by decide) (show (1 : Int) ≤ 4 by decide) hnm, stepAt_none (show ¬ findF (files M) nm < (files M).length by rw [files_len]; exact hfd), if_pos rfl, if_neg (by rw [files_len]; exact h64), if_neg hsz])
  obtain ⟨⟨hk1, hk2⟩, ⟨ha1, ha2⟩, hnz, hbz⟩ := ho
  dsimp only at hk1 hk2 ha1 ha2 hnz hbz
  obtain ⟨A, c, rfl, hnc, hc63⟩ := own_form hv.row
  have HV := Lib.hid hv
  have HFit := Lib.hid hf
  clear hv hf
  obtain ⟨n, hn⟩ : ∃ n, n = M.length := ⟨_, rfl⟩
  have HN := Lib.hid hn
  rw [← hn] at HV hnc
  rw [← hn]
  clear hn
  obtain ⟨W, hW, hG, o0, o1, o2, o3, hz⟩ := obox ⟨1, nm, bts, at_⟩ w
  dsimp only at o0 o1 o2 o3 hW
  have HG := Lib.hid hG
  have HNm := Lib.hid (name_any nm hnz W)
  rw [hnm] at HNm
  have hfi : findI (files M) nm = -1 := findI_no (by rw [files_len]; exact hfd)
  have HFd := Lib.hid (indexFunc_any _ M B nm w.heap.size W (HV.out.gr hG) o1)
  rw [hfi] at HFd
  clear hG hfi hnm
  go_enter Tryz.func172, Tryz.ntmps172
  go_upto_region 1 with (fail)
  rw [← hW]
  clear hW
  go_wp2_with fail
  refine HNm.out.mono ?_
  rintro e w1 ⟨rfl, rfl⟩
  go_wp2_with fail
  refine HFd.out.mono ?_
  rintro e w1 ⟨rfl, g1⟩
  have s0 := g1.cell o0
  have s1 := g1.cell o1
  have s2 := g1.cell o2
  have s3 := g1.cell o3
  have HG1 := Lib.hid (HG.out.trans g1)
  have HV1 : Hid (DR w1 B (.slice A n c) M) := Lib.hid (HV.out.gr HG1.out)
  have HBL : Hid (Below B w w1) := Lib.hid (Below.mono HG1.out hB)
  have hz1 : w.heap.size < w1.heap.size := Nat.lt_of_lt_of_le hz g1.size
  clear g1 o0 o1 o2 o3 hz
  have HC := Lib.hid (grow_new (.slice A n c) M 1 nm bts at_ B w1 HV1.out (by have := HG1.out.size; omega) h64 hsz (by rw [files_len]; exact hfd))
  go_wp2_with fail
  refine HC.out.mono ?_
  rintro e w2 ⟨v2, M2, rfl, hp, hd, hb⟩
  have HP := Lib.hid hp
  have HD := Lib.hid hd
  have HB2 := Lib.hid hb
  clear hp hd hb
  go_wp2_with fail
  exact bodyPost_ret (v := .tuple #[v2, .int .i64 0]) (by simp [results, Tryz.results172, go_sem]) rfl (RetDraft.ok (Below.trans HBL.out HB2.out) HS.out HP.out HD.out)
set_option maxRecDepth 100000 in
set_option maxHeartbeats 4000000 in
theorem do_nofile (v : Value) (M : List FB) (kd : Int) (nm bts : ByteArray) (at_ : Int) (B : Nat) (w : World) (hv : DR w B v M) (hB : B ≤ w.heap.size) (hf : Fit (files M)) (ho : FitO ⟨kd, nm, bts, at_⟩) (h1 : 1 ≤ kd) (h4 : kd ≤ 4) (hk : kd ≠ 1) (hnm : nameOk nm = true) (hfd : ¬ findF (files M) nm < M.length) :
    Calls Tryz.prog 172 #[v, .agg #[.int .i64 kd, .string nm, .string bts, .int .i64 at_]] w fun e w' => RetDraft (files M) ⟨kd, nm, bts, at_⟩ B v M w e w' := by
  have HS := Lib.hid (show step (files M) ⟨kd, nm, bts, at_⟩ = (30, files M) by rw [step_good h1 h4 hnm, stepAt_none (show ¬ findF (files M) nm < (files M).length by rw [files_len]; exact hfd), if_neg hk])
  obtain ⟨⟨hk1, hk2⟩, ⟨ha1, ha2⟩, hnz, hbz⟩ := ho
  dsimp only at hk1 hk2 ha1 ha2 hnz hbz
  obtain ⟨A, c, rfl, hnc, hc63⟩ := own_form hv.row
  have HV := Lib.hid hv
  have HFit := Lib.hid hf
  clear hv hf
  obtain ⟨n, hn⟩ : ∃ n, n = M.length := ⟨_, rfl⟩
  have HN := Lib.hid hn
  rw [← hn] at HV hnc
  rw [← hn]
  clear hn
  obtain ⟨W, hW, hG, o0, o1, o2, o3, hz⟩ := obox ⟨kd, nm, bts, at_⟩ w
  dsimp only at o0 o1 o2 o3 hW
  have HG := Lib.hid hG
  have HNm := Lib.hid (name_any nm hnz W)
  rw [hnm] at HNm
  have hfi : findI (files M) nm = -1 := findI_no (by rw [files_len]; exact hfd)
  have HFd := Lib.hid (indexFunc_any _ M B nm w.heap.size W (HV.out.gr hG) o1)
  rw [hfi] at HFd
  have hne : (kd == 1) = false := by simpa using hk
  clear hG hfi hnm
  go_enter Tryz.func172, Tryz.ntmps172
  go_upto_region 1 with (fail)
  rw [← hW]
  clear hW
  go_wp2_with fail
  refine HNm.out.mono ?_
  rintro e w1 ⟨rfl, rfl⟩
  go_wp2_with fail
  refine HFd.out.mono ?_
  rintro e w1 ⟨rfl, g1⟩
  have s0 := g1.cell o0
  have s1 := g1.cell o1
  have s2 := g1.cell o2
  have s3 := g1.cell o3
  have HG1 := Lib.hid (HG.out.trans g1)
  have HV1 : Hid (DR w1 B (.slice A n c) M) := Lib.hid (HV.out.gr HG1.out)
  have HBL : Hid (Below B w w1) := Lib.hid (Below.mono HG1.out hB)
  have hz1 : w.heap.size < w1.heap.size := Nat.lt_of_lt_of_le hz g1.size
  clear g1 o0 o1 o2 o3 hz
  go_wp2_with fail
  exact bodyPost_ret (v := .tuple #[.slice none 0 0, .int .i64 30]) (by simp [results, Tryz.results172, go_sem]) rfl (RetDraft.no HBL.out HS.out (by decide) HV1.out)
set_option maxRecDepth 100000 in
set_option maxHeartbeats 4000000 in
theorem do_drop (v : Value) (M : List FB) (nm bts : ByteArray) (at_ : Int) (B : Nat) (w : World) (hv : DR w B v M) (hB : B ≤ w.heap.size) (hf : Fit (files M)) (ho : FitO ⟨4, nm, bts, at_⟩) (hnm : nameOk nm = true) (i : Nat) (hi : findF (files M) nm = i) (hfd : i < M.length) :
    Calls Tryz.prog 172 #[v, .agg #[.int .i64 4, .string nm, .string bts, .int .i64 at_]] w fun e w' => RetDraft (files M) ⟨4, nm, bts, at_⟩ B v M w e w' := by
  have HS := Lib.hid (show step (files M) ⟨4, nm, bts, at_⟩ = (0, (files M).eraseIdx i) by rw [step_good (show (1 : Int) ≤ 4 by decide) (show (4 : Int) ≤ 4 by decide) hnm, hi, stepAt_some (show i < (files M).length by rw [files_len]; exact hfd), if_neg (show ¬ (4 : Int) = 1 by decide), if_neg (show ¬ (4 : Int) = 2 by decide), if_neg (show ¬ (4 : Int) = 3 by decide)])
  obtain ⟨⟨hk1, hk2⟩, ⟨ha1, ha2⟩, hnz, hbz⟩ := ho
  dsimp only at hk1 hk2 ha1 ha2 hnz hbz
  obtain ⟨A, c, rfl, hnc, hc63⟩ := own_form hv.row
  have HV := Lib.hid hv
  have HFit := Lib.hid hf
  clear hv hf
  obtain ⟨n, hn⟩ : ∃ n, n = M.length := ⟨_, rfl⟩
  have HN := Lib.hid hn
  rw [← hn] at HV hnc
  rw [← hn]
  clear hn
  obtain ⟨W, hW, hG, o0, o1, o2, o3, hz⟩ := obox ⟨4, nm, bts, at_⟩ w
  dsimp only at o0 o1 o2 o3 hW
  have HG := Lib.hid hG
  have HNm := Lib.hid (name_any nm hnz W)
  rw [hnm] at HNm
  have hfi : findI (files M) nm = (i : Int) := by rw [findI_yes (by rw [hi, files_len]; exact hfd), hi]
  have HFd := Lib.hid (indexFunc_any _ M B nm w.heap.size W (HV.out.gr hG) o1)
  rw [hfi] at HFd
  clear hG hfi hnm
  go_enter Tryz.func172, Tryz.ntmps172
  go_upto_region 1 with (fail)
  rw [← hW]
  clear hW
  go_wp2_with fail
  refine HNm.out.mono ?_
  rintro e w1 ⟨rfl, rfl⟩
  go_wp2_with fail
  refine HFd.out.mono ?_
  rintro e w1 ⟨rfl, g1⟩
  have s0 := g1.cell o0
  have s1 := g1.cell o1
  have s2 := g1.cell o2
  have s3 := g1.cell o3
  have HG1 := Lib.hid (HG.out.trans g1)
  have HV1 : Hid (DR w1 B (.slice A n c) M) := Lib.hid (HV.out.gr HG1.out)
  have HBL : Hid (Below B w w1) := Lib.hid (Below.mono HG1.out hB)
  have hz1 : w.heap.size < w1.heap.size := Nat.lt_of_lt_of_le hz g1.size
  clear g1 o0 o1 o2 o3 hz
  have HC := Lib.hid (delete_any (.slice A n c) M B i w1 HV1.out hfd)
  have hil : i < n := by rw [HN.out]; exact hfd
  have ei : IntKind.i64.wrap ((i : Int) + 1) = (i : Int) + 1 := IntWalk.i64_in _ ⟨by omega, by omega⟩
  have d2 : ¬ ((i : Int) < 0) := by omega
  go_wp2_with fail
  refine HC.out.mono ?_
  rintro e w2 ⟨v2, rfl, hr, ho, hk⟩
  have HD : Hid (DR w2 B v2 (M.eraseIdx i)) := Lib.hid (HV1.out.erase hr hk)
  have HB2 : Hid (Below B w1 w2) := Lib.hid (hk.below (by have := HG1.out.size; omega) (fun x hx => (HV1.out.row.lt x hx).1))
  clear hr ho hk
  go_wp2_with fail
  exact bodyPost_ret (v := .tuple #[v2, .int .i64 0]) (by simp [results, Tryz.results172, go_sem]) rfl (RetDraft.ok (Below.trans HBL.out HB2.out) HS.out (files_erase M i) HD.out)
set_option maxRecDepth 100000 in
set_option maxHeartbeats 4000000 in
theorem do_sync (v : Value) (M : List FB) (nm bts : ByteArray) (at_ : Int) (B : Nat) (w : World) (hv : DR w B v M) (hB : B ≤ w.heap.size) (hf : Fit (files M)) (ho : FitO ⟨2, nm, bts, at_⟩) (hnm : nameOk nm = true) (i : Nat) (hi : findF (files M) nm = i) (hfd : i < M.length) :
    Calls Tryz.prog 172 #[v, .agg #[.int .i64 2, .string nm, .string bts, .int .i64 at_]] w fun e w' => RetDraft (files M) ⟨2, nm, bts, at_⟩ B v M w e w' := by
  have HS := Lib.hid (show step (files M) ⟨2, nm, bts, at_⟩ = (0, (files M).set i ⟨M[i].1.name, M[i].1.kept ++ M[i].1.loose, ⟨#[]⟩⟩) by rw [step_good (show (1 : Int) ≤ 2 by decide) (show (2 : Int) ≤ 4 by decide) hnm, hi, stepAt_some (show i < (files M).length by rw [files_len]; exact hfd), if_neg (show ¬ (2 : Int) = 1 by decide), if_pos rfl, files_at hfd])
  obtain ⟨⟨hk1, hk2⟩, ⟨ha1, ha2⟩, hnz, hbz⟩ := ho
  dsimp only at hk1 hk2 ha1 ha2 hnz hbz
  obtain ⟨A, c, rfl, hnc, hc63⟩ := own_form hv.row
  have HV := Lib.hid hv
  have HFit := Lib.hid hf
  clear hv hf
  obtain ⟨n, hn⟩ : ∃ n, n = M.length := ⟨_, rfl⟩
  have HN := Lib.hid hn
  rw [← hn] at HV hnc
  rw [← hn]
  clear hn
  obtain ⟨W, hW, hG, o0, o1, o2, o3, hz⟩ := obox ⟨2, nm, bts, at_⟩ w
  dsimp only at o0 o1 o2 o3 hW
  have HG := Lib.hid hG
  have HNm := Lib.hid (name_any nm hnz W)
  rw [hnm] at HNm
  have hfi : findI (files M) nm = (i : Int) := by rw [findI_yes (by rw [hi, files_len]; exact hfd), hi]
  have HFd := Lib.hid (indexFunc_any _ M B nm w.heap.size W (HV.out.gr hG) o1)
  rw [hfi] at HFd
  clear hG hfi hnm
  go_enter Tryz.func172, Tryz.ntmps172
  go_upto_region 1 with (fail)
  rw [← hW]
  clear hW
  go_wp2_with fail
  refine HNm.out.mono ?_
  rintro e w1 ⟨rfl, rfl⟩
  go_wp2_with fail
  refine HFd.out.mono ?_
  rintro e w1 ⟨rfl, g1⟩
  have s0 := g1.cell o0
  have s1 := g1.cell o1
  have s2 := g1.cell o2
  have s3 := g1.cell o3
  have HG1 := Lib.hid (HG.out.trans g1)
  have HV1 : Hid (DR w1 B (.slice A n c) M) := Lib.hid (HV.out.gr HG1.out)
  have HBL : Hid (Below B w w1) := Lib.hid (Below.mono HG1.out hB)
  have hz1 : w.heap.size < w1.heap.size := Nat.lt_of_lt_of_le hz g1.size
  clear g1 o0 o1 o2 o3 hz
  obtain ⟨g, cc, hvv⟩ := HV1.out.row.addr hfd
  injection hvv with q1 q2 q3
  subst q1 q3
  clear q2
  have hil : i < n := by rw [HN.out]; exact hfd
  obtain ⟨cc0, cc1, cc2⟩ := HV1.out.row.at_ hfd
  have hbo := HV1.out.bytes M[i] (List.getElem_mem hfd)
  have z1 := HV1.out.row.free (i * 3 + 1)
  have z2 := HV1.out.row.free (i * 3 + 2)
  obtain ⟨p, hp⟩ : ∃ p, p = M[i] := ⟨_, rfl⟩
  rw [← hp] at cc0 cc1 cc2 hbo HS
  have HP := Lib.hid hp
  clear hp
  obtain ⟨f, bv⟩ := p
  obtain ⟨A1, c1, hbv, hb1, hb2⟩ := own_form hbo
  have hbv : bv = .slice A1 f.size c1 := hbv
  subst hbv
  dsimp only at cc0 cc1 cc2 hb1 HS
  have HBO := Lib.hid hbo
  obtain ⟨N, hN⟩ : ∃ N, N = f.size := ⟨_, rfl⟩
  have HNf := Lib.hid hN
  rw [← hN] at cc1 hb1
  clear hbo hbv cc0
  have hbx : g ≠ w.heap.size := fun e => by have := (HV.out.row.lt g (by rfl)).2; omega
  clear hN
  go_wp2_with fail
  refine bodyPost_ret (v := .tuple #[.slice (some ⟨g, 0, none⟩) n c, .int .i64 0]) (by simp [results, Tryz.results172, go_sem]) rfl (RetDraft.ok (M' := M.set i (⟨f.name, f.kept ++ f.loose, ⟨#[]⟩⟩, .slice A1 N c1)) ?_ HS.out (files_set M i _) ?_)
  · exact Below.setCell HBL.out (p := ⟨g, i * 3 + 2, none⟩) (HV1.out.row.lt g rfl).1 _
  · exact HV1.out.keep hfd (by rw [HNf.out]; exact HP.out) HNf.out
set_option maxRecDepth 100000 in
set_option maxHeartbeats 4000000 in
theorem do_cutlow (v : Value) (M : List FB) (nm bts : ByteArray) (at_ : Int) (B : Nat) (w : World) (hv : DR w B v M) (hB : B ≤ w.heap.size) (hf : Fit (files M)) (ho : FitO ⟨3, nm, bts, at_⟩) (hnm : nameOk nm = true) (i : Nat) (hi : findF (files M) nm = i) (hfd : i < M.length) (hat : at_ < 0) :
    Calls Tryz.prog 172 #[v, .agg #[.int .i64 3, .string nm, .string bts, .int .i64 at_]] w fun e w' => RetDraft (files M) ⟨3, nm, bts, at_⟩ B v M w e w' := by
  have HS := Lib.hid (show step (files M) ⟨3, nm, bts, at_⟩ = (1, files M) by rw [step_good (show (1 : Int) ≤ 3 by decide) (show (3 : Int) ≤ 4 by decide) hnm, hi, stepAt_some (show i < (files M).length by rw [files_len]; exact hfd), if_neg (show ¬ (3 : Int) = 1 by decide), if_neg (show ¬ (3 : Int) = 2 by decide), if_pos rfl, if_pos (.inl hat)])
  obtain ⟨⟨hk1, hk2⟩, ⟨ha1, ha2⟩, hnz, hbz⟩ := ho
  dsimp only at hk1 hk2 ha1 ha2 hnz hbz
  obtain ⟨A, c, rfl, hnc, hc63⟩ := own_form hv.row
  have HV := Lib.hid hv
  have HFit := Lib.hid hf
  clear hv hf
  obtain ⟨n, hn⟩ : ∃ n, n = M.length := ⟨_, rfl⟩
  have HN := Lib.hid hn
  rw [← hn] at HV hnc
  rw [← hn]
  clear hn
  obtain ⟨W, hW, hG, o0, o1, o2, o3, hz⟩ := obox ⟨3, nm, bts, at_⟩ w
  dsimp only at o0 o1 o2 o3 hW
  have HG := Lib.hid hG
  have HNm := Lib.hid (name_any nm hnz W)
  rw [hnm] at HNm
  have hfi : findI (files M) nm = (i : Int) := by rw [findI_yes (by rw [hi, files_len]; exact hfd), hi]
  have HFd := Lib.hid (indexFunc_any _ M B nm w.heap.size W (HV.out.gr hG) o1)
  rw [hfi] at HFd
  clear hG hfi hnm
  go_enter Tryz.func172, Tryz.ntmps172
  go_upto_region 1 with (fail)
  rw [← hW]
  clear hW
  go_wp2_with fail
  refine HNm.out.mono ?_
  rintro e w1 ⟨rfl, rfl⟩
  go_wp2_with fail
  refine HFd.out.mono ?_
  rintro e w1 ⟨rfl, g1⟩
  have s0 := g1.cell o0
  have s1 := g1.cell o1
  have s2 := g1.cell o2
  have s3 := g1.cell o3
  have HG1 := Lib.hid (HG.out.trans g1)
  have HV1 : Hid (DR w1 B (.slice A n c) M) := Lib.hid (HV.out.gr HG1.out)
  have HBL : Hid (Below B w w1) := Lib.hid (Below.mono HG1.out hB)
  have hz1 : w.heap.size < w1.heap.size := Nat.lt_of_lt_of_le hz g1.size
  clear g1 o0 o1 o2 o3 hz
  obtain ⟨g, cc, hvv⟩ := HV1.out.row.addr hfd
  injection hvv with q1 q2 q3
  subst q1 q3
  clear q2
  have hil : i < n := by rw [HN.out]; exact hfd
  obtain ⟨cc0, cc1, cc2⟩ := HV1.out.row.at_ hfd
  have hbo := HV1.out.bytes M[i] (List.getElem_mem hfd)
  have z1 := HV1.out.row.free (i * 3 + 1)
  have z2 := HV1.out.row.free (i * 3 + 2)
  obtain ⟨p, hp⟩ : ∃ p, p = M[i] := ⟨_, rfl⟩
  rw [← hp] at cc0 cc1 cc2 hbo
  have HP := Lib.hid hp
  clear hp
  obtain ⟨f, bv⟩ := p
  obtain ⟨A1, c1, hbv, hb1, hb2⟩ := own_form hbo
  have hbv : bv = .slice A1 f.size c1 := hbv
  subst hbv
  dsimp only at cc0 cc1 cc2 hb1
  have HBO := Lib.hid hbo
  obtain ⟨N, hN⟩ : ∃ N, N = f.size := ⟨_, rfl⟩
  have HNf := Lib.hid hN
  rw [← hN] at cc1 hb1
  clear hbo hbv cc0
  have hbx : g ≠ w.heap.size := fun e => by have := (HV.out.row.lt g (by rfl)).2; omega
  clear hN
  go_wp2_with fail
  have d1 : decide (at_ < 0) = true := decide_eq_true hat
  go_quiet (fail)
  clear d1
  go_wp2_with fail
  exact bodyPost_ret (v := .tuple #[.slice none 0 0, .int .i64 1]) (by simp [results, Tryz.results172, go_sem]) rfl (RetDraft.no (Below.trans HBL.out (Below.mono ((Gr.refl w1).drewN nq) (by omega))) HS.out (by decide) (HV1.out.gr ((Gr.refl w1).drewN nq)))
set_option maxRecDepth 100000 in
set_option maxHeartbeats 4000000 in
theorem do_cuthigh (v : Value) (M : List FB) (nm bts : ByteArray) (at_ : Int) (B : Nat) (w : World) (hv : DR w B v M) (hB : B ≤ w.heap.size) (hf : Fit (files M)) (ho : FitO ⟨3, nm, bts, at_⟩) (hnm : nameOk nm = true) (i : Nat) (hi : findF (files M) nm = i) (hfd : i < M.length) (hat : ¬ at_ < 0) (hsz : (M[i].1.size : Int) < at_) :
    Calls Tryz.prog 172 #[v, .agg #[.int .i64 3, .string nm, .string bts, .int .i64 at_]] w fun e w' => RetDraft (files M) ⟨3, nm, bts, at_⟩ B v M w e w' := by
  have HS := Lib.hid (show step (files M) ⟨3, nm, bts, at_⟩ = (1, files M) by rw [step_good (show (1 : Int) ≤ 3 by decide) (show (3 : Int) ≤ 4 by decide) hnm, hi, stepAt_some (show i < (files M).length by rw [files_len]; exact hfd), if_neg (show ¬ (3 : Int) = 1 by decide), if_neg (show ¬ (3 : Int) = 2 by decide), if_pos rfl, files_at hfd, if_pos (.inr hsz)])
  obtain ⟨⟨hk1, hk2⟩, ⟨ha1, ha2⟩, hnz, hbz⟩ := ho
  dsimp only at hk1 hk2 ha1 ha2 hnz hbz
  obtain ⟨A, c, rfl, hnc, hc63⟩ := own_form hv.row
  have HV := Lib.hid hv
  have HFit := Lib.hid hf
  clear hv hf
  obtain ⟨n, hn⟩ : ∃ n, n = M.length := ⟨_, rfl⟩
  have HN := Lib.hid hn
  rw [← hn] at HV hnc
  rw [← hn]
  clear hn
  obtain ⟨W, hW, hG, o0, o1, o2, o3, hz⟩ := obox ⟨3, nm, bts, at_⟩ w
  dsimp only at o0 o1 o2 o3 hW
  have HG := Lib.hid hG
  have HNm := Lib.hid (name_any nm hnz W)
  rw [hnm] at HNm
  have hfi : findI (files M) nm = (i : Int) := by rw [findI_yes (by rw [hi, files_len]; exact hfd), hi]
  have HFd := Lib.hid (indexFunc_any _ M B nm w.heap.size W (HV.out.gr hG) o1)
  rw [hfi] at HFd
  clear hG hfi hnm
  go_enter Tryz.func172, Tryz.ntmps172
  go_upto_region 1 with (fail)
  rw [← hW]
  clear hW
  go_wp2_with fail
  refine HNm.out.mono ?_
  rintro e w1 ⟨rfl, rfl⟩
  go_wp2_with fail
  refine HFd.out.mono ?_
  rintro e w1 ⟨rfl, g1⟩
  have s0 := g1.cell o0
  have s1 := g1.cell o1
  have s2 := g1.cell o2
  have s3 := g1.cell o3
  have HG1 := Lib.hid (HG.out.trans g1)
  have HV1 : Hid (DR w1 B (.slice A n c) M) := Lib.hid (HV.out.gr HG1.out)
  have HBL : Hid (Below B w w1) := Lib.hid (Below.mono HG1.out hB)
  have hz1 : w.heap.size < w1.heap.size := Nat.lt_of_lt_of_le hz g1.size
  clear g1 o0 o1 o2 o3 hz
  obtain ⟨g, cc, hvv⟩ := HV1.out.row.addr hfd
  injection hvv with q1 q2 q3
  subst q1 q3
  clear q2
  have hil : i < n := by rw [HN.out]; exact hfd
  obtain ⟨cc0, cc1, cc2⟩ := HV1.out.row.at_ hfd
  have hbo := HV1.out.bytes M[i] (List.getElem_mem hfd)
  have z1 := HV1.out.row.free (i * 3 + 1)
  have z2 := HV1.out.row.free (i * 3 + 2)
  obtain ⟨p, hp⟩ : ∃ p, p = M[i] := ⟨_, rfl⟩
  rw [← hp] at cc0 cc1 cc2 hbo hsz
  have HP := Lib.hid hp
  clear hp
  obtain ⟨f, bv⟩ := p
  obtain ⟨A1, c1, hbv, hb1, hb2⟩ := own_form hbo
  have hbv : bv = .slice A1 f.size c1 := hbv
  subst hbv
  dsimp only at cc0 cc1 cc2 hb1 hsz
  have HBO := Lib.hid hbo
  obtain ⟨N, hN⟩ : ∃ N, N = f.size := ⟨_, rfl⟩
  have HNf := Lib.hid hN
  rw [← hN] at cc1 hb1
  clear hbo hbv cc0
  have hbx : g ≠ w.heap.size := fun e => by have := (HV.out.row.lt g (by rfl)).2; omega
  rw [← hN] at hsz
  clear hN
  go_wp2_with fail
  have d1 : decide (at_ < 0) = false := decide_eq_false (by omega)
  have d2 : decide ((N : Int) < at_) = true := decide_eq_true hsz
  go_quiet (fail)
  clear d1 d2
  go_wp2_with fail
  exact bodyPost_ret (v := .tuple #[.slice none 0 0, .int .i64 1]) (by simp [results, Tryz.results172, go_sem]) rfl (RetDraft.no (Below.trans HBL.out (Below.mono ((Gr.refl w1).drewN nq) (by omega))) HS.out (by decide) (HV1.out.gr ((Gr.refl w1).drewN nq)))
set_option maxRecDepth 100000 in
set_option maxHeartbeats 4000000 in
theorem do_cut (v : Value) (M : List FB) (nm bts : ByteArray) (k : Nat) (B : Nat) (w : World) (hv : DR w B v M) (hB : B ≤ w.heap.size) (hf : Fit (files M)) (ho : FitO ⟨3, nm, bts, (k : Int)⟩) (hnm : nameOk nm = true) (i : Nat) (hi : findF (files M) nm = i) (hfd : i < M.length) (hsz : k ≤ M[i].1.size) :
    Calls Tryz.prog 172 #[v, .agg #[.int .i64 3, .string nm, .string bts, .int .i64 (k : Int)]] w fun e w' => RetDraft (files M) ⟨3, nm, bts, (k : Int)⟩ B v M w e w' := by
  have HS := Lib.hid (show step (files M) ⟨3, nm, bts, (k : Int)⟩ = (0, (files M).set i ⟨M[i].1.name, (M[i].1.kept ++ M[i].1.loose).extract 0 k, ⟨#[]⟩⟩) by
    rw [step_good (show (1 : Int) ≤ 3 by decide) (show (3 : Int) ≤ 4 by decide) hnm, hi, stepAt_some (show i < (files M).length by rw [files_len]; exact hfd), if_neg (show ¬ (3 : Int) = 1 by decide), if_neg (show ¬ (3 : Int) = 2 by decide), if_pos rfl, files_at hfd, if_neg (show ¬ ((k : Int) < 0 ∨ (M[i].1.size : Int) < (k : Int)) by omega)]
    rfl)
  obtain ⟨⟨hk1, hk2⟩, ⟨ha1, ha2⟩, hnz, hbz⟩ := ho
  dsimp only at hk1 hk2 ha1 ha2 hnz hbz
  obtain ⟨A, c, rfl, hnc, hc63⟩ := own_form hv.row
  have HV := Lib.hid hv
  have HFit := Lib.hid hf
  clear hv hf
  obtain ⟨n, hn⟩ : ∃ n, n = M.length := ⟨_, rfl⟩
  have HN := Lib.hid hn
  rw [← hn] at HV hnc
  rw [← hn]
  clear hn
  obtain ⟨W, hW, hG, o0, o1, o2, o3, hz⟩ := obox ⟨3, nm, bts, (k : Int)⟩ w
  dsimp only at o0 o1 o2 o3 hW
  have HG := Lib.hid hG
  have HNm := Lib.hid (name_any nm hnz W)
  rw [hnm] at HNm
  have hfi : findI (files M) nm = (i : Int) := by rw [findI_yes (by rw [hi, files_len]; exact hfd), hi]
  have HFd := Lib.hid (indexFunc_any _ M B nm w.heap.size W (HV.out.gr hG) o1)
  rw [hfi] at HFd
  clear hG hfi hnm
  go_enter Tryz.func172, Tryz.ntmps172
  go_upto_region 1 with (fail)
  rw [← hW]
  clear hW
  go_wp2_with fail
  refine HNm.out.mono ?_
  rintro e w1 ⟨rfl, rfl⟩
  go_wp2_with fail
  refine HFd.out.mono ?_
  rintro e w1 ⟨rfl, g1⟩
  have s0 := g1.cell o0
  have s1 := g1.cell o1
  have s2 := g1.cell o2
  have s3 := g1.cell o3
  have HG1 := Lib.hid (HG.out.trans g1)
  have HV1 : Hid (DR w1 B (.slice A n c) M) := Lib.hid (HV.out.gr HG1.out)
  have HBL : Hid (Below B w w1) := Lib.hid (Below.mono HG1.out hB)
  have hz1 : w.heap.size < w1.heap.size := Nat.lt_of_lt_of_le hz g1.size
  clear g1 o0 o1 o2 o3 hz
  obtain ⟨g, cc, hvv⟩ := HV1.out.row.addr hfd
  injection hvv with q1 q2 q3
  subst q1 q3
  clear q2
  have hil : i < n := by rw [HN.out]; exact hfd
  obtain ⟨cc0, cc1, cc2⟩ := HV1.out.row.at_ hfd
  have hbo := HV1.out.bytes M[i] (List.getElem_mem hfd)
  have z1 := HV1.out.row.free (i * 3 + 1)
  have z2 := HV1.out.row.free (i * 3 + 2)
  obtain ⟨p, hp⟩ : ∃ p, p = M[i] := ⟨_, rfl⟩
  rw [← hp] at cc0 cc1 cc2 hbo hsz HS
  have HP := Lib.hid hp
  clear hp
  obtain ⟨f, bv⟩ := p
  obtain ⟨A1, c1, hbv, hb1, hb2⟩ := own_form hbo
  have hbv : bv = .slice A1 f.size c1 := hbv
  subst hbv
  dsimp only at cc0 cc1 cc2 hb1 hsz HS
  have HBO := Lib.hid hbo
  obtain ⟨N, hN⟩ : ∃ N, N = f.size := ⟨_, rfl⟩
  have HNf := Lib.hid hN
  rw [← hN] at cc1 hb1
  clear hbo hbv cc0
  have hbx : g ≠ w.heap.size := fun e => by have := (HV.out.row.lt g (by rfl)).2; omega
  rw [← hN] at hsz
  clear hN
  have hsl := bslice_to N c1 k (by omega) A1
  go_wp2_with fail
  have d1 : decide ((k : Int) < 0) = false := decide_eq_false (by omega)
  have d2 : decide ((N : Int) < (k : Int)) = false := decide_eq_false (by omega)
  go_quiet (fail)
  clear d1 d2
  go_wp2_with fail
  go_region
  go_wp2_with fail
  refine bodyPost_ret (v := .tuple #[.slice (some ⟨g, 0, none⟩) n c, .int .i64 0]) (by simp [results, Tryz.results172, go_sem]) rfl (RetDraft.ok (M' := M.set i (⟨f.name, (f.kept ++ f.loose).extract 0 k, ⟨#[]⟩⟩, .slice A1 k c1)) ?_ HS.out (files_set M i _) ?_)
  · exact Below.setCell (Below.setCell (Below.trans HBL.out (Below.mono ((Gr.refl w1).drewN (nq + 1)) (by omega))) (p := ⟨g, i * 3 + 1, none⟩) (HV1.out.row.lt g rfl).1 _) (p := ⟨g, i * 3 + 2, none⟩) (HV1.out.row.lt g rfl).1 _
  · exact DR.cut (HV1.out.gr ((Gr.refl w1).drewN (nq + 1))) hfd (by rw [HNf.out]; exact HP.out) HNf.out hsz
end Go.Proofs.YtlnhbndghnkfmaaGreatDoor
