/- Walks: one operation, the document's: the other ways. -/
import Derived.Test.YtmkcgnljankmdaaDoorDiskI
import Derived.Test.YtmkcgnljankmdaaDoorDiskK
namespace Go.Proofs.YtmkcgnljankmdaaDoor
open Go.RowKit
set_option linter.unusedVariables false

theorem RetOne.drew {L : List F} {o : O} {B : Nat} {v : Value} {w w' : World} {e : Ending} (h : RetOne L o B v w e w') : RetOne L o B v w e w'.drew := by
  obtain ⟨v', h1, h2, h3, h4, h5⟩ := h
  exact ⟨v', h1, h2.gr (Gr.refl _).drew, h3.drew, h4, h5⟩
theorem append_size' (x y : ByteArray) : (x ++ y).size = x.size + y.size := ByteArray.size_append

set_option maxRecDepth 100000 in
set_option maxHeartbeats 4000000 in
theorem one_sync (v : Value) (L : List F) (nm bts : ByteArray) (at_ : Int) (B : Nat) (w : World) (hv : FO w B v L) (hB : B ≤ w.heap.size) (hf : Fit L) (ho : FitO ⟨2, nm, bts, at_⟩) (hnm : nameOk nm = true) (i : Nat) (hi : findF L nm = i) (hfd : i < L.length) :
    Calls Tryd.prog 31 #[.agg #[v], .agg #[.int .i64 2, .string nm, .string bts, .int .i64 at_]] w fun e w' => RetOne L ⟨2, nm, bts, at_⟩ B v w e w' := by
  have HS := Lib.hid (show step L ⟨2, nm, bts, at_⟩ = (0, L.set i ⟨L[i].name, L[i].kept ++ L[i].loose, ⟨#[]⟩⟩) by
    rw [step_good (show (1 : Int) ≤ 2 by decide) (show (2 : Int) ≤ 4 by decide) hnm, hi, stepAt_some hfd, if_neg (show ¬ (2 : Int) = 1 by decide), if_pos rfl])
  obtain ⟨⟨hk1, hk2⟩, ⟨ha1, ha2⟩, hnz, hbz⟩ := ho
  dsimp only at hk1 hk2 ha1 ha2 hnz hbz
  have hlt : ∀ g, v.ownBlock = some g → g < w.heap.size := fun g hg => (World.ownsRow.lt hv g hg).2
  obtain ⟨A, c, rfl, hnc, hc63⟩ := hv.form
  have HV := Lib.hid hv
  have HLT := Lib.hid hlt
  have HFit := Lib.hid hf
  clear hv hlt hf
  obtain ⟨n, hn⟩ : ∃ n, n = L.length := ⟨_, rfl⟩
  have HN := Lib.hid hn
  rw [← hn] at HV HLT hnc
  rw [← hn]
  clear hn
  obtain ⟨W, hW, hG, hO⟩ := boxesOne A n c ⟨2, nm, bts, at_⟩ w
  have HW := Lib.hid hW
  have HG := Lib.hid hG
  have HO := Lib.hid hO
  clear hW hG
  go_enter Tryd.func31, Tryd.ntmps31
  go_upto_region 1 with (fail)
  rw [← HW.out]
  clear HW
  obtain ⟨b0, o0, o1, o2, o3, r0, rz, bz, hz⟩ := hO
  dsimp only at o0 o1 o2 o3
  have hfi : findI L nm = (i : Int) := by rw [findI_yes (by rw [hi]; exact hfd), hi]
  have HNm := Lib.hid (rname_any nm hnz)
  have HFd := Lib.hid (fun w1 (g : Gr w w1) => rfind_any _ L nm w1 (HV.out.gr g).fv)
  rw [hnm] at HNm
  rw [hfi] at HFd
  clear hfi hi hnm
  go_wp2_with fail
  refine (HNm.out _).mono ?_
  rintro e w1 ⟨rfl, rfl⟩
  go_wp2_with fail
  clear b0 o0 o1 o2 o3 r0 rz bz hz
  refine (HFd.out _ HG.out).mono ?_
  rintro e w1 ⟨rfl, g1⟩
  obtain ⟨b0, o0, o1, o2, o3, r0, rz, bz, hz⟩ := HO.out.gr g1
  dsimp only at o0 o1 o2 o3
  have HO1 := Lib.hid (HO.out.gr g1)
  have HG1 := Lib.hid (HG.out.trans g1)
  have HV1 : Hid (FO w1 B (.slice A n c) L) := Lib.hid (HV.out.gr HG1.out)
  clear g1 HO
  obtain ⟨g, cc, hvv⟩ := HV1.out.addr hfd
  injection hvv with q1 q2 q3
  subst q1 q3
  clear q2
  have hil : i < n := by rw [HN.out]; exact hfd
  obtain ⟨cc0, cc1, cc2⟩ := HV1.out.at_ hfd
  have hfit := HFit.out _ (List.getElem_mem hfd)
  unfold FitF F.size at hfit
  have hs := hfit.2
  obtain ⟨f, hfe⟩ : ∃ f, f = L[i] := ⟨_, rfl⟩
  rw [← hfe] at cc0 cc1 cc2 hs
  try rw [← hfe] at HS
  have z1 := HV1.out.free (i * 3 + 1)
  have z2 := HV1.out.free (i * 3 + 2)
  clear hfit
  have HFE := Lib.hid hfe
  clear hfe
  have hgl := HV1.out.len.2.2.2.2
  have HFR := Lib.hid HV1.out.free
  go_upto_region 17 with (fail)
  obtain ⟨W3, hW3, p0, p1, p2, q0, q1, q2, y0, y1, y2, G3⟩ := rbox f g w.heap.size i n c w1 b0 cc1 cc2 hgl (HFR.out _) (HFR.out _) (HFR.out _)
  rw [← hW3]
  clear hW3 cc0 cc1 cc2 z1 z2 b0 o0 o1 o2 o3 r0 rz bz hz
  obtain ⟨b0, o0, o1, o2, o3, r0, rz, bz, hz⟩ := HO1.out.gr G3
  dsimp only at o0 o1 o2 o3
  go_wp2_with fail
  go_region
  go_wp2
  refine bodyPost_ret (v := .tuple #[.agg #[.slice (some ⟨g, 0, none⟩) n c], .int .i64 0]) (by simp [results, Tryd.results31, go_sem, r0]) rfl (RetOne.drew (RetOne.mk0 HS.out ?_ (fun g hg => by have := HLT.out g hg; omega) ?_ (fun h => absurd rfl h) (fun g hg => .inl hg) rfl _))
  · have h := (HV1.out.gr G3).put2 hfd (f.kept ++ f.loose) ⟨#[]⟩
    rw [← HFE.out] at h
    exact h
  · exact Kp.set (Kp.set (Kp.gr (Kp.of_gr HG1.out) G3) (.inr rfl) _ _) (.inr rfl) _ _

set_option maxRecDepth 100000 in
set_option maxHeartbeats 4000000 in
theorem one_cutlow (v : Value) (L : List F) (nm bts : ByteArray) (at_ : Int) (B : Nat) (w : World) (hv : FO w B v L) (hB : B ≤ w.heap.size) (hf : Fit L) (ho : FitO ⟨3, nm, bts, at_⟩) (hnm : nameOk nm = true) (i : Nat) (hi : findF L nm = i) (hfd : i < L.length) (hat : at_ < 0) :
    Calls Tryd.prog 31 #[.agg #[v], .agg #[.int .i64 3, .string nm, .string bts, .int .i64 at_]] w fun e w' => RetOne L ⟨3, nm, bts, at_⟩ B v w e w' := by
  have HS := Lib.hid (show step L ⟨3, nm, bts, at_⟩ = (1, L) by
    rw [step_good (show (1 : Int) ≤ 3 by decide) (show (3 : Int) ≤ 4 by decide) hnm, hi, stepAt_some hfd, if_neg (show ¬ (3 : Int) = 1 by decide), if_neg (show ¬ (3 : Int) = 2 by decide), if_pos rfl, if_pos (Or.inl hat)])
  obtain ⟨⟨hk1, hk2⟩, ⟨ha1, ha2⟩, hnz, hbz⟩ := ho
  dsimp only at hk1 hk2 ha1 ha2 hnz hbz
  have hlt : ∀ g, v.ownBlock = some g → g < w.heap.size := fun g hg => (World.ownsRow.lt hv g hg).2
  obtain ⟨A, c, rfl, hnc, hc63⟩ := hv.form
  have HV := Lib.hid hv
  have HLT := Lib.hid hlt
  have HFit := Lib.hid hf
  clear hv hlt hf
  obtain ⟨n, hn⟩ : ∃ n, n = L.length := ⟨_, rfl⟩
  have HN := Lib.hid hn
  rw [← hn] at HV HLT hnc
  rw [← hn]
  clear hn
  obtain ⟨W, hW, hG, hO⟩ := boxesOne A n c ⟨3, nm, bts, at_⟩ w
  have HW := Lib.hid hW
  have HG := Lib.hid hG
  have HO := Lib.hid hO
  clear hW hG
  go_enter Tryd.func31, Tryd.ntmps31
  go_upto_region 1 with (fail)
  rw [← HW.out]
  clear HW
  obtain ⟨b0, o0, o1, o2, o3, r0, rz, bz, hz⟩ := hO
  dsimp only at o0 o1 o2 o3
  have hfi : findI L nm = (i : Int) := by rw [findI_yes (by rw [hi]; exact hfd), hi]
  have HNm := Lib.hid (rname_any nm hnz)
  have HFd := Lib.hid (fun w1 (g : Gr w w1) => rfind_any _ L nm w1 (HV.out.gr g).fv)
  rw [hnm] at HNm
  rw [hfi] at HFd
  clear hfi hi hnm
  go_wp2_with fail
  refine (HNm.out _).mono ?_
  rintro e w1 ⟨rfl, rfl⟩
  go_wp2_with fail
  clear b0 o0 o1 o2 o3 r0 rz bz hz
  refine (HFd.out _ HG.out).mono ?_
  rintro e w1 ⟨rfl, g1⟩
  obtain ⟨b0, o0, o1, o2, o3, r0, rz, bz, hz⟩ := HO.out.gr g1
  dsimp only at o0 o1 o2 o3
  have HO1 := Lib.hid (HO.out.gr g1)
  have HG1 := Lib.hid (HG.out.trans g1)
  have HV1 : Hid (FO w1 B (.slice A n c) L) := Lib.hid (HV.out.gr HG1.out)
  clear g1 HO
  obtain ⟨g, cc, hvv⟩ := HV1.out.addr hfd
  injection hvv with q1 q2 q3
  subst q1 q3
  clear q2
  have hil : i < n := by rw [HN.out]; exact hfd
  obtain ⟨cc0, cc1, cc2⟩ := HV1.out.at_ hfd
  have hfit := HFit.out _ (List.getElem_mem hfd)
  unfold FitF F.size at hfit
  have hs := hfit.2
  obtain ⟨f, hfe⟩ : ∃ f, f = L[i] := ⟨_, rfl⟩
  rw [← hfe] at cc0 cc1 cc2 hs
  try rw [← hfe] at HS
  have z1 := HV1.out.free (i * 3 + 1)
  have z2 := HV1.out.free (i * 3 + 2)
  clear hfit
  have HFE := Lib.hid hfe
  clear hfe
  have hgl := HV1.out.len.2.2.2.2
  have HFR := Lib.hid HV1.out.free
  go_upto_region 17 with (fail)
  obtain ⟨W3, hW3, p0, p1, p2, q0, q1, q2, y0, y1, y2, G3⟩ := rbox f g w.heap.size i n c w1 b0 cc1 cc2 hgl (HFR.out _) (HFR.out _) (HFR.out _)
  rw [← hW3]
  clear hW3 cc0 cc1 cc2 z1 z2 b0 o0 o1 o2 o3 r0 rz bz hz
  obtain ⟨b0, o0, o1, o2, o3, r0, rz, bz, hz⟩ := HO1.out.gr G3
  dsimp only at o0 o1 o2 o3
  go_wp2
  refine bodyPost_ret (v := .tuple #[.agg #[.slice (some ⟨g, 0, none⟩) n c], .int .i64 1]) (by simp [results, Tryd.results31, go_sem, r0]) rfl (RetOne.mk0 HS.out (HV1.out.gr G3) (fun g hg => by have := HLT.out g hg; omega) (Kp.gr (Kp.of_gr HG1.out) G3) (fun _ => rfl) (fun g hg => .inl hg) rfl _)

set_option maxRecDepth 100000 in
set_option maxHeartbeats 4000000 in
theorem one_cuthigh (v : Value) (L : List F) (nm bts : ByteArray) (at_ : Int) (B : Nat) (w : World) (hv : FO w B v L) (hB : B ≤ w.heap.size) (hf : Fit L) (ho : FitO ⟨3, nm, bts, at_⟩) (hnm : nameOk nm = true) (i : Nat) (hi : findF L nm = i) (hfd : i < L.length) (hat : ¬ at_ < 0) (hsz : (L[i].size : Int) < at_) :
    Calls Tryd.prog 31 #[.agg #[v], .agg #[.int .i64 3, .string nm, .string bts, .int .i64 at_]] w fun e w' => RetOne L ⟨3, nm, bts, at_⟩ B v w e w' := by
  have HS := Lib.hid (show step L ⟨3, nm, bts, at_⟩ = (1, L) by
    rw [step_good (show (1 : Int) ≤ 3 by decide) (show (3 : Int) ≤ 4 by decide) hnm, hi, stepAt_some hfd, if_neg (show ¬ (3 : Int) = 1 by decide), if_neg (show ¬ (3 : Int) = 2 by decide), if_pos rfl, if_pos (Or.inr hsz)])
  obtain ⟨⟨hk1, hk2⟩, ⟨ha1, ha2⟩, hnz, hbz⟩ := ho
  dsimp only at hk1 hk2 ha1 ha2 hnz hbz
  have hlt : ∀ g, v.ownBlock = some g → g < w.heap.size := fun g hg => (World.ownsRow.lt hv g hg).2
  obtain ⟨A, c, rfl, hnc, hc63⟩ := hv.form
  have HV := Lib.hid hv
  have HLT := Lib.hid hlt
  have HFit := Lib.hid hf
  clear hv hlt hf
  obtain ⟨n, hn⟩ : ∃ n, n = L.length := ⟨_, rfl⟩
  have HN := Lib.hid hn
  rw [← hn] at HV HLT hnc
  rw [← hn]
  clear hn
  obtain ⟨W, hW, hG, hO⟩ := boxesOne A n c ⟨3, nm, bts, at_⟩ w
  have HW := Lib.hid hW
  have HG := Lib.hid hG
  have HO := Lib.hid hO
  clear hW hG
  go_enter Tryd.func31, Tryd.ntmps31
  go_upto_region 1 with (fail)
  rw [← HW.out]
  clear HW
  obtain ⟨b0, o0, o1, o2, o3, r0, rz, bz, hz⟩ := hO
  dsimp only at o0 o1 o2 o3
  have hfi : findI L nm = (i : Int) := by rw [findI_yes (by rw [hi]; exact hfd), hi]
  have HNm := Lib.hid (rname_any nm hnz)
  have HFd := Lib.hid (fun w1 (g : Gr w w1) => rfind_any _ L nm w1 (HV.out.gr g).fv)
  rw [hnm] at HNm
  rw [hfi] at HFd
  clear hfi hi hnm
  go_wp2_with fail
  refine (HNm.out _).mono ?_
  rintro e w1 ⟨rfl, rfl⟩
  go_wp2_with fail
  clear b0 o0 o1 o2 o3 r0 rz bz hz
  refine (HFd.out _ HG.out).mono ?_
  rintro e w1 ⟨rfl, g1⟩
  obtain ⟨b0, o0, o1, o2, o3, r0, rz, bz, hz⟩ := HO.out.gr g1
  dsimp only at o0 o1 o2 o3
  have HO1 := Lib.hid (HO.out.gr g1)
  have HG1 := Lib.hid (HG.out.trans g1)
  have HV1 : Hid (FO w1 B (.slice A n c) L) := Lib.hid (HV.out.gr HG1.out)
  clear g1 HO
  obtain ⟨g, cc, hvv⟩ := HV1.out.addr hfd
  injection hvv with q1 q2 q3
  subst q1 q3
  clear q2
  have hil : i < n := by rw [HN.out]; exact hfd
  obtain ⟨cc0, cc1, cc2⟩ := HV1.out.at_ hfd
  have hfit := HFit.out _ (List.getElem_mem hfd)
  unfold FitF F.size at hfit
  have hs := hfit.2
  obtain ⟨f, hfe⟩ : ∃ f, f = L[i] := ⟨_, rfl⟩
  rw [← hfe] at cc0 cc1 cc2 hs
  try rw [← hfe] at HS
  have z1 := HV1.out.free (i * 3 + 1)
  have z2 := HV1.out.free (i * 3 + 2)
  clear hfit
  have HFE := Lib.hid hfe
  clear hfe
  have hgl := HV1.out.len.2.2.2.2
  have HFR := Lib.hid HV1.out.free
  have hsz2 : (f.kept.size : Int) + (f.loose.size : Int) < at_ := by rw [HFE.out]; exact hsz
  clear hsz
  go_upto_region 17 with (fail)
  obtain ⟨W3, hW3, p0, p1, p2, q0, q1, q2, y0, y1, y2, G3⟩ := rbox f g w.heap.size i n c w1 b0 cc1 cc2 hgl (HFR.out _) (HFR.out _) (HFR.out _)
  rw [← hW3]
  clear hW3 cc0 cc1 cc2 z1 z2 b0 o0 o1 o2 o3 r0 rz bz hz
  obtain ⟨b0, o0, o1, o2, o3, r0, rz, bz, hz⟩ := HO1.out.gr G3
  dsimp only at o0 o1 o2 o3
  go_wp2
  refine bodyPost_ret (v := .tuple #[.agg #[.slice (some ⟨g, 0, none⟩) n c], .int .i64 1]) (by simp [results, Tryd.results31, go_sem, r0]) rfl (RetOne.mk0 HS.out (HV1.out.gr G3) (fun g hg => by have := HLT.out g hg; omega) (Kp.gr (Kp.of_gr HG1.out) G3) (fun _ => rfl) (fun g hg => .inl hg) rfl _)

set_option maxRecDepth 100000 in
set_option maxHeartbeats 4000000 in
theorem one_cut (v : Value) (L : List F) (nm bts : ByteArray) (k : Nat) (B : Nat) (w : World) (hv : FO w B v L) (hB : B ≤ w.heap.size) (hf : Fit L) (ho : FitO ⟨3, nm, bts, (k : Int)⟩) (hnm : nameOk nm = true) (i : Nat) (hi : findF L nm = i) (hfd : i < L.length) (hsz : k ≤ L[i].size) :
    Calls Tryd.prog 31 #[.agg #[v], .agg #[.int .i64 3, .string nm, .string bts, .int .i64 (k : Int)]] w fun e w' => RetOne L ⟨3, nm, bts, (k : Int)⟩ B v w e w' := by
  have HS := Lib.hid (show step L ⟨3, nm, bts, (k : Int)⟩ = (0, L.set i ⟨L[i].name, (L[i].kept ++ L[i].loose).extract 0 k, ⟨#[]⟩⟩) by
    rw [step_good (show (1 : Int) ≤ 3 by decide) (show (3 : Int) ≤ 4 by decide) hnm, hi, stepAt_some hfd, if_neg (show ¬ (3 : Int) = 1 by decide), if_neg (show ¬ (3 : Int) = 2 by decide), if_pos rfl, if_neg (show ¬ ((k : Int) < 0 ∨ (L[i].size : Int) < (k : Int)) by omega)]
    rfl)
  obtain ⟨⟨hk1, hk2⟩, ⟨ha1, ha2⟩, hnz, hbz⟩ := ho
  dsimp only at hk1 hk2 ha1 ha2 hnz hbz
  have hlt : ∀ g, v.ownBlock = some g → g < w.heap.size := fun g hg => (World.ownsRow.lt hv g hg).2
  obtain ⟨A, c, rfl, hnc, hc63⟩ := hv.form
  have HV := Lib.hid hv
  have HLT := Lib.hid hlt
  have HFit := Lib.hid hf
  clear hv hlt hf
  obtain ⟨n, hn⟩ : ∃ n, n = L.length := ⟨_, rfl⟩
  have HN := Lib.hid hn
  rw [← hn] at HV HLT hnc
  rw [← hn]
  clear hn
  obtain ⟨W, hW, hG, hO⟩ := boxesOne A n c ⟨3, nm, bts, (k : Int)⟩ w
  have HW := Lib.hid hW
  have HG := Lib.hid hG
  have HO := Lib.hid hO
  clear hW hG
  go_enter Tryd.func31, Tryd.ntmps31
  go_upto_region 1 with (fail)
  rw [← HW.out]
  clear HW
  obtain ⟨b0, o0, o1, o2, o3, r0, rz, bz, hz⟩ := hO
  dsimp only at o0 o1 o2 o3
  have hfi : findI L nm = (i : Int) := by rw [findI_yes (by rw [hi]; exact hfd), hi]
  have HNm := Lib.hid (rname_any nm hnz)
  have HFd := Lib.hid (fun w1 (g : Gr w w1) => rfind_any _ L nm w1 (HV.out.gr g).fv)
  rw [hnm] at HNm
  rw [hfi] at HFd
  clear hfi hi hnm
  go_wp2_with fail
  refine (HNm.out _).mono ?_
  rintro e w1 ⟨rfl, rfl⟩
  go_wp2_with fail
  clear b0 o0 o1 o2 o3 r0 rz bz hz
  refine (HFd.out _ HG.out).mono ?_
  rintro e w1 ⟨rfl, g1⟩
  obtain ⟨b0, o0, o1, o2, o3, r0, rz, bz, hz⟩ := HO.out.gr g1
  dsimp only at o0 o1 o2 o3
  have HO1 := Lib.hid (HO.out.gr g1)
  have HG1 := Lib.hid (HG.out.trans g1)
  have HV1 : Hid (FO w1 B (.slice A n c) L) := Lib.hid (HV.out.gr HG1.out)
  clear g1 HO
  obtain ⟨g, cc, hvv⟩ := HV1.out.addr hfd
  injection hvv with q1 q2 q3
  subst q1 q3
  clear q2
  have hil : i < n := by rw [HN.out]; exact hfd
  obtain ⟨cc0, cc1, cc2⟩ := HV1.out.at_ hfd
  have hfit := HFit.out _ (List.getElem_mem hfd)
  unfold FitF F.size at hfit
  have hs := hfit.2
  obtain ⟨f, hfe⟩ : ∃ f, f = L[i] := ⟨_, rfl⟩
  rw [← hfe] at cc0 cc1 cc2 hs
  try rw [← hfe] at HS
  have z1 := HV1.out.free (i * 3 + 1)
  have z2 := HV1.out.free (i * 3 + 2)
  clear hfit
  have HFE := Lib.hid hfe
  clear hfe
  have hgl := HV1.out.len.2.2.2.2
  have HFR := Lib.hid HV1.out.free
  have hsz2 : k ≤ f.kept.size + f.loose.size := by rw [HFE.out]; exact hsz
  clear hsz
  go_upto_region 17 with (fail)
  obtain ⟨W3, hW3, p0, p1, p2, q0, q1, q2, y0, y1, y2, G3⟩ := rbox f g w.heap.size i n c w1 b0 cc1 cc2 hgl (HFR.out _) (HFR.out _) (HFR.out _)
  rw [← hW3]
  clear hW3 cc0 cc1 cc2 z1 z2 b0 o0 o1 o2 o3 r0 rz bz hz
  obtain ⟨b0, o0, o1, o2, o3, r0, rz, bz, hz⟩ := HO1.out.gr G3
  dsimp only at o0 o1 o2 o3
  go_wp2_with fail
  go_region
  go_wp2
  refine bodyPost_ret (v := .tuple #[.agg #[.slice (some ⟨g, 0, none⟩) n c], .int .i64 0]) (by simp [results, Tryd.results31, go_sem, r0]) rfl (RetOne.drew (RetOne.mk0 HS.out ?_ (fun g hg => by have := HLT.out g hg; omega) ?_ (fun h => absurd rfl h) (fun g hg => .inl hg) rfl _))
  · have h := (HV1.out.gr G3).put2 hfd ((f.kept ++ f.loose).extract 0 k) ⟨#[]⟩
    rw [← HFE.out] at h
    exact h
  · exact Kp.set (Kp.set (Kp.gr (Kp.of_gr HG1.out) G3) (.inr rfl) _ _) (.inr rfl) _ _

end Go.Proofs.YtmkcgnljankmdaaDoor
