/- Walks: one operation, the document's. -/
import Derived.Test.YtmkcgnljankmdaaDoorDiskJ
import Derived.Deep.DeepCutAuto
import Derived.Deep.Cut
import Derived.IntWalk
namespace Go.Proofs.YtmkcgnljankmdaaDoor
open Go.RowKit
set_option linter.unusedVariables false

def FitO (o : O) : Prop := (-9223372036854775808 ≤ o.kind ∧ o.kind ≤ 9223372036854775807) ∧ (-9223372036854775808 ≤ o.at_ ∧ o.at_ ≤ 9223372036854775807) ∧ o.name.size ≤ 9223372036854775807 ∧ o.bytes.size ≤ 281474976710656
/-- What one operation answers: the disk behind it, and the error's number. -/
def RetOne (L : List F) (o : O) (B : Nat) (v : Value) (w : World) (e : Ending) (w' : World) : Prop :=
  ∃ v', e = .returned (.tuple #[.agg #[v'], .int .i64 ((step L o).1 : Int)]) ∧ FO w' B v' (step L o).2 ∧ Kp v.ownBlock w w' ∧ ((step L o).1 ≠ 0 → v' = v) ∧ ∀ g, v'.ownBlock = some g → v.ownBlock = some g ∨ w.heap.size ≤ g
/-- The three boxes that it begins with. -/
abbrev OneB (w : World) (A : Option Addr) (n c : Nat) (o : O) (W : World) : Prop :=
    W.cell? ⟨w.heap.size, 0, none⟩ = some (.slice A n c) ∧ W.cell? ⟨w.heap.size + 1, 0, none⟩ = some (.int .i64 o.kind) ∧ W.cell? ⟨w.heap.size + 1, 1, none⟩ = some (.string o.name) ∧ W.cell? ⟨w.heap.size + 1, 2, none⟩ = some (.string o.bytes) ∧ W.cell? ⟨w.heap.size + 1, 3, none⟩ = some (.int .i64 o.at_) ∧
    W.cell? ⟨w.heap.size + 1 + 1, 0, none⟩ = some (.slice none 0 0) ∧ W.frozen? ⟨w.heap.size + 1 + 1, 0, none⟩ = false ∧ W.frozen? ⟨w.heap.size, 0, none⟩ = false ∧ w.heap.size + 1 + 1 < W.heap.size
theorem boxesOne (A : Option Addr) (n c : Nat) (o : O) (w : World) : ∃ W, W = ((w.alloc (.cells #[.slice A n c] 24)).alloc (.cells #[.int .i64 o.kind, .string o.name, .string o.bytes, .int .i64 o.at_] 49)).alloc (.cells #[.slice none 0 0] 24) ∧ Gr w W ∧ OneB w A n c o W := by
  obtain ⟨W1, hW1⟩ : ∃ W, W = w.alloc (.cells #[.slice A n c] 24) := ⟨_, rfl⟩
  have s1 : W1.heap.size = w.heap.size + 1 := by rw [hW1]; simp
  have c1 : W1.cell? ⟨w.heap.size, 0, none⟩ = some (.slice A n c) := by rw [hW1]; simp
  have f1 : W1.frozen? ⟨w.heap.size, 0, none⟩ = false := by rw [hW1]; simp
  have g1 : Gr w W1 := by rw [hW1]; exact gr_box w _
  rw [← hW1]
  obtain ⟨W2, hW2⟩ : ∃ W, W = W1.alloc (.cells #[.int .i64 o.kind, .string o.name, .string o.bytes, .int .i64 o.at_] 49) := ⟨_, rfl⟩
  have s2 : W2.heap.size = w.heap.size + 1 + 1 := by rw [hW2]; simp [s1]
  have g2 : Gr W1 W2 := by rw [hW2]; exact gr_box W1 _
  have d0 : W2.cell? ⟨w.heap.size + 1, 0, none⟩ = some (.int .i64 o.kind) := by rw [hW2, ← s1]; simp
  have d1 : W2.cell? ⟨w.heap.size + 1, 1, none⟩ = some (.string o.name) := by rw [hW2, ← s1]; simp
  have d2 : W2.cell? ⟨w.heap.size + 1, 2, none⟩ = some (.string o.bytes) := by rw [hW2, ← s1]; simp
  have d3 : W2.cell? ⟨w.heap.size + 1, 3, none⟩ = some (.int .i64 o.at_) := by rw [hW2, ← s1]; simp
  rw [← hW2]
  obtain ⟨W3, hW3⟩ : ∃ W, W = W2.alloc (.cells #[.slice none 0 0] 24) := ⟨_, rfl⟩
  have g3 : Gr W2 W3 := by rw [hW3]; exact gr_box W2 _
  have e0 : W3.cell? ⟨w.heap.size + 1 + 1, 0, none⟩ = some (.slice none 0 0) := by rw [hW3, ← s2]; simp
  have e1 : W3.frozen? ⟨w.heap.size + 1 + 1, 0, none⟩ = false := by rw [hW3, ← s2]; simp
  have s3 : W3.heap.size = w.heap.size + 1 + 1 + 1 := by rw [hW3]; simp [s2]
  rw [← hW3]
  exact ⟨W3, rfl, (g1.trans g2).trans g3, g3.cell (g2.cell c1), g3.cell d0, g3.cell d1, g3.cell d2, g3.cell d3, e0, e1, g3.frozen (show w.heap.size < _ by omega) (g2.frozen (show w.heap.size < _ by omega) f1), by omega⟩
theorem OneB.gr {w : World} {A : Option Addr} {n c : Nat} {o : O} {W W' : World} (h : OneB w A n c o W) (g : Gr W W') : OneB w A n c o W' := by
  obtain ⟨h1, h2, h3, h4, h5, h6, h7, h8, h9⟩ := h
  exact ⟨g.cell h1, g.cell h2, g.cell h3, g.cell h4, g.cell h5, g.cell h6, g.frozen (show w.heap.size + 1 + 1 < _ by omega) h7, g.frozen (show w.heap.size < _ by omega) h8, Nat.lt_of_lt_of_le h9 g.size⟩
theorem FO.set {w : World} {B : Nat} {v : Value} {L : List F} (h : FO w B v L) {b : Nat} (hb : ∀ g, v.ownBlock = some g → g ≠ b) (i : Nat) (u : Value) : FO (w.setCell ⟨b, i, none⟩ u) B v L := by
  have hg : w.grownBy (w.setCell ⟨b, i, none⟩ u) (some b) := ⟨rfl, rfl, rfl, by simp [World.setCell], fun k _ hk => Below.heap_setCell w ⟨b, i, none⟩ u k (fun e => hk (by rw [e]))⟩
  refine World.ownsRow.kept h hg ?_
  rcases hv : v.ownBlock with _ | g
  · exact .inl rfl
  · exact .inr (fun e => hb g hv (by injection e))

theorem RetOne.mk0 {L L' : List F} {o : O} {B k : Nat} {v v' : Value} {w W : World} {e : Ending} (hs : step L o = (k, L')) (hv : FO W B v' L') (hlt : ∀ g, v'.ownBlock = some g → g ≠ w.heap.size + 1 + 1) (hg : Kp v.ownBlock w W) (hsame : k ≠ 0 → v' = v)
    (hat : ∀ g, v'.ownBlock = some g → v.ownBlock = some g ∨ w.heap.size ≤ g)
    (he : e = .returned (.tuple #[.agg #[v'], .int .i64 (k : Int)])) (u : Value) : RetOne L o B v w e (W.setCell ⟨w.heap.size + 1 + 1, 0, none⟩ u) := by
  refine ⟨v', by rw [hs]; exact he, by rw [hs]; exact hv.set hlt 0 u, hg.set (.inl (by omega)) _ u, fun h => hsame (by rw [hs] at h; exact h), hat⟩
theorem step_good {L : List F} {o : O} (h1 : 1 ≤ o.kind) (h4 : o.kind ≤ 4) (hn : nameOk o.name = true) : step L o = stepAt L o (findF L o.name) := by
  unfold step
  rw [if_neg]
  rintro (h | h | h)
  · omega
  · omega
  · rw [hn] at h; cases h
theorem stepAt_some {L : List F} {o : O} {i : Nat} (h : i < L.length) : stepAt L o i =
    (if o.kind = 1 then
      if 1048576 < L[i].size + o.bytes.size then (2, L)
      else (0, L.set i ⟨L[i].name, L[i].kept, L[i].loose ++ o.bytes⟩)
    else if o.kind = 2 then (0, L.set i ⟨L[i].name, L[i].kept ++ L[i].loose, ⟨#[]⟩⟩)
    else if o.kind = 3 then
      if o.at_ < 0 ∨ (L[i].size : Int) < o.at_ then (1, L)
      else (0, L.set i ⟨L[i].name, (L[i].kept ++ L[i].loose).extract 0 o.at_.toNat, ⟨#[]⟩⟩)
    else (0, L.eraseIdx i)) := by
  unfold stepAt
  rw [List.getElem?_eq_getElem h]
theorem stepAt_none {L : List F} {o : O} {i : Nat} (h : ¬ i < L.length) : stepAt L o i =
    (if o.kind = 1 then
      if 64 ≤ L.length then (4, L)
      else if 1048576 < o.bytes.size then (2, L)
      else (0, L.insertIdx (placeF L o.name) ⟨o.name, ⟨#[]⟩, o.bytes⟩)
    else (30, L)) := by
  unfold stepAt
  rw [List.getElem?_eq_none (by omega)]
/- LEAVES -/
set_option maxRecDepth 100000 in
set_option maxHeartbeats 4000000 in
theorem one_low (v : Value) (L : List F) (kd : Int) (nm bts : ByteArray) (at_ : Int) (B : Nat) (w : World) (hv : FO w B v L) (hB : B ≤ w.heap.size) (hf : Fit L) (ho : FitO ⟨kd, nm, bts, at_⟩) (h : kd < 1) :
    Calls Tryd.prog 31 #[.agg #[v], .agg #[.int .i64 kd, .string nm, .string bts, .int .i64 at_]] w fun e w' => RetOne L ⟨kd, nm, bts, at_⟩ B v w e w' := by
  have HS := Lib.hid (show step L ⟨kd, nm, bts, at_⟩ = (1, L) from if_pos (Or.inl h))
  obtain ⟨⟨hk1, hk2⟩, ⟨ha1, ha2⟩, hnz, hbz⟩ := ho
  dsimp only at hk1 hk2 ha1 ha2 hnz hbz
  have hlt : ∀ g, v.ownBlock = some g → g < w.heap.size := fun g hg => (World.ownsRow.lt hv g hg).2
  obtain ⟨A, c, rfl, hnc, hc63⟩ := hv.form
  have HV := Lib.hid hv
  have HLT := Lib.hid hlt
  have HFit := Lib.hid hf
  clear hv hlt hf
  obtain ⟨n, hn⟩ : ∃ n, n = L.length := ⟨_, rfl⟩
  have HN := Lib.hid hn
  rw [← hn] at HV HLT hnc
  rw [← hn]
  clear hn
  obtain ⟨W, hW, hG, hO⟩ := boxesOne A n c ⟨kd, nm, bts, at_⟩ w
  have HW := Lib.hid hW
  have HG := Lib.hid hG
  have HO := Lib.hid hO
  clear hW hG
  go_enter Tryd.func31, Tryd.ntmps31
  go_upto_region 1 with (fail)
  rw [← HW.out]
  clear HW
  obtain ⟨b0, o0, o1, o2, o3, r0, rz, bz, hz⟩ := hO
  dsimp only at o0 o1 o2 o3
  go_wp2
  refine bodyPost_ret (v := .tuple #[.agg #[.slice A n c], .int .i64 1]) (by simp [results, Tryd.results31, go_sem, r0]) rfl (RetOne.mk0 HS.out (HV.out.gr HG.out) (fun g hg => by have := HLT.out g hg; omega) (Kp.of_gr HG.out) (fun _ => rfl) (fun g hg => .inl hg) rfl _)

set_option maxRecDepth 100000 in
set_option maxHeartbeats 4000000 in
theorem one_high (v : Value) (L : List F) (kd : Int) (nm bts : ByteArray) (at_ : Int) (B : Nat) (w : World) (hv : FO w B v L) (hB : B ≤ w.heap.size) (hf : Fit L) (ho : FitO ⟨kd, nm, bts, at_⟩) (h : 4 < kd) :
    Calls Tryd.prog 31 #[.agg #[v], .agg #[.int .i64 kd, .string nm, .string bts, .int .i64 at_]] w fun e w' => RetOne L ⟨kd, nm, bts, at_⟩ B v w e w' := by
  have HS := Lib.hid (show step L ⟨kd, nm, bts, at_⟩ = (1, L) from if_pos (Or.inr (Or.inl h)))
  obtain ⟨⟨hk1, hk2⟩, ⟨ha1, ha2⟩, hnz, hbz⟩ := ho
  dsimp only at hk1 hk2 ha1 ha2 hnz hbz
  have hlt : ∀ g, v.ownBlock = some g → g < w.heap.size := fun g hg => (World.ownsRow.lt hv g hg).2
  obtain ⟨A, c, rfl, hnc, hc63⟩ := hv.form
  have HV := Lib.hid hv
  have HLT := Lib.hid hlt
  have HFit := Lib.hid hf
  clear hv hlt hf
  obtain ⟨n, hn⟩ : ∃ n, n = L.length := ⟨_, rfl⟩
  have HN := Lib.hid hn
  rw [← hn] at HV HLT hnc
  rw [← hn]
  clear hn
  obtain ⟨W, hW, hG, hO⟩ := boxesOne A n c ⟨kd, nm, bts, at_⟩ w
  have HW := Lib.hid hW
  have HG := Lib.hid hG
  have HO := Lib.hid hO
  clear hW hG
  go_enter Tryd.func31, Tryd.ntmps31
  go_upto_region 1 with (fail)
  rw [← HW.out]
  clear HW
  obtain ⟨b0, o0, o1, o2, o3, r0, rz, bz, hz⟩ := hO
  dsimp only at o0 o1 o2 o3
  have h1 : ¬ kd < 1 := by omega
  go_wp2
  refine bodyPost_ret (v := .tuple #[.agg #[.slice A n c], .int .i64 1]) (by simp [results, Tryd.results31, go_sem, r0]) rfl (RetOne.mk0 HS.out (HV.out.gr HG.out) (fun g hg => by have := HLT.out g hg; omega) (Kp.of_gr HG.out) (fun _ => rfl) (fun g hg => .inl hg) rfl _)

set_option maxRecDepth 100000 in
set_option maxHeartbeats 4000000 in
theorem one_badname (v : Value) (L : List F) (kd : Int) (nm bts : ByteArray) (at_ : Int) (B : Nat) (w : World) (hv : FO w B v L) (hB : B ≤ w.heap.size) (hf : Fit L) (ho : FitO ⟨kd, nm, bts, at_⟩) (h1 : 1 ≤ kd) (h4 : kd ≤ 4) (hnm : nameOk nm = false) :
    Calls Tryd.prog 31 #[.agg #[v], .agg #[.int .i64 kd, .string nm, .string bts, .int .i64 at_]] w fun e w' => RetOne L ⟨kd, nm, bts, at_⟩ B v w e w' := by
  have HS := Lib.hid (show step L ⟨kd, nm, bts, at_⟩ = (1, L) from if_pos (Or.inr (Or.inr hnm)))
  obtain ⟨⟨hk1, hk2⟩, ⟨ha1, ha2⟩, hnz, hbz⟩ := ho
  dsimp only at hk1 hk2 ha1 ha2 hnz hbz
  have hlt : ∀ g, v.ownBlock = some g → g < w.heap.size := fun g hg => (World.ownsRow.lt hv g hg).2
  obtain ⟨A, c, rfl, hnc, hc63⟩ := hv.form
  have HV := Lib.hid hv
  have HLT := Lib.hid hlt
  have HFit := Lib.hid hf
  clear hv hlt hf
  obtain ⟨n, hn⟩ : ∃ n, n = L.length := ⟨_, rfl⟩
  have HN := Lib.hid hn
  rw [← hn] at HV HLT hnc
  rw [← hn]
  clear hn
  obtain ⟨W, hW, hG, hO⟩ := boxesOne A n c ⟨kd, nm, bts, at_⟩ w
  have HW := Lib.hid hW
  have HG := Lib.hid hG
  have HO := Lib.hid hO
  clear hW hG
  go_enter Tryd.func31, Tryd.ntmps31
  go_upto_region 1 with (fail)
  rw [← HW.out]
  clear HW
  obtain ⟨b0, o0, o1, o2, o3, r0, rz, bz, hz⟩ := hO
  dsimp only at o0 o1 o2 o3
  have HNm := Lib.hid (rname_any nm hnz)
  rw [hnm] at HNm
  go_wp2_with fail
  refine (HNm.out _).mono ?_
  rintro e w1 ⟨rfl, rfl⟩
  go_wp2
  refine bodyPost_ret (v := .tuple #[.agg #[.slice A n c], .int .i64 1]) (by simp [results, Tryd.results31, go_sem, r0]) rfl (RetOne.mk0 HS.out (HV.out.gr HG.out) (fun g hg => by have := HLT.out g hg; omega) (Kp.of_gr HG.out) (fun _ => rfl) (fun g hg => .inl hg) rfl _)

set_option maxRecDepth 100000 in
set_option maxHeartbeats 4000000 in
theorem one_grow (v : Value) (L : List F) (nm bts : ByteArray) (at_ : Int) (B : Nat) (w : World) (hv : FO w B v L) (hB : B ≤ w.heap.size) (hf : Fit L) (ho : FitO ⟨1, nm, bts, at_⟩) (hnm : nameOk nm = true) (i : Nat) (hi : findF L nm = i) (hfd : i < L.length) (hsz : ¬ 1048576 < L[i].size + bts.size) :
    Calls Tryd.prog 31 #[.agg #[v], .agg #[.int .i64 1, .string nm, .string bts, .int .i64 at_]] w fun e w' => RetOne L ⟨1, nm, bts, at_⟩ B v w e w' := by
  have HS := Lib.hid (show step L ⟨1, nm, bts, at_⟩ = (0, L.set i ⟨L[i].name, L[i].kept, L[i].loose ++ bts⟩) by
    rw [step_good (show (1 : Int) ≤ 1 by decide) (show (1 : Int) ≤ 4 by decide) hnm, hi, stepAt_some hfd, if_pos rfl, if_neg hsz])
  obtain ⟨⟨hk1, hk2⟩, ⟨ha1, ha2⟩, hnz, hbz⟩ := ho
  dsimp only at hk1 hk2 ha1 ha2 hnz hbz
  have hlt : ∀ g, v.ownBlock = some g → g < w.heap.size := fun g hg => (World.ownsRow.lt hv g hg).2
  obtain ⟨A, c, rfl, hnc, hc63⟩ := hv.form
  have HV := Lib.hid hv
  have HLT := Lib.hid hlt
  have HFit := Lib.hid hf
  clear hv hlt hf
  obtain ⟨n, hn⟩ : ∃ n, n = L.length := ⟨_, rfl⟩
  have HN := Lib.hid hn
  rw [← hn] at HV HLT hnc
  rw [← hn]
  clear hn
  obtain ⟨W, hW, hG, hO⟩ := boxesOne A n c ⟨1, nm, bts, at_⟩ w
  have HW := Lib.hid hW
  have HG := Lib.hid hG
  have HO := Lib.hid hO
  clear hW hG
  go_enter Tryd.func31, Tryd.ntmps31
  go_upto_region 1 with (fail)
  rw [← HW.out]
  clear HW
  obtain ⟨b0, o0, o1, o2, o3, r0, rz, bz, hz⟩ := hO
  dsimp only at o0 o1 o2 o3
  have hfi : findI L nm = (i : Int) := by rw [findI_yes (by rw [hi]; exact hfd), hi]
  have HNm := Lib.hid (rname_any nm hnz)
  have HFd := Lib.hid (fun w1 (g : Gr w w1) => rfind_any _ L nm w1 (HV.out.gr g).fv)
  rw [hnm] at HNm
  rw [hfi] at HFd
  clear hfi hi hnm
  go_wp2_with fail
  refine (HNm.out _).mono ?_
  rintro e w1 ⟨rfl, rfl⟩
  go_wp2_with fail
  clear b0 o0 o1 o2 o3 r0 rz bz hz
  refine (HFd.out _ HG.out).mono ?_
  rintro e w1 ⟨rfl, g1⟩
  obtain ⟨b0, o0, o1, o2, o3, r0, rz, bz, hz⟩ := HO.out.gr g1
  dsimp only at o0 o1 o2 o3
  have HG1 := Lib.hid (HG.out.trans g1)
  have HV1 : Hid (FO w1 B (.slice A n c) L) := Lib.hid (HV.out.gr HG1.out)
  clear g1 HO
  obtain ⟨g, cc, hvv⟩ := HV1.out.addr hfd
  injection hvv with q1 q2 q3
  subst q1 q3
  clear q2
  have hil : i < n := by rw [HN.out]; exact hfd
  obtain ⟨cc0, cc1, cc2⟩ := HV1.out.at_ hfd
  have hfit := HFit.out _ (List.getElem_mem hfd)
  unfold FitF F.size at hfit
  have hs := hfit.2
  obtain ⟨f, hfe⟩ : ∃ f, f = L[i] := ⟨_, rfl⟩
  rw [← hfe] at cc0 cc1 cc2 hs
  try rw [← hfe] at HS
  have z1 := HV1.out.free (i * 3 + 1)
  have z2 := HV1.out.free (i * 3 + 2)
  clear hfit
  have HFE := Lib.hid hfe
  clear hfe
  have hsz2 : ¬ 1048576 < f.kept.size + f.loose.size + bts.size := by rw [HFE.out]; exact hsz
  clear hsz
  go_wp2_with fail
  have e1 : IntKind.i64.wrap ((f.kept.size : Int) + (f.loose.size : Int)) = (f.kept.size : Int) + (f.loose.size : Int) := IntWalk.i64_in _ ⟨by omega, by omega⟩
  have e2 : IntKind.i64.wrap ((f.kept.size : Int) + (f.loose.size : Int) + (bts.size : Int)) = (f.kept.size : Int) + (f.loose.size : Int) + (bts.size : Int) := IntWalk.i64_in _ ⟨by omega, by omega⟩
  have d1 : decide ((1048576 : Int) < (f.kept.size : Int) + (f.loose.size : Int) + (bts.size : Int)) = false := decide_eq_false (by omega)
  have d2 : decide ((i : Int) < 0) = false := decide_eq_false (by omega)
  have d3 : decide ((0 : Int) ≤ (i : Int)) = true := decide_eq_true (by omega)
  go_quiet (fail)
  clear e1 e2 d1 d2 d3
  go_wp2_with fail
  go_region
  go_wp2
  refine bodyPost_ret (v := .tuple #[.agg #[.slice (some ⟨g, 0, none⟩) n c], .int .i64 0]) (by simp [results, Tryd.results31, go_sem, r0]) rfl (RetOne.mk0 HS.out ?_ ?_ ?_ (fun h => absurd rfl h) (fun g hg => .inl hg) rfl _)
  · have h := (HV1.out.gr ((Gr.refl w1).drewN (nq + 1))).put1 hfd (f.loose ++ bts)
    rw [← HFE.out] at h
    exact h
  · exact fun g hg => by have := HLT.out g hg; omega
  · exact Kp.set (Kp.drewN (Kp.of_gr HG1.out) _) (.inr rfl) _ _

set_option maxRecDepth 100000 in
set_option maxHeartbeats 4000000 in
theorem one_longold (v : Value) (L : List F) (nm bts : ByteArray) (at_ : Int) (B : Nat) (w : World) (hv : FO w B v L) (hB : B ≤ w.heap.size) (hf : Fit L) (ho : FitO ⟨1, nm, bts, at_⟩) (hnm : nameOk nm = true) (i : Nat) (hi : findF L nm = i) (hfd : i < L.length) (hsz : 1048576 < L[i].size + bts.size) :
    Calls Tryd.prog 31 #[.agg #[v], .agg #[.int .i64 1, .string nm, .string bts, .int .i64 at_]] w fun e w' => RetOne L ⟨1, nm, bts, at_⟩ B v w e w' := by
  have HS := Lib.hid (show step L ⟨1, nm, bts, at_⟩ = (2, L) by
    rw [step_good (show (1 : Int) ≤ 1 by decide) (show (1 : Int) ≤ 4 by decide) hnm, hi, stepAt_some hfd, if_pos rfl, if_pos hsz])
  obtain ⟨⟨hk1, hk2⟩, ⟨ha1, ha2⟩, hnz, hbz⟩ := ho
  dsimp only at hk1 hk2 ha1 ha2 hnz hbz
  have hlt : ∀ g, v.ownBlock = some g → g < w.heap.size := fun g hg => (World.ownsRow.lt hv g hg).2
  obtain ⟨A, c, rfl, hnc, hc63⟩ := hv.form
  have HV := Lib.hid hv
  have HLT := Lib.hid hlt
  have HFit := Lib.hid hf
  clear hv hlt hf
  obtain ⟨n, hn⟩ : ∃ n, n = L.length := ⟨_, rfl⟩
  have HN := Lib.hid hn
  rw [← hn] at HV HLT hnc
  rw [← hn]
  clear hn
  obtain ⟨W, hW, hG, hO⟩ := boxesOne A n c ⟨1, nm, bts, at_⟩ w
  have HW := Lib.hid hW
  have HG := Lib.hid hG
  have HO := Lib.hid hO
  clear hW hG
  go_enter Tryd.func31, Tryd.ntmps31
  go_upto_region 1 with (fail)
  rw [← HW.out]
  clear HW
  obtain ⟨b0, o0, o1, o2, o3, r0, rz, bz, hz⟩ := hO
  dsimp only at o0 o1 o2 o3
  have hfi : findI L nm = (i : Int) := by rw [findI_yes (by rw [hi]; exact hfd), hi]
  have HNm := Lib.hid (rname_any nm hnz)
  have HFd := Lib.hid (fun w1 (g : Gr w w1) => rfind_any _ L nm w1 (HV.out.gr g).fv)
  rw [hnm] at HNm
  rw [hfi] at HFd
  clear hfi hi hnm
  go_wp2_with fail
  refine (HNm.out _).mono ?_
  rintro e w1 ⟨rfl, rfl⟩
  go_wp2_with fail
  clear b0 o0 o1 o2 o3 r0 rz bz hz
  refine (HFd.out _ HG.out).mono ?_
  rintro e w1 ⟨rfl, g1⟩
  obtain ⟨b0, o0, o1, o2, o3, r0, rz, bz, hz⟩ := HO.out.gr g1
  dsimp only at o0 o1 o2 o3
  have HG1 := Lib.hid (HG.out.trans g1)
  have HV1 : Hid (FO w1 B (.slice A n c) L) := Lib.hid (HV.out.gr HG1.out)
  clear g1 HO
  obtain ⟨g, cc, hvv⟩ := HV1.out.addr hfd
  injection hvv with q1 q2 q3
  subst q1 q3
  clear q2
  have hil : i < n := by rw [HN.out]; exact hfd
  obtain ⟨cc0, cc1, cc2⟩ := HV1.out.at_ hfd
  have hfit := HFit.out _ (List.getElem_mem hfd)
  unfold FitF F.size at hfit
  have hs := hfit.2
  obtain ⟨f, hfe⟩ : ∃ f, f = L[i] := ⟨_, rfl⟩
  rw [← hfe] at cc0 cc1 cc2 hs
  try rw [← hfe] at HS
  have z1 := HV1.out.free (i * 3 + 1)
  have z2 := HV1.out.free (i * 3 + 2)
  clear hfit
  have HFE := Lib.hid hfe
  clear hfe
  have hsz2 : 1048576 < f.kept.size + f.loose.size + bts.size := by rw [HFE.out]; exact hsz
  clear hsz
  go_wp2_with fail
  have e1 : IntKind.i64.wrap ((f.kept.size : Int) + (f.loose.size : Int)) = (f.kept.size : Int) + (f.loose.size : Int) := IntWalk.i64_in _ ⟨by omega, by omega⟩
  have e2 : IntKind.i64.wrap ((f.kept.size : Int) + (f.loose.size : Int) + (bts.size : Int)) = (f.kept.size : Int) + (f.loose.size : Int) + (bts.size : Int) := IntWalk.i64_in _ ⟨by omega, by omega⟩
  have d1 : decide ((1048576 : Int) < (f.kept.size : Int) + (f.loose.size : Int) + (bts.size : Int)) = true := decide_eq_true (by omega)
  have d2 : decide ((i : Int) < 0) = false := decide_eq_false (by omega)
  have d3 : decide ((0 : Int) ≤ (i : Int)) = true := decide_eq_true (by omega)
  go_quiet (fail)
  clear e1 e2 d1 d2 d3
  go_wp2
  refine bodyPost_ret (v := .tuple #[.agg #[.slice (some ⟨g, 0, none⟩) n c], .int .i64 2]) (by simp [results, Tryd.results31, go_sem, r0]) rfl (RetOne.mk0 HS.out (HV1.out.gr ((Gr.refl w1).drewN _)) (fun g hg => by have := HLT.out g hg; omega) (Kp.drewN (Kp.of_gr HG1.out) _) (fun _ => rfl) (fun g hg => .inl hg) rfl _)

set_option maxRecDepth 100000 in
set_option maxHeartbeats 4000000 in
theorem one_full (v : Value) (L : List F) (nm bts : ByteArray) (at_ : Int) (B : Nat) (w : World) (hv : FO w B v L) (hB : B ≤ w.heap.size) (hf : Fit L) (ho : FitO ⟨1, nm, bts, at_⟩) (hnm : nameOk nm = true) (hfd : ¬ findF L nm < L.length) (h64 : 64 ≤ L.length) :
    Calls Tryd.prog 31 #[.agg #[v], .agg #[.int .i64 1, .string nm, .string bts, .int .i64 at_]] w fun e w' => RetOne L ⟨1, nm, bts, at_⟩ B v w e w' := by
  have HS := Lib.hid (show step L ⟨1, nm, bts, at_⟩ = (4, L) by
    rw [step_good (show (1 : Int) ≤ 1 by decide) (show (1 : Int) ≤ 4 by decide) hnm, stepAt_none hfd, if_pos rfl, if_pos h64])
  obtain ⟨⟨hk1, hk2⟩, ⟨ha1, ha2⟩, hnz, hbz⟩ := ho
  dsimp only at hk1 hk2 ha1 ha2 hnz hbz
  have hlt : ∀ g, v.ownBlock = some g → g < w.heap.size := fun g hg => (World.ownsRow.lt hv g hg).2
  obtain ⟨A, c, rfl, hnc, hc63⟩ := hv.form
  have HV := Lib.hid hv
  have HLT := Lib.hid hlt
  have HFit := Lib.hid hf
  clear hv hlt hf
  obtain ⟨n, hn⟩ : ∃ n, n = L.length := ⟨_, rfl⟩
  have HN := Lib.hid hn
  rw [← hn] at HV HLT hnc
  rw [← hn]
  clear hn
  obtain ⟨W, hW, hG, hO⟩ := boxesOne A n c ⟨1, nm, bts, at_⟩ w
  have HW := Lib.hid hW
  have HG := Lib.hid hG
  have HO := Lib.hid hO
  clear hW hG
  go_enter Tryd.func31, Tryd.ntmps31
  go_upto_region 1 with (fail)
  rw [← HW.out]
  clear HW
  obtain ⟨b0, o0, o1, o2, o3, r0, rz, bz, hz⟩ := hO
  dsimp only at o0 o1 o2 o3
  have hfi : findI L nm = -1 := findI_no hfd
  have HNm := Lib.hid (rname_any nm hnz)
  have HFd := Lib.hid (fun w1 (g : Gr w w1) => rfind_any _ L nm w1 (HV.out.gr g).fv)
  rw [hnm] at HNm
  rw [hfi] at HFd
  clear hfi hnm
  go_wp2_with fail
  refine (HNm.out _).mono ?_
  rintro e w1 ⟨rfl, rfl⟩
  go_wp2_with fail
  clear b0 o0 o1 o2 o3 r0 rz bz hz
  refine (HFd.out _ HG.out).mono ?_
  rintro e w1 ⟨rfl, g1⟩
  obtain ⟨b0, o0, o1, o2, o3, r0, rz, bz, hz⟩ := HO.out.gr g1
  dsimp only at o0 o1 o2 o3
  have HG1 := Lib.hid (HG.out.trans g1)
  have HV1 : Hid (FO w1 B (.slice A n c) L) := Lib.hid (HV.out.gr HG1.out)
  clear g1 HO
  have h64' : 64 ≤ n := by rw [HN.out]; exact h64
  clear h64
  go_wp2
  refine bodyPost_ret (v := .tuple #[.agg #[.slice A n c], .int .i64 4]) (by simp [results, Tryd.results31, go_sem, r0]) rfl (RetOne.mk0 HS.out (HV1.out) (fun g hg => by have := HLT.out g hg; omega) (Kp.of_gr HG1.out) (fun _ => rfl) (fun g hg => .inl hg) rfl _)

set_option maxRecDepth 100000 in
set_option maxHeartbeats 4000000 in
theorem one_longnew (v : Value) (L : List F) (nm bts : ByteArray) (at_ : Int) (B : Nat) (w : World) (hv : FO w B v L) (hB : B ≤ w.heap.size) (hf : Fit L) (ho : FitO ⟨1, nm, bts, at_⟩) (hnm : nameOk nm = true) (hfd : ¬ findF L nm < L.length) (h64 : ¬ 64 ≤ L.length) (hsz : 1048576 < bts.size) :
    Calls Tryd.prog 31 #[.agg #[v], .agg #[.int .i64 1, .string nm, .string bts, .int .i64 at_]] w fun e w' => RetOne L ⟨1, nm, bts, at_⟩ B v w e w' := by
  have HS := Lib.hid (show step L ⟨1, nm, bts, at_⟩ = (2, L) by
    rw [step_good (show (1 : Int) ≤ 1 by decide) (show (1 : Int) ≤ 4 by decide) hnm, stepAt_none hfd, if_pos rfl, if_neg h64, if_pos hsz])
  obtain ⟨⟨hk1, hk2⟩, ⟨ha1, ha2⟩, hnz, hbz⟩ := ho
  dsimp only at hk1 hk2 ha1 ha2 hnz hbz
  have hlt : ∀ g, v.ownBlock = some g → g < w.heap.size := fun g hg => (World.ownsRow.lt hv g hg).2
  obtain ⟨A, c, rfl, hnc, hc63⟩ := hv.form
  have HV := Lib.hid hv
  have HLT := Lib.hid hlt
  have HFit := Lib.hid hf
  clear hv hlt hf
  obtain ⟨n, hn⟩ : ∃ n, n = L.length := ⟨_, rfl⟩
  have HN := Lib.hid hn
  rw [← hn] at HV HLT hnc
  rw [← hn]
  clear hn
  obtain ⟨W, hW, hG, hO⟩ := boxesOne A n c ⟨1, nm, bts, at_⟩ w
  have HW := Lib.hid hW
  have HG := Lib.hid hG
  have HO := Lib.hid hO
  clear hW hG
  go_enter Tryd.func31, Tryd.ntmps31
  go_upto_region 1 with (fail)
  rw [← HW.out]
  clear HW
  obtain ⟨b0, o0, o1, o2, o3, r0, rz, bz, hz⟩ := hO
  dsimp only at o0 o1 o2 o3
  have hfi : findI L nm = -1 := findI_no hfd
  have HNm := Lib.hid (rname_any nm hnz)
  have HFd := Lib.hid (fun w1 (g : Gr w w1) => rfind_any _ L nm w1 (HV.out.gr g).fv)
  rw [hnm] at HNm
  rw [hfi] at HFd
  clear hfi hnm
  go_wp2_with fail
  refine (HNm.out _).mono ?_
  rintro e w1 ⟨rfl, rfl⟩
  go_wp2_with fail
  clear b0 o0 o1 o2 o3 r0 rz bz hz
  refine (HFd.out _ HG.out).mono ?_
  rintro e w1 ⟨rfl, g1⟩
  obtain ⟨b0, o0, o1, o2, o3, r0, rz, bz, hz⟩ := HO.out.gr g1
  dsimp only at o0 o1 o2 o3
  have HG1 := Lib.hid (HG.out.trans g1)
  have HV1 : Hid (FO w1 B (.slice A n c) L) := Lib.hid (HV.out.gr HG1.out)
  clear g1 HO
  have h64' : ¬ 64 ≤ n := by rw [HN.out]; exact h64
  clear h64
  go_wp2_with fail
  have d2 : decide ((1048576 : Int) < (bts.size : Int)) = true := decide_eq_true (by omega)
  go_quiet (fail)
  clear d2
  go_wp2
  refine bodyPost_ret (v := .tuple #[.agg #[.slice A n c], .int .i64 2]) (by simp [results, Tryd.results31, go_sem, r0]) rfl (RetOne.mk0 HS.out (HV1.out.gr ((Gr.refl w1).drewN _)) (fun g hg => by have := HLT.out g hg; omega) (Kp.drewN (Kp.of_gr HG1.out) _) (fun _ => rfl) (fun g hg => .inl hg) rfl _)

set_option maxRecDepth 100000 in
set_option maxHeartbeats 4000000 in
theorem one_nofile (v : Value) (L : List F) (kd : Int) (nm bts : ByteArray) (at_ : Int) (B : Nat) (w : World) (hv : FO w B v L) (hB : B ≤ w.heap.size) (hf : Fit L) (ho : FitO ⟨kd, nm, bts, at_⟩) (h1 : 2 ≤ kd) (h4 : kd ≤ 4) (hnm : nameOk nm = true) (hfd : ¬ findF L nm < L.length) :
    Calls Tryd.prog 31 #[.agg #[v], .agg #[.int .i64 kd, .string nm, .string bts, .int .i64 at_]] w fun e w' => RetOne L ⟨kd, nm, bts, at_⟩ B v w e w' := by
  have HS := Lib.hid (show step L ⟨kd, nm, bts, at_⟩ = (30, L) by
    rw [step_good (show (1 : Int) ≤ kd by omega) h4 hnm, stepAt_none hfd, if_neg (show ¬ kd = 1 by omega)])
  obtain ⟨⟨hk1, hk2⟩, ⟨ha1, ha2⟩, hnz, hbz⟩ := ho
  dsimp only at hk1 hk2 ha1 ha2 hnz hbz
  have hlt : ∀ g, v.ownBlock = some g → g < w.heap.size := fun g hg => (World.ownsRow.lt hv g hg).2
  obtain ⟨A, c, rfl, hnc, hc63⟩ := hv.form
  have HV := Lib.hid hv
  have HLT := Lib.hid hlt
  have HFit := Lib.hid hf
  clear hv hlt hf
  obtain ⟨n, hn⟩ : ∃ n, n = L.length := ⟨_, rfl⟩
  have HN := Lib.hid hn
  rw [← hn] at HV HLT hnc
  rw [← hn]
  clear hn
  obtain ⟨W, hW, hG, hO⟩ := boxesOne A n c ⟨kd, nm, bts, at_⟩ w
  have HW := Lib.hid hW
  have HG := Lib.hid hG
  have HO := Lib.hid hO
  clear hW hG
  go_enter Tryd.func31, Tryd.ntmps31
  go_upto_region 1 with (fail)
  rw [← HW.out]
  clear HW
  obtain ⟨b0, o0, o1, o2, o3, r0, rz, bz, hz⟩ := hO
  dsimp only at o0 o1 o2 o3
  have hfi : findI L nm = -1 := findI_no hfd
  have HNm := Lib.hid (rname_any nm hnz)
  have HFd := Lib.hid (fun w1 (g : Gr w w1) => rfind_any _ L nm w1 (HV.out.gr g).fv)
  rw [hnm] at HNm
  rw [hfi] at HFd
  clear hfi hnm
  have hke : (kd == 1) = false := by rw [beq_eq_false_iff_ne]; omega
  go_wp2_with fail
  refine (HNm.out _).mono ?_
  rintro e w1 ⟨rfl, rfl⟩
  go_wp2_with fail
  clear b0 o0 o1 o2 o3 r0 rz bz hz
  refine (HFd.out _ HG.out).mono ?_
  rintro e w1 ⟨rfl, g1⟩
  obtain ⟨b0, o0, o1, o2, o3, r0, rz, bz, hz⟩ := HO.out.gr g1
  dsimp only at o0 o1 o2 o3
  have HG1 := Lib.hid (HG.out.trans g1)
  have HV1 : Hid (FO w1 B (.slice A n c) L) := Lib.hid (HV.out.gr HG1.out)
  clear g1 HO
  go_wp2
  refine bodyPost_ret (v := .tuple #[.agg #[.slice A n c], .int .i64 30]) (by simp [results, Tryd.results31, go_sem, r0]) rfl (RetOne.mk0 HS.out (HV1.out) (fun g hg => by have := HLT.out g hg; omega) (Kp.of_gr HG1.out) (fun _ => rfl) (fun g hg => .inl hg) rfl _)

end Go.Proofs.YtmkcgnljankmdaaDoor
