/- Walks: one operation, the document's: a file less, a file more. -/
import Derived.Test.YtmkcgnljankmdaaDoorDiskL
namespace Go.Proofs.YtmkcgnljankmdaaDoor
open Go.RowKit

theorem slice_to (n c k : Nat) (hk : k ≤ c) (A : Option Addr) : ∀ W : World, (Instr.slice 22 (.slice A n c) none (some (.int .i64 (k : Int))) none).run Tryd.prog W = .ok (.slice A k c) W := by
  intro W
  rw [run_slice_h W _ A n c elemFile.1 .i64 (k : Int) (by omega) (by omega), elemFile.2, sizeFile]
  show Result.ok (sliced A 0 (k : Int).toNat c 3) W = _
  unfold sliced
  rw [Int.toNat_natCast]
  cases A with
  | none => simp
  | some a => simp [Addr.add]
theorem step_append_f {ops : Array Oper} {o : Oper} {a : Act} {W : World} {K : Act → World → Prop} {Q : Exit → Act → World → Prop} {E : Prop} (hgd : o.guard = none) (s x : Operand)
    (ho : o.op = .call { callee := .builtin .append, args := #[s, x], argTypes := #[22, 22] }) (B k m N : Nat) (v : Value) (xs : List Value) (hs : a.eval s = v) (hown : W.ownsRow B 46 3 v k xs)
    (vx : Value) (news : List Value) (hxe : a.eval x = vx) (hx : SL W 3 vx m news) (h1 : ∀ u ∈ news, u.oneCell' = true) (hN : k + m = N) (hz : N ≤ maxLen ∧ N * 48 ≤ 140737488355328) (hbase : B ≤ W.heap.size)
    (bx : Nat) (hbx : ∀ g, v.ownBlock = some g → g < bx) {ub ur : Value} (hb0 : W.cell? ⟨bx, 0, none⟩ = some ub) (hbz : W.frozen? ⟨bx, 0, none⟩ = false) (hr0 : W.cell? ⟨bx + 1 + 1, 0, none⟩ = some ur) (hrz : W.frozen? ⟨bx + 1 + 1, 0, none⟩ = false) (hlt : bx + 1 + 1 < W.heap.size)
    (h : ∀ A' c' w', w'.ownsRow B 46 3 (.slice A' N c') N (xs ++ news) → Kp v.ownBlock W w' → w'.cell? ⟨bx, 0, none⟩ = some ub → w'.frozen? ⟨bx, 0, none⟩ = false → w'.cell? ⟨bx + 1 + 1, 0, none⟩ = some ur → w'.frozen? ⟨bx + 1 + 1, 0, none⟩ = false →
      ((∀ g, (Value.slice A' N c').ownBlock = some g → (g ≠ bx ∧ g ≠ bx + 1 + 1) ∧ (v.ownBlock = some g ∨ bx ≤ g))) → K (a.put o.dst (.slice A' N c')) w') :
    if Region.wanted o (yielded ops a.tmps) = true then Oper.wp Tryd.prog o a W K Q else E := by
  obtain ⟨i0, hi, hz0, hz1, hz2⟩ := info_parts infoFile
  refine step_append_sl W hgd s x 22 ho B 46 i0 _ 3 48 Tryd.underlying22 hi hz0 hz1 hz2 rfl (by decide) v k xs hs hown vx m news hxe hx h1 (by rw [hN]; exact hz.1) (by rw [hN]; exact hz.2) hbase N hN ?_
  intro A' c' w' hown' hgr hat
  have hne : ∀ b, bx ≤ b → some b ≠ v.ownBlock := fun b hb e => by have := hbx b e.symm; omega
  refine h A' c' w' hown' hgr ?_ ?_ ?_ ?_ ?_
  · exact hgr.cell hb0 (hne bx (Nat.le_refl _))
  · exact (hgr.frozen_far ⟨bx, 0, none⟩ (show bx < _ by omega) (hne bx (Nat.le_refl _))).trans hbz
  · exact hgr.cell hr0 (hne (bx + 1 + 1) (by omega))
  · exact (hgr.frozen_far ⟨bx + 1 + 1, 0, none⟩ hlt (hne (bx + 1 + 1) (by omega))).trans hrz
  · intro g hg
    rcases hat with e | e
    · rw [e] at hg; have := hbx g hg; exact ⟨by omega, .inl hg⟩
    · rw [e] at hg; injection hg with hg; exact ⟨by omega, .inr (by omega)⟩
theorem fcells_erase (L : List F) (i : Nat) : fcells (L.eraseIdx i) = (fcells L).take (i * 3) ++ (fcells L).drop ((i + 1) * 3) := by
  rw [List.eraseIdx_eq_take_drop_succ]
  unfold fcells
  rw [rows_take fcell 3 fcell_len, rows_drop fcell 3 fcell_len, List.flatMap_append]

set_option maxRecDepth 100000 in
set_option maxHeartbeats 4000000 in
theorem one_drop (v : Value) (L : List F) (nm bts : ByteArray) (at_ : Int) (B : Nat) (w : World) (hv : FO w B v L) (hB : B ≤ w.heap.size) (hf : Fit L) (ho : FitO ⟨4, nm, bts, at_⟩) (hnm : nameOk nm = true) (i : Nat) (hi : findF L nm = i) (hfd : i < L.length) (hbig : L.length * 48 ≤ 140737488355328) :
    Calls Tryd.prog 31 #[.agg #[v], .agg #[.int .i64 4, .string nm, .string bts, .int .i64 at_]] w fun e w' => RetOne L ⟨4, nm, bts, at_⟩ B v w e w' := by
  have HS := Lib.hid (show step L ⟨4, nm, bts, at_⟩ = (0, L.eraseIdx i) by
    rw [step_good (show (1 : Int) ≤ 4 by decide) (show (4 : Int) ≤ 4 by decide) hnm, hi, stepAt_some hfd, if_neg (show ¬ (4 : Int) = 1 by decide), if_neg (show ¬ (4 : Int) = 2 by decide), if_neg (show ¬ (4 : Int) = 3 by decide)])
  obtain ⟨i0, hi_, hz0, hz1, hz2⟩ := info_parts infoFile
  have HI := Lib.hid (And.intro hi_ (And.intro hz0 (And.intro hz1 hz2)))
  clear hi_ hz0 hz1 hz2
  obtain ⟨⟨hk1, hk2⟩, ⟨ha1, ha2⟩, hnz, hbz⟩ := ho
  dsimp only at hk1 hk2 ha1 ha2 hnz hbz
  have hlt : ∀ g, v.ownBlock = some g → g < w.heap.size := fun g hg => (World.ownsRow.lt hv g hg).2
  obtain ⟨A, c, rfl, hnc, hc63⟩ := hv.form
  have HV := Lib.hid hv
  have HLT := Lib.hid hlt
  have HFit := Lib.hid hf
  clear hv hlt hf
  obtain ⟨n, hn⟩ : ∃ n, n = L.length := ⟨_, rfl⟩
  have HN := Lib.hid hn
  rw [← hn] at HV HLT hnc
  rw [← hn]
  clear hn
  obtain ⟨W, hW, hG, hO⟩ := boxesOne A n c ⟨4, nm, bts, at_⟩ w
  have HW := Lib.hid hW
  have HG := Lib.hid hG
  have HO := Lib.hid hO
  clear hW hG
  go_enter Tryd.func31, Tryd.ntmps31
  go_upto_region 1 with (fail)
  rw [← HW.out]
  clear HW
  obtain ⟨b0, o0, o1, o2, o3, r0, rz, bz, hz⟩ := hO
  dsimp only at o0 o1 o2 o3
  have hfi : findI L nm = (i : Int) := by rw [findI_yes (by rw [hi]; exact hfd), hi]
  have HNm := Lib.hid (rname_any nm hnz)
  have HFd := Lib.hid (fun w1 (g : Gr w w1) => rfind_any _ L nm w1 (HV.out.gr g).fv)
  rw [hnm] at HNm
  rw [hfi] at HFd
  clear hfi hi hnm
  go_wp2_with fail
  refine (HNm.out _).mono ?_
  rintro e w1 ⟨rfl, rfl⟩
  go_wp2_with fail
  clear b0 o0 o1 o2 o3 r0 rz bz hz
  refine (HFd.out _ HG.out).mono ?_
  rintro e w1 ⟨rfl, g1⟩
  obtain ⟨b0, o0, o1, o2, o3, r0, rz, bz, hz⟩ := HO.out.gr g1
  dsimp only at o0 o1 o2 o3
  have HO1 := Lib.hid (HO.out.gr g1)
  have HG1 := Lib.hid (HG.out.trans g1)
  have HV1 : Hid (FO w1 B (.slice A n c) L) := Lib.hid (HV.out.gr HG1.out)
  clear g1 HO
  obtain ⟨g, cc, hvv⟩ := HV1.out.addr hfd
  injection hvv with q1 q2 q3
  subst q1 q3
  clear q2
  have hil : i < n := by rw [HN.out]; exact hfd
  obtain ⟨cc0, cc1, cc2⟩ := HV1.out.at_ hfd
  have hfit := HFit.out _ (List.getElem_mem hfd)
  unfold FitF F.size at hfit
  have hs := hfit.2
  obtain ⟨f, hfe⟩ : ∃ f, f = L[i] := ⟨_, rfl⟩
  rw [← hfe] at cc0 cc1 cc2 hs
  try rw [← hfe] at HS
  have z1 := HV1.out.free (i * 3 + 1)
  have z2 := HV1.out.free (i * 3 + 2)
  clear hfit
  have HFE := Lib.hid hfe
  clear hfe
  have hgl := HV1.out.len.2.2.2.2
  have HFR := Lib.hid HV1.out.free
  go_upto_region 17 with (fail)
  obtain ⟨W3, hW3, p0, p1, p2, q0, q1, q2, y0, y1, y2, G3⟩ := rbox f g w.heap.size i n c w1 b0 cc1 cc2 hgl (HFR.out _) (HFR.out _) (HFR.out _)
  rw [← hW3]
  clear hW3 cc0 cc1 cc2 z1 z2 b0 o0 o1 o2 o3 r0 rz bz hz
  obtain ⟨b0, o0, o1, o2, o3, r0, rz, bz, hz⟩ := HO1.out.gr G3
  dsimp only at o0 o1 o2 o3
  have HV3 := Lib.hid (HV1.out.gr G3)
  obtain ⟨S, hS⟩ : ∃ S, S = sliced (some ⟨g, 0, none⟩) (i + 1) n c 3 := ⟨_, rfl⟩
  have HSD : Hid (SL W3 3 S (n - (i + 1)) ((fcells L).drop ((i + 1) * 3))) := by rw [hS]; exact SL.drop (by have := own_sl HV3.out; rw [← HN.out] at this; exact this) (by omega)
  have hsl := slice_from n c (i + 1) 3 (by omega) (some ⟨g, 0, none⟩)
  have HOP : Hid (W3.ownsRow B 46 3 (.slice (some ⟨g, 0, none⟩) i c) i ((fcells L).take (i * 3))) := Lib.hid (own_prefix (by have := HV3.out; unfold FO at this; rw [← HN.out] at this; exact this) (by omega))
  rw [← hS] at hsl
  rw [show (((i + 1 : Nat) : Int)) = (i : Int) + 1 by omega] at hsl
  clear hS
  have hsl0 := slice_to n c i (by omega) (some ⟨g, 0, none⟩)
  have ei : IntKind.i64.wrap ((i : Int) + 1) = (i : Int) + 1 := IntWalk.i64_in _ ⟨by omega, by omega⟩
  have HLTi : Hid (∀ g', (Value.slice (some ⟨g, 0, none⟩) i c).ownBlock = some g' → g' < w.heap.size) := Lib.hid (fun g' hg' => HLT.out g' hg')
  have HON : Hid (∀ u ∈ (fcells L).drop ((i + 1) * 3), u.oneCell' = true) := Lib.hid (fun u hu => fcells_one L u (List.mem_of_mem_drop hu))
  have HB3 : Hid (B ≤ W3.heap.size) := Lib.hid (by have := HG1.out.size; have := G3.size; omega)
  have HN3 : Hid (i + (n - (i + 1)) = n - 1) := Lib.hid (by omega)
  have HZ3 : Hid (n - 1 ≤ maxLen ∧ (n - 1) * 48 ≤ 140737488355328) := Lib.hid (by unfold maxLen; rw [← HN.out] at hbig; omega)
  clear hbig
  go_wp2_with fail
  go_region_law
    (refine step_append_f rfl (.tmp 161) (.tmp 166) rfl B i (n - (i + 1)) (n - 1) (.slice (some ⟨g, 0, none⟩) i c) ((fcells L).take (i * 3)) (by simp [Act.eval, Act.put]) HOP.out S ((fcells L).drop ((i + 1) * 3)) (by simp [Act.eval, Act.put]) HSD.out HON.out HN3.out HZ3.out HB3.out w.heap.size HLTi.out b0 bz r0 rz (show w.heap.size + 1 + 1 < W3.heap.size from hz) ?_
     intro A4 c4 w4 hown4 hgr4 b4 bz4 r4 rz4 hne4)
  all_goals
    have HO4 : Hid (FO w4 B (.slice A4 (n - 1) c4) (L.eraseIdx i)) := by
      show World.ownsRow _ _ _ _ _ _ _
      rw [List.length_eraseIdx_of_lt hfd, fcells_erase, ← HN.out]
      exact hown4
    have HB4 : Hid (Kp (some g) w w4) := Kp.trans (Kp.drew (Kp.gr (Kp.of_gr HG1.out) G3)) hgr4
    have HNE := Lib.hid hne4
    clear hown4 hgr4 hne4 hsl hsl0 ei
    go_wp2
    refine bodyPost_ret (v := .tuple #[.agg #[.slice A4 (n - 1) c4], .int .i64 0]) (by simp [results, Tryd.results31, go_sem, r4]) rfl (RetOne.mk0 HS.out ?_ ?_ ?_ (fun h => absurd rfl h) ?_ rfl _)
    · exact HO4.out.set (fun g hg => (HNE.out g hg).1.1) _ _
    · exact fun g hg => (HNE.out g hg).1.2
    · exact Kp.set HB4.out (.inl (Nat.le_refl _)) _ _
    · exact fun g hg => (HNE.out g hg).2

theorem find_insert_new {L : List F} {p : Nat} {nm : ByteArray} (hp : p ≤ L.length) (hn : ¬ findF L nm < L.length) : findF (L.insertIdx p (newF nm)) nm = p := by
  have hne : ∀ j (hj : j < L.length), L[j].name ≠ nm := fun j hj => findF_before (by omega) hj
  have hl : p < (L.insertIdx p (newF nm)).length := by rw [List.length_insertIdx_of_le_length hp]; omega
  refine findF_eq hl ?_ ?_
  · rw [List.getElem_insertIdx_self]; rfl
  · intro j hj
    rw [List.getElem_insertIdx_of_lt hj]
    exact hne j (by omega)
theorem at_insert_new {L : List F} {p : Nat} {nm : ByteArray} (hp : p ≤ L.length) : (L.insertIdx p (newF nm))[p]'(by rw [List.length_insertIdx_of_le_length hp]; omega) = newF nm := by
  rw [List.getElem_insertIdx_self]
theorem set_insert_new {L : List F} {p : Nat} {x y : F} (hp : p ≤ L.length) : (L.insertIdx p x).set p y = L.insertIdx p y := by
  rw [insert_parts L p x hp, insert_parts L p y hp, List.set_append_right _ _ (by rw [List.length_take]; omega)]
  have : p - (L.take p).length = 0 := by rw [List.length_take]; omega
  rw [this, List.set_cons_zero]

theorem new_facts {L : List F} {p : Nat} {nm : ByteArray} (hp : placeF L nm = p) (hn : ¬ findF L nm < L.length) :
    ∃ L2, L.insertIdx p (newF nm) = L2 ∧ p ≤ L.length ∧ L2.length = L.length + 1 ∧ findF L2 nm = p ∧ (∀ h : p < L2.length, L2[p] = newF nm) ∧ ∀ y, L2.set p y = L.insertIdx p y := by
  have hpl : p ≤ L.length := by rw [← hp]; exact placeF_le L nm
  exact ⟨_, rfl, hpl, List.length_insertIdx_of_le_length hpl _, find_insert_new hpl hn, fun _ => at_insert_new hpl, fun y => set_insert_new hpl⟩

set_option maxRecDepth 100000 in
set_option maxHeartbeats 4000000 in
theorem one_new (v : Value) (L : List F) (nm bts : ByteArray) (at_ : Int) (B : Nat) (w : World) (hv : FO w B v L) (hB : B ≤ w.heap.size) (hf : Fit L) (ho : FitO ⟨1, nm, bts, at_⟩) (hnm : nameOk nm = true) (hfd : ¬ findF L nm < L.length) (h64 : ¬ 64 ≤ L.length) (hsz : ¬ 1048576 < bts.size) (p : Nat) (hp : placeF L nm = p) :
    Calls Tryd.prog 31 #[.agg #[v], .agg #[.int .i64 1, .string nm, .string bts, .int .i64 at_]] w fun e w' => RetOne L ⟨1, nm, bts, at_⟩ B v w e w' := by
  have HS := Lib.hid (show step L ⟨1, nm, bts, at_⟩ = (0, L.insertIdx p ⟨nm, ⟨#[]⟩, bts⟩) by
    rw [step_good (show (1 : Int) ≤ 1 by decide) (show (1 : Int) ≤ 4 by decide) hnm, stepAt_none hfd, if_pos rfl, if_neg h64, if_neg hsz, hp])
  obtain ⟨⟨hk1, hk2⟩, ⟨ha1, ha2⟩, hnz, hbz⟩ := ho
  dsimp only at hk1 hk2 ha1 ha2 hnz hbz
  have hlt : ∀ g, v.ownBlock = some g → g < w.heap.size := fun g hg => (World.ownsRow.lt hv g hg).2
  obtain ⟨A, c, rfl, hnc, hc63⟩ := hv.form
  have HV := Lib.hid hv
  have HLT := Lib.hid hlt
  have HFit := Lib.hid hf
  clear hv hlt hf
  obtain ⟨n, hn⟩ : ∃ n, n = L.length := ⟨_, rfl⟩
  have HN := Lib.hid hn
  rw [← hn] at HV HLT hnc
  rw [← hn]
  clear hn
  obtain ⟨W, hW, hG, hO⟩ := boxesOne A n c ⟨1, nm, bts, at_⟩ w
  have HW := Lib.hid hW
  have HG := Lib.hid hG
  have HO := Lib.hid hO
  clear hW hG
  go_enter Tryd.func31, Tryd.ntmps31
  go_upto_region 1 with (fail)
  rw [← HW.out]
  clear HW
  obtain ⟨b0, o0, o1, o2, o3, r0, rz, bz, hz⟩ := hO
  dsimp only at o0 o1 o2 o3
  have hfi : findI L nm = -1 := findI_no hfd
  have HNm := Lib.hid (rname_any nm hnz)
  have HFd := Lib.hid (fun w1 (g : Gr w w1) => rfind_any _ L nm w1 (HV.out.gr g).fv)
  rw [hnm] at HNm
  rw [hfi] at HFd
  clear hfi hnm
  go_wp2_with fail
  refine (HNm.out _).mono ?_
  rintro e w1 ⟨rfl, rfl⟩
  go_wp2_with fail
  clear b0 o0 o1 o2 o3 r0 rz bz hz
  refine (HFd.out _ HG.out).mono ?_
  rintro e w1 ⟨rfl, g1⟩
  obtain ⟨b0, o0, o1, o2, o3, r0, rz, bz, hz⟩ := HO.out.gr g1
  dsimp only at o0 o1 o2 o3
  have HO1 := Lib.hid (HO.out.gr g1)
  have HG1 := Lib.hid (HG.out.trans g1)
  have HV1 : Hid (FO w1 B (.slice A n c) L) := Lib.hid (HV.out.gr HG1.out)
  clear g1 HO
  have h64' : ¬ 64 ≤ n := by rw [HN.out]; exact h64
  clear h64
  have HAD := Lib.hid (fun w2 (g : Gr w1 w2) => radd_any _ L nm w2 (HV1.out.gr g).fv (by rw [← HN.out]; omega))
  obtain ⟨L2, hL2, hpl, hl2, hf2, hat2, hst2⟩ := new_facts hp hfd
  rw [hp, hL2] at HAD
  have hpL2 : p < L2.length := by omega
  have hfi2 : findI L2 nm = (p : Int) := by rw [findI_yes (by rw [hf2]; exact hpL2), hf2]
  have HAT2 := Lib.hid (hat2 hpL2)
  have HST2 := Lib.hid hst2
  have HFD2 := Lib.hid (fun v2 w2 (h : FV w2 v2 L2) => rfind_any v2 L2 nm w2 h)
  rw [hfi2] at HFD2
  have hpn : p < n + 1 := by rw [HN.out]; omega
  have HL2 : Hid (L2.length = n + 1) := Lib.hid (by rw [HN.out]; exact hl2)
  clear hL2 hf2 hat2 hst2 hl2 hp hfi2 hpl
  go_wp2_with fail
  have d2 : decide ((1048576 : Int) < (bts.size : Int)) = false := decide_eq_false (by omega)
  go_quiet (fail)
  clear d2
  clear b0 o0 o1 o2 o3 r0 rz bz hz
  obtain ⟨b0, o0, o1, o2, o3, r0, rz, bz, hz⟩ := HO1.out.gr ((Gr.refl w1).drewN nq)
  dsimp only at o0 o1 o2 o3
  go_wp2_with fail
  refine (HAD.out _ ((Gr.refl w1).drewN nq)).mono ?_
  rintro e w2 ⟨v2, rfl, hown2, g2⟩
  have HO2b := Lib.hid (HO1.out.gr (Gr.trans ((Gr.refl w1).drewN nq) g2))
  clear b0 o0 o1 o2 o3 r0 rz bz hz
  obtain ⟨b0, o0, o1, o2, o3, r0, rz, bz, hz⟩ := HO2b.out
  dsimp only at o0 o1 o2 o3
  have HB2 : Hid (w.heap.size + 1 + 1 < w2.heap.size) := Lib.hid hz
  have hlow : w.heap.size + 1 + 1 < (w1.drewN nq).heap.size := HO1.out.2.2.2.2.2.2.2.2
  obtain ⟨A2, c2, hv2, hc2, hc263⟩ := hown2.form
  rw [HL2.out] at hv2 hc2
  subst hv2
  obtain ⟨g, cc, hvv⟩ := hown2.addr hpL2
  injection hvv with q1 q2 q3
  subst q1 q3
  clear q2
  have hgl := hown2.len
  have hgb : w.heap.size + 1 + 1 < g := by have := hgl.2.2.2.1; omega
  have HOW2 := Lib.hid hown2
  have HGL := Lib.hid hgl
  clear hown2 hgl
  go_wp2_with fail
  have HV4 : Hid (FO (w2.setCell ⟨w.heap.size, 0, none⟩ (.slice (some ⟨g, 0, none⟩) (n + 1) c2)) (w.heap.size + 1 + 1 + 1) (.slice (some ⟨g, 0, none⟩) (n + 1) c2) L2) :=
    Lib.hid ((HOW2.out.set (fun g' hg' => by have e : g = g' := Option.some.inj hg'; omega) 0 _).le (by omega))
  have r4 := setCell_there (i := 0) (v := .slice (some ⟨g, 0, none⟩) (n + 1) c2) r0 (show w.heap.size + 1 + 1 ≠ w.heap.size by omega)
  have rz4 : (w2.setCell ⟨w.heap.size, 0, none⟩ (.slice (some ⟨g, 0, none⟩) (n + 1) c2)).frozen? ⟨w.heap.size + 1 + 1, 0, none⟩ = false := by rw [World.frozen?_setCell]; exact rz
  have b4 := setCell_here (v := .slice (some ⟨g, 0, none⟩) (n + 1) c2) b0
  have p4 := setCell_there (i := 0) (v := .slice (some ⟨g, 0, none⟩) (n + 1) c2) o2 (show w.heap.size + 1 ≠ w.heap.size by omega)
  have HB4 : Hid (Kp (Value.slice A n c).ownBlock w (w2.setCell ⟨w.heap.size, 0, none⟩ (.slice (some ⟨g, 0, none⟩) (n + 1) c2))) := Lib.hid (Kp.set (Kp.gr (Kp.drewN (Kp.of_gr HG1.out) nq) g2) (.inl (Nat.le_refl _)) _ _)
  have hz4 : w.heap.size + 1 + 1 < (w2.setCell ⟨w.heap.size, 0, none⟩ (.slice (some ⟨g, 0, none⟩) (n + 1) c2)).heap.size := by simpa [World.setCell] using hz
  have hg4 : g < (w2.setCell ⟨w.heap.size, 0, none⟩ (.slice (some ⟨g, 0, none⟩) (n + 1) c2)).heap.size := HV4.out.len.2.2.2.2
  obtain ⟨W4, hW4⟩ : ∃ W4, W4 = w2.setCell ⟨w.heap.size, 0, none⟩ (.slice (some ⟨g, 0, none⟩) (n + 1) c2) := ⟨_, rfl⟩
  rw [← hW4] at HV4 r4 rz4 b4 p4 HB4 hz4 hg4 ⊢
  clear hW4 b0 o0 o1 o2 o3 r0 rz bz hz HOW2
  refine (HFD2.out _ _ HV4.out.fv).mono ?_
  rintro e w5 ⟨rfl, g5⟩
  have HV5 := Lib.hid (HV4.out.gr g5)
  have HB5 : Hid (Kp (Value.slice A n c).ownBlock w w5) := Lib.hid (Kp.gr HB4.out g5)
  have b0 := g5.cell b4
  have o2 := g5.cell p4
  have r0 := g5.cell r4
  have rz := g5.frozen hz4 rz4
  have hz := Nat.lt_of_lt_of_le hz4 g5.size
  obtain ⟨cc0, cc1, cc2⟩ := HV5.out.at_ hpL2
  rw [HAT2.out] at cc0 cc1 cc2
  unfold newF at cc0 cc1 cc2
  dsimp only at cc0 cc1 cc2
  have z2 := HV5.out.free (p * 3 + 2)
  have hL2c := HV5.out.len.2.1
  rw [HL2.out] at hL2c
  clear b4 p4 r4 rz4 hz4 g5
  go_wp2_with fail
  go_region
  have HV6 : Hid (FO (w5.setCell ⟨g, p * 3 + 2, none⟩ (.string (⟨#[]⟩ ++ bts))) (w.heap.size + 1 + 1 + 1) (.slice (some ⟨g, 0, none⟩) (n + 1) c2) (L.insertIdx p ⟨nm, ⟨#[]⟩, bts⟩)) := by
    have h := HV5.out.put1 hpL2 (⟨#[]⟩ ++ bts)
    rw [HAT2.out, HST2.out] at h
    have e : (⟨(newF nm).name, (newF nm).kept, (⟨#[]⟩ : ByteArray) ++ bts⟩ : F) = ⟨nm, ⟨#[]⟩, bts⟩ := by rw [nil_append]; rfl
    rw [e] at h
    exact h
  clear cc0 cc1 cc2 z2
  go_wp2
  refine bodyPost_ret (v := .tuple #[.agg #[.slice (some ⟨g, 0, none⟩) (n + 1) c2], .int .i64 0]) (by simp [results, Tryd.results31, go_sem, setCell_there (i := p * 3 + 2) (v := .string (⟨#[]⟩ ++ bts)) r0 (show w.heap.size + 1 + 1 ≠ g by omega)]) rfl (RetOne.drew (RetOne.mk0 HS.out ?_ ?_ ?_ (fun h => absurd rfl h) ?_ rfl _))
  · exact HV6.out.le (by omega)
  · exact fun g' hg' => by have e : g = g' := Option.some.inj hg'; omega
  · exact Kp.set HB5.out (.inl (by omega)) _ _
  · exact fun g' hg' => by have e : g = g' := Option.some.inj hg'; right; omega

end Go.Proofs.YtmkcgnljankmdaaDoor
