/- The law CastEarly. Written by wip/tools/gencal.py. -/
import Derived.Test.YtjpiemgpbakfaaaG33
import Derived.Test.YtjpiemgpbakfaaaG23
import Derived.Test.YtjpiemgpbakfaaaG34
namespace Go.Proofs.Ytjpiemgpbakfaaa
open Go.RowKit Go.Joins
set_option linter.unusedSimpArgs false
set_option linter.unusedVariables false

def SIs (B : Nat) (u : Nat → S3) (s : S3) (t : TX) (vt : Value) (nt : Nat) (r : IB) (d : Int) (er : Nat) (v1 v2 v3 : Value) : Nat → SpI
  | 0 => SpI.fix (.agg (icells u s))
  | 1 => SpI.fix (v1)
  | 2 => SpI.fix (v2)
  | 3 => SpI.fix (v3)
  | 4 => SpI.fix (.agg (tcs t vt))
  | 5 => SpI.tx B t nt
  | 6 => SpI.rt B r d er
  | 7 => SpI.rt B r d er
  | 8 => SpI.ib B r
  | 9 => SpI.fix (.int .i64 d)
  | 10 => SpI.fix (.int .i64 (er : Int))
  | 13 => SpI.fix (.int .i64 d)
  | 14 => SpI.fix (.int .i64 (er : Int))
  | _ => SpI.any
theorem fitQ_of {L : List TX} {l : LG} (hL : ∀ x ∈ L, FitT x) (h : ∀ i x, i < 8 → x ∈ l i → x ∈ L) : FitQ l := fun i t hi ht => ⟨(hL t (h i t hi ht)).1, fun o ho => by have := ((hL t (h i t hi ht)).2.2 o ho).1; omega⟩
/-- What stands at place k of a row. -/
theorem xv_at {w : World} {A : Option Addr} {n c : Nat} {L : List TX} (h : XV w (.slice A n c) L) {k : Nat} (hk : k < L.length) : ∃ bl off At ct, A = some ⟨bl, off, none⟩ ∧ TOV w (.slice At L[k].ops.length ct) L[k].ops ∧ XFix w bl (off + k * 12) L[k] (.slice At L[k].ops.length ct) := by
  obtain ⟨A', c', hv, h1, h2, h3⟩ := h
  injection hv with e1 e2 e3
  obtain ⟨bl, off, ha, xv, hx0, hx⟩ := h3 k hk
  obtain ⟨At, ct, rfl⟩ := tov_form hx0
  exact ⟨bl, off, At, ct, by rw [e1, ha], hx0, hx⟩
/-- Is y among the first k? -/
def seenB (y : TX) (L : List TX) (k : Nat) (f : Bool) : Prop := f = true ∨ ∀ j x, j < k → L[j]? = some x → x ≠ y

set_option maxRecDepth 100000 in
set_option maxHeartbeats 16000000 in
theorem early13_short (v : Value) (L : List TX) (w : World) (hx : XV w v L) (hL : ∀ x ∈ L, FitT x) (hcase : L.length ≤ 80) :
    Calls Try.prog 4 #[v] w fun e w' => e = .returned (.bool true) ∧ Gr w w' := by
  obtain ⟨Al, cl, rfl⟩ := xv_form hx
  have hnle : L.length ≤ 9223372036854775807 := by obtain ⟨A', c', hv, h1, ⟨h2, _⟩, _⟩ := hx; unfold maxLen at h2; omega
  obtain ⟨nl, hnl⟩ : ∃ n, n = L.length := ⟨_, rfl⟩
  rw [← hnl] at hx hnle hcase ⊢
  have HAW := Lib.hid (awake13_any w)
  have HXV := Lib.hid hx
  have HFL := Lib.hid hL
  have HNL := Lib.hid hnl
  have HNLE := Lib.hid hnle
  have HCASE := Lib.hid hcase
  clear hx hL hnl hnle hcase
  go_enter Try.func4, Try.ntmps4
  go_wp2_with fail
  refine HAW.out.mono ?_
  rintro e W1 ⟨rfl, hg1⟩
  obtain ⟨W2, hW2, hg2, hb2⟩ : ∃ x, x = W1.alloc (.cells zic 35) ∧ Gr W1 x ∧ IBox x W1.heap.size Z3 N3 := ⟨_, rfl, (Gr.refl _).alloc _, zibox W1⟩
  have HIN0 : Hid (InR w W1.heap.size Z3 none 0 0 (nilL, []) W2) := Lib.hid ⟨hb2, LN.nil _ _, nil_XN _ _, hg1.size, hg1.trans hg2⟩
  clear hg1 hg2 hb2
  go_upto_region 4 with (fail)
  change Code.wp Try.prog _ _ _ (W1.alloc (.cells zic 35))
  rw [← hW2]
  obtain ⟨b, hb⟩ : ∃ b, b = W1.heap.size := ⟨_, rfl⟩
  rw [← hb] at HIN0 ⊢
  clear hW2 hb HAW
  go_wp2_with fail
  go_loopw [4, 5] (fun a i wr => ∃ kx : Nat, kx ≤ nl ∧ kx ≤ 80 ∧ i = .int .i64 kx ∧ ∃ m : Nat, a = .int .i64 m ∧ Hid (∃ s u A n c, InR w b u A n c s wr ∧ EI L s kx ∧ FitI s ∧ m = cntL s.1)) (fun _ i _ => 80 - (intOf i).toNat)
  case atStart => exact ⟨0, Nat.zero_le _, by decide, rfl, 0, rfl, Lib.hid ⟨_, _, _, _, _, HIN0.out, ei_nil L, fitI_nil, rfl⟩⟩
  case round =>
    clear HIN0
    obtain ⟨kx, hk, hk80, rfl, m, rfl, hst⟩ := hrel
    rename World => wr
    have hk0 : (0 : Int) ≤ (kx : Int) := Int.natCast_nonneg _
    obtain ⟨s, u1, A1, n1, c1, hin, hei, hfi, hm⟩ := hst.out
    have HIN := Lib.hid hin
    have HEI := Lib.hid hei
    have HFI := Lib.hid hfi
    have HM := Lib.hid hm
    have HMB : Hid (m ≤ 8 * 1024) := Lib.hid (by rw [hm]; exact cntTo_le (fun i hi => hei.ok.len i hi) 8 (Nat.le_refl _))
    clear hst hin hei hfi hm
    by_cases hlt : kx < nl ∧ kx < 80
    · obtain ⟨hl1, hl2⟩ := hlt
      have hi1 : (kx : Int) < (nl : Int) := by omega
      have hi2 : (kx : Int) < 80 := by omega
      have HKN := Lib.hid hi1
      have hkl : kx < L.length := by rw [← HNL.out]; exact hl1
      obtain ⟨bl, off, At, ct, ha, hx0, hx⟩ := xv_at HXV.out hkl
      subst ha
      obtain ⟨t, hte⟩ : ∃ t, t = L[kx] := ⟨_, rfl⟩
      rw [← hte] at hx0 hx
      have hmem : t ∈ L := by rw [hte]; exact List.getElem_mem hkl
      have HFT := Lib.hid (HFL.out t hmem)
      have HNX := Lib.hid (ei_next HEI.out hmem)
      obtain ⟨nt, hnt⟩ : ∃ n, n = t.ops.length := ⟨_, rfl⟩
      rw [← hnt] at hx hx0
      have HXX := Lib.hid hx
      have HCP := Lib.hid (fun w1 (g : Gr wr w1) => rcopy8_form t At nt ct hnt w1 ((hx0.gr HIN.out.gr).gr g) HFT.out.2.1)
      obtain ⟨R0, hR0⟩ : ∃ R, R = recvR s t := ⟨_, rfl⟩
      have HRC := Lib.hid (fun w1 (g : Gr wr w1) (x : Option Addr) (c : Nat) (hx : TOV w1 (.slice x nt c) t.ops) => receive_any u1 A1 n1 c1 s.1 s.2 t x nt c w1 (HIN.out.next g).iv.lv (HIN.out.next g).iv.xv HIN.out.iv.ln hx HFI.out.fc HFI.out.ft HFT.out (by rw [HIN.out.iv.ln]; exact HFI.out.le))
      have HRE : Hid (R0 = recvR s t) := Lib.hid hR0
      have e0 : recvR (s.1, s.2) t = R0 := hR0.symm
      rw [e0] at HRC
      obtain ⟨r, d, er⟩ := R0
      have HBS : Hid (w.heap.size ≤ wr.heap.size) := Lib.hid HIN.out.gr.size
      have HFI2 := Lib.hid (fitI_rcd HFI.out HFT.out)
      have HD0 : Hid (¬ er = 0 → d = 0 ∧ rcd s t = s) := Lib.hid fun h => by
        have := recvR_no (s := s) (t := t) (by rw [← HRE.out]; exact h)
        rw [← HRE.out] at this
        exact ⟨this, by unfold rcd; rw [← HRE.out]; exact if_neg h⟩
      have HD1 : Hid (er = 0 → rcd s t = r ∧ d = (cntL r.1 : Int) - (m : Int) ∧ m ≤ cntL r.1 ∧ cntL r.1 ≤ m + (kx + 1)) := Lib.hid fun h => by
        have e1 : rcd s t = r := by unfold rcd; rw [← HRE.out]; exact if_pos h
        have e2 := HNX.out.2 (by rw [← HRE.out]; exact h)
        rw [← HRE.out, e1, ← HM.out] at e2
        exact ⟨e1, e2⟩
      clear hx0 hx hte hmem hnt hR0 e0 hkl
      go_upto_region 8 with (fail)
      refine wp_region_noPanic ?_
      refine iRegionA (RI btI wr (fun k => ((SIs (w.heap.size) u1 ⟨A1, n1, c1⟩ t (.slice At nt ct) nt r d er (.slice (some ⟨bl, off, none⟩) nl cl) (.int .i64 (kx : Int)) (.pointer (some ⟨bl, off + kx * 12, none⟩))) k).P) [(11, 12, 8)] (fun _ => 35) (fun _ => zic)) (by kernel_rfl) (by kernel_rfl) (ri_start (fun k y wA wB => ((SIs (w.heap.size) u1 ⟨A1, n1, c1⟩ t (.slice At nt ct) nt r d er (.slice (some ⟨bl, off, none⟩) nl cl) (.int .i64 (kx : Int)) (.pointer (some ⟨bl, off + kx * 12, none⟩))) k).st y wA wB) (Gr.refl _)) ?_ ?_
      · intro i o ho vals wcf A hI hn hdep hOld hNew
        have hi : i < 15 := (List.getElem?_eq_some_iff.1 ho).1
        have q := ((HIN.out.bx.gr hI.gr)).all
        have b0 := q.1
        have b1 := q.2.1
        have b2 := q.2.2.1
        have b3 := q.2.2.2.1
        have b4 := q.2.2.2.2.1
        have b5 := q.2.2.2.2.2.1
        have b6 := q.2.2.2.2.2.2.1
        have b7 := q.2.2.2.2.2.2.2.1
        have b8 := q.2.2.2.2.2.2.2.2
        obtain ⟨x0, x1, x2, x3, x4, x5, x6, x7, x8, x9, x10, x11⟩ := HXX.out.gr (HIN.out.gr.trans hI.gr)
        clear q
        have hi0 : (0 : Int) ≤ (kx : Int) := Int.natCast_nonneg _
        have hi1 : (kx : Int) < (nl : Int) := HKN.out
        have eo3 : A.tmps[3]?.getD undef = .pointer (some ⟨b, 0, none⟩) := slotE (hOld 3 (by kernel_rfl))
        have eo0 : A.tmps[0]?.getD undef = .slice (some ⟨bl, off, none⟩) nl cl := slotE (hOld 0 (by kernel_rfl))
        have eo5 : A.tmps[5]?.getD undef = .int .i64 (kx : Int) := slotE (hOld 5 (by kernel_rfl))
        obtain rfl | rfl | rfl | rfl | rfl | rfl | rfl | rfl | rfl | rfl | rfl | rfl | rfl | rfl | rfl : i = 0 ∨ i = 1 ∨ i = 2 ∨ i = 3 ∨ i = 4 ∨ i = 5 ∨ i = 6 ∨ i = 7 ∨ i = 8 ∨ i = 9 ∨ i = 10 ∨ i = 11 ∨ i = 12 ∨ i = 13 ∨ i = 14 := by omega
        · obtain rfl := Option.some.inj (show some _ = some o from ho)
          refine aVal rfl rfl (v := .agg (icells u1 ⟨A1, n1, c1⟩)) (w' := wcf) ?_ ⟨_, rfl, hI.val hn (by decide) (rfl)⟩
          go_simp
        · obtain rfl := Option.some.inj (show some _ = some o from ho)
          refine aVal rfl rfl (v := .slice (some ⟨bl, off, none⟩) nl cl) (w' := wcf) ?_ ⟨_, rfl, hI.val hn (by decide) (rfl)⟩
          go_simp
        · obtain rfl := Option.some.inj (show some _ = some o from ho)
          refine aVal rfl rfl (v := .int .i64 (kx : Int)) (w' := wcf) ?_ ⟨_, rfl, hI.val hn (by decide) (rfl)⟩
          go_simp
        · obtain rfl := Option.some.inj (show some _ = some o from ho)
          obtain ⟨y1, hy1⟩ := hdep ⟨1, .data⟩ (by simp) rfl
          obtain rfl : y1 = .slice (some ⟨bl, off, none⟩) nl cl := hI.ok 1 y1 hy1
          have s1 := slotE (hNew 1 27 _ _ rfl rfl (by kernel_rfl) hy1)
          obtain ⟨y2, hy2⟩ := hdep ⟨2, .data⟩ (by simp) rfl
          obtain rfl : y2 = .int .i64 (kx : Int) := hI.ok 2 y2 hy2
          have s2 := slotE (hNew 2 28 _ _ rfl rfl (by kernel_rfl) hy2)
          refine aVal rfl rfl (v := .pointer (some ⟨bl, off + kx * 12, none⟩)) (w' := wcf) ?_ ⟨_, rfl, hI.val hn (by decide) (rfl)⟩
          go_simp
        · obtain rfl := Option.some.inj (show some _ = some o from ho)
          obtain ⟨y3, hy3⟩ := hdep ⟨3, .data⟩ (by simp) rfl
          obtain rfl : y3 = .pointer (some ⟨bl, off + kx * 12, none⟩) := hI.ok 3 y3 hy3
          have s3 := slotE (hNew 3 29 _ _ rfl rfl (by kernel_rfl) hy3)
          refine aVal rfl rfl (v := .agg (tcs t (.slice At nt ct))) (w' := wcf) ?_ ⟨_, rfl, hI.val hn (by decide) (rfl)⟩
          go_simp
        · obtain rfl := Option.some.inj (show some _ = some o from ho)
          obtain ⟨y4, hy4⟩ := hdep ⟨4, .data⟩ (by simp) rfl
          obtain rfl : y4 = .agg (tcs t (.slice At nt ct)) := hI.ok 4 y4 hy4
          have s4 := slotE (hNew 4 30 _ _ rfl rfl (by kernel_rfl) hy4)
          refine aCall rfl rfl (w1 := wcf) ?_ ((HCP.out wcf hI.gr).mono fun e w' ⟨ta, tc, he, ho, hg⟩ => ⟨_, he, _, rfl, (hI.next hg).val hn (by decide) (⟨ta, tc, rfl, ho.le (Nat.le_trans HBS.out hI.gr.size)⟩)⟩)
          go_simp
        · obtain rfl := Option.some.inj (show some _ = some o from ho)
          obtain ⟨y0, hy0⟩ := hdep ⟨0, .data⟩ (by simp) rfl
          obtain rfl : y0 = .agg (icells u1 ⟨A1, n1, c1⟩) := hI.ok 0 y0 hy0
          have s0 := slotE (hNew 0 26 _ _ rfl rfl (by kernel_rfl) hy0)
          obtain ⟨y5, hy5⟩ := hdep ⟨5, .data⟩ (by simp) rfl
          obtain ⟨ta5, tc5, rfl, hl5⟩ : ∃ x c, y5 = .agg (tcs t (.slice x nt c)) ∧ TOO wcf (w.heap.size) (.slice x nt c) t.ops := hI.ok 5 y5 hy5
          have s5 := slotE (hNew 5 31 _ _ rfl rfl (by kernel_rfl) hy5)
          refine aCall rfl rfl (w1 := wcf) ?_ ((HRC.out wcf hI.gr ta5 tc5 hl5.tov).mono fun e w' ⟨ur, sr, he, h1, h2, hg⟩ => ⟨_, he, _, rfl, (hI.next hg).val hn (by decide) (⟨ur, sr, rfl, h1.le (Nat.le_trans HBS.out hI.gr.size), h2.le (Nat.le_trans HBS.out hI.gr.size)⟩)⟩)
          go_simp
        · obtain rfl := Option.some.inj (show some _ = some o from ho)
          obtain ⟨y6, hy6⟩ := hdep ⟨6, .data⟩ (by simp) rfl
          obtain ⟨u6, ⟨sa6, sn6, sc6⟩, rfl, hl6⟩ : ∃ u s, y6 = .tuple #[.agg (icells u s), .int .i64 d, .int .i64 (er : Int)] ∧ LN wcf (w.heap.size) u r.1 ∧ XN wcf (w.heap.size) s.v r.2 := hI.ok 6 y6 hy6
          have s6 := slotE (hNew 6 32 _ _ rfl rfl (by kernel_rfl) hy6)
          refine aVal rfl rfl (v := .tuple #[.agg (icells u6 ⟨sa6, sn6, sc6⟩), .int .i64 d, .int .i64 (er : Int)]) (w' := wcf) ?_ ⟨_, rfl, hI.val hn (by decide) (⟨u6, ⟨sa6, sn6, sc6⟩, rfl, hl6⟩)⟩
          go_simp
        · obtain rfl := Option.some.inj (show some _ = some o from ho)
          obtain ⟨y7, hy7⟩ := hdep ⟨7, .data⟩ (by simp) rfl
          obtain ⟨u7, ⟨sa7, sn7, sc7⟩, rfl, hl7⟩ : ∃ u s, y7 = .tuple #[.agg (icells u s), .int .i64 d, .int .i64 (er : Int)] ∧ LN wcf (w.heap.size) u r.1 ∧ XN wcf (w.heap.size) s.v r.2 := hI.ok 7 y7 hy7
          have s7 := slotE (hNew 7 25 _ _ rfl rfl (by kernel_rfl) hy7)
          refine aVal rfl rfl (v := .agg (icells u7 ⟨sa7, sn7, sc7⟩)) (w' := wcf) ?_ ⟨_, rfl, hI.val hn (by decide) (⟨u7, ⟨sa7, sn7, sc7⟩, rfl, hl7⟩)⟩
          go_simp
        · obtain rfl := Option.some.inj (show some _ = some o from ho)
          obtain ⟨y7, hy7⟩ := hdep ⟨7, .data⟩ (by simp) rfl
          obtain ⟨u7, ⟨sa7, sn7, sc7⟩, rfl, hl7⟩ : ∃ u s, y7 = .tuple #[.agg (icells u s), .int .i64 d, .int .i64 (er : Int)] ∧ LN wcf (w.heap.size) u r.1 ∧ XN wcf (w.heap.size) s.v r.2 := hI.ok 7 y7 hy7
          have s7 := slotE (hNew 7 25 _ _ rfl rfl (by kernel_rfl) hy7)
          refine aVal rfl rfl (v := .int .i64 d) (w' := wcf) ?_ ⟨_, rfl, hI.val hn (by decide) (rfl)⟩
          go_simp
        · obtain rfl := Option.some.inj (show some _ = some o from ho)
          obtain ⟨y7, hy7⟩ := hdep ⟨7, .data⟩ (by simp) rfl
          obtain ⟨u7, ⟨sa7, sn7, sc7⟩, rfl, hl7⟩ : ∃ u s, y7 = .tuple #[.agg (icells u s), .int .i64 d, .int .i64 (er : Int)] ∧ LN wcf (w.heap.size) u r.1 ∧ XN wcf (w.heap.size) s.v r.2 := hI.ok 7 y7 hy7
          have s7 := slotE (hNew 7 25 _ _ rfl rfl (by kernel_rfl) hy7)
          refine aVal rfl rfl (v := .int .i64 (er : Int)) (w' := wcf) ?_ ⟨_, rfl, hI.val hn (by decide) (rfl)⟩
          go_simp
        · obtain rfl := Option.some.inj (show some _ = some o from ho)
          refine aVal rfl rfl (v := .pointer (some ⟨wcf.heap.size, 0, none⟩)) (w' := wcf.alloc (.cells (zic) 35)) ?_ ⟨_, rfl, hI.new hn (by decide) rfl rfl (fun _ _ => trivial)⟩
          go_simp
        · obtain rfl := Option.some.inj (show some _ = some o from ho)
          obtain ⟨y11, hy11⟩ := hdep ⟨11, .data⟩ (by simp) rfl
          obtain ⟨P, rfl, hP1, hP2⟩ := hI.at_new (a := 11) (k := 12) (s := 8) (by decide) hn hy11
          have s11 := slotE (hNew 11 6 _ _ rfl rfl (by kernel_rfl) hy11)
          obtain ⟨y8, hy8⟩ := hdep ⟨8, .data⟩ (by simp) rfl
          obtain ⟨u8, ⟨sa8, sn8, sc8⟩, rfl, hl8⟩ : ∃ u s, y8 = .agg (icells u s) ∧ LN wcf (w.heap.size) u r.1 ∧ XN wcf (w.heap.size) s.v r.2 := hI.ok 8 y8 hy8
          have s8 := slotE (hNew 8 33 _ _ rfl rfl (by kernel_rfl) hy8)
          have z0 : wcf.cell? ⟨P, 0, none⟩ = some (.slice none 0 0) := by rw [cell_of_block hP2]; rfl
          have k0 := unfrozen_of_block hP2 0
          have z1 : wcf.cell? ⟨P, 1, none⟩ = some (.slice none 0 0) := by rw [cell_of_block hP2]; rfl
          have k1 := unfrozen_of_block hP2 1
          have z2 : wcf.cell? ⟨P, 2, none⟩ = some (.slice none 0 0) := by rw [cell_of_block hP2]; rfl
          have k2 := unfrozen_of_block hP2 2
          have z3 : wcf.cell? ⟨P, 3, none⟩ = some (.slice none 0 0) := by rw [cell_of_block hP2]; rfl
          have k3 := unfrozen_of_block hP2 3
          have z4 : wcf.cell? ⟨P, 4, none⟩ = some (.slice none 0 0) := by rw [cell_of_block hP2]; rfl
          have k4 := unfrozen_of_block hP2 4
          have z5 : wcf.cell? ⟨P, 5, none⟩ = some (.slice none 0 0) := by rw [cell_of_block hP2]; rfl
          have k5 := unfrozen_of_block hP2 5
          have z6 : wcf.cell? ⟨P, 6, none⟩ = some (.slice none 0 0) := by rw [cell_of_block hP2]; rfl
          have k6 := unfrozen_of_block hP2 6
          have z7 : wcf.cell? ⟨P, 7, none⟩ = some (.slice none 0 0) := by rw [cell_of_block hP2]; rfl
          have k7 := unfrozen_of_block hP2 7
          have z8 : wcf.cell? ⟨P, 8, none⟩ = some (.slice none 0 0) := by rw [cell_of_block hP2]; rfl
          have k8 := unfrozen_of_block hP2 8
          have hz := hP2
          refine aSkip rfl rfl (w' := putCells wcf P 0 (icells u8 ⟨sa8, sn8, sc8⟩ : Array Value).toList) ?_ ⟨_, rfl, hI.putA (a := 11) (k := 12) (s := 8) (c := icells u8 ⟨sa8, sn8, sc8⟩) (by decide) hn (by decide) (by decide) (by decide) hy11 hy8 rfl (fun _ => trivial)⟩
          clear hz hI hP2
          go_simp
          rfl
        · obtain rfl := Option.some.inj (show some _ = some o from ho)
          obtain ⟨y9, hy9⟩ := hdep ⟨9, .data⟩ (by simp) rfl
          obtain rfl : y9 = .int .i64 d := hI.ok 9 y9 hy9
          have s9 := slotE (hNew 9 34 _ _ rfl rfl (by kernel_rfl) hy9)
          refine aVal rfl rfl (v := .int .i64 d) (w' := wcf) ?_ ⟨_, rfl, hI.val hn (by decide) (rfl)⟩
          go_simp
        · obtain rfl := Option.some.inj (show some _ = some o from ho)
          obtain ⟨y10, hy10⟩ := hdep ⟨10, .data⟩ (by simp) rfl
          obtain rfl : y10 = .int .i64 (er : Int) := hI.ok 10 y10 hy10
          have s10 := slotE (hNew 10 35 _ _ rfl rfl (by kernel_rfl) hy10)
          refine aVal rfl rfl (v := .int .i64 (er : Int)) (w' := wcf) ?_ ⟨_, rfl, hI.val hn (by decide) (rfl)⟩
          go_simp
      · intro vals wcf hall hI
        refine NoPanic.normal ?_
        obtain ⟨y0, hy0⟩ := hall 0 (by decide)
        obtain ⟨y1, hy1⟩ := hall 1 (by decide)
        obtain ⟨y2, hy2⟩ := hall 2 (by decide)
        obtain ⟨y3, hy3⟩ := hall 3 (by decide)
        obtain ⟨y4, hy4⟩ := hall 4 (by decide)
        obtain ⟨y5, hy5⟩ := hall 5 (by decide)
        obtain ⟨y6, hy6⟩ := hall 6 (by decide)
        obtain ⟨y7, hy7⟩ := hall 7 (by decide)
        obtain ⟨y8, hy8⟩ := hall 8 (by decide)
        obtain ⟨y9, hy9⟩ := hall 9 (by decide)
        obtain ⟨y10, hy10⟩ := hall 10 (by decide)
        obtain ⟨y11, hy11⟩ := hall 11 (by decide)
        obtain ⟨y12, hy12⟩ := hall 12 (by decide)
        obtain ⟨y13, hy13⟩ := hall 13 (by decide)
        obtain ⟨y14, hy14⟩ := hall 14 (by decide)
        have hP := hI.at_full (a := 11) (k := 12) (s := 8) (by decide) hy12 hy8 hy11
        obtain ⟨uf, ⟨saf, snf, scf⟩, rfl, hlf⟩ : ∃ u s, y8 = .agg (icells u s) ∧ LN wcf (w.heap.size) u r.1 ∧ XN wcf (w.heap.size) s.v r.2 := hI.ok 8 y8 hy8
        obtain ⟨Pf, rfl, hPf, hbf⟩ := hP
        obtain rfl : y13 = .int .i64 d := hI.ok 13 y13 hy13
        obtain rfl : y14 = .int .i64 (er : Int) := hI.ok 14 y14 hy14
        have HBf : Hid (IBox wcf Pf uf ⟨saf, snf, scf⟩) := Lib.hid ⟨hbf⟩
        have HLf := Lib.hid hlf
        have HGf := Lib.hid hI.gr
        have HPf := Lib.hid hPf
        clear hbf hlf hPf
        simp only [putAll, putV, hy0, hy1, hy2, hy3, hy4, hy5, hy6, hy7, hy8, hy9, hy10, hy11, hy12, hy13, hy14]
        clear hI hall hy0 hy1 hy2 hy3 hy4 hy5 hy6 hy7 hy8 hy9 hy10 hy11 hy12 hy13 hy14
        simp only [Act.put, List.setIfInBounds_toArray, List.set_cons_zero, List.set_cons_succ]
        by_cases h0 : er = 0
        · subst h0
          obtain ⟨hrc, hd, hm1, hm2⟩ := HD1.out rfl
          have HRC2 := Lib.hid hrc
          obtain ⟨m2, hm2e⟩ : ∃ x, x = cntL r.1 := ⟨_, rfl⟩
          have HM2 := Lib.hid hm2e
          rw [← hm2e] at hd hm1 hm2
          obtain ⟨dd, hdd⟩ : ∃ x : Nat, x = m2 - m := ⟨_, rfl⟩
          have hdI : d = (dd : Int) := by omega
          subst hdI
          have hmb := HMB.out
          have hsum : wrap64 ((m : Int) + (dd : Int)) = (m2 : Int) := by unfold wrap64; omega
          have hsum2 : IntKind.i64.wrap ((m : Int) + (dd : Int)) = (m2 : Int) := by simp [IntKind.wrap, IntKind.bits, IntKind.signed]; omega
          have hEI2 : EI L r (kx + 1) := by rw [← hrc]; exact HNX.out.1
          have HEI2 := Lib.hid hEI2
          have HFR : Hid (FitI r) := Lib.hid (by have := HFI2.out; rwa [hrc] at this)
          have hd0 : ¬ (dd : Int) < 0 := by omega
          have hdk : ¬ (kx : Int) + 1 < (dd : Int) := by omega
          have hd0d : decide ((dd : Int) < 0) = false := decide_eq_false hd0
          have hdkd : decide ((kx : Int) + 1 < (dd : Int)) = false := decide_eq_false hdk
          have HINf := HIN.out.next HGf.out
          have HZC := Lib.hid HINf.bx
          have HIB : Hid (InR w b uf saf snf scf r (putI wcf b uf ⟨saf, snf, scf⟩)) := Lib.hid ⟨putI_box HINf.bx, HLf.out.1.kpI HINf.bx (putI_kp _ _ _ _), XN.kpI HLf.out.2 HINf.bx (putI_kp _ _ _ _), HINf.ge, putI_gr HINf.gr HINf.ge _ _⟩
          obtain ⟨q0, q1, q2, q3, q4, q5, q6, q7, q8⟩ := HBf.out.all
          obtain ⟨z0, z1, z2, z3, z4, z5, z6, z7, z8⟩ := HZC.out.all
          obtain ⟨f0, f1, f2, f3, f4, f5, f6, f7, f8⟩ := HZC.out.fz
          have HNE : Hid (Pf ≠ b) := Lib.hid (by have := HPf.out; have := HIN.out.bx.lt; omega)
          clear hrc hd hm1 hm2 hm2e hdd hmb hEI2 HINf
          go_upto_region 14 with (fail)
          clear q0 q1 q2 q3 q4 q5 q6 q7 q8 z0 z1 z2 z3 z4 z5 z6 z7 z8 f0 f1 f2 f3 f4 f5 f6 f7 f8
          change Code.wp Try.prog _ _ _ (putI wcf b uf ⟨saf, snf, scf⟩)
          obtain ⟨w9, hw9⟩ : ∃ x, x = putI wcf b uf ⟨saf, snf, scf⟩ := ⟨_, rfl⟩
          rw [← hw9] at HIB ⊢
          clear hw9
          have HCK := Lib.hid (rcheck9_any uf r.1 w9 HIB.out.ln.lv (fitQ_of HFL.out HEI2.out.lg))
          rw [okL_iff.2 HEI2.out.ok] at HCK
          obtain ⟨q0, q1, q2, q3, q4, q5, q6, q7, q8⟩ := HIB.out.bx.all
          go_wp2_with fail
          refine HCK.out.mono ?_
          rintro e w10 ⟨rfl, g10⟩
          have HIN10 := Lib.hid (HIB.out.next g10)
          clear q0 q1 q2 q3 q4 q5 q6 q7 q8 g10
          go_wp2_with fail
          go_roundw
          case measure => simp [intOf]; omega
          case rel => exact ⟨kx + 1, by omega, by omega, by go_num, m2, rfl, Lib.hid ⟨r, uf, saf, snf, scf, HIN10.out, HEI2.out, HFR.out, HM2.out⟩⟩
        · obtain ⟨hd, hrs⟩ := HD0.out h0
          subst hd
          have hb0 : ((er : Int) != 0) = true := by simpa using h0
          have hd0 : ¬ (er : Int) = 0 := by omega
          have HEI2 : Hid (EI L s (kx + 1)) := Lib.hid (by have := HNX.out.1; rwa [hrs] at this)
          have HIN10 := Lib.hid (HIN.out.next HGf.out)
          clear h0 hrs
          go_wp2_with fail
          go_roundw
          case measure => simp [intOf]; omega
          case rel => exact ⟨kx + 1, by omega, by omega, by go_num, m, rfl, Lib.hid ⟨s, u1, A1, n1, c1, HIN10.out, HEI2.out, HFI.out, HM.out⟩⟩
    · have hl1 : ¬ (kx : Int) < (nl : Int) := by have := HCASE.out; omega
      have HRS := Lib.hid (fun w1 (g : Gr wr w1) => rsize_any u1 s.1 w1 (HIN.out.next g).iv.lv)
      have HRO := Lib.hid (fun w1 (g : Gr wr w1) => rord9_any u1 s.1 (sizeV s.1) w1 (HIN.out.next g).iv.lv HFI.out.fc HEI.out.ok.len)
      obtain ⟨N, hN⟩ : ∃ N, N = ordR s.1 (sizeV s.1) := ⟨_, rfl⟩
      have HNm : Hid (∀ y ∈ N, y ∈ L) := Lib.hid fun y hy => by
        rw [hN] at hy
        obtain ⟨i, hi, hx⟩ := ordR_memA.1 hy
        exact HEI.out.lg i y hi hx
      have HNl : Hid (N.length = m) := Lib.hid (by rw [hN, ordR_lenA, HM.out])
      rw [← hN] at HRO
      clear hN hlt
      go_upto_region 16 with (fail)
      try clear hl2
      try clear hl1
      try clear hlt
      try clear hcase
      try clear hk80
      try clear hk
      try clear hk0
      refine qTail 5 (fun w' => IC w' b u1 ⟨A1, n1, c1⟩ ∧ Gr wr w') (by kernel_rfl) (by kernel_rfl) ⟨IBox.all (HIN.out.bx.gr (Gr.refl _).drew), (Gr.refl _).drew⟩ ?_
      simp only [List.take_succ_cons, List.take_zero, List.drop_succ_cons, List.drop_zero]
      iterate 4
        refine qTake (by kernel_rfl) ?_
        apply Exists.intro
        refine ⟨fun wq hq => ?_, ?_⟩
        · go_light
          obtain ⟨⟨b0, b1, b2, b3, b4, b5, b6, b7, b8⟩, hg⟩ := hq
          go_simp
          try with_reducible rfl
          done
        try simp only [Act.put, List.setIfInBounds_toArray, List.set_cons_zero, List.set_cons_succ]
      refine qCall (by kernel_rfl) ?_
      apply Exists.intro
      refine ⟨?_, ?_⟩
      · apply Exists.intro
        apply Exists.intro
        refine ⟨fun wq => ?_, fun wq hq => ?_⟩
        · go_light
          go_simp
          exact ⟨rfl, rfl⟩
        · exact (HRS.out wq hq.2).mono fun e w'' ⟨he, hg⟩ => ⟨he, hq.1.gr hg, hq.2.trans hg⟩
      try simp only [Act.put, List.setIfInBounds_toArray, List.set_cons_zero, List.set_cons_succ]
      refine qNil ?_
      intro w3 hC
      have HG3 := Lib.hid hC.2
      clear hC
      go_wp2_with fail
      refine (HRO.out w3 HG3.out).mono ?_
      rintro e w4 ⟨v4, rfl, hxn, g4⟩
      obtain ⟨A4, c4, hv4⟩ := hxn.form
      subst hv4
      have HX4 := Lib.hid hxn.xv
      have HG4 := Lib.hid ((HIN.out.gr.trans HG3.out).trans g4)
      rw [HNl.out] at HX4 ⊢
      have hmb : m ≤ 8192 := HMB.out
      clear hxn g4
      go_wp2_with fail
      go_loopw [10] (fun i wy => ∃ j : Nat, j ≤ m ∧ i = .int .i64 j ∧ Hid (Gr w4 wy)) (fun i _ => m - (intOf i).toNat)
      case atStart => exact ⟨0, Nat.zero_le _, rfl, Lib.hid (Gr.refl _)⟩
      case round =>
        obtain ⟨j, hj, rfl, hgy⟩ := hrel
        rename World => wy
        have hj0 : (0 : Int) ≤ (j : Int) := Int.natCast_nonneg _
        by_cases hjm : j < m
        · have hji : (j : Int) < (m : Int) := by omega
          have hjl : j < N.length := by rw [HNl.out]; exact hjm
          obtain ⟨b4, off4, Ay, cy, hA4, hy0, hy⟩ := xv_at HX4.out hjl
          subst hA4
          obtain ⟨y, hye⟩ : ∃ y, y = N[j] := ⟨_, rfl⟩
          rw [← hye] at hy0 hy
          have HYL : Hid (y ∈ L) := Lib.hid (HNm.out y (by rw [hye]; exact List.getElem_mem hjl))
          have HY0 := Lib.hid hy0
          obtain ⟨ny, hny⟩ : ∃ n, n = y.ops.length := ⟨_, rfl⟩
          rw [← hny] at hy HY0
          have HY := Lib.hid hy
          clear hy0 hy hye hny hjl
          as_aux_lemma =>
            go_wp2_with fail
            go_loopw [11, 12] (fun f i wz => ∃ q : Nat, q ≤ nl ∧ i = .int .i64 q ∧ ∃ ff, f = .bool ff ∧ Hid (Gr wy wz ∧ seenB y L q ff)) (fun _ i _ => nl - (intOf i).toNat)
            case atStart => exact ⟨0, Nat.zero_le _, rfl, false, rfl, Lib.hid ⟨Gr.refl _, .inr fun _ _ hq => absurd hq (Nat.not_lt_zero _)⟩⟩
            case round =>
              obtain ⟨q, hq, rfl, ff, rfl, hsz⟩ := hrel
              rename World => wz
              have hq0 : (0 : Int) ≤ (q : Int) := Int.natCast_nonneg _
              by_cases hqn : q < nl
              · have hqi : (q : Int) < (nl : Int) := by omega
                have hql : q < L.length := by rw [← HNL.out]; exact hqn
                obtain ⟨bx, ofx, Ax, cx, hAl, hx0, hx⟩ := xv_at HXV.out hql
                subst hAl
                obtain ⟨x, hxe⟩ : ∃ x, x = L[q] := ⟨_, rfl⟩
                rw [← hxe] at hx0 hx
                have HAT : Hid (L[q]? = some x) := Lib.hid (by rw [hxe]; exact List.getElem?_eq_getElem hql)
                have HX0 := Lib.hid hx0
                obtain ⟨nx, hnx⟩ : ∃ n, n = x.ops.length := ⟨_, rfl⟩
                rw [← hnx] at hx HX0
                have HX := Lib.hid hx
                have HGZ := Lib.hid hsz.out.1
                have HSB := Lib.hid hsz.out.2
                have HGW : Hid (Gr w wz) := Lib.hid ((HG4.out.trans hgy.out).trans hsz.out.1)
                have HG4Z : Hid (Gr w4 wz) := Lib.hid (hgy.out.trans hsz.out.1)
                have hqw : wrap64 ((q : Int) + 1) = ((q + 1 : Nat) : Int) := by have := HNLE.out; unfold wrap64; omega
                obtain ⟨q1, hq1⟩ : ∃ x, x = q + 1 := ⟨_, rfl⟩
                rw [← hq1] at hqw
                have HQ1 := Lib.hid hq1
                clear hx0 hx hxe hnx hql hsz hq1
                rcases ff with _ | _
                · obtain ⟨rr, hrr⟩ : ∃ r, r = sameT x y := ⟨_, rfl⟩
                  have HS8 := Lib.hid (fun w1 (g : Gr wz w1) => rsame8_any x y (.slice Ax nx cx) (.slice Ay ny cy) w1 (HX0.out.gr (HGW.out.trans g)) (HY0.out.gr (HG4Z.out.trans g)))
                  rw [← hrr] at HS8
                  have HSN : Hid (seenB y L q1 rr) := Lib.hid (by
                    rcases HSB.out with h | h
                    · cases h
                    · by_cases e : x = y
                      · exact .inl (by rw [hrr, e]; exact sameT_self y)
                      · refine .inr fun jj z hjj hz => ?_
                        rcases Nat.lt_or_ge jj q with h2 | h2
                        · exact h jj z h2 hz
                        · have e2 : jj = q := by have := HQ1.out; omega
                          subst e2
                          rw [HAT.out] at hz
                          injection hz with hz
                          rw [← hz]; exact e)
                  clear hrr
                  as_aux_lemma =>
                    go_upto_region 24 with (fail)
                    refine qRegion (fun w' => XFix w' bx (ofx + q * 12) x (.slice Ax nx cx) ∧ XFix w' b4 (off4 + j * 12) y (.slice Ay ny cy) ∧ Gr wz w') (by kernel_rfl) (by kernel_rfl) ⟨HX.out.gr (HGW.out.trans (Gr.refl _).drew), HY.out.gr (HG4Z.out.trans (Gr.refl _).drew), (Gr.refl _).drew⟩ ?_
                    iterate 10
                      refine qTake (by kernel_rfl) ?_
                      apply Exists.intro
                      refine ⟨fun wq hq => ?_, ?_⟩
                      · go_light
                        obtain ⟨⟨x0, x1, x2, x3, x4, x5, x6, x7, x8, x9, x10, x11⟩, ⟨y0, y1, y2, y3, y4, y5, y6, y7, y8, y9, y10, y11⟩, hg⟩ := hq
                        go_simp
                        try with_reducible rfl
                        done
                      try simp only [Act.put, List.setIfInBounds_toArray, List.set_cons_zero, List.set_cons_succ]
                    refine qCall (by kernel_rfl) ?_
                    apply Exists.intro
                    refine ⟨?_, ?_⟩
                    · apply Exists.intro
                      apply Exists.intro
                      refine ⟨fun wq => ?_, fun wq hq => ?_⟩
                      · go_light
                        go_simp
                        exact ⟨rfl, rfl⟩
                      · exact (HS8.out wq hq.2.2).mono fun e w'' ⟨he, hg⟩ => ⟨he, hq.1.gr hg, hq.2.1.gr hg, hq.2.2.trans hg⟩
                    try simp only [Act.put, List.setIfInBounds_toArray, List.set_cons_zero, List.set_cons_succ]
                    iterate 2
                      refine qTake (by kernel_rfl) ?_
                      apply Exists.intro
                      refine ⟨fun wq hq => ?_, ?_⟩
                      · go_light
                        obtain ⟨⟨x0, x1, x2, x3, x4, x5, x6, x7, x8, x9, x10, x11⟩, ⟨y0, y1, y2, y3, y4, y5, y6, y7, y8, y9, y10, y11⟩, hg⟩ := hq
                        go_simp
                        try with_reducible rfl
                        done
                      try simp only [Act.put, List.setIfInBounds_toArray, List.set_cons_zero, List.set_cons_succ]
                    refine qNil ?_
                    rintro w5 ⟨-, -, hg5⟩
                    have HG5 := Lib.hid hg5
                    clear hg5
                    go_wp2_with fail
                    go_roundw
                    case measure => (try rw [hqw]); have := HQ1.out; simp [intOf]; omega
                    case rel => exact ⟨q1, by have := HQ1.out; omega, by first | exact congrArg (Value.int .i64) hqw | (have := HQ1.out; go_num), rr, rfl, Lib.hid ⟨HGZ.out.trans HG5.out, HSN.out⟩⟩
                · skip
                  as_aux_lemma =>
                    go_upto_region 24 with (fail)
                    refine qRegion (fun w' => Gr wz w') (by kernel_rfl) (by kernel_rfl) (Gr.refl _).drew ?_
                    iterate 2
                      refine qTake (by kernel_rfl) ?_
                      apply Exists.intro
                      refine ⟨fun wq hq => ?_, ?_⟩
                      · go_light
                        obtain hg := hq
                        go_simp
                        try with_reducible rfl
                        done
                      try simp only [Act.put, List.setIfInBounds_toArray, List.set_cons_zero, List.set_cons_succ]
                    iterate 9
                      refine qSkip (by kernel_rfl) ?_
                      try simp only [Act.put, List.setIfInBounds_toArray, List.set_cons_zero, List.set_cons_succ]
                    iterate 2
                      refine qTake (by kernel_rfl) ?_
                      apply Exists.intro
                      refine ⟨fun wq hq => ?_, ?_⟩
                      · go_light
                        obtain hg := hq
                        go_simp
                        try with_reducible rfl
                        done
                      try simp only [Act.put, List.setIfInBounds_toArray, List.set_cons_zero, List.set_cons_succ]
                    refine qNil ?_
                    rintro w5 hg5
                    have HG5 := Lib.hid hg5
                    clear hg5
                    go_wp2_with fail
                    go_roundw
                    case measure => (try rw [hqw]); have := HQ1.out; simp [intOf]; omega
                    case rel => exact ⟨q1, by have := HQ1.out; omega, by first | exact congrArg (Value.int .i64) hqw | (have := HQ1.out; go_num), true, rfl, Lib.hid ⟨HGZ.out.trans HG5.out, .inl rfl⟩⟩
              · have hff : ff = true := by
                  rcases hsz.out.2 with h | h
                  · exact h
                  · exfalso
                    obtain ⟨p, hp, hpe⟩ := List.mem_iff_getElem.1 HYL.out
                    exact h p y (by have := HNL.out; omega) (by rw [← hpe]; exact List.getElem?_eq_getElem hp) rfl
                subst hff
                have hqe : q = nl := by omega
                subst hqe
                have HGZ := Lib.hid hsz.out.1
                clear hsz
                go_wp2_with fail
                go_roundw
                case measure => simp [intOf]; omega
                case rel => exact ⟨j + 1, by omega, by go_num, Lib.hid (hgy.out.trans HGZ.out)⟩
        · have hje : j = m := by omega
          subst hje
          have HGY := Lib.hid hgy.out
          clear hgy
          go_wp2_with fail
          go_ret
          exact ⟨by simp, HG4.out.trans HGY.out⟩
end Go.Proofs.Ytjpiemgpbakfaaa
