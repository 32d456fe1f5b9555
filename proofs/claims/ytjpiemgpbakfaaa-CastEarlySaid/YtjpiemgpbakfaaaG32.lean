/- Texts CaH, joined. -/
import Derived.Test.YtjpiemgpbakfaaaG31
import Derived.Test.YtjpiemgpbakfaaaG20
import Derived.Test.YtjpiemgpbakfaaaG24
/- Walks: the law's received; the document's Same of inboxes. Written by wip/tools/gencah.py. -/
namespace Go.Proofs.Ytjpiemgpbakfaaa
open Go.RowKit Go.Joins
set_option linter.unusedSimpArgs false
set_option linter.unusedVariables false

def btI (t : TypeId) : Bool := t == 35
/-- What an operation of a region leaves: a predicate that keeps when boxes of inboxes change. -/
structure SpI where
  P : World → Value → Prop
  st : ∀ y w1 w2, P w1 y → Keeps btI w1 w2 → P w2 y
theorem XN.keepsI {w w' : World} {B : Nat} {v : Value} {L : List TX} (h : XN w B v L) (k : Keeps btI w w') : XN w' B v L := by
  obtain ⟨R, h1, h2, h3⟩ := h
  exact ⟨R, h1, own_keeps h2 (by decide) k, fun r hr => own_keeps (h3 r hr) (by decide) k⟩
theorem LN.keepsI {w w' : World} {B : Nat} {u : Nat → S3} {l : LG} (h : LN w B u l) (k : Keeps btI w w') : LN w' B u l := fun i hi => (h i hi).keepsI k
def SpI.fix (v : Value) : SpI := ⟨fun _ y => y = v, fun _ _ _ h _ => h⟩
def SpI.any : SpI := ⟨fun _ _ => True, fun _ _ _ _ _ => trivial⟩
def SpI.tx (B : Nat) (t : TX) (n : Nat) : SpI := ⟨fun w y => ∃ x c, y = .agg (tcs t (.slice x n c)) ∧ TOO w B (.slice x n c) t.ops, fun _ _ _ ⟨x, c, h1, h2⟩ k => ⟨x, c, h1, own_keeps h2 (by decide) k⟩⟩
def SpI.rt (B : Nat) (r : IB) (d : Int) (er : Nat) : SpI := ⟨fun w y => ∃ u s, y = .tuple #[.agg (icells u s), .int .i64 d, .int .i64 (er : Int)] ∧ LN w B u r.1 ∧ XN w B s.v r.2, fun _ _ _ ⟨u, s, h1, h2, h3⟩ k => ⟨u, s, h1, h2.keepsI k, h3.keepsI k⟩⟩
def SpI.ib (B : Nat) (r : IB) : SpI := ⟨fun w y => ∃ u s, y = .agg (icells u s) ∧ LN w B u r.1 ∧ XN w B s.v r.2, fun _ _ _ ⟨u, s, h1, h2, h3⟩ k => ⟨u, s, h1, h2.keepsI k, h3.keepsI k⟩⟩
def SIr (B : Nat) (u : Nat → S3) (s : S3) (t : TX) (vt : Value) (nt : Nat) (r : IB) (d : Int) (er : Nat) : Nat → SpI
  | 0 => SpI.fix (.agg (icells u s))
  | 1 => SpI.fix (.agg (tcs t vt))
  | 2 => SpI.tx B t nt
  | 3 => SpI.rt B r d er
  | 4 => SpI.rt B r d er
  | 5 => SpI.ib B r
  | 6 => SpI.fix (.int .i64 d)
  | 7 => SpI.fix (.int .i64 (er : Int))
  | 10 => SpI.fix (.int .i64 d)
  | 11 => SpI.fix (.int .i64 (er : Int))
  | _ => SpI.any

theorem rcopy8_form (t : TX) (A : Option Addr) (n c : Nat) (hn : n = t.ops.length) (w : World) (hv : TOV w (.slice A n c) t.ops) (hlen : t.ops.length * 48 ≤ 140737488355328) :
    Calls Try.prog 13 #[.agg (tcs t (.slice A n c))] w fun e w' => ∃ x c', e = .returned (.agg (tcs t (.slice x n c'))) ∧ TOO w' w.heap.size (.slice x n c') t.ops ∧ Gr w w' := by
  refine (rcopy8_own t _ w hv hlen).mono ?_
  rintro e w' ⟨u, h1, h2, h3⟩
  obtain ⟨x, c', rfl, -, -⟩ := h2.form
  rw [← hn] at h1 h2
  exact ⟨x, c', h1, h2, h3⟩
/-- An inbox that reads so. -/
structure IV (w : World) (u : Nat → S3) (A : Option Addr) (n c : Nat) (s : IB) : Prop where
  lv : LV w u s.1
  xv : XV w (.slice A n c) s.2
  ln : n = s.2.length
theorem IV.gr {w w' : World} {u : Nat → S3} {A : Option Addr} {n c : Nat} {s : IB} (h : IV w u A n c s) (g : Gr w w') : IV w' u A n c s := ⟨h.lv.gr g, h.xv.gr g, h.ln⟩
/-- What an inbox may hold. -/
structure FitI (s : IB) : Prop where
  fc : FitC s.1
  ft : ∀ t ∈ s.2, FitT t
  le : s.2.length ≤ 64
set_option maxRecDepth 100000 in
set_option maxHeartbeats 8000000 in
theorem received_any (u0 : Nat → S3) (Aw : Option Addr) (n0 c0 : Nat) (s : IB) (t : TX) (At : Option Addr) (nt ct : Nat) (w : World) (h : IV w u0 Aw n0 c0 s) (hv : TOV w (.slice At nt ct) t.ops) (hnt : nt = t.ops.length) (hf : FitI s) (ht : FitT t) :
    Calls Try.prog 10 #[.agg (icells u0 ⟨Aw, n0, c0⟩), .agg (tcs t (.slice At nt ct))] w fun e w' => ∃ u' s', e = .returned (.agg (icells u' s')) ∧ ((u' = u0 ∧ s' = ⟨Aw, n0, c0⟩ ∧ rcd s t = s) ∨ (LN w' w.heap.size u' (rcd s t).1 ∧ XN w' w.heap.size s'.v (rcd s t).2)) ∧ Gr w w' := by
  obtain ⟨W, hW, hg, hsz, hI, hX, hZ⟩ := boxesHo u0 ⟨Aw, n0, c0⟩ t (.slice At nt ct) w
  have HI := Lib.hid hI
  have HX := Lib.hid hX
  have HZ := Lib.hid hZ
  have HG := Lib.hid hg
  have HSZ := Lib.hid hsz
  have HBS : Hid (w.heap.size ≤ W.heap.size) := Lib.hid hg.size
  have HCP := Lib.hid (fun w1 (g : Gr W w1) => rcopy8_form t At nt ct hnt w1 ((hv.gr hg).gr g) ht.2.1)
  obtain ⟨R0, hR0⟩ : ∃ R, R = recvR s t := ⟨_, rfl⟩
  have HRC := Lib.hid (fun w1 (g : Gr W w1) (x : Option Addr) (c : Nat) (hx : TOV w1 (.slice x nt c) t.ops) => receive_any u0 Aw n0 c0 s.1 s.2 t x nt c w1 ((h.lv.gr hg).gr g) ((h.xv.gr hg).gr g) h.ln hx hf.fc hf.ft ht (by rw [h.ln]; exact hf.le))
  have HRE : Hid (R0 = recvR s t) := Lib.hid hR0
  have e0 : recvR (s.1, s.2) t = R0 := hR0.symm
  rw [e0] at HRC
  obtain ⟨r, d, er⟩ := R0
  clear hI hX hZ hg hsz h hv hnt hf ht hR0 e0
  go_enter Try.func10, Try.ntmps10
  go_upto_region 1 with (fail)
  rw [← hW]
  clear hW
  refine wp_region_noPanic ?_
  refine iRegionA (RI btI W (fun k => ((SIr (w.heap.size) u0 ⟨Aw, n0, c0⟩ t (.slice At nt ct) nt r d er) k).P) [(8, 9, 5)] (fun _ => 35) (fun _ => zic)) (by kernel_rfl) (by kernel_rfl) (ri_start (fun k y wA wB => ((SIr (w.heap.size) u0 ⟨Aw, n0, c0⟩ t (.slice At nt ct) nt r d er) k).st y wA wB) (Gr.refl _)) ?_ ?_
  · intro i o ho vals wc A hI hn hdep hOld hNew
    have hi : i < 12 := (List.getElem?_eq_some_iff.1 ho).1
    have q := (HI.out.gr hI.gr).all
    have b0 := q.1
    have b1 := q.2.1
    have b2 := q.2.2.1
    have b3 := q.2.2.2.1
    have b4 := q.2.2.2.2.1
    have b5 := q.2.2.2.2.2.1
    have b6 := q.2.2.2.2.2.2.1
    have b7 := q.2.2.2.2.2.2.2.1
    have b8 := q.2.2.2.2.2.2.2.2
    obtain ⟨x0, x1, x2, x3, x4, x5, x6, x7, x8, x9, x10, x11⟩ := HX.out.gr hI.gr
    clear q
    have eo2 : A.tmps[2]?.getD undef = .pointer (some ⟨w.heap.size, 0, none⟩) := slotE (hOld 2 (by kernel_rfl))
    have eo3 : A.tmps[3]?.getD undef = .pointer (some ⟨w.heap.size + 1, 0, none⟩) := slotE (hOld 3 (by kernel_rfl))
    obtain rfl | rfl | rfl | rfl | rfl | rfl | rfl | rfl | rfl | rfl | rfl | rfl : i = 0 ∨ i = 1 ∨ i = 2 ∨ i = 3 ∨ i = 4 ∨ i = 5 ∨ i = 6 ∨ i = 7 ∨ i = 8 ∨ i = 9 ∨ i = 10 ∨ i = 11 := by omega
    · obtain rfl := Option.some.inj (show some _ = some o from ho)
      refine aVal rfl rfl (v := .agg (icells u0 ⟨Aw, n0, c0⟩)) (w' := wc) ?_ ⟨_, rfl, hI.val hn (by decide) (rfl)⟩
      go_simp
    · obtain rfl := Option.some.inj (show some _ = some o from ho)
      refine aVal rfl rfl (v := .agg (tcs t (.slice At nt ct))) (w' := wc) ?_ ⟨_, rfl, hI.val hn (by decide) (rfl)⟩
      go_simp
    · obtain rfl := Option.some.inj (show some _ = some o from ho)
      obtain ⟨y1, hy1⟩ := hdep ⟨1, .data⟩ (by simp) rfl
      obtain rfl : y1 = .agg (tcs t (.slice At nt ct)) := hI.ok 1 y1 hy1
      have s1 := slotE (hNew 1 10 _ _ rfl rfl (by kernel_rfl) hy1)
      refine aCall rfl rfl (w1 := wc) ?_ ((HCP.out wc hI.gr).mono fun e w' ⟨ta, tc, he, ho, hg⟩ => ⟨_, he, _, rfl, (hI.next hg).val hn (by decide) (⟨ta, tc, rfl, ho.le (Nat.le_trans HBS.out hI.gr.size)⟩)⟩)
      go_simp
    · obtain rfl := Option.some.inj (show some _ = some o from ho)
      obtain ⟨y0, hy0⟩ := hdep ⟨0, .data⟩ (by simp) rfl
      obtain rfl : y0 = .agg (icells u0 ⟨Aw, n0, c0⟩) := hI.ok 0 y0 hy0
      have s0 := slotE (hNew 0 9 _ _ rfl rfl (by kernel_rfl) hy0)
      obtain ⟨y2, hy2⟩ := hdep ⟨2, .data⟩ (by simp) rfl
      obtain ⟨ta2, tc2, rfl, hl2⟩ : ∃ x c, y2 = .agg (tcs t (.slice x nt c)) ∧ TOO wc w.heap.size (.slice x nt c) t.ops := hI.ok 2 y2 hy2
      have s2 := slotE (hNew 2 11 _ _ rfl rfl (by kernel_rfl) hy2)
      refine aCall rfl rfl (w1 := wc) ?_ ((HRC.out wc hI.gr ta2 tc2 hl2.tov).mono fun e w' ⟨ur, sr, he, h1, h2, hg⟩ => ⟨_, he, _, rfl, (hI.next hg).val hn (by decide) (⟨ur, sr, rfl, h1.le (Nat.le_trans HBS.out hI.gr.size), h2.le (Nat.le_trans HBS.out hI.gr.size)⟩)⟩)
      go_simp
    · obtain rfl := Option.some.inj (show some _ = some o from ho)
      obtain ⟨y3, hy3⟩ := hdep ⟨3, .data⟩ (by simp) rfl
      obtain ⟨u3, ⟨sa3, sn3, sc3⟩, rfl, hl3⟩ : ∃ u s, y3 = .tuple #[.agg (icells u s), .int .i64 d, .int .i64 (er : Int)] ∧ LN wc w.heap.size u r.1 ∧ XN wc w.heap.size s.v r.2 := hI.ok 3 y3 hy3
      have s3 := slotE (hNew 3 12 _ _ rfl rfl (by kernel_rfl) hy3)
      refine aVal rfl rfl (v := .tuple #[.agg (icells u3 ⟨sa3, sn3, sc3⟩), .int .i64 d, .int .i64 (er : Int)]) (w' := wc) ?_ ⟨_, rfl, hI.val hn (by decide) (⟨u3, ⟨sa3, sn3, sc3⟩, rfl, hl3⟩)⟩
      go_simp
    · obtain rfl := Option.some.inj (show some _ = some o from ho)
      obtain ⟨y4, hy4⟩ := hdep ⟨4, .data⟩ (by simp) rfl
      obtain ⟨u4, ⟨sa4, sn4, sc4⟩, rfl, hl4⟩ : ∃ u s, y4 = .tuple #[.agg (icells u s), .int .i64 d, .int .i64 (er : Int)] ∧ LN wc w.heap.size u r.1 ∧ XN wc w.heap.size s.v r.2 := hI.ok 4 y4 hy4
      have s4 := slotE (hNew 4 8 _ _ rfl rfl (by kernel_rfl) hy4)
      refine aVal rfl rfl (v := .agg (icells u4 ⟨sa4, sn4, sc4⟩)) (w' := wc) ?_ ⟨_, rfl, hI.val hn (by decide) (⟨u4, ⟨sa4, sn4, sc4⟩, rfl, hl4⟩)⟩
      go_simp
    · obtain rfl := Option.some.inj (show some _ = some o from ho)
      obtain ⟨y4, hy4⟩ := hdep ⟨4, .data⟩ (by simp) rfl
      obtain ⟨u4, ⟨sa4, sn4, sc4⟩, rfl, hl4⟩ : ∃ u s, y4 = .tuple #[.agg (icells u s), .int .i64 d, .int .i64 (er : Int)] ∧ LN wc w.heap.size u r.1 ∧ XN wc w.heap.size s.v r.2 := hI.ok 4 y4 hy4
      have s4 := slotE (hNew 4 8 _ _ rfl rfl (by kernel_rfl) hy4)
      refine aVal rfl rfl (v := .int .i64 d) (w' := wc) ?_ ⟨_, rfl, hI.val hn (by decide) (rfl)⟩
      go_simp
    · obtain rfl := Option.some.inj (show some _ = some o from ho)
      obtain ⟨y4, hy4⟩ := hdep ⟨4, .data⟩ (by simp) rfl
      obtain ⟨u4, ⟨sa4, sn4, sc4⟩, rfl, hl4⟩ : ∃ u s, y4 = .tuple #[.agg (icells u s), .int .i64 d, .int .i64 (er : Int)] ∧ LN wc w.heap.size u r.1 ∧ XN wc w.heap.size s.v r.2 := hI.ok 4 y4 hy4
      have s4 := slotE (hNew 4 8 _ _ rfl rfl (by kernel_rfl) hy4)
      refine aVal rfl rfl (v := .int .i64 (er : Int)) (w' := wc) ?_ ⟨_, rfl, hI.val hn (by decide) (rfl)⟩
      go_simp
    · obtain rfl := Option.some.inj (show some _ = some o from ho)
      refine aVal rfl rfl (v := .pointer (some ⟨wc.heap.size, 0, none⟩)) (w' := wc.alloc (.cells (zic) 35)) ?_ ⟨_, rfl, hI.new hn (by decide) rfl rfl (fun _ _ => trivial)⟩
      go_simp
    · obtain rfl := Option.some.inj (show some _ = some o from ho)
      obtain ⟨y8, hy8⟩ := hdep ⟨8, .data⟩ (by simp) rfl
      obtain ⟨P, rfl, hP1, hP2⟩ := hI.at_new (a := 8) (k := 9) (s := 5) (by decide) hn hy8
      have s8 := slotE (hNew 8 5 _ _ rfl rfl (by kernel_rfl) hy8)
      obtain ⟨y5, hy5⟩ := hdep ⟨5, .data⟩ (by simp) rfl
      obtain ⟨u5, ⟨sa5, sn5, sc5⟩, rfl, hl5⟩ : ∃ u s, y5 = .agg (icells u s) ∧ LN wc w.heap.size u r.1 ∧ XN wc w.heap.size s.v r.2 := hI.ok 5 y5 hy5
      have s5 := slotE (hNew 5 13 _ _ rfl rfl (by kernel_rfl) hy5)
      have z0 : wc.cell? ⟨P, 0, none⟩ = some (.slice none 0 0) := by rw [cell_of_block hP2]; rfl
      have k0 := unfrozen_of_block hP2 0
      have z1 : wc.cell? ⟨P, 1, none⟩ = some (.slice none 0 0) := by rw [cell_of_block hP2]; rfl
      have k1 := unfrozen_of_block hP2 1
      have z2 : wc.cell? ⟨P, 2, none⟩ = some (.slice none 0 0) := by rw [cell_of_block hP2]; rfl
      have k2 := unfrozen_of_block hP2 2
      have z3 : wc.cell? ⟨P, 3, none⟩ = some (.slice none 0 0) := by rw [cell_of_block hP2]; rfl
      have k3 := unfrozen_of_block hP2 3
      have z4 : wc.cell? ⟨P, 4, none⟩ = some (.slice none 0 0) := by rw [cell_of_block hP2]; rfl
      have k4 := unfrozen_of_block hP2 4
      have z5 : wc.cell? ⟨P, 5, none⟩ = some (.slice none 0 0) := by rw [cell_of_block hP2]; rfl
      have k5 := unfrozen_of_block hP2 5
      have z6 : wc.cell? ⟨P, 6, none⟩ = some (.slice none 0 0) := by rw [cell_of_block hP2]; rfl
      have k6 := unfrozen_of_block hP2 6
      have z7 : wc.cell? ⟨P, 7, none⟩ = some (.slice none 0 0) := by rw [cell_of_block hP2]; rfl
      have k7 := unfrozen_of_block hP2 7
      have z8 : wc.cell? ⟨P, 8, none⟩ = some (.slice none 0 0) := by rw [cell_of_block hP2]; rfl
      have k8 := unfrozen_of_block hP2 8
      have hz := hP2
      refine aSkip rfl rfl (w' := putCells wc P 0 (icells u5 ⟨sa5, sn5, sc5⟩ : Array Value).toList) ?_ ⟨_, rfl, hI.putA (a := 8) (k := 9) (s := 5) (c := icells u5 ⟨sa5, sn5, sc5⟩) (by decide) hn (by decide) (by decide) (by decide) hy8 hy5 rfl (fun _ => trivial)⟩
      clear hz hI hP2
      go_simp
      rfl
    · obtain rfl := Option.some.inj (show some _ = some o from ho)
      obtain ⟨y6, hy6⟩ := hdep ⟨6, .data⟩ (by simp) rfl
      obtain rfl : y6 = .int .i64 d := hI.ok 6 y6 hy6
      have s6 := slotE (hNew 6 14 _ _ rfl rfl (by kernel_rfl) hy6)
      refine aVal rfl rfl (v := .int .i64 d) (w' := wc) ?_ ⟨_, rfl, hI.val hn (by decide) (rfl)⟩
      go_simp
    · obtain rfl := Option.some.inj (show some _ = some o from ho)
      obtain ⟨y7, hy7⟩ := hdep ⟨7, .data⟩ (by simp) rfl
      obtain rfl : y7 = .int .i64 (er : Int) := hI.ok 7 y7 hy7
      have s7 := slotE (hNew 7 15 _ _ rfl rfl (by kernel_rfl) hy7)
      refine aVal rfl rfl (v := .int .i64 (er : Int)) (w' := wc) ?_ ⟨_, rfl, hI.val hn (by decide) (rfl)⟩
      go_simp
  · intro vals wc hall hI
    refine NoPanic.normal ?_
    obtain ⟨y0, hy0⟩ := hall 0 (by decide)
    obtain ⟨y1, hy1⟩ := hall 1 (by decide)
    obtain ⟨y2, hy2⟩ := hall 2 (by decide)
    obtain ⟨y3, hy3⟩ := hall 3 (by decide)
    obtain ⟨y4, hy4⟩ := hall 4 (by decide)
    obtain ⟨y5, hy5⟩ := hall 5 (by decide)
    obtain ⟨y6, hy6⟩ := hall 6 (by decide)
    obtain ⟨y7, hy7⟩ := hall 7 (by decide)
    obtain ⟨y8, hy8⟩ := hall 8 (by decide)
    obtain ⟨y9, hy9⟩ := hall 9 (by decide)
    obtain ⟨y10, hy10⟩ := hall 10 (by decide)
    obtain ⟨y11, hy11⟩ := hall 11 (by decide)
    have hP := hI.at_full (a := 8) (k := 9) (s := 5) (by decide) hy9 hy5 hy8
    obtain ⟨u5, ⟨sa5, sn5, sc5⟩, rfl, hl5⟩ : ∃ u s, y5 = .agg (icells u s) ∧ LN wc (w.heap.size) u r.1 ∧ XN wc (w.heap.size) s.v r.2 := hI.ok 5 y5 hy5
    obtain ⟨P5, rfl, hP5, hb5⟩ := hP
    obtain rfl : y10 = .int .i64 d := hI.ok 10 y10 hy10
    obtain rfl : y11 = .int .i64 (er : Int) := hI.ok 11 y11 hy11
    have HB5 : Hid (IBox wc P5 u5 ⟨sa5, sn5, sc5⟩) := Lib.hid ⟨hb5⟩
    have HL5 := Lib.hid hl5
    have HGC := Lib.hid hI.gr
    have HP5 := Lib.hid hP5
    clear hb5 hl5 hP5
    simp only [putAll, putV, hy0, hy1, hy2, hy3, hy4, hy5, hy6, hy7, hy8, hy9, hy10, hy11]
    clear hI hall hy0 hy1 hy2 hy3 hy4 hy5 hy6 hy7 hy8 hy9 hy10 hy11
    simp only [Act.put, List.setIfInBounds_toArray, List.set_cons_zero, List.set_cons_succ]
    have HZC := Lib.hid (HZ.out.gr HGC.out)
    have HI2 := Lib.hid (HI.out.gr HGC.out)
    have HN5 : Hid (P5 ≠ w.heap.size + 1 + 1) := Lib.hid (by have := HP5.out; have := HSZ.out; omega)
    clear HI HX
    by_cases h0 : er = 0
    · subst h0
      have HRD : Hid (rcd s t = r) := Lib.hid (by unfold rcd; rw [← HRE.out]; rfl)
      obtain ⟨q0, q1, q2, q3, q4, q5, q6, q7, q8⟩ := HB5.out.all
      have HFIN : Hid (LN (putI wc (w.heap.size + 1 + 1) u5 ⟨sa5, sn5, sc5⟩) w.heap.size u5 r.1 ∧ XN (putI wc (w.heap.size + 1 + 1) u5 ⟨sa5, sn5, sc5⟩) w.heap.size (S3.v ⟨sa5, sn5, sc5⟩) r.2 ∧ Gr w (putI wc (w.heap.size + 1 + 1) u5 ⟨sa5, sn5, sc5⟩)) := Lib.hid
        ⟨HL5.out.1.kpI HZC.out (putI_kp _ _ _ _), XN.kpI HL5.out.2 HZC.out (putI_kp _ _ _ _), putI_gr (HG.out.trans HGC.out) (show w.heap.size ≤ w.heap.size + 1 + 1 by omega) _ _⟩
      obtain ⟨z0, z1, z2, z3, z4, z5, z6, z7, z8⟩ := HZC.out.zero
      obtain ⟨f0, f1, f2, f3, f4, f5, f6, f7, f8⟩ := HZC.out.fz
      go_wp2_with fail
      refine bodyPost_ret (v := .agg (icells u5 ⟨sa5, sn5, sc5⟩)) (by simp [results, Try.results10, go_sem, z0, z1, z2, z3, z4, z5, z6, z7, z8]) rfl ?_
      refine ⟨u5, ⟨sa5, sn5, sc5⟩, rfl, .inr ?_, HFIN.out.2.2⟩
      rw [HRD.out]
      exact ⟨HFIN.out.1, HFIN.out.2.1⟩
    · have HRD : Hid (rcd s t = s) := Lib.hid (by unfold rcd; rw [← HRE.out]; exact if_neg h0)
      have hb0 : ((er : Int) != 0) = true := by simpa using h0
      have hd0 : ¬ (er : Int) = 0 := by omega
      obtain ⟨q0, q1, q2, q3, q4, q5, q6, q7, q8⟩ := HI2.out.all
      have HFIN : Hid (Gr w (putI wc (w.heap.size + 1 + 1) u0 ⟨Aw, n0, c0⟩)) := Lib.hid (putI_gr (HG.out.trans HGC.out) (show w.heap.size ≤ w.heap.size + 1 + 1 by omega) _ _)
      obtain ⟨z0, z1, z2, z3, z4, z5, z6, z7, z8⟩ := HZC.out.zero
      obtain ⟨f0, f1, f2, f3, f4, f5, f6, f7, f8⟩ := HZC.out.fz
      clear h0
      go_wp2_with fail
      refine bodyPost_ret (v := .agg (icells u0 ⟨Aw, n0, c0⟩)) (by simp [results, Try.results10, go_sem, z0, z1, z2, z3, z4, z5, z6, z7, z8]) rfl ?_
      exact ⟨u0, ⟨Aw, n0, c0⟩, rfl, .inl ⟨rfl, rfl, HRD.out⟩, HFIN.out⟩

def sameIB (a b : IB) : Bool := sameLG a.1 b.1 && sameL a.2 b.2
theorem boxesII (u v : Nat → S3) (s r : S3) (w : World) : ∃ W, W = (w.alloc (.cells (icells u s) 35)).alloc (.cells (icells v r) 35) ∧ Gr w W ∧ IBox W w.heap.size u s ∧ IBox W (w.heap.size + 1) v r := by
  obtain ⟨W1, hW1, hg1, hs1, hI1⟩ := ibox_new w u s
  obtain ⟨W2, hW2, hg2, hs2, hI2⟩ := ibox_new W1 v r
  rw [hs1] at hI2
  exact ⟨W2, by rw [hW2, hW1], hg1.trans hg2, hI1.gr hg2, hI2⟩
set_option maxRecDepth 100000 in
set_option maxHeartbeats 4000000 in
theorem rsame13_any (u v : Nat → S3) (A1 A2 : Option Addr) (n1 c1 n2 c2 : Nat) (a b : IB) (w : World) (ha : IV w u A1 n1 c1 a) (hb : IV w v A2 n2 c2 b) :
    Calls Try.prog 15 #[.agg (icells u ⟨A1, n1, c1⟩), .agg (icells v ⟨A2, n2, c2⟩)] w fun e w' => e = .returned (.bool (sameIB a b)) ∧ Gr w w' := by
  obtain ⟨W, hW, hg, hI1, hI2⟩ := boxesII u v ⟨A1, n1, c1⟩ ⟨A2, n2, c2⟩ w
  have HG := Lib.hid hg
  have HI1 := Lib.hid hI1
  have HI2 := Lib.hid hI2
  obtain ⟨r1, hr1⟩ : ∃ r, r = sameLG a.1 b.1 := ⟨_, rfl⟩
  obtain ⟨r2, hr2⟩ : ∃ r, r = sameL a.2 b.2 := ⟨_, rfl⟩
  have HS1 := Lib.hid (rsame9_any u v a.1 b.1 W (ha.lv.gr hg) (hb.lv.gr hg))
  have HS2 := Lib.hid (fun w1 (g : Gr W w1) => rsameL_any _ _ a.2 b.2 w1 ((ha.xv.gr hg).gr g) ((hb.xv.gr hg).gr g))
  have HE : Hid (sameIB a b = (r1 && r2)) := Lib.hid (by unfold sameIB; rw [hr1, hr2])
  rw [← hr1] at HS1
  rw [← hr2] at HS2
  obtain ⟨p0, p1, p2, p3, p4, p5, p6, p7, p8⟩ := hI1.all
  obtain ⟨q0, q1, q2, q3, q4, q5, q6, q7, q8⟩ := hI2.all
  clear hg hI1 hI2 hr1 hr2 ha hb
  go_enter Try.func15, Try.ntmps15
  go_upto_region 1 with (fail)
  rw [← hW]
  clear hW
  go_wp2_with fail
  refine HS1.out.mono ?_
  rintro e w1 ⟨rfl, g1⟩
  have HG1 := Lib.hid g1
  clear p0 p1 p2 p3 p4 p5 p6 p7 p8 q0 q1 q2 q3 q4 q5 q6 q7 q8
  have p8 := (HI1.out.gr g1).all.2.2.2.2.2.2.2.2
  have q8 := (HI2.out.gr g1).all.2.2.2.2.2.2.2.2
  clear g1
  rcases r1 with _ | _
  · go_wp2_with fail
    go_ret
    exact ⟨by rw [HE.out]; rfl, HG.out.trans HG1.out⟩
  · go_wp2_with fail
    refine (HS2.out w1 HG1.out).mono ?_
    rintro e w2 ⟨rfl, g2⟩
    have HG2 := Lib.hid g2
    clear g2
    go_wp2_with fail
    go_ret
    exact ⟨by rw [HE.out]; rfl, (HG.out.trans HG1.out).trans HG2.out⟩
end Go.Proofs.Ytjpiemgpbakfaaa
