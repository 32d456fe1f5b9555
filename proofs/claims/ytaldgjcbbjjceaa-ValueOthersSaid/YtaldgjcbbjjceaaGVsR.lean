/- The law ValueOthers. Written by wip/tools/genothers.py. -/
import Derived.Test.YtaldgjcbbjjceaaGVsP
import Derived.Test.YtaldgjcbbjjceaaGVsQ
import Derived.Test.YtaldgjcbbjjceaaGVsSame
import Derived.Test.YtaldgjcbbjjceaaG09
namespace Go.Proofs.Ytaldgjcbbjjceaa
open Go.RowKit Go.Joins
set_option linter.unusedSimpArgs false
set_option linter.unusedVariables false

theorem wrapR_of {n : Int} (h : -9223372036854775808 ≤ n ∧ n ≤ 9223372036854775807) : wrap64 n = n := by
  unfold wrap64
  omega
def S4v3 (B : Nat) (kind start : Int) (u : Nat → S3) (l : LG) (v : Nat → Nat) (key : ByteArray) (n : Int) (m : Nat) (E : List ByteArray) (on : Bool) (ce : Nat) : Nat → Spec
  | 0 => Spec.fix (.int .i64 kind)
  | 1 => Spec.fix (.int .i64 start)
  | 2 => Spec.fix (.agg (lcells u))
  | 3 => Spec.logs (B) (l)
  | 4 => Spec.fix (.agg (vcells v))
  | 5 => Spec.fix (.string key)
  | 6 => Spec.valE (B) (n) (m) (E) (on) (ce)
  | 7 => Spec.valE (B) (n) (m) (E) (on) (ce)
  | 8 => Spec.val (B) (n) (m) (E) (on)
  | 9 => Spec.fix (.int .i64 (ce : Int))
  | 12 => Spec.fix (.int .i64 (ce : Int))
  | _ => Spec.any
def S4v6 (B : Nat) (kind start : Int) (u : Nat → S3) (l : LG) (v : Nat → Nat) (key : ByteArray) (n : Int) (m : Nat) (E : List ByteArray) (on : Bool) (ce : Nat) : Nat → Spec
  | 0 => Spec.fix (.int .i64 kind)
  | 1 => Spec.fix (.int .i64 start)
  | 2 => Spec.fix (.agg (lcells u))
  | 3 => Spec.fix (.string key)
  | 4 => Spec.logs (B) (alL key l)
  | 5 => Spec.fix (.agg (vcells v))
  | 6 => Spec.fix (.string key)
  | 7 => Spec.valE (B) (n) (m) (E) (on) (ce)
  | 8 => Spec.valE (B) (n) (m) (E) (on) (ce)
  | 9 => Spec.val (B) (n) (m) (E) (on)
  | 10 => Spec.fix (.int .i64 (ce : Int))
  | 13 => Spec.fix (.int .i64 (ce : Int))
  | _ => Spec.any

set_option maxRecDepth 100000 in
set_option maxHeartbeats 8000000 in
theorem others10_law (kind start : Int) (u : Nat → S3) (l : LG) (v : Nat → Nat) (key : ByteArray) (w : World) (h : LV w u l) (hf : FitL l) (hst : wrap64 start = start) :
    Calls Try.prog 4 #[.int .i64 kind, .int .i64 start, .agg (lcells u), .agg (vcells v), .string key] w fun e w' => e = .returned (.bool true) ∧ Gr w w' := by
  obtain ⟨W, hW, hg, hsz, hL, hV⟩ := boxesLV u v w
  have HL := Lib.hid hL
  have HV := Lib.hid hV
  have HG := Lib.hid hg
  have HCP := Lib.hid (fun w1 (g : Gr w w1) => rcopy9_any u l w1 (h.gr g) hf.c)
  have HAL := Lib.hid (fun w1 (g : Gr w w1) => alone_any u l key w1 (h.gr g) hf.c)
  have HVA := Lib.hid (fun u2 w1 (k : LV w1 u2 l) => (value_any kind start u2 l v key w1 k hf.q hst).mono fun e w' h => h.form)
  have HVB := Lib.hid (fun (hz : valE kind l v = 0) u2 w1 (k : LV w1 u2 (alL key l)) => (value_any kind start u2 (alL key l) v key w1 k (fitQ_al hf.q) hst).mono fun e w' h => h.form)
  obtain ⟨r, hr⟩ : ∃ r, r = valV kind start l v key := ⟨_, rfl⟩
  obtain ⟨ce, hce⟩ : ∃ c, c = valE kind l v := ⟨_, rfl⟩
  have HVB : Hid (ce = 0 → ∀ u2 w1, LV w1 u2 (alL key l) → Calls Try.prog 12 #[.int .i64 kind, .int .i64 start, .agg (lcells u2), .agg (vcells v), .string key] w1 fun e w' => ∃ A c, e = .returned (.tuple #[.agg #[.int .i64 r.n, .slice A r.e.length c, .bool r.on], .int .i64 ((0 : Nat) : Int)]) ∧ SO w' w1.heap.size (.slice A r.e.length c) r.e ∧ Gr w1 w') := Lib.hid (fun hz u2 w1 k => by
    have hz1 : valE kind l v = 0 := by rw [← hce]; exact hz
    have := HVB.out hz1 u2 w1 k
    rw [valV_al hz1, valE_al hz1, ← hr] at this
    exact this)
  rw [← hr, ← hce] at HVA
  obtain ⟨E, hE⟩ : ∃ E, E = r.e := ⟨_, rfl⟩
  obtain ⟨n, hn⟩ : ∃ n, n = r.n := ⟨_, rfl⟩
  obtain ⟨on, hon⟩ : ∃ x, x = r.on := ⟨_, rfl⟩
  rw [← hE, ← hn, ← hon] at HVA HVB
  obtain ⟨m, hm⟩ : ∃ m, m = E.length := ⟨_, rfl⟩
  rw [← hm] at HVA HVB
  have HM := Lib.hid hm
  clear h hf hL hV hg hsz hr hce hE hn hon hm hst
  go_enter Try.func4, Try.ntmps4
  go_upto_region 1 with (fail)
  rw [← hW]
  clear hW
  go_wp2_with fail
  refine (awake10_any W).mono ?_
  rintro e w1 ⟨rfl, g1⟩
  have HG1 := Lib.hid (HG.out.trans g1)
  have HL1 := Lib.hid (HL.out.gr g1)
  have HV1 := Lib.hid (HV.out.gr g1)
  clear g1
  go_upto_region 3 with (fail)
  go_cut [11, 12] (fun sa sb wx => ∃ P A c, sa = .pointer (some ⟨P, 0, none⟩) ∧ sb = .int .i64 (ce : Int) ∧ Hid (wx.heap[P]? = some (.cells #[.int .i64 n, .slice A m c, .bool on] 32 (0, 0)) ∧ SO wx w1.heap.size (.slice A m c) E ∧ Gr w1 wx))
  case first =>
    refine wp_region_noPanic ?_
    refine iRegionA (RI btV w1 (fun k => ((S4v3 w1.heap.size kind start u l v key n m E on ce) k).P) [(10, 11, 8)] (fun _ => 32) (fun _ => valv 0)) (by kernel_rfl) (by kernel_rfl) (ri_start (fun k y wA wB => ((S4v3 w1.heap.size kind start u l v key n m E on ce) k).st y wA wB) (Gr.refl _)) ?_ ?_
    · intro i o ho vals wc A hI hn hdep hOld hNew
      have hi : i < 13 := (List.getElem?_eq_some_iff.1 ho).1
      have hgc := HG1.out.trans hI.gr
      obtain ⟨l0, l1, l2, l3, l4, l5, l6, l7⟩ := (HL1.out.gr hI.gr).all
      obtain ⟨m0, m1, m2, m3, m4, m5, m6, m7⟩ := (HV1.out.gr hI.gr).all
      have eo0 : A.tmps[0]?.getD undef = .int .i64 kind := slotE (hOld 0 (by kernel_rfl))
      have eo1 : A.tmps[1]?.getD undef = .int .i64 start := slotE (hOld 1 (by kernel_rfl))
      have eo4 : A.tmps[4]?.getD undef = .string key := slotE (hOld 4 (by kernel_rfl))
      have eo7 : A.tmps[7]?.getD undef = .pointer (some ⟨w.heap.size, 0, none⟩) := slotE (hOld 7 (by kernel_rfl))
      have eo8 : A.tmps[8]?.getD undef = .pointer (some ⟨w.heap.size + 1, 0, none⟩) := slotE (hOld 8 (by kernel_rfl))
      obtain rfl | rfl | rfl | rfl | rfl | rfl | rfl | rfl | rfl | rfl | rfl | rfl | rfl : i = 0 ∨ i = 1 ∨ i = 2 ∨ i = 3 ∨ i = 4 ∨ i = 5 ∨ i = 6 ∨ i = 7 ∨ i = 8 ∨ i = 9 ∨ i = 10 ∨ i = 11 ∨ i = 12 := by omega
      · obtain rfl := Option.some.inj (show some _ = some o from ho)
        refine aVal rfl rfl (v := .int .i64 kind) (w' := wc) ?_ ⟨_, rfl, hI.val hn (by decide) (rfl)⟩
        go_simp
      · obtain rfl := Option.some.inj (show some _ = some o from ho)
        refine aVal rfl rfl (v := .int .i64 start) (w' := wc) ?_ ⟨_, rfl, hI.val hn (by decide) (rfl)⟩
        go_simp
      · obtain rfl := Option.some.inj (show some _ = some o from ho)
        refine aVal rfl rfl (v := .agg (lcells u)) (w' := wc) ?_ ⟨_, rfl, hI.val hn (by decide) (rfl)⟩
        go_simp
      · obtain rfl := Option.some.inj (show some _ = some o from ho)
        obtain ⟨y2, hy2⟩ := hdep ⟨2, .data⟩ (by simp) rfl
        obtain rfl : y2 = .agg (lcells u) := hI.ok 2 y2 hy2
        have s2 := slotE (hNew 2 20 _ _ rfl rfl (by kernel_rfl) hy2)
        refine aCall rfl rfl (w1 := wc) ?_ ((HCP.out wc hgc).mono fun e w' ⟨ux, he, hlx, hg⟩ => ⟨_, he, _, rfl, (hI.next hg).val hn (by decide) (⟨ux, rfl, hlx.le hI.gr.size⟩)⟩)
        go_simp
      · obtain rfl := Option.some.inj (show some _ = some o from ho)
        refine aVal rfl rfl (v := .agg (vcells v)) (w' := wc) ?_ ⟨_, rfl, hI.val hn (by decide) (rfl)⟩
        go_simp
      · obtain rfl := Option.some.inj (show some _ = some o from ho)
        refine aVal rfl rfl (v := .string key) (w' := wc) ?_ ⟨_, rfl, hI.val hn (by decide) (rfl)⟩
        go_simp
      · obtain rfl := Option.some.inj (show some _ = some o from ho)
        obtain ⟨y0, hy0⟩ := hdep ⟨0, .data⟩ (by simp) rfl
        obtain rfl : y0 = .int .i64 kind := hI.ok 0 y0 hy0
        have s0 := slotE (hNew 0 18 _ _ rfl rfl (by kernel_rfl) hy0)
        obtain ⟨y1, hy1⟩ := hdep ⟨1, .data⟩ (by simp) rfl
        obtain rfl : y1 = .int .i64 start := hI.ok 1 y1 hy1
        have s1 := slotE (hNew 1 19 _ _ rfl rfl (by kernel_rfl) hy1)
        obtain ⟨y3, hy3⟩ := hdep ⟨3, .data⟩ (by simp) rfl
        obtain ⟨u3, rfl, hl3⟩ : ∃ u, y3 = .agg (lcells u) ∧ LN wc (w1.heap.size) u (l) := hI.ok 3 y3 hy3
        have s3 := slotE (hNew 3 21 _ _ rfl rfl (by kernel_rfl) hy3)
        obtain ⟨y4, hy4⟩ := hdep ⟨4, .data⟩ (by simp) rfl
        obtain rfl : y4 = .agg (vcells v) := hI.ok 4 y4 hy4
        have s4 := slotE (hNew 4 22 _ _ rfl rfl (by kernel_rfl) hy4)
        obtain ⟨y5, hy5⟩ := hdep ⟨5, .data⟩ (by simp) rfl
        obtain rfl : y5 = .string key := hI.ok 5 y5 hy5
        have s5 := slotE (hNew 5 23 _ _ rfl rfl (by kernel_rfl) hy5)
        refine aCall rfl rfl (w1 := wc) ?_ ((HVA.out u3 wc hl3.lv).mono fun e w' ⟨Ax, cx, he, hso, hg⟩ => ⟨_, he, _, rfl, (hI.next hg).val hn (by decide) (⟨Ax, cx, rfl, own_le hso hI.gr.size⟩)⟩)
        go_simp
      · obtain rfl := Option.some.inj (show some _ = some o from ho)
        obtain ⟨y6, hy6⟩ := hdep ⟨6, .data⟩ (by simp) rfl
        obtain ⟨A6, c6, rfl, hl6⟩ : ∃ A c, y6 = .tuple #[.agg #[.int .i64 (n), .slice A (m) c, .bool (on)], .int .i64 ((ce : Nat) : Int)] ∧ SO wc (w1.heap.size) (.slice A (m) c) (E) := hI.ok 6 y6 hy6
        have s6 := slotE (hNew 6 24 _ _ rfl rfl (by kernel_rfl) hy6)
        refine aVal rfl rfl (v := .tuple #[.agg #[.int .i64 n, .slice A6 m c6, .bool on], .int .i64 ((ce : Nat) : Int)]) (w' := wc) ?_ ⟨_, rfl, hI.val hn (by decide) (⟨A6, c6, rfl, hl6⟩)⟩
        go_simp
      · obtain rfl := Option.some.inj (show some _ = some o from ho)
        obtain ⟨y7, hy7⟩ := hdep ⟨7, .data⟩ (by simp) rfl
        obtain ⟨A7, c7, rfl, hl7⟩ : ∃ A c, y7 = .tuple #[.agg #[.int .i64 (n), .slice A (m) c, .bool (on)], .int .i64 ((ce : Nat) : Int)] ∧ SO wc (w1.heap.size) (.slice A (m) c) (E) := hI.ok 7 y7 hy7
        have s7 := slotE (hNew 7 17 _ _ rfl rfl (by kernel_rfl) hy7)
        refine aVal rfl rfl (v := .agg #[.int .i64 n, .slice A7 m c7, .bool on]) (w' := wc) ?_ ⟨_, rfl, hI.val hn (by decide) (⟨A7, c7, rfl, hl7⟩)⟩
        go_simp
      · obtain rfl := Option.some.inj (show some _ = some o from ho)
        obtain ⟨y7, hy7⟩ := hdep ⟨7, .data⟩ (by simp) rfl
        obtain ⟨A7, c7, rfl, hl7⟩ : ∃ A c, y7 = .tuple #[.agg #[.int .i64 (n), .slice A (m) c, .bool (on)], .int .i64 ((ce : Nat) : Int)] ∧ SO wc (w1.heap.size) (.slice A (m) c) (E) := hI.ok 7 y7 hy7
        have s7 := slotE (hNew 7 17 _ _ rfl rfl (by kernel_rfl) hy7)
        refine aVal rfl rfl (v := .int .i64 (ce : Int)) (w' := wc) ?_ ⟨_, rfl, hI.val hn (by decide) (rfl)⟩
        go_simp
      · obtain rfl := Option.some.inj (show some _ = some o from ho)
        refine aVal rfl rfl (v := .pointer (some ⟨wc.heap.size, 0, none⟩)) (w' := wc.alloc (.cells (valv 0) 32)) ?_ ⟨_, rfl, hI.new hn (by decide) rfl rfl (fun _ _ => trivial)⟩
        go_simp
      · obtain rfl := Option.some.inj (show some _ = some o from ho)
        obtain ⟨y10, hy10⟩ := hdep ⟨10, .data⟩ (by simp) rfl
        obtain ⟨P, rfl, hP1, hP2⟩ := hI.at_new (a := 10) (k := 11) (s := 8) (by decide) hn hy10
        have s10 := slotE (hNew 10 11 _ _ rfl rfl (by kernel_rfl) hy10)
        obtain ⟨y8, hy8⟩ := hdep ⟨8, .data⟩ (by simp) rfl
        obtain ⟨A8, c8, rfl, hl8⟩ : ∃ A c, y8 = .agg #[.int .i64 (n), .slice A (m) c, .bool (on)] ∧ SO wc (w1.heap.size) (.slice A (m) c) (E) := hI.ok 8 y8 hy8
        have s8 := slotE (hNew 8 25 _ _ rfl rfl (by kernel_rfl) hy8)
        have z0 : wc.cell? ⟨P, 0, none⟩ = some (.int .i64 0) := by rw [cell_of_block hP2]; rfl
        have k0 := unfrozen_of_block hP2 0
        have z1 : wc.cell? ⟨P, 1, none⟩ = some (.slice none 0 0) := by rw [cell_of_block hP2]; rfl
        have k1 := unfrozen_of_block hP2 1
        have z2 : wc.cell? ⟨P, 2, none⟩ = some (.bool false) := by rw [cell_of_block hP2]; rfl
        have k2 := unfrozen_of_block hP2 2
        have hz := hP2
        refine aSkip rfl rfl (w' := putCells wc P 0 (#[.int .i64 (n), .slice A8 (m) c8, .bool (on)] : Array Value).toList) ?_ ⟨_, rfl, hI.putA (a := 10) (k := 11) (s := 8) (c := #[.int .i64 (n), .slice A8 (m) c8, .bool (on)]) (by decide) hn (by decide) (by decide) (by decide) hy10 hy8 rfl (fun _ => trivial)⟩
        clear hz hI hP2
        go_simp
        rfl
      · obtain rfl := Option.some.inj (show some _ = some o from ho)
        obtain ⟨y9, hy9⟩ := hdep ⟨9, .data⟩ (by simp) rfl
        obtain rfl : y9 = .int .i64 (ce : Int) := hI.ok 9 y9 hy9
        have s9 := slotE (hNew 9 26 _ _ rfl rfl (by kernel_rfl) hy9)
        refine aVal rfl rfl (v := .int .i64 (ce : Int)) (w' := wc) ?_ ⟨_, rfl, hI.val hn (by decide) (rfl)⟩
        go_simp
    · intro vals wc hall hI
      refine NoPanic.normal ?_
      obtain ⟨y0, hy0⟩ := hall 0 (by decide)
      obtain ⟨y1, hy1⟩ := hall 1 (by decide)
      obtain ⟨y2, hy2⟩ := hall 2 (by decide)
      obtain ⟨y3, hy3⟩ := hall 3 (by decide)
      obtain ⟨y4, hy4⟩ := hall 4 (by decide)
      obtain ⟨y5, hy5⟩ := hall 5 (by decide)
      obtain ⟨y6, hy6⟩ := hall 6 (by decide)
      obtain ⟨y7, hy7⟩ := hall 7 (by decide)
      obtain ⟨y8, hy8⟩ := hall 8 (by decide)
      obtain ⟨y9, hy9⟩ := hall 9 (by decide)
      obtain ⟨y10, hy10⟩ := hall 10 (by decide)
      obtain ⟨y11, hy11⟩ := hall 11 (by decide)
      obtain ⟨y12, hy12⟩ := hall 12 (by decide)
      have hP := hI.at_full (a := 10) (k := 11) (s := 8) (by decide) hy11 hy8 hy10
      obtain ⟨A7, c7, rfl, hl7⟩ : ∃ A c, y8 = .agg #[.int .i64 n, .slice A m c, .bool on] ∧ SO wc w1.heap.size (.slice A m c) E := hI.ok 8 y8 hy8
      obtain ⟨P, rfl, -, hbP⟩ := hP
      obtain rfl : y12 = .int .i64 (ce : Int) := hI.ok 12 y12 hy12
      have HBP : Hid (wc.heap[P]? = some (.cells #[.int .i64 n, .slice A7 m c7, .bool on] 32 (0, 0))) := Lib.hid hbP
      have HSO := Lib.hid hl7
      have HGC := Lib.hid hI.gr
      clear hbP hl7
      simp only [putAll, putV, hy0, hy1, hy2, hy3, hy4, hy5, hy6, hy7, hy8, hy9, hy10, hy11, hy12]
      clear hI hall hy0 hy1 hy2 hy3 hy4 hy5 hy6 hy7 hy8 hy9 hy10 hy11 hy12
      simp only [Act.put, List.setIfInBounds_toArray, List.set_cons_zero, List.set_cons_succ]
      go_wp2_with fail
      go_meet
      exact ⟨P, A7, c7, rfl, rfl, Lib.hid ⟨HBP.out, HSO.out, HGC.out⟩⟩
  case rest =>
    obtain ⟨P, A, c, rfl, rfl, hst⟩ := hcut
    rename World => w2
    have HB2 := Lib.hid hst.out.1
    have HS2 := Lib.hid hst.out.2.1
    have HG2 := Lib.hid (HG1.out.trans hst.out.2.2)
    have HL2 := Lib.hid (HL1.out.gr hst.out.2.2)
    have HV2 := Lib.hid (HV1.out.gr hst.out.2.2)
    clear hst
    by_cases hz0 : ce = 0
    case neg =>
      have hn1 : ¬ ((ce : Int) = 0) := by omega
      have hn2 : ((ce : Int) == 0) = false := beq_eq_false_iff_ne.2 hn1
      go_wp2_with fail
      go_ret
      exact ⟨rfl, HG2.out⟩
    case pos =>
    have HVC := Lib.hid (HVB.out hz0)
    have hz1 : (ce : Int) = 0 := by omega
    go_upto_region 6 with (fail)
    clear hz1
    subst hz0
    go_cut [13, 14] (fun sa sb wx => ∃ P A c, sa = .pointer (some ⟨P, 0, none⟩) ∧ sb = .int .i64 ((0 : Nat) : Int) ∧ Hid (wx.heap[P]? = some (.cells #[.int .i64 n, .slice A m c, .bool on] 32 (0, 0)) ∧ SO wx w2.heap.size (.slice A m c) E ∧ Gr w2 wx))
    case first =>
      refine wp_region_noPanic ?_
      refine iRegionA (RI btV w2 (fun k => ((S4v6 w2.heap.size kind start u l v key n m E on 0) k).P) [(11, 12, 9)] (fun _ => 32) (fun _ => valv 0)) (by kernel_rfl) (by kernel_rfl) (ri_start (fun k y wA wB => ((S4v6 w2.heap.size kind start u l v key n m E on 0) k).st y wA wB) (Gr.refl _)) ?_ ?_
      · intro i o ho vals wc A hI hn hdep hOld hNew
        have hi : i < 14 := (List.getElem?_eq_some_iff.1 ho).1
        have hgc := HG2.out.trans hI.gr
        obtain ⟨l0, l1, l2, l3, l4, l5, l6, l7⟩ := (HL2.out.gr hI.gr).all
        obtain ⟨m0, m1, m2, m3, m4, m5, m6, m7⟩ := (HV2.out.gr hI.gr).all
        have eo0 : A.tmps[0]?.getD undef = .int .i64 kind := slotE (hOld 0 (by kernel_rfl))
        have eo1 : A.tmps[1]?.getD undef = .int .i64 start := slotE (hOld 1 (by kernel_rfl))
        have eo4 : A.tmps[4]?.getD undef = .string key := slotE (hOld 4 (by kernel_rfl))
        have eo7 : A.tmps[7]?.getD undef = .pointer (some ⟨w.heap.size, 0, none⟩) := slotE (hOld 7 (by kernel_rfl))
        have eo8 : A.tmps[8]?.getD undef = .pointer (some ⟨w.heap.size + 1, 0, none⟩) := slotE (hOld 8 (by kernel_rfl))
        obtain rfl | rfl | rfl | rfl | rfl | rfl | rfl | rfl | rfl | rfl | rfl | rfl | rfl | rfl : i = 0 ∨ i = 1 ∨ i = 2 ∨ i = 3 ∨ i = 4 ∨ i = 5 ∨ i = 6 ∨ i = 7 ∨ i = 8 ∨ i = 9 ∨ i = 10 ∨ i = 11 ∨ i = 12 ∨ i = 13 := by omega
        · obtain rfl := Option.some.inj (show some _ = some o from ho)
          refine aVal rfl rfl (v := .int .i64 kind) (w' := wc) ?_ ⟨_, rfl, hI.val hn (by decide) (rfl)⟩
          go_simp
        · obtain rfl := Option.some.inj (show some _ = some o from ho)
          refine aVal rfl rfl (v := .int .i64 start) (w' := wc) ?_ ⟨_, rfl, hI.val hn (by decide) (rfl)⟩
          go_simp
        · obtain rfl := Option.some.inj (show some _ = some o from ho)
          refine aVal rfl rfl (v := .agg (lcells u)) (w' := wc) ?_ ⟨_, rfl, hI.val hn (by decide) (rfl)⟩
          go_simp
        · obtain rfl := Option.some.inj (show some _ = some o from ho)
          refine aVal rfl rfl (v := .string key) (w' := wc) ?_ ⟨_, rfl, hI.val hn (by decide) (rfl)⟩
          go_simp
        · obtain rfl := Option.some.inj (show some _ = some o from ho)
          obtain ⟨y2, hy2⟩ := hdep ⟨2, .data⟩ (by simp) rfl
          obtain rfl : y2 = .agg (lcells u) := hI.ok 2 y2 hy2
          have s2 := slotE (hNew 2 32 _ _ rfl rfl (by kernel_rfl) hy2)
          obtain ⟨y3, hy3⟩ := hdep ⟨3, .data⟩ (by simp) rfl
          obtain rfl : y3 = .string key := hI.ok 3 y3 hy3
          have s3 := slotE (hNew 3 33 _ _ rfl rfl (by kernel_rfl) hy3)
          refine aCall rfl rfl (w1 := wc) ?_ ((HAL.out wc hgc).mono fun e w' ⟨ux, he, hlx, hg⟩ => ⟨_, he, _, rfl, (hI.next hg).val hn (by decide) (⟨ux, rfl, hlx.le hI.gr.size⟩)⟩)
          go_simp
        · obtain rfl := Option.some.inj (show some _ = some o from ho)
          refine aVal rfl rfl (v := .agg (vcells v)) (w' := wc) ?_ ⟨_, rfl, hI.val hn (by decide) (rfl)⟩
          go_simp
        · obtain rfl := Option.some.inj (show some _ = some o from ho)
          refine aVal rfl rfl (v := .string key) (w' := wc) ?_ ⟨_, rfl, hI.val hn (by decide) (rfl)⟩
          go_simp
        · obtain rfl := Option.some.inj (show some _ = some o from ho)
          obtain ⟨y0, hy0⟩ := hdep ⟨0, .data⟩ (by simp) rfl
          obtain rfl : y0 = .int .i64 kind := hI.ok 0 y0 hy0
          have s0 := slotE (hNew 0 30 _ _ rfl rfl (by kernel_rfl) hy0)
          obtain ⟨y1, hy1⟩ := hdep ⟨1, .data⟩ (by simp) rfl
          obtain rfl : y1 = .int .i64 start := hI.ok 1 y1 hy1
          have s1 := slotE (hNew 1 31 _ _ rfl rfl (by kernel_rfl) hy1)
          obtain ⟨y4, hy4⟩ := hdep ⟨4, .data⟩ (by simp) rfl
          obtain ⟨u4, rfl, hl4⟩ : ∃ u, y4 = .agg (lcells u) ∧ LN wc (w2.heap.size) u (alL key l) := hI.ok 4 y4 hy4
          have s4 := slotE (hNew 4 34 _ _ rfl rfl (by kernel_rfl) hy4)
          obtain ⟨y5, hy5⟩ := hdep ⟨5, .data⟩ (by simp) rfl
          obtain rfl : y5 = .agg (vcells v) := hI.ok 5 y5 hy5
          have s5 := slotE (hNew 5 35 _ _ rfl rfl (by kernel_rfl) hy5)
          obtain ⟨y6, hy6⟩ := hdep ⟨6, .data⟩ (by simp) rfl
          obtain rfl : y6 = .string key := hI.ok 6 y6 hy6
          have s6 := slotE (hNew 6 36 _ _ rfl rfl (by kernel_rfl) hy6)
          refine aCall rfl rfl (w1 := wc) ?_ ((HVC.out u4 wc hl4.lv).mono fun e w' ⟨Ax, cx, he, hso, hg⟩ => ⟨_, he, _, rfl, (hI.next hg).val hn (by decide) (⟨Ax, cx, rfl, own_le hso hI.gr.size⟩)⟩)
          go_simp
        · obtain rfl := Option.some.inj (show some _ = some o from ho)
          obtain ⟨y7, hy7⟩ := hdep ⟨7, .data⟩ (by simp) rfl
          obtain ⟨A7, c7, rfl, hl7⟩ : ∃ A c, y7 = .tuple #[.agg #[.int .i64 (n), .slice A (m) c, .bool (on)], .int .i64 ((0 : Nat) : Int)] ∧ SO wc (w2.heap.size) (.slice A (m) c) (E) := hI.ok 7 y7 hy7
          have s7 := slotE (hNew 7 37 _ _ rfl rfl (by kernel_rfl) hy7)
          refine aVal rfl rfl (v := .tuple #[.agg #[.int .i64 n, .slice A7 m c7, .bool on], .int .i64 ((0 : Nat) : Int)]) (w' := wc) ?_ ⟨_, rfl, hI.val hn (by decide) (⟨A7, c7, rfl, hl7⟩)⟩
          go_simp
        · obtain rfl := Option.some.inj (show some _ = some o from ho)
          obtain ⟨y8, hy8⟩ := hdep ⟨8, .data⟩ (by simp) rfl
          obtain ⟨A8, c8, rfl, hl8⟩ : ∃ A c, y8 = .tuple #[.agg #[.int .i64 (n), .slice A (m) c, .bool (on)], .int .i64 ((0 : Nat) : Int)] ∧ SO wc (w2.heap.size) (.slice A (m) c) (E) := hI.ok 8 y8 hy8
          have s8 := slotE (hNew 8 29 _ _ rfl rfl (by kernel_rfl) hy8)
          refine aVal rfl rfl (v := .agg #[.int .i64 n, .slice A8 m c8, .bool on]) (w' := wc) ?_ ⟨_, rfl, hI.val hn (by decide) (⟨A8, c8, rfl, hl8⟩)⟩
          go_simp
        · obtain rfl := Option.some.inj (show some _ = some o from ho)
          obtain ⟨y8, hy8⟩ := hdep ⟨8, .data⟩ (by simp) rfl
          obtain ⟨A8, c8, rfl, hl8⟩ : ∃ A c, y8 = .tuple #[.agg #[.int .i64 (n), .slice A (m) c, .bool (on)], .int .i64 ((0 : Nat) : Int)] ∧ SO wc (w2.heap.size) (.slice A (m) c) (E) := hI.ok 8 y8 hy8
          have s8 := slotE (hNew 8 29 _ _ rfl rfl (by kernel_rfl) hy8)
          refine aVal rfl rfl (v := .int .i64 ((0 : Nat) : Int)) (w' := wc) ?_ ⟨_, rfl, hI.val hn (by decide) (rfl)⟩
          go_simp
        · obtain rfl := Option.some.inj (show some _ = some o from ho)
          refine aVal rfl rfl (v := .pointer (some ⟨wc.heap.size, 0, none⟩)) (w' := wc.alloc (.cells (valv 0) 32)) ?_ ⟨_, rfl, hI.new hn (by decide) rfl rfl (fun _ _ => trivial)⟩
          go_simp
        · obtain rfl := Option.some.inj (show some _ = some o from ho)
          obtain ⟨y11, hy11⟩ := hdep ⟨11, .data⟩ (by simp) rfl
          obtain ⟨P, rfl, hP1, hP2⟩ := hI.at_new (a := 11) (k := 12) (s := 9) (by decide) hn hy11
          have s11 := slotE (hNew 11 13 _ _ rfl rfl (by kernel_rfl) hy11)
          obtain ⟨y9, hy9⟩ := hdep ⟨9, .data⟩ (by simp) rfl
          obtain ⟨A9, c9, rfl, hl9⟩ : ∃ A c, y9 = .agg #[.int .i64 (n), .slice A (m) c, .bool (on)] ∧ SO wc (w2.heap.size) (.slice A (m) c) (E) := hI.ok 9 y9 hy9
          have s9 := slotE (hNew 9 38 _ _ rfl rfl (by kernel_rfl) hy9)
          have z0 : wc.cell? ⟨P, 0, none⟩ = some (.int .i64 0) := by rw [cell_of_block hP2]; rfl
          have k0 := unfrozen_of_block hP2 0
          have z1 : wc.cell? ⟨P, 1, none⟩ = some (.slice none 0 0) := by rw [cell_of_block hP2]; rfl
          have k1 := unfrozen_of_block hP2 1
          have z2 : wc.cell? ⟨P, 2, none⟩ = some (.bool false) := by rw [cell_of_block hP2]; rfl
          have k2 := unfrozen_of_block hP2 2
          have hz := hP2
          refine aSkip rfl rfl (w' := putCells wc P 0 (#[.int .i64 (n), .slice A9 (m) c9, .bool (on)] : Array Value).toList) ?_ ⟨_, rfl, hI.putA (a := 11) (k := 12) (s := 9) (c := #[.int .i64 (n), .slice A9 (m) c9, .bool (on)]) (by decide) hn (by decide) (by decide) (by decide) hy11 hy9 rfl (fun _ => trivial)⟩
          clear hz hI hP2
          go_simp
          rfl
        · obtain rfl := Option.some.inj (show some _ = some o from ho)
          obtain ⟨y10, hy10⟩ := hdep ⟨10, .data⟩ (by simp) rfl
          obtain rfl : y10 = .int .i64 ((0 : Nat) : Int) := hI.ok 10 y10 hy10
          have s10 := slotE (hNew 10 39 _ _ rfl rfl (by kernel_rfl) hy10)
          refine aVal rfl rfl (v := .int .i64 ((0 : Nat) : Int)) (w' := wc) ?_ ⟨_, rfl, hI.val hn (by decide) (rfl)⟩
          go_simp
      · intro vals wc hall hI
        refine NoPanic.normal ?_
        obtain ⟨y0, hy0⟩ := hall 0 (by decide)
        obtain ⟨y1, hy1⟩ := hall 1 (by decide)
        obtain ⟨y2, hy2⟩ := hall 2 (by decide)
        obtain ⟨y3, hy3⟩ := hall 3 (by decide)
        obtain ⟨y4, hy4⟩ := hall 4 (by decide)
        obtain ⟨y5, hy5⟩ := hall 5 (by decide)
        obtain ⟨y6, hy6⟩ := hall 6 (by decide)
        obtain ⟨y7, hy7⟩ := hall 7 (by decide)
        obtain ⟨y8, hy8⟩ := hall 8 (by decide)
        obtain ⟨y9, hy9⟩ := hall 9 (by decide)
        obtain ⟨y10, hy10⟩ := hall 10 (by decide)
        obtain ⟨y11, hy11⟩ := hall 11 (by decide)
        obtain ⟨y12, hy12⟩ := hall 12 (by decide)
        obtain ⟨y13, hy13⟩ := hall 13 (by decide)
        have hP := hI.at_full (a := 11) (k := 12) (s := 9) (by decide) hy12 hy9 hy11
        obtain ⟨A7, c7, rfl, hl7⟩ : ∃ A c, y9 = .agg #[.int .i64 n, .slice A m c, .bool on] ∧ SO wc w2.heap.size (.slice A m c) E := hI.ok 9 y9 hy9
        obtain ⟨P, rfl, -, hbP⟩ := hP
        obtain rfl : y13 = .int .i64 ((0 : Nat) : Int) := hI.ok 13 y13 hy13
        have HBP : Hid (wc.heap[P]? = some (.cells #[.int .i64 n, .slice A7 m c7, .bool on] 32 (0, 0))) := Lib.hid hbP
        have HSO := Lib.hid hl7
        have HGC := Lib.hid hI.gr
        clear hbP hl7
        simp only [putAll, putV, hy0, hy1, hy2, hy3, hy4, hy5, hy6, hy7, hy8, hy9, hy10, hy11, hy12, hy13]
        clear hI hall hy0 hy1 hy2 hy3 hy4 hy5 hy6 hy7 hy8 hy9 hy10 hy11 hy12 hy13
        simp only [Act.put, List.setIfInBounds_toArray, List.set_cons_zero, List.set_cons_succ]
        go_wp2_with fail
        go_meet
        exact ⟨P, A7, c7, rfl, rfl, Lib.hid ⟨HBP.out, HSO.out, HGC.out⟩⟩
    case rest =>
      obtain ⟨Q, A2, c2, rfl, rfl, hst⟩ := hcut
      rename World => w3
      have hb1 := gr_obj hst.out.2.2 HB2.out
      have hb2 := hst.out.1
      have HSM := Lib.hid (same10_any n on A A2 m c c2 E w3 HM.out (HS2.out.gr hst.out.2.2).sv hst.out.2.1.sv)
      have HG3 := Lib.hid (HG2.out.trans hst.out.2.2)
      have x0 : w3.cell? ⟨P, 0, none⟩ = some (.int .i64 n) := by rw [cell_of_block hb1]; rfl
      have x1 : w3.cell? ⟨P, 1, none⟩ = some (.slice A m c) := by rw [cell_of_block hb1]; rfl
      have x2 : w3.cell? ⟨P, 2, none⟩ = some (.bool on) := by rw [cell_of_block hb1]; rfl
      have y0 : w3.cell? ⟨Q, 0, none⟩ = some (.int .i64 n) := by rw [cell_of_block hb2]; rfl
      have y1 : w3.cell? ⟨Q, 1, none⟩ = some (.slice A2 m c2) := by rw [cell_of_block hb2]; rfl
      have y2 : w3.cell? ⟨Q, 2, none⟩ = some (.bool on) := by rw [cell_of_block hb2]; rfl
      clear hst hb1 hb2
      go_wp2_with fail
      refine HSM.out.mono ?_
      rintro e w4 ⟨rfl, g4⟩
      clear x0 x1 x2 y0 y1 y2
      go_wp2_with fail
      go_ret
      exact ⟨rfl, HG3.out.trans g4⟩
end Go.Proofs.Ytaldgjcbbjjceaa
