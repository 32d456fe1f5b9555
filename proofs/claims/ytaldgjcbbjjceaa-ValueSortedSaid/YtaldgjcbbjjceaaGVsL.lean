/- The law ValueSorted. Written by wip/tools/gensorted.py. -/
import Derived.Test.YtaldgjcbbjjceaaG30
import Derived.Test.YtaldgjcbbjjceaaG09
namespace Go.Proofs.Ytaldgjcbbjjceaa
open Go.RowKit Go.Joins
set_option linter.unusedSimpArgs false
set_option linter.unusedVariables false

def S7v (B : Nat) (kind : Int) (u : Nat → S3) (l : LG) (v : Nat → Nat) (key : ByteArray) (n : Int) (m : Nat) (E : List ByteArray) (on : Bool) (ce : Nat) : Nat → Spec
  | 0 => Spec.fix (.int .i64 kind)
  | 1 => Spec.fix (.agg (lcells u))
  | 2 => Spec.logs (B) (l)
  | 3 => Spec.fix (.agg (vcells v))
  | 4 => Spec.fix (.string key)
  | 5 => Spec.valE (B) (n) (m) (E) (on) (ce)
  | 6 => Spec.valE (B) (n) (m) (E) (on) (ce)
  | 7 => Spec.val (B) (n) (m) (E) (on)
  | 8 => Spec.fix (.int .i64 (ce : Int))
  | 11 => Spec.fix (.int .i64 (ce : Int))
  | _ => Spec.any

theorem sumTo_fit (v : Nat → Nat) (h : ∀ i, i < 8 → v i ≤ 1024) : ∀ n, n ≤ 8 → sumTo v n ≤ n * 1024
  | 0, _ => Nat.le_refl _
  | n + 1, hn => by
    have h1 := sumTo_fit v h n (by omega)
    have h2 := h n (by omega)
    show sumTo v n + v n ≤ _
    omega
theorem sumV_fit (v : Nat → Nat) (h : ∀ i, i < 8 → v i ≤ 1024) : sumV v ≤ 8192 := sumTo_fit v h 8 (Nat.le_refl _)
structure SvS (w : World) (P B : Nat) (n : Int) (A : Option Addr) (m c : Nat) (on : Bool) (E : List ByteArray) (s : Value) (L : List TX) (wr : World) : Prop where
  bx : wr.heap[P]? = some (.cells #[.int .i64 n, .slice A m c, .bool on] 32 (0, 0))
  so : SO wr B (.slice A m c) E
  xs : XV wr s L
  gr : Gr w wr
theorem SvS.next {w : World} {P B : Nat} {n : Int} {A : Option Addr} {m c : Nat} {on : Bool} {E : List ByteArray} {s : Value} {L : List TX} {wr w' : World} (h : SvS w P B n A m c on E s L wr) (g : Gr wr w') : SvS w P B n A m c on E s L w' :=
  ⟨gr_obj g h.bx, h.so.gr g, h.xs.gr g, h.gr.trans g⟩
theorem SO.cellV {w : World} {B m c : Nat} {A : Option Addr} {E : List ByteArray} (h : SO w B (.slice A m c) E) {i : Nat} (hi : i < E.length) : ∃ b off, A = some ⟨b, off, none⟩ ∧ w.cell? ⟨b, off + i, none⟩ = some (.string E[i]) := by
  obtain ⟨A', c', hv, _, _, hat⟩ := h.sv
  injection hv with e1 e2 e3
  subst e1 e3
  exact hat i hi
theorem opCells (w : World) (o : TO) : ∃ W, W = w.alloc (.cells (opv o) 41) ∧ Gr w W ∧ W.cell? ⟨w.heap.size, 0, none⟩ = some (.int .i64 o.kind) ∧ W.cell? ⟨w.heap.size, 1, none⟩ = some (.string o.key) ∧ W.cell? ⟨w.heap.size, 2, none⟩ = some (.string o.elem) ∧ W.cell? ⟨w.heap.size, 3, none⟩ = some (.int .i64 o.n) := by
  refine ⟨_, rfl, (Gr.refl w).alloc _, ?_, ?_, ?_, ?_⟩ <;> (rw [cell_of_block (heap_alloc w (opv o) 41)]; rfl)
set_option maxRecDepth 100000 in
set_option maxHeartbeats 8000000 in
theorem sorted10_law (kind : Int) (u : Nat → S3) (l : LG) (v : Nat → Nat) (key : ByteArray) (w : World) (h : LV w u l) (hf : FitL l) :
    Calls Try.prog 7 #[.int .i64 kind, .agg (lcells u), .agg (vcells v), .string key] w fun e w' => e = .returned (.bool true) ∧ Gr w w' := by
  obtain ⟨W, hW, hg, hsz, hL, hV⟩ := boxesLV u v w
  have HL := Lib.hid hL
  have HV := Lib.hid hV
  have HG := Lib.hid hg
  have HCP := Lib.hid (fun w1 (g : Gr w w1) => rcopy9_any u l w1 (h.gr g) hf.c)
  have HVA := Lib.hid (fun u2 w1 (k : LV w1 u2 l) => (value_any kind 0 u2 l v key w1 k hf.q (by unfold wrap64; omega)).mono fun e w' h => h.form)
  have HRI := Lib.hid (valV_rising kind 0 l v key)
  have HEL := Lib.hid (fun s (hs : s ∈ (valV kind 0 l v key).e) => valV_elem hs)
  have HNO := Lib.hid (fun (h : ¬ valE kind l v = 0) => valV_none (start := 0) (key := key) h)
  have HORD := Lib.hid (fun (hz : valE kind l v = 0) w1 (g : Gr w w1) => rord9_any u l v w1 (h.gr g) hf.c (fun i hi => (valE_ok hz).2.1.len i hi))
  have HOP := Lib.hid (fun (hz : valE kind l v = 0) t (ht : t ∈ ordR l v) => (show t.ops.length ≤ 8 from by
    obtain ⟨i, k, hi, hk, a⟩ := ordR_mem.1 ht
    exact ((valE_ok hz).2.1.tx i k t hi a).1.2.2.1))
  have HOL := Lib.hid (fun (hz : valE kind l v = 0) => (show (ordR l v).length ≤ 8192 from by
    rw [ordR_len]
    exact sumV_fit _ (fun i hi => Nat.le_trans (Nat.min_le_right _ _) ((valE_ok hz).2.1.len i hi))))
  obtain ⟨r, hr⟩ : ∃ r, r = valV kind 0 l v key := ⟨_, rfl⟩
  obtain ⟨ce, hce⟩ : ∃ c, c = valE kind l v := ⟨_, rfl⟩
  rw [← hr] at HVA HRI HEL
  rw [← hce] at HVA
  have HNO : Hid (¬ ce = 0 → r.e = []) := Lib.hid (fun h => by rw [hr, HNO.out (by rw [← hce]; exact h)])
  obtain ⟨E, hE⟩ : ∃ E, E = r.e := ⟨_, rfl⟩
  obtain ⟨n, hn⟩ : ∃ n, n = r.n := ⟨_, rfl⟩
  obtain ⟨on, hon⟩ : ∃ x, x = r.on := ⟨_, rfl⟩
  rw [← hE, ← hn, ← hon] at HVA
  rw [← hE] at HRI HNO HEL
  obtain ⟨m, hm⟩ : ∃ m, m = E.length := ⟨_, rfl⟩
  rw [← hm] at HVA
  have HM := Lib.hid hm
  obtain ⟨L, hLd⟩ : ∃ L, L = ordR l v := ⟨_, rfl⟩
  have HORD2 : Hid (ce = 0 → ∀ w1, Gr w w1 → Calls Try.prog 22 #[.agg (lcells u), .agg (vcells v)] w1 fun e w' => ∃ s, e = .returned s ∧ XN w' w1.heap.size s L ∧ Gr w1 w') := Lib.hid (fun h => by rw [hLd]; exact HORD.out (by rw [← hce]; exact h))
  have HOP2 : Hid (ce = 0 → ∀ t ∈ L, t.ops.length ≤ 8) := Lib.hid (fun h => by rw [hLd]; exact HOP.out (by rw [← hce]; exact h))
  have HOL2 : Hid (ce = 0 → L.length ≤ 8192) := Lib.hid (fun h => by rw [hLd]; exact HOL.out (by rw [← hce]; exact h))
  have HFN : Hid (∀ i (hi : i < E.length), fndB key E[i] L L.length 0 = true) := Lib.hid (fun i hi => fndB_all (by rw [hLd]; exact HEL.out _ (List.getElem_mem hi)))
  clear h hf hL hV hg hsz hr hce hE hn hon hm hLd HEL HORD HOP HOL
  go_enter Try.func7, Try.ntmps7
  go_upto_region 1 with (fail)
  rw [← hW]
  clear hW
  go_wp2_with fail
  refine (awake10_any W).mono ?_
  rintro e w1 ⟨rfl, g1⟩
  have HG1 := Lib.hid (HG.out.trans g1)
  have HL1 := Lib.hid (HL.out.gr g1)
  have HV1 := Lib.hid (HV.out.gr g1)
  clear g1
  go_upto_region 3 with (fail)
  go_cut [9, 10] (fun sa sb wx => ∃ P A c, sa = .pointer (some ⟨P, 0, none⟩) ∧ sb = .int .i64 (ce : Int) ∧ Hid (wx.heap[P]? = some (.cells #[.int .i64 n, .slice A m c, .bool on] 32 (0, 0)) ∧ SO wx w1.heap.size (.slice A m c) E ∧ Gr w1 wx))
  case first =>
    refine wp_region_noPanic ?_
    refine iRegionA (RI btV w1 (fun k => ((S7v w1.heap.size kind u l v key n m E on ce) k).P) [(9, 10, 7)] (fun _ => 32) (fun _ => valv 0)) (by kernel_rfl) (by kernel_rfl) (ri_start (fun k y wA wB => ((S7v w1.heap.size kind u l v key n m E on ce) k).st y wA wB) (Gr.refl _)) ?_ ?_
    · intro i o ho vals wc A hI hn hdep hOld hNew
      have hi : i < 12 := (List.getElem?_eq_some_iff.1 ho).1
      have hgc := HG1.out.trans hI.gr
      obtain ⟨l0, l1, l2, l3, l4, l5, l6, l7⟩ := (HL1.out.gr hI.gr).all
      obtain ⟨m0, m1, m2, m3, m4, m5, m6, m7⟩ := (HV1.out.gr hI.gr).all
      have eo0 : A.tmps[0]?.getD undef = .int .i64 kind := slotE (hOld 0 (by kernel_rfl))
      have eo3 : A.tmps[3]?.getD undef = .string key := slotE (hOld 3 (by kernel_rfl))
      have eo5 : A.tmps[5]?.getD undef = .pointer (some ⟨w.heap.size, 0, none⟩) := slotE (hOld 5 (by kernel_rfl))
      have eo6 : A.tmps[6]?.getD undef = .pointer (some ⟨w.heap.size + 1, 0, none⟩) := slotE (hOld 6 (by kernel_rfl))
      obtain rfl | rfl | rfl | rfl | rfl | rfl | rfl | rfl | rfl | rfl | rfl | rfl : i = 0 ∨ i = 1 ∨ i = 2 ∨ i = 3 ∨ i = 4 ∨ i = 5 ∨ i = 6 ∨ i = 7 ∨ i = 8 ∨ i = 9 ∨ i = 10 ∨ i = 11 := by omega
      · obtain rfl := Option.some.inj (show some _ = some o from ho)
        refine aVal rfl rfl (v := .int .i64 kind) (w' := wc) ?_ ⟨_, rfl, hI.val hn (by decide) (rfl)⟩
        go_simp
      · obtain rfl := Option.some.inj (show some _ = some o from ho)
        refine aVal rfl rfl (v := .agg (lcells u)) (w' := wc) ?_ ⟨_, rfl, hI.val hn (by decide) (rfl)⟩
        go_simp
      · obtain rfl := Option.some.inj (show some _ = some o from ho)
        obtain ⟨y1, hy1⟩ := hdep ⟨1, .data⟩ (by simp) rfl
        obtain rfl : y1 = .agg (lcells u) := hI.ok 1 y1 hy1
        have s1 := slotE (hNew 1 21 _ _ rfl rfl (by kernel_rfl) hy1)
        refine aCall rfl rfl (w1 := wc) ?_ ((HCP.out wc hgc).mono fun e w' ⟨ux, he, hlx, hg⟩ => ⟨_, he, _, rfl, (hI.next hg).val hn (by decide) (⟨ux, rfl, hlx.le hI.gr.size⟩)⟩)
        go_simp
      · obtain rfl := Option.some.inj (show some _ = some o from ho)
        refine aVal rfl rfl (v := .agg (vcells v)) (w' := wc) ?_ ⟨_, rfl, hI.val hn (by decide) (rfl)⟩
        go_simp
      · obtain rfl := Option.some.inj (show some _ = some o from ho)
        refine aVal rfl rfl (v := .string key) (w' := wc) ?_ ⟨_, rfl, hI.val hn (by decide) (rfl)⟩
        go_simp
      · obtain rfl := Option.some.inj (show some _ = some o from ho)
        obtain ⟨y0, hy0⟩ := hdep ⟨0, .data⟩ (by simp) rfl
        obtain rfl : y0 = .int .i64 kind := hI.ok 0 y0 hy0
        have s0 := slotE (hNew 0 20 _ _ rfl rfl (by kernel_rfl) hy0)
        obtain ⟨y2, hy2⟩ := hdep ⟨2, .data⟩ (by simp) rfl
        obtain ⟨u2, rfl, hl2⟩ : ∃ u, y2 = .agg (lcells u) ∧ LN wc (w1.heap.size) u (l) := hI.ok 2 y2 hy2
        have s2 := slotE (hNew 2 22 _ _ rfl rfl (by kernel_rfl) hy2)
        obtain ⟨y3, hy3⟩ := hdep ⟨3, .data⟩ (by simp) rfl
        obtain rfl : y3 = .agg (vcells v) := hI.ok 3 y3 hy3
        have s3 := slotE (hNew 3 23 _ _ rfl rfl (by kernel_rfl) hy3)
        obtain ⟨y4, hy4⟩ := hdep ⟨4, .data⟩ (by simp) rfl
        obtain rfl : y4 = .string key := hI.ok 4 y4 hy4
        have s4 := slotE (hNew 4 24 _ _ rfl rfl (by kernel_rfl) hy4)
        refine aCall rfl rfl (w1 := wc) ?_ ((HVA.out u2 wc hl2.lv).mono fun e w' ⟨Ax, cx, he, hso, hg⟩ => ⟨_, he, _, rfl, (hI.next hg).val hn (by decide) (⟨Ax, cx, rfl, own_le hso hI.gr.size⟩)⟩)
        go_simp
      · obtain rfl := Option.some.inj (show some _ = some o from ho)
        obtain ⟨y5, hy5⟩ := hdep ⟨5, .data⟩ (by simp) rfl
        obtain ⟨A5, c5, rfl, hl5⟩ : ∃ A c, y5 = .tuple #[.agg #[.int .i64 (n), .slice A (m) c, .bool (on)], .int .i64 ((ce : Nat) : Int)] ∧ SO wc (w1.heap.size) (.slice A (m) c) (E) := hI.ok 5 y5 hy5
        have s5 := slotE (hNew 5 25 _ _ rfl rfl (by kernel_rfl) hy5)
        refine aVal rfl rfl (v := .tuple #[.agg #[.int .i64 n, .slice A5 m c5, .bool on], .int .i64 (ce : Int)]) (w' := wc) ?_ ⟨_, rfl, hI.val hn (by decide) (⟨A5, c5, rfl, hl5⟩)⟩
        go_simp
      · obtain rfl := Option.some.inj (show some _ = some o from ho)
        obtain ⟨y6, hy6⟩ := hdep ⟨6, .data⟩ (by simp) rfl
        obtain ⟨A6, c6, rfl, hl6⟩ : ∃ A c, y6 = .tuple #[.agg #[.int .i64 (n), .slice A (m) c, .bool (on)], .int .i64 ((ce : Nat) : Int)] ∧ SO wc (w1.heap.size) (.slice A (m) c) (E) := hI.ok 6 y6 hy6
        have s6 := slotE (hNew 6 19 _ _ rfl rfl (by kernel_rfl) hy6)
        refine aVal rfl rfl (v := .agg #[.int .i64 n, .slice A6 m c6, .bool on]) (w' := wc) ?_ ⟨_, rfl, hI.val hn (by decide) (⟨A6, c6, rfl, hl6⟩)⟩
        go_simp
      · obtain rfl := Option.some.inj (show some _ = some o from ho)
        obtain ⟨y6, hy6⟩ := hdep ⟨6, .data⟩ (by simp) rfl
        obtain ⟨A6, c6, rfl, hl6⟩ : ∃ A c, y6 = .tuple #[.agg #[.int .i64 (n), .slice A (m) c, .bool (on)], .int .i64 ((ce : Nat) : Int)] ∧ SO wc (w1.heap.size) (.slice A (m) c) (E) := hI.ok 6 y6 hy6
        have s6 := slotE (hNew 6 19 _ _ rfl rfl (by kernel_rfl) hy6)
        refine aVal rfl rfl (v := .int .i64 (ce : Int)) (w' := wc) ?_ ⟨_, rfl, hI.val hn (by decide) (rfl)⟩
        go_simp
      · obtain rfl := Option.some.inj (show some _ = some o from ho)
        refine aVal rfl rfl (v := .pointer (some ⟨wc.heap.size, 0, none⟩)) (w' := wc.alloc (.cells (valv 0) 32)) ?_ ⟨_, rfl, hI.new hn (by decide) rfl rfl (fun _ _ => trivial)⟩
        go_simp
      · obtain rfl := Option.some.inj (show some _ = some o from ho)
        obtain ⟨y9, hy9⟩ := hdep ⟨9, .data⟩ (by simp) rfl
        obtain ⟨P, rfl, hP1, hP2⟩ := hI.at_new (a := 9) (k := 10) (s := 7) (by decide) hn hy9
        have s9 := slotE (hNew 9 9 _ _ rfl rfl (by kernel_rfl) hy9)
        obtain ⟨y7, hy7⟩ := hdep ⟨7, .data⟩ (by simp) rfl
        obtain ⟨A7, c7, rfl, hl7⟩ : ∃ A c, y7 = .agg #[.int .i64 (n), .slice A (m) c, .bool (on)] ∧ SO wc (w1.heap.size) (.slice A (m) c) (E) := hI.ok 7 y7 hy7
        have s7 := slotE (hNew 7 26 _ _ rfl rfl (by kernel_rfl) hy7)
        have z0 : wc.cell? ⟨P, 0, none⟩ = some (.int .i64 0) := by rw [cell_of_block hP2]; rfl
        have k0 := unfrozen_of_block hP2 0
        have z1 : wc.cell? ⟨P, 1, none⟩ = some (.slice none 0 0) := by rw [cell_of_block hP2]; rfl
        have k1 := unfrozen_of_block hP2 1
        have z2 : wc.cell? ⟨P, 2, none⟩ = some (.bool false) := by rw [cell_of_block hP2]; rfl
        have k2 := unfrozen_of_block hP2 2
        have hz := hP2
        refine aSkip rfl rfl (w' := putCells wc P 0 (#[.int .i64 (n), .slice A7 (m) c7, .bool (on)] : Array Value).toList) ?_ ⟨_, rfl, hI.putA (a := 9) (k := 10) (s := 7) (c := #[.int .i64 (n), .slice A7 (m) c7, .bool (on)]) (by decide) hn (by decide) (by decide) (by decide) hy9 hy7 rfl (fun _ => trivial)⟩
        clear hz hI hP2
        go_simp
        rfl
      · obtain rfl := Option.some.inj (show some _ = some o from ho)
        obtain ⟨y8, hy8⟩ := hdep ⟨8, .data⟩ (by simp) rfl
        obtain rfl : y8 = .int .i64 (ce : Int) := hI.ok 8 y8 hy8
        have s8 := slotE (hNew 8 27 _ _ rfl rfl (by kernel_rfl) hy8)
        refine aVal rfl rfl (v := .int .i64 (ce : Int)) (w' := wc) ?_ ⟨_, rfl, hI.val hn (by decide) (rfl)⟩
        go_simp
    · intro vals wc hall hI
      refine NoPanic.normal ?_
      obtain ⟨y0, hy0⟩ := hall 0 (by decide)
      obtain ⟨y1, hy1⟩ := hall 1 (by decide)
      obtain ⟨y2, hy2⟩ := hall 2 (by decide)
      obtain ⟨y3, hy3⟩ := hall 3 (by decide)
      obtain ⟨y4, hy4⟩ := hall 4 (by decide)
      obtain ⟨y5, hy5⟩ := hall 5 (by decide)
      obtain ⟨y6, hy6⟩ := hall 6 (by decide)
      obtain ⟨y7, hy7⟩ := hall 7 (by decide)
      obtain ⟨y8, hy8⟩ := hall 8 (by decide)
      obtain ⟨y9, hy9⟩ := hall 9 (by decide)
      obtain ⟨y10, hy10⟩ := hall 10 (by decide)
      obtain ⟨y11, hy11⟩ := hall 11 (by decide)
      have hP := hI.at_full (a := 9) (k := 10) (s := 7) (by decide) hy10 hy7 hy9
      obtain ⟨A7, c7, rfl, hl7⟩ : ∃ A c, y7 = .agg #[.int .i64 n, .slice A m c, .bool on] ∧ SO wc w1.heap.size (.slice A m c) E := hI.ok 7 y7 hy7
      obtain ⟨P, rfl, -, hbP⟩ := hP
      obtain rfl : y11 = .int .i64 (ce : Int) := hI.ok 11 y11 hy11
      have HBP : Hid (wc.heap[P]? = some (.cells #[.int .i64 n, .slice A7 m c7, .bool on] 32 (0, 0))) := Lib.hid hbP
      have HSO := Lib.hid hl7
      have HGC := Lib.hid hI.gr
      clear hbP hl7
      simp only [putAll, putV, hy0, hy1, hy2, hy3, hy4, hy5, hy6, hy7, hy8, hy9, hy10, hy11]
      clear hI hall hy0 hy1 hy2 hy3 hy4 hy5 hy6 hy7 hy8 hy9 hy10 hy11
      simp only [Act.put, List.setIfInBounds_toArray, List.set_cons_zero, List.set_cons_succ]
      go_wp2_with fail
      go_meet
      exact ⟨P, A7, c7, rfl, rfl, Lib.hid ⟨HBP.out, HSO.out, HGC.out⟩⟩
  case rest =>
    obtain ⟨P, A, c, rfl, rfl, hst⟩ := hcut
    rename World => w2
    have HB2 := Lib.hid hst.out.1
    have HS2 := Lib.hid hst.out.2.1
    have HG2 := Lib.hid (HG1.out.trans hst.out.2.2)
    have HL2 := Lib.hid (HL1.out.gr hst.out.2.2)
    have HV2 := Lib.hid (HV1.out.gr hst.out.2.2)
    clear hst
    by_cases hz0 : ce = 0
    case neg =>
      have hE := HNO.out hz0
      have hm0 : m = 0 := by rw [HM.out, hE]; rfl
      subst hm0
      have z1 : w2.cell? ⟨P, 1, none⟩ = some (.slice A 0 c) := by rw [cell_of_block HB2.out]; rfl
      have hn1 : ¬ ((ce : Int) = 0) := by omega
      have hn2 : ((ce : Int) == 0) = false := beq_eq_false_iff_ne.2 hn1
      go_wp2_with fail
      go_ret
      exact ⟨rfl, HG2.out⟩
    case pos =>
    subst hz0
    have HORD3 := Lib.hid (HORD2.out rfl)
    have HOP3 := Lib.hid (HOP2.out rfl)
    have HOL3 := Lib.hid (HOL2.out rfl)
    obtain ⟨l0, l1, l2, l3, l4, l5, l6, l7⟩ := HL2.out.all
    obtain ⟨v0, v1, v2, v3, v4, v5, v6, v7⟩ := HV2.out.all
    go_wp2_with fail
    refine (HORD3.out _ HG2.out).mono ?_
    rintro e w3 ⟨s, rfl, hx, g3⟩
    obtain ⟨As, cs, hsv, -, -, -⟩ := hx.xv
    subst hsv
    obtain ⟨q, hq⟩ : ∃ q, q = L.length := ⟨_, rfl⟩
    have HQ := Lib.hid hq
    have hS0 : SvS w P w1.heap.size n A m c on E (.slice As L.length cs) L w3 := ⟨gr_obj g3 HB2.out, HS2.out.gr g3, hx.xv, HG2.out.trans g3⟩
    rw [← hq] at hS0 ⊢
    have HS3 := Lib.hid hS0
    clear hx g3 hq hS0 l0 l1 l2 l3 l4 l5 l6 l7 v0 v1 v2 v3 v4 v5 v6 v7
    have hqb : q ≤ 8192 := by rw [HQ.out]; exact HOL3.out
    have hmb : m ≤ 9223372036854775807 := by
      have h1 := HS3.out.so.sv
      obtain ⟨A', c', hv, h2, ⟨h3, -⟩, -⟩ := h1
      rw [HM.out]
      unfold maxLen at h3
      omega
    go_wp2_with fail
    go_loopw [12] (fun i wr => ∃ j : Nat, j ≤ m ∧ i = .int .i64 j ∧ Hid (SvS w P w1.heap.size n A m c on E (.slice As q cs) L wr)) (fun i _ => m - (intOf i).toNat)
    case atStart => exact ⟨0, Nat.zero_le _, rfl, HS3⟩
    case round =>
      obtain ⟨j, hj, rfl, hst⟩ := hrel
      rename World => wr
      have z1 : wr.cell? ⟨P, 1, none⟩ = some (.slice A m c) := by rw [cell_of_block hst.out.bx]; rfl
      by_cases hjm : j < m
      case neg =>
        obtain rfl : j = m := by omega
        have HE := Lib.hid hst.out.gr
        clear hst
        go_wp2_with fail
        go_ret
        exact ⟨rfl, HE.out⟩
      case pos =>
      have hj0 : (0 : Int) ≤ (j : Int) := Int.natCast_nonneg _
      have hjm1 : (j : Int) < (m : Int) := by omega
      have hjE : j < E.length := by rw [← HM.out]; exact hjm
      obtain ⟨b, off, hA, q0⟩ := hst.out.so.cellV hjE
      subst hA
      obtain ⟨s, hs⟩ : ∃ s, s = E[j] := ⟨_, rfl⟩
      rw [← hs] at q0
      have HFJ := Lib.hid (HFN.out j hjE)
      rw [← hs] at HFJ
      have HSJ := Lib.hid hs
      have HST := hst
      clear hst hs
      go_upto_region 10 with (fail)
      go_cut [59] (fun s59 wx => s59 = .bool false ∧ Hid (Gr wr wx))
      case first =>
        have HZ := Lib.hid (And.intro z1 q0)
        clear z1 q0
        by_cases hj1 : j = 0
        · subst hj1
          refine qRegion (fun w' => w'.cell? ⟨P, 1, none⟩ = some (.slice (some ⟨b, off, none⟩) m c) ∧ Gr wr w') (by kernel_rfl) (by kernel_rfl) ⟨(Gr.refl _).drew.cell HZ.out.1, (Gr.refl _).drew⟩ ?_
          iterate 3
            refine qTake (by kernel_rfl) ?_
            apply Exists.intro
            refine ⟨fun wq hq => ?_, ?_⟩
            · go_light
              obtain ⟨z1, -⟩ := hq
              go_simp
              try with_reducible rfl
              done
            try simp only [Act.put, List.setIfInBounds_toArray, List.set_cons_zero, List.set_cons_succ]
          iterate 12
            refine qSkip (by kernel_rfl) ?_
            try simp only [Act.put, List.setIfInBounds_toArray, List.set_cons_zero, List.set_cons_succ]
          iterate 1
            refine qTake (by kernel_rfl) ?_
            apply Exists.intro
            refine ⟨fun wq hq => ?_, ?_⟩
            · go_light
              obtain ⟨z1, -⟩ := hq
              go_simp
              try with_reducible rfl
              done
            try simp only [Act.put, List.setIfInBounds_toArray, List.set_cons_zero, List.set_cons_succ]
          refine qNil ?_
          intro w4 hC
          have HG4 := Lib.hid hC.2
          clear hC
          go_wp2_with fail
          go_meet
          exact ⟨rfl, HG4⟩
        · obtain ⟨i, hij⟩ : ∃ i, j = i + 1 := ⟨j - 1, by omega⟩
          have hiE : i < E.length := by omega
          obtain ⟨b', off', hA', q1⟩ := HST.out.so.cellV hiE
          injection hA' with hA'
          injection hA' with e1 e2
          subst e1 e2
          obtain ⟨x, hx⟩ : ∃ x, x = E[i] := ⟨_, rfl⟩
          rw [← hx] at q1
          have hlt : lessS x s = true := by rw [hx, HSJ.out]; exact risingS_at HRI.out (by omega) hjE
          have p1 : Go.Op.bytesLess s.toList x.toList = false := lessS_asymm hlt
          have p2 : (s.toList == x.toList) = false := eqS_ne (lessS_ne hlt).symm
          have HQ1 := Lib.hid q1
          have hi0 : (0 : Int) ≤ (i : Int) := Int.natCast_nonneg _
          have hi1 : (i : Int) < (m : Int) := by omega
          have hgt : (0 : Int) < (j : Int) := by omega
          have hgt2 : decide ((0 : Int) < (j : Int)) = true := decide_eq_true hgt
          have hgn : 0 < j := by omega
          have hgn2 : decide (0 < j) = true := decide_eq_true hgn
          have hw1 : IntKind.i64.wrap ((j : Int) - 1) = (i : Int) := by
            rw [IntKind.wrap_i64]
            omega
          have HIJ := Lib.hid hij
          clear hij hj1
          clear q1 hx hlt
          refine qRegion (fun w' => w'.cell? ⟨P, 1, none⟩ = some (.slice (some ⟨b, off, none⟩) m c) ∧ w'.cell? ⟨b, off + j, none⟩ = some (.string s) ∧ w'.cell? ⟨b, off + i, none⟩ = some (.string x) ∧ Gr wr w') (by kernel_rfl) (by kernel_rfl) ⟨(Gr.refl _).drew.cell HZ.out.1, (Gr.refl _).drew.cell HZ.out.2, (Gr.refl _).drew.cell HQ1.out, (Gr.refl _).drew⟩ ?_
          iterate 16
            refine qTake (by kernel_rfl) ?_
            apply Exists.intro
            refine ⟨fun wq hq => ?_, ?_⟩
            · go_light
              obtain ⟨z1, z2, z3, -⟩ := hq
              go_simp
              try with_reducible rfl
              done
            try simp only [Act.put, List.setIfInBounds_toArray, List.set_cons_zero, List.set_cons_succ]
          refine qNil ?_
          intro w4 hC
          have HG4 := Lib.hid hC.2.2.2
          clear hC
          go_wp2_with fail
          go_meet
          exact ⟨rfl, HG4⟩
      case rest =>
        obtain ⟨rfl, hst⟩ := hcut
        rename World => w4
        have HST4 := Lib.hid (HST.out.next hst.out)
        have HQ0 := Lib.hid (hst.out.cell q0)
        clear hst HST z1 q0
        go_wp2_with fail
        go_loopw [13, 14] (fun f k wx => ∃ kk : Nat, kk ≤ q ∧ k = .int .i64 kk ∧ f = .bool (fndB key s L kk 0) ∧ Hid (SvS w P w1.heap.size n (some ⟨b, off, none⟩) m c on E (.slice As q cs) L wx ∧ Gr w4 wx)) (fun _ k _ => q - (intOf k).toNat)
        case atStart => exact ⟨0, Nat.zero_le _, rfl, rfl, Lib.hid ⟨HST4.out, Gr.refl _⟩⟩
        case round =>
          obtain ⟨k, hk, rfl, rfl, hst⟩ := hrel
          rename World => wk
          by_cases hkq : k < q
          case neg =>
            obtain rfl : k = q := by omega
            have HF1 : Hid (fndB key s L k 0 = true) := Lib.hid (by rw [HQ.out]; exact HFJ.out)
            rw [HF1.out]
            have HE := Lib.hid hst.out.1
            clear hst
            go_wp2_with fail
            go_roundw
            case measure => simp [intOf]; omega
            case rel => exact ⟨j + 1, by omega, by go_num, HE⟩
          case pos =>
          have hk0 : (0 : Int) ≤ (k : Int) := Int.natCast_nonneg _
          have hkq1 : (k : Int) < (q : Int) := by omega
          have hkL : k < L.length := by rw [← HQ.out]; exact hkq
          obtain ⟨Ax, cx, hxv, -, -, hxat⟩ := hst.out.1.xs
          injection hxv with e1 e2 e3
          subst e1 e3
          obtain ⟨tb, tof, hA, hxc⟩ := hxat k hkL
          subst hA
          obtain ⟨t, ht⟩ : ∃ t, t = L[k] := ⟨_, rfl⟩
          rw [← ht] at hxc
          have HTK : Hid (L[k]? = some t) := Lib.hid (by rw [List.getElem?_eq_getElem hkL, ht])
          have hop8 := HOP3.out t (by rw [ht]; exact List.getElem_mem hkL)
          obtain ⟨vx, hvx, x0, x1, x2, x3, x4, x5, x6, x7, x8, x9, x10, x11⟩ := hxc
          obtain ⟨Av, cv, hvf⟩ := tov_form hvx
          subst hvf
          obtain ⟨p, hp⟩ : ∃ p, p = t.ops.length := ⟨_, rfl⟩
          have HP := Lib.hid hp
          have HVX := Lib.hid hvx
          rw [← hp] at x11 hop8
          have HX11 := Lib.hid x11
          have HSK := hst
          obtain ⟨f0, hf0⟩ : ∃ f, f = fndB key s L k 0 := ⟨_, rfl⟩
          have HF0 := Lib.hid hf0
          rw [← hf0]
          clear hst e2 hxat ht x0 x1 x2 x3 x4 x5 x6 x7 x8 x9 x10 x11 hvx hp hf0
          have hgk : Gr wk wk := Gr.refl _
          go_wp2_with fail
          go_loopw [13, 15] (fun f jj wx => ∃ i : Nat, i ≤ p ∧ jj = .int .i64 i ∧ f = .bool (fndB key s L k i) ∧ Hid (Gr wk wx)) (fun _ jj _ => p - (intOf jj).toNat)
          case atStart => exact ⟨0, Nat.zero_le _, rfl, by rw [HF0.out], Lib.hid hgk⟩
          case round =>
            obtain ⟨i, hi, rfl, rfl, hst⟩ := hrel
            rename World => wi
            have y11 := hst.out.cell HX11.out
            by_cases hip : i < p
            case neg =>
              obtain rfl : i = p := by omega
              have HF1 : Hid (fndB key s L k i = fndB key s L (k + 1) 0) := Lib.hid (by rw [HP.out]; exact fndB_tx HTK.out)
              have HE : Hid (SvS w P w1.heap.size n (some ⟨b, off, none⟩) m c on E (.slice (some ⟨tb, tof, none⟩) q cs) L wi ∧ Gr w4 wi) := Lib.hid ⟨HSK.out.1.next hst.out, HSK.out.2.trans hst.out⟩
              clear hst
              go_wp2_with fail
              go_roundw
              case measure => simp [intOf]; omega
              case rel => exact ⟨k + 1, by omega, by go_num, by rw [HF1.out], HE⟩
            case pos =>
            have hi0 : (0 : Int) ≤ (i : Int) := Int.natCast_nonneg _
            have hip1 : (i : Int) < (p : Int) := by omega
            have hiO : i < t.ops.length := by rw [← HP.out]; exact hip
            obtain ⟨Ay, cy, hyv, -, -, hyat⟩ := HVX.out
            injection hyv with e1 e2 e3
            subst e1 e3
            obtain ⟨ob, oo, hA, hoc⟩ := hyat i hiO
            subst hA
            obtain ⟨o, ho⟩ : ∃ o, o = t.ops[i] := ⟨_, rfl⟩
            rw [← ho] at hoc
            have HOI : Hid (t.ops[i]? = some o) := Lib.hid (by rw [List.getElem?_eq_getElem hiO, ho])
            have HNX := Lib.hid (fndB_op (key := key) (s := s) HTK.out HOI.out)
            obtain ⟨o0, o1, o2, o3⟩ := hoc.gr hst.out
            obtain ⟨W5, hW5, g5, y0, y1, y2, y3⟩ := opCells wi o
            obtain ⟨ok, hok⟩ : ∃ x, x = o.kind := ⟨_, rfl⟩
            obtain ⟨oky, hoky⟩ : ∃ x, x = o.key := ⟨_, rfl⟩
            obtain ⟨oe, hoe⟩ : ∃ x, x = o.elem := ⟨_, rfl⟩
            obtain ⟨on', hon⟩ : ∃ x, x = o.n := ⟨_, rfl⟩
            unfold opv at hW5
            rw [← hok] at o0 y0 hW5
            rw [← hoky] at o1 y1 hW5
            rw [← hoe] at o2 y2 hW5
            rw [← hon] at o3 hW5
            have HNX : Hid (fndB key s L k (i + 1) = (fndB key s L k i || (eqS oky key && (eqS oe s && (decide (ok = 4) || decide (ok = 6)))))) := Lib.hid (by rw [HNX.out]; unfold fndO; rw [← hok, ← hoky, ← hoe])
            have zz : W5.cell? ⟨P, 1, none⟩ = some (.slice (some ⟨b, off, none⟩) m c) := by rw [cell_of_block (gr_obj (hst.out.trans g5) HSK.out.1.bx)]; rfl
            have qq := (HSK.out.2.trans (hst.out.trans g5)).cell HQ0.out
            have HY := Lib.hid (And.intro y0 (And.intro y1 (And.intro y2 (And.intro zz qq))))
            have HGW := Lib.hid (hst.out.trans g5)
            obtain ⟨f1, hf1⟩ : ∃ f, f = fndB key s L k i := ⟨_, rfl⟩
            rw [← hf1] at HNX ⊢
            have HF1 := Lib.hid hf1
            clear y0 y1 y2 y3 zz qq hst g5 e2 hyat ho hoc hok hoky hoe hon hf1
            go_upto_region 20 with (fail)
            rw [← hW5]
            clear hW5 y11 o0 o1 o2 o3
            cases f1 with
            | true =>
              refine qRegion (fun w' => w'.cell? ⟨wi.heap.size, 0, none⟩ = some (.int .i64 ok) ∧ w'.cell? ⟨wi.heap.size, 1, none⟩ = some (.string oky) ∧ w'.cell? ⟨wi.heap.size, 2, none⟩ = some (.string oe) ∧ w'.cell? ⟨P, 1, none⟩ = some (.slice (some ⟨b, off, none⟩) m c) ∧ w'.cell? ⟨b, off + j, none⟩ = some (.string s) ∧ Gr W5 w') (by kernel_rfl) (by kernel_rfl) ⟨(Gr.refl _).drew.cell HY.out.1, (Gr.refl _).drew.cell HY.out.2.1, (Gr.refl _).drew.cell HY.out.2.2.1, (Gr.refl _).drew.cell HY.out.2.2.2.1, (Gr.refl _).drew.cell HY.out.2.2.2.2, (Gr.refl _).drew⟩ ?_
              iterate 2
                refine qTake (by kernel_rfl) ?_
                apply Exists.intro
                refine ⟨fun wq hq => ?_, ?_⟩
                · go_light
                  obtain ⟨d0, d1, d2, d3, d4, -⟩ := hq
                  go_simp
                  try with_reducible rfl
                  done
                try simp only [Act.put, List.setIfInBounds_toArray, List.set_cons_zero, List.set_cons_succ]
              iterate 24
                refine qSkip (by kernel_rfl) ?_
                try simp only [Act.put, List.setIfInBounds_toArray, List.set_cons_zero, List.set_cons_succ]
              iterate 2
                refine qTake (by kernel_rfl) ?_
                apply Exists.intro
                refine ⟨fun wq hq => ?_, ?_⟩
                · go_light
                  obtain ⟨d0, d1, d2, d3, d4, -⟩ := hq
                  go_simp
                  try with_reducible rfl
                  done
                try simp only [Act.put, List.setIfInBounds_toArray, List.set_cons_zero, List.set_cons_succ]
              refine qNil ?_
              intro w6 hC
              have HG6 := Lib.hid (HGW.out.trans hC.2.2.2.2.2)
              clear hC
              go_wp2_with fail
              go_roundw
              case measure => simp [intOf]; omega
              case rel => exact ⟨i + 1, by omega, by go_num, by rw [HNX.out]; simp [], HG6⟩
            | false =>
              rcases hky : eqS oky key with _ | _
              · have p1 : (oky.toList == key.toList) = false := hky
                refine qRegion (fun w' => w'.cell? ⟨wi.heap.size, 0, none⟩ = some (.int .i64 ok) ∧ w'.cell? ⟨wi.heap.size, 1, none⟩ = some (.string oky) ∧ w'.cell? ⟨wi.heap.size, 2, none⟩ = some (.string oe) ∧ w'.cell? ⟨P, 1, none⟩ = some (.slice (some ⟨b, off, none⟩) m c) ∧ w'.cell? ⟨b, off + j, none⟩ = some (.string s) ∧ Gr W5 w') (by kernel_rfl) (by kernel_rfl) ⟨(Gr.refl _).drew.cell HY.out.1, (Gr.refl _).drew.cell HY.out.2.1, (Gr.refl _).drew.cell HY.out.2.2.1, (Gr.refl _).drew.cell HY.out.2.2.2.1, (Gr.refl _).drew.cell HY.out.2.2.2.2, (Gr.refl _).drew⟩ ?_
                iterate 7
                  refine qTake (by kernel_rfl) ?_
                  apply Exists.intro
                  refine ⟨fun wq hq => ?_, ?_⟩
                  · go_light
                    obtain ⟨d0, d1, d2, d3, d4, -⟩ := hq
                    go_simp
                    try with_reducible rfl
                    done
                  try simp only [Act.put, List.setIfInBounds_toArray, List.set_cons_zero, List.set_cons_succ]
                iterate 8
                  refine qSkip (by kernel_rfl) ?_
                  try simp only [Act.put, List.setIfInBounds_toArray, List.set_cons_zero, List.set_cons_succ]
                iterate 2
                  refine qTake (by kernel_rfl) ?_
                  apply Exists.intro
                  refine ⟨fun wq hq => ?_, ?_⟩
                  · go_light
                    obtain ⟨d0, d1, d2, d3, d4, -⟩ := hq
                    go_simp
                    try with_reducible rfl
                    done
                  try simp only [Act.put, List.setIfInBounds_toArray, List.set_cons_zero, List.set_cons_succ]
                iterate 8
                  refine qSkip (by kernel_rfl) ?_
                  try simp only [Act.put, List.setIfInBounds_toArray, List.set_cons_zero, List.set_cons_succ]
                iterate 3
                  refine qTake (by kernel_rfl) ?_
                  apply Exists.intro
                  refine ⟨fun wq hq => ?_, ?_⟩
                  · go_light
                    obtain ⟨d0, d1, d2, d3, d4, -⟩ := hq
                    go_simp
                    try with_reducible rfl
                    done
                  try simp only [Act.put, List.setIfInBounds_toArray, List.set_cons_zero, List.set_cons_succ]
                refine qNil ?_
                intro w6 hC
                have HG6 := Lib.hid (HGW.out.trans hC.2.2.2.2.2)
                clear hC
                go_wp2_with fail
                go_roundw
                case measure => simp [intOf]; omega
                case rel => exact ⟨i + 1, by omega, by go_num, by rw [HNX.out]; simp [hky], HG6⟩
              · have p1 : (oky.toList == key.toList) = true := hky
                rcases hel : eqS oe s with _ | _
                · have p2 : (oe.toList == s.toList) = false := hel
                  refine qRegion (fun w' => w'.cell? ⟨wi.heap.size, 0, none⟩ = some (.int .i64 ok) ∧ w'.cell? ⟨wi.heap.size, 1, none⟩ = some (.string oky) ∧ w'.cell? ⟨wi.heap.size, 2, none⟩ = some (.string oe) ∧ w'.cell? ⟨P, 1, none⟩ = some (.slice (some ⟨b, off, none⟩) m c) ∧ w'.cell? ⟨b, off + j, none⟩ = some (.string s) ∧ Gr W5 w') (by kernel_rfl) (by kernel_rfl) ⟨(Gr.refl _).drew.cell HY.out.1, (Gr.refl _).drew.cell HY.out.2.1, (Gr.refl _).drew.cell HY.out.2.2.1, (Gr.refl _).drew.cell HY.out.2.2.2.1, (Gr.refl _).drew.cell HY.out.2.2.2.2, (Gr.refl _).drew⟩ ?_
                  iterate 17
                    refine qTake (by kernel_rfl) ?_
                    apply Exists.intro
                    refine ⟨fun wq hq => ?_, ?_⟩
                    · go_light
                      obtain ⟨d0, d1, d2, d3, d4, -⟩ := hq
                      go_simp
                      try with_reducible rfl
                      done
                    try simp only [Act.put, List.setIfInBounds_toArray, List.set_cons_zero, List.set_cons_succ]
                  iterate 8
                    refine qSkip (by kernel_rfl) ?_
                    try simp only [Act.put, List.setIfInBounds_toArray, List.set_cons_zero, List.set_cons_succ]
                  iterate 3
                    refine qTake (by kernel_rfl) ?_
                    apply Exists.intro
                    refine ⟨fun wq hq => ?_, ?_⟩
                    · go_light
                      obtain ⟨d0, d1, d2, d3, d4, -⟩ := hq
                      go_simp
                      try with_reducible rfl
                      done
                    try simp only [Act.put, List.setIfInBounds_toArray, List.set_cons_zero, List.set_cons_succ]
                  refine qNil ?_
                  intro w6 hC
                  have HG6 := Lib.hid (HGW.out.trans hC.2.2.2.2.2)
                  clear hC
                  go_wp2_with fail
                  go_roundw
                  case measure => simp [intOf]; omega
                  case rel => exact ⟨i + 1, by omega, by go_num, by rw [HNX.out]; simp [hky, hel], HG6⟩
                · have p2 : (oe.toList == s.toList) = true := hel
                  by_cases hk4 : ok = 4
                  · have p3 : decide (ok = 4) = true := decide_eq_true hk4
                    have p4 : (ok == 4) = true := beq_iff_eq.2 hk4
                    refine qRegion (fun w' => w'.cell? ⟨wi.heap.size, 0, none⟩ = some (.int .i64 ok) ∧ w'.cell? ⟨wi.heap.size, 1, none⟩ = some (.string oky) ∧ w'.cell? ⟨wi.heap.size, 2, none⟩ = some (.string oe) ∧ w'.cell? ⟨P, 1, none⟩ = some (.slice (some ⟨b, off, none⟩) m c) ∧ w'.cell? ⟨b, off + j, none⟩ = some (.string s) ∧ Gr W5 w') (by kernel_rfl) (by kernel_rfl) ⟨(Gr.refl _).drew.cell HY.out.1, (Gr.refl _).drew.cell HY.out.2.1, (Gr.refl _).drew.cell HY.out.2.2.1, (Gr.refl _).drew.cell HY.out.2.2.2.1, (Gr.refl _).drew.cell HY.out.2.2.2.2, (Gr.refl _).drew⟩ ?_
                    iterate 21
                      refine qTake (by kernel_rfl) ?_
                      apply Exists.intro
                      refine ⟨fun wq hq => ?_, ?_⟩
                      · go_light
                        obtain ⟨d0, d1, d2, d3, d4, -⟩ := hq
                        go_simp
                        try with_reducible rfl
                        done
                      try simp only [Act.put, List.setIfInBounds_toArray, List.set_cons_zero, List.set_cons_succ]
                    iterate 3
                      refine qSkip (by kernel_rfl) ?_
                      try simp only [Act.put, List.setIfInBounds_toArray, List.set_cons_zero, List.set_cons_succ]
                    iterate 4
                      refine qTake (by kernel_rfl) ?_
                      apply Exists.intro
                      refine ⟨fun wq hq => ?_, ?_⟩
                      · go_light
                        obtain ⟨d0, d1, d2, d3, d4, -⟩ := hq
                        go_simp
                        try with_reducible rfl
                        done
                      try simp only [Act.put, List.setIfInBounds_toArray, List.set_cons_zero, List.set_cons_succ]
                    refine qNil ?_
                    intro w6 hC
                    have HG6 := Lib.hid (HGW.out.trans hC.2.2.2.2.2)
                    clear hC
                    go_wp2_with fail
                    go_roundw
                    case measure => simp [intOf]; omega
                    case rel => exact ⟨i + 1, by omega, by go_num, by rw [HNX.out]; simp [hky, hel, p3, hk4], HG6⟩
                  · have p3 : decide (ok = 4) = false := decide_eq_false hk4
                    have p4 : (ok == 4) = false := beq_eq_false_iff_ne.2 hk4
                    by_cases hk6 : ok = 6
                    · have p5 : decide (ok = 6) = true := decide_eq_true hk6
                      have p6 : (ok == 6) = true := beq_iff_eq.2 hk6
                      refine qRegion (fun w' => w'.cell? ⟨wi.heap.size, 0, none⟩ = some (.int .i64 ok) ∧ w'.cell? ⟨wi.heap.size, 1, none⟩ = some (.string oky) ∧ w'.cell? ⟨wi.heap.size, 2, none⟩ = some (.string oe) ∧ w'.cell? ⟨P, 1, none⟩ = some (.slice (some ⟨b, off, none⟩) m c) ∧ w'.cell? ⟨b, off + j, none⟩ = some (.string s) ∧ Gr W5 w') (by kernel_rfl) (by kernel_rfl) ⟨(Gr.refl _).drew.cell HY.out.1, (Gr.refl _).drew.cell HY.out.2.1, (Gr.refl _).drew.cell HY.out.2.2.1, (Gr.refl _).drew.cell HY.out.2.2.2.1, (Gr.refl _).drew.cell HY.out.2.2.2.2, (Gr.refl _).drew⟩ ?_
                      iterate 28
                        refine qTake (by kernel_rfl) ?_
                        apply Exists.intro
                        refine ⟨fun wq hq => ?_, ?_⟩
                        · go_light
                          obtain ⟨d0, d1, d2, d3, d4, -⟩ := hq
                          go_simp
                          try with_reducible rfl
                          done
                        try simp only [Act.put, List.setIfInBounds_toArray, List.set_cons_zero, List.set_cons_succ]
                      refine qNil ?_
                      intro w6 hC
                      have HG6 := Lib.hid (HGW.out.trans hC.2.2.2.2.2)
                      clear hC
                      go_wp2_with fail
                      go_roundw
                      case measure => simp [intOf]; omega
                      case rel => exact ⟨i + 1, by omega, by go_num, by rw [HNX.out]; simp [hky, hel, p3, p5, hk4, hk6], HG6⟩
                    · have p5 : decide (ok = 6) = false := decide_eq_false hk6
                      have p6 : (ok == 6) = false := beq_eq_false_iff_ne.2 hk6
                      refine qRegion (fun w' => w'.cell? ⟨wi.heap.size, 0, none⟩ = some (.int .i64 ok) ∧ w'.cell? ⟨wi.heap.size, 1, none⟩ = some (.string oky) ∧ w'.cell? ⟨wi.heap.size, 2, none⟩ = some (.string oe) ∧ w'.cell? ⟨P, 1, none⟩ = some (.slice (some ⟨b, off, none⟩) m c) ∧ w'.cell? ⟨b, off + j, none⟩ = some (.string s) ∧ Gr W5 w') (by kernel_rfl) (by kernel_rfl) ⟨(Gr.refl _).drew.cell HY.out.1, (Gr.refl _).drew.cell HY.out.2.1, (Gr.refl _).drew.cell HY.out.2.2.1, (Gr.refl _).drew.cell HY.out.2.2.2.1, (Gr.refl _).drew.cell HY.out.2.2.2.2, (Gr.refl _).drew⟩ ?_
                      iterate 28
                        refine qTake (by kernel_rfl) ?_
                        apply Exists.intro
                        refine ⟨fun wq hq => ?_, ?_⟩
                        · go_light
                          obtain ⟨d0, d1, d2, d3, d4, -⟩ := hq
                          go_simp
                          try with_reducible rfl
                          done
                        try simp only [Act.put, List.setIfInBounds_toArray, List.set_cons_zero, List.set_cons_succ]
                      refine qNil ?_
                      intro w6 hC
                      have HG6 := Lib.hid (HGW.out.trans hC.2.2.2.2.2)
                      clear hC
                      go_wp2_with fail
                      go_roundw
                      case measure => simp [intOf]; omega
                      case rel => exact ⟨i + 1, by omega, by go_num, by rw [HNX.out]; simp [hky, hel, p3, p5, hk4, hk6], HG6⟩
end Go.Proofs.Ytaldgjcbbjjceaa
