/- The law FoldSame. Written by wip/tools/genfoz.py. -/
import Derived.Test.YtlihcjlonafohaaGreatZf47
import Derived.Test.YtlihcjlonafohaaGreatZf49
namespace Go.Proofs.YtlihcjlonafohaaGreat
open Go.RowKit Go.Joins
set_option linter.unusedSimpArgs false
set_option linter.unusedVariables false

/-- A row of bytes reads so. -/
def YV (w : World) (v : Value) (K : List Nat) : Prop :=
  ∃ A c, v = .slice A K.length c ∧ (K.length ≤ c ∧ c ≤ 9223372036854775807) ∧ ∀ j (hj : j < K.length), ∃ b off, A = some ⟨b, off, none⟩ ∧ w.cell? ⟨b, off + j, none⟩ = some (.int .u8 (K[j] : Int)) ∧ K[j] ≤ 255
theorem YV.gr {w w' : World} {v : Value} {K : List Nat} (h : YV w v K) (g : Gr w w') : YV w' v K := by
  obtain ⟨A, c, hv, h1, h3⟩ := h
  refine ⟨A, c, hv, h1, fun j hj => ?_⟩
  obtain ⟨b, off, ha, hc, hk⟩ := h3 j hj
  exact ⟨b, off, ha, g.cell hc, hk⟩
theorem vinfo8 : (Tryz.prog.info? 27).map (·.size) = some 8 := by kernel_rfl
theorem vcells_ones (d : Nat → Nat) : (vcells d).all (·.oneCell') = true := by
  rw [Array.all_eq_true_iff_forall_mem]
  intro v hv
  rw [Array.mem_def] at hv
  unfold vcells at hv
  simp only [List.mem_cons, List.not_mem_nil, or_false] at hv
  rcases hv with rfl | rfl | rfl | rfl | rfl | rfl | rfl | rfl <;> rfl
/-- What the law's loop keeps. -/
structure FsS (w : World) (u : Nat → S3) (cv : Nat → Nat) (Pa Pb Pd : Nat) (sa sb : FS) (va1 va2 vb1 vb2 : Value) (d : Nat → Nat) (sl : Value) (L : List TX) (wr : World) : Prop where
  ba : wr.heap[Pa]? = some (.cells (fsc sa.k sa.n va1 va2 sa.has sa.st sa.top sa.df) 39 (0, 0))
  bb : wr.heap[Pb]? = some (.cells (fsc sb.k sb.n vb1 vb2 sb.has sb.st sb.top sb.df) 39 (0, 0))
  bd : VBox wr Pd d
  a1 : SO wr w.heap.size va1 sa.ever
  a2 : GOw wr w.heap.size va2 sa.live
  b1 : SO wr w.heap.size vb1 sb.ever
  b2 : GOw wr w.heap.size vb2 sb.live
  xs : XN wr w.heap.size sl L
  lg : LBox wr w.heap.size u
  vv : VBox wr (w.heap.size + 1) cv
  gr : Gr w wr
section
variable {w : World} {u : Nat → S3} {cv : Nat → Nat} {Pa Pb Pd : Nat} {sa sb s' : FS} {va1 va2 vb1 vb2 ve' vl' : Value} {d : Nat → Nat} {sl : Value} {L : List TX} {wr w' : World}
theorem FsS.next (h : FsS w u cv Pa Pb Pd sa sb va1 va2 vb1 vb2 d sl L wr) (g : Gr wr w') : FsS w u cv Pa Pb Pd sa sb va1 va2 vb1 vb2 d sl L w' :=
  ⟨gr_obj g h.ba, gr_obj g h.bb, h.bd.gr g, h.a1.gr g, h.a2.gr g, h.b1.gr g, h.b2.gr g, h.xs.keepsV (Keeps.of_gr g), h.lg.gr g, h.vv.gr g, h.gr.trans g⟩
theorem FsS.putA (h : FsS w u cv Pa Pb Pd sa sb va1 va2 vb1 vb2 d sl L wr) (hP : w.heap.size + 1 < Pa) (hab : Pa ≠ Pb) (had : Pa ≠ Pd) (h1 : SO wr w.heap.size ve' s'.ever) (h2 : GOw wr w.heap.size vl' s'.live) :
    FsS w u cv Pa Pb Pd s' sb ve' vl' vb1 vb2 d sl L (wr.setRow Pa (fsc s'.k s'.n ve' vl' s'.has s'.st s'.top s'.df)) :=
  ⟨setRow_heap wr Pa _ _ 39 _ h.ba, by rw [setRow_other _ _ _ _ hab.symm]; exact h.bb, ⟨by rw [setRow_other _ _ _ _ had.symm]; exact h.bd.box⟩, h1.keepsV (keeps_setRow h.ba), own_keeps h2 (by decide) (keeps_setRow h.ba), h.b1.keepsV (keeps_setRow h.ba), own_keeps h.b2 (by decide) (keeps_setRow h.ba), h.xs.keepsV (keeps_setRow h.ba),
    ⟨by rw [setRow_other _ _ _ _ (by omega)]; exact h.lg.box⟩, ⟨by rw [setRow_other _ _ _ _ (by omega)]; exact h.vv.box⟩, below_setRow h.gr (by omega) _⟩
theorem FsS.putAC (h : FsS w u cv Pa Pb Pd sa sb va1 va2 vb1 vb2 d sl L wr) (hP : w.heap.size + 1 < Pa) (hab : Pa ≠ Pb) (had : Pa ≠ Pd) (h1 : SO wr w.heap.size ve' s'.ever) (h2 : GOw wr w.heap.size vl' s'.live) :
    FsS w u cv Pa Pb Pd s' sb ve' vl' vb1 vb2 d sl L (putCells wr Pa 0 (fsc s'.k s'.n ve' vl' s'.has s'.st s'.top s'.df).toList) := by
  have kk : Keeps btV wr (putCells wr Pa 0 (fsc s'.k s'.n ve' vl' s'.has s'.st s'.top s'.df).toList) := putCells_keeps h.ba (by decide) _ _
  have far : ∀ b, b ≠ Pa → (putCells wr Pa 0 (fsc s'.k s'.n ve' vl' s'.has s'.st s'.top s'.df).toList).heap[b]? = wr.heap[b]? := fun b hb => putCells_far _ _ _ _ _ hb
  exact ⟨putCells_full h.ba rfl, by rw [far _ hab.symm]; exact h.bb, ⟨by rw [far _ had.symm]; exact h.bd.box⟩, h1.keepsV kk, own_keeps h2 (by decide) kk, h.b1.keepsV kk, own_keeps h.b2 (by decide) kk, h.xs.keepsV kk,
    ⟨by rw [far _ (by omega)]; exact h.lg.box⟩, ⟨by rw [far _ (by omega)]; exact h.vv.box⟩, Gr.putCells (by omega) _ _ h.gr⟩
theorem FsS.putBC (h : FsS w u cv Pa Pb Pd sa sb va1 va2 vb1 vb2 d sl L wr) (hP : w.heap.size + 1 < Pb) (hab : Pa ≠ Pb) (hbd : Pb ≠ Pd) (h1 : SO wr w.heap.size ve' s'.ever) (h2 : GOw wr w.heap.size vl' s'.live) :
    FsS w u cv Pa Pb Pd sa s' va1 va2 ve' vl' d sl L (putCells wr Pb 0 (fsc s'.k s'.n ve' vl' s'.has s'.st s'.top s'.df).toList) := by
  have kk : Keeps btV wr (putCells wr Pb 0 (fsc s'.k s'.n ve' vl' s'.has s'.st s'.top s'.df).toList) := putCells_keeps h.bb (by decide) _ _
  have far : ∀ b, b ≠ Pb → (putCells wr Pb 0 (fsc s'.k s'.n ve' vl' s'.has s'.st s'.top s'.df).toList).heap[b]? = wr.heap[b]? := fun b hb => putCells_far _ _ _ _ _ hb
  exact ⟨by rw [far _ hab]; exact h.ba, putCells_full h.bb rfl, ⟨by rw [far _ hbd.symm]; exact h.bd.box⟩, h.a1.keepsV kk, own_keeps h.a2 (by decide) kk, h1.keepsV kk, own_keeps h2 (by decide) kk, h.xs.keepsV kk,
    ⟨by rw [far _ (by omega)]; exact h.lg.box⟩, ⟨by rw [far _ (by omega)]; exact h.vv.box⟩, Gr.putCells (by omega) _ _ h.gr⟩
theorem FsS.putD (h : FsS w u cv Pa Pb Pd sa sb va1 va2 vb1 vb2 d sl L wr) (hP : w.heap.size + 1 < Pd) (had : Pa ≠ Pd) (hbd : Pb ≠ Pd) {i : Nat} (hi : i < 8) (m : Nat) :
    FsS w u cv Pa Pb Pd sa sb va1 va2 vb1 vb2 (upd d i m) sl L (wr.setCell ⟨Pd, i, none⟩ (.int .u64 (m : Int))) := by
  have hk : Keeps btV wr (wr.setCell ⟨Pd, i, none⟩ (.int .u64 (m : Int))) := fun b cs t fr ht hb => by
    have hne : b ≠ Pd := fun e => by
      subst e
      rw [h.bd.box] at hb
      injection hb with hb
      injection hb with e1 e2 e3
      subst e2
      exact absurd ht (by decide)
    exact set_obj_other hb hne _
  exact ⟨set_obj_other h.ba had _, set_obj_other h.bb hbd _, h.bd.set hi m, h.a1.keepsV hk, own_keeps h.a2 (by decide) hk, h.b1.keepsV hk, own_keeps h.b2 (by decide) hk, h.xs.keepsV hk, ⟨set_obj_other h.lg.box (by omega) _⟩, ⟨set_obj_other h.vv.box (by omega) _⟩, h.gr.setCell (by show w.heap.size ≤ Pd; omega) _⟩
end
theorem closeV_closed (l : LG) (v : Nat → Nat) : closedP l (closeV l v) := (closeV_is l v).closed
/-- What the last region of a round keeps: two boxes are written anew. -/
structure RgI (W8 : World) (P13 P15 : Nat) (C1 C2 : Array Value) (vals : Vals) (w : World) : Prop where
  v0 : ∀ y, vals 0 = some y → y = .agg C1
  v1 : ∀ y, vals 1 = some y → y = .agg C2
  none2 : vals 2 = none → vals 3 = none ∧ w = W8
  some2 : ∀ y, vals 2 = some y → vals 3 = none → w = putCells W8 P13 0 C1.toList
  some3 : ∀ y, vals 3 = some y → (∃ z, vals 2 = some z) ∧ w = putCells (putCells W8 P13 0 C1.toList) P15 0 C2.toList
theorem RgI.start (W8 : World) (P13 P15 : Nat) (C1 C2 : Array Value) : RgI W8 P13 P15 C1 C2 (fun _ => none) W8 :=
  ⟨fun _ h => (by cases h), fun _ h => (by cases h), fun _ => ⟨rfl, rfl⟩, fun _ h => (by cases h), fun _ h => (by cases h)⟩
section
variable {W8 w : World} {P13 P15 : Nat} {C1 C2 : Array Value} {vals : Vals}
theorem RgI.up0 (h : RgI W8 P13 P15 C1 C2 vals w) (hn : vals 0 = none) : RgI W8 P13 P15 C1 C2 (vals.up 0 (.agg C1)) w :=
  ⟨fun y hy => (by rw [Vals.up_at] at hy; exact (Option.some.inj hy).symm), fun y hy => h.v1 y hy, fun h2 => h.none2 h2, fun y h2 h3 => h.some2 y h2 h3, fun y h3 => h.some3 y h3⟩
theorem RgI.up1 (h : RgI W8 P13 P15 C1 C2 vals w) (hn : vals 1 = none) : RgI W8 P13 P15 C1 C2 (vals.up 1 (.agg C2)) w :=
  ⟨fun y hy => h.v0 y hy, fun y hy => (by rw [Vals.up_at] at hy; exact (Option.some.inj hy).symm), fun h2 => h.none2 h2, fun y h2 h3 => h.some2 y h2 h3, fun y h3 => h.some3 y h3⟩
theorem RgI.up2 (h : RgI W8 P13 P15 C1 C2 vals w) (hn : vals 2 = none) {y : Value} : RgI W8 P13 P15 C1 C2 (vals.up 2 y) (putCells W8 P13 0 C1.toList) :=
  ⟨fun y hy => h.v0 y hy, fun y hy => h.v1 y hy, fun h2 => (by rw [Vals.up_at] at h2; cases h2), fun y h2 h3 => rfl, fun y h3 => (by
    have h4 : vals 3 = some y := h3
    rw [(h.none2 hn).1] at h4
    cases h4)⟩
theorem RgI.up3 {W : World} (h : RgI W8 P13 P15 C1 C2 vals W) {z : Value} (h2 : vals 2 = some z) (hn : vals 3 = none) {y : Value} : RgI W8 P13 P15 C1 C2 (vals.up 3 y) (putCells (putCells W8 P13 0 C1.toList) P15 0 C2.toList) :=
  ⟨fun y hy => h.v0 y hy, fun y hy => h.v1 y hy, fun h3 => (by
    have h4 : vals 2 = none := h3
    rw [h2] at h4
    cases h4), fun y _ h3 => (by rw [Vals.up_at] at h3; cases h3), fun y _ => ⟨⟨z, h2⟩, rfl⟩⟩
theorem RgI.box (h : RgI W8 P13 P15 C1 C2 vals w) {b : Nat} {o : Obj} (h1 : b ≠ P13) (h2 : b ≠ P15) (hb : W8.heap[b]? = some o) : w.heap[b]? = some o := by
  cases e2 : vals 2 with
  | none => rw [(h.none2 e2).2]; exact hb
  | some y =>
    cases e3 : vals 3 with
    | none => rw [h.some2 y e2 e3, putCells_far _ _ _ _ _ h1]; exact hb
    | some z => rw [(h.some3 z e3).2, putCells_far _ _ _ _ _ h2, putCells_far _ _ _ _ _ h1]; exact hb
end
/-- The eleven cells of a state's box. -/
def CellsS (w : World) (P : Nat) (k n : Int) (ve vl : Value) (has : Bool) (st : Nat) (top : TG) (df : Bool) : Prop := w.cell? ⟨P, 0, none⟩ = some (.int .i64 k) ∧ w.cell? ⟨P, 1, none⟩ = some (.int .i64 n) ∧ w.cell? ⟨P, 2, none⟩ = some ve ∧ w.cell? ⟨P, 3, none⟩ = some vl ∧ w.cell? ⟨P, 4, none⟩ = some (.bool has) ∧ w.cell? ⟨P, 5, none⟩ = some (.int .u64 (st : Int)) ∧ w.cell? ⟨P, 6, none⟩ = some (.int .i64 top.o) ∧ w.cell? ⟨P, 7, none⟩ = some (.int .i64 top.i) ∧ w.cell? ⟨P, 8, none⟩ = some (.int .u64 (top.s : Int)) ∧ w.cell? ⟨P, 9, none⟩ = some (.string top.e) ∧ w.cell? ⟨P, 10, none⟩ = some (.bool df)
theorem CellsS.gr {w w' : World} {P : Nat} {k n : Int} {ve vl : Value} {has : Bool} {st : Nat} {top : TG} {df : Bool} (h : CellsS w P k n ve vl has st top df) (g : Gr w w') : CellsS w' P k n ve vl has st top df := by
  obtain ⟨a0, a1, a2, a3, a4, a5, a6, a7, a8, a9, a10⟩ := h
  exact ⟨g.cell a0, g.cell a1, g.cell a2, g.cell a3, g.cell a4, g.cell a5, g.cell a6, g.cell a7, g.cell a8, g.cell a9, g.cell a10⟩
set_option maxRecDepth 100000 in
set_option maxHeartbeats 32000000 in
theorem same11_law (kind start : Int) (u : Nat → S3) (l : LG) (v : Nat → Nat) (pk : Value) (K : List Nat) (w : World) (h : LV w u l) (hf : FitL l) (hst : wrap64 start = start) (hy : YV w pk K) :
    Calls Tryz.prog 3 #[.int .i64 kind, .int .i64 start, .agg (lcells u), .agg (vcells v), pk] w fun e w' => e = .returned (.bool true) ∧ Gr w w' := by
  obtain ⟨Ap, cp, rfl, ⟨hcp, hcp2⟩, hpk⟩ := hy
  obtain ⟨np, hnp⟩ : ∃ n, n = K.length := ⟨_, rfl⟩
  rw [← hnp] at hcp ⊢
  have HNP := Lib.hid hnp
  have HPK := Lib.hid hpk
  obtain ⟨W, hW, hg, hsz, hL, hV⟩ := boxesLV u v w
  have HL := Lib.hid hL
  have HV := Lib.hid hV
  have HG := Lib.hid hg
  have HLV := Lib.hid h
  have HF := Lib.hid hf
  have HSTA := Lib.hid hst
  have HCK := Lib.hid (fun w1 (g : Gr w w1) => rcheck9_any u l w1 (h.gr g) hf.q)
  obtain ⟨ce, hce⟩ : ∃ c, c = checkE l := ⟨_, rfl⟩
  rw [← hce] at HCK
  have HCE := Lib.hid hce
  clear h hf hL hV hg hsz hce hnp hpk hst
  by_cases h0 : ce = 0
  case neg =>
    have hn1 : ¬ ((ce : Int) = 0) := by omega
    have hn2 : ((ce : Int) == 0) = false := beq_eq_false_iff_ne.2 hn1
    have hn3 : ((ce : Int) != 0) = true := bne_iff_ne.2 hn1
    have hn4 : decide ((ce : Int) = 0) = false := decide_eq_false hn1
    go_enter Tryz.func3, Tryz.ntmps3
    go_upto_region 1 with (fail)
    rw [← hW]
    clear hW
    go_wp2_with fail
    refine (awake11_any W).mono ?_
    rintro e w1 ⟨rfl, g1⟩
    have HG1 := Lib.hid (HG.out.trans g1)
    obtain ⟨l0, l1, l2, l3, l4, l5, l6, l7⟩ := (HL.out.gr g1).all
    clear g1
    go_wp2_with fail
    refine (HCK.out w1 HG1.out).mono ?_
    rintro e w2 ⟨rfl, g2⟩
    go_wp2_with fail
    go_ret
    exact ⟨rfl, HG1.out.trans g2⟩
  subst h0
  by_cases hk : knownB kind = true
  case neg =>
    have hkk : knownB kind = false := by simpa using hk
    unfold knownB at hkk
    by_cases h1 : kind < 1
    · have d1 : decide (kind < 1) = true := decide_eq_true h1
      clear hkk hk
      go_enter Tryz.func3, Tryz.ntmps3
      go_upto_region 1 with (fail)
      rw [← hW]
      clear hW
      go_wp2_with fail
      refine (awake11_any W).mono ?_
      rintro e w1 ⟨rfl, g1⟩
      have HG1 := Lib.hid (HG.out.trans g1)
      obtain ⟨l0, l1, l2, l3, l4, l5, l6, l7⟩ := (HL.out.gr g1).all
      clear g1
      go_wp2_with fail
      refine (HCK.out w1 HG1.out).mono ?_
      rintro e w2 ⟨rfl, g2⟩
      go_wp2_with fail
      go_ret
      exact ⟨rfl, HG1.out.trans g2⟩
    · have h8 : kind > 8 := by
        rw [decide_eq_true (by omega : (1 : Int) ≤ kind), Bool.true_and, decide_eq_false_iff_not] at hkk
        omega
      have d1 : decide (kind < 1) = false := decide_eq_false h1
      have d8 : decide (kind > 8) = true := decide_eq_true h8
      have h9 : 8 < kind := h8
      have d9 : decide (8 < kind) = true := decide_eq_true h8
      clear hkk hk
      go_enter Tryz.func3, Tryz.ntmps3
      go_upto_region 1 with (fail)
      rw [← hW]
      clear hW
      go_wp2_with fail
      refine (awake11_any W).mono ?_
      rintro e w1 ⟨rfl, g1⟩
      have HG1 := Lib.hid (HG.out.trans g1)
      obtain ⟨l0, l1, l2, l3, l4, l5, l6, l7⟩ := (HL.out.gr g1).all
      clear g1
      go_wp2_with fail
      refine (HCK.out w1 HG1.out).mono ?_
      rintro e w2 ⟨rfl, g2⟩
      go_wp2_with fail
      go_ret
      exact ⟨rfl, HG1.out.trans g2⟩
  have HK := Lib.hid hk
  have HOK : Hid (OkL l) := Lib.hid (okL_iff.1 HCE.out.symm)
  have hkc := known_cases hk
  have d1 : decide (kind < 1) = false := decide_eq_false (by omega)
  have d2 : ¬ kind < 1 := by omega
  have d8 : decide (kind > 8) = false := decide_eq_false (by omega)
  have d9 : decide (8 < kind) = false := decide_eq_false (by omega)
  have d10 : ¬ 8 < kind := by omega
  have HCL := Lib.hid (fun w1 (g : Gr w w1) => rclose_det u l v w1 (HLV.out.gr g))
  obtain ⟨cv, hcv⟩ : ∃ c, c = closeV l v := ⟨_, rfl⟩
  have HORD := Lib.hid (fun w1 (g : Gr w w1) => rord9_any u l cv w1 (HLV.out.gr g) HF.out.c HOK.out.len)
  have HCC : Hid (closedP l cv) := Lib.hid (by rw [hcv]; exact closeV_closed l v)
  rw [← hcv] at HCL
  have HBG := Lib.hid (fun w1 => begin_any kind start hk w.heap.size w1)
  clear hk hkc hcv
  go_enter Tryz.func3, Tryz.ntmps3
  go_upto_region 1 with (fail)
  rw [← hW]
  clear hW
  go_wp2_with fail
  refine (awake11_any W).mono ?_
  rintro e w1 ⟨rfl, g1⟩
  have HG1 := Lib.hid (HG.out.trans g1)
  have HL1 := Lib.hid (HL.out.gr g1)
  have HV1 := Lib.hid (HV.out.gr g1)
  obtain ⟨l0, l1, l2, l3, l4, l5, l6, l7⟩ := (HL.out.gr g1).all
  clear g1
  go_wp2_with fail
  refine (HCK.out w1 HG1.out).mono ?_
  rintro e w2 ⟨rfl, g2⟩
  have HG2 := Lib.hid (HG1.out.trans g2)
  have HL2 := Lib.hid (HL1.out.gr g2)
  have HV2 := Lib.hid (HV1.out.gr g2)
  clear g2 l0 l1 l2 l3 l4 l5 l6 l7
  obtain ⟨l0, l1, l2, l3, l4, l5, l6, l7⟩ := HL2.out.all
  obtain ⟨m0, m1, m2, m3, m4, m5, m6, m7⟩ := HV2.out.all
  go_upto_region 6 with (fail)
  clear d1 d2 d8 d9 d10
  go_wp2_with fail
  refine (HCL.out w2 HG2.out).mono ?_
  rintro e w3 ⟨rfl, g3⟩
  have HL3 := Lib.hid (HL2.out.gr g3)
  have HV3 := Lib.hid (HV2.out.gr g3)
  have HG3 := Lib.hid (HG2.out.trans g3)
  clear l0 l1 l2 l3 l4 l5 l6 l7 m0 m1 m2 m3 m4 m5 m6 m7 g3
  have hvb := HV3.out.box
  go_upto_region 7 with (refine wpList_store_row rfl 27 (.tmp 8) (.tmp 44) rfl (w.heap.size + 1) (vcells cv) rfl rfl 27 _ hvb vinfo8 rfl (vcells_ones cv) ?_)
  obtain ⟨W4, hW4⟩ : ∃ X, X = w3.setRow (w.heap.size + 1) (vcells cv) := ⟨_, rfl⟩
  have HV4 : Hid (VBox W4 (w.heap.size + 1) cv) := Lib.hid ⟨by rw [hW4]; exact setRow_heap _ _ _ _ _ _ hvb⟩
  have HL4 : Hid (LBox W4 w.heap.size u) := Lib.hid ⟨by rw [hW4, setRow_other _ _ _ _ (by omega)]; exact HL3.out.box⟩
  have HG4 : Hid (Gr w W4) := Lib.hid (by rw [hW4]; exact below_setRow HG3.out (by omega) _)
  rw [← hW4]
  clear hW4 hvb
  obtain ⟨l0, l1, l2, l3, l4, l5, l6, l7⟩ := HL4.out.all
  obtain ⟨m0, m1, m2, m3, m4, m5, m6, m7⟩ := HV4.out.all
  go_wp2_with fail
  refine (HORD.out W4 HG4.out).mono ?_
  rintro e w5 ⟨sl, rfl, hxn, g5⟩
  clear l0 l1 l2 l3 l4 l5 l6 l7 m0 m1 m2 m3 m4 m5 m6 m7
  obtain ⟨O, hO⟩ : ∃ O, O = ordR l cv := ⟨_, rfl⟩
  rw [← hO] at hxn
  have HOO := Lib.hid hO
  obtain ⟨A9, c9, hv9⟩ := xv_form hxn.xv
  obtain ⟨N, hN⟩ : ∃ n, n = O.length := ⟨_, rfl⟩
  rw [← hN] at hv9
  subst hv9
  have HN := Lib.hid hN
  have HXN : Hid (XN w5 w.heap.size (.slice A9 N c9) O) := Lib.hid (hxn.le HG4.out.size)
  have HG5 := Lib.hid (HG4.out.trans g5)
  have HL5 := Lib.hid (HL4.out.gr g5)
  have HV5 := Lib.hid (HV4.out.gr g5)
  have hN6 : N ≤ 65536 := by rw [hN, hO]; exact ok_len HOK.out
  have HOP : Hid (∀ t ∈ O, t.ops.length ≤ 8) := Lib.hid (by rw [hO]; exact ok_ops HOK.out)
  have HTX : Hid (∀ t ∈ O, okTx t ∧ t.seq < 18446744073709551616 ∧ ∀ o ∈ t.ops, o.key.size ≤ 9223372036854775807 ∧ o.elem.size ≤ 281474976710656) := Lib.hid (fun t ht => by
    rw [hO] at ht
    obtain ⟨i, k, hi, -, hk⟩ := ordR_mem.1 ht
    have hm : t ∈ l i := List.mem_of_getElem? hk
    have hx := HF.out.fit i t hi hm
    refine ⟨(HOK.out.tx i k t hi hk).1, hx.seq, fun o ho => ?_⟩
    have := HF.out.c.tx i t hi hm
    have h2 := this.2 o ho
    exact ⟨by omega, h2.2⟩)
  clear hxn g5 hN hO
  by_cases h60 : N ≤ 60
  case neg =>
    have f1 : (N : Int) > 60 := by omega
    have f2 : decide ((N : Int) > 60) = true := decide_eq_true f1
    have f3 : (60 : Int) < (N : Int) := f1
    have f4 : decide ((60 : Int) < (N : Int)) = true := decide_eq_true f1
    go_wp2_with fail
    go_ret
    exact ⟨rfl, HG5.out⟩
  have f1 : ¬ (N : Int) > 60 := by omega
  have f2 : decide ((N : Int) > 60) = false := decide_eq_false f1
  have f3 : ¬ (60 : Int) < (N : Int) := f1
  have f4 : decide ((60 : Int) < (N : Int)) = false := decide_eq_false f1
  go_upto_region 10 with (fail)
  clear f1 f2 f3 f4
  go_wp2_with fail
  refine (HBG.out w5).mono ?_
  rintro e w6 ⟨vs, rfl, hfv, g6⟩
  obtain ⟨ve0, vl0, rfl, he0, hl0⟩ := hfv
  obtain ⟨Ae, ne, cee, rfl⟩ := sv_form3 he0.sv
  obtain ⟨Al, nl, cl, rfl⟩ := gv_form hl0.gv
  obtain ⟨s0, hs0⟩ : ∃ x, x = beginS kind start := ⟨_, rfl⟩
  rw [← hs0] at he0 hl0
  rw [← hs0]
  have HS0 := Lib.hid hs0
  have HE0 := Lib.hid (And.intro he0 hl0)
  have HG6 := Lib.hid (HG5.out.trans g6)
  have HL6 := Lib.hid (HL5.out.gr g6)
  have HV6 := Lib.hid (HV5.out.gr g6)
  have HXN6 : Hid (XN w6 w.heap.size (.slice A9 N c9) O) := Lib.hid (HXN.out.keepsV (Keeps.of_gr g6))
  clear he0 hl0 g6 hs0
  obtain ⟨k0, m0, E0, L0, has0, st0, top0, df0⟩ := s0
  go_upto_region 11 with (refine wpList_store_row rfl 39 (.tmp 13) (.tmp 55) rfl w6.heap.size (fsc k0 m0 (.slice Ae ne cee) (.slice Al nl cl) has0 st0 top0 df0) rfl rfl 39 zst (heap_alloc _ _ _) sinfo rfl (fsc_ones _ _ _ _ _ _ _ _ _ _ _ _) ?_)
  obtain ⟨W7, hW7⟩ : ∃ X, X = (w6.alloc (.cells zst 39)).setRow w6.heap.size (fsc k0 m0 (.slice Ae ne cee) (.slice Al nl cl) has0 st0 top0 df0) := ⟨_, rfl⟩
  change Code.wp Tryz.prog _ _ _ ((w6.alloc (.cells zst 39)).setRow w6.heap.size (fsc k0 m0 (.slice Ae ne cee) (.slice Al nl cl) has0 st0 top0 df0))
  have hz7 : (w6.alloc (.cells zst 39)).heap[w6.heap.size]? = some (.cells zst 39 (0, 0)) := heap_alloc _ _ _
  have hk7 : Keeps btV w6 W7 := by rw [hW7]; exact (Keeps.of_gr (gr_box _ _)).trans (keeps_setRow hz7)
  have hg7 : Gr w6 W7 := by rw [hW7]; exact below_setRow ((Gr.refl w6).alloc _) (Nat.le_refl _) _
  have hb7 : W7.heap[w6.heap.size]? = some (.cells (fsc k0 m0 (.slice Ae ne cee) (.slice Al nl cl) has0 st0 top0 df0) 39 (0, 0)) := by rw [hW7]; exact setRow_heap _ _ _ _ _ _ hz7
  have hsz7 : W7.heap.size = w6.heap.size + 1 := by rw [hW7]; simp [World.setRow]
  obtain ⟨P13, hP13⟩ : ∃ P, P = w6.heap.size := ⟨_, rfl⟩
  rw [← hW7]
  clear hW7 hz7
  rw [← hP13] at hb7 hsz7 ⊢
  have HP13 := Lib.hid hP13
  have HSZ7 := Lib.hid hsz7
  clear hP13 hsz7
  go_upto_region 12 with (first | (refine wpList_load_row rfl 39 (.tmp 13) rfl P13 rfl 39 (fsc k0 m0 (.slice Ae ne cee) (.slice Al nl cl) has0 st0 top0 df0) (0, 0) _ hb7 Tryz.underlying39 rfl sinfo ?_) | (refine wpList_store_row rfl 39 (.tmp 15) (.tmp 57) rfl W7.heap.size (fsc k0 m0 (.slice Ae ne cee) (.slice Al nl cl) has0 st0 top0 df0) rfl rfl 39 zst (heap_alloc _ _ _) sinfo rfl (fsc_ones _ _ _ _ _ _ _ _ _ _ _ _) ?_))
  obtain ⟨W8, hW8⟩ : ∃ X, X = (W7.alloc (.cells zst 39)).setRow W7.heap.size (fsc k0 m0 (.slice Ae ne cee) (.slice Al nl cl) has0 st0 top0 df0) := ⟨_, rfl⟩
  change Code.wp Tryz.prog _ _ _ ((W7.alloc (.cells zst 39)).setRow W7.heap.size (fsc k0 m0 (.slice Ae ne cee) (.slice Al nl cl) has0 st0 top0 df0))
  have hz8 : (W7.alloc (.cells zst 39)).heap[W7.heap.size]? = some (.cells zst 39 (0, 0)) := heap_alloc _ _ _
  have hk8 : Keeps btV W7 W8 := by rw [hW8]; exact (Keeps.of_gr (gr_box _ _)).trans (keeps_setRow hz8)
  have hg8 : Gr W7 W8 := by rw [hW8]; exact below_setRow ((Gr.refl W7).alloc _) (Nat.le_refl _) _
  have hb8 : W8.heap[W7.heap.size]? = some (.cells (fsc k0 m0 (.slice Ae ne cee) (.slice Al nl cl) has0 st0 top0 df0) 39 (0, 0)) := by rw [hW8]; exact setRow_heap _ _ _ _ _ _ hz8
  have hsz8 : W8.heap.size = W7.heap.size + 1 := by rw [hW8]; simp [World.setRow]
  rw [← hW8]
  clear hW8 hz8
  have hsz7 := HSZ7.out
  rw [hsz7] at hb8 hsz8 ⊢
  obtain ⟨P15, hP15⟩ : ∃ P, P = P13 + 1 := ⟨_, rfl⟩
  rw [← hP15] at hb8 hsz8 ⊢
  have HP15 := Lib.hid hP15
  have HSZ8 := Lib.hid hsz8
  clear hP15 hsz8 hsz7
  obtain ⟨W9, hW9⟩ : ∃ X, X = W8.alloc (.cells V0 27) := ⟨_, rfl⟩
  have hb9 : W9.heap[W8.heap.size]? = some (.cells V0 27 (0, 0)) := by rw [hW9]; exact heap_alloc _ _ _
  have hg9 : Gr W8 W9 := by rw [hW9]; exact (Gr.refl _).alloc _
  go_upto_region 13 with (fail)
  change Code.wp Tryz.prog _ _ _ (W8.alloc (.cells V0 27))
  rw [← hW9]
  clear hW9
  have hsz8 := HSZ8.out
  rw [hsz8] at hb9 ⊢
  obtain ⟨P16, hP16⟩ : ∃ P, P = P15 + 1 := ⟨_, rfl⟩
  rw [← hP16] at hb9 ⊢
  have HPP : Hid (w.heap.size + 1 < P13 ∧ P13 ≠ P15 ∧ P13 ≠ P16 ∧ P15 ≠ P16 ∧ w.heap.size + 1 < P15 ∧ w.heap.size + 1 < P16) := Lib.hid (by
    have := (Array.getElem?_eq_some_iff.1 HV6.out.box).1
    have hP13 := HP13.out
    have hP15 := HP15.out
    exact ⟨by omega, by omega, by omega, by omega, by omega, by omega⟩)
  have HFS : Hid (FsS w u cv P13 P15 P16 (foldS kind start ⟨#[107]⟩ (O.take 0)) (foldS kind start ⟨#[107]⟩ []) (.slice Ae ne cee) (.slice Al nl cl) (.slice Ae ne cee) (.slice Al nl cl) (fun _ => 0) (.slice A9 N c9) O W9) := Lib.hid (by
    have e0 : foldS kind start ⟨#[107]⟩ (O.take 0) = ⟨k0, m0, E0, L0, has0, st0, top0, df0⟩ := HS0.out.symm
    have e1 : foldS kind start ⟨#[107]⟩ [] = ⟨k0, m0, E0, L0, has0, st0, top0, df0⟩ := HS0.out.symm
    rw [e0, e1]
    have kk : Keeps btV w6 W9 := (hk7.trans hk8).trans (Keeps.of_gr hg9)
    have gg : Gr w6 W9 := (hg7.trans hg8).trans hg9
    exact ⟨gr_obj (hg8.trans hg9) hb7, gr_obj hg9 hb8, vbox0 hb9, HE0.out.1.keepsV kk, own_keeps HE0.out.2 (by decide) kk, HE0.out.1.keepsV kk, own_keeps HE0.out.2 (by decide) kk, HXN6.out.keepsV kk, HL6.out.gr gg, HV6.out.gr gg, HG6.out.trans gg⟩)
  have HPI : Hid (PickI O [] (fun _ => 0)) := Lib.hid (by rw [HOO.out]; exact pick_start HOK.out)
  clear hb7 hb8 hb9 hk7 hk8 hg7 hg8 hg9 hsz8 hP16
  go_wp2_with fail
  go_loopw [17] (fun i wr => ∃ j : Nat, j ≤ N ∧ i = .int .i64 j ∧ Hid (∃ P d va1 va2 vb1 vb2, PickI O P d ∧ P.length = j ∧ FsS w u cv P13 P15 P16 (foldS kind start ⟨#[107]⟩ (O.take j)) (foldS kind start ⟨#[107]⟩ P) va1 va2 vb1 vb2 d (.slice A9 N c9) O wr)) (fun i _ => N - (intOf i).toNat)
  case atStart => exact ⟨0, Nat.zero_le _, rfl, Lib.hid ⟨_, _, _, _, _, _, HPI.out, rfl, HFS.out⟩⟩
  case round =>
    obtain ⟨j, hj, rfl, hst⟩ := hrel
    rename World => wr
    obtain ⟨P, d, va1, va2, vb1, vb2, hpi, hpl, hfs⟩ := hst.out
    clear hst
    obtain ⟨A7, n7, c7, rfl⟩ := sv_form3 hfs.a1.sv
    obtain ⟨A8, n8, c8, rfl⟩ := gv_form hfs.a2.gv
    obtain ⟨A5, n5, c5, rfl⟩ := sv_form3 hfs.b1.sv
    obtain ⟨A6, n6, c6, rfl⟩ := gv_form hfs.b2.gv
    have HPL := Lib.hid (And.intro hpi hpl)
    have hat60 : O.length ≤ 60 := by rw [← HN.out]; exact h60
    by_cases hjn : j < N
    · have hjl : j < O.length := by rw [← HN.out]; exact hjn
      obtain ⟨A', c', hv', -, -, hat⟩ := hfs.xs.xv
      injection hv' with q1 q2 q3
      subst q1 q3
      obtain ⟨b, off, rfl, vt, htv, hxf⟩ := hat j hjl
      clear hat q2
      obtain ⟨t, ht⟩ : ∃ t, t = O[j] := ⟨_, rfl⟩
      rw [← ht] at htv hxf
      obtain ⟨At, ct, hvt⟩ := tov_form htv
      obtain ⟨nt, hnt⟩ : ∃ n, n = t.ops.length := ⟨_, rfl⟩
      rw [← hnt] at hvt
      subst hvt
      have htm : t ∈ O := by rw [ht]; exact List.getElem_mem hjl
      have htx := HTX.out t htm
      have hfit := foldS_fit kind start ⟨#[107]⟩ HOP.out (fun t ht o ho => ((HTX.out t ht).2.2 o ho).2) j (by omega)
      have hfitb : FitM (j * 8) (foldS kind start ⟨#[107]⟩ P) := by
        have := foldS_fit kind start ⟨#[107]⟩ (L := P) (fun t ht => HOP.out t (hpi.sub t ht)) (fun t ht o ho => ((HTX.out t (hpi.sub t ht)).2.2 o ho).2) P.length (Nat.le_refl _)
        rwa [List.take_length, hpl] at this
      have HFB := Lib.hid hfitb
      have HNX : Hid (foldS kind start ⟨#[107]⟩ (O.take (j + 1)) = applyS ⟨#[107]⟩ t (foldS kind start ⟨#[107]⟩ (O.take j))) := Lib.hid (by rw [ht]; exact foldS_take kind start ⟨#[107]⟩ hjl)
      obtain ⟨sa, hsa⟩ : ∃ x, x = foldS kind start ⟨#[107]⟩ (O.take j) := ⟨_, rfl⟩
      have hkj : knownB sa.k = true := by rw [hsa, foldS_k HK.out]; exact HK.out
      rw [← hsa] at hfs hfit HNX
      obtain ⟨sb, hsb⟩ : ∃ x, x = foldS kind start ⟨#[107]⟩ P := ⟨_, rfl⟩
      have hkb : knownB sb.k = true := by rw [hsb, foldS_k HK.out]; exact HK.out
      rw [← hsb] at hfs HFB
      have HSB := Lib.hid (And.intro hsb hkb)
      obtain ⟨s1, hs1⟩ : ∃ x, x = applyS ⟨#[107]⟩ t sa := ⟨_, rfl⟩
      have HST0 := Lib.hid hfs
      have HAP : Hid (∀ w1, Gr wr w1 → Calls Tryz.prog 14 #[.agg (fsc sa.k sa.n (.slice A7 n7 c7) (.slice A8 n8 c8) sa.has sa.st sa.top sa.df), .agg (tcs t (.slice At nt ct)), .string ⟨#[107]⟩] w1 fun e w' => ∃ A1 n1 c1 A2 n2 c2, e = .returned (.tuple #[.agg (fsc s1.k s1.n (.slice A1 n1 c1) (.slice A2 n2 c2) s1.has s1.st s1.top s1.df), .int .i64 0]) ∧ SO w' w1.heap.size (.slice A1 n1 c1) s1.ever ∧ GOw w' w1.heap.size (.slice A2 n2 c2) s1.live ∧ Gr w1 w') := Lib.hid (fun w1 g => by
        have hrv : RV w1 (.agg (fsc sa.k sa.n (.slice A7 n7 c7) (.slice A8 n8 c8) sa.has sa.st sa.top sa.df)) sa := ⟨_, _, rfl, (hfs.a1.gr g).sv, (hfs.a2.gr g).gv⟩
        have ha := apply_ok sa _ t At nt ct ⟨#[107]⟩ w1 hrv hkj (htv.gr g) htx.2.1 htx.2.2 htx.1 (hfit.le (by omega))
        rw [← hs1] at ha
        exact ha.mono fun e w' h => h.form)
      rw [← hs1] at HNX
      have HXF := Lib.hid hxf
      have HJN : Hid ((j : Int) < (N : Int)) := Lib.hid (by omega)
      clear hxf htv htm htx hfit hfitb hkj hkb hsa hsb hs1 ht hnt hfs hpi hpl
      obtain ⟨ka, ma, Ea, La, hasa, sta, topa, dfa⟩ := sa
      obtain ⟨kb, mb, Eb, Lb, hasb, stb, topb, dfb⟩ := sb
      have HST : Hid (FsS w u cv P13 P15 P16 ⟨ka, ma, Ea, La, hasa, sta, topa, dfa⟩ ⟨kb, mb, Eb, Lb, hasb, stb, topb, dfb⟩ (.slice A7 n7 c7) (.slice A8 n8 c8) (.slice A5 n5 c5) (.slice A6 n6 c6) d (.slice (some ⟨b, off, none⟩) N c9) O wr) := Lib.hid HST0.out
      clear HST0
      have HWSp : Hid (w.heap.size ≤ wr.heap.size) := Lib.hid HST.out.gr.size
      simp only at HAP
      have hj0 : (0 : Int) ≤ (j : Int) := Int.natCast_nonneg _
      have hj1 : (j : Int) < (N : Int) := HJN.out
      go_upto_region 16 with (fail)
      refine wp_region_noPanic ?_
      refine iRegionA (RI btV wr (fun k => ((SFt w.heap.size (fsc ka ma (.slice A7 n7 c7) (.slice A8 n8 c8) hasa sta topa dfa) (.slice (some ⟨b, off, none⟩) N c9) j b (off + j * 12) t (.slice At nt ct) ⟨#[107]⟩ s1) k).P) [(10, 11, 8)] (fun _ => 39) (fun _ => zst)) (by kernel_rfl) (by kernel_rfl) (ri_start (fun k y wA wB => ((SFt w.heap.size (fsc ka ma (.slice A7 n7 c7) (.slice A8 n8 c8) hasa sta topa dfa) (.slice (some ⟨b, off, none⟩) N c9) j b (off + j * 12) t (.slice At nt ct) ⟨#[107]⟩ s1) k).st y wA wB) (Gr.refl _)) ?_ ?_
      · intro i o ho vals wp A hI hn hdep hOld hNew
        have hi : i < 13 := (List.getElem?_eq_some_iff.1 ho).1
        have hb10 : wp.heap[P13]? = some (.cells (fsc ka ma (.slice A7 n7 c7) (.slice A8 n8 c8) hasa sta topa dfa) 39 (0, 0)) := gr_obj hI.gr HST.out.ba
        have p0 : wp.cell? ⟨P13, 0, none⟩ = some (.int .i64 ka) := by rw [cell_of_block hb10]; rfl
        have p1 : wp.cell? ⟨P13, 1, none⟩ = some (.int .i64 ma) := by rw [cell_of_block hb10]; rfl
        have p2 : wp.cell? ⟨P13, 2, none⟩ = some (.slice A7 n7 c7) := by rw [cell_of_block hb10]; rfl
        have p3 : wp.cell? ⟨P13, 3, none⟩ = some (.slice A8 n8 c8) := by rw [cell_of_block hb10]; rfl
        have p4 : wp.cell? ⟨P13, 4, none⟩ = some (.bool hasa) := by rw [cell_of_block hb10]; rfl
        have p5 : wp.cell? ⟨P13, 5, none⟩ = some (.int .u64 (sta : Int)) := by rw [cell_of_block hb10]; rfl
        have p6 : wp.cell? ⟨P13, 6, none⟩ = some (.int .i64 topa.o) := by rw [cell_of_block hb10]; rfl
        have p7 : wp.cell? ⟨P13, 7, none⟩ = some (.int .i64 topa.i) := by rw [cell_of_block hb10]; rfl
        have p8 : wp.cell? ⟨P13, 8, none⟩ = some (.int .u64 (topa.s : Int)) := by rw [cell_of_block hb10]; rfl
        have p9 : wp.cell? ⟨P13, 9, none⟩ = some (.string topa.e) := by rw [cell_of_block hb10]; rfl
        have p10 : wp.cell? ⟨P13, 10, none⟩ = some (.bool dfa) := by rw [cell_of_block hb10]; rfl
        obtain ⟨x0, x1, x2, x3, x4, x5, x6, x7, x8, x9, x10, x11⟩ := HXF.out.gr hI.gr
        have hj1 : (j : Int) < (N : Int) := HJN.out
        have hj0 : (0 : Int) ≤ (j : Int) := Int.natCast_nonneg _
        clear hb10
        have eo11 : A.tmps[11]?.getD undef = .string ⟨#[107]⟩ := slotE (hOld 11 (by kernel_rfl))
        have eo12 : A.tmps[12]?.getD undef = .slice (some ⟨b, off, none⟩) N c9 := slotE (hOld 12 (by kernel_rfl))
        have eo13 : A.tmps[13]?.getD undef = .pointer (some ⟨P13, 0, none⟩) := slotE (hOld 13 (by kernel_rfl))
        have eo17 : A.tmps[17]?.getD undef = .int .i64 (j : Int) := slotE (hOld 17 (by kernel_rfl))
        obtain rfl | rfl | rfl | rfl | rfl | rfl | rfl | rfl | rfl | rfl | rfl | rfl | rfl : i = 0 ∨ i = 1 ∨ i = 2 ∨ i = 3 ∨ i = 4 ∨ i = 5 ∨ i = 6 ∨ i = 7 ∨ i = 8 ∨ i = 9 ∨ i = 10 ∨ i = 11 ∨ i = 12 := by omega
        · obtain rfl := Option.some.inj (show some _ = some o from ho)
          refine aVal rfl rfl (v := .agg (fsc ka ma (.slice A7 n7 c7) (.slice A8 n8 c8) hasa sta topa dfa)) (w' := wp) ?_ ⟨_, rfl, hI.val hn (by decide) (rfl)⟩
          go_simp
        · obtain rfl := Option.some.inj (show some _ = some o from ho)
          refine aVal rfl rfl (v := .slice (some ⟨b, off, none⟩) N c9) (w' := wp) ?_ ⟨_, rfl, hI.val hn (by decide) (rfl)⟩
          go_simp
        · obtain rfl := Option.some.inj (show some _ = some o from ho)
          refine aVal rfl rfl (v := .int .i64 (j : Int)) (w' := wp) ?_ ⟨_, rfl, hI.val hn (by decide) (rfl)⟩
          go_simp
        · obtain rfl := Option.some.inj (show some _ = some o from ho)
          obtain ⟨y1, hy1⟩ := hdep ⟨1, .data⟩ (by simp) rfl
          obtain rfl : y1 = .slice (some ⟨b, off, none⟩) N c9 := hI.ok 1 y1 hy1
          have s1 := slotE (hNew 1 66 _ _ rfl rfl (by kernel_rfl) hy1)
          obtain ⟨y2, hy2⟩ := hdep ⟨2, .data⟩ (by simp) rfl
          obtain rfl : y2 = .int .i64 (j : Int) := hI.ok 2 y2 hy2
          have s2 := slotE (hNew 2 67 _ _ rfl rfl (by kernel_rfl) hy2)
          refine aVal rfl rfl (v := .pointer (some ⟨b, off + j * 12, none⟩)) (w' := wp) ?_ ⟨_, rfl, hI.val hn (by decide) (rfl)⟩
          go_simp
        · obtain rfl := Option.some.inj (show some _ = some o from ho)
          obtain ⟨y3, hy3⟩ := hdep ⟨3, .data⟩ (by simp) rfl
          obtain rfl : y3 = .pointer (some ⟨b, off + j * 12, none⟩) := hI.ok 3 y3 hy3
          have s3 := slotE (hNew 3 68 _ _ rfl rfl (by kernel_rfl) hy3)
          refine aVal rfl rfl (v := .agg (tcs t (.slice At nt ct))) (w' := wp) ?_ ⟨_, rfl, hI.val hn (by decide) (rfl)⟩
          go_simp
        · obtain rfl := Option.some.inj (show some _ = some o from ho)
          refine aVal rfl rfl (v := .string ⟨#[107]⟩) (w' := wp) ?_ ⟨_, rfl, hI.val hn (by decide) (rfl)⟩
          go_simp
        · obtain rfl := Option.some.inj (show some _ = some o from ho)
          obtain ⟨y0, hy0⟩ := hdep ⟨0, .data⟩ (by simp) rfl
          obtain rfl : y0 = .agg (fsc ka ma (.slice A7 n7 c7) (.slice A8 n8 c8) hasa sta topa dfa) := hI.ok 0 y0 hy0
          have s0 := slotE (hNew 0 65 _ _ rfl rfl (by kernel_rfl) hy0)
          obtain ⟨y4, hy4⟩ := hdep ⟨4, .data⟩ (by simp) rfl
          obtain rfl : y4 = .agg (tcs t (.slice At nt ct)) := hI.ok 4 y4 hy4
          have s4 := slotE (hNew 4 69 _ _ rfl rfl (by kernel_rfl) hy4)
          obtain ⟨y5, hy5⟩ := hdep ⟨5, .data⟩ (by simp) rfl
          obtain rfl : y5 = .string ⟨#[107]⟩ := hI.ok 5 y5 hy5
          have s5 := slotE (hNew 5 70 _ _ rfl rfl (by kernel_rfl) hy5)
          refine aCall rfl rfl (w1 := wp) ?_ ((HAP.out wp hI.gr).mono fun e w' ⟨A1, n1, c1, A2, n2, c2, he, h1, h2, hg⟩ => ⟨_, he, _, rfl, (hI.next hg).val hn (by decide) (⟨A1, n1, c1, A2, n2, c2, rfl, h1.le (Nat.le_trans HWSp.out hI.gr.size), h2.le (Nat.le_trans HWSp.out hI.gr.size)⟩)⟩)
          go_simp
        · obtain rfl := Option.some.inj (show some _ = some o from ho)
          obtain ⟨y6, hy6⟩ := hdep ⟨6, .data⟩ (by simp) rfl
          obtain ⟨A1_6, n1_6, c1_6, A2_6, n2_6, c2_6, rfl, hl6⟩ : ∃ A1 n1 c1 A2 n2 c2, y6 = .tuple #[.agg (fsc s1.k s1.n (.slice A1 n1 c1) (.slice A2 n2 c2) s1.has s1.st s1.top s1.df), .int .i64 0] ∧ SO wp w.heap.size (.slice A1 n1 c1) s1.ever ∧ GOw wp w.heap.size (.slice A2 n2 c2) s1.live := hI.ok 6 y6 hy6
          have s6 := slotE (hNew 6 71 _ _ rfl rfl (by kernel_rfl) hy6)
          refine aVal rfl rfl (v := .tuple #[.agg (fsc s1.k s1.n (.slice A1_6 n1_6 c1_6) (.slice A2_6 n2_6 c2_6) s1.has s1.st s1.top s1.df), .int .i64 0]) (w' := wp) ?_ ⟨_, rfl, hI.val hn (by decide) (⟨_, _, _, _, _, _, rfl, hl6⟩)⟩
          go_simp
        · obtain rfl := Option.some.inj (show some _ = some o from ho)
          obtain ⟨y7, hy7⟩ := hdep ⟨7, .data⟩ (by simp) rfl
          obtain ⟨A1_7, n1_7, c1_7, A2_7, n2_7, c2_7, rfl, hl7⟩ : ∃ A1 n1 c1 A2 n2 c2, y7 = .tuple #[.agg (fsc s1.k s1.n (.slice A1 n1 c1) (.slice A2 n2 c2) s1.has s1.st s1.top s1.df), .int .i64 0] ∧ SO wp w.heap.size (.slice A1 n1 c1) s1.ever ∧ GOw wp w.heap.size (.slice A2 n2 c2) s1.live := hI.ok 7 y7 hy7
          have s7 := slotE (hNew 7 64 _ _ rfl rfl (by kernel_rfl) hy7)
          refine aVal rfl rfl (v := .agg (fsc s1.k s1.n (.slice A1_7 n1_7 c1_7) (.slice A2_7 n2_7 c2_7) s1.has s1.st s1.top s1.df)) (w' := wp) ?_ ⟨_, rfl, hI.val hn (by decide) (⟨_, _, _, _, _, _, rfl, hl7⟩)⟩
          go_simp
        · obtain rfl := Option.some.inj (show some _ = some o from ho)
          obtain ⟨y7, hy7⟩ := hdep ⟨7, .data⟩ (by simp) rfl
          obtain ⟨A1_7, n1_7, c1_7, A2_7, n2_7, c2_7, rfl, hl7⟩ : ∃ A1 n1 c1 A2 n2 c2, y7 = .tuple #[.agg (fsc s1.k s1.n (.slice A1 n1 c1) (.slice A2 n2 c2) s1.has s1.st s1.top s1.df), .int .i64 0] ∧ SO wp w.heap.size (.slice A1 n1 c1) s1.ever ∧ GOw wp w.heap.size (.slice A2 n2 c2) s1.live := hI.ok 7 y7 hy7
          have s7 := slotE (hNew 7 64 _ _ rfl rfl (by kernel_rfl) hy7)
          refine aVal rfl rfl (v := .int .i64 0) (w' := wp) ?_ ⟨_, rfl, hI.val hn (by decide) (rfl)⟩
          go_simp
        · obtain rfl := Option.some.inj (show some _ = some o from ho)
          refine aVal rfl rfl (v := .pointer (some ⟨wp.heap.size, 0, none⟩)) (w' := wp.alloc (.cells (zst) 39)) ?_ ⟨_, rfl, hI.new hn (by decide) rfl rfl (fun _ _ => trivial)⟩
          go_simp
        · obtain rfl := Option.some.inj (show some _ = some o from ho)
          obtain ⟨y10, hy10⟩ := hdep ⟨10, .data⟩ (by simp) rfl
          obtain ⟨P, rfl, hP1, hP2⟩ := hI.at_new (a := 10) (k := 11) (s := 8) (by decide) hn hy10
          have s10 := slotE (hNew 10 18 _ _ rfl rfl (by kernel_rfl) hy10)
          obtain ⟨y8, hy8⟩ := hdep ⟨8, .data⟩ (by simp) rfl
          obtain ⟨A1_8, n1_8, c1_8, A2_8, n2_8, c2_8, rfl, hl8⟩ : ∃ A1 n1 c1 A2 n2 c2, y8 = .agg (fsc s1.k s1.n (.slice A1 n1 c1) (.slice A2 n2 c2) s1.has s1.st s1.top s1.df) ∧ SO wp w.heap.size (.slice A1 n1 c1) s1.ever ∧ GOw wp w.heap.size (.slice A2 n2 c2) s1.live := hI.ok 8 y8 hy8
          have s8 := slotE (hNew 8 72 _ _ rfl rfl (by kernel_rfl) hy8)
          have z0 : wp.cell? ⟨P, 0, none⟩ = some (.int .i64 0) := by rw [cell_of_block hP2]; rfl
          have k0 := unfrozen_of_block hP2 0
          have z1 : wp.cell? ⟨P, 1, none⟩ = some (.int .i64 0) := by rw [cell_of_block hP2]; rfl
          have k1 := unfrozen_of_block hP2 1
          have z2 : wp.cell? ⟨P, 2, none⟩ = some (.slice none 0 0) := by rw [cell_of_block hP2]; rfl
          have k2 := unfrozen_of_block hP2 2
          have z3 : wp.cell? ⟨P, 3, none⟩ = some (.slice none 0 0) := by rw [cell_of_block hP2]; rfl
          have k3 := unfrozen_of_block hP2 3
          have z4 : wp.cell? ⟨P, 4, none⟩ = some (.bool false) := by rw [cell_of_block hP2]; rfl
          have k4 := unfrozen_of_block hP2 4
          have z5 : wp.cell? ⟨P, 5, none⟩ = some (.int .u64 0) := by rw [cell_of_block hP2]; rfl
          have k5 := unfrozen_of_block hP2 5
          have z6 : wp.cell? ⟨P, 6, none⟩ = some (.int .i64 0) := by rw [cell_of_block hP2]; rfl
          have k6 := unfrozen_of_block hP2 6
          have z7 : wp.cell? ⟨P, 7, none⟩ = some (.int .i64 0) := by rw [cell_of_block hP2]; rfl
          have k7 := unfrozen_of_block hP2 7
          have z8 : wp.cell? ⟨P, 8, none⟩ = some (.int .u64 0) := by rw [cell_of_block hP2]; rfl
          have k8 := unfrozen_of_block hP2 8
          have z9 : wp.cell? ⟨P, 9, none⟩ = some (.string ⟨#[]⟩) := by rw [cell_of_block hP2]; rfl
          have k9 := unfrozen_of_block hP2 9
          have z10 : wp.cell? ⟨P, 10, none⟩ = some (.bool false) := by rw [cell_of_block hP2]; rfl
          have k10 := unfrozen_of_block hP2 10
          have hz := hP2
          refine aSkip rfl rfl (w' := putCells wp P 0 (fsc s1.k s1.n (.slice A1_8 n1_8 c1_8) (.slice A2_8 n2_8 c2_8) s1.has s1.st s1.top s1.df : Array Value).toList) ?_ ⟨_, rfl, hI.putA (a := 10) (k := 11) (s := 8) (c := fsc s1.k s1.n (.slice A1_8 n1_8 c1_8) (.slice A2_8 n2_8 c2_8) s1.has s1.st s1.top s1.df) (by decide) hn (by decide) (by decide) (by decide) hy10 hy8 rfl (fun _ => trivial)⟩
          clear hz hI hP2
          go_simp
          rfl
        · obtain rfl := Option.some.inj (show some _ = some o from ho)
          obtain ⟨y9, hy9⟩ := hdep ⟨9, .data⟩ (by simp) rfl
          obtain rfl : y9 = .int .i64 0 := hI.ok 9 y9 hy9
          have s9 := slotE (hNew 9 73 _ _ rfl rfl (by kernel_rfl) hy9)
          refine aVal rfl rfl (v := .int .i64 0) (w' := wp) ?_ ⟨_, rfl, hI.val hn (by decide) (rfl)⟩
          go_simp
      · intro vals wp hall hI
        refine NoPanic.normal ?_
        obtain ⟨y0, hy0⟩ := hall 0 (by decide)
        obtain ⟨y1, hy1⟩ := hall 1 (by decide)
        obtain ⟨y2, hy2⟩ := hall 2 (by decide)
        obtain ⟨y3, hy3⟩ := hall 3 (by decide)
        obtain ⟨y4, hy4⟩ := hall 4 (by decide)
        obtain ⟨y5, hy5⟩ := hall 5 (by decide)
        obtain ⟨y6, hy6⟩ := hall 6 (by decide)
        obtain ⟨y7, hy7⟩ := hall 7 (by decide)
        obtain ⟨y8, hy8⟩ := hall 8 (by decide)
        obtain ⟨y9, hy9⟩ := hall 9 (by decide)
        obtain ⟨y10, hy10⟩ := hall 10 (by decide)
        obtain ⟨y11, hy11⟩ := hall 11 (by decide)
        obtain ⟨y12, hy12⟩ := hall 12 (by decide)
        have hP := hI.at_full (a := 10) (k := 11) (s := 8) (by decide) hy11 hy8 hy10
        obtain ⟨Azp, nzp, czp, Ayp, nyp, cyp, rfl, hl8⟩ : ∃ A1 n1 c1 A2 n2 c2, y8 = .agg (fsc s1.k s1.n (.slice A1 n1 c1) (.slice A2 n2 c2) s1.has s1.st s1.top s1.df) ∧ SO wp w.heap.size (.slice A1 n1 c1) s1.ever ∧ GOw wp w.heap.size (.slice A2 n2 c2) s1.live := hI.ok 8 y8 hy8
        obtain ⟨Pnp, rfl, hPn, hbP⟩ := hP
        obtain rfl : y12 = .int .i64 0 := hI.ok 12 y12 hy12
        have HBPp : Hid (wp.heap[Pnp]? = some (.cells (fsc s1.k s1.n (.slice Azp nzp czp) (.slice Ayp nyp cyp) s1.has s1.st s1.top s1.df) 39 (0, 0))) := Lib.hid hbP
        have HL8p := Lib.hid hl8
        have HGCp := Lib.hid hI.gr
        have HPnp := Lib.hid hPn
        clear hbP hl8 hPn
        simp only [putAll, putV, hy0, hy1, hy2, hy3, hy4, hy5, hy6, hy7, hy8, hy9, hy10, hy11, hy12]
        clear hI hall hy0 hy1 hy2 hy3 hy4 hy5 hy6 hy7 hy8 hy9 hy10 hy11 hy12
        simp only [Act.put, List.setIfInBounds_toArray, List.set_cons_zero, List.set_cons_succ]
        obtain ⟨k1, m1, E1, L1, has1, st1, top1, df1⟩ := s1
        have HS1 := Lib.hid (HST.out.next HGCp.out)
        clear hjl
        go_upto_region 18 with (fail)
        by_cases hjp : j < np
        · have z0 : (j : Int) < (np : Int) := by omega
          obtain ⟨bp, op, hAp, hcp1, hle⟩ := HPK.out j (by rw [← HNP.out]; exact hjp)
          subst hAp
          obtain ⟨a, hae⟩ : ∃ a, a = K[j]'(by rw [← HNP.out]; exact hjp) := ⟨_, rfl⟩
          rw [← hae] at hcp1 hle
          have y0 := HS1.out.gr.cell hcp1
          have y1 : IntKind.i64.wrap (a : Int) = (a : Int) := IntWalk.i64_in _ ⟨by omega, by omega⟩
          have y2 : wrap64 (a : Int) = (a : Int) := by unfold wrap64; omega
          have HA : Hid (a ≤ 255) := Lib.hid hle
          clear hae hcp1 hle
          go_upto_region 20 with (fail)
          clear y0 y1 y2 z0
          have hpi := HPL.out.1
          have hex := pick_some HOK.out HCC.out (by rw [← HOO.out]; exact hpi) (by rw [← HOO.out, HPL.out.2]; exact HN.out ▸ hjn)
          rw [← HOO.out] at hex
          have HNXT := Lib.hid (next_any (.slice (some ⟨b, off, none⟩) N c9) O d a HA.out wp HS1.out.xs.xv hat60 hex)
          obtain ⟨m0, m1', m2, m3, m4, m5, m6, m7⟩ := HS1.out.bd.all
          clear hex hpi
          go_wp2_with fail
          refine HNXT.out.mono ?_
          rintro e w6 ⟨kx, t2, rfl, hk2, hpb, g6⟩
          have HS6 := Lib.hid (HS1.out.next g6)
          have HP2 := Lib.hid (And.intro hk2 hpb)
          have HBP6 := Lib.hid (gr_obj g6 HBPp.out)
          have HL86 : Hid (SO w6 w.heap.size (.slice Azp nzp czp) E1 ∧ GOw w6 w.heap.size (.slice Ayp nyp cyp) L1) := Lib.hid ⟨HL8p.out.1.gr g6, HL8p.out.2.gr g6⟩
          clear m0 m1' m2 m3 m4 m5 m6 m7 g6 hk2 hpb
          have hkl : kx < O.length := (List.getElem?_eq_some_iff.1 HP2.out.1).1
          have hke : O[kx] = t2 := (List.getElem?_eq_some_iff.1 HP2.out.1).2
          have hkm : t2 ∈ O := List.mem_of_getElem? HP2.out.1
          obtain ⟨A', c', hv', -, -, hat⟩ := HS6.out.xs.xv
          injection hv' with q1 q2 q3
          subst q1 q3
          obtain ⟨b2, off2, hb2, vt2, htv2, hxf2⟩ := hat kx hkl
          injection hb2 with hb2
          injection hb2 with r1 r2
          subst r1 r2
          rw [hke] at htv2 hxf2
          obtain ⟨Bt, dt, hvt2⟩ := tov_form htv2
          obtain ⟨mt2, hmt2⟩ : ∃ n, n = t2.ops.length := ⟨_, rfl⟩
          rw [← hmt2] at hvt2
          subst hvt2
          have htx2 := HTX.out t2 hkm
          obtain ⟨ii, hii, hori, hpn⟩ := pick_next HOK.out (P := P) (d := d) (by rw [← HOO.out]; exact HPL.out.1) (by rw [← HOO.out]; exact hkm) HP2.out.2
          rw [← HOO.out] at hpn
          have HPN := Lib.hid hpn
          have HORI := Lib.hid (And.intro hori hii)
          obtain ⟨s2, hs2⟩ : ∃ x, x = applyS ⟨#[107]⟩ t2 ⟨kb, mb, Eb, Lb, hasb, stb, topb, dfb⟩ := ⟨_, rfl⟩
          have HNX2 : Hid (foldS kind start ⟨#[107]⟩ (P ++ [t2]) = s2) := Lib.hid (by rw [foldS_snoc, ← HSB.out.1]; exact hs2.symm)
          have HAQ : Hid (∀ w1, Gr w6 w1 → Calls Tryz.prog 14 #[.agg (fsc kb mb (.slice A5 n5 c5) (.slice A6 n6 c6) hasb stb topb dfb), .agg (tcs t2 (.slice Bt mt2 dt)), .string ⟨#[107]⟩] w1 fun e w' => ∃ A1 n1 c1 A2 n2 c2, e = .returned (.tuple #[.agg (fsc s2.k s2.n (.slice A1 n1 c1) (.slice A2 n2 c2) s2.has s2.st s2.top s2.df), .int .i64 0]) ∧ SO w' w1.heap.size (.slice A1 n1 c1) s2.ever ∧ GOw w' w1.heap.size (.slice A2 n2 c2) s2.live ∧ Gr w1 w') := Lib.hid (fun w1 g => by
            have hrv : RV w1 (.agg (fsc kb mb (.slice A5 n5 c5) (.slice A6 n6 c6) hasb stb topb dfb)) ⟨kb, mb, Eb, Lb, hasb, stb, topb, dfb⟩ := ⟨_, _, rfl, (HS6.out.b1.gr g).sv, (HS6.out.b2.gr g).gv⟩
            have ha := apply_ok ⟨kb, mb, Eb, Lb, hasb, stb, topb, dfb⟩ _ t2 Bt mt2 dt ⟨#[107]⟩ w1 hrv HSB.out.2 (htv2.gr g) htx2.2.1 htx2.2.2 htx2.1 (HFB.out.le (by omega))
            rw [← hs2] at ha
            exact ha.mono fun e w' h => h.form)
          have HXF2 := Lib.hid hxf2
          have HKN : Hid ((kx : Int) < (N : Int)) := Lib.hid (by rw [HN.out]; omega)
          have HWSq : Hid (w.heap.size ≤ w6.heap.size) := Lib.hid HS6.out.gr.size
          clear hkl hke hkm hat q2 htv2 hxf2 hmt2 htx2 hori hii hpn hs2
          go_upto_region 23 with (fail)
          refine wp_region_noPanic ?_
          refine iRegionA (RI btV w6 (fun k => ((SFt w.heap.size (fsc kb mb (.slice A5 n5 c5) (.slice A6 n6 c6) hasb stb topb dfb) (.slice (some ⟨b, off, none⟩) N c9) kx b (off + kx * 12) t2 (.slice Bt mt2 dt) ⟨#[107]⟩ s2) k).P) [(10, 11, 8)] (fun _ => 39) (fun _ => zst)) (by kernel_rfl) (by kernel_rfl) (ri_start (fun k y wA wB => ((SFt w.heap.size (fsc kb mb (.slice A5 n5 c5) (.slice A6 n6 c6) hasb stb topb dfb) (.slice (some ⟨b, off, none⟩) N c9) kx b (off + kx * 12) t2 (.slice Bt mt2 dt) ⟨#[107]⟩ s2) k).st y wA wB) (Gr.refl _)) ?_ ?_
          · intro i o ho vals wq A hI hn hdep hOld hNew
            have hi : i < 13 := (List.getElem?_eq_some_iff.1 ho).1
            have hb10 : wq.heap[P15]? = some (.cells (fsc kb mb (.slice A5 n5 c5) (.slice A6 n6 c6) hasb stb topb dfb) 39 (0, 0)) := gr_obj hI.gr HS6.out.bb
            have p0 : wq.cell? ⟨P15, 0, none⟩ = some (.int .i64 kb) := by rw [cell_of_block hb10]; rfl
            have p1 : wq.cell? ⟨P15, 1, none⟩ = some (.int .i64 mb) := by rw [cell_of_block hb10]; rfl
            have p2 : wq.cell? ⟨P15, 2, none⟩ = some (.slice A5 n5 c5) := by rw [cell_of_block hb10]; rfl
            have p3 : wq.cell? ⟨P15, 3, none⟩ = some (.slice A6 n6 c6) := by rw [cell_of_block hb10]; rfl
            have p4 : wq.cell? ⟨P15, 4, none⟩ = some (.bool hasb) := by rw [cell_of_block hb10]; rfl
            have p5 : wq.cell? ⟨P15, 5, none⟩ = some (.int .u64 (stb : Int)) := by rw [cell_of_block hb10]; rfl
            have p6 : wq.cell? ⟨P15, 6, none⟩ = some (.int .i64 topb.o) := by rw [cell_of_block hb10]; rfl
            have p7 : wq.cell? ⟨P15, 7, none⟩ = some (.int .i64 topb.i) := by rw [cell_of_block hb10]; rfl
            have p8 : wq.cell? ⟨P15, 8, none⟩ = some (.int .u64 (topb.s : Int)) := by rw [cell_of_block hb10]; rfl
            have p9 : wq.cell? ⟨P15, 9, none⟩ = some (.string topb.e) := by rw [cell_of_block hb10]; rfl
            have p10 : wq.cell? ⟨P15, 10, none⟩ = some (.bool dfb) := by rw [cell_of_block hb10]; rfl
            obtain ⟨x0, x1, x2, x3, x4, x5, x6, x7, x8, x9, x10, x11⟩ := HXF2.out.gr hI.gr
            have hj1 : (kx : Int) < (N : Int) := HKN.out
            have hj0 : (0 : Int) ≤ (kx : Int) := Int.natCast_nonneg _
            clear hb10
            have eo11 : A.tmps[11]?.getD undef = .string ⟨#[107]⟩ := slotE (hOld 11 (by kernel_rfl))
            have eo12 : A.tmps[12]?.getD undef = .slice (some ⟨b, off, none⟩) N c9 := slotE (hOld 12 (by kernel_rfl))
            have eo15 : A.tmps[15]?.getD undef = .pointer (some ⟨P15, 0, none⟩) := slotE (hOld 15 (by kernel_rfl))
            have eo21 : A.tmps[21]?.getD undef = .int .i64 (kx : Int) := slotE (hOld 21 (by kernel_rfl))
            obtain rfl | rfl | rfl | rfl | rfl | rfl | rfl | rfl | rfl | rfl | rfl | rfl | rfl : i = 0 ∨ i = 1 ∨ i = 2 ∨ i = 3 ∨ i = 4 ∨ i = 5 ∨ i = 6 ∨ i = 7 ∨ i = 8 ∨ i = 9 ∨ i = 10 ∨ i = 11 ∨ i = 12 := by omega
            · obtain rfl := Option.some.inj (show some _ = some o from ho)
              refine aVal rfl rfl (v := .agg (fsc kb mb (.slice A5 n5 c5) (.slice A6 n6 c6) hasb stb topb dfb)) (w' := wq) ?_ ⟨_, rfl, hI.val hn (by decide) (rfl)⟩
              go_simp
            · obtain rfl := Option.some.inj (show some _ = some o from ho)
              refine aVal rfl rfl (v := .slice (some ⟨b, off, none⟩) N c9) (w' := wq) ?_ ⟨_, rfl, hI.val hn (by decide) (rfl)⟩
              go_simp
            · obtain rfl := Option.some.inj (show some _ = some o from ho)
              refine aVal rfl rfl (v := .int .i64 (kx : Int)) (w' := wq) ?_ ⟨_, rfl, hI.val hn (by decide) (rfl)⟩
              go_simp
            · obtain rfl := Option.some.inj (show some _ = some o from ho)
              obtain ⟨y1, hy1⟩ := hdep ⟨1, .data⟩ (by simp) rfl
              obtain rfl : y1 = .slice (some ⟨b, off, none⟩) N c9 := hI.ok 1 y1 hy1
              have s1 := slotE (hNew 1 98 _ _ rfl rfl (by kernel_rfl) hy1)
              obtain ⟨y2, hy2⟩ := hdep ⟨2, .data⟩ (by simp) rfl
              obtain rfl : y2 = .int .i64 (kx : Int) := hI.ok 2 y2 hy2
              have s2 := slotE (hNew 2 99 _ _ rfl rfl (by kernel_rfl) hy2)
              refine aVal rfl rfl (v := .pointer (some ⟨b, off + kx * 12, none⟩)) (w' := wq) ?_ ⟨_, rfl, hI.val hn (by decide) (rfl)⟩
              go_simp
            · obtain rfl := Option.some.inj (show some _ = some o from ho)
              obtain ⟨y3, hy3⟩ := hdep ⟨3, .data⟩ (by simp) rfl
              obtain rfl : y3 = .pointer (some ⟨b, off + kx * 12, none⟩) := hI.ok 3 y3 hy3
              have s3 := slotE (hNew 3 100 _ _ rfl rfl (by kernel_rfl) hy3)
              refine aVal rfl rfl (v := .agg (tcs t2 (.slice Bt mt2 dt))) (w' := wq) ?_ ⟨_, rfl, hI.val hn (by decide) (rfl)⟩
              go_simp
            · obtain rfl := Option.some.inj (show some _ = some o from ho)
              refine aVal rfl rfl (v := .string ⟨#[107]⟩) (w' := wq) ?_ ⟨_, rfl, hI.val hn (by decide) (rfl)⟩
              go_simp
            · obtain rfl := Option.some.inj (show some _ = some o from ho)
              obtain ⟨y0, hy0⟩ := hdep ⟨0, .data⟩ (by simp) rfl
              obtain rfl : y0 = .agg (fsc kb mb (.slice A5 n5 c5) (.slice A6 n6 c6) hasb stb topb dfb) := hI.ok 0 y0 hy0
              have s0 := slotE (hNew 0 97 _ _ rfl rfl (by kernel_rfl) hy0)
              obtain ⟨y4, hy4⟩ := hdep ⟨4, .data⟩ (by simp) rfl
              obtain rfl : y4 = .agg (tcs t2 (.slice Bt mt2 dt)) := hI.ok 4 y4 hy4
              have s4 := slotE (hNew 4 101 _ _ rfl rfl (by kernel_rfl) hy4)
              obtain ⟨y5, hy5⟩ := hdep ⟨5, .data⟩ (by simp) rfl
              obtain rfl : y5 = .string ⟨#[107]⟩ := hI.ok 5 y5 hy5
              have s5 := slotE (hNew 5 102 _ _ rfl rfl (by kernel_rfl) hy5)
              refine aCall rfl rfl (w1 := wq) ?_ ((HAQ.out wq hI.gr).mono fun e w' ⟨A1, n1, c1, A2, n2, c2, he, h1, h2, hg⟩ => ⟨_, he, _, rfl, (hI.next hg).val hn (by decide) (⟨A1, n1, c1, A2, n2, c2, rfl, h1.le (Nat.le_trans HWSq.out hI.gr.size), h2.le (Nat.le_trans HWSq.out hI.gr.size)⟩)⟩)
              go_simp
            · obtain rfl := Option.some.inj (show some _ = some o from ho)
              obtain ⟨y6, hy6⟩ := hdep ⟨6, .data⟩ (by simp) rfl
              obtain ⟨A1_6, n1_6, c1_6, A2_6, n2_6, c2_6, rfl, hl6⟩ : ∃ A1 n1 c1 A2 n2 c2, y6 = .tuple #[.agg (fsc s2.k s2.n (.slice A1 n1 c1) (.slice A2 n2 c2) s2.has s2.st s2.top s2.df), .int .i64 0] ∧ SO wq w.heap.size (.slice A1 n1 c1) s2.ever ∧ GOw wq w.heap.size (.slice A2 n2 c2) s2.live := hI.ok 6 y6 hy6
              have s6 := slotE (hNew 6 103 _ _ rfl rfl (by kernel_rfl) hy6)
              refine aVal rfl rfl (v := .tuple #[.agg (fsc s2.k s2.n (.slice A1_6 n1_6 c1_6) (.slice A2_6 n2_6 c2_6) s2.has s2.st s2.top s2.df), .int .i64 0]) (w' := wq) ?_ ⟨_, rfl, hI.val hn (by decide) (⟨_, _, _, _, _, _, rfl, hl6⟩)⟩
              go_simp
            · obtain rfl := Option.some.inj (show some _ = some o from ho)
              obtain ⟨y7, hy7⟩ := hdep ⟨7, .data⟩ (by simp) rfl
              obtain ⟨A1_7, n1_7, c1_7, A2_7, n2_7, c2_7, rfl, hl7⟩ : ∃ A1 n1 c1 A2 n2 c2, y7 = .tuple #[.agg (fsc s2.k s2.n (.slice A1 n1 c1) (.slice A2 n2 c2) s2.has s2.st s2.top s2.df), .int .i64 0] ∧ SO wq w.heap.size (.slice A1 n1 c1) s2.ever ∧ GOw wq w.heap.size (.slice A2 n2 c2) s2.live := hI.ok 7 y7 hy7
              have s7 := slotE (hNew 7 96 _ _ rfl rfl (by kernel_rfl) hy7)
              refine aVal rfl rfl (v := .agg (fsc s2.k s2.n (.slice A1_7 n1_7 c1_7) (.slice A2_7 n2_7 c2_7) s2.has s2.st s2.top s2.df)) (w' := wq) ?_ ⟨_, rfl, hI.val hn (by decide) (⟨_, _, _, _, _, _, rfl, hl7⟩)⟩
              go_simp
            · obtain rfl := Option.some.inj (show some _ = some o from ho)
              obtain ⟨y7, hy7⟩ := hdep ⟨7, .data⟩ (by simp) rfl
              obtain ⟨A1_7, n1_7, c1_7, A2_7, n2_7, c2_7, rfl, hl7⟩ : ∃ A1 n1 c1 A2 n2 c2, y7 = .tuple #[.agg (fsc s2.k s2.n (.slice A1 n1 c1) (.slice A2 n2 c2) s2.has s2.st s2.top s2.df), .int .i64 0] ∧ SO wq w.heap.size (.slice A1 n1 c1) s2.ever ∧ GOw wq w.heap.size (.slice A2 n2 c2) s2.live := hI.ok 7 y7 hy7
              have s7 := slotE (hNew 7 96 _ _ rfl rfl (by kernel_rfl) hy7)
              refine aVal rfl rfl (v := .int .i64 0) (w' := wq) ?_ ⟨_, rfl, hI.val hn (by decide) (rfl)⟩
              go_simp
            · obtain rfl := Option.some.inj (show some _ = some o from ho)
              refine aVal rfl rfl (v := .pointer (some ⟨wq.heap.size, 0, none⟩)) (w' := wq.alloc (.cells (zst) 39)) ?_ ⟨_, rfl, hI.new hn (by decide) rfl rfl (fun _ _ => trivial)⟩
              go_simp
            · obtain rfl := Option.some.inj (show some _ = some o from ho)
              obtain ⟨y10, hy10⟩ := hdep ⟨10, .data⟩ (by simp) rfl
              obtain ⟨P, rfl, hP1, hP2⟩ := hI.at_new (a := 10) (k := 11) (s := 8) (by decide) hn hy10
              have s10 := slotE (hNew 10 23 _ _ rfl rfl (by kernel_rfl) hy10)
              obtain ⟨y8, hy8⟩ := hdep ⟨8, .data⟩ (by simp) rfl
              obtain ⟨A1_8, n1_8, c1_8, A2_8, n2_8, c2_8, rfl, hl8⟩ : ∃ A1 n1 c1 A2 n2 c2, y8 = .agg (fsc s2.k s2.n (.slice A1 n1 c1) (.slice A2 n2 c2) s2.has s2.st s2.top s2.df) ∧ SO wq w.heap.size (.slice A1 n1 c1) s2.ever ∧ GOw wq w.heap.size (.slice A2 n2 c2) s2.live := hI.ok 8 y8 hy8
              have s8 := slotE (hNew 8 104 _ _ rfl rfl (by kernel_rfl) hy8)
              have z0 : wq.cell? ⟨P, 0, none⟩ = some (.int .i64 0) := by rw [cell_of_block hP2]; rfl
              have k0 := unfrozen_of_block hP2 0
              have z1 : wq.cell? ⟨P, 1, none⟩ = some (.int .i64 0) := by rw [cell_of_block hP2]; rfl
              have k1 := unfrozen_of_block hP2 1
              have z2 : wq.cell? ⟨P, 2, none⟩ = some (.slice none 0 0) := by rw [cell_of_block hP2]; rfl
              have k2 := unfrozen_of_block hP2 2
              have z3 : wq.cell? ⟨P, 3, none⟩ = some (.slice none 0 0) := by rw [cell_of_block hP2]; rfl
              have k3 := unfrozen_of_block hP2 3
              have z4 : wq.cell? ⟨P, 4, none⟩ = some (.bool false) := by rw [cell_of_block hP2]; rfl
              have k4 := unfrozen_of_block hP2 4
              have z5 : wq.cell? ⟨P, 5, none⟩ = some (.int .u64 0) := by rw [cell_of_block hP2]; rfl
              have k5 := unfrozen_of_block hP2 5
              have z6 : wq.cell? ⟨P, 6, none⟩ = some (.int .i64 0) := by rw [cell_of_block hP2]; rfl
              have k6 := unfrozen_of_block hP2 6
              have z7 : wq.cell? ⟨P, 7, none⟩ = some (.int .i64 0) := by rw [cell_of_block hP2]; rfl
              have k7 := unfrozen_of_block hP2 7
              have z8 : wq.cell? ⟨P, 8, none⟩ = some (.int .u64 0) := by rw [cell_of_block hP2]; rfl
              have k8 := unfrozen_of_block hP2 8
              have z9 : wq.cell? ⟨P, 9, none⟩ = some (.string ⟨#[]⟩) := by rw [cell_of_block hP2]; rfl
              have k9 := unfrozen_of_block hP2 9
              have z10 : wq.cell? ⟨P, 10, none⟩ = some (.bool false) := by rw [cell_of_block hP2]; rfl
              have k10 := unfrozen_of_block hP2 10
              have hz := hP2
              refine aSkip rfl rfl (w' := putCells wq P 0 (fsc s2.k s2.n (.slice A1_8 n1_8 c1_8) (.slice A2_8 n2_8 c2_8) s2.has s2.st s2.top s2.df : Array Value).toList) ?_ ⟨_, rfl, hI.putA (a := 10) (k := 11) (s := 8) (c := fsc s2.k s2.n (.slice A1_8 n1_8 c1_8) (.slice A2_8 n2_8 c2_8) s2.has s2.st s2.top s2.df) (by decide) hn (by decide) (by decide) (by decide) hy10 hy8 rfl (fun _ => trivial)⟩
              clear hz hI hP2
              go_simp
              rfl
            · obtain rfl := Option.some.inj (show some _ = some o from ho)
              obtain ⟨y9, hy9⟩ := hdep ⟨9, .data⟩ (by simp) rfl
              obtain rfl : y9 = .int .i64 0 := hI.ok 9 y9 hy9
              have s9 := slotE (hNew 9 105 _ _ rfl rfl (by kernel_rfl) hy9)
              refine aVal rfl rfl (v := .int .i64 0) (w' := wq) ?_ ⟨_, rfl, hI.val hn (by decide) (rfl)⟩
              go_simp
          · intro vals wq hall hI
            refine NoPanic.normal ?_
            obtain ⟨y0, hy0⟩ := hall 0 (by decide)
            obtain ⟨y1, hy1⟩ := hall 1 (by decide)
            obtain ⟨y2, hy2⟩ := hall 2 (by decide)
            obtain ⟨y3, hy3⟩ := hall 3 (by decide)
            obtain ⟨y4, hy4⟩ := hall 4 (by decide)
            obtain ⟨y5, hy5⟩ := hall 5 (by decide)
            obtain ⟨y6, hy6⟩ := hall 6 (by decide)
            obtain ⟨y7, hy7⟩ := hall 7 (by decide)
            obtain ⟨y8, hy8⟩ := hall 8 (by decide)
            obtain ⟨y9, hy9⟩ := hall 9 (by decide)
            obtain ⟨y10, hy10⟩ := hall 10 (by decide)
            obtain ⟨y11, hy11⟩ := hall 11 (by decide)
            obtain ⟨y12, hy12⟩ := hall 12 (by decide)
            have hP := hI.at_full (a := 10) (k := 11) (s := 8) (by decide) hy11 hy8 hy10
            obtain ⟨Azq, nzq, czq, Ayq, nyq, cyq, rfl, hl8⟩ : ∃ A1 n1 c1 A2 n2 c2, y8 = .agg (fsc s2.k s2.n (.slice A1 n1 c1) (.slice A2 n2 c2) s2.has s2.st s2.top s2.df) ∧ SO wq w.heap.size (.slice A1 n1 c1) s2.ever ∧ GOw wq w.heap.size (.slice A2 n2 c2) s2.live := hI.ok 8 y8 hy8
            obtain ⟨Pnq, rfl, hPn, hbP⟩ := hP
            obtain rfl : y12 = .int .i64 0 := hI.ok 12 y12 hy12
            have HBPq : Hid (wq.heap[Pnq]? = some (.cells (fsc s2.k s2.n (.slice Azq nzq czq) (.slice Ayq nyq cyq) s2.has s2.st s2.top s2.df) 39 (0, 0))) := Lib.hid hbP
            have HL8q := Lib.hid hl8
            have HGCq := Lib.hid hI.gr
            have HPnq := Lib.hid hPn
            clear hbP hl8 hPn
            simp only [putAll, putV, hy0, hy1, hy2, hy3, hy4, hy5, hy6, hy7, hy8, hy9, hy10, hy11, hy12]
            clear hI hall hy0 hy1 hy2 hy3 hy4 hy5 hy6 hy7 hy8 hy9 hy10 hy11 hy12
            simp only [Act.put, List.setIfInBounds_toArray, List.set_cons_zero, List.set_cons_succ]
            obtain ⟨k2, m2, E2, L2, has2, st2, top2, df2⟩ := s2
            have HS7 := Lib.hid (HS6.out.next HGCq.out)
            have x0 := (HXF2.out.gr HGCq.out).1
            rw [HORI.out.1] at x0
            have HB7 := Lib.hid (gr_obj HGCq.out HBP6.out)
            obtain ⟨di, hdi⟩ : ∃ x, x = d ii := ⟨_, rfl⟩
            obtain ⟨dm, hdm⟩ : ∃ x, x = di + 1 := ⟨_, rfl⟩
            have hdc := HS7.out.bd.at HORI.out.2
            have hfz := unfrozen_of_block HS7.out.bd.box ii
            have hdl : di ≤ 1024 := by rw [hdi]; exact HPL.out.1.le ii HORI.out.2
            rw [← hdi] at hdc
            have u1 : IntKind.u64.wrap ((di : Int) + 1) = (dm : Int) := by rw [IntWalk.u64_in _ ⟨by omega, by omega⟩]; omega
            have u2 : ((di : Int) + 1) % 18446744073709551616 = (dm : Int) := by omega
            have i0 : (0 : Int) ≤ (ii : Int) := Int.natCast_nonneg _
            have i8 : (ii : Int) < 8 := by have := HORI.out.2; omega
            have kn0 : (0 : Int) ≤ (kx : Int) := Int.natCast_nonneg _
            have kn1 : (kx : Int) < (N : Int) := HKN.out
            have HDM : Hid (dm = d ii + 1) := Lib.hid (by rw [hdm, hdi])
            clear hdi hdm
            go_upto_region 27 with (fail)
            obtain ⟨W7, hW7⟩ : ∃ X, X = wq.setCell ⟨P16, ii, none⟩ (.int .u64 (dm : Int)) := ⟨_, rfl⟩
            have HS8 : Hid (FsS w u cv P13 P15 P16 ⟨ka, ma, Ea, La, hasa, sta, topa, dfa⟩ ⟨kb, mb, Eb, Lb, hasb, stb, topb, dfb⟩ (.slice A7 n7 c7) (.slice A8 n8 c8) (.slice A5 n5 c5) (.slice A6 n6 c6) (upd d ii dm) (.slice (some ⟨b, off, none⟩) N c9) O W7) := Lib.hid (by rw [hW7]; exact HS7.out.putD HPP.out.2.2.2.2.2 HPP.out.2.2.1 HPP.out.2.2.2.1 HORI.out.2 dm)
            have hkd : Keeps btV wq W7 := by
              rw [hW7]
              exact fun b cs t fr ht hb => set_obj_other hb (fun e => by
                subst e
                have := HS7.out.bd.box
                rw [hb] at this
                injection this with this
                injection this with e1 e2 e3
                subst e2
                exact absurd ht (by decide)) _
            have hne18 : Pnp ≠ P16 := fun e => by
              have h1 := HB7.out
              have h2 := HS7.out.bd.box
              rw [e, h2] at h1
              injection h1 with h1
              injection h1 with e1 e2
              exact absurd e2 (by decide)
            have hne23 : Pnq ≠ P16 := fun e => by
              have h1 := HBPq.out
              have h2 := HS7.out.bd.box
              rw [e, h2] at h1
              injection h1 with h1
              injection h1 with e1 e2
              exact absurd e2 (by decide)
            have HB18 : Hid (W7.heap[Pnp]? = some (.cells (fsc k1 m1 (.slice Azp nzp czp) (.slice Ayp nyp cyp) has1 st1 top1 df1) 39 (0, 0))) := Lib.hid (by rw [hW7]; exact set_obj_other HB7.out hne18 _)
            have HB23 : Hid (W7.heap[Pnq]? = some (.cells (fsc k2 m2 (.slice Azq nzq czq) (.slice Ayq nyq cyq) has2 st2 top2 df2) 39 (0, 0))) := Lib.hid (by rw [hW7]; exact set_obj_other HBPq.out hne23 _)
            have HR1 : Hid (SO W7 w.heap.size (.slice Azp nzp czp) E1 ∧ GOw W7 w.heap.size (.slice Ayp nyp cyp) L1) := Lib.hid ⟨(HL86.out.1.gr HGCq.out).keepsV hkd, own_keeps (HL86.out.2.gr HGCq.out) (by decide) hkd⟩
            have HR2 : Hid (SO W7 w.heap.size (.slice Azq nzq czq) E2 ∧ GOw W7 w.heap.size (.slice Ayq nyq cyq) L2) := Lib.hid ⟨HL8q.out.1.keepsV hkd, own_keeps HL8q.out.2 (by decide) hkd⟩
            rw [← hW7]
            have HNE18 : Hid (Pnp ≠ P13 ∧ Pnp ≠ P15 ∧ Pnq ≠ P13 ∧ Pnq ≠ P15) := Lib.hid ⟨by have h1 := HPnp.out; have h2 := (Array.getElem?_eq_some_iff.1 HST.out.ba).1; omega, by have h1 := HPnp.out; have h2 := (Array.getElem?_eq_some_iff.1 HST.out.bb).1; omega, by have h1 := HPnq.out; have h2 := (Array.getElem?_eq_some_iff.1 HS6.out.ba).1; omega, by have h1 := HPnq.out; have h2 := (Array.getElem?_eq_some_iff.1 HS6.out.bb).1; omega⟩
            clear hW7 hkd hne18 hne23 hdc hfz u1 u2 i0 i8 x0 hdl kn0 kn1
            have h13 := HS8.out.ba
            have h15 := HS8.out.bb
            have HNE := Lib.hid (show Pnp ≠ P13 ∧ Pnp ≠ P15 ∧ Pnq ≠ P13 ∧ Pnq ≠ P15 from HNE18.out)
            obtain ⟨WD, hWD⟩ : ∃ X, X = W7.drew := ⟨_, rfl⟩
            have HGD : Hid (Gr W7 WD) := Lib.hid (by rw [hWD]; exact (Gr.refl _).drew)
            have hstart : RgI WD P13 P15 (fsc k1 m1 (.slice Azp nzp czp) (.slice Ayp nyp cyp) has1 st1 top1 df1) (fsc k2 m2 (.slice Azq nzq czq) (.slice Ayq nyq cyq) has2 st2 top2 df2) (fun _ => none) W7.drew := by rw [hWD]; exact RgI.start _ _ _ _ _
            clear hWD
            refine wp_region_noPanic ?_
            refine iRegionA (RgI WD P13 P15 (fsc k1 m1 (.slice Azp nzp czp) (.slice Ayp nyp cyp) has1 st1 top1 df1) (fsc k2 m2 (.slice Azq nzq czq) (.slice Ayq nyq cyq) has2 st2 top2 df2)) (by kernel_rfl) (by kernel_rfl) hstart ?_ ?_
            · intro i o ho vals wc A hI hn hdep hOld hNew
              have hi : i < 4 := (List.getElem?_eq_some_iff.1 ho).1
              have eo13 : A.tmps[13]?.getD undef = .pointer (some ⟨P13, 0, none⟩) := slotE (hOld 13 (by kernel_rfl))
              have eo15 : A.tmps[15]?.getD undef = .pointer (some ⟨P15, 0, none⟩) := slotE (hOld 15 (by kernel_rfl))
              have eo18 : A.tmps[18]?.getD undef = .pointer (some ⟨Pnp, 0, none⟩) := slotE (hOld 18 (by kernel_rfl))
              have eo23 : A.tmps[23]?.getD undef = .pointer (some ⟨Pnq, 0, none⟩) := slotE (hOld 23 (by kernel_rfl))
              obtain rfl | rfl | rfl | rfl : i = 0 ∨ i = 1 ∨ i = 2 ∨ i = 3 := by omega
              · obtain rfl := Option.some.inj (show some _ = some o from ho)
                have hb : wc.heap[Pnp]? = some (.cells (fsc k1 m1 (.slice Azp nzp czp) (.slice Ayp nyp cyp) has1 st1 top1 df1) 39 (0, 0)) := hI.box HNE.out.1 HNE.out.2.1 (gr_obj HGD.out HB18.out)
                have p0 : wc.cell? ⟨Pnp, 0, none⟩ = some (.int .i64 k1) := by rw [cell_of_block hb]; rfl
                have p1 : wc.cell? ⟨Pnp, 1, none⟩ = some (.int .i64 m1) := by rw [cell_of_block hb]; rfl
                have p2 : wc.cell? ⟨Pnp, 2, none⟩ = some ((.slice Azp nzp czp)) := by rw [cell_of_block hb]; rfl
                have p3 : wc.cell? ⟨Pnp, 3, none⟩ = some ((.slice Ayp nyp cyp)) := by rw [cell_of_block hb]; rfl
                have p4 : wc.cell? ⟨Pnp, 4, none⟩ = some (.bool has1) := by rw [cell_of_block hb]; rfl
                have p5 : wc.cell? ⟨Pnp, 5, none⟩ = some (.int .u64 (st1 : Int)) := by rw [cell_of_block hb]; rfl
                have p6 : wc.cell? ⟨Pnp, 6, none⟩ = some (.int .i64 top1.o) := by rw [cell_of_block hb]; rfl
                have p7 : wc.cell? ⟨Pnp, 7, none⟩ = some (.int .i64 top1.i) := by rw [cell_of_block hb]; rfl
                have p8 : wc.cell? ⟨Pnp, 8, none⟩ = some (.int .u64 (top1.s : Int)) := by rw [cell_of_block hb]; rfl
                have p9 : wc.cell? ⟨Pnp, 9, none⟩ = some (.string top1.e) := by rw [cell_of_block hb]; rfl
                have p10 : wc.cell? ⟨Pnp, 10, none⟩ = some (.bool df1) := by rw [cell_of_block hb]; rfl
                refine aVal rfl rfl (v := .agg (fsc k1 m1 (.slice Azp nzp czp) (.slice Ayp nyp cyp) has1 st1 top1 df1)) (w' := wc) ?_ ⟨_, rfl, hI.up0 hn⟩
                clear hb
                go_simp
              · obtain rfl := Option.some.inj (show some _ = some o from ho)
                have hb : wc.heap[Pnq]? = some (.cells (fsc k2 m2 (.slice Azq nzq czq) (.slice Ayq nyq cyq) has2 st2 top2 df2) 39 (0, 0)) := hI.box HNE.out.2.2.1 HNE.out.2.2.2 (gr_obj HGD.out HB23.out)
                have p0 : wc.cell? ⟨Pnq, 0, none⟩ = some (.int .i64 k2) := by rw [cell_of_block hb]; rfl
                have p1 : wc.cell? ⟨Pnq, 1, none⟩ = some (.int .i64 m2) := by rw [cell_of_block hb]; rfl
                have p2 : wc.cell? ⟨Pnq, 2, none⟩ = some ((.slice Azq nzq czq)) := by rw [cell_of_block hb]; rfl
                have p3 : wc.cell? ⟨Pnq, 3, none⟩ = some ((.slice Ayq nyq cyq)) := by rw [cell_of_block hb]; rfl
                have p4 : wc.cell? ⟨Pnq, 4, none⟩ = some (.bool has2) := by rw [cell_of_block hb]; rfl
                have p5 : wc.cell? ⟨Pnq, 5, none⟩ = some (.int .u64 (st2 : Int)) := by rw [cell_of_block hb]; rfl
                have p6 : wc.cell? ⟨Pnq, 6, none⟩ = some (.int .i64 top2.o) := by rw [cell_of_block hb]; rfl
                have p7 : wc.cell? ⟨Pnq, 7, none⟩ = some (.int .i64 top2.i) := by rw [cell_of_block hb]; rfl
                have p8 : wc.cell? ⟨Pnq, 8, none⟩ = some (.int .u64 (top2.s : Int)) := by rw [cell_of_block hb]; rfl
                have p9 : wc.cell? ⟨Pnq, 9, none⟩ = some (.string top2.e) := by rw [cell_of_block hb]; rfl
                have p10 : wc.cell? ⟨Pnq, 10, none⟩ = some (.bool df2) := by rw [cell_of_block hb]; rfl
                refine aVal rfl rfl (v := .agg (fsc k2 m2 (.slice Azq nzq czq) (.slice Ayq nyq cyq) has2 st2 top2 df2)) (w' := wc) ?_ ⟨_, rfl, hI.up1 hn⟩
                clear hb
                go_simp
              · obtain rfl := Option.some.inj (show some _ = some o from ho)
                obtain ⟨y0, hy0⟩ := hdep ⟨0, .data⟩ (by simp) rfl
                obtain rfl : y0 = .agg (fsc k1 m1 (.slice Azp nzp czp) (.slice Ayp nyp cyp) has1 st1 top1 df1) := hI.v0 y0 hy0
                have s0 := slotE (hNew 0 117 _ _ rfl rfl (by kernel_rfl) hy0)
                obtain ⟨hn3, hEqW⟩ := hI.none2 hn
                obtain rfl := hEqW.symm
                have hb : WD.heap[P13]? = _ := gr_obj HGD.out h13
                have z0 : WD.cell? ⟨P13, 0, none⟩ = some (.int .i64 ka) := by rw [cell_of_block hb]; rfl
                have z1 : WD.cell? ⟨P13, 1, none⟩ = some (.int .i64 ma) := by rw [cell_of_block hb]; rfl
                have z2 : WD.cell? ⟨P13, 2, none⟩ = some ((.slice A7 n7 c7)) := by rw [cell_of_block hb]; rfl
                have z3 : WD.cell? ⟨P13, 3, none⟩ = some ((.slice A8 n8 c8)) := by rw [cell_of_block hb]; rfl
                have z4 : WD.cell? ⟨P13, 4, none⟩ = some (.bool hasa) := by rw [cell_of_block hb]; rfl
                have z5 : WD.cell? ⟨P13, 5, none⟩ = some (.int .u64 (sta : Int)) := by rw [cell_of_block hb]; rfl
                have z6 : WD.cell? ⟨P13, 6, none⟩ = some (.int .i64 topa.o) := by rw [cell_of_block hb]; rfl
                have z7 : WD.cell? ⟨P13, 7, none⟩ = some (.int .i64 topa.i) := by rw [cell_of_block hb]; rfl
                have z8 : WD.cell? ⟨P13, 8, none⟩ = some (.int .u64 (topa.s : Int)) := by rw [cell_of_block hb]; rfl
                have z9 : WD.cell? ⟨P13, 9, none⟩ = some (.string topa.e) := by rw [cell_of_block hb]; rfl
                have z10 : WD.cell? ⟨P13, 10, none⟩ = some (.bool dfa) := by rw [cell_of_block hb]; rfl
                have f0 := unfrozen_of_block hb 0
                have f1 := unfrozen_of_block hb 1
                have f2 := unfrozen_of_block hb 2
                have f3 := unfrozen_of_block hb 3
                have f4 := unfrozen_of_block hb 4
                have f5 := unfrozen_of_block hb 5
                have f6 := unfrozen_of_block hb 6
                have f7 := unfrozen_of_block hb 7
                have f8 := unfrozen_of_block hb 8
                have f9 := unfrozen_of_block hb 9
                have f10 := unfrozen_of_block hb 10
                refine aSkip rfl rfl (w' := putCells WD P13 0 ((fsc k1 m1 (.slice Azp nzp czp) (.slice Ayp nyp cyp) has1 st1 top1 df1) : Array Value).toList) ?_ ⟨_, rfl, hI.up2 hn⟩
                clear hb hI
                go_simp
                rfl
              · obtain rfl := Option.some.inj (show some _ = some o from ho)
                obtain ⟨y1, hy1⟩ := hdep ⟨1, .data⟩ (by simp) rfl
                obtain rfl : y1 = .agg (fsc k2 m2 (.slice Azq nzq czq) (.slice Ayq nyq cyq) has2 st2 top2 df2) := hI.v1 y1 hy1
                have s1 := slotE (hNew 1 118 _ _ rfl rfl (by kernel_rfl) hy1)
                obtain ⟨y2, hy2⟩ := hdep ⟨2, .chain⟩ (by simp) rfl
                obtain rfl := hI.some2 y2 hy2 hn
                have hb : (putCells WD P13 0 ((fsc k1 m1 (.slice Azp nzp czp) (.slice Ayp nyp cyp) has1 st1 top1 df1) : Array Value).toList).heap[P15]? = _ := (putCells_far _ _ _ _ _ HPP.out.2.1.symm).trans (gr_obj HGD.out h15)
                obtain ⟨WP, hWP⟩ : ∃ X, X = putCells WD P13 0 ((fsc k1 m1 (.slice Azp nzp czp) (.slice Ayp nyp cyp) has1 st1 top1 df1) : Array Value).toList := ⟨_, rfl⟩
                rw [← hWP] at hb
                have hI4 := fun (y : Value) => hI.up3 (y := y) hy2 hn
                rw [← hWP]
                have z0 : WP.cell? ⟨P15, 0, none⟩ = some (.int .i64 kb) := by rw [cell_of_block hb]; rfl
                have z1 : WP.cell? ⟨P15, 1, none⟩ = some (.int .i64 mb) := by rw [cell_of_block hb]; rfl
                have z2 : WP.cell? ⟨P15, 2, none⟩ = some ((.slice A5 n5 c5)) := by rw [cell_of_block hb]; rfl
                have z3 : WP.cell? ⟨P15, 3, none⟩ = some ((.slice A6 n6 c6)) := by rw [cell_of_block hb]; rfl
                have z4 : WP.cell? ⟨P15, 4, none⟩ = some (.bool hasb) := by rw [cell_of_block hb]; rfl
                have z5 : WP.cell? ⟨P15, 5, none⟩ = some (.int .u64 (stb : Int)) := by rw [cell_of_block hb]; rfl
                have z6 : WP.cell? ⟨P15, 6, none⟩ = some (.int .i64 topb.o) := by rw [cell_of_block hb]; rfl
                have z7 : WP.cell? ⟨P15, 7, none⟩ = some (.int .i64 topb.i) := by rw [cell_of_block hb]; rfl
                have z8 : WP.cell? ⟨P15, 8, none⟩ = some (.int .u64 (topb.s : Int)) := by rw [cell_of_block hb]; rfl
                have z9 : WP.cell? ⟨P15, 9, none⟩ = some (.string topb.e) := by rw [cell_of_block hb]; rfl
                have z10 : WP.cell? ⟨P15, 10, none⟩ = some (.bool dfb) := by rw [cell_of_block hb]; rfl
                have f0 := unfrozen_of_block hb 0
                have f1 := unfrozen_of_block hb 1
                have f2 := unfrozen_of_block hb 2
                have f3 := unfrozen_of_block hb 3
                have f4 := unfrozen_of_block hb 4
                have f5 := unfrozen_of_block hb 5
                have f6 := unfrozen_of_block hb 6
                have f7 := unfrozen_of_block hb 7
                have f8 := unfrozen_of_block hb 8
                have f9 := unfrozen_of_block hb 9
                have f10 := unfrozen_of_block hb 10
                refine aSkip rfl rfl (w' := putCells WP P15 0 ((fsc k2 m2 (.slice Azq nzq czq) (.slice Ayq nyq cyq) has2 st2 top2 df2) : Array Value).toList) ?_ ⟨_, rfl, by rw [hWP]; exact hI4 _⟩
                clear hb hI hI4 hWP
                go_simp
                rfl
            · intro vals wc hall hI
              refine NoPanic.normal ?_
              obtain ⟨y0, hy0⟩ := hall 0 (by decide)
              obtain ⟨y1, hy1⟩ := hall 1 (by decide)
              obtain ⟨y2, hy2⟩ := hall 2 (by decide)
              obtain ⟨y3, hy3⟩ := hall 3 (by decide)
              obtain rfl := hI.v0 y0 hy0
              obtain rfl := hI.v1 y1 hy1
              obtain ⟨-, hwc⟩ := hI.some3 y3 hy3
              simp only [putAll, putV, hy0, hy1, hy2, hy3]
              clear hI hall hy0 hy1 hy2 hy3
              simp only [Act.put, List.setIfInBounds_toArray, List.set_cons_zero, List.set_cons_succ]
              have hs8 := HS8.out.next HGD.out
              have hs9 := hs8.putAC (s' := ⟨k1, m1, E1, L1, has1, st1, top1, df1⟩) HPP.out.1 HPP.out.2.1 HPP.out.2.2.1 (HR1.out.1.gr HGD.out) (HR1.out.2.gr HGD.out)
              have kA : Keeps btV WD (putCells WD P13 0 ((fsc k1 m1 (.slice Azp nzp czp) (.slice Ayp nyp cyp) has1 st1 top1 df1) : Array Value).toList) := putCells_keeps (z := fsc ka ma (.slice A7 n7 c7) (.slice A8 n8 c8) hasa sta topa dfa) hs8.ba (by decide) _ _
              have HS10 : Hid (FsS w u cv P13 P15 P16 ⟨k1, m1, E1, L1, has1, st1, top1, df1⟩ ⟨k2, m2, E2, L2, has2, st2, top2, df2⟩ (.slice Azp nzp czp) (.slice Ayp nyp cyp) (.slice Azq nzq czq) (.slice Ayq nyq cyq) (upd d ii dm) (.slice (some ⟨b, off, none⟩) N c9) O wc) := Lib.hid (by
                rw [hwc]
                exact hs9.putBC (s' := ⟨k2, m2, E2, L2, has2, st2, top2, df2⟩) HPP.out.2.2.2.2.1 HPP.out.2.1 HPP.out.2.2.2.1 ((HR2.out.1.gr HGD.out).keepsV kA) (own_keeps (HR2.out.2.gr HGD.out) (by decide) kA))
              clear hwc hs8 hs9 kA
              have hwj : wrap64 ((j : Int) + 1) = ((j + 1 : Nat) : Int) := by unfold wrap64; omega
              go_wp2_with fail
              go_roundw
              case rel => exact ⟨j + 1, by omega, (by first | rfl | rw [hwj]), Lib.hid ⟨P ++ [t2], _, _, _, _, _, HPN.out, by rw [List.length_append, HPL.out.2]; rfl, by rw [HNX.out, HNX2.out, ← HDM.out]; exact HS10.out⟩⟩
              case measure => first | (simp [intOf]; omega) | (rw [hwj]; simp [intOf]; omega)
        · have z0 : ¬ (j : Int) < (np : Int) := by omega
          go_upto_region 20 with (fail)
          clear z0
          have hpi := HPL.out.1
          have hex := pick_some HOK.out HCC.out (by rw [← HOO.out]; exact hpi) (by rw [← HOO.out, HPL.out.2]; exact HN.out ▸ hjn)
          rw [← HOO.out] at hex
          have hnx := next_any (.slice (some ⟨b, off, none⟩) N c9) O d 0 (by omega) wp HS1.out.xs.xv hat60 hex
          rw [show ((0 : Nat) : Int) = 0 from rfl] at hnx
          have HNXT := Lib.hid hnx
          clear hnx
          obtain ⟨m0, m1', m2, m3, m4, m5, m6, m7⟩ := HS1.out.bd.all
          clear hex hpi
          go_wp2_with fail
          refine HNXT.out.mono ?_
          rintro e w6 ⟨kx, t2, rfl, hk2, hpb, g6⟩
          have HS6 := Lib.hid (HS1.out.next g6)
          have HP2 := Lib.hid (And.intro hk2 hpb)
          have HBP6 := Lib.hid (gr_obj g6 HBPp.out)
          have HL86 : Hid (SO w6 w.heap.size (.slice Azp nzp czp) E1 ∧ GOw w6 w.heap.size (.slice Ayp nyp cyp) L1) := Lib.hid ⟨HL8p.out.1.gr g6, HL8p.out.2.gr g6⟩
          clear m0 m1' m2 m3 m4 m5 m6 m7 g6 hk2 hpb
          have hkl : kx < O.length := (List.getElem?_eq_some_iff.1 HP2.out.1).1
          have hke : O[kx] = t2 := (List.getElem?_eq_some_iff.1 HP2.out.1).2
          have hkm : t2 ∈ O := List.mem_of_getElem? HP2.out.1
          obtain ⟨A', c', hv', -, -, hat⟩ := HS6.out.xs.xv
          injection hv' with q1 q2 q3
          subst q1 q3
          obtain ⟨b2, off2, hb2, vt2, htv2, hxf2⟩ := hat kx hkl
          injection hb2 with hb2
          injection hb2 with r1 r2
          subst r1 r2
          rw [hke] at htv2 hxf2
          obtain ⟨Bt, dt, hvt2⟩ := tov_form htv2
          obtain ⟨mt2, hmt2⟩ : ∃ n, n = t2.ops.length := ⟨_, rfl⟩
          rw [← hmt2] at hvt2
          subst hvt2
          have htx2 := HTX.out t2 hkm
          obtain ⟨ii, hii, hori, hpn⟩ := pick_next HOK.out (P := P) (d := d) (by rw [← HOO.out]; exact HPL.out.1) (by rw [← HOO.out]; exact hkm) HP2.out.2
          rw [← HOO.out] at hpn
          have HPN := Lib.hid hpn
          have HORI := Lib.hid (And.intro hori hii)
          obtain ⟨s2, hs2⟩ : ∃ x, x = applyS ⟨#[107]⟩ t2 ⟨kb, mb, Eb, Lb, hasb, stb, topb, dfb⟩ := ⟨_, rfl⟩
          have HNX2 : Hid (foldS kind start ⟨#[107]⟩ (P ++ [t2]) = s2) := Lib.hid (by rw [foldS_snoc, ← HSB.out.1]; exact hs2.symm)
          have HAQ : Hid (∀ w1, Gr w6 w1 → Calls Tryz.prog 14 #[.agg (fsc kb mb (.slice A5 n5 c5) (.slice A6 n6 c6) hasb stb topb dfb), .agg (tcs t2 (.slice Bt mt2 dt)), .string ⟨#[107]⟩] w1 fun e w' => ∃ A1 n1 c1 A2 n2 c2, e = .returned (.tuple #[.agg (fsc s2.k s2.n (.slice A1 n1 c1) (.slice A2 n2 c2) s2.has s2.st s2.top s2.df), .int .i64 0]) ∧ SO w' w1.heap.size (.slice A1 n1 c1) s2.ever ∧ GOw w' w1.heap.size (.slice A2 n2 c2) s2.live ∧ Gr w1 w') := Lib.hid (fun w1 g => by
            have hrv : RV w1 (.agg (fsc kb mb (.slice A5 n5 c5) (.slice A6 n6 c6) hasb stb topb dfb)) ⟨kb, mb, Eb, Lb, hasb, stb, topb, dfb⟩ := ⟨_, _, rfl, (HS6.out.b1.gr g).sv, (HS6.out.b2.gr g).gv⟩
            have ha := apply_ok ⟨kb, mb, Eb, Lb, hasb, stb, topb, dfb⟩ _ t2 Bt mt2 dt ⟨#[107]⟩ w1 hrv HSB.out.2 (htv2.gr g) htx2.2.1 htx2.2.2 htx2.1 (HFB.out.le (by omega))
            rw [← hs2] at ha
            exact ha.mono fun e w' h => h.form)
          have HXF2 := Lib.hid hxf2
          have HKN : Hid ((kx : Int) < (N : Int)) := Lib.hid (by rw [HN.out]; omega)
          have HWSq : Hid (w.heap.size ≤ w6.heap.size) := Lib.hid HS6.out.gr.size
          clear hkl hke hkm hat q2 htv2 hxf2 hmt2 htx2 hori hii hpn hs2
          go_upto_region 23 with (fail)
          refine wp_region_noPanic ?_
          refine iRegionA (RI btV w6 (fun k => ((SFt w.heap.size (fsc kb mb (.slice A5 n5 c5) (.slice A6 n6 c6) hasb stb topb dfb) (.slice (some ⟨b, off, none⟩) N c9) kx b (off + kx * 12) t2 (.slice Bt mt2 dt) ⟨#[107]⟩ s2) k).P) [(10, 11, 8)] (fun _ => 39) (fun _ => zst)) (by kernel_rfl) (by kernel_rfl) (ri_start (fun k y wA wB => ((SFt w.heap.size (fsc kb mb (.slice A5 n5 c5) (.slice A6 n6 c6) hasb stb topb dfb) (.slice (some ⟨b, off, none⟩) N c9) kx b (off + kx * 12) t2 (.slice Bt mt2 dt) ⟨#[107]⟩ s2) k).st y wA wB) (Gr.refl _)) ?_ ?_
          · intro i o ho vals wq A hI hn hdep hOld hNew
            have hi : i < 13 := (List.getElem?_eq_some_iff.1 ho).1
            have hb10 : wq.heap[P15]? = some (.cells (fsc kb mb (.slice A5 n5 c5) (.slice A6 n6 c6) hasb stb topb dfb) 39 (0, 0)) := gr_obj hI.gr HS6.out.bb
            have p0 : wq.cell? ⟨P15, 0, none⟩ = some (.int .i64 kb) := by rw [cell_of_block hb10]; rfl
            have p1 : wq.cell? ⟨P15, 1, none⟩ = some (.int .i64 mb) := by rw [cell_of_block hb10]; rfl
            have p2 : wq.cell? ⟨P15, 2, none⟩ = some (.slice A5 n5 c5) := by rw [cell_of_block hb10]; rfl
            have p3 : wq.cell? ⟨P15, 3, none⟩ = some (.slice A6 n6 c6) := by rw [cell_of_block hb10]; rfl
            have p4 : wq.cell? ⟨P15, 4, none⟩ = some (.bool hasb) := by rw [cell_of_block hb10]; rfl
            have p5 : wq.cell? ⟨P15, 5, none⟩ = some (.int .u64 (stb : Int)) := by rw [cell_of_block hb10]; rfl
            have p6 : wq.cell? ⟨P15, 6, none⟩ = some (.int .i64 topb.o) := by rw [cell_of_block hb10]; rfl
            have p7 : wq.cell? ⟨P15, 7, none⟩ = some (.int .i64 topb.i) := by rw [cell_of_block hb10]; rfl
            have p8 : wq.cell? ⟨P15, 8, none⟩ = some (.int .u64 (topb.s : Int)) := by rw [cell_of_block hb10]; rfl
            have p9 : wq.cell? ⟨P15, 9, none⟩ = some (.string topb.e) := by rw [cell_of_block hb10]; rfl
            have p10 : wq.cell? ⟨P15, 10, none⟩ = some (.bool dfb) := by rw [cell_of_block hb10]; rfl
            obtain ⟨x0, x1, x2, x3, x4, x5, x6, x7, x8, x9, x10, x11⟩ := HXF2.out.gr hI.gr
            have hj1 : (kx : Int) < (N : Int) := HKN.out
            have hj0 : (0 : Int) ≤ (kx : Int) := Int.natCast_nonneg _
            clear hb10
            have eo11 : A.tmps[11]?.getD undef = .string ⟨#[107]⟩ := slotE (hOld 11 (by kernel_rfl))
            have eo12 : A.tmps[12]?.getD undef = .slice (some ⟨b, off, none⟩) N c9 := slotE (hOld 12 (by kernel_rfl))
            have eo15 : A.tmps[15]?.getD undef = .pointer (some ⟨P15, 0, none⟩) := slotE (hOld 15 (by kernel_rfl))
            have eo21 : A.tmps[21]?.getD undef = .int .i64 (kx : Int) := slotE (hOld 21 (by kernel_rfl))
            obtain rfl | rfl | rfl | rfl | rfl | rfl | rfl | rfl | rfl | rfl | rfl | rfl | rfl : i = 0 ∨ i = 1 ∨ i = 2 ∨ i = 3 ∨ i = 4 ∨ i = 5 ∨ i = 6 ∨ i = 7 ∨ i = 8 ∨ i = 9 ∨ i = 10 ∨ i = 11 ∨ i = 12 := by omega
            · obtain rfl := Option.some.inj (show some _ = some o from ho)
              refine aVal rfl rfl (v := .agg (fsc kb mb (.slice A5 n5 c5) (.slice A6 n6 c6) hasb stb topb dfb)) (w' := wq) ?_ ⟨_, rfl, hI.val hn (by decide) (rfl)⟩
              go_simp
            · obtain rfl := Option.some.inj (show some _ = some o from ho)
              refine aVal rfl rfl (v := .slice (some ⟨b, off, none⟩) N c9) (w' := wq) ?_ ⟨_, rfl, hI.val hn (by decide) (rfl)⟩
              go_simp
            · obtain rfl := Option.some.inj (show some _ = some o from ho)
              refine aVal rfl rfl (v := .int .i64 (kx : Int)) (w' := wq) ?_ ⟨_, rfl, hI.val hn (by decide) (rfl)⟩
              go_simp
            · obtain rfl := Option.some.inj (show some _ = some o from ho)
              obtain ⟨y1, hy1⟩ := hdep ⟨1, .data⟩ (by simp) rfl
              obtain rfl : y1 = .slice (some ⟨b, off, none⟩) N c9 := hI.ok 1 y1 hy1
              have s1 := slotE (hNew 1 98 _ _ rfl rfl (by kernel_rfl) hy1)
              obtain ⟨y2, hy2⟩ := hdep ⟨2, .data⟩ (by simp) rfl
              obtain rfl : y2 = .int .i64 (kx : Int) := hI.ok 2 y2 hy2
              have s2 := slotE (hNew 2 99 _ _ rfl rfl (by kernel_rfl) hy2)
              refine aVal rfl rfl (v := .pointer (some ⟨b, off + kx * 12, none⟩)) (w' := wq) ?_ ⟨_, rfl, hI.val hn (by decide) (rfl)⟩
              go_simp
            · obtain rfl := Option.some.inj (show some _ = some o from ho)
              obtain ⟨y3, hy3⟩ := hdep ⟨3, .data⟩ (by simp) rfl
              obtain rfl : y3 = .pointer (some ⟨b, off + kx * 12, none⟩) := hI.ok 3 y3 hy3
              have s3 := slotE (hNew 3 100 _ _ rfl rfl (by kernel_rfl) hy3)
              refine aVal rfl rfl (v := .agg (tcs t2 (.slice Bt mt2 dt))) (w' := wq) ?_ ⟨_, rfl, hI.val hn (by decide) (rfl)⟩
              go_simp
            · obtain rfl := Option.some.inj (show some _ = some o from ho)
              refine aVal rfl rfl (v := .string ⟨#[107]⟩) (w' := wq) ?_ ⟨_, rfl, hI.val hn (by decide) (rfl)⟩
              go_simp
            · obtain rfl := Option.some.inj (show some _ = some o from ho)
              obtain ⟨y0, hy0⟩ := hdep ⟨0, .data⟩ (by simp) rfl
              obtain rfl : y0 = .agg (fsc kb mb (.slice A5 n5 c5) (.slice A6 n6 c6) hasb stb topb dfb) := hI.ok 0 y0 hy0
              have s0 := slotE (hNew 0 97 _ _ rfl rfl (by kernel_rfl) hy0)
              obtain ⟨y4, hy4⟩ := hdep ⟨4, .data⟩ (by simp) rfl
              obtain rfl : y4 = .agg (tcs t2 (.slice Bt mt2 dt)) := hI.ok 4 y4 hy4
              have s4 := slotE (hNew 4 101 _ _ rfl rfl (by kernel_rfl) hy4)
              obtain ⟨y5, hy5⟩ := hdep ⟨5, .data⟩ (by simp) rfl
              obtain rfl : y5 = .string ⟨#[107]⟩ := hI.ok 5 y5 hy5
              have s5 := slotE (hNew 5 102 _ _ rfl rfl (by kernel_rfl) hy5)
              refine aCall rfl rfl (w1 := wq) ?_ ((HAQ.out wq hI.gr).mono fun e w' ⟨A1, n1, c1, A2, n2, c2, he, h1, h2, hg⟩ => ⟨_, he, _, rfl, (hI.next hg).val hn (by decide) (⟨A1, n1, c1, A2, n2, c2, rfl, h1.le (Nat.le_trans HWSq.out hI.gr.size), h2.le (Nat.le_trans HWSq.out hI.gr.size)⟩)⟩)
              go_simp
            · obtain rfl := Option.some.inj (show some _ = some o from ho)
              obtain ⟨y6, hy6⟩ := hdep ⟨6, .data⟩ (by simp) rfl
              obtain ⟨A1_6, n1_6, c1_6, A2_6, n2_6, c2_6, rfl, hl6⟩ : ∃ A1 n1 c1 A2 n2 c2, y6 = .tuple #[.agg (fsc s2.k s2.n (.slice A1 n1 c1) (.slice A2 n2 c2) s2.has s2.st s2.top s2.df), .int .i64 0] ∧ SO wq w.heap.size (.slice A1 n1 c1) s2.ever ∧ GOw wq w.heap.size (.slice A2 n2 c2) s2.live := hI.ok 6 y6 hy6
              have s6 := slotE (hNew 6 103 _ _ rfl rfl (by kernel_rfl) hy6)
              refine aVal rfl rfl (v := .tuple #[.agg (fsc s2.k s2.n (.slice A1_6 n1_6 c1_6) (.slice A2_6 n2_6 c2_6) s2.has s2.st s2.top s2.df), .int .i64 0]) (w' := wq) ?_ ⟨_, rfl, hI.val hn (by decide) (⟨_, _, _, _, _, _, rfl, hl6⟩)⟩
              go_simp
            · obtain rfl := Option.some.inj (show some _ = some o from ho)
              obtain ⟨y7, hy7⟩ := hdep ⟨7, .data⟩ (by simp) rfl
              obtain ⟨A1_7, n1_7, c1_7, A2_7, n2_7, c2_7, rfl, hl7⟩ : ∃ A1 n1 c1 A2 n2 c2, y7 = .tuple #[.agg (fsc s2.k s2.n (.slice A1 n1 c1) (.slice A2 n2 c2) s2.has s2.st s2.top s2.df), .int .i64 0] ∧ SO wq w.heap.size (.slice A1 n1 c1) s2.ever ∧ GOw wq w.heap.size (.slice A2 n2 c2) s2.live := hI.ok 7 y7 hy7
              have s7 := slotE (hNew 7 96 _ _ rfl rfl (by kernel_rfl) hy7)
              refine aVal rfl rfl (v := .agg (fsc s2.k s2.n (.slice A1_7 n1_7 c1_7) (.slice A2_7 n2_7 c2_7) s2.has s2.st s2.top s2.df)) (w' := wq) ?_ ⟨_, rfl, hI.val hn (by decide) (⟨_, _, _, _, _, _, rfl, hl7⟩)⟩
              go_simp
            · obtain rfl := Option.some.inj (show some _ = some o from ho)
              obtain ⟨y7, hy7⟩ := hdep ⟨7, .data⟩ (by simp) rfl
              obtain ⟨A1_7, n1_7, c1_7, A2_7, n2_7, c2_7, rfl, hl7⟩ : ∃ A1 n1 c1 A2 n2 c2, y7 = .tuple #[.agg (fsc s2.k s2.n (.slice A1 n1 c1) (.slice A2 n2 c2) s2.has s2.st s2.top s2.df), .int .i64 0] ∧ SO wq w.heap.size (.slice A1 n1 c1) s2.ever ∧ GOw wq w.heap.size (.slice A2 n2 c2) s2.live := hI.ok 7 y7 hy7
              have s7 := slotE (hNew 7 96 _ _ rfl rfl (by kernel_rfl) hy7)
              refine aVal rfl rfl (v := .int .i64 0) (w' := wq) ?_ ⟨_, rfl, hI.val hn (by decide) (rfl)⟩
              go_simp
            · obtain rfl := Option.some.inj (show some _ = some o from ho)
              refine aVal rfl rfl (v := .pointer (some ⟨wq.heap.size, 0, none⟩)) (w' := wq.alloc (.cells (zst) 39)) ?_ ⟨_, rfl, hI.new hn (by decide) rfl rfl (fun _ _ => trivial)⟩
              go_simp
            · obtain rfl := Option.some.inj (show some _ = some o from ho)
              obtain ⟨y10, hy10⟩ := hdep ⟨10, .data⟩ (by simp) rfl
              obtain ⟨P, rfl, hP1, hP2⟩ := hI.at_new (a := 10) (k := 11) (s := 8) (by decide) hn hy10
              have s10 := slotE (hNew 10 23 _ _ rfl rfl (by kernel_rfl) hy10)
              obtain ⟨y8, hy8⟩ := hdep ⟨8, .data⟩ (by simp) rfl
              obtain ⟨A1_8, n1_8, c1_8, A2_8, n2_8, c2_8, rfl, hl8⟩ : ∃ A1 n1 c1 A2 n2 c2, y8 = .agg (fsc s2.k s2.n (.slice A1 n1 c1) (.slice A2 n2 c2) s2.has s2.st s2.top s2.df) ∧ SO wq w.heap.size (.slice A1 n1 c1) s2.ever ∧ GOw wq w.heap.size (.slice A2 n2 c2) s2.live := hI.ok 8 y8 hy8
              have s8 := slotE (hNew 8 104 _ _ rfl rfl (by kernel_rfl) hy8)
              have z0 : wq.cell? ⟨P, 0, none⟩ = some (.int .i64 0) := by rw [cell_of_block hP2]; rfl
              have k0 := unfrozen_of_block hP2 0
              have z1 : wq.cell? ⟨P, 1, none⟩ = some (.int .i64 0) := by rw [cell_of_block hP2]; rfl
              have k1 := unfrozen_of_block hP2 1
              have z2 : wq.cell? ⟨P, 2, none⟩ = some (.slice none 0 0) := by rw [cell_of_block hP2]; rfl
              have k2 := unfrozen_of_block hP2 2
              have z3 : wq.cell? ⟨P, 3, none⟩ = some (.slice none 0 0) := by rw [cell_of_block hP2]; rfl
              have k3 := unfrozen_of_block hP2 3
              have z4 : wq.cell? ⟨P, 4, none⟩ = some (.bool false) := by rw [cell_of_block hP2]; rfl
              have k4 := unfrozen_of_block hP2 4
              have z5 : wq.cell? ⟨P, 5, none⟩ = some (.int .u64 0) := by rw [cell_of_block hP2]; rfl
              have k5 := unfrozen_of_block hP2 5
              have z6 : wq.cell? ⟨P, 6, none⟩ = some (.int .i64 0) := by rw [cell_of_block hP2]; rfl
              have k6 := unfrozen_of_block hP2 6
              have z7 : wq.cell? ⟨P, 7, none⟩ = some (.int .i64 0) := by rw [cell_of_block hP2]; rfl
              have k7 := unfrozen_of_block hP2 7
              have z8 : wq.cell? ⟨P, 8, none⟩ = some (.int .u64 0) := by rw [cell_of_block hP2]; rfl
              have k8 := unfrozen_of_block hP2 8
              have z9 : wq.cell? ⟨P, 9, none⟩ = some (.string ⟨#[]⟩) := by rw [cell_of_block hP2]; rfl
              have k9 := unfrozen_of_block hP2 9
              have z10 : wq.cell? ⟨P, 10, none⟩ = some (.bool false) := by rw [cell_of_block hP2]; rfl
              have k10 := unfrozen_of_block hP2 10
              have hz := hP2
              refine aSkip rfl rfl (w' := putCells wq P 0 (fsc s2.k s2.n (.slice A1_8 n1_8 c1_8) (.slice A2_8 n2_8 c2_8) s2.has s2.st s2.top s2.df : Array Value).toList) ?_ ⟨_, rfl, hI.putA (a := 10) (k := 11) (s := 8) (c := fsc s2.k s2.n (.slice A1_8 n1_8 c1_8) (.slice A2_8 n2_8 c2_8) s2.has s2.st s2.top s2.df) (by decide) hn (by decide) (by decide) (by decide) hy10 hy8 rfl (fun _ => trivial)⟩
              clear hz hI hP2
              go_simp
              rfl
            · obtain rfl := Option.some.inj (show some _ = some o from ho)
              obtain ⟨y9, hy9⟩ := hdep ⟨9, .data⟩ (by simp) rfl
              obtain rfl : y9 = .int .i64 0 := hI.ok 9 y9 hy9
              have s9 := slotE (hNew 9 105 _ _ rfl rfl (by kernel_rfl) hy9)
              refine aVal rfl rfl (v := .int .i64 0) (w' := wq) ?_ ⟨_, rfl, hI.val hn (by decide) (rfl)⟩
              go_simp
          · intro vals wq hall hI
            refine NoPanic.normal ?_
            obtain ⟨y0, hy0⟩ := hall 0 (by decide)
            obtain ⟨y1, hy1⟩ := hall 1 (by decide)
            obtain ⟨y2, hy2⟩ := hall 2 (by decide)
            obtain ⟨y3, hy3⟩ := hall 3 (by decide)
            obtain ⟨y4, hy4⟩ := hall 4 (by decide)
            obtain ⟨y5, hy5⟩ := hall 5 (by decide)
            obtain ⟨y6, hy6⟩ := hall 6 (by decide)
            obtain ⟨y7, hy7⟩ := hall 7 (by decide)
            obtain ⟨y8, hy8⟩ := hall 8 (by decide)
            obtain ⟨y9, hy9⟩ := hall 9 (by decide)
            obtain ⟨y10, hy10⟩ := hall 10 (by decide)
            obtain ⟨y11, hy11⟩ := hall 11 (by decide)
            obtain ⟨y12, hy12⟩ := hall 12 (by decide)
            have hP := hI.at_full (a := 10) (k := 11) (s := 8) (by decide) hy11 hy8 hy10
            obtain ⟨Azq, nzq, czq, Ayq, nyq, cyq, rfl, hl8⟩ : ∃ A1 n1 c1 A2 n2 c2, y8 = .agg (fsc s2.k s2.n (.slice A1 n1 c1) (.slice A2 n2 c2) s2.has s2.st s2.top s2.df) ∧ SO wq w.heap.size (.slice A1 n1 c1) s2.ever ∧ GOw wq w.heap.size (.slice A2 n2 c2) s2.live := hI.ok 8 y8 hy8
            obtain ⟨Pnq, rfl, hPn, hbP⟩ := hP
            obtain rfl : y12 = .int .i64 0 := hI.ok 12 y12 hy12
            have HBPq : Hid (wq.heap[Pnq]? = some (.cells (fsc s2.k s2.n (.slice Azq nzq czq) (.slice Ayq nyq cyq) s2.has s2.st s2.top s2.df) 39 (0, 0))) := Lib.hid hbP
            have HL8q := Lib.hid hl8
            have HGCq := Lib.hid hI.gr
            have HPnq := Lib.hid hPn
            clear hbP hl8 hPn
            simp only [putAll, putV, hy0, hy1, hy2, hy3, hy4, hy5, hy6, hy7, hy8, hy9, hy10, hy11, hy12]
            clear hI hall hy0 hy1 hy2 hy3 hy4 hy5 hy6 hy7 hy8 hy9 hy10 hy11 hy12
            simp only [Act.put, List.setIfInBounds_toArray, List.set_cons_zero, List.set_cons_succ]
            obtain ⟨k2, m2, E2, L2, has2, st2, top2, df2⟩ := s2
            have HS7 := Lib.hid (HS6.out.next HGCq.out)
            have x0 := (HXF2.out.gr HGCq.out).1
            rw [HORI.out.1] at x0
            have HB7 := Lib.hid (gr_obj HGCq.out HBP6.out)
            obtain ⟨di, hdi⟩ : ∃ x, x = d ii := ⟨_, rfl⟩
            obtain ⟨dm, hdm⟩ : ∃ x, x = di + 1 := ⟨_, rfl⟩
            have hdc := HS7.out.bd.at HORI.out.2
            have hfz := unfrozen_of_block HS7.out.bd.box ii
            have hdl : di ≤ 1024 := by rw [hdi]; exact HPL.out.1.le ii HORI.out.2
            rw [← hdi] at hdc
            have u1 : IntKind.u64.wrap ((di : Int) + 1) = (dm : Int) := by rw [IntWalk.u64_in _ ⟨by omega, by omega⟩]; omega
            have u2 : ((di : Int) + 1) % 18446744073709551616 = (dm : Int) := by omega
            have i0 : (0 : Int) ≤ (ii : Int) := Int.natCast_nonneg _
            have i8 : (ii : Int) < 8 := by have := HORI.out.2; omega
            have kn0 : (0 : Int) ≤ (kx : Int) := Int.natCast_nonneg _
            have kn1 : (kx : Int) < (N : Int) := HKN.out
            have HDM : Hid (dm = d ii + 1) := Lib.hid (by rw [hdm, hdi])
            clear hdi hdm
            go_upto_region 27 with (fail)
            obtain ⟨W7, hW7⟩ : ∃ X, X = wq.setCell ⟨P16, ii, none⟩ (.int .u64 (dm : Int)) := ⟨_, rfl⟩
            have HS8 : Hid (FsS w u cv P13 P15 P16 ⟨ka, ma, Ea, La, hasa, sta, topa, dfa⟩ ⟨kb, mb, Eb, Lb, hasb, stb, topb, dfb⟩ (.slice A7 n7 c7) (.slice A8 n8 c8) (.slice A5 n5 c5) (.slice A6 n6 c6) (upd d ii dm) (.slice (some ⟨b, off, none⟩) N c9) O W7) := Lib.hid (by rw [hW7]; exact HS7.out.putD HPP.out.2.2.2.2.2 HPP.out.2.2.1 HPP.out.2.2.2.1 HORI.out.2 dm)
            have hkd : Keeps btV wq W7 := by
              rw [hW7]
              exact fun b cs t fr ht hb => set_obj_other hb (fun e => by
                subst e
                have := HS7.out.bd.box
                rw [hb] at this
                injection this with this
                injection this with e1 e2 e3
                subst e2
                exact absurd ht (by decide)) _
            have hne18 : Pnp ≠ P16 := fun e => by
              have h1 := HB7.out
              have h2 := HS7.out.bd.box
              rw [e, h2] at h1
              injection h1 with h1
              injection h1 with e1 e2
              exact absurd e2 (by decide)
            have hne23 : Pnq ≠ P16 := fun e => by
              have h1 := HBPq.out
              have h2 := HS7.out.bd.box
              rw [e, h2] at h1
              injection h1 with h1
              injection h1 with e1 e2
              exact absurd e2 (by decide)
            have HB18 : Hid (W7.heap[Pnp]? = some (.cells (fsc k1 m1 (.slice Azp nzp czp) (.slice Ayp nyp cyp) has1 st1 top1 df1) 39 (0, 0))) := Lib.hid (by rw [hW7]; exact set_obj_other HB7.out hne18 _)
            have HB23 : Hid (W7.heap[Pnq]? = some (.cells (fsc k2 m2 (.slice Azq nzq czq) (.slice Ayq nyq cyq) has2 st2 top2 df2) 39 (0, 0))) := Lib.hid (by rw [hW7]; exact set_obj_other HBPq.out hne23 _)
            have HR1 : Hid (SO W7 w.heap.size (.slice Azp nzp czp) E1 ∧ GOw W7 w.heap.size (.slice Ayp nyp cyp) L1) := Lib.hid ⟨(HL86.out.1.gr HGCq.out).keepsV hkd, own_keeps (HL86.out.2.gr HGCq.out) (by decide) hkd⟩
            have HR2 : Hid (SO W7 w.heap.size (.slice Azq nzq czq) E2 ∧ GOw W7 w.heap.size (.slice Ayq nyq cyq) L2) := Lib.hid ⟨HL8q.out.1.keepsV hkd, own_keeps HL8q.out.2 (by decide) hkd⟩
            rw [← hW7]
            have HNE18 : Hid (Pnp ≠ P13 ∧ Pnp ≠ P15 ∧ Pnq ≠ P13 ∧ Pnq ≠ P15) := Lib.hid ⟨by have h1 := HPnp.out; have h2 := (Array.getElem?_eq_some_iff.1 HST.out.ba).1; omega, by have h1 := HPnp.out; have h2 := (Array.getElem?_eq_some_iff.1 HST.out.bb).1; omega, by have h1 := HPnq.out; have h2 := (Array.getElem?_eq_some_iff.1 HS6.out.ba).1; omega, by have h1 := HPnq.out; have h2 := (Array.getElem?_eq_some_iff.1 HS6.out.bb).1; omega⟩
            clear hW7 hkd hne18 hne23 hdc hfz u1 u2 i0 i8 x0 hdl kn0 kn1
            have h13 := HS8.out.ba
            have h15 := HS8.out.bb
            have HNE := Lib.hid (show Pnp ≠ P13 ∧ Pnp ≠ P15 ∧ Pnq ≠ P13 ∧ Pnq ≠ P15 from HNE18.out)
            obtain ⟨WD, hWD⟩ : ∃ X, X = W7.drew := ⟨_, rfl⟩
            have HGD : Hid (Gr W7 WD) := Lib.hid (by rw [hWD]; exact (Gr.refl _).drew)
            have hstart : RgI WD P13 P15 (fsc k1 m1 (.slice Azp nzp czp) (.slice Ayp nyp cyp) has1 st1 top1 df1) (fsc k2 m2 (.slice Azq nzq czq) (.slice Ayq nyq cyq) has2 st2 top2 df2) (fun _ => none) W7.drew := by rw [hWD]; exact RgI.start _ _ _ _ _
            clear hWD
            refine wp_region_noPanic ?_
            refine iRegionA (RgI WD P13 P15 (fsc k1 m1 (.slice Azp nzp czp) (.slice Ayp nyp cyp) has1 st1 top1 df1) (fsc k2 m2 (.slice Azq nzq czq) (.slice Ayq nyq cyq) has2 st2 top2 df2)) (by kernel_rfl) (by kernel_rfl) hstart ?_ ?_
            · intro i o ho vals wc A hI hn hdep hOld hNew
              have hi : i < 4 := (List.getElem?_eq_some_iff.1 ho).1
              have eo13 : A.tmps[13]?.getD undef = .pointer (some ⟨P13, 0, none⟩) := slotE (hOld 13 (by kernel_rfl))
              have eo15 : A.tmps[15]?.getD undef = .pointer (some ⟨P15, 0, none⟩) := slotE (hOld 15 (by kernel_rfl))
              have eo18 : A.tmps[18]?.getD undef = .pointer (some ⟨Pnp, 0, none⟩) := slotE (hOld 18 (by kernel_rfl))
              have eo23 : A.tmps[23]?.getD undef = .pointer (some ⟨Pnq, 0, none⟩) := slotE (hOld 23 (by kernel_rfl))
              obtain rfl | rfl | rfl | rfl : i = 0 ∨ i = 1 ∨ i = 2 ∨ i = 3 := by omega
              · obtain rfl := Option.some.inj (show some _ = some o from ho)
                have hb : wc.heap[Pnp]? = some (.cells (fsc k1 m1 (.slice Azp nzp czp) (.slice Ayp nyp cyp) has1 st1 top1 df1) 39 (0, 0)) := hI.box HNE.out.1 HNE.out.2.1 (gr_obj HGD.out HB18.out)
                have p0 : wc.cell? ⟨Pnp, 0, none⟩ = some (.int .i64 k1) := by rw [cell_of_block hb]; rfl
                have p1 : wc.cell? ⟨Pnp, 1, none⟩ = some (.int .i64 m1) := by rw [cell_of_block hb]; rfl
                have p2 : wc.cell? ⟨Pnp, 2, none⟩ = some ((.slice Azp nzp czp)) := by rw [cell_of_block hb]; rfl
                have p3 : wc.cell? ⟨Pnp, 3, none⟩ = some ((.slice Ayp nyp cyp)) := by rw [cell_of_block hb]; rfl
                have p4 : wc.cell? ⟨Pnp, 4, none⟩ = some (.bool has1) := by rw [cell_of_block hb]; rfl
                have p5 : wc.cell? ⟨Pnp, 5, none⟩ = some (.int .u64 (st1 : Int)) := by rw [cell_of_block hb]; rfl
                have p6 : wc.cell? ⟨Pnp, 6, none⟩ = some (.int .i64 top1.o) := by rw [cell_of_block hb]; rfl
                have p7 : wc.cell? ⟨Pnp, 7, none⟩ = some (.int .i64 top1.i) := by rw [cell_of_block hb]; rfl
                have p8 : wc.cell? ⟨Pnp, 8, none⟩ = some (.int .u64 (top1.s : Int)) := by rw [cell_of_block hb]; rfl
                have p9 : wc.cell? ⟨Pnp, 9, none⟩ = some (.string top1.e) := by rw [cell_of_block hb]; rfl
                have p10 : wc.cell? ⟨Pnp, 10, none⟩ = some (.bool df1) := by rw [cell_of_block hb]; rfl
                refine aVal rfl rfl (v := .agg (fsc k1 m1 (.slice Azp nzp czp) (.slice Ayp nyp cyp) has1 st1 top1 df1)) (w' := wc) ?_ ⟨_, rfl, hI.up0 hn⟩
                clear hb
                go_simp
              · obtain rfl := Option.some.inj (show some _ = some o from ho)
                have hb : wc.heap[Pnq]? = some (.cells (fsc k2 m2 (.slice Azq nzq czq) (.slice Ayq nyq cyq) has2 st2 top2 df2) 39 (0, 0)) := hI.box HNE.out.2.2.1 HNE.out.2.2.2 (gr_obj HGD.out HB23.out)
                have p0 : wc.cell? ⟨Pnq, 0, none⟩ = some (.int .i64 k2) := by rw [cell_of_block hb]; rfl
                have p1 : wc.cell? ⟨Pnq, 1, none⟩ = some (.int .i64 m2) := by rw [cell_of_block hb]; rfl
                have p2 : wc.cell? ⟨Pnq, 2, none⟩ = some ((.slice Azq nzq czq)) := by rw [cell_of_block hb]; rfl
                have p3 : wc.cell? ⟨Pnq, 3, none⟩ = some ((.slice Ayq nyq cyq)) := by rw [cell_of_block hb]; rfl
                have p4 : wc.cell? ⟨Pnq, 4, none⟩ = some (.bool has2) := by rw [cell_of_block hb]; rfl
                have p5 : wc.cell? ⟨Pnq, 5, none⟩ = some (.int .u64 (st2 : Int)) := by rw [cell_of_block hb]; rfl
                have p6 : wc.cell? ⟨Pnq, 6, none⟩ = some (.int .i64 top2.o) := by rw [cell_of_block hb]; rfl
                have p7 : wc.cell? ⟨Pnq, 7, none⟩ = some (.int .i64 top2.i) := by rw [cell_of_block hb]; rfl
                have p8 : wc.cell? ⟨Pnq, 8, none⟩ = some (.int .u64 (top2.s : Int)) := by rw [cell_of_block hb]; rfl
                have p9 : wc.cell? ⟨Pnq, 9, none⟩ = some (.string top2.e) := by rw [cell_of_block hb]; rfl
                have p10 : wc.cell? ⟨Pnq, 10, none⟩ = some (.bool df2) := by rw [cell_of_block hb]; rfl
                refine aVal rfl rfl (v := .agg (fsc k2 m2 (.slice Azq nzq czq) (.slice Ayq nyq cyq) has2 st2 top2 df2)) (w' := wc) ?_ ⟨_, rfl, hI.up1 hn⟩
                clear hb
                go_simp
              · obtain rfl := Option.some.inj (show some _ = some o from ho)
                obtain ⟨y0, hy0⟩ := hdep ⟨0, .data⟩ (by simp) rfl
                obtain rfl : y0 = .agg (fsc k1 m1 (.slice Azp nzp czp) (.slice Ayp nyp cyp) has1 st1 top1 df1) := hI.v0 y0 hy0
                have s0 := slotE (hNew 0 117 _ _ rfl rfl (by kernel_rfl) hy0)
                obtain ⟨hn3, hEqW⟩ := hI.none2 hn
                obtain rfl := hEqW.symm
                have hb : WD.heap[P13]? = _ := gr_obj HGD.out h13
                have z0 : WD.cell? ⟨P13, 0, none⟩ = some (.int .i64 ka) := by rw [cell_of_block hb]; rfl
                have z1 : WD.cell? ⟨P13, 1, none⟩ = some (.int .i64 ma) := by rw [cell_of_block hb]; rfl
                have z2 : WD.cell? ⟨P13, 2, none⟩ = some ((.slice A7 n7 c7)) := by rw [cell_of_block hb]; rfl
                have z3 : WD.cell? ⟨P13, 3, none⟩ = some ((.slice A8 n8 c8)) := by rw [cell_of_block hb]; rfl
                have z4 : WD.cell? ⟨P13, 4, none⟩ = some (.bool hasa) := by rw [cell_of_block hb]; rfl
                have z5 : WD.cell? ⟨P13, 5, none⟩ = some (.int .u64 (sta : Int)) := by rw [cell_of_block hb]; rfl
                have z6 : WD.cell? ⟨P13, 6, none⟩ = some (.int .i64 topa.o) := by rw [cell_of_block hb]; rfl
                have z7 : WD.cell? ⟨P13, 7, none⟩ = some (.int .i64 topa.i) := by rw [cell_of_block hb]; rfl
                have z8 : WD.cell? ⟨P13, 8, none⟩ = some (.int .u64 (topa.s : Int)) := by rw [cell_of_block hb]; rfl
                have z9 : WD.cell? ⟨P13, 9, none⟩ = some (.string topa.e) := by rw [cell_of_block hb]; rfl
                have z10 : WD.cell? ⟨P13, 10, none⟩ = some (.bool dfa) := by rw [cell_of_block hb]; rfl
                have f0 := unfrozen_of_block hb 0
                have f1 := unfrozen_of_block hb 1
                have f2 := unfrozen_of_block hb 2
                have f3 := unfrozen_of_block hb 3
                have f4 := unfrozen_of_block hb 4
                have f5 := unfrozen_of_block hb 5
                have f6 := unfrozen_of_block hb 6
                have f7 := unfrozen_of_block hb 7
                have f8 := unfrozen_of_block hb 8
                have f9 := unfrozen_of_block hb 9
                have f10 := unfrozen_of_block hb 10
                refine aSkip rfl rfl (w' := putCells WD P13 0 ((fsc k1 m1 (.slice Azp nzp czp) (.slice Ayp nyp cyp) has1 st1 top1 df1) : Array Value).toList) ?_ ⟨_, rfl, hI.up2 hn⟩
                clear hb hI
                go_simp
                rfl
              · obtain rfl := Option.some.inj (show some _ = some o from ho)
                obtain ⟨y1, hy1⟩ := hdep ⟨1, .data⟩ (by simp) rfl
                obtain rfl : y1 = .agg (fsc k2 m2 (.slice Azq nzq czq) (.slice Ayq nyq cyq) has2 st2 top2 df2) := hI.v1 y1 hy1
                have s1 := slotE (hNew 1 118 _ _ rfl rfl (by kernel_rfl) hy1)
                obtain ⟨y2, hy2⟩ := hdep ⟨2, .chain⟩ (by simp) rfl
                obtain rfl := hI.some2 y2 hy2 hn
                have hb : (putCells WD P13 0 ((fsc k1 m1 (.slice Azp nzp czp) (.slice Ayp nyp cyp) has1 st1 top1 df1) : Array Value).toList).heap[P15]? = _ := (putCells_far _ _ _ _ _ HPP.out.2.1.symm).trans (gr_obj HGD.out h15)
                obtain ⟨WP, hWP⟩ : ∃ X, X = putCells WD P13 0 ((fsc k1 m1 (.slice Azp nzp czp) (.slice Ayp nyp cyp) has1 st1 top1 df1) : Array Value).toList := ⟨_, rfl⟩
                rw [← hWP] at hb
                have hI4 := fun (y : Value) => hI.up3 (y := y) hy2 hn
                rw [← hWP]
                have z0 : WP.cell? ⟨P15, 0, none⟩ = some (.int .i64 kb) := by rw [cell_of_block hb]; rfl
                have z1 : WP.cell? ⟨P15, 1, none⟩ = some (.int .i64 mb) := by rw [cell_of_block hb]; rfl
                have z2 : WP.cell? ⟨P15, 2, none⟩ = some ((.slice A5 n5 c5)) := by rw [cell_of_block hb]; rfl
                have z3 : WP.cell? ⟨P15, 3, none⟩ = some ((.slice A6 n6 c6)) := by rw [cell_of_block hb]; rfl
                have z4 : WP.cell? ⟨P15, 4, none⟩ = some (.bool hasb) := by rw [cell_of_block hb]; rfl
                have z5 : WP.cell? ⟨P15, 5, none⟩ = some (.int .u64 (stb : Int)) := by rw [cell_of_block hb]; rfl
                have z6 : WP.cell? ⟨P15, 6, none⟩ = some (.int .i64 topb.o) := by rw [cell_of_block hb]; rfl
                have z7 : WP.cell? ⟨P15, 7, none⟩ = some (.int .i64 topb.i) := by rw [cell_of_block hb]; rfl
                have z8 : WP.cell? ⟨P15, 8, none⟩ = some (.int .u64 (topb.s : Int)) := by rw [cell_of_block hb]; rfl
                have z9 : WP.cell? ⟨P15, 9, none⟩ = some (.string topb.e) := by rw [cell_of_block hb]; rfl
                have z10 : WP.cell? ⟨P15, 10, none⟩ = some (.bool dfb) := by rw [cell_of_block hb]; rfl
                have f0 := unfrozen_of_block hb 0
                have f1 := unfrozen_of_block hb 1
                have f2 := unfrozen_of_block hb 2
                have f3 := unfrozen_of_block hb 3
                have f4 := unfrozen_of_block hb 4
                have f5 := unfrozen_of_block hb 5
                have f6 := unfrozen_of_block hb 6
                have f7 := unfrozen_of_block hb 7
                have f8 := unfrozen_of_block hb 8
                have f9 := unfrozen_of_block hb 9
                have f10 := unfrozen_of_block hb 10
                refine aSkip rfl rfl (w' := putCells WP P15 0 ((fsc k2 m2 (.slice Azq nzq czq) (.slice Ayq nyq cyq) has2 st2 top2 df2) : Array Value).toList) ?_ ⟨_, rfl, by rw [hWP]; exact hI4 _⟩
                clear hb hI hI4 hWP
                go_simp
                rfl
            · intro vals wc hall hI
              refine NoPanic.normal ?_
              obtain ⟨y0, hy0⟩ := hall 0 (by decide)
              obtain ⟨y1, hy1⟩ := hall 1 (by decide)
              obtain ⟨y2, hy2⟩ := hall 2 (by decide)
              obtain ⟨y3, hy3⟩ := hall 3 (by decide)
              obtain rfl := hI.v0 y0 hy0
              obtain rfl := hI.v1 y1 hy1
              obtain ⟨-, hwc⟩ := hI.some3 y3 hy3
              simp only [putAll, putV, hy0, hy1, hy2, hy3]
              clear hI hall hy0 hy1 hy2 hy3
              simp only [Act.put, List.setIfInBounds_toArray, List.set_cons_zero, List.set_cons_succ]
              have hs8 := HS8.out.next HGD.out
              have hs9 := hs8.putAC (s' := ⟨k1, m1, E1, L1, has1, st1, top1, df1⟩) HPP.out.1 HPP.out.2.1 HPP.out.2.2.1 (HR1.out.1.gr HGD.out) (HR1.out.2.gr HGD.out)
              have kA : Keeps btV WD (putCells WD P13 0 ((fsc k1 m1 (.slice Azp nzp czp) (.slice Ayp nyp cyp) has1 st1 top1 df1) : Array Value).toList) := putCells_keeps (z := fsc ka ma (.slice A7 n7 c7) (.slice A8 n8 c8) hasa sta topa dfa) hs8.ba (by decide) _ _
              have HS10 : Hid (FsS w u cv P13 P15 P16 ⟨k1, m1, E1, L1, has1, st1, top1, df1⟩ ⟨k2, m2, E2, L2, has2, st2, top2, df2⟩ (.slice Azp nzp czp) (.slice Ayp nyp cyp) (.slice Azq nzq czq) (.slice Ayq nyq cyq) (upd d ii dm) (.slice (some ⟨b, off, none⟩) N c9) O wc) := Lib.hid (by
                rw [hwc]
                exact hs9.putBC (s' := ⟨k2, m2, E2, L2, has2, st2, top2, df2⟩) HPP.out.2.2.2.2.1 HPP.out.2.1 HPP.out.2.2.2.1 ((HR2.out.1.gr HGD.out).keepsV kA) (own_keeps (HR2.out.2.gr HGD.out) (by decide) kA))
              clear hwc hs8 hs9 kA
              have hwj : wrap64 ((j : Int) + 1) = ((j + 1 : Nat) : Int) := by unfold wrap64; omega
              go_wp2_with fail
              go_roundw
              case rel => exact ⟨j + 1, by omega, (by first | rfl | rw [hwj]), Lib.hid ⟨P ++ [t2], _, _, _, _, _, HPN.out, by rw [List.length_append, HPL.out.2]; rfl, by rw [HNX.out, HNX2.out, ← HDM.out]; exact HS10.out⟩⟩
              case measure => first | (simp [intOf]; omega) | (rw [hwj]; simp [intOf]; omega)
    · obtain rfl : j = N := by omega
      have hend : foldS kind start ⟨#[107]⟩ P = foldS kind start ⟨#[107]⟩ O := by
        rw [HOO.out]
        exact pick_end HOK.out (by rw [← HOO.out]; exact HPL.out.1) (by rw [← HOO.out, HPL.out.2]; exact HN.out) HK.out start ⟨#[107]⟩
      have htk : foldS kind start ⟨#[107]⟩ (O.take j) = foldS kind start ⟨#[107]⟩ O := by rw [HN.out, List.take_length]
      rw [hend, htk] at hfs
      have hfit := foldS_fit kind start ⟨#[107]⟩ HOP.out (fun t ht o ho => ((HTX.out t ht).2.2 o ho).2) O.length (Nat.le_refl _)
      rw [List.take_length] at hfit
      have hval : fvalS (foldS kind start ⟨#[107]⟩ O) = rvR kind start (ordR l cv) ⟨#[107]⟩ := by
        rw [foldS_st HK.out, HOO.out]
        exact fold_value HK.out HSTA.out ⟨#[107]⟩ HOK.out cv
      obtain ⟨sf, hsf⟩ : ∃ x, x = foldS kind start ⟨#[107]⟩ O := ⟨_, rfl⟩
      rw [← hsf] at hfs hfit hval
      have hkf : knownB sf.k = true := by rw [hsf, foldS_k HK.out]; exact HK.out
      have hvz : valE kind l cv = 0 := by
        have hkc := known_cases HK.out
        unfold valE
        rw [if_neg (by omega), if_pos HCE.out.symm, if_pos (closedB_iff.2 HCC.out)]
      have hrv2 : rvalV kind start l cv ⟨#[107]⟩ = fvalS sf := by unfold rvalV; rw [if_pos hvz, hval]
      have HFS2 := Lib.hid hfs
      have hlim : sf.live.length ≤ 1000000 ∧ sf.ever.length ≤ 1000000 := by
        have h1 := hfit.live
        have h2 := hfit.ever
        omega
      have HVA := Lib.hid (fun w1 (g : Gr wr w1) => fvalue_any sf _ hkf w1 ⟨_, _, rfl, (hfs.a1.gr g).sv, (hfs.a2.gr g).gv⟩ (FitR.ofM hfit (by omega)))
      have HRV : Hid (∀ w1, Gr w w1 → Calls Tryz.prog 17 #[.int .i64 kind, .int .i64 start, .agg (lcells u), .agg (vcells cv), .string ⟨#[107]⟩] w1 fun e w' => RetR (fvalS sf) 0 w1 e w') := Lib.hid (fun w1 g => by
        have := rval_any kind start u l cv ⟨#[107]⟩ w1 (HLV.out.gr g) HF.out.q HF.out.c HSTA.out
        rw [hrv2, hvz] at this
        exact this)
      have HLM := Lib.hid hlim
      obtain ⟨r, hr⟩ : ∃ r, r = fvalS sf := ⟨_, rfl⟩
      rw [← hr] at HVA HRV
      have hba := hfs.ba
      clear hend htk hfit hval hsf hkf hvz hrv2 hlim hr hfs HPL
      obtain ⟨kf, mf, Ef, Lf, hasf, stf, topf, dff⟩ := sf
      simp only at HVA hba
      go_wp2_with (refine wpList_load_row rfl 39 (.tmp 13) rfl P13 rfl 39 (fsc kf mf (.slice A7 n7 c7) (.slice A8 n8 c8) hasf stf topf dff) (0, 0) _ hba Tryz.underlying39 rfl sinfo ?_)
      refine (HVA.out wr (Gr.refl _)).mono ?_
      rintro e w6 ⟨ve, rfl, hso, g6⟩
      obtain ⟨Av, nv, cvv, rfl⟩ := sv_form3 hso.sv
      obtain ⟨rn, re, ron⟩ := r
      simp only at hso HRV
      have HSO := Lib.hid hso
      have HS6 := Lib.hid (HFS2.out.next g6)
      clear hso g6 hba
      go_upto_region 29 with (refine wpList_store_row rfl 49 (.tmp 25) (.tmp 122) rfl w6.heap.size #[.int .i64 rn, .slice Av nv cvv, .bool ron] rfl rfl 49 #[.int .i64 0, .slice none 0 0, .bool false] (heap_alloc _ _ _) vinfo3 rfl (vcs_ones _ _ _ _ _) ?_)
      obtain ⟨W7, hW7⟩ : ∃ X, X = (w6.alloc (.cells #[.int .i64 0, .slice none 0 0, .bool false] 49)).setRow w6.heap.size #[.int .i64 rn, .slice Av nv cvv, .bool ron] := ⟨_, rfl⟩
      change Code.wp Tryz.prog _ _ _ ((w6.alloc (.cells #[.int .i64 0, .slice none 0 0, .bool false] 49)).setRow w6.heap.size #[.int .i64 rn, .slice Av nv cvv, .bool ron])
      have hz7 : (w6.alloc (.cells #[.int .i64 0, .slice none 0 0, .bool false] 49)).heap[w6.heap.size]? = some (.cells #[.int .i64 0, .slice none 0 0, .bool false] 49 (0, 0)) := heap_alloc _ _ _
      have hg7 : Gr w6 W7 := by rw [hW7]; exact below_setRow ((Gr.refl w6).alloc _) (Nat.le_refl _) _
      have HB25 : Hid (W7.heap[w6.heap.size]? = some (.cells #[.int .i64 rn, .slice Av nv cvv, .bool ron] 49 (0, 0))) := Lib.hid (by rw [hW7]; exact setRow_heap _ _ _ _ _ _ hz7)
      have HS7 := Lib.hid (HS6.out.next hg7)
      have HSO7 := Lib.hid (HSO.out.gr hg7)
      obtain ⟨P25, hP25⟩ : ∃ P, P = w6.heap.size := ⟨_, rfl⟩
      rw [← hW7]
      clear hW7 hz7 hg7
      rw [← hP25] at HB25 ⊢
      clear hP25
      obtain ⟨l0, l1, l2, l3, l4, l5, l6, l7⟩ := HS7.out.lg.all
      obtain ⟨m0, m1, m2, m3, m4, m5, m6, m7⟩ := HS7.out.vv.all
      go_wp2_with fail
      refine (HRV.out W7 HS7.out.gr).mono ?_
      rintro e w8 ⟨ve2, rfl, hsv, g8⟩
      obtain ⟨Au, nu, cu, rfl⟩ := sv_form3 hsv
      clear l0 l1 l2 l3 l4 l5 l6 l7 m0 m1 m2 m3 m4 m5 m6 m7
      have HSV := Lib.hid hsv
      have HS8 := Lib.hid (HS7.out.next g8)
      have HB8 := Lib.hid (gr_obj g8 HB25.out)
      have HSO8 := Lib.hid (HSO7.out.gr g8)
      clear hsv g8
      go_upto_region 30 with (refine wpList_store_row rfl 49 (.tmp 27) (.tmp 131) rfl w8.heap.size #[.int .i64 rn, .slice Au nu cu, .bool ron] rfl rfl 49 #[.int .i64 0, .slice none 0 0, .bool false] (heap_alloc _ _ _) vinfo3 rfl (vcs_ones _ _ _ _ _) ?_)
      obtain ⟨W9, hW9⟩ : ∃ X, X = (w8.alloc (.cells #[.int .i64 0, .slice none 0 0, .bool false] 49)).setRow w8.heap.size #[.int .i64 rn, .slice Au nu cu, .bool ron] := ⟨_, rfl⟩
      change Code.wp Tryz.prog _ _ _ ((w8.alloc (.cells #[.int .i64 0, .slice none 0 0, .bool false] 49)).setRow w8.heap.size #[.int .i64 rn, .slice Au nu cu, .bool ron])
      have hz9 : (w8.alloc (.cells #[.int .i64 0, .slice none 0 0, .bool false] 49)).heap[w8.heap.size]? = some (.cells #[.int .i64 0, .slice none 0 0, .bool false] 49 (0, 0)) := heap_alloc _ _ _
      have hg9 : Gr w8 W9 := by rw [hW9]; exact below_setRow ((Gr.refl w8).alloc _) (Nat.le_refl _) _
      have hb27 : W9.heap[w8.heap.size]? = some (.cells #[.int .i64 rn, .slice Au nu cu, .bool ron] 49 (0, 0)) := by rw [hW9]; exact setRow_heap _ _ _ _ _ _ hz9
      have HS9 := Lib.hid (HS8.out.next hg9)
      have HB9 := Lib.hid (gr_obj hg9 HB8.out)
      have HSO9 := Lib.hid (HSO8.out.gr hg9)
      have HSV9 := Lib.hid (HSV.out.gr hg9)
      obtain ⟨P27, hP27⟩ : ∃ P, P = w8.heap.size := ⟨_, rfl⟩
      rw [← hW9]
      clear hW9 hz9 hg9
      rw [← hP27] at hb27 ⊢
      have HB27 := Lib.hid hb27
      clear hP27 hb27
      have HSM := Lib.hid (sameF_any kf mf (.slice A7 n7 c7) (.slice A8 n8 c8) (.slice A5 n5 c5) (.slice A6 n6 c6) Ef Lf hasf stf topf dff W9 HS9.out.a1.sv HS9.out.a2.gv HS9.out.b1.sv HS9.out.b2.gv HLM.out.2 HLM.out.1)
      have hba := HS9.out.ba
      have hbb := HS9.out.bb
      go_wp2_with (first | (refine wpList_load_row rfl 39 (.tmp 13) rfl P13 rfl 39 (fsc kf mf (.slice A7 n7 c7) (.slice A8 n8 c8) hasf stf topf dff) (0, 0) _ hba Tryz.underlying39 rfl sinfo ?_) | (refine wpList_load_row rfl 39 (.tmp 15) rfl P15 rfl 39 (fsc kf mf (.slice A5 n5 c5) (.slice A6 n6 c6) hasf stf topf dff) (0, 0) _ hbb Tryz.underlying39 rfl sinfo ?_))
      refine HSM.out.mono ?_
      rintro e w10 ⟨rfl, g10⟩
      have h25 := gr_obj g10 HB9.out
      have h27 := gr_obj g10 HB27.out
      have v0 : w10.cell? ⟨P25, 0, none⟩ = some (.int .i64 rn) := by rw [cell_of_block h25]; rfl
      have v1 : w10.cell? ⟨P25, 1, none⟩ = some (.slice Av nv cvv) := by rw [cell_of_block h25]; rfl
      have v2 : w10.cell? ⟨P25, 2, none⟩ = some (.bool ron) := by rw [cell_of_block h25]; rfl
      have y0 : w10.cell? ⟨P27, 0, none⟩ = some (.int .i64 rn) := by rw [cell_of_block h27]; rfl
      have y1 : w10.cell? ⟨P27, 1, none⟩ = some (.slice Au nu cu) := by rw [cell_of_block h27]; rfl
      have y2 : w10.cell? ⟨P27, 2, none⟩ = some (.bool ron) := by rw [cell_of_block h27]; rfl
      have hlv : nv = re.length := by
        obtain ⟨A, c, hv, _⟩ := HSO9.out.sv
        injection hv
      have hlu : nu = re.length := by
        obtain ⟨A, c, hv, _⟩ := HSV9.out
        injection hv
      obtain rfl : nu = nv := by omega
      have HST := Lib.hid (same10_any rn ron Av Au nu cvv cu re w10 hlv (HSO9.out.gr g10).sv (HSV9.out.gr g10))
      have HGF := Lib.hid (HS9.out.gr.trans g10)
      clear hlv hlu h25 h27 g10 hba hbb
      go_wp2_with fail
      refine HST.out.mono ?_
      rintro e w11 ⟨rfl, g11⟩
      go_wp2_with fail
      go_ret
      exact ⟨rfl, HGF.out.trans g11⟩
end Go.Proofs.YtlihcjlonafohaaGreat
