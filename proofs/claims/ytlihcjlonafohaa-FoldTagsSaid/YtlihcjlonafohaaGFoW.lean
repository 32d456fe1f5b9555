/- The law FoldTags. Written by wip/tools/genfow.py. -/
import Derived.Test.YtlihcjlonafohaaG42
import Derived.Test.YtlihcjlonafohaaG21
import Derived.Test.YtlihcjlonafohaaG13
namespace Go.Proofs.Ytlihcjlonafohaa
open Go.RowKit Go.Joins
set_option linter.unusedSimpArgs false
set_option linter.unusedVariables false

def Spec.fsE (B : Nat) (s : FS) : Spec := ⟨fun w y => ∃ A1 n1 c1 A2 n2 c2, y = .tuple #[.agg (fsc s.k s.n (.slice A1 n1 c1) (.slice A2 n2 c2) s.has s.st s.top s.df), .int .i64 0] ∧ SO w B (.slice A1 n1 c1) s.ever ∧ GOw w B (.slice A2 n2 c2) s.live, fun _ _ _ ⟨A1, n1, c1, A2, n2, c2, h1, h2, h3⟩ k => ⟨A1, n1, c1, A2, n2, c2, h1, h2.keepsV k, own_keeps h3 (by decide) k⟩⟩
def Spec.fsV (B : Nat) (s : FS) : Spec := ⟨fun w y => ∃ A1 n1 c1 A2 n2 c2, y = .agg (fsc s.k s.n (.slice A1 n1 c1) (.slice A2 n2 c2) s.has s.st s.top s.df) ∧ SO w B (.slice A1 n1 c1) s.ever ∧ GOw w B (.slice A2 n2 c2) s.live, fun _ _ _ ⟨A1, n1, c1, A2, n2, c2, h1, h2, h3⟩ k => ⟨A1, n1, c1, A2, n2, c2, h1, h2.keepsV k, own_keeps h3 (by decide) k⟩⟩
def SFt (B : Nat) (cur : Array Value) (sl : Value) (j p q : Nat) (t : TX) (vt : Value) (key : ByteArray) (s1 : FS) : Nat → Spec
  | 0 => Spec.fix (.agg cur)
  | 1 => Spec.fix (sl)
  | 2 => Spec.fix (.int .i64 (j : Int))
  | 3 => Spec.fix (.pointer (some ⟨p, q, none⟩))
  | 4 => Spec.fix (.agg (tcs t vt))
  | 5 => Spec.fix (.string key)
  | 6 => Spec.fsE B s1
  | 7 => Spec.fsE B s1
  | 8 => Spec.fsV B s1
  | 9 => Spec.fix (.int .i64 0)
  | 12 => Spec.fix (.int .i64 0)
  | _ => Spec.any
structure SpW where
  P : World → Value → Prop
def SXt (Q H mi b off ni ci xs c : Nat) (t : TX) (At : Option Addr) (nt ct : Nat) : Nat → SpW
  | 0 => ⟨fun _ y => y = .pointer (some ⟨Q, 0, none⟩)⟩
  | 1 => ⟨fun _ y => y = .int .i64 (mi : Int)⟩
  | 2 => ⟨fun _ y => y = .pointer (some ⟨H, mi, none⟩)⟩
  | 3 => ⟨fun _ y => y = .slice (some ⟨b, off, none⟩) ni ci⟩
  | 4 => ⟨fun _ y => y = .pointer (some ⟨Q, 2, none⟩)⟩
  | 5 => ⟨fun _ y => y = .int .u64 (xs : Int)⟩
  | 6 => ⟨fun _ y => y = .int .u64 (c : Int)⟩
  | 7 => ⟨fun _ y => y = .pointer (some ⟨b, off + c * 12, none⟩)⟩
  | 8 => ⟨fun _ y => y = .agg (tcs t (.slice At nt ct))⟩
  | _ => ⟨fun _ _ => True⟩
theorem SXt_st (Q H mi b off ni ci xs c : Nat) (t : TX) (At : Option Addr) (nt ct : Nat) (k : Nat) (y : Value) (w1 w2 : World) (h : (SXt Q H mi b off ni ci xs c t At nt ct k).P w1 y) : (SXt Q H mi b off ni ci xs c t At nt ct k).P w2 y :=
  match k, h with
  | 0, h => h
  | 1, h => h
  | 2, h => h
  | 3, h => h
  | 4, h => h
  | 5, h => h
  | 6, h => h
  | 7, h => h
  | 8, h => h
  | _ + 9, h => h
def btX (t : TypeId) : Bool := t == 44
theorem RetAp.form {s : FS} {w : World} {e : Ending} {w' : World} (h : RetAp s w e w') : ∃ A1 n1 c1 A2 n2 c2, e = .returned (.tuple #[.agg (fsc s.k s.n (.slice A1 n1 c1) (.slice A2 n2 c2) s.has s.st s.top s.df), .int .i64 0]) ∧ SO w' w.heap.size (.slice A1 n1 c1) s.ever ∧ GOw w' w.heap.size (.slice A2 n2 c2) s.live ∧ Gr w w' := by
  obtain ⟨v, h1, ⟨ve, vl, rfl, h2, h3⟩, h4⟩ := h
  obtain ⟨A1, n1, c1, rfl⟩ := sv_form3 h2.sv
  obtain ⟨A2, n2, c2, rfl⟩ := gv_form h3.gv
  exact ⟨A1, n1, c1, A2, n2, c2, h1, h2, h3, h4⟩
theorem keeps_setRow {w : World} {P : Nat} {z c : Array Value} (h : w.heap[P]? = some (.cells z 38 (0, 0))) : Keeps btV w (w.setRow P c) := fun b cs t fr ht hb => by
  have hne : b ≠ P := fun e => by
    subst e
    rw [h] at hb
    injection hb with hb
    injection hb with e1 e2 e3
    subst e2
    exact absurd ht (by decide)
  rw [setRow_other w P b c hne]
  exact hb
/-- What the laws' loops keep: the state's box, its rows, the transactions. -/
structure FgS (w : World) (u : Nat → S3) (P : Nat) (s : FS) (ve vl : Value) (sl : Value) (L : List TX) (wr : World) : Prop where
  bx : wr.heap[P]? = some (.cells (fsc s.k s.n ve vl s.has s.st s.top s.df) 38 (0, 0))
  so : SO wr w.heap.size ve s.ever
  lo : GOw wr w.heap.size vl s.live
  xs : XN wr w.heap.size sl L
  gr : Gr w wr
  lb : LBox wr w.heap.size u
theorem FgS.next {w : World} {u : Nat → S3} {P : Nat} {s : FS} {ve vl sl : Value} {L : List TX} {wr w' : World} (h : FgS w u P s ve vl sl L wr) (g : Gr wr w') : FgS w u P s ve vl sl L w' :=
  ⟨gr_obj g h.bx, h.so.gr g, h.lo.gr g, h.xs.keepsV (Keeps.of_gr g), h.gr.trans g, h.lb.gr g⟩
theorem FgS.put {w : World} {u : Nat → S3} {P : Nat} {s s' : FS} {ve vl ve' vl' sl : Value} {L : List TX} {wr : World} (h : FgS w u P s ve vl sl L wr) (hP : w.heap.size < P) (h1 : SO wr w.heap.size ve' s'.ever) (h2 : GOw wr w.heap.size vl' s'.live) :
    FgS w u P s' ve' vl' sl L (wr.setRow P (fsc s'.k s'.n ve' vl' s'.has s'.st s'.top s'.df)) :=
  ⟨setRow_heap wr P _ _ 38 _ h.bx, h1.keepsV (keeps_setRow h.bx), own_keeps h2 (by decide) (keeps_setRow h.bx), h.xs.keepsV (keeps_setRow h.bx), below_setRow h.gr (Nat.le_of_lt hP) _, ⟨by rw [setRow_other _ _ _ _ (Nat.ne_of_lt hP)]; exact h.lb.box⟩⟩
theorem foldS_take (k start : Int) (key : ByteArray) {L : List TX} {j : Nat} (h : j < L.length) : foldS k start key (L.take (j + 1)) = applyS key L[j] (foldS k start key (L.take j)) := by
  rw [List.take_succ_eq_append_getElem h, foldS_snoc]
theorem foldS_k {k : Int} (hk : knownB k = true) (start : Int) (key : ByteArray) (P : List TX) : (foldS k start key P).k = k := by
  rw [foldS_st hk]
  obtain rfl | rfl | rfl | rfl | rfl | rfl | rfl | rfl := known_cases hk <;> rfl
theorem foldS_fit (k start : Int) (key : ByteArray) {L : List TX} (h8 : ∀ t ∈ L, t.ops.length ≤ 8) (hs : ∀ t ∈ L, ∀ o ∈ t.ops, o.elem.size ≤ 281474976710656) : ∀ j, j ≤ L.length → FitM (j * 8) (foldS k start key (L.take j))
  | 0, _ => by
    show FitM _ (beginS k start)
    exact ⟨Nat.zero_le _, Nat.zero_le _, fun _ h => absurd h (by simp [beginS]), fun _ h => absurd h (by simp [beginS]), (by decide : (tg0.e).size ≤ 281474976710656)⟩
  | j + 1, hj => by
    rw [foldS_take k start key (by omega)]
    have ih := foldS_fit k start key h8 hs j (by omega)
    have hm : L[j] ∈ L := List.getElem_mem (by omega)
    refine (stepTo_fit key ih (hs _ hm) _).le ?_
    have := h8 _ hm
    omega
set_option maxRecDepth 100000 in
set_option maxHeartbeats 16000000 in
theorem tags11_law (kind : Int) (u : Nat → S3) (l : LG) (v : Nat → Nat) (key : ByteArray) (w : World) (h : LV w u l) (hf : FitL l) :
    Calls Try.prog 3 #[.int .i64 kind, .agg (lcells u), .agg (vcells v), .string key] w fun e w' => e = .returned (.bool true) ∧ Gr w w' := by
  obtain ⟨W, hW, hg, hsz, hL, hV⟩ := boxesLV u v w
  have HL := Lib.hid hL
  have HV := Lib.hid hV
  have HG := Lib.hid hg
  have HLV := Lib.hid h
  have HF := Lib.hid hf
  have HCK := Lib.hid (fun w1 (g : Gr w w1) => rcheck9_any u l w1 (h.gr g) hf.q)
  obtain ⟨ce, hce⟩ : ∃ c, c = checkE l := ⟨_, rfl⟩
  rw [← hce] at HCK
  have HCE := Lib.hid hce
  clear h hf hL hV hg hsz hce
  have start : ∀ (K : Prop), K → K := fun _ k => k
  by_cases h0 : ce = 0
  case neg =>
    have hn1 : ¬ ((ce : Int) = 0) := by omega
    have hn2 : ((ce : Int) == 0) = false := beq_eq_false_iff_ne.2 hn1
    have hn3 : ((ce : Int) != 0) = true := bne_iff_ne.2 hn1
    have hn4 : decide ((ce : Int) = 0) = false := decide_eq_false hn1
    go_enter Try.func3, Try.ntmps3
    go_upto_region 1 with (fail)
    rw [← hW]
    clear hW
    go_wp2_with fail
    refine (awake11_any W).mono ?_
    rintro e w1 ⟨rfl, g1⟩
    have HG1 := Lib.hid (HG.out.trans g1)
    obtain ⟨l0, l1, l2, l3, l4, l5, l6, l7⟩ := (HL.out.gr g1).all
    clear g1
    go_wp2_with fail
    refine (HCK.out w1 HG1.out).mono ?_
    rintro e w2 ⟨rfl, g2⟩
    go_wp2_with fail
    go_ret
    exact ⟨rfl, HG1.out.trans g2⟩
  subst h0
  by_cases hk : knownB kind = true
  case neg =>
    have hkk : knownB kind = false := by simpa using hk
    unfold knownB at hkk
    by_cases h1 : kind < 1
    · have d1 : decide (kind < 1) = true := decide_eq_true h1
      clear hkk hk
      go_enter Try.func3, Try.ntmps3
      go_upto_region 1 with (fail)
      rw [← hW]
      clear hW
      go_wp2_with fail
      refine (awake11_any W).mono ?_
      rintro e w1 ⟨rfl, g1⟩
      have HG1 := Lib.hid (HG.out.trans g1)
      obtain ⟨l0, l1, l2, l3, l4, l5, l6, l7⟩ := (HL.out.gr g1).all
      clear g1
      go_wp2_with fail
      refine (HCK.out w1 HG1.out).mono ?_
      rintro e w2 ⟨rfl, g2⟩
      go_wp2_with fail
      go_ret
      exact ⟨rfl, HG1.out.trans g2⟩
    · have h8 : kind > 8 := by
        rw [decide_eq_true (by omega : (1 : Int) ≤ kind), Bool.true_and, decide_eq_false_iff_not] at hkk
        omega
      have d1 : decide (kind < 1) = false := decide_eq_false h1
      have d8 : decide (kind > 8) = true := decide_eq_true h8
      have h9 : 8 < kind := h8
      have d9 : decide (8 < kind) = true := decide_eq_true h8
      clear hkk hk
      go_enter Try.func3, Try.ntmps3
      go_upto_region 1 with (fail)
      rw [← hW]
      clear hW
      go_wp2_with fail
      refine (awake11_any W).mono ?_
      rintro e w1 ⟨rfl, g1⟩
      have HG1 := Lib.hid (HG.out.trans g1)
      obtain ⟨l0, l1, l2, l3, l4, l5, l6, l7⟩ := (HL.out.gr g1).all
      clear g1
      go_wp2_with fail
      refine (HCK.out w1 HG1.out).mono ?_
      rintro e w2 ⟨rfl, g2⟩
      go_wp2_with fail
      go_ret
      exact ⟨rfl, HG1.out.trans g2⟩
  have HK := Lib.hid hk
  have HOK : Hid (OkL l) := Lib.hid (okL_iff.1 HCE.out.symm)
  have hkc := known_cases hk
  have d1 : decide (kind < 1) = false := decide_eq_false (by omega)
  have d2 : ¬ kind < 1 := by omega
  have d8 : decide (kind > 8) = false := decide_eq_false (by omega)
  have d9 : decide (8 < kind) = false := decide_eq_false (by omega)
  have d10 : ¬ 8 < kind := by omega
  have HCL := Lib.hid (fun w1 (g : Gr w w1) => rclose_det u l v w1 (HLV.out.gr g))
  obtain ⟨cv, hcv⟩ : ∃ c, c = closeV l v := ⟨_, rfl⟩
  have HORD := Lib.hid (fun w1 (g : Gr w w1) => rord9_any u l cv w1 (HLV.out.gr g) HF.out.c HOK.out.len)
  rw [← hcv] at HCL
  have HBG := Lib.hid (fun w1 => begin_any kind 0 hk w.heap.size w1)
  clear hk hkc hcv
  go_enter Try.func3, Try.ntmps3
  go_upto_region 1 with (fail)
  rw [← hW]
  clear hW
  go_wp2_with fail
  refine (awake11_any W).mono ?_
  rintro e w1 ⟨rfl, g1⟩
  have HG1 := Lib.hid (HG.out.trans g1)
  have HL1 := Lib.hid (HL.out.gr g1)
  have HV1 := Lib.hid (HV.out.gr g1)
  obtain ⟨l0, l1, l2, l3, l4, l5, l6, l7⟩ := (HL.out.gr g1).all
  clear g1
  go_wp2_with fail
  refine (HCK.out w1 HG1.out).mono ?_
  rintro e w2 ⟨rfl, g2⟩
  have HG2 := Lib.hid (HG1.out.trans g2)
  have HL2 := Lib.hid (HL1.out.gr g2)
  have HV2 := Lib.hid (HV1.out.gr g2)
  clear g2 l0 l1 l2 l3 l4 l5 l6 l7
  go_upto_region 5 with (fail)
  clear d1 d2 d8 d9 d10
  refine qTail 4 (fun w' => LC w' w.heap.size u ∧ VC w' (w.heap.size + 1) v ∧ Gr w w' ∧ LBox w' w.heap.size u) (by kernel_rfl) (by kernel_rfl) ⟨(HL2.out.gr (Gr.refl _).drew).lc, (HV2.out.gr (Gr.refl _).drew).vc, HG2.out.drew, HL2.out.gr (Gr.refl _).drew⟩ ?_
  simp only [List.take_succ_cons, List.take_zero, List.drop_succ_cons, List.drop_zero]
  iterate 3
    refine qTake (by kernel_rfl) ?_
    apply Exists.intro
    refine ⟨fun wq hq => ?_, ?_⟩
    · go_light
      obtain ⟨⟨l0, l1, l2, l3, l4, l5, l6, l7⟩, ⟨m0, m1, m2, m3, m4, m5, m6, m7⟩, -, -⟩ := hq
      go_simp
      try with_reducible rfl
      done
    try simp only [Act.put, List.setIfInBounds_toArray, List.set_cons_zero, List.set_cons_succ]
  refine qCall (by kernel_rfl) ?_
  apply Exists.intro
  refine ⟨?_, ?_⟩
  · apply Exists.intro
    apply Exists.intro
    refine ⟨fun wq => ?_, fun wq hq => ?_⟩
    · go_light
      go_simp
      exact ⟨rfl, rfl⟩
    · exact (HCL.out wq hq.2.2.1).mono fun e w'' ⟨he, hg⟩ => ⟨he, hq.1.gr hg, hq.2.1.gr hg, hq.2.2.1.trans hg, hq.2.2.2.gr hg⟩
  try simp only [Act.put, List.setIfInBounds_toArray, List.set_cons_zero, List.set_cons_succ]
  refine qNil ?_
  intro w3 hC
  have HG3 := Lib.hid hC.2.2.1
  have HL3 := Lib.hid hC.2.2.2
  clear hC
  go_wp2_with fail
  refine (HORD.out w3 HG3.out).mono ?_
  rintro e w4 ⟨sl, rfl, hxn, g4⟩
  obtain ⟨O, hO⟩ : ∃ O, O = ordR l cv := ⟨_, rfl⟩
  rw [← hO] at hxn
  have HOO := Lib.hid hO
  obtain ⟨A9, c9, hv9⟩ := xv_form hxn.xv
  obtain ⟨N, hN⟩ : ∃ n, n = O.length := ⟨_, rfl⟩
  rw [← hN] at hv9
  subst hv9
  have HN := Lib.hid hN
  have HXN : Hid (XN w4 w.heap.size (.slice A9 N c9) O) := Lib.hid (hxn.le HG3.out.size)
  have HG4 := Lib.hid (HG3.out.trans g4)
  have HL4 := Lib.hid (HL3.out.gr g4)
  have HN6 : Hid (N ≤ 65536) := Lib.hid (by rw [hN, hO]; exact ok_len HOK.out)
  have HOP : Hid (∀ t ∈ O, t.ops.length ≤ 8) := Lib.hid (by rw [hO]; exact ok_ops HOK.out)
  have HTX : Hid (∀ t ∈ O, okTx t ∧ t.seq < 18446744073709551616 ∧ ∀ o ∈ t.ops, o.key.size ≤ 9223372036854775807 ∧ o.elem.size ≤ 281474976710656) := Lib.hid (fun t ht => by
    rw [hO] at ht
    obtain ⟨i, k, hi, -, hk⟩ := ordR_mem.1 ht
    have hm : t ∈ l i := List.mem_of_getElem? hk
    have hx := HF.out.fit i t hi hm
    refine ⟨(HOK.out.tx i k t hi hk).1, hx.seq, fun o ho => ?_⟩
    have := HF.out.c.tx i t hi hm
    have h2 := this.2 o ho
    exact ⟨by omega, h2.2⟩)
  clear hxn g4 hN hO
  go_wp2_with fail
  refine (HBG.out w4).mono ?_
  rintro e w5 ⟨vs, rfl, hfv, g5⟩
  obtain ⟨ve0, vl0, rfl, he0, hl0⟩ := hfv
  obtain ⟨Ae, ne, cee, rfl⟩ := sv_form3 he0.sv
  obtain ⟨Al, nl, cl, rfl⟩ := gv_form hl0.gv
  obtain ⟨s0, hs0⟩ : ∃ x, x = beginS kind 0 := ⟨_, rfl⟩
  rw [← hs0] at he0 hl0
  rw [← hs0]
  have HS0 := Lib.hid hs0
  have HE0 := Lib.hid (And.intro he0 hl0)
  have HG5 := Lib.hid (HG4.out.trans g5)
  have HL5 : Hid (LBox w5 w.heap.size u) := Lib.hid (HL4.out.gr g5)
  have HXN5 : Hid (XN w5 w.heap.size (.slice A9 N c9) O) := Lib.hid (HXN.out.keepsV (Keeps.of_gr g5))
  clear he0 hl0 g5 hs0
  obtain ⟨k0, m0, E0, L0, has0, st0, top0, df0⟩ := s0
  go_upto_region 7 with (refine wpList_store_row rfl 38 (.tmp 10) (.tmp 40) rfl w5.heap.size (fsc k0 m0 (.slice Ae ne cee) (.slice Al nl cl) has0 st0 top0 df0) rfl rfl 38 zst (heap_alloc _ _ _) sinfo rfl (fsc_ones _ _ _ _ _ _ _ _ _ _ _ _) ?_)
  obtain ⟨W6, hW6⟩ : ∃ X, X = (w5.alloc (.cells zst 38)).setRow w5.heap.size (fsc k0 m0 (.slice Ae ne cee) (.slice Al nl cl) has0 st0 top0 df0) := ⟨_, rfl⟩
  change Code.wp Try.prog _ _ _ ((w5.alloc (.cells zst 38)).setRow w5.heap.size (fsc k0 m0 (.slice Ae ne cee) (.slice Al nl cl) has0 st0 top0 df0))
  have hzb : (w5.alloc (.cells zst 38)).heap[w5.heap.size]? = some (.cells zst 38 (0, 0)) := heap_alloc _ _ _
  have hK6 : Keeps btV w5 W6 := by rw [hW6]; exact (Keeps.of_gr (gr_box _ _)).trans (keeps_setRow hzb)
  have HG6 : Hid (Gr w5 W6) := Lib.hid (by rw [hW6]; exact below_setRow ((Gr.refl w5).alloc _) (Nat.le_refl _) _)
  have HFG : Hid (FgS w u w5.heap.size (foldS kind 0 key (O.take 0)) (.slice Ae ne cee) (.slice Al nl cl) (.slice A9 N c9) O W6) := Lib.hid (by
    have e0 : foldS kind 0 key (O.take 0) = ⟨k0, m0, E0, L0, has0, st0, top0, df0⟩ := HS0.out.symm
    rw [e0]
    exact ⟨by rw [hW6]; exact setRow_heap _ _ _ _ _ _ hzb, HE0.out.1.keepsV hK6, own_keeps HE0.out.2 (by decide) hK6, HXN5.out.keepsV hK6, HG5.out.trans HG6.out, HL5.out.gr HG6.out⟩)
  have HPW : Hid (w.heap.size < w5.heap.size) := Lib.hid (Array.getElem?_eq_some_iff.1 HL5.out.box).1
  have HL6 := Lib.hid (HL5.out.gr HG6.out)
  obtain ⟨P10, hP10⟩ : ∃ P, P = w5.heap.size := ⟨_, rfl⟩
  rw [← hP10] at HFG HPW hW6
  rw [← hP10, ← hW6]
  clear hzb hK6 hW6 hP10
  go_wp2_with fail
  go_loopw [12] (fun i wr => ∃ j : Nat, j ≤ N ∧ i = .int .i64 j ∧ Hid (∃ ve vl, FgS w u P10 (foldS kind 0 key (O.take j)) ve vl (.slice A9 N c9) O wr)) (fun i _ => N - (intOf i).toNat)
  case atStart => exact ⟨0, Nat.zero_le _, rfl, Lib.hid ⟨_, _, HFG.out⟩⟩
  case round =>
    obtain ⟨j, hj, rfl, hst⟩ := hrel
    rename World => wr
    obtain ⟨ve7, vl7, hst⟩ := hst.out
    obtain ⟨A7, n7, c7, rfl⟩ := sv_form3 hst.so.sv
    obtain ⟨A8, n8, c8, rfl⟩ := gv_form hst.lo.gv
    by_cases hjn : j < N
    · have hjl : j < O.length := by rw [← HN.out]; exact hjn
      obtain ⟨R, hR1, hR2, hR3⟩ := id hst.xs
      obtain ⟨A', c', hv', -, -, hat⟩ := hst.xs.xv
      injection hv' with q1 q2 q3
      subst q1 q3
      obtain ⟨b, off, rfl, vt, htv, hxf⟩ := hat j hjl
      clear hat q2 hR1 hR2 hR3
      obtain ⟨t, ht⟩ : ∃ t, t = O[j] := ⟨_, rfl⟩
      rw [← ht] at htv hxf
      obtain ⟨At, ct, hvt⟩ := tov_form htv
      obtain ⟨nt, hnt⟩ : ∃ n, n = t.ops.length := ⟨_, rfl⟩
      rw [← hnt] at hvt
      subst hvt
      have htm : t ∈ O := by rw [ht]; exact List.getElem_mem hjl
      have htx := HTX.out t htm
      have hfit := foldS_fit kind 0 key HOP.out (fun t ht o ho => ((HTX.out t ht).2.2 o ho).2) j (by omega)
      have HNX : Hid (foldS kind 0 key (O.take (j + 1)) = applyS key t (foldS kind 0 key (O.take j))) := Lib.hid (by rw [ht]; exact foldS_take kind 0 key hjl)
      obtain ⟨sj, hsj⟩ : ∃ x, x = foldS kind 0 key (O.take j) := ⟨_, rfl⟩
      have hkj : knownB sj.k = true := by rw [hsj, foldS_k HK.out]; exact HK.out
      rw [← hsj] at hst hfit HNX
      obtain ⟨s1, hs1⟩ : ∃ x, x = applyS key t sj := ⟨_, rfl⟩
      have HST0 := Lib.hid hst
      have HAP : Hid (∀ w1, Gr wr w1 → Calls Try.prog 9 #[.agg (fsc sj.k sj.n (.slice A7 n7 c7) (.slice A8 n8 c8) sj.has sj.st sj.top sj.df), .agg (tcs t (.slice At nt ct)), .string key] w1 fun e w' => ∃ A1 n1 c1 A2 n2 c2, e = .returned (.tuple #[.agg (fsc s1.k s1.n (.slice A1 n1 c1) (.slice A2 n2 c2) s1.has s1.st s1.top s1.df), .int .i64 0]) ∧ SO w' w1.heap.size (.slice A1 n1 c1) s1.ever ∧ GOw w' w1.heap.size (.slice A2 n2 c2) s1.live ∧ Gr w1 w') := Lib.hid (fun w1 g => by
        have hrv : RV w1 (.agg (fsc sj.k sj.n (.slice A7 n7 c7) (.slice A8 n8 c8) sj.has sj.st sj.top sj.df)) sj := ⟨_, _, rfl, (hst.so.gr g).sv, (hst.lo.gr g).gv⟩
        have ha := apply_ok sj _ t At nt ct key w1 hrv hkj (htv.gr g) htx.2.1 htx.2.2 htx.1 (hfit.le (by have := HN6.out; omega))
        rw [← hs1] at ha
        exact ha.mono fun e w' h => h.form)
      rw [← hs1] at HNX
      have HXF := Lib.hid hxf
      have HJN : Hid ((j : Int) < (N : Int)) := Lib.hid (by omega)
      clear hxf htv htm htx hfit hkj hsj hs1 ht hnt hst
      obtain ⟨kj, mj, Ej, Lj, hasj, stj, topj, dfj⟩ := sj
      have HST : Hid (FgS w u P10 ⟨kj, mj, Ej, Lj, hasj, stj, topj, dfj⟩ (.slice A7 n7 c7) (.slice A8 n8 c8) (.slice (some ⟨b, off, none⟩) N c9) O wr) := Lib.hid HST0.out
      clear HST0
      simp only at HAP
      have hj0 : (0 : Int) ≤ (j : Int) := Int.natCast_nonneg _
      have hj1 : (j : Int) < (N : Int) := HJN.out
      go_upto_region 10 with (fail)
      refine wp_region_noPanic ?_
      refine iRegionA (RI btV wr (fun k => ((SFt w.heap.size (fsc kj mj (.slice A7 n7 c7) (.slice A8 n8 c8) hasj stj topj dfj) (.slice (some ⟨b, off, none⟩) N c9) j b (off + j * 12) t (.slice At nt ct) key s1) k).P) [(10, 11, 8)] (fun _ => 38) (fun _ => zst)) (by kernel_rfl) (by kernel_rfl) (ri_start (fun k y wA wB => ((SFt w.heap.size (fsc kj mj (.slice A7 n7 c7) (.slice A8 n8 c8) hasj stj topj dfj) (.slice (some ⟨b, off, none⟩) N c9) j b (off + j * 12) t (.slice At nt ct) key s1) k).st y wA wB) (Gr.refl _)) ?_ ?_
      · intro i o ho vals wc A hI hn hdep hOld hNew
        have hi : i < 13 := (List.getElem?_eq_some_iff.1 ho).1
        have hb10 : wc.heap[P10]? = some (.cells (fsc kj mj (.slice A7 n7 c7) (.slice A8 n8 c8) hasj stj topj dfj) 38 (0, 0)) := gr_obj hI.gr HST.out.bx
        have p0 : wc.cell? ⟨P10, 0, none⟩ = some (.int .i64 kj) := by rw [cell_of_block hb10]; rfl
        have p1 : wc.cell? ⟨P10, 1, none⟩ = some (.int .i64 mj) := by rw [cell_of_block hb10]; rfl
        have p2 : wc.cell? ⟨P10, 2, none⟩ = some (.slice A7 n7 c7) := by rw [cell_of_block hb10]; rfl
        have p3 : wc.cell? ⟨P10, 3, none⟩ = some (.slice A8 n8 c8) := by rw [cell_of_block hb10]; rfl
        have p4 : wc.cell? ⟨P10, 4, none⟩ = some (.bool hasj) := by rw [cell_of_block hb10]; rfl
        have p5 : wc.cell? ⟨P10, 5, none⟩ = some (.int .u64 (stj : Int)) := by rw [cell_of_block hb10]; rfl
        have p6 : wc.cell? ⟨P10, 6, none⟩ = some (.int .i64 topj.o) := by rw [cell_of_block hb10]; rfl
        have p7 : wc.cell? ⟨P10, 7, none⟩ = some (.int .i64 topj.i) := by rw [cell_of_block hb10]; rfl
        have p8 : wc.cell? ⟨P10, 8, none⟩ = some (.int .u64 (topj.s : Int)) := by rw [cell_of_block hb10]; rfl
        have p9 : wc.cell? ⟨P10, 9, none⟩ = some (.string topj.e) := by rw [cell_of_block hb10]; rfl
        have p10 : wc.cell? ⟨P10, 10, none⟩ = some (.bool dfj) := by rw [cell_of_block hb10]; rfl
        obtain ⟨x0, x1, x2, x3, x4, x5, x6, x7, x8, x9, x10, x11⟩ := HXF.out.gr hI.gr
        have hj1 : (j : Int) < (N : Int) := HJN.out
        have hj0 : (0 : Int) ≤ (j : Int) := Int.natCast_nonneg _
        clear hb10
        have eo3 : A.tmps[3]?.getD undef = .string key := slotE (hOld 3 (by kernel_rfl))
        have eo9 : A.tmps[9]?.getD undef = .slice (some ⟨b, off, none⟩) N c9 := slotE (hOld 9 (by kernel_rfl))
        have eo10 : A.tmps[10]?.getD undef = .pointer (some ⟨P10, 0, none⟩) := slotE (hOld 10 (by kernel_rfl))
        have eo12 : A.tmps[12]?.getD undef = .int .i64 (j : Int) := slotE (hOld 12 (by kernel_rfl))
        obtain rfl | rfl | rfl | rfl | rfl | rfl | rfl | rfl | rfl | rfl | rfl | rfl | rfl : i = 0 ∨ i = 1 ∨ i = 2 ∨ i = 3 ∨ i = 4 ∨ i = 5 ∨ i = 6 ∨ i = 7 ∨ i = 8 ∨ i = 9 ∨ i = 10 ∨ i = 11 ∨ i = 12 := by omega
        · obtain rfl := Option.some.inj (show some _ = some o from ho)
          refine aVal rfl rfl (v := .agg (fsc kj mj (.slice A7 n7 c7) (.slice A8 n8 c8) hasj stj topj dfj)) (w' := wc) ?_ ⟨_, rfl, hI.val hn (by decide) (rfl)⟩
          go_simp
        · obtain rfl := Option.some.inj (show some _ = some o from ho)
          refine aVal rfl rfl (v := .slice (some ⟨b, off, none⟩) N c9) (w' := wc) ?_ ⟨_, rfl, hI.val hn (by decide) (rfl)⟩
          go_simp
        · obtain rfl := Option.some.inj (show some _ = some o from ho)
          refine aVal rfl rfl (v := .int .i64 (j : Int)) (w' := wc) ?_ ⟨_, rfl, hI.val hn (by decide) (rfl)⟩
          go_simp
        · obtain rfl := Option.some.inj (show some _ = some o from ho)
          obtain ⟨y1, hy1⟩ := hdep ⟨1, .data⟩ (by simp) rfl
          obtain rfl : y1 = .slice (some ⟨b, off, none⟩) N c9 := hI.ok 1 y1 hy1
          have s1 := slotE (hNew 1 50 _ _ rfl rfl (by kernel_rfl) hy1)
          obtain ⟨y2, hy2⟩ := hdep ⟨2, .data⟩ (by simp) rfl
          obtain rfl : y2 = .int .i64 (j : Int) := hI.ok 2 y2 hy2
          have s2 := slotE (hNew 2 51 _ _ rfl rfl (by kernel_rfl) hy2)
          refine aVal rfl rfl (v := .pointer (some ⟨b, off + j * 12, none⟩)) (w' := wc) ?_ ⟨_, rfl, hI.val hn (by decide) (rfl)⟩
          go_simp
        · obtain rfl := Option.some.inj (show some _ = some o from ho)
          obtain ⟨y3, hy3⟩ := hdep ⟨3, .data⟩ (by simp) rfl
          obtain rfl : y3 = .pointer (some ⟨b, off + j * 12, none⟩) := hI.ok 3 y3 hy3
          have s3 := slotE (hNew 3 52 _ _ rfl rfl (by kernel_rfl) hy3)
          refine aVal rfl rfl (v := .agg (tcs t (.slice At nt ct))) (w' := wc) ?_ ⟨_, rfl, hI.val hn (by decide) (rfl)⟩
          go_simp
        · obtain rfl := Option.some.inj (show some _ = some o from ho)
          refine aVal rfl rfl (v := .string key) (w' := wc) ?_ ⟨_, rfl, hI.val hn (by decide) (rfl)⟩
          go_simp
        · obtain rfl := Option.some.inj (show some _ = some o from ho)
          obtain ⟨y0, hy0⟩ := hdep ⟨0, .data⟩ (by simp) rfl
          obtain rfl : y0 = .agg (fsc kj mj (.slice A7 n7 c7) (.slice A8 n8 c8) hasj stj topj dfj) := hI.ok 0 y0 hy0
          have s0 := slotE (hNew 0 49 _ _ rfl rfl (by kernel_rfl) hy0)
          obtain ⟨y4, hy4⟩ := hdep ⟨4, .data⟩ (by simp) rfl
          obtain rfl : y4 = .agg (tcs t (.slice At nt ct)) := hI.ok 4 y4 hy4
          have s4 := slotE (hNew 4 53 _ _ rfl rfl (by kernel_rfl) hy4)
          obtain ⟨y5, hy5⟩ := hdep ⟨5, .data⟩ (by simp) rfl
          obtain rfl : y5 = .string key := hI.ok 5 y5 hy5
          have s5 := slotE (hNew 5 54 _ _ rfl rfl (by kernel_rfl) hy5)
          refine aCall rfl rfl (w1 := wc) ?_ ((HAP.out wc hI.gr).mono fun e w' ⟨A1, n1, c1, A2, n2, c2, he, h1, h2, hg⟩ => ⟨_, he, _, rfl, (hI.next hg).val hn (by decide) (⟨A1, n1, c1, A2, n2, c2, rfl, h1.le (Nat.le_trans HST.out.gr.size hI.gr.size), h2.le (Nat.le_trans HST.out.gr.size hI.gr.size)⟩)⟩)
          go_simp
        · obtain rfl := Option.some.inj (show some _ = some o from ho)
          obtain ⟨y6, hy6⟩ := hdep ⟨6, .data⟩ (by simp) rfl
          obtain ⟨A1_6, n1_6, c1_6, A2_6, n2_6, c2_6, rfl, hl6⟩ : ∃ A1 n1 c1 A2 n2 c2, y6 = .tuple #[.agg (fsc s1.k s1.n (.slice A1 n1 c1) (.slice A2 n2 c2) s1.has s1.st s1.top s1.df), .int .i64 0] ∧ SO wc w.heap.size (.slice A1 n1 c1) s1.ever ∧ GOw wc w.heap.size (.slice A2 n2 c2) s1.live := hI.ok 6 y6 hy6
          have s6 := slotE (hNew 6 55 _ _ rfl rfl (by kernel_rfl) hy6)
          refine aVal rfl rfl (v := .tuple #[.agg (fsc s1.k s1.n (.slice A1_6 n1_6 c1_6) (.slice A2_6 n2_6 c2_6) s1.has s1.st s1.top s1.df), .int .i64 0]) (w' := wc) ?_ ⟨_, rfl, hI.val hn (by decide) (⟨_, _, _, _, _, _, rfl, hl6⟩)⟩
          go_simp
        · obtain rfl := Option.some.inj (show some _ = some o from ho)
          obtain ⟨y7, hy7⟩ := hdep ⟨7, .data⟩ (by simp) rfl
          obtain ⟨A1_7, n1_7, c1_7, A2_7, n2_7, c2_7, rfl, hl7⟩ : ∃ A1 n1 c1 A2 n2 c2, y7 = .tuple #[.agg (fsc s1.k s1.n (.slice A1 n1 c1) (.slice A2 n2 c2) s1.has s1.st s1.top s1.df), .int .i64 0] ∧ SO wc w.heap.size (.slice A1 n1 c1) s1.ever ∧ GOw wc w.heap.size (.slice A2 n2 c2) s1.live := hI.ok 7 y7 hy7
          have s7 := slotE (hNew 7 48 _ _ rfl rfl (by kernel_rfl) hy7)
          refine aVal rfl rfl (v := .agg (fsc s1.k s1.n (.slice A1_7 n1_7 c1_7) (.slice A2_7 n2_7 c2_7) s1.has s1.st s1.top s1.df)) (w' := wc) ?_ ⟨_, rfl, hI.val hn (by decide) (⟨_, _, _, _, _, _, rfl, hl7⟩)⟩
          go_simp
        · obtain rfl := Option.some.inj (show some _ = some o from ho)
          obtain ⟨y7, hy7⟩ := hdep ⟨7, .data⟩ (by simp) rfl
          obtain ⟨A1_7, n1_7, c1_7, A2_7, n2_7, c2_7, rfl, hl7⟩ : ∃ A1 n1 c1 A2 n2 c2, y7 = .tuple #[.agg (fsc s1.k s1.n (.slice A1 n1 c1) (.slice A2 n2 c2) s1.has s1.st s1.top s1.df), .int .i64 0] ∧ SO wc w.heap.size (.slice A1 n1 c1) s1.ever ∧ GOw wc w.heap.size (.slice A2 n2 c2) s1.live := hI.ok 7 y7 hy7
          have s7 := slotE (hNew 7 48 _ _ rfl rfl (by kernel_rfl) hy7)
          refine aVal rfl rfl (v := .int .i64 0) (w' := wc) ?_ ⟨_, rfl, hI.val hn (by decide) (rfl)⟩
          go_simp
        · obtain rfl := Option.some.inj (show some _ = some o from ho)
          refine aVal rfl rfl (v := .pointer (some ⟨wc.heap.size, 0, none⟩)) (w' := wc.alloc (.cells (zst) 38)) ?_ ⟨_, rfl, hI.new hn (by decide) rfl rfl (fun _ _ => trivial)⟩
          go_simp
        · obtain rfl := Option.some.inj (show some _ = some o from ho)
          obtain ⟨y10, hy10⟩ := hdep ⟨10, .data⟩ (by simp) rfl
          obtain ⟨P, rfl, hP1, hP2⟩ := hI.at_new (a := 10) (k := 11) (s := 8) (by decide) hn hy10
          have s10 := slotE (hNew 10 13 _ _ rfl rfl (by kernel_rfl) hy10)
          obtain ⟨y8, hy8⟩ := hdep ⟨8, .data⟩ (by simp) rfl
          obtain ⟨A1_8, n1_8, c1_8, A2_8, n2_8, c2_8, rfl, hl8⟩ : ∃ A1 n1 c1 A2 n2 c2, y8 = .agg (fsc s1.k s1.n (.slice A1 n1 c1) (.slice A2 n2 c2) s1.has s1.st s1.top s1.df) ∧ SO wc w.heap.size (.slice A1 n1 c1) s1.ever ∧ GOw wc w.heap.size (.slice A2 n2 c2) s1.live := hI.ok 8 y8 hy8
          have s8 := slotE (hNew 8 56 _ _ rfl rfl (by kernel_rfl) hy8)
          have z0 : wc.cell? ⟨P, 0, none⟩ = some (.int .i64 0) := by rw [cell_of_block hP2]; rfl
          have k0 := unfrozen_of_block hP2 0
          have z1 : wc.cell? ⟨P, 1, none⟩ = some (.int .i64 0) := by rw [cell_of_block hP2]; rfl
          have k1 := unfrozen_of_block hP2 1
          have z2 : wc.cell? ⟨P, 2, none⟩ = some (.slice none 0 0) := by rw [cell_of_block hP2]; rfl
          have k2 := unfrozen_of_block hP2 2
          have z3 : wc.cell? ⟨P, 3, none⟩ = some (.slice none 0 0) := by rw [cell_of_block hP2]; rfl
          have k3 := unfrozen_of_block hP2 3
          have z4 : wc.cell? ⟨P, 4, none⟩ = some (.bool false) := by rw [cell_of_block hP2]; rfl
          have k4 := unfrozen_of_block hP2 4
          have z5 : wc.cell? ⟨P, 5, none⟩ = some (.int .u64 0) := by rw [cell_of_block hP2]; rfl
          have k5 := unfrozen_of_block hP2 5
          have z6 : wc.cell? ⟨P, 6, none⟩ = some (.int .i64 0) := by rw [cell_of_block hP2]; rfl
          have k6 := unfrozen_of_block hP2 6
          have z7 : wc.cell? ⟨P, 7, none⟩ = some (.int .i64 0) := by rw [cell_of_block hP2]; rfl
          have k7 := unfrozen_of_block hP2 7
          have z8 : wc.cell? ⟨P, 8, none⟩ = some (.int .u64 0) := by rw [cell_of_block hP2]; rfl
          have k8 := unfrozen_of_block hP2 8
          have z9 : wc.cell? ⟨P, 9, none⟩ = some (.string ⟨#[]⟩) := by rw [cell_of_block hP2]; rfl
          have k9 := unfrozen_of_block hP2 9
          have z10 : wc.cell? ⟨P, 10, none⟩ = some (.bool false) := by rw [cell_of_block hP2]; rfl
          have k10 := unfrozen_of_block hP2 10
          have hz := hP2
          refine aSkip rfl rfl (w' := putCells wc P 0 (fsc s1.k s1.n (.slice A1_8 n1_8 c1_8) (.slice A2_8 n2_8 c2_8) s1.has s1.st s1.top s1.df : Array Value).toList) ?_ ⟨_, rfl, hI.putA (a := 10) (k := 11) (s := 8) (c := fsc s1.k s1.n (.slice A1_8 n1_8 c1_8) (.slice A2_8 n2_8 c2_8) s1.has s1.st s1.top s1.df) (by decide) hn (by decide) (by decide) (by decide) hy10 hy8 rfl (fun _ => trivial)⟩
          clear hz hI hP2
          go_simp
          rfl
        · obtain rfl := Option.some.inj (show some _ = some o from ho)
          obtain ⟨y9, hy9⟩ := hdep ⟨9, .data⟩ (by simp) rfl
          obtain rfl : y9 = .int .i64 0 := hI.ok 9 y9 hy9
          have s9 := slotE (hNew 9 57 _ _ rfl rfl (by kernel_rfl) hy9)
          refine aVal rfl rfl (v := .int .i64 0) (w' := wc) ?_ ⟨_, rfl, hI.val hn (by decide) (rfl)⟩
          go_simp
      · intro vals wc hall hI
        refine NoPanic.normal ?_
        obtain ⟨y0, hy0⟩ := hall 0 (by decide)
        obtain ⟨y1, hy1⟩ := hall 1 (by decide)
        obtain ⟨y2, hy2⟩ := hall 2 (by decide)
        obtain ⟨y3, hy3⟩ := hall 3 (by decide)
        obtain ⟨y4, hy4⟩ := hall 4 (by decide)
        obtain ⟨y5, hy5⟩ := hall 5 (by decide)
        obtain ⟨y6, hy6⟩ := hall 6 (by decide)
        obtain ⟨y7, hy7⟩ := hall 7 (by decide)
        obtain ⟨y8, hy8⟩ := hall 8 (by decide)
        obtain ⟨y9, hy9⟩ := hall 9 (by decide)
        obtain ⟨y10, hy10⟩ := hall 10 (by decide)
        obtain ⟨y11, hy11⟩ := hall 11 (by decide)
        obtain ⟨y12, hy12⟩ := hall 12 (by decide)
        have hP := hI.at_full (a := 10) (k := 11) (s := 8) (by decide) hy11 hy8 hy10
        obtain ⟨A1, n1, c1, A2, n2, c2, rfl, hl8⟩ : ∃ A1 n1 c1 A2 n2 c2, y8 = .agg (fsc s1.k s1.n (.slice A1 n1 c1) (.slice A2 n2 c2) s1.has s1.st s1.top s1.df) ∧ SO wc w.heap.size (.slice A1 n1 c1) s1.ever ∧ GOw wc w.heap.size (.slice A2 n2 c2) s1.live := hI.ok 8 y8 hy8
        obtain ⟨P13, rfl, hP13, hbP⟩ := hP
        obtain rfl : y12 = .int .i64 0 := hI.ok 12 y12 hy12
        have HBP : Hid (wc.heap[P13]? = some (.cells (fsc s1.k s1.n (.slice A1 n1 c1) (.slice A2 n2 c2) s1.has s1.st s1.top s1.df) 38 (0, 0))) := Lib.hid hbP
        have HL8 := Lib.hid hl8
        have HGC := Lib.hid hI.gr
        have HP13 := Lib.hid hP13
        clear hbP hl8 hP13
        simp only [putAll, putV, hy0, hy1, hy2, hy3, hy4, hy5, hy6, hy7, hy8, hy9, hy10, hy11, hy12]
        clear hI hall hy0 hy1 hy2 hy3 hy4 hy5 hy6 hy7 hy8 hy9 hy10 hy11 hy12
        simp only [Act.put, List.setIfInBounds_toArray, List.set_cons_zero, List.set_cons_succ]
        have hst2 := HST.out.next HGC.out
        obtain ⟨k1, m1, E1, L1, has1, st1, top1, df1⟩ := s1
        have hb13 : wc.heap[P13]? = some (.cells (fsc k1 m1 (.slice A1 n1 c1) (.slice A2 n2 c2) has1 st1 top1 df1) 38 (0, 0)) := HBP.out
        have hb10 := hst2.bx
        have HPT := Lib.hid (hst2.put (s' := ⟨k1, m1, E1, L1, has1, st1, top1, df1⟩) HPW.out HL8.out.1 HL8.out.2)
        clear hst2
        go_wp2_with (first | (refine wpList_load_row rfl 38 (.tmp 13) rfl P13 rfl 38 (fsc k1 m1 (.slice A1 n1 c1) (.slice A2 n2 c2) has1 st1 top1 df1) (0, 0) _ hb13 Try.underlying38 rfl sinfo ?_) | (refine wpList_store_row rfl 38 (.tmp 10) (.tmp 60) rfl P10 (fsc k1 m1 (.slice A1 n1 c1) (.slice A2 n2 c2) has1 st1 top1 df1) rfl rfl 38 _ hb10 sinfo rfl (fsc_ones _ _ _ _ _ _ _ _ _ _ _ _) ?_))
        have hjb : (j : Int) < 65536 := by have := HN6.out; omega
        have hwj : wrap64 ((j : Int) + 1) = ((j + 1 : Nat) : Int) := by unfold wrap64; omega
        go_roundw
        case rel => exact ⟨j + 1, by omega, by rw [hwj], Lib.hid ⟨_, _, by rw [HNX.out]; exact HPT.out⟩⟩
        case measure => rw [hwj]; simp [intOf]; omega
    · obtain rfl : j = N := by omega
      have HST := Lib.hid hst
      have hsj : foldS kind 0 key (O.take j) = foldS kind 0 key O := by rw [HN.out, List.take_length]
      rw [hsj] at hst
      obtain ⟨sf, hsf⟩ : ∃ x, x = foldS kind 0 key O := ⟨_, rfl⟩
      have htags := fold_tags (start := 0) HK.out key HOK.out cv
      rw [← HOO.out, ← hsf] at htags
      rw [← hsf] at hst
      have HTG := Lib.hid htags
      have hlen : sf.live.length ≤ 600000 := by
        rw [hsf]
        have hm := foldS_fit kind 0 key HOP.out (fun t ht o ho => ((HTX.out t ht).2.2 o ho).2) O.length (Nat.le_refl _)
        rw [List.take_length] at hm
        have h1 := hm.live
        have h2 := HN6.out
        have h3 := HN.out
        omega
      have HLEN := Lib.hid hlen
      have HST := Lib.hid hst
      clear hst hsj hsf htags hlen
      obtain ⟨ks, ms, Es, Ls, hass, sts, tops, dfs⟩ := sf
      have hn8 : n8 = Ls.length := by
        obtain ⟨A, c, hv, _⟩ := HST.out.lo.gv
        injection hv
      have HN8 := Lib.hid hn8
      clear hn8
      go_wp2_with fail
      go_loopw [15] (fun i wr => ∃ q : Nat, q ≤ n8 ∧ i = .int .i64 q ∧ Hid (FgS w u P10 ⟨ks, ms, Es, Ls, hass, sts, tops, dfs⟩ (.slice A7 n7 c7) (.slice A8 n8 c8) (.slice A9 j c9) O wr)) (fun i _ => n8 - (intOf i).toNat)
      case atStart => exact ⟨0, Nat.zero_le _, rfl, Lib.hid HST.out⟩
      case round =>
        obtain ⟨q, hq, rfl, hst⟩ := hrel
        rename World => wq
        have hsu := hst.out
        clear hst
        have HSQ := Lib.hid hsu
        have p3 : wq.cell? ⟨P10, 3, none⟩ = some (.slice A8 n8 c8) := by rw [cell_of_block hsu.bx]; rfl
        by_cases hqn : q < n8
        · have hq0 : (0 : Int) ≤ (q : Int) := Int.natCast_nonneg _
          have hq1 : (q : Int) < (n8 : Int) := by omega
          have hql : q < Ls.length := by rw [← HN8.out]; exact hqn
          obtain ⟨g, cc, hvv⟩ := GOw.addr hsu.lo hql
          injection hvv with h1 h2 h3
          subst h1 h3
          clear h2
          obtain ⟨x, hx⟩ : ∃ x, x = Ls[q] := ⟨_, rfl⟩
          have hxm : x ∈ Ls := by rw [hx]; exact List.getElem_mem hql
          obtain ⟨mi, c, t, jj, oo, hi8, hlc, hop, ho, hs, hi, hkey, hel⟩ := HTG.out.2 x hxm
          obtain ⟨a0, a1, a2, a3⟩ := hsu.lo.at_ hql
          rw [← hx] at a0 a1 a2 a3
          have HX := Lib.hid hx
          obtain ⟨xo, xi, xs, xe⟩ := x
          simp only at ho hs hi hel a0 a1 a2 a3
          subst ho
          subst hi
          have hcl : c < (l mi).length := (List.getElem?_eq_some_iff.1 hlc).1
          have hcl2 : (l mi)[c] = t := (List.getElem?_eq_some_iff.1 hlc).2
          obtain ⟨b, off, hua, vt, htv, hxf⟩ := HLV.out.cell hi8 hcl
          rw [hcl2] at htv hxf
          have hbc := hsu.lb.at hi8
          have hni : (u mi).n = (l mi).length := by
            obtain ⟨A, c', hv, _⟩ := HLV.out mi hi8
            injection hv
          rw [hua] at hbc
          obtain ⟨ni, hnie⟩ : ∃ n, n = (u mi).n := ⟨_, rfl⟩
          obtain ⟨ci, hcie⟩ : ∃ n, n = (u mi).c := ⟨_, rfl⟩
          rw [← hnie, ← hcie] at hbc
          rw [← hnie] at hni
          have hlen1 : (l mi).length ≤ 1024 := HOK.out.len mi hi8
          have f1 : ¬ (mi : Int) < 0 := by omega
          have f2 : ¬ (mi : Int) > 7 := by omega
          have f2' : ¬ (7 : Int) < (mi : Int) := by omega
          have f3 : ¬ (xs : Int) < 1 := by omega
          have f4 : IntKind.u64.wrap (ni : Int) = (ni : Int) := by
            have : ni ≤ 1024 := by omega
            exact IntWalk.u64_in _ ⟨by omega, by omega⟩
          have f5 : ¬ (xs : Int) > (ni : Int) := by omega
          have f5' : ¬ (ni : Int) < (xs : Int) := by omega
          have d1 : decide ((mi : Int) < 0) = false := decide_eq_false f1
          have d2 : decide ((mi : Int) > 7) = false := decide_eq_false f2
          have d2' : decide ((7 : Int) < (mi : Int)) = false := decide_eq_false f2'
          have d3 : decide ((xs : Int) < 1) = false := decide_eq_false f3
          have d5 : decide ((xs : Int) > (ni : Int)) = false := decide_eq_false f5
          have d5' : decide ((ni : Int) < (xs : Int)) = false := decide_eq_false f5'
          have i0 : (0 : Int) ≤ (mi : Int) := Int.natCast_nonneg _
          have i8 : (mi : Int) < 8 := by omega
          obtain ⟨W7, hW7, g7, hq7⟩ := tgbox wq ⟨(mi : Int), (jj : Int), xs, xe⟩
          obtain ⟨Q, hQ⟩ : ∃ Q, Q = wq.heap.size := ⟨_, rfl⟩
          rw [← hQ] at hq7
          have HQ7 := Lib.hid hq7
          have HB7 := Lib.hid (g7.cell hbc)
          have HG7 := Lib.hid g7
          have HXF := Lib.hid (And.intro htv hxf)
          have HOPJ := Lib.hid (And.intro hop (And.intro hkey hel))
          have HC1 : Hid (xs = c + 1 ∧ c < ni ∧ ni ≤ 1024) := Lib.hid ⟨hs, by omega, by omega⟩
          clear hx hxm hsu hbc hua hni hnie hcie htv hxf hlc hcl hcl2 hop hkey hel hq7 g7 hlen1 hs
          go_upto_region 18 with (fail)
          change Code.wp Try.prog _ _ _ (wq.alloc (.cells (tgv ⟨(mi : Int), (jj : Int), xs, xe⟩) 36))
          rw [← hW7, ← hQ]
          clear hW7 hQ a0 a1 a2 a3 p3
          refine qRegion (fun w' => TGc w' Q 0 ⟨(mi : Int), (jj : Int), xs, xe⟩ ∧ w'.cell? ⟨w.heap.size, mi, none⟩ = some (.slice (some ⟨b, off, none⟩) ni ci) ∧ Gr wq w') (by kernel_rfl) (by kernel_rfl) ⟨HQ7.out.gr (Gr.refl _).drew, (Gr.refl _).drew.cell HB7.out, HG7.out.drew⟩ ?_
          iterate 24
            refine qTake (by kernel_rfl) ?_
            apply Exists.intro
            refine ⟨fun wq hq => ?_, ?_⟩
            · go_light
              obtain ⟨⟨b0, b1, b2, b3⟩, e1, -⟩ := hq
              go_simp
              try with_reducible rfl
              done
            try simp only [Act.put, List.setIfInBounds_toArray, List.set_cons_zero, List.set_cons_succ]
          refine qNil ?_
          intro w8 hC
          have HQ8 := Lib.hid hC.1
          have HB8 := Lib.hid hC.2.1
          have HG8 := Lib.hid hC.2.2
          clear hC
          have HX8 := Lib.hid (HXF.out.2.gr (HSQ.out.gr.trans HG8.out))
          obtain ⟨At, ct, hvt⟩ := tov_form HXF.out.1
          obtain ⟨nt, hnt⟩ : ∃ n, n = t.ops.length := ⟨_, rfl⟩
          rw [← hnt] at hvt
          subst hvt
          have HNT := Lib.hid hnt
          have HI8 := Lib.hid i8
          have HSB : Hid (IntKind.u64.wrap ((xs : Int) - 1) = (c : Int)) := Lib.hid (by
            obtain ⟨h1, h2, h3⟩ := HC1.out
            rw [IntWalk.u64_in _ ⟨by omega, by omega⟩]
            omega)
          clear f1 f2 f2' f3 f4 f5 f5' d1 d2 d2' d3 d5 d5' hnt i8 i0
          go_upto_region 20 with (fail)
          refine wp_region_noPanic ?_
          refine iRegionA (RI btX w8 (fun k => ((SXt Q w.heap.size mi b off ni ci xs c t At nt ct) k).P) [(9, 10, 8)] (fun _ => 44) (fun _ => zeroX)) (by kernel_rfl) (by kernel_rfl) (ri_start (fun k y wA wB h _ => SXt_st _ _ _ _ _ _ _ _ _ _ _ _ _ k y wA wB h) (Gr.refl _)) ?_ ?_
          · intro i o ho vals wc A hI hn hdep hOld hNew
            have hi : i < 11 := (List.getElem?_eq_some_iff.1 ho).1
            have hb8 := hI.gr.cell HB8.out
            obtain ⟨b0, b1, b2, b3⟩ := HQ8.out.gr hI.gr
            simp only [Nat.zero_add] at b0 b1 b2 b3
            obtain ⟨x0, x1, x2, x3, x4, x5, x6, x7, x8, x9, x10, x11⟩ := HX8.out.gr hI.gr
            have i0 : (0 : Int) ≤ (mi : Int) := Int.natCast_nonneg _
            have i8 : (mi : Int) < 8 := HI8.out
            have g1 : IntKind.u64.wrap ((xs : Int) - 1) = (c : Int) := HSB.out
            have g2 : (c : Int) < (ni : Int) := by have := HC1.out; omega
            have g3 : (0 : Int) ≤ (c : Int) := Int.natCast_nonneg _
            have eo5 : A.tmps[5]?.getD undef = .pointer (some ⟨w.heap.size, 0, none⟩) := slotE (hOld 5 (by kernel_rfl))
            have eo16 : A.tmps[16]?.getD undef = .pointer (some ⟨Q, 0, none⟩) := slotE (hOld 16 (by kernel_rfl))
            obtain rfl | rfl | rfl | rfl | rfl | rfl | rfl | rfl | rfl | rfl | rfl : i = 0 ∨ i = 1 ∨ i = 2 ∨ i = 3 ∨ i = 4 ∨ i = 5 ∨ i = 6 ∨ i = 7 ∨ i = 8 ∨ i = 9 ∨ i = 10 := by omega
            · obtain rfl := Option.some.inj (show some _ = some o from ho)
              refine aVal rfl rfl (v := .pointer (some ⟨Q, 0, none⟩)) (w' := wc) ?_ ⟨_, rfl, hI.val hn (by decide) (rfl)⟩
              go_simp
            · obtain rfl := Option.some.inj (show some _ = some o from ho)
              obtain ⟨y0, hy0⟩ := hdep ⟨0, .data⟩ (by simp) rfl
              obtain rfl : y0 = .pointer (some ⟨Q, 0, none⟩) := hI.ok 0 y0 hy0
              have s0 := slotE (hNew 0 97 _ _ rfl rfl (by kernel_rfl) hy0)
              refine aVal rfl rfl (v := .int .i64 (mi : Int)) (w' := wc) ?_ ⟨_, rfl, hI.val hn (by decide) (rfl)⟩
              go_simp
            · obtain rfl := Option.some.inj (show some _ = some o from ho)
              obtain ⟨y1, hy1⟩ := hdep ⟨1, .data⟩ (by simp) rfl
              obtain rfl : y1 = .int .i64 (mi : Int) := hI.ok 1 y1 hy1
              have s1 := slotE (hNew 1 98 _ _ rfl rfl (by kernel_rfl) hy1)
              refine aVal rfl rfl (v := .pointer (some ⟨w.heap.size, mi, none⟩)) (w' := wc) ?_ ⟨_, rfl, hI.val hn (by decide) (rfl)⟩
              go_simp
            · obtain rfl := Option.some.inj (show some _ = some o from ho)
              obtain ⟨y2, hy2⟩ := hdep ⟨2, .data⟩ (by simp) rfl
              obtain rfl : y2 = .pointer (some ⟨w.heap.size, mi, none⟩) := hI.ok 2 y2 hy2
              have s2 := slotE (hNew 2 99 _ _ rfl rfl (by kernel_rfl) hy2)
              refine aVal rfl rfl (v := .slice (some ⟨b, off, none⟩) ni ci) (w' := wc) ?_ ⟨_, rfl, hI.val hn (by decide) (rfl)⟩
              go_simp
            · obtain rfl := Option.some.inj (show some _ = some o from ho)
              refine aVal rfl rfl (v := .pointer (some ⟨Q, 2, none⟩)) (w' := wc) ?_ ⟨_, rfl, hI.val hn (by decide) (rfl)⟩
              go_simp
            · obtain rfl := Option.some.inj (show some _ = some o from ho)
              obtain ⟨y4, hy4⟩ := hdep ⟨4, .data⟩ (by simp) rfl
              obtain rfl : y4 = .pointer (some ⟨Q, 2, none⟩) := hI.ok 4 y4 hy4
              have s4 := slotE (hNew 4 101 _ _ rfl rfl (by kernel_rfl) hy4)
              refine aVal rfl rfl (v := .int .u64 (xs : Int)) (w' := wc) ?_ ⟨_, rfl, hI.val hn (by decide) (rfl)⟩
              go_simp
            · obtain rfl := Option.some.inj (show some _ = some o from ho)
              obtain ⟨y5, hy5⟩ := hdep ⟨5, .data⟩ (by simp) rfl
              obtain rfl : y5 = .int .u64 (xs : Int) := hI.ok 5 y5 hy5
              have s5 := slotE (hNew 5 102 _ _ rfl rfl (by kernel_rfl) hy5)
              refine aVal rfl rfl (v := .int .u64 (c : Int)) (w' := wc) ?_ ⟨_, rfl, hI.val hn (by decide) (rfl)⟩
              go_simp
            · obtain rfl := Option.some.inj (show some _ = some o from ho)
              obtain ⟨y3, hy3⟩ := hdep ⟨3, .data⟩ (by simp) rfl
              obtain rfl : y3 = .slice (some ⟨b, off, none⟩) ni ci := hI.ok 3 y3 hy3
              have s3 := slotE (hNew 3 100 _ _ rfl rfl (by kernel_rfl) hy3)
              obtain ⟨y6, hy6⟩ := hdep ⟨6, .data⟩ (by simp) rfl
              obtain rfl : y6 = .int .u64 (c : Int) := hI.ok 6 y6 hy6
              have s6 := slotE (hNew 6 103 _ _ rfl rfl (by kernel_rfl) hy6)
              refine aVal rfl rfl (v := .pointer (some ⟨b, off + c * 12, none⟩)) (w' := wc) ?_ ⟨_, rfl, hI.val hn (by decide) (rfl)⟩
              go_simp
            · obtain rfl := Option.some.inj (show some _ = some o from ho)
              obtain ⟨y7, hy7⟩ := hdep ⟨7, .data⟩ (by simp) rfl
              obtain rfl : y7 = .pointer (some ⟨b, off + c * 12, none⟩) := hI.ok 7 y7 hy7
              have s7 := slotE (hNew 7 104 _ _ rfl rfl (by kernel_rfl) hy7)
              refine aVal rfl rfl (v := .agg (tcs t (.slice At nt ct))) (w' := wc) ?_ ⟨_, rfl, hI.val hn (by decide) (rfl)⟩
              go_simp
            · obtain rfl := Option.some.inj (show some _ = some o from ho)
              refine aVal rfl rfl (v := .pointer (some ⟨wc.heap.size, 0, none⟩)) (w' := wc.alloc (.cells (zeroX) 44)) ?_ ⟨_, rfl, hI.new hn (by decide) rfl rfl (fun _ _ => trivial)⟩
              go_simp
            · obtain rfl := Option.some.inj (show some _ = some o from ho)
              obtain ⟨y9, hy9⟩ := hdep ⟨9, .data⟩ (by simp) rfl
              obtain ⟨P, rfl, hP1, hP2⟩ := hI.at_new (a := 9) (k := 10) (s := 8) (by decide) hn hy9
              have s9 := slotE (hNew 9 17 _ _ rfl rfl (by kernel_rfl) hy9)
              obtain ⟨y8, hy8⟩ := hdep ⟨8, .data⟩ (by simp) rfl
              obtain rfl : y8 = .agg (tcs t (.slice At nt ct)) := hI.ok 8 y8 hy8
              have s8 := slotE (hNew 8 105 _ _ rfl rfl (by kernel_rfl) hy8)
              have z0 : wc.cell? ⟨P, 0, none⟩ = some (.int .i64 0) := by rw [cell_of_block hP2]; rfl
              have k0 := unfrozen_of_block hP2 0
              have z1 : wc.cell? ⟨P, 1, none⟩ = some (.int .u64 0) := by rw [cell_of_block hP2]; rfl
              have k1 := unfrozen_of_block hP2 1
              have z2 : wc.cell? ⟨P, 2, none⟩ = some (.int .u64 0) := by rw [cell_of_block hP2]; rfl
              have k2 := unfrozen_of_block hP2 2
              have z3 : wc.cell? ⟨P, 3, none⟩ = some (.int .u64 0) := by rw [cell_of_block hP2]; rfl
              have k3 := unfrozen_of_block hP2 3
              have z4 : wc.cell? ⟨P, 4, none⟩ = some (.int .u64 0) := by rw [cell_of_block hP2]; rfl
              have k4 := unfrozen_of_block hP2 4
              have z5 : wc.cell? ⟨P, 5, none⟩ = some (.int .u64 0) := by rw [cell_of_block hP2]; rfl
              have k5 := unfrozen_of_block hP2 5
              have z6 : wc.cell? ⟨P, 6, none⟩ = some (.int .u64 0) := by rw [cell_of_block hP2]; rfl
              have k6 := unfrozen_of_block hP2 6
              have z7 : wc.cell? ⟨P, 7, none⟩ = some (.int .u64 0) := by rw [cell_of_block hP2]; rfl
              have k7 := unfrozen_of_block hP2 7
              have z8 : wc.cell? ⟨P, 8, none⟩ = some (.int .u64 0) := by rw [cell_of_block hP2]; rfl
              have k8 := unfrozen_of_block hP2 8
              have z9 : wc.cell? ⟨P, 9, none⟩ = some (.int .u64 0) := by rw [cell_of_block hP2]; rfl
              have k9 := unfrozen_of_block hP2 9
              have z10 : wc.cell? ⟨P, 10, none⟩ = some (.int .u64 0) := by rw [cell_of_block hP2]; rfl
              have k10 := unfrozen_of_block hP2 10
              have z11 : wc.cell? ⟨P, 11, none⟩ = some (.slice none 0 0) := by rw [cell_of_block hP2]; rfl
              have k11 := unfrozen_of_block hP2 11
              have hz := hP2
              refine aSkip rfl rfl (w' := putCells wc P 0 (tcs t (.slice At nt ct) : Array Value).toList) ?_ ⟨_, rfl, hI.putA (a := 9) (k := 10) (s := 8) (c := tcs t (.slice At nt ct)) (by decide) hn (by decide) (by decide) (by decide) hy9 hy8 rfl (fun _ => trivial)⟩
              clear hz hI hP2
              go_simp
              rfl
          · intro vals wc hall hI
            refine NoPanic.normal ?_
            obtain ⟨y0, hy0⟩ := hall 0 (by decide)
            obtain ⟨y1, hy1⟩ := hall 1 (by decide)
            obtain ⟨y2, hy2⟩ := hall 2 (by decide)
            obtain ⟨y3, hy3⟩ := hall 3 (by decide)
            obtain ⟨y4, hy4⟩ := hall 4 (by decide)
            obtain ⟨y5, hy5⟩ := hall 5 (by decide)
            obtain ⟨y6, hy6⟩ := hall 6 (by decide)
            obtain ⟨y7, hy7⟩ := hall 7 (by decide)
            obtain ⟨y8, hy8⟩ := hall 8 (by decide)
            obtain ⟨y9, hy9⟩ := hall 9 (by decide)
            obtain ⟨y10, hy10⟩ := hall 10 (by decide)
            have hP := hI.at_full (a := 9) (k := 10) (s := 8) (by decide) hy10 hy8 hy9
            obtain rfl : y8 = .agg (tcs t (.slice At nt ct)) := hI.ok 8 y8 hy8
            obtain ⟨P17, rfl, hP17, hbP⟩ := hP
            have HB17 : Hid (wc.heap[P17]? = some (.cells (tcs t (.slice At nt ct)) 44 (0, 0))) := Lib.hid hbP
            have HGC := Lib.hid hI.gr
            clear hbP
            simp only [putAll, putV, hy0, hy1, hy2, hy3, hy4, hy5, hy6, hy7, hy8, hy9, hy10]
            clear hI hall hy0 hy1 hy2 hy3 hy4 hy5 hy6 hy7 hy8 hy9 hy10
            simp only [Act.put, List.setIfInBounds_toArray, List.set_cons_zero, List.set_cons_succ]
            have HQC := Lib.hid (HQ8.out.gr HGC.out)
            have HSC := Lib.hid ((HSQ.out.next HG8.out).next HGC.out)
            obtain ⟨A', c', hv', -, -, hat'⟩ := HXF.out.1
            injection hv' with r1 r2 r3
            subst r1 r3
            have hjl : jj < t.ops.length := (List.getElem?_eq_some_iff.1 HOPJ.out.1).1
            have hje : t.ops[jj] = oo := (List.getElem?_eq_some_iff.1 HOPJ.out.1).2
            obtain ⟨b', off', rfl, hto⟩ := hat' jj hjl
            rw [hje] at hto
            obtain ⟨-, t1, t2, -⟩ := hto.gr HSC.out.gr
            rw [HOPJ.out.2.1] at t1
            rw [HOPJ.out.2.2] at t2
            have t11 : wc.cell? ⟨P17, 11, none⟩ = some (.slice (some ⟨b', off', none⟩) nt ct) := by rw [cell_of_block HB17.out]; rfl
            have HT := Lib.hid (And.intro t11 (And.intro t1 t2))
            have hjn : jj < nt := by rw [HNT.out]; exact hjl
            have f1 : ¬ (jj : Int) < 0 := by omega
            have f2 : ¬ (jj : Int) ≥ (nt : Int) := by omega
            have f2' : ¬ (nt : Int) ≤ (jj : Int) := by omega
            have d1 : decide ((jj : Int) < 0) = false := decide_eq_false f1
            have d2 : decide ((jj : Int) ≥ (nt : Int)) = false := decide_eq_false f2
            have d2' : decide ((nt : Int) ≤ (jj : Int)) = false := decide_eq_false f2'
            have i0 : (0 : Int) ≤ (jj : Int) := Int.natCast_nonneg _
            have i8 : (jj : Int) < (nt : Int) := by omega
            have s1 : (key.toList != key.toList) = false := by simp
            have s2 : (xe.toList != xe.toList) = false := by simp
            clear hat' hjl hje hto t1 t2 t11 hjn r2
            go_upto_region 21 with (fail)
            refine qRegion (fun w' => TGc w' Q 0 ⟨(mi : Int), (jj : Int), xs, xe⟩ ∧ w'.cell? ⟨P17, 11, none⟩ = some (.slice (some ⟨b', off', none⟩) nt ct) ∧ w'.cell? ⟨b', off' + jj * 4 + 1, none⟩ = some (.string key) ∧ w'.cell? ⟨b', off' + jj * 4 + 2, none⟩ = some (.string xe) ∧ Gr wc w') (by kernel_rfl) (by kernel_rfl) ⟨HQC.out.gr (Gr.refl _).drew, (Gr.refl _).drew.cell HT.out.1, (Gr.refl _).drew.cell HT.out.2.1, (Gr.refl _).drew.cell HT.out.2.2, (Gr.refl _).drew⟩ ?_
            iterate 34
              refine qTake (by kernel_rfl) ?_
              apply Exists.intro
              refine ⟨fun wq hq => ?_, ?_⟩
              · go_light
                obtain ⟨⟨b0, b1, b2, b3⟩, e1, e2, e3, -⟩ := hq
                go_simp
                try with_reducible rfl
                done
              try simp only [Act.put, List.setIfInBounds_toArray, List.set_cons_zero, List.set_cons_succ]
            refine qNil ?_
            intro w9 hC
            have HQ9 := Lib.hid hC.1
            have HS9 := Lib.hid (HSC.out.next hC.2.2.2.2)
            clear hC f1 f2 f2' d1 d2 d2' i0 i8 s1 s2
            have hq65 : (q : Int) < 700000 := by have h1 := HN8.out; have h2 : Ls.length ≤ 600000 := HLEN.out; omega
            have hwj : wrap64 ((q : Int) + 1) = ((q + 1 : Nat) : Int) := by unfold wrap64; omega
            by_cases hz : 0 < q
            · obtain ⟨r, hr⟩ : ∃ r, r + 1 = q := ⟨q - 1, by omega⟩
              have hrl : r < Ls.length := by omega
              obtain ⟨y, hy⟩ : ∃ y, y = Ls[r] := ⟨_, rfl⟩
              have hyx : TgR y ⟨(mi : Int), (jj : Int), xs, xe⟩ := by
                rw [hy, HX.out]
                exact List.pairwise_iff_getElem.1 HTG.out.1 r q hrl hql (by omega)
              obtain ⟨a0, a1, a2, a3⟩ := HS9.out.lo.at_ hrl
              rw [← hy] at a0 a1 a2 a3
              obtain ⟨yo, yi, ys, ye⟩ := y
              unfold TgR at hyx
              simp only at hyx a0 a1 a2 a3
              have p3 : w9.cell? ⟨P10, 3, none⟩ = some (.slice (some ⟨g, 0, none⟩) n8 c8) := by rw [cell_of_block HS9.out.bx]; rfl
              have z1 : (0 : Int) < (q : Int) := by omega
              have z2 : (q : Int) > 0 := z1
              have z3 : decide ((q : Int) > 0) = true := decide_eq_true z2
              have z4 : decide ((0 : Int) < (q : Int)) = true := decide_eq_true z1
              have w1' : wrap64 ((q : Int) - 1) = (r : Int) := by unfold wrap64; omega
              have w2' : IntKind.i64.wrap ((q : Int) - 1) = (r : Int) := by rw [IntWalk.i64_in _ ⟨by omega, by omega⟩]; omega
              have r0 : (0 : Int) ≤ (r : Int) := Int.natCast_nonneg _
              have r1 : (r : Int) < (n8 : Int) := by omega
              obtain ⟨W8, hW8, g8, v0, v1, v2, v3⟩ := tgbox w9 ⟨yo, yi, ys, ye⟩
              obtain ⟨b0, b1, b2, b3⟩ := HQ9.out.gr g8
              simp only [Nat.zero_add] at b0 b1 b2 b3 v0 v1 v2 v3
              have HS10 := Lib.hid (HS9.out.next g8)
              have HYX := Lib.hid hyx
              clear hy hr hrl g8 hyx
              go_upto_region 25 with (fail)
              change Code.wp Try.prog _ _ _ (w9.alloc (.cells (tgv ⟨yo, yi, ys, ye⟩) 36))
              rw [← hW8]
              clear hW8 a0 a1 a2 a3 p3
              rcases HYX.out with h1 | ⟨h1, h2 | ⟨h2, h3⟩⟩
              · have u1 : ¬ yo > (mi : Int) := by omega
                have u2 : decide (yo > (mi : Int)) = false := decide_eq_false u1
                have u2' : decide ((mi : Int) < yo) = false := decide_eq_false (by omega)
                have u1' : ¬ (mi : Int) < yo := by omega
                have u3 : (yo == (mi : Int)) = false := beq_eq_false_iff_ne.2 (by omega)
                have u4 : ¬ yo = (mi : Int) := by omega
                clear h1
                go_wp2_with fail
                go_roundw
                case rel => exact ⟨q + 1, by omega, (by first | rfl | rw [hwj]), Lib.hid HS10.out⟩
                case measure => first | (simp [intOf]; omega) | (rw [hwj]; simp [intOf]; omega)
              · subst h1
                have u1 : ¬ (mi : Int) > (mi : Int) := by omega
                have u3 : ¬ (ys : Int) > (xs : Int) := by omega
                have u4 : decide ((ys : Int) > (xs : Int)) = false := decide_eq_false u3
                have u4' : decide ((xs : Int) < (ys : Int)) = false := decide_eq_false (by omega)
                have u3' : ¬ (xs : Int) < (ys : Int) := by omega
                have u5 : ((ys : Int) == (xs : Int)) = false := beq_eq_false_iff_ne.2 (by omega)
                have u6 : ¬ (ys : Int) = (xs : Int) := by omega
                clear h2
                go_wp2_with fail
                go_roundw
                case rel => exact ⟨q + 1, by omega, (by first | rfl | rw [hwj]), Lib.hid HS10.out⟩
                case measure => first | (simp [intOf]; omega) | (rw [hwj]; simp [intOf]; omega)
              · subst h1
                subst h2
                have u1 : ¬ (mi : Int) > (mi : Int) := by omega
                have u3 : ¬ (ys : Int) > (ys : Int) := by omega
                have u5 : ¬ yi ≥ (jj : Int) := by omega
                have u5' : ¬ (jj : Int) ≤ yi := by omega
                have u6 : decide (yi ≥ (jj : Int)) = false := decide_eq_false u5
                have u6' : decide ((jj : Int) ≤ yi) = false := decide_eq_false u5'
                clear h3
                go_wp2_with fail
                go_roundw
                case rel => exact ⟨q + 1, by omega, (by first | rfl | rw [hwj]), Lib.hid HS10.out⟩
                case measure => first | (simp [intOf]; omega) | (rw [hwj]; simp [intOf]; omega)
            · have z1 : ¬ (0 : Int) < (q : Int) := by omega
              have z2 : ¬ (q : Int) > 0 := z1
              have z3 : decide ((q : Int) > 0) = false := decide_eq_false z2
              have z4 : decide ((0 : Int) < (q : Int)) = false := decide_eq_false z1
              go_wp2_with fail
              go_roundw
              case rel => exact ⟨q + 1, by omega, (by first | rfl | rw [hwj]), Lib.hid HS9.out⟩
              case measure => first | (simp [intOf]; omega) | (rw [hwj]; simp [intOf]; omega)
        · obtain rfl : q = n8 := by omega
          have HGE := Lib.hid hsu.gr
          clear hsu
          go_wp2_with fail
          go_ret
          exact ⟨rfl, HGE.out⟩
end Go.Proofs.Ytlihcjlonafohaa
