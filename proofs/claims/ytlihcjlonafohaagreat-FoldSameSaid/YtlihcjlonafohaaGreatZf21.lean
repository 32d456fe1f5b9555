/- Walk: slices.DeleteFunc of tags, by the deed's clears. Written by wip/tools/genfod.py. -/
import Derived.Test.YtlihcjlonafohaaGreatZf20
namespace Go.Proofs.YtlihcjlonafohaaGreat
open Go.RowKit Go.Joins
set_option linter.unusedSimpArgs false
set_option linter.unusedVariables false

theorem elemTg : Tryz.prog.underlying 35 = some (.slice (Tryz.prog.elem 35)) := by kernel_rfl
theorem sizeTg : ∀ W : World, (sizeOf (Tryz.prog.elem 35)).run Tryz.prog W = .ok 4 W := fun W => by kernel_rfl
def zerosT4 (k : Nat) : List Value := (Builtin.zeroCells (Value.agg #[.int .i64 0, .int .i64 0, .int .u64 0, .string ⟨#[]⟩]).cells k).toList
theorem zerosT4_len (k : Nat) : (zerosT4 k).length = k * 4 := by
  unfold zerosT4
  simp [Builtin.zeroCells, Value.cells]
theorem zerosT4_one (k : Nat) : ∀ v ∈ zerosT4 k, v.oneCell' = true := by
  intro v hv
  unfold zerosT4 Builtin.zeroCells at hv
  simp only [Value.cells, Array.toList_map, List.mem_map, Array.mem_toList_iff, Array.mem_range] at hv
  obtain ⟨i, _, rfl⟩ := hv
  have h3 : i % 4 < 4 := Nat.mod_lt _ (by decide)
  show Value.oneCell' ((#[Value.int .i64 0, Value.int .i64 0, Value.int .u64 0, Value.string ⟨#[]⟩] : Array Value)[i % 4]!) = true
  obtain h | h | h | h : i % 4 = 0 ∨ i % 4 = 1 ∨ i % 4 = 2 ∨ i % 4 = 3 := by omega
  all_goals rw [h]; rfl
/-- The clearing of what lies behind a row's beginning. -/
theorem run_clear_tags (w : World) (g off k cc : Nat) (hk : 0 < k) (hc : ∀ j, j < k * 4 → (w.cell? ⟨g, off + j, none⟩).isSome = true) (hf : ∀ j, j < k * 4 → w.frozen? ⟨g, off + j, none⟩ = false) (ty : TypeId) :
    (Builtin.clear_ #[35] ty #[.slice (some ⟨g, off, none⟩) k cc]).run Tryz.prog w = .ok (.tuple #[]) (w.setCells g off (zerosT4 k)) := by
  obtain ⟨i0, hi, hz0, hz1, hz2⟩ := info_parts infoTag
  have hst := run_storeCells_cells (P := Tryz.prog) g off (zerosT4 k) 0 w
    (fun j hj => by rw [Nat.add_zero]; exact hc j (by rw [← zerosT4_len]; exact hj))
    (fun j hj => by rw [Nat.add_zero]; exact hf j (by rw [← zerosT4_len]; exact hj))
    (zerosT4_one k)
  simp only [Nat.add_zero] at hst
  have hzv : ∀ w, (zeroValue 37).run Tryz.prog w = .ok (.agg #[.int .i64 0, .int .i64 0, .int .u64 0, .string ⟨#[]⟩]) w := fun w => by
    simp [zeroValue, typeInfo, hi, hz0]
  have hu : (underlying 35).run Tryz.prog w = .ok (.slice 37) w := run_underlying Tryz.underlying35 w
  obtain ⟨k', rfl⟩ : ∃ k', k = k' + 1 := ⟨k - 1, by omega⟩
  unfold zerosT4 at hst ⊢
  simp [Builtin.clear_, hu, hzv, hst]
/-- A call's answer: the stands that the cut doesn't count, in the same block. -/
def RetLeftG (p : TG → Bool) (L : List TG) (B : Nat) (v : Value) (w : World) (e : Ending) (w' : World) : Prop := ∃ v', e = .returned v' ∧ GOw w' B v' (L.filter fun c => !p c) ∧ v'.ownBlock = v.ownBlock ∧ Kp v.ownBlock w w'
structure DGInv (p : TG → Bool) (L : List TG) (w : World) (B g c i j : Nat) (D : List TG) (wr : World) : Prop where
  row : GOw wr B (.slice (some ⟨g, 0, none⟩) L.length c) D
  len : D.length = L.length
  lo : D.take i = (L.take j).filter fun c => !p c
  hi : ∀ m (h : m < L.length), j ≤ m → D[m]'(by rw [len]; exact h) = L[m]
  lt : i < j
  kp : Kp (some g) w wr
theorem DGInv.start {p : TG → Bool} {L : List TG} {w wr : World} {B g c k : Nat} (hk : k < L.length) (hg : p L[k] = true) (hall : ∀ j (hj : j < L.length), j < k → p L[j] = false) (hv : GOw w B (.slice (some ⟨g, 0, none⟩) L.length c) L) (q : Gr w wr) : DGInv p L w B g c k (k + 1) L wr := by
  refine ⟨hv.gr q, rfl, ?_, fun m h _ => rfl, Nat.lt_succ_self _, Kp.of_gr q⟩
  rw [List.take_succ_eq_append_getElem hk, List.filter_append]
  have e1 : (L.take k).filter (fun c => !p c) = L.take k := by
    rw [List.filter_eq_self]
    intro x hx
    obtain ⟨i, hi, rfl⟩ := List.mem_iff_getElem.1 hx
    have hi2 : i < k := by simp at hi; omega
    rw [List.getElem_take]
    rw [hall i (by omega) hi2]
    rfl
  rw [e1]
  simp [hg]
theorem DGInv.skip {p : TG → Bool} {L : List TG} {w wr w' : World} {B g c i j : Nat} {D : List TG} (h : DGInv p L w B g c i j D wr) (q : Gr wr w') (hj : j < L.length) (hg : p L[j] = true) : DGInv p L w B g c i (j + 1) D w' := by
  refine ⟨h.row.gr q, h.len, ?_, fun m hm hjm => h.hi m hm (by omega), by have := h.lt; omega, h.kp.gr q⟩
  rw [h.lo, List.take_succ_eq_append_getElem hj, List.filter_append]
  simp [hg]
theorem DGInv.keep {p : TG → Bool} {L : List TG} {w wr w' : World} {B g c i j : Nat} {D : List TG} (h : DGInv p L w B g c i j D wr) (q : Gr wr w') (hj : j < L.length) (hg : p L[j] = false) :
    DGInv p L w B g c (i + 1) (j + 1) (D.set i L[j]) ((((w'.setCell ⟨g, i * 4, none⟩ (.int .i64 L[j].o)).setCell ⟨g, i * 4 + 1, none⟩ (.int .i64 L[j].i)).setCell ⟨g, i * 4 + 2, none⟩ (.int .u64 (L[j].s : Int))).setCell ⟨g, i * 4 + 3, none⟩ (.string L[j].e)) := by
  have hlt := h.lt
  have hiD : i < D.length := by rw [h.len]; omega
  refine ⟨(h.row.gr q).put4 hiD L[j], by rw [List.length_set]; exact h.len, ?_, fun m hm hjm => ?_, by omega, (((((h.kp.gr q).set (.inr rfl) _ _).set (.inr rfl) _ _).set (.inr rfl) _ _).set (.inr rfl) _ _)⟩
  · rw [List.take_succ_eq_append_getElem (by rw [List.length_set]; exact hiD), List.getElem_set_self, List.take_set_of_le (Nat.le_refl _), h.lo, List.take_succ_eq_append_getElem hj, List.filter_append]
    simp [hg]
  · rw [List.getElem_set_ne (by omega)]
    exact h.hi m hm (by omega)
theorem filter_noneG {p : TG → Bool} {L : List TG} (hall : ∀ j (hj : j < L.length), p L[j] = false) : L.filter (fun c => !p c) = L := by
  rw [List.filter_eq_self]
  intro x hx
  obtain ⟨i, hi, rfl⟩ := List.mem_iff_getElem.1 hx
  rw [hall i hi]
  rfl
set_option maxRecDepth 100000 in
set_option maxHeartbeats 4000000 in
theorem delG_any (v : Value) (L : List TG) (B : Nat) (dv : Value) (p : TG → Bool) (C : World → Prop) (w : World) (hv : GOw w B v L) (hp : PrG B dv p C L) (hc : C w) :
    Calls Tryz.prog 136 #[v, .func (.func 137) #[dv] #[]] w fun e w' => RetLeftG p L B v w e w' := by
  have H1 := Lib.hid (indexG_any v L B dv p C w hv hp hc)
  have HP := Lib.hid hp
  have HCC := Lib.hid hc
  clear hp hc
  have HV := Lib.hid hv
  obtain ⟨A, c, rfl, hnc, hc63⟩ := own_form hv
  by_cases hall : ∀ j (hj : j < L.length), p L[j] = false
  · rw [gckI_none hall] at H1
    have HF := Lib.hid (filter_noneG hall)
    obtain ⟨n, hn⟩ : ∃ n, n = L.length := ⟨_, rfl⟩
    rw [← hn] at H1 HV ⊢
    clear hv hall hn hnc
    go_enter Tryz.func136, Tryz.ntmps136
    go_wp2_with fail
    refine H1.out.mono ?_
    rintro e w1 ⟨rfl, g1⟩
    have HG1 := Lib.hid g1
    clear g1
    go_wp2_with fail
    go_ret
    exact ⟨_, rfl, by rw [HF.out]; exact HV.out.gr HG1.out, rfl, Kp.of_gr HG1.out⟩
  · have hex : ∃ k, ∃ hk : k < L.length, p L[k] = true ∧ ∀ j (hj : j < L.length), j < k → p L[j] = false := by
      have hlt : gckN p L < L.length := by
        rcases Nat.lt_or_ge (gckN p L) L.length with h | h
        · exact h
        · exfalso
          apply hall
          intro j hj
          have := List.not_of_lt_findIdx (p := fun c : TG => p c) (xs := L) (i := j) (by unfold gckN at h; omega)
          simpa using this
      refine ⟨gckN p L, hlt, List.findIdx_getElem (p := fun c : TG => p c) (w := hlt), fun j hj hjk => ?_⟩
      have := List.not_of_lt_findIdx (p := fun c : TG => p c) (xs := L) (i := j) hjk
      simpa using this
    obtain ⟨k, hk, hgk, hbe⟩ := hex
    rw [(gckI_at hk hgk hbe).1] at H1
    obtain ⟨g, c', hvv⟩ := hv.addr hk
    injection hvv with h1 h2 h3
    subst h1 h3
    clear h2
    have HGB : Hid (B ≤ g) := Lib.hid hv.len.2.2.2.1
    obtain ⟨n, hn⟩ : ∃ n, n = L.length := ⟨_, rfl⟩
    have HN := Lib.hid hn
    have HB := Lib.hid (fun wr (q : Gr w wr) => DGInv.start (p := p) (B := B) (g := g) (c := c) hk hgk hbe HV.out q)
    have hkn : k < n := by rw [hn]; exact hk
    have hne : ((k : Int) == -1) = false := by rw [beq_eq_false_iff_ne]; omega
    have hne2 : ¬ ((k : Int) = -1) := by omega
    have hc1 : n ≤ c := by rw [hn]; exact hnc
    rw [← hn] at H1 ⊢
    have hwk : IntKind.i64.wrap ((k : Int) + 1) = ((k + 1 : Nat) : Int) := by
      rw [IntKind.wrap_i64]
      omega
    clear hv hall hbe hgk hn hk hnc HV
    go_enter Tryz.func136, Tryz.ntmps136
    go_wp2_with fail
    refine H1.out.mono ?_
    rintro e w1 ⟨rfl, g1⟩
    have HS := Lib.hid (HB.out _ g1)
    clear g1 HB H1
    go_wp2_with fail
    clear hwk
    go_loopg [5, 6, 7] n (fun gg s5 s6 _ wr => ∃ (i j : Nat) (D : List TG), s5 = .int .i64 (i : Int) ∧ s6 = .int .i64 (j : Int) ∧ j ≤ n ∧ n - j ≤ gg ∧ Hid (DGInv p L w B g c i j D wr))
    case atStart => exact ⟨k, k + 1, L, rfl, by go_num, by omega, by omega, HS⟩
    case round =>
      obtain ⟨i, j, D, rfl, rfl, hjn, hgg, HD⟩ := hrel
      have hij := HD.out.lt
      by_cases hlt : j < n
      · have hjL : j < L.length := by rw [← HN.out]; exact hlt
        have hjD : j < D.length := by rw [HD.out.len]; exact hjL
        obtain ⟨q0, q1, q2, q3⟩ := HD.out.row.at_ hjD
        rw [HD.out.hi j hjL (Nat.le_refl _)] at q0 q1 q2 q3
        obtain ⟨f, hf⟩ : ∃ f, f = L[j] := ⟨_, rfl⟩
        rw [← hf] at q0 q1 q2 q3
        have HF := Lib.hid hf
        obtain ⟨W, hW⟩ : ∃ W, W = wr.alloc (.cells (tgv f) 37) := ⟨_, rfl⟩
        have HGW : Hid (Gr wr W) := Lib.hid (by rw [hW]; exact gr_box _ _)
        have hmem : f ∈ L := by rw [hf]; exact List.getElem_mem hjL
        have hpr := HP.out.gr _ _ (HP.out.kp _ _ _ HCC.out HD.out.kp HGB.out) HGW.out
        have HC := Lib.hid (HP.out.call f hmem W hpr)
        clear hpr hmem
        have HX : Hid (W.heap[wr.heap.size]? = some (.cells (tgv f) 37 (0, 0))) := Lib.hid (by rw [hW]; exact heap_alloc_new wr _)
        have x0 := obj_cell HX.out (i := 0) rfl
        have x1 := obj_cell HX.out (i := 1) rfl
        have x2 := obj_cell HX.out (i := 2) rfl
        have x3 := obj_cell HX.out (i := 3) rfl
        have hltz : (j : Int) < (n : Int) := by omega
        have hj0 : (0 : Int) ≤ (j : Int) := by omega
        rcases hq : p f with _ | _
        · have HQ := Lib.hid hq
          have HK := Lib.hid (fun w' (q : Gr wr w') => HD.out.keep q hjL (by rw [← HF.out]; exact hq))
          rw [← HF.out] at HK
          have HC2 : Hid (Calls Tryz.prog 137 #[dv, .agg (tgv f)] W fun e w' => e = .returned (.bool false) ∧ Gr W w') := Lib.hid (HC.out.mono fun e w' h => ⟨by rw [h.1, hq], h.2⟩)
          have hi0 : (0 : Int) ≤ (i : Int) := by omega
          have hin : (i : Int) < (n : Int) := by omega
          have hiD : i < D.length := by rw [HD.out.len]; omega
          clear hf hq
          go_wp2_with fail
          rw [← hW]
          clear hW q0 q1 q2 q3
          refine HC2.out.mono ?_
          rintro e w2 ⟨rfl, g2⟩
          have hg2 := HGW.out.trans g2
          have y0 := g2.cell x0
          have y1 := g2.cell x1
          have y2 := g2.cell x2
          have y3 := g2.cell x3
          have hrow2 := HD.out.row.gr hg2
          obtain ⟨r0, r1, r2, r3⟩ := hrow2.at_ hiD
          have f0 := hrow2.free (i * 4)
          have f1 := hrow2.free (i * 4 + 1)
          have f2 := hrow2.free (i * 4 + 2)
          have f3 := hrow2.free (i * 4 + 3)
          have HN2 := Lib.hid (HK.out w2 hg2)
          have hwi : IntKind.i64.wrap ((i : Int) + 1) = ((i + 1 : Nat) : Int) := by
            rw [IntKind.wrap_i64]
            omega
          clear x0 x1 x2 x3 g2 hg2 hrow2 HX HGW HK HC HC2
          go_wp2_with fail
          go_roundg (n - (j + 1))
          case measure => omega
          case rel => exact ⟨i + 1, j + 1, _, by go_num, by go_num, by omega, Nat.le_refl _, HN2⟩
        · have HK := Lib.hid (fun w' (q : Gr wr w') => HD.out.skip q hjL (by rw [← HF.out]; exact hq))
          have HC2 : Hid (Calls Tryz.prog 137 #[dv, .agg (tgv f)] W fun e w' => e = .returned (.bool true) ∧ Gr W w') := Lib.hid (HC.out.mono fun e w' h => ⟨by rw [h.1, hq], h.2⟩)
          clear hf hq
          go_wp2_with fail
          rw [← hW]
          clear hW q0 q1 q2 q3
          refine HC2.out.mono ?_
          rintro e w2 ⟨rfl, g2⟩
          have HN2 := Lib.hid (HK.out w2 (HGW.out.trans g2))
          clear x0 x1 x2 x3 g2 HX HGW HK HC HC2
          go_wp2_with fail
          go_roundg (n - (j + 1))
          case measure => omega
          case rel => exact ⟨i, j + 1, _, rfl, by go_num, by omega, Nat.le_refl _, HN2⟩
      · obtain rfl : j = n := by omega
        have hltz : ¬ ((j : Int) < (j : Int)) := by omega
        have hfin : (L.filter fun c => !p c) = D.take i := by
          rw [HD.out.lo, List.take_of_length_le (by rw [← HN.out]; exact Nat.le_refl _)]
        have HFIN := Lib.hid hfin
        have hsf := slice_from_g 35 4 elemTg sizeTg j c i (by omega) (some ⟨g, 0, none⟩)
        have hst := slice_to_g 35 4 elemTg sizeTg j c i (by omega) (some ⟨g, 0, none⟩)
        have hsd : sliced (some ⟨g, 0, none⟩) i j  c 4 = .slice (some ⟨g, i * 4, none⟩) (j - i) (c - i) := by
          unfold sliced
          rw [if_neg (by omega)]
          simp [Addr.add]
          try omega
        rw [hsd] at hsf
        have hrow : wr.ownsRow B 37 4 (.slice (some ⟨g, 0, none⟩) j c) j (gcells D) := by
          have h := HD.out.row
          unfold GOw at h
          rw [HD.out.len, ← HN.out] at h
          exact h
        have hpre : GOw wr B (.slice (some ⟨g, 0, none⟩) i c) (D.take i) := by
          have h := own_prefix (k := i) hrow (by omega)
          unfold GOw
          rw [List.length_take, Nat.min_eq_left (by rw [HD.out.len, ← HN.out]; omega)]
          unfold gcells at h ⊢
          rw [rows_take gcell 4 gcell_len] at h
          exact h
        have hpre' := hpre
        unfold GOw at hpre'
        rw [List.length_take, Nat.min_eq_left (by rw [HD.out.len, ← HN.out]; omega)] at hpre'
        have hcl := run_clear_tags wr g (i * 4) (j - i) (c - i) (by omega) (fun m hm => by
          obtain ⟨⟨u, hu⟩, _⟩ := own_someD hrow (j := i * 4 + m) (by omega)
          rw [hu]; rfl) (fun m hm => (own_someD hrow (j := i * 4 + m) (by omega)).2)
        have hbey := own_beyondsD (zerosT4 (j - i)) (i * 4) hpre' (Nat.le_refl _)
        obtain ⟨W, hW⟩ : ∃ W, W = wr.setCells g (i * 4) (zerosT4 (j - i)) := ⟨_, rfl⟩
        rw [← hW] at hcl hbey
        have HBE : Hid (GOw W B (.slice (some ⟨g, 0, none⟩) i c) (D.take i)) := Lib.hid (by unfold GOw; rw [List.length_take, Nat.min_eq_left (by rw [HD.out.len, ← HN.out]; omega)]; exact hbey.1)
        have HKP := Lib.hid (HD.out.kp.trans hbey.2)
        have hcl0 := hcl 0
        clear hW hbey hpre hpre' hrow hfin hsd
        go_wp2_with fail
        go_ret
        exact ⟨_, rfl, by rw [HFIN.out]; exact HBE.out, rfl, HKP.out⟩
end Go.Proofs.YtlihcjlonafohaaGreat
