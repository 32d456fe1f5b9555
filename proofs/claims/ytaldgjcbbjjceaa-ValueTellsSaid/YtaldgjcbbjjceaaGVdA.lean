/- Places (an operation of a transaction) as the document lays them; walks: a place's operation; seen. -/
import Derived.Test.YtaldgjcbbjjceaaG30
namespace Go.Proofs.Ytaldgjcbbjjceaa
open Go.RowKit Go.Joins
set_option linter.unusedSimpArgs false
set_option linter.unusedVariables false

/-- The cells of a place whose transaction's list is the slice v. -/
abbrev pcs (t : TX) (v : Value) (i : Nat) : Array Value := #[.int .i64 t.origin, .int .u64 (t.seq : Int), .int .u64 (t.stamp : Int), .int .u64 (t.deps 0 : Int), .int .u64 (t.deps 1 : Int), .int .u64 (t.deps 2 : Int), .int .u64 (t.deps 3 : Int), .int .u64 (t.deps 4 : Int), .int .u64 (t.deps 5 : Int), .int .u64 (t.deps 6 : Int), .int .u64 (t.deps 7 : Int), v, .int .i64 (i : Int)]
/-- A place lies here, its transaction's list being the slice v. -/
def PFix (w : World) (b off : Nat) (x : TX × Nat) (v : Value) : Prop := XFix w b off x.1 v ∧ w.cell? ⟨b, off + 12, none⟩ = some (.int .i64 (x.2 : Int))
theorem PFix.gr {w w' : World} {b off : Nat} {x : TX × Nat} {v : Value} (h : PFix w b off x v) (g : Gr w w') : PFix w' b off x v := ⟨h.1.gr g, g.cell h.2⟩
def PCl (w : World) (b off : Nat) (x : TX × Nat) : Prop := ∃ v, TOV w v x.1.ops ∧ PFix w b off x v
theorem PCl.gr {w w' : World} {b off : Nat} {x : TX × Nat} (h : PCl w b off x) (g : Gr w w') : PCl w' b off x := by
  obtain ⟨v, h1, h2⟩ := h
  exact ⟨v, h1.gr g, h2.gr g⟩
theorem pbox (w : World) (x : TX × Nat) (v : Value) : ∃ W, W = w.alloc (.cells (pcs x.1 v x.2) 74) ∧ Gr w W ∧ W.heap[w.heap.size]? = some (.cells (pcs x.1 v x.2) 74 (0, 0)) ∧ PFix W w.heap.size 0 x v := by
  refine ⟨_, rfl, (Gr.refl w).alloc _, heap_alloc _ _ _, ⟨?_, ?_, ?_, ?_, ?_, ?_, ?_, ?_, ?_, ?_, ?_, ?_⟩, ?_⟩ <;> (rw [cell_of_block (heap_alloc w (pcs x.1 v x.2) 74)]; rfl)
/-- The slice value v reads as these places. -/
def PLV (w : World) (v : Value) (L : List (TX × Nat)) : Prop :=
  ∃ A c, v = .slice A L.length c ∧ L.length ≤ c ∧ (c ≤ maxLen ∧ (A = Option.none → c = 0)) ∧ ∀ j (hj : j < L.length), ∃ b off, A = some ⟨b, off, none⟩ ∧ PCl w b (off + j * 13) L[j]
theorem PLV.gr {w w' : World} {v : Value} {L : List (TX × Nat)} (h : PLV w v L) (g : Gr w w') : PLV w' v L := by
  obtain ⟨A, c, hv, h1, h2, h3⟩ := h
  refine ⟨A, c, hv, h1, h2, fun j hj => ?_⟩
  obtain ⟨b, off, ha, hc⟩ := h3 j hj
  exact ⟨b, off, ha, hc.gr g⟩
theorem plv_form {w : World} {v : Value} {L : List (TX × Nat)} (h : PLV w v L) : ∃ A c, v = .slice A L.length c := by
  obtain ⟨A, c, hv, _⟩ := h
  exact ⟨A, c, hv⟩
/-- Did the operation y see the operation x? -/
def seenP (x y : TX × Nat) : Bool := if x.1.origin = y.1.origin ∧ x.1.seq = y.1.seq then decide (x.2 < y.2) else hasB y.1.deps x.1.origin x.1.seq
theorem opAt_get {x : TX × Nat} (h : x.2 < x.1.ops.length) : opAt x.1 x.2 = x.1.ops[x.2] := opAt_some (List.getElem?_eq_getElem h)
set_option maxRecDepth 100000 in
set_option maxHeartbeats 2000000 in
theorem pop_any (x : TX × Nat) (v : Value) (w : World) (hv : TOV w v x.1.ops) (hi : x.2 < x.1.ops.length) :
    Calls Try.prog 38 #[.agg (pcs x.1 v x.2)] w fun e w' => e = .returned (.agg (opv (opAt x.1 x.2))) ∧ Gr w w' := by
  obtain ⟨t, i⟩ := x
  obtain ⟨W, hW, hg, hb1, hb2⟩ : ∃ W, W = (w.alloc (.cells (pcs t v i) 74)).alloc (.cells #[.int .i64 0, .string ⟨#[]⟩, .string ⟨#[]⟩, .int .i64 0] 41) ∧ Gr w W ∧ W.heap[w.heap.size]? = some (.cells (pcs t v i) 74 (0, 0)) ∧ W.heap[w.heap.size + 1]? = some (.cells #[.int .i64 0, .string ⟨#[]⟩, .string ⟨#[]⟩, .int .i64 0] 41 (0, 0)) := by
    refine ⟨_, rfl, ((Gr.refl w).alloc _).alloc _, ?_, ?_⟩ <;> (simp only [World.alloc, Array.getElem?_push, Array.size_push]; simp)
  have hop : opAt t i = t.ops[i] := opAt_get (x := (t, i)) hi
  have hi : i < t.ops.length := hi
  obtain ⟨A, c, rfl, hnc, -, hat⟩ := hv.gr hg
  obtain ⟨b, off, rfl, c0, c1, c2, c3⟩ := hat i hi
  rw [← hop] at c0 c1 c2 c3
  show Calls _ _ _ _ fun e w' => e = .returned (.agg (opv (opAt t i))) ∧ _
  obtain ⟨o, ho⟩ : ∃ o, o = opAt t i := ⟨_, rfl⟩
  rw [← ho] at c0 c1 c2 c3 ⊢
  obtain ⟨n, hn⟩ : ∃ x, x = t.ops.length := ⟨_, rfl⟩
  rw [← hn] at hb1 hW ⊢
  have hi1 : (i : Int) < (n : Int) := by omega
  have hi0 : (0 : Int) ≤ (i : Int) := by omega
  have q0 : W.cell? ⟨w.heap.size, 11, none⟩ = some (.slice (some ⟨b, off, none⟩) n c) := by rw [cell_of_block hb1]; rfl
  have q1 : W.cell? ⟨w.heap.size, 12, none⟩ = some (.int .i64 (i : Int)) := by rw [cell_of_block hb1]; rfl
  have z0 : W.cell? ⟨w.heap.size + 1, 0, none⟩ = some (.int .i64 0) := by rw [cell_of_block hb2]; rfl
  have z1 : W.cell? ⟨w.heap.size + 1, 1, none⟩ = some (.string ⟨#[]⟩) := by rw [cell_of_block hb2]; rfl
  have z2 : W.cell? ⟨w.heap.size + 1, 2, none⟩ = some (.string ⟨#[]⟩) := by rw [cell_of_block hb2]; rfl
  have z3 : W.cell? ⟨w.heap.size + 1, 3, none⟩ = some (.int .i64 0) := by rw [cell_of_block hb2]; rfl
  have k0 := unfrozen_of_block hb2 0
  have k1 := unfrozen_of_block hb2 1
  have k2 := unfrozen_of_block hb2 2
  have k3 := unfrozen_of_block hb2 3
  have HG := Lib.hid hg
  clear hg hb1 hb2 hop hi hnc hat ho hn
  go_enter Try.func38, Try.ntmps38
  go_upto_region 1 with (fail)
  rw [← hW]
  clear hW
  go_wp2_with fail
  refine bodyPost_ret (v := .agg (opv o)) (by simp [results, Try.results38, go_sem, *]) rfl ⟨rfl, ?_⟩
  show Gr w ((((W.setCell _ _).setCell _ _).setCell _ _).setCell _ _)
  exact (((HG.out.setCell (Nat.le_succ _) _).setCell (Nat.le_succ _) _).setCell (Nat.le_succ _) _).setCell (Nat.le_succ _) _
set_option maxRecDepth 100000 in
set_option maxHeartbeats 4000000 in
theorem seen10_any (x y : TX × Nat) (vx vy : Value) (w : World) :
    Calls Try.prog 63 #[.agg (pcs x.1 vx x.2), .agg (pcs y.1 vy y.2)] w fun e w' => e = .returned (.bool (seenP x y)) ∧ Gr w w' := by
  obtain ⟨W, hW, hg, hb1, hb2⟩ : ∃ W, W = (w.alloc (.cells (pcs x.1 vx x.2) 74)).alloc (.cells (pcs y.1 vy y.2) 74) ∧ Gr w W ∧ W.heap[w.heap.size]? = some (.cells (pcs x.1 vx x.2) 74 (0, 0)) ∧ W.heap[w.heap.size + 1]? = some (.cells (pcs y.1 vy y.2) 74 (0, 0)) := by
    refine ⟨_, rfl, ((Gr.refl w).alloc _).alloc _, ?_, ?_⟩ <;> (simp only [World.alloc, Array.getElem?_push, Array.size_push]; simp)
  obtain ⟨x, i⟩ := x
  obtain ⟨y, j⟩ := y
  simp only at hW hb1 hb2 ⊢
  have HH := Lib.hid (fun w1 => rhas_any y.deps x.origin x.seq w1)
  obtain ⟨xo, hxo⟩ : ∃ a, a = x.origin := ⟨_, rfl⟩
  obtain ⟨xq, hxq⟩ : ∃ a, a = x.seq := ⟨_, rfl⟩
  obtain ⟨yo, hyo⟩ : ∃ a, a = y.origin := ⟨_, rfl⟩
  obtain ⟨yq, hyq⟩ : ∃ a, a = y.seq := ⟨_, rfl⟩
  obtain ⟨r, hr⟩ : ∃ r, r = seenP (x, i) (y, j) := ⟨_, rfl⟩
  have HR : Hid (r = if xo = yo ∧ xq = yq then decide (i < j) else hasB y.deps xo xq) := Lib.hid (by rw [hr, hxo, hyo, hxq, hyq]; rfl)
  rw [← hr]
  rw [← hxo, ← hxq] at HH
  have x0 : W.cell? ⟨w.heap.size, 0, none⟩ = some (.int .i64 xo) := by rw [cell_of_block hb1, hxo]; rfl
  have x1 : W.cell? ⟨w.heap.size, 1, none⟩ = some (.int .u64 (xq : Int)) := by rw [cell_of_block hb1, hxq]; rfl
  have x12 : W.cell? ⟨w.heap.size, 12, none⟩ = some (.int .i64 (i : Int)) := by rw [cell_of_block hb1]; rfl
  have y0 : W.cell? ⟨w.heap.size + 1, 0, none⟩ = some (.int .i64 yo) := by rw [cell_of_block hb2, hyo]; rfl
  have y1 : W.cell? ⟨w.heap.size + 1, 1, none⟩ = some (.int .u64 (yq : Int)) := by rw [cell_of_block hb2, hyq]; rfl
  have y12 : W.cell? ⟨w.heap.size + 1, 12, none⟩ = some (.int .i64 (j : Int)) := by rw [cell_of_block hb2]; rfl
  have d3 : W.cell? ⟨w.heap.size + 1, 3, none⟩ = some (.int .u64 (y.deps 0 : Int)) := by rw [cell_of_block hb2]; rfl
  have d4 : W.cell? ⟨w.heap.size + 1, 4, none⟩ = some (.int .u64 (y.deps 1 : Int)) := by rw [cell_of_block hb2]; rfl
  have d5 : W.cell? ⟨w.heap.size + 1, 5, none⟩ = some (.int .u64 (y.deps 2 : Int)) := by rw [cell_of_block hb2]; rfl
  have d6 : W.cell? ⟨w.heap.size + 1, 6, none⟩ = some (.int .u64 (y.deps 3 : Int)) := by rw [cell_of_block hb2]; rfl
  have d7 : W.cell? ⟨w.heap.size + 1, 7, none⟩ = some (.int .u64 (y.deps 4 : Int)) := by rw [cell_of_block hb2]; rfl
  have d8 : W.cell? ⟨w.heap.size + 1, 8, none⟩ = some (.int .u64 (y.deps 5 : Int)) := by rw [cell_of_block hb2]; rfl
  have d9 : W.cell? ⟨w.heap.size + 1, 9, none⟩ = some (.int .u64 (y.deps 6 : Int)) := by rw [cell_of_block hb2]; rfl
  have d10 : W.cell? ⟨w.heap.size + 1, 10, none⟩ = some (.int .u64 (y.deps 7 : Int)) := by rw [cell_of_block hb2]; rfl
  have HG := Lib.hid hg
  clear hg hb1 hb2 hxo hxq hyo hyq hr
  by_cases ho : xo = yo
  · by_cases hq : xq = yq
    · have HE : Hid (r = decide (i < j)) := Lib.hid (by rw [HR.out, if_pos ⟨ho, hq⟩])
      subst ho hq
      by_cases hij : i < j
      · have hij1 : (i : Int) < (j : Int) := by omega
        have hij2 : decide ((i : Int) < (j : Int)) = true := decide_eq_true hij1
        have HE2 : Hid (r = true) := Lib.hid (by rw [HE.out]; exact decide_eq_true hij)
        clear HR HE
        go_enter Try.func63, Try.ntmps63
        go_upto_region 1 with (fail)
        rw [← hW]
        clear hW
        go_wp2_with fail
        go_ret
        exact ⟨by rw [HE2.out]; simp [hij], HG.out⟩
      · have hij1 : ¬ (i : Int) < (j : Int) := by omega
        have hij2 : decide ((i : Int) < (j : Int)) = false := decide_eq_false hij1
        have HE2 : Hid (r = false) := Lib.hid (by rw [HE.out]; exact decide_eq_false hij)
        clear HR HE
        go_enter Try.func63, Try.ntmps63
        go_upto_region 1 with (fail)
        rw [← hW]
        clear hW
        go_wp2_with fail
        go_ret
        exact ⟨by rw [HE2.out]; simp [hij], HG.out⟩
    · have HE : Hid (hasB y.deps xo xq = r) := Lib.hid (by rw [HR.out, if_neg (fun h => hq h.2)])
      rw [HE.out] at HH
      subst ho
      have hq1 : ¬ ((xq : Int) = (yq : Int)) := by omega
      have hq2 : ((xq : Int) == (yq : Int)) = false := beq_eq_false_iff_ne.2 hq1
      clear HR HE
      go_enter Try.func63, Try.ntmps63
      go_upto_region 1 with (fail)
      rw [← hW]
      clear hW
      go_wp2_with fail
      refine (HH.out _).mono ?_
      rintro e w2 ⟨rfl, g2⟩
      clear x0 x1 x12 y0 y1 y12 d3 d4 d5 d6 d7 d8 d9 d10
      go_wp2_with fail
      go_ret
      exact ⟨rfl, HG.out.trans g2⟩
  · have HE : Hid (hasB y.deps xo xq = r) := Lib.hid (by rw [HR.out, if_neg (fun h => ho h.1)])
    rw [HE.out] at HH
    have ho2 : (xo == yo) = false := beq_eq_false_iff_ne.2 ho
    clear HR HE
    go_enter Try.func63, Try.ntmps63
    go_upto_region 1 with (fail)
    rw [← hW]
    clear hW
    go_wp2_with fail
    refine (HH.out _).mono ?_
    rintro e w2 ⟨rfl, g2⟩
    clear x0 x1 x12 y0 y1 y12 d3 d4 d5 d6 d7 d8 d9 d10
    go_wp2_with fail
    go_ret
    exact ⟨rfl, HG.out.trans g2⟩
end Go.Proofs.Ytaldgjcbbjjceaa
