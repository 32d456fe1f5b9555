/- Walks: a packet taken, the program's and the document's. -/
import Derived.Test.YtfmfeokjnkbpeaaWiI
import Derived.Test.YtfmfeokjnkbpeaaQuiet
namespace Go.Proofs.Ytfmfeokjnkbpeaa.Wi
open Go.RowKit
set_option linter.unusedSimpArgs false

/-- A call's answer: a net whose bag is new memory, a packet, and an error's number. -/
def RetTake (L : List P) (nx : Int) (s : Nat → Int) (p : P) (er : Int) (w : World) (e : Ending) (w' : World) : Prop := ∃ v, e = .returned (.tuple #[.agg (ncells v nx s), .agg (pcells p), .int .i64 er]) ∧ PO w' w.heap.size v L ∧ Gr w w'
def p0 : P := ⟨0, 0, 0, ⟨#[]⟩⟩
/-- A packet lies in block b. -/
abbrev PB (w : World) (b : Nat) (p : P) : Prop :=
  w.cell? ⟨b, 0, none⟩ = some (.int .i64 p.id) ∧ w.cell? ⟨b, 1, none⟩ = some (.int .i64 p.src) ∧ w.cell? ⟨b, 2, none⟩ = some (.int .i64 p.dst) ∧ w.cell? ⟨b, 3, none⟩ = some (.string p.body)
theorem PB.gr {w w' : World} {b : Nat} {p : P} (h : PB w b p) (g : Gr w w') : PB w' b p := ⟨g.cell h.1, g.cell h.2.1, g.cell h.2.2.1, g.cell h.2.2.2⟩
theorem PB.new (w : World) (p : P) : PB (w.alloc (.cells (pcells p) 31)) w.heap.size p := ⟨by simp, by simp, by simp, by simp⟩
abbrev PF (w : World) (b : Nat) : Prop :=
  b < w.heap.size ∧ w.frozen? ⟨b, 0, none⟩ = false ∧ w.frozen? ⟨b, 1, none⟩ = false ∧ w.frozen? ⟨b, 2, none⟩ = false ∧ w.frozen? ⟨b, 3, none⟩ = false
theorem PF.gr {w w' : World} {b : Nat} (h : PF w b) (g : Gr w w') : PF w' b := by
  obtain ⟨hb, h0, h1, h2, h3⟩ := h
  exact ⟨Nat.lt_of_lt_of_le hb g.size, g.frozen hb h0, g.frozen hb h1, g.frozen hb h2, g.frozen hb h3⟩
theorem PF.new (w : World) (p : P) : PF (w.alloc (.cells (pcells p) 31)) w.heap.size := ⟨by simp, by simp, by simp, by simp, by simp⟩
abbrev put4 (w : World) (b : Nat) (c0 c1 c2 c3 : Value) : World := (((w.setCell ⟨b, 0, none⟩ c0).setCell ⟨b, 1, none⟩ c1).setCell ⟨b, 2, none⟩ c2).setCell ⟨b, 3, none⟩ c3
theorem own_put4 {w : World} {B b : Nat} {t : TypeId} {size n : Nat} {v : Value} {xs : List Value} (h : w.ownsRow B t size v n xs) (hb : b < B) (c0 c1 c2 c3 : Value) : (put4 w b c0 c1 c2 c3).ownsRow B t size v n xs := by
  unfold put4
  iterate 4 refine ownsRow_setCell_below ?_ (by exact hb) _
  exact h
theorem below_put4 {w w' : World} {B b : Nat} (h : Below B w w') (hb : B ≤ b) (c0 c1 c2 c3 : Value) : Below B w (put4 w' b c0 c1 c2 c3) := by
  unfold put4
  iterate 4 refine Below.setCell ?_ (by exact hb) _
  exact h
/-- The boxes of a net, of a net and of a packet that are to be answered. -/
theorem boxesNNP (v : Value) (nx : Int) (s : Nat → Int) (w : World) : ∃ W, W = ((w.alloc (.cells (ncells v nx s) 25)).alloc (.cells #[.slice none 0 0, .int .i64 0, .int .i64 0, .int .i64 0, .int .i64 0, .int .i64 0, .int .i64 0, .int .i64 0, .int .i64 0, .int .i64 0] 25)).alloc (.cells #[.int .i64 0, .int .i64 0, .int .i64 0, .string ⟨#[]⟩] 31) ∧
    Gr w W ∧ NB W w.heap.size v nx s ∧ NF W w.heap.size ∧ NB W (w.heap.size + 1) (.slice none 0 0) 0 zs ∧ NF W (w.heap.size + 1) ∧ PB W (w.heap.size + 1 + 1) p0 ∧ PF W (w.heap.size + 1 + 1) ∧ W.heap.size = w.heap.size + 1 + 1 + 1 := by
  obtain ⟨W2, rfl, g, b0, f0, b1, f1, hz⟩ := boxesNN v nx s w
  have h1 := PB.new ((w.alloc (.cells (ncells v nx s) 25)).alloc (.cells #[.slice none 0 0, .int .i64 0, .int .i64 0, .int .i64 0, .int .i64 0, .int .i64 0, .int .i64 0, .int .i64 0, .int .i64 0, .int .i64 0] 25)) p0
  have h2 := PF.new ((w.alloc (.cells (ncells v nx s) 25)).alloc (.cells #[.slice none 0 0, .int .i64 0, .int .i64 0, .int .i64 0, .int .i64 0, .int .i64 0, .int .i64 0, .int .i64 0, .int .i64 0, .int .i64 0] 25)) p0
  rw [hz] at h1 h2
  exact ⟨_, rfl, g.alloc _, b0.gr (gr_box _ _), f0.gr (gr_box _ _), b1.gr (gr_box _ _), f1.gr (gr_box _ _), h1, h2, by simp⟩

theorem far10 (w : World) {b b' : Nat} (hne : b' ≠ b) (i : Nat) (c0 c1 c2 c3 c4 c5 c6 c7 c8 c9 : Value) : (put10 w b c0 c1 c2 c3 c4 c5 c6 c7 c8 c9).cell? ⟨b', i, none⟩ = w.cell? ⟨b', i, none⟩ := by
  have h : ∀ (x : World) (j : Nat) (u : Value), (x.setCell ⟨b, j, none⟩ u).cell? ⟨b', i, none⟩ = x.cell? ⟨b', i, none⟩ := fun x j u => World.cell?_setCell_other _ _ _ _ (fun e => hne (by injection e with e1; exact e1.symm))
  unfold put10
  simp only [h]
theorem far4 (w : World) {b b' : Nat} (hne : b' ≠ b) (i : Nat) (c0 c1 c2 c3 : Value) : (put4 w b c0 c1 c2 c3).cell? ⟨b', i, none⟩ = w.cell? ⟨b', i, none⟩ := by
  have h : ∀ (x : World) (j : Nat) (u : Value), (x.setCell ⟨b, j, none⟩ u).cell? ⟨b', i, none⟩ = x.cell? ⟨b', i, none⟩ := fun x j u => World.cell?_setCell_other _ _ _ _ (fun e => hne (by injection e with e1; exact e1.symm))
  unfold put4
  simp only [h]
theorem fz10 (w : World) (b : Nat) (q : Addr) (c0 c1 c2 c3 c4 c5 c6 c7 c8 c9 : Value) : (put10 w b c0 c1 c2 c3 c4 c5 c6 c7 c8 c9).frozen? q = w.frozen? q := by
  unfold put10
  simp only [World.frozen?_setCell]
theorem fz4 (w : World) (b : Nat) (q : Addr) (c0 c1 c2 c3 : Value) : (put4 w b c0 c1 c2 c3).frozen? q = w.frozen? q := by
  unfold put4
  simp only [World.frozen?_setCell]
theorem hs10 (w : World) (b : Nat) (c0 c1 c2 c3 c4 c5 c6 c7 c8 c9 : Value) : (put10 w b c0 c1 c2 c3 c4 c5 c6 c7 c8 c9).heap.size = w.heap.size := by simp [World.setCell]
theorem hs4 (w : World) (b : Nat) (c0 c1 c2 c3 : Value) : (put4 w b c0 c1 c2 c3).heap.size = w.heap.size := by simp [World.setCell]
theorem NB.far10 {w : World} {b b' : Nat} {v : Value} {nx : Int} {s : Nat → Int} (h : NB w b' v nx s) (hne : b' ≠ b) (c0 c1 c2 c3 c4 c5 c6 c7 c8 c9 : Value) : NB (put10 w b c0 c1 c2 c3 c4 c5 c6 c7 c8 c9) b' v nx s := by
  obtain ⟨h0, h1, h2, h3, h4, h5, h6, h7, h8, h9⟩ := h
  refine ⟨?_, ?_, ?_, ?_, ?_, ?_, ?_, ?_, ?_, ?_⟩ <;> rw [Wi.far10 w hne] <;> assumption
theorem NB.far4 {w : World} {b b' : Nat} {v : Value} {nx : Int} {s : Nat → Int} (h : NB w b' v nx s) (hne : b' ≠ b) (c0 c1 c2 c3 : Value) : NB (put4 w b c0 c1 c2 c3) b' v nx s := by
  obtain ⟨h0, h1, h2, h3, h4, h5, h6, h7, h8, h9⟩ := h
  refine ⟨?_, ?_, ?_, ?_, ?_, ?_, ?_, ?_, ?_, ?_⟩ <;> rw [Wi.far4 w hne] <;> assumption
theorem PB.far10 {w : World} {b b' : Nat} {p : P} (h : PB w b' p) (hne : b' ≠ b) (c0 c1 c2 c3 c4 c5 c6 c7 c8 c9 : Value) : PB (put10 w b c0 c1 c2 c3 c4 c5 c6 c7 c8 c9) b' p := by
  obtain ⟨h0, h1, h2, h3⟩ := h
  refine ⟨?_, ?_, ?_, ?_⟩ <;> rw [Wi.far10 w hne] <;> assumption
theorem PB.far4 {w : World} {b b' : Nat} {p : P} (h : PB w b' p) (hne : b' ≠ b) (c0 c1 c2 c3 : Value) : PB (put4 w b c0 c1 c2 c3) b' p := by
  obtain ⟨h0, h1, h2, h3⟩ := h
  refine ⟨?_, ?_, ?_, ?_⟩ <;> rw [Wi.far4 w hne] <;> assumption
theorem NF.put10 {w : World} {b b' : Nat} (h : NF w b') (c0 c1 c2 c3 c4 c5 c6 c7 c8 c9 : Value) : NF (put10 w b c0 c1 c2 c3 c4 c5 c6 c7 c8 c9) b' := by
  obtain ⟨hb, h0, h1, h2, h3, h4, h5, h6, h7, h8, h9⟩ := h
  refine ⟨by rw [hs10]; exact hb, ?_, ?_, ?_, ?_, ?_, ?_, ?_, ?_, ?_, ?_⟩ <;> rw [fz10] <;> assumption
theorem NF.put4 {w : World} {b b' : Nat} (h : NF w b') (c0 c1 c2 c3 : Value) : NF (put4 w b c0 c1 c2 c3) b' := by
  obtain ⟨hb, h0, h1, h2, h3, h4, h5, h6, h7, h8, h9⟩ := h
  refine ⟨by rw [hs4]; exact hb, ?_, ?_, ?_, ?_, ?_, ?_, ?_, ?_, ?_, ?_⟩ <;> rw [fz4] <;> assumption
theorem PF.put10 {w : World} {b b' : Nat} (h : PF w b') (c0 c1 c2 c3 c4 c5 c6 c7 c8 c9 : Value) : PF (put10 w b c0 c1 c2 c3 c4 c5 c6 c7 c8 c9) b' := by
  obtain ⟨hb, h0, h1, h2, h3⟩ := h
  refine ⟨by rw [hs10]; exact hb, ?_, ?_, ?_, ?_⟩ <;> rw [fz10] <;> assumption
theorem PF.put4 {w : World} {b b' : Nat} (h : PF w b') (c0 c1 c2 c3 : Value) : PF (put4 w b c0 c1 c2 c3) b' := by
  obtain ⟨hb, h0, h1, h2, h3⟩ := h
  refine ⟨by rw [hs4]; exact hb, ?_, ?_, ?_, ?_⟩ <;> rw [fz4] <;> assumption
theorem NB.set {w : World} {b b' : Nat} {v : Value} {nx : Int} {s : Nat → Int} (h : NB w b' v nx s) (hne : b' ≠ b) (i : Nat) (u : Value) : NB (w.setCell ⟨b, i, none⟩ u) b' v nx s := by
  obtain ⟨a0, a1, a2, a3, a4, a5, a6, a7, a8, a9⟩ := h
  exact ⟨setCell_there a0 hne, setCell_there a1 hne, setCell_there a2 hne, setCell_there a3 hne, setCell_there a4 hne, setCell_there a5 hne, setCell_there a6 hne, setCell_there a7 hne, setCell_there a8 hne, setCell_there a9 hne⟩
theorem PB.set {w : World} {b b' : Nat} {p : P} (h : PB w b' p) (hne : b' ≠ b) (i : Nat) (u : Value) : PB (w.setCell ⟨b, i, none⟩ u) b' p := by
  obtain ⟨a0, a1, a2, a3⟩ := h
  exact ⟨setCell_there a0 hne, setCell_there a1 hne, setCell_there a2 hne, setCell_there a3 hne⟩
theorem setAt (w : World) (b i : Nat) (u : Value) {x : Value} (h : w.cell? ⟨b, i, none⟩ = some x) : (w.setCell ⟨b, i, none⟩ u).cell? ⟨b, i, none⟩ = some u := setCell_here h
theorem setFar (w : World) (b i j : Nat) (u : Value) {x : Value} (h : w.cell? ⟨b, j, none⟩ = some x) (hne : i ≠ j) : (w.setCell ⟨b, i, none⟩ u).cell? ⟨b, j, none⟩ = some x := by
  rw [World.cell?_setCell_other _ _ _ _ (fun e => hne (by injection e))]; exact h
theorem NB.put {w : World} {b : Nat} {v0 : Value} {n0 : Int} {s0 : Nat → Int} (h : NB w b v0 n0 s0) (v : Value) (nx : Int) (s : Nat → Int) : NB (put10 w b v (.int .i64 nx) (.int .i64 (s 0)) (.int .i64 (s 1)) (.int .i64 (s 2)) (.int .i64 (s 3)) (.int .i64 (s 4)) (.int .i64 (s 5)) (.int .i64 (s 6)) (.int .i64 (s 7))) b v nx s := by
  obtain ⟨a0, a1, a2, a3, a4, a5, a6, a7, a8, a9⟩ := h
  refine ⟨?_, ?_, ?_, ?_, ?_, ?_, ?_, ?_, ?_, ?_⟩ <;> simp [put10, go_sem, a0, a1, a2, a3, a4, a5, a6, a7, a8, a9]
theorem PB.put {w : World} {b : Nat} {q : P} (h : PB w b q) (p : P) : PB (put4 w b (.int .i64 p.id) (.int .i64 p.src) (.int .i64 p.dst) (.string p.body)) b p := by
  obtain ⟨a0, a1, a2, a3⟩ := h
  refine ⟨?_, ?_, ?_, ?_⟩ <;> simp [put4, go_sem, a0, a1, a2, a3]
/-- What holds while a packet is taken. -/
abbrev TS (w : World) (hb bx : Nat) (v : Value) (nx : Int) (s : Nat → Int) (p : P) (w' : World) : Prop := NB w' hb v nx s ∧ PB w' bx p ∧ NF w' (hb + 1) ∧ PF w' (hb + 1 + 1) ∧ Gr w w'
theorem TS.gr {w : World} {hb bx : Nat} {v : Value} {nx : Int} {s : Nat → Int} {p : P} {w1 w2 : World} (h : TS w hb bx v nx s p w1) (g : Gr w1 w2) : TS w hb bx v nx s p w2 := ⟨NB.gr h.1 g, PB.gr h.2.1 g, NF.gr h.2.2.1 g, PF.gr h.2.2.2.1 g, Gr.trans h.2.2.2.2 g⟩
theorem TS.put10 {w : World} {hb bx : Nat} {v : Value} {nx : Int} {s : Nat → Int} {p : P} {w1 : World} (h : TS w hb bx v nx s p w1) (h1 : hb + 1 + 1 < bx) (h2 : w.heap.size ≤ hb) (c0 c1 c2 c3 c4 c5 c6 c7 c8 c9 : Value) : TS w hb bx v nx s p (put10 w1 (hb + 1) c0 c1 c2 c3 c4 c5 c6 c7 c8 c9) :=
  ⟨NB.far10 h.1 (by omega) _ _ _ _ _ _ _ _ _ _, PB.far10 h.2.1 (by omega) _ _ _ _ _ _ _ _ _ _, NF.put10 h.2.2.1 _ _ _ _ _ _ _ _ _ _, PF.put10 h.2.2.2.1 _ _ _ _ _ _ _ _ _ _, below_put10 h.2.2.2.2 (by omega) _ _ _ _ _ _ _ _ _ _⟩
theorem TS.put4 {w : World} {hb bx : Nat} {v : Value} {nx : Int} {s : Nat → Int} {p : P} {w1 : World} (h : TS w hb bx v nx s p w1) (h1 : hb + 1 + 1 < bx) (h2 : w.heap.size ≤ hb) (c0 c1 c2 c3 : Value) : TS w hb bx v nx s p (put4 w1 (hb + 1 + 1) c0 c1 c2 c3) :=
  ⟨NB.far4 h.1 (by omega) _ _ _ _, PB.far4 h.2.1 (by omega) _ _ _ _, NF.put4 h.2.2.1 _ _ _ _, PF.put4 h.2.2.2.1 _ _ _ _, below_put4 h.2.2.2.2 (by omega) _ _ _ _⟩

set_option maxRecDepth 100000 in
set_option maxHeartbeats 4000000 in
theorem take_gone (v : Value) (L : List P) (nx : Int) (s : Nat → Int) (k : Int) (hk : thereB k L.length = false) (w : World) (hv : PV w v L) :
    Calls Try.prog 10 #[.agg (ncells v nx s), .int .i64 k] w fun e w' => RetTake [] 0 zs p0 40 w e w' := by
  obtain ⟨A, c, hva, hc1, ⟨hc2, -⟩, hPC⟩ := id hv
  unfold maxLen at hc2
  obtain ⟨n, hn⟩ : ∃ n, n = L.length := ⟨_, rfl⟩
  have HN := Lib.hid hn
  rw [← hn] at hva hk hc1
  subst hva
  obtain ⟨W, hW, hG, hB0, hF0, hB1, hF1, hB2, hF2, hz⟩ := boxesNNP (.slice A n c) nx s w
  have HT := Lib.hid (there_any A n c ⟨hc1, hc2⟩ nx s k)
  rw [hk] at HT
  have HB1 := Lib.hid hB1
  have HF1 := Lib.hid hF1
  have HB2 := Lib.hid hB2
  have HF2 := Lib.hid hF2
  have HG := Lib.hid hG
  have HS : Hid (NB W.drew w.heap.size (.slice A n c) nx s ∧ Gr W W.drew) := Lib.hid ⟨hB0.gr (Gr.refl _).drew, (Gr.refl _).drew⟩
  clear hF0 hB0 hB1 hF1 hB2 hF2 hG hv hz hn hk hPC HN
  go_enter Try.func10, Try.ntmps10
  go_upto_region 1 with (fail)
  rw [← hW]
  clear hW
  refine qRegion (fun w' => NB w' w.heap.size (.slice A n c) nx s ∧ Gr W w') (by kernel_rfl) (by kernel_rfl) HS.out ?_
  iterate 2
    refine qTake (by kernel_rfl) ?_
    apply Exists.intro
    refine ⟨fun wq hq => ?_, ?_⟩
    · go_light
      obtain ⟨⟨h0, h1, h2, h3, h4, h5, h6, h7, h8, h9⟩, -⟩ := hq
      go_simp
      try with_reducible rfl
      done
    try simp only [Act.put, List.setIfInBounds_toArray, List.set_cons_zero, List.set_cons_succ]
  refine qCall (by kernel_rfl) ?_
  apply Exists.intro
  refine ⟨?_, ?_⟩
  · apply Exists.intro
    apply Exists.intro
    refine ⟨fun wq => ?_, fun wq hq => ?_⟩
    · go_light
      go_simp
      exact ⟨rfl, rfl⟩
    · exact (HT.out wq).mono fun e w2 h => ⟨h.1, hq.1.gr h.2, hq.2.trans h.2⟩
  try simp only [Act.put, List.setIfInBounds_toArray, List.set_cons_zero, List.set_cons_succ]
  iterate 2
    refine qTake (by kernel_rfl) ?_
    apply Exists.intro
    refine ⟨fun wq hq => ?_, ?_⟩
    · go_light
      obtain ⟨⟨h0, h1, h2, h3, h4, h5, h6, h7, h8, h9⟩, -⟩ := hq
      go_simp
      try with_reducible rfl
      done
    try simp only [Act.put, List.setIfInBounds_toArray, List.set_cons_zero, List.set_cons_succ]
  iterate 8
    refine qSkip (by kernel_rfl) ?_
    try simp only [Act.put, List.setIfInBounds_toArray, List.set_cons_zero, List.set_cons_succ]
  iterate 1
    refine qTake (by kernel_rfl) ?_
    apply Exists.intro
    refine ⟨fun wq hq => ?_, ?_⟩
    · go_light
      obtain ⟨⟨h0, h1, h2, h3, h4, h5, h6, h7, h8, h9⟩, -⟩ := hq
      go_simp
      try with_reducible rfl
      done
    try simp only [Act.put, List.setIfInBounds_toArray, List.set_cons_zero, List.set_cons_succ]
  refine qNil ?_
  intro w3 hC
  obtain ⟨b0, b1, b2, b3, b4, b5, b6, b7, b8, b9⟩ := HB1.out.gr hC.2
  obtain ⟨-, y0, y1, y2, y3, y4, y5, y6, y7, y8, y9⟩ := HF1.out.gr hC.2
  obtain ⟨d0, d1, d2, d3⟩ := HB2.out.gr hC.2
  obtain ⟨-, z0, z1, z2, z3⟩ := HF2.out.gr hC.2
  have HG3 := Lib.hid (HG.out.trans hC.2)
  clear hC
  go_wp2
  refine bodyPost_ret (v := .tuple #[.agg (ncells (.slice none 0 0) 0 zs), .agg (pcells p0), .int .i64 40]) (by simp [results, Try.results10, go_sem, zs, p0, b0, b1, b2, b3, b4, b5, b6, b7, b8, b9, d0, d1, d2, d3]) rfl ⟨_, rfl, PO.nil _ _, ?_⟩
  exact below_put4 (below_put10 HG3.out (Nat.le_succ _) _ _ _ _ _ _ _ _ _ _) (show w.heap.size ≤ w.heap.size + 1 + 1 by omega) _ _ _ _

set_option maxRecDepth 100000 in
set_option maxHeartbeats 4000000 in
theorem take_off (v : Value) (L : List P) (nx : Int) (s : Nat → Int) (k : Nat) (hk : k < L.length) (ht : thr s L[k] = false) (w : World) (hv : PV w v L) :
    Calls Try.prog 10 #[.agg (ncells v nx s), .int .i64 k] w fun e w' => RetTake [] 0 zs p0 40 w e w' := by
  obtain ⟨A, c, hva, hc1, ⟨hc2, -⟩, hPC⟩ := id hv
  unfold maxLen at hc2
  obtain ⟨n, hn⟩ : ∃ n, n = L.length := ⟨_, rfl⟩
  have HN := Lib.hid hn
  obtain ⟨p, hp⟩ : ∃ p, p = L[k] := ⟨_, rfl⟩
  obtain ⟨b, off, rfl, hc⟩ := hPC k hk
  rw [← hp] at hc ht
  rw [← hn] at hva hc1
  have hkn : k < n := by omega
  subst hva
  obtain ⟨W, hW, hG, hB0, hF0, hB1, hF1, hB2, hF2, hz⟩ := boxesNNP (.slice (some ⟨b, off, none⟩) n c) nx s w
  have HT := Lib.hid (there_any (some ⟨b, off, none⟩) n c ⟨hc1, hc2⟩ nx s k)
  rw [there_iff.2 ⟨k, rfl, hkn⟩] at HT
  have HP := Lib.hid (fun w => through_any (.slice (some ⟨b, off, none⟩) n c) nx s p w)
  rw [ht] at HP
  have HB1 := Lib.hid hB1
  have HF1 := Lib.hid hF1
  have HB2 := Lib.hid hB2
  have HF2 := Lib.hid hF2
  have HG := Lib.hid hG
  have HS : Hid (NB W.drew w.heap.size (.slice (some ⟨b, off, none⟩) n c) nx s ∧ PCell W.drew b (off + k * 4) p ∧ Gr W W.drew) := Lib.hid ⟨hB0.gr (Gr.refl _).drew, (hc.gr hG).gr (Gr.refl _).drew, (Gr.refl _).drew⟩
  have hk0 : (0 : Int) ≤ (k : Int) := Int.natCast_nonneg _
  have hk1 : (k : Int) < (n : Int) := by omega
  clear hF0 hB0 hB1 hF1 hB2 hF2 hG hv hz hn hk hkn hPC HN hc ht hp
  go_enter Try.func10, Try.ntmps10
  go_upto_region 1 with (fail)
  rw [← hW]
  clear hW
  refine qRegion (fun w' => NB w' w.heap.size (.slice (some ⟨b, off, none⟩) n c) nx s ∧ PCell w' b (off + k * 4) p ∧ Gr W w') (by kernel_rfl) (by kernel_rfl) HS.out ?_
  iterate 2
    refine qTake (by kernel_rfl) ?_
    apply Exists.intro
    refine ⟨fun wq hq => ?_, ?_⟩
    · go_light
      obtain ⟨⟨h0, h1, h2, h3, h4, h5, h6, h7, h8, h9⟩, ⟨q0, q1, q2, q3⟩, -⟩ := hq
      go_simp
      try with_reducible rfl
      done
    try simp only [Act.put, List.setIfInBounds_toArray, List.set_cons_zero, List.set_cons_succ]
  refine qCall (by kernel_rfl) ?_
  apply Exists.intro
  refine ⟨?_, ?_⟩
  · apply Exists.intro
    apply Exists.intro
    refine ⟨fun wq => ?_, fun wq hq => ?_⟩
    · go_light
      go_simp
      exact ⟨rfl, rfl⟩
    · exact (HT.out wq).mono fun e w2 h => ⟨h.1, hq.1.gr h.2, hq.2.1.gr h.2, hq.2.2.trans h.2⟩
  try simp only [Act.put, List.setIfInBounds_toArray, List.set_cons_zero, List.set_cons_succ]
  iterate 8
    refine qTake (by kernel_rfl) ?_
    apply Exists.intro
    refine ⟨fun wq hq => ?_, ?_⟩
    · go_light
      obtain ⟨⟨h0, h1, h2, h3, h4, h5, h6, h7, h8, h9⟩, ⟨q0, q1, q2, q3⟩, -⟩ := hq
      go_simp
      try with_reducible rfl
      done
    try simp only [Act.put, List.setIfInBounds_toArray, List.set_cons_zero, List.set_cons_succ]
  refine qCall (by kernel_rfl) ?_
  apply Exists.intro
  refine ⟨?_, ?_⟩
  · apply Exists.intro
    apply Exists.intro
    refine ⟨fun wq => ?_, fun wq hq => ?_⟩
    · go_light
      go_simp
      exact ⟨rfl, rfl⟩
    · exact (HP.out wq).mono fun e w2 h => ⟨h.1, hq.1.gr h.2, hq.2.1.gr h.2, hq.2.2.trans h.2⟩
  try simp only [Act.put, List.setIfInBounds_toArray, List.set_cons_zero, List.set_cons_succ]
  iterate 2
    refine qTake (by kernel_rfl) ?_
    apply Exists.intro
    refine ⟨fun wq hq => ?_, ?_⟩
    · go_light
      obtain ⟨⟨h0, h1, h2, h3, h4, h5, h6, h7, h8, h9⟩, ⟨q0, q1, q2, q3⟩, -⟩ := hq
      go_simp
      try with_reducible rfl
      done
    try simp only [Act.put, List.setIfInBounds_toArray, List.set_cons_zero, List.set_cons_succ]
  refine qNil ?_
  intro w3 hC
  obtain ⟨b0, b1, b2, b3, b4, b5, b6, b7, b8, b9⟩ := HB1.out.gr hC.2.2
  obtain ⟨-, y0, y1, y2, y3, y4, y5, y6, y7, y8, y9⟩ := HF1.out.gr hC.2.2
  obtain ⟨d0, d1, d2, d3⟩ := HB2.out.gr hC.2.2
  obtain ⟨-, z0, z1, z2, z3⟩ := HF2.out.gr hC.2.2
  have HG3 := Lib.hid (HG.out.trans hC.2.2)
  clear hC
  go_wp2
  refine bodyPost_ret (v := .tuple #[.agg (ncells (.slice none 0 0) 0 zs), .agg (pcells p0), .int .i64 40]) (by simp [results, Try.results10, go_sem, zs, p0, b0, b1, b2, b3, b4, b5, b6, b7, b8, b9, d0, d1, d2, d3]) rfl ⟨_, rfl, PO.nil _ _, ?_⟩
  exact below_put4 (below_put10 HG3.out (Nat.le_succ _) _ _ _ _ _ _ _ _ _ _) (show w.heap.size ≤ w.heap.size + 1 + 1 by omega) _ _ _ _

set_option maxRecDepth 100000 in
set_option maxHeartbeats 4000000 in
theorem take_yes (v : Value) (L : List P) (nx : Int) (s : Nat → Int) (k : Nat) (hk : k < L.length) (ht : thr s L[k] = true) (w : World) (hv : PV w v L) (hf : Fit L) (hlen : L.length * 40 ≤ 140737488355328) :
    Calls Try.prog 10 #[.agg (ncells v nx s), .int .i64 k] w fun e w' => RetTake (less L k) nx s L[k] 0 w e w' := by
  obtain ⟨A, c, hva, hc1, ⟨hc2, -⟩, hPC⟩ := id hv
  unfold maxLen at hc2
  obtain ⟨n, hn⟩ : ∃ n, n = L.length := ⟨_, rfl⟩
  have HN := Lib.hid hn
  obtain ⟨p, hp⟩ : ∃ p, p = L[k] := ⟨_, rfl⟩
  obtain ⟨b, off, rfl, hc⟩ := hPC k hk
  rw [← hp] at hc ht ⊢
  have hpf : p.body.size ≤ 281474976710656 := by rw [hp]; exact hf _ (List.getElem_mem hk)
  rw [← hn] at hva hc1
  have hkn : k < n := by omega
  subst hva
  obtain ⟨W, hW, hG, hB0, hF0, hB1, hF1, hB2, hF2, hz⟩ := boxesNNP (.slice (some ⟨b, off, none⟩) n c) nx s w
  have HT := Lib.hid (there_any (some ⟨b, off, none⟩) n c ⟨hc1, hc2⟩ nx s k)
  rw [there_iff.2 ⟨k, rfl, hkn⟩] at HT
  have HP := Lib.hid (fun w => through_any (.slice (some ⟨b, off, none⟩) n c) nx s p w)
  rw [ht] at HP
  have HW := Lib.hid (fun W2 (q : Gr w W2) => without_any (.slice (some ⟨b, off, none⟩) n c) L nx s k hk W2 (hv.gr q) hf hlen)
  have HCL := Lib.hid (clone_any p.body hpf)
  have HZ := Lib.hid hz
  have HF0 := Lib.hid hF0
  have HB1 := Lib.hid hB1
  have HF1 := Lib.hid hF1
  have HB2 := Lib.hid hB2
  have HF2 := Lib.hid hF2
  have HG := Lib.hid hG
  have HS : Hid (NB W.drew w.heap.size (.slice (some ⟨b, off, none⟩) n c) nx s ∧ PCell W.drew b (off + k * 4) p ∧ Gr W W.drew) := Lib.hid ⟨hB0.gr (Gr.refl _).drew, (hc.gr hG).gr (Gr.refl _).drew, (Gr.refl _).drew⟩
  have hk0 : (0 : Int) ≤ (k : Int) := Int.natCast_nonneg _
  have hk1 : (k : Int) < (n : Int) := by omega
  clear hF0 hB0 hB1 hF1 hB2 hF2 hG hv hz hn hk hkn hPC HN hc ht hp hpf hlen
  go_enter Try.func10, Try.ntmps10
  go_upto_region 1 with (fail)
  rw [← hW]
  clear hW
  refine qRegion (fun w' => NB w' w.heap.size (.slice (some ⟨b, off, none⟩) n c) nx s ∧ PCell w' b (off + k * 4) p ∧ Gr W w') (by kernel_rfl) (by kernel_rfl) HS.out ?_
  iterate 2
    refine qTake (by kernel_rfl) ?_
    apply Exists.intro
    refine ⟨fun wq hq => ?_, ?_⟩
    · go_light
      obtain ⟨⟨h0, h1, h2, h3, h4, h5, h6, h7, h8, h9⟩, ⟨q0, q1, q2, q3⟩, -⟩ := hq
      go_simp
      try with_reducible rfl
      done
    try simp only [Act.put, List.setIfInBounds_toArray, List.set_cons_zero, List.set_cons_succ]
  refine qCall (by kernel_rfl) ?_
  apply Exists.intro
  refine ⟨?_, ?_⟩
  · apply Exists.intro
    apply Exists.intro
    refine ⟨fun wq => ?_, fun wq hq => ?_⟩
    · go_light
      go_simp
      exact ⟨rfl, rfl⟩
    · exact (HT.out wq).mono fun e w2 h => ⟨h.1, hq.1.gr h.2, hq.2.1.gr h.2, hq.2.2.trans h.2⟩
  try simp only [Act.put, List.setIfInBounds_toArray, List.set_cons_zero, List.set_cons_succ]
  iterate 8
    refine qTake (by kernel_rfl) ?_
    apply Exists.intro
    refine ⟨fun wq hq => ?_, ?_⟩
    · go_light
      obtain ⟨⟨h0, h1, h2, h3, h4, h5, h6, h7, h8, h9⟩, ⟨q0, q1, q2, q3⟩, -⟩ := hq
      go_simp
      try with_reducible rfl
      done
    try simp only [Act.put, List.setIfInBounds_toArray, List.set_cons_zero, List.set_cons_succ]
  refine qCall (by kernel_rfl) ?_
  apply Exists.intro
  refine ⟨?_, ?_⟩
  · apply Exists.intro
    apply Exists.intro
    refine ⟨fun wq => ?_, fun wq hq => ?_⟩
    · go_light
      go_simp
      exact ⟨rfl, rfl⟩
    · exact (HP.out wq).mono fun e w2 h => ⟨h.1, hq.1.gr h.2, hq.2.1.gr h.2, hq.2.2.trans h.2⟩
  try simp only [Act.put, List.setIfInBounds_toArray, List.set_cons_zero, List.set_cons_succ]
  iterate 2
    refine qTake (by kernel_rfl) ?_
    apply Exists.intro
    refine ⟨fun wq hq => ?_, ?_⟩
    · go_light
      obtain ⟨⟨h0, h1, h2, h3, h4, h5, h6, h7, h8, h9⟩, ⟨q0, q1, q2, q3⟩, -⟩ := hq
      go_simp
      try with_reducible rfl
      done
    try simp only [Act.put, List.setIfInBounds_toArray, List.set_cons_zero, List.set_cons_succ]
  refine qNil ?_
  intro w3 hC
  have hz3 : w.heap.size + 1 + 1 + 1 ≤ w3.heap.size := by have := hC.2.2.size; have := HZ.out; omega
  have HC3 := Lib.hid hC
  have h0 := hC.1.1
  obtain ⟨q0, q1, q2, q3⟩ := hC.2.1
  clear hC
  obtain ⟨W4, hW4, G4, hPB, hPF⟩ : ∃ W4, W4 = w3.alloc (.cells (pcells p) 31) ∧ Gr w3 W4 ∧ PB W4 w3.heap.size p ∧ PF W4 w3.heap.size := ⟨_, rfl, gr_box _ _, PB.new _ _, PF.new _ _⟩
  have HPB := Lib.hid hPB
  have HPF := Lib.hid hPF
  have HG4 := Lib.hid G4
  have HH4 := Lib.hid hW4
  clear hPB hPF G4 hW4
  go_wp2_with fail
  rw [← HH4.out]
  clear h0 q0 q1 q2 q3
  refine (HCL.out _).mono ?_
  rintro e w5 ⟨rfl, g5⟩
  obtain ⟨bx, hbx⟩ : ∃ b, b = w3.heap.size := ⟨_, rfl⟩
  rw [← hbx] at HPB HPF hz3 ⊢
  have y3 := (HPF.out.gr g5).2.2.2.2
  have hb5 : bx < w5.heap.size := (HPF.out.gr g5).1
  have HG5 := Lib.hid ((HC3.out.2.2.trans HG4.out).trans g5)
  have HTS : Hid (TS w w.heap.size bx (.slice (some ⟨b, off, none⟩) n c) nx s p (w5.setCell ⟨bx, 3, none⟩ (.string p.body))) := by
    have a1 := HC3.out.1.gr (HG4.out.trans g5)
    have hF1 := HF1.out.gr HG5.out
    have hF2 := HF2.out.gr HG5.out
    obtain ⟨c0, c1, c2, c3⟩ := HPB.out.gr g5
    have ne : w.heap.size ≠ bx := by omega
    refine ⟨NB.set a1 ne _ _, ⟨?_, ?_, ?_, setCell_here c3⟩, ?_, ?_, Below.setCell (HG.out.trans HG5.out) (show w.heap.size ≤ bx by omega) _⟩
    · rw [World.cell?_setCell_other _ _ _ _ (fun e => by injection e with _ e; omega)]; exact c0
    · rw [World.cell?_setCell_other _ _ _ _ (fun e => by injection e with _ e; omega)]; exact c1
    · rw [World.cell?_setCell_other _ _ _ _ (fun e => by injection e with _ e; omega)]; exact c2
    · obtain ⟨x, x0, x1, x2, x3, x4, x5, x6, x7, x8, x9⟩ := hF1
      refine ⟨by simpa [World.setCell] using x, ?_, ?_, ?_, ?_, ?_, ?_, ?_, ?_, ?_, ?_⟩ <;> rw [World.frozen?_setCell] <;> assumption
    · obtain ⟨x, x0, x1, x2, x3⟩ := hF2
      refine ⟨by simpa [World.setCell] using x, ?_, ?_, ?_, ?_⟩ <;> rw [World.frozen?_setCell] <;> assumption
  have c3 := (HPB.out.gr g5).2.2.2
  have HNB1 : Hid (NB (w5.setCell ⟨bx, 3, none⟩ (.string p.body)) (w.heap.size + 1) (.slice none 0 0) 0 zs) := Lib.hid (NB.set (HB1.out.gr HG5.out) (by omega) _ _)
  have HPB2 : Hid (PB (w5.setCell ⟨bx, 3, none⟩ (.string p.body)) (w.heap.size + 1 + 1) p0) := Lib.hid (PB.set (HB2.out.gr HG5.out) (by omega) _ _)
  clear g5 hbx
  go_upto_region 5 with (fail)
  obtain ⟨W6, hW6⟩ : ∃ W6, W6 = w5.setCell ⟨bx, 3, none⟩ (.string p.body) := ⟨_, rfl⟩
  have hz6 : w.heap.size + 1 + 1 + 1 ≤ W6.heap.size := by rw [hW6]; simp [World.setCell]; omega
  rw [← hW6] at HTS HNB1 HPB2 ⊢
  have HZ6 := Lib.hid hz6
  clear hW6 hz6 y3 c3 hb5 HG5 HPB HPF HC3 HS HG4 HH4 HB1 HB2 HF1 HF2
  have hbb : w.heap.size + 1 + 1 < bx := by omega
  refine wp_region_noPanic ?_
  refine wp_region_held_drew (S := fun w' => TS w w.heap.size bx (.slice (some ⟨b, off, none⟩) n c) nx s p w') (by kernel_rfl) (TS.gr HTS.out (Gr.refl _).drew) (fun hHeld => ?_)
  refine hTake (i := 0) rfl (by kernel_rfl) (by kernel_rfl) (by kernel_rfl) (by kernel_rfl) (by assumption) ?_
  apply Exists.intro
  refine ⟨fun _ _ _ h => h, fun wq hq => ?_, ?_⟩
  · go_light
    obtain ⟨⟨h0, h1, h2, h3, h4, h5, h6, h7, h8, h9⟩, ⟨q0, q1, q2, q3⟩, -⟩ := hq
    go_simp
    try with_reducible rfl
    done
  try simp only [Act.put, List.setIfInBounds_toArray, List.set_cons_zero, List.set_cons_succ]
  refine hTake (i := 1) rfl (by kernel_rfl) (by kernel_rfl) (by kernel_rfl) (by kernel_rfl) (by assumption) ?_
  apply Exists.intro
  refine ⟨fun _ _ _ h => h, fun wq hq => ?_, ?_⟩
  · go_light
    obtain ⟨⟨h0, h1, h2, h3, h4, h5, h6, h7, h8, h9⟩, ⟨q0, q1, q2, q3⟩, -⟩ := hq
    go_simp
    try with_reducible rfl
    done
  try simp only [Act.put, List.setIfInBounds_toArray, List.set_cons_zero, List.set_cons_succ]
  refine hTake (i := 3) rfl (by kernel_rfl) (by kernel_rfl) (by kernel_rfl) (by kernel_rfl) (by assumption) ?_
  apply Exists.intro
  refine ⟨fun _ _ _ h => h, fun wq hq => ?_, ?_⟩
  · go_light
    obtain ⟨⟨h0, h1, h2, h3, h4, h5, h6, h7, h8, h9⟩, ⟨q0, q1, q2, q3⟩, -⟩ := hq
    go_simp
    try with_reducible rfl
    done
  try simp only [Act.put, List.setIfInBounds_toArray, List.set_cons_zero, List.set_cons_succ]
  refine wpAnyH_ready (rs := [2]) (by kernel_rfl) (by simp) ?_
  refine AllReadyH.cons rfl (fun K hK => ?_) AllReadyH.nil
  go_simp
  refine (HW.out _ hHeld.2.2.2.2).mono ?_
  rintro e w7 ⟨v7, rfl, hown7, hb⟩
  obtain ⟨A7, c7, hv7, -, -⟩ := hown7.form
  obtain ⟨n7, hn7⟩ : ∃ m, m = (less L k).length := ⟨_, rfl⟩
  rw [← hn7] at hv7
  subst hv7
  clear hn7
  go_wp2_with fail
  refine hK.out _ _ (TS.gr hHeld hb) (fun hHeld7 => ?_)
  clear hK K
  try simp only [Act.put, List.setIfInBounds_toArray, List.set_cons_zero, List.set_cons_succ]
  refine wpAnyH_ready (rs := [4]) (by kernel_rfl) (by simp) ?_
  refine AllReadyH.cons rfl (fun K hK => ?_) AllReadyH.nil
  have g7 := (Gr.refl W6).drew.trans hb
  obtain ⟨b0, b1, b2, b3, b4, b5, b6, b7, b8, b9⟩ := HNB1.out.gr g7
  obtain ⟨-, y0, y1, y2, y3, y4, y5, y6, y7, y8, y9⟩ := hHeld7.2.2.1
  have HH := Lib.hid hHeld
  have HH7 := Lib.hid hHeld7
  have HG7 := Lib.hid g7
  have HO7 := Lib.hid hown7
  clear hHeld hHeld7 g7 hown7 hb
  go_simp
  have hH8 := HH7.out.put10 hbb (Nat.le_refl _) (.slice A7 n7 c7) (.int .i64 nx) (.int .i64 (s 0)) (.int .i64 (s 1)) (.int .i64 (s 2)) (.int .i64 (s 3)) (.int .i64 (s 4)) (.int .i64 (s 5)) (.int .i64 (s 6)) (.int .i64 (s 7))
  refine hK.out _ _ hH8 (fun hx8 => ?_)
  have hHeld8 : TS w w.heap.size bx (.slice (some ⟨b, off, none⟩) n c) nx s p (put10 w7 (w.heap.size + 1) (.slice A7 n7 c7) (.int .i64 nx) (.int .i64 (s 0)) (.int .i64 (s 1)) (.int .i64 (s 2)) (.int .i64 (s 3)) (.int .i64 (s 4)) (.int .i64 (s 5)) (.int .i64 (s 6)) (.int .i64 (s 7))) := hH8
  clear hx8 hK K hH8 b0 b1 b2 b3 b4 b5 b6 b7 b8 b9 y0 y1 y2 y3 y4 y5 y6 y7 y8 y9
  try simp only [Act.put, List.setIfInBounds_toArray, List.set_cons_zero, List.set_cons_succ]
  have HO8 : Hid (PO (put10 w7 (w.heap.size + 1) (.slice A7 n7 c7) (.int .i64 nx) (.int .i64 (s 0)) (.int .i64 (s 1)) (.int .i64 (s 2)) (.int .i64 (s 3)) (.int .i64 (s 4)) (.int .i64 (s 5)) (.int .i64 (s 6)) (.int .i64 (s 7))) (w.heap.size + 1 + 1 + 1) (.slice A7 n7 c7) (less L k)) := Lib.hid (own_put10 (own_le HO7.out HZ6.out) (by omega) _ _ _ _ _ _ _ _ _ _)
  have hr8 : NB (put10 w7 (w.heap.size + 1) (.slice A7 n7 c7) (.int .i64 nx) (.int .i64 (s 0)) (.int .i64 (s 1)) (.int .i64 (s 2)) (.int .i64 (s 3)) (.int .i64 (s 4)) (.int .i64 (s 5)) (.int .i64 (s 6)) (.int .i64 (s 7))) (w.heap.size + 1) (.slice A7 n7 c7) nx s := NB.put (HNB1.out.gr HG7.out) _ _ _
  have hd8 : PB (put10 w7 (w.heap.size + 1) (.slice A7 n7 c7) (.int .i64 nx) (.int .i64 (s 0)) (.int .i64 (s 1)) (.int .i64 (s 2)) (.int .i64 (s 3)) (.int .i64 (s 4)) (.int .i64 (s 5)) (.int .i64 (s 6)) (.int .i64 (s 7))) (w.heap.size + 1 + 1) p0 := (HPB2.out.gr HG7.out).far10 (by omega) _ _ _ _ _ _ _ _ _ _
  obtain ⟨w8, hw8⟩ : ∃ w8, w8 = put10 w7 (w.heap.size + 1) (.slice A7 n7 c7) (.int .i64 nx) (.int .i64 (s 0)) (.int .i64 (s 1)) (.int .i64 (s 2)) (.int .i64 (s 3)) (.int .i64 (s 4)) (.int .i64 (s 5)) (.int .i64 (s 6)) (.int .i64 (s 7)) := ⟨_, rfl⟩
  rw [← hw8] at HO8 hr8 hd8 hHeld8
  have HH8 := Lib.hid hHeld8
  have HR8 := Lib.hid hr8
  have HD9 := Lib.hid (PB.put hd8 p)
  clear HH HH7 HO7 hr8
  unfold put10 at hw8
  rw [← hw8]
  clear hw8
  refine wpAnyH_ready (rs := [5]) (by kernel_rfl) (by simp) ?_
  refine AllReadyH.cons rfl (fun K hK => ?_) AllReadyH.nil
  obtain ⟨d0, d1, d2, d3⟩ := hd8
  obtain ⟨-, z0, z1, z2, z3⟩ := hHeld8.2.2.2.1
  clear hHeld8
  go_simp
  have hH9 := HH8.out.put4 hbb (Nat.le_refl _) (.int .i64 p.id) (.int .i64 p.src) (.int .i64 p.dst) (.string p.body)
  refine hK.out _ _ hH9 (fun hx9 => ?_)
  have HH9 := Lib.hid hH9
  clear hx9 hK K hH9 d0 d1 d2 d3 z0 z1 z2 z3
  try simp only [Act.put, List.setIfInBounds_toArray, List.set_cons_zero, List.set_cons_succ]
  refine wpAnyH_ready (rs := [6]) (by kernel_rfl) (by simp) ?_
  refine AllReadyH.cons rfl (fun K hK => ?_) AllReadyH.nil
  go_simp
  refine hK.out _ _ HH9.out (fun hx9 => ?_)
  clear hx9 hK K
  try simp only [Act.put, List.setIfInBounds_toArray, List.set_cons_zero, List.set_cons_succ]
  refine wpAnyH_done (by kernel_rfl) ?_ _
  refine NoPanic.normal ?_
  obtain ⟨b0, b1, b2, b3, b4, b5, b6, b7, b8, b9⟩ := HR8.out.far4 (b := w.heap.size + 1 + 1) (by omega) (.int .i64 p.id) (.int .i64 p.src) (.int .i64 p.dst) (.string p.body)
  obtain ⟨d0, d1, d2, d3⟩ := HD9.out
  go_wp2
  refine bodyPost_ret (v := .tuple #[.agg (ncells (.slice A7 n7 c7) nx s), .agg (pcells p), .int .i64 0]) (by simp [results, Try.results10, go_sem, b0, b1, b2, b3, b4, b5, b6, b7, b8, b9, d0, d1, d2, d3]) rfl ⟨_, rfl, ?_, ?_⟩
  · exact own_le (own_put4 HO8.out (by omega) _ _ _ _) (by omega)
  · exact below_put4 HH8.out.2.2.2.2 (by omega) _ _ _ _

end Go.Proofs.Ytfmfeokjnkbpeaa.Wi
