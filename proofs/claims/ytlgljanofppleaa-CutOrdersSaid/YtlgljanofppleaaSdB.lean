/- Walks: the order of stands. -/
import Derived.Test.YtlgljanofppleaaSdA
namespace Go.Proofs.Ytlgljanofppleaa
open Go.RowKit Go.Joins Go.Sort Go.Lib
set_option linter.unusedSimpArgs false
set_option linter.unusedVariables false

/-- The head of a transaction lies at this place. -/
def HC (w : World) (b o : Nat) (t : TX) : Prop := w.cell? ⟨b, o, none⟩ = some (.int .i64 t.origin) ∧ w.cell? ⟨b, o + 1, none⟩ = some (.int .u64 (t.seq : Int)) ∧ w.cell? ⟨b, o + 2, none⟩ = some (.int .u64 (t.stamp : Int))
theorem HC.gr {w w' : World} {b o : Nat} {t : TX} (h : HC w b o t) (g : Gr w w') : HC w' b o t := ⟨g.cell h.1, g.cell h.2.1, g.cell h.2.2⟩
theorem XCell.hc {w : World} {b o : Nat} {t : TX} (h : XCell w b o t) : HC w b o t := by
  obtain ⟨v, -, x0, x1, x2, -⟩ := h
  exact ⟨x0, x1, x2⟩
abbrev sbox (d : ST) : Array Value := #[.pointer (some ⟨d.b, d.o, none⟩), .int .i64 (d.m : Int), .int .i64 (d.k : Int)]
/-- What the region reads. -/
structure OC (w0 : World) (A B : Nat) (x y : ST) (w : World) : Prop where
  at' : ∃ q, w = w0.drewN q
  a : w.cell? ⟨A, 0, none⟩ = some (.pointer (some ⟨x.b, x.o, none⟩)) ∧ w.cell? ⟨A, 1, none⟩ = some (.int .i64 (x.m : Int)) ∧ w.cell? ⟨A, 2, none⟩ = some (.int .i64 (x.k : Int))
  b : w.cell? ⟨B, 0, none⟩ = some (.pointer (some ⟨y.b, y.o, none⟩)) ∧ w.cell? ⟨B, 1, none⟩ = some (.int .i64 (y.m : Int)) ∧ w.cell? ⟨B, 2, none⟩ = some (.int .i64 (y.k : Int))
  x : HC w x.b x.o x.t
  y : HC w y.b y.o y.t
theorem OC.drew {w0 : World} {A B : Nat} {x y : ST} (h : OC w0 A B x y w0) : OC w0 A B x y w0.drew := by
  have g : Gr w0 w0.drew := (Gr.refl w0).drew
  exact ⟨⟨1, rfl⟩, ⟨g.cell h.a.1, g.cell h.a.2.1, g.cell h.a.2.2⟩, ⟨g.cell h.b.1, g.cell h.b.2.1, g.cell h.b.2.2⟩, h.x.gr g, h.y.gr g⟩

set_option maxRecDepth 100000 in
set_option maxHeartbeats 4000000 in
theorem inOrder_any (x y : ST) (w : World) (hx : HC w x.b x.o x.t) (hy : HC w y.b y.o y.t) :
    Calls Try.prog 41 #[.agg (scell x).toArray, .agg (scell y).toArray] w fun e w' => e = .returned (.int .i64 (ordC x y)) ∧ ∃ q os, w' = grow (w.drewN q) os := by
  change Calls Try.prog 41 #[.agg (sbox x), .agg (sbox y)] w _
  obtain ⟨W, hW, hg, h1, h2⟩ : ∃ W, W = (w.alloc (.cells (sbox x) 66)).alloc (.cells (sbox y) 66) ∧ Gr w W ∧ W.heap[w.heap.size]? = some (.cells (sbox x) 66 (0, 0)) ∧ W.heap[w.heap.size + 1]? = some (.cells (sbox y) 66 (0, 0)) := by
    refine ⟨_, rfl, ((Gr.refl w).alloc _).alloc _, ?_, ?_⟩ <;> (simp only [World.alloc, Array.getElem?_push, Array.size_push]; simp)
  have HOC : Hid (OC W w.heap.size (w.heap.size + 1) x y W) := Lib.hid ⟨⟨0, rfl⟩, ⟨by rw [cell_of_block h1]; rfl, by rw [cell_of_block h1]; rfl, by rw [cell_of_block h1]; rfl⟩, ⟨by rw [cell_of_block h2]; rfl, by rw [cell_of_block h2]; rfl, by rw [cell_of_block h2]; rfl⟩, hx.gr hg, hy.gr hg⟩
  have HWG : Hid (∃ os, W = grow w os) := Lib.hid ⟨_, by rw [hW, alloc_eq_grow, alloc_eq_grow, grow_grow]⟩
  obtain ⟨c1, hc1⟩ : ∃ z, z = cmpZ x.t.stamp y.t.stamp := ⟨_, rfl⟩
  obtain ⟨c2, hc2⟩ : ∃ z, z = cmpZ x.t.origin y.t.origin := ⟨_, rfl⟩
  obtain ⟨c3, hc3⟩ : ∃ z, z = cmpZ x.t.seq y.t.seq := ⟨_, rfl⟩
  obtain ⟨c4, hc4⟩ : ∃ z, z = cmpZ x.m y.m := ⟨_, rfl⟩
  obtain ⟨c5, hc5⟩ : ∃ z, z = cmpZ x.k y.k := ⟨_, rfl⟩
  have HR : Hid (ordC x y = orL [c1, c2, c3, c4, c5]) := Lib.hid (by rw [hc1, hc2, hc3, hc4, hc5]; rfl)
  have C1 := Lib.hid (fun w1 => cmp_u64 (x.t.stamp : Int) (y.t.stamp : Int) w1)
  have C2 := Lib.hid (fun w1 => cmp_int x.t.origin y.t.origin w1)
  have C3 := Lib.hid (fun w1 => cmp_u64 (x.t.seq : Int) (y.t.seq : Int) w1)
  have C4 := Lib.hid (fun w1 => cmp_int (x.m : Int) (y.m : Int) w1)
  have C5 := Lib.hid (fun w1 => cmp_int (x.k : Int) (y.k : Int) w1)
  rw [← hc1] at C1
  rw [← hc2] at C2
  rw [← hc3] at C3
  rw [← hc4] at C4
  rw [← hc5] at C5
  obtain ⟨r, hr⟩ : ∃ r, r = ordC x y := ⟨_, rfl⟩
  rw [← hr] at HR ⊢
  clear hg h1 h2 hc1 hc2 hc3 hc4 hc5 hr hx hy
  go_enter Try.func41, Try.ntmps41
  go_upto_region 1 with (fail)
  rw [← hW]
  clear hW
  refine qTail 43 (fun w' => OC W w.heap.size (w.heap.size + 1) x y w') (by kernel_rfl) (by kernel_rfl) HOC.out.drew ?_
  simp only [List.take_succ_cons, List.take_zero, List.drop_succ_cons, List.drop_zero]
  iterate 10
    refine qTake (by kernel_rfl) ?_
    apply Exists.intro
    refine ⟨fun wq hq => ?_, ?_⟩
    · go_light
      obtain ⟨-, ⟨a0, a1, a2⟩, ⟨b0, b1, b2⟩, ⟨e0, e1, e2⟩, ⟨f0, f1, f2⟩⟩ := hq
      go_simp
      try with_reducible rfl
      done
    try simp only [Act.put, List.setIfInBounds_toArray, List.set_cons_zero, List.set_cons_succ]
  refine qCall (by kernel_rfl) ?_
  apply Exists.intro
  refine ⟨?_, ?_⟩
  · apply Exists.intro
    apply Exists.intro
    refine ⟨fun wq => ?_, fun wq hq => ?_⟩
    · go_light
      go_simp
      exact ⟨rfl, rfl⟩
    · exact (C1.out wq).mono fun e w'' ⟨he, hw⟩ => ⟨he, by rw [hw]; exact hq⟩
  try simp only [Act.put, List.setIfInBounds_toArray, List.set_cons_zero, List.set_cons_succ]
  iterate 10
    refine qTake (by kernel_rfl) ?_
    apply Exists.intro
    refine ⟨fun wq hq => ?_, ?_⟩
    · go_light
      obtain ⟨-, ⟨a0, a1, a2⟩, ⟨b0, b1, b2⟩, ⟨e0, e1, e2⟩, ⟨f0, f1, f2⟩⟩ := hq
      go_simp
      try with_reducible rfl
      done
    try simp only [Act.put, List.setIfInBounds_toArray, List.set_cons_zero, List.set_cons_succ]
  refine qCall (by kernel_rfl) ?_
  apply Exists.intro
  refine ⟨?_, ?_⟩
  · apply Exists.intro
    apply Exists.intro
    refine ⟨fun wq => ?_, fun wq hq => ?_⟩
    · go_light
      go_simp
      exact ⟨rfl, rfl⟩
    · exact (C2.out wq).mono fun e w'' ⟨he, hw⟩ => ⟨he, by rw [hw]; exact hq⟩
  try simp only [Act.put, List.setIfInBounds_toArray, List.set_cons_zero, List.set_cons_succ]
  iterate 10
    refine qTake (by kernel_rfl) ?_
    apply Exists.intro
    refine ⟨fun wq hq => ?_, ?_⟩
    · go_light
      obtain ⟨-, ⟨a0, a1, a2⟩, ⟨b0, b1, b2⟩, ⟨e0, e1, e2⟩, ⟨f0, f1, f2⟩⟩ := hq
      go_simp
      try with_reducible rfl
      done
    try simp only [Act.put, List.setIfInBounds_toArray, List.set_cons_zero, List.set_cons_succ]
  refine qCall (by kernel_rfl) ?_
  apply Exists.intro
  refine ⟨?_, ?_⟩
  · apply Exists.intro
    apply Exists.intro
    refine ⟨fun wq => ?_, fun wq hq => ?_⟩
    · go_light
      go_simp
      exact ⟨rfl, rfl⟩
    · exact (C3.out wq).mono fun e w'' ⟨he, hw⟩ => ⟨he, by rw [hw]; exact hq⟩
  try simp only [Act.put, List.setIfInBounds_toArray, List.set_cons_zero, List.set_cons_succ]
  iterate 4
    refine qTake (by kernel_rfl) ?_
    apply Exists.intro
    refine ⟨fun wq hq => ?_, ?_⟩
    · go_light
      obtain ⟨-, ⟨a0, a1, a2⟩, ⟨b0, b1, b2⟩, ⟨e0, e1, e2⟩, ⟨f0, f1, f2⟩⟩ := hq
      go_simp
      try with_reducible rfl
      done
    try simp only [Act.put, List.setIfInBounds_toArray, List.set_cons_zero, List.set_cons_succ]
  refine qCall (by kernel_rfl) ?_
  apply Exists.intro
  refine ⟨?_, ?_⟩
  · apply Exists.intro
    apply Exists.intro
    refine ⟨fun wq => ?_, fun wq hq => ?_⟩
    · go_light
      go_simp
      exact ⟨rfl, rfl⟩
    · exact (C4.out wq).mono fun e w'' ⟨he, hw⟩ => ⟨he, by rw [hw]; exact hq⟩
  try simp only [Act.put, List.setIfInBounds_toArray, List.set_cons_zero, List.set_cons_succ]
  iterate 4
    refine qTake (by kernel_rfl) ?_
    apply Exists.intro
    refine ⟨fun wq hq => ?_, ?_⟩
    · go_light
      obtain ⟨-, ⟨a0, a1, a2⟩, ⟨b0, b1, b2⟩, ⟨e0, e1, e2⟩, ⟨f0, f1, f2⟩⟩ := hq
      go_simp
      try with_reducible rfl
      done
    try simp only [Act.put, List.setIfInBounds_toArray, List.set_cons_zero, List.set_cons_succ]
  refine qCall (by kernel_rfl) ?_
  apply Exists.intro
  refine ⟨?_, ?_⟩
  · apply Exists.intro
    apply Exists.intro
    refine ⟨fun wq => ?_, fun wq hq => ?_⟩
    · go_light
      go_simp
      exact ⟨rfl, rfl⟩
    · exact (C5.out wq).mono fun e w'' ⟨he, hw⟩ => ⟨he, by rw [hw]; exact hq⟩
  try simp only [Act.put, List.setIfInBounds_toArray, List.set_cons_zero, List.set_cons_succ]
  refine qNil ?_
  intro w3 hC
  obtain ⟨q, hq⟩ := hC.at'
  have HQ := Lib.hid hq
  clear hC hq
  obtain ⟨w4, hw4⟩ : ∃ z, z = w3.alloc (.cells #[.int .i64 c1, .int .i64 c2, .int .i64 c3, .int .i64 c4, .int .i64 c5] 3) := ⟨_, rfl⟩
  have HOR := Lib.hid (or_any [c1, c2, c3, c4, c5] w3.heap.size w4 (by show 5 ≤ 1000; decide) (fun j hj => by
    have hb : w4.heap[w3.heap.size]? = some (.cells #[.int .i64 c1, .int .i64 c2, .int .i64 c3, .int .i64 c4, .int .i64 c5] 3 (0, 0)) := by rw [hw4]; exact heap_alloc _ _ _
    rw [cell_of_block hb]
    have hj5 : j < 5 := hj
    match j, hj5 with
    | 0, _ => rfl
    | 1, _ => rfl
    | 2, _ => rfl
    | 3, _ => rfl
    | 4, _ => rfl))
  rw [hw4] at HOR
  clear hw4
  go_wp2_with fail
  refine HOR.out.mono ?_
  rintro e w5 ⟨rfl, hw5⟩
  have HW5 := Lib.hid hw5
  clear hw5
  go_wp2_with fail
  go_ret
  refine ⟨by rw [HR.out]; rfl, ?_⟩
  obtain ⟨os, hos⟩ := HWG.out
  refine ⟨q, os.push (.cells #[.int .i64 c1, .int .i64 c2, .int .i64 c3, .int .i64 c4, .int .i64 c5] 3 (0, 0)), ?_⟩
  rw [HW5.out, HQ.out, hos, alloc_eq_grow]
  rw [show (grow w os).drewN q = grow (w.drewN q) os from rfl, grow_grow]
  congr 1
end Go.Proofs.Ytlgljanofppleaa
