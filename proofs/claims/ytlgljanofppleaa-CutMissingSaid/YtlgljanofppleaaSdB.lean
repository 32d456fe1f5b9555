/- Walks: the order of stands. -/
import Derived.Test.YtlgljanofppleaaSdA
import Derived.Test.YtlgljanofppleaaCutC
namespace Go.Proofs.Ytlgljanofppleaa
open Go.RowKit Go.Joins Go.Sort Go.Lib
set_option linter.unusedSimpArgs false
set_option linter.unusedVariables false

/-- The head of a transaction lies at this place. -/
def HC (w : World) (b o : Nat) (t : TX) : Prop := w.cell? ⟨b, o, none⟩ = some (.int .i64 t.origin) ∧ w.cell? ⟨b, o + 1, none⟩ = some (.int .u64 (t.seq : Int)) ∧ w.cell? ⟨b, o + 2, none⟩ = some (.int .u64 (t.stamp : Int))
theorem HC.gr {w w' : World} {b o : Nat} {t : TX} (h : HC w b o t) (g : Gr w w') : HC w' b o t := ⟨g.cell h.1, g.cell h.2.1, g.cell h.2.2⟩
theorem XCell.hc {w : World} {b o : Nat} {t : TX} (h : XCell w b o t) : HC w b o t := by
  obtain ⟨v, -, x0, x1, x2, -⟩ := h
  exact ⟨x0, x1, x2⟩
abbrev sbox (d : ST) : Array Value := #[.pointer (some ⟨d.b, d.o, none⟩), .int .i64 (d.m : Int), .int .i64 (d.k : Int)]
/-- What the region reads. -/
structure OC (w0 : World) (A B : Nat) (x y : ST) (w : World) : Prop where
  at' : ∃ q, w = w0.drewN q
  a : w.cell? ⟨A, 0, none⟩ = some (.pointer (some ⟨x.b, x.o, none⟩)) ∧ w.cell? ⟨A, 1, none⟩ = some (.int .i64 (x.m : Int)) ∧ w.cell? ⟨A, 2, none⟩ = some (.int .i64 (x.k : Int))
  b : w.cell? ⟨B, 0, none⟩ = some (.pointer (some ⟨y.b, y.o, none⟩)) ∧ w.cell? ⟨B, 1, none⟩ = some (.int .i64 (y.m : Int)) ∧ w.cell? ⟨B, 2, none⟩ = some (.int .i64 (y.k : Int))
  x : HC w x.b x.o x.t
  y : HC w y.b y.o y.t
theorem OC.drew {w0 : World} {A B : Nat} {x y : ST} (h : OC w0 A B x y w0) : OC w0 A B x y w0.drew := by
  have g : Gr w0 w0.drew := (Gr.refl w0).drew
  exact ⟨⟨1, rfl⟩, ⟨g.cell h.a.1, g.cell h.a.2.1, g.cell h.a.2.2⟩, ⟨g.cell h.b.1, g.cell h.b.2.1, g.cell h.b.2.2⟩, h.x.gr g, h.y.gr g⟩

set_option maxRecDepth 100000 in
set_option maxHeartbeats 4000000 in
theorem inOrder_any (x y : ST) (w : World) (hx : HC w x.b x.o x.t) (hy : HC w y.b y.o y.t) :
    Calls Try.prog 41 #[.agg (scell x).toArray, .agg (scell y).toArray] w fun e w' => e = .returned (.int .i64 (ordC x y)) ∧ ∃ q os, w' = grow (w.drewN q) os := by
  change Calls Try.prog 41 #[.agg (sbox x), .agg (sbox y)] w _
  obtain ⟨W, hW, hg, h1, h2⟩ : ∃ W, W = (w.alloc (.cells (sbox x) 66)).alloc (.cells (sbox y) 66) ∧ Gr w W ∧ W.heap[w.heap.size]? = some (.cells (sbox x) 66 (0, 0)) ∧ W.heap[w.heap.size + 1]? = some (.cells (sbox y) 66 (0, 0)) := by
    refine ⟨_, rfl, ((Gr.refl w).alloc _).alloc _, ?_, ?_⟩ <;> (simp only [World.alloc, Array.getElem?_push, Array.size_push]; simp)
  have HOC : Hid (OC W w.heap.size (w.heap.size + 1) x y W) := Lib.hid ⟨⟨0, rfl⟩, ⟨by rw [cell_of_block h1]; rfl, by rw [cell_of_block h1]; rfl, by rw [cell_of_block h1]; rfl⟩, ⟨by rw [cell_of_block h2]; rfl, by rw [cell_of_block h2]; rfl, by rw [cell_of_block h2]; rfl⟩, hx.gr hg, hy.gr hg⟩
  have HWG : Hid (∃ os, W = grow w os) := Lib.hid ⟨_, by rw [hW, alloc_eq_grow, alloc_eq_grow, grow_grow]⟩
  obtain ⟨c1, hc1⟩ : ∃ z, z = cmpZ x.t.stamp y.t.stamp := ⟨_, rfl⟩
  obtain ⟨c2, hc2⟩ : ∃ z, z = cmpZ x.t.origin y.t.origin := ⟨_, rfl⟩
  obtain ⟨c3, hc3⟩ : ∃ z, z = cmpZ x.t.seq y.t.seq := ⟨_, rfl⟩
  obtain ⟨c4, hc4⟩ : ∃ z, z = cmpZ x.m y.m := ⟨_, rfl⟩
  obtain ⟨c5, hc5⟩ : ∃ z, z = cmpZ x.k y.k := ⟨_, rfl⟩
  have HR : Hid (ordC x y = orL [c1, c2, c3, c4, c5]) := Lib.hid (by rw [hc1, hc2, hc3, hc4, hc5]; rfl)
  have C1 := Lib.hid (fun w1 => cmp_u64 (x.t.stamp : Int) (y.t.stamp : Int) w1)
  have C2 := Lib.hid (fun w1 => cmp_int x.t.origin y.t.origin w1)
  have C3 := Lib.hid (fun w1 => cmp_u64 (x.t.seq : Int) (y.t.seq : Int) w1)
  have C4 := Lib.hid (fun w1 => cmp_int (x.m : Int) (y.m : Int) w1)
  have C5 := Lib.hid (fun w1 => cmp_int (x.k : Int) (y.k : Int) w1)
  rw [← hc1] at C1
  rw [← hc2] at C2
  rw [← hc3] at C3
  rw [← hc4] at C4
  rw [← hc5] at C5
  obtain ⟨r, hr⟩ : ∃ r, r = ordC x y := ⟨_, rfl⟩
  rw [← hr] at HR ⊢
  clear hg h1 h2 hc1 hc2 hc3 hc4 hc5 hr hx hy
  go_enter Try.func41, Try.ntmps41
  go_upto_region 1 with (fail)
  rw [← hW]
  clear hW
  refine qTail 43 (fun w' => OC W w.heap.size (w.heap.size + 1) x y w') (by kernel_rfl) (by kernel_rfl) HOC.out.drew ?_
  simp only [List.take_succ_cons, List.take_zero, List.drop_succ_cons, List.drop_zero]
  iterate 10
    refine qTake (by kernel_rfl) ?_
    apply Exists.intro
    refine ⟨fun wq hq => ?_, ?_⟩
    · go_light
      obtain ⟨-, ⟨a0, a1, a2⟩, ⟨b0, b1, b2⟩, ⟨e0, e1, e2⟩, ⟨f0, f1, f2⟩⟩ := hq
      go_simp
      try with_reducible rfl
      done
    try simp only [Act.put, List.setIfInBounds_toArray, List.set_cons_zero, List.set_cons_succ]
  refine qCall (by kernel_rfl) ?_
  apply Exists.intro
  refine ⟨?_, ?_⟩
  · apply Exists.intro
    apply Exists.intro
    refine ⟨fun wq => ?_, fun wq hq => ?_⟩
    · go_light
      go_simp
      exact ⟨rfl, rfl⟩
    · exact (C1.out wq).mono fun e w'' ⟨he, hw⟩ => ⟨he, by rw [hw]; exact hq⟩
  try simp only [Act.put, List.setIfInBounds_toArray, List.set_cons_zero, List.set_cons_succ]
  iterate 10
    refine qTake (by kernel_rfl) ?_
    apply Exists.intro
    refine ⟨fun wq hq => ?_, ?_⟩
    · go_light
      obtain ⟨-, ⟨a0, a1, a2⟩, ⟨b0, b1, b2⟩, ⟨e0, e1, e2⟩, ⟨f0, f1, f2⟩⟩ := hq
      go_simp
      try with_reducible rfl
      done
    try simp only [Act.put, List.setIfInBounds_toArray, List.set_cons_zero, List.set_cons_succ]
  refine qCall (by kernel_rfl) ?_
  apply Exists.intro
  refine ⟨?_, ?_⟩
  · apply Exists.intro
    apply Exists.intro
    refine ⟨fun wq => ?_, fun wq hq => ?_⟩
    · go_light
      go_simp
      exact ⟨rfl, rfl⟩
    · exact (C2.out wq).mono fun e w'' ⟨he, hw⟩ => ⟨he, by rw [hw]; exact hq⟩
  try simp only [Act.put, List.setIfInBounds_toArray, List.set_cons_zero, List.set_cons_succ]
  iterate 10
    refine qTake (by kernel_rfl) ?_
    apply Exists.intro
    refine ⟨fun wq hq => ?_, ?_⟩
    · go_light
      obtain ⟨-, ⟨a0, a1, a2⟩, ⟨b0, b1, b2⟩, ⟨e0, e1, e2⟩, ⟨f0, f1, f2⟩⟩ := hq
      go_simp
      try with_reducible rfl
      done
    try simp only [Act.put, List.setIfInBounds_toArray, List.set_cons_zero, List.set_cons_succ]
  refine qCall (by kernel_rfl) ?_
  apply Exists.intro
  refine ⟨?_, ?_⟩
  · apply Exists.intro
    apply Exists.intro
    refine ⟨fun wq => ?_, fun wq hq => ?_⟩
    · go_light
      go_simp
      exact ⟨rfl, rfl⟩
    · exact (C3.out wq).mono fun e w'' ⟨he, hw⟩ => ⟨he, by rw [hw]; exact hq⟩
  try simp only [Act.put, List.setIfInBounds_toArray, List.set_cons_zero, List.set_cons_succ]
  iterate 4
    refine qTake (by kernel_rfl) ?_
    apply Exists.intro
    refine ⟨fun wq hq => ?_, ?_⟩
    · go_light
      obtain ⟨-, ⟨a0, a1, a2⟩, ⟨b0, b1, b2⟩, ⟨e0, e1, e2⟩, ⟨f0, f1, f2⟩⟩ := hq
      go_simp
      try with_reducible rfl
      done
    try simp only [Act.put, List.setIfInBounds_toArray, List.set_cons_zero, List.set_cons_succ]
  refine qCall (by kernel_rfl) ?_
  apply Exists.intro
  refine ⟨?_, ?_⟩
  · apply Exists.intro
    apply Exists.intro
    refine ⟨fun wq => ?_, fun wq hq => ?_⟩
    · go_light
      go_simp
      exact ⟨rfl, rfl⟩
    · exact (C4.out wq).mono fun e w'' ⟨he, hw⟩ => ⟨he, by rw [hw]; exact hq⟩
  try simp only [Act.put, List.setIfInBounds_toArray, List.set_cons_zero, List.set_cons_succ]
  iterate 4
    refine qTake (by kernel_rfl) ?_
    apply Exists.intro
    refine ⟨fun wq hq => ?_, ?_⟩
    · go_light
      obtain ⟨-, ⟨a0, a1, a2⟩, ⟨b0, b1, b2⟩, ⟨e0, e1, e2⟩, ⟨f0, f1, f2⟩⟩ := hq
      go_simp
      try with_reducible rfl
      done
    try simp only [Act.put, List.setIfInBounds_toArray, List.set_cons_zero, List.set_cons_succ]
  refine qCall (by kernel_rfl) ?_
  apply Exists.intro
  refine ⟨?_, ?_⟩
  · apply Exists.intro
    apply Exists.intro
    refine ⟨fun wq => ?_, fun wq hq => ?_⟩
    · go_light
      go_simp
      exact ⟨rfl, rfl⟩
    · exact (C5.out wq).mono fun e w'' ⟨he, hw⟩ => ⟨he, by rw [hw]; exact hq⟩
  try simp only [Act.put, List.setIfInBounds_toArray, List.set_cons_zero, List.set_cons_succ]
  refine qNil ?_
  intro w3 hC
  obtain ⟨q, hq⟩ := hC.at'
  have HQ := Lib.hid hq
  clear hC hq
  obtain ⟨w4, hw4⟩ : ∃ z, z = w3.alloc (.cells #[.int .i64 c1, .int .i64 c2, .int .i64 c3, .int .i64 c4, .int .i64 c5] 3) := ⟨_, rfl⟩
  have HOR := Lib.hid (or_any [c1, c2, c3, c4, c5] w3.heap.size w4 (by show 5 ≤ 1000; decide) (fun j hj => by
    have hb : w4.heap[w3.heap.size]? = some (.cells #[.int .i64 c1, .int .i64 c2, .int .i64 c3, .int .i64 c4, .int .i64 c5] 3 (0, 0)) := by rw [hw4]; exact heap_alloc _ _ _
    rw [cell_of_block hb]
    have hj5 : j < 5 := hj
    match j, hj5 with
    | 0, _ => rfl
    | 1, _ => rfl
    | 2, _ => rfl
    | 3, _ => rfl
    | 4, _ => rfl))
  rw [hw4] at HOR
  clear hw4
  go_wp2_with fail
  refine HOR.out.mono ?_
  rintro e w5 ⟨rfl, hw5⟩
  have HW5 := Lib.hid hw5
  clear hw5
  go_wp2_with fail
  go_ret
  refine ⟨by rw [HR.out]; rfl, ?_⟩
  obtain ⟨os, hos⟩ := HWG.out
  refine ⟨q, os.push (.cells #[.int .i64 c1, .int .i64 c2, .int .i64 c3, .int .i64 c4, .int .i64 c5] 3 (0, 0)), ?_⟩
  rw [HW5.out, HQ.out, hos, alloc_eq_grow]
  rw [show (grow w os).drewN q = grow (w.drewN q) os from rfl, grow_grow]
  congr 1
end Go.Proofs.Ytlgljanofppleaa
/-! Walks: the stands of a cut. -/
namespace Go.Proofs.Ytlgljanofppleaa
open Go.RowKit Go.Joins
set_option linter.unusedSimpArgs false
set_option linter.unusedVariables false

def SXs (w : World) (L : List ST) : Prop := ∀ d ∈ L, XCell w d.b d.o d.t
theorem SXs.gr {w w' : World} {L : List ST} (h : SXs w L) (g : Gr w w') : SXs w' L := fun d hd => (h d hd).gr g
def ssh (L : List ST) : List (TX × Nat × Nat) := L.map fun d => (d.t, d.m, d.k)
def sLog (l : LG) (i : Nat) : Nat → List (TX × Nat × Nat)
  | 0 => []
  | d + 1 => sLog l i d ++ (match (l i)[d]? with | some t => [(t, i, d)] | none => [])
def sAll (l : LG) (v : Nat → Nat) : Nat → List (TX × Nat × Nat)
  | 0 => []
  | i + 1 => sAll l v i ++ sLog l i (v i)
theorem sLog_at {l : LG} {i d : Nat} {t : TX} (h : (l i)[d]? = some t) : sLog l i (d + 1) = sLog l i d ++ [(t, i, d)] := by
  show sLog l i d ++ _ = _
  rw [h]
theorem sLog_len (l : LG) (i : Nat) : ∀ d, (sLog l i d).length ≤ d
  | 0 => Nat.le_refl _
  | d + 1 => by
    have := sLog_len l i d
    unfold sLog
    rw [List.length_append]
    split <;> simp <;> omega
theorem sAll_len (l : LG) (v : Nat → Nat) (hv : ∀ i, i < 8 → v i ≤ 1024) : ∀ i, i ≤ 8 → (sAll l v i).length ≤ i * 1024
  | 0, _ => Nat.le_refl _
  | i + 1, hi => by
    have h1 := sAll_len l v hv i (by omega)
    have h2 := sLog_len l i (v i)
    have h3 := hv i (by omega)
    unfold sAll
    rw [List.length_append]
    omega
/-- What the rounds of stands leave. -/
structure SdR (w W : World) (L : List (TX × Nat × Nat)) (s : Value) (D : List ST) (wr : World) : Prop where
  own : SDO wr W.heap.size s D
  sh : ssh D = L
  xs : SXs w D
  lt : ∀ d ∈ D, d.b < w.heap.size
  gr : Gr W wr
theorem SdR.next {w W : World} {L : List (TX × Nat × Nat)} {s : Value} {D : List ST} {wr w' : World} (h : SdR w W L s D wr) (g : Gr wr w') : SdR w W L s D w' := ⟨h.own.gr g, h.sh, h.xs, h.lt, h.gr.trans g⟩
theorem slice_sd {w : World} {B : Nat} {s : Value} {D : List ST} (h : SDO w B s D) : ∃ A c, s = .slice A D.length c := sdv_form h.dv
theorem mt_size (l : LG) (v : Nat → Nat) (i : Nat) : mt v (sizeV l) i = min (v i) (l i).length := rfl
theorem XCell.lt {w : World} {b o : Nat} {t : TX} (h : XCell w b o t) : b < w.heap.size := by
  obtain ⟨v, -, x0, -⟩ := h
  by_cases e : b < w.heap.size
  · exact e
  · have hn : w.heap[b]? = none := by simp; omega
    unfold World.cell? at x0
    rw [hn] at x0
    simp at x0

set_option maxRecDepth 100000 in
set_option maxHeartbeats 4000000 in
theorem stands_any (u : Nat → S3) (l : LG) (v : Nat → Nat) (w : World) (h : LV w u l) (hlen : ∀ i, i < 8 → (l i).length ≤ 1024) :
    Calls Try.prog 39 #[.agg (lcells u), .agg (vcells v)] w fun e w' => ∃ s D, e = .returned s ∧ SdR w w (sAll l (mt v (sizeV l)) 8) s D w' := by
  obtain ⟨W, hW, hg, hsz, hL, hV⟩ := boxesLV u v w
  have HV := Lib.hid hV
  have HG := Lib.hid hg
  have HX := Lib.hid (h.gr hg)
  have HX0 := Lib.hid h
  obtain ⟨v0, hv0⟩ : ∃ x, x = mt v (sizeV l) := ⟨_, rfl⟩
  have HM0 := Lib.hid (fun i => show v0 i = min (v i) (l i).length by rw [hv0]; rfl)
  have HVL := Lib.hid (fun i (hi : i < 8) => show v0 i ≤ 1024 by have := hlen i hi; rw [HM0.out]; omega)
  have HDA := Lib.hid (fun i (hi : i ≤ 8) => sAll_len l v0 HVL.out i hi)
  have HDL := Lib.hid (fun i d => sLog_len l i d)
  rw [← hv0]
  obtain ⟨l0, l1, l2, l3, l4, l5, l6, l7⟩ := hL.all
  clear hL hV hg hsz h hlen hv0
  go_enter Try.func39, Try.ntmps39
  go_upto_region 1 with (fail)
  rw [← hW]
  clear hW
  go_wp2_with fail
  clear l0 l1 l2 l3 l4 l5 l6 l7
  go_loopw [5, 10] (fun s i wr => ∃ k : Nat, k ≤ 8 ∧ i = .int .i64 k ∧ Hid (∃ D, SdR w W (sAll l v0 k) s D wr)) (fun _ i _ => 8 - (intOf i).toNat)
  case atStart => exact ⟨0, by decide, rfl, Lib.hid ⟨[], ⟨SDO.nil _ _, rfl, fun _ h => (by cases h), fun _ h => (by cases h), Gr.refl _⟩⟩⟩
  case round =>
    obtain ⟨k, hk, rfl, hst⟩ := hrel
    rename World => wo
    by_cases hlt : k < 8
    · have hk0 : (0 : Int) ≤ (k : Int) := Int.natCast_nonneg _
      have hk8 : (k : Int) < 8 := by omega
      have hix := fun W => run_index_logs u hlt W
      obtain ⟨D0, hd0⟩ := hst.out
      have hc := (HV.out.gr hd0.gr).at hlt
      obtain ⟨Ak, ck, hxv, hnc, hcm, hcell⟩ := HX.out k hlt
      injection hxv with e1 e2 e3
      obtain ⟨A, hA⟩ : ∃ A, A = (u k).a := ⟨_, rfl⟩
      obtain ⟨n, hn⟩ : ∃ n, n = (u k).n := ⟨_, rfl⟩
      obtain ⟨c, hcc⟩ : ∃ c, c = (u k).c := ⟨_, rfl⟩
      obtain ⟨x, hx⟩ : ∃ x, x = v k := ⟨_, rfl⟩
      obtain ⟨m, hm⟩ : ∃ m, m = v0 k := ⟨_, rfl⟩
      rw [← hA, ← hn, ← hcc] at hix
      rw [← hx] at hc
      have hnl : n = (l k).length := by rw [hn, e2]
      have hmx : m = min x n := by rw [hm, hx, hnl]; exact HM0.out k
      have hnle : n ≤ 9223372036854775807 := by rw [hnl]; exact HX.out.le hlt
      have hw := u64_len hnle
      have hmc : m ≤ c := by rw [hcc, e3]; omega
      have hsl := fun W => slice_txs A (n := n) (k := m) (c := c) hmc W
      have HA := Lib.hid hA
      have HN := Lib.hid hnl
      have HM := Lib.hid hm
      have HML := Lib.hid (show m ≤ n by omega)
      have hmi : min (x : Int) (n : Int) = (m : Int) := by omega
      have HD0 := Lib.hid hd0
      clear hA hn hcc hm hnl hmc e1 e2 e3 hnc hcm hcell hd0 hst hx hmx hnle
      go_upto_region 6 with (fail)
      clear hix hsl hw hmi
      go_wp2_with fail
      go_loopw [5, 24] (fun s i wr => ∃ d : Nat, d ≤ m ∧ i = .int .i64 d ∧ Hid (∃ D, SdR w W (sAll l v0 k ++ sLog l k d) s D wr)) (fun _ i _ => m - (intOf i).toNat)
      case atStart => exact ⟨0, Nat.zero_le _, rfl, Lib.hid ⟨D0, ⟨HD0.out.own, by rw [HD0.out.sh]; exact (List.append_nil _).symm, HD0.out.xs, HD0.out.lt, HD0.out.gr⟩⟩⟩
      case round =>
        obtain ⟨d, hd, rfl, hst⟩ := hrel
        rename World => wi
        by_cases hdm : d < m
        · have hdl : d < (l k).length := by have := HML.out; have := HN.out; omega
          have hd0 : (0 : Int) ≤ (d : Int) := Int.natCast_nonneg _
          have hdn : (d : Int) < (n : Int) := by have := HN.out; omega
          have hdm1 : (d : Int) < (m : Int) := by omega
          have hmb : m ≤ 1024 := by rw [HM.out]; exact HVL.out k hlt
          obtain ⟨D1, hd1⟩ := hst.out
          obtain ⟨b, off, ha, hxc⟩ := HX0.out.cell hlt hdl
          rw [← HA.out] at ha
          subst ha
          obtain ⟨t, ht⟩ : ∃ t, t = (l k)[d] := ⟨_, rfl⟩
          rw [← ht] at hxc
          have HT := Lib.hid (show (l k)[d]? = some t by rw [ht]; exact List.getElem?_eq_getElem hdl)
          obtain ⟨A2, c2, hs2⟩ := slice_sd hd1.own
          subst hs2
          have hlen2 : D1.length ≤ 8192 + 1024 := by
            have e1 : D1.length = (ssh D1).length := (List.length_map _).symm
            rw [e1, hd1.sh, List.length_append]
            have := HDA.out k (by omega)
            have := HDL.out k d
            omega
          obtain ⟨n2, hn2⟩ : ∃ n, n = D1.length := ⟨_, rfl⟩
          have hln : (n2 + 1) * 24 ≤ 140737488355328 := by omega
          have HN2 := Lib.hid hn2
          have HD1 := Lib.hid hd1
          have HXC := Lib.hid hxc
          have HDO : Hid (SDO (wi.alloc (.cells #[.pointer (some ⟨b, off + d * 12, none⟩), .int .i64 (k : Int), .int .i64 (d : Int)] 66)) W.heap.size (.slice A2 n2 c2) D1) := Lib.hid (by rw [hn2]; exact hd1.own.gr (gr_box _ _))
          rw [← HN2.out]
          clear ht hlen2 hn2 hd1 hxc hst
          go_wp2_with (at_builtin; refine wpList_push_sd (w0 := W) rfl (.tmp 27) (.tmp 34) rfl (.slice A2 n2 c2) (.slice (some ⟨wi.heap.size, 0, none⟩) 1 1) D1 [⟨b, off + d * 12, t, k, d⟩] n2 1 HN2.out rfl rfl HDO.out rfl (sdv_one wi ⟨b, off + d * 12, t, k, d⟩ _ rfl) hln (HD1.out.gr.alloc _) ?_)
          intro A9 c9 w9 hown9 hg9
          have HS : Hid (∃ D, SdR w W (sAll l v0 k ++ sLog l k (d + 1)) (.slice A9 (n2 + 1) c9) D w9) := Lib.hid ⟨D1 ++ [⟨b, off + d * 12, t, k, d⟩], ⟨hown9, by rw [sLog_at HT.out, ← List.append_assoc, ← HD1.out.sh]; unfold ssh; rw [List.map_append]; rfl, fun x hx => by
            rcases List.mem_append.1 hx with hx | hx
            · exact HD1.out.xs x hx
            · simp only [List.mem_singleton] at hx
              subst hx
              exact HXC.out, fun x hx => by
            rcases List.mem_append.1 hx with hx | hx
            · exact HD1.out.lt x hx
            · simp only [List.mem_singleton] at hx
              subst hx
              exact HXC.out.lt, hg9⟩⟩
          clear hown9 hg9
          go_wp2_with fail
          go_roundw
          case measure => simp [intOf]; omega
          case rel => exact ⟨d + 1, by omega, by go_num, HS⟩
        · obtain rfl : d = m := by omega
          obtain ⟨D2, hd2⟩ := hst.out
          have HS : Hid (∃ D, SdR w W (sAll l v0 (k + 1)) u5 D wi) := Lib.hid ⟨D2, ⟨hd2.own, by rw [hd2.sh, HM.out]; rfl, hd2.xs, hd2.lt, hd2.gr⟩⟩
          clear hd2 hst
          go_wp2_with fail
          go_roundw
          case measure => simp [intOf]; omega
          case rel => exact ⟨k + 1, by omega, by go_num, HS⟩
    · obtain rfl : k = 8 := by omega
      obtain ⟨D2, hd2⟩ := hst.out
      have HS : Hid (∃ D, SdR w w (sAll l v0 8) u5 D wo) := Lib.hid ⟨D2, ⟨hd2.own.le HG.out.size, hd2.sh, hd2.xs, hd2.lt, HG.out.trans hd2.gr⟩⟩
      clear hd2 hst
      go_wp2_with fail
      go_ret
      exact ⟨_, _, rfl, HS.out.choose_spec⟩
end Go.Proofs.Ytlgljanofppleaa
