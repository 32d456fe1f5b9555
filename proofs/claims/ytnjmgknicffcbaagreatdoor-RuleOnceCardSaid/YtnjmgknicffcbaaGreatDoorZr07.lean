/- Logs as they are read: an array of eight slices of transactions; the arguments of the laws opened. Blocks and rows: what a store or a grown row leaves. It names no function. Walks over package vec: Order, Has, Set. Walks: the program's Size; boxes of eight cells. -/
import Derived.Test.YtnjmgknicffcbaaGreatDoorZr06
import Derived.Test.YtnjmgknicffcbaaGreatDoorZr01
import Derived.Test.YtnjmgknicffcbaaGreatDoorZr05
import Derived.Deep.RegionHeld3
import Derived.Deep.Cut
import Derived.Test.YtnjmgknicffcbaaGreatDoorZr02
import Derived.StillTailTactics
import Derived.Lib.SmallJoins
namespace Go.Proofs.YtnjmgknicffcbaaGreatDoor
open Go.ChangeShapes Go.WideShapes Go.RowKit Go.Deep

/-- A slice's three parts. -/
structure S3 where
  a : Option Addr
  n : Nat
  c : Nat
abbrev S3.v (s : S3) : Value := .slice s.a s.n s.c
abbrev lcells (u : Nat → S3) : Array Value := #[.slice (u 0).a (u 0).n (u 0).c, .slice (u 1).a (u 1).n (u 1).c, .slice (u 2).a (u 2).n (u 2).c, .slice (u 3).a (u 3).n (u 3).c, .slice (u 4).a (u 4).n (u 4).c, .slice (u 5).a (u 5).n (u 5).c, .slice (u 6).a (u 6).n (u 6).c, .slice (u 7).a (u 7).n (u 7).c]
theorem lcells_at (u : Nat → S3) {k : Nat} (hk : k < 8) : (lcells u)[k]? = some (.slice (u k).a (u k).n (u k).c) := by
  match k, hk with
  | 0, _ => rfl
  | 1, _ => rfl
  | 2, _ => rfl
  | 3, _ => rfl
  | 4, _ => rfl
  | 5, _ => rfl
  | 6, _ => rfl
  | 7, _ => rfl
/-- The eight slices read as the logs. -/
def LV (w : World) (u : Nat → S3) (l : LG) : Prop := ∀ i, i < 8 → XV w (.slice (u i).a (u i).n (u i).c) (l i)
theorem LV.len {w : World} {u : Nat → S3} {l : LG} (h : LV w u l) {i : Nat} (hi : i < 8) : (u i).n = (l i).length := by
  obtain ⟨A, c, hv, _⟩ := h i hi
  injection hv
theorem LV.gr {w w' : World} {u : Nat → S3} {l : LG} (h : LV w u l) (g : Gr w w') : LV w' u l := fun i hi => (h i hi).gr g
theorem LV.congr {w : World} {u : Nat → S3} {l l' : LG} (h : LV w u l) (e : ∀ i, i < 8 → l i = l' i) : LV w u l' := fun i hi => by rw [← e i hi]; exact h i hi
/-- A transaction whose vector has no ninth number. -/
def Can (t : TX) : Prop := ∀ k, 8 ≤ k → t.deps k = 0
def can (t : TX) : TX := ⟨t.origin, t.seq, t.stamp, fun k => if k < 8 then t.deps k else 0, t.ops⟩
theorem can_can (t : TX) : Can (can t) := fun k hk => if_neg (by omega)
theorem xcell_can {w : World} {b off : Nat} {t : TX} (h : XCell w b off t) : XCell w b off (can t) := by
  obtain ⟨v, h0, h1⟩ := h
  exact ⟨v, h0, h1⟩
theorem fit_can {t : TX} (h : FitX t) : FitX (can t) := ⟨h.origin, h.seq, h.stamp, fun k hk => by show (if _ then _ else _) < _; rw [if_pos hk]; exact h.deps k hk, h.ops, h.len⟩
theorem xv_can {w : World} {v : Value} {L : List TX} (h : XV w v L) : XV w v (L.map can) := by
  obtain ⟨A, c, hv, h1, h2, h3⟩ := h
  refine ⟨A, c, by rw [List.length_map]; exact hv, by rw [List.length_map]; exact h1, h2, fun j hj => ?_⟩
  rw [List.length_map] at hj
  obtain ⟨b, off, ha, hc⟩ := h3 j hj
  rw [List.getElem_map]
  exact ⟨b, off, ha, xcell_can hc⟩
/-- What logs that were handed in may hold. -/
structure FitL (l : LG) : Prop where
  fit : ∀ i t, i < 8 → t ∈ l i → FitX t
  can : ∀ i t, i < 8 → t ∈ l i → Can t
  len : ∀ i, i < 8 → ((l i).length + 1) * 112 ≤ 140737488355328
theorem cellsTxs : Tryz.prog.cellsOf 23 = 1 := by kernel_rfl
theorem cellsLogs : Tryz.prog.cellsOf 25 = 8 := by kernel_rfl

section
variable {H : Type} {enc : TypeId × Value → H} {W : World} {base : Nat} {v : Value} {d : DataW H} {p : List MemPlace}
set_option maxRecDepth 100000 in
/-- An argument that is logs. -/
theorem open_logs (hval : Value.okWide Tryz.prog W .any base 25 v) (h : DataW.Trod enc Tryz.prog W 0 (fun _ => true) true 25 v d p) (hw : ∀ q ∈ DataW.weights Tryz.prog 25 d, q ≤ reachBytes) :
    ∃ (u : Nat → S3) (l : LG), v = .agg (lcells u) ∧ LV W u l ∧ FitL l := by
  obtain ⟨cs, rfl, hsz, _⟩ : ∃ cs, v = .agg cs ∧ cs.size = Tryz.prog.cellsOf 25 ∧ Row.okWide Tryz.prog W .any base 25 cs := by
    simpa [Value.okWide, Tryz.underlying25] using hval
  rw [cellsLogs] at hsz
  obtain ⟨fuel, hf⟩ := h
  obtain ⟨xs, m, rfl, hx, hl, hxl, hall⟩ := DataW.trod_array Tryz.underlying25 hf
  obtain ⟨l⟩ := cs
  obtain ⟨c0, c1, c2, c3, c4, c5, c6, c7, rfl⟩ := list_of8 l (by simpa using hsz)
  obtain ⟨y0, y1, y2, y3, y4, y5, y6, y7, rfl⟩ := list_of8 xs hxl
  injection hx with hd hpl
  subst hd
  have hw' : ∀ y ∈ [y0, y1, y2, y3, y4, y5, y6, y7], ∀ q ∈ DataW.weights Tryz.prog 23 y.1, q ≤ reachBytes := fun y hy q hq => hw q (by
    simp only [DataW.weights, Tryz.underlying25]
    exact weightsAll_mem (List.mem_map_of_mem hy) hq)
  rw [cellsTxs] at hall
  have one : ∀ (c : Value) (y : DataW H × List MemPlace), y ∈ [y0, y1, y2, y3, y4, y5, y6, y7] → DataW.trod enc Tryz.prog W 0 (fun _ => true) true m 23 [c] = some y → ∃ L : List TX, XV W c L ∧ (∀ t ∈ L, FitX t) ∧ (∀ t ∈ L, Can t) ∧ (L.length + 1) * 112 ≤ 140737488355328 := fun c y hy hc => by
    obtain ⟨L, hv, hfx, hlen⟩ := trod_txs hc (hw' y hy)
    refine ⟨L.map can, xv_can hv, fun t ht => ?_, fun t ht => ?_, by rw [List.length_map]; exact hlen⟩
    · obtain ⟨u, hu, rfl⟩ := List.mem_map.1 ht
      exact fit_can (hfx u hu)
    · obtain ⟨u, hu, rfl⟩ := List.mem_map.1 ht
      exact can_can u
  obtain ⟨L0, a0, f0, g0, n0⟩ := one c0 y0 (by simp) (hall 0 (by decide))
  obtain ⟨A0, k0, rfl⟩ := xv_form a0
  obtain ⟨L1, a1, f1, g1, n1⟩ := one c1 y1 (by simp) (hall 1 (by decide))
  obtain ⟨A1, k1, rfl⟩ := xv_form a1
  obtain ⟨L2, a2, f2, g2, n2⟩ := one c2 y2 (by simp) (hall 2 (by decide))
  obtain ⟨A2, k2, rfl⟩ := xv_form a2
  obtain ⟨L3, a3, f3, g3, n3⟩ := one c3 y3 (by simp) (hall 3 (by decide))
  obtain ⟨A3, k3, rfl⟩ := xv_form a3
  obtain ⟨L4, a4, f4, g4, n4⟩ := one c4 y4 (by simp) (hall 4 (by decide))
  obtain ⟨A4, k4, rfl⟩ := xv_form a4
  obtain ⟨L5, a5, f5, g5, n5⟩ := one c5 y5 (by simp) (hall 5 (by decide))
  obtain ⟨A5, k5, rfl⟩ := xv_form a5
  obtain ⟨L6, a6, f6, g6, n6⟩ := one c6 y6 (by simp) (hall 6 (by decide))
  obtain ⟨A6, k6, rfl⟩ := xv_form a6
  obtain ⟨L7, a7, f7, g7, n7⟩ := one c7 y7 (by simp) (hall 7 (by decide))
  obtain ⟨A7, k7, rfl⟩ := xv_form a7
  refine ⟨fun k => match k with | 0 => ⟨A0, L0.length, k0⟩ | 1 => ⟨A1, L1.length, k1⟩ | 2 => ⟨A2, L2.length, k2⟩ | 3 => ⟨A3, L3.length, k3⟩ | 4 => ⟨A4, L4.length, k4⟩ | 5 => ⟨A5, L5.length, k5⟩ | 6 => ⟨A6, L6.length, k6⟩ | _ => ⟨A7, L7.length, k7⟩, fun k => match k with | 0 => L0 | 1 => L1 | 2 => L2 | 3 => L3 | 4 => L4 | 5 => L5 | 6 => L6 | _ => L7, rfl, fun k hk => ?_, fun k t hk => ?_, fun k t hk => ?_, fun k hk => ?_⟩
  · match k, hk with
    | 0, _ => exact a0
    | 1, _ => exact a1
    | 2, _ => exact a2
    | 3, _ => exact a3
    | 4, _ => exact a4
    | 5, _ => exact a5
    | 6, _ => exact a6
    | 7, _ => exact a7
  · match k, hk with
    | 0, _ => exact f0 t
    | 1, _ => exact f1 t
    | 2, _ => exact f2 t
    | 3, _ => exact f3 t
    | 4, _ => exact f4 t
    | 5, _ => exact f5 t
    | 6, _ => exact f6 t
    | 7, _ => exact f7 t
  · match k, hk with
    | 0, _ => exact g0 t
    | 1, _ => exact g1 t
    | 2, _ => exact g2 t
    | 3, _ => exact g3 t
    | 4, _ => exact g4 t
    | 5, _ => exact g5 t
    | 6, _ => exact g6 t
    | 7, _ => exact g7 t
  · match k, hk with
    | 0, _ => exact n0
    | 1, _ => exact n1
    | 2, _ => exact n2
    | 3, _ => exact n3
    | 4, _ => exact n4
    | 5, _ => exact n5
    | 6, _ => exact n6
    | 7, _ => exact n7
end
set_option maxRecDepth 100000 in
/-- An argument that is a vector. -/
theorem open_vecc {H : Type} {enc : TypeId × Value → H} {W : World} {base B : Nat} {sp : Nat → Bool} {held : Bool} {v : Value} {d : DataW H} {p : List MemPlace}
    (hw : Value.okWide Tryz.prog W .any base 28 v) (h : DataW.Trod enc Tryz.prog W B sp held 28 v d p) : ∃ a : Nat → Nat, v = .agg (vcells a) ∧ ∀ k, k < 8 → a k < 18446744073709551616 := by
  obtain ⟨cs, rfl, hsz, _⟩ : ∃ cs, v = .agg cs ∧ cs.size = Tryz.prog.cellsOf 28 ∧ Row.okWide Tryz.prog W .any base 28 cs := by
    simpa [Value.okWide, Tryz.underlying28] using hw
  rw [cellsTVec] at hsz
  obtain ⟨fuel, hf⟩ := h
  obtain ⟨xs, m, rfl, hx, hl, hxl, hall⟩ := DataW.trod_array Tryz.underlying28 hf
  obtain ⟨l⟩ := cs
  obtain ⟨c0, c1, c2, c3, c4, c5, c6, c7, rfl⟩ := list_of8 l (by simpa using hsz)
  obtain ⟨y0, y1, y2, y3, y4, y5, y6, y7, rfl⟩ := list_of8 xs hxl
  have one : ∀ (c : Value) (y : DataW H × List MemPlace), DataW.trod enc Tryz.prog W B sp held m 26 [c] = some y → ∃ n : Nat, c = .int .u64 (n : Int) ∧ n < 18446744073709551616 := fun c y hy => by
    obtain ⟨x, e, _, w⟩ := DataW.trod_int Tryz.underlying26 hy
    have b := bounds_u64 w
    obtain ⟨n, rfl⟩ := Int.eq_ofNat_of_zero_le b.1
    exact ⟨n, by simpa using e, by omega⟩
  rw [cellsTU64] at hall
  obtain ⟨n0, rfl, b0⟩ := one c0 y0 (hall 0 (by decide))
  obtain ⟨n1, rfl, b1⟩ := one c1 y1 (hall 1 (by decide))
  obtain ⟨n2, rfl, b2⟩ := one c2 y2 (hall 2 (by decide))
  obtain ⟨n3, rfl, b3⟩ := one c3 y3 (hall 3 (by decide))
  obtain ⟨n4, rfl, b4⟩ := one c4 y4 (hall 4 (by decide))
  obtain ⟨n5, rfl, b5⟩ := one c5 y5 (hall 5 (by decide))
  obtain ⟨n6, rfl, b6⟩ := one c6 y6 (hall 6 (by decide))
  obtain ⟨n7, rfl, b7⟩ := one c7 y7 (hall 7 (by decide))
  refine ⟨fun k => match k with | 0 => n0 | 1 => n1 | 2 => n2 | 3 => n3 | 4 => n4 | 5 => n5 | 6 => n6 | _ => n7, rfl, fun k hk => ?_⟩
  match k, hk with
  | 0, _ => exact b0
  | 1, _ => exact b1
  | 2, _ => exact b2
  | 3, _ => exact b3
  | 4, _ => exact b4
  | 5, _ => exact b5
  | 6, _ => exact b6
  | 7, _ => exact b7
end Go.Proofs.YtnjmgknicffcbaaGreatDoor
namespace Go.Proofs.YtnjmgknicffcbaaGreatDoor
open Go.RowKit

/-- What lies at a block that no row of another type owns. -/
theorem kp_obj {r : Option Nat} {w w' : World} (k : Kp r w w') {b : Nat} {o : Obj} (h : w.heap[b]? = some o) (hr : r ≠ some b) : w'.heap[b]? = some o := by
  rw [k.block b (Array.getElem?_eq_some_iff.1 h).1 (fun e => hr e.symm)]
  exact h
theorem gr_obj {w w' : World} (g : Gr w w') {b : Nat} {o : Obj} (h : w.heap[b]? = some o) : w'.heap[b]? = some o := by
  rw [g.block b (Array.getElem?_eq_some_iff.1 h).1]
  exact h
theorem own_ne_obj {w : World} {B size n : Nat} {t t' : TypeId} {v : Value} {xs : List Value} {b : Nat} {cs : Array Value} {fr : Nat × Nat} (h : w.ownsRow B t size v n xs) (ho : w.heap[b]? = some (.cells cs t' fr)) (ht : t ≠ t') : v.ownBlock ≠ some b := by
  intro e
  rcases h.2 with ⟨rfl, _⟩ | ⟨g, cap, cur, rfl, _, hg, _⟩
  · cases e
  · have e1 : g = b := by simpa [Value.ownBlock] using e
    subst e1
    rw [hg] at ho
    injection ho with ho
    injection ho with _ ho
    exact ht ho
theorem obj_cell {w : World} {b i : Nat} {cs : Array Value} {t : TypeId} {fr : Nat × Nat} {v : Value} (h : w.heap[b]? = some (.cells cs t fr)) (hv : cs[i]? = some v) : w.cell? ⟨b, i, none⟩ = some v := by
  unfold World.cell?
  simp only [h]
  exact hv
theorem obj_free {w : World} {b i : Nat} {cs : Array Value} {t : TypeId} (h : w.heap[b]? = some (.cells cs t (0, 0))) : w.frozen? ⟨b, i, none⟩ = false := by
  unfold World.frozen?
  simp only [h]
  simp
theorem set_obj {w : World} {b i : Nat} {cs : Array Value} {t : TypeId} {fr : Nat × Nat} (h : w.heap[b]? = some (.cells cs t fr)) (v : Value) : (w.setCell ⟨b, i, none⟩ v).heap[b]? = some (.cells (cs.setIfInBounds i v) t fr) := by
  have hlt : b < w.heap.size := (Array.getElem?_eq_some_iff.1 h).1
  have he : w.heap[b] = .cells cs t fr := (Array.getElem?_eq_some_iff.1 h).2
  show (w.heap.modify b _)[b]? = _
  rw [Array.getElem?_eq_getElem (by simpa using hlt), Array.getElem_modify, if_pos rfl, he]
  rfl
theorem set_obj_other {w : World} {b b' i : Nat} {o : Obj} (h : w.heap[b']? = some o) (hne : b' ≠ b) (v : Value) : (w.setCell ⟨b, i, none⟩ v).heap[b']? = some o := by
  rw [Below.heap_setCell w ⟨b, i, none⟩ v b' hne]
  exact h
theorem own_set_obj {w : World} {B size n : Nat} {t t' : TypeId} {u : Value} {xs : List Value} {b i : Nat} {cs : Array Value} {fr : Nat × Nat} (h : w.ownsRow B t size u n xs) (ho : w.heap[b]? = some (.cells cs t' fr)) (ht : t ≠ t') (v : Value) : (w.setCell ⟨b, i, none⟩ v).ownsRow B t size u n xs :=
  World.ownsRow.kept h ((Kp.refl (some b) w).set (.inr rfl) i v) (.inr (own_ne_obj h ho ht))
end Go.Proofs.YtnjmgknicffcbaaGreatDoor
namespace Go.Proofs.YtnjmgknicffcbaaGreatDoor
open Go.RowKit Go.Joins

/-- The eight cells of a vector lie in block B. -/
abbrev Lies (w : World) (B : Nat) (a : Nat → Nat) : Prop :=
  w.cell? ⟨B, 0, none⟩ = some (.int .u64 (a 0 : Int)) ∧ w.cell? ⟨B, 1, none⟩ = some (.int .u64 (a 1 : Int)) ∧ w.cell? ⟨B, 2, none⟩ = some (.int .u64 (a 2 : Int)) ∧ w.cell? ⟨B, 3, none⟩ = some (.int .u64 (a 3 : Int)) ∧
  w.cell? ⟨B, 4, none⟩ = some (.int .u64 (a 4 : Int)) ∧ w.cell? ⟨B, 5, none⟩ = some (.int .u64 (a 5 : Int)) ∧ w.cell? ⟨B, 6, none⟩ = some (.int .u64 (a 6 : Int)) ∧ w.cell? ⟨B, 7, none⟩ = some (.int .u64 (a 7 : Int))
theorem Lies.gr {w w' : World} {B : Nat} {a : Nat → Nat} (h : Lies w B a) (g : Gr w w') : Lies w' B a := by
  obtain ⟨h0, h1, h2, h3, h4, h5, h6, h7⟩ := h
  exact ⟨g.cell h0, g.cell h1, g.cell h2, g.cell h3, g.cell h4, g.cell h5, g.cell h6, g.cell h7⟩
theorem vmember_yes (o : Int) (h0 : 0 ≤ o) (h8 : o < 8) (w : World) : Calls Tryz.prog 221 #[.int .i64 o] w fun e w' => e = .returned (.bool true) ∧ w = w' := by
  go_enter Tryz.func221, Tryz.ntmps221
  go_wp2_with fail
  go_ret
  exact ⟨rfl, rfl⟩
theorem vmember_no (o : Int) (h : o < 0 ∨ 8 ≤ o) (w : World) : Calls Tryz.prog 221 #[.int .i64 o] w fun e w' => e = .returned (.bool false) ∧ w = w' := by
  rcases h with h | h
  · have h0 : decide (0 ≤ o) = false := decide_eq_false (by omega)
    go_enter Tryz.func221, Tryz.ntmps221
    go_wp2_with fail
    go_ret
    exact ⟨rfl, rfl⟩
  · have h0 : (0 : Int) ≤ o := by omega
    have h8 : decide (o < 8) = false := decide_eq_false (by omega)
    go_enter Tryz.func221, Tryz.ntmps221
    go_wp2_with fail
    go_ret
    exact ⟨rfl, rfl⟩
/-- Is that number counted? -/
def hasB (a : Nat → Nat) (o : Int) (n : Nat) : Bool := decide (0 ≤ o) && decide (o < 8) && decide (1 ≤ n) && decide (n ≤ a o.toNat)
theorem box1 (a : Nat → Nat) (w : World) : ∃ W, W = w.alloc (.cells (vcells a) 28) ∧ Gr w W ∧ W.heap[w.heap.size]? = some (.cells (vcells a) 28 (0, 0)) := by
  refine ⟨_, rfl, (Gr.refl w).alloc _, ?_⟩
  simp only [World.alloc, Array.getElem?_push]; simp

set_option maxRecDepth 100000 in
theorem has_no (a : Nat → Nat) (o : Int) (n : Nat) (h : o < 0 ∨ 8 ≤ o) (w : World) :
    Calls Tryz.prog 206 #[.agg (vcells a), .int .i64 o, .int .u64 (n : Int)] w fun e w' => e = .returned (.bool (hasB a o n)) ∧ Gr w w' := by
  have hh : hasB a o n = false := by
    rcases h with h | h
    · rw [hasB, decide_eq_false (by omega : ¬ 0 ≤ o)]; rfl
    · rw [hasB, decide_eq_false (by omega : ¬ o < 8), Bool.and_false]; rfl
  have HH := Lib.hid hh
  have HM := Lib.hid (fun w => vmember_no o h w)
  obtain ⟨W, hW, hg, hA⟩ := box1 a w
  clear hh h
  go_enter Tryz.func206, Tryz.ntmps206
  go_wp2_with fail
  rw [← hW]
  clear hW
  refine (HM.out _).mono ?_
  rintro e w1 ⟨rfl, rfl⟩
  go_wp2_with fail
  go_ret
  exact ⟨by rw [HH.out]; rfl, hg⟩
set_option maxRecDepth 100000 in
theorem has_yes (a : Nat → Nat) (k : Nat) (n : Nat) (hk : k < 8) (w : World) :
    Calls Tryz.prog 206 #[.agg (vcells a), .int .i64 (k : Int), .int .u64 (n : Int)] w fun e w' => e = .returned (.bool (hasB a k n)) ∧ Gr w w' := by
  have hh : hasB a k n = (decide (1 ≤ n) && decide (n ≤ a k)) := by
    rw [hasB, decide_eq_true (by omega : (0 : Int) ≤ (k : Int)), decide_eq_true (by omega : (k : Int) < 8)]; rfl
  have HH := Lib.hid hh
  have HM := Lib.hid (fun w => vmember_yes (k : Int) (by omega) (by omega) w)
  obtain ⟨W, hW, hg, hA⟩ := box1 a w
  have hca : W.cell? ⟨w.heap.size, k, none⟩ = some (.int .u64 (a k : Int)) := by
    rw [cell_of_block hA, vcells_at _ hk]
  have hk0 : (0 : Int) ≤ (k : Int) := Int.natCast_nonneg _
  have hk8 : (k : Int) < 8 := by omega
  clear hh hA
  by_cases h1 : 1 ≤ n
  · have e1 : (1 : Int) ≤ (n : Int) := by omega
    have HD := Lib.hid (decide_eq_true h1)
    clear h1
    go_enter Tryz.func206, Tryz.ntmps206
    go_wp2_with fail
    rw [← hW]
    clear hW
    refine (HM.out _).mono ?_
    rintro e w1 ⟨rfl, rfl⟩
    go_wp2_with fail
    go_ret
    exact ⟨by rw [HH.out, HD.out]; simp, hg⟩
  · have e1 : decide ((1 : Int) ≤ (n : Int)) = false := decide_eq_false (by omega)
    have HD := Lib.hid (decide_eq_false h1)
    clear h1
    go_enter Tryz.func206, Tryz.ntmps206
    go_wp2_with fail
    rw [← hW]
    clear hW
    refine (HM.out _).mono ?_
    rintro e w1 ⟨rfl, rfl⟩
    go_wp2_with fail
    go_ret
    exact ⟨by rw [HH.out, HD.out]; rfl, hg⟩
theorem has_any (a : Nat → Nat) (o : Int) (n : Nat) (w : World) :
    Calls Tryz.prog 206 #[.agg (vcells a), .int .i64 o, .int .u64 (n : Int)] w fun e w' => e = .returned (.bool (hasB a o n)) ∧ Gr w w' := by
  by_cases h : 0 ≤ o ∧ o < 8
  · obtain ⟨k, rfl⟩ := Int.eq_ofNat_of_zero_le h.1
    exact has_yes a k n (by omega) w
  · exact has_no a o n (by omega) w

end Go.Proofs.YtnjmgknicffcbaaGreatDoor
namespace Go.Proofs.YtnjmgknicffcbaaGreatDoor
open Go.RowKit Go.Joins

/-- The eight cells of a box of logs, that is not frozen. -/
structure LBox (w : World) (b : Nat) (u : Nat → S3) : Prop where
  box : w.heap[b]? = some (.cells (lcells u) 25 (0, 0))
theorem LBox.gr {w w' : World} {b : Nat} {u : Nat → S3} (h : LBox w b u) (g : Gr w w') : LBox w' b u := ⟨gr_obj g h.box⟩
theorem LBox.at {w : World} {b : Nat} {u : Nat → S3} (h : LBox w b u) {k : Nat} (hk : k < 8) : w.cell? ⟨b, k, none⟩ = some (.slice (u k).a (u k).n (u k).c) := by rw [cell_of_block h.box]; exact lcells_at u hk
theorem LBox.all {w : World} {b : Nat} {u : Nat → S3} (h : LBox w b u) : w.cell? ⟨b, 0, none⟩ = some (.slice (u 0).a (u 0).n (u 0).c) ∧ w.cell? ⟨b, 1, none⟩ = some (.slice (u 1).a (u 1).n (u 1).c) ∧ w.cell? ⟨b, 2, none⟩ = some (.slice (u 2).a (u 2).n (u 2).c) ∧ w.cell? ⟨b, 3, none⟩ = some (.slice (u 3).a (u 3).n (u 3).c) ∧ w.cell? ⟨b, 4, none⟩ = some (.slice (u 4).a (u 4).n (u 4).c) ∧ w.cell? ⟨b, 5, none⟩ = some (.slice (u 5).a (u 5).n (u 5).c) ∧ w.cell? ⟨b, 6, none⟩ = some (.slice (u 6).a (u 6).n (u 6).c) ∧ w.cell? ⟨b, 7, none⟩ = some (.slice (u 7).a (u 7).n (u 7).c) :=
  ⟨h.at (by decide), h.at (by decide), h.at (by decide), h.at (by decide), h.at (by decide), h.at (by decide), h.at (by decide), h.at (by decide)⟩
/-- The eight cells of a box of a vector, that is not frozen. -/
structure VBox (w : World) (b : Nat) (a : Nat → Nat) : Prop where
  box : w.heap[b]? = some (.cells (vcells a) 28 (0, 0))
theorem VBox.gr {w w' : World} {b : Nat} {a : Nat → Nat} (h : VBox w b a) (g : Gr w w') : VBox w' b a := ⟨gr_obj g h.box⟩
theorem VBox.at {w : World} {b : Nat} {a : Nat → Nat} (h : VBox w b a) {k : Nat} (hk : k < 8) : w.cell? ⟨b, k, none⟩ = some (.int .u64 (a k : Int)) := by rw [cell_of_block h.box]; exact vcells_at a hk
theorem VBox.all {w : World} {b : Nat} {a : Nat → Nat} (h : VBox w b a) : w.cell? ⟨b, 0, none⟩ = some (.int .u64 (a 0 : Int)) ∧ w.cell? ⟨b, 1, none⟩ = some (.int .u64 (a 1 : Int)) ∧ w.cell? ⟨b, 2, none⟩ = some (.int .u64 (a 2 : Int)) ∧ w.cell? ⟨b, 3, none⟩ = some (.int .u64 (a 3 : Int)) ∧ w.cell? ⟨b, 4, none⟩ = some (.int .u64 (a 4 : Int)) ∧ w.cell? ⟨b, 5, none⟩ = some (.int .u64 (a 5 : Int)) ∧ w.cell? ⟨b, 6, none⟩ = some (.int .u64 (a 6 : Int)) ∧ w.cell? ⟨b, 7, none⟩ = some (.int .u64 (a 7 : Int)) :=
  ⟨h.at (by decide), h.at (by decide), h.at (by decide), h.at (by decide), h.at (by decide), h.at (by decide), h.at (by decide), h.at (by decide)⟩
theorem VBox.fz {w : World} {b : Nat} {a : Nat → Nat} (h : VBox w b a) : w.frozen? ⟨b, 0, none⟩ = false ∧ w.frozen? ⟨b, 1, none⟩ = false ∧ w.frozen? ⟨b, 2, none⟩ = false ∧ w.frozen? ⟨b, 3, none⟩ = false ∧ w.frozen? ⟨b, 4, none⟩ = false ∧ w.frozen? ⟨b, 5, none⟩ = false ∧ w.frozen? ⟨b, 6, none⟩ = false ∧ w.frozen? ⟨b, 7, none⟩ = false :=
  ⟨unfrozen_of_block h.box 0, unfrozen_of_block h.box 1, unfrozen_of_block h.box 2, unfrozen_of_block h.box 3, unfrozen_of_block h.box 4, unfrozen_of_block h.box 5, unfrozen_of_block h.box 6, unfrozen_of_block h.box 7⟩
theorem VBox.zero {w : World} {b : Nat} (h : VBox w b (fun _ => 0)) : w.cell? ⟨b, 0, none⟩ = some (.int .u64 0) ∧ w.cell? ⟨b, 1, none⟩ = some (.int .u64 0) ∧ w.cell? ⟨b, 2, none⟩ = some (.int .u64 0) ∧ w.cell? ⟨b, 3, none⟩ = some (.int .u64 0) ∧ w.cell? ⟨b, 4, none⟩ = some (.int .u64 0) ∧ w.cell? ⟨b, 5, none⟩ = some (.int .u64 0) ∧ w.cell? ⟨b, 6, none⟩ = some (.int .u64 0) ∧ w.cell? ⟨b, 7, none⟩ = some (.int .u64 0) := h.all
theorem VBox.set {w : World} {b : Nat} {a : Nat → Nat} (h : VBox w b a) {k : Nat} (hk : k < 8) (v : Nat) : VBox (w.setCell ⟨b, k, none⟩ (.int .u64 (v : Int))) b (upd a k v) := ⟨by rw [block_setCell h.box, vcells_upd _ hk]⟩
theorem VBox.far {w : World} {b : Nat} {a : Nat → Nat} (h : VBox w b a) {p : Addr} (hp : p.block ≠ b) (v : Value) : VBox (w.setCell p v) b a := ⟨by rw [Go.Deep.blk_setCell_other _ _ _ _ (Ne.symm hp)]; exact h.box⟩
theorem LBox.far {w : World} {b : Nat} {u : Nat → S3} (h : LBox w b u) {p : Addr} (hp : p.block ≠ b) (v : Value) : LBox (w.setCell p v) b u := ⟨by rw [Go.Deep.blk_setCell_other _ _ _ _ (Ne.symm hp)]; exact h.box⟩
abbrev V0 : Array Value := #[.int .u64 0, .int .u64 0, .int .u64 0, .int .u64 0, .int .u64 0, .int .u64 0, .int .u64 0, .int .u64 0]
theorem heap_alloc (w : World) (c : Array Value) (t : TypeId) : (w.alloc (.cells c t)).heap[w.heap.size]? = some (.cells c t (0, 0)) := by simp only [World.alloc, Array.getElem?_push]; simp

theorem run_index_logs (u : Nat → S3) {k : Nat} (hk : k < 8) (w : World) : (Instr.index 25 (.agg (lcells u)) (.int .i64 (k : Int))).run Tryz.prog w = .ok (.slice (u k).a (u k).n (u k).c) w := by
  match k, hk with
  | 0, _ => show _ = _; kernel_rfl
  | 1, _ => show _ = _; kernel_rfl
  | 2, _ => show _ = _; kernel_rfl
  | 3, _ => show _ = _; kernel_rfl
  | 4, _ => show _ = _; kernel_rfl
  | 5, _ => show _ = _; kernel_rfl
  | 6, _ => show _ = _; kernel_rfl
  | 7, _ => show _ = _; kernel_rfl
/-- What Size has in memory: the box of the logs, the answer's, its own. -/
theorem boxesSz (u : Nat → S3) (w : World) : ∃ W, W = ((w.alloc (.cells (lcells u) 25)).alloc (.cells V0 28)).alloc (.cells V0 28) ∧ Gr w W ∧ W.heap.size = w.heap.size + 3 ∧
    LBox W w.heap.size u ∧ VBox W (w.heap.size + 1) (fun _ => 0) ∧ VBox W (w.heap.size + 2) (fun _ => 0) := by
  refine ⟨_, rfl, (((Gr.refl w).alloc _).alloc _).alloc _, by simp, ⟨?_⟩, ⟨?_⟩, ⟨?_⟩⟩
  all_goals (simp only [World.alloc, Array.getElem?_push, Array.size_push]; simp)
  all_goals omega
def szTo (l : LG) (k : Nat) : Nat → Nat := fun i => if i < k then (l i).length else 0
theorem szTo_next (l : LG) (k : Nat) : upd (szTo l k) k (l k).length = szTo l (k + 1) := by
  funext i
  simp only [upd, szTo]
  by_cases h : i = k
  · subst h; simp
  · rw [if_neg h]
    by_cases h2 : i < k
    · rw [if_pos h2, if_pos (by omega)]
    · rw [if_neg h2, if_neg (by omega)]
theorem u64_len {n : Nat} (h : n ≤ 9223372036854775807) : IntKind.u64.wrap (n : Int) = (n : Int) := by simp [IntKind.wrap, IntKind.bits, IntKind.signed]; omega
theorem LV.le {w : World} {u : Nat → S3} {l : LG} (h : LV w u l) {i : Nat} (hi : i < 8) : (l i).length ≤ 9223372036854775807 := by
  obtain ⟨A, c, hv, h1, ⟨h2, _⟩, _⟩ := h i hi
  unfold maxLen at h2
  omega

set_option maxRecDepth 100000 in
set_option maxHeartbeats 2000000 in
theorem size_any (u : Nat → S3) (l : LG) (w : World) (h : LV w u l) :
    Calls Tryz.prog 78 #[.agg (lcells u)] w fun e w' => e = .returned (.agg (vcells (sizeV l))) ∧ Gr w w' := by
  obtain ⟨W, hW, hg, hsz, hL, hR, hV⟩ := boxesSz u w
  have HL := Lib.hid hL
  have HR := Lib.hid hR
  have HV := Lib.hid hV
  have HG := Lib.hid hg
  have HS := Lib.hid hsz
  have HN := Lib.hid (fun k (hk : k < 8) => h.len hk)
  have HLE := Lib.hid (fun k (hk : k < 8) => h.le hk)
  obtain ⟨l0, l1, l2, l3, l4, l5, l6, l7⟩ := hL.all
  clear hL hR hV hg hsz h
  go_enter Tryz.func78, Tryz.ntmps78
  go_upto_region 2 with (fail)
  rw [← hW]
  clear hW
  go_wp2_with fail
  go_loopw [7] (fun i wr => ∃ k : Nat, k ≤ 8 ∧ i = .int .i64 k ∧ VBox wr (w.heap.size + 1 + 1) (szTo l k) ∧ VBox wr (w.heap.size + 1) (fun _ => 0) ∧ Gr w wr) (fun i _ => 8 - (intOf i).toNat)
  case atStart => exact ⟨0, by decide, rfl, HV.out, HR.out, HG.out⟩
  case round =>
    clear l0 l1 l2 l3 l4 l5 l6 l7
    obtain ⟨k, hk, rfl, hV, hR, hgr⟩ := hrel
    by_cases hlt : k < 8
    · have hk0 : (0 : Int) ≤ (k : Int) := Int.natCast_nonneg _
      have hk8 : (k : Int) < 8 := by omega
      have hc := hV.at hlt
      have hfz : wr.frozen? ⟨w.heap.size + 1 + 1, k, none⟩ = false := unfrozen_of_block hV.box k
      have hw := u64_len (HLE.out k hlt)
      have hn := HN.out k hlt
      have hix := fun W => run_index_logs u hlt W
      have HV2 := Lib.hid hV
      have HR2 := Lib.hid hR
      have HG2 := Lib.hid hgr
      clear hV hR hgr
      go_wp2_with fail
      go_roundw
      case measure => simp [intOf]; omega
      case rel =>
        refine ⟨k + 1, by omega, by go_num, ?_, HR2.out.far (by simp) _, Gr.setCell HG2.out (by simp; omega) _⟩
        rw [← szTo_next]
        exact HV2.out.set hlt _
    · obtain rfl : k = 8 := by omega
      obtain ⟨s0, s1, s2, s3, s4, s5, s6, s7⟩ := hV.all
      obtain ⟨r0, r1, r2, r3, r4, r5, r6, r7⟩ := hR.zero
      obtain ⟨f0, f1, f2, f3, f4, f5, f6, f7⟩ := hR.fz
      have HG2 := Lib.hid hgr
      clear hV hR hgr
      go_wp2_with fail
      exact bodyPost_ret (v := .agg (vcells (szTo l 8))) (by simp [results, Tryz.results78, go_sem, *]) rfl ⟨rfl, by as_aux_lemma => (iterate 8 (with_reducible refine Gr.setCell ?_ (Nat.le_succ _) _)); exact HG2.out⟩
end Go.Proofs.YtnjmgknicffcbaaGreatDoor
