/- Texts VecC, CutA, CutB, joined. -/
import Derived.Test.YtjpiemgpbakfaaaG07
import Derived.Deep.RegionHeld3
import Derived.Deep.Cut
import Derived.Test.YtjpiemgpbakfaaaG09
import Derived.Test.YtjpiemgpbakfaaaG03
import Derived.StillTailTactics
import Derived.Lib.SmallJoins
/- Walks over package vec: Order, Has, Set. -/
namespace Go.Proofs.Ytjpiemgpbakfaaa
open Go.RowKit Go.Joins

/-- The eight cells of a vector lie in block B. -/
abbrev Lies (w : World) (B : Nat) (a : Nat → Nat) : Prop :=
  w.cell? ⟨B, 0, none⟩ = some (.int .u64 (a 0 : Int)) ∧ w.cell? ⟨B, 1, none⟩ = some (.int .u64 (a 1 : Int)) ∧ w.cell? ⟨B, 2, none⟩ = some (.int .u64 (a 2 : Int)) ∧ w.cell? ⟨B, 3, none⟩ = some (.int .u64 (a 3 : Int)) ∧
  w.cell? ⟨B, 4, none⟩ = some (.int .u64 (a 4 : Int)) ∧ w.cell? ⟨B, 5, none⟩ = some (.int .u64 (a 5 : Int)) ∧ w.cell? ⟨B, 6, none⟩ = some (.int .u64 (a 6 : Int)) ∧ w.cell? ⟨B, 7, none⟩ = some (.int .u64 (a 7 : Int))
theorem Lies.gr {w w' : World} {B : Nat} {a : Nat → Nat} (h : Lies w B a) (g : Gr w w') : Lies w' B a := by
  obtain ⟨h0, h1, h2, h3, h4, h5, h6, h7⟩ := h
  exact ⟨g.cell h0, g.cell h1, g.cell h2, g.cell h3, g.cell h4, g.cell h5, g.cell h6, g.cell h7⟩
theorem lies_of {w : World} {B : Nat} {a : Nat → Nat} (h : ∀ k, k < 8 → w.cell? ⟨B, k, none⟩ = some (.int .u64 (a k : Int))) : Lies w B a :=
  ⟨h 0 (by decide), h 1 (by decide), h 2 (by decide), h 3 (by decide), h 4 (by decide), h 5 (by decide), h 6 (by decide), h 7 (by decide)⟩

theorem keep2 {w w1 w2 : World} {A B : Nat} {a b : Nat → Nat} (h : Lies w1 A a ∧ Lies w1 B b ∧ Gr w w1) (g : Gr w1 w2) : Lies w2 A a ∧ Lies w2 B b ∧ Gr w w2 := ⟨h.1.gr g, h.2.1.gr g, h.2.2.trans g⟩
/-- -1 below, 0 the same, 1 above, 2 neither. -/
def ordI (a b : Nat → Nat) : Int := if leqB a b = true ∧ leqB b a = true then 0 else if leqB a b = true then -1 else if leqB b a = true then 1 else 2

/-- Is that number counted? -/
def hasB (a : Nat → Nat) (o : Int) (n : Nat) : Bool := decide (0 ≤ o) && decide (o < 8) && decide (1 ≤ n) && decide (n ≤ a o.toNat)
theorem box1 (a : Nat → Nat) (w : World) : ∃ W, W = w.alloc (.cells (vcells a) 30) ∧ Gr w W ∧ W.heap[w.heap.size]? = some (.cells (vcells a) 30 (0, 0)) := by
  refine ⟨_, rfl, (Gr.refl w).alloc _, ?_⟩
  simp only [World.alloc, Array.getElem?_push]; simp

theorem box1z (a : Nat → Nat) (w : World) : ∃ W, W = (w.alloc (.cells (vcells a) 30)).alloc (.cells #[.int .u64 0, .int .u64 0, .int .u64 0, .int .u64 0, .int .u64 0, .int .u64 0, .int .u64 0, .int .u64 0] 30) ∧ Gr w W ∧
    W.heap[w.heap.size]? = some (.cells (vcells a) 30 (0, 0)) ∧ W.heap[w.heap.size + 1]? = some (.cells (vcells (fun _ => 0)) 30 (0, 0)) := by
  refine ⟨_, rfl, (Gr.refl w |>.alloc _ |>.alloc _), ?_, ?_⟩
  all_goals (simp only [World.alloc, Array.getElem?_push, Array.size_push]; simp)
/-- What the end of a call that hands a vector back out of its memory wants. -/
abbrev ToFill (W : World) (B : Nat) : Prop :=
  (W.cell? ⟨B, 0, none⟩ = some (.int .u64 0) ∧ W.cell? ⟨B, 1, none⟩ = some (.int .u64 0) ∧ W.cell? ⟨B, 2, none⟩ = some (.int .u64 0) ∧ W.cell? ⟨B, 3, none⟩ = some (.int .u64 0) ∧
   W.cell? ⟨B, 4, none⟩ = some (.int .u64 0) ∧ W.cell? ⟨B, 5, none⟩ = some (.int .u64 0) ∧ W.cell? ⟨B, 6, none⟩ = some (.int .u64 0) ∧ W.cell? ⟨B, 7, none⟩ = some (.int .u64 0)) ∧
  B < W.heap.size ∧ ∀ i, W.frozen? ⟨B, i, none⟩ = false
theorem toFill_of {W : World} {B : Nat} (hC : W.heap[B]? = some (.cells (vcells (fun _ => 0)) 30 (0, 0))) : ToFill W B := by
  refine ⟨⟨?_, ?_, ?_, ?_, ?_, ?_, ?_, ?_⟩, (Array.getElem?_eq_some_iff.1 hC).1, fun i => unfrozen_of_block hC i⟩ <;> (rw [cell_of_block hC]; rfl)
theorem lies_block {W : World} {B : Nat} {a : Nat → Nat} (hC : W.heap[B]? = some (.cells (vcells a) 30 (0, 0))) : Lies W B a :=
  lies_of fun _ hk => by rw [cell_of_block hC, vcells_at _ hk]

end Go.Proofs.Ytjpiemgpbakfaaa
/- Walks: the program's Size; boxes of eight cells. -/
namespace Go.Proofs.Ytjpiemgpbakfaaa
open Go.RowKit Go.Joins

/-- The eight cells of a box of logs, that is not frozen. -/
structure LBox (w : World) (b : Nat) (u : Nat → S3) : Prop where
  box : w.heap[b]? = some (.cells (lcells u) 24 (0, 0))
theorem LBox.gr {w w' : World} {b : Nat} {u : Nat → S3} (h : LBox w b u) (g : Gr w w') : LBox w' b u := ⟨gr_obj g h.box⟩
theorem LBox.at {w : World} {b : Nat} {u : Nat → S3} (h : LBox w b u) {k : Nat} (hk : k < 8) : w.cell? ⟨b, k, none⟩ = some (.slice (u k).a (u k).n (u k).c) := by rw [cell_of_block h.box]; exact lcells_at u hk
theorem LBox.all {w : World} {b : Nat} {u : Nat → S3} (h : LBox w b u) : w.cell? ⟨b, 0, none⟩ = some (.slice (u 0).a (u 0).n (u 0).c) ∧ w.cell? ⟨b, 1, none⟩ = some (.slice (u 1).a (u 1).n (u 1).c) ∧ w.cell? ⟨b, 2, none⟩ = some (.slice (u 2).a (u 2).n (u 2).c) ∧ w.cell? ⟨b, 3, none⟩ = some (.slice (u 3).a (u 3).n (u 3).c) ∧ w.cell? ⟨b, 4, none⟩ = some (.slice (u 4).a (u 4).n (u 4).c) ∧ w.cell? ⟨b, 5, none⟩ = some (.slice (u 5).a (u 5).n (u 5).c) ∧ w.cell? ⟨b, 6, none⟩ = some (.slice (u 6).a (u 6).n (u 6).c) ∧ w.cell? ⟨b, 7, none⟩ = some (.slice (u 7).a (u 7).n (u 7).c) :=
  ⟨h.at (by decide), h.at (by decide), h.at (by decide), h.at (by decide), h.at (by decide), h.at (by decide), h.at (by decide), h.at (by decide)⟩
/-- The eight cells of a box of a vector, that is not frozen. -/
structure VBox (w : World) (b : Nat) (a : Nat → Nat) : Prop where
  box : w.heap[b]? = some (.cells (vcells a) 30 (0, 0))
theorem VBox.gr {w w' : World} {b : Nat} {a : Nat → Nat} (h : VBox w b a) (g : Gr w w') : VBox w' b a := ⟨gr_obj g h.box⟩
theorem VBox.at {w : World} {b : Nat} {a : Nat → Nat} (h : VBox w b a) {k : Nat} (hk : k < 8) : w.cell? ⟨b, k, none⟩ = some (.int .u64 (a k : Int)) := by rw [cell_of_block h.box]; exact vcells_at a hk
theorem VBox.all {w : World} {b : Nat} {a : Nat → Nat} (h : VBox w b a) : w.cell? ⟨b, 0, none⟩ = some (.int .u64 (a 0 : Int)) ∧ w.cell? ⟨b, 1, none⟩ = some (.int .u64 (a 1 : Int)) ∧ w.cell? ⟨b, 2, none⟩ = some (.int .u64 (a 2 : Int)) ∧ w.cell? ⟨b, 3, none⟩ = some (.int .u64 (a 3 : Int)) ∧ w.cell? ⟨b, 4, none⟩ = some (.int .u64 (a 4 : Int)) ∧ w.cell? ⟨b, 5, none⟩ = some (.int .u64 (a 5 : Int)) ∧ w.cell? ⟨b, 6, none⟩ = some (.int .u64 (a 6 : Int)) ∧ w.cell? ⟨b, 7, none⟩ = some (.int .u64 (a 7 : Int)) :=
  ⟨h.at (by decide), h.at (by decide), h.at (by decide), h.at (by decide), h.at (by decide), h.at (by decide), h.at (by decide), h.at (by decide)⟩
theorem VBox.fz {w : World} {b : Nat} {a : Nat → Nat} (h : VBox w b a) : w.frozen? ⟨b, 0, none⟩ = false ∧ w.frozen? ⟨b, 1, none⟩ = false ∧ w.frozen? ⟨b, 2, none⟩ = false ∧ w.frozen? ⟨b, 3, none⟩ = false ∧ w.frozen? ⟨b, 4, none⟩ = false ∧ w.frozen? ⟨b, 5, none⟩ = false ∧ w.frozen? ⟨b, 6, none⟩ = false ∧ w.frozen? ⟨b, 7, none⟩ = false :=
  ⟨unfrozen_of_block h.box 0, unfrozen_of_block h.box 1, unfrozen_of_block h.box 2, unfrozen_of_block h.box 3, unfrozen_of_block h.box 4, unfrozen_of_block h.box 5, unfrozen_of_block h.box 6, unfrozen_of_block h.box 7⟩
theorem VBox.zero {w : World} {b : Nat} (h : VBox w b (fun _ => 0)) : w.cell? ⟨b, 0, none⟩ = some (.int .u64 0) ∧ w.cell? ⟨b, 1, none⟩ = some (.int .u64 0) ∧ w.cell? ⟨b, 2, none⟩ = some (.int .u64 0) ∧ w.cell? ⟨b, 3, none⟩ = some (.int .u64 0) ∧ w.cell? ⟨b, 4, none⟩ = some (.int .u64 0) ∧ w.cell? ⟨b, 5, none⟩ = some (.int .u64 0) ∧ w.cell? ⟨b, 6, none⟩ = some (.int .u64 0) ∧ w.cell? ⟨b, 7, none⟩ = some (.int .u64 0) := h.all
theorem VBox.set {w : World} {b : Nat} {a : Nat → Nat} (h : VBox w b a) {k : Nat} (hk : k < 8) (v : Nat) : VBox (w.setCell ⟨b, k, none⟩ (.int .u64 (v : Int))) b (upd a k v) := ⟨by rw [block_setCell h.box, vcells_upd _ hk]⟩
theorem VBox.far {w : World} {b : Nat} {a : Nat → Nat} (h : VBox w b a) {p : Addr} (hp : p.block ≠ b) (v : Value) : VBox (w.setCell p v) b a := ⟨by rw [Go.Deep.blk_setCell_other _ _ _ _ (Ne.symm hp)]; exact h.box⟩
theorem LBox.far {w : World} {b : Nat} {u : Nat → S3} (h : LBox w b u) {p : Addr} (hp : p.block ≠ b) (v : Value) : LBox (w.setCell p v) b u := ⟨by rw [Go.Deep.blk_setCell_other _ _ _ _ (Ne.symm hp)]; exact h.box⟩
abbrev V0 : Array Value := #[.int .u64 0, .int .u64 0, .int .u64 0, .int .u64 0, .int .u64 0, .int .u64 0, .int .u64 0, .int .u64 0]
theorem vbox0 {w : World} {b : Nat} (h : w.heap[b]? = some (.cells V0 30 (0, 0))) : VBox w b (fun _ => 0) := ⟨h⟩
theorem heap_alloc (w : World) (c : Array Value) (t : TypeId) : (w.alloc (.cells c t)).heap[w.heap.size]? = some (.cells c t (0, 0)) := by simp only [World.alloc, Array.getElem?_push]; simp

theorem run_index_logs (u : Nat → S3) {k : Nat} (hk : k < 8) (w : World) : (Instr.index 24 (.agg (lcells u)) (.int .i64 (k : Int))).run Try.prog w = .ok (.slice (u k).a (u k).n (u k).c) w := by
  match k, hk with
  | 0, _ => show _ = _; kernel_rfl
  | 1, _ => show _ = _; kernel_rfl
  | 2, _ => show _ = _; kernel_rfl
  | 3, _ => show _ = _; kernel_rfl
  | 4, _ => show _ = _; kernel_rfl
  | 5, _ => show _ = _; kernel_rfl
  | 6, _ => show _ = _; kernel_rfl
  | 7, _ => show _ = _; kernel_rfl
/-- What Size has in memory: the box of the logs, the answer's, its own. -/
theorem boxesSz (u : Nat → S3) (w : World) : ∃ W, W = ((w.alloc (.cells (lcells u) 24)).alloc (.cells V0 30)).alloc (.cells V0 30) ∧ Gr w W ∧ W.heap.size = w.heap.size + 3 ∧
    LBox W w.heap.size u ∧ VBox W (w.heap.size + 1) (fun _ => 0) ∧ VBox W (w.heap.size + 2) (fun _ => 0) := by
  refine ⟨_, rfl, (((Gr.refl w).alloc _).alloc _).alloc _, by simp, ⟨?_⟩, ⟨?_⟩, ⟨?_⟩⟩
  all_goals (simp only [World.alloc, Array.getElem?_push, Array.size_push]; simp)
  all_goals omega
def szTo (l : LG) (k : Nat) : Nat → Nat := fun i => if i < k then (l i).length else 0
theorem szTo_next (l : LG) (k : Nat) : upd (szTo l k) k (l k).length = szTo l (k + 1) := by
  funext i
  simp only [upd, szTo]
  by_cases h : i = k
  · subst h; simp
  · rw [if_neg h]
    by_cases h2 : i < k
    · rw [if_pos h2, if_pos (by omega)]
    · rw [if_neg h2, if_neg (by omega)]
theorem u64_len {n : Nat} (h : n ≤ 9223372036854775807) : IntKind.u64.wrap (n : Int) = (n : Int) := by simp [IntKind.wrap, IntKind.bits, IntKind.signed]; omega
theorem LV.le {w : World} {u : Nat → S3} {l : LG} (h : LV w u l) {i : Nat} (hi : i < 8) : (l i).length ≤ 9223372036854775807 := by
  obtain ⟨A, c, hv, h1, ⟨h2, _⟩, _⟩ := h i hi
  unfold maxLen at h2
  omega

set_option maxRecDepth 100000 in
set_option maxHeartbeats 2000000 in
theorem size_any (u : Nat → S3) (l : LG) (w : World) (h : LV w u l) :
    Calls Try.prog 46 #[.agg (lcells u)] w fun e w' => e = .returned (.agg (vcells (sizeV l))) ∧ Gr w w' := by
  obtain ⟨W, hW, hg, hsz, hL, hR, hV⟩ := boxesSz u w
  have HL := Lib.hid hL
  have HR := Lib.hid hR
  have HV := Lib.hid hV
  have HG := Lib.hid hg
  have HS := Lib.hid hsz
  have HN := Lib.hid (fun k (hk : k < 8) => h.len hk)
  have HLE := Lib.hid (fun k (hk : k < 8) => h.le hk)
  obtain ⟨l0, l1, l2, l3, l4, l5, l6, l7⟩ := hL.all
  clear hL hR hV hg hsz h
  go_enter Try.func46, Try.ntmps46
  go_upto_region 2 with (fail)
  rw [← hW]
  clear hW
  go_wp2_with fail
  go_loopw [7] (fun i wr => ∃ k : Nat, k ≤ 8 ∧ i = .int .i64 k ∧ VBox wr (w.heap.size + 1 + 1) (szTo l k) ∧ VBox wr (w.heap.size + 1) (fun _ => 0) ∧ Gr w wr) (fun i _ => 8 - (intOf i).toNat)
  case atStart => exact ⟨0, by decide, rfl, HV.out, HR.out, HG.out⟩
  case round =>
    clear l0 l1 l2 l3 l4 l5 l6 l7
    obtain ⟨k, hk, rfl, hV, hR, hgr⟩ := hrel
    by_cases hlt : k < 8
    · have hk0 : (0 : Int) ≤ (k : Int) := Int.natCast_nonneg _
      have hk8 : (k : Int) < 8 := by omega
      have hc := hV.at hlt
      have hfz : wr.frozen? ⟨w.heap.size + 1 + 1, k, none⟩ = false := unfrozen_of_block hV.box k
      have hw := u64_len (HLE.out k hlt)
      have hn := HN.out k hlt
      have hix := fun W => run_index_logs u hlt W
      have HV2 := Lib.hid hV
      have HR2 := Lib.hid hR
      have HG2 := Lib.hid hgr
      clear hV hR hgr
      go_wp2_with fail
      go_roundw
      case measure => simp [intOf]; omega
      case rel =>
        refine ⟨k + 1, by omega, by go_num, ?_, HR2.out.far (by simp) _, Gr.setCell HG2.out (by simp; omega) _⟩
        rw [← szTo_next]
        exact HV2.out.set hlt _
    · obtain rfl : k = 8 := by omega
      obtain ⟨s0, s1, s2, s3, s4, s5, s6, s7⟩ := hV.all
      obtain ⟨r0, r1, r2, r3, r4, r5, r6, r7⟩ := hR.zero
      obtain ⟨f0, f1, f2, f3, f4, f5, f6, f7⟩ := hR.fz
      have HG2 := Lib.hid hgr
      clear hV hR hgr
      go_wp2_with fail
      exact bodyPost_ret (v := .agg (vcells (szTo l 8))) (by simp [results, Try.results46, go_sem, *]) rfl ⟨rfl, by as_aux_lemma => (iterate 8 (with_reducible refine Gr.setCell ?_ (Nat.le_succ _) _)); exact HG2.out⟩
end Go.Proofs.Ytjpiemgpbakfaaa
/- Walks: the program's Stamp and behind. -/
namespace Go.Proofs.Ytjpiemgpbakfaaa
open Go.RowKit Go.Joins

theorem boxesLV (u : Nat → S3) (v : Nat → Nat) (w : World) : ∃ W, W = (w.alloc (.cells (lcells u) 24)).alloc (.cells (vcells v) 30) ∧ Gr w W ∧ W.heap.size = w.heap.size + 2 ∧
    LBox W w.heap.size u ∧ VBox W (w.heap.size + 1) v := by
  refine ⟨_, rfl, ((Gr.refl w).alloc _).alloc _, by simp, ⟨?_⟩, ⟨?_⟩⟩
  all_goals (simp only [World.alloc, Array.getElem?_push, Array.size_push]; simp)
theorem LV.cell {w : World} {u : Nat → S3} {l : LG} (h : LV w u l) {i j : Nat} (hi : i < 8) (hj : j < (l i).length) : ∃ b off, (u i).a = some ⟨b, off, none⟩ ∧ XCell w b (off + j * 12) (l i)[j] := by
  obtain ⟨A, c, hv, h1, h2, h3⟩ := h i hi
  injection hv with e1 e2 e3
  obtain ⟨b, off, ha, hc⟩ := h3 j hj
  exact ⟨b, off, by rw [e1, ha], hc⟩
theorem stampTo_skip {l : LG} {v : Nat → Nat} {k : Nat} (h : v k = 0 ∨ (l k).length < v k) : stampTo l v (k + 1) = stampTo l v k := by
  show max _ _ = _
  have : lastS l v k = 0 := by
    unfold lastS
    rcases h with h | h
    · rw [if_pos h]
    · rw [if_neg (by omega), List.getElem?_eq_none (by omega)]
  rw [this]
  omega
theorem stampTo_take {l : LG} {v : Nat → Nat} {k d : Nat} (hv : v k = d + 1) (h : d < (l k).length) : stampTo l v (k + 1) = max (stampTo l v k) ((l k)[d]).stamp := by
  show max _ _ = _
  rw [lastS_at hv (List.getElem?_eq_getElem h)]

set_option maxRecDepth 100000 in
set_option maxHeartbeats 2000000 in
theorem stamp_any (u : Nat → S3) (l : LG) (v : Nat → Nat) (w : World) (h : LV w u l) :
    Calls Try.prog 47 #[.agg (lcells u), .agg (vcells v)] w fun e w' => e = .returned (.int .u64 (stampV l v : Int)) ∧ Gr w w' := by
  obtain ⟨W, hW, hg, hsz, hL, hV⟩ := boxesLV u v w
  have HV := Lib.hid hV
  have HG := Lib.hid hg
  have HX := Lib.hid (h.gr hg)
  obtain ⟨l0, l1, l2, l3, l4, l5, l6, l7⟩ := hL.all
  clear hL hV hg hsz h
  go_enter Try.func47, Try.ntmps47
  go_upto_region 1 with (fail)
  rw [← hW]
  clear hW
  go_wp2_with fail
  go_loopw [5, 9] (fun s i wr => ∃ k : Nat, k ≤ 8 ∧ i = .int .i64 k ∧ s = .int .u64 (stampTo l v k : Int) ∧ wr = W) (fun _ i _ => 8 - (intOf i).toNat)
  case atStart => exact ⟨0, by decide, rfl, rfl, rfl⟩
  case round =>
    clear l0 l1 l2 l3 l4 l5 l6 l7
    obtain ⟨k, hk, rfl, rfl, rfl⟩ := hrel
    by_cases hlt : k < 8
    · have hk0 : (0 : Int) ≤ (k : Int) := Int.natCast_nonneg _
      have hk8 : (k : Int) < 8 := by omega
      have hc := HV.out.at hlt
      have hn := HX.out.len hlt
      have hle := HX.out.le hlt
      have hw := u64_len hle
      have hix := fun W => run_index_logs u hlt W
      by_cases h0 : v k = 0 ∨ (l k).length < v k
      · have HS := Lib.hid (stampTo_skip (l := l) h0)
        go_wp2_with fail
        all_goals first | (exfalso; omega) | skip
        all_goals
          go_roundw
          case measure => simp [intOf]; omega
          case rel => exact ⟨k + 1, by omega, by go_num, by rw [HS.out], trivial⟩
      · obtain ⟨d, hd⟩ : ∃ d, v k = d + 1 := ⟨v k - 1, by omega⟩
        have hdl : d < (l k).length := by omega
        obtain ⟨b, off, ha, xv, hx0, x0, x1, x2, -⟩ := HX.out.cell hlt hdl
        have HS := Lib.hid (stampTo_take hd hdl)
        have hv1 : (1 : Int) ≤ ((v k : Nat) : Int) := by omega
        have hv2 : v k ≤ (l k).length := by omega
        have hsub : IntKind.u64.wrap ((v k : Int) - 1) = (d : Int) := by simp [IntKind.wrap, IntKind.bits, IntKind.signed]; omega
        have hd0 : (0 : Int) ≤ (d : Int) := by omega
        have hdn : (d : Int) < ((l k).length : Int) := by omega
        clear h0 hx0
        have HD := Lib.hid hd
        clear hd
        go_wp2_with fail
        go_roundw
        case measure => simp [intOf]; omega
        case rel => exact ⟨k + 1, by omega, by go_num, by rw [HS.out]; exact congrArg (Value.int .u64) (max_if _ _), trivial⟩
    · obtain rfl : k = 8 := by omega
      go_wp2_with fail
      go_ret
      exact ⟨rfl, HG.out⟩

theorem behind_yes {l : LG} {t : TX} (h : leqB t.deps (sizeV l) = false) : behindE l t = 90 := by unfold behindE; rw [h]; rfl
theorem behind_old {l : LG} {t : TX} (h : leqB t.deps (sizeV l) = true) (h2 : t.stamp ≤ stampV l t.deps) : behindE l t = 80 := by unfold behindE; rw [if_pos h, if_pos h2]
theorem behind_ok {l : LG} {t : TX} (h : leqB t.deps (sizeV l) = true) (h2 : ¬ t.stamp ≤ stampV l t.deps) : behindE l t = 0 := by unfold behindE; rw [if_pos h, if_neg h2]
/-- The eight cells of logs lie in this box. -/
def LC (w : World) (b : Nat) (u : Nat → S3) : Prop := w.cell? ⟨b, 0, none⟩ = some (.slice (u 0).a (u 0).n (u 0).c) ∧ w.cell? ⟨b, 1, none⟩ = some (.slice (u 1).a (u 1).n (u 1).c) ∧ w.cell? ⟨b, 2, none⟩ = some (.slice (u 2).a (u 2).n (u 2).c) ∧ w.cell? ⟨b, 3, none⟩ = some (.slice (u 3).a (u 3).n (u 3).c) ∧ w.cell? ⟨b, 4, none⟩ = some (.slice (u 4).a (u 4).n (u 4).c) ∧ w.cell? ⟨b, 5, none⟩ = some (.slice (u 5).a (u 5).n (u 5).c) ∧ w.cell? ⟨b, 6, none⟩ = some (.slice (u 6).a (u 6).n (u 6).c) ∧ w.cell? ⟨b, 7, none⟩ = some (.slice (u 7).a (u 7).n (u 7).c)
theorem LC.gr {w w' : World} {b : Nat} {u : Nat → S3} (h : LC w b u) (g : Gr w w') : LC w' b u := by
  obtain ⟨h0, h1, h2, h3, h4, h5, h6, h7⟩ := h
  exact ⟨g.cell h0, g.cell h1, g.cell h2, g.cell h3, g.cell h4, g.cell h5, g.cell h6, g.cell h7⟩
theorem LBox.lc {w : World} {b : Nat} {u : Nat → S3} (h : LBox w b u) : LC w b u := h.all
/-- The eight cells of a vector lie in this box. -/
def VC (w : World) (b : Nat) (a : Nat → Nat) : Prop := w.cell? ⟨b, 0, none⟩ = some (.int .u64 (a 0 : Int)) ∧ w.cell? ⟨b, 1, none⟩ = some (.int .u64 (a 1 : Int)) ∧ w.cell? ⟨b, 2, none⟩ = some (.int .u64 (a 2 : Int)) ∧ w.cell? ⟨b, 3, none⟩ = some (.int .u64 (a 3 : Int)) ∧ w.cell? ⟨b, 4, none⟩ = some (.int .u64 (a 4 : Int)) ∧ w.cell? ⟨b, 5, none⟩ = some (.int .u64 (a 5 : Int)) ∧ w.cell? ⟨b, 6, none⟩ = some (.int .u64 (a 6 : Int)) ∧ w.cell? ⟨b, 7, none⟩ = some (.int .u64 (a 7 : Int))
theorem VC.gr {w w' : World} {b : Nat} {a : Nat → Nat} (h : VC w b a) (g : Gr w w') : VC w' b a := by
  obtain ⟨h0, h1, h2, h3, h4, h5, h6, h7⟩ := h
  exact ⟨g.cell h0, g.cell h1, g.cell h2, g.cell h3, g.cell h4, g.cell h5, g.cell h6, g.cell h7⟩
theorem VBox.vc {w : World} {b : Nat} {a : Nat → Nat} (h : VBox w b a) : VC w b a := h.all
theorem boxesLT (u : Nat → S3) (t : TX) (v : Value) (w : World) : ∃ W, W = (w.alloc (.cells (lcells u) 24)).alloc (.cells (tcs t v) 38) ∧ Gr w W ∧ W.heap.size = w.heap.size + 2 ∧
    LBox W w.heap.size u ∧ XFix W (w.heap.size + 1) 0 t v := by
  obtain ⟨W, hW, hg, hx⟩ := xbox (w.alloc (.cells (lcells u) 24)) t v
  refine ⟨W, hW, ((Gr.refl w).alloc _).trans hg, by rw [hW]; simp, ?_, ?_⟩
  · exact LBox.gr ⟨heap_alloc _ _ _⟩ hg
  · have e : (w.alloc (.cells (lcells u) 24)).heap.size = w.heap.size + 1 := by simp
    rw [e] at hx
    exact hx
set_option maxRecDepth 100000 in
set_option maxHeartbeats 2000000 in
theorem behind_any (u : Nat → S3) (l : LG) (t : TX) (A : Option Addr) (n c : Nat) (w : World) (h : LV w u l) :
    Calls Try.prog 30 #[.agg (lcells u), .agg (tcs t (.slice A n c))] w fun e w' => e = .returned (.int .i64 (behindE l t : Int)) ∧ Gr w w' := by
  obtain ⟨W, hW, hg, hsz, hL, hX⟩ := boxesLT u t (.slice A n c) w
  have HL := Lib.hid hL
  have HX := Lib.hid hX
  have HG := Lib.hid hg
  have HSZ := Lib.hid (fun w1 (g : Gr W w1) => size_any u l w1 ((h.gr hg).gr g))
  have HST := Lib.hid (fun w1 (g : Gr W w1) => stamp_any u l t.deps w1 ((h.gr hg).gr g))
  have HLQ := Lib.hid (fun w1 => leq_any t.deps (sizeV l) w1)
  clear hL hX hg hsz h
  go_enter Try.func30, Try.ntmps30
  go_upto_region 1 with (fail)
  rw [← hW]
  clear hW
  obtain ⟨r, hr⟩ : ∃ r, r = leqB t.deps (sizeV l) := ⟨_, rfl⟩
  rw [← hr] at HLQ
  have HR0 := Lib.hid hr
  clear hr
  refine qRegion (fun w' => LC w' w.heap.size u ∧ XFix w' (w.heap.size + 1) 0 t (.slice A n c) ∧ Gr W w') (by kernel_rfl) (by kernel_rfl) ⟨HL.out.lc.gr (Gr.refl _).drew, HX.out.gr (Gr.refl _).drew, (Gr.refl _).drew⟩ ?_
  iterate 3
    refine qTake (by kernel_rfl) ?_
    apply Exists.intro
    refine ⟨fun wq hq => ?_, ?_⟩
    · go_light
      obtain ⟨⟨l0, l1, l2, l3, l4, l5, l6, l7⟩, ⟨h0, h1, h2, h3, h4, h5, h6, h7, h8, h9, h10, h11⟩, hg⟩ := hq
      go_simp
      try with_reducible rfl
      done
    try simp only [Act.put, List.setIfInBounds_toArray, List.set_cons_zero, List.set_cons_succ]
  refine qCall (by kernel_rfl) ?_
  apply Exists.intro
  refine ⟨?_, ?_⟩
  · apply Exists.intro
    apply Exists.intro
    refine ⟨fun wq => ?_, fun wq hq => ?_⟩
    · go_light
      go_simp
      exact ⟨rfl, rfl⟩
    · exact (HSZ.out wq hq.2.2).mono fun e w'' ⟨he, hg⟩ => ⟨he, hq.1.gr hg, hq.2.1.gr hg, hq.2.2.trans hg⟩
  try simp only [Act.put, List.setIfInBounds_toArray, List.set_cons_zero, List.set_cons_succ]
  refine qCall (by kernel_rfl) ?_
  apply Exists.intro
  refine ⟨?_, ?_⟩
  · apply Exists.intro
    apply Exists.intro
    refine ⟨fun wq => ?_, fun wq hq => ?_⟩
    · go_light
      go_simp
      exact ⟨rfl, rfl⟩
    · exact (HLQ.out wq).mono fun e w'' ⟨he, hg⟩ => ⟨he, hq.1.gr hg, hq.2.1.gr hg, hq.2.2.trans hg⟩
  try simp only [Act.put, List.setIfInBounds_toArray, List.set_cons_zero, List.set_cons_succ]
  iterate 1
    refine qTake (by kernel_rfl) ?_
    apply Exists.intro
    refine ⟨fun wq hq => ?_, ?_⟩
    · go_light
      obtain ⟨⟨l0, l1, l2, l3, l4, l5, l6, l7⟩, ⟨h0, h1, h2, h3, h4, h5, h6, h7, h8, h9, h10, h11⟩, hg⟩ := hq
      go_simp
      try with_reducible rfl
      done
    try simp only [Act.put, List.setIfInBounds_toArray, List.set_cons_zero, List.set_cons_succ]
  refine qNil ?_
  rintro w3 ⟨hl3, hx3, hg3⟩
  have HG3 := Lib.hid hg3
  have HL3 := Lib.hid hl3
  have HX3 := Lib.hid hx3
  clear hl3 hx3 hg3
  rcases r with _ | _
  · have HF := Lib.hid (behind_yes HR0.out.symm)
    go_wp2_with fail
    go_ret
    exact ⟨by rw [HF.out]; rfl, HG.out.trans HG3.out⟩
  · have HR := Lib.hid HR0.out.symm
    obtain ⟨s, hs⟩ : ∃ s, s = stampV l t.deps := ⟨_, rfl⟩
    rw [← hs] at HST
    have HSS := Lib.hid hs
    clear hs
    go_upto_region 3 with (fail)
    refine qRegion (fun w' => LC w' w.heap.size u ∧ XFix w' (w.heap.size + 1) 0 t (.slice A n c) ∧ Gr W w') (by kernel_rfl) (by kernel_rfl) ⟨HL3.out.gr (Gr.refl _).drew, HX3.out.gr (Gr.refl _).drew, HG3.out.drew⟩ ?_
    iterate 5
      refine qTake (by kernel_rfl) ?_
      apply Exists.intro
      refine ⟨fun wq hq => ?_, ?_⟩
      · go_light
        obtain ⟨⟨l0, l1, l2, l3, l4, l5, l6, l7⟩, ⟨h0, h1, h2, h3, h4, h5, h6, h7, h8, h9, h10, h11⟩, hg⟩ := hq
        go_simp
        try with_reducible rfl
        done
      try simp only [Act.put, List.setIfInBounds_toArray, List.set_cons_zero, List.set_cons_succ]
    refine qCall (by kernel_rfl) ?_
    apply Exists.intro
    refine ⟨?_, ?_⟩
    · apply Exists.intro
      apply Exists.intro
      refine ⟨fun wq => ?_, fun wq hq => ?_⟩
      · go_light
        go_simp
        exact ⟨rfl, rfl⟩
      · exact (HST.out wq hq.2.2).mono fun e w'' ⟨he, hg⟩ => ⟨he, hq.1.gr hg, hq.2.1.gr hg, hq.2.2.trans hg⟩
    try simp only [Act.put, List.setIfInBounds_toArray, List.set_cons_zero, List.set_cons_succ]
    iterate 1
      refine qTake (by kernel_rfl) ?_
      apply Exists.intro
      refine ⟨fun wq hq => ?_, ?_⟩
      · go_light
        obtain ⟨⟨l0, l1, l2, l3, l4, l5, l6, l7⟩, ⟨h0, h1, h2, h3, h4, h5, h6, h7, h8, h9, h10, h11⟩, hg⟩ := hq
        go_simp
        try with_reducible rfl
        done
      try simp only [Act.put, List.setIfInBounds_toArray, List.set_cons_zero, List.set_cons_succ]
    refine qNil ?_
    rintro w4 ⟨hl4, hx4, hg4⟩
    have HG4 := Lib.hid hg4
    clear hl4 hx4 hg4
    by_cases hle : t.stamp ≤ s
    · have HF := Lib.hid (behind_old HR.out (by rw [← HSS.out]; exact hle))
      go_wp2_with fail
      go_ret
      exact ⟨by rw [HF.out]; rfl, HG.out.trans HG4.out⟩
    · have HF := Lib.hid (behind_ok HR.out (by rw [← HSS.out]; exact hle))
      go_wp2_with fail
      go_ret
      exact ⟨by rw [HF.out]; rfl, HG.out.trans HG4.out⟩
end Go.Proofs.Ytjpiemgpbakfaaa
