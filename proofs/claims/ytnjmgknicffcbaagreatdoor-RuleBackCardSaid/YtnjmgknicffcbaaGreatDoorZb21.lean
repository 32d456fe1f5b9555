/- Arguments opened: rows of structs, and how long they are. The arguments of the laws of transactions: operations, transactions, lists of them: what they read as, and how long they are. Logs as they are read: an array of eight slices of transactions; the arguments of the laws opened. Walks over package vec: Order, Has, Set. Walks: the program's Size; boxes of eight cells. -/
import Derived.Test.YtnjmgknicffcbaaGreatDoorZb01
import Derived.Deep.Slices
import Derived.Deep.Fields
import Derived.ChangeSame
import Derived.SizedLaws
import Derived.OpenShut
import Derived.Test.YtnjmgknicffcbaaGreatDoorZb06
import Derived.Test.YtnjmgknicffcbaaGreatDoorZb20
import Derived.Deep.RegionHeld3
import Derived.Deep.Cut
import Derived.Test.YtnjmgknicffcbaaGreatDoorZb05
import Derived.Test.YtnjmgknicffcbaaGreatDoorZb03
import Derived.StillTailTactics
import Derived.Lib.SmallJoins
namespace Go.Proofs.YtnjmgknicffcbaaGreatDoor
open Go.ChangeShapes Go.WideShapes Go.RowKit Go.Deep

theorem list_of {α : Type} {R : Nat → α → Prop} : ∀ n, (∀ i, i < n → ∃ x, R i x) → ∃ L : List α, L.length = n ∧ ∀ j (hj : j < L.length), R j L[j]
  | 0, _ => ⟨[], rfl, fun j hj => absurd hj (by simp)⟩
  | n + 1, h => by
    obtain ⟨L, hl, hr⟩ := list_of n (fun i hi => h i (by omega))
    obtain ⟨x, hx⟩ := h n (Nat.lt_succ_self n)
    refine ⟨L ++ [x], by rw [List.length_append, hl]; rfl, fun j hj => ?_⟩
    rw [List.length_append, List.length_singleton, hl] at hj
    by_cases e : j < L.length
    · rw [List.getElem_append_left e]; exact hr j e
    · obtain rfl : j = n := by omega
      rw [List.getElem_append_right (by omega)]
      simp only [hl, Nat.sub_self, List.getElem_cons_zero]
      exact hx
theorem weightsAll_mem {H : Type} {P : Program} {e : TypeId} {d : DataW H} {l : List (DataW H)} (h : d ∈ l) {n : Nat} (hn : n ∈ DataW.weights P e d) : n ∈ DataW.weightsAll P e l := by
  induction l with
  | nil => cases h
  | cons x r ih =>
    simp only [DataW.weightsAll, List.mem_append]
    rcases List.mem_cons.1 h with rfl | h
    · exact .inl hn
    · exact .inr (ih h)
/-- The first element's place says that the slice lies in cells. -/
theorem spot_of {w : World} {base k : Nat} {a : Addr} {len : Nat} {R : Nat → List Value → Prop} (hk : 0 < k) (hi : ∀ i, i < len → ∃ cs, w.cells? base (a.add (i * k)) k = some cs ∧ R i cs) (h0 : 0 < len) : a.spot = none := by
  obtain ⟨cs, hc, _⟩ := hi 0 h0
  obtain ⟨_, hl, hat⟩ := World.cells?_some hc
  have h := hat 0 hk
  rw [List.getElem?_eq_getElem (show 0 < cs.length by omega)] at h
  have := World.cell?_spot h
  simpa [Addr.add] using this
theorem reach_is : reachBytes = 140737488351232 := rfl
end Go.Proofs.YtnjmgknicffcbaaGreatDoor
namespace Go.Proofs.YtnjmgknicffcbaaGreatDoor
open Go.ChangeShapes Go.WideShapes Go.RowKit Go.Deep

/-- What an operation's parts may be. -/
def FitTO (o : TO) : Prop := (-9223372036854775808 ≤ o.kind ∧ o.kind ≤ 9223372036854775807) ∧ (-9223372036854775808 ≤ o.n ∧ o.n ≤ 9223372036854775807) ∧ o.key.size ≤ 281474976710656 ∧ o.elem.size ≤ 281474976710656
/-- What a transaction's parts may be. -/
structure FitX (t : TX) : Prop where
  origin : -9223372036854775808 ≤ t.origin ∧ t.origin ≤ 9223372036854775807
  seq : t.seq < 18446744073709551616
  stamp : t.stamp < 18446744073709551616
  deps : ∀ k, k < 8 → t.deps k < 18446744073709551616
  ops : ∀ o ∈ t.ops, FitTO o
  len : (t.ops.length + 1) * 48 ≤ 140737488355328

section
variable {H : Type} {enc : TypeId × Value → H} {W : World} {base : Nat} {v : Value} {d : DataW H} {p : List MemPlace}
theorem cells_at {w : World} {B : Nat} {a : Addr} {k : Nat} {cs : List Value} (hc : w.cells? B a k = some cs) (j : Nat) (hj : j < k) : w.cell? (a.add j) = cs[j]? := by
  obtain ⟨_, hl, hat⟩ := World.cells?_some hc
  exact hat j hj
end
end Go.Proofs.YtnjmgknicffcbaaGreatDoor
namespace Go.Proofs.YtnjmgknicffcbaaGreatDoor
open Go.ChangeShapes Go.WideShapes Go.RowKit Go.Deep

/-- A slice's three parts. -/
structure S3 where
  a : Option Addr
  n : Nat
  c : Nat
abbrev S3.v (s : S3) : Value := .slice s.a s.n s.c
abbrev lcells (u : Nat → S3) : Array Value := #[.slice (u 0).a (u 0).n (u 0).c, .slice (u 1).a (u 1).n (u 1).c, .slice (u 2).a (u 2).n (u 2).c, .slice (u 3).a (u 3).n (u 3).c, .slice (u 4).a (u 4).n (u 4).c, .slice (u 5).a (u 5).n (u 5).c, .slice (u 6).a (u 6).n (u 6).c, .slice (u 7).a (u 7).n (u 7).c]
theorem lcells_at (u : Nat → S3) {k : Nat} (hk : k < 8) : (lcells u)[k]? = some (.slice (u k).a (u k).n (u k).c) := by
  match k, hk with
  | 0, _ => rfl
  | 1, _ => rfl
  | 2, _ => rfl
  | 3, _ => rfl
  | 4, _ => rfl
  | 5, _ => rfl
  | 6, _ => rfl
  | 7, _ => rfl
/-- The eight slices read as the logs. -/
def LV (w : World) (u : Nat → S3) (l : LG) : Prop := ∀ i, i < 8 → XV w (.slice (u i).a (u i).n (u i).c) (l i)
theorem LV.len {w : World} {u : Nat → S3} {l : LG} (h : LV w u l) {i : Nat} (hi : i < 8) : (u i).n = (l i).length := by
  obtain ⟨A, c, hv, _⟩ := h i hi
  injection hv
theorem LV.gr {w w' : World} {u : Nat → S3} {l : LG} (h : LV w u l) (g : Gr w w') : LV w' u l := fun i hi => (h i hi).gr g
theorem LV.congr {w : World} {u : Nat → S3} {l l' : LG} (h : LV w u l) (e : ∀ i, i < 8 → l i = l' i) : LV w u l' := fun i hi => by rw [← e i hi]; exact h i hi
/-- A transaction whose vector has no ninth number. -/
def Can (t : TX) : Prop := ∀ k, 8 ≤ k → t.deps k = 0
def can (t : TX) : TX := ⟨t.origin, t.seq, t.stamp, fun k => if k < 8 then t.deps k else 0, t.ops⟩
/-- What logs that were handed in may hold. -/
structure FitL (l : LG) : Prop where
  fit : ∀ i t, i < 8 → t ∈ l i → FitX t
  can : ∀ i t, i < 8 → t ∈ l i → Can t
  len : ∀ i, i < 8 → ((l i).length + 1) * 112 ≤ 140737488355328
section
variable {H : Type} {enc : TypeId × Value → H} {W : World} {base : Nat} {v : Value} {d : DataW H} {p : List MemPlace}
end
end Go.Proofs.YtnjmgknicffcbaaGreatDoor
namespace Go.Proofs.YtnjmgknicffcbaaGreatDoor
open Go.RowKit Go.Joins

/-- The eight cells of a vector lie in block B. -/
abbrev Lies (w : World) (B : Nat) (a : Nat → Nat) : Prop :=
  w.cell? ⟨B, 0, none⟩ = some (.int .u64 (a 0 : Int)) ∧ w.cell? ⟨B, 1, none⟩ = some (.int .u64 (a 1 : Int)) ∧ w.cell? ⟨B, 2, none⟩ = some (.int .u64 (a 2 : Int)) ∧ w.cell? ⟨B, 3, none⟩ = some (.int .u64 (a 3 : Int)) ∧
  w.cell? ⟨B, 4, none⟩ = some (.int .u64 (a 4 : Int)) ∧ w.cell? ⟨B, 5, none⟩ = some (.int .u64 (a 5 : Int)) ∧ w.cell? ⟨B, 6, none⟩ = some (.int .u64 (a 6 : Int)) ∧ w.cell? ⟨B, 7, none⟩ = some (.int .u64 (a 7 : Int))
theorem Lies.gr {w w' : World} {B : Nat} {a : Nat → Nat} (h : Lies w B a) (g : Gr w w') : Lies w' B a := by
  obtain ⟨h0, h1, h2, h3, h4, h5, h6, h7⟩ := h
  exact ⟨g.cell h0, g.cell h1, g.cell h2, g.cell h3, g.cell h4, g.cell h5, g.cell h6, g.cell h7⟩
theorem vmember_yes (o : Int) (h0 : 0 ≤ o) (h8 : o < 8) (w : World) : Calls Tryz.prog 221 #[.int .i64 o] w fun e w' => e = .returned (.bool true) ∧ w = w' := by
  go_enter Tryz.func221, Tryz.ntmps221
  go_wp2_with fail
  go_ret
  exact ⟨rfl, rfl⟩
theorem vmember_no (o : Int) (h : o < 0 ∨ 8 ≤ o) (w : World) : Calls Tryz.prog 221 #[.int .i64 o] w fun e w' => e = .returned (.bool false) ∧ w = w' := by
  rcases h with h | h
  · have h0 : decide (0 ≤ o) = false := decide_eq_false (by omega)
    go_enter Tryz.func221, Tryz.ntmps221
    go_wp2_with fail
    go_ret
    exact ⟨rfl, rfl⟩
  · have h0 : (0 : Int) ≤ o := by omega
    have h8 : decide (o < 8) = false := decide_eq_false (by omega)
    go_enter Tryz.func221, Tryz.ntmps221
    go_wp2_with fail
    go_ret
    exact ⟨rfl, rfl⟩
/-- Is that number counted? -/
def hasB (a : Nat → Nat) (o : Int) (n : Nat) : Bool := decide (0 ≤ o) && decide (o < 8) && decide (1 ≤ n) && decide (n ≤ a o.toNat)
theorem box1 (a : Nat → Nat) (w : World) : ∃ W, W = w.alloc (.cells (vcells a) 28) ∧ Gr w W ∧ W.heap[w.heap.size]? = some (.cells (vcells a) 28 (0, 0)) := by
  refine ⟨_, rfl, (Gr.refl w).alloc _, ?_⟩
  simp only [World.alloc, Array.getElem?_push]; simp

set_option maxRecDepth 100000 in
theorem has_no (a : Nat → Nat) (o : Int) (n : Nat) (h : o < 0 ∨ 8 ≤ o) (w : World) :
    Calls Tryz.prog 206 #[.agg (vcells a), .int .i64 o, .int .u64 (n : Int)] w fun e w' => e = .returned (.bool (hasB a o n)) ∧ Gr w w' := by
  have hh : hasB a o n = false := by
    rcases h with h | h
    · rw [hasB, decide_eq_false (by omega : ¬ 0 ≤ o)]; rfl
    · rw [hasB, decide_eq_false (by omega : ¬ o < 8), Bool.and_false]; rfl
  have HH := Lib.hid hh
  have HM := Lib.hid (fun w => vmember_no o h w)
  obtain ⟨W, hW, hg, hA⟩ := box1 a w
  clear hh h
  go_enter Tryz.func206, Tryz.ntmps206
  go_wp2_with fail
  rw [← hW]
  clear hW
  refine (HM.out _).mono ?_
  rintro e w1 ⟨rfl, rfl⟩
  go_wp2_with fail
  go_ret
  exact ⟨by rw [HH.out]; rfl, hg⟩
set_option maxRecDepth 100000 in
theorem has_yes (a : Nat → Nat) (k : Nat) (n : Nat) (hk : k < 8) (w : World) :
    Calls Tryz.prog 206 #[.agg (vcells a), .int .i64 (k : Int), .int .u64 (n : Int)] w fun e w' => e = .returned (.bool (hasB a k n)) ∧ Gr w w' := by
  have hh : hasB a k n = (decide (1 ≤ n) && decide (n ≤ a k)) := by
    rw [hasB, decide_eq_true (by omega : (0 : Int) ≤ (k : Int)), decide_eq_true (by omega : (k : Int) < 8)]; rfl
  have HH := Lib.hid hh
  have HM := Lib.hid (fun w => vmember_yes (k : Int) (by omega) (by omega) w)
  obtain ⟨W, hW, hg, hA⟩ := box1 a w
  have hca : W.cell? ⟨w.heap.size, k, none⟩ = some (.int .u64 (a k : Int)) := by
    rw [cell_of_block hA, vcells_at _ hk]
  have hk0 : (0 : Int) ≤ (k : Int) := Int.natCast_nonneg _
  have hk8 : (k : Int) < 8 := by omega
  clear hh hA
  by_cases h1 : 1 ≤ n
  · have e1 : (1 : Int) ≤ (n : Int) := by omega
    have HD := Lib.hid (decide_eq_true h1)
    clear h1
    go_enter Tryz.func206, Tryz.ntmps206
    go_wp2_with fail
    rw [← hW]
    clear hW
    refine (HM.out _).mono ?_
    rintro e w1 ⟨rfl, rfl⟩
    go_wp2_with fail
    go_ret
    exact ⟨by rw [HH.out, HD.out]; simp, hg⟩
  · have e1 : decide ((1 : Int) ≤ (n : Int)) = false := decide_eq_false (by omega)
    have HD := Lib.hid (decide_eq_false h1)
    clear h1
    go_enter Tryz.func206, Tryz.ntmps206
    go_wp2_with fail
    rw [← hW]
    clear hW
    refine (HM.out _).mono ?_
    rintro e w1 ⟨rfl, rfl⟩
    go_wp2_with fail
    go_ret
    exact ⟨by rw [HH.out, HD.out]; rfl, hg⟩
theorem has_any (a : Nat → Nat) (o : Int) (n : Nat) (w : World) :
    Calls Tryz.prog 206 #[.agg (vcells a), .int .i64 o, .int .u64 (n : Int)] w fun e w' => e = .returned (.bool (hasB a o n)) ∧ Gr w w' := by
  by_cases h : 0 ≤ o ∧ o < 8
  · obtain ⟨k, rfl⟩ := Int.eq_ofNat_of_zero_le h.1
    exact has_yes a k n (by omega) w
  · exact has_no a o n (by omega) w

end Go.Proofs.YtnjmgknicffcbaaGreatDoor
namespace Go.Proofs.YtnjmgknicffcbaaGreatDoor
open Go.RowKit Go.Joins

/-- The eight cells of a box of logs, that is not frozen. -/
structure LBox (w : World) (b : Nat) (u : Nat → S3) : Prop where
  box : w.heap[b]? = some (.cells (lcells u) 25 (0, 0))
theorem LBox.gr {w w' : World} {b : Nat} {u : Nat → S3} (h : LBox w b u) (g : Gr w w') : LBox w' b u := ⟨gr_obj g h.box⟩
theorem LBox.at {w : World} {b : Nat} {u : Nat → S3} (h : LBox w b u) {k : Nat} (hk : k < 8) : w.cell? ⟨b, k, none⟩ = some (.slice (u k).a (u k).n (u k).c) := by rw [cell_of_block h.box]; exact lcells_at u hk
theorem LBox.all {w : World} {b : Nat} {u : Nat → S3} (h : LBox w b u) : w.cell? ⟨b, 0, none⟩ = some (.slice (u 0).a (u 0).n (u 0).c) ∧ w.cell? ⟨b, 1, none⟩ = some (.slice (u 1).a (u 1).n (u 1).c) ∧ w.cell? ⟨b, 2, none⟩ = some (.slice (u 2).a (u 2).n (u 2).c) ∧ w.cell? ⟨b, 3, none⟩ = some (.slice (u 3).a (u 3).n (u 3).c) ∧ w.cell? ⟨b, 4, none⟩ = some (.slice (u 4).a (u 4).n (u 4).c) ∧ w.cell? ⟨b, 5, none⟩ = some (.slice (u 5).a (u 5).n (u 5).c) ∧ w.cell? ⟨b, 6, none⟩ = some (.slice (u 6).a (u 6).n (u 6).c) ∧ w.cell? ⟨b, 7, none⟩ = some (.slice (u 7).a (u 7).n (u 7).c) :=
  ⟨h.at (by decide), h.at (by decide), h.at (by decide), h.at (by decide), h.at (by decide), h.at (by decide), h.at (by decide), h.at (by decide)⟩
/-- The eight cells of a box of a vector, that is not frozen. -/
structure VBox (w : World) (b : Nat) (a : Nat → Nat) : Prop where
  box : w.heap[b]? = some (.cells (vcells a) 28 (0, 0))
theorem VBox.gr {w w' : World} {b : Nat} {a : Nat → Nat} (h : VBox w b a) (g : Gr w w') : VBox w' b a := ⟨gr_obj g h.box⟩
theorem VBox.at {w : World} {b : Nat} {a : Nat → Nat} (h : VBox w b a) {k : Nat} (hk : k < 8) : w.cell? ⟨b, k, none⟩ = some (.int .u64 (a k : Int)) := by rw [cell_of_block h.box]; exact vcells_at a hk
theorem VBox.all {w : World} {b : Nat} {a : Nat → Nat} (h : VBox w b a) : w.cell? ⟨b, 0, none⟩ = some (.int .u64 (a 0 : Int)) ∧ w.cell? ⟨b, 1, none⟩ = some (.int .u64 (a 1 : Int)) ∧ w.cell? ⟨b, 2, none⟩ = some (.int .u64 (a 2 : Int)) ∧ w.cell? ⟨b, 3, none⟩ = some (.int .u64 (a 3 : Int)) ∧ w.cell? ⟨b, 4, none⟩ = some (.int .u64 (a 4 : Int)) ∧ w.cell? ⟨b, 5, none⟩ = some (.int .u64 (a 5 : Int)) ∧ w.cell? ⟨b, 6, none⟩ = some (.int .u64 (a 6 : Int)) ∧ w.cell? ⟨b, 7, none⟩ = some (.int .u64 (a 7 : Int)) :=
  ⟨h.at (by decide), h.at (by decide), h.at (by decide), h.at (by decide), h.at (by decide), h.at (by decide), h.at (by decide), h.at (by decide)⟩
theorem VBox.fz {w : World} {b : Nat} {a : Nat → Nat} (h : VBox w b a) : w.frozen? ⟨b, 0, none⟩ = false ∧ w.frozen? ⟨b, 1, none⟩ = false ∧ w.frozen? ⟨b, 2, none⟩ = false ∧ w.frozen? ⟨b, 3, none⟩ = false ∧ w.frozen? ⟨b, 4, none⟩ = false ∧ w.frozen? ⟨b, 5, none⟩ = false ∧ w.frozen? ⟨b, 6, none⟩ = false ∧ w.frozen? ⟨b, 7, none⟩ = false :=
  ⟨unfrozen_of_block h.box 0, unfrozen_of_block h.box 1, unfrozen_of_block h.box 2, unfrozen_of_block h.box 3, unfrozen_of_block h.box 4, unfrozen_of_block h.box 5, unfrozen_of_block h.box 6, unfrozen_of_block h.box 7⟩
theorem VBox.zero {w : World} {b : Nat} (h : VBox w b (fun _ => 0)) : w.cell? ⟨b, 0, none⟩ = some (.int .u64 0) ∧ w.cell? ⟨b, 1, none⟩ = some (.int .u64 0) ∧ w.cell? ⟨b, 2, none⟩ = some (.int .u64 0) ∧ w.cell? ⟨b, 3, none⟩ = some (.int .u64 0) ∧ w.cell? ⟨b, 4, none⟩ = some (.int .u64 0) ∧ w.cell? ⟨b, 5, none⟩ = some (.int .u64 0) ∧ w.cell? ⟨b, 6, none⟩ = some (.int .u64 0) ∧ w.cell? ⟨b, 7, none⟩ = some (.int .u64 0) := h.all
theorem VBox.set {w : World} {b : Nat} {a : Nat → Nat} (h : VBox w b a) {k : Nat} (hk : k < 8) (v : Nat) : VBox (w.setCell ⟨b, k, none⟩ (.int .u64 (v : Int))) b (upd a k v) := ⟨by rw [block_setCell h.box, vcells_upd _ hk]⟩
theorem VBox.far {w : World} {b : Nat} {a : Nat → Nat} (h : VBox w b a) {p : Addr} (hp : p.block ≠ b) (v : Value) : VBox (w.setCell p v) b a := ⟨by rw [Go.Deep.blk_setCell_other _ _ _ _ (Ne.symm hp)]; exact h.box⟩
theorem LBox.far {w : World} {b : Nat} {u : Nat → S3} (h : LBox w b u) {p : Addr} (hp : p.block ≠ b) (v : Value) : LBox (w.setCell p v) b u := ⟨by rw [Go.Deep.blk_setCell_other _ _ _ _ (Ne.symm hp)]; exact h.box⟩
abbrev V0 : Array Value := #[.int .u64 0, .int .u64 0, .int .u64 0, .int .u64 0, .int .u64 0, .int .u64 0, .int .u64 0, .int .u64 0]
theorem heap_alloc (w : World) (c : Array Value) (t : TypeId) : (w.alloc (.cells c t)).heap[w.heap.size]? = some (.cells c t (0, 0)) := by simp only [World.alloc, Array.getElem?_push]; simp

theorem run_index_logs (u : Nat → S3) {k : Nat} (hk : k < 8) (w : World) : (Instr.index 25 (.agg (lcells u)) (.int .i64 (k : Int))).run Tryz.prog w = .ok (.slice (u k).a (u k).n (u k).c) w := by
  match k, hk with
  | 0, _ => show _ = _; kernel_rfl
  | 1, _ => show _ = _; kernel_rfl
  | 2, _ => show _ = _; kernel_rfl
  | 3, _ => show _ = _; kernel_rfl
  | 4, _ => show _ = _; kernel_rfl
  | 5, _ => show _ = _; kernel_rfl
  | 6, _ => show _ = _; kernel_rfl
  | 7, _ => show _ = _; kernel_rfl
/-- What Size has in memory: the box of the logs, the answer's, its own. -/
theorem boxesSz (u : Nat → S3) (w : World) : ∃ W, W = ((w.alloc (.cells (lcells u) 25)).alloc (.cells V0 28)).alloc (.cells V0 28) ∧ Gr w W ∧ W.heap.size = w.heap.size + 3 ∧
    LBox W w.heap.size u ∧ VBox W (w.heap.size + 1) (fun _ => 0) ∧ VBox W (w.heap.size + 2) (fun _ => 0) := by
  refine ⟨_, rfl, (((Gr.refl w).alloc _).alloc _).alloc _, by simp, ⟨?_⟩, ⟨?_⟩, ⟨?_⟩⟩
  all_goals (simp only [World.alloc, Array.getElem?_push, Array.size_push]; simp)
  all_goals omega
def szTo (l : LG) (k : Nat) : Nat → Nat := fun i => if i < k then (l i).length else 0
theorem szTo_next (l : LG) (k : Nat) : upd (szTo l k) k (l k).length = szTo l (k + 1) := by
  funext i
  simp only [upd, szTo]
  by_cases h : i = k
  · subst h; simp
  · rw [if_neg h]
    by_cases h2 : i < k
    · rw [if_pos h2, if_pos (by omega)]
    · rw [if_neg h2, if_neg (by omega)]
theorem u64_len {n : Nat} (h : n ≤ 9223372036854775807) : IntKind.u64.wrap (n : Int) = (n : Int) := by simp [IntKind.wrap, IntKind.bits, IntKind.signed]; omega
theorem LV.le {w : World} {u : Nat → S3} {l : LG} (h : LV w u l) {i : Nat} (hi : i < 8) : (l i).length ≤ 9223372036854775807 := by
  obtain ⟨A, c, hv, h1, ⟨h2, _⟩, _⟩ := h i hi
  unfold maxLen at h2
  omega

set_option maxRecDepth 100000 in
set_option maxHeartbeats 2000000 in
theorem size_any (u : Nat → S3) (l : LG) (w : World) (h : LV w u l) :
    Calls Tryz.prog 78 #[.agg (lcells u)] w fun e w' => e = .returned (.agg (vcells (sizeV l))) ∧ Gr w w' := by
  obtain ⟨W, hW, hg, hsz, hL, hR, hV⟩ := boxesSz u w
  have HL := Lib.hid hL
  have HR := Lib.hid hR
  have HV := Lib.hid hV
  have HG := Lib.hid hg
  have HS := Lib.hid hsz
  have HN := Lib.hid (fun k (hk : k < 8) => h.len hk)
  have HLE := Lib.hid (fun k (hk : k < 8) => h.le hk)
  obtain ⟨l0, l1, l2, l3, l4, l5, l6, l7⟩ := hL.all
  clear hL hR hV hg hsz h
  go_enter Tryz.func78, Tryz.ntmps78
  go_upto_region 2 with (fail)
  rw [← hW]
  clear hW
  go_wp2_with fail
  go_loopw [7] (fun i wr => ∃ k : Nat, k ≤ 8 ∧ i = .int .i64 k ∧ VBox wr (w.heap.size + 1 + 1) (szTo l k) ∧ VBox wr (w.heap.size + 1) (fun _ => 0) ∧ Gr w wr) (fun i _ => 8 - (intOf i).toNat)
  case atStart => exact ⟨0, by decide, rfl, HV.out, HR.out, HG.out⟩
  case round =>
    clear l0 l1 l2 l3 l4 l5 l6 l7
    obtain ⟨k, hk, rfl, hV, hR, hgr⟩ := hrel
    by_cases hlt : k < 8
    · have hk0 : (0 : Int) ≤ (k : Int) := Int.natCast_nonneg _
      have hk8 : (k : Int) < 8 := by omega
      have hc := hV.at hlt
      have hfz : wr.frozen? ⟨w.heap.size + 1 + 1, k, none⟩ = false := unfrozen_of_block hV.box k
      have hw := u64_len (HLE.out k hlt)
      have hn := HN.out k hlt
      have hix := fun W => run_index_logs u hlt W
      have HV2 := Lib.hid hV
      have HR2 := Lib.hid hR
      have HG2 := Lib.hid hgr
      clear hV hR hgr
      go_wp2_with fail
      go_roundw
      case measure => simp [intOf]; omega
      case rel =>
        refine ⟨k + 1, by omega, by go_num, ?_, HR2.out.far (by simp) _, Gr.setCell HG2.out (by simp; omega) _⟩
        rw [← szTo_next]
        exact HV2.out.set hlt _
    · obtain rfl : k = 8 := by omega
      obtain ⟨s0, s1, s2, s3, s4, s5, s6, s7⟩ := hV.all
      obtain ⟨r0, r1, r2, r3, r4, r5, r6, r7⟩ := hR.zero
      obtain ⟨f0, f1, f2, f3, f4, f5, f6, f7⟩ := hR.fz
      have HG2 := Lib.hid hgr
      clear hV hR hgr
      go_wp2_with fail
      exact bodyPost_ret (v := .agg (vcells (szTo l 8))) (by simp [results, Tryz.results78, go_sem, *]) rfl ⟨rfl, by as_aux_lemma => (iterate 8 (with_reducible refine Gr.setCell ?_ (Nat.le_succ _) _)); exact HG2.out⟩
end Go.Proofs.YtnjmgknicffcbaaGreatDoor
