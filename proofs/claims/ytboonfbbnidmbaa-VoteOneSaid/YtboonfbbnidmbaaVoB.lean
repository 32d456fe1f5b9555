/- Walks: Ballot, Prepare and Accept of an acceptor, the program's and the document's. -/
import Derived.Test.YtboonfbbnidmbaaCln
import Derived.Test.YtboonfbbnidmbaaRowsG
import Derived.Test.YtboonfbbnidmbaaVoM
import Derived.BigQuiet
import Derived.Deep.QuietTactic
import Derived.WalkSpells
import Derived.WalkLawsBesides
import Derived.Handy
import Derived.Lib.Hide
import Derived.Deep.DeepCutAuto
namespace Go.Proofs.Ytboonfbbnidmbaa
open Go.RowKit Vo
set_option linter.unusedSimpArgs false

set_option maxRecDepth 100000 in
theorem ballot_yes (r k : Nat) (h1 : 1 ≤ r) (h2 : r ≤ 1152921504606846976) (hk : k < 8) (w : World) :
    Calls Try.prog 9 #[.int .u64 (r : Int), .int .i64 (k : Int)] w fun e w' => e = .returned (.tuple #[.int .u64 ((8 * r + k : Nat) : Int), .int .i64 0]) ∧ Gr w w' := by
  have a1 : decide ((k : Int) < 0) = false := decide_eq_false (by omega)
  have a2 : decide ((8 : Int) ≤ (k : Int)) = false := decide_eq_false (by omega)
  have a3 : decide ((r : Int) < 1) = false := decide_eq_false (by omega)
  have a4 : decide ((1152921504606846976 : Int) < (r : Int)) = false := decide_eq_false (by omega)
  have a5 : (0 : Int) ≤ (r : Int) := by omega
  have a6 : (r : Int) ≤ 1152921504606846976 := by omega
  have a7 : (0 : Int) ≤ (k : Int) := by omega
  have a8 : (k : Int) < 8 := by omega
  have HV := Lib.hid (show (((8 * r + k : Nat) : Int)) = 8 * (r : Int) + (k : Int) by omega)
  go_enter Try.func9, Try.ntmps9
  go_wp2
  refine bodyPost_ret (v := .tuple #[.int .u64 ((8 * r + k : Nat) : Int), .int .i64 0]) ?_ rfl ⟨rfl, Gr.refl _⟩
  rw [HV.out]
  simp [results, Try.results9, go_sem]
set_option maxRecDepth 100000 in
theorem ballot_no (r : Nat) (m : Int) (h : m < 0 ∨ 8 ≤ m ∨ r < 1 ∨ 1152921504606846976 < r) (w : World) :
    Calls Try.prog 9 #[.int .u64 (r : Int), .int .i64 m] w fun e w' => e = .returned (.tuple #[.int .u64 0, .int .i64 1]) ∧ Gr w w' := by
  by_cases b1 : m < 0
  · have a1 : decide (m < 0) = true := decide_eq_true b1
    clear h
    go_enter Try.func9, Try.ntmps9
    go_wp2
    exact bodyPost_ret (v := .tuple #[.int .u64 0, .int .i64 1]) (by simp [results, Try.results9, go_sem]) rfl ⟨rfl, Gr.refl _⟩
  have a1 : decide (m < 0) = false := decide_eq_false b1
  by_cases b2 : 8 ≤ m
  · have a2 : decide ((8 : Int) ≤ m) = true := decide_eq_true b2
    clear h
    go_enter Try.func9, Try.ntmps9
    go_wp2
    exact bodyPost_ret (v := .tuple #[.int .u64 0, .int .i64 1]) (by simp [results, Try.results9, go_sem]) rfl ⟨rfl, Gr.refl _⟩
  have a2 : decide ((8 : Int) ≤ m) = false := decide_eq_false b2
  by_cases b3 : r < 1
  · have a3 : decide ((r : Int) < 1) = true := decide_eq_true (by omega)
    clear h
    go_enter Try.func9, Try.ntmps9
    go_wp2
    exact bodyPost_ret (v := .tuple #[.int .u64 0, .int .i64 1]) (by simp [results, Try.results9, go_sem]) rfl ⟨rfl, Gr.refl _⟩
  have a3 : decide ((r : Int) < 1) = false := decide_eq_false (by omega)
  have a4 : decide ((1152921504606846976 : Int) < (r : Int)) = true := decide_eq_true (by omega)
  clear h
  go_enter Try.func9, Try.ntmps9
  go_wp2
  exact bodyPost_ret (v := .tuple #[.int .u64 0, .int .i64 1]) (by simp [results, Try.results9, go_sem]) rfl ⟨rfl, Gr.refl _⟩
set_option maxRecDepth 100000 in
theorem rballot_yes (r k : Nat) (h1 : 1 ≤ r) (h2 : r ≤ 1152921504606846976) (hk : k < 8) (w : World) :
    Calls Try.prog 10 #[.int .u64 (r : Int), .int .i64 (k : Int)] w fun e w' => e = .returned (.tuple #[.int .u64 ((8 * r + k : Nat) : Int), .int .i64 0]) ∧ Gr w w' := by
  have a1 : decide ((k : Int) < 0) = false := decide_eq_false (by omega)
  have a2 : decide ((8 : Int) ≤ (k : Int)) = false := decide_eq_false (by omega)
  have a3 : decide ((r : Int) < 1) = false := decide_eq_false (by omega)
  have a4 : decide ((1152921504606846976 : Int) < (r : Int)) = false := decide_eq_false (by omega)
  have a5 : (0 : Int) ≤ (r : Int) := by omega
  have a6 : (r : Int) ≤ 1152921504606846976 := by omega
  have a7 : (0 : Int) ≤ (k : Int) := by omega
  have a8 : (k : Int) < 8 := by omega
  have HV := Lib.hid (show (((8 * r + k : Nat) : Int)) = (r : Int) * 8 + (k : Int) by omega)
  go_enter Try.func10, Try.ntmps10
  go_wp2
  refine bodyPost_ret (v := .tuple #[.int .u64 ((8 * r + k : Nat) : Int), .int .i64 0]) ?_ rfl ⟨rfl, Gr.refl _⟩
  rw [HV.out]
  simp [results, Try.results10, go_sem]
set_option maxRecDepth 100000 in
theorem rballot_no (r : Nat) (m : Int) (h : m < 0 ∨ 8 ≤ m ∨ r < 1 ∨ 1152921504606846976 < r) (w : World) :
    Calls Try.prog 10 #[.int .u64 (r : Int), .int .i64 m] w fun e w' => e = .returned (.tuple #[.int .u64 0, .int .i64 1]) ∧ Gr w w' := by
  by_cases b1 : m < 0
  · have a1 : decide (m < 0) = true := decide_eq_true b1
    clear h
    go_enter Try.func10, Try.ntmps10
    go_wp2
    exact bodyPost_ret (v := .tuple #[.int .u64 0, .int .i64 1]) (by simp [results, Try.results10, go_sem]) rfl ⟨rfl, Gr.refl _⟩
  have a1 : decide (m < 0) = false := decide_eq_false b1
  by_cases b2 : 8 ≤ m
  · have a2 : decide ((8 : Int) ≤ m) = true := decide_eq_true b2
    clear h
    go_enter Try.func10, Try.ntmps10
    go_wp2
    exact bodyPost_ret (v := .tuple #[.int .u64 0, .int .i64 1]) (by simp [results, Try.results10, go_sem]) rfl ⟨rfl, Gr.refl _⟩
  have a2 : decide ((8 : Int) ≤ m) = false := decide_eq_false b2
  by_cases b3 : r < 1
  · have a3 : decide ((r : Int) < 1) = true := decide_eq_true (by omega)
    clear h
    go_enter Try.func10, Try.ntmps10
    go_wp2
    exact bodyPost_ret (v := .tuple #[.int .u64 0, .int .i64 1]) (by simp [results, Try.results10, go_sem]) rfl ⟨rfl, Gr.refl _⟩
  have a3 : decide ((r : Int) < 1) = false := decide_eq_false (by omega)
  have a4 : decide ((1152921504606846976 : Int) < (r : Int)) = true := decide_eq_true (by omega)
  clear h
  go_enter Try.func10, Try.ntmps10
  go_wp2
  exact bodyPost_ret (v := .tuple #[.int .u64 0, .int .i64 1]) (by simp [results, Try.results10, go_sem]) rfl ⟨rfl, Gr.refl _⟩

/-- An acceptor, as a value. -/
abbrev accs (p a : Nat) (s : ByteArray) : Array Value := #[.int .u64 (p : Int), .int .u64 (a : Int), .string s]
/-- Its zero. -/
abbrev acc0 : Array Value := #[.int .u64 0, .int .u64 0, .string ⟨#[]⟩]
abbrev acv (p a : Nat) (s : ByteArray) : Value := .agg (accs p a s)
theorem gr_obj' {w w' : World} (g : Gr w w') {b : Nat} {o : Obj} (h : w.heap[b]? = some o) : w'.heap[b]? = some o := by
  rw [g.block b (Array.getElem?_eq_some_iff.1 h).1]
  exact h
theorem cell_of_obj {w : World} {b i : Nat} {cs : Array Value} {t : TypeId} {fr : Nat × Nat} {v : Value} (h : w.heap[b]? = some (.cells cs t fr)) (hv : cs[i]? = some v) : w.cell? ⟨b, i, none⟩ = some v := by
  unfold World.cell?
  simp only [h]
  exact hv
theorem free_of_obj {w : World} {b : Nat} (i : Nat) {cs : Array Value} {t : TypeId} (h : w.heap[b]? = some (.cells cs t (0, 0))) : w.frozen? ⟨b, i, none⟩ = false := by
  unfold World.frozen?
  simp only [h]
  simp
/-- Two boxes. -/
theorem boxes2o (x y : Array Value) (t u : TypeId) (w : World) : ∃ W, W = (w.alloc (.cells x t)).alloc (.cells y u) ∧ Gr w W ∧ W.heap[w.heap.size]? = some (.cells x t (0, 0)) ∧ W.heap[w.heap.size + 1]? = some (.cells y u (0, 0)) := by
  refine ⟨_, rfl, (Gr.refl w |>.alloc _ |>.alloc _), ?_, ?_⟩
  · rw [(MapKept.heap_alloc _ _).2 _ (by simp)]
    exact (MapKept.heap_alloc w _).1
  · have h := (MapKept.heap_alloc (w.alloc (.cells x t)) (.cells y u)).1
    simpa using h
theorem Gr.set {a b : World} (h : Gr a b) {g : Nat} (hg : a.heap.size ≤ g) (i : Nat) (u : Value) : Gr a (b.setCell ⟨g, i, none⟩ u) :=
  Below.setCell h hg _
set_option maxRecDepth 100000 in
theorem copied_any (p a : Nat) (s : ByteArray) (hs : s.size ≤ 281474976710656) (w : World) :
    Calls Try.prog 20 #[acv p a s] w fun e w' => e = .returned (acv p a s) ∧ Gr w w' := by
  obtain ⟨W, hW, hg, h1, h2⟩ := boxes2o (accs p a s) acc0 24 24 w
  have hc2 := cell_of_obj (i := 2) h1 rfl
  have HC := Lib.hid (fun w => clone_any s hs w)
  clear hs
  go_enter Try.func20, Try.ntmps20
  go_wp2_with fail
  rw [← hW]
  clear hW
  go_wp2_with fail
  refine (HC.out _).mono ?_
  rintro e w1 ⟨rfl, g1⟩
  have k1 := gr_obj' g1 h1
  have k2 := gr_obj' g1 h2
  have HG := Lib.hid (hg.trans g1)
  clear h1 h2 hc2 hg g1
  have c0 := cell_of_obj (i := 0) k1 rfl
  have c1 := cell_of_obj (i := 1) k1 rfl
  have c2 := cell_of_obj (i := 2) k1 rfl
  have f2 := free_of_obj 2 k1
  have d0 : w1.cell? ⟨w.heap.size + 1, 0, none⟩ = some (.int .u64 0) := cell_of_obj (i := 0) k2 rfl
  have d1 : w1.cell? ⟨w.heap.size + 1, 1, none⟩ = some (.int .u64 0) := cell_of_obj (i := 1) k2 rfl
  have d2 : w1.cell? ⟨w.heap.size + 1, 2, none⟩ = some (.string ⟨#[]⟩) := cell_of_obj (i := 2) k2 rfl
  have e0 := free_of_obj 0 k2
  have e1 := free_of_obj 1 k2
  have e2 := free_of_obj 2 k2
  clear k1 k2
  go_wp2
  refine bodyPost_ret (v := acv p a s) (by simp [results, Try.results20, go_sem, *]) rfl ⟨rfl, ?_⟩
  exact (((HG.out.set (by omega) _ _).set (by omega) _ _).set (by omega) _ _).set (by omega) _ _

theorem set_obj_other' {w : World} {b b' i : Nat} {o : Obj} (h : w.heap[b']? = some o) (hne : b' ≠ b) (v : Value) : (w.setCell ⟨b, i, none⟩ v).heap[b']? = some o := by
  rw [Below.heap_setCell w ⟨b, i, none⟩ v b' hne]
  exact h
set_option maxRecDepth 100000 in
theorem prepare_yes (p a n : Nat) (s : ByteArray) (hs : s.size ≤ 281474976710656) (hlt : p < n) (w : World) :
    Calls Try.prog 11 #[acv p a s, .int .u64 (n : Int)] w fun e w' => e = .returned (.tuple #[acv n a s, .bool true]) ∧ Gr w w' := by
  obtain ⟨W, hW, hg, h1, h2⟩ := boxes2o (accs p a s) acc0 24 24 w
  have HC := Lib.hid (fun w => copied_any n a s hs w)
  have a1 : decide (p < n) = true := decide_eq_true (by omega)
  have c0 : W.cell? ⟨w.heap.size, 0, none⟩ = some (.int .u64 (p : Int)) := cell_of_obj (i := 0) h1 rfl
  have c1 : W.cell? ⟨w.heap.size, 1, none⟩ = some (.int .u64 (a : Int)) := cell_of_obj (i := 1) h1 rfl
  have c2 : W.cell? ⟨w.heap.size, 2, none⟩ = some (.string s) := cell_of_obj (i := 2) h1 rfl
  have f0 := free_of_obj 0 h1
  have f1 := free_of_obj 1 h1
  have f2 := free_of_obj 2 h1
  have H2 := Lib.hid (fun v => set_obj_other' (b := w.heap.size) (i := 0) h2 (by omega) v)
  have HG := Lib.hid (fun v => hg.set (Nat.le_refl _) 0 v)
  clear hs hlt h1 h2 hg
  go_enter Try.func11, Try.ntmps11
  go_upto_region 1 with (fail)
  rw [← hW]
  clear hW
  go_wp2_with fail
  refine (HC.out _).mono ?_
  rintro e w1 ⟨rfl, g1⟩
  have k2 := gr_obj' g1 (H2.out _)
  have HH := Lib.hid ((HG.out _).trans g1)
  clear g1 c0 c1 c2 f0 f1 f2
  have d0 : w1.cell? ⟨w.heap.size + 1, 0, none⟩ = some (.int .u64 0) := cell_of_obj (i := 0) k2 rfl
  have d1 : w1.cell? ⟨w.heap.size + 1, 1, none⟩ = some (.int .u64 0) := cell_of_obj (i := 1) k2 rfl
  have d2 : w1.cell? ⟨w.heap.size + 1, 2, none⟩ = some (.string ⟨#[]⟩) := cell_of_obj (i := 2) k2 rfl
  have e0 := free_of_obj 0 k2
  have e1 := free_of_obj 1 k2
  have e2 := free_of_obj 2 k2
  clear k2
  go_wp2
  refine bodyPost_ret (v := .tuple #[acv n a s, .bool true]) (by simp [results, Try.results11, go_sem, *]) rfl ⟨rfl, ?_⟩
  exact ((HH.out.set (by omega) _ _).set (by omega) _ _).set (by omega) _ _
set_option maxRecDepth 100000 in
theorem prepare_no (p a n : Nat) (s : ByteArray) (hs : s.size ≤ 281474976710656) (hlt : ¬ p < n) (w : World) :
    Calls Try.prog 11 #[acv p a s, .int .u64 (n : Int)] w fun e w' => e = .returned (.tuple #[acv p a s, .bool false]) ∧ Gr w w' := by
  obtain ⟨W, hW, hg, h1, h2⟩ := boxes2o (accs p a s) acc0 24 24 w
  have HC := Lib.hid (fun w => copied_any p a s hs w)
  have a1 : decide (p < n) = false := decide_eq_false (by omega)
  have c0 : W.cell? ⟨w.heap.size, 0, none⟩ = some (.int .u64 (p : Int)) := cell_of_obj (i := 0) h1 rfl
  have c1 : W.cell? ⟨w.heap.size, 1, none⟩ = some (.int .u64 (a : Int)) := cell_of_obj (i := 1) h1 rfl
  have c2 : W.cell? ⟨w.heap.size, 2, none⟩ = some (.string s) := cell_of_obj (i := 2) h1 rfl
  have f0 := free_of_obj 0 h1
  have f1 := free_of_obj 1 h1
  have f2 := free_of_obj 2 h1
  have H2 := Lib.hid h2
  have HG := Lib.hid hg
  clear hs hlt h1 h2 hg
  go_enter Try.func11, Try.ntmps11
  go_upto_region 1 with (fail)
  rw [← hW]
  clear hW
  go_wp2_with fail
  refine (HC.out _).mono ?_
  rintro e w1 ⟨rfl, g1⟩
  have k2 := gr_obj' g1 H2.out
  have HH := Lib.hid (HG.out.trans g1)
  clear g1 c0 c1 c2 f0 f1 f2
  have d0 : w1.cell? ⟨w.heap.size + 1, 0, none⟩ = some (.int .u64 0) := cell_of_obj (i := 0) k2 rfl
  have d1 : w1.cell? ⟨w.heap.size + 1, 1, none⟩ = some (.int .u64 0) := cell_of_obj (i := 1) k2 rfl
  have d2 : w1.cell? ⟨w.heap.size + 1, 2, none⟩ = some (.string ⟨#[]⟩) := cell_of_obj (i := 2) k2 rfl
  have e0 := free_of_obj 0 k2
  have e1 := free_of_obj 1 k2
  have e2 := free_of_obj 2 k2
  clear k2
  go_wp2
  refine bodyPost_ret (v := .tuple #[acv p a s, .bool false]) (by simp [results, Try.results11, go_sem, *]) rfl ⟨rfl, ?_⟩
  exact ((HH.out.set (by omega) _ _).set (by omega) _ _).set (by omega) _ _
set_option maxRecDepth 100000 in
theorem accept_yes (p a n : Nat) (s x : ByteArray) (hs : x.size ≤ 281474976710656) (hlt : p ≤ n) (h0 : n ≠ 0) (w : World) :
    Calls Try.prog 13 #[acv p a s, .int .u64 (n : Int), .string x] w fun e w' => e = .returned (.tuple #[acv n n x, .bool true]) ∧ Gr w w' := by
  obtain ⟨W, hW, hg, h1, h2⟩ := boxes2o (accs p a s) acc0 24 24 w
  have HC := Lib.hid (fun w => copied_any n n x hs w)
  have a1 : decide (p ≤ n) = true := decide_eq_true (by omega)
  have a2 : ((n : Int) != 0) = true := by simp; omega
  have c0 : W.cell? ⟨w.heap.size, 0, none⟩ = some (.int .u64 (p : Int)) := cell_of_obj (i := 0) h1 rfl
  have c1 : W.cell? ⟨w.heap.size, 1, none⟩ = some (.int .u64 (a : Int)) := cell_of_obj (i := 1) h1 rfl
  have c2 : W.cell? ⟨w.heap.size, 2, none⟩ = some (.string s) := cell_of_obj (i := 2) h1 rfl
  have f0 := free_of_obj 0 h1
  have f1 := free_of_obj 1 h1
  have f2 := free_of_obj 2 h1
  have H2 := Lib.hid (fun u v z => set_obj_other' (b := w.heap.size) (i := 2) (set_obj_other' (b := w.heap.size) (i := 1) (set_obj_other' (b := w.heap.size) (i := 0) h2 (by omega) u) (by omega) v) (by omega) z)
  have HG := Lib.hid (fun u v z => ((hg.set (Nat.le_refl _) 0 u).set (Nat.le_refl _) 1 v).set (Nat.le_refl _) 2 z)
  clear hs hlt h0 h1 h2 hg
  go_enter Try.func13, Try.ntmps13
  go_upto_region 1 with (fail)
  rw [← hW]
  clear hW
  go_wp2_with fail
  refine (HC.out _).mono ?_
  rintro e w1 ⟨rfl, g1⟩
  have k2 := gr_obj' g1 (H2.out _ _ _)
  have HH := Lib.hid ((HG.out _ _ _).trans g1)
  clear g1 c0 c1 c2 f0 f1 f2
  have d0 : w1.cell? ⟨w.heap.size + 1, 0, none⟩ = some (.int .u64 0) := cell_of_obj (i := 0) k2 rfl
  have d1 : w1.cell? ⟨w.heap.size + 1, 1, none⟩ = some (.int .u64 0) := cell_of_obj (i := 1) k2 rfl
  have d2 : w1.cell? ⟨w.heap.size + 1, 2, none⟩ = some (.string ⟨#[]⟩) := cell_of_obj (i := 2) k2 rfl
  have e0 := free_of_obj 0 k2
  have e1 := free_of_obj 1 k2
  have e2 := free_of_obj 2 k2
  clear k2
  go_wp2
  refine bodyPost_ret (v := .tuple #[acv n n x, .bool true]) (by simp [results, Try.results13, go_sem, *]) rfl ⟨rfl, ?_⟩
  exact ((HH.out.set (by omega) _ _).set (by omega) _ _).set (by omega) _ _
set_option maxRecDepth 100000 in
theorem accept_no (p a n : Nat) (s x : ByteArray) (hs : s.size ≤ 281474976710656) (hlt : n < p ∨ n = 0) (w : World) :
    Calls Try.prog 13 #[acv p a s, .int .u64 (n : Int), .string x] w fun e w' => e = .returned (.tuple #[acv p a s, .bool false]) ∧ Gr w w' := by
  obtain ⟨W, hW, hg, h1, h2⟩ := boxes2o (accs p a s) acc0 24 24 w
  have HC := Lib.hid (fun w => copied_any p a s hs w)
  have c0 : W.cell? ⟨w.heap.size, 0, none⟩ = some (.int .u64 (p : Int)) := cell_of_obj (i := 0) h1 rfl
  have c1 : W.cell? ⟨w.heap.size, 1, none⟩ = some (.int .u64 (a : Int)) := cell_of_obj (i := 1) h1 rfl
  have c2 : W.cell? ⟨w.heap.size, 2, none⟩ = some (.string s) := cell_of_obj (i := 2) h1 rfl
  have f0 := free_of_obj 0 h1
  have f1 := free_of_obj 1 h1
  have f2 := free_of_obj 2 h1
  have H2 := Lib.hid h2
  have HG := Lib.hid hg
  clear hs h1 h2 hg
  by_cases hp : p ≤ n
  · have a1 : decide (p ≤ n) = true := decide_eq_true (by omega)
    have a2 : ((n : Int) != 0) = false := by simp; omega
    clear hp hlt
    go_enter Try.func13, Try.ntmps13
    go_upto_region 1 with (fail)
    rw [← hW]
    clear hW
    go_wp2_with fail
    refine (HC.out _).mono ?_
    rintro e w1 ⟨rfl, g1⟩
    have k2 := gr_obj' g1 H2.out
    have HH := Lib.hid (HG.out.trans g1)
    clear g1 c0 c1 c2 f0 f1 f2
    have d0 : w1.cell? ⟨w.heap.size + 1, 0, none⟩ = some (.int .u64 0) := cell_of_obj (i := 0) k2 rfl
    have d1 : w1.cell? ⟨w.heap.size + 1, 1, none⟩ = some (.int .u64 0) := cell_of_obj (i := 1) k2 rfl
    have d2 : w1.cell? ⟨w.heap.size + 1, 2, none⟩ = some (.string ⟨#[]⟩) := cell_of_obj (i := 2) k2 rfl
    have e0 := free_of_obj 0 k2
    have e1 := free_of_obj 1 k2
    have e2 := free_of_obj 2 k2
    clear k2
    go_wp2
    refine bodyPost_ret (v := .tuple #[acv p a s, .bool false]) (by simp [results, Try.results13, go_sem, *]) rfl ⟨rfl, ?_⟩
    exact ((HH.out.set (by omega) _ _).set (by omega) _ _).set (by omega) _ _
  · have a1 : decide (p ≤ n) = false := decide_eq_false (by omega)
    clear hp hlt
    go_enter Try.func13, Try.ntmps13
    go_upto_region 1 with (fail)
    rw [← hW]
    clear hW
    go_wp2_with fail
    refine (HC.out _).mono ?_
    rintro e w1 ⟨rfl, g1⟩
    have k2 := gr_obj' g1 H2.out
    have HH := Lib.hid (HG.out.trans g1)
    clear g1 c0 c1 c2 f0 f1 f2
    have d0 : w1.cell? ⟨w.heap.size + 1, 0, none⟩ = some (.int .u64 0) := cell_of_obj (i := 0) k2 rfl
    have d1 : w1.cell? ⟨w.heap.size + 1, 1, none⟩ = some (.int .u64 0) := cell_of_obj (i := 1) k2 rfl
    have d2 : w1.cell? ⟨w.heap.size + 1, 2, none⟩ = some (.string ⟨#[]⟩) := cell_of_obj (i := 2) k2 rfl
    have e0 := free_of_obj 0 k2
    have e1 := free_of_obj 1 k2
    have e2 := free_of_obj 2 k2
    clear k2
    go_wp2
    refine bodyPost_ret (v := .tuple #[acv p a s, .bool false]) (by simp [results, Try.results13, go_sem, *]) rfl ⟨rfl, ?_⟩
    exact ((HH.out.set (by omega) _ _).set (by omega) _ _).set (by omega) _ _
set_option maxRecDepth 100000 in
theorem rprepare_yes (p a n : Nat) (s : ByteArray) (hlt : p < n) (w : World) :
    Calls Try.prog 12 #[acv p a s, .int .u64 (n : Int)] w fun e w' => e = .returned (.tuple #[acv n a s, .bool true]) ∧ Gr w w' := by
  obtain ⟨W, hW, hg, h1, h2⟩ := boxes2o (accs p a s) acc0 24 24 w
  have a1 : decide (n ≤ p) = false := decide_eq_false (by omega)
  have c0 : W.cell? ⟨w.heap.size, 0, none⟩ = some (.int .u64 (p : Int)) := cell_of_obj (i := 0) h1 rfl
  have c1 : W.cell? ⟨w.heap.size, 1, none⟩ = some (.int .u64 (a : Int)) := cell_of_obj (i := 1) h1 rfl
  have c2 : W.cell? ⟨w.heap.size, 2, none⟩ = some (.string s) := cell_of_obj (i := 2) h1 rfl
  have f0 := free_of_obj 0 h1
  have f1 := free_of_obj 1 h1
  have f2 := free_of_obj 2 h1
  have d0 : W.cell? ⟨w.heap.size + 1, 0, none⟩ = some (.int .u64 0) := cell_of_obj (i := 0) h2 rfl
  have d1 : W.cell? ⟨w.heap.size + 1, 1, none⟩ = some (.int .u64 0) := cell_of_obj (i := 1) h2 rfl
  have d2 : W.cell? ⟨w.heap.size + 1, 2, none⟩ = some (.string ⟨#[]⟩) := cell_of_obj (i := 2) h2 rfl
  have e0 := free_of_obj 0 h2
  have e1 := free_of_obj 1 h2
  have e2 := free_of_obj 2 h2
  have HG := Lib.hid hg
  clear h1 h2 hg hlt
  go_enter Try.func12, Try.ntmps12
  go_upto_region 1 with (fail)
  rw [← hW]
  clear hW
  go_wp2
  refine bodyPost_ret (v := (.tuple #[acv n a s, .bool true])) (by simp [results, Try.results12, go_sem, *]) rfl ⟨rfl, ?_⟩
  exact (((HG.out.set (by omega) _ _).set (by omega) _ _).set (by omega) _ _).set (by omega) _ _
set_option maxRecDepth 100000 in
theorem rprepare_no (p a n : Nat) (s : ByteArray) (hlt : ¬ p < n) (w : World) :
    Calls Try.prog 12 #[acv p a s, .int .u64 (n : Int)] w fun e w' => e = .returned (.tuple #[acv p a s, .bool false]) ∧ Gr w w' := by
  obtain ⟨W, hW, hg, h1, h2⟩ := boxes2o (accs p a s) acc0 24 24 w
  have a1 : decide (n ≤ p) = true := decide_eq_true (by omega)
  have c0 : W.cell? ⟨w.heap.size, 0, none⟩ = some (.int .u64 (p : Int)) := cell_of_obj (i := 0) h1 rfl
  have c1 : W.cell? ⟨w.heap.size, 1, none⟩ = some (.int .u64 (a : Int)) := cell_of_obj (i := 1) h1 rfl
  have c2 : W.cell? ⟨w.heap.size, 2, none⟩ = some (.string s) := cell_of_obj (i := 2) h1 rfl
  have f0 := free_of_obj 0 h1
  have f1 := free_of_obj 1 h1
  have f2 := free_of_obj 2 h1
  have d0 : W.cell? ⟨w.heap.size + 1, 0, none⟩ = some (.int .u64 0) := cell_of_obj (i := 0) h2 rfl
  have d1 : W.cell? ⟨w.heap.size + 1, 1, none⟩ = some (.int .u64 0) := cell_of_obj (i := 1) h2 rfl
  have d2 : W.cell? ⟨w.heap.size + 1, 2, none⟩ = some (.string ⟨#[]⟩) := cell_of_obj (i := 2) h2 rfl
  have e0 := free_of_obj 0 h2
  have e1 := free_of_obj 1 h2
  have e2 := free_of_obj 2 h2
  have HG := Lib.hid hg
  clear h1 h2 hg hlt
  go_enter Try.func12, Try.ntmps12
  go_upto_region 1 with (fail)
  rw [← hW]
  clear hW
  go_wp2
  refine bodyPost_ret (v := (.tuple #[acv p a s, .bool false])) (by simp [results, Try.results12, go_sem, *]) rfl ⟨rfl, ?_⟩
  exact ((HG.out.set (by omega) _ _).set (by omega) _ _).set (by omega) _ _
set_option maxRecDepth 100000 in
theorem raccept_yes (p a n : Nat) (s x : ByteArray) (hlt : p ≤ n) (h0 : n ≠ 0) (w : World) :
    Calls Try.prog 14 #[acv p a s, .int .u64 (n : Int), .string x] w fun e w' => e = .returned (.tuple #[acv n n x, .bool true]) ∧ Gr w w' := by
  obtain ⟨W, hW, hg, h1, h2⟩ := boxes2o (accs p a s) acc0 24 24 w
  have a1 : decide (n < p) = false := decide_eq_false (by omega)
  have a2 : decide ((n : Int) < 1) = false := decide_eq_false (by omega)
  have c0 : W.cell? ⟨w.heap.size, 0, none⟩ = some (.int .u64 (p : Int)) := cell_of_obj (i := 0) h1 rfl
  have c1 : W.cell? ⟨w.heap.size, 1, none⟩ = some (.int .u64 (a : Int)) := cell_of_obj (i := 1) h1 rfl
  have c2 : W.cell? ⟨w.heap.size, 2, none⟩ = some (.string s) := cell_of_obj (i := 2) h1 rfl
  have f0 := free_of_obj 0 h1
  have f1 := free_of_obj 1 h1
  have f2 := free_of_obj 2 h1
  have d0 : W.cell? ⟨w.heap.size + 1, 0, none⟩ = some (.int .u64 0) := cell_of_obj (i := 0) h2 rfl
  have d1 : W.cell? ⟨w.heap.size + 1, 1, none⟩ = some (.int .u64 0) := cell_of_obj (i := 1) h2 rfl
  have d2 : W.cell? ⟨w.heap.size + 1, 2, none⟩ = some (.string ⟨#[]⟩) := cell_of_obj (i := 2) h2 rfl
  have e0 := free_of_obj 0 h2
  have e1 := free_of_obj 1 h2
  have e2 := free_of_obj 2 h2
  have HG := Lib.hid hg
  clear h1 h2 hg hlt h0
  go_enter Try.func14, Try.ntmps14
  go_upto_region 1 with (fail)
  rw [← hW]
  clear hW
  go_wp2
  refine bodyPost_ret (v := (.tuple #[acv n n x, .bool true])) (by simp [results, Try.results14, go_sem, *]) rfl ⟨rfl, ?_⟩
  exact ((HG.out.set (by omega) _ _).set (by omega) _ _).set (by omega) _ _
set_option maxRecDepth 100000 in
theorem raccept_below (p a n : Nat) (s x : ByteArray) (hlt : n < p) (w : World) :
    Calls Try.prog 14 #[acv p a s, .int .u64 (n : Int), .string x] w fun e w' => e = .returned (.tuple #[acv p a s, .bool false]) ∧ Gr w w' := by
  obtain ⟨W, hW, hg, h1, h2⟩ := boxes2o (accs p a s) acc0 24 24 w
  have a1 : decide (n < p) = true := decide_eq_true (by omega)
  have c0 : W.cell? ⟨w.heap.size, 0, none⟩ = some (.int .u64 (p : Int)) := cell_of_obj (i := 0) h1 rfl
  have c1 : W.cell? ⟨w.heap.size, 1, none⟩ = some (.int .u64 (a : Int)) := cell_of_obj (i := 1) h1 rfl
  have c2 : W.cell? ⟨w.heap.size, 2, none⟩ = some (.string s) := cell_of_obj (i := 2) h1 rfl
  have f0 := free_of_obj 0 h1
  have f1 := free_of_obj 1 h1
  have f2 := free_of_obj 2 h1
  have d0 : W.cell? ⟨w.heap.size + 1, 0, none⟩ = some (.int .u64 0) := cell_of_obj (i := 0) h2 rfl
  have d1 : W.cell? ⟨w.heap.size + 1, 1, none⟩ = some (.int .u64 0) := cell_of_obj (i := 1) h2 rfl
  have d2 : W.cell? ⟨w.heap.size + 1, 2, none⟩ = some (.string ⟨#[]⟩) := cell_of_obj (i := 2) h2 rfl
  have e0 := free_of_obj 0 h2
  have e1 := free_of_obj 1 h2
  have e2 := free_of_obj 2 h2
  have HG := Lib.hid hg
  clear h1 h2 hg hlt
  go_enter Try.func14, Try.ntmps14
  go_upto_region 1 with (fail)
  rw [← hW]
  clear hW
  go_wp2
  refine bodyPost_ret (v := (.tuple #[acv p a s, .bool false])) (by simp [results, Try.results14, go_sem, *]) rfl ⟨rfl, ?_⟩
  exact ((HG.out.set (by omega) _ _).set (by omega) _ _).set (by omega) _ _
set_option maxRecDepth 100000 in
theorem raccept_zero (p a n : Nat) (s x : ByteArray) (hlt : p ≤ n) (h0 : n = 0) (w : World) :
    Calls Try.prog 14 #[acv p a s, .int .u64 (n : Int), .string x] w fun e w' => e = .returned (.tuple #[acv p a s, .bool false]) ∧ Gr w w' := by
  obtain ⟨W, hW, hg, h1, h2⟩ := boxes2o (accs p a s) acc0 24 24 w
  have a1 : decide (n < p) = false := decide_eq_false (by omega)
  have a2 : decide ((n : Int) < 1) = true := decide_eq_true (by omega)
  have c0 : W.cell? ⟨w.heap.size, 0, none⟩ = some (.int .u64 (p : Int)) := cell_of_obj (i := 0) h1 rfl
  have c1 : W.cell? ⟨w.heap.size, 1, none⟩ = some (.int .u64 (a : Int)) := cell_of_obj (i := 1) h1 rfl
  have c2 : W.cell? ⟨w.heap.size, 2, none⟩ = some (.string s) := cell_of_obj (i := 2) h1 rfl
  have f0 := free_of_obj 0 h1
  have f1 := free_of_obj 1 h1
  have f2 := free_of_obj 2 h1
  have d0 : W.cell? ⟨w.heap.size + 1, 0, none⟩ = some (.int .u64 0) := cell_of_obj (i := 0) h2 rfl
  have d1 : W.cell? ⟨w.heap.size + 1, 1, none⟩ = some (.int .u64 0) := cell_of_obj (i := 1) h2 rfl
  have d2 : W.cell? ⟨w.heap.size + 1, 2, none⟩ = some (.string ⟨#[]⟩) := cell_of_obj (i := 2) h2 rfl
  have e0 := free_of_obj 0 h2
  have e1 := free_of_obj 1 h2
  have e2 := free_of_obj 2 h2
  have HG := Lib.hid hg
  clear h1 h2 hg hlt h0
  go_enter Try.func14, Try.ntmps14
  go_upto_region 1 with (fail)
  rw [← hW]
  clear hW
  go_wp2
  refine bodyPost_ret (v := (.tuple #[acv p a s, .bool false])) (by simp [results, Try.results14, go_sem, *]) rfl ⟨rfl, ?_⟩
  exact ((HG.out.set (by omega) _ _).set (by omega) _ _).set (by omega) _ _
end Go.Proofs.Ytboonfbbnidmbaa
