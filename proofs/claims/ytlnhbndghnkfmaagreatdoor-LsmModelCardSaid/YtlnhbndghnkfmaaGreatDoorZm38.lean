/- Walks: Open, over its method: the program's. Walks: Safe, Write, whole: the program's. Walks: slices.Backward of a slice, and the function that it answers: of files, of changes, of strings. -/
import Derived.Test.YtlnhbndghnkfmaaGreatDoorZm37
import Derived.RangeFuncNested
import Derived.RangeFuncBound
import Derived.RangeFuncCalls
import Derived.RangeFuncLeaves
import Derived.RangeFuncBox
import Derived.Shelf.Abstract
import Derived.Shelf.RegionOpen
import Derived.Sort.QuietIn
import Derived.WalkKit
import Derived.OwnWalkIn
import Derived.TacticsInMore
import Derived.LoopNIn
import Derived.LoopIn
import Derived.Test.YtlnhbndghnkfmaaGreatDoorZm11
import Derived.Test.YtlnhbndghnkfmaaGreatDoorZm02
import Derived.Test.YtlnhbndghnkfmaaGreatDoorZm05
import Derived.Test.YtlnhbndghnkfmaaGreatDoorZm06
namespace Go.Proofs.YtlnhbndghnkfmaaGreatDoor
open Go.RowKit

set_option maxRecDepth 100000 in
set_option maxHeartbeats 4000000 in
/-- lsm.Open, over its method. -/
theorem open_top (v : Value) (L : List F) (r : St × List O × Nat) (w : World) (hv : FV w v L) (hf : Fit L) (hlen : L.length * 48 ≤ 140737488355328)
    (H : ∀ (w1 : World) (B bd : Nat) (vF vM vT : Value), Gr w w1 → w.heap.size ≤ B → B ≤ w1.heap.size → DRow w1 B bd vF vM vT (.slice none 0 0) L [] [] 0 0 [] → Calls Tryz.prog 37 #[.pointer (some ⟨bd, 0, none⟩)] w1 fun e w' => RetMeth B bd r w1 e w') :
    Calls Tryz.prog 12 #[.agg #[v]] w fun e w' => RetTop (topR r) w e w' := by
  have H1 := Lib.hid (fun w1 (q : Gr w w1) => draftOf_any v (.slice none 0 0) (.slice none 0 0) 0 0 L [] [] w1 (hv.gr q) (CO.nil w1 0).cv (SO.nil w1 0).sv hf hlen (by decide) (by decide) (fun c h => by cases h) (fun c h => by cases h))
  have H2 := Lib.hid H
  obtain ⟨AF, nF, cF, rfl⟩ : ∃ A n c, v = .slice A n c := by
    obtain ⟨A, c, h, _⟩ := hv
    exact ⟨A, _, c, h⟩
  obtain ⟨files, hfiles⟩ : ∃ x, x = L := ⟨_, rfl⟩
  subst hfiles
  obtain ⟨⟨rf, rm, rt, rg, rk⟩, rD, er⟩ := r
  clear hv hf hlen H
  unfold stval at H1
  obtain ⟨W, hW⟩ : ∃ W, W = (w.alloc (.cells #[.slice AF nF cF] 24)).alloc (.cells #[.slice none 0 0, .slice none 0 0, .slice none 0 0, .int .i64 0, .int .i64 0] 30) := ⟨_, rfl⟩
  have hgW : Gr w W := by rw [hW]; exact (gr_box _ _).alloc _
  have hX : W.heap[w.heap.size]? = some (.cells #[.slice AF nF cF] 24 (0, 0)) := by
    rw [hW]
    exact gr_obj (gr_box _ _) (heap_alloc_new w _)
  have hR : W.heap[w.heap.size + 1]? = some (.cells #[.slice none 0 0, .slice none 0 0, .slice none 0 0, .int .i64 0, .int .i64 0] 30 (0, 0)) := by
    rw [hW]
    have := heap_alloc_new (w.alloc (.cells #[.slice AF nF cF] 24)) (.cells #[.slice none 0 0, .slice none 0 0, .slice none 0 0, .int .i64 0, .int .i64 0] 30)
    simpa using this
  go_enter Tryz.func12, Tryz.ntmps12
  go_wp2_with fail
  rw [← hW]
  clear hW
  refine (H1.out _ hgW).mono ?_
  rintro e w1 ⟨v1, v2, v3, rfl, ho1, ho2, ho3, g1⟩
  obtain ⟨A1, k1, rfl, -, -⟩ := own_form ho1
  obtain ⟨A2, k2, rfl, -, -⟩ := own_form ho2
  obtain ⟨A3, k3, rfl, -, -⟩ := own_form ho3
  have hg1 := hgW.trans g1
  have hX1 := gr_obj g1 hX
  have hR1 := gr_obj g1 hR
  have hd1 := drow_new (s := ⟨files, [], [], 0, 0⟩) ho1 ho2 ho3 g1.size
  have hd1 : DRow (w1.alloc (.cells #[.slice A1 files.length k1, .slice A2 0 k2, .slice A3 0 k3, .int .i64 0, .int .i64 0, .slice none 0 0] 74)) W.heap.size w1.heap.size (.slice A1 files.length k1) (.slice A2 0 k2) (.slice A3 0 k3) (.slice none 0 0) files [] [] 0 0 [] := hd1
  obtain ⟨bd, hbd⟩ : ∃ b, b = w1.heap.size := ⟨_, rfl⟩
  obtain ⟨W2, hW2⟩ : ∃ W, W = w1.alloc (.cells #[.slice A1 files.length k1, .slice A2 0 k2, .slice A3 0 k3, .int .i64 0, .int .i64 0, .slice none 0 0] 74) := ⟨_, rfl⟩
  have hg2 : Gr w W2 := by rw [hW2]; exact hg1.alloc _
  rw [← hW2, ← hbd] at hd1
  have hX2 : W2.heap[w.heap.size]? = some (.cells #[.slice AF nF cF] 24 (0, 0)) := by rw [hW2]; exact gr_obj (gr_box _ _) hX1
  have hR2 : W2.heap[w.heap.size + 1]? = some (.cells #[.slice none 0 0, .slice none 0 0, .slice none 0 0, .int .i64 0, .int .i64 0] 30 (0, 0)) := by rw [hW2]; exact gr_obj (gr_box _ _) hR1
  obtain ⟨B, hB⟩ : ∃ B, B = W.heap.size := ⟨_, rfl⟩
  have hbB : w.heap.size + 1 < B := by rw [hB]; exact (Array.getElem?_eq_some_iff.1 hR).1
  have hB2 : B ≤ W2.heap.size := by
    have := g1.size
    have := (gr_box w1 (.cells #[.slice A1 files.length k1, .slice A2 0 k2, .slice A3 0 k3, .int .i64 0, .int .i64 0, .slice none 0 0] 74)).size
    rw [hW2]
    omega
  rw [← hB] at hd1
  clear hX hR hgW g1 ho1 ho2 ho3 hX1 hR1 hg1 hB
  have HBD := Lib.hid hbd
  clear hbd
  go_wp2_with fail
  rw [← HBD.out, ← hW2]
  clear hW2
  have HD := Lib.hid hd1
  have HG2 := Lib.hid hg2
  have HR := Lib.hid hR2
  have HB := Lib.hid (And.intro hbB hB2)
  clear hd1 hg2 hX2 hR2 hbB hB2
  refine (H2.out _ B bd _ _ _ HG2.out (by have := HB.out; omega) HB.out.2 HD.out).mono ?_
  rintro e w3 ⟨rfl, h3, b3⟩
  dsimp only at h3
  have HG3 := Lib.hid (below_gr HG2.out rfl (below_le b3 (by have := HB.out; omega)))
  have HR3 : Hid (w3.heap[w.heap.size + 1]? = some (.cells #[.slice none 0 0, .slice none 0 0, .slice none 0 0, .int .i64 0, .int .i64 0] 30 (0, 0))) := Lib.hid (by rw [b3.block _ HB.out.1]; exact HR.out)
  by_cases he : er = 0
  · subst he
    obtain ⟨uF, uM, uT, uD, hd3⟩ := h3 rfl
    have H5 := Lib.hid (answer_yes B bd uF uM uT uD rf rm rt rg rk rD w3 hd3)
    have HD3 := Lib.hid hd3
    obtain ⟨B1, l1, rfl, -, -⟩ := own_form hd3.files
    obtain ⟨B2, l2, rfl, -, -⟩ := own_form hd3.mem
    obtain ⟨B3, l3, rfl, -, -⟩ := own_form hd3.tabs
    obtain ⟨B4, l4, rfl, -, -⟩ := own_form hd3.ops
    clear h3 b3 hd3
    go_wp2_with fail
    refine H5.out.mono ?_
    rintro e w4 ⟨rfl, g4⟩
    have hR4 := gr_obj g4 HR3.out
    have HO := Lib.hid (HD3.out.gr g4)
    have HG4 := Lib.hid (HG3.out.trans g4)
    have HBX : Hid (BoxAt w4 (w.heap.size + 1) 30) := Lib.hid ⟨_, hR4⟩
    have r0 := obj_cell hR4 (i := 0) rfl
    have r1 := obj_cell hR4 (i := 1) rfl
    have r2 := obj_cell hR4 (i := 2) rfl
    have r3 := obj_cell hR4 (i := 3) rfl
    have r4 := obj_cell hR4 (i := 4) rfl
    have z0 := obj_free (i := 0) hR4
    have z1 := obj_free (i := 1) hR4
    have z2 := obj_free (i := 2) hR4
    have z3 := obj_free (i := 3) hR4
    have z4 := obj_free (i := 4) hR4
    clear hR4 g4 H5
    unfold stval
    go_wp2_with fail
    refine bodyPost_ret (v := .tuple #[stval (.slice B1 rf.length l1) (.slice B2 rm.length l2) (.slice B3 rt.length l3) rg rk, .slice B4 rD.length l4, .int .i64 0]) (by unfold stval; simp [results, Tryz.results12, go_sem, r0, r1, r2, r3, r4]) rfl ⟨_, _, rfl, ⟨_, _, _, rfl, ?_, ?_, ?_⟩, ?_, ?_⟩
    · exact own_five (HO.out.files.le (by have := HB.out; omega)) HBX.out (by decide) _ _ _ _ _
    · exact own_five (HO.out.mem.le (by have := HB.out; omega)) HBX.out (by decide) _ _ _ _ _
    · exact own_five (HO.out.tabs.le (by have := HB.out; omega)) HBX.out (by decide) _ _ _ _ _
    · exact own_five (HO.out.ops.le (by have := HB.out; omega)) HBX.out (by decide) _ _ _ _ _
    · exact gr_five HG4.out (Nat.le_succ _) _ _ _ _ _
  · have H5 := Lib.hid (answer_no (.pointer (some ⟨bd, 0, none⟩)) er he w3)
    clear h3 b3
    go_wp2_with fail
    refine H5.out.mono ?_
    rintro e w4 ⟨rfl, g4⟩
    have hR4 := gr_obj g4 HR3.out
    have HG4 := Lib.hid (HG3.out.trans g4)
    have HBX : Hid (BoxAt w4 (w.heap.size + 1) 30) := Lib.hid ⟨_, hR4⟩
    have r0 := obj_cell hR4 (i := 0) rfl
    have r1 := obj_cell hR4 (i := 1) rfl
    have r2 := obj_cell hR4 (i := 2) rfl
    have r3 := obj_cell hR4 (i := 3) rfl
    have r4 := obj_cell hR4 (i := 4) rfl
    have z0 := obj_free (i := 0) hR4
    have z1 := obj_free (i := 1) hR4
    have z2 := obj_free (i := 2) hR4
    have z3 := obj_free (i := 3) hR4
    have z4 := obj_free (i := 4) hR4
    clear hR4 g4 H5
    unfold stzero
    go_wp2_with fail
    refine bodyPost_ret (v := .tuple #[stzero, .slice none 0 0, .int .i64 (er : Int)]) (by unfold stzero; simp [results, Tryz.results12, go_sem, r0, r1, r2, r3, r4]) rfl ⟨_, _, by unfold topR; rw [if_neg he], ?_, ?_, gr_five HG4.out (Nat.le_succ _) _ _ _ _ _⟩
    · unfold topR
      rw [if_neg he]
      exact StO.zero _ _
    · unfold topR
      rw [if_neg he]
      exact OO.nil _ _
end Go.Proofs.YtlnhbndghnkfmaaGreatDoor
namespace Go.Proofs.YtlnhbndghnkfmaaGreatDoor
open Go.RowKit

/-- Safe, in plain words. -/
def safeR (s : St) : St × List O × Nat := (⟨(run s.files (syncPlan s.files (logW s.gen))).1, s.mem, s.tabs, s.gen, s.marks⟩, syncPlan s.files (logW s.gen), (run s.files (syncPlan s.files (logW s.gen))).2.2)
theorem safe_any (v : Value) (s : St) (w : World) (hv : StV w v s) (hs : StOk s) :
    Calls Tryz.prog 47 #[v] w fun e w' => RetTop (topR (safeR s)) w e w' := by
  refine safe_top v s (safeR s) w hv hs ?_
  intro w1 B bd vF vM vT g1 hB1 hB2 hd
  refine (sync_m B bd vF vM vT _ s.files s.mem s.tabs s.gen s.marks [] (logW s.gen) w1 hd (logW_prefix _) hs.fit hs.files (by decide) hB2).mono ?_
  intro e w' h
  have h2 := RetDoM.meth hd.base hd.ops hB2 h
  rw [List.nil_append] at h2
  exact h2
theorem write_any (v vl : Value) (s : St) (l : List CR) (w : World) (hv : StV w v s) (hs : StOk s) (hm : (s.mem.length + 64) * 40 ≤ 140737488355328) (hl : CV w vl l) (hll : ∀ c ∈ l, c.key.size ≤ 281474976710656 ∧ c.val.size ≤ 281474976710656) (hH : Halves w) :
    Calls Tryz.prog 34 #[v, vl] w fun e w' => RetTop (topR (writeR s l)) w e w' := by
  refine write_top v vl s (writeR s l) w hv hs ?_
  intro w1 B bd vF vM vT g1 hB1 hB2 hd
  exact write_m B bd vF vM vT vl s l w1 hd (hl.gr g1) hs.fit hs.files hm hs.gen hll hB2 (hH.gr g1)
end Go.Proofs.YtlnhbndghnkfmaaGreatDoor
namespace Go.Proofs.YtlnhbndghnkfmaaGreatDoor
open Go.RowKit Go.Shelf
attribute [local go_sem] Oper.semAt_some

/-- The last k of N, the last one first. -/
def lastN (N k : Nat) : List (Fin N) := ((List.finRange N).reverse).take k
theorem lastN_len {N k : Nat} (h : k ≤ N) : (lastN N k).length = k := by unfold lastN; rw [List.length_take, List.length_reverse, List.length_finRange]; omega
theorem lastN_succ {N m : Nat} (h : m < N) : lastN N (N - m) = lastN N (N - (m + 1)) ++ [⟨m, h⟩] := by
  unfold lastN
  rw [show N - m = N - (m + 1) + 1 by omega, List.take_succ_eq_append_getElem (by rw [List.length_reverse, List.length_finRange]; omega), List.getElem_reverse, List.getElem_finRange]
  congr 2
  simp
  omega
theorem lastN_all (N : Nat) : lastN N N = (List.finRange N).reverse := List.take_of_length_le (by rw [List.length_reverse, List.length_finRange]; exact Nat.le_refl _)
/-- The block and the row's block lie as they lay. -/
def KeptS (B0 : Nat) (A : Option Addr) (W W' : World) : Prop := W'.heap[B0]? = W.heap[B0]? ∧ ∀ p, A = some p → W'.heap[p.block]? = W.heap[p.block]?
theorem KeptS.trans {B0 : Nat} {A : Option Addr} {a b c : World} (h : KeptS B0 A a b) (k : KeptS B0 A b c) : KeptS B0 A a c := ⟨k.1.trans h.1, fun p e => (k.2 p e).trans (h.2 p e)⟩
theorem KeptS.cell0 {B0 : Nat} {A : Option Addr} {a b : World} (h : KeptS B0 A a b) : b.cell? ⟨B0, 0, none⟩ = a.cell? ⟨B0, 0, none⟩ := by unfold World.cell?; simp only [h.1]
theorem KeptS.refl (B0 : Nat) (A : Option Addr) (a : World) : KeptS B0 A a a := ⟨rfl, fun _ _ => rfl⟩
theorem KeptS.cell {B0 g o off : Nat} {a b : World} (h : KeptS B0 (some ⟨g, o, none⟩) a b) : b.cell? ⟨g, off, none⟩ = a.cell? ⟨g, off, none⟩ := by
  have := h.2 _ rfl
  unfold World.cell?; simp only [this]
theorem KeptS.of_block {B0 : Nat} {A : Option Addr} {a b : World} (h : ∀ k, k < a.heap.size → (k = B0 ∨ ∃ p, A = some p ∧ k = p.block) → b.heap[k]? = a.heap[k]?) (h0 : B0 < a.heap.size) (h1 : ∀ p, A = some p → p.block < a.heap.size) : KeptS B0 A a b :=
  ⟨h _ h0 (.inl rfl), fun p e => h _ (h1 p e) (.inr ⟨p, e, rfl⟩)⟩

set_option maxRecDepth 100000 in
set_option maxHeartbeats 1000000 in
theorem bF_any (A : Option Addr) (len cap : Nat) (w : World) :
    Calls Tryz.prog 115 #[.slice A len cap] w fun e w' => e = .returned (.func (.func 147) #[] #[.pointer (some ⟨w.heap.size, 0, none⟩)]) ∧ w' = w.alloc (.cells #[.slice A len cap] 22) := by
  go_enter Tryz.func115, Tryz.ntmps115
  go_wp2_with fail
  go_ret
  exact ⟨rfl, rfl⟩
/-- Element number i as it is handed to the body. -/
def atF (L : List F) (i : Nat) : F := L[i]?.getD zeroF
theorem atF_get {L : List F} {i : Nat} (h : i < L.length) : atF L i = L[i] := by unfold atF; rw [List.getElem?_eq_getElem h]; rfl
def vF (f : F) : Value := .agg #[.string f.name, .string f.kept, .string f.loose]
theorem holdF {B0 : Nat} {A : Option Addr} {a b : World} {n c : Nat} {L : List F} (hv : FV a (.slice A n c) L) (h : KeptS B0 A a b) : FV b (.slice A n c) L := by
  obtain ⟨A', c', e, h1, h2, h3⟩ := hv
  injection e with e1 e2 e3
  subst e1 e3
  refine ⟨A, c, by rw [e2], h1, h2, fun j hj => ?_⟩
  obtain ⟨g, off, ha, hc⟩ := h3 j hj
  subst ha
  exact ⟨g, off, rfl, h.cell.trans hc.1, h.cell.trans hc.2.1, h.cell.trans hc.2.2⟩
theorem cellsF {A : Option Addr} {a : World} {n c : Nat} {L : List F} (hv : FV a (.slice A n c) L) {j : Nat} (hj : j < n) : ∃ g off, A = some ⟨g, off, none⟩ ∧ a.cell? ⟨g, off + j * 3, none⟩ = some (.string (atF L j).name) ∧ a.cell? ⟨g, off + j * 3 + 1, none⟩ = some (.string (atF L j).kept) ∧ a.cell? ⟨g, off + j * 3 + 2, none⟩ = some (.string (atF L j).loose) := by
  obtain ⟨A', c', e, h1, h2, h3⟩ := hv
  injection e with e1 e2 e3
  subst e1 e3
  obtain ⟨g, off, ha, hc⟩ := h3 j (by omega)
  rw [atF_get (by omega)]
  exact ⟨g, off, ha, hc⟩
set_option maxRecDepth 100000 in
set_option maxHeartbeats 2000000 in
theorem bF1_in (n : Nat) (hn : 1 ≤ n) (l B0 : Nat) (A : Option Addr) (N cap : Nat) (L : List F) (hN : N ≤ cap) (hcap : cap ≤ 9223372036854775807) (J Jx : List (Fin N) → World → Prop)
    (hY : ∀ pre (x : Fin N) W, J pre W → pre.length < N → YieldAt Fence.wide (n - 1) Tryz.prog l #[.int .i64 (x.1 : Int), vF (atF L x.1)] W fun e W' =>
      (e = .returned (.bool true) ∧ J (pre ++ [x]) W' ∧ KeptS B0 A W W') ∨ (e = .returned (.bool false) ∧ Jx (pre ++ [x]) W'))
    (W : World) (hB0 : W.cell? ⟨B0, 0, none⟩ = some (.slice A N cap)) (hv : FV W (.slice A N cap) L) (h0 : J [] W) :
    CallsIn Fence.wide n Tryz.prog 147 #[.func (.yield l) #[] #[], .pointer (some ⟨B0, 0, none⟩)] W fun e W' => (∃ v, e = .returned v) ∧
      ((∃ xs, xs = (List.finRange N).reverse ∧ J xs W') ∨ (∃ pre, (∃ k, k ≤ N ∧ pre = lastN N k) ∧ Jx pre W')) := by
  refine callsIn_of_wp Tryz.func147 rfl trivial ?_ rfl
  simp only [Tryz.ntmps147, List.size_toArray, List.length_cons, List.length_nil, Nat.reduceAdd, Nat.reduceSub, Array.replicate_succ, Array.replicate_zero, List.push_toArray, List.append_toArray, List.nil_append, List.cons_append]
  have HV := Lib.hid hv
  clear hv
  gi_wp2
  gi_loopw [3] (fun i wr => ∃ m : Nat, m ≤ N ∧ i = .int .i64 ((m : Int) - 1) ∧ J (lastN N (N - m)) wr ∧ KeptS B0 A W wr) (fun i _ => (intOf i + 1).toNat)
  case atStart => exact ⟨N, Nat.le_refl _, by go_num, by rw [Nat.sub_self]; exact h0, KeptS.refl _ _ _⟩
  case round =>
    obtain ⟨m, hm, rfl, hJs, hnx⟩ := hrel
    have q0 := hnx.cell0.trans hB0
    by_cases hlt : m = 0
    · subst hlt
      rw [Nat.sub_zero] at hJs
      gi_wp2
      go_end0
      exact ⟨⟨_, rfl⟩, .inl ⟨_, rfl, by rw [← lastN_all]; exact hJs⟩⟩
    · obtain ⟨i, rfl⟩ : ∃ i, m = i + 1 := ⟨m - 1, by omega⟩
      rw [show (((i + 1 : Nat) : Int) - 1) = (i : Int) by omega]
      obtain ⟨g, off, rfl, c0, c1, c2⟩ := cellsF (holdF HV.out hnx) (show i < N by omega)
      have HJ := Lib.hid hJs
      have u0 : (0 : Int) ≤ (i : Int) := by omega
      have u1 : (i : Int) < (N : Int) := by omega
      obtain ⟨fn, tmps, assign, body, hy, hR⟩ := hY _ ⟨i, by omega⟩ wr HJ.out (by rw [lastN_len (by omega)]; omega)
      unfold vF at hy
      have HR := Lib.hid hR
      have HNX := Lib.hid hnx
      clear hR hJs hnx
      obtain ⟨f, hf⟩ : ∃ f, f = atF L i := ⟨_, rfl⟩
      dsimp only at hy
      rw [← hf] at hy c0 c1 c2
      clear hf
      gi_wp2
      refine HR.out.mono ?_
      rintro e W3 (⟨rfl, hJ3, hk3⟩ | ⟨rfl, hJx3⟩)
      · have HN3 := Lib.hid (HNX.out.trans hk3)
        have HJ3 := Lib.hid hJ3
        have s0 := HN3.out.cell0.trans hB0
        clear hy hk3 hJ3 q0 c0 c1 c2
        gi_wp2
        go_roundw
        case rel => exact ⟨i, by omega, by go_num, by rw [lastN_succ (by omega)]; exact HJ3.out, HN3.out⟩
        case measure => simp [intOf]
      · have HJ3 := Lib.hid hJx3
        clear hJx3 hy q0 c0 c1 c2
        gi_wp2
        refine bodyPost_ret (results_none rfl _ _ _) rfl ?_
        exact ⟨⟨_, rfl⟩, .inr ⟨_, ⟨N - i, by omega, (lastN_succ (by omega)).symm⟩, HJ3.out⟩⟩
theorem bF_stops (n : Nat) (hn : 1 ≤ n) (B0 : Nat) (A : Option Addr) (N cap : Nat) (L : List F) (hN : N ≤ cap) (hcap : cap ≤ 9223372036854775807) (w : World) (h0 : B0 < w.heap.size) (hA : ∀ p, A = some p → p.block < w.heap.size)
    (hB0 : w.cell? ⟨B0, 0, none⟩ = some (.slice A N cap)) (hv : FV w (.slice A N cap) L) :
    SeqStopsK Fence.wide n Tryz.prog 147 #[.pointer (some ⟨B0, 0, none⟩)] (fun x : Fin N => #[.int .i64 (x.1 : Int), vF (atF L x.1)]) (KeptS B0 A) (fun xs => xs = (List.finRange N).reverse) (fun pre => ∃ k, k ≤ N ∧ pre = lastN N k) N w := fun l J Jx W hW _ _ hY hj =>
  bF1_in n hn l B0 A N cap L hN hcap J Jx hY W ((hW.cell (p := ⟨B0, 0, none⟩) h0).trans hB0) (holdF hv (KeptS.of_block (fun k hk _ => hW.block k hk) h0 hA)) hj

set_option maxRecDepth 100000 in
set_option maxHeartbeats 1000000 in
theorem bC_any (A : Option Addr) (len cap : Nat) (w : World) :
    Calls Tryz.prog 54 #[.slice A len cap] w fun e w' => e = .returned (.func (.func 96) #[] #[.pointer (some ⟨w.heap.size, 0, none⟩)]) ∧ w' = w.alloc (.cells #[.slice A len cap] 27) := by
  go_enter Tryz.func54, Tryz.ntmps54
  go_wp2_with fail
  go_ret
  exact ⟨rfl, rfl⟩
/-- Element number i as it is handed to the body. -/
def atC (L : List CR) (i : Nat) : CR := L[i]?.getD ⟨⟨#[]⟩, ⟨#[]⟩, false⟩
theorem atC_get {L : List CR} {i : Nat} (h : i < L.length) : atC L i = L[i] := by unfold atC; rw [List.getElem?_eq_getElem h]; rfl
def vC (f : CR) : Value := .agg #[.string f.key, .string f.val, .bool f.gone]
theorem holdC {B0 : Nat} {A : Option Addr} {a b : World} {n c : Nat} {L : List CR} (hv : CV a (.slice A n c) L) (h : KeptS B0 A a b) : CV b (.slice A n c) L := by
  obtain ⟨A', c', e, h1, h2, h3⟩ := hv
  injection e with e1 e2 e3
  subst e1 e3
  refine ⟨A, c, by rw [e2], h1, h2, fun j hj => ?_⟩
  obtain ⟨g, off, ha, hc⟩ := h3 j hj
  subst ha
  exact ⟨g, off, rfl, h.cell.trans hc.1, h.cell.trans hc.2.1, h.cell.trans hc.2.2⟩
theorem cellsC {A : Option Addr} {a : World} {n c : Nat} {L : List CR} (hv : CV a (.slice A n c) L) {j : Nat} (hj : j < n) : ∃ g off, A = some ⟨g, off, none⟩ ∧ a.cell? ⟨g, off + j * 3, none⟩ = some (.string (atC L j).key) ∧ a.cell? ⟨g, off + j * 3 + 1, none⟩ = some (.string (atC L j).val) ∧ a.cell? ⟨g, off + j * 3 + 2, none⟩ = some (.bool (atC L j).gone) := by
  obtain ⟨A', c', e, h1, h2, h3⟩ := hv
  injection e with e1 e2 e3
  subst e1 e3
  obtain ⟨g, off, ha, hc⟩ := h3 j (by omega)
  rw [atC_get (by omega)]
  exact ⟨g, off, ha, hc⟩
set_option maxRecDepth 100000 in
set_option maxHeartbeats 2000000 in
theorem bC1_in (n : Nat) (hn : 1 ≤ n) (l B0 : Nat) (A : Option Addr) (N cap : Nat) (L : List CR) (hN : N ≤ cap) (hcap : cap ≤ 9223372036854775807) (J Jx : List (Fin N) → World → Prop)
    (hY : ∀ pre (x : Fin N) W, J pre W → pre.length < N → YieldAt Fence.wide (n - 1) Tryz.prog l #[.int .i64 (x.1 : Int), vC (atC L x.1)] W fun e W' =>
      (e = .returned (.bool true) ∧ J (pre ++ [x]) W' ∧ KeptS B0 A W W') ∨ (e = .returned (.bool false) ∧ Jx (pre ++ [x]) W'))
    (W : World) (hB0 : W.cell? ⟨B0, 0, none⟩ = some (.slice A N cap)) (hv : CV W (.slice A N cap) L) (h0 : J [] W) :
    CallsIn Fence.wide n Tryz.prog 96 #[.func (.yield l) #[] #[], .pointer (some ⟨B0, 0, none⟩)] W fun e W' => (∃ v, e = .returned v) ∧
      ((∃ xs, xs = (List.finRange N).reverse ∧ J xs W') ∨ (∃ pre, (∃ k, k ≤ N ∧ pre = lastN N k) ∧ Jx pre W')) := by
  refine callsIn_of_wp Tryz.func96 rfl trivial ?_ rfl
  simp only [Tryz.ntmps96, List.size_toArray, List.length_cons, List.length_nil, Nat.reduceAdd, Nat.reduceSub, Array.replicate_succ, Array.replicate_zero, List.push_toArray, List.append_toArray, List.nil_append, List.cons_append]
  have HV := Lib.hid hv
  clear hv
  gi_wp2
  gi_loopw [3] (fun i wr => ∃ m : Nat, m ≤ N ∧ i = .int .i64 ((m : Int) - 1) ∧ J (lastN N (N - m)) wr ∧ KeptS B0 A W wr) (fun i _ => (intOf i + 1).toNat)
  case atStart => exact ⟨N, Nat.le_refl _, by go_num, by rw [Nat.sub_self]; exact h0, KeptS.refl _ _ _⟩
  case round =>
    obtain ⟨m, hm, rfl, hJs, hnx⟩ := hrel
    have q0 := hnx.cell0.trans hB0
    by_cases hlt : m = 0
    · subst hlt
      rw [Nat.sub_zero] at hJs
      gi_wp2
      go_end0
      exact ⟨⟨_, rfl⟩, .inl ⟨_, rfl, by rw [← lastN_all]; exact hJs⟩⟩
    · obtain ⟨i, rfl⟩ : ∃ i, m = i + 1 := ⟨m - 1, by omega⟩
      rw [show (((i + 1 : Nat) : Int) - 1) = (i : Int) by omega]
      obtain ⟨g, off, rfl, c0, c1, c2⟩ := cellsC (holdC HV.out hnx) (show i < N by omega)
      have HJ := Lib.hid hJs
      have u0 : (0 : Int) ≤ (i : Int) := by omega
      have u1 : (i : Int) < (N : Int) := by omega
      obtain ⟨fn, tmps, assign, body, hy, hR⟩ := hY _ ⟨i, by omega⟩ wr HJ.out (by rw [lastN_len (by omega)]; omega)
      unfold vC at hy
      have HR := Lib.hid hR
      have HNX := Lib.hid hnx
      clear hR hJs hnx
      obtain ⟨f, hf⟩ : ∃ f, f = atC L i := ⟨_, rfl⟩
      dsimp only at hy
      rw [← hf] at hy c0 c1 c2
      clear hf
      gi_wp2
      refine HR.out.mono ?_
      rintro e W3 (⟨rfl, hJ3, hk3⟩ | ⟨rfl, hJx3⟩)
      · have HN3 := Lib.hid (HNX.out.trans hk3)
        have HJ3 := Lib.hid hJ3
        have s0 := HN3.out.cell0.trans hB0
        clear hy hk3 hJ3 q0 c0 c1 c2
        gi_wp2
        go_roundw
        case rel => exact ⟨i, by omega, by go_num, by rw [lastN_succ (by omega)]; exact HJ3.out, HN3.out⟩
        case measure => simp [intOf]
      · have HJ3 := Lib.hid hJx3
        clear hJx3 hy q0 c0 c1 c2
        gi_wp2
        refine bodyPost_ret (results_none rfl _ _ _) rfl ?_
        exact ⟨⟨_, rfl⟩, .inr ⟨_, ⟨N - i, by omega, (lastN_succ (by omega)).symm⟩, HJ3.out⟩⟩
theorem bC_stops (n : Nat) (hn : 1 ≤ n) (B0 : Nat) (A : Option Addr) (N cap : Nat) (L : List CR) (hN : N ≤ cap) (hcap : cap ≤ 9223372036854775807) (w : World) (h0 : B0 < w.heap.size) (hA : ∀ p, A = some p → p.block < w.heap.size)
    (hB0 : w.cell? ⟨B0, 0, none⟩ = some (.slice A N cap)) (hv : CV w (.slice A N cap) L) :
    SeqStopsK Fence.wide n Tryz.prog 96 #[.pointer (some ⟨B0, 0, none⟩)] (fun x : Fin N => #[.int .i64 (x.1 : Int), vC (atC L x.1)]) (KeptS B0 A) (fun xs => xs = (List.finRange N).reverse) (fun pre => ∃ k, k ≤ N ∧ pre = lastN N k) N w := fun l J Jx W hW _ _ hY hj =>
  bC1_in n hn l B0 A N cap L hN hcap J Jx hY W ((hW.cell (p := ⟨B0, 0, none⟩) h0).trans hB0) (holdC hv (KeptS.of_block (fun k hk _ => hW.block k hk) h0 hA)) hj

set_option maxRecDepth 100000 in
set_option maxHeartbeats 1000000 in
theorem bS_any (A : Option Addr) (len cap : Nat) (w : World) :
    Calls Tryz.prog 56 #[.slice A len cap] w fun e w' => e = .returned (.func (.func 97) #[] #[.pointer (some ⟨w.heap.size, 0, none⟩)]) ∧ w' = w.alloc (.cells #[.slice A len cap] 28) := by
  go_enter Tryz.func56, Tryz.ntmps56
  go_wp2_with fail
  go_ret
  exact ⟨rfl, rfl⟩
/-- Element number i as it is handed to the body. -/
def atS (L : List ByteArray) (i : Nat) : ByteArray := L[i]?.getD ⟨#[]⟩
theorem atS_get {L : List ByteArray} {i : Nat} (h : i < L.length) : atS L i = L[i] := by unfold atS; rw [List.getElem?_eq_getElem h]; rfl
def vS (f : ByteArray) : Value := .string f
theorem holdS {B0 : Nat} {A : Option Addr} {a b : World} {n c : Nat} {L : List ByteArray} (hv : SV a (.slice A n c) L) (h : KeptS B0 A a b) : SV b (.slice A n c) L := by
  obtain ⟨A', c', e, h1, h2, h3⟩ := hv
  injection e with e1 e2 e3
  subst e1 e3
  refine ⟨A, c, by rw [e2], h1, h2, fun j hj => ?_⟩
  obtain ⟨g, off, ha, hc⟩ := h3 j hj
  subst ha
  exact ⟨g, off, rfl, h.cell.trans hc⟩
theorem cellsS {A : Option Addr} {a : World} {n c : Nat} {L : List ByteArray} (hv : SV a (.slice A n c) L) {j : Nat} (hj : j < n) : ∃ g off, A = some ⟨g, off, none⟩ ∧ a.cell? ⟨g, off + j, none⟩ = some (.string (atS L j)) := by
  obtain ⟨A', c', e, h1, h2, h3⟩ := hv
  injection e with e1 e2 e3
  subst e1 e3
  obtain ⟨g, off, ha, hc⟩ := h3 j (by omega)
  rw [atS_get (by omega)]
  exact ⟨g, off, ha, hc⟩
set_option maxRecDepth 100000 in
set_option maxHeartbeats 2000000 in
theorem bS1_in (n : Nat) (hn : 1 ≤ n) (l B0 : Nat) (A : Option Addr) (N cap : Nat) (L : List ByteArray) (hN : N ≤ cap) (hcap : cap ≤ 9223372036854775807) (J Jx : List (Fin N) → World → Prop)
    (hY : ∀ pre (x : Fin N) W, J pre W → pre.length < N → YieldAt Fence.wide (n - 1) Tryz.prog l #[.int .i64 (x.1 : Int), vS (atS L x.1)] W fun e W' =>
      (e = .returned (.bool true) ∧ J (pre ++ [x]) W' ∧ KeptS B0 A W W') ∨ (e = .returned (.bool false) ∧ Jx (pre ++ [x]) W'))
    (W : World) (hB0 : W.cell? ⟨B0, 0, none⟩ = some (.slice A N cap)) (hv : SV W (.slice A N cap) L) (h0 : J [] W) :
    CallsIn Fence.wide n Tryz.prog 97 #[.func (.yield l) #[] #[], .pointer (some ⟨B0, 0, none⟩)] W fun e W' => (∃ v, e = .returned v) ∧
      ((∃ xs, xs = (List.finRange N).reverse ∧ J xs W') ∨ (∃ pre, (∃ k, k ≤ N ∧ pre = lastN N k) ∧ Jx pre W')) := by
  refine callsIn_of_wp Tryz.func97 rfl trivial ?_ rfl
  simp only [Tryz.ntmps97, List.size_toArray, List.length_cons, List.length_nil, Nat.reduceAdd, Nat.reduceSub, Array.replicate_succ, Array.replicate_zero, List.push_toArray, List.append_toArray, List.nil_append, List.cons_append]
  have HV := Lib.hid hv
  clear hv
  gi_wp2
  gi_loopw [3] (fun i wr => ∃ m : Nat, m ≤ N ∧ i = .int .i64 ((m : Int) - 1) ∧ J (lastN N (N - m)) wr ∧ KeptS B0 A W wr) (fun i _ => (intOf i + 1).toNat)
  case atStart => exact ⟨N, Nat.le_refl _, by go_num, by rw [Nat.sub_self]; exact h0, KeptS.refl _ _ _⟩
  case round =>
    obtain ⟨m, hm, rfl, hJs, hnx⟩ := hrel
    have q0 := hnx.cell0.trans hB0
    by_cases hlt : m = 0
    · subst hlt
      rw [Nat.sub_zero] at hJs
      gi_wp2
      go_end0
      exact ⟨⟨_, rfl⟩, .inl ⟨_, rfl, by rw [← lastN_all]; exact hJs⟩⟩
    · obtain ⟨i, rfl⟩ : ∃ i, m = i + 1 := ⟨m - 1, by omega⟩
      rw [show (((i + 1 : Nat) : Int) - 1) = (i : Int) by omega]
      obtain ⟨g, off, rfl, c0⟩ := cellsS (holdS HV.out hnx) (show i < N by omega)
      have HJ := Lib.hid hJs
      have u0 : (0 : Int) ≤ (i : Int) := by omega
      have u1 : (i : Int) < (N : Int) := by omega
      obtain ⟨fn, tmps, assign, body, hy, hR⟩ := hY _ ⟨i, by omega⟩ wr HJ.out (by rw [lastN_len (by omega)]; omega)
      unfold vS at hy
      have HR := Lib.hid hR
      have HNX := Lib.hid hnx
      clear hR hJs hnx
      obtain ⟨f, hf⟩ : ∃ f, f = atS L i := ⟨_, rfl⟩
      dsimp only at hy
      rw [← hf] at hy c0
      clear hf
      gi_wp2
      refine HR.out.mono ?_
      rintro e W3 (⟨rfl, hJ3, hk3⟩ | ⟨rfl, hJx3⟩)
      · have HN3 := Lib.hid (HNX.out.trans hk3)
        have HJ3 := Lib.hid hJ3
        have s0 := HN3.out.cell0.trans hB0
        clear hy hk3 hJ3 q0 c0
        gi_wp2
        go_roundw
        case rel => exact ⟨i, by omega, by go_num, by rw [lastN_succ (by omega)]; exact HJ3.out, HN3.out⟩
        case measure => simp [intOf]
      · have HJ3 := Lib.hid hJx3
        clear hJx3 hy q0 c0
        gi_wp2
        refine bodyPost_ret (results_none rfl _ _ _) rfl ?_
        exact ⟨⟨_, rfl⟩, .inr ⟨_, ⟨N - i, by omega, (lastN_succ (by omega)).symm⟩, HJ3.out⟩⟩
theorem bS_stops (n : Nat) (hn : 1 ≤ n) (B0 : Nat) (A : Option Addr) (N cap : Nat) (L : List ByteArray) (hN : N ≤ cap) (hcap : cap ≤ 9223372036854775807) (w : World) (h0 : B0 < w.heap.size) (hA : ∀ p, A = some p → p.block < w.heap.size)
    (hB0 : w.cell? ⟨B0, 0, none⟩ = some (.slice A N cap)) (hv : SV w (.slice A N cap) L) :
    SeqStopsK Fence.wide n Tryz.prog 97 #[.pointer (some ⟨B0, 0, none⟩)] (fun x : Fin N => #[.int .i64 (x.1 : Int), vS (atS L x.1)]) (KeptS B0 A) (fun xs => xs = (List.finRange N).reverse) (fun pre => ∃ k, k ≤ N ∧ pre = lastN N k) N w := fun l J Jx W hW _ _ hY hj =>
  bS1_in n hn l B0 A N cap L hN hcap J Jx hY W ((hW.cell (p := ⟨B0, 0, none⟩) h0).trans hB0) (holdS hv (KeptS.of_block (fun k hk _ => hW.block k hk) h0 hA)) hj
end Go.Proofs.YtlnhbndghnkfmaaGreatDoor
