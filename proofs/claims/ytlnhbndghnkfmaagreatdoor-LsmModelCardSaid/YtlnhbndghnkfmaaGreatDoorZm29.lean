/- Walks: the calls of a store, over their methods: the program's. -/
import Derived.Test.YtlnhbndghnkfmaaGreatDoorZm28
namespace Go.Proofs.YtlnhbndghnkfmaaGreatDoor
open Go.RowKit

/-- A store. -/
structure St where
  files : List F
  mem : List CR
  tabs : List ByteArray
  gen : Nat
  marks : Nat
def st0 : St := ⟨[], [], [], 0, 0⟩
/-- The value v reads as this store. -/
def StV (w : World) (v : Value) (s : St) : Prop := ∃ vF vM vT, v = stval vF vM vT s.gen s.marks ∧ FV w vF s.files ∧ CV w vM s.mem ∧ SV w vT s.tabs
theorem StV.gr {w w' : World} {v : Value} {s : St} (h : StV w v s) (g : Gr w w') : StV w' v s := by
  obtain ⟨a, b, c, h0, h1, h2, h3⟩ := h
  exact ⟨a, b, c, h0, h1.gr g, h2.gr g, h3.gr g⟩
/-- .. in rows of the call's own. -/
def StO (w : World) (B : Nat) (v : Value) (s : St) : Prop := ∃ vF vM vT, v = stval vF vM vT s.gen s.marks ∧ FO w B vF s.files ∧ CO w B vM s.mem ∧ SO w B vT s.tabs
theorem StO.gr {w w' : World} {B : Nat} {v : Value} {s : St} (h : StO w B v s) (g : Gr w w') : StO w' B v s := by
  obtain ⟨a, b, c, h0, h1, h2, h3⟩ := h
  exact ⟨a, b, c, h0, h1.gr g, h2.gr g, h3.gr g⟩
theorem StO.stv {w : World} {B : Nat} {v : Value} {s : St} (h : StO w B v s) : StV w v s := by
  obtain ⟨a, b, c, h0, h1, h2, h3⟩ := h
  exact ⟨a, b, c, h0, h1.fv, h2.cv, h3.sv⟩
theorem StO.zero (w : World) (B : Nat) : StO w B stzero st0 := ⟨_, _, _, rfl, FO.nil _ _, CO.nil _ _, SO.nil _ _⟩
/-- Numbers and strings that a machine can hold. -/
structure StOk (s : St) : Prop where
  fit : Fit s.files
  files : s.files.length * 48 ≤ 140737488355328
  mem : s.mem.length * 40 ≤ 140737488355328
  tabs : s.tabs.length * 16 ≤ 140737488355328
  mems : ∀ c ∈ s.mem, c.key.size ≤ 281474976710656 ∧ c.val.size ≤ 281474976710656
  names : ∀ t ∈ s.tabs, t.size ≤ 281474976710656
  gen : s.gen ≤ 4611686018427387904
  marks : s.marks ≤ 4611686018427387904
/-- What a call on a store answers. -/
def RetTop (r : St × List O × Nat) (w : World) (e : Ending) (w' : World) : Prop :=
  ∃ v vD, e = .returned (.tuple #[v, vD, .int .i64 (r.2.2 : Int)]) ∧ StO w' w.heap.size v r.1 ∧ OO w' w.heap.size vD r.2.1 ∧ Gr w w'
/-- What a method leaves of a draft. -/
def RetMeth (B bd : Nat) (r : St × List O × Nat) (w : World) (e : Ending) (w' : World) : Prop :=
  e = .returned (.int .i64 (r.2.2 : Int)) ∧ (r.2.2 = 0 → ∃ vF vM vT vD, DRow w' B bd vF vM vT vD r.1.files r.1.mem r.1.tabs r.1.gen r.1.marks r.2.1) ∧ Below B w w'
/-- A call's answer, of what its method answers. -/
def topR (r : St × List O × Nat) : St × List O × Nat := if r.2.2 = 0 then r else (st0, [], r.2.2)
theorem RetDoM.meth {B bd : Nat} {vM vT vD : Value} {L : List F} {M : List CR} {T : List ByteArray} {g m : Nat} {D P : List O} {w w' : World} {e : Ending} (hb : B ≤ bd) (hd : OO w B vD D) (hB : B ≤ w.heap.size) (h : RetDoM B bd vM vT vD L M T g m D P w e w') : RetMeth B bd (⟨(run L P).1, M, T, g, m⟩, D ++ P, (run L P).2.2) w e w' := by
  obtain ⟨h1, h2, h3⟩ := h
  refine ⟨h1, fun h => ?_, h3.below (Below.refl _ _) hB (fun i hi => ?_)⟩
  · obtain ⟨a, b, c, _⟩ := h2 h
    exact ⟨a, vM, vT, b, c⟩
  · rcases hi with rfl | hi
    · exact hb
    · exact (own_lt hd hi).2
/-- A draft's block as it is laid. -/
theorem drow_new {w : World} {B : Nat} {vF vM vT : Value} {s : St} (h1 : FO w B vF s.files) (h2 : CO w B vM s.mem) (h3 : SO w B vT s.tabs) (hB : B ≤ w.heap.size) :
    DRow (w.alloc (.cells #[vF, vM, vT, .int .i64 (s.gen : Int), .int .i64 (s.marks : Int), .slice none 0 0] 74)) B w.heap.size vF vM vT (.slice none 0 0) s.files s.mem s.tabs s.gen s.marks [] :=
  ⟨heap_alloc_new w _, hB, h1.gr (gr_box _ _), h2.gr (gr_box _ _), h3.gr (gr_box _ _), OO.nil _ _⟩
theorem below_le {B B' : Nat} {w w' : World} (h : Below B w w') (hB : B' ≤ B) : Below B' w w' := ⟨h.os, h.tape, h.output, h.size, fun i hi => h.block i (by omega)⟩
theorem below_gr {B : Nat} {w0 w w' : World} (h : Gr w0 w) (hB : w0.heap.size = B) (k : Below B w w') : Gr w0 w' :=
  ⟨k.os.trans h.os, k.tape.trans h.tape, k.output.trans h.output, Nat.le_trans h.size k.size, fun i hi => (k.block i (by omega)).trans (h.block i hi)⟩
set_option maxRecDepth 100000 in
set_option maxHeartbeats 4000000 in
/-- lsm.Safe, over its method. -/
theorem safe_top (v : Value) (s : St) (r : St × List O × Nat) (w : World) (hv : StV w v s) (hs : StOk s)
    (H : ∀ (w1 : World) (B bd : Nat) (vF vM vT : Value), Gr w w1 → w.heap.size ≤ B → B ≤ w1.heap.size → DRow w1 B bd vF vM vT (.slice none 0 0) s.files s.mem s.tabs s.gen s.marks [] → Calls Tryz.prog 85 #[.pointer (some ⟨bd, 0, none⟩), .string (logW s.gen)] w1 fun e w' => RetMeth B bd r w1 e w') :
    Calls Tryz.prog 47 #[v] w fun e w' => RetTop (topR r) w e w' := by
  obtain ⟨vF, vM, vT, rfl, hF, hM, hT⟩ := hv
  have H1 := Lib.hid (fun w1 (q : Gr w w1) => draftOf_any vF vM vT s.gen s.marks s.files s.mem s.tabs w1 (hF.gr q) (hM.gr q) (hT.gr q) hs.fit hs.files hs.mem hs.tabs hs.mems hs.names)
  have H2 := Lib.hid H
  have H0 := Lib.hid (fun w1 => logPrefix_any s.gen (by have := hs.gen; omega) w1)
  obtain ⟨AF, nF, cF, rfl⟩ : ∃ A n c, vF = .slice A n c := by
    obtain ⟨A, c, h, _⟩ := hF
    exact ⟨A, _, c, h⟩
  obtain ⟨AM, nM, cM, rfl⟩ : ∃ A n c, vM = .slice A n c := by
    obtain ⟨A, c, h, _⟩ := hM
    exact ⟨A, _, c, h⟩
  obtain ⟨AT, nT, cT, rfl⟩ : ∃ A n c, vT = .slice A n c := by
    obtain ⟨A, c, h, _⟩ := hT
    exact ⟨A, _, c, h⟩
  obtain ⟨files, mem, tabs, gen, marks⟩ := s
  obtain ⟨⟨rf, rm, rt, rg, rk⟩, rD, er⟩ := r
  clear hF hM hT hs H
  unfold stval at H1 ⊢
  dsimp only at H1 H2 H0 ⊢
  obtain ⟨W, hW⟩ : ∃ W, W = (w.alloc (.cells #[.slice AF nF cF, .slice AM nM cM, .slice AT nT cT, .int .i64 (gen : Int), .int .i64 (marks : Int)] 30)).alloc (.cells #[.slice none 0 0, .slice none 0 0, .slice none 0 0, .int .i64 0, .int .i64 0] 30) := ⟨_, rfl⟩
  have hgW : Gr w W := by rw [hW]; exact (gr_box _ _).alloc _
  have hX : W.heap[w.heap.size]? = some (.cells #[.slice AF nF cF, .slice AM nM cM, .slice AT nT cT, .int .i64 (gen : Int), .int .i64 (marks : Int)] 30 (0, 0)) := by
    rw [hW]
    exact gr_obj (gr_box _ _) (heap_alloc_new w _)
  have hR : W.heap[w.heap.size + 1]? = some (.cells #[.slice none 0 0, .slice none 0 0, .slice none 0 0, .int .i64 0, .int .i64 0] 30 (0, 0)) := by
    rw [hW]
    have := heap_alloc_new (w.alloc (.cells #[.slice AF nF cF, .slice AM nM cM, .slice AT nT cT, .int .i64 (gen : Int), .int .i64 (marks : Int)] 30)) (.cells #[.slice none 0 0, .slice none 0 0, .slice none 0 0, .int .i64 0, .int .i64 0] 30)
    simpa using this
  go_enter Tryz.func47, Tryz.ntmps47
  go_wp2_with fail
  rw [← hW]
  clear hW
  refine (H1.out _ hgW).mono ?_
  rintro e w1 ⟨v1, v2, v3, rfl, ho1, ho2, ho3, g1⟩
  obtain ⟨A1, k1, rfl, -, -⟩ := own_form ho1
  obtain ⟨A2, k2, rfl, -, -⟩ := own_form ho2
  obtain ⟨A3, k3, rfl, -, -⟩ := own_form ho3
  have hg1 := hgW.trans g1
  have hX1 := gr_obj g1 hX
  have hR1 := gr_obj g1 hR
  have hd1 := drow_new (s := ⟨files, mem, tabs, gen, marks⟩) ho1 ho2 ho3 g1.size
  dsimp only at hd1
  obtain ⟨bd, hbd⟩ : ∃ b, b = w1.heap.size := ⟨_, rfl⟩
  obtain ⟨W2, hW2⟩ : ∃ W, W = w1.alloc (.cells #[.slice A1 files.length k1, .slice A2 mem.length k2, .slice A3 tabs.length k3, .int .i64 (gen : Int), .int .i64 (marks : Int), .slice none 0 0] 74) := ⟨_, rfl⟩
  have hg2 : Gr w W2 := by rw [hW2]; exact hg1.alloc _
  rw [← hW2, ← hbd] at hd1
  have hX2 : W2.heap[w.heap.size]? = some (.cells #[.slice AF nF cF, .slice AM nM cM, .slice AT nT cT, .int .i64 (gen : Int), .int .i64 (marks : Int)] 30 (0, 0)) := by rw [hW2]; exact gr_obj (gr_box _ _) hX1
  have hR2 : W2.heap[w.heap.size + 1]? = some (.cells #[.slice none 0 0, .slice none 0 0, .slice none 0 0, .int .i64 0, .int .i64 0] 30 (0, 0)) := by rw [hW2]; exact gr_obj (gr_box _ _) hR1
  obtain ⟨B, hB⟩ : ∃ B, B = W.heap.size := ⟨_, rfl⟩
  have hbB : w.heap.size + 1 < B := by rw [hB]; exact (Array.getElem?_eq_some_iff.1 hR).1
  have hB2 : B ≤ W2.heap.size := by
    have := g1.size
    have := (gr_box w1 (.cells #[.slice A1 files.length k1, .slice A2 mem.length k2, .slice A3 tabs.length k3, .int .i64 (gen : Int), .int .i64 (marks : Int), .slice none 0 0] 74)).size
    rw [hW2]
    omega
  rw [← hB] at hd1
  clear hX hR hgW g1 ho1 ho2 ho3 hX1 hR1 hg1 hB
  have HBD := Lib.hid hbd
  clear hbd
  have c3 : (w1.alloc (.cells #[.slice A1 files.length k1, .slice A2 mem.length k2, .slice A3 tabs.length k3, .int .i64 (gen : Int), .int .i64 (marks : Int), .slice none 0 0] 74)).cell? ⟨w.heap.size, 3, none⟩ = some (.int .i64 (gen : Int)) := by rw [← hW2]; exact obj_cell hX2 (i := 3) rfl
  go_wp2_with fail
  rw [← HBD.out, ← hW2]
  clear hW2
  refine (H0.out _).mono ?_
  rintro e w9 ⟨rfl, g9⟩
  have hd1 := hd1.gr g9
  have hg2 := hg2.trans g9
  have hR2 := gr_obj g9 hR2
  have hB2 := Nat.le_trans hB2 g9.size
  clear c3
  go_wp2_with fail
  have HD := Lib.hid hd1
  have HG2 := Lib.hid hg2
  have HR := Lib.hid hR2
  have HB := Lib.hid (And.intro hbB hB2)
  clear hd1 hg2 hX2 hR2 hbB hB2
  refine (H2.out _ B bd _ _ _ HG2.out (by have := HB.out; omega) HB.out.2 HD.out).mono ?_
  rintro e w3 ⟨rfl, h3, b3⟩
  dsimp only at h3
  have HG3 := Lib.hid (below_gr HG2.out rfl (below_le b3 (by have := HB.out; omega)))
  have HR3 : Hid (w3.heap[w.heap.size + 1]? = some (.cells #[.slice none 0 0, .slice none 0 0, .slice none 0 0, .int .i64 0, .int .i64 0] 30 (0, 0))) := Lib.hid (by rw [b3.block _ HB.out.1]; exact HR.out)
  by_cases he : er = 0
  · subst he
    obtain ⟨uF, uM, uT, uD, hd3⟩ := h3 rfl
    have H5 := Lib.hid (answer_yes B bd uF uM uT uD rf rm rt rg rk rD w3 hd3)
    have HD3 := Lib.hid hd3
    obtain ⟨B1, l1, rfl, -, -⟩ := own_form hd3.files
    obtain ⟨B2, l2, rfl, -, -⟩ := own_form hd3.mem
    obtain ⟨B3, l3, rfl, -, -⟩ := own_form hd3.tabs
    obtain ⟨B4, l4, rfl, -, -⟩ := own_form hd3.ops
    clear h3 b3 hd3
    go_wp2_with fail
    refine H5.out.mono ?_
    rintro e w4 ⟨rfl, g4⟩
    have hR4 := gr_obj g4 HR3.out
    have HO := Lib.hid (HD3.out.gr g4)
    have HG4 := Lib.hid (HG3.out.trans g4)
    have HBX : Hid (BoxAt w4 (w.heap.size + 1) 30) := Lib.hid ⟨_, hR4⟩
    have r0 := obj_cell hR4 (i := 0) rfl
    have r1 := obj_cell hR4 (i := 1) rfl
    have r2 := obj_cell hR4 (i := 2) rfl
    have r3 := obj_cell hR4 (i := 3) rfl
    have r4 := obj_cell hR4 (i := 4) rfl
    have z0 := obj_free (i := 0) hR4
    have z1 := obj_free (i := 1) hR4
    have z2 := obj_free (i := 2) hR4
    have z3 := obj_free (i := 3) hR4
    have z4 := obj_free (i := 4) hR4
    clear hR4 g4 H5
    unfold stval
    go_wp2_with fail
    refine bodyPost_ret (v := .tuple #[stval (.slice B1 rf.length l1) (.slice B2 rm.length l2) (.slice B3 rt.length l3) rg rk, .slice B4 rD.length l4, .int .i64 0]) (by unfold stval; simp [results, Tryz.results47, go_sem, r0, r1, r2, r3, r4]) rfl ⟨_, _, rfl, ⟨_, _, _, rfl, ?_, ?_, ?_⟩, ?_, ?_⟩
    · exact own_five (HO.out.files.le (by have := HB.out; omega)) HBX.out (by decide) _ _ _ _ _
    · exact own_five (HO.out.mem.le (by have := HB.out; omega)) HBX.out (by decide) _ _ _ _ _
    · exact own_five (HO.out.tabs.le (by have := HB.out; omega)) HBX.out (by decide) _ _ _ _ _
    · exact own_five (HO.out.ops.le (by have := HB.out; omega)) HBX.out (by decide) _ _ _ _ _
    · exact gr_five HG4.out (Nat.le_succ _) _ _ _ _ _
  · have H5 := Lib.hid (answer_no (.pointer (some ⟨bd, 0, none⟩)) er he w3)
    clear h3 b3
    go_wp2_with fail
    refine H5.out.mono ?_
    rintro e w4 ⟨rfl, g4⟩
    have hR4 := gr_obj g4 HR3.out
    have HG4 := Lib.hid (HG3.out.trans g4)
    have HBX : Hid (BoxAt w4 (w.heap.size + 1) 30) := Lib.hid ⟨_, hR4⟩
    have r0 := obj_cell hR4 (i := 0) rfl
    have r1 := obj_cell hR4 (i := 1) rfl
    have r2 := obj_cell hR4 (i := 2) rfl
    have r3 := obj_cell hR4 (i := 3) rfl
    have r4 := obj_cell hR4 (i := 4) rfl
    have z0 := obj_free (i := 0) hR4
    have z1 := obj_free (i := 1) hR4
    have z2 := obj_free (i := 2) hR4
    have z3 := obj_free (i := 3) hR4
    have z4 := obj_free (i := 4) hR4
    clear hR4 g4 H5
    unfold stzero
    go_wp2_with fail
    refine bodyPost_ret (v := .tuple #[stzero, .slice none 0 0, .int .i64 (er : Int)]) (by unfold stzero; simp [results, Tryz.results47, go_sem, r0, r1, r2, r3, r4]) rfl ⟨_, _, by unfold topR; rw [if_neg he], ?_, ?_, gr_five HG4.out (Nat.le_succ _) _ _ _ _ _⟩
    · unfold topR
      rw [if_neg he]
      exact StO.zero _ _
    · unfold topR
      rw [if_neg he]
      exact OO.nil _ _
set_option maxRecDepth 100000 in
set_option maxHeartbeats 4000000 in
/-- lsm.Flush, over its method. -/
theorem flush_top (v : Value) (s : St) (r : St × List O × Nat) (w : World) (hv : StV w v s) (hs : StOk s)
    (H : ∀ (w1 : World) (B bd : Nat) (vF vM vT : Value), Gr w w1 → w.heap.size ≤ B → B ≤ w1.heap.size → DRow w1 B bd vF vM vT (.slice none 0 0) s.files s.mem s.tabs s.gen s.marks [] → Calls Tryz.prog 86 #[.pointer (some ⟨bd, 0, none⟩)] w1 fun e w' => RetMeth B bd r w1 e w') :
    Calls Tryz.prog 48 #[v] w fun e w' => RetTop (topR r) w e w' := by
  obtain ⟨vF, vM, vT, rfl, hF, hM, hT⟩ := hv
  have H1 := Lib.hid (fun w1 (q : Gr w w1) => draftOf_any vF vM vT s.gen s.marks s.files s.mem s.tabs w1 (hF.gr q) (hM.gr q) (hT.gr q) hs.fit hs.files hs.mem hs.tabs hs.mems hs.names)
  have H2 := Lib.hid H
  obtain ⟨AF, nF, cF, rfl⟩ : ∃ A n c, vF = .slice A n c := by
    obtain ⟨A, c, h, _⟩ := hF
    exact ⟨A, _, c, h⟩
  obtain ⟨AM, nM, cM, rfl⟩ : ∃ A n c, vM = .slice A n c := by
    obtain ⟨A, c, h, _⟩ := hM
    exact ⟨A, _, c, h⟩
  obtain ⟨AT, nT, cT, rfl⟩ : ∃ A n c, vT = .slice A n c := by
    obtain ⟨A, c, h, _⟩ := hT
    exact ⟨A, _, c, h⟩
  obtain ⟨files, mem, tabs, gen, marks⟩ := s
  obtain ⟨⟨rf, rm, rt, rg, rk⟩, rD, er⟩ := r
  clear hF hM hT hs H
  unfold stval at H1 ⊢
  dsimp only at H1 H2 ⊢
  obtain ⟨W, hW⟩ : ∃ W, W = (w.alloc (.cells #[.slice AF nF cF, .slice AM nM cM, .slice AT nT cT, .int .i64 (gen : Int), .int .i64 (marks : Int)] 30)).alloc (.cells #[.slice none 0 0, .slice none 0 0, .slice none 0 0, .int .i64 0, .int .i64 0] 30) := ⟨_, rfl⟩
  have hgW : Gr w W := by rw [hW]; exact (gr_box _ _).alloc _
  have hX : W.heap[w.heap.size]? = some (.cells #[.slice AF nF cF, .slice AM nM cM, .slice AT nT cT, .int .i64 (gen : Int), .int .i64 (marks : Int)] 30 (0, 0)) := by
    rw [hW]
    exact gr_obj (gr_box _ _) (heap_alloc_new w _)
  have hR : W.heap[w.heap.size + 1]? = some (.cells #[.slice none 0 0, .slice none 0 0, .slice none 0 0, .int .i64 0, .int .i64 0] 30 (0, 0)) := by
    rw [hW]
    have := heap_alloc_new (w.alloc (.cells #[.slice AF nF cF, .slice AM nM cM, .slice AT nT cT, .int .i64 (gen : Int), .int .i64 (marks : Int)] 30)) (.cells #[.slice none 0 0, .slice none 0 0, .slice none 0 0, .int .i64 0, .int .i64 0] 30)
    simpa using this
  go_enter Tryz.func48, Tryz.ntmps48
  go_wp2_with fail
  rw [← hW]
  clear hW
  refine (H1.out _ hgW).mono ?_
  rintro e w1 ⟨v1, v2, v3, rfl, ho1, ho2, ho3, g1⟩
  obtain ⟨A1, k1, rfl, -, -⟩ := own_form ho1
  obtain ⟨A2, k2, rfl, -, -⟩ := own_form ho2
  obtain ⟨A3, k3, rfl, -, -⟩ := own_form ho3
  have hg1 := hgW.trans g1
  have hX1 := gr_obj g1 hX
  have hR1 := gr_obj g1 hR
  have hd1 := drow_new (s := ⟨files, mem, tabs, gen, marks⟩) ho1 ho2 ho3 g1.size
  dsimp only at hd1
  obtain ⟨bd, hbd⟩ : ∃ b, b = w1.heap.size := ⟨_, rfl⟩
  obtain ⟨W2, hW2⟩ : ∃ W, W = w1.alloc (.cells #[.slice A1 files.length k1, .slice A2 mem.length k2, .slice A3 tabs.length k3, .int .i64 (gen : Int), .int .i64 (marks : Int), .slice none 0 0] 74) := ⟨_, rfl⟩
  have hg2 : Gr w W2 := by rw [hW2]; exact hg1.alloc _
  rw [← hW2, ← hbd] at hd1
  have hX2 : W2.heap[w.heap.size]? = some (.cells #[.slice AF nF cF, .slice AM nM cM, .slice AT nT cT, .int .i64 (gen : Int), .int .i64 (marks : Int)] 30 (0, 0)) := by rw [hW2]; exact gr_obj (gr_box _ _) hX1
  have hR2 : W2.heap[w.heap.size + 1]? = some (.cells #[.slice none 0 0, .slice none 0 0, .slice none 0 0, .int .i64 0, .int .i64 0] 30 (0, 0)) := by rw [hW2]; exact gr_obj (gr_box _ _) hR1
  obtain ⟨B, hB⟩ : ∃ B, B = W.heap.size := ⟨_, rfl⟩
  have hbB : w.heap.size + 1 < B := by rw [hB]; exact (Array.getElem?_eq_some_iff.1 hR).1
  have hB2 : B ≤ W2.heap.size := by
    have := g1.size
    have := (gr_box w1 (.cells #[.slice A1 files.length k1, .slice A2 mem.length k2, .slice A3 tabs.length k3, .int .i64 (gen : Int), .int .i64 (marks : Int), .slice none 0 0] 74)).size
    rw [hW2]
    omega
  rw [← hB] at hd1
  clear hX hR hgW g1 ho1 ho2 ho3 hX1 hR1 hg1 hB
  have HBD := Lib.hid hbd
  clear hbd
  go_wp2_with fail
  rw [← HBD.out, ← hW2]
  clear hW2
  have HD := Lib.hid hd1
  have HG2 := Lib.hid hg2
  have HR := Lib.hid hR2
  have HB := Lib.hid (And.intro hbB hB2)
  clear hd1 hg2 hX2 hR2 hbB hB2
  refine (H2.out _ B bd _ _ _ HG2.out (by have := HB.out; omega) HB.out.2 HD.out).mono ?_
  rintro e w3 ⟨rfl, h3, b3⟩
  dsimp only at h3
  have HG3 := Lib.hid (below_gr HG2.out rfl (below_le b3 (by have := HB.out; omega)))
  have HR3 : Hid (w3.heap[w.heap.size + 1]? = some (.cells #[.slice none 0 0, .slice none 0 0, .slice none 0 0, .int .i64 0, .int .i64 0] 30 (0, 0))) := Lib.hid (by rw [b3.block _ HB.out.1]; exact HR.out)
  by_cases he : er = 0
  · subst he
    obtain ⟨uF, uM, uT, uD, hd3⟩ := h3 rfl
    have H5 := Lib.hid (answer_yes B bd uF uM uT uD rf rm rt rg rk rD w3 hd3)
    have HD3 := Lib.hid hd3
    obtain ⟨B1, l1, rfl, -, -⟩ := own_form hd3.files
    obtain ⟨B2, l2, rfl, -, -⟩ := own_form hd3.mem
    obtain ⟨B3, l3, rfl, -, -⟩ := own_form hd3.tabs
    obtain ⟨B4, l4, rfl, -, -⟩ := own_form hd3.ops
    clear h3 b3 hd3
    go_wp2_with fail
    refine H5.out.mono ?_
    rintro e w4 ⟨rfl, g4⟩
    have hR4 := gr_obj g4 HR3.out
    have HO := Lib.hid (HD3.out.gr g4)
    have HG4 := Lib.hid (HG3.out.trans g4)
    have HBX : Hid (BoxAt w4 (w.heap.size + 1) 30) := Lib.hid ⟨_, hR4⟩
    have r0 := obj_cell hR4 (i := 0) rfl
    have r1 := obj_cell hR4 (i := 1) rfl
    have r2 := obj_cell hR4 (i := 2) rfl
    have r3 := obj_cell hR4 (i := 3) rfl
    have r4 := obj_cell hR4 (i := 4) rfl
    have z0 := obj_free (i := 0) hR4
    have z1 := obj_free (i := 1) hR4
    have z2 := obj_free (i := 2) hR4
    have z3 := obj_free (i := 3) hR4
    have z4 := obj_free (i := 4) hR4
    clear hR4 g4 H5
    unfold stval
    go_wp2_with fail
    refine bodyPost_ret (v := .tuple #[stval (.slice B1 rf.length l1) (.slice B2 rm.length l2) (.slice B3 rt.length l3) rg rk, .slice B4 rD.length l4, .int .i64 0]) (by unfold stval; simp [results, Tryz.results48, go_sem, r0, r1, r2, r3, r4]) rfl ⟨_, _, rfl, ⟨_, _, _, rfl, ?_, ?_, ?_⟩, ?_, ?_⟩
    · exact own_five (HO.out.files.le (by have := HB.out; omega)) HBX.out (by decide) _ _ _ _ _
    · exact own_five (HO.out.mem.le (by have := HB.out; omega)) HBX.out (by decide) _ _ _ _ _
    · exact own_five (HO.out.tabs.le (by have := HB.out; omega)) HBX.out (by decide) _ _ _ _ _
    · exact own_five (HO.out.ops.le (by have := HB.out; omega)) HBX.out (by decide) _ _ _ _ _
    · exact gr_five HG4.out (Nat.le_succ _) _ _ _ _ _
  · have H5 := Lib.hid (answer_no (.pointer (some ⟨bd, 0, none⟩)) er he w3)
    clear h3 b3
    go_wp2_with fail
    refine H5.out.mono ?_
    rintro e w4 ⟨rfl, g4⟩
    have hR4 := gr_obj g4 HR3.out
    have HG4 := Lib.hid (HG3.out.trans g4)
    have HBX : Hid (BoxAt w4 (w.heap.size + 1) 30) := Lib.hid ⟨_, hR4⟩
    have r0 := obj_cell hR4 (i := 0) rfl
    have r1 := obj_cell hR4 (i := 1) rfl
    have r2 := obj_cell hR4 (i := 2) rfl
    have r3 := obj_cell hR4 (i := 3) rfl
    have r4 := obj_cell hR4 (i := 4) rfl
    have z0 := obj_free (i := 0) hR4
    have z1 := obj_free (i := 1) hR4
    have z2 := obj_free (i := 2) hR4
    have z3 := obj_free (i := 3) hR4
    have z4 := obj_free (i := 4) hR4
    clear hR4 g4 H5
    unfold stzero
    go_wp2_with fail
    refine bodyPost_ret (v := .tuple #[stzero, .slice none 0 0, .int .i64 (er : Int)]) (by unfold stzero; simp [results, Tryz.results48, go_sem, r0, r1, r2, r3, r4]) rfl ⟨_, _, by unfold topR; rw [if_neg he], ?_, ?_, gr_five HG4.out (Nat.le_succ _) _ _ _ _ _⟩
    · unfold topR
      rw [if_neg he]
      exact StO.zero _ _
    · unfold topR
      rw [if_neg he]
      exact OO.nil _ _
set_option maxRecDepth 100000 in
set_option maxHeartbeats 4000000 in
/-- lsm.Merge, over its method. -/
theorem merge_top (v : Value) (s : St) (r : St × List O × Nat) (w : World) (hv : StV w v s) (hs : StOk s)
    (H : ∀ (w1 : World) (B bd : Nat) (vF vM vT : Value), Gr w w1 → w.heap.size ≤ B → B ≤ w1.heap.size → DRow w1 B bd vF vM vT (.slice none 0 0) s.files s.mem s.tabs s.gen s.marks [] → Calls Tryz.prog 87 #[.pointer (some ⟨bd, 0, none⟩)] w1 fun e w' => RetMeth B bd r w1 e w') :
    Calls Tryz.prog 49 #[v] w fun e w' => RetTop (topR r) w e w' := by
  obtain ⟨vF, vM, vT, rfl, hF, hM, hT⟩ := hv
  have H1 := Lib.hid (fun w1 (q : Gr w w1) => draftOf_any vF vM vT s.gen s.marks s.files s.mem s.tabs w1 (hF.gr q) (hM.gr q) (hT.gr q) hs.fit hs.files hs.mem hs.tabs hs.mems hs.names)
  have H2 := Lib.hid H
  obtain ⟨AF, nF, cF, rfl⟩ : ∃ A n c, vF = .slice A n c := by
    obtain ⟨A, c, h, _⟩ := hF
    exact ⟨A, _, c, h⟩
  obtain ⟨AM, nM, cM, rfl⟩ : ∃ A n c, vM = .slice A n c := by
    obtain ⟨A, c, h, _⟩ := hM
    exact ⟨A, _, c, h⟩
  obtain ⟨AT, nT, cT, rfl⟩ : ∃ A n c, vT = .slice A n c := by
    obtain ⟨A, c, h, _⟩ := hT
    exact ⟨A, _, c, h⟩
  obtain ⟨files, mem, tabs, gen, marks⟩ := s
  obtain ⟨⟨rf, rm, rt, rg, rk⟩, rD, er⟩ := r
  clear hF hM hT hs H
  unfold stval at H1 ⊢
  dsimp only at H1 H2 ⊢
  obtain ⟨W, hW⟩ : ∃ W, W = (w.alloc (.cells #[.slice AF nF cF, .slice AM nM cM, .slice AT nT cT, .int .i64 (gen : Int), .int .i64 (marks : Int)] 30)).alloc (.cells #[.slice none 0 0, .slice none 0 0, .slice none 0 0, .int .i64 0, .int .i64 0] 30) := ⟨_, rfl⟩
  have hgW : Gr w W := by rw [hW]; exact (gr_box _ _).alloc _
  have hX : W.heap[w.heap.size]? = some (.cells #[.slice AF nF cF, .slice AM nM cM, .slice AT nT cT, .int .i64 (gen : Int), .int .i64 (marks : Int)] 30 (0, 0)) := by
    rw [hW]
    exact gr_obj (gr_box _ _) (heap_alloc_new w _)
  have hR : W.heap[w.heap.size + 1]? = some (.cells #[.slice none 0 0, .slice none 0 0, .slice none 0 0, .int .i64 0, .int .i64 0] 30 (0, 0)) := by
    rw [hW]
    have := heap_alloc_new (w.alloc (.cells #[.slice AF nF cF, .slice AM nM cM, .slice AT nT cT, .int .i64 (gen : Int), .int .i64 (marks : Int)] 30)) (.cells #[.slice none 0 0, .slice none 0 0, .slice none 0 0, .int .i64 0, .int .i64 0] 30)
    simpa using this
  go_enter Tryz.func49, Tryz.ntmps49
  go_wp2_with fail
  rw [← hW]
  clear hW
  refine (H1.out _ hgW).mono ?_
  rintro e w1 ⟨v1, v2, v3, rfl, ho1, ho2, ho3, g1⟩
  obtain ⟨A1, k1, rfl, -, -⟩ := own_form ho1
  obtain ⟨A2, k2, rfl, -, -⟩ := own_form ho2
  obtain ⟨A3, k3, rfl, -, -⟩ := own_form ho3
  have hg1 := hgW.trans g1
  have hX1 := gr_obj g1 hX
  have hR1 := gr_obj g1 hR
  have hd1 := drow_new (s := ⟨files, mem, tabs, gen, marks⟩) ho1 ho2 ho3 g1.size
  dsimp only at hd1
  obtain ⟨bd, hbd⟩ : ∃ b, b = w1.heap.size := ⟨_, rfl⟩
  obtain ⟨W2, hW2⟩ : ∃ W, W = w1.alloc (.cells #[.slice A1 files.length k1, .slice A2 mem.length k2, .slice A3 tabs.length k3, .int .i64 (gen : Int), .int .i64 (marks : Int), .slice none 0 0] 74) := ⟨_, rfl⟩
  have hg2 : Gr w W2 := by rw [hW2]; exact hg1.alloc _
  rw [← hW2, ← hbd] at hd1
  have hX2 : W2.heap[w.heap.size]? = some (.cells #[.slice AF nF cF, .slice AM nM cM, .slice AT nT cT, .int .i64 (gen : Int), .int .i64 (marks : Int)] 30 (0, 0)) := by rw [hW2]; exact gr_obj (gr_box _ _) hX1
  have hR2 : W2.heap[w.heap.size + 1]? = some (.cells #[.slice none 0 0, .slice none 0 0, .slice none 0 0, .int .i64 0, .int .i64 0] 30 (0, 0)) := by rw [hW2]; exact gr_obj (gr_box _ _) hR1
  obtain ⟨B, hB⟩ : ∃ B, B = W.heap.size := ⟨_, rfl⟩
  have hbB : w.heap.size + 1 < B := by rw [hB]; exact (Array.getElem?_eq_some_iff.1 hR).1
  have hB2 : B ≤ W2.heap.size := by
    have := g1.size
    have := (gr_box w1 (.cells #[.slice A1 files.length k1, .slice A2 mem.length k2, .slice A3 tabs.length k3, .int .i64 (gen : Int), .int .i64 (marks : Int), .slice none 0 0] 74)).size
    rw [hW2]
    omega
  rw [← hB] at hd1
  clear hX hR hgW g1 ho1 ho2 ho3 hX1 hR1 hg1 hB
  have HBD := Lib.hid hbd
  clear hbd
  go_wp2_with fail
  rw [← HBD.out, ← hW2]
  clear hW2
  have HD := Lib.hid hd1
  have HG2 := Lib.hid hg2
  have HR := Lib.hid hR2
  have HB := Lib.hid (And.intro hbB hB2)
  clear hd1 hg2 hX2 hR2 hbB hB2
  refine (H2.out _ B bd _ _ _ HG2.out (by have := HB.out; omega) HB.out.2 HD.out).mono ?_
  rintro e w3 ⟨rfl, h3, b3⟩
  dsimp only at h3
  have HG3 := Lib.hid (below_gr HG2.out rfl (below_le b3 (by have := HB.out; omega)))
  have HR3 : Hid (w3.heap[w.heap.size + 1]? = some (.cells #[.slice none 0 0, .slice none 0 0, .slice none 0 0, .int .i64 0, .int .i64 0] 30 (0, 0))) := Lib.hid (by rw [b3.block _ HB.out.1]; exact HR.out)
  by_cases he : er = 0
  · subst he
    obtain ⟨uF, uM, uT, uD, hd3⟩ := h3 rfl
    have H5 := Lib.hid (answer_yes B bd uF uM uT uD rf rm rt rg rk rD w3 hd3)
    have HD3 := Lib.hid hd3
    obtain ⟨B1, l1, rfl, -, -⟩ := own_form hd3.files
    obtain ⟨B2, l2, rfl, -, -⟩ := own_form hd3.mem
    obtain ⟨B3, l3, rfl, -, -⟩ := own_form hd3.tabs
    obtain ⟨B4, l4, rfl, -, -⟩ := own_form hd3.ops
    clear h3 b3 hd3
    go_wp2_with fail
    refine H5.out.mono ?_
    rintro e w4 ⟨rfl, g4⟩
    have hR4 := gr_obj g4 HR3.out
    have HO := Lib.hid (HD3.out.gr g4)
    have HG4 := Lib.hid (HG3.out.trans g4)
    have HBX : Hid (BoxAt w4 (w.heap.size + 1) 30) := Lib.hid ⟨_, hR4⟩
    have r0 := obj_cell hR4 (i := 0) rfl
    have r1 := obj_cell hR4 (i := 1) rfl
    have r2 := obj_cell hR4 (i := 2) rfl
    have r3 := obj_cell hR4 (i := 3) rfl
    have r4 := obj_cell hR4 (i := 4) rfl
    have z0 := obj_free (i := 0) hR4
    have z1 := obj_free (i := 1) hR4
    have z2 := obj_free (i := 2) hR4
    have z3 := obj_free (i := 3) hR4
    have z4 := obj_free (i := 4) hR4
    clear hR4 g4 H5
    unfold stval
    go_wp2_with fail
    refine bodyPost_ret (v := .tuple #[stval (.slice B1 rf.length l1) (.slice B2 rm.length l2) (.slice B3 rt.length l3) rg rk, .slice B4 rD.length l4, .int .i64 0]) (by unfold stval; simp [results, Tryz.results49, go_sem, r0, r1, r2, r3, r4]) rfl ⟨_, _, rfl, ⟨_, _, _, rfl, ?_, ?_, ?_⟩, ?_, ?_⟩
    · exact own_five (HO.out.files.le (by have := HB.out; omega)) HBX.out (by decide) _ _ _ _ _
    · exact own_five (HO.out.mem.le (by have := HB.out; omega)) HBX.out (by decide) _ _ _ _ _
    · exact own_five (HO.out.tabs.le (by have := HB.out; omega)) HBX.out (by decide) _ _ _ _ _
    · exact own_five (HO.out.ops.le (by have := HB.out; omega)) HBX.out (by decide) _ _ _ _ _
    · exact gr_five HG4.out (Nat.le_succ _) _ _ _ _ _
  · have H5 := Lib.hid (answer_no (.pointer (some ⟨bd, 0, none⟩)) er he w3)
    clear h3 b3
    go_wp2_with fail
    refine H5.out.mono ?_
    rintro e w4 ⟨rfl, g4⟩
    have hR4 := gr_obj g4 HR3.out
    have HG4 := Lib.hid (HG3.out.trans g4)
    have HBX : Hid (BoxAt w4 (w.heap.size + 1) 30) := Lib.hid ⟨_, hR4⟩
    have r0 := obj_cell hR4 (i := 0) rfl
    have r1 := obj_cell hR4 (i := 1) rfl
    have r2 := obj_cell hR4 (i := 2) rfl
    have r3 := obj_cell hR4 (i := 3) rfl
    have r4 := obj_cell hR4 (i := 4) rfl
    have z0 := obj_free (i := 0) hR4
    have z1 := obj_free (i := 1) hR4
    have z2 := obj_free (i := 2) hR4
    have z3 := obj_free (i := 3) hR4
    have z4 := obj_free (i := 4) hR4
    clear hR4 g4 H5
    unfold stzero
    go_wp2_with fail
    refine bodyPost_ret (v := .tuple #[stzero, .slice none 0 0, .int .i64 (er : Int)]) (by unfold stzero; simp [results, Tryz.results49, go_sem, r0, r1, r2, r3, r4]) rfl ⟨_, _, by unfold topR; rw [if_neg he], ?_, ?_, gr_five HG4.out (Nat.le_succ _) _ _ _ _ _⟩
    · unfold topR
      rw [if_neg he]
      exact StO.zero _ _
    · unfold topR
      rw [if_neg he]
      exact OO.nil _ _
set_option maxRecDepth 100000 in
set_option maxHeartbeats 4000000 in
/-- lsm.Write, over its method. -/
theorem write_top (v : Value) (vl : Value) (s : St) (r : St × List O × Nat) (w : World) (hv : StV w v s) (hs : StOk s)
    (H : ∀ (w1 : World) (B bd : Nat) (vF vM vT : Value), Gr w w1 → w.heap.size ≤ B → B ≤ w1.heap.size → DRow w1 B bd vF vM vT (.slice none 0 0) s.files s.mem s.tabs s.gen s.marks [] → Calls Tryz.prog 69 #[.pointer (some ⟨bd, 0, none⟩), vl] w1 fun e w' => RetMeth B bd r w1 e w') :
    Calls Tryz.prog 34 #[v, vl] w fun e w' => RetTop (topR r) w e w' := by
  obtain ⟨vF, vM, vT, rfl, hF, hM, hT⟩ := hv
  have H1 := Lib.hid (fun w1 (q : Gr w w1) => draftOf_any vF vM vT s.gen s.marks s.files s.mem s.tabs w1 (hF.gr q) (hM.gr q) (hT.gr q) hs.fit hs.files hs.mem hs.tabs hs.mems hs.names)
  have H2 := Lib.hid H
  obtain ⟨AF, nF, cF, rfl⟩ : ∃ A n c, vF = .slice A n c := by
    obtain ⟨A, c, h, _⟩ := hF
    exact ⟨A, _, c, h⟩
  obtain ⟨AM, nM, cM, rfl⟩ : ∃ A n c, vM = .slice A n c := by
    obtain ⟨A, c, h, _⟩ := hM
    exact ⟨A, _, c, h⟩
  obtain ⟨AT, nT, cT, rfl⟩ : ∃ A n c, vT = .slice A n c := by
    obtain ⟨A, c, h, _⟩ := hT
    exact ⟨A, _, c, h⟩
  obtain ⟨files, mem, tabs, gen, marks⟩ := s
  obtain ⟨⟨rf, rm, rt, rg, rk⟩, rD, er⟩ := r
  clear hF hM hT hs H
  unfold stval at H1 ⊢
  dsimp only at H1 H2 ⊢
  obtain ⟨W, hW⟩ : ∃ W, W = (w.alloc (.cells #[.slice AF nF cF, .slice AM nM cM, .slice AT nT cT, .int .i64 (gen : Int), .int .i64 (marks : Int)] 30)).alloc (.cells #[.slice none 0 0, .slice none 0 0, .slice none 0 0, .int .i64 0, .int .i64 0] 30) := ⟨_, rfl⟩
  have hgW : Gr w W := by rw [hW]; exact (gr_box _ _).alloc _
  have hX : W.heap[w.heap.size]? = some (.cells #[.slice AF nF cF, .slice AM nM cM, .slice AT nT cT, .int .i64 (gen : Int), .int .i64 (marks : Int)] 30 (0, 0)) := by
    rw [hW]
    exact gr_obj (gr_box _ _) (heap_alloc_new w _)
  have hR : W.heap[w.heap.size + 1]? = some (.cells #[.slice none 0 0, .slice none 0 0, .slice none 0 0, .int .i64 0, .int .i64 0] 30 (0, 0)) := by
    rw [hW]
    have := heap_alloc_new (w.alloc (.cells #[.slice AF nF cF, .slice AM nM cM, .slice AT nT cT, .int .i64 (gen : Int), .int .i64 (marks : Int)] 30)) (.cells #[.slice none 0 0, .slice none 0 0, .slice none 0 0, .int .i64 0, .int .i64 0] 30)
    simpa using this
  go_enter Tryz.func34, Tryz.ntmps34
  go_wp2_with fail
  rw [← hW]
  clear hW
  refine (H1.out _ hgW).mono ?_
  rintro e w1 ⟨v1, v2, v3, rfl, ho1, ho2, ho3, g1⟩
  obtain ⟨A1, k1, rfl, -, -⟩ := own_form ho1
  obtain ⟨A2, k2, rfl, -, -⟩ := own_form ho2
  obtain ⟨A3, k3, rfl, -, -⟩ := own_form ho3
  have hg1 := hgW.trans g1
  have hX1 := gr_obj g1 hX
  have hR1 := gr_obj g1 hR
  have hd1 := drow_new (s := ⟨files, mem, tabs, gen, marks⟩) ho1 ho2 ho3 g1.size
  dsimp only at hd1
  obtain ⟨bd, hbd⟩ : ∃ b, b = w1.heap.size := ⟨_, rfl⟩
  obtain ⟨W2, hW2⟩ : ∃ W, W = w1.alloc (.cells #[.slice A1 files.length k1, .slice A2 mem.length k2, .slice A3 tabs.length k3, .int .i64 (gen : Int), .int .i64 (marks : Int), .slice none 0 0] 74) := ⟨_, rfl⟩
  have hg2 : Gr w W2 := by rw [hW2]; exact hg1.alloc _
  rw [← hW2, ← hbd] at hd1
  have hX2 : W2.heap[w.heap.size]? = some (.cells #[.slice AF nF cF, .slice AM nM cM, .slice AT nT cT, .int .i64 (gen : Int), .int .i64 (marks : Int)] 30 (0, 0)) := by rw [hW2]; exact gr_obj (gr_box _ _) hX1
  have hR2 : W2.heap[w.heap.size + 1]? = some (.cells #[.slice none 0 0, .slice none 0 0, .slice none 0 0, .int .i64 0, .int .i64 0] 30 (0, 0)) := by rw [hW2]; exact gr_obj (gr_box _ _) hR1
  obtain ⟨B, hB⟩ : ∃ B, B = W.heap.size := ⟨_, rfl⟩
  have hbB : w.heap.size + 1 < B := by rw [hB]; exact (Array.getElem?_eq_some_iff.1 hR).1
  have hB2 : B ≤ W2.heap.size := by
    have := g1.size
    have := (gr_box w1 (.cells #[.slice A1 files.length k1, .slice A2 mem.length k2, .slice A3 tabs.length k3, .int .i64 (gen : Int), .int .i64 (marks : Int), .slice none 0 0] 74)).size
    rw [hW2]
    omega
  rw [← hB] at hd1
  clear hX hR hgW g1 ho1 ho2 ho3 hX1 hR1 hg1 hB
  have HBD := Lib.hid hbd
  clear hbd
  go_wp2_with fail
  rw [← HBD.out, ← hW2]
  clear hW2
  have HD := Lib.hid hd1
  have HG2 := Lib.hid hg2
  have HR := Lib.hid hR2
  have HB := Lib.hid (And.intro hbB hB2)
  clear hd1 hg2 hX2 hR2 hbB hB2
  refine (H2.out _ B bd _ _ _ HG2.out (by have := HB.out; omega) HB.out.2 HD.out).mono ?_
  rintro e w3 ⟨rfl, h3, b3⟩
  dsimp only at h3
  have HG3 := Lib.hid (below_gr HG2.out rfl (below_le b3 (by have := HB.out; omega)))
  have HR3 : Hid (w3.heap[w.heap.size + 1]? = some (.cells #[.slice none 0 0, .slice none 0 0, .slice none 0 0, .int .i64 0, .int .i64 0] 30 (0, 0))) := Lib.hid (by rw [b3.block _ HB.out.1]; exact HR.out)
  by_cases he : er = 0
  · subst he
    obtain ⟨uF, uM, uT, uD, hd3⟩ := h3 rfl
    have H5 := Lib.hid (answer_yes B bd uF uM uT uD rf rm rt rg rk rD w3 hd3)
    have HD3 := Lib.hid hd3
    obtain ⟨B1, l1, rfl, -, -⟩ := own_form hd3.files
    obtain ⟨B2, l2, rfl, -, -⟩ := own_form hd3.mem
    obtain ⟨B3, l3, rfl, -, -⟩ := own_form hd3.tabs
    obtain ⟨B4, l4, rfl, -, -⟩ := own_form hd3.ops
    clear h3 b3 hd3
    go_wp2_with fail
    refine H5.out.mono ?_
    rintro e w4 ⟨rfl, g4⟩
    have hR4 := gr_obj g4 HR3.out
    have HO := Lib.hid (HD3.out.gr g4)
    have HG4 := Lib.hid (HG3.out.trans g4)
    have HBX : Hid (BoxAt w4 (w.heap.size + 1) 30) := Lib.hid ⟨_, hR4⟩
    have r0 := obj_cell hR4 (i := 0) rfl
    have r1 := obj_cell hR4 (i := 1) rfl
    have r2 := obj_cell hR4 (i := 2) rfl
    have r3 := obj_cell hR4 (i := 3) rfl
    have r4 := obj_cell hR4 (i := 4) rfl
    have z0 := obj_free (i := 0) hR4
    have z1 := obj_free (i := 1) hR4
    have z2 := obj_free (i := 2) hR4
    have z3 := obj_free (i := 3) hR4
    have z4 := obj_free (i := 4) hR4
    clear hR4 g4 H5
    unfold stval
    go_wp2_with fail
    refine bodyPost_ret (v := .tuple #[stval (.slice B1 rf.length l1) (.slice B2 rm.length l2) (.slice B3 rt.length l3) rg rk, .slice B4 rD.length l4, .int .i64 0]) (by unfold stval; simp [results, Tryz.results34, go_sem, r0, r1, r2, r3, r4]) rfl ⟨_, _, rfl, ⟨_, _, _, rfl, ?_, ?_, ?_⟩, ?_, ?_⟩
    · exact own_five (HO.out.files.le (by have := HB.out; omega)) HBX.out (by decide) _ _ _ _ _
    · exact own_five (HO.out.mem.le (by have := HB.out; omega)) HBX.out (by decide) _ _ _ _ _
    · exact own_five (HO.out.tabs.le (by have := HB.out; omega)) HBX.out (by decide) _ _ _ _ _
    · exact own_five (HO.out.ops.le (by have := HB.out; omega)) HBX.out (by decide) _ _ _ _ _
    · exact gr_five HG4.out (Nat.le_succ _) _ _ _ _ _
  · have H5 := Lib.hid (answer_no (.pointer (some ⟨bd, 0, none⟩)) er he w3)
    clear h3 b3
    go_wp2_with fail
    refine H5.out.mono ?_
    rintro e w4 ⟨rfl, g4⟩
    have hR4 := gr_obj g4 HR3.out
    have HG4 := Lib.hid (HG3.out.trans g4)
    have HBX : Hid (BoxAt w4 (w.heap.size + 1) 30) := Lib.hid ⟨_, hR4⟩
    have r0 := obj_cell hR4 (i := 0) rfl
    have r1 := obj_cell hR4 (i := 1) rfl
    have r2 := obj_cell hR4 (i := 2) rfl
    have r3 := obj_cell hR4 (i := 3) rfl
    have r4 := obj_cell hR4 (i := 4) rfl
    have z0 := obj_free (i := 0) hR4
    have z1 := obj_free (i := 1) hR4
    have z2 := obj_free (i := 2) hR4
    have z3 := obj_free (i := 3) hR4
    have z4 := obj_free (i := 4) hR4
    clear hR4 g4 H5
    unfold stzero
    go_wp2_with fail
    refine bodyPost_ret (v := .tuple #[stzero, .slice none 0 0, .int .i64 (er : Int)]) (by unfold stzero; simp [results, Tryz.results34, go_sem, r0, r1, r2, r3, r4]) rfl ⟨_, _, by unfold topR; rw [if_neg he], ?_, ?_, gr_five HG4.out (Nat.le_succ _) _ _ _ _ _⟩
    · unfold topR
      rw [if_neg he]
      exact StO.zero _ _
    · unfold topR
      rw [if_neg he]
      exact OO.nil _ _
end Go.Proofs.YtlnhbndghnkfmaaGreatDoor
