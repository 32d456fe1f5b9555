/- The law VoteTells. -/
import Derived.Test.YtboonfbbnidmbaaVoD
namespace Go.Proofs.Ytboonfbbnidmbaa
open Go.RowKit Vo
set_option linter.unusedSimpArgs false

theorem box_acc (p a : Nat) (s : ByteArray) (w : World) : ∃ W, W = w.alloc (.cells (accs p a s) 24) ∧ Gr w W ∧ W.heap[w.heap.size]? = some (.cells (accs p a s) 24 (0, 0)) :=
  ⟨_, rfl, (Gr.refl w).alloc _, (MapKept.heap_alloc w _).1⟩
theorem set_obj' {w : World} {b i : Nat} {cs : Array Value} {t : TypeId} {fr : Nat × Nat} (h : w.heap[b]? = some (.cells cs t fr)) (v : Value) : (w.setCell ⟨b, i, none⟩ v).heap[b]? = some (.cells (cs.setIfInBounds i v) t fr) := by
  have hlt : b < w.heap.size := (Array.getElem?_eq_some_iff.1 h).1
  have he : w.heap[b] = .cells cs t fr := (Array.getElem?_eq_some_iff.1 h).2
  show (w.heap.modify b _)[b]? = _
  rw [Array.getElem?_eq_getElem (by simpa using hlt), Array.getElem_modify, if_pos rfl, he]
  rfl
/-- An acceptor stored in a box. -/
theorem store_acc {w : World} {b p a : Nat} {s : ByteArray} {t : TypeId} (h : w.heap[b]? = some (.cells (accs p a s) t (0, 0))) (q c : Nat) (x : ByteArray) :
    ∃ W, W = ((w.setCell ⟨b, 0, none⟩ (.int .u64 (q : Int))).setCell ⟨b, 1, none⟩ (.int .u64 (c : Int))).setCell ⟨b, 2, none⟩ (.string x) ∧ W.heap[b]? = some (.cells (accs q c x) t (0, 0)) ∧
      (∀ b' o, b' ≠ b → w.heap[b']? = some o → W.heap[b']? = some o) ∧ ∀ w0 : World, Gr w0 w → w0.heap.size ≤ b → Gr w0 W := by
  refine ⟨_, rfl, ?_, fun b' o hne ho => set_obj_other' (set_obj_other' (set_obj_other' ho hne _) hne _) hne _, fun w0 g hb => ((g.set hb _ _).set hb _ _).set hb _ _⟩
  have h1 := set_obj' (i := 0) h (.int .u64 (q : Int))
  have h2 := set_obj' (i := 1) h1 (.int .u64 (c : Int))
  exact set_obj' (i := 2) h2 (.string x)
set_option maxRecDepth 100000 in
set_option maxHeartbeats 1000000 in
theorem voteTells_any (p a : Nat) (s : ByteArray) (n : Nat) (x : ByteArray) (r : Nat) (m : Int) (hs : s.size ≤ 281474976710656) (hx : x.size ≤ 281474976710656) (w : World) :
    Calls Try.prog 3 #[acv p a s, .int .u64 (n : Int), .string x, .int .u64 (r : Int), .int .i64 m] w fun e w' => e = .returned (.bool true) ∧ Gr w w' := by
  obtain ⟨W, hW, hg, hb⟩ := box_acc p a s w
  obtain ⟨P1, hP1⟩ : ∃ z, z = prN p n := ⟨_, rfl⟩
  obtain ⟨b1, hb1⟩ : ∃ z, z = decide (p < n) := ⟨_, rfl⟩
  obtain ⟨P2, hP2⟩ : ∃ z, z = acN p n p := ⟨_, rfl⟩
  obtain ⟨A2, hA2⟩ : ∃ z, z = acN p n a := ⟨_, rfl⟩
  obtain ⟨S2, hS2⟩ : ∃ z, z = acS p n s x := ⟨_, rfl⟩
  obtain ⟨b2, hb2⟩ : ∃ z, z = acB p n := ⟨_, rfl⟩
  obtain ⟨N, hN⟩ : ∃ z, z = balN r m := ⟨_, rfl⟩
  obtain ⟨E, hE⟩ : ∃ z, z = balE r m := ⟨_, rfl⟩
  have H1 := Lib.hid (fun w => ballot_any r m w)
  have H2 := Lib.hid (fun w => rballot_any r m w)
  have H3 := Lib.hid (fun w => prepare_any p a n s hs w)
  have H4 := Lib.hid (fun w => rprepare_any p a n s w)
  have H5 := Lib.hid (fun w => accept_any p a n s x hs hx w)
  have H6 := Lib.hid (fun w => raccept_any p a n s x w)
  rw [← hN, ← hE] at H1 H2
  rw [← hP1, ← hb1] at H3 H4
  rw [← hP2, ← hA2, ← hS2, ← hb2] at H5 H6
  have HB := Lib.hid hb
  have HG := Lib.hid hg
  have he1 := fun w => equal_acc P1 a s w
  have he2 := fun w => equal_acc P2 A2 S2 w
  clear hP1 hb1 hP2 hA2 hS2 hb2 hN hE hs hx hb hg
  go_enter Try.func3, Try.ntmps3
  go_upto_region 1 with (fail)
  rw [← hW]
  clear hW
  go_wp2_with fail
  refine (awake16_any _).mono ?_
  rintro e w1 ⟨rfl, g1⟩
  have HG1 := Lib.hid (HG.out.trans g1)
  have HB1 := Lib.hid (gr_obj' g1 HB.out)
  clear g1
  go_wp2_with fail
  refine (H1.out _).mono ?_
  rintro e w2 ⟨rfl, g2⟩
  have HG2 := Lib.hid (HG1.out.trans g2)
  have HB2 := Lib.hid (gr_obj' g2 HB1.out)
  clear g2
  go_wp2_with fail
  refine (H2.out _).mono ?_
  rintro e w3 ⟨rfl, g3⟩
  have HG3 := Lib.hid (HG2.out.trans g3)
  have HB3 := Lib.hid (gr_obj' g3 HB2.out)
  have c0 : w3.cell? ⟨w.heap.size, 0, none⟩ = some (.int .u64 (p : Int)) := cell_of_obj HB3.out rfl
  have c1 : w3.cell? ⟨w.heap.size, 1, none⟩ = some (.int .u64 (a : Int)) := cell_of_obj HB3.out rfl
  have c2 : w3.cell? ⟨w.heap.size, 2, none⟩ = some (.string s) := cell_of_obj HB3.out rfl
  clear g3
  go_wp2_with fail
  refine (H3.out _).mono ?_
  rintro e w4 ⟨rfl, g4⟩
  have HG4 := Lib.hid (HG3.out.trans g4)
  have HB4 := Lib.hid (gr_obj' g4 HB3.out)
  clear g4 c0 c1 c2
  go_upto_region 8 with (fail)
  obtain ⟨W5, h5, g5, hx5⟩ := box_acc P1 a s w4
  rw [← h5]
  clear h5
  have HG5 := Lib.hid (HG4.out.trans g5)
  have HB5 := Lib.hid (gr_obj' g5 HB4.out)
  have HX5 := Lib.hid hx5
  clear g5 hx5
  have c0 : W5.cell? ⟨w.heap.size, 0, none⟩ = some (.int .u64 (p : Int)) := cell_of_obj HB5.out rfl
  have c1 : W5.cell? ⟨w.heap.size, 1, none⟩ = some (.int .u64 (a : Int)) := cell_of_obj HB5.out rfl
  have c2 : W5.cell? ⟨w.heap.size, 2, none⟩ = some (.string s) := cell_of_obj HB5.out rfl
  go_wp2_with fail
  refine (H4.out _).mono ?_
  rintro e w6 ⟨rfl, g6⟩
  have HG6 := Lib.hid (HG5.out.trans g6)
  have HB6 := Lib.hid (gr_obj' g6 HB5.out)
  have HX6 := Lib.hid (gr_obj' g6 HX5.out)
  clear g6 c0 c1 c2
  go_upto_region 9 with (fail)
  obtain ⟨W7, h7, g7, hy7⟩ := box_acc P1 a s w6
  rw [← h7]
  clear h7
  have HG7 := Lib.hid (HG6.out.trans g7)
  have HB7 := Lib.hid (gr_obj' g7 HB6.out)
  have HX7 := Lib.hid (gr_obj' g7 HX6.out)
  have HY7 := Lib.hid hy7
  clear g7 hy7
  have x0 : W7.cell? ⟨w4.heap.size, 0, none⟩ = some (.int .u64 (P1 : Int)) := cell_of_obj HX7.out rfl
  have x1 : W7.cell? ⟨w4.heap.size, 1, none⟩ = some (.int .u64 (a : Int)) := cell_of_obj HX7.out rfl
  have x2 : W7.cell? ⟨w4.heap.size, 2, none⟩ = some (.string s) := cell_of_obj HX7.out rfl
  have y0 : W7.cell? ⟨w6.heap.size, 0, none⟩ = some (.int .u64 (P1 : Int)) := cell_of_obj HY7.out rfl
  have y1 : W7.cell? ⟨w6.heap.size, 1, none⟩ = some (.int .u64 (a : Int)) := cell_of_obj HY7.out rfl
  have y2 : W7.cell? ⟨w6.heap.size, 2, none⟩ = some (.string s) := cell_of_obj HY7.out rfl
  have c0 : W7.cell? ⟨w.heap.size, 0, none⟩ = some (.int .u64 (p : Int)) := cell_of_obj HB7.out rfl
  have c1 : W7.cell? ⟨w.heap.size, 1, none⟩ = some (.int .u64 (a : Int)) := cell_of_obj HB7.out rfl
  have c2 : W7.cell? ⟨w.heap.size, 2, none⟩ = some (.string s) := cell_of_obj HB7.out rfl
  go_upto_region 11 with (fail)
  clear x0 x1 x2 y0 y1 y2
  go_wp2_with fail
  refine (H5.out _).mono ?_
  rintro e w8 ⟨rfl, g8⟩
  have HG8 := Lib.hid (HG7.out.trans g8)
  have HB8 := Lib.hid (gr_obj' g8 HB7.out)
  have HX8 := Lib.hid (gr_obj' g8 HX7.out)
  have HY8 := Lib.hid (gr_obj' g8 HY7.out)
  have hne1 : w.heap.size ≠ w4.heap.size := fun e => by have := (Array.getElem?_eq_some_iff.1 HB4.out).1; omega
  have hne2 : w.heap.size ≠ w6.heap.size := fun e => by have := (Array.getElem?_eq_some_iff.1 HB6.out).1; omega
  have hne3 : w6.heap.size ≠ w4.heap.size := fun e => by have := (Array.getElem?_eq_some_iff.1 HX6.out).1; omega
  have hle1 : w.heap.size ≤ w4.heap.size := HG4.out.size
  have hle2 : w.heap.size ≤ w6.heap.size := HG6.out.size
  have N1 := Lib.hid hne1
  have N2 := Lib.hid hne2
  have N3 := Lib.hid hne3
  have L1 := Lib.hid hle1
  have L2 := Lib.hid hle2
  clear g8 c0 c1 c2 hne1 hne2 hne3 hle1 hle2
  have x0 : w8.cell? ⟨w4.heap.size, 0, none⟩ = some (.int .u64 (P1 : Int)) := cell_of_obj HX8.out rfl
  have x1 : w8.cell? ⟨w4.heap.size, 1, none⟩ = some (.int .u64 (a : Int)) := cell_of_obj HX8.out rfl
  have x2 : w8.cell? ⟨w4.heap.size, 2, none⟩ = some (.string s) := cell_of_obj HX8.out rfl
  have f0 : w8.frozen? ⟨w4.heap.size, 0, none⟩ = false := free_of_obj 0 HX8.out
  have f1 : w8.frozen? ⟨w4.heap.size, 1, none⟩ = false := free_of_obj 1 HX8.out
  have f2 : w8.frozen? ⟨w4.heap.size, 2, none⟩ = false := free_of_obj 2 HX8.out
  go_upto_region 12 with (fail)
  obtain ⟨W9, h9, hx9, ho9, hg9⟩ := store_acc HX8.out P2 A2 S2
  rw [← h9]
  clear h9 x0 x1 x2 f0 f1 f2
  have HX9 := Lib.hid hx9
  have HB9 := Lib.hid (ho9 _ _ N1.out HB8.out)
  have HY9 := Lib.hid (ho9 _ _ N3.out HY8.out)
  have HG9 := Lib.hid (hg9 _ HG8.out L1.out)
  clear hx9 ho9 hg9
  have c0 : W9.cell? ⟨w.heap.size, 0, none⟩ = some (.int .u64 (p : Int)) := cell_of_obj HB9.out rfl
  have c1 : W9.cell? ⟨w.heap.size, 1, none⟩ = some (.int .u64 (a : Int)) := cell_of_obj HB9.out rfl
  have c2 : W9.cell? ⟨w.heap.size, 2, none⟩ = some (.string s) := cell_of_obj HB9.out rfl
  go_wp2_with fail
  refine (H6.out _).mono ?_
  rintro e w10 ⟨rfl, g10⟩
  have HG10 := Lib.hid (HG9.out.trans g10)
  have HX10 := Lib.hid (gr_obj' g10 HX9.out)
  have HY10 := Lib.hid (gr_obj' g10 HY9.out)
  clear g10 c0 c1 c2
  have y0 : w10.cell? ⟨w6.heap.size, 0, none⟩ = some (.int .u64 (P1 : Int)) := cell_of_obj HY10.out rfl
  have y1 : w10.cell? ⟨w6.heap.size, 1, none⟩ = some (.int .u64 (a : Int)) := cell_of_obj HY10.out rfl
  have y2 : w10.cell? ⟨w6.heap.size, 2, none⟩ = some (.string s) := cell_of_obj HY10.out rfl
  have f0 : w10.frozen? ⟨w6.heap.size, 0, none⟩ = false := free_of_obj 0 HY10.out
  have f1 : w10.frozen? ⟨w6.heap.size, 1, none⟩ = false := free_of_obj 1 HY10.out
  have f2 : w10.frozen? ⟨w6.heap.size, 2, none⟩ = false := free_of_obj 2 HY10.out
  go_upto_region 13 with (fail)
  obtain ⟨W11, h11, hy11, ho11, hg11⟩ := store_acc HY10.out P2 A2 S2
  rw [← h11]
  clear h11 y0 y1 y2 f0 f1 f2
  have HY11 := Lib.hid hy11
  have HX11 := Lib.hid (ho11 _ _ N3.out.symm HX10.out)
  have HG11 := Lib.hid (hg11 _ HG10.out L2.out)
  clear hy11 ho11 hg11
  have x0 : W11.cell? ⟨w4.heap.size, 0, none⟩ = some (.int .u64 (P2 : Int)) := cell_of_obj HX11.out rfl
  have x1 : W11.cell? ⟨w4.heap.size, 1, none⟩ = some (.int .u64 (A2 : Int)) := cell_of_obj HX11.out rfl
  have x2 : W11.cell? ⟨w4.heap.size, 2, none⟩ = some (.string S2) := cell_of_obj HX11.out rfl
  have y0 : W11.cell? ⟨w6.heap.size, 0, none⟩ = some (.int .u64 (P2 : Int)) := cell_of_obj HY11.out rfl
  have y1 : W11.cell? ⟨w6.heap.size, 1, none⟩ = some (.int .u64 (A2 : Int)) := cell_of_obj HY11.out rfl
  have y2 : W11.cell? ⟨w6.heap.size, 2, none⟩ = some (.string S2) := cell_of_obj HY11.out rfl
  go_wp2_with fail
  go_ret
  exact ⟨rfl, HG11.out⟩
end Go.Proofs.Ytboonfbbnidmbaa
