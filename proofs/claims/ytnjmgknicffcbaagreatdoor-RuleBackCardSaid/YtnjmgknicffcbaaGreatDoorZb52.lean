/- Walks over package rule: strings.Join of a line's words, Print. -/
import Derived.Test.YtnjmgknicffcbaaGreatDoorZb15
import Derived.Test.YtnjmgknicffcbaaGreatDoorZb51
namespace Go.Proofs.YtnjmgknicffcbaaGreatDoor
open Go.RowKit Go.Joins
set_option linter.unusedSimpArgs false
set_option linter.unusedVariables false

theorem isB_grP {T e : TypeId} {B b : Nat} {l : List Value} {w w' : World} (h : Lib.IsBuilder T e B b l w) (g : Gr w w') : Lib.IsBuilder T e B b l w' := by
  rcases h with ⟨h1, v, h2, h3, h4⟩ | ⟨h1, v, h2, h3, h4⟩
  · exact Or.inl ⟨h1, v, by rw [g.block b (Array.getElem?_eq_some_iff.1 h2).1]; exact h2, own_gr h3 g, h4⟩
  · exact Or.inr ⟨h1, v, by rw [g.block b (Array.getElem?_eq_some_iff.1 h2).1]; exact h2, own_gr h3 g, h4⟩
theorem isB_ltP {T e : TypeId} {B b : Nat} {l : List Value} {w : World} (h : Lib.IsBuilder T e B b l w) : b < w.heap.size := by
  rcases h with h | h <;> exact h.lt
theorem strCells_arrP (l : List UInt8) : Lib.strCells ⟨l.toArray⟩ = Lib.byteCells l := rfl
theorem size_arrP (l : List UInt8) : (⟨l.toArray⟩ : ByteArray).size = l.length := by simp [ByteArray.size]
/-- A rule's five cells at a block's beginning. -/
def RC5p (w : World) (b : Nat) (r : RU) : Prop := w.cell? ⟨b, 0, none⟩ = some (.int .i64 r.k) ∧ w.cell? ⟨b, 1, none⟩ = some (.string r.key) ∧ w.cell? ⟨b, 2, none⟩ = some (.string r.other) ∧ w.cell? ⟨b, 3, none⟩ = some (.int .i64 r.min) ∧ w.cell? ⟨b, 4, none⟩ = some (.int .i64 r.start)
theorem RBox.c5p {w : World} {b : Nat} {r : RU} (h : RBox w b r) : RC5p w b r := ⟨obj_cell h rfl, obj_cell h rfl, obj_cell h rfl, obj_cell h rfl, obj_cell h rfl⟩
theorem rubox5p (w : World) (r : RU) : ∃ W, W = w.alloc (.cells (ruv r) 49) ∧ Gr w W ∧ RC5p W w.heap.size r := ⟨_, rfl, (Gr.refl w).alloc _, RBox.c5p (heap_allocR _ _ _)⟩
theorem join_line (r : RU) (h : LineOk r) (b : Nat) (w : World) (hs : SBox w b (wordsR r)) :
    Calls Tryz.prog 59 #[.slice (some ⟨b, 0, none⟩) (names r.k).length (names r.k).length, .string ⟨#[32]⟩] w fun e w' => e = .returned (.string ⟨(lineL r).toArray⟩) ∧ Gr w w' := by
  have hl : (wordsR r).length = (names r.k).length := by unfold wordsR; rw [List.length_map]
  have h4 := words_len r
  have hll := line_len h
  have := Any.strings_Join lays156 extra156 b 0 (wordsR r).length (wordsR r) ⟨#[32]⟩ w (fun j x hx => by
    obtain ⟨hj, rfl⟩ := List.getElem?_eq_some_iff.1 hx
    rw [Nat.zero_add]
    exact hs.cell hj) hs.lt (by omega) (Nat.le_refl _) (show (lineL r).length ≤ _ by omega)
  rw [hl] at this
  exact this
set_option maxRecDepth 100000 in
set_option maxHeartbeats 4000000 in
theorem print_any (v : Value) (L : List RU) (hks : ∀ r ∈ L, r.key.size ≤ 9223372036854775807) (w : World) (hv : UV w v L) (hp : Laid w) :
    Calls Tryz.prog 19 #[v] w fun e w' => e = .returned (.tuple #[.string (if checkC L = 0 then ⟨(textL L).toArray⟩ else ⟨#[]⟩), .int .i64 (checkC L)]) ∧ Gr w w' := by
  have HC := Lib.hid (rucheck_any v L hks w hv hp)
  have HP := Lib.hid hp
  obtain ⟨A, c, rfl, l1, ⟨l2, _⟩, l3⟩ := hv
  have l2' : c ≤ 9223372036854775807 := l2
  have HAT := Lib.hid l3
  obtain ⟨n, hn⟩ : ∃ n, n = L.length := ⟨_, rfl⟩
  have HN := Lib.hid hn
  rw [← hn] at l1 HC ⊢
  have HCL := Lib.hid (fun h : checkC L = 0 => line_ok h)
  have HLE : Hid (checkC L = 0 → L.length ≤ 64) := Lib.hid (fun h => by
    unfold checkC at h
    split at h
    · cases h
    · omega)
  obtain ⟨ce, hce⟩ : ∃ x, x = checkC L := ⟨_, rfl⟩
  rw [← hce] at HC HCL HLE ⊢
  clear hn l2 l3 hks hp hce
  by_cases h0 : ce = 0
  case neg =>
    have h0b : (ce != 0) = true := by simpa using h0
    rw [if_neg h0]
    clear h0
    go_enter Tryz.func19, Tryz.ntmps19
    go_wp2_with fail
    refine HC.out.mono ?_
    rintro e w1 ⟨rfl, g⟩
    have HG1 := Lib.hid g
    clear g
    go_wp2_with fail
    go_ret2
    exact ⟨rfl, HG1.out⟩
  subst h0
  rw [if_pos rfl]
  have HOK := Lib.hid (HCL.out rfl)
  have HL64 := Lib.hid (HLE.out rfl)
  clear HCL HLE
  go_enter Tryz.func19, Tryz.ntmps19
  go_wp2_with fail
  refine HC.out.mono ?_
  rintro e w1 ⟨rfl, g⟩
  obtain ⟨W, hW, hB, hg⟩ : ∃ W, W = w1.alloc (.cells #[.pointer none, .slice none 0 0] 103) ∧ Lib.IsBuilder 103 5 w1.heap.size w1.heap.size [] W ∧ Gr w1 W :=
    ⟨_, rfl, Lib.fresh_isBuilder 103 5 w1, (Gr.refl w1).alloc _⟩
  have hbz := g.size
  have HB := Lib.hid hB
  have HG := Lib.hid (g.trans hg)
  obtain ⟨bz, hbe⟩ : ∃ x, x = w1.heap.size := ⟨_, rfl⟩
  rw [← hbe] at HB hbz
  have HBZ := Lib.hid hbz
  clear g hB hg hbz
  go_upto_region 5 with (fail)
  rw [← hW, ← hbe]
  clear hW hbe
  go_wp2_with fail
  go_loopw [15] (fun i wr => ∃ j : Nat, j ≤ n ∧ i = .int .i64 (j : Int) ∧ Lib.IsBuilder 103 5 bz bz (Lib.byteCells (textL (L.take j))) wr ∧ Gr w wr) (fun i _ => n - (intOf i).toNat)
  case atStart => exact ⟨0, Nat.zero_le _, rfl, HB.out, HG.out⟩
  case round =>
    obtain ⟨j, hj, rfl, hb, hgr⟩ := hrel
    have HBR := Lib.hid hb
    have HGR := Lib.hid hgr
    by_cases hlt : j < n
    · have hjL : j < L.length := by rw [← HN.out]; exact hlt
      obtain ⟨b, off, rfl, q5⟩ := HAT.out j hjL
      have HOR := Lib.hid (HOK.out _ (List.getElem_mem hjL))
      have HTT := Lib.hid (textL_take hjL)
      have HTL := Lib.hid (text_len (L := L.take j) (fun r hr => HOK.out r (List.mem_of_mem_take hr)))
      have HTK : Hid ((L.take j).length ≤ 64) := Lib.hid (by rw [List.length_take]; have := HL64.out; omega)
      obtain ⟨r, hr⟩ : ∃ r, r = L[j] := ⟨_, rfl⟩
      rw [← hr] at q5 HOR HTT
      obtain ⟨r0, r1, r2, r3, r4⟩ := q5.gr hgr
      obtain ⟨W3, hW3, hg3, hr3⟩ := rubox5p wr r
      have HG3 := Lib.hid (hgr.trans hg3)
      have HB3 := Lib.hid (isB_grP hb hg3)
      have HR3 := Lib.hid hr3
      have HNK : Hid (1 ≤ r.k ∧ r.k ≤ 10) := Lib.hid (named_iff.1 HOR.out.named).1
      have u0 : (0 : Int) ≤ (j : Int) := by omega
      have u1 : (j : Int) < (n : Int) := by omega
      have u2 : wrap64 ((j : Int) + 1) = ((j + 1 : Nat) : Int) := by unfold wrap64; omega
      clear q5 hr hb hgr hg3 hr3
      go_upto_region 8 with (fail)
      rw [← hW3]
      clear hW3
      obtain ⟨c0, c1, c2, c3, c4⟩ := HR3.out
      have HWO := Lib.hid (fun w1 (g : Gr W3 w1) => wordsOf_any r HNK.out (by have := HOR.out.min; unfold PV.inA at this; omega) (by have := HOR.out.start; unfold PV.inA at this; omega) w1 (HP.out.gr (HG3.out.trans g)))
      go_wp2_with fail
      refine (HWO.out _ (Gr.refl _)).mono ?_
      rintro e w4 ⟨b4, rfl, hs4, g4⟩
      have HS4 := Lib.hid hs4
      have HG4 := Lib.hid (HG3.out.trans g4)
      have HB4 := Lib.hid (isB_grP HB3.out g4)
      clear hs4 g4 c0 c1 c2 c3 c4 r0 r1 r2 r3 r4
      go_wp2_with fail
      refine (join_line r HOR.out b4 w4 HS4.out).mono ?_
      rintro e w5 ⟨rfl, g5⟩
      have HG5 := Lib.hid (HG4.out.trans g5)
      have HB5 := Lib.hid (isB_grP HB4.out g5)
      have HZ5 := Lib.hid (show bz ≤ w5.heap.size from Nat.le_of_lt (isB_ltP (isB_grP HB4.out g5)))
      clear g5
      go_wp2_with fail
      refine (builder_write bz bz (Lib.byteCells (textL (L.take j))) ⟨(lineL r).toArray⟩ w5 HB5.out (by rw [size_arrP, Lib.byteCells_length]; have := line_len HOR.out; have := HTL.out; have := HTK.out; omega) HZ5.out).mono ?_
      rintro e w6 ⟨rfl, hb6, g6⟩
      rw [strCells_arrP, ← Lib.byteCells_append] at hb6
      have HB6 := Lib.hid hb6
      have HG6 := Lib.hid (Below.trans HG5.out (below_le g6 HBZ.out))
      have HZ6 := Lib.hid (Nat.le_trans HZ5.out g6.size)
      clear hb6 g6
      go_wp2_with fail
      refine (builder_writeByte bz bz (Lib.byteCells (textL (L.take j) ++ lineL r)) 10 w6 (Or.inr HB6.out) (by rw [Lib.byteCells_length, List.length_append]; have := line_len HOR.out; have := HTL.out; have := HTK.out; omega) HZ6.out).mono ?_
      rintro e w7 ⟨rfl, hb7, g7⟩
      have hb7b : Lib.BuilderAt 103 5 bz bz (.pointer (some ⟨bz, 0, none⟩)) (Lib.byteCells (textL (L.take (j + 1)))) w7 := by
        rw [HTT.out, Lib.byteCells_append]; exact hb7
      have HB7 := Lib.hid hb7b
      have HG7 := Lib.hid (Below.trans HG6.out (below_le g7 HBZ.out))
      clear hb7 hb7b g7
      go_wp2_with fail
      go_roundw
      case rel => exact ⟨j + 1, Nat.succ_le_of_lt hlt, by go_num, Or.inr HB7.out, HG7.out⟩
      case measure => simp [intOf]; omega
    · obtain rfl : j = n := by omega
      have u1 : ¬ (j : Int) < (j : Int) := by omega
      have HTX : Hid (textL (L.take j) = textL L) := Lib.hid (by rw [HN.out, List.take_of_length_le (Nat.le_refl _)])
      rw [HTX.out] at hb
      have HB9 := Lib.hid hb
      have HZ := Lib.hid (show bz ≤ wr.heap.size from Nat.le_of_lt (isB_ltP hb))
      clear hb hgr
      go_wp2_with fail
      refine (builder_string bz bz (textL L) wr HB9.out HZ.out).mono ?_
      rintro e w4 ⟨rfl, g4⟩
      have HG4 := Lib.hid (Below.trans HGR.out (below_le g4 HBZ.out))
      clear g4
      go_wp2_with fail
      go_ret2
      exact ⟨rfl, HG4.out⟩
end Go.Proofs.YtnjmgknicffcbaaGreatDoor
