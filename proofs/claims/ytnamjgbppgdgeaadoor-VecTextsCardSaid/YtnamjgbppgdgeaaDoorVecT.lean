/- Walks over package vec: Text. -/
import Derived.Test.YtnamjgbppgdgeaaDoorVecC
import Derived.Test.YtnamjgbppgdgeaaDoorFmt
import Derived.Test.YtnamjgbppgdgeaaDoorLibB
namespace Go.Proofs.YtnamjgbppgdgeaaDoor
open Go.RowKit Go.Joins

theorem gPow : Tryd.prog.globalNamed "internal/strconv.uint64pow10" = some 0 := by kernel_rfl
/-- The library's table of powers of ten lies where the program laid it. -/
def Pow (w : World) : Prop := Lib.TabIs Tryd.prog w "internal/strconv.uint64pow10" .u64 Lib.pow10Tab
theorem Pow.gr {w w' : World} (h : Pow w) (g : Gr w w') : Pow w' := tab_stays gPow h g (Nat.le_refl _)
theorem ownRow_gr {base : Nat} {e : TypeId} {size : Nat} {v : Value} {n : Nat} {xs : List Value} {w w' : World} (h : w.ownsRow base e size v n xs) (g : Gr w w') : w'.ownsRow base e size v n xs := by
  refine h.kept (row := none) ⟨g.os, g.tape, g.output, g.size, fun k hk _ => g.block k hk⟩ ?_
  cases v.ownBlock <;> simp
theorem isB_gr {T e : TypeId} {B b : Nat} {l : List Value} {w w' : World} (h : Lib.IsBuilder T e B b l w) (g : Gr w w') : Lib.IsBuilder T e B b l w' := by
  rcases h with ⟨h1, v, h2, h3, h4⟩ | ⟨h1, v, h2, h3, h4⟩
  · exact Or.inl ⟨h1, v, by rw [g.block b (Array.getElem?_eq_some_iff.1 h2).1]; exact h2, ownRow_gr h3 g, h4⟩
  · exact Or.inr ⟨h1, v, by rw [g.block b (Array.getElem?_eq_some_iff.1 h2).1]; exact h2, ownRow_gr h3 g, h4⟩

theorem gr_step {w a b : World} (h : Gr w a) (g : Below (w.heap.size + 1) a b) : Gr w b := Below.trans h (below_le g (Nat.le_succ _))
theorem isB_lt {T e : TypeId} {B b : Nat} {l : List Value} {w : World} (h : Lib.IsBuilder T e B b l w) : b < w.heap.size := by
  rcases h with h | h <;> exact h.lt
/-- The text up to the k-th number. -/
def textTo (a : Nat → Nat) : Nat → List UInt8
  | 0 => []
  | k + 1 => textTo a k ++ ((if k = 0 then [] else [46]) ++ Lib.decDigits (a k))
def VOk (a : Nat → Nat) : Prop := ∀ k, k < 8 → a k < 18446744073709551616
theorem digits_len (u : Nat) (h : u < 18446744073709551616) : (Lib.decDigits u).length ≤ 20 := by
  rw [Lib.decDigits_length]
  by_cases h0 : 1 ≤ u
  · have := Lib.numDigits_eq u h0 h; split at this <;> omega
  · obtain rfl : u = 0 := by omega
    rw [← Lib.decDigits_length, Lib.decDigits_one (by decide)]; decide
theorem textTo_len (a : Nat → Nat) (ha : VOk a) : ∀ k, k ≤ 8 → (textTo a k).length ≤ 21 * k
  | 0, _ => Nat.le_refl _
  | k + 1, hk => by
    have h1 := textTo_len a ha k (by omega)
    have h2 := digits_len (a k) (ha k (by omega))
    simp only [textTo, List.length_append]
    split <;> simp <;> omega
theorem index_v (a : Nat → Nat) {k : Nat} (hk : k < 8) (w : World) : (Instr.index 24 (.agg (vcells a)) (.int .i64 (k : Int))).run Tryd.prog w = .ok (.int .u64 (a k : Int)) w := by
  match k, hk with
  | 0, _ => show _ = _; kernel_rfl
  | 1, _ => show _ = _; kernel_rfl
  | 2, _ => show _ = _; kernel_rfl
  | 3, _ => show _ = _; kernel_rfl
  | 4, _ => show _ = _; kernel_rfl
  | 5, _ => show _ = _; kernel_rfl
  | 6, _ => show _ = _; kernel_rfl
  | 7, _ => show _ = _; kernel_rfl
def TextRel (a : Nat → Nat) (w : World) (i : Value) (wr : World) : Prop :=
  ∃ k : Nat, k ≤ 8 ∧ i = .int .i64 k ∧ Lib.IsBuilder 42 5 (w.heap.size + 1) (w.heap.size + 1) (Lib.byteCells (textTo a k)) wr ∧ Gr w wr

theorem textTo_snoc0 (a : Nat → Nat) : textTo a 1 = Lib.decDigits (a 0) := by simp [textTo]
theorem textTo_snoc (a : Nat → Nat) {k : Nat} (hk : k ≠ 0) : textTo a (k + 1) = (textTo a k ++ [46]) ++ Lib.decDigits (a k) := by simp [textTo, hk]
theorem strCells_arr (l : List UInt8) : Lib.strCells ⟨l.toArray⟩ = Lib.byteCells l := rfl
theorem size_arr (l : List UInt8) : (⟨l.toArray⟩ : ByteArray).size = l.length := by simp [ByteArray.size]

set_option maxRecDepth 100000 in
set_option maxHeartbeats 400000 in
theorem text_any (a : Nat → Nat) (ha : VOk a) (w : World) (hp : Pow w) :
    Calls Tryd.prog 21 #[.agg (vcells a)] w fun e w' => e = .returned (.string ⟨(textTo a 8).toArray⟩) ∧ Gr w w' := by
  have HA := Lib.hid ha
  have HP := Lib.hid hp
  clear ha hp
  obtain ⟨W, hW, hB, hg⟩ : ∃ W, W = (w.alloc (.cells (vcells a) 24)).alloc (.cells #[.pointer none, .slice none 0 0] 42) ∧ Lib.IsBuilder 42 5 (w.heap.size + 1) (w.heap.size + 1) [] W ∧ Gr w W := by
    refine ⟨_, rfl, ?_, (Gr.refl w |>.alloc _ |>.alloc _)⟩
    have := Lib.fresh_isBuilder 42 5 (w.alloc (.cells (vcells a) 24))
    have hz : (w.alloc (.cells (vcells a) 24)).heap.size = w.heap.size + 1 := by simp
    rw [hz] at this
    exact this
  go_enter Tryd.func21, Tryd.ntmps21
  go_wp2_with fail
  rw [← hW]
  clear hW
  go_loopw [7] (fun i wr => TextRel a w i wr) (fun i _ => 8 - (intOf i).toNat)
  case atStart => exact ⟨0, by decide, rfl, hB, hg⟩
  case round =>
    clear hB hg
    obtain ⟨k, hk, rfl, hB, hg⟩ := hrel
    have hl := textTo_len a HA.out k hk
    by_cases hlt : k < 8
    · have hix := fun w => index_v a hlt w
      have hak := HA.out k hlt
      have hdl := digits_len (a k) hak
      by_cases hk0 : k = 0
      · subst hk0
        have hix0 : ∀ w, (Instr.index 24 (.agg (vcells a)) (.int .i64 0)).run Tryd.prog w = .ok (.int .u64 (a 0 : Int)) w := hix
        have hF := fun w hp => formatUint_any (a 0) hak w hp
        have HF := Lib.hid hF
        have HB := Lib.hid hB
        have HG := Lib.hid hg
        have HD := Lib.hid hdl
        clear hF hB hg hak hl hdl hix
        go_wp2_with fail
        refine (HF.out _ (HP.out.gr HG.out)).mono ?_
        rintro e w1 ⟨rfl, hg1⟩
        have HB1 := Lib.hid (isB_gr HB.out hg1)
        have HG1 := Lib.hid (HG.out.trans hg1)
        have HZ1 := Lib.hid (show w.heap.size + 1 ≤ w1.heap.size from by have := isB_lt (isB_gr HB.out hg1); omega)
        clear hg1
        go_wp2_with fail
        refine (builder_write (w.heap.size + 1) (w.heap.size + 1) [] ⟨(Lib.decDigits (a 0)).toArray⟩ w1 HB1.out (by rw [size_arr]; have := HD.out; simp; omega) HZ1.out).mono ?_
        rintro e w2 ⟨rfl, hb2, hg2⟩
        rw [List.nil_append, strCells_arr, ← textTo_snoc0] at hb2
        have HB2 := Lib.hid hb2
        have HG2 := Lib.hid (gr_step HG1.out hg2)
        clear hb2 hg2
        go_wp2_with fail
        go_roundw
        case rel => exact ⟨1, by decide, by go_num, Or.inr HB2.out, HG2.out⟩
        case measure => simp [intOf]
      · have hk1 : (0 : Int) < (k : Int) := by omega
        have hts := textTo_snoc a hk0
        have hF := fun w hp => formatUint_any (a k) hak w hp
        have HT := Lib.hid hts
        have HF := Lib.hid hF
        have HB := Lib.hid hB
        have HG := Lib.hid hg
        have HD := Lib.hid hdl
        have HL := Lib.hid hl
        have HZ := Lib.hid (show w.heap.size + 1 ≤ wr.heap.size from by have := isB_lt hB; omega)
        clear hF hB hg hak hl hdl hts hk0
        go_wp2_with fail
        refine (builder_writeByte (w.heap.size + 1) (w.heap.size + 1) (Lib.byteCells (textTo a k)) 46 wr HB.out (by rw [Lib.byteCells_length]; have := HL.out; omega) HZ.out).mono ?_
        rintro e w0 ⟨rfl, hb0, hg0⟩
        have hb0' : Lib.BuilderAt 42 5 (w.heap.size + 1) (w.heap.size + 1) (.pointer (some ⟨w.heap.size + 1, 0, none⟩)) (Lib.byteCells (textTo a k ++ [46])) w0 := by
          rw [Lib.byteCells_append]; exact hb0
        have HB0 := Lib.hid hb0'
        have HG0 := Lib.hid (gr_step HG.out hg0)
        clear hb0 hb0' hg0
        go_wp2_with fail
        refine (HF.out _ (HP.out.gr HG0.out)).mono ?_
        rintro e w1 ⟨rfl, hg1⟩
        have HB1 := Lib.hid (isB_gr (Or.inr HB0.out) hg1)
        have HG1 := Lib.hid (HG0.out.trans hg1)
        have HZ1 := Lib.hid (show w.heap.size + 1 ≤ w1.heap.size from by have := isB_lt (isB_gr (Or.inr HB0.out) hg1); omega)
        clear hg1
        go_wp2_with fail
        refine (builder_write (w.heap.size + 1) (w.heap.size + 1) (Lib.byteCells (textTo a k ++ [46])) ⟨(Lib.decDigits (a k)).toArray⟩ w1 HB1.out (by rw [size_arr, Lib.byteCells_length, List.length_append]; have := HD.out; have := HL.out; simp; omega) HZ1.out).mono ?_
        rintro e w2 ⟨rfl, hb2, hg2⟩
        rw [strCells_arr, ← Lib.byteCells_append, ← HT.out] at hb2
        have HB2 := Lib.hid hb2
        have HG2 := Lib.hid (gr_step HG1.out hg2)
        clear hb2 hg2
        go_wp2_with fail
        go_roundw
        case rel => exact ⟨k + 1, by omega, by go_num, Or.inr HB2.out, HG2.out⟩
        case measure => simp [intOf]; omega
    · obtain rfl : k = 8 := by omega
      have HB := Lib.hid hB
      have HG := Lib.hid hg
      have HZ := Lib.hid (show w.heap.size + 1 ≤ wr.heap.size from by have := isB_lt hB; omega)
      clear hB hg hl
      go_wp2_with fail
      refine (builder_string (w.heap.size + 1) (w.heap.size + 1) (textTo a 8) wr HB.out HZ.out).mono ?_
      rintro e w2 ⟨rfl, hg2⟩
      have HG2 := Lib.hid (gr_step HG.out hg2)
      clear hg2
      go_wp2_with fail
      go_ret
      exact ⟨rfl, HG2.out⟩
end Go.Proofs.YtnamjgbppgdgeaaDoor
