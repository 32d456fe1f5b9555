/- Walks over the document's own answers for layer 2: Read. -/
import Derived.Test.YtnamjgbppgdgeaaDoorVecQ
import Derived.Test.YtnamjgbppgdgeaaDoorVecN
namespace Go.Proofs.YtnamjgbppgdgeaaDoor
open Go.RowKit Go.Joins

structure RAt (w : World) (k : Nat) (done : List (List UInt8)) (ns : List Nat) (wr : World) : Prop where
  len : done.length = k
  k8 : k ≤ 8
  nums : PV.nums done = some ns
  vec : wr.heap[w.heap.size + 1]? = some (.cells (vcells (vecOf ns)) 24 (0, 0))
  res : wr.heap[w.heap.size]? = some (.cells (vcells (fun _ => 0)) 24 (0, 0))
  gr : Gr w wr
/-- Where the reading stands at i: words are done, or the word from f on has no point up to i. -/
def Stands (l : List UInt8) (i f : Nat) (done : List (List UInt8)) : Prop :=
  (i ≤ l.length ∧ f ≤ i ∧ PV.words l = done ++ PV.words (l.drop f) ∧ ∀ c ∈ (l.drop f).take (i - f), c ≠ 46) ∨ (i = l.length + 1 ∧ PV.words l = done)
def RRel (l : List UInt8) (w : World) (fv kv iv : Value) (wr : World) : Prop :=
  ∃ (i f k : Nat) (done : List (List UInt8)) (ns : List Nat), i ≤ l.length + 1 ∧ fv = .int .i64 f ∧ kv = .int .i64 k ∧ iv = .int .i64 i ∧ RAt w k done ns wr ∧ Stands l i f done
theorem RAt.gr' {w wr w' : World} {k : Nat} {done : List (List UInt8)} {ns : List Nat} (h : RAt w k done ns wr) (g : Gr wr w') : RAt w k done ns w' :=
  ⟨h.len, h.k8, h.nums, by rw [g.block _ (Array.getElem?_eq_some_iff.1 h.vec).1]; exact h.vec, by rw [g.block _ (Array.getElem?_eq_some_iff.1 h.res).1]; exact h.res, h.gr.trans g⟩
theorem RAt.nslen {w wr : World} {k : Nat} {done : List (List UInt8)} {ns : List Nat} (h : RAt w k done ns wr) : ns.length = k := by
  rw [PV.nums_length _ _ h.nums, h.len]
theorem RAt.next {w wr : World} {k n : Nat} {done : List (List UInt8)} {ns : List Nat} {wd : List UInt8} (h : RAt w k done ns wr) (hk : k < 8) (hn : PV.numL wd = some n) :
    RAt w (k + 1) (done ++ [wd]) (ns ++ [n]) (wr.setCell ⟨w.heap.size + 1, k, none⟩ (.int .u64 (n : Int))) := by
  refine ⟨by simp [h.len], by omega, PV.nums_snoc _ _ _ _ h.nums hn, ?_, ?_, Gr.setCell h.gr (by simp) _⟩
  · rw [block_setCell h.vec, vcells_upd _ hk, vecOf_snoc h.nslen]
  · rw [Go.Deep.blk_setCell_other _ _ _ _ (by simp)]; exact h.res
theorem stands_on {l : List UInt8} {i f : Nat} {done : List (List UInt8)} (h : Stands l i f done) (hi : i < l.length) (hc : l[i] ≠ 46) : Stands l (i + 1) f done := by
  rcases h with ⟨h1, h2, h3, h4⟩ | ⟨h1, _⟩
  · refine Or.inl ⟨by omega, by omega, h3, fun c hc' => ?_⟩
    rw [show i + 1 - f = (i - f) + 1 from by omega, List.take_succ_eq_append_getElem (by simp; omega)] at hc'
    rcases List.mem_append.1 hc' with hc' | hc'
    · exact h4 c hc'
    · have := List.mem_singleton.1 hc'
      rw [this]
      have e : (l.drop f)[i - f]'(by simp; omega) = l[i] := by simp [List.getElem_drop, show f + (i - f) = i from by omega]
      rw [e]; exact hc
  · omega
/-- The word that ends at a point. -/
theorem stands_dot {l : List UInt8} {i f : Nat} {done : List (List UInt8)} (h : Stands l i f done) (hi : i < l.length) (hc : l[i] = 46) :
    f ≤ i ∧ PV.words l = (done ++ [(l.drop f).take (i - f)]) ++ PV.words (l.drop (i + 1)) ∧ Stands l (i + 1) (i + 1) (done ++ [(l.drop f).take (i - f)]) := by
  rcases h with ⟨h1, h2, h3, h4⟩ | ⟨h1, _⟩
  · have e : l.drop f = (l.drop f).take (i - f) ++ 46 :: l.drop (i + 1) := by
      conv => lhs; rw [← List.take_append_drop (i - f) (l.drop f)]
      rw [List.drop_drop, show f + (i - f) = i from by omega, List.drop_eq_getElem_cons hi, hc]
    have hw : PV.words l = (done ++ [(l.drop f).take (i - f)]) ++ PV.words (l.drop (i + 1)) := by
      rw [h3]
      conv => lhs; rw [e]
      rw [PV.words_dot _ _ h4]
      simp
    exact ⟨h2, hw, Or.inl ⟨by omega, Nat.le_refl _, hw, by simp⟩⟩
  · omega
/-- The last word. -/
theorem stands_end {l : List UInt8} {f : Nat} {done : List (List UInt8)} (h : Stands l l.length f done) :
    f ≤ l.length ∧ PV.words l = done ++ [(l.drop f).take (l.length - f)] ∧ Stands l (l.length + 1) (l.length + 1) (done ++ [(l.drop f).take (l.length - f)]) := by
  rcases h with ⟨h1, h2, h3, h4⟩ | ⟨h1, _⟩
  · have e : (l.drop f).take (l.length - f) = l.drop f := List.take_of_length_le (by simp)
    rw [e] at h4 ⊢
    have hw : PV.words l = done ++ [l.drop f] := by rw [h3, PV.words_noDot _ h4]
    exact ⟨h2, hw, Or.inr ⟨rfl, hw⟩⟩
  · omega
theorem readL_bad {l : List UInt8} {done : List (List UInt8)} {wd : List UInt8} {more : List (List UInt8)} (hw : PV.words l = (done ++ [wd]) ++ more) (hn : PV.numL wd = none) : PV.readL l = none := by
  unfold PV.readL
  rw [hw, List.append_assoc, List.singleton_append, PV.nums_bad _ _ _ hn]
  simp
theorem readL_long {l : List UInt8} {done : List (List UInt8)} {wd : List UInt8} {more : List (List UInt8)} (hw : PV.words l = (done ++ [wd]) ++ more) (h8 : 8 ≤ done.length) : PV.readL l = none := by
  unfold PV.readL
  rw [hw, if_neg (by simp; omega)]
theorem RAt.noend {l : List UInt8} {w wr : World} {k : Nat} {done : List (List UInt8)} {ns : List Nat} (h : RAt w k done ns wr) (hw : PV.words l = done) (hk : k ≠ 8) : PV.readL l = none := by
  unfold PV.readL
  rw [hw, h.len, if_neg hk]
theorem RAt.ends {l : List UInt8} {w wr : World} {k : Nat} {done : List (List UInt8)} {ns : List Nat} (h : RAt w k done ns wr) (hw : PV.words l = done) (hk : k = 8) : PV.readL l = some ns := by
  unfold PV.readL
  rw [hw, h.len, if_pos hk, h.nums]
theorem rnum_ext (s : ByteArray) (hs : s.size ≤ 140737488355328) (f i : Nat) (w : World) (x : Option Nat) (h : PV.numL ((s.data.toList.drop f).take (i - f)) = x) :
    Calls Tryd.prog 33 #[.string (s.extract f i)] w fun e w' => e = .returned (numVal x) ∧ Gr w w' := by
  subst h
  rw [← Lib.extract_data]
  exact rnumber_any (s.extract f i) (by rw [ByteArray.size_extract]; omega) w

theorem rnum_none (s : ByteArray) (hs : s.size ≤ 140737488355328) (f i : Nat) (w : World) (h : PV.numL ((s.data.toList.drop f).take (i - f)) = none) :
    Calls Tryd.prog 33 #[.string (s.extract f i)] w fun e w' => e = .returned (.tuple #[.int .u64 0, .bool false]) ∧ Gr w w' := rnum_ext s hs f i w none h
theorem rnum_some (s : ByteArray) (hs : s.size ≤ 140737488355328) (f i n : Nat) (w : World) (h : PV.numL ((s.data.toList.drop f).take (i - f)) = some n) :
    Calls Tryd.prog 33 #[.string (s.extract f i)] w fun e w' => e = .returned (.tuple #[.int .u64 (n : Int), .bool true]) ∧ Gr w w' := rnum_ext s hs f i w (some n) h

set_option maxRecDepth 100000 in
set_option maxHeartbeats 4000000 in
theorem rread_any (s : ByteArray) (hs : s.size ≤ 140737488355328) (w : World) :
    Calls Tryd.prog 24 #[.string s] w fun e w' => e = .returned (readVal (PV.readL s.data.toList)) ∧ Gr w w' := by
  have hlen : s.data.toList.length = s.size := by rw [Array.length_toList]; rfl
  obtain ⟨W, hW, hg, hA, hB⟩ := boxesz w
  have hat : RAt w 0 [] [] W := ⟨rfl, by decide, rfl, hB, hA, hg⟩
  have hst : Stands s.data.toList 0 0 [] := Or.inl ⟨Nat.zero_le _, Nat.le_refl _, rfl, by simp⟩
  have HLEN := Lib.hid hlen
  have HAT := Lib.hid hat
  have HST := Lib.hid hst
  clear hat hA hB hg hlen hst
  go_enter Tryd.func24, Tryd.ntmps24
  go_wp2_with fail
  rw [← hW]
  clear hW
  go_loopw [5, 6, 7] (fun fv kv iv wr => RRel s.data.toList w fv kv iv wr) (fun _ _ iv _ => s.size + 1 - (intOf iv).toNat)
  case atStart => exact ⟨0, 0, 0, [], [], Nat.zero_le _, rfl, rfl, rfl, HAT.out, HST.out⟩
  case round =>
    clear HAT HST
    obtain ⟨i, f, k, done, ns, hi, rfl, rfl, rfl, hat, hst⟩ := hrel
    have hi2 : i ≤ s.size + 1 := by have := HLEN.out; omega
    have HR := Lib.hid hat
    have HST := Lib.hid hst
    have hF := toFill_of hat.res
    have hle : w.heap.size ≤ w.heap.size := Nat.le_refl _
    have k8 : k ≤ 8 := hat.k8
    have k0 : (0 : Int) ≤ (k : Int) := Int.natCast_nonneg _
    have i0 : (0 : Int) ≤ (i : Int) := Int.natCast_nonneg _
    have f0 : (0 : Int) ≤ (f : Int) := Int.natCast_nonneg _
    clear hat hst hi
    by_cases h1 : i < s.size
    · have hil : i < s.data.toList.length := by rw [HLEN.out]; exact h1
      have hat2 : s.data.toList[i] = s[i]'h1 := rfl
      have e0 : (i : Int) < (s.size : Int) := by omega
      have e9 : (i : Int) ≤ (s.size : Int) := by omega
      by_cases hc : s[i]'h1 = 46
      · obtain ⟨hfi, hw, hst2⟩ := stands_dot HST.out hil (by rw [hat2]; exact hc)
        have e1 : (((s[i]'h1).toNat : Int) != 46) = false := by rw [hc]; rfl
        have fi : (f : Int) ≤ (i : Int) := by omega
        have HW := Lib.hid hw
        have HST2 := Lib.hid hst2
        clear hw hst2 hc hat2 hil
        cases hn : PV.numL ((s.data.toList.drop f).take (i - f)) with
        | none =>
          have HB := Lib.hid (readL_bad HW.out hn)
          have HN := Lib.hid (fun w => rnum_none s hs f i w hn)
          clear hn
          go_wp2_with fail
          refine (HN.out _).mono ?_
          rintro e w1 ⟨rfl, hg1⟩
          have HG := Lib.hid (HR.out.gr.trans hg1)
          have hF1 := ToFill.gr1 hF hg1
          clear hg1 hF
          go_wp2_with fail
          exact bodyPost_ret (v := .tuple #[.agg (vcells (fun _ => 0)), .int .i64 3]) (by simp [results, Tryd.results24, go_sem, *]) rfl ⟨by rw [HB.out]; rfl, by as_aux_lemma => (iterate 8 (with_reducible refine Gr.setCell ?_ hle _)); exact HG.out⟩
        | some n =>
          have HN := Lib.hid (fun w => rnum_some s hs f i n w hn)
          by_cases hk8 : k = 8
          · have e8 : (8 : Int) ≤ (k : Int) := by omega
            have HB := Lib.hid (readL_long HW.out (by rw [HR.out.len]; omega))
            clear hn hk8
            go_wp2_with fail
            refine (HN.out _).mono ?_
            rintro e w1 ⟨rfl, hg1⟩
            have HG := Lib.hid (HR.out.gr.trans hg1)
            have hF1 := ToFill.gr1 hF hg1
            clear hg1 hF
            go_wp2_with fail
            exact bodyPost_ret (v := .tuple #[.agg (vcells (fun _ => 0)), .int .i64 3]) (by simp [results, Tryd.results24, go_sem, *]) rfl ⟨by rw [HB.out]; rfl, by as_aux_lemma => (iterate 8 (with_reducible refine Gr.setCell ?_ hle _)); exact HG.out⟩
          · have e8 : decide ((8 : Int) ≤ (k : Int)) = false := decide_eq_false (by omega)
            have k7 : k < 8 := by omega
            have k78 : (k : Int) < 8 := by omega
            have HNN := Lib.hid hn
            clear hn hk8
            go_wp2_with fail
            refine (HN.out _).mono ?_
            rintro e w1 ⟨rfl, hg1⟩
            have hR2 := HR.out.gr' hg1
            have hcv : w1.cell? ⟨w.heap.size + 1, k, none⟩ = some (.int .u64 (vecOf ns k : Int)) := by rw [cell_of_block hR2.vec, vcells_at _ k7]
            have hfv : w1.frozen? ⟨w.heap.size + 1, k, none⟩ = false := unfrozen_of_block hR2.vec k
            have HX := Lib.hid (hR2.next k7 HNN.out)
            clear hR2 hg1 hF
            go_wp2_with fail
            go_roundw
            case rel => exact ⟨i + 1, i + 1, k + 1, _, _, by rw [HLEN.out]; omega, by go_num, by go_num, by go_num, HX.out, HST2.out⟩
            case measure => simp [intOf]; omega
      · have HST2 := Lib.hid (stands_on HST.out hil (by rw [hat2]; exact hc))
        have e1 : (((s[i]'h1).toNat : Int) != 46) = true := by
          rw [bne_iff_ne]
          intro e
          exact hc (UInt8.toNat_inj.1 (by have : (46 : UInt8).toNat = 46 := rfl; omega))
        clear hc hat2 hil
        go_wp2_with fail
        go_roundw
        case rel => exact ⟨i + 1, f, k, done, ns, by rw [HLEN.out]; omega, rfl, rfl, by go_num, HR.out, HST2.out⟩
        case measure => simp [intOf]; omega
    · by_cases h2 : i = s.size
      · subst h2
        have e0 : ¬ (s.size : Int) < (s.size : Int) := by omega
        have hh := HST.out
        rw [← HLEN.out] at hh
        obtain ⟨hfi, hw, hst2⟩ := stands_end hh
        rw [HLEN.out] at hfi hw hst2
        rw [← List.append_nil (done ++ _)] at hw
        have fi : (f : Int) ≤ (s.size : Int) := by omega
        have HW := Lib.hid hw
        have HST2 := Lib.hid hst2
        clear hw hst2 hh
        cases hn : PV.numL ((s.data.toList.drop f).take (s.size - f)) with
        | none =>
          have HB := Lib.hid (readL_bad HW.out hn)
          have HN := Lib.hid (fun w => rnum_none s hs f s.size w hn)
          clear hn
          go_wp2_with fail
          refine (HN.out _).mono ?_
          rintro e w1 ⟨rfl, hg1⟩
          have HG := Lib.hid (HR.out.gr.trans hg1)
          have hF1 := ToFill.gr1 hF hg1
          clear hg1 hF
          go_wp2_with fail
          exact bodyPost_ret (v := .tuple #[.agg (vcells (fun _ => 0)), .int .i64 3]) (by simp [results, Tryd.results24, go_sem, *]) rfl ⟨by rw [HB.out]; rfl, by as_aux_lemma => (iterate 8 (with_reducible refine Gr.setCell ?_ hle _)); exact HG.out⟩
        | some n =>
          have HN := Lib.hid (fun w => rnum_some s hs f s.size n w hn)
          by_cases hk8 : k = 8
          · have e8 : (8 : Int) ≤ (k : Int) := by omega
            have HB := Lib.hid (readL_long HW.out (by rw [HR.out.len]; omega))
            clear hn hk8
            go_wp2_with fail
            refine (HN.out _).mono ?_
            rintro e w1 ⟨rfl, hg1⟩
            have HG := Lib.hid (HR.out.gr.trans hg1)
            have hF1 := ToFill.gr1 hF hg1
            clear hg1 hF
            go_wp2_with fail
            exact bodyPost_ret (v := .tuple #[.agg (vcells (fun _ => 0)), .int .i64 3]) (by simp [results, Tryd.results24, go_sem, *]) rfl ⟨by rw [HB.out]; rfl, by as_aux_lemma => (iterate 8 (with_reducible refine Gr.setCell ?_ hle _)); exact HG.out⟩
          · have e8 : decide ((8 : Int) ≤ (k : Int)) = false := decide_eq_false (by omega)
            have k7 : k < 8 := by omega
            have k78 : (k : Int) < 8 := by omega
            have HNN := Lib.hid hn
            clear hn hk8
            go_wp2_with fail
            refine (HN.out _).mono ?_
            rintro e w1 ⟨rfl, hg1⟩
            have hR2 := HR.out.gr' hg1
            have hcv : w1.cell? ⟨w.heap.size + 1, k, none⟩ = some (.int .u64 (vecOf ns k : Int)) := by rw [cell_of_block hR2.vec, vcells_at _ k7]
            have hfv : w1.frozen? ⟨w.heap.size + 1, k, none⟩ = false := unfrozen_of_block hR2.vec k
            have HX := Lib.hid (hR2.next k7 HNN.out)
            clear hR2 hg1 hF
            go_wp2_with fail
            go_roundw
            case rel => exact ⟨s.size + 1, s.size + 1, k + 1, _, _, by rw [HLEN.out]; omega, by go_num, by go_num, by go_num, HX.out, HST2.out⟩
            case measure => simp [intOf]
      · have h3 : i = s.size + 1 := by omega
        have e0 : ¬ (i : Int) ≤ (s.size : Int) := by omega
        have hwd : PV.words s.data.toList = done := by
          rcases HST.out with ⟨a, _⟩ | ⟨_, a⟩
          · rw [HLEN.out] at a; omega
          · exact a
        have HG := Lib.hid HR.out.gr
        by_cases hk8 : k = 8
        · have e8 : ((k : Int) != 8) = false := by rw [hk8]; rfl
          have hc := lies_block HR.out.vec
          have HE := Lib.hid (HR.out.ends hwd hk8)
          clear hwd hk8 h3
          go_wp2_with fail
          exact bodyPost_ret (v := .tuple #[.agg (vcells (vecOf ns)), .int .i64 0]) (by simp [results, Tryd.results24, go_sem, *]) rfl ⟨by rw [HE.out]; rfl, by as_aux_lemma => (iterate 8 (with_reducible refine Gr.setCell ?_ hle _)); exact HG.out⟩
        · have e8 : ((k : Int) != 8) = true := by rw [bne_iff_ne]; omega
          have HB := Lib.hid (HR.out.noend hwd hk8)
          clear hwd hk8 h3
          go_wp2_with fail
          exact bodyPost_ret (v := .tuple #[.agg (vcells (fun _ => 0)), .int .i64 3]) (by simp [results, Tryd.results24, go_sem, *]) rfl ⟨by rw [HB.out]; rfl, by as_aux_lemma => (iterate 8 (with_reducible refine Gr.setCell ?_ hle _)); exact HG.out⟩
end Go.Proofs.YtnamjgbppgdgeaaDoor
