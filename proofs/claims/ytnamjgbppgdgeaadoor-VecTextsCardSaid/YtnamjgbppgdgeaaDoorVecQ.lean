/- Walks over package vec: Read. -/
import Derived.Test.YtnamjgbppgdgeaaDoorVecR
import Derived.Test.YtnamjgbppgdgeaaDoorVecC
namespace Go.Proofs.YtnamjgbppgdgeaaDoor
open Go.RowKit Go.Joins

set_option maxRecDepth 100000 in
theorem cut_none (s : ByteArray) (h : ∀ c ∈ s.data.toList, c ≠ 46) (w : World) :
    Calls Tryd.prog 31 #[.string s, .string ⟨#[46]⟩] w fun e w' => e = .returned (.tuple #[.string s, .string ⟨#[]⟩, .bool false]) ∧ Gr w w' := by
  have H := Lib.hid (icut_none s h w)
  clear h
  go_enter Tryd.func31, Tryd.ntmps31
  go_wp2_with fail
  refine H.out.mono ?_
  rintro e w1 ⟨rfl, hg⟩
  have HG := Lib.hid hg
  clear hg
  go_wp2_with fail
  go_ret3
  exact ⟨rfl, HG.out⟩
set_option maxRecDepth 100000 in
theorem cut_dot (s : ByteArray) (hs : s.size ≤ 140737488355328) (l r : List UInt8) (hl : ∀ c ∈ l, c ≠ 46) (h : s.data.toList = l ++ 46 :: r) (w : World) :
    Calls Tryd.prog 31 #[.string s, .string ⟨#[46]⟩] w fun e w' => e = .returned (.tuple #[.string ⟨l.toArray⟩, .string ⟨r.toArray⟩, .bool true]) ∧ Gr w w' := by
  have H := Lib.hid (icut_dot s hs l r hl h w)
  clear h hs hl
  go_enter Tryd.func31, Tryd.ntmps31
  go_wp2_with fail
  refine H.out.mono ?_
  rintro e w1 ⟨rfl, hg⟩
  have HG := Lib.hid hg
  clear hg
  go_wp2_with fail
  go_ret3
  exact ⟨rfl, HG.out⟩

/-- The vector of a list of numbers. -/
def vecOf (ns : List Nat) : Nat → Nat := fun i => ns.getD i 0
theorem vecOf_snoc {ns : List Nat} {k : Nat} (h : ns.length = k) (n : Nat) : upd (vecOf ns) k n = vecOf (ns ++ [n]) := by
  subst h
  funext i
  simp only [upd, vecOf]
  by_cases hi : i = ns.length
  · subst hi; simp
  · rw [if_neg hi]
    by_cases h2 : i < ns.length
    · simp [List.getD, List.getElem?_append_left h2]
    · simp [List.getD, List.getElem?_eq_none (by omega : ns.length ≤ i), List.getElem?_eq_none (by simp; omega : (ns ++ [n]).length ≤ i)]
theorem ToFill.gr1 {w w' : World} {B : Nat} (h : ToFill w B) (g : Gr w w') : ToFill w' B := by
  obtain ⟨⟨h0, h1, h2, h3, h4, h5, h6, h7⟩, hz, hf⟩ := h
  exact ⟨⟨g.cell h0, g.cell h1, g.cell h2, g.cell h3, g.cell h4, g.cell h5, g.cell h6, g.cell h7⟩, Nat.lt_of_lt_of_le hz g.size, fun i => by rw [Below.frozen g hz]; exact hf i⟩
def readVal : Option (List Nat) → Value
  | some ns => .tuple #[.agg (vcells (vecOf ns)), .int .i64 0]
  | none => .tuple #[.agg (vcells (fun _ => 0)), .int .i64 3]
structure ReadAt (l : List UInt8) (w : World) (k : Nat) (done : List (List UInt8)) (ns : List Nat) (t : ByteArray) (wr : World) : Prop where
  size : t.size ≤ 140737488355328
  len : done.length = k
  nums : PV.nums done = some ns
  rest : k < 8 → PV.words l = done ++ PV.words t.data.toList
  full : k = 8 → PV.words l = done
  vec : wr.heap[w.heap.size + 1]? = some (.cells (vcells (vecOf ns)) 24 (0, 0))
  res : wr.heap[w.heap.size]? = some (.cells (vcells (fun _ => 0)) 24 (0, 0))
  gr : Gr w wr
theorem boxesz (w : World) : ∃ W, W = (w.alloc (.cells #[.int .u64 0, .int .u64 0, .int .u64 0, .int .u64 0, .int .u64 0, .int .u64 0, .int .u64 0, .int .u64 0] 24)).alloc (.cells #[.int .u64 0, .int .u64 0, .int .u64 0, .int .u64 0, .int .u64 0, .int .u64 0, .int .u64 0, .int .u64 0] 24) ∧ Gr w W ∧
    W.heap[w.heap.size]? = some (.cells (vcells (fun _ => 0)) 24 (0, 0)) ∧ W.heap[w.heap.size + 1]? = some (.cells (vcells (vecOf [])) 24 (0, 0)) := by
  refine ⟨_, rfl, (Gr.refl w |>.alloc _ |>.alloc _), ?_, ?_⟩
  all_goals (simp only [World.alloc, Array.getElem?_push, Array.size_push]; simp)
  simp [vecOf]
def ReadRel (l : List UInt8) (w : World) (sv i : Value) (wr : World) : Prop :=
  ∃ (k : Nat) (done : List (List UInt8)) (ns : List Nat) (t : ByteArray), k ≤ 8 ∧ i = .int .i64 k ∧ sv = .string t ∧ ReadAt l w k done ns t wr
theorem ReadAt.gr' {l : List UInt8} {w wr w' : World} {k : Nat} {done : List (List UInt8)} {ns : List Nat} {t : ByteArray} (h : ReadAt l w k done ns t wr) (g : Gr wr w') : ReadAt l w k done ns t w' :=
  ⟨h.size, h.len, h.nums, h.rest, h.full, by rw [g.block _ (Array.getElem?_eq_some_iff.1 h.vec).1]; exact h.vec, by rw [g.block _ (Array.getElem?_eq_some_iff.1 h.res).1]; exact h.res, h.gr.trans g⟩
theorem ReadAt.nslen {l : List UInt8} {w wr : World} {k : Nat} {done : List (List UInt8)} {ns : List Nat} {t : ByteArray} (h : ReadAt l w k done ns t wr) : ns.length = k := by
  rw [PV.nums_length _ _ h.nums, h.len]
/-- One word more: the number is stored. -/
theorem ReadAt.next {l : List UInt8} {w wr : World} {k n : Nat} {done : List (List UInt8)} {ns : List Nat} {t t' : ByteArray} {wd : List UInt8} (h : ReadAt l w k done ns t wr) (hk : k < 8) (hn : PV.numL wd = some n) (hs : t'.size ≤ 140737488355328)
    (hr : k + 1 < 8 → PV.words t.data.toList = wd :: PV.words t'.data.toList) (hf : k + 1 = 8 → PV.words t.data.toList = [wd]) :
    ReadAt l w (k + 1) (done ++ [wd]) (ns ++ [n]) t' (wr.setCell ⟨w.heap.size + 1, k, none⟩ (.int .u64 (n : Int))) := by
  refine ⟨hs, by simp [h.len], PV.nums_snoc _ _ _ _ h.nums hn, fun h8 => ?_, fun h8 => ?_, ?_, ?_, Gr.setCell h.gr (by simp) _⟩
  · rw [h.rest hk, hr h8]; simp
  · rw [h.rest hk, hf h8]
  · rw [block_setCell h.vec, vcells_upd _ hk, vecOf_snoc h.nslen]
  · rw [Go.Deep.blk_setCell_other _ _ _ _ (by simp)]; exact h.res
theorem ReadAt.bad {l : List UInt8} {w wr : World} {k : Nat} {done : List (List UInt8)} {ns : List Nat} {t : ByteArray} {wd : List UInt8} {more : List (List UInt8)} (h : ReadAt l w k done ns t wr) (hk : k < 8) (hn : PV.numL wd = none)
    (hr : PV.words t.data.toList = wd :: more) : PV.readL l = none := by
  unfold PV.readL
  rw [h.rest hk, hr, PV.nums_bad _ _ _ hn]
  simp
theorem ReadAt.short {l : List UInt8} {w wr : World} {k : Nat} {done : List (List UInt8)} {ns : List Nat} {t : ByteArray} {wd : List UInt8} (h : ReadAt l w k done ns t wr) (hk : k < 7) (hr : PV.words t.data.toList = [wd]) : PV.readL l = none := by
  unfold PV.readL
  rw [h.rest (by omega), hr, if_neg (by simp [h.len]; omega)]
theorem ReadAt.long {l : List UInt8} {w wr : World} {k : Nat} {done : List (List UInt8)} {ns : List Nat} {t : ByteArray} {wd r : List UInt8} (h : ReadAt l w k done ns t wr) (hk : k = 7) (hr : PV.words t.data.toList = wd :: PV.words r) : PV.readL l = none := by
  have : 0 < (PV.words r).length := List.length_pos_iff.2 (PV.words_ne r)
  unfold PV.readL
  rw [h.rest (by omega), hr, if_neg (by simp [h.len]; omega)]
theorem ReadAt.ends {l : List UInt8} {w wr : World} {k : Nat} {done : List (List UInt8)} {ns : List Nat} {t : ByteArray} (h : ReadAt l w k done ns t wr) (hk : k = 8) : PV.readL l = some ns := by
  unfold PV.readL
  rw [h.full hk, if_pos (by rw [h.len, hk]), h.nums]
theorem readNumber_some (l : List UInt8) (n : Nat) (h : PV.numL l = some n) (hl : l.length ≤ 140737488355328) (w : World) (hS : Sents w) :
    Calls Tryd.prog 32 #[.string ⟨l.toArray⟩] w fun e w' => e = .returned (.tuple #[.int .u64 (n : Int), .bool true]) ∧ Gr w w' := by
  have hz : (⟨l.toArray⟩ : ByteArray).size = l.length := size_arr l
  have := readNumber_any ⟨l.toArray⟩ (by rw [hz]; unfold maxLen; omega) w hS (by rw [hz]; exact hl)
  rw [show (⟨l.toArray⟩ : ByteArray).data.toList = l from rfl, h] at this
  exact this
theorem readNumber_none (l : List UInt8) (h : PV.numL l = none) (hl : l.length ≤ 140737488355328) (w : World) (hS : Sents w) :
    Calls Tryd.prog 32 #[.string ⟨l.toArray⟩] w fun e w' => e = .returned (.tuple #[.int .u64 0, .bool false]) ∧ Gr w w' := by
  have hz : (⟨l.toArray⟩ : ByteArray).size = l.length := size_arr l
  have := readNumber_any ⟨l.toArray⟩ (by rw [hz]; unfold maxLen; omega) w hS (by rw [hz]; exact hl)
  rw [show (⟨l.toArray⟩ : ByteArray).data.toList = l from rfl, h] at this
  exact this
theorem arr_of {t : ByteArray} {l : List UInt8} (h : t.data.toList = l) : t = ⟨l.toArray⟩ := by
  subst h; rfl

set_option maxRecDepth 100000 in
set_option maxHeartbeats 4000000 in
theorem read_any (s : ByteArray) (hs : s.size ≤ 140737488355328) (w : World) (hS : Sents w) :
    Calls Tryd.prog 23 #[.string s] w fun e w' => e = .returned (readVal (PV.readL s.data.toList)) ∧ Gr w w' := by
  obtain ⟨W, hW, hg, hA, hB⟩ := boxesz w
  have hat : ReadAt s.data.toList w 0 [] [] s W := ⟨hs, rfl, rfl, fun _ => rfl, fun h => (by cases h), hB, hA, hg⟩
  have HS := Lib.hid hS
  have HAT := Lib.hid hat
  clear hS hat hA hB hg hs
  go_enter Tryd.func23, Tryd.ntmps23
  go_wp2_with fail
  rw [← hW]
  clear hW
  go_loopw [0, 12] (fun sv i wr => ReadRel s.data.toList w sv i wr) (fun _ i _ => 8 - (intOf i).toNat)
  case atStart => exact ⟨0, [], [], s, by decide, rfl, rfl, HAT.out⟩
  case round =>
    clear HAT
    obtain ⟨k, done, ns, t, hk, rfl, rfl, hat⟩ := hrel
    have HR := Lib.hid hat
    have hF := toFill_of hat.res
    have hle : w.heap.size ≤ w.heap.size := Nat.le_refl _
    clear hat
    by_cases hlt : k < 8
    · have hk0 : (0 : Int) ≤ (k : Int) := Int.natCast_nonneg _
      have hk8 : (k : Int) < 8 := by omega
      obtain ⟨wd, hnd, hcase⟩ := PV.words_first t.data.toList
      have HND := Lib.hid hnd
      clear hnd
      rcases hcase with ⟨ht, hw⟩ | ⟨r, ht, hw⟩
      · obtain rfl := arr_of ht
        have HW := Lib.hid hw
        have hl : wd.length ≤ 140737488355328 := by have := HR.out.size; rw [size_arr] at this; exact this
        clear ht hw
        have HC := Lib.hid (fun w => cut_none ⟨wd.toArray⟩ HND.out w)
        cases hn : PV.numL wd with
        | none =>
          have HB := Lib.hid (HR.out.bad hlt hn HW.out)
          have HN := Lib.hid (fun w hS => readNumber_none wd hn hl w hS)
          clear hn
          go_wp2_with fail
          refine (HC.out _).mono ?_
          rintro e w1 ⟨rfl, hg1⟩
          have HR1 := Lib.hid (HR.out.gr' hg1)
          have hF1 := ToFill.gr1 hF hg1
          have HS1 := Lib.hid (HS.out.gr (HR.out.gr.trans hg1))
          clear hg1 hF
          go_wp2_with fail
          refine (HN.out _ HS1.out).mono ?_
          rintro e w2 ⟨rfl, hg2⟩
          have HG := Lib.hid (HR1.out.gr.trans hg2)
          have hF2 := ToFill.gr1 hF1 hg2
          clear hg2 hF1
          go_wp2_with fail
          exact bodyPost_ret (v := .tuple #[.agg (vcells (fun _ => 0)), .int .i64 3]) (by simp [results, Tryd.results23, go_sem, *]) rfl ⟨by rw [HB.out]; rfl, by as_aux_lemma => (iterate 8 (with_reducible refine Gr.setCell ?_ hle _)); exact HG.out⟩
        | some n =>
          have HN := Lib.hid (fun w hS => readNumber_some wd n hn hl w hS)
          by_cases h7 : k = 7
          · have e7 : ((k : Int) == 7) = true := by rw [h7]; rfl
            have HNN := Lib.hid hn
            have H7 := Lib.hid h7
            clear hn h7
            go_wp2_with fail
            refine (HC.out _).mono ?_
            rintro e w1 ⟨rfl, hg1⟩
            have HR1 := Lib.hid (HR.out.gr' hg1)
            have hF1 := ToFill.gr1 hF hg1
            have HS1 := Lib.hid (HS.out.gr (HR.out.gr.trans hg1))
            clear hg1 hF
            go_wp2_with fail
            refine (HN.out _ HS1.out).mono ?_
            rintro e w2 ⟨rfl, hg2⟩
            have hR2 := HR1.out.gr' hg2
            have hcv : w2.cell? ⟨w.heap.size + 1, k, none⟩ = some (.int .u64 (vecOf ns k : Int)) := by rw [cell_of_block hR2.vec, vcells_at _ hlt]
            have hfv : w2.frozen? ⟨w.heap.size + 1, k, none⟩ = false := unfrozen_of_block hR2.vec k
            have HX := Lib.hid (hR2.next hlt HNN.out (t' := ⟨#[]⟩) (by decide) (fun h => absurd h (by have := H7.out; omega)) (fun _ => HW.out))
            clear hR2 hg2 hF1
            go_wp2_with fail
            go_roundw
            case rel => exact ⟨k + 1, _, _, _, by omega, by go_num, rfl, HX.out⟩
            case measure => simp [intOf]; omega
          · have e7 : ((k : Int) == 7) = false := beq_eq_false_iff_ne.2 (by omega)
            have HB := Lib.hid (HR.out.short (by omega) HW.out)
            clear hn h7
            go_wp2_with fail
            refine (HC.out _).mono ?_
            rintro e w1 ⟨rfl, hg1⟩
            have HR1 := Lib.hid (HR.out.gr' hg1)
            have hF1 := ToFill.gr1 hF hg1
            have HS1 := Lib.hid (HS.out.gr (HR.out.gr.trans hg1))
            clear hg1 hF
            go_wp2_with fail
            refine (HN.out _ HS1.out).mono ?_
            rintro e w2 ⟨rfl, hg2⟩
            have HG := Lib.hid (HR1.out.gr.trans hg2)
            have hF2 := ToFill.gr1 hF1 hg2
            clear hg2 hF1
            go_wp2_with fail
            exact bodyPost_ret (v := .tuple #[.agg (vcells (fun _ => 0)), .int .i64 3]) (by simp [results, Tryd.results23, go_sem, *]) rfl ⟨by rw [HB.out]; rfl, by as_aux_lemma => (iterate 8 (with_reducible refine Gr.setCell ?_ hle _)); exact HG.out⟩
      · have HW := Lib.hid hw
        have HC := Lib.hid (fun w => cut_dot t HR.out.size wd r HND.out ht w)
        have hl : wd.length ≤ 140737488355328 ∧ r.length ≤ 140737488355328 := by
          have h1 := HR.out.size
          have h2 : t.data.toList.length = t.size := by rw [Array.length_toList]; rfl
          rw [ht] at h2; simp at h2; omega
        obtain ⟨hl, hlr⟩ := hl
        clear ht hw
        cases hn : PV.numL wd with
        | none =>
          have HB := Lib.hid (HR.out.bad hlt hn HW.out)
          have HN := Lib.hid (fun w hS => readNumber_none wd hn hl w hS)
          clear hn
          go_wp2_with fail
          refine (HC.out _).mono ?_
          rintro e w1 ⟨rfl, hg1⟩
          have HR1 := Lib.hid (HR.out.gr' hg1)
          have hF1 := ToFill.gr1 hF hg1
          have HS1 := Lib.hid (HS.out.gr (HR.out.gr.trans hg1))
          clear hg1 hF
          go_wp2_with fail
          refine (HN.out _ HS1.out).mono ?_
          rintro e w2 ⟨rfl, hg2⟩
          have HG := Lib.hid (HR1.out.gr.trans hg2)
          have hF2 := ToFill.gr1 hF1 hg2
          clear hg2 hF1
          go_wp2_with fail
          exact bodyPost_ret (v := .tuple #[.agg (vcells (fun _ => 0)), .int .i64 3]) (by simp [results, Tryd.results23, go_sem, *]) rfl ⟨by rw [HB.out]; rfl, by as_aux_lemma => (iterate 8 (with_reducible refine Gr.setCell ?_ hle _)); exact HG.out⟩
        | some n =>
          have HN := Lib.hid (fun w hS => readNumber_some wd n hn hl w hS)
          by_cases h7 : k = 7
          · have e7 : ((k : Int) == 7) = true := by rw [h7]; rfl
            have HB := Lib.hid (HR.out.long h7 HW.out)
            clear hn h7
            go_wp2_with fail
            refine (HC.out _).mono ?_
            rintro e w1 ⟨rfl, hg1⟩
            have HR1 := Lib.hid (HR.out.gr' hg1)
            have hF1 := ToFill.gr1 hF hg1
            have HS1 := Lib.hid (HS.out.gr (HR.out.gr.trans hg1))
            clear hg1 hF
            go_wp2_with fail
            refine (HN.out _ HS1.out).mono ?_
            rintro e w2 ⟨rfl, hg2⟩
            have HG := Lib.hid (HR1.out.gr.trans hg2)
            have hF2 := ToFill.gr1 hF1 hg2
            clear hg2 hF1
            go_wp2_with fail
            exact bodyPost_ret (v := .tuple #[.agg (vcells (fun _ => 0)), .int .i64 3]) (by simp [results, Tryd.results23, go_sem, *]) rfl ⟨by rw [HB.out]; rfl, by as_aux_lemma => (iterate 8 (with_reducible refine Gr.setCell ?_ hle _)); exact HG.out⟩
          · have e7 : ((k : Int) == 7) = false := beq_eq_false_iff_ne.2 (by omega)
            have HNN := Lib.hid hn
            have H7 := Lib.hid h7
            clear hn h7
            go_wp2_with fail
            refine (HC.out _).mono ?_
            rintro e w1 ⟨rfl, hg1⟩
            have HR1 := Lib.hid (HR.out.gr' hg1)
            have hF1 := ToFill.gr1 hF hg1
            have HS1 := Lib.hid (HS.out.gr (HR.out.gr.trans hg1))
            clear hg1 hF
            go_wp2_with fail
            refine (HN.out _ HS1.out).mono ?_
            rintro e w2 ⟨rfl, hg2⟩
            have hR2 := HR1.out.gr' hg2
            have hcv : w2.cell? ⟨w.heap.size + 1, k, none⟩ = some (.int .u64 (vecOf ns k : Int)) := by rw [cell_of_block hR2.vec, vcells_at _ hlt]
            have hfv : w2.frozen? ⟨w.heap.size + 1, k, none⟩ = false := unfrozen_of_block hR2.vec k
            have HX := Lib.hid (hR2.next hlt HNN.out (t' := ⟨r.toArray⟩) (by rw [size_arr]; exact hlr) (fun _ => HW.out) (fun h => absurd h (by have := H7.out; omega)))
            clear hR2 hg2 hF1
            go_wp2_with fail
            go_roundw
            case rel => exact ⟨k + 1, _, _, _, by omega, by go_num, rfl, HX.out⟩
            case measure => simp [intOf]; omega
    · obtain rfl : k = 8 := by omega
      have hc := lies_block HR.out.vec
      have HE := Lib.hid (HR.out.ends rfl)
      have HG := Lib.hid HR.out.gr
      go_wp2_with fail
      exact bodyPost_ret (v := .tuple #[.agg (vcells (vecOf ns)), .int .i64 0]) (by simp [results, Tryd.results23, go_sem, *]) rfl ⟨by rw [HE.out]; rfl, by as_aux_lemma => (iterate 8 (with_reducible refine Gr.setCell ?_ hle _)); exact HG.out⟩
end Go.Proofs.YtnamjgbppgdgeaaDoor
