/- Mathematics of a printed catalogue: its words, its lines, read again. -/
import Derived.Test.YtnjmgknicffcbaaGreatDoorZb14
namespace Go.Proofs.YtnjmgknicffcbaaGreatDoor
open Go.RowKit Go.Joins
set_option linter.unusedSimpArgs false
set_option linter.unusedVariables false

/-- A word of a line: short, without a blank and without a byte 10. -/
def GoodW (x : ByteArray) : Prop := x.data.toList.length ≤ 32 ∧ (10 : UInt8) ∉ x.data.toList ∧ (32 : UInt8) ∉ x.data.toList
theorem good_key {s : ByteArray} (h : keyS s = true) : GoodW s := by
  have hz := keyS_size h
  unfold keyS at h
  rw [Bool.and_eq_true, List.all_eq_true] at h
  refine ⟨by rw [Array.length_toList]; exact hz.2, fun hm => ?_, fun hm => ?_⟩
  · exact absurd (h.2 _ hm) (by decide)
  · exact absurd (h.2 _ hm) (by decide)
theorem good_tx {n : Int} (h : PV.inA n) : GoodW (tx n) := by
  refine ⟨Nat.le_trans (PV.itoa_len h) (by decide), fun hm => ?_, fun hm => ?_⟩
  · obtain ⟨d, h1, h2, -, -⟩ := PV.itoa_head (show Lib.itoa n = Lib.itoa n from rfl)
    rcases h1 with h1 | ⟨h1, -⟩
    · have := h2 10 (by rw [← h1]; exact hm); exact absurd this.1 (by decide)
    · have hm' : (10 : UInt8) ∈ Lib.itoa n := hm
      rw [h1] at hm'
      rcases List.mem_cons.1 hm' with e | e
      · exact absurd e (by decide)
      · exact absurd (h2 10 e).1 (by decide)
  · obtain ⟨d, h1, h2, -, -⟩ := PV.itoa_head (show Lib.itoa n = Lib.itoa n from rfl)
    rcases h1 with h1 | ⟨h1, -⟩
    · have := h2 32 (by rw [← h1]; exact hm); exact absurd this.1 (by decide)
    · have hm' : (32 : UInt8) ∈ Lib.itoa n := hm
      rw [h1] at hm'
      rcases List.mem_cons.1 hm' with e | e
      · exact absurd e (by decide)
      · exact absurd (h2 32 e).1 (by decide)
/-- What a rule that may be is, as far as its line goes. -/
structure LineOk (r : RU) : Prop where
  named : namedB r = true
  min : PV.inA r.min
  start : PV.inA r.start
  key : GoodW r.key
  other : GoodW r.other
theorem good_nil {s : ByteArray} (h : s.toList.isEmpty = true) : GoodW s := by
  rw [nil_of h]
  exact ⟨by decide, by decide, by decide⟩
theorem line_ok {L : List RU} (h : checkC L = 0) : ∀ r ∈ L, LineOk r := by
  unfold checkC at h
  split at h
  · cases h
  · split at h
    · rename_i ha
      rw [allAt_iff] at ha
      have hm : ∀ j (hj : j < L.length), mayB L j L[j] = true := fun j hj => by have := ha j hj; rwa [Nat.zero_add] at this
      intro r hr
      obtain ⟨i, hi, rfl⟩ := List.mem_iff_getElem.1 hr
      have hb := hm i hi
      unfold mayB at hb
      simp only [Bool.and_eq_true] at hb
      obtain ⟨⟨⟨hn, hk⟩, h1, h2⟩, h3⟩ := hb
      refine ⟨hn, inAB_iff.1 h1, inAB_iff.1 h2, good_key hk, ?_⟩
      obtain ⟨-, ho, -, -⟩ := named_iff.1 hn
      have hrul : ∀ kind : Int, kind ≠ 0 → (ruleR L L[i].other).k = kind → GoodW L[i].other := fun kind h0 e => by
        obtain ⟨j, hj, -, -, hf⟩ := ruleR_kind (L := L) (key := L[i].other) (Or.inr (by rw [e]; exact h0))
        have hb := hm j hj
        unfold mayB at hb
        simp only [Bool.and_eq_true] at hb
        rw [← (isF_key hf).1]
        exact good_key hb.1.1.2
      rcases ho with ho | ho | ho
      · exact good_nil ho
      · rw [if_pos ho] at h3
        unfold joinsB at h3
        simp only [Bool.and_eq_true, decide_eq_true_eq] at h3
        exact hrul 3 (by decide) h3.2.2
      · rw [if_neg (by omega), if_pos ho] at h3
        unfold joinsB at h3
        simp only [Bool.and_eq_true, decide_eq_true_eq] at h3
        exact hrul 7 (by decide) h3.1.2.2
    · cases h
instance (x : ByteArray) : Decidable (GoodW x) := by unfold GoodW; infer_instance
theorem words_good {r : RU} (h : LineOk r) : ∀ x ∈ wordsR r, GoodW x := by
  intro x hx
  obtain ⟨n, hn, rfl⟩ := List.mem_map.1 hx
  unfold subR
  split
  · exact h.key
  · split
    · exact h.other
    · split
      · exact good_tx h.min
      · split
        · exact good_tx h.start
        · have hall : ∀ k : Int, (1 ≤ k ∧ k ≤ 10) → ∀ n ∈ names k, GoodW n := fun k hk => by
            rcases k_cases hk with rfl | rfl | rfl | rfl | rfl | rfl | rfl | rfl | rfl | rfl <;> decide
          exact hall r.k (named_iff.1 h.named).1 n hn
/-- A rule's line, without its end. -/
def lineL (r : RU) : List UInt8 := Lib.join ((wordsR r).map (·.data.toList)) [32]
/-- The text of the first k. -/
def textL (L : List RU) : List UInt8 := L.flatMap fun r => lineL r ++ [10]
theorem textL_snoc (L : List RU) (r : RU) : textL (L ++ [r]) = textL L ++ (lineL r ++ [10]) := by
  unfold textL; rw [List.flatMap_append]; simp
theorem textL_take {L : List RU} {j : Nat} (hj : j < L.length) : textL (L.take (j + 1)) = (textL (L.take j) ++ lineL L[j]) ++ [10] := by
  rw [List.take_succ_eq_append_getElem hj, textL_snoc, List.append_assoc]
theorem join_le (n : Nat) : ∀ X : List (List UInt8), (∀ x ∈ X, x.length ≤ n) → (Lib.join X [32]).length ≤ X.length * (n + 1)
  | [], _ => by simp [Lib.join]
  | [x], h => by
    have := h x (List.mem_singleton.2 rfl)
    rw [Lib.join_one]; simp; omega
  | x :: y :: r, h => by
    have ih := join_le n (y :: r) (fun z hz => h z (List.mem_cons_of_mem _ hz))
    have h1 := h x (List.mem_cons_self ..)
    have e : Lib.join (x :: y :: r) [32] = x ++ 32 :: Lib.join (y :: r) [32] := by
      unfold Lib.join; simp [List.intercalate, List.intersperse]
    rw [e, List.length_append, List.length_cons]
    simp only [List.length_cons] at ih ⊢
    rw [Nat.succ_mul]
    omega
theorem words_len (r : RU) : (wordsR r).length ≤ 4 := by unfold wordsR; rw [List.length_map]; exact names_le r.k
theorem line_len {r : RU} (h : LineOk r) : (lineL r).length ≤ 132 := by
  have := join_le 32 ((wordsR r).map (·.data.toList)) (fun x hx => by
    obtain ⟨y, hy, rfl⟩ := List.mem_map.1 hx
    exact (words_good h y hy).1)
  have h4 := words_len r
  rw [List.length_map] at this
  unfold lineL
  omega
theorem text_len : ∀ {L : List RU}, (∀ r ∈ L, LineOk r) → (textL L).length ≤ L.length * 133
  | [], _ => by simp [textL]
  | r :: L, h => by
    have h1 := line_len (h r (List.mem_cons_self ..))
    have ih := text_len (L := L) (fun z hz => h z (List.mem_cons_of_mem _ hz))
    show ((lineL r ++ [10]) ++ textL L).length ≤ (L.length + 1) * 133
    rw [List.length_append, List.length_append, List.length_singleton, Nat.succ_mul]
    omega
theorem join_no {c : UInt8} (hc : c ≠ 32) : ∀ X : List (List UInt8), (∀ x ∈ X, c ∉ x) → c ∉ Lib.join X [32]
  | [], _ => by simp [Lib.join]
  | [x], h => by rw [Lib.join_one]; exact h x (List.mem_singleton.2 rfl)
  | x :: y :: r, h => by
    have ih := join_no hc (y :: r) (fun z hz => h z (List.mem_cons_of_mem _ hz))
    have e : Lib.join (x :: y :: r) [32] = x ++ 32 :: Lib.join (y :: r) [32] := by
      unfold Lib.join; simp [List.intercalate, List.intersperse]
    rw [e, List.mem_append, List.mem_cons]
    rintro (h1 | h1 | h1)
    · exact h x (List.mem_cons_self ..) h1
    · exact hc h1
    · exact ih h1
theorem line_no {r : RU} (h : LineOk r) : (10 : UInt8) ∉ lineL r := join_no (by decide) _ (fun x hx => by
  obtain ⟨y, hy, rfl⟩ := List.mem_map.1 hx
  exact (words_good h y hy).2.1)
/-- Cut at its ends, the text is its lines and nothing behind. -/
theorem text_pieces {L : List RU} (h : ∀ r ∈ L, LineOk r) : PV.pieces 10 ⟨(textL L).toArray⟩ = L.map (fun r => ⟨(lineL r).toArray⟩) ++ [⟨#[]⟩] := by
  rw [PV.pieces_eq]
  have e : (textL L) = (L.map lineL).flatMap fun m => m ++ [10] := by unfold textL; rw [List.flatMap_map]
  rw [show (⟨(textL L).toArray⟩ : ByteArray).data.toList = textL L from rfl, e, PV.cut_lines (fun m hm => by
    obtain ⟨r, hr, rfl⟩ := List.mem_map.1 hm
    exact line_no (h r hr)), List.map_append, List.map_map]
  rfl
theorem line_pieces {r : RU} (h : LineOk r) : PV.pieces 32 ⟨(lineL r).toArray⟩ = wordsR r := by
  have hw := words_good h
  rw [PV.pieces_eq, show (⟨(lineL r).toArray⟩ : ByteArray).data.toList = lineL r from rfl]
  unfold lineL
  cases hc : wordsR r with
  | nil =>
    have h0 : (wordsR r).length = 0 := by rw [hc]; rfl
    unfold wordsR at h0
    rw [List.length_map] at h0
    exact absurd (List.eq_nil_of_length_eq_zero h0) (names_in (named_iff.1 h.named).1)
  | cons x X =>
    rw [List.map_cons, PV.cut_words _ (fun y hy => by
      rw [← List.map_cons (f := fun b : ByteArray => b.data.toList)] at hy
      obtain ⟨z, hz, rfl⟩ := List.mem_map.1 hy
      exact (hw z (by rw [hc]; exact hz)).2.2), List.map_cons, List.map_map]
    congr 1
    exact (List.map_congr_left (fun y _ => rfl)).trans (List.map_id X)
theorem line_skip {r : RU} (h : LineOk r) : skipB ⟨(lineL r).toArray⟩ = false := by
  have hall : ∀ k : Int, (1 ≤ k ∧ k ≤ 10) → ∃ n N, names k = n :: N ∧ (n ≠ sKEY ∧ n ≠ sOTHER ∧ n ≠ sMIN ∧ n ≠ sSTART) ∧ n.data.toList ≠ [] ∧ n.data.toList.headD 0 ≠ 35 := fun k hk => by
    rcases k_cases hk with rfl | rfl | rfl | rfl | rfl | rfl | rfl | rfl | rfl | rfl <;> exact ⟨_, _, rfl, by decide, by decide, by decide⟩
  obtain ⟨n, N, e, h4, h5, h6⟩ := hall r.k (named_iff.1 h.named).1
  have ew : wordsR r = n :: N.map (subR r) := by unfold wordsR; rw [e, List.map_cons, subR_word _ h4]
  have el : lineL r = Lib.join (n.data.toList :: (N.map (subR r)).map (·.data.toList)) [32] := by unfold lineL; rw [ew, List.map_cons]
  unfold skipB
  rw [show (⟨(lineL r).toArray⟩ : ByteArray).data.toList = lineL r from rfl, el]
  cases hn : n.data.toList with
  | nil => exact absurd hn h5
  | cons c t =>
    rw [hn] at h6
    have hc : c ≠ 35 := h6
    cases (N.map (subR r)).map (·.data.toList) with
    | nil => simp [Lib.join_one, hc]
    | cons y Y => simp [Lib.join, List.intercalate, List.intersperse, hc]
/-- The printed text, read: its lines give the rules one by one. -/
theorem text_parse {L : List RU} (h : ∀ r ∈ L, LineOk r) : ParseS (PV.pieces 10 ⟨(textL L).toArray⟩) (fun k => L.take k) := by
  rw [text_pieces h]
  refine ⟨by simp, fun k hk => ?_⟩
  rw [List.length_append, List.length_map, List.length_singleton] at hk
  by_cases hkL : k < L.length
  · refine Or.inr ?_
    rw [List.getElem_append_left (by rw [List.length_map]; exact hkL), List.getElem_map]
    have hok := h _ (List.getElem_mem hkL)
    exact ⟨line_skip hok, L[k], by rw [line_pieces hok]; exact readR_words hok.named hok.min hok.start, List.take_succ_eq_append_getElem hkL⟩
  · obtain rfl : k = L.length := by omega
    refine Or.inl ⟨?_, by rw [List.take_of_length_le (Nat.le_refl _), List.take_of_length_le (by omega)]⟩
    rw [List.getElem_append_right (by rw [List.length_map]; exact Nat.le_refl _)]
    simp
    rfl
end Go.Proofs.YtnjmgknicffcbaaGreatDoor
