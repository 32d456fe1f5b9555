/- Mathematics of a rule's words, read again; the laws' waking; the law RuleWholes. -/
import Derived.Test.YtioldhhnkeakcaaDoorRuK
namespace Go.Proofs.YtioldhhnkeakcaaDoor
open Go.RowKit Go.Joins
set_option linter.unusedSimpArgs false
set_option linter.unusedVariables false

def tx (n : Int) : ByteArray := ⟨(Lib.itoa n).toArray⟩
def subR (r : RU) (n : ByteArray) : ByteArray := if n = sKEY then r.key else if n = sOTHER then r.other else if n = sMIN then tx r.min else if n = sSTART then tx r.start else n
/-- The words of a rule's line. -/
def wordsR (r : RU) : List ByteArray := (names r.k).map (subR r)
theorem subR_key (r : RU) : subR r sKEY = r.key := by unfold subR; rw [if_pos rfl]
theorem subR_other (r : RU) : subR r sOTHER = r.other := by unfold subR; rw [if_neg (by decide), if_pos rfl]
theorem subR_min (r : RU) : subR r sMIN = tx r.min := by unfold subR; rw [if_neg (by decide), if_neg (by decide), if_pos rfl]
theorem subR_start (r : RU) : subR r sSTART = tx r.start := by unfold subR; rw [if_neg (by decide), if_neg (by decide), if_neg (by decide), if_pos rfl]
theorem subR_word (r : RU) {w : ByteArray} (h : w ≠ sKEY ∧ w ≠ sOTHER ∧ w ≠ sMIN ∧ w ≠ sSTART) : subR r w = w := by unfold subR; rw [if_neg h.1, if_neg h.2.1, if_neg h.2.2.1, if_neg h.2.2.2]
theorem setF_key (r : RU) (x : ByteArray) : setF sKEY r x = some { r with key := x } := by unfold setF; rw [if_pos rfl]
theorem setF_other (r : RU) (x : ByteArray) : setF sOTHER r x = some { r with other := x } := by unfold setF; rw [if_neg (by decide), if_pos rfl]
theorem setF_min (r : RU) {n : Int} (h : PV.inA n) : setF sMIN r (tx n) = some { r with min := n } := by
  unfold setF; rw [if_neg (by decide), if_neg (by decide), if_pos rfl, show (tx n).data.toList = Lib.itoa n from rfl, PV.wholeL_itoa h]; rfl
theorem setF_start (r : RU) {n : Int} (h : PV.inA n) : setF sSTART r (tx n) = some { r with start := n } := by
  unfold setF; rw [if_neg (by decide), if_neg (by decide), if_neg (by decide), if_pos rfl, show (tx n).data.toList = Lib.itoa n from rfl, PV.wholeL_itoa h]; rfl
theorem setF_none (r : RU) {w : ByteArray} (x : ByteArray) (h : w ≠ sKEY ∧ w ≠ sOTHER ∧ w ≠ sMIN ∧ w ≠ sSTART) : setF w r x = some r := by
  unfold setF; rw [if_neg h.1, if_neg h.2.1, if_neg h.2.2.1, if_neg h.2.2.2]
theorem nil_of {s : ByteArray} (h : s.toList.isEmpty = true) : s = ⟨#[]⟩ := by
  rw [ByteArray.toList_eq, List.isEmpty_iff] at h
  cases s with
  | mk d => exact congrArg ByteArray.mk (Array.toList_eq_nil_iff.1 h)
theorem foldR_cons {r r' : RU} {n x : ByteArray} {t : List (ByteArray × ByteArray)} (h : setF n r x = some r') : foldR r ((n, x) :: t) = foldR r' t := by
  show (setF n r x).bind _ = _
  rw [h]; rfl
/-- A rule's words, read again, are the rule. -/
theorem readR_words {r : RU} (h : namedB r = true) (h1 : PV.inA r.min) (h2 : PV.inA r.start) : ReadR (wordsR r) r := by
  obtain ⟨hk, ho, hm, hs⟩ := named_iff.1 h
  obtain ⟨k, key, other, mn, st⟩ := r
  simp only [] at hk ho hm hs h1 h2
  rcases k_cases hk with rfl | rfl | rfl | rfl | rfl | rfl | rfl | rfl | rfl | rfl
  · obtain rfl := nil_of (by simpa using ho : other.toList.isEmpty = true)
    obtain rfl : mn = 0 := by omega
    refine ⟨0, by decide, ?_, ?_, ?_⟩
    · show (List.map (subR _) [wCounter, sKEY, sSTART]).headD _ = wCounter
      rw [List.map_cons, subR_word _ (by decide)]; rfl
    · rfl
    · show foldR (kR 0) (List.zip [wCounter, sKEY, sSTART] (List.map (subR _) [wCounter, sKEY, sSTART])) = _
      simp only [List.map_cons, List.map_nil, subR_key, subR_start, List.zip_cons_cons, List.zip_nil_right]
      rw [subR_word _ (by decide), foldR_cons (setF_none _ _ (by decide)), foldR_cons (setF_key _ _), foldR_cons (setF_start _ h2)]
      rfl
  · obtain rfl := nil_of (by simpa using ho : other.toList.isEmpty = true)
    refine ⟨1, by decide, ?_, ?_, ?_⟩
    · show (List.map (subR _) [wBound, sKEY, sMIN, sSTART]).headD _ = wBound
      rw [List.map_cons, subR_word _ (by decide)]; rfl
    · rfl
    · show foldR (kR 1) (List.zip [wBound, sKEY, sMIN, sSTART] (List.map (subR _) [wBound, sKEY, sMIN, sSTART])) = _
      simp only [List.map_cons, List.map_nil, subR_key, subR_min, subR_start, List.zip_cons_cons, List.zip_nil_right]
      rw [subR_word _ (by decide), foldR_cons (setF_none _ _ (by decide)), foldR_cons (setF_key _ _), foldR_cons (setF_min _ h1), foldR_cons (setF_start _ h2)]
      rfl
  · obtain rfl := nil_of (by simpa using ho : other.toList.isEmpty = true)
    obtain rfl : mn = 0 := by omega
    obtain rfl : st = 0 := by omega
    refine ⟨2, by decide, ?_, ?_, ?_⟩
    · show (List.map (subR _) [wSet, sKEY]).headD _ = wSet
      rw [List.map_cons, subR_word _ (by decide)]; rfl
    · rfl
    · show foldR (kR 2) (List.zip [wSet, sKEY] (List.map (subR _) [wSet, sKEY])) = _
      simp only [List.map_cons, List.map_nil, subR_key, List.zip_cons_cons, List.zip_nil_right]
      rw [subR_word _ (by decide), foldR_cons (setF_none _ _ (by decide)), foldR_cons (setF_key _ _)]
      rfl
  · obtain rfl := nil_of (by simpa using ho : other.toList.isEmpty = true)
    obtain rfl : mn = 0 := by omega
    obtain rfl : st = 0 := by omega
    refine ⟨3, by decide, ?_, ?_, ?_⟩
    · show (List.map (subR _) [wFirm, sKEY]).headD _ = wFirm
      rw [List.map_cons, subR_word _ (by decide)]; rfl
    · rfl
    · show foldR (kR 3) (List.zip [wFirm, sKEY] (List.map (subR _) [wFirm, sKEY])) = _
      simp only [List.map_cons, List.map_nil, subR_key, List.zip_cons_cons, List.zip_nil_right]
      rw [subR_word _ (by decide), foldR_cons (setF_none _ _ (by decide)), foldR_cons (setF_key _ _)]
      rfl
  · obtain rfl := nil_of (by simpa using ho : other.toList.isEmpty = true)
    obtain rfl : mn = 0 := by omega
    obtain rfl : st = 0 := by omega
    refine ⟨4, by decide, ?_, ?_, ?_⟩
    · show (List.map (subR _) [wLast, sKEY]).headD _ = wLast
      rw [List.map_cons, subR_word _ (by decide)]; rfl
    · rfl
    · show foldR (kR 4) (List.zip [wLast, sKEY] (List.map (subR _) [wLast, sKEY])) = _
      simp only [List.map_cons, List.map_nil, subR_key, List.zip_cons_cons, List.zip_nil_right]
      rw [subR_word _ (by decide), foldR_cons (setF_none _ _ (by decide)), foldR_cons (setF_key _ _)]
      rfl
  · obtain rfl := nil_of (by simpa using ho : other.toList.isEmpty = true)
    obtain rfl : mn = 0 := by omega
    obtain rfl : st = 0 := by omega
    refine ⟨5, by decide, ?_, ?_, ?_⟩
    · show (List.map (subR _) [wMulti, sKEY]).headD _ = wMulti
      rw [List.map_cons, subR_word _ (by decide)]; rfl
    · rfl
    · show foldR (kR 5) (List.zip [wMulti, sKEY] (List.map (subR _) [wMulti, sKEY])) = _
      simp only [List.map_cons, List.map_nil, subR_key, List.zip_cons_cons, List.zip_nil_right]
      rw [subR_word _ (by decide), foldR_cons (setF_none _ _ (by decide)), foldR_cons (setF_key _ _)]
      rfl
  · obtain rfl := nil_of (by simpa using ho : other.toList.isEmpty = true)
    obtain rfl : mn = 0 := by omega
    refine ⟨6, by decide, ?_, ?_, ?_⟩
    · show (List.map (subR _) [wFlag, sKEY, sSTART]).headD _ = wFlag
      rw [List.map_cons, subR_word _ (by decide)]; rfl
    · rfl
    · show foldR (kR 6) (List.zip [wFlag, sKEY, sSTART] (List.map (subR _) [wFlag, sKEY, sSTART])) = _
      simp only [List.map_cons, List.map_nil, subR_key, subR_start, List.zip_cons_cons, List.zip_nil_right]
      rw [subR_word _ (by decide), foldR_cons (setF_none _ _ (by decide)), foldR_cons (setF_key _ _), foldR_cons (setF_start _ h2)]
      rfl
  · obtain rfl := nil_of (by simpa using ho : other.toList.isEmpty = true)
    obtain rfl : mn = 0 := by omega
    obtain rfl : st = 0 := by omega
    refine ⟨7, by decide, ?_, ?_, ?_⟩
    · show (List.map (subR _) [wIds, sKEY]).headD _ = wIds
      rw [List.map_cons, subR_word _ (by decide)]; rfl
    · rfl
    · show foldR (kR 7) (List.zip [wIds, sKEY] (List.map (subR _) [wIds, sKEY])) = _
      simp only [List.map_cons, List.map_nil, subR_key, List.zip_cons_cons, List.zip_nil_right]
      rw [subR_word _ (by decide), foldR_cons (setF_none _ _ (by decide)), foldR_cons (setF_key _ _)]
      rfl
  · obtain rfl : mn = 0 := by omega
    obtain rfl : st = 0 := by omega
    refine ⟨8, by decide, ?_, ?_, ?_⟩
    · show (List.map (subR _) [wRef, sKEY, sOTHER]).headD _ = wRef
      rw [List.map_cons, subR_word _ (by decide)]; rfl
    · rfl
    · show foldR (kR 8) (List.zip [wRef, sKEY, sOTHER] (List.map (subR _) [wRef, sKEY, sOTHER])) = _
      simp only [List.map_cons, List.map_nil, subR_key, subR_other, List.zip_cons_cons, List.zip_nil_right]
      rw [subR_word _ (by decide), foldR_cons (setF_none _ _ (by decide)), foldR_cons (setF_key _ _), foldR_cons (setF_other _ _)]
      rfl
  · obtain rfl : mn = 0 := by omega
    obtain rfl : st = 0 := by omega
    refine ⟨9, by decide, ?_, ?_, ?_⟩
    · show (List.map (subR _) [wEither, sKEY, sOTHER]).headD _ = wEither
      rw [List.map_cons, subR_word _ (by decide)]; rfl
    · rfl
    · show foldR (kR 9) (List.zip [wEither, sKEY, sOTHER] (List.map (subR _) [wEither, sKEY, sOTHER])) = _
      simp only [List.map_cons, List.map_nil, subR_key, subR_other, List.zip_cons_cons, List.zip_nil_right]
      rw [subR_word _ (by decide), foldR_cons (setF_none _ _ (by decide)), foldR_cons (setF_key _ _), foldR_cons (setF_other _ _)]
      rfl
end Go.Proofs.YtioldhhnkeakcaaDoor
