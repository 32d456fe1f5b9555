/- Plain mathematics: a table of which one byte was changed. -/
import Derived.Test.YtnihnkcmmnlaaaaDoorTabM
namespace Go.Proofs.YtnihnkcmmnlaaaaDoor
open Go.RowKit

theorem joinL_append : ∀ a b : List (List UInt8), joinL (a ++ b) = joinL a ++ joinL b
  | [], _ => rfl
  | x :: a, b => by
    show frameL x ++ joinL (a ++ b) = frameL x ++ joinL a ++ joinL b
    rw [joinL_append a b, List.append_assoc]
theorem bytes_take_succ {H : List (List UInt8)} {j : Nat} (hj : j < H.length) : bytesOf (H.take (j + 1)) = bytesOf (H.take j) + (8 + H[j].length) := by
  rw [List.take_succ_eq_append_getElem hj, bytesOf_append]
  rfl
theorem find_frame : ∀ (H : List (List UInt8)) (i : Nat), i < bytesOf H → ∃ (j : Nat) (hj : j < H.length), bytesOf (H.take j) ≤ i ∧ i < bytesOf (H.take j) + (8 + H[j].length)
  | [], i, h => absurd h (Nat.not_lt_zero _)
  | b :: H, i, h => by
    rcases Nat.lt_or_ge i (8 + b.length) with e | e
    · exact ⟨0, by simp, Nat.zero_le _, by simp only [List.take_zero, bytesOf, List.getElem_cons_zero]; omega⟩
    · simp only [bytesOf] at h
      obtain ⟨j, hj, h1, h2⟩ := find_frame H (i - (8 + b.length)) (by omega)
      refine ⟨j + 1, by simp only [List.length_cons]; omega, ?_, ?_⟩
      · simp only [List.take_succ_cons, bytesOf]; omega
      · simp only [List.take_succ_cons, bytesOf, List.getElem_cons_succ]; omega
theorem frames_at {H : List (List UInt8)} {j : Nat} (hj : j < H.length) : joinL H = joinL (H.take j) ++ (frameL H[j] ++ joinL (H.drop (j + 1))) := by
  conv => lhs; rw [← List.take_append_drop j H, joinL_append, List.drop_eq_getElem_cons hj]
  rfl
/-- A frame of which a byte behind the length was changed, and whatever follows: no frame begins there. -/
theorem scan_changed {b R : List UInt8} (hb : b.length ≤ 65536) {q : Nat} (h4 : 4 ≤ q) (hq : q < 8 + b.length) {x : UInt8} (hx : (frameL b)[q]'(by rw [frameL_len]; exact hq) ≠ x) :
    scanAll ((frameL b).set q x ++ R) = [] := by
  have hl : (sumF b ++ b).length = 4 + b.length := by rw [List.length_append]; rfl
  have e : (frameL b).set q x = be4 b.length ++ (sumF b ++ b).set (q - 4) x := by
    unfold frameL
    rw [List.set_append, if_neg (by rw [be4_len]; omega), be4_len]
  rw [e]
  apply scanAll_none
  have hrd : rdS (be4 b.length ++ (sumF b ++ b).set (q - 4) x) = b.length := be4_bytes _ (by omega) _
  rw [first_app (by rw [hrd, List.length_append, be4_len, List.length_set, hl]; omega)]
  refine first_set b hb (q - 4) (by omega) x ?_
  intro h
  apply hx
  rw [← h]
  have : (frameL b)[q]'(by rw [frameL_len]; exact hq) = (be4 b.length ++ (sumF b ++ b))[q]'(by rw [List.length_append, be4_len, hl]; omega) := rfl
  rw [this, List.getElem_append_right (by rw [be4_len]; exact h4)]
  simp only [be4_len]
theorem byte_none {L : List PR} (hL : okTab L) {i : Nat} (hi : i < (tabL L).length) (hn : ∀ j, j < (allB L).length → ¬ (bytesOf ((allB L).take j) ≤ i ∧ i < bytesOf ((allB L).take j) + 4)) {x : UInt8} (hx : (tabL L)[i] ≠ x) : allR ((tabL L).set i x) = none := by
  apply allR_not
  intro M hM he
  have hlen : (tabL M).length = (tabL L).length := by rw [he, List.length_set]
  have htk : (tabL M).take ((tabL M).length - 8) = joinL (allB M) := tabL_take M
  have hbl : bytesOf (allB M) = bytesOf (allB L) := by
    have h1 := tabL_len M
    have h2 := tabL_len L
    omega
  have hJ : (joinL (allB L)).length = bytesOf (allB L) := joinL_len _
  have hset : tabL L = joinL (allB L) ++ be8 (8 + (idxL L).length) := rfl
  rcases Nat.lt_or_ge i (bytesOf (allB L)) with hlt | hge
  · obtain ⟨j, hj, h1, h2⟩ := find_frame (allB L) i hlt
    have h4 : bytesOf ((allB L).take j) + 4 ≤ i := by
      have := hn j hj
      omega
    have hb := allB_ok hL _ (List.getElem_mem hj)
    have hP : (joinL ((allB L).take j)).length = bytesOf ((allB L).take j) := joinL_len _
    have hJs : joinL (allB M) = joinL ((allB L).take j) ++ ((frameL (allB L)[j]).set (i - bytesOf ((allB L).take j)) x ++ joinL ((allB L).drop (j + 1))) := by
      rw [← htk, hlen, he, hset, List.set_append, if_pos (by omega)]
      rw [List.length_append, hJ, be8_len, Nat.add_sub_cancel, List.take_left' (by rw [List.length_set]; exact hJ)]
      rw [frames_at hj, List.set_append, if_neg (by omega), hP, List.set_append, if_pos (by rw [frameL_len]; omega)]
    have hsc := scan_all (allB_ok hM)
    rw [hJs, scan_join _ _ (fun b hb => allB_ok hL b (List.take_subset _ _ hb))] at hsc
    have hxx : (frameL (allB L)[j])[i - bytesOf ((allB L).take j)]'(by rw [frameL_len]; omega) ≠ x := by
      intro h
      apply hx
      rw [← h]
      have e1 : (tabL L)[i] = (joinL ((allB L).take j) ++ (frameL (allB L)[j] ++ joinL ((allB L).drop (j + 1))) ++ be8 (8 + (idxL L).length))[i]'(by rw [← frames_at hj, ← hset]; exact hi) := by
        congr 1
        rw [← frames_at hj]
        exact hset
      rw [e1, List.getElem_append_left (by rw [List.length_append, List.length_append, hP, frameL_len]; omega), List.getElem_append_right (by omega), List.getElem_append_left (by rw [hP, frameL_len]; omega)]
      simp only [hP]
    rw [scan_changed hb (by omega) (by omega) hxx, List.append_nil] at hsc
    rw [← hsc] at hbl
    have h3 : bytesOf (allB L) = bytesOf ((allB L).take j) + bytesOf ((allB L).drop j) := by rw [← bytesOf_append, List.take_append_drop]
    rw [List.drop_eq_getElem_cons hj] at h3
    simp only [bytesOf] at h3
    omega
  · have hJs : joinL (allB M) = joinL (allB L) := by
      rw [← htk, hlen, he, hset, List.set_append, if_neg (by omega)]
      rw [List.length_append, hJ, be8_len, Nat.add_sub_cancel, List.take_left' hJ]
    have hsc := scan_all (allB_ok hM)
    rw [hJs, scan_all (allB_ok hL)] at hsc
    have hidx : idxL L = idxL M := by
      have h1 : (allB L).getLast? = some (idxL L) := by unfold allB; simp
      have h2 : (allB M).getLast? = some (idxL M) := by unfold allB; simp
      rw [hsc, h2] at h1
      injection h1 with h1
      exact h1.symm
    have heq : tabL M = tabL L := by
      show joinL (allB M) ++ be8 (8 + (idxL M).length) = _
      rw [hJs, ← hidx]
      rfl
    rw [heq] at he
    apply hx
    have : ((tabL L).set i x)[i]'(by rw [List.length_set]; exact hi) = x := List.getElem_set_self _
    rw [← this]
    congr 1
theorem idx_len (L : List PR) : 4 ≤ (idxL L).length := by unfold idxL; rw [packL_length]; omega
theorem body_len (L : List PR) (b : List UInt8) (hb : b ∈ allB L) : 4 ≤ b.length := by
  rcases List.mem_append.1 hb with h | h
  · have : ∀ k, ∀ b ∈ bodiesK L k, 4 ≤ b.length := by
      intro k
      induction k with
      | zero => intro b hb; cases hb
      | succ k ih =>
        intro b hb
        rcases List.mem_append.1 hb with h | h
        · exact ih b h
        · rw [List.mem_singleton.1 h]
          unfold bodyC
          rw [packL_length]
          omega
    exact this _ b h
  · rw [List.mem_singleton.1 h]
    exact idx_len L
end Go.Proofs.YtnihnkcmmnlaaaaDoor
