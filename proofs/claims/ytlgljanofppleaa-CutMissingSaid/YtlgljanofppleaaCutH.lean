/- Walks: the program's needsOf. -/
import Derived.Test.YtlgljanofppleaaCutD
namespace Go.Proofs.Ytlgljanofppleaa
open Go.RowKit Go.Joins

/-- All that the first k + 1 transactions of a log depend on. -/
def needV (L : List TX) : Nat → (Nat → Nat)
  | 0 => fun _ => 0
  | k + 1 => match L[k]? with | some t => jn (needV L k) t.deps | none => needV L k
theorem needV_next {L : List TX} {k : Nat} {t : TX} (h : L[k]? = some t) : needV L (k + 1) = jn (needV L k) t.deps := by
  show (match L[k]? with | some t => _ | none => _) = _
  rw [h]
theorem needV_le {L : List TX} {v : Nat → Nat} : ∀ {k : Nat}, k ≤ L.length → (leqB (needV L k) v = true ↔ ∀ d t, d < k → L[d]? = some t → leqB t.deps v = true)
  | 0, _ => ⟨fun _ d t hd => absurd hd (Nat.not_lt_zero _), fun _ => lq_of fun _ _ => Nat.zero_le _⟩
  | k + 1, hk => by
    have ht : L[k]? = some L[k] := List.getElem?_eq_getElem (by omega)
    rw [needV_next ht]
    have ih := needV_le (L := L) (v := v) (k := k) (by omega)
    refine ⟨fun h d t hd hdt => ?_, fun h => lq_of fun i hi => ?_⟩
    · by_cases e : d = k
      · subst e
        rw [ht] at hdt
        injection hdt with hdt
        subst hdt
        refine lq_of fun i hi => ?_
        have : max _ _ ≤ _ := lq h hi
        omega
      · refine ih.1 (lq_of fun i hi => ?_) d t (by omega) hdt
        have : max _ _ ≤ _ := lq h hi
        omega
    · have h1 := lq (ih.2 fun d t hd hdt => h d t (by omega) hdt) hi
      have h2 := lq (h k _ (Nat.lt_succ_self _) ht) hi
      show max _ _ ≤ _
      omega
/-- The cells of n vectors. -/
def vrows (f : Nat → Nat → Nat) (n : Nat) : List Value := (List.range n).flatMap fun k => (vcells (f k)).toList
theorem vrows_len (f : Nat → Nat → Nat) (n : Nat) : (vrows f n).length = n * 8 := by
  unfold vrows
  rw [rows_len _ 8 (fun _ => rfl), List.length_range]
theorem vrows_at (f : Nat → Nat → Nat) {n k r : Nat} (hk : k < n) (hr : r < 8) : (vrows f n)[k * 8 + r]? = some (.int .u64 (f k r : Int)) := by
  unfold vrows
  rw [rows_at (fun k => (vcells (f k)).toList) 8 (fun _ => rfl) (List.range n) k r (by rw [List.length_range]; exact hk) hr, List.getElem_range]
  rw [Array.getElem?_toList]
  exact vcells_at (f k) hr
theorem vrows_set (f : Nat → Nat → Nat) {n k : Nat} (hk : k < n) (a : Nat → Nat) : setFrom (vrows f n) (k * 8) (vcells a).toList = vrows (fun i => if i = k then a else f i) n := by
  refine List.ext_getElem? fun j => ?_
  have hl := vrows_len f n
  have hkn : k * 8 + 8 ≤ n * 8 := by omega
  rw [setFrom_at _ _ _ _ (by rw [hl]; exact hkn)]
  rcases Nat.lt_or_ge j (n * 8) with hj | hj
  · obtain ⟨q, r, rfl, hr⟩ : ∃ q r, j = q * 8 + r ∧ r < 8 := ⟨j / 8, j % 8, by omega, Nat.mod_lt _ (by decide)⟩
    have hq : q < n := by omega
    have e2 : (vrows (fun i => if i = k then a else f i) n)[q * 8 + r]? = some (.int .u64 ((if q = k then a else f q) r : Int)) := vrows_at (fun i => if i = k then a else f i) hq hr
    rw [e2]
    by_cases e : q = k
    · subst e
      rw [if_pos (by show _ ∧ _ < q * 8 + 8; omega), show q * 8 + r - q * 8 = r by omega, if_pos rfl, Array.getElem?_toList]
      exact vcells_at a hr
    · rw [if_neg (by show ¬ (_ ∧ _ < k * 8 + 8); omega), vrows_at f hq hr, if_neg e]
  · rw [if_neg (by show ¬ (_ ∧ _ < k * 8 + 8); omega), List.getElem?_eq_none (by rw [hl]; exact hj), List.getElem?_eq_none (by rw [vrows_len]; exact hj)]
theorem infoVec9 : (Try.prog.info? 34).map (fun i => (i.zero, i.size, i.bytes)) = some (some (.agg V0), 8, 64) := by kernel_rfl
theorem madeV : ∀ n, (madeCells (Value.agg V0).cells (n * 8)).toList = vrows (fun _ _ => 0) n := by
  intro n
  refine List.ext_getElem? fun j => ?_
  have hs : (madeCells (Value.agg V0).cells (n * 8)).size = n * 8 := by simp [madeCells]
  rcases Nat.lt_or_ge j (n * 8) with hj | hj
  · obtain ⟨q, r, rfl, hr⟩ : ∃ q r, j = q * 8 + r ∧ r < 8 := ⟨j / 8, j % 8, by omega, Nat.mod_lt _ (by decide)⟩
    rw [vrows_at _ (by omega) hr, Array.getElem?_toList]
    have hm : (q * 8 + r) % 8 = r := by omega
    simp only [madeCells]
    rw [Array.getElem?_map, Array.getElem?_range, if_pos hj]
    show some ((Value.agg V0).cells[(q * 8 + r) % 8]!) = _
    rw [hm]
    match r, hr with
    | 0, _ => rfl
    | 1, _ => rfl
    | 2, _ => rfl
    | 3, _ => rfl
    | 4, _ => rfl
    | 5, _ => rfl
    | 6, _ => rfl
    | 7, _ => rfl
  · rw [List.getElem?_eq_none (by rw [Array.length_toList, hs]; exact hj), List.getElem?_eq_none (by rw [vrows_len]; exact hj)]
theorem make_vecs (n : Nat) (hn : 64 * n ≤ 281474976710656) (W : World) : ∃ W', (Instr.makeSlice 58 (.int .u64 (n : Int)) (.int .u64 (n : Int))).run Try.prog W = .ok (.slice (some ⟨W.heap.size, 0, none⟩) n n) W' ∧
    W'.ownsRow W.heap.size 34 8 (.slice (some ⟨W.heap.size, 0, none⟩) n n) n (vrows (fun _ _ => 0) n) ∧ Gr W W' := by
  obtain ⟨i0, hi, hz0, hz1, hz2⟩ := info_parts infoVec9
  obtain ⟨w', h1, h2, h3⟩ := run_make_full (P := Try.prog) W W.heap.size 58 34 i0 _ 8 Try.underlying58 hi hz0 hz1 .u64 .u64 n (by rw [hz2]; exact hn) (by unfold maxLen; omega) (Nat.le_refl _)
  rw [madeV] at h2
  exact ⟨w', h1, h2, ⟨h3.1, h3.2, h3.3, h3.4, fun k hk => h3.5 k hk (by intro e; cases e)⟩⟩
end Go.Proofs.Ytlgljanofppleaa
