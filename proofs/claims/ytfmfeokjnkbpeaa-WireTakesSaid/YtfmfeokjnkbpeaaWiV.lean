/- What the law WireTakes asks of the places, and of a packet taken. -/
import Derived.Test.YtfmfeokjnkbpeaaWiR
import Derived.Test.YtfmfeokjnkbpeaaWiM
namespace Go.Proofs.Ytfmfeokjnkbpeaa.Wi
open Go.RowKit
set_option linter.unusedSimpArgs false

/-- Is the number among these? -/
def isIn (K : List Nat) (k : Int) : Bool := K.any fun j => ((j : Int) == k)
theorem isIn_nil (k : Int) : isIn [] k = false := rfl
theorem isIn_snoc {K : List Nat} {q : Nat} (h : q < K.length) (k : Int) : isIn (K.take (q + 1)) k = (isIn (K.take q) k || ((K[q] : Int) == k)) := by
  unfold isIn
  rw [List.take_succ_eq_append_getElem h, List.any_append]
  simp
theorem isIn_iff {K : List Nat} {k : Int} : isIn K k = true ↔ ∃ j : Nat, k = j ∧ j ∈ K := by
  unfold isIn
  rw [List.any_eq_true]
  constructor
  · rintro ⟨j, hj, e⟩
    exact ⟨j, (by simpa using e : (j : Int) = k).symm, hj⟩
  · rintro ⟨j, rfl, hj⟩
    exact ⟨j, hj, by simp⟩
/-- May the packet at place k be taken? -/
def can (s : Nat → Int) (L : List P) (k : Int) : Prop := ∃ (j : Nat) (h : j < L.length), k = j ∧ thr s L[j] = true
theorem isIn_can {s : Nat → Int} {L : List P} {k : Int} (h : can s L k) : isIn (rdyTo s L L.length) k = true := by
  obtain ⟨j, hj, rfl, ht⟩ := h
  exact isIn_iff.2 ⟨j, rfl, rdy_mem.2 ⟨hj, ht⟩⟩
theorem isIn_cannot {s : Nat → Int} {L : List P} {k : Int} (h : ¬ can s L k) : isIn (rdyTo s L L.length) k = false := by
  rw [Bool.eq_false_iff]
  intro e
  obtain ⟨j, hk, hj⟩ := isIn_iff.1 e
  obtain ⟨h1, h2⟩ := rdy_mem.1 hj
  exact h ⟨j, h1, hk, h2⟩
theorem take_bad (v : Value) (L : List P) (nx : Int) (s : Nat → Int) (k : Int) (hk : ¬ can s L k) (w : World) (hv : PV w v L) :
    Calls Try.prog 10 #[.agg (ncells v nx s), .int .i64 k] w fun e w' => RetTake [] 0 zs p0 40 w e w' := by
  rcases ht : thereB k L.length with _ | _
  · exact take_gone v L nx s k ht w hv
  · obtain ⟨j, rfl, hj⟩ := there_iff.1 ht
    rcases hq : thr s L[j] with _ | _
    · exact take_off v L nx s j hj hq w hv
    · exact absurd ⟨j, hj, rfl, hq⟩ hk
theorem rtake_bad (v : Value) (L : List P) (nx : Int) (s : Nat → Int) (k : Int) (hk : ¬ can s L k) (w : World) (hv : PV w v L) :
    Calls Try.prog 11 #[.agg (ncells v nx s), .int .i64 k] w fun e w' => RetTake [] 0 zs p0 40 w e w' := by
  by_cases h0 : k < 0
  · exact rtake_neg v L nx s k h0 w hv
  by_cases h1 : (L.length : Int) ≤ k
  · exact rtake_far v L nx s k ⟨by omega, h1⟩ w hv
  · obtain ⟨j, rfl⟩ := Int.eq_ofNat_of_zero_le (show 0 ≤ k by omega)
    have hj : j < L.length := by omega
    rcases hq : thr s L[j] with _ | _
    · exact rtake_off v L nx s j hj hq w hv
    · exact absurd ⟨j, hj, rfl, hq⟩ hk
/-- The slice value v reads as these numbers. -/
def IV (w : World) (v : Value) (K : List Nat) : Prop := ∃ A c, v = .slice A K.length c ∧ K.length ≤ c ∧ c ≤ 9223372036854775807 ∧ ∀ j (hj : j < K.length), ∃ b off, A = some ⟨b, off, none⟩ ∧ w.cell? ⟨b, off + j, none⟩ = some (.int .i64 (K[j] : Int))
theorem OI.iv {w : World} {B : Nat} {v : Value} {K : List Nat} (h : OI w B v K) : IV w v K := by
  obtain ⟨A, c, hv, h1, ⟨h2, _⟩, h3, h4⟩ := own_sl h
  refine ⟨A, c, hv, h1, h2, fun j hj => ?_⟩
  exact h4 j _ (by unfold irow; rw [List.getElem?_map, List.getElem?_eq_getElem hj]; rfl)
theorem IV.gr {w w' : World} {v : Value} {K : List Nat} (h : IV w v K) (g : Gr w w') : IV w' v K := by
  obtain ⟨A, c, hv, h1, h2, h3⟩ := h
  refine ⟨A, c, hv, h1, h2, fun j hj => ?_⟩
  obtain ⟨b, off, ha, hc⟩ := h3 j hj
  exact ⟨b, off, ha, g.cell hc⟩
theorem less_at {L : List P} {k i : Nat} (hk : k < L.length) (hi : i < (less L k).length) : ∃ (j : Nat) (hj : j < L.length), (less L k)[i] = L[j] ∧ j = (if k ≤ i then i + 1 else i) := by
  have hl := less_len hk
  have e : ∀ j (hj : j < L.length), (less L k)[i]? = some L[j] → (less L k)[i] = L[j] := fun j hj h => by
    rw [List.getElem?_eq_getElem hi] at h
    injection h
  by_cases h : k ≤ i
  · refine ⟨i + 1, by omega, e _ _ ?_, by rw [if_pos h]⟩
    unfold less
    rw [List.getElem?_append_right (by rw [List.length_take]; omega), List.getElem?_drop, List.length_take, Nat.min_eq_left (by omega), show k + 1 + (i - k) = i + 1 by omega, List.getElem?_eq_getElem (by omega)]
  · refine ⟨i, by omega, e _ _ ?_, by rw [if_neg h]⟩
    unfold less
    rw [List.getElem?_append_left (by rw [List.length_take]; omega), List.getElem?_take, if_pos (by omega), List.getElem?_eq_getElem (by omega)]
end Go.Proofs.Ytfmfeokjnkbpeaa.Wi
