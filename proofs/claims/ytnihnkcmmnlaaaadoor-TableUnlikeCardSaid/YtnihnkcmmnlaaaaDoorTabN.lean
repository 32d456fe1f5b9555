/- Plain mathematics of asking a table: one key, the keys from one on and below another one. -/
import Derived.Test.YtnihnkcmmnlaaaaDoorSrch
namespace Go.Proofs.YtnihnkcmmnlaaaaDoor
open Go.RowKit

theorem rises_tail {p : PR} {L : List PR} (h : rises (p :: L)) : rises L := fun j hj => h (j + 1) (by simp only [List.length_cons]; omega)
theorem rises_head {p q : PR} {L : List PR} (h : rises (p :: L)) (hq : q ∈ L) : lessS p.key q.key = true := by
  obtain ⟨j, hj, rfl⟩ := List.mem_iff_getElem.1 hq
  exact rises_at h (i := 0) (j := j + 1) (by omega) (by simp only [List.length_cons]; omega)
theorem place_nil (k : ByteArray) : placeN [] k = 0 := rfl
theorem place_yes {p : PR} {L : List PR} {k : ByteArray} (h : lessS p.key k = true) : placeN (p :: L) k = placeN L k + 1 := by unfold placeN; rw [List.countP_cons_of_pos (by exact h)]
theorem place_no {p : PR} {L : List PR} {k : ByteArray} (h : lessS p.key k = false) : placeN (p :: L) k = placeN L k := by
  unfold placeN
  rw [List.countP_cons_of_neg]
  intro e
  rw [h] at e
  cases e
theorem place_zero {p : PR} {L : List PR} (hr : rises (p :: L)) {k : ByteArray} (h : lessS p.key k = false) : placeN L k = 0 := by
  unfold placeN
  rw [List.countP_eq_zero]
  intro q hq hl
  rw [lessS_trans (rises_head hr hq) hl] at h
  cases h
/-- The pairs with keys from one on and below another one. -/
def rangeR (L : List PR) (a b : ByteArray) : List PR := (L.take (placeN L b)).drop (placeN L a)
def inR (a b : ByteArray) (p : PR) : Bool := !lessS p.key a && lessS p.key b
theorem range_filter (a b : ByteArray) : ∀ L : List PR, rises L → rangeR L a b = L.filter (inR a b)
  | [], _ => rfl
  | p :: L, h => by
    have ih := range_filter a b L (rises_tail h)
    unfold rangeR at ih ⊢
    rcases ha : lessS p.key a with _ | _
    · have z := place_zero h ha
      rw [place_no ha, z]
      rw [z, List.drop_zero] at ih
      rcases hb : lessS p.key b with _ | _
      · have z2 := place_zero h hb
        rw [place_no hb, z2]
        rw [z2, List.take_zero] at ih
        rw [List.filter_cons_of_neg (by unfold inR; rw [ha, hb]; decide), ← ih]
        rfl
      · rw [place_yes hb, List.take_succ_cons, List.drop_zero, ih, List.filter_cons_of_pos (by unfold inR; rw [ha, hb]; decide)]
    · rw [place_yes ha, List.filter_cons_of_neg (by unfold inR; rw [ha]; simp)]
      rcases hb : lessS p.key b with _ | _
      · have z2 := place_zero h hb
        rw [place_no hb, z2, List.take_zero]
        rw [z2, List.take_zero, List.drop_nil] at ih
        rw [← ih, List.drop_nil]
      · rw [place_yes hb, List.take_succ_cons, List.drop_succ_cons, ih]
theorem place_mono {a b : ByteArray} (L : List PR) (h : ∀ p ∈ L, lessS p.key a = true → lessS p.key b = true) : placeN L a ≤ placeN L b := by
  unfold placeN
  exact List.countP_mono_left h
theorem place_lt {a b : ByteArray} (L : List PR) (h : lessS a b = true) : placeN L a ≤ placeN L b := place_mono L (fun _ _ hp => lessS_trans hp h)
theorem range_empty {a b : ByteArray} (L : List PR) (h : lessS a b = false) : rangeR L a b = [] := by
  have : placeN L b ≤ placeN L a := by
    rcases lessS_total a b with e | e | e
    · rw [h] at e; cases e
    · rw [e]; exact Nat.le_refl _
    · exact place_lt L e
  unfold rangeR
  exact List.drop_eq_nil_of_le (by rw [List.length_take]; omega)
/-- Two ranges, one behind the other. -/
theorem range_add {a b c : ByteArray} (L : List PR) (h1 : lessS b a = false) (h2 : lessS c b = false) : rangeR L a b ++ rangeR L b c = rangeR L a c := by
  have m : ∀ x y : ByteArray, lessS y x = false → placeN L x ≤ placeN L y := fun x y h => by
    rcases lessS_total x y with e | e | e
    · exact place_lt L e
    · rw [e]; exact Nat.le_refl _
    · rw [h] at e; cases e
  have e1 := m a b h1
  have e2 := m b c h2
  have e3 := placeN_le L c
  unfold rangeR
  have : (L.take (placeN L c)) = L.take (placeN L b) ++ (L.take (placeN L c)).drop (placeN L b) := by
    conv => lhs; rw [← List.take_append_drop (placeN L b) (L.take (placeN L c)), List.take_take, Nat.min_eq_left e2]
  conv => rhs; rw [this, List.drop_append_of_le_length (by rw [List.length_take]; omega)]

/-- The value of a key. -/
def getR (L : List PR) (key : ByteArray) : Option ByteArray := (L.find? fun p => eqS p.key key).map PR.val
theorem place_at {L : List PR} (h : rises L) {j : Nat} (hj : j < L.length) : placeN L L[j].key = j := by
  unfold placeN
  have e : L = L.take j ++ L.drop j := (List.take_append_drop j L).symm
  have h1 : (L.take j).countP (fun p => lessS p.key L[j].key) = j := by
    rw [List.countP_eq_length.2]
    · rw [List.length_take]; omega
    · intro p hp
      obtain ⟨i, hi, rfl⟩ := List.mem_iff_getElem.1 hp
      rw [List.length_take] at hi
      rw [List.getElem_take]
      exact rises_at h (by omega) hj
  have h2 : (L.drop j).countP (fun p => lessS p.key L[j].key) = 0 := by
    rw [List.countP_eq_zero]
    intro p hp hl
    obtain ⟨i, hi, rfl⟩ := List.mem_iff_getElem.1 hp
    rw [List.length_drop] at hi
    rw [List.getElem_drop] at hl
    rcases Nat.eq_zero_or_pos i with e | e
    · subst e
      rw [show L[j + 0] = L[j] from rfl, lessS_irrefl] at hl
      cases hl
    · have := rises_at h (i := j) (j := j + i) (by omega) (by omega)
      rw [lessS_asymm hl] at this
      cases this
  have h3 := List.countP_append (p := fun p => lessS p.key L[j].key) (l₁ := L.take j) (l₂ := L.drop j)
  rw [← e, h1, h2] at h3
  exact h3
theorem get_found {L : List PR} (h : rises L) {j : Nat} (hj : j < L.length) : getR L L[j].key = some L[j].val := by
  unfold getR
  cases hf : L.find? (fun p => eqS p.key L[j].key) with
  | none =>
    have := List.find?_eq_none.1 hf L[j] (List.getElem_mem hj)
    rw [eqS_self] at this
    exact absurd rfl this
  | some p =>
    have h1 := List.find?_some hf
    have h2 := List.mem_of_find?_eq_some hf
    obtain ⟨i, hi, rfl⟩ := List.mem_iff_getElem.1 h2
    have h3 : L[i].key = L[j].key := eqS_iff.1 h1
    have h4 := place_at h hi
    rw [h3, place_at h hj] at h4
    subst h4
    rfl
theorem get_some {L : List PR} (h : rises L) {key : ByteArray} (hi : placeN L key < L.length) (hk : L[placeN L key].key = key) : getR L key = some L[placeN L key].val := by
  have := get_found h hi
  rwa [hk] at this
theorem get_none {L : List PR} (h : rises L) {key : ByteArray} (hn : ∀ hi : placeN L key < L.length, L[placeN L key].key ≠ key) : getR L key = none := by
  unfold getR
  rw [Option.map_eq_none_iff, List.find?_eq_none]
  intro p hp he
  obtain ⟨i, hi, rfl⟩ := List.mem_iff_getElem.1 hp
  have h1 : L[i].key = key := eqS_iff.1 he
  have h2 := place_at h hi
  rw [h1] at h2
  refine hn (by omega) ?_
  have h3 : ∀ (k : Nat) (hk : k < L.length), k = i → L[k].key = key := fun k hk e => by subst e; exact h1
  exact h3 _ _ h2
theorem get_iff {L : List PR} (h : rises L) (key : ByteArray) : (getR L key).isSome = true ↔ ∃ (i : Nat) (hi : i < L.length), L[i].key = key := by
  constructor
  · intro hs
    apply Classical.byContradiction
    intro hn
    rw [get_none h (fun hi e => hn ⟨_, hi, e⟩)] at hs
    cases hs
  · rintro ⟨i, hi, rfl⟩
    rw [get_found h hi]
    rfl
end Go.Proofs.YtnihnkcmmnlaaaaDoor
