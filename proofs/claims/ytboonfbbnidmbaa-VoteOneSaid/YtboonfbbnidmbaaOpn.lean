/- Arguments opened: rows of structs, and how long they are. -/
import Derived.Test.YtboonfbbnidmbaaBase
import Derived.Deep.Slices
import Derived.Deep.Fields
import Derived.ChangeSame
import Derived.SizedLaws
import Derived.OpenShut
namespace Go.Proofs.Ytboonfbbnidmbaa
open Go.ChangeShapes Go.WideShapes Go.RowKit Go.Deep

theorem list_of {α : Type} {R : Nat → α → Prop} : ∀ n, (∀ i, i < n → ∃ x, R i x) → ∃ L : List α, L.length = n ∧ ∀ j (hj : j < L.length), R j L[j]
  | 0, _ => ⟨[], rfl, fun j hj => absurd hj (by simp)⟩
  | n + 1, h => by
    obtain ⟨L, hl, hr⟩ := list_of n (fun i hi => h i (by omega))
    obtain ⟨x, hx⟩ := h n (Nat.lt_succ_self n)
    refine ⟨L ++ [x], by rw [List.length_append, hl]; rfl, fun j hj => ?_⟩
    rw [List.length_append, List.length_singleton, hl] at hj
    by_cases e : j < L.length
    · rw [List.getElem_append_left e]; exact hr j e
    · obtain rfl : j = n := by omega
      rw [List.getElem_append_right (by omega)]
      simp only [hl, Nat.sub_self, List.getElem_cons_zero]
      exact hx
theorem weightsAll_mem {H : Type} {P : Program} {e : TypeId} {d : DataW H} {l : List (DataW H)} (h : d ∈ l) {n : Nat} (hn : n ∈ DataW.weights P e d) : n ∈ DataW.weightsAll P e l := by
  induction l with
  | nil => cases h
  | cons x r ih =>
    simp only [DataW.weightsAll, List.mem_append]
    rcases List.mem_cons.1 h with rfl | h
    · exact .inl hn
    · exact .inr (ih h)
/-- A struct of one-cell fields among a row's elements. -/
theorem open_row {H : Type} {enc : TypeId × Value → H} {P : Program} {w : World} {base : Nat} {sp : Nat → Bool} {held : Bool} {e : TypeId} {fs : Array Field} {m k : Nat} {ad : Addr} {cs : List Value} {x : DataW H × List MemPlace}
    (he : P.underlying e = some (.struct fs)) (hone : oneCellFields P fs = true) (_hk : P.cellsOf e = k) (hc : w.cells? base ad k = some cs) (ht : DataW.trod enc P w base sp held m e cs = some x) :
    ∃ (ys : List (DataW H × List MemPlace)) (n : Nat), x.1 = .agg (ys.map (·.1)) ∧ ys.length = fs.size ∧
      ∀ j f, fs[j]? = some f → j < k → ∃ (v : Value) (y : DataW H × List MemPlace), w.cell? (ad.add j) = some v ∧ ys[j]? = some y ∧ DataW.trod enc P w base sp held n f.type [v] = some y := by
  obtain ⟨_, hl, hat⟩ := World.cells?_some hc
  obtain ⟨ys, n, _, hx, _, hyl, hf⟩ := DataW.trod_struct he ht
  refine ⟨ys, n, by rw [hx], hyl, fun j f hj hjk => ?_⟩
  obtain ⟨ho, hc1⟩ := hone_of hone j f hj
  have hjy : j < ys.length := by rw [hyl]; exact (Array.getElem?_eq_some_iff.1 hj).1
  have h1 := hf j f hj
  rw [ho, hc1, List.drop_eq_getElem_cons (show j < cs.length by omega), List.getElem?_eq_getElem hjy] at h1
  refine ⟨cs[j]'(by omega), ys[j], ?_, List.getElem?_eq_getElem hjy, h1⟩
  rw [hat j (by omega), List.getElem?_eq_getElem (by omega)]

/-- The first element's place says that the slice lies in cells. -/
theorem spot_of {w : World} {base k : Nat} {a : Addr} {len : Nat} {R : Nat → List Value → Prop} (hk : 0 < k) (hi : ∀ i, i < len → ∃ cs, w.cells? base (a.add (i * k)) k = some cs ∧ R i cs) (h0 : 0 < len) : a.spot = none := by
  obtain ⟨cs, hc, _⟩ := hi 0 h0
  obtain ⟨_, hl, hat⟩ := World.cells?_some hc
  have h := hat 0 hk
  rw [List.getElem?_eq_getElem (show 0 < cs.length by omega)] at h
  have := World.cell?_spot h
  simpa [Addr.add] using this
theorem reach_is : reachBytes = 140737488351232 := rfl
end Go.Proofs.Ytboonfbbnidmbaa
