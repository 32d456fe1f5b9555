/- Arguments opened: rows of structs, and how long they are. The arguments of the tables' laws: pairs: what they read as, and how long they are; the listed table. The arguments of the laws of stores: changes, acts, lists of them: what they read as, and how long they are. -/
import Derived.Test.YtccjkfccklfjkaaGreatDoorZs01
import Derived.Deep.Slices
import Derived.Deep.Fields
import Derived.ChangeSame
import Derived.SizedLaws
import Derived.OpenShut
import Derived.Test.YtccjkfccklfjkaaGreatDoorZs05
import Derived.Test.YtccjkfccklfjkaaGreatDoorZs02
import Derived.Test.YtccjkfccklfjkaaGreatDoorZs51
namespace Go.Proofs.YtccjkfccklfjkaaGreatDoor
open Go.ChangeShapes Go.WideShapes Go.RowKit Go.Deep

theorem list_of {α : Type} {R : Nat → α → Prop} : ∀ n, (∀ i, i < n → ∃ x, R i x) → ∃ L : List α, L.length = n ∧ ∀ j (hj : j < L.length), R j L[j]
  | 0, _ => ⟨[], rfl, fun j hj => absurd hj (by simp)⟩
  | n + 1, h => by
    obtain ⟨L, hl, hr⟩ := list_of n (fun i hi => h i (by omega))
    obtain ⟨x, hx⟩ := h n (Nat.lt_succ_self n)
    refine ⟨L ++ [x], by rw [List.length_append, hl]; rfl, fun j hj => ?_⟩
    rw [List.length_append, List.length_singleton, hl] at hj
    by_cases e : j < L.length
    · rw [List.getElem_append_left e]; exact hr j e
    · obtain rfl : j = n := by omega
      rw [List.getElem_append_right (by omega)]
      simp only [hl, Nat.sub_self, List.getElem_cons_zero]
      exact hx
theorem weightsAll_mem {H : Type} {P : Program} {e : TypeId} {d : DataW H} {l : List (DataW H)} (h : d ∈ l) {n : Nat} (hn : n ∈ DataW.weights P e d) : n ∈ DataW.weightsAll P e l := by
  induction l with
  | nil => cases h
  | cons x r ih =>
    simp only [DataW.weightsAll, List.mem_append]
    rcases List.mem_cons.1 h with rfl | h
    · exact .inl hn
    · exact .inr (ih h)
/-- The first element's place says that the slice lies in cells. -/
theorem spot_of {w : World} {base k : Nat} {a : Addr} {len : Nat} {R : Nat → List Value → Prop} (hk : 0 < k) (hi : ∀ i, i < len → ∃ cs, w.cells? base (a.add (i * k)) k = some cs ∧ R i cs) (h0 : 0 < len) : a.spot = none := by
  obtain ⟨cs, hc, _⟩ := hi 0 h0
  obtain ⟨_, hl, hat⟩ := World.cells?_some hc
  have h := hat 0 hk
  rw [List.getElem?_eq_getElem (show 0 < cs.length by omega)] at h
  have := World.cell?_spot h
  simpa [Addr.add] using this
theorem reach_is : reachBytes = 140737488351232 := rfl
end Go.Proofs.YtccjkfccklfjkaaGreatDoor
namespace Go.Proofs.YtccjkfccklfjkaaGreatDoor
open Go.ChangeShapes Go.WideShapes Go.RowKit Go.Deep

section
variable {H : Type} {enc : TypeId × Value → H} {W : World} {base : Nat} {v : Value} {d : DataW H} {p : List MemPlace}
theorem halves6_laid (h : laidMetH Tryz.prog [("levee/code.halves", Rows.laid_levee_code_halves)] W) : Halves W := by
  have ht : Lib.TabIs Tryz.prog W "levee/code.halves" .u32 (Crc.tab.map Int.ofNat) :=
    Lib.tabIs_of_head (rest := []) gHalves gHalvesType Tryz.underlying214 Tryz.underlying117 cellsU32 cellsHalves h
  intro k hk
  have h1 := ht.cell gHalves k (by simpa [Crc.tab] using hk)
  have h2 : ∀ j : Fin 16, (Crc.tab.map Int.ofNat).getD j.val 0 = (Crc.halfT j.val : Int) := by decide
  rw [h1, h2 ⟨k, hk⟩]
end
end Go.Proofs.YtccjkfccklfjkaaGreatDoor
namespace Go.Proofs.YtccjkfccklfjkaaGreatDoor
open Go.ChangeShapes Go.WideShapes Go.RowKit Go.Deep

theorem cellsTCh : Tryz.prog.cellsOf 70 = 3 := by kernel_rfl
theorem cellsTAct : Tryz.prog.cellsOf 44 = 2 := by kernel_rfl
theorem cellsTChs : Tryz.prog.cellsOf 27 = 1 := by kernel_rfl
theorem cellsTBool : Tryz.prog.cellsOf 4 = 1 := by kernel_rfl
theorem bytesTCh : Tryz.prog.bytesOf 70 = 40 := by kernel_rfl
theorem bytesTAct : Tryz.prog.bytesOf 44 = 32 := by kernel_rfl
theorem cellsAInt : Tryz.prog.cellsOf 3 = 1 := by kernel_rfl
theorem cellsAStr : Tryz.prog.cellsOf 9 = 1 := by kernel_rfl
theorem cells_of_act {w : World} {B : Nat} {a : Addr} {k : Nat} {cs : List Value} (hc : w.cells? B a k = some cs) (j : Nat) (hj : j < k) : w.cell? (a.add j) = cs[j]? := by
  obtain ⟨_, hl, hat⟩ := World.cells?_some hc
  exact hat j hj
def chcell (c : CR) : List Value := [.string c.key, .string c.val, .bool c.gone]
section
variable {H : Type} {enc : TypeId × Value → H} {W : World} {base : Nat} {v : Value} {d : DataW H} {p : List MemPlace}
set_option maxRecDepth 100000 in
theorem trod_tch {B : Nat} {sp : Nat → Bool} {hd : Bool} {m : Nat} {cs : List Value} {x : DataW H × List MemPlace} (hl : cs.length = 3) (hf : DataW.trod enc Tryz.prog W B sp hd m 70 cs = some x) (hw : ∀ q ∈ DataW.weights Tryz.prog 70 x.1, q ≤ reachBytes) :
    ∃ o : CR, cs = chcell o ∧ o.key.size ≤ 281474976710656 ∧ o.val.size ≤ 281474976710656 := by
  obtain ⟨ys, n, _, hx, _, hyl, hg⟩ := DataW.trod_struct Tryz.underlying70 hf
  match cs, hl with
  | [c0, c1, c2], _ =>
    match ys, hyl with
    | [y0, y1, y2], _ =>
      have h0 := hg 0 ({ name := "Key", type := 9, offset := 0, embedded := false, tag := "", pkgPath := "", byteOffset := 0 } : Field) rfl
      have h1 := hg 1 ({ name := "Value", type := 9, offset := 1, embedded := false, tag := "", pkgPath := "", byteOffset := 16 } : Field) rfl
      have h2 := hg 2 ({ name := "Gone", type := 4, offset := 2, embedded := false, tag := "", pkgPath := "", byteOffset := 32 } : Field) rfl
      have h0' : DataW.trod enc Tryz.prog W B sp hd n 9 [c0] = some y0 := by simpa [cellsAStr] using h0
      have h1' : DataW.trod enc Tryz.prog W B sp hd n 9 [c1] = some y1 := by simpa [cellsAStr] using h1
      have h2' : DataW.trod enc Tryz.prog W B sp hd n 4 [c2] = some y2 := by simpa [cellsTBool] using h2
      simp only [List.map_cons, List.map_nil] at hx
      obtain ⟨s0, hz0, hy0, _⟩ := DataW.trod_string Tryz.underlying9 h0'
      obtain ⟨s1, hz1, hy1, _⟩ := DataW.trod_string Tryz.underlying9 h1'
      obtain ⟨b2, hz2, _⟩ := DataW.trod_bool Tryz.underlying4 h2'
      injection hz0 with hz0
      injection hz1 with hz1
      injection hz2 with hz2
      subst hz0 hz1 hz2
      have hq0 := hw s0.data.toList.length (by
        rw [hx]
        simp only [DataW.weights, Tryz.underlying70]
        refine DataW.weights_mem_each (j := 0) (t := 9) (d := .lit (.string s0.data.toList)) rfl ?_ _ ?_
        · rw [hy0]; rfl
        · simp [DataW.weights])
      have hq1 := hw s1.data.toList.length (by
        rw [hx]
        simp only [DataW.weights, Tryz.underlying70]
        refine DataW.weights_mem_each (j := 1) (t := 9) (d := .lit (.string s1.data.toList)) rfl ?_ _ ?_
        · rw [hy1]; rfl
        · simp [DataW.weights])
      rw [Array.length_toList, reach_is] at hq0 hq1
      exact ⟨⟨s0, s1, b2⟩, rfl, by change s0.size ≤ _ at hq0; simp only []; omega, by change s1.size ≤ _ at hq1; simp only []; omega⟩
set_option maxRecDepth 100000 in
/-- A slice of changes in a cell. -/
theorem trod_tchs {m : Nat} {c : Value} {x : DataW H × List MemPlace} (hf : DataW.trod enc Tryz.prog W 0 (fun _ => true) true m 27 [c] = some x) (hw : ∀ q ∈ DataW.weights Tryz.prog 27 x.1, q ≤ reachBytes) :
    ∃ L : List CR, CV W c L ∧ (∀ o ∈ L, o.key.size ≤ 281474976710656 ∧ o.val.size ≤ 281474976710656) ∧ L.length * 40 ≤ 140737488355328 := by
  rcases open_slice Tryz.underlying27 hf with ⟨hcs, _⟩ | ⟨a, len, cap, m2, n, D, Pl, hcs, _, hl, hm, hmm, hx, hi⟩
  · injection hcs with hcs
    rw [hcs]
    exact ⟨[], ⟨none, 0, rfl, Nat.le_refl _, ⟨Nat.zero_le _, fun _ => rfl⟩, fun j hj => absurd hj (by simp)⟩, (fun o ho => by cases ho), by decide⟩
  · injection hcs with hcs
    rw [hcs]
    simp only [if_true] at hmm
    subst hmm
    rw [cellsTCh] at hi
    rw [hx] at hw
    have hle := hw ((((List.range len).map D).length + ((List.range (m2 - len)).map fun j => D (len + j)).length) * Tryz.prog.bytesOf 70) (by
      simp only [DataW.weights, Tryz.underlying27]; exact List.mem_cons_self ..)
    rw [bytesTCh, List.length_map, List.length_range, reach_is] at hle
    have hel : ∀ i, i < len → ∀ q ∈ DataW.weights Tryz.prog 70 (D i), q ≤ reachBytes := fun i hil q hq => hw q (by
      simp only [DataW.weights, Tryz.underlying27]
      exact List.mem_cons_of_mem _ (List.mem_append.2 (.inl (weightsAll_mem (List.mem_map_of_mem (List.mem_range.2 hil)) hq))))
    have hsp : 0 < len → a.spot = none := fun h0 => spot_of (by decide) hi (show 0 < m2 by omega)
    have hex : ∀ i, i < len → ∃ o : CR, (∃ b off, a = ⟨b, off, none⟩ ∧ CCell W b (off + i * 3) o) ∧ (o.key.size ≤ 281474976710656 ∧ o.val.size ≤ 281474976710656) := fun i hil => by
      obtain ⟨cs', hc, ht⟩ := hi i (by omega)
      obtain ⟨_, hl3, _⟩ := World.cells?_some hc
      obtain ⟨o, rfl, ho⟩ := trod_tch hl3 ht (hel i hil)
      have c0 := cells_of_act hc 0 (by decide)
      have c1 := cells_of_act hc 1 (by decide)
      have c2 := cells_of_act hc 2 (by decide)
      obtain ⟨b, off, spot⟩ := a
      have hspot : spot = none := hsp (by omega)
      subst hspot
      rw [add_plain, add_plain] at c0 c1 c2
      exact ⟨o, ⟨b, off, rfl, c0, c1, c2⟩, ho⟩
    obtain ⟨L, hL, hall⟩ := list_of len hex
    refine ⟨L, ⟨some a, m2, by rw [hL], by omega, ⟨hm, fun h => by cases h⟩, fun j hj => ?_⟩, fun o ho => ?_, by rw [hL]; omega⟩
    · obtain ⟨⟨b, off, ha, hc⟩, _⟩ := hall j hj
      exact ⟨b, off, by rw [ha], hc⟩
    · obtain ⟨j, hj, rfl⟩ := List.mem_iff_getElem.1 ho
      exact (hall j hj).2
set_option maxRecDepth 100000 in
/-- An act's cells. -/
theorem trod_tact {m : Nat} {cs : List Value} {x : DataW H × List MemPlace} (hl : cs.length = 2) (hf : DataW.trod enc Tryz.prog W 0 (fun _ => true) true m 44 cs = some x) (hw : ∀ q ∈ DataW.weights Tryz.prog 44 x.1, q ≤ reachBytes) :
    ∃ (o : ActC) (u : Value), cs = [.int .i64 o.kind, u] ∧ CV W u o.chs ∧ FitAct o := by
  obtain ⟨ys, n, _, hx, _, hyl, hg⟩ := DataW.trod_struct Tryz.underlying44 hf
  match cs, hl with
  | [c0, c1], _ =>
    match ys, hyl with
    | [y0, y1], _ =>
      have h0 := hg 0 ({ name := "Kind", type := 3, offset := 0, embedded := false, tag := "", pkgPath := "", byteOffset := 0 } : Field) rfl
      have h1 := hg 1 ({ name := "Changes", type := 27, offset := 1, embedded := false, tag := "", pkgPath := "", byteOffset := 8 } : Field) rfl
      have h0' : DataW.trod enc Tryz.prog W 0 (fun _ => true) true n 3 [c0] = some y0 := by simpa [cellsAInt] using h0
      have h1' : DataW.trod enc Tryz.prog W 0 (fun _ => true) true n 27 [c1] = some y1 := by simpa [cellsTChs] using h1
      simp only [List.map_cons, List.map_nil] at hx
      obtain ⟨z0, hz0, _, w0⟩ := DataW.trod_int Tryz.underlying3 h0'
      injection hz0 with hz0
      subst hz0
      obtain ⟨L, hv, ho, hlen⟩ := trod_tchs h1' (fun q hq => hw q (by
        rw [hx]
        simp only [DataW.weights, Tryz.underlying44]
        exact DataW.weights_mem_each (j := 1) (t := 27) (d := y1.1) rfl rfl q hq))
      exact ⟨⟨z0, L⟩, c1, rfl, hv, hlen, ho⟩
set_option maxRecDepth 100000 in
/-- A slice of acts in a cell. -/
theorem trod_tacts {m : Nat} {c : Value} {x : DataW H × List MemPlace} (hf : DataW.trod enc Tryz.prog W 0 (fun _ => true) true m 39 [c] = some x) (hw : ∀ q ∈ DataW.weights Tryz.prog 39 x.1, q ≤ reachBytes) :
    ∃ L : List ActC, AV W c L ∧ (∀ t ∈ L, FitAct t) ∧ L.length * 32 ≤ 140737488355328 := by
  rcases open_slice Tryz.underlying39 hf with ⟨hcs, _⟩ | ⟨a, len, cap, m2, n, D, Pl, hcs, _, hl, hm, hmm, hx, hi⟩
  · injection hcs with hcs
    rw [hcs]
    exact ⟨[], ⟨none, 0, rfl, Nat.le_refl _, ⟨Nat.zero_le _, fun _ => rfl⟩, fun j hj => absurd hj (by simp)⟩, (fun o ho => by cases ho), by decide⟩
  · injection hcs with hcs
    rw [hcs]
    simp only [if_true] at hmm
    subst hmm
    rw [cellsTAct] at hi
    rw [hx] at hw
    have hle := hw ((((List.range len).map D).length + ((List.range (m2 - len)).map fun j => D (len + j)).length) * Tryz.prog.bytesOf 44) (by
      simp only [DataW.weights, Tryz.underlying39]; exact List.mem_cons_self ..)
    rw [bytesTAct, List.length_map, List.length_range, reach_is] at hle
    have hel : ∀ i, i < len → ∀ q ∈ DataW.weights Tryz.prog 44 (D i), q ≤ reachBytes := fun i hil q hq => hw q (by
      simp only [DataW.weights, Tryz.underlying39]
      exact List.mem_cons_of_mem _ (List.mem_append.2 (.inl (weightsAll_mem (List.mem_map_of_mem (List.mem_range.2 hil)) hq))))
    have hsp : 0 < len → a.spot = none := fun h0 => spot_of (by decide) hi (show 0 < m2 by omega)
    have hex : ∀ i, i < len → ∃ t : ActC, (∃ b off vl, a = ⟨b, off, none⟩ ∧ W.cell? ⟨b, off + i * 2, none⟩ = some (.int .i64 t.kind) ∧ W.cell? ⟨b, off + i * 2 + 1, none⟩ = some vl ∧ CV W vl t.chs) ∧ FitAct t := fun i hil => by
      obtain ⟨cs', hc, ht⟩ := hi i (by omega)
      obtain ⟨_, hl2, _⟩ := World.cells?_some hc
      obtain ⟨t, u, rfl, hv, hft⟩ := trod_tact hl2 ht (hel i hil)
      have c0 := cells_of_act hc 0 (by decide)
      have c1 := cells_of_act hc 1 (by decide)
      obtain ⟨b, off, spot⟩ := a
      have hspot : spot = none := hsp (by omega)
      subst hspot
      rw [add_plain, add_plain] at c0 c1
      exact ⟨t, ⟨b, off, u, rfl, c0, c1, hv⟩, hft⟩
    obtain ⟨L, hL, hall⟩ := list_of len hex
    refine ⟨L, ⟨some a, m2, by rw [hL], by omega, ⟨hm, fun h => by cases h⟩, fun j hj => ?_⟩, fun o ho => ?_, by rw [hL]; omega⟩
    · obtain ⟨⟨b, off, vl, ha, hc⟩, _⟩ := hall j hj
      exact ⟨b, off, vl, by rw [ha], hc⟩
    · obtain ⟨j, hj, rfl⟩ := List.mem_iff_getElem.1 ho
      exact (hall j hj).2
set_option maxRecDepth 100000 in
/-- An argument that is a slice of acts. -/
theorem open_acts (hval : Value.okWide Tryz.prog W .any base 39 v) (h : DataW.Trod enc Tryz.prog W 0 (fun _ => true) true 39 v d p) (hw : ∀ q ∈ DataW.weights Tryz.prog 39 d, q ≤ reachBytes) :
    ∃ L : List ActC, AV W v L ∧ (∀ t ∈ L, FitAct t) ∧ L.length * 32 ≤ 140737488355328 := by
  obtain ⟨a0, len0, cap0, rfl⟩ := okWide_slice Tryz.underlying39 hval
  obtain ⟨fuel, hf⟩ := h
  exact trod_tacts (x := (d, p)) (by simpa [Value.cells] using hf) hw
end
end Go.Proofs.YtccjkfccklfjkaaGreatDoor
