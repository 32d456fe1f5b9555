/- Stores into a row of files; walks: copies of a disk. -/
import Derived.Test.YtmkcgnljankmdaaDoorDiskF
import Derived.Deep.RegionHeld3
import Derived.Deep.RegionLaw
import Derived.Lib.SliceRun
namespace Go.Proofs.YtmkcgnljankmdaaDoor
open Go.RowKit

section
variable {w : World} {B g n c : Nat} {L : List F}
theorem FO.len (h : FO w B (.slice (some ⟨g, 0, none⟩) n c) L) : n = L.length ∧ L.length ≤ c ∧ c ≤ 9223372036854775807 ∧ B ≤ g ∧ g < w.heap.size := by
  rcases h.2 with ⟨hh, _⟩ | ⟨g', cap', cur, hh, hb, hg, hn, hm, _⟩
  · cases hh
  · injection hh with h1 h2 h3
    injection h1 with h1
    injection h1 with h1
    subst h1 h2 h3
    exact ⟨rfl, hn, hm, hb, (Array.getElem?_eq_some_iff.1 hg).1⟩
theorem FO.free (h : FO w B (.slice (some ⟨g, 0, none⟩) n c) L) (j : Nat) : w.frozen? ⟨g, j, none⟩ = false := by
  obtain ⟨rfl, _⟩ := h.len
  exact h.frozenAt j
/-- A value that has at least one element lies in a block. -/
theorem FO.addr {v : Value} (h : FO w B v L) {i : Nat} (hi : i < L.length) : ∃ g c, v = .slice (some ⟨g, 0, none⟩) L.length c := by
  obtain ⟨g, c, hv, _⟩ := World.ownsRow.form h (by omega)
  exact ⟨g, c, hv⟩
theorem FO.store (h : FO w B (.slice (some ⟨g, 0, none⟩) n c) L) {i r : Nat} (hi : i < L.length) (hr : r < 3) (f : F) (u : Value) (hf : fcell f = (fcell L[i]).set r u) :
    FO (w.setCell ⟨g, i * 3 + r, none⟩ u) B (.slice (some ⟨g, 0, none⟩) n c) (L.set i f) ∧ w.grownBy (w.setCell ⟨g, i * 3 + r, none⟩ u) (some g) := by
  obtain ⟨rfl, _⟩ := h.len
  obtain ⟨h1, h2⟩ := h.stored (i * 3 + r) u
  refine ⟨?_, h2⟩
  unfold FO
  rw [List.length_set]
  have : fcells (L.set i f) = (fcells L).set (i * 3 + r) u := (rows_set fcell 3 fcell_len L i r hi hr f u hf).symm
  rw [this]
  exact h1
theorem FO.put3 (h : FO w B (.slice (some ⟨g, 0, none⟩) n c) L) {i : Nat} (hi : i < L.length) (f : F) :
    FO (((w.setCell ⟨g, i * 3, none⟩ (.string f.name)).setCell ⟨g, i * 3 + 1, none⟩ (.string f.kept)).setCell ⟨g, i * 3 + 2, none⟩ (.string f.loose)) B (.slice (some ⟨g, 0, none⟩) n c) (L.set i f) := by
  obtain ⟨h1, _⟩ := h.store hi (r := 0) (by decide) ⟨f.name, L[i].kept, L[i].loose⟩ (.string f.name) rfl
  obtain ⟨h2, _⟩ := h1.store (i := i) (by rw [List.length_set]; exact hi) (r := 1) (by decide) ⟨f.name, f.kept, L[i].loose⟩ (.string f.kept) (by rw [List.getElem_set_self]; rfl)
  obtain ⟨h3, _⟩ := h2.store (i := i) (by rw [List.length_set, List.length_set]; exact hi) (r := 2) (by decide) f (.string f.loose) (by rw [List.getElem_set_self]; rfl)
  rw [List.set_set, List.set_set] at h3
  exact h3
theorem FO.put2 (h : FO w B (.slice (some ⟨g, 0, none⟩) n c) L) {i : Nat} (hi : i < L.length) (x y : ByteArray) :
    FO ((w.setCell ⟨g, i * 3 + 1, none⟩ (.string x)).setCell ⟨g, i * 3 + 2, none⟩ (.string y)) B (.slice (some ⟨g, 0, none⟩) n c) (L.set i ⟨L[i].name, x, y⟩) := by
  obtain ⟨h2, _⟩ := h.store hi (r := 1) (by decide) ⟨L[i].name, x, L[i].loose⟩ (.string x) rfl
  obtain ⟨h3, _⟩ := h2.store (i := i) (by rw [List.length_set]; exact hi) (r := 2) (by decide) ⟨L[i].name, x, y⟩ (.string y) (by rw [List.getElem_set_self]; rfl)
  rw [List.set_set] at h3
  exact h3
theorem FO.put2' (h : FO w B (.slice (some ⟨g, 0, none⟩) n c) L) {i : Nat} (hi : i < L.length) (x y : ByteArray) :
    FO ((w.setCell ⟨g, i * 3 + 2, none⟩ (.string y)).setCell ⟨g, i * 3 + 1, none⟩ (.string x)) B (.slice (some ⟨g, 0, none⟩) n c) (L.set i ⟨L[i].name, x, y⟩) := by
  obtain ⟨h2, _⟩ := h.store hi (r := 2) (by decide) ⟨L[i].name, L[i].kept, y⟩ (.string y) rfl
  obtain ⟨h3, _⟩ := h2.store (i := i) (by rw [List.length_set]; exact hi) (r := 1) (by decide) ⟨L[i].name, x, y⟩ (.string x) (by rw [List.getElem_set_self]; rfl)
  rw [List.set_set] at h3
  exact h3
theorem FO.put1 (h : FO w B (.slice (some ⟨g, 0, none⟩) n c) L) {i : Nat} (hi : i < L.length) (y : ByteArray) :
    FO (w.setCell ⟨g, i * 3 + 2, none⟩ (.string y)) B (.slice (some ⟨g, 0, none⟩) n c) (L.set i ⟨L[i].name, L[i].kept, y⟩) :=
  (h.store hi (r := 2) (by decide) ⟨L[i].name, L[i].kept, y⟩ (.string y) rfl).1
end

/-- The box of one file. -/
theorem fbox (w : World) (f : F) : FCell (w.alloc (.cells #[.string f.name, .string f.kept, .string f.loose] 46)) w.heap.size 0 f := ⟨by simp, by simp, by simp⟩
theorem keepC {w w1 w2 : World} {b : Nat} {f : F} {B : Nat} {v : Value} {L : List F} (h : FCell w1 b 0 f ∧ FO w1 B v L ∧ Gr w w1) (g : Gr w1 w2) : FCell w2 b 0 f ∧ FO w2 B v L ∧ Gr w w2 := ⟨h.1.gr g, h.2.1.gr g, h.2.2.trans g⟩

def RetFiles (L : List F) (w : World) (e : Ending) (w' : World) : Prop := ∃ v, e = .returned v ∧ FO w' w.heap.size v L ∧ Gr w w'
def CopyRel (L : List F) (v : Value) (w : World) (i : Value) (wr : World) : Prop :=
  ∃ k : Nat, k ≤ L.length ∧ i = .int .i64 k ∧ FO wr (w.heap.size + 1 + 1) v L ∧ Gr w wr ∧ w.heap.size + 1 < wr.heap.size ∧ wr.cell? ⟨w.heap.size + 1, 0, none⟩ = some (.slice none 0 0) ∧ wr.frozen? ⟨w.heap.size + 1, 0, none⟩ = false
/-- What holds of the world while one file of the row is copied. -/
def CopyT (L : List F) (g n c bx k : Nat) (f : F) (w w' : World) : Prop :=
  FO w' (w.heap.size + 1 + 1) (.slice (some ⟨g, 0, none⟩) n c) L ∧ Gr w w' ∧ g < bx ∧ bx < w'.heap.size ∧ w.heap.size + 1 < bx ∧ w'.cell? ⟨w.heap.size + 1, 0, none⟩ = some (.slice none 0 0) ∧ w'.frozen? ⟨w.heap.size + 1, 0, none⟩ = false ∧ ∃ hk : k < L.length, f = L[k]
abbrev CopyC (g bx k : Nat) (f : F) (w' : World) : Prop :=
  w'.cell? ⟨bx, 0, none⟩ = some (.string f.name) ∧ w'.cell? ⟨bx, 1, none⟩ = some (.string f.kept) ∧ w'.cell? ⟨bx, 2, none⟩ = some (.string f.loose)
          ∧ w'.cell? ⟨g, k * 3, none⟩ = some (.string f.name) ∧ w'.cell? ⟨g, k * 3 + 1, none⟩ = some (.string f.kept) ∧ w'.cell? ⟨g, k * 3 + 2, none⟩ = some (.string f.loose)
          ∧ w'.frozen? ⟨g, k * 3, none⟩ = false ∧ w'.frozen? ⟨g, k * 3 + 1, none⟩ = false ∧ w'.frozen? ⟨g, k * 3 + 2, none⟩ = false
theorem copyC_of {L : List F} {g n c bx k : Nat} {f : F} {w w' : World} (hb : FCell w' bx 0 f) (h : CopyT L g n c bx k f w w') : CopyC g bx k f w' ∧ CopyT L g n c bx k f w w' := by
  obtain ⟨h1, h2, h3, h4, h5, h6, h7, hk, hf⟩ := id h
  have hc := h1.at_ hk
  rw [← hf] at hc
  exact ⟨⟨hb.1, hb.2.1, hb.2.2, hc.1, hc.2.1, hc.2.2, h1.free _, h1.free _, h1.free _⟩, h⟩
theorem copyT_gr {L : List F} {g n c bx k : Nat} {f : F} {w w1 w2 : World} (h : CopyT L g n c bx k f w w1) (q : Gr w1 w2) : CopyT L g n c bx k f w w2 := by
  obtain ⟨h1, h2, h3, h4, h5, h6, h7, h8⟩ := h
  exact ⟨h1.gr q, h2.trans q, h3, Nat.lt_of_lt_of_le h4 q.size, h5, q.cell h6, q.frozen (show w.heap.size + 1 < _ by omega) h7, h8⟩
theorem keepCp {L : List F} {g n c bx k : Nat} {f : F} {w w1 w2 : World} (h : CopyC g bx k f w1 ∧ CopyT L g n c bx k f w w1) (q : Gr w1 w2) : CopyC g bx k f w2 ∧ CopyT L g n c bx k f w w2 :=
  copyC_of (FCell.gr ⟨h.1.1, h.1.2.1, h.1.2.2.1⟩ q) (copyT_gr h.2 q)
theorem drewCp {L : List F} {g n c bx k : Nat} {f : F} {w w1 : World} (h : CopyC g bx k f w1 ∧ CopyT L g n c bx k f w w1) : CopyC g bx k f w1.drew ∧ CopyT L g n c bx k f w w1.drew := keepCp h (Gr.refl _).drew
theorem set_self {L : List F} {i : Nat} (h : i < L.length) : L.set i L[i] = L := List.set_getElem_self h
theorem FCell.far {w : World} {b o : Nat} {f : F} (h : FCell w b o f) {p : Addr} (hp : p.block ≠ b) (u : Value) : FCell (w.setCell p u) b o f := by
  have : ∀ j, (w.setCell p u).cell? ⟨b, j, none⟩ = w.cell? ⟨b, j, none⟩ := fun j => World.cell?_setCell_other _ _ _ _ (fun e => hp (by rw [e]))
  exact ⟨by rw [this]; exact h.1, by rw [this]; exact h.2.1, by rw [this]; exact h.2.2⟩
theorem copyT_put {L : List F} {g n c bx k : Nat} {f : F} {w w1 : World} (h : CopyC g bx k f w1 ∧ CopyT L g n c bx k f w w1) :
    CopyC g bx k f (((w1.setCell ⟨g, k * 3, none⟩ (.string f.name)).setCell ⟨g, k * 3 + 1, none⟩ (.string f.kept)).setCell ⟨g, k * 3 + 2, none⟩ (.string f.loose)) ∧
      CopyT L g n c bx k f w (((w1.setCell ⟨g, k * 3, none⟩ (.string f.name)).setCell ⟨g, k * 3 + 1, none⟩ (.string f.kept)).setCell ⟨g, k * 3 + 2, none⟩ (.string f.loose)) := by
  obtain ⟨⟨b0, b1, b2, _⟩, h1, h2, h3, h4, h5, h6, h7, hk, hf⟩ := h
  have hp := h1.put3 hk f
  rw [hf, set_self hk, ← hf] at hp
  have hBg := h1.len.2.2.2.1
  have hb : FCell w1 bx 0 f := ⟨b0, b1, b2⟩
  refine copyC_of (((hb.far (p := ⟨g, k * 3, none⟩) (by show g ≠ bx; omega) _).far (p := ⟨g, k * 3 + 1, none⟩) (by show g ≠ bx; omega) _).far (p := ⟨g, k * 3 + 2, none⟩) (by show g ≠ bx; omega) _) ?_
  refine ⟨hp, ((Below.setCell (Below.setCell (Below.setCell h2 (p := ⟨g, k * 3, none⟩) (by show w.heap.size ≤ g; omega) _) (p := ⟨g, k * 3 + 1, none⟩) (by show w.heap.size ≤ g; omega) _) (p := ⟨g, k * 3 + 2, none⟩) (by show w.heap.size ≤ g; omega) _)), h3, ?_, h5, ?_, ?_, hk, hf⟩
  · simpa [World.setCell] using h4
  · rw [World.cell?_setCell_other _ _ _ _ (fun e => by injection e; omega), World.cell?_setCell_other _ _ _ _ (fun e => by injection e; omega), World.cell?_setCell_other _ _ _ _ (fun e => by injection e; omega)]
    exact h6
  · rw [World.frozen?_setCell, World.frozen?_setCell, World.frozen?_setCell]
    exact h7
end Go.Proofs.YtmkcgnljankmdaaDoor
