/- Rows of structs, and rows of files that the call owns. -/
import Derived.Test.YtmkcgnljankmdaaDoorDiskD
import Derived.Test.YtmkcgnljankmdaaDoorRowsG
import Derived.Laws.AppendOwnNone
import Derived.Maps.AppendAt
import Derived.Deep.AppendLies
namespace Go.Proofs.YtmkcgnljankmdaaDoor
open Go.RowKit

def fcell (f : F) : List Value := [.string f.name, .string f.kept, .string f.loose]
def fcells (L : List F) : List Value := L.flatMap fcell
theorem fcell_len (f : F) : (fcell f).length = 3 := rfl
theorem fcells_len (L : List F) : (fcells L).length = L.length * 3 := rows_len fcell 3 fcell_len L
theorem fcells_one (L : List F) : ∀ u ∈ fcells L, u.oneCell' = true := by
  intro u hu
  obtain ⟨f, _, hf⟩ := List.mem_flatMap.1 hu
  unfold fcell at hf
  simp only [List.mem_cons, List.not_mem_nil, or_false] at hf
  rcases hf with rfl | rfl | rfl <;> rfl
theorem fcells_append (a b : List F) : fcells (a ++ b) = fcells a ++ fcells b := List.flatMap_append
/-- The cells of a slice of files, as append asks for them. -/
theorem FV.news {w : World} {a : Addr} {n c : Nat} {L : List F} (h : FV w (.slice (some a) n c) L) : n = L.length ∧ ∀ j u, (fcells L)[j]? = some u → w.cell? (a.add j) = some u := by
  obtain ⟨A, c', hv, h1, h2, h3⟩ := h
  injection hv with e1 e2 e3
  subst e1 e2 e3
  refine ⟨rfl, fun j u hu => ?_⟩
  obtain ⟨q, r, hq, hr, rfl, hg⟩ := rows_of fcell 3 fcell_len (by decide) L j u hu
  obtain ⟨b, off, hh, c0, c1, c2⟩ := h3 q hq
  injection hh with hh
  subst hh
  rw [Go.WideShapes.add_plain]
  match r, hr with
  | 0, _ =>
    have : (Value.string L[q].name) = u := by simpa [fcell] using hg
    rw [← this, show off + (q * 3 + 0) = off + q * 3 by omega]
    exact c0
  | 1, _ =>
    have : (Value.string L[q].kept) = u := by simpa [fcell] using hg
    rw [← this, show off + (q * 3 + 1) = off + q * 3 + 1 by omega]
    exact c1
  | 2, _ =>
    have : (Value.string L[q].loose) = u := by simpa [fcell] using hg
    rw [← this, show off + (q * 3 + 2) = off + q * 3 + 2 by omega]
    exact c2

/-- The call owns the slice v from block B on: it reads as the files L. -/
def FO (w : World) (B : Nat) (v : Value) (L : List F) : Prop := w.ownsRow B 46 3 v L.length (fcells L)
theorem FO.gr {w w' : World} {B : Nat} {v : Value} {L : List F} (h : FO w B v L) (g : Gr w w') : FO w' B v L := own_gr h g
theorem FO.le {w : World} {B B' : Nat} {v : Value} {L : List F} (h : FO w B v L) (hb : B' ≤ B) : FO w B' v L := own_le h hb
theorem FO.nil (w : World) (B : Nat) : FO w B (.slice none 0 0) [] := World.ownsRow_nil w B _ _
/-- The places of a row that is owned. -/
theorem FO.at_ {w : World} {B g n cap : Nat} {L : List F} (h : FO w B (.slice (some ⟨g, 0, none⟩) n cap) L) {j : Nat} (hj : j < L.length) : FCell w g (j * 3) L[j] := by
  have hn : n = L.length := by
    rcases h.2 with ⟨hh, _⟩ | ⟨g', cap', cur, hh, _⟩
    · cases hh
    · injection hh
  subst hn
  have hj3 : j * 3 + 2 < L.length * 3 := by omega
  refine ⟨?_, ?_, ?_⟩
  · rw [h.cellAt (j * 3) (by omega)]; exact rows_at fcell 3 fcell_len L j 0 hj (by decide)
  · rw [h.cellAt (j * 3 + 1) (by omega)]; exact rows_at fcell 3 fcell_len L j 1 hj (by decide)
  · rw [h.cellAt (j * 3 + 2) (by omega)]; exact rows_at fcell 3 fcell_len L j 2 hj (by decide)
theorem FO.fv {w : World} {B : Nat} {v : Value} {L : List F} (h : FO w B v L) : FV w v L := by
  have h' := h
  rcases h.2 with ⟨rfl, h0⟩ | ⟨g, cap, cur, rfl, hb, hg, hn, hm, hc, ht⟩
  · have : L = [] := List.length_eq_zero_iff.1 h0
    subst this
    exact FV.nil w
  · refine ⟨_, cap, rfl, hn, ⟨hm, fun h => by cases h⟩, fun j hj => ⟨g, 0, rfl, ?_⟩⟩
    rw [Nat.zero_add]
    exact FO.at_ h' hj
theorem FO.form {w : World} {B : Nat} {v : Value} {L : List F} (h : FO w B v L) : ∃ A c, v = .slice A L.length c ∧ L.length ≤ c ∧ c ≤ 9223372036854775807 := own_form h
theorem infoFile : (Tryd.prog.info? 46).map (fun i => (i.zero, i.size, i.bytes)) = some (some (.agg #[.string ⟨#[]⟩, .string ⟨#[]⟩, .string ⟨#[]⟩]), 3, 48) := by kernel_rfl
end Go.Proofs.YtmkcgnljankmdaaDoor
