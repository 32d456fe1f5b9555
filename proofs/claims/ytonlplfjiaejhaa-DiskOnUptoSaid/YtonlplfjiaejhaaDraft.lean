/- Drafts: files whose bytes lie in rows of the call's own. -/
import Derived.Test.YtonlplfjiaejhaaDiskG
import Derived.Lib.AppendStr
import Derived.Laws.MakeOwn
namespace Go.Proofs.Ytonlplfjiaejhaa
open Go.RowKit

/-- A file, and the slice that holds its bytes. -/
abbrev FB := F × Value
def dcell (p : FB) : List Value := [.string p.1.name, p.2, .int .i64 (p.1.kept.size : Int)]
theorem dcell_len (p : FB) : (dcell p).length = 3 := rfl
def dcells (M : List FB) : List Value := M.flatMap dcell
theorem dcells_len (M : List FB) : (dcells M).length = M.length * 3 := rows_len dcell 3 dcell_len M
def bcells (f : F) : List Value := Lib.strCells f.kept ++ Lib.strCells f.loose
theorem bcells_len (f : F) : (bcells f).length = f.size := by
  unfold bcells F.size
  rw [List.length_append, Lib.strCells_length, Lib.strCells_length]
def files (M : List FB) : List F := M.map Prod.fst
theorem files_len (M : List FB) : (files M).length = M.length := by unfold files; rw [List.length_map]
theorem files_at {M : List FB} {i : Nat} (h : i < M.length) : (files M)[i]'(by rw [files_len]; exact h) = M[i].1 := by unfold files; rw [List.getElem_map]
/-- No two of them share a row. -/
def Sep (M : List FB) : Prop := M.Pairwise fun a b => ∀ g, a.2.ownBlock = some g → b.2.ownBlock ≠ some g
/-- The bytes of a file lie in this slice. -/
def BO (w : World) (B : Nat) (p : FB) : Prop := w.ownsRow B 5 1 p.2 p.1.size (bcells p.1)
def RO (w : World) (B : Nat) (v : Value) (M : List FB) : Prop := w.ownsRow B 62 3 v M.length (dcells M)
structure DR (w : World) (B : Nat) (v : Value) (M : List FB) : Prop where
  row : RO w B v M
  bytes : ∀ p ∈ M, BO w B p
  sep : Sep M
theorem BO.gr {w w' : World} {B : Nat} {p : FB} (h : BO w B p) (g : Gr w w') : BO w' B p := own_gr h g
theorem DR.gr {w w' : World} {B : Nat} {v : Value} {M : List FB} (h : DR w B v M) (g : Gr w w') : DR w' B v M :=
  ⟨own_gr h.row g, fun p hp => (h.bytes p hp).gr g, h.sep⟩
theorem DR.le {w : World} {B B' : Nat} {v : Value} {M : List FB} (h : DR w B v M) (hb : B' ≤ B) : DR w B' v M :=
  ⟨own_le h.row hb, fun p hp => own_le (h.bytes p hp) hb, h.sep⟩

section
variable {w : World} {B : Nat} {t : TypeId} {g n c : Nat} {xs : List Value}
theorem own_len {size : Nat} (h : w.ownsRow B t size (.slice (some ⟨g, 0, none⟩) n c) n xs) : n ≤ c ∧ c ≤ 9223372036854775807 ∧ B ≤ g ∧ g < w.heap.size := by
  rcases h.2 with ⟨hh, _⟩ | ⟨g', cap', cur, hh, hb, hg, hn, hm, _⟩
  · cases hh
  · injection hh with h1 h2 h3
    injection h1 with h1
    injection h1 with h1
    subst h1 h3
    exact ⟨hn, hm, hb, (Array.getElem?_eq_some_iff.1 hg).1⟩
/-- Rows of unlike element types lie apart. -/
theorem own_types {size size' n' : Nat} {t' : TypeId} {v v' : Value} {ys : List Value} (h : w.ownsRow B t size v n xs) (h' : w.ownsRow B t' size' v' n' ys) (ht : t ≠ t') {b : Nat} (e : v.ownBlock = some b) : v'.ownBlock ≠ some b := by
  intro e'
  rcases h.2 with ⟨rfl, _⟩ | ⟨g, cap, cur, rfl, _, hg, _⟩
  · simp [Value.ownBlock] at e
  · rcases h'.2 with ⟨rfl, _⟩ | ⟨g', cap', cur', rfl, _, hg', _⟩
    · simp [Value.ownBlock] at e'
    · have e1 : g = b := by simpa [Value.ownBlock] using e
      have e2 : g' = b := by simpa [Value.ownBlock] using e'
      subst e1 e2
      rw [hg] at hg'
      injection hg' with hh
      injection hh with _ hh
      exact ht hh
theorem own_set_other {size : Nat} {v : Value} (h : w.ownsRow B t size v n xs) {b : Nat} (hb : v.ownBlock ≠ some b) (i : Nat) (u : Value) : (w.setCell ⟨b, i, none⟩ u).ownsRow B t size v n xs := by
  have hg : w.grownBy (w.setCell ⟨b, i, none⟩ u) (some b) := ⟨rfl, rfl, rfl, by simp [World.setCell], fun k _ hk => Below.heap_setCell w ⟨b, i, none⟩ u k (fun e => hk (by rw [e]))⟩
  exact World.ownsRow.kept h hg (.inr hb)
theorem own_put3 {α : Type} {f : α → List Value} (hf : ∀ x, (f x).length = 3) {L : List α} (h : w.ownsRow B t 3 (.slice (some ⟨g, 0, none⟩) n c) n (L.flatMap f)) {i : Nat} (hi : i < L.length) {y : α} {a b d : Value} (hy : f y = [a, b, d]) :
    (((w.setCell ⟨g, i * 3, none⟩ a).setCell ⟨g, i * 3 + 1, none⟩ b).setCell ⟨g, i * 3 + 2, none⟩ d).ownsRow B t 3 (.slice (some ⟨g, 0, none⟩) n c) n ((L.set i y).flatMap f) := by
  have h1 := (((h.stored (i * 3) a).1.stored (i * 3 + 1) b).1.stored (i * 3 + 2) d).1
  have e : (((L.flatMap f).set (i * 3) a).set (i * 3 + 1) b).set (i * 3 + 2) d = (L.set i y).flatMap f := by
    apply List.ext_getElem?
    intro j
    by_cases hj : j < L.length * 3
    · have hq : j / 3 < L.length := by omega
      have hr := Nat.mod_lt j (show 0 < 3 by decide)
      have hd : j / 3 * 3 + j % 3 = j := by omega
      have hs : ((L.set i y).flatMap f)[j]? = (f ((L.set i y)[j / 3]'(by rw [List.length_set]; exact hq)))[j % 3]? := by
        rw [← rows_at f 3 hf (L.set i y) (j / 3) (j % 3) (by rw [List.length_set]; exact hq) hr, hd]
      have ho : (L.flatMap f)[j]? = (f L[j / 3])[j % 3]? := by rw [← rows_at f 3 hf L (j / 3) (j % 3) hq hr, hd]
      have hlen : (L.flatMap f).length = L.length * 3 := rows_len f 3 hf L
      rw [hs, List.getElem?_set, List.getElem?_set, List.getElem?_set]
      simp only [List.length_set, hlen]
      by_cases e2 : i * 3 + 2 = j
      · rw [if_pos e2, if_pos (by omega)]
        have : j / 3 = i := by omega
        have hm : j % 3 = 2 := by omega
        simp only [this, hm, List.getElem_set_self, hy]
        rfl
      · rw [if_neg e2]
        by_cases e1 : i * 3 + 1 = j
        · rw [if_pos e1, if_pos (by omega)]
          have : j / 3 = i := by omega
          have hm : j % 3 = 1 := by omega
          simp only [this, hm, List.getElem_set_self, hy]
          rfl
        · rw [if_neg e1]
          by_cases e0 : i * 3 = j
          · rw [if_pos e0, if_pos (by omega)]
            have : j / 3 = i := by omega
            have hm : j % 3 = 0 := by omega
            simp only [this, hm, List.getElem_set_self, hy]
            rfl
          · rw [if_neg e0, ho, List.getElem_set_ne (by omega)]
    · rw [List.getElem?_eq_none, List.getElem?_eq_none]
      · rw [rows_len f 3 hf, List.length_set]; omega
      · rw [List.length_set, List.length_set, List.length_set, rows_len f 3 hf]; omega
  rw [← e]
  exact h1
end
theorem infoDraft : (Try.prog.info? 62).map (fun i => (i.zero, i.size, i.bytes)) = some (some (.agg #[.string ⟨#[]⟩, .slice none 0 0, .int .i64 0]), 3, 48) := by kernel_rfl
theorem infoU8 : (Try.prog.info? 5).map (fun i => (i.zero, i.size, i.bytes)) = some (some (.int .u8 0), 1, 1) := by kernel_rfl
/-- An empty draft. -/
def z0 : FB := (⟨⟨#[]⟩, ⟨#[]⟩, ⟨#[]⟩⟩, .slice none 0 0)
theorem made_drafts (n : Nat) : (madeCells #[.string ⟨#[]⟩, .slice none 0 0, .int .i64 0] (n * 3)).toList = dcells (List.replicate n z0) := by
  apply List.ext_getElem?
  intro j
  by_cases hj : j < n * 3
  · have hq : j / 3 < n := by omega
    have hr := Nat.mod_lt j (show 0 < 3 by decide)
    have hd : j / 3 * 3 + j % 3 = j := by omega
    have hs : (dcells (List.replicate n z0))[j]? = (dcell z0)[j % 3]? := by
      have := rows_at dcell 3 dcell_len (List.replicate n z0) (j / 3) (j % 3) (by rw [List.length_replicate]; exact hq) hr
      rw [hd, List.getElem_replicate] at this
      exact this
    rw [hs]
    have : (madeCells #[Value.string ⟨#[]⟩, .slice none 0 0, .int .i64 0] (n * 3)).toList[j]? = some (#[Value.string ⟨#[]⟩, .slice none 0 0, .int .i64 0][j % 3]!) := by
      simp [madeCells, hj]
    rw [this]
    match j % 3, hr with
    | 0, _ => rfl
    | 1, _ => rfl
    | 2, _ => rfl
  · rw [List.getElem?_eq_none, List.getElem?_eq_none]
    · rw [dcells_len, List.length_replicate]; omega
    · simp [madeCells]; omega
end Go.Proofs.Ytonlplfjiaejhaa
