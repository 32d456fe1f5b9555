/- Walks: what is written into a draft. -/
import Derived.Test.YtonlplfjiaejhaaDraftH
namespace Go.Proofs.Ytonlplfjiaejhaa
open Go.RowKit

/-- A string's bytes behind a row of bytes of the call's own: in the same block, or in a new one. -/
theorem run_append_bs (W : World) (B : Nat) (ty : TypeId) (v : Value) (n : Nat) (xs : List Value) (hown : W.ownsRow B 5 1 v n xs) (s : ByteArray) (hsz : n + s.size ≤ 140737488355328) (hB : B ≤ W.heap.size) :
    ∃ A' c' w', (Builtin.append_ #[60, 9] ty #[v, .string s]).run Try.prog W = .ok (.slice A' (n + s.size) c') w' ∧ w'.ownsRow B 5 1 (.slice A' (n + s.size) c') (n + s.size) (xs ++ Lib.strCells s) ∧ Kp v.ownBlock W w' ∧
      ((Value.slice A' (n + s.size) c').ownBlock = v.ownBlock ∨ ∃ x, (Value.slice A' (n + s.size) c').ownBlock = some x ∧ W.heap.size ≤ x) := by
  obtain ⟨i0, hi, hz0, hz1, hz2⟩ := info_parts infoU8
  have hm : n + s.size ≤ maxLen := by unfold maxLen; omega
  obtain ⟨v1, w1, hr, h1, h2, _⟩ := Lib.run_append_own_string (P := Try.prog) W B 60 9 ty 5 i0 Try.underlying60 Try.underlying9 hi hz0 hz1 hz2 v n xs hown s hm hsz hB
  obtain ⟨A', c', hv1, _⟩ := own_form h1
  subst hv1
  refine ⟨A', c', w1, hr, h1, h2, ?_⟩
  rcases hown.2 with ⟨rfl, rfl⟩ | ⟨g, cap, cur, rfl, hbg, hg, hnc, hcm, hcs, htake⟩
  · have hx : xs = [] := List.eq_nil_of_length_eq_zero (by have := hown.1; omega)
    subst hx
    obtain ⟨v2, w2, hr2, h3, _⟩ := Lib.run_append_own_string (P := Try.prog) W W.heap.size 60 9 ty 5 i0 Try.underlying60 Try.underlying9 hi hz0 hz1 hz2 (.slice none 0 0) 0 [] (World.ownsRow_nil W W.heap.size 5 1) s hm hsz (Nat.le_refl _)
    rw [hr] at hr2
    injection hr2 with e1 e2
    subst e1 e2
    cases hq : (Value.slice A' (0 + s.size) c').ownBlock with
    | none => exact .inl rfl
    | some x => exact .inr ⟨x, rfl, (h3.lt x hq).1⟩
  · by_cases hroom : n + s.size ≤ cap
    · obtain ⟨w2, hr2, _⟩ := run_append_str (P := Try.prog) W B 60 9 ty 5 i0 Try.underlying60 Try.underlying9 hi hz1 g n cap xs hown s hroom
      rw [hr] at hr2
      injection hr2 with e1 e2
      rw [e1]
      exact .inl rfl
    · have holds : ∀ j u, xs[j]? = some u → W.cell? ((⟨g, 0, none⟩ : Addr).add j) = some u := hown.cells (g := g) rfl
      have hr2 := Lib.run_append_grow_string (P := Try.prog) W 60 9 ty 5 i0 (.int .u8 0) Try.underlying60 Try.underlying9 hi hz0 ⟨g, 0, none⟩ n cap xs (by rw [hz1]; exact hown.1) holds s (by omega) (by omega) (by rw [hz2]; exact growslice_fits (by omega) (by omega))
      rw [hr] at hr2
      injection hr2 with e1 e2
      rw [e1]
      exact .inr ⟨_, rfl, Nat.le_refl _⟩
theorem RO.store {w : World} {B g n c : Nat} {M : List FB} (h : RO w B (.slice (some ⟨g, 0, none⟩) n c) M) {i r : Nat} (hi : i < M.length) (hr : r < 3) (p : FB) (u : Value) (hp : dcell p = (dcell M[i]).set r u) :
    RO (w.setCell ⟨g, i * 3 + r, none⟩ u) B (.slice (some ⟨g, 0, none⟩) n c) (M.set i p) := by
  have hn : n = M.length := by
    rcases h.2 with ⟨hh, _⟩ | ⟨g', cap', cur, hh, _⟩
    · cases hh
    · injection hh
  subst hn
  obtain ⟨h1, h2⟩ := h.stored (i * 3 + r) u
  unfold RO
  rw [List.length_set]
  have : dcells (M.set i p) = (dcells M).set (i * 3 + r) u := (rows_set dcell 3 dcell_len M i r hi hr p u hp).symm
  rw [this]
  exact h1
theorem Sep.set {w : World} {B : Nat} {M : List FB} {i : Nat} {p : FB} (h : Sep M) (hi : i < M.length) (hb : ∀ q ∈ M, BO w B q) (hat : p.2.ownBlock = M[i].2.ownBlock ∨ ∃ x, p.2.ownBlock = some x ∧ w.heap.size ≤ x) : Sep (M.set i p) := by
  have hs : ∀ a b, (ha : a < M.length) → (hb : b < M.length) → a ≠ b → ∀ g, M[a].2.ownBlock = some g → M[b].2.ownBlock ≠ some g := by
    intro a b ha hb hne g e1 e2
    have h' := List.pairwise_iff_getElem.1 h
    rcases Nat.lt_or_gt_of_ne hne with hlt | hlt
    · exact h' a b ha hb hlt g e1 e2
    · exact h' b a hb ha hlt g e2 e1
  have hfar : ∀ a, (ha : a < M.length) → a ≠ i → ∀ g, M[a].2.ownBlock = some g → p.2.ownBlock ≠ some g := by
    intro a ha hne g e1 e2
    rcases hat with e | ⟨x, e, hx⟩
    · rw [e] at e2; exact hs a i ha hi hne g e1 e2
    · rw [e] at e2
      injection e2 with e2
      have := (World.ownsRow.lt (hb _ (List.getElem_mem ha)) g e1).2
      omega
  refine List.pairwise_iff_getElem.2 fun a b ha hb' hlt g e1 e2 => ?_
  rw [List.length_set] at ha hb'
  rw [List.getElem_set] at e1 e2
  by_cases ea : i = a
  · rw [if_pos ea] at e1
    rw [if_neg (by omega)] at e2
    exact hfar b hb' (by omega) g e2 e1
  · rw [if_neg ea] at e1
    by_cases eb : i = b
    · rw [if_pos eb] at e2
      exact hfar a ha (by omega) g e1 e2
    · rw [if_neg eb] at e2
      exact hs a b ha hb' (by omega) g e1 e2
theorem Sep.at_ {M : List FB} (h : Sep M) {a b : Nat} (ha : a < M.length) (hb : b < M.length) (hne : a ≠ b) : M[a].2.ownBlock = none ∨ M[a].2.ownBlock ≠ M[b].2.ownBlock := by
  have h' := List.pairwise_iff_getElem.1 h
  cases hq : M[a].2.ownBlock with
  | none => exact .inl rfl
  | some x =>
    refine .inr fun e => ?_
    rcases Nat.lt_or_gt_of_ne hne with hlt | hlt
    · exact h' a b ha hb hlt x hq e.symm
    · exact h' b a hb ha hlt x e.symm hq
/-- One draft written anew. -/
theorem DR.put {w w4 w5 : World} {B g n c i : Nat} {M : List FB} {p : FB} (h : DR w B (.slice (some ⟨g, 0, none⟩) n c) M) (hi : i < M.length) (hk : Kp M[i].2.ownBlock w w4) (hb : BO w4 B p)
    (hat : p.2.ownBlock = M[i].2.ownBlock ∨ ∃ x, p.2.ownBlock = some x ∧ w.heap.size ≤ x) (h5 : Kp (some g) w4 w5) (hr : RO w5 B (.slice (some ⟨g, 0, none⟩) n c) (M.set i p)) : DR w5 B (.slice (some ⟨g, 0, none⟩) n c) (M.set i p) := by
  have hrow4 : RO w4 B (.slice (some ⟨g, 0, none⟩) n c) M := own_kp h.row hk (.inr fun e => by
    cases hq : M[i].2.ownBlock with
    | none => rw [hq] at e; cases e
    | some x => exact own_types (h.bytes _ (List.getElem_mem hi)) h.row (by decide) hq (by rw [e, hq]))
  have hne : ∀ q : FB, BO w4 B q → q.2.ownBlock ≠ some g := fun q hq => own_types hrow4 hq (by decide) rfl
  refine ⟨hr, fun q hq => ?_, h.sep.set hi h.bytes hat⟩
  have hq4 : BO w4 B q := by
    obtain ⟨j, hj, rfl⟩ := List.mem_iff_getElem.1 hq
    rw [List.length_set] at hj
    rw [List.getElem_set]
    split
    · exact hb
    · rename_i hji
      exact own_kp (h.bytes _ (List.getElem_mem hj)) hk (h.sep.at_ hj hi (fun e => hji e.symm))
  exact own_kp hq4 h5 (.inr (hne q hq4))
/-- What one operation answers: the drafts behind it, or the error's number. -/
def RetDraft (L : List F) (o : O) (B : Nat) (v : Value) (M : List FB) (w : World) (e : Ending) (w' : World) : Prop :=
  Below B w w' ∧ (((step L o).1 = 0 ∧ ∃ v' M', e = .returned (.tuple #[v', .int .i64 0]) ∧ files M' = (step L o).2 ∧ DR w' B v' M') ∨
    ((step L o).1 ≠ 0 ∧ e = .returned (.tuple #[.slice none 0 0, .int .i64 ((step L o).1 : Int)]) ∧ DR w' B v M))
end Go.Proofs.Ytonlplfjiaejhaa
