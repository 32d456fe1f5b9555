/- Walks: a crash, the program's. -/
import Derived.Test.YtmkcgnljankmdaaDoorDiskG
namespace Go.Proofs.YtmkcgnljankmdaaDoor
open Go.RowKit

/-- The slice value v reads as the numbers K. -/
def IV (w : World) (v : Value) (K : List Int) : Prop :=
  ∃ A c, v = .slice A K.length c ∧ K.length ≤ c ∧ c ≤ maxLen ∧ ∀ j (hj : j < K.length), ∃ b off, A = some ⟨b, off, none⟩ ∧ w.cell? ⟨b, off + j, none⟩ = some (.int .i64 K[j]) ∧ -9223372036854775808 ≤ K[j] ∧ K[j] ≤ 9223372036854775807
theorem IV.gr {w w' : World} {v : Value} {K : List Int} (h : IV w v K) (g : Gr w w') : IV w' v K := by
  obtain ⟨A, c, hv, h1, h2, h3⟩ := h
  refine ⟨A, c, hv, h1, h2, fun j hj => ?_⟩
  obtain ⟨b, off, ha, hc, hb⟩ := h3 j hj
  exact ⟨b, off, ha, g.cell hc, hb⟩

/-- The first k files behind the crash, the others ahead of it. -/
def mix (L : List F) (K : List Int) (k : Nat) : List F := L.mapIdx fun i f => if i < k then crashAt f K i else f
theorem mix_len (L : List F) (K : List Int) (k : Nat) : (mix L K k).length = L.length := by unfold mix; rw [List.length_mapIdx]
theorem mix_get {L : List F} {K : List Int} {k j : Nat} (h : j < (mix L K k).length) (h2 : j < L.length) : (mix L K k)[j] = if j < k then crashAt L[j] K j else L[j] := by
  show (List.mapIdx (fun i f => if i < k then crashAt f K i else f) L)[j]'(by rw [List.length_mapIdx]; exact h2) = _
  rw [List.getElem_mapIdx]
theorem mix_zero (L : List F) (K : List Int) : mix L K 0 = L := by
  apply List.ext_getElem
  · rw [mix_len]
  · intro j h1 h2
    rw [mix_get h1 h2, if_neg (by omega)]
theorem mix_all (L : List F) (K : List Int) {k : Nat} (h : L.length ≤ k) : mix L K k = crash L K := by
  apply List.ext_getElem
  · rw [mix_len, crash_len]
  · intro j h1 h2
    have h3 : j < L.length := by rw [mix_len] at h1; exact h1
    rw [mix_get h1 h3, if_pos (by omega), crash_at h3]
theorem mix_at {L : List F} {K : List Int} {k : Nat} (h : k < L.length) : (mix L K k)[k]'(by rw [mix_len]; exact h) = L[k] := by
  rw [mix_get _ h, if_neg (by omega)]
theorem mix_succ {L : List F} {K : List Int} {k : Nat} (h : k < L.length) : mix L K (k + 1) = (mix L K k).set k (crashAt L[k] K k) := by
  apply List.ext_getElem
  · rw [mix_len, List.length_set, mix_len]
  · intro j h1 h2
    have h3 : j < L.length := by rw [mix_len] at h1; exact h1
    rw [List.getElem_set, mix_get h1 h3, mix_get _ h3]
    by_cases e : k = j
    · subst e
      rw [if_pos rfl, if_pos (by omega)]
    · rw [if_neg e]
      by_cases hj : j < k
      · rw [if_pos hj, if_pos (by omega)]
      · rw [if_neg hj, if_neg (by omega)]

def CrashRel (L : List F) (K : List Int) (v1 : Value) (w : World) (i : Value) (wr : World) : Prop :=
  ∃ k : Nat, k ≤ L.length ∧ i = .int .i64 k ∧ FO wr (w.heap.size + 1 + 1) v1 (mix L K k) ∧ Gr w wr ∧ w.heap.size + 1 < wr.heap.size ∧ wr.cell? ⟨w.heap.size, 0, none⟩ = some v1 ∧ wr.cell? ⟨w.heap.size + 1, 0, none⟩ = some (.slice none 0 0) ∧ wr.frozen? ⟨w.heap.size + 1, 0, none⟩ = false

theorem append_ext0 (x y : ByteArray) : x ++ y.extract 0 0 = x := by
  apply ByteArray.ext
  rw [ByteArray.data_append]
  simp
theorem CrashRel.drew {L : List F} {K : List Int} {v1 : Value} {w wr : World} {i : Value} (h : CrashRel L K v1 w i wr) : CrashRel L K v1 w i wr.drew := by
  obtain ⟨k, h1, h2, h3, h4, h5, h6, h7, h8⟩ := h
  exact ⟨k, h1, h2, h3.gr (Gr.refl _).drew, h4.drew, h5, h6, h7, h8⟩
theorem crashRel_step {L : List F} {K : List Int} {g n c k a : Nat} {f : F} {w wr : World} (hkL : k < L.length) (hf : f = L[k]) (ha : a = amount f K k)
    (hown : FO wr (w.heap.size + 1 + 1) (.slice (some ⟨g, 0, none⟩) n c) (mix L K k)) (hgr : Gr w wr) (hB : w.heap.size + 1 < wr.heap.size)
    (hb0 : wr.cell? ⟨w.heap.size, 0, none⟩ = some (.slice (some ⟨g, 0, none⟩) n c)) (hb1 : wr.cell? ⟨w.heap.size + 1, 0, none⟩ = some (.slice none 0 0)) (hfb : wr.frozen? ⟨w.heap.size + 1, 0, none⟩ = false) :
    CrashRel L K (.slice (some ⟨g, 0, none⟩) n c) w (.int .i64 ((k : Int) + 1)) ((wr.setCell ⟨g, k * 3 + 1, none⟩ (.string (f.kept ++ f.loose.extract 0 a))).setCell ⟨g, k * 3 + 2, none⟩ (.string ⟨#[]⟩)) := by
  have hBg := hown.len.2.2.2.1
  have hm : k < (mix L K k).length := by rw [mix_len]; exact hkL
  have hp := hown.put2 hm (f.kept ++ f.loose.extract 0 a) ⟨#[]⟩
  rw [mix_at hkL] at hp
  have he : (⟨L[k].name, f.kept ++ f.loose.extract 0 a, ⟨#[]⟩⟩ : F) = crashAt L[k] K k := by
    unfold crashAt
    rw [ha, hf]
  rw [he, ← mix_succ hkL] at hp
  refine ⟨k + 1, by omega, by go_num, hp, Below.setCell (Below.setCell hgr (p := ⟨g, k * 3 + 1, none⟩) (by show w.heap.size ≤ g; omega) _) (p := ⟨g, k * 3 + 2, none⟩) (by show w.heap.size ≤ g; omega) _, by simpa [World.setCell] using hB,
    setCell_there (setCell_there hb0 (by omega)) (by omega), setCell_there (setCell_there hb1 (by omega)) (by omega), by rw [World.frozen?_setCell, World.frozen?_setCell]; exact hfb⟩

end Go.Proofs.YtmkcgnljankmdaaDoor
