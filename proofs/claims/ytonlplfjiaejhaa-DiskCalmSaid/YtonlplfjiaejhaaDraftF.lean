/- Walks: a draft more: what is written into a row. -/
import Derived.Test.YtonlplfjiaejhaaDraftE
import Derived.Lib.Overlaps
import Derived.Lib.AppendZerosOnto
import Derived.Lib.JoinLaws
namespace Go.Proofs.Ytonlplfjiaejhaa
open Go.RowKit

/-- These cells written over xs from o on. -/
def over (xs : List Value) (o : Nat) (cs : List Value) : List Value := xs.take o ++ cs ++ xs.drop (o + cs.length)
theorem over_cons (xs : List Value) (o : Nat) (u : Value) (r : List Value) (h : o < xs.length) : over (xs.set o u) (o + 1) r = over xs o (u :: r) := by
  unfold over
  rw [List.set_eq_take_append_cons_drop, if_pos h]
  have ht : (xs.take o).length = o := by rw [List.length_take]; omega
  have e1 : (List.take o xs ++ u :: List.drop (o + 1) xs).take (o + 1) = List.take o xs ++ [u] := by
    rw [List.take_append, ht, List.take_of_length_le (by omega), show o + 1 - o = 1 by omega]
    rfl
  have e2 : (List.take o xs ++ u :: List.drop (o + 1) xs).drop (o + 1 + r.length) = xs.drop (o + (r.length + 1)) := by
    rw [List.drop_append, ht, List.drop_of_length_le (by omega), show o + 1 + r.length - o = r.length + 1 by omega, List.drop_succ_cons, List.drop_drop, List.nil_append]
    congr 1
    omega
  rw [e1, e2, List.length_cons]
  simp
theorem own_setCells {B : Nat} {t : TypeId} {size g n c : Nat} : ∀ (cs : List Value) (o : Nat) (w : World) (xs : List Value), w.ownsRow B t size (.slice (some ⟨g, 0, none⟩) n c) n xs → o + cs.length ≤ xs.length →
    (w.setCells g o cs).ownsRow B t size (.slice (some ⟨g, 0, none⟩) n c) n (over xs o cs) ∧ Kp (some g) w (w.setCells g o cs)
  | [], o, w, xs, h, _ => by
    refine ⟨?_, Kp.refl _ _⟩
    unfold over
    rw [List.length_nil, Nat.add_zero, List.append_nil, List.take_append_drop]
    exact h
  | u :: r, o, w, xs, h, hl => by
    rw [List.length_cons] at hl
    obtain ⟨h1, h2⟩ := h.stored o u
    obtain ⟨h3, h4⟩ := own_setCells r (o + 1) _ _ h1 (by rw [List.length_set]; omega)
    rw [over_cons xs o u r (by omega)] at h3
    exact ⟨h3, Kp.trans h2 h4⟩
/-- Room for one element more: it is there already. -/
theorem own_more {w : World} {B : Nat} {t : TypeId} {size g n c : Nat} {xs : List Value} (h : w.ownsRow B t size (.slice (some ⟨g, 0, none⟩) n c) n xs) (hc : n + 1 ≤ c) : ∃ ys, ys.length = size ∧ w.ownsRow B t size (.slice (some ⟨g, 0, none⟩) (n + 1) c) (n + 1) (xs ++ ys) := by
  have hl := h.1
  rcases h.2 with ⟨hh, _⟩ | ⟨g', cap, cur, hh, hb, hg, hn, hm, hcs, ht⟩
  · cases hh
  · injection hh with e1 e2 e3
    injection e1 with e1
    injection e1 with e1
    subst e1 e3
    have hmul : (n + 1) * size ≤ c * size := Nat.mul_le_mul_right _ hc
    rw [Nat.add_mul, Nat.one_mul] at hmul
    have hs : cur.toList.length = c * size := by rw [Array.length_toList]; exact hcs
    refine ⟨(cur.toList.drop (n * size)).take size, by rw [List.length_take, List.length_drop, hs]; omega, ?_, .inr ⟨g, c, cur, rfl, hb, hg, hc, hm, hcs, ?_⟩⟩
    · rw [List.length_append, hl, List.length_take, List.length_drop, hs, Nat.add_mul, Nat.one_mul]; omega
    · rw [Nat.add_mul, Nat.one_mul, List.take_add, ht]
theorem run_copy_draft (w : World) (ty : TypeId) (b o dLen dCap : Nat) (a : Addr) (sLen sCap : Nat) (cs : List Value) (hn : cs.length = Nat.min sLen dLen * 3)
    (hsrc : ∀ j v, cs[j]? = some v → w.cell? (a.add j) = some v) (hc : ∀ j, j < cs.length → (w.cell? ⟨b, o + j, none⟩).isSome = true) (hf : ∀ j, j < cs.length → w.frozen? ⟨b, o + j, none⟩ = false) (h1 : ∀ v ∈ cs, v.oneCell' = true) :
    ∃ u, (Builtin.copy_ #[49, 49] ty #[.slice (some ⟨b, o, none⟩) dLen dCap, .slice (some a) sLen sCap]).run Try.prog w = .ok u (w.setCells b o cs) := by
  obtain ⟨i0, hi, hz0, hz1, hz2⟩ := info_parts infoDraft
  have hl := run_loadCells_list (P := Try.prog) w a cs hsrc
  have hst := run_storeCells_cells (P := Try.prog) b o cs 0 w (by simpa using hc) (by simpa using hf) h1
  refine ⟨goInt (Nat.min sLen dLen), ?_⟩
  simp [Builtin.copy_, run_underlying Try.underlying49, Builtin.lenOf, Builtin.firstCells, sizeOf, typeInfo, hi, hz1, ← hn, hl, hst]
/-- A draft of an empty file. -/
def nz (nm : ByteArray) : FB := (newF nm, .slice none 0 0)
theorem dcells_insert (M : List FB) (i : Nat) (p : FB) (h : i ≤ M.length) : dcells (M.insertIdx i p) = (dcells M).take (i * 3) ++ (dcell p ++ (dcells M).drop (i * 3)) := by
  have e : M.insertIdx i p = M.take i ++ (p :: M.drop i) := by
    induction M generalizing i with
    | nil => obtain rfl : i = 0 := by simpa using h
             rfl
    | cons a M ih =>
      cases i with
      | zero => rfl
      | succ i => rw [List.insertIdx_succ_cons, ih i (by simpa using h)]; rfl
  rw [e]
  unfold dcells
  rw [rows_take dcell 3 dcell_len, rows_drop dcell 3 dcell_len, List.flatMap_append, List.flatMap_cons]
theorem nz_one (nm : ByteArray) : ∀ u ∈ dcell (nz nm), u.oneCell' = true := by
  intro u hu
  unfold dcell nz at hu
  simp only [List.mem_cons, List.not_mem_nil, or_false] at hu
  rcases hu with rfl | rfl | rfl <;> rfl
theorem own_shape {w : World} {B : Nat} {t : TypeId} {size g n c : Nat} {xs : List Value} (h : w.ownsRow B t size (.slice (some ⟨g, 0, none⟩) n c) n xs) : w.shape? g = some (t, c * size) := by
  rcases h.2 with ⟨hh, _⟩ | ⟨g', cap, cur, hh, hb, hg, hn, hm, hcs, ht⟩
  · cases hh
  · injection hh with e1 e2 e3
    injection e1 with e1
    injection e1 with e1
    subst e1 e3
    unfold World.shape?
    rw [hg, ← hcs]
/-- A call's answer: one draft more. -/
def RetIns (M : List FB) (B i : Nat) (nm : ByteArray) (v : Value) (w : World) (e : Ending) (w' : World) : Prop :=
  ∃ v', e = .returned v' ∧ RO w' B v' (M.insertIdx i (nz nm)) ∧ (v'.ownBlock = v.ownBlock ∨ ∃ g, v'.ownBlock = some g ∧ w.heap.size ≤ g) ∧ Kp v.ownBlock w w'

set_option maxRecDepth 100000 in
set_option maxHeartbeats 4000000 in
theorem insert_end (v : Value) (M : List FB) (B vb Bv : Nat) (nm : ByteArray) (w : World) (hv : DR w B v M) (hB : B ≤ w.heap.size) (hlen : (M.length + 1) * 48 ≤ 140737488355328)
    (hx : w.ownsRow Bv 62 3 (.slice (some ⟨vb, 0, none⟩) 1 1) 1 (dcell (nz nm))) :
    Calls Try.prog 39 #[v, .int .i64 (M.length : Int), .slice (some ⟨vb, 0, none⟩) 1 1] w fun e w' => RetIns M B M.length nm v w e w' := by
  obtain ⟨i0, hi, hz0, hz1, hz2⟩ := info_parts infoDraft
  have HR : Hid (w.ownsRow B 62 3 v M.length (dcells M)) := Lib.hid hv.row
  obtain ⟨A, c, rfl, hnc, hc63⟩ := own_form hv.row
  have HX := Lib.hid (own_sl hx)
  clear hv hx
  have hN : dcells M ++ dcell (nz nm) = dcells (M.insertIdx M.length (nz nm)) := by
    rw [dcells_insert M M.length _ (Nat.le_refl _), List.take_of_length_le (by rw [dcells_len]; exact Nat.le_refl _), List.drop_of_length_le (by rw [dcells_len]; exact Nat.le_refl _), List.append_nil]
  have HN := Lib.hid hN
  have HL : Hid ((M.insertIdx M.length (nz nm)).length = M.length + 1) := Lib.hid (by rw [List.length_insertIdx, if_pos (Nat.le_refl _)])
  clear hN
  obtain ⟨n, hn⟩ : ∃ n, n = M.length := ⟨_, rfl⟩
  rw [← hn] at HR HN HL hlen hnc ⊢
  clear hn
  have hsf : ∃ u, ∀ W, (Instr.slice 49 (.slice A n c) (some (.int .i64 (n : Int))) none none).run Try.prog W = .ok u W := ⟨_, dslice_from n c n (Nat.le_refl _) A⟩
  obtain ⟨u1, hsf⟩ := hsf
  have h63 : n + 1 ≤ maxLen := by unfold maxLen; omega
  go_enter Try.func39, Try.ntmps39
  go_wp2_with (at_builtin; refine wpList_append_sl _ rfl _ _ 49 rfl B 62 i0 _ 3 48 Try.underlying49 hi hz0 hz1 hz2 rfl (by decide) (.slice A n c) n _ rfl HR.out (.slice (some ⟨vb, 0, none⟩) 1 1) 1 _ rfl HX.out (nz_one nm) h63 hlen hB (n + 1) rfl ?_; intro A' c' w' hown' hgr hat)
  go_ret
  refine ⟨_, rfl, ?_, ?_, hgr⟩
  · show World.ownsRow _ _ _ _ _ _ _
    rw [HL.out, ← HN.out]
    exact hown'
  · rcases hat with h | h
    · exact .inl h
    · exact .inr ⟨_, h, Nat.le_refl _⟩
end Go.Proofs.Ytonlplfjiaejhaa
