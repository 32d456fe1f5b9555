/- Rules in memory: one, a slice of them, a row that the call owns. -/
import Derived.Test.YtioldhhnkeakcaaDoorQTail
import Derived.Test.YtioldhhnkeakcaaDoorObj
import Derived.Lib.SmallJoins
namespace Go.Proofs.YtioldhhnkeakcaaDoor
open Go.RowKit Go.Joins
set_option linter.unusedSimpArgs false
set_option linter.unusedVariables false

theorem heap_allocR (w : World) (c : Array Value) (t : TypeId) : (w.alloc (.cells c t)).heap[w.heap.size]? = some (.cells c t (0, 0)) := by simp only [World.alloc, Array.getElem?_push]; simp
structure RU where
  k : Int
  key : ByteArray
  other : ByteArray
  min : Int
  start : Int
abbrev ruv (r : RU) : Array Value := #[.int .i64 r.k, .string r.key, .string r.other, .int .i64 r.min, .int .i64 r.start]
/-- A rule lies in these five cells. -/
def RCell (w : World) (b off : Nat) (r : RU) : Prop := w.cell? ⟨b, off, none⟩ = some (.int .i64 r.k) ∧ w.cell? ⟨b, off + 1, none⟩ = some (.string r.key) ∧ w.cell? ⟨b, off + 2, none⟩ = some (.string r.other) ∧ w.cell? ⟨b, off + 3, none⟩ = some (.int .i64 r.min) ∧ w.cell? ⟨b, off + 4, none⟩ = some (.int .i64 r.start)
theorem RCell.gr {w w' : World} {b off : Nat} {r : RU} (h : RCell w b off r) (g : Gr w w') : RCell w' b off r := ⟨g.cell h.1, g.cell h.2.1, g.cell h.2.2.1, g.cell h.2.2.2.1, g.cell h.2.2.2.2⟩
/-- A slice of rules. -/
def UV (w : World) (v : Value) (L : List RU) : Prop :=
  ∃ A c, v = .slice A L.length c ∧ L.length ≤ c ∧ (c ≤ maxLen ∧ (A = Option.none → c = 0)) ∧ ∀ j (hj : j < L.length), ∃ b off, A = some ⟨b, off, none⟩ ∧ RCell w b (off + j * 5) L[j]
theorem UV.gr {w w' : World} {v : Value} {L : List RU} (h : UV w v L) (g : Gr w w') : UV w' v L := by
  obtain ⟨A, c, hv, h1, h2, h3⟩ := h
  refine ⟨A, c, hv, h1, h2, fun j hj => ?_⟩
  obtain ⟨b, off, ha, hc⟩ := h3 j hj
  exact ⟨b, off, ha, hc.gr g⟩
theorem rubox (w : World) (r : RU) : ∃ W, W = w.alloc (.cells (ruv r) 39) ∧ Gr w W ∧ RCell W w.heap.size 0 r := by
  refine ⟨_, rfl, (Gr.refl w).alloc _, ?_⟩
  have h := heap_allocR w (ruv r) 39
  exact ⟨by rw [cell_of_block h]; rfl, by rw [cell_of_block h]; rfl, by rw [cell_of_block h]; rfl, by rw [cell_of_block h]; rfl, by rw [cell_of_block h]; rfl⟩
def ucell (r : RU) : List Value := [.int .i64 r.k, .string r.key, .string r.other, .int .i64 r.min, .int .i64 r.start]
theorem ucell_len (r : RU) : (ucell r).length = 5 := rfl
def ucells (L : List RU) : List Value := L.flatMap ucell
theorem ucells_len (L : List RU) : (ucells L).length = L.length * 5 := rows_len ucell 5 ucell_len L
theorem ucells_one (L : List RU) : ∀ u ∈ ucells L, u.oneCell' = true := by
  intro u hu
  obtain ⟨f, _, hf⟩ := List.mem_flatMap.1 hu
  unfold ucell at hf
  simp only [List.mem_cons, List.not_mem_nil, or_false] at hf
  rcases hf with rfl | rfl | rfl | rfl | rfl <;> rfl
theorem uv_form {w : World} {v : Value} {L : List RU} (h : UV w v L) : ∃ A c, v = .slice A L.length c := by
  obtain ⟨A, c, hv, _⟩ := h
  exact ⟨A, c, hv⟩
theorem UV.sl {w : World} {v : Value} {L : List RU} (h : UV w v L) : SL w 5 v L.length (ucells L) := by
  obtain ⟨A, c, hv, h1, h2, h3⟩ := h
  refine ⟨A, c, hv, h1, h2, ucells_len L, fun j u hj => ?_⟩
  obtain ⟨q, r, hq, hr, rfl, hu⟩ := rows_of ucell 5 ucell_len (by decide) L j u hj
  obtain ⟨b, off, ha, c0, c1, c2, c3, c4⟩ := h3 q hq
  refine ⟨b, off, ha, ?_⟩
  rw [← Nat.add_assoc]
  match r, hr with
  | 0, _ => injection hu with hu; rw [← hu]; exact c0
  | 1, _ => injection hu with hu; rw [← hu]; exact c1
  | 2, _ => injection hu with hu; rw [← hu]; exact c2
  | 3, _ => injection hu with hu; rw [← hu]; exact c3
  | 4, _ => injection hu with hu; rw [← hu]; exact c4
theorem UV.of_sl {w : World} {v : Value} {L : List RU} {n : Nat} (h : SL w 5 v n (ucells L)) : UV w v L := by
  obtain ⟨A, c, hv, h1, ⟨h2, h2'⟩, h3, h4⟩ := h
  have hn : L.length = n := by
    rw [ucells_len] at h3
    omega
  subst hn
  refine ⟨A, c, hv, h1, ⟨h2, h2'⟩, fun j hj => ?_⟩
  have at_ : ∀ r, r < 5 → (ucells L)[j * 5 + r]? = (ucell L[j])[r]? := fun r hr => rows_at ucell 5 ucell_len L j r hj hr
  obtain ⟨b, off, ha, c0⟩ := h4 (j * 5 + 0) _ (at_ 0 (by decide))
  have more : ∀ r u, (ucells L)[j * 5 + r]? = some u → w.cell? ⟨b, off + j * 5 + r, none⟩ = some u := fun r u hu => by
    obtain ⟨b', off', ha', c1⟩ := h4 (j * 5 + r) u hu
    rw [ha] at ha'
    injection ha' with ha'
    injection ha' with e1 e2
    subst e1 e2
    rw [Nat.add_assoc]
    exact c1
  exact ⟨b, off, ha, c0, more 1 _ (at_ 1 (by decide)), more 2 _ (at_ 2 (by decide)), more 3 _ (at_ 3 (by decide)), more 4 _ (at_ 4 (by decide))⟩
/-- The call owns this row of rules. -/
def UO (w : World) (B : Nat) (v : Value) (L : List RU) : Prop := w.ownsRow B 39 5 v L.length (ucells L)
theorem UO.gr {w w' : World} {B : Nat} {v : Value} {L : List RU} (h : UO w B v L) (g : Gr w w') : UO w' B v L := own_gr h g
theorem UO.le {w : World} {B B' : Nat} {v : Value} {L : List RU} (h : UO w B v L) (hb : B' ≤ B) : UO w B' v L := own_le h hb
theorem UO.nil (w : World) (B : Nat) : UO w B (.slice none 0 0) [] := World.ownsRow_nil w B _ _
theorem UO.uv {w : World} {B : Nat} {v : Value} {L : List RU} (h : UO w B v L) : UV w v L := UV.of_sl (own_sl h)
theorem infoRule : (Tryd.prog.info? 39).map (fun i => (i.zero, i.size, i.bytes)) = some (some (.agg #[.int .i64 0, .string ⟨#[]⟩, .string ⟨#[]⟩, .int .i64 0, .int .i64 0]), 5, 56) := by kernel_rfl
theorem wpList_push_u {W w0 : World} {ops : Array Oper} {rest : List Oper} {o : Oper} {a : Act} {Q : Exit → Act → World → Prop} (hw : Region.wanted o (yielded ops a.tmps) = true) (s x : Operand)
    (ho : o.op = .call { callee := .builtin .append, args := #[s, x], argTypes := #[22, 22] })
    (v vx : Value) (L M : List RU) (n m : Nat) (hn : n = L.length) (hm : m = M.length) (hs : a.eval s = v) (hown : UO W w0.heap.size v L) (hx : a.eval x = vx) (hxv : UV W vx M) (hlen : (n + m) * 56 ≤ 140737488355328) (hg : Gr w0 W)
    (h : ∀ A' c' w', UO w' w0.heap.size (.slice A' (n + m) c') (L ++ M) → Gr w0 w' → W.grownBy w' v.ownBlock → wpList Tryd.prog ops Q rest (a.put o.dst (.slice A' (n + m) c')) w') :
    wpList Tryd.prog ops Q (o :: rest) a W := by
  subst hn hm
  obtain ⟨i0, hi, hz0, hz1, hz2⟩ := info_parts infoRule
  have hsz := hg.size
  refine Go.BigFrame.wpList_want hw (fun K hK => ?_)
  refine wp_append_sl W s x 22 ho w0.heap.size 39 i0 _ 5 56 Tryd.underlying22 hi hz0 hz1 hz2 rfl (by decide) v L.length (ucells L) hs hown vx M.length (ucells M) hx
    hxv.sl (ucells_one M) (by unfold maxLen; omega) hlen hsz (L.length + M.length) rfl ?_
  intro A' c' w' hown' hgr _
  refine hK _ _ (h A' c' w' ?_ (gr_of_grown hg hown hgr hsz) hgr)
  unfold UO
  rw [List.length_append]
  unfold ucells at hown' ⊢
  rw [List.flatMap_append]
  exact hown'
theorem uv_one (w : World) (r : RU) (b : Nat) (hb : b = w.heap.size) : UV (w.alloc (.cells (ruv r) 39)) (.slice (some ⟨b, 0, none⟩) 1 1) [r] := by
  subst hb
  refine ⟨_, 1, rfl, Nat.le_refl _, ⟨by decide, fun h => by cases h⟩, fun j hj => ⟨w.heap.size, 0, rfl, ?_⟩⟩
  have hj0 : j = 0 := by simpa using hj
  subst hj0
  refine ⟨?_, ?_, ?_, ?_, ?_⟩ <;> (rw [World.cell?_alloc_mark]; rfl)

end Go.Proofs.YtioldhhnkeakcaaDoor
