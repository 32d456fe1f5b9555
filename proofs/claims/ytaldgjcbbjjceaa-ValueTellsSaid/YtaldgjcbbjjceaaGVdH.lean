/- What the document's Value keeps while it walks; what it answers over the document's order. -/
import Derived.Test.YtaldgjcbbjjceaaGVdG
import Derived.Test.YtaldgjcbbjjceaaGRL
import Derived.Test.YtaldgjcbbjjceaaG09
import Derived.Test.YtaldgjcbbjjceaaG29
namespace Go.Proofs.Ytaldgjcbbjjceaa
open Go.RowKit Go.Joins
set_option linter.unusedSimpArgs false
set_option linter.unusedVariables false

/-- The answer's box holds these elements and this flag, and the two rows of places read on. -/
structure ST (w0 : World) (Q : Nat) (s4 : Value) (L4 : List (TX × Nat)) (s5 : Value) (L5 : List (TX × Nat)) (E : List ByteArray) (on : Bool) (w : World) : Prop where
  ex : ∃ A m c, QBox w Q 0 A m c on ∧ SV w (.slice A m c) E
  p4 : PLR w s4 L4
  p5 : PLR w s5 L5
  gr : Gr w0 w
section
variable {w0 w w' : World} {Q : Nat} {s4 s5 : Value} {L4 L5 : List (TX × Nat)} {E : List ByteArray} {on : Bool}
theorem ST.grow (h : ST w0 Q s4 L4 s5 L5 E on w) (g : Gr w w') : ST w0 Q s4 L4 s5 L5 E on w' := by
  obtain ⟨A, m, c, h1, h2⟩ := h.ex
  exact ⟨⟨A, m, c, h1.gr g, h2.gr g⟩, h.p4.gr g, h.p5.gr g, h.gr.trans g⟩
theorem ST.put (h : ST w0 Q s4 L4 s5 L5 E on w) (hq : w0.heap.size ≤ Q) {A : Option Addr} {m c : Nat} {E' : List ByteArray} (hv : SV w (.slice A m c) E') : ST w0 Q s4 L4 s5 L5 E' on (w.setCell ⟨Q, 1, none⟩ (.slice A m c)) := by
  obtain ⟨A0, m0, c0, h1, h2⟩ := h.ex
  have k : Kp (some Q) w (w.setCell ⟨Q, 1, none⟩ (.slice A m c)) := (Kp.refl (some Q) w).set (.inr rfl) _ _
  exact ⟨⟨A, m, c, h1.set1 A m c, hv.kq h1 k⟩, h.p4.kq h1 k, h.p5.kq h1 k, h.gr.setCell hq _⟩
theorem ST.flag (h : ST w0 Q s4 L4 s5 L5 E on w) (hq : w0.heap.size ≤ Q) (on' : Bool) : ST w0 Q s4 L4 s5 L5 E on' (w.setCell ⟨Q, 2, none⟩ (.bool on')) := by
  obtain ⟨A0, m0, c0, h1, h2⟩ := h.ex
  have k : Kp (some Q) w (w.setCell ⟨Q, 2, none⟩ (.bool on')) := (Kp.refl (some Q) w).set (.inr rfl) _ _
  exact ⟨⟨A0, m0, c0, h1.set2 on', h2.kq h1 k⟩, h.p4.kq h1 k, h.p5.kq h1 k, h.gr.setCell hq _⟩
end
theorem sv_form {w : World} {v : Value} {E : List ByteArray} (h : SV w v E) : ∃ A c, v = .slice A E.length c := by
  obtain ⟨A, c, hv, _⟩ := h
  exact ⟨A, c, hv⟩
/-- What the document answers over its order of the transactions. -/
def rvR (kind start : Int) (O : List TX) (key : ByteArray) : VR :=
  if kind = 1 ∨ kind = 2 then ⟨wrap64 (start + wrap64 (sumAll (plL key 1 O) - sumAll (plL key 2 O))), [], false⟩
  else if kind = 3 ∨ kind = 8 then ⟨0, foldT (fun x => !ansB x (plL key 5 O)) (plL key 4 O) (plL key 4 O).length, false⟩
  else if kind = 4 then ⟨0, foldT (fun x => firB (elP x) (plL key 4 O) (plL key 5 O)) (plL key 4 O) (plL key 4 O).length, false⟩
  else if kind = 5 then ⟨0, (match (plL key 6 O)[(plL key 6 O).length - 1]? with | some x => [elP x] | none => []), false⟩
  else if kind = 6 then ⟨0, foldT (fun x => !covB x (plL key 6 O)) (plL key 6 O) (plL key 6 O).length, false⟩
  else ⟨0, [], (!decide (start = 0) && decide ((plL key 8 O).length = 0)) || (plL key 7 O).any (fun x => !ansB x (plL key 8 O))⟩
def RetR (r : VR) (k : Nat) (w : World) (e : Ending) (w' : World) : Prop := ∃ ve, e = .returned (.tuple #[.agg #[.int .i64 r.n, ve, .bool r.on], .int .i64 (k : Int)]) ∧ SV w' ve r.e ∧ Gr w w'
theorem qbox_new (w : World) : ∃ W, W = w.alloc (.cells #[.int .i64 0, .slice none 0 0, .bool false] 32) ∧ Gr w W ∧ QBox W w.heap.size 0 none 0 0 false := by
  refine ⟨_, rfl, (Gr.refl w).alloc _, ?_⟩
  show _ = _
  exact heap_alloc _ _ _
theorem ok_len {l : LG} {v : Nat → Nat} (hl : OkL l) : (ordR l v).length ≤ 65536 := by
  rw [ordR_len]
  have h : ∀ i, i < 8 → mt v (sizeV l) i ≤ 1024 := fun i hi => Nat.le_trans (Nat.min_le_right _ _) (hl.len i hi)
  unfold sumV
  simp only [sumTo]
  have h0 := h 0 (by decide); have h1 := h 1 (by decide); have h2 := h 2 (by decide); have h3 := h 3 (by decide)
  have h4 := h 4 (by decide); have h5 := h 5 (by decide); have h6 := h 6 (by decide); have h7 := h 7 (by decide)
  omega
theorem ok_ops {l : LG} {v : Nat → Nat} (hl : OkL l) : ∀ t ∈ ordR l v, t.ops.length ≤ 8 := fun t ht => by
  obtain ⟨i, k, hi, -, hk⟩ := ordR_mem.1 ht
  exact (hl.tx i k t hi hk).1.2.2.1
end Go.Proofs.Ytaldgjcbbjjceaa
