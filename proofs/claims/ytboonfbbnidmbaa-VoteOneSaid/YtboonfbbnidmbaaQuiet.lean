/- A region that draws its order, whose operations read cells of a class of worlds and whose calls leave the class: one walk of the text's order. -/
import Derived.Deep.QuietTactic
import Derived.Deep.Light
import Derived.Deep.RegionHeld3
import Derived.WalkKit
import Derived.Lib.Hide
namespace Go.Proofs.Ytboonfbbnidmbaa

/-- The walk of the text's order, shut: else each step looks through all that follow. -/
structure QW (P : Program) (ops : Array Oper) (C : World → Prop) (Q : Act → Prop) (l : List Oper) (a : Act) : Prop where
  out : wpQuiet P ops C Q l a

section
variable {P : Program} {ops : Array Oper} {C : World → Prop} {Q : Act → Prop} {o : Oper} {rest : List Oper} {a : Act}
theorem qTake (hw : Region.wanted o (yielded ops a.tmps) = true) (h : ∃ v, (∀ w, C w → (execOp a.eval o).run P w = .ok (.value v) w) ∧ QW P ops C Q rest (a.put o.dst v)) : QW P ops C Q (o :: rest) a := by
  obtain ⟨v, h1, h2⟩ := h
  refine ⟨wpQuiet_step fun K hK => ?_⟩
  rw [if_pos hw]
  refine ⟨v, fun w hC => ?_, hK _ h2.out⟩
  unfold Oper.quietAt
  rw [h1 w hC]
  exact ⟨rfl, rfl⟩
theorem qSkip (hw : Region.wanted o (yielded ops a.tmps) = false) (h : QW P ops C Q rest (a.put o.dst undef)) : QW P ops C Q (o :: rest) a := by
  refine ⟨wpQuiet_step fun K hK => ?_⟩
  rw [if_neg (by rw [hw]; exact Bool.false_ne_true)]
  exact hK _ h.out
theorem qCall (hw : Region.wanted o (yielded ops a.tmps) = true) (h : ∃ v, (∃ f args, (∀ w, (execOp a.eval o).run P w = .ok (.enter f args) w) ∧ ∀ w, C w → Calls P f args w fun e w'' => e = .returned v ∧ C w'') ∧ QW P ops C Q rest (a.put o.dst v)) : QW P ops C Q (o :: rest) a := by
  obtain ⟨v, ⟨f, args, h1, h3⟩, h2⟩ := h
  refine ⟨wpQuiet_step fun K hK => ?_⟩
  rw [if_pos hw]
  refine ⟨v, fun w hC => ?_, hK _ h2.out⟩
  unfold Oper.quietAt
  rw [h1 w]
  exact ⟨rfl, h3 w hC⟩
theorem qNil (h : Q a) : QW P ops C Q [] a := ⟨wpQuiet_nil h⟩
/-- The region, its operations written out. -/
theorem qRegion {id : Nat} {Q : Exit → Act → World → Prop} {a : Act} {w : World} {l : List Oper} (C : World → Prop) (hm : P.follows .mixedOrders = true) (hB : Region.lexB .any l.toArray = true) (hC : C w.drew)
    (h : QW P l.toArray C (fun a' => ∀ w', C w' → Q .normal a' w') l a) : (Code.region id l.toArray true).wp P Q a w :=
  wp_region_quiet (C := C) hm hB hC (by simpa using h.out)
end

section
variable {P : Program} {md : Region.Mode} {ops : Array Oper} {Q : Exit → Act → World → Prop} {S : World → Prop}
/-- A region by hand: an operation that yields its value is taken first. -/
theorem hTake {i : Nat} {oi : Oper} {fuel : Nat} {listed : Array Bool} {a : Act} {w : World} (hi : ops[i]? = some oi)
    (hs : Region.noSelect ops = true) (hf : Region.free md ops listed i = true) (hr : (Region.ready md ops listed).contains i = true)
    (hw : Region.wanted oi (yielded ops a.tmps) = true) (hS : S w)
    (h : ∃ v, (∀ c a w, Q (.panic c) (a.put oi.dst v) w → Q (.panic c) a w) ∧ (∀ w, S w → (execOp a.eval oi).run P w = .ok (.value v) w) ∧ wpAnyH P md ops Q S fuel (listed.setIfInBounds i true) (a.put oi.dst v) w) : wpAnyH P md ops Q S (fuel + 1) listed a w := by
  obtain ⟨v, hQ, hv, h⟩ := h
  exact wpAnyH_take hi hs hf hr hQ (Or.inl ⟨hw, hv⟩) hS h
end
end Go.Proofs.Ytboonfbbnidmbaa
