/- Walks: the laws' own awake. -/
import Derived.Test.YthbkbpodiebhgaaCutG
import Derived.Test.YthbkbpodiebhgaaCutC
namespace Go.Proofs.Ythbkbpodiebhgaa
open Go.RowKit Go.Joins

def op9 : TO := ⟨1, ⟨#[97]⟩, ⟨#[]⟩, 5⟩
def t91 : TX := ⟨0, 1, 1, fun _ => 0, [op9]⟩
def e91 : Nat → Nat | 0 => 1 | _ => 0
def t92 : TX := ⟨1, 1, 2, e91, [op9]⟩
def l91 : LG := addL nilL 0 t91
def l92 : LG := addL l91 1 t92
def c91 : Nat → Nat | 1 => 1 | _ => 0
def c92 : Nat → Nat | 0 => 1 | 1 => 1 | _ => 0
theorem add91 : addR nilL t91 = (0, l91) := by kernel_rfl
theorem add92 : addR l91 t92 = (0, l92) := by kernel_rfl
theorem clo91 : closedB l92 c91 = false := by kernel_rfl
theorem clo92 : closedB l92 c92 = true := by kernel_rfl
theorem fit91 : op9.key.size ≤ 281474976710656 ∧ op9.elem.size ≤ 281474976710656 := by decide
theorem fitT {t : TX} (h : t.ops = [op9]) : t.ops.length * 48 ≤ 140737488355328 ∧ ∀ o ∈ t.ops, o.key.size ≤ 281474976710656 ∧ o.elem.size ≤ 281474976710656 := by
  rw [h]
  refine ⟨by decide, fun o ho => ?_⟩
  simp only [List.mem_singleton] at ho
  rw [ho]
  exact fit91
theorem fitC_nil : FitC nilL := ⟨fun i _ => Nat.zero_le _, fun i t _ ht => by cases ht⟩
theorem fitC_91 : FitC l91 := fitC_add (t := t91) fitC_nil (by decide) (fitT rfl)
theorem putL8 {w : World} {b : Nat} {u : Nat → S3} (h : LBox w b u) (c : Nat → S3) : LBox (putCells w b 0 [.slice (c 0).a (c 0).n (c 0).c, .slice (c 1).a (c 1).n (c 1).c, .slice (c 2).a (c 2).n (c 2).c, .slice (c 3).a (c 3).n (c 3).c, .slice (c 4).a (c 4).n (c 4).c, .slice (c 5).a (c 5).n (c 5).c, .slice (c 6).a (c 6).n (c 6).c, .slice (c 7).a (c 7).n (c 7).c]) b c := by
  have h8 := (((((((h.set (k := 0) (by decide) (c 0).a (c 0).n (c 0).c).set (k := 1) (by decide) (c 1).a (c 1).n (c 1).c).set (k := 2) (by decide) (c 2).a (c 2).n (c 2).c).set (k := 3) (by decide) (c 3).a (c 3).n (c 3).c).set (k := 4) (by decide) (c 4).a (c 4).n (c 4).c).set (k := 5) (by decide) (c 5).a (c 5).n (c 5).c).set (k := 6) (by decide) (c 6).a (c 6).n (c 6).c).set (k := 7) (by decide) (c 7).a (c 7).n (c 7).c
  exact ⟨h8.box⟩
theorem optov (w : World) : ∃ W, W = w.alloc (.cells #[.int .i64 1, .string ⟨#[97]⟩, .string ⟨#[]⟩, .int .i64 5] 41) ∧ Gr w W ∧ TOV W (.slice (some ⟨w.heap.size, 0, none⟩) 1 1) [op9] := by
  refine ⟨_, rfl, (Gr.refl w).alloc _, some ⟨w.heap.size, 0, none⟩, 1, rfl, Nat.le_refl _, ⟨by decide, fun e => by cases e⟩, fun j hj => ?_⟩
  have : j = 0 := by simp at hj; omega
  subst this
  refine ⟨w.heap.size, 0, rfl, ?_, ?_, ?_, ?_⟩ <;> (rw [World.cell?_alloc_at _ _ _ _ rfl]; rfl)

end Go.Proofs.Ythbkbpodiebhgaa
