/- Walks: slices.Chunk of a slice of strings by fours, and the function that it answers. -/
import Derived.RangeFuncNested
import Derived.RangeFuncBound
import Derived.RangeFuncCalls
import Derived.RangeFuncLeaves
import Derived.RangeFuncBox
import Derived.Shelf.Abstract
import Derived.Shelf.RegionOpen
import Derived.Sort.QuietIn
import Derived.WalkKit
import Derived.OwnWalkIn
import Derived.TacticsInMore
import Derived.LoopNIn
import Derived.LoopIn
import Derived.Test.YteagmdnpajalgaaTxM
namespace Go.Proofs.Yteagmdnpajalgaa
open Go.RowKit Go.Shelf
attribute [local go_sem] Oper.semAt_some

set_option maxRecDepth 100000 in
set_option maxHeartbeats 1000000 in
theorem chunk_any (A : Option Addr) (len cap : Nat) (w : World) :
    Calls Try.prog 38 #[.slice A len cap, .int .i64 4] w fun e w' => e = .returned (.func (.func 47) #[] #[.pointer (some ⟨w.heap.size, 0, none⟩), .pointer (some ⟨w.heap.size + 1, 0, none⟩)]) ∧ w' = (w.alloc (.cells #[.slice A len cap] 51)).alloc (.cells #[.int .i64 4] 3) := by
  go_enter Try.func38, Try.ntmps38
  go_wp2_with fail
  go_ret
  exact ⟨rfl, rfl⟩

/-- The first k of N. -/
def firstN (N k : Nat) : List (Fin N) := (List.finRange N).take k
theorem firstN_len {N k : Nat} (h : k ≤ N) : (firstN N k).length = k := by unfold firstN; rw [List.length_take, List.length_finRange]; omega
theorem firstN_succ {N k : Nat} (h : k < N) : firstN N (k + 1) = firstN N k ++ [⟨k, h⟩] := by
  unfold firstN
  rw [List.take_succ_eq_append_getElem (by rw [List.length_finRange]; exact h), List.getElem_finRange]
  rfl
theorem firstN_all (N : Nat) : firstN N N = List.finRange N := List.take_of_length_le (by rw [List.length_finRange]; exact Nat.le_refl _)
/-- The two blocks lie as they lay. -/
def TwoKept (B0 B1 : Nat) (W W' : World) : Prop := W'.heap[B0]? = W.heap[B0]? ∧ W'.heap[B1]? = W.heap[B1]?
theorem TwoKept.trans {B0 B1 : Nat} {A B C : World} (h : TwoKept B0 B1 A B) (k : TwoKept B0 B1 B C) : TwoKept B0 B1 A C := ⟨k.1.trans h.1, k.2.trans h.2⟩
theorem TwoKept.cell0 {B0 B1 : Nat} {A B : World} (h : TwoKept B0 B1 A B) : B.cell? ⟨B0, 0, none⟩ = A.cell? ⟨B0, 0, none⟩ := by unfold World.cell?; simp only [h.1]
theorem TwoKept.cell1 {B0 B1 : Nat} {A B : World} (h : TwoKept B0 B1 A B) : B.cell? ⟨B1, 0, none⟩ = A.cell? ⟨B1, 0, none⟩ := by unfold World.cell?; simp only [h.2]
/-- A fourth slice of a slice of strings. -/
def fourAt (b off : Nat) (k : Nat) : Value := .slice (some ⟨b, off + 4 * k, none⟩) 4 4
set_option maxRecDepth 100000 in
set_option maxHeartbeats 2000000 in
theorem chunk1_in (n : Nat) (hn : 1 ≤ n) (l B0 B1 b off cap N : Nat) (hN : 4 * N ≤ cap) (hcap : cap ≤ 9223372036854775807) (J Jx : List (Fin N) → World → Prop) (hJd : ∀ s w m, J s w → J s (w.drewN m))
    (hY : ∀ pre x W, J pre W → pre.length < N → YieldAt Fence.wide (n - 1) Try.prog l #[fourAt b off x.1] W fun e W' =>
      (e = .returned (.bool true) ∧ J (pre ++ [x]) W' ∧ TwoKept B0 B1 W W') ∨ (e = .returned (.bool false) ∧ Jx (pre ++ [x]) W'))
    (W : World) (hB0 : W.cell? ⟨B0, 0, none⟩ = some (.slice (some ⟨b, off, none⟩) (4 * N) cap)) (hB1 : W.cell? ⟨B1, 0, none⟩ = some (.int .i64 4)) (h0 : J [] W) :
    CallsIn Fence.wide n Try.prog 47 #[.func (.yield l) #[] #[], .pointer (some ⟨B0, 0, none⟩), .pointer (some ⟨B1, 0, none⟩)] W fun e W' => (∃ v, e = .returned v) ∧
      ((∃ xs, xs = List.finRange N ∧ J xs W') ∨ (∃ pre, (∃ k, k ≤ N ∧ pre = firstN N k) ∧ Jx pre W')) := by
  refine callsIn_of_wp Try.func47 rfl trivial ?_ rfl
  simp only [Try.ntmps47, List.size_toArray, List.length_cons, List.length_nil, Nat.reduceAdd, Nat.reduceSub, Array.replicate_succ, Array.replicate_zero, List.push_toArray, List.append_toArray, List.nil_append, List.cons_append]
  gi_wp2
  gi_loopw [4] (fun i wr => ∃ k : Nat, k ≤ N ∧ i = .int .i64 ((4 * k : Nat) : Int) ∧ J (firstN N k) wr ∧ TwoKept B0 B1 W wr) (fun i _ => 4 * N - (intOf i).toNat)
  case atStart => exact ⟨0, Nat.zero_le _, rfl, h0, rfl, rfl⟩
  case round =>
    obtain ⟨k, hk, rfl, hJs, hnx⟩ := hrel
    have q0 := hnx.cell0.trans hB0
    have q1 := hnx.cell1.trans hB1
    by_cases hlt : k < N
    · have HJ := Lib.hid hJs
      have hk4 : 4 ≤ 4 * N - 4 * k := by omega
      clear hJs
      gi_wp2
      gi_quiet (fail)
      rw [show min (4 : Int) ((4 * N - 4 * k : Nat) : Int) = 4 by omega]
      obtain ⟨fn, tmps, assign, body, hy, hR⟩ := hY _ ⟨k, hlt⟩ (wr.drewN nq) (hJd _ _ _ HJ.out) (by rw [firstN_len hk]; exact hlt)
      have hdr : TwoKept B0 B1 wr (wr.drewN nq) := ⟨rfl, rfl⟩
      unfold fourAt at hy
      have HNX := Lib.hid (hnx.trans hdr)
      have r0 := HNX.out.cell0.trans hB0
      have r1 := HNX.out.cell1.trans hB1
      have HR := Lib.hid hR
      clear q0 q1 hdr hnx hR
      generalize wr.drewN nq = w2 at *
      gi_wp2
      refine HR.out.mono ?_
      rintro e W3 (⟨rfl, hJ3, hk3⟩ | ⟨rfl, hJx3⟩)
      · have s0 := hk3.cell0.trans r0
        have s1 := hk3.cell1.trans r1
        have HN3 := Lib.hid (HNX.out.trans hk3)
        have HJ3 := Lib.hid hJ3
        clear r0 r1 hy hk3 hJ3
        gi_wp2
        go_roundw
        case rel => exact ⟨k + 1, by omega, by go_num, by rw [firstN_succ hlt]; exact HJ3.out, HN3.out⟩
        case measure => simp [intOf]; omega
      · have HJ3 := Lib.hid hJx3
        clear hJx3 r0 r1 hy
        gi_wp2
        refine bodyPost_ret (results_none rfl _ _ _) rfl ?_
        exact ⟨⟨_, rfl⟩, .inr ⟨_, ⟨k + 1, by omega, (firstN_succ hlt).symm⟩, HJ3.out⟩⟩
    · obtain rfl : k = N := by omega
      gi_wp2
      go_end0
      exact ⟨⟨_, rfl⟩, .inl ⟨_, rfl, by rw [← firstN_all]; exact hJs⟩⟩
theorem chunk_stops (n : Nat) (hn : 1 ≤ n) (B0 B1 b off cap N : Nat) (hN : 4 * N ≤ cap) (hcap : cap ≤ 9223372036854775807) (w : World) (h0 : B0 < w.heap.size) (h1 : B1 < w.heap.size)
    (hB0 : w.cell? ⟨B0, 0, none⟩ = some (.slice (some ⟨b, off, none⟩) (4 * N) cap)) (hB1 : w.cell? ⟨B1, 0, none⟩ = some (.int .i64 4)) :
    SeqStopsK Fence.wide n Try.prog 47 #[.pointer (some ⟨B0, 0, none⟩), .pointer (some ⟨B1, 0, none⟩)] (fun x : Fin N => #[fourAt b off x.1]) (TwoKept B0 B1) (fun xs => xs = List.finRange N) (fun _ => True) N w := fun l J Jx W hW hJ _ hY hj => by
  refine (chunk1_in n hn l B0 B1 b off cap N hN hcap J Jx (fun s w m hs => hJ s w _ none hs ⟨rfl, rfl, rfl, Nat.le_refl _, fun _ _ _ => rfl⟩ (fun r e => by cases e)) hY W ((hW.cell (p := ⟨B0, 0, none⟩) h0).trans hB0) ((hW.cell (p := ⟨B1, 0, none⟩) h1).trans hB1) hj).mono ?_
  rintro e W' ⟨he, ⟨xs, rfl, hx⟩ | ⟨pre, _, hx⟩⟩
  · exact ⟨he, .inl ⟨_, rfl, hx⟩⟩
  · exact ⟨he, .inr ⟨_, trivial, hx⟩⟩
end Go.Proofs.Yteagmdnpajalgaa
