/- Walks: the laws' comparing of two lists of strings. -/
import Derived.Test.YthmnffiiondggaaDoorSV
import Derived.BigQuiet
import Derived.Deep.QuietTactic
import Derived.WalkSpells
import Derived.WalkLawsBesides
namespace Go.Proofs.YthmnffiiondggaaDoor
open Go.RowKit

theorem strEq {x y : ByteArray} (h : x.toList = y.toList) : x = y := by
  rw [ByteArray.toList_eq, ByteArray.toList_eq] at h
  exact ByteArray.ext (Array.toList_inj.1 h)
def SameRel (La Lb : List ByteArray) (w : World) (i : Value) (wr : World) : Prop :=
  ∃ k m : Nat, k ≤ La.length ∧ i = .int .i64 k ∧ wr = w.drewN m ∧ La.take k = Lb.take k

set_option maxRecDepth 100000 in
theorem same_any (va vb : Value) (La Lb : List ByteArray) (w : World) (ha : SV w va La) (hb : SV w vb Lb) :
    Calls Tryd.prog 23 #[va, vb] w fun e w' => e = .returned (.bool (decide (La = Lb))) ∧ ∃ n, w' = w.drewN n := by
  obtain ⟨A, ca, rfl, la1, la2, la3⟩ := ha
  obtain ⟨B, cb, rfl, lb1, lb2, lb3⟩ := hb
  have la2 := la2.1
  have lb2 := lb2.1
  unfold maxLen at la2 lb2
  obtain ⟨n, hn⟩ : ∃ n, n = La.length := ⟨_, rfl⟩
  by_cases hl : La.length = Lb.length
  · have HL := Lib.hid hl
    rw [← hl, ← hn] at lb1
    rw [← hl, ← hn]
    rw [← hn] at la1
    have HN := Lib.hid hn
    have ht : ((n : Int) != (n : Int)) = false := by simp
    have HA := Lib.hid la3
    have HB := Lib.hid lb3
    clear hl hn la3 lb3
    go_enter Tryd.func23, Tryd.ntmps23
    go_wp2_with fail
    go_loopw [5] (fun i wr => SameRel La Lb w i wr) (fun i _ => n - (intOf i).toNat)
    case atStart => exact ⟨0, 0, Nat.zero_le _, rfl, rfl, rfl⟩
    case round =>
      obtain ⟨k, m, hk, rfl, rfl, hkk⟩ := hrel
      by_cases hlt : k < n
      · obtain ⟨b, off, rfl, hca⟩ := HA.out k (by rw [← HN.out]; exact hlt)
        obtain ⟨b', off', rfl, hcb⟩ := HB.out k (by rw [← HL.out, ← HN.out]; exact hlt)
        obtain ⟨x, hx⟩ : ∃ x, x = La[k]'(by rw [← HN.out]; exact hlt) := ⟨_, rfl⟩
        obtain ⟨y, hy⟩ : ∃ y, y = Lb[k]'(by rw [← HL.out, ← HN.out]; exact hlt) := ⟨_, rfl⟩
        rw [← hx] at hca
        rw [← hy] at hcb
        have HX := Lib.hid hx
        have HY := Lib.hid hy
        have HK := Lib.hid hkk
        have hne : x ≠ y → La ≠ Lb := fun hxy h => by subst h; exact hxy (HX.out.trans HY.out.symm)
        by_cases hxy : x = y
        · have hstep : La.take (k + 1) = Lb.take (k + 1) := by
            rw [List.take_succ_eq_append_getElem (by rw [← HN.out]; exact hlt), List.take_succ_eq_append_getElem (by rw [← HL.out, ← HN.out]; exact hlt), HK.out, ← HX.out, ← HY.out, hxy]
          have ht2 : (x.toList == y.toList) = true := by rw [hxy]; simp
          have HS := Lib.hid hstep
          clear hx hy hkk hxy hne hstep
          go_wp2_with fail
          go_quiet (fail)
          go_wp2
          go_roundw
          case rel => exact ⟨k + 1, _, by rw [← HN.out]; omega, by go_num, rfl, HS.out⟩
          case measure => simp [intOf]; omega
        · have ht2 : (x.toList == y.toList) = false := by
            rw [beq_eq_false_iff_ne]
            intro h
            exact hxy (strEq h)
          have HS := Lib.hid (decide_eq_false (hne hxy))
          clear hx hy hkk hxy hne
          go_wp2_with fail
          go_quiet (fail)
          go_wp2
          go_ret
          exact ⟨by rw [HS.out]; rfl, _, World.drewN_drewN _ _ _⟩
      · have hall : La = Lb := by
          have h1 : La.take k = La := List.take_of_length_le (by rw [← HN.out]; omega)
          have h2 : Lb.take k = Lb := List.take_of_length_le (by rw [← HL.out, ← HN.out]; omega)
          rw [← h1, hkk, h2]
        have HS := Lib.hid (decide_eq_true hall)
        clear hkk hall
        go_wp2
        go_ret
        exact ⟨by rw [HS.out]; rfl, _, rfl⟩
  · have HS := Lib.hid (decide_eq_false (p := La = Lb) (fun h => hl (by rw [h])))
    have ht : ((La.length : Int) != (Lb.length : Int)) = true := by rw [bne_iff_ne]; omega
    obtain ⟨m, hm⟩ : ∃ m, m = Lb.length := ⟨_, rfl⟩
    rw [← hm] at ht lb1 ⊢
    rw [← hn] at ht la1 ⊢
    clear hl hn hm la3 lb3
    go_enter Tryd.func23, Tryd.ntmps23
    go_wp2_with fail
    go_ret
    exact ⟨by rw [HS.out]; rfl, 0, rfl⟩
end Go.Proofs.YthmnffiiondggaaDoor
