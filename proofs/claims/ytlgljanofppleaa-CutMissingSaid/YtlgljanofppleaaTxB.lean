/- Transactions as they are read; walks: when two are the same: the program's and the document's Same. -/
import Derived.Test.YtlgljanofppleaaTxA
import Derived.Test.YtlgljanofppleaaVecE
namespace Go.Proofs.Ytlgljanofppleaa
open Go.RowKit

structure TX where
  origin : Int
  seq : Nat
  stamp : Nat
  deps : Nat → Nat
  ops : List TO
/-- The cells of a transaction whose list is the slice v. -/
abbrev tcs (t : TX) (v : Value) : Array Value := #[.int .i64 t.origin, .int .u64 (t.seq : Int), .int .u64 (t.stamp : Int), .int .u64 (t.deps 0 : Int), .int .u64 (t.deps 1 : Int), .int .u64 (t.deps 2 : Int), .int .u64 (t.deps 3 : Int), .int .u64 (t.deps 4 : Int), .int .u64 (t.deps 5 : Int), .int .u64 (t.deps 6 : Int), .int .u64 (t.deps 7 : Int), v]
def sameT (a b : TX) : Bool := (a.origin == b.origin) && (a.seq == b.seq && (a.stamp == b.stamp && (eqB a.deps b.deps && tsameB a.ops b.ops)))
theorem sameT_self (a : TX) : sameT a a = true := by
  unfold sameT
  rw [tsameB_yes rfl, eqB_self]
  simp
theorem int_bne_t {a b : Int} (h : ¬ a = b) : (a != b) = true := bne_iff_ne.2 h
theorem int_bne_f {a b : Int} (h : a = b) : (a != b) = false := by subst h; simp
theorem int_beq_t {a b : Int} (h : a = b) : (a == b) = true := by subst h; simp
theorem int_beq_f {a b : Int} (h : ¬ a = b) : (a == b) = false := by simpa using h
theorem nat_bne_t {a b : Nat} (h : ¬ a = b) : ((a : Int) != (b : Int)) = true := int_bne_t (by omega)
theorem nat_bne_f {a b : Nat} (h : a = b) : ((a : Int) != (b : Int)) = false := int_bne_f (by omega)
theorem nat_beq_t {a b : Nat} (h : a = b) : ((a : Int) == (b : Int)) = true := int_beq_t (by omega)
theorem nat_beq_f {a b : Nat} (h : ¬ a = b) : ((a : Int) == (b : Int)) = false := int_beq_f (by omega)

set_option maxRecDepth 100000 in
set_option maxHeartbeats 2000000 in
theorem same8_any (a b : TX) (va vb : Value) (w : World) (ha : TOV w va a.ops) (hb : TOV w vb b.ops) :
    Calls Try.prog 46 #[.agg (tcs a va), .agg (tcs b vb)] w fun e w' => e = .returned (.bool (sameT a b)) ∧ Gr w w' := by
  have HE := Lib.hid (fun (w1 : World) (g : Gr w w1) => eqOps_any va vb a.ops b.ops w1 (ha.gr g) (hb.gr g))
  have hv := fun w => equal_v a.deps b.deps w
  obtain ⟨r, hr⟩ : ∃ r, r = tsameB a.ops b.ops := ⟨_, rfl⟩
  obtain ⟨d, hd⟩ : ∃ d, d = eqB a.deps b.deps := ⟨_, rfl⟩
  have hF : sameT a b = ((a.origin == b.origin) && (a.seq == b.seq && (a.stamp == b.stamp && (d && r)))) := by unfold sameT; rw [hr, hd]
  rw [← hr] at HE
  rw [← hd] at hv
  have HF := Lib.hid hF
  clear ha hb hr hd hF
  by_cases h1 : a.origin = b.origin
  · have t1 := int_beq_t h1
    by_cases h2 : a.seq = b.seq
    · have t2 := nat_beq_t h2
      by_cases h3 : a.stamp = b.stamp
      · have t3 := nat_beq_t h3
        have hF : sameT a b = (d && r) := by rw [HF.out]; simp [h1, h2, h3]
        have HF := Lib.hid hF
        clear h1 h2 h3 hF
        rcases d with _ | _
        · go_enter Try.func46, Try.ntmps46
          go_wp2_with fail
          go_ret
          exact ⟨by rw [HF.out]; rfl, ((Gr.refl _).alloc _).alloc _⟩
        · go_enter Try.func46, Try.ntmps46
          go_wp2_with fail
          refine (HE.out _ (((Gr.refl _).alloc _).alloc _)).mono ?_
          rintro e w1 ⟨rfl, g1⟩
          go_wp2_with fail
          go_ret
          exact ⟨by rw [HF.out]; rfl, (((Gr.refl _).alloc _).alloc _).trans g1⟩
      · have t3 := nat_beq_f h3
        have hF : sameT a b = false := by rw [HF.out]; simp [h1, h2, h3]
        have HF := Lib.hid hF
        clear h1 h2 h3 hF
        go_enter Try.func46, Try.ntmps46
        go_wp2_with fail
        go_ret
        exact ⟨by rw [HF.out]; rfl, ((Gr.refl _).alloc _).alloc _⟩
    · have t2 := nat_beq_f h2
      have hF : sameT a b = false := by rw [HF.out]; simp [h1, h2]
      have HF := Lib.hid hF
      clear h1 h2 hF
      go_enter Try.func46, Try.ntmps46
      go_wp2_with fail
      go_ret
      exact ⟨by rw [HF.out]; rfl, ((Gr.refl _).alloc _).alloc _⟩
  · have t1 := int_beq_f h1
    have hF : sameT a b = false := by rw [HF.out]; simp [h1]
    have HF := Lib.hid hF
    clear h1 hF
    go_enter Try.func46, Try.ntmps46
    go_wp2_with fail
    go_ret
    exact ⟨by rw [HF.out]; rfl, ((Gr.refl _).alloc _).alloc _⟩
/-- The two boxes of a call's two transactions. -/
theorem boxesT (a b : TX) (va vb : Value) (w : World) : ∃ W, W = (w.alloc (.cells (tcs a va) 44)).alloc (.cells (tcs b vb) 44) ∧ Gr w W ∧
    W.cell? ⟨w.heap.size, 11, none⟩ = some va ∧ W.cell? ⟨w.heap.size + 1, 11, none⟩ = some vb := by
  refine ⟨_, rfl, (Gr.refl w |>.alloc _ |>.alloc _), ?_, ?_⟩
  · rw [World.cell?_alloc_past _ _ _ (by simp), World.cell?_alloc_at _ _ _ _ rfl]
    rfl
  · rw [World.cell?_alloc_at _ _ _ _ (by simp)]
    rfl
set_option maxRecDepth 100000 in
set_option maxHeartbeats 2000000 in
theorem rsame8_any (a b : TX) (va vb : Value) (w : World) (ha : TOV w va a.ops) (hb : TOV w vb b.ops) :
    Calls Try.prog 55 #[.agg (tcs a va), .agg (tcs b vb)] w fun e w' => e = .returned (.bool (sameT a b)) ∧ Gr w w' := by
  obtain ⟨A, ca, rfl, la1, ⟨la2, _⟩, la3⟩ := ha
  obtain ⟨B, cb, rfl, lb1, ⟨lb2, _⟩, lb3⟩ := hb
  unfold maxLen at la2 lb2
  obtain ⟨n, hn⟩ : ∃ n, n = a.ops.length := ⟨_, rfl⟩
  obtain ⟨m, hm⟩ : ∃ n, n = b.ops.length := ⟨_, rfl⟩
  rw [← hn] at la1 ⊢
  rw [← hm] at lb1 ⊢
  have HA := Lib.hid la3
  have HB := Lib.hid lb3
  have hv := fun w => equal_v a.deps b.deps w
  have hF : sameT a b = ((a.origin == b.origin) && (a.seq == b.seq && (a.stamp == b.stamp && (eqB a.deps b.deps && tsameB a.ops b.ops)))) := rfl
  obtain ⟨d, hd⟩ : ∃ d, d = eqB a.deps b.deps := ⟨_, rfl⟩
  rw [← hd] at hv hF
  have HF := Lib.hid hF
  have HN := Lib.hid hn
  have HM := Lib.hid hm
  clear la3 lb3 hn hm hd hF
  by_cases h1 : a.origin = b.origin
  case neg =>
    have t1 := int_bne_t h1
    have hF : sameT a b = false := by rw [HF.out]; simp [h1]
    have HF := Lib.hid hF
    clear h1 hF
    go_enter Try.func55, Try.ntmps55
    go_wp2_with fail
    go_ret
    exact ⟨by rw [HF.out]; rfl, ((Gr.refl _).alloc _).alloc _⟩
  have t1 := int_bne_f h1
  by_cases h2 : a.seq = b.seq
  case neg =>
    have t2 := nat_bne_t h2
    have hF : sameT a b = false := by rw [HF.out]; simp [h2]
    have HF := Lib.hid hF
    clear h1 h2 hF
    go_enter Try.func55, Try.ntmps55
    go_wp2_with fail
    go_ret
    exact ⟨by rw [HF.out]; rfl, ((Gr.refl _).alloc _).alloc _⟩
  have t2 := nat_bne_f h2
  by_cases h3 : a.stamp = b.stamp
  case neg =>
    have t3 := nat_bne_t h3
    have hF : sameT a b = false := by rw [HF.out]; simp [h3]
    have HF := Lib.hid hF
    clear h1 h2 h3 hF
    go_enter Try.func55, Try.ntmps55
    go_wp2_with fail
    go_ret
    exact ⟨by rw [HF.out]; rfl, ((Gr.refl _).alloc _).alloc _⟩
  have t3 := nat_bne_f h3
  rcases d with _ | _
  case false =>
    have hF : sameT a b = false := by rw [HF.out]; simp
    have HF := Lib.hid hF
    clear h1 h2 h3 hF
    go_enter Try.func55, Try.ntmps55
    go_wp2_with fail
    go_ret
    exact ⟨by rw [HF.out]; rfl, ((Gr.refl _).alloc _).alloc _⟩
  have hF : sameT a b = tsameB a.ops b.ops := by rw [HF.out]; simp [h1, h2, h3]
  have HF := Lib.hid hF
  clear h1 h2 h3 hF
  by_cases hl : n = m
  case neg =>
    have t4 := nat_bne_t hl
    have hF : sameT a b = false := by rw [HF.out]; exact tsameB_no (fun h => hl (by rw [HN.out, HM.out, h]))
    have HF := Lib.hid hF
    clear hl hF
    go_enter Try.func55, Try.ntmps55
    go_wp2_with fail
    go_ret
    exact ⟨by rw [HF.out]; rfl, ((Gr.refl _).alloc _).alloc _⟩
  have t4 := nat_bne_f hl
  have HL := Lib.hid hl
  rw [← hl] at lb1 t4 ⊢
  clear hl
  obtain ⟨W, hW, hg, hcA, hcB⟩ := boxesT a b (.slice A n ca) (.slice B n cb) w
  have HG0 := Lib.hid hg
  have HCA := Lib.hid hcA
  have HCB := Lib.hid hcB
  clear hg hcA hcB
  go_enter Try.func55, Try.ntmps55
  go_wp2_with fail
  rw [← hW]
  clear hW
  go_loopw [5] (fun i wr => TSameRel a.ops b.ops W i wr) (fun i _ => n - (intOf i).toNat)
  case atStart => exact ⟨0, Nat.zero_le _, rfl, Gr.refl _, fun j _ _ h => absurd h (Nat.not_lt_zero _)⟩
  case round =>
    obtain ⟨k, hk, rfl, hgr, hkk⟩ := hrel
    rw [← HN.out] at hk
    have HK := Lib.hid hkk
    have hbA := hgr.cell HCA.out
    have hbB := hgr.cell HCB.out
    clear hkk
    by_cases hlt : k < n
    · have hkA : k < a.ops.length := by rw [← HN.out]; exact hlt
      have hkB : k < b.ops.length := by rw [← HM.out, ← HL.out]; exact hlt
      obtain ⟨p, off, rfl, ha⟩ := HA.out k hkA
      obtain ⟨p', off', rfl, hb⟩ := HB.out k hkB
      obtain ⟨f, hf⟩ : ∃ f, f = a.ops[k] := ⟨_, rfl⟩
      obtain ⟨g, hg⟩ : ∃ g, g = b.ops[k] := ⟨_, rfl⟩
      rw [← hf] at ha
      rw [← hg] at hb
      obtain ⟨a0, a1, a2, a3⟩ := (ha.gr HG0.out).gr hgr
      obtain ⟨c0, c1, c2, c3⟩ := (hb.gr HG0.out).gr hgr
      have HG := Lib.hid hgr
      clear ha hb hgr
      have he := fun w => equal_to f g w
      unfold tovs at he
      rcases hq : eqTO f g with _ | _
      · have hne : a.ops ≠ b.ops := fun h => by
          have : f = g := by rw [hf, hg]; simp [h]
          rw [eqTO_iff.2 this] at hq
          cases hq
        have HF := Lib.hid (show sameT a b = false by rw [HF.out]; exact tsameB_no hne)
        rw [hq] at he
        clear hq hf hg hne hkA hkB
        go_wp2_with fail
        go_quiet (fail)
        go_wp2
        go_ret
        exact ⟨by rw [HF.out]; rfl, (HG0.out.trans HG.out).drewN _⟩
      · have hst : ∀ j (h1 : j < a.ops.length) (h2 : j < b.ops.length), j < k + 1 → a.ops[j] = b.ops[j] := by
          intro j h1 h2 hj
          by_cases e : j = k
          · subst e; rw [← hf, ← hg]; exact eqTO_iff.1 hq
          · exact HK.out j h1 h2 (by omega)
        have HS := Lib.hid hst
        rw [hq] at he
        clear hq hf hg hst hkA hkB
        go_wp2_with fail
        go_quiet (fail)
        go_wp2
        go_roundw
        case rel => exact ⟨k + 1, by rw [← HN.out]; omega, by go_num, HG.out.drewN _, HS.out⟩
        case measure => simp [intOf]; omega
    · have hall : a.ops = b.ops := List.ext_getElem (by rw [← HN.out, ← HM.out, HL.out]) fun j h1 h2 => HK.out j h1 h2 (by rw [← HN.out] at h1; omega)
      have HF := Lib.hid (show sameT a b = true by rw [HF.out]; exact tsameB_yes hall)
      clear hall
      go_wp2_with fail
      go_ret
      exact ⟨by rw [HF.out]; rfl, HG0.out.trans hgr⟩
end Go.Proofs.Ytlgljanofppleaa
