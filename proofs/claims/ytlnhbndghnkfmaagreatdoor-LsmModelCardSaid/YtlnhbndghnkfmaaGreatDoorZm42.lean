/- Walks: Merge, the program's. Walks: slices.Chunk of a slice of strings by threes, and the function that it answers. -/
import Derived.Test.YtlnhbndghnkfmaaGreatDoorZm41
import Derived.Test.YtlnhbndghnkfmaaGreatDoorZm35
import Derived.RangeFuncNested
import Derived.RangeFuncBound
import Derived.RangeFuncCalls
import Derived.RangeFuncLeaves
import Derived.RangeFuncBox
import Derived.Shelf.Abstract
import Derived.Shelf.RegionOpen
import Derived.Sort.QuietIn
import Derived.WalkKit
import Derived.OwnWalkIn
import Derived.TacticsInMore
import Derived.LoopNIn
import Derived.LoopIn
import Derived.Test.YtlnhbndghnkfmaaGreatDoorZm38
namespace Go.Proofs.YtlnhbndghnkfmaaGreatDoor
open Go.RowKit

theorem tab_small {L : List PR} (h : okTab L) : ∀ p ∈ L, p.key.size ≤ 65536 ∧ p.val.size ≤ 65536 := by
  intro p hp
  obtain ⟨i, hi, rfl⟩ := List.mem_iff_getElem.1 hp
  have hb := h.2.2.1 (i / 8) (by unfold nCh; omega)
  have hm : L[i] ∈ chunk L (i / 8) := by
    have hl : i - 8 * (i / 8) < (chunk L (i / 8)).length := by rw [chunk_len]; omega
    have e : (chunk L (i / 8))[i - 8 * (i / 8)] = L[i] := by
      have h8 : 8 * (i / 8) + (i - 8 * (i / 8)) = i := by omega
      have h := List.getElem?_eq_getElem hl
      unfold chunk at h
      rw [List.getElem?_take, if_pos (by omega), List.getElem?_drop, h8, List.getElem?_eq_getElem hi] at h
      exact (Option.some.inj h).symm
    rw [← e]
    exact List.getElem_mem hl
  have hs := hb.1.2.1
  unfold kvs at hs
  exact ⟨hs _ (List.mem_flatMap.2 ⟨_, hm, List.mem_cons_self⟩), hs _ (List.mem_flatMap.2 ⟨_, hm, List.mem_cons_of_mem _ List.mem_cons_self⟩)⟩
theorem tabC_small (L : List F) (nm : ByteArray) : ∀ c ∈ tabC L nm, c.key.size ≤ 65536 ∧ c.val.size ≤ 65536 := by
  intro c hc
  unfold tabC inTab at hc
  obtain ⟨p, hp, rfl⟩ := List.mem_map.1 hc
  have hps : p.key.size ≤ 65536 ∧ p.val.size ≤ 65536 := by
    split at hp
    · cases h : allR (bytesF L nm).1.data.toList with
      | none => rw [h] at hp; cases hp
      | some M => rw [h] at hp; exact tab_small (allR_back h).1 p hp
    · cases hp
  unfold fromPR
  split
  · refine ⟨hps.1, ?_⟩
    show (p.val.extract 1 p.val.size).size ≤ _
    rw [ByteArray.size_extract]
    omega
  · exact ⟨hps.1, Nat.zero_le _⟩
theorem tabsC_small (L : List F) (T : List ByteArray) : ∀ c ∈ tabsC L T, c.key.size ≤ 65536 ∧ c.val.size ≤ 65536 := by
  intro c hc
  unfold tabsC at hc
  obtain ⟨t, _, h⟩ := List.mem_flatMap.1 hc
  exact tabC_small L t c h
/-- What a store's tables hold, without what is gone. -/
noncomputable def heldR (s : St) : List CR := (puts [] (tabsC s.files s.tabs)).filter fun c => !c.gone
theorem heldR_mem {s : St} {c : CR} (h : c ∈ heldR s) : c ∈ tabsC s.files s.tabs := by
  unfold heldR at h
  rcases puts_mem (List.mem_filter.1 h).1 with h | h
  · exact absurd h List.not_mem_nil
  · exact h
theorem heldR_len (s : St) : (heldR s).length ≤ s.tabs.length * 1024 := by
  unfold heldR
  have h1 := List.length_filter_le (fun c : CR => !c.gone) (puts [] (tabsC s.files s.tabs))
  have h2 := puts_len [] (tabsC s.files s.tabs)
  have h3 := tabsC_len s.files s.tabs
  simp only [List.length_nil] at h2
  omega
/-- Merge, in plain words. -/
noncomputable def mergeR (s : St) : St × List O × Nat :=
  if s.tabs.length < 2 then (s, [], 0)
  else if (keepR s.files s.marks (heldR s) cB).2 ≠ 0 then (st0, [], (keepR s.files s.marks (heldR s) cB).2)
  else (⟨keptF (keepR s.files s.marks (heldR s) cB).1.1 [nameW tabP s.marks] s.gen, s.mem, [nameW tabP s.marks], s.gen, s.marks + 1⟩, (keepR s.files s.marks (heldR s) cB).1.2 ++ strayO (keepR s.files s.marks (heldR s) cB).1.1 [nameW tabP s.marks] s.gen, 0)
set_option maxRecDepth 100000 in
set_option maxHeartbeats 4000000 in
theorem merge_m (B bd : Nat) (vF vM vT : Value) (s : St) (w : World) (hD : DRow w B bd vF vM vT (.slice none 0 0) s.files s.mem s.tabs s.gen s.marks [])
    (hs : StOk s) (hfl : s.files.length ≤ 1000000000000) (htl : s.tabs.length ≤ 100000) (hB : B ≤ w.heap.size) (hH : Halves w) :
    Calls Tryz.prog 87 #[.pointer (some ⟨bd, 0, none⟩)] w fun e w' => RetMeth B bd (mergeR s) w e w' := by
  have HT1 := Lib.hid (tablesOf_any vF vM vT s.gen s.marks s.files s.tabs w hD.files.fv hD.tabs.sv hs.fit hH htl)
  obtain ⟨AF, kF, rfl, -, -⟩ := own_form hD.files
  obtain ⟨AM, kM, rfl, -, -⟩ := own_form hD.mem
  obtain ⟨AT, kT, rfl, -, -⟩ := own_form hD.tabs
  obtain ⟨nF, hnF⟩ : ∃ n, n = s.files.length := ⟨_, rfl⟩
  obtain ⟨nM, hnM⟩ : ∃ n, n = s.mem.length := ⟨_, rfl⟩
  obtain ⟨nT, hnT⟩ : ∃ n, n = s.tabs.length := ⟨_, rfl⟩
  rw [← hnF, ← hnM, ← hnT] at hD HT1
  unfold stval at HT1
  obtain ⟨r, hr⟩ : ∃ r, r = mergeR s := ⟨_, rfl⟩
  rw [← hr]
  unfold mergeR at hr
  rw [← hnT] at hr
  have HR := Lib.hid hr
  have HD := Lib.hid hD
  have HB := Lib.hid hB
  have HH := Lib.hid hH
  have c0 := obj_cell hD.obj (i := 0) rfl
  have c1 := obj_cell hD.obj (i := 1) rfl
  have c2 := obj_cell hD.obj (i := 2) rfl
  have c3 := obj_cell hD.obj (i := 3) rfl
  have c4 := obj_cell hD.obj (i := 4) rfl
  have HOK := Lib.hid hs
  have HKF := Lib.hid (keepR_fit (m := s.marks) (l := heldR s) (letter := cB) hs.fit)
  have HKL := Lib.hid (keepR_len (m := s.marks) (l := heldR s) (letter := cB) hfl)
  have HLT := Lib.hid htl
  by_cases h2 : nT < 2
  · have t0 : ((nT : Int) < 2) := by omega
    have e := HR.out
    rw [if_pos h2] at e
    have HE := Lib.hid e
    clear e h2 hnM hnT hnF hr hD hB hH hs hfl htl
    go_enter Tryz.func87, Tryz.ntmps87
    go_wp2_with fail
    go_ret
    rw [HE.out]
    exact ⟨rfl, fun _ => ⟨_, _, _, _, HD.out⟩, Below.refl _ _⟩
  have t0 : ¬ ((nT : Int) < 2) := by omega
  have e := HR.out
  rw [if_neg h2] at e
  have HE := Lib.hid e
  have HNT := Lib.hid hnT
  have HNM := Lib.hid hnM
  clear e h2 hnF hnM hnT hr hD hB hH hs hfl htl
  go_enter Tryz.func87, Tryz.ntmps87
  go_wp2_with fail
  refine HT1.out.mono ?_
  rintro e w1 ⟨u1, rfl, hu1, g1⟩
  have HU1 := Lib.hid hu1
  have HG1 := Lib.hid g1
  have HS1 := Lib.hid (settled_any u1 _ w.heap.size w1 hu1 (by have := tabsC_len s.files s.tabs; have := HLT.out; omega))
  clear hu1 g1 HT1 c0 c1 c2 c3 c4
  obtain ⟨A1, n1, k1, rfl⟩ : ∃ A n k, u1 = .slice A n k := by
    obtain ⟨A, k, h, -, -⟩ := own_form HU1.out
    exact ⟨A, _, k, h⟩
  go_wp2_with fail
  refine HS1.out.mono ?_
  rintro e w2 ⟨u2, rfl, hu2, kp2, ob2⟩
  have HU2 := Lib.hid hu2
  have HG2 := Lib.hid (gr_of_grown HG1.out HU1.out kp2 HG1.out.size)
  have HD2 := Lib.hid (delGone_any u2 _ w.heap.size w2 hu2)
  clear hu2 kp2 ob2 HS1
  obtain ⟨A2, n2, k2, rfl⟩ : ∃ A n k, u2 = .slice A n k := by
    obtain ⟨A, k, h, -, -⟩ := own_form HU2.out
    exact ⟨A, _, k, h⟩
  go_wp2_with fail
  refine HD2.out.mono ?_
  rintro e w3 ⟨u3, rfl, hu3, ob3, kp3⟩
  have HU3 : Hid (CO w3 w.heap.size u3 (heldR s)) := Lib.hid hu3
  have HG3 := Lib.hid (gr_of_grown HG2.out HU2.out kp3 HG2.out.size)
  clear hu3 ob3 kp3 HD2
  obtain ⟨A3, n3, k3, rfl⟩ : ∃ A n k, u3 = .slice A n k := by
    obtain ⟨A, k, h, -, -⟩ := own_form HU3.out
    exact ⟨A, _, k, h⟩
  have HD3 := Lib.hid (HD.out.gr HG3.out)
  have H1 := Lib.hid (keep_m B bd (.slice AF nF kF) (.slice AM nM kM) (.slice AT nT kT) (.slice none 0 0) (.slice A3 n3 k3) s.files s.mem s.tabs s.gen s.marks [] (heldR s) cB w3 HD3.out HU3.out.cv HOK.out.fit HOK.out.files (by have := heldR_len s; have := HLT.out; omega) HOK.out.marks
    (fun c hc => by have := tabsC_small _ _ c (heldR_mem hc); omega) rfl (by decide) (by have := HB.out; have := HG3.out.size; omega) (HH.out.gr HG3.out))
  obtain ⟨k, hk⟩ : ∃ k, k = keepR s.files s.marks (heldR s) cB := ⟨_, rfl⟩
  rw [← hk] at H1 HE HKF HKL
  obtain ⟨⟨kL, kO⟩, ke⟩ := k
  unfold RetKeep cB at H1
  dsimp only at H1 HE HKF HKL
  clear hk
  go_wp2_with fail
  refine H1.out.mono ?_
  rintro e w4 ⟨nm, rfl, h1, b1⟩
  have HB1 := Lib.hid (below_trans (below_le HG3.out HB.out) b1 HB.out)
  clear b1
  by_cases hke : ke = 0
  · subst hke
    obtain ⟨hnm, vF1, vD1, hd1⟩ := h1 rfl
    rw [List.nil_append] at hd1
    have e := HE.out
    rw [if_neg (by omega), ← hnm] at e
    have HE2 := Lib.hid e
    clear e h1 hnm H1
    have z2 := obj_free (i := 2) hd1.obj
    have c2 := obj_cell hd1.obj (i := 2) rfl
    obtain ⟨W, hW⟩ : ∃ W, W = (w4.alloc (.cells #[.string nm] 9)) := ⟨_, rfl⟩
    have HGW : Hid (Gr w4 W) := Lib.hid (by rw [hW]; exact gr_box _ _)
    have hown : SO W B (.slice (some ⟨w4.heap.size, 0, none⟩) 1 1) [nm] := by
      rw [hW]
      exact ⟨rfl, .inr ⟨w4.heap.size, 1, #[.string nm], rfl, by have := HB1.out.size; have := HB.out; omega, heap_alloc_new w4 _, Nat.le_refl _, by decide, rfl, rfl⟩⟩
    have hd1W := hd1.gr HGW.out
    have HD1 := Lib.hid (drow_tabs hd1W hown)
    have HB2 := Lib.hid ((below_trans HB1.out (below_le HGW.out (by have := HB1.out.size; have := HB.out; omega)) HB.out).setCell (p := ⟨bd, 2, none⟩) hd1.base (.slice (some ⟨w4.heap.size, 0, none⟩) 1 1))
    have c2' : (w4.alloc (.cells #[.string nm] 9)).cell? ⟨bd, 2, none⟩ = some (.slice AT nT kT) := by
      rw [← hW]
      exact obj_cell hd1W.obj (i := 2) rfl
    have z2' : (w4.alloc (.cells #[.string nm] 9)).frozen? ⟨bd, 2, none⟩ = false := by
      rw [← hW]
      exact obj_free (i := 2) hd1W.obj
    have HSM := Lib.hid (strays_m B bd vF1 (.slice AM nM kM) (.slice (some ⟨w4.heap.size, 0, none⟩) 1 1) vD1 kL s.mem [nm] s.gen (s.marks + 1) kO _ HD1.out HKF.out (by have := HOK.out.gen; omega) HKL.out (by have := HB2.out.size; have := HB.out; omega))
    clear hd1 hd1W hown c2 z2
    go_upto_region 8 with (fail)
    rw [← hW]
    clear hW c2' z2'
    go_wp2_with fail
    refine HSM.out.mono ?_
    rintro e w5 ⟨rfl, h5, b5⟩
    have HR5 := Lib.hid h5
    have HB5 := Lib.hid (below_trans HB2.out b5 HB.out)
    clear h5 b5
    go_wp2_with fail
    go_ret
    rw [HE2.out]
    obtain ⟨a, b, h⟩ := HR5.out
    exact ⟨rfl, fun _ => ⟨_, _, _, _, h⟩, HB5.out⟩
  · have t2 : ((ke : Int) == 0) = false := by rw [beq_eq_false_iff_ne]; omega
    have e := HE.out
    rw [if_pos hke] at e
    have HE2 := Lib.hid e
    clear e h1
    go_wp2_with fail
    go_ret
    rw [HE2.out]
    exact meth_no hke HB1.out
end Go.Proofs.YtlnhbndghnkfmaaGreatDoor
namespace Go.Proofs.YtlnhbndghnkfmaaGreatDoor
open Go.RowKit Go.Shelf
attribute [local go_sem] Oper.semAt_some

set_option maxRecDepth 100000 in
set_option maxHeartbeats 1000000 in
theorem chunk_any (A : Option Addr) (len cap : Nat) (w : World) :
    Calls Tryz.prog 119 #[.slice A len cap, .int .i64 3] w fun e w' => e = .returned (.func (.func 152) #[] #[.pointer (some ⟨w.heap.size, 0, none⟩), .pointer (some ⟨w.heap.size + 1, 0, none⟩)]) ∧ w' = (w.alloc (.cells #[.slice A len cap] 28)).alloc (.cells #[.int .i64 3] 3) := by
  go_enter Tryz.func119, Tryz.ntmps119
  go_wp2_with fail
  go_ret
  exact ⟨rfl, rfl⟩

/-- The first k of N. -/
def firstN (N k : Nat) : List (Fin N) := (List.finRange N).take k
theorem firstN_len {N k : Nat} (h : k ≤ N) : (firstN N k).length = k := by unfold firstN; rw [List.length_take, List.length_finRange]; omega
theorem firstN_succ {N k : Nat} (h : k < N) : firstN N (k + 1) = firstN N k ++ [⟨k, h⟩] := by
  unfold firstN
  rw [List.take_succ_eq_append_getElem (by rw [List.length_finRange]; exact h), List.getElem_finRange]
  rfl
theorem firstN_all (N : Nat) : firstN N N = List.finRange N := List.take_of_length_le (by rw [List.length_finRange]; exact Nat.le_refl _)
/-- The two blocks lie as they lay. -/
def TwoKept (B0 B1 : Nat) (W W' : World) : Prop := W'.heap[B0]? = W.heap[B0]? ∧ W'.heap[B1]? = W.heap[B1]?
theorem TwoKept.trans {B0 B1 : Nat} {A B C : World} (h : TwoKept B0 B1 A B) (k : TwoKept B0 B1 B C) : TwoKept B0 B1 A C := ⟨k.1.trans h.1, k.2.trans h.2⟩
theorem TwoKept.cell0 {B0 B1 : Nat} {A B : World} (h : TwoKept B0 B1 A B) : B.cell? ⟨B0, 0, none⟩ = A.cell? ⟨B0, 0, none⟩ := by unfold World.cell?; simp only [h.1]
theorem TwoKept.cell1 {B0 B1 : Nat} {A B : World} (h : TwoKept B0 B1 A B) : B.cell? ⟨B1, 0, none⟩ = A.cell? ⟨B1, 0, none⟩ := by unfold World.cell?; simp only [h.2]
/-- A part of three of a slice of strings. -/
def threeAt (b off : Nat) (k : Nat) : Value := .slice (some ⟨b, off + 3 * k, none⟩) 3 3
set_option maxRecDepth 100000 in
set_option maxHeartbeats 2000000 in
theorem chunk1_in (n : Nat) (hn : 1 ≤ n) (l B0 B1 b off : Nat) (A : Option Addr) (cap N : Nat) (hA : 0 < N → A = some ⟨b, off, none⟩) (hN : 3 * N ≤ cap) (hcap : cap ≤ 9223372036854775807) (J Jx : List (Fin N) → World → Prop) (hJd : ∀ s w m, J s w → J s (w.drewN m))
    (hY : ∀ pre x W, J pre W → pre.length < N → YieldAt Fence.wide (n - 1) Tryz.prog l #[threeAt b off x.1] W fun e W' =>
      (e = .returned (.bool true) ∧ J (pre ++ [x]) W' ∧ TwoKept B0 B1 W W') ∨ (e = .returned (.bool false) ∧ Jx (pre ++ [x]) W'))
    (W : World) (hB0 : W.cell? ⟨B0, 0, none⟩ = some (.slice A (3 * N) cap)) (hB1 : W.cell? ⟨B1, 0, none⟩ = some (.int .i64 3)) (h0 : J [] W) :
    CallsIn Fence.wide n Tryz.prog 152 #[.func (.yield l) #[] #[], .pointer (some ⟨B0, 0, none⟩), .pointer (some ⟨B1, 0, none⟩)] W fun e W' => (∃ v, e = .returned v) ∧
      ((∃ xs, xs = List.finRange N ∧ J xs W') ∨ (∃ pre, (∃ k, k ≤ N ∧ pre = firstN N k) ∧ Jx pre W')) := by
  refine callsIn_of_wp Tryz.func152 rfl trivial ?_ rfl
  simp only [Tryz.ntmps152, List.size_toArray, List.length_cons, List.length_nil, Nat.reduceAdd, Nat.reduceSub, Array.replicate_succ, Array.replicate_zero, List.push_toArray, List.append_toArray, List.nil_append, List.cons_append]
  gi_wp2
  gi_loopw [4] (fun i wr => ∃ k : Nat, k ≤ N ∧ i = .int .i64 ((3 * k : Nat) : Int) ∧ J (firstN N k) wr ∧ TwoKept B0 B1 W wr) (fun i _ => 3 * N - (intOf i).toNat)
  case atStart => exact ⟨0, Nat.zero_le _, rfl, h0, rfl, rfl⟩
  case round =>
    obtain ⟨k, hk, rfl, hJs, hnx⟩ := hrel
    have q0 := hnx.cell0.trans hB0
    have q1 := hnx.cell1.trans hB1
    by_cases hlt : k < N
    · obtain rfl := hA (by omega)
      have HJ := Lib.hid hJs
      have hk4 : 3 ≤ 3 * N - 3 * k := by omega
      clear hJs
      gi_wp2
      gi_quiet (fail)
      rw [show min (3 : Int) ((3 * N - 3 * k : Nat) : Int) = 3 by omega]
      obtain ⟨fn, tmps, assign, body, hy, hR⟩ := hY _ ⟨k, hlt⟩ (wr.drewN nq) (hJd _ _ _ HJ.out) (by rw [firstN_len hk]; exact hlt)
      have hdr : TwoKept B0 B1 wr (wr.drewN nq) := ⟨rfl, rfl⟩
      unfold threeAt at hy
      have HNX := Lib.hid (hnx.trans hdr)
      have r0 := HNX.out.cell0.trans hB0
      have r1 := HNX.out.cell1.trans hB1
      have HR := Lib.hid hR
      clear q0 q1 hdr hnx hR
      generalize wr.drewN nq = w2 at *
      gi_wp2
      refine HR.out.mono ?_
      rintro e W3 (⟨rfl, hJ3, hk3⟩ | ⟨rfl, hJx3⟩)
      · have s0 := hk3.cell0.trans r0
        have s1 := hk3.cell1.trans r1
        have HN3 := Lib.hid (HNX.out.trans hk3)
        have HJ3 := Lib.hid hJ3
        clear r0 r1 hy hk3 hJ3
        gi_wp2
        go_roundw
        case rel => exact ⟨k + 1, by omega, by go_num, by rw [firstN_succ hlt]; exact HJ3.out, HN3.out⟩
        case measure => simp [intOf]; omega
      · have HJ3 := Lib.hid hJx3
        clear hJx3 r0 r1 hy
        gi_wp2
        refine bodyPost_ret (results_none rfl _ _ _) rfl ?_
        exact ⟨⟨_, rfl⟩, .inr ⟨_, ⟨k + 1, by omega, (firstN_succ hlt).symm⟩, HJ3.out⟩⟩
    · obtain rfl : k = N := by omega
      gi_wp2
      go_end0
      exact ⟨⟨_, rfl⟩, .inl ⟨_, rfl, by rw [← firstN_all]; exact hJs⟩⟩
theorem chunk_stops (n : Nat) (hn : 1 ≤ n) (B0 B1 b off : Nat) (A : Option Addr) (cap N : Nat) (hA : 0 < N → A = some ⟨b, off, none⟩) (hN : 3 * N ≤ cap) (hcap : cap ≤ 9223372036854775807) (w : World) (h0 : B0 < w.heap.size) (h1 : B1 < w.heap.size)
    (hB0 : w.cell? ⟨B0, 0, none⟩ = some (.slice A (3 * N) cap)) (hB1 : w.cell? ⟨B1, 0, none⟩ = some (.int .i64 3)) :
    SeqStopsK Fence.wide n Tryz.prog 152 #[.pointer (some ⟨B0, 0, none⟩), .pointer (some ⟨B1, 0, none⟩)] (fun x : Fin N => #[threeAt b off x.1]) (TwoKept B0 B1) (fun xs => xs = List.finRange N) (fun _ => True) N w := fun l J Jx W hW hJ _ hY hj => by
  refine (chunk1_in n hn l B0 B1 b off A cap N hA hN hcap J Jx (fun s w m hs => hJ s w _ none hs ⟨rfl, rfl, rfl, Nat.le_refl _, fun _ _ _ => rfl⟩ (fun r e => by cases e)) hY W ((hW.cell (p := ⟨B0, 0, none⟩) h0).trans hB0) ((hW.cell (p := ⟨B1, 0, none⟩) h1).trans hB1) hj).mono ?_
  rintro e W' ⟨he, ⟨xs, rfl, hx⟩ | ⟨pre, _, hx⟩⟩
  · exact ⟨he, .inl ⟨_, rfl, hx⟩⟩
  · exact ⟨he, .inr ⟨_, trivial, hx⟩⟩
end Go.Proofs.YtlnhbndghnkfmaaGreatDoor
