/- Walks: awake of the laws of stores. Mathematics of a store: what one act makes of it. Arguments opened: rows of structs, and how long they are. The arguments of the tables' laws: pairs: what they read as, and how long they are; the listed table. -/
import Derived.Test.YtlnhbndghnkfmaaGreatDoorZm49
import Derived.Test.YtlnhbndghnkfmaaGreatDoorZm01
import Derived.Deep.Slices
import Derived.Deep.Fields
import Derived.ChangeSame
import Derived.SizedLaws
import Derived.OpenShut
import Derived.Test.YtlnhbndghnkfmaaGreatDoorZm05
import Derived.Test.YtlnhbndghnkfmaaGreatDoorZm02
namespace Go.Proofs.YtlnhbndghnkfmaaGreatDoor
open Go.RowKit

theorem segN_nil (p : ByteArray) : segN [] p = 0 := rfl
theorem openW_nil (p : ByteArray) : openW [] p = ([], []) := rfl
theorem openfit_nil : OpenFit [] where
  fit := fun f h => by cases h
  len := Nat.zero_le _
  sm1 := fun f h => by cases h
  p1 := Nat.zero_le _
  r1 := Nat.zero_le _
  sm2 := fun y f h => by cases h
  p2 := fun y => Nat.zero_le _
  r2 := fun y => Nat.zero_le _
theorem lopen_start : topR (lopenR []) = (st0, [], 0) := by
  have h : lopenR [] = (st0, [], 0) := by
    unfold lopenR
    rw [openW_nil]
    show (match replayT [] ([], 0) with
      | none => (st0, [], 70)
      | some y => if soundB [] y.1 = false then (st0, [], 70) else lopenT [] [] y 0) = _
    show (if soundB [] [] = false then (st0, [], 70) else lopenT [] [] ([], 0) 0) = _
    rw [if_neg (by unfold soundB; simp)]
    unfold lopenT
    show (if (run (keptF [] [] 0) (openW (keptF [] [] 0) (logW 0)).2).2.2 ≠ 0 then _ else _) = _
    have hk : keptF [] [] 0 = [] := rfl
    have hs : strayO [] [] 0 = [] := rfl
    rw [hk, openW_nil]
    show (match batchesR [] with
      | none => (st0, [], 70)
      | some l => (⟨[], puts [] l, [], 0, 0⟩, ([] ++ strayO [] [] 0) ++ [], 0)) = _
    rw [hs]
    rfl
  rw [h]
  rfl
def c0W : CR := ⟨⟨#[97]⟩, ⟨#[49]⟩, false⟩
def l0W : List CR := [c0W]
noncomputable def s1W : St := ⟨[⟨nameW (logW 0) 0, ⟨#[]⟩, frameB (bs (packL (recF l0W)))⟩], l0W, [], 0, 0⟩
noncomputable def d1W : List O := [writeO (logW 0) 0 (frameB (bs (packL (recF l0W))))]
theorem rec0_size : (bs (packL (recF l0W))).size ≤ 65536 := by
  rw [bs_size, packL_length]
  have h := tot_recF (L := l0W) (fun c hc => by
    rw [List.mem_singleton.1 hc]
    rfl)
  have : l0W.length = 1 := rfl
  omega
theorem write_start : topR (writeR st0 l0W) = (s1W, d1W, 0) := by
  have hb : batchE l0W = 0 := rfl
  have hp : appendPlan [] (logW 0) (bs (packL (recF l0W))) = ([writeO (logW 0) 0 (frameB (bs (packL (recF l0W))))], 0) := by
    unfold appendPlan
    rw [if_neg (by have := rec0_size; omega), if_pos (segN_nil _)]
  have hl : lk [] (nameW (logW 0) 0) = none := rfl
  have hst : step [] (writeO (logW 0) 0 (frameB (bs (packL (recF l0W))))) = (0, [⟨nameW (logW 0) 0, ⟨#[]⟩, frameB (bs (packL (recF l0W)))⟩]) := by
    rw [step_none (good_write (logW_prefix 0) 0 _) hl]
    rw [if_pos (show (writeO (logW 0) 0 (frameB (bs (packL (recF l0W))))).kind = 1 from rfl), if_neg (by decide), if_neg (by
      have := rec0_size
      have h2 := frameB_size (bs (packL (recF l0W)))
      show ¬ 1048576 < (frameB (bs (packL (recF l0W)))).size
      omega)]
    rfl
  have hr : run [] [writeO (logW 0) 0 (frameB (bs (packL (recF l0W))))] = ([⟨nameW (logW 0) 0, ⟨#[]⟩, frameB (bs (packL (recF l0W)))⟩], 1, 0) := run_one hst
  have hw : writeR st0 l0W = (s1W, d1W, 0) := by
    unfold writeR
    rw [if_neg (by rw [hb]; decide)]
    show (if (appendPlan [] (logW 0) (bs (packL (recF l0W)))).2 ≠ 0 then _ else if 1024 < (puts [] ([] ++ l0W)).length then _ else ((⟨(run [] (appendPlan [] (logW 0) (bs (packL (recF l0W)))).1).1, puts [] ([] ++ l0W), [], 0, 0⟩ : St), (appendPlan [] (logW 0) (bs (packL (recF l0W)))).1, (run [] (appendPlan [] (logW 0) (bs (packL (recF l0W)))).1).2.2)) = _
    rw [hp, if_neg (by decide), if_neg (by decide), hr]
    rfl
  rw [hw]
  rfl
theorem get_start : getS s1W ⟨#[97]⟩ = some ⟨#[49]⟩ := by
  unfold getS
  have h : lastK s1W.mem ⟨#[97]⟩ = some c0W := by
    unfold lastK look
    show ([c0W] : List CR).reverse.find? _ = _
    rw [List.reverse_singleton, List.find?_cons_of_pos (by exact eqS_self _)]
  rw [h]
  rfl
theorem ok_start : ActOk st0 := si_actok si_start (by decide)
theorem name_start : (nameW (logW 0) 0).toList = [119, 97, 97, 97, 97, 97, 46, 48, 48, 48, 48, 48, 48] := by
  rw [ByteArray.toList_eq]
  rfl
set_option maxRecDepth 100000 in
set_option maxHeartbeats 4000000 in
theorem lawake_any (w : World) (hH : Halves w) :
    Calls Tryz.prog 10 #[] w fun e w' => e = .returned (.bool true) ∧ Gr w w' := by
  have HO := Lib.hid (lopen_any (.slice none 0 0) [] w (FO.nil w 0).fv openfit_nil hH)
  rw [lopen_start] at HO
  have HH := Lib.hid hH
  clear hH
  go_enter Tryz.func10, Tryz.ntmps10
  go_wp2_with fail
  refine HO.out.mono ?_
  rintro e w1 ⟨v1, vD1, rfl, hv1, hd1, g1⟩
  obtain ⟨AF, nF, cF, AM, nM, cM, AT, nT, cT, rfl⟩ := own_five' hv1
  obtain ⟨AD, nD, cD, rfl⟩ : ∃ A n c, vD1 = .slice A n c := by
    obtain ⟨A, c, h, -, -⟩ := own_form hd1
    exact ⟨A, _, c, h⟩
  have HV1 := Lib.hid hv1
  have HG1 := Lib.hid g1
  clear hv1 hd1 g1 HO
  dsimp only [st0] at HV1 ⊢
  rw [show ((0 : Nat) : Int) = 0 from rfl] at HV1 ⊢
  have HV1' : Hid (StV w1 (.agg #[.slice AF nF cF, .slice AM nM cM, .slice AT nT cT, .int .i64 0, .int .i64 0]) st0) := Lib.hid HV1.out.stv
  obtain ⟨W1, hW1⟩ : ∃ W1, W1 = w1.alloc (.cells #[.slice AF nF cF, .slice AM nM cM, .slice AT nT cT, .int .i64 0, .int .i64 0] 30) := ⟨_, rfl⟩
  have HGW : Hid (Gr w1 W1) := Lib.hid (by rw [hW1]; exact gr_box _ _)
  have HX1 : Hid (W1.heap[w1.heap.size]? = some (.cells #[.slice AF nF cF, .slice AM nM cM, .slice AT nT cT, .int .i64 0, .int .i64 0] 30 (0, 0))) := Lib.hid (by rw [hW1]; exact heap_alloc_new w1 _)
  have s0 := obj_cell HX1.out (i := 0) rfl
  have s1 := obj_cell HX1.out (i := 1) rfl
  have s2 := obj_cell HX1.out (i := 2) rfl
  have s3 := obj_cell HX1.out (i := 3) rfl
  have s4 := obj_cell HX1.out (i := 4) rfl
  obtain ⟨W2, hW2⟩ : ∃ W2, W2 = W1.alloc (.cells #[.string ⟨#[97]⟩, .string ⟨#[49]⟩, .bool false] 70) := ⟨_, rfl⟩
  have HGW2 : Hid (Gr W1 W2) := Lib.hid (by rw [hW2]; exact gr_box _ _)
  have HC2 : Hid (CV W2 (.slice (some ⟨W1.heap.size, 0, none⟩) 1 1) l0W) := Lib.hid (by rw [hW2]; exact (co_one W1 c0W 0 (Nat.zero_le _)).cv)
  have HWR := Lib.hid (write_any (.agg #[.slice AF nF cF, .slice AM nM cM, .slice AT nT cT, .int .i64 0, .int .i64 0]) (.slice (some ⟨W1.heap.size, 0, none⟩) 1 1) st0 l0W W2 (HV1'.out.gr (HGW.out.trans HGW2.out)) ok_start.ok (by decide) HC2.out (fun c hc => by
    rw [List.mem_singleton.1 hc]
    exact ⟨by decide, by decide⟩) (HH.out.gr (HG1.out.trans (HGW.out.trans HGW2.out))))
  rw [write_start] at HWR
  obtain ⟨bx, hbx⟩ : ∃ b, b = w1.heap.size := ⟨_, rfl⟩
  rw [← hbx] at HX1 s0 s1 s2 s3 s4
  have HBX := Lib.hid hbx
  go_upto_region 2 with (fail)
  rw [← hW1, ← hbx]
  clear hW1 hbx
  go_wp2_with fail
  rw [← hW2]
  clear hW2
  refine HWR.out.mono ?_
  rintro e w3 ⟨v3, vD3, rfl, hv3, hd3, g3⟩
  obtain ⟨AF', nF', cF', AM', nM', cM', AT', nT', cT', rfl⟩ := own_five' hv3
  obtain ⟨AD', cD', rfl, hcD1, hcD2⟩ := own_form hd3
  have hdl : d1W.length = 1 := rfl
  rw [hdl] at hd3 hcD1 ⊢
  dsimp only [s1W] at hv3 ⊢
  rw [show ((0 : Nat) : Int) = 0 from rfl] at hv3 ⊢
  have HX3 := Lib.hid (gr_obj (HGW2.out.trans g3) HX1.out)
  have HG3 := Lib.hid (HG1.out.trans (HGW.out.trans (HGW2.out.trans g3)))
  have HV3 := Lib.hid hv3
  have HD3 := Lib.hid hd3
  have HB3 : Hid (w.heap.size ≤ bx) := Lib.hid (by rw [HBX.out]; exact HG1.out.size)
  have HWB : Hid (w.heap.size ≤ W2.heap.size) := Lib.hid (HG1.out.trans (HGW.out.trans HGW2.out)).size
  have r0 := obj_cell HX3.out (i := 0) rfl
  have r1 := obj_cell HX3.out (i := 1) rfl
  have r2 := obj_cell HX3.out (i := 2) rfl
  have r3 := obj_cell HX3.out (i := 3) rfl
  have r4 := obj_cell HX3.out (i := 4) rfl
  have z0 := obj_free (i := 0) HX3.out
  have z1 := obj_free (i := 1) HX3.out
  have z2 := obj_free (i := 2) HX3.out
  have z3 := obj_free (i := 3) HX3.out
  have z4 := obj_free (i := 4) HX3.out
  clear hv3 hd3 g3 s0 s1 s2 s3 s4 HWR hdl
  obtain ⟨W4, hW4⟩ : ∃ W4, W4 = five w3 bx (.slice AF' nF' cF') (.slice AM' nM' cM') (.slice AT' nT' cT') (.int .i64 0) (.int .i64 0) := ⟨_, rfl⟩
  have HBT : Hid (BoxAt w3 bx 30) := Lib.hid ⟨_, HX3.out⟩
  have HG4 : Hid (Gr w W4) := Lib.hid (by rw [hW4]; exact gr_five HG3.out HB3.out _ _ _ _ _)
  have HV4 : Hid (StO W4 w.heap.size (.agg #[.slice AF' nF' cF', .slice AM' nM' cM', .slice AT' nT' cT', .int .i64 0, .int .i64 0]) s1W) := Lib.hid (by
    obtain ⟨a1, a2, a3, e, h1, h2, h3⟩ := HV3.out
    rw [hW4]
    exact ⟨a1, a2, a3, e, own_five (h1.le HWB.out) HBT.out (by decide) _ _ _ _ _, own_five (h2.le HWB.out) HBT.out (by decide) _ _ _ _ _, own_five (h3.le HWB.out) HBT.out (by decide) _ _ _ _ _⟩)
  have HD4 : Hid (OO W4 w.heap.size (.slice AD' 1 cD') d1W) := Lib.hid (by
    rw [hW4]
    exact own_five (HD3.out.le HWB.out) HBT.out (by decide) _ _ _ _ _)
  have HX4 : Hid (W4.cell? ⟨bx, 0, none⟩ = some (.slice AF' nF' cF') ∧ W4.cell? ⟨bx, 1, none⟩ = some (.slice AM' nM' cM') ∧ W4.cell? ⟨bx, 2, none⟩ = some (.slice AT' nT' cT') ∧ W4.cell? ⟨bx, 3, none⟩ = some (.int .i64 0) ∧ W4.cell? ⟨bx, 4, none⟩ = some (.int .i64 0)) := Lib.hid (by
    rw [hW4]
    unfold five
    have h := set_obj (set_obj (set_obj (set_obj (set_obj HX3.out (i := 0) (.slice AF' nF' cF')) (i := 1) (.slice AM' nM' cM')) (i := 2) (.slice AT' nT' cT')) (i := 3) (.int .i64 0)) (i := 4) (.int .i64 0)
    exact ⟨obj_cell h rfl, obj_cell h rfl, obj_cell h rfl, obj_cell h rfl, obj_cell h rfl⟩)
  have HGE := Lib.hid (lget_any (.agg #[.slice AF' nF' cF', .slice AM' nM' cM', .slice AT' nT' cT', .int .i64 0, .int .i64 0]) s1W w.heap.size ⟨#[97]⟩ W4 HV4.out (fun f hf => by
    rw [List.mem_singleton.1 hf]
    have := rec0_size
    have h2 := frameB_size (bs (packL (recF l0W)))
    refine ⟨?_, ?_⟩
    · show (nameW (logW 0) 0).size ≤ _
      rw [nameW_size]
      decide
    · show (⟨#[]⟩ : ByteArray).size + (frameB (bs (packL (recF l0W)))).size ≤ _
      rw [size_nil]
      omega) (fun c hc => by
    rw [List.mem_singleton.1 hc]
    decide) (HH.out.gr HG4.out))
  rw [get_start] at HGE
  unfold gotV at HGE
  go_upto_region 3 with (fail)
  have hW4' := hW4
  unfold five at hW4'
  rw [← hW4']
  clear hW4 hW4' r0 r1 r2 r3 r4 z0 z1 z2 z3 z4
  obtain ⟨r0, r1, r2, r3, r4⟩ := HX4.out
  go_wp2_with fail
  refine HGE.out.mono ?_
  rintro e w5 ⟨rfl, g5⟩
  simp only [Option.getD_some, Option.isSome_some]
  have HG5 := Lib.hid (HG4.out.trans g5)
  have hd5 := HD4.out.gr g5
  have hname : ∃ g, AD' = some ⟨g, 0, none⟩ ∧ w5.cell? ⟨g, 1, none⟩ = some (.string (nameW (logW 0) 0)) := by
    rcases hd5.2 with ⟨he, _⟩ | ⟨g, cap, cur, he, _⟩
    · cases he
    · injection he with e1 e2 e3
      subst e1 e3
      exact ⟨g, rfl, (World.ownsRow.cellAt hd5 1 (by decide)).trans rfl⟩
  obtain ⟨gd, rfl, n1⟩ := hname
  have t1 : (nameW (logW 0) 0).toList = [119, 97, 97, 97, 97, 97, 46, 48, 48, 48, 48, 48, 48] := name_start
  obtain ⟨nm0, hnm0⟩ : ∃ x, x = nameW (logW 0) 0 := ⟨_, rfl⟩
  rw [← hnm0] at n1 t1
  have t2 : (nm0.toList == [119, 97, 97, 97, 97, 97, 46, 48, 48, 48, 48, 48, 48]) = true := by rw [t1]; decide
  clear g5 hd5 hnm0 r0 r1 r2 r3 r4 HGE
  go_wp2_with fail
  go_ret
  exact ⟨rfl, HG5.out⟩
end Go.Proofs.YtlnhbndghnkfmaaGreatDoor
namespace Go.Proofs.YtlnhbndghnkfmaaGreatDoor
open Go.RowKit

theorem topR_no {r : St × List O × Nat} (h : r.2.2 ≠ 0) : topR r = (st0, [], r.2.2) := by unfold topR; rw [if_neg h]
theorem topR_yes {r : St × List O × Nat} (h : r.2.2 = 0) : topR r = r := by unfold topR; rw [if_pos h]
/-- What an act that goes well leaves. -/
structure Next (s : St) (k : Int) (s2 : St) : Prop where
  safe : kindN k = 1 → looseB s2.files = true
  flush : kindN k = 2 → s.mem.length ≠ 0 → s2.mem.length = 0 ∧ s2.tabs.length = s.tabs.length + 1 ∧ s2.gen = s.gen + 1 ∧ looseB s2.files = true
  none : kindN k = 2 → s.mem.length = 0 → s2 = s
  merge : kindN k = 3 → 2 ≤ s.tabs.length → s2.tabs.length = 1 ∧ s2.mem.length = s.mem.length
theorem act_next {s : St} {R : List ByteArray} {Q : List (List CR)} {n c : Nat} (h : SI s R Q n c) (hc : c ≤ 600) (k : Int) (l : List CR) (hz : (actR s k l).2.2 = 0) :
    Next s k (actR s k l).1 ∧ ∃ R' Q' n', SI (actR s k l).1 R' Q' n' (c + 1) := by
  have hk := kindN_lt k
  unfold actR at hz ⊢
  by_cases h1 : kindN k = 1
  · rw [if_pos h1] at hz ⊢
    have hs := (si_safe h).2
    exact ⟨⟨fun _ => si_firm hs, fun e => by omega, fun e => by omega, fun e => by omega⟩, R, Q, Q.length, hs.mono (Nat.le_succ _)⟩
  · rw [if_neg h1] at hz ⊢
    by_cases h2 : kindN k = 2
    · rw [if_pos h2] at hz ⊢
      by_cases hm : s.mem.length = 0
      · have hf : flushR s = (s, [], 0) := by unfold flushR; rw [if_pos hm]
        rw [hf]
        exact ⟨⟨fun e => absurd e h1, fun _ e => absurd hm e, fun _ _ => rfl, fun e => by omega⟩, R, Q, n, h.mono (Nat.le_succ _)⟩
      · obtain ⟨K, hK, he, hs⟩ := si_flush h hc hm hz
        refine ⟨⟨fun e => absurd e h1, fun _ _ => ?_, fun _ e => absurd e hm, fun e => by omega⟩, _, _, _, hs⟩
        have hl := si_firm (Q := []) hs
        rw [he] at hl ⊢
        exact ⟨rfl, by show (s.tabs ++ [nameW tabP s.marks]).length = _; rw [List.length_append]; rfl, rfl, hl⟩
    · rw [if_neg h2] at hz ⊢
      by_cases h3 : kindN k = 3
      · rw [if_pos h3] at hz ⊢
        by_cases ht : s.tabs.length < 2
        · have hf : mergeR s = (s, [], 0) := by unfold mergeR; rw [if_pos ht]
          rw [hf]
          exact ⟨⟨fun e => absurd e h1, fun e => absurd e h2, fun e => absurd e h2, fun _ e => by omega⟩, R, Q, n, h.mono (Nat.le_succ _)⟩
        · obtain ⟨K, hK, he, hs⟩ := si_merge h hc ht hz
          refine ⟨⟨fun e => absurd e h1, fun e => absurd e h2, fun e => absurd e h2, fun _ _ => ?_⟩, _, _, _, hs⟩
          rw [he]
          exact ⟨rfl, rfl⟩
      · rw [if_neg h3] at hz ⊢
        obtain ⟨_, hs⟩ := si_write h l hz
        exact ⟨⟨fun e => absurd e h1, fun e => absurd e h2, fun e => absurd e h2, fun e => absurd e h3⟩, R, _, n, hs.mono (Nat.le_succ _)⟩
/-- What an act's changes may be. -/
def FitAct (a : ActC) : Prop := a.chs.length * 40 ≤ 140737488355328 ∧ ∀ c ∈ a.chs, c.key.size ≤ 281474976710656 ∧ c.val.size ≤ 281474976710656
theorem cf_act (W : World) (vals : Array Value) : (callFunc 19 vals).run Tryz.prog W = .ok (.enter 19 vals) W := by
  have hf : Tryz.prog.funcs[19]? = some Tryz.f19 := Tryz.func19
  simp [callFunc, hf, Tryz.f19, go_sem]
/-- A box that holds a store's value. -/
def StHold (w : World) (B b : Nat) (s : St) (AF : Option Addr) (cF : Nat) (AM : Option Addr) (cM : Nat) (AT : Option Addr) (cT : Nat) : Prop :=
  w.heap[b]? = some (.cells #[.slice AF s.files.length cF, .slice AM s.mem.length cM, .slice AT s.tabs.length cT, .int .i64 (s.gen : Int), .int .i64 (s.marks : Int)] 30 (0, 0)) ∧
  FO w B (.slice AF s.files.length cF) s.files ∧ CO w B (.slice AM s.mem.length cM) s.mem ∧ SO w B (.slice AT s.tabs.length cT) s.tabs
theorem StHold.gr {w w' : World} {B b : Nat} {s : St} {AF : Option Addr} {cF : Nat} {AM : Option Addr} {cM : Nat} {AT : Option Addr} {cT : Nat} (h : StHold w B b s AF cF AM cM AT cT) (g : Gr w w') : StHold w' B b s AF cF AM cM AT cT :=
  ⟨gr_obj g h.1, h.2.1.gr g, h.2.2.1.gr g, h.2.2.2.gr g⟩
theorem StHold.sto {w : World} {B b : Nat} {s : St} {AF : Option Addr} {cF : Nat} {AM : Option Addr} {cM : Nat} {AT : Option Addr} {cT : Nat} (h : StHold w B b s AF cF AM cM AT cT) : StO w B (.agg #[.slice AF s.files.length cF, .slice AM s.mem.length cM, .slice AT s.tabs.length cT, .int .i64 (s.gen : Int), .int .i64 (s.marks : Int)]) s :=
  ⟨_, _, _, rfl, h.2.1, h.2.2.1, h.2.2.2⟩
theorem StO.six {w : World} {B : Nat} {v : Value} {s : St} (h : StO w B v s) : ∃ AF cF AM cM AT cT, v = .agg #[.slice AF s.files.length cF, .slice AM s.mem.length cM, .slice AT s.tabs.length cT, .int .i64 (s.gen : Int), .int .i64 (s.marks : Int)] ∧ FO w B (.slice AF s.files.length cF) s.files ∧ CO w B (.slice AM s.mem.length cM) s.mem ∧ SO w B (.slice AT s.tabs.length cT) s.tabs := by
  obtain ⟨vF, vM, vT, rfl, h1, h2, h3⟩ := h
  obtain ⟨AF, cF, rfl, -, -⟩ := own_form h1
  obtain ⟨AM, cM, rfl, -, -⟩ := own_form h2
  obtain ⟨AT, cT, rfl, -, -⟩ := own_form h3
  exact ⟨_, _, _, _, _, _, rfl, h1, h2, h3⟩
/-- A box that is laid. -/
theorem stbox_new {w : World} {B : Nat} {s : St} {AF : Option Addr} {cF : Nat} {AM : Option Addr} {cM : Nat} {AT : Option Addr} {cT : Nat} (h1 : FO w B (.slice AF s.files.length cF) s.files) (h2 : CO w B (.slice AM s.mem.length cM) s.mem) (h3 : SO w B (.slice AT s.tabs.length cT) s.tabs) :
    StHold (w.alloc (.cells #[.slice AF s.files.length cF, .slice AM s.mem.length cM, .slice AT s.tabs.length cT, .int .i64 (s.gen : Int), .int .i64 (s.marks : Int)] 30)) B w.heap.size s AF cF AM cM AT cT :=
  ⟨heap_alloc_new w _, h1.gr (gr_box _ _), h2.gr (gr_box _ _), h3.gr (gr_box _ _)⟩
/-- A box that is written over. -/
theorem stbox_set {w : World} {B b : Nat} {s : St} {AF : Option Addr} {cF : Nat} {AM : Option Addr} {cM : Nat} {AT : Option Addr} {cT : Nat} {x0 x1 x2 x3 x4 : Value} (hb : w.heap[b]? = some (.cells #[x0, x1, x2, x3, x4] 30 (0, 0))) (h1 : FO w B (.slice AF s.files.length cF) s.files) (h2 : CO w B (.slice AM s.mem.length cM) s.mem) (h3 : SO w B (.slice AT s.tabs.length cT) s.tabs) :
    StHold (five w b (.slice AF s.files.length cF) (.slice AM s.mem.length cM) (.slice AT s.tabs.length cT) (.int .i64 (s.gen : Int)) (.int .i64 (s.marks : Int))) B b s AF cF AM cM AT cT := by
  have hB : BoxAt w b 30 := ⟨_, hb⟩
  refine ⟨?_, own_five h1 hB (by decide) _ _ _ _ _, own_five h2 hB (by decide) _ _ _ _ _, own_five h3 hB (by decide) _ _ _ _ _⟩
  unfold five
  exact set_obj (set_obj (set_obj (set_obj (set_obj hb (i := 0) _) (i := 1) _) (i := 2) _) (i := 3) _) (i := 4) _
end Go.Proofs.YtlnhbndghnkfmaaGreatDoor
namespace Go.Proofs.YtlnhbndghnkfmaaGreatDoor
open Go.ChangeShapes Go.WideShapes Go.RowKit Go.Deep

theorem list_of {α : Type} {R : Nat → α → Prop} : ∀ n, (∀ i, i < n → ∃ x, R i x) → ∃ L : List α, L.length = n ∧ ∀ j (hj : j < L.length), R j L[j]
  | 0, _ => ⟨[], rfl, fun j hj => absurd hj (by simp)⟩
  | n + 1, h => by
    obtain ⟨L, hl, hr⟩ := list_of n (fun i hi => h i (by omega))
    obtain ⟨x, hx⟩ := h n (Nat.lt_succ_self n)
    refine ⟨L ++ [x], by rw [List.length_append, hl]; rfl, fun j hj => ?_⟩
    rw [List.length_append, List.length_singleton, hl] at hj
    by_cases e : j < L.length
    · rw [List.getElem_append_left e]; exact hr j e
    · obtain rfl : j = n := by omega
      rw [List.getElem_append_right (by omega)]
      simp only [hl, Nat.sub_self, List.getElem_cons_zero]
      exact hx
theorem weightsAll_mem {H : Type} {P : Program} {e : TypeId} {d : DataW H} {l : List (DataW H)} (h : d ∈ l) {n : Nat} (hn : n ∈ DataW.weights P e d) : n ∈ DataW.weightsAll P e l := by
  induction l with
  | nil => cases h
  | cons x r ih =>
    simp only [DataW.weightsAll, List.mem_append]
    rcases List.mem_cons.1 h with rfl | h
    · exact .inl hn
    · exact .inr (ih h)
/-- The first element's place says that the slice lies in cells. -/
theorem spot_of {w : World} {base k : Nat} {a : Addr} {len : Nat} {R : Nat → List Value → Prop} (hk : 0 < k) (hi : ∀ i, i < len → ∃ cs, w.cells? base (a.add (i * k)) k = some cs ∧ R i cs) (h0 : 0 < len) : a.spot = none := by
  obtain ⟨cs, hc, _⟩ := hi 0 h0
  obtain ⟨_, hl, hat⟩ := World.cells?_some hc
  have h := hat 0 hk
  rw [List.getElem?_eq_getElem (show 0 < cs.length by omega)] at h
  have := World.cell?_spot h
  simpa [Addr.add] using this
theorem reach_is : reachBytes = 140737488351232 := rfl
end Go.Proofs.YtlnhbndghnkfmaaGreatDoor
namespace Go.Proofs.YtlnhbndghnkfmaaGreatDoor
open Go.ChangeShapes Go.WideShapes Go.RowKit Go.Deep

section
variable {H : Type} {enc : TypeId × Value → H} {W : World} {base : Nat} {v : Value} {d : DataW H} {p : List MemPlace}
theorem halves6_laid (h : laidMetH Tryz.prog [("levee/code.halves", Rows.laid_levee_code_halves)] W) : Halves W := by
  have ht : Lib.TabIs Tryz.prog W "levee/code.halves" .u32 (Crc.tab.map Int.ofNat) :=
    Lib.tabIs_of_head (rest := []) gHalves gHalvesType Tryz.underlying214 Tryz.underlying117 cellsU32 cellsHalves h
  intro k hk
  have h1 := ht.cell gHalves k (by simpa [Crc.tab] using hk)
  have h2 : ∀ j : Fin 16, (Crc.tab.map Int.ofNat).getD j.val 0 = (Crc.halfT j.val : Int) := by decide
  rw [h1, h2 ⟨k, hk⟩]
end
end Go.Proofs.YtlnhbndghnkfmaaGreatDoor
