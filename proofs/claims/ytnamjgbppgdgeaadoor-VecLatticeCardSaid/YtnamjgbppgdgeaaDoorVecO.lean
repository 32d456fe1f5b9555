/- The law VecLattice. -/
import Derived.Test.YtnamjgbppgdgeaaDoorVecL
import Derived.Deep.DeepCutAuto
import Derived.Deep.Cut
namespace Go.Proofs.YtnamjgbppgdgeaaDoor
open Go.RowKit Go.Joins

theorem leqB_self (a : Nat → Nat) : leqB a a = true := leqB_iff.2 fun _ _ => Nat.le_refl _
theorem leqB_trans {a b c : Nat → Nat} (h : leqB a b = true) (k : leqB b c = true) : leqB a c = true :=
  leqB_iff.2 fun i hi => Nat.le_trans (leqB_iff.1 h i hi) (leqB_iff.1 k i hi)
theorem leqB_anti {a b : Nat → Nat} (h : leqB a b = true) : leqB b a = eqB a b := by
  rw [Bool.eq_iff_iff, leqB_iff, eqB_iff]
  exact ⟨fun k i hi => Nat.le_antisymm (leqB_iff.1 h i hi) (k i hi), fun k i hi => Nat.le_of_eq (k i hi).symm⟩
theorem leqB_jn1 (a b : Nat → Nat) : leqB a (jn a b) = true := leqB_iff.2 fun _ _ => Nat.le_max_left _ _
theorem leqB_jn2 (a b : Nat → Nat) : leqB b (jn a b) = true := leqB_iff.2 fun _ _ => Nat.le_max_right _ _
theorem leqB_mt1 (a b : Nat → Nat) : leqB (mt a b) a = true := leqB_iff.2 fun _ _ => Nat.min_le_left _ _
theorem leqB_mt2 (a b : Nat → Nat) : leqB (mt a b) b = true := leqB_iff.2 fun _ _ => Nat.min_le_right _ _
theorem leqB_jn (a b c : Nat → Nat) : leqB (jn a b) c = (leqB a c && leqB b c) := by
  rw [Bool.eq_iff_iff, Bool.and_eq_true, leqB_iff, leqB_iff, leqB_iff]
  exact ⟨fun h => ⟨fun i hi => Nat.le_trans (Nat.le_max_left _ _) (h i hi), fun i hi => Nat.le_trans (Nat.le_max_right _ _) (h i hi)⟩, fun ⟨h, k⟩ i hi => Nat.max_le.2 ⟨h i hi, k i hi⟩⟩
theorem leqB_mt (a b c : Nat → Nat) : leqB c (mt a b) = (leqB c a && leqB c b) := by
  rw [Bool.eq_iff_iff, Bool.and_eq_true, leqB_iff, leqB_iff, leqB_iff]
  exact ⟨fun h => ⟨fun i hi => Nat.le_trans (h i hi) (Nat.min_le_left _ _), fun i hi => Nat.le_trans (h i hi) (Nat.min_le_right _ _)⟩, fun ⟨h, k⟩ i hi => Nat.le_min.2 ⟨h i hi, k i hi⟩⟩

theorem boxes3v (a b c : Nat → Nat) (w : World) : ∃ W, W = ((w.alloc (.cells (vcells a) 24)).alloc (.cells (vcells b) 24)).alloc (.cells (vcells c) 24) ∧ Gr w W ∧
    Lies W w.heap.size a ∧ Lies W (w.heap.size + 1) b ∧ Lies W (w.heap.size + 1 + 1) c := by
  obtain ⟨W2, rfl, g2, l2⟩ := boxes2 a b w
  obtain ⟨W3, h3, g3, l3⟩ := box1c c ((w.alloc (.cells (vcells a) 24)).alloc (.cells (vcells b) 24))
  refine ⟨W3, h3, g2.trans g3, (lies_of l2.1).gr g3, (lies_of l2.2).gr g3, ?_⟩
  have : ((w.alloc (.cells (vcells a) 24)).alloc (.cells (vcells b) 24)).heap.size = w.heap.size + 1 + 1 := by simp
  rw [this] at l3
  exact l3
theorem keep3 {w w1 w2 : World} {A B C : Nat} {a b c : Nat → Nat} (h : Lies w1 A a ∧ Lies w1 B b ∧ Lies w1 C c ∧ Gr w w1) (g : Gr w1 w2) : Lies w2 A a ∧ Lies w2 B b ∧ Lies w2 C c ∧ Gr w w2 := ⟨h.1.gr g, h.2.1.gr g, h.2.2.1.gr g, h.2.2.2.trans g⟩
theorem keepW {w1 w2 : World} {A B C : Nat} {a b c : Nat → Nat} (hA : Lies w1 A a) (hB : Lies w1 B b) (hC : Lies w1 C c) (g : Gr w1 w2) : Lies w2 A a ∧ Lies w2 B b ∧ Lies w2 C c ∧ Gr w1 w2 := ⟨hA.gr g, hB.gr g, hC.gr g, g⟩
theorem Gr.set0 {a b : World} {i : Nat} {v : Value} (h : Gr a b) : Gr a (b.setCell ⟨a.heap.size, i, none⟩ v) := Gr.setCell h (Nat.le_refl _) v
theorem Gr.set1 {a b : World} {i : Nat} {v : Value} (h : Gr a b) : Gr a (b.setCell ⟨a.heap.size + 1, i, none⟩ v) := Gr.setCell h (Nat.le_succ _) v
theorem Gr.set2 {a b x : World} {i : Nat} {v : Value} (hz : a.heap.size ≤ x.heap.size) (h : Gr a b) : Gr a (b.setCell ⟨x.heap.size, i, none⟩ v) := Gr.setCell h hz v
theorem Gr.set3 {a b x : World} {i : Nat} {v : Value} (hz : a.heap.size ≤ x.heap.size) (h : Gr a b) : Gr a (b.setCell ⟨x.heap.size + 1, i, none⟩ v) := Gr.setCell h (Nat.le_succ_of_le hz) v
theorem ToFill.gr {w w' : World} {B : Nat} (h : ToFill w B) (g : Gr w w') : ToFill w' B := by
  obtain ⟨⟨h0, h1, h2, h3, h4, h5, h6, h7⟩, hz, hf⟩ := h
  exact ⟨⟨g.cell h0, g.cell h1, g.cell h2, g.cell h3, g.cell h4, g.cell h5, g.cell h6, g.cell h7⟩, Nat.lt_of_lt_of_le hz g.size, fun i => by rw [Below.frozen g hz]; exact hf i⟩
theorem ToFill.alloc {w : World} {B : Nat} {o : Obj} (h : ToFill w B) : ToFill (w.alloc o) B := h.gr ((Gr.refl _).alloc o)
theorem keep5 {w w1 w2 : World} {A B C D E : Nat} {a b c d e : Nat → Nat} (h : Lies w1 A a ∧ Lies w1 B b ∧ Lies w1 C c ∧ Lies w1 D d ∧ Lies w1 E e ∧ Gr w w1) (g : Gr w1 w2) : Lies w2 A a ∧ Lies w2 B b ∧ Lies w2 C c ∧ Lies w2 D d ∧ Lies w2 E e ∧ Gr w w2 := ⟨h.1.gr g, h.2.1.gr g, h.2.2.1.gr g, h.2.2.2.1.gr g, h.2.2.2.2.1.gr g, h.2.2.2.2.2.trans g⟩
theorem awake3 {w w1 : World} {A B C : Nat} {a b c : Nat → Nat} (h : Lies w1 A a ∧ Lies w1 B b ∧ Lies w1 C c ∧ Gr w w1) (hp : Pow w) :
    Calls Tryd.prog 8 #[] w1 fun e w' => e = .returned (.bool true) ∧ Gr w1 w' := awake02_any w1 (hp.gr h.2.2.2)

section
variable {P : Program} {md : Region.Mode} {ops : Array Oper} {Q : Exit → Act → World → Prop} {S : World → Prop}
/-- A region by hand: an operation that yields its value is taken first. -/
theorem takeH {i : Nat} {oi : Oper} {v : Value} {d : Option Tmp} {fuel : Nat} {listed : Array Bool} {a : Act} {w : World} (hi : ops[i]? = some oi) (hd : oi.dst = d)
    (hs : Region.noSelect ops = true) (hf : Region.free md ops listed i = true) (hr : (Region.ready md ops listed).contains i = true)
    (hQ : ∀ c a w, Q (.panic c) (a.put oi.dst v) w → Q (.panic c) a w) (hw : Region.wanted oi (yielded ops a.tmps) = true) (hv : ∀ w, S w → (execOp a.eval oi).run P w = .ok (.value v) w) (hS : S w)
    (h : wpAnyH P md ops Q S fuel (listed.setIfInBounds i true) (a.put d v) w) : wpAnyH P md ops Q S (fuel + 1) listed a w := by
  subst hd
  exact wpAnyH_take hi hs hf hr hQ (Or.inl ⟨hw, hv⟩) hS h
/-- One whose guard is not met is passed over. -/
theorem skipH {i : Nat} {oi : Oper} {d : Option Tmp} {fuel : Nat} {listed : Array Bool} {a : Act} {w : World} (hi : ops[i]? = some oi) (hd : oi.dst = d)
    (hs : Region.noSelect ops = true) (hf : Region.free md ops listed i = true) (hr : (Region.ready md ops listed).contains i = true)
    (hQ : ∀ c a w, Q (.panic c) (a.put oi.dst undef) w → Q (.panic c) a w) (hw : Region.wanted oi (yielded ops a.tmps) = false) (hS : S w)
    (h : wpAnyH P md ops Q S fuel (listed.setIfInBounds i true) (a.put d undef) w) : wpAnyH P md ops Q S (fuel + 1) listed a w := by
  subst hd
  exact wpAnyH_take hi hs hf hr hQ (Or.inr ⟨hw, rfl⟩) hS h
end
/-- Leq, where its answer is known. -/
theorem leq_is (a b : Nat → Nat) (x : Bool) (h : leqB a b = x) (w : World) : Calls Tryd.prog 9 #[.agg (vcells a), .agg (vcells b)] w fun e w' => e = .returned (.bool x) ∧ Gr w w' := by
  subst h; exact leq_any a b w

set_option maxRecDepth 100000 in
set_option maxHeartbeats 40000000 in
theorem vecLattice_law (a b c : Nat → Nat) (w : World) (hp : Pow w) :
    Calls Tryd.prog 5 #[.agg (vcells a), .agg (vcells b), .agg (vcells c)] w fun e w' => e = .returned (.bool true) ∧ Gr w w' := by
  obtain ⟨W, hW, hg, hA, hB, hC⟩ := boxes3v a b c w
  have HP := Lib.hid hp
  have haa := leqB_self a
  clear hp
  go_enter Tryd.func5, Tryd.ntmps5
  go_wp2_with fail
  rw [← hW]
  clear hW
  go_cut [30] (fun s30 wx => s30 = .bool false ∧ Lies wx w.heap.size a ∧ Lies wx (w.heap.size + 1) b ∧ Lies wx (w.heap.size + 1 + 1) c ∧ Gr w wx)
  case first =>
    cases hab : leqB a b
    · refine wp_region_noPanic ?_
      refine wp_region_held_drew (S := (fun w' => Lies w' w.heap.size a ∧ Lies w' (w.heap.size + 1) b ∧ Lies w' (w.heap.size + 1 + 1) c ∧ Gr w w')) (by kernel_rfl) ?_ (fun hHeld => ?_)
      · exact ⟨hA, hB, hC, hg.drew⟩
      refine wpAnyH_ready (rs := [0]) (by kernel_rfl) (by simp) ?_
      refine AllReadyH.cons rfl (fun K hK => ?_) AllReadyH.nil
      go_simp
      go_at_call 8; refine (awake3 (by assumption) HP.out).mono ?_; rintro e w2 ⟨rfl, hb⟩
      go_wp2_with fail
      refine hK.out _ _ ?_ (fun hHeld => ?_)
      · exact keep3 (by assumption) hb
      clear hK K
      try simp only [Act.put, List.setIfInBounds_toArray, List.set_cons_zero, List.set_cons_succ]
      refine takeH (i := 1) (v := .bool false) (d := some 10) rfl rfl (by kernel_rfl) (by kernel_rfl) (by kernel_rfl) (fun _ _ _ h => h) (by rfl) ?_ (by assumption) ?_
      · (intro w hSw; (try dsimp only at hSw); go_simp)
      simp only [Act.put, List.setIfInBounds_toArray, List.set_cons_zero, List.set_cons_succ]
      refine takeH (i := 2) (v := .bool false) (d := some 11) rfl rfl (by kernel_rfl) (by kernel_rfl) (by kernel_rfl) (fun _ _ _ h => h) (by rfl) ?_ (by assumption) ?_
      · (intro w hSw; (try dsimp only at hSw); go_simp)
      simp only [Act.put, List.setIfInBounds_toArray, List.set_cons_zero, List.set_cons_succ]
      refine takeH (i := 3) (v := .agg (vcells a)) (d := some 12) rfl rfl (by kernel_rfl) (by kernel_rfl) (by kernel_rfl) (fun _ _ _ h => h) (by rfl) ?_ (by assumption) ?_
      · (intro w hSw; (try dsimp only at hSw); go_simp)
      simp only [Act.put, List.setIfInBounds_toArray, List.set_cons_zero, List.set_cons_succ]
      refine takeH (i := 4) (v := .agg (vcells a)) (d := some 13) rfl rfl (by kernel_rfl) (by kernel_rfl) (by kernel_rfl) (fun _ _ _ h => h) (by rfl) ?_ (by assumption) ?_
      · (intro w hSw; (try dsimp only at hSw); go_simp)
      simp only [Act.put, List.setIfInBounds_toArray, List.set_cons_zero, List.set_cons_succ]
      refine wpAnyH_ready (rs := [5]) (by kernel_rfl) (by simp) ?_
      refine AllReadyH.cons rfl (fun K hK => ?_) AllReadyH.nil
      go_simp
      go_at_call 9; refine (leq_is _ _ _ haa _).mono ?_; rintro e w2 ⟨rfl, hb⟩
      go_wp2_with fail
      refine hK.out _ _ ?_ (fun hHeld => ?_)
      · exact keep3 (by assumption) hb
      clear hK K
      try simp only [Act.put, List.setIfInBounds_toArray, List.set_cons_zero, List.set_cons_succ]
      refine takeH (i := 6) (v := .bool false) (d := some 15) rfl rfl (by kernel_rfl) (by kernel_rfl) (by kernel_rfl) (fun _ _ _ h => h) (by rfl) ?_ (by assumption) ?_
      · (intro w hSw; (try dsimp only at hSw); go_simp)
      simp only [Act.put, List.setIfInBounds_toArray, List.set_cons_zero, List.set_cons_succ]
      refine takeH (i := 7) (v := .bool false) (d := some 16) rfl rfl (by kernel_rfl) (by kernel_rfl) (by kernel_rfl) (fun _ _ _ h => h) (by rfl) ?_ (by assumption) ?_
      · (intro w hSw; (try dsimp only at hSw); go_simp)
      simp only [Act.put, List.setIfInBounds_toArray, List.set_cons_zero, List.set_cons_succ]
      refine takeH (i := 8) (v := .bool false) (d := some 17) rfl rfl (by kernel_rfl) (by kernel_rfl) (by kernel_rfl) (fun _ _ _ h => h) (by rfl) ?_ (by assumption) ?_
      · (intro w hSw; (try dsimp only at hSw); go_simp)
      simp only [Act.put, List.setIfInBounds_toArray, List.set_cons_zero, List.set_cons_succ]
      refine takeH (i := 9) (v := .agg (vcells a)) (d := some 18) rfl rfl (by kernel_rfl) (by kernel_rfl) (by kernel_rfl) (fun _ _ _ h => h) (by rfl) ?_ (by assumption) ?_
      · (intro w hSw; (try dsimp only at hSw); go_simp)
      simp only [Act.put, List.setIfInBounds_toArray, List.set_cons_zero, List.set_cons_succ]
      refine takeH (i := 10) (v := .agg (vcells b)) (d := some 19) rfl rfl (by kernel_rfl) (by kernel_rfl) (by kernel_rfl) (fun _ _ _ h => h) (by rfl) ?_ (by assumption) ?_
      · (intro w hSw; (try dsimp only at hSw); go_simp)
      simp only [Act.put, List.setIfInBounds_toArray, List.set_cons_zero, List.set_cons_succ]
      refine wpAnyH_ready (rs := [11]) (by kernel_rfl) (by simp) ?_
      refine AllReadyH.cons rfl (fun K hK => ?_) AllReadyH.nil
      go_simp
      go_at_call 9; refine (leq_is _ _ _ hab _).mono ?_; rintro e w2 ⟨rfl, hb⟩
      go_wp2_with fail
      refine hK.out _ _ ?_ (fun hHeld => ?_)
      · exact keep3 (by assumption) hb
      clear hK K
      try simp only [Act.put, List.setIfInBounds_toArray, List.set_cons_zero, List.set_cons_succ]
      refine takeH (i := 12) (v := .bool false) (d := some 21) rfl rfl (by kernel_rfl) (by kernel_rfl) (by kernel_rfl) (fun _ _ _ h => h) (by rfl) ?_ (by assumption) ?_
      · (intro w hSw; (try dsimp only at hSw); go_simp)
      simp only [Act.put, List.setIfInBounds_toArray, List.set_cons_zero, List.set_cons_succ]
      refine skipH (i := 13) (d := some 22) rfl rfl (by kernel_rfl) (by kernel_rfl) (by kernel_rfl) (fun _ _ _ h => h) (by rfl) (by assumption) ?_
      try simp only [Act.put, List.setIfInBounds_toArray, List.set_cons_zero, List.set_cons_succ]
      refine skipH (i := 14) (d := some 23) rfl rfl (by kernel_rfl) (by kernel_rfl) (by kernel_rfl) (fun _ _ _ h => h) (by rfl) (by assumption) ?_
      try simp only [Act.put, List.setIfInBounds_toArray, List.set_cons_zero, List.set_cons_succ]
      refine skipH (i := 15) (d := some 24) rfl rfl (by kernel_rfl) (by kernel_rfl) (by kernel_rfl) (fun _ _ _ h => h) (by rfl) (by assumption) ?_
      try simp only [Act.put, List.setIfInBounds_toArray, List.set_cons_zero, List.set_cons_succ]
      refine skipH (i := 16) (d := some 25) rfl rfl (by kernel_rfl) (by kernel_rfl) (by kernel_rfl) (fun _ _ _ h => h) (by rfl) (by assumption) ?_
      try simp only [Act.put, List.setIfInBounds_toArray, List.set_cons_zero, List.set_cons_succ]
      refine skipH (i := 17) (d := some 26) rfl rfl (by kernel_rfl) (by kernel_rfl) (by kernel_rfl) (fun _ _ _ h => h) (by rfl) (by assumption) ?_
      try simp only [Act.put, List.setIfInBounds_toArray, List.set_cons_zero, List.set_cons_succ]
      refine skipH (i := 18) (d := some 27) rfl rfl (by kernel_rfl) (by kernel_rfl) (by kernel_rfl) (fun _ _ _ h => h) (by rfl) (by assumption) ?_
      try simp only [Act.put, List.setIfInBounds_toArray, List.set_cons_zero, List.set_cons_succ]
      refine skipH (i := 19) (d := some 28) rfl rfl (by kernel_rfl) (by kernel_rfl) (by kernel_rfl) (fun _ _ _ h => h) (by rfl) (by assumption) ?_
      try simp only [Act.put, List.setIfInBounds_toArray, List.set_cons_zero, List.set_cons_succ]
      refine takeH (i := 20) (v := .bool false) (d := some 29) rfl rfl (by kernel_rfl) (by kernel_rfl) (by kernel_rfl) (fun _ _ _ h => h) (by rfl) ?_ (by assumption) ?_
      · (intro w hSw; (try dsimp only at hSw); go_simp)
      simp only [Act.put, List.setIfInBounds_toArray, List.set_cons_zero, List.set_cons_succ]
      refine takeH (i := 21) (v := .bool false) (d := some 30) rfl rfl (by kernel_rfl) (by kernel_rfl) (by kernel_rfl) (fun _ _ _ h => h) (by rfl) ?_ (by assumption) ?_
      · (intro w hSw; (try dsimp only at hSw); go_simp)
      simp only [Act.put, List.setIfInBounds_toArray, List.set_cons_zero, List.set_cons_succ]
      refine wpAnyH_done (by kernel_rfl) ?_ _
      refine NoPanic.normal ?_
      go_wp2_with fail
      go_meet
      exact ⟨rfl, ‹Lies w2 _ _ ∧ Lies w2 _ _ ∧ Lies w2 _ _ ∧ Gr w w2›⟩
    · have hba := leqB_anti hab
      have heq := fun w => equal_v a b w
      cases he : eqB a b
      all_goals
        rw [he] at hba heq
        clear he
        go_region_held3 (fun w' => Lies w' w.heap.size a ∧ Lies w' (w.heap.size + 1) b ∧ Lies w' (w.heap.size + 1 + 1) c ∧ Gr w w')
          (first
          | exact ⟨hA, hB, hC, hg.drew⟩
          | (refine keep3 ?_ hb; assumption))
          (first
          | (go_at_call 8; refine (awake3 (by assumption) HP.out).mono ?_; rintro e w2 ⟨rfl, hb⟩)
          | (go_at_call 9; refine (leq_is _ _ _ (by assumption) _).mono ?_; rintro e w2 ⟨rfl, hb⟩))
        go_wp2_with fail
        go_meet
        exact ⟨rfl, ‹Lies w2 _ _ ∧ Lies w2 _ _ ∧ Lies w2 _ _ ∧ Gr w w2›⟩
  case rest =>
    clear hA hB hC hg
    obtain ⟨rfl, hA, hB, hC, hg⟩ := hcut
    have HG := Lib.hid hg
    clear hg
    go_upto_region 3 with (fail)
    go_cut [44] (fun s44 wx => s44 = .bool false ∧ Lies wx w.heap.size a ∧ Lies wx (w.heap.size + 1) b ∧ Lies wx (w.heap.size + 1 + 1) c ∧ Gr w wx)
    case first =>
      cases hab : leqB a b
      · go_wp2_with fail
        refine (leq_is _ _ _ hab _).mono ?_
        rintro e w3 ⟨rfl, hb⟩
        replace hA := hA.gr hb
        replace hB := hB.gr hb
        replace hC := hC.gr hb
        replace HG := Lib.hid (HG.out.trans hb)
        clear hb
        go_wp2_with fail
        go_meet
        exact ⟨rfl, hA, hB, hC, HG.out⟩
      · cases hbc : leqB b c
        · go_wp2_with fail
          refine (leq_is _ _ _ hab _).mono ?_
          rintro e w3 ⟨rfl, hb⟩
          replace hA := hA.gr hb
          replace hB := hB.gr hb
          replace hC := hC.gr hb
          replace HG := Lib.hid (HG.out.trans hb)
          clear hb
          go_wp2_with fail
          refine (leq_is _ _ _ hbc _).mono ?_
          rintro e w4 ⟨rfl, hb⟩
          replace hA := hA.gr hb
          replace hB := hB.gr hb
          replace hC := hC.gr hb
          replace HG := Lib.hid (HG.out.trans hb)
          clear hb
          go_wp2_with fail
          go_meet
          exact ⟨rfl, hA, hB, hC, HG.out⟩
        · have hac := leqB_trans hab hbc
          go_wp2_with fail
          refine (leq_is _ _ _ hab _).mono ?_
          rintro e w3 ⟨rfl, hb⟩
          replace hA := hA.gr hb
          replace hB := hB.gr hb
          replace hC := hC.gr hb
          replace HG := Lib.hid (HG.out.trans hb)
          clear hb
          go_wp2_with fail
          refine (leq_is _ _ _ hbc _).mono ?_
          rintro e w4 ⟨rfl, hb⟩
          replace hA := hA.gr hb
          replace hB := hB.gr hb
          replace hC := hC.gr hb
          replace HG := Lib.hid (HG.out.trans hb)
          clear hb
          go_wp2_with fail
          refine (leq_is _ _ _ hac _).mono ?_
          rintro e w5 ⟨rfl, hb⟩
          replace hA := hA.gr hb
          replace hB := hB.gr hb
          replace hC := hC.gr hb
          replace HG := Lib.hid (HG.out.trans hb)
          clear hb
          go_wp2_with fail
          go_meet
          exact ⟨rfl, hA, hB, hC, HG.out⟩
    case rest =>
      clear hA hB hC HG
      obtain ⟨rfl, hA, hB, hC, hg⟩ := hcut
      have HG := Lib.hid hg
      clear hg
      go_upto_region 5 with (fail)
      go_cut [7, 8] (fun s7 s8 wx => ∃ g7 g8 : Nat, s7 = .pointer (some ⟨g7, 0, none⟩) ∧ s8 = .pointer (some ⟨g8, 0, none⟩) ∧ Lies wx g7 (jn a b) ∧ Lies wx g8 (mt a b) ∧ Lies wx w.heap.size a ∧ Lies wx (w.heap.size + 1) b ∧ Lies wx (w.heap.size + 1 + 1) c ∧ Gr w wx)
      case first =>
        go_region_held3 (fun w' => Lies w' w.heap.size a ∧ Lies w' (w.heap.size + 1) b ∧ Lies w' (w.heap.size + 1 + 1) c ∧ Gr wc w')
          (first
            | (with_reducible refine keepW hA hB hC ?_; repeat (first | with_reducible assumption | with_reducible apply Gr.refl | with_reducible apply Gr.alloc | with_reducible apply Gr.drew | with_reducible apply Gr.set0 | with_reducible apply Gr.set1 | (with_reducible apply Gr.set2 ‹wc.heap.size ≤ w2.heap.size›) | (with_reducible apply Gr.set3 ‹wc.heap.size ≤ w2.heap.size›))))
          (first
            | (go_at_call 11; refine (join_any _ _ _).mono ?_; rintro e w2 ⟨rfl, hb⟩; have hG2 := (‹Lies _ _ _ ∧ Lies _ _ _ ∧ Lies _ _ _ ∧ Gr wc _›).2.2.2.trans hb; have z2 := hG2.size; (first | (have t20 : ToFill w2 wc.heap.size := by (refine ToFill.gr ?_ hb; first | (with_reducible assumption) | (with_reducible apply ToFill.alloc; with_reducible assumption) | (unfold ToFill; simp; done) | (unfold ToFill; simp; omega))) | skip); (first | (have t21 : ToFill w2 (wc.heap.size + 1) := by (refine ToFill.gr ?_ hb; first | (with_reducible assumption) | (with_reducible apply ToFill.alloc; with_reducible assumption) | (unfold ToFill; simp; done) | (unfold ToFill; simp; omega))) | skip))
            | (go_at_call 13; refine (meet_any _ _ _).mono ?_; rintro e w3 ⟨rfl, hb⟩; have hG3 := (‹Lies _ _ _ ∧ Lies _ _ _ ∧ Lies _ _ _ ∧ Gr wc _›).2.2.2.trans hb; have z3 := hG3.size; (first | (have t30 : ToFill w3 wc.heap.size := by (refine ToFill.gr ?_ hb; first | (with_reducible assumption) | (with_reducible apply ToFill.alloc; with_reducible assumption) | (unfold ToFill; simp; done) | (unfold ToFill; simp; omega))) | skip); (first | (have t31 : ToFill w3 (wc.heap.size + 1) := by (refine ToFill.gr ?_ hb; first | (with_reducible assumption) | (with_reducible apply ToFill.alloc; with_reducible assumption) | (unfold ToFill; simp; done) | (unfold ToFill; simp; omega))) | skip); (first | (have t32 : ToFill w3 w2.heap.size := by (refine ToFill.gr ?_ hb; first | (with_reducible assumption) | (with_reducible apply ToFill.alloc; with_reducible assumption) | (unfold ToFill; simp; done) | (unfold ToFill; simp; omega))) | skip); (first | (have t33 : ToFill w3 (w2.heap.size + 1) := by (refine ToFill.gr ?_ hb; first | (with_reducible assumption) | (with_reducible apply ToFill.alloc; with_reducible assumption) | (unfold ToFill; simp; done) | (unfold ToFill; simp; omega))) | skip)))
        all_goals
          have hS := ‹Lies _ _ _ ∧ Lies _ _ _ ∧ Lies _ _ _ ∧ Gr wc _›
          go_wp2_with fail
          go_meet
          refine ⟨_, _, rfl, rfl, ?_, ?_, hS.1, hS.2.1, hS.2.2.1, HG.out.trans hS.2.2.2⟩
          all_goals (refine ⟨?_, ?_, ?_, ?_, ?_, ?_, ?_, ?_⟩ <;> go_simp)
      case rest =>
        clear hA hB hC HG
        obtain ⟨g7, g8, rfl, rfl, hJ, hM, hA, hB, hC, hg⟩ := hcut
        have HG := Lib.hid hg
        clear hg
        go_wp2_with fail
        refine (leq_is _ _ _ (leqB_jn1 a b) _).mono ?_
        rintro e w3 ⟨rfl, hb⟩
        replace hA := hA.gr hb
        replace hB := hB.gr hb
        replace hC := hC.gr hb
        replace hJ := hJ.gr hb
        replace hM := hM.gr hb
        replace HG := Lib.hid (HG.out.trans hb)
        clear hb
        go_wp2_with fail
        refine (leq_is _ _ _ (leqB_jn2 a b) _).mono ?_
        rintro e w4 ⟨rfl, hb⟩
        replace hA := hA.gr hb
        replace hB := hB.gr hb
        replace hC := hC.gr hb
        replace hJ := hJ.gr hb
        replace hM := hM.gr hb
        replace HG := Lib.hid (HG.out.trans hb)
        clear hb
        go_wp2_with fail
        refine (leq_is _ _ _ (leqB_mt1 a b) _).mono ?_
        rintro e w5 ⟨rfl, hb⟩
        replace hA := hA.gr hb
        replace hB := hB.gr hb
        replace hC := hC.gr hb
        replace hJ := hJ.gr hb
        replace hM := hM.gr hb
        replace HG := Lib.hid (HG.out.trans hb)
        clear hb
        go_wp2_with fail
        refine (leq_is _ _ _ (leqB_mt2 a b) _).mono ?_
        rintro e w6 ⟨rfl, hb⟩
        replace hA := hA.gr hb
        replace hB := hB.gr hb
        replace hC := hC.gr hb
        replace hJ := hJ.gr hb
        replace hM := hM.gr hb
        replace HG := Lib.hid (HG.out.trans hb)
        clear hb
        go_wp2_with fail
        have hg := HG.out
        clear HG
        have hj := leqB_jn a b c
        have hm := leqB_mt a b c
        generalize hbc : leqB b c = y at hj
        generalize hcb : leqB c b = u at hm
        cases hac : leqB a c <;> cases hca : leqB c a
        all_goals rw [hac] at hj
        all_goals rw [hca] at hm
        all_goals simp only [Bool.false_and, Bool.true_and] at hj hm
        · refine wp_region_noPanic ?_
          refine wp_region_held_drew (S := (fun w' => Lies w' w.heap.size a ∧ Lies w' (w.heap.size + 1) b ∧ Lies w' (w.heap.size + 1 + 1) c ∧ Lies w' g7 (jn a b) ∧ Lies w' g8 (mt a b) ∧ Gr w w')) (by kernel_rfl) ?_ (fun hHeld => ?_)
          · exact ⟨hA, hB, hC, hJ, hM, hg.drew⟩
          refine takeH (i := 0) (v := .agg (vcells (jn a b))) (d := some 73) rfl rfl (by kernel_rfl) (by kernel_rfl) (by kernel_rfl) (fun _ _ _ h => h) (by rfl) ?_ (by assumption) ?_
          · (intro w hSw; (try dsimp only at hSw); go_simp)
          simp only [Act.put, List.setIfInBounds_toArray, List.set_cons_zero, List.set_cons_succ]
          refine takeH (i := 1) (v := .agg (vcells c)) (d := some 74) rfl rfl (by kernel_rfl) (by kernel_rfl) (by kernel_rfl) (fun _ _ _ h => h) (by rfl) ?_ (by assumption) ?_
          · (intro w hSw; (try dsimp only at hSw); go_simp)
          simp only [Act.put, List.setIfInBounds_toArray, List.set_cons_zero, List.set_cons_succ]
          refine takeH (i := 3) (v := .agg (vcells a)) (d := some 76) rfl rfl (by kernel_rfl) (by kernel_rfl) (by kernel_rfl) (fun _ _ _ h => h) (by rfl) ?_ (by assumption) ?_
          · (intro w hSw; (try dsimp only at hSw); go_simp)
          simp only [Act.put, List.setIfInBounds_toArray, List.set_cons_zero, List.set_cons_succ]
          refine takeH (i := 4) (v := .agg (vcells c)) (d := some 77) rfl rfl (by kernel_rfl) (by kernel_rfl) (by kernel_rfl) (fun _ _ _ h => h) (by rfl) ?_ (by assumption) ?_
          · (intro w hSw; (try dsimp only at hSw); go_simp)
          simp only [Act.put, List.setIfInBounds_toArray, List.set_cons_zero, List.set_cons_succ]
          refine wpAnyH_ready (rs := [2]) (by kernel_rfl) (by simp) ?_
          refine AllReadyH.cons rfl (fun K hK => ?_) AllReadyH.nil
          go_simp
          go_at_call 9; refine (leq_is _ _ _ hj _).mono ?_; rintro e w2 ⟨rfl, hb⟩
          go_wp2_with fail
          refine hK.out _ _ ?_ (fun hHeld => ?_)
          · exact keep5 (by assumption) hb
          clear hK K
          try simp only [Act.put, List.setIfInBounds_toArray, List.set_cons_zero, List.set_cons_succ]
          refine wpAnyH_ready (rs := [5]) (by kernel_rfl) (by simp) ?_
          refine AllReadyH.cons rfl (fun K hK => ?_) AllReadyH.nil
          go_simp
          go_at_call 9; refine (leq_is _ _ _ hac _).mono ?_; rintro e w2 ⟨rfl, hb⟩
          go_wp2_with fail
          refine hK.out _ _ ?_ (fun hHeld => ?_)
          · exact keep5 (by assumption) hb
          clear hK K
          try simp only [Act.put, List.setIfInBounds_toArray, List.set_cons_zero, List.set_cons_succ]
          refine takeH (i := 6) (v := .bool false) (d := some 79) rfl rfl (by kernel_rfl) (by kernel_rfl) (by kernel_rfl) (fun _ _ _ h => h) (by rfl) ?_ (by assumption) ?_
          · (intro w hSw; (try dsimp only at hSw); go_simp)
          simp only [Act.put, List.setIfInBounds_toArray, List.set_cons_zero, List.set_cons_succ]
          refine skipH (i := 7) (d := some 80) rfl rfl (by kernel_rfl) (by kernel_rfl) (by kernel_rfl) (fun _ _ _ h => h) (by rfl) (by assumption) ?_
          try simp only [Act.put, List.setIfInBounds_toArray, List.set_cons_zero, List.set_cons_succ]
          refine skipH (i := 8) (d := some 81) rfl rfl (by kernel_rfl) (by kernel_rfl) (by kernel_rfl) (fun _ _ _ h => h) (by rfl) (by assumption) ?_
          try simp only [Act.put, List.setIfInBounds_toArray, List.set_cons_zero, List.set_cons_succ]
          refine skipH (i := 9) (d := some 82) rfl rfl (by kernel_rfl) (by kernel_rfl) (by kernel_rfl) (fun _ _ _ h => h) (by rfl) (by assumption) ?_
          try simp only [Act.put, List.setIfInBounds_toArray, List.set_cons_zero, List.set_cons_succ]
          refine takeH (i := 10) (v := .bool false) (d := some 83) rfl rfl (by kernel_rfl) (by kernel_rfl) (by kernel_rfl) (fun _ _ _ h => h) (by rfl) ?_ (by assumption) ?_
          · (intro w hSw; (try dsimp only at hSw); go_simp)
          simp only [Act.put, List.setIfInBounds_toArray, List.set_cons_zero, List.set_cons_succ]
          refine takeH (i := 11) (v := .bool true) (d := some 84) rfl rfl (by kernel_rfl) (by kernel_rfl) (by kernel_rfl) (fun _ _ _ h => h) (by rfl) ?_ (by assumption) ?_
          · (intro w hSw; (try dsimp only at hSw); go_simp)
          simp only [Act.put, List.setIfInBounds_toArray, List.set_cons_zero, List.set_cons_succ]
          refine takeH (i := 12) (v := .bool true) (d := some 85) rfl rfl (by kernel_rfl) (by kernel_rfl) (by kernel_rfl) (fun _ _ _ h => h) (by rfl) ?_ (by assumption) ?_
          · (intro w hSw; (try dsimp only at hSw); go_simp)
          simp only [Act.put, List.setIfInBounds_toArray, List.set_cons_zero, List.set_cons_succ]
          refine takeH (i := 13) (v := .agg (vcells c)) (d := some 86) rfl rfl (by kernel_rfl) (by kernel_rfl) (by kernel_rfl) (fun _ _ _ h => h) (by rfl) ?_ (by assumption) ?_
          · (intro w hSw; (try dsimp only at hSw); go_simp)
          simp only [Act.put, List.setIfInBounds_toArray, List.set_cons_zero, List.set_cons_succ]
          refine takeH (i := 14) (v := .agg (vcells (mt a b))) (d := some 87) rfl rfl (by kernel_rfl) (by kernel_rfl) (by kernel_rfl) (fun _ _ _ h => h) (by rfl) ?_ (by assumption) ?_
          · (intro w hSw; (try dsimp only at hSw); go_simp)
          simp only [Act.put, List.setIfInBounds_toArray, List.set_cons_zero, List.set_cons_succ]
          refine takeH (i := 16) (v := .agg (vcells c)) (d := some 89) rfl rfl (by kernel_rfl) (by kernel_rfl) (by kernel_rfl) (fun _ _ _ h => h) (by rfl) ?_ (by assumption) ?_
          · (intro w hSw; (try dsimp only at hSw); go_simp)
          simp only [Act.put, List.setIfInBounds_toArray, List.set_cons_zero, List.set_cons_succ]
          refine takeH (i := 17) (v := .agg (vcells a)) (d := some 90) rfl rfl (by kernel_rfl) (by kernel_rfl) (by kernel_rfl) (fun _ _ _ h => h) (by rfl) ?_ (by assumption) ?_
          · (intro w hSw; (try dsimp only at hSw); go_simp)
          simp only [Act.put, List.setIfInBounds_toArray, List.set_cons_zero, List.set_cons_succ]
          refine wpAnyH_ready (rs := [15]) (by kernel_rfl) (by simp) ?_
          refine AllReadyH.cons rfl (fun K hK => ?_) AllReadyH.nil
          go_simp
          go_at_call 9; refine (leq_is _ _ _ hm _).mono ?_; rintro e w2 ⟨rfl, hb⟩
          go_wp2_with fail
          refine hK.out _ _ ?_ (fun hHeld => ?_)
          · exact keep5 (by assumption) hb
          clear hK K
          try simp only [Act.put, List.setIfInBounds_toArray, List.set_cons_zero, List.set_cons_succ]
          refine wpAnyH_ready (rs := [18]) (by kernel_rfl) (by simp) ?_
          refine AllReadyH.cons rfl (fun K hK => ?_) AllReadyH.nil
          go_simp
          go_at_call 9; refine (leq_is _ _ _ hca _).mono ?_; rintro e w2 ⟨rfl, hb⟩
          go_wp2_with fail
          refine hK.out _ _ ?_ (fun hHeld => ?_)
          · exact keep5 (by assumption) hb
          clear hK K
          try simp only [Act.put, List.setIfInBounds_toArray, List.set_cons_zero, List.set_cons_succ]
          refine takeH (i := 19) (v := .bool false) (d := some 92) rfl rfl (by kernel_rfl) (by kernel_rfl) (by kernel_rfl) (fun _ _ _ h => h) (by rfl) ?_ (by assumption) ?_
          · (intro w hSw; (try dsimp only at hSw); go_simp)
          simp only [Act.put, List.setIfInBounds_toArray, List.set_cons_zero, List.set_cons_succ]
          refine skipH (i := 20) (d := some 93) rfl rfl (by kernel_rfl) (by kernel_rfl) (by kernel_rfl) (fun _ _ _ h => h) (by rfl) (by assumption) ?_
          try simp only [Act.put, List.setIfInBounds_toArray, List.set_cons_zero, List.set_cons_succ]
          refine skipH (i := 21) (d := some 94) rfl rfl (by kernel_rfl) (by kernel_rfl) (by kernel_rfl) (fun _ _ _ h => h) (by rfl) (by assumption) ?_
          try simp only [Act.put, List.setIfInBounds_toArray, List.set_cons_zero, List.set_cons_succ]
          refine skipH (i := 22) (d := some 95) rfl rfl (by kernel_rfl) (by kernel_rfl) (by kernel_rfl) (fun _ _ _ h => h) (by rfl) (by assumption) ?_
          try simp only [Act.put, List.setIfInBounds_toArray, List.set_cons_zero, List.set_cons_succ]
          refine takeH (i := 23) (v := .bool false) (d := some 96) rfl rfl (by kernel_rfl) (by kernel_rfl) (by kernel_rfl) (fun _ _ _ h => h) (by rfl) ?_ (by assumption) ?_
          · (intro w hSw; (try dsimp only at hSw); go_simp)
          simp only [Act.put, List.setIfInBounds_toArray, List.set_cons_zero, List.set_cons_succ]
          refine takeH (i := 24) (v := .bool true) (d := some 97) rfl rfl (by kernel_rfl) (by kernel_rfl) (by kernel_rfl) (fun _ _ _ h => h) (by rfl) ?_ (by assumption) ?_
          · (intro w hSw; (try dsimp only at hSw); go_simp)
          simp only [Act.put, List.setIfInBounds_toArray, List.set_cons_zero, List.set_cons_succ]
          refine takeH (i := 25) (v := .bool true) (d := some 98) rfl rfl (by kernel_rfl) (by kernel_rfl) (by kernel_rfl) (fun _ _ _ h => h) (by rfl) ?_ (by assumption) ?_
          · (intro w hSw; (try dsimp only at hSw); go_simp)
          simp only [Act.put, List.setIfInBounds_toArray, List.set_cons_zero, List.set_cons_succ]
          refine takeH (i := 26) (v := .bool true) (d := some 6) rfl rfl (by kernel_rfl) (by kernel_rfl) (by kernel_rfl) (fun _ _ _ h => h) (by rfl) ?_ (by assumption) ?_
          · (intro w hSw; (try dsimp only at hSw); go_simp)
          simp only [Act.put, List.setIfInBounds_toArray, List.set_cons_zero, List.set_cons_succ]
          refine wpAnyH_done (by kernel_rfl) ?_ _
          refine NoPanic.normal ?_
          have hS := ‹Lies w2 _ _ ∧ Lies w2 _ _ ∧ Lies w2 _ _ ∧ Lies w2 _ _ ∧ Lies w2 _ _ ∧ Gr w w2›.2.2.2.2.2
          have HS := Lib.hid hS
          clear hS
          go_wp2_with fail
          go_ret
          exact ⟨rfl, HS.out⟩
        · refine wp_region_noPanic ?_
          refine wp_region_held_drew (S := (fun w' => Lies w' w.heap.size a ∧ Lies w' (w.heap.size + 1) b ∧ Lies w' (w.heap.size + 1 + 1) c ∧ Lies w' g7 (jn a b) ∧ Lies w' g8 (mt a b) ∧ Gr w w')) (by kernel_rfl) ?_ (fun hHeld => ?_)
          · exact ⟨hA, hB, hC, hJ, hM, hg.drew⟩
          refine takeH (i := 0) (v := .agg (vcells (jn a b))) (d := some 73) rfl rfl (by kernel_rfl) (by kernel_rfl) (by kernel_rfl) (fun _ _ _ h => h) (by rfl) ?_ (by assumption) ?_
          · (intro w hSw; (try dsimp only at hSw); go_simp)
          simp only [Act.put, List.setIfInBounds_toArray, List.set_cons_zero, List.set_cons_succ]
          refine takeH (i := 1) (v := .agg (vcells c)) (d := some 74) rfl rfl (by kernel_rfl) (by kernel_rfl) (by kernel_rfl) (fun _ _ _ h => h) (by rfl) ?_ (by assumption) ?_
          · (intro w hSw; (try dsimp only at hSw); go_simp)
          simp only [Act.put, List.setIfInBounds_toArray, List.set_cons_zero, List.set_cons_succ]
          refine takeH (i := 3) (v := .agg (vcells a)) (d := some 76) rfl rfl (by kernel_rfl) (by kernel_rfl) (by kernel_rfl) (fun _ _ _ h => h) (by rfl) ?_ (by assumption) ?_
          · (intro w hSw; (try dsimp only at hSw); go_simp)
          simp only [Act.put, List.setIfInBounds_toArray, List.set_cons_zero, List.set_cons_succ]
          refine takeH (i := 4) (v := .agg (vcells c)) (d := some 77) rfl rfl (by kernel_rfl) (by kernel_rfl) (by kernel_rfl) (fun _ _ _ h => h) (by rfl) ?_ (by assumption) ?_
          · (intro w hSw; (try dsimp only at hSw); go_simp)
          simp only [Act.put, List.setIfInBounds_toArray, List.set_cons_zero, List.set_cons_succ]
          refine wpAnyH_ready (rs := [2]) (by kernel_rfl) (by simp) ?_
          refine AllReadyH.cons rfl (fun K hK => ?_) AllReadyH.nil
          go_simp
          go_at_call 9; refine (leq_is _ _ _ hj _).mono ?_; rintro e w2 ⟨rfl, hb⟩
          go_wp2_with fail
          refine hK.out _ _ ?_ (fun hHeld => ?_)
          · exact keep5 (by assumption) hb
          clear hK K
          try simp only [Act.put, List.setIfInBounds_toArray, List.set_cons_zero, List.set_cons_succ]
          refine wpAnyH_ready (rs := [5]) (by kernel_rfl) (by simp) ?_
          refine AllReadyH.cons rfl (fun K hK => ?_) AllReadyH.nil
          go_simp
          go_at_call 9; refine (leq_is _ _ _ hac _).mono ?_; rintro e w2 ⟨rfl, hb⟩
          go_wp2_with fail
          refine hK.out _ _ ?_ (fun hHeld => ?_)
          · exact keep5 (by assumption) hb
          clear hK K
          try simp only [Act.put, List.setIfInBounds_toArray, List.set_cons_zero, List.set_cons_succ]
          refine takeH (i := 6) (v := .bool false) (d := some 79) rfl rfl (by kernel_rfl) (by kernel_rfl) (by kernel_rfl) (fun _ _ _ h => h) (by rfl) ?_ (by assumption) ?_
          · (intro w hSw; (try dsimp only at hSw); go_simp)
          simp only [Act.put, List.setIfInBounds_toArray, List.set_cons_zero, List.set_cons_succ]
          refine skipH (i := 7) (d := some 80) rfl rfl (by kernel_rfl) (by kernel_rfl) (by kernel_rfl) (fun _ _ _ h => h) (by rfl) (by assumption) ?_
          try simp only [Act.put, List.setIfInBounds_toArray, List.set_cons_zero, List.set_cons_succ]
          refine skipH (i := 8) (d := some 81) rfl rfl (by kernel_rfl) (by kernel_rfl) (by kernel_rfl) (fun _ _ _ h => h) (by rfl) (by assumption) ?_
          try simp only [Act.put, List.setIfInBounds_toArray, List.set_cons_zero, List.set_cons_succ]
          refine skipH (i := 9) (d := some 82) rfl rfl (by kernel_rfl) (by kernel_rfl) (by kernel_rfl) (fun _ _ _ h => h) (by rfl) (by assumption) ?_
          try simp only [Act.put, List.setIfInBounds_toArray, List.set_cons_zero, List.set_cons_succ]
          refine takeH (i := 10) (v := .bool false) (d := some 83) rfl rfl (by kernel_rfl) (by kernel_rfl) (by kernel_rfl) (fun _ _ _ h => h) (by rfl) ?_ (by assumption) ?_
          · (intro w hSw; (try dsimp only at hSw); go_simp)
          simp only [Act.put, List.setIfInBounds_toArray, List.set_cons_zero, List.set_cons_succ]
          refine takeH (i := 11) (v := .bool true) (d := some 84) rfl rfl (by kernel_rfl) (by kernel_rfl) (by kernel_rfl) (fun _ _ _ h => h) (by rfl) ?_ (by assumption) ?_
          · (intro w hSw; (try dsimp only at hSw); go_simp)
          simp only [Act.put, List.setIfInBounds_toArray, List.set_cons_zero, List.set_cons_succ]
          refine takeH (i := 12) (v := .bool true) (d := some 85) rfl rfl (by kernel_rfl) (by kernel_rfl) (by kernel_rfl) (fun _ _ _ h => h) (by rfl) ?_ (by assumption) ?_
          · (intro w hSw; (try dsimp only at hSw); go_simp)
          simp only [Act.put, List.setIfInBounds_toArray, List.set_cons_zero, List.set_cons_succ]
          refine takeH (i := 13) (v := .agg (vcells c)) (d := some 86) rfl rfl (by kernel_rfl) (by kernel_rfl) (by kernel_rfl) (fun _ _ _ h => h) (by rfl) ?_ (by assumption) ?_
          · (intro w hSw; (try dsimp only at hSw); go_simp)
          simp only [Act.put, List.setIfInBounds_toArray, List.set_cons_zero, List.set_cons_succ]
          refine takeH (i := 14) (v := .agg (vcells (mt a b))) (d := some 87) rfl rfl (by kernel_rfl) (by kernel_rfl) (by kernel_rfl) (fun _ _ _ h => h) (by rfl) ?_ (by assumption) ?_
          · (intro w hSw; (try dsimp only at hSw); go_simp)
          simp only [Act.put, List.setIfInBounds_toArray, List.set_cons_zero, List.set_cons_succ]
          refine takeH (i := 16) (v := .agg (vcells c)) (d := some 89) rfl rfl (by kernel_rfl) (by kernel_rfl) (by kernel_rfl) (fun _ _ _ h => h) (by rfl) ?_ (by assumption) ?_
          · (intro w hSw; (try dsimp only at hSw); go_simp)
          simp only [Act.put, List.setIfInBounds_toArray, List.set_cons_zero, List.set_cons_succ]
          refine takeH (i := 17) (v := .agg (vcells a)) (d := some 90) rfl rfl (by kernel_rfl) (by kernel_rfl) (by kernel_rfl) (fun _ _ _ h => h) (by rfl) ?_ (by assumption) ?_
          · (intro w hSw; (try dsimp only at hSw); go_simp)
          simp only [Act.put, List.setIfInBounds_toArray, List.set_cons_zero, List.set_cons_succ]
          refine wpAnyH_ready (rs := [15]) (by kernel_rfl) (by simp) ?_
          refine AllReadyH.cons rfl (fun K hK => ?_) AllReadyH.nil
          go_simp
          go_at_call 9; refine (leq_is _ _ _ hm _).mono ?_; rintro e w2 ⟨rfl, hb⟩
          go_wp2_with fail
          refine hK.out _ _ ?_ (fun hHeld => ?_)
          · exact keep5 (by assumption) hb
          clear hK K
          try simp only [Act.put, List.setIfInBounds_toArray, List.set_cons_zero, List.set_cons_succ]
          refine wpAnyH_ready (rs := [18]) (by kernel_rfl) (by simp) ?_
          refine AllReadyH.cons rfl (fun K hK => ?_) AllReadyH.nil
          go_simp
          go_at_call 9; refine (leq_is _ _ _ hca _).mono ?_; rintro e w2 ⟨rfl, hb⟩
          go_wp2_with fail
          refine hK.out _ _ ?_ (fun hHeld => ?_)
          · exact keep5 (by assumption) hb
          clear hK K
          try simp only [Act.put, List.setIfInBounds_toArray, List.set_cons_zero, List.set_cons_succ]
          refine takeH (i := 19) (v := .bool true) (d := some 92) rfl rfl (by kernel_rfl) (by kernel_rfl) (by kernel_rfl) (fun _ _ _ h => h) (by rfl) ?_ (by assumption) ?_
          · (intro w hSw; (try dsimp only at hSw); go_simp)
          simp only [Act.put, List.setIfInBounds_toArray, List.set_cons_zero, List.set_cons_succ]
          refine takeH (i := 20) (v := .agg (vcells c)) (d := some 93) rfl rfl (by kernel_rfl) (by kernel_rfl) (by kernel_rfl) (fun _ _ _ h => h) (by rfl) ?_ (by assumption) ?_
          · (intro w hSw; (try dsimp only at hSw); go_simp)
          simp only [Act.put, List.setIfInBounds_toArray, List.set_cons_zero, List.set_cons_succ]
          refine takeH (i := 21) (v := .agg (vcells b)) (d := some 94) rfl rfl (by kernel_rfl) (by kernel_rfl) (by kernel_rfl) (fun _ _ _ h => h) (by rfl) ?_ (by assumption) ?_
          · (intro w hSw; (try dsimp only at hSw); go_simp)
          simp only [Act.put, List.setIfInBounds_toArray, List.set_cons_zero, List.set_cons_succ]
          refine wpAnyH_ready (rs := [22]) (by kernel_rfl) (by simp) ?_
          refine AllReadyH.cons rfl (fun K hK => ?_) AllReadyH.nil
          go_simp
          go_at_call 9; refine (leq_is _ _ _ hcb _).mono ?_; rintro e w2 ⟨rfl, hb⟩
          go_wp2_with fail
          refine hK.out _ _ ?_ (fun hHeld => ?_)
          · exact keep5 (by assumption) hb
          clear hK K
          try simp only [Act.put, List.setIfInBounds_toArray, List.set_cons_zero, List.set_cons_succ]
          refine takeH (i := 23) (v := .bool u) (d := some 96) rfl rfl (by kernel_rfl) (by kernel_rfl) (by kernel_rfl) (fun _ _ _ h => h) (by rfl) ?_ (by assumption) ?_
          · (intro w hSw; (try dsimp only at hSw); go_simp)
          simp only [Act.put, List.setIfInBounds_toArray, List.set_cons_zero, List.set_cons_succ]
          refine takeH (i := 24) (v := .bool true) (d := some 97) rfl rfl (by kernel_rfl) (by kernel_rfl) (by kernel_rfl) (fun _ _ _ h => h) (by rfl) ?_ (by assumption) ?_
          · (intro w hSw; (try dsimp only at hSw); go_simp)
          simp only [Act.put, List.setIfInBounds_toArray, List.set_cons_zero, List.set_cons_succ]
          refine takeH (i := 25) (v := .bool true) (d := some 98) rfl rfl (by kernel_rfl) (by kernel_rfl) (by kernel_rfl) (fun _ _ _ h => h) (by rfl) ?_ (by assumption) ?_
          · (intro w hSw; (try dsimp only at hSw); go_simp)
          simp only [Act.put, List.setIfInBounds_toArray, List.set_cons_zero, List.set_cons_succ]
          refine takeH (i := 26) (v := .bool true) (d := some 6) rfl rfl (by kernel_rfl) (by kernel_rfl) (by kernel_rfl) (fun _ _ _ h => h) (by rfl) ?_ (by assumption) ?_
          · (intro w hSw; (try dsimp only at hSw); go_simp)
          simp only [Act.put, List.setIfInBounds_toArray, List.set_cons_zero, List.set_cons_succ]
          refine wpAnyH_done (by kernel_rfl) ?_ _
          refine NoPanic.normal ?_
          have hS := ‹Lies w2 _ _ ∧ Lies w2 _ _ ∧ Lies w2 _ _ ∧ Lies w2 _ _ ∧ Lies w2 _ _ ∧ Gr w w2›.2.2.2.2.2
          have HS := Lib.hid hS
          clear hS
          go_wp2_with fail
          go_ret
          exact ⟨rfl, HS.out⟩
        · refine wp_region_noPanic ?_
          refine wp_region_held_drew (S := (fun w' => Lies w' w.heap.size a ∧ Lies w' (w.heap.size + 1) b ∧ Lies w' (w.heap.size + 1 + 1) c ∧ Lies w' g7 (jn a b) ∧ Lies w' g8 (mt a b) ∧ Gr w w')) (by kernel_rfl) ?_ (fun hHeld => ?_)
          · exact ⟨hA, hB, hC, hJ, hM, hg.drew⟩
          refine takeH (i := 0) (v := .agg (vcells (jn a b))) (d := some 73) rfl rfl (by kernel_rfl) (by kernel_rfl) (by kernel_rfl) (fun _ _ _ h => h) (by rfl) ?_ (by assumption) ?_
          · (intro w hSw; (try dsimp only at hSw); go_simp)
          simp only [Act.put, List.setIfInBounds_toArray, List.set_cons_zero, List.set_cons_succ]
          refine takeH (i := 1) (v := .agg (vcells c)) (d := some 74) rfl rfl (by kernel_rfl) (by kernel_rfl) (by kernel_rfl) (fun _ _ _ h => h) (by rfl) ?_ (by assumption) ?_
          · (intro w hSw; (try dsimp only at hSw); go_simp)
          simp only [Act.put, List.setIfInBounds_toArray, List.set_cons_zero, List.set_cons_succ]
          refine takeH (i := 3) (v := .agg (vcells a)) (d := some 76) rfl rfl (by kernel_rfl) (by kernel_rfl) (by kernel_rfl) (fun _ _ _ h => h) (by rfl) ?_ (by assumption) ?_
          · (intro w hSw; (try dsimp only at hSw); go_simp)
          simp only [Act.put, List.setIfInBounds_toArray, List.set_cons_zero, List.set_cons_succ]
          refine takeH (i := 4) (v := .agg (vcells c)) (d := some 77) rfl rfl (by kernel_rfl) (by kernel_rfl) (by kernel_rfl) (fun _ _ _ h => h) (by rfl) ?_ (by assumption) ?_
          · (intro w hSw; (try dsimp only at hSw); go_simp)
          simp only [Act.put, List.setIfInBounds_toArray, List.set_cons_zero, List.set_cons_succ]
          refine wpAnyH_ready (rs := [2]) (by kernel_rfl) (by simp) ?_
          refine AllReadyH.cons rfl (fun K hK => ?_) AllReadyH.nil
          go_simp
          go_at_call 9; refine (leq_is _ _ _ hj _).mono ?_; rintro e w2 ⟨rfl, hb⟩
          go_wp2_with fail
          refine hK.out _ _ ?_ (fun hHeld => ?_)
          · exact keep5 (by assumption) hb
          clear hK K
          try simp only [Act.put, List.setIfInBounds_toArray, List.set_cons_zero, List.set_cons_succ]
          refine wpAnyH_ready (rs := [5]) (by kernel_rfl) (by simp) ?_
          refine AllReadyH.cons rfl (fun K hK => ?_) AllReadyH.nil
          go_simp
          go_at_call 9; refine (leq_is _ _ _ hac _).mono ?_; rintro e w2 ⟨rfl, hb⟩
          go_wp2_with fail
          refine hK.out _ _ ?_ (fun hHeld => ?_)
          · exact keep5 (by assumption) hb
          clear hK K
          try simp only [Act.put, List.setIfInBounds_toArray, List.set_cons_zero, List.set_cons_succ]
          refine takeH (i := 6) (v := .bool true) (d := some 79) rfl rfl (by kernel_rfl) (by kernel_rfl) (by kernel_rfl) (fun _ _ _ h => h) (by rfl) ?_ (by assumption) ?_
          · (intro w hSw; (try dsimp only at hSw); go_simp)
          simp only [Act.put, List.setIfInBounds_toArray, List.set_cons_zero, List.set_cons_succ]
          refine takeH (i := 7) (v := .agg (vcells b)) (d := some 80) rfl rfl (by kernel_rfl) (by kernel_rfl) (by kernel_rfl) (fun _ _ _ h => h) (by rfl) ?_ (by assumption) ?_
          · (intro w hSw; (try dsimp only at hSw); go_simp)
          simp only [Act.put, List.setIfInBounds_toArray, List.set_cons_zero, List.set_cons_succ]
          refine takeH (i := 8) (v := .agg (vcells c)) (d := some 81) rfl rfl (by kernel_rfl) (by kernel_rfl) (by kernel_rfl) (fun _ _ _ h => h) (by rfl) ?_ (by assumption) ?_
          · (intro w hSw; (try dsimp only at hSw); go_simp)
          simp only [Act.put, List.setIfInBounds_toArray, List.set_cons_zero, List.set_cons_succ]
          refine wpAnyH_ready (rs := [9]) (by kernel_rfl) (by simp) ?_
          refine AllReadyH.cons rfl (fun K hK => ?_) AllReadyH.nil
          go_simp
          go_at_call 9; refine (leq_is _ _ _ hbc _).mono ?_; rintro e w2 ⟨rfl, hb⟩
          go_wp2_with fail
          refine hK.out _ _ ?_ (fun hHeld => ?_)
          · exact keep5 (by assumption) hb
          clear hK K
          try simp only [Act.put, List.setIfInBounds_toArray, List.set_cons_zero, List.set_cons_succ]
          refine takeH (i := 10) (v := .bool y) (d := some 83) rfl rfl (by kernel_rfl) (by kernel_rfl) (by kernel_rfl) (fun _ _ _ h => h) (by rfl) ?_ (by assumption) ?_
          · (intro w hSw; (try dsimp only at hSw); go_simp)
          simp only [Act.put, List.setIfInBounds_toArray, List.set_cons_zero, List.set_cons_succ]
          refine takeH (i := 11) (v := .bool true) (d := some 84) rfl rfl (by kernel_rfl) (by kernel_rfl) (by kernel_rfl) (fun _ _ _ h => h) (by rfl) ?_ (by assumption) ?_
          · (intro w hSw; (try dsimp only at hSw); go_simp)
          simp only [Act.put, List.setIfInBounds_toArray, List.set_cons_zero, List.set_cons_succ]
          refine takeH (i := 12) (v := .bool true) (d := some 85) rfl rfl (by kernel_rfl) (by kernel_rfl) (by kernel_rfl) (fun _ _ _ h => h) (by rfl) ?_ (by assumption) ?_
          · (intro w hSw; (try dsimp only at hSw); go_simp)
          simp only [Act.put, List.setIfInBounds_toArray, List.set_cons_zero, List.set_cons_succ]
          refine takeH (i := 13) (v := .agg (vcells c)) (d := some 86) rfl rfl (by kernel_rfl) (by kernel_rfl) (by kernel_rfl) (fun _ _ _ h => h) (by rfl) ?_ (by assumption) ?_
          · (intro w hSw; (try dsimp only at hSw); go_simp)
          simp only [Act.put, List.setIfInBounds_toArray, List.set_cons_zero, List.set_cons_succ]
          refine takeH (i := 14) (v := .agg (vcells (mt a b))) (d := some 87) rfl rfl (by kernel_rfl) (by kernel_rfl) (by kernel_rfl) (fun _ _ _ h => h) (by rfl) ?_ (by assumption) ?_
          · (intro w hSw; (try dsimp only at hSw); go_simp)
          simp only [Act.put, List.setIfInBounds_toArray, List.set_cons_zero, List.set_cons_succ]
          refine takeH (i := 16) (v := .agg (vcells c)) (d := some 89) rfl rfl (by kernel_rfl) (by kernel_rfl) (by kernel_rfl) (fun _ _ _ h => h) (by rfl) ?_ (by assumption) ?_
          · (intro w hSw; (try dsimp only at hSw); go_simp)
          simp only [Act.put, List.setIfInBounds_toArray, List.set_cons_zero, List.set_cons_succ]
          refine takeH (i := 17) (v := .agg (vcells a)) (d := some 90) rfl rfl (by kernel_rfl) (by kernel_rfl) (by kernel_rfl) (fun _ _ _ h => h) (by rfl) ?_ (by assumption) ?_
          · (intro w hSw; (try dsimp only at hSw); go_simp)
          simp only [Act.put, List.setIfInBounds_toArray, List.set_cons_zero, List.set_cons_succ]
          refine wpAnyH_ready (rs := [15]) (by kernel_rfl) (by simp) ?_
          refine AllReadyH.cons rfl (fun K hK => ?_) AllReadyH.nil
          go_simp
          go_at_call 9; refine (leq_is _ _ _ hm _).mono ?_; rintro e w2 ⟨rfl, hb⟩
          go_wp2_with fail
          refine hK.out _ _ ?_ (fun hHeld => ?_)
          · exact keep5 (by assumption) hb
          clear hK K
          try simp only [Act.put, List.setIfInBounds_toArray, List.set_cons_zero, List.set_cons_succ]
          refine wpAnyH_ready (rs := [18]) (by kernel_rfl) (by simp) ?_
          refine AllReadyH.cons rfl (fun K hK => ?_) AllReadyH.nil
          go_simp
          go_at_call 9; refine (leq_is _ _ _ hca _).mono ?_; rintro e w2 ⟨rfl, hb⟩
          go_wp2_with fail
          refine hK.out _ _ ?_ (fun hHeld => ?_)
          · exact keep5 (by assumption) hb
          clear hK K
          try simp only [Act.put, List.setIfInBounds_toArray, List.set_cons_zero, List.set_cons_succ]
          refine takeH (i := 19) (v := .bool false) (d := some 92) rfl rfl (by kernel_rfl) (by kernel_rfl) (by kernel_rfl) (fun _ _ _ h => h) (by rfl) ?_ (by assumption) ?_
          · (intro w hSw; (try dsimp only at hSw); go_simp)
          simp only [Act.put, List.setIfInBounds_toArray, List.set_cons_zero, List.set_cons_succ]
          refine skipH (i := 20) (d := some 93) rfl rfl (by kernel_rfl) (by kernel_rfl) (by kernel_rfl) (fun _ _ _ h => h) (by rfl) (by assumption) ?_
          try simp only [Act.put, List.setIfInBounds_toArray, List.set_cons_zero, List.set_cons_succ]
          refine skipH (i := 21) (d := some 94) rfl rfl (by kernel_rfl) (by kernel_rfl) (by kernel_rfl) (fun _ _ _ h => h) (by rfl) (by assumption) ?_
          try simp only [Act.put, List.setIfInBounds_toArray, List.set_cons_zero, List.set_cons_succ]
          refine skipH (i := 22) (d := some 95) rfl rfl (by kernel_rfl) (by kernel_rfl) (by kernel_rfl) (fun _ _ _ h => h) (by rfl) (by assumption) ?_
          try simp only [Act.put, List.setIfInBounds_toArray, List.set_cons_zero, List.set_cons_succ]
          refine takeH (i := 23) (v := .bool false) (d := some 96) rfl rfl (by kernel_rfl) (by kernel_rfl) (by kernel_rfl) (fun _ _ _ h => h) (by rfl) ?_ (by assumption) ?_
          · (intro w hSw; (try dsimp only at hSw); go_simp)
          simp only [Act.put, List.setIfInBounds_toArray, List.set_cons_zero, List.set_cons_succ]
          refine takeH (i := 24) (v := .bool true) (d := some 97) rfl rfl (by kernel_rfl) (by kernel_rfl) (by kernel_rfl) (fun _ _ _ h => h) (by rfl) ?_ (by assumption) ?_
          · (intro w hSw; (try dsimp only at hSw); go_simp)
          simp only [Act.put, List.setIfInBounds_toArray, List.set_cons_zero, List.set_cons_succ]
          refine takeH (i := 25) (v := .bool true) (d := some 98) rfl rfl (by kernel_rfl) (by kernel_rfl) (by kernel_rfl) (fun _ _ _ h => h) (by rfl) ?_ (by assumption) ?_
          · (intro w hSw; (try dsimp only at hSw); go_simp)
          simp only [Act.put, List.setIfInBounds_toArray, List.set_cons_zero, List.set_cons_succ]
          refine takeH (i := 26) (v := .bool true) (d := some 6) rfl rfl (by kernel_rfl) (by kernel_rfl) (by kernel_rfl) (fun _ _ _ h => h) (by rfl) ?_ (by assumption) ?_
          · (intro w hSw; (try dsimp only at hSw); go_simp)
          simp only [Act.put, List.setIfInBounds_toArray, List.set_cons_zero, List.set_cons_succ]
          refine wpAnyH_done (by kernel_rfl) ?_ _
          refine NoPanic.normal ?_
          have hS := ‹Lies w2 _ _ ∧ Lies w2 _ _ ∧ Lies w2 _ _ ∧ Lies w2 _ _ ∧ Lies w2 _ _ ∧ Gr w w2›.2.2.2.2.2
          have HS := Lib.hid hS
          clear hS
          go_wp2_with fail
          go_ret
          exact ⟨rfl, HS.out⟩
        · refine wp_region_noPanic ?_
          refine wp_region_held_drew (S := (fun w' => Lies w' w.heap.size a ∧ Lies w' (w.heap.size + 1) b ∧ Lies w' (w.heap.size + 1 + 1) c ∧ Lies w' g7 (jn a b) ∧ Lies w' g8 (mt a b) ∧ Gr w w')) (by kernel_rfl) ?_ (fun hHeld => ?_)
          · exact ⟨hA, hB, hC, hJ, hM, hg.drew⟩
          refine takeH (i := 0) (v := .agg (vcells (jn a b))) (d := some 73) rfl rfl (by kernel_rfl) (by kernel_rfl) (by kernel_rfl) (fun _ _ _ h => h) (by rfl) ?_ (by assumption) ?_
          · (intro w hSw; (try dsimp only at hSw); go_simp)
          simp only [Act.put, List.setIfInBounds_toArray, List.set_cons_zero, List.set_cons_succ]
          refine takeH (i := 1) (v := .agg (vcells c)) (d := some 74) rfl rfl (by kernel_rfl) (by kernel_rfl) (by kernel_rfl) (fun _ _ _ h => h) (by rfl) ?_ (by assumption) ?_
          · (intro w hSw; (try dsimp only at hSw); go_simp)
          simp only [Act.put, List.setIfInBounds_toArray, List.set_cons_zero, List.set_cons_succ]
          refine takeH (i := 3) (v := .agg (vcells a)) (d := some 76) rfl rfl (by kernel_rfl) (by kernel_rfl) (by kernel_rfl) (fun _ _ _ h => h) (by rfl) ?_ (by assumption) ?_
          · (intro w hSw; (try dsimp only at hSw); go_simp)
          simp only [Act.put, List.setIfInBounds_toArray, List.set_cons_zero, List.set_cons_succ]
          refine takeH (i := 4) (v := .agg (vcells c)) (d := some 77) rfl rfl (by kernel_rfl) (by kernel_rfl) (by kernel_rfl) (fun _ _ _ h => h) (by rfl) ?_ (by assumption) ?_
          · (intro w hSw; (try dsimp only at hSw); go_simp)
          simp only [Act.put, List.setIfInBounds_toArray, List.set_cons_zero, List.set_cons_succ]
          refine wpAnyH_ready (rs := [2]) (by kernel_rfl) (by simp) ?_
          refine AllReadyH.cons rfl (fun K hK => ?_) AllReadyH.nil
          go_simp
          go_at_call 9; refine (leq_is _ _ _ hj _).mono ?_; rintro e w2 ⟨rfl, hb⟩
          go_wp2_with fail
          refine hK.out _ _ ?_ (fun hHeld => ?_)
          · exact keep5 (by assumption) hb
          clear hK K
          try simp only [Act.put, List.setIfInBounds_toArray, List.set_cons_zero, List.set_cons_succ]
          refine wpAnyH_ready (rs := [5]) (by kernel_rfl) (by simp) ?_
          refine AllReadyH.cons rfl (fun K hK => ?_) AllReadyH.nil
          go_simp
          go_at_call 9; refine (leq_is _ _ _ hac _).mono ?_; rintro e w2 ⟨rfl, hb⟩
          go_wp2_with fail
          refine hK.out _ _ ?_ (fun hHeld => ?_)
          · exact keep5 (by assumption) hb
          clear hK K
          try simp only [Act.put, List.setIfInBounds_toArray, List.set_cons_zero, List.set_cons_succ]
          refine takeH (i := 6) (v := .bool true) (d := some 79) rfl rfl (by kernel_rfl) (by kernel_rfl) (by kernel_rfl) (fun _ _ _ h => h) (by rfl) ?_ (by assumption) ?_
          · (intro w hSw; (try dsimp only at hSw); go_simp)
          simp only [Act.put, List.setIfInBounds_toArray, List.set_cons_zero, List.set_cons_succ]
          refine takeH (i := 7) (v := .agg (vcells b)) (d := some 80) rfl rfl (by kernel_rfl) (by kernel_rfl) (by kernel_rfl) (fun _ _ _ h => h) (by rfl) ?_ (by assumption) ?_
          · (intro w hSw; (try dsimp only at hSw); go_simp)
          simp only [Act.put, List.setIfInBounds_toArray, List.set_cons_zero, List.set_cons_succ]
          refine takeH (i := 8) (v := .agg (vcells c)) (d := some 81) rfl rfl (by kernel_rfl) (by kernel_rfl) (by kernel_rfl) (fun _ _ _ h => h) (by rfl) ?_ (by assumption) ?_
          · (intro w hSw; (try dsimp only at hSw); go_simp)
          simp only [Act.put, List.setIfInBounds_toArray, List.set_cons_zero, List.set_cons_succ]
          refine wpAnyH_ready (rs := [9]) (by kernel_rfl) (by simp) ?_
          refine AllReadyH.cons rfl (fun K hK => ?_) AllReadyH.nil
          go_simp
          go_at_call 9; refine (leq_is _ _ _ hbc _).mono ?_; rintro e w2 ⟨rfl, hb⟩
          go_wp2_with fail
          refine hK.out _ _ ?_ (fun hHeld => ?_)
          · exact keep5 (by assumption) hb
          clear hK K
          try simp only [Act.put, List.setIfInBounds_toArray, List.set_cons_zero, List.set_cons_succ]
          refine takeH (i := 10) (v := .bool y) (d := some 83) rfl rfl (by kernel_rfl) (by kernel_rfl) (by kernel_rfl) (fun _ _ _ h => h) (by rfl) ?_ (by assumption) ?_
          · (intro w hSw; (try dsimp only at hSw); go_simp)
          simp only [Act.put, List.setIfInBounds_toArray, List.set_cons_zero, List.set_cons_succ]
          refine takeH (i := 11) (v := .bool true) (d := some 84) rfl rfl (by kernel_rfl) (by kernel_rfl) (by kernel_rfl) (fun _ _ _ h => h) (by rfl) ?_ (by assumption) ?_
          · (intro w hSw; (try dsimp only at hSw); go_simp)
          simp only [Act.put, List.setIfInBounds_toArray, List.set_cons_zero, List.set_cons_succ]
          refine takeH (i := 12) (v := .bool true) (d := some 85) rfl rfl (by kernel_rfl) (by kernel_rfl) (by kernel_rfl) (fun _ _ _ h => h) (by rfl) ?_ (by assumption) ?_
          · (intro w hSw; (try dsimp only at hSw); go_simp)
          simp only [Act.put, List.setIfInBounds_toArray, List.set_cons_zero, List.set_cons_succ]
          refine takeH (i := 13) (v := .agg (vcells c)) (d := some 86) rfl rfl (by kernel_rfl) (by kernel_rfl) (by kernel_rfl) (fun _ _ _ h => h) (by rfl) ?_ (by assumption) ?_
          · (intro w hSw; (try dsimp only at hSw); go_simp)
          simp only [Act.put, List.setIfInBounds_toArray, List.set_cons_zero, List.set_cons_succ]
          refine takeH (i := 14) (v := .agg (vcells (mt a b))) (d := some 87) rfl rfl (by kernel_rfl) (by kernel_rfl) (by kernel_rfl) (fun _ _ _ h => h) (by rfl) ?_ (by assumption) ?_
          · (intro w hSw; (try dsimp only at hSw); go_simp)
          simp only [Act.put, List.setIfInBounds_toArray, List.set_cons_zero, List.set_cons_succ]
          refine takeH (i := 16) (v := .agg (vcells c)) (d := some 89) rfl rfl (by kernel_rfl) (by kernel_rfl) (by kernel_rfl) (fun _ _ _ h => h) (by rfl) ?_ (by assumption) ?_
          · (intro w hSw; (try dsimp only at hSw); go_simp)
          simp only [Act.put, List.setIfInBounds_toArray, List.set_cons_zero, List.set_cons_succ]
          refine takeH (i := 17) (v := .agg (vcells a)) (d := some 90) rfl rfl (by kernel_rfl) (by kernel_rfl) (by kernel_rfl) (fun _ _ _ h => h) (by rfl) ?_ (by assumption) ?_
          · (intro w hSw; (try dsimp only at hSw); go_simp)
          simp only [Act.put, List.setIfInBounds_toArray, List.set_cons_zero, List.set_cons_succ]
          refine wpAnyH_ready (rs := [15]) (by kernel_rfl) (by simp) ?_
          refine AllReadyH.cons rfl (fun K hK => ?_) AllReadyH.nil
          go_simp
          go_at_call 9; refine (leq_is _ _ _ hm _).mono ?_; rintro e w2 ⟨rfl, hb⟩
          go_wp2_with fail
          refine hK.out _ _ ?_ (fun hHeld => ?_)
          · exact keep5 (by assumption) hb
          clear hK K
          try simp only [Act.put, List.setIfInBounds_toArray, List.set_cons_zero, List.set_cons_succ]
          refine wpAnyH_ready (rs := [18]) (by kernel_rfl) (by simp) ?_
          refine AllReadyH.cons rfl (fun K hK => ?_) AllReadyH.nil
          go_simp
          go_at_call 9; refine (leq_is _ _ _ hca _).mono ?_; rintro e w2 ⟨rfl, hb⟩
          go_wp2_with fail
          refine hK.out _ _ ?_ (fun hHeld => ?_)
          · exact keep5 (by assumption) hb
          clear hK K
          try simp only [Act.put, List.setIfInBounds_toArray, List.set_cons_zero, List.set_cons_succ]
          refine takeH (i := 19) (v := .bool true) (d := some 92) rfl rfl (by kernel_rfl) (by kernel_rfl) (by kernel_rfl) (fun _ _ _ h => h) (by rfl) ?_ (by assumption) ?_
          · (intro w hSw; (try dsimp only at hSw); go_simp)
          simp only [Act.put, List.setIfInBounds_toArray, List.set_cons_zero, List.set_cons_succ]
          refine takeH (i := 20) (v := .agg (vcells c)) (d := some 93) rfl rfl (by kernel_rfl) (by kernel_rfl) (by kernel_rfl) (fun _ _ _ h => h) (by rfl) ?_ (by assumption) ?_
          · (intro w hSw; (try dsimp only at hSw); go_simp)
          simp only [Act.put, List.setIfInBounds_toArray, List.set_cons_zero, List.set_cons_succ]
          refine takeH (i := 21) (v := .agg (vcells b)) (d := some 94) rfl rfl (by kernel_rfl) (by kernel_rfl) (by kernel_rfl) (fun _ _ _ h => h) (by rfl) ?_ (by assumption) ?_
          · (intro w hSw; (try dsimp only at hSw); go_simp)
          simp only [Act.put, List.setIfInBounds_toArray, List.set_cons_zero, List.set_cons_succ]
          refine wpAnyH_ready (rs := [22]) (by kernel_rfl) (by simp) ?_
          refine AllReadyH.cons rfl (fun K hK => ?_) AllReadyH.nil
          go_simp
          go_at_call 9; refine (leq_is _ _ _ hcb _).mono ?_; rintro e w2 ⟨rfl, hb⟩
          go_wp2_with fail
          refine hK.out _ _ ?_ (fun hHeld => ?_)
          · exact keep5 (by assumption) hb
          clear hK K
          try simp only [Act.put, List.setIfInBounds_toArray, List.set_cons_zero, List.set_cons_succ]
          refine takeH (i := 23) (v := .bool u) (d := some 96) rfl rfl (by kernel_rfl) (by kernel_rfl) (by kernel_rfl) (fun _ _ _ h => h) (by rfl) ?_ (by assumption) ?_
          · (intro w hSw; (try dsimp only at hSw); go_simp)
          simp only [Act.put, List.setIfInBounds_toArray, List.set_cons_zero, List.set_cons_succ]
          refine takeH (i := 24) (v := .bool true) (d := some 97) rfl rfl (by kernel_rfl) (by kernel_rfl) (by kernel_rfl) (fun _ _ _ h => h) (by rfl) ?_ (by assumption) ?_
          · (intro w hSw; (try dsimp only at hSw); go_simp)
          simp only [Act.put, List.setIfInBounds_toArray, List.set_cons_zero, List.set_cons_succ]
          refine takeH (i := 25) (v := .bool true) (d := some 98) rfl rfl (by kernel_rfl) (by kernel_rfl) (by kernel_rfl) (fun _ _ _ h => h) (by rfl) ?_ (by assumption) ?_
          · (intro w hSw; (try dsimp only at hSw); go_simp)
          simp only [Act.put, List.setIfInBounds_toArray, List.set_cons_zero, List.set_cons_succ]
          refine takeH (i := 26) (v := .bool true) (d := some 6) rfl rfl (by kernel_rfl) (by kernel_rfl) (by kernel_rfl) (fun _ _ _ h => h) (by rfl) ?_ (by assumption) ?_
          · (intro w hSw; (try dsimp only at hSw); go_simp)
          simp only [Act.put, List.setIfInBounds_toArray, List.set_cons_zero, List.set_cons_succ]
          refine wpAnyH_done (by kernel_rfl) ?_ _
          refine NoPanic.normal ?_
          have hS := ‹Lies w2 _ _ ∧ Lies w2 _ _ ∧ Lies w2 _ _ ∧ Lies w2 _ _ ∧ Lies w2 _ _ ∧ Gr w w2›.2.2.2.2.2
          have HS := Lib.hid hS
          clear hS
          go_wp2_with fail
          go_ret
          exact ⟨rfl, HS.out⟩
theorem vecLattice_law2 (a : Nat → Nat) (_ : VOk a) (b : Nat → Nat) (_ : VOk b) (c : Nat → Nat) (_ : VOk c) (w : World) (hp : Pow w) :
    Calls Tryd.prog 5 #[.agg (vcells a), .agg (vcells b), .agg (vcells c)] w fun e w' => e = .returned (.bool true) ∧ Gr w w' := vecLattice_law a b c w hp
end Go.Proofs.YtnamjgbppgdgeaaDoor
