/- Walk: the program's Chosen: two times over the votes, by a map. -/
import Derived.Test.YtboonfbbnidmbaaVoJ
import Derived.Test.YtboonfbbnidmbaaInvR
import Derived.Test.YtboonfbbnidmbaaQTail
namespace Go.Proofs.Ytboonfbbnidmbaa
open Go.RowKit Vo
set_option linter.unusedSimpArgs false
set_option linter.unusedVariables false

theorem vslotE {A : Act} {t : Nat} {v : Value} (h : A.eval (.tmp t) = v) : A.tmps[t]?.getD undef = v := by
  rw [← h]
  simp [Act.eval, Array.getD_eq_getD_getElem?]
/-- What the operations of Chosen's first round have left. -/
structure ChI (V : Nat → Value) (Pre : World → Prop) (Mid : Value → World → Prop) (End : World → Prop) (vals : Vals) (w : World) : Prop where
  fx : ∀ j y, j ≤ 11 → vals j = some y → y = V j
  p12 : vals 12 = none → Pre w ∧ vals 13 = none ∧ vals 14 = none
  p14 : ∀ y, vals 12 = some y → vals 14 = none → Mid y w ∧ ∃ z, vals 10 = some z
  p13 : ∀ y z, vals 12 = some y → vals 13 = some z → ∃ v0, y = .tuple #[v0, z]
  pe : ∀ y, vals 14 = some y → End w ∧ ∀ j, j ≤ 13 → ∃ z, vals j = some z
section
variable {V : Nat → Value} {Pre : World → Prop} {Mid : Value → World → Prop} {End : World → Prop} {vals : Vals} {w : World}
theorem ChI.start (h : Pre w) : ChI V Pre Mid End (fun _ => none) w :=
  ⟨fun _ _ _ h => (by cases h), fun _ => ⟨h, rfl, rfl⟩, fun _ h => (by cases h), fun _ _ h => (by cases h), fun _ h => (by cases h)⟩
theorem ChI.fix (h : ChI V Pre Mid End vals w) {j : Nat} (hj : j ≤ 11) : ChI V Pre Mid End (vals.up j (V j)) w := by
  have e12 : (vals.up j (V j)) 12 = vals 12 := Vals.up_ne _ _ (by omega)
  have e13 : (vals.up j (V j)) 13 = vals 13 := Vals.up_ne _ _ (by omega)
  have e14 : (vals.up j (V j)) 14 = vals 14 := Vals.up_ne _ _ (by omega)
  have es : ∀ i, (∃ z, vals i = some z) → ∃ z, (vals.up j (V j)) i = some z := fun i ⟨z, hz⟩ => by
    by_cases e : i = j
    · subst e; exact ⟨_, Vals.up_at _ _ _⟩
    · exact ⟨z, by rw [Vals.up_ne _ _ e]; exact hz⟩
  refine ⟨fun i y hi hy => ?_, fun h12 => ?_, fun y h12 h14 => ?_, fun y z h12 h13 => ?_, fun y h14 => ?_⟩
  · by_cases e : i = j
    · subst e
      rw [Vals.up_at] at hy
      exact (Option.some.inj hy).symm
    · rw [Vals.up_ne _ _ e] at hy
      exact h.fx i y hi hy
  · rw [e12] at h12
    rw [e13, e14]
    exact h.p12 h12
  · rw [e12] at h12
    rw [e14] at h14
    obtain ⟨a, b⟩ := h.p14 y h12 h14
    exact ⟨a, es 10 b⟩
  · rw [e12] at h12
    rw [e13] at h13
    exact h.p13 y z h12 h13
  · rw [e14] at h14
    obtain ⟨a, b⟩ := h.pe y h14
    exact ⟨a, fun i hi => es i (b i hi)⟩
theorem ChI.early (h : ChI V Pre Mid End vals w) (hn : vals 10 = none) : vals 12 = none := by
  cases e : vals 12 with
  | none => rfl
  | some y =>
    cases e4 : vals 14 with
    | none => obtain ⟨_, z, hz⟩ := h.p14 y e e4; rw [hn] at hz; cases hz
    | some t => obtain ⟨z, hz⟩ := (h.pe t e4).2 10 (by decide); rw [hn] at hz; cases hz
theorem ChI.grow (h : ChI V Pre Mid End vals w) {w' : World} (hn : vals 12 = none) (hw : Pre w') : ChI V Pre Mid End vals w' :=
  ⟨h.fx, fun h12 => ⟨hw, (h.p12 h12).2⟩, fun y h12 => (by rw [hn] at h12; cases h12), h.p13, fun y h14 => (by rw [(h.p12 hn).2.2] at h14; cases h14)⟩
theorem ChI.entry (h : ChI V Pre Mid End vals w) {w' : World} {y : Value} (hn : vals 12 = none) (h10 : ∃ z, vals 10 = some z) (hw : Mid y w') : ChI V Pre Mid End (vals.up 12 y) w' := by
  have e13 : (vals.up 12 y) 13 = none := by rw [Vals.up_ne _ _ (by decide)]; exact (h.p12 hn).2.1
  have e14 : (vals.up 12 y) 14 = none := by rw [Vals.up_ne _ _ (by decide)]; exact (h.p12 hn).2.2
  refine ⟨fun i z hi hz => h.fx i z hi (by rw [Vals.up_ne _ _ (by omega)] at hz; exact hz), fun h12 => (by rw [Vals.up_at] at h12; cases h12), fun z h12 _ => ?_, fun _ z _ h13 => (by rw [e13] at h13; cases h13), fun z h14 => (by rw [e14] at h14; cases h14)⟩
  rw [Vals.up_at] at h12
  rw [← Option.some.inj h12]
  obtain ⟨z, hz⟩ := h10
  exact ⟨hw, z, by rw [Vals.up_ne _ _ (by decide)]; exact hz⟩
theorem ChI.stamp (h : ChI V Pre Mid End vals w) {y v0 z : Value} (h12 : vals 12 = some y) (hy : y = .tuple #[v0, z]) : ChI V Pre Mid End (vals.up 13 z) w := by
  have e12 : (vals.up 13 z) 12 = vals 12 := Vals.up_ne _ _ (by decide)
  have e14 : (vals.up 13 z) 14 = vals 14 := Vals.up_ne _ _ (by decide)
  refine ⟨fun i x hi hx => h.fx i x hi (by rw [Vals.up_ne _ _ (by omega)] at hx; exact hx), fun hq => (by rw [e12, h12] at hq; cases hq), fun x hx h14 => ?_, fun x t hx ht => ?_, fun x h14 => ?_⟩
  · rw [e12] at hx
    rw [e14] at h14
    obtain ⟨a, t, b⟩ := h.p14 x hx h14
    exact ⟨a, t, by rw [Vals.up_ne _ _ (by decide)]; exact b⟩
  · rw [Vals.up_at] at ht
    rw [e12, h12] at hx
    rw [← Option.some.inj ht, ← Option.some.inj hx]
    exact ⟨v0, hy⟩
  · rw [e14] at h14
    obtain ⟨a, b⟩ := h.pe x h14
    refine ⟨a, fun i hi => ?_⟩
    by_cases e : i = 13
    · subst e; exact ⟨z, Vals.up_at _ _ _⟩
    · obtain ⟨t, ht⟩ := b i hi
      exact ⟨t, by rw [Vals.up_ne _ _ e]; exact ht⟩
theorem ChI.done (h : ChI V Pre Mid End vals w) {w' : World} {y : Value} (hall : ∀ j, j ≤ 13 → ∃ z, vals j = some z) (hw : End w') : ChI V Pre Mid End (vals.up 14 y) w' := by
  have ne : ∀ i, i ≤ 13 → (vals.up 14 y) i = vals i := fun i hi => Vals.up_ne _ _ (by omega)
  refine ⟨fun i z hi hz => h.fx i z hi (by rw [ne i (by omega)] at hz; exact hz), fun h12 => ?_, fun z h12 h14 => (by rw [Vals.up_at] at h14; cases h14), fun a b ha hb => h.p13 a b (by rw [ne 12 (by decide)] at ha; exact ha) (by rw [ne 13 (by decide)] at hb; exact hb), fun z _ => ⟨hw, fun i hi => ?_⟩⟩
  · rw [ne 12 (by decide)] at h12
    obtain ⟨z, hz⟩ := hall 12 (by decide)
    rw [h12] at hz
    cases hz
  · rw [ne i hi]
    exact hall i hi
/-- What holds whatever came ahead. -/
theorem ChI.all {Ca : World → Prop} (h : ChI V Pre Mid End vals w) (h1 : ∀ w, Pre w → Ca w) (h2 : ∀ y w, Mid y w → Ca w) (h3 : ∀ w, End w → Ca w) : Ca w := by
  cases e : vals 12 with
  | none => exact h1 w (h.p12 e).1
  | some y =>
    cases e4 : vals 14 with
    | none => exact h2 y w (h.p14 y e e4).1
    | some t => exact h3 w (h.pe t e4).1
/-- What holds as long as nothing is stored. -/
theorem ChI.open' {Ca : World → Prop} (h : ChI V Pre Mid End vals w) (hn : vals 14 = none) (h1 : ∀ w, Pre w → Ca w) (h2 : ∀ y w, Mid y w → Ca w) : Ca w := by
  cases e : vals 12 with
  | none => exact h1 w (h.p12 e).1
  | some y => exact h2 y w (h.p14 y e hn).1
theorem ChI.none14 (h : ChI V Pre Mid End vals w) {j : Nat} (hj : j ≤ 13) (hn : vals j = none) : vals 14 = none := by
  cases e : vals 14 with
  | none => rfl
  | some t =>
    obtain ⟨z, hz⟩ := (h.pe t e).2 j hj
    rw [hn] at hz
    cases hz
end
/-- The crowds of all ballots and values. -/
def CrowdF (S : Nat → Bool) (L : List Vt) (F : Nat → ByteArray → Nat) : Prop := ∀ y x, Crowd S (crowdP (sameFor y x) L) (F y x)
theorem CrowdF.start (S : Nat → Bool) : CrowdF S [] (fun _ _ => 0) := fun _ _ => (Crowd.zero S).congr fun _ _ => rfl
theorem CrowdF.next {S : Nat → Bool} {L : List Vt} {F : Nat → ByteArray → Nat} (h : CrowdF S L F) (v : Vt) : CrowdF S (L ++ [v]) (upC F v.bal v.val (F v.bal v.val ||| bitN S v.who)) := by
  intro y x
  unfold upC
  by_cases e : y = v.bal ∧ x = v.val
  · obtain ⟨rfl, rfl⟩ := e
    rw [if_pos ⟨rfl, rfl⟩]
    exact (h v.bal v.val).take (by unfold sameFor; simp)
  · rw [if_neg e]
    refine (h y x).leave ?_
    unfold sameFor
    rw [Bool.eq_false_iff]
    intro q
    simp only [Bool.and_eq_true, decide_eq_true_eq] at q
    exact e ⟨q.1.symm, q.2.symm⟩
theorem CrowdF.wins {S : Nat → Bool} {L : List Vt} {F : Nat → ByteArray → Nat} (h : CrowdF S L F) (v : Vt) : mostB S (F v.bal v.val) = wins S L v := (h v.bal v.val).most
theorem chosen_at {S : Nat → Bool} {L : List Vt} {k : Nat} {v : Vt} (hk : L[k]? = some v) (hb : ∀ u ∈ L.take k, wins S L u = false) (hw : wins S L v = true) : chosenO S L = some v.val := by
  have e : L = L.take k ++ v :: L.drop (k + 1) := by
    obtain ⟨hl, hv⟩ := List.getElem?_eq_some_iff.1 hk
    rw [← hv, ← List.drop_eq_getElem_cons hl, List.take_append_drop]
  unfold chosenO
  have hf : L.find? (wins S L) = some v := by
    have h2 : ∀ (p : Vt → Bool) (A B : List Vt), (∀ u ∈ A, p u = false) → p v = true → (A ++ v :: B).find? p = some v := by
      intro p A B hA hv
      induction A with
      | nil => simp [List.find?, hv]
      | cons a r ih =>
        rw [List.cons_append, List.find?_cons, hA a (by simp)]
        exact ih fun u hu => hA u (by simp [hu])
    have h3 := h2 (wins S L) (L.take k) (L.drop (k + 1)) hb hw
    rw [← e] at h3
    exact h3
  rw [hf]
  rfl
theorem chosen_none {S : Nat → Bool} {L : List Vt} (hb : ∀ u ∈ L, wins S L u = false) : chosenO S L = none := by
  unfold chosenO
  rw [List.find?_eq_none.2 (fun u hu => by rw [hb u hu]; decide)]
  rfl
abbrev VoteAt (who : Int) (y z : Nat) (x : ByteArray) (b : Nat) (w' : World) : Prop := w'.cell? ⟨b, 0, none⟩ = some (.int .i64 who) ∧ w'.cell? ⟨b, 1, none⟩ = some (.int .u64 (y : Int)) ∧ w'.cell? ⟨b, 2, none⟩ = some (.int .u64 (z : Int)) ∧ w'.cell? ⟨b, 3, none⟩ = some (.string x)
abbrev SetC (S : Nat → Bool) (b : Nat) (w' : World) : Prop := w'.cell? ⟨b, 0, none⟩ = some (.bool (S 0)) ∧ w'.cell? ⟨b, 1, none⟩ = some (.bool (S 1)) ∧ w'.cell? ⟨b, 2, none⟩ = some (.bool (S 2)) ∧ w'.cell? ⟨b, 3, none⟩ = some (.bool (S 3)) ∧ w'.cell? ⟨b, 4, none⟩ = some (.bool (S 4)) ∧ w'.cell? ⟨b, 5, none⟩ = some (.bool (S 5)) ∧ w'.cell? ⟨b, 6, none⟩ = some (.bool (S 6)) ∧ w'.cell? ⟨b, 7, none⟩ = some (.bool (S 7))
theorem VoteAt.kp {who : Int} {y z : Nat} {x : ByteArray} {b : Nat} {w w' : World} {r : Option Nat} (h : VoteAt who y z x b w) (k : Kp r w w') (hb : some b ≠ r) : VoteAt who y z x b w' := ⟨k.cell h.1 hb, k.cell h.2.1 hb, k.cell h.2.2.1 hb, k.cell h.2.2.2 hb⟩
theorem SetC.kp {S : Nat → Bool} {b : Nat} {w w' : World} {r : Option Nat} (h : SetC S b w) (k : Kp r w w') (hb : some b ≠ r) : SetC S b w' :=
  ⟨k.cell h.1 hb, k.cell h.2.1 hb, k.cell h.2.2.1 hb, k.cell h.2.2.2.1 hb, k.cell h.2.2.2.2.1 hb, k.cell h.2.2.2.2.2.1 hb, k.cell h.2.2.2.2.2.2.1 hb, k.cell h.2.2.2.2.2.2.2 hb⟩
theorem vkp_obj {r : Option Nat} {w w' : World} (k : Kp r w w') {b : Nat} {o : Obj} (h : w.heap[b]? = some o) (hr : some b ≠ r) : w'.heap[b]? = some o := by
  rw [k.block b (Array.getElem?_eq_some_iff.1 h).1 hr]
  exact h
theorem Gr.trans_kp' {w a b : World} {bm : Nat} (g : Gr w a) (k : Kp (some bm) a b) (h : w.heap.size ≤ bm) : Gr w b :=
  ⟨k.1.trans g.os, k.2.trans g.tape, k.3.trans g.output, Nat.le_trans g.size k.size, fun x hx => (k.block x (Nat.lt_of_lt_of_le hx g.size) (fun e => by injection e with e; omega)).trans (g.block x hx)⟩
/-- The values of the operations that answer always the same. -/
def chV (S : Nat → Bool) (F : Nat → ByteArray → Nat) (bm b8 : Nat) (who : Int) (y : Nat) (x : ByteArray) : Nat → Value
  | 0 => .map (some bm)
  | 1 => .pointer (some ⟨b8, 1, none⟩)
  | 2 => .int .u64 (y : Int)
  | 3 => .pointer (some ⟨b8, 3, none⟩)
  | 4 => .string x
  | 5 => chv y x
  | 6 => .int .u8 (F y x : Int)
  | 7 => .agg (setc S)
  | 8 => .pointer (some ⟨b8, 0, none⟩)
  | 9 => .int .i64 who
  | 10 => .int .u8 (bitN S who : Int)
  | 11 => .int .u8 ((F y x ||| bitN S who : Nat) : Int)
  | _ => undef
set_option maxRecDepth 100000 in
set_option maxHeartbeats 4000000 in
theorem chosen_any (S : Nat → Bool) (v : Value) (L : List Vt) (w : World) (hv : VV w v L) (hL : ∀ v ∈ L, FitVt v) (hlen : L.length ≤ 9223372036854775806) :
    Calls Try.prog 18 #[.agg (setc S), v] w fun e w' => e = .returned (pickV (chosenO S L)) ∧ Gr w w' := by
  obtain ⟨W, hW, hg, hX, _⟩ := box_set S w
  obtain ⟨A, c, rfl, h1, h2, h3⟩ := hv.form
  obtain ⟨n, hn⟩ : ∃ n, n = L.length := ⟨_, rfl⟩
  rw [← hn] at h1 hlen ⊢
  have HN := Lib.hid hn
  have HV := Lib.hid h3
  have HG := Lib.hid hg
  have HX := Lib.hid hX
  have HLEN := Lib.hid hlen
  have HFIT := Lib.hid hL
  clear hX hg hv h3 hn hL hlen
  have hmm := @run_makeMap Try.prog
  go_enter Try.func18, Try.ntmps18
  go_upto_region 1 with (fail)
  rw [← hW]
  clear hW
  go_upto_region 2 with (fail)
  obtain ⟨W2, h2', g2, hm2, hx2⟩ : ∃ W2, W2 = W.alloc (.map #[] 0) ∧ Gr w W2 ∧ MapC W2 W.heap.size 0 (fun _ _ => 0) ∧ W2.heap[w.heap.size]? = some (.cells (setc S) 35 (0, 0)) :=
    ⟨_, rfl, HG.out.alloc _, MapC.made W, gr_obj' ((Gr.refl W).alloc _) HX.out⟩
  rw [← h2']
  clear h2' hmm
  obtain ⟨b2, hb2⟩ : ∃ z, z = w.heap.size := ⟨_, rfl⟩
  obtain ⟨bm, hbm⟩ : ∃ z, z = W.heap.size := ⟨_, rfl⟩
  have HLM : Hid (w.heap.size ≤ bm) := Lib.hid (by rw [hbm]; exact HG.out.size)
  have HB2 : Hid (some b2 ≠ some bm) := Lib.hid (by
    rw [hb2, hbm]
    intro e
    have := (Array.getElem?_eq_some_iff.1 HX.out).1
    injection e with e
    omega)
  rw [← hb2] at hx2 ⊢
  rw [← hbm] at hm2 ⊢
  have HX2 := Lib.hid hx2
  have HM2 := Lib.hid hm2
  have HG2 := Lib.hid g2
  clear hx2 hm2 g2 hb2 hbm HX
  go_wp2_with fail
  go_loopw [8, 14] (fun _ i wr => ∃ (k : Nat) (F : Nat → ByteArray → Nat), k ≤ n ∧ i = .int .i64 (k : Int) ∧ CrowdF S (L.take k) F ∧ MapC wr bm k F ∧ wr.heap[b2]? = some (.cells (setc S) 35 (0, 0)) ∧ Gr w wr) (fun _ i _ => n - (intOf i).toNat)
  case atStart => exact ⟨0, _, Nat.zero_le _, rfl, CrowdF.start S, HM2.out, HX2.out, HG2.out⟩
  case round =>
    clear HM2 HX2 HG2
    obtain ⟨k, F, hk, rfl, hcf, hmc, hx, hgr⟩ := hrel
    have HCF := Lib.hid hcf
    have HMC := Lib.hid hmc
    have HX := Lib.hid hx
    have HGR := Lib.hid hgr
    clear hcf hmc hx hgr
    by_cases hlt : k < n
    · have hkL : k < L.length := by rw [← HN.out]; exact hlt
      obtain ⟨bv, off, rfl, hm⟩ := HV.out k hkL
      obtain ⟨vv, hvv⟩ : ∃ z, z = L[k] := ⟨_, rfl⟩
      have HT : Hid (L.take (k + 1) = L.take k ++ [vv]) := Lib.hid (by rw [take_next L hkL, hvv])
      have hfv := HFIT.out vv (by rw [hvv]; exact List.getElem_mem hkL)
      rw [← hvv] at hm
      clear hvv hkL
      obtain ⟨who, y, z, x⟩ := vv
      have HY : Hid (y < 18446744073709551616) := Lib.hid hfv.bal
      have HXS : Hid (x.size ≤ 281474976710656) := Lib.hid hfv.val
      have HFL : Hid (F y x < 256) := Lib.hid (HCF.out y x).lt
      have HCF2 : Hid (CrowdF S (L.take (k + 1)) (upC F y x (F y x ||| bitN S who))) := Lib.hid (by rw [HT.out]; exact HCF.out.next ⟨who, y, z, x⟩)
      have HNM : Hid (k < maxLen) := Lib.hid (by have := HLEN.out; unfold maxLen; omega)
      obtain ⟨q0, q1, q2, q3⟩ := hm.gr HGR.out
      have hk0 : (0 : Int) ≤ (k : Int) := Int.natCast_nonneg _
      clear hm hfv
      go_upto_region 5 with (fail)
      obtain ⟨W5, h5, g5, hb5⟩ := box_vt who y z x wr
      rw [← h5]
      clear h5 q0 q1 q2 q3
      obtain ⟨b8, hb8⟩ : ∃ z, z = wr.heap.size := ⟨_, rfl⟩
      rw [← hb8] at hb5 ⊢
      have HB8 : Hid (some b8 ≠ some bm) := Lib.hid (by
        rw [hb8]
        intro e
        have := HMC.out.lt
        injection e with e
        omega)
      have hx5 := gr_obj' g5 HX.out
      have HX5 := Lib.hid hx5
      have HG5 := Lib.hid (HGR.out.trans g5)
      obtain ⟨WD, hWD⟩ : ∃ W, W = W5.drew := ⟨_, rfl⟩
      have HPRE : Hid ((fun w' => (VoteAt who y z x b8 w' ∧ SetC S b2 w') ∧ MapC w' bm k F ∧ Gr WD w') W5.drew) := Lib.hid (by
        rw [hWD]
        exact ⟨⟨⟨cell_of_obj (gr_obj' (Gr.refl _).drew hb5) rfl, cell_of_obj (gr_obj' (Gr.refl _).drew hb5) rfl, cell_of_obj (gr_obj' (Gr.refl _).drew hb5) rfl, cell_of_obj (gr_obj' (Gr.refl _).drew hb5) rfl⟩,
          ⟨cell_of_obj (gr_obj' (Gr.refl _).drew hx5) rfl, cell_of_obj (gr_obj' (Gr.refl _).drew hx5) rfl, cell_of_obj (gr_obj' (Gr.refl _).drew hx5) rfl, cell_of_obj (gr_obj' (Gr.refl _).drew hx5) rfl, cell_of_obj (gr_obj' (Gr.refl _).drew hx5) rfl, cell_of_obj (gr_obj' (Gr.refl _).drew hx5) rfl, cell_of_obj (gr_obj' (Gr.refl _).drew hx5) rfl, cell_of_obj (gr_obj' (Gr.refl _).drew hx5) rfl⟩⟩,
          (HMC.out.gr g5).gr (Gr.refl _).drew, Gr.refl _⟩)
      have HGD : Hid (Gr w WD) := Lib.hid (by rw [hWD]; exact HG5.out.trans (Gr.refl _).drew)
      have HXD : Hid (WD.heap[b2]? = some (.cells (setc S) 35 (0, 0))) := Lib.hid (by rw [hWD]; exact gr_obj' (Gr.refl _).drew hx5)
      clear g5 hb5 hx5 hb8 hWD HX
      refine wp_region_noPanic ?_
      refine iRegionA (ChI (chV S F bm b8 who y x) (fun w' => (VoteAt who y z x b8 w' ∧ SetC S b2 w') ∧ MapC w' bm k F ∧ Gr WD w') (fun u w' => (VoteAt who y z x b8 w' ∧ SetC S b2 w') ∧ MapC w' bm (k + 1) F ∧ Kp (some bm) WD w' ∧ ∃ (v0 : Value) (st : Nat), u = .tuple #[v0, .int .i64 (st : Int)] ∧ ∀ w2 : World, w2.heap[bm]? = w'.heap[bm]? → ∀ c : Nat, ∃ w3, (Instr.entryStore 58 (.map (some bm)) (.int .i64 (st : Int)) (.int .u8 (c : Int))).run Try.prog w2 = .ok () w3 ∧ MapC w3 bm (k + 1) (upC F y x c) ∧ w2.grownBy w3 (some bm)) (fun w' => (VoteAt who y z x b8 w' ∧ SetC S b2 w') ∧ MapC w' bm (k + 1) (upC F y x (F y x ||| bitN S who)) ∧ Kp (some bm) WD w')) (by kernel_rfl) (by kernel_rfl) (ChI.start HPRE.out) ?_ ?_
      · intro i o ho vals wc A hI hn hdep hOld hNew
        have hi : i < 15 := (List.getElem?_eq_some_iff.1 ho).1
        have eo6 : A.tmps[6]?.getD undef = .map (some bm) := vslotE (hOld 6 (by kernel_rfl))
        have eo8 : A.tmps[8]?.getD undef = .pointer (some ⟨b8, 0, none⟩) := vslotE (hOld 8 (by kernel_rfl))
        have eo2 : A.tmps[2]?.getD undef = .pointer (some ⟨b2, 0, none⟩) := vslotE (hOld 2 (by kernel_rfl))
        obtain rfl | rfl | rfl | rfl | rfl | rfl | rfl | rfl | rfl | rfl | rfl | rfl | rfl | rfl | rfl : i = 0 ∨ i = 1 ∨ i = 2 ∨ i = 3 ∨ i = 4 ∨ i = 5 ∨ i = 6 ∨ i = 7 ∨ i = 8 ∨ i = 9 ∨ i = 10 ∨ i = 11 ∨ i = 12 ∨ i = 13 ∨ i = 14 := by omega
        · obtain rfl := Option.some.inj (show some _ = some o from ho)
          refine aVal rfl rfl (v := .map (some bm)) (w' := wc) ?_ ⟨_, rfl, hI.fix (j := 0) (by decide)⟩
          clear hI hdep hOld hNew
          go_simp
        · obtain rfl := Option.some.inj (show some _ = some o from ho)
          refine aVal rfl rfl (v := .pointer (some ⟨b8, 1, none⟩)) (w' := wc) ?_ ⟨_, rfl, hI.fix (j := 1) (by decide)⟩
          clear hI hdep hOld hNew
          go_simp
        · obtain rfl := Option.some.inj (show some _ = some o from ho)
          obtain ⟨y1, hy1⟩ := hdep ⟨1, .data⟩ (by simp) rfl
          obtain rfl : y1 = (.pointer (some ⟨b8, 1, none⟩)) := hI.fx 1 y1 (by decide) hy1
          have s1 := vslotE (hNew 1 19 _ _ rfl rfl (by kernel_rfl) hy1)
          obtain ⟨⟨v0, v1, v2, v3⟩, ⟨c0, c1, c2, c3, c4, c5, c6, c7⟩⟩ := hI.all (Ca := fun w => VoteAt who y z x b8 w ∧ SetC S b2 w) (fun _ h => h.1) (fun _ _ h => h.1) (fun _ h => h.1)
          refine aVal rfl rfl (v := .int .u64 (y : Int)) (w' := wc) ?_ ⟨_, rfl, hI.fix (j := 2) (by decide)⟩
          clear hI hdep hOld hNew
          go_simp
        · obtain rfl := Option.some.inj (show some _ = some o from ho)
          refine aVal rfl rfl (v := .pointer (some ⟨b8, 3, none⟩)) (w' := wc) ?_ ⟨_, rfl, hI.fix (j := 3) (by decide)⟩
          clear hI hdep hOld hNew
          go_simp
        · obtain rfl := Option.some.inj (show some _ = some o from ho)
          obtain ⟨y3, hy3⟩ := hdep ⟨3, .data⟩ (by simp) rfl
          obtain rfl : y3 = (.pointer (some ⟨b8, 3, none⟩)) := hI.fx 3 y3 (by decide) hy3
          have s3 := vslotE (hNew 3 21 _ _ rfl rfl (by kernel_rfl) hy3)
          obtain ⟨⟨v0, v1, v2, v3⟩, ⟨c0, c1, c2, c3, c4, c5, c6, c7⟩⟩ := hI.all (Ca := fun w => VoteAt who y z x b8 w ∧ SetC S b2 w) (fun _ h => h.1) (fun _ _ h => h.1) (fun _ h => h.1)
          refine aVal rfl rfl (v := .string x) (w' := wc) ?_ ⟨_, rfl, hI.fix (j := 4) (by decide)⟩
          clear hI hdep hOld hNew
          go_simp
        · obtain rfl := Option.some.inj (show some _ = some o from ho)
          obtain ⟨y2, hy2⟩ := hdep ⟨2, .data⟩ (by simp) rfl
          obtain rfl : y2 = (.int .u64 (y : Int)) := hI.fx 2 y2 (by decide) hy2
          have s2 := vslotE (hNew 2 20 _ _ rfl rfl (by kernel_rfl) hy2)
          obtain ⟨y4, hy4⟩ := hdep ⟨4, .data⟩ (by simp) rfl
          obtain rfl : y4 = (.string x) := hI.fx 4 y4 (by decide) hy4
          have s4 := vslotE (hNew 4 22 _ _ rfl rfl (by kernel_rfl) hy4)
          refine aVal rfl rfl (v := chv y x) (w' := wc) ?_ ⟨_, rfl, hI.fix (j := 5) (by decide)⟩
          clear hI hdep hOld hNew
          go_simp
        · obtain rfl := Option.some.inj (show some _ = some o from ho)
          obtain ⟨y0, hy0⟩ := hdep ⟨0, .data⟩ (by simp) rfl
          obtain rfl : y0 = (.map (some bm)) := hI.fx 0 y0 (by decide) hy0
          have s0 := vslotE (hNew 0 18 _ _ rfl rfl (by kernel_rfl) hy0)
          obtain ⟨y5, hy5⟩ := hdep ⟨5, .data⟩ (by simp) rfl
          obtain rfl : y5 = (chv y x) := hI.fx 5 y5 (by decide) hy5
          have s5 := vslotE (hNew 5 23 _ _ rfl rfl (by kernel_rfl) hy5)
          have hlk := hI.open' (hI.none14 (j := 6) (by decide) hn) (Ca := fun w => (Instr.lookup 58 (.map (some bm)) (chv y x) false).run Try.prog w = .ok (.int .u8 (F y x : Int)) w) (fun _ h => h.2.1.look y x HY.out HXS.out) (fun _ _ h => h.2.1.look y x HY.out HXS.out)
          refine aVal rfl rfl (v := .int .u8 (F y x : Int)) (w' := wc) ?_ ⟨_, rfl, hI.fix (j := 6) (by decide)⟩
          clear hI hdep hOld hNew
          go_simp
        · obtain rfl := Option.some.inj (show some _ = some o from ho)
          obtain ⟨⟨v0, v1, v2, v3⟩, ⟨c0, c1, c2, c3, c4, c5, c6, c7⟩⟩ := hI.all (Ca := fun w => VoteAt who y z x b8 w ∧ SetC S b2 w) (fun _ h => h.1) (fun _ _ h => h.1) (fun _ h => h.1)
          refine aVal rfl rfl (v := .agg (setc S)) (w' := wc) ?_ ⟨_, rfl, hI.fix (j := 7) (by decide)⟩
          clear hI hdep hOld hNew
          go_simp
        · obtain rfl := Option.some.inj (show some _ = some o from ho)
          refine aVal rfl rfl (v := .pointer (some ⟨b8, 0, none⟩)) (w' := wc) ?_ ⟨_, rfl, hI.fix (j := 8) (by decide)⟩
          clear hI hdep hOld hNew
          go_simp
        · obtain rfl := Option.some.inj (show some _ = some o from ho)
          obtain ⟨y8, hy8⟩ := hdep ⟨8, .data⟩ (by simp) rfl
          obtain rfl : y8 = (.pointer (some ⟨b8, 0, none⟩)) := hI.fx 8 y8 (by decide) hy8
          have s8 := vslotE (hNew 8 26 _ _ rfl rfl (by kernel_rfl) hy8)
          obtain ⟨⟨v0, v1, v2, v3⟩, ⟨c0, c1, c2, c3, c4, c5, c6, c7⟩⟩ := hI.all (Ca := fun w => VoteAt who y z x b8 w ∧ SetC S b2 w) (fun _ h => h.1) (fun _ _ h => h.1) (fun _ h => h.1)
          refine aVal rfl rfl (v := .int .i64 who) (w' := wc) ?_ ⟨_, rfl, hI.fix (j := 9) (by decide)⟩
          clear hI hdep hOld hNew
          go_simp
        · obtain rfl := Option.some.inj (show some _ = some o from ho)
          obtain ⟨y7, hy7⟩ := hdep ⟨7, .data⟩ (by simp) rfl
          obtain rfl : y7 = (.agg (setc S)) := hI.fx 7 y7 (by decide) hy7
          have s7 := vslotE (hNew 7 25 _ _ rfl rfl (by kernel_rfl) hy7)
          obtain ⟨y9, hy9⟩ := hdep ⟨9, .data⟩ (by simp) rfl
          obtain rfl : y9 = (.int .i64 who) := hI.fx 9 y9 (by decide) hy9
          have s9 := vslotE (hNew 9 27 _ _ rfl rfl (by kernel_rfl) hy9)
          have hn12 := hI.early hn
          obtain ⟨⟨hv1, hc1⟩, hmap1, hgr1⟩ := (hI.p12 hn12).1
          refine aCall rfl rfl (w1 := wc) ?_ ((bit_any S who wc).mono fun e w' he => ⟨_, he.1, _, rfl, (hI.grow hn12 ⟨⟨hv1.kp (Kp.of_gr (r := none) he.2) (by simp), hc1.kp (Kp.of_gr (r := none) he.2) (by simp)⟩, hmap1.gr he.2, hgr1.trans he.2⟩).fix (j := 10) (by decide)⟩)
          clear hI hdep hOld hNew
          go_simp
        · obtain rfl := Option.some.inj (show some _ = some o from ho)
          obtain ⟨y6, hy6⟩ := hdep ⟨6, .data⟩ (by simp) rfl
          obtain rfl : y6 = (.int .u8 (F y x : Int)) := hI.fx 6 y6 (by decide) hy6
          have s6 := vslotE (hNew 6 24 _ _ rfl rfl (by kernel_rfl) hy6)
          obtain ⟨y10, hy10⟩ := hdep ⟨10, .data⟩ (by simp) rfl
          obtain rfl : y10 = (.int .u8 (bitN S who : Int)) := hI.fx 10 y10 (by decide) hy10
          have s10 := vslotE (hNew 10 28 _ _ rfl rfl (by kernel_rfl) hy10)
          have hor := bits_or8 HFL.out (bitN_lt S who)
          refine aVal rfl rfl (v := .int .u8 ((F y x ||| bitN S who : Nat) : Int)) (w' := wc) ?_ ⟨_, rfl, hI.fix (j := 11) (by decide)⟩
          clear hI hdep hOld hNew
          rw [← hor]
          go_simp
        · obtain rfl := Option.some.inj (show some _ = some o from ho)
          obtain ⟨y0, hy0⟩ := hdep ⟨0, .data⟩ (by simp) rfl
          obtain rfl : y0 = (.map (some bm)) := hI.fx 0 y0 (by decide) hy0
          have s0 := vslotE (hNew 0 18 _ _ rfl rfl (by kernel_rfl) hy0)
          obtain ⟨y5, hy5⟩ := hdep ⟨5, .data⟩ (by simp) rfl
          obtain rfl : y5 = (chv y x) := hI.fx 5 y5 (by decide) hy5
          have s5 := vslotE (hNew 5 23 _ _ rfl rfl (by kernel_rfl) hy5)
          obtain ⟨y10, hy10⟩ := hdep ⟨10, .chain⟩ (by simp) rfl
          obtain ⟨⟨hv1, hc1⟩, hmap1, hgr1⟩ := (hI.p12 hn).1
          obtain ⟨v0, st, w1, r1, r2, r3, r4⟩ := hmap1.entry HNM.out y x HY.out HXS.out
          refine aVal rfl rfl (v := .tuple #[v0, .int .i64 (st : Int)]) (w' := w1) ?_ ⟨_, rfl, hI.entry hn ⟨y10, hy10⟩ ⟨⟨hv1.kp r3 HB8.out, hc1.kp r3 HB2.out⟩, r2, (Kp.of_gr hgr1).trans r3, v0, st, rfl, r4⟩⟩
          clear hI hdep hOld hNew r4 r2
          go_simp
        · obtain rfl := Option.some.inj (show some _ = some o from ho)
          obtain ⟨y12, hy12⟩ := hdep ⟨12, .data⟩ (by simp) rfl
          have hn14 := hI.none14 (j := 13) (by decide) hn
          obtain ⟨⟨hca, hmap1, hk1, v0, st, rfl, r4⟩, _⟩ := hI.p14 y12 hy12 hn14
          have s12 := vslotE (hNew 12 30 _ _ rfl rfl (by kernel_rfl) hy12)
          refine aVal rfl rfl (v := .int .i64 (st : Int)) (w' := wc) ?_ ⟨_, rfl, hI.stamp hy12 rfl⟩
          clear hI hdep hOld hNew r4
          go_simp
        · obtain rfl := Option.some.inj (show some _ = some o from ho)
          obtain ⟨y0, hy0⟩ := hdep ⟨0, .data⟩ (by simp) rfl
          obtain rfl : y0 = (.map (some bm)) := hI.fx 0 y0 (by decide) hy0
          have s0 := vslotE (hNew 0 18 _ _ rfl rfl (by kernel_rfl) hy0)
          obtain ⟨y11, hy11⟩ := hdep ⟨11, .data⟩ (by simp) rfl
          obtain rfl : y11 = (.int .u8 ((F y x ||| bitN S who : Nat) : Int)) := hI.fx 11 y11 (by decide) hy11
          have s11 := vslotE (hNew 11 29 _ _ rfl rfl (by kernel_rfl) hy11)
          obtain ⟨y13, hy13⟩ := hdep ⟨13, .data⟩ (by simp) rfl
          obtain ⟨y12, hy12⟩ := hdep ⟨12, .chain⟩ (by simp) rfl
          obtain ⟨⟨⟨hv1, hc1⟩, hmap1, hk1, v0, st, rfl, r4⟩, _⟩ := hI.p14 y12 hy12 hn
          obtain ⟨v0', e13⟩ := hI.p13 _ y13 hy12 hy13
          obtain rfl : y13 = .int .i64 (st : Int) := by
            injection e13 with e13
            have e14 := congrArg Array.toList e13
            simp only [List.cons.injEq, and_true] at e14
            exact e14.2.symm
          have s13 := vslotE (hNew 13 31 _ _ rfl rfl (by kernel_rfl) hy13)
          obtain ⟨w3, t1, t2, t3⟩ := r4 wc rfl (F y x ||| bitN S who)
          have hall : ∀ j, j ≤ 13 → ∃ z, vals j = some z := by
            intro j hj
            obtain rfl | rfl | rfl | rfl | rfl | rfl | rfl | rfl | rfl | rfl | rfl | rfl | rfl | rfl : j = 0 ∨ j = 1 ∨ j = 2 ∨ j = 3 ∨ j = 4 ∨ j = 5 ∨ j = 6 ∨ j = 7 ∨ j = 8 ∨ j = 9 ∨ j = 10 ∨ j = 11 ∨ j = 12 ∨ j = 13 := by omega
            · exact hdep ⟨0, .data⟩ (by simp) rfl
            · exact hdep ⟨1, .phase⟩ (by simp) rfl
            · exact hdep ⟨2, .phase⟩ (by simp) rfl
            · exact hdep ⟨3, .phase⟩ (by simp) rfl
            · exact hdep ⟨4, .phase⟩ (by simp) rfl
            · exact hdep ⟨5, .phase⟩ (by simp) rfl
            · exact hdep ⟨6, .phase⟩ (by simp) rfl
            · exact hdep ⟨7, .phase⟩ (by simp) rfl
            · exact hdep ⟨8, .phase⟩ (by simp) rfl
            · exact hdep ⟨9, .phase⟩ (by simp) rfl
            · exact hdep ⟨10, .phase⟩ (by simp) rfl
            · exact hdep ⟨11, .data⟩ (by simp) rfl
            · exact hdep ⟨12, .chain⟩ (by simp) rfl
            · exact hdep ⟨13, .data⟩ (by simp) rfl
          refine aSkip rfl rfl (w' := w3) ?_ ⟨_, rfl, hI.done hall ⟨⟨hv1.kp t3 HB8.out, hc1.kp t3 HB2.out⟩, t2, hk1.trans t3⟩⟩
          clear hI hdep hOld hNew r4 t2
          go_simp
      · intro vals wc hall hI
        refine NoPanic.normal ?_
        obtain ⟨y0, hy0⟩ := hall 0 (by decide)
        obtain ⟨y1, hy1⟩ := hall 1 (by decide)
        obtain ⟨y2, hy2⟩ := hall 2 (by decide)
        obtain ⟨y3, hy3⟩ := hall 3 (by decide)
        obtain ⟨y4, hy4⟩ := hall 4 (by decide)
        obtain ⟨y5, hy5⟩ := hall 5 (by decide)
        obtain ⟨y6, hy6⟩ := hall 6 (by decide)
        obtain ⟨y7, hy7⟩ := hall 7 (by decide)
        obtain ⟨y8, hy8⟩ := hall 8 (by decide)
        obtain ⟨y9, hy9⟩ := hall 9 (by decide)
        obtain ⟨y10, hy10⟩ := hall 10 (by decide)
        obtain ⟨y11, hy11⟩ := hall 11 (by decide)
        obtain ⟨y12, hy12⟩ := hall 12 (by decide)
        obtain ⟨y13, hy13⟩ := hall 13 (by decide)
        obtain ⟨y14, hy14⟩ := hall 14 (by decide)
        obtain rfl : y0 = .map (some bm) := hI.fx 0 y0 (by decide) hy0
        obtain rfl : y1 = .pointer (some ⟨b8, 1, none⟩) := hI.fx 1 y1 (by decide) hy1
        obtain rfl : y2 = .int .u64 (y : Int) := hI.fx 2 y2 (by decide) hy2
        obtain rfl : y3 = .pointer (some ⟨b8, 3, none⟩) := hI.fx 3 y3 (by decide) hy3
        obtain rfl : y4 = .string x := hI.fx 4 y4 (by decide) hy4
        obtain rfl : y5 = chv y x := hI.fx 5 y5 (by decide) hy5
        obtain rfl : y6 = .int .u8 (F y x : Int) := hI.fx 6 y6 (by decide) hy6
        obtain rfl : y7 = .agg (setc S) := hI.fx 7 y7 (by decide) hy7
        obtain rfl : y8 = .pointer (some ⟨b8, 0, none⟩) := hI.fx 8 y8 (by decide) hy8
        obtain rfl : y9 = .int .i64 who := hI.fx 9 y9 (by decide) hy9
        obtain rfl : y10 = .int .u8 (bitN S who : Int) := hI.fx 10 y10 (by decide) hy10
        obtain rfl : y11 = .int .u8 ((F y x ||| bitN S who : Nat) : Int) := hI.fx 11 y11 (by decide) hy11
        obtain ⟨⟨⟨hve, hce⟩, hme, hke⟩, _⟩ := hI.pe y14 hy14
        simp only [putAll, putV, hy0, hy1, hy2, hy3, hy4, hy5, hy6, hy7, hy8, hy9, hy10, hy11, hy12, hy13, hy14]
        clear hI hall hy0 hy1 hy2 hy3 hy4 hy5 hy6 hy7 hy8 hy9 hy10 hy11 hy12 hy13 hy14
        simp only [Act.put, List.setIfInBounds_toArray, List.set_cons_zero, List.set_cons_succ]
        have HME := Lib.hid hme
        have HXE := Lib.hid (vkp_obj hke HXD.out HB2.out)
        have HGE : Hid (Gr w wc) := Lib.hid (HGD.out.trans_kp' hke HLM.out)
        clear hve hce hme hke HPRE
        go_wp2_with fail
        go_roundw
        case measure => simp [intOf]; omega
        case rel => exact ⟨k + 1, _, hlt, by go_num, HCF2.out, HME.out, HXE.out, HGE.out⟩
    · obtain rfl : k = n := by omega
      have HCW : Hid (∀ v, mostB S (F v.bal v.val) = wins S L v) := Lib.hid (fun v => by
        have h := HCF.out
        rw [List.take_of_length_le (by rw [← HN.out]; exact Nat.le_refl _)] at h
        exact h.wins v)
      have HCL : Hid (∀ y x, F y x < 256) := Lib.hid (fun y x => (HCF.out y x).lt)
      clear hlt hk HCF
      go_wp2_with fail
      go_loopw [10, 35] (fun _ i wr => ∃ j : Nat, j ≤ k ∧ i = .int .i64 (j : Int) ∧ (∀ u ∈ L.take j, wins S L u = false) ∧ MapC wr bm k F ∧ wr.heap[b2]? = some (.cells (setc S) 35 (0, 0)) ∧ Gr w wr) (fun _ i _ => k - (intOf i).toNat)
      case atStart => exact ⟨0, Nat.zero_le _, rfl, fun u hu => absurd hu (by simp), HMC.out, HX.out, HGR.out⟩
      case round =>
        clear HMC HX HGR
        obtain ⟨j, hj, rfl, hno, hmc, hx, hgr⟩ := hrel
        have HNO := Lib.hid hno
        have HMC := Lib.hid hmc
        have HX := Lib.hid hx
        have HGR := Lib.hid hgr
        clear hno hmc hx hgr
        by_cases hlt : j < k
        · have hkL : j < L.length := by rw [← HN.out]; exact hlt
          obtain ⟨bv, off, rfl, hm⟩ := HV.out j hkL
          obtain ⟨vv, hvv⟩ : ∃ z, z = L[j] := ⟨_, rfl⟩
          have HT : Hid (L.take (j + 1) = L.take j ++ [vv]) := Lib.hid (by rw [take_next L hkL, hvv])
          have HAT : Hid (L[j]? = some vv) := Lib.hid (by rw [List.getElem?_eq_getElem hkL, hvv])
          have hfv := HFIT.out vv (by rw [hvv]; exact List.getElem_mem hkL)
          rw [← hvv] at hm
          clear hvv hkL
          obtain ⟨who, y, z, x⟩ := vv
          have HY : Hid (y < 18446744073709551616) := Lib.hid hfv.bal
          have HXS : Hid (x.size ≤ 281474976710656) := Lib.hid hfv.val
          obtain ⟨mw, hmw⟩ : ∃ b, b = wins S L ⟨who, y, z, x⟩ := ⟨_, rfl⟩
          have HMO : Hid (∀ w : World, Calls Try.prog 22 #[.agg (setc S), .int .u8 (F y x : Int)] w fun e w' => e = .returned (.bool mw) ∧ Gr w w') := Lib.hid (fun w => by
            have h := most_any S (F y x) (HCL.out y x) w
            rw [HCW.out ⟨who, y, z, x⟩, ← hmw] at h
            exact h)
          have HMW := Lib.hid hmw.symm
          obtain ⟨q0, q1, q2, q3⟩ := hm.gr HGR.out
          have hk0 : (0 : Int) ≤ (j : Int) := Int.natCast_nonneg _
          clear hm hfv hmw
          go_upto_region 10 with (fail)
          obtain ⟨W5, h5, g5, hb5⟩ := box_vt who y z x wr
          rw [← h5]
          clear h5 q0 q1 q2 q3
          obtain ⟨b8, hb8⟩ : ∃ z, z = wr.heap.size := ⟨_, rfl⟩
          rw [← hb8] at hb5 ⊢
          clear hb8
          have hx5 := gr_obj' g5 HX.out
          have hm5 := HMC.out.gr g5
          have HX5 := Lib.hid hx5
          have HB5 := Lib.hid hb5
          have HM5 := Lib.hid hm5
          have HG5 := Lib.hid (HGR.out.trans g5)
          have hst : ((VoteAt who y z x b8 W5.drew ∧ SetC S b2 W5.drew) ∧ (Instr.lookup 58 (.map (some bm)) (chv y x) false).run Try.prog W5.drew = .ok (.int .u8 (F y x : Int)) W5.drew ∧ MapC W5.drew bm k F ∧ Gr W5 W5.drew) := ⟨⟨⟨cell_of_obj (gr_obj' (Gr.refl _).drew hb5) rfl, cell_of_obj (gr_obj' (Gr.refl _).drew hb5) rfl, cell_of_obj (gr_obj' (Gr.refl _).drew hb5) rfl, cell_of_obj (gr_obj' (Gr.refl _).drew hb5) rfl⟩, ⟨cell_of_obj (gr_obj' (Gr.refl _).drew hx5) rfl, cell_of_obj (gr_obj' (Gr.refl _).drew hx5) rfl, cell_of_obj (gr_obj' (Gr.refl _).drew hx5) rfl, cell_of_obj (gr_obj' (Gr.refl _).drew hx5) rfl, cell_of_obj (gr_obj' (Gr.refl _).drew hx5) rfl, cell_of_obj (gr_obj' (Gr.refl _).drew hx5) rfl, cell_of_obj (gr_obj' (Gr.refl _).drew hx5) rfl, cell_of_obj (gr_obj' (Gr.refl _).drew hx5) rfl⟩⟩, (hm5.gr (Gr.refl _).drew).look y x HY.out HXS.out, hm5.gr (Gr.refl _).drew, (Gr.refl _).drew⟩
          clear g5 hb5 hx5 hm5 HX HMC
          refine qRegion (fun w' => ((VoteAt who y z x b8 w' ∧ SetC S b2 w') ∧ (Instr.lookup 58 (.map (some bm)) (chv y x) false).run Try.prog w' = .ok (.int .u8 (F y x : Int)) w' ∧ MapC w' bm k F ∧ Gr W5 w')) (by kernel_rfl) (by kernel_rfl) hst ?_
          iterate 8
            refine qTake (by kernel_rfl) ?_
            apply Exists.intro
            refine ⟨fun wq hq => ?_, ?_⟩
            · go_light
              obtain ⟨⟨⟨v0, v1, v2, v3⟩, ⟨c0, c1, c2, c3, c4, c5, c6, c7⟩⟩, hlk, _⟩ := hq
              go_simp
              try with_reducible rfl
              done
            try simp only [Act.put, List.setIfInBounds_toArray, List.set_cons_zero, List.set_cons_succ]
          refine qCall (by kernel_rfl) ?_
          apply Exists.intro
          refine ⟨?_, ?_⟩
          · apply Exists.intro
            apply Exists.intro
            refine ⟨fun wq => ?_, fun wq hq => ?_⟩
            · go_light
              go_simp
              exact ⟨rfl, rfl⟩
            · exact (HMO.out _).mono fun e w'' h => ⟨h.1, ⟨hq.1.1.kp (Kp.of_gr (r := none) h.2) (by simp), hq.1.2.kp (Kp.of_gr (r := none) h.2) (by simp)⟩, (hq.2.2.1.gr h.2).look y x HY.out HXS.out, hq.2.2.1.gr h.2, hq.2.2.2.trans h.2⟩
          try simp only [Act.put, List.setIfInBounds_toArray, List.set_cons_zero, List.set_cons_succ]
          refine qNil ?_
          intro w6 hC6
          have HM6 := Lib.hid hC6.2.2.1
          have HG6 := Lib.hid (HG5.out.trans hC6.2.2.2)
          have HX6 := Lib.hid (gr_obj' hC6.2.2.2 HX5.out)
          have HB6 := Lib.hid (gr_obj' hC6.2.2.2 HB5.out)
          clear hC6 hst
          rcases (by cases mw <;> simp : mw = false ∨ mw = true) with rfl | rfl
          · have HNO2 : Hid (∀ u ∈ L.take (j + 1), wins S L u = false) := Lib.hid (fun u hu => by
              rw [HT.out] at hu
              rcases List.mem_append.1 hu with hu | hu
              · exact HNO.out u hu
              · rw [List.mem_singleton] at hu
                rw [hu]
                exact HMW.out)
            go_wp2_with fail
            go_roundw
            case measure => simp [intOf]; omega
            case rel => exact ⟨j + 1, hlt, by go_num, HNO2.out, HM6.out, HX6.out, HG6.out⟩
          · have HR : Hid (pickV (chosenO S L) = .tuple #[.string x, .bool true]) := Lib.hid (by rw [chosen_at HAT.out HNO.out HMW.out]; rfl)
            have v3 : w6.cell? ⟨b8, 3, none⟩ = some (.string x) := cell_of_obj HB6.out rfl
            go_wp2_with fail
            refine (clone_any x HXS.out _).mono ?_
            rintro e w9 ⟨rfl, g9⟩
            go_wp2_with fail
            rw [HR.out]
            exact bodyPost_ret (v := .tuple #[.string x, .bool true]) (by simp [results, Try.results18, go_sem]) rfl ⟨rfl, HG6.out.trans g9⟩
        · obtain rfl : j = k := by omega
          have HR : Hid (pickV (chosenO S L) = .tuple #[.string ⟨#[]⟩, .bool false]) := Lib.hid (by
            rw [chosen_none (fun u hu => HNO.out u (by rw [List.take_of_length_le (by rw [← HN.out]; exact Nat.le_refl _)]; exact hu))]
            rfl)
          go_wp2_with fail
          rw [HR.out]
          exact bodyPost_ret (v := .tuple #[.string ⟨#[]⟩, .bool false]) (by simp [results, Try.results18, go_sem]) rfl ⟨rfl, HGR.out⟩
end Go.Proofs.Ytboonfbbnidmbaa
