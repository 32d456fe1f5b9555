/- The law WireSides. -/
import Derived.Test.YtfmfeokjnkbpeaaWiR
namespace Go.Proofs.Ytfmfeokjnkbpeaa.Wi
open Go.RowKit
set_option linter.unusedSimpArgs false

theorem own_put10n {w : World} {B b : Nat} {t : TypeId} {size n : Nat} {v : Value} {xs : List Value} (h : w.ownsRow B t size v n xs) (hb : v.ownBlock ≠ some b) (c0 c1 c2 c3 c4 c5 c6 c7 c8 c9 : Value) : (put10 w b c0 c1 c2 c3 c4 c5 c6 c7 c8 c9).ownsRow B t size v n xs := by
  unfold put10
  iterate 10 refine own_set_other ?_ hb _ _
  exact h
def both (p : P) : Bool := mem p.src && mem p.dst
/-- How many of the first k go between members. -/
def btw (L : List P) (k : Nat) : Nat := ((List.range k).filter fun j => match L[j]? with | some p => both p | none => false).length
theorem btw_zero (L : List P) : btw L 0 = 0 := rfl
theorem btw_yes {L : List P} {k : Nat} (h : k < L.length) (hb : both L[k] = true) : btw L (k + 1) = btw L k + 1 := by
  unfold btw
  rw [List.range_succ, List.filter_append, List.filter_cons, List.filter_nil, List.getElem?_eq_getElem h]
  simp [hb]
theorem btw_no {L : List P} {k : Nat} (h : k < L.length) (hb : both L[k] = false) : btw L (k + 1) = btw L k := by
  unfold btw
  rw [List.range_succ, List.filter_append, List.filter_cons, List.filter_nil, List.getElem?_eq_getElem h]
  simp [hb]
theorem btw_le (L : List P) (k : Nat) : btw L k ≤ k := by
  have := List.length_filter_le (fun j => match L[j]? with | some p => both p | none => false) (List.range k)
  rw [List.length_range] at this
  exact this
theorem thr_both {s : Nat → Int} {p : P} (h : thr s p = true) : both p = true := by
  unfold thr at h
  unfold both
  simp only [Bool.and_eq_true] at h ⊢
  exact ⟨h.1, h.2.1⟩
theorem thr_one {s : Nat → Int} {p : P} (h : ∀ j, j < 8 → s j = 0) : thr s p = both p := by
  unfold thr both
  rcases h1 : mem p.src with _ | _
  · rfl
  rcases h2 : mem p.dst with _ | _
  · rfl
  obtain ⟨i, hi, hi8⟩ := mem_iff.1 h1
  obtain ⟨j, hj, hj8⟩ := mem_iff.1 h2
  rw [hi, hj, Int.toNat_natCast, Int.toNat_natCast, h i hi8, h j hj8]
  rfl
theorem rdy_one {s : Nat → Int} (L : List P) (h : ∀ j, j < 8 → s j = 0) : (rdyTo s L L.length).length = btw L L.length := by
  unfold rdyTo btw
  congr 1
  refine List.filter_congr fun j _ => ?_
  cases L[j]? with
  | none => rfl
  | some p => exact thr_one h
theorem filter_le {α : Type} (f g : α → Bool) : ∀ l : List α, (∀ x ∈ l, f x = true → g x = true) → (l.filter f).length ≤ (l.filter g).length
  | [], _ => Nat.le_refl _
  | x :: l, h => by
    have ih := filter_le f g l fun y hy => h y (List.mem_cons_of_mem _ hy)
    have hx := h x List.mem_cons_self
    rw [List.filter_cons, List.filter_cons]
    cases hf : f x with
    | true => rw [if_pos (rfl : true = true), hx hf, if_pos (rfl : true = true)]; simp only [List.length_cons]; omega
    | false =>
      rw [if_neg (by decide)]
      split
      · simp only [List.length_cons]; omega
      · exact ih
theorem rdy_all (s : Nat → Int) (L : List P) : (rdyTo s L L.length).length ≤ btw L L.length := by
  unfold rdyTo btw
  refine filter_le _ _ _ fun j _ hf => ?_
  cases hq : L[j]? with
  | none => rw [hq] at hf; cases hf
  | some p => rw [hq] at hf; exact thr_both hf
/-- What both parts leave. -/
def SidesR (L : List P) (nx : Int) (sa sb : Nat → Int) (w1 : World) (p5 p6 : Value) (wx : World) : Prop :=
  ∃ b5 b6 v5 v6, p5 = .pointer (some ⟨b5, 0, none⟩) ∧ p6 = .pointer (some ⟨b6, 0, none⟩) ∧ NB wx b5 v5 nx sa ∧ NB wx b6 v6 nx sb ∧ PV wx v5 L ∧ PV wx v6 L ∧ Gr w1 wx
def SidesRel (L : List P) (wc : World) (t i : Value) (wr : World) : Prop := ∃ k : Nat, k ≤ L.length ∧ i = .int .i64 (k : Int) ∧ t = .int .i64 (btw L k : Int) ∧ Gr wc wr
theorem boxesNV (v : Value) (nx : Int) (s : Nat → Int) (a : Nat → Nat) (w : World) : ∃ W, W = (w.alloc (.cells (ncells v nx s) 25)).alloc (.cells (svec a) 45) ∧ Gr w W ∧ NB W w.heap.size v nx s ∧
    (∀ k, k < 8 → W.cell? ⟨w.heap.size + 1, k, none⟩ = some (.int .u64 (a k : Int))) := by
  refine ⟨_, rfl, (gr_box w _).alloc _, (NB.new w v nx s).gr (gr_box _ _), fun k hk => ?_⟩
  rw [World.cell?_alloc_at _ _ _ _ (by simp)]
  exact svec_at a hk

set_option maxRecDepth 100000 in
set_option maxHeartbeats 40000000 in
theorem wireSides_any (v : Value) (L : List P) (nx : Int) (s : Nat → Int) (a : Nat → Nat) (ha : ∀ k, k < 8 → a k < 18446744073709551616) (w : World) (hv : PV w v L) (hf : Fit L) (hlen : L.length * 40 ≤ 140737488355328) :
    Calls Try.prog 5 #[.agg (ncells v nx s), .agg (svec a)] w fun e w' => e = .returned (.bool true) ∧ Gr w w' := by
  obtain ⟨A, c, hva, hc1, ⟨hc2, -⟩, hPC⟩ := id hv
  unfold maxLen at hc2
  obtain ⟨n, hn⟩ : ∃ n, n = L.length := ⟨_, rfl⟩
  have HN := Lib.hid hn
  rw [← hn] at hva hc1
  subst hva
  have HPC := Lib.hid hPC
  obtain ⟨sa, hsa⟩ : ∃ f, f = sideTo s a 8 := ⟨_, rfl⟩
  obtain ⟨sb, hsb⟩ : ∃ f, f = sideTo s (fun _ => 0) 8 := ⟨_, rfl⟩
  have HSB0 : Hid (∀ j, j < 8 → sb j = 0) := Lib.hid (fun j hj => by rw [hsb]; simp [sideTo, hj])
  obtain ⟨W, hW, hG, hB0, hSV⟩ := boxesNV (.slice A n c) nx s a w
  have HAW := Lib.hid (fun w => awake_any w)
  have HP1 := Lib.hid (fun wq (q : Gr w wq) => part_any (.slice A n c) L nx s a ha wq (hv.gr q) hf hlen)
  have HP2 : Hid (∀ wq, Gr w wq → Calls Try.prog 17 #[.agg (ncells (.slice A n c) nx s), .agg #[.int .u64 0, .int .u64 0, .int .u64 0, .int .u64 0, .int .u64 0, .int .u64 0, .int .u64 0, .int .u64 0]] wq fun e w' => RetNet L nx sb wq e w') := Lib.hid (fun wq q => by
    have h := part_any (.slice A n c) L nx s (fun _ => 0) (fun _ _ => by decide) wq (hv.gr q) hf hlen
    rw [← hsb] at h
    exact h)
  rw [← hsa] at HP1
  have HR := Lib.hid (fun v' s' wq (q : PV wq v' L) => ready_any v' L nx s' wq q hlen)
  have HNB0 := Lib.hid hB0
  have HSV := Lib.hid hSV
  have HG := Lib.hid hG
  have HB1 := Lib.hid (rdy_one L HSB0.out)
  have HB2 := Lib.hid (rdy_all sa L)
  have HBL := Lib.hid (btw_le L L.length)
  clear hv hn hG hB0 hSV hsa hsb hPC
  go_enter Try.func5, Try.ntmps5
  go_upto_region 1 with (fail)
  rw [← hW]
  clear hW
  go_wp2_with fail
  refine (HAW.out _).mono ?_
  rintro e w1 ⟨rfl, g1⟩
  have HNB1 := Lib.hid (HNB0.out.gr g1)
  have HSV1 : Hid (∀ k, k < 8 → w1.cell? ⟨w.heap.size + 1, k, none⟩ = some (.int .u64 (a k : Int))) := Lib.hid (fun k hk => g1.cell (HSV.out k hk))
  have HG1 := Lib.hid (HG.out.trans g1)
  clear g1
  go_upto_region 3 with (fail)
  go_cut [5, 6] from 10 (fun s5 s6 wx => SidesR L nx sa sb w1 s5 s6 wx)
  case first =>
    refine wp_region_noPanic ?_
    refine wp_region_held_drew (S := fun w' => Gr w1 w') (by kernel_rfl) ((Gr.refl w1).drew) (fun hHeld => ?_)
    obtain ⟨X0, hX0⟩ : ∃ X, X = w1.drew := ⟨_, rfl⟩
    rw [← hX0] at hHeld ⊢
    have GX0 := Lib.hid hHeld
    clear hX0
    refine hTake (i := 0) rfl (by kernel_rfl) (by kernel_rfl) (by kernel_rfl) (by kernel_rfl) (by assumption) ?_
    apply Exists.intro
    refine ⟨fun _ _ _ h => h, fun wq hq => ?_, ?_⟩
    · go_light
      obtain ⟨h0, h1, h2, h3, h4, h5, h6, h7, h8, h9⟩ := HNB1.out.gr hq
      have q0 := hq.cell (HSV1.out 0 (by decide))
      have q1 := hq.cell (HSV1.out 1 (by decide))
      have q2 := hq.cell (HSV1.out 2 (by decide))
      have q3 := hq.cell (HSV1.out 3 (by decide))
      have q4 := hq.cell (HSV1.out 4 (by decide))
      have q5 := hq.cell (HSV1.out 5 (by decide))
      have q6 := hq.cell (HSV1.out 6 (by decide))
      have q7 := hq.cell (HSV1.out 7 (by decide))
      go_simp
      try with_reducible rfl
      done
    try simp only [Act.put, List.setIfInBounds_toArray, List.set_cons_zero, List.set_cons_succ]
    refine hTake (i := 1) rfl (by kernel_rfl) (by kernel_rfl) (by kernel_rfl) (by kernel_rfl) (by assumption) ?_
    apply Exists.intro
    refine ⟨fun _ _ _ h => h, fun wq hq => ?_, ?_⟩
    · go_light
      obtain ⟨h0, h1, h2, h3, h4, h5, h6, h7, h8, h9⟩ := HNB1.out.gr hq
      have q0 := hq.cell (HSV1.out 0 (by decide))
      have q1 := hq.cell (HSV1.out 1 (by decide))
      have q2 := hq.cell (HSV1.out 2 (by decide))
      have q3 := hq.cell (HSV1.out 3 (by decide))
      have q4 := hq.cell (HSV1.out 4 (by decide))
      have q5 := hq.cell (HSV1.out 5 (by decide))
      have q6 := hq.cell (HSV1.out 6 (by decide))
      have q7 := hq.cell (HSV1.out 7 (by decide))
      go_simp
      try with_reducible rfl
      done
    try simp only [Act.put, List.setIfInBounds_toArray, List.set_cons_zero, List.set_cons_succ]
    refine hTake (i := 3) rfl (by kernel_rfl) (by kernel_rfl) (by kernel_rfl) (by kernel_rfl) (by assumption) ?_
    apply Exists.intro
    refine ⟨fun _ _ _ h => h, fun wq hq => ?_, ?_⟩
    · go_light
      obtain ⟨h0, h1, h2, h3, h4, h5, h6, h7, h8, h9⟩ := HNB1.out.gr hq
      have q0 := hq.cell (HSV1.out 0 (by decide))
      have q1 := hq.cell (HSV1.out 1 (by decide))
      have q2 := hq.cell (HSV1.out 2 (by decide))
      have q3 := hq.cell (HSV1.out 3 (by decide))
      have q4 := hq.cell (HSV1.out 4 (by decide))
      have q5 := hq.cell (HSV1.out 5 (by decide))
      have q6 := hq.cell (HSV1.out 6 (by decide))
      have q7 := hq.cell (HSV1.out 7 (by decide))
      go_simp
      try with_reducible rfl
      done
    try simp only [Act.put, List.setIfInBounds_toArray, List.set_cons_zero, List.set_cons_succ]
    refine hTake (i := 4) rfl (by kernel_rfl) (by kernel_rfl) (by kernel_rfl) (by kernel_rfl) (by assumption) ?_
    apply Exists.intro
    refine ⟨fun _ _ _ h => h, fun wq hq => ?_, ?_⟩
    · go_light
      obtain ⟨h0, h1, h2, h3, h4, h5, h6, h7, h8, h9⟩ := HNB1.out.gr hq
      have q0 := hq.cell (HSV1.out 0 (by decide))
      have q1 := hq.cell (HSV1.out 1 (by decide))
      have q2 := hq.cell (HSV1.out 2 (by decide))
      have q3 := hq.cell (HSV1.out 3 (by decide))
      have q4 := hq.cell (HSV1.out 4 (by decide))
      have q5 := hq.cell (HSV1.out 5 (by decide))
      have q6 := hq.cell (HSV1.out 6 (by decide))
      have q7 := hq.cell (HSV1.out 7 (by decide))
      go_simp
      try with_reducible rfl
      done
    try simp only [Act.put, List.setIfInBounds_toArray, List.set_cons_zero, List.set_cons_succ]
    refine wpAnyH_ready (rs := [2, 6, 7]) (by kernel_rfl) (by simp) ?_
    refine AllReadyH.cons rfl (fun K hK => ?_) (AllReadyH.cons rfl (fun K hK => ?_) (AllReadyH.cons rfl (fun K hK => ?_) AllReadyH.nil))
    · go_simp
      refine (HP1.out _ (HG1.out.trans GX0.out)).mono ?_
      rintro e X1 ⟨v2, rfl, hown2, gX1⟩
      obtain ⟨A4, c4, hv2, -, -⟩ := hown2.form
      rw [← HN.out] at hv2
      subst hv2
      have R2 := Lib.hid hown2
      have EX1 := Lib.hid gX1
      have LO2 := Lib.hid (fun g hg => (World.ownsRow.lt hown2 g hg))
      have SE2 := Lib.hid gX1.size
      clear hown2 gX1
      go_wp2_with fail
      have GX1 := Lib.hid (GX0.out.trans EX1.out)
      have R2 : Hid (X1.ownsRow 0 31 4 (.slice A4 n c4) L.length (prows L)) := Lib.hid (own_le R2.out (Nat.zero_le _))
      refine hK.out _ _ GX1.out (fun hx => ?_)
      clear hK K
      try simp only [Act.put, List.setIfInBounds_toArray, List.set_cons_zero, List.set_cons_succ]
      refine wpAnyH_ready (rs := [5, 6, 7]) (by kernel_rfl) (by simp) ?_
      refine AllReadyH.cons rfl (fun K hK => ?_) (AllReadyH.cons rfl (fun K hK => ?_) (AllReadyH.cons rfl (fun K hK => ?_) AllReadyH.nil))
      · go_simp
        refine (HP2.out _ (HG1.out.trans GX1.out)).mono ?_
        rintro e X2 ⟨v5, rfl, hown5, gX2⟩
        obtain ⟨A6, c6, hv5, -, -⟩ := hown5.form
        rw [← HN.out] at hv5
        subst hv5
        have R5 := Lib.hid hown5
        have EX2 := Lib.hid gX2
        have LO5 := Lib.hid (fun g hg => (World.ownsRow.lt hown5 g hg))
        have SE5 := Lib.hid gX2.size
        clear hown5 gX2
        go_wp2_with fail
        have GX2 := Lib.hid (GX1.out.trans EX2.out)
        have R2 := Lib.hid (own_gr R2.out EX2.out)
        have R5 : Hid (X2.ownsRow 0 31 4 (.slice A6 n c6) L.length (prows L)) := Lib.hid (own_le R5.out (Nat.zero_le _))
        refine hK.out _ _ GX2.out (fun hx => ?_)
        clear hK K
        try simp only [Act.put, List.setIfInBounds_toArray, List.set_cons_zero, List.set_cons_succ]
        refine wpAnyH_ready (rs := [6, 7]) (by kernel_rfl) (by simp) ?_
        refine AllReadyH.cons rfl (fun K hK => ?_) (AllReadyH.cons rfl (fun K hK => ?_) AllReadyH.nil)
        · go_simp
          obtain ⟨X3, hX3, gX3, nbX3, nfX3⟩ : ∃ Y, Y = X2.alloc (.cells #[.slice none 0 0, .int .i64 0, .int .i64 0, .int .i64 0, .int .i64 0, .int .i64 0, .int .i64 0, .int .i64 0, .int .i64 0, .int .i64 0] 25) ∧ Gr X2 Y ∧ NB Y X2.heap.size (.slice none 0 0) 0 zs ∧ NF Y X2.heap.size := ⟨_, rfl, gr_box _ _, NB.new _ _ _ zs, NF.new _ _ _ zs⟩
          have HX3 := Lib.hid hX3
          have EX3 := Lib.hid gX3
          have BN6 := Lib.hid nbX3
          have BF6 := Lib.hid nfX3
          clear hX3 gX3 nbX3 nfX3
          have SZ6 : Hid (X3.heap.size = X2.heap.size + 1) := Lib.hid (by go_light; rw [HX3.out]; simp)
          rw [← HX3.out]
          obtain ⟨b6, hb6⟩ : ∃ b, b = X2.heap.size := ⟨_, rfl⟩
          rw [← hb6] at BN6 BF6 SZ6 ⊢
          have BE6 := Lib.hid hb6
          clear hb6
          have GX3 := Lib.hid (GX2.out.trans EX3.out)
          have R2 := Lib.hid (own_gr R2.out EX3.out)
          have R5 := Lib.hid (own_gr R5.out EX3.out)
          refine hK.out _ _ GX3.out (fun hx => ?_)
          clear hK K
          try simp only [Act.put, List.setIfInBounds_toArray, List.set_cons_zero, List.set_cons_succ]
          refine wpAnyH_ready (rs := [7]) (by kernel_rfl) (by simp) ?_
          refine AllReadyH.cons rfl (fun K hK => ?_)  AllReadyH.nil
          go_simp
          obtain ⟨X4, hX4, gX4, nbX4, nfX4⟩ : ∃ Y, Y = X3.alloc (.cells #[.slice none 0 0, .int .i64 0, .int .i64 0, .int .i64 0, .int .i64 0, .int .i64 0, .int .i64 0, .int .i64 0, .int .i64 0, .int .i64 0] 25) ∧ Gr X3 Y ∧ NB Y X3.heap.size (.slice none 0 0) 0 zs ∧ NF Y X3.heap.size := ⟨_, rfl, gr_box _ _, NB.new _ _ _ zs, NF.new _ _ _ zs⟩
          have HX4 := Lib.hid hX4
          have EX4 := Lib.hid gX4
          have BN7 := Lib.hid nbX4
          have BF7 := Lib.hid nfX4
          clear hX4 gX4 nbX4 nfX4
          have SZ7 : Hid (X4.heap.size = X3.heap.size + 1) := Lib.hid (by go_light; rw [HX4.out]; simp)
          rw [← HX4.out]
          obtain ⟨b7, hb7⟩ : ∃ b, b = X3.heap.size := ⟨_, rfl⟩
          rw [← hb7] at BN7 BF7 SZ7 ⊢
          have BE7 := Lib.hid hb7
          clear hb7
          have GX4 := Lib.hid (GX3.out.trans EX4.out)
          have BN6 := Lib.hid (BN6.out.gr EX4.out)
          have BF6 := Lib.hid (BF6.out.gr EX4.out)
          have R2 := Lib.hid (own_gr R2.out EX4.out)
          have R5 := Lib.hid (own_gr R5.out EX4.out)
          refine hK.out _ _ GX4.out (fun hx => ?_)
          clear hK K
          try simp only [Act.put, List.setIfInBounds_toArray, List.set_cons_zero, List.set_cons_succ]
          have ORD : Hid (b6 ≠ b7) := Lib.hid (by
            go_light
            have := EX1.out.size
            have := EX2.out.size
            have := EX3.out.size
            have := EX4.out.size
            have := SZ6.out
            have := SZ7.out
            have := BE6.out
            have := BE7.out
            omega)
          have NE62 : Hid ((Value.slice A4 n c4).ownBlock ≠ some b6) := Lib.hid (by
            go_light
            intro e
            have := LO2.out _ e
            have := EX1.out.size
            have := EX2.out.size
            have := EX3.out.size
            have := EX4.out.size
            have := SZ6.out
            have := SZ7.out
            have := BE6.out
            have := BE7.out
            omega)
          have NE65 : Hid ((Value.slice A6 n c6).ownBlock ≠ some b6) := Lib.hid (by
            go_light
            intro e
            have := LO5.out _ e
            have := EX1.out.size
            have := EX2.out.size
            have := EX3.out.size
            have := EX4.out.size
            have := SZ6.out
            have := SZ7.out
            have := BE6.out
            have := BE7.out
            omega)
          have LB6 : Hid (w1.heap.size ≤ b6) := Lib.hid (by
            go_light
            have := GX0.out.size
            have := EX1.out.size
            have := EX2.out.size
            have := EX3.out.size
            have := EX4.out.size
            have := BE6.out
            omega)
          have NE72 : Hid ((Value.slice A4 n c4).ownBlock ≠ some b7) := Lib.hid (by
            go_light
            intro e
            have := LO2.out _ e
            have := EX1.out.size
            have := EX2.out.size
            have := EX3.out.size
            have := EX4.out.size
            have := SZ6.out
            have := SZ7.out
            have := BE6.out
            have := BE7.out
            omega)
          have NE75 : Hid ((Value.slice A6 n c6).ownBlock ≠ some b7) := Lib.hid (by
            go_light
            intro e
            have := LO5.out _ e
            have := EX1.out.size
            have := EX2.out.size
            have := EX3.out.size
            have := EX4.out.size
            have := SZ6.out
            have := SZ7.out
            have := BE6.out
            have := BE7.out
            omega)
          have LB7 : Hid (w1.heap.size ≤ b7) := Lib.hid (by
            go_light
            have := GX0.out.size
            have := EX1.out.size
            have := EX2.out.size
            have := EX3.out.size
            have := EX4.out.size
            have := BE7.out
            omega)
          refine wpAnyH_ready (rs := [8]) (by kernel_rfl) (by simp) ?_
          refine AllReadyH.cons rfl (fun K hK => ?_)  AllReadyH.nil
          have hx := BN6.out
          have d0 := hx.1
          have d1 := hx.2.1
          have d2 := hx.2.2.1
          have d3 := hx.2.2.2.1
          have d4 := hx.2.2.2.2.1
          have d5 := hx.2.2.2.2.2.1
          have d6 := hx.2.2.2.2.2.2.1
          have d7 := hx.2.2.2.2.2.2.2.1
          have d8 := hx.2.2.2.2.2.2.2.2.1
          have d9 := hx.2.2.2.2.2.2.2.2.2
          have hy := BF6.out.2
          have y0 := hy.1
          have y1 := hy.2.1
          have y2 := hy.2.2.1
          have y3 := hy.2.2.2.1
          have y4 := hy.2.2.2.2.1
          have y5 := hy.2.2.2.2.2.1
          have y6 := hy.2.2.2.2.2.2.1
          have y7 := hy.2.2.2.2.2.2.2.1
          have y8 := hy.2.2.2.2.2.2.2.2.1
          have y9 := hy.2.2.2.2.2.2.2.2.2
          clear hx hy
          go_simp
          clear d0 d1 d2 d3 d4 d5 d6 d7 d8 d9 y0 y1 y2 y3 y4 y5 y6 y7 y8 y9
          obtain ⟨X5, hX5⟩ : ∃ Y, Y = put10 X4 b6 (.slice A4 n c4) (.int .i64 nx) (.int .i64 (sa 0)) (.int .i64 (sa 1)) (.int .i64 (sa 2)) (.int .i64 (sa 3)) (.int .i64 (sa 4)) (.int .i64 (sa 5)) (.int .i64 (sa 6)) (.int .i64 (sa 7)) := ⟨_, rfl⟩
          have nbX5 : NB X5 b6 (.slice A4 n c4) nx sa := by rw [hX5]; exact NB.put BN6.out _ _ _
          have obX5 : NB X5 b7 (.slice none 0 0) 0 zs := by rw [hX5]; exact NB.far10 (b := b6) BN7.out (fun e => ORD.out e.symm) _ _ _ _ _ _ _ _ _ _
          have ofX5 : NF X5 b7 := by rw [hX5]; exact NF.put10 BF7.out _ _ _ _ _ _ _ _ _ _
          have r2X5 : X5.ownsRow 0 31 4 (.slice A4 n c4) L.length (prows L) := by
            rw [hX5]
            exact own_put10n R2.out (fun e => NE62.out e) _ _ _ _ _ _ _ _ _ _
          have r5X5 : X5.ownsRow 0 31 4 (.slice A6 n c6) L.length (prows L) := by
            rw [hX5]
            exact own_put10n R5.out (fun e => NE65.out e) _ _ _ _ _ _ _ _ _ _
          have ggX5 : Gr w1 X5 := by rw [hX5]; exact below_put10 GX4.out (LB6.out) _ _ _ _ _ _ _ _ _ _
          have HX5 := Lib.hid hX5
          have BN6 := Lib.hid nbX5
          have BN7 := Lib.hid obX5
          have BF7 := Lib.hid ofX5
          have R2 := Lib.hid r2X5
          have R5 := Lib.hid r5X5
          have GX5 := Lib.hid ggX5
          clear hX5 nbX5 obX5 ofX5 r2X5 r5X5 ggX5
          have hX5 := HX5.out
          unfold put10 at hX5
          rw [← hX5]
          clear hX5
          refine hK.out _ _ GX5.out (fun hx => ?_)
          clear hK K
          try simp only [Act.put, List.setIfInBounds_toArray, List.set_cons_zero, List.set_cons_succ]
          refine wpAnyH_ready (rs := [9]) (by kernel_rfl) (by simp) ?_
          refine AllReadyH.cons rfl (fun K hK => ?_)  AllReadyH.nil
          have hx := BN7.out
          have d0 := hx.1
          have d1 := hx.2.1
          have d2 := hx.2.2.1
          have d3 := hx.2.2.2.1
          have d4 := hx.2.2.2.2.1
          have d5 := hx.2.2.2.2.2.1
          have d6 := hx.2.2.2.2.2.2.1
          have d7 := hx.2.2.2.2.2.2.2.1
          have d8 := hx.2.2.2.2.2.2.2.2.1
          have d9 := hx.2.2.2.2.2.2.2.2.2
          have hy := BF7.out.2
          have y0 := hy.1
          have y1 := hy.2.1
          have y2 := hy.2.2.1
          have y3 := hy.2.2.2.1
          have y4 := hy.2.2.2.2.1
          have y5 := hy.2.2.2.2.2.1
          have y6 := hy.2.2.2.2.2.2.1
          have y7 := hy.2.2.2.2.2.2.2.1
          have y8 := hy.2.2.2.2.2.2.2.2.1
          have y9 := hy.2.2.2.2.2.2.2.2.2
          clear hx hy
          go_simp
          clear d0 d1 d2 d3 d4 d5 d6 d7 d8 d9 y0 y1 y2 y3 y4 y5 y6 y7 y8 y9
          obtain ⟨X6, hX6⟩ : ∃ Y, Y = put10 X5 b7 (.slice A6 n c6) (.int .i64 nx) (.int .i64 (sb 0)) (.int .i64 (sb 1)) (.int .i64 (sb 2)) (.int .i64 (sb 3)) (.int .i64 (sb 4)) (.int .i64 (sb 5)) (.int .i64 (sb 6)) (.int .i64 (sb 7)) := ⟨_, rfl⟩
          have nbX6 : NB X6 b7 (.slice A6 n c6) nx sb := by rw [hX6]; exact NB.put BN7.out _ _ _
          have obX6 : NB X6 b6 (.slice A4 n c4) nx sa := by rw [hX6]; exact NB.far10 (b := b7) BN6.out ORD.out _ _ _ _ _ _ _ _ _ _
          have r2X6 : X6.ownsRow 0 31 4 (.slice A4 n c4) L.length (prows L) := by
            rw [hX6]
            exact own_put10n R2.out (fun e => NE72.out e) _ _ _ _ _ _ _ _ _ _
          have r5X6 : X6.ownsRow 0 31 4 (.slice A6 n c6) L.length (prows L) := by
            rw [hX6]
            exact own_put10n R5.out (fun e => NE75.out e) _ _ _ _ _ _ _ _ _ _
          have ggX6 : Gr w1 X6 := by rw [hX6]; exact below_put10 GX5.out (LB7.out) _ _ _ _ _ _ _ _ _ _
          have HX6 := Lib.hid hX6
          have BN7 := Lib.hid nbX6
          have BN6 := Lib.hid obX6
          have R2 := Lib.hid r2X6
          have R5 := Lib.hid r5X6
          have GX6 := Lib.hid ggX6
          clear hX6 nbX6 obX6  r2X6 r5X6 ggX6
          have hX6 := HX6.out
          unfold put10 at hX6
          rw [← hX6]
          clear hX6
          refine hK.out _ _ GX6.out (fun hx => ?_)
          clear hK K
          try simp only [Act.put, List.setIfInBounds_toArray, List.set_cons_zero, List.set_cons_succ]
          refine wpAnyH_done (by kernel_rfl) ?_ _
          refine NoPanic.normal ?_
          have HFIN : Hid (SidesR L nx sa sb w1 (.pointer (some ⟨b6, 0, none⟩)) (.pointer (some ⟨b7, 0, none⟩)) X6) := Lib.hid ⟨b6, b7, _, _, rfl, rfl, BN6.out, BN7.out, PV.of_sl (own_sl R2.out), PV.of_sl (own_sl R5.out), GX6.out⟩
          go_wp2_with fail
          go_meet
          exact HFIN.out
        · go_simp
          obtain ⟨X3, hX3, gX3, nbX3, nfX3⟩ : ∃ Y, Y = X2.alloc (.cells #[.slice none 0 0, .int .i64 0, .int .i64 0, .int .i64 0, .int .i64 0, .int .i64 0, .int .i64 0, .int .i64 0, .int .i64 0, .int .i64 0] 25) ∧ Gr X2 Y ∧ NB Y X2.heap.size (.slice none 0 0) 0 zs ∧ NF Y X2.heap.size := ⟨_, rfl, gr_box _ _, NB.new _ _ _ zs, NF.new _ _ _ zs⟩
          have HX3 := Lib.hid hX3
          have EX3 := Lib.hid gX3
          have BN7 := Lib.hid nbX3
          have BF7 := Lib.hid nfX3
          clear hX3 gX3 nbX3 nfX3
          have SZ7 : Hid (X3.heap.size = X2.heap.size + 1) := Lib.hid (by go_light; rw [HX3.out]; simp)
          rw [← HX3.out]
          obtain ⟨b7, hb7⟩ : ∃ b, b = X2.heap.size := ⟨_, rfl⟩
          rw [← hb7] at BN7 BF7 SZ7 ⊢
          have BE7 := Lib.hid hb7
          clear hb7
          have GX3 := Lib.hid (GX2.out.trans EX3.out)
          have R2 := Lib.hid (own_gr R2.out EX3.out)
          have R5 := Lib.hid (own_gr R5.out EX3.out)
          refine hK.out _ _ GX3.out (fun hx => ?_)
          clear hK K
          try simp only [Act.put, List.setIfInBounds_toArray, List.set_cons_zero, List.set_cons_succ]
          refine wpAnyH_ready (rs := [6]) (by kernel_rfl) (by simp) ?_
          refine AllReadyH.cons rfl (fun K hK => ?_)  AllReadyH.nil
          go_simp
          obtain ⟨X4, hX4, gX4, nbX4, nfX4⟩ : ∃ Y, Y = X3.alloc (.cells #[.slice none 0 0, .int .i64 0, .int .i64 0, .int .i64 0, .int .i64 0, .int .i64 0, .int .i64 0, .int .i64 0, .int .i64 0, .int .i64 0] 25) ∧ Gr X3 Y ∧ NB Y X3.heap.size (.slice none 0 0) 0 zs ∧ NF Y X3.heap.size := ⟨_, rfl, gr_box _ _, NB.new _ _ _ zs, NF.new _ _ _ zs⟩
          have HX4 := Lib.hid hX4
          have EX4 := Lib.hid gX4
          have BN6 := Lib.hid nbX4
          have BF6 := Lib.hid nfX4
          clear hX4 gX4 nbX4 nfX4
          have SZ6 : Hid (X4.heap.size = X3.heap.size + 1) := Lib.hid (by go_light; rw [HX4.out]; simp)
          rw [← HX4.out]
          obtain ⟨b6, hb6⟩ : ∃ b, b = X3.heap.size := ⟨_, rfl⟩
          rw [← hb6] at BN6 BF6 SZ6 ⊢
          have BE6 := Lib.hid hb6
          clear hb6
          have GX4 := Lib.hid (GX3.out.trans EX4.out)
          have BN7 := Lib.hid (BN7.out.gr EX4.out)
          have BF7 := Lib.hid (BF7.out.gr EX4.out)
          have R2 := Lib.hid (own_gr R2.out EX4.out)
          have R5 := Lib.hid (own_gr R5.out EX4.out)
          refine hK.out _ _ GX4.out (fun hx => ?_)
          clear hK K
          try simp only [Act.put, List.setIfInBounds_toArray, List.set_cons_zero, List.set_cons_succ]
          have ORD : Hid (b6 ≠ b7) := Lib.hid (by
            go_light
            have := EX1.out.size
            have := EX2.out.size
            have := EX3.out.size
            have := EX4.out.size
            have := SZ6.out
            have := SZ7.out
            have := BE6.out
            have := BE7.out
            omega)
          have NE62 : Hid ((Value.slice A4 n c4).ownBlock ≠ some b6) := Lib.hid (by
            go_light
            intro e
            have := LO2.out _ e
            have := EX1.out.size
            have := EX2.out.size
            have := EX3.out.size
            have := EX4.out.size
            have := SZ6.out
            have := SZ7.out
            have := BE6.out
            have := BE7.out
            omega)
          have NE65 : Hid ((Value.slice A6 n c6).ownBlock ≠ some b6) := Lib.hid (by
            go_light
            intro e
            have := LO5.out _ e
            have := EX1.out.size
            have := EX2.out.size
            have := EX3.out.size
            have := EX4.out.size
            have := SZ6.out
            have := SZ7.out
            have := BE6.out
            have := BE7.out
            omega)
          have LB6 : Hid (w1.heap.size ≤ b6) := Lib.hid (by
            go_light
            have := GX0.out.size
            have := EX1.out.size
            have := EX2.out.size
            have := EX3.out.size
            have := EX4.out.size
            have := BE6.out
            omega)
          have NE72 : Hid ((Value.slice A4 n c4).ownBlock ≠ some b7) := Lib.hid (by
            go_light
            intro e
            have := LO2.out _ e
            have := EX1.out.size
            have := EX2.out.size
            have := EX3.out.size
            have := EX4.out.size
            have := SZ6.out
            have := SZ7.out
            have := BE6.out
            have := BE7.out
            omega)
          have NE75 : Hid ((Value.slice A6 n c6).ownBlock ≠ some b7) := Lib.hid (by
            go_light
            intro e
            have := LO5.out _ e
            have := EX1.out.size
            have := EX2.out.size
            have := EX3.out.size
            have := EX4.out.size
            have := SZ6.out
            have := SZ7.out
            have := BE6.out
            have := BE7.out
            omega)
          have LB7 : Hid (w1.heap.size ≤ b7) := Lib.hid (by
            go_light
            have := GX0.out.size
            have := EX1.out.size
            have := EX2.out.size
            have := EX3.out.size
            have := EX4.out.size
            have := BE7.out
            omega)
          refine wpAnyH_ready (rs := [8]) (by kernel_rfl) (by simp) ?_
          refine AllReadyH.cons rfl (fun K hK => ?_)  AllReadyH.nil
          have hx := BN6.out
          have d0 := hx.1
          have d1 := hx.2.1
          have d2 := hx.2.2.1
          have d3 := hx.2.2.2.1
          have d4 := hx.2.2.2.2.1
          have d5 := hx.2.2.2.2.2.1
          have d6 := hx.2.2.2.2.2.2.1
          have d7 := hx.2.2.2.2.2.2.2.1
          have d8 := hx.2.2.2.2.2.2.2.2.1
          have d9 := hx.2.2.2.2.2.2.2.2.2
          have hy := BF6.out.2
          have y0 := hy.1
          have y1 := hy.2.1
          have y2 := hy.2.2.1
          have y3 := hy.2.2.2.1
          have y4 := hy.2.2.2.2.1
          have y5 := hy.2.2.2.2.2.1
          have y6 := hy.2.2.2.2.2.2.1
          have y7 := hy.2.2.2.2.2.2.2.1
          have y8 := hy.2.2.2.2.2.2.2.2.1
          have y9 := hy.2.2.2.2.2.2.2.2.2
          clear hx hy
          go_simp
          clear d0 d1 d2 d3 d4 d5 d6 d7 d8 d9 y0 y1 y2 y3 y4 y5 y6 y7 y8 y9
          obtain ⟨X5, hX5⟩ : ∃ Y, Y = put10 X4 b6 (.slice A4 n c4) (.int .i64 nx) (.int .i64 (sa 0)) (.int .i64 (sa 1)) (.int .i64 (sa 2)) (.int .i64 (sa 3)) (.int .i64 (sa 4)) (.int .i64 (sa 5)) (.int .i64 (sa 6)) (.int .i64 (sa 7)) := ⟨_, rfl⟩
          have nbX5 : NB X5 b6 (.slice A4 n c4) nx sa := by rw [hX5]; exact NB.put BN6.out _ _ _
          have obX5 : NB X5 b7 (.slice none 0 0) 0 zs := by rw [hX5]; exact NB.far10 (b := b6) BN7.out (fun e => ORD.out e.symm) _ _ _ _ _ _ _ _ _ _
          have ofX5 : NF X5 b7 := by rw [hX5]; exact NF.put10 BF7.out _ _ _ _ _ _ _ _ _ _
          have r2X5 : X5.ownsRow 0 31 4 (.slice A4 n c4) L.length (prows L) := by
            rw [hX5]
            exact own_put10n R2.out (fun e => NE62.out e) _ _ _ _ _ _ _ _ _ _
          have r5X5 : X5.ownsRow 0 31 4 (.slice A6 n c6) L.length (prows L) := by
            rw [hX5]
            exact own_put10n R5.out (fun e => NE65.out e) _ _ _ _ _ _ _ _ _ _
          have ggX5 : Gr w1 X5 := by rw [hX5]; exact below_put10 GX4.out (LB6.out) _ _ _ _ _ _ _ _ _ _
          have HX5 := Lib.hid hX5
          have BN6 := Lib.hid nbX5
          have BN7 := Lib.hid obX5
          have BF7 := Lib.hid ofX5
          have R2 := Lib.hid r2X5
          have R5 := Lib.hid r5X5
          have GX5 := Lib.hid ggX5
          clear hX5 nbX5 obX5 ofX5 r2X5 r5X5 ggX5
          have hX5 := HX5.out
          unfold put10 at hX5
          rw [← hX5]
          clear hX5
          refine hK.out _ _ GX5.out (fun hx => ?_)
          clear hK K
          try simp only [Act.put, List.setIfInBounds_toArray, List.set_cons_zero, List.set_cons_succ]
          refine wpAnyH_ready (rs := [9]) (by kernel_rfl) (by simp) ?_
          refine AllReadyH.cons rfl (fun K hK => ?_)  AllReadyH.nil
          have hx := BN7.out
          have d0 := hx.1
          have d1 := hx.2.1
          have d2 := hx.2.2.1
          have d3 := hx.2.2.2.1
          have d4 := hx.2.2.2.2.1
          have d5 := hx.2.2.2.2.2.1
          have d6 := hx.2.2.2.2.2.2.1
          have d7 := hx.2.2.2.2.2.2.2.1
          have d8 := hx.2.2.2.2.2.2.2.2.1
          have d9 := hx.2.2.2.2.2.2.2.2.2
          have hy := BF7.out.2
          have y0 := hy.1
          have y1 := hy.2.1
          have y2 := hy.2.2.1
          have y3 := hy.2.2.2.1
          have y4 := hy.2.2.2.2.1
          have y5 := hy.2.2.2.2.2.1
          have y6 := hy.2.2.2.2.2.2.1
          have y7 := hy.2.2.2.2.2.2.2.1
          have y8 := hy.2.2.2.2.2.2.2.2.1
          have y9 := hy.2.2.2.2.2.2.2.2.2
          clear hx hy
          go_simp
          clear d0 d1 d2 d3 d4 d5 d6 d7 d8 d9 y0 y1 y2 y3 y4 y5 y6 y7 y8 y9
          obtain ⟨X6, hX6⟩ : ∃ Y, Y = put10 X5 b7 (.slice A6 n c6) (.int .i64 nx) (.int .i64 (sb 0)) (.int .i64 (sb 1)) (.int .i64 (sb 2)) (.int .i64 (sb 3)) (.int .i64 (sb 4)) (.int .i64 (sb 5)) (.int .i64 (sb 6)) (.int .i64 (sb 7)) := ⟨_, rfl⟩
          have nbX6 : NB X6 b7 (.slice A6 n c6) nx sb := by rw [hX6]; exact NB.put BN7.out _ _ _
          have obX6 : NB X6 b6 (.slice A4 n c4) nx sa := by rw [hX6]; exact NB.far10 (b := b7) BN6.out ORD.out _ _ _ _ _ _ _ _ _ _
          have r2X6 : X6.ownsRow 0 31 4 (.slice A4 n c4) L.length (prows L) := by
            rw [hX6]
            exact own_put10n R2.out (fun e => NE72.out e) _ _ _ _ _ _ _ _ _ _
          have r5X6 : X6.ownsRow 0 31 4 (.slice A6 n c6) L.length (prows L) := by
            rw [hX6]
            exact own_put10n R5.out (fun e => NE75.out e) _ _ _ _ _ _ _ _ _ _
          have ggX6 : Gr w1 X6 := by rw [hX6]; exact below_put10 GX5.out (LB7.out) _ _ _ _ _ _ _ _ _ _
          have HX6 := Lib.hid hX6
          have BN7 := Lib.hid nbX6
          have BN6 := Lib.hid obX6
          have R2 := Lib.hid r2X6
          have R5 := Lib.hid r5X6
          have GX6 := Lib.hid ggX6
          clear hX6 nbX6 obX6  r2X6 r5X6 ggX6
          have hX6 := HX6.out
          unfold put10 at hX6
          rw [← hX6]
          clear hX6
          refine hK.out _ _ GX6.out (fun hx => ?_)
          clear hK K
          try simp only [Act.put, List.setIfInBounds_toArray, List.set_cons_zero, List.set_cons_succ]
          refine wpAnyH_done (by kernel_rfl) ?_ _
          refine NoPanic.normal ?_
          have HFIN : Hid (SidesR L nx sa sb w1 (.pointer (some ⟨b6, 0, none⟩)) (.pointer (some ⟨b7, 0, none⟩)) X6) := Lib.hid ⟨b6, b7, _, _, rfl, rfl, BN6.out, BN7.out, PV.of_sl (own_sl R2.out), PV.of_sl (own_sl R5.out), GX6.out⟩
          go_wp2_with fail
          go_meet
          exact HFIN.out
      · go_simp
        obtain ⟨X2, hX2, gX2, nbX2, nfX2⟩ : ∃ Y, Y = X1.alloc (.cells #[.slice none 0 0, .int .i64 0, .int .i64 0, .int .i64 0, .int .i64 0, .int .i64 0, .int .i64 0, .int .i64 0, .int .i64 0, .int .i64 0] 25) ∧ Gr X1 Y ∧ NB Y X1.heap.size (.slice none 0 0) 0 zs ∧ NF Y X1.heap.size := ⟨_, rfl, gr_box _ _, NB.new _ _ _ zs, NF.new _ _ _ zs⟩
        have HX2 := Lib.hid hX2
        have EX2 := Lib.hid gX2
        have BN6 := Lib.hid nbX2
        have BF6 := Lib.hid nfX2
        clear hX2 gX2 nbX2 nfX2
        have SZ6 : Hid (X2.heap.size = X1.heap.size + 1) := Lib.hid (by go_light; rw [HX2.out]; simp)
        rw [← HX2.out]
        obtain ⟨b6, hb6⟩ : ∃ b, b = X1.heap.size := ⟨_, rfl⟩
        rw [← hb6] at BN6 BF6 SZ6 ⊢
        have BE6 := Lib.hid hb6
        clear hb6
        have GX2 := Lib.hid (GX1.out.trans EX2.out)
        have R2 := Lib.hid (own_gr R2.out EX2.out)
        refine hK.out _ _ GX2.out (fun hx => ?_)
        clear hK K
        try simp only [Act.put, List.setIfInBounds_toArray, List.set_cons_zero, List.set_cons_succ]
        refine wpAnyH_ready (rs := [5, 7]) (by kernel_rfl) (by simp) ?_
        refine AllReadyH.cons rfl (fun K hK => ?_) (AllReadyH.cons rfl (fun K hK => ?_) AllReadyH.nil)
        · go_simp
          refine (HP2.out _ (HG1.out.trans GX2.out)).mono ?_
          rintro e X3 ⟨v5, rfl, hown5, gX3⟩
          obtain ⟨A6, c6, hv5, -, -⟩ := hown5.form
          rw [← HN.out] at hv5
          subst hv5
          have R5 := Lib.hid hown5
          have EX3 := Lib.hid gX3
          have LO5 := Lib.hid (fun g hg => (World.ownsRow.lt hown5 g hg))
          have SE5 := Lib.hid gX3.size
          clear hown5 gX3
          go_wp2_with fail
          have GX3 := Lib.hid (GX2.out.trans EX3.out)
          have BN6 := Lib.hid (BN6.out.gr EX3.out)
          have BF6 := Lib.hid (BF6.out.gr EX3.out)
          have R2 := Lib.hid (own_gr R2.out EX3.out)
          have R5 : Hid (X3.ownsRow 0 31 4 (.slice A6 n c6) L.length (prows L)) := Lib.hid (own_le R5.out (Nat.zero_le _))
          refine hK.out _ _ GX3.out (fun hx => ?_)
          clear hK K
          try simp only [Act.put, List.setIfInBounds_toArray, List.set_cons_zero, List.set_cons_succ]
          refine wpAnyH_ready (rs := [7]) (by kernel_rfl) (by simp) ?_
          refine AllReadyH.cons rfl (fun K hK => ?_)  AllReadyH.nil
          go_simp
          obtain ⟨X4, hX4, gX4, nbX4, nfX4⟩ : ∃ Y, Y = X3.alloc (.cells #[.slice none 0 0, .int .i64 0, .int .i64 0, .int .i64 0, .int .i64 0, .int .i64 0, .int .i64 0, .int .i64 0, .int .i64 0, .int .i64 0] 25) ∧ Gr X3 Y ∧ NB Y X3.heap.size (.slice none 0 0) 0 zs ∧ NF Y X3.heap.size := ⟨_, rfl, gr_box _ _, NB.new _ _ _ zs, NF.new _ _ _ zs⟩
          have HX4 := Lib.hid hX4
          have EX4 := Lib.hid gX4
          have BN7 := Lib.hid nbX4
          have BF7 := Lib.hid nfX4
          clear hX4 gX4 nbX4 nfX4
          have SZ7 : Hid (X4.heap.size = X3.heap.size + 1) := Lib.hid (by go_light; rw [HX4.out]; simp)
          rw [← HX4.out]
          obtain ⟨b7, hb7⟩ : ∃ b, b = X3.heap.size := ⟨_, rfl⟩
          rw [← hb7] at BN7 BF7 SZ7 ⊢
          have BE7 := Lib.hid hb7
          clear hb7
          have GX4 := Lib.hid (GX3.out.trans EX4.out)
          have BN6 := Lib.hid (BN6.out.gr EX4.out)
          have BF6 := Lib.hid (BF6.out.gr EX4.out)
          have R2 := Lib.hid (own_gr R2.out EX4.out)
          have R5 := Lib.hid (own_gr R5.out EX4.out)
          refine hK.out _ _ GX4.out (fun hx => ?_)
          clear hK K
          try simp only [Act.put, List.setIfInBounds_toArray, List.set_cons_zero, List.set_cons_succ]
          have ORD : Hid (b6 ≠ b7) := Lib.hid (by
            go_light
            have := EX1.out.size
            have := EX2.out.size
            have := EX3.out.size
            have := EX4.out.size
            have := SZ6.out
            have := SZ7.out
            have := BE6.out
            have := BE7.out
            omega)
          have NE62 : Hid ((Value.slice A4 n c4).ownBlock ≠ some b6) := Lib.hid (by
            go_light
            intro e
            have := LO2.out _ e
            have := EX1.out.size
            have := EX2.out.size
            have := EX3.out.size
            have := EX4.out.size
            have := SZ6.out
            have := SZ7.out
            have := BE6.out
            have := BE7.out
            omega)
          have NE65 : Hid ((Value.slice A6 n c6).ownBlock ≠ some b6) := Lib.hid (by
            go_light
            intro e
            have := LO5.out _ e
            have := EX1.out.size
            have := EX2.out.size
            have := EX3.out.size
            have := EX4.out.size
            have := SZ6.out
            have := SZ7.out
            have := BE6.out
            have := BE7.out
            omega)
          have LB6 : Hid (w1.heap.size ≤ b6) := Lib.hid (by
            go_light
            have := GX0.out.size
            have := EX1.out.size
            have := EX2.out.size
            have := EX3.out.size
            have := EX4.out.size
            have := BE6.out
            omega)
          have NE72 : Hid ((Value.slice A4 n c4).ownBlock ≠ some b7) := Lib.hid (by
            go_light
            intro e
            have := LO2.out _ e
            have := EX1.out.size
            have := EX2.out.size
            have := EX3.out.size
            have := EX4.out.size
            have := SZ6.out
            have := SZ7.out
            have := BE6.out
            have := BE7.out
            omega)
          have NE75 : Hid ((Value.slice A6 n c6).ownBlock ≠ some b7) := Lib.hid (by
            go_light
            intro e
            have := LO5.out _ e
            have := EX1.out.size
            have := EX2.out.size
            have := EX3.out.size
            have := EX4.out.size
            have := SZ6.out
            have := SZ7.out
            have := BE6.out
            have := BE7.out
            omega)
          have LB7 : Hid (w1.heap.size ≤ b7) := Lib.hid (by
            go_light
            have := GX0.out.size
            have := EX1.out.size
            have := EX2.out.size
            have := EX3.out.size
            have := EX4.out.size
            have := BE7.out
            omega)
          refine wpAnyH_ready (rs := [8]) (by kernel_rfl) (by simp) ?_
          refine AllReadyH.cons rfl (fun K hK => ?_)  AllReadyH.nil
          have hx := BN6.out
          have d0 := hx.1
          have d1 := hx.2.1
          have d2 := hx.2.2.1
          have d3 := hx.2.2.2.1
          have d4 := hx.2.2.2.2.1
          have d5 := hx.2.2.2.2.2.1
          have d6 := hx.2.2.2.2.2.2.1
          have d7 := hx.2.2.2.2.2.2.2.1
          have d8 := hx.2.2.2.2.2.2.2.2.1
          have d9 := hx.2.2.2.2.2.2.2.2.2
          have hy := BF6.out.2
          have y0 := hy.1
          have y1 := hy.2.1
          have y2 := hy.2.2.1
          have y3 := hy.2.2.2.1
          have y4 := hy.2.2.2.2.1
          have y5 := hy.2.2.2.2.2.1
          have y6 := hy.2.2.2.2.2.2.1
          have y7 := hy.2.2.2.2.2.2.2.1
          have y8 := hy.2.2.2.2.2.2.2.2.1
          have y9 := hy.2.2.2.2.2.2.2.2.2
          clear hx hy
          go_simp
          clear d0 d1 d2 d3 d4 d5 d6 d7 d8 d9 y0 y1 y2 y3 y4 y5 y6 y7 y8 y9
          obtain ⟨X5, hX5⟩ : ∃ Y, Y = put10 X4 b6 (.slice A4 n c4) (.int .i64 nx) (.int .i64 (sa 0)) (.int .i64 (sa 1)) (.int .i64 (sa 2)) (.int .i64 (sa 3)) (.int .i64 (sa 4)) (.int .i64 (sa 5)) (.int .i64 (sa 6)) (.int .i64 (sa 7)) := ⟨_, rfl⟩
          have nbX5 : NB X5 b6 (.slice A4 n c4) nx sa := by rw [hX5]; exact NB.put BN6.out _ _ _
          have obX5 : NB X5 b7 (.slice none 0 0) 0 zs := by rw [hX5]; exact NB.far10 (b := b6) BN7.out (fun e => ORD.out e.symm) _ _ _ _ _ _ _ _ _ _
          have ofX5 : NF X5 b7 := by rw [hX5]; exact NF.put10 BF7.out _ _ _ _ _ _ _ _ _ _
          have r2X5 : X5.ownsRow 0 31 4 (.slice A4 n c4) L.length (prows L) := by
            rw [hX5]
            exact own_put10n R2.out (fun e => NE62.out e) _ _ _ _ _ _ _ _ _ _
          have r5X5 : X5.ownsRow 0 31 4 (.slice A6 n c6) L.length (prows L) := by
            rw [hX5]
            exact own_put10n R5.out (fun e => NE65.out e) _ _ _ _ _ _ _ _ _ _
          have ggX5 : Gr w1 X5 := by rw [hX5]; exact below_put10 GX4.out (LB6.out) _ _ _ _ _ _ _ _ _ _
          have HX5 := Lib.hid hX5
          have BN6 := Lib.hid nbX5
          have BN7 := Lib.hid obX5
          have BF7 := Lib.hid ofX5
          have R2 := Lib.hid r2X5
          have R5 := Lib.hid r5X5
          have GX5 := Lib.hid ggX5
          clear hX5 nbX5 obX5 ofX5 r2X5 r5X5 ggX5
          have hX5 := HX5.out
          unfold put10 at hX5
          rw [← hX5]
          clear hX5
          refine hK.out _ _ GX5.out (fun hx => ?_)
          clear hK K
          try simp only [Act.put, List.setIfInBounds_toArray, List.set_cons_zero, List.set_cons_succ]
          refine wpAnyH_ready (rs := [9]) (by kernel_rfl) (by simp) ?_
          refine AllReadyH.cons rfl (fun K hK => ?_)  AllReadyH.nil
          have hx := BN7.out
          have d0 := hx.1
          have d1 := hx.2.1
          have d2 := hx.2.2.1
          have d3 := hx.2.2.2.1
          have d4 := hx.2.2.2.2.1
          have d5 := hx.2.2.2.2.2.1
          have d6 := hx.2.2.2.2.2.2.1
          have d7 := hx.2.2.2.2.2.2.2.1
          have d8 := hx.2.2.2.2.2.2.2.2.1
          have d9 := hx.2.2.2.2.2.2.2.2.2
          have hy := BF7.out.2
          have y0 := hy.1
          have y1 := hy.2.1
          have y2 := hy.2.2.1
          have y3 := hy.2.2.2.1
          have y4 := hy.2.2.2.2.1
          have y5 := hy.2.2.2.2.2.1
          have y6 := hy.2.2.2.2.2.2.1
          have y7 := hy.2.2.2.2.2.2.2.1
          have y8 := hy.2.2.2.2.2.2.2.2.1
          have y9 := hy.2.2.2.2.2.2.2.2.2
          clear hx hy
          go_simp
          clear d0 d1 d2 d3 d4 d5 d6 d7 d8 d9 y0 y1 y2 y3 y4 y5 y6 y7 y8 y9
          obtain ⟨X6, hX6⟩ : ∃ Y, Y = put10 X5 b7 (.slice A6 n c6) (.int .i64 nx) (.int .i64 (sb 0)) (.int .i64 (sb 1)) (.int .i64 (sb 2)) (.int .i64 (sb 3)) (.int .i64 (sb 4)) (.int .i64 (sb 5)) (.int .i64 (sb 6)) (.int .i64 (sb 7)) := ⟨_, rfl⟩
          have nbX6 : NB X6 b7 (.slice A6 n c6) nx sb := by rw [hX6]; exact NB.put BN7.out _ _ _
          have obX6 : NB X6 b6 (.slice A4 n c4) nx sa := by rw [hX6]; exact NB.far10 (b := b7) BN6.out ORD.out _ _ _ _ _ _ _ _ _ _
          have r2X6 : X6.ownsRow 0 31 4 (.slice A4 n c4) L.length (prows L) := by
            rw [hX6]
            exact own_put10n R2.out (fun e => NE72.out e) _ _ _ _ _ _ _ _ _ _
          have r5X6 : X6.ownsRow 0 31 4 (.slice A6 n c6) L.length (prows L) := by
            rw [hX6]
            exact own_put10n R5.out (fun e => NE75.out e) _ _ _ _ _ _ _ _ _ _
          have ggX6 : Gr w1 X6 := by rw [hX6]; exact below_put10 GX5.out (LB7.out) _ _ _ _ _ _ _ _ _ _
          have HX6 := Lib.hid hX6
          have BN7 := Lib.hid nbX6
          have BN6 := Lib.hid obX6
          have R2 := Lib.hid r2X6
          have R5 := Lib.hid r5X6
          have GX6 := Lib.hid ggX6
          clear hX6 nbX6 obX6  r2X6 r5X6 ggX6
          have hX6 := HX6.out
          unfold put10 at hX6
          rw [← hX6]
          clear hX6
          refine hK.out _ _ GX6.out (fun hx => ?_)
          clear hK K
          try simp only [Act.put, List.setIfInBounds_toArray, List.set_cons_zero, List.set_cons_succ]
          refine wpAnyH_done (by kernel_rfl) ?_ _
          refine NoPanic.normal ?_
          have HFIN : Hid (SidesR L nx sa sb w1 (.pointer (some ⟨b6, 0, none⟩)) (.pointer (some ⟨b7, 0, none⟩)) X6) := Lib.hid ⟨b6, b7, _, _, rfl, rfl, BN6.out, BN7.out, PV.of_sl (own_sl R2.out), PV.of_sl (own_sl R5.out), GX6.out⟩
          go_wp2_with fail
          go_meet
          exact HFIN.out
        · go_simp
          obtain ⟨X3, hX3, gX3, nbX3, nfX3⟩ : ∃ Y, Y = X2.alloc (.cells #[.slice none 0 0, .int .i64 0, .int .i64 0, .int .i64 0, .int .i64 0, .int .i64 0, .int .i64 0, .int .i64 0, .int .i64 0, .int .i64 0] 25) ∧ Gr X2 Y ∧ NB Y X2.heap.size (.slice none 0 0) 0 zs ∧ NF Y X2.heap.size := ⟨_, rfl, gr_box _ _, NB.new _ _ _ zs, NF.new _ _ _ zs⟩
          have HX3 := Lib.hid hX3
          have EX3 := Lib.hid gX3
          have BN7 := Lib.hid nbX3
          have BF7 := Lib.hid nfX3
          clear hX3 gX3 nbX3 nfX3
          have SZ7 : Hid (X3.heap.size = X2.heap.size + 1) := Lib.hid (by go_light; rw [HX3.out]; simp)
          rw [← HX3.out]
          obtain ⟨b7, hb7⟩ : ∃ b, b = X2.heap.size := ⟨_, rfl⟩
          rw [← hb7] at BN7 BF7 SZ7 ⊢
          have BE7 := Lib.hid hb7
          clear hb7
          have GX3 := Lib.hid (GX2.out.trans EX3.out)
          have BN6 := Lib.hid (BN6.out.gr EX3.out)
          have BF6 := Lib.hid (BF6.out.gr EX3.out)
          have R2 := Lib.hid (own_gr R2.out EX3.out)
          refine hK.out _ _ GX3.out (fun hx => ?_)
          clear hK K
          try simp only [Act.put, List.setIfInBounds_toArray, List.set_cons_zero, List.set_cons_succ]
          refine wpAnyH_ready (rs := [5]) (by kernel_rfl) (by simp) ?_
          refine AllReadyH.cons rfl (fun K hK => ?_)  AllReadyH.nil
          go_simp
          refine (HP2.out _ (HG1.out.trans GX3.out)).mono ?_
          rintro e X4 ⟨v5, rfl, hown5, gX4⟩
          obtain ⟨A6, c6, hv5, -, -⟩ := hown5.form
          rw [← HN.out] at hv5
          subst hv5
          have R5 := Lib.hid hown5
          have EX4 := Lib.hid gX4
          have LO5 := Lib.hid (fun g hg => (World.ownsRow.lt hown5 g hg))
          have SE5 := Lib.hid gX4.size
          clear hown5 gX4
          go_wp2_with fail
          have GX4 := Lib.hid (GX3.out.trans EX4.out)
          have BN6 := Lib.hid (BN6.out.gr EX4.out)
          have BF6 := Lib.hid (BF6.out.gr EX4.out)
          have BN7 := Lib.hid (BN7.out.gr EX4.out)
          have BF7 := Lib.hid (BF7.out.gr EX4.out)
          have R2 := Lib.hid (own_gr R2.out EX4.out)
          have R5 : Hid (X4.ownsRow 0 31 4 (.slice A6 n c6) L.length (prows L)) := Lib.hid (own_le R5.out (Nat.zero_le _))
          refine hK.out _ _ GX4.out (fun hx => ?_)
          clear hK K
          try simp only [Act.put, List.setIfInBounds_toArray, List.set_cons_zero, List.set_cons_succ]
          have ORD : Hid (b6 ≠ b7) := Lib.hid (by
            go_light
            have := EX1.out.size
            have := EX2.out.size
            have := EX3.out.size
            have := EX4.out.size
            have := SZ6.out
            have := SZ7.out
            have := BE6.out
            have := BE7.out
            omega)
          have NE62 : Hid ((Value.slice A4 n c4).ownBlock ≠ some b6) := Lib.hid (by
            go_light
            intro e
            have := LO2.out _ e
            have := EX1.out.size
            have := EX2.out.size
            have := EX3.out.size
            have := EX4.out.size
            have := SZ6.out
            have := SZ7.out
            have := BE6.out
            have := BE7.out
            omega)
          have NE65 : Hid ((Value.slice A6 n c6).ownBlock ≠ some b6) := Lib.hid (by
            go_light
            intro e
            have := LO5.out _ e
            have := EX1.out.size
            have := EX2.out.size
            have := EX3.out.size
            have := EX4.out.size
            have := SZ6.out
            have := SZ7.out
            have := BE6.out
            have := BE7.out
            omega)
          have LB6 : Hid (w1.heap.size ≤ b6) := Lib.hid (by
            go_light
            have := GX0.out.size
            have := EX1.out.size
            have := EX2.out.size
            have := EX3.out.size
            have := EX4.out.size
            have := BE6.out
            omega)
          have NE72 : Hid ((Value.slice A4 n c4).ownBlock ≠ some b7) := Lib.hid (by
            go_light
            intro e
            have := LO2.out _ e
            have := EX1.out.size
            have := EX2.out.size
            have := EX3.out.size
            have := EX4.out.size
            have := SZ6.out
            have := SZ7.out
            have := BE6.out
            have := BE7.out
            omega)
          have NE75 : Hid ((Value.slice A6 n c6).ownBlock ≠ some b7) := Lib.hid (by
            go_light
            intro e
            have := LO5.out _ e
            have := EX1.out.size
            have := EX2.out.size
            have := EX3.out.size
            have := EX4.out.size
            have := SZ6.out
            have := SZ7.out
            have := BE6.out
            have := BE7.out
            omega)
          have LB7 : Hid (w1.heap.size ≤ b7) := Lib.hid (by
            go_light
            have := GX0.out.size
            have := EX1.out.size
            have := EX2.out.size
            have := EX3.out.size
            have := EX4.out.size
            have := BE7.out
            omega)
          refine wpAnyH_ready (rs := [8]) (by kernel_rfl) (by simp) ?_
          refine AllReadyH.cons rfl (fun K hK => ?_)  AllReadyH.nil
          have hx := BN6.out
          have d0 := hx.1
          have d1 := hx.2.1
          have d2 := hx.2.2.1
          have d3 := hx.2.2.2.1
          have d4 := hx.2.2.2.2.1
          have d5 := hx.2.2.2.2.2.1
          have d6 := hx.2.2.2.2.2.2.1
          have d7 := hx.2.2.2.2.2.2.2.1
          have d8 := hx.2.2.2.2.2.2.2.2.1
          have d9 := hx.2.2.2.2.2.2.2.2.2
          have hy := BF6.out.2
          have y0 := hy.1
          have y1 := hy.2.1
          have y2 := hy.2.2.1
          have y3 := hy.2.2.2.1
          have y4 := hy.2.2.2.2.1
          have y5 := hy.2.2.2.2.2.1
          have y6 := hy.2.2.2.2.2.2.1
          have y7 := hy.2.2.2.2.2.2.2.1
          have y8 := hy.2.2.2.2.2.2.2.2.1
          have y9 := hy.2.2.2.2.2.2.2.2.2
          clear hx hy
          go_simp
          clear d0 d1 d2 d3 d4 d5 d6 d7 d8 d9 y0 y1 y2 y3 y4 y5 y6 y7 y8 y9
          obtain ⟨X5, hX5⟩ : ∃ Y, Y = put10 X4 b6 (.slice A4 n c4) (.int .i64 nx) (.int .i64 (sa 0)) (.int .i64 (sa 1)) (.int .i64 (sa 2)) (.int .i64 (sa 3)) (.int .i64 (sa 4)) (.int .i64 (sa 5)) (.int .i64 (sa 6)) (.int .i64 (sa 7)) := ⟨_, rfl⟩
          have nbX5 : NB X5 b6 (.slice A4 n c4) nx sa := by rw [hX5]; exact NB.put BN6.out _ _ _
          have obX5 : NB X5 b7 (.slice none 0 0) 0 zs := by rw [hX5]; exact NB.far10 (b := b6) BN7.out (fun e => ORD.out e.symm) _ _ _ _ _ _ _ _ _ _
          have ofX5 : NF X5 b7 := by rw [hX5]; exact NF.put10 BF7.out _ _ _ _ _ _ _ _ _ _
          have r2X5 : X5.ownsRow 0 31 4 (.slice A4 n c4) L.length (prows L) := by
            rw [hX5]
            exact own_put10n R2.out (fun e => NE62.out e) _ _ _ _ _ _ _ _ _ _
          have r5X5 : X5.ownsRow 0 31 4 (.slice A6 n c6) L.length (prows L) := by
            rw [hX5]
            exact own_put10n R5.out (fun e => NE65.out e) _ _ _ _ _ _ _ _ _ _
          have ggX5 : Gr w1 X5 := by rw [hX5]; exact below_put10 GX4.out (LB6.out) _ _ _ _ _ _ _ _ _ _
          have HX5 := Lib.hid hX5
          have BN6 := Lib.hid nbX5
          have BN7 := Lib.hid obX5
          have BF7 := Lib.hid ofX5
          have R2 := Lib.hid r2X5
          have R5 := Lib.hid r5X5
          have GX5 := Lib.hid ggX5
          clear hX5 nbX5 obX5 ofX5 r2X5 r5X5 ggX5
          have hX5 := HX5.out
          unfold put10 at hX5
          rw [← hX5]
          clear hX5
          refine hK.out _ _ GX5.out (fun hx => ?_)
          clear hK K
          try simp only [Act.put, List.setIfInBounds_toArray, List.set_cons_zero, List.set_cons_succ]
          refine wpAnyH_ready (rs := [9]) (by kernel_rfl) (by simp) ?_
          refine AllReadyH.cons rfl (fun K hK => ?_)  AllReadyH.nil
          have hx := BN7.out
          have d0 := hx.1
          have d1 := hx.2.1
          have d2 := hx.2.2.1
          have d3 := hx.2.2.2.1
          have d4 := hx.2.2.2.2.1
          have d5 := hx.2.2.2.2.2.1
          have d6 := hx.2.2.2.2.2.2.1
          have d7 := hx.2.2.2.2.2.2.2.1
          have d8 := hx.2.2.2.2.2.2.2.2.1
          have d9 := hx.2.2.2.2.2.2.2.2.2
          have hy := BF7.out.2
          have y0 := hy.1
          have y1 := hy.2.1
          have y2 := hy.2.2.1
          have y3 := hy.2.2.2.1
          have y4 := hy.2.2.2.2.1
          have y5 := hy.2.2.2.2.2.1
          have y6 := hy.2.2.2.2.2.2.1
          have y7 := hy.2.2.2.2.2.2.2.1
          have y8 := hy.2.2.2.2.2.2.2.2.1
          have y9 := hy.2.2.2.2.2.2.2.2.2
          clear hx hy
          go_simp
          clear d0 d1 d2 d3 d4 d5 d6 d7 d8 d9 y0 y1 y2 y3 y4 y5 y6 y7 y8 y9
          obtain ⟨X6, hX6⟩ : ∃ Y, Y = put10 X5 b7 (.slice A6 n c6) (.int .i64 nx) (.int .i64 (sb 0)) (.int .i64 (sb 1)) (.int .i64 (sb 2)) (.int .i64 (sb 3)) (.int .i64 (sb 4)) (.int .i64 (sb 5)) (.int .i64 (sb 6)) (.int .i64 (sb 7)) := ⟨_, rfl⟩
          have nbX6 : NB X6 b7 (.slice A6 n c6) nx sb := by rw [hX6]; exact NB.put BN7.out _ _ _
          have obX6 : NB X6 b6 (.slice A4 n c4) nx sa := by rw [hX6]; exact NB.far10 (b := b7) BN6.out ORD.out _ _ _ _ _ _ _ _ _ _
          have r2X6 : X6.ownsRow 0 31 4 (.slice A4 n c4) L.length (prows L) := by
            rw [hX6]
            exact own_put10n R2.out (fun e => NE72.out e) _ _ _ _ _ _ _ _ _ _
          have r5X6 : X6.ownsRow 0 31 4 (.slice A6 n c6) L.length (prows L) := by
            rw [hX6]
            exact own_put10n R5.out (fun e => NE75.out e) _ _ _ _ _ _ _ _ _ _
          have ggX6 : Gr w1 X6 := by rw [hX6]; exact below_put10 GX5.out (LB7.out) _ _ _ _ _ _ _ _ _ _
          have HX6 := Lib.hid hX6
          have BN7 := Lib.hid nbX6
          have BN6 := Lib.hid obX6
          have R2 := Lib.hid r2X6
          have R5 := Lib.hid r5X6
          have GX6 := Lib.hid ggX6
          clear hX6 nbX6 obX6  r2X6 r5X6 ggX6
          have hX6 := HX6.out
          unfold put10 at hX6
          rw [← hX6]
          clear hX6
          refine hK.out _ _ GX6.out (fun hx => ?_)
          clear hK K
          try simp only [Act.put, List.setIfInBounds_toArray, List.set_cons_zero, List.set_cons_succ]
          refine wpAnyH_done (by kernel_rfl) ?_ _
          refine NoPanic.normal ?_
          have HFIN : Hid (SidesR L nx sa sb w1 (.pointer (some ⟨b6, 0, none⟩)) (.pointer (some ⟨b7, 0, none⟩)) X6) := Lib.hid ⟨b6, b7, _, _, rfl, rfl, BN6.out, BN7.out, PV.of_sl (own_sl R2.out), PV.of_sl (own_sl R5.out), GX6.out⟩
          go_wp2_with fail
          go_meet
          exact HFIN.out
      · go_simp
        obtain ⟨X2, hX2, gX2, nbX2, nfX2⟩ : ∃ Y, Y = X1.alloc (.cells #[.slice none 0 0, .int .i64 0, .int .i64 0, .int .i64 0, .int .i64 0, .int .i64 0, .int .i64 0, .int .i64 0, .int .i64 0, .int .i64 0] 25) ∧ Gr X1 Y ∧ NB Y X1.heap.size (.slice none 0 0) 0 zs ∧ NF Y X1.heap.size := ⟨_, rfl, gr_box _ _, NB.new _ _ _ zs, NF.new _ _ _ zs⟩
        have HX2 := Lib.hid hX2
        have EX2 := Lib.hid gX2
        have BN7 := Lib.hid nbX2
        have BF7 := Lib.hid nfX2
        clear hX2 gX2 nbX2 nfX2
        have SZ7 : Hid (X2.heap.size = X1.heap.size + 1) := Lib.hid (by go_light; rw [HX2.out]; simp)
        rw [← HX2.out]
        obtain ⟨b7, hb7⟩ : ∃ b, b = X1.heap.size := ⟨_, rfl⟩
        rw [← hb7] at BN7 BF7 SZ7 ⊢
        have BE7 := Lib.hid hb7
        clear hb7
        have GX2 := Lib.hid (GX1.out.trans EX2.out)
        have R2 := Lib.hid (own_gr R2.out EX2.out)
        refine hK.out _ _ GX2.out (fun hx => ?_)
        clear hK K
        try simp only [Act.put, List.setIfInBounds_toArray, List.set_cons_zero, List.set_cons_succ]
        refine wpAnyH_ready (rs := [5, 6]) (by kernel_rfl) (by simp) ?_
        refine AllReadyH.cons rfl (fun K hK => ?_) (AllReadyH.cons rfl (fun K hK => ?_) AllReadyH.nil)
        · go_simp
          refine (HP2.out _ (HG1.out.trans GX2.out)).mono ?_
          rintro e X3 ⟨v5, rfl, hown5, gX3⟩
          obtain ⟨A6, c6, hv5, -, -⟩ := hown5.form
          rw [← HN.out] at hv5
          subst hv5
          have R5 := Lib.hid hown5
          have EX3 := Lib.hid gX3
          have LO5 := Lib.hid (fun g hg => (World.ownsRow.lt hown5 g hg))
          have SE5 := Lib.hid gX3.size
          clear hown5 gX3
          go_wp2_with fail
          have GX3 := Lib.hid (GX2.out.trans EX3.out)
          have BN7 := Lib.hid (BN7.out.gr EX3.out)
          have BF7 := Lib.hid (BF7.out.gr EX3.out)
          have R2 := Lib.hid (own_gr R2.out EX3.out)
          have R5 : Hid (X3.ownsRow 0 31 4 (.slice A6 n c6) L.length (prows L)) := Lib.hid (own_le R5.out (Nat.zero_le _))
          refine hK.out _ _ GX3.out (fun hx => ?_)
          clear hK K
          try simp only [Act.put, List.setIfInBounds_toArray, List.set_cons_zero, List.set_cons_succ]
          refine wpAnyH_ready (rs := [6]) (by kernel_rfl) (by simp) ?_
          refine AllReadyH.cons rfl (fun K hK => ?_)  AllReadyH.nil
          go_simp
          obtain ⟨X4, hX4, gX4, nbX4, nfX4⟩ : ∃ Y, Y = X3.alloc (.cells #[.slice none 0 0, .int .i64 0, .int .i64 0, .int .i64 0, .int .i64 0, .int .i64 0, .int .i64 0, .int .i64 0, .int .i64 0, .int .i64 0] 25) ∧ Gr X3 Y ∧ NB Y X3.heap.size (.slice none 0 0) 0 zs ∧ NF Y X3.heap.size := ⟨_, rfl, gr_box _ _, NB.new _ _ _ zs, NF.new _ _ _ zs⟩
          have HX4 := Lib.hid hX4
          have EX4 := Lib.hid gX4
          have BN6 := Lib.hid nbX4
          have BF6 := Lib.hid nfX4
          clear hX4 gX4 nbX4 nfX4
          have SZ6 : Hid (X4.heap.size = X3.heap.size + 1) := Lib.hid (by go_light; rw [HX4.out]; simp)
          rw [← HX4.out]
          obtain ⟨b6, hb6⟩ : ∃ b, b = X3.heap.size := ⟨_, rfl⟩
          rw [← hb6] at BN6 BF6 SZ6 ⊢
          have BE6 := Lib.hid hb6
          clear hb6
          have GX4 := Lib.hid (GX3.out.trans EX4.out)
          have BN7 := Lib.hid (BN7.out.gr EX4.out)
          have BF7 := Lib.hid (BF7.out.gr EX4.out)
          have R2 := Lib.hid (own_gr R2.out EX4.out)
          have R5 := Lib.hid (own_gr R5.out EX4.out)
          refine hK.out _ _ GX4.out (fun hx => ?_)
          clear hK K
          try simp only [Act.put, List.setIfInBounds_toArray, List.set_cons_zero, List.set_cons_succ]
          have ORD : Hid (b6 ≠ b7) := Lib.hid (by
            go_light
            have := EX1.out.size
            have := EX2.out.size
            have := EX3.out.size
            have := EX4.out.size
            have := SZ6.out
            have := SZ7.out
            have := BE6.out
            have := BE7.out
            omega)
          have NE62 : Hid ((Value.slice A4 n c4).ownBlock ≠ some b6) := Lib.hid (by
            go_light
            intro e
            have := LO2.out _ e
            have := EX1.out.size
            have := EX2.out.size
            have := EX3.out.size
            have := EX4.out.size
            have := SZ6.out
            have := SZ7.out
            have := BE6.out
            have := BE7.out
            omega)
          have NE65 : Hid ((Value.slice A6 n c6).ownBlock ≠ some b6) := Lib.hid (by
            go_light
            intro e
            have := LO5.out _ e
            have := EX1.out.size
            have := EX2.out.size
            have := EX3.out.size
            have := EX4.out.size
            have := SZ6.out
            have := SZ7.out
            have := BE6.out
            have := BE7.out
            omega)
          have LB6 : Hid (w1.heap.size ≤ b6) := Lib.hid (by
            go_light
            have := GX0.out.size
            have := EX1.out.size
            have := EX2.out.size
            have := EX3.out.size
            have := EX4.out.size
            have := BE6.out
            omega)
          have NE72 : Hid ((Value.slice A4 n c4).ownBlock ≠ some b7) := Lib.hid (by
            go_light
            intro e
            have := LO2.out _ e
            have := EX1.out.size
            have := EX2.out.size
            have := EX3.out.size
            have := EX4.out.size
            have := SZ6.out
            have := SZ7.out
            have := BE6.out
            have := BE7.out
            omega)
          have NE75 : Hid ((Value.slice A6 n c6).ownBlock ≠ some b7) := Lib.hid (by
            go_light
            intro e
            have := LO5.out _ e
            have := EX1.out.size
            have := EX2.out.size
            have := EX3.out.size
            have := EX4.out.size
            have := SZ6.out
            have := SZ7.out
            have := BE6.out
            have := BE7.out
            omega)
          have LB7 : Hid (w1.heap.size ≤ b7) := Lib.hid (by
            go_light
            have := GX0.out.size
            have := EX1.out.size
            have := EX2.out.size
            have := EX3.out.size
            have := EX4.out.size
            have := BE7.out
            omega)
          refine wpAnyH_ready (rs := [8]) (by kernel_rfl) (by simp) ?_
          refine AllReadyH.cons rfl (fun K hK => ?_)  AllReadyH.nil
          have hx := BN6.out
          have d0 := hx.1
          have d1 := hx.2.1
          have d2 := hx.2.2.1
          have d3 := hx.2.2.2.1
          have d4 := hx.2.2.2.2.1
          have d5 := hx.2.2.2.2.2.1
          have d6 := hx.2.2.2.2.2.2.1
          have d7 := hx.2.2.2.2.2.2.2.1
          have d8 := hx.2.2.2.2.2.2.2.2.1
          have d9 := hx.2.2.2.2.2.2.2.2.2
          have hy := BF6.out.2
          have y0 := hy.1
          have y1 := hy.2.1
          have y2 := hy.2.2.1
          have y3 := hy.2.2.2.1
          have y4 := hy.2.2.2.2.1
          have y5 := hy.2.2.2.2.2.1
          have y6 := hy.2.2.2.2.2.2.1
          have y7 := hy.2.2.2.2.2.2.2.1
          have y8 := hy.2.2.2.2.2.2.2.2.1
          have y9 := hy.2.2.2.2.2.2.2.2.2
          clear hx hy
          go_simp
          clear d0 d1 d2 d3 d4 d5 d6 d7 d8 d9 y0 y1 y2 y3 y4 y5 y6 y7 y8 y9
          obtain ⟨X5, hX5⟩ : ∃ Y, Y = put10 X4 b6 (.slice A4 n c4) (.int .i64 nx) (.int .i64 (sa 0)) (.int .i64 (sa 1)) (.int .i64 (sa 2)) (.int .i64 (sa 3)) (.int .i64 (sa 4)) (.int .i64 (sa 5)) (.int .i64 (sa 6)) (.int .i64 (sa 7)) := ⟨_, rfl⟩
          have nbX5 : NB X5 b6 (.slice A4 n c4) nx sa := by rw [hX5]; exact NB.put BN6.out _ _ _
          have obX5 : NB X5 b7 (.slice none 0 0) 0 zs := by rw [hX5]; exact NB.far10 (b := b6) BN7.out (fun e => ORD.out e.symm) _ _ _ _ _ _ _ _ _ _
          have ofX5 : NF X5 b7 := by rw [hX5]; exact NF.put10 BF7.out _ _ _ _ _ _ _ _ _ _
          have r2X5 : X5.ownsRow 0 31 4 (.slice A4 n c4) L.length (prows L) := by
            rw [hX5]
            exact own_put10n R2.out (fun e => NE62.out e) _ _ _ _ _ _ _ _ _ _
          have r5X5 : X5.ownsRow 0 31 4 (.slice A6 n c6) L.length (prows L) := by
            rw [hX5]
            exact own_put10n R5.out (fun e => NE65.out e) _ _ _ _ _ _ _ _ _ _
          have ggX5 : Gr w1 X5 := by rw [hX5]; exact below_put10 GX4.out (LB6.out) _ _ _ _ _ _ _ _ _ _
          have HX5 := Lib.hid hX5
          have BN6 := Lib.hid nbX5
          have BN7 := Lib.hid obX5
          have BF7 := Lib.hid ofX5
          have R2 := Lib.hid r2X5
          have R5 := Lib.hid r5X5
          have GX5 := Lib.hid ggX5
          clear hX5 nbX5 obX5 ofX5 r2X5 r5X5 ggX5
          have hX5 := HX5.out
          unfold put10 at hX5
          rw [← hX5]
          clear hX5
          refine hK.out _ _ GX5.out (fun hx => ?_)
          clear hK K
          try simp only [Act.put, List.setIfInBounds_toArray, List.set_cons_zero, List.set_cons_succ]
          refine wpAnyH_ready (rs := [9]) (by kernel_rfl) (by simp) ?_
          refine AllReadyH.cons rfl (fun K hK => ?_)  AllReadyH.nil
          have hx := BN7.out
          have d0 := hx.1
          have d1 := hx.2.1
          have d2 := hx.2.2.1
          have d3 := hx.2.2.2.1
          have d4 := hx.2.2.2.2.1
          have d5 := hx.2.2.2.2.2.1
          have d6 := hx.2.2.2.2.2.2.1
          have d7 := hx.2.2.2.2.2.2.2.1
          have d8 := hx.2.2.2.2.2.2.2.2.1
          have d9 := hx.2.2.2.2.2.2.2.2.2
          have hy := BF7.out.2
          have y0 := hy.1
          have y1 := hy.2.1
          have y2 := hy.2.2.1
          have y3 := hy.2.2.2.1
          have y4 := hy.2.2.2.2.1
          have y5 := hy.2.2.2.2.2.1
          have y6 := hy.2.2.2.2.2.2.1
          have y7 := hy.2.2.2.2.2.2.2.1
          have y8 := hy.2.2.2.2.2.2.2.2.1
          have y9 := hy.2.2.2.2.2.2.2.2.2
          clear hx hy
          go_simp
          clear d0 d1 d2 d3 d4 d5 d6 d7 d8 d9 y0 y1 y2 y3 y4 y5 y6 y7 y8 y9
          obtain ⟨X6, hX6⟩ : ∃ Y, Y = put10 X5 b7 (.slice A6 n c6) (.int .i64 nx) (.int .i64 (sb 0)) (.int .i64 (sb 1)) (.int .i64 (sb 2)) (.int .i64 (sb 3)) (.int .i64 (sb 4)) (.int .i64 (sb 5)) (.int .i64 (sb 6)) (.int .i64 (sb 7)) := ⟨_, rfl⟩
          have nbX6 : NB X6 b7 (.slice A6 n c6) nx sb := by rw [hX6]; exact NB.put BN7.out _ _ _
          have obX6 : NB X6 b6 (.slice A4 n c4) nx sa := by rw [hX6]; exact NB.far10 (b := b7) BN6.out ORD.out _ _ _ _ _ _ _ _ _ _
          have r2X6 : X6.ownsRow 0 31 4 (.slice A4 n c4) L.length (prows L) := by
            rw [hX6]
            exact own_put10n R2.out (fun e => NE72.out e) _ _ _ _ _ _ _ _ _ _
          have r5X6 : X6.ownsRow 0 31 4 (.slice A6 n c6) L.length (prows L) := by
            rw [hX6]
            exact own_put10n R5.out (fun e => NE75.out e) _ _ _ _ _ _ _ _ _ _
          have ggX6 : Gr w1 X6 := by rw [hX6]; exact below_put10 GX5.out (LB7.out) _ _ _ _ _ _ _ _ _ _
          have HX6 := Lib.hid hX6
          have BN7 := Lib.hid nbX6
          have BN6 := Lib.hid obX6
          have R2 := Lib.hid r2X6
          have R5 := Lib.hid r5X6
          have GX6 := Lib.hid ggX6
          clear hX6 nbX6 obX6  r2X6 r5X6 ggX6
          have hX6 := HX6.out
          unfold put10 at hX6
          rw [← hX6]
          clear hX6
          refine hK.out _ _ GX6.out (fun hx => ?_)
          clear hK K
          try simp only [Act.put, List.setIfInBounds_toArray, List.set_cons_zero, List.set_cons_succ]
          refine wpAnyH_done (by kernel_rfl) ?_ _
          refine NoPanic.normal ?_
          have HFIN : Hid (SidesR L nx sa sb w1 (.pointer (some ⟨b6, 0, none⟩)) (.pointer (some ⟨b7, 0, none⟩)) X6) := Lib.hid ⟨b6, b7, _, _, rfl, rfl, BN6.out, BN7.out, PV.of_sl (own_sl R2.out), PV.of_sl (own_sl R5.out), GX6.out⟩
          go_wp2_with fail
          go_meet
          exact HFIN.out
        · go_simp
          obtain ⟨X3, hX3, gX3, nbX3, nfX3⟩ : ∃ Y, Y = X2.alloc (.cells #[.slice none 0 0, .int .i64 0, .int .i64 0, .int .i64 0, .int .i64 0, .int .i64 0, .int .i64 0, .int .i64 0, .int .i64 0, .int .i64 0] 25) ∧ Gr X2 Y ∧ NB Y X2.heap.size (.slice none 0 0) 0 zs ∧ NF Y X2.heap.size := ⟨_, rfl, gr_box _ _, NB.new _ _ _ zs, NF.new _ _ _ zs⟩
          have HX3 := Lib.hid hX3
          have EX3 := Lib.hid gX3
          have BN6 := Lib.hid nbX3
          have BF6 := Lib.hid nfX3
          clear hX3 gX3 nbX3 nfX3
          have SZ6 : Hid (X3.heap.size = X2.heap.size + 1) := Lib.hid (by go_light; rw [HX3.out]; simp)
          rw [← HX3.out]
          obtain ⟨b6, hb6⟩ : ∃ b, b = X2.heap.size := ⟨_, rfl⟩
          rw [← hb6] at BN6 BF6 SZ6 ⊢
          have BE6 := Lib.hid hb6
          clear hb6
          have GX3 := Lib.hid (GX2.out.trans EX3.out)
          have BN7 := Lib.hid (BN7.out.gr EX3.out)
          have BF7 := Lib.hid (BF7.out.gr EX3.out)
          have R2 := Lib.hid (own_gr R2.out EX3.out)
          refine hK.out _ _ GX3.out (fun hx => ?_)
          clear hK K
          try simp only [Act.put, List.setIfInBounds_toArray, List.set_cons_zero, List.set_cons_succ]
          refine wpAnyH_ready (rs := [5]) (by kernel_rfl) (by simp) ?_
          refine AllReadyH.cons rfl (fun K hK => ?_)  AllReadyH.nil
          go_simp
          refine (HP2.out _ (HG1.out.trans GX3.out)).mono ?_
          rintro e X4 ⟨v5, rfl, hown5, gX4⟩
          obtain ⟨A6, c6, hv5, -, -⟩ := hown5.form
          rw [← HN.out] at hv5
          subst hv5
          have R5 := Lib.hid hown5
          have EX4 := Lib.hid gX4
          have LO5 := Lib.hid (fun g hg => (World.ownsRow.lt hown5 g hg))
          have SE5 := Lib.hid gX4.size
          clear hown5 gX4
          go_wp2_with fail
          have GX4 := Lib.hid (GX3.out.trans EX4.out)
          have BN6 := Lib.hid (BN6.out.gr EX4.out)
          have BF6 := Lib.hid (BF6.out.gr EX4.out)
          have BN7 := Lib.hid (BN7.out.gr EX4.out)
          have BF7 := Lib.hid (BF7.out.gr EX4.out)
          have R2 := Lib.hid (own_gr R2.out EX4.out)
          have R5 : Hid (X4.ownsRow 0 31 4 (.slice A6 n c6) L.length (prows L)) := Lib.hid (own_le R5.out (Nat.zero_le _))
          refine hK.out _ _ GX4.out (fun hx => ?_)
          clear hK K
          try simp only [Act.put, List.setIfInBounds_toArray, List.set_cons_zero, List.set_cons_succ]
          have ORD : Hid (b6 ≠ b7) := Lib.hid (by
            go_light
            have := EX1.out.size
            have := EX2.out.size
            have := EX3.out.size
            have := EX4.out.size
            have := SZ6.out
            have := SZ7.out
            have := BE6.out
            have := BE7.out
            omega)
          have NE62 : Hid ((Value.slice A4 n c4).ownBlock ≠ some b6) := Lib.hid (by
            go_light
            intro e
            have := LO2.out _ e
            have := EX1.out.size
            have := EX2.out.size
            have := EX3.out.size
            have := EX4.out.size
            have := SZ6.out
            have := SZ7.out
            have := BE6.out
            have := BE7.out
            omega)
          have NE65 : Hid ((Value.slice A6 n c6).ownBlock ≠ some b6) := Lib.hid (by
            go_light
            intro e
            have := LO5.out _ e
            have := EX1.out.size
            have := EX2.out.size
            have := EX3.out.size
            have := EX4.out.size
            have := SZ6.out
            have := SZ7.out
            have := BE6.out
            have := BE7.out
            omega)
          have LB6 : Hid (w1.heap.size ≤ b6) := Lib.hid (by
            go_light
            have := GX0.out.size
            have := EX1.out.size
            have := EX2.out.size
            have := EX3.out.size
            have := EX4.out.size
            have := BE6.out
            omega)
          have NE72 : Hid ((Value.slice A4 n c4).ownBlock ≠ some b7) := Lib.hid (by
            go_light
            intro e
            have := LO2.out _ e
            have := EX1.out.size
            have := EX2.out.size
            have := EX3.out.size
            have := EX4.out.size
            have := SZ6.out
            have := SZ7.out
            have := BE6.out
            have := BE7.out
            omega)
          have NE75 : Hid ((Value.slice A6 n c6).ownBlock ≠ some b7) := Lib.hid (by
            go_light
            intro e
            have := LO5.out _ e
            have := EX1.out.size
            have := EX2.out.size
            have := EX3.out.size
            have := EX4.out.size
            have := SZ6.out
            have := SZ7.out
            have := BE6.out
            have := BE7.out
            omega)
          have LB7 : Hid (w1.heap.size ≤ b7) := Lib.hid (by
            go_light
            have := GX0.out.size
            have := EX1.out.size
            have := EX2.out.size
            have := EX3.out.size
            have := EX4.out.size
            have := BE7.out
            omega)
          refine wpAnyH_ready (rs := [8]) (by kernel_rfl) (by simp) ?_
          refine AllReadyH.cons rfl (fun K hK => ?_)  AllReadyH.nil
          have hx := BN6.out
          have d0 := hx.1
          have d1 := hx.2.1
          have d2 := hx.2.2.1
          have d3 := hx.2.2.2.1
          have d4 := hx.2.2.2.2.1
          have d5 := hx.2.2.2.2.2.1
          have d6 := hx.2.2.2.2.2.2.1
          have d7 := hx.2.2.2.2.2.2.2.1
          have d8 := hx.2.2.2.2.2.2.2.2.1
          have d9 := hx.2.2.2.2.2.2.2.2.2
          have hy := BF6.out.2
          have y0 := hy.1
          have y1 := hy.2.1
          have y2 := hy.2.2.1
          have y3 := hy.2.2.2.1
          have y4 := hy.2.2.2.2.1
          have y5 := hy.2.2.2.2.2.1
          have y6 := hy.2.2.2.2.2.2.1
          have y7 := hy.2.2.2.2.2.2.2.1
          have y8 := hy.2.2.2.2.2.2.2.2.1
          have y9 := hy.2.2.2.2.2.2.2.2.2
          clear hx hy
          go_simp
          clear d0 d1 d2 d3 d4 d5 d6 d7 d8 d9 y0 y1 y2 y3 y4 y5 y6 y7 y8 y9
          obtain ⟨X5, hX5⟩ : ∃ Y, Y = put10 X4 b6 (.slice A4 n c4) (.int .i64 nx) (.int .i64 (sa 0)) (.int .i64 (sa 1)) (.int .i64 (sa 2)) (.int .i64 (sa 3)) (.int .i64 (sa 4)) (.int .i64 (sa 5)) (.int .i64 (sa 6)) (.int .i64 (sa 7)) := ⟨_, rfl⟩
          have nbX5 : NB X5 b6 (.slice A4 n c4) nx sa := by rw [hX5]; exact NB.put BN6.out _ _ _
          have obX5 : NB X5 b7 (.slice none 0 0) 0 zs := by rw [hX5]; exact NB.far10 (b := b6) BN7.out (fun e => ORD.out e.symm) _ _ _ _ _ _ _ _ _ _
          have ofX5 : NF X5 b7 := by rw [hX5]; exact NF.put10 BF7.out _ _ _ _ _ _ _ _ _ _
          have r2X5 : X5.ownsRow 0 31 4 (.slice A4 n c4) L.length (prows L) := by
            rw [hX5]
            exact own_put10n R2.out (fun e => NE62.out e) _ _ _ _ _ _ _ _ _ _
          have r5X5 : X5.ownsRow 0 31 4 (.slice A6 n c6) L.length (prows L) := by
            rw [hX5]
            exact own_put10n R5.out (fun e => NE65.out e) _ _ _ _ _ _ _ _ _ _
          have ggX5 : Gr w1 X5 := by rw [hX5]; exact below_put10 GX4.out (LB6.out) _ _ _ _ _ _ _ _ _ _
          have HX5 := Lib.hid hX5
          have BN6 := Lib.hid nbX5
          have BN7 := Lib.hid obX5
          have BF7 := Lib.hid ofX5
          have R2 := Lib.hid r2X5
          have R5 := Lib.hid r5X5
          have GX5 := Lib.hid ggX5
          clear hX5 nbX5 obX5 ofX5 r2X5 r5X5 ggX5
          have hX5 := HX5.out
          unfold put10 at hX5
          rw [← hX5]
          clear hX5
          refine hK.out _ _ GX5.out (fun hx => ?_)
          clear hK K
          try simp only [Act.put, List.setIfInBounds_toArray, List.set_cons_zero, List.set_cons_succ]
          refine wpAnyH_ready (rs := [9]) (by kernel_rfl) (by simp) ?_
          refine AllReadyH.cons rfl (fun K hK => ?_)  AllReadyH.nil
          have hx := BN7.out
          have d0 := hx.1
          have d1 := hx.2.1
          have d2 := hx.2.2.1
          have d3 := hx.2.2.2.1
          have d4 := hx.2.2.2.2.1
          have d5 := hx.2.2.2.2.2.1
          have d6 := hx.2.2.2.2.2.2.1
          have d7 := hx.2.2.2.2.2.2.2.1
          have d8 := hx.2.2.2.2.2.2.2.2.1
          have d9 := hx.2.2.2.2.2.2.2.2.2
          have hy := BF7.out.2
          have y0 := hy.1
          have y1 := hy.2.1
          have y2 := hy.2.2.1
          have y3 := hy.2.2.2.1
          have y4 := hy.2.2.2.2.1
          have y5 := hy.2.2.2.2.2.1
          have y6 := hy.2.2.2.2.2.2.1
          have y7 := hy.2.2.2.2.2.2.2.1
          have y8 := hy.2.2.2.2.2.2.2.2.1
          have y9 := hy.2.2.2.2.2.2.2.2.2
          clear hx hy
          go_simp
          clear d0 d1 d2 d3 d4 d5 d6 d7 d8 d9 y0 y1 y2 y3 y4 y5 y6 y7 y8 y9
          obtain ⟨X6, hX6⟩ : ∃ Y, Y = put10 X5 b7 (.slice A6 n c6) (.int .i64 nx) (.int .i64 (sb 0)) (.int .i64 (sb 1)) (.int .i64 (sb 2)) (.int .i64 (sb 3)) (.int .i64 (sb 4)) (.int .i64 (sb 5)) (.int .i64 (sb 6)) (.int .i64 (sb 7)) := ⟨_, rfl⟩
          have nbX6 : NB X6 b7 (.slice A6 n c6) nx sb := by rw [hX6]; exact NB.put BN7.out _ _ _
          have obX6 : NB X6 b6 (.slice A4 n c4) nx sa := by rw [hX6]; exact NB.far10 (b := b7) BN6.out ORD.out _ _ _ _ _ _ _ _ _ _
          have r2X6 : X6.ownsRow 0 31 4 (.slice A4 n c4) L.length (prows L) := by
            rw [hX6]
            exact own_put10n R2.out (fun e => NE72.out e) _ _ _ _ _ _ _ _ _ _
          have r5X6 : X6.ownsRow 0 31 4 (.slice A6 n c6) L.length (prows L) := by
            rw [hX6]
            exact own_put10n R5.out (fun e => NE75.out e) _ _ _ _ _ _ _ _ _ _
          have ggX6 : Gr w1 X6 := by rw [hX6]; exact below_put10 GX5.out (LB7.out) _ _ _ _ _ _ _ _ _ _
          have HX6 := Lib.hid hX6
          have BN7 := Lib.hid nbX6
          have BN6 := Lib.hid obX6
          have R2 := Lib.hid r2X6
          have R5 := Lib.hid r5X6
          have GX6 := Lib.hid ggX6
          clear hX6 nbX6 obX6  r2X6 r5X6 ggX6
          have hX6 := HX6.out
          unfold put10 at hX6
          rw [← hX6]
          clear hX6
          refine hK.out _ _ GX6.out (fun hx => ?_)
          clear hK K
          try simp only [Act.put, List.setIfInBounds_toArray, List.set_cons_zero, List.set_cons_succ]
          refine wpAnyH_done (by kernel_rfl) ?_ _
          refine NoPanic.normal ?_
          have HFIN : Hid (SidesR L nx sa sb w1 (.pointer (some ⟨b6, 0, none⟩)) (.pointer (some ⟨b7, 0, none⟩)) X6) := Lib.hid ⟨b6, b7, _, _, rfl, rfl, BN6.out, BN7.out, PV.of_sl (own_sl R2.out), PV.of_sl (own_sl R5.out), GX6.out⟩
          go_wp2_with fail
          go_meet
          exact HFIN.out
    · go_simp
      obtain ⟨X1, hX1, gX1, nbX1, nfX1⟩ : ∃ Y, Y = X0.alloc (.cells #[.slice none 0 0, .int .i64 0, .int .i64 0, .int .i64 0, .int .i64 0, .int .i64 0, .int .i64 0, .int .i64 0, .int .i64 0, .int .i64 0] 25) ∧ Gr X0 Y ∧ NB Y X0.heap.size (.slice none 0 0) 0 zs ∧ NF Y X0.heap.size := ⟨_, rfl, gr_box _ _, NB.new _ _ _ zs, NF.new _ _ _ zs⟩
      have HX1 := Lib.hid hX1
      have EX1 := Lib.hid gX1
      have BN6 := Lib.hid nbX1
      have BF6 := Lib.hid nfX1
      clear hX1 gX1 nbX1 nfX1
      have SZ6 : Hid (X1.heap.size = X0.heap.size + 1) := Lib.hid (by go_light; rw [HX1.out]; simp)
      rw [← HX1.out]
      obtain ⟨b6, hb6⟩ : ∃ b, b = X0.heap.size := ⟨_, rfl⟩
      rw [← hb6] at BN6 BF6 SZ6 ⊢
      have BE6 := Lib.hid hb6
      clear hb6
      have GX1 := Lib.hid (GX0.out.trans EX1.out)
      refine hK.out _ _ GX1.out (fun hx => ?_)
      clear hK K
      try simp only [Act.put, List.setIfInBounds_toArray, List.set_cons_zero, List.set_cons_succ]
      refine wpAnyH_ready (rs := [2, 7]) (by kernel_rfl) (by simp) ?_
      refine AllReadyH.cons rfl (fun K hK => ?_) (AllReadyH.cons rfl (fun K hK => ?_) AllReadyH.nil)
      · go_simp
        refine (HP1.out _ (HG1.out.trans GX1.out)).mono ?_
        rintro e X2 ⟨v2, rfl, hown2, gX2⟩
        obtain ⟨A4, c4, hv2, -, -⟩ := hown2.form
        rw [← HN.out] at hv2
        subst hv2
        have R2 := Lib.hid hown2
        have EX2 := Lib.hid gX2
        have LO2 := Lib.hid (fun g hg => (World.ownsRow.lt hown2 g hg))
        have SE2 := Lib.hid gX2.size
        clear hown2 gX2
        go_wp2_with fail
        have GX2 := Lib.hid (GX1.out.trans EX2.out)
        have BN6 := Lib.hid (BN6.out.gr EX2.out)
        have BF6 := Lib.hid (BF6.out.gr EX2.out)
        have R2 : Hid (X2.ownsRow 0 31 4 (.slice A4 n c4) L.length (prows L)) := Lib.hid (own_le R2.out (Nat.zero_le _))
        refine hK.out _ _ GX2.out (fun hx => ?_)
        clear hK K
        try simp only [Act.put, List.setIfInBounds_toArray, List.set_cons_zero, List.set_cons_succ]
        refine wpAnyH_ready (rs := [5, 7]) (by kernel_rfl) (by simp) ?_
        refine AllReadyH.cons rfl (fun K hK => ?_) (AllReadyH.cons rfl (fun K hK => ?_) AllReadyH.nil)
        · go_simp
          refine (HP2.out _ (HG1.out.trans GX2.out)).mono ?_
          rintro e X3 ⟨v5, rfl, hown5, gX3⟩
          obtain ⟨A6, c6, hv5, -, -⟩ := hown5.form
          rw [← HN.out] at hv5
          subst hv5
          have R5 := Lib.hid hown5
          have EX3 := Lib.hid gX3
          have LO5 := Lib.hid (fun g hg => (World.ownsRow.lt hown5 g hg))
          have SE5 := Lib.hid gX3.size
          clear hown5 gX3
          go_wp2_with fail
          have GX3 := Lib.hid (GX2.out.trans EX3.out)
          have BN6 := Lib.hid (BN6.out.gr EX3.out)
          have BF6 := Lib.hid (BF6.out.gr EX3.out)
          have R2 := Lib.hid (own_gr R2.out EX3.out)
          have R5 : Hid (X3.ownsRow 0 31 4 (.slice A6 n c6) L.length (prows L)) := Lib.hid (own_le R5.out (Nat.zero_le _))
          refine hK.out _ _ GX3.out (fun hx => ?_)
          clear hK K
          try simp only [Act.put, List.setIfInBounds_toArray, List.set_cons_zero, List.set_cons_succ]
          refine wpAnyH_ready (rs := [7]) (by kernel_rfl) (by simp) ?_
          refine AllReadyH.cons rfl (fun K hK => ?_)  AllReadyH.nil
          go_simp
          obtain ⟨X4, hX4, gX4, nbX4, nfX4⟩ : ∃ Y, Y = X3.alloc (.cells #[.slice none 0 0, .int .i64 0, .int .i64 0, .int .i64 0, .int .i64 0, .int .i64 0, .int .i64 0, .int .i64 0, .int .i64 0, .int .i64 0] 25) ∧ Gr X3 Y ∧ NB Y X3.heap.size (.slice none 0 0) 0 zs ∧ NF Y X3.heap.size := ⟨_, rfl, gr_box _ _, NB.new _ _ _ zs, NF.new _ _ _ zs⟩
          have HX4 := Lib.hid hX4
          have EX4 := Lib.hid gX4
          have BN7 := Lib.hid nbX4
          have BF7 := Lib.hid nfX4
          clear hX4 gX4 nbX4 nfX4
          have SZ7 : Hid (X4.heap.size = X3.heap.size + 1) := Lib.hid (by go_light; rw [HX4.out]; simp)
          rw [← HX4.out]
          obtain ⟨b7, hb7⟩ : ∃ b, b = X3.heap.size := ⟨_, rfl⟩
          rw [← hb7] at BN7 BF7 SZ7 ⊢
          have BE7 := Lib.hid hb7
          clear hb7
          have GX4 := Lib.hid (GX3.out.trans EX4.out)
          have BN6 := Lib.hid (BN6.out.gr EX4.out)
          have BF6 := Lib.hid (BF6.out.gr EX4.out)
          have R2 := Lib.hid (own_gr R2.out EX4.out)
          have R5 := Lib.hid (own_gr R5.out EX4.out)
          refine hK.out _ _ GX4.out (fun hx => ?_)
          clear hK K
          try simp only [Act.put, List.setIfInBounds_toArray, List.set_cons_zero, List.set_cons_succ]
          have ORD : Hid (b6 ≠ b7) := Lib.hid (by
            go_light
            have := EX1.out.size
            have := EX2.out.size
            have := EX3.out.size
            have := EX4.out.size
            have := SZ6.out
            have := SZ7.out
            have := BE6.out
            have := BE7.out
            omega)
          have NE62 : Hid ((Value.slice A4 n c4).ownBlock ≠ some b6) := Lib.hid (by
            go_light
            intro e
            have := LO2.out _ e
            have := EX1.out.size
            have := EX2.out.size
            have := EX3.out.size
            have := EX4.out.size
            have := SZ6.out
            have := SZ7.out
            have := BE6.out
            have := BE7.out
            omega)
          have NE65 : Hid ((Value.slice A6 n c6).ownBlock ≠ some b6) := Lib.hid (by
            go_light
            intro e
            have := LO5.out _ e
            have := EX1.out.size
            have := EX2.out.size
            have := EX3.out.size
            have := EX4.out.size
            have := SZ6.out
            have := SZ7.out
            have := BE6.out
            have := BE7.out
            omega)
          have LB6 : Hid (w1.heap.size ≤ b6) := Lib.hid (by
            go_light
            have := GX0.out.size
            have := EX1.out.size
            have := EX2.out.size
            have := EX3.out.size
            have := EX4.out.size
            have := BE6.out
            omega)
          have NE72 : Hid ((Value.slice A4 n c4).ownBlock ≠ some b7) := Lib.hid (by
            go_light
            intro e
            have := LO2.out _ e
            have := EX1.out.size
            have := EX2.out.size
            have := EX3.out.size
            have := EX4.out.size
            have := SZ6.out
            have := SZ7.out
            have := BE6.out
            have := BE7.out
            omega)
          have NE75 : Hid ((Value.slice A6 n c6).ownBlock ≠ some b7) := Lib.hid (by
            go_light
            intro e
            have := LO5.out _ e
            have := EX1.out.size
            have := EX2.out.size
            have := EX3.out.size
            have := EX4.out.size
            have := SZ6.out
            have := SZ7.out
            have := BE6.out
            have := BE7.out
            omega)
          have LB7 : Hid (w1.heap.size ≤ b7) := Lib.hid (by
            go_light
            have := GX0.out.size
            have := EX1.out.size
            have := EX2.out.size
            have := EX3.out.size
            have := EX4.out.size
            have := BE7.out
            omega)
          refine wpAnyH_ready (rs := [8]) (by kernel_rfl) (by simp) ?_
          refine AllReadyH.cons rfl (fun K hK => ?_)  AllReadyH.nil
          have hx := BN6.out
          have d0 := hx.1
          have d1 := hx.2.1
          have d2 := hx.2.2.1
          have d3 := hx.2.2.2.1
          have d4 := hx.2.2.2.2.1
          have d5 := hx.2.2.2.2.2.1
          have d6 := hx.2.2.2.2.2.2.1
          have d7 := hx.2.2.2.2.2.2.2.1
          have d8 := hx.2.2.2.2.2.2.2.2.1
          have d9 := hx.2.2.2.2.2.2.2.2.2
          have hy := BF6.out.2
          have y0 := hy.1
          have y1 := hy.2.1
          have y2 := hy.2.2.1
          have y3 := hy.2.2.2.1
          have y4 := hy.2.2.2.2.1
          have y5 := hy.2.2.2.2.2.1
          have y6 := hy.2.2.2.2.2.2.1
          have y7 := hy.2.2.2.2.2.2.2.1
          have y8 := hy.2.2.2.2.2.2.2.2.1
          have y9 := hy.2.2.2.2.2.2.2.2.2
          clear hx hy
          go_simp
          clear d0 d1 d2 d3 d4 d5 d6 d7 d8 d9 y0 y1 y2 y3 y4 y5 y6 y7 y8 y9
          obtain ⟨X5, hX5⟩ : ∃ Y, Y = put10 X4 b6 (.slice A4 n c4) (.int .i64 nx) (.int .i64 (sa 0)) (.int .i64 (sa 1)) (.int .i64 (sa 2)) (.int .i64 (sa 3)) (.int .i64 (sa 4)) (.int .i64 (sa 5)) (.int .i64 (sa 6)) (.int .i64 (sa 7)) := ⟨_, rfl⟩
          have nbX5 : NB X5 b6 (.slice A4 n c4) nx sa := by rw [hX5]; exact NB.put BN6.out _ _ _
          have obX5 : NB X5 b7 (.slice none 0 0) 0 zs := by rw [hX5]; exact NB.far10 (b := b6) BN7.out (fun e => ORD.out e.symm) _ _ _ _ _ _ _ _ _ _
          have ofX5 : NF X5 b7 := by rw [hX5]; exact NF.put10 BF7.out _ _ _ _ _ _ _ _ _ _
          have r2X5 : X5.ownsRow 0 31 4 (.slice A4 n c4) L.length (prows L) := by
            rw [hX5]
            exact own_put10n R2.out (fun e => NE62.out e) _ _ _ _ _ _ _ _ _ _
          have r5X5 : X5.ownsRow 0 31 4 (.slice A6 n c6) L.length (prows L) := by
            rw [hX5]
            exact own_put10n R5.out (fun e => NE65.out e) _ _ _ _ _ _ _ _ _ _
          have ggX5 : Gr w1 X5 := by rw [hX5]; exact below_put10 GX4.out (LB6.out) _ _ _ _ _ _ _ _ _ _
          have HX5 := Lib.hid hX5
          have BN6 := Lib.hid nbX5
          have BN7 := Lib.hid obX5
          have BF7 := Lib.hid ofX5
          have R2 := Lib.hid r2X5
          have R5 := Lib.hid r5X5
          have GX5 := Lib.hid ggX5
          clear hX5 nbX5 obX5 ofX5 r2X5 r5X5 ggX5
          have hX5 := HX5.out
          unfold put10 at hX5
          rw [← hX5]
          clear hX5
          refine hK.out _ _ GX5.out (fun hx => ?_)
          clear hK K
          try simp only [Act.put, List.setIfInBounds_toArray, List.set_cons_zero, List.set_cons_succ]
          refine wpAnyH_ready (rs := [9]) (by kernel_rfl) (by simp) ?_
          refine AllReadyH.cons rfl (fun K hK => ?_)  AllReadyH.nil
          have hx := BN7.out
          have d0 := hx.1
          have d1 := hx.2.1
          have d2 := hx.2.2.1
          have d3 := hx.2.2.2.1
          have d4 := hx.2.2.2.2.1
          have d5 := hx.2.2.2.2.2.1
          have d6 := hx.2.2.2.2.2.2.1
          have d7 := hx.2.2.2.2.2.2.2.1
          have d8 := hx.2.2.2.2.2.2.2.2.1
          have d9 := hx.2.2.2.2.2.2.2.2.2
          have hy := BF7.out.2
          have y0 := hy.1
          have y1 := hy.2.1
          have y2 := hy.2.2.1
          have y3 := hy.2.2.2.1
          have y4 := hy.2.2.2.2.1
          have y5 := hy.2.2.2.2.2.1
          have y6 := hy.2.2.2.2.2.2.1
          have y7 := hy.2.2.2.2.2.2.2.1
          have y8 := hy.2.2.2.2.2.2.2.2.1
          have y9 := hy.2.2.2.2.2.2.2.2.2
          clear hx hy
          go_simp
          clear d0 d1 d2 d3 d4 d5 d6 d7 d8 d9 y0 y1 y2 y3 y4 y5 y6 y7 y8 y9
          obtain ⟨X6, hX6⟩ : ∃ Y, Y = put10 X5 b7 (.slice A6 n c6) (.int .i64 nx) (.int .i64 (sb 0)) (.int .i64 (sb 1)) (.int .i64 (sb 2)) (.int .i64 (sb 3)) (.int .i64 (sb 4)) (.int .i64 (sb 5)) (.int .i64 (sb 6)) (.int .i64 (sb 7)) := ⟨_, rfl⟩
          have nbX6 : NB X6 b7 (.slice A6 n c6) nx sb := by rw [hX6]; exact NB.put BN7.out _ _ _
          have obX6 : NB X6 b6 (.slice A4 n c4) nx sa := by rw [hX6]; exact NB.far10 (b := b7) BN6.out ORD.out _ _ _ _ _ _ _ _ _ _
          have r2X6 : X6.ownsRow 0 31 4 (.slice A4 n c4) L.length (prows L) := by
            rw [hX6]
            exact own_put10n R2.out (fun e => NE72.out e) _ _ _ _ _ _ _ _ _ _
          have r5X6 : X6.ownsRow 0 31 4 (.slice A6 n c6) L.length (prows L) := by
            rw [hX6]
            exact own_put10n R5.out (fun e => NE75.out e) _ _ _ _ _ _ _ _ _ _
          have ggX6 : Gr w1 X6 := by rw [hX6]; exact below_put10 GX5.out (LB7.out) _ _ _ _ _ _ _ _ _ _
          have HX6 := Lib.hid hX6
          have BN7 := Lib.hid nbX6
          have BN6 := Lib.hid obX6
          have R2 := Lib.hid r2X6
          have R5 := Lib.hid r5X6
          have GX6 := Lib.hid ggX6
          clear hX6 nbX6 obX6  r2X6 r5X6 ggX6
          have hX6 := HX6.out
          unfold put10 at hX6
          rw [← hX6]
          clear hX6
          refine hK.out _ _ GX6.out (fun hx => ?_)
          clear hK K
          try simp only [Act.put, List.setIfInBounds_toArray, List.set_cons_zero, List.set_cons_succ]
          refine wpAnyH_done (by kernel_rfl) ?_ _
          refine NoPanic.normal ?_
          have HFIN : Hid (SidesR L nx sa sb w1 (.pointer (some ⟨b6, 0, none⟩)) (.pointer (some ⟨b7, 0, none⟩)) X6) := Lib.hid ⟨b6, b7, _, _, rfl, rfl, BN6.out, BN7.out, PV.of_sl (own_sl R2.out), PV.of_sl (own_sl R5.out), GX6.out⟩
          go_wp2_with fail
          go_meet
          exact HFIN.out
        · go_simp
          obtain ⟨X3, hX3, gX3, nbX3, nfX3⟩ : ∃ Y, Y = X2.alloc (.cells #[.slice none 0 0, .int .i64 0, .int .i64 0, .int .i64 0, .int .i64 0, .int .i64 0, .int .i64 0, .int .i64 0, .int .i64 0, .int .i64 0] 25) ∧ Gr X2 Y ∧ NB Y X2.heap.size (.slice none 0 0) 0 zs ∧ NF Y X2.heap.size := ⟨_, rfl, gr_box _ _, NB.new _ _ _ zs, NF.new _ _ _ zs⟩
          have HX3 := Lib.hid hX3
          have EX3 := Lib.hid gX3
          have BN7 := Lib.hid nbX3
          have BF7 := Lib.hid nfX3
          clear hX3 gX3 nbX3 nfX3
          have SZ7 : Hid (X3.heap.size = X2.heap.size + 1) := Lib.hid (by go_light; rw [HX3.out]; simp)
          rw [← HX3.out]
          obtain ⟨b7, hb7⟩ : ∃ b, b = X2.heap.size := ⟨_, rfl⟩
          rw [← hb7] at BN7 BF7 SZ7 ⊢
          have BE7 := Lib.hid hb7
          clear hb7
          have GX3 := Lib.hid (GX2.out.trans EX3.out)
          have BN6 := Lib.hid (BN6.out.gr EX3.out)
          have BF6 := Lib.hid (BF6.out.gr EX3.out)
          have R2 := Lib.hid (own_gr R2.out EX3.out)
          refine hK.out _ _ GX3.out (fun hx => ?_)
          clear hK K
          try simp only [Act.put, List.setIfInBounds_toArray, List.set_cons_zero, List.set_cons_succ]
          refine wpAnyH_ready (rs := [5]) (by kernel_rfl) (by simp) ?_
          refine AllReadyH.cons rfl (fun K hK => ?_)  AllReadyH.nil
          go_simp
          refine (HP2.out _ (HG1.out.trans GX3.out)).mono ?_
          rintro e X4 ⟨v5, rfl, hown5, gX4⟩
          obtain ⟨A6, c6, hv5, -, -⟩ := hown5.form
          rw [← HN.out] at hv5
          subst hv5
          have R5 := Lib.hid hown5
          have EX4 := Lib.hid gX4
          have LO5 := Lib.hid (fun g hg => (World.ownsRow.lt hown5 g hg))
          have SE5 := Lib.hid gX4.size
          clear hown5 gX4
          go_wp2_with fail
          have GX4 := Lib.hid (GX3.out.trans EX4.out)
          have BN6 := Lib.hid (BN6.out.gr EX4.out)
          have BF6 := Lib.hid (BF6.out.gr EX4.out)
          have BN7 := Lib.hid (BN7.out.gr EX4.out)
          have BF7 := Lib.hid (BF7.out.gr EX4.out)
          have R2 := Lib.hid (own_gr R2.out EX4.out)
          have R5 : Hid (X4.ownsRow 0 31 4 (.slice A6 n c6) L.length (prows L)) := Lib.hid (own_le R5.out (Nat.zero_le _))
          refine hK.out _ _ GX4.out (fun hx => ?_)
          clear hK K
          try simp only [Act.put, List.setIfInBounds_toArray, List.set_cons_zero, List.set_cons_succ]
          have ORD : Hid (b6 ≠ b7) := Lib.hid (by
            go_light
            have := EX1.out.size
            have := EX2.out.size
            have := EX3.out.size
            have := EX4.out.size
            have := SZ6.out
            have := SZ7.out
            have := BE6.out
            have := BE7.out
            omega)
          have NE62 : Hid ((Value.slice A4 n c4).ownBlock ≠ some b6) := Lib.hid (by
            go_light
            intro e
            have := LO2.out _ e
            have := EX1.out.size
            have := EX2.out.size
            have := EX3.out.size
            have := EX4.out.size
            have := SZ6.out
            have := SZ7.out
            have := BE6.out
            have := BE7.out
            omega)
          have NE65 : Hid ((Value.slice A6 n c6).ownBlock ≠ some b6) := Lib.hid (by
            go_light
            intro e
            have := LO5.out _ e
            have := EX1.out.size
            have := EX2.out.size
            have := EX3.out.size
            have := EX4.out.size
            have := SZ6.out
            have := SZ7.out
            have := BE6.out
            have := BE7.out
            omega)
          have LB6 : Hid (w1.heap.size ≤ b6) := Lib.hid (by
            go_light
            have := GX0.out.size
            have := EX1.out.size
            have := EX2.out.size
            have := EX3.out.size
            have := EX4.out.size
            have := BE6.out
            omega)
          have NE72 : Hid ((Value.slice A4 n c4).ownBlock ≠ some b7) := Lib.hid (by
            go_light
            intro e
            have := LO2.out _ e
            have := EX1.out.size
            have := EX2.out.size
            have := EX3.out.size
            have := EX4.out.size
            have := SZ6.out
            have := SZ7.out
            have := BE6.out
            have := BE7.out
            omega)
          have NE75 : Hid ((Value.slice A6 n c6).ownBlock ≠ some b7) := Lib.hid (by
            go_light
            intro e
            have := LO5.out _ e
            have := EX1.out.size
            have := EX2.out.size
            have := EX3.out.size
            have := EX4.out.size
            have := SZ6.out
            have := SZ7.out
            have := BE6.out
            have := BE7.out
            omega)
          have LB7 : Hid (w1.heap.size ≤ b7) := Lib.hid (by
            go_light
            have := GX0.out.size
            have := EX1.out.size
            have := EX2.out.size
            have := EX3.out.size
            have := EX4.out.size
            have := BE7.out
            omega)
          refine wpAnyH_ready (rs := [8]) (by kernel_rfl) (by simp) ?_
          refine AllReadyH.cons rfl (fun K hK => ?_)  AllReadyH.nil
          have hx := BN6.out
          have d0 := hx.1
          have d1 := hx.2.1
          have d2 := hx.2.2.1
          have d3 := hx.2.2.2.1
          have d4 := hx.2.2.2.2.1
          have d5 := hx.2.2.2.2.2.1
          have d6 := hx.2.2.2.2.2.2.1
          have d7 := hx.2.2.2.2.2.2.2.1
          have d8 := hx.2.2.2.2.2.2.2.2.1
          have d9 := hx.2.2.2.2.2.2.2.2.2
          have hy := BF6.out.2
          have y0 := hy.1
          have y1 := hy.2.1
          have y2 := hy.2.2.1
          have y3 := hy.2.2.2.1
          have y4 := hy.2.2.2.2.1
          have y5 := hy.2.2.2.2.2.1
          have y6 := hy.2.2.2.2.2.2.1
          have y7 := hy.2.2.2.2.2.2.2.1
          have y8 := hy.2.2.2.2.2.2.2.2.1
          have y9 := hy.2.2.2.2.2.2.2.2.2
          clear hx hy
          go_simp
          clear d0 d1 d2 d3 d4 d5 d6 d7 d8 d9 y0 y1 y2 y3 y4 y5 y6 y7 y8 y9
          obtain ⟨X5, hX5⟩ : ∃ Y, Y = put10 X4 b6 (.slice A4 n c4) (.int .i64 nx) (.int .i64 (sa 0)) (.int .i64 (sa 1)) (.int .i64 (sa 2)) (.int .i64 (sa 3)) (.int .i64 (sa 4)) (.int .i64 (sa 5)) (.int .i64 (sa 6)) (.int .i64 (sa 7)) := ⟨_, rfl⟩
          have nbX5 : NB X5 b6 (.slice A4 n c4) nx sa := by rw [hX5]; exact NB.put BN6.out _ _ _
          have obX5 : NB X5 b7 (.slice none 0 0) 0 zs := by rw [hX5]; exact NB.far10 (b := b6) BN7.out (fun e => ORD.out e.symm) _ _ _ _ _ _ _ _ _ _
          have ofX5 : NF X5 b7 := by rw [hX5]; exact NF.put10 BF7.out _ _ _ _ _ _ _ _ _ _
          have r2X5 : X5.ownsRow 0 31 4 (.slice A4 n c4) L.length (prows L) := by
            rw [hX5]
            exact own_put10n R2.out (fun e => NE62.out e) _ _ _ _ _ _ _ _ _ _
          have r5X5 : X5.ownsRow 0 31 4 (.slice A6 n c6) L.length (prows L) := by
            rw [hX5]
            exact own_put10n R5.out (fun e => NE65.out e) _ _ _ _ _ _ _ _ _ _
          have ggX5 : Gr w1 X5 := by rw [hX5]; exact below_put10 GX4.out (LB6.out) _ _ _ _ _ _ _ _ _ _
          have HX5 := Lib.hid hX5
          have BN6 := Lib.hid nbX5
          have BN7 := Lib.hid obX5
          have BF7 := Lib.hid ofX5
          have R2 := Lib.hid r2X5
          have R5 := Lib.hid r5X5
          have GX5 := Lib.hid ggX5
          clear hX5 nbX5 obX5 ofX5 r2X5 r5X5 ggX5
          have hX5 := HX5.out
          unfold put10 at hX5
          rw [← hX5]
          clear hX5
          refine hK.out _ _ GX5.out (fun hx => ?_)
          clear hK K
          try simp only [Act.put, List.setIfInBounds_toArray, List.set_cons_zero, List.set_cons_succ]
          refine wpAnyH_ready (rs := [9]) (by kernel_rfl) (by simp) ?_
          refine AllReadyH.cons rfl (fun K hK => ?_)  AllReadyH.nil
          have hx := BN7.out
          have d0 := hx.1
          have d1 := hx.2.1
          have d2 := hx.2.2.1
          have d3 := hx.2.2.2.1
          have d4 := hx.2.2.2.2.1
          have d5 := hx.2.2.2.2.2.1
          have d6 := hx.2.2.2.2.2.2.1
          have d7 := hx.2.2.2.2.2.2.2.1
          have d8 := hx.2.2.2.2.2.2.2.2.1
          have d9 := hx.2.2.2.2.2.2.2.2.2
          have hy := BF7.out.2
          have y0 := hy.1
          have y1 := hy.2.1
          have y2 := hy.2.2.1
          have y3 := hy.2.2.2.1
          have y4 := hy.2.2.2.2.1
          have y5 := hy.2.2.2.2.2.1
          have y6 := hy.2.2.2.2.2.2.1
          have y7 := hy.2.2.2.2.2.2.2.1
          have y8 := hy.2.2.2.2.2.2.2.2.1
          have y9 := hy.2.2.2.2.2.2.2.2.2
          clear hx hy
          go_simp
          clear d0 d1 d2 d3 d4 d5 d6 d7 d8 d9 y0 y1 y2 y3 y4 y5 y6 y7 y8 y9
          obtain ⟨X6, hX6⟩ : ∃ Y, Y = put10 X5 b7 (.slice A6 n c6) (.int .i64 nx) (.int .i64 (sb 0)) (.int .i64 (sb 1)) (.int .i64 (sb 2)) (.int .i64 (sb 3)) (.int .i64 (sb 4)) (.int .i64 (sb 5)) (.int .i64 (sb 6)) (.int .i64 (sb 7)) := ⟨_, rfl⟩
          have nbX6 : NB X6 b7 (.slice A6 n c6) nx sb := by rw [hX6]; exact NB.put BN7.out _ _ _
          have obX6 : NB X6 b6 (.slice A4 n c4) nx sa := by rw [hX6]; exact NB.far10 (b := b7) BN6.out ORD.out _ _ _ _ _ _ _ _ _ _
          have r2X6 : X6.ownsRow 0 31 4 (.slice A4 n c4) L.length (prows L) := by
            rw [hX6]
            exact own_put10n R2.out (fun e => NE72.out e) _ _ _ _ _ _ _ _ _ _
          have r5X6 : X6.ownsRow 0 31 4 (.slice A6 n c6) L.length (prows L) := by
            rw [hX6]
            exact own_put10n R5.out (fun e => NE75.out e) _ _ _ _ _ _ _ _ _ _
          have ggX6 : Gr w1 X6 := by rw [hX6]; exact below_put10 GX5.out (LB7.out) _ _ _ _ _ _ _ _ _ _
          have HX6 := Lib.hid hX6
          have BN7 := Lib.hid nbX6
          have BN6 := Lib.hid obX6
          have R2 := Lib.hid r2X6
          have R5 := Lib.hid r5X6
          have GX6 := Lib.hid ggX6
          clear hX6 nbX6 obX6  r2X6 r5X6 ggX6
          have hX6 := HX6.out
          unfold put10 at hX6
          rw [← hX6]
          clear hX6
          refine hK.out _ _ GX6.out (fun hx => ?_)
          clear hK K
          try simp only [Act.put, List.setIfInBounds_toArray, List.set_cons_zero, List.set_cons_succ]
          refine wpAnyH_done (by kernel_rfl) ?_ _
          refine NoPanic.normal ?_
          have HFIN : Hid (SidesR L nx sa sb w1 (.pointer (some ⟨b6, 0, none⟩)) (.pointer (some ⟨b7, 0, none⟩)) X6) := Lib.hid ⟨b6, b7, _, _, rfl, rfl, BN6.out, BN7.out, PV.of_sl (own_sl R2.out), PV.of_sl (own_sl R5.out), GX6.out⟩
          go_wp2_with fail
          go_meet
          exact HFIN.out
      · go_simp
        obtain ⟨X2, hX2, gX2, nbX2, nfX2⟩ : ∃ Y, Y = X1.alloc (.cells #[.slice none 0 0, .int .i64 0, .int .i64 0, .int .i64 0, .int .i64 0, .int .i64 0, .int .i64 0, .int .i64 0, .int .i64 0, .int .i64 0] 25) ∧ Gr X1 Y ∧ NB Y X1.heap.size (.slice none 0 0) 0 zs ∧ NF Y X1.heap.size := ⟨_, rfl, gr_box _ _, NB.new _ _ _ zs, NF.new _ _ _ zs⟩
        have HX2 := Lib.hid hX2
        have EX2 := Lib.hid gX2
        have BN7 := Lib.hid nbX2
        have BF7 := Lib.hid nfX2
        clear hX2 gX2 nbX2 nfX2
        have SZ7 : Hid (X2.heap.size = X1.heap.size + 1) := Lib.hid (by go_light; rw [HX2.out]; simp)
        rw [← HX2.out]
        obtain ⟨b7, hb7⟩ : ∃ b, b = X1.heap.size := ⟨_, rfl⟩
        rw [← hb7] at BN7 BF7 SZ7 ⊢
        have BE7 := Lib.hid hb7
        clear hb7
        have GX2 := Lib.hid (GX1.out.trans EX2.out)
        have BN6 := Lib.hid (BN6.out.gr EX2.out)
        have BF6 := Lib.hid (BF6.out.gr EX2.out)
        refine hK.out _ _ GX2.out (fun hx => ?_)
        clear hK K
        try simp only [Act.put, List.setIfInBounds_toArray, List.set_cons_zero, List.set_cons_succ]
        refine wpAnyH_ready (rs := [2]) (by kernel_rfl) (by simp) ?_
        refine AllReadyH.cons rfl (fun K hK => ?_)  AllReadyH.nil
        go_simp
        refine (HP1.out _ (HG1.out.trans GX2.out)).mono ?_
        rintro e X3 ⟨v2, rfl, hown2, gX3⟩
        obtain ⟨A4, c4, hv2, -, -⟩ := hown2.form
        rw [← HN.out] at hv2
        subst hv2
        have R2 := Lib.hid hown2
        have EX3 := Lib.hid gX3
        have LO2 := Lib.hid (fun g hg => (World.ownsRow.lt hown2 g hg))
        have SE2 := Lib.hid gX3.size
        clear hown2 gX3
        go_wp2_with fail
        have GX3 := Lib.hid (GX2.out.trans EX3.out)
        have BN6 := Lib.hid (BN6.out.gr EX3.out)
        have BF6 := Lib.hid (BF6.out.gr EX3.out)
        have BN7 := Lib.hid (BN7.out.gr EX3.out)
        have BF7 := Lib.hid (BF7.out.gr EX3.out)
        have R2 : Hid (X3.ownsRow 0 31 4 (.slice A4 n c4) L.length (prows L)) := Lib.hid (own_le R2.out (Nat.zero_le _))
        refine hK.out _ _ GX3.out (fun hx => ?_)
        clear hK K
        try simp only [Act.put, List.setIfInBounds_toArray, List.set_cons_zero, List.set_cons_succ]
        refine wpAnyH_ready (rs := [5]) (by kernel_rfl) (by simp) ?_
        refine AllReadyH.cons rfl (fun K hK => ?_)  AllReadyH.nil
        go_simp
        refine (HP2.out _ (HG1.out.trans GX3.out)).mono ?_
        rintro e X4 ⟨v5, rfl, hown5, gX4⟩
        obtain ⟨A6, c6, hv5, -, -⟩ := hown5.form
        rw [← HN.out] at hv5
        subst hv5
        have R5 := Lib.hid hown5
        have EX4 := Lib.hid gX4
        have LO5 := Lib.hid (fun g hg => (World.ownsRow.lt hown5 g hg))
        have SE5 := Lib.hid gX4.size
        clear hown5 gX4
        go_wp2_with fail
        have GX4 := Lib.hid (GX3.out.trans EX4.out)
        have BN6 := Lib.hid (BN6.out.gr EX4.out)
        have BF6 := Lib.hid (BF6.out.gr EX4.out)
        have BN7 := Lib.hid (BN7.out.gr EX4.out)
        have BF7 := Lib.hid (BF7.out.gr EX4.out)
        have R2 := Lib.hid (own_gr R2.out EX4.out)
        have R5 : Hid (X4.ownsRow 0 31 4 (.slice A6 n c6) L.length (prows L)) := Lib.hid (own_le R5.out (Nat.zero_le _))
        refine hK.out _ _ GX4.out (fun hx => ?_)
        clear hK K
        try simp only [Act.put, List.setIfInBounds_toArray, List.set_cons_zero, List.set_cons_succ]
        have ORD : Hid (b6 ≠ b7) := Lib.hid (by
          go_light
          have := EX1.out.size
          have := EX2.out.size
          have := EX3.out.size
          have := EX4.out.size
          have := SZ6.out
          have := SZ7.out
          have := BE6.out
          have := BE7.out
          omega)
        have NE62 : Hid ((Value.slice A4 n c4).ownBlock ≠ some b6) := Lib.hid (by
          go_light
          intro e
          have := LO2.out _ e
          have := EX1.out.size
          have := EX2.out.size
          have := EX3.out.size
          have := EX4.out.size
          have := SZ6.out
          have := SZ7.out
          have := BE6.out
          have := BE7.out
          omega)
        have NE65 : Hid ((Value.slice A6 n c6).ownBlock ≠ some b6) := Lib.hid (by
          go_light
          intro e
          have := LO5.out _ e
          have := EX1.out.size
          have := EX2.out.size
          have := EX3.out.size
          have := EX4.out.size
          have := SZ6.out
          have := SZ7.out
          have := BE6.out
          have := BE7.out
          omega)
        have LB6 : Hid (w1.heap.size ≤ b6) := Lib.hid (by
          go_light
          have := GX0.out.size
          have := EX1.out.size
          have := EX2.out.size
          have := EX3.out.size
          have := EX4.out.size
          have := BE6.out
          omega)
        have NE72 : Hid ((Value.slice A4 n c4).ownBlock ≠ some b7) := Lib.hid (by
          go_light
          intro e
          have := LO2.out _ e
          have := EX1.out.size
          have := EX2.out.size
          have := EX3.out.size
          have := EX4.out.size
          have := SZ6.out
          have := SZ7.out
          have := BE6.out
          have := BE7.out
          omega)
        have NE75 : Hid ((Value.slice A6 n c6).ownBlock ≠ some b7) := Lib.hid (by
          go_light
          intro e
          have := LO5.out _ e
          have := EX1.out.size
          have := EX2.out.size
          have := EX3.out.size
          have := EX4.out.size
          have := SZ6.out
          have := SZ7.out
          have := BE6.out
          have := BE7.out
          omega)
        have LB7 : Hid (w1.heap.size ≤ b7) := Lib.hid (by
          go_light
          have := GX0.out.size
          have := EX1.out.size
          have := EX2.out.size
          have := EX3.out.size
          have := EX4.out.size
          have := BE7.out
          omega)
        refine wpAnyH_ready (rs := [8]) (by kernel_rfl) (by simp) ?_
        refine AllReadyH.cons rfl (fun K hK => ?_)  AllReadyH.nil
        have hx := BN6.out
        have d0 := hx.1
        have d1 := hx.2.1
        have d2 := hx.2.2.1
        have d3 := hx.2.2.2.1
        have d4 := hx.2.2.2.2.1
        have d5 := hx.2.2.2.2.2.1
        have d6 := hx.2.2.2.2.2.2.1
        have d7 := hx.2.2.2.2.2.2.2.1
        have d8 := hx.2.2.2.2.2.2.2.2.1
        have d9 := hx.2.2.2.2.2.2.2.2.2
        have hy := BF6.out.2
        have y0 := hy.1
        have y1 := hy.2.1
        have y2 := hy.2.2.1
        have y3 := hy.2.2.2.1
        have y4 := hy.2.2.2.2.1
        have y5 := hy.2.2.2.2.2.1
        have y6 := hy.2.2.2.2.2.2.1
        have y7 := hy.2.2.2.2.2.2.2.1
        have y8 := hy.2.2.2.2.2.2.2.2.1
        have y9 := hy.2.2.2.2.2.2.2.2.2
        clear hx hy
        go_simp
        clear d0 d1 d2 d3 d4 d5 d6 d7 d8 d9 y0 y1 y2 y3 y4 y5 y6 y7 y8 y9
        obtain ⟨X5, hX5⟩ : ∃ Y, Y = put10 X4 b6 (.slice A4 n c4) (.int .i64 nx) (.int .i64 (sa 0)) (.int .i64 (sa 1)) (.int .i64 (sa 2)) (.int .i64 (sa 3)) (.int .i64 (sa 4)) (.int .i64 (sa 5)) (.int .i64 (sa 6)) (.int .i64 (sa 7)) := ⟨_, rfl⟩
        have nbX5 : NB X5 b6 (.slice A4 n c4) nx sa := by rw [hX5]; exact NB.put BN6.out _ _ _
        have obX5 : NB X5 b7 (.slice none 0 0) 0 zs := by rw [hX5]; exact NB.far10 (b := b6) BN7.out (fun e => ORD.out e.symm) _ _ _ _ _ _ _ _ _ _
        have ofX5 : NF X5 b7 := by rw [hX5]; exact NF.put10 BF7.out _ _ _ _ _ _ _ _ _ _
        have r2X5 : X5.ownsRow 0 31 4 (.slice A4 n c4) L.length (prows L) := by
          rw [hX5]
          exact own_put10n R2.out (fun e => NE62.out e) _ _ _ _ _ _ _ _ _ _
        have r5X5 : X5.ownsRow 0 31 4 (.slice A6 n c6) L.length (prows L) := by
          rw [hX5]
          exact own_put10n R5.out (fun e => NE65.out e) _ _ _ _ _ _ _ _ _ _
        have ggX5 : Gr w1 X5 := by rw [hX5]; exact below_put10 GX4.out (LB6.out) _ _ _ _ _ _ _ _ _ _
        have HX5 := Lib.hid hX5
        have BN6 := Lib.hid nbX5
        have BN7 := Lib.hid obX5
        have BF7 := Lib.hid ofX5
        have R2 := Lib.hid r2X5
        have R5 := Lib.hid r5X5
        have GX5 := Lib.hid ggX5
        clear hX5 nbX5 obX5 ofX5 r2X5 r5X5 ggX5
        have hX5 := HX5.out
        unfold put10 at hX5
        rw [← hX5]
        clear hX5
        refine hK.out _ _ GX5.out (fun hx => ?_)
        clear hK K
        try simp only [Act.put, List.setIfInBounds_toArray, List.set_cons_zero, List.set_cons_succ]
        refine wpAnyH_ready (rs := [9]) (by kernel_rfl) (by simp) ?_
        refine AllReadyH.cons rfl (fun K hK => ?_)  AllReadyH.nil
        have hx := BN7.out
        have d0 := hx.1
        have d1 := hx.2.1
        have d2 := hx.2.2.1
        have d3 := hx.2.2.2.1
        have d4 := hx.2.2.2.2.1
        have d5 := hx.2.2.2.2.2.1
        have d6 := hx.2.2.2.2.2.2.1
        have d7 := hx.2.2.2.2.2.2.2.1
        have d8 := hx.2.2.2.2.2.2.2.2.1
        have d9 := hx.2.2.2.2.2.2.2.2.2
        have hy := BF7.out.2
        have y0 := hy.1
        have y1 := hy.2.1
        have y2 := hy.2.2.1
        have y3 := hy.2.2.2.1
        have y4 := hy.2.2.2.2.1
        have y5 := hy.2.2.2.2.2.1
        have y6 := hy.2.2.2.2.2.2.1
        have y7 := hy.2.2.2.2.2.2.2.1
        have y8 := hy.2.2.2.2.2.2.2.2.1
        have y9 := hy.2.2.2.2.2.2.2.2.2
        clear hx hy
        go_simp
        clear d0 d1 d2 d3 d4 d5 d6 d7 d8 d9 y0 y1 y2 y3 y4 y5 y6 y7 y8 y9
        obtain ⟨X6, hX6⟩ : ∃ Y, Y = put10 X5 b7 (.slice A6 n c6) (.int .i64 nx) (.int .i64 (sb 0)) (.int .i64 (sb 1)) (.int .i64 (sb 2)) (.int .i64 (sb 3)) (.int .i64 (sb 4)) (.int .i64 (sb 5)) (.int .i64 (sb 6)) (.int .i64 (sb 7)) := ⟨_, rfl⟩
        have nbX6 : NB X6 b7 (.slice A6 n c6) nx sb := by rw [hX6]; exact NB.put BN7.out _ _ _
        have obX6 : NB X6 b6 (.slice A4 n c4) nx sa := by rw [hX6]; exact NB.far10 (b := b7) BN6.out ORD.out _ _ _ _ _ _ _ _ _ _
        have r2X6 : X6.ownsRow 0 31 4 (.slice A4 n c4) L.length (prows L) := by
          rw [hX6]
          exact own_put10n R2.out (fun e => NE72.out e) _ _ _ _ _ _ _ _ _ _
        have r5X6 : X6.ownsRow 0 31 4 (.slice A6 n c6) L.length (prows L) := by
          rw [hX6]
          exact own_put10n R5.out (fun e => NE75.out e) _ _ _ _ _ _ _ _ _ _
        have ggX6 : Gr w1 X6 := by rw [hX6]; exact below_put10 GX5.out (LB7.out) _ _ _ _ _ _ _ _ _ _
        have HX6 := Lib.hid hX6
        have BN7 := Lib.hid nbX6
        have BN6 := Lib.hid obX6
        have R2 := Lib.hid r2X6
        have R5 := Lib.hid r5X6
        have GX6 := Lib.hid ggX6
        clear hX6 nbX6 obX6  r2X6 r5X6 ggX6
        have hX6 := HX6.out
        unfold put10 at hX6
        rw [← hX6]
        clear hX6
        refine hK.out _ _ GX6.out (fun hx => ?_)
        clear hK K
        try simp only [Act.put, List.setIfInBounds_toArray, List.set_cons_zero, List.set_cons_succ]
        refine wpAnyH_done (by kernel_rfl) ?_ _
        refine NoPanic.normal ?_
        have HFIN : Hid (SidesR L nx sa sb w1 (.pointer (some ⟨b6, 0, none⟩)) (.pointer (some ⟨b7, 0, none⟩)) X6) := Lib.hid ⟨b6, b7, _, _, rfl, rfl, BN6.out, BN7.out, PV.of_sl (own_sl R2.out), PV.of_sl (own_sl R5.out), GX6.out⟩
        go_wp2_with fail
        go_meet
        exact HFIN.out
    · go_simp
      obtain ⟨X1, hX1, gX1, nbX1, nfX1⟩ : ∃ Y, Y = X0.alloc (.cells #[.slice none 0 0, .int .i64 0, .int .i64 0, .int .i64 0, .int .i64 0, .int .i64 0, .int .i64 0, .int .i64 0, .int .i64 0, .int .i64 0] 25) ∧ Gr X0 Y ∧ NB Y X0.heap.size (.slice none 0 0) 0 zs ∧ NF Y X0.heap.size := ⟨_, rfl, gr_box _ _, NB.new _ _ _ zs, NF.new _ _ _ zs⟩
      have HX1 := Lib.hid hX1
      have EX1 := Lib.hid gX1
      have BN7 := Lib.hid nbX1
      have BF7 := Lib.hid nfX1
      clear hX1 gX1 nbX1 nfX1
      have SZ7 : Hid (X1.heap.size = X0.heap.size + 1) := Lib.hid (by go_light; rw [HX1.out]; simp)
      rw [← HX1.out]
      obtain ⟨b7, hb7⟩ : ∃ b, b = X0.heap.size := ⟨_, rfl⟩
      rw [← hb7] at BN7 BF7 SZ7 ⊢
      have BE7 := Lib.hid hb7
      clear hb7
      have GX1 := Lib.hid (GX0.out.trans EX1.out)
      refine hK.out _ _ GX1.out (fun hx => ?_)
      clear hK K
      try simp only [Act.put, List.setIfInBounds_toArray, List.set_cons_zero, List.set_cons_succ]
      refine wpAnyH_ready (rs := [2, 6]) (by kernel_rfl) (by simp) ?_
      refine AllReadyH.cons rfl (fun K hK => ?_) (AllReadyH.cons rfl (fun K hK => ?_) AllReadyH.nil)
      · go_simp
        refine (HP1.out _ (HG1.out.trans GX1.out)).mono ?_
        rintro e X2 ⟨v2, rfl, hown2, gX2⟩
        obtain ⟨A4, c4, hv2, -, -⟩ := hown2.form
        rw [← HN.out] at hv2
        subst hv2
        have R2 := Lib.hid hown2
        have EX2 := Lib.hid gX2
        have LO2 := Lib.hid (fun g hg => (World.ownsRow.lt hown2 g hg))
        have SE2 := Lib.hid gX2.size
        clear hown2 gX2
        go_wp2_with fail
        have GX2 := Lib.hid (GX1.out.trans EX2.out)
        have BN7 := Lib.hid (BN7.out.gr EX2.out)
        have BF7 := Lib.hid (BF7.out.gr EX2.out)
        have R2 : Hid (X2.ownsRow 0 31 4 (.slice A4 n c4) L.length (prows L)) := Lib.hid (own_le R2.out (Nat.zero_le _))
        refine hK.out _ _ GX2.out (fun hx => ?_)
        clear hK K
        try simp only [Act.put, List.setIfInBounds_toArray, List.set_cons_zero, List.set_cons_succ]
        refine wpAnyH_ready (rs := [5, 6]) (by kernel_rfl) (by simp) ?_
        refine AllReadyH.cons rfl (fun K hK => ?_) (AllReadyH.cons rfl (fun K hK => ?_) AllReadyH.nil)
        · go_simp
          refine (HP2.out _ (HG1.out.trans GX2.out)).mono ?_
          rintro e X3 ⟨v5, rfl, hown5, gX3⟩
          obtain ⟨A6, c6, hv5, -, -⟩ := hown5.form
          rw [← HN.out] at hv5
          subst hv5
          have R5 := Lib.hid hown5
          have EX3 := Lib.hid gX3
          have LO5 := Lib.hid (fun g hg => (World.ownsRow.lt hown5 g hg))
          have SE5 := Lib.hid gX3.size
          clear hown5 gX3
          go_wp2_with fail
          have GX3 := Lib.hid (GX2.out.trans EX3.out)
          have BN7 := Lib.hid (BN7.out.gr EX3.out)
          have BF7 := Lib.hid (BF7.out.gr EX3.out)
          have R2 := Lib.hid (own_gr R2.out EX3.out)
          have R5 : Hid (X3.ownsRow 0 31 4 (.slice A6 n c6) L.length (prows L)) := Lib.hid (own_le R5.out (Nat.zero_le _))
          refine hK.out _ _ GX3.out (fun hx => ?_)
          clear hK K
          try simp only [Act.put, List.setIfInBounds_toArray, List.set_cons_zero, List.set_cons_succ]
          refine wpAnyH_ready (rs := [6]) (by kernel_rfl) (by simp) ?_
          refine AllReadyH.cons rfl (fun K hK => ?_)  AllReadyH.nil
          go_simp
          obtain ⟨X4, hX4, gX4, nbX4, nfX4⟩ : ∃ Y, Y = X3.alloc (.cells #[.slice none 0 0, .int .i64 0, .int .i64 0, .int .i64 0, .int .i64 0, .int .i64 0, .int .i64 0, .int .i64 0, .int .i64 0, .int .i64 0] 25) ∧ Gr X3 Y ∧ NB Y X3.heap.size (.slice none 0 0) 0 zs ∧ NF Y X3.heap.size := ⟨_, rfl, gr_box _ _, NB.new _ _ _ zs, NF.new _ _ _ zs⟩
          have HX4 := Lib.hid hX4
          have EX4 := Lib.hid gX4
          have BN6 := Lib.hid nbX4
          have BF6 := Lib.hid nfX4
          clear hX4 gX4 nbX4 nfX4
          have SZ6 : Hid (X4.heap.size = X3.heap.size + 1) := Lib.hid (by go_light; rw [HX4.out]; simp)
          rw [← HX4.out]
          obtain ⟨b6, hb6⟩ : ∃ b, b = X3.heap.size := ⟨_, rfl⟩
          rw [← hb6] at BN6 BF6 SZ6 ⊢
          have BE6 := Lib.hid hb6
          clear hb6
          have GX4 := Lib.hid (GX3.out.trans EX4.out)
          have BN7 := Lib.hid (BN7.out.gr EX4.out)
          have BF7 := Lib.hid (BF7.out.gr EX4.out)
          have R2 := Lib.hid (own_gr R2.out EX4.out)
          have R5 := Lib.hid (own_gr R5.out EX4.out)
          refine hK.out _ _ GX4.out (fun hx => ?_)
          clear hK K
          try simp only [Act.put, List.setIfInBounds_toArray, List.set_cons_zero, List.set_cons_succ]
          have ORD : Hid (b6 ≠ b7) := Lib.hid (by
            go_light
            have := EX1.out.size
            have := EX2.out.size
            have := EX3.out.size
            have := EX4.out.size
            have := SZ6.out
            have := SZ7.out
            have := BE6.out
            have := BE7.out
            omega)
          have NE62 : Hid ((Value.slice A4 n c4).ownBlock ≠ some b6) := Lib.hid (by
            go_light
            intro e
            have := LO2.out _ e
            have := EX1.out.size
            have := EX2.out.size
            have := EX3.out.size
            have := EX4.out.size
            have := SZ6.out
            have := SZ7.out
            have := BE6.out
            have := BE7.out
            omega)
          have NE65 : Hid ((Value.slice A6 n c6).ownBlock ≠ some b6) := Lib.hid (by
            go_light
            intro e
            have := LO5.out _ e
            have := EX1.out.size
            have := EX2.out.size
            have := EX3.out.size
            have := EX4.out.size
            have := SZ6.out
            have := SZ7.out
            have := BE6.out
            have := BE7.out
            omega)
          have LB6 : Hid (w1.heap.size ≤ b6) := Lib.hid (by
            go_light
            have := GX0.out.size
            have := EX1.out.size
            have := EX2.out.size
            have := EX3.out.size
            have := EX4.out.size
            have := BE6.out
            omega)
          have NE72 : Hid ((Value.slice A4 n c4).ownBlock ≠ some b7) := Lib.hid (by
            go_light
            intro e
            have := LO2.out _ e
            have := EX1.out.size
            have := EX2.out.size
            have := EX3.out.size
            have := EX4.out.size
            have := SZ6.out
            have := SZ7.out
            have := BE6.out
            have := BE7.out
            omega)
          have NE75 : Hid ((Value.slice A6 n c6).ownBlock ≠ some b7) := Lib.hid (by
            go_light
            intro e
            have := LO5.out _ e
            have := EX1.out.size
            have := EX2.out.size
            have := EX3.out.size
            have := EX4.out.size
            have := SZ6.out
            have := SZ7.out
            have := BE6.out
            have := BE7.out
            omega)
          have LB7 : Hid (w1.heap.size ≤ b7) := Lib.hid (by
            go_light
            have := GX0.out.size
            have := EX1.out.size
            have := EX2.out.size
            have := EX3.out.size
            have := EX4.out.size
            have := BE7.out
            omega)
          refine wpAnyH_ready (rs := [8]) (by kernel_rfl) (by simp) ?_
          refine AllReadyH.cons rfl (fun K hK => ?_)  AllReadyH.nil
          have hx := BN6.out
          have d0 := hx.1
          have d1 := hx.2.1
          have d2 := hx.2.2.1
          have d3 := hx.2.2.2.1
          have d4 := hx.2.2.2.2.1
          have d5 := hx.2.2.2.2.2.1
          have d6 := hx.2.2.2.2.2.2.1
          have d7 := hx.2.2.2.2.2.2.2.1
          have d8 := hx.2.2.2.2.2.2.2.2.1
          have d9 := hx.2.2.2.2.2.2.2.2.2
          have hy := BF6.out.2
          have y0 := hy.1
          have y1 := hy.2.1
          have y2 := hy.2.2.1
          have y3 := hy.2.2.2.1
          have y4 := hy.2.2.2.2.1
          have y5 := hy.2.2.2.2.2.1
          have y6 := hy.2.2.2.2.2.2.1
          have y7 := hy.2.2.2.2.2.2.2.1
          have y8 := hy.2.2.2.2.2.2.2.2.1
          have y9 := hy.2.2.2.2.2.2.2.2.2
          clear hx hy
          go_simp
          clear d0 d1 d2 d3 d4 d5 d6 d7 d8 d9 y0 y1 y2 y3 y4 y5 y6 y7 y8 y9
          obtain ⟨X5, hX5⟩ : ∃ Y, Y = put10 X4 b6 (.slice A4 n c4) (.int .i64 nx) (.int .i64 (sa 0)) (.int .i64 (sa 1)) (.int .i64 (sa 2)) (.int .i64 (sa 3)) (.int .i64 (sa 4)) (.int .i64 (sa 5)) (.int .i64 (sa 6)) (.int .i64 (sa 7)) := ⟨_, rfl⟩
          have nbX5 : NB X5 b6 (.slice A4 n c4) nx sa := by rw [hX5]; exact NB.put BN6.out _ _ _
          have obX5 : NB X5 b7 (.slice none 0 0) 0 zs := by rw [hX5]; exact NB.far10 (b := b6) BN7.out (fun e => ORD.out e.symm) _ _ _ _ _ _ _ _ _ _
          have ofX5 : NF X5 b7 := by rw [hX5]; exact NF.put10 BF7.out _ _ _ _ _ _ _ _ _ _
          have r2X5 : X5.ownsRow 0 31 4 (.slice A4 n c4) L.length (prows L) := by
            rw [hX5]
            exact own_put10n R2.out (fun e => NE62.out e) _ _ _ _ _ _ _ _ _ _
          have r5X5 : X5.ownsRow 0 31 4 (.slice A6 n c6) L.length (prows L) := by
            rw [hX5]
            exact own_put10n R5.out (fun e => NE65.out e) _ _ _ _ _ _ _ _ _ _
          have ggX5 : Gr w1 X5 := by rw [hX5]; exact below_put10 GX4.out (LB6.out) _ _ _ _ _ _ _ _ _ _
          have HX5 := Lib.hid hX5
          have BN6 := Lib.hid nbX5
          have BN7 := Lib.hid obX5
          have BF7 := Lib.hid ofX5
          have R2 := Lib.hid r2X5
          have R5 := Lib.hid r5X5
          have GX5 := Lib.hid ggX5
          clear hX5 nbX5 obX5 ofX5 r2X5 r5X5 ggX5
          have hX5 := HX5.out
          unfold put10 at hX5
          rw [← hX5]
          clear hX5
          refine hK.out _ _ GX5.out (fun hx => ?_)
          clear hK K
          try simp only [Act.put, List.setIfInBounds_toArray, List.set_cons_zero, List.set_cons_succ]
          refine wpAnyH_ready (rs := [9]) (by kernel_rfl) (by simp) ?_
          refine AllReadyH.cons rfl (fun K hK => ?_)  AllReadyH.nil
          have hx := BN7.out
          have d0 := hx.1
          have d1 := hx.2.1
          have d2 := hx.2.2.1
          have d3 := hx.2.2.2.1
          have d4 := hx.2.2.2.2.1
          have d5 := hx.2.2.2.2.2.1
          have d6 := hx.2.2.2.2.2.2.1
          have d7 := hx.2.2.2.2.2.2.2.1
          have d8 := hx.2.2.2.2.2.2.2.2.1
          have d9 := hx.2.2.2.2.2.2.2.2.2
          have hy := BF7.out.2
          have y0 := hy.1
          have y1 := hy.2.1
          have y2 := hy.2.2.1
          have y3 := hy.2.2.2.1
          have y4 := hy.2.2.2.2.1
          have y5 := hy.2.2.2.2.2.1
          have y6 := hy.2.2.2.2.2.2.1
          have y7 := hy.2.2.2.2.2.2.2.1
          have y8 := hy.2.2.2.2.2.2.2.2.1
          have y9 := hy.2.2.2.2.2.2.2.2.2
          clear hx hy
          go_simp
          clear d0 d1 d2 d3 d4 d5 d6 d7 d8 d9 y0 y1 y2 y3 y4 y5 y6 y7 y8 y9
          obtain ⟨X6, hX6⟩ : ∃ Y, Y = put10 X5 b7 (.slice A6 n c6) (.int .i64 nx) (.int .i64 (sb 0)) (.int .i64 (sb 1)) (.int .i64 (sb 2)) (.int .i64 (sb 3)) (.int .i64 (sb 4)) (.int .i64 (sb 5)) (.int .i64 (sb 6)) (.int .i64 (sb 7)) := ⟨_, rfl⟩
          have nbX6 : NB X6 b7 (.slice A6 n c6) nx sb := by rw [hX6]; exact NB.put BN7.out _ _ _
          have obX6 : NB X6 b6 (.slice A4 n c4) nx sa := by rw [hX6]; exact NB.far10 (b := b7) BN6.out ORD.out _ _ _ _ _ _ _ _ _ _
          have r2X6 : X6.ownsRow 0 31 4 (.slice A4 n c4) L.length (prows L) := by
            rw [hX6]
            exact own_put10n R2.out (fun e => NE72.out e) _ _ _ _ _ _ _ _ _ _
          have r5X6 : X6.ownsRow 0 31 4 (.slice A6 n c6) L.length (prows L) := by
            rw [hX6]
            exact own_put10n R5.out (fun e => NE75.out e) _ _ _ _ _ _ _ _ _ _
          have ggX6 : Gr w1 X6 := by rw [hX6]; exact below_put10 GX5.out (LB7.out) _ _ _ _ _ _ _ _ _ _
          have HX6 := Lib.hid hX6
          have BN7 := Lib.hid nbX6
          have BN6 := Lib.hid obX6
          have R2 := Lib.hid r2X6
          have R5 := Lib.hid r5X6
          have GX6 := Lib.hid ggX6
          clear hX6 nbX6 obX6  r2X6 r5X6 ggX6
          have hX6 := HX6.out
          unfold put10 at hX6
          rw [← hX6]
          clear hX6
          refine hK.out _ _ GX6.out (fun hx => ?_)
          clear hK K
          try simp only [Act.put, List.setIfInBounds_toArray, List.set_cons_zero, List.set_cons_succ]
          refine wpAnyH_done (by kernel_rfl) ?_ _
          refine NoPanic.normal ?_
          have HFIN : Hid (SidesR L nx sa sb w1 (.pointer (some ⟨b6, 0, none⟩)) (.pointer (some ⟨b7, 0, none⟩)) X6) := Lib.hid ⟨b6, b7, _, _, rfl, rfl, BN6.out, BN7.out, PV.of_sl (own_sl R2.out), PV.of_sl (own_sl R5.out), GX6.out⟩
          go_wp2_with fail
          go_meet
          exact HFIN.out
        · go_simp
          obtain ⟨X3, hX3, gX3, nbX3, nfX3⟩ : ∃ Y, Y = X2.alloc (.cells #[.slice none 0 0, .int .i64 0, .int .i64 0, .int .i64 0, .int .i64 0, .int .i64 0, .int .i64 0, .int .i64 0, .int .i64 0, .int .i64 0] 25) ∧ Gr X2 Y ∧ NB Y X2.heap.size (.slice none 0 0) 0 zs ∧ NF Y X2.heap.size := ⟨_, rfl, gr_box _ _, NB.new _ _ _ zs, NF.new _ _ _ zs⟩
          have HX3 := Lib.hid hX3
          have EX3 := Lib.hid gX3
          have BN6 := Lib.hid nbX3
          have BF6 := Lib.hid nfX3
          clear hX3 gX3 nbX3 nfX3
          have SZ6 : Hid (X3.heap.size = X2.heap.size + 1) := Lib.hid (by go_light; rw [HX3.out]; simp)
          rw [← HX3.out]
          obtain ⟨b6, hb6⟩ : ∃ b, b = X2.heap.size := ⟨_, rfl⟩
          rw [← hb6] at BN6 BF6 SZ6 ⊢
          have BE6 := Lib.hid hb6
          clear hb6
          have GX3 := Lib.hid (GX2.out.trans EX3.out)
          have BN7 := Lib.hid (BN7.out.gr EX3.out)
          have BF7 := Lib.hid (BF7.out.gr EX3.out)
          have R2 := Lib.hid (own_gr R2.out EX3.out)
          refine hK.out _ _ GX3.out (fun hx => ?_)
          clear hK K
          try simp only [Act.put, List.setIfInBounds_toArray, List.set_cons_zero, List.set_cons_succ]
          refine wpAnyH_ready (rs := [5]) (by kernel_rfl) (by simp) ?_
          refine AllReadyH.cons rfl (fun K hK => ?_)  AllReadyH.nil
          go_simp
          refine (HP2.out _ (HG1.out.trans GX3.out)).mono ?_
          rintro e X4 ⟨v5, rfl, hown5, gX4⟩
          obtain ⟨A6, c6, hv5, -, -⟩ := hown5.form
          rw [← HN.out] at hv5
          subst hv5
          have R5 := Lib.hid hown5
          have EX4 := Lib.hid gX4
          have LO5 := Lib.hid (fun g hg => (World.ownsRow.lt hown5 g hg))
          have SE5 := Lib.hid gX4.size
          clear hown5 gX4
          go_wp2_with fail
          have GX4 := Lib.hid (GX3.out.trans EX4.out)
          have BN6 := Lib.hid (BN6.out.gr EX4.out)
          have BF6 := Lib.hid (BF6.out.gr EX4.out)
          have BN7 := Lib.hid (BN7.out.gr EX4.out)
          have BF7 := Lib.hid (BF7.out.gr EX4.out)
          have R2 := Lib.hid (own_gr R2.out EX4.out)
          have R5 : Hid (X4.ownsRow 0 31 4 (.slice A6 n c6) L.length (prows L)) := Lib.hid (own_le R5.out (Nat.zero_le _))
          refine hK.out _ _ GX4.out (fun hx => ?_)
          clear hK K
          try simp only [Act.put, List.setIfInBounds_toArray, List.set_cons_zero, List.set_cons_succ]
          have ORD : Hid (b6 ≠ b7) := Lib.hid (by
            go_light
            have := EX1.out.size
            have := EX2.out.size
            have := EX3.out.size
            have := EX4.out.size
            have := SZ6.out
            have := SZ7.out
            have := BE6.out
            have := BE7.out
            omega)
          have NE62 : Hid ((Value.slice A4 n c4).ownBlock ≠ some b6) := Lib.hid (by
            go_light
            intro e
            have := LO2.out _ e
            have := EX1.out.size
            have := EX2.out.size
            have := EX3.out.size
            have := EX4.out.size
            have := SZ6.out
            have := SZ7.out
            have := BE6.out
            have := BE7.out
            omega)
          have NE65 : Hid ((Value.slice A6 n c6).ownBlock ≠ some b6) := Lib.hid (by
            go_light
            intro e
            have := LO5.out _ e
            have := EX1.out.size
            have := EX2.out.size
            have := EX3.out.size
            have := EX4.out.size
            have := SZ6.out
            have := SZ7.out
            have := BE6.out
            have := BE7.out
            omega)
          have LB6 : Hid (w1.heap.size ≤ b6) := Lib.hid (by
            go_light
            have := GX0.out.size
            have := EX1.out.size
            have := EX2.out.size
            have := EX3.out.size
            have := EX4.out.size
            have := BE6.out
            omega)
          have NE72 : Hid ((Value.slice A4 n c4).ownBlock ≠ some b7) := Lib.hid (by
            go_light
            intro e
            have := LO2.out _ e
            have := EX1.out.size
            have := EX2.out.size
            have := EX3.out.size
            have := EX4.out.size
            have := SZ6.out
            have := SZ7.out
            have := BE6.out
            have := BE7.out
            omega)
          have NE75 : Hid ((Value.slice A6 n c6).ownBlock ≠ some b7) := Lib.hid (by
            go_light
            intro e
            have := LO5.out _ e
            have := EX1.out.size
            have := EX2.out.size
            have := EX3.out.size
            have := EX4.out.size
            have := SZ6.out
            have := SZ7.out
            have := BE6.out
            have := BE7.out
            omega)
          have LB7 : Hid (w1.heap.size ≤ b7) := Lib.hid (by
            go_light
            have := GX0.out.size
            have := EX1.out.size
            have := EX2.out.size
            have := EX3.out.size
            have := EX4.out.size
            have := BE7.out
            omega)
          refine wpAnyH_ready (rs := [8]) (by kernel_rfl) (by simp) ?_
          refine AllReadyH.cons rfl (fun K hK => ?_)  AllReadyH.nil
          have hx := BN6.out
          have d0 := hx.1
          have d1 := hx.2.1
          have d2 := hx.2.2.1
          have d3 := hx.2.2.2.1
          have d4 := hx.2.2.2.2.1
          have d5 := hx.2.2.2.2.2.1
          have d6 := hx.2.2.2.2.2.2.1
          have d7 := hx.2.2.2.2.2.2.2.1
          have d8 := hx.2.2.2.2.2.2.2.2.1
          have d9 := hx.2.2.2.2.2.2.2.2.2
          have hy := BF6.out.2
          have y0 := hy.1
          have y1 := hy.2.1
          have y2 := hy.2.2.1
          have y3 := hy.2.2.2.1
          have y4 := hy.2.2.2.2.1
          have y5 := hy.2.2.2.2.2.1
          have y6 := hy.2.2.2.2.2.2.1
          have y7 := hy.2.2.2.2.2.2.2.1
          have y8 := hy.2.2.2.2.2.2.2.2.1
          have y9 := hy.2.2.2.2.2.2.2.2.2
          clear hx hy
          go_simp
          clear d0 d1 d2 d3 d4 d5 d6 d7 d8 d9 y0 y1 y2 y3 y4 y5 y6 y7 y8 y9
          obtain ⟨X5, hX5⟩ : ∃ Y, Y = put10 X4 b6 (.slice A4 n c4) (.int .i64 nx) (.int .i64 (sa 0)) (.int .i64 (sa 1)) (.int .i64 (sa 2)) (.int .i64 (sa 3)) (.int .i64 (sa 4)) (.int .i64 (sa 5)) (.int .i64 (sa 6)) (.int .i64 (sa 7)) := ⟨_, rfl⟩
          have nbX5 : NB X5 b6 (.slice A4 n c4) nx sa := by rw [hX5]; exact NB.put BN6.out _ _ _
          have obX5 : NB X5 b7 (.slice none 0 0) 0 zs := by rw [hX5]; exact NB.far10 (b := b6) BN7.out (fun e => ORD.out e.symm) _ _ _ _ _ _ _ _ _ _
          have ofX5 : NF X5 b7 := by rw [hX5]; exact NF.put10 BF7.out _ _ _ _ _ _ _ _ _ _
          have r2X5 : X5.ownsRow 0 31 4 (.slice A4 n c4) L.length (prows L) := by
            rw [hX5]
            exact own_put10n R2.out (fun e => NE62.out e) _ _ _ _ _ _ _ _ _ _
          have r5X5 : X5.ownsRow 0 31 4 (.slice A6 n c6) L.length (prows L) := by
            rw [hX5]
            exact own_put10n R5.out (fun e => NE65.out e) _ _ _ _ _ _ _ _ _ _
          have ggX5 : Gr w1 X5 := by rw [hX5]; exact below_put10 GX4.out (LB6.out) _ _ _ _ _ _ _ _ _ _
          have HX5 := Lib.hid hX5
          have BN6 := Lib.hid nbX5
          have BN7 := Lib.hid obX5
          have BF7 := Lib.hid ofX5
          have R2 := Lib.hid r2X5
          have R5 := Lib.hid r5X5
          have GX5 := Lib.hid ggX5
          clear hX5 nbX5 obX5 ofX5 r2X5 r5X5 ggX5
          have hX5 := HX5.out
          unfold put10 at hX5
          rw [← hX5]
          clear hX5
          refine hK.out _ _ GX5.out (fun hx => ?_)
          clear hK K
          try simp only [Act.put, List.setIfInBounds_toArray, List.set_cons_zero, List.set_cons_succ]
          refine wpAnyH_ready (rs := [9]) (by kernel_rfl) (by simp) ?_
          refine AllReadyH.cons rfl (fun K hK => ?_)  AllReadyH.nil
          have hx := BN7.out
          have d0 := hx.1
          have d1 := hx.2.1
          have d2 := hx.2.2.1
          have d3 := hx.2.2.2.1
          have d4 := hx.2.2.2.2.1
          have d5 := hx.2.2.2.2.2.1
          have d6 := hx.2.2.2.2.2.2.1
          have d7 := hx.2.2.2.2.2.2.2.1
          have d8 := hx.2.2.2.2.2.2.2.2.1
          have d9 := hx.2.2.2.2.2.2.2.2.2
          have hy := BF7.out.2
          have y0 := hy.1
          have y1 := hy.2.1
          have y2 := hy.2.2.1
          have y3 := hy.2.2.2.1
          have y4 := hy.2.2.2.2.1
          have y5 := hy.2.2.2.2.2.1
          have y6 := hy.2.2.2.2.2.2.1
          have y7 := hy.2.2.2.2.2.2.2.1
          have y8 := hy.2.2.2.2.2.2.2.2.1
          have y9 := hy.2.2.2.2.2.2.2.2.2
          clear hx hy
          go_simp
          clear d0 d1 d2 d3 d4 d5 d6 d7 d8 d9 y0 y1 y2 y3 y4 y5 y6 y7 y8 y9
          obtain ⟨X6, hX6⟩ : ∃ Y, Y = put10 X5 b7 (.slice A6 n c6) (.int .i64 nx) (.int .i64 (sb 0)) (.int .i64 (sb 1)) (.int .i64 (sb 2)) (.int .i64 (sb 3)) (.int .i64 (sb 4)) (.int .i64 (sb 5)) (.int .i64 (sb 6)) (.int .i64 (sb 7)) := ⟨_, rfl⟩
          have nbX6 : NB X6 b7 (.slice A6 n c6) nx sb := by rw [hX6]; exact NB.put BN7.out _ _ _
          have obX6 : NB X6 b6 (.slice A4 n c4) nx sa := by rw [hX6]; exact NB.far10 (b := b7) BN6.out ORD.out _ _ _ _ _ _ _ _ _ _
          have r2X6 : X6.ownsRow 0 31 4 (.slice A4 n c4) L.length (prows L) := by
            rw [hX6]
            exact own_put10n R2.out (fun e => NE72.out e) _ _ _ _ _ _ _ _ _ _
          have r5X6 : X6.ownsRow 0 31 4 (.slice A6 n c6) L.length (prows L) := by
            rw [hX6]
            exact own_put10n R5.out (fun e => NE75.out e) _ _ _ _ _ _ _ _ _ _
          have ggX6 : Gr w1 X6 := by rw [hX6]; exact below_put10 GX5.out (LB7.out) _ _ _ _ _ _ _ _ _ _
          have HX6 := Lib.hid hX6
          have BN7 := Lib.hid nbX6
          have BN6 := Lib.hid obX6
          have R2 := Lib.hid r2X6
          have R5 := Lib.hid r5X6
          have GX6 := Lib.hid ggX6
          clear hX6 nbX6 obX6  r2X6 r5X6 ggX6
          have hX6 := HX6.out
          unfold put10 at hX6
          rw [← hX6]
          clear hX6
          refine hK.out _ _ GX6.out (fun hx => ?_)
          clear hK K
          try simp only [Act.put, List.setIfInBounds_toArray, List.set_cons_zero, List.set_cons_succ]
          refine wpAnyH_done (by kernel_rfl) ?_ _
          refine NoPanic.normal ?_
          have HFIN : Hid (SidesR L nx sa sb w1 (.pointer (some ⟨b6, 0, none⟩)) (.pointer (some ⟨b7, 0, none⟩)) X6) := Lib.hid ⟨b6, b7, _, _, rfl, rfl, BN6.out, BN7.out, PV.of_sl (own_sl R2.out), PV.of_sl (own_sl R5.out), GX6.out⟩
          go_wp2_with fail
          go_meet
          exact HFIN.out
      · go_simp
        obtain ⟨X2, hX2, gX2, nbX2, nfX2⟩ : ∃ Y, Y = X1.alloc (.cells #[.slice none 0 0, .int .i64 0, .int .i64 0, .int .i64 0, .int .i64 0, .int .i64 0, .int .i64 0, .int .i64 0, .int .i64 0, .int .i64 0] 25) ∧ Gr X1 Y ∧ NB Y X1.heap.size (.slice none 0 0) 0 zs ∧ NF Y X1.heap.size := ⟨_, rfl, gr_box _ _, NB.new _ _ _ zs, NF.new _ _ _ zs⟩
        have HX2 := Lib.hid hX2
        have EX2 := Lib.hid gX2
        have BN6 := Lib.hid nbX2
        have BF6 := Lib.hid nfX2
        clear hX2 gX2 nbX2 nfX2
        have SZ6 : Hid (X2.heap.size = X1.heap.size + 1) := Lib.hid (by go_light; rw [HX2.out]; simp)
        rw [← HX2.out]
        obtain ⟨b6, hb6⟩ : ∃ b, b = X1.heap.size := ⟨_, rfl⟩
        rw [← hb6] at BN6 BF6 SZ6 ⊢
        have BE6 := Lib.hid hb6
        clear hb6
        have GX2 := Lib.hid (GX1.out.trans EX2.out)
        have BN7 := Lib.hid (BN7.out.gr EX2.out)
        have BF7 := Lib.hid (BF7.out.gr EX2.out)
        refine hK.out _ _ GX2.out (fun hx => ?_)
        clear hK K
        try simp only [Act.put, List.setIfInBounds_toArray, List.set_cons_zero, List.set_cons_succ]
        refine wpAnyH_ready (rs := [2]) (by kernel_rfl) (by simp) ?_
        refine AllReadyH.cons rfl (fun K hK => ?_)  AllReadyH.nil
        go_simp
        refine (HP1.out _ (HG1.out.trans GX2.out)).mono ?_
        rintro e X3 ⟨v2, rfl, hown2, gX3⟩
        obtain ⟨A4, c4, hv2, -, -⟩ := hown2.form
        rw [← HN.out] at hv2
        subst hv2
        have R2 := Lib.hid hown2
        have EX3 := Lib.hid gX3
        have LO2 := Lib.hid (fun g hg => (World.ownsRow.lt hown2 g hg))
        have SE2 := Lib.hid gX3.size
        clear hown2 gX3
        go_wp2_with fail
        have GX3 := Lib.hid (GX2.out.trans EX3.out)
        have BN6 := Lib.hid (BN6.out.gr EX3.out)
        have BF6 := Lib.hid (BF6.out.gr EX3.out)
        have BN7 := Lib.hid (BN7.out.gr EX3.out)
        have BF7 := Lib.hid (BF7.out.gr EX3.out)
        have R2 : Hid (X3.ownsRow 0 31 4 (.slice A4 n c4) L.length (prows L)) := Lib.hid (own_le R2.out (Nat.zero_le _))
        refine hK.out _ _ GX3.out (fun hx => ?_)
        clear hK K
        try simp only [Act.put, List.setIfInBounds_toArray, List.set_cons_zero, List.set_cons_succ]
        refine wpAnyH_ready (rs := [5]) (by kernel_rfl) (by simp) ?_
        refine AllReadyH.cons rfl (fun K hK => ?_)  AllReadyH.nil
        go_simp
        refine (HP2.out _ (HG1.out.trans GX3.out)).mono ?_
        rintro e X4 ⟨v5, rfl, hown5, gX4⟩
        obtain ⟨A6, c6, hv5, -, -⟩ := hown5.form
        rw [← HN.out] at hv5
        subst hv5
        have R5 := Lib.hid hown5
        have EX4 := Lib.hid gX4
        have LO5 := Lib.hid (fun g hg => (World.ownsRow.lt hown5 g hg))
        have SE5 := Lib.hid gX4.size
        clear hown5 gX4
        go_wp2_with fail
        have GX4 := Lib.hid (GX3.out.trans EX4.out)
        have BN6 := Lib.hid (BN6.out.gr EX4.out)
        have BF6 := Lib.hid (BF6.out.gr EX4.out)
        have BN7 := Lib.hid (BN7.out.gr EX4.out)
        have BF7 := Lib.hid (BF7.out.gr EX4.out)
        have R2 := Lib.hid (own_gr R2.out EX4.out)
        have R5 : Hid (X4.ownsRow 0 31 4 (.slice A6 n c6) L.length (prows L)) := Lib.hid (own_le R5.out (Nat.zero_le _))
        refine hK.out _ _ GX4.out (fun hx => ?_)
        clear hK K
        try simp only [Act.put, List.setIfInBounds_toArray, List.set_cons_zero, List.set_cons_succ]
        have ORD : Hid (b6 ≠ b7) := Lib.hid (by
          go_light
          have := EX1.out.size
          have := EX2.out.size
          have := EX3.out.size
          have := EX4.out.size
          have := SZ6.out
          have := SZ7.out
          have := BE6.out
          have := BE7.out
          omega)
        have NE62 : Hid ((Value.slice A4 n c4).ownBlock ≠ some b6) := Lib.hid (by
          go_light
          intro e
          have := LO2.out _ e
          have := EX1.out.size
          have := EX2.out.size
          have := EX3.out.size
          have := EX4.out.size
          have := SZ6.out
          have := SZ7.out
          have := BE6.out
          have := BE7.out
          omega)
        have NE65 : Hid ((Value.slice A6 n c6).ownBlock ≠ some b6) := Lib.hid (by
          go_light
          intro e
          have := LO5.out _ e
          have := EX1.out.size
          have := EX2.out.size
          have := EX3.out.size
          have := EX4.out.size
          have := SZ6.out
          have := SZ7.out
          have := BE6.out
          have := BE7.out
          omega)
        have LB6 : Hid (w1.heap.size ≤ b6) := Lib.hid (by
          go_light
          have := GX0.out.size
          have := EX1.out.size
          have := EX2.out.size
          have := EX3.out.size
          have := EX4.out.size
          have := BE6.out
          omega)
        have NE72 : Hid ((Value.slice A4 n c4).ownBlock ≠ some b7) := Lib.hid (by
          go_light
          intro e
          have := LO2.out _ e
          have := EX1.out.size
          have := EX2.out.size
          have := EX3.out.size
          have := EX4.out.size
          have := SZ6.out
          have := SZ7.out
          have := BE6.out
          have := BE7.out
          omega)
        have NE75 : Hid ((Value.slice A6 n c6).ownBlock ≠ some b7) := Lib.hid (by
          go_light
          intro e
          have := LO5.out _ e
          have := EX1.out.size
          have := EX2.out.size
          have := EX3.out.size
          have := EX4.out.size
          have := SZ6.out
          have := SZ7.out
          have := BE6.out
          have := BE7.out
          omega)
        have LB7 : Hid (w1.heap.size ≤ b7) := Lib.hid (by
          go_light
          have := GX0.out.size
          have := EX1.out.size
          have := EX2.out.size
          have := EX3.out.size
          have := EX4.out.size
          have := BE7.out
          omega)
        refine wpAnyH_ready (rs := [8]) (by kernel_rfl) (by simp) ?_
        refine AllReadyH.cons rfl (fun K hK => ?_)  AllReadyH.nil
        have hx := BN6.out
        have d0 := hx.1
        have d1 := hx.2.1
        have d2 := hx.2.2.1
        have d3 := hx.2.2.2.1
        have d4 := hx.2.2.2.2.1
        have d5 := hx.2.2.2.2.2.1
        have d6 := hx.2.2.2.2.2.2.1
        have d7 := hx.2.2.2.2.2.2.2.1
        have d8 := hx.2.2.2.2.2.2.2.2.1
        have d9 := hx.2.2.2.2.2.2.2.2.2
        have hy := BF6.out.2
        have y0 := hy.1
        have y1 := hy.2.1
        have y2 := hy.2.2.1
        have y3 := hy.2.2.2.1
        have y4 := hy.2.2.2.2.1
        have y5 := hy.2.2.2.2.2.1
        have y6 := hy.2.2.2.2.2.2.1
        have y7 := hy.2.2.2.2.2.2.2.1
        have y8 := hy.2.2.2.2.2.2.2.2.1
        have y9 := hy.2.2.2.2.2.2.2.2.2
        clear hx hy
        go_simp
        clear d0 d1 d2 d3 d4 d5 d6 d7 d8 d9 y0 y1 y2 y3 y4 y5 y6 y7 y8 y9
        obtain ⟨X5, hX5⟩ : ∃ Y, Y = put10 X4 b6 (.slice A4 n c4) (.int .i64 nx) (.int .i64 (sa 0)) (.int .i64 (sa 1)) (.int .i64 (sa 2)) (.int .i64 (sa 3)) (.int .i64 (sa 4)) (.int .i64 (sa 5)) (.int .i64 (sa 6)) (.int .i64 (sa 7)) := ⟨_, rfl⟩
        have nbX5 : NB X5 b6 (.slice A4 n c4) nx sa := by rw [hX5]; exact NB.put BN6.out _ _ _
        have obX5 : NB X5 b7 (.slice none 0 0) 0 zs := by rw [hX5]; exact NB.far10 (b := b6) BN7.out (fun e => ORD.out e.symm) _ _ _ _ _ _ _ _ _ _
        have ofX5 : NF X5 b7 := by rw [hX5]; exact NF.put10 BF7.out _ _ _ _ _ _ _ _ _ _
        have r2X5 : X5.ownsRow 0 31 4 (.slice A4 n c4) L.length (prows L) := by
          rw [hX5]
          exact own_put10n R2.out (fun e => NE62.out e) _ _ _ _ _ _ _ _ _ _
        have r5X5 : X5.ownsRow 0 31 4 (.slice A6 n c6) L.length (prows L) := by
          rw [hX5]
          exact own_put10n R5.out (fun e => NE65.out e) _ _ _ _ _ _ _ _ _ _
        have ggX5 : Gr w1 X5 := by rw [hX5]; exact below_put10 GX4.out (LB6.out) _ _ _ _ _ _ _ _ _ _
        have HX5 := Lib.hid hX5
        have BN6 := Lib.hid nbX5
        have BN7 := Lib.hid obX5
        have BF7 := Lib.hid ofX5
        have R2 := Lib.hid r2X5
        have R5 := Lib.hid r5X5
        have GX5 := Lib.hid ggX5
        clear hX5 nbX5 obX5 ofX5 r2X5 r5X5 ggX5
        have hX5 := HX5.out
        unfold put10 at hX5
        rw [← hX5]
        clear hX5
        refine hK.out _ _ GX5.out (fun hx => ?_)
        clear hK K
        try simp only [Act.put, List.setIfInBounds_toArray, List.set_cons_zero, List.set_cons_succ]
        refine wpAnyH_ready (rs := [9]) (by kernel_rfl) (by simp) ?_
        refine AllReadyH.cons rfl (fun K hK => ?_)  AllReadyH.nil
        have hx := BN7.out
        have d0 := hx.1
        have d1 := hx.2.1
        have d2 := hx.2.2.1
        have d3 := hx.2.2.2.1
        have d4 := hx.2.2.2.2.1
        have d5 := hx.2.2.2.2.2.1
        have d6 := hx.2.2.2.2.2.2.1
        have d7 := hx.2.2.2.2.2.2.2.1
        have d8 := hx.2.2.2.2.2.2.2.2.1
        have d9 := hx.2.2.2.2.2.2.2.2.2
        have hy := BF7.out.2
        have y0 := hy.1
        have y1 := hy.2.1
        have y2 := hy.2.2.1
        have y3 := hy.2.2.2.1
        have y4 := hy.2.2.2.2.1
        have y5 := hy.2.2.2.2.2.1
        have y6 := hy.2.2.2.2.2.2.1
        have y7 := hy.2.2.2.2.2.2.2.1
        have y8 := hy.2.2.2.2.2.2.2.2.1
        have y9 := hy.2.2.2.2.2.2.2.2.2
        clear hx hy
        go_simp
        clear d0 d1 d2 d3 d4 d5 d6 d7 d8 d9 y0 y1 y2 y3 y4 y5 y6 y7 y8 y9
        obtain ⟨X6, hX6⟩ : ∃ Y, Y = put10 X5 b7 (.slice A6 n c6) (.int .i64 nx) (.int .i64 (sb 0)) (.int .i64 (sb 1)) (.int .i64 (sb 2)) (.int .i64 (sb 3)) (.int .i64 (sb 4)) (.int .i64 (sb 5)) (.int .i64 (sb 6)) (.int .i64 (sb 7)) := ⟨_, rfl⟩
        have nbX6 : NB X6 b7 (.slice A6 n c6) nx sb := by rw [hX6]; exact NB.put BN7.out _ _ _
        have obX6 : NB X6 b6 (.slice A4 n c4) nx sa := by rw [hX6]; exact NB.far10 (b := b7) BN6.out ORD.out _ _ _ _ _ _ _ _ _ _
        have r2X6 : X6.ownsRow 0 31 4 (.slice A4 n c4) L.length (prows L) := by
          rw [hX6]
          exact own_put10n R2.out (fun e => NE72.out e) _ _ _ _ _ _ _ _ _ _
        have r5X6 : X6.ownsRow 0 31 4 (.slice A6 n c6) L.length (prows L) := by
          rw [hX6]
          exact own_put10n R5.out (fun e => NE75.out e) _ _ _ _ _ _ _ _ _ _
        have ggX6 : Gr w1 X6 := by rw [hX6]; exact below_put10 GX5.out (LB7.out) _ _ _ _ _ _ _ _ _ _
        have HX6 := Lib.hid hX6
        have BN7 := Lib.hid nbX6
        have BN6 := Lib.hid obX6
        have R2 := Lib.hid r2X6
        have R5 := Lib.hid r5X6
        have GX6 := Lib.hid ggX6
        clear hX6 nbX6 obX6  r2X6 r5X6 ggX6
        have hX6 := HX6.out
        unfold put10 at hX6
        rw [← hX6]
        clear hX6
        refine hK.out _ _ GX6.out (fun hx => ?_)
        clear hK K
        try simp only [Act.put, List.setIfInBounds_toArray, List.set_cons_zero, List.set_cons_succ]
        refine wpAnyH_done (by kernel_rfl) ?_ _
        refine NoPanic.normal ?_
        have HFIN : Hid (SidesR L nx sa sb w1 (.pointer (some ⟨b6, 0, none⟩)) (.pointer (some ⟨b7, 0, none⟩)) X6) := Lib.hid ⟨b6, b7, _, _, rfl, rfl, BN6.out, BN7.out, PV.of_sl (own_sl R2.out), PV.of_sl (own_sl R5.out), GX6.out⟩
        go_wp2_with fail
        go_meet
        exact HFIN.out
  case rest =>
    obtain ⟨b5, b6, v5, v6, rfl, rfl, hN5, hN6, hP5, hP6, hgc⟩ := hcut
    obtain ⟨A5, c5, hv5, hl5, ⟨hm5, -⟩, hQ5⟩ := id hP5
    obtain ⟨A6, c6, hv6, -, -, -⟩ := id hP6
    unfold maxLen at hm5
    rw [← HN.out] at hv5 hv6 hl5
    subst hv5 hv6
    have HN5 := Lib.hid hN5
    have HN6 := Lib.hid hN6
    have HP5 := Lib.hid hP5
    have HP6 := Lib.hid hP6
    have HQ5 := Lib.hid hQ5
    have HGC := Lib.hid hgc
    have HNc := Lib.hid (HNB1.out.gr hgc)
    have a0 := hN5.1
    have a1 := hN5.2.1
    have c0 := HNc.out.1
    have c1' := HNc.out.2.1
    clear hN5 hN6 hP5 hP6 hgc hQ5
    go_wp2_with fail
    clear a0 a1 c0 c1'
    go_loopw [7, 8] (fun t i wr => SidesRel L wc t i wr) (fun _ i _ => n - (intOf i).toNat)
    case atStart => exact ⟨0, Nat.zero_le _, rfl, rfl, Gr.refl _⟩
    case round =>
      obtain ⟨k, hk, rfl, rfl, hgr⟩ := hrel
      rw [← HN.out] at hk
      have HGR := Lib.hid hgr
      have c0 := (HNc.out.gr hgr).1
      clear hgr
      by_cases hlt : k < n
      · have hkL : k < L.length := by rw [← HN.out]; exact hlt
        obtain ⟨pb, po, rfl, q0, q1, q2, q3⟩ := HPC.out k hkL
        obtain ⟨rb, ro, rfl, r0, r1, r2, r3⟩ := HQ5.out k hkL
        have HY := Lib.hid (btw_yes hkL)
        have HX := Lib.hid (btw_no hkL)
        obtain ⟨p, hp⟩ : ∃ p, p = L[k] := ⟨_, rfl⟩
        rw [← hp] at q0 q1 q2 q3 r0 r1 r2 r3 HY HX
        have GB := (HG1.out.trans HGC.out).trans HGR.out
        replace q0 := GB.cell q0
        replace q1 := GB.cell q1
        replace q2 := GB.cell q2
        replace q3 := GB.cell q3
        have G4 := gr_box wr (.cells (pcells p) 31)
        replace r0 := G4.cell (HGR.out.cell r0)
        replace r1 := G4.cell (HGR.out.cell r1)
        replace r2 := G4.cell (HGR.out.cell r2)
        replace r3 := G4.cell (HGR.out.cell r3)
        have a0 := G4.cell (HN5.out.gr HGR.out).1
        obtain ⟨p0', p1', p2', p3'⟩ := PB.new wr p
        obtain ⟨W4, hW4⟩ : ∃ W4, W4 = wr.alloc (.cells (pcells p) 31) := ⟨_, rfl⟩
        rw [← hW4] at r0 r1 r2 r3 a0 p0' p1' p2' p3' G4
        have HG4 := Lib.hid G4
        have HW4 := Lib.hid hW4
        have he := fun w => equal_p p w
        have hk0 : (0 : Int) ≤ (k : Int) := Int.natCast_nonneg _
        have hk1 : (k : Int) < (n : Int) := by omega
        have hbl : btw L k ≤ k := btw_le L k
        obtain ⟨t, ht⟩ : ∃ t, t = btw L k := ⟨_, rfl⟩
        rw [← ht] at HY HX hbl ⊢
        clear hp GB G4 hW4 hkL ht
        go_upto_region 11 with (fail)
        rw [← HW4.out]
        clear q0 q1 q2 q3 c0
        go_quiet (fail)
        obtain ⟨W5, hW5, G5⟩ : ∃ W5, W5 = W4.drewN nq ∧ Gr W4 W5 := ⟨_, rfl, (Gr.refl _).drewN _⟩
        have p1 := G5.cell p1'
        have p2 := G5.cell p2'
        have HG5 := Lib.hid (HG4.out.trans G5)
        rw [← hW5]
        clear r0 r1 r2 r3 a0 he p0' p1' p2' p3' hW5 G5
        rcases Decidable.em (¬ (0 ≤ p.src)) with h1 | h1
        · have hb : both p = false := by unfold both; rw [mem_no (by omega)]; rfl
          have HX := Lib.hid (HX.out hb)
          have d1 : decide ((0 : Int) ≤ p.src) = false := decide_eq_false h1
          clear hb h1
          go_wp2_with fail
          go_roundw
          case rel => exact ⟨k + 1, by rw [← HN.out]; omega, by go_num, by rw [HX.out], HGR.out.trans HG5.out⟩
          case measure => simp [intOf]; omega
        replace h1 := Decidable.not_not.1 h1
        have d1 : decide ((0 : Int) ≤ p.src) = true := decide_eq_true h1
        rcases Decidable.em (¬ (p.src < 8)) with h2 | h2
        · have hb : both p = false := by unfold both; rw [mem_no (by omega)]; rfl
          have HX := Lib.hid (HX.out hb)
          have d2 : decide (p.src < (8 : Int)) = false := decide_eq_false h2
          clear hb h2
          go_wp2_with fail
          go_roundw
          case rel => exact ⟨k + 1, by rw [← HN.out]; omega, by go_num, by rw [HX.out], HGR.out.trans HG5.out⟩
          case measure => simp [intOf]; omega
        replace h2 := Decidable.not_not.1 h2
        have d2 : decide (p.src < (8 : Int)) = true := decide_eq_true h2
        rcases Decidable.em (¬ (0 ≤ p.dst)) with h3 | h3
        · have hb : both p = false := by unfold both; rw [mem_no (i := p.dst) (by omega), Bool.and_false]
          have HX := Lib.hid (HX.out hb)
          have d3 : decide ((0 : Int) ≤ p.dst) = false := decide_eq_false h3
          clear hb h3
          go_wp2_with fail
          go_roundw
          case rel => exact ⟨k + 1, by rw [← HN.out]; omega, by go_num, by rw [HX.out], HGR.out.trans HG5.out⟩
          case measure => simp [intOf]; omega
        replace h3 := Decidable.not_not.1 h3
        have d3 : decide ((0 : Int) ≤ p.dst) = true := decide_eq_true h3
        rcases Decidable.em (¬ (p.dst < 8)) with h4 | h4
        · have hb : both p = false := by unfold both; rw [mem_no (i := p.dst) (by omega), Bool.and_false]
          have HX := Lib.hid (HX.out hb)
          have d4 : decide (p.dst < (8 : Int)) = false := decide_eq_false h4
          clear hb h4
          go_wp2_with fail
          go_roundw
          case rel => exact ⟨k + 1, by rw [← HN.out]; omega, by go_num, by rw [HX.out], HGR.out.trans HG5.out⟩
          case measure => simp [intOf]; omega
        replace h4 := Decidable.not_not.1 h4
        have d4 : decide (p.dst < (8 : Int)) = true := decide_eq_true h4
        have hb : both p = true := by unfold both; rw [mem_yes (by omega), mem_yes (by omega)]; rfl
        have HY := Lib.hid (HY.out hb)
        clear hb
        go_wp2_with fail
        go_roundw
        case rel => exact ⟨k + 1, by rw [← HN.out]; omega, by go_num, by rw [HY.out]; go_num, HGR.out.trans HG5.out⟩
        case measure => simp [intOf]; omega
      · have hkn : k = n := by omega
        have hbt : btw L k = btw L L.length := by rw [hkn, HN.out]
        have HBT := Lib.hid hbt
        have HN6r := HN6.out.gr HGR.out
        obtain ⟨b0, b1, b2, b3, b4, b5', b6', b7, b8, b9⟩ := HN6r
        have hbl : btw L k ≤ n := by rw [hbt, HN.out]; exact HBL.out
        obtain ⟨t, ht⟩ : ∃ t, t = btw L k := ⟨_, rfl⟩
        rw [← ht] at HBT hbl ⊢
        clear hbt ht
        go_wp2_with fail
        clear b0 b1 b2 b3 b4 b5' b6' b7 b8 b9 c0
        refine (HR.out _ _ _ (HP6.out.gr HGR.out)).mono ?_
        rintro e w5 ⟨v7, rfl, hO7, g5⟩
        obtain ⟨A7, c7, hv7, -, hc7⟩ := own_form hO7
        rw [HB1.out, ← HBT.out] at hv7
        subst hv7
        obtain ⟨a0, a1, a2, a3, a4, a5, a6, a7, a8, a9⟩ := HN5.out.gr (HGR.out.trans g5)
        have HG5 := Lib.hid (HGR.out.trans g5)
        clear hO7 g5
        go_wp2_with fail
        clear a0 a1 a2 a3 a4 a5 a6 a7 a8 a9
        refine (HR.out _ _ _ (HP5.out.gr HG5.out)).mono ?_
        rintro e w6 ⟨v8, rfl, hO8, g6⟩
        obtain ⟨A8, c8, hv8, -, hc8⟩ := own_form hO8
        obtain ⟨m8, hm8⟩ : ∃ m, m = (rdyTo sa L L.length).length := ⟨_, rfl⟩
        rw [← hm8] at hv8
        subst hv8
        have hle : (m8 : Int) ≤ (t : Int) := by
          have := HB2.out
          rw [← hm8, ← HBT.out] at this
          omega
        clear hO8 hm8
        go_wp2
        go_ret
        exact ⟨rfl, ((HG1.out.trans HGC.out).trans HG5.out).trans g6⟩
end Go.Proofs.Ytfmfeokjnkbpeaa.Wi
