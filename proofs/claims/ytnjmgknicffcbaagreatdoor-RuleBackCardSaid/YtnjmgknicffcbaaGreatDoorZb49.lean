/- Walks: the program's Holds. -/
import Derived.Test.YtnjmgknicffcbaaGreatDoorZb48
import Derived.Test.YtnjmgknicffcbaaGreatDoorZb13
import Derived.Test.YtnjmgknicffcbaaGreatDoorZb25
namespace Go.Proofs.YtnjmgknicffcbaaGreatDoor
open Go.RowKit Go.Joins
set_option linter.unusedSimpArgs false
set_option linter.unusedVariables false

theorem start_wrap {L : List RU} (h : checkC L = 0) : ∀ x ∈ L, wrap64 x.start = x.start := fun x hx => by
  have := (line_ok h x hx).start
  unfold PV.inA at this
  unfold wrap64
  omega
theorem key_small {L : List RU} (h : checkC L = 0) : ∀ x ∈ L, x.key.size ≤ maxLen ∧ x.other.size ≤ maxLen := fun x hx => by
  have h1 := (line_ok h x hx).key.1
  have h2 := (line_ok h x hx).other.1
  rw [Array.length_toList] at h1 h2
  have h1 : x.key.size ≤ 32 := h1
  have h2 : x.other.size ≤ 32 := h2
  unfold maxLen
  omega
/-- What the rounds of Holds leave. -/
structure HoR (L : List RU) (l : LG) (v : Nat → Nat) (M : Nat) (r : S3) (u : Nat → S3) (w4 : World) (j : Nat) (wr : World) : Prop where
  told : ∃ n, n ≤ 2 * j ∧ Told L l v w4.heap.size M n wr
  gr : Gr w4 wr
  box : SgB wr (M + 1) r u v M
  lt : M + 1 < wr.heap.size
theorem HoR.next {L : List RU} {l : LG} {v : Nat → Nat} {M : Nat} {r : S3} {u : Nat → S3} {w4 : World} {j : Nat} {wr w' : World} (h : HoR L l v M r u w4 j wr) (g : Gr wr w') : HoR L l v M r u w4 j w' :=
  ⟨by obtain ⟨n, h1, h2⟩ := h.told; exact ⟨n, h1, h2.gr g⟩, h.gr.trans g, h.box.gr g, Nat.lt_of_lt_of_le h.lt g.size⟩
theorem all_upto {α : Type} {p : α → Bool} {L : List α} (h : ∀ j (hj : j < L.length), p L[j] = true) : L.all p = true := by
  refine List.all_eq_true.2 fun x hx => ?_
  obtain ⟨j, hj, rfl⟩ := List.mem_iff_getElem.1 hx
  exact h j hj
theorem all_bad {α : Type} {p : α → Bool} {L : List α} {j : Nat} (hj : j < L.length) (h : p L[j] = false) : L.all p = false := by
  rw [Bool.eq_false_iff]
  intro k
  have := List.all_eq_true.1 k _ (List.getElem_mem hj)
  rw [h] at this
  cases this
set_option maxRecDepth 100000 in
set_option maxHeartbeats 8000000 in
theorem holds14_any (r : S3) (L : List RU) (u : Nat → S3) (l : LG) (v : Nat → Nat) (w : World) (hu : UV w (.slice r.a r.n r.c) L) (hl : LV w u l) (hq : FitQ l) (hks : ∀ x ∈ L, x.key.size ≤ 9223372036854775807) (hp : Laid w) :
    Calls Tryz.prog 15 #[.slice r.a r.n r.c, .agg (lcells u), .agg (vcells v)] w fun e w' => e = .returned (.tuple #[.bool (holdsB L l v), .int .i64 (holdsE L l v)]) ∧ Gr w w' := by
  obtain ⟨W, hW, hg, hsz, hL, hV⟩ := boxesLV u v w
  have HL := Lib.hid hL
  have HV := Lib.hid hV
  have HG := Lib.hid hg
  have HSZ := Lib.hid hsz
  have HU := Lib.hid hu
  have HLV := Lib.hid hl
  have HQ := Lib.hid hq
  have HCK := Lib.hid (rucheck_any (.slice r.a r.n r.c) L hks W (hu.gr hg) (hp.gr hg))
  obtain ⟨rn, ru, rc⟩ := r
  simp only at HCK HU
  obtain ⟨ce, hce⟩ : ∃ x, x = checkC L := ⟨_, rfl⟩
  rw [← hce] at HCK
  clear hL hV hg hsz hu hl hq hks hp
  by_cases hc0 : ce = 0
  · subst hc0
    have h0 : checkC L = 0 := hce.symm
    have HC0 := Lib.hid h0
    clear hce h0
    have HCL := Lib.hid (fun w1 (g : Gr w w1) => check9_any u l w1 (HLV.out.gr g) HQ.out)
    obtain ⟨c9, hc9⟩ : ∃ x, x = checkE l := ⟨_, rfl⟩
    rw [← hc9] at HCL
    have HC9 := Lib.hid hc9
    clear hc9
    obtain ⟨l0, l1, l2, l3, l4, l5, l6, l7⟩ := HL.out.all
    go_enter Tryz.func15, Tryz.ntmps15
    go_upto_region 1 with (fail)
    rw [← hW]
    clear hW
    go_wp2_with fail
    refine HCK.out.mono ?_
    rintro e w2 ⟨rfl, g2⟩
    have HG2 := Lib.hid g2
    clear g2 l0 l1 l2 l3 l4 l5 l6 l7
    obtain ⟨l0, l1, l2, l3, l4, l5, l6, l7⟩ := (HL.out.gr HG2.out).all
    go_wp2_with fail
    refine (HCL.out _ (HG.out.trans HG2.out)).mono ?_
    rintro e w3 ⟨rfl, g3⟩
    have HG3 := Lib.hid (HG2.out.trans g3)
    clear g3 l0 l1 l2 l3 l4 l5 l6 l7
    by_cases h9 : c9 = 0
    · subst h9
      have H90 := Lib.hid HC9.out.symm
      have HCD := Lib.hid (fun w1 (g : Gr w w1) => closed_any u l v w1 (HLV.out.gr g))
      obtain ⟨cd, hcd⟩ : ∃ x, x = closedB l v := ⟨_, rfl⟩
      rw [← hcd] at HCD
      have HCD0 := Lib.hid hcd
      clear hcd HC9
      obtain ⟨l0, l1, l2, l3, l4, l5, l6, l7⟩ := (HL.out.gr HG3.out).all
      obtain ⟨v0, v1, v2, v3, v4, v5, v6, v7⟩ := (HV.out.gr HG3.out).all
      go_wp2_with fail
      refine (HCD.out _ (HG.out.trans HG3.out)).mono ?_
      rintro e w4 ⟨rfl, g4⟩
      have HG4 := Lib.hid (HG3.out.trans g4)
      clear g4 l0 l1 l2 l3 l4 l5 l6 l7 v0 v1 v2 v3 v4 v5 v6 v7
      rcases cd with _ | _
      · have HZ := Lib.hid (holds_e3 HC0.out H90.out HCD0.out.symm)
        go_wp2_with fail
        go_ret2
        exact ⟨by rw [HZ.out.1, HZ.out.2]; rfl, HG.out.trans HG4.out⟩
      · have HE := Lib.hid (holds_e4 HC0.out H90.out HCD0.out.symm)
        have HSH := Lib.hid (fun (q : RU) (hm : q ∈ L) n w1 (g : Gr w4 w1) (ht : Told L l v w4.heap.size w4.heap.size n w1) (hn : n + 2 < maxLen) => sholds_any L l ⟨rn, ru, rc⟩ u v w4.heap.size n q w4 w1 (HU.out.gr (HG.out.trans HG4.out)) (HLV.out.gr (HG.out.trans HG4.out)) HQ.out H90.out HCD0.out.symm (start_wrap HC0.out) g (Nat.le_refl _) ht hn (key_small HC0.out q hm))
        have HLE := Lib.hid (checkC_len14 HC0.out)
        obtain ⟨A, c, hva, hnc, ⟨hcm, -⟩, hat⟩ := HU.out
        injection hva with e1 e2 e3
        subst e1 e3
        have hc63 : rc ≤ 9223372036854775807 := by unfold maxLen at hcm; omega
        have HAT := Lib.hid hat
        have HN := Lib.hid e2
        obtain ⟨W8, hW8, hg8, ht8, hs8⟩ : ∃ X, X = w4.alloc (.map #[] 0) ∧ Gr w4 X ∧ Told L l v w4.heap.size w4.heap.size 0 X ∧ X.heap.size = w4.heap.size + 1 := ⟨_, rfl, (Gr.refl _).alloc _, Told.made w4, by simp⟩
        obtain ⟨W9, hW9, hg9, hb9, hs9⟩ := sgbox W8 ⟨rn, ru, rc⟩ u v w4.heap.size
        have HI0 : Hid (HoR L l v w4.heap.size ⟨rn, ru, rc⟩ u w4 0 W9) := Lib.hid ⟨⟨0, Nat.le_refl _, ht8.gr hg9⟩, hg8.trans hg9, by rw [← hs8]; exact hb9, by rw [hs9, hs8]; exact Nat.lt_succ_self _⟩
        have hmm := @run_makeMap Tryz.prog
        rw [hW8] at hW9
        clear hnc hcm hat e2 hg8 ht8 hs8 hg9 hb9 hs9 hW8
        obtain ⟨l0, l1, l2, l3, l4, l5, l6, l7⟩ := (HL.out.gr HG4.out).all
        obtain ⟨v0, v1, v2, v3, v4, v5, v6, v7⟩ := (HV.out.gr HG4.out).all
        go_upto_region 10 with (fail)
        change Code.wp Tryz.prog _ _ _ ((w4.alloc (.map #[] 0)).alloc (.cells (sgc ⟨rn, ru, rc⟩ u v w4.heap.size) 90))
        rw [← hW9]
        clear hW9 hmm l0 l1 l2 l3 l4 l5 l6 l7 v0 v1 v2 v3 v4 v5 v6 v7
        go_wp2_with fail
        go_loopw [34] (fun i wr => ∃ j : Nat, j ≤ ru ∧ i = .int .i64 (j : Int) ∧ Hid (HoR L l v w4.heap.size ⟨rn, ru, rc⟩ u w4 j wr ∧ ∀ q (hq : q < L.length), q < j → holdB L l v L[q] = true)) (fun i _ => ru - (intOf i).toNat)
        case atStart => exact ⟨0, Nat.zero_le _, rfl, Lib.hid ⟨HI0.out, fun q _ h => absurd h (Nat.not_lt_zero _)⟩⟩
        case round =>
          obtain ⟨j, hj, rfl, hst⟩ := hrel
          rename World => wr
          by_cases hlt : j < ru
          · have hjL : j < L.length := by rw [← HN.out]; exact hlt
            obtain ⟨b, off, hA, qc⟩ := HAT.out j hjL
            subst hA
            obtain ⟨q, hqq⟩ : ∃ x, x = L[j] := ⟨_, rfl⟩
            rw [← hqq] at qc
            obtain ⟨W5, hW5, hg5, hx5⟩ := rubox wr q
            obtain ⟨x0, x1, x2, x3, x4⟩ := (qc.gr (HG.out.trans HG4.out)).gr hst.out.1.gr
            have HI5 := Lib.hid (hst.out.1.next hg5)
            have HX5 := Lib.hid hx5
            have HAL := Lib.hid hst.out.2
            have HQM := Lib.hid (show q ∈ L by rw [hqq]; exact List.getElem_mem hjL)
            obtain ⟨z, hz⟩ : ∃ z, z = holdB L l v q := ⟨_, rfl⟩
            have HZ := Lib.hid hz
            have HQJ := Lib.hid hqq
            have j0 : (0 : Int) ≤ (j : Int) := by omega
            have j1 : (j : Int) < (ru : Int) := by omega
            clear hqq qc hg5 hx5 hst hz
            obtain ⟨qk, qkey, qoth, qmin, qst⟩ := q
            go_upto_region 13 with (fail)
            change Code.wp Tryz.prog _ _ _ (wr.alloc (.cells (ruv ⟨qk, qkey, qoth, qmin, qst⟩) 49))
            rw [← hW5]
            clear hW5 x0 x1 x2 x3 x4
            have hbx := HI5.out.box.box
            obtain ⟨y0, y1, y2, y3, y4⟩ := HX5.out
            go_wp2_with (refine wpList_load_row rfl 90 (.tmp 10) rfl (w4.heap.size + 1) rfl 90 (sgc ⟨some ⟨b, off, none⟩, ru, rc⟩ u v w4.heap.size) (0, 0) _ hbx Tryz.underlying90 rfl sginfo ?_)
            obtain ⟨n, hn, ht⟩ := HI5.out.told
            refine (HSH.out _ HQM.out n _ HI5.out.gr ht (by have := HLE.out; have := HN.out; unfold maxLen; omega)).mono ?_
            rintro e w6 ⟨rfl, hx⟩
            rw [← HZ.out]
            have HI6 : Hid (HoR L l v w4.heap.size ⟨some ⟨b, off, none⟩, ru, rc⟩ u w4 (j + 1) w6) := Lib.hid ⟨by obtain ⟨n', h1, h2⟩ := hx.told; exact ⟨n', by omega, h2⟩, hx.gr, HI5.out.box.kp hx.kp (by omega), Nat.lt_of_lt_of_le HI5.out.lt (Kp.size hx.kp)⟩
            clear hx ht hn hbx y0 y1 y2 y3 y4
            rcases z with _ | _
            · have HF : Hid (holdsB L l v = false) := Lib.hid (by rw [HE.out.2]; exact all_bad hjL (by rw [← HQJ.out, ← HZ.out]))
              go_wp2_with fail
              go_ret2
              exact ⟨by rw [HE.out.1, HF.out]; rfl, (HG.out.trans HG4.out).trans HI6.out.gr⟩
            · have HA2 : Hid (HoR L l v w4.heap.size ⟨some ⟨b, off, none⟩, ru, rc⟩ u w4 (j + 1) w6 ∧ ∀ q (hq : q < L.length), q < j + 1 → holdB L l v L[q] = true) := Lib.hid ⟨HI6.out, fun q hq hqj => by
                by_cases e : q = j
                · subst e; rw [← HQJ.out, ← HZ.out]
                · exact HAL.out q hq (by omega)⟩
              have hru : ru ≤ 64 := by have := HLE.out; have := HN.out; omega
              go_wp2_with fail
              go_roundw
              case measure => simp [intOf]; omega
              case rel => exact ⟨j + 1, by omega, by go_num, HA2⟩
          · have HF : Hid (holdsB L l v = true) := Lib.hid (by rw [HE.out.2]; exact all_upto fun q hq => hst.out.2 q hq (by rw [← HN.out] at hq; omega))
            have hgr := hst.out.1.gr
            clear hst
            go_wp2_with fail
            go_ret2
            exact ⟨by rw [HE.out.1, HF.out]; rfl, (HG.out.trans HG4.out).trans hgr⟩
    · have hne : ¬ checkE l = 0 := by rw [← HC9.out]; exact h9
      have HZ := Lib.hid (holds_e2 (v := v) HC0.out hne)
      rw [← HC9.out] at HZ
      have t1 : ¬ (c9 : Int) = 0 := by omega
      have t2 : ((c9 : Int) != 0) = true := by simpa using t1
      clear hne HC9
      go_wp2_with fail
      go_ret2
      exact ⟨by rw [HZ.out.1, HZ.out.2]; rfl, HG.out.trans HG3.out⟩
  · have HZ := Lib.hid (holds_e1 (L := L) (l := l) (v := v) (by rw [← hce]; exact hc0))
    rw [← hce] at HZ
    have t2 : (ce != 0) = true := by simpa using hc0
    clear hce
    go_enter Tryz.func15, Tryz.ntmps15
    go_upto_region 1 with (fail)
    rw [← hW]
    clear hW
    go_wp2_with fail
    refine HCK.out.mono ?_
    rintro e w2 ⟨rfl, g2⟩
    have HG2 := Lib.hid (HG.out.trans g2)
    clear g2
    go_wp2_with fail
    go_ret2
    exact ⟨by rw [HZ.out.1, HZ.out.2]; rfl, HG2.out⟩
end Go.Proofs.YtnjmgknicffcbaaGreatDoor
