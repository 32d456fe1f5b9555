/- Walks: the program's Holds. Walks over the document's answer of package rule: Find, pair, one, Check. -/
import Derived.Test.YtnjmgknicffcbaaGreatDoorZr42
import Derived.Test.YtnjmgknicffcbaaGreatDoorZr36
import Derived.Test.YtnjmgknicffcbaaGreatDoorZr10
import Derived.Test.YtnjmgknicffcbaaGreatDoorZr38
import Derived.Test.YtnjmgknicffcbaaGreatDoorZr02
namespace Go.Proofs.YtnjmgknicffcbaaGreatDoor
open Go.RowKit Go.Joins
set_option linter.unusedSimpArgs false
set_option linter.unusedVariables false

theorem start_wrap {L : List RU} (h : checkC L = 0) : ∀ x ∈ L, wrap64 x.start = x.start := fun x hx => by
  have := (line_ok h x hx).start
  unfold PV.inA at this
  unfold wrap64
  omega
theorem key_small {L : List RU} (h : checkC L = 0) : ∀ x ∈ L, x.key.size ≤ maxLen ∧ x.other.size ≤ maxLen := fun x hx => by
  have h1 := (line_ok h x hx).key.1
  have h2 := (line_ok h x hx).other.1
  rw [Array.length_toList] at h1 h2
  have h1 : x.key.size ≤ 32 := h1
  have h2 : x.other.size ≤ 32 := h2
  unfold maxLen
  omega
/-- What the rounds of Holds leave. -/
structure HoR (L : List RU) (l : LG) (v : Nat → Nat) (M : Nat) (r : S3) (u : Nat → S3) (w4 : World) (j : Nat) (wr : World) : Prop where
  told : ∃ n, n ≤ 2 * j ∧ Told L l v w4.heap.size M n wr
  gr : Gr w4 wr
  box : SgB wr (M + 1) r u v M
  lt : M + 1 < wr.heap.size
theorem HoR.next {L : List RU} {l : LG} {v : Nat → Nat} {M : Nat} {r : S3} {u : Nat → S3} {w4 : World} {j : Nat} {wr w' : World} (h : HoR L l v M r u w4 j wr) (g : Gr wr w') : HoR L l v M r u w4 j w' :=
  ⟨by obtain ⟨n, h1, h2⟩ := h.told; exact ⟨n, h1, h2.gr g⟩, h.gr.trans g, h.box.gr g, Nat.lt_of_lt_of_le h.lt g.size⟩
theorem all_upto {α : Type} {p : α → Bool} {L : List α} (h : ∀ j (hj : j < L.length), p L[j] = true) : L.all p = true := by
  refine List.all_eq_true.2 fun x hx => ?_
  obtain ⟨j, hj, rfl⟩ := List.mem_iff_getElem.1 hx
  exact h j hj
theorem all_bad {α : Type} {p : α → Bool} {L : List α} {j : Nat} (hj : j < L.length) (h : p L[j] = false) : L.all p = false := by
  rw [Bool.eq_false_iff]
  intro k
  have := List.all_eq_true.1 k _ (List.getElem_mem hj)
  rw [h] at this
  cases this
set_option maxRecDepth 100000 in
set_option maxHeartbeats 8000000 in
theorem holds14_any (r : S3) (L : List RU) (u : Nat → S3) (l : LG) (v : Nat → Nat) (w : World) (hu : UV w (.slice r.a r.n r.c) L) (hl : LV w u l) (hq : FitQ l) (hks : ∀ x ∈ L, x.key.size ≤ 9223372036854775807) (hp : Laid w) :
    Calls Tryz.prog 15 #[.slice r.a r.n r.c, .agg (lcells u), .agg (vcells v)] w fun e w' => e = .returned (.tuple #[.bool (holdsB L l v), .int .i64 (holdsE L l v)]) ∧ Gr w w' := by
  obtain ⟨W, hW, hg, hsz, hL, hV⟩ := boxesLV u v w
  have HL := Lib.hid hL
  have HV := Lib.hid hV
  have HG := Lib.hid hg
  have HSZ := Lib.hid hsz
  have HU := Lib.hid hu
  have HLV := Lib.hid hl
  have HQ := Lib.hid hq
  have HCK := Lib.hid (rucheck_any (.slice r.a r.n r.c) L hks W (hu.gr hg) (hp.gr hg))
  obtain ⟨rn, ru, rc⟩ := r
  simp only at HCK HU
  obtain ⟨ce, hce⟩ : ∃ x, x = checkC L := ⟨_, rfl⟩
  rw [← hce] at HCK
  clear hL hV hg hsz hu hl hq hks hp
  by_cases hc0 : ce = 0
  · subst hc0
    have h0 : checkC L = 0 := hce.symm
    have HC0 := Lib.hid h0
    clear hce h0
    have HCL := Lib.hid (fun w1 (g : Gr w w1) => check9_any u l w1 (HLV.out.gr g) HQ.out)
    obtain ⟨c9, hc9⟩ : ∃ x, x = checkE l := ⟨_, rfl⟩
    rw [← hc9] at HCL
    have HC9 := Lib.hid hc9
    clear hc9
    obtain ⟨l0, l1, l2, l3, l4, l5, l6, l7⟩ := HL.out.all
    go_enter Tryz.func15, Tryz.ntmps15
    go_upto_region 1 with (fail)
    rw [← hW]
    clear hW
    go_wp2_with fail
    refine HCK.out.mono ?_
    rintro e w2 ⟨rfl, g2⟩
    have HG2 := Lib.hid g2
    clear g2 l0 l1 l2 l3 l4 l5 l6 l7
    obtain ⟨l0, l1, l2, l3, l4, l5, l6, l7⟩ := (HL.out.gr HG2.out).all
    go_wp2_with fail
    refine (HCL.out _ (HG.out.trans HG2.out)).mono ?_
    rintro e w3 ⟨rfl, g3⟩
    have HG3 := Lib.hid (HG2.out.trans g3)
    clear g3 l0 l1 l2 l3 l4 l5 l6 l7
    by_cases h9 : c9 = 0
    · subst h9
      have H90 := Lib.hid HC9.out.symm
      have HCD := Lib.hid (fun w1 (g : Gr w w1) => closed_any u l v w1 (HLV.out.gr g))
      obtain ⟨cd, hcd⟩ : ∃ x, x = closedB l v := ⟨_, rfl⟩
      rw [← hcd] at HCD
      have HCD0 := Lib.hid hcd
      clear hcd HC9
      obtain ⟨l0, l1, l2, l3, l4, l5, l6, l7⟩ := (HL.out.gr HG3.out).all
      obtain ⟨v0, v1, v2, v3, v4, v5, v6, v7⟩ := (HV.out.gr HG3.out).all
      go_wp2_with fail
      refine (HCD.out _ (HG.out.trans HG3.out)).mono ?_
      rintro e w4 ⟨rfl, g4⟩
      have HG4 := Lib.hid (HG3.out.trans g4)
      clear g4 l0 l1 l2 l3 l4 l5 l6 l7 v0 v1 v2 v3 v4 v5 v6 v7
      rcases cd with _ | _
      · have HZ := Lib.hid (holds_e3 HC0.out H90.out HCD0.out.symm)
        go_wp2_with fail
        go_ret2
        exact ⟨by rw [HZ.out.1, HZ.out.2]; rfl, HG.out.trans HG4.out⟩
      · have HE := Lib.hid (holds_e4 HC0.out H90.out HCD0.out.symm)
        have HSH := Lib.hid (fun (q : RU) (hm : q ∈ L) n w1 (g : Gr w4 w1) (ht : Told L l v w4.heap.size w4.heap.size n w1) (hn : n + 2 < maxLen) => sholds_any L l ⟨rn, ru, rc⟩ u v w4.heap.size n q w4 w1 (HU.out.gr (HG.out.trans HG4.out)) (HLV.out.gr (HG.out.trans HG4.out)) HQ.out H90.out HCD0.out.symm (start_wrap HC0.out) g (Nat.le_refl _) ht hn (key_small HC0.out q hm))
        have HLE := Lib.hid (checkC_len14 HC0.out)
        obtain ⟨A, c, hva, hnc, ⟨hcm, -⟩, hat⟩ := HU.out
        injection hva with e1 e2 e3
        subst e1 e3
        have hc63 : rc ≤ 9223372036854775807 := by unfold maxLen at hcm; omega
        have HAT := Lib.hid hat
        have HN := Lib.hid e2
        obtain ⟨W8, hW8, hg8, ht8, hs8⟩ : ∃ X, X = w4.alloc (.map #[] 0) ∧ Gr w4 X ∧ Told L l v w4.heap.size w4.heap.size 0 X ∧ X.heap.size = w4.heap.size + 1 := ⟨_, rfl, (Gr.refl _).alloc _, Told.made w4, by simp⟩
        obtain ⟨W9, hW9, hg9, hb9, hs9⟩ := sgbox W8 ⟨rn, ru, rc⟩ u v w4.heap.size
        have HI0 : Hid (HoR L l v w4.heap.size ⟨rn, ru, rc⟩ u w4 0 W9) := Lib.hid ⟨⟨0, Nat.le_refl _, ht8.gr hg9⟩, hg8.trans hg9, by rw [← hs8]; exact hb9, by rw [hs9, hs8]; exact Nat.lt_succ_self _⟩
        have hmm := @run_makeMap Tryz.prog
        rw [hW8] at hW9
        clear hnc hcm hat e2 hg8 ht8 hs8 hg9 hb9 hs9 hW8
        obtain ⟨l0, l1, l2, l3, l4, l5, l6, l7⟩ := (HL.out.gr HG4.out).all
        obtain ⟨v0, v1, v2, v3, v4, v5, v6, v7⟩ := (HV.out.gr HG4.out).all
        go_upto_region 10 with (fail)
        change Code.wp Tryz.prog _ _ _ ((w4.alloc (.map #[] 0)).alloc (.cells (sgc ⟨rn, ru, rc⟩ u v w4.heap.size) 90))
        rw [← hW9]
        clear hW9 hmm l0 l1 l2 l3 l4 l5 l6 l7 v0 v1 v2 v3 v4 v5 v6 v7
        go_wp2_with fail
        go_loopw [34] (fun i wr => ∃ j : Nat, j ≤ ru ∧ i = .int .i64 (j : Int) ∧ Hid (HoR L l v w4.heap.size ⟨rn, ru, rc⟩ u w4 j wr ∧ ∀ q (hq : q < L.length), q < j → holdB L l v L[q] = true)) (fun i _ => ru - (intOf i).toNat)
        case atStart => exact ⟨0, Nat.zero_le _, rfl, Lib.hid ⟨HI0.out, fun q _ h => absurd h (Nat.not_lt_zero _)⟩⟩
        case round =>
          obtain ⟨j, hj, rfl, hst⟩ := hrel
          rename World => wr
          by_cases hlt : j < ru
          · have hjL : j < L.length := by rw [← HN.out]; exact hlt
            obtain ⟨b, off, hA, qc⟩ := HAT.out j hjL
            subst hA
            obtain ⟨q, hqq⟩ : ∃ x, x = L[j] := ⟨_, rfl⟩
            rw [← hqq] at qc
            obtain ⟨W5, hW5, hg5, hx5⟩ := rubox wr q
            obtain ⟨x0, x1, x2, x3, x4⟩ := (qc.gr (HG.out.trans HG4.out)).gr hst.out.1.gr
            have HI5 := Lib.hid (hst.out.1.next hg5)
            have HX5 := Lib.hid hx5
            have HAL := Lib.hid hst.out.2
            have HQM := Lib.hid (show q ∈ L by rw [hqq]; exact List.getElem_mem hjL)
            obtain ⟨z, hz⟩ : ∃ z, z = holdB L l v q := ⟨_, rfl⟩
            have HZ := Lib.hid hz
            have HQJ := Lib.hid hqq
            have j0 : (0 : Int) ≤ (j : Int) := by omega
            have j1 : (j : Int) < (ru : Int) := by omega
            clear hqq qc hg5 hx5 hst hz
            obtain ⟨qk, qkey, qoth, qmin, qst⟩ := q
            go_upto_region 13 with (fail)
            change Code.wp Tryz.prog _ _ _ (wr.alloc (.cells (ruv ⟨qk, qkey, qoth, qmin, qst⟩) 49))
            rw [← hW5]
            clear hW5 x0 x1 x2 x3 x4
            have hbx := HI5.out.box.box
            obtain ⟨y0, y1, y2, y3, y4⟩ := HX5.out
            go_wp2_with (refine wpList_load_row rfl 90 (.tmp 10) rfl (w4.heap.size + 1) rfl 90 (sgc ⟨some ⟨b, off, none⟩, ru, rc⟩ u v w4.heap.size) (0, 0) _ hbx Tryz.underlying90 rfl sginfo ?_)
            obtain ⟨n, hn, ht⟩ := HI5.out.told
            refine (HSH.out _ HQM.out n _ HI5.out.gr ht (by have := HLE.out; have := HN.out; unfold maxLen; omega)).mono ?_
            rintro e w6 ⟨rfl, hx⟩
            rw [← HZ.out]
            have HI6 : Hid (HoR L l v w4.heap.size ⟨some ⟨b, off, none⟩, ru, rc⟩ u w4 (j + 1) w6) := Lib.hid ⟨by obtain ⟨n', h1, h2⟩ := hx.told; exact ⟨n', by omega, h2⟩, hx.gr, HI5.out.box.kp hx.kp (by omega), Nat.lt_of_lt_of_le HI5.out.lt (Kp.size hx.kp)⟩
            clear hx ht hn hbx y0 y1 y2 y3 y4
            rcases z with _ | _
            · have HF : Hid (holdsB L l v = false) := Lib.hid (by rw [HE.out.2]; exact all_bad hjL (by rw [← HQJ.out, ← HZ.out]))
              go_wp2_with fail
              go_ret2
              exact ⟨by rw [HE.out.1, HF.out]; rfl, (HG.out.trans HG4.out).trans HI6.out.gr⟩
            · have HA2 : Hid (HoR L l v w4.heap.size ⟨some ⟨b, off, none⟩, ru, rc⟩ u w4 (j + 1) w6 ∧ ∀ q (hq : q < L.length), q < j + 1 → holdB L l v L[q] = true) := Lib.hid ⟨HI6.out, fun q hq hqj => by
                by_cases e : q = j
                · subst e; rw [← HQJ.out, ← HZ.out]
                · exact HAL.out q hq (by omega)⟩
              have hru : ru ≤ 64 := by have := HLE.out; have := HN.out; omega
              go_wp2_with fail
              go_roundw
              case measure => simp [intOf]; omega
              case rel => exact ⟨j + 1, by omega, by go_num, HA2⟩
          · have HF : Hid (holdsB L l v = true) := Lib.hid (by rw [HE.out.2]; exact all_upto fun q hq => hst.out.2 q hq (by rw [← HN.out] at hq; omega))
            have hgr := hst.out.1.gr
            clear hst
            go_wp2_with fail
            go_ret2
            exact ⟨by rw [HE.out.1, HF.out]; rfl, (HG.out.trans HG4.out).trans hgr⟩
    · have hne : ¬ checkE l = 0 := by rw [← HC9.out]; exact h9
      have HZ := Lib.hid (holds_e2 (v := v) HC0.out hne)
      rw [← HC9.out] at HZ
      have t1 : ¬ (c9 : Int) = 0 := by omega
      have t2 : ((c9 : Int) != 0) = true := by simpa using t1
      clear hne HC9
      go_wp2_with fail
      go_ret2
      exact ⟨by rw [HZ.out.1, HZ.out.2]; rfl, HG.out.trans HG3.out⟩
  · have HZ := Lib.hid (holds_e1 (L := L) (l := l) (v := v) (by rw [← hce]; exact hc0))
    rw [← hce] at HZ
    have t2 : (ce != 0) = true := by simpa using hc0
    clear hce
    go_enter Tryz.func15, Tryz.ntmps15
    go_upto_region 1 with (fail)
    rw [← hW]
    clear hW
    go_wp2_with fail
    refine HCK.out.mono ?_
    rintro e w2 ⟨rfl, g2⟩
    have HG2 := Lib.hid (HG.out.trans g2)
    clear g2
    go_wp2_with fail
    go_ret2
    exact ⟨by rw [HZ.out.1, HZ.out.2]; rfl, HG2.out⟩
end Go.Proofs.YtnjmgknicffcbaaGreatDoor
namespace Go.Proofs.YtnjmgknicffcbaaGreatDoor
open Go.RowKit Go.Joins
set_option linter.unusedSimpArgs false
set_option linter.unusedVariables false

theorem nil_empty2 : (⟨#[]⟩ : ByteArray).toList.isEmpty = true := by rw [ByteArray.toList_eq]; rfl
/-- A rule's five cells at a block's beginning. -/
def RC5 (w : World) (b : Nat) (r : RU) : Prop := w.cell? ⟨b, 0, none⟩ = some (.int .i64 r.k) ∧ w.cell? ⟨b, 1, none⟩ = some (.string r.key) ∧ w.cell? ⟨b, 2, none⟩ = some (.string r.other) ∧ w.cell? ⟨b, 3, none⟩ = some (.int .i64 r.min) ∧ w.cell? ⟨b, 4, none⟩ = some (.int .i64 r.start)
theorem RC5.gr {w w' : World} {b : Nat} {r : RU} (h : RC5 w b r) (g : Gr w w') : RC5 w' b r := ⟨g.cell h.1, g.cell h.2.1, g.cell h.2.2.1, g.cell h.2.2.2.1, g.cell h.2.2.2.2⟩
theorem RBox.c5 {w : World} {b : Nat} {r : RU} (h : RBox w b r) : RC5 w b r := ⟨obj_cell h rfl, obj_cell h rfl, obj_cell h rfl, obj_cell h rfl, obj_cell h rfl⟩
theorem rubox5 (w : World) (r : RU) : ∃ W, W = w.alloc (.cells (ruv r) 49) ∧ Gr w W ∧ RC5 W w.heap.size r := ⟨_, rfl, (Gr.refl w).alloc _, RBox.c5 (heap_allocR _ _ _)⟩
set_option maxRecDepth 100000 in
set_option maxHeartbeats 1000000 in
theorem rfind_any (v : Value) (L : List RU) (key : ByteArray) (w : World) (hv : UV w v L) :
    Calls Tryz.prog 40 #[v, .string key] w fun e w' => e = .returned (.int .i64 (fInt L key)) ∧ Gr w w' := by
  obtain ⟨A, c, rfl, l1, ⟨l2, _⟩, l3⟩ := hv
  have l2' : c ≤ 9223372036854775807 := l2
  have HAT := Lib.hid l3
  obtain ⟨n, hn⟩ : ∃ n, n = L.length := ⟨_, rfl⟩
  have HN := Lib.hid hn
  rw [← hn] at l1 ⊢
  clear hn l3 l2
  go_enter Tryz.func40, Tryz.ntmps40
  go_wp2_with fail
  go_loopw [5] (fun i wr => ∃ j : Nat, j ≤ n ∧ i = .int .i64 (j : Int) ∧ wr = w ∧ Hid (∀ q (hq : q < L.length), q < j → isF key L[q] = false)) (fun i _ => n - (intOf i).toNat)
  case atStart => exact ⟨0, Nat.zero_le _, rfl, rfl, Lib.hid (fun _ _ h => absurd h (Nat.not_lt_zero _))⟩
  case round =>
    obtain ⟨j, hj, rfl, rfl, HAL⟩ := hrel
    by_cases hlt : j < n
    · have hjL : j < L.length := by rw [← HN.out]; exact hlt
      obtain ⟨b, off, rfl, c0, c1, c2, c3, c4⟩ := HAT.out j hjL
      obtain ⟨f, hf⟩ : ∃ f, f = L[j] := ⟨_, rfl⟩
      rw [← hf] at c0 c1 c2 c3 c4
      have u0 : (0 : Int) ≤ (j : Int) := by omega
      have u1 : (j : Int) < (n : Int) := by omega
      have u2 : wrap64 ((j : Int) + 1) = ((j + 1 : Nat) : Int) := by unfold wrap64; omega
      obtain ⟨q, hq⟩ : ∃ q, q = eqS f.key key := ⟨_, rfl⟩
      have hqe : (f.key.toList == key.toList) = q := hq.symm
      have next : isF key f = false → Hid (∀ q (hq : q < L.length), q < j + 1 → isF key L[q] = false) := fun hz => Lib.hid fun q hqq hjk => by
        by_cases e : q = j
        · subst e; rw [← hf]; exact hz
        · exact HAL.out q hqq (by omega)
      by_cases h1 : 1 ≤ f.k
      · have h1' : decide (1 ≤ f.k) = true := decide_eq_true h1
        by_cases h2 : f.k ≤ 8
        · have h2' : decide (f.k ≤ 8) = true := decide_eq_true h2
          have hz : isF key f = q := by unfold isF knB; rw [h1', h2', hq]; rfl
          rcases q with _ | _
          · have HX := next hz
            clear hq hf next hz hjL
            go_wp2_with fail
            go_roundw
            case rel => exact ⟨j + 1, by omega, by go_num, by trivial, HX⟩
            case measure => simp [intOf]; omega
          · have HI : Hid (fInt L key = (j : Int)) := Lib.hid (fInt_some (fIdx_some.2 ⟨hjL, by rw [← hf]; exact hz, HAL.out⟩))
            clear hq hf next hz hjL
            go_wp2_with fail
            go_ret
            exact ⟨by rw [HI.out]; rfl, Gr.refl _⟩
        · have h2' : decide (f.k ≤ 8) = false := decide_eq_false h2
          have HX := next (by unfold isF knB; rw [h1', h2']; rfl)
          clear hq hf next hjL
          go_wp2_with fail
          go_roundw
          case rel => exact ⟨j + 1, by omega, by go_num, by trivial, HX⟩
          case measure => simp [intOf]; omega
      · have h1' : decide (1 ≤ f.k) = false := decide_eq_false h1
        have HX := next (by unfold isF knB; rw [h1']; rfl)
        clear hq hf next hjL
        go_wp2_with fail
        go_roundw
        case rel => exact ⟨j + 1, by omega, by go_num, by trivial, HX⟩
        case measure => simp [intOf]; omega
    · have HI : Hid (fInt L key = -1) := Lib.hid (fInt_none (fIdx_none.2 fun x hx => by obtain ⟨i, hi, rfl⟩ := List.mem_iff_getElem.1 hx; exact HAL.out i hi (by rw [← HN.out] at hi; omega)))
      have u1 : ¬ (j : Int) < (n : Int) := by omega
      go_wp2_with fail
      go_ret
      exact ⟨by rw [HI.out]; rfl, Gr.refl _⟩
theorem ramount_any (n : Int) (w : World) :
    Calls Tryz.prog 114 #[.int .i64 n] w fun e w' => e = .returned (.bool (inAB n)) ∧ Gr w w' := by
  by_cases h1 : -1099511627776 ≤ n
  · have d1 : decide (-1099511627776 ≤ n) = true := decide_eq_true h1
    by_cases h2 : n ≤ 1099511627776
    · have d2 : decide (n ≤ 1099511627776) = true := decide_eq_true h2
      have HB : Hid (inAB n = true) := Lib.hid (by unfold inAB; rw [d1, d2]; rfl)
      go_enter Tryz.func114, Tryz.ntmps114
      go_wp2_with fail
      go_ret
      exact ⟨by rw [HB.out]; rfl, Gr.refl _⟩
    · have d2 : decide (n ≤ 1099511627776) = false := decide_eq_false h2
      have HB : Hid (inAB n = false) := Lib.hid (by unfold inAB; rw [d1, d2]; rfl)
      go_enter Tryz.func114, Tryz.ntmps114
      go_wp2_with fail
      go_ret
      exact ⟨by rw [HB.out]; rfl, Gr.refl _⟩
  · have d1 : decide (-1099511627776 ≤ n) = false := decide_eq_false h1
    have HB : Hid (inAB n = false) := Lib.hid (by unfold inAB; rw [d1]; rfl)
    go_enter Tryz.func114, Tryz.ntmps114
    go_wp2_with fail
    go_ret
    exact ⟨by rw [HB.out]; rfl, Gr.refl _⟩
set_option maxRecDepth 100000 in
set_option maxHeartbeats 1000000 in
theorem rpair_any (v : Value) (L : List RU) (r : RU) (kind : Int) (w : World) (hv : UV w v L) :
    Calls Tryz.prog 115 #[v, .agg (ruv r), .int .i64 kind] w fun e w' => e = .returned (.bool (pairB L r kind)) ∧ Gr w w' := by
  obtain ⟨W, hW, hg, hr⟩ := rubox5 w r
  have HG := Lib.hid hg
  have HR := Lib.hid hr
  have HFA := Lib.hid (fun w1 (g : Gr W w1) => rfind_any v L r.key w1 (hv.gr (hg.trans g)))
  have HFB := Lib.hid (fun w1 (g : Gr W w1) => rfind_any v L r.other w1 (hv.gr (hg.trans g)))
  obtain ⟨A, c, rfl, l1, ⟨l2, _⟩, l3⟩ := hv
  have l2' : c ≤ 9223372036854775807 := l2
  have HAT := Lib.hid l3
  obtain ⟨n, hn⟩ : ∃ n, n = L.length := ⟨_, rfl⟩
  have HN := Lib.hid hn
  rw [← hn] at l1 HFA HFB ⊢
  clear hn l3 l2 hg hr
  cases ha : fIdx L r.key with
  | none =>
    have HZ : Hid (pairB L r kind = false) := Lib.hid (by unfold pairB; rw [ha])
    rw [fInt_none ha] at HFA
    obtain ⟨fb, hfb⟩ : ∃ x, x = fInt L r.other := ⟨_, rfl⟩
    rw [← hfb] at HFB
    clear ha hfb
    go_enter Tryz.func115, Tryz.ntmps115
    go_upto_region 1 with (fail)
    rw [← hW]
    clear hW
    refine qRegion (fun w' => RC5 w' w.heap.size r ∧ Gr W w') (by kernel_rfl) (by kernel_rfl) ⟨HR.out.gr (Gr.refl _).drew, (Gr.refl _).drew⟩ ?_
    iterate 3
      refine qTake (by kernel_rfl) ?_
      apply Exists.intro
      refine ⟨fun wq hq => ?_, ?_⟩
      · go_light
        obtain ⟨⟨q0, q1, q2, q3, q4⟩, hg⟩ := hq
        go_simp
        try with_reducible rfl
        done
      try simp only [Act.put, List.setIfInBounds_toArray, List.set_cons_zero, List.set_cons_succ]
    refine qCall (by kernel_rfl) ?_
    apply Exists.intro
    refine ⟨?_, ?_⟩
    · apply Exists.intro
      apply Exists.intro
      refine ⟨fun wq => ?_, fun wq hq => ?_⟩
      · go_light
        go_simp
        exact ⟨rfl, rfl⟩
      · exact (HFA.out wq hq.2).mono fun e w'' ⟨he, hg⟩ => ⟨he, hq.1.gr hg, hq.2.trans hg⟩
    try simp only [Act.put, List.setIfInBounds_toArray, List.set_cons_zero, List.set_cons_succ]
    iterate 3
      refine qTake (by kernel_rfl) ?_
      apply Exists.intro
      refine ⟨fun wq hq => ?_, ?_⟩
      · go_light
        obtain ⟨⟨q0, q1, q2, q3, q4⟩, hg⟩ := hq
        go_simp
        try with_reducible rfl
        done
      try simp only [Act.put, List.setIfInBounds_toArray, List.set_cons_zero, List.set_cons_succ]
    refine qCall (by kernel_rfl) ?_
    apply Exists.intro
    refine ⟨?_, ?_⟩
    · apply Exists.intro
      apply Exists.intro
      refine ⟨fun wq => ?_, fun wq hq => ?_⟩
      · go_light
        go_simp
        exact ⟨rfl, rfl⟩
      · exact (HFB.out wq hq.2).mono fun e w'' ⟨he, hg⟩ => ⟨he, hq.1.gr hg, hq.2.trans hg⟩
    try simp only [Act.put, List.setIfInBounds_toArray, List.set_cons_zero, List.set_cons_succ]
    iterate 2
      refine qTake (by kernel_rfl) ?_
      apply Exists.intro
      refine ⟨fun wq hq => ?_, ?_⟩
      · go_light
        obtain ⟨⟨q0, q1, q2, q3, q4⟩, hg⟩ := hq
        go_simp
        try with_reducible rfl
        done
      try simp only [Act.put, List.setIfInBounds_toArray, List.set_cons_zero, List.set_cons_succ]
    refine qNil ?_
    intro w3 hC
    have HG3 := Lib.hid (HG.out.trans hC.2)
    clear hC
    go_wp2_with fail
    go_ret
    exact ⟨by rw [HZ.out]; rfl, HG3.out⟩
  | some a =>
    obtain ⟨hal, -, -⟩ := fIdx_some.1 ha
    rw [fInt_some ha] at HFA
    obtain ⟨b1, off1, rfl, ca⟩ := HAT.out a hal
    have HCA := Lib.hid ca
    have ta0 : (0 : Int) ≤ (a : Int) := by omega
    have ta1 : (a : Int) < (n : Int) := by rw [HN.out]; omega
    cases hb : fIdx L r.other with
    | none =>
      have HZ : Hid (pairB L r kind = false) := Lib.hid (by unfold pairB; rw [ha, hb])
      rw [fInt_none hb] at HFB
      clear ha hb ca HCA hal
      go_enter Tryz.func115, Tryz.ntmps115
      go_upto_region 1 with (fail)
      rw [← hW]
      clear hW
      refine qRegion (fun w' => RC5 w' w.heap.size r ∧ Gr W w') (by kernel_rfl) (by kernel_rfl) ⟨HR.out.gr (Gr.refl _).drew, (Gr.refl _).drew⟩ ?_
      iterate 3
        refine qTake (by kernel_rfl) ?_
        apply Exists.intro
        refine ⟨fun wq hq => ?_, ?_⟩
        · go_light
          obtain ⟨⟨q0, q1, q2, q3, q4⟩, hg⟩ := hq
          go_simp
          try with_reducible rfl
          done
        try simp only [Act.put, List.setIfInBounds_toArray, List.set_cons_zero, List.set_cons_succ]
      refine qCall (by kernel_rfl) ?_
      apply Exists.intro
      refine ⟨?_, ?_⟩
      · apply Exists.intro
        apply Exists.intro
        refine ⟨fun wq => ?_, fun wq hq => ?_⟩
        · go_light
          go_simp
          exact ⟨rfl, rfl⟩
        · exact (HFA.out wq hq.2).mono fun e w'' ⟨he, hg⟩ => ⟨he, hq.1.gr hg, hq.2.trans hg⟩
      try simp only [Act.put, List.setIfInBounds_toArray, List.set_cons_zero, List.set_cons_succ]
      iterate 3
        refine qTake (by kernel_rfl) ?_
        apply Exists.intro
        refine ⟨fun wq hq => ?_, ?_⟩
        · go_light
          obtain ⟨⟨q0, q1, q2, q3, q4⟩, hg⟩ := hq
          go_simp
          try with_reducible rfl
          done
        try simp only [Act.put, List.setIfInBounds_toArray, List.set_cons_zero, List.set_cons_succ]
      refine qCall (by kernel_rfl) ?_
      apply Exists.intro
      refine ⟨?_, ?_⟩
      · apply Exists.intro
        apply Exists.intro
        refine ⟨fun wq => ?_, fun wq hq => ?_⟩
        · go_light
          go_simp
          exact ⟨rfl, rfl⟩
        · exact (HFB.out wq hq.2).mono fun e w'' ⟨he, hg⟩ => ⟨he, hq.1.gr hg, hq.2.trans hg⟩
      try simp only [Act.put, List.setIfInBounds_toArray, List.set_cons_zero, List.set_cons_succ]
      iterate 2
        refine qTake (by kernel_rfl) ?_
        apply Exists.intro
        refine ⟨fun wq hq => ?_, ?_⟩
        · go_light
          obtain ⟨⟨q0, q1, q2, q3, q4⟩, hg⟩ := hq
          go_simp
          try with_reducible rfl
          done
        try simp only [Act.put, List.setIfInBounds_toArray, List.set_cons_zero, List.set_cons_succ]
      refine qNil ?_
      intro w3 hC
      have HG3 := Lib.hid (HG.out.trans hC.2)
      clear hC
      go_wp2_with fail
      go_ret
      exact ⟨by rw [HZ.out]; rfl, HG3.out⟩
    | some b =>
      obtain ⟨hbl, -, -⟩ := fIdx_some.1 hb
      rw [fInt_some hb] at HFB
      obtain ⟨b2, off2, hA2, cb⟩ := HAT.out b hbl
      injection hA2 with hA2
      injection hA2 with e1 e2
      subst e1 e2
      have HCB := Lib.hid cb
      have tb0 : (0 : Int) ≤ (b : Int) := by omega
      have tb1 : (b : Int) < (n : Int) := by rw [HN.out]; omega
      obtain ⟨xa, hxa⟩ : ∃ x, x = L[a] := ⟨_, rfl⟩
      obtain ⟨xb, hxb⟩ : ∃ x, x = L[b] := ⟨_, rfl⟩
      rw [← hxa] at HCA
      rw [← hxb] at HCB
      obtain ⟨z0, hz0⟩ : ∃ z, z = decide (a ≠ b) := ⟨_, rfl⟩
      obtain ⟨z1, hz1⟩ : ∃ z, z = decide (xa.k = kind) := ⟨_, rfl⟩
      obtain ⟨z2, hz2⟩ : ∃ z, z = decide (xb.k = kind) := ⟨_, rfl⟩
      have e0 : ((a : Int) != (b : Int)) = z0 := by
        rw [hz0, bne, int_beqR]
        by_cases h : a = b
        · subst h; simp
        · rw [decide_eq_true h, decide_eq_false (by omega)]; rfl
      have e1 : (xa.k == kind) = z1 := by rw [int_beqR, hz1]
      have e2 : (xb.k == kind) = z2 := by rw [int_beqR, hz2]
      have HZ : Hid (pairB L r kind = (z0 && z1 && z2)) := Lib.hid (by
        unfold pairB
        rw [ha, hb]
        simp only [List.getD_eq_getElem?_getD, List.getElem?_eq_getElem hal, List.getElem?_eq_getElem hbl, Option.getD_some]
        rw [hz0, hz1, hz2, hxa, hxb])
      clear ha hb ca cb hal hbl hxa hxb hz0 hz1 hz2
      go_enter Tryz.func115, Tryz.ntmps115
      go_upto_region 1 with (fail)
      rw [← hW]
      clear hW
      refine qRegion (fun w' => RC5 w' w.heap.size r ∧ Gr W w') (by kernel_rfl) (by kernel_rfl) ⟨HR.out.gr (Gr.refl _).drew, (Gr.refl _).drew⟩ ?_
      iterate 3
        refine qTake (by kernel_rfl) ?_
        apply Exists.intro
        refine ⟨fun wq hq => ?_, ?_⟩
        · go_light
          obtain ⟨⟨q0, q1, q2, q3, q4⟩, hg⟩ := hq
          go_simp
          try with_reducible rfl
          done
        try simp only [Act.put, List.setIfInBounds_toArray, List.set_cons_zero, List.set_cons_succ]
      refine qCall (by kernel_rfl) ?_
      apply Exists.intro
      refine ⟨?_, ?_⟩
      · apply Exists.intro
        apply Exists.intro
        refine ⟨fun wq => ?_, fun wq hq => ?_⟩
        · go_light
          go_simp
          exact ⟨rfl, rfl⟩
        · exact (HFA.out wq hq.2).mono fun e w'' ⟨he, hg⟩ => ⟨he, hq.1.gr hg, hq.2.trans hg⟩
      try simp only [Act.put, List.setIfInBounds_toArray, List.set_cons_zero, List.set_cons_succ]
      iterate 3
        refine qTake (by kernel_rfl) ?_
        apply Exists.intro
        refine ⟨fun wq hq => ?_, ?_⟩
        · go_light
          obtain ⟨⟨q0, q1, q2, q3, q4⟩, hg⟩ := hq
          go_simp
          try with_reducible rfl
          done
        try simp only [Act.put, List.setIfInBounds_toArray, List.set_cons_zero, List.set_cons_succ]
      refine qCall (by kernel_rfl) ?_
      apply Exists.intro
      refine ⟨?_, ?_⟩
      · apply Exists.intro
        apply Exists.intro
        refine ⟨fun wq => ?_, fun wq hq => ?_⟩
        · go_light
          go_simp
          exact ⟨rfl, rfl⟩
        · exact (HFB.out wq hq.2).mono fun e w'' ⟨he, hg⟩ => ⟨he, hq.1.gr hg, hq.2.trans hg⟩
      try simp only [Act.put, List.setIfInBounds_toArray, List.set_cons_zero, List.set_cons_succ]
      iterate 2
        refine qTake (by kernel_rfl) ?_
        apply Exists.intro
        refine ⟨fun wq hq => ?_, ?_⟩
        · go_light
          obtain ⟨⟨q0, q1, q2, q3, q4⟩, hg⟩ := hq
          go_simp
          try with_reducible rfl
          done
        try simp only [Act.put, List.setIfInBounds_toArray, List.set_cons_zero, List.set_cons_succ]
      refine qNil ?_
      intro w3 hC
      have HG3 := Lib.hid (HG.out.trans hC.2)
      obtain ⟨a0, -, -, -, -⟩ := HCA.out.gr HG3.out
      obtain ⟨b0, -, -, -, -⟩ := HCB.out.gr HG3.out
      clear hC
      rcases z0 with _ | _
      · go_wp2_with fail
        go_ret
        exact ⟨by rw [HZ.out]; rfl, HG3.out⟩
      · rcases z1 with _ | _
        · go_wp2_with fail
          go_ret
          exact ⟨by rw [HZ.out]; rfl, HG3.out⟩
        · go_wp2_with fail
          go_ret
          exact ⟨by rw [HZ.out]; first | rfl | simp, HG3.out⟩
end Go.Proofs.YtnjmgknicffcbaaGreatDoor
