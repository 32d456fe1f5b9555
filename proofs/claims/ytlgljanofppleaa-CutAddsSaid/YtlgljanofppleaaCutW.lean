/- Walks: the program's Join. -/
import Derived.Test.YtlgljanofppleaaCutT
import Derived.Test.YtlgljanofppleaaCutV
namespace Go.Proofs.Ytlgljanofppleaa
open Go.RowKit Go.Joins
set_option linter.unusedSimpArgs false
set_option linter.unusedVariables false

def CanL (l : LG) : Prop := ∀ i t, i < 8 → t ∈ l i → Can t
theorem same_left {a b : LG} {k : Nat} (hk : k < 8) (ha : CanL a) (hb : CanL b) (h : (a k).length ≤ (b k).length) : sameL ((a k).take (b k).length) ((b k).take (a k).length) = sameL (a k) ((b k).take (a k).length) := by
  rw [List.take_of_length_le h]
theorem same_right {a b : LG} {k : Nat} (hk : k < 8) (ha : CanL a) (hb : CanL b) (h : (b k).length ≤ (a k).length) : sameL ((a k).take (b k).length) ((b k).take (a k).length) = sameL (b k) ((a k).take (b k).length) := by
  rw [List.take_of_length_le h, Bool.eq_iff_iff]
  have ca : ∀ t ∈ (a k).take (b k).length, Can t := fun t ht => ha k t hk (List.mem_of_mem_take ht)
  have cb : ∀ t ∈ b k, Can t := fun t ht => hb k t hk ht
  rw [sameL_can ca cb, sameL_can cb ca]
  exact ⟨fun e => e.symm, fun e => e.symm⟩
/-- What the program's Join leaves behind its rounds, in the box of its first argument. -/
structure JpR (w : World) (u v : Nat → S3) (a b : LG) (k : Nat) (us : Nat → S3) (wr : World) : Prop where
  xa : LBox wr w.heap.size us
  xb : LBox wr (w.heap.size + 1) v
  xz : LBox wr (w.heap.size + 1 + 1) Z3
  lv : ∀ j, j < k → XV w (.slice (us j).a (us j).n (us j).c) (jnL a b j)
  mt : ∀ j, k ≤ j → us j = u j
  ok : ∀ j, j < k → sameL ((a j).take (b j).length) ((b j).take (a j).length) = true
  gr : Gr w wr
theorem JpR.next {w wr w' : World} {u v us : Nat → S3} {a b : LG} {k : Nat} (h : JpR w u v a b k us wr) (g : Gr wr w') : JpR w u v a b k us w' :=
  ⟨h.xa.gr g, h.xb.gr g, h.xz.gr g, h.lv, h.mt, h.ok, h.gr.trans g⟩
theorem JpR.more {w wr : World} {u v us : Nat → S3} {a b : LG} {k : Nat} (h : JpR w u v a b k us wr) (h8 : k < 8) {A : Option Addr} {n c : Nat} (hx : XV w (.slice A n c) (jnL a b k)) (hs : sameL ((a k).take (b k).length) ((b k).take (a k).length) = true) : JpR w u v a b (k + 1) (updS us k ⟨A, n, c⟩) (wr.setCell ⟨w.heap.size, k, none⟩ (.slice A n c)) :=
  ⟨h.xa.set h8 _ _ _, h.xb.far (by simp only []; omega) _, h.xz.far (by simp only []; omega) _, fun j hj => by
    by_cases q : j = k
    · rw [q, show updS us k ⟨A, n, c⟩ k = ⟨A, n, c⟩ from if_pos rfl]; exact hx
    · rw [show updS us k ⟨A, n, c⟩ j = us j from if_neg q]; exact h.lv j (by omega), fun j hj => by
    rw [show updS us k ⟨A, n, c⟩ j = us j from if_neg (by omega)]; exact h.mt j (by omega), fun j hj => by
    by_cases q : j = k
    · rw [q]; exact hs
    · exact h.ok j (by omega), h.gr.setCell (Nat.le_refl _) _⟩

set_option maxRecDepth 100000 in
set_option maxHeartbeats 4000000 in
theorem join9_any (u v : Nat → S3) (a b : LG) (w : World) (ha : LV w u a) (hb : LV w v b) (hqa : FitQ a) (hqb : FitQ b) (hfa : FitC a) (hfb : FitC b) (hna : CanL a) (hnb : CanL b) :
    Calls Try.prog 11 #[.agg (lcells u), .agg (lcells v)] w fun e w' => ∃ u', e = .returned (.tuple #[.agg (lcells u'), .int .i64 ((joinR a b).1 : Int)]) ∧ LN w' w.heap.size u' (joinR a b).2 ∧ Gr w w' := by
  obtain ⟨W, hW, hg, hsz, hA, hB, hZ⟩ := boxesJn u v w
  have HA := Lib.hid hA
  have HB := Lib.hid hB
  have HZ := Lib.hid hZ
  have HG := Lib.hid hg
  have HSZ := Lib.hid hsz
  have HLA := Lib.hid ha
  have HLB := Lib.hid hb
  have HNA := Lib.hid hna
  have HNB := Lib.hid hnb
  have HFC := Lib.hid (fitC_jn hfa hfb)
  have HC1 := Lib.hid (check9_any u a W (ha.gr hg) hqa)
  have HC2 := Lib.hid (fun w1 (g : Gr W w1) => check9_any v b w1 ((hb.gr hg).gr g) hqb)
  obtain ⟨l0, l1, l2, l3, l4, l5, l6, l7⟩ := hA.all
  clear ha hb hqa hqb hfa hfb hg hsz hA hB hZ hna hnb
  go_enter Try.func11, Try.ntmps11
  go_upto_region 1 with (fail)
  rw [← hW]
  clear hW
  obtain ⟨ea, hea⟩ : ∃ x, x = checkE a := ⟨_, rfl⟩
  obtain ⟨eb, heb⟩ : ∃ x, x = checkE b := ⟨_, rfl⟩
  have HJ : Hid (joinR a b = if ea = 0 then (if eb = 0 then (if okJ a b = true then (0, jnL a b) else (91, nilL)) else (eb, nilL)) else (ea, nilL)) := Lib.hid (by rw [hea, heb]; rfl)
  rw [← hea] at HC1
  rw [← heb] at HC2
  clear hea heb
  go_wp2_with fail
  refine HC1.out.mono ?_
  rintro e w1 ⟨rfl, g1⟩
  have HG1 := Lib.hid g1
  clear g1 l0 l1 l2 l3 l4 l5 l6 l7
  by_cases h1 : ea = 0
  case neg =>
    have HF : Hid (joinR a b = (ea, nilL)) := Lib.hid (by rw [HJ.out, if_neg h1])
    have hne : ¬ ((ea : Int) = 0) := by omega
    obtain ⟨s0, s1, s2, s3, s4, s5, s6, s7⟩ := (HZ.out.gr HG1.out).zero
    have hzb := (HZ.out.gr HG1.out).box
    have f0 := unfrozen_of_block hzb 0
    have f1 := unfrozen_of_block hzb 1
    have f2 := unfrozen_of_block hzb 2
    have f3 := unfrozen_of_block hzb 3
    have f4 := unfrozen_of_block hzb 4
    have f5 := unfrozen_of_block hzb 5
    have f6 := unfrozen_of_block hzb 6
    have f7 := unfrozen_of_block hzb 7
    clear hzb
    go_wp2_with fail
    refine bodyPost_ret (v := .tuple #[.agg #[.slice none 0 0, .slice none 0 0, .slice none 0 0, .slice none 0 0, .slice none 0 0, .slice none 0 0, .slice none 0 0, .slice none 0 0], .int .i64 ((ea : Int))]) (by simp [results, Try.results11, go_sem, *]) rfl ⟨Z3, by rw [HF.out]; rfl, by rw [HF.out]; exact LN.nil _ _, ?_⟩
    show Gr w (putCells w1 (w.heap.size + 1 + 1) 0 [.slice none 0 0, .slice none 0 0, .slice none 0 0, .slice none 0 0, .slice none 0 0, .slice none 0 0, .slice none 0 0, .slice none 0 0])
    exact Gr.putCells (by omega) _ _ (HG.out.trans HG1.out)
  subst h1
  obtain ⟨l0, l1, l2, l3, l4, l5, l6, l7⟩ := (HB.out.gr HG1.out).all
  go_wp2_with fail
  refine (HC2.out _ HG1.out).mono ?_
  rintro e w2 ⟨rfl, g2⟩
  have HG2 := Lib.hid (HG1.out.trans g2)
  clear g2 l0 l1 l2 l3 l4 l5 l6 l7
  by_cases h2 : eb = 0
  case neg =>
    have HF : Hid (joinR a b = (eb, nilL)) := Lib.hid (HJ.out.trans (by simp [h2]))
    have hne : ¬ ((eb : Int) = 0) := by omega
    obtain ⟨s0, s1, s2, s3, s4, s5, s6, s7⟩ := (HZ.out.gr HG2.out).zero
    have hzb := (HZ.out.gr HG2.out).box
    have f0 := unfrozen_of_block hzb 0
    have f1 := unfrozen_of_block hzb 1
    have f2 := unfrozen_of_block hzb 2
    have f3 := unfrozen_of_block hzb 3
    have f4 := unfrozen_of_block hzb 4
    have f5 := unfrozen_of_block hzb 5
    have f6 := unfrozen_of_block hzb 6
    have f7 := unfrozen_of_block hzb 7
    clear hzb
    go_wp2_with fail
    refine bodyPost_ret (v := .tuple #[.agg #[.slice none 0 0, .slice none 0 0, .slice none 0 0, .slice none 0 0, .slice none 0 0, .slice none 0 0, .slice none 0 0, .slice none 0 0], .int .i64 ((eb : Int))]) (by simp [results, Try.results11, go_sem, *]) rfl ⟨Z3, by rw [HF.out]; rfl, by rw [HF.out]; exact LN.nil _ _, ?_⟩
    show Gr w (putCells w2 (w.heap.size + 1 + 1) 0 [.slice none 0 0, .slice none 0 0, .slice none 0 0, .slice none 0 0, .slice none 0 0, .slice none 0 0, .slice none 0 0, .slice none 0 0])
    exact Gr.putCells (by omega) _ _ (HG.out.trans HG2.out)
  subst h2
  have HJ2 : Hid (joinR a b = if okJ a b = true then (0, jnL a b) else (91, nilL)) := Lib.hid (HJ.out.trans (by simp))
  have HR0 : Hid (JpR w u v a b 0 u w2) := Lib.hid ⟨HA.out.gr HG2.out, HB.out.gr HG2.out, HZ.out.gr HG2.out, fun j hj => absurd hj (Nat.not_lt_zero _), fun _ _ => rfl, fun j hj => absurd hj (Nat.not_lt_zero _), HG.out.trans HG2.out⟩
  clear HC1 HC2
  go_wp2_with fail
  go_loopw [23] (fun i wr => ∃ k : Nat, k ≤ 8 ∧ i = .int .i64 k ∧ Hid (∃ us, JpR w u v a b k us wr)) (fun i _ => 8 - (intOf i).toNat)
  case atStart => exact ⟨0, by decide, rfl, Lib.hid ⟨_, HR0.out⟩⟩
  case round =>
    clear HR0
    obtain ⟨k, hk, rfl, hst⟩ := hrel
    rename World => wr
    obtain ⟨us, hjr⟩ := hst.out
    have HR := Lib.hid hjr
    clear hst hjr
    by_cases hlt : k < 8
    · have hk0 : (0 : Int) ≤ (k : Int) := Int.natCast_nonneg _
      have hk8 : (k : Int) < 8 := by omega
      obtain ⟨Aa, hAa⟩ : ∃ A, A = (u k).a := ⟨_, rfl⟩
      obtain ⟨an, han⟩ : ∃ n, n = (u k).n := ⟨_, rfl⟩
      obtain ⟨ac, hac⟩ : ∃ n, n = (u k).c := ⟨_, rfl⟩
      obtain ⟨Ab, hAb⟩ : ∃ A, A = (v k).a := ⟨_, rfl⟩
      obtain ⟨bn, hbn⟩ : ∃ n, n = (v k).n := ⟨_, rfl⟩
      obtain ⟨bc, hbc⟩ : ∃ n, n = (v k).c := ⟨_, rfl⟩
      have hal : an = (a k).length := by rw [han, HLA.out.len hlt]
      have hbl : bn = (b k).length := by rw [hbn, HLB.out.len hlt]
      have hanle : an ≤ 9223372036854775807 := by rw [hal]; exact HLA.out.le hlt
      have hbnle : bn ≤ 9223372036854775807 := by rw [hbl]; exact HLB.out.le hlt
      have ca := HR.out.xa.at hlt
      have cb := HR.out.xb.at hlt
      have xa := HLA.out k hlt
      have xb := HLB.out k hlt
      rw [HR.out.mt k (Nat.le_refl k)] at ca
      rw [← hAa, ← han, ← hac] at ca xa
      rw [← hAb, ← hbn, ← hbc] at cb xb
      have HCA := Lib.hid ca
      have HCB := Lib.hid cb
      have HXA := Lib.hid xa
      have HXB := Lib.hid xb
      have HAL := Lib.hid hal
      have HBL := Lib.hid hbl
      have hac2 : an ≤ ac ∧ ac ≤ maxLen := by
        have := HLA.out.cap hlt
        rw [hal, hac]; exact this
      have hbc2 : bn ≤ bc ∧ bc ≤ maxLen := by
        have := HLB.out.cap hlt
        rw [hbl, hbc]; exact this
      have HAC := Lib.hid hac2
      have HBC := Lib.hid hbc2
      clear xa xb hAa han hac hAb hbn hbc hal hbl hac2 hbc2
      go_upto_region 10 with (fail)
      clear ca cb
      refine qRegion (fun w' => w'.cell? ⟨w.heap.size, k, none⟩ = some (.slice Aa an ac) ∧ w'.cell? ⟨w.heap.size + 1, k, none⟩ = some (.slice Ab bn bc) ∧ Gr wr w') (by kernel_rfl) (by kernel_rfl) ⟨(Gr.refl _).drew.cell HCA.out, (Gr.refl _).drew.cell HCB.out, (Gr.refl _).drew⟩ ?_
      iterate 8
        refine qTake (by kernel_rfl) ?_
        apply Exists.intro
        refine ⟨fun wq hq => ?_, ?_⟩
        · go_light
          obtain ⟨e0, e1, -⟩ := hq
          go_simp
          try with_reducible rfl
          done
        try simp only [Act.put, List.setIfInBounds_toArray, List.set_cons_zero, List.set_cons_succ]
      refine qNil ?_
      rintro w3 ⟨-, -, hg3⟩
      have HR3 := Lib.hid (HR.out.next hg3)
      clear hg3 HR
      by_cases hba : bn < an
      case pos =>
        have hbai : (bn : Int) < (an : Int) := by omega
        have hsl := slice_to_g _ 12 elemTxn sizeTxn an ac bn (by have := HAC.out; omega) Aa
        obtain ⟨r, hr⟩ : ∃ r, r = sameL (b k) ((a k).take bn) := ⟨_, rfl⟩
        have HK := Lib.hid (fun w1 (g : Gr w w1) => sameL_any _ _ _ _ w1 (HXB.out.gr g) ((HXA.out.take (Nat.le_of_lt hba)).gr g))
        rw [← hr] at HK
        have HRR : Hid (sameL ((a k).take (b k).length) ((b k).take (a k).length) = r) := Lib.hid (by rw [hr]; rw [same_right hlt HNA.out HNB.out (by rw [← HAL.out, ← HBL.out]; omega), ← HBL.out])
        have HXJ : Hid (r = true → XV w (.slice Aa an ac) (jnL a b k)) := Lib.hid (fun hrt => by
          unfold jnL; rw [if_neg (by rw [← HAL.out, ← HBL.out]; omega)]; exact HXA.out)
        clear hr
        go_wp2_with fail
        refine (HK.out _ HR3.out.gr).mono ?_
        rintro e w4 ⟨rfl, hg4⟩
        have HR4 := Lib.hid (HR3.out.next hg4)
        clear hg4 HK hsl HR3
        rcases r with _ | _
        · have HF : Hid (joinR a b = (91, nilL)) := Lib.hid (by rw [HJ2.out, if_neg (by rw [okJ_no hlt HRR.out]; simp)])
          obtain ⟨s0, s1, s2, s3, s4, s5, s6, s7⟩ := (HR4.out.xz).zero
          have hzb := (HR4.out.xz).box
          have f0 := unfrozen_of_block hzb 0
          have f1 := unfrozen_of_block hzb 1
          have f2 := unfrozen_of_block hzb 2
          have f3 := unfrozen_of_block hzb 3
          have f4 := unfrozen_of_block hzb 4
          have f5 := unfrozen_of_block hzb 5
          have f6 := unfrozen_of_block hzb 6
          have f7 := unfrozen_of_block hzb 7
          clear hzb
          go_wp2_with fail
          refine bodyPost_ret (v := .tuple #[.agg #[.slice none 0 0, .slice none 0 0, .slice none 0 0, .slice none 0 0, .slice none 0 0, .slice none 0 0, .slice none 0 0, .slice none 0 0], .int .i64 (91)]) (by simp [results, Try.results11, go_sem, *]) rfl ⟨Z3, by rw [HF.out]; rfl, by rw [HF.out]; exact LN.nil _ _, ?_⟩
          show Gr w (putCells w4 (w.heap.size + 1 + 1) 0 [.slice none 0 0, .slice none 0 0, .slice none 0 0, .slice none 0 0, .slice none 0 0, .slice none 0 0, .slice none 0 0, .slice none 0 0])
          exact Gr.putCells (by omega) _ _ (HR4.out.gr)
        · have so := HR4.out.xa.at hlt
          have fo : w4.frozen? ⟨w.heap.size, k, none⟩ = false := unfrozen_of_block HR4.out.xa.box k
          have HR5 := Lib.hid (HR4.out.more hlt (HXJ.out rfl) HRR.out)
          go_wp2_with fail
          go_roundw
          case measure => simp [intOf]; omega
          case rel => exact ⟨k + 1, by omega, by go_num, Lib.hid ⟨_, HR5.out⟩⟩
      case neg =>
        have hbai : ¬ ((bn : Int) < (an : Int)) := by omega
        have hsl := slice_to_g _ 12 elemTxn sizeTxn bn bc an (by have := HBC.out; omega) Ab
        obtain ⟨r, hr⟩ : ∃ r, r = sameL (a k) ((b k).take an) := ⟨_, rfl⟩
        have HK := Lib.hid (fun w1 (g : Gr w w1) => sameL_any _ _ _ _ w1 (HXA.out.gr g) ((HXB.out.take (Nat.le_of_not_lt hba)).gr g))
        rw [← hr] at HK
        have HRR : Hid (sameL ((a k).take (b k).length) ((b k).take (a k).length) = r) := Lib.hid (by rw [hr]; rw [same_left hlt HNA.out HNB.out (by rw [← HAL.out, ← HBL.out]; omega), ← HAL.out])
        have HXJ : Hid (r = true → XV w (.slice Ab bn bc) (jnL a b k)) := Lib.hid (fun hrt => by
          unfold jnL
          by_cases q : (a k).length < (b k).length
          · rw [if_pos q]; exact HXB.out
          · rw [if_neg q]
            have e := (sameL_can (fun t ht => HNA.out k t hlt ht) (fun t ht => HNB.out k t hlt (List.mem_of_mem_take ht))).1 (hr.symm.trans hrt)
            rw [e, List.take_of_length_le (by have := HAL.out; have := HBL.out; omega)]
            exact HXB.out)
        clear hr
        go_wp2_with fail
        refine (HK.out _ HR3.out.gr).mono ?_
        rintro e w4 ⟨rfl, hg4⟩
        have HR4 := Lib.hid (HR3.out.next hg4)
        clear hg4 HK hsl HR3
        rcases r with _ | _
        · have HF : Hid (joinR a b = (91, nilL)) := Lib.hid (by rw [HJ2.out, if_neg (by rw [okJ_no hlt HRR.out]; simp)])
          obtain ⟨s0, s1, s2, s3, s4, s5, s6, s7⟩ := (HR4.out.xz).zero
          have hzb := (HR4.out.xz).box
          have f0 := unfrozen_of_block hzb 0
          have f1 := unfrozen_of_block hzb 1
          have f2 := unfrozen_of_block hzb 2
          have f3 := unfrozen_of_block hzb 3
          have f4 := unfrozen_of_block hzb 4
          have f5 := unfrozen_of_block hzb 5
          have f6 := unfrozen_of_block hzb 6
          have f7 := unfrozen_of_block hzb 7
          clear hzb
          go_wp2_with fail
          refine bodyPost_ret (v := .tuple #[.agg #[.slice none 0 0, .slice none 0 0, .slice none 0 0, .slice none 0 0, .slice none 0 0, .slice none 0 0, .slice none 0 0, .slice none 0 0], .int .i64 (91)]) (by simp [results, Try.results11, go_sem, *]) rfl ⟨Z3, by rw [HF.out]; rfl, by rw [HF.out]; exact LN.nil _ _, ?_⟩
          show Gr w (putCells w4 (w.heap.size + 1 + 1) 0 [.slice none 0 0, .slice none 0 0, .slice none 0 0, .slice none 0 0, .slice none 0 0, .slice none 0 0, .slice none 0 0, .slice none 0 0])
          exact Gr.putCells (by omega) _ _ (HR4.out.gr)
        · have so := HR4.out.xa.at hlt
          have fo : w4.frozen? ⟨w.heap.size, k, none⟩ = false := unfrozen_of_block HR4.out.xa.box k
          have HR5 := Lib.hid (HR4.out.more hlt (HXJ.out rfl) HRR.out)
          go_wp2_with fail
          go_roundw
          case measure => simp [intOf]; omega
          case rel => exact ⟨k + 1, by omega, by go_num, Lib.hid ⟨_, HR5.out⟩⟩
    · obtain rfl : k = 8 := by omega
      have HF : Hid (joinR a b = (0, jnL a b)) := Lib.hid (by rw [HJ2.out, if_pos (okJ_iff.2 HR.out.ok)])
      have HCPY := Lib.hid (ccopy_any us (jnL a b) wr (fun i hi => (HR.out.lv i hi).gr HR.out.gr) HFC.out)
      have HZ8 := Lib.hid HR.out.xz
      have HG8 := Lib.hid HR.out.gr
      obtain ⟨l0, l1, l2, l3, l4, l5, l6, l7⟩ := HR.out.xa.all
      go_wp2_with fail
      refine HCPY.out.mono ?_
      rintro e w9 ⟨u9, rfl, hln9, g9⟩
      have HLN9 := Lib.hid hln9
      have HG9 := Lib.hid g9
      obtain ⟨s0, s1, s2, s3, s4, s5, s6, s7⟩ := (HZ8.out.gr g9).zero
      have hzb := (HZ8.out.gr g9).box
      have f0 := unfrozen_of_block hzb 0
      have f1 := unfrozen_of_block hzb 1
      have f2 := unfrozen_of_block hzb 2
      have f3 := unfrozen_of_block hzb 3
      have f4 := unfrozen_of_block hzb 4
      have f5 := unfrozen_of_block hzb 5
      have f6 := unfrozen_of_block hzb 6
      have f7 := unfrozen_of_block hzb 7
      have HZL := Lib.hid (Array.getElem?_eq_some_iff.1 HZ8.out.box).1
      clear hzb g9 hln9 l0 l1 l2 l3 l4 l5 l6 l7
      go_wp2_with fail
      refine bodyPost_ret (v := .tuple #[.agg (lcells u9), .int .i64 0]) (by simp [results, Try.results11, go_sem, *]) rfl ⟨u9, by rw [HF.out]; rfl, ?_, ?_⟩
      · rw [HF.out]
        show LN (putCells w9 (w.heap.size + 1 + 1) 0 [.slice (u9 0).a (u9 0).n (u9 0).c, .slice (u9 1).a (u9 1).n (u9 1).c, .slice (u9 2).a (u9 2).n (u9 2).c, .slice (u9 3).a (u9 3).n (u9 3).c, .slice (u9 4).a (u9 4).n (u9 4).c, .slice (u9 5).a (u9 5).n (u9 5).c, .slice (u9 6).a (u9 6).n (u9 6).c, .slice (u9 7).a (u9 7).n (u9 7).c]) w.heap.size u9 (jnL a b)
        exact copied_ln HLN9.out HZL.out HG8.out.size _ _
      · show Gr w (putCells w9 (w.heap.size + 1 + 1) 0 [.slice (u9 0).a (u9 0).n (u9 0).c, .slice (u9 1).a (u9 1).n (u9 1).c, .slice (u9 2).a (u9 2).n (u9 2).c, .slice (u9 3).a (u9 3).n (u9 3).c, .slice (u9 4).a (u9 4).n (u9 4).c, .slice (u9 5).a (u9 5).n (u9 5).c, .slice (u9 6).a (u9 6).n (u9 6).c, .slice (u9 7).a (u9 7).n (u9 7).c])
        exact Gr.putCells (by omega) _ _ (HG8.out.trans HG9.out)
end Go.Proofs.Ytlgljanofppleaa
