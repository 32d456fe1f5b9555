/- Join: its answer (joinR); walks: the document's Join. -/
import Derived.Test.YtlgljanofppleaaCutG
import Derived.Test.YtlgljanofppleaaCutP
import Derived.Test.YtlgljanofppleaaCutS
import Derived.Test.YtlgljanofppleaaCutU
namespace Go.Proofs.Ytlgljanofppleaa
open Go.RowKit Go.Joins
set_option linter.unusedSimpArgs false
set_option linter.unusedVariables false

theorem elemTxn : Try.prog.underlying 22 = some (.slice (Try.prog.elem 22)) := by kernel_rfl
theorem sizeTxn : ∀ W : World, (sizeOf (Try.prog.elem 22)).run Try.prog W = .ok 12 W := fun W => by kernel_rfl
theorem XV.take {w : World} {A : Option Addr} {n c k : Nat} {L : List TX} (h : XV w (.slice A n c) L) (hk : k ≤ n) : XV w (.slice A k c) (L.take k) := by
  obtain ⟨A', c', hv, h1, h2, h3⟩ := h
  injection hv with e1 e2 e3
  subst e1 e2 e3
  have hl : (L.take k).length = k := by rw [List.length_take]; omega
  refine ⟨A, c, by rw [hl], by omega, h2, fun j hj => ?_⟩
  obtain ⟨b, off, ha, hc⟩ := h3 j (by omega)
  exact ⟨b, off, ha, by rw [List.getElem_take]; exact hc⟩
/-- Are the logs the same as far as both reach? -/
def okJ (a b : LG) : Bool := (List.range 8).all fun i => sameL ((a i).take (b i).length) ((b i).take (a i).length)
theorem okJ_iff {a b : LG} : okJ a b = true ↔ ∀ i, i < 8 → sameL ((a i).take (b i).length) ((b i).take (a i).length) = true := by simp [okJ]
theorem okJ_no {a b : LG} {i : Nat} (hi : i < 8) (h : sameL ((a i).take (b i).length) ((b i).take (a i).length) = false) : okJ a b = false := by
  rw [Bool.eq_false_iff]
  intro e
  rw [okJ_iff.1 e i hi] at h
  cases h
/-- What Join answers: its error, its logs. -/
def joinR (a b : LG) : Nat × LG :=
  if checkE a = 0 then (if checkE b = 0 then (if okJ a b = true then (0, jnL a b) else (91, nilL)) else (checkE b, nilL)) else (checkE a, nilL)
theorem fitC_jn {a b : LG} (ha : FitC a) (hb : FitC b) : FitC (jnL a b) := by
  refine ⟨fun i hi => ?_, fun i t hi ht => ?_⟩
  · unfold jnL
    split
    · exact hb.len i hi
    · exact ha.len i hi
  · unfold jnL at ht
    split at ht
    · exact hb.tx i t hi ht
    · exact ha.tx i t hi ht
theorem boxesJn (u v : Nat → S3) (w : World) : ∃ W, W = ((w.alloc (.cells (lcells u) 24)).alloc (.cells (lcells v) 24)).alloc (.cells (lcells fun _ => ⟨none, 0, 0⟩) 24) ∧ Gr w W ∧ W.heap.size = w.heap.size + 3 ∧
    LBox W w.heap.size u ∧ LBox W (w.heap.size + 1) v ∧ LBox W (w.heap.size + 1 + 1) Z3 := by
  obtain ⟨W, hW, hg, hs, hA, hB⟩ := boxesLL u v w
  rw [← hW]
  have h1 := heap_alloc W (lcells fun _ => ⟨none, 0, 0⟩) 24
  rw [hs] at h1
  exact ⟨_, rfl, hg.alloc _, by simp [hs], hA.gr ((Gr.refl _).alloc _), hB.gr ((Gr.refl _).alloc _), ⟨h1⟩⟩
/-- What Join's rounds leave: of the first k logs the longer one stands in the answer. -/
structure JrR (w : World) (u v : Nat → S3) (a b : LG) (P : Nat) (k : Nat) (us : Nat → S3) (wr : World) : Prop where
  xa : LBox wr w.heap.size u
  xb : LBox wr (w.heap.size + 1) v
  xz : LBox wr (w.heap.size + 1 + 1) Z3
  xo : LBox wr P us
  lv : ∀ j, j < k → us j = if (a j).length < (b j).length then v j else u j
  ok : ∀ j, j < k → sameL ((a j).take (b j).length) ((b j).take (a j).length) = true
  gr : Gr w wr
theorem JrR.next {w wr w' : World} {u v us : Nat → S3} {a b : LG} {P k : Nat} (h : JrR w u v a b P k us wr) (g : Gr wr w') : JrR w u v a b P k us w' :=
  ⟨h.xa.gr g, h.xb.gr g, h.xz.gr g, h.xo.gr g, h.lv, h.ok, h.gr.trans g⟩
theorem JrR.put {w wr : World} {u v us : Nat → S3} {a b : LG} {P k : Nat} (h : JrR w u v a b P k us wr) (hP : w.heap.size + 3 ≤ P) {j : Nat} (hj : k ≤ j) (h8 : j < 8) (A : Option Addr) (n c : Nat) : JrR w u v a b P k (updS us j ⟨A, n, c⟩) (wr.setCell ⟨P, j, none⟩ (.slice A n c)) :=
  ⟨h.xa.far (by simp only []; omega) _, h.xb.far (by simp only []; omega) _, h.xz.far (by simp only []; omega) _, h.xo.set h8 _ _ _, fun i hi => by
    show (if i = j then _ else us i) = _
    rw [if_neg (by omega)]; exact h.lv i hi, h.ok, h.gr.setCell (by show w.heap.size ≤ P; omega) _⟩
theorem JrR.more {w wr : World} {u v us : Nat → S3} {a b : LG} {P k : Nat} (h : JrR w u v a b P k us wr) (e : us k = if (a k).length < (b k).length then v k else u k) (hs : sameL ((a k).take (b k).length) ((b k).take (a k).length) = true) : JrR w u v a b P (k + 1) us wr :=
  ⟨h.xa, h.xb, h.xz, h.xo, fun j hj => by
    by_cases q : j = k
    · rw [q]; exact e
    · exact h.lv j (by omega), fun j hj => by
    by_cases q : j = k
    · rw [q]; exact hs
    · exact h.ok j (by omega), h.gr⟩
theorem JrR.end {w wr : World} {u v us : Nat → S3} {a b : LG} {P : Nat} (h : JrR w u v a b P 8 us wr) (ha : LV w u a) (hb : LV w v b) : LV wr us (jnL a b) := fun i hi => by
  rw [h.lv i hi]
  unfold jnL
  by_cases e : (a i).length < (b i).length
  · rw [if_pos e, if_pos e]; exact (hb i hi).gr h.gr
  · rw [if_neg e, if_neg e]; exact (ha i hi).gr h.gr

set_option maxRecDepth 100000 in
set_option maxHeartbeats 4000000 in
theorem rjoin9_any (u v : Nat → S3) (a b : LG) (w : World) (ha : LV w u a) (hb : LV w v b) (hqa : FitQ a) (hqb : FitQ b) (hfa : FitC a) (hfb : FitC b) :
    Calls Try.prog 13 #[.agg (lcells u), .agg (lcells v)] w fun e w' => ∃ u', e = .returned (.tuple #[.agg (lcells u'), .int .i64 ((joinR a b).1 : Int)]) ∧ LN w' w.heap.size u' (joinR a b).2 ∧ Gr w w' := by
  obtain ⟨W, hW, hg, hsz, hA, hB, hZ⟩ := boxesJn u v w
  have HA := Lib.hid hA
  have HB := Lib.hid hB
  have HZ := Lib.hid hZ
  have HG := Lib.hid hg
  have HSZ := Lib.hid hsz
  have HLA := Lib.hid ha
  have HLB := Lib.hid hb
  have HFC := Lib.hid (fitC_jn hfa hfb)
  have HC1 := Lib.hid (rcheck9_any u a W (ha.gr hg) hqa)
  have HC2 := Lib.hid (fun w1 (g : Gr W w1) => rcheck9_any v b w1 ((hb.gr hg).gr g) hqb)
  obtain ⟨l0, l1, l2, l3, l4, l5, l6, l7⟩ := hA.all
  clear ha hb hqa hqb hfa hfb hg hsz hA hB hZ
  go_enter Try.func13, Try.ntmps13
  go_upto_region 1 with (fail)
  rw [← hW]
  clear hW
  obtain ⟨ea, hea⟩ : ∃ x, x = checkE a := ⟨_, rfl⟩
  obtain ⟨eb, heb⟩ : ∃ x, x = checkE b := ⟨_, rfl⟩
  have HJ : Hid (joinR a b = if ea = 0 then (if eb = 0 then (if okJ a b = true then (0, jnL a b) else (91, nilL)) else (eb, nilL)) else (ea, nilL)) := Lib.hid (by rw [hea, heb]; rfl)
  rw [← hea] at HC1
  rw [← heb] at HC2
  clear hea heb
  go_wp2_with fail
  refine HC1.out.mono ?_
  rintro e w1 ⟨rfl, g1⟩
  have HG1 := Lib.hid g1
  clear g1 l0 l1 l2 l3 l4 l5 l6 l7
  by_cases h1 : ea = 0
  case neg =>
    have HF : Hid (joinR a b = (ea, nilL)) := Lib.hid (by rw [HJ.out, if_neg h1])
    have hne : ¬ ((ea : Int) = 0) := by omega
    obtain ⟨s0, s1, s2, s3, s4, s5, s6, s7⟩ := (HZ.out.gr HG1.out).zero
    have hzb := (HZ.out.gr HG1.out).box
    have f0 := unfrozen_of_block hzb 0
    have f1 := unfrozen_of_block hzb 1
    have f2 := unfrozen_of_block hzb 2
    have f3 := unfrozen_of_block hzb 3
    have f4 := unfrozen_of_block hzb 4
    have f5 := unfrozen_of_block hzb 5
    have f6 := unfrozen_of_block hzb 6
    have f7 := unfrozen_of_block hzb 7
    clear hzb
    go_wp2_with fail
    refine bodyPost_ret (v := .tuple #[.agg #[.slice none 0 0, .slice none 0 0, .slice none 0 0, .slice none 0 0, .slice none 0 0, .slice none 0 0, .slice none 0 0, .slice none 0 0], .int .i64 ((ea : Int))]) (by simp [results, Try.results13, go_sem, *]) rfl ⟨Z3, by rw [HF.out]; rfl, by rw [HF.out]; exact LN.nil _ _, ?_⟩
    show Gr w (putCells w1 (w.heap.size + 1 + 1) 0 [.slice none 0 0, .slice none 0 0, .slice none 0 0, .slice none 0 0, .slice none 0 0, .slice none 0 0, .slice none 0 0, .slice none 0 0])
    exact Gr.putCells (by omega) _ _ (HG.out.trans HG1.out)
  subst h1
  obtain ⟨l0, l1, l2, l3, l4, l5, l6, l7⟩ := (HB.out.gr HG1.out).all
  go_wp2_with fail
  refine (HC2.out _ HG1.out).mono ?_
  rintro e w2 ⟨rfl, g2⟩
  have HG2 := Lib.hid (HG1.out.trans g2)
  clear g2 l0 l1 l2 l3 l4 l5 l6 l7
  by_cases h2 : eb = 0
  case neg =>
    have HF : Hid (joinR a b = (eb, nilL)) := Lib.hid (HJ.out.trans (by simp [h2]))
    have hne : ¬ ((eb : Int) = 0) := by omega
    obtain ⟨s0, s1, s2, s3, s4, s5, s6, s7⟩ := (HZ.out.gr HG2.out).zero
    have hzb := (HZ.out.gr HG2.out).box
    have f0 := unfrozen_of_block hzb 0
    have f1 := unfrozen_of_block hzb 1
    have f2 := unfrozen_of_block hzb 2
    have f3 := unfrozen_of_block hzb 3
    have f4 := unfrozen_of_block hzb 4
    have f5 := unfrozen_of_block hzb 5
    have f6 := unfrozen_of_block hzb 6
    have f7 := unfrozen_of_block hzb 7
    clear hzb
    go_wp2_with fail
    refine bodyPost_ret (v := .tuple #[.agg #[.slice none 0 0, .slice none 0 0, .slice none 0 0, .slice none 0 0, .slice none 0 0, .slice none 0 0, .slice none 0 0, .slice none 0 0], .int .i64 ((eb : Int))]) (by simp [results, Try.results13, go_sem, *]) rfl ⟨Z3, by rw [HF.out]; rfl, by rw [HF.out]; exact LN.nil _ _, ?_⟩
    show Gr w (putCells w2 (w.heap.size + 1 + 1) 0 [.slice none 0 0, .slice none 0 0, .slice none 0 0, .slice none 0 0, .slice none 0 0, .slice none 0 0, .slice none 0 0, .slice none 0 0])
    exact Gr.putCells (by omega) _ _ (HG.out.trans HG2.out)
  subst h2
  have HJ2 : Hid (joinR a b = if okJ a b = true then (0, jnL a b) else (91, nilL)) := Lib.hid (HJ.out.trans (by simp))
  have HP : Hid (w.heap.size + 3 ≤ w2.heap.size) := Lib.hid (by rw [← HSZ.out]; exact HG2.out.size)
  have g3 : Gr W (w2.alloc (.cells (lcells fun _ => ⟨none, 0, 0⟩) 24)) := HG2.out.alloc _
  have HR0 : Hid (JrR w u v a b w2.heap.size 0 (fun _ => ⟨none, 0, 0⟩) (w2.alloc (.cells (lcells fun _ => ⟨none, 0, 0⟩) 24))) := Lib.hid ⟨HA.out.gr g3, HB.out.gr g3, HZ.out.gr g3, ⟨heap_alloc _ _ _⟩, fun j hj => absurd hj (Nat.not_lt_zero _), fun j hj => absurd hj (Nat.not_lt_zero _), HG.out.trans g3⟩
  clear g3 HC1 HC2
  go_wp2_with fail
  go_loopw [9] (fun i wr => ∃ k : Nat, k ≤ 8 ∧ i = .int .i64 k ∧ Hid (∃ us, JrR w u v a b w2.heap.size k us wr)) (fun i _ => 8 - (intOf i).toNat)
  case atStart => exact ⟨0, by decide, rfl, Lib.hid ⟨_, HR0.out⟩⟩
  case round =>
    clear HR0
    obtain ⟨k, hk, rfl, hst⟩ := hrel
    rename World => wr
    obtain ⟨us, hjr⟩ := hst.out
    have HR := Lib.hid hjr
    clear hst hjr
    by_cases hlt : k < 8
    · have hk0 : (0 : Int) ≤ (k : Int) := Int.natCast_nonneg _
      have hk8 : (k : Int) < 8 := by omega
      obtain ⟨Aa, hAa⟩ : ∃ A, A = (u k).a := ⟨_, rfl⟩
      obtain ⟨an, han⟩ : ∃ n, n = (u k).n := ⟨_, rfl⟩
      obtain ⟨ac, hac⟩ : ∃ n, n = (u k).c := ⟨_, rfl⟩
      obtain ⟨Ab, hAb⟩ : ∃ A, A = (v k).a := ⟨_, rfl⟩
      obtain ⟨bn, hbn⟩ : ∃ n, n = (v k).n := ⟨_, rfl⟩
      obtain ⟨bc, hbc⟩ : ∃ n, n = (v k).c := ⟨_, rfl⟩
      have hal : an = (a k).length := by rw [han, HLA.out.len hlt]
      have hbl : bn = (b k).length := by rw [hbn, HLB.out.len hlt]
      have hanle : an ≤ 9223372036854775807 := by rw [hal]; exact HLA.out.le hlt
      have hbnle : bn ≤ 9223372036854775807 := by rw [hbl]; exact HLB.out.le hlt
      have ca := HR.out.xa.at hlt
      have cb := HR.out.xb.at hlt
      have xa := HLA.out k hlt
      have xb := HLB.out k hlt
      rw [← hAa, ← han, ← hac] at ca xa
      rw [← hAb, ← hbn, ← hbc] at cb xb
      have HCA := Lib.hid ca
      have HCB := Lib.hid cb
      have HUK : Hid (u k = ⟨Aa, an, ac⟩) := Lib.hid (by rw [hAa, han, hac])
      have HVK : Hid (v k = ⟨Ab, bn, bc⟩) := Lib.hid (by rw [hAb, hbn, hbc])
      have HAL := Lib.hid hal
      have HBL := Lib.hid hbl
      obtain ⟨m, hm⟩ : ∃ m, m = min an bn := ⟨_, rfl⟩
      have hma : m ≤ an := by omega
      have hmb : m ≤ bn := by omega
      have hac2 : an ≤ ac ∧ ac ≤ maxLen := by
        have := HLA.out.cap hlt
        rw [hal, hac]; exact this
      have hbc2 : bn ≤ bc ∧ bc ≤ maxLen := by
        have := HLB.out.cap hlt
        rw [hbl, hbc]; exact this
      have hs1 := slice_to_g _ 12 elemTxn sizeTxn an ac m (by omega) Aa
      have hs2 := slice_to_g _ 12 elemTxn sizeTxn bn bc m (by omega) Ab
      obtain ⟨r, hr⟩ : ∃ r, r = sameL ((a k).take m) ((b k).take m) := ⟨_, rfl⟩
      have HK := Lib.hid (fun w1 (g : Gr w w1) => rsameL_any _ _ _ _ w1 ((xa.take hma).gr g) ((xb.take hmb).gr g))
      rw [← hr] at HK
      have HRR : Hid (sameL ((a k).take (b k).length) ((b k).take (a k).length) = r) := Lib.hid (by
        rw [hr]
        have e1 : (a k).take (b k).length = (a k).take m := by
          by_cases q : an ≤ bn
          · rw [show m = an by omega, hal, List.take_length, List.take_of_length_le (by omega)]
          · rw [show m = bn by omega, hbl]
        have e2 : (b k).take (a k).length = (b k).take m := by
          by_cases q : bn ≤ an
          · rw [show m = bn by omega, hbl, List.take_length, List.take_of_length_le (by omega)]
          · rw [show m = an by omega, hal]
        rw [e1, e2])
      clear hr xa xb hAa han hac hAb hbn hbc hal hbl hac2 hbc2 hma hmb
      have hmi : (m : Int) = if bn < an then (bn : Int) else (an : Int) := by
        split <;> omega
      have hlti : (bn < an) ↔ ((bn : Int) < (an : Int)) := by omega
      have HMI : Hid (m = min an bn) := Lib.hid hm
      clear hmi hlti
      by_cases hba : bn < an
      case pos =>
        have hbai : (bn : Int) < (an : Int) := by omega
        have hmb : (bn : Int) = (m : Int) := by omega
        clear hm
        go_upto_region 14 with (fail)
        try rw [hmb]
        clear hmb
        clear ca cb
        refine qRegion (fun w' => w'.cell? ⟨w.heap.size, k, none⟩ = some (.slice Aa an ac) ∧ w'.cell? ⟨w.heap.size + 1, k, none⟩ = some (.slice Ab bn bc) ∧ Gr wr w') (by kernel_rfl) (by kernel_rfl) ⟨(Gr.refl _).drew.cell HCA.out, (Gr.refl _).drew.cell HCB.out, (Gr.refl _).drew⟩ ?_
        iterate 10
          refine qTake (by kernel_rfl) ?_
          apply Exists.intro
          refine ⟨fun wq hq => ?_, ?_⟩
          · go_light
            obtain ⟨e0, e1, -⟩ := hq
            go_simp
            try with_reducible rfl
            done
          try simp only [Act.put, List.setIfInBounds_toArray, List.set_cons_zero, List.set_cons_succ]
        refine qCall (by kernel_rfl) ?_
        apply Exists.intro
        refine ⟨?_, ?_⟩
        · apply Exists.intro
          apply Exists.intro
          refine ⟨fun wq => ?_, fun wq hq => ?_⟩
          · go_light
            go_simp
            exact ⟨rfl, rfl⟩
          · exact (HK.out wq (HR.out.gr.trans hq.2.2)).mono fun e w'' ⟨he, hg⟩ => ⟨he, hg.cell hq.1, hg.cell hq.2.1, hq.2.2.trans hg⟩
        try simp only [Act.put, List.setIfInBounds_toArray, List.set_cons_zero, List.set_cons_succ]
        iterate 1
          refine qTake (by kernel_rfl) ?_
          apply Exists.intro
          refine ⟨fun wq hq => ?_, ?_⟩
          · go_light
            obtain ⟨e0, e1, -⟩ := hq
            go_simp
            try with_reducible rfl
            done
          try simp only [Act.put, List.setIfInBounds_toArray, List.set_cons_zero, List.set_cons_succ]
        refine qNil ?_
        rintro w3 ⟨ca, cb, hg3⟩
        have HR3 := Lib.hid (HR.out.next hg3)
        clear hg3 hs1 hs2 HR
        rcases r with _ | _
        · clear ca cb
          have HF : Hid (joinR a b = (91, nilL)) := Lib.hid (by rw [HJ2.out, if_neg (by rw [okJ_no hlt HRR.out]; simp)])
          obtain ⟨s0, s1, s2, s3, s4, s5, s6, s7⟩ := (HR3.out.xz).zero
          have hzb := (HR3.out.xz).box
          have f0 := unfrozen_of_block hzb 0
          have f1 := unfrozen_of_block hzb 1
          have f2 := unfrozen_of_block hzb 2
          have f3 := unfrozen_of_block hzb 3
          have f4 := unfrozen_of_block hzb 4
          have f5 := unfrozen_of_block hzb 5
          have f6 := unfrozen_of_block hzb 6
          have f7 := unfrozen_of_block hzb 7
          clear hzb
          go_wp2_with fail
          refine bodyPost_ret (v := .tuple #[.agg #[.slice none 0 0, .slice none 0 0, .slice none 0 0, .slice none 0 0, .slice none 0 0, .slice none 0 0, .slice none 0 0, .slice none 0 0], .int .i64 (91)]) (by simp [results, Try.results13, go_sem, *]) rfl ⟨Z3, by rw [HF.out]; rfl, by rw [HF.out]; exact LN.nil _ _, ?_⟩
          show Gr w (putCells w3 (w.heap.size + 1 + 1) 0 [.slice none 0 0, .slice none 0 0, .slice none 0 0, .slice none 0 0, .slice none 0 0, .slice none 0 0, .slice none 0 0, .slice none 0 0])
          exact Gr.putCells (by omega) _ _ (HR3.out.gr)
        · have so := HR3.out.xo.at hlt
          have fo : w3.frozen? ⟨w2.heap.size, k, none⟩ = false := unfrozen_of_block HR3.out.xo.box k
          have HR4 := Lib.hid (HR3.out.put HP.out (Nat.le_refl k) hlt Aa an ac)
          have c4 := HR4.out.xb.at hlt
          have q4 : updS us k ⟨Aa, an, ac⟩ k = ⟨Aa, an, ac⟩ := if_pos rfl
          have so4 := HR4.out.xo.at hlt
          rw [q4] at so4
          have fo4 : (w3.setCell ⟨w2.heap.size, k, none⟩ (.slice Aa an ac)).frozen? ⟨w2.heap.size, k, none⟩ = false := unfrozen_of_block HR4.out.xo.box k
          rw [show v k = ⟨Ab, bn, bc⟩ from HVK.out] at c4
          by_cases hgt : m < bn
          · have hgti : (m : Int) < (bn : Int) := by omega
            have hlt2 : an < bn := by have := HMI.out; omega
            have HR5 := Lib.hid ((HR4.out.put HP.out (Nat.le_refl k) hlt Ab bn bc).more (by rw [if_pos (by rw [← HAL.out, ← HBL.out]; exact hlt2), HVK.out]; exact if_pos rfl) HRR.out)
            clear hlt2
            go_wp2_with fail
            go_roundw
            case measure => simp [intOf]; omega
            case rel => exact ⟨k + 1, by omega, by go_num, Lib.hid ⟨_, HR5.out⟩⟩
          · have hgti : ¬ ((m : Int) < (bn : Int)) := by omega
            have hlt2 : ¬ (an < bn) := by have := HMI.out; omega
            have HR5 := Lib.hid (HR4.out.more (by rw [if_neg (by rw [← HAL.out, ← HBL.out]; exact hlt2), HUK.out]; exact if_pos rfl) HRR.out)
            clear hlt2
            go_wp2_with fail
            go_roundw
            case measure => simp [intOf]; omega
            case rel => exact ⟨k + 1, by omega, by go_num, Lib.hid ⟨_, HR5.out⟩⟩
      case neg =>
        have hbai : ¬ ((bn : Int) < (an : Int)) := by omega
        have hmb : (an : Int) = (m : Int) := by omega
        clear hm
        go_upto_region 14 with (fail)
        try rw [hmb]
        clear hmb
        clear ca cb
        refine qRegion (fun w' => w'.cell? ⟨w.heap.size, k, none⟩ = some (.slice Aa an ac) ∧ w'.cell? ⟨w.heap.size + 1, k, none⟩ = some (.slice Ab bn bc) ∧ Gr wr w') (by kernel_rfl) (by kernel_rfl) ⟨(Gr.refl _).drew.cell HCA.out, (Gr.refl _).drew.cell HCB.out, (Gr.refl _).drew⟩ ?_
        iterate 10
          refine qTake (by kernel_rfl) ?_
          apply Exists.intro
          refine ⟨fun wq hq => ?_, ?_⟩
          · go_light
            obtain ⟨e0, e1, -⟩ := hq
            go_simp
            try with_reducible rfl
            done
          try simp only [Act.put, List.setIfInBounds_toArray, List.set_cons_zero, List.set_cons_succ]
        refine qCall (by kernel_rfl) ?_
        apply Exists.intro
        refine ⟨?_, ?_⟩
        · apply Exists.intro
          apply Exists.intro
          refine ⟨fun wq => ?_, fun wq hq => ?_⟩
          · go_light
            go_simp
            exact ⟨rfl, rfl⟩
          · exact (HK.out wq (HR.out.gr.trans hq.2.2)).mono fun e w'' ⟨he, hg⟩ => ⟨he, hg.cell hq.1, hg.cell hq.2.1, hq.2.2.trans hg⟩
        try simp only [Act.put, List.setIfInBounds_toArray, List.set_cons_zero, List.set_cons_succ]
        iterate 1
          refine qTake (by kernel_rfl) ?_
          apply Exists.intro
          refine ⟨fun wq hq => ?_, ?_⟩
          · go_light
            obtain ⟨e0, e1, -⟩ := hq
            go_simp
            try with_reducible rfl
            done
          try simp only [Act.put, List.setIfInBounds_toArray, List.set_cons_zero, List.set_cons_succ]
        refine qNil ?_
        rintro w3 ⟨ca, cb, hg3⟩
        have HR3 := Lib.hid (HR.out.next hg3)
        clear hg3 hs1 hs2 HR
        rcases r with _ | _
        · clear ca cb
          have HF : Hid (joinR a b = (91, nilL)) := Lib.hid (by rw [HJ2.out, if_neg (by rw [okJ_no hlt HRR.out]; simp)])
          obtain ⟨s0, s1, s2, s3, s4, s5, s6, s7⟩ := (HR3.out.xz).zero
          have hzb := (HR3.out.xz).box
          have f0 := unfrozen_of_block hzb 0
          have f1 := unfrozen_of_block hzb 1
          have f2 := unfrozen_of_block hzb 2
          have f3 := unfrozen_of_block hzb 3
          have f4 := unfrozen_of_block hzb 4
          have f5 := unfrozen_of_block hzb 5
          have f6 := unfrozen_of_block hzb 6
          have f7 := unfrozen_of_block hzb 7
          clear hzb
          go_wp2_with fail
          refine bodyPost_ret (v := .tuple #[.agg #[.slice none 0 0, .slice none 0 0, .slice none 0 0, .slice none 0 0, .slice none 0 0, .slice none 0 0, .slice none 0 0, .slice none 0 0], .int .i64 (91)]) (by simp [results, Try.results13, go_sem, *]) rfl ⟨Z3, by rw [HF.out]; rfl, by rw [HF.out]; exact LN.nil _ _, ?_⟩
          show Gr w (putCells w3 (w.heap.size + 1 + 1) 0 [.slice none 0 0, .slice none 0 0, .slice none 0 0, .slice none 0 0, .slice none 0 0, .slice none 0 0, .slice none 0 0, .slice none 0 0])
          exact Gr.putCells (by omega) _ _ (HR3.out.gr)
        · have so := HR3.out.xo.at hlt
          have fo : w3.frozen? ⟨w2.heap.size, k, none⟩ = false := unfrozen_of_block HR3.out.xo.box k
          have HR4 := Lib.hid (HR3.out.put HP.out (Nat.le_refl k) hlt Aa an ac)
          have c4 := HR4.out.xb.at hlt
          have q4 : updS us k ⟨Aa, an, ac⟩ k = ⟨Aa, an, ac⟩ := if_pos rfl
          have so4 := HR4.out.xo.at hlt
          rw [q4] at so4
          have fo4 : (w3.setCell ⟨w2.heap.size, k, none⟩ (.slice Aa an ac)).frozen? ⟨w2.heap.size, k, none⟩ = false := unfrozen_of_block HR4.out.xo.box k
          rw [show v k = ⟨Ab, bn, bc⟩ from HVK.out] at c4
          by_cases hgt : m < bn
          · have hgti : (m : Int) < (bn : Int) := by omega
            have hlt2 : an < bn := by have := HMI.out; omega
            have HR5 := Lib.hid ((HR4.out.put HP.out (Nat.le_refl k) hlt Ab bn bc).more (by rw [if_pos (by rw [← HAL.out, ← HBL.out]; exact hlt2), HVK.out]; exact if_pos rfl) HRR.out)
            clear hlt2
            go_wp2_with fail
            go_roundw
            case measure => simp [intOf]; omega
            case rel => exact ⟨k + 1, by omega, by go_num, Lib.hid ⟨_, HR5.out⟩⟩
          · have hgti : ¬ ((m : Int) < (bn : Int)) := by omega
            have hlt2 : ¬ (an < bn) := by have := HMI.out; omega
            have HR5 := Lib.hid (HR4.out.more (by rw [if_neg (by rw [← HAL.out, ← HBL.out]; exact hlt2), HUK.out]; exact if_pos rfl) HRR.out)
            clear hlt2
            go_wp2_with fail
            go_roundw
            case measure => simp [intOf]; omega
            case rel => exact ⟨k + 1, by omega, by go_num, Lib.hid ⟨_, HR5.out⟩⟩
    · obtain rfl : k = 8 := by omega
      have HF : Hid (joinR a b = (0, jnL a b)) := Lib.hid (by rw [HJ2.out, if_pos (okJ_iff.2 HR.out.ok)])
      have HCPY := Lib.hid (rcopy9_any us (jnL a b) wr (HR.out.end HLA.out HLB.out) HFC.out)
      have HZ8 := Lib.hid HR.out.xz
      have HG8 := Lib.hid HR.out.gr
      obtain ⟨l0, l1, l2, l3, l4, l5, l6, l7⟩ := HR.out.xo.all
      go_wp2_with fail
      refine HCPY.out.mono ?_
      rintro e w9 ⟨u9, rfl, hln9, g9⟩
      have HLN9 := Lib.hid hln9
      have HG9 := Lib.hid g9
      obtain ⟨s0, s1, s2, s3, s4, s5, s6, s7⟩ := (HZ8.out.gr g9).zero
      have hzb := (HZ8.out.gr g9).box
      have f0 := unfrozen_of_block hzb 0
      have f1 := unfrozen_of_block hzb 1
      have f2 := unfrozen_of_block hzb 2
      have f3 := unfrozen_of_block hzb 3
      have f4 := unfrozen_of_block hzb 4
      have f5 := unfrozen_of_block hzb 5
      have f6 := unfrozen_of_block hzb 6
      have f7 := unfrozen_of_block hzb 7
      have HZL := Lib.hid (Array.getElem?_eq_some_iff.1 HZ8.out.box).1
      clear hzb g9 hln9 l0 l1 l2 l3 l4 l5 l6 l7
      go_wp2_with fail
      refine bodyPost_ret (v := .tuple #[.agg (lcells u9), .int .i64 0]) (by simp [results, Try.results13, go_sem, *]) rfl ⟨u9, by rw [HF.out]; rfl, ?_, ?_⟩
      · rw [HF.out]
        show LN (putCells w9 (w.heap.size + 1 + 1) 0 [.slice (u9 0).a (u9 0).n (u9 0).c, .slice (u9 1).a (u9 1).n (u9 1).c, .slice (u9 2).a (u9 2).n (u9 2).c, .slice (u9 3).a (u9 3).n (u9 3).c, .slice (u9 4).a (u9 4).n (u9 4).c, .slice (u9 5).a (u9 5).n (u9 5).c, .slice (u9 6).a (u9 6).n (u9 6).c, .slice (u9 7).a (u9 7).n (u9 7).c]) w.heap.size u9 (jnL a b)
        exact copied_ln HLN9.out HZL.out HG8.out.size _ _
      · show Gr w (putCells w9 (w.heap.size + 1 + 1) 0 [.slice (u9 0).a (u9 0).n (u9 0).c, .slice (u9 1).a (u9 1).n (u9 1).c, .slice (u9 2).a (u9 2).n (u9 2).c, .slice (u9 3).a (u9 3).n (u9 3).c, .slice (u9 4).a (u9 4).n (u9 4).c, .slice (u9 5).a (u9 5).n (u9 5).c, .slice (u9 6).a (u9 6).n (u9 6).c, .slice (u9 7).a (u9 7).n (u9 7).c])
        exact Gr.putCells (by omega) _ _ (HG8.out.trans HG9.out)
end Go.Proofs.Ytlgljanofppleaa
