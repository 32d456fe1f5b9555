/- Mathematics of Missing: what a closed cut misses, in order. -/
import Derived.Test.YtlgljanofppleaaSdL
import Derived.Test.YtlgljanofppleaaCutJ
import Derived.Test.YtlgljanofppleaaCutS
import Derived.Test.YtlgljanofppleaaCutZA
namespace Go.Proofs.Ytlgljanofppleaa
open Go.RowKit Go.Joins
set_option linter.unusedSimpArgs false
set_option linter.unusedVariables false

section
variable {l : LG} {c : Nat → Nat} {Q : List (TX × Nat × Nat)}
theorem notH_iff (ok : OkL l) {m k : Nat} {t : TX} (hm : m < 8) (ht : (l m)[k]? = some t) : notH c (t, m, k) = true ↔ c m ≤ k := by
  obtain ⟨_, ho, hs, -, -⟩ := ok.tx m k t hm ht
  unfold notH hasB
  simp only [ho, hs, Int.toNat_natCast, Bool.not_eq_true', Bool.and_eq_false_iff, decide_eq_false_iff_not]
  omega
theorem misQ_mem (ok : OkL l) (hq : MisQ l c Q) {p : TX × Nat × Nat} : p ∈ Q ↔ ∃ m k t, m < 8 ∧ c m ≤ k ∧ (l m)[k]? = some t ∧ p = (t, m, k) := by
  rw [hq.1.mem_iff, List.mem_filter, sAll_mem]
  refine ⟨fun ⟨⟨m, k, t, hm, hk, ht, hp⟩, hn⟩ => ⟨m, k, t, hm, ?_, ht, hp⟩, fun ⟨m, k, t, hm, hk, ht, hp⟩ => ⟨⟨m, k, t, hm, ?_, ht, hp⟩, ?_⟩⟩
  · rw [hp] at hn
    exact (notH_iff ok hm ht).1 hn
  · have := (List.getElem?_eq_some_iff.1 ht).1
    show k < min (sizeV l m) (sizeV l m)
    have e : sizeV l m = (l m).length := rfl
    omega
  · rw [hp]
    exact (notH_iff ok hm ht).2 hk
theorem sLog_drop (ok : OkL l) {j : Nat} (hj : j < 8) : ∀ {d : Nat}, d ≤ (l j).length → (sLog l j d).filter (notH c) = (sLog l j d).drop (c j)
  | 0, _ => by simp [sLog]
  | d + 1, h => by
    have ht : (l j)[d]? = some ((l j)[d]'(by omega)) := List.getElem?_eq_getElem (by omega)
    have hl := sLog_length (l := l) (i := j) (d := d) (by omega)
    rw [sLog_at ht, List.filter_append, sLog_drop ok hj (by omega)]
    by_cases e : c j ≤ d
    · rw [List.drop_append_of_le_length (by omega), List.filter_cons, if_pos ((notH_iff ok hj ht).2 e)]
      rfl
    · have h1 : ¬ notH c ((l j)[d]'(by omega), j, d) = true := fun x => e ((notH_iff ok hj ht).1 x)
      rw [List.filter_cons, if_neg h1, List.filter_nil, List.append_nil, List.drop_eq_nil_of_le (by omega), List.drop_eq_nil_of_le (by rw [List.length_append, hl]; show d + 1 ≤ c j; omega)]
theorem misQ_of (ok : OkL l) (hq : MisQ l c Q) {j : Nat} (hj : j < 8) : Q.filter (ofM j) = (sLog l j (sizeV l j)).drop (c j) := by
  have hp : (Q.filter (ofM j)).Perm ((sLog l j (sizeV l j)).drop (c j)) := by
    have h1 := hq.1.filter (ofM j)
    rw [List.filter_filter] at h1
    have e : (sAll l (mt (sizeV l) (sizeV l)) 8).filter (fun a => ofM j a && notH c a) = (sLog l j (sizeV l j)).drop (c j) := by
      have h2 : mt (sizeV l) (sizeV l) j = sizeV l j := Nat.min_self _
      rw [show (fun a => ofM j a && notH c a) = (fun a => notH c a && ofM j a) from funext fun a => Bool.and_comm _ _, ← List.filter_filter, sAll_of hj, h2]
      exact sLog_drop ok hj (Nat.le_refl _)
    rw [e] at h1
    exact h1
  refine List.Perm.eq_of_pairwise (le := fun p q : TX × Nat × Nat => p.2.2 ≤ q.2.2) (fun a b ha hb h1 h2 => ?_) ?_ ?_ hp
  · obtain ⟨k, t, _, ht, rfl⟩ := sLog_mem.1 (List.mem_of_mem_drop (hp.mem_iff.1 ha))
    obtain ⟨k', t', _, ht', rfl⟩ := sLog_mem.1 (List.mem_of_mem_drop hb)
    have e : k = k' := by
      have h1 : k ≤ k' := h1
      have h2 : k' ≤ k := h2
      omega
    subst e
    rw [ht] at ht'
    injection ht' with e
    rw [e]
  · refine List.Pairwise.imp_of_mem ?_ (hq.2.filter (ofM j))
    intro a b ha hb hab
    obtain ⟨k, t, _, ht, rfl⟩ := sLog_mem.1 (List.mem_of_mem_drop (hp.mem_iff.1 ha))
    obtain ⟨k', t', _, ht', rfl⟩ := sLog_mem.1 (List.mem_of_mem_drop (hp.mem_iff.1 hb))
    show k ≤ k'
    rcases Nat.lt_or_ge k' k with h | h
    · exfalso
      refine hab (ltP_stamp ?_)
      have e : k = k' + 1 + (k - (k' + 1)) := by omega
      rw [e] at ht
      exact ok.rises hj ht' (k - (k' + 1)) ht
    · exact h
  · rw [List.pairwise_iff_getElem]
    intro a b ha hb hab
    have e1 := sLog_get (l := l) (i := j) (Nat.le_refl _) (show (sLog l j (l j).length)[c j + a]? = some ((List.drop (c j) (sLog l j (sizeV l j)))[a]) from by rw [← List.getElem?_drop]; exact List.getElem?_eq_getElem ha)
    have e2 := sLog_get (l := l) (i := j) (Nat.le_refl _) (show (sLog l j (l j).length)[c j + b]? = some ((List.drop (c j) (sLog l j (sizeV l j)))[b]) from by rw [← List.getElem?_drop]; exact List.getElem?_eq_getElem hb)
    omega
/-- The cut with what has come. -/
def cntM (c : Nat → Nat) (Q : List (TX × Nat × Nat)) (i : Nat) : Nat → Nat := fun j => c j + cntQ Q i j
theorem cntM_zero : cntM c Q 0 = c := funext fun j => by unfold cntM; rw [cntQ_zero]; rfl
theorem cntM_next {i : Nat} {p : TX × Nat × Nat} (h : Q[i]? = some p) : cntM c Q (i + 1) = upd (cntM c Q i) p.2.1 (cntM c Q i p.2.1 + 1) := by
  funext j
  unfold cntM
  rw [cntQ_next h]
  unfold upd
  by_cases e : j = p.2.1
  · subst e; simp only [if_true]; omega
  · rw [if_neg e, if_neg e]
theorem cntM_all (ok : OkL l) (hq : MisQ l c Q) (hc : leqB c (sizeV l) = true) {j : Nat} (hj : j < 8) : cntM c Q Q.length j = sizeV l j := by
  unfold cntM cntQ
  have e : (sLog l j (sizeV l j)).length = sizeV l j := sLog_length (Nat.le_refl _)
  rw [List.take_length, misQ_of ok hq hj, List.length_drop, e]
  have := lq hc hj
  omega
theorem cntM_at (ok : OkL l) (hq : MisQ l c Q) {i : Nat} {p : TX × Nat × Nat} (h : Q[i]? = some p) : p.2.2 = cntM c Q i p.2.1 := by
  obtain ⟨m, k, t, hm, hk, ht, rfl⟩ := (misQ_mem ok hq).1 (List.mem_of_getElem? h)
  have hF := misQ_of ok hq hm
  have hsp : Q = Q.take i ++ (t, m, k) :: Q.drop (i + 1) := by
    have hi := (List.getElem?_eq_some_iff.1 h).1
    have e := (List.getElem?_eq_some_iff.1 h).2
    rw [← e, List.getElem_cons_drop, List.take_append_drop]
  have hF2 : (Q.take i).filter (ofM m) ++ (t, m, k) :: (Q.drop (i + 1)).filter (ofM m) = (sLog l m (sizeV l m)).drop (c m) := by
    rw [← hF]
    conv => rhs; rw [hsp]
    rw [List.filter_append, List.filter_cons, if_pos (show ofM m (t, m, k) = true from decide_eq_true rfl)]
  have hg : ((sLog l m (sizeV l m)).drop (c m))[cntQ Q i m]? = some (t, m, k) := by
    rw [← hF2]
    unfold cntQ
    rw [List.getElem?_append_right (Nat.le_refl _), Nat.sub_self]
    rfl
  rw [List.getElem?_drop] at hg
  exact sLog_get (Nat.le_refl _) hg
theorem cntM_deps (ok : OkL l) (hq : MisQ l c Q) (hc : closedP l c) {i : Nat} {p : TX × Nat × Nat} (h : Q[i]? = some p) : leqB p.1.deps (cntM c Q i) = true := by
  obtain ⟨m, k, t, hm, hk, ht, rfl⟩ := (misQ_mem ok hq).1 (List.mem_of_getElem? h)
  refine lq_of fun j hj => ?_
  show t.deps j ≤ c j + cntQ Q i j
  rcases Nat.lt_or_ge (c j) (t.deps j) with hcd | hcd
  · obtain ⟨d, hd⟩ : ∃ d, t.deps j = d + 1 := ⟨t.deps j - 1, by omega⟩
    have h1 : t.deps j ≤ sizeV l j := lq (ok.tx m k t hm ht).2.2.2.1 hj
    have e0 : sizeV l j = (l j).length := rfl
    have hx : (l j)[d]? = some ((l j)[d]'(by omega)) := List.getElem?_eq_getElem (by omega)
    have hs := ok.before hm hj ht hx hd
    have hmem : (((l j)[d]'(by omega)), j, d) ∈ Q := (misQ_mem ok hq).2 ⟨j, d, _, hj, by omega, hx, rfl⟩
    obtain ⟨i2, hi2⟩ := List.mem_iff_getElem?.1 hmem
    have hlt : i2 < i := by
      rcases Nat.lt_trichotomy i2 i with q | q | q
      · exact q
      · subst q
        rw [h] at hi2
        injection hi2 with e
        have e1 : t = (l j)[d]'(by omega) := congrArg (·.1) e
        rw [← e1] at hs
        omega
      · exfalso
        have hi := (List.getElem?_eq_some_iff.1 h)
        have hj2 := (List.getElem?_eq_some_iff.1 hi2)
        have hsp := List.pairwise_iff_getElem.1 hq.2 i i2 hi.1 hj2.1 q
        rw [hi.2, hj2.2] at hsp
        exact hsp (ltP_stamp hs)
    have h2 := cntM_at ok hq hi2
    have h3 : cntQ Q (i2 + 1) j = cntQ Q i2 j + 1 := by
      rw [cntQ_next hi2]
      unfold upd
      rw [if_pos rfl]
    have h4 := cntQ_mono (Q := Q) (i := i2 + 1) (i' := i) (j := j) hlt
    have h5 : d = c j + cntQ Q i2 j := h2
    omega
  · omega
end
end Go.Proofs.Ytlgljanofppleaa
/-! The law CutMissing. -/
namespace Go.Proofs.Ytlgljanofppleaa
open Go.RowKit Go.Joins
set_option linter.unusedSimpArgs false
set_option linter.unusedVariables false

theorem equal_wwM (f : Nat → Nat) (w : World) : (Op.equalIn 10000 34 (.agg (vcells f)) (.agg (vcells f))).run Try.prog w = .ok true w := by
  rw [equal_v, eqB_self]
/-- What Missing answers. -/
def QS (l : LG) (cc : Nat → Nat) (most : Int) (B : Nat) (w : World) (y : Value) : Prop := ∃ Q : List (TX × Nat × Nat), MisQ l cc Q ∧ XN w B y ((Q.take most.toNat).map (·.1))
/-- What the region of Missing's call leaves. -/
def QZ (u : Nat → S3) (l : LG) (cc : Nat → Nat) (most : Int) (B : Nat) : Nat → World → Value → Prop
  | 0, _, y => y = .agg (lcells u)
  | 1, w, y => ∃ u', y = .agg (lcells u') ∧ LN w B u' l
  | 2, _, y => y = .agg (vcells cc)
  | 3, _, y => y = .int .i64 most
  | 4, w, y => QS l cc most B w y
  | 5, w, y => QS l cc most B w y
  | _ + 6, _, _ => True
theorem QZ.st {u : Nat → S3} {l : LG} {cc : Nat → Nat} {most : Int} {B : Nat} : ∀ k y w1 w2, QZ u l cc most B k w1 y → Keeps btL w1 w2 → QZ u l cc most B k w2 y
  | 0, _, _, _, h, _ => h
  | 1, _, _, _, ⟨u', h1, h2⟩, g => ⟨u', h1, h2.keeps g⟩
  | 2, _, _, _, h, _ => h
  | 3, _, _, _, h, _ => h
  | 4, _, _, _, ⟨Q, h1, h2⟩, g => ⟨Q, h1, h2.keeps g⟩
  | 5, _, _, _, ⟨Q, h1, h2⟩, g => ⟨Q, h1, h2.keeps g⟩
  | _ + 6, _, _, _, _, _ => trivial
/-- What the law's rounds leave: the logs' box, the cut's box, the row. -/
structure OmS (w : World) (u : Nat → S3) (P7 B : Nat) (cc : Nat → Nat) (s : Value) (Q : List (TX × Nat × Nat)) (K i : Nat) (wr : World) : Prop where
  lg : LBox wr w.heap.size u
  d : VBox wr P7 (cntM cc Q i)
  x : XN wr B s ((Q.take K).map (·.1))
  gr : Gr w wr
theorem OmS.next {w : World} {u : Nat → S3} {P7 B : Nat} {cc : Nat → Nat} {s : Value} {Q : List (TX × Nat × Nat)} {K i : Nat} {wr w' : World} (h : OmS w u P7 B cc s Q K i wr) (g : Gr wr w') : OmS w u P7 B cc s Q K i w' :=
  ⟨h.lg.gr g, h.d.gr g, h.x.keeps (Keeps.of_gr g), h.gr.trans g⟩
theorem OmS.more {w : World} {u : Nat → S3} {P7 B : Nat} {cc : Nat → Nat} {s : Value} {Q : List (TX × Nat × Nat)} {K i m k : Nat} {t : TX} {wr : World} (h : OmS w u P7 B cc s Q K i wr) (hP : w.heap.size < P7) (hq : Q[i]? = some (t, m, k)) (hm : m < 8) (hk : k = cntM cc Q i m) :
    OmS w u P7 B cc s Q K (i + 1) (wr.setCell ⟨P7, m, none⟩ (.int .u64 ((k + 1 : Nat) : Int))) := by
  refine ⟨h.lg.far (by simp only []; omega) _, ?_, h.x.keeps (setCell_keeps h.d.box (by decide) _ _), h.gr.setCell (Nat.le_of_lt hP) _⟩
  rw [cntM_next hq]
  subst hk
  exact h.d.set hm _

set_option maxRecDepth 100000 in
set_option maxHeartbeats 4000000 in
theorem missing9_law (u : Nat → S3) (l : LG) (v : Nat → Nat) (most : Int) (w : World) (h : LV w u l) (hf : FitL l) (hms : most ≤ 9223372036854775807 ∧ -9223372036854775808 ≤ most) :
    Calls Try.prog 8 #[.agg (lcells u), .agg (vcells v), .int .i64 most] w fun e w' => e = .returned (.bool true) ∧ Gr w w' := by
  obtain ⟨W, hW, hg, hsz, hL, hV⟩ := boxesLV u v w
  have HL := Lib.hid hL
  have HV := Lib.hid hV
  have HG := Lib.hid hg
  have HLU := Lib.hid h
  have HFC := Lib.hid hf.c
  have HFQ := Lib.hid hf.q
  have HMS := Lib.hid hms
  have HCK := Lib.hid (fun w1 (g : Gr w w1) => rcheck9_any u l w1 (h.gr g) hf.q)
  have HCL := Lib.hid (fun w1 (g : Gr w w1) => rclose_det u l v w1 (h.gr g))
  have HRZ := Lib.hid (fun w1 (g : Gr w w1) => rsize_any u l w1 (h.gr g))
  obtain ⟨cc, hcc⟩ : ∃ y, y = closeV l v := ⟨_, rfl⟩
  rw [← hcc] at HCL
  have HCC : Hid (closedP l cc) := Lib.hid (by rw [hcc]; exact (closeV_is l v).closed)
  obtain ⟨sl, hsl⟩ : ∃ y, y = sizeV l := ⟨_, rfl⟩
  rw [← hsl] at HRZ
  have HSL := Lib.hid hsl
  clear h hf hL hV hg hsz hcc hms hsl
  go_enter Try.func8, Try.ntmps8
  go_upto_region 1 with (fail)
  rw [← hW]
  clear hW
  go_wp2_with fail
  refine (awake9_any W).mono ?_
  rintro e w1 ⟨rfl, g1⟩
  have HG1 := Lib.hid (HG.out.trans g1)
  have HL1 := Lib.hid (HL.out.gr g1)
  have HV1 := Lib.hid (HV.out.gr g1)
  obtain ⟨l0, l1, l2, l3, l4, l5, l6, l7⟩ := HL1.out.all
  clear g1
  go_wp2_with fail
  refine (HCK.out _ HG1.out).mono ?_
  rintro e w2 ⟨rfl, g2⟩
  have HG2 := Lib.hid (HG1.out.trans g2)
  have HL2 := Lib.hid (HL1.out.gr g2)
  have HV2 := Lib.hid (HV1.out.gr g2)
  clear g2 l0 l1 l2 l3 l4 l5 l6 l7 HG1 HL1 HV1 HL HV
  obtain ⟨ec, hec⟩ : ∃ x, x = checkE l := ⟨_, rfl⟩
  rw [← hec]
  have HEC := Lib.hid hec
  clear hec
  by_cases he : ec = 0
  case neg =>
    have hne : ¬ ((ec : Int) = 0) := by omega
    go_wp2_with fail
    go_ret
    exact ⟨rfl, HG2.out⟩
  have HOK : Hid (OkL l) := Lib.hid (okL_iff.1 (by rw [← HEC.out, he]))
  have he0 : (ec : Int) = 0 := by omega
  obtain ⟨l0, l1, l2, l3, l4, l5, l6, l7⟩ := HL2.out.all
  obtain ⟨m0, m1, m2, m3, m4, m5, m6, m7⟩ := HV2.out.all
  clear he HEC
  go_wp2_with fail
  refine (HCL.out _ HG2.out).mono ?_
  rintro e w3 ⟨rfl, g3⟩
  have HG3 := Lib.hid (HG2.out.trans g3)
  have HL3 := Lib.hid (HL2.out.gr g3)
  clear g3 l0 l1 l2 l3 l4 l5 l6 l7 m0 m1 m2 m3 m4 m5 m6 m7 he0
  have hz : VBox (w3.alloc (.cells V0 34)) w3.heap.size (fun _ => 0) := vbox0 (heap_alloc _ _ _)
  obtain ⟨c0, c1, c2, c3, c4, c5, c6, c7⟩ := hz.zero
  obtain ⟨f0, f1, f2, f3, f4, f5, f6, f7⟩ := hz.fz
  go_upto_region 6 with (fail)
  clear c0 c1 c2 c3 c4 c5 c6 c7 f0 f1 f2 f3 f4 f5 f6 f7 hz
  obtain ⟨w4, hw4, g4, hb4⟩ : ∃ x, x = w3.alloc (.cells (vcells cc) 34) ∧ Gr w3 x ∧ VBox x w3.heap.size cc := ⟨_, rfl, (Gr.refl _).alloc _, ⟨heap_alloc _ _ _⟩⟩
  rw [← hw4]
  obtain ⟨P7, hP7⟩ : ∃ P, P = w3.heap.size := ⟨_, rfl⟩
  have HP7 : Hid (w.heap.size < P7) := Lib.hid (by rw [hP7]; exact HL3.out.lt)
  rw [← hP7] at hb4 ⊢
  have HC4 := Lib.hid hb4
  have HL4 := Lib.hid (HL3.out.gr g4)
  have HG4 := Lib.hid (HG3.out.trans g4)
  have HCP := Lib.hid (fun w1 (g : Gr w w1) => rcopy9_any u l w1 (HLU.out.gr g) HFC.out)
  have HMI := Lib.hid (fun u1 w1 (k1 : LV w1 u1 l) => missing9_any u1 l cc most w1 k1 HFC.out HOK.out.len HMS.out)
  clear hw4 hP7 g4 hb4 HG3 HL3
  refine wp_region_noPanic ?_
  refine iRegionA (RI btL w4 (QZ u l cc most w4.heap.size) [] (fun _ => 24) (fun _ => #[])) (by kernel_rfl) (by kernel_rfl) (ri_start QZ.st (Gr.refl _)) ?_ ?_
  · intro i o ho vals wc A hI hn hdep hOld hNew
    have hi : i < 6 := (List.getElem?_eq_some_iff.1 ho).1
    obtain ⟨l0, l1, l2, l3, l4, l5, l6, l7⟩ := (HL4.out.gr hI.gr).all
    obtain ⟨m0, m1, m2, m3, m4, m5, m6, m7⟩ := (HC4.out.gr hI.gr).all
    have eo3 : A.tmps[3]?.getD undef = .pointer (some ⟨w.heap.size, 0, none⟩) := slotE (hOld 3 (by kernel_rfl))
    have eo7 : A.tmps[7]?.getD undef = .pointer (some ⟨P7, 0, none⟩) := slotE (hOld 7 (by kernel_rfl))
    have eo2 : A.tmps[2]?.getD undef = .int .i64 most := slotE (hOld 2 (by kernel_rfl))
    obtain rfl | rfl | rfl | rfl | rfl | rfl : i = 0 ∨ i = 1 ∨ i = 2 ∨ i = 3 ∨ i = 4 ∨ i = 5 := by omega
    · obtain rfl := Option.some.inj (show some _ = some o from ho)
      refine aVal rfl rfl (v := .agg (lcells u)) (w' := wc) ?_ ⟨_, rfl, hI.val hn rfl (show QZ u l cc most _ 0 wc _ from rfl)⟩
      go_simp
    · obtain rfl := Option.some.inj (show some _ = some o from ho)
      obtain ⟨y0, hy0⟩ := hdep ⟨0, .data⟩ (by simp) rfl
      have s0 := slotE (hNew 0 18 _ y0 rfl rfl (by kernel_rfl) hy0)
      have e0 : y0 = .agg (lcells u) := hI.ok 0 y0 hy0
      rw [e0] at s0
      refine aCall rfl rfl (w1 := wc) ?_ ((HCP.out wc (HG4.out.trans hI.gr)).mono fun e w' ⟨ux, he, hlx, hg⟩ => ⟨_, he, _, rfl, (hI.next hg).val hn rfl (show QZ u l cc most _ 1 w' _ from ⟨ux, rfl, hlx.le hI.gr.size⟩)⟩)
      go_simp
    · obtain rfl := Option.some.inj (show some _ = some o from ho)
      refine aVal rfl rfl (v := .agg (vcells cc)) (w' := wc) ?_ ⟨_, rfl, hI.val hn rfl (show QZ u l cc most _ 2 wc _ from rfl)⟩
      go_simp
    · obtain rfl := Option.some.inj (show some _ = some o from ho)
      refine aVal rfl rfl (v := .int .i64 most) (w' := wc) ?_ ⟨_, rfl, hI.val hn rfl (show QZ u l cc most _ 3 wc _ from rfl)⟩
      go_simp
    · obtain rfl := Option.some.inj (show some _ = some o from ho)
      obtain ⟨y1, hy1⟩ := hdep ⟨1, .data⟩ (by simp) rfl
      have s1 := slotE (hNew 1 19 _ y1 rfl rfl (by kernel_rfl) hy1)
      obtain ⟨u1, e1, hl1⟩ : ∃ u', y1 = .agg (lcells u') ∧ LN wc w4.heap.size u' l := hI.ok 1 y1 hy1
      rw [e1] at s1
      obtain ⟨y2, hy2⟩ := hdep ⟨2, .data⟩ (by simp) rfl
      have s2 := slotE (hNew 2 20 _ y2 rfl rfl (by kernel_rfl) hy2)
      have e2 : y2 = .agg (vcells cc) := hI.ok 2 y2 hy2
      rw [e2] at s2
      obtain ⟨y3, hy3⟩ := hdep ⟨3, .data⟩ (by simp) rfl
      have s3 := slotE (hNew 3 21 _ y3 rfl rfl (by kernel_rfl) hy3)
      have e3 : y3 = .int .i64 most := hI.ok 3 y3 hy3
      rw [e3] at s3
      refine aCall rfl rfl (w1 := wc) ?_ ((HMI.out u1 wc hl1.lv).mono fun e w' ⟨s, Q, he, hq, hx, hg⟩ => ⟨_, he, _, rfl, (hI.next hg).val hn rfl (show QZ u l cc most _ 4 w' _ from ⟨Q, hq, hx.le hI.gr.size⟩)⟩)
      go_simp
    · obtain rfl := Option.some.inj (show some _ = some o from ho)
      obtain ⟨y4, hy4⟩ := hdep ⟨4, .data⟩ (by simp) rfl
      have s4 := slotE (hNew 4 22 _ y4 rfl rfl (by kernel_rfl) hy4)
      have e4 : QS l cc most w4.heap.size wc y4 := hI.ok 4 y4 hy4
      refine aVal rfl rfl (v := y4) (w' := wc) ?_ ⟨_, rfl, hI.val hn rfl (show QZ u l cc most _ 5 wc _ from e4)⟩
      go_simp
  · intro vals w6 hall hI
    refine NoPanic.normal ?_
    obtain ⟨y0, h0⟩ := hall 0 (by decide)
    obtain ⟨y1, h1⟩ := hall 1 (by decide)
    obtain ⟨y2, h2⟩ := hall 2 (by decide)
    obtain ⟨y3, h3⟩ := hall 3 (by decide)
    obtain ⟨y4, h4⟩ := hall 4 (by decide)
    obtain ⟨y5, h5⟩ := hall 5 (by decide)
    obtain ⟨Q, hq, hx⟩ : QS l cc most w4.heap.size w6 y5 := hI.ok 5 y5 h5
    have hgr := hI.gr
    simp only [putAll, putV, h0, h1, h2, h3, h4, h5]
    clear hI hall h0 h1 h2 h3 h4 h5
    obtain ⟨As, cs, hsv, hnc, -, hat⟩ := hx.xv
    obtain ⟨n, hn⟩ : ∃ n, n = (Q.take most.toNat).length := ⟨_, rfl⟩
    rw [List.length_map, ← hn] at hsv
    subst hsv
    obtain ⟨K, hK⟩ : ∃ K, K = most.toNat := ⟨_, rfl⟩
    rw [← hK] at hx hn
    have HS6 : Hid (OmS w u P7 w4.heap.size cc (.slice As n cs) Q K 0 w6) := Lib.hid ⟨HL4.out.gr hgr, by rw [cntM_zero]; exact HC4.out.gr hgr, hx, HG4.out.trans hgr⟩
    have HQ := Lib.hid hq
    have HN := Lib.hid hn
    have HK := Lib.hid hK
    have hnK : n ≤ K ∧ n ≤ Q.length := by
      rw [hn, List.length_take]
      omega
    have hQl : Q.length ≤ 8192 := by
      rw [hq.1.length_eq]
      exact Nat.le_trans (List.length_filter_le _ _) (sAll_len l _ (fun i hi => Nat.le_trans (Nat.min_le_right _ _) (HOK.out.len i hi)) 8 (Nat.le_refl _))
    have hnb : n ≤ 8192 := by omega
    have HNQ : Hid (n = K ∨ n = Q.length) := Lib.hid (by rw [hn, List.length_take]; omega)
    have hnm : (n : Int) ≤ max most 0 := by omega
    clear hq hx hnc hat hn hgr hK hQl HL4 HC4 HG4
    simp only [Act.put, List.setIfInBounds_toArray, List.set_cons_zero, List.set_cons_succ]
    by_cases hpos : (0 : Int) < most
    · have hA2 : decide ((0 : Int) < most) = true := decide_eq_true hpos
      have hB : ¬ (most < (n : Int)) := by omega
      have hB2 : decide (most < (n : Int)) = false := decide_eq_false hB
      have hC : ¬ (most ≤ 0) := by omega
      have hC2 : decide (most ≤ (0 : Int)) = false := decide_eq_false hC
      go_upto_region 9 with (fail)
      clear hA2 hB hB2 hC hC2
      go_wp2_with fail
      go_loopw [9] (fun i wr => ∃ j : Nat, j ≤ n ∧ i = .int .i64 j ∧ Hid (OmS w u P7 w4.heap.size cc (.slice As n cs) Q K j wr)) (fun i _ => n - (intOf i).toNat)
      case atStart => exact ⟨0, Nat.zero_le _, rfl, HS6⟩
      case round =>
        obtain ⟨j, hj, rfl, hst⟩ := hrel
        rename World => wr
        by_cases hjn : j < n
        · have hj0 : (0 : Int) ≤ (j : Int) := Int.natCast_nonneg _
          have hjn1 : (j : Int) < (n : Int) := by omega
          have hjl : j < (Q.take K).length := by rw [← HN.out]; exact hjn
          obtain ⟨⟨t, m, k⟩, hp⟩ : ∃ p, p = (Q.take K)[j] := ⟨_, rfl⟩
          have hqj : Q[j]? = some (t, m, k) := by
            rw [hp, List.getElem_take, List.getElem?_eq_getElem]
          obtain ⟨m', k', t', hm, hkc, hlt, hpe⟩ := (misQ_mem HOK.out HQ.out).1 (List.mem_of_getElem? hqj)
          injection hpe with e1 e2
          injection e2 with e2 e3
          subst e1 e2 e3
          obtain ⟨hot, hor, hsq, -, -⟩ := HOK.out.tx m k t hm hlt
          have hkq : k = cntM cc Q j m := cntM_at HOK.out HQ.out hqj
          have hdq := cntM_deps HOK.out HQ.out HCC.out hqj
          obtain ⟨Ax, cx, hxv, hxn, -, hxat⟩ := hst.out.x.xv
          injection hxv with e1 e2 e3
          subst e1 e3
          obtain ⟨b, off, hA, hxc⟩ := hxat j (by rw [List.length_map]; exact hjl)
          rw [List.getElem_map, ← hp] at hxc
          subst hA
          have hkl : k < 1024 := by
            have h1 := (List.getElem?_eq_some_iff.1 hlt).1
            have h2 := HOK.out.len m hm
            omega
          obtain ⟨tor, tsq, tst, td, tops⟩ := t
          simp only at hor hsq
          subst hor hsq
          obtain ⟨vx, hvx, hfx⟩ := hxc
          have HLQ := Lib.hid (fun w1 => rleq_any td (cntM cc Q j) w1)
          rw [show leqB td (cntM cc Q j) = true from hdq] at HLQ
          have HXF := Lib.hid hfx
          have HSJ := Lib.hid hst.out
          have HYD := Lib.hid hst.out.d.vc
          have HYC : Hid (wr.cell? ⟨P7, m, none⟩ = some (.int .u64 (k : Int))) := Lib.hid (by have := hst.out.d.at hm; rw [← hkq] at this; exact this)
          have HQJ := Lib.hid hqj
          have HKQ := Lib.hid hkq
          have HM8 := Lib.hid hm
          have hm8 : (m : Int) < 8 := by omega
          have hm0 : (0 : Int) ≤ (m : Int) := Int.natCast_nonneg _
          have hd1 : decide ((m : Int) < 0) = false := decide_eq_false (by omega)
          have hd2 : decide ((7 : Int) < (m : Int)) = false := decide_eq_false (by omega)
          have hwr : IntKind.u64.wrap ((k : Int) + 1) = ((k + 1 : Nat) : Int) := by simp [IntKind.wrap, IntKind.bits, IntKind.signed]; omega
          clear hst hp hqj hkc hlt hot hkq hdq e2 hxn hxat hvx hfx hm
          go_upto_region 12 with (fail)
          refine qRegion (fun w' => XFix w' b (off + j * 12) ⟨(m : Int), k + 1, tst, td, tops⟩ vx ∧ VC w' P7 (cntM cc Q j) ∧ w'.cell? ⟨P7, m, none⟩ = some (.int .u64 (k : Int)) ∧ Gr wr w') (by kernel_rfl) (by kernel_rfl) ⟨HXF.out.gr (Gr.refl _).drew, HYD.out.gr (Gr.refl _).drew, (Gr.refl _).drew.cell HYC.out, (Gr.refl _).drew⟩ ?_
          iterate 37
            refine qTake (by kernel_rfl) ?_
            apply Exists.intro
            refine ⟨fun wq hq => ?_, ?_⟩
            · go_light
              obtain ⟨⟨x0, x1, x2, x3, x4, x5, x6, x7, x8, x9, x10, x11⟩, ⟨y0, y1, y2, y3, y4, y5, y6, y7⟩, yk, -⟩ := hq
              go_simp
              try with_reducible rfl
              done
            try simp only [Act.put, List.setIfInBounds_toArray, List.set_cons_zero, List.set_cons_succ]
          refine qCall (by kernel_rfl) ?_
          apply Exists.intro
          refine ⟨?_, ?_⟩
          · apply Exists.intro
            apply Exists.intro
            refine ⟨fun wq => ?_, fun wq hq => ?_⟩
            · go_light
              go_simp
              exact ⟨rfl, rfl⟩
            · exact (HLQ.out wq).mono fun e w'' ⟨he, hg⟩ => ⟨he, hq.1.gr hg, hq.2.1.gr hg, hg.cell hq.2.2.1, hq.2.2.2.trans hg⟩
          try simp only [Act.put, List.setIfInBounds_toArray, List.set_cons_zero, List.set_cons_succ]
          iterate 2
            refine qTake (by kernel_rfl) ?_
            apply Exists.intro
            refine ⟨fun wq hq => ?_, ?_⟩
            · go_light
              obtain ⟨⟨x0, x1, x2, x3, x4, x5, x6, x7, x8, x9, x10, x11⟩, ⟨y0, y1, y2, y3, y4, y5, y6, y7⟩, yk, -⟩ := hq
              go_simp
              try with_reducible rfl
              done
            try simp only [Act.put, List.setIfInBounds_toArray, List.set_cons_zero, List.set_cons_succ]
          refine qNil ?_
          rintro w8 ⟨hx8, -, hk8, hg8⟩
          have hS8 := HSJ.out.next hg8
          have hfz : w8.frozen? ⟨P7, m, none⟩ = false := unfrozen_of_block hS8.d.box m
          have HS9 : Hid (OmS w u P7 w4.heap.size cc (.slice (some ⟨b, off, none⟩) n cs) Q K (j + 1) (w8.setCell ⟨P7, m, none⟩ (.int .u64 ((k + 1 : Nat) : Int)))) := Lib.hid (hS8.more HP7.out HQJ.out HM8.out HKQ.out)
          obtain ⟨x0, x1, x2, x3, x4, x5, x6, x7, x8, x9, x10, x11⟩ := hx8
          simp only at x0
          clear x1 x2 x3 x4 x5 x6 x7 x8 x9 x10 x11 hS8 hg8
          go_wp2_with fail
          go_roundw
          case measure => simp [intOf]; omega
          case rel => exact ⟨j + 1, by omega, by go_num, HS9⟩
        · obtain rfl : j = n := by omega
          have HLF := Lib.hid hst.out.lg.lc
          have HGF := Lib.hid hst.out.gr
          have HZF := Lib.hid (fun w1 (g : Gr wr w1) => HRZ.out w1 (hst.out.gr.trans g))
          have HDF := Lib.hid hst.out.d
          clear hst
          by_cases hq1 : (j : Int) = most
          · have hq2 : decide ((j : Int) = most) = true := decide_eq_true hq1
            have hq3 : ((j : Int) == most) = true := beq_iff_eq.2 hq1
            go_upto_region 15 with (fail)
            refine qRegion (fun w' => Gr wr w') (by kernel_rfl) (by kernel_rfl) (Gr.refl _).drew ?_
            iterate 5
              refine qTake (by kernel_rfl) ?_
              apply Exists.intro
              refine ⟨fun wq hq => ?_, ?_⟩
              · go_light
                obtain hg := hq
                go_simp
                try with_reducible rfl
                done
              try simp only [Act.put, List.setIfInBounds_toArray, List.set_cons_zero, List.set_cons_succ]
            iterate 2
              refine qSkip (by kernel_rfl) ?_
              try simp only [Act.put, List.setIfInBounds_toArray, List.set_cons_zero, List.set_cons_succ]
            iterate 2
              refine qTake (by kernel_rfl) ?_
              apply Exists.intro
              refine ⟨fun wq hq => ?_, ?_⟩
              · go_light
                obtain hg := hq
                go_simp
                try with_reducible rfl
                done
              try simp only [Act.put, List.setIfInBounds_toArray, List.set_cons_zero, List.set_cons_succ]
            iterate 4
              refine qSkip (by kernel_rfl) ?_
              try simp only [Act.put, List.setIfInBounds_toArray, List.set_cons_zero, List.set_cons_succ]
            iterate 2
              refine qTake (by kernel_rfl) ?_
              apply Exists.intro
              refine ⟨fun wq hq => ?_, ?_⟩
              · go_light
                obtain hg := hq
                go_simp
                try with_reducible rfl
                done
              try simp only [Act.put, List.setIfInBounds_toArray, List.set_cons_zero, List.set_cons_succ]
            refine qNil ?_
            rintro w9 hg9
            have HG9 := Lib.hid (HGF.out.trans hg9)
            clear hg9
            go_wp2_with fail
            go_ret
            exact ⟨rfl, HG9.out⟩
          · have hq2 : decide ((j : Int) = most) = false := decide_eq_false hq1
            have hq3 : ((j : Int) == most) = false := beq_eq_false_iff_ne.2 hq1
            have hr2 : decide (most ≤ (0 : Int)) = false := decide_eq_false (by omega)
            have hr1 : ¬ (most ≤ (0 : Int)) := by omega
            have hjQ : j = Q.length := by
              rcases HNQ.out with e | e
              · exfalso
                have := HK.out
                omega
              · exact e
            have hbd : VBox wr P7 sl := ⟨by rw [← vcells_congr (a := cntM cc Q j) (b := sl) fun i hi => by rw [hjQ, HSL.out]; exact cntM_all HOK.out HQ.out HCC.out.1 hi]; exact HDF.out.box⟩
            have HVF := Lib.hid hbd.vc
            have heq := fun w => equal_wwM sl w
            clear hjQ hbd
            go_upto_region 15 with (fail)
            refine qRegion (fun w' => VC w' P7 sl ∧ LC w' w.heap.size u ∧ Gr wr w') (by kernel_rfl) (by kernel_rfl) ⟨HVF.out.gr (Gr.refl _).drew, HLF.out.gr (Gr.refl _).drew, (Gr.refl _).drew⟩ ?_
            iterate 11
              refine qTake (by kernel_rfl) ?_
              apply Exists.intro
              refine ⟨fun wq hq => ?_, ?_⟩
              · go_light
                obtain ⟨⟨y0, y1, y2, y3, y4, y5, y6, y7⟩, ⟨l0, l1, l2, l3, l4, l5, l6, l7⟩, hg⟩ := hq
                go_simp
                try with_reducible rfl
                done
              try simp only [Act.put, List.setIfInBounds_toArray, List.set_cons_zero, List.set_cons_succ]
            refine qCall (by kernel_rfl) ?_
            apply Exists.intro
            refine ⟨?_, ?_⟩
            · apply Exists.intro
              apply Exists.intro
              refine ⟨fun wq => ?_, fun wq hq => ?_⟩
              · go_light
                go_simp
                exact ⟨rfl, rfl⟩
              · exact (HZF.out wq hq.2.2).mono fun e w'' ⟨he, hg⟩ => ⟨he, hq.1.gr hg, hq.2.1.gr hg, hq.2.2.trans hg⟩
            try simp only [Act.put, List.setIfInBounds_toArray, List.set_cons_zero, List.set_cons_succ]
            iterate 3
              refine qTake (by kernel_rfl) ?_
              apply Exists.intro
              refine ⟨fun wq hq => ?_, ?_⟩
              · go_light
                obtain ⟨⟨y0, y1, y2, y3, y4, y5, y6, y7⟩, ⟨l0, l1, l2, l3, l4, l5, l6, l7⟩, hg⟩ := hq
                go_simp
                try with_reducible rfl
                done
              try simp only [Act.put, List.setIfInBounds_toArray, List.set_cons_zero, List.set_cons_succ]
            refine qNil ?_
            rintro w9 ⟨-, -, hg9⟩
            have HG9 := Lib.hid (HGF.out.trans hg9)
            clear hg9
            go_wp2_with fail
            go_ret
            exact ⟨rfl, HG9.out⟩
    · have hA2 : decide ((0 : Int) < most) = false := decide_eq_false hpos
      have hn0 : n = 0 := by omega
      have hB : ¬ ((0 : Int) < (n : Int)) := by omega
      have hB2 : decide ((0 : Int) < (n : Int)) = false := decide_eq_false hB
      have hC : most ≤ 0 := by omega
      have hC2 : decide (most ≤ (0 : Int)) = true := decide_eq_true hC
      go_upto_region 9 with (fail)
      clear hA2 hB hB2 hC hC2 hn0
      go_wp2_with fail
      go_loopw [9] (fun i wr => ∃ j : Nat, j ≤ n ∧ i = .int .i64 j ∧ Hid (OmS w u P7 w4.heap.size cc (.slice As n cs) Q K j wr)) (fun i _ => n - (intOf i).toNat)
      case atStart => exact ⟨0, Nat.zero_le _, rfl, HS6⟩
      case round =>
        obtain ⟨j, hj, rfl, hst⟩ := hrel
        rename World => wr
        by_cases hjn : j < n
        · exfalso
          omega
        · obtain rfl : j = n := by omega
          have HLF := Lib.hid hst.out.lg.lc
          have HGF := Lib.hid hst.out.gr
          have HZF := Lib.hid (fun w1 (g : Gr wr w1) => HRZ.out w1 (hst.out.gr.trans g))
          have HDF := Lib.hid hst.out.d
          clear hst
          by_cases hq1 : (j : Int) = most
          · have hq2 : decide ((j : Int) = most) = true := decide_eq_true hq1
            have hq3 : ((j : Int) == most) = true := beq_iff_eq.2 hq1
            go_upto_region 15 with (fail)
            refine qRegion (fun w' => Gr wr w') (by kernel_rfl) (by kernel_rfl) (Gr.refl _).drew ?_
            iterate 5
              refine qTake (by kernel_rfl) ?_
              apply Exists.intro
              refine ⟨fun wq hq => ?_, ?_⟩
              · go_light
                obtain hg := hq
                go_simp
                try with_reducible rfl
                done
              try simp only [Act.put, List.setIfInBounds_toArray, List.set_cons_zero, List.set_cons_succ]
            iterate 2
              refine qSkip (by kernel_rfl) ?_
              try simp only [Act.put, List.setIfInBounds_toArray, List.set_cons_zero, List.set_cons_succ]
            iterate 2
              refine qTake (by kernel_rfl) ?_
              apply Exists.intro
              refine ⟨fun wq hq => ?_, ?_⟩
              · go_light
                obtain hg := hq
                go_simp
                try with_reducible rfl
                done
              try simp only [Act.put, List.setIfInBounds_toArray, List.set_cons_zero, List.set_cons_succ]
            iterate 4
              refine qSkip (by kernel_rfl) ?_
              try simp only [Act.put, List.setIfInBounds_toArray, List.set_cons_zero, List.set_cons_succ]
            iterate 2
              refine qTake (by kernel_rfl) ?_
              apply Exists.intro
              refine ⟨fun wq hq => ?_, ?_⟩
              · go_light
                obtain hg := hq
                go_simp
                try with_reducible rfl
                done
              try simp only [Act.put, List.setIfInBounds_toArray, List.set_cons_zero, List.set_cons_succ]
            refine qNil ?_
            rintro w9 hg9
            have HG9 := Lib.hid (HGF.out.trans hg9)
            clear hg9
            go_wp2_with fail
            go_ret
            exact ⟨rfl, HG9.out⟩
          · have hq2 : decide ((j : Int) = most) = false := decide_eq_false hq1
            have hq3 : ((j : Int) == most) = false := beq_eq_false_iff_ne.2 hq1
            have hr2 : decide (most ≤ (0 : Int)) = true := decide_eq_true (by omega)
            have hr1 : most ≤ (0 : Int) := by omega
            go_upto_region 15 with (fail)
            refine qRegion (fun w' => Gr wr w') (by kernel_rfl) (by kernel_rfl) (Gr.refl _).drew ?_
            iterate 9
              refine qTake (by kernel_rfl) ?_
              apply Exists.intro
              refine ⟨fun wq hq => ?_, ?_⟩
              · go_light
                obtain hg := hq
                go_simp
                try with_reducible rfl
                done
              try simp only [Act.put, List.setIfInBounds_toArray, List.set_cons_zero, List.set_cons_succ]
            iterate 4
              refine qSkip (by kernel_rfl) ?_
              try simp only [Act.put, List.setIfInBounds_toArray, List.set_cons_zero, List.set_cons_succ]
            iterate 2
              refine qTake (by kernel_rfl) ?_
              apply Exists.intro
              refine ⟨fun wq hq => ?_, ?_⟩
              · go_light
                obtain hg := hq
                go_simp
                try with_reducible rfl
                done
              try simp only [Act.put, List.setIfInBounds_toArray, List.set_cons_zero, List.set_cons_succ]
            refine qNil ?_
            rintro w9 hg9
            have HG9 := Lib.hid (HGF.out.trans hg9)
            clear hg9
            go_wp2_with fail
            go_ret
            exact ⟨rfl, HG9.out⟩
end Go.Proofs.Ytlgljanofppleaa
