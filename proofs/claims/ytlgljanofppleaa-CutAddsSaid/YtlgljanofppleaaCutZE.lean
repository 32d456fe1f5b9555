/- The law CutAdds. -/
import Derived.Test.YtlgljanofppleaaCutY
import Derived.Test.YtlgljanofppleaaCutZD
namespace Go.Proofs.Ytlgljanofppleaa
open Go.RowKit Go.Joins
set_option linter.unusedSimpArgs false
set_option linter.unusedVariables false

/-- The values of a region: as QL, with owned transactions and slices of a length. -/
structure QM (F : Nat → Option Value) (G : Nat → Option LG) (J : Nat → Option (LG × Nat)) (K : Nat → Option TX) (S : Nat → Option Nat) (B : Nat) (k : Nat) (w : World) (y : Value) : Prop where
  f : ∀ v, F k = some v → y = v
  g : ∀ L, G k = some L → ∃ u, y = .agg (lcells u) ∧ LN w B u L
  j : ∀ L, J k = some L → ∃ u, y = .tuple #[.agg (lcells u), .int .i64 (L.2 : Int)] ∧ LN w B u L.1
  kk : ∀ t, K k = some t → ∃ v, y = .agg (tcs t v) ∧ TOO w B v t.ops
  ss : ∀ n, S k = some n → ∃ A c, y = .slice A n c
section
variable {F : Nat → Option Value} {G : Nat → Option LG} {J : Nat → Option (LG × Nat)} {K : Nat → Option TX} {S : Nat → Option Nat} {B : Nat}
theorem QM.st : ∀ k y w1 w2, QM F G J K S B k w1 y → Keeps btL w1 w2 → QM F G J K S B k w2 y := fun k y w1 w2 h kp =>
  ⟨h.f, fun L hL => by obtain ⟨u, q1, q2⟩ := h.g L hL; exact ⟨u, q1, q2.keeps kp⟩, fun L hL => by obtain ⟨u, q1, q2⟩ := h.j L hL; exact ⟨u, q1, q2.keeps kp⟩, fun t ht => by obtain ⟨v, q1, q2⟩ := h.kk t ht; exact ⟨v, q1, own_keeps q2 (by decide) kp⟩, h.ss⟩
theorem qmF {k : Nat} {w : World} {v : Value} (h1 : F k = some v) (h2 : G k = none) (h3 : J k = none) (h4 : K k = none) (h5 : S k = none) : QM F G J K S B k w v :=
  ⟨fun x hx => (by rw [h1] at hx; exact Option.some.inj hx), fun L hL => (by rw [h2] at hL; cases hL), fun L hL => (by rw [h3] at hL; cases hL), fun L hL => (by rw [h4] at hL; cases hL), fun L hL => (by rw [h5] at hL; cases hL)⟩
theorem qmG {k : Nat} {w : World} {u : Nat → S3} {L : LG} (h1 : F k = none) (h2 : G k = some L) (h3 : J k = none) (h4 : K k = none) (h5 : S k = none) (h : LN w B u L) : QM F G J K S B k w (.agg (lcells u)) :=
  ⟨fun x hx => (by rw [h1] at hx; cases hx), fun M hM => (by rw [h2] at hM; rw [← Option.some.inj hM]; exact ⟨u, rfl, h⟩), fun M hM => (by rw [h3] at hM; cases hM), fun M hM => (by rw [h4] at hM; cases hM), fun M hM => (by rw [h5] at hM; cases hM)⟩
theorem qmJ {k : Nat} {w : World} {u : Nat → S3} {L : LG} {e : Nat} (h1 : F k = none) (h2 : G k = none) (h3 : J k = some (L, e)) (h4 : K k = none) (h5 : S k = none) (h : LN w B u L) : QM F G J K S B k w (.tuple #[.agg (lcells u), .int .i64 (e : Int)]) :=
  ⟨fun x hx => (by rw [h1] at hx; cases hx), fun M hM => (by rw [h2] at hM; cases hM), fun M hM => (by rw [h3] at hM; rw [← Option.some.inj hM]; exact ⟨u, rfl, h⟩), fun M hM => (by rw [h4] at hM; cases hM), fun M hM => (by rw [h5] at hM; cases hM)⟩
theorem qmK {k : Nat} {w : World} {v : Value} {t : TX} (h1 : F k = none) (h2 : G k = none) (h3 : J k = none) (h4 : K k = some t) (h5 : S k = none) (h : TOO w B v t.ops) : QM F G J K S B k w (.agg (tcs t v)) :=
  ⟨fun x hx => (by rw [h1] at hx; cases hx), fun M hM => (by rw [h2] at hM; cases hM), fun M hM => (by rw [h3] at hM; cases hM), fun M hM => (by rw [h4] at hM; rw [← Option.some.inj hM]; exact ⟨v, rfl, h⟩), fun M hM => (by rw [h5] at hM; cases hM)⟩
theorem qmS {k : Nat} {w : World} {A : Option Addr} {n c : Nat} (h1 : F k = none) (h2 : G k = none) (h3 : J k = none) (h4 : K k = none) (h5 : S k = some n) : QM F G J K S B k w (.slice A n c) :=
  ⟨fun x hx => (by rw [h1] at hx; cases hx), fun M hM => (by rw [h2] at hM; cases hM), fun M hM => (by rw [h3] at hM; cases hM), fun M hM => (by rw [h4] at hM; cases hM), fun M hM => (by rw [h5] at hM; rw [← Option.some.inj hM]; exact ⟨A, c, rfl⟩)⟩
theorem qmN {k : Nat} {w : World} {y : Value} (h1 : F k = none) (h2 : G k = none) (h3 : J k = none) (h4 : K k = none) (h5 : S k = none) : QM F G J K S B k w y :=
  ⟨fun x hx => (by rw [h1] at hx; cases hx), fun M hM => (by rw [h2] at hM; cases hM), fun M hM => (by rw [h3] at hM; cases hM), fun M hM => (by rw [h4] at hM; cases hM), fun M hM => (by rw [h5] at hM; cases hM)⟩
end
theorem mt_self (v : Nat → Nat) : mt v v = v := funext fun i => Nat.min_self _
theorem ordR_all (l : LG) : (ordR l (sizeV l)).length = sumV (sizeV l) := by rw [ordR_len, mt_self]
theorem rord9_len (u : Nat → S3) (l : LG) (w : World) (h : LV w u l) (hf : FitC l) (hlen : ∀ i, i < 8 → (l i).length ≤ 1024) :
    Calls Try.prog 25 #[.agg (lcells u), .agg (vcells (sizeV l))] w fun e w' => ∃ A c, e = .returned (.slice A (sumV (sizeV l)) c) ∧ Gr w w' :=
  (rord9_any u l (sizeV l) w h hf hlen).mono fun e w' ⟨s, he, hx, hg⟩ => by
    obtain ⟨A, c, rfl, -⟩ := hx.xv
    rw [ordR_all] at he
    exact ⟨A, c, he, hg⟩
theorem sum_add (l : LG) {i : Nat} (hi : i < 8) (t : TX) : sumV (sizeV (addL l i t)) = sumV (sizeV l) + 1 := by
  have e : sizeV (addL l i t) = upd (sizeV l) i ((l i).length + 1) := by
    funext j
    show (addL l i t j).length = _
    rw [addL_size]
    unfold upd
    rfl
  have h := sumTo_upd (v := sizeV l) (k := i) (x := (l i).length + 1) (n := 8) hi
  rw [e]
  unfold sumV
  have : sizeV l i = (l i).length := rfl
  omega
/-- What Add makes of logs that may be. -/
theorem add_facts {l a : LG} {t : TX} {e : Nat} (ok : checkE l = 0) (ha : a = (addR l t).2) (he : e = (addR l t).1) (fc : FitC l) (fq : FitQ l) (hq : t.seq < 18446744073709551616) (ht : t.ops.length * 48 ≤ 140737488355328 ∧ ∀ o ∈ t.ops, o.key.size ≤ 281474976710656 ∧ o.elem.size ≤ 281474976710656) :
    (e ≠ 0 → a = nilL) ∧ (e = 0 → checkE a = 0 ∧ FitC a ∧ FitQ a ∧ joinR l a = (0, a) ∧ closedB a (sizeV l) = true ∧ (sumV (sizeV a) = sumV (sizeV l) ∨ sumV (sizeV a) = sumV (sizeV l) + 1)) := by
  have hl := okL_iff.1 ok
  have same : addR l t = (0, l) → (e ≠ 0 → a = nilL) ∧ (e = 0 → checkE a = 0 ∧ FitC a ∧ FitQ a ∧ joinR l a = (0, a) ∧ closedB a (sizeV l) = true ∧ (sumV (sizeV a) = sumV (sizeV l) ∨ sumV (sizeV a) = sumV (sizeV l) + 1)) := fun h => by
    rw [h] at ha he
    have ha : a = l := ha
    have he : e = 0 := he
    subst ha he
    exact ⟨fun h => absurd rfl h, fun _ => ⟨ok, fc, fq, by rw [joinR_of ok ok (fun _ _ => rfl), jnL_self], closedB_iff.2 (okL_closed hl), .inl rfl⟩⟩
  have no : ∀ n, n ≠ 0 → addR l t = (n, nilL) → (e ≠ 0 → a = nilL) ∧ (e = 0 → checkE a = 0 ∧ FitC a ∧ FitQ a ∧ joinR l a = (0, a) ∧ closedB a (sizeV l) = true ∧ (sumV (sizeV a) = sumV (sizeV l) ∨ sumV (sizeV a) = sumV (sizeV l) + 1)) := fun n hn h => by
    rw [h] at ha he
    have ha : a = nilL := ha
    have he : e = n := he
    exact ⟨fun _ => ha, fun h => absurd (he.symm.trans h) hn⟩
  by_cases h1 : okTx t
  · by_cases h2 : t.seq ≤ (l t.origin.toNat).length
    · cases h3 : (l t.origin.toNat)[t.seq - 1]? with
      | none => exact no 91 (by decide) (by unfold addR; rw [if_pos h1, if_pos h2, h3])
      | some x =>
        by_cases h4 : sameT x t = true
        · exact same (by unfold addR; rw [if_pos h1, if_pos h2, h3]; exact if_pos h4)
        · exact no 91 (by decide) (by unfold addR; rw [if_pos h1, if_pos h2, h3]; exact if_neg h4)
    · by_cases h3 : behindE l t = 0
      · by_cases h4 : (l t.origin.toNat).length < 1024
        · have h : addR l t = (0, addL l t.origin.toNat t) := by unfold addR; rw [if_pos h1, if_neg h2, if_pos h3, if_pos h4]
          rw [h] at ha he
          have ha : a = addL l t.origin.toNat t := ha
          have he : e = 0 := he
          have o1 := h1.1.1
          have o2 := h1.1.2.1
          have hi8 : t.origin.toNat < 8 := by omega
          have hio : t.origin = (t.origin.toNat : Int) := by omega
          have oka := okL_iff.2 (okL_add hl h1 hio hi8 (by omega) h3 h4)
          obtain ⟨i, hi⟩ : ∃ i, i = t.origin.toNat := ⟨_, rfl⟩
          rw [← hi] at ha hi8 hio oka h4 h2
          subst ha he
          refine ⟨fun h => absurd rfl h, fun _ => ⟨oka, fitC_add fc h4 ht, fun j x hj hx => ?_, by rw [joinR_of ok oka (compat_add l i t), jnL_add], closedB_iff.2 ⟨lq_of fun j _ => addL_le l i t j, fun j k x hj hk hx => ?_⟩, .inr (sum_add l hi8 t)⟩⟩
          · unfold addL at hx
            by_cases q : j = i
            · rw [if_pos q] at hx
              rcases List.mem_append.1 hx with hx | hx
              · exact fq i x hi8 hx
              · simp only [List.mem_singleton] at hx
                subst hx
                exact ⟨hq, fun o ho => by have := (ht.2 o ho).1; omega⟩
            · rw [if_neg q] at hx
              exact fq j x hj hx
          · have hk2 : k < (l j).length := hk
            rw [addL_at hk2] at hx
            exact (hl.tx j k x hj hx).2.2.2.1
        · exact no 4 (by decide) (by unfold addR; rw [if_pos h1, if_neg h2, if_pos h3, if_neg h4])
      · exact no _ h3 (by unfold addR; rw [if_pos h1, if_neg h2, if_neg h3])
  · exact no 80 (by decide) (by unfold addR; rw [if_neg h1])
def FA (u : Nat → S3) (t : TX) (v : Value) (e : Nat) : Nat → Option Value
  | 0 => some (.agg (lcells u))
  | 2 => some (.agg (tcs t v))
  | 7 => some (.int .i64 (e : Int))
  | 10 => some (.int .i64 (e : Int))
  | _ => none
def GA (l a : LG) : Nat → Option LG
  | 1 => some l
  | 6 => some a
  | _ => none
def JA (a : LG) (e : Nat) : Nat → Option (LG × Nat)
  | 4 => some (a, e)
  | 5 => some (a, e)
  | _ => none
def KA (t : TX) : Nat → Option TX
  | 3 => some t
  | _ => none
def FO (u ua : Nat → S3) (sl sa : Nat → Nat) (nl na : Nat) : Nat → Option Value
  | 0 => some (.agg (lcells ua))
  | 1 => some (.agg (lcells ua))
  | 2 => some (.agg (vcells sa))
  | 4 => some (.int .i64 (na : Int))
  | 5 => some (.agg (lcells u))
  | 6 => some (.agg (lcells u))
  | 7 => some (.agg (vcells sl))
  | 9 => some (.int .i64 (nl : Int))
  | 10 => some (.int .i64 (IntKind.i64.wrap ((na : Int) - (nl : Int))))
  | 11 => some (.int .i64 (IntKind.i64.wrap ((na : Int) - (nl : Int))))
  | _ => none
def SO9 (nl na : Nat) : Nat → Option Nat
  | 3 => some na
  | 8 => some nl
  | _ => none
set_option maxRecDepth 100000 in
set_option maxHeartbeats 4000000 in
theorem adds9_law (u : Nat → S3) (l : LG) (t : TX) (v : Value) (w : World) (h : LV w u l) (hf : FitL l) (hv : TOV w v t.ops) (hft : FitX t) :
    Calls Try.prog 7 #[.agg (lcells u), .agg (tcs t v)] w fun e w' => e = .returned (.bool true) ∧ Gr w w' := by
  obtain ⟨W, hW, hg, hsz, hL, hT⟩ := boxesLT u t v w
  have htf : t.ops.length * 48 ≤ 140737488355328 ∧ ∀ o ∈ t.ops, o.key.size ≤ 281474976710656 ∧ o.elem.size ≤ 281474976710656 := ⟨by have := hft.len; omega, fun o ho => ⟨(hft.ops o ho).2.2.1, (hft.ops o ho).2.2.2⟩⟩
  have HL := Lib.hid hL
  have HT := Lib.hid hT
  have HG := Lib.hid hg
  have HFC := Lib.hid hf.c
  have HFQ := Lib.hid hf.q
  have HLU := Lib.hid h
  have HCK := Lib.hid (fun w1 (g : Gr w w1) => rcheck9_any u l w1 (h.gr g) hf.q)
  have HCP := Lib.hid (fun w1 (g : Gr w w1) => rcopy9_any u l w1 (h.gr g) hf.c)
  have HCT := Lib.hid (fun w1 (g : Gr w w1) => rcopy8_own t v w1 (hv.gr g) htf.1)
  obtain ⟨Av, cv, rfl⟩ := tov_form hv
  obtain ⟨nv, hnv⟩ : ∃ n, n = t.ops.length := ⟨_, rfl⟩
  rw [← hnv] at HCT HT hW
  rw [← hnv]
  obtain ⟨a, ha⟩ : ∃ y, y = (addR l t).2 := ⟨_, rfl⟩
  obtain ⟨ea, hea⟩ : ∃ y, y = (addR l t).1 := ⟨_, rfl⟩
  have HAD := Lib.hid (fun u1 v1 w1 (k1 : LV w1 u1 l) (k2 : TOV w1 v1 t.ops) => add_any u1 l t v1 w1 k1 hf.c k2 hft.seq htf)
  rw [← ha, ← hea] at HAD
  have HFA := Lib.hid (fun ok : checkE l = 0 => add_facts ok ha hea hf.c hf.q hft.seq htf)
  clear h hf hv hft htf hL hT hg hsz hnv ha hea
  go_enter Try.func7, Try.ntmps7
  go_upto_region 1 with (fail)
  rw [← hW]
  clear hW
  go_wp2_with fail
  refine (awake9_any W).mono ?_
  rintro e w1 ⟨rfl, g1⟩
  have HG1 := Lib.hid (HG.out.trans g1)
  have HL1 := Lib.hid (HL.out.gr g1)
  have HT1 := Lib.hid (HT.out.gr g1)
  obtain ⟨l0, l1, l2, l3, l4, l5, l6, l7⟩ := HL1.out.all
  clear g1
  go_wp2_with fail
  refine (HCK.out _ HG1.out).mono ?_
  rintro e w2 ⟨rfl, g2⟩
  have HG2 := Lib.hid (HG1.out.trans g2)
  have HL2 := Lib.hid (HL1.out.gr g2)
  have HT2 := Lib.hid (HT1.out.gr g2)
  clear g2 l0 l1 l2 l3 l4 l5 l6 l7 HG1 HL1 HT1 HL HT
  obtain ⟨ec, hec⟩ : ∃ x, x = checkE l := ⟨_, rfl⟩
  rw [← hec]
  have HEC := Lib.hid hec
  clear hec
  by_cases he : ec = 0
  case neg =>
    have hne : ¬ ((ec : Int) = 0) := by omega
    go_wp2_with fail
    go_ret
    exact ⟨rfl, HG2.out⟩
  have HOK : Hid (checkE l = 0) := Lib.hid (by rw [← HEC.out, he])
  have HFA := Lib.hid (HFA.out HOK.out)
  have he0 : (ec : Int) = 0 := by omega
  go_upto_region 5 with (fail)
  clear he he0 HEC
  go_cut [5, 6] (fun s5 s6 wx => ∃ P ua, s5 = .pointer (some ⟨P, 0, none⟩) ∧ s6 = .int .i64 (ea : Int) ∧ Hid (LBox wx P ua ∧ LN wx w2.heap.size ua a ∧ Gr w2 wx))
  case first =>
    refine wp_region_noPanic ?_
    refine iRegionA (RI btL w2 (QM (FA u t (.slice Av nv cv) ea) (GA l a) (JA a ea) (KA t) (fun _ => none) w2.heap.size) [(8, 9, 6)] (fun _ => 24) (fun _ => lcells fun _ => ⟨none, 0, 0⟩)) (by kernel_rfl) (by kernel_rfl) (ri_start QM.st (Gr.refl _)) ?_ ?_
    · intro i o ho vals wc A hI hn hdep hOld hNew
      have hi : i < 11 := (List.getElem?_eq_some_iff.1 ho).1
      have hgc := HG2.out.trans hI.gr
      obtain ⟨l0, l1, l2, l3, l4, l5, l6, l7⟩ := (HL2.out.gr hI.gr).all
      obtain ⟨x0, x1, x2, x3, x4, x5, x6, x7, x8, x9, x10, x11⟩ := HT2.out.gr hI.gr
      have eo2 : A.tmps[2]?.getD undef = .pointer (some ⟨w.heap.size, 0, none⟩) := slotE (hOld 2 (by kernel_rfl))
      have eo3 : A.tmps[3]?.getD undef = .pointer (some ⟨w.heap.size + 1, 0, none⟩) := slotE (hOld 3 (by kernel_rfl))
      obtain rfl | rfl | rfl | rfl | rfl | rfl | rfl | rfl | rfl | rfl | rfl : i = 0 ∨ i = 1 ∨ i = 2 ∨ i = 3 ∨ i = 4 ∨ i = 5 ∨ i = 6 ∨ i = 7 ∨ i = 8 ∨ i = 9 ∨ i = 10 := by omega
      · obtain rfl := Option.some.inj (show some _ = some o from ho)
        refine aVal rfl rfl (v := .agg (lcells u)) (w' := wc) ?_ ⟨_, rfl, hI.val hn (by decide) (qmF rfl rfl rfl rfl rfl)⟩
        go_simp
      · obtain rfl := Option.some.inj (show some _ = some o from ho)
        obtain ⟨y0, hy0⟩ := hdep ⟨0, .data⟩ (by simp) rfl
        have s0 := slotE (hNew 0 16 _ y0 rfl rfl (by kernel_rfl) hy0)
        rw [(hI.ok 0 y0 hy0).f _ rfl] at s0
        refine aCall rfl rfl (w1 := wc) ?_ ((HCP.out wc hgc).mono fun e w' ⟨ux, he, hlx, hg⟩ => ⟨_, he, _, rfl, (hI.next hg).val hn (by decide) (qmG rfl rfl rfl rfl rfl (hlx.le hI.gr.size))⟩)
        go_simp
      · obtain rfl := Option.some.inj (show some _ = some o from ho)
        refine aVal rfl rfl (v := .agg (tcs t (.slice Av nv cv))) (w' := wc) ?_ ⟨_, rfl, hI.val hn (by decide) (qmF rfl rfl rfl rfl rfl)⟩
        go_simp
      · obtain rfl := Option.some.inj (show some _ = some o from ho)
        obtain ⟨y2, hy2⟩ := hdep ⟨2, .data⟩ (by simp) rfl
        have s2 := slotE (hNew 2 18 _ y2 rfl rfl (by kernel_rfl) hy2)
        rw [(hI.ok 2 y2 hy2).f _ rfl] at s2
        refine aCall rfl rfl (w1 := wc) ?_ ((HCT.out wc hgc).mono fun e w' ⟨ux, he, hlx, hg⟩ => ⟨_, he, _, rfl, (hI.next hg).val hn (by decide) (qmK rfl rfl rfl rfl rfl (own_le hlx hI.gr.size))⟩)
        go_simp
      · obtain rfl := Option.some.inj (show some _ = some o from ho)
        obtain ⟨y1, hy1⟩ := hdep ⟨1, .data⟩ (by simp) rfl
        obtain ⟨u1, rfl, hl1⟩ := (hI.ok 1 y1 hy1).g _ rfl
        have s1 := slotE (hNew 1 17 _ _ rfl rfl (by kernel_rfl) hy1)
        obtain ⟨y3, hy3⟩ := hdep ⟨3, .data⟩ (by simp) rfl
        obtain ⟨v3, rfl, hl3⟩ := (hI.ok 3 y3 hy3).kk _ rfl
        have s3 := slotE (hNew 3 19 _ _ rfl rfl (by kernel_rfl) hy3)
        refine aCall rfl rfl (w1 := wc) ?_ ((HAD.out u1 v3 wc hl1.lv hl3.tov).mono fun e w' ⟨ux, he, hlx, hg⟩ => ⟨_, he, _, rfl, (hI.next hg).val hn (by decide) (qmJ rfl rfl rfl rfl rfl (hlx.le hI.gr.size))⟩)
        go_simp
      · obtain rfl := Option.some.inj (show some _ = some o from ho)
        obtain ⟨y4, hy4⟩ := hdep ⟨4, .data⟩ (by simp) rfl
        obtain ⟨u4, rfl, hl4⟩ := (hI.ok 4 y4 hy4).j _ rfl
        have s4 := slotE (hNew 4 20 _ _ rfl rfl (by kernel_rfl) hy4)
        refine aVal rfl rfl (v := .tuple #[.agg (lcells u4), .int .i64 (ea : Int)]) (w' := wc) ?_ ⟨_, rfl, hI.val hn (by decide) (qmJ rfl rfl rfl rfl rfl hl4)⟩
        go_simp
      · obtain rfl := Option.some.inj (show some _ = some o from ho)
        obtain ⟨y5, hy5⟩ := hdep ⟨5, .data⟩ (by simp) rfl
        obtain ⟨u5, rfl, hl5⟩ := (hI.ok 5 y5 hy5).j _ rfl
        have s5 := slotE (hNew 5 15 _ _ rfl rfl (by kernel_rfl) hy5)
        refine aVal rfl rfl (v := .agg (lcells u5)) (w' := wc) ?_ ⟨_, rfl, hI.val hn (by decide) (qmG rfl rfl rfl rfl rfl hl5)⟩
        go_simp
      · obtain rfl := Option.some.inj (show some _ = some o from ho)
        obtain ⟨y5, hy5⟩ := hdep ⟨5, .data⟩ (by simp) rfl
        obtain ⟨u5, rfl, hl5⟩ := (hI.ok 5 y5 hy5).j _ rfl
        have s5 := slotE (hNew 5 15 _ _ rfl rfl (by kernel_rfl) hy5)
        refine aVal rfl rfl (v := .int .i64 (ea : Int)) (w' := wc) ?_ ⟨_, rfl, hI.val hn (by decide) (qmF rfl rfl rfl rfl rfl)⟩
        go_simp
      · obtain rfl := Option.some.inj (show some _ = some o from ho)
        refine aVal rfl rfl (v := .pointer (some ⟨wc.heap.size, 0, none⟩)) (w' := wc.alloc (.cells (lcells fun _ => ⟨none, 0, 0⟩) 24)) ?_ ⟨_, rfl, hI.new hn (by decide) rfl rfl (fun _ _ => qmN rfl rfl rfl rfl rfl)⟩
        go_simp
      · obtain rfl := Option.some.inj (show some _ = some o from ho)
        obtain ⟨y8, hy8⟩ := hdep ⟨8, .data⟩ (by simp) rfl
        obtain ⟨P, rfl, hP1, hP2⟩ := hI.at_new (a := 8) (k := 9) (s := 6) (by decide) hn hy8
        have s8 := slotE (hNew 8 5 _ _ rfl rfl (by kernel_rfl) hy8)
        obtain ⟨y6, hy6⟩ := hdep ⟨6, .data⟩ (by simp) rfl
        obtain ⟨u6, rfl, hl6⟩ := (hI.ok 6 y6 hy6).g _ rfl
        have s6 := slotE (hNew 6 21 _ _ rfl rfl (by kernel_rfl) hy6)
        have hz : LBox wc P Z3 := ⟨hP2⟩
        obtain ⟨c0, c1, c2, c3, c4, c5, c6, c7⟩ := hz.zero
        have f0 := unfrozen_of_block hz.box 0
        have f1 := unfrozen_of_block hz.box 1
        have f2 := unfrozen_of_block hz.box 2
        have f3 := unfrozen_of_block hz.box 3
        have f4 := unfrozen_of_block hz.box 4
        have f5 := unfrozen_of_block hz.box 5
        have f6 := unfrozen_of_block hz.box 6
        have f7 := unfrozen_of_block hz.box 7
        refine aSkip rfl rfl (w' := putCells wc P 0 (lcells u6).toList) ?_ ⟨_, rfl, hI.putA (a := 8) (k := 9) (s := 6) (c := lcells u6) (by decide) hn (by decide) (by decide) (by decide) hy8 hy6 rfl (fun _ => qmN rfl rfl rfl rfl rfl)⟩
        clear hz hI
        go_simp
        rfl
      · obtain rfl := Option.some.inj (show some _ = some o from ho)
        obtain ⟨y7, hy7⟩ := hdep ⟨7, .data⟩ (by simp) rfl
        have s7 := slotE (hNew 7 22 _ y7 rfl rfl (by kernel_rfl) hy7)
        rw [(hI.ok 7 y7 hy7).f _ rfl] at s7
        refine aVal rfl rfl (v := .int .i64 (ea : Int)) (w' := wc) ?_ ⟨_, rfl, hI.val hn (by decide) (qmF rfl rfl rfl rfl rfl)⟩
        go_simp
    · intro vals wc hall hI
      refine NoPanic.normal ?_
      obtain ⟨y0, h0⟩ := hall 0 (by decide)
      obtain ⟨y1, h1⟩ := hall 1 (by decide)
      obtain ⟨y2, h2⟩ := hall 2 (by decide)
      obtain ⟨y3, h3⟩ := hall 3 (by decide)
      obtain ⟨y4, h4⟩ := hall 4 (by decide)
      obtain ⟨y5, h5⟩ := hall 5 (by decide)
      obtain ⟨y6, h6⟩ := hall 6 (by decide)
      obtain ⟨y7, h7⟩ := hall 7 (by decide)
      obtain ⟨y8, h8⟩ := hall 8 (by decide)
      obtain ⟨y9, h9⟩ := hall 9 (by decide)
      obtain ⟨y10, h10⟩ := hall 10 (by decide)
      obtain ⟨u6, rfl, hl6⟩ := (hI.ok 6 y6 h6).g _ rfl
      obtain ⟨P, rfl, -, hbP⟩ := hI.at_full (a := 8) (k := 9) (s := 6) (by decide) h9 h6 h8
      obtain rfl := (hI.ok 10 y10 h10).f _ rfl
      have HBP : Hid (LBox wc P u6) := Lib.hid ⟨hbP⟩
      have HLP := Lib.hid hl6
      have HGC := Lib.hid hI.gr
      clear hbP hl6
      simp only [putAll, putV, h0, h1, h2, h3, h4, h5, h6, h7, h8, h9, h10]
      clear hI hall h0 h1 h2 h3 h4 h5 h6 h7 h8 h9 h10
      simp only [Act.put, List.setIfInBounds_toArray, List.set_cons_zero, List.set_cons_succ]
      go_wp2_with fail
      go_meet
      exact ⟨P, u6, rfl, rfl, Lib.hid ⟨HBP.out, HLP.out, HGC.out⟩⟩
  case rest =>
    obtain ⟨P, ua, rfl, rfl, hst⟩ := hcut
    rename World => w3
    have HB3 := Lib.hid hst.out.1
    have HN3 := Lib.hid hst.out.2.1
    have HG3 := Lib.hid (HG2.out.trans hst.out.2.2)
    have HL3 := Lib.hid (HL2.out.gr hst.out.2.2)
    clear hst HL2 HT2 HG2
    by_cases hz0 : ea = 0
    case neg =>
      have hne : ¬ ((ea : Int) = 0) := by omega
      have hnil : a = nilL := HFA.out.1 hz0
      have HS := Lib.hid (fun w1 (g : Gr w3 w1) => rsame9_any ua Z3 a nilL w1 (HN3.out.lv.gr g) (LV.nil _))
      rw [hnil, sameLG_self] at HS
      have HS : Hid (∀ w1, Gr w3 w1 → Calls Try.prog 14 #[.agg (lcells ua), .agg zlc] w1 fun e w' => e = .returned (.bool true) ∧ Gr w1 w') := HS
      obtain ⟨p0, p1, p2, p3, p4, p5, p6, p7⟩ := HB3.out.all
      clear hnil hz0
      go_wp2_with fail
      refine (HS.out _ (Gr.refl _)).mono ?_
      rintro e w4 ⟨rfl, g4⟩
      have HG4 := Lib.hid (HG3.out.trans g4)
      clear g4
      go_wp2_with fail
      go_ret
      exact ⟨rfl, HG4.out⟩
    have hz1 : (ea : Int) = 0 := by omega
    obtain ⟨hca, hfa, hqa, hja, hcl, hsum⟩ := HFA.out.2 hz0
    have HCA := Lib.hid hca
    have HFCA := Lib.hid hfa
    have HJN := Lib.hid (fun w1 (g : Gr w3 w1) => rjoin9_any u ua l a w1 (HLU.out.gr (HG3.out.trans g)) (HN3.out.lv.gr g) HFQ.out hqa HFC.out hfa)
    rw [hja] at HJN
    have HJN : Hid (∀ w1, Gr w3 w1 → Calls Try.prog 13 #[.agg (lcells u), .agg (lcells ua)] w1 fun e w' => ∃ u', e = .returned (.tuple #[.agg (lcells u'), .int .i64 0]) ∧ LN w' w1.heap.size u' a ∧ Gr w1 w') := HJN
    obtain ⟨sl, hsl⟩ : ∃ y, y = sizeV l := ⟨_, rfl⟩
    obtain ⟨sa, hsa⟩ : ∃ y, y = sizeV a := ⟨_, rfl⟩
    obtain ⟨nl, hnl⟩ : ∃ y, y = sumV (sizeV l) := ⟨_, rfl⟩
    obtain ⟨na, hna⟩ : ∃ y, y = sumV (sizeV a) := ⟨_, rfl⟩
    have HZL := Lib.hid (fun w1 (g : Gr w3 w1) => rsize_any u l w1 (HLU.out.gr (HG3.out.trans g)))
    have HZA := Lib.hid (fun w1 (g : Gr w3 w1) => rsize_any ua a w1 (HN3.out.lv.gr g))
    have HOL := Lib.hid (fun w1 (g : Gr w3 w1) => rord9_len u l w1 (HLU.out.gr (HG3.out.trans g)) HFC.out (okL_iff.1 HOK.out).len)
    have HOA := Lib.hid (fun w1 (g : Gr w3 w1) => rord9_len ua a w1 (HN3.out.lv.gr g) hfa (okL_iff.1 hca).len)
    have HCC := Lib.hid (fun w1 (g : Gr w3 w1) => rcheck9_any ua a w1 (HN3.out.lv.gr g) hqa)
    have HCL := Lib.hid (fun w1 (g : Gr w3 w1) => closed_any ua a (sizeV l) w1 (HN3.out.lv.gr g))
    rw [hcl, ← hsl] at HCL
    rw [hca] at HCC
    rw [← hnl, ← hsl] at HOL
    rw [← hna, ← hsa] at HOA
    rw [← hsl] at HZL
    rw [← hsa] at HZA
    have HSUM : Hid (na = nl ∨ na = nl + 1) := Lib.hid (by rw [hna, hnl]; exact hsum)
    have HNL : Hid (nl ≤ 8192) := Lib.hid (by
      rw [hnl]
      have hle := (okL_iff.1 HOK.out).len
      have h1 : ∀ i, i ≤ 8 → sumTo (sizeV l) i ≤ i * 1024 := by
        intro i hi
        induction i with
        | zero => exact Nat.le_refl _
        | succ i ih =>
          have h1 := ih (by omega)
          have h2 : sizeV l i ≤ 1024 := hle i (by omega)
          show sumTo (sizeV l) i + sizeV l i ≤ _
          omega
      have := h1 8 (Nat.le_refl _)
      unfold sumV
      omega)
    clear hca hfa hqa hja hcl hsum hsl hsa hnl hna hz0
    obtain ⟨p0, p1, p2, p3, p4, p5, p6, p7⟩ := HL3.out.all
    obtain ⟨q0, q1, q2, q3, q4, q5, q6, q7⟩ := HB3.out.all
    go_wp2_with fail
    refine (HJN.out _ (Gr.refl _)).mono ?_
    rintro e w4 ⟨uj, rfl, hlj, g4⟩
    clear p0 p1 p2 p3 p4 p5 p6 p7 q0 q1 q2 q3 q4 q5 q6 q7
    have hz : LBox (w4.alloc (.cells (lcells fun _ => ⟨none, 0, 0⟩) 24)) w4.heap.size Z3 := ⟨heap_alloc _ _ _⟩
    obtain ⟨c0, c1, c2, c3, c4, c5, c6, c7⟩ := hz.zero
    have f0 := unfrozen_of_block hz.box 0
    have f1 := unfrozen_of_block hz.box 1
    have f2 := unfrozen_of_block hz.box 2
    have f3 := unfrozen_of_block hz.box 3
    have f4 := unfrozen_of_block hz.box 4
    have f5 := unfrozen_of_block hz.box 5
    have f6 := unfrozen_of_block hz.box 6
    have f7 := unfrozen_of_block hz.box 7
    go_upto_region 9 with (fail)
    clear c0 c1 c2 c3 c4 c5 c6 c7 f0 f1 f2 f3 f4 f5 f6 f7 hz hz1
    obtain ⟨w5, hw5, g5, hb5⟩ : ∃ x, x = (w4.alloc (.cells (lcells uj) 24)) ∧ Gr w4 x ∧ LBox x w4.heap.size uj := ⟨_, rfl, (Gr.refl w4).alloc _, ⟨heap_alloc _ _ _⟩⟩
    rw [← hw5]
    obtain ⟨R, hR⟩ : ∃ P, P = w4.heap.size := ⟨_, rfl⟩
    rw [← hR] at hb5 ⊢
    have HG35 := Lib.hid (g4.trans g5)
    have HBJ := Lib.hid hb5
    have HLJ := Lib.hid (hlj.lv.gr g5)
    clear hw5 hR g4 g5 hlj hb5
    go_cut [9] (fun s9 wx => s9 = .int .i64 (IntKind.i64.wrap ((na : Int) - (nl : Int))) ∧ Hid (Gr w5 wx))
    case first =>
      refine wp_region_noPanic ?_
      refine iRegionA (RI btL w5 (QM (FO u ua sl sa nl na) (fun _ => none) (fun _ => none) (fun _ => none) (SO9 nl na) w5.heap.size) [] (fun _ => 24) (fun _ => lcells fun _ => ⟨none, 0, 0⟩)) (by kernel_rfl) (by kernel_rfl) (ri_start QM.st (Gr.refl _)) ?_ ?_
      · intro i o ho vals wc A hI hn hdep hOld hNew
        have hi : i < 12 := (List.getElem?_eq_some_iff.1 ho).1
        have hgc := HG35.out.trans hI.gr
        obtain ⟨l0, l1, l2, l3, l4, l5, l6, l7⟩ := (HL3.out.gr hgc).all
        obtain ⟨m0, m1, m2, m3, m4, m5, m6, m7⟩ := (HB3.out.gr hgc).all
        have eo2 : A.tmps[2]?.getD undef = .pointer (some ⟨w.heap.size, 0, none⟩) := slotE (hOld 2 (by kernel_rfl))
        have eo5 : A.tmps[5]?.getD undef = .pointer (some ⟨P, 0, none⟩) := slotE (hOld 5 (by kernel_rfl))
        obtain rfl | rfl | rfl | rfl | rfl | rfl | rfl | rfl | rfl | rfl | rfl | rfl : i = 0 ∨ i = 1 ∨ i = 2 ∨ i = 3 ∨ i = 4 ∨ i = 5 ∨ i = 6 ∨ i = 7 ∨ i = 8 ∨ i = 9 ∨ i = 10 ∨ i = 11 := by omega
        · obtain rfl := Option.some.inj (show some _ = some o from ho)
          refine aVal rfl rfl (v := .agg (lcells ua)) (w' := wc) ?_ ⟨_, rfl, hI.val hn (by decide) (qmF rfl rfl rfl rfl rfl)⟩
          go_simp
        · obtain rfl := Option.some.inj (show some _ = some o from ho)
          refine aVal rfl rfl (v := .agg (lcells ua)) (w' := wc) ?_ ⟨_, rfl, hI.val hn (by decide) (qmF rfl rfl rfl rfl rfl)⟩
          go_simp
        · obtain rfl := Option.some.inj (show some _ = some o from ho)
          obtain ⟨y1, hy1⟩ := hdep ⟨1, .data⟩ (by simp) rfl
          have s1 := slotE (hNew 1 35 _ y1 rfl rfl (by kernel_rfl) hy1)
          rw [(hI.ok 1 y1 hy1).f _ rfl] at s1
          refine aCall rfl rfl (w1 := wc) ?_ ((HZA.out wc hgc).mono fun e w' ⟨he, hg⟩ => ⟨_, he, _, rfl, (hI.next hg).val hn (by decide) (qmF rfl rfl rfl rfl rfl)⟩)
          go_simp
        · obtain rfl := Option.some.inj (show some _ = some o from ho)
          obtain ⟨y0, hy0⟩ := hdep ⟨0, .data⟩ (by simp) rfl
          have s0 := slotE (hNew 0 34 _ y0 rfl rfl (by kernel_rfl) hy0)
          rw [(hI.ok 0 y0 hy0).f _ rfl] at s0
          obtain ⟨y2, hy2⟩ := hdep ⟨2, .data⟩ (by simp) rfl
          have s2 := slotE (hNew 2 36 _ y2 rfl rfl (by kernel_rfl) hy2)
          rw [(hI.ok 2 y2 hy2).f _ rfl] at s2
          refine aCall rfl rfl (w1 := wc) ?_ ((HOA.out wc hgc).mono fun e w' ⟨Ax, cx, he, hg⟩ => ⟨_, he, _, rfl, (hI.next hg).val hn (by decide) (qmS rfl rfl rfl rfl rfl)⟩)
          go_simp
        · obtain rfl := Option.some.inj (show some _ = some o from ho)
          obtain ⟨y3, hy3⟩ := hdep ⟨3, .data⟩ (by simp) rfl
          obtain ⟨A3, c3, rfl⟩ := (hI.ok 3 y3 hy3).ss _ rfl
          have s3 := slotE (hNew 3 37 _ _ rfl rfl (by kernel_rfl) hy3)
          refine aVal rfl rfl (v := .int .i64 (na : Int)) (w' := wc) ?_ ⟨_, rfl, hI.val hn (by decide) (qmF rfl rfl rfl rfl rfl)⟩
          go_simp
        · obtain rfl := Option.some.inj (show some _ = some o from ho)
          refine aVal rfl rfl (v := .agg (lcells u)) (w' := wc) ?_ ⟨_, rfl, hI.val hn (by decide) (qmF rfl rfl rfl rfl rfl)⟩
          go_simp
        · obtain rfl := Option.some.inj (show some _ = some o from ho)
          refine aVal rfl rfl (v := .agg (lcells u)) (w' := wc) ?_ ⟨_, rfl, hI.val hn (by decide) (qmF rfl rfl rfl rfl rfl)⟩
          go_simp
        · obtain rfl := Option.some.inj (show some _ = some o from ho)
          obtain ⟨y6, hy6⟩ := hdep ⟨6, .data⟩ (by simp) rfl
          have s6 := slotE (hNew 6 40 _ y6 rfl rfl (by kernel_rfl) hy6)
          rw [(hI.ok 6 y6 hy6).f _ rfl] at s6
          refine aCall rfl rfl (w1 := wc) ?_ ((HZL.out wc hgc).mono fun e w' ⟨he, hg⟩ => ⟨_, he, _, rfl, (hI.next hg).val hn (by decide) (qmF rfl rfl rfl rfl rfl)⟩)
          go_simp
        · obtain rfl := Option.some.inj (show some _ = some o from ho)
          obtain ⟨y5, hy5⟩ := hdep ⟨5, .data⟩ (by simp) rfl
          have s5 := slotE (hNew 5 39 _ y5 rfl rfl (by kernel_rfl) hy5)
          rw [(hI.ok 5 y5 hy5).f _ rfl] at s5
          obtain ⟨y7, hy7⟩ := hdep ⟨7, .data⟩ (by simp) rfl
          have s7 := slotE (hNew 7 41 _ y7 rfl rfl (by kernel_rfl) hy7)
          rw [(hI.ok 7 y7 hy7).f _ rfl] at s7
          refine aCall rfl rfl (w1 := wc) ?_ ((HOL.out wc hgc).mono fun e w' ⟨Ax, cx, he, hg⟩ => ⟨_, he, _, rfl, (hI.next hg).val hn (by decide) (qmS rfl rfl rfl rfl rfl)⟩)
          go_simp
        · obtain rfl := Option.some.inj (show some _ = some o from ho)
          obtain ⟨y8, hy8⟩ := hdep ⟨8, .data⟩ (by simp) rfl
          obtain ⟨A8, c8, rfl⟩ := (hI.ok 8 y8 hy8).ss _ rfl
          have s8 := slotE (hNew 8 42 _ _ rfl rfl (by kernel_rfl) hy8)
          refine aVal rfl rfl (v := .int .i64 (nl : Int)) (w' := wc) ?_ ⟨_, rfl, hI.val hn (by decide) (qmF rfl rfl rfl rfl rfl)⟩
          go_simp
        · obtain rfl := Option.some.inj (show some _ = some o from ho)
          obtain ⟨y4, hy4⟩ := hdep ⟨4, .data⟩ (by simp) rfl
          have s4 := slotE (hNew 4 38 _ y4 rfl rfl (by kernel_rfl) hy4)
          rw [(hI.ok 4 y4 hy4).f _ rfl] at s4
          obtain ⟨y9, hy9⟩ := hdep ⟨9, .data⟩ (by simp) rfl
          have s9 := slotE (hNew 9 43 _ y9 rfl rfl (by kernel_rfl) hy9)
          rw [(hI.ok 9 y9 hy9).f _ rfl] at s9
          refine aVal rfl rfl (v := .int .i64 (IntKind.i64.wrap ((na : Int) - (nl : Int)))) (w' := wc) ?_ ⟨_, rfl, hI.val hn (by decide) (qmF rfl rfl rfl rfl rfl)⟩
          go_simp
        · obtain rfl := Option.some.inj (show some _ = some o from ho)
          obtain ⟨y10, hy10⟩ := hdep ⟨10, .data⟩ (by simp) rfl
          have s10 := slotE (hNew 10 44 _ y10 rfl rfl (by kernel_rfl) hy10)
          rw [(hI.ok 10 y10 hy10).f _ rfl] at s10
          refine aVal rfl rfl (v := .int .i64 (IntKind.i64.wrap ((na : Int) - (nl : Int)))) (w' := wc) ?_ ⟨_, rfl, hI.val hn (by decide) (qmF rfl rfl rfl rfl rfl)⟩
          go_simp
      · intro vals wc hall hI
        refine NoPanic.normal ?_
        obtain ⟨y0, h0⟩ := hall 0 (by decide)
        obtain ⟨y1, h1⟩ := hall 1 (by decide)
        obtain ⟨y2, h2⟩ := hall 2 (by decide)
        obtain ⟨y3, h3⟩ := hall 3 (by decide)
        obtain ⟨y4, h4⟩ := hall 4 (by decide)
        obtain ⟨y5, h5⟩ := hall 5 (by decide)
        obtain ⟨y6, h6⟩ := hall 6 (by decide)
        obtain ⟨y7, h7⟩ := hall 7 (by decide)
        obtain ⟨y8, h8⟩ := hall 8 (by decide)
        obtain ⟨y9, h9⟩ := hall 9 (by decide)
        obtain ⟨y10, h10⟩ := hall 10 (by decide)
        obtain ⟨y11, h11⟩ := hall 11 (by decide)
        obtain rfl := (hI.ok 11 y11 h11).f _ rfl
        have HGC := Lib.hid hI.gr
        simp only [putAll, putV, h0, h1, h2, h3, h4, h5, h6, h7, h8, h9, h10, h11]
        clear hI hall h0 h1 h2 h3 h4 h5 h6 h7 h8 h9 h10 h11
        simp only [Act.put, List.setIfInBounds_toArray, List.set_cons_zero, List.set_cons_succ]
        go_wp2_with fail
        go_meet
        exact ⟨rfl, Lib.hid HGC.out⟩
    case rest =>
      obtain ⟨rfl, hg6⟩ := hcut
      rename World => w6
      have HG36 := Lib.hid (HG35.out.trans hg6.out)
      have HYA := Lib.hid (HB3.out.gr HG36.out).lc
      have HYJ := Lib.hid (HBJ.out.gr hg6.out).lc
      have HYL := Lib.hid (HL3.out.gr HG36.out).lc
      have HSM : Hid (∀ w1, Gr w3 w1 → Gr w6 w1 → Calls Try.prog 14 #[.agg (lcells uj), .agg (lcells ua)] w1 fun e w' => e = .returned (.bool true) ∧ Gr w1 w') := Lib.hid fun w1 g3 g6 => by
        have := rsame9_any uj ua a a w1 ((HLJ.out.gr hg6.out).gr g6) (HN3.out.lv.gr g3)
        rw [sameLG_self] at this
        exact this
      clear hg6
      rcases HSUM.out with hs | hs
      · subst hs
        have hd : IntKind.i64.wrap ((na : Int) - (na : Int)) = 0 := by simp [IntKind.wrap, IntKind.bits, IntKind.signed]
        rw [hd]
        clear hd
        go_upto_region 10 with (fail)
        refine qRegion (fun w' => LC w' P ua ∧ LC w' R uj ∧ LC w' w.heap.size u ∧ Gr w6 w') (by kernel_rfl) (by kernel_rfl) ⟨HYA.out.gr (Gr.refl _).drew, HYJ.out.gr (Gr.refl _).drew, HYL.out.gr (Gr.refl _).drew, (Gr.refl _).drew⟩ ?_
        iterate 1
          refine qTake (by kernel_rfl) ?_
          apply Exists.intro
          refine ⟨fun wq hq => ?_, ?_⟩
          · go_light
            obtain ⟨⟨p0, p1, p2, p3, p4, p5, p6, p7⟩, ⟨q0, q1, q2, q3, q4, q5, q6, q7⟩, ⟨r0, r1, r2, r3, r4, r5, r6, r7⟩, hg⟩ := hq
            go_simp
            try with_reducible rfl
            done
          try simp only [Act.put, List.setIfInBounds_toArray, List.set_cons_zero, List.set_cons_succ]
        refine qCall (by kernel_rfl) ?_
        apply Exists.intro
        refine ⟨?_, ?_⟩
        · apply Exists.intro
          apply Exists.intro
          refine ⟨fun wq => ?_, fun wq hq => ?_⟩
          · go_light
            go_simp
            exact ⟨rfl, rfl⟩
          · exact (HCC.out wq (HG36.out.trans hq.2.2.2)).mono fun e w'' ⟨he, hg⟩ => ⟨he, hq.1.gr hg, hq.2.1.gr hg, hq.2.2.1.gr hg, hq.2.2.2.trans hg⟩
        try simp only [Act.put, List.setIfInBounds_toArray, List.set_cons_zero, List.set_cons_succ]
        iterate 8
          refine qTake (by kernel_rfl) ?_
          apply Exists.intro
          refine ⟨fun wq hq => ?_, ?_⟩
          · go_light
            obtain ⟨⟨p0, p1, p2, p3, p4, p5, p6, p7⟩, ⟨q0, q1, q2, q3, q4, q5, q6, q7⟩, ⟨r0, r1, r2, r3, r4, r5, r6, r7⟩, hg⟩ := hq
            go_simp
            try with_reducible rfl
            done
          try simp only [Act.put, List.setIfInBounds_toArray, List.set_cons_zero, List.set_cons_succ]
        refine qCall (by kernel_rfl) ?_
        apply Exists.intro
        refine ⟨?_, ?_⟩
        · apply Exists.intro
          apply Exists.intro
          refine ⟨fun wq => ?_, fun wq hq => ?_⟩
          · go_light
            go_simp
            exact ⟨rfl, rfl⟩
          · exact (HSM.out wq (HG36.out.trans hq.2.2.2) hq.2.2.2).mono fun e w'' ⟨he, hg⟩ => ⟨he, hq.1.gr hg, hq.2.1.gr hg, hq.2.2.1.gr hg, hq.2.2.2.trans hg⟩
        try simp only [Act.put, List.setIfInBounds_toArray, List.set_cons_zero, List.set_cons_succ]
        iterate 5
          refine qTake (by kernel_rfl) ?_
          apply Exists.intro
          refine ⟨fun wq hq => ?_, ?_⟩
          · go_light
            obtain ⟨⟨p0, p1, p2, p3, p4, p5, p6, p7⟩, ⟨q0, q1, q2, q3, q4, q5, q6, q7⟩, ⟨r0, r1, r2, r3, r4, r5, r6, r7⟩, hg⟩ := hq
            go_simp
            try with_reducible rfl
            done
          try simp only [Act.put, List.setIfInBounds_toArray, List.set_cons_zero, List.set_cons_succ]
        iterate 2
          refine qSkip (by kernel_rfl) ?_
          try simp only [Act.put, List.setIfInBounds_toArray, List.set_cons_zero, List.set_cons_succ]
        iterate 5
          refine qTake (by kernel_rfl) ?_
          apply Exists.intro
          refine ⟨fun wq hq => ?_, ?_⟩
          · go_light
            obtain ⟨⟨p0, p1, p2, p3, p4, p5, p6, p7⟩, ⟨q0, q1, q2, q3, q4, q5, q6, q7⟩, ⟨r0, r1, r2, r3, r4, r5, r6, r7⟩, hg⟩ := hq
            go_simp
            try with_reducible rfl
            done
          try simp only [Act.put, List.setIfInBounds_toArray, List.set_cons_zero, List.set_cons_succ]
        refine qCall (by kernel_rfl) ?_
        apply Exists.intro
        refine ⟨?_, ?_⟩
        · apply Exists.intro
          apply Exists.intro
          refine ⟨fun wq => ?_, fun wq hq => ?_⟩
          · go_light
            go_simp
            exact ⟨rfl, rfl⟩
          · exact (HZL.out wq (HG36.out.trans hq.2.2.2)).mono fun e w'' ⟨he, hg⟩ => ⟨he, hq.1.gr hg, hq.2.1.gr hg, hq.2.2.1.gr hg, hq.2.2.2.trans hg⟩
        try simp only [Act.put, List.setIfInBounds_toArray, List.set_cons_zero, List.set_cons_succ]
        refine qCall (by kernel_rfl) ?_
        apply Exists.intro
        refine ⟨?_, ?_⟩
        · apply Exists.intro
          apply Exists.intro
          refine ⟨fun wq => ?_, fun wq hq => ?_⟩
          · go_light
            go_simp
            exact ⟨rfl, rfl⟩
          · exact (HCL.out wq (HG36.out.trans hq.2.2.2)).mono fun e w'' ⟨he, hg⟩ => ⟨he, hq.1.gr hg, hq.2.1.gr hg, hq.2.2.1.gr hg, hq.2.2.2.trans hg⟩
        try simp only [Act.put, List.setIfInBounds_toArray, List.set_cons_zero, List.set_cons_succ]
        iterate 2
          refine qTake (by kernel_rfl) ?_
          apply Exists.intro
          refine ⟨fun wq hq => ?_, ?_⟩
          · go_light
            obtain ⟨⟨p0, p1, p2, p3, p4, p5, p6, p7⟩, ⟨q0, q1, q2, q3, q4, q5, q6, q7⟩, ⟨r0, r1, r2, r3, r4, r5, r6, r7⟩, hg⟩ := hq
            go_simp
            try with_reducible rfl
            done
          try simp only [Act.put, List.setIfInBounds_toArray, List.set_cons_zero, List.set_cons_succ]
        refine qNil ?_
        rintro w7 ⟨-, -, -, hg7⟩
        have HG7 := Lib.hid (HG3.out.trans (HG36.out.trans hg7))
        clear hg7
        go_wp2_with fail
        go_ret
        exact ⟨rfl, HG7.out⟩
      · have hd : IntKind.i64.wrap ((na : Int) - (nl : Int)) = 1 := by rw [hs]; simp [IntKind.wrap, IntKind.bits, IntKind.signed]; omega
        rw [hd]
        clear hd hs
        go_upto_region 10 with (fail)
        refine qRegion (fun w' => LC w' P ua ∧ LC w' R uj ∧ LC w' w.heap.size u ∧ Gr w6 w') (by kernel_rfl) (by kernel_rfl) ⟨HYA.out.gr (Gr.refl _).drew, HYJ.out.gr (Gr.refl _).drew, HYL.out.gr (Gr.refl _).drew, (Gr.refl _).drew⟩ ?_
        iterate 1
          refine qTake (by kernel_rfl) ?_
          apply Exists.intro
          refine ⟨fun wq hq => ?_, ?_⟩
          · go_light
            obtain ⟨⟨p0, p1, p2, p3, p4, p5, p6, p7⟩, ⟨q0, q1, q2, q3, q4, q5, q6, q7⟩, ⟨r0, r1, r2, r3, r4, r5, r6, r7⟩, hg⟩ := hq
            go_simp
            try with_reducible rfl
            done
          try simp only [Act.put, List.setIfInBounds_toArray, List.set_cons_zero, List.set_cons_succ]
        refine qCall (by kernel_rfl) ?_
        apply Exists.intro
        refine ⟨?_, ?_⟩
        · apply Exists.intro
          apply Exists.intro
          refine ⟨fun wq => ?_, fun wq hq => ?_⟩
          · go_light
            go_simp
            exact ⟨rfl, rfl⟩
          · exact (HCC.out wq (HG36.out.trans hq.2.2.2)).mono fun e w'' ⟨he, hg⟩ => ⟨he, hq.1.gr hg, hq.2.1.gr hg, hq.2.2.1.gr hg, hq.2.2.2.trans hg⟩
        try simp only [Act.put, List.setIfInBounds_toArray, List.set_cons_zero, List.set_cons_succ]
        iterate 8
          refine qTake (by kernel_rfl) ?_
          apply Exists.intro
          refine ⟨fun wq hq => ?_, ?_⟩
          · go_light
            obtain ⟨⟨p0, p1, p2, p3, p4, p5, p6, p7⟩, ⟨q0, q1, q2, q3, q4, q5, q6, q7⟩, ⟨r0, r1, r2, r3, r4, r5, r6, r7⟩, hg⟩ := hq
            go_simp
            try with_reducible rfl
            done
          try simp only [Act.put, List.setIfInBounds_toArray, List.set_cons_zero, List.set_cons_succ]
        refine qCall (by kernel_rfl) ?_
        apply Exists.intro
        refine ⟨?_, ?_⟩
        · apply Exists.intro
          apply Exists.intro
          refine ⟨fun wq => ?_, fun wq hq => ?_⟩
          · go_light
            go_simp
            exact ⟨rfl, rfl⟩
          · exact (HSM.out wq (HG36.out.trans hq.2.2.2) hq.2.2.2).mono fun e w'' ⟨he, hg⟩ => ⟨he, hq.1.gr hg, hq.2.1.gr hg, hq.2.2.1.gr hg, hq.2.2.2.trans hg⟩
        try simp only [Act.put, List.setIfInBounds_toArray, List.set_cons_zero, List.set_cons_succ]
        iterate 12
          refine qTake (by kernel_rfl) ?_
          apply Exists.intro
          refine ⟨fun wq hq => ?_, ?_⟩
          · go_light
            obtain ⟨⟨p0, p1, p2, p3, p4, p5, p6, p7⟩, ⟨q0, q1, q2, q3, q4, q5, q6, q7⟩, ⟨r0, r1, r2, r3, r4, r5, r6, r7⟩, hg⟩ := hq
            go_simp
            try with_reducible rfl
            done
          try simp only [Act.put, List.setIfInBounds_toArray, List.set_cons_zero, List.set_cons_succ]
        refine qCall (by kernel_rfl) ?_
        apply Exists.intro
        refine ⟨?_, ?_⟩
        · apply Exists.intro
          apply Exists.intro
          refine ⟨fun wq => ?_, fun wq hq => ?_⟩
          · go_light
            go_simp
            exact ⟨rfl, rfl⟩
          · exact (HZL.out wq (HG36.out.trans hq.2.2.2)).mono fun e w'' ⟨he, hg⟩ => ⟨he, hq.1.gr hg, hq.2.1.gr hg, hq.2.2.1.gr hg, hq.2.2.2.trans hg⟩
        try simp only [Act.put, List.setIfInBounds_toArray, List.set_cons_zero, List.set_cons_succ]
        refine qCall (by kernel_rfl) ?_
        apply Exists.intro
        refine ⟨?_, ?_⟩
        · apply Exists.intro
          apply Exists.intro
          refine ⟨fun wq => ?_, fun wq hq => ?_⟩
          · go_light
            go_simp
            exact ⟨rfl, rfl⟩
          · exact (HCL.out wq (HG36.out.trans hq.2.2.2)).mono fun e w'' ⟨he, hg⟩ => ⟨he, hq.1.gr hg, hq.2.1.gr hg, hq.2.2.1.gr hg, hq.2.2.2.trans hg⟩
        try simp only [Act.put, List.setIfInBounds_toArray, List.set_cons_zero, List.set_cons_succ]
        iterate 2
          refine qTake (by kernel_rfl) ?_
          apply Exists.intro
          refine ⟨fun wq hq => ?_, ?_⟩
          · go_light
            obtain ⟨⟨p0, p1, p2, p3, p4, p5, p6, p7⟩, ⟨q0, q1, q2, q3, q4, q5, q6, q7⟩, ⟨r0, r1, r2, r3, r4, r5, r6, r7⟩, hg⟩ := hq
            go_simp
            try with_reducible rfl
            done
          try simp only [Act.put, List.setIfInBounds_toArray, List.set_cons_zero, List.set_cons_succ]
        refine qNil ?_
        rintro w7 ⟨-, -, -, hg7⟩
        have HG7 := Lib.hid (HG3.out.trans (HG36.out.trans hg7))
        clear hg7
        go_wp2_with fail
        go_ret
        exact ⟨rfl, HG7.out⟩
end Go.Proofs.Ytlgljanofppleaa
