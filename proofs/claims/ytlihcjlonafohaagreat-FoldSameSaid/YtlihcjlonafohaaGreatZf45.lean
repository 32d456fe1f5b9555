/- Mathematics of fold: the state behind a row of deeds, whatever their order. -/
import Derived.Test.YtlihcjlonafohaaGreatZf36
import Derived.Test.YtlihcjlonafohaaGreatZf44
namespace Go.Proofs.YtlihcjlonafohaaGreat
open Go.RowKit Go.Joins
set_option linter.unusedSimpArgs false
set_option linter.unusedVariables false

theorem snocInd {α : Type} {P : List α → Prop} (h0 : P []) (h1 : ∀ D x, P D → P (D ++ [x])) (D : List α) : P D := by
  have h : ∀ R : List α, P R.reverse := by
    intro R
    induction R with
    | nil => simpa using h0
    | cons a r ih => rw [List.reverse_cons]; exact h1 _ _ ih
  have := h D.reverse
  rwa [List.reverse_reverse] at this
def opP (x : TX × Nat) : TO := opAt x.1 x.2
def tgP (x : TX × Nat) : TG := tagOf x.1 x.2 (opP x)
/-- Tags stand so. -/
def TgR (x y : TG) : Prop := x.o < y.o ∨ (x.o = y.o ∧ (x.s < y.s ∨ (x.s = y.s ∧ x.i < y.i)))
theorem cmpZ_zero {a b : Int} : cmpZ a b = 0 ↔ a = b := by
  unfold cmpZ
  split
  · constructor <;> intro h <;> omega
  split
  · constructor <;> intro h <;> omega
  · constructor <;> intro h <;> omega
theorem cmpZ_neg {a b : Int} : cmpZ a b < 0 ↔ a < b := by
  unfold cmpZ
  split
  · constructor <;> intro h <;> omega
  split
  · constructor <;> intro h <;> omega
  · constructor <;> intro h <;> omega
theorem cmpZ_pos {a b : Int} : 0 < cmpZ a b ↔ b < a := by
  unfold cmpZ
  split
  · constructor <;> intro h <;> omega
  split
  · constructor <;> intro h <;> omega
  · constructor <;> intro h <;> omega
theorem ordG_form (x y : TG) : ordG x y = if cmpZ x.o y.o = 0 then (if cmpZ x.s y.s = 0 then (if cmpZ x.i y.i = 0 then 0 else cmpZ x.i y.i) else cmpZ x.s y.s) else cmpZ x.o y.o := rfl
theorem ordG_neg {x y : TG} : ordG x y < 0 ↔ TgR x y := by
  rw [ordG_form]
  unfold TgR
  split
  · next h1 =>
    rw [cmpZ_zero] at h1
    split
    · next h2 =>
      rw [cmpZ_zero] at h2
      split
      · next h3 =>
        rw [cmpZ_zero] at h3
        omega
      · rw [cmpZ_neg]; omega
    · next h2 =>
      rw [cmpZ_zero] at h2
      rw [cmpZ_neg]; omega
  · next h1 =>
    rw [cmpZ_zero] at h1
    rw [cmpZ_neg]; omega
theorem ordG_pos {x y : TG} : 0 < ordG x y ↔ TgR y x := by
  rw [ordG_form]
  unfold TgR
  split
  · next h1 =>
    rw [cmpZ_zero] at h1
    split
    · next h2 =>
      rw [cmpZ_zero] at h2
      split
      · next h3 =>
        rw [cmpZ_zero] at h3
        omega
      · rw [cmpZ_pos]; omega
    · next h2 =>
      rw [cmpZ_zero] at h2
      rw [cmpZ_pos]; omega
  · next h1 =>
    rw [cmpZ_zero] at h1
    rw [cmpZ_pos]; omega
theorem geG_no {x g : TG} : geG x g = false ↔ TgR x g := by
  rw [← ordG_neg]
  unfold geG
  rw [decide_eq_false_iff_not]
  omega
theorem TgR.trans {x y z : TG} (h : TgR x y) (k : TgR y z) : TgR x z := by unfold TgR at *; omega
theorem TgR.irrefl {x : TG} : ¬ TgR x x := by unfold TgR; omega
theorem TgR.asymm {x y : TG} (h : TgR x y) : ¬ TgR y x := by unfold TgR at *; omega
theorem ins_sorted {g : TG} : ∀ {L : List TG}, L.Pairwise TgR → (∀ x ∈ L, TgR x g ∨ TgR g x) → (L.insertIdx (gckN (fun x => geG x g) L) g).Pairwise TgR
  | [], _, _ => by simp [gckN]
  | a :: r, h, hc => by
    have ih := ins_sorted (L := r) (List.pairwise_cons.1 h).2 (fun x hx => hc x (List.mem_cons_of_mem _ hx))
    cases hg : geG a g with
    | true =>
      have e : gckN (fun x => geG x g) (a :: r) = 0 := by unfold gckN; rw [List.findIdx_cons]; show (bif geG a g then 0 else _) = _; rw [hg]; rfl
      rw [e]
      show (g :: a :: r).Pairwise TgR
      have hga : TgR g a := by
        rcases hc a (by simp) with k | k
        · rw [geG_no.2 k] at hg; cases hg
        · exact k
      refine List.pairwise_cons.2 ⟨fun x hx => ?_, h⟩
      rcases List.mem_cons.1 hx with rfl | hx
      · exact hga
      · exact hga.trans ((List.pairwise_cons.1 h).1 x hx)
    | false =>
      have e : gckN (fun x => geG x g) (a :: r) = gckN (fun x => geG x g) r + 1 := by unfold gckN; rw [List.findIdx_cons]; show (bif geG a g then 0 else _) = _; rw [hg]; rfl
      rw [e, List.insertIdx_succ_cons]
      refine List.pairwise_cons.2 ⟨fun x hx => ?_, ih⟩
      rw [List.mem_insertIdx (gckN_le _ _)] at hx
      rcases hx with rfl | hx
      · exact geG_no.1 hg
      · exact (List.pairwise_cons.1 h).1 x hx
theorem tg_ext : ∀ {A B : List TG}, A.Pairwise TgR → B.Pairwise TgR → (∀ x, x ∈ A ↔ x ∈ B) → A = B
  | [], [], _, _, _ => rfl
  | [], b :: _, _, _, h => by have := (h b).2 (by simp); simp at this
  | a :: _, [], _, _, h => by have := (h a).1 (by simp); simp at this
  | a :: r, b :: q, ha, hb, h => by
    obtain ⟨ha1, ha2⟩ := List.pairwise_cons.1 ha
    obtain ⟨hb1, hb2⟩ := List.pairwise_cons.1 hb
    have e : a = b := by
      rcases List.mem_cons.1 ((h a).1 (by simp)) with e | e
      · exact e
      rcases List.mem_cons.1 ((h b).2 (by simp)) with e' | e'
      · exact e'.symm
      · exact absurd (ha1 b e') (TgR.asymm (hb1 a e))
    subst e
    rw [tg_ext ha2 hb2 fun x => ?_]
    constructor
    · intro hx
      rcases List.mem_cons.1 ((h x).1 (List.mem_cons_of_mem _ hx)) with e | e
      · subst e; exact absurd (ha1 x hx) TgR.irrefl
      · exact e
    · intro hx
      rcases List.mem_cons.1 ((h x).2 (List.mem_cons_of_mem _ hx)) with e | e
      · subst e; exact absurd (hb1 x hx) TgR.irrefl
      · exact e
/-- The tags behind these deeds. -/
def liveD (a c : Int) (D : List (TX × Nat)) : List TG := D.foldl (fun L x => mrkL x.1 (opP x) (tgP x) a c L) []
/-- Deeds in an order that may be: no earlier one sees a later one, and their tags are unlike. -/
def DoR (x y : TX × Nat) : Prop := seesG x.1 (tgP x) (tgP y) = false ∧ (TgR (tgP x) (tgP y) ∨ TgR (tgP y) (tgP x))
def clr (y x : TX × Nat) : Bool := clrG y.1 (opP y) (tgP y) (tgP x)
theorem sees_self (x : TX × Nat) : seesG x.1 (tgP x) (tgP x) = false := by
  unfold seesG
  rw [if_pos ⟨rfl, rfl⟩]
  exact decide_eq_false (Int.lt_irrefl _)
theorem clr_of {y x : TX × Nat} (h : seesG y.1 (tgP y) (tgP x) = false) : clr y x = false := by
  unfold clr clrG
  rw [h]; rfl
theorem liveD_spec (a c : Int) (D : List (TX × Nat)) : D.Pairwise DoR → (liveD a c D).Pairwise TgR ∧ ∀ z, z ∈ liveD a c D ↔ ∃ x ∈ D, (opP x).kind = a ∧ z = tgP x ∧ ∀ y ∈ D, (opP y).kind = c → clr y x = false := by
  refine snocInd (P := fun D => D.Pairwise DoR → (liveD a c D).Pairwise TgR ∧ ∀ z, z ∈ liveD a c D ↔ ∃ x ∈ D, (opP x).kind = a ∧ z = tgP x ∧ ∀ y ∈ D, (opP y).kind = c → clr y x = false) ?_ ?_ D
  · intro _
    exact ⟨List.Pairwise.nil, fun z => by simp [liveD]⟩
  · intro D d ih h
    obtain ⟨h1, -, h2⟩ := List.pairwise_append.1 h
    obtain ⟨is, im⟩ := ih h1
    have hd : ∀ x ∈ D, DoR x d := fun x hx => h2 x hx d (by simp)
    have e : liveD a c (D ++ [d]) = mrkL d.1 (opP d) (tgP d) a c (liveD a c D) := by unfold liveD; rw [List.foldl_append]; rfl
    have hm1 : ∀ z, z ∈ mrk1 d.1 (opP d) (tgP d) c (liveD a c D) ↔ z ∈ liveD a c D ∧ ((opP d).kind = c → clrG d.1 (opP d) (tgP d) z = false) := fun z => by
      unfold mrk1
      split
      · next hk => rw [List.mem_filter]; simp [hk]
      · next hk => simp [hk]
    have hs1 : (mrk1 d.1 (opP d) (tgP d) c (liveD a c D)).Pairwise TgR := by
      unfold mrk1
      split
      · exact is.filter _
      · exact is
    have hcmp : ∀ x ∈ mrk1 d.1 (opP d) (tgP d) c (liveD a c D), TgR x (tgP d) ∨ TgR (tgP d) x := fun z hz => by
      obtain ⟨x, hx, -, rfl, -⟩ := (im z).1 ((hm1 z).1 hz).1
      exact (hd x hx).2
    have hm : ∀ z, z ∈ mrkL d.1 (opP d) (tgP d) a c (liveD a c D) ↔ ((opP d).kind = a ∧ z = tgP d) ∨ z ∈ mrk1 d.1 (opP d) (tgP d) c (liveD a c D) := fun z => by
      unfold mrkL
      split
      · next hk => rw [List.mem_insertIdx (gckN_le _ _)]; simp [hk]
      · next hk => simp [hk]
    rw [e]
    refine ⟨?_, fun z => ?_⟩
    · unfold mrkL
      split
      · exact ins_sorted hs1 hcmp
      · exact hs1
    · rw [hm, hm1, im]
      constructor
      · rintro (⟨hk, rfl⟩ | ⟨⟨x, hx, hk, rfl, hall⟩, hc⟩)
        · refine ⟨d, by simp, hk, rfl, fun y hy _ => ?_⟩
          rcases List.mem_append.1 hy with hy | hy
          · exact clr_of (hd y hy).1
          · rw [List.mem_singleton.1 hy]; exact clr_of (sees_self d)
        · refine ⟨x, by simp [hx], hk, rfl, fun y hy hyk => ?_⟩
          rcases List.mem_append.1 hy with hy | hy
          · exact hall y hy hyk
          · rw [List.mem_singleton.1 hy] at hyk ⊢; exact hc hyk
      · rintro ⟨x, hx, hk, rfl, hall⟩
        rcases List.mem_append.1 hx with hx | hx
        · exact .inr ⟨⟨x, hx, hk, rfl, fun y hy hyk => hall y (by simp [hy]) hyk⟩, fun hdc => hall d (by simp) hdc⟩
        · rw [List.mem_singleton.1 hx] at hk ⊢; exact .inl ⟨hk, rfl⟩
/-- Elements that were ever added. -/
def everD (D : List (TX × Nat)) : List ByteArray := D.foldl (fun E x => if (opP x).kind = 4 then intoT (opP x).elem E else E) []
theorem everD_rise (D : List (TX × Nat)) : everD D = riseT ((D.filter fun x => decide ((opP x).kind = 4)).map fun x => (opP x).elem) := by
  refine snocInd (P := fun D => everD D = riseT ((D.filter fun x => decide ((opP x).kind = 4)).map fun x => (opP x).elem)) rfl (fun D x ih => ?_) D
  have e : everD (D ++ [x]) = if (opP x).kind = 4 then intoT (opP x).elem (everD D) else everD D := by unfold everD; rw [List.foldl_append]; rfl
  rw [e, ih, List.filter_append, List.map_append]
  by_cases h : (opP x).kind = 4
  · rw [if_pos h, intoT_ins]
    simp only [List.filter_cons, h, decide_true, if_true, List.filter_nil, List.map_cons, List.map_nil]
    unfold riseT
    rw [List.foldl_append]
    rfl
  · rw [if_neg h]
    simp [List.filter_cons, h]
/-- The last Write. -/
def lastD (D : List (TX × Nat)) : Bool × Nat × TG := D.foldl (fun r x => if (opP x).kind = 6 ∧ latB x.1 (tgP x) r.1 r.2.1 r.2.2 = true then (true, x.1.stamp, tgP x) else r) (false, 0, tg0)
/-- The Write x comes ahead of the Write y. -/
def LtW (x y : TX × Nat) : Prop := x.1.stamp < y.1.stamp ∨ (x.1.stamp = y.1.stamp ∧ TgR (tgP x) (tgP y))
theorem latB_iff {x m : TX × Nat} : latB x.1 (tgP x) true m.1.stamp (tgP m) = true ↔ LtW m x := by
  unfold latB LtW
  rw [Bool.not_true, Bool.false_or, decide_eq_true_eq]
  show 0 < (if cmpZ (x.1.stamp : Int) (m.1.stamp : Int) = 0 then (if ordG (tgP x) (tgP m) = 0 then 0 else ordG (tgP x) (tgP m)) else cmpZ (x.1.stamp : Int) (m.1.stamp : Int)) ↔ _
  split
  · next h1 =>
    rw [cmpZ_zero] at h1
    split
    · next h2 =>
      have h3 : ¬ TgR (tgP m) (tgP x) := fun h => by have := ordG_pos.2 h; omega
      constructor
      · intro h; omega
      · rintro (h | ⟨-, h⟩)
        · omega
        · exact absurd h h3
    · rw [ordG_pos]
      constructor
      · intro h; exact .inr ⟨by omega, h⟩
      · rintro (h | ⟨-, h⟩)
        · omega
        · exact h
  · next h1 =>
    rw [cmpZ_zero] at h1
    rw [cmpZ_pos]
    constructor
    · intro h; exact .inl (by omega)
    · rintro (h | ⟨h, -⟩)
      · omega
      · omega
theorem lastD_spec (D : List (TX × Nat)) : D.Pairwise DoR → (lastD D = (false, 0, tg0) ∧ ∀ y ∈ D, ¬ (opP y).kind = 6) ∨ ∃ m ∈ D, (opP m).kind = 6 ∧ lastD D = (true, m.1.stamp, tgP m) ∧ ∀ y ∈ D, (opP y).kind = 6 → y = m ∨ LtW y m := by
  refine snocInd (P := fun D => D.Pairwise DoR → (lastD D = (false, 0, tg0) ∧ ∀ y ∈ D, ¬ (opP y).kind = 6) ∨ ∃ m ∈ D, (opP m).kind = 6 ∧ lastD D = (true, m.1.stamp, tgP m) ∧ ∀ y ∈ D, (opP y).kind = 6 → y = m ∨ LtW y m) ?_ ?_ D
  · intro _
    exact .inl ⟨rfl, fun y hy => by simp at hy⟩
  · intro D d ih h
    obtain ⟨h1, -, h2⟩ := List.pairwise_append.1 h
    have hd : ∀ x ∈ D, DoR x d := fun x hx => h2 x hx d (by simp)
    have e : lastD (D ++ [d]) = if (opP d).kind = 6 ∧ latB d.1 (tgP d) (lastD D).1 (lastD D).2.1 (lastD D).2.2 = true then (true, d.1.stamp, tgP d) else lastD D := by unfold lastD; rw [List.foldl_append]; rfl
    rw [e]
    rcases ih h1 with ⟨i1, i2⟩ | ⟨m, hm, hk, i1, i2⟩
    · rw [i1]
      by_cases hk : (opP d).kind = 6
      · rw [if_pos ⟨hk, rfl⟩]
        refine .inr ⟨d, by simp, hk, rfl, fun y hy hyk => ?_⟩
        rcases List.mem_append.1 hy with hy | hy
        · exact absurd hyk (i2 y hy)
        · exact .inl (List.mem_singleton.1 hy)
      · rw [if_neg (fun h => hk h.1)]
        refine .inl ⟨rfl, fun y hy => ?_⟩
        rcases List.mem_append.1 hy with hy | hy
        · exact i2 y hy
        · rw [List.mem_singleton.1 hy]; exact hk
    · rw [i1]
      by_cases hk2 : (opP d).kind = 6
      · by_cases hl : LtW m d
        · rw [if_pos ⟨hk2, latB_iff.2 hl⟩]
          refine .inr ⟨d, by simp, hk2, rfl, fun y hy hyk => ?_⟩
          rcases List.mem_append.1 hy with hy | hy
          · rcases i2 y hy hyk with rfl | h3
            · exact .inr hl
            · refine .inr ?_
              unfold LtW TgR at *
              omega
          · exact .inl (List.mem_singleton.1 hy)
        · rw [if_neg (fun h => hl (latB_iff.1 h.2))]
          refine .inr ⟨m, by simp [hm], hk, rfl, fun y hy hyk => ?_⟩
          rcases List.mem_append.1 hy with hy | hy
          · exact i2 y hy hyk
          · rw [List.mem_singleton.1 hy]
            refine .inr ?_
            have := (hd m hm).2
            unfold LtW TgR at *
            omega
      · rw [if_neg (fun h => hk2 h.1)]
        refine .inr ⟨m, by simp [hm], hk, rfl, fun y hy hyk => ?_⟩
        rcases List.mem_append.1 hy with hy | hy
        · exact i2 y hy hyk
        · rw [List.mem_singleton.1 hy] at hyk; exact absurd hyk hk2
def offD (start : Int) (D : List (TX × Nat)) : Bool := D.foldl (fun d x => d && !decide ((opP x).kind = 8)) (!decide (start = 0))
theorem offD_any (start : Int) (D : List (TX × Nat)) : offD start D = (!decide (start = 0) && !D.any fun x => decide ((opP x).kind = 8)) := by
  refine snocInd (P := fun D => offD start D = (!decide (start = 0) && !D.any fun x => decide ((opP x).kind = 8))) (by simp [offD]) (fun D x ih => ?_) D
  have e : offD start (D ++ [x]) = (offD start D && !decide ((opP x).kind = 8)) := by unfold offD; rw [List.foldl_append]; rfl
  rw [e, ih, List.any_append]
  simp only [List.any_cons, List.any_nil, Bool.or_false, Bool.not_or, Bool.and_assoc]
def cntD (start : Int) (D : List (TX × Nat)) : Int := D.foldl (fun n x => cntZ (opP x) n) start
/-- The state of a key of a kind behind these deeds. -/
def stD (k start : Int) (D : List (TX × Nat)) : FS :=
  if k = 1 ∨ k = 2 then ⟨k, cntD start D, [], [], false, 0, tg0, false⟩
  else if k = 3 ∨ k = 8 then ⟨k, 0, [], liveD 4 5 D, false, 0, tg0, false⟩
  else if k = 4 then ⟨k, 0, everD D, liveD 5 4 D, false, 0, tg0, false⟩
  else if k = 5 then ⟨k, 0, [], [], (lastD D).1, (lastD D).2.1, (lastD D).2.2, false⟩
  else if k = 6 then ⟨k, 0, [], liveD 6 6 D, false, 0, tg0, false⟩
  else ⟨k, 0, [], liveD 7 8 D, false, 0, tg0, offD start D⟩
theorem known_cases {k : Int} (hk : knownB k = true) : k = 1 ∨ k = 2 ∨ k = 3 ∨ k = 4 ∨ k = 5 ∨ k = 6 ∨ k = 7 ∨ k = 8 := by
  unfold knownB at hk
  rw [Bool.and_eq_true, decide_eq_true_eq, decide_eq_true_eq] at hk
  omega
theorem stD_nil {k : Int} (hk : knownB k = true) (start : Int) : stD k start [] = beginS k start := by
  obtain rfl | rfl | rfl | rfl | rfl | rfl | rfl | rfl := known_cases hk <;> rfl
theorem stD_named {k : Int} (hk : knownB k = true) (start : Int) (D : List (TX × Nat)) : namedS (stD k start D) = stD k start D := by
  obtain rfl | rfl | rfl | rfl | rfl | rfl | rfl | rfl := known_cases hk <;> rfl
theorem live_snoc (a c : Int) (D : List (TX × Nat)) (x : TX × Nat) : liveD a c (D ++ [x]) = mrkL x.1 (opP x) (tgP x) a c (liveD a c D) := by unfold liveD; rw [List.foldl_append]; rfl
theorem stD_snoc {k : Int} (hk : knownB k = true) (start : Int) (D : List (TX × Nat)) (x : TX × Nat) : doneS x.1 (opP x) (tgP x) (stD k start D) = stD k start (D ++ [x]) := by
  obtain rfl | rfl | rfl | rfl | rfl | rfl | rfl | rfl := known_cases hk
  · show FS.mk _ _ _ _ _ _ _ _ = FS.mk _ _ _ _ _ _ _ _
    have e : cntD start (D ++ [x]) = cntZ (opP x) (cntD start D) := by unfold cntD; rw [List.foldl_append]; rfl
    rw [e]; rfl
  · show FS.mk _ _ _ _ _ _ _ _ = FS.mk _ _ _ _ _ _ _ _
    have e : cntD start (D ++ [x]) = cntZ (opP x) (cntD start D) := by unfold cntD; rw [List.foldl_append]; rfl
    rw [e]; rfl
  · show FS.mk _ _ _ _ _ _ _ _ = FS.mk _ _ _ _ _ _ _ _
    rw [live_snoc]; rfl
  · show FS.mk _ _ _ _ _ _ _ _ = FS.mk _ _ _ _ _ _ _ _
    have e : everD (D ++ [x]) = if (opP x).kind = 4 then intoT (opP x).elem (everD D) else everD D := by unfold everD; rw [List.foldl_append]; rfl
    rw [live_snoc, e]; rfl
  · have e : lastD (D ++ [x]) = if (opP x).kind = 6 ∧ latB x.1 (tgP x) (lastD D).1 (lastD D).2.1 (lastD D).2.2 = true then (true, x.1.stamp, tgP x) else lastD D := by unfold lastD; rw [List.foldl_append]; rfl
    show (if (opP x).kind = 6 ∧ latB x.1 (tgP x) (lastD D).1 (lastD D).2.1 (lastD D).2.2 = true then FS.mk 5 0 [] [] true x.1.stamp (tgP x) false else FS.mk 5 0 [] [] (lastD D).1 (lastD D).2.1 (lastD D).2.2 false) = FS.mk 5 0 [] [] (lastD (D ++ [x])).1 (lastD (D ++ [x])).2.1 (lastD (D ++ [x])).2.2 false
    rw [e]
    split <;> rfl
  · show FS.mk _ _ _ _ _ _ _ _ = FS.mk _ _ _ _ _ _ _ _
    rw [live_snoc]; rfl
  · show FS.mk _ _ _ _ _ _ _ _ = FS.mk _ _ _ _ _ _ _ _
    have e : offD start (D ++ [x]) = (offD start D && !decide ((opP x).kind = 8)) := by unfold offD; rw [List.foldl_append]; rfl
    rw [live_snoc, e]; rfl
  · show FS.mk _ _ _ _ _ _ _ _ = FS.mk _ _ _ _ _ _ _ _
    rw [live_snoc]; rfl
theorem stD_step {k : Int} (hk : knownB k = true) (start : Int) (key : ByteArray) (t : TX) (D : List (TX × Nat)) : ∀ j, j ≤ t.ops.length → stepTo key t (stD k start D) j = stD k start (D ++ dTx key t j)
  | 0, _ => by
    show namedS _ = _
    rw [stD_named hk]
    show _ = stD k start (D ++ [])
    rw [List.append_nil]
  | j + 1, hj => by
    have ih := stD_step hk start key t D j (by omega)
    have ho : t.ops[j]? = some t.ops[j] := List.getElem?_eq_getElem (by omega)
    cases hb : eqS t.ops[j].key key with
    | true =>
      rw [stepTo_yes ho hb, dTx_yes ho hb, ih, ← List.append_assoc, ← stD_snoc hk]
      have e : opP (t, j) = t.ops[j] := opAt_some ho
      unfold tgP
      rw [e]
    | false => rw [stepTo_no ho hb, dTx_no ho hb, ih]
/-- The deeds on a key of these transactions. -/
def dsP (key : ByteArray) (P : List TX) : List (TX × Nat) := P.flatMap fun t => dTx key t t.ops.length
theorem dsP_mem {key : ByteArray} {P : List TX} {x : TX × Nat} : x ∈ dsP key P ↔ x.1 ∈ P ∧ ∃ o, x.1.ops[x.2]? = some o ∧ eqS o.key key = true := by
  unfold dsP
  rw [List.mem_flatMap]
  constructor
  · rintro ⟨t, ht, hx⟩
    obtain ⟨rfl, -, o, ho, hk⟩ := dTx_mem.1 hx
    exact ⟨ht, o, ho, hk⟩
  · rintro ⟨ht, o, ho, hk⟩
    exact ⟨x.1, ht, dTx_mem.2 ⟨rfl, (List.getElem?_eq_some_iff.1 ho).1, o, ho, hk⟩⟩
/-- The state behind these transactions. -/
def foldS (k start : Int) (key : ByteArray) (P : List TX) : FS := P.foldl (fun s t => applyS key t s) (beginS k start)
theorem foldS_snoc (k start : Int) (key : ByteArray) (P : List TX) (t : TX) : foldS k start key (P ++ [t]) = applyS key t (foldS k start key P) := by unfold foldS; rw [List.foldl_append]; rfl
theorem foldS_st {k : Int} (hk : knownB k = true) (start : Int) (key : ByteArray) (P : List TX) : foldS k start key P = stD k start (dsP key P) := by
  refine snocInd (P := fun P => foldS k start key P = stD k start (dsP key P)) (stD_nil hk start).symm (fun P t ih => ?_) P
  rw [foldS_snoc, ih]
  unfold applyS
  rw [stD_step hk start key t _ _ (Nat.le_refl _)]
  congr 1
  unfold dsP
  rw [List.flatMap_append]
  simp
/-- No earlier one sees a later one. -/
def NSee (a b : TX) : Prop := ¬ (a.origin = b.origin ∧ a.seq = b.seq) ∧ hasB a.deps b.origin b.seq = false
theorem dsP_pw {key : ByteArray} {P : List TX} (h : P.Pairwise NSee) : (dsP key P).Pairwise DoR := by
  unfold dsP
  rw [List.pairwise_flatMap]
  refine ⟨fun t _ => ?_, h.imp fun {a b} hab x hx y hy => ?_⟩
  · refine (dTx_pw key t _).imp_of_mem fun {x y} hx hy hz => ?_
    obtain ⟨e1, -⟩ := dTx_mem.1 hx
    obtain ⟨e2, -⟩ := dTx_mem.1 hy
    have h1 : (tgP x).o = t.origin := by show x.1.origin = _; rw [e1]
    have h2 : (tgP y).o = t.origin := by show y.1.origin = _; rw [e2]
    have h3 : (tgP x).s = t.seq := by show x.1.seq = _; rw [e1]
    have h4 : (tgP y).s = t.seq := by show y.1.seq = _; rw [e2]
    have h5 : x.2 < y.2 := by
      unfold ZR at hz
      rw [e1, e2] at hz
      omega
    have h6 : (tgP x).i = (x.2 : Int) := rfl
    have h7 : (tgP y).i = (y.2 : Int) := rfl
    refine ⟨?_, .inl ?_⟩
    · unfold seesG
      rw [if_pos ⟨by rw [h1, h2], by rw [h3, h4]⟩]
      exact decide_eq_false (by omega)
    · unfold TgR
      omega
  · obtain ⟨e1, -⟩ := dTx_mem.1 hx
    obtain ⟨e2, -⟩ := dTx_mem.1 hy
    have h1 : (tgP x).o = a.origin := by show x.1.origin = _; rw [e1]
    have h2 : (tgP y).o = b.origin := by show y.1.origin = _; rw [e2]
    have h3 : (tgP x).s = a.seq := by show x.1.seq = _; rw [e1]
    have h4 : (tgP y).s = b.seq := by show y.1.seq = _; rw [e2]
    have hne := hab.1
    refine ⟨?_, ?_⟩
    · unfold seesG
      rw [if_neg (by rw [h1, h2, h3, h4]; intro h; exact hne ⟨h.1.symm, h.2.symm⟩), h2, h4, e1]
      exact hab.2
    · unfold TgR
      omega
theorem dor_nodup {D : List (TX × Nat)} (h : D.Pairwise DoR) : D.Nodup := h.imp fun {a b} hab e => by
  subst e
  rcases hab.2 with h | h <;> exact TgR.irrefl h
theorem cntZ_comm (o p : TO) (n : Int) : cntZ p (cntZ o n) = cntZ o (cntZ p n) := by
  unfold cntZ wrap64
  split <;> split <;> (try split) <;> (try split) <;> omega
/-- Whatever the order, the state is one. -/
theorem stD_same {k : Int} (hk : knownB k = true) (start : Int) {A B : List (TX × Nat)} (ha : A.Pairwise DoR) (hb : B.Pairwise DoR) (h : ∀ x, x ∈ A ↔ x ∈ B) : stD k start A = stD k start B := by
  have hp : A.Perm B := (List.perm_ext_iff_of_nodup (dor_nodup ha) (dor_nodup hb)).2 h
  have hl : ∀ a c, liveD a c A = liveD a c B := fun a c => by
    obtain ⟨s1, m1⟩ := liveD_spec a c A ha
    obtain ⟨s2, m2⟩ := liveD_spec a c B hb
    refine tg_ext s1 s2 fun z => ?_
    rw [m1, m2]
    constructor
    · rintro ⟨x, hx, hk, hz, hall⟩
      exact ⟨x, (h x).1 hx, hk, hz, fun y hy => hall y ((h y).2 hy)⟩
    · rintro ⟨x, hx, hk, hz, hall⟩
      exact ⟨x, (h x).2 hx, hk, hz, fun y hy => hall y ((h y).1 hy)⟩
  have he : everD A = everD B := by
    rw [everD_rise, everD_rise]
    refine riseT_congr fun s => ?_
    simp only [List.mem_map, List.mem_filter]
    constructor
    · rintro ⟨x, ⟨hx, hk⟩, e⟩; exact ⟨x, ⟨(h x).1 hx, hk⟩, e⟩
    · rintro ⟨x, ⟨hx, hk⟩, e⟩; exact ⟨x, ⟨(h x).2 hx, hk⟩, e⟩
  have hw : lastD A = lastD B := by
    rcases lastD_spec A ha with ⟨e1, n1⟩ | ⟨m1, hm1, k1, e1, a1⟩ <;> rcases lastD_spec B hb with ⟨e2, n2⟩ | ⟨m2, hm2, k2, e2, a2⟩
    · rw [e1, e2]
    · exact absurd k2 (n1 m2 ((h m2).2 hm2))
    · exact absurd k1 (n2 m1 ((h m1).1 hm1))
    · have e : m1 = m2 := by
        rcases a2 m1 ((h m1).1 hm1) k1 with e | e
        · exact e
        rcases a1 m2 ((h m2).2 hm2) k2 with e' | e'
        · exact e'.symm
        · exfalso
          unfold LtW TgR at *
          omega
      rw [e1, e2, e]
  have ho : offD start A = offD start B := by
    rw [offD_any, offD_any]
    congr 2
    rw [Bool.eq_iff_iff, List.any_eq_true, List.any_eq_true]
    constructor
    · rintro ⟨x, hx, hk⟩; exact ⟨x, (h x).1 hx, hk⟩
    · rintro ⟨x, hx, hk⟩; exact ⟨x, (h x).2 hx, hk⟩
  have hc : cntD start A = cntD start B := by
    unfold cntD
    exact List.Perm.foldl_eq' hp (fun x _ y _ z => cntZ_comm (opP x) (opP y) z) start
  unfold stD
  rw [hl 4 5, hl 5 4, hl 6 6, hl 7 8, he, hw, ho, hc]
end Go.Proofs.YtlihcjlonafohaaGreat
