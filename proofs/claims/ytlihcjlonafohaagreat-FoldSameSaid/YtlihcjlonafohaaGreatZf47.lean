/- Mathematics of fold: the document's order may be, and the value of the state behind it is the document's. Walk: awake of stage 11's laws. The law FoldTags. Written by wip/tools/genfow.py. -/
import Derived.Test.YtlihcjlonafohaaGreatZf45
import Derived.Test.YtlihcjlonafohaaGreatZf46
import Derived.Test.YtlihcjlonafohaaGreatZf17
import Derived.Test.YtlihcjlonafohaaGreatZf11
namespace Go.Proofs.YtlihcjlonafohaaGreat
open Go.RowKit Go.Joins
set_option linter.unusedSimpArgs false
set_option linter.unusedVariables false

theorem rises_log {l : LG} (h : OkL l) {i : Nat} (hi : i < 8) {k : Nat} {t : TX} (ht : (l i)[k]? = some t) : ∀ (d : Nat) {u : TX}, (l i)[k + 1 + d]? = some u → t.stamp < u.stamp
  | 0, u, hu => h.rise hi ht hu
  | d + 1, u, hu => by
    have hlt : k + 1 + (d + 1) < (l i).length := (List.getElem?_eq_some_iff.1 hu).1
    have hp : (l i)[k + 1 + d]? = some (l i)[k + 1 + d] := List.getElem?_eq_getElem (by omega)
    exact Nat.lt_trans (rises_log h hi ht d hp) (h.rise hi hp hu)
theorem ord_ns {l : LG} (hl : OkL l) (v : Nat → Nat) : (ordR l v).Pairwise NSee := by
  have hs : (ordR l v).Pairwise AhP := ordTo_sorted hl _ 8 (Nat.le_refl _)
  refine hs.imp_of_mem fun {a b} ha hb hab => ?_
  obtain ⟨i, k, hi, -, hak⟩ := ordR_mem.1 ha
  obtain ⟨j, d, hj, -, hbd⟩ := ordR_mem.1 hb
  obtain ⟨-, a1, a2, a3, -⟩ := hl.tx i k a hi hak
  obtain ⟨-, b1, b2, -, -⟩ := hl.tx j d b hj hbd
  refine ⟨fun e => ?_, ?_⟩
  · have e1 : i = j := by omega
    have e2 : k = d := by omega
    subst e1 e2
    rw [hak] at hbd
    have := Option.some.inj hbd
    subst this
    unfold AhP at hab
    omega
  · rw [Bool.eq_false_iff]
    intro hh
    unfold hasB at hh
    simp only [Bool.and_eq_true, decide_eq_true_eq] at hh
    have hjn : b.origin.toNat = j := by omega
    rw [hjn] at hh
    obtain ⟨m, hm⟩ : ∃ m, a.deps j = m + 1 := ⟨a.deps j - 1, by omega⟩
    have hmz : m < (l j).length := by have := lq a3 hj; unfold sizeV at this; omega
    have hu : (l j)[m]? = some (l j)[m] := List.getElem?_eq_getElem hmz
    have h1 := hl.before hi hj hak hu hm
    have h2 : b.stamp ≤ (l j)[m].stamp := by
      rcases Nat.lt_or_eq_of_le (show d ≤ m by omega) with c | c
      · have e : m = d + 1 + (m - (d + 1)) := by omega
        have := rises_log hl hj hbd (m - (d + 1)) (u := (l j)[m]) (by rw [← e]; exact hu)
        omega
      · subst c
        rw [hbd] at hu
        have := Option.some.inj hu
        rw [← this]
        exact Nat.le_refl _
    unfold AhP at hab
    omega
theorem plTx_filter (key : ByteArray) (k : Int) (t : TX) : ∀ j, plTx key k t j = (dTx key t j).filter fun x => decide ((opP x).kind = k)
  | 0 => rfl
  | j + 1 => by
    have ih := plTx_filter key k t j
    cases ho : t.ops[j]? with
    | none => unfold plTx dTx; rw [ho, ih]; simp
    | some o =>
      rw [plTx_next ho, ih]
      have e : opP (t, j) = o := opAt_some ho
      cases hb : eqS o.key key with
      | true =>
        rw [dTx_yes ho hb, List.filter_append]
        congr 1
        unfold isPl
        rw [hb, Bool.true_and]
        simp only [List.filter_cons, List.filter_nil, e]
      | false =>
        rw [dTx_no ho hb]
        unfold isPl
        rw [hb]
        simp
theorem plTo_filter (key : ByteArray) (k : Int) (O : List TX) : ∀ n, n ≤ O.length → plTo key k O n = (dsP key (O.take n)).filter fun x => decide ((opP x).kind = k)
  | 0, _ => rfl
  | n + 1, hn => by
    have ho : O[n]? = some O[n] := List.getElem?_eq_getElem (by omega)
    rw [plTo_next ho, plTo_filter key k O n (by omega), plTx_filter, List.take_add_one, ho]
    unfold dsP
    rw [List.flatMap_append, List.filter_append]
    simp
theorem plL_filter (key : ByteArray) (k : Int) (O : List TX) : plL key k O = (dsP key O).filter fun x => decide ((opP x).kind = k) := by
  unfold plL
  rw [plTo_filter key k O _ (Nat.le_refl _), List.take_length]
theorem plL_mem2 {key : ByteArray} {k : Int} {O : List TX} {x : TX × Nat} : x ∈ plL key k O ↔ x ∈ dsP key O ∧ (opP x).kind = k := by
  rw [plL_filter, List.mem_filter, decide_eq_true_eq]
theorem sees_seen (x y : TX × Nat) : seesG y.1 (tgP y) (tgP x) = seenP x y := by
  unfold seesG seenP
  show (if x.1.origin = y.1.origin ∧ x.1.seq = y.1.seq then decide ((x.2 : Int) < (y.2 : Int)) else hasB y.1.deps x.1.origin x.1.seq) = _
  split
  · rw [decide_eq_decide]; omega
  · rfl
theorem clr_ans {x y : TX × Nat} (h6 : ¬ (opP y).kind = 6) : clr y x = (eqS (elP y) (elP x) && seenP x y) := by
  unfold clr clrG
  rw [sees_seen, decide_eq_false h6, Bool.false_or, Bool.and_comm]
  rfl
theorem clr_cov {x y : TX × Nat} (h6 : (opP y).kind = 6) : clr y x = seenP x y := by
  unfold clr clrG
  rw [sees_seen, decide_eq_true h6, Bool.true_or, Bool.and_true]
theorem ans_all {key : ByteArray} {O : List TX} {k : Int} (h6 : ¬ k = 6) {x : TX × Nat} : ansB x (plL key k O) = false ↔ ∀ y ∈ dsP key O, (opP y).kind = k → clr y x = false := by
  unfold ansB
  rw [List.any_eq_false]
  constructor
  · intro h y hy hk
    rw [clr_ans (by rw [hk]; exact h6)]
    simpa using h y (plL_mem2.2 ⟨hy, hk⟩)
  · intro h y hy
    obtain ⟨h1, h2⟩ := plL_mem2.1 hy
    have := h y h1 h2
    rw [clr_ans (by rw [h2]; exact h6)] at this
    simpa using this
theorem cov_all {key : ByteArray} {O : List TX} {x : TX × Nat} : covB x (plL key 6 O) = false ↔ ∀ y ∈ dsP key O, (opP y).kind = 6 → clr y x = false := by
  unfold covB
  rw [List.any_eq_false]
  constructor
  · intro h y hy hk
    rw [clr_cov hk]
    simpa using h y (plL_mem2.2 ⟨hy, hk⟩)
  · intro h y hy
    obtain ⟨h1, h2⟩ := plL_mem2.1 hy
    have := h y h1 h2
    rw [clr_cov h2] at this
    simpa using this
def sgn (x : TX × Nat) : Int := if (opP x).kind = 1 then (opP x).n else if (opP x).kind = 2 then - (opP x).n else 0
def netD : List (TX × Nat) → Int
  | [] => 0
  | x :: r => sgn x + netD r
theorem cntZ_sgn (x : TX × Nat) (n : Int) : wrap64 (cntZ (opP x) n) = wrap64 (n + sgn x) := by
  unfold cntZ sgn wrap64
  split
  · omega
  split
  · omega
  · omega
theorem cntD_sum : ∀ (D : List (TX × Nat)) (start : Int), wrap64 (cntD start D) = wrap64 (start + netD D)
  | [], start => by show wrap64 start = wrap64 (start + 0); rw [Int.add_zero]
  | x :: r, start => by
    have ih := cntD_sum r (cntZ (opP x) start)
    show wrap64 (cntD (cntZ (opP x) start) r) = wrap64 (start + (sgn x + netD r))
    rw [ih, ← wrap_add, cntZ_sgn, wrap_add]
    congr 1
    omega
theorem cntZ_in {o : TO} {n : Int} (h : wrap64 n = n) : wrap64 (cntZ o n) = cntZ o n := by
  unfold cntZ
  split
  · unfold wrap64; omega
  split
  · unfold wrap64; omega
  · exact h
theorem cntD_in : ∀ (D : List (TX × Nat)) {start : Int}, wrap64 start = start → wrap64 (cntD start D) = cntD start D
  | [], _, h => h
  | x :: r, start, h => cntD_in r (cntZ_in h)
theorem net_sums : ∀ D : List (TX × Nat), netD D = sumR (D.filter fun x => decide ((opP x).kind = 1)) - sumR (D.filter fun x => decide ((opP x).kind = 2))
  | [] => rfl
  | x :: r => by
    have ih := net_sums r
    show sgn x + netD r = _
    rw [ih, List.filter_cons, List.filter_cons]
    unfold sgn
    by_cases h1 : (opP x).kind = 1
    · have h2 : ¬ (opP x).kind = 2 := by omega
      simp only [h1, decide_true, if_true, show ¬ (1 : Int) = 2 by decide, decide_false, Bool.false_eq_true, if_false]
      show _ = ((opAt x.1 x.2).n + sumR _) - _
      have : (opP x).n = (opAt x.1 x.2).n := rfl
      omega
    · by_cases h2 : (opP x).kind = 2
      · simp only [h2, decide_true, if_true, show ¬ (2 : Int) = 1 by decide, decide_false, Bool.false_eq_true, if_false]
        show _ = _ - ((opAt x.1 x.2).n + sumR _)
        have : (opP x).n = (opAt x.1 x.2).n := rfl
        omega
      · simp only [h1, h2, decide_false, Bool.false_eq_true, if_false]
        omega
theorem sumAll_R (L : List (TX × Nat)) : sumAll L = sumR L := by
  unfold sumAll
  rw [sumP_R _ _ (Nat.le_refl _), List.take_length]
theorem cnt_value {start : Int} (h : wrap64 start = start) (key : ByteArray) (O : List TX) : cntD start (dsP key O) = wrap64 (start + wrap64 (sumAll (plL key 1 O) - sumAll (plL key 2 O))) := by
  rw [← cntD_in _ h, cntD_sum, sumAll_R, sumAll_R, plL_filter, plL_filter, ← net_sums]
  unfold wrap64
  omega
theorem elems_live {a c : Int} {D : List (TX × Nat)} (h : D.Pairwise DoR) {s : ByteArray} : s ∈ elemsG (liveD a c D) ↔ ∃ x ∈ D, (opP x).kind = a ∧ s = elP x ∧ ∀ y ∈ D, (opP y).kind = c → clr y x = false := by
  unfold elemsG
  rw [List.mem_map]
  constructor
  · rintro ⟨z, hz, rfl⟩
    obtain ⟨x, hx, hk, rfl, hall⟩ := ((liveD_spec a c D h).2 z).1 hz
    exact ⟨x, hx, hk, rfl, hall⟩
  · rintro ⟨x, hx, hk, rfl, hall⟩
    exact ⟨tgP x, ((liveD_spec a c D h).2 _).2 ⟨x, hx, hk, rfl, hall⟩, rfl⟩
theorem last_value {key : ByteArray} {l : LG} (hl : OkL l) (v : Nat → Nat) :
    lastS1 (lastD (dsP key (ordR l v))).1 (lastD (dsP key (ordR l v))).2.2 = (match (plL key 6 (ordR l v))[(plL key 6 (ordR l v)).length - 1]? with | some x => [elP x] | none => []) := by
  rcases lastD_spec _ (dsP_pw (key := key) (ord_ns hl v)) with ⟨e, hn⟩ | ⟨m, hm, hk, e, hall⟩
  · have h0 : plL key 6 (ordR l v) = [] := by
      rw [List.eq_nil_iff_forall_not_mem]
      intro y hy
      obtain ⟨h1, h2⟩ := plL_mem2.1 hy
      exact hn y h1 h2
    rw [e, h0]
    rfl
  · have hm2 : m ∈ plL key 6 (ordR l v) := plL_mem2.2 ⟨hm, hk⟩
    have hlen : 0 < (plL key 6 (ordR l v)).length := List.length_pos_of_mem hm2
    have hz : (plL key 6 (ordR l v))[(plL key 6 (ordR l v)).length - 1]? = some (plL key 6 (ordR l v))[(plL key 6 (ordR l v)).length - 1] := List.getElem?_eq_getElem (by omega)
    rw [hz]
    obtain ⟨z, hzz⟩ : ∃ z, z = (plL key 6 (ordR l v))[(plL key 6 (ordR l v)).length - 1] := ⟨_, rfl⟩
    have hzm : z ∈ plL key 6 (ordR l v) := by rw [hzz]; exact List.getElem_mem _
    obtain ⟨hz1, hz2⟩ := plL_mem2.1 hzm
    have h1 := hall z hz1 hz2
    have h2 : m = z ∨ PlR m z := by
      obtain ⟨i, hi, hie⟩ := List.mem_iff_getElem.1 hm2
      by_cases e : i = (plL key 6 (ordR l v)).length - 1
      · subst e
        exact .inl (by rw [hzz]; exact hie.symm)
      · have := (List.pairwise_iff_getElem.1 (plL_pw (key := key) (kind := 6) (v := v) hl)) i ((plL key 6 (ordR l v)).length - 1) hi (by omega) (by omega)
        rw [hie, ← hzz] at this
        exact .inr this
    have hmz : m = z := by
      rcases h2 with h2 | h2
      · exact h2
      · rcases h1 with h1 | h1
        · exact h1.symm
        · exfalso
          have t1 : (tgP z).o = z.1.origin := rfl
          have t2 : (tgP z).s = z.1.seq := rfl
          have t3 : (tgP z).i = (z.2 : Int) := rfl
          have t4 : (tgP m).o = m.1.origin := rfl
          have t5 : (tgP m).s = m.1.seq := rfl
          have t6 : (tgP m).i = (m.2 : Int) := rfl
          unfold LtW TgR at h1
          rcases h2 with h2 | ⟨h2, h3⟩
          · unfold AhP at h2; omega
          · rw [h2] at h1 t4 t5; omega
    rw [← hzz, ← hmz, e]
    rfl
/-- The state's value is what the document tells. -/
theorem fold_value {k start : Int} (hk : knownB k = true) (hst : wrap64 start = start) (key : ByteArray) {l : LG} (hl : OkL l) (v : Nat → Nat) : fvalS (stD k start (dsP key (ordR l v))) = rvR k start (ordR l v) key := by
  have hD := dsP_pw (key := key) (ord_ns hl v)
  obtain ⟨D, hDe⟩ : ∃ D, D = dsP key (ordR l v) := ⟨_, rfl⟩
  have set_ : ∀ s : ByteArray, s ∈ elemsG (liveD 4 5 D) ↔ s ∈ ((plL key 4 (ordR l v)).filter fun x => !ansB x (plL key 5 (ordR l v))).map elP := fun s => by
    rw [hDe, elems_live hD, List.mem_map]
    constructor
    · rintro ⟨x, hx, hk, rfl, hall⟩
      exact ⟨x, List.mem_filter.2 ⟨plL_mem2.2 ⟨hx, hk⟩, by rw [(ans_all (by decide)).2 hall]; rfl⟩, rfl⟩
    · rintro ⟨x, hx, rfl⟩
      obtain ⟨h1, h2⟩ := List.mem_filter.1 hx
      obtain ⟨h3, h4⟩ := plL_mem2.1 h1
      exact ⟨x, h3, h4, rfl, (ans_all (by decide)).1 (by simpa using h2)⟩
  obtain rfl | rfl | rfl | rfl | rfl | rfl | rfl | rfl := known_cases hk
  · show VR.mk (cntD start _) [] false = VR.mk _ [] false
    rw [cnt_value hst]
  · show VR.mk (cntD start _) [] false = VR.mk _ [] false
    rw [cnt_value hst]
  · show VR.mk 0 (riseT (elemsG (liveD 4 5 _))) false = VR.mk 0 (foldT _ _ _) false
    rw [foldT_all, ← hDe, riseT_congr set_]
  · show VR.mk 0 (firmS (everD _) (liveD 5 4 _)) false = VR.mk 0 (foldT _ _ _) false
    rw [foldT_all, ← hDe]
    congr 1
    refine riseT_uniq ?_ fun s => ?_
    · exact (riseT_rising _).filter _
    · unfold firmS
      rw [List.mem_filter, mem_riseT, everD_rise, mem_riseT, List.mem_map, List.mem_map]
      have hns : (!memS (riseT (elemsG (liveD 5 4 D))) s) = true ↔ ¬ s ∈ elemsG (liveD 5 4 D) := by
        rw [Bool.not_eq_true', ← Bool.not_eq_true, memS_iff, mem_riseT]
      rw [hns, hDe, elems_live hD]
      have hf : ∀ e : ByteArray, firB e (plL key 4 (ordR l v)) (plL key 5 (ordR l v)) = true ↔ ¬ ∃ x ∈ dsP key (ordR l v), (opP x).kind = 5 ∧ e = elP x ∧ ∀ y ∈ dsP key (ordR l v), (opP y).kind = 4 → clr y x = false := fun e => by
        unfold firB
        rw [List.all_eq_true]
        constructor
        · rintro h ⟨x, hx, hk5, rfl, hall⟩
          have := h x (plL_mem2.2 ⟨hx, hk5⟩)
          rw [(ans_all (by decide)).2 hall, eqS_self] at this
          cases this
        · intro h x hx
          obtain ⟨h1, h2⟩ := plL_mem2.1 hx
          rw [Bool.not_eq_true', Bool.and_eq_false_iff]
          by_cases he : eqS (elP x) e = true
          · refine .inr ?_
            rw [Bool.not_eq_false']
            rw [← Bool.not_eq_false]
            intro ha
            exact h ⟨x, h1, h2, (eqS_iff.1 he).symm, (ans_all (by decide)).1 ha⟩
          · exact .inl (by simpa using he)
      constructor
      · rintro ⟨⟨x, hx, rfl⟩, hn⟩
        obtain ⟨h1, h2⟩ := List.mem_filter.1 hx
        exact ⟨x, List.mem_filter.2 ⟨plL_mem2.2 ⟨h1, of_decide_eq_true h2⟩, (hf _).2 hn⟩, rfl⟩
      · rintro ⟨x, hx, rfl⟩
        obtain ⟨h1, h2⟩ := List.mem_filter.1 hx
        obtain ⟨h3, h4⟩ := plL_mem2.1 h1
        exact ⟨⟨x, List.mem_filter.2 ⟨h3, decide_eq_true h4⟩, rfl⟩, (hf _).1 h2⟩
  · show VR.mk 0 (lastS1 (lastD (dsP key (ordR l v))).1 (lastD (dsP key (ordR l v))).2.2) false = VR.mk 0 _ false
    rw [last_value hl]
    cases (plL key 6 (ordR l v))[(plL key 6 (ordR l v)).length - 1]? <;> rfl
  · show VR.mk 0 (riseT (elemsG (liveD 6 6 _))) false = VR.mk 0 (foldT _ _ _) false
    rw [foldT_all]
    congr 1
    refine riseT_congr fun s => ?_
    rw [elems_live hD, List.mem_map]
    constructor
    · rintro ⟨x, hx, hk, rfl, hall⟩
      exact ⟨x, List.mem_filter.2 ⟨plL_mem2.2 ⟨hx, hk⟩, by rw [cov_all.2 hall]; rfl⟩, rfl⟩
    · rintro ⟨x, hx, rfl⟩
      obtain ⟨h1, h2⟩ := List.mem_filter.1 hx
      obtain ⟨h3, h4⟩ := plL_mem2.1 h1
      exact ⟨x, h3, h4, rfl, cov_all.1 (by simpa using h2)⟩
  · show VR.mk 0 [] (offD start _ || decide (0 < (liveD 7 8 _).length)) = VR.mk 0 [] ((!decide (start = 0) && decide ((plL key 8 (ordR l v)).length = 0)) || (plL key 7 (ordR l v)).any fun x => !ansB x (plL key 8 (ordR l v)))
    congr 1
    have e1 : (!(dsP key (ordR l v)).any fun x => decide ((opP x).kind = 8)) = decide ((plL key 8 (ordR l v)).length = 0) := by
      rw [Bool.eq_iff_iff, decide_eq_true_eq, Bool.not_eq_true', List.any_eq_false, List.length_eq_zero_iff, List.eq_nil_iff_forall_not_mem]
      constructor
      · intro h y hy
        obtain ⟨h1, h2⟩ := plL_mem2.1 hy
        exact h y h1 (decide_eq_true h2)
      · intro h y hy hk8
        exact h y (plL_mem2.2 ⟨hy, of_decide_eq_true hk8⟩)
    have e2 : decide (0 < (liveD 7 8 (dsP key (ordR l v))).length) = (plL key 7 (ordR l v)).any fun x => !ansB x (plL key 8 (ordR l v)) := by
      rw [Bool.eq_iff_iff, decide_eq_true_eq, List.any_eq_true, List.length_pos_iff_exists_mem]
      constructor
      · rintro ⟨z, hz⟩
        obtain ⟨x, hx, hk7, -, hall⟩ := ((liveD_spec 7 8 _ hD).2 z).1 hz
        exact ⟨x, plL_mem2.2 ⟨hx, hk7⟩, by rw [(ans_all (by decide)).2 hall]; rfl⟩
      · rintro ⟨x, hx, hn⟩
        obtain ⟨h1, h2⟩ := plL_mem2.1 hx
        exact ⟨tgP x, ((liveD_spec 7 8 _ hD).2 _).2 ⟨x, h1, h2, rfl, (ans_all (by decide)).1 (by simpa using hn)⟩⟩
    rw [offD_any, e1, e2]
  · show VR.mk 0 (riseT (elemsG (liveD 4 5 _))) false = VR.mk 0 (foldT _ _ _) false
    rw [foldT_all, ← hDe, riseT_congr set_]
end Go.Proofs.YtlihcjlonafohaaGreat
namespace Go.Proofs.YtlihcjlonafohaaGreat
open Go.RowKit Go.Joins
set_option linter.unusedSimpArgs false
set_option linter.unusedVariables false

abbrev zst : Array Value := #[.int .i64 0, .int .i64 0, .slice none 0 0, .slice none 0 0, .bool false, .int .u64 0, .int .i64 0, .int .i64 0, .int .u64 0, .string ⟨#[]⟩, .bool false]
abbrev S71 : Array Value := fsc 7 0 (.slice none 0 0) (.slice none 0 0) false 0 tg0 true
set_option maxRecDepth 100000 in
set_option maxHeartbeats 4000000 in
theorem awake11_any (w : World) : Calls Tryz.prog 9 #[] w fun e w' => e = .returned (.bool true) ∧ Gr w w' := by
  have HB := Lib.hid (begin7n_any 1 (by decide) w)
  go_enter Tryz.func9, Tryz.ntmps9
  go_wp2_with fail
  refine HB.out.mono ?_
  rintro e w1 ⟨rfl, g1⟩
  have HG1 := Lib.hid g1
  clear g1
  go_upto_region 2 with (refine wpList_store_row rfl 39 (.tmp 1) (.tmp 7) rfl w1.heap.size S71 rfl rfl 39 zst (heap_alloc _ _ _) sinfo rfl (fsc_ones _ _ _ _ _ _ _ _ _ _ _ _) ?_)
  obtain ⟨W2, hW2⟩ : ∃ X, X = (w1.alloc (.cells zst 39)).setRow w1.heap.size S71 := ⟨_, rfl⟩
  have hb2 : W2.heap[w1.heap.size]? = some (.cells S71 39 (0, 0)) := by rw [hW2]; exact setRow_heap _ _ _ _ _ _ (heap_alloc _ _ _)
  have HG2 : Hid (Gr w W2) := Lib.hid (by rw [hW2]; exact below_setRow (HG1.out.alloc _) HG1.out.size _)
  have HV := Lib.hid (fvalue7d_any 0 none none 0 0 0 0 [] [] false 0 tg0 W2 (SV.nilF _) (GV.nil _) ⟨Nat.zero_le _, Nat.zero_le _, fun _ h => absurd h (by simp), fun _ h => absurd h (by simp), by decide⟩)
  obtain ⟨P, hP⟩ : ∃ P, P = w1.heap.size := ⟨_, rfl⟩
  change Code.wp Tryz.prog _ _ _ ((w1.alloc (.cells zst 39)).setRow w1.heap.size S71)
  rw [← hW2, ← hP]
  rw [← hP] at hb2
  clear hW2 hP
  go_wp2_with (refine wpList_load_row rfl 39 (.tmp 1) rfl P rfl 39 S71 (0, 0) _ hb2 Tryz.underlying39 rfl sinfo ?_)
  refine HV.out.mono ?_
  rintro e w3 ⟨ve, rfl, ho, g3⟩
  obtain ⟨A3, c3, hv3, -, -⟩ := own_form ho
  subst hv3
  have HG3 := Lib.hid (HG2.out.trans g3)
  clear ho g3 hb2
  go_upto_region 3 with fail
  obtain ⟨W4, hW4⟩ : ∃ X, X = w3.alloc (.cells #[.int .i64 0, .slice A3 0 c3, .bool true] 49) := ⟨_, rfl⟩
  change Code.wp Tryz.prog _ _ _ (w3.alloc (.cells #[.int .i64 0, .slice A3 0 c3, .bool true] 49))
  have hb4 : W4.heap[w3.heap.size]? = some (.cells #[.int .i64 0, .slice A3 0 c3, .bool true] 49 (0, 0)) := by rw [hW4]; exact heap_alloc _ _ _
  have HG4 : Hid (Gr w W4) := Lib.hid (by rw [hW4]; exact HG3.out.alloc _)
  rw [← hW4]
  have q2 : W4.cell? ⟨w3.heap.size, 2, none⟩ = some (.bool true) := by rw [cell_of_block hb4]; rfl
  clear hW4 hb4
  go_wp2_with fail
  go_ret
  exact ⟨rfl, HG4.out⟩
end Go.Proofs.YtlihcjlonafohaaGreat
namespace Go.Proofs.YtlihcjlonafohaaGreat
open Go.RowKit Go.Joins
set_option linter.unusedSimpArgs false
set_option linter.unusedVariables false

def Spec.fsE (B : Nat) (s : FS) : Spec := ⟨fun w y => ∃ A1 n1 c1 A2 n2 c2, y = .tuple #[.agg (fsc s.k s.n (.slice A1 n1 c1) (.slice A2 n2 c2) s.has s.st s.top s.df), .int .i64 0] ∧ SO w B (.slice A1 n1 c1) s.ever ∧ GOw w B (.slice A2 n2 c2) s.live, fun _ _ _ ⟨A1, n1, c1, A2, n2, c2, h1, h2, h3⟩ k => ⟨A1, n1, c1, A2, n2, c2, h1, h2.keepsV k, own_keeps h3 (by decide) k⟩⟩
def Spec.fsV (B : Nat) (s : FS) : Spec := ⟨fun w y => ∃ A1 n1 c1 A2 n2 c2, y = .agg (fsc s.k s.n (.slice A1 n1 c1) (.slice A2 n2 c2) s.has s.st s.top s.df) ∧ SO w B (.slice A1 n1 c1) s.ever ∧ GOw w B (.slice A2 n2 c2) s.live, fun _ _ _ ⟨A1, n1, c1, A2, n2, c2, h1, h2, h3⟩ k => ⟨A1, n1, c1, A2, n2, c2, h1, h2.keepsV k, own_keeps h3 (by decide) k⟩⟩
def SFt (B : Nat) (cur : Array Value) (sl : Value) (j p q : Nat) (t : TX) (vt : Value) (key : ByteArray) (s1 : FS) : Nat → Spec
  | 0 => Spec.fix (.agg cur)
  | 1 => Spec.fix (sl)
  | 2 => Spec.fix (.int .i64 (j : Int))
  | 3 => Spec.fix (.pointer (some ⟨p, q, none⟩))
  | 4 => Spec.fix (.agg (tcs t vt))
  | 5 => Spec.fix (.string key)
  | 6 => Spec.fsE B s1
  | 7 => Spec.fsE B s1
  | 8 => Spec.fsV B s1
  | 9 => Spec.fix (.int .i64 0)
  | 12 => Spec.fix (.int .i64 0)
  | _ => Spec.any
theorem RetAp.form {s : FS} {w : World} {e : Ending} {w' : World} (h : RetAp s w e w') : ∃ A1 n1 c1 A2 n2 c2, e = .returned (.tuple #[.agg (fsc s.k s.n (.slice A1 n1 c1) (.slice A2 n2 c2) s.has s.st s.top s.df), .int .i64 0]) ∧ SO w' w.heap.size (.slice A1 n1 c1) s.ever ∧ GOw w' w.heap.size (.slice A2 n2 c2) s.live ∧ Gr w w' := by
  obtain ⟨v, h1, ⟨ve, vl, rfl, h2, h3⟩, h4⟩ := h
  obtain ⟨A1, n1, c1, rfl⟩ := sv_form3 h2.sv
  obtain ⟨A2, n2, c2, rfl⟩ := gv_form h3.gv
  exact ⟨A1, n1, c1, A2, n2, c2, h1, h2, h3, h4⟩
theorem keeps_setRow {w : World} {P : Nat} {z c : Array Value} (h : w.heap[P]? = some (.cells z 39 (0, 0))) : Keeps btV w (w.setRow P c) := fun b cs t fr ht hb => by
  have hne : b ≠ P := fun e => by
    subst e
    rw [h] at hb
    injection hb with hb
    injection hb with e1 e2 e3
    subst e2
    exact absurd ht (by decide)
  rw [setRow_other w P b c hne]
  exact hb
/-- What the laws' loops keep: the state's box, its rows, the transactions. -/
structure FgS (w : World) (u : Nat → S3) (P : Nat) (s : FS) (ve vl : Value) (sl : Value) (L : List TX) (wr : World) : Prop where
  bx : wr.heap[P]? = some (.cells (fsc s.k s.n ve vl s.has s.st s.top s.df) 39 (0, 0))
  so : SO wr w.heap.size ve s.ever
  lo : GOw wr w.heap.size vl s.live
  xs : XN wr w.heap.size sl L
  gr : Gr w wr
  lb : LBox wr w.heap.size u
theorem FgS.next {w : World} {u : Nat → S3} {P : Nat} {s : FS} {ve vl sl : Value} {L : List TX} {wr w' : World} (h : FgS w u P s ve vl sl L wr) (g : Gr wr w') : FgS w u P s ve vl sl L w' :=
  ⟨gr_obj g h.bx, h.so.gr g, h.lo.gr g, h.xs.keepsV (Keeps.of_gr g), h.gr.trans g, h.lb.gr g⟩
theorem FgS.put {w : World} {u : Nat → S3} {P : Nat} {s s' : FS} {ve vl ve' vl' sl : Value} {L : List TX} {wr : World} (h : FgS w u P s ve vl sl L wr) (hP : w.heap.size < P) (h1 : SO wr w.heap.size ve' s'.ever) (h2 : GOw wr w.heap.size vl' s'.live) :
    FgS w u P s' ve' vl' sl L (wr.setRow P (fsc s'.k s'.n ve' vl' s'.has s'.st s'.top s'.df)) :=
  ⟨setRow_heap wr P _ _ 39 _ h.bx, h1.keepsV (keeps_setRow h.bx), own_keeps h2 (by decide) (keeps_setRow h.bx), h.xs.keepsV (keeps_setRow h.bx), below_setRow h.gr (Nat.le_of_lt hP) _, ⟨by rw [setRow_other _ _ _ _ (Nat.ne_of_lt hP)]; exact h.lb.box⟩⟩
theorem foldS_take (k start : Int) (key : ByteArray) {L : List TX} {j : Nat} (h : j < L.length) : foldS k start key (L.take (j + 1)) = applyS key L[j] (foldS k start key (L.take j)) := by
  rw [List.take_succ_eq_append_getElem h, foldS_snoc]
theorem foldS_k {k : Int} (hk : knownB k = true) (start : Int) (key : ByteArray) (P : List TX) : (foldS k start key P).k = k := by
  rw [foldS_st hk]
  obtain rfl | rfl | rfl | rfl | rfl | rfl | rfl | rfl := known_cases hk <;> rfl
theorem foldS_fit (k start : Int) (key : ByteArray) {L : List TX} (h8 : ∀ t ∈ L, t.ops.length ≤ 8) (hs : ∀ t ∈ L, ∀ o ∈ t.ops, o.elem.size ≤ 281474976710656) : ∀ j, j ≤ L.length → FitM (j * 8) (foldS k start key (L.take j))
  | 0, _ => by
    show FitM _ (beginS k start)
    exact ⟨Nat.zero_le _, Nat.zero_le _, fun _ h => absurd h (by simp [beginS]), fun _ h => absurd h (by simp [beginS]), (by decide : (tg0.e).size ≤ 281474976710656)⟩
  | j + 1, hj => by
    rw [foldS_take k start key (by omega)]
    have ih := foldS_fit k start key h8 hs j (by omega)
    have hm : L[j] ∈ L := List.getElem_mem (by omega)
    refine (stepTo_fit key ih (hs _ hm) _).le ?_
    have := h8 _ hm
    omega
end Go.Proofs.YtlihcjlonafohaaGreat
