/- The law ValueAside. -/
import Derived.Test.YtaldgjcbbjjceaaG30
import Derived.Test.YtaldgjcbbjjceaaG09
import Derived.Test.YtaldgjcbbjjceaaG24
namespace Go.Proofs.Ytaldgjcbbjjceaa
open Go.RowKit Go.Joins
set_option linter.unusedSimpArgs false
set_option linter.unusedVariables false

theorem SO.cellA {w : World} {B m c : Nat} {A : Option Addr} {E : List ByteArray} (h : SO w B (.slice A m c) E) {i : Nat} (hi : i < E.length) : ∃ b off, A = some ⟨b, off, none⟩ ∧ w.cell? ⟨b, off + i, none⟩ = some (.string E[i]) := by
  obtain ⟨A', c', hv, _, _, hat⟩ := h.sv
  injection hv with e1 e2 e3
  subst e1 e3
  exact hat i hi
/-- A member's one transaction, of one operation. -/
def tAs (m : Nat) (k : Int) (key elem : ByteArray) : TX := ⟨(m : Int), 1, 1, fun _ => 0, [⟨k, key, elem, 0⟩]⟩
def lAs (a b : Nat) (key elem : ByteArray) : LG := fun i => if i = b then [tAs b 5 key elem] else if i = a then [tAs a 4 key elem] else []
theorem lAs_a {a b : Nat} (h : a ≠ b) (key elem : ByteArray) : lAs a b key elem a = [tAs a 4 key elem] := by unfold lAs; rw [if_neg h, if_pos rfl]
theorem lAs_b (a b : Nat) (key elem : ByteArray) : lAs a b key elem b = [tAs b 5 key elem] := by unfold lAs; rw [if_pos rfl]
theorem lAs_mem {a b i : Nat} {key elem : ByteArray} {t : TX} (h : t ∈ lAs a b key elem i) : t = tAs b 5 key elem ∨ t = tAs a 4 key elem := by
  unfold lAs at h
  split at h
  · exact .inl (List.mem_singleton.1 h)
  · split at h
    · exact .inr (List.mem_singleton.1 h)
    · cases h
theorem lAs_deps {a b i : Nat} {key elem : ByteArray} {t : TX} (h : t ∈ lAs a b key elem i) : t.deps = fun _ => 0 := by
  rcases lAs_mem h with rfl | rfl <;> rfl
theorem seenF_zero {L : List DD} (h : ∀ d ∈ L, d.t.deps = fun _ => 0) : ∀ j x, seenF L j x = fun _ => 0
  | 0, _ => rfl
  | j + 1, x => by
    cases hj : L[j]? with
    | none =>
      have e : seenF L (j + 1) = seenF L j := by
        show (match L[j]? with | some d => _ | none => _) = _
        rw [hj]
      rw [e]
      exact seenF_zero h j x
    | some d =>
      rw [seenF_at hj]
      show (if x = aboutT d.op then jn (seenF L j (aboutT d.op)) d.t.deps else seenF L j x) = _
      split
      · rw [seenF_zero h j, h d (List.mem_of_getElem? hj)]
        rfl
      · exact seenF_zero h j x
/-- The deeds of the two transactions. -/
theorem dAs_mem {a b : Nat} (ha : a < 8) (hb : b < 8) (hne : a ≠ b) {key elem : ByteArray} {d : DD} : d ∈ (dAll key (lAs a b key elem) (sizeV (lAs a b key elem)) 8).map toD ↔ d = toD (tAs a 4 key elem, 0) ∨ d = toD (tAs b 5 key elem, 0) := by
  rw [List.mem_map]
  constructor
  · rintro ⟨x, hx, rfl⟩
    obtain ⟨⟨i, k, hi, hk, h1⟩, o, h2, h3⟩ := dAll_mem.1 hx
    obtain ⟨t, j⟩ := x
    have hj : j = 0 := by
      have hm := lAs_mem (List.mem_of_getElem? h1)
      have hl : t.ops.length = 1 := by rcases hm with e | e <;> (simp only at e; rw [e]; rfl)
      have := (List.getElem?_eq_some_iff.1 h2).1
      simp only at this
      omega
    subst hj
    rcases lAs_mem (List.mem_of_getElem? h1) with e | e
    · simp only at e; rw [e]; exact .inr rfl
    · simp only at e; rw [e]; exact .inl rfl
  · rintro (rfl | rfl)
    · refine ⟨(tAs a 4 key elem, 0), dAll_mem.2 ⟨⟨a, 0, ha, ?_, ?_⟩, ⟨4, key, elem, 0⟩, rfl, eqS_self _⟩, rfl⟩
      · show 0 < (lAs a b key elem a).length
        rw [lAs_a hne]; exact Nat.lt_succ_self 0
      · rw [lAs_a hne]; rfl
    · refine ⟨(tAs b 5 key elem, 0), dAll_mem.2 ⟨⟨b, 0, hb, ?_, ?_⟩, ⟨5, key, elem, 0⟩, rfl, eqS_self _⟩, rfl⟩
      · show 0 < (lAs a b key elem b).length
        rw [lAs_b]; exact Nat.lt_succ_self 0
      · rw [lAs_b]; rfl
theorem as_unseen {D : List DD} {d : DD} {k : Int} (hd : ∀ x ∈ D, x.t.deps = fun _ => 0) (h1 : d.t.seq = 1) (h2 : d.i = 0) (h3 : d.t.ops.length = 1) : unsD (seenF (kindF k D) (kindF k D).length) k d = false := by
  unfold unsD
  rw [seenF_zero (fun x hx => hd x (kindF_mem hx))]
  have e1 : hasB (fun _ => 0) d.t.origin d.t.seq = false := by
    unfold hasB
    rw [h1]
    simp
  have e2 : withinD k d = false := by
    unfold withinD
    rw [h2, List.drop_eq_nil_of_le (by omega)]
    rfl
  rw [e1, e2]
  rfl
theorem as_deeds {a b : Nat} (ha : a < 8) (hb : b < 8) (hne : a ≠ b) {key elem : ByteArray} {D : List DD} (hD : D = (dAll key (lAs a b key elem) (sizeV (lAs a b key elem)) 8).map toD) : ∀ d ∈ D, (d.t.deps = fun _ => 0) ∧ d.t.seq = 1 ∧ d.i = 0 ∧ d.t.ops.length = 1 ∧ d.op.elem = elem := by
  intro d hd
  rw [hD] at hd
  rcases (dAs_mem ha hb hne).1 hd with rfl | rfl <;> exact ⟨rfl, rfl, rfl, rfl, rfl⟩
theorem as_uns {a b : Nat} (ha : a < 8) (hb : b < 8) (hne : a ≠ b) {key elem : ByteArray} {D : List DD} (hD : D = (dAll key (lAs a b key elem) (sizeV (lAs a b key elem)) 8).map toD) (k j : Int) : unsL k j D = kindF k D := by
  have h := as_deeds ha hb hne hD
  unfold unsL
  rw [List.filter_eq_self]
  intro d hd
  obtain ⟨-, h2, h3, h4, -⟩ := h d (kindF_mem hd)
  rw [as_unseen (fun x hx => (h x hx).1) h2 h3 h4]
  rfl
theorem as_elems {a b : Nat} (ha : a < 8) (hb : b < 8) (hne : a ≠ b) {key elem : ByteArray} {D : List DD} (hD : D = (dAll key (lAs a b key elem) (sizeV (lAs a b key elem)) 8).map toD) {k : Int} (hk : k = 4 ∨ k = 5) : riseT (elemsD (kindF k D)) = [elem] := by
  refine (riseT_uniq (R := [elem]) (List.pairwise_singleton _ _) fun x => ?_).symm
  rw [List.mem_singleton]
  constructor
  · rintro rfl
    have hd : ∃ d ∈ D, d.op.kind = k ∧ d.op.elem = x := by
      rcases hk with rfl | rfl
      · exact ⟨toD (tAs a 4 key x, 0), by rw [hD]; exact (dAs_mem ha hb hne).2 (.inl rfl), rfl, rfl⟩
      · exact ⟨toD (tAs b 5 key x, 0), by rw [hD]; exact (dAs_mem ha hb hne).2 (.inr rfl), rfl, rfl⟩
    obtain ⟨d, h1, h2, h3⟩ := hd
    exact List.mem_map.2 ⟨d, List.mem_filter.2 ⟨h1, decide_eq_true h2⟩, h3⟩
  · intro hx
    obtain ⟨d, hd, e⟩ := List.mem_map.1 hx
    rw [← e]
    exact (as_deeds ha hb hne hD d (kindF_mem hd)).2.2.2.2
theorem as_value {a b : Nat} (ha : a < 8) (hb : b < 8) (hne : a ≠ b) (key elem : ByteArray) (hok : checkE (lAs a b key elem) = 0) :
    valE 3 (lAs a b key elem) (sizeV (lAs a b key elem)) = 0 ∧ valE 4 (lAs a b key elem) (sizeV (lAs a b key elem)) = 0 ∧
    valV 3 0 (lAs a b key elem) (sizeV (lAs a b key elem)) key = ⟨0, [elem], false⟩ ∧ valV 4 0 (lAs a b key elem) (sizeV (lAs a b key elem)) key = ⟨0, [], false⟩ := by
  have hcl : closedB (lAs a b key elem) (sizeV (lAs a b key elem)) = true := by
    refine closedB_iff.2 ⟨leqB_iff.2 fun i _ => Nat.le_refl _, fun i k t hi hk ht => ?_⟩
    rw [lAs_deps (List.mem_of_getElem? ht)]
    exact leqB_iff.2 fun j _ => Nat.zero_le _
  have e3 : valE 3 (lAs a b key elem) (sizeV (lAs a b key elem)) = 0 := by unfold valE; rw [if_neg (by omega), if_pos hok, if_pos hcl]
  have e4 : valE 4 (lAs a b key elem) (sizeV (lAs a b key elem)) = 0 := by unfold valE; rw [if_neg (by omega), if_pos hok, if_pos hcl]
  obtain ⟨D, hD⟩ : ∃ D, D = (dAll key (lAs a b key elem) (sizeV (lAs a b key elem)) 8).map toD := ⟨_, rfl⟩
  refine ⟨e3, e4, ?_, ?_⟩
  · unfold valV
    rw [if_pos e3]
    unfold valAt
    rw [← hD]
    show VR.mk 0 (riseT (elemsD (unsL 4 5 D))) false = _
    rw [as_uns ha hb hne hD, as_elems ha hb hne hD (.inl rfl)]
  · unfold valV
    rw [if_pos e4]
    unfold valAt
    rw [← hD]
    show VR.mk 0 (firmL D) false = _
    have : firmL D = [] := by
      unfold firmL
      rw [as_uns ha hb hne hD, as_elems ha hb hne hD (.inl rfl), as_elems ha hb hne hD (.inr rfl)]
      simp [memS]
    rw [this]
theorem mod8 (x : Int) : ∃ a : Nat, a < 8 ∧ wrap64 ((IntKind.u64.wrap x).tmod 8) = (a : Int) := by
  rw [IntKind.wrap_u64]
  have h0 : 0 ≤ x % 18446744073709551616 := Int.emod_nonneg _ (by omega)
  rw [Int.tmod_eq_emod_of_nonneg h0]
  refine ⟨(x % 18446744073709551616 % 8).toNat, by omega, ?_⟩
  unfold wrap64
  omega
/-- How a transaction of one operation lies. -/
def AsC (w : World) (b m : Nat) (k : Int) (key elem : ByteArray) : Prop := TCell w b 0 ⟨k, key, elem, 0⟩ ∧ XFix w (b + 1) 0 (tAs m k key elem) (.slice (some ⟨b, 0, none⟩) 1 1)
theorem AsC.gr {w w' : World} {b m : Nat} {k : Int} {key elem : ByteArray} (h : AsC w b m k key elem) (g : Gr w w') : AsC w' b m k key elem := ⟨h.1.gr g, h.2.gr g⟩
theorem AsC.kp {w w' : World} {b m P : Nat} {k : Int} {key elem : ByteArray} (h : AsC w b m k key elem) (q : Kp (some P) w w') (hp : P < b) : AsC w' b m k key elem := by
  obtain ⟨⟨a0, a1, a2, a3⟩, x0, x1, x2, x3, x4, x5, x6, x7, x8, x9, x10, x11⟩ := h
  have c : ∀ {i : Nat} {v : Value}, w.cell? ⟨b, i, none⟩ = some v → w'.cell? ⟨b, i, none⟩ = some v := fun h => q.cellNe h (by show b ≠ P; omega)
  have d : ∀ {i : Nat} {v : Value}, w.cell? ⟨b + 1, i, none⟩ = some v → w'.cell? ⟨b + 1, i, none⟩ = some v := fun h => q.cellNe h (by show b + 1 ≠ P; omega)
  exact ⟨⟨c a0, c a1, c a2, c a3⟩, d x0, d x1, d x2, d x3, d x4, d x5, d x6, d x7, d x8, d x9, d x10, d x11⟩
theorem AsC.xv {w : World} {b m : Nat} {k : Int} {key elem : ByteArray} (h : AsC w b m k key elem) : XV w (.slice (some ⟨b + 1, 0, none⟩) 1 1) [tAs m k key elem] := by
  refine ⟨some ⟨b + 1, 0, none⟩, 1, rfl, Nat.le_refl _, ⟨by decide, fun e => by cases e⟩, fun j hj => ⟨b + 1, 0, rfl, ?_⟩⟩
  have : j = 0 := by simp at hj; omega
  subst this
  refine ⟨_, ⟨some ⟨b, 0, none⟩, 1, rfl, Nat.le_refl _, ⟨by decide, fun e => by cases e⟩, fun j hj => ⟨b, 0, rfl, ?_⟩⟩, h.2⟩
  have : j = 0 := by
    have : j < 1 := hj
    omega
  subst this
  exact h.1
theorem asStep (W : World) (P m : Nat) (k : Int) (key elem : ByteArray) (u : Nat → S3) (hm : m < 8) (hL : LBox W P u) :
    ((W.alloc (.cells #[.int .i64 k, .string key, .string elem, .int .i64 0] 41)).alloc (.cells #[.int .i64 (m : Int), .int .u64 1, .int .u64 1, .int .u64 0, .int .u64 0, .int .u64 0, .int .u64 0, .int .u64 0, .int .u64 0, .int .u64 0, .int .u64 0, .slice (some ⟨W.heap.size, 0, none⟩) 1 1] 44)).cell? ⟨P, m, none⟩ = some (.slice (u m).a (u m).n (u m).c) ∧ ((W.alloc (.cells #[.int .i64 k, .string key, .string elem, .int .i64 0] 41)).alloc (.cells #[.int .i64 (m : Int), .int .u64 1, .int .u64 1, .int .u64 0, .int .u64 0, .int .u64 0, .int .u64 0, .int .u64 0, .int .u64 0, .int .u64 0, .int .u64 0, .slice (some ⟨W.heap.size, 0, none⟩) 1 1] 44)).frozen? ⟨P, m, none⟩ = false ∧
    ∃ W5, W5 = ((W.alloc (.cells #[.int .i64 k, .string key, .string elem, .int .i64 0] 41)).alloc (.cells #[.int .i64 (m : Int), .int .u64 1, .int .u64 1, .int .u64 0, .int .u64 0, .int .u64 0, .int .u64 0, .int .u64 0, .int .u64 0, .int .u64 0, .int .u64 0, .slice (some ⟨W.heap.size, 0, none⟩) 1 1] 44)).setCell ⟨P, m, none⟩ (.slice (some ⟨W.heap.size + 1, 0, none⟩) 1 1) ∧
      LBox W5 P (updS u m ⟨some ⟨W.heap.size + 1, 0, none⟩, 1, 1⟩) ∧ AsC W5 W.heap.size m k key elem ∧ Kp (some P) W W5 := by
  obtain ⟨W3, hW3⟩ : ∃ x, x = W.alloc (.cells #[.int .i64 k, .string key, .string elem, .int .i64 0] 41) := ⟨_, rfl⟩
  have g3 : Gr W W3 := by rw [hW3]; exact (Gr.refl _).alloc _
  have hb3 : W3.heap[W.heap.size]? = some (.cells #[.int .i64 k, .string key, .string elem, .int .i64 0] 41 (0, 0)) := by rw [hW3]; exact heap_alloc _ _ _
  have hs3 : W3.heap.size = W.heap.size + 1 := by rw [hW3]; simp
  rw [← hW3]
  obtain ⟨W4, hW4, g4, hx4⟩ := xbox W3 (tAs m k key elem) (.slice (some ⟨W.heap.size, 0, none⟩) 1 1)
  rw [hs3] at hx4
  have e4 : W3.alloc (.cells #[.int .i64 (m : Int), .int .u64 1, .int .u64 1, .int .u64 0, .int .u64 0, .int .u64 0, .int .u64 0, .int .u64 0, .int .u64 0, .int .u64 0, .int .u64 0, .slice (some ⟨W.heap.size, 0, none⟩) 1 1] 44) = W4 := hW4.symm
  rw [e4]
  have hL4 := (hL.gr g3).gr g4
  have hA4 : AsC W4 W.heap.size m k key elem := by
    refine ⟨TCell.gr ?_ g4, hx4⟩
    refine ⟨?_, ?_, ?_, ?_⟩ <;> (rw [cell_of_block hb3]; rfl)
  have hk : Kp (some P) W4 (W4.setCell ⟨P, m, none⟩ (.slice (some ⟨W.heap.size + 1, 0, none⟩) 1 1)) := (Kp.refl _ _).set (.inr rfl) _ _
  exact ⟨hL4.at hm, unfrozen_of_block hL4.box m, _, rfl, hL4.set hm _ _ _, hA4.kp hk hL.lt, (Kp.of_gr (g3.trans g4)).trans hk⟩
theorem as_logs {w : World} {a b pa pb : Nat} (hne : a ≠ b) {key elem : ByteArray} (ha : AsC w pa a 4 key elem) (hb : AsC w pb b 5 key elem) : LV w (updS (updS Z3 a ⟨some ⟨pa + 1, 0, none⟩, 1, 1⟩) b ⟨some ⟨pb + 1, 0, none⟩, 1, 1⟩) (lAs a b key elem) := fun i hi => by
  unfold updS lAs
  by_cases e1 : i = b
  · subst e1
    rw [if_pos rfl, if_pos rfl]
    exact hb.xv
  · rw [if_neg e1, if_neg e1]
    by_cases e2 : i = a
    · subst e2
      rw [if_pos rfl, if_pos rfl]
      exact ha.xv
    · rw [if_neg e2, if_neg e2]
      exact XV.nil w
theorem as_fit {a b : Nat} {key elem : ByteArray} (hk : key.size ≤ 9223372036854775807) : FitQ (lAs a b key elem) := fun i t _ ht => by
  rcases lAs_mem ht with rfl | rfl
  · exact ⟨(by decide : 1 < 18446744073709551616), fun o ho => by obtain rfl := List.mem_singleton.1 ho; exact hk⟩
  · exact ⟨(by decide : 1 < 18446744073709551616), fun o ho => by obtain rfl := List.mem_singleton.1 ho; exact hk⟩
set_option maxRecDepth 100000 in
set_option maxHeartbeats 8000000 in
theorem aside10_law (elem key : ByteArray) (first second : Int) (w : World) (hk : key.size ≤ 9223372036854775807) :
    Calls Try.prog 5 #[.string elem, .string key, .int .i64 first, .int .i64 second] w fun e w' => e = .returned (.bool true) ∧ Gr w w' := by
  obtain ⟨a, ha8, ha⟩ := mod8 first
  obtain ⟨b, hb8, hb⟩ := mod8 second
  go_enter Try.func5, Try.ntmps5
  go_wp2_with fail
  refine (awake10_any w).mono ?_
  rintro e w1 ⟨rfl, g1⟩
  have HG1 := Lib.hid g1
  clear g1
  go_upto_region 4 with (fail)
  rw [ha, hb]
  clear ha hb
  by_cases hab : a = b
  · subst hab
    go_wp2_with fail
    go_ret
    exact ⟨rfl, HG1.out⟩
  have hab1 : ¬ (a : Int) = (b : Int) := by omega
  have hab2 : ((a : Int) == (b : Int)) = false := beq_eq_false_iff_ne.2 hab1
  have HAB := Lib.hid (And.intro ha8 (And.intro hb8 hab))
  obtain ⟨W2, hW2, hg2, hL2⟩ : ∃ W, W = w1.alloc (.cells (lcells Z3) 24) ∧ Gr w1 W ∧ LBox W w1.heap.size Z3 := ⟨_, rfl, (Gr.refl _).alloc _, ⟨heap_alloc _ _ _⟩⟩
  have HL2 := Lib.hid hL2
  have HG2 := Lib.hid (HG1.out.trans hg2)
  have HS2 : Hid (W2.heap.size = w1.heap.size + 1) := Lib.hid (by rw [hW2]; simp)
  obtain ⟨P, hP⟩ : ∃ P, P = w1.heap.size := ⟨_, rfl⟩
  have HP := Lib.hid hP
  rw [← hP] at HL2 HS2
  clear hg2 hL2
  go_upto_region 7 with (fail)
  change Code.wp Try.prog _ _ _ (w1.alloc (.cells (lcells Z3) 24))
  rw [← hW2, ← hP]
  clear hW2 hP
  have ha0 : (0 : Int) ≤ (a : Int) := Int.natCast_nonneg _
  have ha1 : (a : Int) < 8 := by omega
  have hb0 : (0 : Int) ≤ (b : Int) := Int.natCast_nonneg _
  have hb1 : (b : Int) < 8 := by omega
  have hPw : Hid (w.heap.size ≤ P) := Lib.hid (by rw [HP.out]; exact HG1.out.size)
  obtain ⟨c4, k4, W5, hW5, hL5, hA5, hk5⟩ := asStep W2 P a 4 key elem Z3 HAB.out.1 HL2.out
  go_upto_region 8 with (fail)
  rw [← hW5]
  clear hW5 c4 k4
  obtain ⟨pa, hpa⟩ : ∃ p, p = W2.heap.size := ⟨_, rfl⟩
  rw [← hpa] at hL5 hA5
  have HPA : Hid (P < pa) := Lib.hid (by rw [hpa]; exact HL2.out.lt)
  have HA5 := Lib.hid hA5
  have HG5 : Hid (Gr w W5) := Lib.hid (Kp.gr_of HG2.out hk5 (fun q hq => by injection hq with hq; rw [← hq]; exact hPw.out))
  obtain ⟨c6, k6, W6, hW6, hL6, hA6, hk6⟩ := asStep W5 P b 5 key elem _ HAB.out.2.1 hL5
  clear hL5 hA5 hk5 hpa
  go_upto_region 9 with (fail)
  rw [← hW6]
  clear hW6 c6 k6
  obtain ⟨pb, hpb⟩ : ∃ p, p = W5.heap.size := ⟨_, rfl⟩
  rw [← hpb] at hL6 hA6
  have HG6 : Hid (Gr w W6) := Lib.hid (Kp.gr_of HG5.out hk6 (fun q hq => by injection hq with hq; rw [← hq]; exact hPw.out))
  have HLV := Lib.hid (as_logs HAB.out.2.2 (HA5.out.kp hk6 HPA.out) hA6)
  obtain ⟨u, hu⟩ : ∃ u, u = updS (updS Z3 a ⟨some ⟨pa + 1, 0, none⟩, 1, 1⟩) b ⟨some ⟨pb + 1, 0, none⟩, 1, 1⟩ := ⟨_, rfl⟩
  rw [← hu] at HLV hL6
  have HL6 := Lib.hid hL6
  have HFQ := Lib.hid (as_fit (a := a) (b := b) (key := key) (elem := elem) hk)
  have HVL := Lib.hid (fun h => as_value HAB.out.1 HAB.out.2.1 HAB.out.2.2 key elem h)
  obtain ⟨l, hl⟩ : ∃ l, l = lAs a b key elem := ⟨_, rfl⟩
  rw [← hl] at HLV HFQ HVL
  clear hL6 hA6 hk6 hpb hu hl hk ha8 hb8 hab hab1 hab2 ha0 ha1 hb0 hb1
  have HCK := Lib.hid (rcheck9_any u l W6 HLV.out HFQ.out)
  have HSZ := Lib.hid (fun w1 (g : Gr W6 w1) => rsize_any u l w1 (HLV.out.gr g))
  have HVA := Lib.hid (fun kd w1 (g : Gr W6 w1) => (value_any kd 0 u l (sizeV l) key w1 (HLV.out.gr g) HFQ.out (by unfold wrap64; omega)).mono fun e w' h => h.form)
  obtain ⟨l0, l1, l2, l3, l4, l5, l6, l7⟩ := HL6.out.all
  go_wp2_with fail
  refine HCK.out.mono ?_
  rintro e w7 ⟨rfl, g7⟩
  have HG7 := Lib.hid g7
  obtain ⟨ec, hec⟩ : ∃ x, x = checkE l := ⟨_, rfl⟩
  rw [← hec]
  have HEC := Lib.hid hec
  clear g7 hec l0 l1 l2 l3 l4 l5 l6 l7
  by_cases he : ec = 0
  case neg =>
    have hne : ¬ ((ec : Int) = 0) := by omega
    have hne2 : ((ec : Int) == 0) = false := beq_eq_false_iff_ne.2 hne
    go_wp2_with fail
    go_ret
    exact ⟨rfl, HG6.out.trans HG7.out⟩
  subst he
  obtain ⟨e3, e4, v3, v4⟩ := HVL.out HEC.out.symm
  have HV3 := Lib.hid (HVA.out 3)
  have HV4 := Lib.hid (HVA.out 4)
  rw [e3, v3] at HV3
  rw [e4, v4] at HV4
  obtain ⟨sz, hsz⟩ : ∃ s, s = sizeV l := ⟨_, rfl⟩
  rw [← hsz] at HV3 HV4 HSZ
  clear e3 e4 v3 v4 hsz HVA HVL
  obtain ⟨l0, l1, l2, l3, l4, l5, l6, l7⟩ := (HL6.out.gr HG7.out).all
  go_wp2_with fail
  refine (HSZ.out _ HG7.out).mono ?_
  rintro e w8 ⟨rfl, g8⟩
  obtain ⟨W9, hW9, hg9, hV9⟩ : ∃ W, W = w8.alloc (.cells (vcells sz) 27) ∧ Gr w8 W ∧ VBox W w8.heap.size sz := ⟨_, rfl, (Gr.refl _).alloc _, ⟨heap_alloc _ _ _⟩⟩
  have HG9 := Lib.hid ((HG7.out.trans g8).trans hg9)
  obtain ⟨Q, hQ⟩ : ∃ Q, Q = w8.heap.size := ⟨_, rfl⟩
  rw [← hQ] at hV9
  have HV9 := Lib.hid hV9
  clear g8 hg9 hV9 l0 l1 l2 l3 l4 l5 l6 l7
  go_upto_region 12 with (fail)
  change Code.wp Try.prog _ _ _ (w8.alloc (.cells (vcells sz) 27))
  rw [← hW9, ← hQ]
  clear hW9 hQ
  obtain ⟨l0, l1, l2, l3, l4, l5, l6, l7⟩ := (HL6.out.gr HG9.out).all
  obtain ⟨v0, v1, v2, v3, v4, v5, v6, v7⟩ := HV9.out.all
  go_wp2_with fail
  refine (HV3.out _ HG9.out).mono ?_
  rintro e w10 ⟨A3, c3, rfl, ho3, g10⟩
  clear l0 l1 l2 l3 l4 l5 l6 l7 v0 v1 v2 v3 v4 v5 v6 v7
  obtain ⟨W11, hW11, hg11, hb11⟩ : ∃ W, W = w10.alloc (.cells #[.int .i64 0, .slice A3 1 c3, .bool false] 32) ∧ Gr w10 W ∧ W.heap[w10.heap.size]? = some (.cells #[.int .i64 0, .slice A3 1 c3, .bool false] 32 (0, 0)) := ⟨_, rfl, (Gr.refl _).alloc _, heap_alloc _ _ _⟩
  obtain ⟨Q3, hQ3⟩ : ∃ Q, Q = w10.heap.size := ⟨_, rfl⟩
  rw [← hQ3] at hb11
  have HB11 := Lib.hid hb11
  have HO11 := Lib.hid (ho3.gr hg11)
  have HG11 := Lib.hid ((HG9.out.trans g10).trans hg11)
  have HG11b := Lib.hid (g10.trans hg11)
  clear ho3 g10 hg11 hb11
  go_upto_region 13 with (fail)
  change Code.wp Try.prog _ _ _ (w10.alloc (.cells #[.int .i64 0, .slice A3 1 c3, .bool false] 32))
  rw [← hW11, ← hQ3]
  clear hW11 hQ3
  obtain ⟨l0, l1, l2, l3, l4, l5, l6, l7⟩ := (HL6.out.gr HG11.out).all
  obtain ⟨v0, v1, v2, v3, v4, v5, v6, v7⟩ := (HV9.out.gr HG11b.out).all
  go_wp2_with fail
  refine (HV4.out _ HG11.out).mono ?_
  rintro e w12 ⟨A4, c4, rfl, ho4, g12⟩
  clear l0 l1 l2 l3 l4 l5 l6 l7 v0 v1 v2 v3 v4 v5 v6 v7
  obtain ⟨W13, hW13, hg13, hb13⟩ : ∃ W, W = w12.alloc (.cells #[.int .i64 0, .slice A4 0 c4, .bool false] 32) ∧ Gr w12 W ∧ W.heap[w12.heap.size]? = some (.cells #[.int .i64 0, .slice A4 0 c4, .bool false] 32 (0, 0)) := ⟨_, rfl, (Gr.refl _).alloc _, heap_alloc _ _ _⟩
  obtain ⟨Q4, hQ4⟩ : ∃ Q, Q = w12.heap.size := ⟨_, rfl⟩
  rw [← hQ4] at hb13
  have z1 : W13.cell? ⟨Q4, 1, none⟩ = some (.slice A4 0 c4) := by rw [cell_of_block hb13]; rfl
  have y1 : W13.cell? ⟨Q3, 1, none⟩ = some (.slice A3 1 c3) := by rw [cell_of_block (gr_obj (g12.trans hg13) HB11.out)]; rfl
  obtain ⟨bb, bo, hA, q0⟩ := SO.cellA ((HO11.out.gr g12).gr hg13) (i := 0) (Nat.lt_succ_self 0)
  subst hA
  rw [Nat.add_zero] at q0
  have q1 : W13.cell? ⟨bb, bo, none⟩ = some (.string elem) := q0
  have HG13 := Lib.hid ((HG6.out.trans HG11.out).trans (g12.trans hg13))
  have hee : (elem.toList == elem.toList) = true := by simp
  clear ho4 g12 hg13 hb13 q0
  go_upto_region 14 with (fail)
  change Code.wp Try.prog _ _ _ (w12.alloc (.cells #[.int .i64 0, .slice A4 0 c4, .bool false] 32))
  rw [← hW13, ← hQ4]
  clear hW13 hQ4
  go_wp2_with fail
  go_ret
  exact ⟨rfl, HG13.out⟩
end Go.Proofs.Ytaldgjcbbjjceaa
