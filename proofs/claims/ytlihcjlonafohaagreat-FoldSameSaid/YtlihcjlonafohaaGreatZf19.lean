/- Plain mathematics of values: which operations there are in a cut, in the order of members and in the document's order; what elements a value has. Places (an operation of a transaction) as the document lays them; walks: a place's operation; seen. Tags, as fold keeps them; walks: comparing them; the kinds. -/
import Derived.Test.YtlihcjlonafohaaGreatZf17
import Derived.Test.YtlihcjlonafohaaGreatZf18
import Derived.Test.YtlihcjlonafohaaGreatZf07
import Derived.Test.YtlihcjlonafohaaGreatZf06
namespace Go.Proofs.YtlihcjlonafohaaGreat

/-- A transaction of the cut. -/
def InCut (l : LG) (v : Nat → Nat) (t : TX) : Prop := ∃ i k, i < 8 ∧ k < v i ∧ (l i)[k]? = some t
theorem dTx_mem {key : ByteArray} {t : TX} : ∀ {j : Nat} {x : TX × Nat}, x ∈ dTx key t j ↔ x.1 = t ∧ x.2 < j ∧ ∃ o, t.ops[x.2]? = some o ∧ eqS o.key key = true
  | 0, x => by
    constructor
    · intro h; cases h
    · intro h; exact absurd h.2.1 (Nat.not_lt_zero _)
  | j + 1, x => by
    unfold dTx
    rw [List.mem_append, dTx_mem]
    constructor
    · rintro (⟨h1, h2, h3⟩ | h)
      · exact ⟨h1, by omega, h3⟩
      · split at h
        · next o ho =>
          split at h
          · next hk =>
            obtain rfl := List.mem_singleton.1 h
            exact ⟨rfl, Nat.lt_succ_self _, o, ho, hk⟩
          · cases h
        · cases h
    · rintro ⟨h1, h2, o, h3, h4⟩
      rcases Nat.lt_or_ge x.2 j with c | c
      · exact .inl ⟨h1, c, o, h3, h4⟩
      · have e : x.2 = j := by omega
        refine .inr ?_
        rw [← e, h3]
        simp only [h4, if_true]
        exact List.mem_singleton.2 (by rw [← h1])
theorem insT_mem {t x : TX} {L : List TX} : x ∈ insT t L ↔ x = t ∨ x ∈ L := by
  unfold insT
  have h : x ∈ L ↔ x ∈ L.take (plc t L L.length) ∨ x ∈ L.drop (plc t L L.length) := by
    rw [← List.mem_append, List.take_append_drop]
  rw [List.mem_append, List.mem_cons, h]
  constructor
  · rintro (a | a | a)
    · exact .inr (.inl a)
    · exact .inl a
    · exact .inr (.inr a)
  · rintro (a | a | a)
    · exact .inr (.inl a)
    · exact .inl a
    · exact .inr (.inr a)
theorem ordIn_mem {l : LG} {i : Nat} {acc : List TX} {x : TX} : ∀ {d : Nat}, x ∈ ordIn l i acc d ↔ x ∈ acc ∨ ∃ k, k < d ∧ (l i)[k]? = some x
  | 0 => by
    constructor
    · intro h; exact .inl h
    · rintro (h | ⟨k, hk, _⟩)
      · exact h
      · exact absurd hk (Nat.not_lt_zero _)
  | d + 1 => by
    cases h : (l i)[d]? with
    | none =>
      have e : ordIn l i acc (d + 1) = ordIn l i acc d := by
        show (match (l i)[d]? with | some t => _ | none => _) = _
        rw [h]
      rw [e, ordIn_mem]
      constructor
      · rintro (a | ⟨k, hk, a⟩)
        · exact .inl a
        · exact .inr ⟨k, by omega, a⟩
      · rintro (a | ⟨k, hk, a⟩)
        · exact .inl a
        · refine .inr ⟨k, ?_, a⟩
          rcases Nat.lt_or_ge k d with c | c
          · exact c
          · rw [show k = d by omega, h] at a
            cases a
    | some t =>
      rw [ordIn_at h, insT_mem, ordIn_mem]
      constructor
      · rintro (a | a | ⟨k, hk, a⟩)
        · exact .inr ⟨d, Nat.lt_succ_self _, by rw [h, a]⟩
        · exact .inl a
        · exact .inr ⟨k, by omega, a⟩
      · rintro (a | ⟨k, hk, a⟩)
        · exact .inr (.inl a)
        · rcases Nat.lt_or_ge k d with c | c
          · exact .inr (.inr ⟨k, c, a⟩)
          · rw [show k = d by omega, h] at a
            exact .inl (Option.some.inj a).symm
theorem ordTo_mem {l : LG} {v : Nat → Nat} {x : TX} : ∀ {n : Nat}, x ∈ ordTo l v n ↔ ∃ i k, i < n ∧ k < v i ∧ (l i)[k]? = some x
  | 0 => by
    constructor
    · intro h; cases h
    · rintro ⟨i, k, hi, _⟩; exact absurd hi (Nat.not_lt_zero _)
  | n + 1 => by
    show x ∈ ordIn l n (ordTo l v n) (v n) ↔ _
    rw [ordIn_mem, ordTo_mem]
    constructor
    · rintro (⟨i, k, hi, hk, a⟩ | ⟨k, hk, a⟩)
      · exact ⟨i, k, by omega, hk, a⟩
      · exact ⟨n, k, Nat.lt_succ_self _, hk, a⟩
    · rintro ⟨i, k, hi, hk, a⟩
      rcases Nat.lt_or_ge i n with c | c
      · exact .inl ⟨i, k, c, hk, a⟩
      · have e : i = n := by omega
        subst e
        exact .inr ⟨k, hk, a⟩
theorem ordR_mem {l : LG} {v : Nat → Nat} {x : TX} : x ∈ ordR l v ↔ InCut l v x := by
  unfold ordR InCut
  rw [ordTo_mem]
  constructor
  · rintro ⟨i, k, hi, hk, a⟩
    exact ⟨i, k, hi, by have : mt v (sizeV l) i = min (v i) (sizeV l i) := rfl; omega, a⟩
  · rintro ⟨i, k, hi, hk, a⟩
    have h1 := (List.getElem?_eq_some_iff.1 a).1
    have h2 : mt v (sizeV l) i = min (v i) ((l i).length) := rfl
    exact ⟨i, k, hi, by omega, a⟩
theorem opAt_some {t : TX} {j : Nat} {o : TO} (h : t.ops[j]? = some o) : opAt t j = o := by
  unfold opAt
  rw [List.getD_eq_getElem?_getD, h]
  rfl
end Go.Proofs.YtlihcjlonafohaaGreat
namespace Go.Proofs.YtlihcjlonafohaaGreat
open Go.RowKit Go.Joins
set_option linter.unusedSimpArgs false
set_option linter.unusedVariables false

/-- The cells of a place whose transaction's list is the slice v. -/
abbrev pcs (t : TX) (v : Value) (i : Nat) : Array Value := #[.int .i64 t.origin, .int .u64 (t.seq : Int), .int .u64 (t.stamp : Int), .int .u64 (t.deps 0 : Int), .int .u64 (t.deps 1 : Int), .int .u64 (t.deps 2 : Int), .int .u64 (t.deps 3 : Int), .int .u64 (t.deps 4 : Int), .int .u64 (t.deps 5 : Int), .int .u64 (t.deps 6 : Int), .int .u64 (t.deps 7 : Int), v, .int .i64 (i : Int)]
/-- A place lies here, its transaction's list being the slice v. -/
def PFix (w : World) (b off : Nat) (x : TX × Nat) (v : Value) : Prop := XFix w b off x.1 v ∧ w.cell? ⟨b, off + 12, none⟩ = some (.int .i64 (x.2 : Int))
theorem PFix.gr {w w' : World} {b off : Nat} {x : TX × Nat} {v : Value} (h : PFix w b off x v) (g : Gr w w') : PFix w' b off x v := ⟨h.1.gr g, g.cell h.2⟩
def PCl (w : World) (b off : Nat) (x : TX × Nat) : Prop := ∃ v, TOV w v x.1.ops ∧ PFix w b off x v
theorem PCl.gr {w w' : World} {b off : Nat} {x : TX × Nat} (h : PCl w b off x) (g : Gr w w') : PCl w' b off x := by
  obtain ⟨v, h1, h2⟩ := h
  exact ⟨v, h1.gr g, h2.gr g⟩
theorem pbox (w : World) (x : TX × Nat) (v : Value) : ∃ W, W = w.alloc (.cells (pcs x.1 v x.2) 106) ∧ Gr w W ∧ W.heap[w.heap.size]? = some (.cells (pcs x.1 v x.2) 106 (0, 0)) ∧ PFix W w.heap.size 0 x v := by
  refine ⟨_, rfl, (Gr.refl w).alloc _, heap_alloc _ _ _, ⟨?_, ?_, ?_, ?_, ?_, ?_, ?_, ?_, ?_, ?_, ?_, ?_⟩, ?_⟩ <;> (rw [cell_of_block (heap_alloc w (pcs x.1 v x.2) 106)]; rfl)
/-- The slice value v reads as these places. -/
def PLV (w : World) (v : Value) (L : List (TX × Nat)) : Prop :=
  ∃ A c, v = .slice A L.length c ∧ L.length ≤ c ∧ (c ≤ maxLen ∧ (A = Option.none → c = 0)) ∧ ∀ j (hj : j < L.length), ∃ b off, A = some ⟨b, off, none⟩ ∧ PCl w b (off + j * 13) L[j]
theorem PLV.gr {w w' : World} {v : Value} {L : List (TX × Nat)} (h : PLV w v L) (g : Gr w w') : PLV w' v L := by
  obtain ⟨A, c, hv, h1, h2, h3⟩ := h
  refine ⟨A, c, hv, h1, h2, fun j hj => ?_⟩
  obtain ⟨b, off, ha, hc⟩ := h3 j hj
  exact ⟨b, off, ha, hc.gr g⟩
theorem plv_form {w : World} {v : Value} {L : List (TX × Nat)} (h : PLV w v L) : ∃ A c, v = .slice A L.length c := by
  obtain ⟨A, c, hv, _⟩ := h
  exact ⟨A, c, hv⟩
/-- Did the operation y see the operation x? -/
def seenP (x y : TX × Nat) : Bool := if x.1.origin = y.1.origin ∧ x.1.seq = y.1.seq then decide (x.2 < y.2) else hasB y.1.deps x.1.origin x.1.seq
theorem opAt_get {x : TX × Nat} (h : x.2 < x.1.ops.length) : opAt x.1 x.2 = x.1.ops[x.2] := opAt_some (List.getElem?_eq_getElem h)
set_option maxRecDepth 100000 in
set_option maxHeartbeats 2000000 in
theorem pop_any (x : TX × Nat) (v : Value) (w : World) (hv : TOV w v x.1.ops) (hi : x.2 < x.1.ops.length) :
    Calls Tryz.prog 59 #[.agg (pcs x.1 v x.2)] w fun e w' => e = .returned (.agg (opv (opAt x.1 x.2))) ∧ Gr w w' := by
  obtain ⟨t, i⟩ := x
  obtain ⟨W, hW, hg, hb1, hb2⟩ : ∃ W, W = (w.alloc (.cells (pcs t v i) 106)).alloc (.cells #[.int .i64 0, .string ⟨#[]⟩, .string ⟨#[]⟩, .int .i64 0] 92) ∧ Gr w W ∧ W.heap[w.heap.size]? = some (.cells (pcs t v i) 106 (0, 0)) ∧ W.heap[w.heap.size + 1]? = some (.cells #[.int .i64 0, .string ⟨#[]⟩, .string ⟨#[]⟩, .int .i64 0] 92 (0, 0)) := by
    refine ⟨_, rfl, ((Gr.refl w).alloc _).alloc _, ?_, ?_⟩ <;> (simp only [World.alloc, Array.getElem?_push, Array.size_push]; simp)
  have hop : opAt t i = t.ops[i] := opAt_get (x := (t, i)) hi
  have hi : i < t.ops.length := hi
  obtain ⟨A, c, rfl, hnc, -, hat⟩ := hv.gr hg
  obtain ⟨b, off, rfl, c0, c1, c2, c3⟩ := hat i hi
  rw [← hop] at c0 c1 c2 c3
  show Calls _ _ _ _ fun e w' => e = .returned (.agg (opv (opAt t i))) ∧ _
  obtain ⟨o, ho⟩ : ∃ o, o = opAt t i := ⟨_, rfl⟩
  rw [← ho] at c0 c1 c2 c3 ⊢
  obtain ⟨n, hn⟩ : ∃ x, x = t.ops.length := ⟨_, rfl⟩
  rw [← hn] at hb1 hW ⊢
  have hi1 : (i : Int) < (n : Int) := by omega
  have hi0 : (0 : Int) ≤ (i : Int) := by omega
  have q0 : W.cell? ⟨w.heap.size, 11, none⟩ = some (.slice (some ⟨b, off, none⟩) n c) := by rw [cell_of_block hb1]; rfl
  have q1 : W.cell? ⟨w.heap.size, 12, none⟩ = some (.int .i64 (i : Int)) := by rw [cell_of_block hb1]; rfl
  have z0 : W.cell? ⟨w.heap.size + 1, 0, none⟩ = some (.int .i64 0) := by rw [cell_of_block hb2]; rfl
  have z1 : W.cell? ⟨w.heap.size + 1, 1, none⟩ = some (.string ⟨#[]⟩) := by rw [cell_of_block hb2]; rfl
  have z2 : W.cell? ⟨w.heap.size + 1, 2, none⟩ = some (.string ⟨#[]⟩) := by rw [cell_of_block hb2]; rfl
  have z3 : W.cell? ⟨w.heap.size + 1, 3, none⟩ = some (.int .i64 0) := by rw [cell_of_block hb2]; rfl
  have k0 := unfrozen_of_block hb2 0
  have k1 := unfrozen_of_block hb2 1
  have k2 := unfrozen_of_block hb2 2
  have k3 := unfrozen_of_block hb2 3
  have HG := Lib.hid hg
  clear hg hb1 hb2 hop hi hnc hat ho hn
  go_enter Tryz.func59, Tryz.ntmps59
  go_upto_region 1 with (fail)
  rw [← hW]
  clear hW
  go_wp2_with fail
  refine bodyPost_ret (v := .agg (opv o)) (by simp [results, Tryz.results59, go_sem, *]) rfl ⟨rfl, ?_⟩
  show Gr w ((((W.setCell _ _).setCell _ _).setCell _ _).setCell _ _)
  exact (((HG.out.setCell (Nat.le_succ _) _).setCell (Nat.le_succ _) _).setCell (Nat.le_succ _) _).setCell (Nat.le_succ _) _
set_option maxRecDepth 100000 in
set_option maxHeartbeats 4000000 in
theorem seen10_any (x y : TX × Nat) (vx vy : Value) (w : World) :
    Calls Tryz.prog 103 #[.agg (pcs x.1 vx x.2), .agg (pcs y.1 vy y.2)] w fun e w' => e = .returned (.bool (seenP x y)) ∧ Gr w w' := by
  obtain ⟨W, hW, hg, hb1, hb2⟩ : ∃ W, W = (w.alloc (.cells (pcs x.1 vx x.2) 106)).alloc (.cells (pcs y.1 vy y.2) 106) ∧ Gr w W ∧ W.heap[w.heap.size]? = some (.cells (pcs x.1 vx x.2) 106 (0, 0)) ∧ W.heap[w.heap.size + 1]? = some (.cells (pcs y.1 vy y.2) 106 (0, 0)) := by
    refine ⟨_, rfl, ((Gr.refl w).alloc _).alloc _, ?_, ?_⟩ <;> (simp only [World.alloc, Array.getElem?_push, Array.size_push]; simp)
  obtain ⟨x, i⟩ := x
  obtain ⟨y, j⟩ := y
  simp only at hW hb1 hb2 ⊢
  have HH := Lib.hid (fun w1 => rhas_any y.deps x.origin x.seq w1)
  obtain ⟨xo, hxo⟩ : ∃ a, a = x.origin := ⟨_, rfl⟩
  obtain ⟨xq, hxq⟩ : ∃ a, a = x.seq := ⟨_, rfl⟩
  obtain ⟨yo, hyo⟩ : ∃ a, a = y.origin := ⟨_, rfl⟩
  obtain ⟨yq, hyq⟩ : ∃ a, a = y.seq := ⟨_, rfl⟩
  obtain ⟨r, hr⟩ : ∃ r, r = seenP (x, i) (y, j) := ⟨_, rfl⟩
  have HR : Hid (r = if xo = yo ∧ xq = yq then decide (i < j) else hasB y.deps xo xq) := Lib.hid (by rw [hr, hxo, hyo, hxq, hyq]; rfl)
  rw [← hr]
  rw [← hxo, ← hxq] at HH
  have x0 : W.cell? ⟨w.heap.size, 0, none⟩ = some (.int .i64 xo) := by rw [cell_of_block hb1, hxo]; rfl
  have x1 : W.cell? ⟨w.heap.size, 1, none⟩ = some (.int .u64 (xq : Int)) := by rw [cell_of_block hb1, hxq]; rfl
  have x12 : W.cell? ⟨w.heap.size, 12, none⟩ = some (.int .i64 (i : Int)) := by rw [cell_of_block hb1]; rfl
  have y0 : W.cell? ⟨w.heap.size + 1, 0, none⟩ = some (.int .i64 yo) := by rw [cell_of_block hb2, hyo]; rfl
  have y1 : W.cell? ⟨w.heap.size + 1, 1, none⟩ = some (.int .u64 (yq : Int)) := by rw [cell_of_block hb2, hyq]; rfl
  have y12 : W.cell? ⟨w.heap.size + 1, 12, none⟩ = some (.int .i64 (j : Int)) := by rw [cell_of_block hb2]; rfl
  have d3 : W.cell? ⟨w.heap.size + 1, 3, none⟩ = some (.int .u64 (y.deps 0 : Int)) := by rw [cell_of_block hb2]; rfl
  have d4 : W.cell? ⟨w.heap.size + 1, 4, none⟩ = some (.int .u64 (y.deps 1 : Int)) := by rw [cell_of_block hb2]; rfl
  have d5 : W.cell? ⟨w.heap.size + 1, 5, none⟩ = some (.int .u64 (y.deps 2 : Int)) := by rw [cell_of_block hb2]; rfl
  have d6 : W.cell? ⟨w.heap.size + 1, 6, none⟩ = some (.int .u64 (y.deps 3 : Int)) := by rw [cell_of_block hb2]; rfl
  have d7 : W.cell? ⟨w.heap.size + 1, 7, none⟩ = some (.int .u64 (y.deps 4 : Int)) := by rw [cell_of_block hb2]; rfl
  have d8 : W.cell? ⟨w.heap.size + 1, 8, none⟩ = some (.int .u64 (y.deps 5 : Int)) := by rw [cell_of_block hb2]; rfl
  have d9 : W.cell? ⟨w.heap.size + 1, 9, none⟩ = some (.int .u64 (y.deps 6 : Int)) := by rw [cell_of_block hb2]; rfl
  have d10 : W.cell? ⟨w.heap.size + 1, 10, none⟩ = some (.int .u64 (y.deps 7 : Int)) := by rw [cell_of_block hb2]; rfl
  have HG := Lib.hid hg
  clear hg hb1 hb2 hxo hxq hyo hyq hr
  by_cases ho : xo = yo
  · by_cases hq : xq = yq
    · have HE : Hid (r = decide (i < j)) := Lib.hid (by rw [HR.out, if_pos ⟨ho, hq⟩])
      subst ho hq
      by_cases hij : i < j
      · have hij1 : (i : Int) < (j : Int) := by omega
        have hij2 : decide ((i : Int) < (j : Int)) = true := decide_eq_true hij1
        have HE2 : Hid (r = true) := Lib.hid (by rw [HE.out]; exact decide_eq_true hij)
        clear HR HE
        go_enter Tryz.func103, Tryz.ntmps103
        go_upto_region 1 with (fail)
        rw [← hW]
        clear hW
        go_wp2_with fail
        go_ret
        exact ⟨by rw [HE2.out]; simp [hij], HG.out⟩
      · have hij1 : ¬ (i : Int) < (j : Int) := by omega
        have hij2 : decide ((i : Int) < (j : Int)) = false := decide_eq_false hij1
        have HE2 : Hid (r = false) := Lib.hid (by rw [HE.out]; exact decide_eq_false hij)
        clear HR HE
        go_enter Tryz.func103, Tryz.ntmps103
        go_upto_region 1 with (fail)
        rw [← hW]
        clear hW
        go_wp2_with fail
        go_ret
        exact ⟨by rw [HE2.out]; simp [hij], HG.out⟩
    · have HE : Hid (hasB y.deps xo xq = r) := Lib.hid (by rw [HR.out, if_neg (fun h => hq h.2)])
      rw [HE.out] at HH
      subst ho
      have hq1 : ¬ ((xq : Int) = (yq : Int)) := by omega
      have hq2 : ((xq : Int) == (yq : Int)) = false := beq_eq_false_iff_ne.2 hq1
      clear HR HE
      go_enter Tryz.func103, Tryz.ntmps103
      go_upto_region 1 with (fail)
      rw [← hW]
      clear hW
      go_wp2_with fail
      refine (HH.out _).mono ?_
      rintro e w2 ⟨rfl, g2⟩
      clear x0 x1 x12 y0 y1 y12 d3 d4 d5 d6 d7 d8 d9 d10
      go_wp2_with fail
      go_ret
      exact ⟨rfl, HG.out.trans g2⟩
  · have HE : Hid (hasB y.deps xo xq = r) := Lib.hid (by rw [HR.out, if_neg (fun h => ho h.1)])
    rw [HE.out] at HH
    have ho2 : (xo == yo) = false := beq_eq_false_iff_ne.2 ho
    clear HR HE
    go_enter Tryz.func103, Tryz.ntmps103
    go_upto_region 1 with (fail)
    rw [← hW]
    clear hW
    go_wp2_with fail
    refine (HH.out _).mono ?_
    rintro e w2 ⟨rfl, g2⟩
    clear x0 x1 x12 y0 y1 y12 d3 d4 d5 d6 d7 d8 d9 d10
    go_wp2_with fail
    go_ret
    exact ⟨rfl, HG.out.trans g2⟩
end Go.Proofs.YtlihcjlonafohaaGreat
namespace Go.Proofs.YtlihcjlonafohaaGreat
open Go.RowKit Go.Joins
set_option linter.unusedSimpArgs false
set_option linter.unusedVariables false

/-- A tag. -/
structure TG where
  o : Int
  i : Int
  s : Nat
  e : ByteArray
/-- The cells of a tag. -/
abbrev tgv (t : TG) : Array Value := #[.int .i64 t.o, .int .i64 t.i, .int .u64 (t.s : Int), .string t.e]
/-- A tag lies here. -/
def TGc (w : World) (b off : Nat) (t : TG) : Prop := w.cell? ⟨b, off, none⟩ = some (.int .i64 t.o) ∧ w.cell? ⟨b, off + 1, none⟩ = some (.int .i64 t.i) ∧ w.cell? ⟨b, off + 2, none⟩ = some (.int .u64 (t.s : Int)) ∧ w.cell? ⟨b, off + 3, none⟩ = some (.string t.e)
theorem TGc.gr {w w' : World} {b off : Nat} {t : TG} (h : TGc w b off t) (g : Gr w w') : TGc w' b off t := ⟨g.cell h.1, g.cell h.2.1, g.cell h.2.2.1, g.cell h.2.2.2⟩
theorem tgbox (w : World) (t : TG) : ∃ W, W = w.alloc (.cells (tgv t) 37) ∧ Gr w W ∧ TGc W w.heap.size 0 t := by
  refine ⟨_, rfl, (Gr.refl w).alloc _, ?_, ?_, ?_, ?_⟩ <;> (rw [cell_of_block (heap_alloc w (tgv t) 37)]; rfl)
/-- As order tells. -/
def ordG (x y : TG) : Int := orL [cmpZ x.o y.o, cmpZ x.s y.s, cmpZ x.i y.i]
/-- What the region of order reads. -/
structure OG (w0 : World) (A B : Nat) (x y : TG) (w : World) : Prop where
  at' : ∃ q, w = w0.drewN q
  a : TGc w A 0 x
  b : TGc w B 0 y
theorem OG.drew {w0 : World} {A B : Nat} {x y : TG} (h : OG w0 A B x y w0) : OG w0 A B x y w0.drew := by
  have g : Gr w0 w0.drew := (Gr.refl w0).drew
  exact ⟨⟨1, rfl⟩, h.a.gr g, h.b.gr g⟩
set_option maxRecDepth 100000 in
set_option maxHeartbeats 4000000 in
theorem orderG_any (x y : TG) (w : World) :
    Calls Tryz.prog 140 #[.agg (tgv x), .agg (tgv y)] w fun e w' => e = .returned (.int .i64 (ordG x y)) ∧ Gr w w' := by
  obtain ⟨W1, hW1, hg1, h1⟩ := tgbox w x
  obtain ⟨W, hW, hg2, h2⟩ := tgbox W1 y
  have hs : W1.heap.size = w.heap.size + 1 := by rw [hW1]; simp
  rw [hs] at h2
  have hg := hg1.trans hg2
  have HOG : Hid (OG W w.heap.size (w.heap.size + 1) x y W) := Lib.hid ⟨⟨0, rfl⟩, h1.gr hg2, h2⟩
  have HG := Lib.hid hg
  rw [hW1] at hW
  obtain ⟨c1, hc1⟩ : ∃ z, z = cmpZ x.o y.o := ⟨_, rfl⟩
  obtain ⟨c2, hc2⟩ : ∃ z, z = cmpZ x.s y.s := ⟨_, rfl⟩
  obtain ⟨c3, hc3⟩ : ∃ z, z = cmpZ x.i y.i := ⟨_, rfl⟩
  have HR : Hid (ordG x y = orL [c1, c2, c3]) := Lib.hid (by rw [hc1, hc2, hc3]; rfl)
  have C1 := Lib.hid (fun w1 => cmp_int x.o y.o w1)
  have C2 := Lib.hid (fun w1 => cmp_u64 (x.s : Int) (y.s : Int) w1)
  have C3 := Lib.hid (fun w1 => cmp_int x.i y.i w1)
  rw [← hc1] at C1
  rw [← hc2] at C2
  rw [← hc3] at C3
  obtain ⟨r, hr⟩ : ∃ r, r = ordG x y := ⟨_, rfl⟩
  rw [← hr] at HR ⊢
  clear hg h1 h2 hc1 hc2 hc3 hr hg1 hg2 hs hW1
  go_enter Tryz.func140, Tryz.ntmps140
  go_upto_region 1 with (fail)
  rw [← hW]
  clear hW
  refine qTail 15 (fun w' => OG W w.heap.size (w.heap.size + 1) x y w') (by kernel_rfl) (by kernel_rfl) HOG.out.drew ?_
  simp only [List.take_succ_cons, List.take_zero, List.drop_succ_cons, List.drop_zero]
  iterate 4
    refine qTake (by kernel_rfl) ?_
    apply Exists.intro
    refine ⟨fun wq hq => ?_, ?_⟩
    · go_light
      obtain ⟨-, ⟨a0, a1, a2, a3⟩, ⟨b0, b1, b2, b3⟩⟩ := hq
      go_simp
      try with_reducible rfl
      done
    try simp only [Act.put, List.setIfInBounds_toArray, List.set_cons_zero, List.set_cons_succ]
  refine qCall (by kernel_rfl) ?_
  apply Exists.intro
  refine ⟨?_, ?_⟩
  · apply Exists.intro
    apply Exists.intro
    refine ⟨fun wq => ?_, fun wq hq => ?_⟩
    · go_light
      go_simp
      exact ⟨rfl, rfl⟩
    · exact (C1.out wq).mono fun e w'' ⟨he, hw⟩ => ⟨he, by rw [hw]; exact hq⟩
  try simp only [Act.put, List.setIfInBounds_toArray, List.set_cons_zero, List.set_cons_succ]
  iterate 4
    refine qTake (by kernel_rfl) ?_
    apply Exists.intro
    refine ⟨fun wq hq => ?_, ?_⟩
    · go_light
      obtain ⟨-, ⟨a0, a1, a2, a3⟩, ⟨b0, b1, b2, b3⟩⟩ := hq
      go_simp
      try with_reducible rfl
      done
    try simp only [Act.put, List.setIfInBounds_toArray, List.set_cons_zero, List.set_cons_succ]
  refine qCall (by kernel_rfl) ?_
  apply Exists.intro
  refine ⟨?_, ?_⟩
  · apply Exists.intro
    apply Exists.intro
    refine ⟨fun wq => ?_, fun wq hq => ?_⟩
    · go_light
      go_simp
      exact ⟨rfl, rfl⟩
    · exact (C2.out wq).mono fun e w'' ⟨he, hw⟩ => ⟨he, by rw [hw]; exact hq⟩
  try simp only [Act.put, List.setIfInBounds_toArray, List.set_cons_zero, List.set_cons_succ]
  iterate 4
    refine qTake (by kernel_rfl) ?_
    apply Exists.intro
    refine ⟨fun wq hq => ?_, ?_⟩
    · go_light
      obtain ⟨-, ⟨a0, a1, a2, a3⟩, ⟨b0, b1, b2, b3⟩⟩ := hq
      go_simp
      try with_reducible rfl
      done
    try simp only [Act.put, List.setIfInBounds_toArray, List.set_cons_zero, List.set_cons_succ]
  refine qCall (by kernel_rfl) ?_
  apply Exists.intro
  refine ⟨?_, ?_⟩
  · apply Exists.intro
    apply Exists.intro
    refine ⟨fun wq => ?_, fun wq hq => ?_⟩
    · go_light
      go_simp
      exact ⟨rfl, rfl⟩
    · exact (C3.out wq).mono fun e w'' ⟨he, hw⟩ => ⟨he, by rw [hw]; exact hq⟩
  try simp only [Act.put, List.setIfInBounds_toArray, List.set_cons_zero, List.set_cons_succ]
  refine qNil ?_
  intro w3 hC
  obtain ⟨q, hq⟩ := hC.at'
  have HQ : Hid (Gr w w3) := Lib.hid (by rw [hq]; exact Gr.drewN HG.out q)
  clear hC hq
  obtain ⟨w4, hw4⟩ : ∃ z, z = w3.alloc (.cells #[.int .i64 c1, .int .i64 c2, .int .i64 c3] 3) := ⟨_, rfl⟩
  have HOR := Lib.hid (or_any [c1, c2, c3] w3.heap.size w4 (by show 3 ≤ 1000; decide) (fun j hj => by
    have hb : w4.heap[w3.heap.size]? = some (.cells #[.int .i64 c1, .int .i64 c2, .int .i64 c3] 3 (0, 0)) := by rw [hw4]; exact heap_alloc _ _ _
    rw [cell_of_block hb]
    have hj5 : j < 3 := hj
    match j, hj5 with
    | 0, _ => rfl
    | 1, _ => rfl
    | 2, _ => rfl))
  have HG4 : Hid (Gr w w4) := Lib.hid (by rw [hw4]; exact HQ.out.alloc _)
  rw [hw4] at HOR HG4
  clear hw4
  go_wp2_with fail
  refine HOR.out.mono ?_
  rintro e w5 ⟨rfl, hw5⟩
  have HW5 := Lib.hid hw5
  clear hw5
  go_wp2_with fail
  go_ret
  exact ⟨by rw [HR.out]; rfl, by rw [HW5.out]; exact HG4.out⟩
def knownB (k : Int) : Bool := decide (1 ≤ k) && decide (k ≤ 8)
set_option maxRecDepth 100000 in
theorem known_any (k : Int) (w : World) : Calls Tryz.prog 43 #[.int .i64 k] w fun e w' => e = .returned (.bool (knownB k)) ∧ w' = w := by
  by_cases h1 : 1 ≤ k
  · by_cases h2 : k ≤ 8
    · have HE : Hid (knownB k = true) := Lib.hid (by unfold knownB; rw [decide_eq_true h1, decide_eq_true h2]; rfl)
      go_enter Tryz.func43, Tryz.ntmps43
      go_wp2_with fail
      go_ret
      exact ⟨by rw [HE.out]; rfl, rfl⟩
    · have HE : Hid (knownB k = false) := Lib.hid (by unfold knownB; rw [decide_eq_true h1, decide_eq_false h2]; rfl)
      go_enter Tryz.func43, Tryz.ntmps43
      go_wp2_with fail
      go_ret
      exact ⟨by rw [HE.out]; rfl, rfl⟩
  · have HE : Hid (knownB k = false) := Lib.hid (by unfold knownB; rw [decide_eq_false h1]; rfl)
    go_enter Tryz.func43, Tryz.ntmps43
    go_wp2_with fail
    go_ret
    exact ⟨by rw [HE.out]; rfl, rfl⟩
end Go.Proofs.YtlihcjlonafohaaGreat
