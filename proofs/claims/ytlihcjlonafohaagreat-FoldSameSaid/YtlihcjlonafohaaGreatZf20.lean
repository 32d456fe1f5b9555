/- Deeds of fold in memory; walks: counted, sees, clears, the closure of marked. Walks: clears, the closure of marked, Begin. Rows of tags; walks: slices.IndexFunc and slices.DeleteFunc of tags. Written by wip/tools/genfod.py. -/
import Derived.Test.YtlihcjlonafohaaGreatZf19
import Derived.Laws.Rows
import Derived.Test.YtlihcjlonafohaaGreatZf13
namespace Go.Proofs.YtlihcjlonafohaaGreat
open Go.RowKit Go.Joins
set_option linter.unusedSimpArgs false
set_option linter.unusedVariables false

/-- The cells of a deed: its transaction (whose list is the slice v), its operation, its tag. -/
abbrev decs (t : TX) (v : Value) (o : TO) (g : TG) : Array Value := #[.int .i64 t.origin, .int .u64 (t.seq : Int), .int .u64 (t.stamp : Int), .int .u64 (t.deps 0 : Int), .int .u64 (t.deps 1 : Int), .int .u64 (t.deps 2 : Int), .int .u64 (t.deps 3 : Int), .int .u64 (t.deps 4 : Int), .int .u64 (t.deps 5 : Int), .int .u64 (t.deps 6 : Int), .int .u64 (t.deps 7 : Int), v, .int .i64 o.kind, .string o.key, .string o.elem, .int .i64 o.n, .int .i64 g.o, .int .i64 g.i, .int .u64 (g.s : Int), .string g.e]
/-- A deed's box lies here. -/
def DBox (w : World) (P : Nat) (t : TX) (v : Value) (o : TO) (g : TG) : Prop := w.heap[P]? = some (.cells (decs t v o g) 94 (0, 0))
theorem DBox.gr {w w' : World} {P : Nat} {t : TX} {v : Value} {o : TO} {g : TG} (h : DBox w P t v o g) (gr : Gr w w') : DBox w' P t v o g := gr_obj gr h
theorem fdbox (w : World) (t : TX) (v : Value) (o : TO) (g : TG) : ∃ W, W = w.alloc (.cells (decs t v o g) 94) ∧ Gr w W ∧ DBox W w.heap.size t v o g :=
  ⟨_, rfl, (Gr.refl w).alloc _, heap_alloc _ _ _⟩
theorem DBox.tx {w : World} {P : Nat} {t : TX} {v : Value} {o : TO} {g : TG} (h : DBox w P t v o g) : XFix w P 0 t v := by
  have h : w.heap[P]? = _ := h
  refine ⟨?_, ?_, ?_, ?_, ?_, ?_, ?_, ?_, ?_, ?_, ?_, ?_⟩ <;> (rw [cell_of_block h]; rfl)
theorem DBox.op {w : World} {P : Nat} {t : TX} {v : Value} {o : TO} {g : TG} (h : DBox w P t v o g) : w.cell? ⟨P, 12, none⟩ = some (.int .i64 o.kind) ∧ w.cell? ⟨P, 13, none⟩ = some (.string o.key) ∧ w.cell? ⟨P, 14, none⟩ = some (.string o.elem) ∧ w.cell? ⟨P, 15, none⟩ = some (.int .i64 o.n) := by
  have h : w.heap[P]? = _ := h
  refine ⟨?_, ?_, ?_, ?_⟩ <;> (rw [cell_of_block h]; rfl)
theorem DBox.tg {w : World} {P : Nat} {t : TX} {v : Value} {o : TO} {g : TG} (h : DBox w P t v o g) : w.cell? ⟨P, 16, none⟩ = some (.int .i64 g.o) ∧ w.cell? ⟨P, 17, none⟩ = some (.int .i64 g.i) ∧ w.cell? ⟨P, 18, none⟩ = some (.int .u64 (g.s : Int)) ∧ w.cell? ⟨P, 19, none⟩ = some (.string g.e) := by
  have h : w.heap[P]? = _ := h
  refine ⟨?_, ?_, ?_, ?_⟩ <;> (rw [cell_of_block h]; rfl)
/-- What a deed makes of a number. -/
def cntZ (o : TO) (n : Int) : Int := if o.kind = 1 then wrap64 (n + o.n) else if o.kind = 2 then wrap64 (n - o.n) else n
set_option maxRecDepth 100000 in
set_option maxHeartbeats 2000000 in
theorem counted_any (t : TX) (v : Value) (o : TO) (g : TG) (n : Int) (w : World) : Calls Tryz.prog 93 #[.agg (decs t v o g), .int .i64 n] w fun e w' => e = .returned (.int .i64 (cntZ o n)) ∧ Gr w w' := by
  obtain ⟨W, hW, hg, hb⟩ := fdbox w t v o g
  have HG := Lib.hid hg
  obtain ⟨p0, p1, p2, p3⟩ := hb.op
  obtain ⟨k, hk⟩ : ∃ k, k = o.kind := ⟨_, rfl⟩
  obtain ⟨m, hm⟩ : ∃ k, k = o.n := ⟨_, rfl⟩
  rw [← hk] at p0
  rw [← hm] at p3
  by_cases h1 : k = 1
  · have HE : Hid (cntZ o n = wrap64 (n + m)) := Lib.hid (by unfold cntZ; rw [← hk, if_pos h1, hm])
    subst h1
    clear hg hb hk hm
    go_enter Tryz.func93, Tryz.ntmps93
    go_upto_region 1 with (fail)
    change Code.wp Tryz.prog _ _ _ (w.alloc (.cells (decs t v o g) 94))
    rw [← hW]
    clear hW
    go_wp2_with fail
    go_ret
    exact ⟨by rw [HE.out]; rfl, HG.out⟩
  by_cases h2 : k = 2
  · have HE : Hid (cntZ o n = wrap64 (n - m)) := Lib.hid (by unfold cntZ; rw [← hk, if_neg h1, if_pos h2, hm])
    subst h2
    clear hg hb hk hm h1
    go_enter Tryz.func93, Tryz.ntmps93
    go_upto_region 1 with (fail)
    change Code.wp Tryz.prog _ _ _ (w.alloc (.cells (decs t v o g) 94))
    rw [← hW]
    clear hW
    go_wp2_with fail
    go_ret
    exact ⟨by rw [HE.out]; rfl, HG.out⟩
  have HE : Hid (cntZ o n = n) := Lib.hid (by unfold cntZ; rw [← hk, if_neg h1, if_neg h2])
  have b1 : (k == 1) = false := beq_eq_false_iff_ne.2 h1
  have b2 : (k == 2) = false := beq_eq_false_iff_ne.2 h2
  clear hg hb hk hm
  go_enter Tryz.func93, Tryz.ntmps93
  go_upto_region 1 with (fail)
  change Code.wp Tryz.prog _ _ _ (w.alloc (.cells (decs t v o g) 94))
  rw [← hW]
  clear hW
  go_wp2_with fail
  go_ret
  exact ⟨by rw [HE.out]; rfl, HG.out⟩
/-- Does the deed of this transaction and tag see the tag x? -/
def seesG (t : TX) (g x : TG) : Bool := if x.o = g.o ∧ x.s = g.s then decide (x.i < g.i) else hasB t.deps x.o x.s
set_option maxRecDepth 100000 in
set_option maxHeartbeats 2000000 in
theorem seesG_any (t : TX) (v : Value) (o : TO) (g x : TG) (w : World) : Calls Tryz.prog 178 #[.agg (decs t v o g), .agg (tgv x)] w fun e w' => e = .returned (.bool (seesG t g x)) ∧ Gr w w' := by
  obtain ⟨W1, hW1, hg1, hb1⟩ := fdbox w t v o g
  obtain ⟨W, hW, hg2, hx⟩ := tgbox W1 x
  have hs : W1.heap.size = w.heap.size + 1 := by rw [hW1]; simp
  rw [hs] at hx
  have hb := hb1.gr hg2
  have HG := Lib.hid (hg1.trans hg2)
  rw [hW1] at hW
  obtain ⟨g0, g1, g2, g3⟩ := hb.tg
  obtain ⟨d0, d1, d2, d3, d4, d5, d6, d7, d8, d9, d10, d11⟩ := hb.tx
  obtain ⟨x0, x1, x2, x3⟩ := hx
  simp only [Nat.zero_add] at d0 d1 d2 d3 d4 d5 d6 d7 d8 d9 d10 d11 x0 x1 x2 x3
  have HH := Lib.hid (fun w1 => has_any t.deps x.o x.s w1)
  obtain ⟨go, hgo⟩ : ∃ a, a = g.o := ⟨_, rfl⟩
  obtain ⟨gs, hgs⟩ : ∃ a, a = g.s := ⟨_, rfl⟩
  obtain ⟨gi, hgi⟩ : ∃ a, a = g.i := ⟨_, rfl⟩
  obtain ⟨xo, hxo⟩ : ∃ a, a = x.o := ⟨_, rfl⟩
  obtain ⟨xs, hxs⟩ : ∃ a, a = x.s := ⟨_, rfl⟩
  obtain ⟨xi, hxi⟩ : ∃ a, a = x.i := ⟨_, rfl⟩
  rw [← hgo] at g0
  rw [← hgi] at g1
  rw [← hgs] at g2
  rw [← hxo] at x0 HH
  rw [← hxi] at x1
  rw [← hxs] at x2 HH
  have HS : Hid (seesG t g x = if xo = go ∧ xs = gs then decide (xi < gi) else hasB t.deps xo xs) := Lib.hid (by rw [hxo, hgo, hxs, hgs, hxi, hgi]; rfl)
  clear hg1 hg2 hb1 hb hs hW1 hgo hgs hgi hxo hxs hxi
  by_cases h1 : xo = go
  · by_cases h2 : xs = gs
    · have HE : Hid (seesG t g x = decide (xi < gi)) := Lib.hid (by rw [HS.out, if_pos ⟨h1, h2⟩])
      obtain ⟨r, hr⟩ : ∃ r, r = seesG t g x := ⟨_, rfl⟩
      rw [← hr] at HE ⊢
      subst h1
      subst h2
      clear hr
      by_cases h3 : xi < gi
      · have b3 : decide (xi < gi) = true := decide_eq_true h3
        have HE2 : Hid (r = true) := Lib.hid (by rw [HE.out, b3])
        go_enter Tryz.func178, Tryz.ntmps178
        go_upto_region 1 with (fail)
        change Code.wp Tryz.prog _ _ _ ((w.alloc (.cells (decs t v o g) 94)).alloc (.cells (tgv x) 37))
        rw [← hW]
        clear hW
        go_wp2_with fail
        go_ret
        exact ⟨by rw [HE2.out]; rfl, HG.out⟩
      · have b3 : decide (xi < gi) = false := decide_eq_false h3
        have HE2 : Hid (r = false) := Lib.hid (by rw [HE.out, b3])
        go_enter Tryz.func178, Tryz.ntmps178
        go_upto_region 1 with (fail)
        change Code.wp Tryz.prog _ _ _ ((w.alloc (.cells (decs t v o g) 94)).alloc (.cells (tgv x) 37))
        rw [← hW]
        clear hW
        go_wp2_with fail
        go_ret
        exact ⟨by rw [HE2.out]; rfl, HG.out⟩
    · have HE : Hid (seesG t g x = hasB t.deps xo xs) := Lib.hid (by rw [HS.out, if_neg fun c => h2 c.2])
      have b2 : ¬ (xs : Int) = (gs : Int) := by omega
      have b3 : ((xs : Int) == (gs : Int)) = false := beq_eq_false_iff_ne.2 b2
      subst h1
      rw [HE.out]
      go_enter Tryz.func178, Tryz.ntmps178
      go_upto_region 1 with (fail)
      change Code.wp Tryz.prog _ _ _ ((w.alloc (.cells (decs t v o g) 94)).alloc (.cells (tgv x) 37))
      rw [← hW]
      clear hW
      go_wp2_with fail
      refine (HH.out _).mono ?_
      rintro e w5 ⟨rfl, hw5⟩
      go_wp2_with fail
      go_ret
      exact ⟨rfl, HG.out.trans hw5⟩
  · have HE : Hid (seesG t g x = hasB t.deps xo xs) := Lib.hid (by rw [HS.out, if_neg fun c => h1 c.1])
    have b3 : (xo == go) = false := beq_eq_false_iff_ne.2 h1
    rw [HE.out]
    go_enter Tryz.func178, Tryz.ntmps178
    go_upto_region 1 with (fail)
    change Code.wp Tryz.prog _ _ _ ((w.alloc (.cells (decs t v o g) 94)).alloc (.cells (tgv x) 37))
    rw [← hW]
    clear hW
    go_wp2_with fail
    refine (HH.out _).mono ?_
    rintro e w5 ⟨rfl, hw5⟩
    go_wp2_with fail
    go_ret
    exact ⟨rfl, HG.out.trans hw5⟩
end Go.Proofs.YtlihcjlonafohaaGreat
namespace Go.Proofs.YtlihcjlonafohaaGreat
open Go.RowKit Go.Joins
set_option linter.unusedSimpArgs false
set_option linter.unusedVariables false

/-- Does the deed clear the tag x? -/
def clrG (t : TX) (o : TO) (g x : TG) : Bool := seesG t g x && (decide (o.kind = 6) || eqS o.elem x.e)
set_option maxRecDepth 100000 in
set_option maxHeartbeats 2000000 in
theorem clears_any (t : TX) (n c : Nat) (A : Option Addr) (o : TO) (g x : TG) (w : World) : Calls Tryz.prog 137 #[.agg (decs t (.slice A n c) o g), .agg (tgv x)] w fun e w' => e = .returned (.bool (clrG t o g x)) ∧ Gr w w' := by
  obtain ⟨W1, hW1, hg1, hb1⟩ := fdbox w t (.slice A n c) o g
  obtain ⟨W, hW, hg2, hx⟩ := tgbox W1 x
  have hs : W1.heap.size = w.heap.size + 1 := by rw [hW1]; simp
  rw [hs] at hx
  have hb := hb1.gr hg2
  have HG := Lib.hid (hg1.trans hg2)
  rw [hW1] at hW
  have HB := Lib.hid hb
  have HX := Lib.hid hx
  have HS := Lib.hid (seesG_any t (.slice A n c) o g x W)
  obtain ⟨q, hq⟩ : ∃ q, q = seesG t g x := ⟨_, rfl⟩
  rw [← hq] at HS
  have HC : Hid (clrG t o g x = (q && (decide (o.kind = 6) || eqS o.elem x.e))) := Lib.hid (by rw [hq]; rfl)
  obtain ⟨r, hr⟩ : ∃ r, r = clrG t o g x := ⟨_, rfl⟩
  rw [← hr] at HC ⊢
  obtain ⟨p0, p1, p2, p3⟩ := hb.op
  obtain ⟨x0, x1, x2, x3⟩ := hx
  simp only [Nat.zero_add] at x0 x1 x2 x3
  have hld : W.heap[w.heap.size]? = some (.cells (decs t (.slice A n c) o g) 94 (0, 0)) := hb
  clear hg1 hg2 hb1 hb hs hW1 hq hr
  go_enter Tryz.func137, Tryz.ntmps137
  go_upto_region 1 with (fail)
  change Code.wp Tryz.prog _ _ _ ((w.alloc (.cells (decs t (.slice A n c) o g) 94)).alloc (.cells (tgv x) 37))
  rw [← hW]
  clear hW
  go_wp2_with (refine wpList_load_row rfl 94 (.tmp 2) rfl w.heap.size rfl 94 (decs t (.slice A n c) o g) (0, 0) _ hld Tryz.underlying94 rfl (by kernel_rfl) ?_)
  refine HS.out.mono ?_
  rintro e w2 ⟨rfl, g2'⟩
  have HG2 := Lib.hid (HG.out.trans g2')
  clear p0 p1 p2 p3 hld x0 x1 x2 x3
  obtain ⟨p0, p1, p2, p3⟩ := (HB.out.gr g2').op
  obtain ⟨x0, x1, x2, x3⟩ := HX.out.gr g2'
  simp only [Nat.zero_add] at x0 x1 x2 x3
  clear g2'
  cases q with
  | false =>
    have HE : Hid (r = false) := Lib.hid (by rw [HC.out]; rfl)
    go_wp2_with fail
    go_ret
    exact ⟨by rw [HE.out]; rfl, HG2.out⟩
  | true =>
    obtain ⟨k, hk⟩ : ∃ k, k = o.kind := ⟨_, rfl⟩
    obtain ⟨oe, hoe⟩ : ∃ k, k = o.elem := ⟨_, rfl⟩
    obtain ⟨xe, hxe⟩ : ∃ k, k = x.e := ⟨_, rfl⟩
    rw [← hk] at p0 HC
    rw [← hoe] at p2 HC
    rw [← hxe] at x3 HC
    clear hk hoe hxe
    by_cases h6 : k = 6
    · have HE : Hid (r = true) := Lib.hid (by rw [HC.out, decide_eq_true h6]; rfl)
      subst h6
      go_wp2_with fail
      go_ret
      exact ⟨by rw [HE.out]; rfl, HG2.out⟩
    · have b6 : (k == 6) = false := beq_eq_false_iff_ne.2 h6
      obtain ⟨b, hb⟩ : ∃ b, b = eqS oe xe := ⟨_, rfl⟩
      have HE : Hid (r = b) := Lib.hid (by rw [HC.out, decide_eq_false h6, hb]; rfl)
      have ht : (oe.toList == xe.toList) = b := hb.symm
      clear hb
      cases b with
      | false =>
        go_wp2_with fail
        go_ret
        exact ⟨by rw [HE.out]; rfl, HG2.out⟩
      | true =>
        go_wp2_with fail
        go_ret
        exact ⟨by rw [HE.out]; rfl, HG2.out⟩
/-- Doesn't the tag x stand ahead of the tag g? -/
def geG (x g : TG) : Bool := decide (0 ≤ ordG x g)
set_option maxRecDepth 100000 in
set_option maxHeartbeats 2000000 in
theorem mk1_any (P : Nat) (t : TX) (v : Value) (o : TO) (g x : TG) (w : World) (h : DBox w P t v o g) : Calls Tryz.prog 139 #[.agg (tgv x), .pointer (some ⟨P, 0, none⟩)] w fun e w' => e = .returned (.bool (geG x g)) ∧ Gr w w' := by
  obtain ⟨W, hW, hg, hx⟩ := tgbox w x
  obtain ⟨g0, g1, g2, g3⟩ := (h.gr hg).tg
  obtain ⟨x0, x1, x2, x3⟩ := hx
  simp only [Nat.zero_add] at x0 x1 x2 x3
  have HG := Lib.hid hg
  have HO := Lib.hid (orderG_any x g W)
  obtain ⟨z, hz⟩ : ∃ z, z = ordG x g := ⟨_, rfl⟩
  rw [← hz] at HO
  have HE : Hid (geG x g = decide (0 ≤ z)) := Lib.hid (by rw [hz]; rfl)
  obtain ⟨r, hr⟩ : ∃ r, r = geG x g := ⟨_, rfl⟩
  rw [← hr] at HE ⊢
  clear hg h hz hr
  go_enter Tryz.func139, Tryz.ntmps139
  go_upto_region 1 with (fail)
  change Code.wp Tryz.prog _ _ _ (w.alloc (.cells (tgv x) 37))
  rw [← hW]
  clear hW
  go_wp2_with fail
  refine HO.out.mono ?_
  rintro e w2 ⟨rfl, g2'⟩
  have HG2 := Lib.hid (HG.out.trans g2')
  clear g2' x0 x1 x2 x3 g0 g1 g2 g3
  by_cases h0 : 0 ≤ z
  · have HE2 : Hid (r = true) := Lib.hid (by rw [HE.out, decide_eq_true h0])
    have hd : decide (0 ≤ z) = true := decide_eq_true h0
    go_wp2_with fail
    go_ret
    exact ⟨by rw [HE2.out]; rfl, HG2.out⟩
  · have HE2 : Hid (r = false) := Lib.hid (by rw [HE.out, decide_eq_false h0])
    have hd : decide (0 ≤ z) = false := decide_eq_false h0
    go_wp2_with fail
    go_ret
    exact ⟨by rw [HE2.out]; rfl, HG2.out⟩
end Go.Proofs.YtlihcjlonafohaaGreat
namespace Go.Proofs.YtlihcjlonafohaaGreat
open Go.RowKit Go.Joins
set_option linter.unusedSimpArgs false
set_option linter.unusedVariables false

def gcell (t : TG) : List Value := (tgv t).toList
theorem gcell_len (t : TG) : (gcell t).length = 4 := rfl
def gcells (L : List TG) : List Value := L.flatMap gcell
theorem gcells_len (L : List TG) : (gcells L).length = L.length * 4 := rows_len gcell 4 gcell_len L
theorem gcell_one (t : TG) : ∀ u ∈ gcell t, u.oneCell' = true := by
  intro u hu
  unfold gcell at hu
  simp only [List.mem_cons, List.not_mem_nil, or_false] at hu
  rcases hu with rfl | rfl | rfl | rfl <;> rfl
theorem gcells_one (L : List TG) : ∀ u ∈ gcells L, u.oneCell' = true := by
  intro u hu
  obtain ⟨t, -, h⟩ := List.mem_flatMap.1 hu
  exact gcell_one t u h
/-- The slice v reads as these tags. -/
def GV (w : World) (v : Value) (L : List TG) : Prop :=
  ∃ A c, v = .slice A L.length c ∧ L.length ≤ c ∧ (c ≤ maxLen ∧ (A = Option.none → c = 0)) ∧ ∀ j (hj : j < L.length), ∃ b off, A = some ⟨b, off, none⟩ ∧ TGc w b (off + j * 4) L[j]
theorem GV.gr {w w' : World} {v : Value} {L : List TG} (h : GV w v L) (g : Gr w w') : GV w' v L := by
  obtain ⟨A, c, hv, h1, h2, h3⟩ := h
  refine ⟨A, c, hv, h1, h2, fun j hj => ?_⟩
  obtain ⟨b, off, ha, hc⟩ := h3 j hj
  exact ⟨b, off, ha, hc.gr g⟩
/-- The call owns this row of tags. -/
def GOw (w : World) (B : Nat) (v : Value) (L : List TG) : Prop := w.ownsRow B 37 4 v L.length (gcells L)
theorem GOw.gr {w w' : World} {B : Nat} {v : Value} {L : List TG} (h : GOw w B v L) (g : Gr w w') : GOw w' B v L := own_gr h g
theorem GOw.le {w : World} {B B' : Nat} {v : Value} {L : List TG} (h : GOw w B v L) (hb : B' ≤ B) : GOw w B' v L := own_le h hb
theorem GOw.nil (w : World) (B : Nat) : GOw w B (.slice none 0 0) [] := World.ownsRow_nil w B _ _
theorem GOw.gv {w : World} {B : Nat} {v : Value} {L : List TG} (h : GOw w B v L) : GV w v L := by
  obtain ⟨A, c, hv, h1, ⟨h2, h2'⟩, h3, h4⟩ := own_sl h
  refine ⟨A, c, hv, h1, ⟨h2, h2'⟩, fun j hj => ?_⟩
  have at_ : ∀ r, r < 4 → (gcells L)[j * 4 + r]? = (gcell L[j])[r]? := fun r hr => rows_at gcell 4 gcell_len L j r hj hr
  obtain ⟨b, off, ha, c0⟩ := h4 (j * 4 + 0) _ (at_ 0 (by decide))
  have cc : ∀ r, r < 4 → ∀ u, (gcell L[j])[r]? = some u → w.cell? ⟨b, off + (j * 4 + r), none⟩ = some u := fun r hr u hu => by
    obtain ⟨b', off', ha', c'⟩ := h4 (j * 4 + r) u (by rw [at_ r hr]; exact hu)
    rw [ha] at ha'
    injection ha' with ha'
    injection ha' with e1 e2
    subst e1 e2
    exact c'
  refine ⟨b, off, ha, ?_, ?_, ?_, ?_⟩
  · have := cc 0 (by decide) _ rfl; rw [← Nat.add_assoc] at this; exact this
  all_goals rw [Nat.add_assoc]
  · exact cc 1 (by decide) _ rfl
  · exact cc 2 (by decide) _ rfl
  · exact cc 3 (by decide) _ rfl
theorem infoTag : (Tryz.prog.info? 37).map (fun i => (i.zero, i.size, i.bytes)) = some (some (.agg #[.int .i64 0, .int .i64 0, .int .u64 0, .string ⟨#[]⟩]), 4, 40) := by kernel_rfl
/-- The predicate by its contract: in a class of worlds that keeps when the row's block is written. -/
structure PrG (B : Nat) (dv : Value) (p : TG → Bool) (C : World → Prop) (L : List TG) : Prop where
  kp : ∀ w w' g, C w → Kp (some g) w w' → B ≤ g → C w'
  gr : ∀ w w', C w → Gr w w' → C w'
  call : ∀ d ∈ L, ∀ w, C w → Calls Tryz.prog 137 #[dv, .agg (tgv d)] w fun e w' => e = .returned (.bool (p d)) ∧ Gr w w'
/-- Where the first stand stands that the cut counts. -/
def gckN (p : TG → Bool) (L : List TG) : Nat := L.findIdx fun c => p c
def gckI (p : TG → Bool) (L : List TG) : Int := if gckN p L < L.length then (gckN p L : Int) else -1
theorem gckI_at {p : TG → Bool} {L : List TG} {k : Nat} (hk : k < L.length) (h : p L[k] = true) (hall : ∀ j (hj : j < L.length), j < k → p L[j] = false) : gckI p L = (k : Int) ∧ gckN p L = k := by
  have e : gckN p L = k := by
    unfold gckN
    rw [List.findIdx_eq hk]
    exact ⟨h, fun j hj => hall j (by omega) hj⟩
  unfold gckI
  rw [e, if_pos hk]
  exact ⟨rfl, rfl⟩
theorem gckI_none {p : TG → Bool} {L : List TG} (hall : ∀ j (hj : j < L.length), p L[j] = false) : gckI p L = -1 := by
  have e : gckN p L = L.length := by
    unfold gckN
    rw [List.findIdx_eq_length]
    intro x hx
    obtain ⟨i, hi, rfl⟩ := List.mem_iff_getElem.1 hx
    exact hall i hi
  unfold gckI
  rw [e, if_neg (Nat.lt_irrefl _)]
section
variable {w : World} {B g n c : Nat} {L : List TG}
theorem GOw.len (h : GOw w B (.slice (some ⟨g, 0, none⟩) n c) L) : n = L.length ∧ L.length ≤ c ∧ c ≤ 9223372036854775807 ∧ B ≤ g ∧ g < w.heap.size := by
  rcases h.2 with ⟨hh, _⟩ | ⟨g', cap', cur, hh, hb, hg, hn, hm, _⟩
  · cases hh
  · injection hh with h1 h2 h3
    injection h1 with h1
    injection h1 with h1
    subst h1 h2 h3
    exact ⟨rfl, hn, hm, hb, (Array.getElem?_eq_some_iff.1 hg).1⟩
theorem GOw.free (h : GOw w B (.slice (some ⟨g, 0, none⟩) n c) L) (j : Nat) : w.frozen? ⟨g, j, none⟩ = false := by
  obtain ⟨rfl, _⟩ := h.len
  exact h.frozenAt j
theorem GOw.addr {v : Value} (h : GOw w B v L) {i : Nat} (hi : i < L.length) : ∃ g c, v = .slice (some ⟨g, 0, none⟩) L.length c := by
  obtain ⟨g, c, hv, _⟩ := World.ownsRow.form h (by omega)
  exact ⟨g, c, hv⟩
theorem GOw.store (h : GOw w B (.slice (some ⟨g, 0, none⟩) n c) L) {i r : Nat} (hi : i < L.length) (hr : r < 4) (f : TG) (u : Value) (hf : gcell f = (gcell L[i]).set r u) :
    GOw (w.setCell ⟨g, i * 4 + r, none⟩ u) B (.slice (some ⟨g, 0, none⟩) n c) (L.set i f) := by
  obtain ⟨rfl, _⟩ := h.len
  obtain ⟨h1, _⟩ := World.ownsRow.stored (h : w.ownsRow B 37 4 (.slice (some ⟨g, 0, none⟩) L.length c) L.length (gcells L)) (i * 4 + r) u
  unfold GOw
  rw [List.length_set]
  have : gcells (L.set i f) = (gcells L).set (i * 4 + r) u := (rows_set gcell 4 gcell_len L i r hi hr f u hf).symm
  rw [this]
  exact h1
theorem GOw.put4 (h : GOw w B (.slice (some ⟨g, 0, none⟩) n c) L) {i : Nat} (hi : i < L.length) (f : TG) :
    GOw ((((w.setCell ⟨g, i * 4, none⟩ (.int .i64 f.o)).setCell ⟨g, i * 4 + 1, none⟩ (.int .i64 f.i)).setCell ⟨g, i * 4 + 2, none⟩ (.int .u64 (f.s : Int))).setCell ⟨g, i * 4 + 3, none⟩ (.string f.e)) B (.slice (some ⟨g, 0, none⟩) n c) (L.set i f) := by
  have h1 := h.store hi (r := 0) (by decide) ⟨f.o, L[i].i, L[i].s, L[i].e⟩ (.int .i64 f.o) rfl
  have h2 := h1.store (i := i) (by rw [List.length_set]; exact hi) (r := 1) (by decide) ⟨f.o, f.i, L[i].s, L[i].e⟩ (.int .i64 f.i) (by rw [List.getElem_set_self]; rfl)
  rw [List.set_set] at h2
  have h3 := h2.store (i := i) (by rw [List.length_set]; exact hi) (r := 2) (by decide) ⟨f.o, f.i, f.s, L[i].e⟩ (.int .u64 (f.s : Int)) (by rw [List.getElem_set_self]; rfl)
  rw [List.set_set] at h3
  have h4 := h3.store (i := i) (by rw [List.length_set]; exact hi) (r := 3) (by decide) f (.string f.e) (by rw [List.getElem_set_self]; rfl)
  rw [List.set_set] at h4
  exact h4
theorem GOw.at_ (h : GOw w B (.slice (some ⟨g, 0, none⟩) n c) L) {i : Nat} (hi : i < L.length) : w.cell? ⟨g, i * 4, none⟩ = some (.int .i64 L[i].o) ∧ w.cell? ⟨g, i * 4 + 1, none⟩ = some (.int .i64 L[i].i) ∧ w.cell? ⟨g, i * 4 + 2, none⟩ = some (.int .u64 (L[i].s : Int)) ∧ w.cell? ⟨g, i * 4 + 3, none⟩ = some (.string L[i].e) := by
  obtain ⟨A, c', hv, _, _, hc⟩ := h.gv
  obtain ⟨b, off, ha, q0, q1, q2, q3⟩ := hc i hi
  injection hv with e1
  rw [← e1] at ha
  injection ha with ha
  injection ha with a1 a2
  subst a1 a2
  rw [Nat.zero_add] at q0 q1 q2 q3
  exact ⟨q0, q1, q2, q3⟩
end
def IGRel (p : TG → Bool) (L : List TG) (w : World) (i : Value) (wr : World) : Prop :=
  ∃ k : Nat, k ≤ L.length ∧ i = .int .i64 (k : Int) ∧ Gr w wr ∧ ∀ j (hj : j < L.length), j < k → p L[j] = false
set_option maxRecDepth 100000 in
set_option maxHeartbeats 1000000 in
theorem indexG_any (v : Value) (L : List TG) (B : Nat) (dv : Value) (p : TG → Bool) (C : World → Prop) (w : World) (hv : GOw w B v L) (hp : PrG B dv p C L) (hc : C w) :
    Calls Tryz.prog 138 #[v, .func (.func 137) #[dv] #[]] w fun e w' => e = .returned (.int .i64 (gckI p L)) ∧ Gr w w' := by
  obtain ⟨A, c, hva, hnc, hc63⟩ := own_form hv
  subst hva
  have HV := Lib.hid hv
  have HP := Lib.hid hp
  have HCC := Lib.hid hc
  obtain ⟨n, hn⟩ : ∃ n, n = L.length := ⟨_, rfl⟩
  rw [← hn] at HV hnc ⊢
  have HN := Lib.hid hn
  clear hv hn hp hc
  go_enter Tryz.func138, Tryz.ntmps138
  go_wp2_with fail
  go_loopw [8] (fun i wr => IGRel p L w i wr) (fun i _ => n - (intOf i).toNat)
  case atStart => exact ⟨0, Nat.zero_le _, rfl, Gr.refl _, fun j _ h => absurd h (Nat.not_lt_zero _)⟩
  case round =>
    obtain ⟨k, hk, rfl, hgr, hall⟩ := hrel
    rw [← HN.out] at hk
    have HAL := Lib.hid hall
    clear hall
    by_cases hlt : k < n
    · have hkM : k < L.length := by rw [← HN.out]; exact hlt
      obtain ⟨g, cc, hvv⟩ := HV.out.addr hkM
      injection hvv with h1 h2 h3
      subst h1 h3
      clear h2
      obtain ⟨q0, q1, q2, q3⟩ := HV.out.at_ hkM
      have c0 := hgr.cell q0
      have c1' := hgr.cell q1
      have c2 := hgr.cell q2
      have c3 := hgr.cell q3
      obtain ⟨f, hf⟩ : ∃ f, f = L[k] := ⟨_, rfl⟩
      rw [← hf] at c0 c1' c2 c3
      have HF := Lib.hid hf
      have hmem : f ∈ L := by rw [hf]; exact List.getElem_mem hkM
      have HC := Lib.hid (HP.out.call f hmem wr (HP.out.gr _ _ HCC.out hgr))
      rcases hq : p f with _ | _
      · rw [hq] at HC
        have HA2 : Hid (∀ j (hj : j < L.length), j < k + 1 → p L[j] = false) := Lib.hid fun j hj hjk => by
          by_cases e : j = k
          · subst e; rw [← HF.out]; exact hq
          · exact HAL.out j hj (by omega)
        clear hq hf q0 q1 q2 q3 hmem
        go_wp2_with fail
        refine HC.out.mono ?_
        rintro e w1 ⟨rfl, g1⟩
        go_wp2_with fail
        go_roundw
        case rel => exact ⟨k + 1, by rw [← HN.out]; omega, by go_num, hgr.trans g1, HA2.out⟩
        case measure => simp [intOf]; omega
      · rw [hq] at HC
        have HI := Lib.hid (gckI_at hkM (by rw [← HF.out]; exact hq) HAL.out).1
        clear hq hf q0 q1 q2 q3 hmem
        go_wp2_with fail
        refine HC.out.mono ?_
        rintro e w1 ⟨rfl, g1⟩
        go_wp2_with fail
        go_ret
        exact ⟨by rw [HI.out]; rfl, hgr.trans g1⟩
    · have HI := Lib.hid (gckI_none (p := p) (L := L) (fun j hj => HAL.out j hj (by rw [← HN.out] at hj; omega)))
      go_wp2_with fail
      go_ret
      exact ⟨by rw [HI.out]; rfl, hgr⟩
structure PrM (P : Nat) (p : TG → Bool) (C : World → Prop) (L : List TG) : Prop where
  gr : ∀ w w', C w → Gr w w' → C w'
  call : ∀ d ∈ L, ∀ w, C w → Calls Tryz.prog 139 #[.agg (tgv d), .pointer (some ⟨P, 0, none⟩)] w fun e w' => e = .returned (.bool (p d)) ∧ Gr w w'
set_option maxRecDepth 100000 in
set_option maxHeartbeats 1000000 in
theorem indexM_any (v : Value) (L : List TG) (B P : Nat) (p : TG → Bool) (C : World → Prop) (w : World) (hv : GOw w B v L) (hp : PrM P p C L) (hc : C w) :
    Calls Tryz.prog 138 #[v, .func (.func 139) #[] #[.pointer (some ⟨P, 0, none⟩)]] w fun e w' => e = .returned (.int .i64 (gckI p L)) ∧ Gr w w' := by
  obtain ⟨A, c, hva, hnc, hc63⟩ := own_form hv
  subst hva
  have HV := Lib.hid hv
  have HP := Lib.hid hp
  have HCC := Lib.hid hc
  obtain ⟨n, hn⟩ : ∃ n, n = L.length := ⟨_, rfl⟩
  rw [← hn] at HV hnc ⊢
  have HN := Lib.hid hn
  clear hv hn hp hc
  go_enter Tryz.func138, Tryz.ntmps138
  go_wp2_with fail
  go_loopw [8] (fun i wr => IGRel p L w i wr) (fun i _ => n - (intOf i).toNat)
  case atStart => exact ⟨0, Nat.zero_le _, rfl, Gr.refl _, fun j _ h => absurd h (Nat.not_lt_zero _)⟩
  case round =>
    obtain ⟨k, hk, rfl, hgr, hall⟩ := hrel
    rw [← HN.out] at hk
    have HAL := Lib.hid hall
    clear hall
    by_cases hlt : k < n
    · have hkM : k < L.length := by rw [← HN.out]; exact hlt
      obtain ⟨g, cc, hvv⟩ := HV.out.addr hkM
      injection hvv with h1 h2 h3
      subst h1 h3
      clear h2
      obtain ⟨q0, q1, q2, q3⟩ := HV.out.at_ hkM
      have c0 := hgr.cell q0
      have c1' := hgr.cell q1
      have c2 := hgr.cell q2
      have c3 := hgr.cell q3
      obtain ⟨f, hf⟩ : ∃ f, f = L[k] := ⟨_, rfl⟩
      rw [← hf] at c0 c1' c2 c3
      have HF := Lib.hid hf
      have hmem : f ∈ L := by rw [hf]; exact List.getElem_mem hkM
      have HC := Lib.hid (HP.out.call f hmem wr (HP.out.gr _ _ HCC.out hgr))
      rcases hq : p f with _ | _
      · rw [hq] at HC
        have HA2 : Hid (∀ j (hj : j < L.length), j < k + 1 → p L[j] = false) := Lib.hid fun j hj hjk => by
          by_cases e : j = k
          · subst e; rw [← HF.out]; exact hq
          · exact HAL.out j hj (by omega)
        clear hq hf q0 q1 q2 q3 hmem
        go_wp2_with fail
        refine HC.out.mono ?_
        rintro e w1 ⟨rfl, g1⟩
        go_wp2_with fail
        go_roundw
        case rel => exact ⟨k + 1, by rw [← HN.out]; omega, by go_num, hgr.trans g1, HA2.out⟩
        case measure => simp [intOf]; omega
      · rw [hq] at HC
        have HI := Lib.hid (gckI_at hkM (by rw [← HF.out]; exact hq) HAL.out).1
        clear hq hf q0 q1 q2 q3 hmem
        go_wp2_with fail
        refine HC.out.mono ?_
        rintro e w1 ⟨rfl, g1⟩
        go_wp2_with fail
        go_ret
        exact ⟨by rw [HI.out]; rfl, hgr.trans g1⟩
    · have HI := Lib.hid (gckI_none (p := p) (L := L) (fun j hj => HAL.out j hj (by rw [← HN.out] at hj; omega)))
      go_wp2_with fail
      go_ret
      exact ⟨by rw [HI.out]; rfl, hgr⟩
end Go.Proofs.YtlihcjlonafohaaGreat
