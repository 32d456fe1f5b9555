/- Texts FoC, FoD, FoE, joined. -/
import Derived.Test.YtlihcjlonafohaaG23
import Derived.Laws.Rows
import Derived.Test.YtlihcjlonafohaaG15
/- Walks: clears, the closure of marked, Begin. -/
namespace Go.Proofs.Ytlihcjlonafohaa
open Go.RowKit Go.Joins
set_option linter.unusedSimpArgs false
set_option linter.unusedVariables false

/-- Does the deed clear the tag x? -/
def clrG (t : TX) (o : TO) (g x : TG) : Bool := seesG t g x && (decide (o.kind = 6) || eqS o.elem x.e)
set_option maxRecDepth 100000 in
set_option maxHeartbeats 2000000 in
theorem clears_any (t : TX) (n c : Nat) (A : Option Addr) (o : TO) (g x : TG) (w : World) : Calls Try.prog 51 #[.agg (decs t (.slice A n c) o g), .agg (tgv x)] w fun e w' => e = .returned (.bool (clrG t o g x)) ∧ Gr w w' := by
  obtain ⟨W1, hW1, hg1, hb1⟩ := fdbox w t (.slice A n c) o g
  obtain ⟨W, hW, hg2, hx⟩ := tgbox W1 x
  have hs : W1.heap.size = w.heap.size + 1 := by rw [hW1]; simp
  rw [hs] at hx
  have hb := hb1.gr hg2
  have HG := Lib.hid (hg1.trans hg2)
  rw [hW1] at hW
  have HB := Lib.hid hb
  have HX := Lib.hid hx
  have HS := Lib.hid (seesG_any t (.slice A n c) o g x W)
  obtain ⟨q, hq⟩ : ∃ q, q = seesG t g x := ⟨_, rfl⟩
  rw [← hq] at HS
  have HC : Hid (clrG t o g x = (q && (decide (o.kind = 6) || eqS o.elem x.e))) := Lib.hid (by rw [hq]; rfl)
  obtain ⟨r, hr⟩ : ∃ r, r = clrG t o g x := ⟨_, rfl⟩
  rw [← hr] at HC ⊢
  obtain ⟨p0, p1, p2, p3⟩ := hb.op
  obtain ⟨x0, x1, x2, x3⟩ := hx
  simp only [Nat.zero_add] at x0 x1 x2 x3
  have hld : W.heap[w.heap.size]? = some (.cells (decs t (.slice A n c) o g) 62 (0, 0)) := hb
  clear hg1 hg2 hb1 hb hs hW1 hq hr
  go_enter Try.func51, Try.ntmps51
  go_upto_region 1 with (fail)
  change Code.wp Try.prog _ _ _ ((w.alloc (.cells (decs t (.slice A n c) o g) 62)).alloc (.cells (tgv x) 36))
  rw [← hW]
  clear hW
  go_wp2_with (refine wpList_load_row rfl 62 (.tmp 2) rfl w.heap.size rfl 62 (decs t (.slice A n c) o g) (0, 0) _ hld Try.underlying62 rfl (by kernel_rfl) ?_)
  refine HS.out.mono ?_
  rintro e w2 ⟨rfl, g2'⟩
  have HG2 := Lib.hid (HG.out.trans g2')
  clear p0 p1 p2 p3 hld x0 x1 x2 x3
  obtain ⟨p0, p1, p2, p3⟩ := (HB.out.gr g2').op
  obtain ⟨x0, x1, x2, x3⟩ := HX.out.gr g2'
  simp only [Nat.zero_add] at x0 x1 x2 x3
  clear g2'
  cases q with
  | false =>
    have HE : Hid (r = false) := Lib.hid (by rw [HC.out]; rfl)
    go_wp2_with fail
    go_ret
    exact ⟨by rw [HE.out]; rfl, HG2.out⟩
  | true =>
    obtain ⟨k, hk⟩ : ∃ k, k = o.kind := ⟨_, rfl⟩
    obtain ⟨oe, hoe⟩ : ∃ k, k = o.elem := ⟨_, rfl⟩
    obtain ⟨xe, hxe⟩ : ∃ k, k = x.e := ⟨_, rfl⟩
    rw [← hk] at p0 HC
    rw [← hoe] at p2 HC
    rw [← hxe] at x3 HC
    clear hk hoe hxe
    by_cases h6 : k = 6
    · have HE : Hid (r = true) := Lib.hid (by rw [HC.out, decide_eq_true h6]; rfl)
      subst h6
      go_wp2_with fail
      go_ret
      exact ⟨by rw [HE.out]; rfl, HG2.out⟩
    · have b6 : (k == 6) = false := beq_eq_false_iff_ne.2 h6
      obtain ⟨b, hb⟩ : ∃ b, b = eqS oe xe := ⟨_, rfl⟩
      have HE : Hid (r = b) := Lib.hid (by rw [HC.out, decide_eq_false h6, hb]; rfl)
      have ht : (oe.toList == xe.toList) = b := hb.symm
      clear hb
      cases b with
      | false =>
        go_wp2_with fail
        go_ret
        exact ⟨by rw [HE.out]; rfl, HG2.out⟩
      | true =>
        go_wp2_with fail
        go_ret
        exact ⟨by rw [HE.out]; rfl, HG2.out⟩
/-- Doesn't the tag x stand ahead of the tag g? -/
def geG (x g : TG) : Bool := decide (0 ≤ ordG x g)
set_option maxRecDepth 100000 in
set_option maxHeartbeats 2000000 in
theorem mk1_any (P : Nat) (t : TX) (v : Value) (o : TO) (g x : TG) (w : World) (h : DBox w P t v o g) : Calls Try.prog 53 #[.agg (tgv x), .pointer (some ⟨P, 0, none⟩)] w fun e w' => e = .returned (.bool (geG x g)) ∧ Gr w w' := by
  obtain ⟨W, hW, hg, hx⟩ := tgbox w x
  obtain ⟨g0, g1, g2, g3⟩ := (h.gr hg).tg
  obtain ⟨x0, x1, x2, x3⟩ := hx
  simp only [Nat.zero_add] at x0 x1 x2 x3
  have HG := Lib.hid hg
  have HO := Lib.hid (orderG_any x g W)
  obtain ⟨z, hz⟩ : ∃ z, z = ordG x g := ⟨_, rfl⟩
  rw [← hz] at HO
  have HE : Hid (geG x g = decide (0 ≤ z)) := Lib.hid (by rw [hz]; rfl)
  obtain ⟨r, hr⟩ : ∃ r, r = geG x g := ⟨_, rfl⟩
  rw [← hr] at HE ⊢
  clear hg h hz hr
  go_enter Try.func53, Try.ntmps53
  go_upto_region 1 with (fail)
  change Code.wp Try.prog _ _ _ (w.alloc (.cells (tgv x) 36))
  rw [← hW]
  clear hW
  go_wp2_with fail
  refine HO.out.mono ?_
  rintro e w2 ⟨rfl, g2'⟩
  have HG2 := Lib.hid (HG.out.trans g2')
  clear g2' x0 x1 x2 x3 g0 g1 g2 g3
  by_cases h0 : 0 ≤ z
  · have HE2 : Hid (r = true) := Lib.hid (by rw [HE.out, decide_eq_true h0])
    have hd : decide (0 ≤ z) = true := decide_eq_true h0
    go_wp2_with fail
    go_ret
    exact ⟨by rw [HE2.out]; rfl, HG2.out⟩
  · have HE2 : Hid (r = false) := Lib.hid (by rw [HE.out, decide_eq_false h0])
    have hd : decide (0 ≤ z) = false := decide_eq_false h0
    go_wp2_with fail
    go_ret
    exact ⟨by rw [HE2.out]; rfl, HG2.out⟩
end Go.Proofs.Ytlihcjlonafohaa
/- Rows of tags; walks: slices.IndexFunc and slices.DeleteFunc of tags. Written by wip/tools/genfod.py. -/
namespace Go.Proofs.Ytlihcjlonafohaa
open Go.RowKit Go.Joins
set_option linter.unusedSimpArgs false
set_option linter.unusedVariables false

def gcell (t : TG) : List Value := (tgv t).toList
theorem gcell_len (t : TG) : (gcell t).length = 4 := rfl
def gcells (L : List TG) : List Value := L.flatMap gcell
theorem gcells_len (L : List TG) : (gcells L).length = L.length * 4 := rows_len gcell 4 gcell_len L
theorem gcell_one (t : TG) : ∀ u ∈ gcell t, u.oneCell' = true := by
  intro u hu
  unfold gcell at hu
  simp only [List.mem_cons, List.not_mem_nil, or_false] at hu
  rcases hu with rfl | rfl | rfl | rfl <;> rfl
theorem gcells_one (L : List TG) : ∀ u ∈ gcells L, u.oneCell' = true := by
  intro u hu
  obtain ⟨t, -, h⟩ := List.mem_flatMap.1 hu
  exact gcell_one t u h
/-- The slice v reads as these tags. -/
def GV (w : World) (v : Value) (L : List TG) : Prop :=
  ∃ A c, v = .slice A L.length c ∧ L.length ≤ c ∧ (c ≤ maxLen ∧ (A = Option.none → c = 0)) ∧ ∀ j (hj : j < L.length), ∃ b off, A = some ⟨b, off, none⟩ ∧ TGc w b (off + j * 4) L[j]
theorem GV.gr {w w' : World} {v : Value} {L : List TG} (h : GV w v L) (g : Gr w w') : GV w' v L := by
  obtain ⟨A, c, hv, h1, h2, h3⟩ := h
  refine ⟨A, c, hv, h1, h2, fun j hj => ?_⟩
  obtain ⟨b, off, ha, hc⟩ := h3 j hj
  exact ⟨b, off, ha, hc.gr g⟩
/-- The call owns this row of tags. -/
def GOw (w : World) (B : Nat) (v : Value) (L : List TG) : Prop := w.ownsRow B 36 4 v L.length (gcells L)
theorem GOw.gr {w w' : World} {B : Nat} {v : Value} {L : List TG} (h : GOw w B v L) (g : Gr w w') : GOw w' B v L := own_gr h g
theorem GOw.le {w : World} {B B' : Nat} {v : Value} {L : List TG} (h : GOw w B v L) (hb : B' ≤ B) : GOw w B' v L := own_le h hb
theorem GOw.nil (w : World) (B : Nat) : GOw w B (.slice none 0 0) [] := World.ownsRow_nil w B _ _
theorem GOw.gv {w : World} {B : Nat} {v : Value} {L : List TG} (h : GOw w B v L) : GV w v L := by
  obtain ⟨A, c, hv, h1, ⟨h2, h2'⟩, h3, h4⟩ := own_sl h
  refine ⟨A, c, hv, h1, ⟨h2, h2'⟩, fun j hj => ?_⟩
  have at_ : ∀ r, r < 4 → (gcells L)[j * 4 + r]? = (gcell L[j])[r]? := fun r hr => rows_at gcell 4 gcell_len L j r hj hr
  obtain ⟨b, off, ha, c0⟩ := h4 (j * 4 + 0) _ (at_ 0 (by decide))
  have cc : ∀ r, r < 4 → ∀ u, (gcell L[j])[r]? = some u → w.cell? ⟨b, off + (j * 4 + r), none⟩ = some u := fun r hr u hu => by
    obtain ⟨b', off', ha', c'⟩ := h4 (j * 4 + r) u (by rw [at_ r hr]; exact hu)
    rw [ha] at ha'
    injection ha' with ha'
    injection ha' with e1 e2
    subst e1 e2
    exact c'
  refine ⟨b, off, ha, ?_, ?_, ?_, ?_⟩
  · have := cc 0 (by decide) _ rfl; rw [← Nat.add_assoc] at this; exact this
  all_goals rw [Nat.add_assoc]
  · exact cc 1 (by decide) _ rfl
  · exact cc 2 (by decide) _ rfl
  · exact cc 3 (by decide) _ rfl
theorem infoTag : (Try.prog.info? 36).map (fun i => (i.zero, i.size, i.bytes)) = some (some (.agg #[.int .i64 0, .int .i64 0, .int .u64 0, .string ⟨#[]⟩]), 4, 40) := by kernel_rfl
/-- The predicate by its contract: in a class of worlds that keeps when the row's block is written. -/
structure PrG (B : Nat) (dv : Value) (p : TG → Bool) (C : World → Prop) (L : List TG) : Prop where
  kp : ∀ w w' g, C w → Kp (some g) w w' → B ≤ g → C w'
  gr : ∀ w w', C w → Gr w w' → C w'
  call : ∀ d ∈ L, ∀ w, C w → Calls Try.prog 51 #[dv, .agg (tgv d)] w fun e w' => e = .returned (.bool (p d)) ∧ Gr w w'
/-- Where the first stand stands that the cut counts. -/
def gckN (p : TG → Bool) (L : List TG) : Nat := L.findIdx fun c => p c
def gckI (p : TG → Bool) (L : List TG) : Int := if gckN p L < L.length then (gckN p L : Int) else -1
theorem gckI_at {p : TG → Bool} {L : List TG} {k : Nat} (hk : k < L.length) (h : p L[k] = true) (hall : ∀ j (hj : j < L.length), j < k → p L[j] = false) : gckI p L = (k : Int) ∧ gckN p L = k := by
  have e : gckN p L = k := by
    unfold gckN
    rw [List.findIdx_eq hk]
    exact ⟨h, fun j hj => hall j (by omega) hj⟩
  unfold gckI
  rw [e, if_pos hk]
  exact ⟨rfl, rfl⟩
theorem gckI_none {p : TG → Bool} {L : List TG} (hall : ∀ j (hj : j < L.length), p L[j] = false) : gckI p L = -1 := by
  have e : gckN p L = L.length := by
    unfold gckN
    rw [List.findIdx_eq_length]
    intro x hx
    obtain ⟨i, hi, rfl⟩ := List.mem_iff_getElem.1 hx
    exact hall i hi
  unfold gckI
  rw [e, if_neg (Nat.lt_irrefl _)]
section
variable {w : World} {B g n c : Nat} {L : List TG}
theorem GOw.len (h : GOw w B (.slice (some ⟨g, 0, none⟩) n c) L) : n = L.length ∧ L.length ≤ c ∧ c ≤ 9223372036854775807 ∧ B ≤ g ∧ g < w.heap.size := by
  rcases h.2 with ⟨hh, _⟩ | ⟨g', cap', cur, hh, hb, hg, hn, hm, _⟩
  · cases hh
  · injection hh with h1 h2 h3
    injection h1 with h1
    injection h1 with h1
    subst h1 h2 h3
    exact ⟨rfl, hn, hm, hb, (Array.getElem?_eq_some_iff.1 hg).1⟩
theorem GOw.free (h : GOw w B (.slice (some ⟨g, 0, none⟩) n c) L) (j : Nat) : w.frozen? ⟨g, j, none⟩ = false := by
  obtain ⟨rfl, _⟩ := h.len
  exact h.frozenAt j
theorem GOw.addr {v : Value} (h : GOw w B v L) {i : Nat} (hi : i < L.length) : ∃ g c, v = .slice (some ⟨g, 0, none⟩) L.length c := by
  obtain ⟨g, c, hv, _⟩ := World.ownsRow.form h (by omega)
  exact ⟨g, c, hv⟩
theorem GOw.store (h : GOw w B (.slice (some ⟨g, 0, none⟩) n c) L) {i r : Nat} (hi : i < L.length) (hr : r < 4) (f : TG) (u : Value) (hf : gcell f = (gcell L[i]).set r u) :
    GOw (w.setCell ⟨g, i * 4 + r, none⟩ u) B (.slice (some ⟨g, 0, none⟩) n c) (L.set i f) := by
  obtain ⟨rfl, _⟩ := h.len
  obtain ⟨h1, _⟩ := World.ownsRow.stored (h : w.ownsRow B 36 4 (.slice (some ⟨g, 0, none⟩) L.length c) L.length (gcells L)) (i * 4 + r) u
  unfold GOw
  rw [List.length_set]
  have : gcells (L.set i f) = (gcells L).set (i * 4 + r) u := (rows_set gcell 4 gcell_len L i r hi hr f u hf).symm
  rw [this]
  exact h1
theorem GOw.put4 (h : GOw w B (.slice (some ⟨g, 0, none⟩) n c) L) {i : Nat} (hi : i < L.length) (f : TG) :
    GOw ((((w.setCell ⟨g, i * 4, none⟩ (.int .i64 f.o)).setCell ⟨g, i * 4 + 1, none⟩ (.int .i64 f.i)).setCell ⟨g, i * 4 + 2, none⟩ (.int .u64 (f.s : Int))).setCell ⟨g, i * 4 + 3, none⟩ (.string f.e)) B (.slice (some ⟨g, 0, none⟩) n c) (L.set i f) := by
  have h1 := h.store hi (r := 0) (by decide) ⟨f.o, L[i].i, L[i].s, L[i].e⟩ (.int .i64 f.o) rfl
  have h2 := h1.store (i := i) (by rw [List.length_set]; exact hi) (r := 1) (by decide) ⟨f.o, f.i, L[i].s, L[i].e⟩ (.int .i64 f.i) (by rw [List.getElem_set_self]; rfl)
  rw [List.set_set] at h2
  have h3 := h2.store (i := i) (by rw [List.length_set]; exact hi) (r := 2) (by decide) ⟨f.o, f.i, f.s, L[i].e⟩ (.int .u64 (f.s : Int)) (by rw [List.getElem_set_self]; rfl)
  rw [List.set_set] at h3
  have h4 := h3.store (i := i) (by rw [List.length_set]; exact hi) (r := 3) (by decide) f (.string f.e) (by rw [List.getElem_set_self]; rfl)
  rw [List.set_set] at h4
  exact h4
theorem GOw.at_ (h : GOw w B (.slice (some ⟨g, 0, none⟩) n c) L) {i : Nat} (hi : i < L.length) : w.cell? ⟨g, i * 4, none⟩ = some (.int .i64 L[i].o) ∧ w.cell? ⟨g, i * 4 + 1, none⟩ = some (.int .i64 L[i].i) ∧ w.cell? ⟨g, i * 4 + 2, none⟩ = some (.int .u64 (L[i].s : Int)) ∧ w.cell? ⟨g, i * 4 + 3, none⟩ = some (.string L[i].e) := by
  obtain ⟨A, c', hv, _, _, hc⟩ := h.gv
  obtain ⟨b, off, ha, q0, q1, q2, q3⟩ := hc i hi
  injection hv with e1
  rw [← e1] at ha
  injection ha with ha
  injection ha with a1 a2
  subst a1 a2
  rw [Nat.zero_add] at q0 q1 q2 q3
  exact ⟨q0, q1, q2, q3⟩
end
def IGRel (p : TG → Bool) (L : List TG) (w : World) (i : Value) (wr : World) : Prop :=
  ∃ k : Nat, k ≤ L.length ∧ i = .int .i64 (k : Int) ∧ Gr w wr ∧ ∀ j (hj : j < L.length), j < k → p L[j] = false
set_option maxRecDepth 100000 in
set_option maxHeartbeats 1000000 in
theorem indexG_any (v : Value) (L : List TG) (B : Nat) (dv : Value) (p : TG → Bool) (C : World → Prop) (w : World) (hv : GOw w B v L) (hp : PrG B dv p C L) (hc : C w) :
    Calls Try.prog 52 #[v, .func (.func 51) #[dv] #[]] w fun e w' => e = .returned (.int .i64 (gckI p L)) ∧ Gr w w' := by
  obtain ⟨A, c, hva, hnc, hc63⟩ := own_form hv
  subst hva
  have HV := Lib.hid hv
  have HP := Lib.hid hp
  have HCC := Lib.hid hc
  obtain ⟨n, hn⟩ : ∃ n, n = L.length := ⟨_, rfl⟩
  rw [← hn] at HV hnc ⊢
  have HN := Lib.hid hn
  clear hv hn hp hc
  go_enter Try.func52, Try.ntmps52
  go_wp2_with fail
  go_loopw [8] (fun i wr => IGRel p L w i wr) (fun i _ => n - (intOf i).toNat)
  case atStart => exact ⟨0, Nat.zero_le _, rfl, Gr.refl _, fun j _ h => absurd h (Nat.not_lt_zero _)⟩
  case round =>
    obtain ⟨k, hk, rfl, hgr, hall⟩ := hrel
    rw [← HN.out] at hk
    have HAL := Lib.hid hall
    clear hall
    by_cases hlt : k < n
    · have hkM : k < L.length := by rw [← HN.out]; exact hlt
      obtain ⟨g, cc, hvv⟩ := HV.out.addr hkM
      injection hvv with h1 h2 h3
      subst h1 h3
      clear h2
      obtain ⟨q0, q1, q2, q3⟩ := HV.out.at_ hkM
      have c0 := hgr.cell q0
      have c1' := hgr.cell q1
      have c2 := hgr.cell q2
      have c3 := hgr.cell q3
      obtain ⟨f, hf⟩ : ∃ f, f = L[k] := ⟨_, rfl⟩
      rw [← hf] at c0 c1' c2 c3
      have HF := Lib.hid hf
      have hmem : f ∈ L := by rw [hf]; exact List.getElem_mem hkM
      have HC := Lib.hid (HP.out.call f hmem wr (HP.out.gr _ _ HCC.out hgr))
      rcases hq : p f with _ | _
      · rw [hq] at HC
        have HA2 : Hid (∀ j (hj : j < L.length), j < k + 1 → p L[j] = false) := Lib.hid fun j hj hjk => by
          by_cases e : j = k
          · subst e; rw [← HF.out]; exact hq
          · exact HAL.out j hj (by omega)
        clear hq hf q0 q1 q2 q3 hmem
        go_wp2_with fail
        refine HC.out.mono ?_
        rintro e w1 ⟨rfl, g1⟩
        go_wp2_with fail
        go_roundw
        case rel => exact ⟨k + 1, by rw [← HN.out]; omega, by go_num, hgr.trans g1, HA2.out⟩
        case measure => simp [intOf]; omega
      · rw [hq] at HC
        have HI := Lib.hid (gckI_at hkM (by rw [← HF.out]; exact hq) HAL.out).1
        clear hq hf q0 q1 q2 q3 hmem
        go_wp2_with fail
        refine HC.out.mono ?_
        rintro e w1 ⟨rfl, g1⟩
        go_wp2_with fail
        go_ret
        exact ⟨by rw [HI.out]; rfl, hgr.trans g1⟩
    · have HI := Lib.hid (gckI_none (p := p) (L := L) (fun j hj => HAL.out j hj (by rw [← HN.out] at hj; omega)))
      go_wp2_with fail
      go_ret
      exact ⟨by rw [HI.out]; rfl, hgr⟩
structure PrM (P : Nat) (p : TG → Bool) (C : World → Prop) (L : List TG) : Prop where
  gr : ∀ w w', C w → Gr w w' → C w'
  call : ∀ d ∈ L, ∀ w, C w → Calls Try.prog 53 #[.agg (tgv d), .pointer (some ⟨P, 0, none⟩)] w fun e w' => e = .returned (.bool (p d)) ∧ Gr w w'
set_option maxRecDepth 100000 in
set_option maxHeartbeats 1000000 in
theorem indexM_any (v : Value) (L : List TG) (B P : Nat) (p : TG → Bool) (C : World → Prop) (w : World) (hv : GOw w B v L) (hp : PrM P p C L) (hc : C w) :
    Calls Try.prog 52 #[v, .func (.func 53) #[] #[.pointer (some ⟨P, 0, none⟩)]] w fun e w' => e = .returned (.int .i64 (gckI p L)) ∧ Gr w w' := by
  obtain ⟨A, c, hva, hnc, hc63⟩ := own_form hv
  subst hva
  have HV := Lib.hid hv
  have HP := Lib.hid hp
  have HCC := Lib.hid hc
  obtain ⟨n, hn⟩ : ∃ n, n = L.length := ⟨_, rfl⟩
  rw [← hn] at HV hnc ⊢
  have HN := Lib.hid hn
  clear hv hn hp hc
  go_enter Try.func52, Try.ntmps52
  go_wp2_with fail
  go_loopw [8] (fun i wr => IGRel p L w i wr) (fun i _ => n - (intOf i).toNat)
  case atStart => exact ⟨0, Nat.zero_le _, rfl, Gr.refl _, fun j _ h => absurd h (Nat.not_lt_zero _)⟩
  case round =>
    obtain ⟨k, hk, rfl, hgr, hall⟩ := hrel
    rw [← HN.out] at hk
    have HAL := Lib.hid hall
    clear hall
    by_cases hlt : k < n
    · have hkM : k < L.length := by rw [← HN.out]; exact hlt
      obtain ⟨g, cc, hvv⟩ := HV.out.addr hkM
      injection hvv with h1 h2 h3
      subst h1 h3
      clear h2
      obtain ⟨q0, q1, q2, q3⟩ := HV.out.at_ hkM
      have c0 := hgr.cell q0
      have c1' := hgr.cell q1
      have c2 := hgr.cell q2
      have c3 := hgr.cell q3
      obtain ⟨f, hf⟩ : ∃ f, f = L[k] := ⟨_, rfl⟩
      rw [← hf] at c0 c1' c2 c3
      have HF := Lib.hid hf
      have hmem : f ∈ L := by rw [hf]; exact List.getElem_mem hkM
      have HC := Lib.hid (HP.out.call f hmem wr (HP.out.gr _ _ HCC.out hgr))
      rcases hq : p f with _ | _
      · rw [hq] at HC
        have HA2 : Hid (∀ j (hj : j < L.length), j < k + 1 → p L[j] = false) := Lib.hid fun j hj hjk => by
          by_cases e : j = k
          · subst e; rw [← HF.out]; exact hq
          · exact HAL.out j hj (by omega)
        clear hq hf q0 q1 q2 q3 hmem
        go_wp2_with fail
        refine HC.out.mono ?_
        rintro e w1 ⟨rfl, g1⟩
        go_wp2_with fail
        go_roundw
        case rel => exact ⟨k + 1, by rw [← HN.out]; omega, by go_num, hgr.trans g1, HA2.out⟩
        case measure => simp [intOf]; omega
      · rw [hq] at HC
        have HI := Lib.hid (gckI_at hkM (by rw [← HF.out]; exact hq) HAL.out).1
        clear hq hf q0 q1 q2 q3 hmem
        go_wp2_with fail
        refine HC.out.mono ?_
        rintro e w1 ⟨rfl, g1⟩
        go_wp2_with fail
        go_ret
        exact ⟨by rw [HI.out]; rfl, hgr.trans g1⟩
    · have HI := Lib.hid (gckI_none (p := p) (L := L) (fun j hj => HAL.out j hj (by rw [← HN.out] at hj; omega)))
      go_wp2_with fail
      go_ret
      exact ⟨by rw [HI.out]; rfl, hgr⟩
end Go.Proofs.Ytlihcjlonafohaa
/- Walk: slices.DeleteFunc of tags, by the deed's clears. Written by wip/tools/genfod.py. -/
namespace Go.Proofs.Ytlihcjlonafohaa
open Go.RowKit Go.Joins
set_option linter.unusedSimpArgs false
set_option linter.unusedVariables false

theorem elemTg : Try.prog.underlying 34 = some (.slice (Try.prog.elem 34)) := by kernel_rfl
theorem sizeTg : ∀ W : World, (sizeOf (Try.prog.elem 34)).run Try.prog W = .ok 4 W := fun W => by kernel_rfl
def zerosT4 (k : Nat) : List Value := (Builtin.zeroCells (Value.agg #[.int .i64 0, .int .i64 0, .int .u64 0, .string ⟨#[]⟩]).cells k).toList
theorem zerosT4_len (k : Nat) : (zerosT4 k).length = k * 4 := by
  unfold zerosT4
  simp [Builtin.zeroCells, Value.cells]
theorem zerosT4_one (k : Nat) : ∀ v ∈ zerosT4 k, v.oneCell' = true := by
  intro v hv
  unfold zerosT4 Builtin.zeroCells at hv
  simp only [Value.cells, Array.toList_map, List.mem_map, Array.mem_toList_iff, Array.mem_range] at hv
  obtain ⟨i, _, rfl⟩ := hv
  have h3 : i % 4 < 4 := Nat.mod_lt _ (by decide)
  show Value.oneCell' ((#[Value.int .i64 0, Value.int .i64 0, Value.int .u64 0, Value.string ⟨#[]⟩] : Array Value)[i % 4]!) = true
  obtain h | h | h | h : i % 4 = 0 ∨ i % 4 = 1 ∨ i % 4 = 2 ∨ i % 4 = 3 := by omega
  all_goals rw [h]; rfl
/-- The clearing of what lies behind a row's beginning. -/
theorem run_clear_tags (w : World) (g off k cc : Nat) (hk : 0 < k) (hc : ∀ j, j < k * 4 → (w.cell? ⟨g, off + j, none⟩).isSome = true) (hf : ∀ j, j < k * 4 → w.frozen? ⟨g, off + j, none⟩ = false) (ty : TypeId) :
    (Builtin.clear_ #[34] ty #[.slice (some ⟨g, off, none⟩) k cc]).run Try.prog w = .ok (.tuple #[]) (w.setCells g off (zerosT4 k)) := by
  obtain ⟨i0, hi, hz0, hz1, hz2⟩ := info_parts infoTag
  have hst := run_storeCells_cells (P := Try.prog) g off (zerosT4 k) 0 w
    (fun j hj => by rw [Nat.add_zero]; exact hc j (by rw [← zerosT4_len]; exact hj))
    (fun j hj => by rw [Nat.add_zero]; exact hf j (by rw [← zerosT4_len]; exact hj))
    (zerosT4_one k)
  simp only [Nat.add_zero] at hst
  have hzv : ∀ w, (zeroValue 36).run Try.prog w = .ok (.agg #[.int .i64 0, .int .i64 0, .int .u64 0, .string ⟨#[]⟩]) w := fun w => by
    simp [zeroValue, typeInfo, hi, hz0]
  have hu : (underlying 34).run Try.prog w = .ok (.slice 36) w := run_underlying Try.underlying34 w
  obtain ⟨k', rfl⟩ : ∃ k', k = k' + 1 := ⟨k - 1, by omega⟩
  unfold zerosT4 at hst ⊢
  simp [Builtin.clear_, hu, hzv, hst]
/-- A call's answer: the stands that the cut doesn't count, in the same block. -/
def RetLeftG (p : TG → Bool) (L : List TG) (B : Nat) (v : Value) (w : World) (e : Ending) (w' : World) : Prop := ∃ v', e = .returned v' ∧ GOw w' B v' (L.filter fun c => !p c) ∧ v'.ownBlock = v.ownBlock ∧ Kp v.ownBlock w w'
structure DGInv (p : TG → Bool) (L : List TG) (w : World) (B g c i j : Nat) (D : List TG) (wr : World) : Prop where
  row : GOw wr B (.slice (some ⟨g, 0, none⟩) L.length c) D
  len : D.length = L.length
  lo : D.take i = (L.take j).filter fun c => !p c
  hi : ∀ m (h : m < L.length), j ≤ m → D[m]'(by rw [len]; exact h) = L[m]
  lt : i < j
  kp : Kp (some g) w wr
theorem DGInv.start {p : TG → Bool} {L : List TG} {w wr : World} {B g c k : Nat} (hk : k < L.length) (hg : p L[k] = true) (hall : ∀ j (hj : j < L.length), j < k → p L[j] = false) (hv : GOw w B (.slice (some ⟨g, 0, none⟩) L.length c) L) (q : Gr w wr) : DGInv p L w B g c k (k + 1) L wr := by
  refine ⟨hv.gr q, rfl, ?_, fun m h _ => rfl, Nat.lt_succ_self _, Kp.of_gr q⟩
  rw [List.take_succ_eq_append_getElem hk, List.filter_append]
  have e1 : (L.take k).filter (fun c => !p c) = L.take k := by
    rw [List.filter_eq_self]
    intro x hx
    obtain ⟨i, hi, rfl⟩ := List.mem_iff_getElem.1 hx
    have hi2 : i < k := by simp at hi; omega
    rw [List.getElem_take]
    rw [hall i (by omega) hi2]
    rfl
  rw [e1]
  simp [hg]
theorem DGInv.skip {p : TG → Bool} {L : List TG} {w wr w' : World} {B g c i j : Nat} {D : List TG} (h : DGInv p L w B g c i j D wr) (q : Gr wr w') (hj : j < L.length) (hg : p L[j] = true) : DGInv p L w B g c i (j + 1) D w' := by
  refine ⟨h.row.gr q, h.len, ?_, fun m hm hjm => h.hi m hm (by omega), by have := h.lt; omega, h.kp.gr q⟩
  rw [h.lo, List.take_succ_eq_append_getElem hj, List.filter_append]
  simp [hg]
theorem DGInv.keep {p : TG → Bool} {L : List TG} {w wr w' : World} {B g c i j : Nat} {D : List TG} (h : DGInv p L w B g c i j D wr) (q : Gr wr w') (hj : j < L.length) (hg : p L[j] = false) :
    DGInv p L w B g c (i + 1) (j + 1) (D.set i L[j]) ((((w'.setCell ⟨g, i * 4, none⟩ (.int .i64 L[j].o)).setCell ⟨g, i * 4 + 1, none⟩ (.int .i64 L[j].i)).setCell ⟨g, i * 4 + 2, none⟩ (.int .u64 (L[j].s : Int))).setCell ⟨g, i * 4 + 3, none⟩ (.string L[j].e)) := by
  have hlt := h.lt
  have hiD : i < D.length := by rw [h.len]; omega
  refine ⟨(h.row.gr q).put4 hiD L[j], by rw [List.length_set]; exact h.len, ?_, fun m hm hjm => ?_, by omega, (((((h.kp.gr q).set (.inr rfl) _ _).set (.inr rfl) _ _).set (.inr rfl) _ _).set (.inr rfl) _ _)⟩
  · rw [List.take_succ_eq_append_getElem (by rw [List.length_set]; exact hiD), List.getElem_set_self, List.take_set_of_le (Nat.le_refl _), h.lo, List.take_succ_eq_append_getElem hj, List.filter_append]
    simp [hg]
  · rw [List.getElem_set_ne (by omega)]
    exact h.hi m hm (by omega)
theorem filter_noneG {p : TG → Bool} {L : List TG} (hall : ∀ j (hj : j < L.length), p L[j] = false) : L.filter (fun c => !p c) = L := by
  rw [List.filter_eq_self]
  intro x hx
  obtain ⟨i, hi, rfl⟩ := List.mem_iff_getElem.1 hx
  rw [hall i hi]
  rfl
set_option maxRecDepth 100000 in
set_option maxHeartbeats 4000000 in
theorem delG_any (v : Value) (L : List TG) (B : Nat) (dv : Value) (p : TG → Bool) (C : World → Prop) (w : World) (hv : GOw w B v L) (hp : PrG B dv p C L) (hc : C w) :
    Calls Try.prog 50 #[v, .func (.func 51) #[dv] #[]] w fun e w' => RetLeftG p L B v w e w' := by
  have H1 := Lib.hid (indexG_any v L B dv p C w hv hp hc)
  have HP := Lib.hid hp
  have HCC := Lib.hid hc
  clear hp hc
  have HV := Lib.hid hv
  obtain ⟨A, c, rfl, hnc, hc63⟩ := own_form hv
  by_cases hall : ∀ j (hj : j < L.length), p L[j] = false
  · rw [gckI_none hall] at H1
    have HF := Lib.hid (filter_noneG hall)
    obtain ⟨n, hn⟩ : ∃ n, n = L.length := ⟨_, rfl⟩
    rw [← hn] at H1 HV ⊢
    clear hv hall hn hnc
    go_enter Try.func50, Try.ntmps50
    go_wp2_with fail
    refine H1.out.mono ?_
    rintro e w1 ⟨rfl, g1⟩
    have HG1 := Lib.hid g1
    clear g1
    go_wp2_with fail
    go_ret
    exact ⟨_, rfl, by rw [HF.out]; exact HV.out.gr HG1.out, rfl, Kp.of_gr HG1.out⟩
  · have hex : ∃ k, ∃ hk : k < L.length, p L[k] = true ∧ ∀ j (hj : j < L.length), j < k → p L[j] = false := by
      have hlt : gckN p L < L.length := by
        rcases Nat.lt_or_ge (gckN p L) L.length with h | h
        · exact h
        · exfalso
          apply hall
          intro j hj
          have := List.not_of_lt_findIdx (p := fun c : TG => p c) (xs := L) (i := j) (by unfold gckN at h; omega)
          simpa using this
      refine ⟨gckN p L, hlt, List.findIdx_getElem (p := fun c : TG => p c) (w := hlt), fun j hj hjk => ?_⟩
      have := List.not_of_lt_findIdx (p := fun c : TG => p c) (xs := L) (i := j) hjk
      simpa using this
    obtain ⟨k, hk, hgk, hbe⟩ := hex
    rw [(gckI_at hk hgk hbe).1] at H1
    obtain ⟨g, c', hvv⟩ := hv.addr hk
    injection hvv with h1 h2 h3
    subst h1 h3
    clear h2
    have HGB : Hid (B ≤ g) := Lib.hid hv.len.2.2.2.1
    obtain ⟨n, hn⟩ : ∃ n, n = L.length := ⟨_, rfl⟩
    have HN := Lib.hid hn
    have HB := Lib.hid (fun wr (q : Gr w wr) => DGInv.start (p := p) (B := B) (g := g) (c := c) hk hgk hbe HV.out q)
    have hkn : k < n := by rw [hn]; exact hk
    have hne : ((k : Int) == -1) = false := by rw [beq_eq_false_iff_ne]; omega
    have hne2 : ¬ ((k : Int) = -1) := by omega
    have hc1 : n ≤ c := by rw [hn]; exact hnc
    rw [← hn] at H1 ⊢
    have hwk : IntKind.i64.wrap ((k : Int) + 1) = ((k + 1 : Nat) : Int) := by
      rw [IntKind.wrap_i64]
      omega
    clear hv hall hbe hgk hn hk hnc HV
    go_enter Try.func50, Try.ntmps50
    go_wp2_with fail
    refine H1.out.mono ?_
    rintro e w1 ⟨rfl, g1⟩
    have HS := Lib.hid (HB.out _ g1)
    clear g1 HB H1
    go_wp2_with fail
    clear hwk
    go_loopg [5, 6, 7] n (fun gg s5 s6 _ wr => ∃ (i j : Nat) (D : List TG), s5 = .int .i64 (i : Int) ∧ s6 = .int .i64 (j : Int) ∧ j ≤ n ∧ n - j ≤ gg ∧ Hid (DGInv p L w B g c i j D wr))
    case atStart => exact ⟨k, k + 1, L, rfl, by go_num, by omega, by omega, HS⟩
    case round =>
      obtain ⟨i, j, D, rfl, rfl, hjn, hgg, HD⟩ := hrel
      have hij := HD.out.lt
      by_cases hlt : j < n
      · have hjL : j < L.length := by rw [← HN.out]; exact hlt
        have hjD : j < D.length := by rw [HD.out.len]; exact hjL
        obtain ⟨q0, q1, q2, q3⟩ := HD.out.row.at_ hjD
        rw [HD.out.hi j hjL (Nat.le_refl _)] at q0 q1 q2 q3
        obtain ⟨f, hf⟩ : ∃ f, f = L[j] := ⟨_, rfl⟩
        rw [← hf] at q0 q1 q2 q3
        have HF := Lib.hid hf
        obtain ⟨W, hW⟩ : ∃ W, W = wr.alloc (.cells (tgv f) 36) := ⟨_, rfl⟩
        have HGW : Hid (Gr wr W) := Lib.hid (by rw [hW]; exact gr_box _ _)
        have hmem : f ∈ L := by rw [hf]; exact List.getElem_mem hjL
        have hpr := HP.out.gr _ _ (HP.out.kp _ _ _ HCC.out HD.out.kp HGB.out) HGW.out
        have HC := Lib.hid (HP.out.call f hmem W hpr)
        clear hpr hmem
        have HX : Hid (W.heap[wr.heap.size]? = some (.cells (tgv f) 36 (0, 0))) := Lib.hid (by rw [hW]; exact heap_alloc_new wr _)
        have x0 := obj_cell HX.out (i := 0) rfl
        have x1 := obj_cell HX.out (i := 1) rfl
        have x2 := obj_cell HX.out (i := 2) rfl
        have x3 := obj_cell HX.out (i := 3) rfl
        have hltz : (j : Int) < (n : Int) := by omega
        have hj0 : (0 : Int) ≤ (j : Int) := by omega
        rcases hq : p f with _ | _
        · have HQ := Lib.hid hq
          have HK := Lib.hid (fun w' (q : Gr wr w') => HD.out.keep q hjL (by rw [← HF.out]; exact hq))
          rw [← HF.out] at HK
          have HC2 : Hid (Calls Try.prog 51 #[dv, .agg (tgv f)] W fun e w' => e = .returned (.bool false) ∧ Gr W w') := Lib.hid (HC.out.mono fun e w' h => ⟨by rw [h.1, hq], h.2⟩)
          have hi0 : (0 : Int) ≤ (i : Int) := by omega
          have hin : (i : Int) < (n : Int) := by omega
          have hiD : i < D.length := by rw [HD.out.len]; omega
          clear hf hq
          go_wp2_with fail
          rw [← hW]
          clear hW q0 q1 q2 q3
          refine HC2.out.mono ?_
          rintro e w2 ⟨rfl, g2⟩
          have hg2 := HGW.out.trans g2
          have y0 := g2.cell x0
          have y1 := g2.cell x1
          have y2 := g2.cell x2
          have y3 := g2.cell x3
          have hrow2 := HD.out.row.gr hg2
          obtain ⟨r0, r1, r2, r3⟩ := hrow2.at_ hiD
          have f0 := hrow2.free (i * 4)
          have f1 := hrow2.free (i * 4 + 1)
          have f2 := hrow2.free (i * 4 + 2)
          have f3 := hrow2.free (i * 4 + 3)
          have HN2 := Lib.hid (HK.out w2 hg2)
          have hwi : IntKind.i64.wrap ((i : Int) + 1) = ((i + 1 : Nat) : Int) := by
            rw [IntKind.wrap_i64]
            omega
          clear x0 x1 x2 x3 g2 hg2 hrow2 HX HGW HK HC HC2
          go_wp2_with fail
          go_roundg (n - (j + 1))
          case measure => omega
          case rel => exact ⟨i + 1, j + 1, _, by go_num, by go_num, by omega, Nat.le_refl _, HN2⟩
        · have HK := Lib.hid (fun w' (q : Gr wr w') => HD.out.skip q hjL (by rw [← HF.out]; exact hq))
          have HC2 : Hid (Calls Try.prog 51 #[dv, .agg (tgv f)] W fun e w' => e = .returned (.bool true) ∧ Gr W w') := Lib.hid (HC.out.mono fun e w' h => ⟨by rw [h.1, hq], h.2⟩)
          clear hf hq
          go_wp2_with fail
          rw [← hW]
          clear hW q0 q1 q2 q3
          refine HC2.out.mono ?_
          rintro e w2 ⟨rfl, g2⟩
          have HN2 := Lib.hid (HK.out w2 (HGW.out.trans g2))
          clear x0 x1 x2 x3 g2 HX HGW HK HC HC2
          go_wp2_with fail
          go_roundg (n - (j + 1))
          case measure => omega
          case rel => exact ⟨i, j + 1, _, rfl, by go_num, by omega, Nat.le_refl _, HN2⟩
      · obtain rfl : j = n := by omega
        have hltz : ¬ ((j : Int) < (j : Int)) := by omega
        have hfin : (L.filter fun c => !p c) = D.take i := by
          rw [HD.out.lo, List.take_of_length_le (by rw [← HN.out]; exact Nat.le_refl _)]
        have HFIN := Lib.hid hfin
        have hsf := slice_from_g 34 4 elemTg sizeTg j c i (by omega) (some ⟨g, 0, none⟩)
        have hst := slice_to_g 34 4 elemTg sizeTg j c i (by omega) (some ⟨g, 0, none⟩)
        have hsd : sliced (some ⟨g, 0, none⟩) i j  c 4 = .slice (some ⟨g, i * 4, none⟩) (j - i) (c - i) := by
          unfold sliced
          rw [if_neg (by omega)]
          simp [Addr.add]
          try omega
        rw [hsd] at hsf
        have hrow : wr.ownsRow B 36 4 (.slice (some ⟨g, 0, none⟩) j c) j (gcells D) := by
          have h := HD.out.row
          unfold GOw at h
          rw [HD.out.len, ← HN.out] at h
          exact h
        have hpre : GOw wr B (.slice (some ⟨g, 0, none⟩) i c) (D.take i) := by
          have h := own_prefix (k := i) hrow (by omega)
          unfold GOw
          rw [List.length_take, Nat.min_eq_left (by rw [HD.out.len, ← HN.out]; omega)]
          unfold gcells at h ⊢
          rw [rows_take gcell 4 gcell_len] at h
          exact h
        have hpre' := hpre
        unfold GOw at hpre'
        rw [List.length_take, Nat.min_eq_left (by rw [HD.out.len, ← HN.out]; omega)] at hpre'
        have hcl := run_clear_tags wr g (i * 4) (j - i) (c - i) (by omega) (fun m hm => by
          obtain ⟨⟨u, hu⟩, _⟩ := own_someD hrow (j := i * 4 + m) (by omega)
          rw [hu]; rfl) (fun m hm => (own_someD hrow (j := i * 4 + m) (by omega)).2)
        have hbey := own_beyondsD (zerosT4 (j - i)) (i * 4) hpre' (Nat.le_refl _)
        obtain ⟨W, hW⟩ : ∃ W, W = wr.setCells g (i * 4) (zerosT4 (j - i)) := ⟨_, rfl⟩
        rw [← hW] at hcl hbey
        have HBE : Hid (GOw W B (.slice (some ⟨g, 0, none⟩) i c) (D.take i)) := Lib.hid (by unfold GOw; rw [List.length_take, Nat.min_eq_left (by rw [HD.out.len, ← HN.out]; omega)]; exact hbey.1)
        have HKP := Lib.hid (HD.out.kp.trans hbey.2)
        have hcl0 := hcl 0
        clear hW hbey hpre hpre' hrow hfin hsd
        go_wp2_with fail
        go_ret
        exact ⟨_, rfl, by rw [HFIN.out]; exact HBE.out, rfl, HKP.out⟩
end Go.Proofs.Ytlihcjlonafohaa
