/- Walks: what the laws of the disk share. -/
import Derived.Test.YtonlplfjiaejhaaDraftM
import Derived.BigQuiet
namespace Go.Proofs.Ytonlplfjiaejhaa
open Go.RowKit

/-- A string's beginning. -/
def beginsS (a b : ByteArray) : Bool := decide (b.size ≤ a.size) && eqS (a.extract 0 b.size) b
set_option maxRecDepth 100000 in
theorem begins_any (a b : ByteArray) (_ha : a.size ≤ 9223372036854775807) (w : World) :
    Calls Try.prog 22 #[.string a, .string b] w fun e w' => e = .returned (.bool (beginsS a b)) ∧ w = w' := by
  by_cases h : b.size ≤ a.size
  · have ht : (b.size : Int) ≤ (a.size : Int) := by omega
    have hb : beginsS a b = eqS (a.extract 0 b.size) b := by unfold beginsS; rw [decide_eq_true h, Bool.true_and]
    go_enter Try.func22, Try.ntmps22
    go_wp2
    go_ret
    exact ⟨by rw [hb]; rfl, rfl⟩
  · have ht : ¬ (b.size : Int) ≤ (a.size : Int) := by omega
    have hb : beginsS a b = false := by unfold beginsS; rw [decide_eq_false h, Bool.false_and]
    go_enter Try.func22, Try.ntmps22
    go_wp2
    go_ret
    exact ⟨rfl, rfl⟩
def markF : F := ⟨⟨#[109, 97, 114, 107]⟩, ⟨#[]⟩, ⟨#[]⟩⟩
theorem own_far {w : World} {B : Nat} {t : TypeId} {size : Nat} {v : Value} {n : Nat} {xs : List Value} (h : w.ownsRow B t size v n xs) {b : Nat} (hb : b < B) : some b ≠ v.ownBlock := fun e => by have := (h.lt b e.symm).1; omega
/-- A disk with a marked place behind its files. -/
def MO (w : World) (B : Nat) (v : Value) (L : List F) : Prop :=
  ∃ g c, v = .slice (some ⟨g, 0, none⟩) L.length c ∧ w.ownsRow B 34 3 (.slice (some ⟨g, 0, none⟩) (L.length + 1) c) (L.length + 1) (fcells (L ++ [markF]))
theorem MO.gr {w w' : World} {B : Nat} {v : Value} {L : List F} (h : MO w B v L) (g : Gr w w') : MO w' B v L := by
  obtain ⟨b, c, hv, hr⟩ := h
  exact ⟨b, c, hv, own_gr hr g⟩
theorem MO.fo {w : World} {B : Nat} {v : Value} {L : List F} (h : MO w B v L) : FO w B v L := by
  obtain ⟨b, c, rfl, hr⟩ := h
  have := own_prefix hr (k := L.length) (by omega)
  have e : (fcells (L ++ [markF])).take (L.length * 3) = fcells L := by
    unfold fcells
    rw [rows_take fcell 3 fcell_len, List.take_left' rfl]
  rw [e] at this
  exact this
theorem MO.mark {w : World} {B : Nat} {g c : Nat} {L : List F} {n : Nat} (h : MO w B (.slice (some ⟨g, 0, none⟩) n c) L) : w.cell? ⟨g, L.length * 3, none⟩ = some (.string ⟨#[109, 97, 114, 107]⟩) ∧ L.length + 1 ≤ c ∧ c ≤ 9223372036854775807 := by
  obtain ⟨b, c', hv, hr⟩ := h
  injection hv with e1 e2 e3
  injection e1 with e1
  injection e1 with e1
  subst e1 e3
  obtain ⟨h1, h2, _⟩ := own_len hr
  refine ⟨?_, h1, h2⟩
  rw [hr.cellAt (L.length * 3) (by omega)]
  have := rows_at fcell 3 fcell_len (L ++ [markF]) L.length 0 (by rw [List.length_append]; exact Nat.lt_succ_self _) (by decide)
  rw [Nat.add_zero, List.getElem_append_right (Nat.le_refl _)] at this
  rw [show fcells (L ++ [markF]) = (L ++ [markF]).flatMap fcell from rfl, this]
  simp [fcell, markF]
def RetRoomy (L : List F) (w : World) (e : Ending) (w' : World) : Prop := ∃ v, e = .returned (.agg #[v]) ∧ MO w' w.heap.size v L ∧ Gr w w'
set_option maxRecDepth 100000 in
set_option maxHeartbeats 4000000 in
theorem roomy_any (v : Value) (L : List F) (w : World) (hv : FV w v L) (hlen : (L.length + 1) * 48 ≤ 140737488355328) :
    Calls Try.prog 12 #[.agg #[v]] w fun e w' => RetRoomy L w e w' := by
  obtain ⟨A, c, hva, _⟩ := id hv
  have HV := Lib.hid hv.sl
  subst hva
  obtain ⟨i0, hi, hz0, hz1, hz2⟩ := info_parts infoFile
  obtain ⟨n, hn⟩ : ∃ n, n = L.length := ⟨_, rfl⟩
  have HN := Lib.hid hn
  rw [← hn] at HV
  rw [← hn] at hlen
  rw [← hn]
  clear hn hv
  obtain ⟨W3, hW3, G3, b3, r3, rz3, hz3, ho3⟩ : ∃ W3, W3 = ((w.alloc (.cells #[.slice A n c] 24)).alloc (.cells #[.slice none 0 0] 24)).alloc (.cells #[] 34) ∧ Gr w W3 ∧ W3.cell? ⟨w.heap.size, 0, none⟩ = some (.slice A n c) ∧ W3.cell? ⟨w.heap.size + 1, 0, none⟩ = some (.slice none 0 0) ∧ W3.frozen? ⟨w.heap.size + 1, 0, none⟩ = false ∧ w.heap.size + 1 + 1 < W3.heap.size ∧ W3.ownsRow (w.heap.size + 1 + 1) 34 3 (.slice (some ⟨w.heap.size + 1 + 1, 0, none⟩) 0 0) 0 [] := by
    obtain ⟨W2, hW2⟩ : ∃ W2, W2 = (w.alloc (.cells #[.slice A n c] 24)).alloc (.cells #[.slice none 0 0] 24) := ⟨_, rfl⟩
    have s2 : W2.heap.size = w.heap.size + 1 + 1 := by rw [hW2]; simp
    have c0 : W2.cell? ⟨w.heap.size, 0, none⟩ = some (.slice A n c) := by rw [hW2]; simp
    have c1 : W2.cell? ⟨w.heap.size + 1, 0, none⟩ = some (.slice none 0 0) := by rw [hW2]; simp
    have c2 : W2.frozen? ⟨w.heap.size + 1, 0, none⟩ = false := by rw [hW2]; simp
    have g2 : Gr w W2 := by rw [hW2]; exact (gr_box w _).alloc _
    rw [← hW2, ← s2]
    exact ⟨_, rfl, g2.alloc _, (gr_box W2 _).cell c0, (gr_box W2 _).cell c1, (gr_box W2 _).frozen (show w.heap.size + 1 < _ by omega) c2, by simp, own_none W2 _ 3⟩
  have HO3 := Lib.hid ho3
  have HX3 : Hid (SL W3 3 (.slice A n c) n (fcells L)) := Lib.hid (HV.out.gr G3)
  have HF1 : Hid (∀ u ∈ fcells L, u.oneCell' = true) := Lib.hid (fcells_one L)
  have HM1 : Hid (∀ u ∈ [Value.string ⟨#[109, 97, 114, 107]⟩, .string ⟨#[]⟩, .string ⟨#[]⟩], u.oneCell' = true) := Lib.hid (fun u hu => by
    simp only [List.mem_cons, List.not_mem_nil, or_false] at hu
    rcases hu with rfl | rfl | rfl <;> rfl)
  have hm1 : 0 + n ≤ maxLen := by unfold maxLen; omega
  have hm2 : n + 1 ≤ maxLen := by unfold maxLen; omega
  have hm3 : (0 + n) * 48 ≤ 140737488355328 := by omega
  have HH : Hid (n + 1 ≤ maxLen ∧ w.heap.size + 1 + 1 ≤ W3.heap.size) := Lib.hid ⟨hm2, by omega⟩
  clear ho3
  go_enter Try.func12, Try.ntmps12
  go_wp2_with (at_builtin; first
    | (rw [← hW3]; refine wpList_append_sl _ rfl _ _ 22 rfl (w.heap.size + 1 + 1) 34 i0 _ 3 48 Try.underlying22 hi hz0 hz1 hz2 rfl (by decide) (.slice (some ⟨w.heap.size + 1 + 1, 0, none⟩) 0 0) 0 [] rfl HO3.out (.slice A n c) n (fcells L) rfl HX3.out HF1.out hm1 hm3 HH.out.2 n (Nat.zero_add _) ?_; intro A4 c4 w4 hown4 hgr4 hat4)
    | (refine wpList_append_sl _ rfl _ _ 22 rfl (w.heap.size + 1 + 1) 34 i0 _ 3 48 Try.underlying22 hi hz0 hz1 hz2 rfl (by decide) (.slice A4 n c4) n _ rfl (own_gr hown4 (gr_box w4 _)) (.slice (some ⟨w4.heap.size, 0, none⟩) 1 1) 1 _ rfl (sl_new w4 _ _ 1 3 rfl (by unfold maxLen; omega)) HM1.out hm2 hlen (Nat.le_trans HH.out.2 (Nat.le_trans (World.grownBy.size hgr4) (gr_box w4 _).size)) (n + 1) rfl ?_; intro A5 c5 w5 hown5 hgr5 hat5; have b5 := hgr5.cell ((gr_box w4 _).cell (hgr4.cell b3 (own_far HO3.out (by show w.heap.size < _; omega)))) (own_far hown4 (by show w.heap.size < _; omega)); have r5 := hgr5.cell ((gr_box w4 _).cell (hgr4.cell r3 (own_far HO3.out (by show w.heap.size + 1 < _; omega)))) (own_far hown4 (by show w.heap.size + 1 < _; omega)); have rz5 := (hgr5.frozen_far ⟨w.heap.size + 1, 0, none⟩ (Nat.lt_of_lt_of_le (show w.heap.size + 1 < w4.heap.size by have := World.grownBy.size hgr4; omega) (gr_box w4 _).size) (own_far hown4 (by show w.heap.size + 1 < _; omega))).trans ((gr_box w4 _).frozen (show w.heap.size + 1 < w4.heap.size by have := World.grownBy.size hgr4; omega) ((hgr4.frozen_far ⟨w.heap.size + 1, 0, none⟩ (show w.heap.size + 1 < W3.heap.size by omega) (own_far HO3.out (by show w.heap.size + 1 < _; omega))).trans rz3)); obtain ⟨g, k5, hA5, -⟩ := World.ownsRow.form hown5 (Nat.succ_pos n); injection hA5 with hA5 hA6 hA7; subst hA5 hA7; have hsl := slice_to (n + 1) c5 n (by have := (own_len hown5).1; omega) (some ⟨g, 0, none⟩); clear b3 r3 rz3))
  refine bodyPost_ret (v := .agg #[.slice (some ⟨g, 0, none⟩) n c5]) (by simp [results, Try.results12, go_sem, r5]) rfl ⟨_, rfl, ⟨g, c5, by rw [HN.out], ?_⟩, ?_⟩
  · rw [← HN.out]
    refine own_le (B' := w.heap.size) (own_set_other (by
      have := hown5
      rw [List.nil_append] at this
      have e : fcells L ++ [Value.string ⟨#[109, 97, 114, 107]⟩, .string ⟨#[]⟩, .string ⟨#[]⟩] = fcells (L ++ [markF]) := by
        unfold fcells
        rw [List.flatMap_append]
        rfl
      rw [← e]
      exact this) (fun e => own_far hown5 (b := w.heap.size + 1) (by omega) e.symm) _ _) (by omega)
  · have k4 : Below (w.heap.size + 1 + 1) W3 w4 := Kp.below hgr4 (by omega) (fun x hx => (HO3.out.lt x hx).1)
    have s4 := World.grownBy.size hgr4
    have k5 := Kp.below (B := w.heap.size + 1 + 1) hgr5 (by have := World.grownBy.size hgr4; simp; omega) (fun x hx => (hown4.lt x hx).1)
    have k : Below w.heap.size w w5 := Below.trans G3 (Below.mono (Below.trans k4 (Below.trans (Below.mono (gr_box w4 _) (by omega)) k5)) (by omega))
    exact Below.setCell k (show w.heap.size ≤ w.heap.size + 1 by omega) _

abbrev KS (w : World) (g n : Nat) (v1 v2 : Value) (w' : World) : Prop :=
  w'.cell? ⟨w.heap.size, 0, none⟩ = some v1 ∧ w'.cell? ⟨w.heap.size + 1, 0, none⟩ = some v2 ∧ w'.cell? ⟨g, n * 3, none⟩ = some (.string ⟨#[109, 97, 114, 107]⟩) ∧ Gr w w'
theorem KS.gr {w : World} {g n : Nat} {v1 v2 : Value} {w1 w2 : World} (h : KS w g n v1 v2 w1) (q : Gr w1 w2) : KS w g n v1 v2 w2 := ⟨q.cell h.1, q.cell h.2.1, q.cell h.2.2.1, h.2.2.2.trans q⟩
theorem boxes2 (a b : Value) (w : World) : ∃ W, W = (w.alloc (.cells #[a] 24)).alloc (.cells #[b] 24) ∧ Gr w W ∧ W.cell? ⟨w.heap.size, 0, none⟩ = some a ∧ W.cell? ⟨w.heap.size + 1, 0, none⟩ = some b ∧ W.heap.size = w.heap.size + 1 + 1 :=
  ⟨_, rfl, (gr_box w _).alloc _, by simp, by simp, by simp⟩
set_option maxRecDepth 100000 in
set_option maxHeartbeats 4000000 in
theorem kept_any (v v2 : Value) (L : List F) (B : Nat) (w : World) (hm : MO w B v L) (hv : FV w v2 L) :
    Calls Try.prog 16 #[.agg #[v], .agg #[v2]] w fun e w' => e = .returned (.bool true) ∧ Gr w w' := by
  obtain ⟨g, c, rfl, hr⟩ := id hm
  obtain ⟨hmk, hc1, hc63⟩ := hm.mark
  obtain ⟨A2, c2, hv2, _⟩ := id hv
  subst hv2
  have HV := Lib.hid hv
  have HM := Lib.hid hm.fo.fv
  obtain ⟨n, hn⟩ : ∃ n, n = L.length := ⟨_, rfl⟩
  have HN := Lib.hid hn
  rw [← hn] at HV HM hc1 hmk ⊢
  have hmc : w.cell? ⟨g, n * 3, none⟩ = some (.string ⟨#[109, 97, 114, 107]⟩) := hmk
  obtain ⟨W, hW, hG, b0, b1, hz⟩ := boxes2 (.slice (some ⟨g, 0, none⟩) n c) (.slice A2 n c2) w
  have HS : Hid (KS w g n (.slice (some ⟨g, 0, none⟩) n c) (.slice A2 n c2) W) := Lib.hid ⟨b0, b1, hG.cell hmc, hG⟩
  have hsl := slice_to n c (n + 1) hc1 (some ⟨g, 0, none⟩)
  rw [show (((n + 1 : Nat) : Int)) = (n : Int) + 1 by omega] at hsl
  have e1 : IntKind.i64.wrap ((n : Int) + 1) = (n : Int) + 1 := IntWalk.i64_in _ ⟨by omega, by omega⟩
  have HC := Lib.hid (fun w1 (q : Gr w w1) => same_any _ _ L L w1 (HM.out.gr q) (HV.out.gr q))
  rw [sameB_yes rfl] at HC
  have i0 : (0 : Int) ≤ (n : Int) := by omega
  have i1 : (n : Int) < (n : Int) + 1 := by omega
  have i2 : (n : Int) < ((n + 1 : Nat) : Int) := by omega
  clear hm hr hmk hv hn b0 b1 hmc
  go_enter Try.func16, Try.ntmps16
  go_upto_region 1 with (fail)
  rw [← hW]
  clear hW
  go_region_held3 (fun w' => KS w g n (.slice (some ⟨g, 0, none⟩) n c) (.slice A2 n c2) w')
    (first
      | (with_reducible exact HS.out)
      | (with_reducible exact KS.gr HS.out (Gr.refl _).drew)
      | (with_reducible exact KS.gr (KS.gr HS.out (Gr.refl _).drew) hb))
    (first
      | (go_at_call 15; (with_reducible refine (HC.out _ (KS.gr HS.out (Gr.refl _).drew).2.2.2).mono ?_); rintro e w4 ⟨rfl, hb⟩))
  have HG := Lib.hid (KS.gr (KS.gr HS.out (Gr.refl _).drew) hb).2.2.2
  go_wp2
  go_ret
  exact ⟨rfl, HG.out⟩
end Go.Proofs.Ytonlplfjiaejhaa
