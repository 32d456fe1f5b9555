/- Walks: the document's Value, of any kind. Laid once by wip/tools/genrv.py and by hand. The document's order rises; the places are the deeds in another order: sums and the last one agree; the two values are one. -/
import Derived.Test.YtlihcjlonafohaaGreatZf38
import Derived.Test.YtlihcjlonafohaaGreatZf39
import Derived.Test.YtlihcjlonafohaaGreatZf40
import Derived.Test.YtlihcjlonafohaaGreatZf41
import Derived.Test.YtlihcjlonafohaaGreatZf42
import Derived.Test.YtlihcjlonafohaaGreatZf43
import Derived.Test.YtlihcjlonafohaaGreatZf18
namespace Go.Proofs.YtlihcjlonafohaaGreat
open Go.RowKit Go.Joins
set_option linter.unusedSimpArgs false
set_option linter.unusedVariables false
/-- What the document's Value answers, of any kind at any cut. -/
def rvalV (kind start : Int) (l : LG) (v : Nat → Nat) (key : ByteArray) : VR := if valE kind l v = 0 then rvR kind start (ordR l v) key else ⟨0, [], false⟩
set_option maxRecDepth 100000 in
set_option maxHeartbeats 8000000 in
theorem rval_any (kind start : Int) (u : Nat → S3) (l : LG) (v : Nat → Nat) (key : ByteArray) (w : World) (h : LV w u l) (hq : FitQ l) (hfc : FitC l) (hb : wrap64 start = start) :
    Calls Tryz.prog 17 #[.int .i64 kind, .int .i64 start, .agg (lcells u), .agg (vcells v), .string key] w fun e w' => RetR (rvalV kind start l v key) (valE kind l v) w e w' := by
  by_cases hgood : valE kind l v = 0
  · have hr : rvalV kind start l v key = rvR kind start (ordR l v) key := by unfold rvalV; rw [if_pos hgood]
    rw [hr, hgood]
    have hk : ¬ (kind < 1 ∨ 8 < kind) := fun c => by unfold valE at hgood; rw [if_pos c] at hgood; omega
    have hok : checkE l = 0 := by
      unfold valE at hgood
      rw [if_neg hk] at hgood
      by_cases c : checkE l = 0
      · exact c
      · rw [if_neg c] at hgood; exact hgood
    have hcl : closedB l v = true := by
      unfold valE at hgood
      rw [if_neg hk, if_pos hok] at hgood
      by_cases c : closedB l v = true
      · exact c
      · rw [if_neg c] at hgood; omega
    obtain rfl | rfl | rfl | rfl | rfl | rfl | rfl | rfl : kind = 1 ∨ kind = 2 ∨ kind = 3 ∨ kind = 4 ∨ kind = 5 ∨ kind = 6 ∨ kind = 7 ∨ kind = 8 := by omega
    · exact rvalK1 start u l v key w h hq hfc hok hcl hb
    · exact rvalK2 start u l v key w h hq hfc hok hcl hb
    · exact rvalK3 start u l v key w h hq hfc hok hcl hb
    · exact rvalK4 start u l v key w h hq hfc hok hcl hb
    · exact rvalK5 start u l v key w h hq hfc hok hcl hb
    · exact rvalK6 start u l v key w h hq hfc hok hcl hb
    · exact rvalK7 start u l v key w h hq hfc hok hcl hb
    · exact rvalK8 start u l v key w h hq hfc hok hcl hb
  have hr : rvalV kind start l v key = ⟨0, [], false⟩ := by unfold rvalV; rw [if_neg hgood]
  rw [hr]
  clear hr
  obtain ⟨W, hW, hg, hL, hV, hz⟩ := boxesVa u v w
  have HSW : Hid (w.heap.size + 1 + 1 < W.heap.size) := Lib.hid (by rw [hW]; simp)
  have HL := Lib.hid hL
  have HV := Lib.hid hV
  have HZ := Lib.hid hz
  have HG := Lib.hid hg
  have hz0 := HZ.out
  have z0 : W.cell? ⟨w.heap.size + 1 + 1, 0, none⟩ = some (.int .i64 0) := by rw [cell_of_block hz0]; rfl
  have z1 : W.cell? ⟨w.heap.size + 1 + 1, 1, none⟩ = some (.slice none 0 0) := by rw [cell_of_block hz0]; rfl
  have z2 : W.cell? ⟨w.heap.size + 1 + 1, 2, none⟩ = some (.bool false) := by rw [cell_of_block hz0]; rfl
  have k0 := unfrozen_of_block hz0 0
  have k1 := unfrozen_of_block hz0 1
  have k2 := unfrozen_of_block hz0 2
  by_cases hk1 : kind < 1
  · have HE : Hid (valE kind l v = 100) := Lib.hid (by unfold valE; rw [if_pos (.inl hk1)])
    have d1 : decide (kind < 1) = true := decide_eq_true hk1
    rw [HE.out]
    clear hL hV hz hg h hq hb hfc hgood hz0
    go_enter Tryz.func17, Tryz.ntmps17
    go_upto_region 1 with (fail)
    rw [← hW]
    clear hW
    go_wp2_with fail
    refine bodyPost_ret (v := .tuple #[.agg (valv 0), .int .i64 100]) (by simp [results, Tryz.results17, go_sem, *]) rfl ⟨_, rfl, SV.nil _, ?_⟩
    show Gr w (((W.setCell _ _).setCell _ _).setCell _ _)
    exact ((HG.out.setCell (by simp only []; omega) _).setCell (by simp only []; omega) _).setCell (by simp only []; omega) _
  by_cases hk8 : 8 < kind
  · have HE : Hid (valE kind l v = 100) := Lib.hid (by unfold valE; rw [if_pos (.inr hk8)])
    have d1 : decide (kind < 1) = false := decide_eq_false hk1
    have d2 : decide (8 < kind) = true := decide_eq_true hk8
    rw [HE.out]
    clear hL hV hz hg h hq hb hfc hgood hz0
    go_enter Tryz.func17, Tryz.ntmps17
    go_upto_region 1 with (fail)
    rw [← hW]
    clear hW
    go_wp2_with fail
    refine bodyPost_ret (v := .tuple #[.agg (valv 0), .int .i64 100]) (by simp [results, Tryz.results17, go_sem, *]) rfl ⟨_, rfl, SV.nil _, ?_⟩
    show Gr w (((W.setCell _ _).setCell _ _).setCell _ _)
    exact ((HG.out.setCell (by simp only []; omega) _).setCell (by simp only []; omega) _).setCell (by simp only []; omega) _
  have hkk : ¬ (kind < 1 ∨ 8 < kind) := by omega
  have HKK : Hid (1 ≤ kind ∧ kind ≤ 8) := Lib.hid (by omega)
  have d1 : decide (kind < 1) = false := decide_eq_false hk1
  have d2 : decide (8 < kind) = false := decide_eq_false hk8
  have HCK := Lib.hid (fun w1 (g : Gr W w1) => rcheck9_any u l w1 ((h.gr hg).gr g) hq)
  obtain ⟨l0, l1, l2, l3, l4, l5, l6, l7⟩ := hL.all
  obtain ⟨ce, hce⟩ : ∃ c, c = checkE l := ⟨_, rfl⟩
  rw [← hce] at HCK
  by_cases hc0 : ce = 0
  · have hok : checkE l = 0 := by rw [← hce]; exact hc0
    have HCL := Lib.hid (fun w1 (g : Gr W w1) => rclosed_any u l v w1 ((h.gr hg).gr g))
    subst hc0
    by_cases hcl : closedB l v = true
    · exact absurd (by unfold valE; rw [if_neg hkk, if_pos hok, if_pos hcl]) hgood
    · have hcl : closedB l v = false := Bool.eq_false_iff.2 hcl
      have HE : Hid (valE kind l v = 92) := Lib.hid (by unfold valE; rw [if_neg hkk, if_pos hok, hcl]; rfl)
      rw [hcl] at HCL
      rw [HE.out]
      clear hL hV hz hg h hq hb hfc hgood hz0 hok hcl z0 z1 z2 k0 k1 k2 hce hkk hk1 hk8
      go_enter Tryz.func17, Tryz.ntmps17
      go_upto_region 1 with (fail)
      rw [← hW]
      clear hW
      go_wp2_with fail
      refine (HCK.out _ (Gr.refl _)).mono ?_
      rintro e w2 ⟨rfl, g2⟩
      have HG2 := Lib.hid g2
      clear g2 l0 l1 l2 l3 l4 l5 l6 l7
      obtain ⟨l0, l1, l2, l3, l4, l5, l6, l7⟩ := (HL.out.gr HG2.out).all
      obtain ⟨v0, v1, v2, v3, v4, v5, v6, v7⟩ := (HV.out.gr HG2.out).all
      go_wp2_with fail
      refine (HCL.out _ HG2.out).mono ?_
      rintro e w3 ⟨rfl, g3⟩
      have HG3 := Lib.hid (HG2.out.trans g3)
      clear g3 l0 l1 l2 l3 l4 l5 l6 l7 v0 v1 v2 v3 v4 v5 v6 v7
      have hz2 := gr_obj HG3.out HZ.out
      have z0 : w3.cell? ⟨w.heap.size + 1 + 1, 0, none⟩ = some (.int .i64 0) := by rw [cell_of_block hz2]; rfl
      have z1 : w3.cell? ⟨w.heap.size + 1 + 1, 1, none⟩ = some (.slice none 0 0) := by rw [cell_of_block hz2]; rfl
      have z2 : w3.cell? ⟨w.heap.size + 1 + 1, 2, none⟩ = some (.bool false) := by rw [cell_of_block hz2]; rfl
      have k0 := unfrozen_of_block hz2 0
      have k1 := unfrozen_of_block hz2 1
      have k2 := unfrozen_of_block hz2 2
      clear hz2
      go_wp2_with fail
      refine bodyPost_ret (v := .tuple #[.agg (valv 0), .int .i64 92]) (by simp [results, Tryz.results17, go_sem, *]) rfl ⟨_, rfl, SV.nil _, ?_⟩
      show Gr w (((w3.setCell _ _).setCell _ _).setCell _ _)
      exact (((HG.out.trans HG3.out).setCell (by simp only []; omega) _).setCell (by simp only []; omega) _).setCell (by simp only []; omega) _
  · have hok : ¬ checkE l = 0 := by rw [← hce]; exact hc0
    have HE : Hid (valE kind l v = ce) := Lib.hid (by unfold valE; rw [if_neg hkk, if_neg hok]; exact hce.symm)
    have hc1 : ¬ (ce : Int) = 0 := by omega
    have hc2 : decide ((ce : Int) = 0) = false := decide_eq_false hc1
    have hc3 : ((ce : Int) == 0) = false := beq_eq_false_iff_ne.2 hc1
    rw [HE.out]
    clear hL hV hz hg h hq hb hfc hgood hz0 hok z0 z1 z2 k0 k1 k2 hce hkk hk1 hk8
    go_enter Tryz.func17, Tryz.ntmps17
    go_upto_region 1 with (fail)
    rw [← hW]
    clear hW
    go_wp2_with fail
    refine (HCK.out _ (Gr.refl _)).mono ?_
    rintro e w3 ⟨rfl, g2⟩
    have HG3 := Lib.hid g2
    clear g2 l0 l1 l2 l3 l4 l5 l6 l7
    have hz2 := gr_obj HG3.out HZ.out
    have z0 : w3.cell? ⟨w.heap.size + 1 + 1, 0, none⟩ = some (.int .i64 0) := by rw [cell_of_block hz2]; rfl
    have z1 : w3.cell? ⟨w.heap.size + 1 + 1, 1, none⟩ = some (.slice none 0 0) := by rw [cell_of_block hz2]; rfl
    have z2 : w3.cell? ⟨w.heap.size + 1 + 1, 2, none⟩ = some (.bool false) := by rw [cell_of_block hz2]; rfl
    have k0 := unfrozen_of_block hz2 0
    have k1 := unfrozen_of_block hz2 1
    have k2 := unfrozen_of_block hz2 2
    clear hz2
    go_wp2_with fail
    refine bodyPost_ret (v := .tuple #[.agg (valv 0), .int .i64 (ce : Int)]) (by simp [results, Tryz.results17, go_sem, *]) rfl ⟨_, rfl, SV.nil _, ?_⟩
    show Gr w (((w3.setCell _ _).setCell _ _).setCell _ _)
    exact (((HG.out.trans HG3.out).setCell (by simp only []; omega) _).setCell (by simp only []; omega) _).setCell (by simp only []; omega) _
end Go.Proofs.YtlihcjlonafohaaGreat
namespace Go.Proofs.YtlihcjlonafohaaGreat
open Go.RowKit Go.Joins
set_option linter.unusedSimpArgs false
set_option linter.unusedVariables false

def AhP (a b : TX) : Prop := a.stamp < b.stamp ∨ (a.stamp = b.stamp ∧ (a.origin < b.origin ∨ (a.origin = b.origin ∧ a.seq < b.seq)))
theorem ahead_iff {a b : TX} : aheadB a b = true ↔ AhP a b := by
  unfold aheadB AhP
  by_cases h1 : a.stamp = b.stamp
  · rw [if_pos h1]
    by_cases h2 : a.origin = b.origin
    · rw [if_pos h2, decide_eq_true_eq]; omega
    · rw [if_neg h2, decide_eq_true_eq]; omega
  · rw [if_neg h1, decide_eq_true_eq]; omega
theorem plc_spec {t : TX} {L : List TX} : ∀ k, k ≤ L.length → (∀ j (hj : j < L.length), plc t L k ≤ j → j < k → AhP t L[j]) ∧ (∀ j (hj : j < L.length), j + 1 = plc t L k → ¬ AhP t L[j])
  | 0, _ => ⟨fun j _ _ h => absurd h (Nat.not_lt_zero _), fun j _ h => (by have : plc t L 0 = 0 := rfl; omega)⟩
  | k + 1, hk => by
    obtain ⟨ih1, ih2⟩ := plc_spec (t := t) (L := L) k (by omega)
    have hkl : k < L.length := by omega
    have hx : L[k]? = some L[k] := List.getElem?_eq_getElem hkl
    by_cases ha : aheadB t L[k] = true
    · rw [plc_yes hx ha]
      refine ⟨fun j hj h1 h2 => ?_, ih2⟩
      by_cases e : j = k
      · subst e; exact ahead_iff.1 ha
      · exact ih1 j hj h1 (by omega)
    · rw [plc_no hx (Bool.eq_false_iff.2 ha)]
      refine ⟨fun j hj h1 h2 => by omega, fun j hj h => ?_⟩
      have e : j = k := by omega
      subst e
      exact fun c => ha (ahead_iff.2 c)
theorem insT_sorted {t : TX} {L : List TX} (h : L.Pairwise AhP) (ht : ∀ x ∈ L, AhP t x ∨ AhP x t) : (insT t L).Pairwise AhP := by
  obtain ⟨s1, s2⟩ := plc_spec (t := t) (L := L) L.length (Nat.le_refl _)
  have hple := plc_le t L L.length
  unfold insT
  obtain ⟨p, hp⟩ : ∃ p, p = plc t L L.length := ⟨_, rfl⟩
  rw [← hp] at s1 s2 hple ⊢
  have hcut : (L.take p ++ L.drop p).Pairwise AhP := by rw [List.take_append_drop]; exact h
  rw [List.pairwise_append] at hcut ⊢
  have hbef : ∀ a ∈ L.take p, AhP a t := by
    intro a ha
    obtain ⟨j, hj, rfl⟩ := List.mem_iff_getElem.1 ha
    have hjp : j < p := by rw [List.length_take] at hj; omega
    rw [List.getElem_take]
    have hz : AhP L[p - 1] t := by
      rcases ht L[p - 1] (List.getElem_mem (by omega)) with c | c
      · exact absurd c (s2 (p - 1) (by omega) (by omega))
      · exact c
    by_cases e : j = p - 1
    · subst e; exact hz
    · have := (List.pairwise_iff_getElem.1 h) j (p - 1) (by omega) (by omega) (by omega)
      unfold AhP at this hz ⊢
      omega
  refine ⟨hcut.1, List.pairwise_cons.2 ⟨fun x hx => ?_, hcut.2.1⟩, fun a ha b hb => ?_⟩
  · obtain ⟨j, hj, rfl⟩ := List.mem_iff_getElem.1 hx
    rw [List.length_drop] at hj
    rw [List.getElem_drop]
    exact s1 (p + j) (by omega) (by omega) (by omega)
  · rcases List.mem_cons.1 hb with rfl | hb
    · exact hbef a ha
    · exact hcut.2.2 a ha b hb
theorem total_tx {a b : TX} (h : ¬ (a.origin = b.origin ∧ a.seq = b.seq)) : AhP a b ∨ AhP b a := by
  unfold AhP
  omega
theorem ordIn_sorted {l : LG} (hl : OkL l) {i : Nat} (hi : i < 8) {acc : List TX} (hacc : acc.Pairwise AhP) (ho : ∀ x ∈ acc, x.origin < (i : Int)) : ∀ d, (ordIn l i acc d).Pairwise AhP
  | 0 => hacc
  | d + 1 => by
    have ih := ordIn_sorted hl hi hacc ho d
    cases ht : (l i)[d]? with
    | none => unfold ordIn; rw [ht]; exact ih
    | some t =>
      rw [ordIn_at ht]
      refine insT_sorted ih fun x hx => total_tx fun e => ?_
      obtain ⟨-, h2, h3, -⟩ := hl.tx i d t hi ht
      rcases ordIn_mem.1 hx with hx | ⟨k, hk, hx⟩
      · have := ho x hx
        omega
      · obtain ⟨-, g2, g3, -⟩ := hl.tx i k x hi hx
        omega
theorem ordTo_sorted {l : LG} (hl : OkL l) (v : Nat → Nat) : ∀ n, n ≤ 8 → (ordTo l v n).Pairwise AhP
  | 0, _ => List.Pairwise.nil
  | n + 1, hn => by
    refine ordIn_sorted hl (by omega) (ordTo_sorted hl v n (by omega)) (fun x hx => ?_) _
    obtain ⟨i, k, hi, -, hx⟩ := ordTo_mem.1 hx
    obtain ⟨-, h2, -⟩ := hl.tx i k x (by omega) hx
    omega
/-- The document's places, one ahead of the other. -/
def PlR (x y : TX × Nat) : Prop := AhP x.1 y.1 ∨ (x.1 = y.1 ∧ x.2 < y.2)
theorem plTx_pw (key : ByteArray) (kind : Int) (t : TX) : ∀ j, (plTx key kind t j).Pairwise PlR
  | 0 => List.Pairwise.nil
  | j + 1 => by
    cases ho : t.ops[j]? with
    | none =>
      have : plTx key kind t (j + 1) = plTx key kind t j := by
        show plTx key kind t j ++ _ = _
        rw [ho]; simp
      rw [this]
      exact plTx_pw key kind t j
    | some o =>
      rw [plTx_next ho, List.pairwise_append]
      refine ⟨plTx_pw key kind t j, ?_, fun a ha b hb => ?_⟩
      · split
        · exact List.pairwise_singleton _ _
        · exact List.Pairwise.nil
      · obtain ⟨h1, h2, -⟩ := plTx_mem.1 ha
        split at hb
        · obtain rfl := List.mem_singleton.1 hb
          exact .inr ⟨h1, h2⟩
        · cases hb
theorem plTo_pw {key : ByteArray} {kind : Int} {L : List TX} (h : L.Pairwise AhP) : ∀ k, (plTo key kind L k).Pairwise PlR
  | 0 => List.Pairwise.nil
  | k + 1 => by
    cases ht : L[k]? with
    | none =>
      have : plTo key kind L (k + 1) = plTo key kind L k := by
        show plTo key kind L k ++ _ = _
        rw [ht]; simp
      rw [this]
      exact plTo_pw h k
    | some t =>
      rw [plTo_next ht, List.pairwise_append]
      refine ⟨plTo_pw h k, plTx_pw key kind t _, fun a ha b hb => .inl ?_⟩
      obtain ⟨⟨i, hi, h1⟩, -⟩ := plTo_mem.1 ha
      obtain ⟨h2, -⟩ := plTx_mem.1 hb
      obtain ⟨hk1, hk2⟩ := List.getElem?_eq_some_iff.1 ht
      obtain ⟨hi1, hi2⟩ := List.getElem?_eq_some_iff.1 h1
      have := (List.pairwise_iff_getElem.1 h) i k hi1 hk1 hi
      rw [hi2, hk2] at this
      rw [h2]
      exact this
theorem plL_pw {key : ByteArray} {kind : Int} {l : LG} {v : Nat → Nat} (hl : OkL l) : (plL key kind (ordR l v)).Pairwise PlR := plTo_pw (ordTo_sorted hl _ 8 (Nat.le_refl _)) _
/-- The program's deeds, one ahead of the other. -/
def ZR (x y : TX × Nat) : Prop := x.1.origin < y.1.origin ∨ (x.1.origin = y.1.origin ∧ x.1.seq < y.1.seq) ∨ (x.1.origin = y.1.origin ∧ x.1.seq = y.1.seq ∧ x.2 < y.2)
theorem dTx_pw (key : ByteArray) (t : TX) : ∀ j, (dTx key t j).Pairwise ZR
  | 0 => List.Pairwise.nil
  | j + 1 => by
    unfold dTx
    rw [List.pairwise_append]
    refine ⟨dTx_pw key t j, ?_, fun a ha b hb => ?_⟩
    · split
      · split
        · exact List.pairwise_singleton _ _
        · exact List.Pairwise.nil
      · exact List.Pairwise.nil
    · obtain ⟨h1, h2, -⟩ := dTx_mem.1 ha
      split at hb
      · split at hb
        · obtain rfl := List.mem_singleton.1 hb
          exact .inr (.inr ⟨by rw [h1], by rw [h1], h2⟩)
        · cases hb
      · cases hb
def sumR : List (TX × Nat) → Int
  | [] => 0
  | x :: r => (opAt x.1 x.2).n + sumR r
theorem sumR_app : ∀ A B : List (TX × Nat), sumR (A ++ B) = sumR A + sumR B
  | [], B => by simp [sumR]
  | x :: r, B => by
    show _ + sumR (r ++ B) = _ + sumR r + _
    rw [sumR_app r B]
    omega
theorem sumP_R (L : List (TX × Nat)) : ∀ j, j ≤ L.length → sumP L j = sumR (L.take j)
  | 0, _ => rfl
  | j + 1, hj => by
    have hx : L[j]? = some L[j] := List.getElem?_eq_getElem (by omega)
    rw [sumP_next (by omega), sumP_R L j (by omega), List.take_add_one, hx, sumR_app]
    show _ = _ + (_ + 0)
    omega
end Go.Proofs.YtlihcjlonafohaaGreat
