/- Texts VdI1, VdI2, VdI0, VdI3, VdI4, VdI5, VdI6, VdI7, VdI8, VdJ, VdM, joined. -/
import Derived.Test.YtlihcjlonafohaaG38
import Derived.Test.YtlihcjlonafohaaG22
/- Walks: the document's Value, kind 1. Written by wip/tools/genrv.py. -/
namespace Go.Proofs.Ytlihcjlonafohaa
open Go.RowKit Go.Joins
set_option linter.unusedSimpArgs false
set_option linter.unusedVariables false

end Go.Proofs.Ytlihcjlonafohaa
/- Walks: the document's Value, kind 2. Written by wip/tools/genrv.py. -/
namespace Go.Proofs.Ytlihcjlonafohaa
open Go.RowKit Go.Joins
set_option linter.unusedSimpArgs false
set_option linter.unusedVariables false

end Go.Proofs.Ytlihcjlonafohaa
/- Walks: the document's Value, what the rounds share. Written by wip/tools/genrv.py. -/
namespace Go.Proofs.Ytlihcjlonafohaa
open Go.RowKit Go.Joins
set_option linter.unusedSimpArgs false
set_option linter.unusedVariables false
theorem plL_cap {key : ByteArray} {kind : Int} {O : List TX} (h : ∀ t ∈ O, t.ops.length ≤ 8) (hO : O.length ≤ 65536) : (plL key kind O).length ≤ 600000 := by
  have := plTo_len key kind O h O.length
  unfold plL
  omega
theorem sv_newQ (w : World) (s : ByteArray) : ∃ W, W = w.alloc (.cells #[.string s] 9) ∧ Gr w W ∧ SV W (.slice (some ⟨w.heap.size, 0, none⟩) 1 1) [s] := by
  refine ⟨_, rfl, (Gr.refl w).alloc _, some ⟨w.heap.size, 0, none⟩, 1, rfl, Nat.le_refl _, ⟨by unfold maxLen; omega, fun e => (by cases e)⟩, fun j hj => ⟨w.heap.size, 0, rfl, ?_⟩⟩
  have hj : j < 1 := hj
  obtain rfl : j = 0 := by omega
  rw [cell_of_block (heap_alloc w #[.string s] 9)]; rfl
/-- The flag behind the first j rounds. -/
def onT (b : Bool) (P : TX × Nat → Bool) (L : List (TX × Nat)) : Nat → Bool
  | 0 => b
  | j + 1 => match L[j]? with | some x => onT b P L j || P x | none => onT b P L j
theorem onT_at {b : Bool} {P : TX × Nat → Bool} {L : List (TX × Nat)} {j : Nat} {x : TX × Nat} (h : L[j]? = some x) : onT b P L (j + 1) = (onT b P L j || P x) := by
  show (match L[j]? with | some x => _ | none => _) = _
  rw [h]
theorem onT_all (b : Bool) (P : TX × Nat → Bool) (L : List (TX × Nat)) : onT b P L L.length = (b || L.any P) := by
  have h : ∀ j, j ≤ L.length → onT b P L j = (b || (L.take j).any P) := by
    intro j
    induction j with
    | zero => intro _; simp [onT]
    | succ j ih =>
      intro hj
      have hx : L[j]? = some L[j] := List.getElem?_eq_getElem hj
      rw [onT_at hx, ih (by omega), List.take_add_one, hx, List.any_append]
      simp [Bool.or_assoc]
  rw [h _ (Nat.le_refl _), List.take_length]
def SgA (Q b off nn cc j mq cq : Nat) (Aq : Option Addr) (y : TX × Nat) (vy : Value) (yk yn : Int) (yy ye : ByteArray) (E : List ByteArray) : Nat → SpecG
  | 0 => SpecG.fix (.pointer (some ⟨Q, 1, none⟩))
  | 1 => SpecG.fix (.slice Aq mq cq)
  | 2 => SpecG.fix (.slice (some ⟨b, off, none⟩) nn cc)
  | 3 => SpecG.fix (.int .i64 (j : Int))
  | 4 => SpecG.fix (.pointer (some ⟨b, off + j * 13, none⟩))
  | 5 => SpecG.fix (.agg (pcs y.1 vy y.2))
  | 6 => SpecG.fix (.agg #[.int .i64 yk, .string yy, .string ye, .int .i64 yn])
  | 7 => SpecG.fix (.string ye)
  | 8 => SpecG.strs ((intoT ye E).length) (intoT ye E)
  | 9 => SpecG.fix (.pointer (some ⟨Q, 1, none⟩))
  | _ => SpecG.any
end Go.Proofs.Ytlihcjlonafohaa
/- Walks: the document's Value, kind 3. Written by wip/tools/genrv.py. -/
namespace Go.Proofs.Ytlihcjlonafohaa
open Go.RowKit Go.Joins
set_option linter.unusedSimpArgs false
set_option linter.unusedVariables false

end Go.Proofs.Ytlihcjlonafohaa
/- Walks: the document's Value, kind 4. Written by wip/tools/genrv.py. -/
namespace Go.Proofs.Ytlihcjlonafohaa
open Go.RowKit Go.Joins
set_option linter.unusedSimpArgs false
set_option linter.unusedVariables false

end Go.Proofs.Ytlihcjlonafohaa
/- Walks: the document's Value, kind 5. Written by wip/tools/genrv.py. -/
namespace Go.Proofs.Ytlihcjlonafohaa
open Go.RowKit Go.Joins
set_option linter.unusedSimpArgs false
set_option linter.unusedVariables false

end Go.Proofs.Ytlihcjlonafohaa
/- Walks: the document's Value, kind 6. Written by wip/tools/genrv.py. -/
namespace Go.Proofs.Ytlihcjlonafohaa
open Go.RowKit Go.Joins
set_option linter.unusedSimpArgs false
set_option linter.unusedVariables false

end Go.Proofs.Ytlihcjlonafohaa
/- Walks: the document's Value, kind 7. Written by wip/tools/genrv.py. -/
namespace Go.Proofs.Ytlihcjlonafohaa
open Go.RowKit Go.Joins
set_option linter.unusedSimpArgs false
set_option linter.unusedVariables false

end Go.Proofs.Ytlihcjlonafohaa
/- Walks: the document's Value, kind 8. Written by wip/tools/genrv.py. -/
namespace Go.Proofs.Ytlihcjlonafohaa
open Go.RowKit Go.Joins
set_option linter.unusedSimpArgs false
set_option linter.unusedVariables false

end Go.Proofs.Ytlihcjlonafohaa
/- Walks: the document's Value, of any kind. Laid once by wip/tools/genrv.py and by hand. -/
namespace Go.Proofs.Ytlihcjlonafohaa
open Go.RowKit Go.Joins
set_option linter.unusedSimpArgs false
set_option linter.unusedVariables false
/-- What the document's Value answers, of any kind at any cut. -/
def rvalV (kind start : Int) (l : LG) (v : Nat → Nat) (key : ByteArray) : VR := if valE kind l v = 0 then rvR kind start (ordR l v) key else ⟨0, [], false⟩
end Go.Proofs.Ytlihcjlonafohaa
/- The document's order rises; the places are the deeds in another order: sums and the last one agree; the two values are one. -/
namespace Go.Proofs.Ytlihcjlonafohaa
open Go.RowKit Go.Joins
set_option linter.unusedSimpArgs false
set_option linter.unusedVariables false

def AhP (a b : TX) : Prop := a.stamp < b.stamp ∨ (a.stamp = b.stamp ∧ (a.origin < b.origin ∨ (a.origin = b.origin ∧ a.seq < b.seq)))
theorem ahead_iff {a b : TX} : aheadB a b = true ↔ AhP a b := by
  unfold aheadB AhP
  by_cases h1 : a.stamp = b.stamp
  · rw [if_pos h1]
    by_cases h2 : a.origin = b.origin
    · rw [if_pos h2, decide_eq_true_eq]; omega
    · rw [if_neg h2, decide_eq_true_eq]; omega
  · rw [if_neg h1, decide_eq_true_eq]; omega
theorem plc_spec {t : TX} {L : List TX} : ∀ k, k ≤ L.length → (∀ j (hj : j < L.length), plc t L k ≤ j → j < k → AhP t L[j]) ∧ (∀ j (hj : j < L.length), j + 1 = plc t L k → ¬ AhP t L[j])
  | 0, _ => ⟨fun j _ _ h => absurd h (Nat.not_lt_zero _), fun j _ h => (by have : plc t L 0 = 0 := rfl; omega)⟩
  | k + 1, hk => by
    obtain ⟨ih1, ih2⟩ := plc_spec (t := t) (L := L) k (by omega)
    have hkl : k < L.length := by omega
    have hx : L[k]? = some L[k] := List.getElem?_eq_getElem hkl
    by_cases ha : aheadB t L[k] = true
    · rw [plc_yes hx ha]
      refine ⟨fun j hj h1 h2 => ?_, ih2⟩
      by_cases e : j = k
      · subst e; exact ahead_iff.1 ha
      · exact ih1 j hj h1 (by omega)
    · rw [plc_no hx (Bool.eq_false_iff.2 ha)]
      refine ⟨fun j hj h1 h2 => by omega, fun j hj h => ?_⟩
      have e : j = k := by omega
      subst e
      exact fun c => ha (ahead_iff.2 c)
theorem insT_sorted {t : TX} {L : List TX} (h : L.Pairwise AhP) (ht : ∀ x ∈ L, AhP t x ∨ AhP x t) : (insT t L).Pairwise AhP := by
  obtain ⟨s1, s2⟩ := plc_spec (t := t) (L := L) L.length (Nat.le_refl _)
  have hple := plc_le t L L.length
  unfold insT
  obtain ⟨p, hp⟩ : ∃ p, p = plc t L L.length := ⟨_, rfl⟩
  rw [← hp] at s1 s2 hple ⊢
  have hcut : (L.take p ++ L.drop p).Pairwise AhP := by rw [List.take_append_drop]; exact h
  rw [List.pairwise_append] at hcut ⊢
  have hbef : ∀ a ∈ L.take p, AhP a t := by
    intro a ha
    obtain ⟨j, hj, rfl⟩ := List.mem_iff_getElem.1 ha
    have hjp : j < p := by rw [List.length_take] at hj; omega
    rw [List.getElem_take]
    have hz : AhP L[p - 1] t := by
      rcases ht L[p - 1] (List.getElem_mem (by omega)) with c | c
      · exact absurd c (s2 (p - 1) (by omega) (by omega))
      · exact c
    by_cases e : j = p - 1
    · subst e; exact hz
    · have := (List.pairwise_iff_getElem.1 h) j (p - 1) (by omega) (by omega) (by omega)
      unfold AhP at this hz ⊢
      omega
  refine ⟨hcut.1, List.pairwise_cons.2 ⟨fun x hx => ?_, hcut.2.1⟩, fun a ha b hb => ?_⟩
  · obtain ⟨j, hj, rfl⟩ := List.mem_iff_getElem.1 hx
    rw [List.length_drop] at hj
    rw [List.getElem_drop]
    exact s1 (p + j) (by omega) (by omega) (by omega)
  · rcases List.mem_cons.1 hb with rfl | hb
    · exact hbef a ha
    · exact hcut.2.2 a ha b hb
theorem total_tx {a b : TX} (h : ¬ (a.origin = b.origin ∧ a.seq = b.seq)) : AhP a b ∨ AhP b a := by
  unfold AhP
  omega
theorem ordIn_sorted {l : LG} (hl : OkL l) {i : Nat} (hi : i < 8) {acc : List TX} (hacc : acc.Pairwise AhP) (ho : ∀ x ∈ acc, x.origin < (i : Int)) : ∀ d, (ordIn l i acc d).Pairwise AhP
  | 0 => hacc
  | d + 1 => by
    have ih := ordIn_sorted hl hi hacc ho d
    cases ht : (l i)[d]? with
    | none => unfold ordIn; rw [ht]; exact ih
    | some t =>
      rw [ordIn_at ht]
      refine insT_sorted ih fun x hx => total_tx fun e => ?_
      obtain ⟨-, h2, h3, -⟩ := hl.tx i d t hi ht
      rcases ordIn_mem.1 hx with hx | ⟨k, hk, hx⟩
      · have := ho x hx
        omega
      · obtain ⟨-, g2, g3, -⟩ := hl.tx i k x hi hx
        omega
theorem ordTo_sorted {l : LG} (hl : OkL l) (v : Nat → Nat) : ∀ n, n ≤ 8 → (ordTo l v n).Pairwise AhP
  | 0, _ => List.Pairwise.nil
  | n + 1, hn => by
    refine ordIn_sorted hl (by omega) (ordTo_sorted hl v n (by omega)) (fun x hx => ?_) _
    obtain ⟨i, k, hi, -, hx⟩ := ordTo_mem.1 hx
    obtain ⟨-, h2, -⟩ := hl.tx i k x (by omega) hx
    omega
/-- The document's places, one ahead of the other. -/
def PlR (x y : TX × Nat) : Prop := AhP x.1 y.1 ∨ (x.1 = y.1 ∧ x.2 < y.2)
theorem plTx_pw (key : ByteArray) (kind : Int) (t : TX) : ∀ j, (plTx key kind t j).Pairwise PlR
  | 0 => List.Pairwise.nil
  | j + 1 => by
    cases ho : t.ops[j]? with
    | none =>
      have : plTx key kind t (j + 1) = plTx key kind t j := by
        show plTx key kind t j ++ _ = _
        rw [ho]; simp
      rw [this]
      exact plTx_pw key kind t j
    | some o =>
      rw [plTx_next ho, List.pairwise_append]
      refine ⟨plTx_pw key kind t j, ?_, fun a ha b hb => ?_⟩
      · split
        · exact List.pairwise_singleton _ _
        · exact List.Pairwise.nil
      · obtain ⟨h1, h2, -⟩ := plTx_mem.1 ha
        split at hb
        · obtain rfl := List.mem_singleton.1 hb
          exact .inr ⟨h1, h2⟩
        · cases hb
theorem plTo_pw {key : ByteArray} {kind : Int} {L : List TX} (h : L.Pairwise AhP) : ∀ k, (plTo key kind L k).Pairwise PlR
  | 0 => List.Pairwise.nil
  | k + 1 => by
    cases ht : L[k]? with
    | none =>
      have : plTo key kind L (k + 1) = plTo key kind L k := by
        show plTo key kind L k ++ _ = _
        rw [ht]; simp
      rw [this]
      exact plTo_pw h k
    | some t =>
      rw [plTo_next ht, List.pairwise_append]
      refine ⟨plTo_pw h k, plTx_pw key kind t _, fun a ha b hb => .inl ?_⟩
      obtain ⟨⟨i, hi, h1⟩, -⟩ := plTo_mem.1 ha
      obtain ⟨h2, -⟩ := plTx_mem.1 hb
      obtain ⟨hk1, hk2⟩ := List.getElem?_eq_some_iff.1 ht
      obtain ⟨hi1, hi2⟩ := List.getElem?_eq_some_iff.1 h1
      have := (List.pairwise_iff_getElem.1 h) i k hi1 hk1 hi
      rw [hi2, hk2] at this
      rw [h2]
      exact this
theorem plL_pw {key : ByteArray} {kind : Int} {l : LG} {v : Nat → Nat} (hl : OkL l) : (plL key kind (ordR l v)).Pairwise PlR := plTo_pw (ordTo_sorted hl _ 8 (Nat.le_refl _)) _
/-- The program's deeds, one ahead of the other. -/
def ZR (x y : TX × Nat) : Prop := x.1.origin < y.1.origin ∨ (x.1.origin = y.1.origin ∧ x.1.seq < y.1.seq) ∨ (x.1.origin = y.1.origin ∧ x.1.seq = y.1.seq ∧ x.2 < y.2)
theorem dTx_pw (key : ByteArray) (t : TX) : ∀ j, (dTx key t j).Pairwise ZR
  | 0 => List.Pairwise.nil
  | j + 1 => by
    unfold dTx
    rw [List.pairwise_append]
    refine ⟨dTx_pw key t j, ?_, fun a ha b hb => ?_⟩
    · split
      · split
        · exact List.pairwise_singleton _ _
        · exact List.Pairwise.nil
      · exact List.Pairwise.nil
    · obtain ⟨h1, h2, -⟩ := dTx_mem.1 ha
      split at hb
      · split at hb
        · obtain rfl := List.mem_singleton.1 hb
          exact .inr (.inr ⟨by rw [h1], by rw [h1], h2⟩)
        · cases hb
      · cases hb
theorem dLog_pw {key : ByteArray} {l : LG} (hl : OkL l) {i : Nat} (hi : i < 8) : ∀ d, (dLog key l i d).Pairwise ZR
  | 0 => List.Pairwise.nil
  | d + 1 => by
    unfold dLog
    rw [List.pairwise_append]
    refine ⟨dLog_pw hl hi d, ?_, fun a ha b hb => ?_⟩
    · split
      · exact dTx_pw key _ _
      · exact List.Pairwise.nil
    · obtain ⟨⟨k, hk, h1⟩, -⟩ := dLog_mem.1 ha
      obtain ⟨-, a2, a3, -⟩ := hl.tx i k a.1 hi h1
      split at hb
      · next t ht =>
        obtain ⟨-, b2, b3, -⟩ := hl.tx i d t hi ht
        obtain ⟨e, -⟩ := dTx_mem.1 hb
        rw [← e] at b2 b3
        exact .inr (.inl ⟨by omega, by omega⟩)
      · cases hb
theorem dAll_pw {key : ByteArray} {l : LG} (hl : OkL l) (v : Nat → Nat) : ∀ n, n ≤ 8 → (dAll key l v n).Pairwise ZR
  | 0, _ => List.Pairwise.nil
  | n + 1, hn => by
    unfold dAll
    rw [List.pairwise_append]
    refine ⟨dAll_pw hl v n (by omega), dLog_pw hl (by omega) _, fun a ha b hb => .inl ?_⟩
    obtain ⟨⟨i, k, hi, -, h1⟩, -⟩ := dAll_mem.1 ha
    obtain ⟨⟨k', -, h2⟩, -⟩ := dLog_mem.1 hb
    obtain ⟨-, a2, -⟩ := hl.tx i k a.1 (by omega) h1
    obtain ⟨-, b2, -⟩ := hl.tx n k' b.1 (by omega) h2
    omega
theorem plZ_pw {key : ByteArray} {l : LG} (hl : OkL l) (v : Nat → Nat) (k : Int) : (plZ key l v k).Pairwise ZR := (dAll_pw hl v 8 (Nat.le_refl _)).filter _
theorem pl_perm {key : ByteArray} {l : LG} (hl : OkL l) (v : Nat → Nat) (k : Int) : (plZ key l v k).Perm (plL key k (ordR l v)) := by
  refine (List.perm_ext_iff_of_nodup ?_ ?_).2 fun a => plZ_mem
  · refine (plZ_pw hl v k).imp fun {a b} h e => ?_
    subst e
    unfold ZR at h
    omega
  · refine (plL_pw hl).imp fun {a b} h e => ?_
    subst e
    unfold PlR AhP at h
    omega
def sumR : List (TX × Nat) → Int
  | [] => 0
  | x :: r => (opAt x.1 x.2).n + sumR r
theorem sumR_app : ∀ A B : List (TX × Nat), sumR (A ++ B) = sumR A + sumR B
  | [], B => by simp [sumR]
  | x :: r, B => by
    show _ + sumR (r ++ B) = _ + sumR r + _
    rw [sumR_app r B]
    omega
theorem sumR_perm {A B : List (TX × Nat)} (h : A.Perm B) : sumR A = sumR B := by
  induction h with
  | nil => rfl
  | cons x _ ih => show _ + sumR _ = _ + sumR _; rw [ih]
  | swap x y l => show _ + (_ + sumR _) = _ + (_ + sumR _); omega
  | trans _ _ h1 h2 => exact h1.trans h2
theorem sumP_R (L : List (TX × Nat)) : ∀ j, j ≤ L.length → sumP L j = sumR (L.take j)
  | 0, _ => rfl
  | j + 1, hj => by
    have hx : L[j]? = some L[j] := List.getElem?_eq_getElem (by omega)
    rw [sumP_next (by omega), sumP_R L j (by omega), List.take_add_one, hx, sumR_app]
    show _ = _ + (_ + 0)
    omega
theorem sumD_P (L : List (TX × Nat)) : ∀ j, sumD (L.map toD) j = sumP L j
  | 0 => rfl
  | j + 1 => by
    show sumD (L.map toD) j + _ = sumP L j + _
    rw [sumD_P L j, List.getElem?_map]
    cases L[j]? <;> rfl
theorem sum_same {key : ByteArray} {l : LG} (hl : OkL l) (v : Nat → Nat) (k : Int) : sumD (kindF k ((dAll key l v 8).map toD)) (kindF k ((dAll key l v 8).map toD)).length = sumAll (plL key k (ordR l v)) := by
  rw [kindF_Z, List.length_map, sumD_P, sumP_R _ _ (Nat.le_refl _), List.take_length, sumR_perm (pl_perm hl v k)]
  unfold sumAll
  rw [sumP_R _ _ (Nat.le_refl _), List.take_length]
/-- The one on top. -/
def leM (y m : TX × Nat) : Prop := y.1.stamp < m.1.stamp ∨ (y.1.stamp = m.1.stamp ∧ (y = m ∨ ZR y m))
theorem top_is {Z : List (TX × Nat)} (h : Z.Pairwise ZR) : ∀ j, j ≤ Z.length → (j = 0 ∧ ((Z.take j).map toD).foldl topN none = none) ∨ ∃ m ∈ Z.take j, ((Z.take j).map toD).foldl topN none = some (toD m) ∧ ∀ y ∈ Z.take j, leM y m
  | 0, _ => .inl ⟨rfl, rfl⟩
  | j + 1, hj => by
    have hx : Z[j]? = some Z[j] := List.getElem?_eq_getElem (by omega)
    have et : Z.take (j + 1) = Z.take j ++ [Z[j]] := by rw [List.take_add_one, hx]; rfl
    have hbef : ∀ y ∈ Z.take j, ZR y Z[j] := fun y hy => by
      obtain ⟨i, hi, rfl⟩ := List.mem_iff_getElem.1 hy
      rw [List.length_take] at hi
      rw [List.getElem_take]
      exact (List.pairwise_iff_getElem.1 h) i j (by omega) (by omega) (by omega)
    rw [et, List.map_append, List.foldl_append]
    rcases top_is h j (by omega) with ⟨e, hn⟩ | ⟨m, hm, he, hall⟩
    · rw [hn]
      refine .inr ⟨Z[j], List.mem_append_right _ (List.mem_singleton.2 rfl), rfl, fun y hy => ?_⟩
      rcases List.mem_append.1 hy with hy | hy
      · subst e; cases hy
      · rw [List.mem_singleton.1 hy]; exact .inr ⟨rfl, .inl rfl⟩
    · rw [he]
      by_cases hle : m.1.stamp ≤ Z[j].1.stamp
      · refine .inr ⟨Z[j], List.mem_append_right _ (List.mem_singleton.2 rfl), ?_, fun y hy => ?_⟩
        · show topN (some (toD m)) (toD Z[j]) = _
          exact topN_yes hle
        · rcases List.mem_append.1 hy with hy | hy
          · have h1 := hall y hy
            have h2 := hbef y hy
            unfold leM at h1 ⊢
            rcases h1 with h1 | ⟨h1, -⟩
            · exact .inl (by omega)
            · by_cases e : y.1.stamp = Z[j].1.stamp
              · exact .inr ⟨e, .inr h2⟩
              · exact .inl (by omega)
          · rw [List.mem_singleton.1 hy]; exact .inr ⟨rfl, .inl rfl⟩
      · refine .inr ⟨m, List.mem_append_left _ hm, ?_, fun y hy => ?_⟩
        · show topN (some (toD m)) (toD Z[j]) = _
          exact topN_no hle
        · rcases List.mem_append.1 hy with hy | hy
          · exact hall y hy
          · rw [List.mem_singleton.1 hy]; exact .inl (by omega)
theorem last_same {key : ByteArray} {l : LG} (hl : OkL l) (v : Nat → Nat) :
    lastL ((dAll key l v 8).map toD) = (match (plL key 6 (ordR l v))[(plL key 6 (ordR l v)).length - 1]? with | some x => [elP x] | none => []) := by
  unfold lastL topD
  rw [kindF_Z]
  have hp := pl_perm (key := key) hl v 6
  have ht := top_is (plZ_pw (key := key) hl v 6) _ (Nat.le_refl _)
  rw [List.take_length] at ht
  rcases ht with ⟨e, hn⟩ | ⟨m, hm, he, hall⟩
  · rw [hn]
    have h0 : (plL key 6 (ordR l v)).length = 0 := by rw [← hp.length_eq]; exact e
    rw [List.getElem?_eq_none (by omega)]
    rfl
  · rw [he]
    have hm2 := plZ_mem.1 hm
    have hlen : 0 < (plL key 6 (ordR l v)).length := List.length_pos_of_mem hm2
    have hz : (plL key 6 (ordR l v))[(plL key 6 (ordR l v)).length - 1]? = some (plL key 6 (ordR l v))[(plL key 6 (ordR l v)).length - 1] := List.getElem?_eq_getElem (by omega)
    rw [hz]
    obtain ⟨z, hzz⟩ : ∃ z, z = (plL key 6 (ordR l v))[(plL key 6 (ordR l v)).length - 1] := ⟨_, rfl⟩
    have hzm : z ∈ plL key 6 (ordR l v) := by rw [hzz]; exact List.getElem_mem _
    have h1 := hall z (plZ_mem.2 hzm)
    have h2 : m = z ∨ PlR m z := by
      obtain ⟨i, hi, hie⟩ := List.mem_iff_getElem.1 hm2
      by_cases e : i = (plL key 6 (ordR l v)).length - 1
      · subst e
        exact .inl (by rw [hzz]; exact hie.symm)
      · have := (List.pairwise_iff_getElem.1 (plL_pw (key := key) (kind := 6) (v := v) hl)) i ((plL key 6 (ordR l v)).length - 1) hi (by omega) (by omega)
        rw [hie, ← hzz] at this
        exact .inr this
    have hmz : m = z := by
      rcases h2 with h2 | h2
      · exact h2
      · rcases h1 with h1 | ⟨h1, h1' | h1'⟩
        · exfalso
          rcases h2 with h2 | ⟨h2, -⟩
          · unfold AhP at h2; omega
          · rw [h2] at h1; omega
        · exact h1'.symm
        · exfalso
          unfold ZR at h1'
          rcases h2 with h2 | ⟨h2, h3⟩
          · unfold AhP at h2; omega
          · rw [h2] at h1'; omega
    rw [← hzz, ← hmz]
    rfl
/-- The document's value is the program's. -/
theorem rvR_same {kind start : Int} (hk : 1 ≤ kind ∧ kind ≤ 8) {l : LG} (hl : OkL l) (v : Nat → Nat) (key : ByteArray) : rvR kind start (ordR l v) key = valAt kind start l v key := by
  unfold valAt
  obtain rfl | rfl | rfl | rfl | rfl | rfl | rfl | rfl : kind = 1 ∨ kind = 2 ∨ kind = 3 ∨ kind = 4 ∨ kind = 5 ∨ kind = 6 ∨ kind = 7 ∨ kind = 8 := by omega
  · show VR.mk _ _ _ = VR.mk _ _ _
    unfold totD
    rw [sum_same hl, sum_same hl, Int.add_comm start, wrap_add]
    congr 2
    omega
  · show VR.mk _ _ _ = VR.mk _ _ _
    unfold totD
    rw [sum_same hl, sum_same hl, Int.add_comm start, wrap_add]
    congr 2
    omega
  · show VR.mk _ _ _ = VR.mk _ _ _
    rw [rise_same (P := fun x => ansB x (plL key 5 (ordR l v))) fun x hx => uns_ans hl (by decide) (by decide) hx]
  · show VR.mk _ _ _ = VR.mk _ _ _
    rw [firm_same hl]
  · show VR.mk _ _ _ = VR.mk _ _ _
    rw [last_same hl]
    cases (plL key 6 (ordR l v))[(plL key 6 (ordR l v)).length - 1]? <;> rfl
  · show VR.mk _ _ _ = VR.mk _ _ _
    rw [rise_same (P := fun x => covB x (plL key 6 (ordR l v))) fun x hx => uns_cov hl hx]
  · show VR.mk _ _ _ = VR.mk _ _ _
    rw [on_same hl]
  · show VR.mk _ _ _ = VR.mk _ _ _
    rw [rise_same (P := fun x => ansB x (plL key 5 (ordR l v))) fun x hx => uns_ans hl (by decide) (by decide) hx]
theorem rvalV_same (kind start : Int) (l : LG) (v : Nat → Nat) (key : ByteArray) : valV kind start l v key = rvalV kind start l v key := by
  unfold valV rvalV
  by_cases h : valE kind l v = 0
  · rw [if_pos h, if_pos h]
    obtain ⟨hk, hl, -⟩ := valE_ok h
    exact (rvR_same hk hl v key).symm
  · rw [if_neg h, if_neg h]
end Go.Proofs.Ytlihcjlonafohaa
