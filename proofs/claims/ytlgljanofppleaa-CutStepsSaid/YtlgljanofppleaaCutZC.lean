/- Walks: the document's Order. -/
import Derived.Test.YtlgljanofppleaaCutJ
import Derived.Test.YtlgljanofppleaaCutU
import Derived.Test.YtlgljanofppleaaCutZA
import Derived.Test.YtlgljanofppleaaCutQ
namespace Go.Proofs.Ytlgljanofppleaa
open Go.RowKit Go.Joins
set_option linter.unusedSimpArgs false
set_option linter.unusedVariables false

/-- By stamps, then by origins, then by numbers. -/
def aheadB (a b : TX) : Bool := if a.stamp = b.stamp then (if a.origin = b.origin then decide (a.seq < b.seq) else decide (a.origin < b.origin)) else decide (a.stamp < b.stamp)
/-- The place from k down that t goes to. -/
def plc (t : TX) (L : List TX) : Nat → Nat
  | 0 => 0
  | k + 1 => match L[k]? with | some x => if aheadB t x = true then plc t L k else k + 1 | none => k + 1
theorem plc_yes {t x : TX} {L : List TX} {k : Nat} (h : L[k]? = some x) (ha : aheadB t x = true) : plc t L (k + 1) = plc t L k := by
  show (match L[k]? with | some x => _ | none => _) = _
  rw [h]; simp only [ha, if_true]
theorem plc_no {t x : TX} {L : List TX} {k : Nat} (h : L[k]? = some x) (ha : aheadB t x = false) : plc t L (k + 1) = k + 1 := by
  show (match L[k]? with | some x => _ | none => _) = _
  rw [h]; simp [ha]
theorem plc_le (t : TX) (L : List TX) : ∀ k, plc t L k ≤ k
  | 0 => Nat.le_refl _
  | k + 1 => by
    have := plc_le t L k
    unfold plc
    split
    · split <;> omega
    · omega
def insT (t : TX) (L : List TX) : List TX := L.take (plc t L L.length) ++ t :: L.drop (plc t L L.length)
theorem insT_len (t : TX) (L : List TX) : (insT t L).length = L.length + 1 := by
  have := plc_le t L L.length
  unfold insT
  rw [List.length_append, List.length_cons, List.length_take, List.length_drop]
  omega
def ordIn (l : LG) (i : Nat) (acc : List TX) : Nat → List TX
  | 0 => acc
  | d + 1 => match (l i)[d]? with | some t => insT t (ordIn l i acc d) | none => ordIn l i acc d
def ordTo (l : LG) (v : Nat → Nat) : Nat → List TX
  | 0 => []
  | i + 1 => ordIn l i (ordTo l v i) (v i)
/-- What the document's Order answers. -/
def ordR (l : LG) (v : Nat → Nat) : List TX := ordTo l (mt v (sizeV l)) 8
theorem ordIn_at {l : LG} {i d : Nat} {acc : List TX} {t : TX} (h : (l i)[d]? = some t) : ordIn l i acc (d + 1) = insT t (ordIn l i acc d) := by
  show (match (l i)[d]? with | some t => _ | none => _) = _
  rw [h]
theorem ordIn_len (l : LG) (i : Nat) (acc : List TX) : ∀ d, d ≤ (l i).length → (ordIn l i acc d).length = acc.length + d
  | 0, _ => rfl
  | d + 1, h => by
    rw [ordIn_at (List.getElem?_eq_getElem (by omega)), insT_len, ordIn_len l i acc d (by omega)]
    omega
theorem ordTo_len (l : LG) (v : Nat → Nat) : ∀ i, (∀ j, j < i → v j ≤ (l j).length) → (ordTo l v i).length = sumTo v i
  | 0, _ => rfl
  | i + 1, h => by
    show (ordIn l i (ordTo l v i) (v i)).length = sumTo v i + v i
    rw [ordIn_len l i _ _ (h i (by omega)), ordTo_len l v i fun j hj => h j (by omega)]
theorem ordR_len (l : LG) (v : Nat → Nat) : (ordR l v).length = sumV (mt v (sizeV l)) := ordTo_len l _ 8 fun j _ => Nat.min_le_right _ _
/-- append of one transaction to a row of the call's own, in a region's forced order. -/
theorem wpList_push_tx {W : World} {ops : Array Oper} {rest : List Oper} {o : Oper} {a : Act} {Q : Exit → Act → World → Prop} (hw : Region.wanted o (yielded ops a.tmps) = true) (s x : Operand)
    (ho : o.op = .call { callee := .builtin .append, args := #[s, x], argTypes := #[22, 22] })
    (B : Nat) (v : Value) (n bn : Nat) (R : List TR) (t : TR) (hs : a.eval s = v) (hx : a.eval x = .slice (some ⟨bn, 0, none⟩) 1 1) (hown : W.ownsRow B 44 12 v n (trs R)) (ht : XFix W bn 0 t.1 t.2.v)
    (hlen : (n + 1) * 112 ≤ 140737488355328) (hB : B ≤ W.heap.size)
    (h : ∀ A' c' w', w'.ownsRow B 44 12 (.slice A' (n + 1) c') (n + 1) (trs (R ++ [t])) → W.grownBy w' v.ownBlock → ((Value.slice A' (n + 1) c').ownBlock = v.ownBlock ∨ (Value.slice A' (n + 1) c').ownBlock = some W.heap.size) → wpList Try.prog ops Q rest (a.put o.dst (.slice A' (n + 1) c')) w') :
    wpList Try.prog ops Q (o :: rest) a W := by
  obtain ⟨i0, hi, hz0, hz1, hz2⟩ := info_parts infoTxn
  have h1 : ∀ u ∈ trcells t, u.oneCell' = true := fun u hu => trs_one [t] u (by unfold trs; simpa using hu)
  refine Go.BigFrame.wpList_want hw (fun K hK => ?_)
  refine wp_append_sl W s x 22 ho B 44 i0 _ 12 112 Try.underlying22 hi hz0 hz1 hz2 rfl (by decide) v n (trs R) hs hown (.slice (some ⟨bn, 0, none⟩) 1 1) 1 (trcells t) hx
    ⟨_, 1, rfl, Nat.le_refl _, ⟨by unfold maxLen; omega, fun e => by cases e⟩, by rw [trcells_len], fun j u hj => ⟨bn, 0, rfl, trcells_at ht hj⟩⟩ h1 (by unfold maxLen; omega) hlen hB (n + 1) rfl ?_
  intro A' c' w' hown' hgr hbk
  rw [← trs_snoc] at hown'
  exact hK _ _ (h A' c' w' hown' hgr hbk)
set_option maxRecDepth 100000 in
set_option maxHeartbeats 2000000 in
theorem ahead_any (a b : TX) (Aa Ab : Option Addr) (na ca nb cb : Nat) (w : World) :
    Calls Try.prog 44 #[.agg (tcs a (.slice Aa na ca)), .agg (tcs b (.slice Ab nb cb))] w fun e w' => e = .returned (.bool (aheadB a b)) ∧ Gr w w' := by
  obtain ⟨W1, hW1, hg1, hx1⟩ := xbox w a (.slice Aa na ca)
  obtain ⟨W2, hW2, hg2, hx2⟩ := xbox W1 b (.slice Ab nb cb)
  have hs : W1.heap.size = w.heap.size + 1 := by rw [hW1]; simp
  rw [hs] at hx2
  obtain ⟨x0, x1, x2, -⟩ := hx1.gr hg2
  obtain ⟨y0, y1, y2, -⟩ := hx2
  have HG := Lib.hid (hg1.trans hg2)
  obtain ⟨r, hr⟩ : ∃ r, r = aheadB a b := ⟨_, rfl⟩
  rw [← hr]
  have HR := Lib.hid hr
  rw [hW1] at hW2
  clear hW1 hg1 hg2 hx1 hs hr
  by_cases h1 : a.stamp = b.stamp
  · rw [← h1] at y2
    by_cases h2 : a.origin = b.origin
    · rw [← h2] at y0
      have HD : Hid (r = decide (a.seq < b.seq)) := Lib.hid (by rw [HR.out]; unfold aheadB; rw [if_pos h1, if_pos h2])
      clear h1 h2
      by_cases h3 : a.seq < b.seq
      · have h3' : (a.seq : Int) < (b.seq : Int) := by omega
        have HE : Hid (r = true) := Lib.hid (by rw [HD.out]; exact decide_eq_true h3)
        go_enter Try.func44, Try.ntmps44
        go_upto_region 1 with (fail)
        rw [← hW2]
        clear hW2
        go_wp2_with fail
        go_ret
        exact ⟨by rw [HE.out]; rfl, HG.out⟩
      · have h3' : ¬ (a.seq : Int) < (b.seq : Int) := by omega
        have HE : Hid (r = false) := Lib.hid (by rw [HD.out]; exact decide_eq_false h3)
        go_enter Try.func44, Try.ntmps44
        go_upto_region 1 with (fail)
        rw [← hW2]
        clear hW2
        go_wp2_with fail
        go_ret
        exact ⟨by rw [HE.out]; rfl, HG.out⟩
    · have HD : Hid (r = decide (a.origin < b.origin)) := Lib.hid (by rw [HR.out]; unfold aheadB; rw [if_pos h1, if_neg h2])
      clear h1
      by_cases h3 : a.origin < b.origin
      · have HE : Hid (r = true) := Lib.hid (by rw [HD.out]; exact decide_eq_true h3)
        go_enter Try.func44, Try.ntmps44
        go_upto_region 1 with (fail)
        rw [← hW2]
        clear hW2
        go_wp2_with fail
        go_ret
        exact ⟨by rw [HE.out]; rfl, HG.out⟩
      · have HE : Hid (r = false) := Lib.hid (by rw [HD.out]; exact decide_eq_false h3)
        go_enter Try.func44, Try.ntmps44
        go_upto_region 1 with (fail)
        rw [← hW2]
        clear hW2
        go_wp2_with fail
        go_ret
        exact ⟨by rw [HE.out]; rfl, HG.out⟩
  · have HD : Hid (r = decide (a.stamp < b.stamp)) := Lib.hid (by rw [HR.out]; unfold aheadB; rw [if_neg h1])
    have h1' : ¬ (a.stamp : Int) = (b.stamp : Int) := by omega
    by_cases h3 : a.stamp < b.stamp
    · have h3' : (a.stamp : Int) < (b.stamp : Int) := by omega
      have HE : Hid (r = true) := Lib.hid (by rw [HD.out]; exact decide_eq_true h3)
      go_enter Try.func44, Try.ntmps44
      go_upto_region 1 with (fail)
      rw [← hW2]
      clear hW2
      go_wp2_with fail
      go_ret
      exact ⟨by rw [HE.out]; rfl, HG.out⟩
    · have h3' : ¬ (a.stamp : Int) < (b.stamp : Int) := by omega
      have HE : Hid (r = false) := Lib.hid (by rw [HD.out]; exact decide_eq_false h3)
      go_enter Try.func44, Try.ntmps44
      go_upto_region 1 with (fail)
      rw [← hW2]
      clear hW2
      go_wp2_with fail
      go_ret
      exact ⟨by rw [HE.out]; rfl, HG.out⟩
end Go.Proofs.Ytlgljanofppleaa
