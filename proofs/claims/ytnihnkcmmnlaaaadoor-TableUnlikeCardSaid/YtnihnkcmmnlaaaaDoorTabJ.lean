/- What the laws of tables have in common: awake; a list copied by append. -/
import Derived.Test.YtnihnkcmmnlaaaaDoorTabI
import Derived.BigFrame
namespace Go.Proofs.YtnihnkcmmnlaaaaDoor
open Go.RowKit

theorem wpList_copy_pv {W : World} {ops : Array Oper} {rest : List Oper} {o : Oper} {a : Act} {Q : Exit → Act → World → Prop} (hw : Region.wanted o (yielded ops a.tmps) = true) (s x : Operand)
    (ho : o.op = .call { callee := .builtin .append, args := #[s, x], argTypes := #[22, 22] })
    (hs : a.eval s = .slice (some ⟨W.heap.size, 0, none⟩) 0 0) (vx : Value) (L : List PR) (n : Nat) (hn : n = L.length) (hx : a.eval x = vx) (hxv : PV W vx L) (hlen : n * 32 ≤ 140737488355328)
    (h : ∀ A' c' w', PO w' W.heap.size (.slice A' n c') L → Gr W w' → wpList Tryd.prog ops Q rest (a.put o.dst (.slice A' n c')) w') :
    wpList Tryd.prog ops Q (o :: rest) a (W.alloc (.cells #[] 25)) := by
  subst hn
  obtain ⟨i0, hi, hz0, hz1, hz2⟩ := info_parts infoPair
  refine Go.BigFrame.wpList_want hw (fun K hK => ?_)
  refine wp_append_sl _ s x 22 ho W.heap.size 25 i0 _ 2 32 Tryd.underlying22 hi hz0 hz1 hz2 rfl (by decide) _ 0 [] hs (own_none W _ 2) vx L.length (pcells L) hx
    (hxv.gr (gr_box W _)).sl (pcells_one L) (by unfold maxLen; omega) (by omega) (by simp) L.length (Nat.zero_add _) ?_
  intro A' c' w' hown' hgr _
  refine hK _ _ (h A' c' w' (by rw [List.nil_append] at hown'; exact hown') (gr_of_grown (gr_box W _) (own_none W _ 2) hgr (by simp)))
/-- append of pairs to a row of the call's own. -/
theorem wpList_push_pv {W w0 : World} {ops : Array Oper} {rest : List Oper} {o : Oper} {a : Act} {Q : Exit → Act → World → Prop} (hw : Region.wanted o (yielded ops a.tmps) = true) (s x : Operand)
    (ho : o.op = .call { callee := .builtin .append, args := #[s, x], argTypes := #[22, 22] })
    (v vx : Value) (L M : List PR) (n m : Nat) (hn : n = L.length) (hm : m = M.length) (hs : a.eval s = v) (hown : PO W w0.heap.size v L) (hx : a.eval x = vx) (hxv : PV W vx M) (hlen : (n + m) * 32 ≤ 140737488355328) (hg : Gr w0 W)
    (h : ∀ A' c' w', PO w' w0.heap.size (.slice A' (n + m) c') (L ++ M) → Gr w0 w' → wpList Tryd.prog ops Q rest (a.put o.dst (.slice A' (n + m) c')) w') :
    wpList Tryd.prog ops Q (o :: rest) a W := by
  subst hn hm
  obtain ⟨i0, hi, hz0, hz1, hz2⟩ := info_parts infoPair
  have hsz := hg.size
  refine Go.BigFrame.wpList_want hw (fun K hK => ?_)
  refine wp_append_sl W s x 22 ho w0.heap.size 25 i0 _ 2 32 Tryd.underlying22 hi hz0 hz1 hz2 rfl (by decide) v L.length (pcells L) hs hown vx M.length (pcells M) hx
    hxv.sl (pcells_one M) (by unfold maxLen; omega) hlen hsz (L.length + M.length) rfl ?_
  intro A' c' w' hown' hgr _
  refine hK _ _ (h A' c' w' ?_ (gr_of_grown hg hown hgr hsz))
  unfold PO
  rw [List.length_append]
  unfold pcells at hown' ⊢
  rw [List.flatMap_append]
  exact hown'

def oneL : List PR := [⟨bs [97], bs [98]⟩]
theorem one_body : okBlk (kvs (chunk oneL 0)) := by
  have e : kvs (chunk oneL 0) = [bs [97], bs [98]] := rfl
  rw [e]
  refine ⟨⟨by decide, ?_, by decide⟩, by decide⟩
  intro s hs
  simp only [List.mem_cons, List.not_mem_nil, or_false] at hs
  rcases hs with rfl | rfl <;> decide
theorem one_idx : okBlk (idxK oneL (nCh oneL)) := by
  have e : idxK oneL (nCh oneL) = [bs [97], bs (be8 0)] := rfl
  rw [e]
  refine ⟨⟨by decide, ?_, by decide⟩, by decide⟩
  intro s hs
  simp only [List.mem_cons, List.not_mem_nil, or_false] at hs
  rcases hs with rfl | rfl <;> decide
theorem one_len : (tabL oneL).length = 59 := by
  rw [tabL_len]
  rfl
theorem one_ok : okTab oneL := by
  refine ⟨by decide, fun j h => ?_, fun j hj => ?_, one_idx, by rw [one_len]; decide⟩
  · exact absurd h (by show ¬ j + 1 < 1; omega)
  · have : j = 0 := by
      have e : nCh oneL = 1 := rfl
      omega
    subst this
    exact one_body
set_option maxRecDepth 100000 in
theorem awake6_any (w : World) (hH : Halves w) :
    Calls Tryd.prog 9 #[] w fun e w' => e = .returned (.bool true) ∧ Gr w w' := by
  have HB := Lib.hid (fun (v : Value) (w1 : World) (hv : PV w1 v oneL) (g : Gr w w1) => by
    have := build_any v oneL w1 hv (fun p hp => by
      rw [List.mem_singleton.1 hp]
      exact ⟨by show 1 ≤ _; decide, by show 1 ≤ _; decide⟩) (hH.gr g)
    rw [buildR_ok one_ok] at this
    exact this)
  have hz : (bs (tabL oneL)).size = 59 := by rw [bs_size, one_len]
  have HG := Lib.hid (fun (w1 : World) (g : Gr w w1) => by
    have := get_any (bs (tabL oneL)) (bs [97]) (by rw [hz]; unfold maxLen; omega) w1 (hH.gr g)
    rw [show (bs (tabL oneL)).data.toList = tabL oneL from rfl, allR_tab one_ok, getVal_some (show getR oneL (bs [97]) = some (bs [98]) from get_found (L := oneL) one_ok.2.1 (j := 0) (by decide))] at this
    exact this)
  obtain ⟨T, hT⟩ : ∃ T, T = bs (tabL oneL) := ⟨_, rfl⟩
  rw [← hT] at HB HG hz
  have hz2 : (40 : Int) < (T.size : Int) := by omega
  clear hT hz hH
  go_enter Tryd.func9, Tryd.ntmps9
  go_wp2_with fail
  refine (HB.out _ _ (pv_one w _ _ _ rfl) (gr_box w _)).mono ?_
  rintro e w1 ⟨rfl, g1⟩
  have HG1 := Lib.hid ((gr_box w _).trans g1)
  clear g1
  go_wp2_with fail
  refine (HG.out _ HG1.out).mono ?_
  rintro e w2 ⟨rfl, g2⟩
  have HG2 := Lib.hid (HG1.out.trans g2)
  clear g2
  have heq : ((bs [98]).toList == [98]) = true := by rw [ByteArray.toList_eq]; rfl
  go_wp2_with fail
  go_ret
  exact ⟨rfl, HG2.out⟩
end Go.Proofs.YtnihnkcmmnlaaaaDoor
