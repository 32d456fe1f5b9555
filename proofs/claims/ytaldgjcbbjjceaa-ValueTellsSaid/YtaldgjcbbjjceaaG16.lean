/- Texts Push, ValM, TxCp, joined. -/
import Derived.Test.YtaldgjcbbjjceaaG11
import Derived.Test.YtaldgjcbbjjceaaG07
import Derived.Test.YtaldgjcbbjjceaaG15
import Derived.Test.YtaldgjcbbjjceaaG03
import Derived.Test.YtaldgjcbbjjceaaG05
import Derived.Lib.SmallJoins
/- A row of strings of the call's own: append in a region that draws its order; a pair of strings written out. -/
namespace Go.Proofs.Ytaldgjcbbjjceaa
open Go.RowKit

theorem sv_two (w : World) (s t : ByteArray) : SV (w.alloc (.cells #[.string s, .string t] 9)) (.slice (some ⟨w.heap.size, 0, none⟩) 2 2) [s, t] := by
  refine ⟨_, 2, rfl, Nat.le_refl _, ⟨by decide, fun h => by cases h⟩, fun j hj => ⟨w.heap.size, 0, rfl, ?_⟩⟩
  match j, hj with
  | 0, _ => rw [World.cell?_alloc_mark]; rfl
  | 1, _ => rw [World.cell?_alloc_mark]; rfl
theorem sv_two_at (w : World) (s t : ByteArray) (b : Nat) (hb : b = w.heap.size) : SV (w.alloc (.cells #[.string s, .string t] 9)) (.slice (some ⟨b, 0, none⟩) 2 2) [s, t] := by subst hb; exact sv_two w s t
section
variable {ops : Array Oper} {o : Oper} {a : Act} {W w0 : World} {K : Act → World → Prop} {Q : Exit → Act → World → Prop} {E : Prop}
theorem step_push_strs (hgd : o.guard = none) (s x : Operand)
    (ho : o.op = .call { callee := .builtin .append, args := #[s, x], argTypes := #[30, 30] })
    (v vx : Value) (L M : List ByteArray) (n m : Nat) (hn : n = L.length) (hm : m = M.length) (hs : a.eval s = v) (hown : SO W w0.heap.size v L) (hx : a.eval x = vx) (hxv : SV W vx M) (hlen : (n + m) * 16 ≤ 140737488355328) (hg : Gr w0 W)
    (h : ∀ A' c' w', SO w' w0.heap.size (.slice A' (n + m) c') (L ++ M) → Gr w0 w' → K (a.put o.dst (.slice A' (n + m) c')) w') :
    if Region.wanted o (yielded ops a.tmps) = true then Oper.wp Try.prog o a W K Q else E := by
  subst hn hm
  obtain ⟨i0, hi, hz0, hz1, hz2⟩ := info_parts infoString
  have hsz := hg.size
  refine step_append_sl W hgd s x 30 ho w0.heap.size 9 i0 _ 1 16 Try.underlying30 hi hz0 hz1 hz2 rfl (by decide) v L.length (L.map Value.string) hs hown vx M.length (M.map Value.string) hx
    hxv.sl (strs_one M) (by unfold maxLen; omega) hlen hsz (L.length + M.length) rfl ?_
  intro A' c' w' hown' hgr _
  refine h A' c' w' ?_ (gr_of_grown hg hown hgr hsz)
  unfold SO
  rw [List.length_append, List.map_append]
  exact hown'
theorem wpList_push_n {rest : List Oper} {Q : Exit → Act → World → Prop} (hgd : o.guard = none) (s x : Operand)
    (ho : o.op = .call { callee := .builtin .append, args := #[s, x], argTypes := #[30, 30] })
    (v vx : Value) (L M : List ByteArray) (n m : Nat) (hn : n = L.length) (hm : m = M.length) (hs : a.eval s = v) (hown : SO W w0.heap.size v L) (hx : a.eval x = vx) (hxv : SV W vx M) (hlen : (n + m) * 16 ≤ 140737488355328) (hg : Gr w0 W)
    (h : ∀ A' c' w', SO w' w0.heap.size (.slice A' (n + m) c') (L ++ M) → Gr w0 w' → wpList Try.prog ops Q rest (a.put o.dst (.slice A' (n + m) c')) w') :
    wpList Try.prog ops Q (o :: rest) a W := by
  subst hn hm
  exact wpList_push_strs hgd s x ho v vx L M hs hown hx hxv hlen hg (fun A' c' w' h1 h2 _ => h A' c' w' h1 h2)
end
end Go.Proofs.Ytaldgjcbbjjceaa
/- Walks: slices.Clone of strings, value's copies. -/
namespace Go.Proofs.Ytaldgjcbbjjceaa
open Go.RowKit Go.Joins
set_option linter.unusedSimpArgs false
set_option linter.unusedVariables false

def RetStrsV (T : List ByteArray) (w : World) (e : Ending) (w' : World) : Prop := ∃ v, e = .returned v ∧ SO w' w.heap.size v T ∧ Gr w w'
set_option maxRecDepth 100000 in
theorem sclonesV_any (v : Value) (T : List ByteArray) (w : World) (hv : SV w v T) (hlen : T.length * 16 ≤ 140737488355328) :
    Calls Try.prog 97 #[v] w fun e w' => RetStrsV T w e w' := by
  obtain ⟨A, c, hva, l1, ⟨_, l2⟩, l3⟩ := id hv
  have HV := Lib.hid hv
  subst hva
  clear hv
  cases A with
  | none =>
    have hn0 : T.length = 0 := by
      rcases Nat.eq_zero_or_pos T.length with h | h
      · exact h
      · obtain ⟨b, off, hh, _⟩ := l3 0 h
        cases hh
    have hL : T = [] := List.length_eq_zero_iff.1 hn0
    have hc0 := l2 rfl
    subst hL hc0
    clear l1 l2 l3 hn0
    have he : ∀ w : World, (binOp .eql 30 (.slice none 0 0) (.slice none 0 0)).run Try.prog w = .ok (.bool true) w := fun w => Lib.run_eql_slice_nil w 30 9 none 0 0 0 0 Try.underlying30
    go_enter Try.func97, Try.ntmps97
    go_wp2
    go_ret
    exact ⟨_, rfl, SO.nil _ _, Gr.refl _⟩
  | some ad =>
    obtain ⟨n, hn⟩ : ∃ n, n = T.length := ⟨_, rfl⟩
    have HN := Lib.hid hn
    rw [← hn] at HV ⊢
    have hz : (0 + n) * 16 ≤ 140737488355328 := by omega
    clear l1 l2 l3 hn hlen
    have he : ∀ w : World, (binOp .eql 30 (.slice (some ad) n c) (.slice none 0 0)).run Try.prog w = .ok (.bool false) w := fun w => Lib.run_eql_slice_nil w 30 9 (some ad) n c 0 0 Try.underlying30
    go_enter Try.func97, Try.ntmps97
    go_wp2_with (at_builtin; refine wpList_push_n (w0 := w) rfl (.tmp 5) (.tmp 6) rfl (.slice (some ⟨w.heap.size, 0, none⟩) 0 0) (.slice (some ad) n c) [] T 0 n rfl HN.out rfl (own_none w 9 1) rfl (HV.out.gr (gr_box _ _)) hz (gr_box _ _) ?_)
    intro A' c' w1 hown g1
    have HO := Lib.hid hown
    clear hown
    go_wp2
    go_ret
    exact ⟨_, rfl, HO.out, g1⟩
section
variable {w : World} {B g n c : Nat} {L : List ByteArray}
theorem SO.lenV (h : SO w B (.slice (some ⟨g, 0, none⟩) n c) L) : n = L.length ∧ L.length ≤ c ∧ c ≤ 9223372036854775807 ∧ B ≤ g ∧ g < w.heap.size := by
  rcases h.2 with ⟨hh, _⟩ | ⟨g', cap', cur, hh, hb, hg, hn, hm, _⟩
  · cases hh
  · injection hh with h1 h2 h3
    injection h1 with h1
    injection h1 with h1
    subst h1 h2 h3
    exact ⟨rfl, hn, hm, hb, (Array.getElem?_eq_some_iff.1 hg).1⟩
theorem SO.freeV (h : SO w B (.slice (some ⟨g, 0, none⟩) n c) L) (j : Nat) : w.frozen? ⟨g, j, none⟩ = false := by
  obtain ⟨rfl, _⟩ := h.lenV
  exact h.frozenAt j
theorem SO.addrV {v : Value} (h : SO w B v L) {i : Nat} (hi : i < L.length) : ∃ g c, v = .slice (some ⟨g, 0, none⟩) L.length c := by
  obtain ⟨g, c, hv, _⟩ := World.ownsRow.form h (by omega)
  exact ⟨g, c, hv⟩
theorem SO.atV (h : SO w B (.slice (some ⟨g, 0, none⟩) n c) L) {i : Nat} (hi : i < L.length) : w.cell? ⟨g, i, none⟩ = some (.string L[i]) := by
  obtain ⟨A, c', hv, _, _, hc⟩ := h.sv
  obtain ⟨b, off, ha, q⟩ := hc i hi
  injection hv with e1
  rw [← e1] at ha
  injection ha with ha
  injection ha with a1 a2
  subst a1 a2
  rw [Nat.zero_add] at q
  exact q
theorem SO.sameV (h : SO w B (.slice (some ⟨g, 0, none⟩) n c) L) {i : Nat} (hi : i < L.length) : SO (w.setCell ⟨g, i, none⟩ (.string L[i])) B (.slice (some ⟨g, 0, none⟩) n c) L := by
  obtain ⟨rfl, _⟩ := h.lenV
  obtain ⟨h1, _⟩ := h.stored i (.string L[i])
  have e : (L.map Value.string).set i (.string L[i]) = L.map Value.string := by
    have : (Value.string L[i]) = (L.map Value.string)[i]'(by simpa using hi) := by simp
    rw [this]
    exact List.set_getElem_self _
  rw [e] at h1
  exact h1
end

set_option maxRecDepth 100000 in
set_option maxHeartbeats 2000000 in
theorem copiesV_any (v : Value) (T : List ByteArray) (w : World) (hv : SV w v T) (hlen : T.length ≤ 1000000) (hs : ∀ s ∈ T, s.size ≤ 281474976710656) :
    Calls Try.prog 83 #[v] w fun e w' => RetStrsV T w e w' := by
  have HC := Lib.hid (sclonesV_any v T w hv (by omega))
  obtain ⟨A, c, hvf, hnc, ⟨hcm, -⟩, hat⟩ := hv
  subst hvf
  have HAT : Hid (∀ j (hj : j < T.length), ∃ b off, A = some ⟨b, off, none⟩ ∧ w.cell? ⟨b, off + j, none⟩ = some (.string T[j])) := Lib.hid hat
  have HS := Lib.hid hs
  have hc63 : c ≤ 9223372036854775807 := by unfold maxLen at hcm; omega
  obtain ⟨n, hn⟩ : ∃ n, n = T.length := ⟨_, rfl⟩
  rw [← hn] at HC hnc hlen ⊢
  have HN := Lib.hid hn
  clear hn hat hs hcm
  go_enter Try.func83, Try.ntmps83
  go_wp2_with fail
  refine HC.out.mono ?_
  rintro e w1 ⟨s1, rfl, ho, g1⟩
  obtain ⟨A1, c1, hs1, -, -⟩ := own_form ho
  subst hs1
  have HO := Lib.hid ho
  have HG := Lib.hid g1
  rw [← HN.out]
  clear ho g1
  go_wp2_with fail
  go_loopw [10] (fun i wr => ∃ j : Nat, j ≤ n ∧ i = .int .i64 j ∧ Hid (SO wr w.heap.size (.slice A1 T.length c1) T ∧ Gr w wr)) (fun i _ => n - (intOf i).toNat)
  case atStart => exact ⟨0, Nat.zero_le _, rfl, Lib.hid ⟨HO.out, HG.out⟩⟩
  case round =>
    obtain ⟨j, hj, rfl, hst⟩ := hrel
    rename World => wr
    by_cases hjn : j < n
    · have hj0 : (0 : Int) ≤ (j : Int) := Int.natCast_nonneg _
      have hjn1 : (j : Int) < (n : Int) := by omega
      have hjl : j < T.length := by rw [← HN.out]; exact hjn
      obtain ⟨b, off, hA, q0⟩ := HAT.out j hjl
      subst hA
      have q1 := hst.out.2.cell q0
      obtain ⟨s, hse⟩ : ∃ s, s = T[j] := ⟨_, rfl⟩
      rw [← hse] at q0 q1
      have HSE := Lib.hid hse
      have HCL := Lib.hid (fun w1 => clone_any s (by rw [hse]; exact HS.out _ (List.getElem_mem hjl)) w1)
      have HST := Lib.hid hst.out
      obtain ⟨g, cc, hvv⟩ := HST.out.1.addrV hjl
      injection hvv with h1 h2 h3
      subst h1 h3
      clear h2 hse q0 hst
      go_wp2_with fail
      refine (HCL.out _).mono ?_
      rintro e w3 ⟨rfl, g3⟩
      have ho3 := own_gr HST.out.1 g3
      have c0 := SO.atV (show SO w3 w.heap.size (.slice (some ⟨g, 0, none⟩) T.length c1) T from ho3) hjl
      have f0 := SO.freeV (show SO w3 w.heap.size (.slice (some ⟨g, 0, none⟩) T.length c1) T from ho3) j
      have HS4 : Hid (SO (w3.setCell ⟨g, j, none⟩ (.string s)) w.heap.size (.slice (some ⟨g, 0, none⟩) T.length c1) T ∧ Gr w (w3.setCell ⟨g, j, none⟩ (.string s))) := Lib.hid ⟨by rw [HSE.out]; exact SO.sameV (show SO w3 w.heap.size (.slice (some ⟨g, 0, none⟩) T.length c1) T from ho3) hjl, (HST.out.2.trans g3).setCell (SO.lenV (show SO w3 w.heap.size (.slice (some ⟨g, 0, none⟩) T.length c1) T from ho3)).2.2.2.1 _⟩
      clear ho3 g3
      go_wp2_with fail
      go_roundw
      case measure => simp [intOf]; omega
      case rel => exact ⟨j + 1, by omega, by go_num, HS4⟩
    · obtain rfl : j = n := by omega
      have HE := Lib.hid hst.out
      clear hst
      go_wp2_with fail
      go_ret
      exact ⟨_, rfl, by rw [HN.out]; exact HE.out.1, HE.out.2⟩
end Go.Proofs.Ytaldgjcbbjjceaa
/- Walks: the document's Copy of a transaction; a transaction's box filled. -/
namespace Go.Proofs.Ytaldgjcbbjjceaa
open Go.RowKit Go.Joins

abbrev zeroX : Array Value := #[.int .i64 0, .int .u64 0, .int .u64 0, .int .u64 0, .int .u64 0, .int .u64 0, .int .u64 0, .int .u64 0, .int .u64 0, .int .u64 0, .int .u64 0, .slice none 0 0]
/-- The world behind the stores of a transaction into a box. -/
def stored12 (W : World) (b : Nat) (v0 v1 v2 v3 v4 v5 v6 v7 v8 v9 v10 v11 : Value) : World := ((((((((((((W.setCell ⟨b, 0, none⟩ v0).setCell ⟨b, 1, none⟩ v1).setCell ⟨b, 2, none⟩ v2).setCell ⟨b, 3, none⟩ v3).setCell ⟨b, 4, none⟩ v4).setCell ⟨b, 5, none⟩ v5).setCell ⟨b, 6, none⟩ v6).setCell ⟨b, 7, none⟩ v7).setCell ⟨b, 8, none⟩ v8).setCell ⟨b, 9, none⟩ v9).setCell ⟨b, 10, none⟩ v10).setCell ⟨b, 11, none⟩ v11)
set_option maxHeartbeats 1000000 in
theorem stored12_facts {W : World} {b : Nat} (v0 v1 v2 v3 v4 v5 v6 v7 v8 v9 v10 v11 : Value) (h2 : W.heap[b]? = some (.cells zeroX 44 (0, 0))) :
    (stored12 W b v0 v1 v2 v3 v4 v5 v6 v7 v8 v9 v10 v11).heap[b]? = some (.cells #[v0, v1, v2, v3, v4, v5, v6, v7, v8, v9, v10, v11] 44 (0, 0)) ∧
      (∀ {B : Nat} {ty : TypeId} {size n : Nat} {v : Value} {xs : List Value}, W.ownsRow B ty size v n xs → ty ≠ 44 → (stored12 W b v0 v1 v2 v3 v4 v5 v6 v7 v8 v9 v10 v11).ownsRow B ty size v n xs) ∧
      (∀ {w : World}, Gr w W → w.heap.size ≤ b → Gr w (stored12 W b v0 v1 v2 v3 v4 v5 v6 v7 v8 v9 v10 v11)) := by
  unfold stored12
  have a0 : (W.setCell ⟨b, 0, none⟩ v0).heap[b]? = some (.cells #[v0, .int .u64 0, .int .u64 0, .int .u64 0, .int .u64 0, .int .u64 0, .int .u64 0, .int .u64 0, .int .u64 0, .int .u64 0, .int .u64 0, .slice none 0 0] 44 (0, 0)) := set_obj h2 v0
  have a1 : ((W.setCell ⟨b, 0, none⟩ v0).setCell ⟨b, 1, none⟩ v1).heap[b]? = some (.cells #[v0, v1, .int .u64 0, .int .u64 0, .int .u64 0, .int .u64 0, .int .u64 0, .int .u64 0, .int .u64 0, .int .u64 0, .int .u64 0, .slice none 0 0] 44 (0, 0)) := set_obj a0 v1
  have a2 : (((W.setCell ⟨b, 0, none⟩ v0).setCell ⟨b, 1, none⟩ v1).setCell ⟨b, 2, none⟩ v2).heap[b]? = some (.cells #[v0, v1, v2, .int .u64 0, .int .u64 0, .int .u64 0, .int .u64 0, .int .u64 0, .int .u64 0, .int .u64 0, .int .u64 0, .slice none 0 0] 44 (0, 0)) := set_obj a1 v2
  have a3 : ((((W.setCell ⟨b, 0, none⟩ v0).setCell ⟨b, 1, none⟩ v1).setCell ⟨b, 2, none⟩ v2).setCell ⟨b, 3, none⟩ v3).heap[b]? = some (.cells #[v0, v1, v2, v3, .int .u64 0, .int .u64 0, .int .u64 0, .int .u64 0, .int .u64 0, .int .u64 0, .int .u64 0, .slice none 0 0] 44 (0, 0)) := set_obj a2 v3
  have a4 : (((((W.setCell ⟨b, 0, none⟩ v0).setCell ⟨b, 1, none⟩ v1).setCell ⟨b, 2, none⟩ v2).setCell ⟨b, 3, none⟩ v3).setCell ⟨b, 4, none⟩ v4).heap[b]? = some (.cells #[v0, v1, v2, v3, v4, .int .u64 0, .int .u64 0, .int .u64 0, .int .u64 0, .int .u64 0, .int .u64 0, .slice none 0 0] 44 (0, 0)) := set_obj a3 v4
  have a5 : ((((((W.setCell ⟨b, 0, none⟩ v0).setCell ⟨b, 1, none⟩ v1).setCell ⟨b, 2, none⟩ v2).setCell ⟨b, 3, none⟩ v3).setCell ⟨b, 4, none⟩ v4).setCell ⟨b, 5, none⟩ v5).heap[b]? = some (.cells #[v0, v1, v2, v3, v4, v5, .int .u64 0, .int .u64 0, .int .u64 0, .int .u64 0, .int .u64 0, .slice none 0 0] 44 (0, 0)) := set_obj a4 v5
  have a6 : (((((((W.setCell ⟨b, 0, none⟩ v0).setCell ⟨b, 1, none⟩ v1).setCell ⟨b, 2, none⟩ v2).setCell ⟨b, 3, none⟩ v3).setCell ⟨b, 4, none⟩ v4).setCell ⟨b, 5, none⟩ v5).setCell ⟨b, 6, none⟩ v6).heap[b]? = some (.cells #[v0, v1, v2, v3, v4, v5, v6, .int .u64 0, .int .u64 0, .int .u64 0, .int .u64 0, .slice none 0 0] 44 (0, 0)) := set_obj a5 v6
  have a7 : ((((((((W.setCell ⟨b, 0, none⟩ v0).setCell ⟨b, 1, none⟩ v1).setCell ⟨b, 2, none⟩ v2).setCell ⟨b, 3, none⟩ v3).setCell ⟨b, 4, none⟩ v4).setCell ⟨b, 5, none⟩ v5).setCell ⟨b, 6, none⟩ v6).setCell ⟨b, 7, none⟩ v7).heap[b]? = some (.cells #[v0, v1, v2, v3, v4, v5, v6, v7, .int .u64 0, .int .u64 0, .int .u64 0, .slice none 0 0] 44 (0, 0)) := set_obj a6 v7
  have a8 : (((((((((W.setCell ⟨b, 0, none⟩ v0).setCell ⟨b, 1, none⟩ v1).setCell ⟨b, 2, none⟩ v2).setCell ⟨b, 3, none⟩ v3).setCell ⟨b, 4, none⟩ v4).setCell ⟨b, 5, none⟩ v5).setCell ⟨b, 6, none⟩ v6).setCell ⟨b, 7, none⟩ v7).setCell ⟨b, 8, none⟩ v8).heap[b]? = some (.cells #[v0, v1, v2, v3, v4, v5, v6, v7, v8, .int .u64 0, .int .u64 0, .slice none 0 0] 44 (0, 0)) := set_obj a7 v8
  have a9 : ((((((((((W.setCell ⟨b, 0, none⟩ v0).setCell ⟨b, 1, none⟩ v1).setCell ⟨b, 2, none⟩ v2).setCell ⟨b, 3, none⟩ v3).setCell ⟨b, 4, none⟩ v4).setCell ⟨b, 5, none⟩ v5).setCell ⟨b, 6, none⟩ v6).setCell ⟨b, 7, none⟩ v7).setCell ⟨b, 8, none⟩ v8).setCell ⟨b, 9, none⟩ v9).heap[b]? = some (.cells #[v0, v1, v2, v3, v4, v5, v6, v7, v8, v9, .int .u64 0, .slice none 0 0] 44 (0, 0)) := set_obj a8 v9
  have a10 : (((((((((((W.setCell ⟨b, 0, none⟩ v0).setCell ⟨b, 1, none⟩ v1).setCell ⟨b, 2, none⟩ v2).setCell ⟨b, 3, none⟩ v3).setCell ⟨b, 4, none⟩ v4).setCell ⟨b, 5, none⟩ v5).setCell ⟨b, 6, none⟩ v6).setCell ⟨b, 7, none⟩ v7).setCell ⟨b, 8, none⟩ v8).setCell ⟨b, 9, none⟩ v9).setCell ⟨b, 10, none⟩ v10).heap[b]? = some (.cells #[v0, v1, v2, v3, v4, v5, v6, v7, v8, v9, v10, .slice none 0 0] 44 (0, 0)) := set_obj a9 v10
  have a11 : ((((((((((((W.setCell ⟨b, 0, none⟩ v0).setCell ⟨b, 1, none⟩ v1).setCell ⟨b, 2, none⟩ v2).setCell ⟨b, 3, none⟩ v3).setCell ⟨b, 4, none⟩ v4).setCell ⟨b, 5, none⟩ v5).setCell ⟨b, 6, none⟩ v6).setCell ⟨b, 7, none⟩ v7).setCell ⟨b, 8, none⟩ v8).setCell ⟨b, 9, none⟩ v9).setCell ⟨b, 10, none⟩ v10).setCell ⟨b, 11, none⟩ v11).heap[b]? = some (.cells #[v0, v1, v2, v3, v4, v5, v6, v7, v8, v9, v10, v11] 44 (0, 0)) := set_obj a10 v11
  refine ⟨a11, fun h ht => ?_, fun h q2 => (Gr.setCell (Gr.setCell (Gr.setCell (Gr.setCell (Gr.setCell (Gr.setCell (Gr.setCell (Gr.setCell (Gr.setCell (Gr.setCell (Gr.setCell (Gr.setCell h q2 _) q2 _) q2 _) q2 _) q2 _) q2 _) q2 _) q2 _) q2 _) q2 _) q2 _) q2 _)⟩
  have r0 := own_set_obj h h2 ht (i := 0) v0
  have r1 := own_set_obj r0 a0 ht (i := 1) v1
  have r2 := own_set_obj r1 a1 ht (i := 2) v2
  have r3 := own_set_obj r2 a2 ht (i := 3) v3
  have r4 := own_set_obj r3 a3 ht (i := 4) v4
  have r5 := own_set_obj r4 a4 ht (i := 5) v5
  have r6 := own_set_obj r5 a5 ht (i := 6) v6
  have r7 := own_set_obj r6 a6 ht (i := 7) v7
  have r8 := own_set_obj r7 a7 ht (i := 8) v8
  have r9 := own_set_obj r8 a8 ht (i := 9) v9
  have r10 := own_set_obj r9 a9 ht (i := 10) v10
  exact own_set_obj r10 a10 ht (i := 11) v11
theorem wpList_copy_to {W : World} {ops : Array Oper} {rest : List Oper} {o : Oper} {a : Act} {Q : Exit → Act → World → Prop} (hw : Region.wanted o (yielded ops a.tmps) = true) (s x : Operand)
    (ho : o.op = .call { callee := .builtin .append, args := #[s, x], argTypes := #[42, 42] })
    (hs : a.eval s = .slice (some ⟨W.heap.size, 0, none⟩) 0 0) (vx : Value) (L : List TO) (n : Nat) (hn : n = L.length) (hx : a.eval x = vx) (hxv : TOV W vx L) (hlen : n * 48 ≤ 140737488355328)
    (h : ∀ A' c' w', TOO w' W.heap.size (.slice A' n c') L → Gr W w' → wpList Try.prog ops Q rest (a.put o.dst (.slice A' n c')) w') :
    wpList Try.prog ops Q (o :: rest) a (W.alloc (.cells #[] 41)) := by
  subst hn
  obtain ⟨i0, hi, hz0, hz1, hz2⟩ := info_parts infoTOp
  refine Go.BigFrame.wpList_want hw (fun K hK => ?_)
  refine wp_append_sl _ s x 42 ho W.heap.size 41 i0 _ 4 48 Try.underlying42 hi hz0 hz1 hz2 rfl (by decide) _ 0 [] hs (own_none W _ 4) vx L.length (tocells L) hx
    (hxv.gr (gr_box W _)).sl (tocells_one L) (by unfold maxLen; omega) (by omega) (by simp) L.length (Nat.zero_add _) ?_
  intro A' c' w' hown' hgr _
  refine hK _ _ (h A' c' w' (by rw [List.nil_append] at hown'; exact hown') (gr_of_grown (gr_box W _) (own_none W _ 4) hgr (by simp)))
set_option maxRecDepth 100000 in
set_option maxHeartbeats 4000000 in
/-- The document's Copy. -/
theorem rcopy8_own (t : TX) (v : Value) (w : World) (hv : TOV w v t.ops) (hlen : t.ops.length * 48 ≤ 140737488355328) :
    Calls Try.prog 26 #[.agg (tcs t v)] w fun e w' => ∃ u, e = .returned (.agg (tcs t u)) ∧ TOO w' w.heap.size u t.ops ∧ Gr w w' := by
  obtain ⟨A, c, rfl⟩ := tov_form hv
  obtain ⟨n, hn⟩ : ∃ n, n = t.ops.length := ⟨_, rfl⟩
  rw [← hn] at hv hlen ⊢
  obtain ⟨W, hW, hg, h1, h2⟩ : ∃ W, W = (w.alloc (.cells (tcs t (.slice A n c)) 44)).alloc (.cells zeroX 44) ∧ Gr w W ∧ W.heap[w.heap.size]? = some (.cells (tcs t (.slice A n c)) 44 (0, 0)) ∧ W.heap[w.heap.size + 1]? = some (.cells zeroX 44 (0, 0)) := by
    refine ⟨_, rfl, ((Gr.refl w).alloc _).alloc _, ?_, ?_⟩ <;> (simp only [World.alloc, Array.getElem?_push, Array.size_push]; simp)
  have HG := Lib.hid hg
  have HV := Lib.hid (hv.gr hg)
  have HN := Lib.hid hn
  have H1 := Lib.hid h1
  have H2 := Lib.hid h2
  have q11 : (W.alloc (.cells #[] 41)).cell? ⟨w.heap.size, 11, none⟩ = some (.slice A n c) := by rw [cell_of_block (gr_obj (gr_box W _) h1)]; rfl
  clear hg hv hn h1 h2
  go_enter Try.func26, Try.ntmps26
  go_upto_region 1 with (fail)
  rw [← hW]
  clear hW
  go_upto_region 2 with (at_builtin; refine wpList_copy_to rfl (.tmp 3) (.tmp 5) rfl rfl (.slice A n c) t.ops n HN.out rfl HV.out hlen ?_; intro A2 c2 w2 hp2 g2; have p11 : w2.cell? ⟨w.heap.size, 11, none⟩ = some (.slice A n c) := (by rw [cell_of_block (gr_obj g2 H1.out)]; rfl); have f11 : w2.frozen? ⟨w.heap.size, 11, none⟩ = false := unfrozen_of_block (gr_obj g2 H1.out) 11; have HP2 := Lib.hid hp2; have HG2 := Lib.hid g2; clear hp2 g2 q11)
  have h1 : (w2.setCell ⟨w.heap.size, 11, none⟩ (.slice A2 n c2)).heap[w.heap.size]? = some (.cells (tcs t (.slice A2 n c2)) 44 (0, 0)) := set_obj (gr_obj HG2.out H1.out) _
  have h2 : (w2.setCell ⟨w.heap.size, 11, none⟩ (.slice A2 n c2)).heap[w.heap.size + 1]? = some (.cells zeroX 44 (0, 0)) := set_obj_other (gr_obj HG2.out H2.out) (by omega) _
  have hg5 : Gr w (w2.setCell ⟨w.heap.size, 11, none⟩ (.slice A2 n c2)) := (HG.out.trans HG2.out).setCell (Nat.le_refl _) _
  have ho5 : TOO (w2.setCell ⟨w.heap.size, 11, none⟩ (.slice A2 n c2)) W.heap.size (.slice A2 n c2) t.ops := own_set_obj HP2.out (gr_obj HG2.out H1.out) (by decide) _
  obtain ⟨w5, hw5⟩ : ∃ x, x = w2.setCell ⟨w.heap.size, 11, none⟩ (.slice A2 n c2) := ⟨_, rfl⟩
  rw [← hw5] at h1 h2 hg5 ho5 ⊢
  have p0 : w5.cell? ⟨w.heap.size, 0, none⟩ = some (.int .i64 t.origin) := by rw [cell_of_block h1]; rfl
  have p1 : w5.cell? ⟨w.heap.size, 1, none⟩ = some (.int .u64 (t.seq : Int)) := by rw [cell_of_block h1]; rfl
  have p2 : w5.cell? ⟨w.heap.size, 2, none⟩ = some (.int .u64 (t.stamp : Int)) := by rw [cell_of_block h1]; rfl
  have p3 : w5.cell? ⟨w.heap.size, 3, none⟩ = some (.int .u64 (t.deps 0 : Int)) := by rw [cell_of_block h1]; rfl
  have p4 : w5.cell? ⟨w.heap.size, 4, none⟩ = some (.int .u64 (t.deps 1 : Int)) := by rw [cell_of_block h1]; rfl
  have p5 : w5.cell? ⟨w.heap.size, 5, none⟩ = some (.int .u64 (t.deps 2 : Int)) := by rw [cell_of_block h1]; rfl
  have p6 : w5.cell? ⟨w.heap.size, 6, none⟩ = some (.int .u64 (t.deps 3 : Int)) := by rw [cell_of_block h1]; rfl
  have p7 : w5.cell? ⟨w.heap.size, 7, none⟩ = some (.int .u64 (t.deps 4 : Int)) := by rw [cell_of_block h1]; rfl
  have p8 : w5.cell? ⟨w.heap.size, 8, none⟩ = some (.int .u64 (t.deps 5 : Int)) := by rw [cell_of_block h1]; rfl
  have p9 : w5.cell? ⟨w.heap.size, 9, none⟩ = some (.int .u64 (t.deps 6 : Int)) := by rw [cell_of_block h1]; rfl
  have p10 : w5.cell? ⟨w.heap.size, 10, none⟩ = some (.int .u64 (t.deps 7 : Int)) := by rw [cell_of_block h1]; rfl
  have p11 : w5.cell? ⟨w.heap.size, 11, none⟩ = some (.slice A2 n c2) := by rw [cell_of_block h1]; rfl
  have z0 : w5.cell? ⟨w.heap.size + 1, 0, none⟩ = some (.int .i64 0) := by rw [cell_of_block h2]; rfl
  have z1 : w5.cell? ⟨w.heap.size + 1, 1, none⟩ = some (.int .u64 0) := by rw [cell_of_block h2]; rfl
  have z2 : w5.cell? ⟨w.heap.size + 1, 2, none⟩ = some (.int .u64 0) := by rw [cell_of_block h2]; rfl
  have z3 : w5.cell? ⟨w.heap.size + 1, 3, none⟩ = some (.int .u64 0) := by rw [cell_of_block h2]; rfl
  have z4 : w5.cell? ⟨w.heap.size + 1, 4, none⟩ = some (.int .u64 0) := by rw [cell_of_block h2]; rfl
  have z5 : w5.cell? ⟨w.heap.size + 1, 5, none⟩ = some (.int .u64 0) := by rw [cell_of_block h2]; rfl
  have z6 : w5.cell? ⟨w.heap.size + 1, 6, none⟩ = some (.int .u64 0) := by rw [cell_of_block h2]; rfl
  have z7 : w5.cell? ⟨w.heap.size + 1, 7, none⟩ = some (.int .u64 0) := by rw [cell_of_block h2]; rfl
  have z8 : w5.cell? ⟨w.heap.size + 1, 8, none⟩ = some (.int .u64 0) := by rw [cell_of_block h2]; rfl
  have z9 : w5.cell? ⟨w.heap.size + 1, 9, none⟩ = some (.int .u64 0) := by rw [cell_of_block h2]; rfl
  have z10 : w5.cell? ⟨w.heap.size + 1, 10, none⟩ = some (.int .u64 0) := by rw [cell_of_block h2]; rfl
  have z11 : w5.cell? ⟨w.heap.size + 1, 11, none⟩ = some (.slice none 0 0) := by rw [cell_of_block h2]; rfl
  have k0 := unfrozen_of_block h2 0
  have k1 := unfrozen_of_block h2 1
  have k2 := unfrozen_of_block h2 2
  have k3 := unfrozen_of_block h2 3
  have k4 := unfrozen_of_block h2 4
  have k5 := unfrozen_of_block h2 5
  have k6 := unfrozen_of_block h2 6
  have k7 := unfrozen_of_block h2 7
  have k8 := unfrozen_of_block h2 8
  have k9 := unfrozen_of_block h2 9
  have k10 := unfrozen_of_block h2 10
  have k11 := unfrozen_of_block h2 11
  have HB2 := Lib.hid h2
  have HG5 := Lib.hid hg5
  have HO5 := Lib.hid ho5
  clear h1 h2 hg5 ho5 hw5
  go_wp2_with fail
  obtain ⟨e2, howns, hgrs⟩ := stored12_facts (.int .i64 t.origin) (.int .u64 (t.seq : Int)) (.int .u64 (t.stamp : Int)) (.int .u64 (t.deps 0 : Int)) (.int .u64 (t.deps 1 : Int)) (.int .u64 (t.deps 2 : Int)) (.int .u64 (t.deps 3 : Int)) (.int .u64 (t.deps 4 : Int)) (.int .u64 (t.deps 5 : Int)) (.int .u64 (t.deps 6 : Int)) (.int .u64 (t.deps 7 : Int)) (.slice A2 n c2) HB2.out
  have hown5 := howns HO5.out (by decide)
  have hgr5 := hgrs HG5.out (Nat.le_succ _)
  clear howns hgrs p0 p1 p2 p3 p4 p5 p6 p7 p8 p9 p10 p11 z0 z1 z2 z3 z4 z5 z6 z7 z8 z9 z10 z11 k0 k1 k2 k3 k4 k5 k6 k7 k8 k9 k10 k11
  obtain ⟨WF, hWF⟩ : ∃ x, x = stored12 w5 (w.heap.size + 1) (.int .i64 t.origin) (.int .u64 (t.seq : Int)) (.int .u64 (t.stamp : Int)) (.int .u64 (t.deps 0 : Int)) (.int .u64 (t.deps 1 : Int)) (.int .u64 (t.deps 2 : Int)) (.int .u64 (t.deps 3 : Int)) (.int .u64 (t.deps 4 : Int)) (.int .u64 (t.deps 5 : Int)) (.int .u64 (t.deps 6 : Int)) (.int .u64 (t.deps 7 : Int)) (.slice A2 n c2) := ⟨_, rfl⟩
  rw [← hWF] at e2 hown5 hgr5
  unfold stored12 at hWF
  rw [← hWF]
  have z0 : WF.cell? ⟨w.heap.size + 1, 0, none⟩ = some (.int .i64 t.origin) := by rw [cell_of_block e2]; rfl
  have z1 : WF.cell? ⟨w.heap.size + 1, 1, none⟩ = some (.int .u64 (t.seq : Int)) := by rw [cell_of_block e2]; rfl
  have z2 : WF.cell? ⟨w.heap.size + 1, 2, none⟩ = some (.int .u64 (t.stamp : Int)) := by rw [cell_of_block e2]; rfl
  have z3 : WF.cell? ⟨w.heap.size + 1, 3, none⟩ = some (.int .u64 (t.deps 0 : Int)) := by rw [cell_of_block e2]; rfl
  have z4 : WF.cell? ⟨w.heap.size + 1, 4, none⟩ = some (.int .u64 (t.deps 1 : Int)) := by rw [cell_of_block e2]; rfl
  have z5 : WF.cell? ⟨w.heap.size + 1, 5, none⟩ = some (.int .u64 (t.deps 2 : Int)) := by rw [cell_of_block e2]; rfl
  have z6 : WF.cell? ⟨w.heap.size + 1, 6, none⟩ = some (.int .u64 (t.deps 3 : Int)) := by rw [cell_of_block e2]; rfl
  have z7 : WF.cell? ⟨w.heap.size + 1, 7, none⟩ = some (.int .u64 (t.deps 4 : Int)) := by rw [cell_of_block e2]; rfl
  have z8 : WF.cell? ⟨w.heap.size + 1, 8, none⟩ = some (.int .u64 (t.deps 5 : Int)) := by rw [cell_of_block e2]; rfl
  have z9 : WF.cell? ⟨w.heap.size + 1, 9, none⟩ = some (.int .u64 (t.deps 6 : Int)) := by rw [cell_of_block e2]; rfl
  have z10 : WF.cell? ⟨w.heap.size + 1, 10, none⟩ = some (.int .u64 (t.deps 7 : Int)) := by rw [cell_of_block e2]; rfl
  have z11 : WF.cell? ⟨w.heap.size + 1, 11, none⟩ = some (.slice A2 n c2) := by rw [cell_of_block e2]; rfl
  clear e2 hWF
  refine bodyPost_ret (v := .agg (tcs t (.slice A2 n c2))) (by simp [results, Try.results26, go_sem, *]) rfl ?_
  exact ⟨_, rfl, own_le hown5 HG.out.size, hgr5⟩
theorem rcopy8_any (t : TX) (v : Value) (w : World) (hv : TOV w v t.ops) (hlen : t.ops.length * 48 ≤ 140737488355328) :
    Calls Try.prog 26 #[.agg (tcs t v)] w fun e w' => ∃ u, e = .returned (.agg (tcs t u)) ∧ TOV w' u t.ops ∧ Gr w w' :=
  (rcopy8_own t v w hv hlen).mono fun _ _ ⟨u, h1, h2, h3⟩ => ⟨u, h1, h2.tov, h3⟩
end Go.Proofs.Ytaldgjcbbjjceaa
