/- Plain mathematics: sorted strings; doubles left out. Rows of strings that the call owns; append onto them. Walks: slices.Sort and slices.Compact of strings that the call owns. -/
import Derived.Test.YtnjmgknicffcbaaGreatDoorZb17
import Derived.Sort.Walk0
import Derived.Lib.SlicesCompact
import Derived.Test.YtnjmgknicffcbaaGreatDoorZb08
import Derived.Test.YtnjmgknicffcbaaGreatDoorZb04
import Derived.Sort.OwnSorted
import Derived.Shelf.SlicesE.Compact
namespace Go.Proofs.YtnjmgknicffcbaaGreatDoor
open Go.Lib

def ltoB (l : List UInt8) : ByteArray := ⟨l.toArray⟩
def btoL (s : ByteArray) : List UInt8 := s.data.toList
theorem ltoB_btoL (s : ByteArray) : ltoB (btoL s) = s := by cases s; simp [ltoB, btoL]
theorem btoL_ltoB (l : List UInt8) : btoL (ltoB l) = l := by simp [ltoB, btoL]
theorem btoL_inj {a b : ByteArray} (h : btoL a = btoL b) : a = b := by rw [← ltoB_btoL a, ← ltoB_btoL b, h]
theorem lessS_lt (a b : ByteArray) : lessS a b = decide (btoL a < btoL b) := by
  unfold lessS
  rw [Go.Proofs.bytesLess_eq, Lib.toList_data, Lib.toList_data]
  rfl
theorem lessS_ltoB (a b : List UInt8) : lessS (ltoB a) (ltoB b) = decide (a < b) := by rw [lessS_lt, btoL_ltoB, btoL_ltoB]
/-- The strings, sorted. -/
def sortL (T : List ByteArray) : List (List UInt8) := (T.map btoL).mergeSort fun x y => decide (x ≤ y)
def sortT (T : List ByteArray) : List ByteArray := (sortL T).map ltoB
theorem sortL_perm (T : List ByteArray) : (sortL T).Perm (T.map btoL) := List.mergeSort_perm _ _
theorem sortT_perm (T : List ByteArray) : (sortT T).Perm T := by
  unfold sortT
  have h := (sortL_perm T).map ltoB
  rw [List.map_map] at h
  have e : T.map (ltoB ∘ btoL) = T := by
    conv => rhs; rw [← List.map_id T]
    exact List.map_congr_left fun s _ => ltoB_btoL s
  rw [e] at h
  exact h
theorem sortT_len (T : List ByteArray) : (sortT T).length = T.length := (sortT_perm T).length_eq
theorem mem_sortT {x : ByteArray} {T : List ByteArray} : x ∈ sortT T ↔ x ∈ T := (sortT_perm T).mem_iff
theorem sortL_flat (T : List ByteArray) : (sortL T).Pairwise fun a b => a ≤ b := by
  have h := List.pairwise_mergeSort (le := fun x y : List UInt8 => decide (x ≤ y)) (fun a b c h k => by
    simp only [decide_eq_true_eq] at h k ⊢
    exact List.le_trans h k) (fun a b => by
    simp only [Bool.or_eq_true, decide_eq_true_eq]
    exact List.le_total a b) (T.map btoL)
  exact h.imp fun {a b} h => by simpa using h
theorem sortT_flat (T : List ByteArray) : (sortT T).Pairwise fun a b => lessS b a = false := by
  unfold sortT
  rw [List.pairwise_map]
  refine (sortL_flat T).imp fun {a b} h => ?_
  rw [lessS_ltoB]
  simpa using h
/-- Doubles that stand side by side, left out. -/
def compT (T : List ByteArray) : List ByteArray := compactUpTo T.toArray T.length
theorem flat_get {T : List ByteArray} (h : T.Pairwise fun a b => lessS b a = false) {i j : Nat} (hij : i ≤ j) (hj : j < T.length) : T[i] = T[j] ∨ lessS T[i] T[j] = true := by
  rcases Nat.lt_or_eq_of_le hij with c | c
  · have := List.pairwise_iff_getElem.1 h i j (by omega) hj c
    rcases lessS_total T[i] T[j] with q | q | q
    · exact .inr q
    · exact .inl q
    · rw [q] at this; cases this
  · subst c; exact .inl rfl
theorem compT_rising {T : List ByteArray} (h : T.Pairwise fun a b => lessS b a = false) : RisingS (compT T) := by
  unfold compT compactUpTo RisingS
  rw [List.pairwise_map, List.pairwise_filter]
  refine List.Pairwise.imp_of_mem (R := fun a b => a < b) (fun {a b} ha hb hab _ hk => ?_) List.pairwise_lt_range
  have hbl : b < T.length := by simpa using hb
  have e1 : T.toArray[a]! = T[a] := by simp [show a < T.length by omega]
  have e2 : T.toArray[b]! = T[b] := by simp [hbl]
  have e3 : T.toArray[b - 1]! = T[b - 1] := by simp [show b - 1 < T.length by omega]
  unfold keeps at hk
  simp only [decide_eq_true_eq] at hk
  rw [e1, e2]
  rw [e2, e3] at hk
  have hne : T[b] ≠ T[b - 1] := by
    rcases hk with k | k
    · omega
    · exact k
  have hlast : lessS T[b - 1] T[b] = true := by
    rcases flat_get h (i := b - 1) (j := b) (by omega) hbl with q | q
    · exact absurd q.symm hne
    · exact q
  rcases flat_get h (i := a) (j := b - 1) (by omega) (by omega) with q | q
  · rw [q]; exact hlast
  · exact lessS_trans q hlast
theorem firstOf {T : List ByteArray} {x : ByteArray} (hx : x ∈ T) : ∃ (q : Nat) (hq : q < T.length), T[q] = x ∧ ∀ j (hj : j < T.length), j < q → T[j] ≠ x := by
  have hf := List.findIdx_lt_length_of_exists (p := fun y : ByteArray => decide (y = x)) (xs := T) ⟨x, hx, by simp⟩
  refine ⟨_, hf, ?_, fun j hj hlt => ?_⟩
  · have h1 := List.findIdx_getElem (p := fun y : ByteArray => decide (y = x)) (w := hf)
    simpa using h1
  · have h2 := List.not_of_lt_findIdx (p := fun y : ByteArray => decide (y = x)) (xs := T) (i := j) hlt
    simpa using h2
theorem mem_compT {T : List ByteArray} {x : ByteArray} : x ∈ compT T ↔ x ∈ T := by
  unfold compT compactUpTo
  rw [List.mem_map]
  constructor
  · rintro ⟨j, hj, rfl⟩
    have hjl : j < T.length := by simpa using (List.mem_filter.1 hj).1
    have e : T.toArray[j]! = T[j] := by simp [hjl]
    rw [e]
    exact List.getElem_mem hjl
  · intro hx
    obtain ⟨q, hq, h1, h2⟩ := firstOf hx
    have e1 : T.toArray[q]! = T[q] := by simp [hq]
    refine ⟨q, ?_, by rw [e1, h1]⟩
    rw [List.mem_filter]
    refine ⟨by simpa using hq, ?_⟩
    unfold keeps
    simp only [decide_eq_true_eq]
    rcases Nat.eq_zero_or_pos q with c | c
    · exact .inl c
    · refine .inr ?_
      have e2 : T.toArray[q - 1]! = T[q - 1] := by simp [show q - 1 < T.length by omega]
      rw [e1, e2, h1]
      exact fun e => h2 (q - 1) (by omega) (by omega) e.symm
theorem compT_sort (T : List ByteArray) : compT (sortT T) = riseT T :=
  riseT_uniq (compT_rising (sortT_flat T)) fun _ => mem_compT.trans mem_sortT
end Go.Proofs.YtnjmgknicffcbaaGreatDoor
namespace Go.Proofs.YtnjmgknicffcbaaGreatDoor
open Go.RowKit

/-- The call owns the slice v from block B on: it reads as these strings. -/
def SO (w : World) (B : Nat) (v : Value) (L : List ByteArray) : Prop := w.ownsRow B 9 1 v L.length (L.map Value.string)
theorem SO.gr {w w' : World} {B : Nat} {v : Value} {L : List ByteArray} (h : SO w B v L) (g : Gr w w') : SO w' B v L := own_gr h g
theorem SO.le {w : World} {B B' : Nat} {v : Value} {L : List ByteArray} (h : SO w B v L) (hb : B' ≤ B) : SO w B' v L := own_le h hb
theorem SO.nil (w : World) (B : Nat) : SO w B (.slice none 0 0) [] := World.ownsRow_nil w B _ _
theorem SO.sv {w : World} {B : Nat} {v : Value} {L : List ByteArray} (h : SO w B v L) : SV w v L := SV.of_own h
theorem strs_one (L : List ByteArray) : ∀ u ∈ L.map Value.string, u.oneCell' = true := by
  intro u hu
  obtain ⟨s, _, rfl⟩ := List.mem_map.1 hu
  rfl
theorem SV.sl {w : World} {v : Value} {L : List ByteArray} (h : SV w v L) : SL w 1 v L.length (L.map Value.string) := by
  obtain ⟨A, c, hv, h1, h2, h3⟩ := h
  refine ⟨A, c, hv, h1, h2, by rw [List.length_map, Nat.mul_one], fun j u hj => ?_⟩
  obtain ⟨hl, he⟩ := List.getElem?_eq_some_iff.1 hj
  rw [List.length_map] at hl
  obtain ⟨b, off, ha, hc⟩ := h3 j hl
  refine ⟨b, off, ha, ?_⟩
  rw [hc, ← he, List.getElem_map]
/-- append of strings to a row of the call's own. -/
theorem wpList_push_strs {W w0 : World} {ops : Array Oper} {rest : List Oper} {o : Oper} {a : Act} {Q : Exit → Act → World → Prop} (hgd : o.guard = none) (s x : Operand)
    (ho : o.op = .call { callee := .builtin .append, args := #[s, x], argTypes := #[93, 93] })
    (v vx : Value) (L M : List ByteArray) (hs : a.eval s = v) (hown : SO W w0.heap.size v L) (hx : a.eval x = vx) (hxv : SV W vx M) (hlen : (L.length + M.length) * 16 ≤ 140737488355328) (hg : Gr w0 W)
    (h : ∀ A' c' w', SO w' w0.heap.size (.slice A' (L.length + M.length) c') (L ++ M) → Gr w0 w' → W.grownBy w' v.ownBlock → wpList Tryz.prog ops Q rest (a.put o.dst (.slice A' (L.length + M.length) c')) w') :
    wpList Tryz.prog ops Q (o :: rest) a W := by
  obtain ⟨i0, hi, hz0, hz1, hz2⟩ := info_parts infoString
  have hsz := hg.size
  refine wpList_append_sl _ hgd s x 93 ho w0.heap.size 9 i0 _ 1 16 Tryz.underlying93 hi hz0 hz1 hz2 rfl (by decide) v L.length (L.map Value.string) hs hown vx M.length (M.map Value.string) hx
    hxv.sl (strs_one M) (by unfold maxLen; omega) hlen hsz (L.length + M.length) rfl ?_
  intro A' c' w' hown' hgr _
  refine h A' c' w' ?_ (gr_of_grown hg hown hgr hsz) hgr
  unfold SO
  rw [List.length_append, List.map_append]
  exact hown'

end Go.Proofs.YtnjmgknicffcbaaGreatDoor
namespace Go.Proofs.YtnjmgknicffcbaaGreatDoor
open Go.RowKit Go.Sort

theorem map_encT (T : List ByteArray) : T.map Value.string = (T.map btoL).map encStr := by
  rw [List.map_map]
  exact List.map_congr_left fun s _ => by
    show Value.string s = Value.string ⟨(btoL s).toArray⟩
    rw [show (⟨(btoL s).toArray⟩ : ByteArray) = ltoB (btoL s) from rfl, ltoB_btoL]
theorem map_encL (L : List (List UInt8)) : (L.map ltoB).map Value.string = L.map encStr := by
  rw [List.map_map]
  rfl
set_option maxRecDepth 100000 in
theorem sortS_any (v : Value) (T : List ByteArray) (B : Nat) (w : World) (hv : SO w B v T) (hlen : T.length < 4611686018427387904) :
    Calls Tryz.prog 199 #[v] w fun e w' => e = .returned (.tuple #[]) ∧ SO w' B v (sortT T) ∧ Kp v.ownBlock w w' := by
  have hv0 := hv
  unfold SO at hv
  rcases hv.2 with ⟨hv1, h0⟩ | ⟨g, cap, cur, rfl, hbase, hb, h1, h2, h3, h4⟩
  · have hT : T = [] := List.length_eq_zero_iff.1 h0
    subst hv1 hT
    have hc : Calls Tryz.prog 199 _ _ _ := AnyM.slices_Sort_string_none laysSrt none 0 w
    refine hc.mono ?_
    rintro e w' ⟨rfl, rfl⟩
    refine ⟨rfl, ?_, Kp.refl _ _⟩
    have e : sortT [] = [] := List.length_eq_zero_iff.1 (sortT_len [])
    rw [e]
    exact hv0
  · have hlt : g < w.heap.size := (Array.getElem?_eq_some_iff.1 hb).1
    have e1 : T.length = (T.map btoL).length := by simp
    have h4' : cur.toList.take (T.map btoL).length = (T.map btoL).map encStr := by
      rw [← map_encT, ← e1]
      simpa using h4
    have hc : Calls Tryz.prog 199 _ _ _ := AnyM.slices_Sort_string laysSrt g 0 cap (T.map btoL) w (holds_of_block hb h4') hlt (by rw [← e1]; exact hlen)
    rw [← e1] at hc
    refine hc.mono ?_
    rintro e w' ⟨rfl, n, os, rfl⟩
    refine ⟨rfl, ?_, grownBy_sorted _⟩
    have hl : (sortL T).length = (T.map btoL).length := (sortL_perm T).length_eq
    have ho := ownsRow_sorted (w := w) (base := B) (g := g) (cap := cap) (n := n) (e := 9) (os := os) (cur := cur) (ss := T.map btoL) (ts := sortL T) hl hbase hb (by rw [← e1]; exact h1) h2 h3
    unfold SO sortT
    rw [map_encL, List.length_map, hl]
    rw [← e1] at ho ⊢
    exact ho
theorem eqlStr : EqlAt Tryz.prog 9 encStr (fun x y => decide (x = y)) := by
  refine ⟨fun x y w => ?_, fun op a b x y w => (GuardAt.string Tryz.prog 9) op a b _ _ w⟩
  by_cases h : x = y <;> simp [binOp, Op.stringOp, h, Lib.toList_data]
theorem neqStr : NeqAt Tryz.prog 9 encStr (fun x y => decide (x = y)) := by
  refine ⟨fun x y w => ?_, fun op a b x y w => (GuardAt.string Tryz.prog 9) op a b _ _ w⟩
  by_cases h : x = y <;> simp [binOp, Op.stringOp, h, Lib.toList_data]
def laysCmp_ren : Go.Shelf.Ren := ⟨fun | 43 => 201 | n => n, fun | 0 => 0 | 3 => 3 | 4 => 4 | 22 => 93 | 23 => 9 | n => n, fun | n => n⟩
set_option maxRecDepth 100000 in
theorem laysCmp : Go.Proofs.SlLaysE.n43 Tryz.prog laysCmp_ren := {
  mixed := by kernel_rfl
  f43 := ⟨Tryz.f201.name, by kernel_rfl, Tryz.func201.trans (congrArg some (by kernel_rfl))⟩
  t0 := Tryz.underlying0
  a0 := Tryz.isAgg0
  z0 := Tryz.sizeOf0
  v0 := Tryz.zeroValue0
  t3 := Tryz.underlying3
  a3 := Tryz.isAgg3
  z3 := Tryz.sizeOf3
  v3 := Tryz.zeroValue3
  t4 := Tryz.underlying4
  a4 := Tryz.isAgg4
  z4 := Tryz.sizeOf4
  v4 := Tryz.zeroValue4
  t22 := Tryz.underlying93
  a22 := Tryz.isAgg93
  z22 := Tryz.sizeOf93
  v22 := Tryz.zeroValue93
  a23 := Tryz.isAgg9
  z23 := Tryz.sizeOf9 }
theorem keeps_btoL (T : List ByteArray) (j : Nat) (hj : j < T.length) : Lib.keeps (T.map btoL).toArray j = Lib.keeps T.toArray j := by
  unfold Lib.keeps
  have e1 : (T.map btoL).toArray[j]! = btoL T[j] := by simp [hj]
  have e2 : (T.map btoL).toArray[j - 1]! = btoL T[j - 1] := by simp [show j - 1 < T.length by omega]
  have e3 : T.toArray[j]! = T[j] := by simp [hj]
  have e4 : T.toArray[j - 1]! = T[j - 1] := by simp [show j - 1 < T.length by omega]
  rw [e1, e2, e3, e4]
  have h : btoL T[j] ≠ btoL T[j - 1] ↔ T[j] ≠ T[j - 1] := ⟨fun h e => h (by rw [e]), fun h e => h (btoL_inj e)⟩
  simp only [h]
theorem comp_btoL (T : List ByteArray) : Lib.compactUpTo (T.map btoL).toArray T.length = (compT T).map btoL := by
  unfold compT Lib.compactUpTo
  rw [List.map_map]
  have e : (List.range T.length).filter (Lib.keeps (T.map btoL).toArray) = (List.range T.length).filter (Lib.keeps T.toArray) := List.filter_congr fun j hj => keeps_btoL T j (by simpa using hj)
  rw [e]
  refine List.map_congr_left fun j hj => ?_
  have hjl : j < T.length := by simpa using (List.mem_filter.1 hj).1
  simp [hjl]
theorem compT_len (T : List ByteArray) : (compT T).length ≤ T.length := by
  unfold compT Lib.compactUpTo
  rw [List.length_map]
  exact Nat.le_trans (List.length_filter_le _ _) (by simp)
set_option maxRecDepth 100000 in
theorem compS_any (v : Value) (T : List ByteArray) (B : Nat) (w : World) (hv : SO w B v T) (hlen : T.length < 4611686018427387904) :
    Calls Tryz.prog 201 #[v] w fun e w' => ∃ v', e = .returned v' ∧ SO w' B v' (compT T) ∧ v'.ownBlock = v.ownBlock ∧ Kp v.ownBlock w w' := by
  have hv0 := hv
  unfold SO at hv
  rcases hv.2 with ⟨hv1, h0⟩ | ⟨g, cap, cur, rfl, hbase, hb, h1, h2, h3, h4⟩
  · have hT : T = [] := List.length_eq_zero_iff.1 h0
    subst hv1 hT
    clear hv
    go_enter Tryz.func201, Tryz.ntmps201
    go_wp2
    go_ret
    exact ⟨_, rfl, hv0, rfl, Kp.refl _ _⟩
  · have hlt : g < w.heap.size := (Array.getElem?_eq_some_iff.1 hb).1
    have e1 : T.length = (T.map btoL).length := by simp
    have e2 : (T.map btoL).toArray.size = T.length := by simp
    have h4' : cur.toList.take (T.map btoL).length = (T.map btoL).map encStr := by
      rw [← map_encT, ← e1]
      simpa using h4
    have hc : Calls Tryz.prog 201 _ _ _ := AnyE.slices_Compact laysCmp encStr (fun _ => rfl) eqlStr neqStr [] Tryz.zeroValue9 g 0 cap (T.map btoL).toArray w (holds_of_block hb h4') (by rw [e2]; omega) (by rw [e2]; exact h1)
    rw [e2, comp_btoL] at hc
    refine hc.mono ?_
    rintro e w' ⟨rfl, q, rfl⟩
    have hl : ((compT T).map btoL ++ List.replicate (T.length - ((compT T).map btoL).length) ([] : List UInt8)).length = (T.map btoL).length := by
      have := compT_len T
      simp
      omega
    have ho := ownsRow_sorted (w := w) (base := B) (g := g) (cap := cap) (n := q) (e := 9) (os := #[]) (cur := cur) (ss := T.map btoL) hl hbase hb (by rw [← e1]; exact h1) h2 h3
    rw [Go.Sort.grow_empty] at ho
    have hg := grownBy_sorted (w := w) (g := g) (n := q) (os := #[]) ((compT T).map btoL ++ List.replicate (T.length - ((compT T).map btoL).length) ([] : List UInt8)).toArray
    rw [Go.Sort.grow_empty] at hg
    obtain ⟨W, hW⟩ : ∃ W, W = putRow encStr (Sort.ahead w q) g 0 ((compT T).map btoL ++ List.replicate (T.length - ((compT T).map btoL).length) ([] : List UInt8)).toArray := ⟨_, rfl⟩
    rw [← hW] at ho hg ⊢
    clear hW
    refine ⟨_, rfl, ?_, rfl, hg⟩
    · unfold SO
      rcases ho.2 with ⟨hh, _⟩ | ⟨g', cap', cur', hh, hbase', hb', k1, k2, k3, k4⟩
      · cases hh
      · injection hh with a1 a2 a3
        injection a1 with a1
        injection a1 with a1
        subst a1 a3
        have hk := compT_len T
        rw [List.length_map]
        refine ⟨by simp, .inr ⟨_, _, cur', rfl, hbase', hb', by omega, k2, k3, ?_⟩⟩
        have k5 := congrArg (List.take (compT T).length) k4
        rw [List.take_take, List.map_append, List.take_append_of_le_length (by simp)] at k5
        rw [Nat.mul_one, map_encT]
        rw [Nat.mul_one] at k5
        rw [show min (compT T).length (T.map btoL).length = (compT T).length by rw [← e1]; omega] at k5
        rw [k5]
        exact List.take_of_length_le (by simp)
end Go.Proofs.YtnjmgknicffcbaaGreatDoor
