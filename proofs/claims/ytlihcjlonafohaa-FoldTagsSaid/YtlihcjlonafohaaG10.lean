/- Texts SrtM, SV, Strs, SrtA, LibC, Cln, ValA, joined. -/
import Derived.Test.YtlihcjlonafohaaG09
import Derived.Sort.Walk0
import Derived.Lib.SlicesCompact
import Derived.Test.YtlihcjlonafohaaG01
import Derived.Lib.Hide
import Derived.Test.YtlihcjlonafohaaG08
import Derived.Sort.OwnSorted
import Derived.Shelf.SlicesE.Compact
import Derived.Test.YtlihcjlonafohaaChecked
import Derived.Shelf.Strconv.Clone
import Derived.WalkKit
import Derived.ProofKit
import Derived.Lib.Strings
import Derived.Test.YtlihcjlonafohaaG07
import Derived.Test.YtlihcjlonafohaaG05
/- Plain mathematics: sorted strings; doubles left out. -/
namespace Go.Proofs.Ytlihcjlonafohaa
open Go.Lib

def ltoB (l : List UInt8) : ByteArray := ⟨l.toArray⟩
def btoL (s : ByteArray) : List UInt8 := s.data.toList
theorem ltoB_btoL (s : ByteArray) : ltoB (btoL s) = s := by cases s; simp [ltoB, btoL]
theorem btoL_ltoB (l : List UInt8) : btoL (ltoB l) = l := by simp [ltoB, btoL]
theorem btoL_inj {a b : ByteArray} (h : btoL a = btoL b) : a = b := by rw [← ltoB_btoL a, ← ltoB_btoL b, h]
theorem lessS_lt (a b : ByteArray) : lessS a b = decide (btoL a < btoL b) := by
  unfold lessS
  rw [Go.Proofs.bytesLess_eq, Lib.toList_data, Lib.toList_data]
  rfl
theorem lessS_ltoB (a b : List UInt8) : lessS (ltoB a) (ltoB b) = decide (a < b) := by rw [lessS_lt, btoL_ltoB, btoL_ltoB]
/-- The strings, sorted. -/
def sortL (T : List ByteArray) : List (List UInt8) := (T.map btoL).mergeSort fun x y => decide (x ≤ y)
def sortT (T : List ByteArray) : List ByteArray := (sortL T).map ltoB
theorem sortL_perm (T : List ByteArray) : (sortL T).Perm (T.map btoL) := List.mergeSort_perm _ _
theorem sortT_perm (T : List ByteArray) : (sortT T).Perm T := by
  unfold sortT
  have h := (sortL_perm T).map ltoB
  rw [List.map_map] at h
  have e : T.map (ltoB ∘ btoL) = T := by
    conv => rhs; rw [← List.map_id T]
    exact List.map_congr_left fun s _ => ltoB_btoL s
  rw [e] at h
  exact h
theorem sortT_len (T : List ByteArray) : (sortT T).length = T.length := (sortT_perm T).length_eq
theorem mem_sortT {x : ByteArray} {T : List ByteArray} : x ∈ sortT T ↔ x ∈ T := (sortT_perm T).mem_iff
theorem sortL_flat (T : List ByteArray) : (sortL T).Pairwise fun a b => a ≤ b := by
  have h := List.pairwise_mergeSort (le := fun x y : List UInt8 => decide (x ≤ y)) (fun a b c h k => by
    simp only [decide_eq_true_eq] at h k ⊢
    exact List.le_trans h k) (fun a b => by
    simp only [Bool.or_eq_true, decide_eq_true_eq]
    exact List.le_total a b) (T.map btoL)
  exact h.imp fun {a b} h => by simpa using h
theorem sortT_flat (T : List ByteArray) : (sortT T).Pairwise fun a b => lessS b a = false := by
  unfold sortT
  rw [List.pairwise_map]
  refine (sortL_flat T).imp fun {a b} h => ?_
  rw [lessS_ltoB]
  simpa using h
/-- Doubles that stand side by side, left out. -/
def compT (T : List ByteArray) : List ByteArray := compactUpTo T.toArray T.length
theorem flat_get {T : List ByteArray} (h : T.Pairwise fun a b => lessS b a = false) {i j : Nat} (hij : i ≤ j) (hj : j < T.length) : T[i] = T[j] ∨ lessS T[i] T[j] = true := by
  rcases Nat.lt_or_eq_of_le hij with c | c
  · have := List.pairwise_iff_getElem.1 h i j (by omega) hj c
    rcases lessS_total T[i] T[j] with q | q | q
    · exact .inr q
    · exact .inl q
    · rw [q] at this; cases this
  · subst c; exact .inl rfl
theorem compT_rising {T : List ByteArray} (h : T.Pairwise fun a b => lessS b a = false) : RisingS (compT T) := by
  unfold compT compactUpTo RisingS
  rw [List.pairwise_map, List.pairwise_filter]
  refine List.Pairwise.imp_of_mem (R := fun a b => a < b) (fun {a b} ha hb hab _ hk => ?_) List.pairwise_lt_range
  have hbl : b < T.length := by simpa using hb
  have e1 : T.toArray[a]! = T[a] := by simp [show a < T.length by omega]
  have e2 : T.toArray[b]! = T[b] := by simp [hbl]
  have e3 : T.toArray[b - 1]! = T[b - 1] := by simp [show b - 1 < T.length by omega]
  unfold keeps at hk
  simp only [decide_eq_true_eq] at hk
  rw [e1, e2]
  rw [e2, e3] at hk
  have hne : T[b] ≠ T[b - 1] := by
    rcases hk with k | k
    · omega
    · exact k
  have hlast : lessS T[b - 1] T[b] = true := by
    rcases flat_get h (i := b - 1) (j := b) (by omega) hbl with q | q
    · exact absurd q.symm hne
    · exact q
  rcases flat_get h (i := a) (j := b - 1) (by omega) (by omega) with q | q
  · rw [q]; exact hlast
  · exact lessS_trans q hlast
theorem firstOf {T : List ByteArray} {x : ByteArray} (hx : x ∈ T) : ∃ (q : Nat) (hq : q < T.length), T[q] = x ∧ ∀ j (hj : j < T.length), j < q → T[j] ≠ x := by
  have hf := List.findIdx_lt_length_of_exists (p := fun y : ByteArray => decide (y = x)) (xs := T) ⟨x, hx, by simp⟩
  refine ⟨_, hf, ?_, fun j hj hlt => ?_⟩
  · have h1 := List.findIdx_getElem (p := fun y : ByteArray => decide (y = x)) (w := hf)
    simpa using h1
  · have h2 := List.not_of_lt_findIdx (p := fun y : ByteArray => decide (y = x)) (xs := T) (i := j) hlt
    simpa using h2
theorem mem_compT {T : List ByteArray} {x : ByteArray} : x ∈ compT T ↔ x ∈ T := by
  unfold compT compactUpTo
  rw [List.mem_map]
  constructor
  · rintro ⟨j, hj, rfl⟩
    have hjl : j < T.length := by simpa using (List.mem_filter.1 hj).1
    have e : T.toArray[j]! = T[j] := by simp [hjl]
    rw [e]
    exact List.getElem_mem hjl
  · intro hx
    obtain ⟨q, hq, h1, h2⟩ := firstOf hx
    have e1 : T.toArray[q]! = T[q] := by simp [hq]
    refine ⟨q, ?_, by rw [e1, h1]⟩
    rw [List.mem_filter]
    refine ⟨by simpa using hq, ?_⟩
    unfold keeps
    simp only [decide_eq_true_eq]
    rcases Nat.eq_zero_or_pos q with c | c
    · exact .inl c
    · refine .inr ?_
      have e2 : T.toArray[q - 1]! = T[q - 1] := by simp [show q - 1 < T.length by omega]
      rw [e1, e2, h1]
      exact fun e => h2 (q - 1) (by omega) (by omega) e.symm
theorem compT_sort (T : List ByteArray) : compT (sortT T) = riseT T :=
  riseT_uniq (compT_rising (sortT_flat T)) fun _ => mem_compT.trans mem_sortT
end Go.Proofs.Ytlihcjlonafohaa
/- Slices of strings: what a slice value reads as; rows of the call's own. -/
namespace Go.Proofs.Ytlihcjlonafohaa
open Go.RowKit

/-- The slice value v reads as the strings L. -/
def SV (w : World) (v : Value) (L : List ByteArray) : Prop :=
  ∃ A c, v = .slice A L.length c ∧ L.length ≤ c ∧ (c ≤ maxLen ∧ (A = Option.none → c = 0)) ∧ ∀ j (hj : j < L.length), ∃ b off, A = some ⟨b, off, none⟩ ∧ w.cell? ⟨b, off + j, none⟩ = some (.string L[j])

theorem SV.gr {w w' : World} {v : Value} {L : List ByteArray} (h : SV w v L) (g : Gr w w') : SV w' v L := by
  obtain ⟨A, c, hv, h1, h2, h3⟩ := h
  refine ⟨A, c, hv, h1, h2, fun j hj => ?_⟩
  obtain ⟨b, off, ha, hc⟩ := h3 j hj
  exact ⟨b, off, ha, g.cell hc⟩
theorem SV.nil (w : World) : SV w (.slice none 0 0) [] := ⟨none, 0, rfl, Nat.le_refl _, ⟨Nat.zero_le _, fun _ => rfl⟩, fun j hj => absurd hj (by simp)⟩

theorem SV.of_own {w : World} {base : Nat} {e : TypeId} {v : Value} {L : List ByteArray} (h : w.ownsRow base e 1 v L.length (L.map Value.string)) : SV w v L := by
  rcases h.2 with ⟨rfl, h0⟩ | ⟨g, cap, cur, rfl, hb, hg, hn, hm, hc, ht⟩
  · have : L = [] := List.length_eq_zero_iff.1 h0
    subst this
    exact SV.nil w
  · refine ⟨_, cap, rfl, hn, ⟨hm, fun h => by cases h⟩, fun j hj => ⟨g, 0, rfl, ?_⟩⟩
    rw [Nat.zero_add, h.cellAt j (by omega)]
    simp [hj]
theorem infoString : (Try.prog.info? 9).map (fun i => (i.zero, i.size, i.bytes)) = some (some (.string ⟨#[]⟩), 1, 16) := by kernel_rfl

/-- A call's answer: a slice of strings in new memory, and a number. -/
def RetSVInt (L : List ByteArray) (k : Nat) (w : World) (e : Ending) (w' : World) : Prop :=
  ∃ v, e = .returned (.tuple #[v, .int .i64 (k : Int)]) ∧ w'.ownsRow w.heap.size 9 1 v L.length (L.map Value.string) ∧ Gr w w'
end Go.Proofs.Ytlihcjlonafohaa
/- Rows of strings that the call owns; append onto them. -/
namespace Go.Proofs.Ytlihcjlonafohaa
open Go.RowKit

/-- The call owns the slice v from block B on: it reads as these strings. -/
def SO (w : World) (B : Nat) (v : Value) (L : List ByteArray) : Prop := w.ownsRow B 9 1 v L.length (L.map Value.string)
theorem SO.gr {w w' : World} {B : Nat} {v : Value} {L : List ByteArray} (h : SO w B v L) (g : Gr w w') : SO w' B v L := own_gr h g
theorem SO.le {w : World} {B B' : Nat} {v : Value} {L : List ByteArray} (h : SO w B v L) (hb : B' ≤ B) : SO w B' v L := own_le h hb
theorem SO.nil (w : World) (B : Nat) : SO w B (.slice none 0 0) [] := World.ownsRow_nil w B _ _
theorem SO.sv {w : World} {B : Nat} {v : Value} {L : List ByteArray} (h : SO w B v L) : SV w v L := SV.of_own h
theorem strs_one (L : List ByteArray) : ∀ u ∈ L.map Value.string, u.oneCell' = true := by
  intro u hu
  obtain ⟨s, _, rfl⟩ := List.mem_map.1 hu
  rfl
theorem SV.sl {w : World} {v : Value} {L : List ByteArray} (h : SV w v L) : SL w 1 v L.length (L.map Value.string) := by
  obtain ⟨A, c, hv, h1, h2, h3⟩ := h
  refine ⟨A, c, hv, h1, h2, by rw [List.length_map, Nat.mul_one], fun j u hj => ?_⟩
  obtain ⟨hl, he⟩ := List.getElem?_eq_some_iff.1 hj
  rw [List.length_map] at hl
  obtain ⟨b, off, ha, hc⟩ := h3 j hl
  refine ⟨b, off, ha, ?_⟩
  rw [hc, ← he, List.getElem_map]
/-- append of strings to a row of the call's own. -/
theorem wpList_push_strs {W w0 : World} {ops : Array Oper} {rest : List Oper} {o : Oper} {a : Act} {Q : Exit → Act → World → Prop} (hgd : o.guard = none) (s x : Operand)
    (ho : o.op = .call { callee := .builtin .append, args := #[s, x], argTypes := #[33, 33] })
    (v vx : Value) (L M : List ByteArray) (hs : a.eval s = v) (hown : SO W w0.heap.size v L) (hx : a.eval x = vx) (hxv : SV W vx M) (hlen : (L.length + M.length) * 16 ≤ 140737488355328) (hg : Gr w0 W)
    (h : ∀ A' c' w', SO w' w0.heap.size (.slice A' (L.length + M.length) c') (L ++ M) → Gr w0 w' → W.grownBy w' v.ownBlock → wpList Try.prog ops Q rest (a.put o.dst (.slice A' (L.length + M.length) c')) w') :
    wpList Try.prog ops Q (o :: rest) a W := by
  obtain ⟨i0, hi, hz0, hz1, hz2⟩ := info_parts infoString
  have hsz := hg.size
  refine wpList_append_sl _ hgd s x 33 ho w0.heap.size 9 i0 _ 1 16 Try.underlying33 hi hz0 hz1 hz2 rfl (by decide) v L.length (L.map Value.string) hs hown vx M.length (M.map Value.string) hx
    hxv.sl (strs_one M) (by unfold maxLen; omega) hlen hsz (L.length + M.length) rfl ?_
  intro A' c' w' hown' hgr _
  refine h A' c' w' ?_ (gr_of_grown hg hown hgr hsz) hgr
  unfold SO
  rw [List.length_append, List.map_append]
  exact hown'

end Go.Proofs.Ytlihcjlonafohaa
/- Walks: slices.Sort and slices.Compact of strings that the call owns. -/
namespace Go.Proofs.Ytlihcjlonafohaa
open Go.RowKit Go.Sort

theorem map_encT (T : List ByteArray) : T.map Value.string = (T.map btoL).map encStr := by
  rw [List.map_map]
  exact List.map_congr_left fun s _ => by
    show Value.string s = Value.string ⟨(btoL s).toArray⟩
    rw [show (⟨(btoL s).toArray⟩ : ByteArray) = ltoB (btoL s) from rfl, ltoB_btoL]
theorem map_encL (L : List (List UInt8)) : (L.map ltoB).map Value.string = L.map encStr := by
  rw [List.map_map]
  rfl
set_option maxRecDepth 100000 in
theorem sortS_any (v : Value) (T : List ByteArray) (B : Nat) (w : World) (hv : SO w B v T) (hlen : T.length < 4611686018427387904) :
    Calls Try.prog 39 #[v] w fun e w' => e = .returned (.tuple #[]) ∧ SO w' B v (sortT T) ∧ Kp v.ownBlock w w' := by
  have hv0 := hv
  unfold SO at hv
  rcases hv.2 with ⟨hv1, h0⟩ | ⟨g, cap, cur, rfl, hbase, hb, h1, h2, h3, h4⟩
  · have hT : T = [] := List.length_eq_zero_iff.1 h0
    subst hv1 hT
    have hc : Calls Try.prog 39 _ _ _ := AnyM.slices_Sort_string_none laysSrt none 0 w
    refine hc.mono ?_
    rintro e w' ⟨rfl, rfl⟩
    refine ⟨rfl, ?_, Kp.refl _ _⟩
    have e : sortT [] = [] := List.length_eq_zero_iff.1 (sortT_len [])
    rw [e]
    exact hv0
  · have hlt : g < w.heap.size := (Array.getElem?_eq_some_iff.1 hb).1
    have e1 : T.length = (T.map btoL).length := by simp
    have h4' : cur.toList.take (T.map btoL).length = (T.map btoL).map encStr := by
      rw [← map_encT, ← e1]
      simpa using h4
    have hc : Calls Try.prog 39 _ _ _ := AnyM.slices_Sort_string laysSrt g 0 cap (T.map btoL) w (holds_of_block hb h4') hlt (by rw [← e1]; exact hlen)
    rw [← e1] at hc
    refine hc.mono ?_
    rintro e w' ⟨rfl, n, os, rfl⟩
    refine ⟨rfl, ?_, grownBy_sorted _⟩
    have hl : (sortL T).length = (T.map btoL).length := (sortL_perm T).length_eq
    have ho := ownsRow_sorted (w := w) (base := B) (g := g) (cap := cap) (n := n) (e := 9) (os := os) (cur := cur) (ss := T.map btoL) (ts := sortL T) hl hbase hb (by rw [← e1]; exact h1) h2 h3
    unfold SO sortT
    rw [map_encL, List.length_map, hl]
    rw [← e1] at ho ⊢
    exact ho
theorem eqlStr : EqlAt Try.prog 9 encStr (fun x y => decide (x = y)) := by
  refine ⟨fun x y w => ?_, fun op a b x y w => (GuardAt.string Try.prog 9) op a b _ _ w⟩
  by_cases h : x = y <;> simp [binOp, Op.stringOp, h, Lib.toList_data]
theorem neqStr : NeqAt Try.prog 9 encStr (fun x y => decide (x = y)) := by
  refine ⟨fun x y w => ?_, fun op a b x y w => (GuardAt.string Try.prog 9) op a b _ _ w⟩
  by_cases h : x = y <;> simp [binOp, Op.stringOp, h, Lib.toList_data]
def laysCmp_ren : Go.Shelf.Ren := ⟨fun | 43 => 40 | n => n, fun | 0 => 0 | 3 => 3 | 4 => 4 | 22 => 33 | 23 => 9 | n => n, fun | n => n⟩
set_option maxRecDepth 100000 in
theorem laysCmp : Go.Proofs.SlLaysE.n43 Try.prog laysCmp_ren := {
  mixed := by kernel_rfl
  f43 := ⟨Try.f40.name, by kernel_rfl, Try.func40.trans (congrArg some (by kernel_rfl))⟩
  t0 := Try.underlying0
  a0 := Try.isAgg0
  z0 := Try.sizeOf0
  v0 := Try.zeroValue0
  t3 := Try.underlying3
  a3 := Try.isAgg3
  z3 := Try.sizeOf3
  v3 := Try.zeroValue3
  t4 := Try.underlying4
  a4 := Try.isAgg4
  z4 := Try.sizeOf4
  v4 := Try.zeroValue4
  t22 := Try.underlying33
  a22 := Try.isAgg33
  z22 := Try.sizeOf33
  v22 := Try.zeroValue33
  a23 := Try.isAgg9
  z23 := Try.sizeOf9 }
theorem keeps_btoL (T : List ByteArray) (j : Nat) (hj : j < T.length) : Lib.keeps (T.map btoL).toArray j = Lib.keeps T.toArray j := by
  unfold Lib.keeps
  have e1 : (T.map btoL).toArray[j]! = btoL T[j] := by simp [hj]
  have e2 : (T.map btoL).toArray[j - 1]! = btoL T[j - 1] := by simp [show j - 1 < T.length by omega]
  have e3 : T.toArray[j]! = T[j] := by simp [hj]
  have e4 : T.toArray[j - 1]! = T[j - 1] := by simp [show j - 1 < T.length by omega]
  rw [e1, e2, e3, e4]
  have h : btoL T[j] ≠ btoL T[j - 1] ↔ T[j] ≠ T[j - 1] := ⟨fun h e => h (by rw [e]), fun h e => h (btoL_inj e)⟩
  simp only [h]
theorem comp_btoL (T : List ByteArray) : Lib.compactUpTo (T.map btoL).toArray T.length = (compT T).map btoL := by
  unfold compT Lib.compactUpTo
  rw [List.map_map]
  have e : (List.range T.length).filter (Lib.keeps (T.map btoL).toArray) = (List.range T.length).filter (Lib.keeps T.toArray) := List.filter_congr fun j hj => keeps_btoL T j (by simpa using hj)
  rw [e]
  refine List.map_congr_left fun j hj => ?_
  have hjl : j < T.length := by simpa using (List.mem_filter.1 hj).1
  simp [hjl]
theorem compT_len (T : List ByteArray) : (compT T).length ≤ T.length := by
  unfold compT Lib.compactUpTo
  rw [List.length_map]
  exact Nat.le_trans (List.length_filter_le _ _) (by simp)
set_option maxRecDepth 100000 in
theorem compS_any (v : Value) (T : List ByteArray) (B : Nat) (w : World) (hv : SO w B v T) (hlen : T.length < 4611686018427387904) :
    Calls Try.prog 40 #[v] w fun e w' => ∃ v', e = .returned v' ∧ SO w' B v' (compT T) ∧ v'.ownBlock = v.ownBlock ∧ Kp v.ownBlock w w' := by
  have hv0 := hv
  unfold SO at hv
  rcases hv.2 with ⟨hv1, h0⟩ | ⟨g, cap, cur, rfl, hbase, hb, h1, h2, h3, h4⟩
  · have hT : T = [] := List.length_eq_zero_iff.1 h0
    subst hv1 hT
    clear hv
    go_enter Try.func40, Try.ntmps40
    go_wp2
    go_ret
    exact ⟨_, rfl, hv0, rfl, Kp.refl _ _⟩
  · have hlt : g < w.heap.size := (Array.getElem?_eq_some_iff.1 hb).1
    have e1 : T.length = (T.map btoL).length := by simp
    have e2 : (T.map btoL).toArray.size = T.length := by simp
    have h4' : cur.toList.take (T.map btoL).length = (T.map btoL).map encStr := by
      rw [← map_encT, ← e1]
      simpa using h4
    have hc : Calls Try.prog 40 _ _ _ := AnyE.slices_Compact laysCmp encStr (fun _ => rfl) eqlStr neqStr [] Try.zeroValue9 g 0 cap (T.map btoL).toArray w (holds_of_block hb h4') (by rw [e2]; omega) (by rw [e2]; exact h1)
    rw [e2, comp_btoL] at hc
    refine hc.mono ?_
    rintro e w' ⟨rfl, q, rfl⟩
    have hl : ((compT T).map btoL ++ List.replicate (T.length - ((compT T).map btoL).length) ([] : List UInt8)).length = (T.map btoL).length := by
      have := compT_len T
      simp
      omega
    have ho := ownsRow_sorted (w := w) (base := B) (g := g) (cap := cap) (n := q) (e := 9) (os := #[]) (cur := cur) (ss := T.map btoL) hl hbase hb (by rw [← e1]; exact h1) h2 h3
    rw [Go.Sort.grow_empty] at ho
    have hg := grownBy_sorted (w := w) (g := g) (n := q) (os := #[]) ((compT T).map btoL ++ List.replicate (T.length - ((compT T).map btoL).length) ([] : List UInt8)).toArray
    rw [Go.Sort.grow_empty] at hg
    obtain ⟨W, hW⟩ : ∃ W, W = putRow encStr (Sort.ahead w q) g 0 ((compT T).map btoL ++ List.replicate (T.length - ((compT T).map btoL).length) ([] : List UInt8)).toArray := ⟨_, rfl⟩
    rw [← hW] at ho hg ⊢
    clear hW
    refine ⟨_, rfl, ?_, rfl, hg⟩
    · unfold SO
      rcases ho.2 with ⟨hh, _⟩ | ⟨g', cap', cur', hh, hbase', hb', k1, k2, k3, k4⟩
      · cases hh
      · injection hh with a1 a2 a3
        injection a1 with a1
        injection a1 with a1
        subst a1 a3
        have hk := compT_len T
        rw [List.length_map]
        refine ⟨by simp, .inr ⟨_, _, cur', rfl, hbase', hb', by omega, k2, k3, ?_⟩⟩
        have k5 := congrArg (List.take (compT T).length) k4
        rw [List.take_take, List.map_append, List.take_append_of_le_length (by simp)] at k5
        rw [Nat.mul_one, map_encT]
        rw [Nat.mul_one] at k5
        rw [show min (compT T).length (T.map btoL).length = (compT T).length by rw [← e1]; omega] at k5
        rw [k5]
        exact List.take_of_length_le (by simp)
end Go.Proofs.Ytlihcjlonafohaa
/- The library's Clone of a string, by the shelf's contract (proved once, over any program), at this program's numbers. -/
namespace Go.Proofs.Ytlihcjlonafohaa
open Go.Shelf Go.RowKit
def lays316_ren : Go.Shelf.Ren := ⟨fun | 316 => 49 | n => n, fun | 0 => 0 | 3 => 3 | 4 => 4 | 5 => 5 | 9 => 9 | 37 => 96 | 127 => 97 | n => n, fun | n => n⟩
theorem lays316 : Go.Proofs.LaysM.n316 Try.prog lays316_ren := {
  mixed := by kernel_rfl
  f316 := Try.func49.trans (congrArg some (by kernel_rfl))
  t0 := Try.underlying0
  a0 := Try.isAgg0
  z0 := Try.sizeOf0
  v0 := Try.zeroValue0
  t3 := Try.underlying3
  a3 := Try.isAgg3
  z3 := Try.sizeOf3
  v3 := Try.zeroValue3
  t4 := Try.underlying4
  a4 := Try.isAgg4
  z4 := Try.sizeOf4
  v4 := Try.zeroValue4
  t9 := Try.underlying9
  a9 := Try.isAgg9
  z9 := Try.sizeOf9
  v9 := Try.zeroValue9
  t37 := Try.underlying96
  a37 := Try.isAgg96
  z37 := Try.sizeOf96
  v37 := Try.zeroValue96
  t127 := Try.underlying97
  a127 := Try.isAgg97
  z127 := Try.sizeOf97
  v127 := Try.zeroValue97
  t5 := Try.underlying5
  a5 := Try.isAgg5
  z5 := Try.sizeOf5
  v5 := Try.zeroValue5
  i0 := by kernel_rfl
  i3 := by kernel_rfl
  i4 := by kernel_rfl
  i5 := by kernel_rfl
  i9 := by kernel_rfl
  i37 := by kernel_rfl
  i127 := by kernel_rfl }
theorem clone_lib (s : ByteArray) (w : World) (hlim : s.size ≤ 281474976710656) :
    Calls Try.prog 49 #[.string s] w fun e w' => e = .returned (.string s) ∧ Below w.heap.size w w' := Any.stringslite_Clone lays316 s w hlim
end Go.Proofs.Ytlihcjlonafohaa
/- Walk: strings.Clone answers the string. -/
namespace Go.Proofs.Ytlihcjlonafohaa
open Go.RowKit

theorem clone_any (s : ByteArray) (hs : s.size ≤ 281474976710656) (w : World) :
    Calls Try.prog 33 #[.string s] w fun e w' => e = .returned (.string s) ∧ Gr w w' := by
  have H := Lib.hid (fun w => clone_lib s w hs)
  go_enter Try.func33, Try.ntmps33
  go_wp2_with fail
  refine (H.out _).mono ?_
  rintro e w1 ⟨rfl, g⟩
  go_wp2
  go_ret
  exact ⟨rfl, g⟩

end Go.Proofs.Ytlihcjlonafohaa
/- Deeds as they are read: a slice of them, a row that the call owns; the deeds on a key, told by recursion; walks: a deed's operation. -/
namespace Go.Proofs.Ytlihcjlonafohaa
open Go.RowKit Go.Joins

/-- A deed: the place of its transaction in memory, the transaction, the operation's place. -/
structure DD where
  b : Nat
  o : Nat
  t : TX
  i : Nat
def dcell (d : DD) : List Value := [.pointer (some ⟨d.b, d.o, none⟩), .int .i64 (d.i : Int)]
theorem dcell_len (d : DD) : (dcell d).length = 2 := rfl
def dcells (L : List DD) : List Value := L.flatMap dcell
theorem dcells_len (L : List DD) : (dcells L).length = L.length * 2 := rows_len dcell 2 dcell_len L
theorem dcells_one (L : List DD) : ∀ u ∈ dcells L, u.oneCell' = true := by
  intro u hu
  obtain ⟨f, _, hf⟩ := List.mem_flatMap.1 hu
  unfold dcell at hf
  simp only [List.mem_cons, List.not_mem_nil, or_false] at hf
  rcases hf with rfl | rfl <;> rfl
/-- A deed lies at this place. -/
def DCell (w : World) (b off : Nat) (d : DD) : Prop := w.cell? ⟨b, off, none⟩ = some (.pointer (some ⟨d.b, d.o, none⟩)) ∧ w.cell? ⟨b, off + 1, none⟩ = some (.int .i64 (d.i : Int))
/-- The slice value v reads as the deeds L. -/
def DV (w : World) (v : Value) (L : List DD) : Prop :=
  ∃ A c, v = .slice A L.length c ∧ L.length ≤ c ∧ (c ≤ maxLen ∧ (A = Option.none → c = 0)) ∧ ∀ j (hj : j < L.length), ∃ b off, A = some ⟨b, off, none⟩ ∧ DCell w b (off + j * 2) L[j]
theorem DCell.gr {w w' : World} {b off : Nat} {f : DD} (h : DCell w b off f) (g : Gr w w') : DCell w' b off f := ⟨g.cell h.1, g.cell h.2⟩
theorem DV.gr {w w' : World} {v : Value} {L : List DD} (h : DV w v L) (g : Gr w w') : DV w' v L := by
  obtain ⟨A, c, hv, h1, h2, h3⟩ := h
  refine ⟨A, c, hv, h1, h2, fun j hj => ?_⟩
  obtain ⟨b, off, ha, hc⟩ := h3 j hj
  exact ⟨b, off, ha, hc.gr g⟩
theorem dv_form {w : World} {v : Value} {L : List DD} (h : DV w v L) : ∃ A c, v = .slice A L.length c := by
  obtain ⟨A, c, hv, _⟩ := h
  exact ⟨A, c, hv⟩
theorem DV.sl {w : World} {v : Value} {L : List DD} (h : DV w v L) : SL w 2 v L.length (dcells L) := by
  obtain ⟨A, c, hv, h1, h2, h3⟩ := h
  refine ⟨A, c, hv, h1, h2, dcells_len L, fun j u hj => ?_⟩
  obtain ⟨q, r, hq, hr, rfl, hu⟩ := rows_of dcell 2 dcell_len (by decide) L j u hj
  obtain ⟨b, off, ha, c0, c1⟩ := h3 q hq
  refine ⟨b, off, ha, ?_⟩
  rw [← Nat.add_assoc]
  match r, hr with
  | 0, _ => injection hu with hu; rw [← hu]; exact c0
  | 1, _ => injection hu with hu; rw [← hu]; exact c1
theorem DV.of_sl {w : World} {v : Value} {L : List DD} {n : Nat} (h : SL w 2 v n (dcells L)) : DV w v L := by
  obtain ⟨A, c, hv, h1, ⟨h2, h2'⟩, h3, h4⟩ := h
  have hn : L.length = n := by
    rw [dcells_len] at h3
    omega
  subst hn
  refine ⟨A, c, hv, h1, ⟨h2, h2'⟩, fun j hj => ?_⟩
  have at_ : ∀ r, r < 2 → (dcells L)[j * 2 + r]? = (dcell L[j])[r]? := fun r hr => rows_at dcell 2 dcell_len L j r hj hr
  obtain ⟨b, off, ha, c0⟩ := h4 (j * 2 + 0) _ (at_ 0 (by decide))
  obtain ⟨b', off', ha', c1⟩ := h4 (j * 2 + 1) _ (at_ 1 (by decide))
  rw [ha] at ha'
  injection ha' with ha'
  injection ha' with e1 e2
  subst e1 e2
  refine ⟨b, off, ha, c0, ?_⟩
  rw [Nat.add_assoc]
  exact c1
/-- What a deed points to lies there. -/
def DX (w : World) (d : DD) : Prop := XCell w d.b d.o d.t ∧ d.i < d.t.ops.length
theorem DX.gr {w w' : World} {d : DD} (h : DX w d) (g : Gr w w') : DX w' d := ⟨h.1.gr g, h.2⟩
def DXs (w : World) (L : List DD) : Prop := ∀ d ∈ L, DX w d
theorem DXs.gr {w w' : World} {L : List DD} (h : DXs w L) (g : Gr w w') : DXs w' L := fun d hd => (h d hd).gr g
/-- The deed's operation. -/
def DD.op (d : DD) : TO := d.t.ops.getD d.i ⟨0, ⟨#[]⟩, ⟨#[]⟩, 0⟩
theorem DX.op {w : World} {d : DD} (h : DX w d) : d.op = d.t.ops[d.i]'h.2 := by
  unfold DD.op
  rw [List.getD_eq_getElem?_getD, List.getElem?_eq_getElem h.2]
  rfl
/-- The operations of a transaction on a key, the first j places. -/
def dTx (key : ByteArray) (t : TX) : Nat → List (TX × Nat)
  | 0 => []
  | j + 1 => dTx key t j ++ (match t.ops[j]? with | some o => if eqS o.key key = true then [(t, j)] else [] | none => [])
/-- Of one log the first d transactions. -/
def dLog (key : ByteArray) (l : LG) (i : Nat) : Nat → List (TX × Nat)
  | 0 => []
  | d + 1 => dLog key l i d ++ (match (l i)[d]? with | some t => dTx key t t.ops.length | none => [])
/-- Of the first i logs. -/
def dAll (key : ByteArray) (l : LG) (v : Nat → Nat) : Nat → List (TX × Nat)
  | 0 => []
  | i + 1 => dAll key l v i ++ dLog key l i (v i)
def dsh (L : List DD) : List (TX × Nat) := L.map fun d => (d.t, d.i)
theorem dTx_len (key : ByteArray) (t : TX) : ∀ j, (dTx key t j).length ≤ j
  | 0 => Nat.le_refl _
  | j + 1 => by
    have := dTx_len key t j
    unfold dTx
    rw [List.length_append]
    split
    · split <;> simp <;> omega
    · simp; omega
theorem dLog_len (key : ByteArray) (l : LG) (i : Nat) (h : ∀ t ∈ l i, t.ops.length ≤ 8) : ∀ d, (dLog key l i d).length ≤ d * 8
  | 0 => Nat.le_refl _
  | d + 1 => by
    have := dLog_len key l i h d
    unfold dLog
    rw [List.length_append]
    split
    · next t ht =>
      have h1 := dTx_len key t t.ops.length
      have h2 := h t (List.mem_of_getElem? ht)
      omega
    · simp; omega
theorem dAll_len (key : ByteArray) (l : LG) (v : Nat → Nat) (h : ∀ i t, i < 8 → t ∈ l i → t.ops.length ≤ 8) (hv : ∀ i, i < 8 → v i ≤ 1024) : ∀ i, i ≤ 8 → (dAll key l v i).length ≤ i * 8192
  | 0, _ => Nat.le_refl _
  | i + 1, hi => by
    have h1 := dAll_len key l v h hv i (by omega)
    have h2 := dLog_len key l i (fun t ht => h i t (by omega) ht) (v i)
    have h3 := hv i (by omega)
    unfold dAll
    rw [List.length_append]
    omega
theorem dTx_yes {key : ByteArray} {t : TX} {j : Nat} {o : TO} (h : t.ops[j]? = some o) (hk : eqS o.key key = true) : dTx key t (j + 1) = dTx key t j ++ [(t, j)] := by
  show dTx key t j ++ _ = _
  rw [h]
  simp only [hk, if_true]
theorem dTx_no {key : ByteArray} {t : TX} {j : Nat} {o : TO} (h : t.ops[j]? = some o) (hk : eqS o.key key = false) : dTx key t (j + 1) = dTx key t j := by
  show dTx key t j ++ _ = _
  rw [h]
  simp [hk]
theorem dLog_at {key : ByteArray} {l : LG} {i d : Nat} {t : TX} (h : (l i)[d]? = some t) : dLog key l i (d + 1) = dLog key l i d ++ dTx key t t.ops.length := by
  show dLog key l i d ++ _ = _
  rw [h]
abbrev opv (o : TO) : Array Value := #[.int .i64 o.kind, .string o.key, .string o.elem, .int .i64 o.n]

end Go.Proofs.Ytlihcjlonafohaa
