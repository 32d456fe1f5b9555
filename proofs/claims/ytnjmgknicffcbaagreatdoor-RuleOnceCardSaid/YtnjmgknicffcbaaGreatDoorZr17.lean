/- Rows of strings that the call owns; append onto them. Walks: slices.Sort and slices.Compact of strings that the call owns. Deeds as they are read: a slice of them, a row that the call owns; the deeds on a key, told by recursion; walks: a deed's operation. -/
import Derived.Test.YtnjmgknicffcbaaGreatDoorZr16
import Derived.Test.YtnjmgknicffcbaaGreatDoorZr01
import Derived.Sort.OwnSorted
import Derived.Shelf.SlicesE.Compact
import Derived.Test.YtnjmgknicffcbaaGreatDoorZr08
import Derived.Test.YtnjmgknicffcbaaGreatDoorZr12
import Derived.Test.YtnjmgknicffcbaaGreatDoorZr07
import Derived.Test.YtnjmgknicffcbaaGreatDoorZr06
namespace Go.Proofs.YtnjmgknicffcbaaGreatDoor
open Go.RowKit

/-- The call owns the slice v from block B on: it reads as these strings. -/
def SO (w : World) (B : Nat) (v : Value) (L : List ByteArray) : Prop := w.ownsRow B 9 1 v L.length (L.map Value.string)
theorem SO.gr {w w' : World} {B : Nat} {v : Value} {L : List ByteArray} (h : SO w B v L) (g : Gr w w') : SO w' B v L := own_gr h g
theorem SO.le {w : World} {B B' : Nat} {v : Value} {L : List ByteArray} (h : SO w B v L) (hb : B' ≤ B) : SO w B' v L := own_le h hb
theorem SO.nil (w : World) (B : Nat) : SO w B (.slice none 0 0) [] := World.ownsRow_nil w B _ _
theorem SO.sv {w : World} {B : Nat} {v : Value} {L : List ByteArray} (h : SO w B v L) : SV w v L := SV.of_own h
theorem strs_one (L : List ByteArray) : ∀ u ∈ L.map Value.string, u.oneCell' = true := by
  intro u hu
  obtain ⟨s, _, rfl⟩ := List.mem_map.1 hu
  rfl
theorem SV.sl {w : World} {v : Value} {L : List ByteArray} (h : SV w v L) : SL w 1 v L.length (L.map Value.string) := by
  obtain ⟨A, c, hv, h1, h2, h3⟩ := h
  refine ⟨A, c, hv, h1, h2, by rw [List.length_map, Nat.mul_one], fun j u hj => ?_⟩
  obtain ⟨hl, he⟩ := List.getElem?_eq_some_iff.1 hj
  rw [List.length_map] at hl
  obtain ⟨b, off, ha, hc⟩ := h3 j hl
  refine ⟨b, off, ha, ?_⟩
  rw [hc, ← he, List.getElem_map]
/-- append of strings to a row of the call's own. -/
theorem wpList_push_strs {W w0 : World} {ops : Array Oper} {rest : List Oper} {o : Oper} {a : Act} {Q : Exit → Act → World → Prop} (hgd : o.guard = none) (s x : Operand)
    (ho : o.op = .call { callee := .builtin .append, args := #[s, x], argTypes := #[93, 93] })
    (v vx : Value) (L M : List ByteArray) (hs : a.eval s = v) (hown : SO W w0.heap.size v L) (hx : a.eval x = vx) (hxv : SV W vx M) (hlen : (L.length + M.length) * 16 ≤ 140737488355328) (hg : Gr w0 W)
    (h : ∀ A' c' w', SO w' w0.heap.size (.slice A' (L.length + M.length) c') (L ++ M) → Gr w0 w' → W.grownBy w' v.ownBlock → wpList Tryz.prog ops Q rest (a.put o.dst (.slice A' (L.length + M.length) c')) w') :
    wpList Tryz.prog ops Q (o :: rest) a W := by
  obtain ⟨i0, hi, hz0, hz1, hz2⟩ := info_parts infoString
  have hsz := hg.size
  refine wpList_append_sl _ hgd s x 93 ho w0.heap.size 9 i0 _ 1 16 Tryz.underlying93 hi hz0 hz1 hz2 rfl (by decide) v L.length (L.map Value.string) hs hown vx M.length (M.map Value.string) hx
    hxv.sl (strs_one M) (by unfold maxLen; omega) hlen hsz (L.length + M.length) rfl ?_
  intro A' c' w' hown' hgr _
  refine h A' c' w' ?_ (gr_of_grown hg hown hgr hsz) hgr
  unfold SO
  rw [List.length_append, List.map_append]
  exact hown'

end Go.Proofs.YtnjmgknicffcbaaGreatDoor
namespace Go.Proofs.YtnjmgknicffcbaaGreatDoor
open Go.RowKit Go.Sort

theorem map_encT (T : List ByteArray) : T.map Value.string = (T.map btoL).map encStr := by
  rw [List.map_map]
  exact List.map_congr_left fun s _ => by
    show Value.string s = Value.string ⟨(btoL s).toArray⟩
    rw [show (⟨(btoL s).toArray⟩ : ByteArray) = ltoB (btoL s) from rfl, ltoB_btoL]
theorem map_encL (L : List (List UInt8)) : (L.map ltoB).map Value.string = L.map encStr := by
  rw [List.map_map]
  rfl
set_option maxRecDepth 100000 in
theorem sortS_any (v : Value) (T : List ByteArray) (B : Nat) (w : World) (hv : SO w B v T) (hlen : T.length < 4611686018427387904) :
    Calls Tryz.prog 199 #[v] w fun e w' => e = .returned (.tuple #[]) ∧ SO w' B v (sortT T) ∧ Kp v.ownBlock w w' := by
  have hv0 := hv
  unfold SO at hv
  rcases hv.2 with ⟨hv1, h0⟩ | ⟨g, cap, cur, rfl, hbase, hb, h1, h2, h3, h4⟩
  · have hT : T = [] := List.length_eq_zero_iff.1 h0
    subst hv1 hT
    have hc : Calls Tryz.prog 199 _ _ _ := AnyM.slices_Sort_string_none laysSrt none 0 w
    refine hc.mono ?_
    rintro e w' ⟨rfl, rfl⟩
    refine ⟨rfl, ?_, Kp.refl _ _⟩
    have e : sortT [] = [] := List.length_eq_zero_iff.1 (sortT_len [])
    rw [e]
    exact hv0
  · have hlt : g < w.heap.size := (Array.getElem?_eq_some_iff.1 hb).1
    have e1 : T.length = (T.map btoL).length := by simp
    have h4' : cur.toList.take (T.map btoL).length = (T.map btoL).map encStr := by
      rw [← map_encT, ← e1]
      simpa using h4
    have hc : Calls Tryz.prog 199 _ _ _ := AnyM.slices_Sort_string laysSrt g 0 cap (T.map btoL) w (holds_of_block hb h4') hlt (by rw [← e1]; exact hlen)
    rw [← e1] at hc
    refine hc.mono ?_
    rintro e w' ⟨rfl, n, os, rfl⟩
    refine ⟨rfl, ?_, grownBy_sorted _⟩
    have hl : (sortL T).length = (T.map btoL).length := (sortL_perm T).length_eq
    have ho := ownsRow_sorted (w := w) (base := B) (g := g) (cap := cap) (n := n) (e := 9) (os := os) (cur := cur) (ss := T.map btoL) (ts := sortL T) hl hbase hb (by rw [← e1]; exact h1) h2 h3
    unfold SO sortT
    rw [map_encL, List.length_map, hl]
    rw [← e1] at ho ⊢
    exact ho
theorem eqlStr : EqlAt Tryz.prog 9 encStr (fun x y => decide (x = y)) := by
  refine ⟨fun x y w => ?_, fun op a b x y w => (GuardAt.string Tryz.prog 9) op a b _ _ w⟩
  by_cases h : x = y <;> simp [binOp, Op.stringOp, h, Lib.toList_data]
theorem neqStr : NeqAt Tryz.prog 9 encStr (fun x y => decide (x = y)) := by
  refine ⟨fun x y w => ?_, fun op a b x y w => (GuardAt.string Tryz.prog 9) op a b _ _ w⟩
  by_cases h : x = y <;> simp [binOp, Op.stringOp, h, Lib.toList_data]
def laysCmp_ren : Go.Shelf.Ren := ⟨fun | 43 => 201 | n => n, fun | 0 => 0 | 3 => 3 | 4 => 4 | 22 => 93 | 23 => 9 | n => n, fun | n => n⟩
set_option maxRecDepth 100000 in
theorem laysCmp : Go.Proofs.SlLaysE.n43 Tryz.prog laysCmp_ren := {
  mixed := by kernel_rfl
  f43 := ⟨Tryz.f201.name, by kernel_rfl, Tryz.func201.trans (congrArg some (by kernel_rfl))⟩
  t0 := Tryz.underlying0
  a0 := Tryz.isAgg0
  z0 := Tryz.sizeOf0
  v0 := Tryz.zeroValue0
  t3 := Tryz.underlying3
  a3 := Tryz.isAgg3
  z3 := Tryz.sizeOf3
  v3 := Tryz.zeroValue3
  t4 := Tryz.underlying4
  a4 := Tryz.isAgg4
  z4 := Tryz.sizeOf4
  v4 := Tryz.zeroValue4
  t22 := Tryz.underlying93
  a22 := Tryz.isAgg93
  z22 := Tryz.sizeOf93
  v22 := Tryz.zeroValue93
  a23 := Tryz.isAgg9
  z23 := Tryz.sizeOf9 }
theorem keeps_btoL (T : List ByteArray) (j : Nat) (hj : j < T.length) : Lib.keeps (T.map btoL).toArray j = Lib.keeps T.toArray j := by
  unfold Lib.keeps
  have e1 : (T.map btoL).toArray[j]! = btoL T[j] := by simp [hj]
  have e2 : (T.map btoL).toArray[j - 1]! = btoL T[j - 1] := by simp [show j - 1 < T.length by omega]
  have e3 : T.toArray[j]! = T[j] := by simp [hj]
  have e4 : T.toArray[j - 1]! = T[j - 1] := by simp [show j - 1 < T.length by omega]
  rw [e1, e2, e3, e4]
  have h : btoL T[j] ≠ btoL T[j - 1] ↔ T[j] ≠ T[j - 1] := ⟨fun h e => h (by rw [e]), fun h e => h (btoL_inj e)⟩
  simp only [h]
theorem comp_btoL (T : List ByteArray) : Lib.compactUpTo (T.map btoL).toArray T.length = (compT T).map btoL := by
  unfold compT Lib.compactUpTo
  rw [List.map_map]
  have e : (List.range T.length).filter (Lib.keeps (T.map btoL).toArray) = (List.range T.length).filter (Lib.keeps T.toArray) := List.filter_congr fun j hj => keeps_btoL T j (by simpa using hj)
  rw [e]
  refine List.map_congr_left fun j hj => ?_
  have hjl : j < T.length := by simpa using (List.mem_filter.1 hj).1
  simp [hjl]
theorem compT_len (T : List ByteArray) : (compT T).length ≤ T.length := by
  unfold compT Lib.compactUpTo
  rw [List.length_map]
  exact Nat.le_trans (List.length_filter_le _ _) (by simp)
set_option maxRecDepth 100000 in
theorem compS_any (v : Value) (T : List ByteArray) (B : Nat) (w : World) (hv : SO w B v T) (hlen : T.length < 4611686018427387904) :
    Calls Tryz.prog 201 #[v] w fun e w' => ∃ v', e = .returned v' ∧ SO w' B v' (compT T) ∧ v'.ownBlock = v.ownBlock ∧ Kp v.ownBlock w w' := by
  have hv0 := hv
  unfold SO at hv
  rcases hv.2 with ⟨hv1, h0⟩ | ⟨g, cap, cur, rfl, hbase, hb, h1, h2, h3, h4⟩
  · have hT : T = [] := List.length_eq_zero_iff.1 h0
    subst hv1 hT
    clear hv
    go_enter Tryz.func201, Tryz.ntmps201
    go_wp2
    go_ret
    exact ⟨_, rfl, hv0, rfl, Kp.refl _ _⟩
  · have hlt : g < w.heap.size := (Array.getElem?_eq_some_iff.1 hb).1
    have e1 : T.length = (T.map btoL).length := by simp
    have e2 : (T.map btoL).toArray.size = T.length := by simp
    have h4' : cur.toList.take (T.map btoL).length = (T.map btoL).map encStr := by
      rw [← map_encT, ← e1]
      simpa using h4
    have hc : Calls Tryz.prog 201 _ _ _ := AnyE.slices_Compact laysCmp encStr (fun _ => rfl) eqlStr neqStr [] Tryz.zeroValue9 g 0 cap (T.map btoL).toArray w (holds_of_block hb h4') (by rw [e2]; omega) (by rw [e2]; exact h1)
    rw [e2, comp_btoL] at hc
    refine hc.mono ?_
    rintro e w' ⟨rfl, q, rfl⟩
    have hl : ((compT T).map btoL ++ List.replicate (T.length - ((compT T).map btoL).length) ([] : List UInt8)).length = (T.map btoL).length := by
      have := compT_len T
      simp
      omega
    have ho := ownsRow_sorted (w := w) (base := B) (g := g) (cap := cap) (n := q) (e := 9) (os := #[]) (cur := cur) (ss := T.map btoL) hl hbase hb (by rw [← e1]; exact h1) h2 h3
    rw [Go.Sort.grow_empty] at ho
    have hg := grownBy_sorted (w := w) (g := g) (n := q) (os := #[]) ((compT T).map btoL ++ List.replicate (T.length - ((compT T).map btoL).length) ([] : List UInt8)).toArray
    rw [Go.Sort.grow_empty] at hg
    obtain ⟨W, hW⟩ : ∃ W, W = putRow encStr (Sort.ahead w q) g 0 ((compT T).map btoL ++ List.replicate (T.length - ((compT T).map btoL).length) ([] : List UInt8)).toArray := ⟨_, rfl⟩
    rw [← hW] at ho hg ⊢
    clear hW
    refine ⟨_, rfl, ?_, rfl, hg⟩
    · unfold SO
      rcases ho.2 with ⟨hh, _⟩ | ⟨g', cap', cur', hh, hbase', hb', k1, k2, k3, k4⟩
      · cases hh
      · injection hh with a1 a2 a3
        injection a1 with a1
        injection a1 with a1
        subst a1 a3
        have hk := compT_len T
        rw [List.length_map]
        refine ⟨by simp, .inr ⟨_, _, cur', rfl, hbase', hb', by omega, k2, k3, ?_⟩⟩
        have k5 := congrArg (List.take (compT T).length) k4
        rw [List.take_take, List.map_append, List.take_append_of_le_length (by simp)] at k5
        rw [Nat.mul_one, map_encT]
        rw [Nat.mul_one] at k5
        rw [show min (compT T).length (T.map btoL).length = (compT T).length by rw [← e1]; omega] at k5
        rw [k5]
        exact List.take_of_length_le (by simp)
end Go.Proofs.YtnjmgknicffcbaaGreatDoor
namespace Go.Proofs.YtnjmgknicffcbaaGreatDoor
open Go.RowKit Go.Joins

/-- A deed: the place of its transaction in memory, the transaction, the operation's place. -/
structure DD where
  b : Nat
  o : Nat
  t : TX
  i : Nat
def dcell (d : DD) : List Value := [.pointer (some ⟨d.b, d.o, none⟩), .int .i64 (d.i : Int)]
theorem dcell_len (d : DD) : (dcell d).length = 2 := rfl
def dcells (L : List DD) : List Value := L.flatMap dcell
theorem dcells_len (L : List DD) : (dcells L).length = L.length * 2 := rows_len dcell 2 dcell_len L
theorem dcells_one (L : List DD) : ∀ u ∈ dcells L, u.oneCell' = true := by
  intro u hu
  obtain ⟨f, _, hf⟩ := List.mem_flatMap.1 hu
  unfold dcell at hf
  simp only [List.mem_cons, List.not_mem_nil, or_false] at hf
  rcases hf with rfl | rfl <;> rfl
/-- A deed lies at this place. -/
def DCell (w : World) (b off : Nat) (d : DD) : Prop := w.cell? ⟨b, off, none⟩ = some (.pointer (some ⟨d.b, d.o, none⟩)) ∧ w.cell? ⟨b, off + 1, none⟩ = some (.int .i64 (d.i : Int))
/-- The slice value v reads as the deeds L. -/
def DV (w : World) (v : Value) (L : List DD) : Prop :=
  ∃ A c, v = .slice A L.length c ∧ L.length ≤ c ∧ (c ≤ maxLen ∧ (A = Option.none → c = 0)) ∧ ∀ j (hj : j < L.length), ∃ b off, A = some ⟨b, off, none⟩ ∧ DCell w b (off + j * 2) L[j]
theorem DCell.gr {w w' : World} {b off : Nat} {f : DD} (h : DCell w b off f) (g : Gr w w') : DCell w' b off f := ⟨g.cell h.1, g.cell h.2⟩
theorem DV.gr {w w' : World} {v : Value} {L : List DD} (h : DV w v L) (g : Gr w w') : DV w' v L := by
  obtain ⟨A, c, hv, h1, h2, h3⟩ := h
  refine ⟨A, c, hv, h1, h2, fun j hj => ?_⟩
  obtain ⟨b, off, ha, hc⟩ := h3 j hj
  exact ⟨b, off, ha, hc.gr g⟩
theorem dv_form {w : World} {v : Value} {L : List DD} (h : DV w v L) : ∃ A c, v = .slice A L.length c := by
  obtain ⟨A, c, hv, _⟩ := h
  exact ⟨A, c, hv⟩
theorem DV.sl {w : World} {v : Value} {L : List DD} (h : DV w v L) : SL w 2 v L.length (dcells L) := by
  obtain ⟨A, c, hv, h1, h2, h3⟩ := h
  refine ⟨A, c, hv, h1, h2, dcells_len L, fun j u hj => ?_⟩
  obtain ⟨q, r, hq, hr, rfl, hu⟩ := rows_of dcell 2 dcell_len (by decide) L j u hj
  obtain ⟨b, off, ha, c0, c1⟩ := h3 q hq
  refine ⟨b, off, ha, ?_⟩
  rw [← Nat.add_assoc]
  match r, hr with
  | 0, _ => injection hu with hu; rw [← hu]; exact c0
  | 1, _ => injection hu with hu; rw [← hu]; exact c1
theorem DV.of_sl {w : World} {v : Value} {L : List DD} {n : Nat} (h : SL w 2 v n (dcells L)) : DV w v L := by
  obtain ⟨A, c, hv, h1, ⟨h2, h2'⟩, h3, h4⟩ := h
  have hn : L.length = n := by
    rw [dcells_len] at h3
    omega
  subst hn
  refine ⟨A, c, hv, h1, ⟨h2, h2'⟩, fun j hj => ?_⟩
  have at_ : ∀ r, r < 2 → (dcells L)[j * 2 + r]? = (dcell L[j])[r]? := fun r hr => rows_at dcell 2 dcell_len L j r hj hr
  obtain ⟨b, off, ha, c0⟩ := h4 (j * 2 + 0) _ (at_ 0 (by decide))
  obtain ⟨b', off', ha', c1⟩ := h4 (j * 2 + 1) _ (at_ 1 (by decide))
  rw [ha] at ha'
  injection ha' with ha'
  injection ha' with e1 e2
  subst e1 e2
  refine ⟨b, off, ha, c0, ?_⟩
  rw [Nat.add_assoc]
  exact c1
/-- The call owns the slice v from block B on: it reads as these deeds. -/
def DO (w : World) (B : Nat) (v : Value) (L : List DD) : Prop := w.ownsRow B 225 2 v L.length (dcells L)
theorem DO.gr {w w' : World} {B : Nat} {v : Value} {L : List DD} (h : DO w B v L) (g : Gr w w') : DO w' B v L := own_gr h g
theorem DO.le {w : World} {B B' : Nat} {v : Value} {L : List DD} (h : DO w B v L) (hb : B' ≤ B) : DO w B' v L := own_le h hb
theorem DO.nil (w : World) (B : Nat) : DO w B (.slice none 0 0) [] := World.ownsRow_nil w B _ _
theorem DO.dv {w : World} {B : Nat} {v : Value} {L : List DD} (h : DO w B v L) : DV w v L := DV.of_sl (own_sl h)
theorem infoDeed : (Tryz.prog.info? 225).map (fun i => (i.zero, i.size, i.bytes)) = some (some (.agg #[.pointer none, .int .i64 0]), 2, 16) := by kernel_rfl
/-- append of deeds to a row of the call's own. -/
theorem wpList_push_dd {W w0 : World} {ops : Array Oper} {rest : List Oper} {o : Oper} {a : Act} {Q : Exit → Act → World → Prop} (hw : Region.wanted o (yielded ops a.tmps) = true) (s x : Operand)
    (ho : o.op = .call { callee := .builtin .append, args := #[s, x], argTypes := #[199, 199] })
    (v vx : Value) (L M : List DD) (n m : Nat) (hn : n = L.length) (hm : m = M.length) (hs : a.eval s = v) (hown : DO W w0.heap.size v L) (hx : a.eval x = vx) (hxv : DV W vx M) (hlen : (n + m) * 16 ≤ 140737488355328) (hg : Gr w0 W)
    (h : ∀ A' c' w', DO w' w0.heap.size (.slice A' (n + m) c') (L ++ M) → Gr w0 w' → wpList Tryz.prog ops Q rest (a.put o.dst (.slice A' (n + m) c')) w') :
    wpList Tryz.prog ops Q (o :: rest) a W := by
  subst hn hm
  obtain ⟨i0, hi, hz0, hz1, hz2⟩ := info_parts infoDeed
  have hsz := hg.size
  refine Go.BigFrame.wpList_want hw (fun K hK => ?_)
  refine wp_append_sl W s x 199 ho w0.heap.size 225 i0 _ 2 16 Tryz.underlying199 hi hz0 hz1 hz2 rfl (by decide) v L.length (dcells L) hs hown vx M.length (dcells M) hx
    hxv.sl (dcells_one M) (by unfold maxLen; omega) hlen hsz (L.length + M.length) rfl ?_
  intro A' c' w' hown' hgr _
  refine hK _ _ (h A' c' w' ?_ (gr_of_grown hg hown hgr hsz))
  unfold DO
  rw [List.length_append]
  unfold dcells at hown' ⊢
  rw [List.flatMap_append]
  exact hown'
theorem dv_one (w : World) (d : DD) (b : Nat) (hb : b = w.heap.size) : DV (w.alloc (.cells #[.pointer (some ⟨d.b, d.o, none⟩), .int .i64 (d.i : Int)] 225)) (.slice (some ⟨b, 0, none⟩) 1 1) [d] := by
  subst hb
  refine ⟨_, 1, rfl, Nat.le_refl _, ⟨by decide, fun h => by cases h⟩, fun j hj => ⟨w.heap.size, 0, rfl, ?_⟩⟩
  have hj0 : j = 0 := by simpa using hj
  subst hj0
  refine ⟨?_, ?_⟩ <;> (rw [World.cell?_alloc_mark]; rfl)
/-- What a deed points to lies there. -/
def DX (w : World) (d : DD) : Prop := XCell w d.b d.o d.t ∧ d.i < d.t.ops.length
theorem DX.gr {w w' : World} {d : DD} (h : DX w d) (g : Gr w w') : DX w' d := ⟨h.1.gr g, h.2⟩
def DXs (w : World) (L : List DD) : Prop := ∀ d ∈ L, DX w d
theorem DXs.gr {w w' : World} {L : List DD} (h : DXs w L) (g : Gr w w') : DXs w' L := fun d hd => (h d hd).gr g
/-- The deed's operation. -/
def DD.op (d : DD) : TO := d.t.ops.getD d.i ⟨0, ⟨#[]⟩, ⟨#[]⟩, 0⟩
theorem DX.op {w : World} {d : DD} (h : DX w d) : d.op = d.t.ops[d.i]'h.2 := by
  unfold DD.op
  rw [List.getD_eq_getElem?_getD, List.getElem?_eq_getElem h.2]
  rfl
/-- The operations of a transaction on a key, the first j places. -/
def dTx (key : ByteArray) (t : TX) : Nat → List (TX × Nat)
  | 0 => []
  | j + 1 => dTx key t j ++ (match t.ops[j]? with | some o => if eqS o.key key = true then [(t, j)] else [] | none => [])
/-- Of one log the first d transactions. -/
def dLog (key : ByteArray) (l : LG) (i : Nat) : Nat → List (TX × Nat)
  | 0 => []
  | d + 1 => dLog key l i d ++ (match (l i)[d]? with | some t => dTx key t t.ops.length | none => [])
/-- Of the first i logs. -/
def dAll (key : ByteArray) (l : LG) (v : Nat → Nat) : Nat → List (TX × Nat)
  | 0 => []
  | i + 1 => dAll key l v i ++ dLog key l i (v i)
def dsh (L : List DD) : List (TX × Nat) := L.map fun d => (d.t, d.i)
theorem dTx_len (key : ByteArray) (t : TX) : ∀ j, (dTx key t j).length ≤ j
  | 0 => Nat.le_refl _
  | j + 1 => by
    have := dTx_len key t j
    unfold dTx
    rw [List.length_append]
    split
    · split <;> simp <;> omega
    · simp; omega
theorem dLog_len (key : ByteArray) (l : LG) (i : Nat) (h : ∀ t ∈ l i, t.ops.length ≤ 8) : ∀ d, (dLog key l i d).length ≤ d * 8
  | 0 => Nat.le_refl _
  | d + 1 => by
    have := dLog_len key l i h d
    unfold dLog
    rw [List.length_append]
    split
    · next t ht =>
      have h1 := dTx_len key t t.ops.length
      have h2 := h t (List.mem_of_getElem? ht)
      omega
    · simp; omega
theorem dAll_len (key : ByteArray) (l : LG) (v : Nat → Nat) (h : ∀ i t, i < 8 → t ∈ l i → t.ops.length ≤ 8) (hv : ∀ i, i < 8 → v i ≤ 1024) : ∀ i, i ≤ 8 → (dAll key l v i).length ≤ i * 8192
  | 0, _ => Nat.le_refl _
  | i + 1, hi => by
    have h1 := dAll_len key l v h hv i (by omega)
    have h2 := dLog_len key l i (fun t ht => h i t (by omega) ht) (v i)
    have h3 := hv i (by omega)
    unfold dAll
    rw [List.length_append]
    omega
theorem dTx_yes {key : ByteArray} {t : TX} {j : Nat} {o : TO} (h : t.ops[j]? = some o) (hk : eqS o.key key = true) : dTx key t (j + 1) = dTx key t j ++ [(t, j)] := by
  show dTx key t j ++ _ = _
  rw [h]
  simp only [hk, if_true]
theorem dTx_no {key : ByteArray} {t : TX} {j : Nat} {o : TO} (h : t.ops[j]? = some o) (hk : eqS o.key key = false) : dTx key t (j + 1) = dTx key t j := by
  show dTx key t j ++ _ = _
  rw [h]
  simp [hk]
theorem dLog_at {key : ByteArray} {l : LG} {i d : Nat} {t : TX} (h : (l i)[d]? = some t) : dLog key l i (d + 1) = dLog key l i d ++ dTx key t t.ops.length := by
  show dLog key l i d ++ _ = _
  rw [h]
abbrev opv (o : TO) : Array Value := #[.int .i64 o.kind, .string o.key, .string o.elem, .int .i64 o.n]

set_option maxRecDepth 100000 in
set_option maxHeartbeats 2000000 in
theorem dop_any (d : DD) (w : World) (h : DX w d) :
    Calls Tryz.prog 198 #[.agg #[.pointer (some ⟨d.b, d.o, none⟩), .int .i64 (d.i : Int)]] w fun e w' => e = .returned (.agg (opv d.op)) ∧ Gr w w' := by
  obtain ⟨W, hW, hg, h1, h2⟩ : ∃ W, W = (w.alloc (.cells #[.pointer (some ⟨d.b, d.o, none⟩), .int .i64 (d.i : Int)] 225)).alloc (.cells #[.int .i64 0, .string ⟨#[]⟩, .string ⟨#[]⟩, .int .i64 0] 52) ∧ Gr w W ∧ W.heap[w.heap.size]? = some (.cells #[.pointer (some ⟨d.b, d.o, none⟩), .int .i64 (d.i : Int)] 225 (0, 0)) ∧ W.heap[w.heap.size + 1]? = some (.cells #[.int .i64 0, .string ⟨#[]⟩, .string ⟨#[]⟩, .int .i64 0] 52 (0, 0)) := by
    refine ⟨_, rfl, ((Gr.refl w).alloc _).alloc _, ?_, ?_⟩ <;> (simp only [World.alloc, Array.getElem?_push, Array.size_push]; simp)
  have hop := h.op
  obtain ⟨⟨v, hv, x0, x1, x2, x3, x4, x5, x6, x7, x8, x9, x10, x11⟩, hi⟩ := h.gr hg
  obtain ⟨A, c, rfl, hnc, -, hat⟩ := hv
  obtain ⟨b, off, rfl, c0, c1, c2, c3⟩ := hat d.i hi
  rw [← hop] at c0 c1 c2 c3
  obtain ⟨o, ho⟩ : ∃ o, o = d.op := ⟨_, rfl⟩
  rw [← ho] at c0 c1 c2 c3 ⊢
  obtain ⟨db, hdb⟩ : ∃ x, x = d.b := ⟨_, rfl⟩
  obtain ⟨dk, hdk⟩ : ∃ x, x = d.o := ⟨_, rfl⟩
  obtain ⟨di, hdi⟩ : ∃ x, x = d.i := ⟨_, rfl⟩
  obtain ⟨n, hn⟩ : ∃ x, x = d.t.ops.length := ⟨_, rfl⟩
  rw [← hdb, ← hdk, ← hn] at x11
  rw [← hdb, ← hdk, ← hdi] at h1 hW
  rw [← hdi] at c0 c1 c2 c3
  rw [← hdb, ← hdk, ← hdi]
  have hi1 : (di : Int) < (n : Int) := by omega
  have hi0 : (0 : Int) ≤ (di : Int) := by omega
  have q0 : W.cell? ⟨w.heap.size, 0, none⟩ = some (.pointer (some ⟨db, dk, none⟩)) := by rw [cell_of_block h1]; rfl
  have q1 : W.cell? ⟨w.heap.size, 1, none⟩ = some (.int .i64 (di : Int)) := by rw [cell_of_block h1]; rfl
  have z0 : W.cell? ⟨w.heap.size + 1, 0, none⟩ = some (.int .i64 0) := by rw [cell_of_block h2]; rfl
  have z1 : W.cell? ⟨w.heap.size + 1, 1, none⟩ = some (.string ⟨#[]⟩) := by rw [cell_of_block h2]; rfl
  have z2 : W.cell? ⟨w.heap.size + 1, 2, none⟩ = some (.string ⟨#[]⟩) := by rw [cell_of_block h2]; rfl
  have z3 : W.cell? ⟨w.heap.size + 1, 3, none⟩ = some (.int .i64 0) := by rw [cell_of_block h2]; rfl
  have k0 := unfrozen_of_block h2 0
  have k1 := unfrozen_of_block h2 1
  have k2 := unfrozen_of_block h2 2
  have k3 := unfrozen_of_block h2 3
  have HG := Lib.hid hg
  have HQ := Lib.hid (And.intro q0 q1)
  have HX := Lib.hid (And.intro x11 (And.intro c0 (And.intro c1 (And.intro c2 c3))))
  have HZ := Lib.hid (And.intro z0 (And.intro z1 (And.intro z2 z3)))
  have HK := Lib.hid h2
  clear hg h1 h2 hop hi hnc hat ho hdb hdk hdi hn x0 x1 x2 x3 x4 x5 x6 x7 x8 x9 x10 x11 c0 c1 c2 c3 q0 q1 z0 z1 z2 z3 k0 k1 k2 k3 h
  go_enter Tryz.func198, Tryz.ntmps198
  go_upto_region 1 with (fail)
  rw [← hW]
  clear hW
  refine qTail 9 (fun w' => w'.cell? ⟨w.heap.size, 0, none⟩ = some (.pointer (some ⟨db, dk, none⟩)) ∧ w'.cell? ⟨w.heap.size, 1, none⟩ = some (.int .i64 (di : Int)) ∧ w'.cell? ⟨db, dk + 11, none⟩ = some (.slice (some ⟨b, off, none⟩) n c) ∧ w'.cell? ⟨b, off + di * 4, none⟩ = some (.int .i64 o.kind) ∧ w'.cell? ⟨b, off + di * 4 + 1, none⟩ = some (.string o.key) ∧ w'.cell? ⟨b, off + di * 4 + 2, none⟩ = some (.string o.elem) ∧ w'.cell? ⟨b, off + di * 4 + 3, none⟩ = some (.int .i64 o.n) ∧ Gr W w') (by kernel_rfl) (by kernel_rfl) ⟨(Gr.refl _).drew.cell HQ.out.1, (Gr.refl _).drew.cell HQ.out.2, (Gr.refl _).drew.cell HX.out.1, (Gr.refl _).drew.cell HX.out.2.1, (Gr.refl _).drew.cell HX.out.2.2.1, (Gr.refl _).drew.cell HX.out.2.2.2.1, (Gr.refl _).drew.cell HX.out.2.2.2.2, (Gr.refl _).drew⟩ ?_
  simp only [List.take_succ_cons, List.take_zero, List.drop_succ_cons, List.drop_zero]
  iterate 9
    refine qTake (by kernel_rfl) ?_
    apply Exists.intro
    refine ⟨fun wq hq => ?_, ?_⟩
    · go_light
      obtain ⟨e0, e1, e2, e3, e4, e5, e6, -⟩ := hq
      go_simp
      try with_reducible rfl
      done
    try simp only [Act.put, List.setIfInBounds_toArray, List.set_cons_zero, List.set_cons_succ]
  refine qNil ?_
  intro w3 hC
  have HG3 := Lib.hid hC.2.2.2.2.2.2.2
  clear hC
  have z0 := HG3.out.cell HZ.out.1
  have z1 := HG3.out.cell HZ.out.2.1
  have z2 := HG3.out.cell HZ.out.2.2.1
  have z3 := HG3.out.cell HZ.out.2.2.2
  have k0 := unfrozen_of_block (gr_obj HG3.out HK.out) 0
  have k1 := unfrozen_of_block (gr_obj HG3.out HK.out) 1
  have k2 := unfrozen_of_block (gr_obj HG3.out HK.out) 2
  have k3 := unfrozen_of_block (gr_obj HG3.out HK.out) 3
  go_wp2_with fail
  refine bodyPost_ret (v := .agg (opv o)) (by simp [results, Tryz.results198, go_sem, *]) rfl ⟨rfl, ?_⟩
  show Gr w ((((w3.setCell _ _).setCell _ _).setCell _ _).setCell _ _)
  exact ((((HG.out.trans HG3.out).setCell (Nat.le_succ _) _).setCell (Nat.le_succ _) _).setCell (Nat.le_succ _) _).setCell (Nat.le_succ _) _
end Go.Proofs.YtnjmgknicffcbaaGreatDoor
