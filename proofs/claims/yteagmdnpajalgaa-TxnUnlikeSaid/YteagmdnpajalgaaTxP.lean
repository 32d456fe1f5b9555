/- Walks: the transaction that bytes tell of: readTxn. -/
import Derived.Test.YteagmdnpajalgaaTxN
import Derived.Test.YteagmdnpajalgaaObj
import Derived.Test.YteagmdnpajalgaaUnpackW
import Derived.Test.YteagmdnpajalgaaPackMath
import Derived.Sort.CutIn
namespace Go.Proofs.Yteagmdnpajalgaa
open Go.RowKit Go.Shelf Go.Joins
attribute [local go_sem] Oper.semAt_some

theorem wrap64_same (n : Int) (h : -9223372036854775808 ≤ n ∧ n ≤ 9223372036854775807) : wrap64 n = n := by unfold wrap64; omega
def atL (L : List ByteArray) (i : Nat) : ByteArray := L[i]?.getD ⟨#[]⟩
/-- The operation of the four fields number x behind the head. -/
def opAt (L : List ByteArray) (x : Nat) : Option TO := readOpR (atL L (4 + 4 * x)) (atL L (4 + 4 * x + 1)) (atL L (4 + 4 * x + 2)) (atL L (4 + 4 * x + 3))
def allSome (l : List (Option TO)) : Option (List TO) := if l.all Option.isSome then some (l.filterMap id) else none
/-- The transaction of the fields, whether it may be or not. -/
def readTR (L : List ByteArray) : Option TX :=
  if L.length < 8 ∨ (L.length - 4) % 4 ≠ 0 then none
  else match readHeadR (atL L 0) (atL L 1) (atL L 2) (atL L 3) with
    | none => none
    | some t => (allSome ((List.range ((L.length - 4) / 4)).map (opAt L))).map fun ops => { t with ops := ops }
/-- What readTxn answers. -/
def RetT (o : Option TX) (w : World) (e : Ending) (w' : World) : Prop :=
  match o with
  | none => e = .returned (.tuple #[.agg (tcs noTX (.slice none 0 0)), .bool false]) ∧ Gr w w'
  | some t => ∃ v, e = .returned (.tuple #[.agg (tcs t v), .bool true]) ∧ TOO w' w.heap.size v t.ops ∧ Gr w w'
def decodeR (l : List UInt8) : Option TX := match unpackL l with
  | none => none
  | some fs => readTR (fs.map bs)

theorem ko_gr {a b : World} (g : Gr a b) : KeepsOthers a b := ⟨g.size, fun k o hk _ => by rw [g.block k (Array.getElem?_eq_some_iff.1 hk).1]; exact hk⟩
theorem ko_own {a b : World} {B : Nat} {t : TypeId} {size n : Nat} {v : Value} {xs : List Value} (h : a.ownsRow B t size v n xs) (k : a.grownBy b v.ownBlock) : KeepsOthers a b :=
  KeepsOthers.of_grownBy k fun j o ej hj => by
    rcases h.2 with ⟨rfl, _⟩ | ⟨g, cap, cur, rfl, _, hg, _⟩
    · simp [Value.ownBlock] at ej
    · obtain rfl : g = j := by simpa [Value.ownBlock] using ej
      rw [hg] at hj
      cases hj
      rfl
theorem put_other {w : World} {b D : Nat} {o o' : Obj} (h : w.heap[b]? = some o) (hne : b ≠ D) : (w.putObj D o').heap[b]? = some o := by
  rw [World.putObj_heap_other hne]
  exact h
/-- The world behind the stores of a transaction and a bool into two boxes. -/
def stored (W : World) (b2 b3 : Nat) (v0 v1 v2 v3 v4 v5 v6 v7 v8 v9 v10 v11 y : Value) : World := (((((((((((((W.setCell ⟨b2, 0, none⟩ v0).setCell ⟨b2, 1, none⟩ v1).setCell ⟨b2, 2, none⟩ v2).setCell ⟨b2, 3, none⟩ v3).setCell ⟨b2, 4, none⟩ v4).setCell ⟨b2, 5, none⟩ v5).setCell ⟨b2, 6, none⟩ v6).setCell ⟨b2, 7, none⟩ v7).setCell ⟨b2, 8, none⟩ v8).setCell ⟨b2, 9, none⟩ v9).setCell ⟨b2, 10, none⟩ v10).setCell ⟨b2, 11, none⟩ v11).setCell ⟨b3, 0, none⟩ y)
set_option maxHeartbeats 1000000 in
theorem stored_facts {W : World} {b2 b3 : Nat} (v0 v1 v2 v3 v4 v5 v6 v7 v8 v9 v10 v11 y : Value) (h2 : W.heap[b2]? = some (.cells zeroX 36 (0, 0))) (h3 : W.heap[b3]? = some (.cells #[.bool false] 4 (0, 0))) (hne : b2 ≠ b3) :
    KeepsOthers W (stored W b2 b3 v0 v1 v2 v3 v4 v5 v6 v7 v8 v9 v10 v11 y) ∧ (stored W b2 b3 v0 v1 v2 v3 v4 v5 v6 v7 v8 v9 v10 v11 y).heap[b2]? = some (.cells #[v0, v1, v2, v3, v4, v5, v6, v7, v8, v9, v10, v11] 36 (0, 0)) ∧
      (stored W b2 b3 v0 v1 v2 v3 v4 v5 v6 v7 v8 v9 v10 v11 y).heap[b3]? = some (.cells #[y] 4 (0, 0)) ∧
      (∀ {B : Nat} {ty : TypeId} {size n : Nat} {v : Value} {xs : List Value}, W.ownsRow B ty size v n xs → ty ≠ 36 → ty ≠ 4 → (stored W b2 b3 v0 v1 v2 v3 v4 v5 v6 v7 v8 v9 v10 v11 y).ownsRow B ty size v n xs) ∧
      (∀ {w : World}, Gr w W → w.heap.size ≤ b2 → w.heap.size ≤ b3 → Gr w (stored W b2 b3 v0 v1 v2 v3 v4 v5 v6 v7 v8 v9 v10 v11 y)) := by
  unfold stored
  have a0 : (W.setCell ⟨b2, 0, none⟩ v0).heap[b2]? = some (.cells #[v0, .int .u64 0, .int .u64 0, .int .u64 0, .int .u64 0, .int .u64 0, .int .u64 0, .int .u64 0, .int .u64 0, .int .u64 0, .int .u64 0, .slice none 0 0] 36 (0, 0)) := set_obj h2 v0
  have c0 : (W.setCell ⟨b2, 0, none⟩ v0).heap[b3]? = some (.cells #[.bool false] 4 (0, 0)) := set_obj_other h3 hne.symm v0
  have a1 : ((W.setCell ⟨b2, 0, none⟩ v0).setCell ⟨b2, 1, none⟩ v1).heap[b2]? = some (.cells #[v0, v1, .int .u64 0, .int .u64 0, .int .u64 0, .int .u64 0, .int .u64 0, .int .u64 0, .int .u64 0, .int .u64 0, .int .u64 0, .slice none 0 0] 36 (0, 0)) := set_obj a0 v1
  have c1 : ((W.setCell ⟨b2, 0, none⟩ v0).setCell ⟨b2, 1, none⟩ v1).heap[b3]? = some (.cells #[.bool false] 4 (0, 0)) := set_obj_other c0 hne.symm v1
  have a2 : (((W.setCell ⟨b2, 0, none⟩ v0).setCell ⟨b2, 1, none⟩ v1).setCell ⟨b2, 2, none⟩ v2).heap[b2]? = some (.cells #[v0, v1, v2, .int .u64 0, .int .u64 0, .int .u64 0, .int .u64 0, .int .u64 0, .int .u64 0, .int .u64 0, .int .u64 0, .slice none 0 0] 36 (0, 0)) := set_obj a1 v2
  have c2 : (((W.setCell ⟨b2, 0, none⟩ v0).setCell ⟨b2, 1, none⟩ v1).setCell ⟨b2, 2, none⟩ v2).heap[b3]? = some (.cells #[.bool false] 4 (0, 0)) := set_obj_other c1 hne.symm v2
  have a3 : ((((W.setCell ⟨b2, 0, none⟩ v0).setCell ⟨b2, 1, none⟩ v1).setCell ⟨b2, 2, none⟩ v2).setCell ⟨b2, 3, none⟩ v3).heap[b2]? = some (.cells #[v0, v1, v2, v3, .int .u64 0, .int .u64 0, .int .u64 0, .int .u64 0, .int .u64 0, .int .u64 0, .int .u64 0, .slice none 0 0] 36 (0, 0)) := set_obj a2 v3
  have c3 : ((((W.setCell ⟨b2, 0, none⟩ v0).setCell ⟨b2, 1, none⟩ v1).setCell ⟨b2, 2, none⟩ v2).setCell ⟨b2, 3, none⟩ v3).heap[b3]? = some (.cells #[.bool false] 4 (0, 0)) := set_obj_other c2 hne.symm v3
  have a4 : (((((W.setCell ⟨b2, 0, none⟩ v0).setCell ⟨b2, 1, none⟩ v1).setCell ⟨b2, 2, none⟩ v2).setCell ⟨b2, 3, none⟩ v3).setCell ⟨b2, 4, none⟩ v4).heap[b2]? = some (.cells #[v0, v1, v2, v3, v4, .int .u64 0, .int .u64 0, .int .u64 0, .int .u64 0, .int .u64 0, .int .u64 0, .slice none 0 0] 36 (0, 0)) := set_obj a3 v4
  have c4 : (((((W.setCell ⟨b2, 0, none⟩ v0).setCell ⟨b2, 1, none⟩ v1).setCell ⟨b2, 2, none⟩ v2).setCell ⟨b2, 3, none⟩ v3).setCell ⟨b2, 4, none⟩ v4).heap[b3]? = some (.cells #[.bool false] 4 (0, 0)) := set_obj_other c3 hne.symm v4
  have a5 : ((((((W.setCell ⟨b2, 0, none⟩ v0).setCell ⟨b2, 1, none⟩ v1).setCell ⟨b2, 2, none⟩ v2).setCell ⟨b2, 3, none⟩ v3).setCell ⟨b2, 4, none⟩ v4).setCell ⟨b2, 5, none⟩ v5).heap[b2]? = some (.cells #[v0, v1, v2, v3, v4, v5, .int .u64 0, .int .u64 0, .int .u64 0, .int .u64 0, .int .u64 0, .slice none 0 0] 36 (0, 0)) := set_obj a4 v5
  have c5 : ((((((W.setCell ⟨b2, 0, none⟩ v0).setCell ⟨b2, 1, none⟩ v1).setCell ⟨b2, 2, none⟩ v2).setCell ⟨b2, 3, none⟩ v3).setCell ⟨b2, 4, none⟩ v4).setCell ⟨b2, 5, none⟩ v5).heap[b3]? = some (.cells #[.bool false] 4 (0, 0)) := set_obj_other c4 hne.symm v5
  have a6 : (((((((W.setCell ⟨b2, 0, none⟩ v0).setCell ⟨b2, 1, none⟩ v1).setCell ⟨b2, 2, none⟩ v2).setCell ⟨b2, 3, none⟩ v3).setCell ⟨b2, 4, none⟩ v4).setCell ⟨b2, 5, none⟩ v5).setCell ⟨b2, 6, none⟩ v6).heap[b2]? = some (.cells #[v0, v1, v2, v3, v4, v5, v6, .int .u64 0, .int .u64 0, .int .u64 0, .int .u64 0, .slice none 0 0] 36 (0, 0)) := set_obj a5 v6
  have c6 : (((((((W.setCell ⟨b2, 0, none⟩ v0).setCell ⟨b2, 1, none⟩ v1).setCell ⟨b2, 2, none⟩ v2).setCell ⟨b2, 3, none⟩ v3).setCell ⟨b2, 4, none⟩ v4).setCell ⟨b2, 5, none⟩ v5).setCell ⟨b2, 6, none⟩ v6).heap[b3]? = some (.cells #[.bool false] 4 (0, 0)) := set_obj_other c5 hne.symm v6
  have a7 : ((((((((W.setCell ⟨b2, 0, none⟩ v0).setCell ⟨b2, 1, none⟩ v1).setCell ⟨b2, 2, none⟩ v2).setCell ⟨b2, 3, none⟩ v3).setCell ⟨b2, 4, none⟩ v4).setCell ⟨b2, 5, none⟩ v5).setCell ⟨b2, 6, none⟩ v6).setCell ⟨b2, 7, none⟩ v7).heap[b2]? = some (.cells #[v0, v1, v2, v3, v4, v5, v6, v7, .int .u64 0, .int .u64 0, .int .u64 0, .slice none 0 0] 36 (0, 0)) := set_obj a6 v7
  have c7 : ((((((((W.setCell ⟨b2, 0, none⟩ v0).setCell ⟨b2, 1, none⟩ v1).setCell ⟨b2, 2, none⟩ v2).setCell ⟨b2, 3, none⟩ v3).setCell ⟨b2, 4, none⟩ v4).setCell ⟨b2, 5, none⟩ v5).setCell ⟨b2, 6, none⟩ v6).setCell ⟨b2, 7, none⟩ v7).heap[b3]? = some (.cells #[.bool false] 4 (0, 0)) := set_obj_other c6 hne.symm v7
  have a8 : (((((((((W.setCell ⟨b2, 0, none⟩ v0).setCell ⟨b2, 1, none⟩ v1).setCell ⟨b2, 2, none⟩ v2).setCell ⟨b2, 3, none⟩ v3).setCell ⟨b2, 4, none⟩ v4).setCell ⟨b2, 5, none⟩ v5).setCell ⟨b2, 6, none⟩ v6).setCell ⟨b2, 7, none⟩ v7).setCell ⟨b2, 8, none⟩ v8).heap[b2]? = some (.cells #[v0, v1, v2, v3, v4, v5, v6, v7, v8, .int .u64 0, .int .u64 0, .slice none 0 0] 36 (0, 0)) := set_obj a7 v8
  have c8 : (((((((((W.setCell ⟨b2, 0, none⟩ v0).setCell ⟨b2, 1, none⟩ v1).setCell ⟨b2, 2, none⟩ v2).setCell ⟨b2, 3, none⟩ v3).setCell ⟨b2, 4, none⟩ v4).setCell ⟨b2, 5, none⟩ v5).setCell ⟨b2, 6, none⟩ v6).setCell ⟨b2, 7, none⟩ v7).setCell ⟨b2, 8, none⟩ v8).heap[b3]? = some (.cells #[.bool false] 4 (0, 0)) := set_obj_other c7 hne.symm v8
  have a9 : ((((((((((W.setCell ⟨b2, 0, none⟩ v0).setCell ⟨b2, 1, none⟩ v1).setCell ⟨b2, 2, none⟩ v2).setCell ⟨b2, 3, none⟩ v3).setCell ⟨b2, 4, none⟩ v4).setCell ⟨b2, 5, none⟩ v5).setCell ⟨b2, 6, none⟩ v6).setCell ⟨b2, 7, none⟩ v7).setCell ⟨b2, 8, none⟩ v8).setCell ⟨b2, 9, none⟩ v9).heap[b2]? = some (.cells #[v0, v1, v2, v3, v4, v5, v6, v7, v8, v9, .int .u64 0, .slice none 0 0] 36 (0, 0)) := set_obj a8 v9
  have c9 : ((((((((((W.setCell ⟨b2, 0, none⟩ v0).setCell ⟨b2, 1, none⟩ v1).setCell ⟨b2, 2, none⟩ v2).setCell ⟨b2, 3, none⟩ v3).setCell ⟨b2, 4, none⟩ v4).setCell ⟨b2, 5, none⟩ v5).setCell ⟨b2, 6, none⟩ v6).setCell ⟨b2, 7, none⟩ v7).setCell ⟨b2, 8, none⟩ v8).setCell ⟨b2, 9, none⟩ v9).heap[b3]? = some (.cells #[.bool false] 4 (0, 0)) := set_obj_other c8 hne.symm v9
  have a10 : (((((((((((W.setCell ⟨b2, 0, none⟩ v0).setCell ⟨b2, 1, none⟩ v1).setCell ⟨b2, 2, none⟩ v2).setCell ⟨b2, 3, none⟩ v3).setCell ⟨b2, 4, none⟩ v4).setCell ⟨b2, 5, none⟩ v5).setCell ⟨b2, 6, none⟩ v6).setCell ⟨b2, 7, none⟩ v7).setCell ⟨b2, 8, none⟩ v8).setCell ⟨b2, 9, none⟩ v9).setCell ⟨b2, 10, none⟩ v10).heap[b2]? = some (.cells #[v0, v1, v2, v3, v4, v5, v6, v7, v8, v9, v10, .slice none 0 0] 36 (0, 0)) := set_obj a9 v10
  have c10 : (((((((((((W.setCell ⟨b2, 0, none⟩ v0).setCell ⟨b2, 1, none⟩ v1).setCell ⟨b2, 2, none⟩ v2).setCell ⟨b2, 3, none⟩ v3).setCell ⟨b2, 4, none⟩ v4).setCell ⟨b2, 5, none⟩ v5).setCell ⟨b2, 6, none⟩ v6).setCell ⟨b2, 7, none⟩ v7).setCell ⟨b2, 8, none⟩ v8).setCell ⟨b2, 9, none⟩ v9).setCell ⟨b2, 10, none⟩ v10).heap[b3]? = some (.cells #[.bool false] 4 (0, 0)) := set_obj_other c9 hne.symm v10
  have a11 : ((((((((((((W.setCell ⟨b2, 0, none⟩ v0).setCell ⟨b2, 1, none⟩ v1).setCell ⟨b2, 2, none⟩ v2).setCell ⟨b2, 3, none⟩ v3).setCell ⟨b2, 4, none⟩ v4).setCell ⟨b2, 5, none⟩ v5).setCell ⟨b2, 6, none⟩ v6).setCell ⟨b2, 7, none⟩ v7).setCell ⟨b2, 8, none⟩ v8).setCell ⟨b2, 9, none⟩ v9).setCell ⟨b2, 10, none⟩ v10).setCell ⟨b2, 11, none⟩ v11).heap[b2]? = some (.cells #[v0, v1, v2, v3, v4, v5, v6, v7, v8, v9, v10, v11] 36 (0, 0)) := set_obj a10 v11
  have c11 : ((((((((((((W.setCell ⟨b2, 0, none⟩ v0).setCell ⟨b2, 1, none⟩ v1).setCell ⟨b2, 2, none⟩ v2).setCell ⟨b2, 3, none⟩ v3).setCell ⟨b2, 4, none⟩ v4).setCell ⟨b2, 5, none⟩ v5).setCell ⟨b2, 6, none⟩ v6).setCell ⟨b2, 7, none⟩ v7).setCell ⟨b2, 8, none⟩ v8).setCell ⟨b2, 9, none⟩ v9).setCell ⟨b2, 10, none⟩ v10).setCell ⟨b2, 11, none⟩ v11).heap[b3]? = some (.cells #[.bool false] 4 (0, 0)) := set_obj_other c10 hne.symm v11
  refine ⟨((((((((((((((KeepsOthers.refl W).trans (KeepsOthers.setCell _ _ _)).trans (KeepsOthers.setCell _ _ _)).trans (KeepsOthers.setCell _ _ _)).trans (KeepsOthers.setCell _ _ _)).trans (KeepsOthers.setCell _ _ _)).trans (KeepsOthers.setCell _ _ _)).trans (KeepsOthers.setCell _ _ _)).trans (KeepsOthers.setCell _ _ _)).trans (KeepsOthers.setCell _ _ _)).trans (KeepsOthers.setCell _ _ _)).trans (KeepsOthers.setCell _ _ _)).trans (KeepsOthers.setCell _ _ _)).trans (KeepsOthers.setCell _ _ _)), set_obj_other a11 hne _, set_obj c11 _, fun h ht hb => ?_, fun h q2 q3 => (Gr.setCell (Gr.setCell (Gr.setCell (Gr.setCell (Gr.setCell (Gr.setCell (Gr.setCell (Gr.setCell (Gr.setCell (Gr.setCell (Gr.setCell (Gr.setCell (Gr.setCell h q2 _) q2 _) q2 _) q2 _) q2 _) q2 _) q2 _) q2 _) q2 _) q2 _) q2 _) q2 _) q3 _)⟩
  have r0 := own_set_obj h h2 ht (i := 0) v0
  have r1 := own_set_obj r0 a0 ht (i := 1) v1
  have r2 := own_set_obj r1 a1 ht (i := 2) v2
  have r3 := own_set_obj r2 a2 ht (i := 3) v3
  have r4 := own_set_obj r3 a3 ht (i := 4) v4
  have r5 := own_set_obj r4 a4 ht (i := 5) v5
  have r6 := own_set_obj r5 a5 ht (i := 6) v6
  have r7 := own_set_obj r6 a6 ht (i := 7) v7
  have r8 := own_set_obj r7 a7 ht (i := 8) v8
  have r9 := own_set_obj r8 a8 ht (i := 9) v9
  have r10 := own_set_obj r9 a9 ht (i := 10) v10
  have r11 := own_set_obj r10 a10 ht (i := 11) v11
  exact own_set_obj r11 c11 hb y
/-- What the loop has in memory. -/
structure RTI (w : World) (b6 B0 B1 : Nat) (t : TX) (sv svf : Value) (L : List ByteArray) (vs : Value) (ops : List TO) (W : World) : Prop where
  o2 : W.heap[w.heap.size]? = some (.cells zeroX 36 (0, 0))
  o3 : W.heap[w.heap.size + 1]? = some (.cells #[.bool false] 4 (0, 0))
  o6 : W.heap[b6]? = some (.cells (tcs t vs) 36 (0, 0))
  k0 : W.heap[B0]? = some (.cells #[svf] 51 (0, 0))
  k1 : W.heap[B1]? = some (.cells #[.int .i64 4] 3 (0, 0))
  row : SO W w.heap.size sv L
  own : TOO W w.heap.size vs ops
  gr : Gr w W
theorem cells_far {W W' : World} {row : Option Nat} {j : Nat} {cs : Array Value} {ty : TypeId} {fr : Nat × Nat} (h : W.heap[j]? = some (.cells cs ty fr)) (hg : W.grownBy W' row) (hr : ∀ r, row = some r → ∃ o : Obj, W.heap[r]? = some o ∧ o.isCells = false) : W'.heap[j]? = some (.cells cs ty fr) := by
  rw [hg.block j (Array.getElem?_eq_some_iff.1 h).1 (fun e => by
    obtain ⟨o, ho, hc⟩ := hr j e.symm
    rw [h] at ho
    cases ho
    cases hc)]
  exact h
theorem row_far {W W' : World} {row : Option Nat} {B : Nat} {ty : TypeId} {size n : Nat} {v : Value} {xs : List Value} (h : W.ownsRow B ty size v n xs) (hg : W.grownBy W' row) (hr : ∀ r, row = some r → ∃ o : Obj, W.heap[r]? = some o ∧ o.isCells = false) : W'.ownsRow B ty size v n xs := by
  refine h.kept hg ?_
  rcases h.2 with ⟨rfl, _⟩ | ⟨g, cap, cur, rfl, _, hgb, _⟩
  · exact .inl rfl
  · refine .inr fun e' => ?_
    obtain ⟨o, ho, hc⟩ := hr g (by simpa [Value.ownBlock] using e'.symm)
    rw [hgb] at ho
    cases ho
    cases hc
theorem gr_far {w W W' : World} {row : Option Nat} (h : Gr w W) (hg : W.grownBy W' row) (hr : ∀ r, row = some r → w.heap.size ≤ r) : Gr w W' :=
  ⟨hg.os.trans h.os, hg.tape.trans h.tape, hg.output.trans h.output, Nat.le_trans h.size hg.size, fun i hi => (hg.block i (Nat.lt_of_lt_of_le hi h.size) (fun e => by have := hr i e.symm; omega)).trans (h.block i hi)⟩
theorem RTI.far {w : World} {b6 B0 B1 : Nat} {t : TX} {sv svf : Value} {L : List ByteArray} {vs : Value} {ops : List TO} {W W' : World} {row : Option Nat} (h : RTI w b6 B0 B1 t sv svf L vs ops W) (hg : W.grownBy W' row) (hB : ∀ r, row = some r → w.heap.size ≤ r)
    (hr : ∀ r, row = some r → ∃ o : Obj, W.heap[r]? = some o ∧ o.isCells = false) : RTI w b6 B0 B1 t sv svf L vs ops W' :=
  ⟨cells_far h.o2 hg hr, cells_far h.o3 hg hr, cells_far h.o6 hg hr, cells_far h.k0 hg hr, cells_far h.k1 hg hr, row_far h.row hg hr, row_far h.own hg hr, gr_far h.gr hg hB⟩
theorem RTI.gr' {w : World} {b6 B0 B1 : Nat} {t : TX} {sv svf : Value} {L : List ByteArray} {vs : Value} {ops : List TO} {W W' : World} (h : RTI w b6 B0 B1 t sv svf L vs ops W) (g : Gr W W') : RTI w b6 B0 B1 t sv svf L vs ops W' :=
  ⟨gr_obj g h.o2, gr_obj g h.o3, gr_obj g h.o6, gr_obj g h.k0, gr_obj g h.k1, h.row.gr g, h.own.gr g, h.gr.trans g⟩
theorem filterMap_map_id {α β : Type} (f : α → Option β) (l : List α) : (l.map f).filterMap id = l.filterMap f := by
  induction l with
  | nil => rfl
  | cons x r ih => simp only [List.map_cons, List.filterMap_cons, id]; rw [ih]
theorem range_fin (N : Nat) : List.range N = (List.finRange N).map Fin.val := by
  apply List.ext_getElem
  · simp
  · intro i h1 h2; simp
theorem allSome_fin {N : Nat} {f : Nat → Option TO} (h : ∀ x : Fin N, (f x.1).isSome = true) : allSome ((List.range N).map f) = some ((List.finRange N).filterMap fun x => f x.1) := by
  unfold allSome
  rw [if_pos, filterMap_map_id, range_fin, List.filterMap_map]
  · rfl
  · rw [List.all_eq_true]
    intro y hy
    obtain ⟨i, hi, rfl⟩ := List.mem_map.1 hy
    exact h ⟨i, List.mem_range.1 hi⟩
theorem allSome_not {N : Nat} {f : Nat → Option TO} (x : Fin N) (h : f x.1 = none) : allSome ((List.range N).map f) = none := by
  unfold allSome
  rw [if_neg]
  intro e
  have := List.all_eq_true.1 e (f x.1) (List.mem_map_of_mem (List.mem_range.2 x.2))
  rw [h] at this
  cases this

theorem sv_of_own {w : World} {B : Nat} {v : Value} {L : List ByteArray} (h : SO w B v L) : ∃ A c, v = .slice A L.length c ∧ L.length ≤ c ∧ c ≤ 9223372036854775807 := own_form h
set_option maxRecDepth 100000 in
set_option maxHeartbeats 4000000 in
theorem readTxn_any (s : ByteArray) (hs : s.size ≤ maxLen) (w : World) :
    Calls Try.prog 27 #[.string s] w fun e w' => RetT (decodeR s.data.toList) w e w' := by
  have HU := Lib.hid (fun w => unpack_any s hs w)
  obtain ⟨W, hW, hg, ho2, ho3⟩ : ∃ W, W = (w.alloc (.cells zeroX 36)).alloc (.cells #[.bool false] 4) ∧ Gr w W ∧ W.heap[w.heap.size]? = some (.cells zeroX 36 (0, 0)) ∧ W.heap[w.heap.size + 1]? = some (.cells #[.bool false] 4 (0, 0)) := by
    refine ⟨_, rfl, ((Gr.refl w).alloc _).alloc _, ?_, ?_⟩ <;> (simp only [World.alloc, Array.getElem?_push, Array.size_push]; simp)
  have HG := Lib.hid hg
  have HO2 := Lib.hid ho2
  have HO3 := Lib.hid ho3
  clear hs hg ho2 ho3
  rcases hu : unpackL s.data.toList with _ | fs
  · have HF := Lib.hid (show decodeR s.data.toList = none by unfold decodeR; rw [hu])
    rw [hu] at HU
    clear hu
    refine (callsIn_wide (n := 8)).1 ?_
    refine callsIn_of_wp_marks Try.func27 rfl trivial ?_ rfl
    simp only [Try.ntmps27, List.size_toArray, List.length_cons, List.length_nil, Nat.reduceAdd, Nat.reduceSub, Array.replicate_succ, Array.replicate_zero, List.push_toArray, List.append_toArray, List.nil_append, List.cons_append]
    gi_wp2_with fail
    rw [← hW]
    clear hW
    refine ⟨trivial, ?_⟩
    refine (callsIn_wide.2 (HU.out _)).mono ?_
    rintro e w1 ⟨rfl, g1⟩
    have HG1 := Lib.hid (HG.out.trans g1)
    have hb2 := gr_obj g1 HO2.out
    have hb3 := gr_obj g1 HO3.out
    have z0 : w1.cell? ⟨w.heap.size, 0, none⟩ = some (.int .i64 0) := by rw [cell_of_block hb2]; rfl
    have z1 : w1.cell? ⟨w.heap.size, 1, none⟩ = some (.int .u64 0) := by rw [cell_of_block hb2]; rfl
    have z2 : w1.cell? ⟨w.heap.size, 2, none⟩ = some (.int .u64 0) := by rw [cell_of_block hb2]; rfl
    have z3 : w1.cell? ⟨w.heap.size, 3, none⟩ = some (.int .u64 0) := by rw [cell_of_block hb2]; rfl
    have z4 : w1.cell? ⟨w.heap.size, 4, none⟩ = some (.int .u64 0) := by rw [cell_of_block hb2]; rfl
    have z5 : w1.cell? ⟨w.heap.size, 5, none⟩ = some (.int .u64 0) := by rw [cell_of_block hb2]; rfl
    have z6 : w1.cell? ⟨w.heap.size, 6, none⟩ = some (.int .u64 0) := by rw [cell_of_block hb2]; rfl
    have z7 : w1.cell? ⟨w.heap.size, 7, none⟩ = some (.int .u64 0) := by rw [cell_of_block hb2]; rfl
    have z8 : w1.cell? ⟨w.heap.size, 8, none⟩ = some (.int .u64 0) := by rw [cell_of_block hb2]; rfl
    have z9 : w1.cell? ⟨w.heap.size, 9, none⟩ = some (.int .u64 0) := by rw [cell_of_block hb2]; rfl
    have z10 : w1.cell? ⟨w.heap.size, 10, none⟩ = some (.int .u64 0) := by rw [cell_of_block hb2]; rfl
    have z11 : w1.cell? ⟨w.heap.size, 11, none⟩ = some (.slice none 0 0) := by rw [cell_of_block hb2]; rfl
    have y0 : w1.cell? ⟨w.heap.size + 1, 0, none⟩ = some (.bool false) := by rw [cell_of_block hb3]; rfl
    have f0 := unfrozen_of_block hb2 0
    have f1 := unfrozen_of_block hb2 1
    have f2 := unfrozen_of_block hb2 2
    have f3 := unfrozen_of_block hb2 3
    have f4 := unfrozen_of_block hb2 4
    have f5 := unfrozen_of_block hb2 5
    have f6 := unfrozen_of_block hb2 6
    have f7 := unfrozen_of_block hb2 7
    have f8 := unfrozen_of_block hb2 8
    have f9 := unfrozen_of_block hb2 9
    have f10 := unfrozen_of_block hb2 10
    have f11 := unfrozen_of_block hb2 11
    have g0 := unfrozen_of_block hb3 0
    clear hb2 hb3 g1
    gi_wp2_with fail
    refine ⟨.tuple #[.agg (tcs noTX (.slice none 0 0)), .bool false], ?_, ?_⟩
    · simp [results, Try.f27, go_sem, noTX, *]
    · rw [HF.out]
      exact ⟨rfl, (((((((((((((HG1.out).setCell (by simp) _).setCell (by simp) _).setCell (by simp) _).setCell (by simp) _).setCell (by simp) _).setCell (by simp) _).setCell (by simp) _).setCell (by simp) _).setCell (by simp) _).setCell (by simp) _).setCell (by simp) _).setCell (by simp) _).setCell (by simp) _⟩
  have hpk := (unpack_back hu).1
  obtain ⟨L, hL⟩ : ∃ L, L = fs.map bs := ⟨_, rfl⟩
  rw [← hL] at hpk
  have hD : decodeR s.data.toList = readTR L := by unfold decodeR; rw [hu, hL]
  rw [hu] at HU
  unfold RetUnpack at HU
  simp only [← hL] at HU
  clear hu hL
  obtain ⟨n, hn⟩ : ∃ n, n = L.length := ⟨_, rfl⟩
  have HD := Lib.hid hD
  have HN := Lib.hid hn
  have hn6 : n ≤ 4096 := by rw [hn]; exact hpk.1
  have HZ := Lib.hid hpk.2.1
  clear hpk
  clear hD
  by_cases h8 : n < 8
  · have HF := Lib.hid (show decodeR s.data.toList = none by rw [HD.out]; unfold readTR; rw [if_pos (.inl (by rw [← hn]; exact h8))])
    clear hn
    refine (callsIn_wide (n := 8)).1 ?_
    refine callsIn_of_wp_marks Try.func27 rfl trivial ?_ rfl
    simp only [Try.ntmps27, List.size_toArray, List.length_cons, List.length_nil, Nat.reduceAdd, Nat.reduceSub, Array.replicate_succ, Array.replicate_zero, List.push_toArray, List.append_toArray, List.nil_append, List.cons_append]
    gi_wp2_with fail
    rw [← hW]
    clear hW
    refine ⟨trivial, ?_⟩
    refine (callsIn_wide.2 (HU.out _)).mono ?_
    rintro e w1 ⟨v1, rfl, hown, g1⟩
    obtain ⟨A1, c1, rfl, -, -⟩ := sv_of_own hown
    rw [← HN.out]
    have HG1 := Lib.hid (HG.out.trans g1)
    have hb2 := gr_obj g1 HO2.out
    have hb3 := gr_obj g1 HO3.out
    have z0 : w1.cell? ⟨w.heap.size, 0, none⟩ = some (.int .i64 0) := by rw [cell_of_block hb2]; rfl
    have z1 : w1.cell? ⟨w.heap.size, 1, none⟩ = some (.int .u64 0) := by rw [cell_of_block hb2]; rfl
    have z2 : w1.cell? ⟨w.heap.size, 2, none⟩ = some (.int .u64 0) := by rw [cell_of_block hb2]; rfl
    have z3 : w1.cell? ⟨w.heap.size, 3, none⟩ = some (.int .u64 0) := by rw [cell_of_block hb2]; rfl
    have z4 : w1.cell? ⟨w.heap.size, 4, none⟩ = some (.int .u64 0) := by rw [cell_of_block hb2]; rfl
    have z5 : w1.cell? ⟨w.heap.size, 5, none⟩ = some (.int .u64 0) := by rw [cell_of_block hb2]; rfl
    have z6 : w1.cell? ⟨w.heap.size, 6, none⟩ = some (.int .u64 0) := by rw [cell_of_block hb2]; rfl
    have z7 : w1.cell? ⟨w.heap.size, 7, none⟩ = some (.int .u64 0) := by rw [cell_of_block hb2]; rfl
    have z8 : w1.cell? ⟨w.heap.size, 8, none⟩ = some (.int .u64 0) := by rw [cell_of_block hb2]; rfl
    have z9 : w1.cell? ⟨w.heap.size, 9, none⟩ = some (.int .u64 0) := by rw [cell_of_block hb2]; rfl
    have z10 : w1.cell? ⟨w.heap.size, 10, none⟩ = some (.int .u64 0) := by rw [cell_of_block hb2]; rfl
    have z11 : w1.cell? ⟨w.heap.size, 11, none⟩ = some (.slice none 0 0) := by rw [cell_of_block hb2]; rfl
    have y0 : w1.cell? ⟨w.heap.size + 1, 0, none⟩ = some (.bool false) := by rw [cell_of_block hb3]; rfl
    have f0 := unfrozen_of_block hb2 0
    have f1 := unfrozen_of_block hb2 1
    have f2 := unfrozen_of_block hb2 2
    have f3 := unfrozen_of_block hb2 3
    have f4 := unfrozen_of_block hb2 4
    have f5 := unfrozen_of_block hb2 5
    have f6 := unfrozen_of_block hb2 6
    have f7 := unfrozen_of_block hb2 7
    have f8 := unfrozen_of_block hb2 8
    have f9 := unfrozen_of_block hb2 9
    have f10 := unfrozen_of_block hb2 10
    have f11 := unfrozen_of_block hb2 11
    have g0 := unfrozen_of_block hb3 0
    clear hb2 hb3 g1 hown
    gi_wp2_with fail
    refine ⟨.tuple #[.agg (tcs noTX (.slice none 0 0)), .bool false], ?_, ?_⟩
    · simp [results, Try.f27, go_sem, noTX, *]
    · rw [HF.out]
      exact ⟨rfl, (((((((((((((HG1.out).setCell (by simp) _).setCell (by simp) _).setCell (by simp) _).setCell (by simp) _).setCell (by simp) _).setCell (by simp) _).setCell (by simp) _).setCell (by simp) _).setCell (by simp) _).setCell (by simp) _).setCell (by simp) _).setCell (by simp) _).setCell (by simp) _⟩
  by_cases h4 : (n - 4) % 4 = 0
  case neg =>
    have HF := Lib.hid (show decodeR s.data.toList = none by rw [HD.out]; unfold readTR; rw [if_pos (.inr (by rw [← hn]; exact h4))])
    have t4 : (((n : Int) % 4) != 0) = true := int_bne_t (by omega)
    clear hn h4
    refine (callsIn_wide (n := 8)).1 ?_
    refine callsIn_of_wp_marks Try.func27 rfl trivial ?_ rfl
    simp only [Try.ntmps27, List.size_toArray, List.length_cons, List.length_nil, Nat.reduceAdd, Nat.reduceSub, Array.replicate_succ, Array.replicate_zero, List.push_toArray, List.append_toArray, List.nil_append, List.cons_append]
    gi_wp2_with fail
    rw [← hW]
    clear hW
    refine ⟨trivial, ?_⟩
    refine (callsIn_wide.2 (HU.out _)).mono ?_
    rintro e w1 ⟨v1, rfl, hown, g1⟩
    obtain ⟨A1, c1, rfl, -, -⟩ := sv_of_own hown
    rw [← HN.out]
    have HG1 := Lib.hid (HG.out.trans g1)
    have hb2 := gr_obj g1 HO2.out
    have hb3 := gr_obj g1 HO3.out
    have z0 : w1.cell? ⟨w.heap.size, 0, none⟩ = some (.int .i64 0) := by rw [cell_of_block hb2]; rfl
    have z1 : w1.cell? ⟨w.heap.size, 1, none⟩ = some (.int .u64 0) := by rw [cell_of_block hb2]; rfl
    have z2 : w1.cell? ⟨w.heap.size, 2, none⟩ = some (.int .u64 0) := by rw [cell_of_block hb2]; rfl
    have z3 : w1.cell? ⟨w.heap.size, 3, none⟩ = some (.int .u64 0) := by rw [cell_of_block hb2]; rfl
    have z4 : w1.cell? ⟨w.heap.size, 4, none⟩ = some (.int .u64 0) := by rw [cell_of_block hb2]; rfl
    have z5 : w1.cell? ⟨w.heap.size, 5, none⟩ = some (.int .u64 0) := by rw [cell_of_block hb2]; rfl
    have z6 : w1.cell? ⟨w.heap.size, 6, none⟩ = some (.int .u64 0) := by rw [cell_of_block hb2]; rfl
    have z7 : w1.cell? ⟨w.heap.size, 7, none⟩ = some (.int .u64 0) := by rw [cell_of_block hb2]; rfl
    have z8 : w1.cell? ⟨w.heap.size, 8, none⟩ = some (.int .u64 0) := by rw [cell_of_block hb2]; rfl
    have z9 : w1.cell? ⟨w.heap.size, 9, none⟩ = some (.int .u64 0) := by rw [cell_of_block hb2]; rfl
    have z10 : w1.cell? ⟨w.heap.size, 10, none⟩ = some (.int .u64 0) := by rw [cell_of_block hb2]; rfl
    have z11 : w1.cell? ⟨w.heap.size, 11, none⟩ = some (.slice none 0 0) := by rw [cell_of_block hb2]; rfl
    have y0 : w1.cell? ⟨w.heap.size + 1, 0, none⟩ = some (.bool false) := by rw [cell_of_block hb3]; rfl
    have f0 := unfrozen_of_block hb2 0
    have f1 := unfrozen_of_block hb2 1
    have f2 := unfrozen_of_block hb2 2
    have f3 := unfrozen_of_block hb2 3
    have f4 := unfrozen_of_block hb2 4
    have f5 := unfrozen_of_block hb2 5
    have f6 := unfrozen_of_block hb2 6
    have f7 := unfrozen_of_block hb2 7
    have f8 := unfrozen_of_block hb2 8
    have f9 := unfrozen_of_block hb2 9
    have f10 := unfrozen_of_block hb2 10
    have f11 := unfrozen_of_block hb2 11
    have g0 := unfrozen_of_block hb3 0
    clear hb2 hb3 g1 hown
    gi_wp2_with fail
    refine ⟨.tuple #[.agg (tcs noTX (.slice none 0 0)), .bool false], ?_, ?_⟩
    · simp [results, Try.f27, go_sem, noTX, *]
    · rw [HF.out]
      exact ⟨rfl, (((((((((((((HG1.out).setCell (by simp) _).setCell (by simp) _).setCell (by simp) _).setCell (by simp) _).setCell (by simp) _).setCell (by simp) _).setCell (by simp) _).setCell (by simp) _).setCell (by simp) _).setCell (by simp) _).setCell (by simp) _).setCell (by simp) _).setCell (by simp) _⟩
  have t4 : (((n : Int) % 4) != 0) = false := int_bne_f (by omega)
  have hR : readTR L = match readHeadR (atL L 0) (atL L 1) (atL L 2) (atL L 3) with
    | none => none
    | some t => (allSome ((List.range ((n - 4) / 4)).map (opAt L))).map fun ops => { t with ops := ops } := by
    unfold readTR
    rw [if_neg (by rw [← hn]; omega), ← hn]
  obtain ⟨N, hN⟩ : ∃ N, N = (n - 4) / 4 := ⟨_, rfl⟩
  have hn4 : n = 4 + 4 * N := by omega
  have hN1 : 1 ≤ N := by omega
  have hN6 : N ≤ 1023 := by omega
  rw [← hN] at hR
  rw [← HD.out] at hR
  have HR := Lib.hid hR
  clear hN h4 hR hn
  refine (callsIn_wide (n := 8)).1 ?_
  refine callsIn_of_wp_marks Try.func27 rfl trivial ?_ rfl
  simp only [Try.ntmps27, List.size_toArray, List.length_cons, List.length_nil, Nat.reduceAdd, Nat.reduceSub, Array.replicate_succ, Array.replicate_zero, List.push_toArray, List.append_toArray, List.nil_append, List.cons_append]
  gi_wp2_with fail
  rw [← hW]
  clear hW
  refine ⟨trivial, ?_⟩
  refine (callsIn_wide.2 (HU.out _)).mono ?_
  rintro e w1 ⟨v1, rfl, hown, g1⟩
  have hown1 : SO w1 w.heap.size v1 L := own_le hown HG.out.size
  obtain ⟨g, c1, rfl, hc1, hc2⟩ : ∃ g c, v1 = .slice (some ⟨g, 0, none⟩) L.length c ∧ L.length ≤ c ∧ c ≤ 9223372036854775807 := by
    rcases hown1.2 with ⟨_, h0⟩ | ⟨g, cap, cur, rfl, _, _, h1, h2, _⟩
    · rw [← HN.out] at h0; omega
    · exact ⟨g, cap, rfl, h1, h2⟩
  rw [← HN.out] at hc1 ⊢
  have HN4 := Lib.hid hn4
  have hat : ∀ j, j < n → w1.cell? ⟨g, j, none⟩ = some (.string (atL L j)) := fun j hj => by
    have := World.ownsRow.cellAt hown1 j (by rw [← HN.out]; omega)
    rw [this, List.getElem?_map]
    unfold atL
    rw [List.getElem?_eq_getElem (show j < L.length by rw [← HN.out]; exact hj)]
    rfl
  have hsv : SV w1 (.slice (some ⟨g, 0, none⟩) 4 c1) [atL L 0, atL L 1, atL L 2, atL L 3] := by
    refine ⟨_, c1, rfl, by show 4 ≤ c1; omega, ⟨hc2, fun h => by cases h⟩, fun j hj => ⟨g, 0, rfl, ?_⟩⟩
    rw [Nat.zero_add]
    match j, hj with
    | 0, _ => exact hat 0 (by omega)
    | 1, _ => exact hat 1 (by omega)
    | 2, _ => exact hat 2 (by omega)
    | 3, _ => exact hat 3 (by omega)
  have hz3 : (atL L 3).size ≤ 9223372036854775807 := by
    have h3 : 3 < L.length := by rw [← HN.out]; omega
    unfold atL
    rw [List.getElem?_eq_getElem h3]
    exact Nat.le_trans (HZ.out _ (List.getElem_mem h3)) (by decide)
  have HH := Lib.hid (readHead_any _ _ _ _ _ hz3 w1 hsv)
  have HG1 := Lib.hid (HG.out.trans g1)
  have HB2 := Lib.hid (gr_obj g1 HO2.out)
  have HB3 := Lib.hid (gr_obj g1 HO3.out)
  have HOW := Lib.hid hown1
  have hc14 : 4 ≤ c1 := by omega
  have hn8i : (8 : Int) ≤ (n : Int) := by omega
  have hn4i : (4 : Int) ≤ (n : Int) := by omega
  clear hown hown1 g1 hat hsv hz3 hn4
  rcases ht : readHeadR (atL L 0) (atL L 1) (atL L 2) (atL L 3) with _ | t
  · have HF := Lib.hid (show decodeR s.data.toList = none by rw [HR.out, ht])
    rw [ht] at HH
    clear ht
    gi_wp2_with fail
    refine ⟨trivial, ?_⟩
    refine (callsIn_wide.2 HH.out).mono ?_
    rintro e w2 ⟨rfl, g2⟩
    unfold headVal
    simp only [Option.getD_none, Option.isSome_none]
    obtain ⟨W3, hW3, hg3, -⟩ := xbox w2 noTX (.slice none 0 0)
    have HG3 := Lib.hid ((HG1.out.trans g2).trans hg3)
    have hb2 := gr_obj (g2.trans hg3) HB2.out
    have hb3 := gr_obj (g2.trans hg3) HB3.out
    have z0 : W3.cell? ⟨w.heap.size, 0, none⟩ = some (.int .i64 0) := by rw [cell_of_block hb2]; rfl
    have z1 : W3.cell? ⟨w.heap.size, 1, none⟩ = some (.int .u64 0) := by rw [cell_of_block hb2]; rfl
    have z2 : W3.cell? ⟨w.heap.size, 2, none⟩ = some (.int .u64 0) := by rw [cell_of_block hb2]; rfl
    have z3 : W3.cell? ⟨w.heap.size, 3, none⟩ = some (.int .u64 0) := by rw [cell_of_block hb2]; rfl
    have z4 : W3.cell? ⟨w.heap.size, 4, none⟩ = some (.int .u64 0) := by rw [cell_of_block hb2]; rfl
    have z5 : W3.cell? ⟨w.heap.size, 5, none⟩ = some (.int .u64 0) := by rw [cell_of_block hb2]; rfl
    have z6 : W3.cell? ⟨w.heap.size, 6, none⟩ = some (.int .u64 0) := by rw [cell_of_block hb2]; rfl
    have z7 : W3.cell? ⟨w.heap.size, 7, none⟩ = some (.int .u64 0) := by rw [cell_of_block hb2]; rfl
    have z8 : W3.cell? ⟨w.heap.size, 8, none⟩ = some (.int .u64 0) := by rw [cell_of_block hb2]; rfl
    have z9 : W3.cell? ⟨w.heap.size, 9, none⟩ = some (.int .u64 0) := by rw [cell_of_block hb2]; rfl
    have z10 : W3.cell? ⟨w.heap.size, 10, none⟩ = some (.int .u64 0) := by rw [cell_of_block hb2]; rfl
    have z11 : W3.cell? ⟨w.heap.size, 11, none⟩ = some (.slice none 0 0) := by rw [cell_of_block hb2]; rfl
    have y0 : W3.cell? ⟨w.heap.size + 1, 0, none⟩ = some (.bool false) := by rw [cell_of_block hb3]; rfl
    have f0 := unfrozen_of_block hb2 0
    have f1 := unfrozen_of_block hb2 1
    have f2 := unfrozen_of_block hb2 2
    have f3 := unfrozen_of_block hb2 3
    have f4 := unfrozen_of_block hb2 4
    have f5 := unfrozen_of_block hb2 5
    have f6 := unfrozen_of_block hb2 6
    have f7 := unfrozen_of_block hb2 7
    have f8 := unfrozen_of_block hb2 8
    have f9 := unfrozen_of_block hb2 9
    have f10 := unfrozen_of_block hb2 10
    have f11 := unfrozen_of_block hb2 11
    have g0 := unfrozen_of_block hb3 0
    clear g2 hg3 hb2 hb3
    gi_upto_region 5 with (fail)
    rw [← hW3]
    clear hW3
    gi_wp2_with fail
    refine ⟨.tuple #[.agg (tcs noTX (.slice none 0 0)), .bool false], ?_, ?_⟩
    · simp [results, Try.f27, go_sem, noTX, *]
    · rw [HF.out]
      exact ⟨rfl, (((((((((((((HG3.out).setCell (by simp) _).setCell (by simp) _).setCell (by simp) _).setCell (by simp) _).setCell (by simp) _).setCell (by simp) _).setCell (by simp) _).setCell (by simp) _).setCell (by simp) _).setCell (by simp) _).setCell (by simp) _).setCell (by simp) _).setCell (by simp) _⟩
  have HT := Lib.hid ht
  rw [ht] at HH
  clear ht
  unfold headVal at HH
  simp only [Option.getD_some, Option.isSome_some] at HH
  gi_wp2_with fail
  refine ⟨trivial, ?_⟩
  refine (callsIn_wide.2 HH.out).mono ?_
  rintro e w2 ⟨rfl, g2⟩
  obtain ⟨W3, hW3, hg3, ho6⟩ : ∃ W, W = w2.alloc (.cells (tcs t (.slice none 0 0)) 36) ∧ Gr w2 W ∧ W.heap[w2.heap.size]? = some (.cells (tcs t (.slice none 0 0)) 36 (0, 0)) := by
    refine ⟨_, rfl, (Gr.refl w2).alloc _, ?_⟩
    simp only [World.alloc, Array.getElem?_push]; simp
  have HG3 := Lib.hid ((HG1.out.trans g2).trans hg3)
  have hg2s := g2
  have HB2' := Lib.hid (gr_obj (g2.trans hg3) HB2.out)
  have HB3' := Lib.hid (gr_obj (g2.trans hg3) HB3.out)
  have HOW' := Lib.hid ((HOW.out.gr g2).gr hg3)
  have HO6 := Lib.hid ho6
  clear g2 hg3 ho6
  gi_upto_region 5 with (fail)
  rw [← hW3]
  clear hW3
  gi_wp2_with fail
  refine ⟨trivial, ?_⟩
  refine (callsIn_wide.2 (chunk_any _ _ _ _)).mono ?_
  rintro e w4 ⟨rfl, hw4⟩
  have hn44 : n - 4 = 4 * N := by rw [HN4.out]; omega
  rw [hn44] at hw4 ⊢
  have hg4 : Gr W3 w4 := by rw [hw4]; exact ((Gr.refl W3).alloc _).alloc _
  have hk0 : w4.heap[W3.heap.size]? = some (.cells #[.slice (some ⟨g, 4, none⟩) (4 * N) (c1 - 4)] 51 (0, 0)) := by
    rw [hw4]; simp only [World.alloc, Array.getElem?_push, Array.size_push]; simp
  have hk1 : w4.heap[W3.heap.size + 1]? = some (.cells #[.int .i64 4] 3 (0, 0)) := by
    rw [hw4]; simp only [World.alloc, Array.getElem?_push, Array.size_push]; simp
  obtain ⟨B0, hB0⟩ : ∃ x, x = W3.heap.size := ⟨_, rfl⟩
  obtain ⟨b6, hb6⟩ : ∃ x, x = w2.heap.size := ⟨_, rfl⟩
  have st0 : RTI w b6 B0 (B0 + 1) t (.slice (some ⟨g, 0, none⟩) n c1) (.slice (some ⟨g, 4, none⟩) (4 * N) (c1 - 4)) L (.slice none 0 0) [] w4 := by
    rw [hb6, hB0]
    exact ⟨gr_obj hg4 HB2'.out, gr_obj hg4 HB3'.out, gr_obj hg4 HO6.out, hk0, hk1, by have := HOW'.out.gr hg4; rw [← HN.out] at this; exact this, TOO.nil _ _, HG3.out.trans hg4⟩
  have hne : (w.heap.size ≠ b6 ∧ w.heap.size + 1 ≠ b6 ∧ B0 ≠ b6 ∧ B0 + 1 ≠ b6 ∧ w.heap.size ≤ b6) := by
    have h1 := (Array.getElem?_eq_some_iff.1 HB2.out).1
    have h2 := (Array.getElem?_eq_some_iff.1 HB3.out).1
    have h3 := (Array.getElem?_eq_some_iff.1 HO6.out).1
    have h4 := hg2s.size
    rw [hb6, hB0]
    omega
  have HNE := Lib.hid hne
  rw [← hB0] at hk0 hk1 ⊢
  rw [← hb6]
  have HST0 := Lib.hid st0
  have hlt0 : B0 < w4.heap.size := (Array.getElem?_eq_some_iff.1 hk0).1
  have hlt1 : B0 + 1 < w4.heap.size := (Array.getElem?_eq_some_iff.1 hk1).1
  have hc0 : w4.cell? ⟨B0, 0, none⟩ = some (.slice (some ⟨g, 4, none⟩) (4 * N) (c1 - 4)) := by rw [cell_of_block hk0]; rfl
  have hc1' : w4.cell? ⟨B0 + 1, 0, none⟩ = some (.int .i64 4) := by rw [cell_of_block hk1]; rfl
  have hNc : 4 * N ≤ c1 - 4 := by omega
  have HWS := Lib.hid (show w.heap.size ≤ w4.heap.size from (HG3.out.trans hg4).size)
  clear hw4 hg4 hk0 hk1 st0 hB0 hb6 hne hg2s
  gi_wp2_with fail
  obtain ⟨i0, hi, hz0, hz1, hz2⟩ := info_parts infoTOp
  refine' wpIn_rangeFunc_ownF (F := Fence.wide) rfl (by decide) (gf := 47) (lb := #[.pointer (some ⟨B0, 0, none⟩), .pointer (some ⟨B0 + 1, 0, none⟩)]) rfl trivial (enters_of Try.func47 (by kernel_rfl) rfl)
    (chunk_stops 7 (by decide) B0 (B0 + 1) g 4 (c1 - 4) N hNc (by omega) w4 hlt0 hlt1 hc0 hc1') (fun h k => h.trans k) (fun W l o o' hl _ _ _ => ⟨World.putObj_heap_other (by omega), World.putObj_heap_other (by omega)⟩) (Below.refl _ _) (fun _ => rfl)
    (fun pre W => (∀ x ∈ pre, (opAt L x.1).isSome = true) ∧ ∃ vs, RTI w b6 B0 (B0 + 1) t (.slice (some ⟨g, 0, none⟩) n c1) (.slice (some ⟨g, 4, none⟩) (4 * N) (c1 - 4)) L vs (pre.filterMap fun x => opAt L x.1) W)
    (fun c pre W => c = .ret ∧ (∃ x ∈ pre, opAt L x.1 = none) ∧ W.heap[w.heap.size]? = some (.cells zeroX 36 (0, 0)) ∧ W.heap[w.heap.size + 1]? = some (.cells #[.bool false] 4 (0, 0)) ∧ Gr w W)
    (fun pre A B row hs hg hr => ⟨hs.1, hs.2.imp fun vs h => h.far hg (fun r e => Nat.le_trans HWS.out (hr r e).1) (fun r e => (hr r e).2)⟩)
    (fun c pre A B row hs hg hr => ⟨hs.1, hs.2.1, cells_far hs.2.2.1 hg (fun r e => (hr r e).2), cells_far hs.2.2.2.1 hg (fun r e => (hr r e).2), gr_far hs.2.2.2.2 hg (fun r e => Nat.le_trans HWS.out (hr r e).1)⟩)
    ⟨fun x hx => by (cases hx), _, HST0.out⟩ _ ?assign ?body ?done ?stop
  case assign =>
    intro l x W K hK
    gi_wp2_with fail
    exact hK
  case body =>
    rintro l pre x W ⟨hs, vs, st⟩ hlt
    have hrow := st.row
    rw [show (Value.slice (some ⟨g, 0, none⟩) n c1) = .slice (some ⟨g, 0, none⟩) L.length c1 by rw [HN.out]] at hrow
    have hat : ∀ j, j < n → W.cell? ⟨g, j, none⟩ = some (.string (atL L j)) := fun j hj => by
      have := World.ownsRow.cellAt hrow j (by rw [← HN.out]; omega)
      rw [this, List.getElem?_map]
      unfold atL
      rw [List.getElem?_eq_getElem (show j < L.length by rw [← HN.out]; exact hj)]
      rfl
    have hx2 := x.2
    have hn4' := HN4.out
    have hsv : SV W (fourAt g 4 x.1) [atL L (4 + 4 * x.1), atL L (4 + 4 * x.1 + 1), atL L (4 + 4 * x.1 + 2), atL L (4 + 4 * x.1 + 3)] := by
      refine ⟨_, 4, rfl, Nat.le_refl _, ⟨by decide, fun h => by cases h⟩, fun j hj => ⟨g, 4 + 4 * x.1, rfl, ?_⟩⟩
      match j, hj with
      | 0, _ => exact hat _ (by omega)
      | 1, _ => exact hat _ (by omega)
      | 2, _ => exact hat _ (by omega)
      | 3, _ => exact hat _ (by omega)
    have HRO := Lib.hid (readOp_any _ _ _ _ _ W hsv)
    rw [show readOpR (atL L (4 + 4 * x.1)) (atL L (4 + 4 * x.1 + 1)) (atL L (4 + 4 * x.1 + 2)) (atL L (4 + 4 * x.1 + 3)) = opAt L x.1 from rfl] at HRO
    unfold fourAt at HRO
    have HX := Lib.hid st
    have HSM := Lib.hid hs
    have HWW := Lib.hid (show w.heap.size ≤ W.heap.size from st.gr.size)
    have hpl : (pre.filterMap fun x => opAt L x.1).length ≤ pre.length := List.length_filterMap_le ..
    obtain ⟨Av, cv, rfl, -, -⟩ := st.own.form
    obtain ⟨nv, hnv⟩ : ∃ m, m = (pre.filterMap fun x => opAt L x.1).length := ⟨_, rfl⟩
    rw [← hnv] at HX hpl
    have HNV := Lib.hid hnv
    clear hrow hat hsv st hs hx2 hn4' hnv
    rcases hop : opAt L x.1 with _ | o
    · rw [hop] at HRO
      have HOP := Lib.hid hop
      clear hop
      unfold opVal at HRO
      simp only [Option.getD_none, Option.isSome_none] at HRO
      gi_wp2_with fail
      refine ⟨trivial, ?_⟩
      refine (CallsIn.inRound l (callsIn_wide.2 HRO.out)).mono ?_
      rintro e w5 ⟨rfl, g5⟩
      obtain ⟨W6, hW6, hg6⟩ : ∃ W6, W6 = w5.alloc (.cells #[.int .i64 0, .string ⟨#[]⟩, .string ⟨#[]⟩, .int .i64 0] 23) ∧ Gr w5 W6 := ⟨_, rfl, (Gr.refl _).alloc _⟩
      have hb2 := gr_obj (g5.trans hg6) HX.out.o2
      have hb3 := gr_obj (g5.trans hg6) HX.out.o3
      have HB2'' := Lib.hid hb2
      have HB3'' := Lib.hid hb3
      have HG6 := Lib.hid (HX.out.gr.trans (g5.trans hg6))
      have HK6 := Lib.hid ((ko_gr g5).trans (ko_gr hg6))
      have z0 : W6.cell? ⟨w.heap.size, 0, none⟩ = some (.int .i64 0) := by rw [cell_of_block hb2]; rfl
      have z1 : W6.cell? ⟨w.heap.size, 1, none⟩ = some (.int .u64 0) := by rw [cell_of_block hb2]; rfl
      have z2 : W6.cell? ⟨w.heap.size, 2, none⟩ = some (.int .u64 0) := by rw [cell_of_block hb2]; rfl
      have z3 : W6.cell? ⟨w.heap.size, 3, none⟩ = some (.int .u64 0) := by rw [cell_of_block hb2]; rfl
      have z4 : W6.cell? ⟨w.heap.size, 4, none⟩ = some (.int .u64 0) := by rw [cell_of_block hb2]; rfl
      have z5 : W6.cell? ⟨w.heap.size, 5, none⟩ = some (.int .u64 0) := by rw [cell_of_block hb2]; rfl
      have z6 : W6.cell? ⟨w.heap.size, 6, none⟩ = some (.int .u64 0) := by rw [cell_of_block hb2]; rfl
      have z7 : W6.cell? ⟨w.heap.size, 7, none⟩ = some (.int .u64 0) := by rw [cell_of_block hb2]; rfl
      have z8 : W6.cell? ⟨w.heap.size, 8, none⟩ = some (.int .u64 0) := by rw [cell_of_block hb2]; rfl
      have z9 : W6.cell? ⟨w.heap.size, 9, none⟩ = some (.int .u64 0) := by rw [cell_of_block hb2]; rfl
      have z10 : W6.cell? ⟨w.heap.size, 10, none⟩ = some (.int .u64 0) := by rw [cell_of_block hb2]; rfl
      have z11 : W6.cell? ⟨w.heap.size, 11, none⟩ = some (.slice none 0 0) := by rw [cell_of_block hb2]; rfl
      have y0 : W6.cell? ⟨w.heap.size + 1, 0, none⟩ = some (.bool false) := by rw [cell_of_block hb3]; rfl
      have f0 := unfrozen_of_block hb2 0
      have f1 := unfrozen_of_block hb2 1
      have f2 := unfrozen_of_block hb2 2
      have f3 := unfrozen_of_block hb2 3
      have f4 := unfrozen_of_block hb2 4
      have f5 := unfrozen_of_block hb2 5
      have f6 := unfrozen_of_block hb2 6
      have f7 := unfrozen_of_block hb2 7
      have f8 := unfrozen_of_block hb2 8
      have f9 := unfrozen_of_block hb2 9
      have f10 := unfrozen_of_block hb2 10
      have f11 := unfrozen_of_block hb2 11
      have g0 := unfrozen_of_block hb3 0
      clear hb2 hb3 g5 hg6
      unfold noTO tovs
      gi_upto_region 10 with (fail)
      rw [← hW6]
      clear hW6
      gi_wp2_with fail
      refine ⟨(((((((((((((HK6.out).trans (KeepsOthers.setCell _ _ _)).trans (KeepsOthers.setCell _ _ _)).trans (KeepsOthers.setCell _ _ _)).trans (KeepsOthers.setCell _ _ _)).trans (KeepsOthers.setCell _ _ _)).trans (KeepsOthers.setCell _ _ _)).trans (KeepsOthers.setCell _ _ _)).trans (KeepsOthers.setCell _ _ _)).trans (KeepsOthers.setCell _ _ _)).trans (KeepsOthers.setCell _ _ _)).trans (KeepsOthers.setCell _ _ _)).trans (KeepsOthers.setCell _ _ _)).trans (KeepsOthers.setCell _ _ _), rfl, ⟨x, List.mem_append.2 (.inr (List.mem_singleton.2 rfl)), HOP.out⟩, set_obj_other (set_obj (set_obj (set_obj (set_obj (set_obj (set_obj (set_obj (set_obj (set_obj (set_obj (set_obj (set_obj HB2''.out _) _) _) _) _) _) _) _) _) _) _) _) (by omega) _, ?_, (((((((((((((HG6.out).setCell (by simp) _).setCell (by simp) _).setCell (by simp) _).setCell (by simp) _).setCell (by simp) _).setCell (by simp) _).setCell (by simp) _).setCell (by simp) _).setCell (by simp) _).setCell (by simp) _).setCell (by simp) _).setCell (by simp) _).setCell (by simp) _⟩
      exact set_obj (set_obj_other (set_obj_other (set_obj_other (set_obj_other (set_obj_other (set_obj_other (set_obj_other (set_obj_other (set_obj_other (set_obj_other (set_obj_other (set_obj_other HB3''.out (by omega) _) (by omega) _) (by omega) _) (by omega) _) (by omega) _) (by omega) _) (by omega) _) (by omega) _) (by omega) _) (by omega) _) (by omega) _) (by omega) _) _
    · rw [hop] at HRO
      have HOP := Lib.hid hop
      clear hop
      unfold opVal at HRO
      simp only [Option.getD_some, Option.isSome_some] at HRO
      unfold tovs at HRO
      gi_wp2_with fail
      refine ⟨trivial, ?_⟩
      refine (CallsIn.inRound l (callsIn_wide.2 HRO.out)).mono ?_
      rintro e w5 ⟨rfl, g5⟩
      obtain ⟨W6, hW6, hg6, hx6⟩ := obox w5 o
      obtain ⟨q0, q1, q2, q3⟩ := hx6
      have st6 := HX.out.gr' (g5.trans hg6)
      have HST6 := Lib.hid st6
      have HK6 := Lib.hid ((ko_gr g5).trans (ko_gr hg6))
      have p11 : W6.cell? ⟨b6, 11, none⟩ = some (.slice Av nv cv) := by rw [cell_of_block st6.o6]; rfl
      have HOW6 : Hid (TOO W6 w.heap.size (.slice Av nv cv) (pre.filterMap fun x => opAt L x.1)) := Lib.hid st6.own
      have HWG := Lib.hid (show w.heap.size ≤ W6.heap.size from st6.gr.size)
      clear g5 hg6 st6
      gi_upto_region 10 with (fail)
      rw [show (#[Value.int .i64 o.kind, .string o.key, .string o.elem, .int .i64 o.n] : Array Value) = tovs o from rfl, ← hW6]
      clear hW6
      have hrow6 : W6.ownsRow w.heap.size 23 4 (.slice Av nv cv) nv (tocells (pre.filterMap fun x => opAt L x.1)) := by
        have h := HOW6.out
        unfold TOO at h
        rw [← HNV.out] at h
        exact h
      have hN1000 : nv ≤ 1023 := by omega
      have hcc : ∀ j u, (tocell o)[j]? = some u → (W6.alloc (.cells (tovs o) 23)).cell? ((⟨W6.heap.size, 0, none⟩ : Addr).add j) = some u := by
        intro j u hj
        rw [show (⟨W6.heap.size, 0, none⟩ : Addr).add j = ⟨W6.heap.size, j, none⟩ by (simp [Addr.add]; try omega), World.cell?_alloc_mark]
        rw [← hj, show tocell o = (tovs o).toList from rfl, Array.getElem?_toList]
      have hcs : ∀ u ∈ tocell o, u.oneCell' = true := by
        intro u hu
        exact tocells_one [o] u (by unfold tocells; simp only [List.flatMap_cons, List.flatMap_nil, List.append_nil]; exact hu)
      have HCC := Lib.hid hcc
      have HCS := Lib.hid hcs
      clear hcc hcs
      have hrow7 : (W6.alloc (.cells (tovs o) 23)).ownsRow w.heap.size 23 4 (.slice Av nv cv) nv (tocells (pre.filterMap fun x => opAt L x.1)) := hrow6.alloc _
      have st7 := HST6.out.gr' (gr_box W6 (.cells (tovs o) 23))
      have HO6F := Lib.hid (fun w7 (hk7 : Kp (Value.slice Av nv cv).ownBlock (W6.alloc (.cells (tovs o) 23)) w7) => kp_obj hk7 st7.o6 (own_ne_obj hrow7 st7.o6 (by decide)))
      have HST7 := Lib.hid st7
      have HROW7 := Lib.hid hrow7
      clear hrow7 st7
      gi_wp2_with (gi_at_builtin; refine wpListIn_append_own _ rfl (.tmp 53) (.tmp 55) 34 rfl w.heap.size 23 i0 _ 4 48 Try.underlying34 hi hz0 hz1 hz2 rfl (by decide) (.slice Av nv cv) nv _ rfl (hrow6.alloc _) ⟨W6.heap.size, 0, none⟩ 1 1 (tocell o) rfl rfl HCC.out HCS.out (by unfold maxLen; omega) (by omega) (by have := HWG.out; simp; omega) ?_; intro v' w7 hown7 hgrow7 _; obtain ⟨A8, c8, rfl, -, -⟩ := own_form hown7; have o6 := HO6F.out w7 hgrow7; have p11' : w7.cell? ⟨b6, 11, none⟩ = some (.slice Av nv cv) := (by rw [cell_of_block o6]; rfl); have f11' : w7.frozen? ⟨b6, 11, none⟩ = false := unfrozen_of_block o6 11; have HOW7 := Lib.hid hown7; have HGW7 := Lib.hid hgrow7; clear hown7 hgrow7)
      have hown7 := HOW7.out
      have hgrow7 := HGW7.out
      have st7 := HST7.out
      have hrow7 := HROW7.out
      have hk7 : Kp (Value.slice Av nv cv).ownBlock (W6.alloc (.cells (tovs o) 23)) w7 := hgrow7
      have o2 := kp_obj hk7 st7.o2 (own_ne_obj hrow7 st7.o2 (by decide))
      have o3 := kp_obj hk7 st7.o3 (own_ne_obj hrow7 st7.o3 (by decide))
      have k0 := kp_obj hk7 st7.k0 (own_ne_obj hrow7 st7.k0 (by decide))
      have k1 := kp_obj hk7 st7.k1 (own_ne_obj hrow7 st7.k1 (by decide))
      have row := own_past st7.row hrow7 (by decide) hk7
      have hgr7 : Gr w w7 := gr_far st7.gr hgrow7 (fun r e => (World.ownsRow.lt hrow7 r e).1)
      have hko7 : KeepsOthers W w7 := (HK6.out.trans (KeepsOthers.alloc _ _)).trans (ko_own hrow7 hgrow7)
      have hown8 : TOO w7 w.heap.size (.slice A8 (nv + 1) c8) ((pre ++ [x]).filterMap fun x => opAt L x.1) := by
        unfold TOO
        rw [List.filterMap_append, List.length_append, ← HNV.out]
        have e : ([x].filterMap fun x : Fin N => opAt L x.1) = [o] := by simp [HOP.out]
        rw [e]
        unfold tocells at hown7 ⊢
        rw [List.flatMap_append]
        simpa using hown7
      have hfin : RTI w b6 B0 (B0 + 1) t (.slice (some ⟨g, 0, none⟩) n c1) (.slice (some ⟨g, 4, none⟩) (4 * N) (c1 - 4)) L (.slice A8 (nv + 1) c8) ((pre ++ [x]).filterMap fun x => opAt L x.1) (w7.setCell ⟨b6, 11, none⟩ (.slice A8 (nv + 1) c8)) := by
        have hbne : ∀ {b : Nat} {ob : Obj}, w7.heap[b]? = some ob → ob ≠ .cells (tcs t (.slice Av nv cv)) 36 (0, 0) → b ≠ b6 := fun h hne e => by
          rw [e, o6] at h
          exact hne (Option.some.inj h).symm
        refine ⟨set_obj_other o2 HNE.out.1 _, set_obj_other o3 HNE.out.2.1 _, set_obj o6 _, set_obj_other k0 HNE.out.2.2.1 _, set_obj_other k1 HNE.out.2.2.2.1 _, own_set_obj row o6 (by decide) _, own_set_obj hown8 o6 (by decide) _, hgr7.setCell HNE.out.2.2.2.2 _⟩
      have HFIN := Lib.hid hfin
      have HKO := Lib.hid (hko7.trans (KeepsOthers.setCell w7 ⟨b6, 11, none⟩ (.slice A8 (nv + 1) c8)))
      clear o2 o3 o6 k0 k1 row hgr7 hko7 hown8 hfin hown7 hgrow7 hk7 hrow7 st7
      refine ⟨HKO.out, ⟨HFIN.out.k0.trans HX.out.k0.symm, HFIN.out.k1.trans HX.out.k1.symm⟩, fun y hy => ?_, _, HFIN.out⟩
      rcases List.mem_append.1 hy with hy | hy
      · exact HSM.out y hy
      · rw [List.mem_singleton.1 hy, HOP.out]; rfl
  case done =>
    rintro D ys W hD rfl ⟨hs, vs, st⟩ hK
    have HF := Lib.hid (show decodeR s.data.toList = some { t with ops := (List.finRange N).filterMap fun x => opAt L x.1 } by
      rw [HR.out, HT.out]
      show Option.map _ (allSome ((List.range N).map (opAt L))) = _
      rw [allSome_fin (fun x => hs x (List.mem_finRange x))]
      rfl)
    obtain ⟨Av, cv, rfl, -, -⟩ := st.own.form
    obtain ⟨nv, hnv⟩ : ∃ m, m = ((List.finRange N).filterMap fun x => opAt L x.1).length := ⟨_, rfl⟩
    rw [← hnv] at st
    have HX := Lib.hid st
    have hb2 := st.o2
    have hb3 := st.o3
    have hb6 := st.o6
    have z0 : W.cell? ⟨w.heap.size, 0, none⟩ = some (.int .i64 0) := by rw [cell_of_block hb2]; rfl
    have z1 : W.cell? ⟨w.heap.size, 1, none⟩ = some (.int .u64 0) := by rw [cell_of_block hb2]; rfl
    have z2 : W.cell? ⟨w.heap.size, 2, none⟩ = some (.int .u64 0) := by rw [cell_of_block hb2]; rfl
    have z3 : W.cell? ⟨w.heap.size, 3, none⟩ = some (.int .u64 0) := by rw [cell_of_block hb2]; rfl
    have z4 : W.cell? ⟨w.heap.size, 4, none⟩ = some (.int .u64 0) := by rw [cell_of_block hb2]; rfl
    have z5 : W.cell? ⟨w.heap.size, 5, none⟩ = some (.int .u64 0) := by rw [cell_of_block hb2]; rfl
    have z6 : W.cell? ⟨w.heap.size, 6, none⟩ = some (.int .u64 0) := by rw [cell_of_block hb2]; rfl
    have z7 : W.cell? ⟨w.heap.size, 7, none⟩ = some (.int .u64 0) := by rw [cell_of_block hb2]; rfl
    have z8 : W.cell? ⟨w.heap.size, 8, none⟩ = some (.int .u64 0) := by rw [cell_of_block hb2]; rfl
    have z9 : W.cell? ⟨w.heap.size, 9, none⟩ = some (.int .u64 0) := by rw [cell_of_block hb2]; rfl
    have z10 : W.cell? ⟨w.heap.size, 10, none⟩ = some (.int .u64 0) := by rw [cell_of_block hb2]; rfl
    have z11 : W.cell? ⟨w.heap.size, 11, none⟩ = some (.slice none 0 0) := by rw [cell_of_block hb2]; rfl
    have y0 : W.cell? ⟨w.heap.size + 1, 0, none⟩ = some (.bool false) := by rw [cell_of_block hb3]; rfl
    have f0 := unfrozen_of_block hb2 0
    have f1 := unfrozen_of_block hb2 1
    have f2 := unfrozen_of_block hb2 2
    have f3 := unfrozen_of_block hb2 3
    have f4 := unfrozen_of_block hb2 4
    have f5 := unfrozen_of_block hb2 5
    have f6 := unfrozen_of_block hb2 6
    have f7 := unfrozen_of_block hb2 7
    have f8 := unfrozen_of_block hb2 8
    have f9 := unfrozen_of_block hb2 9
    have f10 := unfrozen_of_block hb2 10
    have f11 := unfrozen_of_block hb2 11
    have g0 := unfrozen_of_block hb3 0
    have p0 : W.cell? ⟨b6, 0, none⟩ = some (.int .i64 t.origin) := by rw [cell_of_block hb6]; rfl
    have p1 : W.cell? ⟨b6, 1, none⟩ = some (.int .u64 (t.seq : Int)) := by rw [cell_of_block hb6]; rfl
    have p2 : W.cell? ⟨b6, 2, none⟩ = some (.int .u64 (t.stamp : Int)) := by rw [cell_of_block hb6]; rfl
    have p3 : W.cell? ⟨b6, 3, none⟩ = some (.int .u64 (t.deps 0 : Int)) := by rw [cell_of_block hb6]; rfl
    have p4 : W.cell? ⟨b6, 4, none⟩ = some (.int .u64 (t.deps 1 : Int)) := by rw [cell_of_block hb6]; rfl
    have p5 : W.cell? ⟨b6, 5, none⟩ = some (.int .u64 (t.deps 2 : Int)) := by rw [cell_of_block hb6]; rfl
    have p6 : W.cell? ⟨b6, 6, none⟩ = some (.int .u64 (t.deps 3 : Int)) := by rw [cell_of_block hb6]; rfl
    have p7 : W.cell? ⟨b6, 7, none⟩ = some (.int .u64 (t.deps 4 : Int)) := by rw [cell_of_block hb6]; rfl
    have p8 : W.cell? ⟨b6, 8, none⟩ = some (.int .u64 (t.deps 5 : Int)) := by rw [cell_of_block hb6]; rfl
    have p9 : W.cell? ⟨b6, 9, none⟩ = some (.int .u64 (t.deps 6 : Int)) := by rw [cell_of_block hb6]; rfl
    have p10 : W.cell? ⟨b6, 10, none⟩ = some (.int .u64 (t.deps 7 : Int)) := by rw [cell_of_block hb6]; rfl
    have p11 : W.cell? ⟨b6, 11, none⟩ = some (.slice Av nv cv) := by rw [cell_of_block hb6]; rfl
    have HK := Lib.hid hK
    have HDW := Lib.hid (Nat.le_trans HWS.out hD)
    clear hs hnv st hb2 hb3 hb6 hK hD
    gi_wp2_with fail
    clear z0 z1 z2 z3 z4 z5 z6 z7 z8 z9 z10 z11 y0 f0 f1 f2 f3 f4 f5 f6 f7 f8 f9 f10 f11 g0 p0 p1 p2 p3 p4 p5 p6 p7 p8 p9 p10 p11
    obtain ⟨hKO, e2, e3, howns, hgrs⟩ := stored_facts (.int .i64 t.origin) (.int .u64 (t.seq : Int)) (.int .u64 (t.stamp : Int)) (.int .u64 (t.deps 0 : Int)) (.int .u64 (t.deps 1 : Int)) (.int .u64 (t.deps 2 : Int)) (.int .u64 (t.deps 3 : Int)) (.int .u64 (t.deps 4 : Int)) (.int .u64 (t.deps 5 : Int)) (.int .u64 (t.deps 6 : Int)) (.int .u64 (t.deps 7 : Int)) (.slice Av nv cv) (.bool true) HX.out.o2 HX.out.o3 (Nat.ne_of_lt (Nat.lt_succ_self _))
    have hown := howns HX.out.own (by decide) (by decide)
    have hgr := hgrs HX.out.gr (Nat.le_refl _) (Nat.le_succ _)
    have hKD := hKO.same D _ HK.out rfl
    clear howns hgrs
    obtain ⟨WF, hWF⟩ : ∃ x, x = stored W w.heap.size (w.heap.size + 1) (.int .i64 t.origin) (.int .u64 (t.seq : Int)) (.int .u64 (t.stamp : Int)) (.int .u64 (t.deps 0 : Int)) (.int .u64 (t.deps 1 : Int)) (.int .u64 (t.deps 2 : Int)) (.int .u64 (t.deps 3 : Int)) (.int .u64 (t.deps 4 : Int)) (.int .u64 (t.deps 5 : Int)) (.int .u64 (t.deps 6 : Int)) (.int .u64 (t.deps 7 : Int)) (.slice Av nv cv) (.bool true) := ⟨_, rfl⟩
    rw [← hWF] at hKD e2 e3 hown hgr
    unfold stored at hWF
    rw [← hWF]
    clear hWF hKO
    refine ⟨by simp, .inl ⟨_, _, rfl, run_takeDeferred hKD, ?_⟩⟩
    have hD1 : D ≠ w.heap.size ∧ D ≠ w.heap.size + 1 := by
      refine ⟨fun e => ?_, fun e => ?_⟩
      · rw [e, e2] at hKD; cases hKD
      · rw [e, e3] at hKD; cases hKD
    have e2' := put_other (o' := .deferred none) e2 hD1.1.symm
    have e3' := put_other (o' := .deferred none) e3 hD1.2.symm
    have hgF : WF.grownBy (WF.putObj D (.deferred none)) (some D) := grownBy_putObj' _ _ _
    have hown' := row_far hown hgF (fun r e => by cases e; exact ⟨_, hKD, rfl⟩)
    have hgr' := gr_far hgr hgF (fun r e => by cases e; exact HDW.out)
    obtain ⟨WG, hWG⟩ : ∃ x, x = WF.putObj D (.deferred none) := ⟨_, rfl⟩
    rw [← hWG] at e2' e3' hown' hgr' ⊢
    have z0 : WG.cell? ⟨w.heap.size, 0, none⟩ = some (.int .i64 t.origin) := by rw [cell_of_block e2']; rfl
    have z1 : WG.cell? ⟨w.heap.size, 1, none⟩ = some (.int .u64 (t.seq : Int)) := by rw [cell_of_block e2']; rfl
    have z2 : WG.cell? ⟨w.heap.size, 2, none⟩ = some (.int .u64 (t.stamp : Int)) := by rw [cell_of_block e2']; rfl
    have z3 : WG.cell? ⟨w.heap.size, 3, none⟩ = some (.int .u64 (t.deps 0 : Int)) := by rw [cell_of_block e2']; rfl
    have z4 : WG.cell? ⟨w.heap.size, 4, none⟩ = some (.int .u64 (t.deps 1 : Int)) := by rw [cell_of_block e2']; rfl
    have z5 : WG.cell? ⟨w.heap.size, 5, none⟩ = some (.int .u64 (t.deps 2 : Int)) := by rw [cell_of_block e2']; rfl
    have z6 : WG.cell? ⟨w.heap.size, 6, none⟩ = some (.int .u64 (t.deps 3 : Int)) := by rw [cell_of_block e2']; rfl
    have z7 : WG.cell? ⟨w.heap.size, 7, none⟩ = some (.int .u64 (t.deps 4 : Int)) := by rw [cell_of_block e2']; rfl
    have z8 : WG.cell? ⟨w.heap.size, 8, none⟩ = some (.int .u64 (t.deps 5 : Int)) := by rw [cell_of_block e2']; rfl
    have z9 : WG.cell? ⟨w.heap.size, 9, none⟩ = some (.int .u64 (t.deps 6 : Int)) := by rw [cell_of_block e2']; rfl
    have z10 : WG.cell? ⟨w.heap.size, 10, none⟩ = some (.int .u64 (t.deps 7 : Int)) := by rw [cell_of_block e2']; rfl
    have z11 : WG.cell? ⟨w.heap.size, 11, none⟩ = some (.slice Av nv cv) := by rw [cell_of_block e2']; rfl
    have y0 : WG.cell? ⟨w.heap.size + 1, 0, none⟩ = some (.bool true) := by rw [cell_of_block e3']; rfl
    clear e2 e3 hKD hown hgr hWG hgF e2' e3' hD1
    refine ⟨.tuple #[.agg (tcs t (.slice Av nv cv)), .bool true], ?_, ?_⟩
    · simp [results, Try.f27, go_sem, *]
    · rw [HF.out]
      exact ⟨_, rfl, hown', hgr'⟩
  case stop =>
    rintro D c pre W hD _ ⟨rfl, ⟨x, hx, hx0⟩, ho2, ho3, hgr⟩ hK
    have HF := Lib.hid (show decodeR s.data.toList = none by
      rw [HR.out, HT.out]
      show Option.map _ (allSome ((List.range N).map (opAt L))) = _
      rw [allSome_not x hx0]
      rfl)
    have hDW := Nat.le_trans HWS.out hD
    gi_wp2_with fail
    refine ⟨by simp, .inl ⟨_, _, rfl, run_takeDeferred hK, ?_⟩⟩
    have hD1 : D ≠ w.heap.size ∧ D ≠ w.heap.size + 1 := by
      refine ⟨fun e => ?_, fun e => ?_⟩
      · rw [e, ho2] at hK; cases hK
      · rw [e, ho3] at hK; cases hK
    have e2' := put_other (o' := .deferred none) ho2 hD1.1.symm
    have e3' := put_other (o' := .deferred none) ho3 hD1.2.symm
    have hgr' := gr_far hgr (grownBy_putObj' W D (.deferred none)) (fun r e => by cases e; exact hDW)
    obtain ⟨WG, hWG⟩ : ∃ x, x = W.putObj D (.deferred none) := ⟨_, rfl⟩
    rw [← hWG] at e2' e3' hgr' ⊢
    have z0 : WG.cell? ⟨w.heap.size, 0, none⟩ = some (.int .i64 0) := by rw [cell_of_block e2']; rfl
    have z1 : WG.cell? ⟨w.heap.size, 1, none⟩ = some (.int .u64 0) := by rw [cell_of_block e2']; rfl
    have z2 : WG.cell? ⟨w.heap.size, 2, none⟩ = some (.int .u64 0) := by rw [cell_of_block e2']; rfl
    have z3 : WG.cell? ⟨w.heap.size, 3, none⟩ = some (.int .u64 0) := by rw [cell_of_block e2']; rfl
    have z4 : WG.cell? ⟨w.heap.size, 4, none⟩ = some (.int .u64 0) := by rw [cell_of_block e2']; rfl
    have z5 : WG.cell? ⟨w.heap.size, 5, none⟩ = some (.int .u64 0) := by rw [cell_of_block e2']; rfl
    have z6 : WG.cell? ⟨w.heap.size, 6, none⟩ = some (.int .u64 0) := by rw [cell_of_block e2']; rfl
    have z7 : WG.cell? ⟨w.heap.size, 7, none⟩ = some (.int .u64 0) := by rw [cell_of_block e2']; rfl
    have z8 : WG.cell? ⟨w.heap.size, 8, none⟩ = some (.int .u64 0) := by rw [cell_of_block e2']; rfl
    have z9 : WG.cell? ⟨w.heap.size, 9, none⟩ = some (.int .u64 0) := by rw [cell_of_block e2']; rfl
    have z10 : WG.cell? ⟨w.heap.size, 10, none⟩ = some (.int .u64 0) := by rw [cell_of_block e2']; rfl
    have z11 : WG.cell? ⟨w.heap.size, 11, none⟩ = some (.slice none 0 0) := by rw [cell_of_block e2']; rfl
    have y0 : WG.cell? ⟨w.heap.size + 1, 0, none⟩ = some (.bool false) := by rw [cell_of_block e3']; rfl
    clear ho2 ho3 hK hgr hWG e2' e3' hD1 hx hx0
    refine ⟨.tuple #[.agg (tcs noTX (.slice none 0 0)), .bool false], ?_, ?_⟩
    · simp [results, Try.f27, go_sem, noTX, *]
    · rw [HF.out]
      exact ⟨rfl, hgr'⟩
end Go.Proofs.Yteagmdnpajalgaa
