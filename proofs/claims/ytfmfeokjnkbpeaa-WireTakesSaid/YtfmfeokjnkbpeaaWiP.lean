/- Packets and sides that are equal; walk: two nets that read the same are the same. -/
import Derived.Test.YtfmfeokjnkbpeaaWiO
import Derived.ChangeKeysEq
import Derived.Laws.StructEq
namespace Go.Proofs.Ytfmfeokjnkbpeaa.Wi
open Go.RowKit
set_option linter.unusedSimpArgs false

theorem fieldsPacket : ∃ f0 f1 f2 f3 : Field, Try.prog.fieldsOf 31 = #[f0, f1, f2, f3] ∧ f0.name ≠ "_" ∧ f1.name ≠ "_" ∧ f2.name ≠ "_" ∧ f3.name ≠ "_" ∧ f0.type = 3 ∧ f1.type = 3 ∧ f2.type = 3 ∧ f3.type = 9 ∧ f0.offset = 0 ∧ f1.offset = 1 ∧ f2.offset = 2 ∧ f3.offset = 3 := by
  refine ⟨(Try.prog.fieldsOf 31)[0]'(by decide +kernel), (Try.prog.fieldsOf 31)[1]'(by decide +kernel), (Try.prog.fieldsOf 31)[2]'(by decide +kernel), (Try.prog.fieldsOf 31)[3]'(by decide +kernel), by kernel_rfl, by decide +kernel, by decide +kernel, by decide +kernel, by decide +kernel, by kernel_rfl, by kernel_rfl, by kernel_rfl, by kernel_rfl, by kernel_rfl, by kernel_rfl, by kernel_rfl, by kernel_rfl⟩
theorem part_p (p : P) (w : World) : (part 3 (pcells p) 0).run Try.prog w = .ok (.int .i64 p.id) w ∧ (part 3 (pcells p) 1).run Try.prog w = .ok (.int .i64 p.src) w ∧ (part 3 (pcells p) 2).run Try.prog w = .ok (.int .i64 p.dst) w ∧ (part 9 (pcells p) 3).run Try.prog w = .ok (.string p.body) w := by
  refine ⟨?_, ?_, ?_, ?_⟩ <;> (show _ = _; kernel_rfl)
theorem equal_p (p : P) (w : World) : (Op.equalIn 10000 31 (.agg (pcells p)) (.agg (pcells p))).run Try.prog w = .ok true w := by
  obtain ⟨f0, f1, f2, f3, hf, n0, n1, n2, n3, t0, t1, t2, t3, o0, o1, o2, o3⟩ := fieldsPacket
  obtain ⟨p0, p1, p2, p3⟩ := part_p p w
  rw [run_equalIn_struct w 9999 _ _ _ (by kernel_rfl) (by kernel_rfl), hf]
  simp [Op.eqFields, n0, n1, n2, n3, t0, t1, t2, t3, o0, o1, o2, o3, p0, p1, p2, p3, run_equalIn_string w 9998 9 _ _ Try.underlying9, run_equalIn_int w 9998 3 .i64 .i64 _ _ Try.underlying3]
/-- The cells of the sides. -/
abbrev scells (s : Nat → Int) : Array Value := #[.int .i64 (s 0), .int .i64 (s 1), .int .i64 (s 2), .int .i64 (s 3), .int .i64 (s 4), .int .i64 (s 5), .int .i64 (s 6), .int .i64 (s 7)]
theorem part_s (s : Nat → Int) {i : Nat} (hi : i < 8) (w : World) : (part 3 (scells s) (i * 1)).run Try.prog w = .ok (.int .i64 (s i)) w := by
  match i, hi with
  | 0, _ => show _ = _; kernel_rfl
  | 1, _ => show _ = _; kernel_rfl
  | 2, _ => show _ = _; kernel_rfl
  | 3, _ => show _ = _; kernel_rfl
  | 4, _ => show _ = _; kernel_rfl
  | 5, _ => show _ = _; kernel_rfl
  | 6, _ => show _ = _; kernel_rfl
  | 7, _ => show _ = _; kernel_rfl
theorem eqItems_s (s : Nat → Int) (w : World) : ∀ (is : List Nat), (∀ i ∈ is, i < 8) → (Op.eqItems 9999 3 1 (scells s) (scells s) is).run Try.prog w = .ok true w
  | [], _ => rfl
  | i :: is, h => by
    have hi := h i (by simp)
    have ih := eqItems_s s w is (fun j hj => h j (by simp [hj]))
    simp only [Op.eqItems, Sem.run_bind, part_s s hi, Result.andThen_ok, run_equalIn_int w 9998 3 .i64 .i64 _ _ Try.underlying3]
    simp [ih]
theorem cellsInt : Try.prog.cellsOf 3 = 1 := by kernel_rfl
theorem equal_s (s : Nat → Int) (w : World) : (Op.equalIn 10000 23 (.agg (scells s)) (.agg (scells s))).run Try.prog w = .ok true w := by
  obtain ⟨i, hi, -⟩ := info_parts infoInt
  rw [run_equalIn_array w 9999 _ _ Try.underlying23 hi, cellsInt, eqItems_s s w _ (fun i hi => by simpa using hi)]

def SmRel (W : World) (n : Nat) (i : Value) (wr : World) : Prop := ∃ k m : Nat, k ≤ n ∧ i = .int .i64 k ∧ wr = W.drewN m
theorem boxes2N (v v' : Value) (nx : Int) (s : Nat → Int) (w : World) : ∃ W, W = (w.alloc (.cells (ncells v nx s) 25)).alloc (.cells (ncells v' nx s) 25) ∧ Gr w W ∧ NB W w.heap.size v nx s ∧ NB W (w.heap.size + 1) v' nx s ∧ W.heap.size = w.heap.size + 1 + 1 := by
  have h1 := NB.new (w.alloc (.cells (ncells v nx s) 25)) v' nx s
  rw [show (w.alloc (.cells (ncells v nx s) 25)).heap.size = w.heap.size + 1 by simp] at h1
  exact ⟨_, rfl, (gr_box w _).alloc _, (NB.new w v nx s).gr (gr_box _ _), h1, by simp⟩
set_option maxRecDepth 100000 in
set_option maxHeartbeats 4000000 in
theorem same_yes (va vb : Value) (L : List P) (nx : Int) (s : Nat → Int) (w : World) (ha : PV w va L) (hb : PV w vb L) :
    Calls Try.prog 12 #[.agg (ncells va nx s), .agg (ncells vb nx s)] w fun e w' => e = .returned (.bool true) ∧ Gr w w' := by
  obtain ⟨A, ca, rfl, la1, ⟨la2, _⟩, la3⟩ := ha
  obtain ⟨B, cb, rfl, lb1, ⟨lb2, _⟩, lb3⟩ := hb
  unfold maxLen at la2 lb2
  obtain ⟨n, hn⟩ : ∃ n, n = L.length := ⟨_, rfl⟩
  rw [← hn] at la1 lb1 ⊢
  have HN := Lib.hid hn
  have HA := Lib.hid la3
  have HB := Lib.hid lb3
  obtain ⟨W, hW, hG, hNA, hNB, hz⟩ := boxes2N (.slice A n ca) (.slice B n cb) nx s w
  have HG := Lib.hid hG
  have HNA := Lib.hid hNA
  have HNB := Lib.hid hNB
  have hes := fun w => equal_s s w
  obtain ⟨a0, a1, a2, a3, a4, a5, a6, a7, a8, a9⟩ := hNA
  obtain ⟨b0, b1, b2, b3, b4, b5, b6, b7, b8, b9⟩ := hNB
  clear hn la3 lb3 hG hz
  go_enter Try.func12, Try.ntmps12
  go_upto_region 1 with (fail)
  rw [← hW]
  clear hW
  go_wp2_with fail
  clear a1 a2 a3 a4 a5 a6 a7 a8 a9 b1 b2 b3 b4 b5 b6 b7 b8 b9 hes
  go_loopw [5] (fun i wr => SmRel W n i wr) (fun i _ => n - (intOf i).toNat)
  case atStart => exact ⟨0, 0, Nat.zero_le _, rfl, rfl⟩
  case round =>
    obtain ⟨k, m, hk, rfl, rfl⟩ := hrel
    by_cases hlt : k < n
    · have hkL : k < L.length := by rw [← HN.out]; exact hlt
      obtain ⟨ab, ao, rfl, q0, q1, q2, q3⟩ := HA.out k hkL
      obtain ⟨bb, bo, rfl, r0, r1, r2, r3⟩ := HB.out k hkL
      obtain ⟨p, hp⟩ : ∃ p, p = L[k] := ⟨_, rfl⟩
      rw [← hp] at q0 q1 q2 q3 r0 r1 r2 r3
      replace q0 := HG.out.cell q0
      replace q1 := HG.out.cell q1
      replace q2 := HG.out.cell q2
      replace q3 := HG.out.cell q3
      replace r0 := HG.out.cell r0
      replace r1 := HG.out.cell r1
      replace r2 := HG.out.cell r2
      replace r3 := HG.out.cell r3
      have he := fun w => equal_p p w
      have hk0 : (0 : Int) ≤ (k : Int) := Int.natCast_nonneg _
      have hk1 : (k : Int) < (n : Int) := by omega
      clear hp hkL
      go_wp2_with fail
      go_quiet (fail)
      go_wp2
      go_roundw
      case rel => exact ⟨k + 1, _, by omega, by go_num, rfl⟩
      case measure => simp [intOf]; omega
    · go_wp2_with fail
      go_ret
      exact ⟨rfl, HG.out.drewN _⟩
end Go.Proofs.Ytfmfeokjnkbpeaa.Wi
