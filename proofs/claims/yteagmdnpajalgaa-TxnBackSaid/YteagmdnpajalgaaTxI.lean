/- Walks: a transaction's fields: oneByte, numsOf, fieldsOf. -/
import Derived.Test.YteagmdnpajalgaaTxG
import Derived.Test.YteagmdnpajalgaaCodeB
import Derived.Test.YteagmdnpajalgaaLibB
import Derived.Test.YteagmdnpajalgaaPush
import Derived.Test.YteagmdnpajalgaaQTail
import Derived.Laws.OwnMore
namespace Go.Proofs.Yteagmdnpajalgaa
open Go.RowKit

def one8 (z : Nat) : ByteArray := bs [UInt8.ofNat z]
def nums8 (a : Nat → Nat) : Nat → List UInt8
  | 0 => []
  | k + 1 => nums8 a k ++ be8 (a k)
theorem nums8_len (a : Nat → Nat) (k : Nat) : (nums8 a k).length = 8 * k := by
  induction k with
  | zero => rfl
  | succ k ih =>
    unfold nums8
    rw [List.length_append, ih]
    rfl
/-- The fields of an operation. -/
def opF (o : TO) : List ByteArray := [one8 o.kind.toNat, o.key, o.elem, bs (be8 o.n.toNat)]
def headF (t : TX) : List ByteArray := [one8 t.origin.toNat, bs (be8 t.seq), bs (be8 t.stamp), bs (nums8 t.deps 8)]
/-- The fields of a transaction. -/
def fieldsT (t : TX) : List ByteArray := headF t ++ t.ops.flatMap opF
theorem opsF_len (l : List TO) : (l.flatMap opF).length = 4 * l.length := by
  induction l with
  | nil => rfl
  | cons o r ih => rw [List.flatMap_cons, List.length_append, ih, List.length_cons]; show 4 + _ = _; omega
theorem opsF_take (l : List TO) (k : Nat) (h : k < l.length) : (l.take (k + 1)).flatMap opF = (l.take k).flatMap opF ++ opF l[k] := by
  rw [List.take_succ_eq_append_getElem h, List.flatMap_append, List.flatMap_cons, List.flatMap_nil, List.append_nil]

theorem conv1t (w : World) (a : Int) :
    (convert 57 9 (.slice (some ⟨w.heap.size, 0, none⟩) 1 1)).run Try.prog (w.alloc (.cells #[.int .u8 a] 5)) =
      .ok (.string (strOfNums [a])) (w.alloc (.cells #[.int .u8 a] 5)) := by
  refine run_convert_bytes_arg _ 57 5 Try.underlying57 Try.underlying5 _ _ _ _ [a] rfl ?_ _ Try.underlying9
  intro i hi
  rw [Nat.zero_add, World.cell?_alloc_mark]
  match i, hi with
  | 0, _ => rfl
set_option maxRecDepth 100000 in
theorem oneByte_any (z : Nat) (hz : z < 256) (w : World) :
    Calls Try.prog 33 #[.int .i64 (z : Int)] w fun e w' => e = .returned (.string (one8 z)) ∧ Gr w w' := by
  have hcv := conv1t w
  have hw : IntKind.u8.wrap (z : Int) = (z : Int) := by rw [IntKind.wrap_u8]; omega
  have HF := Lib.hid (show strOfNums [(z : Int)] = one8 z from rfl)
  go_enter Try.func33, Try.ntmps33
  go_wp2_with fail
  go_ret
  exact ⟨by rw [← HF.out]; rfl, (Gr.refl _).alloc _⟩
theorem tindex_v (a : Nat → Nat) {k : Nat} (hk : k < 8) (w : World) : (Instr.index 33 (.agg (vcells a)) (.int .i64 (k : Int))).run Try.prog w = .ok (.int .u64 (a k : Int)) w := by
  match k, hk with
  | 0, _ => show _ = _; kernel_rfl
  | 1, _ => show _ = _; kernel_rfl
  | 2, _ => show _ = _; kernel_rfl
  | 3, _ => show _ = _; kernel_rfl
  | 4, _ => show _ = _; kernel_rfl
  | 5, _ => show _ = _; kernel_rfl
  | 6, _ => show _ = _; kernel_rfl
  | 7, _ => show _ = _; kernel_rfl
theorem tbuild_gr {T e : TypeId} {B b : Nat} {l : List Value} {w w' : World} (h : Lib.IsBuilder T e B b l w) (g : Gr w w') : Lib.IsBuilder T e B b l w' := by
  rcases h with ⟨h1, v, h2, h3, h4⟩ | ⟨h1, v, h2, h3, h4⟩
  · exact Or.inl ⟨h1, v, by rw [g.block b (Array.getElem?_eq_some_iff.1 h2).1]; exact h2, own_gr h3 g, h4⟩
  · exact Or.inr ⟨h1, v, by rw [g.block b (Array.getElem?_eq_some_iff.1 h2).1]; exact h2, own_gr h3 g, h4⟩
theorem tbuild_lt {T e : TypeId} {B b : Nat} {l : List Value} {w : World} (h : Lib.IsBuilder T e B b l w) : b < w.heap.size := by
  rcases h with h | h <;> exact h.lt
theorem tgr_step {w a b : World} (h : Gr w a) (g : Below (w.heap.size + 1) a b) : Gr w b := Below.trans h ⟨g.os, g.tape, g.output, g.size, fun i hi => g.block i (Nat.lt_succ_of_lt hi)⟩
def NumsRel (a : Nat → Nat) (w : World) (i : Value) (wr : World) : Prop :=
  ∃ k : Nat, k ≤ 8 ∧ i = .int .i64 k ∧ Lib.IsBuilder 59 5 (w.heap.size + 1) (w.heap.size + 1) (Lib.byteCells (nums8 a k)) wr ∧ Gr w wr
theorem tstr_arr (l : List UInt8) : Lib.strCells (bs l) = Lib.byteCells l := rfl
set_option maxRecDepth 100000 in
set_option maxHeartbeats 1000000 in
theorem numsOf_any (a : Nat → Nat) (ha : ∀ k, k < 8 → a k < 18446744073709551616) (w : World) :
    Calls Try.prog 35 #[.agg (vcells a)] w fun e w' => e = .returned (.string (bs (nums8 a 8))) ∧ Gr w w' := by
  have HA := Lib.hid ha
  clear ha
  obtain ⟨W, hW, hB, hg⟩ : ∃ W, W = (w.alloc (.cells (vcells a) 33)).alloc (.cells #[.pointer none, .slice none 0 0] 59) ∧ Lib.IsBuilder 59 5 (w.heap.size + 1) (w.heap.size + 1) [] W ∧ Gr w W := by
    refine ⟨_, rfl, ?_, (Gr.refl w |>.alloc _ |>.alloc _)⟩
    have := Lib.fresh_isBuilder 59 5 (w.alloc (.cells (vcells a) 33))
    have hz : (w.alloc (.cells (vcells a) 33)).heap.size = w.heap.size + 1 := by simp
    rw [hz] at this
    exact this
  have hsz : w.heap.size + 2 ≤ W.heap.size := by rw [hW]; simp
  have HSZ := Lib.hid hsz
  have q0 : W.cell? ⟨w.heap.size, 0, none⟩ = some (.int .u64 (a 0 : Int)) ∧ W.cell? ⟨w.heap.size, 1, none⟩ = some (.int .u64 (a 1 : Int)) ∧ W.cell? ⟨w.heap.size, 2, none⟩ = some (.int .u64 (a 2 : Int)) ∧ W.cell? ⟨w.heap.size, 3, none⟩ = some (.int .u64 (a 3 : Int)) ∧
      W.cell? ⟨w.heap.size, 4, none⟩ = some (.int .u64 (a 4 : Int)) ∧ W.cell? ⟨w.heap.size, 5, none⟩ = some (.int .u64 (a 5 : Int)) ∧ W.cell? ⟨w.heap.size, 6, none⟩ = some (.int .u64 (a 6 : Int)) ∧ W.cell? ⟨w.heap.size, 7, none⟩ = some (.int .u64 (a 7 : Int)) := by
    rw [hW]
    refine ⟨?_, ?_, ?_, ?_, ?_, ?_, ?_, ?_⟩ <;> (rw [World.cell?_alloc_past _ _ _ (by simp), World.cell?_alloc_at _ _ _ _ rfl]; rfl)
  obtain ⟨q0, q1, q2, q3, q4, q5, q6, q7⟩ := q0
  clear hsz
  go_enter Try.func35, Try.ntmps35
  go_upto_region 2 with (fail)
  rw [← hW]
  clear hW
  go_wp2_with fail
  clear q0 q1 q2 q3 q4 q5 q6 q7
  go_loopw [7] (fun i wr => NumsRel a w i wr) (fun i _ => 8 - (intOf i).toNat)
  case atStart => exact ⟨0, by decide, rfl, hB, hg⟩
  case round =>
    clear hB hg
    obtain ⟨k, hk, rfl, hB, hg⟩ := hrel
    by_cases hlt : k < 8
    · have hix := fun w => tindex_v a hlt w
      have hak := HA.out k hlt
      have hl := nums8_len a k
      have HN := Lib.hid (fun w => num_any (a k) hak w)
      have HS := Lib.hid (show nums8 a (k + 1) = nums8 a k ++ be8 (a k) from rfl)
      have HL := Lib.hid hl
      have HB := Lib.hid hB
      have HG := Lib.hid hg
      have HZ := Lib.hid (show w.heap.size + 1 ≤ wr.heap.size from by have := tbuild_lt hB; omega)
      clear hB hg hak hl
      go_wp2_with fail
      refine (HN.out _).mono ?_
      rintro e w1 ⟨rfl, hg1⟩
      have HB1 := Lib.hid (tbuild_gr HB.out hg1)
      have HG1 := Lib.hid (HG.out.trans hg1)
      have HZ1 := Lib.hid (Nat.le_trans HZ.out hg1.size)
      clear hg1
      go_wp2_with fail
      refine (builder_write (w.heap.size + 1) (w.heap.size + 1) (Lib.byteCells (nums8 a k)) (bs (be8 (a k))) w1 HB1.out (by rw [be8_size, Lib.byteCells_length, HL.out]; omega) HZ1.out).mono ?_
      rintro e w2 ⟨rfl, hb2, hg2⟩
      rw [tstr_arr, ← Lib.byteCells_append, ← HS.out] at hb2
      have HB2 := Lib.hid hb2
      have HG2 := Lib.hid (tgr_step HG1.out hg2)
      clear hb2 hg2
      go_wp2_with fail
      go_roundw
      case rel => exact ⟨k + 1, by omega, by go_num, Or.inr HB2.out, HG2.out⟩
      case measure => simp [intOf]; omega
    · obtain rfl : k = 8 := by omega
      have HB := Lib.hid hB
      have HG := Lib.hid hg
      have HZ := Lib.hid (show w.heap.size + 1 ≤ wr.heap.size from by have := tbuild_lt hB; omega)
      clear hB hg
      go_wp2_with fail
      refine (builder_string (w.heap.size + 1) (w.heap.size + 1) (nums8 a 8) wr HB.out HZ.out).mono ?_
      rintro e w2 ⟨rfl, hg2⟩
      have HG2 := Lib.hid (tgr_step HG.out hg2)
      clear hg2
      go_wp2_with fail
      go_ret
      exact ⟨rfl, HG2.out⟩
theorem so_four (w : World) (a b c d : ByteArray) {B : Nat} (hB : B ≤ w.heap.size) : SO (w.alloc (.cells #[.string a, .string b, .string c, .string d] 9)) B (.slice (some ⟨w.heap.size, 0, none⟩) 4 4) [a, b, c, d] :=
  World.ownsRow_lit w #[.string a, .string b, .string c, .string d] 4 hB (by decide) rfl
theorem SO.sv4 (w : World) (a b c d : ByteArray) (x : Nat) (hx : x = w.heap.size) : SV (w.alloc (.cells #[.string a, .string b, .string c, .string d] 9)) (.slice (some ⟨x, 0, none⟩) 4 4) [a, b, c, d] := by
  subst hx
  exact (so_four w a b c d (Nat.le_refl _)).sv
def FieldsRel (t : TX) (w : World) (v i : Value) (wr : World) : Prop := ∃ k : Nat, k ≤ t.ops.length ∧ i = .int .i64 k ∧ SO wr w.heap.size v (headF t ++ (t.ops.take k).flatMap opF) ∧ Gr w wr
theorem okOp_n {o : TO} {m : Int} (h : okOp o m) : 0 ≤ o.n ∧ o.n ≤ 1099511627776 := by
  rcases h.2.2 with ⟨_, h, _⟩ | ⟨_, h, _⟩ | ⟨_, h⟩ | ⟨_, h, _⟩
  · have := amtB_yes h; omega
  · have := amtB_yes h; omega
  · omega
  · omega
theorem okOp_kind {o : TO} {m : Int} (h : okOp o m) : 1 ≤ o.kind ∧ o.kind ≤ 8 := by
  rcases h.2.2 with ⟨h, _⟩ | ⟨h, _⟩ | ⟨h, _⟩ | ⟨h, _⟩ <;> omega
set_option maxRecDepth 100000 in
set_option maxHeartbeats 4000000 in
theorem fieldsOf_any (t : TX) (v : Value) (hq : t.seq < 18446744073709551616) (hs : t.stamp < 18446744073709551616) (hd : ∀ k, k < 8 → t.deps k < 18446744073709551616) (hok : okTx t) (w : World) (hv : TOV w v t.ops) :
    Calls Try.prog 26 #[.agg (tcs t v)] w fun e w' => ∃ u, e = .returned u ∧ SO w' w.heap.size u (fieldsT t) ∧ Gr w w' := by
  obtain ⟨A, c, rfl, l1, ⟨l2, _⟩, l3⟩ := hv
  have l2' : c ≤ 9223372036854775807 := l2
  have HA := Lib.hid l3
  have HOK := Lib.hid hok
  obtain ⟨z, hz⟩ : ∃ z : Nat, t.origin = (z : Int) := ⟨t.origin.toNat, by have := hok.1.1; omega⟩
  have hz8 : z < 8 := by have := hok.1.2.1; omega
  have HO := Lib.hid (fun w => oneByte_any z (by omega) w)
  rw [← hz] at HO
  have HN1 := Lib.hid (fun w => num_any t.seq hq w)
  have HN2 := Lib.hid (fun w => num_any t.stamp hs w)
  have HN3 := Lib.hid (fun w => numsOf_any t.deps hd w)
  have HHF := Lib.hid (show headF t = [one8 z, bs (be8 t.seq), bs (be8 t.stamp), bs (nums8 t.deps 8)] by unfold headF; rw [hz]; rfl)
  have h8 := hok.2.2.1
  obtain ⟨n, hn⟩ : ∃ n, n = t.ops.length := ⟨_, rfl⟩
  rw [← hn] at l1 h8 ⊢
  have HN := Lib.hid hn
  obtain ⟨W, hW, hg, hx⟩ := xbox w t (.slice A n c)
  have HG := Lib.hid hg
  have HX := Lib.hid hx
  have HS : Hid (XFix W.drew w.heap.size 0 t (.slice A n c) ∧ Gr W W.drew) := Lib.hid ⟨hx.gr (Gr.refl _).drew, (Gr.refl _).drew⟩
  obtain ⟨F1, hF1⟩ : ∃ x, x = one8 z := ⟨_, rfl⟩
  obtain ⟨F2, hF2⟩ : ∃ x, x = bs (be8 t.seq) := ⟨_, rfl⟩
  obtain ⟨F3, hF3⟩ : ∃ x, x = bs (be8 t.stamp) := ⟨_, rfl⟩
  obtain ⟨F4, hF4⟩ : ∃ x, x = bs (nums8 t.deps 8) := ⟨_, rfl⟩
  rw [← hF1] at HO
  rw [← hF2] at HN1
  rw [← hF3] at HN2
  rw [← hF4] at HN3
  rw [← hF1, ← hF2, ← hF3, ← hF4] at HHF
  clear l3 hok hz hz8 hq hs hd hn hg hx hF1 hF2 hF3 hF4 l2
  go_enter Try.func26, Try.ntmps26
  go_upto_region 1 with (fail)
  rw [← hW]
  clear hW
  refine qTail 12 (fun w' => XFix w' w.heap.size 0 t (.slice A n c) ∧ Gr W w') (by kernel_rfl) (by kernel_rfl) HS.out ?_
  simp only [List.take_succ_cons, List.take_zero, List.drop_succ_cons, List.drop_zero]
  iterate 2
    refine qTake (by kernel_rfl) ?_
    apply Exists.intro
    refine ⟨fun wq hq => ?_, ?_⟩
    · go_light
      obtain ⟨⟨q0, q1, q2, q3, q4, q5, q6, q7, q8, q9, q10, q11⟩, -⟩ := hq
      go_simp
      try with_reducible rfl
      done
    try simp only [Act.put, List.setIfInBounds_toArray, List.set_cons_zero, List.set_cons_succ]
  refine qCall (by kernel_rfl) ?_
  apply Exists.intro
  refine ⟨?_, ?_⟩
  · apply Exists.intro
    apply Exists.intro
    refine ⟨fun wq => ?_, fun wq hq => ?_⟩
    · go_light
      go_simp
      exact ⟨rfl, rfl⟩
    · exact (HO.out wq).mono fun e w2 h => ⟨h.1, hq.1.gr h.2, hq.2.trans h.2⟩
  try simp only [Act.put, List.setIfInBounds_toArray, List.set_cons_zero, List.set_cons_succ]
  iterate 2
    refine qTake (by kernel_rfl) ?_
    apply Exists.intro
    refine ⟨fun wq hq => ?_, ?_⟩
    · go_light
      obtain ⟨⟨q0, q1, q2, q3, q4, q5, q6, q7, q8, q9, q10, q11⟩, -⟩ := hq
      go_simp
      try with_reducible rfl
      done
    try simp only [Act.put, List.setIfInBounds_toArray, List.set_cons_zero, List.set_cons_succ]
  refine qCall (by kernel_rfl) ?_
  apply Exists.intro
  refine ⟨?_, ?_⟩
  · apply Exists.intro
    apply Exists.intro
    refine ⟨fun wq => ?_, fun wq hq => ?_⟩
    · go_light
      go_simp
      exact ⟨rfl, rfl⟩
    · exact (HN1.out wq).mono fun e w2 h => ⟨h.1, hq.1.gr h.2, hq.2.trans h.2⟩
  try simp only [Act.put, List.setIfInBounds_toArray, List.set_cons_zero, List.set_cons_succ]
  iterate 2
    refine qTake (by kernel_rfl) ?_
    apply Exists.intro
    refine ⟨fun wq hq => ?_, ?_⟩
    · go_light
      obtain ⟨⟨q0, q1, q2, q3, q4, q5, q6, q7, q8, q9, q10, q11⟩, -⟩ := hq
      go_simp
      try with_reducible rfl
      done
    try simp only [Act.put, List.setIfInBounds_toArray, List.set_cons_zero, List.set_cons_succ]
  refine qCall (by kernel_rfl) ?_
  apply Exists.intro
  refine ⟨?_, ?_⟩
  · apply Exists.intro
    apply Exists.intro
    refine ⟨fun wq => ?_, fun wq hq => ?_⟩
    · go_light
      go_simp
      exact ⟨rfl, rfl⟩
    · exact (HN2.out wq).mono fun e w2 h => ⟨h.1, hq.1.gr h.2, hq.2.trans h.2⟩
  try simp only [Act.put, List.setIfInBounds_toArray, List.set_cons_zero, List.set_cons_succ]
  iterate 2
    refine qTake (by kernel_rfl) ?_
    apply Exists.intro
    refine ⟨fun wq hq => ?_, ?_⟩
    · go_light
      obtain ⟨⟨q0, q1, q2, q3, q4, q5, q6, q7, q8, q9, q10, q11⟩, -⟩ := hq
      go_simp
      try with_reducible rfl
      done
    try simp only [Act.put, List.setIfInBounds_toArray, List.set_cons_zero, List.set_cons_succ]
  refine qCall (by kernel_rfl) ?_
  apply Exists.intro
  refine ⟨?_, ?_⟩
  · apply Exists.intro
    apply Exists.intro
    refine ⟨fun wq => ?_, fun wq hq => ?_⟩
    · go_light
      go_simp
      exact ⟨rfl, rfl⟩
    · exact (HN3.out wq).mono fun e w2 h => ⟨h.1, hq.1.gr h.2, hq.2.trans h.2⟩
  try simp only [Act.put, List.setIfInBounds_toArray, List.set_cons_zero, List.set_cons_succ]
  refine qNil ?_
  intro w3 hC
  have HG3 := Lib.hid (HG.out.trans hC.2)
  have HSO := Lib.hid (so_four w3 F1 F2 F3 F4 HG3.out.size)
  have hx3 := (hC.1.gr (gr_box w3 (.cells #[.string F1, .string F2, .string F3, .string F4] 9))).2.2.2.2.2.2.2.2.2.2.2
  have HX3 := Lib.hid hC.1
  clear hC HS HO HN1 HN2 HN3
  go_wp2_with fail
  go_loopw [3, 22] (fun u i wr => FieldsRel t w u i wr) (fun _ i _ => n - (intOf i).toNat)
  case atStart => exact ⟨0, Nat.zero_le _, rfl, by rw [HHF.out]; exact HSO.out, HG3.out.trans (gr_box _ _)⟩
  case round =>
    clear hx3
    obtain ⟨k, hk, rfl, hown, hgr⟩ := hrel
    rw [← HN.out] at hk
    by_cases hlt : k < n
    · have hkA : k < t.ops.length := by rw [← HN.out]; exact hlt
      obtain ⟨b, off, rfl, ha⟩ := HA.out k hkA
      obtain ⟨o, ho⟩ : ∃ f, f = t.ops[k] := ⟨_, rfl⟩
      have hoo : okOp o t.origin := by rw [ho]; exact HOK.out.2.2.2 _ (List.getElem_mem hkA)
      have htk := opsF_take t.ops k hkA
      rw [← ho] at ha htk
      obtain ⟨kd, hkd⟩ : ∃ z : Nat, o.kind = (z : Int) := ⟨o.kind.toNat, by have := okOp_kind hoo; omega⟩
      have hkd8 : kd ≤ 8 := by have := okOp_kind hoo; omega
      obtain ⟨nn, hnn⟩ : ∃ z : Nat, o.n = (z : Int) := ⟨o.n.toNat, by have := okOp_n hoo; omega⟩
      have hnn40 : nn ≤ 1099511627776 := by have := okOp_n hoo; omega
      have hwr : IntKind.u64.wrap (o.n) = o.n := by rw [IntKind.wrap_u64, hnn]; omega
      have HO := Lib.hid (fun w => oneByte_any kd (by omega) w)
      have HM := Lib.hid (fun w => num_any nn (by omega) w)
      rw [← hkd] at HO
      rw [← hnn] at HM
      have hof : opF o = [one8 kd, o.key, o.elem, bs (be8 nn)] := by unfold opF; rw [hkd, hnn]; rfl
      obtain ⟨F5, hF5⟩ : ∃ x, x = one8 kd := ⟨_, rfl⟩
      obtain ⟨F6, hF6⟩ : ∃ x, x = bs (be8 nn) := ⟨_, rfl⟩
      rw [← hF5] at HO hof
      rw [← hF6] at HM hof
      have htk2 : headF t ++ (t.ops.take (k + 1)).flatMap opF = (headF t ++ (t.ops.take k).flatMap opF) ++ [F5, o.key, o.elem, F6] := by rw [htk, hof, List.append_assoc]
      obtain ⟨a0, a1, a2, a3⟩ := (ha.gr hgr)
      obtain ⟨W2, hW2, hg2, hx2⟩ := obox wr o
      have hlen : (headF t ++ (t.ops.take k).flatMap opF).length = 4 + 4 * k := by
        rw [List.length_append, opsF_len, List.length_take]
        have : (headF t).length = 4 := rfl
        omega
      have hown2 := hown.gr hg2
      obtain ⟨L, hL⟩ : ∃ x, x = headF t ++ (t.ops.take k).flatMap opF := ⟨_, rfl⟩
      rw [← hL] at hown2 hlen
      rw [← hL] at htk2
      have HT := Lib.hid htk2
      have HL := Lib.hid hlen
      have HG2 := Lib.hid (hgr.trans hg2)
      obtain ⟨A1, c1, rfl, -, -⟩ := own_form hown2
      have HOW := Lib.hid hown2
      rw [hlen] at HOW
      have HS : Hid (TCell W2.drew wr.heap.size 0 o ∧ Gr W2 W2.drew) := Lib.hid ⟨hx2.gr (Gr.refl _).drew, (Gr.refl _).drew⟩
      rw [hlen]
      clear ha ho hkA hgr hown hown2 hg2 hx2 hoo hkd hnn hkd8 hnn40 hof hF5 hF6 htk htk2 hlen hL
      go_upto_region 5 with (fail)
      rw [show (#[Value.int .i64 o.kind, .string o.key, .string o.elem, .int .i64 o.n] : Array Value) = tovs o from rfl, ← hW2]
      clear hW2 a0 a1 a2 a3
      refine qTail1 11 (fun w' => TCell w' wr.heap.size 0 o ∧ Gr W2 w') (.slice A1 (4 + 4 * k) c1) (by kernel_rfl) (by kernel_rfl) (fun _ _ _ h => h) (.inl ⟨by kernel_rfl, fun wq => by (go_light; go_simp)⟩) HS.out ?_
      simp only [List.take_succ_cons, List.take_zero, List.drop_succ_cons, List.drop_zero]
      try simp only [Act.put, List.setIfInBounds_toArray, List.set_cons_zero, List.set_cons_succ]
      iterate 2
        refine qTake (by kernel_rfl) ?_
        apply Exists.intro
        refine ⟨fun wq hq => ?_, ?_⟩
        · go_light
          obtain ⟨⟨q0, q1, q2, q3⟩, -⟩ := hq
          go_simp
          try with_reducible rfl
          done
        try simp only [Act.put, List.setIfInBounds_toArray, List.set_cons_zero, List.set_cons_succ]
      refine qCall (by kernel_rfl) ?_
      apply Exists.intro
      refine ⟨?_, ?_⟩
      · apply Exists.intro
        apply Exists.intro
        refine ⟨fun wq => ?_, fun wq hq => ?_⟩
        · go_light
          go_simp
          exact ⟨rfl, rfl⟩
        · exact (HO.out wq).mono fun e w2 h => ⟨h.1, hq.1.gr h.2, hq.2.trans h.2⟩
      try simp only [Act.put, List.setIfInBounds_toArray, List.set_cons_zero, List.set_cons_succ]
      iterate 7
        refine qTake (by kernel_rfl) ?_
        apply Exists.intro
        refine ⟨fun wq hq => ?_, ?_⟩
        · go_light
          obtain ⟨⟨q0, q1, q2, q3⟩, -⟩ := hq
          go_simp
          try with_reducible rfl
          done
        try simp only [Act.put, List.setIfInBounds_toArray, List.set_cons_zero, List.set_cons_succ]
      refine qCall (by kernel_rfl) ?_
      apply Exists.intro
      refine ⟨?_, ?_⟩
      · apply Exists.intro
        apply Exists.intro
        refine ⟨fun wq => ?_, fun wq hq => ?_⟩
        · go_light
          go_simp
          exact ⟨rfl, rfl⟩
        · exact (HM.out wq).mono fun e w2 h => ⟨h.1, hq.1.gr h.2, hq.2.trans h.2⟩
      try simp only [Act.put, List.setIfInBounds_toArray, List.set_cons_zero, List.set_cons_succ]
      refine qNil ?_
      intro w4 hC
      have HG4 := Lib.hid (HG2.out.trans hC.2)
      have HO4 := Lib.hid ((HOW.out.gr hC.2).gr (gr_box w4 (.cells #[.string F5, .string o.key, .string o.elem, .string F6] 9)))
      clear hC HS HO HM
      go_wp2_with (at_builtin; refine wpList_push_n (w0 := w) rfl (.tmp 26) (.tmp 38) rfl (.slice A1 (4 + 4 * k) c1) (.slice (some ⟨w4.heap.size, 0, none⟩) 4 4) L [F5, o.key, o.elem, F6] (4 + 4 * k) 4 HL.out.symm rfl rfl HO4.out rfl (SO.sv4 _ _ _ _ _ _ rfl) (by omega) (HG4.out.trans (gr_box _ _)) ?_)
      intro A5 c5 w5 hown5 g5
      have HO5 := Lib.hid hown5
      clear hown5
      go_wp2_with fail
      go_roundw
      case rel => exact ⟨k + 1, by rw [← HN.out]; omega, by go_num, by rw [HT.out]; exact HO5.out, g5⟩
      case measure => simp [intOf]; omega
    · have HF := Lib.hid (show headF t ++ (t.ops.take k).flatMap opF = fieldsT t by unfold fieldsT; rw [List.take_of_length_le (by rw [← HN.out]; omega)])
      go_wp2_with fail
      go_ret
      exact ⟨_, rfl, by rw [← HF.out]; exact hown, hgr⟩
end Go.Proofs.Yteagmdnpajalgaa
