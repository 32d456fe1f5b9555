/- The fixed fact of the laws of layer 16; the law VoteTells. -/
import Derived.Test.YtboonfbbnidmbaaVoB
import Derived.Test.YtboonfbbnidmbaaVoC
namespace Go.Proofs.Ytboonfbbnidmbaa
open Go.RowKit Vo
set_option linter.unusedSimpArgs false

def three : Nat → Bool
  | 0 => true
  | 1 => true
  | 2 => true
  | _ => false
theorem majority_02 (v : Value) (w : World) (hv : NV w v [0, 2]) :
    Calls Try.prog 17 #[.agg #[.bool true, .bool true, .bool true, .bool false, .bool false, .bool false, .bool false, .bool false], v] w fun e w' => e = .returned (.bool true) ∧ Gr w w' := by
  have h := majority_any three v [0, 2] w hv
  rw [show majB three (among [0, 2]) = true by decide +kernel] at h
  exact h
theorem majority_00 (v : Value) (w : World) (hv : NV w v [0, 0]) :
    Calls Try.prog 17 #[.agg #[.bool true, .bool true, .bool true, .bool false, .bool false, .bool false, .bool false, .bool false], v] w fun e w' => e = .returned (.bool false) ∧ Gr w w' := by
  have h := majority_any three v [0, 0] w hv
  rw [show majB three (among [0, 0]) = false by decide +kernel] at h
  exact h
theorem ballot_13 (w : World) : Calls Try.prog 9 #[.int .u64 1, .int .i64 3] w fun e w' => e = .returned (.tuple #[.int .u64 11, .int .i64 0]) ∧ Gr w w' := ballot_yes 1 3 (by decide) (by decide) (by decide) w
theorem nv_two (a b : Int) (w : World) : NV (w.alloc (.cells #[.int .i64 a, .int .i64 b] 3)) (.slice (some ⟨w.heap.size, 0, none⟩) 2 2) [a, b] :=
  sl_new w #[.int .i64 a, .int .i64 b] 3 2 1 rfl (by decide)
set_option maxRecDepth 100000 in
theorem awake16_any (w : World) : Calls Try.prog 8 #[] w fun e w' => e = .returned (.bool true) ∧ Gr w w' := by
  go_enter Try.func8, Try.ntmps8
  go_wp2_with fail
  refine (ballot_13 _).mono ?_
  rintro e w1 ⟨rfl, g1⟩
  go_wp2_with fail
  refine (majority_02 _ _ (nv_two 0 2 w1)).mono ?_
  rintro e w2 ⟨rfl, g2⟩
  go_wp2_with fail
  refine (majority_00 _ _ (nv_two 0 0 w2)).mono ?_
  rintro e w3 ⟨rfl, g3⟩
  go_wp2_with fail
  go_ret
  exact ⟨rfl, ((g1.alloc _).trans g2).trans (((Gr.refl _).alloc _).trans g3)⟩
theorem fieldsAcc : ∃ f0 f1 f2 : Field, Try.prog.fieldsOf 24 = #[f0, f1, f2] ∧ (f0.name ≠ "_" ∧ f1.name ≠ "_" ∧ f2.name ≠ "_") ∧ (f0.type = 22 ∧ f1.type = 22 ∧ f2.type = 9) ∧ f0.offset = 0 ∧ f1.offset = 1 ∧ f2.offset = 2 := by
  refine ⟨(Try.prog.fieldsOf 24)[0]'(by decide +kernel), (Try.prog.fieldsOf 24)[1]'(by decide +kernel), (Try.prog.fieldsOf 24)[2]'(by decide +kernel), by kernel_rfl, ⟨by decide +kernel, by decide +kernel, by decide +kernel⟩, ⟨by kernel_rfl, by kernel_rfl, by kernel_rfl⟩, by kernel_rfl, by kernel_rfl, by kernel_rfl⟩
theorem part_acc (p a : Nat) (s : ByteArray) (w : World) : (part 22 (accs p a s) 0).run Try.prog w = .ok (.int .u64 (p : Int)) w ∧ (part 22 (accs p a s) 1).run Try.prog w = .ok (.int .u64 (a : Int)) w ∧ (part 9 (accs p a s) 2).run Try.prog w = .ok (.string s) w := by
  refine ⟨?_, ?_, ?_⟩ <;> (show _ = _; kernel_rfl)
theorem equal_acc (p a : Nat) (s : ByteArray) (w : World) : (Op.equalIn 10000 24 (acv p a s) (acv p a s)).run Try.prog w = .ok true w := by
  obtain ⟨f0, f1, f2, hf, ⟨n0, n1, n2⟩, ⟨t0, t1, t2⟩, o0, o1, o2⟩ := fieldsAcc
  obtain ⟨p0, p1, p2⟩ := part_acc p a s w
  rw [run_equalIn_struct w 9999 _ _ _ (by kernel_rfl) (by kernel_rfl), hf]
  simp only [Op.eqFields, n0, n1, n2, t0, t1, t2, o0, o1, o2, if_true, ne_eq, not_false_eq_true, Sem.run_bind, p0, p1, p2, Result.andThen_ok, run_equalIn_string w 9998 9 _ _ Try.underlying9, run_equalIn_int w 9998 22 _ _ _ _ Try.underlying22, Sem.run_ite, Sem.run_pure]
  simp
/-- What Ballot answers. -/
def balN (r : Nat) (m : Int) : Nat := if 0 ≤ m ∧ m < 8 ∧ 1 ≤ r ∧ r ≤ 1152921504606846976 then 8 * r + m.toNat else 0
def balE (r : Nat) (m : Int) : Int := if 0 ≤ m ∧ m < 8 ∧ 1 ≤ r ∧ r ≤ 1152921504606846976 then 0 else 1
theorem bal_cases (r : Nat) (m : Int) : (∃ k : Nat, m = (k : Int) ∧ k < 8 ∧ 1 ≤ r ∧ r ≤ 1152921504606846976 ∧ balN r m = 8 * r + k ∧ balE r m = 0) ∨ ((m < 0 ∨ 8 ≤ m ∨ r < 1 ∨ 1152921504606846976 < r) ∧ balN r m = 0 ∧ balE r m = 1) := by
  unfold balN balE
  by_cases h : 0 ≤ m ∧ m < 8 ∧ 1 ≤ r ∧ r ≤ 1152921504606846976
  · rw [if_pos h, if_pos h]
    exact .inl ⟨m.toNat, by omega, by omega, h.2.2.1, h.2.2.2, rfl, rfl⟩
  · rw [if_neg h, if_neg h]
    exact .inr ⟨by omega, rfl, rfl⟩
theorem ballot_any (r : Nat) (m : Int) (w : World) : Calls Try.prog 9 #[.int .u64 (r : Int), .int .i64 m] w fun e w' => e = .returned (.tuple #[.int .u64 (balN r m : Int), .int .i64 (balE r m)]) ∧ Gr w w' := by
  rcases bal_cases r m with ⟨k, rfl, hk, h1, h2, e1, e2⟩ | ⟨h, e1, e2⟩
  · rw [e1, e2]; exact ballot_yes r k h1 h2 hk w
  · rw [e1, e2]; exact ballot_no r m h w
theorem rballot_any (r : Nat) (m : Int) (w : World) : Calls Try.prog 10 #[.int .u64 (r : Int), .int .i64 m] w fun e w' => e = .returned (.tuple #[.int .u64 (balN r m : Int), .int .i64 (balE r m)]) ∧ Gr w w' := by
  rcases bal_cases r m with ⟨k, rfl, hk, h1, h2, e1, e2⟩ | ⟨h, e1, e2⟩
  · rw [e1, e2]; exact rballot_yes r k h1 h2 hk w
  · rw [e1, e2]; exact rballot_no r m h w
/-- What Prepare and Accept answer. -/
def prN (p n : Nat) : Nat := if p < n then n else p
def acB (p n : Nat) : Bool := decide (p ≤ n) && decide (n ≠ 0)
def acN (p n y : Nat) : Nat := if acB p n then n else y
def acS (p n : Nat) (s x : ByteArray) : ByteArray := if acB p n then x else s
theorem prepare_any (p a n : Nat) (s : ByteArray) (hs : s.size ≤ 281474976710656) (w : World) :
    Calls Try.prog 11 #[acv p a s, .int .u64 (n : Int)] w fun e w' => e = .returned (.tuple #[acv (prN p n) a s, .bool (decide (p < n))]) ∧ Gr w w' := by
  unfold prN
  by_cases h : p < n
  · rw [if_pos h, decide_eq_true h]; exact prepare_yes p a n s hs h w
  · rw [if_neg h, decide_eq_false h]; exact prepare_no p a n s hs h w
theorem rprepare_any (p a n : Nat) (s : ByteArray) (w : World) :
    Calls Try.prog 12 #[acv p a s, .int .u64 (n : Int)] w fun e w' => e = .returned (.tuple #[acv (prN p n) a s, .bool (decide (p < n))]) ∧ Gr w w' := by
  unfold prN
  by_cases h : p < n
  · rw [if_pos h, decide_eq_true h]; exact rprepare_yes p a n s h w
  · rw [if_neg h, decide_eq_false h]; exact rprepare_no p a n s h w
theorem accept_any (p a n : Nat) (s x : ByteArray) (hs : s.size ≤ 281474976710656) (hx : x.size ≤ 281474976710656) (w : World) :
    Calls Try.prog 13 #[acv p a s, .int .u64 (n : Int), .string x] w fun e w' => e = .returned (.tuple #[acv (acN p n p) (acN p n a) (acS p n s x), .bool (acB p n)]) ∧ Gr w w' := by
  unfold acN acS
  rcases h : acB p n with _ | _
  · rw [if_neg (by decide), if_neg (by decide), if_neg (by decide)]
    exact accept_no p a n s x hs (by unfold acB at h; simp at h; omega) w
  · rw [if_pos rfl, if_pos rfl, if_pos rfl]
    unfold acB at h
    simp only [Bool.and_eq_true, decide_eq_true_eq] at h
    exact accept_yes p a n s x hx h.1 h.2 w
theorem raccept_any (p a n : Nat) (s x : ByteArray) (w : World) :
    Calls Try.prog 14 #[acv p a s, .int .u64 (n : Int), .string x] w fun e w' => e = .returned (.tuple #[acv (acN p n p) (acN p n a) (acS p n s x), .bool (acB p n)]) ∧ Gr w w' := by
  unfold acN acS
  rcases h : acB p n with _ | _
  · rw [if_neg (by decide), if_neg (by decide), if_neg (by decide)]
    by_cases hp : n < p
    · exact raccept_below p a n s x hp w
    · exact raccept_zero p a n s x (by omega) (by unfold acB at h; simp at h; omega) w
  · rw [if_pos rfl, if_pos rfl, if_pos rfl]
    unfold acB at h
    simp only [Bool.and_eq_true, decide_eq_true_eq] at h
    exact raccept_yes p a n s x h.1 h.2 w
end Go.Proofs.Ytboonfbbnidmbaa
