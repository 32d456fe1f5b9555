/- Walks over the document's own answers for layer 2: decimal, Text. -/
import Derived.Test.YtnamjgbppgdgeaaDoorVecT
import Derived.Deep.Cut
namespace Go.Proofs.YtnamjgbppgdgeaaDoor
open Go.RowKit Go.Joins

theorem run_conv1 (w : World) (a : Int) (cap : Nat) :
    (convert 40 9 (.slice (some ⟨w.heap.size, 0, none⟩) 1 cap)).run Tryd.prog (w.alloc (.cells #[.int .u8 a] 5)) =
      .ok (.string (strOfNums [a])) (w.alloc (.cells #[.int .u8 a] 5)) := by
  refine run_convert_bytes_arg _ 40 5 Tryd.underlying40 Tryd.underlying5 _ _ _ _ [a] rfl ?_ _ Tryd.underlying9
  intro i hi
  rw [Nat.zero_add, World.cell?_alloc_mark]
  match i, hi with
  | 0, _ => rfl
theorem arr_append (a b : List UInt8) : (⟨a.toArray⟩ : ByteArray) ++ ⟨b.toArray⟩ = ⟨(a ++ b).toArray⟩ := by
  show ByteArray.append _ _ = _
  apply ByteArray.ext
  simp
theorem dec_big {n : Nat} (h : ¬ n < 10) : Lib.decDigits n = Lib.decDigits (n / 10) ++ Lib.decDigits (n % 10) := by
  rw [Lib.decDigits, dif_neg h, Lib.decDigits_one (by omega : n % 10 < 10)]

set_option maxRecDepth 100000 in
theorem decimal_any (n : Nat) : n < 18446744073709551616 → ∀ (w : World),
    Calls Tryd.prog 30 #[.int .u64 (n : Int)] w fun e w' => e = .returned (.string ⟨(Lib.decDigits n).toArray⟩) ∧ Gr w w' := by
  induction n using Nat.strongRecOn with
  | ind n ih =>
    intro hn w
    by_cases h : n < 10
    · have hcv := run_conv1 w
      have HD := Lib.hid (show strOfNums [48 + (n : Int)] = ⟨(Lib.decDigits n).toArray⟩ from by
        rw [Lib.decDigits_one h]
        unfold strOfNums
        have e : (48 + (n : Int)).toNat = 48 + n := by omega
        simp [e])
      clear ih
      go_enter Tryd.func30, Tryd.ntmps30
      go_wp2_with fail
      go_ret
      exact ⟨by rw [← HD.out]; rfl, (Gr.refl _).alloc _⟩
    · have e0 : ¬ ((n : Int) < 10) := by omega
      have H1 := Lib.hid (fun w => ih (n / 10) (by omega) (by omega) w)
      have H2 := Lib.hid (fun w => ih (n % 10) (by omega) (by omega) w)
      have HD := Lib.hid (dec_big h)
      have l1 := digits_len (n / 10) (by omega)
      have l2 := digits_len (n % 10) (by omega)
      have z1 := size_arr (Lib.decDigits (n / 10))
      have z2 := size_arr (Lib.decDigits (n % 10))
      have hsum : ¬ 9223372036854775807 < (Lib.decDigits (n / 10)).length + (Lib.decDigits (n % 10)).length := by omega
      clear ih l1 l2
      go_enter Tryd.func30, Tryd.ntmps30
      go_wp2_with fail
      refine (H1.out _).mono ?_
      rintro e w1 ⟨rfl, hg1⟩
      go_wp2_with fail
      refine (H2.out _).mono ?_
      rintro e w2 ⟨rfl, hg2⟩
      have HG := Lib.hid (hg1.trans hg2)
      clear hg1 hg2
      go_wp2_with fail
      go_ret
      exact ⟨by rw [HD.out, ← arr_append]; rfl, HG.out⟩

/-- The text of the document's answer, up to the k-th number, is the same. -/
def RTextRel (a : Nat → Nat) (w : World) (sv i : Value) (wr : World) : Prop :=
  ∃ k : Nat, 1 ≤ k ∧ k ≤ 8 ∧ i = .int .i64 k ∧ sv = .string ⟨(textTo a k).toArray⟩ ∧ wr.heap[w.heap.size]? = some (.cells (vcells a) 24 (0, 0)) ∧ Gr w wr
theorem textTo_dot (a : Nat → Nat) {k : Nat} (hk : 1 ≤ k) : (⟨(textTo a k).toArray⟩ : ByteArray) ++ (⟨#[46]⟩ ++ ⟨(Lib.decDigits (a k)).toArray⟩) = ⟨(textTo a (k + 1)).toArray⟩ := by
  rw [show (⟨#[46]⟩ : ByteArray) = ⟨([46] : List UInt8).toArray⟩ from rfl, arr_append, arr_append, textTo_snoc a (by omega)]
  simp

set_option maxRecDepth 100000 in
theorem rtext_any (a : Nat → Nat) (ha : VOk a) (w : World) :
    Calls Tryd.prog 22 #[.agg (vcells a)] w fun e w' => e = .returned (.string ⟨(textTo a 8).toArray⟩) ∧ Gr w w' := by
  obtain ⟨W, hW, hg, hA⟩ := box1 a w
  have hc0 : W.cell? ⟨w.heap.size, 0, none⟩ = some (.int .u64 (a 0 : Int)) := by rw [cell_of_block hA, vcells_at _ (by decide)]
  have HA := Lib.hid hA
  have HV := Lib.hid ha
  have HG := Lib.hid hg
  have H0 := Lib.hid (fun w => decimal_any (a 0) (ha 0 (by decide)) w)
  clear ha hA hg
  go_enter Tryd.func22, Tryd.ntmps22
  go_upto_region 1 with (fail)
  rw [← hW]
  clear hW
  go_wp2_with fail
  refine (H0.out _).mono ?_
  rintro e w1 ⟨rfl, hg1⟩
  have HA1 := Lib.hid (show w1.heap[w.heap.size]? = some (.cells (vcells a) 24 (0, 0)) from by rw [hg1.block _ (Array.getElem?_eq_some_iff.1 HA.out).1]; exact HA.out)
  have HG1 := Lib.hid (HG.out.trans hg1)
  clear hg1 hc0 HA HG
  go_wp2_with fail
  go_loopw [3, 4] (fun sv i wr => RTextRel a w sv i wr) (fun _ i _ => 8 - (intOf i).toNat)
  case atStart => exact ⟨1, by decide, by decide, rfl, (by rw [textTo_snoc0]), HA1.out, HG1.out⟩
  case round =>
    clear HG1 HA1
    obtain ⟨k, hk1, hk, rfl, rfl, hA, hg⟩ := hrel
    have HG := Lib.hid hg
    clear hg
    by_cases hlt : k < 8
    · have hk0 : (0 : Int) ≤ (k : Int) := Int.natCast_nonneg _
      have hk8 : (k : Int) < 8 := by omega
      have hca : wr.cell? ⟨w.heap.size, k, none⟩ = some (.int .u64 (a k : Int)) := by rw [cell_of_block hA, vcells_at _ hlt]
      have HA := Lib.hid hA
      have hL := textTo_len a HV.out k hk
      have hD := digits_len (a k) (HV.out k hlt)
      have hsum : ¬ 9223372036854775807 < 1 + (Lib.decDigits (a k)).length := by omega
      have hsum2 : ¬ 9223372036854775807 < (textTo a k).length + (1 + (Lib.decDigits (a k)).length) := by omega
      have z1 := size_arr (Lib.decDigits (a k))
      have z2 := size_arr (textTo a k)
      have HT := Lib.hid (textTo_dot a hk1)
      have HD := Lib.hid (fun w => decimal_any (a k) (HV.out k hlt) w)
      clear hA hL hD
      go_wp2_with fail
      refine (HD.out _).mono ?_
      rintro e w2 ⟨rfl, hg2⟩
      have HA2 := Lib.hid (show w2.heap[w.heap.size]? = some (.cells (vcells a) 24 (0, 0)) from by rw [hg2.block _ (Array.getElem?_eq_some_iff.1 HA.out).1]; exact HA.out)
      have HG2 := Lib.hid (HG.out.trans hg2)
      clear hg2 hca
      go_wp2_with fail
      go_roundw
      case rel => exact ⟨k + 1, by omega, by omega, by go_num, by rw [← HT.out], HA2.out, HG2.out⟩
      case measure => simp [intOf]; omega
    · obtain rfl : k = 8 := by omega
      go_wp2_with fail
      go_ret
      exact ⟨rfl, HG.out⟩
end Go.Proofs.YtnamjgbppgdgeaaDoor
