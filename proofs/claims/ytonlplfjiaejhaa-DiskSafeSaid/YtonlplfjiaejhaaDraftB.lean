/- Walks: drafts as a disk. -/
import Derived.Test.YtonlplfjiaejhaaDraftA
import Derived.Laws.BytesArg
namespace Go.Proofs.Ytonlplfjiaejhaa
open Go.RowKit

/-- A slice of bytes as a string. -/
theorem conv_sl {w : World} {v : Value} {n : Nat} {s : ByteArray} (h : SL w 1 v n (Lib.strCells s)) : (convert 60 9 v).run Try.prog w = .ok (.string s) w := by
  obtain ⟨A, c, rfl, h1, h2, h3, h4⟩ := h
  rw [Lib.strCells_length, Nat.mul_one] at h3
  cases A with
  | none =>
    have hc := h2.2 rfl
    have hs : s = ByteArray.empty := by
      apply ByteArray.ext
      exact Array.eq_empty_of_size_eq_zero (show s.size = 0 by omega)
    rw [hs]
    exact run_convert_bytes_nil w 60 5 Try.underlying60 Try.underlying5 _ _ _ Try.underlying9
  | some a =>
    have hplain : ∃ b off, n = 0 ∧ a.spot ≠ none ∨ a = ⟨b, off, none⟩ := by
      obtain ⟨b, off, sp⟩ := a
      cases sp with
      | none => exact ⟨b, off, .inr rfl⟩
      | some x =>
        refine ⟨b, off, .inl ⟨?_, by simp⟩⟩
        rcases Nat.eq_zero_or_pos n with hz | hz
        · exact hz
        · obtain ⟨b', off', ha, _⟩ := h4 0 (.int .u8 (s.data.toList[0]'(by rw [Array.length_toList]; show 0 < s.size; omega)).toNat) (by unfold Lib.strCells; rw [List.getElem?_map, List.getElem?_eq_getElem (by rw [Array.length_toList]; show 0 < s.size; omega)]; rfl)
          injection ha with ha
          injection ha with _ _ ha
          cases ha
    obtain ⟨b, off, ⟨hn, _⟩ | rfl⟩ := hplain
    · have hs : s = ByteArray.empty := by
        apply ByteArray.ext
        exact Array.eq_empty_of_size_eq_zero (show s.size = 0 by omega)
      rw [hs, hn]
      rw [run_convert_bytes_string w 60 9 5 _ 0 c Try.underlying60 Try.underlying5 Try.underlying9, run_bytesToString w _ 0 c [] (by simp [loadCells, loadCellsFrom])]
      rfl
    · have h := run_convert_bytes_arg (P := Try.prog) w 60 5 Try.underlying60 Try.underlying5 b off n c (s.data.toList.map fun x => (x.toNat : Int)) (by rw [List.length_map, Array.length_toList]; show s.size = n; omega) (fun i hi => by
        have hi' : i < s.data.toList.length := by rw [Array.length_toList]; show i < s.size; omega
        obtain ⟨b', off', ha, hc⟩ := h4 i (.int .u8 (s.data.toList[i]).toNat) (by unfold Lib.strCells; rw [List.getElem?_map, List.getElem?_eq_getElem hi']; rfl)
        injection ha with ha
        injection ha with e1 e2
        subst e1 e2
        rw [hc]
        simp only [List.getD, List.getElem?_map, List.getElem?_eq_getElem hi', Option.map_some, Option.getD_some]) 9 Try.underlying9
      rw [h]
      congr 2
      apply ByteArray.ext
      apply Array.toList_inj.1
      rw [strOfNums_data, List.map_map]
      conv => rhs; rw [← List.map_id s.data.toList]
      apply List.map_congr_left
      intro x _
      simp
theorem elemU8 : Try.prog.underlying 60 = some (.slice (Try.prog.elem 60)) ∧ Try.prog.elem 60 = 5 := ⟨by kernel_rfl, by kernel_rfl⟩
theorem sizeU8 : ∀ W : World, (sizeOf 5).run Try.prog W = .ok 1 W := fun W => by kernel_rfl
theorem bslice_from (n c k : Nat) (hk : k ≤ n) (A : Option Addr) : ∀ W : World, (Instr.slice 60 (.slice A n c) (some (.int .i64 (k : Int))) none none).run Try.prog W = .ok (sliced A k n c 1) W := by
  intro W
  rw [run_slice_l W _ A n c elemU8.1 .i64 (k : Int) (by omega) (by omega), elemU8.2, sizeU8]
  rfl
theorem bslice_to (n c k : Nat) (hk : k ≤ c) (A : Option Addr) : ∀ W : World, (Instr.slice 60 (.slice A n c) none (some (.int .i64 (k : Int))) none).run Try.prog W = .ok (.slice A k c) W := by
  intro W
  rw [run_slice_h W _ A n c elemU8.1 .i64 (k : Int) (by omega) (by omega), elemU8.2, sizeU8]
  show Result.ok (sliced A 0 (k : Int).toNat c 1) W = _
  unfold sliced
  rw [Int.toNat_natCast]
  cases A with
  | none => simp
  | some a => simp [Addr.add]
theorem conv_kept {w : World} {B : Nat} {f : F} {A : Option Addr} {n c : Nat} (h : BO w B (f, .slice A n c)) (hn : n = f.size) : (convert 60 9 (.slice A f.kept.size c)).run Try.prog w = .ok (.string f.kept) w := by
  have hs := own_sl h
  show _
  have hs : SL w 1 (.slice A n c) n (bcells f) := by rw [hn] at hs ⊢; exact hs
  have ht := SL.take (k := f.kept.size) hs (by rw [hn]; unfold F.size; omega)
  have e : (bcells f).take (f.kept.size * 1) = Lib.strCells f.kept := by
    unfold bcells
    rw [Nat.mul_one, List.take_left' (Lib.strCells_length _)]
  rw [e] at ht
  exact conv_sl ht
theorem conv_loose {w : World} {B : Nat} {f : F} {A : Option Addr} {n c : Nat} (h : BO w B (f, .slice A n c)) (hn : n = f.size) : (convert 60 9 (sliced A f.kept.size n c 1)).run Try.prog w = .ok (.string f.loose) w := by
  have hs := own_sl h
  have hs : SL w 1 (.slice A n c) n (bcells f) := by rw [hn] at hs ⊢; exact hs
  have ht := SL.drop (k := f.kept.size) hs (by rw [hn]; unfold F.size; omega)
  have e : (bcells f).drop (f.kept.size * 1) = Lib.strCells f.loose := by
    unfold bcells
    rw [Nat.mul_one, List.drop_left' (Lib.strCells_length _)]
  rw [e] at ht
  exact conv_sl ht
end Go.Proofs.Ytonlplfjiaejhaa
