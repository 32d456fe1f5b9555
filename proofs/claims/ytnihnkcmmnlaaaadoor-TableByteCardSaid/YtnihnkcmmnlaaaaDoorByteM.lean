/- Plain mathematics: a frame of which one byte behind the length was changed. -/
import Derived.Test.YtnihnkcmmnlaaaaDoorFramePlain
namespace Go.Proofs.YtnihnkcmmnlaaaaDoor
open Go.RowKit

theorem list4 {l : List UInt8} (h : l.length = 4) : ∃ a b c d, l = [a, b, c, d] := by
  match l, h with
  | [a, b, c, d], _ => exact ⟨a, b, c, d, rfl⟩
theorem rd4_inj {a b c d a' b' c' d' : UInt8} (h : rd4 a b c d = rd4 a' b' c' d') : a = a' ∧ b = b' ∧ c = c' ∧ d = d' := by
  have := a.toNat_lt; have := b.toNat_lt; have := c.toNat_lt; have := d.toNat_lt
  have := a'.toNat_lt; have := b'.toNat_lt; have := c'.toNat_lt; have := d'.toNat_lt
  unfold rd4 at h
  refine ⟨UInt8.toNat_inj.1 ?_, UInt8.toNat_inj.1 ?_, UInt8.toNat_inj.1 ?_, UInt8.toNat_inj.1 ?_⟩ <;> omega
theorem rdS_set {S r : List UInt8} (hS : S.length = 4) (q : Nat) (hq : q < 4) (x : UInt8) (h : rdS (S.set q x ++ r) = rdS (S ++ r)) : S[q] = x := by
  obtain ⟨a, b, c, d, rfl⟩ := list4 hS
  match q, hq with
  | 0, _ => exact (rd4_inj (a := x) (b := b) (c := c) (d := d) h).1.symm
  | 1, _ => exact (rd4_inj (a := a) (b := x) (c := c) (d := d) h).2.1.symm
  | 2, _ => exact (rd4_inj (a := a) (b := b) (c := x) (d := d) h).2.2.1.symm
  | 3, _ => exact (rd4_inj (a := a) (b := b) (c := c) (d := x) h).2.2.2.symm
theorem split_at (b : List UInt8) (q : Nat) (hq : q < b.length) (x : UInt8) : b = b.take q ++ b[q] :: b.drop (q + 1) ∧ b.set q x = b.take q ++ x :: b.drop (q + 1) := by
  constructor
  · conv => lhs; rw [← List.take_append_drop q b, List.drop_eq_getElem_cons hq]
  · exact List.set_eq_take_append_cons_drop .. |>.trans (by rw [if_pos hq])
/-- A frame of which one byte behind the length was changed begins with no frame. -/
theorem first_set (b : List UInt8) (hb : b.length ≤ 65536) (r : Nat) (hr : r < 4 + b.length) (x : UInt8) (hx : (sumF b ++ b)[r]'(by rw [List.length_append]; exact hr) ≠ x) :
    first (be4 b.length ++ (sumF b ++ b).set r x) = none := by
  have hS : (sumF b).length = 4 := rfl
  have hl : (be4 b.length ++ (sumF b ++ b).set r x).length = 8 + b.length := by
    rw [List.length_append, List.length_set, List.length_append, be4_len, hS]; omega
  unfold first
  rw [be4_bytes _ (by omega), if_neg (by omega), if_neg (by omega), drop4_be4, take4_be4]
  have hd8 : (be4 b.length ++ (sumF b ++ b).set r x).drop 8 = ((sumF b ++ b).set r x).drop 4 := rfl
  rw [hd8]
  by_cases h4 : r < 4
  · have e : (sumF b ++ b).set r x = (sumF b).set r x ++ b := by rw [List.set_append, if_pos (by rw [hS]; exact h4)]
    have hlen : ((sumF b).set r x).length = 4 := by rw [List.length_set]; exact hS
    rw [e, if_neg]
    intro h
    rw [List.drop_left' hlen, List.take_of_length_le (Nat.le_refl _)] at h
    have h2 : rdS (sumF b ++ b) = Crc.sum (be4 b.length ++ b) := be4_bytes _ (Crc.sum_lt _) _
    rw [← h2] at h
    have := rdS_set hS r h4 x h
    rw [List.getElem_append_left (by rw [hS]; exact h4)] at hx
    exact hx this
  · have e : (sumF b ++ b).set r x = sumF b ++ b.set (r - 4) x := by rw [List.set_append, if_neg (by rw [hS]; omega), hS]
    have hq : r - 4 < b.length := by omega
    rw [e, if_neg]
    intro h
    rw [List.drop_left' hS, List.take_of_length_le (by rw [List.length_set]; omega)] at h
    have h2 : rdS (sumF b ++ b.set (r - 4) x) = Crc.sum (be4 b.length ++ b) := be4_bytes _ (Crc.sum_lt _) _
    rw [h2] at h
    obtain ⟨s1, s2⟩ := split_at b (r - 4) hq x
    rw [s2] at h
    have h3 : Crc.sum (be4 b.length ++ (b.take (r - 4) ++ b[r - 4] :: b.drop (r - 4 + 1))) = Crc.sum (be4 b.length ++ (b.take (r - 4) ++ x :: b.drop (r - 4 + 1))) := by
      rw [← s1]; exact h
    rw [← List.append_assoc, ← List.append_assoc] at h3
    have := Crc.sum_byte _ _ _ _ h3
    rw [List.getElem_append_right (by rw [hS]; omega)] at hx
    exact hx this

end Go.Proofs.YtnihnkcmmnlaaaaDoor
