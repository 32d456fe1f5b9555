/- Plain mathematics of scanning: frames one behind the other. -/
import Derived.Test.YteagmdnpajalgaaPlainCrc
namespace Go.Proofs.Yteagmdnpajalgaa

/-- The string of the frame at the beginning of l, if one stands there. rd tells the number of four bytes. -/
def rd4 (a b c d : UInt8) : Nat := ((a.toNat * 256 + b.toNat) * 256 + c.toNat) * 256 + d.toNat
/-- The number of the first four bytes. -/
def rdS : List UInt8 → Nat
  | a :: b :: c :: d :: _ => rd4 a b c d
  | _ => 0
def first (l : List UInt8) : Option (List UInt8) :=
  if l.length < 8 then none
  else if 65536 < rdS l ∨ l.length < 8 + rdS l then none
  else if rdS (l.drop 4) = Crc.sum (l.take 4 ++ (l.drop 8).take (rdS l)) then some ((l.drop 8).take (rdS l)) else none

theorem first_len {l b : List UInt8} (h : first l = some b) : 8 + b.length ≤ l.length ∧ b.length ≤ 65536 := by
  unfold first at h
  split at h
  · cases h
  split at h
  · cases h
  split at h
  · injection h with h
    rw [← h, List.length_take, List.length_drop]
    omega
  · cases h

def scanF : Nat → List UInt8 → List (List UInt8)
  | 0, _ => []
  | f + 1, l => match first l with
    | none => []
    | some b => b :: scanF f (l.drop (8 + b.length))
def scanAll (l : List UInt8) : List (List UInt8) := scanF l.length l
def bytesOf : List (List UInt8) → Nat
  | [] => 0
  | b :: r => 8 + b.length + bytesOf r

theorem scanF_enough : ∀ (f g : Nat) (l : List UInt8), l.length ≤ f → l.length ≤ g → scanF f l = scanF g l
  | 0, 0, _, _, _ => rfl
  | 0, g + 1, l, h, _ => by
    have : first l = none := by unfold first; rw [if_pos (by omega)]
    simp [scanF, this]
  | f + 1, 0, l, _, h => by
    have : first l = none := by unfold first; rw [if_pos (by omega)]
    simp [scanF, this]
  | f + 1, g + 1, l, hf, hg => by
    simp only [scanF]
    cases h : first l with
    | none => rfl
    | some b =>
      have hl := (first_len h).1
      simp only []
      rw [scanF_enough f g _ (by rw [List.length_drop]; omega) (by rw [List.length_drop]; omega)]
theorem scanAll_none {l : List UInt8} (h : first l = none) : scanAll l = [] := by
  unfold scanAll
  cases l.length with
  | zero => rfl
  | succ n => simp [scanF, h]
theorem scanAll_some {l b : List UInt8} (h : first l = some b) : scanAll l = b :: scanAll (l.drop (8 + b.length)) := by
  have hl := (first_len h).1
  have e : scanAll l = scanF (l.length + 1) l := scanF_enough _ _ l (Nat.le_refl _) (by omega)
  rw [e]
  simp only [scanF, h]
  unfold scanAll
  rw [scanF_enough l.length _ _ (by rw [List.length_drop]; omega) (Nat.le_refl _)]
theorem bytesOf_append (a b : List (List UInt8)) : bytesOf (a ++ b) = bytesOf a + bytesOf b := by
  induction a with
  | nil => simp [bytesOf]
  | cons x a ih => simp only [List.cons_append, bytesOf, ih]; omega
theorem bytesOf_scan (n : Nat) : ∀ l : List UInt8, l.length ≤ n → bytesOf (scanAll l) ≤ l.length := by
  induction n with
  | zero =>
    intro l h
    have : scanAll l = [] := scanAll_none (by unfold first; rw [if_pos (by omega)])
    rw [this]; exact Nat.zero_le _
  | succ n ih =>
    intro l h
    cases hf : first l with
    | none => rw [scanAll_none hf]; exact Nat.zero_le _
    | some b =>
      have hl := (first_len hf).1
      rw [scanAll_some hf]
      have := ih (l.drop (8 + b.length)) (by rw [List.length_drop]; omega)
      rw [List.length_drop] at this
      simp only [bytesOf]
      omega
theorem count_bytes (L : List (List UInt8)) : 8 * L.length ≤ bytesOf L := by
  induction L with
  | nil => exact Nat.zero_le _
  | cons x a ih => simp only [List.length_cons, bytesOf]; omega
end Go.Proofs.Yteagmdnpajalgaa
