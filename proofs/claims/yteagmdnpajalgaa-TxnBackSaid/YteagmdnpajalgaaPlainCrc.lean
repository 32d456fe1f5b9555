/- Plain mathematics of the check sum of 32 bits: one step of a bit, four at a time by a table, and what a changed byte does. It imports nothing of the program. -/
namespace Go.Proofs.Yteagmdnpajalgaa
namespace Crc

def poly : Nat := 3988292384
def tab : List Nat := [0, 498536548, 997073096, 651767980, 1994146192, 1802195444, 1303535960, 1342533948, 3988292384, 4027552580, 3604390888, 3412177804, 2607071920, 2262029012, 2685067896, 3183342108]
def halfT (k : Nat) : Nat := tab.getD k 0
/-- One turn of one bit. -/
def bitStep (n : Nat) : Nat := if n % 2 = 1 then n / 2 ^^^ poly else n / 2
def bitSteps : Nat → Nat → Nat
  | 0, n => n
  | k + 1, n => bitSteps k (bitStep n)
/-- Four turns by the table. -/
def half (n : Nat) : Nat := n / 16 ^^^ halfT (n % 16)
def turned (n : Nat) : Nat := half (half n)
def stepB (n : Nat) (b : UInt8) : Nat := turned (n ^^^ b.toNat)
def sumOn (n : Nat) (l : List UInt8) : Nat := l.foldl stepB n
def start : Nat := 4294967295
def fin (n : Nat) : Nat := n ^^^ 4294967295
def sum (l : List UInt8) : Nat := fin (sumOn start l)

theorem halfT_lt (k : Nat) : halfT k < 4294967296 := by
  by_cases h : k < 16
  · have : ∀ j : Fin 16, halfT j.val < 4294967296 := by decide
    exact this ⟨k, h⟩
  · have : halfT k = 0 := by
      unfold halfT
      rw [List.getD_eq_getElem?_getD, List.getElem?_eq_none (by simp [tab]; omega)]; rfl
    omega

theorem xor_lt {a b : Nat} (ha : a < 4294967296) (hb : b < 4294967296) : a ^^^ b < 4294967296 :=
  Nat.xor_lt_two_pow (n := 32) ha hb

theorem half_lt {n : Nat} (h : n < 4294967296) : half n < 4294967296 :=
  xor_lt (by omega) (halfT_lt _)
theorem turned_lt {n : Nat} (h : n < 4294967296) : turned n < 4294967296 := half_lt (half_lt h)
theorem stepB_lt {n : Nat} (b : UInt8) (h : n < 4294967296) : stepB n b < 4294967296 :=
  turned_lt (xor_lt h (by have := b.toNat_lt; omega))
theorem sumOn_lt (l : List UInt8) : ∀ {n : Nat}, n < 4294967296 → sumOn n l < 4294967296 := by
  induction l with
  | nil => intro n h; exact h
  | cons b l ih => intro n h; exact ih (stepB_lt b h)
theorem fin_lt {n : Nat} (h : n < 4294967296) : fin n < 4294967296 := xor_lt h (by decide)
theorem start_lt : start < 4294967296 := by decide
theorem sum_lt (l : List UInt8) : sum l < 4294967296 := fin_lt (sumOn_lt l start_lt)

theorem sumOn_append (n : Nat) (a b : List UInt8) : sumOn n (a ++ b) = sumOn (sumOn n a) b := by simp [sumOn]
theorem sumOn_snoc (n : Nat) (a : List UInt8) (b : UInt8) : sumOn n (a ++ [b]) = stepB (sumOn n a) b := by simp [sumOn]
theorem sumOn_cons (n : Nat) (b : UInt8) (l : List UInt8) : sumOn n (b :: l) = sumOn (stepB n b) l := rfl
theorem sumOn_nil (n : Nat) : sumOn n [] = n := rfl

/-! ### one bit at a time -/
theorem bitStep_lt {n : Nat} (h : n < 4294967296) : bitStep n < 4294967296 := by
  unfold bitStep
  split
  · exact xor_lt (by omega) (by decide)
  · omega

theorem xor_mod_two (a b : Nat) : (a ^^^ b) % 2 = (a % 2 + b % 2) % 2 := by
  have h : (a ^^^ b) % 2 = (a % 2) ^^^ (b % 2) := Nat.xor_mod_two_pow (n := 1)
  rw [h]
  rcases Nat.mod_two_eq_zero_or_one a with ha | ha <;> rcases Nat.mod_two_eq_zero_or_one b with hb | hb <;> rw [ha, hb] <;> rfl

theorem xor_div (a b k : Nat) : (a ^^^ b) / 2 ^ k = a / 2 ^ k ^^^ b / 2 ^ k := by
  simp only [← Nat.shiftRight_eq_div_pow, Nat.shiftRight_xor_distrib]

theorem bitStep_xor (a b : Nat) : bitStep (a ^^^ b) = bitStep a ^^^ bitStep b := by
  have hd : (a ^^^ b) / 2 = a / 2 ^^^ b / 2 := xor_div a b 1
  have hm := xor_mod_two a b
  unfold bitStep
  rcases Nat.mod_two_eq_zero_or_one a with ha | ha <;> rcases Nat.mod_two_eq_zero_or_one b with hb | hb
  · rw [if_neg (by omega), if_neg (by omega), if_neg (by omega), hd]
  · rw [if_pos (by omega), if_neg (by omega), if_pos (by omega), hd, Nat.xor_assoc]
  · rw [if_pos (by omega), if_pos (by omega), if_neg (by omega), hd, Nat.xor_assoc, Nat.xor_assoc, Nat.xor_comm poly]
  · rw [if_neg (by omega), if_pos (by omega), if_pos (by omega), hd]
    have e : a / 2 ^^^ poly ^^^ (b / 2 ^^^ poly) = a / 2 ^^^ b / 2 ^^^ (poly ^^^ poly) := by ac_rfl
    rw [e, Nat.xor_self, Nat.xor_zero]

theorem bitSteps_xor (k : Nat) : ∀ a b : Nat, bitSteps k (a ^^^ b) = bitSteps k a ^^^ bitSteps k b := by
  induction k with
  | zero => intro a b; rfl
  | succ k ih => intro a b; show bitSteps k (bitStep (a ^^^ b)) = _; rw [bitStep_xor, ih]; rfl

theorem bitStep_double (n : Nat) : bitStep (2 * n) = n := by
  unfold bitStep; rw [if_neg (by omega)]; omega
theorem bitSteps_shift (k : Nat) : ∀ n : Nat, bitSteps k (2 ^ k * n) = n := by
  induction k with
  | zero => intro n; simp [bitSteps]
  | succ k ih => intro n; show bitSteps k (bitStep (2 ^ (k + 1) * n)) = n; rw [show 2 ^ (k + 1) * n = 2 * (2 ^ k * n) from by rw [Nat.pow_succ]; ac_rfl, bitStep_double, ih]

theorem split16 (n : Nat) : n = 16 * (n / 16) ^^^ n % 16 := by
  have h : 16 * (n / 16) + n % 16 = 16 * (n / 16) ||| n % 16 := by
    have := Nat.two_pow_add_eq_or_of_lt (i := 4) (b := n % 16) (by omega) (n / 16)
    simpa using this
  have hx : 16 * (n / 16) ^^^ n % 16 = 16 * (n / 16) ||| n % 16 := by
    apply Nat.eq_of_testBit_eq
    intro i
    rw [Nat.testBit_xor, Nat.testBit_or]
    by_cases hi : i < 4
    · have : (16 * (n / 16)).testBit i = false := by
        rw [show 16 * (n / 16) = 2 ^ 4 * (n / 16) from rfl, Nat.testBit_two_pow_mul]
        simp; omega
      rw [this]; simp
    · have : (n % 16).testBit i = false := Nat.testBit_lt_two_pow (Nat.lt_of_lt_of_le (show n % 16 < 2 ^ 4 by omega) (Nat.pow_le_pow_right (by omega) (by omega)))
      rw [this]; simp
  omega

theorem tab_bits : ∀ k : Fin 16, bitSteps 4 k.val = halfT k.val := by decide

theorem half_bits (n : Nat) : half n = bitSteps 4 n := by
  have h : bitSteps 4 n = bitSteps 4 (16 * (n / 16)) ^^^ bitSteps 4 (n % 16) := by rw [← bitSteps_xor, ← split16]
  rw [h, show 16 * (n / 16) = 2 ^ 4 * (n / 16) from rfl, bitSteps_shift, tab_bits ⟨n % 16, by omega⟩]
  rfl

theorem bitSteps_add (j : Nat) : ∀ k n : Nat, bitSteps (j + k) n = bitSteps k (bitSteps j n) := by
  induction j with
  | zero => intro k n; rw [Nat.zero_add]; rfl
  | succ j ih => intro k n; rw [show j + 1 + k = (j + k) + 1 from by omega]; show bitSteps (j + k) (bitStep n) = _; rw [ih]; rfl

theorem turned_bits (n : Nat) : turned n = bitSteps 8 n := by
  unfold turned; rw [half_bits, half_bits, ← bitSteps_add]

/-! ### nothing is lost -/
theorem bitStep_zero {n : Nat} (h : n < 4294967296) (hz : bitStep n = 0) : n = 0 := by
  unfold bitStep at hz
  split at hz
  · have : n / 2 = poly := by
      have h2 : n / 2 ^^^ poly ^^^ poly = 0 ^^^ poly := by rw [hz]
      rw [Nat.xor_assoc, Nat.xor_self, Nat.xor_zero, Nat.zero_xor] at h2
      exact h2
    unfold poly at this; omega
  · omega
theorem bitSteps_zero (k : Nat) : ∀ {n : Nat}, n < 4294967296 → bitSteps k n = 0 → n = 0 := by
  induction k with
  | zero => intro n _ h; exact h
  | succ k ih => intro n h hz; exact bitStep_zero h (ih (bitStep_lt h) hz)
theorem xor_cancel {a b c : Nat} (h : a ^^^ c = b ^^^ c) : a = b := by
  have : a ^^^ c ^^^ c = b ^^^ c ^^^ c := by rw [h]
  rwa [Nat.xor_assoc, Nat.xor_assoc, Nat.xor_self, Nat.xor_zero, Nat.xor_zero] at this
theorem turned_inj {a b : Nat} (ha : a < 4294967296) (hb : b < 4294967296) (h : turned a = turned b) : a = b := by
  have hx : bitSteps 8 (a ^^^ b) = 0 := by rw [bitSteps_xor, ← turned_bits, ← turned_bits, h, Nat.xor_self]
  have := bitSteps_zero 8 (xor_lt ha hb) hx
  exact xor_cancel (this.trans (Nat.xor_self b).symm)
theorem stepB_inj {a b : Nat} (ha : a < 4294967296) (hb : b < 4294967296) {x : UInt8} (h : stepB a x = stepB b x) : a = b := by
  have hx : x.toNat < 4294967296 := by have := x.toNat_lt; omega
  exact xor_cancel (turned_inj (xor_lt ha hx) (xor_lt hb hx) h)
theorem stepB_byte {a : Nat} (ha : a < 4294967296) {x y : UInt8} (h : stepB a x = stepB a y) : x = y := by
  have hx : x.toNat < 4294967296 := by have := x.toNat_lt; omega
  have hy : y.toNat < 4294967296 := by have := y.toNat_lt; omega
  have := turned_inj (xor_lt ha hx) (xor_lt ha hy) h
  rw [Nat.xor_comm a, Nat.xor_comm a] at this
  exact UInt8.toNat_inj.1 (xor_cancel this)
theorem sumOn_inj (l : List UInt8) : ∀ {a b : Nat}, a < 4294967296 → b < 4294967296 → sumOn a l = sumOn b l → a = b := by
  induction l with
  | nil => intro a b _ _ h; exact h
  | cons x l ih => intro a b ha hb h; exact stepB_inj ha hb (ih (stepB_lt x ha) (stepB_lt x hb) h)
theorem fin_inj {a b : Nat} (h : fin a = fin b) : a = b := xor_cancel h
/-- A byte changed: another sum. -/
theorem sum_byte (p q : List UInt8) (x y : UInt8) (h : sum (p ++ x :: q) = sum (p ++ y :: q)) : x = y := by
  have h1 := fin_inj h
  rw [sumOn_append, sumOn_append, sumOn_cons, sumOn_cons] at h1
  have hl := sumOn_lt p start_lt
  exact stepB_byte hl (sumOn_inj q (stepB_lt x hl) (stepB_lt y hl) h1)
end Crc
end Go.Proofs.Yteagmdnpajalgaa
