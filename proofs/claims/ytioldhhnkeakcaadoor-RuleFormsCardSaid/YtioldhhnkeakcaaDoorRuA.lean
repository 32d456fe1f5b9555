/- Plain mathematics of wholes: numerals with a sign. No program in it. -/
import Derived.Test.YtioldhhnkeakcaaDoorPlainVec
import Derived.Lib.ItoaMem
import Derived.Lib.ItoaLen
namespace Go.Proofs.YtioldhhnkeakcaaDoor.PV

theorem dec_inj {m n : Nat} (h : Lib.decDigits m = Lib.decDigits n) : m = n := by
  rw [← (dec_facts m).2.1, h, (dec_facts n).2.1]
theorem dec_ne45 {n : Nat} {c : UInt8} (h : c ∈ Lib.decDigits n) : c.toNat ≠ 45 ∧ c.toNat ≠ 43 := by
  have := (dec_facts n).1 c h
  unfold isDig at this
  omega
theorem itoa_pos {n : Int} (h : 0 ≤ n) : Lib.itoa n = Lib.decDigits n.toNat := by unfold Lib.itoa; rw [if_neg (by omega)]
theorem itoa_minus {n : Int} (h : n < 0) : Lib.itoa n = 45 :: Lib.decDigits n.natAbs := by unfold Lib.itoa; rw [if_pos h]
theorem itoa_ne (n : Int) : Lib.itoa n ≠ [] := by
  by_cases h : n < 0
  · rw [itoa_minus h]; simp
  · rw [itoa_pos (by omega)]; exact (dec_facts _).2.2.1
theorem dec_cons (n : Nat) : ∃ c r, Lib.decDigits n = c :: r ∧ c.toNat ≠ 45 ∧ c.toNat ≠ 43 := by
  cases h : Lib.decDigits n with
  | nil => exact absurd h (dec_facts n).2.2.1
  | cons c r => exact ⟨c, r, rfl, dec_ne45 (by rw [h]; simp)⟩
theorem itoa_inj {m n : Int} (h : Lib.itoa m = Lib.itoa n) : m = n := by
  by_cases hm : m < 0 <;> by_cases hn : n < 0
  · rw [itoa_minus hm, itoa_minus hn] at h
    have := dec_inj (List.cons.inj h).2
    omega
  · exfalso
    rw [itoa_minus hm, itoa_pos (by omega)] at h
    obtain ⟨c, r, e, h1, _⟩ := dec_cons n.toNat
    rw [e] at h
    exact h1 (by rw [← (List.cons.inj h).1]; rfl)
  · exfalso
    rw [itoa_minus hn, itoa_pos (by omega)] at h
    obtain ⟨c, r, e, h1, _⟩ := dec_cons m.toNat
    rw [e] at h
    exact h1 (by rw [(List.cons.inj h).1]; rfl)
  · rw [itoa_pos (by omega), itoa_pos (by omega)] at h
    have := dec_inj h
    omega
theorem parse_dec {u : Nat} (h : u < 18446744073709551616) : Lib.parseUintB 64 (Lib.decDigits u) = .ok u := by
  obtain ⟨h1, h2, h3, _⟩ := dec_facts u
  rw [Lib.parseUintB_64]
  unfold Lib.parseMag
  rw [if_neg h3, parse_of _ 0 h1 (by rw [h2]; exact h), h2]
theorem parse_itoa {n : Int} (h0 : -9223372036854775808 ≤ n) (h1 : n < 9223372036854775808) : Lib.parseIntB 64 (Lib.itoa n) = .ok n := by
  by_cases hn : n < 0
  · rw [itoa_minus hn, Lib.parseIntB_minus, parse_dec (by omega)]
    have e : (2 : Nat) ^ (64 - 1) = 9223372036854775808 := by decide
    simp only [Lib.signedC, e]
    rw [if_neg (by omega)]
    congr 1
    omega
  · rw [itoa_pos (by omega)]
    have hp := parse_dec (u := n.toNat) (by omega)
    obtain ⟨c, r, e, c1, c2⟩ := dec_cons n.toNat
    rw [e] at hp ⊢
    rw [Lib.parseIntB_plain _ _ _ c2 c1, hp]
    have e : (2 : Nat) ^ (64 - 1) = 9223372036854775808 := by decide
    simp only [Lib.signlessC, e]
    rw [if_neg (by omega)]
    congr 1
    omega

def inA (n : Int) : Prop := -1099511627776 ≤ n ∧ n ≤ 1099511627776
open Classical in
/-- The number of a word that is a whole. -/
noncomputable def wholeL (l : List UInt8) : Option Int := if h : ∃ n : Int, inA n ∧ Lib.itoa n = l then some h.choose else none
theorem wholeL_itoa {n : Int} (h : inA n) : wholeL (Lib.itoa n) = some n := by
  have hx : ∃ m : Int, inA m ∧ Lib.itoa m = Lib.itoa n := ⟨n, h, rfl⟩
  unfold wholeL
  rw [dif_pos hx]
  exact congrArg some (itoa_inj hx.choose_spec.2)
theorem wholeL_some {l : List UInt8} {n : Int} (h : wholeL l = some n) : inA n ∧ Lib.itoa n = l := by
  unfold wholeL at h
  split at h
  · next hx =>
    injection h with h
    rw [← h]
    exact hx.choose_spec
  · cases h
theorem wholeL_none {l : List UInt8} (h : ∀ n, inA n → Lib.itoa n ≠ l) : wholeL l = none := by
  unfold wholeL
  rw [dif_neg (fun ⟨n, h1, h2⟩ => h n h1 h2)]
/-- By what ParseInt answers. -/
theorem wholeL_ok {l : List UInt8} {v : Int} (h : Lib.parseIntB 64 l = .ok v) (h2 : ¬ (inA v ∧ Lib.itoa v = l)) : wholeL l = none :=
  wholeL_none fun n hn e => by
    have := parse_itoa (n := n) (by unfold inA at hn; omega) (by unfold inA at hn; omega)
    rw [e, h] at this
    injection this with this
    subst this
    exact h2 ⟨hn, e⟩
theorem wholeL_bad {l : List UInt8} (h : ∀ v, Lib.parseIntB 64 l ≠ .ok v) : wholeL l = none :=
  wholeL_none fun n hn e => h n (by rw [← e]; exact parse_itoa (by unfold inA at hn; omega) (by unfold inA at hn; omega))
theorem dec_len {n : Nat} (h : n ≤ 1099511627776) : (Lib.decDigits n).length ≤ 13 := by
  rw [Lib.decDigits_length]
  have := Lib.nDigits_pos n
  by_cases hq : Lib.nDigits n ≤ 13
  · exact hq
  · exfalso
    have key : ∀ (k u : Nat), u < 10 ^ k → 1 ≤ k → Lib.nDigits u ≤ k := by
      intro k
      induction k with
      | zero => intro u _ h; omega
      | succ k ih =>
        intro u hu _
        by_cases h10 : u < 10
        · rw [Lib.nDigits_small h10]; omega
        · rw [Lib.nDigits_big h10]
          have hk : 1 ≤ k := by
            by_cases hk : k = 0
            · subst hk; simp at hu; omega
            · omega
          have := ih (u / 10) (by rw [Nat.pow_succ] at hu; omega) hk
          omega
    have := key 13 n (by omega) (by decide)
    omega
theorem itoa_len {n : Int} (h : inA n) : (Lib.itoa n).length ≤ 14 := by
  unfold inA at h
  by_cases hn : n < 0
  · rw [itoa_minus hn]
    have := dec_len (n := n.natAbs) (by omega)
    simp only [List.length_cons]; omega
  · rw [itoa_pos (by omega)]
    have := dec_len (n := n.toNat) (by omega)
    omega
theorem wholeL_long {l : List UInt8} (h : 14 < l.length) : wholeL l = none :=
  wholeL_none fun n hn e => by
    have := itoa_len hn
    rw [e] at this
    omega
/-- The document's way: the digits' value. -/
theorem wholeL_digits {l : List UInt8} (hd : ∀ c ∈ l, isDig c) (hne : l ≠ []) (h0 : l.length = 1 ∨ l.headD 0 ≠ 48) : wholeL l = if val 0 l ≤ 1099511627776 then some (val 0 l : Int) else none := by
  have e := dec_of_digits _ l rfl hd hne h0
  have e2 : Lib.itoa (val 0 l : Int) = l := by rw [itoa_pos (by omega)]; simpa using e
  split
  · next hv =>
    have := wholeL_itoa (n := (val 0 l : Int)) (by unfold inA; omega)
    rw [e2] at this
    exact this
  · next hv =>
    refine wholeL_none fun n hn e3 => ?_
    have := itoa_inj (e3.trans e2.symm)
    unfold inA at hn
    omega
theorem wholeL_minus {l : List UInt8} (hd : ∀ c ∈ l, isDig c) (hne : l ≠ []) (h0 : l.headD 0 ≠ 48) : wholeL (45 :: l) = if val 0 l ≤ 1099511627776 then some (-(val 0 l : Int)) else none := by
  have e := dec_of_digits _ l rfl hd hne (Or.inr h0)
  have hp := head_val hd hne h0
  have e2 : Lib.itoa (-(val 0 l : Int)) = 45 :: l := by rw [itoa_minus (by omega)]; simpa using e
  split
  · next hv =>
    have := wholeL_itoa (n := -(val 0 l : Int)) (by unfold inA; omega)
    rw [e2] at this
    exact this
  · next hv =>
    refine wholeL_none fun n hn e3 => ?_
    have := itoa_inj (e3.trans e2.symm)
    unfold inA at hn
    omega
theorem itoa_head {n : Int} {l : List UInt8} (e : Lib.itoa n = l) : ∃ d : List UInt8, (l = d ∨ (l = 45 :: d ∧ d.headD 0 ≠ 48)) ∧ (∀ c ∈ d, isDig c) ∧ d ≠ [] ∧ (d.length = 1 ∨ d.headD 0 ≠ 48) := by
  by_cases hn : n < 0
  · rw [itoa_minus hn] at e
    obtain ⟨h1, h2, h3, h4, h5⟩ := dec_facts n.natAbs
    exact ⟨_, Or.inr ⟨e.symm, h4 (by omega)⟩, h1, h3, Or.inr (h4 (by omega))⟩
  · rw [itoa_pos (by omega)] at e
    obtain ⟨h1, h2, h3, h4, h5⟩ := dec_facts n.toNat
    refine ⟨_, Or.inl e.symm, h1, h3, ?_⟩
    by_cases h0 : n.toNat = 0
    · exact Or.inl (h5 h0)
    · exact Or.inr (h4 (by omega))
end Go.Proofs.YtioldhhnkeakcaaDoor.PV
