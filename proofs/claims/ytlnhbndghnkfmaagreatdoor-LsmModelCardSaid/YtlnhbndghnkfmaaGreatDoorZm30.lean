/- Plain mathematics of the library's stable sort: blocks by insertion, merged by rotations, stand in one strict order and hold what they held. Plain mathematics of the library's insertion sort: it is stable. -/
import Derived.Sort.WalkA
import Derived.Sort.LotA
namespace Go.Proofs.YtlnhbndghnkfmaaGreatDoor
open Go.Sort

section
variable {α : Type}
/-- n places from a on and n places from b on, exchanged. -/
def swapR (f : Nat → α) (a b n : Nat) : Nat → α := fun i => if a ≤ i ∧ i < a + n then f (i - a + b) else if b ≤ i ∧ i < b + n then f (i - b + a) else f i
/-- What stands from m to b comes ahead of what stands from a to m. -/
def rotR (f : Nat → α) (a m b : Nat) : Nat → α := fun i => if a ≤ i ∧ i < a + (b - m) then f (i - a + m) else if a + (b - m) ≤ i ∧ i < b then f (i - (b - m)) else f i
theorem swapR_zero (f : Nat → α) (a b : Nat) : swapR f a b 0 = f := by
  funext i
  unfold swapR
  rw [if_neg (by omega), if_neg (by omega)]
theorem rotR_left (f : Nat → α) {a m b i : Nat} (h1 : a ≤ i) (h2 : i < a + (b - m)) : rotR f a m b i = f (i - a + m) := by unfold rotR; rw [if_pos ⟨h1, h2⟩]
theorem rotR_right (f : Nat → α) {a m b i : Nat} (h1 : a + (b - m) ≤ i) (h2 : i < b) : rotR f a m b i = f (i - (b - m)) := by unfold rotR; rw [if_neg (by omega), if_pos ⟨h1, h2⟩]
theorem rotR_out (f : Nat → α) {a m b i : Nat} (h : a ≤ m) (hm : m ≤ b) (h1 : i < a ∨ b ≤ i) : rotR f a m b i = f i := by unfold rotR; rw [if_neg (by omega), if_neg (by omega)]
theorem rotR_none (f : Nat → α) {a b : Nat} : rotR f a a b = f := by
  funext i
  unfold rotR
  by_cases h : a ≤ i ∧ i < a + (b - a)
  · rw [if_pos h, show i - a + a = i by omega]
  · rw [if_neg h, if_neg (by omega)]
theorem rotR_none2 (f : Nat → α) {a b : Nat} : rotR f a b b = f := by
  funext i
  unfold rotR
  rw [if_neg (by omega)]
  by_cases h : a + (b - b) ≤ i ∧ i < b
  · rw [if_pos h, Nat.sub_self, Nat.sub_zero]
  · rw [if_neg h]
/-- One step of a rotation, the left part being the longer one. -/
theorem rot_long (f : Nat → α) {m i j : Nat} (him : i ≤ m) (h : j < i) : rotR f (m - i) m (m + j) = rotR (swapR f (m - i) m j) (m - i + j) m (m + j) := by
  funext x
  unfold rotR swapR
  by_cases h1 : m - i ≤ x ∧ x < m - i + j
  · rw [if_pos (by omega), if_neg (by omega), if_neg (by omega), if_pos (by omega)]
  · by_cases h2 : m - i + j ≤ x ∧ x < m - i + j + j
    · rw [if_neg (by omega), if_pos (by omega), if_pos (by omega)]
      by_cases h3 : m - i ≤ x - (m - i + j) + m ∧ x - (m - i + j) + m < m - i + j
      · exfalso; omega
      · rw [if_neg h3, if_pos (by omega)]
        congr 1
        omega
    · by_cases h4 : m - i + j + j ≤ x ∧ x < m + j
      · rw [if_neg (by omega), if_pos (by omega), if_neg (by omega), if_pos (by omega), if_neg (by omega), if_neg (by omega)]
      · rw [if_neg (by omega), if_neg (by omega), if_neg (by omega), if_neg (by omega), if_neg (by omega), if_neg (by omega)]
/-- .. the right part being the longer one. -/
theorem rot_short (f : Nat → α) {m i j : Nat} (him : i ≤ m) (h : i < j) : rotR f (m - i) m (m + j) = rotR (swapR f (m - i) (m + j - i) i) (m - i) m (m + (j - i)) := by
  funext x
  unfold rotR swapR
  by_cases h1 : m - i ≤ x ∧ x < m - i + (j - i)
  · rw [if_pos (by omega), if_pos (by omega)]
    by_cases h3 : m - i ≤ x - (m - i) + m ∧ x - (m - i) + m < m - i + i
    · exfalso; omega
    · rw [if_neg h3, if_neg (by omega)]
  · by_cases h2 : m - i + (j - i) ≤ x ∧ x < m - i + j
    · rw [if_pos (by omega), if_neg (by omega), if_pos (by omega), if_pos (by omega)]
      congr 1
      omega
    · by_cases h4 : m - i + j ≤ x ∧ x < m + j
      · rw [if_neg (by omega), if_pos (by omega), if_neg (by omega), if_neg (by omega), if_neg (by omega), if_pos (by omega)]
        congr 1
        omega
      · rw [if_neg (by omega), if_neg (by omega), if_neg (by omega), if_neg (by omega), if_neg (by omega), if_neg (by omega)]
theorem rot_even (f : Nat → α) {m i : Nat} (him : i ≤ m) : rotR f (m - i) m (m + i) = swapR f (m - i) m i := by
  funext x
  unfold rotR swapR
  by_cases h1 : m - i ≤ x ∧ x < m - i + i
  · rw [if_pos (by omega), if_pos h1]
  · by_cases h2 : m ≤ x ∧ x < m + i
    · rw [if_neg (by omega), if_pos (by omega), if_neg h1, if_pos h2]
      congr 1
      omega
    · rw [if_neg (by omega), if_neg (by omega), if_neg h1, if_neg h2]

/-- g is f with the places from a to b put in another order. -/
structure Shuf (a b : Nat) (f g : Nat → α) : Prop where
  out : ∀ i, i < a ∨ b ≤ i → g i = f i
  there : ∀ i, a ≤ i → i < b → ∃ j, a ≤ j ∧ j < b ∧ g i = f j
  back : ∀ j, a ≤ j → j < b → ∃ i, a ≤ i ∧ i < b ∧ g i = f j
theorem Shuf.refl (a b : Nat) (f : Nat → α) : Shuf a b f f := ⟨fun _ _ => rfl, fun i h1 h2 => ⟨i, h1, h2, rfl⟩, fun i h1 h2 => ⟨i, h1, h2, rfl⟩⟩
theorem Shuf.trans {a b : Nat} {f g h : Nat → α} (x : Shuf a b f g) (y : Shuf a b g h) : Shuf a b f h := by
  refine ⟨fun i hi => (y.out i hi).trans (x.out i hi), fun i h1 h2 => ?_, fun j h1 h2 => ?_⟩
  · obtain ⟨j, j1, j2, e⟩ := y.there i h1 h2
    obtain ⟨k, k1, k2, e2⟩ := x.there j j1 j2
    exact ⟨k, k1, k2, e.trans e2⟩
  · obtain ⟨k, k1, k2, e⟩ := x.back j h1 h2
    obtain ⟨i, i1, i2, e2⟩ := y.back k k1 k2
    exact ⟨i, i1, i2, e2.trans e⟩
theorem Shuf.mono {a b a' b' : Nat} {f g : Nat → α} (x : Shuf a b f g) (ha : a' ≤ a) (hb : b ≤ b') : Shuf a' b' f g := by
  refine ⟨fun i hi => x.out i (by omega), fun i h1 h2 => ?_, fun j h1 h2 => ?_⟩
  · by_cases h : a ≤ i ∧ i < b
    · obtain ⟨j, j1, j2, e⟩ := x.there i h.1 h.2
      exact ⟨j, by omega, by omega, e⟩
    · exact ⟨i, h1, h2, x.out i (by omega)⟩
  · by_cases h : a ≤ j ∧ j < b
    · obtain ⟨i, i1, i2, e⟩ := x.back j h.1 h.2
      exact ⟨i, by omega, by omega, e⟩
    · exact ⟨j, h1, h2, x.out j (by omega)⟩
theorem shuf_rot (f : Nat → α) {a m b : Nat} (h1 : a ≤ m) (h2 : m ≤ b) : Shuf a b f (rotR f a m b) := by
  refine ⟨fun i hi => rotR_out f h1 h2 hi, fun i i1 i2 => ?_, fun j j1 j2 => ?_⟩
  · by_cases h : i < a + (b - m)
    · exact ⟨i - a + m, by omega, by omega, rotR_left f i1 h⟩
    · exact ⟨i - (b - m), by omega, by omega, rotR_right f (by omega) i2⟩
  · by_cases h : j < m
    · refine ⟨j + (b - m), by omega, by omega, ?_⟩
      rw [rotR_right f (by omega) (by omega)]
      congr 1
      omega
    · refine ⟨j - m + a, by omega, by omega, ?_⟩
      rw [rotR_left f (by omega) (by omega)]
      congr 1
      omega
/-- Each of the places from a to b stands, by r, ahead of all behind it. -/
def Ordd (r : α → α → Prop) (a b : Nat) (f : Nat → α) : Prop := ∀ i j, a ≤ i → i < j → j < b → r (f i) (f j)
theorem Ordd.sub {r : α → α → Prop} {a b a' b' : Nat} {f : Nat → α} (h : Ordd r a b f) (ha : a ≤ a') (hb : b' ≤ b) : Ordd r a' b' f := fun i j h1 h2 h3 => h i j (by omega) h2 (by omega)
theorem Ordd.congr {r : α → α → Prop} {a b : Nat} {f g : Nat → α} (h : Ordd r a b f) (e : ∀ i, a ≤ i → i < b → g i = f i) : Ordd r a b g := fun i j h1 h2 h3 => by
  rw [e i h1 (by omega), e j (by omega) h3]
  exact h i j h1 h2 h3
/-- Two orders, one behind the other. -/
theorem Ordd.join {r : α → α → Prop} {a m b : Nat} {f : Nat → α} (x : Ordd r a m f) (y : Ordd r m b f) (h : ∀ i j, a ≤ i → i < m → m ≤ j → j < b → r (f i) (f j)) : Ordd r a b f := fun i j h1 h2 h3 => by
  by_cases hi : j < m
  · exact x i j h1 h2 hi
  · by_cases hj : m ≤ i
    · exact y i j hj h2 h3
    · exact h i j h1 (by omega) (by omega) h3

/-- What a merge is of: two orders, the left one's marks all below the right one's. -/
structure Two (r : α → α → Prop) (tag : α → Nat) (a m b : Nat) (f : Nat → α) : Prop where
  left : Ordd r a m f
  right : Ordd r m b f
  tags : ∀ i j, a ≤ i → i < m → m ≤ j → j < b → tag (f i) < tag (f j)
/-- What a comparison tells of an element and of one of a greater mark. -/
def Fair (r : α → α → Prop) (tag : α → Nat) (c : α → α → Bool) : Prop := ∀ x y, tag x < tag y → (c y x = true → r y x) ∧ (c y x = false → r x y)

section
variable {r : α → α → Prop} {tag : α → Nat} {c : α → α → Bool}
/-- One element ahead of an order: its place is found, and it goes there. -/
theorem two_one (ht : ∀ x y z, r x y → r y z → r x z) {a b i : Nat} {f : Nat → α} (h : Two r tag a (a + 1) b f) (h1 : a + 1 ≤ i) (h2 : i ≤ b)
    (lo : ∀ k, a + 1 ≤ k → k < i → r (f k) (f a)) (hi : ∀ k, i ≤ k → k < b → r (f a) (f k)) : Ordd r a b (rotR f a (a + 1) i) := by
  have hm : ∀ k, a ≤ k → k < i - 1 → rotR f a (a + 1) i k = f (k + 1) := fun k k1 k2 => by
    rw [rotR_left f k1 (by omega)]
    congr 1
    omega
  have he : rotR f a (a + 1) i (i - 1) = f a := by
    by_cases e : i = a + 1
    · subst e
      rw [rotR_none2, Nat.add_sub_cancel]
    · rw [rotR_right f (by omega) (by omega)]
      congr 1
      omega
  have ho : ∀ k, i ≤ k → rotR f a (a + 1) i k = f k := fun k k1 => rotR_out f (by omega) h1 (.inr k1)
  have _ := ht
  intro x y x1 x2 x3
  rcases Nat.lt_trichotomy x (i - 1) with e | e | e
  · rw [hm x x1 e]
    rcases Nat.lt_trichotomy y (i - 1) with e2 | e2 | e2
    · rw [hm y (by omega) e2]
      exact h.right _ _ (by omega) (by omega) (by omega)
    · rw [e2, he]
      exact lo _ (by omega) (by omega)
    · rw [ho y (by omega)]
      exact h.right _ _ (by omega) (by omega) x3
  · rw [e, he, ho y (by omega)]
    exact hi _ (by omega) x3
  · rw [ho x (by omega), ho y (by omega)]
    exact h.right _ _ (by omega) x2 x3
/-- One element behind an order. -/
theorem two_last {a m i : Nat} {f : Nat → α} (h : Two r tag a m (m + 1) f) (h1 : a ≤ i) (h2 : i ≤ m)
    (lo : ∀ k, a ≤ k → k < i → r (f k) (f m)) (hi : ∀ k, i ≤ k → k < m → r (f m) (f k)) : Ordd r a (m + 1) (rotR f i m (m + 1)) := by
  have hm : ∀ k, i < k → k < m + 1 → rotR f i m (m + 1) k = f (k - 1) := fun k k1 k2 => by
    rw [rotR_right f (by omega) k2]
    congr 1
    omega
  have he : rotR f i m (m + 1) i = f m := by
    rw [rotR_left f (Nat.le_refl _) (by omega)]
    congr 1
    omega
  have ho : ∀ k, k < i → rotR f i m (m + 1) k = f k := fun k k1 => rotR_out f h2 (by omega) (.inl k1)
  intro x y x1 x2 x3
  rcases Nat.lt_trichotomy x i with e | e | e
  · rw [ho x e]
    rcases Nat.lt_trichotomy y i with e2 | e2 | e2
    · rw [ho y e2]
      exact h.left _ _ x1 x2 (by omega)
    · rw [e2, he]
      exact lo _ x1 e
    · rw [hm y e2 x3]
      exact h.left _ _ x1 (by omega) (by omega)
  · rw [e, he, hm y (by omega) x3]
    exact hi _ (by omega) (by omega)
  · rw [hm x e (by omega), hm y (by omega) x3]
    exact h.left _ _ (by omega) (by omega) (by omega)

/-- Where the search begins and ends. -/
def sLo (a m b : Nat) : Nat := if (a + b) / 2 < m then (a + b) / 2 + m - b else a
def sHi (a m b : Nat) : Nat := if (a + b) / 2 < m then (a + b) / 2 else m
/-- What the search knows. -/
structure Srch (r : α → α → Prop) (a m b : Nat) (f : Nat → α) (s e : Nat) : Prop where
  lo : sLo a m b ≤ s
  le : s ≤ e
  hi : e ≤ sHi a m b
  low : ∀ k, sLo a m b ≤ k → k < s → r (f k) (f ((a + b) / 2 + m - 1 - k))
  high : ∀ k, e ≤ k → k < sHi a m b → r (f ((a + b) / 2 + m - 1 - k)) (f k)
theorem sLo_le {a m b : Nat} (h1 : a < m) (h2 : m < b) : a ≤ sLo a m b ∧ sLo a m b ≤ sHi a m b ∧ sHi a m b ≤ m ∧ sHi a m b ≤ (a + b) / 2 ∧ (a + b) / 2 + m ≤ b + sLo a m b ∧ m ≤ (a + b) / 2 + m - sHi a m b := by
  unfold sLo sHi
  by_cases h : (a + b) / 2 < m
  · rw [if_pos h, if_pos h]; omega
  · rw [if_neg h, if_neg h]; omega
theorem srch_start {a m b : Nat} (f : Nat → α) (h1 : a < m) (h2 : m < b) : Srch r a m b f (sLo a m b) (sHi a m b) :=
  ⟨Nat.le_refl _, (sLo_le h1 h2).2.1, Nat.le_refl _, fun _ _ _ => by omega, fun _ _ _ => by omega⟩
theorem srch_at {a m b s e : Nat} {f : Nat → α} (h1 : a < m) (h2 : m < b) (hs : Srch r a m b f s e) (h : s < e) :
    a ≤ (s + e) / 2 ∧ (s + e) / 2 < m ∧ m ≤ (a + b) / 2 + m - 1 - (s + e) / 2 ∧ (a + b) / 2 + m - 1 - (s + e) / 2 < b ∧ (s + e) / 2 ≤ (a + b) / 2 + m - 1 := by
  obtain ⟨q1, q2, q3, q4, q5, q6⟩ := sLo_le h1 h2
  have := hs.lo
  have := hs.hi
  omega
theorem srch_up (ht : ∀ x y z, r x y → r y z → r x z) (hf : Fair r tag c) {a m b s e : Nat} {f : Nat → α} (h1 : a < m) (h2 : m < b) (w : Two r tag a m b f) (hs : Srch r a m b f s e) (h : s < e)
    (hc : c (f ((a + b) / 2 + m - 1 - (s + e) / 2)) (f ((s + e) / 2)) = false) : Srch r a m b f ((s + e) / 2 + 1) e := by
  obtain ⟨q1, q2, q3, q4, q5, q6⟩ := sLo_le h1 h2
  obtain ⟨p1, p2, p3, p4, p5⟩ := srch_at h1 h2 hs h
  have l := hs.lo
  have l2 := hs.hi
  have k0 := (hf _ _ (w.tags _ _ p1 p2 p3 p4)).2 hc
  refine ⟨by omega, by omega, hs.hi, fun k k1 k2 => ?_, hs.high⟩
  by_cases hk : k = (s + e) / 2
  · subst hk; exact k0
  · have e1 : r (f k) (f ((s + e) / 2)) := w.left _ _ (by omega) (by omega) p2
    have e2 : r (f ((a + b) / 2 + m - 1 - (s + e) / 2)) (f ((a + b) / 2 + m - 1 - k)) := w.right _ _ p3 (by omega) (by omega)
    exact ht _ _ _ e1 (ht _ _ _ k0 e2)
theorem srch_down (ht : ∀ x y z, r x y → r y z → r x z) (hf : Fair r tag c) {a m b s e : Nat} {f : Nat → α} (h1 : a < m) (h2 : m < b) (w : Two r tag a m b f) (hs : Srch r a m b f s e) (h : s < e)
    (hc : c (f ((a + b) / 2 + m - 1 - (s + e) / 2)) (f ((s + e) / 2)) = true) : Srch r a m b f s ((s + e) / 2) := by
  obtain ⟨q1, q2, q3, q4, q5, q6⟩ := sLo_le h1 h2
  obtain ⟨p1, p2, p3, p4, p5⟩ := srch_at h1 h2 hs h
  have l := hs.lo
  have l2 := hs.hi
  have k0 := (hf _ _ (w.tags _ _ p1 p2 p3 p4)).1 hc
  refine ⟨hs.lo, by omega, by omega, hs.low, fun k k1 k2 => ?_⟩
  by_cases hk : k = (s + e) / 2
  · subst hk; exact k0
  · have e1 : r (f ((s + e) / 2)) (f k) := w.left _ _ p1 (by omega) (by omega)
    have e2 : r (f ((a + b) / 2 + m - 1 - k)) (f ((a + b) / 2 + m - 1 - (s + e) / 2)) := w.right _ _ (by omega) (by omega) p4
    exact ht _ _ _ e2 (ht _ _ _ k0 e1)
/-- Behind the search and the rotation: two merges, one for each half, and the left half stands ahead of the right one. -/
structure Cut (r : α → α → Prop) (tag : α → Nat) (a m b s : Nat) (f : Nat → α) : Prop where
  s1 : a ≤ s
  s2 : s ≤ m
  s3 : s ≤ (a + b) / 2
  e1 : m ≤ (a + b) / 2 + m - s
  e2 : (a + b) / 2 + m - s ≤ b
  one : Two r tag a s ((a + b) / 2) (rotR f s m ((a + b) / 2 + m - s))
  two : Two r tag ((a + b) / 2) ((a + b) / 2 + m - s) b (rotR f s m ((a + b) / 2 + m - s))
  apart : ∀ i j, a ≤ i → i < (a + b) / 2 → (a + b) / 2 ≤ j → j < b → r (rotR f s m ((a + b) / 2 + m - s) i) (rotR f s m ((a + b) / 2 + m - s) j)
theorem srch_end (ht : ∀ x y z, r x y → r y z → r x z) {a m b s : Nat} {f : Nat → α} (h1 : a < m) (h2 : m < b) (w : Two r tag a m b f) (hs : Srch r a m b f s s) : Cut r tag a m b s f := by
  obtain ⟨q1, q2, q3, q4, q5, q6⟩ := sLo_le h1 h2
  have l := hs.lo
  have l2 := hs.hi
  obtain ⟨d, hd⟩ : ∃ d, d = (a + b) / 2 := ⟨_, rfl⟩
  obtain ⟨e, he⟩ : ∃ e, e = (a + b) / 2 + m - s := ⟨_, rfl⟩
  have low := hs.low
  have high := hs.high
  rw [← hd] at low high q4 q5 q6
  rw [← hd] at he
  -- what a left one and a right one know of each other
  have lr : ∀ i j, a ≤ i → i < s → e ≤ j → j < b → r (f i) (f j) := by
    intro i j i1 i2 j1 j2
    have hlo : sLo a m b < s := by
      rcases Nat.lt_or_ge (sLo a m b) s with q | q
      · exact q
      · exfalso
        have hq : s = sLo a m b := by omega
        unfold sLo at hq
        rw [← hd] at hq
        by_cases hc : d < m
        · rw [if_pos hc] at hq; omega
        · rw [if_neg hc] at hq; omega
    have k0 := low (s - 1) (by omega) (by omega)
    rw [show d + m - 1 - (s - 1) = e by omega] at k0
    have k1 : i = s - 1 ∨ r (f i) (f (s - 1)) := by
      by_cases q : i = s - 1
      · exact .inl q
      · exact .inr (w.left _ _ i1 (by omega) (by omega))
    have k2 : j = e ∨ r (f e) (f j) := by
      by_cases q : j = e
      · exact .inl q
      · exact .inr (w.right _ _ (by omega) (by omega) j2)
    have k3 : r (f i) (f e) := by
      rcases k1 with rfl | k1
      · exact k0
      · exact ht _ _ _ k1 k0
    rcases k2 with rfl | k2
    · exact k3
    · exact ht _ _ _ k3 k2
  have rl : ∀ j i, m ≤ j → j < e → s ≤ i → i < m → r (f j) (f i) := by
    intro j i j1 j2 i1 i2
    have hhi : s < sHi a m b := by
      rcases Nat.lt_or_ge s (sHi a m b) with q | q
      · exact q
      · exfalso
        have hq : s = sHi a m b := by omega
        unfold sHi at hq
        rw [← hd] at hq
        by_cases hc : d < m
        · rw [if_pos hc] at hq; omega
        · rw [if_neg hc] at hq; omega
    have k0 := high s (Nat.le_refl _) hhi
    rw [show d + m - 1 - s = e - 1 by omega] at k0
    have k1 : i = s ∨ r (f s) (f i) := by
      by_cases q : i = s
      · exact .inl q
      · exact .inr (w.left _ _ (by omega) (by omega) i2)
    have k2 : j = e - 1 ∨ r (f j) (f (e - 1)) := by
      by_cases q : j = e - 1
      · exact .inl q
      · exact .inr (w.right _ _ j1 (by omega) (by omega))
    have k3 : r (f j) (f s) := by
      rcases k2 with rfl | k2
      · exact k0
      · exact ht _ _ _ k2 k0
    rcases k1 with rfl | k1
    · exact k3
    · exact ht _ _ _ k3 k1
  have A1 : ∀ i, i < s → rotR f s m e i = f i := fun i hi => rotR_out f (by omega) (by omega) (.inl hi)
  have A2 : ∀ i, s ≤ i → i < d → rotR f s m e i = f (i - s + m) := fun i i1 i2 => rotR_left f i1 (by omega)
  have A3 : ∀ i, d ≤ i → i < e → rotR f s m e i = f (i - (e - m)) := fun i i1 i2 => rotR_right f (by omega) i2
  have A4 : ∀ i, e ≤ i → rotR f s m e i = f i := fun i hi => rotR_out f (by omega) (by omega) (.inr hi)
  refine ⟨by omega, by omega, by omega, by omega, by omega, ?_, ?_, ?_⟩
  · rw [← hd, ← he]
    refine ⟨fun i j i1 i2 i3 => ?_, fun i j i1 i2 i3 => ?_, fun i j i1 i2 i3 i4 => ?_⟩
    · rw [A1 i (by omega), A1 j i3]; exact w.left _ _ i1 i2 (by omega)
    · rw [A2 i i1 (by omega), A2 j (by omega) i3]; exact w.right _ _ (by omega) (by omega) (by omega)
    · rw [A1 i i2, A2 j i3 i4]; exact w.tags _ _ i1 (by omega) (by omega) (by omega)
  · rw [← hd, ← he]
    refine ⟨fun i j i1 i2 i3 => ?_, fun i j i1 i2 i3 => ?_, fun i j i1 i2 i3 i4 => ?_⟩
    · rw [A3 i i1 (by omega), A3 j (by omega) i3]; exact w.left _ _ (by omega) (by omega) (by omega)
    · rw [A4 i i1, A4 j (by omega)]; exact w.right _ _ (by omega) i2 i3
    · rw [A3 i i1 i2, A4 j i3]; exact w.tags _ _ (by omega) (by omega) (by omega) i4
  · rw [← hd, ← he]
    intro i j i1 i2 i3 i4
    by_cases hi : i < s
    · rw [A1 i hi]
      by_cases hj : j < e
      · rw [A3 j i3 hj]; exact w.left _ _ i1 (by omega) (by omega)
      · rw [A4 j (by omega)]; exact lr _ _ i1 hi (by omega) i4
    · rw [A2 i (by omega) i2]
      by_cases hj : j < e
      · rw [A3 j i3 hj]; exact rl _ _ (by omega) (by omega) (by omega) (by omega)
      · rw [A4 j (by omega)]; exact w.right _ _ (by omega) (by omega) i4
theorem Two.congr {a m b : Nat} {f g : Nat → α} (h : Two r tag a m b f) (ham : a ≤ m) (hmb : m ≤ b) (e : ∀ i, a ≤ i → i < b → g i = f i) : Two r tag a m b g := by
  refine ⟨h.left.congr fun i h1 h2 => e i h1 (by omega), h.right.congr fun i h1 h2 => e i (by omega) h2, fun i j i1 i2 i3 i4 => ?_⟩
  rw [e i i1 (by omega), e j (by omega) i4]
  exact h.tags i j i1 i2 i3 i4
/-- Where there is nothing to merge there is one order. -/
theorem Two.none {a m b : Nat} {f : Nat → α} (h : Two r tag a m b f) (hn : ¬ (a < m ∧ m < b)) (ham : a ≤ m) (hmb : m ≤ b) : Ordd r a b f := by
  by_cases e : a < m
  · have : m = b := by omega
    rw [← this]
    exact h.left
  · have : a = m := by omega
    rw [this]
    exact h.right
theorem rot_none {f : Nat → α} {a m b : Nat} (hn : ¬ (a < m ∧ m < b)) (ham : a ≤ m) (hmb : m ≤ b) : rotR f a m b = f := by
  by_cases e : a < m
  · have : m = b := by omega
    rw [← this]
    exact rotR_none2 f
  · have : a = m := by omega
    rw [this]
    exact rotR_none f
theorem merged_end {a m b s : Nat} {f f1 f2 f3 : Nat → α} (h : Cut r tag a m b s f) (ha : a ≤ (a + b) / 2) (hb : (a + b) / 2 ≤ b) (e1 : f1 = rotR f s m ((a + b) / 2 + m - s)) (o2 : Ordd r a ((a + b) / 2) f2) (s2 : Shuf a ((a + b) / 2) f1 f2)
    (o3 : Ordd r ((a + b) / 2) b f3) (s3 : Shuf ((a + b) / 2) b f2 f3) : Ordd r a b f3 ∧ Shuf a b f f3 := by
  constructor
  · refine Ordd.join (m := (a + b) / 2) (o2.congr fun i h1 h2 => s3.out i (.inl h2)) o3 (fun i j i1 i2 i3 i4 => ?_)
    rw [s3.out i (.inl i2)]
    obtain ⟨i', p1, p2, p3⟩ := s2.there i i1 i2
    obtain ⟨j', q1, q2, q3⟩ := s3.there j i3 i4
    rw [p3, q3, s2.out j' (.inr q1), e1]
    exact h.apart i' j' p1 p2 q1 q2
  · refine Shuf.trans (Shuf.mono (shuf_rot f h.s2 h.e1) h.s1 h.e2) ?_
    rw [← e1]
    exact (s2.mono (Nat.le_refl _) hb).trans (s3.mono ha (Nat.le_refl _))
end
end
end Go.Proofs.YtlnhbndghnkfmaaGreatDoor
namespace Go.Proofs.YtlnhbndghnkfmaaGreatDoor
open Go.Sort

section
variable {α : Type} [Inhabited α]
/-- An array's places. -/
def at_ (d : Array α) : Nat → α := fun i => d[i]!
theorem at_swp (d : Array α) {i j : Nat} (hi : i < d.size) (hj : j < d.size) (k : Nat) : at_ (swp d i j) k = if k = j then at_ d i else if k = i then at_ d j else at_ d k := swp_get d hi hj k
theorem shuf_swp (d : Array α) {a b i j : Nat} (hb : b ≤ d.size) (h1 : a ≤ i) (h2 : i < b) (h3 : a ≤ j) (h4 : j < b) : Shuf a b (at_ d) (at_ (swp d i j)) := by
  have e := fun k => at_swp d (show i < d.size by omega) (show j < d.size by omega) k
  refine ⟨fun k hk => ?_, fun k k1 k2 => ?_, fun k k1 k2 => ?_⟩
  · rw [e, if_neg (by omega), if_neg (by omega)]
  · by_cases q : k = j
    · exact ⟨i, h1, h2, by rw [e, if_pos q]⟩
    · by_cases q2 : k = i
      · exact ⟨j, h3, h4, by rw [e, if_neg q, if_pos q2]⟩
      · exact ⟨k, k1, k2, by rw [e, if_neg q, if_neg q2]⟩
  · by_cases q : k = j
    · by_cases q2 : i = j
      · exact ⟨j, h3, h4, by rw [e, if_pos rfl, q, q2]⟩
      · exact ⟨i, h1, h2, by rw [e, if_neg q2, if_pos rfl, q]⟩
    · by_cases q2 : k = i
      · exact ⟨j, h3, h4, by rw [e, if_pos rfl, q2]⟩
      · exact ⟨k, k1, k2, by rw [e, if_neg q, if_neg q2]⟩
/-- The exchange of one place more. -/
theorem swapR_swp (f : Nat → α) (d : Array α) {a b n : Nat} (h : at_ d = swapR f a b n) (hb : a + n < b) (hs : b + n < d.size) : at_ (swp d (a + n) (b + n)) = swapR f a b (n + 1) := by
  funext k
  rw [at_swp d (by omega) (by omega), h]
  unfold swapR
  by_cases q : k = b + n
  · rw [if_pos q, if_neg (by omega), if_neg (by omega), if_neg (by omega), if_pos (by omega)]
    congr 1
    omega
  · rw [if_neg q]
    by_cases q2 : k = a + n
    · rw [if_pos q2, if_neg (by omega), if_neg (by omega), if_pos (by omega)]
      congr 1
      omega
    · rw [if_neg q2]
      by_cases q3 : a ≤ k ∧ k < a + n
      · rw [if_pos q3, if_pos (by omega)]
      · rw [if_neg q3]
        by_cases q4 : b ≤ k ∧ k < b + n
        · rw [if_pos q4, if_neg (by omega), if_pos (by omega)]
        · rw [if_neg q4, if_neg (by omega), if_neg (by omega)]
/-- A step of the first one's way up. -/
theorem rot_up (f : Nat → α) (d : Array α) {a k : Nat} (h : at_ d = rotR f a (a + 1) (k + 1)) (ha : a ≤ k) (hs : k + 1 < d.size) : at_ (swp d k (k + 1)) = rotR f a (a + 1) (k + 2) := by
  funext x
  rw [at_swp d (by omega) (by omega), h]
  unfold rotR
  by_cases q : x = k + 1
  · rw [if_pos q, if_neg (by omega), if_pos (by omega), if_neg (by omega), if_pos (by omega)]
    congr 1
    omega
  · rw [if_neg q]
    by_cases q2 : x = k
    · rw [if_pos q2, if_neg (by omega), if_neg (by omega), if_pos (by omega)]
      congr 1
      omega
    · rw [if_neg q2]
      by_cases q3 : a ≤ x ∧ x < k
      · rw [if_pos (by omega), if_pos (by omega)]
      · rw [if_neg (by omega), if_neg (by omega), if_neg (by omega), if_neg (by omega)]
/-- A step of the last one's way down. -/
theorem rot_down (f : Nat → α) (d : Array α) {m k : Nat} (h : at_ d = rotR f (k + 1) m (m + 1)) (hk : k + 1 ≤ m) (hs : m < d.size) : at_ (swp d (k + 1) k) = rotR f k m (m + 1) := by
  funext x
  rw [at_swp d (by omega) (by omega), h]
  unfold rotR
  by_cases q : x = k
  · rw [if_pos q, if_pos (by omega), if_pos (by omega)]
    congr 1
    omega
  · rw [if_neg q]
    by_cases q2 : x = k + 1
    · rw [if_pos q2, if_neg (by omega), if_neg (by omega), if_neg (by omega), if_pos (by omega)]
      congr 1
      omega
    · rw [if_neg q2]
      by_cases q3 : k + 1 < x ∧ x < m + 1
      · rw [if_neg (by omega), if_pos (by omega), if_neg (by omega), if_pos (by omega)]
      · rw [if_neg (by omega), if_neg (by omega), if_neg (by omega), if_neg (by omega)]

variable {r : α → α → Prop} {tag : α → Nat} {c : α → α → Bool}
/-- Amid an insertion: all but the one at j stand in order, and it stands ahead of all behind it. -/
structure Insd (r : α → α → Prop) (tag : α → Nat) (a j i : Nat) (f : Nat → α) : Prop where
  rest : ∀ p q, a ≤ p → p < q → q ≤ i → p ≠ j → q ≠ j → r (f p) (f q)
  up : ∀ q, j < q → q ≤ i → r (f j) (f q)
  tags : ∀ p, a ≤ p → p < j → tag (f p) < tag (f j)
theorem insd_inner (hf : Fair r tag c) (ht : ∀ x y z, r x y → r y z → r x z) {a i : Nat} : ∀ (j : Nat) (d : Array α), a ≤ j → j ≤ i → i < d.size → Insd r tag a j i (at_ d) →
    Ordd r a (i + 1) (at_ (insInner c a j d)) ∧ Shuf a (i + 1) (at_ d) (at_ (insInner c a j d)) ∧ (insInner c a j d).size = d.size := by
  intro j
  induction j with
  | zero =>
    intro d h1 h2 h3 h
    rw [insInner_stop c a 0 d (.inl (by omega))]
    refine ⟨fun p q p1 p2 p3 => ?_, Shuf.refl _ _ _, rfl⟩
    by_cases e : p = 0
    · subst e; exact h.up q p2 (by omega)
    · exact h.rest p q p1 p2 (by omega) e (by omega)
  | succ j ih =>
    intro d h1 h2 h3 h
    by_cases e : j + 1 ≤ a ∨ c d[j + 1]! d[j + 1 - 1]! = false
    · rw [insInner_stop c a (j + 1) d e]
      refine ⟨fun p q p1 p2 p3 => ?_, Shuf.refl _ _ _, rfl⟩
      by_cases e1 : p = j + 1
      · subst e1; exact h.up q p2 (by omega)
      · by_cases e2 : q = j + 1
        · subst e2
          rcases e with e | e
          · exfalso; omega
          · have k0 : r (at_ d j) (at_ d (j + 1)) := (hf _ _ (h.tags j (by omega) (by omega))).2 e
            by_cases e3 : p = j
            · subst e3; exact k0
            · exact ht _ _ _ (h.rest p j p1 (by omega) (by omega) e1 (by omega)) k0
        · exact h.rest p q p1 p2 (by omega) e1 e2
    · have e1 : a < j + 1 := by
        rcases Nat.lt_or_ge a (j + 1) with q | q
        · exact q
        · exact absurd (.inl q) e
      have e2 : c d[j + 1]! d[j + 1 - 1]! = true := by
        cases hq : c d[j + 1]! d[j + 1 - 1]! with
        | true => rfl
        | false => exact absurd (.inr hq) e
      rw [insInner_go c a (j + 1) d e1 e2]
      rw [Nat.add_sub_cancel] at e2 ⊢
      have k0 : r (at_ d (j + 1)) (at_ d j) := (hf _ _ (h.tags j (by omega) (by omega))).1 e2
      have es := fun k => at_swp d (show j + 1 < d.size by omega) (show j < d.size by omega) k
      have hn : Insd r tag a j i (at_ (swp d (j + 1) j)) := by
        refine ⟨fun p q p1 p2 p3 p4 p5 => ?_, fun q q1 q2 => ?_, fun p p1 p2 => ?_⟩
        · rw [es p, es q, if_neg p4, if_neg p5]
          by_cases q1 : p = j + 1
          · rw [if_pos q1, if_neg (by omega)]
            exact h.rest j q (by omega) (by omega) p3 (by omega) (by omega)
          · rw [if_neg q1]
            by_cases q2 : q = j + 1
            · rw [if_pos q2]
              exact h.rest p j p1 (by omega) (by omega) q1 (by omega)
            · rw [if_neg q2]
              exact h.rest p q p1 p2 p3 q1 q2
        · rw [es j, es q, if_pos rfl, if_neg (by omega)]
          by_cases q3 : q = j + 1
          · rw [if_pos q3]; exact k0
          · rw [if_neg q3]; exact h.up q (by omega) q2
        · rw [es p, es j, if_neg (by omega), if_neg (by omega), if_pos rfl]
          exact h.tags p p1 (by omega)
      obtain ⟨r1, r2, r3⟩ := ih (swp d (j + 1) j) (by omega) (by omega) (by rw [swp_size]; exact h3) hn
      exact ⟨r1, (shuf_swp d (show i + 1 ≤ d.size by omega) (by omega) (by omega) (by omega) (by omega)).trans r2, by rw [r3, swp_size]⟩
theorem insd_outer (hf : Fair r tag c) (ht : ∀ x y z, r x y → r y z → r x z) {a b : Nat} {d0 : Array α} (hb : b ≤ d0.size) (hm : ∀ p q, a ≤ p → p < q → q < b → tag (at_ d0 p) < tag (at_ d0 q)) : ∀ (k i : Nat) (d : Array α), k = b - i → a < i → d.size = d0.size →
    Ordd r a i (at_ d) → Shuf a i (at_ d0) (at_ d) → i ≤ b → Ordd r a b (at_ (insOuter c a b i d)) ∧ Shuf a b (at_ d0) (at_ (insOuter c a b i d)) ∧ (insOuter c a b i d).size = d0.size := by
  intro k
  induction k with
  | zero =>
    intro i d hk h1 hs ho hh hi
    have : i = b := by omega
    subst this
    rw [insOuter_stop c a i i d (by omega)]
    exact ⟨ho, hh, hs⟩
  | succ k ih =>
    intro i d hk h1 hs ho hh hi
    rw [insOuter_go c a b i d (by omega)]
    have h0 : Insd r tag a i i (at_ d) := by
      refine ⟨fun p q p1 p2 p3 p4 p5 => ho p q p1 p2 (by omega), fun q q1 q2 => by omega, fun p p1 p2 => ?_⟩
      obtain ⟨p', q1, q2, e⟩ := hh.there p p1 p2
      rw [e, hh.out i (.inr (Nat.le_refl _))]
      exact hm p' i q1 (by omega) (by omega)
    obtain ⟨r1, r2, r3⟩ := insd_inner hf ht i d (by omega) (Nat.le_refl _) (by omega) h0
    exact ih (i + 1) _ (by omega) (by omega) (r3.trans hs) r1 ((hh.mono (Nat.le_refl _) (by omega)).trans r2) (by omega)
/-- An insertion sort of elements whose marks rise: in order, and what it held. -/
theorem insertion_stable (hf : Fair r tag c) (ht : ∀ x y z, r x y → r y z → r x z) {a b : Nat} (d : Array α) (hab : a ≤ b) (hb : b ≤ d.size) (hm : ∀ p q, a ≤ p → p < q → q < b → tag (at_ d p) < tag (at_ d q)) :
    Ordd r a b (at_ (insertionSort c d a b)) ∧ Shuf a b (at_ d) (at_ (insertionSort c d a b)) ∧ (insertionSort c d a b).size = d.size := by
  unfold insertionSort
  rcases Nat.lt_or_ge a b with h | h
  · exact insd_outer hf ht hb hm (b - (a + 1)) (a + 1) d rfl (by omega) rfl (fun p q p1 p2 p3 => by omega) (Shuf.refl _ _ _) (by omega)
  · rw [insOuter_stop c a b (a + 1) d (by omega)]
    exact ⟨fun p q p1 p2 p3 => by omega, Shuf.refl _ _ _, rfl⟩
end
end Go.Proofs.YtlnhbndghnkfmaaGreatDoor
