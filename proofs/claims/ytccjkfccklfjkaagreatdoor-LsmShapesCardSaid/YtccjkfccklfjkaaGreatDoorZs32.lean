/- Plain mathematics of the library's insertion sort: it is stable. The library's stable sort, at changes: what it is told; exchanges of rows, rotations. -/
import Derived.Test.YtccjkfccklfjkaaGreatDoorZs31
import Derived.Sort.LotA
import Derived.Test.YtccjkfccklfjkaaGreatDoorZs05
import Derived.Shelf.SlSortCmp.KitK
import Derived.Deep.LoopGhost
namespace Go.Proofs.YtccjkfccklfjkaaGreatDoor
open Go.Sort

section
variable {α : Type} [Inhabited α]
/-- An array's places. -/
def at_ (d : Array α) : Nat → α := fun i => d[i]!
theorem at_swp (d : Array α) {i j : Nat} (hi : i < d.size) (hj : j < d.size) (k : Nat) : at_ (swp d i j) k = if k = j then at_ d i else if k = i then at_ d j else at_ d k := swp_get d hi hj k
theorem shuf_swp (d : Array α) {a b i j : Nat} (hb : b ≤ d.size) (h1 : a ≤ i) (h2 : i < b) (h3 : a ≤ j) (h4 : j < b) : Shuf a b (at_ d) (at_ (swp d i j)) := by
  have e := fun k => at_swp d (show i < d.size by omega) (show j < d.size by omega) k
  refine ⟨fun k hk => ?_, fun k k1 k2 => ?_, fun k k1 k2 => ?_⟩
  · rw [e, if_neg (by omega), if_neg (by omega)]
  · by_cases q : k = j
    · exact ⟨i, h1, h2, by rw [e, if_pos q]⟩
    · by_cases q2 : k = i
      · exact ⟨j, h3, h4, by rw [e, if_neg q, if_pos q2]⟩
      · exact ⟨k, k1, k2, by rw [e, if_neg q, if_neg q2]⟩
  · by_cases q : k = j
    · by_cases q2 : i = j
      · exact ⟨j, h3, h4, by rw [e, if_pos rfl, q, q2]⟩
      · exact ⟨i, h1, h2, by rw [e, if_neg q2, if_pos rfl, q]⟩
    · by_cases q2 : k = i
      · exact ⟨j, h3, h4, by rw [e, if_pos rfl, q2]⟩
      · exact ⟨k, k1, k2, by rw [e, if_neg q, if_neg q2]⟩
/-- The exchange of one place more. -/
theorem swapR_swp (f : Nat → α) (d : Array α) {a b n : Nat} (h : at_ d = swapR f a b n) (hb : a + n < b) (hs : b + n < d.size) : at_ (swp d (a + n) (b + n)) = swapR f a b (n + 1) := by
  funext k
  rw [at_swp d (by omega) (by omega), h]
  unfold swapR
  by_cases q : k = b + n
  · rw [if_pos q, if_neg (by omega), if_neg (by omega), if_neg (by omega), if_pos (by omega)]
    congr 1
    omega
  · rw [if_neg q]
    by_cases q2 : k = a + n
    · rw [if_pos q2, if_neg (by omega), if_neg (by omega), if_pos (by omega)]
      congr 1
      omega
    · rw [if_neg q2]
      by_cases q3 : a ≤ k ∧ k < a + n
      · rw [if_pos q3, if_pos (by omega)]
      · rw [if_neg q3]
        by_cases q4 : b ≤ k ∧ k < b + n
        · rw [if_pos q4, if_neg (by omega), if_pos (by omega)]
        · rw [if_neg q4, if_neg (by omega), if_neg (by omega)]
/-- A step of the first one's way up. -/
theorem rot_up (f : Nat → α) (d : Array α) {a k : Nat} (h : at_ d = rotR f a (a + 1) (k + 1)) (ha : a ≤ k) (hs : k + 1 < d.size) : at_ (swp d k (k + 1)) = rotR f a (a + 1) (k + 2) := by
  funext x
  rw [at_swp d (by omega) (by omega), h]
  unfold rotR
  by_cases q : x = k + 1
  · rw [if_pos q, if_neg (by omega), if_pos (by omega), if_neg (by omega), if_pos (by omega)]
    congr 1
    omega
  · rw [if_neg q]
    by_cases q2 : x = k
    · rw [if_pos q2, if_neg (by omega), if_neg (by omega), if_pos (by omega)]
      congr 1
      omega
    · rw [if_neg q2]
      by_cases q3 : a ≤ x ∧ x < k
      · rw [if_pos (by omega), if_pos (by omega)]
      · rw [if_neg (by omega), if_neg (by omega), if_neg (by omega), if_neg (by omega)]
/-- A step of the last one's way down. -/
theorem rot_down (f : Nat → α) (d : Array α) {m k : Nat} (h : at_ d = rotR f (k + 1) m (m + 1)) (hk : k + 1 ≤ m) (hs : m < d.size) : at_ (swp d (k + 1) k) = rotR f k m (m + 1) := by
  funext x
  rw [at_swp d (by omega) (by omega), h]
  unfold rotR
  by_cases q : x = k
  · rw [if_pos q, if_pos (by omega), if_pos (by omega)]
    congr 1
    omega
  · rw [if_neg q]
    by_cases q2 : x = k + 1
    · rw [if_pos q2, if_neg (by omega), if_neg (by omega), if_neg (by omega), if_pos (by omega)]
      congr 1
      omega
    · rw [if_neg q2]
      by_cases q3 : k + 1 < x ∧ x < m + 1
      · rw [if_neg (by omega), if_pos (by omega), if_neg (by omega), if_pos (by omega)]
      · rw [if_neg (by omega), if_neg (by omega), if_neg (by omega), if_neg (by omega)]

variable {r : α → α → Prop} {tag : α → Nat} {c : α → α → Bool}
/-- Amid an insertion: all but the one at j stand in order, and it stands ahead of all behind it. -/
structure Insd (r : α → α → Prop) (tag : α → Nat) (a j i : Nat) (f : Nat → α) : Prop where
  rest : ∀ p q, a ≤ p → p < q → q ≤ i → p ≠ j → q ≠ j → r (f p) (f q)
  up : ∀ q, j < q → q ≤ i → r (f j) (f q)
  tags : ∀ p, a ≤ p → p < j → tag (f p) < tag (f j)
theorem insd_inner (hf : Fair r tag c) (ht : ∀ x y z, r x y → r y z → r x z) {a i : Nat} : ∀ (j : Nat) (d : Array α), a ≤ j → j ≤ i → i < d.size → Insd r tag a j i (at_ d) →
    Ordd r a (i + 1) (at_ (insInner c a j d)) ∧ Shuf a (i + 1) (at_ d) (at_ (insInner c a j d)) ∧ (insInner c a j d).size = d.size := by
  intro j
  induction j with
  | zero =>
    intro d h1 h2 h3 h
    rw [insInner_stop c a 0 d (.inl (by omega))]
    refine ⟨fun p q p1 p2 p3 => ?_, Shuf.refl _ _ _, rfl⟩
    by_cases e : p = 0
    · subst e; exact h.up q p2 (by omega)
    · exact h.rest p q p1 p2 (by omega) e (by omega)
  | succ j ih =>
    intro d h1 h2 h3 h
    by_cases e : j + 1 ≤ a ∨ c d[j + 1]! d[j + 1 - 1]! = false
    · rw [insInner_stop c a (j + 1) d e]
      refine ⟨fun p q p1 p2 p3 => ?_, Shuf.refl _ _ _, rfl⟩
      by_cases e1 : p = j + 1
      · subst e1; exact h.up q p2 (by omega)
      · by_cases e2 : q = j + 1
        · subst e2
          rcases e with e | e
          · exfalso; omega
          · have k0 : r (at_ d j) (at_ d (j + 1)) := (hf _ _ (h.tags j (by omega) (by omega))).2 e
            by_cases e3 : p = j
            · subst e3; exact k0
            · exact ht _ _ _ (h.rest p j p1 (by omega) (by omega) e1 (by omega)) k0
        · exact h.rest p q p1 p2 (by omega) e1 e2
    · have e1 : a < j + 1 := by
        rcases Nat.lt_or_ge a (j + 1) with q | q
        · exact q
        · exact absurd (.inl q) e
      have e2 : c d[j + 1]! d[j + 1 - 1]! = true := by
        cases hq : c d[j + 1]! d[j + 1 - 1]! with
        | true => rfl
        | false => exact absurd (.inr hq) e
      rw [insInner_go c a (j + 1) d e1 e2]
      rw [Nat.add_sub_cancel] at e2 ⊢
      have k0 : r (at_ d (j + 1)) (at_ d j) := (hf _ _ (h.tags j (by omega) (by omega))).1 e2
      have es := fun k => at_swp d (show j + 1 < d.size by omega) (show j < d.size by omega) k
      have hn : Insd r tag a j i (at_ (swp d (j + 1) j)) := by
        refine ⟨fun p q p1 p2 p3 p4 p5 => ?_, fun q q1 q2 => ?_, fun p p1 p2 => ?_⟩
        · rw [es p, es q, if_neg p4, if_neg p5]
          by_cases q1 : p = j + 1
          · rw [if_pos q1, if_neg (by omega)]
            exact h.rest j q (by omega) (by omega) p3 (by omega) (by omega)
          · rw [if_neg q1]
            by_cases q2 : q = j + 1
            · rw [if_pos q2]
              exact h.rest p j p1 (by omega) (by omega) q1 (by omega)
            · rw [if_neg q2]
              exact h.rest p q p1 p2 p3 q1 q2
        · rw [es j, es q, if_pos rfl, if_neg (by omega)]
          by_cases q3 : q = j + 1
          · rw [if_pos q3]; exact k0
          · rw [if_neg q3]; exact h.up q (by omega) q2
        · rw [es p, es j, if_neg (by omega), if_neg (by omega), if_pos rfl]
          exact h.tags p p1 (by omega)
      obtain ⟨r1, r2, r3⟩ := ih (swp d (j + 1) j) (by omega) (by omega) (by rw [swp_size]; exact h3) hn
      exact ⟨r1, (shuf_swp d (show i + 1 ≤ d.size by omega) (by omega) (by omega) (by omega) (by omega)).trans r2, by rw [r3, swp_size]⟩
theorem insd_outer (hf : Fair r tag c) (ht : ∀ x y z, r x y → r y z → r x z) {a b : Nat} {d0 : Array α} (hb : b ≤ d0.size) (hm : ∀ p q, a ≤ p → p < q → q < b → tag (at_ d0 p) < tag (at_ d0 q)) : ∀ (k i : Nat) (d : Array α), k = b - i → a < i → d.size = d0.size →
    Ordd r a i (at_ d) → Shuf a i (at_ d0) (at_ d) → i ≤ b → Ordd r a b (at_ (insOuter c a b i d)) ∧ Shuf a b (at_ d0) (at_ (insOuter c a b i d)) ∧ (insOuter c a b i d).size = d0.size := by
  intro k
  induction k with
  | zero =>
    intro i d hk h1 hs ho hh hi
    have : i = b := by omega
    subst this
    rw [insOuter_stop c a i i d (by omega)]
    exact ⟨ho, hh, hs⟩
  | succ k ih =>
    intro i d hk h1 hs ho hh hi
    rw [insOuter_go c a b i d (by omega)]
    have h0 : Insd r tag a i i (at_ d) := by
      refine ⟨fun p q p1 p2 p3 p4 p5 => ho p q p1 p2 (by omega), fun q q1 q2 => by omega, fun p p1 p2 => ?_⟩
      obtain ⟨p', q1, q2, e⟩ := hh.there p p1 p2
      rw [e, hh.out i (.inr (Nat.le_refl _))]
      exact hm p' i q1 (by omega) (by omega)
    obtain ⟨r1, r2, r3⟩ := insd_inner hf ht i d (by omega) (Nat.le_refl _) (by omega) h0
    exact ih (i + 1) _ (by omega) (by omega) (r3.trans hs) r1 ((hh.mono (Nat.le_refl _) (by omega)).trans r2) (by omega)
/-- An insertion sort of elements whose marks rise: in order, and what it held. -/
theorem insertion_stable (hf : Fair r tag c) (ht : ∀ x y z, r x y → r y z → r x z) {a b : Nat} (d : Array α) (hab : a ≤ b) (hb : b ≤ d.size) (hm : ∀ p q, a ≤ p → p < q → q < b → tag (at_ d p) < tag (at_ d q)) :
    Ordd r a b (at_ (insertionSort c d a b)) ∧ Shuf a b (at_ d) (at_ (insertionSort c d a b)) ∧ (insertionSort c d a b).size = d.size := by
  unfold insertionSort
  rcases Nat.lt_or_ge a b with h | h
  · exact insd_outer hf ht hb hm (b - (a + 1)) (a + 1) d rfl (by omega) rfl (fun p q p1 p2 p3 => by omega) (Shuf.refl _ _ _) (by omega)
  · rw [insOuter_stop c a b (a + 1) d (by omega)]
    exact ⟨fun p q p1 p2 p3 => by omega, Shuf.refl _ _ _, rfl⟩
end
end Go.Proofs.YtccjkfccklfjkaaGreatDoor
namespace Go.Proofs.YtccjkfccklfjkaaGreatDoor
open Go.Shelf Go.RowKit Go.Lib Go.Sort

instance : Inhabited CR := ⟨⟨⟨#[]⟩, ⟨#[]⟩, false⟩⟩
/-- A change and its mark. -/
abbrev TC := CR × Nat
def encT (x : TC) : List Value := ccell x.1
theorem encT_len (x : TC) : (encT x).length = 3 := rfl
theorem aggChange (w : World) : (isAgg 70).run Tryz.prog w = .ok true w := Tryz.isAgg70 w
theorem sizeChange (w : World) : (Go.sizeOf 70).run Tryz.prog w = .ok 3 w := Tryz.sizeOf70 w
theorem mixedA : Tryz.prog.follows .mixedOrders = true := by kernel_rfl
/-- A world of the sort's, and what is told of the row. -/
structure SW3 {α : Type} [Inhabited α] (enc : α → List Value) (k : Nat) (w0 : World) (blk off : Nat) (d0 d : Array α) (w : World) : Prop where
  size : ∀ w, (Go.sizeOf 70).run Tryz.prog w = .ok k w
  row : RowK enc k w0 blk off d0
  same : d.size = d0.size
  sw : SWK enc k w0 blk off d w

set_option maxRecDepth 1000000 in
set_option maxHeartbeats 4000000 in
theorem swapRange_any {α : Type} [Inhabited α] (enc : α → List Value) (k : Nat) (fv : Value) (blk off cap a b n : Nat) (d0 d : Array α) (w0 w : World) (S : SW3 enc k w0 blk off d0 d w) (h1 : a + n ≤ b) (h2 : b + n ≤ d.size) (hsz : d.size < 4611686018427387904) :
    Calls Tryz.prog 186 #[.slice (some ⟨blk, off, none⟩) d.size cap, .int .i64 (a : Int), .int .i64 (b : Int), .int .i64 (n : Int), fv] w fun e w' => e = .returned (.tuple #[]) ∧ ∃ d', SW3 enc k w0 blk off d0 d' w' ∧ at_ d' = swapR (at_ d) a b n := by
  have R := S.row
  have ZE := Lib.hid S.size
  have HSZ : Hid (d.size = d0.size) := Lib.hid S.same
  have S0 : Aside (SWK enc k w0 blk off d w) := S.sw
  have zE := S.size
  clear S
  have mixed := mixedA
  have aE := aggChange
  go_enter Tryz.func186, Tryz.ntmps186
  go_wp2_with fail
  go_loopg [10] n (fun kx s10 wr => ∃ (i : Nat) (dk : Array α), s10 = .int .i64 (i : Int) ∧ i ≤ n ∧ n - i ≤ kx ∧ Aside (SWK enc k w0 blk off dk wr) ∧ Hid (dk.size = d.size) ∧ Hid (at_ dk = swapR (at_ d) a b i))
  case atStart => exact ⟨0, d, rfl, by omega, by omega, S0, Lib.hid rfl, Lib.hid (swapR_zero _ _ _).symm⟩
  case round =>
    clear S0
    obtain ⟨i, dk, rfl, hi, hkx, S1, HDS, HAT⟩ := hrel
    by_cases hlt : i < n
    · have t0 : (i : Int) < (n : Int) := by omega
      have ea : ((a : Int) + (i : Int)).toNat = a + i := by omega
      have pa : (0 : Int) ≤ (a : Int) + (i : Int) := by omega
      have ba : (a : Int) + (i : Int) < (d.size : Int) := by omega
      have ra : IntKind.i64.wrap ((a : Int) + (i : Int)) = (a : Int) + (i : Int) := by rw [IntKind.wrap_i64]; omega
      have ec : ((b : Int) + (i : Int)).toNat = b + i := by omega
      have pc : (0 : Int) ≤ (b : Int) + (i : Int) := by omega
      have bc : (b : Int) + (i : Int) < (d.size : Int) := by omega
      have rc : IntKind.i64.wrap ((b : Int) + (i : Int)) = (b : Int) + (i : Int) := by rw [IntKind.wrap_i64]; omega
      have hds := HDS.out
      have hs := HSZ.out
      have S2 : Aside (SWK enc k w0 blk off (swp dk (a + i) (b + i)) ((wr.drew.setCells blk (off + (a + i) * k) (enc dk[b + i]!)).setCells blk (off + (b + i) * k) (enc dk[a + i]!))) := S1.out.swapped R (a + i) (b + i) (by omega) (by omega)
      have la := S1.out.ld1 R (by omega) Tryz.prog (a + i) (by omega)
      have lb := S1.out.ld1 R (by omega) Tryz.prog (b + i) (by omega)
      have sa := S1.out.st1 R (by omega) Tryz.prog (a + i) (by omega) dk[b + i]!
      have sb := S1.out.st2 R (by omega) Tryz.prog (a + i) (b + i) (by omega) (by omega) dk[b + i]! dk[a + i]!
      have na : (enc dk[a + i]!).length = k := R.hk _
      have nb : (enc dk[b + i]!).length = k := R.hk _
      have HAT2 : Hid (at_ (swp dk (a + i) (b + i)) = swapR (at_ d) a b (i + 1)) := Lib.hid (swapR_swp _ _ HAT.out (by omega) (by omega))
      have HDS2 : Hid ((swp dk (a + i) (b + i)).size = d.size) := Lib.hid (by rw [size_swp]; exact hds)
      generalize swp dk (a + i) (b + i) = dn at S2 HAT2 HDS2
      generalize enc dk[a + i]! = cI at S2 la sb na
      generalize enc dk[b + i]! = cJ at S2 lb sa sb nb
      clear S1 hds hs
      go_wp2_with fail
      go_big_region_o
      clear la lb sa sb
      generalize (wr.drew.setCells blk (off + (a + i) * k) cJ).setCells blk (off + (b + i) * k) cI = w2 at S2 ⊢
      go_wp2
      go_roundg (n - (i + 1))
      case measure => omega
      case rel => exact ⟨i + 1, dn, by go_num, by omega, Nat.le_refl _, S2, HDS2, HAT2⟩
    · have t0 : ¬ (i : Int) < (n : Int) := by omega
      have e : i = n := by omega
      have HE := Lib.hid e
      clear e
      go_wp2
      go_end0
      refine ⟨rfl, dk, ⟨ZE.out, R, by rw [HDS.out]; exact HSZ.out, S1.out⟩, ?_⟩
      rw [HAT.out, HE.out]
theorem swapRange_at {α : Type} [Inhabited α] (enc : α → List Value) (k : Nat) (fv : Value) (blk off cap a b n : Nat) (za zb zn : Int) (zs : Nat) (ha : za = (a : Int)) (hb : zb = (b : Int)) (hn : zn = (n : Int)) (d0 d : Array α) (w0 w : World) (S : SW3 enc k w0 blk off d0 d w)
    (hz : zs = d.size) (h1 : a + n ≤ b) (h2 : b + n ≤ d.size) (hsz : d.size < 4611686018427387904) :
    Calls Tryz.prog 186 #[.slice (some ⟨blk, off, none⟩) zs cap, .int .i64 za, .int .i64 zb, .int .i64 zn, fv] w fun e w' => e = .returned (.tuple #[]) ∧ ∃ d', SW3 enc k w0 blk off d0 d' w' ∧ at_ d' = swapR (at_ d) a b n := by
  subst ha hb hn hz
  exact swapRange_any enc k fv blk off cap a b n d0 d w0 w S h1 h2 hsz

set_option maxRecDepth 1000000 in
set_option maxHeartbeats 4000000 in
theorem rotate_any {α : Type} [Inhabited α] (enc : α → List Value) (k : Nat) (fv : Value) (blk off cap a m b : Nat) (d0 d : Array α) (w0 w : World) (S : SW3 enc k w0 blk off d0 d w) (h1 : a < m) (h2 : m < b) (h3 : b ≤ d.size) (hsz : d.size < 4611686018427387904) :
    Calls Tryz.prog 178 #[.slice (some ⟨blk, off, none⟩) d.size cap, .int .i64 (a : Int), .int .i64 (m : Int), .int .i64 (b : Int), fv] w fun e w' => e = .returned (.tuple #[]) ∧ ∃ d', SW3 enc k w0 blk off d0 d' w' ∧ at_ d' = rotR (at_ d) a m b := by
  have S0 := Lib.hid S
  have HSZ := Lib.hid S.same
  obtain ⟨N, hN⟩ : ∃ N, N = d.size := ⟨_, rfl⟩
  rw [← hN] at h3 hsz ⊢
  have HN := Lib.hid hN
  clear S hN
  go_enter Tryz.func178, Tryz.ntmps178
  go_wp2_with fail
  go_loopg [10, 11] (b - a) (fun kx s10 s11 wr => ∃ (i j : Nat) (dk : Array α), s10 = .int .i64 (i : Int) ∧ s11 = .int .i64 (j : Int) ∧ 1 ≤ i ∧ 1 ≤ j ∧ a + i ≤ m ∧ m + j ≤ b ∧ i + j ≤ kx ∧ Hid (SW3 enc k w0 blk off d0 dk wr) ∧ Hid (dk.size = d.size) ∧ Hid (rotR (at_ d) a m b = rotR (at_ dk) (m - i) m (m + j)))
  case atStart => exact ⟨m - a, b - m, d, by go_num, by go_num, by omega, by omega, by omega, by omega, by omega, S0, Lib.hid rfl, Lib.hid (by rw [show m - (m - a) = a by omega, show m + (b - m) = b by omega])⟩
  case round =>
    clear S0
    obtain ⟨i, j, dk, rfl, rfl, hi, hj, him, hjm, hkx, S1, HDS, HAT⟩ := hrel
    have hds := HDS.out.trans HN.out.symm
    have HD := Lib.hid hds
    have w1 : IntKind.i64.wrap ((m : Int) - (i : Int)) = (m : Int) - (i : Int) := by rw [IntKind.wrap_i64]; omega
    have w2 : IntKind.i64.wrap ((m : Int) + (j : Int)) = (m : Int) + (j : Int) := by rw [IntKind.wrap_i64]; omega
    have w3 : IntKind.i64.wrap ((m : Int) + (j : Int) - (i : Int)) = (m : Int) + (j : Int) - (i : Int) := by rw [IntKind.wrap_i64]; omega
    have w4 : IntKind.i64.wrap ((j : Int) - (i : Int)) = (j : Int) - (i : Int) := by rw [IntKind.wrap_i64]; omega
    have w5 : IntKind.i64.wrap ((i : Int) - (j : Int)) = (i : Int) - (j : Int) := by rw [IntKind.wrap_i64]; omega
    rcases Nat.lt_trichotomy i j with h | h | h
    · have t0 : ((i : Int) == (j : Int)) = false := by rw [beq_eq_false_iff_ne]; omega
      have t1 : ¬ (j : Int) < (i : Int) := by omega
      have H1 := Lib.hid (swapRange_at enc k fv blk off cap (m - i) (m + j - i) i ((m : Int) - (i : Int)) ((m : Int) + (j : Int) - (i : Int)) (i : Int) N (by omega) (by omega) rfl d0 dk w0 wr S1.out hds.symm (by omega) (by omega) (by omega))
      have HR := Lib.hid (fun (dn : Array α) (e : at_ dn = swapR (at_ dk) (m - i) (m + j - i) i) => HAT.out.trans ((rot_short (at_ dk) (show i ≤ m by omega) h).trans (by rw [← e])))
      clear hds
      go_wp2_with fail
      refine H1.out.mono ?_
      rintro e w2 ⟨rfl, dn, S2, hat⟩
      have S3 := Lib.hid S2
      have HA2 := Lib.hid hat
      have HZ : Hid (dn.size = d.size) := Lib.hid (S2.same.trans HSZ.out.symm)
      clear S2 hat
      go_wp2
      go_roundg j
      case measure => omega
      case rel => exact ⟨i, j - i, dn, rfl, by go_num, hi, by omega, him, by omega, by omega, S3, HZ, Lib.hid (HR.out dn HA2.out)⟩
    · have t0 : ((i : Int) == (j : Int)) = true := by rw [h]; simp
      have H1 := Lib.hid (swapRange_at enc k fv blk off cap (m - i) m i ((m : Int) - (i : Int)) (m : Int) (i : Int) N (by omega) rfl rfl d0 dk w0 wr S1.out hds.symm (by omega) (by omega) (by omega))
      have HR : Hid (rotR (at_ d) a m b = swapR (at_ dk) (m - i) m i) := Lib.hid (by rw [HAT.out, ← h]; exact rot_even (at_ dk) (by omega))
      clear hds h
      go_wp2_with fail
      refine H1.out.mono ?_
      rintro e w2 ⟨rfl, dn, S2, hat⟩
      have S3 := Lib.hid S2
      have HA2 := Lib.hid hat
      clear S2 hat
      go_wp2
      go_end0
      exact ⟨rfl, dn, S3.out, by rw [HR.out]; exact HA2.out⟩
    · have t0 : ((i : Int) == (j : Int)) = false := by rw [beq_eq_false_iff_ne]; omega
      have t1 : (j : Int) < (i : Int) := by omega
      have H1 := Lib.hid (swapRange_at enc k fv blk off cap (m - i) m j ((m : Int) - (i : Int)) (m : Int) (j : Int) N (by omega) rfl rfl d0 dk w0 wr S1.out hds.symm (by omega) (by omega) (by omega))
      have HR := Lib.hid (fun (dn : Array α) (e : at_ dn = swapR (at_ dk) (m - i) m j) => HAT.out.trans ((rot_long (at_ dk) (show i ≤ m by omega) h).trans (by rw [← e])))
      clear hds
      go_wp2_with fail
      refine H1.out.mono ?_
      rintro e w2 ⟨rfl, dn, S2, hat⟩
      have S3 := Lib.hid S2
      have HA2 := Lib.hid hat
      have HZ : Hid (dn.size = d.size) := Lib.hid (S2.same.trans HSZ.out.symm)
      clear S2 hat
      go_wp2
      go_roundg i
      case measure => omega
      case rel => exact ⟨i - j, j, dn, by go_num, rfl, by omega, hj, by omega, hjm, by omega, S3, HZ, Lib.hid (by have := HR.out dn HA2.out; rwa [show m - i + j = m - (i - j) by omega] at this)⟩
end Go.Proofs.YtccjkfccklfjkaaGreatDoor
