/- The library's stable sort, at changes: what it is told; exchanges of rows, rotations. The library's stable sort, at changes: two orders are merged in place. -/
import Derived.Test.YtlnhbndghnkfmaaGreatDoorZm30
import Derived.Test.YtlnhbndghnkfmaaGreatDoorZm05
import Derived.Shelf.SlSortCmp.KitK
import Derived.Deep.LoopGhost
namespace Go.Proofs.YtlnhbndghnkfmaaGreatDoor
open Go.Shelf Go.RowKit Go.Lib Go.Sort

instance : Inhabited CR := ⟨⟨⟨#[]⟩, ⟨#[]⟩, false⟩⟩
/-- A change and its mark. -/
abbrev TC := CR × Nat
def encT (x : TC) : List Value := ccell x.1
theorem encT_len (x : TC) : (encT x).length = 3 := rfl
theorem aggChange (w : World) : (isAgg 70).run Tryz.prog w = .ok true w := Tryz.isAgg70 w
theorem sizeChange (w : World) : (Go.sizeOf 70).run Tryz.prog w = .ok 3 w := Tryz.sizeOf70 w
theorem mixedA : Tryz.prog.follows .mixedOrders = true := by kernel_rfl
/-- A world of the sort's, and what is told of the row. -/
structure SW3 {α : Type} [Inhabited α] (enc : α → List Value) (k : Nat) (w0 : World) (blk off : Nat) (d0 d : Array α) (w : World) : Prop where
  size : ∀ w, (Go.sizeOf 70).run Tryz.prog w = .ok k w
  row : RowK enc k w0 blk off d0
  same : d.size = d0.size
  sw : SWK enc k w0 blk off d w

set_option maxRecDepth 1000000 in
set_option maxHeartbeats 4000000 in
theorem swapRange_any {α : Type} [Inhabited α] (enc : α → List Value) (k : Nat) (fv : Value) (blk off cap a b n : Nat) (d0 d : Array α) (w0 w : World) (S : SW3 enc k w0 blk off d0 d w) (h1 : a + n ≤ b) (h2 : b + n ≤ d.size) (hsz : d.size < 4611686018427387904) :
    Calls Tryz.prog 186 #[.slice (some ⟨blk, off, none⟩) d.size cap, .int .i64 (a : Int), .int .i64 (b : Int), .int .i64 (n : Int), fv] w fun e w' => e = .returned (.tuple #[]) ∧ ∃ d', SW3 enc k w0 blk off d0 d' w' ∧ at_ d' = swapR (at_ d) a b n := by
  have R := S.row
  have ZE := Lib.hid S.size
  have HSZ : Hid (d.size = d0.size) := Lib.hid S.same
  have S0 : Aside (SWK enc k w0 blk off d w) := S.sw
  have zE := S.size
  clear S
  have mixed := mixedA
  have aE := aggChange
  go_enter Tryz.func186, Tryz.ntmps186
  go_wp2_with fail
  go_loopg [10] n (fun kx s10 wr => ∃ (i : Nat) (dk : Array α), s10 = .int .i64 (i : Int) ∧ i ≤ n ∧ n - i ≤ kx ∧ Aside (SWK enc k w0 blk off dk wr) ∧ Hid (dk.size = d.size) ∧ Hid (at_ dk = swapR (at_ d) a b i))
  case atStart => exact ⟨0, d, rfl, by omega, by omega, S0, Lib.hid rfl, Lib.hid (swapR_zero _ _ _).symm⟩
  case round =>
    clear S0
    obtain ⟨i, dk, rfl, hi, hkx, S1, HDS, HAT⟩ := hrel
    by_cases hlt : i < n
    · have t0 : (i : Int) < (n : Int) := by omega
      have ea : ((a : Int) + (i : Int)).toNat = a + i := by omega
      have pa : (0 : Int) ≤ (a : Int) + (i : Int) := by omega
      have ba : (a : Int) + (i : Int) < (d.size : Int) := by omega
      have ra : IntKind.i64.wrap ((a : Int) + (i : Int)) = (a : Int) + (i : Int) := by rw [IntKind.wrap_i64]; omega
      have ec : ((b : Int) + (i : Int)).toNat = b + i := by omega
      have pc : (0 : Int) ≤ (b : Int) + (i : Int) := by omega
      have bc : (b : Int) + (i : Int) < (d.size : Int) := by omega
      have rc : IntKind.i64.wrap ((b : Int) + (i : Int)) = (b : Int) + (i : Int) := by rw [IntKind.wrap_i64]; omega
      have hds := HDS.out
      have hs := HSZ.out
      have S2 : Aside (SWK enc k w0 blk off (swp dk (a + i) (b + i)) ((wr.drew.setCells blk (off + (a + i) * k) (enc dk[b + i]!)).setCells blk (off + (b + i) * k) (enc dk[a + i]!))) := S1.out.swapped R (a + i) (b + i) (by omega) (by omega)
      have la := S1.out.ld1 R (by omega) Tryz.prog (a + i) (by omega)
      have lb := S1.out.ld1 R (by omega) Tryz.prog (b + i) (by omega)
      have sa := S1.out.st1 R (by omega) Tryz.prog (a + i) (by omega) dk[b + i]!
      have sb := S1.out.st2 R (by omega) Tryz.prog (a + i) (b + i) (by omega) (by omega) dk[b + i]! dk[a + i]!
      have na : (enc dk[a + i]!).length = k := R.hk _
      have nb : (enc dk[b + i]!).length = k := R.hk _
      have HAT2 : Hid (at_ (swp dk (a + i) (b + i)) = swapR (at_ d) a b (i + 1)) := Lib.hid (swapR_swp _ _ HAT.out (by omega) (by omega))
      have HDS2 : Hid ((swp dk (a + i) (b + i)).size = d.size) := Lib.hid (by rw [size_swp]; exact hds)
      generalize swp dk (a + i) (b + i) = dn at S2 HAT2 HDS2
      generalize enc dk[a + i]! = cI at S2 la sb na
      generalize enc dk[b + i]! = cJ at S2 lb sa sb nb
      clear S1 hds hs
      go_wp2_with fail
      go_big_region_o
      clear la lb sa sb
      generalize (wr.drew.setCells blk (off + (a + i) * k) cJ).setCells blk (off + (b + i) * k) cI = w2 at S2 ⊢
      go_wp2
      go_roundg (n - (i + 1))
      case measure => omega
      case rel => exact ⟨i + 1, dn, by go_num, by omega, Nat.le_refl _, S2, HDS2, HAT2⟩
    · have t0 : ¬ (i : Int) < (n : Int) := by omega
      have e : i = n := by omega
      have HE := Lib.hid e
      clear e
      go_wp2
      go_end0
      refine ⟨rfl, dk, ⟨ZE.out, R, by rw [HDS.out]; exact HSZ.out, S1.out⟩, ?_⟩
      rw [HAT.out, HE.out]
theorem swapRange_at {α : Type} [Inhabited α] (enc : α → List Value) (k : Nat) (fv : Value) (blk off cap a b n : Nat) (za zb zn : Int) (zs : Nat) (ha : za = (a : Int)) (hb : zb = (b : Int)) (hn : zn = (n : Int)) (d0 d : Array α) (w0 w : World) (S : SW3 enc k w0 blk off d0 d w)
    (hz : zs = d.size) (h1 : a + n ≤ b) (h2 : b + n ≤ d.size) (hsz : d.size < 4611686018427387904) :
    Calls Tryz.prog 186 #[.slice (some ⟨blk, off, none⟩) zs cap, .int .i64 za, .int .i64 zb, .int .i64 zn, fv] w fun e w' => e = .returned (.tuple #[]) ∧ ∃ d', SW3 enc k w0 blk off d0 d' w' ∧ at_ d' = swapR (at_ d) a b n := by
  subst ha hb hn hz
  exact swapRange_any enc k fv blk off cap a b n d0 d w0 w S h1 h2 hsz

set_option maxRecDepth 1000000 in
set_option maxHeartbeats 4000000 in
theorem rotate_any {α : Type} [Inhabited α] (enc : α → List Value) (k : Nat) (fv : Value) (blk off cap a m b : Nat) (d0 d : Array α) (w0 w : World) (S : SW3 enc k w0 blk off d0 d w) (h1 : a < m) (h2 : m < b) (h3 : b ≤ d.size) (hsz : d.size < 4611686018427387904) :
    Calls Tryz.prog 178 #[.slice (some ⟨blk, off, none⟩) d.size cap, .int .i64 (a : Int), .int .i64 (m : Int), .int .i64 (b : Int), fv] w fun e w' => e = .returned (.tuple #[]) ∧ ∃ d', SW3 enc k w0 blk off d0 d' w' ∧ at_ d' = rotR (at_ d) a m b := by
  have S0 := Lib.hid S
  have HSZ := Lib.hid S.same
  obtain ⟨N, hN⟩ : ∃ N, N = d.size := ⟨_, rfl⟩
  rw [← hN] at h3 hsz ⊢
  have HN := Lib.hid hN
  clear S hN
  go_enter Tryz.func178, Tryz.ntmps178
  go_wp2_with fail
  go_loopg [10, 11] (b - a) (fun kx s10 s11 wr => ∃ (i j : Nat) (dk : Array α), s10 = .int .i64 (i : Int) ∧ s11 = .int .i64 (j : Int) ∧ 1 ≤ i ∧ 1 ≤ j ∧ a + i ≤ m ∧ m + j ≤ b ∧ i + j ≤ kx ∧ Hid (SW3 enc k w0 blk off d0 dk wr) ∧ Hid (dk.size = d.size) ∧ Hid (rotR (at_ d) a m b = rotR (at_ dk) (m - i) m (m + j)))
  case atStart => exact ⟨m - a, b - m, d, by go_num, by go_num, by omega, by omega, by omega, by omega, by omega, S0, Lib.hid rfl, Lib.hid (by rw [show m - (m - a) = a by omega, show m + (b - m) = b by omega])⟩
  case round =>
    clear S0
    obtain ⟨i, j, dk, rfl, rfl, hi, hj, him, hjm, hkx, S1, HDS, HAT⟩ := hrel
    have hds := HDS.out.trans HN.out.symm
    have HD := Lib.hid hds
    have w1 : IntKind.i64.wrap ((m : Int) - (i : Int)) = (m : Int) - (i : Int) := by rw [IntKind.wrap_i64]; omega
    have w2 : IntKind.i64.wrap ((m : Int) + (j : Int)) = (m : Int) + (j : Int) := by rw [IntKind.wrap_i64]; omega
    have w3 : IntKind.i64.wrap ((m : Int) + (j : Int) - (i : Int)) = (m : Int) + (j : Int) - (i : Int) := by rw [IntKind.wrap_i64]; omega
    have w4 : IntKind.i64.wrap ((j : Int) - (i : Int)) = (j : Int) - (i : Int) := by rw [IntKind.wrap_i64]; omega
    have w5 : IntKind.i64.wrap ((i : Int) - (j : Int)) = (i : Int) - (j : Int) := by rw [IntKind.wrap_i64]; omega
    rcases Nat.lt_trichotomy i j with h | h | h
    · have t0 : ((i : Int) == (j : Int)) = false := by rw [beq_eq_false_iff_ne]; omega
      have t1 : ¬ (j : Int) < (i : Int) := by omega
      have H1 := Lib.hid (swapRange_at enc k fv blk off cap (m - i) (m + j - i) i ((m : Int) - (i : Int)) ((m : Int) + (j : Int) - (i : Int)) (i : Int) N (by omega) (by omega) rfl d0 dk w0 wr S1.out hds.symm (by omega) (by omega) (by omega))
      have HR := Lib.hid (fun (dn : Array α) (e : at_ dn = swapR (at_ dk) (m - i) (m + j - i) i) => HAT.out.trans ((rot_short (at_ dk) (show i ≤ m by omega) h).trans (by rw [← e])))
      clear hds
      go_wp2_with fail
      refine H1.out.mono ?_
      rintro e w2 ⟨rfl, dn, S2, hat⟩
      have S3 := Lib.hid S2
      have HA2 := Lib.hid hat
      have HZ : Hid (dn.size = d.size) := Lib.hid (S2.same.trans HSZ.out.symm)
      clear S2 hat
      go_wp2
      go_roundg j
      case measure => omega
      case rel => exact ⟨i, j - i, dn, rfl, by go_num, hi, by omega, him, by omega, by omega, S3, HZ, Lib.hid (HR.out dn HA2.out)⟩
    · have t0 : ((i : Int) == (j : Int)) = true := by rw [h]; simp
      have H1 := Lib.hid (swapRange_at enc k fv blk off cap (m - i) m i ((m : Int) - (i : Int)) (m : Int) (i : Int) N (by omega) rfl rfl d0 dk w0 wr S1.out hds.symm (by omega) (by omega) (by omega))
      have HR : Hid (rotR (at_ d) a m b = swapR (at_ dk) (m - i) m i) := Lib.hid (by rw [HAT.out, ← h]; exact rot_even (at_ dk) (by omega))
      clear hds h
      go_wp2_with fail
      refine H1.out.mono ?_
      rintro e w2 ⟨rfl, dn, S2, hat⟩
      have S3 := Lib.hid S2
      have HA2 := Lib.hid hat
      clear S2 hat
      go_wp2
      go_end0
      exact ⟨rfl, dn, S3.out, by rw [HR.out]; exact HA2.out⟩
    · have t0 : ((i : Int) == (j : Int)) = false := by rw [beq_eq_false_iff_ne]; omega
      have t1 : (j : Int) < (i : Int) := by omega
      have H1 := Lib.hid (swapRange_at enc k fv blk off cap (m - i) m j ((m : Int) - (i : Int)) (m : Int) (j : Int) N (by omega) rfl rfl d0 dk w0 wr S1.out hds.symm (by omega) (by omega) (by omega))
      have HR := Lib.hid (fun (dn : Array α) (e : at_ dn = swapR (at_ dk) (m - i) m j) => HAT.out.trans ((rot_long (at_ dk) (show i ≤ m by omega) h).trans (by rw [← e])))
      clear hds
      go_wp2_with fail
      refine H1.out.mono ?_
      rintro e w2 ⟨rfl, dn, S2, hat⟩
      have S3 := Lib.hid S2
      have HA2 := Lib.hid hat
      have HZ : Hid (dn.size = d.size) := Lib.hid (S2.same.trans HSZ.out.symm)
      clear S2 hat
      go_wp2
      go_roundg i
      case measure => omega
      case rel => exact ⟨i - j, j, dn, by go_num, rfl, by omega, hj, by omega, hjm, by omega, S3, HZ, Lib.hid (by have := HR.out dn HA2.out; rwa [show m - i + j = m - (i - j) by omega] at this)⟩
end Go.Proofs.YtlnhbndghnkfmaaGreatDoor
namespace Go.Proofs.YtlnhbndghnkfmaaGreatDoor
open Go.Shelf Go.RowKit Go.Lib Go.Sort

section
variable {α : Type} {r : α → α → Prop} {tag : α → Nat} {cf : α → α → Int}
/-- What the sort is told, once. -/
structure Told [Inhabited α] (r : α → α → Prop) (tag : α → Nat) (cf : α → α → Int) (enc : α → List Value) (k g : Nat) (cb : Array Value) (w0 : World) (blk off : Nat) (d0 : Array α) : Prop where
  trans : ∀ x y z, r x y → r y z → r x z
  fair : Fair r tag (ltOf cf)
  cmp : CmpLays Tryz.prog g cb enc k cf blk off d0.size w0
  enters : ∀ args w, (callFunc g args).run Tryz.prog w = .ok (.enter g args) w
  room : d0.size < 4611686018427387904
/-- Behind a merge. -/
def Merged [Inhabited α] (r : α → α → Prop) (enc : α → List Value) (k : Nat) (w0 : World) (blk off a b : Nat) (d0 d : Array α) (w' : World) : Prop := ∃ d', SW3 enc k w0 blk off d0 d' w' ∧ Ordd r a b (at_ d') ∧ Shuf a b (at_ d) (at_ d')

/-- The search for the first one's place. -/
structure SrchA (r : α → α → Prop) (a b : Nat) (f : Nat → α) (i j : Nat) : Prop where
  i1 : a + 1 ≤ i
  ij : i ≤ j
  j1 : j ≤ b
  low : ∀ q, a + 1 ≤ q → q < i → r (f q) (f a)
  high : ∀ q, j ≤ q → q < b → r (f a) (f q)
theorem srchA_up {c : α → α → Bool} (ht : ∀ x y z, r x y → r y z → r x z) (hf : Fair r tag c) {a b i j : Nat} {f : Nat → α} (w : Two r tag a (a + 1) b f) (h : SrchA r a b f i j) (hij : i < j) (hc : c (f ((i + j) / 2)) (f a) = true) : SrchA r a b f ((i + j) / 2 + 1) j := by
  obtain ⟨h1, h2, h3, h4, h5⟩ := h
  have k0 := (hf _ _ (w.tags a ((i + j) / 2) (Nat.le_refl _) (by omega) (by omega) (by omega))).1 hc
  refine ⟨by omega, by omega, h3, fun q q1 q2 => ?_, h5⟩
  by_cases e : q = (i + j) / 2
  · subst e; exact k0
  · exact ht _ _ _ (w.right q ((i + j) / 2) q1 (by omega) (by omega)) k0
theorem srchA_down {c : α → α → Bool} (ht : ∀ x y z, r x y → r y z → r x z) (hf : Fair r tag c) {a b i j : Nat} {f : Nat → α} (w : Two r tag a (a + 1) b f) (h : SrchA r a b f i j) (hij : i < j) (hc : c (f ((i + j) / 2)) (f a) = false) : SrchA r a b f i ((i + j) / 2) := by
  obtain ⟨h1, h2, h3, h4, h5⟩ := h
  have k0 := (hf _ _ (w.tags a ((i + j) / 2) (Nat.le_refl _) (by omega) (by omega) (by omega))).2 hc
  refine ⟨h1, by omega, by omega, h4, fun q q1 q2 => ?_⟩
  by_cases e : q = (i + j) / 2
  · subst e; exact k0
  · exact ht _ _ _ k0 (w.right ((i + j) / 2) q (by omega) (by omega) q2)
/-- The search for the last one's place. -/
structure SrchB (r : α → α → Prop) (a m : Nat) (f : Nat → α) (i j : Nat) : Prop where
  i1 : a ≤ i
  ij : i ≤ j
  j1 : j ≤ m
  low : ∀ q, a ≤ q → q < i → r (f q) (f m)
  high : ∀ q, j ≤ q → q < m → r (f m) (f q)
theorem srchB_up {c : α → α → Bool} (ht : ∀ x y z, r x y → r y z → r x z) (hf : Fair r tag c) {a m i j : Nat} {f : Nat → α} (w : Two r tag a m (m + 1) f) (h : SrchB r a m f i j) (hij : i < j) (hc : c (f m) (f ((i + j) / 2)) = false) : SrchB r a m f ((i + j) / 2 + 1) j := by
  obtain ⟨h1, h2, h3, h4, h5⟩ := h
  have k0 := (hf _ _ (w.tags ((i + j) / 2) m (by omega) (by omega) (Nat.le_refl _) (by omega))).2 hc
  refine ⟨by omega, by omega, h3, fun q q1 q2 => ?_, h5⟩
  by_cases e : q = (i + j) / 2
  · subst e; exact k0
  · exact ht _ _ _ (w.left q ((i + j) / 2) q1 (by omega) (by omega)) k0
theorem srchB_down {c : α → α → Bool} (ht : ∀ x y z, r x y → r y z → r x z) (hf : Fair r tag c) {a m i j : Nat} {f : Nat → α} (w : Two r tag a m (m + 1) f) (h : SrchB r a m f i j) (hij : i < j) (hc : c (f m) (f ((i + j) / 2)) = true) : SrchB r a m f i ((i + j) / 2) := by
  obtain ⟨h1, h2, h3, h4, h5⟩ := h
  have k0 := (hf _ _ (w.tags ((i + j) / 2) m (by omega) (by omega) (Nat.le_refl _) (by omega))).1 hc
  refine ⟨h1, by omega, by omega, h4, fun q q1 q2 => ?_⟩
  by_cases e : q = (i + j) / 2
  · subst e; exact k0
  · exact ht _ _ _ k0 (w.left ((i + j) / 2) q (by omega) (by omega) (by omega))

variable [Inhabited α]
set_option maxRecDepth 1000000 in
set_option maxHeartbeats 4000000 in
/-- One element ahead of an order. -/
theorem mergeA (enc : α → List Value) (k g : Nat) (cb : Array Value) (blk off cap a b : Nat) (d0 d : Array α) (w0 w : World) (T : Told r tag cf enc k g cb w0 blk off d0) (S : SW3 enc k w0 blk off d0 d w) (W : Two r tag a (a + 1) b (at_ d)) (h1 : a + 1 < b) (h2 : b ≤ d.size) :
    Calls Tryz.prog 165 #[.slice (some ⟨blk, off, none⟩) d.size cap, .int .i64 (a : Int), .int .i64 ((a + 1 : Nat) : Int), .int .i64 (b : Int), .func (.func g) #[] cb] w fun e w' => e = .returned (.tuple #[]) ∧ Merged r enc k w0 blk off a b d0 d w' := by
  have S0 := Lib.hid S
  have HSZ := Lib.hid S.same
  have R := S.row
  have zE := S.size
  have mixed := mixedA
  have aE := aggChange
  have eg := T.enters
  have HT := Lib.hid T
  have HW := Lib.hid W
  have hroom := T.room
  obtain ⟨N, hN⟩ : ∃ N, N = d.size := ⟨_, rfl⟩
  have HN := Lib.hid hN
  have hN0 : N = d0.size := hN.trans S.same
  rw [← hN0] at hroom
  have HN0 := Lib.hid hN0
  rw [← hN] at h2 ⊢
  have w1 : IntKind.i64.wrap ((a : Int) + 1 - (a : Int)) = 1 := by rw [IntKind.wrap_i64]; omega
  have e1 : (((a : Int) + 1 - (a : Int)) == 1) = true := by rw [show (a : Int) + 1 - (a : Int) = 1 by omega]; rfl
  clear S hN T W hN0
  go_enter Tryz.func165, Tryz.ntmps165
  go_wp2_with fail
  go_loopg [10, 11] (b - a) (fun kx s10 s11 wr => ∃ (i j : Nat), s10 = .int .i64 (i : Int) ∧ s11 = .int .i64 (j : Int) ∧ i ≤ j ∧ j ≤ b ∧ j - i ≤ kx ∧ Hid (SrchA r a b (at_ d) i j) ∧ Hid (SW3 enc k w0 blk off d0 d wr))
  case atStart => exact ⟨a + 1, b, by go_num, rfl, by omega, by omega, by omega, Lib.hid ⟨Nat.le_refl _, by omega, Nat.le_refl _, fun _ _ _ => by omega, fun _ _ _ => by omega⟩, S0⟩
  case round =>
    clear S0
    obtain ⟨i, j, rfl, rfl, hij, hjb, hkx, HS, S1⟩ := hrel
    by_cases hlt : i < j
    · have hi1 := HS.out.i1
      obtain ⟨h, hh⟩ : ∃ h, h = (i + j) / 2 := ⟨_, rfl⟩
      have eh : ((i : Int) + (j : Int)) / 2 = (h : Int) := by omega
      have hb1 : h < j := by omega
      have hb2 : i ≤ h := by omega
      have ea : ((h : Int)).toNat = h := by omega
      have pa : (0 : Int) ≤ (h : Int) := by omega
      have ba : (h : Int) < (N : Int) := by omega
      have ec : ((a : Int)).toNat = a := by omega
      have pc : (0 : Int) ≤ (a : Int) := by omega
      have bc : (a : Int) < (N : Int) := by omega
      have hhd : h < d.size := by rw [← HN.out]; omega
      have had : a < d.size := by rw [← HN.out]; omega
      have la := S1.out.sw.ld R HSZ.out Tryz.prog h hhd
      have lb := S1.out.sw.ld R HSZ.out Tryz.prog a had
      have hc := S1.out.sw.cmp HT.out.cmp HSZ.out d[h]! d[a]!
      have HUP : Hid (ltOf cf (at_ d h) (at_ d a) = true → SrchA r a b (at_ d) (h + 1) j) := Lib.hid (by rw [hh]; exact fun e => srchA_up HT.out.trans HT.out.fair HW.out HS.out hlt e)
      have HDN : Hid (ltOf cf (at_ d h) (at_ d a) = false → SrchA r a b (at_ d) i h) := Lib.hid (by rw [hh]; exact fun e => srchA_down HT.out.trans HT.out.fair HW.out HS.out hlt e)
      have HC : Hid (ltOf cf (at_ d h) (at_ d a) = decide (cf d[h]! d[a]! < 0)) := Lib.hid rfl
      obtain ⟨x, hx⟩ : ∃ x, x = d[h]! := ⟨_, rfl⟩
      obtain ⟨y, hy⟩ : ∃ y, y = d[a]! := ⟨_, rfl⟩
      rw [← hx] at la hc HC
      rw [← hy] at lb hc HC
      clear hx hy hh hhd had
      by_cases hv : cf x y < 0
      · have hd : decide (cf x y < 0) = true := decide_eq_true hv
        have HS2 := Lib.hid (HUP.out (HC.out.trans hd))
        clear HUP HDN
        go_wp2_with fail
        go_quiet_grown (first | (go_at_fn g; refine Calls.grown_of (hc _ _)))
        have S2 : Hid (SW3 enc k w0 blk off d0 d (grow (wr.drewN nq) osq)) := Lib.hid ⟨S1.out.size, S1.out.row, S1.out.same, S1.out.sw.grown nq osq⟩
        clear la lb hc S1
        generalize grow (wr.drewN nq) osq = w2 at S2 ⊢
        clear nq osq
        go_wp2
        go_roundg (j - (h + 1))
        case measure => omega
        case rel => exact ⟨h + 1, j, by go_num, rfl, by omega, hjb, Nat.le_refl _, HS2, S2⟩
      · have hd : decide (cf x y < 0) = false := decide_eq_false hv
        have HS2 := Lib.hid (HDN.out (HC.out.trans hd))
        clear HUP HDN
        go_wp2_with fail
        go_quiet_grown (first | (go_at_fn g; refine Calls.grown_of (hc _ _)))
        have S2 : Hid (SW3 enc k w0 blk off d0 d (grow (wr.drewN nq) osq)) := Lib.hid ⟨S1.out.size, S1.out.row, S1.out.same, S1.out.sw.grown nq osq⟩
        clear la lb hc S1
        generalize grow (wr.drewN nq) osq = w2 at S2 ⊢
        clear nq osq
        go_wp2
        go_roundg (h - i)
        case measure => omega
        case rel => exact ⟨i, h, rfl, rfl, by omega, by omega, Nat.le_refl _, HS2, S2⟩
    · have hje : j = i := by omega
      have HS2 : Hid (SrchA r a b (at_ d) i i) := Lib.hid (by have := HS.out; rwa [hje] at this)
      have hi1 := HS.out.i1
      have hib : i ≤ b := by omega
      clear hje HS
      go_wp2_with fail
      go_loopg [13] (i - a) (fun kx s13 wr => ∃ (q : Nat) (dk : Array α), s13 = .int .i64 (q : Int) ∧ a ≤ q ∧ q + 1 ≤ i ∧ i - 1 - q ≤ kx ∧ Hid (SW3 enc k w0 blk off d0 dk wr) ∧ Hid (at_ dk = rotR (at_ d) a (a + 1) (q + 1)))
      case atStart => exact ⟨a, d, rfl, Nat.le_refl _, by omega, by omega, S1, Lib.hid (rotR_none2 _).symm⟩
      case round =>
        clear S1
        obtain ⟨q, dk, rfl, hq1, hq2, hkq, S3, HAT⟩ := hrel
        have w2 : IntKind.i64.wrap ((i : Int) - 1) = (i : Int) - 1 := by rw [IntKind.wrap_i64]; omega
        by_cases hlq : q + 1 < i
        · have t0 : (q : Int) < (i : Int) - 1 := by omega
          have ea : ((q : Int)).toNat = q := by omega
          have pa : (0 : Int) ≤ (q : Int) := by omega
          have ba : (q : Int) < (N : Int) := by omega
          have ra : IntKind.i64.wrap (q : Int) = (q : Int) := by rw [IntKind.wrap_i64]; omega
          have ec : ((q : Int) + 1).toNat = q + 1 := by omega
          have pc : (0 : Int) ≤ (q : Int) + 1 := by omega
          have bc : (q : Int) + 1 < (N : Int) := by omega
          have rc : IntKind.i64.wrap ((q : Int) + 1) = (q : Int) + 1 := by rw [IntKind.wrap_i64]; omega
          have hds : dk.size = d0.size := S3.out.same
          have hsz := HN0.out
          have S4 : Aside (SWK enc k w0 blk off (swp dk q (q + 1)) ((wr.drew.setCells blk (off + q * k) (enc dk[q + 1]!)).setCells blk (off + (q + 1) * k) (enc dk[q]!))) := S3.out.sw.swapped R q (q + 1) (by omega) (by omega)
          have la := S3.out.sw.ld1 R hds Tryz.prog q (by omega)
          have lb := S3.out.sw.ld1 R hds Tryz.prog (q + 1) (by omega)
          have sa := S3.out.sw.st1 R hds Tryz.prog q (by omega) dk[q + 1]!
          have sb := S3.out.sw.st2 R hds Tryz.prog q (q + 1) (by omega) (by omega) dk[q + 1]! dk[q]!
          have na : (enc dk[q]!).length = k := R.hk _
          have nb : (enc dk[q + 1]!).length = k := R.hk _
          have HAT2 : Hid (at_ (swp dk q (q + 1)) = rotR (at_ d) a (a + 1) (q + 1 + 1)) := Lib.hid (rot_up _ _ HAT.out hq1 (by omega))
          have HDS2 : Hid ((swp dk q (q + 1)).size = d0.size) := Lib.hid (by rw [size_swp]; exact hds)
          have SZ3 := Lib.hid S3.out.size
          generalize swp dk q (q + 1) = dn at S4 HAT2 HDS2
          generalize enc dk[q]! = cI at S4 la sb na
          generalize enc dk[q + 1]! = cJ at S4 lb sa sb nb
          clear S3 hds hsz
          go_wp2_with fail
          go_big_region_o
          clear la lb sa sb
          generalize (wr.drew.setCells blk (off + q * k) cJ).setCells blk (off + (q + 1) * k) cI = w3 at S4 ⊢
          go_wp2
          go_roundg (i - 1 - (q + 1))
          case measure => omega
          case rel => exact ⟨q + 1, dn, by go_num, by omega, by omega, Nat.le_refl _, Lib.hid ⟨SZ3.out, R, HDS2.out, S4.out⟩, HAT2⟩
        · have t0 : ¬ (q : Int) < (i : Int) - 1 := by omega
          have hqi : q + 1 = i := by omega
          have HAT2 : Hid (at_ dk = rotR (at_ d) a (a + 1) i) := Lib.hid (by rw [← hqi]; exact HAT.out)
          clear hqi
          go_wp2
          (try simp only [Exit.inBlock, Exit.then]); refine bodyPost_ret (results_none rfl _ _ _) rfl ?_
          refine ⟨rfl, dk, S3.out, ?_, ?_⟩
          · rw [HAT2.out]
            exact two_one HT.out.trans HW.out hi1 hib HS2.out.low HS2.out.high
          · rw [HAT2.out]
            exact (shuf_rot (at_ d) (Nat.le_succ a) hi1).mono (Nat.le_refl _) hib
end
end Go.Proofs.YtlnhbndghnkfmaaGreatDoor
