/- The library's stable sort, at changes: two orders are merged in place. The library's stable sort, at changes: one element behind an order. -/
import Derived.Test.YtccjkfccklfjkaaGreatDoorZs32
namespace Go.Proofs.YtccjkfccklfjkaaGreatDoor
open Go.Shelf Go.RowKit Go.Lib Go.Sort

section
variable {α : Type} {r : α → α → Prop} {tag : α → Nat} {cf : α → α → Int}
/-- What the sort is told, once. -/
structure Told [Inhabited α] (r : α → α → Prop) (tag : α → Nat) (cf : α → α → Int) (enc : α → List Value) (k g : Nat) (cb : Array Value) (w0 : World) (blk off : Nat) (d0 : Array α) : Prop where
  trans : ∀ x y z, r x y → r y z → r x z
  fair : Fair r tag (ltOf cf)
  cmp : CmpLays Tryz.prog g cb enc k cf blk off d0.size w0
  enters : ∀ args w, (callFunc g args).run Tryz.prog w = .ok (.enter g args) w
  room : d0.size < 4611686018427387904
/-- Behind a merge. -/
def Merged [Inhabited α] (r : α → α → Prop) (enc : α → List Value) (k : Nat) (w0 : World) (blk off a b : Nat) (d0 d : Array α) (w' : World) : Prop := ∃ d', SW3 enc k w0 blk off d0 d' w' ∧ Ordd r a b (at_ d') ∧ Shuf a b (at_ d) (at_ d')

/-- The search for the first one's place. -/
structure SrchA (r : α → α → Prop) (a b : Nat) (f : Nat → α) (i j : Nat) : Prop where
  i1 : a + 1 ≤ i
  ij : i ≤ j
  j1 : j ≤ b
  low : ∀ q, a + 1 ≤ q → q < i → r (f q) (f a)
  high : ∀ q, j ≤ q → q < b → r (f a) (f q)
theorem srchA_up {c : α → α → Bool} (ht : ∀ x y z, r x y → r y z → r x z) (hf : Fair r tag c) {a b i j : Nat} {f : Nat → α} (w : Two r tag a (a + 1) b f) (h : SrchA r a b f i j) (hij : i < j) (hc : c (f ((i + j) / 2)) (f a) = true) : SrchA r a b f ((i + j) / 2 + 1) j := by
  obtain ⟨h1, h2, h3, h4, h5⟩ := h
  have k0 := (hf _ _ (w.tags a ((i + j) / 2) (Nat.le_refl _) (by omega) (by omega) (by omega))).1 hc
  refine ⟨by omega, by omega, h3, fun q q1 q2 => ?_, h5⟩
  by_cases e : q = (i + j) / 2
  · subst e; exact k0
  · exact ht _ _ _ (w.right q ((i + j) / 2) q1 (by omega) (by omega)) k0
theorem srchA_down {c : α → α → Bool} (ht : ∀ x y z, r x y → r y z → r x z) (hf : Fair r tag c) {a b i j : Nat} {f : Nat → α} (w : Two r tag a (a + 1) b f) (h : SrchA r a b f i j) (hij : i < j) (hc : c (f ((i + j) / 2)) (f a) = false) : SrchA r a b f i ((i + j) / 2) := by
  obtain ⟨h1, h2, h3, h4, h5⟩ := h
  have k0 := (hf _ _ (w.tags a ((i + j) / 2) (Nat.le_refl _) (by omega) (by omega) (by omega))).2 hc
  refine ⟨h1, by omega, by omega, h4, fun q q1 q2 => ?_⟩
  by_cases e : q = (i + j) / 2
  · subst e; exact k0
  · exact ht _ _ _ k0 (w.right ((i + j) / 2) q (by omega) (by omega) q2)
/-- The search for the last one's place. -/
structure SrchB (r : α → α → Prop) (a m : Nat) (f : Nat → α) (i j : Nat) : Prop where
  i1 : a ≤ i
  ij : i ≤ j
  j1 : j ≤ m
  low : ∀ q, a ≤ q → q < i → r (f q) (f m)
  high : ∀ q, j ≤ q → q < m → r (f m) (f q)
theorem srchB_up {c : α → α → Bool} (ht : ∀ x y z, r x y → r y z → r x z) (hf : Fair r tag c) {a m i j : Nat} {f : Nat → α} (w : Two r tag a m (m + 1) f) (h : SrchB r a m f i j) (hij : i < j) (hc : c (f m) (f ((i + j) / 2)) = false) : SrchB r a m f ((i + j) / 2 + 1) j := by
  obtain ⟨h1, h2, h3, h4, h5⟩ := h
  have k0 := (hf _ _ (w.tags ((i + j) / 2) m (by omega) (by omega) (Nat.le_refl _) (by omega))).2 hc
  refine ⟨by omega, by omega, h3, fun q q1 q2 => ?_, h5⟩
  by_cases e : q = (i + j) / 2
  · subst e; exact k0
  · exact ht _ _ _ (w.left q ((i + j) / 2) q1 (by omega) (by omega)) k0
theorem srchB_down {c : α → α → Bool} (ht : ∀ x y z, r x y → r y z → r x z) (hf : Fair r tag c) {a m i j : Nat} {f : Nat → α} (w : Two r tag a m (m + 1) f) (h : SrchB r a m f i j) (hij : i < j) (hc : c (f m) (f ((i + j) / 2)) = true) : SrchB r a m f i ((i + j) / 2) := by
  obtain ⟨h1, h2, h3, h4, h5⟩ := h
  have k0 := (hf _ _ (w.tags ((i + j) / 2) m (by omega) (by omega) (Nat.le_refl _) (by omega))).1 hc
  refine ⟨h1, by omega, by omega, h4, fun q q1 q2 => ?_⟩
  by_cases e : q = (i + j) / 2
  · subst e; exact k0
  · exact ht _ _ _ k0 (w.left ((i + j) / 2) q (by omega) (by omega) (by omega))

variable [Inhabited α]
set_option maxRecDepth 1000000 in
set_option maxHeartbeats 4000000 in
/-- One element ahead of an order. -/
theorem mergeA (enc : α → List Value) (k g : Nat) (cb : Array Value) (blk off cap a b : Nat) (d0 d : Array α) (w0 w : World) (T : Told r tag cf enc k g cb w0 blk off d0) (S : SW3 enc k w0 blk off d0 d w) (W : Two r tag a (a + 1) b (at_ d)) (h1 : a + 1 < b) (h2 : b ≤ d.size) :
    Calls Tryz.prog 165 #[.slice (some ⟨blk, off, none⟩) d.size cap, .int .i64 (a : Int), .int .i64 ((a + 1 : Nat) : Int), .int .i64 (b : Int), .func (.func g) #[] cb] w fun e w' => e = .returned (.tuple #[]) ∧ Merged r enc k w0 blk off a b d0 d w' := by
  have S0 := Lib.hid S
  have HSZ := Lib.hid S.same
  have R := S.row
  have zE := S.size
  have mixed := mixedA
  have aE := aggChange
  have eg := T.enters
  have HT := Lib.hid T
  have HW := Lib.hid W
  have hroom := T.room
  obtain ⟨N, hN⟩ : ∃ N, N = d.size := ⟨_, rfl⟩
  have HN := Lib.hid hN
  have hN0 : N = d0.size := hN.trans S.same
  rw [← hN0] at hroom
  have HN0 := Lib.hid hN0
  rw [← hN] at h2 ⊢
  have w1 : IntKind.i64.wrap ((a : Int) + 1 - (a : Int)) = 1 := by rw [IntKind.wrap_i64]; omega
  have e1 : (((a : Int) + 1 - (a : Int)) == 1) = true := by rw [show (a : Int) + 1 - (a : Int) = 1 by omega]; rfl
  clear S hN T W hN0
  go_enter Tryz.func165, Tryz.ntmps165
  go_wp2_with fail
  go_loopg [10, 11] (b - a) (fun kx s10 s11 wr => ∃ (i j : Nat), s10 = .int .i64 (i : Int) ∧ s11 = .int .i64 (j : Int) ∧ i ≤ j ∧ j ≤ b ∧ j - i ≤ kx ∧ Hid (SrchA r a b (at_ d) i j) ∧ Hid (SW3 enc k w0 blk off d0 d wr))
  case atStart => exact ⟨a + 1, b, by go_num, rfl, by omega, by omega, by omega, Lib.hid ⟨Nat.le_refl _, by omega, Nat.le_refl _, fun _ _ _ => by omega, fun _ _ _ => by omega⟩, S0⟩
  case round =>
    clear S0
    obtain ⟨i, j, rfl, rfl, hij, hjb, hkx, HS, S1⟩ := hrel
    by_cases hlt : i < j
    · have hi1 := HS.out.i1
      obtain ⟨h, hh⟩ : ∃ h, h = (i + j) / 2 := ⟨_, rfl⟩
      have eh : ((i : Int) + (j : Int)) / 2 = (h : Int) := by omega
      have hb1 : h < j := by omega
      have hb2 : i ≤ h := by omega
      have ea : ((h : Int)).toNat = h := by omega
      have pa : (0 : Int) ≤ (h : Int) := by omega
      have ba : (h : Int) < (N : Int) := by omega
      have ec : ((a : Int)).toNat = a := by omega
      have pc : (0 : Int) ≤ (a : Int) := by omega
      have bc : (a : Int) < (N : Int) := by omega
      have hhd : h < d.size := by rw [← HN.out]; omega
      have had : a < d.size := by rw [← HN.out]; omega
      have la := S1.out.sw.ld R HSZ.out Tryz.prog h hhd
      have lb := S1.out.sw.ld R HSZ.out Tryz.prog a had
      have hc := S1.out.sw.cmp HT.out.cmp HSZ.out d[h]! d[a]!
      have HUP : Hid (ltOf cf (at_ d h) (at_ d a) = true → SrchA r a b (at_ d) (h + 1) j) := Lib.hid (by rw [hh]; exact fun e => srchA_up HT.out.trans HT.out.fair HW.out HS.out hlt e)
      have HDN : Hid (ltOf cf (at_ d h) (at_ d a) = false → SrchA r a b (at_ d) i h) := Lib.hid (by rw [hh]; exact fun e => srchA_down HT.out.trans HT.out.fair HW.out HS.out hlt e)
      have HC : Hid (ltOf cf (at_ d h) (at_ d a) = decide (cf d[h]! d[a]! < 0)) := Lib.hid rfl
      obtain ⟨x, hx⟩ : ∃ x, x = d[h]! := ⟨_, rfl⟩
      obtain ⟨y, hy⟩ : ∃ y, y = d[a]! := ⟨_, rfl⟩
      rw [← hx] at la hc HC
      rw [← hy] at lb hc HC
      clear hx hy hh hhd had
      by_cases hv : cf x y < 0
      · have hd : decide (cf x y < 0) = true := decide_eq_true hv
        have HS2 := Lib.hid (HUP.out (HC.out.trans hd))
        clear HUP HDN
        go_wp2_with fail
        go_quiet_grown (first | (go_at_fn g; refine Calls.grown_of (hc _ _)))
        have S2 : Hid (SW3 enc k w0 blk off d0 d (grow (wr.drewN nq) osq)) := Lib.hid ⟨S1.out.size, S1.out.row, S1.out.same, S1.out.sw.grown nq osq⟩
        clear la lb hc S1
        generalize grow (wr.drewN nq) osq = w2 at S2 ⊢
        clear nq osq
        go_wp2
        go_roundg (j - (h + 1))
        case measure => omega
        case rel => exact ⟨h + 1, j, by go_num, rfl, by omega, hjb, Nat.le_refl _, HS2, S2⟩
      · have hd : decide (cf x y < 0) = false := decide_eq_false hv
        have HS2 := Lib.hid (HDN.out (HC.out.trans hd))
        clear HUP HDN
        go_wp2_with fail
        go_quiet_grown (first | (go_at_fn g; refine Calls.grown_of (hc _ _)))
        have S2 : Hid (SW3 enc k w0 blk off d0 d (grow (wr.drewN nq) osq)) := Lib.hid ⟨S1.out.size, S1.out.row, S1.out.same, S1.out.sw.grown nq osq⟩
        clear la lb hc S1
        generalize grow (wr.drewN nq) osq = w2 at S2 ⊢
        clear nq osq
        go_wp2
        go_roundg (h - i)
        case measure => omega
        case rel => exact ⟨i, h, rfl, rfl, by omega, by omega, Nat.le_refl _, HS2, S2⟩
    · have hje : j = i := by omega
      have HS2 : Hid (SrchA r a b (at_ d) i i) := Lib.hid (by have := HS.out; rwa [hje] at this)
      have hi1 := HS.out.i1
      have hib : i ≤ b := by omega
      clear hje HS
      go_wp2_with fail
      go_loopg [13] (i - a) (fun kx s13 wr => ∃ (q : Nat) (dk : Array α), s13 = .int .i64 (q : Int) ∧ a ≤ q ∧ q + 1 ≤ i ∧ i - 1 - q ≤ kx ∧ Hid (SW3 enc k w0 blk off d0 dk wr) ∧ Hid (at_ dk = rotR (at_ d) a (a + 1) (q + 1)))
      case atStart => exact ⟨a, d, rfl, Nat.le_refl _, by omega, by omega, S1, Lib.hid (rotR_none2 _).symm⟩
      case round =>
        clear S1
        obtain ⟨q, dk, rfl, hq1, hq2, hkq, S3, HAT⟩ := hrel
        have w2 : IntKind.i64.wrap ((i : Int) - 1) = (i : Int) - 1 := by rw [IntKind.wrap_i64]; omega
        by_cases hlq : q + 1 < i
        · have t0 : (q : Int) < (i : Int) - 1 := by omega
          have ea : ((q : Int)).toNat = q := by omega
          have pa : (0 : Int) ≤ (q : Int) := by omega
          have ba : (q : Int) < (N : Int) := by omega
          have ra : IntKind.i64.wrap (q : Int) = (q : Int) := by rw [IntKind.wrap_i64]; omega
          have ec : ((q : Int) + 1).toNat = q + 1 := by omega
          have pc : (0 : Int) ≤ (q : Int) + 1 := by omega
          have bc : (q : Int) + 1 < (N : Int) := by omega
          have rc : IntKind.i64.wrap ((q : Int) + 1) = (q : Int) + 1 := by rw [IntKind.wrap_i64]; omega
          have hds : dk.size = d0.size := S3.out.same
          have hsz := HN0.out
          have S4 : Aside (SWK enc k w0 blk off (swp dk q (q + 1)) ((wr.drew.setCells blk (off + q * k) (enc dk[q + 1]!)).setCells blk (off + (q + 1) * k) (enc dk[q]!))) := S3.out.sw.swapped R q (q + 1) (by omega) (by omega)
          have la := S3.out.sw.ld1 R hds Tryz.prog q (by omega)
          have lb := S3.out.sw.ld1 R hds Tryz.prog (q + 1) (by omega)
          have sa := S3.out.sw.st1 R hds Tryz.prog q (by omega) dk[q + 1]!
          have sb := S3.out.sw.st2 R hds Tryz.prog q (q + 1) (by omega) (by omega) dk[q + 1]! dk[q]!
          have na : (enc dk[q]!).length = k := R.hk _
          have nb : (enc dk[q + 1]!).length = k := R.hk _
          have HAT2 : Hid (at_ (swp dk q (q + 1)) = rotR (at_ d) a (a + 1) (q + 1 + 1)) := Lib.hid (rot_up _ _ HAT.out hq1 (by omega))
          have HDS2 : Hid ((swp dk q (q + 1)).size = d0.size) := Lib.hid (by rw [size_swp]; exact hds)
          have SZ3 := Lib.hid S3.out.size
          generalize swp dk q (q + 1) = dn at S4 HAT2 HDS2
          generalize enc dk[q]! = cI at S4 la sb na
          generalize enc dk[q + 1]! = cJ at S4 lb sa sb nb
          clear S3 hds hsz
          go_wp2_with fail
          go_big_region_o
          clear la lb sa sb
          generalize (wr.drew.setCells blk (off + q * k) cJ).setCells blk (off + (q + 1) * k) cI = w3 at S4 ⊢
          go_wp2
          go_roundg (i - 1 - (q + 1))
          case measure => omega
          case rel => exact ⟨q + 1, dn, by go_num, by omega, by omega, Nat.le_refl _, Lib.hid ⟨SZ3.out, R, HDS2.out, S4.out⟩, HAT2⟩
        · have t0 : ¬ (q : Int) < (i : Int) - 1 := by omega
          have hqi : q + 1 = i := by omega
          have HAT2 : Hid (at_ dk = rotR (at_ d) a (a + 1) i) := Lib.hid (by rw [← hqi]; exact HAT.out)
          clear hqi
          go_wp2
          (try simp only [Exit.inBlock, Exit.then]); refine bodyPost_ret (results_none rfl _ _ _) rfl ?_
          refine ⟨rfl, dk, S3.out, ?_, ?_⟩
          · rw [HAT2.out]
            exact two_one HT.out.trans HW.out hi1 hib HS2.out.low HS2.out.high
          · rw [HAT2.out]
            exact (shuf_rot (at_ d) (Nat.le_succ a) hi1).mono (Nat.le_refl _) hib
end
end Go.Proofs.YtccjkfccklfjkaaGreatDoor
namespace Go.Proofs.YtccjkfccklfjkaaGreatDoor
open Go.Shelf Go.RowKit Go.Lib Go.Sort

section
variable {α : Type} {r : α → α → Prop} {tag : α → Nat} {cf : α → α → Int} [Inhabited α]
set_option maxRecDepth 1000000 in
set_option maxHeartbeats 4000000 in
/-- One element behind an order. -/
theorem mergeB (enc : α → List Value) (k g : Nat) (cb : Array Value) (blk off cap a m : Nat) (d0 d : Array α) (w0 w : World) (T : Told r tag cf enc k g cb w0 blk off d0) (S : SW3 enc k w0 blk off d0 d w) (W : Two r tag a m (m + 1) (at_ d)) (h1 : a < m) (h0 : a + 1 ≠ m) (h2 : m + 1 ≤ d.size) :
    Calls Tryz.prog 165 #[.slice (some ⟨blk, off, none⟩) d.size cap, .int .i64 (a : Int), .int .i64 (m : Int), .int .i64 ((m + 1 : Nat) : Int), .func (.func g) #[] cb] w fun e w' => e = .returned (.tuple #[]) ∧ Merged r enc k w0 blk off a (m + 1) d0 d w' := by
  have S0 := Lib.hid S
  have HSZ := Lib.hid S.same
  have R := S.row
  have zE := S.size
  have mixed := mixedA
  have aE := aggChange
  have eg := T.enters
  have HT := Lib.hid T
  have HW := Lib.hid W
  have hroom := T.room
  obtain ⟨N, hN⟩ : ∃ N, N = d.size := ⟨_, rfl⟩
  have HN := Lib.hid hN
  have hN0 : N = d0.size := hN.trans S.same
  rw [← hN0] at hroom
  have HN0 := Lib.hid hN0
  rw [← hN] at h2 ⊢
  have w1 : IntKind.i64.wrap ((m : Int) - (a : Int)) = (m : Int) - (a : Int) := by rw [IntKind.wrap_i64]; omega
  have e1 : (((m : Int) - (a : Int)) == 1) = false := by rw [beq_eq_false_iff_ne]; omega
  have e2 : (((m : Int) + 1 - (m : Int)) == 1) = true := by rw [show (m : Int) + 1 - (m : Int) = 1 by omega]; rfl
  clear S hN T W hN0 h0
  go_enter Tryz.func165, Tryz.ntmps165
  go_wp2_with fail
  go_loopg [14, 15] (m - a) (fun kx s14 s15 wr => ∃ (i j : Nat), s14 = .int .i64 (i : Int) ∧ s15 = .int .i64 (j : Int) ∧ a ≤ i ∧ i ≤ j ∧ j ≤ m ∧ j - i ≤ kx ∧ Hid (SrchB r a m (at_ d) i j) ∧ Hid (SW3 enc k w0 blk off d0 d wr))
  case atStart => exact ⟨a, m, rfl, rfl, Nat.le_refl _, by omega, by omega, by omega, Lib.hid ⟨Nat.le_refl _, by omega, Nat.le_refl _, fun _ _ _ => by omega, fun _ _ _ => by omega⟩, S0⟩
  case round =>
    clear S0
    obtain ⟨i, j, rfl, rfl, hai, hij, hjb, hkx, HS, S1⟩ := hrel
    by_cases hlt : i < j
    · obtain ⟨h, hh⟩ : ∃ h, h = (i + j) / 2 := ⟨_, rfl⟩
      have eh : ((i : Int) + (j : Int)) / 2 = (h : Int) := by omega
      have hb1 : h < j := by omega
      have hb2 : i ≤ h := by omega
      have ea : ((h : Int)).toNat = h := by omega
      have pa : (0 : Int) ≤ (h : Int) := by omega
      have ba : (h : Int) < (N : Int) := by omega
      have ec : ((m : Int)).toNat = m := by omega
      have pc : (0 : Int) ≤ (m : Int) := by omega
      have bc : (m : Int) < (N : Int) := by omega
      have hhd : h < d.size := by rw [← HN.out]; omega
      have had : m < d.size := by rw [← HN.out]; omega
      have la := S1.out.sw.ld R HSZ.out Tryz.prog h hhd
      have lb := S1.out.sw.ld R HSZ.out Tryz.prog m had
      have hc := S1.out.sw.cmp HT.out.cmp HSZ.out d[m]! d[h]!
      have HUP : Hid (ltOf cf (at_ d m) (at_ d h) = false → SrchB r a m (at_ d) (h + 1) j) := Lib.hid (by rw [hh]; exact fun e => srchB_up HT.out.trans HT.out.fair HW.out HS.out hlt e)
      have HDN : Hid (ltOf cf (at_ d m) (at_ d h) = true → SrchB r a m (at_ d) i h) := Lib.hid (by rw [hh]; exact fun e => srchB_down HT.out.trans HT.out.fair HW.out HS.out hlt e)
      have HC : Hid (ltOf cf (at_ d m) (at_ d h) = decide (cf d[m]! d[h]! < 0)) := Lib.hid rfl
      obtain ⟨x, hx⟩ : ∃ x, x = d[m]! := ⟨_, rfl⟩
      obtain ⟨y, hy⟩ : ∃ y, y = d[h]! := ⟨_, rfl⟩
      rw [← hx] at lb hc HC
      rw [← hy] at la hc HC
      clear hx hy hh hhd had
      by_cases hv : cf x y < 0
      · have hd : decide (cf x y < 0) = true := decide_eq_true hv
        have HS2 := Lib.hid (HDN.out (HC.out.trans hd))
        clear HUP HDN
        go_wp2_with fail
        go_quiet_grown (first | (go_at_fn g; refine Calls.grown_of (hc _ _)))
        have S2 : Hid (SW3 enc k w0 blk off d0 d (grow (wr.drewN nq) osq)) := Lib.hid ⟨S1.out.size, S1.out.row, S1.out.same, S1.out.sw.grown nq osq⟩
        clear la lb hc S1
        generalize grow (wr.drewN nq) osq = w2 at S2 ⊢
        clear nq osq
        go_wp2
        go_roundg (h - i)
        case measure => omega
        case rel => exact ⟨i, h, rfl, rfl, hai, by omega, by omega, Nat.le_refl _, HS2, S2⟩
      · have hd : decide (cf x y < 0) = false := decide_eq_false hv
        have HS2 := Lib.hid (HUP.out (HC.out.trans hd))
        clear HUP HDN
        go_wp2_with fail
        go_quiet_grown (first | (go_at_fn g; refine Calls.grown_of (hc _ _)))
        have S2 : Hid (SW3 enc k w0 blk off d0 d (grow (wr.drewN nq) osq)) := Lib.hid ⟨S1.out.size, S1.out.row, S1.out.same, S1.out.sw.grown nq osq⟩
        clear la lb hc S1
        generalize grow (wr.drewN nq) osq = w2 at S2 ⊢
        clear nq osq
        go_wp2
        go_roundg (j - (h + 1))
        case measure => omega
        case rel => exact ⟨h + 1, j, by go_num, rfl, by omega, by omega, hjb, Nat.le_refl _, HS2, S2⟩
    · have hje : j = i := by omega
      have HS2 : Hid (SrchB r a m (at_ d) i i) := Lib.hid (by have := HS.out; rwa [hje] at this)
      have him : i ≤ m := by omega
      clear hje HS
      go_wp2_with fail
      go_loopg [17] (m - i) (fun kx s17 wr => ∃ (q : Nat) (dk : Array α), s17 = .int .i64 (q : Int) ∧ i ≤ q ∧ q ≤ m ∧ q - i ≤ kx ∧ Hid (SW3 enc k w0 blk off d0 dk wr) ∧ Hid (at_ dk = rotR (at_ d) q m (m + 1)))
      case atStart => exact ⟨m, d, rfl, him, by omega, by omega, S1, Lib.hid (rotR_none _).symm⟩
      case round =>
        clear S1
        obtain ⟨q, dk, rfl, hq1, hq2, hkq, S3, HAT⟩ := hrel
        by_cases hlq : i < q
        · obtain ⟨p, rfl⟩ : ∃ p, q = p + 1 := ⟨q - 1, by omega⟩
          have t0 : (i : Int) < (p : Int) + 1 := by omega
          have ea : ((p : Int) + 1).toNat = p + 1 := by omega
          have pa : (0 : Int) ≤ (p : Int) + 1 := by omega
          have ba : (p : Int) + 1 < (N : Int) := by omega
          have ec : ((p : Int)).toNat = p := by omega
          have pc : (0 : Int) ≤ (p : Int) := by omega
          have bc : (p : Int) < (N : Int) := by omega
          have rc : IntKind.i64.wrap (p : Int) = (p : Int) := by rw [IntKind.wrap_i64]; omega
          have hds : dk.size = d0.size := S3.out.same
          have hsz := HN0.out
          have S4 : Aside (SWK enc k w0 blk off (swp dk (p + 1) p) ((wr.drew.setCells blk (off + (p + 1) * k) (enc dk[p]!)).setCells blk (off + p * k) (enc dk[p + 1]!))) := S3.out.sw.swapped R (p + 1) p (by omega) (by omega)
          have la := S3.out.sw.ld1 R hds Tryz.prog (p + 1) (by omega)
          have lb := S3.out.sw.ld1 R hds Tryz.prog p (by omega)
          have sa := S3.out.sw.st1 R hds Tryz.prog (p + 1) (by omega) dk[p]!
          have sb := S3.out.sw.st2 R hds Tryz.prog (p + 1) p (by omega) (by omega) dk[p]! dk[p + 1]!
          have na : (enc dk[p + 1]!).length = k := R.hk _
          have nb : (enc dk[p]!).length = k := R.hk _
          have HAT2 : Hid (at_ (swp dk (p + 1) p) = rotR (at_ d) p m (m + 1)) := Lib.hid (rot_down _ _ HAT.out hq2 (by omega))
          have HDS2 : Hid ((swp dk (p + 1) p).size = d0.size) := Lib.hid (by rw [size_swp]; exact hds)
          have SZ3 := Lib.hid S3.out.size
          generalize swp dk (p + 1) p = dn at S4 HAT2 HDS2
          generalize enc dk[p + 1]! = cI at S4 la sb na
          generalize enc dk[p]! = cJ at S4 lb sa sb nb
          clear S3 hds hsz
          go_wp2_with fail
          go_big_region_o
          clear la lb sa sb
          generalize (wr.drew.setCells blk (off + (p + 1) * k) cJ).setCells blk (off + p * k) cI = w3 at S4 ⊢
          go_wp2
          go_roundg (p - i)
          case measure => omega
          case rel => exact ⟨p, dn, by go_num, by omega, by omega, Nat.le_refl _, Lib.hid ⟨SZ3.out, R, HDS2.out, S4.out⟩, HAT2⟩
        · have t0 : ¬ (i : Int) < (q : Int) := by omega
          have hqi : q = i := by omega
          have HAT2 : Hid (at_ dk = rotR (at_ d) i m (m + 1)) := Lib.hid (by rw [← hqi]; exact HAT.out)
          clear hqi
          go_wp2
          (try simp only [Exit.inBlock, Exit.then]); refine bodyPost_ret (results_none rfl _ _ _) rfl ?_
          refine ⟨rfl, dk, S3.out, ?_, ?_⟩
          · rw [HAT2.out]
            exact two_last HW.out hai him HS2.out.low HS2.out.high
          · rw [HAT2.out]
            exact (shuf_rot (at_ d) him (Nat.le_succ m)).mono hai (Nat.le_refl _)
theorem mergeA_at (enc : α → List Value) (k g : Nat) (cb : Array Value) (blk off cap a m b N : Nat) (d0 d : Array α) (w0 w : World) (T : Told r tag cf enc k g cb w0 blk off d0) (S : SW3 enc k w0 blk off d0 d w) (W : Two r tag a m b (at_ d)) (hm : m = a + 1) (h1 : m < b) (h2 : b ≤ d.size) (hN : N = d.size) :
    Calls Tryz.prog 165 #[.slice (some ⟨blk, off, none⟩) N cap, .int .i64 (a : Int), .int .i64 (m : Int), .int .i64 (b : Int), .func (.func g) #[] cb] w fun e w' => e = .returned (.tuple #[]) ∧ Merged r enc k w0 blk off a b d0 d w' := by
  subst hm hN
  exact mergeA enc k g cb blk off cap a b d0 d w0 w T S W h1 h2
theorem mergeB_at (enc : α → List Value) (k g : Nat) (cb : Array Value) (blk off cap a m b N : Nat) (d0 d : Array α) (w0 w : World) (T : Told r tag cf enc k g cb w0 blk off d0) (S : SW3 enc k w0 blk off d0 d w) (W : Two r tag a m b (at_ d)) (hm : b = m + 1) (h1 : a < m) (h0 : a + 1 ≠ m) (h2 : b ≤ d.size) (hN : N = d.size) :
    Calls Tryz.prog 165 #[.slice (some ⟨blk, off, none⟩) N cap, .int .i64 (a : Int), .int .i64 (m : Int), .int .i64 (b : Int), .func (.func g) #[] cb] w fun e w' => e = .returned (.tuple #[]) ∧ Merged r enc k w0 blk off a b d0 d w' := by
  subst hm hN
  exact mergeB enc k g cb blk off cap a m d0 d w0 w T S W h1 h0 h2
end
end Go.Proofs.YtccjkfccklfjkaaGreatDoor
