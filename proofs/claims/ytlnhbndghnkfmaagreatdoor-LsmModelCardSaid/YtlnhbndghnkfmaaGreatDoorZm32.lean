/- The library's stable sort, at changes: one element behind an order. The library's stable sort, at changes: any two orders are merged. -/
import Derived.Test.YtlnhbndghnkfmaaGreatDoorZm31
import Derived.Deep.DeepCutAuto
namespace Go.Proofs.YtlnhbndghnkfmaaGreatDoor
open Go.Shelf Go.RowKit Go.Lib Go.Sort

section
variable {α : Type} {r : α → α → Prop} {tag : α → Nat} {cf : α → α → Int} [Inhabited α]
set_option maxRecDepth 1000000 in
set_option maxHeartbeats 4000000 in
/-- One element behind an order. -/
theorem mergeB (enc : α → List Value) (k g : Nat) (cb : Array Value) (blk off cap a m : Nat) (d0 d : Array α) (w0 w : World) (T : Told r tag cf enc k g cb w0 blk off d0) (S : SW3 enc k w0 blk off d0 d w) (W : Two r tag a m (m + 1) (at_ d)) (h1 : a < m) (h0 : a + 1 ≠ m) (h2 : m + 1 ≤ d.size) :
    Calls Tryz.prog 165 #[.slice (some ⟨blk, off, none⟩) d.size cap, .int .i64 (a : Int), .int .i64 (m : Int), .int .i64 ((m + 1 : Nat) : Int), .func (.func g) #[] cb] w fun e w' => e = .returned (.tuple #[]) ∧ Merged r enc k w0 blk off a (m + 1) d0 d w' := by
  have S0 := Lib.hid S
  have HSZ := Lib.hid S.same
  have R := S.row
  have zE := S.size
  have mixed := mixedA
  have aE := aggChange
  have eg := T.enters
  have HT := Lib.hid T
  have HW := Lib.hid W
  have hroom := T.room
  obtain ⟨N, hN⟩ : ∃ N, N = d.size := ⟨_, rfl⟩
  have HN := Lib.hid hN
  have hN0 : N = d0.size := hN.trans S.same
  rw [← hN0] at hroom
  have HN0 := Lib.hid hN0
  rw [← hN] at h2 ⊢
  have w1 : IntKind.i64.wrap ((m : Int) - (a : Int)) = (m : Int) - (a : Int) := by rw [IntKind.wrap_i64]; omega
  have e1 : (((m : Int) - (a : Int)) == 1) = false := by rw [beq_eq_false_iff_ne]; omega
  have e2 : (((m : Int) + 1 - (m : Int)) == 1) = true := by rw [show (m : Int) + 1 - (m : Int) = 1 by omega]; rfl
  clear S hN T W hN0 h0
  go_enter Tryz.func165, Tryz.ntmps165
  go_wp2_with fail
  go_loopg [14, 15] (m - a) (fun kx s14 s15 wr => ∃ (i j : Nat), s14 = .int .i64 (i : Int) ∧ s15 = .int .i64 (j : Int) ∧ a ≤ i ∧ i ≤ j ∧ j ≤ m ∧ j - i ≤ kx ∧ Hid (SrchB r a m (at_ d) i j) ∧ Hid (SW3 enc k w0 blk off d0 d wr))
  case atStart => exact ⟨a, m, rfl, rfl, Nat.le_refl _, by omega, by omega, by omega, Lib.hid ⟨Nat.le_refl _, by omega, Nat.le_refl _, fun _ _ _ => by omega, fun _ _ _ => by omega⟩, S0⟩
  case round =>
    clear S0
    obtain ⟨i, j, rfl, rfl, hai, hij, hjb, hkx, HS, S1⟩ := hrel
    by_cases hlt : i < j
    · obtain ⟨h, hh⟩ : ∃ h, h = (i + j) / 2 := ⟨_, rfl⟩
      have eh : ((i : Int) + (j : Int)) / 2 = (h : Int) := by omega
      have hb1 : h < j := by omega
      have hb2 : i ≤ h := by omega
      have ea : ((h : Int)).toNat = h := by omega
      have pa : (0 : Int) ≤ (h : Int) := by omega
      have ba : (h : Int) < (N : Int) := by omega
      have ec : ((m : Int)).toNat = m := by omega
      have pc : (0 : Int) ≤ (m : Int) := by omega
      have bc : (m : Int) < (N : Int) := by omega
      have hhd : h < d.size := by rw [← HN.out]; omega
      have had : m < d.size := by rw [← HN.out]; omega
      have la := S1.out.sw.ld R HSZ.out Tryz.prog h hhd
      have lb := S1.out.sw.ld R HSZ.out Tryz.prog m had
      have hc := S1.out.sw.cmp HT.out.cmp HSZ.out d[m]! d[h]!
      have HUP : Hid (ltOf cf (at_ d m) (at_ d h) = false → SrchB r a m (at_ d) (h + 1) j) := Lib.hid (by rw [hh]; exact fun e => srchB_up HT.out.trans HT.out.fair HW.out HS.out hlt e)
      have HDN : Hid (ltOf cf (at_ d m) (at_ d h) = true → SrchB r a m (at_ d) i h) := Lib.hid (by rw [hh]; exact fun e => srchB_down HT.out.trans HT.out.fair HW.out HS.out hlt e)
      have HC : Hid (ltOf cf (at_ d m) (at_ d h) = decide (cf d[m]! d[h]! < 0)) := Lib.hid rfl
      obtain ⟨x, hx⟩ : ∃ x, x = d[m]! := ⟨_, rfl⟩
      obtain ⟨y, hy⟩ : ∃ y, y = d[h]! := ⟨_, rfl⟩
      rw [← hx] at lb hc HC
      rw [← hy] at la hc HC
      clear hx hy hh hhd had
      by_cases hv : cf x y < 0
      · have hd : decide (cf x y < 0) = true := decide_eq_true hv
        have HS2 := Lib.hid (HDN.out (HC.out.trans hd))
        clear HUP HDN
        go_wp2_with fail
        go_quiet_grown (first | (go_at_fn g; refine Calls.grown_of (hc _ _)))
        have S2 : Hid (SW3 enc k w0 blk off d0 d (grow (wr.drewN nq) osq)) := Lib.hid ⟨S1.out.size, S1.out.row, S1.out.same, S1.out.sw.grown nq osq⟩
        clear la lb hc S1
        generalize grow (wr.drewN nq) osq = w2 at S2 ⊢
        clear nq osq
        go_wp2
        go_roundg (h - i)
        case measure => omega
        case rel => exact ⟨i, h, rfl, rfl, hai, by omega, by omega, Nat.le_refl _, HS2, S2⟩
      · have hd : decide (cf x y < 0) = false := decide_eq_false hv
        have HS2 := Lib.hid (HUP.out (HC.out.trans hd))
        clear HUP HDN
        go_wp2_with fail
        go_quiet_grown (first | (go_at_fn g; refine Calls.grown_of (hc _ _)))
        have S2 : Hid (SW3 enc k w0 blk off d0 d (grow (wr.drewN nq) osq)) := Lib.hid ⟨S1.out.size, S1.out.row, S1.out.same, S1.out.sw.grown nq osq⟩
        clear la lb hc S1
        generalize grow (wr.drewN nq) osq = w2 at S2 ⊢
        clear nq osq
        go_wp2
        go_roundg (j - (h + 1))
        case measure => omega
        case rel => exact ⟨h + 1, j, by go_num, rfl, by omega, by omega, hjb, Nat.le_refl _, HS2, S2⟩
    · have hje : j = i := by omega
      have HS2 : Hid (SrchB r a m (at_ d) i i) := Lib.hid (by have := HS.out; rwa [hje] at this)
      have him : i ≤ m := by omega
      clear hje HS
      go_wp2_with fail
      go_loopg [17] (m - i) (fun kx s17 wr => ∃ (q : Nat) (dk : Array α), s17 = .int .i64 (q : Int) ∧ i ≤ q ∧ q ≤ m ∧ q - i ≤ kx ∧ Hid (SW3 enc k w0 blk off d0 dk wr) ∧ Hid (at_ dk = rotR (at_ d) q m (m + 1)))
      case atStart => exact ⟨m, d, rfl, him, by omega, by omega, S1, Lib.hid (rotR_none _).symm⟩
      case round =>
        clear S1
        obtain ⟨q, dk, rfl, hq1, hq2, hkq, S3, HAT⟩ := hrel
        by_cases hlq : i < q
        · obtain ⟨p, rfl⟩ : ∃ p, q = p + 1 := ⟨q - 1, by omega⟩
          have t0 : (i : Int) < (p : Int) + 1 := by omega
          have ea : ((p : Int) + 1).toNat = p + 1 := by omega
          have pa : (0 : Int) ≤ (p : Int) + 1 := by omega
          have ba : (p : Int) + 1 < (N : Int) := by omega
          have ec : ((p : Int)).toNat = p := by omega
          have pc : (0 : Int) ≤ (p : Int) := by omega
          have bc : (p : Int) < (N : Int) := by omega
          have rc : IntKind.i64.wrap (p : Int) = (p : Int) := by rw [IntKind.wrap_i64]; omega
          have hds : dk.size = d0.size := S3.out.same
          have hsz := HN0.out
          have S4 : Aside (SWK enc k w0 blk off (swp dk (p + 1) p) ((wr.drew.setCells blk (off + (p + 1) * k) (enc dk[p]!)).setCells blk (off + p * k) (enc dk[p + 1]!))) := S3.out.sw.swapped R (p + 1) p (by omega) (by omega)
          have la := S3.out.sw.ld1 R hds Tryz.prog (p + 1) (by omega)
          have lb := S3.out.sw.ld1 R hds Tryz.prog p (by omega)
          have sa := S3.out.sw.st1 R hds Tryz.prog (p + 1) (by omega) dk[p]!
          have sb := S3.out.sw.st2 R hds Tryz.prog (p + 1) p (by omega) (by omega) dk[p]! dk[p + 1]!
          have na : (enc dk[p + 1]!).length = k := R.hk _
          have nb : (enc dk[p]!).length = k := R.hk _
          have HAT2 : Hid (at_ (swp dk (p + 1) p) = rotR (at_ d) p m (m + 1)) := Lib.hid (rot_down _ _ HAT.out hq2 (by omega))
          have HDS2 : Hid ((swp dk (p + 1) p).size = d0.size) := Lib.hid (by rw [size_swp]; exact hds)
          have SZ3 := Lib.hid S3.out.size
          generalize swp dk (p + 1) p = dn at S4 HAT2 HDS2
          generalize enc dk[p + 1]! = cI at S4 la sb na
          generalize enc dk[p]! = cJ at S4 lb sa sb nb
          clear S3 hds hsz
          go_wp2_with fail
          go_big_region_o
          clear la lb sa sb
          generalize (wr.drew.setCells blk (off + (p + 1) * k) cJ).setCells blk (off + p * k) cI = w3 at S4 ⊢
          go_wp2
          go_roundg (p - i)
          case measure => omega
          case rel => exact ⟨p, dn, by go_num, by omega, by omega, Nat.le_refl _, Lib.hid ⟨SZ3.out, R, HDS2.out, S4.out⟩, HAT2⟩
        · have t0 : ¬ (i : Int) < (q : Int) := by omega
          have hqi : q = i := by omega
          have HAT2 : Hid (at_ dk = rotR (at_ d) i m (m + 1)) := Lib.hid (by rw [← hqi]; exact HAT.out)
          clear hqi
          go_wp2
          (try simp only [Exit.inBlock, Exit.then]); refine bodyPost_ret (results_none rfl _ _ _) rfl ?_
          refine ⟨rfl, dk, S3.out, ?_, ?_⟩
          · rw [HAT2.out]
            exact two_last HW.out hai him HS2.out.low HS2.out.high
          · rw [HAT2.out]
            exact (shuf_rot (at_ d) him (Nat.le_succ m)).mono hai (Nat.le_refl _)
theorem mergeA_at (enc : α → List Value) (k g : Nat) (cb : Array Value) (blk off cap a m b N : Nat) (d0 d : Array α) (w0 w : World) (T : Told r tag cf enc k g cb w0 blk off d0) (S : SW3 enc k w0 blk off d0 d w) (W : Two r tag a m b (at_ d)) (hm : m = a + 1) (h1 : m < b) (h2 : b ≤ d.size) (hN : N = d.size) :
    Calls Tryz.prog 165 #[.slice (some ⟨blk, off, none⟩) N cap, .int .i64 (a : Int), .int .i64 (m : Int), .int .i64 (b : Int), .func (.func g) #[] cb] w fun e w' => e = .returned (.tuple #[]) ∧ Merged r enc k w0 blk off a b d0 d w' := by
  subst hm hN
  exact mergeA enc k g cb blk off cap a b d0 d w0 w T S W h1 h2
theorem mergeB_at (enc : α → List Value) (k g : Nat) (cb : Array Value) (blk off cap a m b N : Nat) (d0 d : Array α) (w0 w : World) (T : Told r tag cf enc k g cb w0 blk off d0) (S : SW3 enc k w0 blk off d0 d w) (W : Two r tag a m b (at_ d)) (hm : b = m + 1) (h1 : a < m) (h0 : a + 1 ≠ m) (h2 : b ≤ d.size) (hN : N = d.size) :
    Calls Tryz.prog 165 #[.slice (some ⟨blk, off, none⟩) N cap, .int .i64 (a : Int), .int .i64 (m : Int), .int .i64 (b : Int), .func (.func g) #[] cb] w fun e w' => e = .returned (.tuple #[]) ∧ Merged r enc k w0 blk off a b d0 d w' := by
  subst hm hN
  exact mergeB enc k g cb blk off cap a m d0 d w0 w T S W h1 h0 h2
end
end Go.Proofs.YtlnhbndghnkfmaaGreatDoor
namespace Go.Proofs.YtlnhbndghnkfmaaGreatDoor
open Go.Shelf Go.RowKit Go.Lib Go.Sort

theorem rotate_at {α : Type} [Inhabited α] (enc : α → List Value) (k : Nat) (fv : Value) (blk off cap a m b N : Nat) (za zm zb : Int) (ha : za = (a : Int)) (hm : zm = (m : Int)) (hb : zb = (b : Int)) (d0 d : Array α) (w0 w : World) (S : SW3 enc k w0 blk off d0 d w) (hN : N = d.size) (h1 : a < m) (h2 : m < b) (h3 : b ≤ d.size) (hsz : d.size < 4611686018427387904) :
    Calls Tryz.prog 178 #[.slice (some ⟨blk, off, none⟩) N cap, .int .i64 za, .int .i64 zm, .int .i64 zb, fv] w fun e w' => e = .returned (.tuple #[]) ∧ ∃ d', SW3 enc k w0 blk off d0 d' w' ∧ at_ d' = rotR (at_ d) a m b := by
  subst ha hm hb hN
  exact rotate_any enc k fv blk off cap a m b d0 d w0 w S h1 h2 h3 hsz
section
variable {α : Type} {r : α → α → Prop} {tag : α → Nat} {cf : α → α → Int} [Inhabited α]
/-- That merges of at most n places are made. -/
def Makes (r : α → α → Prop) (tag : α → Nat) (enc : α → List Value) (k g : Nat) (cb : Array Value) (blk off cap : Nat) (d0 : Array α) (w0 : World) (n : Nat) : Prop :=
  ∀ (a m b N : Nat) (za zm zb : Int) (d : Array α) (w : World), za = (a : Int) → zm = (m : Int) → zb = (b : Int) → N = d.size → b - a ≤ n → a < m → m < b → b ≤ d.size → SW3 enc k w0 blk off d0 d w → Two r tag a m b (at_ d) →
    Calls Tryz.prog 165 #[.slice (some ⟨blk, off, none⟩) N cap, .int .i64 za, .int .i64 zm, .int .i64 zb, .func (.func g) #[] cb] w fun e w' => e = .returned (.tuple #[]) ∧ Merged r enc k w0 blk off a b d0 d w'
set_option maxRecDepth 1000000 in
set_option maxHeartbeats 8000000 in
theorem mergeC (enc : α → List Value) (k g : Nat) (cb : Array Value) (blk off cap a m b n : Nat) (d0 d : Array α) (w0 w : World) (T : Told r tag cf enc k g cb w0 blk off d0) (IH : Makes r tag enc k g cb blk off cap d0 w0 n) (hn : b - a ≤ n + 1)
    (S : SW3 enc k w0 blk off d0 d w) (W : Two r tag a m b (at_ d)) (h1 : a + 1 < m) (h2 : m + 1 < b) (h3 : b ≤ d.size) :
    Calls Tryz.prog 165 #[.slice (some ⟨blk, off, none⟩) d.size cap, .int .i64 (a : Int), .int .i64 (m : Int), .int .i64 (b : Int), .func (.func g) #[] cb] w fun e w' => e = .returned (.tuple #[]) ∧ Merged r enc k w0 blk off a b d0 d w' := by
  have S0 := Lib.hid S
  have HSZ := Lib.hid S.same
  have R := S.row
  have zE := S.size
  have mixed := mixedA
  have aE := aggChange
  have eg := T.enters
  have HT := Lib.hid T
  have HW := Lib.hid W
  have HIH := Lib.hid IH
  have hroom := T.room
  obtain ⟨N, hN⟩ : ∃ N, N = d.size := ⟨_, rfl⟩
  have HN := Lib.hid hN
  have hN0 : N = d0.size := hN.trans S.same
  rw [← hN0] at hroom
  have HN0 := Lib.hid hN0
  rw [← hN] at h3 ⊢
  have w1 : IntKind.i64.wrap ((m : Int) - (a : Int)) = (m : Int) - (a : Int) := by rw [IntKind.wrap_i64]; omega
  have e1 : (((m : Int) - (a : Int)) == 1) = false := by rw [beq_eq_false_iff_ne]; omega
  have w2 : IntKind.i64.wrap ((b : Int) - (m : Int)) = (b : Int) - (m : Int) := by rw [IntKind.wrap_i64]; omega
  have e2 : (((b : Int) - (m : Int)) == 1) = false := by rw [beq_eq_false_iff_ne]; omega
  obtain ⟨q1, q2, q3, q4, q5, q6⟩ := sLo_le (show a < m by omega) (show m < b by omega)
  have HST := Lib.hid (srch_start (r := r) (at_ d) (show a < m by omega) (show m < b by omega))
  have HAT := Lib.hid (fun s e => srch_at (r := r) (s := s) (e := e) (f := at_ d) (show a < m by omega) (show m < b by omega))
  have HUP := Lib.hid (fun s e => srch_up (s := s) (e := e) T.trans T.fair (show a < m by omega) (show m < b by omega) W)
  have HDN := Lib.hid (fun s e => srch_down (s := s) (e := e) T.trans T.fair (show a < m by omega) (show m < b by omega) W)
  have HEND := Lib.hid (fun s => srch_end (s := s) T.trans (show a < m by omega) (show m < b by omega) W)
  have hlh : ((a + b) / 2 < m ∧ sLo a m b = (a + b) / 2 + m - b ∧ sHi a m b = (a + b) / 2) ∨ (¬ (a + b) / 2 < m ∧ sLo a m b = a ∧ sHi a m b = m) := by
    by_cases h0 : (a + b) / 2 < m
    · exact .inl ⟨h0, by unfold sLo; rw [if_pos h0], by unfold sHi; rw [if_pos h0]⟩
    · exact .inr ⟨h0, by unfold sLo; rw [if_neg h0], by unfold sHi; rw [if_neg h0]⟩
  obtain ⟨lo, hlo⟩ : ∃ x, x = sLo a m b := ⟨_, rfl⟩
  obtain ⟨hi, hhi⟩ : ∃ x, x = sHi a m b := ⟨_, rfl⟩
  obtain ⟨dd, hdd⟩ : ∃ x, x = (a + b) / 2 := ⟨_, rfl⟩
  have HLO := Lib.hid hlo
  have HHI := Lib.hid hhi
  have HDD := Lib.hid hdd
  rw [← hlo, ← hhi, ← hdd] at hlh
  rw [← hlo, ← hhi] at HST q2
  rw [← hlo] at q1 q5
  rw [← hhi] at q3 q4 q6
  rw [← hdd] at q4 q5 q6 HUP HDN HAT
  have ed : ((a : Int) + (b : Int)) / 2 = (dd : Int) := by omega
  have hd1 : a < dd := by omega
  have hd2 : dd + 1 < b := by omega
  have w3 : IntKind.i64.wrap ((dd : Int) + (m : Int)) = (dd : Int) + (m : Int) := by rw [IntKind.wrap_i64]; omega
  have w4 : IntKind.i64.wrap ((dd : Int) + (m : Int) - (b : Int)) = (dd : Int) + (m : Int) - (b : Int) := by rw [IntKind.wrap_i64]; omega
  have w5 : IntKind.i64.wrap ((dd : Int) + (m : Int) - 1) = (dd : Int) + (m : Int) - 1 := by rw [IntKind.wrap_i64]; omega
  have HLH := Lib.hid hlh
  have hcase : (m : Int) > (dd : Int) ∨ ¬ (m : Int) > (dd : Int) := Classical.em _
  clear S hN T W hN0 IH hlo hhi hdd hlh
  go_enter Tryz.func165, Tryz.ntmps165
  obtain ⟨b0, hb0⟩ : ∃ q, q = decide ((m : Int) > (dd : Int)) := ⟨_, rfl⟩
  have HB0 := Lib.hid hb0
  clear hb0 hcase
  go_upto_region 27 with (fail)
  go_cut [140] (fun s140 wx => s140 = .bool b0 ∧ Hid (SW3 enc k w0 blk off d0 d wx))
  case first =>
    by_cases t0 : (dd : Int) < (m : Int)
    · have hb : b0 = true := by rw [HB0.out]; exact decide_eq_true t0
      subst hb
      go_wp2_with fail
      go_meet
      exact ⟨rfl, S0⟩
    · have hb : b0 = false := by rw [HB0.out]; exact decide_eq_false t0
      subst hb
      go_wp2_with fail
      go_meet
      exact ⟨rfl, S0⟩
  case rest =>
    clear S0
    obtain ⟨rfl, S0⟩ := hcut
    go_upto_if 140 with (fail)
    go_cut [20, 21] (fun s20 s21 wx => s20 = .int .i64 (lo : Int) ∧ s21 = .int .i64 (hi : Int) ∧ Hid (SW3 enc k w0 blk off d0 d wx))
    case first =>
      rcases b0 with _ | _
      · have t0 : ¬ (m : Int) > (dd : Int) := of_decide_eq_false HB0.out.symm
        go_wp2_with fail
        go_meet
        refine ⟨?_, ?_, S0⟩
        · rcases HLH.out with ⟨x0, x1, x2⟩ | ⟨x0, x1, x2⟩ <;> first | (exfalso; omega) | (congr 1; omega)
        · rcases HLH.out with ⟨x0, x1, x2⟩ | ⟨x0, x1, x2⟩ <;> first | (exfalso; omega) | (congr 1; omega)
      · have t0 : (m : Int) > (dd : Int) := of_decide_eq_true HB0.out.symm
        go_wp2_with fail
        go_meet
        refine ⟨?_, ?_, S0⟩
        · rcases HLH.out with ⟨x0, x1, x2⟩ | ⟨x0, x1, x2⟩ <;> first | (exfalso; omega) | (congr 1; omega)
        · rcases HLH.out with ⟨x0, x1, x2⟩ | ⟨x0, x1, x2⟩ <;> first | (exfalso; omega) | (congr 1; omega)
    case rest =>
    clear S0
    obtain ⟨rfl, rfl, S0⟩ := hcut
    as_aux_lemma =>
      go_wp2_with fail
      go_loopg [20, 21] (b - a) (fun kx s20 s21 wr => ∃ s e : Nat, s20 = .int .i64 (s : Int) ∧ s21 = .int .i64 (e : Int) ∧ s ≤ e ∧ e ≤ hi ∧ lo ≤ s ∧ e - s ≤ kx ∧ Hid (Srch r a m b (at_ d) s e) ∧ Hid (SW3 enc k w0 blk off d0 d wr))
      case atStart => exact ⟨lo, hi, rfl, rfl, q2, Nat.le_refl _, Nat.le_refl _, by omega, HST, S0⟩
      case round =>
        clear S0
        obtain ⟨s, e, rfl, rfl, hse, he, hs, hkx, HS, S1⟩ := hrel
        by_cases hlt : s < e
        · obtain ⟨h, hh⟩ : ∃ h, h = (s + e) / 2 := ⟨_, rfl⟩
          have eh : ((s : Int) + (e : Int)) / 2 = (h : Int) := by omega
          have hb1 : h < e := by omega
          have hb2 : s ≤ h := by omega
          obtain ⟨p1, p2, p3, p4, p5⟩ := HAT.out s e HS.out hlt
          have HU := Lib.hid (HUP.out s e HS.out hlt)
          have HD := Lib.hid (HDN.out s e HS.out hlt)
          rw [← hh] at p1 p2 p3 p4 p5 HU HD
          obtain ⟨pc, hpc⟩ : ∃ x, x = dd + m - 1 - h := ⟨_, rfl⟩
          rw [← hpc] at p3 p4 HU HD
          have epc : (dd : Int) + (m : Int) - 1 - (h : Int) = (pc : Int) := by omega
          have ea : ((pc : Int)).toNat = pc := by omega
          have pa : (0 : Int) ≤ (pc : Int) := by omega
          have ba : (pc : Int) < (N : Int) := by omega
          have ra : IntKind.i64.wrap (pc : Int) = (pc : Int) := by rw [IntKind.wrap_i64]; omega
          have ec : ((h : Int)).toNat = h := by omega
          have pc0 : (0 : Int) ≤ (h : Int) := by omega
          have bc : (h : Int) < (N : Int) := by omega
          have hhd : h < d.size := by rw [← HN.out]; omega
          have had : pc < d.size := by rw [← HN.out]; omega
          have la := S1.out.sw.ld R HSZ.out Tryz.prog pc had
          have lb := S1.out.sw.ld R HSZ.out Tryz.prog h hhd
          have hc := S1.out.sw.cmp HT.out.cmp HSZ.out d[pc]! d[h]!
          have HC : Hid (ltOf cf (at_ d pc) (at_ d h) = decide (cf d[pc]! d[h]! < 0)) := Lib.hid rfl
          obtain ⟨x, hx⟩ : ∃ x, x = d[pc]! := ⟨_, rfl⟩
          obtain ⟨y, hy⟩ : ∃ y, y = d[h]! := ⟨_, rfl⟩
          rw [← hx] at la hc HC
          rw [← hy] at lb hc HC
          clear hx hy hh hhd had hpc
          by_cases hv : cf x y < 0
          · have hd : decide (cf x y < 0) = true := decide_eq_true hv
            have HS2 := Lib.hid (HD.out (HC.out.trans hd))
            clear HU HD
            go_wp2_with fail
            go_quiet_grown (first | (go_at_fn g; refine Calls.grown_of (hc _ _)))
            have S2 : Hid (SW3 enc k w0 blk off d0 d (grow (wr.drewN nq) osq)) := Lib.hid ⟨S1.out.size, S1.out.row, S1.out.same, S1.out.sw.grown nq osq⟩
            clear la lb hc S1
            generalize grow (wr.drewN nq) osq = w2 at S2 ⊢
            clear nq osq
            go_wp2
            go_roundg (h - s)
            case measure => omega
            case rel => exact ⟨s, h, rfl, rfl, hb2, by omega, hs, Nat.le_refl _, HS2, S2⟩
          · have hd : decide (cf x y < 0) = false := decide_eq_false hv
            have HS2 := Lib.hid (HU.out (HC.out.trans hd))
            clear HU HD
            go_wp2_with fail
            go_quiet_grown (first | (go_at_fn g; refine Calls.grown_of (hc _ _)))
            have S2 : Hid (SW3 enc k w0 blk off d0 d (grow (wr.drewN nq) osq)) := Lib.hid ⟨S1.out.size, S1.out.row, S1.out.same, S1.out.sw.grown nq osq⟩
            clear la lb hc S1
            generalize grow (wr.drewN nq) osq = w2 at S2 ⊢
            clear nq osq
            go_wp2
            go_roundg (e - (h + 1))
            case measure => omega
            case rel => exact ⟨h + 1, e, by go_num, rfl, hb1, he, by omega, Nat.le_refl _, HS2, S2⟩
        · have hes : e = s := by omega
          have hcut : Cut r tag a m b s (at_ d) := HEND.out s (by have := HS.out; rwa [hes] at this)
          obtain ⟨c1, c2, c3, c4, c5⟩ : a ≤ s ∧ s ≤ m ∧ s ≤ dd ∧ m ≤ dd + m - s ∧ dd + m - s ≤ b := by rw [HDD.out]; exact ⟨hcut.s1, hcut.s2, hcut.s3, hcut.e1, hcut.e2⟩
          obtain ⟨en, hen⟩ : ∃ x, x = dd + m - s := ⟨_, rfl⟩
          rw [← hen] at c4 c5
          have HEN : Hid ((a + b) / 2 + m - s = en) := Lib.hid (by rw [hen, HDD.out])
          have HCUT := Lib.hid hcut
          have een : (dd : Int) + (m : Int) - (s : Int) = (en : Int) := by omega
          have ren : IntKind.i64.wrap (en : Int) = (en : Int) := by rw [IntKind.wrap_i64]; omega
          have hme : dd ≤ en := by omega
          clear hes hcut hen HS HUP HDN HAT HEND
          obtain ⟨b1, hb1⟩ : ∃ q, q = decide (s < m ∧ m < en) := ⟨_, rfl⟩
          obtain ⟨b2, hb2⟩ : ∃ q, q = decide (a < s ∧ s < dd) := ⟨_, rfl⟩
          obtain ⟨b3, hb3⟩ : ∃ q, q = decide (dd < en ∧ en < b) := ⟨_, rfl⟩
          have HB1 := Lib.hid hb1
          have HB2 := Lib.hid hb2
          have HB3 := Lib.hid hb3
          clear hb1 hb2 hb3
          go_upto_region 39 with (fail)
          go_cut [185] (fun s185 wx => s185 = .bool b1 ∧ Hid (SW3 enc k w0 blk off d0 d wx))
          case first =>
            by_cases t1 : (s : Int) < (m : Int)
            · by_cases t2 : (m : Int) < (en : Int)
              · have hb : b1 = true := by rw [HB1.out]; exact decide_eq_true ⟨by omega, by omega⟩
                subst hb
                go_wp2_with fail
                go_meet
                exact ⟨rfl, S1⟩
              · have hb : b1 = false := by rw [HB1.out]; exact decide_eq_false (by omega)
                subst hb
                go_wp2_with fail
                go_meet
                exact ⟨rfl, S1⟩
            · have hb : b1 = false := by rw [HB1.out]; exact decide_eq_false (by omega)
              subst hb
              go_wp2_with fail
              go_meet
              exact ⟨rfl, S1⟩
          case rest =>
          clear S1
          obtain ⟨rfl, S1⟩ := hcut
          go_upto_if 185 with (fail)
          go_cut [] (fun wx => Hid (∃ d1, SW3 enc k w0 blk off d0 d1 wx ∧ at_ d1 = rotR (at_ d) s m en))
          case first =>
            rcases b1 with _ | _
            · have hq : ¬ (s < m ∧ m < en) := of_decide_eq_false HB1.out.symm
              have HR := Lib.hid (rot_none (f := at_ d) hq c2 c4).symm
              clear hq
              go_wp2_with fail
              go_meet
              exact Lib.hid ⟨d, S1.out, HR.out⟩
            · obtain ⟨x1, x2⟩ : s < m ∧ m < en := of_decide_eq_true HB1.out.symm
              have hsz := HN.out
              have H1 := Lib.hid (rotate_at enc k (.func (.func g) #[] cb) blk off cap s m en N (s : Int) (m : Int) (en : Int) rfl rfl rfl d0 d w0 _ S1.out HN.out x1 x2 (by omega) (by omega))
              clear x1 x2 hsz
              go_wp2_with fail
              refine H1.out.mono ?_
              rintro e w2 ⟨rfl, d1, S2, A1⟩
              have S3 : Hid (∃ d1, SW3 enc k w0 blk off d0 d1 w2 ∧ at_ d1 = rotR (at_ d) s m en) := Lib.hid ⟨d1, S2, A1⟩
              clear S2 A1
              go_wp2_with fail
              go_meet
              exact S3
          case rest =>
          clear S1
          obtain ⟨d1, S1, A1⟩ := Hid.out hcut
          as_aux_lemma =>
            have HS1 := Lib.hid S1
            have HA1 := Lib.hid A1
            clear S1 A1 hcut
            go_upto_region 41 with (fail)
            go_cut [199] (fun s199 wx => s199 = .bool b2 ∧ Hid (SW3 enc k w0 blk off d0 d1 wx))
            case first =>
              by_cases t1 : (a : Int) < (s : Int)
              · by_cases t2 : (s : Int) < (dd : Int)
                · have hb : b2 = true := by rw [HB2.out]; exact decide_eq_true ⟨by omega, by omega⟩
                  subst hb
                  go_wp2_with fail
                  go_meet
                  exact ⟨rfl, HS1⟩
                · have hb : b2 = false := by rw [HB2.out]; exact decide_eq_false (by omega)
                  subst hb
                  go_wp2_with fail
                  go_meet
                  exact ⟨rfl, HS1⟩
              · have hb : b2 = false := by rw [HB2.out]; exact decide_eq_false (by omega)
                subst hb
                go_wp2_with fail
                go_meet
                exact ⟨rfl, HS1⟩
            case rest =>
            clear HS1
            obtain ⟨rfl, HS1⟩ := hcut
            go_upto_if 199 with (fail)
            go_cut [] (fun wx => Hid (∃ d2, SW3 enc k w0 blk off d0 d2 wx ∧ Ordd r a dd (at_ d2) ∧ Shuf a dd (at_ d1) (at_ d2)))
            case first =>
              have HT1 : Hid (Two r tag a s dd (at_ d1)) := Lib.hid (by rw [HA1.out, ← HEN.out, HDD.out]; exact HCUT.out.one)
              rcases b2 with _ | _
              · have hq : ¬ (a < s ∧ s < dd) := of_decide_eq_false HB2.out.symm
                have HO := Lib.hid (HT1.out.none hq c1 c3)
                clear hq
                go_wp2_with fail
                go_meet
                exact Lib.hid ⟨d1, HS1.out, HO.out, Shuf.refl _ _ _⟩
              · obtain ⟨x1, x2⟩ : a < s ∧ s < dd := of_decide_eq_true HB2.out.symm
                have hsz : N = d1.size := HN0.out.trans HS1.out.same.symm
                have H1 := Lib.hid (HIH.out a s dd N (a : Int) (s : Int) (dd : Int) d1 _ rfl rfl rfl hsz (by omega) x1 x2 (by omega) HS1.out HT1.out)
                clear x1 x2 hsz
                go_wp2_with fail
                refine H1.out.mono ?_
                rintro e w2 ⟨rfl, hm⟩
                have S3 := Lib.hid hm
                clear hm
                go_wp2_with fail
                go_meet
                exact S3
            case rest =>
            clear HS1
            obtain ⟨d2, S2, O2, F2⟩ := Hid.out hcut
            as_aux_lemma =>
              have HS2 := Lib.hid S2
              have HO2 := Lib.hid O2
              have HF2 := Lib.hid F2
              clear S2 O2 F2 hcut
              have HT2 : Hid (Two r tag dd en b (at_ d2)) := Lib.hid (by
                have h2 : Two r tag dd en b (at_ d1) := by rw [HA1.out, ← HEN.out, HDD.out]; exact HCUT.out.two
                exact h2.congr hme c5 fun i i1 i2 => HF2.out.out i (.inr i1))
              go_upto_region 43 with (fail)
              go_cut [213] (fun s213 wx => s213 = .bool b3 ∧ Hid (SW3 enc k w0 blk off d0 d2 wx))
              case first =>
                by_cases t1 : (dd : Int) < (en : Int)
                · by_cases t2 : (en : Int) < (b : Int)
                  · have hb : b3 = true := by rw [HB3.out]; exact decide_eq_true ⟨by omega, by omega⟩
                    subst hb
                    go_wp2_with fail
                    go_meet
                    exact ⟨rfl, HS2⟩
                  · have hb : b3 = false := by rw [HB3.out]; exact decide_eq_false (by omega)
                    subst hb
                    go_wp2_with fail
                    go_meet
                    exact ⟨rfl, HS2⟩
                · have hb : b3 = false := by rw [HB3.out]; exact decide_eq_false (by omega)
                  subst hb
                  go_wp2_with fail
                  go_meet
                  exact ⟨rfl, HS2⟩
              case rest =>
              clear HS2
              obtain ⟨rfl, HS2⟩ := hcut
              have HFIN : Hid (∀ f3, Ordd r dd b f3 → Shuf dd b (at_ d2) f3 → Ordd r a b f3 ∧ Shuf a b (at_ d) f3) := Lib.hid (fun f3 o3 s3 =>
                merged_end (f1 := at_ d1) (f2 := at_ d2) HCUT.out (by rw [← HDD.out]; omega) (by rw [← HDD.out]; omega) (by rw [HA1.out, HEN.out]) (by rw [← HDD.out]; exact HO2.out) (by rw [← HDD.out]; exact HF2.out) (by rw [← HDD.out]; exact o3) (by rw [← HDD.out]; exact s3))
              rcases b3 with _ | _
              · have hq : ¬ (dd < en ∧ en < b) := of_decide_eq_false HB3.out.symm
                have HO := Lib.hid (HFIN.out _ (HT2.out.none hq hme c5) (Shuf.refl _ _ _))
                clear hq
                go_wp2_with fail
                go_end0
                exact ⟨rfl, d2, HS2.out, HO.out⟩
              · obtain ⟨x1, x2⟩ : dd < en ∧ en < b := of_decide_eq_true HB3.out.symm
                have hsz : N = d2.size := HN0.out.trans HS2.out.same.symm
                have H1 := Lib.hid (HIH.out dd en b N (dd : Int) (en : Int) (b : Int) d2 _ rfl rfl rfl hsz (by omega) x1 x2 (by omega) HS2.out HT2.out)
                clear x1 x2 hsz
                go_wp2_with fail
                refine H1.out.mono ?_
                rintro e w2 ⟨rfl, d3, S3, O3, F3⟩
                have HS3 := Lib.hid S3
                have HO := Lib.hid (HFIN.out _ O3 F3)
                clear S3 O3 F3
                go_wp2_with fail
                go_end0
                exact ⟨rfl, d3, HS3.out, HO.out⟩
theorem merge_any (enc : α → List Value) (k g : Nat) (cb : Array Value) (blk off cap : Nat) (d0 : Array α) (w0 : World) (T : Told r tag cf enc k g cb w0 blk off d0) : ∀ n, Makes r tag enc k g cb blk off cap d0 w0 n := by
  intro n
  induction n with
  | zero => intro a m b N za zm zb d w _ _ _ _ h h1 h2; exfalso; omega
  | succ n ih =>
    intro a m b N za zm zb d w ea em eb eN h h1 h2 h3 S W
    subst ea em eb eN
    by_cases hm : m = a + 1
    · exact mergeA_at enc k g cb blk off cap a m b d.size d0 d w0 w T S W hm h2 h3 rfl
    · by_cases hb : b = m + 1
      · exact mergeB_at enc k g cb blk off cap a m b d.size d0 d w0 w T S W hb h1 (by omega) h3 rfl
      · exact mergeC enc k g cb blk off cap a m b n d0 d w0 w T ih h S W (by omega) (by omega) h3
end
end Go.Proofs.YtlnhbndghnkfmaaGreatDoor
