/- Walks: the Book's sum. -/
import Derived.Test.YthmnffiiondggaaDoorBook
namespace Go.Proofs.YthmnffiiondggaaDoor
open Go.RowKit

theorem xor_u8 (a b : Nat) (ha : a < 256) (hb : b < 256) : bits .xor .u8 (a : Int) (b : Int) = ((a ^^^ b : Nat) : Int) := by
  have h1 : (BitVec.ofInt 8 (a : Int)).toNat = a := by
    rw [BitVec.ofInt_natCast, BitVec.toNat_ofNat]; exact Nat.mod_eq_of_lt (by omega)
  have h2 : (BitVec.ofInt 8 (b : Int)).toNat = b := by
    rw [BitVec.ofInt_natCast, BitVec.toNat_ofNat]; exact Nat.mod_eq_of_lt (by omega)
  show IntKind.u8.wrap ((BitVec.ofInt 8 (a : Int) ^^^ BitVec.ofInt 8 (b : Int)).toNat : Int) = _
  have hx : a ^^^ b < 256 := Nat.xor_lt_two_pow (n := 8) ha hb
  rw [BitVec.toNat_xor, h1, h2, IntKind.wrap_u8]
  omega
theorem low_xor (n : Nat) (x : UInt8) : (n % 256) ^^^ x.toNat = (n ^^^ x.toNat) % 256 := by
  have h := Nat.xor_mod_two_pow (a := n) (b := x.toNat) (n := 8)
  rw [show (2 : Nat) ^ 8 = 256 from rfl, Nat.mod_eq_of_lt (a := x.toNat) x.toNat_lt] at h
  exact h.symm
def BookSumRel (s : ByteArray) (w : World) (n i : Value) (wr : World) : Prop :=
  ∃ k : Nat, k ≤ s.size ∧ i = .int .i64 k ∧ n = .int .u32 (Crc.sumOn Crc.start (s.data.toList.take k) : Nat) ∧ ∃ m, wr = w.drewN m

set_option maxRecDepth 100000 in
set_option maxHeartbeats 1600000 in
theorem booksum_any (b : Nat) (s : ByteArray) (hs : s.size ≤ maxLen) (w : World)
    (hdo : Calls Tryd.prog 44 #[.pointer (some ⟨b, 0, none⟩), .func (.func 45) #[.pointer (some ⟨b, 0, none⟩)] #[]] w fun e w' => e = .returned (.tuple #[]) ∧ IsBook w' b 1 0 1 256 ∧ Ob b w w') :
    Calls Tryd.prog 27 #[.pointer (some ⟨b, 0, none⟩), .string s] w fun e w' =>
      e = .returned (.int .u32 (Crc.sum s.data.toList : Nat)) ∧ IsBook w' b 1 0 1 256 ∧ Ob b w w' := by
  have hmf : ∀ (fn : Fn) (first cap : Array Value) (w : World), (Instr.makeFunc fn first cap).run Tryd.prog w = .ok (.func fn first cap) w := fun _ _ _ _ => rfl
  have HD := Lib.hid hdo
  unfold maxLen at hs
  clear hdo
  go_enter Tryd.func27, Tryd.ntmps27
  go_wp2_with fail
  refine HD.out.mono ?_
  rintro e w1 ⟨rfl, hbk, ob⟩
  have HB := Lib.hid hbk
  clear hbk hmf
  go_wp2_with fail
  go_loopw [5, 19] (fun n i wr => BookSumRel s w1 n i wr) (fun _ i _ => s.size - (intOf i).toNat)
  case atStart => exact ⟨0, Nat.zero_le _, rfl, rfl, 0, rfl⟩
  case round =>
    obtain ⟨k, hk, rfl, rfl, m, rfl⟩ := hrel
    obtain ⟨c, hc⟩ : ∃ c, c = Crc.sumOn Crc.start (s.data.toList.take k) := ⟨_, rfl⟩
    have hcl : c < 4294967296 := by rw [hc]; exact Crc.sumOn_lt _ Crc.start_lt
    by_cases hlt : k < s.size
    · have hts := take_snoc s.data.toList k (by simpa using hlt)
      have hbn : s[k].toNat < 256 := s[k].toNat_lt
      obtain ⟨q, hq⟩ : ∃ q, q = (c ^^^ s[k].toNat) % 256 := ⟨_, rfl⟩
      have hql : q < 256 := by omega
      have hx8 : bits .xor .u8 ((c : Int) % 256) (s[k].toNat : Int) = (q : Int) := by
        have := xor_u8 (c % 256) s[k].toNat (by omega) hbn
        rw [low_xor, ← hq] at this
        exact this
      have hcell : w1.cell? ⟨b, 4 + q, none⟩ = some (.int .u32 (Crc.turned q : Nat)) := by
        have := World.rowIs.cell HB.out (i := 4 + q) (by omega)
        rw [this]
        unfold bookF
        rw [if_neg (by omega), if_neg (by omega), if_neg (by omega), if_neg (by omega), if_pos (by omega), Nat.add_sub_cancel_left]
      obtain ⟨t, ht⟩ : ∃ t, t = Crc.turned q := ⟨_, rfl⟩
      have htl : t < 4294967296 := by rw [ht]; exact Crc.turned_lt (by omega)
      rw [← ht] at hcell
      obtain ⟨d, hd⟩ : ∃ d, d = c / 256 ^^^ t := ⟨_, rfl⟩
      have hx : bits .xor .u32 ((c : Int) / 256) (t : Int) = (d : Int) := by
        rw [hd]; exact xor_u32 (c / 256) t (by omega) htl
      have hs1 : Crc.sumOn Crc.start (s.data.toList.take (k + 1)) = d := by
        rw [hts, Crc.sumOn_snoc, ← hc, byte_turn]
        show c / 256 ^^^ Crc.turned ((c ^^^ s[k].toNat) % 256) = d
        rw [← hq, ← ht, hd]
      have HC := Lib.hid hs1
      rw [← hc]
      have hki : (k : Int) < (s.size : Int) := by omega
      clear hs1 hts hc hd ht hq
      go_wp2_with fail
      go_quiet (fail)
      go_wp2
      go_roundw
      case rel => exact ⟨k + 1, by omega, by go_num, by rw [HC.out], _, rfl⟩
      case measure => simp [intOf]; omega
    · have hlast : s.data.toList.take k = s.data.toList := List.take_of_length_le (by simp; omega)
      have hn := not_u32 c hcl
      have HL := Lib.hid (show Crc.sum s.data.toList = Crc.fin c from by rw [hc, hlast]; rfl)
      rw [← hc]
      clear hc hlast
      go_wp2
      go_ret
      exact ⟨by rw [HL.out]; rfl, HB.out, ob.drewN _⟩
end Go.Proofs.YthmnffiiondggaaDoor
