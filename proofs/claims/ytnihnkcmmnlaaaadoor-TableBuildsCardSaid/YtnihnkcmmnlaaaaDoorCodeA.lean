/- Walks over package code: the sums. -/
import Derived.Test.YtnihnkcmmnlaaaaDoorChecked
import Derived.Test.YtnihnkcmmnlaaaaDoorPlainCrc
import Derived.WalkKit
import Derived.Handy
import Derived.Lib.Hide
namespace Go.Proofs.YtnihnkcmmnlaaaaDoor
open Go.RowKit

theorem and_u32 (a b : Nat) (ha : a < 4294967296) (hb : b < 4294967296) : bits .and .u32 (a : Int) (b : Int) = ((a &&& b : Nat) : Int) :=
  (bits_nat .u32 32 (by decide) (fun n h0 h1 => by rw [IntKind.wrap_u32]; omega) a b ha hb).1
theorem or_u32 (a b : Nat) (ha : a < 4294967296) (hb : b < 4294967296) : bits .or .u32 (a : Int) (b : Int) = ((a ||| b : Nat) : Int) :=
  (bits_nat .u32 32 (by decide) (fun n h0 h1 => by rw [IntKind.wrap_u32]; omega) a b ha hb).2
theorem xor_u32 (a b : Nat) (ha : a < 4294967296) (hb : b < 4294967296) : bits .xor .u32 (a : Int) (b : Int) = ((a ^^^ b : Nat) : Int) := by
  have h1 : (BitVec.ofInt 32 (a : Int)).toNat = a := by
    rw [BitVec.ofInt_natCast, BitVec.toNat_ofNat]; exact Nat.mod_eq_of_lt (by omega)
  have h2 : (BitVec.ofInt 32 (b : Int)).toNat = b := by
    rw [BitVec.ofInt_natCast, BitVec.toNat_ofNat]; exact Nat.mod_eq_of_lt (by omega)
  show IntKind.u32.wrap ((BitVec.ofInt 32 (a : Int) ^^^ BitVec.ofInt 32 (b : Int)).toNat : Int) = _
  have hx := Crc.xor_lt ha hb
  rw [BitVec.toNat_xor, h1, h2, IntKind.wrap_u32]
  omega

/-- The short table of package code lies where the program laid it. -/
def Halves (w : World) : Prop := ∀ k : Nat, k < 16 → w.cell? ⟨1, k, none⟩ = some (.int .u32 (Crc.halfT k : Nat))

theorem turned_any (n : Nat) (hn : n < 4294967296) (w : World) (hH : Halves w) :
    Calls Tryd.prog 56 #[.int .u32 (n : Int)] w fun e w' => e = .returned (.int .u32 (Crc.turned n : Nat)) ∧ w = w' := by
  obtain ⟨k1, hk1⟩ : ∃ k, k = n % 16 := ⟨_, rfl⟩
  have a1 : bits .and .u32 (n : Int) 15 = (k1 : Int) := by
    rw [hk1]
    have := and_u32 n 15 hn (by decide)
    rw [show n &&& 15 = n % 16 from Nat.and_two_pow_sub_one_eq_mod n 4] at this
    exact this
  have c1 := hH k1 (by omega)
  obtain ⟨t1, ht1⟩ : ∃ t, t = Crc.halfT k1 := ⟨_, rfl⟩
  have ht1l : t1 < 4294967296 := by rw [ht1]; exact Crc.halfT_lt _
  rw [← ht1] at c1
  obtain ⟨m, hm⟩ : ∃ m, m = Crc.half n := ⟨_, rfl⟩
  have hml : m < 4294967296 := by rw [hm]; exact Crc.half_lt hn
  have x1 : bits .xor .u32 ((n : Int) / 16) (t1 : Int) = (m : Int) := by
    have := xor_u32 (n / 16) t1 (by omega) ht1l
    rw [hm]; unfold Crc.half; rw [← hk1, ← ht1, ← this]; rfl
  obtain ⟨k2, hk2⟩ : ∃ k, k = m % 16 := ⟨_, rfl⟩
  have a2 : bits .and .u32 (m : Int) 15 = (k2 : Int) := by
    rw [hk2]
    have := and_u32 m 15 hml (by decide)
    rw [show m &&& 15 = m % 16 from Nat.and_two_pow_sub_one_eq_mod m 4] at this
    exact this
  have c2 := hH k2 (by omega)
  obtain ⟨t2, ht2⟩ : ∃ t, t = Crc.halfT k2 := ⟨_, rfl⟩
  have ht2l : t2 < 4294967296 := by rw [ht2]; exact Crc.halfT_lt _
  rw [← ht2] at c2
  obtain ⟨r, hr⟩ : ∃ r, r = Crc.turned n := ⟨_, rfl⟩
  have x2 : bits .xor .u32 ((m : Int) / 16) (t2 : Int) = (r : Int) := by
    have := xor_u32 (m / 16) t2 (by omega) ht2l
    rw [hr]; unfold Crc.turned; rw [← hm]; unfold Crc.half; rw [← hk2, ← ht2, ← this]; rfl
  have HR := Lib.hid hr
  have hk1l : k1 < 16 := by omega
  have hk2l : k2 < 16 := by omega
  clear hr hk1 hk2 hm ht1 ht2 hH
  go_enter Tryd.func56, Tryd.ntmps56
  go_wp2
  go_ret
  exact ⟨by rw [← HR.out]; rfl, rfl⟩

theorem take_snoc (l : List UInt8) (k : Nat) (h : k < l.length) : l.take (k + 1) = l.take k ++ [l[k]] := by
  rw [List.take_succ_eq_append_getElem h]

theorem sumOn_any (n : Nat) (hn : n < 4294967296) (s : ByteArray) (hs : s.size ≤ maxLen) (w : World) (hH : Halves w) :
    Calls Tryd.prog 53 #[.int .u32 (n : Int), .string s] w fun e w' => e = .returned (.int .u32 (Crc.sumOn n s.data.toList : Nat)) ∧ w = w' := by
  unfold maxLen at hs
  go_enter Tryd.func53, Tryd.ntmps53
  go_wp2_with fail
  go_loop [0, 8] (fun c i => ∃ k : Nat, k ≤ s.size ∧ i = .int .i64 k ∧ c = .int .u32 (Crc.sumOn n (s.data.toList.take k) : Nat)) (fun _ i => s.size - (intOf i).toNat)
  case atStart => exact ⟨0, Nat.zero_le _, rfl, rfl⟩
  case round =>
    obtain ⟨k, hk, rfl, rfl⟩ := hrel
    obtain ⟨c, hc⟩ : ∃ c, c = Crc.sumOn n (s.data.toList.take k) := ⟨_, rfl⟩
    have hcl : c < 4294967296 := by rw [hc]; exact Crc.sumOn_lt _ hn
    by_cases hlt : k < s.size
    · have hts := take_snoc s.data.toList k (by simpa using hlt)
      have hbn : s[k].toNat < 256 := s[k].toNat_lt
      obtain ⟨d, hd⟩ : ∃ d, d = c ^^^ s[k].toNat := ⟨_, rfl⟩
      have hdl : d < 4294967296 := by rw [hd]; exact Crc.xor_lt hcl (by omega)
      have hx : bits .xor .u32 (c : Int) ((s[k].toNat : Int) % 4294967296) = (d : Int) := by
        rw [show ((s[k].toNat : Int) % 4294967296) = (s[k].toNat : Int) from by omega, hd]
        exact xor_u32 c _ hcl (by omega)
      have hs1 : Crc.sumOn n (s.data.toList.take (k + 1)) = Crc.turned d := by
        rw [hts, Crc.sumOn_snoc, ← hc, hd]; rfl
      have HC := Lib.hid hs1
      rw [← hc]
      clear hs1 hts hc hd hbn
      go_wp2_with (go_at_call 56; refine (turned_any d hdl _ hH).mono ?_; rintro e w' ⟨rfl, rfl⟩)
      go_round
      case rel => exact ⟨k + 1, by omega, by go_num, by rw [HC.out]⟩
      case measure => simp [intOf]; omega
    · have hlast : s.data.toList.take k = s.data.toList := List.take_of_length_le (by simp; omega)
      have HC := Lib.hid hc
      have HL := Lib.hid hlast
      rw [← hc]
      clear hc hlast
      go_wp2
      go_ret
      exact ⟨by rw [← HL.out, ← HC.out]; rfl, rfl⟩

theorem not_u32 (n : Nat) (hn : n < 4294967296) : bits .xor .u32 IntKind.u32.max (n : Int) = (Crc.fin n : Int) := by
  have := xor_u32 4294967295 n (by decide) hn
  rw [Nat.xor_comm] at this
  exact this

end Go.Proofs.YtnihnkcmmnlaaaaDoor
