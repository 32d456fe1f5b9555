/- Walks over package code and the document's own answers: numbers as bytes. -/
import Derived.Test.YteagmdnpajalgaaCodeA
import Derived.Test.YteagmdnpajalgaaPlainScan
import Derived.BigQuiet
import Derived.Deep.QuietTactic
import Derived.Deep.RegionWith
import Derived.WalkSpells
import Derived.WalkLawsBesides
namespace Go.Proofs.Yteagmdnpajalgaa
open Go.RowKit

def bs (l : List UInt8) : ByteArray := ⟨l.toArray⟩
def be4 (n : Nat) : List UInt8 := [UInt8.ofNat (n / 16777216), UInt8.ofNat (n / 65536), UInt8.ofNat (n / 256), UInt8.ofNat n]
theorem u8_mod (n : Nat) : UInt8.ofNat (n % 256) = UInt8.ofNat n := by
  apply UInt8.toNat_inj.1; simp
theorem run_conv4 (w : World) (a b c d : Int) (cap : Nat) :
    (convert 57 9 (.slice (some ⟨w.heap.size, 0, none⟩) 4 cap)).run Try.prog (w.alloc (.cells #[.int .u8 a, .int .u8 b, .int .u8 c, .int .u8 d] 5)) =
      .ok (.string (strOfNums [a, b, c, d])) (w.alloc (.cells #[.int .u8 a, .int .u8 b, .int .u8 c, .int .u8 d] 5)) := by
  refine run_convert_bytes_arg _ 57 5 Try.underlying57 Try.underlying5 _ _ _ _ [a, b, c, d] rfl ?_ _ Try.underlying9
  intro i hi
  rw [Nat.zero_add, World.cell?_alloc_mark]
  match i, hi with
  | 0, _ => rfl
  | 1, _ => rfl
  | 2, _ => rfl
  | 3, _ => rfl

set_option maxRecDepth 100000 in
theorem short_any (n : Nat) (hn : n < 4294967296) (w : World) :
    Calls Try.prog 31 #[.int .u32 (n : Int)] w fun e w' => e = .returned (.string (bs (be4 n))) ∧ Below w.heap.size w w' := by
  have hcv := run_conv4 w
  have HF := Lib.hid (show strOfNums [(n : Int) / 16777216, (n : Int) / 65536 % 256, (n : Int) / 256 % 256, (n : Int) % 256] = bs (be4 n) from by
    unfold strOfNums bs be4
    rw [← u8_mod (n / 65536), ← u8_mod (n / 256), ← u8_mod n]
    rfl)
  go_enter Try.func31, Try.ntmps31
  go_wp2
  go_ret
  exact ⟨by rw [← HF.out]; rfl, (Below.refl _ _).alloc (Nat.le_refl _) _⟩
def be8 (n : Nat) : List UInt8 := [UInt8.ofNat (n / 72057594037927936), UInt8.ofNat (n / 281474976710656), UInt8.ofNat (n / 1099511627776), UInt8.ofNat (n / 4294967296), UInt8.ofNat (n / 16777216), UInt8.ofNat (n / 65536), UInt8.ofNat (n / 256), UInt8.ofNat n]
theorem u8_eq {a b : Nat} (h : a % 256 = b % 256) : UInt8.ofNat a = UInt8.ofNat b := by rw [← u8_mod a, ← u8_mod b, h]
theorem be8_split (n : Nat) : be4 (n / 4294967296) ++ be4 (n % 4294967296) = be8 n := by
  unfold be4 be8
  simp only [List.cons_append, List.nil_append]
  congr 1
  · exact u8_eq (by omega)
  congr 1
  · exact u8_eq (by omega)
  congr 1
  · exact u8_eq (by omega)
  congr 1
  congr 1
  · exact u8_eq (by omega)
  congr 1
  · exact u8_eq (by omega)
  congr 1
  · exact u8_eq (by omega)
  congr 1
  exact u8_eq (by omega)
theorem run_conv8 (w : World) (a b c d a' b' c' d' : Int) (cap : Nat) (T : TypeId) (fr : Nat × Nat) :
    (convert 57 9 (.slice (some ⟨w.heap.size, 0, none⟩) 8 cap)).run Try.prog (w.alloc (.cells #[.int .u8 a, .int .u8 b, .int .u8 c, .int .u8 d, .int .u8 a', .int .u8 b', .int .u8 c', .int .u8 d'] T fr)) =
      .ok (.string (strOfNums [a, b, c, d, a', b', c', d'])) (w.alloc (.cells #[.int .u8 a, .int .u8 b, .int .u8 c, .int .u8 d, .int .u8 a', .int .u8 b', .int .u8 c', .int .u8 d'] T fr)) := by
  refine run_convert_bytes_arg _ 57 5 Try.underlying57 Try.underlying5 _ _ _ _ [a, b, c, d, a', b', c', d'] rfl ?_ _ Try.underlying9
  intro i hi
  rw [Nat.zero_add, World.cell?_alloc_mark]
  match i, hi with
  | 0, _ => rfl
  | 1, _ => rfl
  | 2, _ => rfl
  | 3, _ => rfl
  | 4, _ => rfl
  | 5, _ => rfl
  | 6, _ => rfl
  | 7, _ => rfl
set_option maxRecDepth 100000 in
theorem num_any (n : Nat) (hn : n < 18446744073709551616) (w : World) :
    Calls Try.prog 34 #[.int .u64 (n : Int)] w fun e w' => e = .returned (.string (bs (be8 n))) ∧ Below w.heap.size w w' := by
  have hcv := run_conv8 w
  have HF := Lib.hid (show strOfNums [(n : Int) / 72057594037927936, (n : Int) / 281474976710656 % 256, (n : Int) / 1099511627776 % 256, (n : Int) / 4294967296 % 256, (n : Int) / 16777216 % 256, (n : Int) / 65536 % 256, (n : Int) / 256 % 256, (n : Int) % 256] = bs (be8 n) from by
    unfold strOfNums bs be8
    rw [← u8_mod (n / 281474976710656), ← u8_mod (n / 1099511627776), ← u8_mod (n / 4294967296), ← u8_mod (n / 16777216), ← u8_mod (n / 65536), ← u8_mod (n / 256), ← u8_mod n]
    rfl)
  go_enter Try.func34, Try.ntmps34
  go_wp2_with fail
  go_rounds 9
  go_ret
  exact ⟨by rw [← HF.out]; rfl, (Below.refl _ _).alloc (Nat.le_refl _) _⟩
theorem bs_append (a b : List UInt8) : bs a ++ bs b = bs (a ++ b) := by
  show ByteArray.append _ _ = _
  apply ByteArray.ext
  simp [bs]
theorem bs_size (l : List UInt8) : (bs l).size = l.length := by simp [bs, ByteArray.size]
theorem be4_size (n : Nat) : (bs (be4 n)).size = 4 := rfl
theorem be8_size (n : Nat) : (bs (be8 n)).size = 8 := rfl
theorem short_at (x : Int) (n : Nat) (hx : x = n) (hn : n < 4294967296) (w : World) :
    Calls Try.prog 31 #[.int .u32 x] w fun e w' => e = .returned (.string (bs (be4 n))) ∧ Below w.heap.size w w' := by
  subst hx; exact short_any n hn w
/-- The number of eight bytes. -/
def rd (l : List UInt8) : Nat := l.foldl (fun n b => n * 256 + b.toNat) 0
theorem or_step64 (n : Nat) (b : UInt8) (h : n < 72057594037927936) : bits .or .u64 (IntKind.u64.wrap ((n : Int) * 256)) (IntKind.u64.wrap (b.toNat : Int)) = ((n * 256 + b.toNat : Nat) : Int) := by
  have hb := b.toNat_lt
  rw [IntKind.wrap_u64, IntKind.wrap_u64, show ((n : Int) * 256) % 18446744073709551616 = ((n * 256 : Nat) : Int) from by omega, show ((b.toNat : Nat) : Int) % 18446744073709551616 = (b.toNat : Int) from by omega]
  rw [bits_or_u64_nat _ _ (by omega) (by omega)]
  have := Nat.two_pow_add_eq_or_of_lt (i := 8) (b := b.toNat) (by omega) n
  rw [show 2 ^ 8 * n = n * 256 from by omega] at this
  rw [← this]
theorem or_step64_0 (b : UInt8) : bits .or .u64 0 (IntKind.u64.wrap (b.toNat : Int)) = ((0 * 256 + b.toNat : Nat) : Int) := or_step64 0 b (by omega)
theorem list8 {l : List UInt8} (h : l.length = 8) : ∃ a b c d e f g i, l = [a, b, c, d, e, f, g, i] := by
  match l, h with
  | [a, b, c, d, e, f, g, i], _ => exact ⟨a, b, c, d, e, f, g, i, rfl⟩
set_option maxRecDepth 100000 in
theorem readNum_yes (s : ByteArray) (h8 : s.size = 8) (w : World) :
    Calls Try.prog 45 #[.string s] w fun e w' => e = .returned (.tuple #[.int .u64 (rd s.data.toList), .int .i64 0]) ∧ w = w' := by
  have t8 : ((s.size : Int) != 8) = false := by rw [h8]; rfl
  have l8 : s.size ≤ 8 := by omega
  have m8 : 8 ≤ s.size := by omega
  have H8 := Lib.hid h8
  clear h8
  obtain ⟨v0, e0⟩ : ∃ v, v = 0 * 256 + s[0].toNat := ⟨_, rfl⟩
  obtain ⟨v1, e1⟩ : ∃ v, v = v0 * 256 + s[1].toNat := ⟨_, rfl⟩
  obtain ⟨v2, e2⟩ : ∃ v, v = v1 * 256 + s[2].toNat := ⟨_, rfl⟩
  obtain ⟨v3, e3⟩ : ∃ v, v = v2 * 256 + s[3].toNat := ⟨_, rfl⟩
  obtain ⟨v4, e4⟩ : ∃ v, v = v3 * 256 + s[4].toNat := ⟨_, rfl⟩
  obtain ⟨v5, e5⟩ : ∃ v, v = v4 * 256 + s[5].toNat := ⟨_, rfl⟩
  obtain ⟨v6, e6⟩ : ∃ v, v = v5 * 256 + s[6].toNat := ⟨_, rfl⟩
  obtain ⟨v7, e7⟩ : ∃ v, v = v6 * 256 + s[7].toNat := ⟨_, rfl⟩
  have b0 := s[0].toNat_lt
  have b1 := s[1].toNat_lt
  have b2 := s[2].toNat_lt
  have b3 := s[3].toNat_lt
  have b4 := s[4].toNat_lt
  have b5 := s[5].toNat_lt
  have b6 := s[6].toNat_lt
  have HS := Lib.hid (show rd s.data.toList = v7 from by
    obtain ⟨a, b, c, d, e, f, g, i, hl⟩ := list8 (l := s.data.toList) (by rw [Array.length_toList]; exact H8.out)
    obtain rfl : s = ⟨#[a, b, c, d, e, f, g, i]⟩ := ByteArray.ext (Array.toList_inj.1 hl)
    rw [e7, e6, e5, e4, e3, e2, e1, e0]; rfl)
  have r0 := or_step64_0 s[0]
  rw [← e0] at r0
  have r1 := or_step64 v0 s[1] (by omega)
  rw [← e1] at r1
  have r2 := or_step64 v1 s[2] (by omega)
  rw [← e2] at r2
  have r3 := or_step64 v2 s[3] (by omega)
  rw [← e3] at r3
  have r4 := or_step64 v3 s[4] (by omega)
  rw [← e4] at r4
  have r5 := or_step64 v4 s[5] (by omega)
  rw [← e5] at r5
  have r6 := or_step64 v5 s[6] (by omega)
  rw [← e6] at r6
  have r7 := or_step64 v6 s[7] (by omega)
  rw [← e7] at r7
  clear b0 b1 b2 b3 b4 b5 b6 e0 e1 e2 e3 e4 e5 e6 e7
  go_enter Try.func45, Try.ntmps45
  go_wp2_with fail
  go_rounds 9
  go_ret2
  exact ⟨by rw [HS.out]; rfl, rfl⟩
theorem readNum_no (s : ByteArray) (h8 : s.size ≠ 8) (w : World) :
    Calls Try.prog 45 #[.string s] w fun e w' => e = .returned (.tuple #[.int .u64 0, .int .i64 3]) ∧ w = w' := by
  have t8 : ((s.size : Int) != 8) = true := by rw [bne_iff_ne]; omega
  clear h8
  go_enter Try.func45, Try.ntmps45
  go_wp2_with fail
  go_ret2
  exact ⟨rfl, rfl⟩
theorem rd4_lt (a b c d : UInt8) : rd4 a b c d < 4294967296 := by
  have := a.toNat_lt; have := b.toNat_lt; have := c.toNat_lt; have := d.toNat_lt
  unfold rd4; omega
theorem rdS_lt (l : List UInt8) : rdS l < 4294967296 := by
  unfold rdS; split
  · exact rd4_lt _ _ _ _
  · omega
theorem or_rd4 (a b c d : UInt8) :
    bits .or .u32 (bits .or .u32 (bits .or .u32 ((a.toNat : Int) % 4294967296 * 16777216 % 4294967296) ((b.toNat : Int) % 4294967296 * 65536 % 4294967296)) ((c.toNat : Int) % 4294967296 * 256 % 4294967296)) ((d.toNat : Int) % 4294967296) = (rd4 a b c d : Int) := by
  have ha := a.toNat_lt; have hb := b.toNat_lt; have hc := c.toNat_lt; have hd := d.toNat_lt
  rw [show ((a.toNat : Int) % 4294967296 * 16777216 % 4294967296) = ((a.toNat * 16777216 : Nat) : Int) from by omega,
    show ((b.toNat : Int) % 4294967296 * 65536 % 4294967296) = ((b.toNat * 65536 : Nat) : Int) from by omega,
    show ((c.toNat : Int) % 4294967296 * 256 % 4294967296) = ((c.toNat * 256 : Nat) : Int) from by omega,
    show ((d.toNat : Int) % 4294967296) = (d.toNat : Int) from by omega]
  rw [or_u32 _ _ (by omega) (by omega)]
  have h1 := Nat.two_pow_add_eq_or_of_lt (i := 24) (b := b.toNat * 65536) (by omega) a.toNat
  rw [show 2 ^ 24 * a.toNat = a.toNat * 16777216 from by omega] at h1
  rw [← h1, or_u32 _ _ (by omega) (by omega)]
  have h2 := Nat.two_pow_add_eq_or_of_lt (i := 16) (b := c.toNat * 256) (by omega) (a.toNat * 256 + b.toNat)
  rw [show 2 ^ 16 * (a.toNat * 256 + b.toNat) = a.toNat * 16777216 + b.toNat * 65536 from by omega] at h2
  rw [← h2, or_u32 _ _ (by omega) (by omega)]
  have h3 := Nat.two_pow_add_eq_or_of_lt (i := 8) (b := d.toNat) (by omega) ((a.toNat * 256 + b.toNat) * 256 + c.toNat)
  rw [show 2 ^ 8 * ((a.toNat * 256 + b.toNat) * 256 + c.toNat) = a.toNat * 16777216 + b.toNat * 65536 + c.toNat * 256 from by omega] at h3
  rw [← h3]
  unfold rd4
  omega
theorem rdS_of (s : ByteArray) (h4 : 4 ≤ s.size) : rd4 s[0] s[1] s[2] s[3] = rdS s.data.toList := by
  obtain ⟨⟨l⟩⟩ := s
  match l, h4 with
  | a :: b :: c :: d :: l, _ => rfl
theorem readShort_any (s : ByteArray) (hs : s.size ≤ maxLen) (h4 : 4 ≤ s.size) (w : World) :
    Calls Try.prog 42 #[.string s] w fun e w' => e = .returned (.int .u32 (rdS s.data.toList)) ∧ ∃ n, w' = w.drewN n := by
  unfold maxLen at hs
  have h0 : (0 : Int) < (s.size : Int) := by omega
  have h1 : (1 : Int) < (s.size : Int) := by omega
  have h2 : (2 : Int) < (s.size : Int) := by omega
  have h3 : (3 : Int) < (s.size : Int) := by omega
  have g0 : 0 < s.size := by omega
  have g1 : 1 < s.size := by omega
  have g2 : 2 < s.size := by omega
  have g3 : 3 < s.size := by omega
  have HS := Lib.hid (rdS_of s h4)
  have HO := or_rd4 s[0] s[1] s[2] s[3]
  obtain ⟨r, hr⟩ : ∃ r, r = rd4 s[0] s[1] s[2] s[3] := ⟨_, rfl⟩
  rw [← hr] at HS HO
  clear hr
  go_enter Try.func42, Try.ntmps42
  go_wp2
  go_quiet (fail)
  go_wp2
  go_ret
  exact ⟨by rw [← HS.out]; rfl, _, rfl⟩
end Go.Proofs.Yteagmdnpajalgaa
